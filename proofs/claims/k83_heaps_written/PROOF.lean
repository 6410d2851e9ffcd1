import PyProof.Rows.All
import Wide.All
import OpenK.AllK
import Wide.FinOn
import Lean
import PyProof.EqAt
import PyProof.EqKinds
import PyProof.TupleCall
import PyProof.ZipIter
import PyProof.Draws
import PyProof.CompFree
import PyProof.NeKinds
import PyProof.NsDelKeeps
import PyProof.ExcArgsOwn
import PyProof.ExcAttrAll.ValueError
import KE.KSortTup
import KE.KIntText
import PyProof.FitsReplace
import PyProof.StrWalks
import PySem.Challenge.RW_scissorhall_k83_heaps_written
set_option Elab.async false
set_option maxRecDepth 100000
set_option maxHeartbeats 0
namespace L2
open PySem
def gK (s:Stmt):Arguments:=match s with
 | .FunctionDef _ a _ _ _ _ _ _ _ _=>a
 | _=>{ posonlyargs:=[],args:=[],vararg:=none,kwonlyargs:=[],kw_defaults:=[],kwarg:=none,defaults:=[] }
def eT (s:Stmt):List Stmt:=match s with
 | .FunctionDef _ _ b _ _ _ _ _ _ _=>b
 | _=>[]
def aX (s:Stmt):Scope:=match s with
 | .FunctionDef _ _ _ _ _ _ sc _ _ _=>sc
 | _=>{ kind:=.function,names:=[],isGenerator:=false,isCoroutine:=false }
end L2
namespace Sc
noncomputable section
open PySem L2
def top (i:Nat):Stmt:=PySem.Challenge.pw_scissorhall_k83_heaps_written.main.body.getD i (.Pass ⟨0,0,0,0⟩)
abbrev vs (s:String) (t:Nat):Value:=.str (Str.ofString s) t
abbrev vi (i:Int):Value:=.int i 0
abbrev vr (a:Nat):Value:=.ref a
abbrev fo (n:String) (i:Nat) (dV dc pm cd ct:Value):Obj:=⟨.type "function",none,.func (PySem.W.fnOf (Str.ofString n) (Str.ofString n) (gK (top i)) (eT (top i)) (aX (top i)) dV .none dc pm none cd ct),#[]⟩
abbrev fc (l:List Value):Obj:=⟨.type "code",none,.fields l.toArray,#[]⟩
abbrev fd (P:Params) (n:Nat) (l:List (String × Nat × Value)):Obj:=⟨.type "dict",none,.dict (l.map fun e=>⟨PyData.keyHash P (Str.ofString e.1),.str (Str.ofString e.1) e.2.1,e.2.2⟩).toArray n,#[]⟩
def KK (P:Params):PySem.W.Frag :=
 (nat_lit 3,fd P 69 [("__name__",165,vs "law_scissorhall_k83_heaps_written" 484),("__doc__",166,.none),("__package__",167,.none),("__loader__",168,(.builtin "__main__.__loader__#opaque")),("__spec__",169,.none),("__annotations__",170,vr 6),("__builtins__",171,vr 4),("__file__",173,vs "/claim/cut.py" 172),("__cached__",174,.none),("HallError",206,vr 24),("NoNumber",222,vr 37),("NoPoint",238,vr 49),("Flat",254,vr 61),("NoText",270,vr 73),("TooGreat",286,vr 85),("sign",295,vr 94),("divisor",304,vr 101),("reduced",310,vr 106),("fraction",320,vr 114),("point",329,vr 120),("measures",335,vr 125),("point_at",341,vr 130),("whole_arrow",347,vr 135),("dot",353,vr 140),("normal",362,vr 147),("determinant",368,vr 152),("side",375,vr 159),("simplex",386,vr 166),("FIGURES",390,vs "0123456789" 389),("MOST_FIGURES",392,(.int 60 391)),("NOTHING",394,vs "none" 393),("shown_whole",401,vr 173),("shown_number",409,vr 180),("shown_point",415,vr 185),("shown_simplex",421,vr 190),("shown_rows",428,vr 197),("shown_heap",434,vr 202),("refuse_unless",441,vr 209),("read_whole",447,vr 214),("read_number",458,vr 221),("read_point",464,vr 226),("read_corners",470,vr 231),("read_rows",477,vr 238),("read_heap",483,vr 243),("_law_row",498,vr 250),("_law_take",507,vr 257),("_law_gcd",515,vr 264),("_law_lowest",521,vr 269),("_law_whole",528,vr 276),("_law_wholes",534,vr 281),("_law_frac",542,vr 288),("_law_gap",548,vr 293),("_law_cross",559,vr 300),("_law_dot",565,vr 305),("_law_turn",572,vr 312),("_law_det",578,vr 317),("_law_simplex",586,vr 324),("_law_point_form",594,vr 331),("_law_simplex_form",600,vr 336),("_law_heap_form",606,vr 341),("_law_handed",614,vr 348),("_law_written",622,vr 355),("_law_point_text",628,vr 360),("_law_points_text",634,vr 365),("_law_heap_text",640,vr 370),("_law_great_heap",646,vr 375),("_law_small_heap",652,vr 380),("_law_once",665,vr 387),("law",673,vr 394)]) ::
 (nat_lit 23,fd P 3 [("__module__",196,vs "scissorhall.errors" 187),("__firstlineno__",200,(.int 2 199)),("__static_attributes__",201,vr 22),("__weakref__",203,vr 25),("__doc__",204,.none)]) ::
 (nat_lit 24,⟨(.type "type"),none,.cls { name:="HallError",bases:=[(.type "ValueError")],mro:=[vr 24,(.type "ValueError"),(.type "Exception"),(.type "BaseException"),(.type "object")],ns:=23,qualname:="HallError",hasDict:=true,subclasses:=[vr 37,vr 49,vr 61,vr 73,vr 85] },#[some (vr 15),none,some (vs "HallError" 189),some (vs "HallError" 197),some (.builtin "ValueError.__new__"),some (.bool true)]⟩) ::
 (nat_lit 36,fd P 2 [("__module__",214,vs "scissorhall.errors" 187),("__firstlineno__",218,(.int 4 217)),("__static_attributes__",219,vr 35),("__doc__",220,.none)]) ::
 (nat_lit 37,⟨(.type "type"),none,.cls { name:="NoNumber",bases:=[vr 24],mro:=[vr 37,vr 24,(.type "ValueError"),(.type "Exception"),(.type "BaseException"),(.type "object")],ns:=36,qualname:="NoNumber",hasDict:=true,subclasses:=[] },#[some (vr 28),none,some (vs "NoNumber" 207),some (vs "NoNumber" 215),some (.builtin "ValueError.__new__"),some (.bool true)]⟩) ::
 (nat_lit 48,fd P 2 [("__module__",230,vs "scissorhall.errors" 187),("__firstlineno__",234,(.int 6 233)),("__static_attributes__",235,vr 47),("__doc__",236,.none)]) ::
 (nat_lit 49,⟨(.type "type"),none,.cls { name:="NoPoint",bases:=[vr 24],mro:=[vr 49,vr 24,(.type "ValueError"),(.type "Exception"),(.type "BaseException"),(.type "object")],ns:=48,qualname:="NoPoint",hasDict:=true,subclasses:=[] },#[some (vr 40),none,some (vs "NoPoint" 223),some (vs "NoPoint" 231),some (.builtin "ValueError.__new__"),some (.bool true)]⟩) ::
 (nat_lit 60,fd P 2 [("__module__",246,vs "scissorhall.errors" 187),("__firstlineno__",250,(.int 8 249)),("__static_attributes__",251,vr 59),("__doc__",252,.none)]) ::
 (nat_lit 61,⟨(.type "type"),none,.cls { name:="Flat",bases:=[vr 24],mro:=[vr 61,vr 24,(.type "ValueError"),(.type "Exception"),(.type "BaseException"),(.type "object")],ns:=60,qualname:="Flat",hasDict:=true,subclasses:=[] },#[some (vr 52),none,some (vs "Flat" 239),some (vs "Flat" 247),some (.builtin "ValueError.__new__"),some (.bool true)]⟩) ::
 (nat_lit 72,fd P 2 [("__module__",262,vs "scissorhall.errors" 187),("__firstlineno__",266,(.int 10 265)),("__static_attributes__",267,vr 71),("__doc__",268,.none)]) ::
 (nat_lit 73,⟨(.type "type"),none,.cls { name:="NoText",bases:=[vr 24],mro:=[vr 73,vr 24,(.type "ValueError"),(.type "Exception"),(.type "BaseException"),(.type "object")],ns:=72,qualname:="NoText",hasDict:=true,subclasses:=[] },#[some (vr 64),none,some (vs "NoText" 255),some (vs "NoText" 263),some (.builtin "ValueError.__new__"),some (.bool true)]⟩) ::
 (nat_lit 84,fd P 2 [("__module__",278,vs "scissorhall.errors" 187),("__firstlineno__",282,(.int 12 281)),("__static_attributes__",283,vr 83),("__doc__",284,.none)]) ::
 (nat_lit 85,⟨(.type "type"),none,.cls { name:="TooGreat",bases:=[vr 24],mro:=[vr 85,vr 24,(.type "ValueError"),(.type "Exception"),(.type "BaseException"),(.type "object")],ns:=84,qualname:="TooGreat",hasDict:=true,subclasses:=[] },#[some (vr 76),none,some (vs "TooGreat" 271),some (vs "TooGreat" 279),some (.builtin "ValueError.__new__"),some (.bool true)]⟩) ::
 (nat_lit 93,fc [vs "sign" 289,vs "sign" 290,vs "/claim/cut.py" 291,vi 15,vi 1,vi 0,vi 0,vi 3,vr 88,(.bool true),vi 181,vr 89,.none,vr 90,vr 91,vr 92,vi 293,vi 15,vs "/claim/cut.py" 294]) ::
 (nat_lit 94,fo "sign" 8 .none .none (vs "scissorhall.lowest" 287) (vr 93) .none) ::
 (nat_lit 100,fc [vs "divisor" 296,vs "divisor" 297,vs "/claim/cut.py" 298,vi 21,vi 2,vi 0,vi 0,vi 3,vr 95,(.bool true),vi 181,vr 96,.none,vr 97,vr 98,vr 99,vi 302,vi 21,vs "/claim/cut.py" 303]) ::
 (nat_lit 101,fo "divisor" 9 .none .none (vs "scissorhall.lowest" 287) (vr 100) .none) ::
 (nat_lit 105,fc [vs "reduced" 305,vs "reduced" 306,vs "/claim/cut.py" 307,vi 27,vi 1,vi 0,vi 0,vi 3,vr 102,(.bool true),vi 181,vr 103,.none,.none,.none,vr 104,vi 308,vi 27,vs "/claim/cut.py" 309]) ::
 (nat_lit 106,fo "reduced" 10 .none .none (vs "scissorhall.lowest" 287) (vr 105) .none) ::
 (nat_lit 107,⟨.type "tuple",none,.seq #[(.int 1 311)] 0,#[]⟩) ::
 (nat_lit 113,fc [vs "fraction" 312,vs "fraction" 313,vs "/claim/cut.py" 314,vi 32,vi 2,vi 0,vi 0,vi 3,vr 108,(.bool true),vi 181,vr 109,.none,vr 110,vr 111,vr 112,vi 318,vi 32,vs "/claim/cut.py" 319]) ::
 (nat_lit 114,fo "fraction" 11 (vr 107) .none (vs "scissorhall.lowest" 287) (vr 113) .none) ::
 (nat_lit 115,⟨.type "tuple",none,.seq #[(.int 1 323)] 0,#[]⟩) ::
 (nat_lit 119,fc [vs "point" 324,vs "point" 325,vs "/claim/cut.py" 326,vi 38,vi 2,vi 0,vi 0,vi 3,vr 116,(.bool true),vi 181,vr 117,.none,.none,.none,vr 118,vi 327,vi 38,vs "/claim/cut.py" 328]) ::
 (nat_lit 120,fo "point" 13 (vr 115) .none (vs "scissorhall.points" 321) (vr 119) .none) ::
 (nat_lit 124,fc [vs "measures" 330,vs "measures" 331,vs "/claim/cut.py" 332,vi 42,vi 1,vi 0,vi 0,vi 3,vr 121,(.bool true),vi 181,vr 122,.none,.none,.none,vr 123,vi 333,vi 42,vs "/claim/cut.py" 334]) ::
 (nat_lit 125,fo "measures" 14 .none .none (vs "scissorhall.points" 321) (vr 124) .none) ::
 (nat_lit 129,fc [vs "point_at" 336,vs "point_at" 337,vs "/claim/cut.py" 338,vi 44,vi 1,vi 0,vi 0,vi 3,vr 126,(.bool true),vi 181,vr 127,.none,.none,.none,vr 128,vi 339,vi 44,vs "/claim/cut.py" 340]) ::
 (nat_lit 130,fo "point_at" 15 .none .none (vs "scissorhall.points" 321) (vr 129) .none) ::
 (nat_lit 134,fc [vs "whole_arrow" 342,vs "whole_arrow" 343,vs "/claim/cut.py" 344,vi 49,vi 2,vi 0,vi 0,vi 3,vr 131,(.bool true),vi 181,vr 132,.none,.none,.none,vr 133,vi 345,vi 49,vs "/claim/cut.py" 346]) ::
 (nat_lit 135,fo "whole_arrow" 16 .none .none (vs "scissorhall.points" 321) (vr 134) .none) ::
 (nat_lit 139,fc [vs "dot" 348,vs "dot" 349,vs "/claim/cut.py" 350,vi 51,vi 2,vi 0,vi 0,vi 3,vr 136,(.bool true),vi 181,vr 137,.none,.none,.none,vr 138,vi 351,vi 51,vs "/claim/cut.py" 352]) ::
 (nat_lit 140,fo "dot" 17 .none .none (vs "scissorhall.points" 321) (vr 139) .none) ::
 (nat_lit 146,fc [vs "normal" 354,vs "normal" 355,vs "/claim/cut.py" 356,vi 53,vi 1,vi 0,vi 0,vi 3,vr 141,(.bool true),vi 181,vr 142,.none,vr 143,vr 144,vr 145,vi 360,vi 53,vs "/claim/cut.py" 361]) ::
 (nat_lit 147,fo "normal" 18 .none .none (vs "scissorhall.points" 321) (vr 146) .none) ::
 (nat_lit 151,fc [vs "determinant" 363,vs "determinant" 364,vs "/claim/cut.py" 365,vi 59,vi 1,vi 0,vi 0,vi 3,vr 148,(.bool true),vi 181,vr 149,.none,.none,.none,vr 150,vi 366,vi 59,vs "/claim/cut.py" 367]) ::
 (nat_lit 152,fo "determinant" 19 .none .none (vs "scissorhall.points" 321) (vr 151) .none) ::
 (nat_lit 158,fc [vs "side" 369,vs "side" 370,vs "/claim/cut.py" 371,vi 62,vi 1,vi 0,vi 0,vi 3,vr 153,(.bool true),vi 181,vr 154,.none,vr 155,vr 156,vr 157,vi 373,vi 62,vs "/claim/cut.py" 374]) ::
 (nat_lit 159,fo "side" 20 .none .none (vs "scissorhall.points" 321) (vr 158) .none) ::
 (nat_lit 165,fc [vs "simplex" 378,vs "simplex" 379,vs "/claim/cut.py" 380,vi 65,vi 1,vi 0,vi 0,vi 3,vr 160,(.bool true),vi 181,vr 161,.none,vr 162,vr 163,vr 164,vi 384,vi 65,vs "/claim/cut.py" 385]) ::
 (nat_lit 166,fo "simplex" 22 .none .none (vs "scissorhall.simplexes" 376) (vr 165) .none) ::
 (nat_lit 172,fc [vs "shown_whole" 395,vs "shown_whole" 396,vs "/claim/cut.py" 397,vi 77,vi 1,vi 0,vi 0,vi 3,vr 167,(.bool true),vi 181,vr 168,.none,vr 169,vr 170,vr 171,vi 399,vi 77,vs "/claim/cut.py" 400]) ::
 (nat_lit 173,fo "shown_whole" 27 .none .none (vs "scissorhall.texts" 387) (vr 172) .none) ::
 (nat_lit 179,fc [vs "shown_number" 402,vs "shown_number" 403,vs "/claim/cut.py" 404,vi 81,vi 1,vi 0,vi 0,vi 3,vr 174,(.bool true),vi 181,vr 175,.none,vr 176,vr 177,vr 178,vi 407,vi 81,vs "/claim/cut.py" 408]) ::
 (nat_lit 180,fo "shown_number" 28 .none .none (vs "scissorhall.texts" 387) (vr 179) .none) ::
 (nat_lit 184,fc [vs "shown_point" 410,vs "shown_point" 411,vs "/claim/cut.py" 412,vi 88,vi 1,vi 0,vi 0,vi 3,vr 181,(.bool true),vi 181,vr 182,.none,.none,.none,vr 183,vi 413,vi 88,vs "/claim/cut.py" 414]) ::
 (nat_lit 185,fo "shown_point" 29 .none .none (vs "scissorhall.texts" 387) (vr 184) .none) ::
 (nat_lit 189,fc [vs "shown_simplex" 416,vs "shown_simplex" 417,vs "/claim/cut.py" 418,vi 90,vi 1,vi 0,vi 0,vi 3,vr 186,(.bool true),vi 181,vr 187,.none,.none,.none,vr 188,vi 419,vi 90,vs "/claim/cut.py" 420]) ::
 (nat_lit 190,fo "shown_simplex" 30 .none .none (vs "scissorhall.texts" 387) (vr 189) .none) ::
 (nat_lit 196,fc [vs "shown_rows" 422,vs "shown_rows" 423,vs "/claim/cut.py" 424,vi 92,vi 1,vi 0,vi 0,vi 3,vr 191,(.bool true),vi 181,vr 192,.none,vr 193,vr 194,vr 195,vi 426,vi 92,vs "/claim/cut.py" 427]) ::
 (nat_lit 197,fo "shown_rows" 31 .none .none (vs "scissorhall.texts" 387) (vr 196) .none) ::
 (nat_lit 201,fc [vs "shown_heap" 429,vs "shown_heap" 430,vs "/claim/cut.py" 431,vi 94,vi 1,vi 0,vi 0,vi 3,vr 198,(.bool true),vi 181,vr 199,.none,.none,.none,vr 200,vi 432,vi 94,vs "/claim/cut.py" 433]) ::
 (nat_lit 202,fo "shown_heap" 32 .none .none (vs "scissorhall.texts" 387) (vr 201) .none) ::
 (nat_lit 208,fc [vs "refuse_unless" 435,vs "refuse_unless" 436,vs "/claim/cut.py" 437,vi 96,vi 1,vi 0,vi 0,vi 3,vr 203,(.bool true),vi 181,vr 204,.none,vr 205,vr 206,vr 207,vi 439,vi 96,vs "/claim/cut.py" 440]) ::
 (nat_lit 209,fo "refuse_unless" 33 .none .none (vs "scissorhall.texts" 387) (vr 208) .none) ::
 (nat_lit 213,fc [vs "read_whole" 442,vs "read_whole" 443,vs "/claim/cut.py" 444,vi 99,vi 1,vi 0,vi 0,vi 3,vr 210,(.bool true),vi 181,vr 211,.none,.none,.none,vr 212,vi 445,vi 99,vs "/claim/cut.py" 446]) ::
 (nat_lit 214,fo "read_whole" 34 .none .none (vs "scissorhall.texts" 387) (vr 213) .none) ::
 (nat_lit 220,fc [vs "read_number" 448,vs "read_number" 449,vs "/claim/cut.py" 450,vi 102,vi 1,vi 0,vi 0,vi 3,vr 215,(.bool true),vi 181,vr 216,.none,vr 217,vr 218,vr 219,vi 456,vi 102,vs "/claim/cut.py" 457]) ::
 (nat_lit 221,fo "read_number" 35 .none .none (vs "scissorhall.texts" 387) (vr 220) .none) ::
 (nat_lit 225,fc [vs "read_point" 459,vs "read_point" 460,vs "/claim/cut.py" 461,vi 110,vi 1,vi 0,vi 0,vi 3,vr 222,(.bool true),vi 181,vr 223,.none,.none,.none,vr 224,vi 462,vi 110,vs "/claim/cut.py" 463]) ::
 (nat_lit 226,fo "read_point" 36 .none .none (vs "scissorhall.texts" 387) (vr 225) .none) ::
 (nat_lit 230,fc [vs "read_corners" 465,vs "read_corners" 466,vs "/claim/cut.py" 467,vi 114,vi 1,vi 0,vi 0,vi 3,vr 227,(.bool true),vi 181,vr 228,.none,.none,.none,vr 229,vi 468,vi 114,vs "/claim/cut.py" 469]) ::
 (nat_lit 231,fo "read_corners" 37 .none .none (vs "scissorhall.texts" 387) (vr 230) .none) ::
 (nat_lit 237,fc [vs "read_rows" 471,vs "read_rows" 472,vs "/claim/cut.py" 473,vi 118,vi 1,vi 0,vi 0,vi 3,vr 232,(.bool true),vi 181,vr 233,.none,vr 234,vr 235,vr 236,vi 475,vi 118,vs "/claim/cut.py" 476]) ::
 (nat_lit 238,fo "read_rows" 38 .none .none (vs "scissorhall.texts" 387) (vr 237) .none) ::
 (nat_lit 242,fc [vs "read_heap" 478,vs "read_heap" 479,vs "/claim/cut.py" 480,vi 120,vi 1,vi 0,vi 0,vi 3,vr 239,(.bool true),vi 181,vr 240,.none,.none,.none,vr 241,vi 481,vi 120,vs "/claim/cut.py" 482]) ::
 (nat_lit 243,fo "read_heap" 39 .none .none (vs "scissorhall.texts" 387) (vr 242) .none) ::
 (nat_lit 249,fc [vs "_law_row" 486,vs "_law_row" 487,vs "/claim/cut.py" 488,vi 125,vi 1,vi 0,vi 0,vi 3,vr 244,(.bool true),vi 181,vr 245,.none,vr 246,vr 247,vr 248,vi 496,vi 125,vs "/claim/cut.py" 497]) ::
 (nat_lit 250,fo "_law_row" 41 .none .none (vs "law_scissorhall_k83_heaps_written" 484) (vr 249) .none) ::
 (nat_lit 256,fc [vs "_law_take" 499,vs "_law_take" 500,vs "/claim/cut.py" 501,vi 139,vi 2,vi 0,vi 0,vi 3,vr 251,(.bool true),vi 181,vr 252,.none,vr 253,vr 254,vr 255,vi 505,vi 139,vs "/claim/cut.py" 506]) ::
 (nat_lit 257,fo "_law_take" 42 .none .none (vs "law_scissorhall_k83_heaps_written" 484) (vr 256) .none) ::
 (nat_lit 263,fc [vs "_law_gcd" 508,vs "_law_gcd" 509,vs "/claim/cut.py" 510,vi 147,vi 2,vi 0,vi 0,vi 3,vr 258,(.bool true),vi 181,vr 259,.none,vr 260,vr 261,vr 262,vi 513,vi 147,vs "/claim/cut.py" 514]) ::
 (nat_lit 264,fo "_law_gcd" 43 .none .none (vs "law_scissorhall_k83_heaps_written" 484) (vr 263) .none) ::
 (nat_lit 268,fc [vs "_law_lowest" 516,vs "_law_lowest" 517,vs "/claim/cut.py" 518,vi 153,vi 1,vi 0,vi 0,vi 3,vr 265,(.bool true),vi 181,vr 266,.none,.none,.none,vr 267,vi 519,vi 153,vs "/claim/cut.py" 520]) ::
 (nat_lit 269,fo "_law_lowest" 44 .none .none (vs "law_scissorhall_k83_heaps_written" 484) (vr 268) .none) ::
 (nat_lit 275,fc [vs "_law_whole" 522,vs "_law_whole" 523,vs "/claim/cut.py" 524,vi 160,vi 1,vi 0,vi 0,vi 3,vr 270,(.bool true),vi 181,vr 271,.none,vr 272,vr 273,vr 274,vi 526,vi 160,vs "/claim/cut.py" 527]) ::
 (nat_lit 276,fo "_law_whole" 45 .none .none (vs "law_scissorhall_k83_heaps_written" 484) (vr 275) .none) ::
 (nat_lit 280,fc [vs "_law_wholes" 529,vs "_law_wholes" 530,vs "/claim/cut.py" 531,vi 162,vi 2,vi 0,vi 0,vi 3,vr 277,(.bool true),vi 181,vr 278,.none,.none,.none,vr 279,vi 532,vi 162,vs "/claim/cut.py" 533]) ::
 (nat_lit 281,fo "_law_wholes" 46 .none .none (vs "law_scissorhall_k83_heaps_written" 484) (vr 280) .none) ::
 (nat_lit 287,fc [vs "_law_frac" 535,vs "_law_frac" 536,vs "/claim/cut.py" 537,vi 166,vi 2,vi 0,vi 0,vi 3,vr 282,(.bool true),vi 181,vr 283,.none,vr 284,vr 285,vr 286,vi 540,vi 166,vs "/claim/cut.py" 541]) ::
 (nat_lit 288,fo "_law_frac" 47 .none .none (vs "law_scissorhall_k83_heaps_written" 484) (vr 287) .none) ::
 (nat_lit 292,fc [vs "_law_gap" 543,vs "_law_gap" 544,vs "/claim/cut.py" 545,vi 170,vi 2,vi 0,vi 0,vi 3,vr 289,(.bool true),vi 181,vr 290,.none,.none,.none,vr 291,vi 546,vi 170,vs "/claim/cut.py" 547]) ::
 (nat_lit 293,fo "_law_gap" 48 .none .none (vs "law_scissorhall_k83_heaps_written" 484) (vr 292) .none) ::
 (nat_lit 299,fc [vs "_law_cross" 549,vs "_law_cross" 550,vs "/claim/cut.py" 551,vi 172,vi 2,vi 0,vi 0,vi 3,vr 294,(.bool true),vi 181,vr 295,.none,vr 296,vr 297,vr 298,vi 557,vi 172,vs "/claim/cut.py" 558]) ::
 (nat_lit 300,fo "_law_cross" 49 .none .none (vs "law_scissorhall_k83_heaps_written" 484) (vr 299) .none) ::
 (nat_lit 304,fc [vs "_law_dot" 560,vs "_law_dot" 561,vs "/claim/cut.py" 562,vi 177,vi 2,vi 0,vi 0,vi 3,vr 301,(.bool true),vi 181,vr 302,.none,.none,.none,vr 303,vi 563,vi 177,vs "/claim/cut.py" 564]) ::
 (nat_lit 305,fo "_law_dot" 50 .none .none (vs "law_scissorhall_k83_heaps_written" 484) (vr 304) .none) ::
 (nat_lit 311,fc [vs "_law_turn" 566,vs "_law_turn" 567,vs "/claim/cut.py" 568,vi 179,vi 1,vi 0,vi 0,vi 3,vr 306,(.bool true),vi 181,vr 307,.none,vr 308,vr 309,vr 310,vi 570,vi 179,vs "/claim/cut.py" 571]) ::
 (nat_lit 312,fo "_law_turn" 51 .none .none (vs "law_scissorhall_k83_heaps_written" 484) (vr 311) .none) ::
 (nat_lit 316,fc [vs "_law_det" 573,vs "_law_det" 574,vs "/claim/cut.py" 575,vi 183,vi 1,vi 0,vi 0,vi 3,vr 313,(.bool true),vi 181,vr 314,.none,.none,.none,vr 315,vi 576,vi 183,vs "/claim/cut.py" 577]) ::
 (nat_lit 317,fo "_law_det" 52 .none .none (vs "law_scissorhall_k83_heaps_written" 484) (vr 316) .none) ::
 (nat_lit 323,fc [vs "_law_simplex" 579,vs "_law_simplex" 580,vs "/claim/cut.py" 581,vi 185,vi 1,vi 0,vi 0,vi 3,vr 318,(.bool true),vi 181,vr 319,.none,vr 320,vr 321,vr 322,vi 584,vi 185,vs "/claim/cut.py" 585]) ::
 (nat_lit 324,fo "_law_simplex" 53 .none .none (vs "law_scissorhall_k83_heaps_written" 484) (vr 323) .none) ::
 (nat_lit 330,fc [vs "_law_point_form" 587,vs "_law_point_form" 588,vs "/claim/cut.py" 589,vi 190,vi 2,vi 0,vi 0,vi 3,vr 325,(.bool true),vi 181,vr 326,.none,vr 327,vr 328,vr 329,vi 592,vi 190,vs "/claim/cut.py" 593]) ::
 (nat_lit 331,fo "_law_point_form" 54 .none .none (vs "law_scissorhall_k83_heaps_written" 484) (vr 330) .none) ::
 (nat_lit 335,fc [vs "_law_simplex_form" 595,vs "_law_simplex_form" 596,vs "/claim/cut.py" 597,vi 194,vi 2,vi 0,vi 0,vi 3,vr 332,(.bool true),vi 181,vr 333,.none,.none,.none,vr 334,vi 598,vi 194,vs "/claim/cut.py" 599]) ::
 (nat_lit 336,fo "_law_simplex_form" 55 .none .none (vs "law_scissorhall_k83_heaps_written" 484) (vr 335) .none) ::
 (nat_lit 340,fc [vs "_law_heap_form" 601,vs "_law_heap_form" 602,vs "/claim/cut.py" 603,vi 200,vi 2,vi 0,vi 0,vi 3,vr 337,(.bool true),vi 181,vr 338,.none,.none,.none,vr 339,vi 604,vi 200,vs "/claim/cut.py" 605]) ::
 (nat_lit 341,fo "_law_heap_form" 56 .none .none (vs "law_scissorhall_k83_heaps_written" 484) (vr 340) .none) ::
 (nat_lit 347,fc [vs "_law_handed" 607,vs "_law_handed" 608,vs "/claim/cut.py" 609,vi 204,vi 2,vi 0,vi 0,vi 3,vr 342,(.bool true),vi 181,vr 343,.none,vr 344,vr 345,vr 346,vi 612,vi 204,vs "/claim/cut.py" 613]) ::
 (nat_lit 348,fo "_law_handed" 57 .none .none (vs "law_scissorhall_k83_heaps_written" 484) (vr 347) .none) ::
 (nat_lit 354,fc [vs "_law_written" 615,vs "_law_written" 616,vs "/claim/cut.py" 617,vi 208,vi 2,vi 0,vi 0,vi 3,vr 349,(.bool true),vi 181,vr 350,.none,vr 351,vr 352,vr 353,vi 620,vi 208,vs "/claim/cut.py" 621]) ::
 (nat_lit 355,fo "_law_written" 58 .none .none (vs "law_scissorhall_k83_heaps_written" 484) (vr 354) .none) ::
 (nat_lit 359,fc [vs "_law_point_text" 623,vs "_law_point_text" 624,vs "/claim/cut.py" 625,vi 215,vi 1,vi 0,vi 0,vi 3,vr 356,(.bool true),vi 181,vr 357,.none,.none,.none,vr 358,vi 626,vi 215,vs "/claim/cut.py" 627]) ::
 (nat_lit 360,fo "_law_point_text" 59 .none .none (vs "law_scissorhall_k83_heaps_written" 484) (vr 359) .none) ::
 (nat_lit 364,fc [vs "_law_points_text" 629,vs "_law_points_text" 630,vs "/claim/cut.py" 631,vi 220,vi 1,vi 0,vi 0,vi 3,vr 361,(.bool true),vi 181,vr 362,.none,.none,.none,vr 363,vi 632,vi 220,vs "/claim/cut.py" 633]) ::
 (nat_lit 365,fo "_law_points_text" 60 .none .none (vs "law_scissorhall_k83_heaps_written" 484) (vr 364) .none) ::
 (nat_lit 369,fc [vs "_law_heap_text" 635,vs "_law_heap_text" 636,vs "/claim/cut.py" 637,vi 225,vi 1,vi 0,vi 0,vi 3,vr 366,(.bool true),vi 181,vr 367,.none,.none,.none,vr 368,vi 638,vi 225,vs "/claim/cut.py" 639]) ::
 (nat_lit 370,fo "_law_heap_text" 61 .none .none (vs "law_scissorhall_k83_heaps_written" 484) (vr 369) .none) ::
 (nat_lit 374,fc [vs "_law_great_heap" 641,vs "_law_great_heap" 642,vs "/claim/cut.py" 643,vi 232,vi 3,vi 0,vi 0,vi 3,vr 371,(.bool true),vi 181,vr 372,.none,.none,.none,vr 373,vi 644,vi 232,vs "/claim/cut.py" 645]) ::
 (nat_lit 375,fo "_law_great_heap" 62 .none .none (vs "law_scissorhall_k83_heaps_written" 484) (vr 374) .none) ::
 (nat_lit 379,fc [vs "_law_small_heap" 647,vs "_law_small_heap" 648,vs "/claim/cut.py" 649,vi 248,vi 3,vi 0,vi 0,vi 3,vr 376,(.bool true),vi 181,vr 377,.none,.none,.none,vr 378,vi 650,vi 248,vs "/claim/cut.py" 651]) ::
 (nat_lit 380,fo "_law_small_heap" 63 .none .none (vs "law_scissorhall_k83_heaps_written" 484) (vr 379) .none) ::
 (nat_lit 386,fc [vs "_law_once" 653,vs "_law_once" 654,vs "/claim/cut.py" 655,vi 258,vi 1,vi 0,vi 0,vi 3,vr 381,(.bool true),vi 181,vr 382,.none,vr 383,vr 384,vr 385,vi 663,vi 258,vs "/claim/cut.py" 664]) ::
 (nat_lit 387,fo "_law_once" 64 .none .none (vs "law_scissorhall_k83_heaps_written" 484) (vr 386) .none) ::
 (nat_lit 393,fc [vs "law" 666,vs "law" 667,vs "/claim/cut.py" 668,vi 279,vi 1,vi 0,vi 0,vi 3,vr 388,(.bool true),vi 181,vr 389,.none,vr 390,vr 391,vr 392,vi 671,vi 279,vs "/claim/cut.py" 672]) ::
 (nat_lit 394,fo "law" 65 .none .none (vs "law_scissorhall_k83_heaps_written" 484) (vr 393) .none) :: []
def KA:List Nat:=[3,23,24,36,37,48,49,60,61,72,73,84,85,93,94,100,101,105,106,107,113,114,115,119,120,124,125,129,130,134,135,139,140,146,147,151,152,158,159,165,166,172,173,179,180,184,185,189,190,196,197,201,202,208,209,213,214,220,221,225,226,230,231,237,238,242,243,249,250,256,257,263,264,268,269,275,276,280,281,287,288,292,293,299,300,304,305,311,312,316,317,323,324,330,331,335,336,340,341,347,348,354,355,359,360,364,365,369,370,374,375,379,380,386,387,393,394]
def VW:Program:={ PySem.Challenge.pw_scissorhall_k83_heaps_written with main:={ PySem.Challenge.pw_scissorhall_k83_heaps_written.main with body:=[top 1,top 2,top 3,top 4,top 5,top 6,top 8,top 9,top 10,top 14,top 15,top 16,top 17,top 18,top 19,top 20,top 22,top 24,top 25,top 26,top 27,top 28,top 29,top 30,top 31,top 32,top 33,top 34,top 35,top 36,top 37,top 38,top 39,top 41,top 42,top 43,top 44,top 45,top 46,top 47,top 48,top 49,top 50,top 51,top 52,top 53,top 54,top 55,top 56,top 57,top 58,top 59,top 60,top 61,top 62,top 63,top 64,top 65] } }
theorem KE:∀ P,KA=(KK P).map (·.1):=fun _=>by kernel_rfl
open PySem.W PyProof.Rows PySem.Spec in
theorem ajX:∀ w,(PySem.W.openEnds treeTable PySem.Challenge.pw_scissorhall_k83_heaps_written w 5676).map (fun s=>PySem.W.Hook.obs (PySem.W.kHook KK KA KE) s)=some (PySem.W.Hook.val (PySem.W.kHook KK KA KE) w):=by
 intro w
 kernel_rfl
open PySem.W PyProof.Rows PySem.Spec in
theorem akr:∀ w,(PySem.W.openEnds treeTable PySem.Challenge.pw_scissorhall_k83_heaps_written w 5676).map (fun s=>(PySem.W.openSeen VW [PySem.Str.ofString "fraction",PySem.Str.ofString "point"] (importedModules PySem.Challenge.pw_scissorhall_k83_heaps_written.main.body) (fun s=>PySem.W.xlAt VW [] s && PySem.W.recOk (PySem.W.RowW.records (PySem.W.OpenRow.toRowW (PySem.W.OpenLaw.row PySem.Challenge.rw_scissorhall_k83_heaps_written))) s) true s).1)=some ((PySem.W.openGood VW [PySem.Str.ofString "fraction",PySem.Str.ofString "point"]).1):=by
 intro w
 kernel_rfl
open PySem.W PyProof.Rows PySem.Spec in
theorem akx:∀ w,(PySem.W.openEnds treeTable PySem.Challenge.pw_scissorhall_k83_heaps_written w 5676).map (fun s=>(PySem.W.openSeen VW [PySem.Str.ofString "fraction",PySem.Str.ofString "point"] (importedModules PySem.Challenge.pw_scissorhall_k83_heaps_written.main.body) (fun s=>PySem.W.xlAt VW [] s && PySem.W.recOk (PySem.W.RowW.records (PySem.W.OpenRow.toRowW (PySem.W.OpenLaw.row PySem.Challenge.rw_scissorhall_k83_heaps_written))) s) true s).2.1)=some ((PySem.W.openGood VW [PySem.Str.ofString "fraction",PySem.Str.ofString "point"]).2.1):=by
 intro w
 kernel_rfl
open PySem.W PyProof.Rows PySem.Spec in
theorem aks:∀ w,(PySem.W.openEnds treeTable PySem.Challenge.pw_scissorhall_k83_heaps_written w 5676).map (fun s=>(PySem.W.openSeen VW [PySem.Str.ofString "fraction",PySem.Str.ofString "point"] (importedModules PySem.Challenge.pw_scissorhall_k83_heaps_written.main.body) (fun s=>PySem.W.xlAt VW [] s && PySem.W.recOk (PySem.W.RowW.records (PySem.W.OpenRow.toRowW (PySem.W.OpenLaw.row PySem.Challenge.rw_scissorhall_k83_heaps_written))) s) true s).2.2.1)=some ((PySem.W.openGood VW [PySem.Str.ofString "fraction",PySem.Str.ofString "point"]).2.2.1):=by
 intro w
 kernel_rfl
open PySem.W PyProof.Rows PySem.Spec in
theorem aj8:∀ w,(PySem.W.openEnds treeTable PySem.Challenge.pw_scissorhall_k83_heaps_written w 5676).map (fun s=>(PySem.W.openSeen VW [PySem.Str.ofString "fraction",PySem.Str.ofString "point"] (importedModules PySem.Challenge.pw_scissorhall_k83_heaps_written.main.body) (fun s=>PySem.W.xlAt VW [] s && PySem.W.recOk (PySem.W.RowW.records (PySem.W.OpenRow.toRowW (PySem.W.OpenLaw.row PySem.Challenge.rw_scissorhall_k83_heaps_written))) s) true s).2.2.2)=some ((PySem.W.openGood VW [PySem.Str.ofString "fraction",PySem.Str.ofString "point"]).2.2.2):=by
 intro w
 kernel_rfl
theorem alb {A B C D Y:Type} {o:Option Shared} {F:Shared→A × B × C × D} {G:Shared→Y} {g:A × B × C × D} {y:Y} (a:o.map G=some y) (b:o.map (fun s=>(F s).1)=some g.1) (c:o.map (fun s=>(F s).2.1)=some g.2.1) (d:o.map (fun s=>(F s).2.2.1)=some g.2.2.1) (e:o.map (fun s=>(F s).2.2.2)=some g.2.2.2):o.map (fun s=>(F s,G s))=some (g,y):=by
 cases o with
 | none=>cases a
 | some s=>exact congrArg some (Prod.ext (Prod.ext (Option.some.inj b) (Prod.ext (Option.some.inj c) (Prod.ext (Option.some.inj d) (Option.some.inj e)))) (Option.some.inj a))
theorem left:PySem.W.LeftO PySem.Challenge.pw_scissorhall_k83_heaps_written VW [PySem.Str.ofString "fraction",PySem.Str.ofString "point"] (fun s=>PySem.W.xlAt VW [] s && PySem.W.recOk (PySem.W.RowW.records (PySem.W.OpenRow.toRowW (PySem.W.OpenLaw.row PySem.Challenge.rw_scissorhall_k83_heaps_written))) s) (PySem.W.Hook.obs (PySem.W.kHook KK KA KE)) (PySem.W.Hook.val (PySem.W.kHook KK KA KE)) 5676:=fun w=>alb (F:=fun s=>(PySem.W.openSeen VW [PySem.Str.ofString "fraction",PySem.Str.ofString "point"] (importedModules PySem.Challenge.pw_scissorhall_k83_heaps_written.main.body) (fun s=>PySem.W.xlAt VW [] s && PySem.W.recOk (PySem.W.RowW.records (PySem.W.OpenRow.toRowW (PySem.W.OpenLaw.row PySem.Challenge.rw_scissorhall_k83_heaps_written))) s) true s)) (g:=(PySem.W.openGood VW [PySem.Str.ofString "fraction",PySem.Str.ofString "point"])) (ajX w) (akr w) (akx w) (aks w) (aj8 w)
end
end Sc
set_option maxHeartbeats 200000
set_option Elab.async false
set_option linter.all false
set_option maxRecDepth 100000
namespace L2
open PySem PySem.Spec PyProof.Rows
abbrev Key:=Sum Int Str
def aie:Key→Value→Bool
 | .inl k,v=>Value.isInt k v
 | .inr x,v=>Value.isStrOf x v
def alf (w:World):Key→Int
 | .inl k=>hashInt k
 | .inr x=>hashStr w x
theorem jK:∀ {k:Key} {v:Value},aie k v=true→(∃ i t,k=Sum.inl i∧v=Value.int i t)∨(∃ x t,k=Sum.inr x∧v=Value.str x t)
 | .inl i,v,h=>by
  obtain ⟨t,e⟩:=Value.isInt_shape (k:=i) (v:=v) h
  exact .inl ⟨i,t,rfl,e⟩
 | .inr x,v,h=>by
  obtain ⟨t,e⟩:=Value.isStrOf_shape (x:=x) (v:=v) h
  exact .inr ⟨x,t,rfl,e⟩
theorem ajs (a b:Int):decide ((Sum.inl a:Key)=Sum.inl b)=(a == b):=by
 by_cases e:a=b
 ·subst e; simp
 ·have h:¬ (Sum.inl a:Key)=Sum.inl b:=fun q=>e (Sum.inl.inj q)
  rw [decide_eq_false h]
  exact (beq_eq_false_iff_ne.mpr e).symm
theorem ah9 (a b:Str):decide ((Sum.inr a:Key)=Sum.inr b)=decide (a=b):=by
 by_cases e:a=b
 ·subst e; simp
 ·have h:¬ (Sum.inr a:Key)=Sum.inr b:=fun q=>e (Sum.inr.inj q)
  rw [decide_eq_false h,decide_eq_false e]
theorem ajz (a:Int) (b:Str):decide ((Sum.inl a:Key)=Sum.inr b)=false:=decide_eq_false (fun q=>nomatch q)
theorem aiR (a:Str) (b:Int):decide ((Sum.inr a:Key)=Sum.inl b)=false:=decide_eq_false (fun q=>nomatch q)
def yK (prog:Program) (w:World):PySem.KeyKind prog w Key where
 is:=aie
 hash:=alf w
 inj:=fun v a b ha hb=>by
  rcases jK ha with ⟨i,t,rfl,rfl⟩ | ⟨x,t,rfl,rfl⟩
  ·rcases jK hb with ⟨j,u,rfl,e⟩ | ⟨y,u,rfl,e⟩
   ·injection e with e1 _; rw [e1]
   ·exact nomatch e
  ·rcases jK hb with ⟨j,u,rfl,e⟩ | ⟨y,u,rfl,e⟩
   ·exact nomatch e
   ·injection e with e1 _; rw [e1]
 byValue:=fun k v h=>by
  rcases jK h with ⟨i,t,rfl,rfl⟩ | ⟨x,t,rfl,rfl⟩ <;> rfl
 pyHash:=fun hv h=>by
  rcases jK hv with ⟨i,t,rfl,rfl⟩ | ⟨x,t,rfl,rfl⟩
  ·exact wpAny_pyHash_int h
  ·exact wpAny_pyHash_str h
 eqBool:=fun hu hv h=>by
  rcases jK hu with ⟨i,t,rfl,rfl⟩ | ⟨x,t,rfl,rfl⟩
  ·rcases jK hv with ⟨j,u,rfl,rfl⟩ | ⟨y,u,rfl,rfl⟩
   ·rw [ajs] at h; exact wpAny_eqBool_int h
   ·rw [ajz] at h; exact SeqAt.EqAt.int_str i t y u _ _ _ _ h
  ·rcases jK hv with ⟨j,u,rfl,rfl⟩ | ⟨y,u,rfl,rfl⟩
   ·rw [aiR] at h; exact SeqAt.EqAt.str_int x t j u _ _ _ _ h
   ·rw [ah9] at h; exact wpAny_eqBool_str h
 «strs»:=fun k x t v h=>by
  rcases jK h with ⟨i,u,rfl,e⟩ | ⟨y,u,rfl,e⟩
  ·exact nomatch e
  ·injection e with e1 _
   subst e1
   cases v <;> rfl
end L2
namespace L2
open PySem PySem.Spec PyProof.Rows
inductive V where
 | non | bl (b:Bool) | int (i:Int) | str (x:Str) | byt (b:Array UInt8) | flt (b:UInt64) | ref (a:Addr) | ty (n:String)
 deriving DecidableEq
def bM:V→Value→Prop
 | .non,u=>u=Value.none
 | .bl b,u=>u=Value.bool b
 | .int i,u=>∃ t,u=Value.int i t
 | .str x,u=>∃ t,u=Value.str x t
 | .byt b,u=>∃ t,u=Value.bytes b t
 | .flt b,u=>∃ t,u=Value.float b t
 | .ref a,u=>u=Value.ref a
 | .ty n,u=>u=Value.type n
abbrev bC:List V→List Value→Prop:=Paired bM
theorem bC.length {xs:List V} {us:List Value} (r:bC xs us):xs.length=us.length:=Paired.length r
theorem bC.get:∀ {xs:List V} {us:List Value} {i:Nat} {x:V},bC xs us→xs[i]?=some x→∃ u,us[i]?=some u∧bM x u
 | _,_,_,_,.nil,e=>by simp at e
 | _,_,0,_,.cons r _,e=>by simp at e; subst e; exact ⟨_,rfl,r⟩
 | _,_,i+1,x,.cons _ t,e=>by
  obtain ⟨u,h1,h2⟩:=bC.get (i:=i) (x:=x) t (by simpa using e)
  exact ⟨u,by simpa using h1,h2⟩
theorem bC.set {x:V} {u:Value} (r:bM x u):∀ {xs:List V} {us:List Value} (i:Nat),bC xs us→bC (xs.set i x) (us.set i u)
 | _,_,_,.nil=>.nil
 | _,_,0,.cons _ t=>.cons r t
 | _,_,i+1,.cons q t=>.cons q (bC.set r i t)
theorem bC.append:∀ {xs ys:List V} {us ws:List Value},bC xs us→bC ys ws→bC (xs++ys) (us++ws)
 | _,_,_,_,.nil,s=>s
 | _,_,_,_,.cons r t,s=>.cons r (bC.append t s)
theorem bC.take:∀ {xs:List V} {us:List Value} (n:Nat),bC xs us→bC (xs.take n) (us.take n)
 | _,_,0,_=>.nil
 | _,_,_+1,.nil=>.nil
 | _,_,n+1,.cons r t=>.cons r (bC.take n t)
theorem bC.drop:∀ {xs:List V} {us:List Value} (n:Nat),bC xs us→bC (xs.drop n) (us.drop n)
 | _,_,0,r=>r
 | _,_,_+1,.nil=>.nil
 | _,_,n+1,.cons _ t=>bC.drop n t
def akg:Option V→Option Value→Prop
 | some v,some u=>bM v u
 | none,none=>True
 | _,_=>False
def KV {κ:Type}:List (κ × V)→List (κ × Value)→Prop:=Paired fun (p:κ × V) (q:κ × Value)=>p.1=q.1∧bM p.2 q.2
def kV:Key→V
 | .inl i=>.int i
 | .inr x=>.str x
inductive HO where
 /-- a list -/
 | lst (xs:List V)
 /-- a tuple (never changes) -/
 | tup (xs:List V)
 /-- a dict whose keys are ints and texts; one whose keys are tuples of ints and texts (the empty one is both) -/
 | dK (kvs:List (Key × V)) | dT (kvs:List (List Key × V))
 /-- a set of ints: its members,its size -/
 | set (S:Int→Bool) (n:Nat)
 /-- an instance of the class at C,its dict at dx,its attributes -/
 | ins (C dx:Addr) (fs:List (Str × V))
 /-- the dict of the instance at x -/
 | own (x:Addr)
 /-- the dict of an exception -/
 | xd (fs:List (Str × V))
 /-- a bound method,f of x -/
 | met (f x:Addr)
 /-- a range object lo,lo+1,.. below hi -/
 | rng (lo hi:Int)
 /-- a thing that is known to the object (the script; a dict while a loop walks it): read,never written while it is so -/
 | frz (o:Obj) (u:HO)
 /-- a code object's table -/
 | tbl (ps:Array Value)
 /-- any other thing,by what is true of its one object (a def of one's own: SetO a S n:=HO.ext fun h=>..) -/
 | ext (φ:Heap→Prop)
abbrev Hp:=Addr→Option HO
def upd (H:Hp) (a:Addr) (o:HO):Hp:=fun b=>if b=a then some o else H b
theorem gJ {H:Hp} {a:Addr} {o:HO}:upd H a o a=some o:=by unfold upd; rw [if_pos rfl]
theorem cD {H:Hp} {a b:Addr} {o:HO} (h:b≠a):upd H a o b=H b:=by unfold upd; rw [if_neg h]
theorem fD {H:Hp} {a b:Addr} {o:HO} (h:H a=some o) (h':H b=none):a≠b:=by
 intro e; subst e; rw [h] at h'; cases h'
section
variable (P:Program) (w:World)
def eC (H:Hp) (h:Heap) (a:Addr):HO→Prop
 | .lst xs=>xs.length≤sizeLine∧∃ (its:List Value) (n:Nat),bC xs its∧h.get? a=some { cls:=.type "list",data:=.seq its.toArray n }
 | .tup xs=>xs.length≤sizeLine∧∃ its:List Value,bC xs its∧IsTup h a its.toArray
 | .dK kvs=>kvs.length≤sizeLine∧(a == sysModules)=false∧∃ vs,KV kvs vs∧h.DictOf (yK P w) a vs
 | .dT kvs=>kvs.length≤sizeLine∧(a == sysModules)=false∧∃ xs:List (List Key × Addr × Value),
   Paired (fun (p:List Key × V) (q:List Key × Addr × Value)=>p.1=q.1∧H q.2.1=some (.tup (p.1.map kV))∧bM p.2 q.2.2) kvs xs ∧
   ∃ o es ep,h.get? a=some o∧o.ExactDict∧o.data=.dict es ep∧es.toList=xs.map (entryOfKey (tupleKind (yK P w)))∧(xs.map (·.1)).Nodup
 | .set S n=>h.SetOf (intKind P w) a S n
 | .ins C dx fs=>H dx=some (.own a)∧fs.length≤1000∧dx≠a∧h.get? a=some (PySem.W.instObj C dx) ∧
   ∃ mA,h.Ns1 dx mA∧(∀ f,akg (fs.lookup f) (mA f))∧PySem.Within mA (fs.map (·.1))
 | .own _=>∃ o,h.get? a=some o
 | .xd fs=>∃ mA,h.Ns1 a mA∧∀ f,akg (fs.lookup f) (mA f)
 | .rng lo hi=>∃ t u v,h.get? a=some { cls:=.type "range",data:=.fields #[.int lo t,.int hi u,.int 1 v] }
 | .frz o u=>h.get? a=some o∧eC H h a u
 | .tbl ps=>h.get? a=some { cls:=.none,data:=.fields ps }
 | .met f x=>h.get? a=some (PySem.W.methodObj (.ref f) (.ref x))
 | .ext φ=>φ h∧(∃ o,h.get? a=some o)∧∀ h1 h2:Heap,φ h1→(∀ o,h1.get? a=some o→h2.get? a=some o)→φ h2
def HOk (H:Hp) (h:Heap):Prop:=∀ a o,H a=some o→eC P w H h a o
end
section
variable {P:Program} {w:World} {H H':Hp} {h h':Heap} {a:Addr} {o:HO}
theorem eC.lt (x:eC P w H h a o):a < h.objs.size:=by
 cases o with
 | lst xs=>obtain ⟨_,_,_,_,e⟩:=x; exact Heap.lt_size e
 | tup xs=>obtain ⟨_,_,_,p⟩:=x; exact p.lt
 | dK kvs=>obtain ⟨_,_,_,_,o,_,_,e,_⟩:=x; exact Heap.lt_size e
 | dT kvs=>obtain ⟨_,_,_,_,o,_,_,e,_⟩:=x; exact Heap.lt_size e
 | set S n=>obtain ⟨o,_,_,_,e,_⟩:=x; exact Heap.lt_size e
 | ins C dx fs=>obtain ⟨_,_,_,e,_⟩:=x; exact Heap.lt_size e
 | own y=>obtain ⟨_,e⟩:=x; exact Heap.lt_size e
 | xd fs=>obtain ⟨_,⟨_,_,_,e,_⟩,_⟩:=x; exact Heap.lt_size e
 | rng lo hi=>obtain ⟨_,_,_,e⟩:=x; exact Heap.lt_size e
 | frz ob u=>obtain ⟨e,_⟩:=x; exact Heap.lt_size e
 | tbl ps=>exact Heap.lt_size (show h.get? a=some _ from x)
 | met f y=>exact Heap.lt_size (show h.get? a=some _ from x)
 | ext φ=>obtain ⟨_,⟨_,e⟩,_⟩:=x; exact Heap.lt_size e
theorem Paired.mapP {α β:Type} {F G:α→β→Prop}:∀ {l₁:List α} {l₂:List β},Paired F l₁ l₂→(∀ a b,F a b→G a b)→Paired G l₁ l₂
 | _,_,.nil,_=>.nil
 | _,_,.cons r t,f=>.cons (f _ _ r) (Paired.mapP t f)
theorem eC.stay (x:eC P w H h a o) (k:∀ b u,(b=a∨H b=some (.own a))→h.get? b=some u→h'.get? b=some u)
  (ho:∀ b,H b=some (.own a)→H' b=some (.own a)) (ht:∀ b xs,H b=some (.tup xs)→H' b=some (.tup xs)):eC P w H' h' a o:=by
 induction o with
 | lst xs=>obtain ⟨z,its,n,r,e⟩:=x; exact ⟨z,its,n,r,k _ _ (.inl rfl) e⟩
 | tup xs=>obtain ⟨z,its,r,ob,e,c⟩:=x; exact ⟨z,its,r,ob,k _ _ (.inl rfl) e,c⟩
 | dK kvs=>obtain ⟨z,y,vs,r,ob,es,ep,e,c⟩:=x; exact ⟨z,y,vs,r,ob,es,ep,k _ _ (.inl rfl) e,c⟩
 | dT kvs =>
  obtain ⟨z,y,xs,r,ob,es,ep,e,c⟩:=x
  exact ⟨z,y,xs,Paired.mapP r fun p q z=>⟨z.1,ht _ _ z.2.1,z.2.2⟩,ob,es,ep,k _ _ (.inl rfl) e,c⟩
 | set S n=>obtain ⟨ob,es,ep,t,e,c⟩:=x; exact ⟨ob,es,ep,t,k _ _ (.inl rfl) e,c⟩
 | ins C dx fs =>
  obtain ⟨d,z,ne,e,mA,⟨od,es,ep,e2,c⟩,r⟩:=x
  exact ⟨ho _ d,z,ne,k _ _ (.inl rfl) e,mA,⟨od,es,ep,k _ _ (.inr d) e2,c⟩,r⟩
 | own y=>obtain ⟨ob,e⟩:=x; exact ⟨ob,k _ _ (.inl rfl) e⟩
 | xd fs=>obtain ⟨mA,⟨od,es,ep,e,c⟩,r⟩:=x; exact ⟨mA,⟨od,es,ep,k _ _ (.inl rfl) e,c⟩,r⟩
 | rng lo hi=>obtain ⟨t,u,v,e⟩:=x; exact ⟨t,u,v,k _ _ (.inl rfl) e⟩
 | frz ob u ih=>obtain ⟨e,q⟩:=x; exact ⟨k _ _ (.inl rfl) e,ih q⟩
 | tbl ps =>
  have e:h.get? a=some { cls:=.none,data:=.fields ps }:=x
  show h'.get? a=some { cls:=.none,data:=.fields ps }
  exact k a _ (.inl rfl) e
 | met f y =>
  have e:h.get? a=some (PySem.W.methodObj (.ref f) (.ref y)):=x
  show h'.get? a=some (PySem.W.methodObj (.ref f) (.ref y))
  exact k a _ (.inl rfl) e
 | ext φ=>obtain ⟨p,⟨o,e⟩,st⟩:=x; exact ⟨st _ _ p fun o q=>k _ _ (.inl rfl) q,⟨o,k _ _ (.inl rfl) e⟩,st⟩
theorem HOk.lt (x:HOk P w H h) (e:H a=some o):a < h.objs.size:=(x a o e).lt
theorem HOk.fresh (x:HOk P w H h) (e:h.objs.size≤a):H a=none:=by
 cases q:H a with
 | none=>rfl
 | some u=>exact absurd (Nat.lt_of_lt_of_le (x.lt q) e) (Nat.lt_irrefl _)
theorem HOk.kept (x:HOk P w H h) (k:∀ b u,h.get? b=some u→h'.get? b=some u):HOk P w H h':=fun a o e =>
 (x a o e).stay (fun b u _ q=>k b u q) (fun _ q=>q) fun _ _ q=>q
theorem HOk.laid (x:HOk P w H h) (k:∀ b u,h.get? b=some u→h'.get? b=some u) (hp:h.objs.size≤a) (new:eC P w (upd H a o) h' a o):HOk P w (upd H a o) h':=fun b u e=>by
 have hn:=x.fresh hp
 by_cases hb:b=a
 ·subst hb; rw [gJ] at e; cases e; exact new
 ·rw [cD hb] at e
  exact (x b u e).stay (fun c v _ q=>k c v q) (fun c q=>by rw [cD (fD q hn)]; exact q) fun c xs q=>by rw [cD (fD q hn)]; exact q
end
def Rd (H:Hp) (a:Addr) (u:HO):Prop:=H a=some u∨∃ o,H a=some (.frz o u)
theorem Rd.ok {P:Program} {w:World} {H:Hp} {h:Heap} {a:Addr} {u:HO} (r:Rd H a u) (x:HOk P w H h):eC P w H h a u:=by
 rcases r with r | ⟨o,r⟩
 ·exact x a u r
 ·obtain ⟨_,q⟩:=x a _ r
  exact q
def Mut:Option HO→Prop
 | some (.lst _)=>True
 | some (.dK _)=>True
 | some (.dT _)=>True
 | some (.set _ _)=>True
 | some (.ins _ _ _)=>True
 | some (.ext _)=>True
 | _=>False
section
variable {P:Program} {w:World} {H:Hp} {h h':Heap} {x e:Addr} {o':HO}
theorem HOk.write (ok:HOk P w H h) (mu:Mut (H x)) (he:e=x∨H e=some (.own x)) (k:∀ b u,b≠e→h.get? b=some u→h'.get? b=some u) (heo:∃ u,h'.get? e=some u)
  (new:eC P w (upd H x o') h' x o'):HOk P w (upd H x o') h':=fun b u q=>by
 have nown:∀ c y,H c=some (.own y)→c≠x:=fun c y r z=>by subst z; rw [r] at mu; exact mu
 have ntup:∀ c xs,H c=some (.tup xs)→c≠x:=fun c xs r z=>by subst z; rw [r] at mu; exact mu
 by_cases hb:b=x
 ·subst hb; rw [gJ] at q; cases q; exact new
 ·rw [cD hb] at q
  by_cases hbe:b=e
  ·have q':H b=some (.own x):=by
    rcases he with z | z
    ·exact absurd (hbe.trans z) hb
    ·rw [hbe]; exact z
   rw [q] at q'; cases q'
   obtain ⟨v,hv⟩:=heo
   exact ⟨v,by rw [hbe]; exact hv⟩
  ·refine (ok b u q).stay (fun c v hc r=>k c v ?_ r) (fun c r=>by rw [cD (nown c b r)]; exact r) fun c xs r=>by rw [cD (ntup c xs r)]; exact r
   rcases hc with rfl | hc
   ·exact hbe
   ·rintro rfl
    rcases he with z | z
    ·exact nown c b hc z
    ·rw [hc] at z; cases z; exact hb rfl
end
structure Un (fs ex:List Addr) (H H':Hp) (h h':Heap):Prop where
 keep:∀ b o,h.get? b=some o→H b=none→b ∉ fs→b ∉ ex→h'.get? b=some o
 slot:∀ b o,h.get? b=some o→H b=none→b∈fs→b ∉ ex→∃ sl,h'.get? b=some { o with slots:=sl }
 free:∀ b o,h.get? b=some o→H b=none→b ∉ ex→H' b=none
 there:∀ b o,h.get? b=some o→b ∉ ex→∃ o',h'.get? b=some o'
 tups:∀ b xs,H b=some (.tup xs)→H' b=some (.tup xs)
 frzs:∀ b o u,H b=some (.frz o u)→H' b=some (.frz o u)
 tbls:∀ b ps,H b=some (.tbl ps)→∃ more,H' b=some (.tbl (ps++more))
section
variable {fs fs' ex ex':List Addr} {H H1 H2:Hp} {h h1 h2 h':Heap} {a x e:Addr} {o:HO}
theorem Un.any (u:Un fs ex H H1 h h1) {b:Addr} {ob:Obj} (q:h.get? b=some ob) (n:H b=none) (hx:b ∉ ex):∃ sl,h1.get? b=some { ob with slots:=sl }:=by
 by_cases hb:b∈fs
 ·exact u.slot b ob q n hb hx
 ·exact ⟨ob.slots,u.keep b ob q n hb hx⟩
theorem Un.trans (a:Un fs ex H H1 h h1) (b:Un fs ex H1 H2 h1 h2):Un fs ex H H2 h h2 where
 keep:=fun c ob q n hc hx=>b.keep c ob (a.keep c ob q n hc hx) (a.free c ob q n hx) hc hx
 slot:=fun c ob q n hc hx=>by
  obtain ⟨sl,e1⟩:=a.slot c ob q n hc hx
  obtain ⟨sl',e2⟩:=b.slot c _ e1 (a.free c ob q n hx) hc hx
  exact ⟨sl',e2⟩
 free:=fun c ob q n hx=>by
  obtain ⟨o',e1⟩:=a.there c ob q hx
  exact b.free c o' e1 (a.free c ob q n hx) hx
 there:=fun c ob q hx=>by
  obtain ⟨o',e1⟩:=a.there c ob q hx
  exact b.there c o' e1 hx
 tups:=fun c xs q=>b.tups c xs (a.tups c xs q)
 frzs:=fun c ob xs q=>b.frzs c ob xs (a.frzs c ob xs q)
 tbls:=fun c ps q=>by
  obtain ⟨m1,e1⟩:=a.tbls c ps q
  obtain ⟨m2,e2⟩:=b.tbls c _ e1
  exact ⟨m1++m2,by rw [e2,Array.append_assoc]⟩
theorem Un.kept (k:∀ b u,h.get? b=some u→h'.get? b=some u):Un fs ex H H h h' :=
 ⟨fun b ob q _ _ _=>k b ob q,fun b ob q _ _ _=>⟨ob.slots,k b ob q⟩,fun _ _ _ n _=>n,fun b ob q _=>⟨ob,k b ob q⟩,fun _ _ q=>q,fun _ _ _ q=>q,fun _ ps q=>⟨#[],by rw [q]; simp⟩⟩
theorem Un.refl:Un fs ex H H h h:=Un.kept fun _ _ q=>q
theorem Un.laid (k:∀ b u,h.get? b=some u→h'.get? b=some u) (hp:h.objs.size≤a) (hn:H a=none):Un fs ex H (upd H a o) h h' where
 keep:=fun b u q _ _ _=>k b u q
 slot:=fun b u q _ _ _=>⟨u.slots,k b u q⟩
 free:=fun b u q n _=>by rw [cD (Nat.ne_of_lt (Nat.lt_of_lt_of_le (Heap.lt_size q) hp))]; exact n
 there:=fun b u q _=>⟨u,k b u q⟩
 tups:=fun b xs q=>by rw [cD (fD q hn)]; exact q
 frzs:=fun b u xs q=>by rw [cD (fD q hn)]; exact q
 tbls:=fun b ps q=>⟨#[],by rw [cD (fD q hn),q]; simp⟩
theorem Un.write (mu:Mut (H x)) (he:e=x∨H e=some (.own x)) (k:∀ b u,b≠e→h.get? b=some u→h'.get? b=some u) (heo:∃ u,h'.get? e=some u):Un fs ex H (upd H x o) h h':=by
 have hx:∀ b,H b=none→b≠x:=fun b n z=>by subst z; rw [n] at mu; exact mu
 have hb:∀ b,H b=none→b≠e:=fun b n z=>by
  subst z
  rcases he with r | r
  ·exact hx b n r
  ·rw [n] at r; cases r
 have hm:∀ b u,H b=some u→¬ Mut (some u)→b≠x:=fun b u q nm z=>by subst z; rw [q] at mu; exact nm mu
 refine ⟨fun b u q n _ _=>k b u (hb b n) q,fun b u q n _ _=>⟨u.slots,k b u (hb b n) q⟩,fun b u q n _=>by rw [cD (hx b n)]; exact n,fun b u q _=>?_,
  fun b xs q=>by rw [cD (hm b _ q fun z=>z)]; exact q,fun b u xs q=>by rw [cD (hm b _ q fun z=>z)]; exact q,fun b ps q=>⟨#[],by rw [cD (hm b _ q fun z=>z),q]; simp⟩⟩
 by_cases hbe:b=e
 ·subst hbe; exact heo
 ·exact ⟨u,k b u hbe q⟩
end
def trk (h:Heap) (H:Hp):List Addr:=(List.range h.objs.size).filter fun a=>(H a).isSome
def kD (h:Heap) (H:Hp):Heap:=PySem.W.hideAll h (trk h H)
theorem aek (h:Heap) (H:Hp):(kD h H).objs.size=h.objs.size:=PySem.W.hideAll_size _ _
theorem afJ {h:Heap} {H:Hp} {b:Addr} {o:Obj} (e:h.get? b=some o) (n:H b=none):(kD h H).get? b=some o :=
 PySem.W.hideAll_get _ e fun hm=>by
  have q:(H b).isSome=true:=(List.mem_filter.mp hm).2
  rw [n] at q; simp at q
theorem ahU {h:Heap} {H:Hp} {b:Addr} {o:Obj} (e:(kD h H).get? b=some o):h.get? b=some o∧H b=none:=by
 have e':h.get? b=some o:=PySem.W.of_hideAll (trk h H) e
 refine ⟨e',?_⟩
 cases q:H b with
 | none=>rfl
 | some x =>
  have hm:b∈trk h H:=List.mem_filter.mpr ⟨List.mem_range.mpr (Heap.lt_size e'),by simp [q]⟩
  have z:(kD h H).get? b=none:=PySem.W.hideAll_none (trk h H) hm
  rw [z] at e; cases e
def ahR (g h:Heap) (L:Addr):List (Addr × Obj):=(List.range h.objs.size).filterMap fun a=>if a=L∨(g.get? a).isSome=true then none else (h.get? a).map fun o=>(a,o)
def dQ (g h:Heap) (L d:Addr):List (Addr × Obj):=(ahR g h L).filter fun p=>decide (p.1≠d)
end L2
namespace L2
open PySem PySem.Spec PyProof.Rows
structure Mod (K:PySem.W.Frag) (mg:Str→Option Value) (base:Heap):Prop where
 kin:K.In base
 glob:base.Ns mainGlobals mg
 blt:∃ mb,base.Ns builtinsNs mb∧∀ x:Str,x≠"__name__"→mb x=bootBuiltins x
 nolimit:base.NoLimit
structure Cx where
 prog:Program
 w:World
 K:PySem.W.Frag
 mg:Str→Option Value
 base:Heap
 A:Around
 N:List Str
 s₀:Shared
 H₀:Hp
 env:Env
 outer:List Env
 stack:List Env
 ex:List Addr
 fn:Str→Bool
 calm:Bool
 pn:List (Addr × Obj)
 xe:Value→Shared→Prop
def frs (l:List Env):List Addr:=l.filterMap (·.frame)
abbrev Cx.fs (X:Cx):List Addr:=frs X.outer
def Vis (sc:Scope) (x:Str):Prop:=sc.names.lookup x=some .local∨sc.names.lookup x=some .cell∨sc.names.lookup x=some .free
def Loc (sc:Scope) (x:Str):Prop:=sc.names.lookup x=some .local∨sc.names.lookup x=some .cell
def alg (env:Env) (h:Heap) (m:Str→Option Value) (x:Str) (u:Value):Prop :=
 (env.kindOf x=some .local∧m x=some u)∨((env.kindOf x=some .cell∨env.kindOf x=some .free)∧∃ c,env.cells.lookup x=some c∧h.IsCell c (some u))
structure Cx.Ok (X:Cx):Prop where
 mod:Mod X.K X.mg X.base
 kind:X.env.scope.kind=.function
 glob:X.env.globals=mainGlobals
 blt:X.env.builtins=builtinsNs
 above:X.s₀.heap.objs.size≤X.env.locals
 inj:∀ x y c,X.env.cells.lookup x=some c→X.env.cells.lookup y=some c→x=y
 has:∀ x,(X.env.kindOf x=some .cell∨X.env.kindOf x=some .free)→∃ c,X.env.cells.lookup x=some c
 cab:∀ x c,X.fn x=true→X.env.cells.lookup x=some c→X.s₀.heap.objs.size≤c
 hd:X.calm=true→X.A.handled=none
 frames:X.A.frames=some X.stack
 stk:X.stack=X.outer∨(X.stack=X.env :: X.outer∧X.env.frame=some X.env.locals)
 exf:∀ b∈X.ex,b≠X.env.locals∧∀ x c,X.env.cells.lookup x=some c→c≠b
 bs:∀ b o,X.base.get? b=some o→X.s₀.heap.get? b=some o∧X.H₀ b=none
 bsz:X.base.objs.size≤X.s₀.heap.objs.size
 noex:∀ b o,X.base.get? b=some o→b ∉ X.ex
 exfs:∀ b∈X.ex,b ∉ X.fs
 funs:X.s₀.heap.FunFrames X.base X.outer
 frf:∀ b∈X.fs,X.H₀ b=none
structure Inv (X:Cx) (pins:List (Addr × Obj)) (σ:List (Option V)) (H:Hp) (s:Shared):Prop where
 ok:X.Ok
 os:s.os=X.s₀.os
 bare:AllBare s.gens
 base:Un X.fs X.ex X.H₀ H X.s₀.heap s.heap
 loc:∃ m,s.heap.Ns X.env.locals m∧∀ (i:Nat) (x:Str) (v:V),X.N[i]?=some x→σ[i]?=some (some v)→Vis X.env.scope x→∃ u,bM v u∧alg X.env s.heap m x u
 cell:∀ x c,X.env.cells.lookup x=some c→∃ v,s.heap.IsCell c v
 free:H X.env.locals=none
 freeC:∀ x c,X.env.cells.lookup x=some c→H c=none
 pin:∀ p∈X.pn++pins,s.heap.get? p.1=some p.2∧H p.1=none∧p.1≠X.env.locals∧p.1 ∉ X.fs∧∀ v,p.2.data≠.cell v
 hok:HOk X.prog X.w H s.heap
 len:σ.length=X.N.length
section
variable {X:Cx} {pins:List (Addr × Obj)} {σ:List (Option V)} {H H':Hp} {s:Shared} {h':Heap}
theorem Cx.Ok.nofr (ok:X.Ok) {b:Addr} {o:Obj} (e:X.base.get? b=some o):b ∉ X.fs:=fun hb=>by
 have:=(ok.funs.mem hb).1
 rw [e] at this; cases this
theorem Inv.bs (I:Inv X pins σ H s):∀ b o,X.base.get? b=some o→s.heap.get? b=some o∧H b=none:=fun b o e =>
 ⟨I.base.keep b o (I.ok.bs b o e).1 (I.ok.bs b o e).2 (I.ok.nofr e) (I.ok.noex b o e),I.base.free b o (I.ok.bs b o e).1 (I.ok.bs b o e).2 (I.ok.noex b o e)⟩
theorem Inv.bk (I:Inv X pins σ H s):∀ b o,X.base.get? b=some o→s.heap.get? b=some o:=fun b o e=>(I.bs b o e).1
theorem Inv.mod (I:Inv X pins σ H s):Mod X.K X.mg X.base:=I.ok.mod
theorem Inv.kIn (I:Inv X pins σ H s):X.K.In s.heap:=I.ok.mod.kin.keeps I.bk
theorem Inv.lt (I:Inv X pins σ H s):X.env.locals < s.heap.objs.size:=let ⟨_,hn,_⟩:=I.loc; hn.lt
theorem Inv.sz (I:Inv X pins σ H s):X.s₀.heap.objs.size≤s.heap.objs.size:=Nat.le_trans I.ok.above (Nat.le_of_lt I.lt)
theorem Inv.nofs (I:Inv X pins σ H s) {a:Addr} (h:s.heap.objs.size≤a):a ∉ X.fs:=fun hb=>by
 obtain ⟨_,o,ho,_⟩:=I.ok.funs.mem hb
 exact absurd (Nat.lt_of_lt_of_le (Heap.lt_size ho) (Nat.le_trans I.sz h)) (Nat.lt_irrefl _)
theorem Inv.cne (I:Inv X pins σ H s):∀ x c,X.env.cells.lookup x=some c→c≠X.env.locals:=fun x c e z=>by
 obtain ⟨v,o,ho,hd⟩:=I.cell x c e
 obtain ⟨m,⟨o',es,ep,ho',hd',_⟩,_⟩:=I.loc
 rw [z,ho'] at ho; cases ho; rw [hd'] at hd; cases hd
theorem Inv.funs (I:Inv X pins σ H s):s.heap.FunFrames X.base X.outer:=by
 have all:∀ (l:List Env),(∀ b∈frs l,b∈X.fs)→X.s₀.heap.FunFrames X.base l→s.heap.FunFrames X.base l:=by
  intro l
  induction l with
  | nil=>intro _ _; trivial
  | cons env r ih =>
   intro hs hl
   obtain ⟨hk,⟨L,o,hf,hn,ho,hd⟩,hr⟩:=hl
   have hL:L∈X.fs:=hs L (by unfold frs; rw [List.filterMap_cons,hf]; exact List.mem_cons_self)
   obtain ⟨sl,e⟩:=I.base.slot L o ho (I.ok.frf L hL) hL fun z=>I.ok.exfs L z hL
   exact ⟨hk,⟨L,_,hf,hn,e,hd⟩,ih (fun b hb=>hs b (by unfold frs; rw [List.filterMap_cons,hf]; exact List.mem_cons_of_mem _ hb)) hr⟩
 exact all X.outer (fun _ hb=>hb) I.ok.funs
theorem Inv.stack (I:Inv X pins σ H s):s.heap.FunFrames X.base X.stack:=by
 rcases I.ok.stk with e | ⟨e,hf⟩
 ·rw [e]; exact I.funs
 ·rw [e]
  obtain ⟨m,hn,_⟩:=I.loc
  refine .cons (by rw [I.ok.kind]; decide) hf hn ?_ I.funs
  exact Heap.get?_none_of_le (Nat.le_trans I.ok.bsz I.ok.above)
theorem Inv.stkSub (I:Inv X pins σ H s):∀ b∈frs X.stack,b∈X.env.locals :: X.fs:=fun b hb=>by
 rcases I.ok.stk with e | ⟨e,hf⟩
 ·rw [e] at hb; exact List.mem_cons_of_mem _ hb
 ·rw [e] at hb
  unfold frs at hb
  rw [List.filterMap_cons,hf] at hb
  exact hb
theorem Inv.stkFree (I:Inv X pins σ H s):∀ b∈frs X.stack,H b=none:=fun b hb=>by
 rcases List.mem_cons.mp (I.stkSub b hb) with e | hb
 ·rw [e]; exact I.free
 ·obtain ⟨_,o,ho,_⟩:=I.ok.funs.mem hb
  exact I.base.free b o ho (I.ok.frf b hb) fun z=>I.ok.exfs b z hb
theorem Inv.step {g':Array GenState} {t':Nat} {d':Drawn} {ch:List Addr} (I:Inv X pins σ H s)
  (hch:∀ b∈ch,(b∈X.ex∨X.s₀.heap.objs.size≤b)∧b≠X.env.locals∧(∀ x c,X.env.cells.lookup x=some c→c≠b)∧∀ p∈X.pn++pins,p.1≠b)
  (keep:∀ b o,b≠X.env.locals→b ∉ X.fs→b ∉ ch→s.heap.get? b=some o→H b=none→h'.get? b=some o)
  (slot:∀ b o,b≠X.env.locals→b∈X.fs→b ∉ ch→s.heap.get? b=some o→H b=none→∃ sl,h'.get? b=some { o with slots:=sl }) (free:∀ b o,b ∉ ch→s.heap.get? b=some o→H b=none→H' b=none)
  (there:∀ b o,b ∉ ch→s.heap.get? b=some o→∃ o',h'.get? b=some o')
  (tups:∀ b xs,H b=some (.tup xs)→H' b=some (.tup xs)) (frzs:∀ b o u,H b=some (.frz o u)→H' b=some (.frz o u)) (tbls:∀ b ps,H b=some (.tbl ps)→∃ more,H' b=some (.tbl (ps++more)))
  (ns:∀ m,s.heap.Ns X.env.locals m→h'.Ns X.env.locals m) (hok:HOk X.prog X.w H' h') (hg:AllBare g') :
  Inv X pins σ H' { s with heap:=h',gens:=g',drawn:=d',toks:=t' }:=by
 have neL:∀ b o,X.s₀.heap.get? b=some o→b≠X.env.locals:=fun b o e=>Nat.ne_of_lt (Nat.lt_of_lt_of_le (Heap.lt_size e) I.ok.above)
 have neC:∀ b o,X.s₀.heap.get? b=some o→b ∉ X.ex→b ∉ ch:=fun b o e hx hb=>by
  rcases (hch b hb).1 with z | z
  ·exact hx z
  ·exact absurd (Nat.lt_of_lt_of_le (Heap.lt_size e) z) (Nat.lt_irrefl _)
 have cellK:∀ x c,X.env.cells.lookup x=some c→∀ v,s.heap.IsCell c v→h'.IsCell c v:=fun x c e v ⟨o,ho,hd⟩=>by
  have nch:c ∉ ch:=fun z=>(hch c z).2.2.1 x c e rfl
  by_cases hc:c∈X.fs
  ·obtain ⟨sl,q⟩:=slot c o (I.cne x c e) hc nch ho (I.freeC x c e)
   exact ⟨_,q,hd⟩
  ·exact ⟨o,keep c o (I.cne x c e) hc nch ho (I.freeC x c e),hd⟩
 refine ⟨I.ok,I.os,hg,⟨fun b o e n hb hx=>?_,fun b o e n hb hx=>?_,fun b o e n hx=>?_,fun b o e hx=>?_,fun b xs e=>tups b xs (I.base.tups b xs e),fun b o xs e=>frzs b o xs (I.base.frzs b o xs e),fun b ps e=>?_⟩,?_,fun x c e=>?_,?_,fun x c e=>?_,fun p hp=>?_,hok,I.len⟩
 ·exact keep b o (neL b o e) hb (neC b o e hx) (I.base.keep b o e n hb hx) (I.base.free b o e n hx)
 ·obtain ⟨sl,e1⟩:=I.base.slot b o e n hb hx
  obtain ⟨sl',e2⟩:=slot b _ (neL b o e) hb (neC b o e hx) e1 (I.base.free b o e n hx)
  exact ⟨sl',e2⟩
 ·obtain ⟨o',e1⟩:=I.base.there b o e hx
  exact free b o' (neC b o e hx) e1 (I.base.free b o e n hx)
 ·obtain ⟨o',e1⟩:=I.base.there b o e hx
  exact there b o' (neC b o e hx) e1
 ·obtain ⟨m1,e1⟩:=I.base.tbls b ps e
  obtain ⟨m2,e2⟩:=tbls b _ e1
  exact ⟨m1++m2,by rw [e2,Array.append_assoc]⟩
 ·obtain ⟨m,hn,hl⟩:=I.loc
  refine ⟨m,ns m hn,fun i x v e1 e2 e3=>?_⟩
  obtain ⟨u,r,l⟩:=hl i x v e1 e2 e3
  refine ⟨u,r,?_⟩
  rcases l with l | ⟨k,c,e,z⟩
  ·exact .inl l
  ·exact .inr ⟨k,c,e,cellK x c e _ z⟩
 ·obtain ⟨v,z⟩:=I.cell x c e
  exact ⟨v,cellK x c e v z⟩
 ·obtain ⟨m,⟨o,_,_,ho,_⟩,_⟩:=I.loc
  exact free _ o (fun z=>(hch _ z).2.1 rfl) ho I.free
 ·obtain ⟨v,o,ho,hd⟩:=I.cell x c e
  exact free c o (fun z=>(hch c z).2.2.1 x c e rfl) ho (I.freeC x c e)
 ·obtain ⟨e,n,ne,nf,d⟩:=I.pin p hp
  have nch:p.1 ∉ ch:=fun z=>(hch p.1 z).2.2.2 p hp rfl
  exact ⟨keep p.1 p.2 ne nf nch e n,free p.1 p.2 nch e n,ne,nf,d⟩
theorem Inv.un {t':Nat} (I:Inv X pins σ H s) (u:Un X.fs [] H H' s.heap h') (hok:HOk X.prog X.w H' h'):Inv X pins σ H' { s with heap:=h',toks:=t' }:=by
 obtain ⟨m,⟨o,es,ep,ho,r⟩,_⟩:=id I.loc
 obtain ⟨sl,hL⟩:=u.any ho I.free (by simp)
 exact I.step (g':=s.gens) (d':=s.drawn) (ch:=[]) (fun _ z=>nomatch z) (fun b o _ hb _ e n=>u.keep b o e n hb (by simp)) (fun b o _ hb _ e n=>u.slot b o e n hb (by simp)) (fun b o _ e n=>u.free b o e n (by simp)) (fun b o _ e=>u.there b o e (by simp)) u.tups u.frzs u.tbls (fun m' hm=>by
  obtain ⟨o',es',ep',ho',r'⟩:=hm
  rw [ho] at ho'; cases ho'
  exact ⟨_,es',ep',hL,r'⟩) hok I.bare
theorem Inv.call {g':Array GenState} {t':Nat} {d':Drawn} {ch:List Addr} (I:Inv X pins σ H s) (u:Un (frs X.stack) ch H H' s.heap h') (hok:HOk X.prog X.w H' h') (hg:AllBare g')
  (hch:∀ b∈ch,(b∈X.ex∨X.s₀.heap.objs.size≤b)∧b≠X.env.locals∧(∀ x c,X.env.cells.lookup x=some c→c≠b)∧∀ p∈X.pn++pins,p.1≠b) :
  Inv X pins σ H' { s with heap:=h',gens:=g',drawn:=d',toks:=t' }:=by
 obtain ⟨m,⟨o,es,ep,ho,r⟩,_⟩:=id I.loc
 obtain ⟨sl,hL⟩:=u.any ho I.free fun z=>(hch _ z).2.1 rfl
 exact I.step (ch:=ch) hch (fun b o hL hb hc e n=>u.keep b o e n (fun z=>(List.mem_cons.mp (I.stkSub b z)).elim hL hb) hc) (fun b o _ _ hc e n=>u.any e n hc) (fun b o hc e n=>u.free b o e n hc) (fun b o hc e=>u.there b o e hc) u.tups u.frzs u.tbls (fun m' hm=>by
  obtain ⟨o',es',ep',ho',r'⟩:=hm
  rw [ho] at ho'; cases ho'
  exact ⟨_,es',ep',hL,r'⟩) hok hg
theorem Inv.turned {t':Nat} {it:Addr} (I:Inv X pins σ H s) (k:∀ b o,b≠it→s.heap.get? b=some o→h'.get? b=some o) (hn:H it=none) (hL:it≠X.env.locals)
  (h1:it∈X.ex∨X.s₀.heap.objs.size≤it) (h2:∀ x c,X.env.cells.lookup x=some c→c≠it) (h3:∀ p∈X.pn++pins,p.1≠it):Inv X pins σ H { s with heap:=h',toks:=t' }:=by
 have nit:∀ b u,H b=some u→b≠it:=fun b u e z=>by rw [z,hn] at e; cases e
 refine I.step (g':=s.gens) (d':=s.drawn) (ch:=[it]) (fun b hb=>?_) (fun b o _ _ hc e _=>k b o (fun z=>hc (by simp [z])) e) (fun b o _ _ hc e _=>⟨o.slots,k b o (fun z=>hc (by simp [z])) e⟩) (fun _ _ _ _ n=>n)
  (fun b o hc e=>⟨o,k b o (fun z=>hc (by simp [z])) e⟩) (fun _ _ e=>e) (fun _ _ _ e=>e) (fun b ps e=>⟨#[],by rw [e]; simp⟩) (fun m hm=>?_) (fun b u e=>?_) I.bare
 ·have e:b=it:=by simpa using hb
  subst e
  exact ⟨h1,hL,h2,h3⟩
 ·obtain ⟨o,es,ep,ho,r⟩:=hm
  exact ⟨o,es,ep,k _ o (Ne.symm hL) ho,r⟩
 ·refine (I.hok b u e).stay (fun c v hc q=>k c v ?_ q) (fun _ q=>q) fun _ _ q=>q
  rcases hc with z | z
  ·rw [z]; exact nit b u e
  ·exact nit c _ z
theorem Inv.tok (I:Inv X pins σ H s) (t:Nat):Inv X pins σ H { s with toks:=t }:=I.un (h':=s.heap) (t':=t) Un.refl I.hok
theorem Inv.kept {t':Nat} (I:Inv X pins σ H s) (k:∀ b u,s.heap.get? b=some u→h'.get? b=some u):Inv X pins σ H { s with heap:=h',toks:=t' }:=I.un (Un.kept k) (I.hok.kept k)
theorem Inv.laid {a:Addr} {o:HO} {t':Nat} (I:Inv X pins σ H s) (k:∀ b u,s.heap.get? b=some u→h'.get? b=some u) (hp:s.heap.objs.size≤a) (new:eC X.prog X.w (upd H a o) h' a o) :
  Inv X pins σ (upd H a o) { s with heap:=h',toks:=t' }:=I.un (Un.laid k hp (I.hok.fresh hp)) (I.hok.laid k hp new)
theorem Inv.write {x e:Addr} {o:HO} {t':Nat} (I:Inv X pins σ H s) (mu:Mut (H x)) (he:e=x∨H e=some (.own x)) (k:∀ b u,b≠e→s.heap.get? b=some u→h'.get? b=some u) (heo:∃ u,h'.get? e=some u)
  (new:eC X.prog X.w (upd H x o) h' x o):Inv X pins σ (upd H x o) { s with heap:=h',toks:=t' }:=I.un (Un.write mu he k heo) (I.hok.write mu he k heo new)
theorem Inv.pins_of {pins':List (Addr × Obj)} (I:Inv X pins σ H s) (h:∀ p∈pins',s.heap.get? p.1=some p.2∧H p.1=none∧p.1≠X.env.locals∧p.1 ∉ X.fs∧∀ v,p.2.data≠.cell v):Inv X pins' σ H s :=
 ⟨I.ok,I.os,I.bare,I.base,I.loc,I.cell,I.free,I.freeC,fun p hp=>(List.mem_append.mp hp).elim (fun z=>I.pin p (List.mem_append_left _ z)) (h p),I.hok,I.len⟩
theorem acR {N:List Str} (hN:N.Nodup) {i j:Nat} {x:Str} (a:N[i]?=some x) (b:N[j]?=some x):i=j:=by
 obtain ⟨h1,e1⟩:=List.getElem?_eq_some_iff.mp a
 obtain ⟨h2,e2⟩:=List.getElem?_eq_some_iff.mp b
 exact (List.getElem_inj hN).mp (e1.trans e2.symm)
theorem ad8 {M:Model} {A:Around} {E:Value→Shared→Prop} {i:Nat} {x:Str} {v:V} {u:Value} {Q:Unit→Shared→Prop} (I:Inv X pins σ H s) (hN:X.N.Nodup) (hi:X.N[i]?=some x) (hx:Loc X.env.scope x) (r:bM v u)
  (h:∀ s',Inv X pins (σ.set i (some v)) H s'→(∃ a,Heap.SameBut a s.heap s'.heap∧(a=X.env.locals∨X.env.cells.lookup x=some a))→Q () s') (hf:X.fn x=true∨X.env.scope.names.lookup x=some .local:=by first | exact .inl rfl | exact .inr rfl | assumption):wpAny M A (storeName X.env x u) Q E s:=by
 obtain ⟨m,hn,hl⟩:=id I.loc
 have hcls:(X.env.scope.kind == .class || (X.env.scope.kind == .module && X.env.locals != X.env.globals))=false:=by rw [I.ok.kind]; rfl
 have hiσ:i < σ.length:=by rw [I.len]; exact (List.getElem?_eq_some_iff.mp hi).1
 have cne:=I.cne
 have tracked:∀ {a:Addr} {h':Heap},(∃ o,s.heap.get? a=some o∧H a=none)→Heap.SameBut a s.heap h'→HOk X.prog X.w H h':=fun {a h'} ha hs b ob e=>by
  obtain ⟨_,_,hfree⟩:=ha
  refine (I.hok b ob e).stay (fun c w' hc q=>(hs.2 c ?_).trans q) (fun _ q=>q) fun _ _ q=>q
  rintro rfl
  rcases hc with rfl | hc
  ·rw [hfree] at e; cases e
  ·rw [hfree] at hc; cases hc
 rcases hx with hk | hk
 ·refine wpAny_storeName_local hk hn (fun h' hn' hs=>?_) hcls
  obtain ⟨oL,_,_,hoL,_⟩:=id hn
  refine h _ ⟨I.ok,I.os,I.bare,⟨fun b o e n hb hx=>?_,fun b o e n hb hx=>?_,I.base.free,fun b o e hx=>?_,I.base.tups,I.base.frzs,I.base.tbls⟩,⟨_,hn',fun j y v' e1 e2 e3=>?_⟩,fun y c e=>?_,I.free,I.freeC,fun p hp=>?_,tracked ⟨oL,hoL,I.free⟩ hs,by simpa using I.len⟩ ⟨_,hs,.inl rfl⟩
  ·exact (hs.2 b (Nat.ne_of_lt (Nat.lt_of_lt_of_le (Heap.lt_size e) I.ok.above))).trans (I.base.keep b o e n hb hx)
  ·obtain ⟨sl,e1⟩:=I.base.slot b o e n hb hx
   exact ⟨sl,(hs.2 b (Nat.ne_of_lt (Nat.lt_of_lt_of_le (Heap.lt_size e) I.ok.above))).trans e1⟩
  ·obtain ⟨o',e1⟩:=I.base.there b o e hx
   exact ⟨o',(hs.2 b (Nat.ne_of_lt (Nat.lt_of_lt_of_le (Heap.lt_size e) I.ok.above))).trans e1⟩
  ·by_cases hj:j=i
   ·subst hj
    rw [hi] at e1; cases e1
    rw [List.getElem?_set_self hiσ] at e2
    cases e2
    exact ⟨u,r,.inl ⟨hk,by simp⟩⟩
   ·rw [List.getElem?_set_ne (Ne.symm hj)] at e2
    obtain ⟨u',r',q⟩:=hl j y v' e1 e2 e3
    refine ⟨u',r',?_⟩
    rcases q with ⟨k,e⟩ | ⟨k,c,e,z⟩
    ·refine .inl ⟨k,?_⟩
     have:y≠x:=fun e=>hj (acR hN e1 (e ▸ hi))
     simp [this,e]
    ·exact .inr ⟨k,c,e,z.sameBut hs (cne y c e)⟩
  ·obtain ⟨w',z⟩:=I.cell y c e
   exact ⟨w',z.sameBut hs (cne y c e)⟩
  ·obtain ⟨e,n,ne,nf,d⟩:=I.pin p hp
   exact ⟨(hs.2 p.1 ne).trans e,n,ne,nf,d⟩
 ·have hfn:X.fn x=true:=by
   rcases hf with z | z
   ·exact z
   ·rw [z] at hk; cases hk
  obtain ⟨c,hc⟩:=I.ok.has x (.inl hk)
  obtain ⟨w',z⟩:=I.cell x c hc
  refine wpAny_storeName_cell I.ok.kind hk hc z (fun h' hc' hs=>?_)
  obtain ⟨oc,hoc,hocd⟩:=id z
  refine h { s with heap:=h' } ⟨I.ok,I.os,I.bare,⟨fun b o e n hb hx=>?_,fun b o e n hb hx=>?_,I.base.free,fun b o e hx=>?_,I.base.tups,I.base.frzs,I.base.tbls⟩,⟨m,hn.sameBut hs (Ne.symm (cne x c hc)),fun j y v' e1 e2 e3=>?_⟩,fun y c' e=>?_,I.free,I.freeC,fun p hp=>?_,tracked ⟨oc,hoc,I.freeC x c hc⟩ hs,by simpa using I.len⟩ ⟨c,hs,.inr hc⟩
  ·exact (hs.2 b (Nat.ne_of_lt (Nat.lt_of_lt_of_le (Heap.lt_size e) (I.ok.cab x c hfn hc)))).trans (I.base.keep b o e n hb hx)
  ·obtain ⟨sl,e1⟩:=I.base.slot b o e n hb hx
   exact ⟨sl,(hs.2 b (Nat.ne_of_lt (Nat.lt_of_lt_of_le (Heap.lt_size e) (I.ok.cab x c hfn hc)))).trans e1⟩
  ·obtain ⟨o',e1⟩:=I.base.there b o e hx
   exact ⟨o',(hs.2 b (Nat.ne_of_lt (Nat.lt_of_lt_of_le (Heap.lt_size e) (I.ok.cab x c hfn hc)))).trans e1⟩
  ·by_cases hj:j=i
   ·subst hj
    rw [hi] at e1; cases e1
    rw [List.getElem?_set_self hiσ] at e2
    cases e2
    exact ⟨u,r,.inr ⟨.inl hk,c,hc,hc'⟩⟩
   ·rw [List.getElem?_set_ne (Ne.symm hj)] at e2
    obtain ⟨u',r',q⟩:=hl j y v' e1 e2 e3
    refine ⟨u',r',?_⟩
    rcases q with q | ⟨k,c',e,z'⟩
    ·exact .inl q
    ·refine .inr ⟨k,c',e,z'.sameBut hs ?_⟩
     rintro rfl
     exact hj (acR hN e1 (I.ok.inj _ _ _ e hc ▸ hi))
  ·by_cases hcc:c'=c
   ·subst hcc; exact ⟨_,hc'⟩
   ·obtain ⟨w2,z2⟩:=I.cell y c' e
    exact ⟨w2,z2.sameBut hs hcc⟩
  ·obtain ⟨e,n,ne,nf,d⟩:=I.pin p hp
   refine ⟨(hs.2 p.1 ?_).trans e,n,ne,nf,d⟩
   intro q
   rw [q,hoc] at e
   have q':oc=p.2:=Option.some.inj e
   exact d w' (by rw [← q']; exact hocd)
theorem lP {M:Model} {A:Around} {E:Value→Shared→Prop} {i:Nat} {x:Str} {v:V} {u:Value} {Q:Unit→Shared→Prop} (I:Inv X pins σ H s) (hN:X.N.Nodup) (hi:X.N[i]?=some x) (hx:Loc X.env.scope x) (r:bM v u)
  (h:∀ s',Inv X pins (σ.set i (some v)) H s'→Q () s') (hf:X.fn x=true∨X.env.scope.names.lookup x=some .local:=by first | exact .inl rfl | exact .inr rfl | assumption):wpAny M A (storeName X.env x u) Q E s :=
 ad8 I hN hi hx r (fun s' I' _=>h s' I') hf
theorem Inv.call' {s':Shared} {ch:List Addr} (I:Inv X pins σ H s) (ho:s'.os=s.os) (u:Un (frs X.stack) ch H H' s.heap s'.heap) (hok:HOk X.prog X.w H' s'.heap) (hg:AllBare s'.gens)
  (hch:∀ b∈ch,(b∈X.ex∨X.s₀.heap.objs.size≤b)∧b≠X.env.locals∧(∀ x c,X.env.cells.lookup x=some c→c≠b)∧∀ p∈X.pn++pins,p.1≠b):Inv X pins σ H' s':=by
 obtain ⟨h',g',d',t',o'⟩:=s'
 have e:o'=s.os:=ho
 subst e
 exact I.call (g':=g') (t':=t') (d':=d') u hok hg hch
end
abbrev XK:=Value→Option Addr→Hp→Prop
abbrev St:=List (Option V)
abbrev VK:=V→Hp→Prop
abbrev TE:=St→Hp→VK→Prop
abbrev TT:=St→Hp→(Bool→Hp→Prop)→Prop
abbrev TA:=St→Hp→(List V→Hp→Prop)→Prop
structure jI where
 nx:St→Hp→Prop
 rt:VK
 bk:St→Hp→Prop:=fun _ _=>False
 ct:St→Hp→Prop:=fun _ _=>False
abbrev TS:=jI→St→Hp→Prop
def EP (X:Cx) (pins:List (Addr × Obj)) (σ:St) (Q:VK) (u:Value) (s':Shared):Prop:=∃ v H',Inv X pins σ H' s'∧bM v u∧Q v H'
def TP (X:Cx) (pins:List (Addr × Obj)) (σ:St) (Q:Bool→Hp→Prop) (b:Bool) (s':Shared):Prop:=∃ H',Inv X pins σ H' s'∧Q b H'
def AP (X:Cx) (pins:List (Addr × Obj)) (σ:St) (Q:List V→Hp→Prop) (us:List Value) (s':Shared):Prop:=∃ vs H',Inv X pins σ H' s'∧bC vs us∧Q vs H'
def SP (X:Cx) (pins:List (Addr × Obj)) (D:jI) (f:Flow) (s':Shared):Prop :=
 match f with
 | .next=>∃ σ' H',Inv X pins σ' H' s'∧D.nx σ' H'
 | .brk=>∃ σ' H',Inv X pins σ' H' s'∧D.bk σ' H'
 | .cont=>∃ σ' H',Inv X pins σ' H' s'∧D.ct σ' H'
 | .ret u=>∃ v σ' H',Inv X pins σ' H' s'∧bM v u∧D.rt v H'
def PE (X:Cx) (e:Expr) (t:TE):Prop :=
 ∀ (pins:List (Addr × Obj)) (s:Shared) (σ:St) (H:Hp) (Q:VK),Inv X pins σ H s→t σ H Q→wpAny (model X.prog X.w) X.A (eval e X.env) (EP X pins σ Q) X.xe s
def PT (X:Cx) (e:Expr) (t:TT):Prop :=
 ∀ (pins:List (Addr × Obj)) (s:Shared) (σ:St) (H:Hp) (Q:Bool→Hp→Prop),Inv X pins σ H s→t σ H Q→wpAny (model X.prog X.w) X.A (isTrue e X.env (eval e X.env)) (TP X pins σ Q) X.xe s
def PW (X:Cx) (e:Expr) (t:TT):Prop :=
 ∀ (whole:Sem Value) (pins:List (Addr × Obj)) (s:Shared) (σ:St) (H:Hp) (Q:Bool→Hp→Prop),Inv X pins σ H s→t σ H Q→wpAny (model X.prog X.w) X.A (isTrue e X.env whole) (TP X pins σ Q) X.xe s
theorem PW.pt {X:Cx} {e:Expr} {t:TT} (h:PW X e t):PT X e t:=h _
def PA (X:Cx) (es:List Expr) (t:TA):Prop :=
 ∀ (pos:Pos) (pins:List (Addr × Obj)) (s:Shared) (σ:St) (H:Hp) (Q:List V→Hp→Prop),Inv X pins σ H s→t σ H Q→wpAny (model X.prog X.w) X.A (spliced (backTo pos (starEach es X.env))) (AP X pins σ Q) X.xe s
def PS (X:Cx) (st:Stmt) (t:TS):Prop :=
 ∀ (pins:List (Addr × Obj)) (s:Shared) (σ:St) (H:Hp) (D:jI),Inv X pins σ H s→t D σ H→wpAny (model X.prog X.w) X.A (exec st X.env) (SP X pins D) X.xe s
def PSs (X:Cx) (st:List Stmt) (t:TS):Prop :=
 ∀ (pins:List (Addr × Obj)) (s:Shared) (σ:St) (H:Hp) (D:jI),Inv X pins σ H s→t D σ H→wpAny (model X.prog X.w) X.A (execs st X.env) (SP X pins D) X.xe s
theorem thn {α:Type} {t:Sem α} {Q Q':α→Shared→Prop} {M:Model} {A:Around} {E:Value→Shared→Prop} {s:Shared} (h:wpAny M A t Q E s) (hQ:∀ a s,Q a s→Q' a s):wpAny M A t Q' E s:=wpAny_mono h hQ fun _ _ x=>x
end L2
namespace L2
open PySem PySem.Spec PyProof.Rows
section
variable {X:Cx}
theorem bin {a b:Expr} {ta tb:TE} (ha:PE X a ta) (hb:PE X b tb) {pins:List (Addr × Obj)} {s:Shared} {σ:St} {H:Hp} {R:V→V→Hp→Prop} (I:Inv X pins σ H s) (h:ta σ H fun x H1=>tb σ H1 fun y H2=>R x y H2)
  {α:Type} {Q:α→Shared→Prop} {f:Value→Value→Sem α}
  (hf:∀ v u s2 x y H2,Inv X pins σ H2 s2→bM x v→bM y u→R x y H2→wpAny (model X.prog X.w) X.A (f v u) Q X.xe s2) :
  wpAny (model X.prog X.w) X.A (eval a X.env) (fun v s₁=>wpAny (model X.prog X.w) X.A (eval b X.env) (fun u s₂=>wpAny (model X.prog X.w) X.A (f v u) Q X.xe s₂) X.xe s₁) X.xe s:=by
 refine thn (ha pins s σ H _ I h) fun v s1 ⟨x,H1,I1,r1,q1⟩=>?_
 refine thn (hb pins s1 σ H1 _ I1 q1) fun u s2 ⟨y,H2,I2,r2,q2⟩=>?_
 exact hf v u s2 x y H2 I2 r1 r2 q2
def akP (i:Nat):TE:=fun σ H Q=>∃ v,σ[i]?=some (some v)∧Q v H
def tC (v:V):TE:=fun _ H Q=>Q v H
theorem ags {i:Nat} {x:Str} {pos:Pos} (hN:X.N[i]?=some x) (hv:Vis X.env.scope x) (hd:(x == ("__debug__":Str))=false:=by decide) (hcd:(x == ("__classdict__":Str))=false:=by decide):PE X (.Name x pos) (akP i):=by
 intro pins s σ H Q I h
 obtain ⟨v,e,h⟩:=h
 obtain ⟨m,hn,hl⟩:=I.loc
 obtain ⟨u,r,l⟩:=hl i x v hN e hv
 have fin:EP X pins σ Q u s:=⟨v,H,I,r,h⟩
 rcases l with ⟨hk,hm⟩ | ⟨hk,c,hc,hcell⟩
 ·exact wpAny_Name (wpAny_loadName_local I.ok.kind hk hn hm fin) hd
 ·rcases hk with hk | hk
  ·exact wpAny_Name (wpAny_loadName_cell I.ok.kind hk hc hcell fin) hd
  ·exact wpAny_Name (wpAny_loadName_free I.ok.kind hk hc hcell fin hcd) hd
theorem ajH {i j pos}:PE X (.Constant (.int i) j pos) (tC (.int i)):=fun _ _ _ H _ I h=>wpAny_Constant_int ⟨.int i,H,I.tok _,⟨_,rfl⟩,h⟩
theorem akp {b j pos}:PE X (.Constant (.bool b) j pos) (tC (.bl b)):=fun _ _ _ H _ I h=>Constant_bool ⟨.bl b,H,I,rfl,h⟩
theorem aga {j pos}:PE X (.Constant .none j pos) (tC .non):=fun _ _ _ H _ I h=>Constant_none ⟨.non,H,I,rfl,h⟩
theorem zT {x j pos}:PE X (.Constant (.str x) j pos) (tC (.str x)):=fun _ _ _ H _ I h=>Calls.Constant_str ⟨.str x,H,I.tok _,⟨_,rfl⟩,h⟩
def Gl (X:Cx) (x:Str):Prop:=X.env.kindOf x=some .globalImplicit
theorem qE {E:Value→Shared→Prop} {pins:List (Addr × Obj)} {s:Shared} {σ:St} {H:Hp} {x:Str} {u:Value} {pos:Pos} {Q:Value→Shared→Prop} (I:Inv X pins σ H s) (hg:Gl X x) (hm:X.mg x=some u) (h:Q u s)
  (hd:(x == ("__debug__":Str))=false:=by decide):wpAny (model X.prog X.w) X.A (eval (.Name x pos) X.env) Q E s :=
 Calls.Name_function_global I.ok.kind hg (Calls.loadGlobal_global (by rw [I.ok.glob]; exact I.mod.glob.keeps I.bk) hm h) hd
theorem oM {E:Value→Shared→Prop} {pins:List (Addr × Obj)} {s:Shared} {σ:St} {H:Hp} {x:Str} {u:Value} {pos:Pos} {Q:Value→Shared→Prop} (I:Inv X pins σ H s) (hg:Gl X x) (hm:X.mg x=none) (hv:bootBuiltins x=some u) (h:Q u s)
  (hn:x≠"__name__":=by decide) (hd:(x == ("__debug__":Str))=false:=by decide):wpAny (model X.prog X.w) X.A (eval (.Name x pos) X.env) Q E s:=by
 obtain ⟨mb,h1,h2⟩:=I.mod.blt
 exact Calls.Name_function_global I.ok.kind hg (Calls.loadGlobal_builtin (by rw [I.ok.glob]; exact I.mod.glob.keeps I.bk) hm (by rw [I.ok.blt]; exact h1.keeps I.bk) ((h2 x hn).trans hv) h) hd
theorem agL {x:Str} {v:V} {u:Value} {pos:Pos} (hg:Gl X x) (hm:X.mg x=some u) (r:bM v u) (hd:(x == ("__debug__":Str))=false:=by decide):PE X (.Name x pos) (tC v) :=
 fun _ _ _ H _ I h=>qE I hg hm ⟨v,H,I,r,h⟩ hd
theorem ahV {x:Str} {v:V} {u:Value} {pos:Pos} (hg:Gl X x) (hm:X.mg x=none) (hv:bootBuiltins x=some u) (r:bM v u) (hn:x≠"__name__":=by decide) (hd:(x == ("__debug__":Str))=false:=by decide):PE X (.Name x pos) (tC v) :=
 fun _ _ _ H _ I h=>oM I hg hm hv ⟨v,H,I,r,h⟩ hn hd
variable {a b:Expr} {ta tb:TE} {pos:Pos}
def PC (X:Cx) (op:CmpOp) (a b:Expr) (t:TE):Prop :=
 ∀ (pins:List (Addr × Obj)) (s:Shared) (σ:St) (H:Hp) (Q:VK),Inv X pins σ H s→t σ H Q →
  wpAny (model X.prog X.w) X.A (eval a X.env) (fun v s₁=>wpAny (model X.prog X.w) X.A (eval b X.env) (fun u s₂=>wpAny (model X.prog X.w) X.A (compareOp op v u) (EP X pins σ Q) X.xe s₂) X.xe s₁) X.xe s
theorem afP (b:Expr) {op:CmpOp} (h:op≠.In) (h2:op≠.NotIn):behindInMarks op b=false:=by
 have e1:(op == CmpOp.In)=false:=by cases op <;> first | rfl | exact absurd rfl h
 have e2:(op == CmpOp.NotIn)=false:=by cases op <;> first | rfl | exact absurd rfl h2
 cases b <;> simp [behindInMarks,e1,e2]
def akS (ta:TE):TE:=fun σ H Q=>ta σ H fun x H1=>Q (.bl (decide (x=.non))) H1
theorem bM.none_iff {x:V} {v:Value} (r:bM x v):(v == Value.none)=decide (x=.non):=by
 cases x with
 | non=>cases r; rfl
 | bl _=>cases r; rfl
 | int _=>obtain ⟨t,rfl⟩:=r; rfl
 | str _=>obtain ⟨t,rfl⟩:=r; rfl
 | byt _=>obtain ⟨t,rfl⟩:=r; rfl
 | flt _=>obtain ⟨t,rfl⟩:=r; rfl
 | ref _=>cases r; rfl
 | ty _=>cases r; rfl
theorem aim {j pos'} (ha:PE X a ta):PC X .Is a (.Constant .none j pos') (akS ta):=by
 intro pins s σ H Q I h
 refine thn (ha pins s σ H _ I h) fun v s1 ⟨x,H1,I1,r1,q1⟩=>?_
 exact Constant_none (is_none_gen ⟨.bl _,H1,I1,by rw [r1.none_iff]; rfl,q1⟩)
def tB (t:TE):TT:=fun σ H Q=>t σ H fun x H1=>∃ c,x=.bl c∧Q c H1
theorem aiy {op:CmpOp} {t:TE} (h:PC X op a b t) (h1:behindInMarks op b=false:=by first | exact afP _ (by decide) (by decide) | rfl):PT X (.Compare a [op] [b] pos) (tB t):=by
 intro pins s σ H Q I hw
 refine wpAny_isTrue_Compare1 (thn (h pins s σ H _ I hw) fun v s1 h1=>thn h1 fun u s2 h2=>thn h2 fun c s3 ⟨x,H1,I1,r1,q1⟩=>?_) h1
 obtain ⟨d,rfl,q⟩:=q1
 cases r1
 exact wpAny_truthy_bool ⟨H1,I1,q⟩
theorem ah8 {e:Expr} {t:TE} (h:PE X e t) (he:∀ whole,isTrue e X.env whole=(do let v ← whole; standAt e.pos; holding [v] (truthy v)):=by intro _; rfl):PT X e (tB t):=by
 intro pins s σ H Q I hw
 refine isTrue_plain (thn (h pins s σ H _ I hw) fun v s1 ⟨x,H1,I1,r1,q1⟩=>?_) (he _)
 obtain ⟨d,rfl,q⟩:=q1
 cases r1
 exact wpAny_truthy_bool ⟨H1,I1,q⟩
variable {tA tB':TT} {dQ:List Expr}
def alr (t u:TT):TT:=fun σ H Q=>t σ H fun c H1=>if c=true then u σ H1 Q else Q false H1
def tOr (t u:TT):TT:=fun σ H Q=>t σ H fun c H1=>if c=true then Q true H1 else u σ H1 Q
def ala (t:TT):TT:=fun σ H Q=>t σ H fun c H1=>Q (!c) H1
theorem agT (ha:PT X a tA):PW X (.BoolOp .And [a] pos) tA:=by
 intro wh pins s σ H Q I h
 refine isTrue_and (thn (ha pins s σ H Q I h) fun c s1 e=>?_)
 cases c with
 | true=>exact isTrue_and_nil e
 | false=>exact e
theorem ajF (ha:PT X a tA):PW X (.BoolOp .Or [a] pos) tA:=by
 intro wh pins s σ H Q I h
 refine isTrue_or (thn (ha pins s σ H Q I h) fun c s1 e=>?_)
 cases c with
 | false=>exact isTrue_or_nil e
 | true=>exact e
theorem ajw (ha:PT X a tA) (hb:PW X (.BoolOp .And (b :: dQ) pos) tB'):PW X (.BoolOp .And (a :: b :: dQ) pos) (alr tA tB'):=by
 intro wh pins s σ H Q I h
 refine isTrue_and (thn (ha pins s σ H _ I h) fun c s1 ⟨H1,I1,q1⟩=>?_)
 cases c with
 | true=>exact hb wh pins s1 σ H1 Q I1 q1
 | false=>exact ⟨H1,I1,q1⟩
theorem akn (ha:PT X a tA) (hb:PW X (.BoolOp .Or (b :: dQ) pos) tB'):PW X (.BoolOp .Or (a :: b :: dQ) pos) (tOr tA tB'):=by
 intro wh pins s σ H Q I h
 refine isTrue_or (thn (ha pins s σ H _ I h) fun c s1 ⟨H1,I1,q1⟩=>?_)
 cases c with
 | true=>exact ⟨H1,I1,q1⟩
 | false=>exact hb wh pins s1 σ H1 Q I1 q1
theorem aiu (ha:PT X a tA):PT X (.UnaryOp .Not a pos) (ala tA):=by
 intro pins s σ H Q I h
 exact isTrue_not (ha pins s σ H (fun c H1=>Q (!c) H1) I h)
def ako (ta tb:TE):TE:=fun σ H Q=>ta σ H fun x H1=>∃ c,x=.bl c∧if c=true then tb σ H1 Q else Q (.bl false) H1
def ak6 (ta tb:TE):TE:=fun σ H Q=>ta σ H fun x H1=>∃ c,x=.bl c∧if c=true then Q (.bl true) H1 else tb σ H1 Q
def akv (ta:TE):TE:=fun σ H Q=>ta σ H fun x H1=>∃ c,x=.bl c∧Q (.bl (!c)) H1
theorem aiw {op} {t:TE} (h:PE X a t):PE X (.BoolOp op [a] pos) t:=fun pins s σ H Q I hw=>BoolOp_one (h pins s σ H Q I hw)
theorem ajW (ha:PE X a ta) (hb:PE X (.BoolOp .And (b :: dQ) pos) tb):PE X (.BoolOp .And (a :: b :: dQ) pos) (ako ta tb):=by
 intro pins s σ H Q I h
 refine BoolOp_and (thn (ha pins s σ H _ I h) fun v s1 ⟨x,H1,I1,r1,q1⟩=>?_)
 obtain ⟨c,rfl,q1⟩:=q1
 cases r1
 refine wpAny_truthy_bool ?_
 cases c with
 | true=>exact hb pins s1 σ H1 Q I1 q1
 | false=>exact ⟨.bl false,H1,I1,rfl,q1⟩
theorem aj3 (ha:PE X a ta) (hb:PE X (.BoolOp .Or (b :: dQ) pos) tb):PE X (.BoolOp .Or (a :: b :: dQ) pos) (ak6 ta tb):=by
 intro pins s σ H Q I h
 refine BoolOp_or (thn (ha pins s σ H _ I h) fun v s1 ⟨x,H1,I1,r1,q1⟩=>?_)
 obtain ⟨c,rfl,q1⟩:=q1
 cases r1
 refine wpAny_truthy_bool ?_
 cases c with
 | false=>exact hb pins s1 σ H1 Q I1 q1
 | true=>exact ⟨.bl true,H1,I1,rfl,q1⟩
theorem ajG (ha:PE X a ta):PE X (.UnaryOp .Not a pos) (akv ta):=by
 intro pins s σ H Q I h
 refine UnaryOp_ (thn (ha pins s σ H _ I h) fun v s1 ⟨x,H1,I1,r1,q1⟩=>?_)
 obtain ⟨c,rfl,q1⟩:=q1
 cases r1
 exact not_of (wpAny_truthy_bool ⟨.bl (!c),H1,I1,rfl,q1⟩)
def tIf (t:TT) (ta tb:TE):TE:=fun σ H Q=>t σ H fun c H1=>if c=true then ta σ H1 Q else tb σ H1 Q
theorem afT {c:Expr} (hc:PT X c tA) (ha:PE X a ta) (hb:PE X b tb):PE X (.IfExp c a b pos) (tIf tA ta tb):=by
 intro pins s σ H Q I h
 refine wpAny_IfExp (thn (hc pins s σ H _ I h) fun d s1 ⟨H1,I1,q1⟩=>?_)
 cases d with
 | true=>exact ha pins s1 σ H1 Q I1 q1
 | false=>exact hb pins s1 σ H1 Q I1 q1
end
end L2
namespace L2
open PySem PySem.Spec PyProof.Rows
def SqL (K:PySem.W.Frag) (H:Hp) (a:Addr) (xs:List V):Prop :=
 Rd H a (.lst xs) ∨
  ∃ (o:Obj) (its:Array Value) (n:Nat),K.lookup a=some o∧o.cls=.type "list"∧o.dict=none∧o.data=.seq its n∧its.size≤sizeLine∧bC xs its.toList
def SqT (K:PySem.W.Frag) (H:Hp) (a:Addr) (xs:List V):Prop :=
 Rd H a (.tup xs) ∨
  ∃ (o:Obj) (its:Array Value) (n:Nat),K.lookup a=some o∧o.cls=.type "tuple"∧o.data=.seq its n∧its.size≤sizeLine∧bC xs its.toList
def ak5:Value→Option V
 | .none=>some .non
 | .bool b=>some (.bl b)
 | .int i _=>some (.int i)
 | .str x _=>some (.str x)
 | .bytes b _=>some (.byt b)
 | .float b _=>some (.flt b)
 | .ref a=>some (.ref a)
 | .type n=>some (.ty n)
 | _=>none
theorem bM.abs {x:V} {u:Value} (r:bM x u):ak5 u=some x:=by
 cases x with
 | non=>cases r; rfl
 | bl _=>cases r; rfl
 | int _=>obtain ⟨t,rfl⟩:=r; rfl
 | str _=>obtain ⟨t,rfl⟩:=r; rfl
 | byt _=>obtain ⟨t,rfl⟩:=r; rfl
 | flt _=>obtain ⟨t,rfl⟩:=r; rfl
 | ref _=>cases r; rfl
 | ty _=>cases r; rfl
theorem bM.inj {x y:V} {u:Value} (r:bM x u) (q:bM y u):x=y:=Option.some.inj (r.abs.symm.trans q.abs)
theorem bC.inj:∀ {xs ys:List V} {us:List Value},bC xs us→bC ys us→xs=ys
 | _,_,_,.nil,.nil=>rfl
 | _,_,_,.cons r t,.cons r' t'=>by rw [r.inj r',bC.inj t t']
section
variable {X:Cx} {pins:List (Addr × Obj)} {σ:St} {H:Hp} {s:Shared} {a:Addr} {xs ys:List V}
theorem SqL.of {K:PySem.W.Frag} (h:H a=some (.lst xs)):SqL K H a xs:=.inl (.inl h)
theorem SqT.of {K:PySem.W.Frag} (h:H a=some (.tup xs)):SqT K H a xs:=.inl (.inl h)
theorem Inv.list (I:Inv X pins σ H s) (h:SqL X.K H a xs):∃ its:List Value,bC xs its∧PlainL s.heap a its.toArray∧xs.length≤sizeLine:=by
 rcases h with h | ⟨o,its,n,hk,hc,hd,hs,hz,r⟩
 ·obtain ⟨z,its,n,r,e⟩:=h.ok I.hok
  exact ⟨its,r,⟨_,n,e,rfl,rfl,rfl⟩,z⟩
 ·refine ⟨its.toList,r,⟨o,n,I.kIn a o hk,hc,hd,by simpa using hs⟩,?_⟩
  have e:=r.length
  simp only [Array.length_toList] at e
  omega
theorem Inv.tuple (I:Inv X pins σ H s) (h:SqT X.K H a xs):∃ its:List Value,bC xs its∧IsTup s.heap a its.toArray∧xs.length≤sizeLine:=by
 rcases h with h | ⟨o,its,n,hk,hc,hs,hz,r⟩
 ·obtain ⟨z,its,r,p⟩:=h.ok I.hok
  exact ⟨its,r,p,z⟩
 ·refine ⟨its.toList,r,⟨o,I.kIn a o hk,hc,n,by simpa using hs⟩,?_⟩
  have e:=r.length
  simp only [Array.length_toList] at e
  omega
theorem Inv.list_inj (I:Inv X pins σ H s) (h:SqL X.K H a xs) (h':SqL X.K H a ys):xs=ys:=by
 obtain ⟨its,r,⟨o,n,e,_,_,d⟩,_⟩:=I.list h
 obtain ⟨its',r',⟨o',n',e',_,_,d'⟩,_⟩:=I.list h'
 rw [e] at e'; cases e'
 rw [d] at d'
 injection d' with d1 _
 have:its=its':=by simpa using congrArg Array.toList d1
 subst this
 exact r.inj r'
theorem Inv.tuple_inj (I:Inv X pins σ H s) (h:SqT X.K H a xs) (h':SqT X.K H a ys):xs=ys:=by
 obtain ⟨its,r,⟨o,e,_,n,d⟩,_⟩:=I.tuple h
 obtain ⟨its',r',⟨o',e',_,n',d'⟩,_⟩:=I.tuple h'
 rw [e] at e'; cases e'
 rw [d] at d'
 injection d' with d1 _
 have:its=its':=by simpa using congrArg Array.toList d1
 subst this
 exact r.inj r'
end
abbrev Cx.wish (X:Cx) (E:Value→Shared→Prop):Cx:={ X with xe:=E }
abbrev Cx.nox (X:Cx):Cx:=X.wish fun _ _=>False
theorem Cx.Ok.wish {X:Cx} (ok:X.Ok) (E:Value→Shared→Prop):(X.wish E).Ok :=
 ⟨ok.mod,ok.kind,ok.glob,ok.blt,ok.above,ok.inj,ok.has,ok.cab,ok.hd,ok.frames,ok.stk,ok.exf,ok.bs,ok.bsz,ok.noex,ok.exfs,ok.funs,ok.frf⟩
theorem Cx.Ok.unwish {X:Cx} {E:Value→Shared→Prop} (ok:(X.wish E).Ok):X.Ok :=
 ⟨ok.mod,ok.kind,ok.glob,ok.blt,ok.above,ok.inj,ok.has,ok.cab,ok.hd,ok.frames,ok.stk,ok.exf,ok.bs,ok.bsz,ok.noex,ok.exfs,ok.funs,ok.frf⟩
section
variable {X:Cx} {pins:List (Addr × Obj)} {σ:St} {H:Hp} {s:Shared} {E:Value→Shared→Prop}
theorem Inv.wish (I:Inv X pins σ H s) (E:Value→Shared→Prop):Inv (X.wish E) pins σ H s:=⟨I.ok.wish E,I.os,I.bare,I.base,I.loc,I.cell,I.free,I.freeC,I.pin,I.hok,I.len⟩
theorem Inv.unwish (I:Inv (X.wish E) pins σ H s):Inv X pins σ H s:=⟨I.ok.unwish,I.os,I.bare,I.base,I.loc,I.cell,I.free,I.freeC,I.pin,I.hok,I.len⟩
theorem SP.unwish {D:jI} {f:Flow} {s':Shared} (h:SP (X.wish E) pins D f s'):SP X pins D f s':=by
 cases f with
 | next=>obtain ⟨σ',H',I,q⟩:=h; exact ⟨σ',H',I.unwish,q⟩
 | brk=>obtain ⟨σ',H',I,q⟩:=h; exact ⟨σ',H',I.unwish,q⟩
 | cont=>obtain ⟨σ',H',I,q⟩:=h; exact ⟨σ',H',I.unwish,q⟩
 | ret u=>obtain ⟨v,σ',H',I,r,q⟩:=h; exact ⟨v,σ',H',I.unwish,r,q⟩
theorem PSs.nox {st:List Stmt} {t:TS} (h:PSs X.nox st t):PSs X st t:=fun pins s σ H D I hw =>
 wpAny_mono (h pins s σ H D (I.wish _) hw) (fun _ _ q=>q.unwish) fun _ _ z=>False.elim z
end
section
variable {X:Cx} {st:Stmt} {dQ:List Stmt} {t u:TS} {e:Expr} {te:TE} {pos:Pos}
def akd:TS:=fun D σ H=>D.nx σ H
def ak9 (t u:TS):TS:=fun D σ H=>t { D with nx:=u D } σ H
theorem agP:PSs X [] akd:=fun _ _ σ H _ I h=>wpAny_execs_nil ⟨σ,H,I,h⟩
theorem afS (h1:PS X st t) (h2:PSs X dQ u):PSs X (st :: dQ) (ak9 t u):=by
 intro pins s σ H D I h
 refine wpAny_execs_cons (thn (h1 pins s σ H { D with nx:=u D } I h) fun f s1 q=>?_)
 cases f with
 | next =>
  obtain ⟨σ',H',I',q⟩:=q
  exact h2 pins s1 σ' H' D I' q
 | ret v=>exact q
 | brk=>exact q
 | cont=>exact q
theorem ae0 (h1:PS X st t):PSs X [st] t:=by
 intro pins s σ H D I h
 refine wpAny_execs_cons (thn (h1 pins s σ H D I h) fun f s1 q=>?_)
 cases f with
 | next=>exact wpAny_execs_nil q
 | ret v=>exact q
 | brk=>exact q
 | cont=>exact q
theorem Inv.quiet {pins:List (Addr × Obj)} {σ:St} {H:Hp} {s:Shared} (I:Inv X pins σ H s):interactive X.env=false:=by simp [interactive,I.ok.kind]
def aj6 (te:TE):TS:=fun D σ H=>te σ H fun _ H1=>D.nx σ H1
theorem ahf (he:PE X e te) (hs:swapsWith e none pos.line X.env=pure false:=by rfl):PS X (.Expr e pos) (aj6 te):=by
 intro pins s σ H D I h
 exact wpAny_Expr_any (thn (he pins s σ H _ I h) fun v s1 ⟨x,H1,I1,r1,q1⟩=>⟨σ,H1,I1,q1⟩) I.quiet hs
def ald (te:TE):TS:=fun D σ H=>te σ H D.rt
theorem ajD (he:PE X e te):PS X (.Return (some e) pos) (ald te):=by
 intro pins s σ H D I h
 exact wpAny_Return_some (thn (he pins s σ H _ I h) fun v s1 ⟨x,H1,I1,r1,q1⟩=>⟨x,σ,H1,I1,r1,q1⟩)
def ak4 (c:TT) (t u:TS):TS:=fun D σ H=>c σ H fun b H1=>if b=true then t D σ H1 else u D σ H1
theorem ajZ {c:Expr} {a b:List Stmt} {tc:TT} (hc:PT X c tc) (ha:PSs X a t) (hb:PSs X b u):PS X (.If c a b pos) (ak4 tc t u):=by
 intro pins s σ H D I h
 refine wpAny_If (thn (hc pins s σ H _ I h) fun d s1 ⟨H1,I1,q1⟩=>?_)
 cases d with
 | true=>exact ha pins s1 σ H1 D I1 q1
 | false=>exact hb pins s1 σ H1 D I1 q1
end
abbrev TG:=V→St→Hp→(St→Hp→Prop)→Prop
abbrev TGs:=List V→St→Hp→(St→Hp→Prop)→Prop
def PG (X:Cx) (target:Expr) (t:TG):Prop :=
 ∀ (pins:List (Addr × Obj)) (s:Shared) (σ:St) (H:Hp) (v:V) (u:Value) (Q:St→Hp→Prop),Inv X pins σ H s→bM v u→t v σ H Q →
  wpAny (model X.prog X.w) X.A (assign target X.env u) (fun _ s'=>∃ σ' H',Inv X pins σ' H' s'∧Q σ' H') X.xe s
def PGs (X:Cx) (ts:List Expr) (t:TGs):Prop :=
 ∀ (pins:List (Addr × Obj)) (s:Shared) (σ:St) (H:Hp) (vs:List V) (us:List Value) (Q:St→Hp→Prop),Inv X pins σ H s→bC vs us→t vs σ H Q →
  wpAny (model X.prog X.w) X.A (assignInOrder ((assignEach ts X.env).map (·.2)) us) (fun _ s'=>∃ σ' H',Inv X pins σ' H' s'∧Q σ' H') X.xe s
abbrev ajY:=V→V→V→Hp→(Hp→Prop)→Prop
def akM (X:Cx) (t:ajY):Prop :=
 ∀ (pins:List (Addr × Obj)) (s:Shared) (σ:St) (H:Hp) (o i v:V) (ov iv u:Value) (Q:Hp→Prop),Inv X pins σ H s→bM o ov→bM i iv→bM v u→t o i v H Q →
  wpAny (model X.prog X.w) X.A (setItem ov iv u) (fun _ s'=>∃ H',Inv X pins σ H' s'∧Q H') X.xe s
abbrev TIp:=V→V→Hp→VK→Prop
def PIp (X:Cx) (op:Operator) (t:TIp):Prop :=
 ∀ (pins:List (Addr × Obj)) (s:Shared) (σ:St) (H:Hp) (x y:V) (v u:Value) (Q:VK),Inv X pins σ H s→bM x v→bM y u→t x y H Q →
  wpAny (model X.prog X.w) X.A (inplaceOp op v u) (EP X pins σ Q) X.xe s
section
variable {X:Cx} {pos:Pos}
def vC (i:Nat):TG:=fun v σ H Q=>Q (σ.set i (some v)) H
theorem ag7 {i:Nat} {x:Str} (hN:X.N.Nodup) (hi:X.N[i]?=some x) (hx:Loc X.env.scope x) (hf:X.fn x=true∨X.env.scope.names.lookup x=some .local:=by first | exact .inl rfl | exact .inr rfl | assumption):PG X (.Name x pos) (vC i):=by
 intro pins s σ H v u Q I r h
 exact wpAny_assign_Name (lP I hN hi hx r (fun s' I'=>⟨_,H,I',h⟩) hf)
def alt:TGs:=fun vs σ H Q=>vs=[]∧Q σ H
def akD (t:TG) (u:TGs):TGs:=fun vs σ H Q=>∃ v r,vs=v :: r∧t v σ H fun σ' H'=>u r σ' H' Q
theorem ahq:PGs X [] alt:=by
 intro pins s σ H vs us Q I r h
 obtain ⟨e,h⟩:=h
 subst e
 cases r
 exact assignInOrder_nil ⟨σ,H,I,h⟩
theorem afe {e:Expr} {es:List Expr} {t:TG} {u:TGs} (h1:PG X e t) (h2:PGs X es u)
  (hs:(assignEach (e :: es) X.env).map (·.2)=assign e X.env :: (assignEach es X.env).map (·.2):=by rfl):PGs X (e :: es) (akD t u):=by
 intro pins s σ H vs us Q I r h
 obtain ⟨v,vr,e1,h⟩:=h
 subst e1
 cases r with
 | cons r rr =>
  rw [hs]
  refine assignInOrder_cons (thn (h1 pins s σ H _ _ _ I r h) fun _ s1 ⟨σ1,H1,I1,q1⟩=>?_)
  exact h2 pins s1 σ1 H1 _ _ Q I1 rr q1
def ak7 (K:PySem.W.Frag) (n:Nat) (t:TGs):TG:=fun v σ H Q=>∃ a xs,v=.ref a∧SqT K H a xs∧xs.length=n∧t xs σ H Q
theorem ajN {es:List Expr} {k:Nat} {t:TGs} {n:Nat} (hc:X.calm=true) (h:PGs X es t)
  (hn:(assignEach es X.env).length=n:=by rfl) (hst:(assignEach es X.env).findIdx? (·.1)=none:=by rfl):PG X (.Tuple es k pos) (ak7 X.K n t):=by
 intro pins s σ H v u Q I r hw
 obtain ⟨a,xs,e1,hq,hl,hw⟩:=hw
 subst e1
 cases r
 obtain ⟨its,rv,ht,hz⟩:=I.tuple hq
 refine assign_Tuple_tuple (I.ok.hd hc) ht (by simp [hn,← hl,rv.length]) hst fun h' hx=>?_
 have I1:Inv X pins σ H { s with heap:=h' }:=I.kept (t':=s.toks) fun b o e=>hx b o (Nat.ne_of_lt (Heap.lt_size e)) e
 exact h pins _ σ H xs _ Q I1 (by simpa using rv) hw
def als (to ti:TE) (t:ajY):TG:=fun v σ H Q=>to σ H fun o H1=>ti σ H1 fun i H2=>t o i v H2 fun H3=>Q σ H3
theorem ah6 {o i:Expr} {to ti:TE} {t:ajY} (ho:PE X o to) (hi:PE X i ti) (hs:akM X t)
  (ha:∀ v,assign (.Subscript o i pos) X.env v=(do
   let ov ← holding [v] (eval o X.env)
   let iv ← holding [v,ov] (eval i X.env)
   standAt pos
   holding [v,ov,iv] (setItem ov iv v)
   release [v,ov,iv] []):=by intro _; rfl):PG X (.Subscript o i pos) (als to ti t):=by
 intro pins s σ H v u Q I r h
 rw [ha]
 refine wpAny_bind (wpAny_holding (thn (ho pins s σ H _ I h) fun ov s1 ⟨x,H1,I1,r1,q1⟩=>?_))
 refine wpAny_bind (wpAny_holding (thn (hi pins s1 σ H1 _ I1 q1) fun iv s2 ⟨y,H2,I2,r2,q2⟩=>?_))
 refine wpAny_bind (wpAny_standAt (wpAny_bind (wpAny_holding (thn (hs pins s2 σ H2 x y v ov iv u _ I2 r1 r2 r q2) fun _ s3 ⟨H3,I3,q3⟩=>?_))))
 exact wpAny_release ⟨σ,H3,I3,q3⟩
def vP (te:TE) (g:TG):TS:=fun D σ H=>te σ H fun x H1=>g x σ H1 D.nx
theorem agd {tg e:Expr} {te:TE} {g:TG} (he:PE X e te) (hg:PG X tg g) (hs:swapsWithSole [tg] e pos.line X.env=pure false:=by rfl) (hw:swappedStores [tg] e X.env=pure none:=by rfl)
  (h1:(assignEach [tg] X.env).map (·.2)=[assign tg X.env]:=by rfl):PS X (.Assign [tg] e pos) (vP te g):=by
 intro pins s σ H D I h
 refine wpAny_Assign_stores (thn (he pins s σ H _ I h) fun v s1 ⟨x,H1,I1,r1,q1⟩=>?_) hs hw
 rw [h1]
 exact thn (hg pins s1 σ H1 x v _ I1 r1 q1) fun _ s2 q=>q
theorem agy {i:Nat} {x:Str} {e:Expr} {te:TE} {pos':Pos} (hN:X.N.Nodup) (hi:X.N[i]?=some x) (hx:Loc X.env.scope x) (he:PE X e te) (hs:swapsWith e (some (.Name x pos')) pos.line X.env=pure false:=by rfl) (hf:X.fn x=true∨X.env.scope.names.lookup x=some .local:=by first | exact .inl rfl | exact .inr rfl | assumption) :
  PS X (.Assign [.Name x pos'] e pos) (vP te (vC i)):=by
 intro pins s σ H D I h
 refine wpAny_Assign_Name (thn (he pins s σ H _ I h) fun v s1 ⟨y,H1,I1,r1,q1⟩=>?_) hs
 exact lP I1 hN hi hx r1 (fun s2 I2=>⟨_,H1,I2,q1⟩) hf
def alm (i j:Nat) (ta:TA):TS:=fun D σ H=>ta σ H fun vs H1=>∃ v w,vs=[v,w]∧D.nx ((σ.set i (some v)).set j (some w)) H1
theorem aiM {i j:Nat} {x y:Str} {a b:Expr} {ta:TA} {px py pt:Pos} {kt k2 pt2} (hc:X.calm=true) (hN:X.N.Nodup) (hi:X.N[i]?=some x) (hj:X.N[j]?=some y) (hij:i≠j)
  (hx:X.env.scope.names.lookup x=some .local) (hy:X.env.scope.names.lookup y=some .local) (ha:PA X [a,b] ta)
  (hw:swappedStores [.Tuple [.Name x px,.Name y py] kt pt] (.Tuple [a,b] k2 pt2) X.env=pure (some [x,y]))
  (hs:swapsWithSole [.Tuple [.Name x px,.Name y py] kt pt] (.Tuple [a,b] k2 pt2) pos.line X.env=pure false:=by rfl) :
  PS X (.Assign [.Tuple [.Name x px,.Name y py] kt pt] (.Tuple [a,b] k2 pt2) pos) (alm i j ta):=by
 intro pins s σ H D I h
 rw [exec_Assign_arm]
 refine wpAny_bind (wpAny_standAt ?_)
 rw [hs]
 refine wpAny_bind (wpAny_pure ?_)
 rw [if_neg (by decide)]
 refine wpAny_bind (Tuple_ (thn (ha _ pins s σ H _ I h) fun us s1 ⟨vs,H1,I1,r1,q1⟩=>?_))
 obtain ⟨v,w,e1,q1⟩:=q1
 subst e1
 obtain ⟨u1,u2,rfl,rv,rw'⟩:∃ u1 u2,us=[u1,u2]∧bM v u1∧bM w u2:=by
  cases r1 with
  | cons p q =>
   cases q with
   | cons p' q' =>
    cases q'
    exact ⟨_,_,rfl,p,p'⟩
 refine wpAny_newObj_type ?_ (by show 2≤sizeLine; decide)
 have I2:Inv X pins σ H1 { s1 with heap:=s1.heap.push { cls:=.type "tuple",data:=.seq [u1,u2].toArray } }:=I1.kept (t':=s1.toks) fun b o e=>Heap.get?_push_of_some _ e
 rw [hw]
 refine wpAny_bind (wpAny_pure ?_)
 show wpAny (model X.prog X.w) X.A (do rule "assign.swapped-stores"; let items ← unpackItems (.ref s1.heap.objs.size) 2 none; assignInOrder [fun v=>bindName X.env y v,fun v=>bindName X.env x v] items.reverse; pure Flow.next) _ _ _
 refine wpAny_bind (wpAny_rule (wpAny_bind (unpackItems_tuple (items:=#[u1,u2]) (I.ok.hd hc) (IsTup.new s1.heap _) fun h' hx'=>?_)))
 have I3:=I2.kept (h':=h') (t':=s1.toks) fun b o e=>hx' b o (Nat.ne_of_lt (Heap.lt_size e)) e
 show wpAny _ _ (assignInOrder [fun v=>bindName X.env y v,fun v=>bindName X.env x v] [u2,u1] >>= fun _=>pure Flow.next) _ _ _
 refine wpAny_bind (assignInOrder_cons (wpAny_bindName (lP I3 hN hj (.inl hy) rw' (fun s2 I4=>?_) (.inr hy))))
 refine assignInOrder_cons (wpAny_bindName (lP I4 hN hi (.inl hx) rv (fun s3 I5=>assignInOrder_nil (wpAny_pure ?_)) (.inr hx)))
 rw [List.set_comm _ _ (Ne.symm hij)] at I5
 exact ⟨_,H1,I5,q1⟩
end
section
variable {X:Cx} {pos:Pos}
def ajE (c:TT) (tb:TS):TS:=fun D σ H=>∃ W:Nat→St→Hp→Prop,(∃ m,W m σ H)∧∀ m σ H,W m σ H →
 c σ H fun b H1=>if b=true then ∃ N:St→Hp→Prop,(∀ σ' H',N σ' H'→∃ m',m' < m∧W m' σ' H')∧tb { D with nx:=N,ct:=N,bk:=D.nx } σ H1 else D.nx σ H1
theorem afD {c:Expr} {body:List Stmt} {tc:TT} {tb:TS} (hp:PassesOwn (model X.prog X.w) X.A X.env X.xe) (hc:PT X c tc) (hb:PSs X body tb):PS X (.While c body [] pos) (ajE tc tb):=by
 intro pins s σ H D I h
 obtain ⟨W,⟨m0,w0⟩,turn⟩:=h
 refine wpAny_While (codeAny_whileLoop (fun n s'=>∃ σ' H',Inv X pins σ' H' s'∧W n σ' H') ?_ m0 ⟨σ,H,I,w0⟩)
 rintro n s1 ⟨σ1,H1,I1,w1⟩
 refine wpAny_passesOwn hp (thn (hc pins s1 σ1 H1 _ I1 (turn n σ1 H1 w1)) fun b s2 ⟨H2,I2,q2⟩=>?_)
 cases b with
 | true =>
  obtain ⟨N,hN,q2⟩:=q2
  rw [if_pos rfl]
  refine wpAny_passesOwn hp (thn (hb pins s2 σ1 H2 _ I2 q2) fun f s3 q3=>?_)
  cases f with
  | next =>
   obtain ⟨σ3,H3,I3,n3⟩:=q3
   obtain ⟨m',hm,w3⟩:=hN σ3 H3 n3
   exact ⟨m',hm,σ3,H3,I3,w3⟩
  | cont =>
   obtain ⟨σ3,H3,I3,n3⟩:=q3
   obtain ⟨m',hm,w3⟩:=hN σ3 H3 n3
   exact ⟨m',hm,σ3,H3,I3,w3⟩
  | brk=>exact q3
  | ret v=>exact q3
 | false =>
  rw [if_neg Bool.false_ne_true]
  exact wpAny_execs_nil ⟨σ1,H2,I2,q2⟩
end
structure It where
 go:Nat→Hp→Prop
 yld:Nat→Hp→V→Hp→Prop
 stop:Nat→Hp→Prop
def dR (X:Cx) (pins:List (Addr × Obj)) (H:Hp) (b:Addr):Prop :=
 H b=none∧b≠X.env.locals∧b ∉ X.fs∧(b∈X.ex∨X.s₀.heap.objs.size≤b)∧(∀ x c,X.env.cells.lookup x=some c→c≠b)∧∀ p∈X.pn++pins,p.1≠b
theorem Inv.fpOk {X:Cx} {pins:List (Addr × Obj)} {σ:St} {H H':Hp} {s:Shared} {b:Addr} (I:Inv X pins σ H s) (hb:s.heap.objs.size≤b) (hn:H' b=none):dR X pins H' b:=by
 refine ⟨hn,Nat.ne_of_gt (Nat.lt_of_lt_of_le I.lt hb),I.nofs hb,.inr (Nat.le_trans I.sz hb),fun x c e z=>?_,fun p hp z=>?_⟩
 ·obtain ⟨v,q⟩:=I.cell x c e
  exact absurd (Nat.lt_of_lt_of_le q.lt (by rw [z]; exact hb)) (Nat.lt_irrefl _)
 ·exact absurd (Nat.lt_of_lt_of_le (Heap.lt_size (I.pin p hp).1) (by rw [z]; exact hb)) (Nat.lt_irrefl _)
structure mL (P:Program) (w:World) (K:PySem.W.Frag) (tg:Expr) (J:It) (fp:List Addr) (it:Addr) (tn:Nat→Heap→Prop):Prop where
 mem:it∈fp
 obj:∀ i h,tn i h→∀ b∈fp,∃ o,h.get? b=some o∧∀ v,o.data≠.cell v
 keep:∀ i h h',tn i h→(∀ b∈fp,∀ o,h.get? b=some o→h'.get? b=some o)→tn i h'
 item:∀ (X:Cx),X.prog=P→X.w=w→X.K=K→X.calm=true→∀ (i:Nat) (pins:List (Addr × Obj)) (s:Shared) (σ:St) (H:Hp) (E:Value→Shared→Prop),Inv X pins σ H s→(∀ b∈fp,dR X pins H b)→tn i s.heap→J.go i H →
  wpAny (model P w) X.A (pyNext (.ref it)) (fun r s1=>∃ u,r=some u ∧
   wpAny (model P w) X.A (letOwnedTupleGo tg (.ref it) u) (fun _ s2=>∃ x H',Inv X pins σ H' s2∧bM x u∧J.yld i H x H'∧tn (i+1) s2.heap∧∀ b∈fp,H' b=none) E s1) E s
 done:∀ (X:Cx),X.prog=P→X.w=w→X.K=K→X.calm=true→∀ (i:Nat) (pins:List (Addr × Obj)) (s:Shared) (σ:St) (H:Hp) (E:Value→Shared→Prop),Inv X pins σ H s→(∀ b∈fp,dR X pins H b)→tn i s.heap→J.stop i H →
  wpAny (model P w) X.A (pyNext (.ref it)) (fun r s1=>r=none∧Inv X pins σ H s1) E s
 self:∀ (A:Around) (i:Nat) (s:Shared) (Q:Value→Shared→Prop) (E:Value→Shared→Prop),tn i s.heap→Q (.ref it) s→wpAny (model P w) A (pyIter (.ref it)) Q E s
abbrev TI:=St→Hp→(It→Hp→Prop)→Prop
def PIE (X:Cx) (pins:List (Addr × Obj)) (σ:St) (tg:Expr) (R:It→Hp→Prop) (itv:Value) (s2:Shared):Prop :=
 ∃ (it:Addr) (fp:List Addr) (tn:Nat→Heap→Prop) (J:It) (H':Hp),itv=.ref it∧Inv X pins σ H' s2∧mL X.prog X.w X.K tg J fp it tn∧tn 0 s2.heap∧(∀ b∈fp,dR X pins H' b)∧R J H'
def PI (X:Cx) (tg iter:Expr) (wi:TI):Prop :=
 ∀ (pins:List (Addr × Obj)) (s:Shared) (σ:St) (H:Hp) (R:It→Hp→Prop),Inv X pins σ H s→wi σ H R →
  wpAny (model X.prog X.w) X.A (eval iter X.env) (fun v s1=>wpAny (model X.prog X.w) X.A (pyIter v) (PIE X pins σ tg R) X.xe s1) X.xe s
theorem vA {M : Model} {A : Around} {E : Value → Shared → Prop} {s : Shared} {tg : Expr} {it : Addr} {u : Value} {o : Obj} {n : String} {vs : Array Value} {Q : Unit → Shared → Prop} (ho : s.heap.get? it = some o) (hc : o.cls = .type n) (hd : o.data = .fields vs)
    (hn : ["enumerate", "zip", "dict_itemiterator", "dict_reverseitemiterator", "odict_iterator", "itertools.zip_longest", "itertools.pairwise"].contains n = false) (hQ : Q () s) : wpAny M A (letOwnedTupleGo tg (.ref it) u) Q E s := by
  unfold letOwnedTupleGo
  cases tg <;> first
    | exact wpAny_pure hQ
    | (cases u <;> first
        | exact wpAny_pure hQ
        | (refine wpAny_bind (wpAny_load ho ?_)
           rw [hc, hd]
           show wpAny M A (if (["enumerate", "zip", "dict_itemiterator", "dict_reverseitemiterator", "odict_iterator", "itertools.zip_longest", "itertools.pairwise"].contains n && vs[0]? == some (rawInt _)) = true then _ else _) Q E s
           rw [if_neg (by intro h; rw [hn, Bool.false_and] at h; cases h)]
           exact wpAny_pure hQ))
def Itl (K:PySem.W.Frag) (a:Addr):It :=
 ⟨fun i H=>∃ xs x,SqL K H a xs∧xs[i]?=some x,fun i H x H'=>H'=H∧∀ xs,SqL K H a xs→xs[i]?=some x,fun i H=>∃ xs,SqL K H a xs∧xs.length≤i⟩
def Itt (K:PySem.W.Frag) (a:Addr):It :=
 ⟨fun i H=>∃ xs x,SqT K H a xs∧xs[i]?=some x,fun i H x H'=>H'=H∧∀ xs,SqT K H a xs→xs[i]?=some x,fun i H=>∃ xs,SqT K H a xs∧xs.length≤i⟩
def Itr (lo:Int) (n:Nat):It:=⟨fun i _=>i < n,fun i H x H'=>H'=H∧x=.int (lo+i),fun i _=>n≤i⟩
theorem adK {P:Program} {w:World} {K:PySem.W.Frag} {tg:Expr} (a it:Addr):mL P w K tg (Itl K a) [it] it (fun i h=>h.IsListIter it a i) where
 mem:=by simp
 obj:=fun i h st b hb=>by
  have e:b=it:=by simpa using hb
  subst e
  obtain ⟨o,e,c,d⟩:=st
  exact ⟨o,e,fun v z=>by rw [d] at z; cases z⟩
 keep:=fun i h h' st k=>st.at fun o e=>k it (by simp) o e
 item:=by
  intro X hP hw hK hc i pins s σ H E I hf st hg
  subst hP hw hK
  obtain ⟨xs,x,hq,hx⟩:=hg
  obtain ⟨its,rv,p,hz⟩:=I.list hq
  obtain ⟨u,hu,ru⟩:=rv.get hx
  obtain ⟨f0,f1,f2,f3,f4,f5⟩:=hf it (by simp)
  refine wpAny_pyNext_list_item st p.isList (x:=u) (by simpa using hu) fun h' st' sb=>?_
  have I1:Inv X pins σ H { s with heap:=h' }:=I.turned (t':=s.toks) (fun b o hb e=>(sb.2 b hb).trans e) f0 f1 f3 f4 f5
  obtain ⟨o,e,c,d⟩:=id st'
  exact ⟨u,rfl,vA (s:={ s with heap:=h' }) e c d (by decide) ⟨x,H,I1,ru,⟨rfl,fun ys hy=>by rw [I.list_inj hy hq]; exact hx⟩,st',fun b hb=>(hf b hb).1⟩⟩
 done:=by
  intro X hP hw hK hc i pins s σ H E I hf st hg
  subst hP hw hK
  obtain ⟨xs,hq,hx⟩:=hg
  obtain ⟨its,rv,p,hz⟩:=I.list hq
  obtain ⟨f0,f1,f2,f3,f4,f5⟩:=hf it (by simp)
  have hl:=rv.length
  exact wpAny_pyNext_list_end (I.ok.hd hc) st p.isList (by simp; omega) fun h' eb=>⟨rfl,I.turned (t':=s.toks) (fun b o hb e=>eb b o hb e) f0 f1 f3 f4 f5⟩
 self:=fun _ _ _ _ _ st h=>wpAny_pyIter_listiter st h
theorem adv {P:Program} {w:World} {K:PySem.W.Frag} {tg:Expr} (a it:Addr):mL P w K tg (Itt K a) [it] it (fun i h=>h.IsTupleIter it a i) where
 mem:=by simp
 obj:=fun i h st b hb=>by
  have e:b=it:=by simpa using hb
  subst e
  obtain ⟨o,e,c,d⟩:=st
  exact ⟨o,e,fun v z=>by rw [d] at z; cases z⟩
 keep:=fun i h h' st k=>st.at fun o e=>k it (by simp) o e
 item:=by
  intro X hP hw hK hc i pins s σ H E I hf st hg
  subst hP hw hK
  obtain ⟨xs,x,hq,hx⟩:=hg
  obtain ⟨its,rv,p,hz⟩:=I.tuple hq
  obtain ⟨u,hu,ru⟩:=rv.get hx
  obtain ⟨f0,f1,f2,f3,f4,f5⟩:=hf it (by simp)
  refine wpAny_pyNext_tuple_item st (show s.heap.IsTuple a its.toArray from p) (x:=u) (by simpa using hu) fun h' st' sb=>?_
  have I1:Inv X pins σ H { s with heap:=h' }:=I.turned (t':=s.toks) (fun b o hb e=>(sb.2 b hb).trans e) f0 f1 f3 f4 f5
  obtain ⟨o,e,c,d⟩:=id st'
  exact ⟨u,rfl,vA (s:={ s with heap:=h' }) e c d (by decide) ⟨x,H,I1,ru,⟨rfl,fun ys hy=>by rw [I.tuple_inj hy hq]; exact hx⟩,st',fun b hb=>(hf b hb).1⟩⟩
 done:=by
  intro X hP hw hK hc i pins s σ H E I hf st hg
  subst hP hw hK
  obtain ⟨xs,hq,hx⟩:=hg
  obtain ⟨its,rv,p,hz⟩:=I.tuple hq
  obtain ⟨f0,f1,f2,f3,f4,f5⟩:=hf it (by simp)
  have hl:=rv.length
  exact wpAny_pyNext_tuple_end (I.ok.hd hc) st (show s.heap.IsTuple a its.toArray from p) (by simp; omega) fun h' eb=>⟨rfl,I.turned (t':=s.toks) (fun b o hb e=>eb b o hb e) f0 f1 f3 f4 f5⟩
 self:=fun _ _ _ _ _ st h=>wpAny_pyIter_tupleiter st h
theorem adu {P:Program} {w:World} {K:PySem.W.Frag} {tg:Expr} (it:Addr) (lo:Int) (n:Nat):mL P w K tg (Itr lo n) [it] it (fun i h=>IsRangeIter h it (lo+(i:Nat)*1) ((n:Int) - (i:Nat)) 1) where
 mem:=by simp
 obj:=fun i h st b hb=>by
  have e:b=it:=by simpa using hb
  subst e
  exact ⟨_,st,fun v z=>by
   have z':Data.fields _=Data.cell v:=z
   cases z'⟩
 keep:=fun i h h' st k=>k it (by simp) _ st
 item:=by
  intro X hP hw hK hc i pins s σ H E I hf st hg
  subst hP hw hK
  obtain ⟨f0,f1,f2,f3,f4,f5⟩:=hf it (by simp)
  have W:=Walks.range (prog:=X.prog) (w:=X.w) (I.ok.hd hc) it lo 1 n
  refine W.item i s _ _ hg st fun v h' tk hv st' kk=>?_
  obtain ⟨t,rfl⟩:=hv
  have I1:Inv X pins σ H { s with heap:=h',toks:=tk }:=I.turned (fun b o hb e=>kk b o (by simpa using hb) e) f0 f1 f3 f4 f5
  refine ⟨_,rfl,vA (s:={ s with heap:=h',toks:=tk }) (n:="range_iterator") st' rfl rfl (by decide) ⟨.int (lo+i),H,I1,⟨t,?_⟩,⟨rfl,rfl⟩,st',fun b hb=>(hf b hb).1⟩⟩
  rw [Int.mul_one]
 done:=by
  intro X hP hw hK hc i pins s σ H E I hf st hg
  subst hP hw hK
  obtain ⟨f0,f1,f2,f3,f4,f5⟩:=hf it (by simp)
  exact wpAny_pyNext_range_end (I.ok.hd hc) st (by have:n≤i:=hg; omega) fun h' eb=>⟨rfl,I.turned (t':=s.toks) (fun b o hb e=>eb b o hb e) f0 f1 f3 f4 f5⟩
 self:=fun _ _ _ _ _ st h=>wpAny_pyIter_rangeiter st h
end L2
namespace L2
open PySem PySem.Spec PyProof.Rows
section
variable {X:Cx} {tg:Expr}
theorem afh {pins:List (Addr × Obj)} {σ:St} {H:Hp} {s:Shared} {R:It→Hp→Prop} {E:Value→Shared→Prop} {lo hi:Int} {t u v:Tok} {tk:Nat} (I:Inv X pins σ H s) (h1:-(2 ^ 62)≤lo) (h2:lo < 2 ^ 62) (h3:-(2 ^ 62)≤hi) (h4:hi < 2 ^ 62)
  (q:R (Itr lo (hi - lo).toNat) H):wpAny (model X.prog X.w) X.A (pyIter (.ref s.heap.objs.size)) (PIE X pins σ tg R) E { s with heap:=s.heap.push { cls:=.type "range",data:=.fields #[.int lo t,.int hi u,.int 1 v] },toks:=tk }:=by
 refine wpAny_pyIter_range (IsRange.new ..) (small_one h1 h2 h3 h4) ?_
 have I1:Inv X pins σ H { s with heap:=s.heap.push { cls:=.type "range",data:=.fields #[.int lo t,.int hi u,.int 1 v] },toks:=tk }:=I.kept fun b o e=>Heap.get?_push_of_some _ e
 refine ⟨(s.heap.push { cls:=.type "range",data:=.fields #[.int lo t,.int hi u,.int 1 v] }).objs.size,[(s.heap.push { cls:=.type "range",data:=.fields #[.int lo t,.int hi u,.int 1 v] }).objs.size],_,_,H,rfl,
  I1.kept (t':=tk) fun b o e=>Heap.get?_push_of_some _ e,adu _ lo (hi - lo).toNat,?_,fun b hb=>?_,q⟩
 ·have e1:lo+((0:Nat):Int)*1=lo:=by simp
  have e2:(((hi - lo).toNat:Nat):Int) - ((0:Nat):Int)=Builtin.Range.rangeSize lo hi 1:=by rw [rangeSize_one]; split <;> omega
  show IsRangeIter _ _ (lo+((0:Nat):Int)*1) ((((hi - lo).toNat:Nat):Int) - ((0:Nat):Int)) 1
  rw [e1,e2]
  exact Heap.get?_push_size _ rfl
 ·have e:b=(s.heap.push { cls:=.type "range",data:=.fields #[.int lo t,.int hi u,.int 1 v] }).objs.size:=by simpa using hb
  subst e
  exact I1.fpOk (Nat.le_refl _) (I1.hok.fresh (Nat.le_refl _))
def aj4 (ta:TA):TI:=fun σ H R=>ta σ H fun vs H1=>∃ j:Int,vs=[.int j]∧-(2 ^ 62)≤j∧j < 2 ^ 62∧R (Itr 0 j.toNat) H1
theorem adJ {a:Expr} {ta:TA} {p pos:Pos} (hg:Gl X "range") (hm:X.mg "range"=none) (ha:PA X [a] ta) (hs:starEach [a] X.env=[(false,eval a X.env)]:=by rfl):PI X tg (.Call (.Name "range" p) [a] [] pos) (aj4 ta):=by
 intro pins s σ H R I h
 refine Call_ (oM I hg hm boot_range (PyProof.Rows.callWith_type1 (thn (ha pos pins s σ H _ I h) fun us s1 ⟨vs,H1,I1,r1,q1⟩=>?_) hs rfl))
 obtain ⟨j,e,q1,q2,q⟩:=q1
 subst e
 cases r1 with
 | cons r rr =>
  cases rr
  obtain ⟨t,rfl⟩:=r
  exact call_range_1 (afh I1 (by omega) (by omega) q1 q2 (by simpa using q))
def aln (wi:TI) (g:TG) (tb:TS):TS:=fun D σ H=>wi σ H fun J H1=>∃ W:Nat→Nat→St→Hp→Prop,(∃ m,W 0 m σ H1)∧∀ i m σ H,W i m σ H →
 (J.stop i H∧D.nx σ H)∨(J.go i H∧∃ N:St→Hp→Prop,(∀ σ' H',N σ' H'→∃ m',m' < m∧W (i+1) m' σ' H')∧∀ x H',J.yld i H x H'→g x σ H' fun σ2 H2=>tb { D with nx:=N,ct:=N,bk:=D.nx } σ2 H2)
def uA (fp:List Addr) (h:Heap):List (Addr × Obj):=fp.filterMap fun b=>(h.get? b).map fun o=>(b,o)
theorem kI {fp:List Addr} {h:Heap} {b:Addr} {o:Obj} (hb:b∈fp) (e:h.get? b=some o):(b,o)∈uA fp h:=List.mem_filterMap.mpr ⟨b,hb,by rw [e]; rfl⟩
theorem aeT {fp:List Addr} {h:Heap} {p:Addr × Obj} (hp:p∈uA fp h):p.1∈fp∧h.get? p.1=some p.2:=by
 obtain ⟨b,hb,e⟩:=List.mem_filterMap.mp hp
 cases q:h.get? b with
 | none=>rw [q] at e; cases e
 | some o =>
  rw [q] at e
  have e':(b,o)=p:=Option.some.inj e
  subst e'
  exact ⟨hb,q⟩
theorem Inv.pinned {pins:List (Addr × Obj)} {σ:St} {H:Hp} {s:Shared} {fp:List Addr} (I:Inv X pins σ H s) (hf:∀ b∈fp,dR X pins H b) (ho:∀ b∈fp,∃ o,s.heap.get? b=some o∧∀ v,o.data≠.cell v):Inv X (pins++uA fp s.heap) σ H s :=
 I.pins_of fun p hp=>(List.mem_append.mp hp).elim (fun z=>I.pin p (List.mem_append_right _ z)) fun z=>by
  obtain ⟨hb,e⟩:=aeT z
  obtain ⟨f0,f1,f2,_⟩:=hf p.1 hb
  obtain ⟨o,e',d⟩:=ho p.1 hb
  rw [e] at e'; cases e'
  exact ⟨e,f0,f1,f2,d⟩
theorem Inv.unpinned {pins pl:List (Addr × Obj)} {σ:St} {H:Hp} {s:Shared} (I:Inv X (pins++pl) σ H s):Inv X pins σ H s:=I.pins_of fun p hp=>I.pin p (List.mem_append_right _ (List.mem_append_left _ hp))
theorem ajT {iter:Expr} {body:List Stmt} {wi:TI} {g:TG} {tb:TS} {pos:Pos} (hp:PassesOwn (model X.prog X.w) X.A X.env X.xe) (hc:X.calm=true) (hi:PI X tg iter wi) (hg:PG X tg g) (hb:PSs X body tb)
  (hs:∀ x,foldedSetIterable iter X.env x=pure x:=by intro _; rfl):PS X (.For tg iter body [] pos) (aln wi g tb):=by
 intro pins s σ H D I h
 refine wpAny_For (thn (hi pins s σ H _ I h) fun v s1 h1=>thn h1 fun itv s2 h2=>?_) hs
 obtain ⟨it,fp,tn,J,H2,e,I2,T,st2,f2,W,⟨m0,w0⟩,turn⟩:=h2
 subst e
 -- what stays true of the iterator's objects through the loop
 have stat:∀ {H':Hp},(∀ b∈fp,H' b=none)→∀ b∈fp,dR X pins H' b:=fun hn b hb=>⟨hn b hb,(f2 b hb).2⟩
 refine codeAny_forLoop_any (fun n s'=>∃ i σ' H',Inv X pins σ' H' s'∧tn i s'.heap∧(∀ b∈fp,H' b=none)∧W i n σ' H') ?_ m0 ⟨0,σ,H2,I2,st2,fun b hb=>(f2 b hb).1,w0⟩
 rintro n s3 ⟨i,σ3,H3,I3,st3,fr3,w3⟩
 rcases turn i n σ3 H3 w3 with ⟨stop,qn⟩ | ⟨go,N,hN,step⟩
 ·refine wpAny_passesOwn hp (thn (T.done X rfl rfl rfl hc i pins s3 σ3 H3 X.xe I3 (stat fr3) st3 stop) fun r s4 ⟨hr,I4⟩=>?_)
  subst hr
  exact wpAny_execs_nil ⟨σ3,H3,I4,qn⟩
 ·refine wpAny_passesOwn hp (thn (T.item X rfl rfl rfl hc i pins s3 σ3 H3 X.xe I3 (stat fr3) st3 go) fun r s4 ⟨u,hr,h4⟩=>?_)
  subst hr
  refine wpAny_passesOwn hp (thn h4 fun _ s5 ⟨x,H5,I5,r5,y5,st5,fr5⟩=>?_)
  have I5':=I5.pinned (stat fr5) (T.obj _ _ st5)
  refine wpAny_passesOwn hp (thn (hg _ s5 σ3 H5 x u _ I5' r5 (step x H5 y5)) fun _ s6 ⟨σ6,H6,I6,q6⟩=>?_)
  refine wpAny_passesOwn hp (thn (hb _ s6 σ6 H6 _ I6 q6) fun f s7 q7=>?_)
  have again:∀ {σ7:St} {H7:Hp},Inv X (pins++uA fp s5.heap) σ7 H7 s7→N σ7 H7→∃ m,m < n∧∃ i σ' H',Inv X pins σ' H' s7∧tn i s7.heap∧(∀ b∈fp,H' b=none)∧W i m σ' H':=fun {σ7 H7} I7 n7=>by
   obtain ⟨m',hm,w7⟩:=hN σ7 H7 n7
   refine ⟨m',hm,i+1,σ7,H7,I7.unpinned,T.keep _ _ _ st5 fun b hb o e=>(I7.pin (b,o) (List.mem_append_right _ (List.mem_append_right _ (kI hb e)))).1,fun b hb=>?_,w7⟩
   obtain ⟨o,e,d⟩:=T.obj _ _ st5 b hb
   exact (I7.pin (b,o) (List.mem_append_right _ (List.mem_append_right _ (kI hb e)))).2.1
  cases f with
  | next=>obtain ⟨σ7,H7,I7,n7⟩:=q7; exact again I7 n7
  | cont=>obtain ⟨σ7,H7,I7,n7⟩:=q7; exact again I7 n7
  | brk=>obtain ⟨σ7,H7,I7,q7⟩:=q7; exact ⟨σ7,H7,I7.unpinned,q7⟩
  | ret v=>obtain ⟨x7,σ7,H7,I7,r7,q7⟩:=q7; exact ⟨x7,σ7,H7,I7.unpinned,r7,q7⟩
end
end L2
namespace L2
open PySem PySem.Spec PyProof.Rows
abbrev R2:=V→V→Hp→VK→Prop
def OpR (X:Cx) (f:Value→Value→Sem Value) (r:R2):Prop :=
 ∀ (pins:List (Addr × Obj)) (s:Shared) (σ:St) (H:Hp) (x y:V) (v u:Value) (Q:VK),Inv X pins σ H s→bM x v→bM y u→r x y H Q →
  wpAny (model X.prog X.w) X.A (f v u) (EP X pins σ Q) X.xe s
def UnR (X:Cx) (f:Value→Sem Value) (r:V→Hp→VK→Prop):Prop :=
 ∀ (pins:List (Addr × Obj)) (s:Shared) (σ:St) (H:Hp) (x:V) (v:Value) (Q:VK),Inv X pins σ H s→bM x v→r x H Q →
  wpAny (model X.prog X.w) X.A (f v) (EP X pins σ Q) X.xe s
def fS (X:Cx) (f:Value) (r:List V→Hp→VK→Prop):Prop :=
 ∀ (pins:List (Addr × Obj)) (s:Shared) (σ:St) (H:Hp) (xs:List V) (us:List Value) (Q:VK),Inv X pins σ H s→bC xs us→r xs H Q →
  wpAny (model X.prog X.w) X.A (call f us) (EP X pins σ Q) X.xe s
def ali (X:Cx) (r:V→Hp→(Bool→Hp→Prop)→Prop):Prop :=
 ∀ (pins:List (Addr × Obj)) (s:Shared) (σ:St) (H:Hp) (x:V) (v:Value) (Q:Bool→Hp→Prop),Inv X pins σ H s→bM x v→r x H Q →
  wpAny (model X.prog X.w) X.A (truthy v) (TP X pins σ Q) X.xe s
def tOp (r:R2) (ta tb:TE):TE:=fun σ H Q=>ta σ H fun x H1=>tb σ H1 fun y H2=>r x y H2 Q
def tUn (r:V→Hp→VK→Prop) (ta:TE):TE:=fun σ H Q=>ta σ H fun x H1=>r x H1 Q
def rI (C:Int→Int→Prop) (g:Int→Int→V):R2:=fun x y H Q=>∃ i j,x=.int i∧y=.int j∧C i j∧Q (g i j) H
def rI0 (g:Int→Int→V):R2:=fun x y H Q=>∃ i j,x=.int i∧y=.int j∧Q (g i j) H
def rU (g:Int→V):V→Hp→VK→Prop:=fun x H Q=>∃ i,x=.int i∧Q (g i) H
section
variable {X:Cx} {a b c:Expr} {ta tb tc:TE} {pos:Pos}
theorem aku (ha:PE X a ta) (hb:PE X b tb) {pins:List (Addr × Obj)} {s:Shared} {σ:St} {H:Hp} {R:V→V→Hp→Prop} (I:Inv X pins σ H s)
  (h:ta σ H fun x H1=>tb σ H1 fun y H2=>R x y H2) {Q:Value→Shared→Prop} {f:Value→Value→Sem Value}
  (hf:∀ v u s2 x y H2,Inv X pins σ H2 s2→bM x v→bM y u→R x y H2→wpAny (model X.prog X.w) X.A (f v u) Q X.xe s2) :
  wpAny (model X.prog X.w) X.A (eval a X.env) (fun v s₁=>wpAny (model X.prog X.w) X.A (eval b X.env) (fun u s₂=>wpAny (model X.prog X.w) X.A (f v u) Q X.xe s₂) X.xe s₁) X.xe s:=by
 refine thn (ha pins s σ H _ I h) fun v s1 ⟨x,H1,I1,r1,q1⟩=>?_
 refine thn (hb pins s1 σ H1 _ I1 q1) fun u s2 ⟨y,H2,I2,r2,q2⟩=>?_
 exact hf v u s2 x y H2 I2 r1 r2 q2
theorem aj7 {op:Operator} {r:R2} (ho:OpR X (binaryOp op) r) (ha:PE X a ta) (hb:PE X b tb):PE X (.BinOp a op b pos) (tOp r ta tb):=by
 intro pins s σ H Q I h
 exact wpAny_BinOp (aku ha hb I h fun v u s2 x y H2 I2 rx ry q=>ho pins s2 σ H2 x y v u Q I2 rx ry q)
theorem aj9 {op:UnaryOp} {r:V→Hp→VK→Prop} (ho:UnR X (unaryOp op) r) (ha:PE X a ta):PE X (.UnaryOp op a pos) (tUn r ta):=by
 intro pins s σ H Q I h
 exact UnaryOp_ (thn (ha pins s σ H _ I h) fun v s1 ⟨x,H1,I1,r1,q1⟩=>ho pins s1 σ H1 x v Q I1 r1 q1)
theorem opI {f:Value→Value→Sem Value} {C:Int→Int→Prop} {g:Int→Int→Int}
  (rule:∀ (i j:Int) (t u:Tok) (s:Shared) (Q:Value→Shared→Prop) (E:Value→Shared→Prop),C i j→Q (.int (g i j) s.toks) { s with toks:=s.toks+1 }→wpAny (model X.prog X.w) X.A (f (.int i t) (.int j u)) Q E s) :
  OpR X f (rI C fun i j=>.int (g i j)):=by
 intro pins s σ H x y v u Q I rx ry h
 obtain ⟨i,j,rfl,rfl,hc,q⟩:=h
 obtain ⟨t,rfl⟩:=rx
 obtain ⟨t',rfl⟩:=ry
 exact rule i j t t' s _ _ hc ⟨.int (g i j),H,I.tok _,⟨_,rfl⟩,q⟩
theorem akX {f:Value→Value→Sem Value} {g:Int→Int→Int}
  (rule:∀ (i j:Int) (t u:Tok) (s:Shared) (Q:Value→Shared→Prop) (E:Value→Shared→Prop),Q (.int (g i j) s.toks) { s with toks:=s.toks+1 }→wpAny (model X.prog X.w) X.A (f (.int i t) (.int j u)) Q E s) :
  OpR X f (rI0 fun i j=>.int (g i j)):=by
 intro pins s σ H x y v u Q I rx ry h
 obtain ⟨i,j,rfl,rfl,q⟩:=h
 obtain ⟨t,rfl⟩:=rx
 obtain ⟨t',rfl⟩:=ry
 exact rule i j t t' s _ _ ⟨.int (g i j),H,I.tok _,⟨_,rfl⟩,q⟩
theorem vT {f:Value→Value→Sem Value} {g:Int→Int→Bool}
  (rule:∀ (i j:Int) (t u:Tok) (s:Shared) (Q:Value→Shared→Prop) (E:Value→Shared→Prop),Q (.bool (g i j)) s→wpAny (model X.prog X.w) X.A (f (.int i t) (.int j u)) Q E s) :
  OpR X f (rI0 fun i j=>.bl (g i j)):=by
 intro pins s σ H x y v u Q I rx ry h
 obtain ⟨i,j,rfl,rfl,q⟩:=h
 obtain ⟨t,rfl⟩:=rx
 obtain ⟨t',rfl⟩:=ry
 exact rule i j t t' s _ _ ⟨.bl (g i j),H,I,rfl,q⟩
def vN (i j:Int):Prop:=0≤j∧j≤1000000∧i.natAbs < 2 ^ 64
def aj5 (i j:Int):Prop:=(-(2 ^ 64) < i∧i < 2 ^ 64)∨(-(2 ^ 64) < j∧j < 2 ^ 64)
theorem aj5.ok {i j:Int} (h:aj5 i j):IntMulOk i j:=by
 rcases h with ⟨h1,h2⟩ | ⟨h1,h2⟩
 ·exact .of_left (intBits_le_64 h1 h2)
 ·exact .of_right (intBits_le_64 h1 h2)
theorem ajm:OpR X (binaryOp .Add) (rI0 fun i j=>.int (i+j)):=akX fun _ _ _ _ _ _ _ q=>add_int q
theorem fY:OpR X (binaryOp .Sub) (rI0 fun i j=>.int (i - j)):=akX fun _ _ _ _ _ _ _ q=>sub_int q
theorem jQ:OpR X (binaryOp .Mod) (rI (fun _ j=>j≠0) fun i j=>.int (i.fmod j)):=opI fun _ _ _ _ _ _ _ hc q=>mod_int' hc q
theorem jR:OpR X (binaryOp .Pow) (rI vN fun i j=>.int (i ^ j.toNat)):=opI fun _ _ _ _ _ _ _ hc q=>pow_int_small hc.1 hc.2.1 hc.2.2 q
theorem unI {f:Value→Sem Value} {g:Int→Int}
  (rule:∀ (i:Int) (t:Tok) (s:Shared) (Q:Value→Shared→Prop) (E:Value→Shared→Prop),Q (.int (g i) s.toks) { s with toks:=s.toks+1 }→wpAny (model X.prog X.w) X.A (f (.int i t)) Q E s) :
  UnR X f (rU fun i=>.int (g i)):=by
 intro pins s σ H x v Q I rx h
 obtain ⟨i,rfl,q⟩:=h
 obtain ⟨t,rfl⟩:=rx
 exact rule i t s _ _ ⟨.int (g i),H,I.tok _,⟨_,rfl⟩,q⟩
theorem eI:UnR X (unaryOp .USub) (rU fun i=>.int (-i)):=unI fun _ _ _ _ _ q=>neg_int q
end
section
variable {X:Cx} {a b c:Expr} {ta tb tc:TE} {pos:Pos}
theorem aju {pins:List (Addr × Obj)} {σ:St} {H:Hp} {s:Shared} {Q:VK} {k k':Bool} (I:Inv X pins σ H s) (q:Q (.bl k) H) (e:k=k'):EP X pins σ Q (.bool k') s:=by
 subst e
 exact ⟨.bl k,H,I,rfl,q⟩
theorem oX:OpR X (compareOp .Lt) (rI0 fun i j=>.bl (decide (i < j))):=vT fun _ _ _ _ _ _ _ q=>lt_int q
theorem agX:OpR X (compareOp .LtE) (rI0 fun i j=>.bl (decide (i≤j))):=vT fun _ _ _ _ _ _ _ q=>le_int q
theorem ahY:OpR X (compareOp .Gt) (rI0 fun i j=>.bl (decide (j < i))):=vT fun _ _ _ _ _ _ _ q=>gt_int q
theorem uS:OpR X (compareOp .GtE) (rI0 fun i j=>.bl (decide (j≤i))):=vT fun _ _ _ _ _ _ _ q=>ge_int q
theorem adH:OpR X (compareOp .In) (fun x y H Q=>∃ i j,x=.str i∧y=.str j∧Q (.bl (!(Builtin.Str.occurrences j i 0 j.length 1).isEmpty)) H):=by
 intro pins s σ H x y v u Q I rx ry h
 obtain ⟨i,j,rfl,rfl,q⟩:=h
 obtain ⟨t,rfl⟩:=rx
 obtain ⟨t',rfl⟩:=ry
 exact in_str (aju I q rfl)
theorem OpR.or {f:Value→Value→Sem Value} {r r':R2} (h:OpR X f r) (h':OpR X f r'):OpR X f (fun x y H Q=>r x y H Q∨r' x y H Q):=by
 intro pins s σ H x y v u Q I rx ry q
 rcases q with q | q
 ·exact h pins s σ H x y v u Q I rx ry q
 ·exact h' pins s σ H x y v u Q I rx ry q
theorem bY (b:Expr) {op:CmpOp} (h:op≠.In:=by decide) (h2:op≠.NotIn:=by decide):behindInMarks op b=false:=by
 have e1:(op == CmpOp.In)=false:=by cases op <;> first | rfl | exact absurd rfl h
 have e2:(op == CmpOp.NotIn)=false:=by cases op <;> first | rfl | exact absurd rfl h2
 cases b <;> simp [behindInMarks,e1,e2]
theorem ahz {op:CmpOp} {r:R2} (ho:OpR X (compareOp op) r) (ha:PE X a ta) (hb:PE X b tb) (hm:behindInMarks op b=false):PE X (.Compare a [op] [b] pos) (tOp r ta tb):=by
 intro pins s σ H Q I h
 exact wpAny_Compare1 (aku ha hb I h fun v u s2 x y H2 I2 rx ry q=>ho pins s2 σ H2 x y v u Q I2 rx ry q) hm
def akk (t:TE):TT:=fun σ H Q=>t σ H fun x H'=>∃ k,x=.bl k∧Q k H'
theorem ahc {op:CmpOp} {r:R2} (ho:OpR X (compareOp op) r) (ha:PE X a ta) (hb:PE X b tb) (hm:behindInMarks op b=false):PT X (.Compare a [op] [b] pos) (akk (tOp r ta tb)):=by
 intro pins s σ H Q I h
 refine wpAny_isTrue_Compare1 (thn (ha pins s σ H _ I h) fun v s1 ⟨x,H1,I1,r1,q1⟩=>thn (hb pins s1 σ H1 _ I1 q1) fun u s2 ⟨y,H2,I2,r2,q2⟩ =>
  thn (ho pins s2 σ H2 x y v u _ I2 r1 r2 q2) fun c s3 ⟨z,H3,I3,r3,k,e,q3⟩=>?_) hm
 subst e
 cases r3
 exact wpAny_truthy_bool ⟨H3,I3,q3⟩
def ajP (r r':R2) (ta tb tc:TE):TE:=fun σ H Q=>ta σ H fun x H1=>tb σ H1 fun y H2=>r x y H2 fun z H3=>∃ k,z=.bl k ∧
 (if k=true then tc σ H3 fun w' H4=>r' y w' H4 Q else Q (.bl false) H3)
theorem afQ {op op':CmpOp} {r r':R2} (ho:OpR X (compareOp op) r) (ho':OpR X (compareOp op') r') (ha:PE X a ta) (hb:PE X b tb) (hc:PE X c tc)
  (hm:lastMarks [op,op'] [b,c]=false:=by with_unfolding_all rfl):PE X (.Compare a [op,op'] [b,c] pos) (ajP r r' ta tb tc):=by
 intro pins s σ H Q I h
 refine Compare_chain (thn (ha pins s σ H _ I h) fun v s1 ⟨x,H1,I1,r1,q1⟩=>chain_link (thn (hb pins s1 σ H1 _ I1 q1) fun u s2 ⟨y,H2,I2,r2,q2⟩ =>
  thn (ho pins s2 σ H2 x y v u _ I2 r1 r2 q2) fun d s3 ⟨z,H3,I3,r3,k,e,q3⟩=>?_)) hm
 subst e
 cases r3
 refine wpAny_truthy_bool ?_
 cases k with
 | false=>exact ite_ff ⟨.bl false,H3,I3,rfl,q3⟩
 | true=>exact ite_tt (chain_last (thn (hc pins s3 σ H3 _ I3 q3) fun w' s4 ⟨z',H4,I4,r4,q4⟩=>ho' pins s4 σ H4 y z' u w' Q I4 r2 r4 q4))
def ak0 (K:PySem.W.Frag) (x:V) (H:Hp) (k:Bool):Prop :=
 match x with
 | .non=>k=false
 | .bl b=>k=b
 | .int i=>k=(i != 0)
 | .str y=>y.length≤sizeLine∧k=((y.length:Int) != 0)
 | .byt y=>y.size≤sizeLine∧k=((y.size:Int) != 0)
 | .ref p=>(∃ xs,SqL K H p xs∧k=!xs.isEmpty)∨(∃ xs,SqT K H p xs∧k=!xs.isEmpty)∨∃ kvs,H p=some (.dK kvs)∧k=!kvs.isEmpty
 | _=>False
theorem adf {κ:Type} {kvs:List (κ × V)} {vs:List (κ × Value)} (r:KV kvs vs):(!vs.isEmpty)=!kvs.isEmpty:=by
 cases r <;> rfl
theorem aa6 {xs:List V} {its:List Value} (r:bC xs its):(!its.toArray.isEmpty)=!xs.isEmpty:=by
 cases r <;> simp
theorem lZ:(sizeLine:Nat) < 2 ^ 63:=by rw [sizeLine_eq]; decide
theorem ai8:ali X (fun x H Q=>∃ k,ak0 X.K x H k∧Q k H):=by
 intro pins s σ H x v Q I rx h
 obtain ⟨k,e,q⟩:=h
 have hl:=lZ
 have hs:sizeLine=16777216:=sizeLine_eq
 cases x with
 | non =>
  cases rx
  have e':k=false:=e
  subst e'
  exact truthy_none ⟨H,I,q⟩
 | bl b =>
  cases rx
  have e':k=b:=e
  subst e'
  exact wpAny_truthy_bool ⟨H,I,q⟩
 | int i =>
  obtain ⟨t,rfl⟩:=rx
  have e':k=(i != 0):=e
  subst e'
  exact PySem.P.truthy_int ⟨H,I,q⟩
 | str y =>
  obtain ⟨t,rfl⟩:=rx
  obtain ⟨hy,e'⟩:y.length≤sizeLine∧k=((y.length:Int) != 0):=e
  subst e'
  exact PySem.P.truthy_str (by omega) ⟨H,I.tok _,q⟩
 | byt y =>
  obtain ⟨t,rfl⟩:=rx
  obtain ⟨hy,e'⟩:y.size≤sizeLine∧k=((y.size:Int) != 0):=e
  subst e'
  exact PySem.W.truthy_bytes (by omega) ⟨H,I.tok _,q⟩
 | ref p =>
  cases rx
  have e':(∃ xs,SqL X.K H p xs∧k=!xs.isEmpty)∨(∃ xs,SqT X.K H p xs∧k=!xs.isEmpty)∨∃ kvs,H p=some (.dK kvs)∧k=!kvs.isEmpty:=e
  rcases e' with ⟨xs,hx,e'⟩ | ⟨xs,hx,e'⟩ | ⟨kvs,hx,e'⟩
  ·subst e'
   obtain ⟨its,r,pl,hz⟩:=I.list hx
   have hlen:=r.length
   exact wpAny_truthy_list pl.isList (by simp only [List.size_toArray]; omega) ⟨H,I.tok _,by rw [aa6 r]; exact q⟩
  ·subst e'
   obtain ⟨its,r,pl,hz⟩:=I.tuple hx
   have hlen:=r.length
   exact truthy_tuple pl (by simp only [List.size_toArray]; omega) ⟨H,I.tok _,by rw [aa6 r]; exact q⟩
  ·subst e'
   obtain ⟨hz,hS,vs,r,m⟩:kvs.length≤sizeLine∧(p == sysModules)=false∧∃ vs,KV kvs vs∧s.heap.DictOf (yK X.prog X.w) p vs:=I.hok p _ hx
   have hlen:kvs.length=vs.length:=Paired.length r
   exact wpAny_truthy_dict hS m (by omega) ⟨H,I.tok _,by rw [adf r]; exact q⟩
 | _=>exact (show False from e).elim
theorem afi (ha:PE X a ta) (he:∀ whole,isTrue a X.env whole=(do let v ← whole; standAt a.pos; holding [v] (truthy v))) :
  PT X a (fun σ H Q=>ta σ H fun x H'=>∃ k,ak0 X.K x H' k∧Q k H'):=by
 intro pins s σ H Q I h
 exact isTrue_plain (thn (ha pins s σ H _ I h) fun v s1 ⟨x,H1,I1,r1,q1⟩=>ai8 pins s1 σ H1 x v Q I1 r1 q1) (he _)
theorem pS:OpR X (binaryOp .Add) (fun x y H Q=>∃ i j,x=.str i∧y=.str j∧i.length+j.length≤sizeLine∧Q (.str (i++j)) H):=by
 intro pins s σ H x y v u Q I rx ry h
 obtain ⟨i,j,rfl,rfl,hz,q⟩:=h
 obtain ⟨t,rfl⟩:=rx
 obtain ⟨t',rfl⟩:=ry
 exact add_str (fun t' tk=>⟨.str (i++j),H,I.tok _,⟨_,rfl⟩,q⟩) hz
theorem gW {x:V} {us:List Value} (r:bC [x] us):∃ u,us=[u]∧bM x u:=by
 cases r with
 | cons r1 r2=>cases r2; exact ⟨_,rfl,r1⟩
theorem agJ {x y:V} {us:List Value} (r:bC [x,y] us):∃ u w',us=[u,w']∧bM x u∧bM y w':=by
 cases r with
 | cons r1 r2 =>
  cases r2 with
  | cons r3 r4=>cases r4; exact ⟨_,_,rfl,r1,r3⟩
theorem nS:fS X (.builtin "abs") (fun xs H Q=>∃ i,xs=[.int i]∧Q (.int (if i < 0 then -i else i)) H):=by
 intro pins s σ H xs us Q I r h
 obtain ⟨i,rfl,q⟩:=h
 obtain ⟨u,rfl,t,rfl⟩:=gW r
 exact call_abs_int fun u tk=>⟨.int (if i < 0 then -i else i),H,I.tok _,⟨_,rfl⟩,q⟩
theorem adM (hc:X.calm=true):fS X (.builtin "min") (fun xs H Q=>∃ i j,xs=[.int i,.int j]∧Q (.int (if j < i then j else i)) H):=by
 intro pins s σ H xs us Q I r h
 obtain ⟨i,j,rfl,q⟩:=h
 obtain ⟨u,w',rfl,⟨t,rfl⟩,⟨t',rfl⟩⟩:=agJ r
 refine min_two_ints (I.ok.hd hc) fun h' tk k=>⟨_,H,I.kept k,?_,q⟩
 by_cases hj:j < i
 ·rw [if_pos hj,if_pos hj]; exact ⟨_,rfl⟩
 ·rw [if_neg hj,if_neg hj]; exact ⟨_,rfl⟩
theorem sE:fS X (.type "str") (fun xs H Q=>∃ i,xs=[.int i]∧i.natAbs.log2 < 1920∧Q (.str (toString i)) H):=by
 intro pins s σ H xs us Q I r h
 obtain ⟨i,rfl,hz,q⟩:=h
 obtain ⟨u,rfl,t,rfl⟩:=gW r
 exact PySem.P.str_of_int hz ⟨.str _,H,I.tok _,⟨_,rfl⟩,q⟩
end
end L2
namespace L2
open PySem PySem.Spec PyProof.Rows
structure akK (h:Heap) (x dx C:Addr) (mA:Str→Option Value):Prop where
 obj:h.get? x=some (PySem.W.instObj C dx)
 ns:h.Ns1 dx mA
 ne:dx≠x
theorem ad3 {h:Heap} {dx:Addr} {mA:Str→Option Value} (n:h.Ns1 dx mA):∃ od,h.get? dx=some od∧∀ name,PySem.W.lookIn name od=some (mA name):=by
 obtain ⟨o,es,ep,ho,hd,hk,_,hm⟩:=n
 refine ⟨o,ho,fun name=>?_⟩
 have e:=hm name
 unfold nsFind findBy at e
 rw [← Array.find?_toList] at e
 unfold PySem.W.lookIn
 rw [hd]
 dsimp only
 split
 ·rename_i y q
  rw [q] at e
  exact congrArg some e
 ·rename_i q
  rw [q] at e
  have a:es.toList.any (·.refKey)=false:=by
   rw [List.any_eq_false]
   intro y hy
   obtain ⟨z,t,hkey⟩:=hk y (Array.mem_toList_iff.mp hy)
   simp [DictEntry.refKey,hkey]
  have a':¬ es.toList.any (·.refKey)=true:=by rw [a]; exact Bool.false_ne_true
  rw [if_neg a']
  exact congrArg some e
theorem akK.look {h:Heap} {x dx C:Addr} {mA:Str→Option Value} (I:akK h x dx C mA):∃ od,PySem.W.InstAt h x (PySem.W.instObj C dx) C (some od)∧∀ name,PySem.W.lookIn name od=some (mA name) :=
 let ⟨od,ho,hl⟩:=ad3 I.ns
 ⟨od,⟨I.obj,rfl,rfl,ho⟩,hl⟩
section
variable {prog:Program} {w:World} {A:Around} {E:Value→Shared→Prop} {s:Shared} {K:PySem.W.Frag} {x dx C f:Addr} {mA:Str→Option Value} {name:Str} {v:Value}
end
section
variable {P:Program} {w:World} {H H':Hp} {h h':Heap} {a C dx:Addr} {fs fs':List (Str × V)}
theorem ahv (hok:HOk P w H h) (e:H a=some (.ins C dx fs)):∃ mA,akK h a dx C mA∧(∀ f,akg (fs.lookup f) (mA f))∧PySem.Within mA (fs.map (·.1))∧fs.length≤1000∧H dx=some (.own a):=by
 obtain ⟨d,z,ne,ob,mA,n,r,q⟩:=(show eC P w H h a (.ins C dx fs) from hok a _ e)
 exact ⟨mA,⟨ob,n,ne⟩,r,q,z,d⟩
end
structure Cls (K:PySem.W.Frag) (C:Addr):Prop where
 pg:PySem.W.plainGet K C Str.empty=true
 hd:PySem.W.hasDictIn K C=true
 po:PySem.W.plainOver K C=true
 sa:PySem.W.findIn K (.ref C) "__setattr__"=some (some (.builtin "object.__setattr__"))
theorem Cls.get {K:PySem.W.Frag} {C:Addr} (c:Cls K C) (f:Str):PySem.W.plainGet K C f=true:=c.pg
section
variable {X:Cx} {pins:List (Addr × Obj)} {σ:St} {H:Hp} {s:Shared} {a C dx:Addr} {fs:List (Str × V)} {f:Str} {v:V} {A:Around} {E:Value→Shared→Prop}
end
section
variable {X:Cx} {o e value:Expr} {f:Str} {pos pos' tpos:Pos} {ta tv:TE}
end
section
variable {X:Cx} {pins:List (Addr × Obj)} {σ:St} {H:Hp} {s:Shared} {A:Around} {E:Value→Shared→Prop} {Q:Value→Shared→Prop} {c:Value} {b:Bool}
inductive gX (K:PySem.W.Frag) (H:Hp):V→Value→Prop where
 | non:gX K H .non (.type "NoneType")
 | bl (x:Bool):gX K H (.bl x) (.type "bool")
 | int (i:Int):gX K H (.int i) (.type "int")
 | str (x:Str):gX K H (.str x) (.type "str")
 | flt (x:UInt64):gX K H (.flt x) (.type "float")
 | lst {a:Addr} {xs:List V} (e:H a=some (.lst xs)):gX K H (.ref a) (.type "list")
 | frz {a:Addr} {o:Obj} {xs:List V} (e:H a=some (.frz o (.lst xs))):gX K H (.ref a) (.type "list")
 | tup {a:Addr} {xs:List V} (e:H a=some (.tup xs)):gX K H (.ref a) (.type "tuple")
 | dK {a:Addr} {kvs:List (Key × V)} (e:H a=some (.dK kvs)):gX K H (.ref a) (.type "dict")
 | dT {a:Addr} {kvs:List (List Key × V)} (e:H a=some (.dT kvs)):gX K H (.ref a) (.type "dict")
 | ins {a C dx:Addr} {fs:List (Str × V)} (e:H a=some (.ins C dx fs)) (cl:Cls K C) (ha:PySem.W.findIn K (.ref C) "__class__"=some (some (.builtin "object.__class__")))
   (hn:PySem.W.specialIn K (.builtin "object.__class__") "__get__"=some (some (.builtin "getset_descriptor.__get__"))) (htk:PySem.W.takesIn K (.builtin "object.__class__")=some true)
   (hm:PySem.W.mroIn K C (.type "object")=some true):gX K H (.ref a) (.ref C)
theorem aeF {x:V} {u t:Value} (I:Inv X pins σ H s) (rx:bM x u) (ty:gX X.K H x t) (e:PySem.W.kitOne X.K t c=some b) (h:∀ tk,Q (.bool b) { s with toks:=tk }) :
  wpAny (model X.prog X.w) A (call (.builtin "isinstance") [u,c]) Q E s:=by
 cases ty with
 | non=>cases (show u=Value.none from rx); exact PySem.W.kia_one PySem.W.kitx_none I.kIn True.intro e (fun z=>nomatch z) h
 | bl y=>cases (show u=Value.bool y from rx); exact PySem.W.kia_one PySem.W.kitx_bool I.kIn True.intro e (fun z=>nomatch z) h
 | int i=>obtain ⟨t,q⟩:=(show ∃ t,u=Value.int i t from rx); cases q; exact PySem.W.kia_one PySem.W.kitx_int I.kIn True.intro e (fun z=>nomatch z) h
 | str y=>obtain ⟨t,q⟩:=(show ∃ t,u=Value.str y t from rx); cases q; exact PySem.W.kia_one PySem.W.kitx_str I.kIn True.intro e (fun z=>nomatch z) h
 | flt y=>obtain ⟨t,q⟩:=(show ∃ t,u=Value.float y t from rx); cases q; exact PySem.W.kia_one PySem.W.kitx_float I.kIn True.intro e (fun z=>nomatch z) h
 | @lst a xs ea =>
  cases (show u=Value.ref a from rx)
  obtain ⟨_,_,n,_,h1⟩:=(show eC X.prog X.w H s.heap a (.lst xs) from I.hok a _ ea)
  exact PySem.W.kia_one PySem.W.kitx_list I.kIn ⟨_,h1,rfl⟩ e (fun z=>nomatch z) h
 | @frz a ob xs ea =>
  cases (show u=Value.ref a from rx)
  obtain ⟨_,_,_,n,_,h1⟩:=(show eC X.prog X.w H s.heap a (.frz ob (.lst xs)) from I.hok a _ ea)
  exact PySem.W.kia_one PySem.W.kitx_list I.kIn ⟨_,h1,rfl⟩ e (fun z=>nomatch z) h
 | @tup a xs ea =>
  cases (show u=Value.ref a from rx)
  obtain ⟨_,_,_,p⟩:=(show eC X.prog X.w H s.heap a (.tup xs) from I.hok a _ ea)
  obtain ⟨o,h1,h2,_⟩:=p
  exact PySem.W.kia_one PySem.W.kitx_tuple I.kIn ⟨o,h1,h2⟩ e (fun z=>nomatch z) h
 | @dK a kvs ea =>
  cases (show u=Value.ref a from rx)
  obtain ⟨_,_,vs,_,p⟩:=(show eC X.prog X.w H s.heap a (.dK kvs) from I.hok a _ ea)
  obtain ⟨o,es,ep,h1,h2,_⟩:=p
  exact PySem.W.kia_one PySem.W.kitx_dict I.kIn ⟨o,h1,h2.1⟩ e (fun z=>nomatch z) h
 | @dT a kvs ea =>
  cases (show u=Value.ref a from rx)
  obtain ⟨_,_,xs,_,o,es,ep,h1,h2,_⟩:=(show eC X.prog X.w H s.heap a (.dT kvs) from I.hok a _ ea)
  exact PySem.W.kia_one PySem.W.kitx_dict I.kIn ⟨o,h1,h2.1⟩ e (fun z=>nomatch z) h
 | @ins a C dx fs ea cl ha hn htk hm =>
  cases (show u=Value.ref a from rx)
  obtain ⟨mA,O,_⟩:=ahv I.hok ea
  obtain ⟨od,J,_⟩:=O.look
  exact PySem.W.kia_one (PySem.W.kitx_own (cl.get _) cl.hd ha hn htk hm) I.kIn J e (fun z=>nomatch z) h
end
end L2
namespace L2
open PySem PySem.Spec PyProof.Rows
structure cY (k:Nat) (A:Around):Prop where
 hd:A.handled=none
 dp:A.depth+3*k+5 < recursionLimit
 un:A.units+16*k+200 < cLine
theorem cY.mono {j k:Nat} {A:Around} (r:cY k A) (h:j≤k):cY j A:=⟨r.hd,by have:=r.dp; omega,by have:=r.un; omega⟩
theorem cY.deeper {k:Nat} {A:Around} (r:cY (k+1) A) (env:Env):cY k (A.deeper env) :=
 ⟨r.hd,by have:=r.dp; show A.depth+1+3*k+5 < _; omega,by have:=r.un; show A.units+3+16*k+200 < _; omega⟩
theorem cY.depth {k:Nat} {A:Around} (r:cY k A):A.depth < recursionLimit:=by have:=r.dp; omega
theorem cY.units {k:Nat} {A:Around} (r:cY k A):A.units+64 < cLine:=by have:=r.un; omega
def alj:TA:=fun _ H Q=>Q [] H
def aky (ta:TE) (tr:TA):TA:=fun σ H Q=>ta σ H fun x H1=>tr σ H1 fun xs H2=>Q (x :: xs) H2
section
variable {X:Cx} {e:Expr} {es:List Expr} {te:TE} {t:TA} {pos:Pos}
theorem uI:PA X [] alj:=fun _ _ _ _ H Q I h=>Calls.spliced_nil ⟨[],H,I,.nil,h⟩
theorem nZ (ha:PE X e te) (hr:PA X es t) (hs:starEach (e :: es) X.env=(false,eval e X.env) :: starEach es X.env:=by rfl):PA X (e :: es) (aky te t):=by
 intro pos pins s σ H Q I h
 rw [hs]
 show wpAny _ _ (spliced ((false,eval e X.env) :: backTo pos (starEach es X.env))) _ _ s
 refine Calls.spliced_cons (thn (ha pins s σ H _ I h) fun u s1 ⟨x,H1,I1,r1,q1⟩=>?_)
 exact thn (hr pos pins s1 σ H1 _ I1 q1) fun us s2 ⟨xs,H2,I2,r2,q2⟩=>⟨x :: xs,H2,I2,.cons r1 r2,q2⟩
def ak8 (t:TA):TE:=fun σ H Q=>t σ H fun xs H1=>xs.length≤sizeLine∧∀ p,H1 p=none→Q (.ref p) (upd H1 p (.tup xs))
def alo (t:TA):TE:=fun σ H Q=>t σ H fun xs H1=>xs.length≤sizeLine∧∀ p,H1 p=none→Q (.ref p) (upd H1 p (.lst xs))
theorem agH {x1} (h:PA X es t):PE X (.Tuple es x1 pos) (ak8 t):=by
 intro pins s σ H Q I hq
 refine wpAny_Tuple_spliced (thn (h pos pins s σ H _ I hq) fun us s1 ⟨xs,H1,I1,r,z,q⟩=>⟨by rw [← r.length]; exact z,?_⟩)
 have hf:H1 s1.heap.objs.size=none:=I1.hok.fresh (Nat.le_refl _)
 refine ⟨.ref s1.heap.objs.size,upd H1 s1.heap.objs.size (.tup xs),I1.laid (t':=s1.toks) (fun b u e=>Heap.get?_push_of_some _ e) (Nat.le_refl _) ?_,rfl,q _ hf⟩
 exact ⟨z,us,r,⟨_,Heap.get?_push_size _ rfl,rfl,_,rfl⟩⟩
theorem agp (h:PA X es t):PE X (.List es pos) (alo t):=by
 intro pins s σ H Q I hq
 refine wpAny_List_spliced (thn (h pos pins s σ H _ I hq) fun us s1 ⟨xs,H1,I1,r,z,q⟩=>⟨by rw [← r.length]; exact z,?_⟩)
 have hf:H1 s1.heap.objs.size=none:=I1.hok.fresh (Nat.le_refl _)
 refine ⟨.ref s1.heap.objs.size,upd H1 s1.heap.objs.size (.lst xs),I1.laid (t':=s1.toks) (fun b u e=>Heap.get?_push_of_some _ e) (Nat.le_refl _) ?_,rfl,q _ hf⟩
 exact ⟨z,us,0,r,Heap.get?_push_size _ rfl⟩
end
abbrev Sp:=List V→Hp→VK→XK→Prop
abbrev CXT:=List Env→Hp→Shared→XK→Value→Shared→Prop
structure vO (P:Program) (w:World) (K:PySem.W.Frag) (mg:Str→Option Value) (base:Heap) (A:Around) (outer:List Env) (s:Shared) (H:Hp):Prop where
 frames:A.frames=some outer
 mod:Mod K mg base
 bs:∀ b o,base.get? b=some o→s.heap.get? b=some o∧H b=none
 bsz:base.objs.size≤s.heap.objs.size
 funs:s.heap.FunFrames base outer
 frf:∀ b∈frs outer,H b=none
 hok:HOk P w H s.heap
 bare:AllBare s.gens
def CE (outer:List Env) (P:Program) (w:World) (H:Hp) (s:Shared) (Q:VK) (u:Value) (s':Shared):Prop :=
 ∃ v H',s'.os=s.os∧AllBare s'.gens∧Un (frs outer) [] H H' s.heap s'.heap∧HOk P w H' s'.heap∧bM v u∧Q v H'
def CR (CX:CXT) (outer:List Env) (P:Program) (w:World) (H:Hp) (s:Shared) (Q:VK) (E:XK) (r:Result) (s':Shared):Prop :=
 match r with
 | .ok (.ret u)=>CE outer P w H s Q u s'
 | .ok _=>False
 | .error e=>CX outer H s E e s'
structure aW (P:Program) (w:World) (K:PySem.W.Frag) (mg:Str→Option Value) (base:Heap) (CX:CXT) (k:Nat) (f:Addr) (fd:FuncData) (ps:List Str) (sp:Sp):Prop where
 len:∀ vs H Q E,sp vs H Q E→vs.length=ps.length
 run:∀ (A:Around) (outer:List Env) (s:Shared) (H:Hp) (args:Args) (us:List Value) (vs:List V) (Q:VK) (E:XK),cY k A→vO P w K mg base A outer s H→BindsTo s fd args (ps.zip us)→bC vs us→sp vs H Q E →
  codeAny (model P w) A (.call (.ref f) args) (CR CX outer P w H s Q E) s
theorem aW.imp {P:Program} {w:World} {K:PySem.W.Frag} {mg:Str→Option Value} {base:Heap} {CX:CXT} {k:Nat} {f:Addr} {fd:FuncData} {ps:List Str} {sp sp':Sp} (F:aW P w K mg base CX k f fd ps sp)
  (h:∀ vs H Q E,sp' vs H Q E→sp vs H Q E):aW P w K mg base CX k f fd ps sp' :=
 ⟨fun vs H Q E q=>F.len vs H Q E (h _ _ _ _ q),fun A outer s H args us vs Q E hr he hb hv hs=>F.run A outer s H args us vs Q E hr he hb hv (h _ _ _ _ hs)⟩
section
variable {X:Cx} {pins:List (Addr × Obj)} {σ:St} {H:Hp} {s s':Shared}
theorem Inv.env0 (I:Inv X pins σ H s):vO X.prog X.w X.K X.mg X.base X.A X.stack s H :=
 ⟨I.ok.frames,I.ok.mod,I.bs,Nat.le_trans I.ok.bsz I.sz,I.stack,I.stkFree,I.hok,I.bare⟩
theorem Inv.after {Q:VK} {u:Value} (I:Inv X pins σ H s) (h:CE X.stack X.prog X.w H s Q u s'):EP X pins σ Q u s':=by
 obtain ⟨v,H',os,bare,un,hok,r,q⟩:=h
 obtain ⟨hh,g,d,t,os'⟩:=s'
 obtain rfl:os'=s.os:=os
 exact ⟨v,H',I.call (h':=hh) (g':=g) (d':=d) (t':=t) (ch:=[]) un hok bare (fun b z=>absurd z (by simp)),r,q⟩
end
def akf (sp:Sp) (dvs:List V) (E:XK) (t:TA):TE:=fun σ H Q=>t σ H fun vs H1=>sp (vs++dvs) H1 Q E
def cU (K:PySem.W.Frag) (fd:FuncData) (ps:List Str) (ds:List Value):Prop :=
 ∀ (s:Shared) (us:List Value),K.In s.heap→(us++ds).length=ps.length→BindsTo s fd ⟨us,[]⟩ (ps.zip (us++ds))
theorem cU.all {K:PySem.W.Frag} {fd:FuncData} {ps:List Str} (h:∀ us:List Value,us.length=ps.length→bindArgs fd ⟨us,[]⟩=pure (ps.zip us)):cU K fd ps []:=fun s us _ hl=>by
 rw [List.append_nil] at hl ⊢
 exact .of_eq (h us hl)
def hU (CX:CXT) (X:Cx) (E:XK):Prop:=∀ (pins:List (Addr × Obj)) (σ:St) (H:Hp) (s:Shared) (e:Value) (s':Shared),Inv X pins σ H s→CX X.stack H s E e s'→X.xe e s'
section
variable {X:Cx} {CX:CXT} {k:Nat} {f C:Addr} {fd:FuncData} {ps:List Str} {sp:Sp} {dvs:List V} {ds:List Value} {E:XK} {x m:Str} {p pos apos:Pos} {e o:Expr} {es:List Expr} {ta:TE} {t:TA}
theorem aiW {pins:List (Addr × Obj)} {σ:St} {H:Hp} {s:Shared} {Q:VK} {us:List Value} {vs:List V} (F:aW X.prog X.w X.K X.mg X.base CX k f fd ps sp) (hr:cY k X.A) (hb:cU X.K fd ps ds) (hd:bC dvs ds) (hx:hU CX X E)
  (I:Inv X pins σ H s) (r:bC vs us) (h:sp (vs++dvs) H Q E):wpAny (model X.prog X.w) X.A (call (.ref f) us) (EP X pins σ Q) X.xe s:=by
 have r2:bC (vs++dvs) (us++ds):=r.append hd
 have hl:(us++ds).length=ps.length:=by rw [← r2.length]; exact F.len _ _ _ _ h
 refine wpAny_call (codeAny_mono (F.run X.A X.stack s H ⟨us,[]⟩ (us++ds) (vs++dvs) Q E hr I.env0 (hb s us I.kIn hl) r2 h) fun r s' hq=>?_)
 cases r with
 | error e=>exact hx pins σ H s e s' I hq
 | ok fl =>
  cases fl with
  | ret u=>exact I.after hq
  | next=>exact False.elim hq
  | brk=>exact False.elim hq
  | cont=>exact False.elim hq
theorem qG (F:aW X.prog X.w X.K X.mg X.base CX k f fd ps sp) (hr:cY k X.A) (hg:Gl X x) (hm:X.mg x=some (.ref f)) (hk:PySem.W.keepIn X.K (.ref f)=true) (hb:cU X.K fd ps ds) (hd:bC dvs ds) (hx:hU CX X E)
  (ha:PA X (e :: es) t) (hdb:(x == ("__debug__":Str))=false:=by decide) (he:starEach (e :: es) X.env=(false,eval e X.env) :: starEach es X.env:=by rfl) (hpl:(backTo pos (starEach es X.env)).any (·.1)=false:=by rfl) :
  PE X (.Call (.Name x p) (e :: es) [] pos) (akf sp dvs E t):=by
 intro pins s σ H Q I h
 refine wpAny_Call_Name_kw (qE I hg hm ?_ hdb)
 refine PySem.W.callWith_K (h₀:=X.base) I.ok.mod.kin hk (thn (ha pos pins s σ H _ I h) fun us s1 ⟨vs,H1,I1,r,q⟩=>⟨I1.kIn,?_⟩) he hpl
 exact aiW F hr hb hd hx I1 r q
end
section
variable {X:Cx} {CX:CXT} {k:Nat} {f C:Addr} {fd:FuncData} {ps ks:List Str} {sp:Sp} {E:XK} {x m:Str} {p pos apos kpos:Pos} {e o:Expr} {es:List Expr} {kws:List Keyword} {te ta:TE} {t tk:TA} {nm:Option Str}
variable {g:List Value→List Value→List Value} {gV:List V→List V→List V}
end
structure bQ (N P:List Str) (sc:Scope):Prop where
 kind:sc.kind=.function
 co:sc.isCoroutine=false
 gen:sc.isGenerator=false
 nd:N.Nodup
 pre:N.take P.length=P
 par:∀ x∈P,sc.names.lookup x=some .local∨sc.names.lookup x=some .cell
 nofree:∀ y∈sc.names,y.2≠.free
theorem acd {kindOf:Str→Option NameKind} {x:Str}:∀ {binds:List (Str × Value)} {m:Str→Option Value},(∀ v,(x,v) ∉ binds)→bindL kindOf binds m x=m x
 | [],_,_=>rfl
 | (n,v) :: r,m,h=>by
  unfold bindL
  rw [acd fun w hw=>h w (List.mem_cons_of_mem _ hw)]
  split
  ·have:x≠n:=by rintro rfl; exact h v List.mem_cons_self
   simp [this]
  ·rfl
theorem abE {kindOf:Str→Option NameKind} {x:Str}:∀ {binds:List (Str × Value)} {m:Str→Option Value},(∀ v,(x,v) ∉ binds)→bindC kindOf binds m x=m x
 | [],_,_=>rfl
 | (n,v) :: r,m,h=>by
  unfold bindC
  rw [abE fun w hw=>h w (List.mem_cons_of_mem _ hw)]
  split
  ·rfl
  ·have:x≠n:=by rintro rfl; exact h v List.mem_cons_self
   simp [this]
theorem abT {kindOf:Str→Option NameKind} {x:Str} {v:Value}:∀ {P:List Str} {vs:List Value} {i:Nat} {m:Str→Option Value},P.Nodup→P[i]?=some x→vs[i]?=some v→kindOf x=some .local →
  bindL kindOf (P.zip vs) m x=some v
 | [],_,_,_,_,h,_,_=>by simp at h
 | _ :: _,[],_,_,_,_,h,_=>by simp at h
 | p :: P,w :: vs,0,m,nd,h1,h2,hk=>by
  simp at h1 h2; subst h1; subst h2
  show bindL kindOf ((p,w) :: P.zip vs) m p=_
  unfold bindL
  rw [acd fun v hv=>(List.nodup_cons.mp nd).1 (List.of_mem_zip hv).1,if_pos hk]
  simp
 | p :: P,w :: vs,i+1,m,nd,h1,h2,hk=>by
  show bindL kindOf ((p,w) :: P.zip vs) m x=_
  unfold bindL
  exact abT (i:=i) (List.nodup_cons.mp nd).2 (by simpa using h1) (by simpa using h2) hk
theorem abN {kindOf:Str→Option NameKind} {x:Str} {v:Value}:∀ {P:List Str} {vs:List Value} {i:Nat} {m:Str→Option Value},P.Nodup→P[i]?=some x→vs[i]?=some v→kindOf x≠some .local →
  bindC kindOf (P.zip vs) m x=some v
 | [],_,_,_,_,h,_,_=>by simp at h
 | _ :: _,[],_,_,_,_,h,_=>by simp at h
 | p :: P,w :: vs,0,m,nd,h1,h2,hk=>by
  simp at h1 h2; subst h1; subst h2
  show bindC kindOf ((p,w) :: P.zip vs) m p=_
  unfold bindC
  rw [abE fun v hv=>(List.nodup_cons.mp nd).1 (List.of_mem_zip hv).1,if_neg hk]
  simp
 | p :: P,w :: vs,i+1,m,nd,h1,h2,hk=>by
  show bindC kindOf ((p,w) :: P.zip vs) m x=_
  unfold bindC
  exact abN (i:=i) (List.nodup_cons.mp nd).2 (by simpa using h1) (by simpa using h2) hk
def start (N:List Str) (vs:List V):St:=vs.map some++List.replicate (N.length - vs.length) none
def aM (CX:CXT) (P:Program) (w:World) (K:PySem.W.Frag) (mg:Str→Option Value) (base:Heap) (N:List Str) (qual:Str) (scope:Scope) (f:Addr) (cd:Value) (A:Around) (outer:List Env) (s:Shared) (H:Hp) (E:XK):Cx where
 prog:=P
 w:=w
 K:=K
 mg:=mg
 base:=base
 A:=A.deeper (envOfC qual scope s.heap.objs.size f cd)
 N:=N
 s₀:=s
 H₀:=H
 env:=envOfC qual scope s.heap.objs.size f cd
 outer:=outer
 stack:=envOfC qual scope s.heap.objs.size f cd :: outer
 ex:=[]
 calm:=true
 fn:=fun _=>true
 pn:=[]
 xe:=fun e s'=>wpAny (model P w) (A.deeper (envOfC qual scope s.heap.objs.size f cd)) (leaving (envOfC qual scope s.heap.objs.size f cd) e) (fun _ s''=>CX outer H s E e s'') (fun e' s''=>CX outer H s E e' s'') s'
theorem acN {sc:Scope} {n:Nat} {x:Str} (h:sc.names.lookup x=some .cell):∃ c,(cellsFrom n sc.names []).lookup x=some c:=by
 have q:=PySem.W.cellsFrom_some sc.names n [] (.inl h)
 exact Option.isSome_iff_exists.mp q
theorem adE {CX:CXT} {P:Program} {w:World} {K:PySem.W.Frag} {mg:Str→Option Value} {base:Heap} {N ps:List Str} {qual:Str} {scope:Scope} {f:Addr} {cd:Value} {A:Around} {outer:List Env} {s s1:Shared} {H:Hp} {E:XK} {us:List Value} {vs:List V}
  (S:bQ N ps scope) (hd:A.handled=none) (e0:vO P w K mg base A outer s H) (hl:vs.length=ps.length) (r:bC vs us)
  (x:InCallC s s.heap.objs.size (bindL (envOfC qual scope s.heap.objs.size f cd).kindOf (ps.zip us) fun _=>none) (cellsFrom (s.heap.objs.size+1) scope.names []) (bindC (envOfC qual scope s.heap.objs.size f cd).kindOf (ps.zip us) fun _=>none) s1) :
  Inv (aM CX P w K mg base N qual scope f cd A outer s H E) [] (start N vs) H s1:=by
 have hpl:ps.length≤N.length:=by have:=congrArg List.length S.pre; rw [List.length_take] at this; omega
 obtain ⟨h1,tk,rfl,hk⟩:=x.done
 have noA:∀ b:Addr,b ∉ (aM CX P w K mg base N qual scope f cd A outer s H E).ex:=fun b z=>absurd (show b∈([]:List Addr) from z) (by simp)
 refine ⟨⟨e0.mod,S.kind,rfl,rfl,Nat.le_refl _,fun y z c h1 h2=>?_,fun y hy=>?_,fun y c _ h=>?_,fun _=>hd,Around.frames_deeper e0.frames,.inr ⟨rfl,rfl⟩,fun b z=>absurd z (noA b),e0.bs,e0.bsz,fun b _ _=>noA b,fun b z=>absurd z (noA b),e0.funs,e0.frf⟩,
  rfl,e0.bare,Un.kept hk,⟨_,x.toInCall.ns,fun i y v h1 h2 h3=>?_⟩,fun y c h=>⟨_,x.cell y c h⟩,e0.hok.fresh (Nat.le_refl _),fun y c h=>?_,fun p hp=>absurd (show p∈([]:List (Addr × Obj)) from hp) (by simp),e0.hok.kept hk,?_⟩
 ·exact name_of_addr x.apart (PySem.mem_of_lookup h1) (PySem.mem_of_lookup h2)
 ·have hy:scope.names.lookup y=some .cell∨scope.names.lookup y=some .free:=hy
  rcases hy with hy | hy
  ·exact acN hy
  ·exact absurd rfl (S.nofree _ (PySem.mem_of_lookup hy))
 ·exact Nat.le_of_lt (x.above y c (PySem.mem_of_lookup h))
 ·have hi:i < vs.length:=by
   unfold start at h2
   by_cases hi:i < vs.length
   ·exact hi
   ·rw [List.getElem?_append_right (by simpa using hi)] at h2
    rw [List.getElem?_replicate] at h2
    split at h2 <;> cases h2
  have ha:vs[i]?=some v:=by
   unfold start at h2
   rw [List.getElem?_append_left (by simpa using hi),List.getElem?_map] at h2
   cases e:vs[i]? with
   | none=>rw [e] at h2; cases h2
   | some a=>rw [e] at h2; cases h2; rfl
  obtain ⟨u,hu,rv⟩:=r.get ha
  have hp:ps[i]?=some y:=by
   rw [← S.pre,List.getElem?_take_of_lt (by omega)]; exact h1
  have ndP:ps.Nodup:=by rw [← S.pre]; exact S.nd.sublist (List.take_sublist _ _)
  refine ⟨u,rv,?_⟩
  rcases S.par y (List.mem_of_getElem? hp) with k | k
  ·exact .inl ⟨k,abT ndP hp hu k⟩
  ·obtain ⟨c,e⟩:=acN (n:=s.heap.objs.size+1) k
   refine .inr ⟨.inl k,c,e,?_⟩
   have q:=x.cell y c e
   rw [abN ndP hp hu (by show scope.names.lookup y≠_; rw [k]; decide)] at q
   exact q
 ·exact e0.hok.fresh (Nat.le_of_lt (x.above y c (PySem.mem_of_lookup h)))
 ·unfold start
  show _=N.length
  rw [List.length_append,List.length_map,List.length_replicate]
  omega
theorem agR {CX:CXT} {P:Program} {w:World} {K:PySem.W.Frag} {mg:Str→Option Value} {base:Heap} {k:Nat} {f:Addr} {name qual:Str} {params:Arguments} {body:List Stmt} {scope:Scope} {dV kV doc pm cdv ct oc:Value} {an od:Option Addr}
  {osl:Array (Option Value)} {N ps:List Str} {sp:Sp} (lk:K.lookup f=some ⟨oc,od,.func (PySem.W.fnOf name qual params body scope dV kV doc pm an cdv ct),osl⟩) (hcd:PySem.W.codeIn K cdv qual=true) (S:bQ N ps scope)
  (len:∀ vs H Q E,sp vs H Q E→vs.length=ps.length)
  (hbody:∀ (A:Around) (outer:List Env) (s:Shared) (H:Hp) (vs:List V) (Q:VK) (E:XK),cY k (A.deeper (envOfC qual scope s.heap.objs.size f cdv))→sp vs H Q E →
   ∃ t,PSs (aM CX P w K mg base N qual scope f cdv A outer s H E) body t∧t { nx:=fun _ H'=>Q .non H',rt:=Q } (start N vs) H) :
  aW P w K mg base CX (k+1) f (PySem.W.fnOf name qual params body scope dV kV doc pm an cdv ct) ps sp:=by
 refine ⟨len,fun A outer s H args us vs Q E hr e0 hb r hsp=>?_⟩
 have hl:=len _ _ _ _ hsp
 have KX:K.In s.heap:=e0.mod.kin.keeps fun b o e=>(e0.bs b o e).1
 have lim:s.heap.NoLimit:=e0.mod.nolimit.keeps fun b o e=>(e0.bs b o e).1
 have hkind:∀ y∈ps.zip us,scope.names.lookup y.1=some .local∨(scope.names.lookup y.1=some .cell∧((cellsFrom (s.heap.objs.size+1) scope.names []).lookup y.1).isSome=true):=fun ⟨n,v⟩ hy=>by
  rcases S.par n (List.of_mem_zip hy).1 with q | q
  ·exact .inl q
  ·exact .inr ⟨q,PySem.W.cellsFrom_some _ _ _ (.inl q)⟩
 refine codeAny_call_function hr.depth (KX _ _ lk) rfl S.co S.gen rfl (PySem.W.codeRec_of KX hcd) (hb _ _ _ _ ?_)
 refine wpAny_newFunctionEnv_cells S.kind hkind fun env he s1 x=>?_
 subst he
 refine ⟨lim.keeps x.toInCall.keep,codeAny_func ?_⟩
 obtain ⟨t,ht,hq⟩:=hbody A outer s H vs Q E (hr.deeper _) hsp
 have I:Inv (aM CX P w K mg base N qual scope f cdv A outer s H E) [] (start N vs) H s1:=adE S hr.hd e0 hl r x
 refine wpAny_mono (ht [] s1 (start N vs) H _ I hq) (fun fl s' hs=>?_) fun e s' hs=>hs
 have fin:∀ {σ':St} {H':Hp} {v:V} {u:Value},Inv (aM CX P w K mg base N qual scope f cdv A outer s H E) [] σ' H' s'→bM v u→Q v H'→CE outer P w H s Q u s' :=
  fun {σ' H' v u} J rv q=>⟨v,H',J.os,J.bare,J.base,J.hok,rv,q⟩
 cases fl with
 | ret u =>
  obtain ⟨v,σ',H',J,rv,q⟩:=hs
  exact fin J rv q
 | next =>
  obtain ⟨σ',H',J,q⟩:=hs
  exact fin (v:=V.non) (u:=Value.none) J rfl q
 | brk =>
  obtain ⟨_,_,_,q⟩:=hs
  exact False.elim q
 | cont =>
  obtain ⟨_,_,_,q⟩:=hs
  exact False.elim q
end L2
namespace L2
open PySem PySem.Spec PyProof.Rows
section
variable {X:Cx} {x:Str} {p pos:Pos} {e:Expr} {es:List Expr} {t:TA} {id T:String} {r:List V→Hp→VK→Prop}
def tCB (r:List V→Hp→VK→Prop) (t:TA):TE:=fun σ H Q=>t σ H fun vs H1=>r vs H1 Q
theorem acO (hc:fS X (.builtin id) r) (hg:Gl X x) (hm:X.mg x=none) (hv:bootBuiltins x=some (.builtin id)) (ha:PA X (e :: es) t) (hn:x≠"__name__":=by decide) (hdb:(x == ("__debug__":Str))=false:=by decide)
  (he:starEach (e :: es) X.env=(false,eval e X.env) :: starEach es X.env:=by rfl) (hpl:(backTo pos (starEach es X.env)).any (·.1)=false:=by rfl):PE X (.Call (.Name x p) (e :: es) [] pos) (tCB r t):=by
 intro pins s σ H Q I h
 refine wpAny_Call_Name_kw (oM I hg hm hv ?_ hn hdb)
 exact PyProof.Rows.callWith_builtin1 (thn (ha pos pins s σ H _ I h) fun us s1 ⟨vs,H1,I1,r1,q1⟩=>hc pins s1 σ H1 vs us Q I1 r1 q1) he hpl
theorem adU (hc:fS X (.type T) r) (hg:Gl X x) (hm:X.mg x=none) (hv:bootBuiltins x=some (.type T)) (ha:PA X (e :: es) t) (hn:x≠"__name__":=by decide) (hdb:(x == ("__debug__":Str))=false:=by decide)
  (he:starEach (e :: es) X.env=(false,eval e X.env) :: starEach es X.env:=by rfl) (hpl:(backTo pos (starEach es X.env)).any (·.1)=false:=by rfl):PE X (.Call (.Name x p) (e :: es) [] pos) (tCB r t):=by
 intro pins s σ H Q I h
 refine wpAny_Call_Name_kw (oM I hg hm hv ?_ hn hdb)
 exact PyProof.Rows.callWith_type1 (thn (ha pos pins s σ H _ I h) fun us s1 ⟨vs,H1,I1,r1,q1⟩=>hc pins s1 σ H1 vs us Q I1 r1 q1) he hpl
end
end L2
namespace HT
open PySem PyProof.Rows
def lexLt:List Int→List Int→Bool
 | [],[]=>false
 | [],_ :: _=>true
 | _ :: _,[]=>false
 | x :: xs,y :: ys=>if x=y then lexLt xs ys else decide (x < y)
theorem lexLt_cons (x y:Int) (xs ys:List Int):lexLt (x :: xs) (y :: ys)=if x=y then lexLt xs ys else decide (x < y):=rfl
section
open PySem.SeqAt
open PySem.AutoSeq1 (wpAny_loadPart')
open PySem.MeetsSeq PySem.MeetsSeq2 PySem.MeetsSeq3
end
section
variable {prog:Program} {w:World} {A:Around} {E:Value→Shared→Prop} {s:Shared}
theorem cat_tup {t b:Addr} {vs ws:List Value} {Q:Value→Shared→Prop} (ht:IsTup s.heap t vs.toArray) (hb:IsTup s.heap b ws.toArray) (hv:vs≠[])
  (h1:ws=[]→Q (.ref t) s) (h2:ws≠[]→Q (.ref s.heap.objs.size) { s with heap:=s.heap.push { cls:=.type "tuple",data:=.seq (vs++ws).toArray } })
  (hsz:vs.length+ws.length≤sizeLine):wpAny (model prog w) A (binaryOp .Add (.ref t) (.ref b)) Q E s:=by
 obtain ⟨⟨cls,dd,data,sl⟩,ho,hc,n,hd⟩:=id ht
 obtain ⟨⟨cls2,dd2,data2,sl2⟩,ho2,hc2,n2,hd2⟩:=id hb
 simp only at hc hd hc2 hd2
 subst hc hd hc2 hd2
 have e:vs.toArray++ws.toArray=(vs++ws).toArray:=by simp
 by_cases hw:ws=[]
 ·exact concat_meets ⟨_,ho,rfl⟩ ⟨_,ho2,rfl⟩ noFill_tuple_add seq_tuple_add PySem.F.slot_tuple_add PySem.F.entry_tuple_add (PySem.F.args_tuple_add_2 _ _)
   (tuple_addW1 t b vs.toArray ws.toArray n n2 dd dd2 sl sl2 (by simpa using hv) (by simp [hw])) ⟨ho,ho2,h1 hw⟩
 ·refine concat_meets ⟨_,ho,rfl⟩ ⟨_,ho2,rfl⟩ noFill_tuple_add seq_tuple_add PySem.F.slot_tuple_add PySem.F.entry_tuple_add (PySem.F.args_tuple_add_2 _ _)
   (tuple_addW2 t b vs.toArray ws.toArray n n2 dd dd2 sl sl2 (by simpa using hv) (by simpa using hw) (by rw [List.size_toArray,List.size_toArray]; exact hsz)) ⟨ho,ho2,?_⟩
  rw [e]
  exact h2 hw
def sIx (n d:Nat):Option Int→Nat
 | none=>d
 | some v=>if v < 0 then (v+(n:Int)).toNat else min v.toNat n
theorem sIx_nat (n d k:Nat):sIx n d (some (k:Int))=min k n:=by
 show (if (k:Int) < 0 then ((k:Int)+(n:Int)).toNat else min (k:Int).toNat n)=min k n
 rw [if_neg (by omega),Int.toNat_natCast]
theorem ajf (n d:Nat) (hd:d≤n) (o:Option Int):sIx n d o≤n:=by
 cases o with
 | none=>exact hd
 | some v =>
  show (if v < 0 then (v+(n:Int)).toNat else min v.toNat n)≤n
  by_cases hv:v < 0
  ·rw [if_pos hv]; omega
  ·rw [if_neg hv]; exact Nat.min_le_right _ _
theorem aev (v:Int) (n d:Nat):(if v < 0 then max (v+(n:Int)) 0 else min v (n:Int))=((sIx n d (some v):Nat):Int):=by
 show (if v < 0 then max (v+(n:Int)) 0 else min v (n:Int))=(((if v < 0 then (v+(n:Int)).toNat else min v.toNat n):Nat):Int)
 by_cases hv:v < 0
 ·simp only [if_pos hv]; omega
 ·simp only [if_neg hv]; omega
theorem adl (lo hi:Option Int) (n:Nat):Builtin.Slice.sliceAdjust lo hi 1 (n:Int)=(((sIx n 0 lo:Nat):Int),((sIx n n hi:Nat):Int)):=by
 have h1:¬ ((1:Int) < 0):=by omega
 unfold Builtin.Slice.sliceAdjust
 simp only [h1,if_false]
 refine Prod.ext ?_ ?_
 ·cases lo with
  | none=>rfl
  | some v=>exact aev v n 0
 ·cases hi with
  | none=>rfl
  | some v=>exact aev v n n
theorem adw (i j:Nat):Builtin.Slice.slicePlaces (i:Int) (j:Int) 1=j - i:=by
 unfold Builtin.Slice.slicePlaces
 have h1:(1:Int) > 0:=by omega
 simp only [h1,if_true,Int.ediv_one]
 split <;> omega
theorem abf {v:Value} {o:Option Int} {Q:Option Int→Shared→Prop} (p:IsPart v o) (h:Q o s):wpAny (model prog w) A (Builtin.Slice.slicePartIndex v) Q E s:=by
 cases p with
 | none=>exact slicePart_none h
 | int i t=>exact slicePart_int h
theorem aaE {sl:Addr} {vl vu:Value} {lo hi:Option Int} {n:Nat} {Q:Int × Int × Nat→Shared→Prop} (hs:s.heap.IsSliceOf sl vl vu .none) (pl:IsPart vl lo) (pu:IsPart vu hi)
  (h:Q (((sIx n 0 lo:Nat):Int),1,sIx n n hi - sIx n 0 lo) s):wpAny (model prog w) A (Builtin.Slice.sliceApplied (.ref sl) (pure (n:Int))) Q E s:=by
 obtain ⟨os,hos,hcs,hds⟩:=id hs
 unfold Builtin.Slice.sliceApplied Builtin.Slice.sliceFields
 refine wpAny_bind (wpAny_bind (wpAny_field hos hds (x:=vl) rfl (wpAny_bind (wpAny_field hos hds (x:=vu) rfl (wpAny_bind (wpAny_field hos hds (x:=.none) rfl (wpAny_pure ?_)))))))
 refine wpAny_bind (slicePart_none ?_)
 show wpAny _ _ (if ((1:Int) == 0)=true then _ else _) _ _ s
 rw [if_neg (by decide)]
 refine wpAny_bind (abf pl (wpAny_bind (abf pu (wpAny_bind (wpAny_pure ?_)))))
 show wpAny _ _ (match Builtin.Slice.sliceAdjust lo hi 1 (n:Int) with | (lo,hi)=>pure (lo,(1:Int),Builtin.Slice.slicePlaces lo hi 1)) _ _ s
 rw [adl lo hi n]
 show wpAny _ _ (pure (((sIx n 0 lo:Nat):Int),(1:Int),Builtin.Slice.slicePlaces ((sIx n 0 lo:Nat):Int) ((sIx n n hi:Nat):Int) 1)) _ _ s
 rw [adw]
 exact wpAny_pure h
theorem ae8 (xs:Array Value) (i k:Nat):((List.range k).filterMap fun (m:Nat)=>xs[((i:Int)+(m:Int)*1).toNat]?).toArray=((xs.toList.drop i).take k).toArray:=by
 have e:(fun (m:Nat)=>xs[((i:Int)+(m:Int)*1).toNat]?)=fun m=>xs[i+m]?:=by
  funext m
  have:((i:Int)+(m:Int)*1).toNat=i+m:=by omega
  rw [this]
 rw [e]
 have:=pick_run xs i k
 rw [List.filterMap_map] at this
 have e2:((fun x=>xs[x]?) ∘ fun x=>i+x)=fun m=>xs[i+m]?:=rfl
 rw [e2] at this
 rw [this]
theorem getItem_tuple_cut {t sl:Addr} {items:Array Value} {vl vu:Value} {lo hi:Option Int} {Q:Value→Shared→Prop} (ht:IsTup s.heap t items) (hs:s.heap.IsSliceOf sl vl vu .none) (pl:IsPart vl lo) (pu:IsPart vu hi)
  (hw:¬ (sIx items.size 0 lo=0∧sIx items.size items.size hi=items.size))
  (h:Q (.ref s.heap.objs.size) { s with heap:=s.heap.push { cls:=.type "tuple",data:=.seq ((items.toList.drop (sIx items.size 0 lo)).take (sIx items.size items.size hi - sIx items.size 0 lo)).toArray } })
  (hsz:items.size≤sizeLine):wpAny (model prog w) A (getItem (.ref t) (.ref sl)) Q E s:=by
 have htake:sizeOk (.seq ((items.toList.drop (sIx items.size 0 lo)).take (sIx items.size items.size hi - sIx items.size 0 lo)).toArray):=by
  show ((items.toList.drop (sIx items.size 0 lo)).take (sIx items.size items.size hi - sIx items.size 0 lo)).toArray.size≤sizeLine
  rw [List.size_toArray,List.length_take,List.length_drop,Array.length_toList]
  omega
 have hj:sIx items.size items.size hi≤items.size:=ajf _ _ (Nat.le_refl _) hi
 obtain ⟨os,hos,hcs,hds⟩:=id hs
 have hTs:s.TypeIs (.ref sl) "slice":=⟨os,hos,hcs⟩
 unfold getItem
 try with_reducible refine wpAny_holding ?_
 first | refine wpAny_bind (wpAny_pure ?_) | skip
 refine wpAny_bind (wpAny_sequenceKey ht.typeIs (by decide) ?_)
 refine wpAny_bind (wpAny_callSpecial?_slot (name:=Str.ofString "__getitem__") ht.typeIs PyProof.Rows.slot_tuple_getitem
  (wpAny_call_entry PyProof.Rows.slot_tuple_getitem ht.typeIs entry_tuple_getitem ?_ (args_tuple_getitem _ _)))
 show wpAny _ _ (Builtin.Tuple.tupleItemsOf (.ref t) >>= _) _ _ s
 refine wpAny_bind (tupleItemsOf_ ht ?_)
 refine wpAny_bind (wpAny_typeOf hTs ?_)
 rw [if_pos (by decide)]
 refine wpAny_bind (aaE hs pl pu ?_)
 have hno:¬ ((((sIx items.size 0 lo:Nat):Int) == 0 && (1:Int) == 1 && (sIx items.size items.size hi - sIx items.size 0 lo) == items.size)=true):=by
  intro q
  rw [Bool.and_eq_true,Bool.and_eq_true] at q
  have q1:((sIx items.size 0 lo:Nat):Int)=0:=eq_of_beq q.1.1
  have q2:sIx items.size items.size hi - sIx items.size 0 lo=items.size:=eq_of_beq q.2
  exact hw ⟨by omega,by omega⟩
 show wpAny _ _ (if (((sIx items.size 0 lo:Nat):Int) == 0 && (1:Int) == 1 && (sIx items.size items.size hi - sIx items.size 0 lo) == items.size)=true then _ else _) _ _ s
 rw [if_neg hno,ae8]
 first
  | exact wpAny_bind (m:=Builtin.Tuple.tupleExact _) (wpAny_newObj_type (wpAny_pure ⟨_,rfl,wpAny_pure h⟩) htake)
  | exact wpAny_bind (m:=Builtin.Tuple.tupleExact _) (wpAny_newObj_type (wpAny_bind (wpAny_pure (wpAny_pure ⟨_,rfl,wpAny_pure h⟩))) htake)
  | exact wpAny_bind (wpAny_bind (m:=Builtin.Tuple.tupleExact _) (wpAny_newObj_type (wpAny_pure (wpAny_pure ⟨_,rfl,wpAny_pure h⟩)) htake))
  | exact wpAny_bind (wpAny_bind (m:=Builtin.Tuple.tupleExact _) (wpAny_newObj_type (wpAny_pure ⟨_,rfl,wpAny_pure h⟩) htake))
end
end HT
namespace L2
open PySem PySem.Spec PyProof.Rows
abbrev TO:=St→Hp→(Option Int→Hp→Prop)→Prop
def PO (X:Cx) (e:Option Expr) (t:TO):Prop :=
 ∀ (pins:List (Addr × Obj)) (s:Shared) (σ:St) (H:Hp) (Q:Option Int→Hp→Prop),Inv X pins σ H s→t σ H Q →
  wpAny (model X.prog X.w) X.A (evalPart e X.env) (fun u s'=>∃ o H',Inv X pins σ H' s'∧IsPart u o∧Q o H') X.xe s
def agO:TO:=fun _ H Q=>Q none H
def aki (t:TE):TO:=fun σ H Q=>t σ H fun x H1=>∃ i,x=.int i∧Q (some i) H1
section
variable {X:Cx} {e:Expr} {te:TE} {lo hi:Option Expr} {tl th:TO} {pos p2:Pos}
theorem ahb:PO X none agO:=by
 intro pins s σ H Q I h
 rw [evalPart_none]
 exact wpAny_pure ⟨none,H,I,.none,h⟩
theorem ag3 (h:PE X e te):PO X (some e) (aki te):=by
 intro pins s σ H Q I hw
 rw [evalPart_some]
 refine thn (h pins s σ H _ I hw) fun u s1 ⟨x,H1,I1,r1,q1⟩=>?_
 obtain ⟨i,rfl,q⟩:=q1
 obtain ⟨t,rfl⟩:=r1
 exact ⟨some i,H1,I1,.int i t,q⟩
def SlR (X:Cx) (r:V→Option Int→Option Int→Hp→VK→Prop):Prop :=
 ∀ (pins:List (Addr × Obj)) (s:Shared) (σ:St) (H:Hp) (x:V) (v vl vu:Value) (lo hi:Option Int) (sl:Addr) (Q:VK),Inv X pins σ H s→bM x v→s.heap.IsSliceOf sl vl vu .none→IsPart vl lo→IsPart vu hi→r x lo hi H Q →
  ∃ T id,typeLookup (.type T) "__getitem__"=pure (some (.builtin id))∧s.TypeIs v T∧wpAny (model X.prog X.w) X.A (getItem v (.ref sl)) (EP X pins σ Q) X.xe s
theorem SlR.or {r r':V→Option Int→Option Int→Hp→VK→Prop} (h:SlR X r) (h':SlR X r'):SlR X (fun x lo hi H Q=>r x lo hi H Q∨r' x lo hi H Q):=by
 intro pins s σ H x v vl vu lo hi sl Q I rx hs pl pu q
 rcases q with q | q
 ·exact h pins s σ H x v vl vu lo hi sl Q I rx hs pl pu q
 ·exact h' pins s σ H x v vl vu lo hi sl Q I rx hs pl pu q
def tSl (r:V→Option Int→Option Int→Hp→VK→Prop) (te:TE) (tl th:TO):TE:=fun σ H Q=>te σ H fun x H1=>tl σ H1 fun l H2=>th σ H2 fun u H3=>r x l u H3 Q
theorem ac0 {r:V→Option Int→Option Int→Hp→VK→Prop} (hr:SlR X r) (he:PE X e te) (hl:PO X lo tl) (hu:PO X hi th):PE X (.Subscript e (.Slice lo hi none p2) pos) (tSl r te tl th):=by
 intro pins s σ H Q I h
 refine Subscript_ (thn (he pins s σ H _ I h) fun v s1 ⟨x,H1,I1,r1,q1⟩=>?_)
 refine wpAny_Slice (thn (hl pins s1 σ H1 _ I1 q1) fun vl s2 ⟨l,H2,I2,pl,q2⟩=>thn (hu pins s2 σ H2 _ I2 q2) fun vu s3 ⟨u,H3,I3,pu,q3⟩=>?_)
 rw [evalPart_none]
 refine wpAny_pure ?_
 have I4:Inv X pins σ H3 { s3 with heap:=s3.heap.push { cls:=.type "slice",data:=.fields #[vl,vu,.none] } }:=I3.kept (t':=s3.toks) fun b ob q=>Heap.get?_push_of_some _ q
 obtain ⟨T,id,hT,ht,hg⟩:=hr pins { s3 with heap:=s3.heap.push { cls:=.type "slice",data:=.fields #[vl,vu,.none] } } σ H3 x v vl vu l u s3.heap.objs.size Q I4 r1 (Heap.IsSliceOf.new ..) pl pu q3
 show wpAny (model X.prog X.w) X.A (subscriptTail e (.Slice lo hi none p2) v (.ref s3.heap.objs.size)) (EP X pins σ Q) X.xe { s3 with heap:=s3.heap.push { cls:=.type "slice",data:=.fields #[vl,vu,.none] } }
 exact tail_any (ops:=[.ref s3.heap.objs.size,v]) ht hT hg (by with_unfolding_all rfl)
def lE (xs:List V) (lo hi:Option Int):List V:=(xs.drop (HT.sIx xs.length 0 lo)).take (HT.sIx xs.length xs.length hi - HT.sIx xs.length 0 lo)
theorem sG (xs:List V) (lo hi:Option Int):(lE xs lo hi).length≤xs.length:=by
 unfold lE
 rw [List.length_take,List.length_drop]
 omega
def alc (K:PySem.W.Frag):V→Option Int→Option Int→Hp→VK→Prop:=fun x lo hi H Q=>∃ a xs,x=.ref a∧SqT K H a xs ∧
 ¬ (HT.sIx xs.length 0 lo=0∧HT.sIx xs.length xs.length hi=xs.length)∧∀ p,H p=none→Q (.ref p) (upd H p (.tup (lE xs lo hi)))
theorem ajV:SlR X (alc X.K):=by
 intro pins s σ H x v vl vu lo hi sl Q I rx hs pl pu h
 obtain ⟨a,xs,rfl,hx,hw,q⟩:=h
 cases rx
 obtain ⟨its,r,ht,hz⟩:=I.tuple hx
 have hlen:its.toArray.size=xs.length:=by rw [List.size_toArray]; exact r.length.symm
 refine ⟨"tuple",_,PyProof.Rows.slot_tuple_getitem.lookup,ht.typeIs,?_⟩
 refine HT.getItem_tuple_cut ht hs pl pu (by rw [hlen]; exact hw) ?_ (by rw [hlen]; exact hz)
 rw [hlen]
 refine ⟨.ref s.heap.objs.size,_,I.laid (t':=s.toks) (o:=.tup (lE xs lo hi)) (fun b ob q=>Heap.get?_push_of_some _ q) (Nat.le_refl _) ?_,rfl,q _ (I.hok.fresh (Nat.le_refl _))⟩
 exact ⟨Nat.le_trans (sG xs lo hi) hz,_,(r.drop (HT.sIx xs.length 0 lo)).take (HT.sIx xs.length xs.length hi - HT.sIx xs.length 0 lo),IsTup.new _ _⟩
def ajA (K:PySem.W.Frag):R2:=fun x y H Q=>∃ a b xs ys,x=.ref a∧y=.ref b∧SqT K H a xs∧SqT K H b ys∧xs≠[]∧xs.length+ys.length≤sizeLine ∧
 (ys=[]→Q (.ref a) H)∧(ys≠[]→∀ p,H p=none→Q (.ref p) (upd H p (.tup (xs++ys))))
theorem bC.nil_iff {xs:List V} {us:List Value} (r:bC xs us):us=[]↔xs=[]:=by
 cases r with
 | nil=>simp
 | cons _ _=>simp
theorem ahy:OpR X (binaryOp .Add) (ajA X.K):=by
 intro pins s σ H x y v u Q I rx ry h
 obtain ⟨a,b,xs,ys,rfl,rfl,ha,hb,hx,hz,q1,q2⟩:=h
 cases rx
 cases ry
 obtain ⟨its,r1,p1,_⟩:=I.tuple ha
 obtain ⟨its2,r2,p2,_⟩:=I.tuple hb
 refine HT.cat_tup p1 p2 (fun z=>hx (r1.nil_iff.mp z)) (fun z=>⟨.ref a,H,I,rfl,q1 (r2.nil_iff.mp z)⟩) (fun z=>?_) (by rw [← r1.length,← r2.length]; exact hz)
 refine ⟨.ref s.heap.objs.size,_,I.laid (t':=s.toks) (o:=.tup (xs++ys)) (fun b ob q=>Heap.get?_push_of_some _ q) (Nat.le_refl _) ?_,rfl,q2 (fun w=>z (r2.nil_iff.mpr w)) _ (I.hok.fresh (Nat.le_refl _))⟩
 exact ⟨by rw [List.length_append]; exact hz,_,r1.append r2,IsTup.new _ _⟩
end
end L2
namespace L2
open PySem PySem.Spec PyProof.Rows
def ixN (n:Nat) (i:Int):Option Nat:=if 0≤i then (if i < n then some i.toNat else none) else if -(n:Int)≤i then some (i+n).toNat else none
def atI {α:Type} (xs:List α) (i:Int):Option α:=(ixN xs.length i).bind fun j=>xs[j]?
theorem adZ {n:Nat} {i:Int} {j:Nat} (h:ixN n i=some j):seqIndex? i n=some j∧j < n∧-(n:Int)≤i∧i < n:=by
 unfold ixN at h
 by_cases h0:0≤i
 ·rw [if_pos h0] at h
  by_cases h1:i < n
  ·rw [if_pos h1] at h
   have e:i.toNat=j:=Option.some.inj h
   exact ⟨by rw [seqIndex_of h0 h1,e],by omega,by omega,h1⟩
  ·rw [if_neg h1] at h; cases h
 ·rw [if_neg h0] at h
  by_cases h1:-(n:Int)≤i
  ·rw [if_pos h1] at h
   have e:(i+n).toNat=j:=Option.some.inj h
   exact ⟨by rw [seqIndex_neg (by omega) h1,e],by omega,h1,by omega⟩
  ·rw [if_neg h1] at h; cases h
theorem yU {α:Type} {xs:List α} {i:Int} {v:α} (h:atI xs i=some v):∃ j,seqIndex? i xs.length=some j∧xs[j]?=some v∧j < xs.length∧-(xs.length:Int)≤i∧i < xs.length:=by
 unfold atI at h
 cases e:ixN xs.length i with
 | none=>rw [e] at h; cases h
 | some j =>
  rw [e] at h
  obtain ⟨h1,h2,h3,h4⟩:=adZ e
  exact ⟨j,h1,h,h2,h3,h4⟩
theorem aec {α:Type} {xs:List α} {j:Nat} {v:α} (h:xs[j]?=some v):atI xs (j:Int)=some v:=by
 have hj:j < xs.length:=(List.getElem?_eq_some_iff.mp h).1
 have e:ixN xs.length (j:Int)=some j:=by
  unfold ixN
  rw [if_pos (by omega),if_pos (by omega)]; simp
 unfold atI; rw [e]; exact h
theorem afx {α:Type} (xs:List α) (v:α):atI (xs++[v]) (-1)=some v:=by
 have hl:(xs++[v]).length=xs.length+1:=by simp
 have e:ixN (xs++[v]).length (-1)=some xs.length:=by
  unfold ixN
  rw [hl,if_neg (by decide),if_pos (by omega)]
  congr 1
  omega
 unfold atI
 rw [e]
 show (xs++[v])[xs.length]?=some v
 simp
def aet (b:Expr):Prop:=∀ o i,subscripted b false o i=operate [o,i] (getItem o i)
def IxR (X:Cx) (r:R2):Prop :=
 ∀ (value slice:Expr) (pins:List (Addr × Obj)) (s:Shared) (σ:St) (H:Hp) (x y:V) (v u:Value) (Q:VK),Inv X pins σ H s→bM x v→bM y u→r x y H Q →
  subscripted slice false v u=operate [v,u] (getItem v u)→wpAny (model X.prog X.w) X.A (subscriptTail value slice v u) (EP X pins σ Q) X.xe s
def MtR (X:Cx) (id:String) (r:V→List V→Hp→VK→Prop):Prop :=
 ∀ (pins:List (Addr × Obj)) (s:Shared) (σ:St) (H:Hp) (x:V) (xs:List V) (v:Value) (us:List Value) (Q:VK),Inv X pins σ H s→bM x v→bC xs us→r x xs H Q →
  wpAny (model X.prog X.w) X.A (call (.builtin id) (v :: us)) (EP X pins σ Q) X.xe s
section
variable {X:Cx} {a b:Expr} {ta tb:TE} {pos:Pos}
theorem IxR.or {r r':R2} (h:IxR X r) (h':IxR X r'):IxR X (fun x y H Q=>r x y H Q∨r' x y H Q):=by
 intro value slice pins s σ H x y v u Q I rx ry q hs
 rcases q with q | q
 ·exact h value slice pins s σ H x y v u Q I rx ry q hs
 ·exact h' value slice pins s σ H x y v u Q I rx ry q hs
theorem akh {r:R2} (hr:IxR X r) (ha:PE X a ta) (hb:PE X b tb) (hs:aet b):PE X (.Subscript a b pos) (tOp r ta tb):=by
 intro pins s σ H Q I h
 exact Subscript_ (aku ha hb I h fun v u s2 x y H2 I2 rx ry q=>hr a b pins s2 σ H2 x y v u Q I2 rx ry q (hs _ _))
def akU (K:PySem.W.Frag):R2:=fun x y H Q=>∃ p xs i v,x=.ref p∧y=.int i∧SqL K H p xs∧atI xs i=some v∧Q v H
def akO (K:PySem.W.Frag):R2:=fun x y H Q=>∃ p xs i v,x=.ref p∧y=.int i∧SqT K H p xs∧atI xs i=some v∧Q v H
def akN:R2:=fun x y H Q=>∃ z i c,x=.str z∧y=.int i∧z.length≤sizeLine∧atI z.cps.toList i=some c∧Q (.str ⟨#[c]⟩) H
theorem ahZ:IxR X (akU X.K):=by
 intro value slice pins s σ H x y v u Q I rx ry h hs
 obtain ⟨p,xs,i,z,rfl,rfl,hq,he,q⟩:=h
 cases rx
 obtain ⟨t,rfl⟩:=ry
 obtain ⟨its,r,pl,hz⟩:=I.list hq
 obtain ⟨j,h1,h2,h3,h4,h5⟩:=yU he
 obtain ⟨w,ew,rw'⟩:=r.get h2
 have hl:=r.length
 have hn:=lZ
 have fin:EP X pins σ Q w s:=⟨z,H,I,rw',q⟩
 by_cases h0:0≤i
 ·have hj:i.toNat=j:=by
   rw [seqIndex_of h0 h5] at h1
   exact Option.some.inj h1
  exact item_listR pl.isList h0 (by omega) (by rw [hj]; simpa using ew) fin hs
 ·have hj:(i+(its.toArray.size:Int)).toNat=j:=by
   rw [seqIndex_neg (by omega) h4] at h1
   rw [List.size_toArray,← hl]
   exact Option.some.inj h1
  exact subscriptTail_builtinR (x:=w) pl.isList.typeIs slot_list_getitem.lookup
   (wpAny_getItem_list_neg (Q:=fun r s'=>r=w∧EP X pins σ Q r s') pl.isList (by omega) (by rw [List.size_toArray] <;> omega) (by omega) (by rw [hj]; simpa using ew) ⟨rfl,fin⟩) hs
theorem aiD:IxR X (akO X.K):=by
 intro value slice pins s σ H x y v u Q I rx ry h hs
 obtain ⟨p,xs,i,z,rfl,rfl,hq,he,q⟩:=h
 cases rx
 obtain ⟨t,rfl⟩:=ry
 obtain ⟨its,r,pl,hz⟩:=I.tuple hq
 obtain ⟨j,h1,h2,h3,h4,h5⟩:=yU he
 obtain ⟨w,ew,rw'⟩:=r.get h2
 have hl:=r.length
 have hn:=lZ
 have fin:EP X pins σ Q w s:=⟨z,H,I,rw',q⟩
 exact subscriptTail_builtinR (x:=w) pl.typeIs slot_tuple_getitem.lookup
  (getItem_tuple (j:=j) (Q:=fun r s'=>r=w∧EP X pins σ Q r s') pl (by omega) (by omega) (by rw [List.size_toArray,← hl]; exact h1) (by simpa using ew) ⟨rfl,fin⟩) hs
theorem ajc:IxR X akN:=by
 intro value slice pins s σ H x y v u Q I rx ry h hs
 obtain ⟨z,i,c,rfl,rfl,hz,he,q⟩:=h
 obtain ⟨t,rfl⟩:=rx
 obtain ⟨t',rfl⟩:=ry
 obtain ⟨j,h1,h2,h3,h4,h5⟩:=yU he
 have hl:z.cps.toList.length=z.length:=by simp [Str.length]
 rw [hl] at h1 h4 h5
 have hn:=lZ
 exact tail_any (typeIs_str s z t) slot_str_getitem.lookup (getItem_str (c:=c) (by
  have e1:decide (i < -(2 ^ 63:Int))=false:=decide_eq_false (by omega)
  have e2:decide (i ≥ 2 ^ 63)=false:=decide_eq_false (by omega)
  rw [e1,e2,Bool.or_false]) (by rw [h1]; simpa using h2) ⟨.str ⟨#[c]⟩,H,I.tok _,⟨_,rfl⟩,q⟩) hs
def rIx (K:PySem.W.Frag):R2:=fun x y H Q=>akU K x y H Q∨akO K x y H Q∨akN x y H Q
theorem aia:IxR X (rIx X.K):=ahZ.or (aiD.or ajc)
theorem adz (its:List Value) (n j:Nat) (u:Value):Obj.mapSeq (·.setIfInBounds j u) { cls:=.type "list",data:=.seq its.toArray n }={ cls:=.type "list",data:=.seq (its.set j u).toArray n }:=by
 simp [Obj.mapSeq]
theorem Inv.lst {pins:List (Addr × Obj)} {σ:St} {H:Hp} {s:Shared} {p:Addr} {xs:List V} (I:Inv X pins σ H s) (h:H p=some (.lst xs)) :
  ∃ (its:List Value) (n:Nat),bC xs its∧s.heap.get? p=some { cls:=.type "list",data:=.seq its.toArray n }∧xs.length≤sizeLine:=by
 obtain ⟨z,its,n,r,e⟩:=I.hok p _ h
 exact ⟨its,n,r,e,z⟩
theorem Inv.lstUpd {pins:List (Addr × Obj)} {σ:St} {H:Hp} {s:Shared} {p:Addr} {xs ys:List V} {its its':List Value} {n n':Nat} {f:Obj→Obj} (I:Inv X pins σ H s) (h:H p=some (.lst xs))
  (ho:s.heap.get? p=some { cls:=.type "list",data:=.seq its.toArray n }) (hf:f { cls:=.type "list",data:=.seq its.toArray n }={ cls:=.type "list",data:=.seq its'.toArray n' }) (r:bC ys its') (hz:ys.length≤sizeLine) (t:Nat) :
  Inv X pins σ (upd H p (.lst ys)) { s with heap:=s.heap.update p f,toks:=t }:=by
 have e:(s.heap.update p f).get? p=some { cls:=.type "list",data:=.seq its'.toArray n' }:=by
  rw [Heap.get?_update_self f ho (by rw [hf] <;> rfl),hf]
 refine I.write (x:=p) (e:=p) (by rw [h]; trivial) (.inl rfl) (fun b u hb q=>(Heap.get?_update_other _ _ (Ne.symm hb)).trans q) ⟨_,e⟩ ?_
 exact ⟨hz,its',n',r,e⟩
def akC:V→V→V→Hp→(Hp→Prop)→Prop:=fun o i v H Q=>∃ p xs k j,o=.ref p∧i=.int k∧H p=some (.lst xs)∧ixN xs.length k=some j∧Q (upd H p (.lst (xs.set j v)))
theorem afr:akM X akC:=by
 intro pins s σ H o i v ov iv u Q I ro ri rv h
 obtain ⟨p,xs,k,j,rfl,rfl,hp,hj,q⟩:=h
 cases ro
 obtain ⟨t,rfl⟩:=ri
 obtain ⟨its,n,r,ho,hz⟩:=I.lst hp
 obtain ⟨h1,h2,h3,h4⟩:=adZ hj
 have hl:=r.length
 have hn:=lZ
 have I':Inv X pins σ (upd H p (.lst (xs.set j v))) { s with heap:=s.heap.update p (Obj.mapSeq (·.setIfInBounds j u)) } :=
  I.lstUpd hp ho (adz its n j u) (r.set rv j) (by rw [List.length_set]; exact hz) s.toks
 by_cases h0:0≤k
 ·have hk:k.toNat=j:=by
   rw [seqIndex_of h0 h4] at h1
   exact Option.some.inj h1
  exact PySem.W.ki_setAt ho h0 (by omega) (by rw [List.size_toArray,← hl]; exact h4) (by rw [hk]; exact ⟨_,I',q⟩)
 ·have hk:(k+(its.toArray.size:Int)).toNat=j:=by
   rw [seqIndex_neg (by omega) h3] at h1
   rw [List.size_toArray,← hl]
   exact Option.some.inj h1
  exact PySem.W.ki_setBack ho (by omega) (by rw [List.size_toArray,← hl]; exact h3) (by omega) (by rw [hk]; exact ⟨_,I',q⟩)
theorem aci (lo hi:Option Int) (n:Nat):(sliceBounds lo hi none n).1=((HT.sIx n 0 lo:Nat):Int)∧(sliceBounds lo hi none n).2.1=((HT.sIx n n hi:Nat):Int)∧(sliceBounds lo hi none n).2.2=1:=by
 refine ⟨?_,?_,rfl⟩
 ·cases lo with
  | none=>simp [sliceBounds,HT.sIx]
  | some i =>
   simp only [sliceBounds,HT.sIx,Option.getD_none,show (1:Int) > 0 by decide,if_true]
   by_cases h:i < 0
   ·simp only [h,if_true] <;> omega
   ·simp only [h,if_false] <;> omega
 ·cases hi with
  | none=>simp [sliceBounds,HT.sIx]
  | some i =>
   simp only [sliceBounds,HT.sIx,Option.getD_none,show (1:Int) > 0 by decide,if_true]
   by_cases h:i < 0
   ·simp only [h,if_true] <;> omega
   ·simp only [h,if_false] <;> omega
theorem abu (its:List Value) (lo hi:Option Int):slicePick its.toArray lo hi none=((its.drop (HT.sIx its.length 0 lo)).take (HT.sIx its.length its.length hi - HT.sIx its.length 0 lo)).toArray:=by
 obtain ⟨h1,h2,h3⟩:=aci lo hi its.toArray.size
 unfold slicePick
 rw [h1,h2,h3]
 simp only [sliceRange_one,pick_run,List.size_toArray] <;> rfl
def ale (K:PySem.W.Frag):V→Option Int→Option Int→Hp→VK→Prop:=fun x lo hi H Q=>∃ a xs,x=.ref a∧SqL K H a xs∧∀ p,H p=none→Q (.ref p) (upd H p (.lst (lE xs lo hi)))
theorem ah2:SlR X (ale X.K):=by
 intro pins s σ H x v vl vu lo hi sl Q I rx hs pl pu h
 obtain ⟨a,xs,rfl,hx,q⟩:=h
 cases rx
 obtain ⟨its,r,ht,hz⟩:=I.list hx
 have hlen:=r.length
 refine ⟨"list",_,slot_list_getitem.lookup,ht.isList.typeIs,?_⟩
 refine wpAny_getItem_list_slice ht.isList hs pl pu .none (by simp) ?_ (by rw [List.size_toArray] <;> omega)
 rw [abu,← hlen]
 refine ⟨.ref s.heap.objs.size,_,I.laid (t':=s.toks) (o:=.lst (lE xs lo hi)) (fun b ob q=>Heap.get?_push_of_some _ q) (Nat.le_refl _) ?_,rfl,q _ (I.hok.fresh (Nat.le_refl _))⟩
 exact ⟨Nat.le_trans (sG xs lo hi) hz,_,0,(r.drop (HT.sIx xs.length 0 lo)).take (HT.sIx xs.length xs.length hi - HT.sIx xs.length 0 lo),Heap.get?_push_size _ rfl⟩
theorem fP:fS X (.builtin "len") (fun xs H Q=>∃ p ys,xs=[.ref p]∧(SqL X.K H p ys∨SqT X.K H p ys)∧Q (.int ys.length) H):=by
 intro pins s σ H xs us Q I r h
 obtain ⟨p,ys,rfl,hq,q⟩:=h
 obtain ⟨u,rfl,rx⟩:=gW r
 cases rx
 have hn:=lZ
 rcases hq with hq | hq
 ·obtain ⟨its,r',pl,hz⟩:=I.list hq
  have hlen:=r'.length
  exact Calls.call_len_list pl.isList (by simp only [List.size_toArray] <;> omega) ⟨.int ys.length,H,I.tok _,⟨s.toks+1,by rw [List.size_toArray,hlen]⟩,q⟩
 ·obtain ⟨its,r',pl,hz⟩:=I.tuple hq
  have hlen:=r'.length
  exact len_tuple pl (by simp only [List.size_toArray] <;> omega) ⟨.int ys.length,H,I.tok _,⟨s.toks+1,by rw [List.size_toArray,hlen]⟩,q⟩
theorem abH:fS X (.builtin "len") (fun xs H Q=>∃ z,xs=[.str z]∧z.length≤sizeLine∧Q (.int z.length) H):=by
 intro pins s σ H xs us Q I r h
 obtain ⟨z,rfl,hz,q⟩:=h
 obtain ⟨u,rfl,t,rfl⟩:=gW r
 have hn:=lZ
 exact len_str (by omega) ⟨.int z.length,H,I.tok _,⟨_,rfl⟩,q⟩
theorem sD:fS X (.type "list") (fun xs H Q=>∃ p ys,xs=[.ref p]∧(SqL X.K H p ys∨SqT X.K H p ys)∧∀ l,H l=none→Q (.ref l) (upd H l (.lst ys))):=by
 intro pins s σ H xs us Q I r h
 obtain ⟨p,ys,rfl,hq,q⟩:=h
 obtain ⟨u,rfl,rx⟩:=gW r
 cases rx
 have fin:∀ (its:List Value),bC ys its→ys.length≤sizeLine→∀ (h':Heap) (c':Nat),(∀ b o',s.heap.get? b=some o'→h'.get? b=some o') →
   h'.get? s.heap.objs.size=some { cls:=.type "list",dict:=none,data:=.seq its.toArray c',slots:=#[] }→EP X pins σ Q (.ref s.heap.objs.size) { s with heap:=h' }:=fun its r' hz h' c' kp e =>
  ⟨.ref s.heap.objs.size,_,I.laid (t':=s.toks) kp (Nat.le_refl _) (show eC X.prog X.w _ h' _ (.lst ys) from ⟨hz,its,c',r',e⟩),rfl,q _ (I.hok.fresh (Nat.le_refl _))⟩
 rcases hq with hq | hq
 ·obtain ⟨its,r',pl,hz⟩:=I.list hq
  have hlen:=r'.length
  obtain ⟨o,ho,hc,n,hd⟩:=pl.isList
  exact call_list_seq p (.inl rfl) ho hc hd (fun h' c' kp e=>fin its r' hz h' c' kp e) (by simp only [List.size_toArray] <;> omega)
 ·obtain ⟨its,r',pl,hz⟩:=I.tuple hq
  have hlen:=r'.length
  obtain ⟨o,ho,hc,n,hd⟩:=pl
  exact call_list_seq p (.inr rfl) ho hc hd (fun h' c' kp e=>fin its r' hz h' c' kp e) (by simp only [List.size_toArray] <;> omega)
theorem kH:fS X (.type "tuple") (fun xs H Q=>∃ p ys,xs=[.ref p]∧((SqL X.K H p ys∧∀ l,H l=none→Q (.ref l) (upd H l (.tup ys)))∨(SqT X.K H p ys∧Q (.ref p) H))):=by
 intro pins s σ H xs us Q I r h
 obtain ⟨p,ys,rfl,h⟩:=h
 obtain ⟨u,rfl,rx⟩:=gW r
 cases rx
 rcases h with ⟨hq,q⟩ | ⟨hq,q⟩
 ·obtain ⟨its,r',pl,hz⟩:=I.list hq
  have hlen:=r'.length
  refine call_tuple_list pl.isList (fun h' kp=>?_) (by simp only [List.size_toArray] <;> omega)
  have I1:Inv X pins σ H { s with heap:=h' }:=I.kept (t':=s.toks) kp
  have I2:Inv X pins σ (upd H h'.objs.size (.tup ys)) { s with heap:=h'.push { cls:=.type "tuple",data:=.seq its.toArray } } :=
   I1.laid (t':=s.toks) (fun b o e=>Heap.get?_push_of_some _ e) (Nat.le_refl _) (show eC X.prog X.w _ _ _ (.tup ys) from ⟨hz,its,r',IsTup.new _ _⟩)
  exact ⟨.ref h'.objs.size,_,I2,rfl,q _ (I1.hok.fresh (Nat.le_refl _))⟩
 ·obtain ⟨its,r',pl,hz⟩:=I.tuple hq
  exact call_tuple_same pl ⟨.ref p,H,I,rfl,q⟩
def tyV (K:PySem.W.Frag) (T:String) (x:V) (H:Hp):Prop:=match x with
 | .str _=>T="str"
 | .int _=>T="int"
 | .ref p=>(T="list"∧∃ xs,SqL K H p xs)∨(T="tuple"∧∃ o,K.lookup p=some o∧o.cls=.type "tuple"∧o.dict=none) ∨
   (T="dict"∧((∃ kvs,H p=some (.dK kvs))∨∃ kvs,H p=some (.dT kvs)))∨(T="set"∧∃ S n,H p=some (.set S n))
 | _=>False
theorem ajU {pins:List (Addr × Obj)} {σ:St} {H:Hp} {s:Shared} {T:String} {x:V} {v:Value} (I:Inv X pins σ H s) (r:bM x v) (ty:tyV X.K T x H) :
  s.TypeIs v T∧∀ a,v=.ref a→∃ ob,s.heap.get? a=some ob∧ob.dict=none:=by
 cases x with
 | str z =>
  obtain ⟨t,rfl⟩:=r
  cases (show T="str" from ty)
  exact ⟨typeIs_str s z t,fun _ e=>nomatch e⟩
 | int i =>
  obtain ⟨t,rfl⟩:=r
  cases (show T="int" from ty)
  exact ⟨typeIs_int s i t,fun _ e=>nomatch e⟩
 | ref p =>
  cases r
  rcases ty with ⟨rfl,xs,hq⟩ | ⟨rfl,o,hk,hc,hd⟩ | ⟨rfl,hk⟩ | ⟨rfl,S,n,hk⟩
  ·obtain ⟨its,_,pl,_⟩:=I.list hq
   refine ⟨pl.isList.typeIs,fun a e=>?_⟩
   cases e
   obtain ⟨o,n,e,c,hd,_⟩:=pl
   exact ⟨o,e,hd⟩
  ·refine ⟨⟨o,I.kIn p o hk,hc⟩,fun a e=>?_⟩
   cases e
   exact ⟨o,I.kIn _ o hk,hd⟩
  ·have z:∃ o,s.heap.get? p=some o∧o.ExactDict:=by
    rcases hk with ⟨kvs,hk⟩ | ⟨kvs,hk⟩
    ·obtain ⟨_,_,_,_,o,_,_,e,ex,_⟩:=I.hok p _ hk
     exact ⟨o,e,ex⟩
    ·obtain ⟨_,_,_,_,o,_,_,e,ex,_⟩:=I.hok p _ hk
     exact ⟨o,e,ex⟩
   obtain ⟨o,e,ex⟩:=z
   refine ⟨⟨o,e,ex.1⟩,fun a e2=>?_⟩
   cases e2
   exact ⟨o,e,ex.2.1⟩
  ·obtain ⟨o,_,_,_,e,ex,_⟩:=I.hok p _ hk
   refine ⟨⟨o,e,ex.1⟩,fun a e2=>?_⟩
   cases e2
   exact ⟨o,e,ex.2.1⟩
 | _=>exact False.elim ty
def tBM (K:PySem.W.Frag) (T:String) (r:V→List V→Hp→VK→Prop) (to:TE) (t:TA):TE:=fun σ H Q=>to σ H fun x H1=>tyV K T x H1∧t σ H1 fun xs H2=>r x xs H2 Q
variable {o e:Expr} {es:List Expr} {to:TE} {t:TA} {name:Str} {apos cpos:Pos} {T id:String} {r:V→List V→Hp→VK→Prop}
theorem uN (pa:PlainAttrs T) (slot:Slot T name id) (hty:typeOf (.builtin id)=pure (.type "method_descriptor")) (hm:MtR X id r) (ho:PE X o to) (ha:PA X (e :: es) t)
  (hbase:attributeBase o name X.env (eval o X.env)=eval o X.env:=by rfl)
  (hfew:((backTo cpos (starEach (e :: es) X.env)).all (fun x=>!x.1) && (backToKw cpos (keywordEach [] X.env)).all (fun x=>x.1.isSome)
   && decide ((e :: es).length+([]:List Keyword).length+(if ([]:List Keyword).isEmpty then 0 else 1) < 30))=true:=by rfl)
  (hline:(apos.endLine == cpos.line)=true:=by rfl) (hs:starEach (e :: es) X.env=(false,eval e X.env) :: starEach es X.env:=by rfl) (hplain:(backTo cpos (starEach es X.env)).any (·.1)=false:=by rfl) :
  PE X (.Call (.Attribute o name apos) (e :: es) [] cpos) (tBM X.K T r to t):=by
 intro pins s σ H Q I h
 refine wpAny_Call_method_late hbase hfew hline rfl (thn (ho pins s σ H _ I h) fun v s1 ⟨x,H1,I1,r1,ty,q1⟩=>?_)
 obtain ⟨h1,h2⟩:=ajU I1 r1 ty
 refine ⟨T,id,pa,slot,hty,h1,h2,?_⟩
 have hA:=ha cpos pins s1 σ H1 _ I1 q1
 rw [hs] at hA ⊢
 refine Calls.callWith_builtin (by show (false || (backTo cpos (starEach es X.env)).any (·.1))=false; rw [hplain] <;> rfl) (Calls.evalArgs_plain ?_)
 exact thn hA fun us s2 ⟨vs,H2,I2,r2,q2⟩=>hm pins s2 σ H2 x vs v us Q I2 r1 r2 q2
end
end L2
namespace L2
open PySem PySem.Spec PyProof.Rows
def MtM (X:Cx) (id:String) (r:V→List V→Hp→VK→Prop):Prop :=
 ∀ (pins:List (Addr × Obj)) (s:Shared) (σ:St) (H:Hp) (x:V) (xs:List V) (v:Value) (us:List Value) (Q:VK),Inv X pins σ H s→bM x v→bC xs us→r x xs H Q →
  wpAny (model X.prog X.w) X.A (call (.builtin id) (v :: us)) (EP X pins σ Q) X.xe s
theorem bC.one:∀ {x:V} {us:List Value},bC [x] us→∃ u,us=[u]∧bM x u
 | _,_,.cons r .nil=>⟨_,rfl,r⟩
theorem bC.eraseIdx:∀ {xs:List V} {us:List Value} (i:Nat),bC xs us→bC (xs.eraseIdx i) (us.eraseIdx i)
 | _,_,_,.nil=>.nil
 | _,_,0,.cons _ t=>t
 | _,_,i+1,.cons r t=>.cons r (bC.eraseIdx i t)
theorem bC.rep {xs:List V} {us:List Value} (h:bC xs us):∀ k:Nat,bC (List.replicate k xs).flatten (List.replicate k us).flatten
 | 0=>.nil
 | k+1=>by
  rw [List.replicate_succ,List.replicate_succ,List.flatten_cons,List.flatten_cons]
  exact bC.append h (bC.rep h k)
theorem xE {α:Type}:∀ (l:List α) (i:Nat),(l.eraseIdx i).length≤l.length
 | [],_=>Nat.le_refl _
 | _ :: _,0=>Nat.le_succ _
 | _ :: r,i+1=>Nat.succ_le_succ (xE r i)
theorem abG (its:List Value):∀ (k:Nat) (acc:List Value),
  List.foldl (fun x1 x2=>x1++x2) acc.toArray (List.replicate k its.toArray)=(acc++(List.replicate k its).flatten).toArray
 | 0,acc=>by simp
 | k+1,acc=>by
  have e:acc.toArray++its.toArray=(acc++its).toArray:=by simp
  have e2:(acc++its)++(List.replicate k its).flatten=acc++(List.replicate (k+1) its).flatten:=by
   rw [List.replicate_succ,List.flatten_cons,List.append_assoc]
  rw [← e2,← abG its k (acc++its),← e,List.replicate_succ,List.foldl_cons]
section
variable {X:Cx} {pins:List (Addr × Obj)} {σ:St} {H:Hp} {s:Shared} {l b:Addr} {xs ys zs:List V}
theorem Inv.lset {its its':List Value} {n:Nat} {f:Array Value→Array Value} {t':Nat} (I:Inv X pins σ H s) (hH:H l=some (.lst xs))
  (e:s.heap.get? l=some { cls:=.type "list",data:=.seq its.toArray n }) (hf:f its.toArray=its'.toArray) (hv:bC ys its') (hz:ys.length≤sizeLine) :
  Inv X pins σ (upd H l (.lst ys)) { s with heap:=s.heap.update l (Obj.mapSeq f),toks:=t' }:=by
 have q:=PySem.IsL.update e f
 rw [hf] at q
 refine I.write (x:=l) (e:=l) (by rw [hH]; exact trivial) (.inl rfl) (fun b' u hb hu=>(Heap.get?_update_other s.heap (Obj.mapSeq f) (Ne.symm hb)).trans hu) ⟨_,q⟩ ?_
 exact ⟨hz,its',_,hv,q⟩
theorem Inv.lnew {its:List Value} {t':Nat} (I:Inv X pins σ H s) (hv:bC ys its) (hz:ys.length≤sizeLine) :
  Inv X pins σ (upd H s.heap.objs.size (.lst ys)) { s with heap:=s.heap.push { cls:=.type "list",data:=.seq its.toArray },toks:=t' } :=
 I.laid (fun _ _ q=>Heap.get?_push_of_some _ q) (Nat.le_refl _) ⟨hz,its,0,hv,Heap.get?_push_size _ rfl⟩
theorem Inv.fresh (I:Inv X pins σ H s):H s.heap.objs.size=none:=I.hok.fresh (Nat.le_refl _)
theorem Inv.lstM (I:Inv X pins σ H s) (hH:H l=some (.lst xs)):xs.length≤sizeLine∧∃ (its:List Value) (n:Nat),bC xs its∧xs.length=its.length∧s.heap.get? l=some { cls:=.type "list",data:=.seq its.toArray n }:=by
 obtain ⟨z,its,n,r,e⟩:=I.hok l _ hH
 exact ⟨z,its,n,r,r.length,e⟩
theorem af6 {n:Nat} (h:n≤sizeLine):Builtin.List.listTooLong n=false:=by
 unfold Builtin.List.listTooLong
 exact decide_eq_false (by omega)
end
section
variable {X:Cx}
def ahi:V→List V→Hp→VK→Prop:=fun x vs H Q=>∃ l xs y,x=.ref l∧vs=[y]∧H l=some (.lst xs)∧xs.length < sizeLine∧Q .non (upd H l (.lst (xs++[y])))
theorem sX:MtM X "list.append" ahi:=by
 intro pins s σ H x vs v us Q I rx rv h
 obtain ⟨l,xs,y,rfl,rfl,hH,hz,q⟩:=h
 cases rx
 obtain ⟨u,rfl,ru⟩:=rv.one
 obtain ⟨z,its,n,r,hl,e⟩:=I.lstM hH
 refine call_meets F.slot_list_append ⟨_,e,rfl⟩ F.entry_list_append (F.args_list_append_2 _ _) (PySem.list_append l its.toArray n u (by rw [List.size_toArray]; omega)) ⟨e,?_⟩
 refine ⟨.non,_,I.lset (its':=its++[u]) hH e (by simp) (r.append (.cons ru .nil)) ?_,rfl,q⟩
 rw [List.length_append,List.length_singleton]
 omega
def ai6:V→List V→Hp→VK→Prop:=fun x vs H Q=>∃ l xs i k y,x=.ref l∧vs=[.int i]∧H l=some (.lst xs)∧-(2 ^ 63)≤i∧i < 2 ^ 63∧seqIndex? i xs.length=some k∧xs[k]?=some y∧Q y (upd H l (.lst (xs.eraseIdx k)))
theorem afR:MtM X "list.pop" ai6:=by
 intro pins s σ H x vs v us Q I rx rv h
 obtain ⟨l,xs,i,k,y,rfl,rfl,hH,h1,h2,hk,hy,q⟩:=h
 cases rx
 obtain ⟨u,rfl,ru⟩:=rv.one
 obtain ⟨t,rfl⟩:=ru
 obtain ⟨z,its,n,r,hl,e⟩:=I.lstM hH
 obtain ⟨w,hw,rw'⟩:=r.get hy
 refine call_meets F.slot_list_pop ⟨_,e,rfl⟩ F.entry_list_pop (F.args_list_pop_2 _ _)
  (MeetsSeq.list_pop_at l its.toArray n i t k w (fitsIndex_both h1 h2) (by rw [List.size_toArray,← hl]; exact hk) (by rw [← Array.getElem?_toList]; exact hw) (by rw [List.size_toArray]; omega)) ⟨e,?_⟩
 refine ⟨y,_,I.lset (its':=its.eraseIdx k) hH e ?_ (r.eraseIdx k) ?_,rw',q⟩
 ·show its.toArray.eraseIdxIfInBounds k=(its.eraseIdx k).toArray
  rw [List.eraseIdxIfInBounds_toArray]
 ·have:=xE xs k
  omega
theorem aep {α:Type} (xs:List α) (k:Nat):(List.replicate k xs).flatten.length=k*xs.length:=by
 induction k with
 | zero=>simp
 | succ k ih=>rw [List.replicate_succ,List.flatten_cons,List.length_append,ih,Nat.succ_mul,Nat.add_comm]
end
section
variable {prog:Program} {w:World} {A:Around} {E:Value→Shared→Prop} {s:Shared}
end
section
variable {X:Cx}
end
end L2
namespace Att
open PySem PySem.W PySem.Calls PyProof.Rows
theorem aaH {P:Params} {h:Heap}:∀ (ns:List Int) (vs:List Value),WellAll P h vs (ns.map WData.int)→IntsAre vs ns:=by
 intro ns
 induction ns with
 | nil =>
  intro vs w
  rw [List.map_nil] at w
  cases w
  exact .nil
 | cons n ns ih =>
  intro vs w
  rw [List.map_cons] at w
  cases w with
  | cons a b =>
   cases a
   exact .cons _ _ (ih _ b)
theorem ad6 {l:OpenLaw} {n:Nat} (hn:l.most=some n) {P:Params} {h:Heap} {args:List WData} {vals:List Value}
  (hpre:l.row.toRowW.claim.pre args=true) (hwl:WellAll P h vals args) :
  ∃ a vs ns,vals=[Value.ref a]∧args=[WData.list (ns.map WData.int)]∧h.get? a=some { cls:=.type "list",data:=.seq vs.toArray }∧IntsAre vs ns∧ns.length≤n:=by
 have hsh:WShape.hasAll [] args [.list .int]=true:=(pre_splitW hpre).1
 have hc:l.pre.holds [] { args:=args }=true:=(pre_splitW hpre).2
 obtain ⟨d,r,rfl,h1,h2⟩:=hasAllW_cons hsh
 obtain rfl:=hasAllW_nil h2
 obtain ⟨xs,rfl,h3⟩:=hasW_list h1
 obtain ⟨ns,rfl⟩:=items_int h3
 have hlen:ns.length≤n:=by
  unfold OpenLaw.pre at hc
  have h4:(WTm.not (.lt (.lit (.int (n:Int))) (.len (.arg 0)))).holds [] { args:=[.list (ns.map .int)] }=true:=by
   have h4:=(holds_andW hc).1
   rw [hn] at h4
   exact h4
  have h5:=condW_of h4 (w_not (w_lt w_lit (w_len_list (w_arg rfl))))
  rw [List.length_map] at h5
  refine Nat.le_of_not_lt fun q=>?_
  have q':(n:Int) < ((ns.length:Nat):Int):=by omega
  first
   | (rw [decide_eq_true q'] at h5; exact absurd h5 (by decide))
   | (simp at h5; omega)
 cases hwl with
 | cons w1 w2 =>
  cases w2
  cases w1 with
  | list ho hall=>exact ⟨_,_,ns,rfl,rfl,ho,aaH ns _ hall,hlen⟩
theorem aeG (l:OpenLaw) (args:List WData):l.row.toRowW.claim.post args (.bool true) args=true :=
 postW_of (r:=l.row.toRowW) (X:=(true == true))
  (show WShape.has [] (.bool true) .bool=true by first | rfl | decide | simp [WShape.has,WShape.arms,WShape.armsAll])
  (show (WTm.eq .res (.lit (.bool true))).value [] { args:=args,res:=some (.bool true),after:=args }=some (.bool (true == true)) from w_eq_bool (w_res rfl) w_lit) rfl
theorem attach_call {l:OpenLaw} {n:Nat} {q:Program} {loose:List Str} {XP:(Str→Option Value)→Heap→Prop} {YP:World→Heap→Prop} {d:DefRec}
  (hn:l.most=some n) (hdf:d.params.defaults=[])
  (call:∀ (w:World) (s₀ s₁:Shared) (mg mb:Str→Option Value) (fa:Addr) (o:Obj) (pm cd doc:Value) (a:Addr) (vs:List Value) (ns:List Int),
   Ground q loose [] XP w s₀ mg mb s₁.heap→YP w s₁.heap →
   s₁.heap.get? fa=some o→o.data=.func (docDef d.name d.params d.body d.scope pm cd doc)→s₁.heap.CodeRec cd d.name→mg d.name=some (.ref fa) →
   s₁.heap.get? a=some { cls:=.type "list",data:=.seq vs.toArray }→IntsAre vs ns→ns.length≤n→s₁.gens=#[] →
   codeAny (model l.prog w) callerA (.call (.ref fa) ⟨[.ref a],[]⟩) (fun r s'=>r=.ok (.ret (.bool true))∧OldK s₁.heap s'.heap∧s'.os=s₁.os∧AllBare s'.gens) s₁) :
  WalkO q loose XP YP l.row.toRowW d [] (fun f vs=>PySem.call f vs):=by
 intro w s₀ s₁ mg mb G Y fa o pm cd doc dV kV ho hd hcd hD hmg hg args vals as hpre hlay hrd hwl hlo
 obtain rfl:dV=.none:=Dflts.none hD hdf
 obtain rfl:kV=.none:=Dflts.noKw hD
 obtain ⟨a,vs,ns,rfl,rfl,hobj,hints,hlen⟩:=ad6 hn hpre hwl
 refine enter_call (codeAny_mono (call w s₀ s₁ mg mb fa o pm cd doc a vs ns G Y ho (fd_plain hd) hcd hmg hobj hints hlen hg) fun r s' hq=>?_)
 obtain ⟨rfl,h2,h3,h4⟩:=hq
 exact ⟨.inl ⟨.bool true,.bool true,[],rfl,fun _=>rfl,.bool true,aeG l _,fun _=>⟨List.Pairwise.nil,fun _ hm=>(nomatch hm)⟩⟩,h2,h3,h4⟩
section
variable {prog:Program} {w:World} {A:Around} {E:Value→Shared→Prop} {s:Shared} {K:Frag}
end
end Att
namespace L2
open PySem PySem.Spec PyProof.Rows
theorem abF:∀ {vs:List Value} {ns:List Int},IntsAre vs ns→bC (ns.map V.int) vs
 | _,_,.nil=>.nil
 | _,_,.cons n t h=>.cons ⟨t,rfl⟩ (abF h)
def akc (H:Hp):Prop:=∀ b,H b=none∨∃ o xs,H b=some (.frz o (.lst xs))
theorem afU {P:Program} {w:World} {K:PySem.W.Frag} {mg mb:Str→Option Value} {CX:CXT} {k:Nat} {fa a:Addr} {fd:FuncData} {x:Str} {sp:Sp} {s₁:Shared} {vs:List Value} {ns:List Int}
  (KX:K.In s₁.heap) (hns:s₁.heap.Ns mainGlobals mg) (hb:s₁.heap.Ns builtinsNs mb) (hbb:∀ x:Str,x≠"__name__"→mb x=bootBuiltins x) (hlim:s₁.heap.NoLimit) (hg:s₁.gens=#[])
  (ha:s₁.heap.get? a=some { cls:=.type "list",data:=.seq vs.toArray }) (hi:IntsAre vs ns) (hl:ns.length≤sizeLine) (hr:cY k callerA)
  (F:∀ base:Heap,K.In base→base.Ns mainGlobals mg→aW P w K mg base CX k fa fd [x] sp) (hbind:∀ (s:Shared) (u:Value),BindsTo s fd ⟨[u],[]⟩ [(x,u)])
  (hsp:∀ H:Hp,akc H→SqL K H a (ns.map V.int)→sp [.ref a] H (fun v _=>v=.bl true) fun _ _ _=>False)
  (hCX:∀ H e s',CX [] H s₁ (fun _ _ _=>False) e s'→False) :
  codeAny (model P w) callerA (.call (.ref fa) ⟨[.ref a],[]⟩) (fun r s'=>r=.ok (.ret (.bool true))∧OldK s₁.heap s'.heap∧s'.os=s₁.os∧AllBare s'.gens) s₁:=by
 have rv:=abF hi
 have lenV:=hi.length
 -- from an abstract heap in which nothing but the script may be tracked
 have core:∀ H:Hp,akc H→SqL K H a (ns.map V.int)→HOk P w H s₁.heap→(∀ b,H b≠none→b=a)→(H a≠none→K.lookup a=none) →
   codeAny (model P w) callerA (.call (.ref fa) ⟨[.ref a],[]⟩) (fun r s'=>r=.ok (.ret (.bool true))∧OldK s₁.heap s'.heap∧s'.os=s₁.os∧AllBare s'.gens) s₁:=by
  intro H hO hS hok hA hK
  have base_of:∀ {b:Addr} {o:Obj},s₁.heap.get? b=some o→H b=none→(kD s₁.heap H).get? b=some o:=fun e n=>afJ e n
  have noA:∀ {b:Addr} {o:Obj} {es:Array DictEntry} {ep:Nat},s₁.heap.get? b=some o→o.data=.dict es ep→H b=none:=fun {b o es ep} e d=>by
   cases q:H b with
   | none=>rfl
   | some u =>
    have e':b=a:=hA b (by rw [q]; simp)
    subst e'
    rw [ha] at e; cases e
    have d':Data.seq vs.toArray _=Data.dict es ep:=d
    cases d'
  have nsK:∀ {b:Addr} {m:Str→Option Value},s₁.heap.Ns b m→(kD s₁.heap H).Ns b m:=fun {b m} ⟨o,es,ep,e,d,r⟩=>⟨o,es,ep,base_of e (noA e d),d,r⟩
  have hKb:K.In (kD s₁.heap H):=fun b o e=>base_of (KX b o e) (by
   cases q:H b with
   | none=>rfl
   | some u =>
    have e':b=a:=hA b (by rw [q]; simp)
    subst e'
    rw [hK (by rw [q]; simp)] at e; cases e)
  have hM:Mod K mg (kD s₁.heap H):=⟨hKb,nsK hns,⟨mb,nsK hb,hbb⟩,let ⟨mc,h1,h2⟩:=hlim; ⟨mc,nsK h1,h2⟩⟩
  have e0:vO P w K mg (kD s₁.heap H) callerA [] s₁ H:=⟨rfl,hM,fun b o e=>ahU e,Nat.le_of_eq (aek _ _),trivial,fun b hb=>absurd (show b∈([]:List Addr) from hb) (by simp),hok,.of_eq hg⟩
  refine codeAny_mono ((F _ hKb (nsK hns)).run callerA [] s₁ H ⟨[.ref a],[]⟩ [.ref a] [.ref a] _ _ hr e0 (hbind s₁ (.ref a)) (.cons rfl .nil) (hsp H hO hS)) fun r s' h=>?_
  cases r with
  | error e=>exact (hCX H e s' h).elim
  | ok fl =>
   cases fl with
   | next=>exact False.elim h
   | brk=>exact False.elim h
   | cont=>exact False.elim h
   | ret u =>
    obtain ⟨v,H',os,bare,un,hok',r',q⟩:=h
    have q':v=.bl true:=q
    subst q'
    obtain rfl:u=Value.bool true:=r'
    refine ⟨rfl,OldK.of_keep fun b o e=>?_,os,bare⟩
    cases q:H b with
    | none=>exact un.keep b o e q (by intro z; exact absurd (show b∈([]:List Addr) from z) (by simp)) (by simp)
    | some u =>
     rcases hO b with z | ⟨ob,xs,z⟩
     ·rw [q] at z; cases z
     ·have z2:=un.frzs b ob _ z
      obtain ⟨e1,_⟩:=hok b _ z
      obtain ⟨e2,_⟩:=hok' b _ z2
      rw [e] at e1; cases e1
      exact e2
 cases hk:K.lookup a with
 | some o =>
  -- the script is one of the module's own objects
  have e:=KX a o hk
  rw [ha] at e
  cases e
  refine core (fun _=>none) (fun _=>.inl rfl) (.inr ⟨_,vs.toArray,_,hk,rfl,rfl,rfl,by rw [List.size_toArray,lenV]; exact hl,by simpa using rv⟩) (fun b u z=>by have z':(none:Option HO)=some u:=z; cases z') (fun b z=>absurd rfl z) fun z=>absurd rfl z
 | none =>
  refine core (fun b=>if b=a then some (.frz { cls:=.type "list",data:=.seq vs.toArray } (.lst (ns.map V.int))) else none) (fun b=>?_) (.inl (.inr ⟨{ cls:=.type "list",data:=.seq vs.toArray },if_pos rfl⟩)) (fun b u z=>?_) (fun b z=>?_) fun _=>hk
  ·by_cases hb:b=a
   ·exact .inr ⟨_,_,if_pos hb⟩
   ·exact .inl (if_neg hb)
  ·by_cases hb:b=a
   ·have z':=(if_pos hb).symm.trans z
    cases z'
    subst hb
    exact ⟨ha,by rw [List.length_map]; exact hl,vs,_,rv,ha⟩
   ·have z':=(if_neg hb).symm.trans z
    cases z'
  ·by_cases hb:b=a
   ·exact hb
   ·exact absurd (if_neg hb) z
end L2
namespace L2
open PySem PySem.Spec PyProof.Rows
theorem walk_of {l:PySem.W.OpenLaw} {n k:Nat} {q:Program} {loose:List Str} {XP:(Str→Option Value)→Heap→Prop} {YP:World→Heap→Prop} {d:DefRec} {K:Params→PySem.W.Frag} {CX:World→CXT} {sp:World→Sp} {x:Str}
  (hn:l.most=some n) (hn2:n≤sizeLine) (hdf:d.params.defaults=[]) (hr:cY k callerA)
  (hY:∀ (w:World) (h:Heap),YP w h→(K w.params).In h)
  (F:∀ (w:World) (mg:Str→Option Value) (fa:Addr) (h:Heap),(K w.params).In h→h.Ns mainGlobals mg→mg d.name=some (.ref fa) →
   ∃ fd:FuncData,(∀ (s:Shared) (u:Value),BindsTo s fd ⟨[u],[]⟩ [(x,u)]) ∧
    ∀ base:Heap,(K w.params).In base→base.Ns mainGlobals mg→aW l.prog w (K w.params) mg base (CX w) k fa fd [x] (sp w))
  (hsp:∀ (w:World) (H:Hp) (a:Addr) (ns:List Int),ns.length≤n→akc H→SqL (K w.params) H a (ns.map V.int)→sp w [.ref a] H (fun v _=>v=.bl true) fun _ _ _=>False)
  (hCX:∀ (w:World) (H:Hp) (s:Shared) (e:Value) (s':Shared),CX w [] H s (fun _ _ _=>False) e s'→False) :
  PySem.W.WalkO q loose XP YP l.row.toRowW d [] (fun f vs=>PySem.call f vs):=by
 refine Att.attach_call hn hdf fun w s₀ s₁ mg mb fa o pm cd doc a vs ns G Y ho hd hcd hmg hobj hints hlen hg=>?_
 have KX:=hY w _ Y
 obtain ⟨fd,hb,hF⟩:=F w mg fa _ KX G.T.g hmg
 exact afU KX G.T.g G.T.b G.T.builtins G.T.nolimit hg hobj hints (Nat.le_trans hlen hn2) hr hF hb (fun H hO hS=>hsp w H a ns hlen hO hS) fun H e s'=>hCX w H s₁ e s'
end L2
namespace L2
open PySem PySem.Spec PyProof.Rows
abbrev CX0:CXT:=fun _ _ _ _ _ _=>False
abbrev E0:XK:=fun _ _ _=>False
theorem ahd {X:Cx}:hU CX0 X E0:=fun _ _ _ _ _ _ _ h=>h.elim
structure Fun (K:PySem.W.Frag) (x qual:Str) (st:Stmt) (f:Addr) (fd:FuncData):Prop where
 ex:∃ (oc:Value) (od:Option Addr) (kV doc pm:Value) (an:Option Addr) (cdv ct:Value) (osl:Array (Option Value)),
  fd=PySem.W.fnOf x qual (gK st) (eT st) (aX st) .none kV doc pm an cdv ct∧K.lookup f=some ⟨oc,od,.func fd,osl⟩∧PySem.W.codeIn K cdv qual=true
 kp:PySem.W.keepIn K (.ref f)=true
section
variable {P:Program} {w:World} {K:PySem.W.Frag} {mg:Str→Option Value} {base:Heap}
theorem Fun.ok {x qual:Str} {st:Stmt} {f:Addr} {fd:FuncData} {N ps:List Str} {k:Nat} {sp:Sp} (F:Fun K x qual st f fd) (S:bQ N ps (aX st)) (len:∀ vs H Q E,sp vs H Q E→vs.length=ps.length)
  (hbody:∀ (cdv:Value) (A:Around) (outer:List Env) (s:Shared) (H:Hp) (vs:List V) (Q:VK) (E:XK),cY k (A.deeper (envOfC qual (aX st) s.heap.objs.size f cdv))→sp vs H Q E →
   ∃ t,PSs (aM CX0 P w K mg base N qual (aX st) f cdv A outer s H E).nox (eT st) t∧t { nx:=fun _ H'=>Q .non H',rt:=Q } (start N vs) H):aW P w K mg base CX0 (k+1) f fd ps sp:=by
 obtain ⟨oc,od,kV,doc,pm,an,cdv,ct,osl,rfl,lk,hcd⟩:=F.ex
 refine agR lk hcd S len fun A outer s H vs Q E hr hsp=>?_
 obtain ⟨t,h,q⟩:=hbody cdv A outer s H vs Q E hr hsp
 exact ⟨t,h.nox,q⟩
theorem Fun.binds {x qual:Str} {st:Stmt} {f:Addr} {fd:FuncData} {ps:List Str} (F:Fun K x qual st f fd)
  (h:∀ (kV doc pm:Value) (an:Option Addr) (cdv ct:Value) (us:List Value),us.length=ps.length→bindArgs (PySem.W.fnOf x qual (gK st) (eT st) (aX st) .none kV doc pm an cdv ct) ⟨us,[]⟩=pure (ps.zip us)):cU K fd ps []:=by
 obtain ⟨oc,od,kV,doc,pm,an,cdv,ct,osl,rfl,lk,hcd⟩:=F.ex
 exact .all (h kV doc pm an cdv ct)
theorem af8 {x qual:Str} {st:Stmt} {f:Addr} {oc:Value} {od an:Option Addr} {osl:Array (Option Value)} {kV doc pm cdv ct:Value} (l:K.lookup f=some ⟨oc,od,.func (PySem.W.fnOf x qual (gK st) (eT st) (aX st) .none kV doc pm an cdv ct),osl⟩)
  (c:PySem.W.codeIn K cdv qual=true) (k:PySem.W.keepIn K (.ref f)=true):Fun K x qual st f (PySem.W.fnOf x qual (gK st) (eT st) (aX st) .none kV doc pm an cdv ct):=⟨⟨oc,od,kV,doc,pm,an,cdv,ct,osl,rfl,l,c⟩,k⟩
end
section
variable {X:Cx}
theorem pv (i:Nat) {x:Str} {pos:Pos} (hN:X.N[i]?=some x:=by rfl) (hv:Vis X.env.scope x:=by first | exact Or.inl rfl | exact Or.inr (Or.inl rfl) | exact Or.inr (Or.inr rfl)) (hd:(x == ("__debug__":Str))=false:=by decide)
  (hcd:(x == ("__classdict__":Str))=false:=by decide):PE X (.Name x pos) (akP i):=ags hN hv hd hcd
end
def bZ (H H':Hp):Prop:=∀ b o,H b=some o→H' b=some o
theorem bZ.refl (H:Hp):bZ H H:=fun _ _ h=>h
end L2
namespace Bn
def Bd (k:Nat) (i:Int):Prop:=i.natAbs < 2 ^ k
theorem Bd.mono {j k:Nat} {i:Int} (h:Bd j i) (l:j≤k):Bd k i:=Nat.lt_of_lt_of_le h (Nat.pow_le_pow_right (by decide) l)
theorem Bd.mul {j k:Nat} {a b:Int} (h:Bd j a) (g:Bd k b):Bd (j+k) (a*b):=by
 unfold Bd at *
 rw [Int.natAbs_mul,Nat.pow_add]
 exact Nat.mul_lt_mul'' h g
theorem Bd.add {k:Nat} {a b:Int} (h:Bd k a) (g:Bd k b):Bd (k+1) (a+b):=by
 unfold Bd at *
 rw [Nat.pow_succ]
 have:=Int.natAbs_add_le a b
 omega
theorem Bd.neg {k:Nat} {a:Int} (h:Bd k a):Bd k (-a):=by
 unfold Bd at *
 rw [Int.natAbs_neg]
 exact h
theorem Bd.sub {k:Nat} {a b:Int} (h:Bd k a) (g:Bd k b):Bd (k+1) (a - b):=by
 rw [Int.sub_eq_add_neg]
 exact h.add g.neg
theorem Bd.le {k:Nat} {a b:Int} (h:Bd k b) (l:a.natAbs≤b.natAbs):Bd k a:=Nat.lt_of_le_of_lt l h
theorem Bd.of {k n:Nat} {a:Int} (l:a.natAbs≤n) (h:n < 2 ^ k):Bd k a:=Nat.lt_of_le_of_lt l h
theorem Bd.log {k:Nat} {a:Int} (h:Bd k a) (hk:0 < k):a.natAbs.log2 < k:=by
 rcases Nat.eq_zero_or_pos a.natAbs with z | z
 ·rw [z]
  exact Nat.lt_of_le_of_lt (Nat.le_of_eq (by decide)) hk
 ·exact (Nat.log2_lt (Nat.ne_of_gt z)).mpr h
theorem abV (a:Int) {b:Int} (h:b≠0):(a.fmod b).natAbs < b.natAbs:=by
 rw [Int.fmod_eq_emod]
 have h1:=Int.emod_nonneg a h
 have h2:a % b < (b.natAbs:Int):=Int.emod_lt a h
 by_cases c:0≤b∨b ∣ a
 ·rw [if_pos c]
  omega
 ·rw [if_neg c]
  have hb:b < 0:=by omega
  have h3:a % b≠0:=fun z=>c (.inr (Int.dvd_of_emod_eq_zero z))
  have h4:b.natAbs=(-b).toNat:=by omega
  omega
theorem acW (a b:Int):Int.gcd b (a.fmod b)=Int.gcd a b:=by
 rw [Int.fmod_def,Int.mul_comm,Int.gcd_sub_mul_right_right,Int.gcd_comm]
theorem zG (x:Int):(if x < 0 then -x else x)=(x.natAbs:Int):=by
 split <;> omega
end Bn
namespace Bn
def gl:List Int→Int→Int
 | [],g=>g
 | n :: r,g=>gl r (Int.gcd g n:Nat)
def low (ns:List Int):List Int:=if gl ns 0=0 then ns else ns.map (· / gl ns 0)
theorem aiL:∀ (ns:List Int) (g:Int),0≤g→0≤gl ns g
 | [],_,h=>h
 | _ :: r,_,_=>aiL r _ (Int.natCast_nonneg _)
theorem agD (k:Int):∀ (ns:List Int) (g:Int),0≤g→gl (ns.map (k*·)) ((k.natAbs:Int)*g)=(k.natAbs:Int)*gl ns g
 | [],_,_=>rfl
 | n :: r,g,h=>by
  show gl (r.map (k*·)) ((Int.gcd ((k.natAbs:Int)*g) (k*n):Nat):Int)=(k.natAbs:Int)*gl r _
  have e:((Int.gcd ((k.natAbs:Int)*g) (k*n):Nat):Int)=(k.natAbs:Int)*((Int.gcd g n:Nat):Int):=by
   rcases Int.natAbs_eq k with q | q
   ·rw [← q,Int.gcd_mul_left]
    have:(k.natAbs:Int)=k:=q.symm
    push_cast
    rw [this]
   ·have e2:k*n=(k.natAbs:Int)*(-n):=by rw [Int.mul_neg,← Int.neg_mul,← q]
    rw [e2,Int.gcd_mul_left,Int.gcd_neg]
    push_cast
    simp
  rw [e]
  exact agD k r _ (Int.natCast_nonneg _)
theorem yI (k:Int) (ns:List Int):gl (ns.map (k*·)) 0=(k.natAbs:Int)*gl ns 0:=by
 have:=agD k ns 0 (Int.le_refl 0)
 rwa [Int.mul_zero] at this
theorem abU {k:Int} (h:0 < k) (ns:List Int):gl ns 0≠0→low (ns.map (k*·))=low ns:=fun z=>by
 have hk:(k.natAbs:Int)=k:=by omega
 have e:=yI k ns
 rw [hk] at e
 have nz:k*gl ns 0≠0:=Int.mul_ne_zero (by omega) z
 unfold low
 rw [e,if_neg nz,if_neg z,List.map_map]
 refine List.map_congr_left fun n _=>?_
 show k*n / (k*gl ns 0)=n / gl ns 0
 exact Int.mul_ediv_mul_of_pos _ _ h
theorem jE:∀ (ns:List Int) (g:Int),gl ns g ∣ g∧∀ n∈ns,gl ns g ∣ n
 | [],g=>⟨Int.dvd_refl g,fun _ h=>nomatch h⟩
 | m :: r,g=>by
  obtain ⟨h1,h2⟩:=jE r ((Int.gcd g m:Nat):Int)
  refine ⟨Int.dvd_trans h1 (Int.gcd_dvd_left ..),fun n hn=>?_⟩
  rcases List.mem_cons.mp hn with q | q
  ·subst q
   exact Int.dvd_trans h1 (Int.gcd_dvd_right ..)
  ·exact h2 n q
theorem ahS {ns:List Int} (h:gl ns 0=0):∀ n∈ns,n=0:=fun n hn=>by
 have:=(jE ns 0).2 n hn
 rw [h] at this
 exact Int.zero_dvd.mp this
theorem qX {ns:List Int} {n:Int} (hn:n∈ns) (h:n≠0):gl ns 0≠0:=fun z=>h (ahS z n hn)
theorem tX {ns:List Int} {n:Int} (hn:n∈ns) (h:n≠0):0 < gl ns 0:=by
 have h1:=aiL ns 0 (Int.le_refl 0)
 have h2:=qX hn h
 omega
theorem tW {ns:List Int} {n:Int} (hn:n∈ns) (h:n≠0):low ns=ns.map (· / gl ns 0):=by
 unfold low
 rw [if_neg (qX hn h)]
theorem Bd.gcd {k:Nat} {a b:Int} (h:Bd k a) (g:Bd k b):Bd k (Int.gcd a b:Nat):=by
 unfold Bd at *
 rw [Int.natAbs_natCast]
 rcases Nat.eq_zero_or_pos a.natAbs with z | z
 ·have:a=0:=by omega
  subst this
  rw [Int.gcd_zero_left]
  exact g
 ·exact Nat.lt_of_le_of_lt (Nat.gcd_le_left _ z) h
theorem uL {k:Nat}:∀ {ns:List Int} {g:Int},Bd k g→(∀ n∈ns,Bd k n)→Bd k (gl ns g)
 | [],_,h,_=>h
 | n :: r,g,h,hn=>by
  show Bd k (gl r _)
  exact uL (ns:=r) (h.gcd (hn n List.mem_cons_self)) fun m hm=>hn m (List.mem_cons_of_mem _ hm)
theorem aiV {k:Nat} {ns:List Int} (h:∀ n∈ns,Bd k n):∀ n∈low ns,Bd k n:=fun n hn=>by
 unfold low at hn
 by_cases c:gl ns 0=0
 ·rw [if_pos c] at hn
  exact h n hn
 ·rw [if_neg c] at hn
  obtain ⟨m,hm,rfl⟩:=List.mem_map.mp hn
  refine (h m hm).le ?_
  have d:=(jE ns 0).2 m hm
  obtain ⟨q,e⟩:=d
  rw [e,Int.mul_ediv_cancel_left _ c,Int.natAbs_mul]
  exact Nat.le_mul_of_pos_left _ (by omega)
def fr (t b:Int):List Int:=if b < 0 then low [0 - t,0 - b] else low [t,b]
theorem lD (a b:Int):b∈[a,b]:=List.mem_cons_of_mem _ List.mem_cons_self
theorem ai1 {t b:Int} (h:b≠0):∃ p q:Int,fr t b=[p,q]∧0 < q∧p*b=t*q:=by
 have go:∀ {t b:Int},0 < b→∃ p q:Int,low [t,b]=[p,q]∧0 < q∧p*b=t*q:=fun {t b} hb=>by
  have nz:b≠0:=by omega
  have gp:=tX (lD t b) nz
  refine ⟨t / gl [t,b] 0,b / gl [t,b] 0,tW (lD t b) nz,?_,?_⟩
  ·obtain ⟨m,e⟩:=(jE [t,b] 0).2 b (lD t b)
   have:b / gl [t,b] 0=m:=by
    conv=>lhs; lhs; rw [e]
    exact Int.mul_ediv_cancel_left _ (by omega)
   rw [this]
   have hm:0 < m*gl [t,b] 0:=by rw [Int.mul_comm,← e]; exact hb
   exact Int.pos_of_mul_pos_left hm gp
  ·obtain ⟨m,e⟩:=(jE [t,b] 0).2 b (lD t b)
   obtain ⟨n,f⟩:=(jE [t,b] 0).2 t List.mem_cons_self
   have e1:b / gl [t,b] 0=m:=by
    conv=>lhs; lhs; rw [e]
    exact Int.mul_ediv_cancel_left _ (by omega)
   have e2:t / gl [t,b] 0=n:=by
    conv=>lhs; lhs; rw [f]
    exact Int.mul_ediv_cancel_left _ (by omega)
   rw [e1,e2]
   conv=>lhs; rhs; rw [e]
   conv=>rhs; lhs; rw [f]
   rw [Int.mul_left_comm,Int.mul_assoc]
 unfold fr
 by_cases c:b < 0
 ·rw [if_pos c]
  obtain ⟨p,q,e1,e2,e3⟩:=go (t:=0 - t) (b:=0 - b) (by omega)
  refine ⟨p,q,e1,e2,?_⟩
  rw [Int.zero_sub,Int.zero_sub,Int.mul_neg,Int.neg_mul] at e3
  omega
 ·rw [if_neg c]
  exact go (by omega)
def sg (n:Int):Int:=if 0 < n then 1 else if n < 0 then -1 else 0
theorem acD {b:Int} (h:b≠0):(0 < b∧sg b=1)∨(b < 0∧sg b=-1):=by
 unfold sg
 by_cases c:0 < b
 ·exact .inl ⟨c,if_pos c⟩
 ·have d:b < 0:=by omega
  exact .inr ⟨d,by rw [if_neg c,if_pos d]⟩
theorem afu (b:Int):-(2 ^ 64) < sg b∧sg b < 2 ^ 64:=by
 unfold sg
 split
 ·decide
 ·split <;> decide
theorem uB (t b:Int):gl [t,b] 0=(Int.gcd t b:Nat):=by
 show ((Int.gcd ((Int.gcd 0 t:Nat):Int) b:Nat):Int)=_
 rw [Int.gcd_zero_left]
 congr 1
theorem abc {g n:Int} (h:g≠0):(g*n).fdiv g=n:=by
 rw [Int.fdiv_eq_ediv_of_dvd ⟨n,rfl⟩,Int.mul_ediv_cancel_left _ h]
theorem aag {g n:Int} (h:g≠0):(g*n).fdiv (-1*g)=-n:=by
 have e:g*n=(-1*g)*(-n):=by
  rw [Int.neg_mul,Int.one_mul,Int.neg_mul_neg]
 rw [e]
 exact abc (by omega)
theorem adL {t b:Int} (h:b≠0):[t.fdiv (sg b*(Int.gcd t b:Nat)),b.fdiv (sg b*(Int.gcd t b:Nat))]=fr t b:=by
 have gp:=tX (lD t b) h
 rw [uB] at gp
 have gn:((Int.gcd t b:Nat):Int)≠0:=by omega
 obtain ⟨n,en⟩:=Int.gcd_dvd_left (a:=t) (b:=b)
 obtain ⟨m,em⟩:=Int.gcd_dvd_right (a:=t) (b:=b)
 have ht:t=((Int.gcd t b:Nat):Int)*n:=en
 have hb:b=((Int.gcd t b:Nat):Int)*m:=em
 generalize hg:((Int.gcd t b:Nat):Int)=g at *
 rcases acD h with ⟨c,s⟩ | ⟨c,s⟩
 ·rw [s,Int.one_mul]
  have e1:fr t b=[t / g,b / g]:=by
   unfold fr
   rw [if_neg (by omega),tW (lD t b) h,uB,hg]
   rfl
  have e2:t.fdiv g=t / g:=Int.fdiv_eq_ediv_of_dvd ⟨n,ht⟩
  have e3:b.fdiv g=b / g:=Int.fdiv_eq_ediv_of_dvd ⟨m,hb⟩
  rw [e1,e2,e3]
 ·rw [s]
  have e1:fr t b=[(0 - t) / g,(0 - b) / g]:=by
   unfold fr
   rw [if_pos c,tW (lD (0 - t) (0 - b)) (by omega),uB,Int.zero_sub,Int.zero_sub,Int.neg_gcd,Int.gcd_neg,hg]
   rfl
  have e2:t.fdiv (-1*g)=-n:=by
   conv=>lhs; lhs; rw [ht]
   exact aag gn
  have e3:b.fdiv (-1*g)=-m:=by
   conv=>lhs; lhs; rw [hb]
   exact aag gn
  have e4:(0 - t) / g=-n:=by
   rw [ht,Int.zero_sub,← Int.mul_neg,Int.mul_ediv_cancel_left _ gn]
  have e5:(0 - b) / g=-m:=by
   rw [hb,Int.zero_sub,← Int.mul_neg,Int.mul_ediv_cancel_left _ gn]
  rw [e1,e2,e3,e4,e5]
theorem aen (n:Int):∀ (l:List Int) (g:Int),gl (l++[n]) g=(Int.gcd (gl l g) n:Nat)
 | [],g=>rfl
 | m :: r,g=>aen n r _
theorem acM {k m:Int} (hk:0 < k) (hm:0 < m) {A B:List Int} (hA:gl A 0≠0) (e:A.map (k*·)=B.map (m*·)):low A=low B:=by
 have hB:gl B 0≠0:=fun z=>by
  have h:=yI k A
  rw [e,yI m B,z,Int.mul_zero] at h
  have:(k.natAbs:Int)*gl A 0≠0:=Int.mul_ne_zero (by omega) hA
  exact this h.symm
 rw [← abU hk A hA,e,abU hm B hB]
theorem agx (b:Int):∀ (ns:List Int) (g:Int),gl ns (Int.gcd g b:Nat)=(Int.gcd (gl ns g) b:Nat)
 | [],_=>rfl
 | n :: r,g=>by
  show gl r ((Int.gcd ((Int.gcd g b:Nat):Int) n:Nat):Int)=((Int.gcd (gl r _) b:Nat):Int)
  rw [← agx b r,Int.gcd_assoc,Int.gcd_comm b n,← Int.gcd_assoc]
theorem yV {ns:List Int} {b:Int} (hb:0 < b):gl (ns++[b]) 0=gl ns b:=by
 rw [aen,← agx,Int.gcd_zero_left]
 congr 1
 omega
theorem kM (ns:List Int) (b:Int):b∈ns++[b]:=List.mem_append_right _ List.mem_cons_self
theorem aiN {ns:List Int} {b:Int} (hb:0 < b):low (ns++[b])=(ns.map fun n=>n.fdiv (gl ns b))++[b.fdiv (gl ns b)]∧0 < gl ns b:=by
 have gp:=tX (kM ns b) (by omega)
 rw [yV hb] at gp
 refine ⟨?_,gp⟩
 rw [tW (kM ns b) (by omega),yV hb,List.map_append]
 have e:∀ n:Int,n / gl ns b=n.fdiv (gl ns b):=fun n=>(Int.fdiv_eq_ediv_of_nonneg n (Int.le_of_lt gp)).symm
 simp only [e,List.map_cons,List.map_nil]
theorem agF (ns:List Int) {b:Int} (hb:0 < b):∃ (zs:List Int) (z g:Int),low (ns++[b])=zs++[z]∧0 < g∧0 < z∧ns=zs.map (g*·)∧b=g*z∧zs.length=ns.length:=by
 obtain ⟨e,gp⟩:=aiN (ns:=ns) hb
 have dv:=jE (ns++[b]) 0
 rw [yV hb] at dv
 have ex:∀ n∈ns++[b],gl ns b*n.fdiv (gl ns b)=n:=fun n hn=>by
  obtain ⟨q,e⟩:=dv.2 n hn
  conv=>lhs; rhs; rw [e]
  rw [abc (by omega)]
  exact e.symm
 refine ⟨_,_,gl ns b,e,gp,?_,?_,(ex b (kM ns b)).symm,List.length_map _⟩
 ·have h:=ex b (kM ns b)
  have:0 < b.fdiv (gl ns b)*gl ns b:=by rw [Int.mul_comm,h]; exact hb
  exact Int.pos_of_mul_pos_left this gp
 ·rw [List.map_map]
  conv=>lhs; rw [← List.map_id ns]
  refine List.map_congr_left fun n hn=>?_
  exact (ex n (List.mem_append_left _ hn)).symm
theorem ahF (ns:List Int) {b:Int} (hb:0 < b):low (low (ns++[b]))=low (ns++[b]):=by
 obtain ⟨zs,z,g,e,hg,hz,e1,e2,_⟩:=agF ns hb
 rw [e]
 refine acM (k:=g) (m:=1) hg (by decide) (qX (kM zs z) (by omega)) ?_ |>.trans e
 rw [List.map_append,← e1]
 show ns++[g*z]=(ns++[b]).map (1*·)
 rw [← e2]
 conv=>lhs; rw [← List.map_id (ns++[b])]
 refine List.map_congr_left fun n _=>?_
 exact (Int.one_mul n).symm
end Bn
namespace Bn
def sm (xs:List Int) (w:Int) (ys:List Int) (v:Int):List Int:=List.zipWith (fun x y=>x*v+y*w) xs ys
end Bn
namespace L2
open PySem PySem.Spec PyProof.Rows Bn
section
variable {X:Cx}
theorem aeU {k:Nat} {i:Int} (h:Bd k i):Builtin.Int.intBits i≤k:=by
 unfold Builtin.Int.intBits
 split
 ·exact Nat.zero_le _
 ·rename_i c
  have z:i.natAbs≠0:=by
   intro q
   have:i=0:=by omega
   subst this
   exact c rfl
  have:=(Nat.log2_lt z).mpr h
  omega
def mG (_ j:Int):Prop:=j≠0∧Bd 8000 j
theorem nP:OpR X (binaryOp .FloorDiv) (rI mG fun i j=>.int (i.fdiv j)) :=
 opI fun _ _ _ _ _ _ _ hc q=>floordiv_int hc.1 q (.inl (PyProof.noPylong_of_log2 (Nat.lt_trans (hc.2.log (by decide)) (by decide))))
theorem PS.imp {st:Stmt} {t t':TS} (h:PS X st t) (i:∀ D σ H,t' D σ H→t D σ H):PS X st t':=fun pins s σ H D I q=>h pins s σ H D I (i D σ H q)
theorem PSs.imp {st:List Stmt} {t t':TS} (h:PSs X st t) (i:∀ D σ H,t' D σ H→t D σ H):PSs X st t':=fun pins s σ H D I q=>h pins s σ H D I (i D σ H q)
theorem PE.imp {e:Expr} {t t':TE} (h:PE X e t) (i:∀ σ H Q,t' σ H Q→t σ H Q):PE X e t':=fun pins s σ H Q I q=>h pins s σ H Q I (i σ H Q q)
theorem PT.imp {e:Expr} {t t':TT} (h:PT X e t) (i:∀ σ H Q,t' σ H Q→t σ H Q):PT X e t':=fun pins s σ H Q I q=>h pins s σ H Q I (i σ H Q q)
theorem Inv.turnedNew {pins:List (Addr × Obj)} {σ:St} {H:Hp} {s:Shared} {h':Heap} {t':Nat} {ch:List Addr} {a:Addr} {o:HO} (I:Inv X pins σ H s) (hf:∀ b∈ch,dR X pins H b)
  (k:∀ b u,b ∉ ch→s.heap.get? b=some u→h'.get? b=some u) (hp:s.heap.objs.size≤a) (new:eC X.prog X.w (upd H a o) h' a o) :
  Inv X pins σ (upd H a o) { s with heap:=h',toks:=t' }:=by
 have hn:H a=none:=I.hok.fresh hp
 have nch:∀ b u,H b=some u→b ∉ ch:=fun b u e z=>by
  rw [(hf b z).1] at e
  cases e
 have nea:∀ b u,H b=some u→b≠a:=fun b u e=>fD e hn
 refine I.step (g':=s.gens) (d':=s.drawn) (ch:=ch) (fun b hb=>?_) (fun b u _ _ hc e _=>k b u hc e) (fun b u _ _ hc e _=>⟨u.slots,k b u hc e⟩) (fun b u _ e n=>?_)
  (fun b u hc e=>⟨u,k b u hc e⟩) (fun b xs e=>?_) (fun b u v e=>?_) (fun b ps e=>⟨#[],?_⟩) (fun m hm=>?_) (fun b u e=>?_) I.bare
 ·obtain ⟨_,f1,_,f3,f4,f5⟩:=hf b hb
  exact ⟨f3,f1,f4,f5⟩
 ·rw [cD (Nat.ne_of_lt (Nat.lt_of_lt_of_le (Heap.lt_size e) hp))]
  exact n
 ·rw [cD (nea b _ e)]
  exact e
 ·rw [cD (nea b _ e)]
  exact e
 ·rw [cD (nea b _ e),e]
  simp
 ·obtain ⟨ob,es,ep,ho,r⟩:=hm
  exact ⟨ob,es,ep,k _ ob (fun z=>(hf _ z).2.1 rfl) ho,r⟩
 ·by_cases hb:b=a
  ·subst hb
   rw [gJ] at e
   cases e
   exact new
  ·rw [cD hb] at e
   refine (I.hok b u e).stay (fun c v hc q=>k c v ?_ q) (fun c q=>?_) fun c xs q=>?_
   ·rcases hc with z | z
    ·rw [z]
     exact nch b u e
    ·exact nch c _ z
   ·rw [cD (nea c _ q)]
    exact q
   ·rw [cD (nea c _ q)]
    exact q
theorem Inv.turnedL {pins:List (Addr × Obj)} {σ:St} {H:Hp} {s:Shared} {h':Heap} {t':Nat} {ch:List Addr} (I:Inv X pins σ H s) (hf:∀ b∈ch,dR X pins H b)
  (k:∀ b u,b ∉ ch→s.heap.get? b=some u→h'.get? b=some u):Inv X pins σ H { s with heap:=h',toks:=t' }:=by
 have nch:∀ b u,H b=some u→b ∉ ch:=fun b u e z=>by
  rw [(hf b z).1] at e
  cases e
 refine I.step (g':=s.gens) (d':=s.drawn) (ch:=ch) (fun b hb=>?_) (fun b u _ _ hc e _=>k b u hc e) (fun b u _ _ hc e _=>⟨u.slots,k b u hc e⟩) (fun b u _ e n=>n)
  (fun b u hc e=>⟨u,k b u hc e⟩) (fun b xs e=>e) (fun b u v e=>e) (fun b ps e=>⟨#[],?_⟩) (fun m hm=>?_) (fun b u e=>?_) I.bare
 ·obtain ⟨_,f1,_,f3,f4,f5⟩:=hf b hb
  exact ⟨f3,f1,f4,f5⟩
 ·rw [e]
  simp
 ·obtain ⟨ob,es,ep,ho,r⟩:=hm
  exact ⟨ob,es,ep,k _ ob (fun z=>(hf _ z).2.1 rfl) ho,r⟩
 ·refine (I.hok b u e).stay (fun c v hc q=>k c v ?_ q) (fun c q=>q) fun c xs q=>q
  rcases hc with z | z
  ·rw [z]
   exact nch b u e
  ·exact nch c _ z
end
def Ite (K : PySem.W.Frag) (a : Addr) : It :=
  ⟨fun i H => ∃ xs x, SqL K H a xs ∧ xs[i]? = some x,
   fun i H x H' => ∃ p y, H p = none ∧ x = .ref p ∧ H' = upd H p (.tup [.int i, y]) ∧ ∀ xs, SqL K H a xs → xs[i]? = some y,
   fun i H => ∃ xs, SqL K H a xs ∧ xs.length ≤ i⟩
theorem adN {P:Program} {w:World} {K:PySem.W.Frag} {elts:List Expr} {x1:Nat} {tp:Pos} (a e it:Addr) (hne:e≠it) :
  mL P w K (.Tuple elts x1 tp) (Ite K a) [e,it] e (fun i h=>(∃ old,IsEnum h e it (i:Int) old)∧h.IsListIter it a i) where
 mem:=by simp
 obj:=fun i h st b hb=>by
  obtain ⟨⟨old,q⟩,o,e1,c,d⟩:=st
  rcases List.mem_cons.mp hb with z | z
  ·subst z
   exact ⟨_,q,fun v z=>nomatch z⟩
  ·have z':b=it:=by simpa using z
   subst z'
   exact ⟨o,e1,fun v z=>by rw [d] at z; cases z⟩
 keep:=fun i h h' st k=>⟨let ⟨old,q⟩:=st.1; ⟨old,k e (by simp) _ q⟩,st.2.at fun o q=>k it (by simp) o q⟩
 item:=by
  intro X hP hw hK hc i pins s σ H E I hf st hg
  subst hP hw hK
  obtain ⟨xs,x,hq,hx⟩:=hg
  obtain ⟨its,rv,pl,hz⟩:=I.list hq
  obtain ⟨u,hu,ru⟩:=rv.get hx
  obtain ⟨⟨old,he⟩,hit⟩:=st
  refine wpAny_pyNext_enum_item he hit pl.isList (x:=u) (by simpa using hu) hne fun h1 ho1 hit1 ht1 hs1 hk1=>⟨_,rfl,?_⟩
  have lt1:e < s.heap.objs.size:=Heap.lt_size he
  refine wpAny_letOwnedTupleGo_enum (s:={ s with heap:=h1,toks:=s.toks+1 }) ho1 fun h2 he2 sb2=>?_
  have ht2:h2.get? s.heap.objs.size=some { cls:=.type "tuple",data:=.seq #[.int i s.toks,u] }:=(sb2.2 _ (Nat.ne_of_gt lt1)).trans ht1
  have I2:Inv X pins σ (upd H s.heap.objs.size (.tup [.int i,x])) { s with heap:=h2,toks:=s.toks+1 } :=
   I.turnedNew hf (fun b o hb q=>(sb2.2 b (fun z=>hb (by simp [z]))).trans (hk1 b o (fun z=>hb (by simp [z])) (fun z=>hb (by simp [z])) q)) (Nat.le_refl _)
    ⟨by show 2≤sizeLine; decide,[.int i s.toks,u],.cons ⟨_,rfl⟩ (.cons ru .nil),⟨_,ht2,rfl,_,rfl⟩⟩
  refine ⟨.ref s.heap.objs.size,_,I2,rfl,⟨_,x,I.hok.fresh (Nat.le_refl _),rfl,rfl,fun ys hy=>by rw [I.list_inj hy hq]; exact hx⟩,⟨⟨_,by simpa using he2⟩,hit1.at fun o q=>(sb2.2 it hne.symm).trans q⟩,fun b hb=>?_⟩
  have hb':=(hf b hb).1
  have lt:b≠s.heap.objs.size:=by
   rcases List.mem_cons.mp hb with z | z
   ·subst z
    exact Nat.ne_of_lt lt1
   ·have z':b=it:=by simpa using z
    subst z'
    obtain ⟨o,q,_⟩:=hit
    exact Nat.ne_of_lt (Heap.lt_size q)
  rw [cD lt]
  exact hb'
 done:=by
  intro X hP hw hK hc i pins s σ H E I hf st hg
  subst hP hw hK
  obtain ⟨xs,hq,hx⟩:=hg
  obtain ⟨its,rv,pl,hz⟩:=I.list hq
  obtain ⟨⟨old,he⟩,hit⟩:=st
  have hl:=rv.length
  exact wpAny_pyNext_enum_end (I.ok.hd hc) he hit pl.isList (by simp; omega) fun h' eb=>⟨rfl,I.turnedL (t':=s.toks) hf fun b o hb q=>eb b o (fun z=>hb (by simp [z])) q⟩
 self:=fun _ _ _ _ _ st h=>let ⟨_,q⟩:=st.1; wpAny_pyIter_enum q h
section
variable {X:Cx} {elts:List Expr} {x1:Nat} {tp:Pos}
def akB (K:PySem.W.Frag) (tl:TA):TI:=fun σ H R=>tl σ H fun vs H1=>∃ a,vs=[.ref a]∧(∃ xs,SqL K H1 a xs)∧R (Ite K a) H1
theorem ahh {l:Expr} {tl:TA} {p pos:Pos} (hg:Gl X "enumerate") (hm:X.mg "enumerate"=none) (hl:PA X [l] tl) (hs:starEach [l] X.env=[(false,eval l X.env)]:=by rfl) :
  PI X (.Tuple elts x1 tp) (.Call (.Name "enumerate" p) [l] [] pos) (akB X.K tl):=by
 intro pins s σ H R I h
 refine Call_ (oM I hg hm boot_enumerate (PyProof.Rows.callWith_type1 (thn (hl pos pins s σ H _ I h) fun us s1 ⟨vs,H1,I1,r1,q1⟩=>?_) hs rfl))
 obtain ⟨a,rfl,⟨xs,hq⟩,q⟩:=q1
 obtain ⟨u,rfl,ru⟩:=gW r1
 cases ru
 obtain ⟨its,rv,pl,hz⟩:=I1.list hq
 refine call_enumerate_list pl.isList fun h' he hit hsz k=>?_
 have I2:Inv X pins σ H1 { s1 with heap:=h' }:=I1.kept (t':=s1.toks) k
 refine wpAny_pyIter_enum (s:={ s1 with heap:=h' }) he ?_
 refine ⟨s1.heap.objs.size+1,[s1.heap.objs.size+1,s1.heap.objs.size],_,_,H1,rfl,I2,adN a _ _ (Nat.succ_ne_self _),⟨⟨_,he⟩,hit⟩,fun b hb=>?_,q⟩
 have hb':s1.heap.objs.size≤b:=by
  rcases List.mem_cons.mp hb with z | z
  ·rw [z]
   exact Nat.le_succ _
  ·have z':b=s1.heap.objs.size:=by simpa using z
   rw [z']
   exact Nat.le_refl _
 exact I1.fpOk hb' (I1.hok.fresh hb')
end
end L2
namespace L2
open PySem PySem.Spec PyProof.Rows Bn
def gF (env:Env):List (Str × NameKind)→List (Str × Addr)→List (Str × Addr)
 | [],acc=>acc
 | p :: r,acc=>if (p.2 == .free)=true then gF env r ((p.1,(env.cells.lookup p.1).getD 0) :: acc) else gF env r acc
theorem yS {sc:Scope} {env:Env} (h:∀ p∈sc.names,p.2=.free→∃ c,env.cells.lookup p.1=some c):closureFor sc env=pure (gF env sc.names []):=by
 unfold closureFor
 have go:∀ (l:List (Str × NameKind)) (acc:List (Str × Addr)),(∀ p∈l,p.2=.free→∃ c,env.cells.lookup p.1=some c) →
   (forIn l acc (fun x r=>if (x.2 == NameKind.free)=true then do let a ← cellOf env x.1; pure (ForInStep.yield ((x.1,a) :: r)) else pure (ForInStep.yield r)):Sem _)=pure (gF env l acc):=by
  intro l
  induction l with
  | nil=>intro acc _; rfl
  | cons p r ih =>
   intro acc hp
   rw [List.forIn_cons]
   have hr:=fun acc'=>ih acc' fun q hq=>hp q (List.mem_cons_of_mem _ hq)
   by_cases c:(p.2 == NameKind.free)=true
   ·obtain ⟨a,ea⟩:=hp p List.mem_cons_self (by simpa using c)
    have e1:cellOf env p.1=pure a:=by unfold cellOf; rw [ea]
    rw [if_pos c,e1]
    simp only [pure_bind]
    rw [hr]
    show _=pure (if (p.2 == .free)=true then _ else _)
    rw [if_pos c,ea]
    rfl
   ·rw [if_neg c]
    simp only [pure_bind]
    rw [hr]
    show _=pure (if (p.2 == .free)=true then _ else _)
    rw [if_neg c]
 have e:=go sc.names [] h
 show (forIn sc.names [] _ >>= fun r=>pure r)=_
 rw [bind_pure]
 exact e
theorem wT {env:Env}:∀ (l:List (Str × NameKind)) (acc:List (Str × Addr)),(∀ p∈l,p.2=.free→∃ c,env.cells.lookup p.1=some c) →
  ∀ y c,(gF env l acc).lookup y=some c→acc.lookup y=some c∨env.cells.lookup y=some c
 | [],acc,_,y,c,e=>.inl e
 | p :: r,acc,h,y,c,e=>by
  have hr:∀ q∈r,q.2=.free→∃ c,env.cells.lookup q.1=some c:=fun q hq=>h q (List.mem_cons_of_mem _ hq)
  unfold gF at e
  by_cases k:(p.2 == NameKind.free)=true
  ·rw [if_pos k] at e
   obtain ⟨a,ea⟩:=h p List.mem_cons_self (by simpa using k)
   rcases wT r _ hr y c e with z | z
   ·rw [List.lookup_cons] at z
    cases w:y == p.1 with
    | true =>
     rw [w,ea] at z
     have hy:y=p.1:=by simpa using w
     rw [hy,ea]
     exact .inr z
    | false =>
     rw [w] at z
     exact .inl z
   ·exact .inr z
  ·rw [if_neg k] at e
   exact wT r acc hr y c e
theorem sV {env:Env}:∀ (l:List (Str × NameKind)) (acc:List (Str × Addr)) (y:Str),((∃ c,acc.lookup y=some c)∨(y,NameKind.free)∈l)→∃ c,(gF env l acc).lookup y=some c
 | [],acc,y,h=>by
  rcases h with h | h
  ·exact h
  ·cases h
 | p :: r,acc,y,h=>by
  unfold gF
  by_cases k:(p.2 == NameKind.free)=true
  ·rw [if_pos k]
   refine sV r _ y ?_
   cases w:y == p.1 with
   | true=>exact .inl ⟨_,by rw [List.lookup_cons,w]⟩
   | false =>
    rcases h with ⟨c,h⟩ | h
    ·exact .inl ⟨c,by rw [List.lookup_cons,w]; exact h⟩
    ·rcases List.mem_cons.mp h with z | z
     ·rw [← z] at w
      simp at w
     ·exact .inr z
  ·rw [if_neg k]
   refine sV r _ y ?_
   rcases h with h | h
   ·exact .inl h
   ·rcases List.mem_cons.mp h with z | z
    ·rw [← z] at k
     simp at k
    ·exact .inr z
theorem aaA {env:Env}:∀ {names:List (Str × NameKind)} {x:Str},(∀ y∈names,y.2≠.cell) →
  (let l:=(names.map fun (n,k)=>if (k == NameKind.free && env.scope.kind == .function && env.kindOf n == some .cell) then (n,NameKind.cell) else (n,k)).lookup x; l=some .cell∨l=some .free)→(x,NameKind.free)∈names
 | [],x,_,h=>by
  rcases h with h | h <;> cases h
 | (n,k) :: r,x,hc,h=>by
  dsimp only at h
  rw [List.map_cons] at h
  have ih:=@aaA env r x fun y hy=>hc y (List.mem_cons_of_mem _ hy)
  have nk:k≠.cell:=hc (n,k) List.mem_cons_self
  by_cases c:(k == NameKind.free && env.scope.kind == .function && env.kindOf n == some .cell)=true
  ·have kf:k=.free:=by
    simp only [Bool.and_eq_true,beq_iff_eq] at c
    exact c.1.1
   dsimp only at h
   rw [if_pos c,List.lookup_cons] at h
   cases w:x == n with
   | true =>
    have hx:x=n:=by simpa using w
    rw [hx,← kf]
    exact List.mem_cons_self
   | false =>
    rw [w] at h
    exact List.mem_cons_of_mem _ (ih h)
  ·dsimp only at h
   rw [if_neg c,List.lookup_cons] at h
   cases w:x == n with
   | true =>
    rw [w] at h
    have hx:x=n:=by simpa using w
    have kf:k=.free:=by
     rcases h with h | h
     ·exact absurd (Option.some.inj h) nk
     ·exact Option.some.inj h
    rw [hx,← kf]
    exact List.mem_cons_self
   | false =>
    rw [w] at h
    exact List.mem_cons_of_mem _ (ih h)
def cC (X:Cx) (sc:Scope) (N:List Str) (C:Addr) (s₀:Shared) (H₀:Hp) (ex:List Addr):Cx where
 prog:=X.prog
 w:=X.w
 K:=X.K
 mg:=X.mg
 base:=X.base
 A:=X.A
 N:=N
 s₀:=s₀
 H₀:=H₀
 env:=compEnvC sc (gF X.env sc.names []) C X.env
 outer:=X.stack
 stack:=X.stack
 ex:=ex
 fn:=fun _=>false
 calm:=X.calm
 pn:=[]
 xe:=fun _ _=>False
def iP (own:List Str) (cap:List (Nat × Str)) (σ:St):St:=own.map (fun _=>none)++cap.map fun p=>(σ[p.1]?).join
def bF (own:List Str) (cap:List (Nat × Str)):List Str:=own++cap.map (·.2)
def pE (J:It) (g:TG) (te:TE) (σ₀:St) (H1:Hp) (D:Addr) (Q:VK):Prop :=
 ∃ W:Nat→Nat→St→Hp→List V→Prop,(∃ m,W 0 m σ₀ (upd H1 D (.lst [])) [])∧∀ i m σ H ys,W i m σ H ys→H D=some (.lst ys) ∧
  ((J.stop i H∧Q (.ref D) H)∨(J.go i H∧ys.length < sizeLine∧∀ x H2,J.yld i H x H2→g x σ H2 fun σ3 H3=>te σ3 H3 fun y H4=>H4 D=some (.lst ys)∧∃ m',m' < m∧W (i+1) m' σ3 (upd H4 D (.lst (ys++[y]))) (ys++[y])))
def mE (own:List Str) (cap:List (Nat × Str)) (wi:TI) (g:TG) (te:TE):TE:=fun σ H Q=>wi σ H fun J H1=>∀ D,H1 D=none→pE J g te (iP own cap σ) H1 D Q
def Nx (n:Nat) (Pv:Nat→St→Hp→List V→Prop) (D:Addr) (i:Nat) (ys:List V) (σ:St) (y:V) (H:Hp):Prop :=
 H D=some (.lst ys)∧∃ m,m < n - i∧(m=n - (i+1)∧i+1≤n∧Pv (i+1) σ (upd H D (.lst (ys++[y]))) (ys++[y]))
theorem aiO {n:Nat} {Pv:Nat→St→Hp→List V→Prop} {D:Addr} {i:Nat} {ys:List V} {σ:St} {y:V} {H:Hp} (h:i < n) (hD:H D=some (.lst ys)) (p:Pv (i+1) σ (upd H D (.lst (ys++[y]))) (ys++[y])):Nx n Pv D i ys σ y H :=
 ⟨hD,n - (i+1),by omega,rfl,h,p⟩
theorem aeM {J:It} {g:TG} {te:TE} {σ₀:St} {H1:Hp} {D:Addr} {Q:VK} (n:Nat) (hn:n≤sizeLine) (Pv:Nat→St→Hp→List V→Prop) (h0:Pv 0 σ₀ (upd H1 D (.lst [])) [])
  (hl:∀ i σ H ys,Pv i σ H ys→ys.length=i∧H D=some (.lst ys)) (hgo:∀ i σ H ys,i < n→Pv i σ H ys→J.go i H)
  (hs:∀ i σ H ys x H2,i < n→Pv i σ H ys→J.yld i H x H2→g x σ H2 fun σ3 H3=>te σ3 H3 fun y H4=>Nx n Pv D i ys σ3 y H4)
  (hd:∀ σ H ys,Pv n σ H ys→J.stop n H∧Q (.ref D) H):pE J g te σ₀ H1 D Q:=by
 refine ⟨fun i m σ H ys=>m=n - i∧i≤n∧Pv i σ H ys,⟨n,rfl,Nat.zero_le _,h0⟩,?_⟩
 rintro i m σ H ys ⟨rfl,hi,p⟩
 obtain ⟨l1,l2⟩:=hl i σ H ys p
 refine ⟨l2,?_⟩
 by_cases hlt:i < n
 ·exact .inr ⟨hgo i σ H ys hlt p,by omega,fun x H2 y=>hs i σ H ys x H2 hlt p y⟩
 ·have e:i=n:=by omega
  subst e
  exact .inl (hd σ H ys p)
section
variable {prog:Program} {w:World} {A:Around} {R:Result→Shared→Prop} {s:Shared}
theorem aeL {elt target iter:Expr} {sc:Scope} {pos:Pos} {it acc:Value} {env:Env} (I:Nat→Shared→Prop)
  (turn:∀ n s,I n s→wpAny (model prog w) A (pyNext it) (fun r s1=>match r with
   | none=>R (.ok .next) s1
   | some v=>wpAny (model prog w) A (letOwnedTupleGo target it v) (fun _ s2=>wpAny (model prog w) A (assign target env v) (fun _ s3=>wpAny (model prog w) A (eval elt env)
     (fun x s4=>wpAny (model prog w) A (call (.builtin "list.append") [acc,x]) (fun _ s5=>∃ m,m < n∧I m s5) (fun _ _=>False) s4) (fun _ _=>False) s3) (fun _ _=>False) s2) (fun _ _=>False) s1) (fun _ _=>False) s)
  (n:Nat) (h:I n s):codeAny (model prog w) A (.compLoop (.ListComp elt [⟨target,iter,[],0⟩] sc pos) 0 it acc env) R s:=by
 refine codeAny_loop rfl I (fun n s hI=>?_) n h
 show wpAny _ _ ((compTurn (.ListComp elt [⟨target,iter,[],0⟩] sc pos) 0 it acc env).onRaise (fun x=>do noteFrame x env; theTreesLotGoes x)) _ _ s
 refine wpAny_noted ?_
 rw [compTurn_list1]
 refine wpAny_bind (wpAny_standAt (wpAny_bind ?_))
 refine wpAny_mono (turn n s hI) (fun r s1 h1=>?_) fun _ _ z=>z.elim
 cases r with
 | none=>exact wpAny_pure h1
 | some v =>
  refine wpAny_bind (wpAny_mono h1 (fun _ s2 h2=>?_) fun _ _ z=>z.elim)
  refine wpAny_bind (wpAny_mono h2 (fun _ s3 h3=>?_) fun _ _ z=>z.elim)
  refine wpAny_bind (wpAny_bind (wpAny_mono h3 (fun x s4 h4=>?_) fun _ _ z=>z.elim))
  refine wpAny_bind (wpAny_mono h4 (fun _ s5 h5=>?_) fun _ _ z=>z.elim)
  exact wpAny_pure (wpAny_pure ⟨rfl,h5⟩)
end
structure gB (X:Cx) (sc:Scope) (own:List Str) (cap:List (Nat × Str)):Prop where
 kind:sc.kind=.function
 names:∀ y∈sc.names,y.2=.local→sc.names.lookup y.1=some .local
 nocell:∀ y∈sc.names,y.2≠.cell
 free:∀ y∈sc.names,y.2=.free→X.env.kindOf y.1=some .cell
 at':∀ p∈cap,X.N[p.1]?=some p.2
 cap:∀ p∈cap,sc.names.lookup p.2=some .free
section
variable {X:Cx} {sc:Scope} {own:List Str} {cap:List (Nat × Str)} {pins:List (Addr × Obj)} {σ:St} {H:Hp} {s:Shared}
theorem gB.has (k:gB X sc own cap) (ok:X.Ok):∀ p∈sc.names,p.2=.free→∃ c,X.env.cells.lookup p.1=some c:=fun p hp e=>ok.has p.1 (.inl (k.free p hp e))
theorem aaM {env:Env}:∀ {names:List (Str × NameKind)} {x:Str},env.scope.kind=.function→names.lookup x=some .free→env.kindOf x=some .cell →
  (names.map fun (n,k)=>if (k == NameKind.free && env.scope.kind == .function && env.kindOf n == some .cell) then (n,NameKind.cell) else (n,k)).lookup x=some .cell
 | [],x,_,h,_=>by cases h
 | (n,k) :: r,x,hk,h,hx=>by
  rw [List.map_cons]
  dsimp only
  rw [List.lookup_cons] at h
  cases w:x == n with
  | true =>
   rw [w] at h
   have e:x=n:=by simpa using w
   have kf:k=.free:=Option.some.inj h
   have c:(k == NameKind.free && env.scope.kind == .function && env.kindOf n == some .cell)=true:=by
    rw [kf,hk,← e,hx]
    decide
   rw [if_pos c,List.lookup_cons,w]
  | false =>
   rw [w] at h
   have ih:=@aaM env r x hk h hx
   by_cases c:(k == NameKind.free && env.scope.kind == .function && env.kindOf n == some .cell)=true
   ·rw [if_pos c,List.lookup_cons,w]
    exact ih
   ·rw [if_neg c,List.lookup_cons,w]
    exact ih
theorem Inv.cmp (k:gB X sc own cap) {h4:Heap} {fp:List Addr} {m:Str→Option Value} {t':Nat} (I:Inv X pins σ H s) (hf:∀ b∈fp,dR X pins H b) (hlt:∀ b∈fp,b < s.heap.objs.size) (hns:h4.Ns s.heap.objs.size m)
  (kp:∀ b o,s.heap.get? b=some o→h4.get? b=some o):Inv (cC X sc (bF own cap) s.heap.objs.size s H fp) [] (iP own cap σ) H { s with heap:=h4,toks:=t' }:=by
 have hcl:∀ y c,(gF X.env sc.names []).lookup y=some c→X.env.cells.lookup y=some c:=fun y c e=>by
  rcases wT sc.names [] (k.has I.ok) y c e with z | z
  ·cases z
  ·exact z
 have nst:∀ b∈fp,b ∉ frs X.stack:=fun b hb z=>by
  rcases List.mem_cons.mp (I.stkSub b z) with e | e
  ·exact (hf b hb).2.1 e
  ·exact (hf b hb).2.2.1 e
 refine ⟨⟨I.ok.mod,k.kind,I.ok.glob,I.ok.blt,Nat.le_refl _,fun x y c h1 h2=>I.ok.inj x y c (hcl x c h1) (hcl y c h2),fun x hx=>?_,fun x c e=>(nomatch e),I.ok.hd,I.ok.frames,.inl rfl,fun b hb=>⟨Nat.ne_of_lt (hlt b hb),fun x c e=>(hf b hb).2.2.2.2.1 x c (hcl x c e)⟩,
  I.bs,Nat.le_trans I.ok.bsz I.sz,fun b o e hb=>?_,nst,I.stack,I.stkFree⟩,rfl,I.bare,Un.kept kp,⟨m,hns,fun i x v h1 h2 h3=>?_⟩,fun x c e=>?_,I.hok.fresh (Nat.le_refl _),fun x c e=>I.freeC x c (hcl x c e),fun p hp=>absurd (show p∈([]:List (Addr × Obj)) from hp) (by simp),I.hok.kept kp,?_⟩
 ·exact sV sc.names [] x (.inr (aaA k.nocell hx))
 ·rcases (hf b hb).2.2.2.1 with z | z
  ·exact I.ok.noex b o e z
  ·exact absurd (Nat.lt_of_lt_of_le (Heap.lt_size (I.ok.bs b o e).1) z) (Nat.lt_irrefl _)
 ·have hN:(bF own cap)[i]?=some x:=h1
  unfold bF at hN
  unfold iP at h2
  by_cases hi:i < own.length
  ·rw [List.getElem?_append_left (by simpa using hi),List.getElem?_map] at h2
   cases e:own[i]? with
   | none=>rw [e] at h2; cases h2
   | some z=>rw [e] at h2; cases h2
  ·rw [List.getElem?_append_right (by simpa using hi),List.getElem?_map,List.length_map] at h2
   rw [List.getElem?_append_right (by omega),List.getElem?_map] at hN
   cases e:cap[i - own.length]? with
   | none=>rw [e] at h2; cases h2
   | some p =>
    rw [e] at h2 hN
    have hp:p∈cap:=List.mem_of_getElem? e
    have hx:p.2=x:=Option.some.inj hN
    have hv:(σ[p.1]?).join=some v:=Option.some.inj h2
    have hv':σ[p.1]?=some (some v):=by
     cases e2:σ[p.1]? with
     | none=>rw [e2] at hv; cases hv
     | some z=>rw [e2] at hv; exact congrArg some hv
    have fr:=k.cap p hp
    have kc:X.env.kindOf p.2=some .cell:=k.free (p.2,.free) (PySem.mem_of_lookup fr) rfl
    obtain ⟨m0,_,hl⟩:=I.loc
    obtain ⟨u,ru,lk⟩:=hl p.1 p.2 v (k.at' p hp) hv' (.inr (.inl kc))
    refine ⟨u,ru,?_⟩
    rcases lk with ⟨k1,_⟩ | ⟨_,c,ec,cell⟩
    ·rw [kc] at k1
     cases k1
    ·rw [← hx]
     obtain ⟨c',ec'⟩:=sV (env:=X.env) sc.names [] p.2 (.inr (PySem.mem_of_lookup fr))
     have:=(hcl _ _ ec').symm.trans ec
     cases this
     obtain ⟨o,ho,hd⟩:=cell
     exact .inr ⟨.inl (aaM I.ok.kind fr kc),c,ec',o,kp c o ho,hd⟩
 ·obtain ⟨v,o,ho,hd⟩:=I.cell x c (hcl x c e)
  exact ⟨v,o,kp c o ho,hd⟩
 ·unfold iP
  show _=(bF own cap).length
  unfold bF
  rw [List.length_append,List.length_append,List.length_map,List.length_map,List.length_map]
theorem Inv.uncmp {s3 s':Shared} {H3 H':Hp} {N:List Str} {σ':St} {C:Addr} {fp:List Addr} {pl:List (Addr × Obj)} (I:Inv X pins σ H s) (hf:∀ b∈fp,dR X pins H b) (u:Un (frs X.stack) fp H H3 s.heap s3.heap) (os:s3.os=s.os)
  (J:Inv (cC X sc N C s3 H3 fp) pl σ' H' s'):Inv X pins σ H' s':=by
 have os':s'.os=s.os:=(show s'.os=s3.os from J.os).trans os
 refine I.call' (ch:=fp) os' (u.trans J.base) J.hok J.bare fun b hb=>?_
 obtain ⟨_,f1,_,f3,f4,f5⟩:=hf b hb
 exact ⟨f3,f1,f4,f5⟩
end
end L2
namespace L2
open PySem PySem.Spec PyProof.Rows Bn
section
variable {X:Cx} {sc:Scope} {own:List Str} {cap:List (Nat × Str)} {pins:List (Addr × Obj)} {σ:St} {H:Hp} {s:Shared} {elt target iter:Expr} {pos pos':Pos} {wi:TI} {g:TG} {te:TE} {Q:VK}
theorem ab9 {use:Option (Value→Sem Unit)} {Qf:Value→Shared→Prop} (k:gB X sc own cap) (hi:PI X target iter wi) (hc:X.calm=true)
  (hg:∀ C s₀ H₀ ex,PG (cC X sc (bF own cap) C s₀ H₀ ex) target g) (he:∀ C s₀ H₀ ex,PE (cC X sc (bF own cap) C s₀ H₀ ex) elt te) (I:Inv X pins σ H s) (h:mE own cap wi g te σ H Q)
  (fin:∀ D C s' H' m,Inv X pins σ H' s'→dR X pins H' C→s'.heap.Ns C m→Q (.ref D) H'→compPost (model X.prog X.w) X.A X.xe use Qf (.ref D) C (.ok .next) s')
  (hs:∀ x,foldedSetIterable iter X.env x=pure x) :
  wpAny (model X.prog X.w) X.A (comprehension (.ListComp elt [⟨target,iter,[],0⟩] sc pos) sc X.env pos' (newList []) false (eval iter X.env) use) Qf X.xe s:=by
 refine wpAny_comprehension_free (use:=use) rfl hs (yS (k.has I.ok)) k.kind k.names ?_
 refine thn (hi pins s σ H _ I h) fun v s1 h1=>thn h1 fun itv s2 h2=>?_
 obtain ⟨it,fp,tn,J,H2,e,I2,T,st2,f2,hW⟩:=h2
 subst e
 refine wpAny_newObj_type (wpAny_newFunctionEnv k.nocell (fun y hy=>nomatch hy) (fun h4 hns hsb=>?_) k.kind)
 have I3:Inv X pins σ (upd H2 s2.heap.objs.size (.lst [])) { s2 with heap:=s2.heap.push { cls:=.type "list",data:=.seq ([]:List Value).toArray },toks:=s2.toks }:=I2.lnew (ys:=[]) (its:=[]) .nil (Nat.zero_le _)
 have hD:H2 s2.heap.objs.size=none:=I2.fresh
 have ltf:∀ b∈fp,b < s2.heap.objs.size:=fun b hb=>by
  obtain ⟨o,ho,_⟩:=T.obj _ _ st2 b hb
  exact Heap.lt_size ho
 have f3:∀ b∈fp,dR X pins (upd H2 s2.heap.objs.size (.lst [])) b:=fun b hb=>⟨by rw [cD (Nat.ne_of_lt (ltf b hb))]; exact (f2 b hb).1,(f2 b hb).2⟩
 have un:Un (frs X.stack) fp H2 (upd H2 s2.heap.objs.size (.lst [])) s2.heap (s2.heap.push { cls:=.type "list",data:=.seq ([]:List Value).toArray }):=Un.laid (fun b u q=>Heap.get?_push_of_some _ q) (Nat.le_refl _) hD
 have kp:∀ b o,(s2.heap.push { cls:=.type "list",data:=.seq ([]:List Value).toArray }).get? b=some o→h4.get? b=some o:=fun b o q=>hsb.extBut b o (Nat.ne_of_lt (Heap.lt_size q)) (Heap.get?_push_of_some _ q)
 have J0:=I3.cmp (t':=s2.toks+([]:List (Str × Value)).length) k f3 (fun b hb=>Nat.lt_of_lt_of_le (ltf b hb) (by rw [Heap.size_push]; exact Nat.le_succ _)) hns kp
 have stat:∀ {H':Hp},(∀ b∈fp,H' b=none)→∀ b∈fp,dR (cC X sc (bF own cap) (s2.heap.push { cls:=.type "list",data:=.seq ([]:List Value).toArray }).objs.size { s2 with heap:=s2.heap.push { cls:=.type "list",data:=.seq ([]:List Value).toArray },toks:=s2.toks } (upd H2 s2.heap.objs.size (.lst [])) fp) [] H' b:=fun hn b hb =>
  ⟨hn b hb,(J0.ok.exf b hb).1,J0.ok.exfs b hb,.inl hb,(J0.ok.exf b hb).2,fun p hp=>absurd (show p∈([]:List (Addr × Obj)) from hp) (by simp)⟩
 have st4:tn 0 h4:=T.keep _ _ _ st2 fun b hb o q=>kp b o (Heap.get?_push_of_some _ q)
 have fr0:∀ b∈fp,(upd H2 s2.heap.objs.size (.lst [])) b=none:=fun b hb=>(f3 b hb).1
 have loop:codeAny (model X.prog X.w) X.A (.compLoop (.ListComp elt [⟨target,iter,[],0⟩] sc pos) 0 (.ref it) (.ref s2.heap.objs.size) (compEnvC sc (gF X.env sc.names []) (s2.heap.push { cls:=.type "list",data:=.seq ([]:List Value).toArray }).objs.size X.env))
   (compPost (model X.prog X.w) X.A X.xe use Qf (.ref s2.heap.objs.size) (s2.heap.push { cls:=.type "list",data:=.seq ([]:List Value).toArray }).objs.size) { s2 with heap:=h4,toks:=s2.toks+([]:List (Str × Value)).length }:=by
  obtain ⟨W,⟨m0,w0⟩,turn⟩:=hW s2.heap.objs.size hD
  refine aeL (fun n s'=>∃ i σ' H' ys,Inv (cC X sc (bF own cap) (s2.heap.push { cls:=.type "list",data:=.seq ([]:List Value).toArray }).objs.size { s2 with heap:=s2.heap.push { cls:=.type "list",data:=.seq ([]:List Value).toArray },toks:=s2.toks } (upd H2 s2.heap.objs.size (.lst [])) fp) [] σ' H' s'∧tn i s'.heap∧(∀ b∈fp,H' b=none)∧W i n σ' H' ys) ?_ m0
   ⟨0,_,_,[],J0,st4,fr0,w0⟩
  rintro n s5 ⟨i,σ5,H5,ys,I5,st5,fr5,w5⟩
  obtain ⟨hD5,w5⟩:=turn i n σ5 H5 ys w5
  rcases w5 with ⟨stop,qn⟩ | ⟨go,hlt,step⟩
  ·refine thn (T.done (cC X sc (bF own cap) (s2.heap.push { cls:=.type "list",data:=.seq ([]:List Value).toArray }).objs.size { s2 with heap:=s2.heap.push { cls:=.type "list",data:=.seq ([]:List Value).toArray },toks:=s2.toks } (upd H2 s2.heap.objs.size (.lst [])) fp) rfl rfl rfl hc i [] s5 σ5 H5 _ I5 (stat fr5) st5 stop) fun r s6 ⟨hr,I6⟩=>?_
   subst hr
   obtain ⟨m,hn,_⟩:=id I6.loc
   exact fin _ _ s6 H5 m (I2.uncmp (s3:={ s2 with heap:=s2.heap.push { cls:=.type "list",data:=.seq ([]:List Value).toArray },toks:=s2.toks }) f2 un rfl I6) (I3.fpOk (Nat.le_refl _) I6.free) hn qn
  ·refine thn (T.item (cC X sc (bF own cap) (s2.heap.push { cls:=.type "list",data:=.seq ([]:List Value).toArray }).objs.size { s2 with heap:=s2.heap.push { cls:=.type "list",data:=.seq ([]:List Value).toArray },toks:=s2.toks } (upd H2 s2.heap.objs.size (.lst [])) fp) rfl rfl rfl hc i [] s5 σ5 H5 _ I5 (stat fr5) st5 go) fun r s6 ⟨u,hr,h6⟩=>?_
   subst hr
   refine thn h6 fun _ s7 ⟨x,H7,I7,r7,y7,st7,fr7⟩=>?_
   have I7':=I7.pinned (stat fr7) (T.obj _ _ st7)
   refine thn (hg _ _ _ _ _ s7 σ5 H7 x u _ I7' r7 (step x H7 y7)) fun _ s8 ⟨σ8,H8,I8,q8⟩=>?_
   refine thn (he _ _ _ _ _ s8 σ8 H8 _ I8 q8) fun v9 s9 ⟨y,H9,I9,r9,hD9,m',hm,w9⟩=>?_
   refine thn (sX _ s9 σ8 H9 (.ref s2.heap.objs.size) [y] (.ref s2.heap.objs.size) [v9] (fun _ H'=>H'=upd H9 s2.heap.objs.size (.lst (ys++[y]))) I9 rfl (.cons r9 .nil) ⟨_,ys,y,rfl,rfl,hD9,hlt,rfl⟩) fun _ s10 ⟨_,H10,I10,_,q10⟩=>?_
   subst q10
   refine ⟨m',hm,i+1,σ8,_,_,I10.unpinned,T.keep _ _ _ st7 fun b hb o q=>(I10.pin (b,o) (List.mem_append_right _ (List.mem_append_right _ (kI hb q)))).1,fun b hb=>?_,w9⟩
   obtain ⟨o,q,d⟩:=T.obj _ _ st7 b hb
   exact (I10.pin (b,o) (List.mem_append_right _ (List.mem_append_right _ (kI hb q)))).2.1
 exact codeAny_compStart_list loop (T.self _ 0 _ _ _ st4 loop)
theorem ahM (k:gB X sc own cap) (hi:PI X target iter wi) (hc:X.calm=true)
  (hg:∀ C s₀ H₀ ex,PG (cC X sc (bF own cap) C s₀ H₀ ex) target g) (he:∀ C s₀ H₀ ex,PE (cC X sc (bF own cap) C s₀ H₀ ex) elt te)
  (hs:∀ x,foldedSetIterable iter X.env x=pure x:=by intro _; rfl):PE X (.ListComp elt [⟨target,iter,[],0⟩] sc pos) (mE own cap wi g te):=by
 intro pins s σ H Q I h
 rw [eval_ListComp]
 refine ab9 (use:=none) k hi hc hg he I h (fun D C s' H' m I' fC hn q=>?_) hs
 refine ⟨m,hn,fun h' sb=>⟨.ref D,H',?_,rfl,q⟩⟩
 obtain ⟨f0,f1,f2,f3,f4,f5⟩:=fC
 exact I'.turned (t':=s'.toks) (fun b o hb e=>(sb.2 b hb).trans e) f0 f1 f3 f4 f5
theorem ahn {i:Nat} {x:Str} {py spos:Pos} (hN:X.N.Nodup) (hx:X.N[i]?=some x) (hl:Loc X.env.scope x) (k:gB X sc own cap) (hi:PI X target iter wi) (hc:X.calm=true)
  (hg:∀ C s₀ H₀ ex,PG (cC X sc (bF own cap) C s₀ H₀ ex) target g) (he:∀ C s₀ H₀ ex,PE (cC X sc (bF own cap) C s₀ H₀ ex) elt te)
  (hs:∀ x,foldedSetIterable iter X.env x=pure x:=by intro _; rfl) (hsw:swapsWith (.ListComp elt [⟨target,iter,[],0⟩] sc pos) (some (.Name x py)) spos.line X.env=pure true:=by rfl)
  (hf:X.fn x=true∨X.env.scope.names.lookup x=some .local:=by first | exact .inl rfl | exact .inr rfl | assumption) :
  PS X (.Assign [.Name x py] (.ListComp elt [⟨target,iter,[],0⟩] sc pos) spos) (vP (mE own cap wi g te) (vC i)):=by
 intro pins s σ H D I h
 rw [exec_Assign_Name_used _ _ _ _ hsw]
 refine wpAny_bind (wpAny_standAt (wpAny_bind ?_))
 show wpAny _ X.A (comprehension (.ListComp elt [⟨target,iter,[],0⟩] sc pos) sc X.env _ (newList []) false (eval iter X.env) (some (assign (.Name x py) X.env)) >>= fun _=>pure ()) _ _ s
 refine wpAny_bind (thn (ab9 (use:=some (assign (.Name x py) X.env)) (Qf:=fun _ s'=>SP X pins D .next s') k hi hc hg he I h (fun B C s' H' m I' fC hn q=>?_) hs) fun _ s' hq=>wpAny_pure (wpAny_pure hq))
 show wpAny _ _ (assign (.Name x py) X.env (.ref B)) _ _ s'
 obtain ⟨o,es,ep,ho,hd,r⟩:=hn
 obtain ⟨f0,f1,f2,f3,f4,f5⟩:=fC
 have I'':Inv X (pins++[(C,o)]) σ H' s':=I'.pins_of fun p hp=>(List.mem_append.mp hp).elim (fun z=>I'.pin p (List.mem_append_right _ z)) fun z=>by
  have e:p=(C,o):=by simpa using z
  subst e
  exact ⟨ho,f0,f1,f2,fun v z=>by rw [hd] at z; cases z⟩
 refine wpAny_assign_Name (lP I'' hN hx hl (v:=.ref B) rfl (fun s2 I2=>?_) hf)
 have pC:=I2.pin (C,o) (by simp)
 refine ⟨m,⟨o,es,ep,pC.1,hd,r⟩,fun h' sb=>⟨_,H',?_,q⟩⟩
 exact (I2.unpinned).turned (t':=s2.toks) (fun b o hb e=>(sb.2 b hb).trans e) f0 f1 f3 f4 f5
end
section
variable {X:Cx}
theorem nO (hc:X.calm=true):fS X (.builtin "all") (fun xs H Q=>∃ (a:Addr) (bs:List Bool),xs=[.ref a]∧SqL X.K H a (bs.map V.bl)∧Q (.bl (bs.all id)) H):=by
 intro pins s σ H xs us Q I r h
 obtain ⟨a,bs,rfl,hq,q⟩:=h
 obtain ⟨u,rfl,ru⟩:=gW r
 cases ru
 obtain ⟨its,rv,pl,hz⟩:=I.list hq
 have hl:bs.length=its.length:=by
  have:=rv.length
  rwa [List.length_map] at this
 refine call_all_walk (wpAny_pyIter_list pl.isList ?_)
 have ha:a < s.heap.objs.size:=by
  obtain ⟨o,ho,_⟩:=pl.isList
  exact Heap.lt_size ho
 refine ⟨_,_,_,_,_,_,fun i=>bs.getD i true,rfl,Walks.list (prog:=X.prog) (w:=X.w) (A:=X.A.in1) (show X.A.in1.handled=none from I.ok.hd hc) s.heap.objs.size a (Nat.ne_of_lt ha) its.toArray,⟨⟨_,Heap.get?_push_size _ rfl,rfl,rfl⟩,Heap.IsList.at pl.isList fun o e=>Heap.get?_push_of_some _ e⟩,fun i v s' Q' E' hv hQ=>?_,fun h' tk kp=>?_⟩
 ·have hv':its[i]?=some v:=by simpa using hv
  have hi:i < bs.length:=by
   have:=(List.getElem?_eq_some_iff.mp hv').1
   omega
  obtain ⟨u,hu,ru⟩:=rv.get (i:=i) (x:=.bl bs[i]) (by rw [List.getElem?_map,List.getElem?_eq_getElem hi]; rfl)
  rw [hv'] at hu
  cases hu
  cases (show v=Value.bool bs[i] from ru)
  have e:bs.getD i true=bs[i]:=by simp [List.getD,hi]
  have hQ':Q' (bs.getD i true) s':=hQ
  rw [e] at hQ'
  exact wpAny_truthy_bool hQ'
 ·have e:(List.range its.toArray.size).all (fun i=>bs.getD i true)=bs.all id:=by
   rw [List.size_toArray,← hl,Bool.eq_iff_iff,List.all_eq_true,List.all_eq_true]
   constructor
   ·intro z b hb
    obtain ⟨i,hi,rfl⟩:=List.mem_iff_getElem.mp hb
    have:=z i (by simpa using hi)
    simpa [List.getD,hi] using this
   ·intro z i hi
    have hi':i < bs.length:=by simpa using hi
    have:=z bs[i] (List.getElem_mem hi')
    simpa [List.getD,hi'] using this
  show EP X pins σ Q (.bool ((List.range its.toArray.size).all fun i=>bs.getD i true)) _
  rw [e]
  have I1:Inv X pins σ H { s with heap:=s.heap.push { cls:=.type "list_iterator",data:=.fields #[.ref a,.int 0 0] },toks:=s.toks }:=I.kept fun b o z=>Heap.get?_push_of_some _ z
  have fp:dR X pins H s.heap.objs.size:=I.fpOk (Nat.le_refl _) (I.hok.fresh (Nat.le_refl _))
  obtain ⟨f0,f1,f2,f3,f4,f5⟩:=fp
  exact ⟨.bl (bs.all id),H,I1.turned (fun b o hb z=>kp b o (by simpa using hb) z) f0 f1 f3 f4 f5,rfl,q⟩
end
end L2
namespace L2
open PySem Bn
section
variable {prog:Program} {w:World} {A:Around} {E:Value→Shared→Prop} {s:Shared}
theorem adj {it t:Addr} {i:Nat} {items:Array Value} {x:Value} {Q:Value→Shared→Prop} (git:s.heap.IsTupleIter it t i) (gt:s.heap.IsTuple t items) (gx:items[i]?=some x)
  (gQ:∀ h',h'.IsTupleIter it t (i+1)→Heap.SameBut it s.heap h'→Q x { s with heap:=h' }):wpAny (model prog w) A (Builtin.SmallTypes.nextOf (.ref it)) Q E s:=by
 obtain ⟨o,go,gc,gd⟩:=id git
 obtain ⟨ol,gol,_,nl,gdl⟩:=gt
 unfold Builtin.SmallTypes.nextOf
 refine wpAny_bind (wpAny_callSpecial?_slot (name:=Str.ofString "__next__") git.typeIs F.slot_tuple_iterator_next (wpAny_call_entry F.slot_tuple_iterator_next git.typeIs F.entry_tuple_iterator_next ?_ (F.args_tuple_iterator_next_1 _)))
 show wpAny _ _ (field (.ref it) 0 >>= _) _ _ s
 refine wpAny_bind (wpAny_field go gd (x:=.ref t) rfl ?_)
 show wpAny _ _ (if (Value.ref t == Value.none)=true then _ else _) _ _ s
 rw [if_neg (show ¬ ((Value.ref t == Value.none)=true) from Bool.false_ne_true)]
 show wpAny _ _ (field (.ref it) 1 >>= _) _ _ s
 refine wpAny_bind (wpAny_field go gd (x:=.int i 0) rfl ?_)
 show wpAny _ _ (seqItems? (.ref t) >>= _) _ _ s
 refine wpAny_bind (wpAny_seqItems gol gdl ?_)
 simp only [Int.toNat_natCast,gx]
 refine wpAny_bind (wpAny_setField go gd (by simp) (wpAny_pure ⟨_,rfl,wpAny_pure (gQ _ ?_ (Heap.SameBut.update ..))⟩))
 refine ⟨_,Heap.get?_update_self _ go (Obj.isFreed_of_fields (Obj.data_mapFields gd _)),(Obj.cls_mapFields ..).trans gc,?_⟩
 rw [Obj.data_mapFields gd]
 simp [rawInt]
theorem aa1 {it t:Addr} {i:Nat} {items:Array Value} {Q:Value→Shared→Prop} (hh:A.handled=none) (git:s.heap.IsTupleIter it t i) (gt:s.heap.IsTuple t items) (gx:items[i]?=none)
  (gE:∀ h' e,Heap.ExtBut it s.heap h'→(∃ o,h'.get? e=some o∧o.cls=.type "StopIteration")→E (.ref e) { s with heap:=h' }):wpAny (model prog w) A (Builtin.SmallTypes.nextOf (.ref it)) Q E s:=by
 obtain ⟨o,go,gc,gd⟩:=id git
 obtain ⟨ol,gol,_,nl,gdl⟩:=gt
 unfold Builtin.SmallTypes.nextOf
 refine wpAny_bind (wpAny_callSpecial?_slot (name:=Str.ofString "__next__") git.typeIs F.slot_tuple_iterator_next (wpAny_call_entry F.slot_tuple_iterator_next git.typeIs F.entry_tuple_iterator_next ?_ (F.args_tuple_iterator_next_1 _)))
 show wpAny _ _ (field (.ref it) 0 >>= _) _ _ s
 refine wpAny_bind (wpAny_field go gd (x:=.ref t) rfl ?_)
 show wpAny _ _ (if (Value.ref t == Value.none)=true then _ else _) _ _ s
 rw [if_neg (show ¬ ((Value.ref t == Value.none)=true) from Bool.false_ne_true)]
 show wpAny _ _ (field (.ref it) 1 >>= _) _ _ s
 refine wpAny_bind (wpAny_field go gd (x:=.int i 0) rfl ?_)
 show wpAny _ _ (seqItems? (.ref t) >>= _) _ _ s
 refine wpAny_bind (wpAny_seqItems gol gdl ?_)
 simp only [Int.toNat_natCast,gx]
 first
  | refine wpAny_bind (wpAny_rule (wpAny_bind (wpAny_setField go gd (by simp) (wpAny_bind (wpAny_letGo ?_)))))
  | refine wpAny_bind (wpAny_rule (wpAny_bind (wpAny_setField go gd (by simp) ?_)))
 show wpAny _ _ (newExc (.type "StopIteration") [] >>= _) _ _ _
 refine wpAny_bind ?_
 simp only [newExc,newTuple]
 refine wpAny_bind (wpAny_newObj_type ?_ (by size_fits))
 refine wpAny_bind (m:=firstArgMember _ _) (wpAny_of_eq (a:=Value.none) (by first | rfl | (simp only [firstArgMember]; rfl)) ?_)
 refine wpAny_newObj_type ?_ (by size_fits)
 simp only [raiseNew]
 refine wpAny_bind (wpAny_handled ?_)
 first
  | rw [show A.in1.handled=none from hh]
  | rw [hh]
 refine wpAny_bind (wpAny_pure (wpAny_throw ?_))
 exact gE _ _ (((Heap.SameBut.update ..).extBut.push _).push _) ⟨_,Heap.get?_push_size _ rfl,rfl⟩
end
theorem afV {prog:Program} {w:World} {A:Around} (hh:A.handled=none) (it t:Addr) (hne:t≠it) (items:Array Value) :
  Draws prog w A it [it,t] items.size (fun i v=>items[i]?=some v) (fun i h=>h.IsTupleIter it t i∧h.IsTuple t items) where
 live:=fun _ _ st=>let ⟨o,ho,_⟩:=st.1; ⟨o,ho⟩
 frame:=fun _ _ _ st hk=>⟨let ⟨o,ho,r⟩:=st.1; ⟨o,hk it (by simp) o ho,r⟩,let ⟨o,ho,r⟩:=st.2; ⟨o,hk t (by simp) o ho,r⟩⟩
 item:=fun i s Q E hi st hQ=>by
  refine adj st.1 st.2 (x:=items[i]) (by simp [hi]) fun h' hit' hs'=>?_
  exact hQ _ h' s.toks (by simp [hi]) ⟨hit',st.2.extBut hs'.extBut hne⟩ hs'
 done:=fun s Q E st hE=>aa1 hh st.1 st.2 (by simp) hE
structure ZAp (z TI TO i1 i2:Addr) (fp1 fp2:List Addr):Prop where
 tiz:TI≠z
 toz:TO≠z
 tito:TI≠TO
 ti1:TI≠i1
 ti2:TI≠i2
 z1:z ∉ fp1
 z2:z ∉ fp2
 to1:TO ∉ fp1
 to2:TO ∉ fp2
 i12:i1 ∉ fp2
 i21:i2 ∉ fp1
 m1:i1∈fp1
 m2:i2∈fp2
section
variable {prog:Program} {w:World} {A:Around} {E:Value→Shared→Prop} {s:Shared} {z TI TO i1 i2:Addr} {fp1 fp2:List Addr} {n1 n2 i:Nat} {P1 P2:Nat→Value→Prop} {S1 S2:Nat→Heap→Prop} {a b:Value}
theorem aeb {Q:Value→Shared→Prop} (D1:Draws prog w A i1 fp1 n1 P1 S1) (D2:Draws prog w A i2 fp2 n2 P2 S2) (ap:ZAp z TI TO i1 i2 fp1 fp2) (gz:IsZip s.heap z TI TO .none) (gTI:IsPair s.heap TI (.ref i1) (.ref i2)) (gTO:IsPair s.heap TO a b)
  (g1:S1 i s.heap) (g2:S2 i s.heap) (l1:i < n1) (l2:i < n2)
  (gQ:∀ h' tk x y,P1 i x→P2 i y→IsZip h' z TI TO (rawInt s.heap.objs.size)→IsPair h' TO x y→S1 (i+1) h'→S2 (i+1) h'→IsPair h' s.heap.objs.size x y →
   (∀ c o,c≠z→c≠TO→c≠i1→c≠i2→s.heap.get? c=some o→h'.get? c=some o)→Q (.ref s.heap.objs.size) { s with heap:=h',toks:=tk }) :
  wpAny (model prog w) A (Builtin.«zip.__next__» ⟨[.ref z],[]⟩) (fun fin s'=>∃ v,fin=.done (.ret v)∧Q v s') E s:=by
 have nz1:i1≠z:=fun q=>ap.z1 (q ▸ ap.m1)
 have nz2:i2≠z:=fun q=>ap.z2 (q ▸ ap.m2)
 have nt1:TO≠i1:=fun q=>ap.to1 (q ▸ ap.m1)
 have nt2:TO≠i2:=fun q=>ap.to2 (q ▸ ap.m2)
 show wpAny _ _ (field (.ref z) 2 >>= _) _ _ _
 refine wpAny_bind (wpAny_field gz rfl (x:=.bool false) rfl ?_)
 show wpAny _ _ (field (.ref z) 3 >>= _) _ _ _
 refine wpAny_bind (wpAny_field gz rfl (x:=.ref TI) rfl ?_)
 refine wpAny_bind (wpAny_seqItems gTI rfl ?_)
 show wpAny _ _ (Builtin.SmallTypes.ownedTupleIsFree (.ref z) >>= _) _ _ _
 refine wpAny_bind ?_
 unfold Builtin.SmallTypes.ownedTupleIsFree
 refine wpAny_bind (wpAny_field gz rfl (x:=.none) rfl (wpAny_pure ?_))
 simp only [if_true]
 refine wpAny_bind (wpAny_rule ?_)
 refine wpAny_bind (wpAny_field gz rfl (x:=.ref TO) rfl ?_)
 refine wpAny_bind (wpAny_setField_rec gz (by simp) fun h1 gz1 s1=>?_)
 replace gz1:IsZip h1 z TI TO .ellipsis:=gz1
 refine wpAny_bind ?_
 simp only [List.zipIdx_cons,List.zipIdx_nil,List.forIn_cons,List.forIn_nil]
 refine wpAny_bind (wpAny_bind (wpAny_onRaise ?_))
 show wpAny _ _ (Builtin.SmallTypes.nextOf (.ref i1) >>= _) _ _ _
 refine wpAny_bind (D1.item i _ _ _ l1 (D1.frame _ _ _ g1 fun c hc o q=>s1.extBut c o (fun e=>ap.z1 (e ▸ hc)) q) fun x h2 tk2 px g1' s2=>wpAny_pure ?_)
 have gTO2:IsPair h2 TO a b:=s2.extBut _ _ nt1 (s1.extBut _ _ ap.toz gTO)
 refine wpAny_bind (wpAny_seqItems gTO2 rfl ?_)
 refine wpAny_bind (wpAny_updateSeq_pair (s:={ s with heap:=h2,toks:=tk2 }) gTO2 fun h3 gTO3 s3=>?_)
 replace gTO3:IsPair h3 TO x b:=gTO3
 replace s3:Heap.SameBut TO h2 h3:=s3
 refine wpAny_bind (wpAny_letGo (wpAny_pure ?_))
 refine wpAny_bind (wpAny_bind (wpAny_onRaise ?_))
 show wpAny _ _ (Builtin.SmallTypes.nextOf (.ref i2) >>= _) _ _ _
 have g2':S2 i h3:=D2.frame _ _ _ g2 fun c hc o q=>s3.extBut c o (fun e=>ap.to2 (e ▸ hc)) (s2.extBut c o (fun e=>ap.i12 (e ▸ hc)) (s1.extBut c o (fun e=>ap.z2 (e ▸ hc)) q))
 refine wpAny_bind (D2.item i _ _ _ l2 g2' fun y h4 tk4 py g2'' s4=>wpAny_pure ?_)
 replace s4:Heap.SameBut i2 h3 h4:=s4
 have gTO4:IsPair h4 TO x b:=s4.extBut _ _ nt2 gTO3
 refine wpAny_bind (wpAny_seqItems gTO4 rfl ?_)
 refine wpAny_bind (wpAny_updateSeq_pair (s:={ s with heap:=h4,toks:=tk4 }) gTO4 fun h5 gTO5 s5=>?_)
 replace gTO5:IsPair h5 TO x y:=gTO5
 replace s5:Heap.SameBut TO h4 h5:=s5
 refine wpAny_bind (wpAny_letGo (wpAny_pure (wpAny_pure ?_)))
 refine wpAny_bind (wpAny_seqItems gTO5 rfl ?_)
 refine wpAny_bind (wpAny_newTuple ?_)
 have hsz:h5.objs.size=s.heap.objs.size:=by rw [s5.1,s4.1,s3.1,s2.1,s1.1]
 have gz5:IsZip h5 z TI TO .ellipsis:=s5.extBut _ _ ap.toz.symm (s4.extBut _ _ nz2.symm (s3.extBut _ _ ap.toz.symm (s2.extBut _ _ nz1.symm gz1)))
 have k5:∀ c o,c≠z→c≠TO→c≠i1→c≠i2→s.heap.get? c=some o→h5.get? c=some o:=fun c o c1 c2 c3 c4 q=>s5.extBut _ _ c2 (s4.extBut _ _ c4 (s3.extBut _ _ c2 (s2.extBut _ _ c3 (s1.extBut _ _ c1 q))))
 have g15:S1 (i+1) h5:=D1.frame _ _ _ g1' fun c hc o q=>s5.extBut c o (fun e=>ap.to1 (e ▸ hc)) (s4.extBut c o (fun e=>ap.i21 (e ▸ hc)) (s3.extBut c o (fun e=>ap.to1 (e ▸ hc)) q))
 have g25:S2 (i+1) h5:=D2.frame _ _ _ g2'' fun c hc o q=>s5.extBut c o (fun e=>ap.to2 (e ▸ hc)) q
 have zlt:z < h5.objs.size:=Heap.lt_size gz5
 show wpAny _ _ (Builtin.SmallTypes.ownedTupleHandOut (.ref z) (.ref h5.objs.size) >>= _) _ _ _
 refine wpAny_bind ?_
 unfold Builtin.SmallTypes.ownedTupleHandOut
 have gz6:IsZip (h5.push { cls:=.type "tuple",data:=.seq #[x,y] }) z TI TO .ellipsis:=Heap.get?_push_of_some _ gz5
 refine wpAny_bind (wpAny_setField_rec gz6 (by simp) fun h7 gz7 s7=>?_)
 replace gz7:IsZip h7 z TI TO (rawInt h5.objs.size):=gz7
 refine wpAny_setField_rec gz7 (by simp) fun h8 gz8 s8=>?_
 replace gz8:IsZip h8 z TI TO (rawInt h5.objs.size):=gz8
 have up:∀ c o,c≠z→h5.get? c=some o→h8.get? c=some o:=fun c o c1 q=>s8.extBut _ _ c1 (s7.extBut _ _ c1 (Heap.get?_push_of_some _ q))
 have gT8:IsPair h8 h5.objs.size x y:=s8.extBut _ _ (Nat.ne_of_gt zlt) (s7.extBut _ _ (Nat.ne_of_gt zlt) (Heap.get?_push_size _ rfl))
 rw [hsz] at gz8 gT8
 refine wpAny_pure ⟨_,rfl,?_⟩
 show Q (.ref h5.objs.size) _
 rw [hsz]
 exact gQ h8 _ x y px py gz8 (up _ _ ap.toz gTO5) (D1.frame _ _ _ g15 fun c hc o q=>up c o (fun e=>ap.z1 (e ▸ hc)) q) (D2.frame _ _ _ g25 fun c hc o q=>up c o (fun e=>ap.z2 (e ▸ hc)) q) gT8 fun c o c1 c2 c3 c4 q=>up c o c1 (k5 c o c1 c2 c3 c4 q)
theorem adP {Q:Fin→Shared→Prop} (D1:Draws prog w A i1 fp1 n1 P1 S1) (D2:Draws prog w A i2 fp2 n2 P2 S2) (ap:ZAp z TI TO i1 i2 fp1 fp2) (gz:IsZip s.heap z TI TO .none) (gTI:IsPair s.heap TI (.ref i1) (.ref i2)) (gTO:IsPair s.heap TO a b)
  (g1:S1 i s.heap) (g2:S2 i s.heap) (fin:i=n1∨(i < n1∧i=n2))
  (gE:∀ h' tk e,(∀ c o,c≠z→c≠TO→c≠i1→c≠i2→s.heap.get? c=some o→h'.get? c=some o)→(∃ o,h'.get? e=some o∧o.cls=.type "StopIteration")→E (.ref e) { s with heap:=h',toks:=tk }) :
  wpAny (model prog w) A (Builtin.«zip.__next__» ⟨[.ref z],[]⟩) Q E s:=by
 have nz1:i1≠z:=fun q=>ap.z1 (q ▸ ap.m1)
 have nz2:i2≠z:=fun q=>ap.z2 (q ▸ ap.m2)
 have nt1:TO≠i1:=fun q=>ap.to1 (q ▸ ap.m1)
 have nt2:TO≠i2:=fun q=>ap.to2 (q ▸ ap.m2)
 show wpAny _ _ (field (.ref z) 2 >>= _) _ _ _
 refine wpAny_bind (wpAny_field gz rfl (x:=.bool false) rfl ?_)
 show wpAny _ _ (field (.ref z) 3 >>= _) _ _ _
 refine wpAny_bind (wpAny_field gz rfl (x:=.ref TI) rfl ?_)
 refine wpAny_bind (wpAny_seqItems gTI rfl ?_)
 show wpAny _ _ (Builtin.SmallTypes.ownedTupleIsFree (.ref z) >>= _) _ _ _
 refine wpAny_bind ?_
 unfold Builtin.SmallTypes.ownedTupleIsFree
 refine wpAny_bind (wpAny_field gz rfl (x:=.none) rfl (wpAny_pure ?_))
 simp only [if_true]
 refine wpAny_bind (wpAny_rule ?_)
 refine wpAny_bind (wpAny_field gz rfl (x:=.ref TO) rfl ?_)
 refine wpAny_bind (wpAny_setField_rec gz (by simp) fun h1 gz1 s1=>?_)
 replace gz1:IsZip h1 z TI TO .ellipsis:=gz1
 refine wpAny_bind ?_
 simp only [List.zipIdx_cons,List.zipIdx_nil,List.forIn_cons,List.forIn_nil]
 refine wpAny_bind (wpAny_bind (wpAny_onRaise ?_))
 show wpAny _ _ (Builtin.SmallTypes.nextOf (.ref i1) >>= _) _ _ _
 have g1':S1 i h1:=D1.frame _ _ _ g1 fun c hc o q=>s1.extBut c o (fun e=>ap.z1 (e ▸ hc)) q
 rcases fin with e1 | ⟨l1,e2⟩
 ·subst e1
  refine wpAny_bind (D1.done _ _ _ g1' fun h2 e s2 he=>?_)
  obtain ⟨oe,hoe,hce⟩:=he
  have gz2:IsZip h2 z TI TO .ellipsis:=s2 _ _ nz1.symm gz1
  have hez:e≠z:=fun q=>by
   subst q
   rw [gz2] at hoe
   cases hoe
   simp at hce
  refine wpAny_setField_rec (s:={ s with heap:=h2 }) gz2 (by simp) fun h3 _ s3=>?_
  exact gE h3 _ e (fun c o c1 _ c3 _ q=>s3.extBut _ _ c1 (s2 _ _ c3 (s1.extBut _ _ c1 q))) ⟨oe,s3.extBut _ _ hez hoe,hce⟩
 ·subst e2
  refine wpAny_bind (D1.item i _ _ _ l1 g1' fun x h2 tk2 px g1'' s2=>wpAny_pure ?_)
  have gTO2:IsPair h2 TO a b:=s2.extBut _ _ nt1 (s1.extBut _ _ ap.toz gTO)
  refine wpAny_bind (wpAny_seqItems gTO2 rfl ?_)
  refine wpAny_bind (wpAny_updateSeq_pair (s:={ s with heap:=h2,toks:=tk2 }) gTO2 fun h3 gTO3 s3=>?_)
  replace s3:Heap.SameBut TO h2 h3:=s3
  refine wpAny_bind (wpAny_letGo (wpAny_pure ?_))
  refine wpAny_bind (wpAny_bind (wpAny_onRaise ?_))
  show wpAny _ _ (Builtin.SmallTypes.nextOf (.ref i2) >>= _) _ _ _
  have g2':S2 i h3:=D2.frame _ _ _ g2 fun c hc o q=>s3.extBut c o (fun e=>ap.to2 (e ▸ hc)) (s2.extBut c o (fun e=>ap.i12 (e ▸ hc)) (s1.extBut c o (fun e=>ap.z2 (e ▸ hc)) q))
  refine wpAny_bind (D2.done _ _ _ g2' fun h4 e s4 he=>?_)
  replace s4:Heap.ExtBut i2 h3 h4:=s4
  obtain ⟨oe,hoe,hce⟩:=he
  have gz4:IsZip h4 z TI TO .ellipsis:=s4 _ _ nz2.symm (s3.extBut _ _ ap.toz.symm (s2.extBut _ _ nz1.symm gz1))
  have hez:e≠z:=fun q=>by
   subst q
   rw [gz4] at hoe
   cases hoe
   simp at hce
  refine wpAny_setField_rec (s:={ s with heap:=h4,toks:=tk2 }) gz4 (by simp) fun h5 _ s5=>?_
  exact gE h5 _ e (fun c o c1 c2 c3 c4 q=>s5.extBut _ _ c1 (s4 _ _ c4 (s3.extBut _ _ c2 (s2.extBut _ _ c3 (s1.extBut _ _ c1 q))))) ⟨oe,s5.extBut _ _ hez hoe,hce⟩
theorem acw {Q:Option Value→Shared→Prop} (D1:Draws prog w A.in1 i1 fp1 n1 P1 S1) (D2:Draws prog w A.in1 i2 fp2 n2 P2 S2) (ap:ZAp z TI TO i1 i2 fp1 fp2) (gz:IsZip s.heap z TI TO .none) (gTI:IsPair s.heap TI (.ref i1) (.ref i2)) (gTO:IsPair s.heap TO a b)
  (g1:S1 i s.heap) (g2:S2 i s.heap) (l1:i < n1) (l2:i < n2)
  (gQ:∀ h' tk x y,P1 i x→P2 i y→IsZip h' z TI TO (rawInt s.heap.objs.size)→IsPair h' TO x y→S1 (i+1) h'→S2 (i+1) h'→IsPair h' s.heap.objs.size x y →
   (∀ c o,c≠z→c≠TO→c≠i1→c≠i2→s.heap.get? c=some o→h'.get? c=some o)→Q (some (.ref s.heap.objs.size)) { s with heap:=h',toks:=tk }) :
  wpAny (model prog w) A (pyNext (.ref z)) Q E s:=by
 have gT:s.TypeIs (.ref z) "zip":=⟨_,gz,rfl⟩
 unfold pyNext
 refine wpAny_bind (wpAny_attempt (wpAny_callSpecial?_slot (name:=Str.ofString "__next__") gT F.slot_zip_next (wpAny_call_entry F.slot_zip_next gT F.entry_zip_next ?_ (F.args_zip_next_1 _))))
 exact aeb D1 D2 ap gz gTI gTO g1 g2 l1 l2 fun h' tk x y p1 p2 e1 e2 e3 e4 e5 e6=>wpAny_pure (gQ h' tk x y p1 p2 e1 e2 e3 e4 e5 e6)
theorem aaK {Q:Option Value→Shared→Prop} (D1:Draws prog w A.in1 i1 fp1 n1 P1 S1) (D2:Draws prog w A.in1 i2 fp2 n2 P2 S2) (ap:ZAp z TI TO i1 i2 fp1 fp2) (gz:IsZip s.heap z TI TO .none) (gTI:IsPair s.heap TI (.ref i1) (.ref i2)) (gTO:IsPair s.heap TO a b)
  (g1:S1 i s.heap) (g2:S2 i s.heap) (fin:i=n1∨(i < n1∧i=n2))
  (gQ:∀ h' tk,(∀ c o,c≠z→c≠TO→c≠i1→c≠i2→s.heap.get? c=some o→h'.get? c=some o)→Q none { s with heap:=h',toks:=tk }):wpAny (model prog w) A (pyNext (.ref z)) Q E s:=by
 have gT:s.TypeIs (.ref z) "zip":=⟨_,gz,rfl⟩
 unfold pyNext
 refine wpAny_bind (wpAny_attempt (wpAny_callSpecial?_slot (name:=Str.ofString "__next__") gT F.slot_zip_next (wpAny_call_entry F.slot_zip_next gT F.entry_zip_next ?_ (F.args_zip_next_1 _))))
 refine adP D1 D2 ap gz gTI gTO g1 g2 fin fun h' tk e hk he=>?_
 obtain ⟨o,ho,hc⟩:=he
 refine wpAny_bind (wpAny_isInstance (T:="StopIteration") (b:=true) ⟨o,ho,hc⟩ isSubtype_stop ?_)
 exact wpAny_pure (gQ _ _ hk)
end
end L2
namespace L2
open PySem Bn
abbrev vM (h:Heap) (o1:Obj):Heap:=h.push o1
abbrev vS (h:Heap) (o1 o2:Obj):Heap:=(vM h o1).push o2
abbrev vY (h:Heap) (o1 o2:Obj):Heap:=(vS h o1 o2).push { cls:=.type "tuple",data:=.seq #[.ref h.objs.size,.ref (vM h o1).objs.size] }
abbrev vX (h:Heap) (o1 o2:Obj):Heap:=(vY h o1 o2).push { cls:=.type "tuple",data:=.seq #[.none,.none] }
abbrev pG (h:Heap) (o1 o2:Obj):Heap:=(vX h o1 o2).push { cls:=.type "zip",data:=.fields #[.none,.bool false,.bool false,.ref (vS h o1 o2).objs.size,.ref (vY h o1 o2).objs.size] }
def rH (l:Addr) (o:Obj) (G:Heap→Prop):Prop :=
 ∀ (prog:Program) (w:World) (A:Around) (E:Value→Shared→Prop) (s:Shared) (Q:Value→Shared→Prop),G s.heap→Q (.ref s.heap.objs.size) { s with heap:=s.heap.push o }→wpAny (model prog w) A (pyIter (.ref l)) Q E s
theorem adS (l1 l2:Addr) (o1 o2:Obj) (G1 G2:Heap→Prop) (p1:rH l1 o1 G1) (p2:rH l2 o2 G2) (k2:∀ h,G2 h→G2 (h.push o1)) :
  Meets (Builtin.«zip.__new__» ⟨[.type "zip",.ref l1,.ref l2],[]⟩) (fun _ R s=>G1 s.heap∧G2 s.heap∧R (.ok (.ret (.ref (vX s.heap o1 o2).objs.size))) { s with heap:=pG s.heap o1 o2 }) :=
 .of_wp fun prog w A R s h=>by
  obtain ⟨hp,g,d,tk,os⟩:=s
  obtain ⟨g1,g2,h⟩:=h
  have hsub:=sub_zip
  have q1:=fun (A':Around) (E':Value→Shared→Prop) (Q':Value→Shared→Prop)=>p1 prog w A' E' ⟨hp,g,d,tk,os⟩ Q' g1
  have q2:=fun (A':Around) (E':Value→Shared→Prop) (Q':Value→Shared→Prop)=>p2 prog w A' E' ⟨hp.push o1,g,d,tk,os⟩ Q' (k2 _ g2)
  wp_walk using q1 _ _ _,q2 _ _ _
  exact ⟨_,rfl,h⟩
theorem abW {prog:Program} {w:World} {A:Around} {E:Value→Shared→Prop} {s:Shared} {l1 l2:Addr} {o1 o2:Obj} {G1 G2:Heap→Prop} {Q:Value→Shared→Prop} (p1:rH l1 o1 G1) (p2:rH l2 o2 G2) (k2:∀ h,G2 h→G2 (h.push o1)) (g1:G1 s.heap) (g2:G2 s.heap)
  (f1:o1.isFreed=false) (f2:o2.isFreed=false)
  (h:∀ h',IsZip h' (s.heap.objs.size+4) (s.heap.objs.size+2) (s.heap.objs.size+3) .none→IsPair h' (s.heap.objs.size+2) (.ref s.heap.objs.size) (.ref (s.heap.objs.size+1))→IsPair h' (s.heap.objs.size+3) .none .none →
   h'.get? s.heap.objs.size=some o1→h'.get? (s.heap.objs.size+1)=some o2→(∀ c o,s.heap.get? c=some o→h'.get? c=some o)→Q (.ref (s.heap.objs.size+4)) { s with heap:=h' }) :
  wpAny (model prog w) A (call (.type "zip") [.ref l1,.ref l2]) Q E s:=by
 refine callType_new F.called_zip (by decide) (F.typeCall_zip_2 _ _) (F.newCall_zip_2 _ _) (fun obj=>F.args_object_init_3 obj _ _) F.entry_zip_new (adS l1 l2 o1 o2 G1 G2 p1 p2 k2) ⟨g1,g2,?_⟩
 have e1:(vM s.heap o1).objs.size=s.heap.objs.size+1:=Heap.size_push ..
 have e2:(vS s.heap o1 o2).objs.size=s.heap.objs.size+2:=by rw [Heap.size_push,e1]
 have e3:(vY s.heap o1 o2).objs.size=s.heap.objs.size+3:=by rw [Heap.size_push,e2]
 have e4:(vX s.heap o1 o2).objs.size=s.heap.objs.size+4:=by rw [Heap.size_push,e3]
 have r5:(pG s.heap o1 o2).get? (vX s.heap o1 o2).objs.size=some _:=Heap.get?_push_size _ rfl
 have r4:(pG s.heap o1 o2).get? (vY s.heap o1 o2).objs.size=some _:=Heap.get?_push_of_some _ (Heap.get?_push_size _ rfl)
 have r3:(pG s.heap o1 o2).get? (vS s.heap o1 o2).objs.size=some _:=Heap.get?_push_of_some _ (Heap.get?_push_of_some _ (Heap.get?_push_size _ rfl))
 have r2:(pG s.heap o1 o2).get? (vM s.heap o1).objs.size=some o2:=Heap.get?_push_of_some _ (Heap.get?_push_of_some _ (Heap.get?_push_of_some _ (Heap.get?_push_size _ f2)))
 have r1:(pG s.heap o1 o2).get? s.heap.objs.size=some o1:=Heap.get?_push_of_some _ (Heap.get?_push_of_some _ (Heap.get?_push_of_some _ (Heap.get?_push_of_some _ (Heap.get?_push_size _ f1))))
 show _∧_
 rw [e2,e3,e4] at r5
 rw [e1,e2] at r3
 rw [e3] at r4
 rw [e1] at r2
 rw [e4]
 exact ⟨⟨_,r5,rfl⟩,h _ r5 r3 r4 r1 r2 fun c o q=>Heap.get?_push_of_some _ (Heap.get?_push_of_some _ (Heap.get?_push_of_some _ (Heap.get?_push_of_some _ (Heap.get?_push_of_some _ q))))⟩
end L2
namespace L2
open PySem PySem.Spec PyProof.Rows Bn
def SqF (f:Bool) (K:PySem.W.Frag) (H:Hp) (a:Addr) (xs:List V):Prop:=match f with
 | true=>SqT K H a xs
 | false=>SqL K H a xs
def ItF (f:Bool) (it a:Addr) (i:Nat) (h:Heap):Prop:=match f with
 | true=>h.IsTupleIter it a i
 | false=>h.IsListIter it a i
def pF (f:Bool) (a:Addr) (items:Array Value) (h:Heap):Prop:=match f with
 | true=>h.IsTuple a items
 | false=>h.IsList a items
def ItO (f:Bool) (a:Addr):Obj:=match f with
 | true=>{ cls:=.type "tuple_iterator",data:=.fields #[.ref a,.int 0 0] }
 | false=>{ cls:=.type "list_iterator",data:=.fields #[.ref a,.int 0 0] }
section
variable {X:Cx} {pins:List (Addr × Obj)} {σ:St} {H:Hp} {s:Shared} {a:Addr} {xs ys:List V} {f:Bool}
theorem Inv.seqF (I:Inv X pins σ H s) (h:SqF f X.K H a xs):∃ its:List Value,bC xs its∧pF f a its.toArray s.heap∧xs.length≤sizeLine:=by
 cases f with
 | true =>
  obtain ⟨its,r,p,z⟩:=I.tuple h
  exact ⟨its,r,p,z⟩
 | false =>
  obtain ⟨its,r,p,z⟩:=I.list h
  exact ⟨its,r,p.isList,z⟩
theorem Inv.seqF_inj (I:Inv X pins σ H s) (h:SqF f X.K H a xs) (h':SqF f X.K H a ys):xs=ys:=by
 cases f with
 | true=>exact I.tuple_inj h h'
 | false=>exact I.list_inj h h'
theorem Inv.apart {b:Addr} (I:Inv X pins σ H s) (fb:dR X pins H b) (h:SqF f X.K H a xs):a≠b:=by
 have viaK:∀ {o:Obj},X.K.lookup a=some o→a≠b:=fun {o} q e=>by
  have hb:X.base.get? b=some o:=e ▸ I.ok.mod.kin a o q
  rcases fb.2.2.2.1 with z | z
  ·exact I.ok.noex b o hb z
  ·exact absurd (Nat.lt_of_lt_of_le (Heap.lt_size (I.ok.bs b o hb).1) z) (Nat.lt_irrefl _)
 cases f with
 | true =>
  rcases h with (h | ⟨o,h⟩) | ⟨o,_,_,q,_⟩
  ·exact fD h fb.1
  ·exact fD h fb.1
  ·exact viaK q
 | false =>
  rcases h with (h | ⟨o,h⟩) | ⟨o,_,_,q,_⟩
  ·exact fD h fb.1
  ·exact fD h fb.1
  ·exact viaK q
end
theorem tV {prog:Program} {w:World} {A:Around} (f:Bool) (hh:A.handled=none) (it a:Addr) (hne:a≠it) (items:Array Value) :
  Draws prog w A it [it,a] items.size (fun i v=>items[i]?=some v) (fun i h=>ItF f it a i h∧pF f a items h):=by
 cases f with
 | true=>exact afV hh it a hne items
 | false=>exact Draws.list hh it a hne items
theorem ajg (f:Bool) (a:Addr) (items:Array Value):rH a (ItO f a) (pF f a items):=by
 cases f with
 | true=>exact fun prog w A E s Q g q=>wpAny_pyIter_tuple g q
 | false=>exact fun prog w A E s Q g q=>wpAny_pyIter_list g q
theorem ItF.keep {f:Bool} {it a:Addr} {i:Nat} {h h':Heap} (x:ItF f it a i h) (k:∀ o,h.get? it=some o→h'.get? it=some o):ItF f it a i h':=by
 cases f with
 | true=>obtain ⟨o,e,r⟩:=x; exact ⟨o,k o e,r⟩
 | false=>obtain ⟨o,e,r⟩:=x; exact ⟨o,k o e,r⟩
theorem pF.keep {f:Bool} {a:Addr} {items:Array Value} {h h':Heap} (x:pF f a items h) (k:∀ o,h.get? a=some o→h'.get? a=some o):pF f a items h':=by
 cases f with
 | true=>obtain ⟨o,e,r⟩:=x; exact ⟨o,k o e,r⟩
 | false=>obtain ⟨o,e,r⟩:=x; exact ⟨o,k o e,r⟩
theorem ItF.obj {f:Bool} {it a:Addr} {i:Nat} {h:Heap} (x:ItF f it a i h):∃ o,h.get? it=some o∧∀ v,o.data≠.cell v:=by
 cases f with
 | true=>obtain ⟨o,e,_,d⟩:=x; exact ⟨o,e,fun v z=>by rw [d] at z; cases z⟩
 | false=>obtain ⟨o,e,_,d⟩:=x; exact ⟨o,e,fun v z=>by rw [d] at z; cases z⟩
theorem abZ (f:Bool) (a it:Addr) {h:Heap} (e:h.get? it=some (ItO f a)):ItF f it a 0 h:=by
 cases f with
 | true=>exact ⟨_,e,rfl,rfl⟩
 | false=>exact ⟨_,e,rfl,rfl⟩
theorem acY (f:Bool) (a:Addr):(ItO f a).isFreed=false:=by cases f <;> rfl
def Itz (K : PySem.W.Frag) (f1 : Bool) (a : Addr) (f2 : Bool) (b : Addr) : It :=
  ⟨fun i H => ∃ xs ys x y, SqF f1 K H a xs ∧ SqF f2 K H b ys ∧ xs[i]? = some x ∧ ys[i]? = some y,
   fun i H v H' => ∃ p x y, H p = none ∧ v = .ref p ∧ H' = upd H p (.tup [x, y]) ∧ (∀ xs, SqF f1 K H a xs → xs[i]? = some x) ∧ ∀ ys, SqF f2 K H b ys → ys[i]? = some y,
   fun i H => ∃ xs ys, SqF f1 K H a xs ∧ SqF f2 K H b ys ∧ (i = xs.length ∨ (i < xs.length ∧ i = ys.length))⟩
structure vR (z TI TO i1 i2:Addr):Prop where
 tiz:TI≠z
 toz:TO≠z
 i1z:i1≠z
 i2z:i2≠z
 tito:TI≠TO
 ti1:TI≠i1
 ti2:TI≠i2
 to1:TO≠i1
 to2:TO≠i2
 i12:i1≠i2
theorem vR.ap {z TI TO i1 i2 a b:Addr} (r:vR z TI TO i1 i2) (h:∀ c∈[z,TI,TO,i1,i2],a≠c) (g:∀ c∈[z,TI,TO,i1,i2],b≠c):ZAp z TI TO i1 i2 [i1,a] [i2,b] where
 tiz:=r.tiz
 toz:=r.toz
 tito:=r.tito
 ti1:=r.ti1
 ti2:=r.ti2
 z1:=fun q=>by simp at q; rcases q with q | q; exact r.i1z q.symm; exact h z (by simp) q.symm
 z2:=fun q=>by simp at q; rcases q with q | q; exact r.i2z q.symm; exact g z (by simp) q.symm
 to1:=fun q=>by simp at q; rcases q with q | q; exact r.to1 q; exact h TO (by simp) q.symm
 to2:=fun q=>by simp at q; rcases q with q | q; exact r.to2 q; exact g TO (by simp) q.symm
 i12:=fun q=>by simp at q; rcases q with q | q; exact r.i12 q; exact g i1 (by simp) q.symm
 i21:=fun q=>by simp at q; rcases q with q | q; exact r.i12 q.symm; exact h i2 (by simp) q.symm
 m1:=by simp
 m2:=by simp
theorem afm {P:Program} {w:World} {K:PySem.W.Frag} {elts:List Expr} {x1:Nat} {tp:Pos} (f1 f2:Bool) (a b z TI TO i1 i2:Addr) (zr:vR z TI TO i1 i2) :
  mL P w K (.Tuple elts x1 tp) (Itz K f1 a f2 b) [z,TI,TO,i1,i2] z (fun i h=>IsZip h z TI TO .none∧IsPair h TI (.ref i1) (.ref i2)∧(∃ u v,IsPair h TO u v)∧ItF f1 i1 a i h∧ItF f2 i2 b i h) where
 mem:=by simp
 obj:=fun i h st c hc=>by
  obtain ⟨e1,e2,⟨u,v,e3⟩,e4,e5⟩:=st
  simp at hc
  rcases hc with q | q | q | q | q
  ·subst q
   exact ⟨_,e1,fun v z=>nomatch z⟩
  ·subst q
   exact ⟨_,e2,fun v z=>nomatch z⟩
  ·subst q
   exact ⟨_,e3,fun v z=>nomatch z⟩
  ·subst q
   exact e4.obj
  ·subst q
   exact e5.obj
 keep:=fun i h h' st k=>by
  obtain ⟨e1,e2,⟨u,v,e3⟩,e4,e5⟩:=st
  exact ⟨k z (by simp) _ e1,k TI (by simp) _ e2,⟨u,v,k TO (by simp) _ e3⟩,e4.keep fun o q=>k i1 (by simp) o q,e5.keep fun o q=>k i2 (by simp) o q⟩
 item:=by
  intro X hP hw hK hc i pins s σ H E I hf st hg
  subst hP hw hK
  obtain ⟨xs,ys,x,y,hx,hy,ex,ey⟩:=hg
  obtain ⟨its,r1,p1,_⟩:=I.seqF hx
  obtain ⟨jts,r2,p2,_⟩:=I.seqF hy
  obtain ⟨ux,gx,rx⟩:=r1.get ex
  obtain ⟨uy,gy,ry⟩:=r2.get ey
  obtain ⟨e1,e2,⟨u,v,e3⟩,e4,e5⟩:=st
  have na:∀ c∈[z,TI,TO,i1,i2],a≠c:=fun c hc=>I.apart (hf c hc) hx
  have nb:∀ c∈[z,TI,TO,i1,i2],b≠c:=fun c hc=>I.apart (hf c hc) hy
  have hd:X.A.in1.handled=none:=I.ok.hd hc
  have D1:=tV (prog:=X.prog) (w:=X.w) f1 hd i1 a (na i1 (by simp)) its.toArray
  have D2:=tV (prog:=X.prog) (w:=X.w) f2 hd i2 b (nb i2 (by simp)) jts.toArray
  refine acw D1 D2 (zr.ap na nb) e1 e2 e3 ⟨e4,p1⟩ ⟨e5,p2⟩ (List.getElem?_eq_some_iff.mp gx).1 (List.getElem?_eq_some_iff.mp gy).1 fun h1 tk vx vy px py q1 q2 q3 q4 q5 k1=>⟨_,rfl,?_⟩
  have ex':vx=ux:=by
   have:its[i]?=some vx:=by simpa using px
   rw [gx] at this
   exact (Option.some.inj this).symm
  have ey':vy=uy:=by
   have:jts[i]?=some vy:=by simpa using py
   rw [gy] at this
   exact (Option.some.inj this).symm
  subst ex' ey'
  have lt:∀ c∈[z,TI,TO,i1,i2],c≠s.heap.objs.size:=fun c hc=>by
   have:∃ o,s.heap.get? c=some o:=by
    simp at hc
    rcases hc with q | q | q | q | q
    ·exact ⟨_,q ▸ e1⟩
    ·exact ⟨_,q ▸ e2⟩
    ·exact ⟨_,q ▸ e3⟩
    ·obtain ⟨o,ho,_⟩:=e4.obj
     exact ⟨o,q ▸ ho⟩
    ·obtain ⟨o,ho,_⟩:=e5.obj
     exact ⟨o,q ▸ ho⟩
   obtain ⟨o,ho⟩:=this
   exact Nat.ne_of_lt (Heap.lt_size ho)
  refine wpAny_letOwnedTupleGo_zip (s:={ s with heap:=h1,toks:=tk }) q1 fun h2 z2 sb2=>?_
  have t2:h2.get? s.heap.objs.size=some { cls:=.type "tuple",data:=.seq #[vx,vy] }:=(sb2.2 _ (lt z (by simp)).symm).trans q5
  have I2:Inv X pins σ (upd H s.heap.objs.size (.tup [x,y])) { s with heap:=h2,toks:=tk } :=
   I.turnedNew hf (fun c o hc q=>(sb2.2 c (fun e=>hc (by simp [e]))).trans (k1 c o (fun e=>hc (by simp [e])) (fun e=>hc (by simp [e])) (fun e=>hc (by simp [e])) (fun e=>hc (by simp [e])) q)) (Nat.le_refl _)
    ⟨by show 2≤sizeLine; decide,[vx,vy],.cons rx (.cons ry .nil),⟨_,t2,rfl,_,rfl⟩⟩
  refine ⟨.ref s.heap.objs.size,_,I2,rfl,⟨_,x,y,I.hok.fresh (Nat.le_refl _),rfl,rfl,fun zs hz=>by rw [I.seqF_inj hz hx]; exact ex,fun zs hz=>by rw [I.seqF_inj hz hy]; exact ey⟩,
   ⟨z2,(sb2.2 _ zr.tiz).trans (k1 _ _ zr.tiz zr.tito zr.ti1 zr.ti2 e2),⟨_,_,(sb2.2 _ zr.toz).trans q2⟩,q3.1.keep fun o q=>(sb2.2 _ zr.i1z).trans q,q4.1.keep fun o q=>(sb2.2 _ zr.i2z).trans q⟩,fun c hc=>?_⟩
  rw [cD (lt c hc)]
  exact (hf c hc).1
 done:=by
  intro X hP hw hK hc i pins s σ H E I hf st hg
  subst hP hw hK
  obtain ⟨xs,ys,hx,hy,fin⟩:=hg
  obtain ⟨its,r1,p1,_⟩:=I.seqF hx
  obtain ⟨jts,r2,p2,_⟩:=I.seqF hy
  have l1:=r1.length
  have l2:=r2.length
  obtain ⟨e1,e2,⟨u,v,e3⟩,e4,e5⟩:=st
  have na:∀ c∈[z,TI,TO,i1,i2],a≠c:=fun c hc=>I.apart (hf c hc) hx
  have nb:∀ c∈[z,TI,TO,i1,i2],b≠c:=fun c hc=>I.apart (hf c hc) hy
  have hd:X.A.in1.handled=none:=I.ok.hd hc
  have D1:=tV (prog:=X.prog) (w:=X.w) f1 hd i1 a (na i1 (by simp)) its.toArray
  have D2:=tV (prog:=X.prog) (w:=X.w) f2 hd i2 b (nb i2 (by simp)) jts.toArray
  refine aaK D1 D2 (zr.ap na nb) e1 e2 e3 ⟨e4,p1⟩ ⟨e5,p2⟩ (by rw [List.size_toArray,List.size_toArray,← l1,← l2]; exact fin) fun h' tk k=>⟨rfl,?_⟩
  exact I.turnedL hf fun c o hc q=>k c o (fun e=>hc (by simp [e])) (fun e=>hc (by simp [e])) (fun e=>hc (by simp [e])) (fun e=>hc (by simp [e])) q
 self:=fun _ _ _ _ _ st h=>wpAny_pyIter_zip st.1 h
section
variable {X:Cx} {elts:List Expr} {x1:Nat} {tp:Pos}
def alh (K:PySem.W.Frag) (tl:TA):TI:=fun σ H R=>tl σ H fun vs H1=>∃ f1 a f2 b xs ys,vs=[.ref a,.ref b]∧SqF f1 K H1 a xs∧SqF f2 K H1 b ys∧R (Itz K f1 a f2 b) H1
theorem ajk {l r:Expr} {tl:TA} {p pos:Pos} (hg:Gl X "zip") (hm:X.mg "zip"=none) (hl:PA X [l,r] tl) (hs:starEach [l,r] X.env=[(false,eval l X.env),(false,eval r X.env)]:=by rfl) (hs2:starEach [r] X.env=[(false,eval r X.env)]:=by rfl) :
  PI X (.Tuple elts x1 tp) (.Call (.Name "zip" p) [l,r] [] pos) (alh X.K tl):=by
 intro pins s σ H R I h
 refine Call_ (oM I hg hm boot_zip (PyProof.Rows.callWith_type1 (thn (hl pos pins s σ H _ I h) fun us s1 ⟨vs,H1,I1,r1,q1⟩=>?_) (by rw [hs,hs2]) (by rw [hs2]; rfl)))
 obtain ⟨f1,a,f2,b,xs,ys,rfl,hx,hy,q⟩:=q1
 obtain ⟨u,v,rfl,ru,rv⟩:=agJ r1
 cases ru
 cases rv
 obtain ⟨its,_,p1,_⟩:=I1.seqF hx
 obtain ⟨jts,_,p2,_⟩:=I1.seqF hy
 refine abW (ajg f1 a its.toArray) (ajg f2 b jts.toArray) (fun h g=>g.keep fun o z=>Heap.get?_push_of_some _ z) p1 p2 (acY _ _) (acY _ _) fun h' e1 e2 e3 e4 e5 k=>?_
 refine wpAny_pyIter_zip (s:={ s1 with heap:=h' }) e1 ?_
 have zr:vR (s1.heap.objs.size+4) (s1.heap.objs.size+2) (s1.heap.objs.size+3) s1.heap.objs.size (s1.heap.objs.size+1):=by
  generalize s1.heap.objs.size=n
  have g:∀ i j:Nat,i≠j→((n:Nat)+i:Nat)≠n+j:=fun i j h=>by omega
  exact ⟨g 2 4 (by decide),g 3 4 (by decide),g 0 4 (by decide),g 1 4 (by decide),g 2 3 (by decide),g 2 0 (by decide),g 2 1 (by decide),g 3 0 (by decide),g 3 1 (by decide),g 0 1 (by decide)⟩
 refine ⟨_,[s1.heap.objs.size+4,s1.heap.objs.size+2,s1.heap.objs.size+3,s1.heap.objs.size,s1.heap.objs.size+1],_,_,H1,rfl,I1.kept (t':=s1.toks) k,afm f1 f2 a b _ _ _ _ _ zr,⟨e1,e2,⟨_,_,e3⟩,abZ f1 a _ e4,abZ f2 b _ e5⟩,fun c hc=>?_,q⟩
 have hb:s1.heap.objs.size≤c:=by
  simp only [List.mem_cons,List.not_mem_nil,or_false] at hc
  rcases hc with q | q | q | q | q
  all_goals rw [q]
  all_goals first | exact Nat.le_refl _ | exact Nat.le_add_right _ _
 exact I1.fpOk hb (I1.hok.fresh hb)
end
end L2
namespace L2
open PySem PySem.Spec PyProof.Rows Bn
theorem ajr (K:PySem.W.Frag):PySem.W.kitOne K (.type "int") (.type "bool")=some false:=by
 unfold PySem.W.kitOne PySem.W.kitCls
 rw [if_neg (by decide)]
 show (if PySem.W.kitMeta "bool"=true then PySem.W.subIn K (.type "int") (.type "bool") else none)=some false
 rw [if_pos (by decide +kernel)]
 show (fastBuiltinMro "int").map (·.contains (.type "bool"))=some false
 decide +kernel
structure lG (K:PySem.W.Frag) (x qual:Str) (st:Stmt) (f:Addr) (fd:FuncData) (ds:Array Value):Prop where
 ex:∃ (oc:Value) (od:Option Addr) (T:Addr) (oT:Obj) (n:Nat) (kV doc pm:Value) (an:Option Addr) (cdv ct:Value) (osl:Array (Option Value)),
  fd=PySem.W.fnOf x qual (gK st) (eT st) (aX st) (.ref T) kV doc pm an cdv ct∧K.lookup f=some ⟨oc,od,.func fd,osl⟩∧PySem.W.codeIn K cdv qual=true∧K.lookup T=some oT∧oT.data=.seq ds n
 kp:PySem.W.keepIn K (.ref f)=true
section
variable {P:Program} {w:World} {K:PySem.W.Frag} {mg:Str→Option Value} {base:Heap}
theorem lG.binds {x qual:Str} {st:Stmt} {f:Addr} {fd:FuncData} {ds:Array Value} {ps:List Str} {dd:List Value} (F:lG K x qual st f fd ds)
  (h:∀ (T:Addr) (kV doc pm:Value) (an:Option Addr) (cdv ct:Value) (us:List Value),(us++dd).length=ps.length →
   ∃ k,bindArgs (PySem.W.fnOf x qual (gK st) (eT st) (aX st) (.ref T) kV doc pm an cdv ct) ⟨us,[]⟩=seqItems? (.ref T) >>= k∧k (some ds)=pure (ps.zip (us++dd))):cU K fd ps dd:=by
 obtain ⟨oc,od,T,oT,n,kV,doc,pm,an,cdv,ct,osl,rfl,lk,hcd,lT,hT⟩:=F.ex
 intro s us hK hl
 obtain ⟨k,h1,h2⟩:=h T kV doc pm an cdv ct us hl
 exact PySem.W.binds_K hK rfl lT hT h1 h2
theorem aea {x qual:Str} {st:Stmt} {f T:Addr} {oT:Obj} {n:Nat} {ds:Array Value} {oc:Value} {od an:Option Addr} {osl:Array (Option Value)} {kV doc pm cdv ct:Value} (l:K.lookup f=some ⟨oc,od,.func (PySem.W.fnOf x qual (gK st) (eT st) (aX st) (.ref T) kV doc pm an cdv ct),osl⟩)
  (c:PySem.W.codeIn K cdv qual=true) (k:PySem.W.keepIn K (.ref f)=true) (lT:K.lookup T=some oT) (hT:oT.data=.seq ds n):lG K x qual st f (PySem.W.fnOf x qual (gK st) (eT st) (aX st) (.ref T) kV doc pm an cdv ct) ds :=
 ⟨⟨oc,od,T,oT,n,kV,doc,pm,an,cdv,ct,osl,rfl,l,c,lT,hT⟩,k⟩
end
theorem dA {X:Cx} {sc:Scope} {own:List Str} {cap:List (Nat × Str)} (so:Scope) (N:List Str) (hso:X.env.scope=so) (hN:X.N=N) (kind:sc.kind=.function) (names:∀ y∈sc.names,y.2=.local→sc.names.lookup y.1=some .local)
  (nocell:∀ y∈sc.names,y.2≠.cell) (free:∀ y∈sc.names,y.2=.free→so.names.lookup y.1=some .cell) (at':∀ p∈cap,N[p.1]?=some p.2) (hcap:∀ p∈cap,sc.names.lookup p.2=some .free):gB X sc own cap :=
 ⟨kind,names,nocell,fun y hy e=>by show X.env.scope.names.lookup y.1=_; rw [hso]; exact free y hy e,fun p hp=>by rw [hN]; exact at' p hp,hcap⟩
end L2
namespace L2
open PySem PySem.Spec PyProof.Rows Bn
theorem yF (n d:Nat):HT.sIx (n+1) d (some (-1))=n:=by
 unfold HT.sIx
 simp
 omega
end L2
namespace L2
open PySem PySem.Spec PyProof.Rows Bn
section
variable {X:Cx}
end
end L2
namespace L2
open PySem PySem.Spec PyProof.Rows Bn
theorem eC.has {P:Program} {w:World} {H:Hp} {h:Heap} {a:Addr} {o:HO} (x:eC P w H h a o):∃ u,h.get? a=some u:=by
 cases o with
 | lst xs=>obtain ⟨_,_,_,_,e⟩:=x; exact ⟨_,e⟩
 | tup xs=>obtain ⟨_,_,_,u,e,_⟩:=x; exact ⟨u,e⟩
 | dK kvs=>obtain ⟨_,_,_,_,o,_,_,e,_⟩:=x; exact ⟨_,e⟩
 | dT kvs=>obtain ⟨_,_,_,_,o,_,_,e,_⟩:=x; exact ⟨_,e⟩
 | set S n=>obtain ⟨o,_,_,_,e,_⟩:=x; exact ⟨_,e⟩
 | ins C dx fs=>obtain ⟨_,_,_,e,_⟩:=x; exact ⟨_,e⟩
 | own y=>exact x
 | xd fs=>obtain ⟨_,⟨_,_,_,e,_⟩,_⟩:=x; exact ⟨_,e⟩
 | rng lo hi=>obtain ⟨_,_,_,e⟩:=x; exact ⟨_,e⟩
 | frz ob u=>obtain ⟨e,_⟩:=x; exact ⟨_,e⟩
 | tbl ps=>exact ⟨_,show h.get? a=some _ from x⟩
 | met f y=>exact ⟨_,show h.get? a=some _ from x⟩
 | ext φ=>exact x.2.1
abbrev eV:List Value:=[.type "ValueError",.type "Exception",.type "BaseException",.type "object"]
theorem aeE {K:PySem.W.Frag} {h:Heap} {C:Addr} {bmB:List Value} {newId:String} (X:K.In h) (q:PySem.W.excIn K C bmB newId=true) :
  ∃ bm N nm qn bs hdct sn sub ab col dd k0 k1 k2 k3 k5 mN,h.get? C=some (excClassObj nm qn C N bs bm hdct sn sub ab col dd k0 k1 k2 k3 k5 newId)∧h.Ns N mN∧mN "__init__"=none∧OwnTail h bmB bm:=by
 unfold PySem.W.excIn at q
 split at q
 ·rename_i dd cd sl ho
  split at q
  ·rename_i C' bm k0 k1 k2 k3 n k5 hm hs
   simp only [Bool.and_eq_true,beq_iff_eq,Bool.not_eq_true'] at q
   obtain ⟨⟨⟨⟨⟨z1,z2⟩,hdel⟩,ht⟩,hok⟩,hni⟩:=q
   subst z1 z2
   obtain ⟨nm,bs,mro,ns,qn,hd,sn,sub,ab,col,del⟩:=cd
   dsimp only at hm hdel hok hni
   subst hm hdel
   have hsl:sl=#[k0,k1,k2,k3,some (.builtin n),k5]:=by
    obtain ⟨l⟩:=sl
    simp only at hs
    rw [hs]
   subst hsl
   refine ⟨bm,ns,nm,qn,bs,hd,sn,sub,ab,col,dd,k0,k1,k2,k3,k5,_,X _ _ ho,.of_isNs (PySem.W.isNs_of_in X hok),PySem.W.nsMap_none_of_in X hok hni,PySem.W.tail_of_in X ht⟩
  ·cases q
 ·cases q
def CX1 (P:Program) (w:World):CXT:=fun outer H s E e s'=>∃ (x C t:Addr) (B:Heap) (H':Hp),e=.ref x∧s'.os=s.os∧AllBare s'.gens∧Un (frs outer) [] H H' s.heap s'.heap∧HOk P w H' s'.heap ∧
 Heap.FlyingW B outer x (.ref C) (.ref t) s'.heap∧(∀ b o,s'.heap.get? b=some o→(∃ u,H' b=some u)∨(∃ o',s.heap.get? b=some o'∧b ∉ frs outer)→B.get? b=some o)∧E (.ref C) none H'
theorem afk {P:Program} {w:World} {K:PySem.W.Frag} {mg:Str→Option Value} {base:Heap} {N:List Str} {qual:Str} {scope:Scope} {f:Addr} {cd:Value} {A:Around} {outer:List Env} {s₀:Shared} {H₀:Hp} {E:XK}
  {x:Str} {C:Addr} {txt:Str} {j:Nat} {np p1 cpos pos:Pos} (hg:Gl (aM (CX1 P w) P w K mg base N qual scope f cd A outer s₀ H₀ E) x) (hm:mg x=some (.ref C)) (hx:PySem.W.excIn K C eV "ValueError.__new__"=true)
  (hd:(x == ("__debug__":Str))=false:=by decide) :
  PS (aM (CX1 P w) P w K mg base N qual scope f cd A outer s₀ H₀ E) (.Raise (some (.Call (.Name x np) [.Constant (.str txt) j p1] [] cpos)) none pos) (fun _ _ H=>E (.ref C) none H):=by
 intro pins s σ H D I h
 obtain ⟨bm,Nn,nm,qn,bs,hdct,sn,sub,ab,col,dd,k0,k1,k2,k3,k5,mN,hC,hN,hni,T⟩:=aeE I.ok.mod.kin hx
 refine wpAny_Raise_call_subT (C:=C) (nm:=nm) (q:=qn) (N:=Nn) (bs:=bs) (bm:=bm) (hdct:=hdct) (sn:=sn) (sub:=sub) (ab:=ab) (col:=col) (dd:=dd) (k0:=k0) (k1:=k1) (k2:=k2) (k3:=k3) (k5:=k5)
  PySem.F.excBase_ValueError (mN:=mN) (T.hasType (by decide)) (I.ok.hd rfl) rfl hni (qE I hg hm ⟨rfl,?_⟩ hd)
 refine Calls.evalArgs_plain (thn ((nZ zT uI) cpos pins s σ H (fun vs H1=>vs=[.str txt]∧H1=H) I ⟨rfl,rfl⟩) fun us s2 q2=>?_)
 obtain ⟨vs,H2,I2,r2,rfl,rfl⟩:=q2
 have l2:=r2.length
 refine ⟨rfl,by rw [← l2]; show 1≤sizeLine; decide,I2.bk _ _ hC,hN.keeps I2.bk,T.keeps I2.bk,fun h' e made=>?_⟩
 -- the frame is left
 have stk:(aM (CX1 P w) P w K mg base N qual scope f cd A outer s₀ H₀ E).stack=envOfC qual scope s₀.heap.objs.size f cd :: outer:=rfl
 have nfr:∀ {b u},H2 b=some u→b ∉ frs (envOfC qual scope s₀.heap.objs.size f cd :: outer):=fun {b u} q z=>by
  rw [I2.stkFree b z] at q
  cases q
 have nL:∀ {b o},s₀.heap.get? b=some o→b ∉ frs outer→b ∉ frs (envOfC qual scope s₀.heap.objs.size f cd :: outer):=fun {b o} q z y=>by
  rcases List.mem_cons.mp (I2.stkSub b y) with g | g
  ·exact absurd (Nat.lt_of_lt_of_le (Heap.lt_size q) I2.ok.above) (by rw [g]; exact Nat.lt_irrefl _)
  ·exact z g
 refine wpAny_leaves_madeW (base:=PySem.W.hideAll s2.heap (frs (envOfC qual scope s₀.heap.objs.size f cd :: outer))) (h:=s2.heap) (s:={ s2 with heap:=h' }) I2.ok.frames rfl (fun b o q=>PySem.W.of_hideAll _ q)
  (PySem.W.funFrames_hide I2.stack fun env he b hb=>List.mem_filterMap.mpr ⟨env,he,hb⟩) made fun h'' t fl tup nb ups=>?_
 have keepB:∀ b o,s2.heap.get? b=some o→b ∉ frs (envOfC qual scope s₀.heap.objs.size f cd :: outer)→h''.get? b=some o:=fun b o q z=>fl.1 b o (PySem.W.hideAll_get _ q z)
 have upS:∀ b o,s2.heap.get? b=some o→(∀ vs,o.data≠.fields vs)→∃ sl,h''.get? b=some { o with slots:=sl }:=fun b o q z=>ups b o (made.keeps b o q) z
 refine ⟨e,C,t,_,H2,rfl,I2.os,I2.bare,⟨fun b o q n hb _=>?_,fun b o q n hb _=>?_,fun b o q n _=>I2.base.free b o q n (by intro z; cases z),fun b o q _=>?_,I2.base.tups,I2.base.frzs,I2.base.tbls⟩,fun b u q=>?_,fl,fun b o q z=>?_,h⟩
 ·exact keepB b o (I2.base.keep b o q n hb (by intro z; cases z)) (nL q hb)
 ·obtain ⟨sl,g⟩:=I2.base.slot b o q n hb (by intro z; cases z)
  obtain ⟨_,o',ho',hd'⟩:=I2.ok.funs.mem hb
  have eo:o'=o:=by
   have ho2:s₀.heap.get? b=some o':=ho'
   rw [q] at ho2
   exact (Option.some.inj ho2).symm
  subst eo
  obtain ⟨sl',g'⟩:=upS b _ g hd'
  exact ⟨sl',g'⟩
 ·obtain ⟨o',g⟩:=I2.base.there b o q (by intro z; cases z)
  by_cases c:b∈frs (envOfC qual scope s₀.heap.objs.size f cd :: outer)
  ·obtain ⟨_,o2,ho2,hd2⟩:=I2.stack.mem c
   obtain ⟨sl,g'⟩:=upS b o2 ho2 hd2
   exact ⟨_,g'⟩
  ·exact ⟨o',keepB b o' g c⟩
 ·refine (I2.hok b u q).stay (fun c v hc g=>keepB c v g ?_) (fun _ g=>g) fun _ _ g=>g
  rcases hc with z | z
  ·rw [z]
   exact nfr q
  ·exact nfr z
 ·have go:∀ {o2},s2.heap.get? b=some o2→b ∉ frs (envOfC qual scope s₀.heap.objs.size f cd :: outer)→(PySem.W.hideAll s2.heap (frs (envOfC qual scope s₀.heap.objs.size f cd :: outer))).get? b=some o:=fun {o2} g n=>by
   have:=keepB b o2 g n
   have q':h''.get? b=some o:=q
   rw [q'] at this
   cases this
   exact PySem.W.hideAll_get _ g n
  rcases z with ⟨u,z⟩ | ⟨o',z,nz⟩
  ·obtain ⟨o2,g⟩:=(I2.hok b u z).has
   exact go g (nfr z)
  ·obtain ⟨o2,g⟩:=I2.base.there b o' z (by intro z; cases z)
   exact go g (nL z nz)
end L2
namespace L2
open PySem PySem.Spec PyProof.Rows Bn
section
variable {X:Cx} {pins:List (Addr × Obj)} {σ:St} {H H':Hp} {s s':Shared}
theorem Inv.flown {B h5:Heap} (I:Inv X pins σ H s) (os:s'.os=s.os) (bare:AllBare s'.gens) (un:Un (frs X.stack) [] H H' s.heap s'.heap) (hok:HOk X.prog X.w H' s'.heap)
  (cov:∀ b o,s'.heap.get? b=some o→(∃ u,H' b=some u)∨(∃ o',s.heap.get? b=some o'∧b ∉ frs X.stack)→B.get? b=some o) (fr:∀ b∈frs X.stack,H' b=none)
  (st:B.StaysIn h5) (up:s'.heap.UpToSlots h5):Inv X pins σ H' { s' with heap:=h5 }:=by
 have nofr:∀ {b u},H' b=some u→b ∉ frs X.stack:=fun {b u} q z=>by
  rw [fr b z] at q
  cases q
 have frame:∀ b∈frs X.stack,∃ o sl,s.heap.get? b=some o∧H b=none∧h5.get? b=some { o with slots:=sl }:=fun b hb=>by
  obtain ⟨_,o,ho,hd⟩:=I.stack.mem hb
  have hn:=I.stkFree b hb
  obtain ⟨sl,g⟩:=un.slot b o ho hn hb (by intro z; cases z)
  obtain ⟨sl',g'⟩:=up b _ g hd
  exact ⟨o,sl',ho,hn,g'⟩
 refine I.call' (s':={ s' with heap:=h5 }) (ch:=[]) os ⟨fun b o q n hb _=>?_,fun b o q n hb _=>?_,un.free,fun b o q _=>?_,un.tups,un.frzs,un.tbls⟩ (fun b u q=>?_) bare fun b z=>nomatch z
 ·exact st b o (cov b o (un.keep b o q n hb (by intro z; cases z)) (.inr ⟨o,q,hb⟩))
 ·obtain ⟨o',sl,g1,_,g2⟩:=frame b hb
  rw [q] at g1
  cases g1
  exact ⟨sl,g2⟩
 ·by_cases c:b∈frs X.stack
  ·obtain ⟨o',sl,_,_,g2⟩:=frame b c
   exact ⟨_,g2⟩
  ·obtain ⟨o',g⟩:=un.there b o q (by intro z; cases z)
   exact ⟨o',st b o' (cov b o' g (.inr ⟨o,q,c⟩))⟩
 ·refine (hok b u q).stay (fun c v hc g=>st c v (cov c v g (.inl ?_))) (fun _ g=>g) fun _ _ g=>g
  rcases hc with z | z
  ·exact ⟨u,by rw [z]; exact q⟩
  ·exact ⟨_,z⟩
end
section
variable {X:Cx} {k:Nat} {f:Addr} {fd:FuncData} {ps:List Str} {sp:Sp} {dvs:List V} {ds:List Value} {E:XK} {x:Str} {p pos:Pos} {e:Expr} {es:List Expr} {t:TA}
theorem ah1 {pins:List (Addr × Obj)} {σ:St} {H:Hp} {s:Shared} {Q:VK} {us:List Value} {vs:List V} {Ex:Value→Shared→Prop} (F:aW X.prog X.w X.K X.mg X.base (CX1 X.prog X.w) k f fd ps sp) (hr:cY k X.A) (hb:cU X.K fd ps ds) (hd:bC dvs ds)
  (I:Inv X pins σ H s) (r:bC vs us) (h:sp (vs++dvs) H Q E) (hx:∀ e s',CX1 X.prog X.w X.stack H s E e s'→Ex e s'):wpAny (model X.prog X.w) X.A (call (.ref f) us) (EP X pins σ Q) Ex s:=by
 have r2:bC (vs++dvs) (us++ds):=r.append hd
 have hl:(us++ds).length=ps.length:=by rw [← r2.length]; exact F.len _ _ _ _ h
 refine wpAny_call (codeAny_mono (F.run X.A X.stack s H ⟨us,[]⟩ (us++ds) (vs++dvs) Q E hr I.env0 (hb s us I.kIn hl) r2 h) fun rr s' hq=>?_)
 cases rr with
 | error e=>exact hx e s' hq
 | ok fl =>
  cases fl with
  | ret u=>exact I.after hq
  | next=>exact False.elim hq
  | brk=>exact False.elim hq
  | cont=>exact False.elim hq
theorem afC {pins:List (Addr × Obj)} {σ:St} {H:Hp} {s:Shared} {Q:VK} {Ex:Value→Shared→Prop} (hxe:X.xe=fun _ _=>False) (F:aW X.prog X.w X.K X.mg X.base (CX1 X.prog X.w) k f fd ps sp) (hr:cY k X.A) (hg:Gl X x) (hm:X.mg x=some (.ref f)) (hk:PySem.W.keepIn X.K (.ref f)=true)
  (hb:cU X.K fd ps ds) (hd:bC dvs ds) (ha:PA X (e :: es) t) (I:Inv X pins σ H s) (h:t σ H fun vs H1=>sp (vs++dvs) H1 Q E)
  (hx:∀ s1 H1 e s',Inv X pins σ H1 s1→CX1 X.prog X.w X.stack H1 s1 E e s'→Ex e s')
  (hdb:(x == ("__debug__":Str))=false:=by decide) (he:starEach (e :: es) X.env=(false,eval e X.env) :: starEach es X.env:=by rfl) (hpl:(backTo pos (starEach es X.env)).any (·.1)=false:=by rfl) :
  wpAny (model X.prog X.w) X.A (eval (.Call (.Name x p) (e :: es) [] pos) X.env) (EP X pins σ Q) Ex s:=by
 refine wpAny_Call_Name_kw (qE I hg hm ?_ hdb)
 refine PySem.W.callWith_K (h₀:=X.base) I.ok.mod.kin hk (wpAny_mono (ha pos pins s σ H _ I h) (fun us s1 q1=>?_) fun _ _ z=>?_) he hpl
 ·obtain ⟨vs,H1,I1,r,q⟩:=q1
  exact ⟨I1.kIn,ah1 F hr hb hd I1 r q fun e s' c=>hx s1 H1 e s' I1 c⟩
 ·rw [hxe] at z
  exact z.elim
end
end L2
namespace L2
open PySem PySem.Spec PyProof.Rows Bn
section
variable {P:Program} {w:World} {K:PySem.W.Frag} {mg:Str→Option Value} {base:Heap} {CX:CXT}
theorem Fun.okX {x qual:Str} {st:Stmt} {f:Addr} {fd:FuncData} {N ps:List Str} {k:Nat} {sp:Sp} (F:Fun K x qual st f fd) (S:bQ N ps (aX st)) (len:∀ vs H Q E,sp vs H Q E→vs.length=ps.length)
  (hbody:∀ (cdv:Value) (A:Around) (outer:List Env) (s:Shared) (H:Hp) (vs:List V) (Q:VK) (E:XK),cY k (A.deeper (envOfC qual (aX st) s.heap.objs.size f cdv))→sp vs H Q E →
   ∃ t,PSs (aM CX P w K mg base N qual (aX st) f cdv A outer s H E) (eT st) t∧t { nx:=fun _ H'=>Q .non H',rt:=Q } (start N vs) H):aW P w K mg base CX (k+1) f fd ps sp:=by
 obtain ⟨oc,od,kV,doc,pm,an,cdv,ct,osl,rfl,lk,hcd⟩:=F.ex
 exact agR lk hcd S len fun A outer s H vs Q E hr hsp=>hbody cdv A outer s H vs Q E hr hsp
theorem lG.okX {x qual:Str} {st:Stmt} {f:Addr} {fd:FuncData} {ds:Array Value} {N ps:List Str} {k:Nat} {sp:Sp} (F:lG K x qual st f fd ds) (S:bQ N ps (aX st)) (len:∀ vs H Q E,sp vs H Q E→vs.length=ps.length)
  (hbody:∀ (cdv:Value) (A:Around) (outer:List Env) (s:Shared) (H:Hp) (vs:List V) (Q:VK) (E:XK),cY k (A.deeper (envOfC qual (aX st) s.heap.objs.size f cdv))→sp vs H Q E →
   ∃ t,PSs (aM CX P w K mg base N qual (aX st) f cdv A outer s H E) (eT st) t∧t { nx:=fun _ H'=>Q .non H',rt:=Q } (start N vs) H):aW P w K mg base CX (k+1) f fd ps sp:=by
 obtain ⟨oc,od,T,oT,n,kV,doc,pm,an,cdv,ct,osl,rfl,lk,hcd,_,_⟩:=F.ex
 exact agR lk hcd S len fun A outer s H vs Q E hr hsp=>hbody cdv A outer s H vs Q E hr hsp
end
theorem akl {P:Program} {w:World} {K:PySem.W.Frag} {mg:Str→Option Value} {base:Heap} {N:List Str} {qual:Str} {scope:Scope} {f:Addr} {cd:Value} {A:Around} {outer:List Env} {s₀:Shared} {H₀:Hp} {E:XK} :
  hU (CX1 P w) (aM (CX1 P w) P w K mg base N qual scope f cd A outer s₀ H₀ E) E:=by
 intro pins σ H s e s' I c
 obtain ⟨x,C,t,B,H',rfl,os,bare,un,hok,fl,cov,hE⟩:=c
 have fr:∀ b∈frs (aM (CX1 P w) P w K mg base N qual scope f cd A outer s₀ H₀ E).stack,H' b=none:=fun b hb=>by
  obtain ⟨_,o,ho,hd⟩:=I.stack.mem hb
  exact un.free b o ho (I.stkFree b hb) (by intro z; cases z)
 have nL:∀ {b o},s₀.heap.get? b=some o→b ∉ frs outer→b ∉ frs (envOfC qual scope s₀.heap.objs.size f cd :: outer):=fun {b o} q z y=>by
  rcases List.mem_cons.mp (I.stkSub b y) with g | g
  ·exact absurd (Nat.lt_of_lt_of_le (Heap.lt_size q) I.ok.above) (by rw [g]; exact Nat.lt_irrefl _)
  ·exact z g
 refine wpAny_leaves_onW (base:=B) I.ok.frames rfl fl fun h' fl' up=>?_
 have I5:=I.flown os bare un hok cov fr fl'.1 up
 refine ⟨x,C,t,B,H',rfl,os.trans I.os,bare,I5.base,I5.hok,fl',fun b o q z=>?_,hE⟩
 have go:∀ {o2},B.get? b=some o2→B.get? b=some o:=fun {o2} g=>by
  have:=fl'.1 b o2 g
  have q':h'.get? b=some o:=q
  rw [q'] at this
  cases this
  exact g
 rcases z with ⟨u,z⟩ | ⟨o',z,nz⟩
 ·obtain ⟨o2,g⟩:=(hok b u z).has
  exact go (cov b o2 g (.inl ⟨u,z⟩))
 ·obtain ⟨o2,g⟩:=I.base.there b o' z (by intro z; cases z)
  obtain ⟨o3,g3⟩:=un.there b o2 g (by intro z; cases z)
  exact go (cov b o3 g3 (.inr ⟨o2,g,nL z nz⟩))
end L2
namespace L2
open PySem PySem.Spec PyProof.Rows Bn
section
variable {X:Cx} {pins:List (Addr × Obj)} {σ:St} {H:Hp} {s:Shared}
end
abbrev Cx.mk1 (X:Cx) (x:Addr) (l:List (Addr × Obj)):Cx:={ X with A:=X.A.mark (some (.ref x)),calm:=false,pn:=l++X.pn,xe:=fun _ _=>False }
section
variable {X:Cx} {pins:List (Addr × Obj)} {σ:St} {H:Hp} {s:Shared}
theorem Cx.Ok.mk1 (ok:X.Ok) (x:Addr) (l:List (Addr × Obj)):(X.mk1 x l).Ok :=
 ⟨ok.mod,ok.kind,ok.glob,ok.blt,ok.above,ok.inj,ok.has,ok.cab,fun z=>(by cases z),ok.frames,ok.stk,ok.exf,ok.bs,ok.bsz,ok.noex,ok.exfs,ok.funs,ok.frf⟩
theorem Inv.mk1 (I:Inv X pins σ H s) (x:Addr) (l:List (Addr × Obj)) (h:∀ p∈l,s.heap.get? p.1=some p.2∧H p.1=none∧p.1≠X.env.locals∧p.1 ∉ X.fs∧∀ v,p.2.data≠.cell v):Inv (X.mk1 x l) pins σ H s :=
 ⟨I.ok.mk1 x l,I.os,I.bare,I.base,I.loc,I.cell,I.free,I.freeC,fun p hp=>by
  rw [List.append_assoc] at hp
  exact (List.mem_append.mp hp).elim (h p) (I.pin p),I.hok,I.len⟩
theorem Inv.unmk1 {x:Addr} {l:List (Addr × Obj)} (ok:X.Ok) (I:Inv (X.mk1 x l) pins σ H s):Inv X pins σ H s :=
 ⟨ok,I.os,I.bare,I.base,I.loc,I.cell,I.free,I.freeC,fun p hp=>I.pin p (by rw [List.append_assoc]; exact List.mem_append_right _ hp),I.hok,I.len⟩
end
end L2
namespace L2
open PySem PySem.Spec PyProof.Rows Bn
theorem aeV {a b c:Heap} (h1:a.UpToSlots b) (h2:b.UpToSlots c):a.UpToSlots c:=fun x o q d=>by
 obtain ⟨sl,g⟩:=h1 x o q d
 obtain ⟨sl',g'⟩:=h2 x _ g d
 exact ⟨sl',g'⟩
section
variable {X:Cx} {k:Nat} {f:Addr} {fd:FuncData} {ps:List Str} {sp:Sp} {dvs:List V} {ds:List Value} {x:Str} {p pos pos1 pos2 pos3 pc:Pos} {e:Expr} {es:List Expr} {t:TA} {c n:Str} {C:Addr} {i:Nat} {b₀:Stmt} {body:List Stmt} {newId:String}
end
end L2
namespace L2
open PySem PySem.Spec PySem.W PySem.Calls PySem.Builtin PySem.Builtin.Getset_descriptor PyProof.Rows Bn
section
variable {prog:Program} {w:World} {A:Around} {E:Value→Shared→Prop} {s:Shared} {K:PySem.W.Frag} {x D:Addr} {B:String} {R:Result→Shared→Prop}
end
end L2
namespace L2
open PySem PySem.Spec PyProof.Rows Bn
section
variable {X:Cx} {y D:Addr} {oe:Obj}
end
end L2
namespace L2.Pp
open PySem PySem.Spec PyProof.Rows Bn
inductive PV where
 | non | bl (b:Bool) | int (i:Int) | str (x:Str) | tup (xs:List PV) | lst (xs:List PV)
inductive SO where
 | lst (xs:List PV)
 | lol (xss:List (List PV))
abbrev Sto:=List SO
inductive AV where
 | pv (v:PV) | ref (k:Nat)
abbrev Rho:=List (Option AV)
inductive Res (α:Type) where
 | ok (a:α) (S:Sto) | exc (n:Str) (S:Sto) | fail
def Res.bind {α β:Type} (r:Res α) (k:α→Sto→Res β):Res β:=match r with
 | .ok a S=>k a S
 | .exc n S=>.exc n S
 | .fail=>.fail
inductive cE where
 | nx (ρ:Rho) (S:Sto) | rt (v:AV) (S:Sto) | bk (ρ:Rho) (S:Sto) | ct (ρ:Rho) (S:Sto) | exc (n:Str) (S:Sto) | fail
def LAt (K:PySem.W.Frag) (c:Addr→Prop) (H:Hp) (a:Addr) (vs:List V):Prop :=
 (H a=some (.lst vs)∧¬ c a)∨(∃ o,H a=some (.frz o (.lst vs))) ∨
  ∃ (o:Obj) (its:Array Value) (n:Nat),K.lookup a=some o∧o.cls=.type "list"∧o.dict=none∧o.data=.seq its n∧its.size≤sizeLine∧bC vs its.toList
theorem LAt.sq {K:PySem.W.Frag} {c:Addr→Prop} {H:Hp} {a:Addr} {vs:List V} (h:LAt K c H a vs):SqL K H a vs:=by
 rcases h with h | h | h
 ·exact .inl (.inl h.1)
 ·exact .inl (.inr h)
 ·exact .inr h
mutual
def Rep (K:PySem.W.Frag) (c:Addr→Prop) (H:Hp):PV→V→Prop
 | .non,x=>x=.non
 | .bl b,x=>x=.bl b
 | .int i,x=>x=.int i
 | .str s,x=>x=.str s
 | .tup xs,x=>∃ a vs,x=.ref a∧SqT K H a vs∧vs.length≤sizeLine∧aT K c H xs vs
 | .lst xs,x=>∃ a vs,x=.ref a∧LAt K c H a vs∧vs.length≤sizeLine∧aT K c H xs vs
def aT (K:PySem.W.Frag) (c:Addr→Prop) (H:Hp):List PV→List V→Prop
 | [],vs=>vs=[]
 | p :: ps,vs=>∃ v r,vs=v :: r∧Rep K c H p v∧aT K c H ps r
end
section
variable {K:PySem.W.Frag} {c c':Addr→Prop} {H H':Hp}
mutual
theorem Rep.mono (hT:∀ a vs,SqT K H a vs→SqT K H' a vs) (hL:∀ a vs,LAt K c H a vs→LAt K c' H' a vs):∀ (v:PV) (x:V),Rep K c H v x→Rep K c' H' v x
 | .non,x,h=>h
 | .bl b,x,h=>h
 | .int i,x,h=>h
 | .str s,x,h=>h
 | .tup xs,x,h=>by
  unfold Rep at h ⊢
  obtain ⟨a,vs,e,t,z,r⟩:=h
  exact ⟨a,vs,e,hT a vs t,z,aT.mono hT hL xs vs r⟩
 | .lst xs,x,h=>by
  unfold Rep at h ⊢
  obtain ⟨a,vs,e,t,z,r⟩:=h
  exact ⟨a,vs,e,hL a vs t,z,aT.mono hT hL xs vs r⟩
theorem aT.mono (hT:∀ a vs,SqT K H a vs→SqT K H' a vs) (hL:∀ a vs,LAt K c H a vs→LAt K c' H' a vs):∀ (v:List PV) (x:List V),aT K c H v x→aT K c' H' v x
 | [],vs,h=>by
  unfold aT at h ⊢
  exact h
 | p :: ps,vs,h=>by
  unfold aT at h ⊢
  obtain ⟨v,r,e,h1,h2⟩:=h
  exact ⟨v,r,e,Rep.mono hT hL p v h1,aT.mono hT hL ps r h2⟩
end
theorem aT.length:∀ {xs:List PV} {vs:List V},aT K c H xs vs→xs.length=vs.length
 | [],vs,h=>by
  unfold aT at h
  rw [h]
  rfl
 | p :: ps,vs,h=>by
  unfold aT at h
  obtain ⟨v,r,rfl,_,h2⟩:=h
  rw [List.length_cons,List.length_cons,aT.length h2]
theorem aT.get:∀ {xs:List PV} {vs:List V} {i:Nat} {p:PV},aT K c H xs vs→xs[i]?=some p→∃ v,vs[i]?=some v∧Rep K c H p v
 | [],vs,i,p,h,e=>by simp at e
 | q :: ps,vs,0,p,h,e=>by
  unfold aT at h
  obtain ⟨v,r,rfl,h1,_⟩:=h
  simp at e
  subst e
  exact ⟨v,rfl,h1⟩
 | q :: ps,vs,i+1,p,h,e=>by
  unfold aT at h
  obtain ⟨v,r,rfl,_,h2⟩:=h
  obtain ⟨u,e1,e2⟩:=aT.get (i:=i) h2 (by simpa using e)
  exact ⟨u,by simpa using e1,e2⟩
theorem aT.nil:aT K c H [] []:=by
 unfold aT
 rfl
theorem aT.cons {p:PV} {v:V} {ps:List PV} {vs:List V} (h:Rep K c H p v) (t:aT K c H ps vs):aT K c H (p :: ps) (v :: vs):=by
 unfold aT
 exact ⟨v,vs,rfl,h,t⟩
theorem aT.append:∀ {xs ys:List PV} {vs ws:List V},aT K c H xs vs→aT K c H ys ws→aT K c H (xs++ys) (vs++ws)
 | [],ys,vs,ws,h,g=>by
  unfold aT at h
  subst h
  exact g
 | p :: ps,ys,vs,ws,h,g=>by
  unfold aT at h
  obtain ⟨v,r,rfl,h1,h2⟩:=h
  exact .cons h1 (h2.append g)
theorem aT.drop:∀ {xs:List PV} {vs:List V} (n:Nat),aT K c H xs vs→aT K c H (xs.drop n) (vs.drop n)
 | xs,vs,0,h=>by simpa using h
 | [],vs,n+1,h=>by
  unfold aT at h
  subst h
  simpa using aT.nil
 | p :: ps,vs,n+1,h=>by
  unfold aT at h
  obtain ⟨v,r,rfl,_,h2⟩:=h
  simpa using h2.drop n
theorem aT.take:∀ {xs:List PV} {vs:List V} (n:Nat),aT K c H xs vs→aT K c H (xs.take n) (vs.take n)
 | xs,vs,0,h=>by simpa using aT.nil
 | [],vs,n+1,h=>by
  unfold aT at h
  subst h
  simpa using aT.nil
 | p :: ps,vs,n+1,h=>by
  unfold aT at h
  obtain ⟨v,r,rfl,h1,h2⟩:=h
  simpa using aT.cons h1 (h2.take n)
theorem aT.eraseIdx:∀ {xs:List PV} {vs:List V} (n:Nat),aT K c H xs vs→aT K c H (xs.eraseIdx n) (vs.eraseIdx n)
 | [],vs,n,h=>by
  unfold aT at h
  subst h
  simpa using aT.nil
 | p :: ps,vs,0,h=>by
  unfold aT at h
  obtain ⟨v,r,rfl,h1,h2⟩:=h
  simpa using h2
 | p :: ps,vs,n+1,h=>by
  unfold aT at h
  obtain ⟨v,r,rfl,h1,h2⟩:=h
  simpa using aT.cons h1 (h2.eraseIdx n)
theorem aT.set {p:PV} {v:V} (g:Rep K c H p v):∀ {xs:List PV} {vs:List V} (n:Nat),aT K c H xs vs→aT K c H (xs.set n p) (vs.set n v)
 | [],vs,n,h=>by
  unfold aT at h
  subst h
  simpa using aT.nil
 | q :: ps,vs,0,h=>by
  unfold aT at h
  obtain ⟨v,r,rfl,h1,h2⟩:=h
  simpa using aT.cons g h2
 | q :: ps,vs,n+1,h=>by
  unfold aT at h
  obtain ⟨v,r,rfl,h1,h2⟩:=h
  simpa using aT.cons h1 (aT.set g n h2)
end
structure Ph where
 f:List Addr
 w:Addr→Prop
 c:Addr→Prop
def akH (K:PySem.W.Frag) (c:Addr→Prop) (H:Hp) (xss:List (List PV)) (bs:List Addr):Prop :=
 xss.length=bs.length∧∀ (i:Nat) (xs:List PV) (b:Addr),xss[i]?=some xs→bs[i]?=some b→∃ vs,H b=some (.lst vs)∧vs.length≤sizeLine∧aT K c H xs vs
def vU (K:PySem.W.Frag) (p:Ph) (H:Hp) (a:Addr):SO→Prop
 | .lst xs=>∃ vs,H a=some (.lst vs)∧vs.length≤sizeLine∧aT K p.c H xs vs
 | .lol xss=>∃ bs:List Addr,H a=some (.lst (bs.map V.ref))∧bs.length≤sizeLine∧bs.Nodup∧(∀ b∈bs,p.w b∧b ∉ p.f)∧akH K p.c H xss bs
theorem vU.mono {K:PySem.W.Frag} {p p':Ph} {H H':Hp} {a:Addr} {o:SO} (h:vU K p H a o) (ha:∀ vs,H a=some (.lst vs)→H' a=some (.lst vs))
  (hb:∀ b,p.w b→b ∉ p.f→(p'.w b∧b ∉ p'.f)∧∀ vs,H b=some (.lst vs)→H' b=some (.lst vs)) (hR:∀ xs vs,aT K p.c H xs vs→aT K p'.c H' xs vs):vU K p' H' a o:=by
 cases o with
 | lst xs =>
  obtain ⟨vs,e,l,r⟩:=h
  exact ⟨vs,ha vs e,l,hR xs vs r⟩
 | lol xss =>
  obtain ⟨bs,e,l,nd,wf,z,at_⟩:=h
  refine ⟨bs,ha _ e,l,nd,fun b m=>(hb b (wf b m).1 (wf b m).2).1,z,fun i xs b e1 e2=>?_⟩
  obtain ⟨vs,g1,g2,g3⟩:=at_ i xs b e1 e2
  have m:=wf b (List.mem_of_getElem? e2)
  exact ⟨vs,(hb b m.1 m.2).2 vs g1,g2,hR xs vs g3⟩
def Mb:HO→Prop
 | .lst _=>True
 | .dK _=>True
 | .dT _=>True
 | .ins _ _ _=>True
 | _=>False
structure Sim (K:PySem.W.Frag) (p:Ph) (S:Sto) (H:Hp):Prop where
 nd:p.f.Nodup
 len:p.f.length=S.length
 sub:∀ a∈p.f,p.w a
 wc:∀ a,p.w a→p.c a
 mu:∀ a,p.c a→∃ o,H a=some o∧Mb o
 obj:∀ (k:Nat) (a:Addr) (o:SO),p.f[k]?=some a→S[k]?=some o→vU K p H a o
structure bK (p:Ph) (H:Hp) (q:Ph) (H':Hp):Prop where
 wc:∀ a,p.w a→p.c a
 mu:∀ a,p.c a→∃ o,H a=some o∧Mb o
 pre:p.f <+: q.f
 mw:∀ a,p.w a→q.w a
 mono:∀ a,p.c a→q.c a
 nf:∀ a∈q.f,a ∉ p.f→H a=none
 nw:∀ a,q.w a→¬ p.w a→H a=none
 nc:∀ a,q.c a→¬ p.c a→H a=none
 keep:∀ a o,H a=some o→¬ p.w a→H' a=some o
def bU (K:PySem.W.Frag) (p:Ph) (H:Hp):AV→V→Prop
 | .pv v,x=>Rep K p.c H v x
 | .ref k,x=>∃ a,p.f[k]?=some a∧x=.ref a
abbrev fT (K:PySem.W.Frag) (p:Ph) (H:Hp):List AV→List V→Prop:=Paired (bU K p H)
structure cO (K:PySem.W.Frag) (p:Ph) (H:Hp) (ρ:Rho) (σ:St):Prop where
 len:ρ.length=σ.length
 at_:∀ (i:Nat) (v:AV),ρ[i]?=some (some v)→∃ x,σ[i]?=some (some x)∧bU K p H v x
section
variable {K:PySem.W.Frag} {p q r:Ph} {H H' H'':Hp} {S:Sto}
theorem Sim.step (s:Sim K p S H):bK p H p H:=⟨s.wc,s.mu,List.prefix_rfl,fun _ h=>h,fun _ h=>h,fun _ h g=>absurd h g,fun _ h g=>absurd h g,fun _ h g=>absurd h g,fun _ _ h _=>h⟩
theorem bK.trans (a:bK p H q H') (b:bK q H' r H''):bK p H r H'':=by
 have back:∀ x,H' x=none→¬ p.w x→H x=none:=fun x h n=>by
  cases e:H x with
  | none=>rfl
  | some o=>rw [a.keep x o e n] at h; cases h
 refine ⟨a.wc,a.mu,a.pre.trans b.pre,fun x h=>b.mw x (a.mw x h),fun x h=>b.mono x (a.mono x h),fun x h n=>?_,fun x h n=>?_,fun x h n=>?_,fun x o e n=>?_⟩
 ·by_cases m:x∈q.f
  ·exact a.nf x m n
  ·have hn:=b.nf x h m
   refine back x hn fun z=>?_
   obtain ⟨o,ho,_⟩:=b.mu x (a.mono x (a.wc x z))
   rw [hn] at ho
   cases ho
 ·by_cases m:q.w x
  ·exact a.nw x m n
  ·exact back x (b.nw x h m) n
 ·by_cases m:q.c x
  ·exact a.nc x m n
  ·exact back x (b.nc x h m) fun z=>n (a.wc x z)
 ·refine b.keep x o (a.keep x o e n) fun z=>?_
  rw [a.nw x z n] at e
  cases e
theorem bK.tup (s:bK p H q H') {a:Addr} {vs:List V} (h:SqT K H a vs):SqT K H' a vs:=by
 have go:∀ o,H a=some o→¬ Mb o→H' a=some o:=fun o e n=>s.keep a o e fun z=>by
  obtain ⟨u,e',m⟩:=s.mu a (s.wc a z)
  rw [e] at e'
  cases e'
  exact n m
 rcases h with (h | ⟨o,h⟩) | h
 ·exact .inl (.inl (go _ h (fun z=>z)))
 ·exact .inl (.inr ⟨o,go _ h (fun z=>z)⟩)
 ·exact .inr h
theorem bK.lat (s:bK p H q H') {a:Addr} {vs:List V} (h:LAt K p.c H a vs):LAt K q.c H' a vs:=by
 rcases h with ⟨h,n⟩ | ⟨o,h⟩ | h
 ·refine .inl ⟨s.keep a _ h fun z=>n (s.wc a z),fun z=>?_⟩
  rw [s.nc a z n] at h
  cases h
 ·refine .inr (.inl ⟨o,s.keep a _ h fun z=>?_⟩)
  obtain ⟨u,e',m⟩:=s.mu a (s.wc a z)
  rw [h] at e'
  cases e'
  exact m
 ·exact .inr (.inr h)
theorem bK.rep (s:bK p H q H') {v:PV} {x:V} (h:Rep K p.c H v x):Rep K q.c H' v x:=Rep.mono (fun _ _=>s.tup) (fun _ _=>s.lat) v x h
theorem bK.reps (s:bK p H q H') {v:List PV} {x:List V} (h:aT K p.c H v x):aT K q.c H' v x:=aT.mono (fun _ _=>s.tup) (fun _ _=>s.lat) v x h
theorem bK.at_ (s:bK p H q H') {k:Nat} {a:Addr} (h:p.f[k]?=some a):q.f[k]?=some a:=by
 obtain ⟨t,e⟩:=s.pre
 rw [← e,List.getElem?_append_left (by
  have:=List.getElem?_eq_some_iff.mp h
  exact this.1)]
 exact h
theorem bK.repA (s:bK p H q H') {v:AV} {x:V} (h:bU K p H v x):bU K q H' v x:=by
 cases v with
 | pv v=>exact s.rep h
 | ref k =>
  obtain ⟨a,e,f⟩:=h
  exact ⟨a,s.at_ e,f⟩
theorem bK.repE (s:bK p H q H') {ρ:Rho} {σ:St} (h:cO K p H ρ σ):cO K q H' ρ σ :=
 ⟨h.len,fun i v e=>let ⟨x,e1,e2⟩:=h.at_ i v e; ⟨x,e1,s.repA e2⟩⟩
theorem Sim.same (s:Sim K p S H) (h:bZ H H'):bK p H p H':=⟨s.wc,s.mu,List.prefix_rfl,fun _ h=>h,fun _ h=>h,fun _ h g=>absurd h g,fun _ h g=>absurd h g,fun _ h g=>absurd h g,fun a o e _=>h a o e⟩
theorem Sim.ofSame (s:Sim K p S H) (h:bZ H H'):Sim K p S H' :=
 ⟨s.nd,s.len,s.sub,s.wc,fun a m=>let ⟨o,e,m⟩:=s.mu a m; ⟨o,h a o e,m⟩,fun k a o e1 e2=>by
  exact (s.obj k a o e1 e2).mono (fun vs e=>h _ _ e) (fun b w f=>⟨⟨w,f⟩,fun vs e=>h _ _ e⟩) fun xs vs=>(s.same h).reps⟩
theorem eX {a:Addr} {o:HO} (h:H a=none):bZ H (upd H a o):=fun b u e=>by
 rw [cD (fD e h)]
 exact e
end
section
variable {α β γ δ:Type}
def bN (K:PySem.W.Frag) (cl:Str→Addr) (R:Ph→Hp→α→β→Prop) (p:Ph) (H:Hp) (r:Res α) (Q:β→Hp→Prop) (E:XK):Prop:=match r with
 | .ok a S=>∀ q H' x,bK p H q H'→Sim K q S H'→R q H' a x→Q x H'
 | .exc n S=>∀ q H',bK p H q H'→Sim K q S H'→E (.ref (cl n)) none H'
 | .fail=>False
def dB (K:PySem.W.Frag) (cl:Str→Addr) (p:Ph) (H:Hp) (r:cE) (D:jI) (E:XK):Prop:=match r with
 | .nx ρ S=>∀ q H' σ,bK p H q H'→Sim K q S H'→cO K q H' ρ σ→D.nx σ H'
 | .bk ρ S=>∀ q H' σ,bK p H q H'→Sim K q S H'→cO K q H' ρ σ→D.bk σ H'
 | .ct ρ S=>∀ q H' σ,bK p H q H'→Sim K q S H'→cO K q H' ρ σ→D.ct σ H'
 | .rt v S=>∀ q H' x,bK p H q H'→Sim K q S H'→bU K q H' v x→D.rt x H'
 | .exc n S=>∀ q H',bK p H q H'→Sim K q S H'→E (.ref (cl n)) none H'
 | .fail=>False
variable {K:PySem.W.Frag} {cl:Str→Addr} {p q:Ph} {H H':Hp} {S:Sto} {E:XK} {R:Ph→Hp→α→β→Prop} {R':Ph→Hp→γ→δ→Prop}
theorem bN.mono {r:Res α} {Q:β→Hp→Prop} (h:bN K cl R p H r Q E) (s:bK p H q H'):bN K cl R q H' r Q E:=by
 cases r with
 | ok a S=>exact fun q' H'' x s'=>h q' H'' x (s.trans s')
 | exc n S=>exact fun q' H'' s'=>h q' H'' (s.trans s')
 | fail=>exact h
theorem dB.mono {r:cE} {D:jI} (h:dB K cl p H r D E) (s:bK p H q H'):dB K cl q H' r D E:=by
 cases r with
 | nx ρ S=>exact fun q' H'' x s'=>h q' H'' x (s.trans s')
 | bk ρ S=>exact fun q' H'' x s'=>h q' H'' x (s.trans s')
 | ct ρ S=>exact fun q' H'' x s'=>h q' H'' x (s.trans s')
 | rt v S=>exact fun q' H'' x s'=>h q' H'' x (s.trans s')
 | exc n S=>exact fun q' H'' s'=>h q' H'' (s.trans s')
 | fail=>exact h
theorem bN.ret {a:α} {x:β} {Q:β→Hp→Prop} (h:bN K cl R p H (.ok a S) Q E) (s:Sim K p S H) (r:R p H a x):Q x H:=h p H x s.step s r
theorem bN.same {a:α} {x:β} {Q:β→Hp→Prop} (h:bN K cl R p H (.ok a S) Q E) (s:Sim K p S H) (e:bZ H H') (r:R p H' a x):Q x H':=h p H' x (s.same e) (s.ofSame e) r
def tP (K:PySem.W.Frag) (cl:Str→Addr) (E:XK) (R:Ph→Hp→α→β→Prop) (m:Rho→Sto→Res α) (σ:St) (H:Hp) (Q:β→Hp→Prop):Prop :=
 ∃ p S ρ,Sim K p S H∧cO K p H ρ σ∧bN K cl R p H (m ρ S) Q E
def tS (K:PySem.W.Frag) (cl:Str→Addr) (E:XK) (m:Rho→Sto→cE):TS:=fun D σ H =>
 ∃ p S ρ,Sim K p S H∧cO K p H ρ σ∧dB K cl p H (m ρ S) D E
theorem bO {m:Rho→Sto→Res α} {k:α→Sto→Res γ} {ρ:Rho} {σ:St} {Q:δ→Hp→Prop} {T:β→Hp→Prop} (s:Sim K p S H) (e:cO K p H ρ σ) (h:bN K cl R' p H ((m ρ S).bind k) Q E)
  (g:∀ q H' a b S',bK p H q H'→Sim K q S' H'→cO K q H' ρ σ→R q H' a b→bN K cl R' q H' (k a S') Q E→T b H'):tP K cl E R m σ H T:=by
 refine ⟨p,S,ρ,s,e,?_⟩
 cases z:m ρ S with
 | ok a S1 =>
  rw [z] at h
  exact fun q H' b st sm r=>g q H' a b S1 st sm (st.repE e) r (bN.mono (r:=k a S1) h st)
 | exc n S1 =>
  rw [z] at h
  exact h
 | fail =>
  rw [z] at h
  exact h
def cE.of {α:Type} (r:Res α) (k:α→Sto→cE):cE:=match r with
 | .ok a S=>k a S
 | .exc n S=>.exc n S
 | .fail=>.fail
theorem iJ {m:Rho→Sto→Res α} {k:α→Sto→cE} {ρ:Rho} {σ:St} {D:jI} {T:β→Hp→Prop} (s:Sim K p S H) (e:cO K p H ρ σ) (h:dB K cl p H (cE.of (m ρ S) k) D E)
  (g:∀ q H' a b S',bK p H q H'→Sim K q S' H'→cO K q H' ρ σ→R q H' a b→dB K cl q H' (k a S') D E→T b H'):tP K cl E R m σ H T:=by
 refine ⟨p,S,ρ,s,e,?_⟩
 cases z:m ρ S with
 | ok a S1 =>
  rw [z] at h
  exact fun q H' b st sm r=>g q H' a b S1 st sm (st.repE e) r (dB.mono (r:=k a S1) h st)
 | exc n S1 =>
  rw [z] at h
  exact h
 | fail =>
  rw [z] at h
  exact h
end
end L2.Pp
namespace L2.Pp
open PySem PySem.Spec PyProof.Rows Bn
abbrev RB:Ph→Hp→Bool→Bool→Prop:=fun _ _ a b=>a=b
abbrev ME:=Rho→Sto→Res AV
abbrev MT:=Rho→Sto→Res Bool
abbrev MA:=Rho→Sto→Res (List AV)
abbrev MS:=Rho→Sto→cE
section
variable (K:PySem.W.Frag) (cl:Str→Addr) (E:XK) (X:Cx)
def PEp (e:Expr) (m:ME):Prop:=X.K=K→PE X e (tP K cl E (bU K) m)
def PTp (e:Expr) (m:MT):Prop:=X.K=K→PT X e (tP K cl E RB m)
def PWp (e:Expr) (m:MT):Prop:=X.K=K→PW X e (tP K cl E RB m)
def PAp (es:List Expr) (m:MA):Prop:=X.K=K→PA X es (tP K cl E (fT K) m)
def PSp (st:Stmt) (m:MS):Prop:=X.K=K→PS X st (tS K cl E m)
def iS (st:List Stmt) (m:MS):Prop:=X.K=K→PSs X st (tS K cl E m)
end
theorem PA.imp {X:Cx} {es:List Expr} {t t':TA} (h:PA X es t) (i:∀ σ H Q,t' σ H Q→t σ H Q):PA X es t':=fun pos pins s σ H Q I q=>h pos pins s σ H Q I (i σ H Q q)
theorem PW.imp {X:Cx} {e:Expr} {t t':TT} (h:PW X e t) (i:∀ σ H Q,t' σ H Q→t σ H Q):PW X e t':=fun wh pins s σ H Q I q=>h wh pins s σ H Q I (i σ H Q q)
def aA (i:Nat):ME:=fun ρ S=>match ρ[i]? with
 | some (some v)=>.ok v S
 | _=>.fail
def mC (v:PV):ME:=fun _ S=>.ok (.pv v) S
def rd (S:Sto):AV→Option PV
 | .pv v=>some v
 | .ref k=>match S[k]? with
  | some (.lst xs)=>some (.lst xs)
  | _=>none
def gA (S:Sto):List AV→Option (List PV)
 | []=>some []
 | a :: r=>match rd S a with
  | some v=>match gA S r with
   | some vs=>some (v :: vs)
   | none=>none
  | none=>none
def okO (o:Option PV) (S:Sto):Res AV:=match o with
 | some r=>.ok (.pv r) S
 | none=>.fail
def qZ (f:PV→Option PV) (a:AV) (S:Sto):Res AV:=okO ((rd S a).bind f) S
def fH (f:PV→PV→Option PV) (a b:AV) (S:Sto):Res AV:=okO ((rd S a).bind fun x=>(rd S b).bind fun y=>f x y) S
def mUn (f:PV→Option PV) (ma:ME):ME:=fun ρ S=>(ma ρ S).bind fun x S1=>qZ f x S1
def aC (f:PV→PV→Option PV) (ma mb:ME):ME:=fun ρ S=>(ma ρ S).bind fun x S1=>(mb ρ S1).bind fun y S2=>fH f x y S2
def aE:MA:=fun _ S=>.ok [] S
def aB (ma:ME) (mr:MA):MA:=fun ρ S=>(ma ρ S).bind fun x S1=>(mr ρ S1).bind fun xs S2=>.ok (x :: xs) S2
def iB:List AV→Option (List PV)
 | []=>some []
 | .pv v :: r=>match iB r with
  | some vs=>some (v :: vs)
  | none=>none
 | .ref _ :: _=>none
def oR (f:List PV→Option PV) (xs:List AV) (S:Sto):Res AV:=okO ((iB xs).bind f) S
def lA (f:List PV→Option PV) (xs:List AV) (S:Sto):Res AV:=okO ((gA S xs).bind f) S
def mR (f:List PV→Option PV) (ma:MA):ME:=fun ρ S=>(ma ρ S).bind fun xs S1=>lA f xs S1
def mN (f:List PV→Option PV) (ma:MA):ME:=fun ρ S=>(ma ρ S).bind fun xs S1=>oR f xs S1
def eW (vs:List PV):Option PV:=if vs.length≤16777216 then some (.tup vs) else none
def eE (vs:List PV):Option PV:=if vs.length≤16777216 then some (.lst vs) else none
def tst:AV→Sto→Res Bool
 | .pv (.bl b),S=>.ok b S
 | _,_=>.fail
def bG (m:ME):MT:=fun ρ S=>(m ρ S).bind tst
def jH (m:MT):MT:=fun ρ S=>(m ρ S).bind fun b S1=>.ok (!b) S1
def mM (m n:MT):MT:=fun ρ S=>(m ρ S).bind fun b S1=>if b=true then n ρ S1 else .ok false S1
def mOr (m n:MT):MT:=fun ρ S=>(m ρ S).bind fun b S1=>if b=true then .ok true S1 else n ρ S1
def jW (m n:ME):ME:=fun ρ S=>(m ρ S).bind fun x S1=>match x with
 | .pv (.bl true)=>n ρ S1
 | .pv (.bl false)=>.ok (.pv (.bl false)) S1
 | _=>.fail
def aka (m n:ME):ME:=fun ρ S=>(m ρ S).bind fun x S1=>match x with
 | .pv (.bl false)=>n ρ S1
 | .pv (.bl true)=>.ok (.pv (.bl true)) S1
 | _=>.fail
def rG:PV→Option PV
 | .bl b=>some (.bl (!b))
 | _=>none
def mIf (c:MT) (a b:ME):ME:=fun ρ S=>(c ρ S).bind fun t S1=>if t=true then a ρ S1 else b ρ S1
section
variable {K:PySem.W.Frag} {cl:Str→Addr} {E:XK} {X:Cx} {a b c e:Expr} {es:List Expr} {ma mb mc m:ME} {mt nt:MT} {ms:MA} {pos:Pos}
theorem aD (i:Nat) {x:Str} (hN:X.N[i]?=some x:=by rfl) (hv:Vis X.env.scope x:=by first | exact Or.inl rfl | exact Or.inr (Or.inl rfl) | exact Or.inr (Or.inr rfl)) (hd:(x == ("__debug__":Str))=false:=by decide)
  (hcd:(x == ("__classdict__":Str))=false:=by decide):PEp K cl E X (.Name x pos) (aA i):=fun _=>(ags hN hv hd hcd).imp fun σ H Q ⟨p,S,ρ,s,e,h⟩=>by
 unfold aA at h
 cases z:ρ[i]? with
 | none=>rw [z] at h; exact h.elim
 | some o =>
  cases o with
  | none=>rw [z] at h; exact h.elim
  | some v =>
   rw [z] at h
   obtain ⟨x,e1,e2⟩:=e.at_ i v z
   exact ⟨x,e1,bN.ret h s e2⟩
theorem aH {i:Int} {j}:PEp K cl E X (.Constant (.int i) j pos) (mC (.int i)):=fun _=>ajH.imp fun σ H Q ⟨p,S,ρ,s,e,h⟩=>bN.ret (R:=bU K) (x:=.int i) h s (by show Rep K p.c H (.int i) (.int i); unfold Rep; rfl)
theorem mH {i:Bool} {j}:PEp K cl E X (.Constant (.bool i) j pos) (mC (.bl i)):=fun _=>akp.imp fun σ H Q ⟨p,S,ρ,s,e,h⟩=>bN.ret (R:=bU K) (x:=.bl i) h s (by show Rep K p.c H (.bl i) (.bl i); unfold Rep; rfl)
theorem fF {i:Str} {j}:PEp K cl E X (.Constant (.str i) j pos) (mC (.str i)):=fun _=>zT.imp fun σ H Q ⟨p,S,ρ,s,e,h⟩=>bN.ret (R:=bU K) (x:=.str i) h s (by show Rep K p.c H (.str i) (.str i); unfold Rep; rfl)
theorem jS {j}:PEp K cl E X (.Constant .none j pos) (mC .non):=fun _=>aga.imp fun σ H Q ⟨p,S,ρ,s,e,h⟩=>bN.ret (R:=bU K) (x:=.non) h s (by show Rep K p.c H .non .non; unfold Rep; rfl)
def dL (K:PySem.W.Frag) (p:Ph) (H:Hp) (v:PV) (x:V):Prop:=Rep K p.c H v x∨∃ xs a vs,v=.lst xs∧x=.ref a∧H a=some (.lst vs)∧vs.length≤sizeLine∧aT K p.c H xs vs
theorem dL.int {p:Ph} {H:Hp} {i:Int} {x:V} (h:dL K p H (.int i) x):x=.int i:=by
 rcases h with h | ⟨_,_,_,e,_⟩
 ·unfold Rep at h; exact h
 ·cases e
theorem dL.bl {p:Ph} {H:Hp} {i:Bool} {x:V} (h:dL K p H (.bl i) x):x=.bl i:=by
 rcases h with h | ⟨_,_,_,e,_⟩
 ·unfold Rep at h; exact h
 ·cases e
theorem dL.str {p:Ph} {H:Hp} {i:Str} {x:V} (h:dL K p H (.str i) x):x=.str i:=by
 rcases h with h | ⟨_,_,_,e,_⟩
 ·unfold Rep at h; exact h
 ·cases e
theorem dL.non {p:Ph} {H:Hp} {x:V} (h:dL K p H .non x):x=.non:=by
 rcases h with h | ⟨_,_,_,e,_⟩
 ·unfold Rep at h; exact h
 ·cases e
theorem dL.tup {p:Ph} {H:Hp} {xs:List PV} {x:V} (h:dL K p H (.tup xs) x):∃ a vs,x=.ref a∧SqT K H a vs∧vs.length≤sizeLine∧aT K p.c H xs vs:=by
 rcases h with h | ⟨_,_,_,e,_⟩
 ·unfold Rep at h; exact h
 ·cases e
theorem dL.lst {p:Ph} {H:Hp} {xs:List PV} {x:V} (h:dL K p H (.lst xs) x):∃ a vs,x=.ref a∧SqL K H a vs∧vs.length≤sizeLine∧aT K p.c H xs vs:=by
 rcases h with h | ⟨ys,a,vs,e,e2,h,z,r⟩
 ·unfold Rep at h
  obtain ⟨a,vs,e,l,z,r⟩:=h
  exact ⟨a,vs,e,l.sq,z,r⟩
 ·cases e
  exact ⟨a,vs,e2,SqL.of h,z,r⟩
theorem lX {p:Ph} {S:Sto} {H:Hp} {a:AV} {v:PV} {x:V} (s:Sim K p S H) (r:bU K p H a x) (e:rd S a=some v):dL K p H v x:=by
 cases a with
 | pv u=>cases e; exact .inl r
 | ref k =>
  obtain ⟨a,e1,rfl⟩:=r
  unfold rd at e
  cases z:S[k]? with
  | none=>simp only [z] at e; cases e
  | some o =>
   cases o with
   | lst xs =>
    simp only [z] at e
    cases e
    obtain ⟨vs,h,l,r⟩:=s.obj k a _ e1 z
    exact .inr ⟨xs,a,vs,rfl,rfl,h,l,r⟩
   | lol xss=>simp only [z] at e; cases e
abbrev aip (K:PySem.W.Frag) (p:Ph) (H:Hp):List PV→List V→Prop:=Paired (dL K p H)
theorem xR {p:Ph} {S:Sto} {H:Hp} (s:Sim K p S H):∀ {as:List AV} {vs:List PV} {xs:List V},fT K p H as xs→gA S as=some vs→aip K p H vs xs
 | [],vs,_,.nil,e=>by
  cases e
  exact .nil
 | a :: r,vs,_,.cons h t,e=>by
  unfold gA at e
  cases z:rd S a with
  | none=>simp only [z] at e; cases e
  | some v =>
   simp only [z] at e
   cases y:gA S r with
   | none=>simp only [y] at e; cases e
   | some us =>
    simp only [y] at e
    cases e
    exact .cons (lX s h z) (xR s t y)
def OpS (K:PySem.W.Frag) (r:R2) (f:PV→PV→Option PV):Prop:=∀ {p:Ph} {S:Sto} {H:Hp} {a b c:PV} {x y:V} {Q:VK},Sim K p S H→dL K p H a x→dL K p H b y→f a b=some c →
 (∀ H' z,bZ H H'→Rep K p.c H' c z→Q z H')→r x y H Q
def UnS (K:PySem.W.Frag) (r:V→Hp→VK→Prop) (f:PV→Option PV):Prop:=∀ {p:Ph} {S:Sto} {H:Hp} {a c:PV} {x:V} {Q:VK},Sim K p S H→dL K p H a x→f a=some c →
 (∀ H' z,bZ H H'→Rep K p.c H' c z→Q z H')→r x H Q
def CaS (K:PySem.W.Frag) (r:List V→Hp→VK→Prop) (f:List PV→Option PV):Prop:=∀ {p:Ph} {S:Sto} {H:Hp} {as:List PV} {c:PV} {xs:List V} {Q:VK},Sim K p S H→aT K p.c H as xs→f as=some c →
 (∀ H' z,bZ H H'→Rep K p.c H' c z→Q z H')→r xs H Q
def CaR (K:PySem.W.Frag) (r:List V→Hp→VK→Prop) (f:List PV→Option PV):Prop:=∀ {p:Ph} {S:Sto} {H:Hp} {as:List PV} {c:PV} {xs:List V} {Q:VK},Sim K p S H→aip K p H as xs→f as=some c →
 (∀ H' z,bZ H H'→Rep K p.c H' c z→Q z H')→r xs H Q
theorem kR {p:Ph} {S:Sto} {H:Hp} {o:Option PV} {Q:VK} (s:Sim K p S H) (h:bN K cl (bU K) p H (okO o S) Q E):∃ c,o=some c∧∀ H' z,bZ H H'→Rep K p.c H' c z→Q z H':=by
 cases o with
 | none=>exact h.elim
 | some c=>exact ⟨c,rfl,fun H' z sm rz=>bN.same (R:=bU K) h s sm rz⟩
theorem nM {r:R2} {f:PV→PV→Option PV} (hf:OpS K r f) {p:Ph} {S:Sto} {H:Hp} {a b:AV} {x y:V} {Q:VK} (s:Sim K p S H) (ra:bU K p H a x) (rb:bU K p H b y) (h:bN K cl (bU K) p H (fH f a b S) Q E):r x y H Q:=by
 obtain ⟨c,e,k⟩:=kR s h
 cases z:rd S a with
 | none=>rw [z] at e; cases e
 | some v =>
  cases y:rd S b with
  | none=>rw [z,y] at e; cases e
  | some w =>
   rw [z,y] at e
   exact hf s (lX s ra z) (lX s rb y) e k
theorem sW {r:V→Hp→VK→Prop} {f:PV→Option PV} (hf:UnS K r f) {p:Ph} {S:Sto} {H:Hp} {a:AV} {x:V} {Q:VK} (s:Sim K p S H) (ra:bU K p H a x) (h:bN K cl (bU K) p H (qZ f a S) Q E):r x H Q:=by
 obtain ⟨c,e,k⟩:=kR s h
 cases z:rd S a with
 | none=>rw [z] at e; cases e
 | some v =>
  rw [z] at e
  exact hf s (lX s ra z) e k
theorem ab1 {r:List V→Hp→VK→Prop} {f:List PV→Option PV} (hf:CaR K r f) {p:Ph} {S:Sto} {H:Hp} {as:List AV} {xs:List V} {Q:VK} (s:Sim K p S H) (ra:fT K p H as xs) (h:bN K cl (bU K) p H (lA f as S) Q E):r xs H Q:=by
 obtain ⟨c,e,k⟩:=kR s h
 cases z:gA S as with
 | none=>rw [z] at e; cases e
 | some v =>
  rw [z] at e
  exact hf s (xR s ra z) e k
theorem sM {p:Ph} {H:Hp}:∀ {as:List AV} {vs:List PV} {xs:List V},iB as=some vs→fT K p H as xs→aT K p.c H vs xs
 | [],vs,_,e,.nil=>by
  cases e
  exact .nil
 | .pv v :: r,vs,_,e,.cons h t=>by
  unfold iB at e
  cases z:iB r with
  | none=>simp only [z] at e; cases e
  | some us =>
   simp only [z] at e
   cases e
   exact .cons h (sM z t)
 | .ref k :: r,vs,_,e,.cons h t=>by
  cases e
theorem xT {r:List V→Hp→VK→Prop} {f:List PV→Option PV} (hf:CaS K r f) {p:Ph} {S:Sto} {H:Hp} {as:List AV} {xs:List V} {Q:VK} (s:Sim K p S H) (ra:fT K p H as xs) (h:bN K cl (bU K) p H (oR f as S) Q E):r xs H Q:=by
 obtain ⟨c,e,k⟩:=kR s h
 cases z:iB as with
 | none=>rw [z] at e; cases e
 | some v =>
  rw [z] at e
  exact hf s (sM z ra) e k
theorem aV {op:Operator} {r:R2} {f:PV→PV→Option PV} (ho:OpR X (binaryOp op) r) (hf:OpS X.K r f) (ha:PEp K cl E X a ma) (hb:PEp K cl E X b mb):PEp K cl E X (.BinOp a op b pos) (aC f ma mb):=by
 intro hK
 subst hK
 refine (aj7 ho (ha rfl) (hb rfl)).imp fun σ H Q ⟨p,S,ρ,s,e,h⟩=>?_
 exact bO s e h fun q H1 a x S1 st s1 e1 r1 h1=>bO s1 e1 h1 fun q2 H2 b y S2 st2 s2 e2 r2 h2=>nM hf s2 (st2.repA r1) r2 h2
theorem eJ {op:UnaryOp} {r:V→Hp→VK→Prop} {f:PV→Option PV} (ho:UnR X (unaryOp op) r) (hf:UnS X.K r f) (ha:PEp K cl E X a ma):PEp K cl E X (.UnaryOp op a pos) (mUn f ma):=by
 intro hK
 subst hK
 refine (aj9 ho (ha rfl)).imp fun σ H Q ⟨p,S,ρ,s,e,h⟩=>?_
 exact bO s e h fun q H1 a x S1 st s1 e1 r1 h1=>sW hf s1 r1 h1
theorem hV {op:CmpOp} {r:R2} {f:PV→PV→Option PV} (ho:OpR X (compareOp op) r) (hf:OpS X.K r f) (ha:PEp K cl E X a ma) (hb:PEp K cl E X b mb) (hm:behindInMarks op b=false):PEp K cl E X (.Compare a [op] [b] pos) (aC f ma mb):=by
 intro hK
 subst hK
 refine (ahz ho (ha rfl) (hb rfl) hm).imp fun σ H Q ⟨p,S,ρ,s,e,h⟩=>?_
 exact bO s e h fun q H1 a x S1 st s1 e1 r1 h1=>bO s1 e1 h1 fun q2 H2 b y S2 st2 s2 e2 r2 h2=>nM hf s2 (st2.repA r1) r2 h2
theorem qW {p:Ph} {H:Hp} {v:AV} {x:V} (r:bU K p H v x) {b:Bool} (e:v=.pv (.bl b)):x=.bl b:=by
 subst e
 unfold bU Rep at r
 exact r
theorem xW {p:Ph} {S:Sto} {H:Hp} {v:AV} {x:V} {Q:Bool→Hp→Prop} (s:Sim K p S H) (r:bU K p H v x)
  (h:bN K cl RB p H (tst v S) Q E):∃ k,x=.bl k∧Q k H:=by
 cases v with
 | ref k=>exact h.elim
 | pv v =>
  cases v with
  | bl b=>exact ⟨b,qW r rfl,bN.ret (R:=RB) h s rfl⟩
  | _=>exact h.elim
theorem cM {op:CmpOp} {r:R2} {f:PV→PV→Option PV} (ho:OpR X (compareOp op) r) (hf:OpS X.K r f) (ha:PEp K cl E X a ma) (hb:PEp K cl E X b mb) (hm:behindInMarks op b=false):PTp K cl E X (.Compare a [op] [b] pos) (bG (aC f ma mb)):=by
 intro hK
 subst hK
 refine (ahc ho (ha rfl) (hb rfl) hm).imp fun σ H Q ⟨p,S,ρ,s,e,h⟩=>?_
 have z:tP X.K cl E (bU X.K) (aC f ma mb) σ H fun x H'=>∃ k,x=.bl k∧Q k H':=bO s e h fun q H1 a x S1 st s1 e1 r1 h1=>xW s1 r1 h1
 obtain ⟨p',S',ρ',s',e',h'⟩:=z
 exact bO s' e' h' fun q H1 a x S1 st s1 e1 r1 h1=>bO s1 e1 h1 fun q2 H2 b y S2 st2 s2 e2 r2 h2=>nM hf s2 (st2.repA r1) r2 h2
theorem jP (ha:PEp K cl E X a ma) (he:∀ whole,isTrue a X.env whole=(do let v ← whole; standAt a.pos; holding [v] (truthy v)):=by intro _; rfl):PTp K cl E X a (bG ma):=by
 intro hK
 subst hK
 refine (ah8 (ha rfl) he).imp fun σ H Q ⟨p,S,ρ,s,e,h⟩=>?_
 exact bO s e h fun q H1 a x S1 st s1 e1 r1 h1=>xW s1 r1 h1
theorem lU (ha:PTp K cl E X a mt):PTp K cl E X (.UnaryOp .Not a pos) (jH mt):=by
 intro hK
 subst hK
 refine (aiu (ha rfl)).imp fun σ H Q ⟨p,S,ρ,s,e,h⟩=>?_
 exact bO s e h fun q H1 a x S1 st s1 e1 r1 h1=>by
  cases r1
  exact bN.ret (R:=RB) h1 s1 rfl
theorem afd (ha:PTp K cl E X a mt):PWp K cl E X (.BoolOp .And [a] pos) mt:=fun hK=>agT (ha hK)
theorem qI (ha:PTp K cl E X a mt):PWp K cl E X (.BoolOp .Or [a] pos) mt:=fun hK=>ajF (ha hK)
theorem PWp.pt (h:PWp K cl E X a mt):PTp K cl E X a mt:=fun hK=>PW.pt (h hK)
theorem agI {dQ:List Expr} (ha:PTp K cl E X a mt) (hb:PWp K cl E X (.BoolOp .And (b :: dQ) pos) nt):PWp K cl E X (.BoolOp .And (a :: b :: dQ) pos) (mM mt nt):=by
 intro hK
 subst hK
 refine PW.imp (ajw (ha rfl) (hb rfl)) fun σ H Q ⟨p,S,ρ,s,e,h⟩=>?_
 refine bO s e h fun q H1 a x S1 st s1 e1 r1 h1=>?_
 cases r1
 cases a with
 | true=>exact ⟨q,S1,ρ,s1,e1,h1⟩
 | false=>exact bN.ret (R:=RB) h1 s1 rfl
theorem oE {dQ:List Expr} (ha:PTp K cl E X a mt) (hb:PWp K cl E X (.BoolOp .Or (b :: dQ) pos) nt):PWp K cl E X (.BoolOp .Or (a :: b :: dQ) pos) (mOr mt nt):=by
 intro hK
 subst hK
 refine PW.imp (akn (ha rfl) (hb rfl)) fun σ H Q ⟨p,S,ρ,s,e,h⟩=>?_
 refine bO s e h fun q H1 a x S1 st s1 e1 r1 h1=>?_
 cases r1
 cases a with
 | true=>exact bN.ret (R:=RB) h1 s1 rfl
 | false=>exact ⟨q,S1,ρ,s1,e1,h1⟩
theorem oB {op} (h:PEp K cl E X a ma):PEp K cl E X (.BoolOp op [a] pos) ma:=fun hK=>aiw (h hK)
theorem qN {dQ:List Expr} (ha:PEp K cl E X a ma) (hb:PEp K cl E X (.BoolOp .And (b :: dQ) pos) mb):PEp K cl E X (.BoolOp .And (a :: b :: dQ) pos) (jW ma mb):=by
 intro hK
 subst hK
 refine (ajW (ha rfl) (hb rfl)).imp fun σ H Q ⟨p,S,ρ,s,e,h⟩=>?_
 refine bO s e h fun q H1 a x S1 st s1 e1 r1 h1=>?_
 cases a with
 | ref k=>exact h1.elim
 | pv v =>
  cases v with
  | bl b =>
   refine ⟨b,qW r1 rfl,?_⟩
   cases b with
   | true=>exact ⟨q,S1,ρ,s1,e1,h1⟩
   | false=>exact bN.ret (R:=bU X.K) h1 s1 (by show Rep X.K q.c H1 _ _; unfold Rep; rfl)
  | _=>exact h1.elim
theorem akb {dQ:List Expr} (ha:PEp K cl E X a ma) (hb:PEp K cl E X (.BoolOp .Or (b :: dQ) pos) mb):PEp K cl E X (.BoolOp .Or (a :: b :: dQ) pos) (aka ma mb):=by
 intro hK
 subst hK
 refine (aj3 (ha rfl) (hb rfl)).imp fun σ H Q ⟨p,S,ρ,s,e,h⟩=>?_
 refine bO s e h fun q H1 a x S1 st s1 e1 r1 h1=>?_
 cases a with
 | ref k=>exact h1.elim
 | pv v =>
  cases v with
  | bl b =>
   refine ⟨b,qW r1 rfl,?_⟩
   cases b with
   | true=>exact bN.ret (R:=bU X.K) h1 s1 (by show Rep X.K q.c H1 _ _; unfold Rep; rfl)
   | false=>exact ⟨q,S1,ρ,s1,e1,h1⟩
  | _=>exact h1.elim
theorem ain (ha:PEp K cl E X a ma):PEp K cl E X (.UnaryOp .Not a pos) (mUn rG ma):=by
 intro hK
 subst hK
 refine (ajG (ha rfl)).imp fun σ H Q ⟨p,S,ρ,s,e,h⟩=>?_
 refine bO s e h fun q H1 a x S1 st s1 e1 r1 h1=>?_
 refine sW (r:=fun x H Q=>∃ c,x=.bl c∧Q (.bl (!c)) H) (f:=rG) (fun {p S H a c x Q} s r e k=>?_) s1 r1 h1
 cases a with
 | bl b =>
  cases e
  exact ⟨b,r.bl,k H _ (bZ.refl H) (by unfold Rep; rfl)⟩
 | _=>cases e
theorem qV (hc:PTp K cl E X c mt) (ha:PEp K cl E X a ma) (hb:PEp K cl E X b mb):PEp K cl E X (.IfExp c a b pos) (mIf mt ma mb):=by
 intro hK
 subst hK
 refine (afT (hc rfl) (ha rfl) (hb rfl)).imp fun σ H Q ⟨p,S,ρ,s,e,h⟩=>?_
 refine bO s e h fun q H1 a x S1 st s1 e1 r1 h1=>?_
 cases r1
 cases a with
 | true=>exact ⟨q,S1,ρ,s1,e1,h1⟩
 | false=>exact ⟨q,S1,ρ,s1,e1,h1⟩
theorem aI:PAp K cl E X [] aE:=fun _=>(PA.imp uI fun σ H Q ⟨p,S,ρ,s,e,h⟩=>bN.ret (R:=fT K) h s .nil)
theorem aF (ha:PEp K cl E X e m) (hr:PAp K cl E X es ms) (hs:starEach (e :: es) X.env=(false,eval e X.env) :: starEach es X.env:=by rfl):PAp K cl E X (e :: es) (aB m ms):=by
 intro hK
 subst hK
 refine PA.imp (nZ (ha rfl) (hr rfl) hs) fun σ H Q ⟨p,S,ρ,s,e,h⟩=>?_
 exact bO s e h fun q H1 a x S1 st s1 e1 r1 h1=>bO s1 e1 h1 fun q2 H2 b y S2 st2 s2 e2 r2 h2=>bN.ret (R:=fT X.K) h2 s2 (.cons (st2.repA r1) r2)
theorem kP {p:Ph} {S:Sto} {H:Hp} {vs:List PV} {xs:List V} {t:Addr} (s:Sim K p S H) (r:aT K p.c H vs xs) (z:xs.length≤sizeLine) (ht:H t=none):Rep K p.c (upd H t (.tup xs)) (.tup vs) (.ref t):=by
 unfold Rep
 exact ⟨t,xs,rfl,SqT.of gJ,z,(s.same (eX ht)).reps r⟩
theorem kS {p:Ph} {S:Sto} {H:Hp} {vs:List PV} {xs:List V} {t:Addr} (s:Sim K p S H) (r:aT K p.c H vs xs) (z:xs.length≤sizeLine) (ht:H t=none):Rep K p.c (upd H t (.lst xs)) (.lst vs) (.ref t):=by
 unfold Rep
 refine ⟨t,xs,rfl,.inl ⟨gJ,fun c=>?_⟩,z,(s.same (eX ht)).reps r⟩
 obtain ⟨o,e,_⟩:=s.mu t c
 rw [ht] at e
 cases e
theorem fB:sizeLine=16777216:=sizeLine_eq
theorem oO {x1} (h:PAp K cl E X es ms):PEp K cl E X (.Tuple es x1 pos) (mN eW ms):=by
 intro hK
 subst hK
 refine (agH (h rfl)).imp fun σ H Q ⟨p,S,ρ,s,e,h⟩=>?_
 refine bO s e h fun q H1 as xs S1 st s1 e1 r1 h1=>?_
 refine xT (r:=fun xs H Q=>xs.length≤sizeLine∧∀ t,H t=none→Q (.ref t) (upd H t (.tup xs))) (f:=eW) (fun {p S H as c xs Q} s r e k=>?_) s1 r1 h1
 unfold eW at e
 split at e
 ·rename_i hl
  cases e
  rw [r.length,← fB] at hl
  exact ⟨hl,fun t ht=>k _ _ (eX ht) (kP s r hl ht)⟩
 ·cases e
theorem gM (h:PAp K cl E X es ms):PEp K cl E X (.List es pos) (mN eE ms):=by
 intro hK
 subst hK
 refine (agp (h rfl)).imp fun σ H Q ⟨p,S,ρ,s,e,h⟩=>?_
 refine bO s e h fun q H1 as xs S1 st s1 e1 r1 h1=>?_
 refine xT (r:=fun xs H Q=>xs.length≤sizeLine∧∀ t,H t=none→Q (.ref t) (upd H t (.lst xs))) (f:=eE) (fun {p S H as c xs Q} s r e k=>?_) s1 r1 h1
 unfold eE at e
 split at e
 ·rename_i hl
  cases e
  rw [r.length,← fB] at hl
  exact ⟨hl,fun t ht=>k _ _ (eX ht) (kS s r hl ht)⟩
 ·cases e
end
end L2.Pp
namespace L2.Pp
noncomputable section
open PySem PySem.Spec PyProof.Rows Bn
def cA:MS:=fun ρ S=>.nx ρ S
def aS (a b:MS):MS:=fun ρ S=>match a ρ S with
 | .nx ρ1 S1=>b ρ1 S1
 | r=>r
def dW (m:ME):MS:=fun ρ S=>cE.of (m ρ S) fun _ S1=>.nx ρ S1
def bE (m:ME):MS:=fun ρ S=>cE.of (m ρ S) fun v S1=>.rt v S1
def akm:MS:=fun _ S=>.rt (.pv .non) S
def sIf (c:MT) (a b:MS):MS:=fun ρ S=>cE.of (c ρ S) fun t S1=>if t=true then a ρ S1 else b ρ S1
def bA (i:Nat) (m:ME):MS:=fun ρ S=>cE.of (m ρ S) fun v S1=>.nx (ρ.set i (some v)) S1
def vG (i j:Nat) (m:MA):MS:=fun ρ S=>cE.of (m ρ S) fun vs S1=>match vs with
 | [v,w]=>.nx ((ρ.set i (some v)).set j (some w)) S1
 | _=>.fail
abbrev GM:=PV→Rho→Option Rho
abbrev GMs:=List PV→Rho→Option Rho
def gN (i:Nat):GM:=fun v ρ=>some (ρ.set i (some (.pv v)))
def fN:GMs:=fun vs ρ=>match vs with
 | []=>some ρ
 | _=>none
def dM (g:GM) (gs:GMs):GMs:=fun vs ρ=>match vs with
 | []=>none
 | v :: r=>match g v ρ with
  | some ρ1=>gs r ρ1
  | none=>none
def gT (n:Nat) (gs:GMs):GM:=fun v ρ=>match v with
 | .tup vs=>if vs.length=n then gs vs ρ else none
 | _=>none
def pI (g:GM) (m:ME):MS:=fun ρ S=>cE.of (m ρ S) fun v S1=>match v with
 | .pv v=>match g v ρ with
  | some ρ1=>.nx ρ1 S1
  | none=>.fail
 | _=>.fail
abbrev Gd:=List (Nat × List PV)
def gOk (G:Gd) (S:Sto):Prop:=∀ g∈G,S[g.1]?=some (.lst g.2)
theorem gL (S:Sto):gOk [] S:=fun _ h=>nomatch h
abbrev MI:=Rho→Sto→Res (List PV × Gd)
open Classical in
def dH (G:Gd) (g:GM) (mb:MS):List PV→Rho→Sto→cE
 | [],ρ,S=>if gOk G S then .nx ρ S else .fail
 | x :: r,ρ,S=>if gOk G S then (match g x ρ with
  | none=>.fail
  | some ρ1=>match mb ρ1 S with
   | .nx ρ2 S2=>dH G g mb r ρ2 S2
   | .ct ρ2 S2=>dH G g mb r ρ2 S2
   | .bk ρ2 S2=>.nx ρ2 S2
   | .rt v S2=>.rt v S2
   | .exc n S2=>.exc n S2
   | .fail=>.fail) else .fail
def dJ (mi:MI) (g:GM) (mb:MS):MS:=fun ρ S=>cE.of (mi ρ S) fun xs S1=>dH xs.2 g mb xs.1 ρ S1
theorem jM {g:GM} {mb:MS} {ρ:Rho} {S:Sto}:dH [] g mb [] ρ S=.nx ρ S:=by
 unfold dH
 rw [if_pos (gL S)]
theorem iV {g:GM} {mb:MS} {x:PV} {r:List PV} {ρ:Rho} {S:Sto}:dH [] g mb (x :: r) ρ S=(match g x ρ with
  | none=>.fail
  | some ρ1=>match mb ρ1 S with
   | .nx ρ2 S2=>dH [] g mb r ρ2 S2
   | .ct ρ2 S2=>dH [] g mb r ρ2 S2
   | .bk ρ2 S2=>.nx ρ2 S2
   | .rt v S2=>.rt v S2
   | .exc n S2=>.exc n S2
   | .fail=>.fail):=by
 rw [dH,if_pos (gL S)]
def cZ (c:MT) (mb:MS):Nat→Rho→Sto→cE
 | 0,_,_=>.fail
 | n+1,ρ,S=>cE.of (c ρ S) fun t S1=>if t=true then (match mb ρ S1 with
   | .nx ρ2 S2=>cZ c mb n ρ2 S2
   | .ct ρ2 S2=>cZ c mb n ρ2 S2
   | .bk ρ2 S2=>.nx ρ2 S2
   | .rt v S2=>.rt v S2
   | .exc n S2=>.exc n S2
   | .fail=>.fail) else .nx ρ S1
open Classical in
def mD (c:MT) (mb:MS):MS:=fun ρ S=>if h:∃ n,cZ c mb n ρ S≠.fail then cZ c mb h.choose ρ S else .fail
theorem cE.of_ok {α:Type} {r:Res α} {k k':α→Sto→cE} (h:∀ a S,k a S≠.fail→k' a S=k a S) (n:cE.of r k≠.fail):cE.of r k'=cE.of r k:=by
 cases r with
 | ok a S=>exact h a S n
 | exc=>rfl
 | fail=>rfl
theorem wQ {c:MT} {mb:MS}:∀ {n:Nat} {ρ:Rho} {S:Sto},cZ c mb n ρ S≠.fail→cZ c mb (n+1) ρ S=cZ c mb n ρ S
 | 0,_,_,h=>absurd rfl h
 | n+1,ρ,S,h=>by
  unfold cZ at h
  rw [cZ]
  conv=>rhs; rw [cZ]
  refine cE.of_ok (fun t S1 h1=>?_) h
  by_cases ht:t=true
  ·simp only [if_pos ht] at h1 ⊢
   cases z:mb ρ S1 with
   | nx ρ2 S2=>rw [z] at h1; exact wQ h1
   | ct ρ2 S2=>rw [z] at h1; exact wQ h1
   | _=>rfl
  ·simp only [if_neg ht] at h1 ⊢
theorem wU {c:MT} {mb:MS} {n:Nat} {ρ:Rho} {S:Sto} (h:cZ c mb n ρ S≠.fail):∀ k,cZ c mb (n+k) ρ S=cZ c mb n ρ S
 | 0=>rfl
 | k+1=>by
  have ih:=wU h k
  rw [← Nat.add_assoc,wQ (by rw [ih]; exact h),ih]
theorem xD {c:MT} {mb:MS} {n:Nat} {ρ:Rho} {S:Sto} {r:cE} (e:cZ c mb n ρ S=r) (h:r≠.fail):mD c mb ρ S=r:=by
 have h':∃ n,cZ c mb n ρ S≠.fail:=⟨n,by rw [e]; exact h⟩
 unfold mD
 rw [dif_pos h']
 have e2:=h'.choose_spec
 rcases Nat.le_total n h'.choose with l | l
 ·obtain ⟨k,q⟩:=Nat.exists_eq_add_of_le l
  rw [q,wU (by rw [e]; exact h),e]
 ·obtain ⟨k,q⟩:=Nat.exists_eq_add_of_le l
  have z:=wU e2 k
  rw [← q,e] at z
  exact z.symm
section
variable {K:PySem.W.Frag} {cl:Str→Addr} {E:XK} {X:Cx} {a b c e tg:Expr} {es:List Expr} {m:ME} {mt:MT} {ms:MA} {b1 b2:MS} {st:Stmt} {sts sts':List Stmt} {pos:Pos}
theorem cO.set {p:Ph} {H:Hp} {ρ:Rho} {σ:St} {v:AV} {x:V} (h:cO K p H ρ σ) (r:bU K p H v x) (i:Nat):cO K p H (ρ.set i (some v)) (σ.set i (some x)):=by
 refine ⟨by rw [List.length_set,List.length_set,h.len],fun j u e=>?_⟩
 by_cases q:i=j
 ·subst q
  by_cases l:i < ρ.length
  ·rw [List.getElem?_set_self l] at e
   cases e
   exact ⟨x,List.getElem?_set_self (by rw [← h.len]; exact l),r⟩
  ·rw [List.getElem?_eq_none (by rw [List.length_set]; omega)] at e
   cases e
 ·rw [List.getElem?_set_ne q] at e ⊢
  exact h.at_ j u e
theorem cW:iS K cl E X [] cA:=fun _=>PSs.imp agP fun D σ H ⟨p,S,ρ,s,e,h⟩=>h p H σ s.step s e
theorem dB.nxD {p:Ph} {H:Hp} {ρ:Rho} {S:Sto} {D:jI} (h:dB K cl p H (.nx ρ S) D E) {σ:St} (s:Sim K p S H) (e:cO K p H ρ σ):D.nx σ H:=h p H σ s.step s e
theorem aZ (h1:PSp K cl E X st b1) (h2:iS K cl E X sts b2):iS K cl E X (st :: sts) (aS b1 b2):=by
 intro hK
 subst hK
 refine PSs.imp (afS (h1 rfl) (h2 rfl)) fun D σ H ⟨p,S,ρ,s,e,h⟩=>⟨p,S,ρ,s,e,?_⟩
 unfold aS at h
 cases z:b1 ρ S with
 | nx ρ1 S1 =>
  rw [z] at h
  exact fun q H' σ' stp sm ev=>⟨q,S1,ρ1,sm,ev,dB.mono (r:=b2 ρ1 S1) h stp⟩
 | bk ρ1 S1=>rw [z] at h; exact h
 | ct ρ1 S1=>rw [z] at h; exact h
 | rt v S1=>rw [z] at h; exact h
 | exc n S1=>rw [z] at h; exact h
 | fail=>rw [z] at h; exact h
theorem bB (h1:PSp K cl E X st b1):iS K cl E X [st] b1:=fun hK=>ae0 (h1 hK)
theorem gU (he:PEp K cl E X e m) (hs:swapsWith e none pos.line X.env=pure false:=by rfl):PSp K cl E X (.Expr e pos) (dW m):=by
 intro hK
 subst hK
 refine PS.imp (ahf (he rfl) hs) fun D σ H ⟨p,S,ρ,s,e,h⟩=>?_
 exact iJ s e h fun q H' a b S' stp sm ev r k=>dB.nxD k sm ev
theorem bI (he:PEp K cl E X e m):PSp K cl E X (.Return (some e) pos) (bE m):=by
 intro hK
 subst hK
 refine PS.imp (ajD (he rfl)) fun D σ H ⟨p,S,ρ,s,e,h⟩=>?_
 exact iJ s e h fun q H' a b S' stp sm ev r k=>k q H' b sm.step sm r
theorem cQ (hc:PTp K cl E X c mt) (ha:iS K cl E X sts b1) (hb:iS K cl E X sts' b2):PSp K cl E X (.If c sts sts' pos) (sIf mt b1 b2):=by
 intro hK
 subst hK
 refine PS.imp (ajZ (hc rfl) (ha rfl) (hb rfl)) fun D σ H ⟨p,S,ρ,s,e,h⟩=>?_
 refine iJ s e h fun q H' a b S' stp sm ev r k=>?_
 cases r
 cases a with
 | true=>exact ⟨q,S',ρ,sm,ev,k⟩
 | false=>exact ⟨q,S',ρ,sm,ev,k⟩
theorem bS {i:Nat} {x:Str} {pos':Pos} (hN:X.N.Nodup) (hi:X.N[i]?=some x) (hx:Loc X.env.scope x) (he:PEp K cl E X e m) (hs:swapsWith e (some (.Name x pos')) pos.line X.env=pure false:=by rfl)
  (hf:X.fn x=true∨X.env.scope.names.lookup x=some .local:=by first | exact .inl rfl | exact .inr rfl | assumption):PSp K cl E X (.Assign [.Name x pos'] e pos) (bA i m):=by
 intro hK
 subst hK
 refine PS.imp (agy hN hi hx (he rfl) hs hf) fun D σ H ⟨p,S,ρ,s,e,h⟩=>?_
 exact iJ s e h fun q H' a b S' stp sm ev r k=>dB.nxD k sm (ev.set r i)
theorem ahB {i j:Nat} {x y:Str} {px py pt:Pos} {kt k2 pt2} (hc:X.calm=true) (hN:X.N.Nodup) (hi:X.N[i]?=some x) (hj:X.N[j]?=some y) (hij:i≠j)
  (hx:X.env.scope.names.lookup x=some .local) (hy:X.env.scope.names.lookup y=some .local) (ha:PAp K cl E X [a,b] ms)
  (hw:swappedStores [.Tuple [.Name x px,.Name y py] kt pt] (.Tuple [a,b] k2 pt2) X.env=pure (some [x,y]))
  (hs:swapsWithSole [.Tuple [.Name x px,.Name y py] kt pt] (.Tuple [a,b] k2 pt2) pos.line X.env=pure false:=by rfl) :
  PSp K cl E X (.Assign [.Tuple [.Name x px,.Name y py] kt pt] (.Tuple [a,b] k2 pt2) pos) (vG i j ms):=by
 intro hK
 subst hK
 refine PS.imp (aiM hc hN hi hj hij hx hy (ha rfl) hw hs) fun D σ H ⟨p,S,ρ,s,e,h⟩=>?_
 refine iJ s e h fun q H' vs xs S' stp sm ev r k=>?_
 match vs,xs,r with
 | [],_,.nil=>exact k.elim
 | [v],_,.cons _ .nil=>exact k.elim
 | [v,w],_,.cons (b:=x1) r1 (.cons (b:=x2) r2 .nil)=>exact ⟨x1,x2,rfl,dB.nxD k sm ((ev.set r1 i).set r2 j)⟩
 | _ :: _ :: _ :: _,_,.cons _ (.cons _ (.cons _ _))=>exact k.elim
def gP (K:PySem.W.Frag) (g:GM):TG:=fun x σ H Q=>∃ p S ρ v ρ',Sim K p S H∧cO K p H ρ σ∧Rep K p.c H v x∧g v ρ=some ρ'∧∀ σ',cO K p H ρ' σ'→Q σ' H
def gPs (K:PySem.W.Frag) (g:GMs):TGs:=fun xs σ H Q=>∃ p S ρ vs ρ',Sim K p S H∧cO K p H ρ σ∧aT K p.c H vs xs∧g vs ρ=some ρ'∧∀ σ',cO K p H ρ' σ'→Q σ' H
variable (K X)
def PGp (tg:Expr) (g:GM):Prop:=X.K=K→PG X tg (gP K g)
def vI (ts:List Expr) (g:GMs):Prop:=X.K=K→PGs X ts (gPs K g)
variable {K X}
theorem PG.imp {tg:Expr} {t t':TG} (h:PG X tg t) (i:∀ x σ H Q,t' x σ H Q→t x σ H Q):PG X tg t':=fun pins s σ H v u Q I r q=>h pins s σ H v u Q I r (i v σ H Q q)
theorem PGs.imp {ts:List Expr} {t t':TGs} (h:PGs X ts t) (i:∀ x σ H Q,t' x σ H Q→t x σ H Q):PGs X ts t':=fun pins s σ H v u Q I r q=>h pins s σ H v u Q I r (i v σ H Q q)
theorem cF {i:Nat} {x:Str} (hN:X.N.Nodup) (hi:X.N[i]?=some x) (hx:Loc X.env.scope x) (hf:X.fn x=true∨X.env.scope.names.lookup x=some .local:=by first | exact .inl rfl | exact .inr rfl | assumption):PGp K X (.Name x pos) (gN i) :=
 fun _=>PG.imp (ag7 hN hi hx hf) fun x σ H Q ⟨p,S,ρ,v,ρ',s,ev,r,g,k⟩=>by
  cases g
  exact k _ (ev.set (v:=.pv v) r i)
theorem qA:vI K X [] fN:=fun _=>PGs.imp ahq fun xs σ H Q ⟨p,S,ρ,vs,ρ',s,ev,r,g,k⟩=>by
 cases vs with
 | nil =>
  cases g
  unfold aT at r
  exact ⟨r,k _ ev⟩
 | cons _ _=>cases g
theorem iZ {g:GM} {gs:GMs} (h1:PGp K X e g) (h2:vI K X es gs) (hs:(assignEach (e :: es) X.env).map (·.2)=assign e X.env :: (assignEach es X.env).map (·.2):=by rfl):vI K X (e :: es) (dM g gs):=by
 intro hK
 subst hK
 refine PGs.imp (afe (h1 rfl) (h2 rfl) hs) fun xs σ H Q ⟨p,S,ρ,vs,ρ',s,ev,r,g1,k⟩=>?_
 cases vs with
 | nil=>cases g1
 | cons v vr =>
  unfold aT at r
  obtain ⟨x,xr,rfl,r1,r2⟩:=r
  unfold dM at g1
  cases z:g v ρ with
  | none=>simp only [z] at g1; cases g1
  | some ρ1 =>
   simp only [z] at g1
   exact ⟨x,xr,rfl,p,S,ρ,v,ρ1,s,ev,r1,z,fun σ' ev'=>⟨p,S,ρ1,vr,ρ',s,ev',r2,g1,k⟩⟩
theorem qH {k:Nat} {gs:GMs} {n:Nat} (hc:X.calm=true) (h:vI K X es gs) (hn:(assignEach es X.env).length=n:=by rfl) (hst:(assignEach es X.env).findIdx? (·.1)=none:=by rfl):PGp K X (.Tuple es k pos) (gT n gs):=by
 intro hK
 subst hK
 refine PG.imp (ajN hc (h rfl) hn hst) fun x σ H Q ⟨p,S,ρ,v,ρ',s,ev,r,g1,k⟩=>?_
 cases v with
 | tup vs =>
  unfold Rep at r
  obtain ⟨a,xs,rfl,t,z,r⟩:=r
  unfold gT at g1
  dsimp only at g1
  split at g1
  ·rename_i hl
   exact ⟨a,xs,rfl,t,r.length.symm.trans hl,p,S,ρ,vs,ρ',s,ev,r,g1,k⟩
  ·cases g1
 | _=>cases g1
theorem ag9 {g:GM} (he:PEp K cl E X e m) (hg:PGp K X tg g) (hs:swapsWithSole [tg] e pos.line X.env=pure false:=by rfl) (hw:swappedStores [tg] e X.env=pure none:=by rfl)
  (h1:(assignEach [tg] X.env).map (·.2)=[assign tg X.env]:=by rfl):PSp K cl E X (.Assign [tg] e pos) (pI g m):=by
 intro hK
 subst hK
 refine PS.imp (agd (he rfl) (hg rfl) hs hw h1) fun D σ H ⟨p,S,ρ,s,e,h⟩=>?_
 refine iJ s e h fun q H' a b S' stp sm ev r k=>?_
 cases a with
 | ref k'=>exact k.elim
 | pv v =>
  dsimp only at k
  cases z:g v ρ with
  | none=>simp only [z] at k; exact k.elim
  | some ρ1 =>
   simp only [z] at k
   exact ⟨q,S',ρ,v,ρ1,sm,ev,r,z,fun σ' ev'=>dB.nxD k sm ev'⟩
def dN (K:PySem.W.Frag) (p:Ph) (H:Hp) (xs:List PV × Gd) (J:It):Prop:=xs.1.length≤sizeLine∧∀ q H1 S1,bK p H q H1→Sim K q S1 H1→gOk xs.2 S1 →
 (∀ (i:Nat) (v:PV),xs.1[i]?=some v→J.go i H1∧∀ x H2,J.yld i H1 x H2→bZ H1 H2∧Rep K q.c H2 v x)∧J.stop xs.1.length H1
theorem dN.step {p q:Ph} {H H':Hp} {xs:List PV × Gd} {J:It} (h:dN K p H xs J) (s:bK p H q H'):dN K q H' xs J:=⟨h.1,fun r H1 S1 t=>h.2 r H1 S1 (s.trans t)⟩
variable (K cl E X)
def PIp (tg iter:Expr) (m:MI):Prop:=X.K=K→PI X tg iter (tP K cl E (dN K) m)
variable {K cl E X}
theorem PI.imp {tg iter:Expr} {t t':TI} (h:PI X tg iter t) (i:∀ σ H Q,t' σ H Q→t σ H Q):PI X tg iter t':=fun pins s σ H R I q=>h pins s σ H R I (i σ H R q)
def alp (K:PySem.W.Frag) (tl:TE):TI:=fun σ H R=>tl σ H fun x H1=>∃ a,x=.ref a∧(((∃ xs,SqL K H1 a xs)∧R (Itl K a) H1)∨((∃ xs,SqT K H1 a xs)∧R (Itt K a) H1))
theorem aiT {l:Expr} {tl:TE} (hl:PE X l tl):PI X tg l (alp X.K tl):=by
 intro pins s σ H R I h
 refine thn (hl pins s σ H _ I h) fun v s1 ⟨x,H1,I1,r1,q1⟩=>?_
 obtain ⟨a,e,q⟩:=q1
 subst e
 cases r1
 rcases q with ⟨⟨xs,hq⟩,q⟩ | ⟨⟨xs,hq⟩,q⟩
 ·obtain ⟨its,rv,p,hz⟩:=I1.list hq
  refine wpAny_pyIter_list p.isList ?_
  refine ⟨s1.heap.objs.size,[s1.heap.objs.size],_,_,H1,rfl,I1.kept (t':=s1.toks) fun b o e=>Heap.get?_push_of_some _ e,adK a _,⟨_,Heap.get?_push_size _ rfl,rfl,rfl⟩,fun b hb=>?_,q⟩
  have e:b=s1.heap.objs.size:=by simpa using hb
  subst e
  exact I1.fpOk (Nat.le_refl _) (I1.hok.fresh (Nat.le_refl _))
 ·obtain ⟨its,rv,p,hz⟩:=I1.tuple hq
  refine wpAny_pyIter_tuple (show s1.heap.IsTuple a its.toArray from p) ?_
  refine ⟨s1.heap.objs.size,[s1.heap.objs.size],_,_,H1,rfl,I1.kept (t':=s1.toks) fun b o e=>Heap.get?_push_of_some _ e,adv a _,⟨_,Heap.get?_push_size _ rfl,rfl,rfl⟩,fun b hb=>?_,q⟩
  have e:b=s1.heap.objs.size:=by simpa using hb
  subst e
  exact I1.fpOk (Nat.le_refl _) (I1.hok.fresh (Nat.le_refl _))
def bV:AV→Sto→Res (List PV × Gd)
 | .pv (.lst xs),S=>.ok (xs,[]) S
 | .pv (.tup xs),S=>.ok (xs,[]) S
 | .ref k,S=>match S[k]? with
  | some (.lst xs)=>.ok (xs,[(k,xs)]) S
  | _=>.fail
 | _,_=>.fail
def mIt (m:ME):MI:=fun ρ S=>(m ρ S).bind bV
theorem ail {p:Ph} {H:Hp} {xs:List PV} {a:Addr} {vs:List V} (l:LAt K p.c H a vs) (z:vs.length≤sizeLine) (r:aT K p.c H xs vs):dN K p H (xs,[]) (Itl K a):=by
 refine ⟨by rw [r.length]; exact z,fun q H1 S1 st _ _=>⟨fun i v e=>?_,?_⟩⟩
 ·have l1:=(st.lat l).sq
  obtain ⟨x,e1,r1⟩:=(st.reps r).get e
  refine ⟨⟨vs,x,l1,e1⟩,fun y H2 hy=>?_⟩
  obtain ⟨rfl,hy⟩:=hy
  have:=(hy vs l1).symm.trans e1
  cases this
  exact ⟨bZ.refl _,r1⟩
 ·exact ⟨vs,(st.lat l).sq,by rw [r.length]; exact Nat.le_refl _⟩
theorem aje {p:Ph} {H:Hp} {xs:List PV} {a:Addr} {vs:List V} (l:SqT K H a vs) (z:vs.length≤sizeLine) (r:aT K p.c H xs vs):dN K p H (xs,[]) (Itt K a):=by
 refine ⟨by rw [r.length]; exact z,fun q H1 S1 st _ _=>⟨fun i v e=>?_,?_⟩⟩
 ·have l1:=st.tup l
  obtain ⟨x,e1,r1⟩:=(st.reps r).get e
  refine ⟨⟨vs,x,l1,e1⟩,fun y H2 hy=>?_⟩
  obtain ⟨rfl,hy⟩:=hy
  have:=(hy vs l1).symm.trans e1
  cases this
  exact ⟨bZ.refl _,r1⟩
 ·exact ⟨vs,st.tup l,by rw [r.length]; exact Nat.le_refl _⟩
theorem aiF {p:Ph} {H:Hp} {xs:List PV} {a:Addr} {k:Nat} {n:xs.length≤sizeLine} (hf:p.f[k]?=some a):dN K p H (xs,[(k,xs)]) (Itl K a):=by
 refine ⟨n,fun q H1 S1 st sm g=>?_⟩
 have e0:S1[k]?=some (.lst xs):=g (k,xs) List.mem_cons_self
 obtain ⟨vs,h1,l1,r1⟩:=sm.obj k a _ (st.at_ hf) e0
 refine ⟨fun i v e=>?_,?_⟩
 ·obtain ⟨x,e1,r2⟩:=r1.get e
  refine ⟨⟨vs,x,SqL.of h1,e1⟩,fun y H2 hy=>?_⟩
  obtain ⟨rfl,hy⟩:=hy
  have:=(hy vs (SqL.of h1)).symm.trans e1
  cases this
  exact ⟨bZ.refl _,r2⟩
 ·exact ⟨vs,SqL.of h1,by rw [r1.length]; exact Nat.le_refl _⟩
theorem dP (h:PEp K cl E X e m):PIp K cl E X tg e (mIt m):=by
 intro hK
 subst hK
 refine PI.imp (aiT (h rfl)) fun σ H R ⟨p,S,ρ,s,ev,h⟩=>?_
 refine bO s ev h fun q H' v x S' stp sm ev r k=>?_
 cases v with
 | ref j =>
  obtain ⟨a,e,rfl⟩:=r
  unfold bV at k
  dsimp only at k
  cases z:S'[j]? with
  | none=>rw [z] at k; exact k.elim
  | some o =>
   cases o with
   | lst xs =>
    rw [z] at k
    obtain ⟨vs,h1,l1,r1⟩:=sm.obj j a _ e z
    exact ⟨a,rfl,.inl ⟨⟨vs,SqL.of h1⟩,bN.ret (R:=dN X.K) k sm (aiF (n:=by rw [r1.length]; exact l1) e)⟩⟩
   | lol xss=>rw [z] at k; exact k.elim
 | pv v =>
  cases v with
  | lst xs =>
   have r:Rep X.K q.c H' (.lst xs) x:=r
   unfold Rep at r
   obtain ⟨a,vs,rfl,l,z,r⟩:=r
   exact ⟨a,rfl,.inl ⟨⟨vs,l.sq⟩,bN.ret (R:=dN X.K) k sm (ail l z r)⟩⟩
  | tup xs =>
   have r:Rep X.K q.c H' (.tup xs) x:=r
   unfold Rep at r
   obtain ⟨a,vs,rfl,l,z,r⟩:=r
   exact ⟨a,rfl,.inr ⟨⟨vs,l⟩,bN.ret (R:=dN X.K) k sm (aje l z r)⟩⟩
  | _=>exact k.elim
def cL (lo:Int) (n:Nat):List PV:=(List.range n).map fun i=>.int (lo+(i:Nat))
def pJ:List AV→Sto→Res (List PV × Gd)
 | [.pv (.int j)],S1=>@ite _ (j≤16777216∧-16777216≤j) (Classical.propDecidable _) (.ok (cL 0 j.toNat,[]) S1) .fail
 | _,_=>.fail
def dY (ms:MA):MI:=fun ρ S=>(ms ρ S).bind pJ
theorem ajd {p:Ph} {H:Hp} {lo:Int} {n:Nat} (h:n≤sizeLine):dN K p H (cL lo n,[]) (Itr lo n):=by
 have hl:(cL lo n).length=n:=by unfold cL; rw [List.length_map,List.length_range]
 refine ⟨by show (cL lo n).length≤_; rw [hl]; exact h,fun q H1 S1 st _ _=>⟨fun i v e=>?_,?_⟩⟩
 ·have hi:i < n:=by
   have:=(List.getElem?_eq_some_iff.mp (show (cL lo n)[i]?=some v from e)).1
   omega
  refine ⟨hi,fun x H2 hy=>?_⟩
  obtain ⟨rfl,rfl⟩:=hy
  have e:(cL lo n)[i]?=some v:=e
  unfold cL at e
  rw [List.getElem?_map,List.getElem?_range hi] at e
  cases e
  refine ⟨bZ.refl _,?_⟩
  unfold Rep
  rfl
 ·show n≤(cL lo n).length
  rw [hl]
  exact Nat.le_refl n
theorem lM {p:Pos} (hg:Gl X "range") (hm:X.mg "range"=none) (ha:PAp K cl E X [a] ms) (hs:starEach [a] X.env=[(false,eval a X.env)]:=by rfl):PIp K cl E X tg (.Call (.Name "range" p) [a] [] pos) (dY ms):=by
 intro hK
 subst hK
 refine PI.imp (adJ hg hm (ha rfl) hs) fun σ H R ⟨p,S,ρ,s,ev,h⟩=>?_
 refine bO s ev h fun q H' vs xs S' stp sm ev r k=>?_
 unfold pJ at k
 split at k
 ·rename_i j
  cases r with
  | cons r1 r2 =>
   cases r2
   rename_i x
   have e:x=.int j:=by
    have r1:Rep X.K q.c H' (.int j) x:=r1
    unfold Rep at r1
    exact r1
   subst e
   split at k
   ·rename_i hj
    have hz:=fB
    exact ⟨j,rfl,by omega,by omega,bN.ret (R:=dN X.K) k sm (ajd (by omega))⟩
   ·exact k.elim
 ·exact k.elim
theorem kN {mi:MI} {g:GM} (hp:PassesOwn (model X.prog X.w) X.A X.env X.xe) (hc:X.calm=true) (hi:PIp K cl E X tg e mi) (hg:PGp K X tg g) (hb:iS K cl E X sts b1)
  (hs:∀ x,foldedSetIterable e X.env x=pure x:=by intro _; rfl):PSp K cl E X (.For tg e sts [] pos) (dJ mi g b1):=by
 intro hK
 subst hK
 refine PS.imp (ajT hp hc (hi rfl) (hg rfl) (hb rfl) hs) fun D σ H ⟨p,S,ρ,s,ev,h⟩=>?_
 refine iJ s ev h fun q H' xg J S' stp sm ev it k=>?_
 obtain ⟨xs,G⟩:=xg
 refine ⟨fun i n σ H=>n=xs.length - i∧i≤xs.length∧∃ p S ρ,Sim X.K p S H∧cO X.K p H ρ σ∧dN X.K p H (xs,G) J∧dB X.K cl p H (dH G g b1 (xs.drop i) ρ S) D E,⟨xs.length,by simp,Nat.zero_le _,q,S',ρ,sm,ev,it,by simpa using k⟩,?_⟩
 rintro i n σ1 H1 ⟨rfl,hi,p1,S1,ρ1,sm1,ev1,it1,k1⟩
 by_cases hlt:i < xs.length
 ·have hx:xs[i]?=some xs[i]:=List.getElem?_eq_getElem hlt
  rw [List.drop_eq_getElem_cons hlt] at k1
  unfold dH at k1
  split at k1
  ·rename_i gk
   obtain ⟨g1,y1⟩:=(it1.2 p1 H1 S1 sm1.step sm1 gk).1 i _ hx
   cases z:g xs[i] ρ1 with
   | none=>simp only [z] at k1; exact k1.elim
   | some ρ2 =>
    simp only [z] at k1
    refine .inr ⟨g1,fun σ' H'=>i+1≤xs.length∧∃ p S ρ,Sim X.K p S H'∧cO X.K p H' ρ σ'∧dN X.K p H' (xs,G) J∧dB X.K cl p H' (dH G g b1 (xs.drop (i+1)) ρ S) D E,fun σ' H' hN=>⟨xs.length - (i+1),by omega,rfl,hN⟩,fun x H2 hy=>?_⟩
    obtain ⟨same,rx⟩:=y1 x H2 hy
    have st2:=sm1.same same
    have sm2:=sm1.ofSame same
    refine ⟨p1,S1,ρ1,xs[i],ρ2,sm2,st2.repE ev1,rx,z,fun σ3 ev3=>⟨p1,S1,ρ2,sm2,ev3,?_⟩⟩
    have it2:=it1.step st2
    cases y:b1 ρ2 S1 with
    | nx ρ4 S4 =>
     rw [y] at k1
     exact fun q5 H5 σ5 st5 sm5 ev5=>⟨hlt,q5,S4,ρ4,sm5,ev5,it2.step st5,dB.mono (r:=dH G g b1 (xs.drop (i+1)) ρ4 S4) k1 (st2.trans st5)⟩
    | ct ρ4 S4 =>
     rw [y] at k1
     exact fun q5 H5 σ5 st5 sm5 ev5=>⟨hlt,q5,S4,ρ4,sm5,ev5,it2.step st5,dB.mono (r:=dH G g b1 (xs.drop (i+1)) ρ4 S4) k1 (st2.trans st5)⟩
    | bk ρ4 S4=>rw [y] at k1; exact dB.mono (r:=.nx ρ4 S4) k1 st2
    | rt v S4=>rw [y] at k1; exact dB.mono (r:=.rt v S4) k1 st2
    | exc v S4=>rw [y] at k1; exact dB.mono (r:=.exc v S4) k1 st2
    | fail=>rw [y] at k1; exact k1.elim
  ·exact k1.elim
 ·have e:i=xs.length:=by omega
  subst e
  rw [List.drop_length] at k1
  unfold dH at k1
  split at k1
  ·rename_i gk
   exact .inl ⟨(it1.2 p1 H1 S1 sm1.step sm1 gk).2,dB.nxD k1 sm1 ev1⟩
  ·exact k1.elim
theorem xQ (hp:PassesOwn (model X.prog X.w) X.A X.env X.xe) (hc:PTp K cl E X c mt) (hb:iS K cl E X sts b1):PSp K cl E X (.While c sts [] pos) (mD mt b1):=by
 intro hK
 subst hK
 refine PS.imp (afD hp (hc rfl) (hb rfl)) fun D σ H ⟨p,S,ρ,s,ev,h⟩=>?_
 unfold mD at h
 split at h
 ·rename_i hh
  refine ⟨fun n σ H=>∃ p S ρ,Sim X.K p S H∧cO X.K p H ρ σ∧dB X.K cl p H (cZ mt b1 n ρ S) D E,⟨_,p,S,ρ,s,ev,h⟩,?_⟩
  rintro n σ1 H1 ⟨p1,S1,ρ1,sm1,ev1,k1⟩
  cases n with
  | zero=>exact k1.elim
  | succ n =>
   unfold cZ at k1
   refine iJ sm1 ev1 k1 fun q H2 t t' S2 stp sm2 ev2 r k2=>?_
   cases r
   cases t with
   | true =>
    rw [if_pos rfl] at k2 ⊢
    refine ⟨fun σ' H'=>∃ p S ρ,Sim X.K p S H'∧cO X.K p H' ρ σ'∧dB X.K cl p H' (cZ mt b1 n ρ S) D E,fun σ' H' hN=>⟨n,Nat.lt_succ_self n,hN⟩,q,S2,ρ1,sm2,ev2,?_⟩
    cases y:b1 ρ1 S2 with
    | nx ρ4 S4 =>
     rw [y] at k2
     exact fun q5 H5 σ5 st5 sm5 ev5=>⟨q5,S4,ρ4,sm5,ev5,dB.mono (r:=cZ mt b1 n ρ4 S4) k2 st5⟩
    | ct ρ4 S4 =>
     rw [y] at k2
     exact fun q5 H5 σ5 st5 sm5 ev5=>⟨q5,S4,ρ4,sm5,ev5,dB.mono (r:=cZ mt b1 n ρ4 S4) k2 st5⟩
    | bk ρ4 S4=>rw [y] at k2; exact k2
    | rt v S4=>rw [y] at k2; exact k2
    | exc v S4=>rw [y] at k2; exact k2
    | fail=>rw [y] at k2; exact k2.elim
   | false =>
    rw [if_neg Bool.false_ne_true] at k2 ⊢
    exact dB.nxD k2 sm2 ev2
 ·exact h.elim
end
end
end L2.Pp
namespace L2.Pp
open PySem PySem.Spec PyProof.Rows Bn
def iM (n:Nat) (xs:List AV):Rho:=xs.map some++List.replicate (n - xs.length) none
def kY (n:Nat):AV→Sto→Res AV
 | .pv v,S=>.ok (.pv v) (S.take n)
 | .ref k,S=>if k < n then .ok (.ref k) (S.take n) else match S[k]? with
  | some (.lst xs)=>.ok (.ref n) (S.take n++[.lst xs])
  | _=>.fail
def frz (n:Nat):Res AV→Res AV
 | .ok (.ref k) S=>if k < n then .ok (.ref k) S else match S[k]? with
  | some (.lst xs)=>.ok (.pv (.lst xs)) (S.take n)
  | _=>.fail
 | r=>r
def iK (n:Nat):cE→Res AV
 | .rt v S=>kY n v S
 | .nx _ S=>.ok (.pv .non) (S.take n)
 | .exc e S=>.exc e (S.take n)
 | _=>.fail
def fnM (np n:Nat) (b:MS) (xs:List AV) (S:Sto):Res AV:=if xs.length=np then iK S.length (b (iM n xs) S) else .fail
def aL {α:Type}:Res α→Res α
 | .ok a S=>.ok a S
 | _=>.fail
abbrev FM:=List AV→Sto→Res AV
def bW (f:FM) (ds:List PV) (ms:MA):ME:=fun ρ S=>(ms ρ S).bind fun xs S1=>frz S1.length (f (xs++ds.map .pv) S1)
def aY (f:FM) (ds:List PV) (ms:MA):ME:=fun ρ S=>(ms ρ S).bind fun xs S1=>frz S1.length (aL (f (xs++ds.map .pv) S1))
def tY (f:FM) (ds:List PV) (ms:MA):ME:=fun ρ S=>(ms ρ S).bind fun xs S1=>aL (f (xs++ds.map .pv) S1)
def spP (K:PySem.W.Frag) (cl:Str→Addr) (f:FM):Sp:=fun vs H Q E=>∃ p S xs,Sim K p S H∧fT K p H xs vs∧bN K cl (bU K) p H (f xs S) Q E
def bL (K:PySem.W.Frag) (cl:Str→Addr) (f:FM):Sp:=fun vs H Q _=>spP K cl f vs H Q E0
section
variable {K:PySem.W.Frag} {cl:Str→Addr} {p q:Ph} {H H':Hp} {S S':Sto}
theorem abg {c c':Addr→Prop} (h:∀ a,c a→c' a) {a:Addr} {vs:List V} (l:LAt K c' H a vs):LAt K c H a vs:=by
 rcases l with ⟨l,n⟩ | l | l
 ·exact .inl ⟨l,fun z=>n (h a z)⟩
 ·exact .inr (.inl l)
 ·exact .inr (.inr l)
theorem pP {c c':Addr→Prop} (h:∀ a,c a→c' a) {ps:List PV} {vs:List V} (r:aT K c' H ps vs):aT K c H ps vs:=aT.mono (fun _ _ t=>t) (fun _ _ l=>abg h l) ps vs r
theorem ads {c c':Addr→Prop} (h:∀ a,c a→c' a) {v:PV} {x:V} (r:Rep K c' H v x):Rep K c H v x:=Rep.mono (fun _ _ t=>t) (fun _ _ l=>abg h l) v x r
theorem acy {f g:List Addr} (h:f <+: g):g.take f.length=f:=by
 obtain ⟨t,e⟩:=h
 rw [← e,List.take_left]
theorem xF {α:Type}:∀ {l:List α} {i j:Nat} {a:α},l.Nodup→l[i]?=some a→l[j]?=some a→i=j
 | [],i,j,a,_,e,_=>by simp at e
 | b :: l,0,0,a,_,_,_=>rfl
 | b :: l,0,j+1,a,n,e,f=>by
  simp at e f
  subst e
  exact absurd (List.mem_of_getElem? f) (List.nodup_cons.mp n).1
 | b :: l,i+1,0,a,n,e,f=>by
  simp at e f
  subst f
  exact absurd (List.mem_of_getElem? e) (List.nodup_cons.mp n).1
 | b :: l,i+1,j+1,a,n,e,f=>by
  exact congrArg (·+1) (xF (l:=l) (a:=a) (List.nodup_cons.mp n).2 (by simpa using e) (by simpa using f))
theorem Sim.cutX (D:Addr→Prop) (s:Sim K p S H) (st:bK p H q H') (s':Sim K q S' H') (hD:∀ b,D b→H b=none) (hq:(∀ b,D b→b∈q.f)∨∀ k xss,S'[k]?=some (.lol xss)→¬ k < S.length) :
  let r:Ph:=⟨p.f,fun b=>q.w b∧¬ D b,fun b=>q.c b∧¬ D b⟩
  bK p H r H'∧Sim K r (S'.take S.length) H':=by
 intro r
 have nD:∀ a,p.c a→¬ D a:=fun a c d=>by
  obtain ⟨o,ho,_⟩:=s.mu a c
  rw [hD a d] at ho
  cases ho
 have le:S.length≤S'.length:=by
  have:=st.pre.length_le
  rw [← s.len,← s'.len]
  exact this
 refine ⟨⟨s.wc,s.mu,List.prefix_rfl,fun a h=>⟨st.mw a h,nD a (s.wc a h)⟩,fun a h=>⟨st.mono a h,nD a h⟩,fun _ h g=>absurd h g,fun a h=>st.nw a h.1,fun a h=>st.nc a h.1,st.keep⟩,s.nd,by rw [s.len,List.length_take]; omega,fun a h=>⟨st.mw a (s.sub a h),nD a (s.wc a (s.sub a h))⟩,fun a h=>⟨s'.wc a h.1,h.2⟩,fun a h=>s'.mu a h.1,fun k a o e1 e2=>?_⟩
 have hk:k < S.length:=by
  have:=(List.getElem?_eq_some_iff.mp e1).1
  rw [← s.len]
  exact this
 have e2':S'[k]?=some o:=by
  rw [List.getElem?_take,if_pos hk] at e2
  exact e2
 have z:=s'.obj k a o (st.at_ e1) e2'
 have shr:∀ xs vs,aT K q.c H' xs vs→aT K r.c H' xs vs:=fun xs vs=>pP (fun b h=>h.1)
 have sub:∀ b,b ∉ q.f→b ∉ p.f:=fun b n h=>n (st.pre.subset h)
 rcases hq with hq | hq
 ·exact z.mono (fun _ e=>e) (fun b w f=>⟨⟨⟨w,fun d=>f (hq b d)⟩,sub b f⟩,fun _ e=>e⟩) shr
 ·cases o with
  | lst xs =>
   obtain ⟨vs,e,l,g⟩:=z
   exact ⟨vs,e,l,shr xs vs g⟩
  | lol xss=>exact absurd hk (hq k xss e2')
theorem Sim.cut (s:Sim K p S H) (st:bK p H q H') (s':Sim K q S' H'):bK p H ⟨p.f,fun b=>q.w b∧¬ False,fun b=>q.c b∧¬ False⟩ H'∧Sim K ⟨p.f,fun b=>q.w b∧¬ False,fun b=>q.c b∧¬ False⟩ (S'.take S.length) H' :=
 s.cutX (fun _=>False) st s' (fun _ h=>h.elim) (.inl fun _ h=>h.elim)
theorem ack (s:Sim K p S H) (st:bK p H q H') (sm:Sim K q S' H') {k:Nat} {a:Addr} (e:q.f[k]?=some a) (hk:¬ k < S.length):a ∉ p.f∧H a=none∧¬ p.c a:=by
 have na:a ∉ p.f:=fun hm=>by
  obtain ⟨j,hj,ej⟩:=List.getElem_of_mem hm
  have e2:q.f[j]?=some a:=st.at_ (by rw [List.getElem?_eq_getElem hj,ej])
  have hjk:j=k:=xF sm.nd e2 e
  rw [s.len] at hj
  omega
 have hn:=st.nf a (List.mem_of_getElem? e) na
 refine ⟨na,hn,fun c=>?_⟩
 obtain ⟨o,ho,_⟩:=s.mu a c
 rw [hn] at ho
 cases ho
theorem pZ {r:Res AV} {Q:VK} {E:XK} (s:Sim K p S H) (h:bN K cl (bU K) p H (frz S.length r) Q E):bN K cl (bU K) p H r Q E:=by
 cases r with
 | exc n S1=>exact h
 | fail=>exact h
 | ok v S1 =>
  cases v with
  | pv v=>exact h
  | ref k =>
   have h:bN K cl (bU K) p H (if k < S.length then .ok (.ref k) S1 else match S1[k]? with
    | some (.lst xs)=>.ok (.pv (.lst xs)) (S1.take S.length)
    | _=>.fail) Q E:=h
   split at h
   ·exact h
   ·rename_i hk
    cases z:S1[k]? with
    | none=>rw [z] at h; exact h.elim
    | some o =>
     cases o with
     | lol xss=>rw [z] at h; exact h.elim
     | lst xs =>
      rw [z] at h
      intro q H' x st sm r
      obtain ⟨a,e,rfl⟩:=r
      obtain ⟨na,hn,nc⟩:=ack s st sm e hk
      obtain ⟨st1,sm1⟩:=s.cutX (fun b=>b=a) st sm (fun b d=>d ▸ hn) (.inl fun b d=>d ▸ List.mem_of_getElem? e)
      obtain ⟨vs,h1,l,r⟩:=sm.obj k a _ e z
      refine h _ H' (.ref a) st1 sm1 ?_
      show Rep K (fun b=>q.c b∧¬ b=a) H' (.lst xs) (.ref a)
      unfold Rep
      exact ⟨a,vs,rfl,.inl ⟨h1,fun d=>d.2 rfl⟩,l,pP (fun b h=>h.1) r⟩
theorem wX {r:cE} {Q:VK} {E:XK} (s:Sim K p S H) (h:bN K cl (bU K) p H (iK S.length r) Q E):dB K cl p H r { nx:=fun _ H'=>Q .non H',rt:=Q } E:=by
 cases r with
 | nx ρ S1 =>
  intro q H' σ st sm ev
  obtain ⟨st1,sm1⟩:=s.cut st sm
  exact h _ H' .non st1 sm1 (by show Rep K (fun b=>q.c b∧¬ False) H' .non .non; unfold Rep; rfl)
 | exc n S1 =>
  intro q H' st sm
  obtain ⟨st1,sm1⟩:=s.cut st sm
  exact h _ H' st1 sm1
 | rt v S1 =>
  intro q H' x st sm r
  obtain ⟨st1,sm1⟩:=s.cut st sm
  cases v with
  | pv v=>exact h _ H' x st1 sm1 (show Rep K (fun b=>q.c b∧¬ False) H' v x from ads (fun b h=>h.1) r)
  | ref k =>
   obtain ⟨a,e,rfl⟩:=r
   have h:bN K cl (bU K) p H (if k < S.length then .ok (.ref k) (S1.take S.length) else match S1[k]? with
    | some (.lst xs)=>.ok (.ref S.length) (S1.take S.length++[.lst xs])
    | _=>.fail) Q E:=h
   split at h
   ·rename_i hk
    refine h _ H' (.ref a) st1 sm1 ⟨a,?_,rfl⟩
    show p.f[k]?=some a
    have hf:=acy st.pre
    rw [← hf,List.getElem?_take,if_pos (by rw [s.len]; exact hk)]
    exact e
   ·rename_i hk
    cases z:S1[k]? with
    | none=>rw [z] at h; exact h.elim
    | some o =>
     cases o with
     | lol xss=>rw [z] at h; exact h.elim
     | lst xs =>
      rw [z] at h
      obtain ⟨vs,h1,l,r⟩:=sm.obj k a _ e z
      obtain ⟨na,hn,nc⟩:=ack s st sm e hk
      have l1:(S1.take S.length).length=S.length:=by rw [← sm1.len,← s.len]
      have ma:a∈q.f:=List.mem_of_getElem? e
      refine h ⟨p.f++[a],q.w,q.c⟩ H' (.ref a) ⟨s.wc,s.mu,⟨[a],rfl⟩,st.mw,st.mono,fun b hb n=>?_,st.nw,st.nc,st.keep⟩ ⟨?_,?_,fun b hb=>?_,sm.wc,sm.mu,fun j b o e1 e2=>?_⟩ ⟨a,?_,rfl⟩
      ·rcases List.mem_append.mp hb with z | z
       ·exact absurd z n
       ·have:b=a:=by simpa using z
        rw [this]
        exact hn
      ·show (p.f++[a]).Nodup
       rw [List.nodup_append]
       refine ⟨s.nd,by simp,fun b hb c hc z=>?_⟩
       have:c=a:=by simpa using hc
       exact na (this ▸ z ▸ hb)
      ·show (p.f++[a]).length=_
       rw [List.length_append,List.length_append,l1,s.len]
       rfl
      ·rcases List.mem_append.mp hb with z | z
       ·exact st.mw b (s.sub b z)
       ·have:b=a:=by simpa using z
        rw [this]
        exact sm.sub a ma
      ·by_cases hj:j < S.length
       ·have e1':p.f[j]?=some b:=by
         have e1:(p.f++[a])[j]?=some b:=e1
         rwa [List.getElem?_append_left (by rw [s.len]; exact hj)] at e1
        rw [List.getElem?_append_left (by rw [l1]; exact hj),List.getElem?_take,if_pos hj] at e2
        refine (sm.obj j b o (st.at_ e1') e2).mono (fun _ e=>e) (fun c w f=>⟨⟨w,fun m=>?_⟩,fun _ e=>e⟩) fun _ _ r=>r
        rcases List.mem_append.mp m with z | z
        ·exact f (st.pre.subset z)
        ·have:c=a:=by simpa using z
         exact f (this ▸ ma)
       ·have hj':j=S.length:=by
         have:=(List.getElem?_eq_some_iff.mp e2).1
         rw [List.length_append,l1] at this
         simp at this
         omega
        subst hj'
        rw [List.getElem?_append_right (by rw [l1]; exact Nat.le_refl _),l1,Nat.sub_self] at e2
        have e1:(p.f++[a])[S.length]?=some b:=e1
        rw [← s.len,List.getElem?_append_right (Nat.le_refl _),Nat.sub_self] at e1
        cases e1
        cases e2
        exact ⟨vs,h1,l,r⟩
      ·show (p.f++[a])[S.length]?=some a
       rw [← s.len,List.getElem?_append_right (Nat.le_refl _),Nat.sub_self]
       rfl
 | bk ρ S1=>exact h.elim
 | ct ρ S1=>exact h.elim
 | fail=>exact h.elim
theorem wZ {N:List Str} {xs:List AV} {vs:List V} (r:fT K p H xs vs):cO K p H (iM N.length xs) (L2.start N vs):=by
 have go:∀ {xs:List AV} {vs:List V},fT K p H xs vs→xs.length=vs.length:=fun {xs vs} r=>by
  induction r with
  | nil=>rfl
  | cons _ _ ih=>rw [List.length_cons,List.length_cons,ih]
 have get:∀ {xs:List AV} {vs:List V},fT K p H xs vs→∀ (i:Nat) (v:AV),xs[i]?=some v→∃ x,vs[i]?=some x∧bU K p H v x:=fun {xs vs} r=>by
  induction r with
  | nil=>intro i v e; simp at e
  | cons h _ ih =>
   intro i v e
   cases i with
   | zero =>
    simp at e
    subst e
    exact ⟨_,rfl,h⟩
   | succ i=>simpa using ih i v (by simpa using e)
 have hl:=go r
 refine ⟨by unfold iM L2.start; simp [hl],fun i v e=>?_⟩
 unfold iM at e
 unfold L2.start
 by_cases hi:i < xs.length
 ·rw [List.getElem?_append_left (by simpa using hi),List.getElem?_map] at e
  cases z:xs[i]? with
  | none=>rw [z] at e; cases e
  | some u =>
   rw [z] at e
   cases e
   obtain ⟨x,e1,e2⟩:=get r i v z
   refine ⟨x,?_,e2⟩
   rw [List.getElem?_append_left (by rw [List.length_map,← hl]; exact hi),List.getElem?_map,e1]
   rfl
 ·rw [List.getElem?_append_right (by rw [List.length_map]; omega),List.getElem?_replicate] at e
  split at e
  ·cases e
  ·cases e
end
section
variable {P:Program} {w:World} {K:PySem.W.Frag} {mg:Str→Option Value} {base:Heap} {cl:Str→Addr}
theorem aew {K:PySem.W.Frag} {p:Ph} {H:Hp} {xs:List AV} {vs:List V} (h:fT K p H xs vs):xs.length=vs.length:=by
 induction h with
 | nil=>rfl
 | cons _ _ ih=>rw [List.length_cons,List.length_cons,ih]
theorem zP {np n:Nat} {b:MS} {vs:List V} {H:Hp} {Q:VK} {E:XK} (h:spP K cl (fnM np n b) vs H Q E):vs.length=np:=by
 obtain ⟨p,S,xs,sm,ra,h⟩:=h
 unfold fnM at h
 split at h
 ·rename_i e
  rw [← aew ra,e]
 ·exact h.elim
theorem okP {x qual:Str} {st:Stmt} {f:Addr} {fd:FuncData} {N ps:List Str} {k np n:Nat} {b:MS} (F:Fun K x qual st f fd) (S:bQ N ps (aX st)) (hnp:ps.length=np) (hn:N.length=n)
  (hb:∀ (cdv:Value) (A:Around) (outer:List Env) (s:Shared) (H:Hp) (E:XK),cY k (A.deeper (envOfC qual (aX st) s.heap.objs.size f cdv))→iS K cl E0 (aM CX0 P w K mg base N qual (aX st) f cdv A outer s H E).nox (eT st) b) :
  aW P w K mg base CX0 (k+1) f fd ps (bL K cl (fnM np n b)):=by
 subst hnp hn
 refine F.ok S (fun vs H Q E h=>zP h) fun cdv A outer s H vs Q E hr h=>⟨_,hb cdv A outer s H E hr rfl,?_⟩
 obtain ⟨p,S,xs,sm,ra,h⟩:=h
 unfold fnM at h
 split at h
 ·exact ⟨p,S,_,sm,wZ ra,wX sm h⟩
 ·exact h.elim
theorem okX {x qual:Str} {st:Stmt} {f:Addr} {fd:FuncData} {N ps:List Str} {k np n:Nat} {b:MS} (F:Fun K x qual st f fd) (S:bQ N ps (aX st)) (hnp:ps.length=np) (hn:N.length=n)
  (hb:∀ (cdv:Value) (A:Around) (outer:List Env) (s:Shared) (H:Hp) (E:XK),cY k (A.deeper (envOfC qual (aX st) s.heap.objs.size f cdv))→iS K cl E (aM (CX1 P w) P w K mg base N qual (aX st) f cdv A outer s H E) (eT st) b) :
  aW P w K mg base (CX1 P w) (k+1) f fd ps (spP K cl (fnM np n b)):=by
 subst hnp hn
 refine F.okX S (fun vs H Q E h=>zP h) fun cdv A outer s H vs Q E hr h=>⟨_,hb cdv A outer s H E hr rfl,?_⟩
 obtain ⟨p,S,xs,sm,ra,h⟩:=h
 unfold fnM at h
 split at h
 ·exact ⟨p,S,_,sm,wZ ra,wX sm h⟩
 ·exact h.elim
theorem ak1 {x qual:Str} {st:Stmt} {f:Addr} {fd:FuncData} {ds:Array Value} {N ps:List Str} {k np n:Nat} {b:MS} (F:lG K x qual st f fd ds) (S:bQ N ps (aX st)) (hnp:ps.length=np) (hn:N.length=n)
  (hb:∀ (cdv:Value) (A:Around) (outer:List Env) (s:Shared) (H:Hp) (E:XK),cY k (A.deeper (envOfC qual (aX st) s.heap.objs.size f cdv))→iS K cl E (aM (CX1 P w) P w K mg base N qual (aX st) f cdv A outer s H E) (eT st) b) :
  aW P w K mg base (CX1 P w) (k+1) f fd ps (spP K cl (fnM np n b)):=by
 subst hnp hn
 refine F.okX S (fun vs H Q E h=>zP h) fun cdv A outer s H vs Q E hr h=>⟨_,hb cdv A outer s H E hr rfl,?_⟩
 obtain ⟨p,S,xs,sm,ra,h⟩:=h
 unfold fnM at h
 split at h
 ·exact ⟨p,S,_,sm,wZ ra,wX sm h⟩
 ·exact h.elim
theorem x0 {f:Addr} {fd:FuncData} {ps:List Str} {k:Nat} {g:FM} (F:aW P w K mg base (CX1 P w) k f fd ps (spP K cl g)):aW P w K mg base CX0 k f fd ps (bL K cl g) :=
 ⟨fun vs H Q E h=>F.len vs H Q E0 h,fun A outer s H args us vs Q E hr e0 hb hv h=>codeAny_mono (F.run A outer s H args us vs Q E0 hr e0 hb hv h) fun r s' hq=>by
  cases r with
  | error e =>
   obtain ⟨_,_,_,_,_,_,_,_,_,_,_,_,z⟩:=hq
   exact z
  | ok fl =>
   cases fl with
   | ret u=>exact hq
   | next=>exact hq
   | brk=>exact hq
   | cont=>exact hq⟩
end
section
variable {K:PySem.W.Frag} {cl:Str→Addr} {E:XK} {X:Cx} {e:Expr} {es:List Expr} {ms:MA} {pos p:Pos} {k n:Nat} {f:Addr} {fd:FuncData} {ps:List Str} {g:FM} {x:Str} {dvs:List V} {ds:List Value} {dv:List PV}
theorem nB {p:Ph} {H:Hp} {xs ys:List AV} {vs ws:List V} (h:fT K p H xs vs) (g:fT K p H ys ws):fT K p H (xs++ys) (vs++ws):=by
 induction h with
 | nil=>exact g
 | cons h _ ih=>exact .cons h ih
def Dv (dv:List PV) (dvs:List V):Prop:=∀ K p H,fT K p H (dv.map .pv) dvs
theorem Dv.nil:Dv [] []:=fun _ _ _=>.nil
theorem yM (F:aW X.prog X.w X.K X.mg X.base CX0 k f fd ps (bL K cl g)) (hr:cY k X.A) (hg:Gl X x) (hm:X.mg x=some (.ref f)) (hk:PySem.W.keepIn X.K (.ref f)=true) (hb:cU X.K fd ps ds) (hd:bC dvs ds) (hv:Dv dv dvs)
  (ha:PAp K cl E0 X (e :: es) ms) (hdb:(x == ("__debug__":Str))=false:=by decide) (he:starEach (e :: es) X.env=(false,eval e X.env) :: starEach es X.env:=by rfl) (hpl:(backTo pos (starEach es X.env)).any (·.1)=false:=by rfl) :
  PEp K cl E0 X (.Call (.Name x p) (e :: es) [] pos) (bW g dv ms):=by
 intro hK
 refine PE.imp (qG F hr hg hm hk hb hd ahd (ha hK) hdb he hpl) fun σ H Q ⟨p,S,ρ,s,ev,h⟩=>?_
 exact bO s ev h fun q H' as xs S' stp sm ev r k=>⟨q,S',_,sm,nB r (hv K q H'),pZ sm k⟩
theorem abj {α β:Type} {R:Ph→Hp→α→β→Prop} {p:Ph} {H:Hp} {r:Res α} {Q:β→Hp→Prop} (h:bN K cl R p H (aL r) Q E):bN K cl R p H r Q E0:=by
 cases r with
 | ok a S=>exact h
 | exc n S=>exact h.elim
 | fail=>exact h.elim
theorem afN (F:aW X.prog X.w X.K X.mg X.base CX0 k f fd ps (bL K cl g)) (hr:cY k X.A) (hg:Gl X x) (hm:X.mg x=some (.ref f)) (hk:PySem.W.keepIn X.K (.ref f)=true) (hb:cU X.K fd ps ds) (hd:bC dvs ds) (hv:Dv dv dvs)
  (ha:PAp K cl E X (e :: es) ms) (hdb:(x == ("__debug__":Str))=false:=by decide) (he:starEach (e :: es) X.env=(false,eval e X.env) :: starEach es X.env:=by rfl) (hpl:(backTo pos (starEach es X.env)).any (·.1)=false:=by rfl) :
  PEp K cl E X (.Call (.Name x p) (e :: es) [] pos) (aY g dv ms):=by
 intro hK
 refine PE.imp (qG F hr hg hm hk hb hd ahd (ha hK) hdb he hpl) fun σ H Q ⟨p,S,ρ,s,ev,h⟩=>?_
 exact bO s ev h fun q H' as xs S' stp sm ev r k=>⟨q,S',_,sm,nB r (hv K q H'),abj (pZ sm k)⟩
theorem ae5 (F:aW X.prog X.w X.K X.mg X.base CX0 k f fd ps (bL K cl g)) (hr:cY k X.A) (hg:Gl X x) (hm:X.mg x=some (.ref f)) (hk:PySem.W.keepIn X.K (.ref f)=true) (hb:cU X.K fd ps ds) (hd:bC dvs ds) (hv:Dv dv dvs)
  (ha:PAp K cl E X (e :: es) ms) (hdb:(x == ("__debug__":Str))=false:=by decide) (he:starEach (e :: es) X.env=(false,eval e X.env) :: starEach es X.env:=by rfl) (hpl:(backTo pos (starEach es X.env)).any (·.1)=false:=by rfl) :
  PEp K cl E X (.Call (.Name x p) (e :: es) [] pos) (tY g dv ms):=by
 intro hK
 refine PE.imp (qG F hr hg hm hk hb hd ahd (ha hK) hdb he hpl) fun σ H Q ⟨p,S,ρ,s,ev,h⟩=>?_
 exact bO s ev h fun q H' as xs S' stp sm ev r k=>⟨q,S',_,sm,nB r (hv K q H'),abj k⟩
theorem iH {P:Program} {w:World} {mg:Str→Option Value} {base:Heap} {N:List Str} {qual:Str} {scope:Scope} {fo:Addr} {cd:Value} {A:Around} {outer:List Env} {s₀:Shared} {H₀:Hp}
  (F:aW P w K mg base (CX1 P w) k f fd ps (spP K cl g)) (hr:cY k (aM (CX1 P w) P w K mg base N qual scope fo cd A outer s₀ H₀ E).A) (hg:Gl (aM (CX1 P w) P w K mg base N qual scope fo cd A outer s₀ H₀ E) x) (hm:mg x=some (.ref f)) (hk:PySem.W.keepIn K (.ref f)=true) (hb:cU K fd ps ds) (hd:bC dvs ds) (hv:Dv dv dvs)
  (ha:PAp K cl E (aM (CX1 P w) P w K mg base N qual scope fo cd A outer s₀ H₀ E) (e :: es) ms) (hdb:(x == ("__debug__":Str))=false:=by decide)
  (he:starEach (e :: es) (aM (CX1 P w) P w K mg base N qual scope fo cd A outer s₀ H₀ E).env=(false,eval e (aM (CX1 P w) P w K mg base N qual scope fo cd A outer s₀ H₀ E).env) :: starEach es (aM (CX1 P w) P w K mg base N qual scope fo cd A outer s₀ H₀ E).env:=by rfl)
  (hpl:(backTo pos (starEach es (aM (CX1 P w) P w K mg base N qual scope fo cd A outer s₀ H₀ E).env)).any (·.1)=false:=by rfl) :
  PEp K cl E (aM (CX1 P w) P w K mg base N qual scope fo cd A outer s₀ H₀ E) (.Call (.Name x p) (e :: es) [] pos) (bW g dv ms):=by
 intro hK
 refine PE.imp (qG F hr hg hm hk hb hd akl (ha hK) hdb he hpl) fun σ H Q ⟨p,S,ρ,s,ev,h⟩=>?_
 exact bO s ev h fun q H' as xs S' stp sm ev r k=>⟨q,S',_,sm,nB r (hv K q H'),pZ sm k⟩
def kU (n:Str):MS:=fun _ S=>.exc n S
theorem pX {P:Program} {w:World} {mg:Str→Option Value} {base:Heap} {N:List Str} {qual:Str} {scope:Scope} {f:Addr} {cd:Value} {A:Around} {outer:List Env} {s₀:Shared} {H₀:Hp}
  {txt:Str} {j:Nat} {np p1 cpos:Pos} (hg:Gl (aM (CX1 P w) P w K mg base N qual scope f cd A outer s₀ H₀ E) x) (hm:mg x=some (.ref (cl x))) (hx:PySem.W.excIn K (cl x) eV "ValueError.__new__"=true)
  (hd:(x == ("__debug__":Str))=false:=by decide) :
  PSp K cl E (aM (CX1 P w) P w K mg base N qual scope f cd A outer s₀ H₀ E) (.Raise (some (.Call (.Name x np) [.Constant (.str txt) j p1] [] cpos)) none pos) (kU x) :=
 fun _=>PS.imp (afk hg hm hx hd) fun D σ H ⟨p,S,ρ,s,ev,h⟩=>h p H s.step s
end
end L2.Pp
namespace L2.Pp
open PySem PySem.Spec PyProof.Rows Bn
def bR (own:List Str) (cap:List (Nat × Str)) (ρ:Rho):Rho:=own.map (fun _=>none)++cap.map fun p=>(ρ[p.1]?).join
open Classical in
noncomputable def bT (G:Gd) (g:GM) (me:ME):List PV→Rho→Sto→Res (List PV)
 | [],_,S=>if gOk G S then .ok [] S else .fail
 | x :: r,ρ,S=>if gOk G S then (match g x ρ with
  | none=>.fail
  | some ρ1=>match me ρ1 S with
   | .ok (.pv y) S1=>match bT G g me r ρ1 S1 with
    | .ok ys S2=>.ok (y :: ys) S2
    | _=>.fail
   | _=>.fail) else .fail
theorem eG {g:GM} {me:ME} {ρ:Rho} {S:Sto}:bT [] g me [] ρ S=.ok [] S:=by
 unfold bT
 rw [if_pos (gL S)]
theorem eN {g:GM} {me:ME} {x:PV} {r:List PV} {ρ:Rho} {S:Sto}:bT [] g me (x :: r) ρ S=(match g x ρ with
  | none=>.fail
  | some ρ1=>match me ρ1 S with
   | .ok (.pv y) S1=>match bT [] g me r ρ1 S1 with
    | .ok ys S2=>.ok (y :: ys) S2
    | _=>.fail
   | _=>.fail):=by
 rw [bT,if_pos (gL S)]
noncomputable def bJ (own:List Str) (cap:List (Nat × Str)) (mi:MI) (g:GM) (me:ME):ME:=fun ρ S=>(mi ρ S).bind fun xs S1=>(bT xs.2 g me xs.1 (bR own cap ρ) S1).bind fun ys S2=>.ok (.pv (.lst ys)) S2
theorem acu {G:Gd} {g:GM} {me:ME}:∀ (xs:List PV) (ρ:Rho) (S:Sto) (n:Str) (S':Sto),bT G g me xs ρ S≠.exc n S'
 | [],_,_,_,_,e=>by
  unfold bT at e
  split at e <;> cases e
 | x :: r,ρ,S,n,S',e=>by
  unfold bT at e
  split at e
  ·split at e
   ·cases e
   ·split at e
    ·split at e
     ·cases e
     ·cases e
    ·cases e
  ·cases e
theorem ac4 {G:Gd} {g:GM} {me:ME} {xs zs:List PV} {ρ:Rho} {S S':Sto} (e:bT G g me xs ρ S=.ok zs S'):gOk G S:=by
 cases xs with
 | nil =>
  unfold bT at e
  split at e
  ·assumption
  ·cases e
 | cons x r =>
  unfold bT at e
  split at e
  ·assumption
  ·cases e
section
variable {K:PySem.W.Frag} {cl:Str→Addr} {E:XK} {X:Cx} {p q:Ph} {H H':Hp} {S:Sto}
theorem ac2 {ρ:Rho} {σ:St} {own:List Str} {cap:List (Nat × Str)} (h:cO K p H ρ σ):cO K p H (bR own cap ρ) (iP own cap σ):=by
 refine ⟨by unfold bR iP; simp,fun i v e=>?_⟩
 unfold bR at e
 unfold iP
 by_cases hi:i < own.length
 ·rw [List.getElem?_append_left (by simpa using hi),List.getElem?_map,List.getElem?_eq_getElem hi] at e
  cases e
 ·rw [List.getElem?_append_right (by rw [List.length_map]; omega),List.getElem?_map,List.length_map] at e ⊢
  cases z:cap[i - own.length]? with
  | none=>rw [z] at e; cases e
  | some c =>
   rw [z] at e
   have e:(ρ[c.1]?).join=some v:=Option.some.inj e
   have e':ρ[c.1]?=some (some v):=by
    cases y:ρ[c.1]? with
    | none=>rw [y] at e; cases e
    | some o=>rw [y] at e; exact congrArg some e
   obtain ⟨x,e1,e2⟩:=h.at_ c.1 v e'
   refine ⟨x,?_,e2⟩
   show some ((σ[c.1]?).join)=some (some x)
   rw [e1]
   rfl
def Ph.res (p:Ph) (D:Addr):Ph:=⟨p.f,fun a=>p.w a∨a=D,fun a=>p.c a∨a=D⟩
def Ph.hold (p:Ph) (D:Addr):Ph:=⟨p.f,fun a=>p.w a∧a≠D,p.c⟩
def Ph.less (p:Ph) (D:Addr):Ph:=⟨p.f,fun a=>p.w a∧a≠D,fun a=>p.c a∧a≠D⟩
theorem Sim.notin (s:Sim K p S H) {D:Addr} (h:H D=none):¬ p.c D:=fun c=>by
 obtain ⟨o,e,_⟩:=s.mu D c
 rw [h] at e
 cases e
theorem Sim.res (s:Sim K p S H) {D:Addr} {o:HO} (h:H D=none) (mo:Mb o):bK p H (p.res D) (upd H D o)∧Sim K (p.res D) S (upd H D o):=by
 have st:bK p H (p.res D) (upd H D o):=⟨s.wc,s.mu,List.prefix_rfl,fun a h=>.inl h,fun a h=>.inl h,fun a h g=>absurd h g,fun a x n=>x.elim (fun z=>absurd z n) (fun z=>by rw [z]; exact h),fun a x n=>x.elim (fun z=>absurd z n) (fun z=>by rw [z]; exact h),fun a u e _=>by
  rw [cD (fD e h)]
  exact e⟩
 refine ⟨st,s.nd,s.len,fun a h=>.inl (s.sub a h),fun a x=>x.elim (fun z=>.inl (s.wc a z)) .inr,fun a x=>?_,fun k a u e1 e2=>?_⟩
 ·by_cases z:a=D
  ·rw [z,gJ]
   exact ⟨o,rfl,mo⟩
  ·rw [cD z]
   exact s.mu a (x.elim id fun y=>absurd y z)
 ·exact (s.obj k a u e1 e2).mono (fun vs e=>by rw [cD (fD e h)]; exact e) (fun b w f=>⟨⟨.inl w,f⟩,fun vs e=>by rw [cD (fD e h)]; exact e⟩) fun _ _ r=>st.reps r
theorem Sim.resHold (s:Sim K p S H) {D:Addr} {o:HO} (h:H D=none) (mo:Mb o):Sim K ((p.res D).hold D) S (upd H D o):=by
 obtain ⟨st,sm⟩:=s.res (o:=o) h mo
 have ne:∀ a,p.w a→a≠D:=fun a w z=>s.notin h (z ▸ s.wc a w)
 refine ⟨sm.nd,sm.len,fun a m=>⟨sm.sub a m,ne a (s.sub a m)⟩,fun a x=>sm.wc a x.1,sm.mu,fun k a u e1 e2=>?_⟩
 exact (s.obj k a u e1 e2).mono (fun vs e=>by rw [cD (fD e h)]; exact e) (fun b w f=>⟨⟨⟨.inl w,ne b w⟩,f⟩,fun vs e=>by rw [cD (fD e h)]; exact e⟩) fun _ _ r=>st.reps r
theorem bK.unhold {D:Addr} (h:p.w D) (st:bK (p.hold D) H q H') (s:Sim K p S H):bK p H ⟨q.f,fun a=>q.w a∨a=D,q.c⟩ H' :=
 ⟨s.wc,s.mu,st.pre,fun a x=>by
  by_cases z:a=D
  ·exact .inr z
  ·exact .inl (st.mw a ⟨x,z⟩),st.mono,st.nf,fun a x n=>by
  rcases x with x | x
  ·exact st.nw a x fun z=>n z.1
  ·exact absurd (x ▸ h) n,st.nc,fun a o e n=>st.keep a o e fun z=>n z.1⟩
theorem Sim.grow {D:Addr} {ys:List V} {o:HO} (s:Sim K p S H) (sh:Sim K (p.hold D) S H) (w:p.w D) (n:D ∉ p.f) (mo:Mb o):bK p H p (upd H D o)∧Sim K p S (upd H D o)∧Sim K (p.hold D) S (upd H D o):=by
 have st:bK p H p (upd H D o):=⟨s.wc,s.mu,List.prefix_rfl,fun _ h=>h,fun _ h=>h,fun _ h g=>absurd h g,fun _ h g=>absurd h g,fun _ h g=>absurd h g,fun a u e nw=>by
  rw [cD (fun z:a=D=>nw (by rw [z]; exact w))]
  exact e⟩
 have hm:∀ a,p.c a→∃ u,upd H D o a=some u∧Mb u:=fun a x=>by
  by_cases z:a=D
  ·rw [z,gJ]
   exact ⟨o,rfl,mo⟩
  ·rw [cD z]
   exact s.mu a x
 refine ⟨st,⟨s.nd,s.len,s.sub,s.wc,hm,fun k a u e1 e2=>?_⟩,⟨sh.nd,sh.len,sh.sub,sh.wc,hm,fun k a u e1 e2=>?_⟩⟩
 ·have ne:a≠D:=fun z=>n (z ▸ List.mem_of_getElem? e1)
  exact (sh.obj k a u e1 e2).mono (fun vs e=>by rw [cD ne]; exact e) (fun b w f=>⟨⟨w.1,f⟩,fun vs e=>by rw [cD w.2]; exact e⟩) fun _ _ r=>st.reps r
 ·have ne:a≠D:=fun z=>n (z ▸ List.mem_of_getElem? e1)
  exact (sh.obj k a u e1 e2).mono (fun vs e=>by rw [cD ne]; exact e) (fun b w f=>⟨⟨w,f⟩,fun vs e=>by rw [cD w.2]; exact e⟩) fun _ _ r=>st.reps r
theorem Sim.toLess {D:Addr} (s:Sim K (p.hold D) S H):Sim K (p.less D) S H :=
 ⟨s.nd,s.len,s.sub,fun a h=>⟨s.wc a h,h.2⟩,fun a h=>s.mu a h.1,fun k a o e1 e2 =>
  (s.obj k a o e1 e2).mono (fun _ e=>e) (fun b w f=>⟨⟨w,f⟩,fun _ e=>e⟩) fun _ _ r=>pP (fun a h=>h.1) r⟩
theorem bK.toLess {D:Addr} (st:bK p H q H') (h:H D=none):bK p H (q.less D) H':=by
 have nD:∀ a,p.c a→a≠D:=fun a c z=>by
  obtain ⟨o,e,_⟩:=st.mu a c
  rw [z,h] at e
  cases e
 exact ⟨st.wc,st.mu,st.pre,fun a x=>⟨st.mw a x,nD a (st.wc a x)⟩,fun a x=>⟨st.mono a x,nD a x⟩,st.nf,fun a x=>st.nw a x.1,fun a x=>st.nc a x.1,st.keep⟩
variable {sc:Scope} {own:List Str} {cap:List (Nat × Str)} {elt target iter:Expr} {pos:Pos} {mi:MI} {g:GM} {me:ME}
theorem adT {σ:St} {ρ:Rho} {xs zs:List PV} {G:Gd} {J:It} {Q:VK} {D:Addr} {S2:Sto} (sm:Sim K p S H) (ev:cO K p H ρ σ) (it:dN K p H (xs,G) J) (z:bT G g me xs (bR own cap ρ) S=.ok zs S2) (hD:H D=none)
  (k:∀ q H' vs,bK p H q H'→Sim K q S2 H'→Sim K (q.hold D) S2 H'→q.w D→D ∉ q.f→H' D=some (.lst vs)→vs.length≤sizeLine→aT K q.c H' zs vs→Q (.ref D) H') :
  pE J (gP K g) (tP K cl E0 (bU K) me) (iP own cap σ) H D Q:=by
 obtain ⟨st0,sm0⟩:=sm.res (D:=D) (o:=.lst []) hD trivial
 have sh0:=sm.resHold (D:=D) (o:=.lst []) hD trivial
 have nf0:D ∉ p.f:=fun h=>sm.notin hD (sm.wc D (sm.sub D h))
 refine aeM xs.length it.1 (fun i σ1 H1 ys=>ys.length=i∧i≤xs.length∧H1 D=some (.lst ys)∧∃ p1 S1 ρ1 us ws,(Sim K p1 S1 H1∧Sim K (p1.hold D) S1 H1)∧bK p H p1 H1∧p1.w D∧D ∉ p1.f∧cO K p1 H1 ρ1 σ1∧dN K p1 H1 (xs,G) J∧gOk G S1∧aT K p1.c H1 us ys∧zs=us++ws∧bT G g me (xs.drop i) ρ1 S1=.ok ws S2) ?_ ?_ ?_ ?_ ?_
 ·refine ⟨rfl,Nat.zero_le _,gJ,p.res D,S,bR own cap ρ,[],zs,⟨sm0,sh0⟩,st0,.inr rfl,nf0,ac2 (st0.repE ev),it.step st0,?_,.nil,rfl,by simpa using z⟩
  exact ac4 z
 ·rintro i σ1 H1 ys ⟨h1,_,h2,_⟩
  exact ⟨h1,h2⟩
 ·rintro i σ1 H1 ys hi ⟨_,_,_,p1,S1,ρ1,us,ws,⟨sm1,sh1⟩,st1,w1,f1,ev1,it1,g1,_⟩
  exact ((it1.2 p1 H1 S1 sm1.step sm1 g1).1 i xs[i] (List.getElem?_eq_getElem hi)).1
 ·rintro i σ1 H1 ys x H2 hi ⟨hl,_,hH,p1,S1,ρ1,us,ws,⟨sm1,sh1⟩,st1,w1,f1,ev1,it1,g1,r1,e1,c1⟩ hy
  obtain ⟨same,rx⟩:=((it1.2 p1 H1 S1 sm1.step sm1 g1).1 i xs[i] (List.getElem?_eq_getElem hi)).2 x H2 hy
  rw [List.drop_eq_getElem_cons hi] at c1
  unfold bT at c1
  rw [if_pos g1] at c1
  split at c1
  ·cases c1
  ·rename_i ρ2 gz
   split at c1
   ·rename_i y S3 mz
    split at c1
    ·rename_i vs S4 cz
     cases c1
     have st2:=sm1.same same
     have sm2:=sm1.ofSame same
     have smh:=sh1.ofSame same
     have stS:bK p H p1 H2:=st1.trans st2
     refine ⟨p1,S1,ρ1,xs[i],ρ2,sm2,st2.repE ev1,rx,gz,fun σ3 ev3=>⟨p1.hold D,S1,ρ2,smh,⟨ev3.len,ev3.at_⟩,?_⟩⟩
     rw [mz]
     intro q H4 y' st4 sm4 ry
     have hD2:H2 D=some (.lst ys):=same _ _ hH
     have hD4:H4 D=some (.lst ys):=st4.keep D _ hD2 fun z=>z.2 rfl
     have fq:D ∉ q.f:=fun h=>by
      have:=st4.nf D h f1
      rw [hD2] at this
      cases this
     have stU:=bK.unhold w1 st4 sm2
     have nq:¬ q.w D:=fun z=>by
      have:=st4.nw D z fun y=>y.2 rfl
      rw [hD2] at this
      cases this
     have smU:Sim K ⟨q.f,fun a=>q.w a∨a=D,q.c⟩ S3 H4:=⟨sm4.nd,sm4.len,fun a h=>.inl (sm4.sub a h),fun a h=>h.elim (sm4.wc a) fun z=>z ▸ st4.mono D (sm2.wc D w1),sm4.mu,fun k a o e1 e2 =>
      (sm4.obj k a o e1 e2).mono (fun _ e=>e) (fun b w f=>⟨⟨.inl w,f⟩,fun _ e=>e⟩) fun _ _ r=>r⟩
     have shU:Sim K (Ph.hold ⟨q.f,fun a=>q.w a∨a=D,q.c⟩ D) S3 H4:=⟨sm4.nd,sm4.len,fun a h=>⟨.inl (sm4.sub a h),fun z=>nq (z ▸ sm4.sub a h)⟩,fun a h=>smU.wc a h.1,sm4.mu,fun k a o e1 e2 =>
      (sm4.obj k a o e1 e2).mono (fun _ e=>e) (fun b w f=>⟨⟨⟨.inl w,fun z=>nq (z ▸ w)⟩,f⟩,fun _ e=>e⟩) fun _ _ r=>r⟩
     obtain ⟨stG,smG,shG⟩:=smU.grow (ys:=ys) (D:=D) (o:=.lst (ys++[y'])) shU (.inr rfl) fq trivial
     have stA:=st2.trans (stU.trans stG)
     refine aiO hi hD4 ⟨by rw [List.length_append,hl]; rfl,hi,gJ,_,S3,ρ2,us++[y],vs,⟨smG,shG⟩,st1.trans stA,.inr rfl,fq,stG.repE (stU.repE ev3),it1.step stA,ac4 cz,?_,by rw [e1,List.append_assoc]; rfl,cz⟩
     exact (stA.reps r1).append (.cons (stG.rep ry) .nil)
    ·cases c1
   ·cases c1
 ·rintro σ1 H1 ys ⟨hl,_,hH,p1,S1,ρ1,us,ws,⟨sm1,sh1⟩,st1,w1,f1,ev1,it1,g1,r1,e1,c1⟩
  rw [List.drop_length] at c1
  unfold bT at c1
  rw [if_pos g1] at c1
  cases c1
  refine ⟨(it1.2 p1 H1 _ sm1.step sm1 g1).2,?_⟩
  rw [List.append_nil] at e1
  subst e1
  exact k p1 H1 ys st1 sm1 sh1 w1 f1 hH (by rw [hl]; exact it.1) r1
theorem abM {σ:St} {ρ:Rho} {xs:List PV × Gd} {J:It} {Q:VK} {D:Addr} (sm:Sim K p S H) (ev:cO K p H ρ σ) (it:dN K p H xs J) (k:bN K cl (bU K) p H ((bT xs.2 g me xs.1 (bR own cap ρ) S).bind fun ys S2=>.ok (.pv (.lst ys)) S2) Q E) (hD:H D=none) :
  pE J (gP K g) (tP K cl E0 (bU K) me) (iP own cap σ) H D Q:=by
 cases z:bT xs.2 g me xs.1 (bR own cap ρ) S with
 | fail=>rw [z] at k; exact k.elim
 | exc n S'=>exact absurd z (acu _ _ _ _ _)
 | ok zs S2 =>
  rw [z] at k
  have k:∀ q H' x,bK p H q H'→Sim K q S2 H'→Rep K q.c H' (.lst zs) x→Q x H':=k
  refine adT sm ev it z hD fun q H' vs st1 sm1 sh1 w1 f1 hH l1 r1=>?_
  refine k (q.less D) H' (.ref D) (st1.toLess hD) sh1.toLess ?_
  unfold Rep
  exact ⟨D,vs,rfl,.inl ⟨hH,fun z=>z.2 rfl⟩,l1,pP (fun a h=>h.1) r1⟩
theorem fQ (k:gB X sc own cap) (hi:PIp K cl E X target iter mi) (hc:X.calm=true) (hg:∀ C s₀ H₀ ex,PGp K (cC X sc (bF own cap) C s₀ H₀ ex) target g) (he:∀ C s₀ H₀ ex,PEp K cl E0 (cC X sc (bF own cap) C s₀ H₀ ex) elt me)
  (hs:∀ x,foldedSetIterable iter X.env x=pure x:=by intro _; rfl):PEp K cl E X (.ListComp elt [⟨target,iter,[],0⟩] sc pos) (bJ own cap mi g me):=by
 intro hK
 refine PE.imp (ahM k (hi hK) hc (fun C s₀ H₀ ex=>hg C s₀ H₀ ex hK) (fun C s₀ H₀ ex=>he C s₀ H₀ ex hK) hs) fun σ H Q ⟨p,S,ρ,s,ev,h⟩=>?_
 exact bO s ev h fun q H' xs J S' stp sm ev it kk D hD=>abM sm ev it kk hD
theorem nN {i:Nat} {x:Str} {py spos:Pos} (hN:X.N.Nodup) (hx:X.N[i]?=some x) (hl:Loc X.env.scope x) (k:gB X sc own cap) (hi:PIp K cl E X target iter mi) (hc:X.calm=true) (hg:∀ C s₀ H₀ ex,PGp K (cC X sc (bF own cap) C s₀ H₀ ex) target g) (he:∀ C s₀ H₀ ex,PEp K cl E0 (cC X sc (bF own cap) C s₀ H₀ ex) elt me)
  (hs:∀ x,foldedSetIterable iter X.env x=pure x:=by intro _; rfl) (hsw:swapsWith (.ListComp elt [⟨target,iter,[],0⟩] sc pos) (some (.Name x py)) spos.line X.env=pure true:=by rfl)
  (hf:X.fn x=true∨X.env.scope.names.lookup x=some .local:=by first | exact .inl rfl | exact .inr rfl | assumption) :
  PSp K cl E X (.Assign [.Name x py] (.ListComp elt [⟨target,iter,[],0⟩] sc pos) spos) (bA i (bJ own cap mi g me)):=by
 intro hK
 refine PS.imp (ahn hN hx hl k (hi hK) hc (fun C s₀ H₀ ex=>hg C s₀ H₀ ex hK) (fun C s₀ H₀ ex=>he C s₀ H₀ ex hK) hs hsw hf) fun D σ H ⟨p,S,ρ,s,ev,h⟩=>?_
 have h2:tP K cl E (bU K) (bJ own cap mi g me) σ H fun y H1=>D.nx (σ.set i (some y)) H1:=by
  refine ⟨p,S,ρ,s,ev,?_⟩
  unfold bA at h
  cases z:bJ own cap mi g me ρ S with
  | ok v S1 =>
   rw [z] at h
   exact fun q H' y st sm r=>h q H' _ st sm ((st.repE ev).set r i)
  | exc n S1=>rw [z] at h; exact h
  | fail=>rw [z] at h; exact h
 obtain ⟨p,S,ρ,s,ev,h⟩:=h2
 exact bO s ev h fun q H' xs J S' stp sm ev it kk B hB=>abM sm ev it kk hB
end
end L2.Pp
namespace L2.Pp
open PySem PySem.Spec PyProof.Rows Bn
def fW:List (Option Bool)→Option (List Bool)
 | []=>some []
 | some b :: r=>match fW r with
  | some bs=>some (b :: bs)
  | none=>none
 | none :: _=>none
theorem abo:∀ {l:List (Option Bool)} {bs:List Bool},fW l=some bs→bs.length=l.length
 | [],_,e=>by cases e; rfl
 | some b :: r,bs,e=>by
  unfold fW at e
  split at e
  ·rename_i cs h
   cases e
   rw [List.length_cons,List.length_cons,abo h]
  ·cases e
 | none :: r,_,e=>by cases e
theorem wR:∀ {l:List (Option Bool)} {bs:List Bool} {i:Nat} {o:Option Bool},fW l=some bs→l[i]?=some o→∃ b,o=some b∧bs[i]?=some b
 | [],_,i,o,_,h=>by simp at h
 | some b :: r,bs,i,o,e,h=>by
  unfold fW at e
  split at e
  ·rename_i cs h'
   cases e
   cases i with
   | zero =>
    simp at h
    exact ⟨b,h.symm,rfl⟩
   | succ i=>simpa using wR h' (by simpa using h)
  ·cases e
 | none :: r,_,_,_,e,_=>by cases e
def eqN:Nat→PV→PV→Option Bool
 | _,.non,.non=>some true
 | _,.bl a,.bl b=>some (a == b)
 | _,.int a,.int b=>some (a == b)
 | _,.str a,.str b=>some (a == b)
 | n+1,.tup xs,.tup ys=>match fW (List.zipWith (eqN n) xs ys) with
  | some bs=>some (bs.all id && xs.length == ys.length)
  | none=>none
 | n+1,.lst xs,.lst ys=>if xs.length=ys.length then (match fW (List.zipWith (eqN n) xs ys) with
  | some bs=>some (bs.all id)
  | none=>none) else some false
 | _,_,_=>none
theorem sY (bs:List Bool):((List.range bs.length).all fun j=>bs.getD j true)=bs.all id:=by
 rw [Bool.eq_iff_iff,List.all_eq_true,List.all_eq_true]
 constructor
 ·intro h b hb
  obtain ⟨j,hj,e⟩:=List.getElem_of_mem hb
  have:=h j (by simpa using hj)
  simpa [List.getD,hj,e] using this
 ·intro h j hj
  have hj:j < bs.length:=by simpa using hj
  have:=h bs[j] (List.getElem_mem hj)
  simpa [List.getD,hj] using this
section
variable {X:Cx} {pins:List (Addr × Obj)} {σ:St} {H:Hp} {s:Shared} {c:Addr→Prop}
theorem tE {n:Nat} {xs ys:List PV} {vs ws:List V} {its jts:List Value} {bs:List Bool} {A:Around}
  (ih:∀ (v w:PV) (x y:V) (u u':Value) (b:Bool),Rep X.K c H v x→Rep X.K c H w y→bM x u→bM y u'→eqN n v w=some b→SeqAt.EqAt A s u u' b)
  (r1:aT X.K c H xs vs) (r2:aT X.K c H ys ws) (q1:bC vs its) (q2:bC ws jts) (e:fW (List.zipWith (eqN n) xs ys)=some bs) :
  ∀ j (h1:j < its.toArray.size) (h2:j < jts.toArray.size),SeqAt.EqAt A s its.toArray[j] jts.toArray[j] (bs.getD j true):=fun j h1 h2=>by
 have l1:=r1.length.trans q1.length
 have l2:=r2.length.trans q2.length
 have g1:j < xs.length:=by rw [l1]; simpa using h1
 have g2:j < ys.length:=by rw [l2]; simpa using h2
 obtain ⟨x,ex,rx⟩:=r1.get (List.getElem?_eq_getElem g1)
 obtain ⟨y,ey,ry⟩:=r2.get (List.getElem?_eq_getElem g2)
 obtain ⟨u,eu,ru⟩:=q1.get ex
 obtain ⟨u',eu',ru'⟩:=q2.get ey
 have hz:(List.zipWith (eqN n) xs ys)[j]?=some (eqN n xs[j] ys[j]):=by
  rw [List.getElem?_zipWith,List.getElem?_eq_getElem g1,List.getElem?_eq_getElem g2]
 obtain ⟨b,eb,eb'⟩:=wR e hz
 have e1:its.toArray[j]=u:=by
  rw [List.getElem_toArray]
  rw [List.getElem?_eq_getElem (by simpa using h1)] at eu
  exact Option.some.inj eu
 have e2:jts.toArray[j]=u':=by
  rw [List.getElem_toArray]
  rw [List.getElem?_eq_getElem (by simpa using h2)] at eu'
  exact Option.some.inj eu'
 rw [e1,e2]
 have e3:bs.getD j true=b:=by simp [List.getD,eb']
 rw [e3]
 exact ih _ _ _ _ _ _ _ rx ry ru ru' eb
theorem qJ {n:Nat} {xs ys:List PV} {bs:List Bool} (e:fW (List.zipWith (eqN n) xs ys)=some bs):bs.length=min xs.length ys.length:=by
 rw [abo e,List.length_zipWith]
theorem acf (n:Nat) (v w:PV) (x:V) (b:Bool) (nt:∀ xs,v≠.tup xs) (nl:∀ xs,v≠.lst xs) (h:Rep X.K c H v x) (g:Rep X.K c H w x) (e:eqN n v w=some b):b=true:=by
 cases v with
 | tup xs=>exact absurd rfl (nt xs)
 | lst xs=>exact absurd rfl (nl xs)
 | non =>
  cases w <;> first | (unfold eqN at e; simp at e; done) | skip
  unfold eqN at e; cases e; rfl
 | bl i =>
  cases w <;> first | (unfold eqN at e; simp at e; done) | skip
  unfold Rep at h g; subst h; injection g with g'; subst g'; unfold eqN at e; cases e; exact beq_self_eq_true _
 | int i =>
  cases w <;> first | (unfold eqN at e; simp at e; done) | skip
  unfold Rep at h g; subst h; injection g with g'; subst g'; unfold eqN at e; cases e; exact beq_self_eq_true _
 | str i =>
  cases w <;> first | (unfold eqN at e; simp at e; done) | skip
  unfold Rep at h g; subst h; injection g with g'; subst g'; unfold eqN at e; cases e; exact beq_self_eq_true _
theorem acJ (I:Inv X pins σ H s):∀ (n:Nat) (v w:PV) (x:V) (b:Bool),Rep X.K c H v x→Rep X.K c H w x→eqN n v w=some b→b=true:=by
 intro n
 induction n with
 | zero =>
  intro v w x b h g e
  cases v with
  | tup xs=>unfold eqN at e; simp at e
  | lst xs=>unfold eqN at e; simp at e
  | _=>exact acf 0 _ w x b (by intro _ z; cases z) (by intro _ z; cases z) h g e
 | succ n ih =>
  have items:∀ (xs ys:List PV) (vs:List V) (bs:List Bool),aT X.K c H xs vs→aT X.K c H ys vs→fW (List.zipWith (eqN n) xs ys)=some bs→bs.all id=true∧xs.length=ys.length:=fun xs ys vs bs r1 r2 e=>by
   have ll:=r1.length.trans r2.length.symm
   refine ⟨?_,ll⟩
   rw [List.all_eq_true]
   intro b hb
   obtain ⟨j,hj,ej⟩:=List.getElem_of_mem hb
   have hj':=hj
   rw [qJ e] at hj'
   have g1:j < xs.length:=by omega
   have g2:j < ys.length:=by omega
   obtain ⟨x,ex,rx⟩:=r1.get (List.getElem?_eq_getElem g1)
   obtain ⟨y,ey,ry⟩:=r2.get (List.getElem?_eq_getElem g2)
   have:=ex.symm.trans ey
   cases this
   have hz:(List.zipWith (eqN n) xs ys)[j]?=some (eqN n xs[j] ys[j]):=by
    rw [List.getElem?_zipWith,List.getElem?_eq_getElem g1,List.getElem?_eq_getElem g2]
   obtain ⟨b',eb,eb'⟩:=wR e hz
   rw [List.getElem?_eq_getElem hj,ej] at eb'
   cases eb'
   exact ih _ _ _ _ rx ry eb
  intro v w x b h g e
  cases v with
  | tup xs =>
   cases w with
   | tup ys =>
    unfold Rep at h g
    obtain ⟨a,vs,rfl,t1,_,r1⟩:=h
    obtain ⟨a',ws,e1,t2,_,r2⟩:=g
    cases e1
    have:=I.tuple_inj t1 t2
    subst this
    unfold eqN at e
    split at e
    ·rename_i bs hb
     obtain ⟨z1,z2⟩:=items xs ys vs bs r1 r2 hb
     rw [z1,z2,beq_self_eq_true] at e
     cases e
     rfl
    ·cases e
   | _=>unfold eqN at e; simp at e
  | lst xs =>
   cases w with
   | lst ys =>
    unfold Rep at h g
    obtain ⟨a,vs,rfl,t1,_,r1⟩:=h
    obtain ⟨a',ws,e1,t2,_,r2⟩:=g
    cases e1
    have:=I.list_inj t1.sq t2.sq
    subst this
    unfold eqN at e
    rw [if_pos (r1.length.trans r2.length.symm)] at e
    split at e
    ·rename_i bs hb
     obtain ⟨z1,z2⟩:=items xs ys vs bs r1 r2 hb
     rw [z1] at e
     cases e
     rfl
    ·cases e
   | _=>unfold eqN at e; simp at e
  | _=>exact acf (n+1) _ w x b (by intro _ z; cases z) (by intro _ z; cases z) h g e
theorem agE (I:Inv X pins σ H s):∀ (n:Nat) (v w:PV) (x y:V) (u u':Value) (b:Bool) (A:Around),A.units+n < cLine→Rep X.K c H v x→Rep X.K c H w y→bM x u→bM y u'→eqN n v w=some b→SeqAt.RcAt A s u u' b∧SeqAt.EqAt A s u u' b:=by
 have flat:∀ (n:Nat) (v w:PV) (x y:V) (u u':Value) (b:Bool) (A:Around),(∀ xs,v≠.tup xs)→(∀ xs,v≠.lst xs)→Rep X.K c H v x→Rep X.K c H w y→bM x u→bM y u'→eqN n v w=some b→SeqAt.RcAt A s u u' b∧SeqAt.EqAt A s u u' b:=by
  intro n v w x y u u' b A nt nl h g r r' e
  cases v with
  | tup xs=>exact absurd rfl (nt xs)
  | lst xs=>exact absurd rfl (nl xs)
  | non =>
   cases w <;> first | (unfold eqN at e; simp at e; done) | skip
   unfold Rep at h g; subst h g; cases r; cases r'; unfold eqN at e; cases e; exact ⟨SeqAt.RcAt.none_none,SeqAt.EqAt.same _⟩
  | bl i =>
   cases w <;> first | (unfold eqN at e; simp at e; done) | skip
   unfold Rep at h g; subst h g; cases r; cases r'; unfold eqN at e; cases e; exact ⟨SeqAt.RcAt.bool_bool _ _,SeqAt.EqAt.bool_bool _ _⟩
  | int i =>
   cases w <;> first | (unfold eqN at e; simp at e; done) | skip
   unfold Rep at h g; subst h g; obtain ⟨t,rfl⟩:=r; obtain ⟨t',rfl⟩:=r'; unfold eqN at e; cases e; exact ⟨SeqAt.RcAt.int_int _ _ _ _,SeqAt.EqAt.int_int _ _ _ _⟩
  | str i =>
   cases w <;> first | (unfold eqN at e; simp at e; done) | skip
   unfold Rep at h g; subst h g; obtain ⟨t,rfl⟩:=r; obtain ⟨t',rfl⟩:=r'; unfold eqN at e; cases e; exact ⟨SeqAt.RcAt.str_str _ _ _ _,SeqAt.EqAt.str_str _ _ _ _⟩
 have main:∀ (n:Nat) (v w:PV) (x y:V) (u u':Value) (b:Bool) (A:Around),A.units+n < cLine→Rep X.K c H v x→Rep X.K c H w y→bM x u→bM y u'→eqN n v w=some b→SeqAt.RcAt A s u u' b∧SeqAt.EqAt A s u u' b:=by
  intro n
  induction n with
  | zero =>
   intro v w x y u u' b A hu h g r r' e
   cases v with
   | tup xs=>unfold eqN at e; simp at e
   | lst xs=>unfold eqN at e; simp at e
   | _=>exact flat 0 _ w x y u u' b A (by intro _ z; cases z) (by intro _ z; cases z) h g r r' e
  | succ n ih =>
   intro v w x y u u' b A hu h g r r' e
   have hin:A.in1.units+n < cLine:=by show A.units+1+n < cLine; omega
   cases v with
   | tup xs =>
    cases w with
    | tup ys =>
     have hs:x=y→b=true:=fun z=>acJ I (n+1) _ _ x b h (z ▸ g) e
     unfold Rep at h g
     obtain ⟨a,vs,rfl,t1,_,r1⟩:=h
     obtain ⟨a',ws,rfl,t2,_,r2⟩:=g
     cases r
     cases r'
     obtain ⟨its,q1,p1,_⟩:=I.tuple t1
     obtain ⟨jts,q2,p2,_⟩:=I.tuple t2
     unfold eqN at e
     split at e
     ·rename_i bs hb
      cases e
      have z:=SeqAt.RcAt.tuples (A:=A) (s:=s) (e:=fun j=>bs.getD j true) (show s.heap.IsTuple a its.toArray from p1) (show s.heap.IsTuple a' jts.toArray from p2) (by omega)
       (tE (A:=A.in1) (fun v w x y u u' b h1 h2 h3 h4 h5=>(ih v w x y u u' b A.in1 hin h1 h2 h3 h4 h5).2) r1 r2 q1 q2 hb)
      have l1:=r1.length.trans q1.length
      have l2:=r2.length.trans q2.length
      rw [List.size_toArray,List.size_toArray,← l1,← l2,← qJ hb,sY] at z
      refine ⟨z,?_⟩
      by_cases ha:a=a'
      ·subst ha
       rw [hs rfl]
       exact SeqAt.EqAt.same _
      ·exact SeqAt.EqAt.of_refs ha z
     ·cases e
    | _=>unfold eqN at e; simp at e
   | lst xs =>
    cases w with
    | lst ys =>
     have hs:x=y→b=true:=fun z=>acJ I (n+1) _ _ x b h (z ▸ g) e
     unfold Rep at h g
     obtain ⟨a,vs,rfl,t1,_,r1⟩:=h
     obtain ⟨a',ws,rfl,t2,_,r2⟩:=g
     cases r
     cases r'
     obtain ⟨its,q1,p1,_⟩:=I.list t1.sq
     obtain ⟨jts,q2,p2,_⟩:=I.list t2.sq
     have l1:=r1.length.trans q1.length
     have l2:=r2.length.trans q2.length
     have fin:SeqAt.RcAt A s (.ref a) (.ref a') b→SeqAt.RcAt A s (.ref a) (.ref a') b∧SeqAt.EqAt A s (.ref a) (.ref a') b:=fun z=>by
      refine ⟨z,?_⟩
      by_cases ha:a=a'
      ·subst ha
       rw [hs rfl]
       exact SeqAt.EqAt.same _
      ·exact SeqAt.EqAt.of_refs ha z
     unfold eqN at e
     split at e
     ·rename_i hl
      split at e
      ·rename_i bs hb
       cases e
       have z:=SeqAt.RcAt.lists (A:=A) (s:=s) (e:=fun j=>bs.getD j true) p1.isList p2.isList (by rw [List.size_toArray,List.size_toArray]; omega) (by omega)
        (tE (A:=A.in1) (fun v w x y u u' b h1 h2 h3 h4 h5=>(ih v w x y u u' b A.in1 hin h1 h2 h3 h4 h5).2) r1 r2 q1 q2 hb)
       have hm:its.length=bs.length:=by rw [qJ hb]; omega
       rw [List.size_toArray,hm,sY] at z
       exact fin z
      ·cases e
     ·rename_i hl
      cases e
      exact fin (SeqAt.RcAt.lists_lengths p1.isList p2.isList (by rw [List.size_toArray,List.size_toArray]; simp; omega) (by omega))
    | _=>unfold eqN at e; simp at e
   | _=>exact flat (n+1) _ w x y u u' b A (by intro _ z; cases z) (by intro _ z; cases z) h g r r' e
 exact main
end
end L2.Pp
namespace L2.Pp
noncomputable section
open PySem PySem.Spec PyProof.Rows Bn
section
variable {X:Cx}
theorem ah7 {pins:List (Addr × Obj)} {σ:St} {H:Hp} {s:Shared} (I:Inv X pins σ H s) {p:Ph} {v w:PV} {x y:V} {u u':Value} {b:Bool} {A:Around} (hu:A.units+8 < cLine) (h:dL X.K p H v x) (g:dL X.K p H w y) (r:bM x u) (r':bM y u') (e:eqN 8 v w=some b) :
  SeqAt.RcAt A s u u' b∧SeqAt.RcNeAt A s u u' (!b):=by
 have hin:A.in1.units+7 < cLine:=by show A.units+1+7 < cLine; omega
 cases v with
 | non =>
  cases w <;> first | (unfold eqN at e; simp at e; done) | skip
  have h:=h.non; have g:=g.non; subst h g; cases r; cases r'; unfold eqN at e; cases e; exact ⟨SeqAt.RcAt.none_none,SeqAt.RcNeAt.none_none⟩
 | bl i =>
  cases w <;> first | (unfold eqN at e; simp at e; done) | skip
  have h:=h.bl; have g:=g.bl; subst h g; cases r; cases r'; unfold eqN at e; cases e; exact ⟨SeqAt.RcAt.bool_bool _ _,SeqAt.RcNeAt.bool_bool _ _⟩
 | int i =>
  cases w <;> first | (unfold eqN at e; simp at e; done) | skip
  have h:=h.int; have g:=g.int; subst h g; obtain ⟨t,rfl⟩:=r; obtain ⟨t',rfl⟩:=r'; unfold eqN at e; cases e; exact ⟨SeqAt.RcAt.int_int _ _ _ _,SeqAt.RcNeAt.int_int _ _ _ _⟩
 | str i =>
  cases w <;> first | (unfold eqN at e; simp at e; done) | skip
  have h:=h.str; have g:=g.str; subst h g; obtain ⟨t,rfl⟩:=r; obtain ⟨t',rfl⟩:=r'; unfold eqN at e; cases e; exact ⟨SeqAt.RcAt.str_str _ _ _ _,SeqAt.RcNeAt.str_str _ _ _ _⟩
 | tup xs =>
  cases w with
  | tup ys =>
   obtain ⟨a,vs,rfl,t1,_,r1⟩:=h.tup
   obtain ⟨a',ws,rfl,t2,_,r2⟩:=g.tup
   cases r
   cases r'
   obtain ⟨its,q1,p1,_⟩:=I.tuple t1
   obtain ⟨jts,q2,p2,_⟩:=I.tuple t2
   unfold eqN at e
   split at e
   ·rename_i bs hb
    cases e
    have it:=tE (s:=s) (A:=A.in1) (fun v w x y u u' b h1 h2 h3 h4 h5=>(agE I 7 v w x y u u' b A.in1 hin h1 h2 h3 h4 h5).2) r1 r2 q1 q2 hb
    have z:=SeqAt.RcAt.tuples (A:=A) (s:=s) (e:=fun j=>bs.getD j true) (show s.heap.IsTuple a its.toArray from p1) (show s.heap.IsTuple a' jts.toArray from p2) (by omega) it
    have z':=SeqAt.RcNeAt.tuples (A:=A) (s:=s) (e:=fun j=>bs.getD j true) (show s.heap.IsTuple a its.toArray from p1) (show s.heap.IsTuple a' jts.toArray from p2) (by omega) it
    have l1:=r1.length.trans q1.length
    have l2:=r2.length.trans q2.length
    rw [List.size_toArray,List.size_toArray,← l1,← l2,← qJ hb,sY] at z z'
    exact ⟨z,z'⟩
   ·cases e
  | _=>unfold eqN at e; simp at e
 | lst xs =>
  cases w with
  | lst ys =>
   obtain ⟨a,vs,rfl,t1,_,r1⟩:=h.lst
   obtain ⟨a',ws,rfl,t2,_,r2⟩:=g.lst
   cases r
   cases r'
   obtain ⟨its,q1,p1,_⟩:=I.list t1
   obtain ⟨jts,q2,p2,_⟩:=I.list t2
   have l1:=r1.length.trans q1.length
   have l2:=r2.length.trans q2.length
   unfold eqN at e
   split at e
   ·rename_i hl
    split at e
    ·rename_i bs hb
     cases e
     have it:=tE (s:=s) (A:=A.in1) (fun v w x y u u' b h1 h2 h3 h4 h5=>(agE I 7 v w x y u u' b A.in1 hin h1 h2 h3 h4 h5).2) r1 r2 q1 q2 hb
     have z:=SeqAt.RcAt.lists (A:=A) (s:=s) (e:=fun j=>bs.getD j true) p1.isList p2.isList (by rw [List.size_toArray,List.size_toArray]; omega) (by omega) it
     have z':=SeqAt.RcNeAt.lists (A:=A) (s:=s) (e:=fun j=>bs.getD j true) p1.isList p2.isList (by rw [List.size_toArray,List.size_toArray]; omega) (by omega) it
     have hm:its.length=bs.length:=by rw [qJ hb]; omega
     rw [List.size_toArray,hm,sY] at z z'
     exact ⟨z,z'⟩
    ·cases e
   ·rename_i hl
    cases e
    exact ⟨SeqAt.RcAt.lists_lengths p1.isList p2.isList (by rw [List.size_toArray,List.size_toArray]; simp; omega) (by omega),SeqAt.RcNeAt.lists_lengths p1.isList p2.isList (by rw [List.size_toArray,List.size_toArray]; simp; omega) (by omega)⟩
  | _=>unfold eqN at e; simp at e
def vV (K:PySem.W.Frag) (neg:Bool):R2:=fun x y H Q=>∃ p v w b,dL K p H v x∧dL K p H w y∧eqN 8 v w=some b∧Q (.bl (if neg then !b else b)) H
theorem dS (hu:X.A.units+8 < cLine):OpR X (compareOp .Eq) (vV X.K false):=by
 intro pins s σ H x y v u Q I rx ry h
 obtain ⟨p,a,b,k,h1,h2,e,q⟩:=h
 exact (ah7 I hu h1 h2 rx ry e).1 X.prog X.w X.xe _ ⟨.bl k,H,I,rfl,q⟩
theorem jD (hu:X.A.units+8 < cLine):OpR X (compareOp .NotEq) (vV X.K true):=by
 intro pins s σ H x y v u Q I rx ry h
 obtain ⟨p,a,b,k,h1,h2,e,q⟩:=h
 exact (ah7 I hu h1 h2 rx ry e).2 X.prog X.w X.xe _ ⟨.bl (!k),H,I,rfl,q⟩
def fEq (a b:PV):Option PV:=(eqN 8 a b).map .bl
def fNe (a b:PV):Option PV:=(eqN 8 a b).map fun k=>.bl (!k)
theorem dX {K:PySem.W.Frag}:OpS K (vV K false) fEq:=fun {p S H a b c x y Q} s ra rb e k=>by
 unfold fEq at e
 cases z:eqN 8 a b with
 | none=>rw [z] at e; cases e
 | some t =>
  rw [z] at e
  cases e
  exact ⟨p,a,b,t,ra,rb,z,k H _ (bZ.refl H) (by unfold Rep; rfl)⟩
theorem jG {K:PySem.W.Frag}:OpS K (vV K true) fNe:=fun {p S H a b c x y Q} s ra rb e k=>by
 unfold fNe at e
 cases z:eqN 8 a b with
 | none=>rw [z] at e; cases e
 | some t =>
  rw [z] at e
  cases e
  exact ⟨p,a,b,t,ra,rb,z,k H _ (bZ.refl H) (by unfold Rep; rfl)⟩
def i2 (f:Int→Int→Option PV):PV→PV→Option PV
 | .int a,.int b=>f a b
 | _,_=>none
open Classical in
def cI (C:Int→Int→Prop) (g:Int→Int→PV) (a b:Int):Option PV:=if C a b then some (g a b) else none
def toV:PV→V
 | .int i=>.int i
 | .bl b=>.bl b
 | .str s=>.str s
 | _=>.non
def oV:PV→Bool
 | .int _=>true
 | .bl _=>true
 | .str _=>true
 | .non=>true
 | _=>false
theorem fK {K:PySem.W.Frag} {c:Addr→Prop} {H:Hp} {v:PV} (h:oV v=true):Rep K c H v (toV v):=by
 cases v with
 | tup _=>cases h
 | lst _=>cases h
 | _=>unfold Rep toV; rfl
theorem vH {K:PySem.W.Frag} {C:Int→Int→Prop} {g:Int→Int→PV} {h:Int→Int→V} (fl:∀ i j,oV (g i j)=true∧toV (g i j)=h i j):OpS K (rI C h) (i2 (cI C g)):=fun {p S H a b c x y Q} s ra rb e k=>by
 cases a with
 | int i =>
  cases b with
  | int j =>
   unfold i2 cI at e
   dsimp only at e
   split at e
   ·rename_i hc
    cases e
    refine ⟨i,j,ra.int,rb.int,hc,?_⟩
    rw [← (fl i j).2]
    exact k H _ (bZ.refl H) (fK (fl i j).1)
   ·cases e
  | _=>cases e
 | _=>cases e
theorem rK {K:PySem.W.Frag} {g:Int→Int→PV} {h:Int→Int→V} (fl:∀ i j,oV (g i j)=true∧toV (g i j)=h i j):OpS K (rI0 h) (i2 fun i j=>some (g i j)):=fun {p S H a b c x y Q} s ra rb e k=>by
 cases a with
 | int i =>
  cases b with
  | int j =>
   cases e
   refine ⟨i,j,ra.int,rb.int,?_⟩
   rw [← (fl i j).2]
   exact k H _ (bZ.refl H) (fK (fl i j).1)
  | _=>cases e
 | _=>cases e
def mF (i j:Int):Prop:=aj5 i j∨(Bd 1000000 i∧Bd 1000000 j)
theorem mF.ok {i j:Int} (h:mF i j):IntMulOk i j:=by
 rcases h with h | h
 ·exact h.ok
 have h1:=aeU h.1
 have h2:=aeU h.2
 unfold IntMulOk Builtin.Int.intTooBig bitsLine
 intro c
 simp only [Bool.and_eq_true,decide_eq_true_eq] at c
 have:=c.2
 omega
theorem cJ:OpR X (binaryOp .Mult) (rI mF fun i j=>.int (i*j)):=opI fun _ _ _ _ _ _ _ hc q=>mul_int q hc.ok
def bD:=i2 (cI mF fun i j=>.int (i*j))
def fM:=i2 (cI mG fun i j=>.int (i.fdiv j))
def eO:=i2 (cI (fun _ j=>j≠0) fun i j=>.int (i.fmod j))
def eD:=i2 (cI vN fun i j=>.int (i ^ j.toNat))
def dF:=i2 fun i j=>some (.int (i - j))
def fLt:=i2 fun i j=>some (.bl (decide (i < j)))
def fLe:=i2 fun i j=>some (.bl (decide (i≤j)))
def fGt:=i2 fun i j=>some (.bl (decide (j < i)))
def fGe:=i2 fun i j=>some (.bl (decide (j≤i)))
theorem cK {K:PySem.W.Frag}:OpS K (rI mF fun i j=>.int (i*j)) bD:=vH fun _ _=>⟨rfl,rfl⟩
theorem oI {K:PySem.W.Frag}:OpS K (rI mG fun i j=>.int (i.fdiv j)) fM:=vH fun _ _=>⟨rfl,rfl⟩
theorem kA {K:PySem.W.Frag}:OpS K (rI (fun _ j=>j≠0) fun i j=>.int (i.fmod j)) eO:=vH fun _ _=>⟨rfl,rfl⟩
theorem jY {K:PySem.W.Frag}:OpS K (rI vN fun i j=>.int (i ^ j.toNat)) eD:=vH fun _ _=>⟨rfl,rfl⟩
theorem gD {K:PySem.W.Frag}:OpS K (rI0 fun i j=>.int (i - j)) dF:=rK fun _ _=>⟨rfl,rfl⟩
theorem pH {K:PySem.W.Frag}:OpS K (rI0 fun i j=>.bl (decide (i < j))) fLt:=rK fun _ _=>⟨rfl,rfl⟩
theorem akE {K:PySem.W.Frag}:OpS K (rI0 fun i j=>.bl (decide (i≤j))) fLe:=rK fun _ _=>⟨rfl,rfl⟩
theorem akq {K:PySem.W.Frag}:OpS K (rI0 fun i j=>.bl (decide (j < i))) fGt:=rK fun _ _=>⟨rfl,rfl⟩
theorem vW {K:PySem.W.Frag}:OpS K (rI0 fun i j=>.bl (decide (j≤i))) fGe:=rK fun _ _=>⟨rfl,rfl⟩
def cV:PV→Option PV
 | .int i=>some (.int (-i))
 | _=>none
theorem eK {K:PySem.W.Frag}:UnS K (rU fun i=>.int (-i)) cV:=fun {p S H a c x Q} s ra e k=>by
 cases a with
 | int i =>
  cases e
  exact ⟨i,ra.int,k H _ (bZ.refl H) (fK (v:=.int (-i)) rfl)⟩
 | _=>cases e
def ajS (K:PySem.W.Frag):R2:=fun x y H Q=>∃ l b xs zs,x=.ref l∧y=.ref b∧SqL K H l xs∧SqL K H b zs∧xs.length+zs.length≤sizeLine∧∀ p,H p=none→Q (.ref p) (upd H p (.lst (xs++zs)))
theorem agK:OpR X (binaryOp .Add) (ajS X.K):=by
 intro pins s σ H x y v u Q I rx ry h
 obtain ⟨l,b,xs,zs,rfl,rfl,hx,hy,hz,q⟩:=h
 cases rx
 cases ry
 obtain ⟨its,r1,p1,_⟩:=I.list hx
 obtain ⟨jts,r2,p2,_⟩:=I.list hy
 obtain ⟨⟨cls,dd,data,sl⟩,n,ho,hc,_,hd⟩:=p1
 obtain ⟨⟨cls2,dd2,data2,sl2⟩,n2,ho2,hc2,_,hd2⟩:=p2
 simp only at hc hd hc2 hd2
 subst hc hd hc2 hd2
 have e:its.toArray++jts.toArray=(its++jts).toArray:=by simp
 have l1:=r1.length
 have l2:=r2.length
 refine concat_meets ⟨_,ho,rfl⟩ ⟨_,ho2,rfl⟩ noFill_list_add seq_list_add PySem.F.slot_list_add PySem.F.entry_list_add (PySem.F.args_list_add_2 _ _) (list_addW l b its.toArray jts.toArray n n2 dd dd2 sl sl2 (by rw [List.size_toArray,List.size_toArray]; omega)) ⟨ho,ho2,?_⟩
 rw [e]
 exact ⟨.ref _,_,I.lnew (t':=s.toks) (r1.append r2) (by rw [List.length_append]; omega),rfl,q _ I.fresh⟩
def aG:PV→PV→Option PV
 | .int a,.int b=>some (.int (a+b))
 | .lst xs,.lst ys=>if xs.length+ys.length≤16777216 then some (.lst (xs++ys)) else none
 | .tup xs,.tup ys=>if xs.length≠0∧ys.length≠0∧xs.length+ys.length≤16777216 then some (.tup (xs++ys)) else none
 | _,_=>none
def ai0 (K:PySem.W.Frag):R2:=fun x y H Q=>(rI0 fun i j=>.int (i+j)) x y H Q∨ajS K x y H Q∨ajA K x y H Q
theorem dD:OpR X (binaryOp .Add) (ai0 X.K):=OpR.or ajm (OpR.or agK ahy)
theorem dE {K:PySem.W.Frag}:OpS K (ai0 K) aG:=fun {p S H a b c x y Q} s ra rb e k=>by
 cases a with
 | int i =>
  cases b with
  | int j =>
   cases e
   exact .inl ⟨i,j,ra.int,rb.int,k H _ (bZ.refl H) (fK (v:=.int (i+j)) rfl)⟩
  | _=>cases e
 | lst xs =>
  cases b with
  | lst ys =>
   have e:(if xs.length+ys.length≤16777216 then some (PV.lst (xs++ys)) else none)=some c:=e
   split at e
   ·rename_i hl
    cases e
    obtain ⟨a1,vs,rfl,l1,z1,r1⟩:=ra.lst
    obtain ⟨a2,ws,rfl,l2,z2,r2⟩:=rb.lst
    have hz:vs.length+ws.length≤sizeLine:=by rw [← r1.length,← r2.length,fB]; exact hl
    exact .inr (.inl ⟨a1,a2,vs,ws,rfl,rfl,l1,l2,hz,fun t ht=>k _ _ (eX ht) (kS s (r1.append r2) (by rw [List.length_append]; exact hz) ht)⟩)
   ·cases e
  | _=>cases e
 | tup xs =>
  cases b with
  | tup ys =>
   have e:(if xs.length≠0∧ys.length≠0∧xs.length+ys.length≤16777216 then some (PV.tup (xs++ys)) else none)=some c:=e
   split at e
   ·rename_i hl
    cases e
    obtain ⟨a1,vs,rfl,l1,z1,r1⟩:=ra.tup
    obtain ⟨a2,ws,rfl,l2,z2,r2⟩:=rb.tup
    have hz:vs.length+ws.length≤sizeLine:=by rw [← r1.length,← r2.length,fB]; exact hl.2.2
    refine .inr (.inr ⟨a1,a2,vs,ws,rfl,rfl,l1,l2,fun q=>hl.1 (by rw [r1.length,q]; rfl),hz,fun q=>absurd (show ys.length=0 by rw [r2.length,q]; rfl) hl.2.1,fun _ t ht=>k _ _ (eX ht) (kP s (r1.append r2) (by rw [List.length_append]; exact hz) ht)⟩)
   ·cases e
  | _=>cases e
 | _=>cases e
end
section
variable {K:PySem.W.Frag} {cl:Str→Addr} {E:XK} {X:Cx} {a b e:Expr} {es:List Expr} {ma mb m:ME} {ms:MA} {pos p2:Pos}
def fIx:PV→PV→Option PV
 | .lst xs,.int i=>atI xs i
 | .tup xs,.int i=>atI xs i
 | _,_=>none
theorem aeH {c:Addr→Prop} {H:Hp} {xs:List PV} {vs:List V} {i:Int} {v:PV} (r:aT K c H xs vs) (e:atI xs i=some v):∃ x,atI vs i=some x∧Rep K c H v x:=by
 unfold atI at e ⊢
 rw [← r.length]
 cases z:ixN xs.length i with
 | none=>rw [z] at e; cases e
 | some j =>
  rw [z] at e
  exact r.get e
theorem alk:OpS K (rIx K) fIx:=fun {p S H a b c x y Q} s ra rb e k=>by
 cases b with
 | int i =>
  cases a with
  | lst xs =>
   obtain ⟨a1,vs,rfl,l1,z1,r1⟩:=ra.lst
   obtain ⟨x,e1,r2⟩:=aeH r1 e
   exact .inl ⟨a1,vs,i,x,rfl,rb.int,l1,e1,k H x (bZ.refl H) r2⟩
  | tup xs =>
   obtain ⟨a1,vs,rfl,l1,z1,r1⟩:=ra.tup
   obtain ⟨x,e1,r2⟩:=aeH r1 e
   exact .inr (.inl ⟨a1,vs,i,x,rfl,rb.int,l1,e1,k H x (bZ.refl H) r2⟩)
  | _=>cases e
 | _=>cases a <;> cases e
theorem bH (ha:PEp K cl E X a ma) (hb:PEp K cl E X b mb) (hs:aet b:=by intro _ _; rfl):PEp K cl E X (.Subscript a b pos) (aC fIx ma mb):=by
 intro hK
 subst hK
 refine (akh aia (ha rfl) (hb rfl) hs).imp fun σ H Q ⟨p,S,ρ,s,e,h⟩=>?_
 exact bO s e h fun q H1 a x S1 st s1 e1 r1 h1=>bO s1 e1 h1 fun q2 H2 b y S2 st2 s2 e2 r2 h2=>nM alk s2 (st2.repA r1) r2 h2
abbrev MO:=Rho→Sto→Res (Option Int)
def mO0:MO:=fun _ S=>.ok none S
def dG:AV→Sto→Res (Option Int)
 | .pv (.int i),S=>.ok (some i) S
 | _,_=>.fail
def mO1 (m:ME):MO:=fun ρ S=>(m ρ S).bind dG
abbrev RO:Ph→Hp→Option Int→Option Int→Prop:=fun _ _ a b=>a=b
variable (K cl E X)
def POp (e:Option Expr) (m:MO):Prop:=X.K=K→PO X e (tP K cl E RO m)
variable {K cl E X}
theorem PO.imp {e:Option Expr} {t t':TO} (h:PO X e t) (i:∀ σ H Q,t' σ H Q→t σ H Q):PO X e t':=fun pins s σ H Q I q=>h pins s σ H Q I (i σ H Q q)
theorem gZ:POp K cl E X none mO0:=fun _=>PO.imp ahb fun σ H Q ⟨p,S,ρ,s,e,h⟩=>bN.ret (R:=RO) h s rfl
theorem hJ (h:PEp K cl E X e m):POp K cl E X (some e) (mO1 m):=by
 intro hK
 subst hK
 refine PO.imp (ag3 (h rfl)) fun σ H Q ⟨p,S,ρ,s,e,h⟩=>?_
 refine bO s e h fun q H1 a x S1 st s1 e1 r1 h1=>?_
 unfold dG at h1
 split at h1
 ·rename_i i
  exact ⟨i,(show dL X.K q H1 (.int i) x from .inl r1).int,bN.ret (R:=RO) h1 s1 rfl⟩
 ·exact h1.elim
def gR (xs:List PV) (lo hi:Option Int):List PV:=(xs.drop (HT.sIx xs.length 0 lo)).take (HT.sIx xs.length xs.length hi - HT.sIx xs.length 0 lo)
def fSl (v:PV) (lo hi:Option Int):Option PV:=match v with
 | .lst xs=>some (.lst (gR xs lo hi))
 | .tup xs=>if HT.sIx xs.length 0 lo=0∧HT.sIx xs.length xs.length hi=xs.length then none else some (.tup (gR xs lo hi))
 | _=>none
def mSl (m:ME) (ml mh:MO):ME:=fun ρ S=>(m ρ S).bind fun v S1=>(ml ρ S1).bind fun lo S2=>(mh ρ S2).bind fun hi S3=>okO ((rd S3 v).bind fun x=>fSl x lo hi) S3
theorem ada {c:Addr→Prop} {H:Hp} {xs:List PV} {vs:List V} {lo hi:Option Int} (r:aT K c H xs vs):aT K c H (gR xs lo hi) (lE vs lo hi):=by
 unfold gR lE
 rw [← r.length]
 exact (r.drop _).take _
theorem iQ {lo hi:Option Expr} {ml mh:MO} (he:PEp K cl E X e m) (hl:POp K cl E X lo ml) (hu:POp K cl E X hi mh):PEp K cl E X (.Subscript e (.Slice lo hi none p2) pos) (mSl m ml mh):=by
 intro hK
 subst hK
 refine (ac0 (SlR.or ah2 ajV) (he rfl) (hl rfl) (hu rfl)).imp fun σ H Q ⟨p,S,ρ,s,e,h⟩=>?_
 refine bO s e h fun q H1 a x S1 st s1 e1 r1 h1=>bO s1 e1 h1 fun q2 H2 lo lo' S2 st2 s2 e2 r2 h2=>bO s2 e2 h2 fun q3 H3 hi hi' S3 st3 s3 e3 r3 h3=>?_
 cases r2
 cases r3
 have ra:=st3.repA (st2.repA r1)
 obtain ⟨c,ec,k⟩:=kR s3 h3
 cases z:rd S3 a with
 | none=>rw [z] at ec; cases ec
 | some v =>
  rw [z] at ec
  have rv:=lX s3 ra z
  cases v with
  | lst xs =>
   have ec:some (PV.lst (gR xs lo hi))=some c:=ec
   cases ec
   obtain ⟨a1,vs,rfl,l1,z1,r1⟩:=rv.lst
   exact .inl ⟨a1,vs,rfl,l1,fun t ht=>k _ _ (eX ht) (kS s3 (ada r1) (Nat.le_trans (sG vs lo hi) z1) ht)⟩
  | tup xs =>
   obtain ⟨a1,vs,rfl,l1,z1,r1⟩:=rv.tup
   have ec:(if HT.sIx xs.length 0 lo=0∧HT.sIx xs.length xs.length hi=xs.length then none else some (PV.tup (gR xs lo hi)))=some c:=ec
   split at ec
   ·cases ec
   ·rename_i hw
    cases ec
    rw [r1.length] at hw
    exact .inr ⟨a1,vs,rfl,l1,hw,fun t ht=>k _ _ (eX ht) (kP s3 (ada r1) (Nat.le_trans (sG vs lo hi) z1) ht)⟩
  | _=>cases ec
theorem cX {id:String} {r:List V→Hp→VK→Prop} {f:List PV→Option PV} {x:Str} {p:Pos} (hc:fS X (.builtin id) r) (hf:CaR X.K r f) (hg:Gl X x) (hm:X.mg x=none) (hv:bootBuiltins x=some (.builtin id)) (ha:PAp K cl E X (e :: es) ms) (hn:x≠"__name__":=by decide) (hdb:(x == ("__debug__":Str))=false:=by decide)
  (he:starEach (e :: es) X.env=(false,eval e X.env) :: starEach es X.env:=by rfl) (hpl:(backTo pos (starEach es X.env)).any (·.1)=false:=by rfl):PEp K cl E X (.Call (.Name x p) (e :: es) [] pos) (mR f ms):=by
 intro hK
 subst hK
 refine PE.imp (acO hc hg hm hv (ha rfl) hn hdb he hpl) fun σ H Q ⟨p,S,ρ,s,ev,h⟩=>?_
 exact bO s ev h fun q H' as xs S' stp sm ev r k=>ab1 hf sm r k
theorem fJ {T:String} {r:List V→Hp→VK→Prop} {f:List PV→Option PV} {x:Str} {p:Pos} (hc:fS X (.type T) r) (hf:CaR X.K r f) (hg:Gl X x) (hm:X.mg x=none) (hv:bootBuiltins x=some (.type T)) (ha:PAp K cl E X (e :: es) ms) (hn:x≠"__name__":=by decide) (hdb:(x == ("__debug__":Str))=false:=by decide)
  (he:starEach (e :: es) X.env=(false,eval e X.env) :: starEach es X.env:=by rfl) (hpl:(backTo pos (starEach es X.env)).any (·.1)=false:=by rfl):PEp K cl E X (.Call (.Name x p) (e :: es) [] pos) (mR f ms):=by
 intro hK
 subst hK
 refine PE.imp (adU hc hg hm hv (ha rfl) hn hdb he hpl) fun σ H Q ⟨p,S,ρ,s,ev,h⟩=>?_
 exact bO s ev h fun q H' as xs S' stp sm ev r k=>ab1 hf sm r k
def cP:List PV→Option PV
 | [.lst xs]=>some (.int xs.length)
 | [.tup xs]=>some (.int xs.length)
 | _=>none
theorem fR:CaR K (fun xs H Q=>∃ p ys,xs=[.ref p]∧(SqL K H p ys∨SqT K H p ys)∧Q (.int ys.length) H) cP:=fun {p S H as c xs Q} s ra e k=>by
 unfold cP at e
 split at e
 ·rename_i zs
  cases e
  cases ra with
  | cons h t =>
   cases t
   obtain ⟨a,vs,rfl,l,z,r⟩:=h.lst
   refine ⟨a,vs,rfl,.inl l,?_⟩
   rw [← r.length]
   exact k H _ (bZ.refl H) (fK (v:=.int zs.length) rfl)
 ·rename_i zs
  cases e
  cases ra with
  | cons h t =>
   cases t
   obtain ⟨a,vs,rfl,l,z,r⟩:=h.tup
   refine ⟨a,vs,rfl,.inr l,?_⟩
   rw [← r.length]
   exact k H _ (bZ.refl H) (fK (v:=.int zs.length) rfl)
 ·cases e
def aN:List PV→Option PV
 | [.int i]=>some (.int (if i < 0 then -i else i))
 | _=>none
theorem pA:CaR K (fun xs H Q=>∃ i,xs=[.int i]∧Q (.int (if i < 0 then -i else i)) H) aN:=fun {p S H as c xs Q} s ra e k=>by
 unfold aN at e
 split at e
 ·rename_i i
  cases e
  cases ra with
  | cons h t =>
   cases t
   cases h.int
   exact ⟨i,rfl,k H _ (bZ.refl H) (fK (v:=.int _) rfl)⟩
 ·cases e
def aJ:List PV→Option PV
 | [.lst xs]=>some (.tup xs)
 | [.tup xs]=>some (.tup xs)
 | _=>none
theorem kO:CaR K (fun xs H Q=>∃ p ys,xs=[.ref p]∧((SqL K H p ys∧∀ l,H l=none→Q (.ref l) (upd H l (.tup ys)))∨(SqT K H p ys∧Q (.ref p) H))) aJ:=fun {p S H as c xs Q} s ra e k=>by
 unfold aJ at e
 split at e
 ·rename_i zs
  cases e
  cases ra with
  | cons h t =>
   cases t
   obtain ⟨a,vs,rfl,l,z,r⟩:=h.lst
   exact ⟨a,vs,rfl,.inl ⟨l,fun t ht=>k _ _ (eX ht) (kP s r z ht)⟩⟩
 ·rename_i zs
  cases e
  cases ra with
  | cons h t =>
   cases t
   obtain ⟨a,vs,rfl,l,z,r⟩:=h.tup
   refine ⟨a,vs,rfl,.inr ⟨l,k H _ (bZ.refl H) ?_⟩⟩
   unfold Rep
   exact ⟨a,vs,rfl,l,z,r⟩
 ·cases e
def aK:List PV→Option PV
 | [.lst xs]=>some (.lst xs)
 | [.tup xs]=>some (.lst xs)
 | _=>none
theorem tR:CaR K (fun xs H Q=>∃ p ys,xs=[.ref p]∧(SqL K H p ys∨SqT K H p ys)∧∀ l,H l=none→Q (.ref l) (upd H l (.lst ys))) aK:=fun {p S H as c xs Q} s ra e k=>by
 unfold aK at e
 split at e
 ·rename_i zs
  cases e
  cases ra with
  | cons h t =>
   cases t
   obtain ⟨a,vs,rfl,l,z,r⟩:=h.lst
   exact ⟨a,vs,rfl,.inl l,fun t ht=>k _ _ (eX ht) (kS s r z ht)⟩
 ·rename_i zs
  cases e
  cases ra with
  | cons h t =>
   cases t
   obtain ⟨a,vs,rfl,l,z,r⟩:=h.tup
   exact ⟨a,vs,rfl,.inr l,fun t ht=>k _ _ (eX ht) (kS s r z ht)⟩
 ·cases e
def hZ:List PV→Option (List Bool)
 | []=>some []
 | .bl b :: r=>match hZ r with
  | some bs=>some (b :: bs)
  | none=>none
 | _ :: _=>none
def fV:List PV→Option PV
 | [.lst xs]=>(hZ xs).map fun bs=>.bl (bs.all id)
 | _=>none
theorem acU {c:Addr→Prop} {H:Hp}:∀ {xs:List PV} {bs:List Bool} {vs:List V},hZ xs=some bs→aT K c H xs vs→vs=bs.map V.bl
 | [],bs,vs,e,r=>by
  cases e
  unfold aT at r
  exact r
 | .bl b :: xs,bs,vs,e,r=>by
  unfold hZ at e
  split at e
  ·rename_i cs h
   cases e
   unfold aT at r
   obtain ⟨v,w,rfl,r1,r2⟩:=r
   unfold Rep at r1
   rw [r1,acU h r2]
   rfl
  ·cases e
 | .non :: _,_,_,e,_=>by cases e
 | .int _ :: _,_,_,e,_=>by cases e
 | .str _ :: _,_,_,e,_=>by cases e
 | .tup _ :: _,_,_,e,_=>by cases e
 | .lst _ :: _,_,_,e,_=>by cases e
theorem oS:CaR K (fun xs H Q=>∃ (a:Addr) (bs:List Bool),xs=[.ref a]∧SqL K H a (bs.map V.bl)∧Q (.bl (bs.all id)) H) fV:=fun {p S H as c xs Q} s ra e k=>by
 unfold fV at e
 split at e
 ·rename_i zs
  cases y:hZ zs with
  | none=>rw [y] at e; cases e
  | some bs =>
   rw [y] at e
   cases e
   cases ra with
   | cons h t =>
    cases t
    obtain ⟨a,vs,rfl,l,z,r⟩:=h.lst
    rw [acU y r] at l
    exact ⟨a,bs,rfl,l,k H _ (bZ.refl H) (fK (v:=.bl _) rfl)⟩
 ·cases e
end
end
end L2.Pp
namespace L2.Pp
open PySem PySem.Spec PyProof.Rows Bn
section
variable {K:PySem.W.Frag} {cl:Str→Addr} {E:XK} {X:Cx} {a b c e l tg:Expr} {es:List Expr} {m ma mb:ME} {ms:MA} {pos:Pos} {p q:Ph} {H H':Hp} {S:Sto}
theorem Sim.push (s:Sim K p S H) {D:Addr} {ps:List PV} {vs:List V} (h:H D=none) (l:vs.length≤sizeLine) (r:aT K p.c H ps vs) :
  let q:Ph:=⟨p.f++[D],fun a=>p.w a∨a=D,fun a=>p.c a∨a=D⟩
  bK p H q (upd H D (.lst vs))∧Sim K q (S++[.lst ps]) (upd H D (.lst vs)):=by
 intro q
 obtain ⟨st0,sm0⟩:=s.res (D:=D) (o:=.lst vs) h trivial
 have nf0:D ∉ p.f:=fun z=>s.notin h (s.wc D (s.sub D z))
 refine ⟨⟨st0.wc,st0.mu,⟨[D],rfl⟩,st0.mw,st0.mono,fun a x n=>?_,st0.nw,st0.nc,st0.keep⟩,?_,by simp [q,s.len],fun a x=>?_,sm0.wc,sm0.mu,fun k a o e1 e2=>?_⟩
 ·rcases List.mem_append.mp x with z | z
  ·exact absurd z n
  ·have:a=D:=by simpa using z
   rw [this]
   exact h
 ·show (p.f++[D]).Nodup
  rw [List.nodup_append]
  refine ⟨s.nd,by simp,fun a ha b hb z=>?_⟩
  have:b=D:=by simpa using hb
  exact nf0 (this ▸ z ▸ ha)
 ·rcases List.mem_append.mp x with z | z
  ·exact .inl (s.sub a z)
  ·exact .inr (by simpa using z)
 ·by_cases hk:k < S.length
  ·have e1':p.f[k]?=some a:=by
    have e1:(p.f++[D])[k]?=some a:=e1
    rwa [List.getElem?_append_left (by rw [s.len]; exact hk)] at e1
   rw [List.getElem?_append_left hk] at e2
   refine (s.obj k a o e1' e2).mono (fun vs e=>by rw [cD (fD e h)]; exact e) (fun b w f=>⟨⟨.inl w,fun m=>?_⟩,fun vs e=>by rw [cD (fD e h)]; exact e⟩) fun _ _ r=>st0.reps r
   rcases List.mem_append.mp m with z | z
   ·exact f z
   ·have:b=D:=by simpa using z
    exact s.notin h (this ▸ s.wc b w)
  ·have hk':k=S.length:=by
    have:=(List.getElem?_eq_some_iff.mp e2).1
    simp at this
    omega
   subst hk'
   rw [List.getElem?_append_right (Nat.le_refl _),Nat.sub_self] at e2
   have e1:(p.f++[D])[S.length]?=some a:=e1
   rw [← s.len,List.getElem?_append_right (Nat.le_refl _),Nat.sub_self] at e1
   cases e1
   cases e2
   exact ⟨vs,gJ,l,st0.reps r⟩
theorem Sim.write (s:Sim K p S H) {D:Addr} {k:Nat} {ps:List PV} {vs:List V} (h:p.f[k]?=some D) (hk:k < S.length) (l:vs.length≤sizeLine) (r:aT K p.c H ps vs) :
  bK p H p (upd H D (.lst vs))∧Sim K p (S.set k (.lst ps)) (upd H D (.lst vs)):=by
 have w:p.w D:=s.sub D (List.mem_of_getElem? h)
 have st:bK p H p (upd H D (.lst vs)):=⟨s.wc,s.mu,List.prefix_rfl,fun _ h=>h,fun _ h=>h,fun _ h g=>absurd h g,fun _ h g=>absurd h g,fun _ h g=>absurd h g,fun a u e nw=>by
  rw [cD (fun z:a=D=>nw (by rw [z]; exact w))]
  exact e⟩
 refine ⟨st,s.nd,by rw [List.length_set]; exact s.len,s.sub,s.wc,fun a x=>?_,fun j a o e1 e2=>?_⟩
 ·by_cases z:a=D
  ·rw [z,gJ]
   exact ⟨_,rfl,trivial⟩
  ·rw [cD z]
   exact s.mu a x
 ·by_cases hj:k=j
  ·subst hj
   rw [h] at e1
   cases e1
   rw [List.getElem?_set_self hk] at e2
   cases e2
   exact ⟨vs,gJ,l,st.reps r⟩
  ·rw [List.getElem?_set_ne hj] at e2
   have ne:a≠D:=fun q=>hj (xF s.nd h (q ▸ e1))
   exact (s.obj j a o e1 e2).mono (fun vs e=>by rw [cD ne]; exact e) (fun b w f=>⟨⟨w,f⟩,fun vs e=>by rw [cD (fun z:b=D=>f (z ▸ List.mem_of_getElem? h))]; exact e⟩) fun _ _ r=>st.reps r
def jX (xs:List AV) (S:Sto):Res AV:=match iB xs with
 | some vs=>if vs.length≤16777216 then .ok (.ref S.length) (S++[.lst vs]) else .fail
 | none=>.fail
def fO (ms:MA):ME:=fun ρ S=>(ms ρ S).bind jX
theorem qD (h:PAp K cl E X es ms):PEp K cl E X (.List es pos) (fO ms):=by
 intro hK
 subst hK
 refine (agp (h rfl)).imp fun σ H Q ⟨p,S,ρ,s,e,h⟩=>?_
 refine bO s e h fun q H1 as xs S1 st s1 e1 r1 h1=>?_
 unfold jX at h1
 split at h1
 ·rename_i vs hv
  split at h1
  ·rename_i hl
   have r:=sM hv r1
   rw [r.length,← fB] at hl
   refine ⟨hl,fun t ht=>?_⟩
   obtain ⟨st2,sm2⟩:=s1.push ht hl r
   exact h1 _ _ (.ref t) st2 sm2 ⟨t,by show (q.f++[t])[S1.length]?=some t; rw [← s1.len,List.getElem?_append_right (Nat.le_refl _),Nat.sub_self]; rfl,rfl⟩
  ·exact h1.elim
 ·exact h1.elim
def kZ (k:Nat) (ys:List AV) (S:Sto):Res AV:=match ys with
 | [.pv y]=>match S[k]? with
  | some (.lst xs)=>if xs.length < 16777216 then .ok (.pv .non) (S.set k (.lst (xs++[y]))) else .fail
  | _=>.fail
 | _=>.fail
def iN {α:Type} (k:AV) (f:Nat→Res α):Res α:=match k with
 | .ref k=>f k
 | _=>.fail
def eZ (m:ME) (ms:MA):ME:=fun ρ S=>(m ρ S).bind fun k S1=>iN k fun k=>(ms ρ S1).bind fun ys S2=>kZ k ys S2
theorem adG {k:Nat} {x:V} (s:Sim K p S H) (r:bU K p H (.ref k) x):tyV K "list" x H:=by
 obtain ⟨a,e,rfl⟩:=r
 have hk:k < S.length:=by
  have:=(List.getElem?_eq_some_iff.mp e).1
  rw [← s.len]
  exact this
 have z:=s.obj k a S[k] e (List.getElem?_eq_getElem hk)
 cases y:S[k] with
 | lst xs =>
  rw [y] at z
  obtain ⟨vs,h,_⟩:=z
  exact .inl ⟨rfl,vs,SqL.of h⟩
 | lol xss =>
  rw [y] at z
  obtain ⟨bs,h,_⟩:=z
  exact .inl ⟨rfl,_,SqL.of h⟩
theorem nJ {apos cpos:Pos} (ho:PEp K cl E X a m) (ha:PAp K cl E X [e] ms) (hbase:attributeBase a "append" X.env (eval a X.env)=eval a X.env:=by rfl)
  (hfew:((backTo cpos (starEach [e] X.env)).all (fun x=>!x.1) && (backToKw cpos (keywordEach [] X.env)).all (fun x=>x.1.isSome) && decide (([e]:List Expr).length+([]:List Keyword).length+(if ([]:List Keyword).isEmpty then 0 else 1) < 30))=true:=by rfl)
  (hline:(apos.endLine == cpos.line)=true:=by rfl) (hs:starEach [e] X.env=[(false,eval e X.env)]:=by rfl):PEp K cl E X (.Call (.Attribute a "append" apos) [e] [] cpos) (eZ m ms):=by
 intro hK
 subst hK
 refine PE.imp (uN PySem.F.plainAttrs_list PySem.F.slot_list_append PySem.F.type_list_append sX (ho rfl) (ha rfl) hbase hfew hline hs rfl) fun σ H Q ⟨p,S,ρ,s,ev,h⟩=>?_
 refine bO s ev h fun q H1 k x S1 st s1 e1 r1 h1=>?_
 cases k with
 | pv v=>exact h1.elim
 | ref k =>
  refine ⟨adG s1 r1,bO s1 e1 h1 fun q2 H2 ys xs S2 st2 s2 e2 r2 h2=>?_⟩
  obtain ⟨a,ea,rfl⟩:=st2.repA r1
  unfold kZ at h2
  split at h2
  ·rename_i y
   cases r2 with
   | cons r3 r4 =>
    cases r4
    rename_i x
    cases z:S2[k]? with
    | none=>rw [z] at h2; exact h2.elim
    | some o =>
     cases o with
     | lol xss=>simp only [z] at h2; exact h2.elim
     | lst zs =>
      simp only [z] at h2
      obtain ⟨vs,h3,l3,r4⟩:=s2.obj k a _ ea z
      split at h2
      ·rename_i hl
       rw [r4.length] at hl
       have hz:=fB
       refine ⟨a,vs,x,rfl,rfl,h3,by omega,?_⟩
       obtain ⟨st3,sm3⟩:=s2.write ea (List.getElem?_eq_some_iff.mp z).1 (ps:=zs++[y]) (vs:=vs++[x]) (by rw [List.length_append,List.length_singleton]; omega) (r4.append (.cons r3 .nil))
       exact h2 _ _ .non st3 sm3 (by show Rep X.K q2.c (upd H2 a (.lst (vs++[x]))) .non .non; unfold Rep; rfl)
      ·exact h2.elim
  ·exact h2.elim
def ahw (k:Nat) (ys:List AV) (S:Sto):Res AV:=match ys with
 | [.pv (.int i)]=>if -9223372036854775808≤i∧i < 9223372036854775808 then (match S[k]? with
  | some (.lst xs)=>match seqIndex? i xs.length with
   | some j=>match xs[j]? with
    | some v=>.ok (.pv v) (S.set k (.lst (xs.eraseIdx j)))
    | none=>.fail
   | none=>.fail
  | _=>.fail) else .fail
 | _=>.fail
def vK (m:ME) (ms:MA):ME:=fun ρ S=>(m ρ S).bind fun k S1=>iN k fun k=>(ms ρ S1).bind fun ys S2=>ahw k ys S2
theorem ajq {apos cpos:Pos} (ho:PEp K cl E X a m) (ha:PAp K cl E X [e] ms) (hbase:attributeBase a "pop" X.env (eval a X.env)=eval a X.env:=by rfl)
  (hfew:((backTo cpos (starEach [e] X.env)).all (fun x=>!x.1) && (backToKw cpos (keywordEach [] X.env)).all (fun x=>x.1.isSome) && decide (([e]:List Expr).length+([]:List Keyword).length+(if ([]:List Keyword).isEmpty then 0 else 1) < 30))=true:=by rfl)
  (hline:(apos.endLine == cpos.line)=true:=by rfl) (hs:starEach [e] X.env=[(false,eval e X.env)]:=by rfl):PEp K cl E X (.Call (.Attribute a "pop" apos) [e] [] cpos) (vK m ms):=by
 intro hK
 subst hK
 refine PE.imp (uN PySem.F.plainAttrs_list PySem.F.slot_list_pop PySem.F.type_list_pop afR (ho rfl) (ha rfl) hbase hfew hline hs rfl) fun σ H Q ⟨p,S,ρ,s,ev,h⟩=>?_
 refine bO s ev h fun q H1 k x S1 st s1 e1 r1 h1=>?_
 cases k with
 | pv v=>exact h1.elim
 | ref k =>
  refine ⟨adG s1 r1,bO s1 e1 h1 fun q2 H2 ys xs S2 st2 s2 e2 r2 h2=>?_⟩
  obtain ⟨a,ea,rfl⟩:=st2.repA r1
  unfold ahw at h2
  split at h2
  ·rename_i i
   cases r2 with
   | cons r3 r4 =>
    cases r4
    rename_i x
    have ex:x=.int i:=(show dL X.K q2 H2 (.int i) x from .inl r3).int
    subst ex
    split at h2
    ·rename_i hi
     cases z:S2[k]? with
     | none=>rw [z] at h2; exact h2.elim
     | some o =>
      cases o with
      | lol xss=>simp only [z] at h2; exact h2.elim
      | lst zs =>
       simp only [z] at h2
       obtain ⟨vs,h3,l3,r4⟩:=s2.obj k a _ ea z
       cases y:seqIndex? i zs.length with
       | none=>simp only [y] at h2; exact h2.elim
       | some j =>
        simp only [y] at h2
        cases yv:zs[j]? with
        | none=>simp only [yv] at h2; exact h2.elim
        | some v =>
         simp only [yv] at h2
         obtain ⟨u,eu,ru⟩:=r4.get yv
         refine ⟨a,vs,i,j,u,rfl,rfl,h3,hi.1,hi.2,by rw [← r4.length]; exact y,eu,?_⟩
         obtain ⟨st3,sm3⟩:=s2.write ea (List.getElem?_eq_some_iff.mp z).1 (ps:=zs.eraseIdx j) (vs:=vs.eraseIdx j) (Nat.le_trans (xE vs j) l3) (r4.eraseIdx j)
         exact h2 _ _ u st3 sm3 (st3.rep ru)
    ·exact h2.elim
  ·exact h2.elim
def uQ (k:Nat) (i:AV) (v:AV) (S:Sto):Res Unit:=match i,v with
 | .pv (.int i),.pv v=>match S[k]? with
  | some (.lst xs)=>match ixN xs.length i with
   | some j=>.ok () (S.set k (.lst (xs.set j v)))
   | none=>.fail
  | _=>.fail
 | _,_=>.fail
def zJ (mo mi mv:ME):MS:=fun ρ S=>cE.of (mv ρ S) fun v S1=>cE.of (mo ρ S1) fun k S2=>cE.of (mi ρ S2) fun i S3=>cE.of (iN k fun k=>uQ k i v S3) fun _ S4=>.nx ρ S4
theorem adV {o i v:Expr} {mo mi mv:ME} {tpos:Pos} (hv:PEp K cl E X v mv) (ho:PEp K cl E X o mo) (hi:PEp K cl E X i mi)
  (ha:∀ v,assign (.Subscript o i tpos) X.env v=(do
   let ov ← holding [v] (eval o X.env)
   let iv ← holding [v,ov] (eval i X.env)
   standAt tpos
   holding [v,ov,iv] (setItem ov iv v)
   release [v,ov,iv] []):=by intro _; rfl)
  (hs:swapsWithSole [.Subscript o i tpos] v pos.line X.env=pure false:=by rfl) (hw:swappedStores [.Subscript o i tpos] v X.env=pure none:=by rfl)
  (h1:(assignEach [.Subscript o i tpos] X.env).map (·.2)=[assign (.Subscript o i tpos) X.env]:=by rfl):PSp K cl E X (.Assign [.Subscript o i tpos] v pos) (zJ mo mi mv):=by
 intro hK
 subst hK
 refine PS.imp (agd (hv rfl) (ah6 (ho rfl) (hi rfl) afr ha) hs hw h1) fun D σ H ⟨p,S,ρ,s,ev,h⟩=>?_
 refine iJ s ev h fun q H1 v x S1 st s1 e1 r1 h1=>?_
 refine iJ s1 e1 h1 fun q2 H2 k y S2 st2 s2 e2 r2 h2=>?_
 refine iJ s2 e2 h2 fun q3 H3 i z S3 st3 s3 e3 r3 h3=>?_
 cases k with
 | pv _=>exact h3.elim
 | ref k =>
  obtain ⟨a,ea,rfl⟩:=st3.repA r2
  have rv:=st3.repA (st2.repA r1)
  have h3:dB X.K cl q3 H3 (cE.of (uQ k i v S3) fun _ S4=>.nx ρ S4) D E:=h3
  unfold uQ at h3
  split at h3
  ·rename_i ii vv _
   have ez:z=.int ii:=(show dL X.K q3 H3 (.int ii) z from .inl r3).int
   subst ez
   cases w:S3[k]? with
   | none=>rw [w] at h3; exact h3.elim
   | some o =>
    cases o with
    | lol xss=>simp only [w] at h3; exact h3.elim
    | lst zs =>
     simp only [w] at h3
     obtain ⟨vs,hh,ll,rr⟩:=s3.obj k a _ ea w
     cases y:ixN zs.length ii with
     | none=>simp only [y] at h3; exact h3.elim
     | some j =>
      simp only [y] at h3
      refine ⟨a,vs,ii,j,rfl,rfl,hh,by rw [← rr.length]; exact y,?_⟩
      obtain ⟨st4,sm4⟩:=s3.write ea (List.getElem?_eq_some_iff.mp w).1 (ps:=zs.set j vv) (vs:=vs.set j x) (by rw [List.length_set]; exact ll) (aT.set rv j rr)
      exact h3 _ _ _ st4 sm4 (st4.repE e3)
  ·exact h3.elim
def fU:List PV→List PV→List PV
 | x :: xs,y :: ys=>.tup [x,y] :: fU xs ys
 | _,_=>[]
theorem yD:∀ (xs ys:List PV),(fU xs ys).length=min xs.length ys.length
 | [],ys=>by cases ys <;> simp [fU]
 | x :: xs,[]=>by simp [fU]
 | x :: xs,y :: ys=>by
  unfold fU
  rw [List.length_cons,yD xs ys,List.length_cons,List.length_cons]
  omega
theorem ac3:∀ {xs ys:List PV} {i:Nat} {v:PV},(fU xs ys)[i]?=some v→∃ x y,xs[i]?=some x∧ys[i]?=some y∧v=.tup [x,y]
 | [],ys,i,v,e=>by cases ys <;> simp [fU] at e
 | x :: xs,[],i,v,e=>by simp [fU] at e
 | x :: xs,y :: ys,0,v,e=>by
  unfold fU at e
  simp at e
  exact ⟨x,y,rfl,rfl,e.symm⟩
 | x :: xs,y :: ys,i+1,v,e=>by
  unfold fU at e
  obtain ⟨a,b,h1,h2,h3⟩:=ac3 (xs:=xs) (ys:=ys) (i:=i) (v:=v) (by simpa using e)
  exact ⟨a,b,by simpa using h1,by simpa using h2,h3⟩
def rB:List AV→Sto→Res (List PV × Gd)
 | [a,b],S=>match bV a S with
  | .ok xs _=>match bV b S with
   | .ok ys _=>.ok (fU xs.1 ys.1,xs.2++ys.2) S
   | _=>.fail
  | _=>.fail
 | _,_=>.fail
def mJ (ms:MA):MI:=fun ρ S=>(ms ρ S).bind rB
theorem acI {a:AV} {x:V} {xs:List PV × Gd} {S':Sto} (s:Sim K p S H) (r:bU K p H a x) (e:bV a S=.ok xs S'):∃ f ad vs,x=.ref ad∧SqF f K H ad vs∧xs.1.length≤sizeLine∧∀ q H1 S1,bK p H q H1→Sim K q S1 H1→gOk xs.2 S1→∃ vs,SqF f K H1 ad vs∧aT K q.c H1 xs.1 vs:=by
 cases a with
 | ref j =>
  obtain ⟨a,e1,rfl⟩:=r
  unfold bV at e
  dsimp only at e
  cases z:S[j]? with
  | none=>rw [z] at e; cases e
  | some o =>
   cases o with
   | lol xss=>rw [z] at e; cases e
   | lst ys =>
    rw [z] at e
    cases e
    obtain ⟨vs,h1,l1,r1⟩:=s.obj j a _ e1 z
    refine ⟨false,a,vs,rfl,SqL.of h1,by rw [r1.length]; exact l1,fun q H1 S1 st sm g=>?_⟩
    obtain ⟨ws,h2,l2,r2⟩:=sm.obj j a _ (st.at_ e1) (g (j,ys) List.mem_cons_self)
    exact ⟨ws,SqL.of h2,r2⟩
 | pv v =>
  cases v with
  | lst ys =>
   cases e
   have r:Rep K p.c H (.lst ys) x:=r
   unfold Rep at r
   obtain ⟨a,vs,rfl,l,z,r⟩:=r
   exact ⟨false,a,vs,rfl,l.sq,by rw [r.length]; exact z,fun q H1 S1 st sm g=>⟨vs,(st.lat l).sq,st.reps r⟩⟩
  | tup ys =>
   cases e
   have r:Rep K p.c H (.tup ys) x:=r
   unfold Rep at r
   obtain ⟨a,vs,rfl,l,z,r⟩:=r
   exact ⟨true,a,vs,rfl,l,by rw [r.length]; exact z,fun q H1 S1 st sm g=>⟨vs,st.tup l,st.reps r⟩⟩
  | _=>cases e
theorem yO {elts:List Expr} {x1:Nat} {tp p:Pos} (hg:Gl X "zip") (hm:X.mg "zip"=none) (hl:PAp K cl E X [a,b] ms) (hs:starEach [a,b] X.env=[(false,eval a X.env),(false,eval b X.env)]:=by rfl) (hs2:starEach [b] X.env=[(false,eval b X.env)]:=by rfl) :
  PIp K cl E X (.Tuple elts x1 tp) (.Call (.Name "zip" p) [a,b] [] pos) (mJ ms):=by
 intro hK
 subst hK
 refine PI.imp (ajk hg hm (hl rfl) hs hs2) fun σ H R ⟨p,S,ρ,s,ev,h⟩=>?_
 refine bO s ev h fun q H' as xs S' stp sm ev r k=>?_
 unfold rB at k
 split at k
 ·rename_i u v
  cases r with
  | cons r1 r2 =>
   cases r2 with
   | cons r2 r3 =>
    cases r3
    split at k
    ·rename_i xs1 S1 hx
     split at k
     ·rename_i ys1 S2 hy
      obtain ⟨f1,a1,vs1,rfl,q1,z1,st1⟩:=acI sm r1 hx
      obtain ⟨f2,a2,vs2,rfl,q2,z2,st2⟩:=acI sm r2 hy
      refine ⟨f1,a1,f2,a2,vs1,vs2,rfl,q1,q2,bN.ret (R:=dN X.K) k sm ?_⟩
      refine ⟨by rw [yD]; omega,fun q3 H3 S3 st3 sm3 g3=>?_⟩
      obtain ⟨ws1,w1,rr1⟩:=st1 q3 H3 S3 st3 sm3 fun g hg=>g3 g (List.mem_append_left _ hg)
      obtain ⟨ws2,w2,rr2⟩:=st2 q3 H3 S3 st3 sm3 fun g hg=>g3 g (List.mem_append_right _ hg)
      refine ⟨fun i v e=>?_,?_⟩
      ·obtain ⟨x,y,ex,ey,rfl⟩:=ac3 e
       obtain ⟨x',ex',rx⟩:=rr1.get ex
       obtain ⟨y',ey',ry⟩:=rr2.get ey
       refine ⟨⟨ws1,ws2,x',y',w1,w2,ex',ey'⟩,fun z H4 hz=>?_⟩
       obtain ⟨t,x2,y2,ht,rfl,rfl,g1,g2⟩:=hz
       have e1:=(g1 ws1 w1).symm.trans ex'
       have e2:=(g2 ws2 w2).symm.trans ey'
       cases e1
       cases e2
       refine ⟨eX ht,kP sm3 (.cons rx (.cons ry .nil)) (by show 2≤sizeLine; decide) ht⟩
      ·refine ⟨ws1,ws2,w1,w2,?_⟩
       show (fU xs1.1 ys1.1).length=_∨_
       rw [yD,rr1.length,rr2.length]
       omega
     ·exact k.elim
    ·exact k.elim
 ·exact k.elim
def gO:Nat→List PV→List PV
 | _,[]=>[]
 | n,x :: xs=>.tup [.int n,x] :: gO (n+1) xs
theorem xG:∀ (n:Nat) (xs:List PV),(gO n xs).length=xs.length
 | _,[]=>rfl
 | n,x :: xs=>by
  unfold gO
  rw [List.length_cons,xG (n+1) xs,List.length_cons]
theorem acn:∀ {n:Nat} {xs:List PV} {i:Nat} {v:PV},(gO n xs)[i]?=some v→∃ x,xs[i]?=some x∧v=.tup [.int ((n+i:Nat):Int),x]
 | n,[],i,v,e=>by simp [gO] at e
 | n,x :: xs,0,v,e=>by
  unfold gO at e
  simp at e
  exact ⟨x,rfl,e.symm⟩
 | n,x :: xs,i+1,v,e=>by
  unfold gO at e
  obtain ⟨y,h1,h2⟩:=acn (n:=n+1) (xs:=xs) (i:=i) (v:=v) (by simpa using e)
  refine ⟨y,by simpa using h1,?_⟩
  rw [h2,show n+1+i=n+(i+1) by omega]
def zF:List AV→Sto→Res (List PV × Gd)
 | [.pv (.lst xs)],S=>.ok (gO 0 xs,[]) S
 | [.ref k],S=>match bV (.ref k) S with
  | .ok xs _=>.ok (gO 0 xs.1,xs.2) S
  | _=>.fail
 | _,_=>.fail
def ag5 (ms:MA):MI:=fun ρ S=>(ms ρ S).bind zF
theorem agu {xs:List PV} {G:Gd} {a:Addr} (z:xs.length≤sizeLine) (st1:∀ q H1 S1,bK p H q H1→Sim K q S1 H1→gOk G S1→∃ vs,SqL K H1 a vs∧aT K q.c H1 xs vs):dN K p H (gO 0 xs,G) (Ite K a):=by
 refine ⟨by rw [xG]; exact z,fun q3 H3 S3 st3 sm3 g3=>?_⟩
 obtain ⟨ws1,w1,rr1⟩:=st1 q3 H3 S3 st3 sm3 g3
 refine ⟨fun i v e=>?_,?_⟩
 ·obtain ⟨x,ex,rfl⟩:=acn e
  obtain ⟨x',ex',rx⟩:=rr1.get ex
  refine ⟨⟨ws1,x',w1,ex'⟩,fun z H4 hz=>?_⟩
  obtain ⟨t,y2,ht,rfl,rfl,g1⟩:=hz
  have e1:=(g1 ws1 w1).symm.trans ex'
  cases e1
  refine ⟨eX ht,kP sm3 (.cons ?_ (.cons rx .nil)) (by show 2≤sizeLine; decide) ht⟩
  rw [Nat.zero_add]
  exact fK (v:=.int _) rfl
 ·refine ⟨ws1,w1,?_⟩
  show _≤(gO 0 xs).length
  rw [xG,rr1.length]
  exact Nat.le_refl _
theorem afE {elts:List Expr} {x1:Nat} {tp p:Pos} (hg:Gl X "enumerate") (hm:X.mg "enumerate"=none) (hl:PAp K cl E X [l] ms) (hs:starEach [l] X.env=[(false,eval l X.env)]:=by rfl) :
  PIp K cl E X (.Tuple elts x1 tp) (.Call (.Name "enumerate" p) [l] [] pos) (ag5 ms):=by
 intro hK
 subst hK
 refine PI.imp (ahh hg hm (hl rfl) hs) fun σ H R ⟨p,S,ρ,s,ev,h⟩=>?_
 refine bO s ev h fun q H' as xs S' stp sm ev r k=>?_
 unfold zF at k
 split at k
 ·rename_i ys
  cases r with
  | cons r1 r2 =>
   cases r2
   rename_i x
   have r1:Rep X.K q.c H' (.lst ys) x:=r1
   unfold Rep at r1
   obtain ⟨a,vs,rfl,l,z,r⟩:=r1
   exact ⟨a,rfl,⟨vs,l.sq⟩,bN.ret (R:=dN X.K) k sm (agu (by rw [r.length]; exact z) fun q H1 S1 st sm g=>⟨vs,(st.lat l).sq,st.reps r⟩)⟩
 ·rename_i j
  cases r with
  | cons r1 r2 =>
   cases r2
   split at k
   ·rename_i xs1 S1 hx
    obtain ⟨a,e1,rfl⟩:=r1
    cases z:S'[j]? with
    | none=>unfold bV at hx; simp only [z] at hx; cases hx
    | some o =>
     cases o with
     | lol xss=>unfold bV at hx; simp only [z] at hx; cases hx
     | lst ys =>
      unfold bV at hx
      simp only [z] at hx
      cases hx
      obtain ⟨vs,h1,l1,r1⟩:=sm.obj j a _ e1 z
      refine ⟨a,rfl,⟨vs,SqL.of h1⟩,bN.ret (R:=dN X.K) k sm (agu (by rw [r1.length]; exact l1) fun q H1 S1 st sm g=>?_)⟩
      obtain ⟨ws,h2,l2,r2⟩:=sm.obj j a _ (st.at_ e1) (g (j,ys) List.mem_cons_self)
      exact ⟨ws,SqL.of h2,r2⟩
   ·exact k.elim
 ·exact k.elim
end
end L2.Pp
namespace L2.Pp
open PySem PySem.Spec PyProof.Rows Bn
theorem hu8 {A:Around} {k:Nat} (hr:cY k A):A.units+8 < cLine:=by
 have:=hr.units
 omega
section
variable {K:PySem.W.Frag} {cl:Str→Addr} {E:XK} {X:Cx} {a b c e l tg:Expr} {es:List Expr} {m ma mb:ME} {ms:MA} {pos:Pos} {p q:Ph} {H H':Hp} {S:Sto}
def eY (n:String):PV→Option PV
 | .int _=>if n="int" then some (.bl true) else if n="bool" then some (.bl false) else none
 | .tup _=>if n="tuple" then some (.bl true) else none
 | .lst _=>if n="list" then some (.bl true) else none
 | .str _=>if n="str" then some (.bl true) else none
 | .bl _=>if n="bool" then some (.bl true) else none
 | _=>none
theorem pY (K:PySem.W.Frag) (n:String):PySem.W.kitOne K (.type n) (.type n)=some true:=by
 unfold PySem.W.kitOne
 rw [if_pos (beq_self_eq_true _)]
def akV (K:PySem.W.Frag) (n:String):V→Hp→VK→Prop:=fun x H Q=>(∃ t b,gX K H x t∧PySem.W.kitOne K t (.type n)=some b∧Q (.bl b) H)∨(n="tuple"∧∃ a xs,x=.ref a∧SqT K H a xs∧Q (.bl true) H)∨(n="list"∧∃ a xs,x=.ref a∧SqL K H a xs∧Q (.bl true) H)
theorem ad0 (n:String):fS X (.builtin "isinstance") (fun xs H Q=>∃ x,xs=[x,.ty n]∧akV X.K n x H Q):=by
 intro pins s σ H xs us Q I r h
 obtain ⟨x,rfl,h⟩:=h
 obtain ⟨u,c,rfl,rx,rc⟩:=agJ r
 cases (show c=Value.type n from rc)
 rcases h with ⟨t,b,ty,e,q⟩ | ⟨rfl,a,xs,rfl,t,q⟩ | ⟨rfl,a,xs,rfl,t,q⟩
 ·exact aeF I rx ty e fun tk=>⟨.bl b,H,I.tok tk,rfl,q⟩
 ·cases rx
  obtain ⟨its,_,⟨o,h1,h2,_⟩,_⟩:=I.tuple t
  exact PySem.W.kia_one PySem.W.kitx_tuple I.kIn ⟨o,h1,h2⟩ (pY X.K "tuple") (fun z=>nomatch z) fun tk=>⟨.bl true,H,I.tok tk,rfl,q⟩
 ·cases rx
  obtain ⟨its,_,pl,_⟩:=I.list t
  obtain ⟨o,h1,h2,_⟩:=pl.isList
  exact PySem.W.kia_one PySem.W.kitx_list I.kIn ⟨o,h1,h2⟩ (pY X.K "list") (fun z=>nomatch z) fun tk=>⟨.bl true,H,I.tok tk,rfl,q⟩
theorem akw (n:String):UnS K (akV K n) (eY n):=fun {p S H a c x Q} s ra e k=>by
 have fin:∀ b,c=.bl b→Q (.bl b) H:=fun b h=>by
  subst h
  exact k H _ (bZ.refl H) (by unfold Rep; rfl)
 cases a with
 | int i =>
  cases ra.int
  unfold eY at e
  dsimp only at e
  split at e
  ·rename_i hn
   cases e
   subst hn
   exact .inl ⟨_,true,.int i,pY K _,fin _ rfl⟩
  ·split at e
   ·rename_i hn
    cases e
    subst hn
    exact .inl ⟨_,false,.int i,ajr K,fin _ rfl⟩
   ·cases e
 | bl i =>
  cases ra.bl
  unfold eY at e
  dsimp only at e
  split at e
  ·rename_i hn
   cases e
   subst hn
   exact .inl ⟨_,true,.bl i,pY K _,fin _ rfl⟩
  ·cases e
 | str i =>
  cases ra.str
  unfold eY at e
  dsimp only at e
  split at e
  ·rename_i hn
   cases e
   subst hn
   exact .inl ⟨_,true,.str i,pY K _,fin _ rfl⟩
  ·cases e
 | tup xs =>
  obtain ⟨a,vs,rfl,t,_,_⟩:=ra.tup
  unfold eY at e
  dsimp only at e
  split at e
  ·rename_i hn
   cases e
   exact .inr (.inl ⟨hn,a,vs,rfl,t,fin _ rfl⟩)
  ·cases e
 | lst xs =>
  obtain ⟨a,vs,rfl,t,_,_⟩:=ra.lst
  unfold eY at e
  dsimp only at e
  split at e
  ·rename_i hn
   cases e
   exact .inr (.inr ⟨hn,a,vs,rfl,t,fin _ rfl⟩)
  ·cases e
 | non=>cases e
theorem oA {n:String} {t:Str} {p p2:Pos} (hg:Gl X "isinstance") (hm:X.mg "isinstance"=none) (hgt:Gl X t) (hmt:X.mg t=none) (hv:bootBuiltins t=some (.type n)) (ha:PEp K cl E X a m)
  (htn:t≠"__name__":=by decide) (htd:(t == ("__debug__":Str))=false:=by decide)
  (he:starEach [a,.Name t p2] X.env=(false,eval a X.env) :: starEach [.Name t p2] X.env:=by rfl) (he2:starEach [.Name t p2] X.env=[(false,eval (.Name t p2) X.env)]:=by rfl) (hpl:(backTo pos (starEach [.Name t p2] X.env)).any (·.1)=false:=by rfl) :
  PEp K cl E X (.Call (.Name "isinstance" p) [a,.Name t p2] [] pos) (mUn (eY n) m):=by
 intro hK
 subst hK
 refine PE.imp (acO (ad0 n) hg hm PyProof.Rows.boot_isinstance (nZ (ha rfl) (nZ (ahV hgt hmt hv (v:=.ty n) rfl htn htd) uI he2) he) (by decide) (by decide) he hpl) fun σ H Q ⟨p,S,ρ,s,ev,h⟩=>?_
 exact bO s ev h fun q H' as x S' stp sm ev r k=>⟨x,rfl,sW (akw n) sm r k⟩
def lF:PV→Option PV
 | .non=>some (.bl true)
 | _=>some (.bl false)
def uP (K:PySem.W.Frag):Sp:=fun vs H Q _=>∃ (a:Addr) (ns:List Int),vs=[.ref a]∧SqL K H a (ns.map V.int)∧ns.length≤63∧∀ H',Q (.bl true) H'
theorem ag8 {f:FM} (ht:∀ ns:List Int,ns.length≤63→∃ S,f [.pv (.lst (ns.map .int))] []=.ok (.pv (.bl true)) S) {vs:List V} {H:Hp} {Q:VK} {E:XK} (h:uP K vs H Q E):bL K cl f vs H Q E:=by
 obtain ⟨a,ns,rfl,hS,hl,hQ⟩:=h
 obtain ⟨S,e⟩:=ht ns hl
 have rs:∀ (ns:List Int),aT K (fun _=>False) H (ns.map .int) (ns.map V.int):=fun ns=>by
  induction ns with
  | nil=>exact .nil
  | cons n ns ih=>exact .cons (by unfold Rep; rfl) ih
 refine ⟨⟨[],fun _=>False,fun _=>False⟩,[],[.pv (.lst (ns.map .int))],⟨List.nodup_nil,rfl,(fun _ h=>absurd h (List.not_mem_nil)),(fun _ h=>h),(fun _ h=>h.elim),(fun k a o e=>by simp at e)⟩,.cons ?_ .nil,?_⟩
 ·show Rep K (fun _=>False) H (.lst (ns.map .int)) (.ref a)
  unfold Rep
  refine ⟨a,_,rfl,?_,?_,rs ns⟩
  ·rcases hS with (h | h) | h
   ·exact .inl ⟨h,fun z=>z⟩
   ·exact .inr (.inl h)
   ·exact .inr (.inr h)
  ·rw [List.length_map,fB]
   omega
 ·rw [e]
  intro q H' x st sm r
  have r:Rep K q.c H' (.bl true) x:=r
  unfold Rep at r
  rw [r]
  exact hQ H'
end
end L2.Pp
namespace L2.Pp
open PySem PySem.Spec PyProof.Rows Bn
section
variable {K:PySem.W.Frag} {cl:Str→Addr} {E:XK} {X:Cx} {e:Expr} {es:List Expr} {ms:MA} {p q:Ph} {H H':Hp} {S:Sto}
variable {k:Nat} {f:Addr} {fd:FuncData} {ps:List Str} {g:FM} {dvs:List V} {ds:List Value} {dv:List PV} {x:Str} {pp pos pos1 pos2 pos3 pc:Pos} {c n:Str} {i nn:Nat} {b₀:Stmt} {body:List Stmt} {newId:String} {up:Rho→Rho}
end
end L2.Pp
namespace L2
open PySem PySem.Spec PyProof.Rows Bn
section
variable {X:Cx} {k:Nat} {f:Addr} {fd:FuncData} {ps:List Str} {sp:Sp} {dvs:List V} {ds:List Value} {x:Str} {p pos pos1 pos2 pos3 pc:Pos} {e:Expr} {es:List Expr} {t:TA} {c n:Str} {C:Addr} {i:Nat} {b₀:Stmt} {body:List Stmt} {newId:String}
end
end L2
namespace L2.Pp
open PySem PySem.Spec PyProof.Rows Bn
section
variable {K:PySem.W.Frag} {cl:Str→Addr} {E:XK} {X:Cx} {e:Expr} {es:List Expr} {ms:MA} {p q:Ph} {H H':Hp} {S:Sto}
variable {k:Nat} {f:Addr} {fd:FuncData} {ps:List Str} {g:FM} {dvs:List V} {ds:List Value} {dv:List PV} {x:Str} {pp pos pos1 pos2 pos3 pc:Pos} {c n:Str} {i nn:Nat} {b₀:Stmt} {body:List Stmt} {newId:String} {up:Rho→Rho}
end
end L2.Pp
namespace L2.Pp
open PySem
section
variable {prog:Program} {w:World} {A:Around} {E:Value→Shared→Prop} {s:Shared}
end
end L2.Pp
namespace L2
open PySem PyProof.Rows
end L2
namespace L2.Pp
open PySem
end L2.Pp
namespace L2
open PySem PySem.Spec PyProof.Rows Bn
section
variable {X:Cx}
theorem aaF (is:List Int):∀ j,j≤is.length→preSum (fun i=>is.getD i 0) j=(is.take j).sum
 | 0,_=>by simp [preSum]
 | j+1,h=>by
  have hj:j < is.length:=h
  rw [preSum,aaF is j (by omega),List.take_add_one,List.getElem?_eq_getElem hj,Option.toList_some,List.sum_append,List.sum_singleton]
  simp only [List.getD,List.getElem?_eq_getElem hj,Option.getD_some]
theorem ace (hc:X.calm=true):fS X (.builtin "sum") (fun xs H Q=>∃ (a:Addr) (is:List Int),xs=[.ref a]∧SqL X.K H a (is.map V.int)∧Q (.int is.sum) H):=by
 intro pins s σ H xs us Q I r h
 obtain ⟨a,is,rfl,hq,q⟩:=h
 obtain ⟨u,rfl,ru⟩:=gW r
 cases ru
 obtain ⟨its,rv,pl,hz⟩:=I.list hq
 have hl:is.length=its.length:=by
  have:=rv.length
  rwa [List.length_map] at this
 refine call_sum_walkG (wpAny_pyIter_list pl.isList ?_)
 have ha:a < s.heap.objs.size:=by
  obtain ⟨o,ho,_⟩:=pl.isList
  exact Heap.lt_size ho
 refine ⟨_,_,_,_,_,_,fun i=>is.getD i 0,rfl,Walks.list (prog:=X.prog) (w:=X.w) (A:=X.A.in1) (show X.A.in1.handled=none from I.ok.hd hc) s.heap.objs.size a (Nat.ne_of_lt ha) its.toArray,⟨⟨_,Heap.get?_push_size _ rfl,rfl,rfl⟩,Heap.IsList.at pl.isList fun o e=>Heap.get?_push_of_some _ e⟩,fun b hb=>?_,fun i v hv=>?_,fun h' tk t' kp=>?_⟩
 ·have hb':b=s.heap.objs.size∨b=a:=by simpa using hb
  rw [Heap.size_push]
  rcases hb' with e | e <;> rw [e]
  ·exact Nat.lt_succ_self _
  ·exact Nat.lt_succ_of_lt ha
 ·have hv':its[i]?=some v:=by simpa using hv
  have hi:i < is.length:=by
   have:=(List.getElem?_eq_some_iff.mp hv').1
   omega
  obtain ⟨u,hu,ru⟩:=rv.get (i:=i) (x:=.int is[i]) (by rw [List.getElem?_map,List.getElem?_eq_getElem hi]; rfl)
  rw [hv'] at hu
  cases hu
  obtain ⟨t,ht⟩:=(show ∃ t,v=Value.int is[i] t from ru)
  exact ⟨t,by rw [ht]; simp [List.getD,hi]⟩
 ·have e:preSum (fun i=>is.getD i 0) its.toArray.size=is.sum:=by
   rw [List.size_toArray,← hl,aaF is _ (Nat.le_refl _),List.take_length]
  show EP X pins σ Q (.int (preSum (fun i=>is.getD i 0) its.toArray.size) t') _
  rw [e]
  have I1:Inv X pins σ H { s with heap:=s.heap.push { cls:=.type "list_iterator",data:=.fields #[.ref a,.int 0 0] },toks:=s.toks }:=I.kept fun b o z=>Heap.get?_push_of_some _ z
  have fp:dR X pins H s.heap.objs.size:=I.fpOk (Nat.le_refl _) (I.hok.fresh (Nat.le_refl _))
  obtain ⟨f0,f1,f2,f3,f4,f5⟩:=fp
  exact ⟨.int is.sum,H,I1.turned (fun b o hb z=>kp b o (by simpa using hb) z) f0 f1 f3 f4 f5,⟨t',rfl⟩,q⟩
end
end L2
namespace L2.Pp
open PySem PySem.Spec PyProof.Rows Bn
section
variable {K:PySem.W.Frag} {cl:Str→Addr} {E:XK} {X:Cx}
def jV:List PV→Option (List Int)
 | []=>some []
 | .int b :: r=>match jV r with
  | some bs=>some (b :: bs)
  | none=>none
 | _ :: _=>none
theorem xL {c:Addr→Prop} {H:Hp}:∀ {xs:List PV} {bs:List Int} {vs:List V},jV xs=some bs→aT K c H xs vs→vs=bs.map V.int
 | [],bs,vs,e,r=>by
  cases e
  unfold aT at r
  exact r
 | .int b :: xs,bs,vs,e,r=>by
  unfold jV at e
  split at e
  ·rename_i cs h
   cases e
   unfold aT at r
   obtain ⟨v,w,rfl,r1,r2⟩:=r
   unfold Rep at r1
   rw [r1,xL h r2]
   rfl
  ·cases e
 | .non :: _,_,_,e,_=>by cases e
 | .bl _ :: _,_,_,e,_=>by cases e
 | .str _ :: _,_,_,e,_=>by cases e
 | .tup _ :: _,_,_,e,_=>by cases e
 | .lst _ :: _,_,_,e,_=>by cases e
def pL:List PV→Option PV
 | [.lst xs]=>(jV xs).map fun bs=>.int bs.sum
 | _=>none
theorem ajy:CaR K (fun xs H Q=>∃ (a:Addr) (is:List Int),xs=[.ref a]∧SqL K H a (is.map V.int)∧Q (.int is.sum) H) pL:=fun {p S H as c xs Q} s ra e k=>by
 unfold pL at e
 split at e
 ·rename_i zs
  cases y:jV zs with
  | none=>rw [y] at e; cases e
  | some bs =>
   rw [y] at e
   cases e
   cases ra with
   | cons h t =>
    cases t
    obtain ⟨a,vs,rfl,l,z,r⟩:=h.lst
    rw [xL y r] at l
    exact ⟨a,bs,rfl,l,k H _ (bZ.refl H) (fK (v:=.int _) rfl)⟩
 ·cases e
theorem ad2 (l:Addr) (items:Array Value) (n:Nat) (dd:Option Addr) (sl:Array (Option Value)) (x:Int) (u:Tok) (hc0:¬(!Builtin.List.listFitsIndex x)=true) (hc1:¬items.size*x.toNat > (2 ^ 63 - 1) / 8) (hc2:¬Builtin.List.listTooLong (items.size*x.toNat)=true) :
  Meets (Builtin.«list.__mul__» ⟨[.ref l,.int x u],[]⟩) (fun _ R s=>s.heap.get? l=some { cls:=.type "list",dict:=dd,data:=.seq items n,slots:=sl }∧R (.ok (.ret (Value.ref s.heap.objs.size))) { s with heap:=s.heap.push { cls:=Value.type "list",data:=Data.seq (List.foldl (fun x1 x2=>x1++x2) #[] (List.replicate (if items.isEmpty=true then 0 else x.toNat) items)) },toks:=s.toks }) :=
 .of_wp fun prog w A R s h=>by
  obtain ⟨hp,g,d,tk,os⟩:=s; obtain ⟨hl,h⟩:=h
  have hsz:=AutoListH.joined_fits hc2
  wp_walk; refine wpAny_ite_false (decide_eq_false (Nat.not_lt.mpr hsz)) ?_; wp_walk; exact ⟨_,rfl,h⟩
theorem adR (a:Int) (t:Tok) (l:Addr) (items:Array Value) (n:Nat) (dd:Option Addr) (sl:Array (Option Value)) :
  Meets (Builtin.«int.__rmul__» ⟨[.int a t,.ref l],[]⟩) (fun _ R s=>s.heap.get? l=some { cls:=.type "list",dict:=dd,data:=.seq items n,slots:=sl }∧R (.ok (.ret Value.notImplemented)) s) :=
 .of_wp fun prog w A R s h=>by obtain ⟨hp,g,d,tk,os⟩:=s; obtain ⟨hl,h⟩:=h; wp_walk; exact ⟨_,rfl,h⟩
def aid (K:PySem.W.Frag):R2:=fun x y H Q=>∃ l k xs,x=.ref l∧y=.int k∧SqL K H l xs∧-(2 ^ 63)≤k∧k < 2 ^ 63∧xs.length*k.toNat≤sizeLine ∧
 ∀ p,H p=none→Q (.ref p) (upd H p (.lst (List.replicate k.toNat xs).flatten))
theorem ahI:OpR X (binaryOp .Mult) (aid X.K):=by
 intro pins s σ H x y v u Q I rx ry h
 obtain ⟨l,k,xs,rfl,rfl,hx,h1,h2,hz,q⟩:=h
 cases rx
 obtain ⟨t,rfl⟩:=ry
 obtain ⟨its,r,p1,_⟩:=I.list hx
 obtain ⟨⟨cls,dd,data,sl⟩,n,e,hc,_,hd⟩:=p1
 simp only at hc hd
 subst hc hd
 have hl:=r.length
 have hlen:its.toArray.size*k.toNat≤sizeLine:=by rw [List.size_toArray,← hl]; exact hz
 have hcap:¬ its.toArray.size*k.toNat > (2 ^ 63 - 1) / 8:=by
  have:(sizeLine:Nat)≤(2 ^ 63 - 1) / 8:=by decide
  omega
 have hfit:¬ (!Builtin.List.listFitsIndex k)=true:=by
  rw [fitsIndex_both h1 h2]
  exact Bool.false_ne_true
 have hlong:¬ Builtin.List.listTooLong (its.toArray.size*k.toNat)=true:=by
  rw [af6 hlen]
  exact Bool.false_ne_true
 have hnew:List.foldl (fun x1 x2=>x1++x2) #[] (List.replicate (if its.toArray.isEmpty=true then 0 else k.toNat) its.toArray)=(List.replicate k.toNat its).flatten.toArray:=by
  have f0:∀ m:Nat,List.foldl (fun x1 x2=>x1++x2) #[] (List.replicate m its.toArray)=(List.replicate m its).flatten.toArray:=fun m=>by
   have:=abG its m []
   rw [List.nil_append] at this
   exact this
  rw [f0]
  cases its with
  | nil=>simp
  | cons a r'=>rw [if_neg (by simp)]
 refine wpAny_binaryOp_repeat_ref (T:="list") (U:="int") (by decide) ⟨_,e,rfl⟩ (fun s'=>typeIs_int s' k t) noFill_list_mul F.fills_int_mul F.slot_int_rmul repeat_list F.slot_int_index.lookup
  (call_meets F.slot_int_rmul (typeIs_int s k t) F.entry_int_rmul (F.args_int_rmul_2 _ _) (adR k t l its.toArray n dd sl)
   ⟨e,rfl,⟨_,e,rfl⟩,call_meets F.slot_list_mul ⟨_,e,rfl⟩ F.entry_list_mul (F.args_list_mul_2 _ _) (ad2 l its.toArray n dd sl k t hfit hcap hlong) ⟨e,?_⟩⟩)
 rw [hnew]
 exact ⟨.ref _,_,I.lnew (t':=s.toks) (r.rep k.toNat) (by rw [aep,Nat.mul_comm]; exact hz),rfl,q _ I.fresh⟩
def vL (xs:List PV) (k:Int):List PV:=(List.replicate k.toNat xs).flatten
def akR (n:Nat) (k:Int):Prop:=-(2 ^ 63)≤k∧k < 2 ^ 63∧n*k.toNat≤16777216
open Classical in
noncomputable def rJ:PV→PV→Option PV
 | .lst xs,.int k=>if akR xs.length k then some (.lst (vL xs k)) else none
 | _,_=>none
open Classical in
theorem adD {xs:List PV} {k:Int}:rJ (.lst xs) (.int k)=if akR xs.length k then some (.lst (vL xs k)) else none:=rfl
theorem aT.rep {c:Addr→Prop} {H:Hp} {xs:List PV} {vs:List V} (r:aT K c H xs vs):∀ n:Nat,aT K c H (List.replicate n xs).flatten (List.replicate n vs).flatten
 | 0=>aT.nil
 | n+1=>by
  rw [List.replicate_succ,List.replicate_succ,List.flatten_cons,List.flatten_cons]
  exact r.append (aT.rep r n)
theorem ake:OpS K (aid K) rJ:=fun {p S H a b c x y Q} s ra rb e k=>by
 cases a with
 | lst xs =>
  cases b with
  | int j =>
   rw [adD] at e
   split at e
   ·rename_i hl
    cases e
    obtain ⟨a1,vs,rfl,l1,z1,r1⟩:=ra.lst
    have hz:vs.length*j.toNat≤sizeLine:=by rw [← r1.length,fB]; exact hl.2.2
    exact ⟨a1,j,vs,rfl,rb.int,l1,hl.1,hl.2.1,hz,fun t ht=>k _ _ (eX ht) (kS s (aT.rep r1 _) (by rw [aep,Nat.mul_comm]; exact hz) ht)⟩
   ·cases e
  | _=>cases e
 | _=>cases e
end
end L2.Pp
namespace L2.Pp
open PySem PySem.Spec PyProof.Rows Bn
section
variable {K:PySem.W.Frag} {cl:Str→Addr} {E:XK} {X:Cx} {p q:Ph} {H H':Hp} {S:Sto}
variable {sc:Scope} {own:List Str} {cap:List (Nat × Str)} {elt target iter:Expr} {pos:Pos} {mi:MI} {g:GM} {me:ME}
end
section
variable {K:PySem.W.Frag} {cl:Str→Addr} {E:XK} {X:Cx} {e:Expr} {m:ME} {pos p2:Pos}
end
end L2.Pp
namespace L2.Pp
open PySem PySem.Spec PyProof.Rows Bn
section
variable {K:PySem.W.Frag} {cl:Str→Addr} {E:XK} {X:Cx}
end
end L2.Pp
namespace L2
open PySem PySem.Spec PyProof.Rows Bn
open PySem.W (KasT kas_sort kas_ask KatLex KatGo KatTups kat_run kat_kind kat_lt kat_one kas_item kat_snds)
def kC {α:Type} (lt:Nat→Nat→Bool):KasT α→α
 | .ret a=>a
 | .ask i j k=>kC lt (k (lt i j))
def fX {α:Type} (n:Nat):KasT α→Bool
 | .ret _=>true
 | .ask i j k=>decide (i < n) && decide (j < n) && fX n (k true) && fX n (k false)
theorem acS {α:Type} {cmp:Nat→Nat→(Bool→Shared→Prop)→Shared→Prop} {lt:Nat→Nat→Bool} {n:Nat} {s:Shared} (hc:∀ i j (C:Bool→Shared→Prop),i < n→j < n→C (lt i j) s→cmp i j C s):∀ (t:KasT α) (Q:α→Shared→Prop),fX n t=true→Q (kC lt t) s→t.kasWp cmp Q s
 | .ret a,Q,_,h=>h
 | .ask i j k,Q,ok,h=>by
  unfold fX at ok
  simp only [Bool.and_eq_true,decide_eq_true_eq] at ok
  obtain ⟨⟨⟨hi,hj⟩,h1⟩,h2⟩:=ok
  refine hc i j _ hi hj (acS hc (k (lt i j)) Q ?_ h)
  cases lt i j
  ·exact h2
  ·exact h1
def oU (h:Heap) (v:Value) (us:List Int):Prop:=∃ a o its n,v=.ref a∧h.get? a=some o∧o.cls=.type "tuple"∧o.data=.seq (List.toArray its) n∧bC (us.map V.int) its
section
variable {prog:Program} {w:World} {A:Around} {E:Value→Shared→Prop} {s:Shared}
theorem adI {Q:Bool→Shared→Prop}:∀ (us vs:List Int) (its jts:List Value) (i:Nat) (fin:Bool),bC (us.map V.int) its→bC (vs.map V.int) jts→fin=decide (us.length < vs.length)→Q (HT.lexLt us vs) s→KatLex prog w A true fin Q (its.zip jts) i s
 | [],vs,its,jts,i,fin,h1,h2,hf,hQ=>by
  cases h1
  cases vs with
  | nil =>
   subst hf
   exact PySem.W.kat_nil hQ
  | cons v vs =>
   have e:fin=true:=by rw [hf]; simp
   subst e
   exact PySem.W.kat_nil hQ
 | u :: us,[],its,jts,i,fin,h1,h2,hf,hQ=>by
  cases h2
  have e:fin=false:=by rw [hf]; simp
  subst e
  rw [List.zip_nil_right]
  exact PySem.W.kat_nil hQ
 | u :: us,v :: vs,its,jts,i,fin,h1,h2,hf,hQ=>by
  cases h1 with
  | cons r1 t1 =>
   cases h2 with
   | cons r2 t2 =>
    obtain ⟨k1,rfl⟩:=r1
    obtain ⟨k2,rfl⟩:=r2
    rw [List.zip_cons_cons]
    refine PySem.W.kat_cons (wpAny_eqBool_int ?_)
    rw [HT.lexLt_cons] at hQ
    by_cases e:u=v
    ·rw [if_pos e] at hQ
     have b:(u == v)=true:=by simpa using e
     rw [b]
     exact PySem.W.kat_yes (adI us vs _ _ (i+1) fin t1 t2 (by rw [hf]; simp) hQ)
    ·rw [if_neg e] at hQ
     have b:(u == v)=false:=by simpa using e
     rw [b]
     refine PySem.W.kat_no ?_
     by_cases hi:i=0
     ·subst hi
      exact oneLt_int hQ
     ·have b2:(true && i == 0)=false:=by simpa using hi
      rw [b2]
      exact kat_one _ _ (PySem.P.lt_int hQ)
theorem aix {x y:Value} {us vs:List Int} {Q:Bool→Shared→Prop} (hx:oU s.heap x us) (hy:oU s.heap y vs) (h:Q (HT.lexLt us vs) s):wpAny (model prog w) A (keyLt' (tuples' true) x y) Q E s:=by
 obtain ⟨a,o,its,n,rfl,ho,hc,hd,r⟩:=hx
 obtain ⟨b,o2,jts,k,rfl,ho2,hc2,hd2,r2⟩:=hy
 refine kat_lt ho hd ho2 hd2 ?_
 have l1:=r.length
 have l2:=r2.length
 rw [List.length_map] at l1 l2
 refine adI us vs its jts 0 _ r r2 ?_ h
 rw [List.size_toArray,List.size_toArray,l1,l2]
theorem abm:∀ (vs:List Value) (uss:List (List Int)),vs.length=uss.length→(∀ i,i < vs.length→oU s.heap (vs.getD i Value.none) (uss.getD i [])∧uss.getD i []≠[])→∃ fs,KatTups s.heap vs fs∧fs.length=vs.length∧∀ v∈fs,∃ i t,v=.int i t
 | [],uss,_,_=>⟨[],trivial,rfl,fun _ h=>absurd h List.not_mem_nil⟩
 | v :: vs,[],hl,_=>by cases hl
 | v :: vs,us :: uss,hl,h=>by
  obtain ⟨fs,k,l,q⟩:=abm vs uss (by simpa using hl) fun i hi=>by
   have:=h (i+1) (by simp; omega)
   simpa using this
  obtain ⟨⟨a,o,its,n,e,ho,hc,hd,r⟩,ne⟩:=h 0 (by simp)
  have e:v=.ref a:=e
  subst e
  cases us with
  | nil=>exact absurd rfl ne
  | cons u us =>
   have r:bC (V.int u :: us.map V.int) its:=r
   cases r with
   | cons r1 t1 =>
    obtain ⟨t,rfl⟩:=r1
    refine ⟨.int u t :: fs,KatTups.cons ho hc hd (by simp) k,by simp [l],fun x hx=>?_⟩
    rcases List.mem_cons.mp hx with rfl | hx
    ·exact ⟨u,t,rfl⟩
    ·exact q x hx
def cN (uss:List (List Int)):List Nat:=(kC (fun i j=>HT.lexLt (uss.getD i []) (uss.getD j [])) (kas_sort uss.length)).toList
theorem abv {a:Addr} {vs:List Value} {uss:List (List Int)} {n:Nat} {P:PySem.Fin→Shared→Prop} (ho:s.heap.get? a=some (seqObj "list" vs.toArray n)) (hl:vs.length=uss.length) (h2:2≤vs.length) (h64:vs.length < 64) (ok:fX uss.length (kas_sort uss.length)=true)
  (tu:∀ i,i < vs.length→oU s.heap (vs.getD i Value.none) (uss.getD i [])∧uss.getD i []≠[])
  (h:P (.done (.ret .none)) { s with heap:=sortedHeap s.heap a vs (List.toArray ((cN uss).map fun i=>vs.getD i Value.none)) }) :
  wpAny (model prog w) A (Builtin.«list.sort» ⟨[.ref a],[]⟩) P E s:=by
 have ha:a < s.heap.objs.size:=Heap.lt_size ho
 obtain ⟨e1,ho1⟩:∃ e1,(s.heap.update a (Obj.mapSeq fun _=>(#[]:Array Value))).get? a=some (seqObj "list" #[] e1):=⟨_,get?_update_seq ho fun _=>#[]⟩
 have kp:∀ b o,b≠a→s.heap.get? b=some o→(((s.heap.update a (Obj.mapSeq fun _=>(#[]:Array Value))).push (seqObj "tuple" vs.toArray 0)).push (seqObj "list" #[] 0)).get? b=some o:=fun b o hb e =>
  Heap.get?_push_of_some _ (Heap.get?_push_of_some _ ((Heap.get?_update_ne _ _ _ _ hb).trans e))
 have tu2:∀ i,i < vs.length→oU (((s.heap.update a (Obj.mapSeq fun _=>(#[]:Array Value))).push (seqObj "tuple" vs.toArray 0)).push (seqObj "list" #[] 0)) (vs.getD i Value.none) (uss.getD i [])∧uss.getD i []≠[]:=fun i hi=>by
  obtain ⟨⟨b,o,its,m,e,hb,hc,hd,r⟩,ne⟩:=tu i hi
  refine ⟨⟨b,o,its,m,e,kp b o (fun z=>?_) hb,hc,hd,r⟩,ne⟩
  subst z
  rw [ho] at hb
  cases hb
  have hc:Value.type "list"=Value.type "tuple":=hc
  injection hc with hc
  exact absurd hc (by decide)
 have na:(((s.heap.update a (Obj.mapSeq fun _=>(#[]:Array Value))).push (seqObj "tuple" vs.toArray 0)).push (seqObj "list" #[] 0)).get? a=some (seqObj "list" #[] e1):=Heap.get?_push_of_some _ (Heap.get?_push_of_some _ ho1)
 rw [list_sort_plain]
 refine wpAny_bind (listItems_at ho rfl ?_)
 refine wpAny_bind (listUpdate_at ho rfl ?_ (by rw [List.size_toArray,sizeLine_eq]; omega) (Nat.zero_le _))
 refine wpAny_bind (seqEpoch_at ho1 rfl ?_)
 refine wpAny_bind (wpAny_newTuple ?_ (by show vs.length≤_; rw [sizeLine_eq]; omega))
 refine wpAny_bind (wpAny_newList ?_ (Nat.zero_le _))
 refine wpAny_holding ?_
 show wpAny (model prog w) A _ P E { s with heap:=((s.heap.update a (Obj.mapSeq fun _=>(#[]:Array Value))).push (seqObj "tuple" vs.toArray 0)).push (seqObj "list" #[] 0) }
 dsimp only
 have hn2:¬ vs.toArray.size < 2:=by rw [List.size_toArray]; omega
 rw [if_neg hn2,if_neg hn2]
 obtain ⟨fs,kt,lf,qf⟩:=abm (s:={ s with heap:=((s.heap.update a (Obj.mapSeq fun _=>(#[]:Array Value))).push (seqObj "tuple" vs.toArray 0)).push (seqObj "list" #[] 0) }) vs uss hl tu2
 refine wpAny_bind (kat_kind (T:=.type "int") kt (by omega) (fun v hv=>?_) rfl ?_)
 ·obtain ⟨i,t,rfl⟩:=qf v hv
  exact .now
 have bt:(Value.type "int" != Value.type "tuple")=true:=by decide
 rw [bt]
 refine wpAny_bind (wpAny_mono (kat_run (Q:=fun st' s'=>∃ p:Array Nat,p.size=vs.length∧arrOf st'=p.map (kas_item (vs.toArray.zip vs.toArray))∧failedOf st'=none∧p.toList=cN uss∧s'={ s with heap:=((s.heap.update a (Obj.mapSeq fun _=>(#[]:Array Value))).push (seqObj "tuple" vs.toArray 0)).push (seqObj "list" #[] 0) })
  (G:=fun p s'=>p.toList=cN uss∧s'={ s with heap:=((s.heap.update a (Obj.mapSeq fun _=>(#[]:Array Value))).push (seqObj "tuple" vs.toArray 0)).push (seqObj "list" #[] 0) })
  rfl h2 h64 (fun p' st' s' a1 a2 a3 a4=>⟨p',a1,a2,a3,a4⟩) ?_) ?_ fun _ _ e=>e)
 ·rw [hl]
  refine acS (lt:=fun i j=>HT.lexLt (uss.getD i []) (uss.getD j [])) (n:=uss.length) (fun i j C hi hj hC=>?_) _ _ ok ⟨rfl,rfl⟩
  exact aix (tu2 i (by omega)).1 (tu2 j (by omega)).1 hC
 rintro ⟨⟨⟩,st'⟩ s' ⟨p,hp,har,hf,hpl,rfl⟩
 dsimp only
 have hout:=kat_snds rfl har
 have hsz:(List.toArray (p.toList.map fun i=>vs.getD i Value.none)).size=vs.length:=by rw [List.size_toArray,List.length_map,Array.length_toList,hp]
 rw [hout]
 refine wpAny_bind (seqEpoch_at na rfl ?_)
 refine wpAny_bind (listUpdate_at na rfl ?_ (Nat.zero_le _) (Nat.le_trans (Nat.le_of_eq hsz) (by rw [sizeLine_eq]; omega)))
 rw [hf]
 simp only [bne_self_eq_false,Bool.false_eq_true,if_false]
 refine wpAny_pure ?_
 rw [hpl]
 exact h
theorem adk {l:Addr} {o:Obj} {T:String} {vs:List Value} {uss:List (List Int)} {n:Nat} {Q:Value→Shared→Prop} (hT:T="list"∨T="tuple") (ho:s.heap.get? l=some o) (hc:o.cls=.type T) (hd:o.data=.seq vs.toArray n) (hl:vs.length=uss.length) (h2:2≤vs.length) (h64:vs.length < 64) (ok:fX uss.length (kas_sort uss.length)=true)
  (tu:∀ i,i < vs.length→oU s.heap (vs.getD i Value.none) (uss.getD i [])∧uss.getD i []≠[])
  (h:∀ (h1 h':Heap) (c:Nat),(∀ b o',s.heap.get? b=some o'→h1.get? b=some o')→(∀ b o',h1.get? b=some o'→h'.get? b=some o')→h'.get? h1.objs.size=some (seqObj "list" (List.toArray ((cN uss).map fun i=>vs.getD i Value.none)) c)→Q (.ref h1.objs.size) { s with heap:=h' }) :
  wpAny (model prog w) A (call (.builtin "sorted") [.ref l]) Q E s:=by
 refine PySem.Calls.call_function_entry kind_sorted plain_sorted entry_sorted (args_sorted1 _) ?_
 unfold Builtin.«sorted»
 refine wpAny_bind (m:=checkCount "sorted" 1 1 _) (wpAny_pure ?_)
 refine wpAny_bind (wpAny_collect_seq l hT ho hc hd (fun h1 k1=>?_) (by rw [List.size_toArray,sizeLine_eq]; omega))
 refine wpAny_bind (wpAny_newList ?_ (by rw [sizeLine_eq]; simp; omega))
 have hoL:(h1.push (seqObj "list" vs.toArray 0)).get? h1.objs.size=some (seqObj "list" vs.toArray 0):=Heap.get?_push_size _ rfl
 show wpAny _ _ _ _ _ { s with heap:=h1.push (seqObj "list" vs.toArray 0) }
 refine wpAny_bind (wpAny_holding (wpAny_call_entry slot_list_sort ⟨_,hoL,rfl⟩ entry_list_sort ?body (args_list_sort _)))
 case body =>
  refine abv (s:={ s with heap:=h1.push (seqObj "list" vs.toArray 0) }) hoL hl h2 h64 ok (fun i hi=>?_) ⟨_,rfl,wpAny_pure ⟨_,rfl,?_⟩⟩
  ·obtain ⟨⟨b,o,its,m,e,hb,hc,hd,r⟩,ne⟩:=tu i hi
   exact ⟨⟨b,o,its,m,e,Heap.get?_push_of_some _ (k1 b o hb),hc,hd,r⟩,ne⟩
  ·obtain ⟨e1,ho1⟩:∃ e1,((h1.push (seqObj "list" vs.toArray 0)).update h1.objs.size (Obj.mapSeq fun _=>(#[]:Array Value))).get? h1.objs.size=some (seqObj "list" #[] e1):=⟨_,get?_update_seq hoL fun _=>#[]⟩
   have ho2:=Heap.get?_push_of_some (seqObj "list" #[] 0) (Heap.get?_push_of_some (seqObj "tuple" vs.toArray 0) ho1)
   obtain ⟨e2,ho3⟩:∃ e2,(sortedHeap (h1.push (seqObj "list" vs.toArray 0)) h1.objs.size vs (List.toArray ((cN uss).map fun i=>vs.getD i Value.none))).get? h1.objs.size=some (seqObj "list" (List.toArray ((cN uss).map fun i=>vs.getD i Value.none)) e2):=⟨_,get?_update_seq ho2 fun _=>List.toArray ((cN uss).map fun i=>vs.getD i Value.none)⟩
   refine h h1 _ e2 k1 (fun b o' hb1=>?_) ho3
   have hne:b≠h1.objs.size:=Nat.ne_of_lt (Heap.lt_size hb1)
   exact (Heap.get?_update_ne _ _ _ _ hne).trans (Heap.get?_push_of_some _ (Heap.get?_push_of_some _ ((Heap.get?_update_ne _ _ _ _ hne).trans (Heap.get?_push_of_some _ hb1))))
end
def ahW (K:PySem.W.Frag) (H:Hp) (ts:List V) (uss:List (List Int)):Prop:=ts.length=uss.length∧∀ i t,ts[i]?=some t→∃ a,t=.ref a∧SqT K H a ((uss.getD i []).map V.int)∧uss.getD i []≠[]
theorem abn {X:Cx}:fS X (.builtin "sorted") (fun xs H Q=>∃ (a:Addr) (ts:List V) (uss:List (List Int)),xs=[.ref a]∧(SqL X.K H a ts∨SqT X.K H a ts)∧ahW X.K H ts uss∧2≤ts.length∧ts.length < 64∧fX uss.length (kas_sort uss.length)=true∧(cN uss).length≤64 ∧
  ∀ l,H l=none→Q (.ref l) (upd H l (.lst ((cN uss).map fun i=>ts.getD i .non)))):=by
 intro pins s σ H xs us Q I r h
 obtain ⟨a,ts,uss,rfl,hq,⟨hl,ht⟩,h2,h64,ok,hpl,q⟩:=h
 obtain ⟨u,rfl,ru⟩:=gW r
 cases ru
 have go:∀ (its:List Value) (T:String) (o:Obj) (n:Nat),bC ts its→(T="list"∨T="tuple")→s.heap.get? a=some o→o.cls=.type T→o.data=.seq its.toArray n→ts.length≤sizeLine →
   wpAny (model X.prog X.w) X.A (call (.builtin "sorted") [.ref a]) (EP X pins σ Q) X.xe s:=fun its T o n rv hT ho hc hd hz=>by
  have hlen:=rv.length
  refine adk (uss:=uss) hT ho hc hd (by omega) (by omega) (by omega) ok (fun i hi=>?_) fun h1 h' c k1 k2 e=>?_
  ·have hi':i < ts.length:=by omega
   obtain ⟨b,e1,sq,ne⟩:=ht i ts[i] (List.getElem?_eq_getElem hi')
   obtain ⟨v,e2,rel⟩:=rv.get (List.getElem?_eq_getElem hi')
   rw [e1] at rel
   cases rel
   obtain ⟨jts,rj,⟨o2,ho2,hc2,m,hd2⟩,_⟩:=I.tuple sq
   refine ⟨⟨b,o2,jts,m,?_,ho2,hc2,hd2,rj⟩,ne⟩
   rw [List.getD,e2]
   rfl
  ·have I1:Inv X pins σ H { s with heap:=h1,toks:=s.toks }:=I.kept k1
   have hz2:((cN uss).map fun i=>ts.getD i .non).length≤sizeLine:=by
    rw [List.length_map,sizeLine_eq]
    omega
   have rel:∀ ps:List Nat,bC (ps.map fun i=>ts.getD i .non) (ps.map fun i=>its.getD i Value.none):=fun ps=>by
    induction ps with
    | nil=>exact .nil
    | cons i ps ih =>
     refine .cons ?_ ih
     by_cases hi:i < ts.length
     ·obtain ⟨v,e2,rr⟩:=rv.get (List.getElem?_eq_getElem hi)
      have q1:ts.getD i .non=ts[i]:=by simp [List.getD,hi]
      have q2:its.getD i Value.none=v:=by simp [List.getD,e2]
      show bM (ts.getD i .non) (its.getD i Value.none)
      rw [q1,q2]
      exact rr
     ·have q1:ts.getD i .non=.non:=by simp [List.getD,hi]
      have q2:its.getD i Value.none=Value.none:=by simp [List.getD,show its.length≤i by omega]
      show bM (ts.getD i .non) (its.getD i Value.none)
      rw [q1,q2]
      rfl
   refine ⟨.ref h1.objs.size,_,I1.laid (t':=s.toks) (o:=.lst ((cN uss).map fun i=>ts.getD i .non)) k2 (Nat.le_refl _) ?_,rfl,q _ (I1.hok.fresh (Nat.le_refl _))⟩
   exact ⟨hz2,_,c,rel _,e⟩
 rcases hq with hq | hq
 ·obtain ⟨its,rv,pl,hz⟩:=I.list hq
  obtain ⟨o,ho,hc,n,hd⟩:=pl.isList
  exact go its "list" o n rv (.inl rfl) ho hc hd hz
 ·obtain ⟨its,rv,⟨o,ho,hc,n,hd⟩,hz⟩:=I.tuple hq
  exact go its "tuple" o n rv (.inr rfl) ho hc hd hz
end L2
namespace L2.Pp
open PySem PySem.Spec PyProof.Rows Bn
open PySem.W (kas_sort)
section
variable {K:PySem.W.Frag}
def kX:List PV→Option (List (List Int))
 | []=>some []
 | .tup us :: r=>match jV us,kX r with
  | some is,some uss=>some (is :: uss)
  | _,_=>none
 | _ :: _=>none
theorem ac1:∀ {xs:List PV} {uss:List (List Int)},kX xs=some uss→xs.length=uss.length
 | [],uss,e=>by cases e; rfl
 | .tup us :: r,uss,e=>by
  unfold kX at e
  split at e
  ·rename_i is uss' h1 h2
   cases e
   rw [List.length_cons,List.length_cons,ac1 h2]
  ·cases e
 | .non :: _,_,e=>by cases e
 | .bl _ :: _,_,e=>by cases e
 | .int _ :: _,_,e=>by cases e
 | .str _ :: _,_,e=>by cases e
 | .lst _ :: _,_,e=>by cases e
theorem aeq {c:Addr→Prop} {H:Hp}:∀ {xs:List PV} {uss:List (List Int)} {vs:List V},kX xs=some uss→aT K c H xs vs→∀ i t,vs[i]?=some t→∃ a,t=.ref a∧SqT K H a ((uss.getD i []).map V.int)
 | [],uss,vs,e,r,i,t,h=>by
  unfold aT at r
  subst r
  simp at h
 | .tup us :: r,uss,vs,e,rr,i,t,h=>by
  unfold kX at e
  split at e
  ·rename_i is uss' h1 h2
   cases e
   unfold aT at rr
   obtain ⟨v,w,rfl,r1,r2⟩:=rr
   cases i with
   | zero =>
    cases h
    unfold Rep at r1
    obtain ⟨a,ws,rfl,sq,_,r3⟩:=r1
    rw [xL h1 r3] at sq
    exact ⟨a,rfl,sq⟩
   | succ i =>
    have:=aeq h2 r2 i t (by simpa using h)
    simpa using this
  ·cases e
 | .non :: _,_,_,e,_,_,_,_=>by cases e
 | .bl _ :: _,_,_,e,_,_,_,_=>by cases e
 | .int _ :: _,_,_,e,_,_,_,_=>by cases e
 | .str _ :: _,_,_,e,_,_,_,_=>by cases e
 | .lst _ :: _,_,_,e,_,_,_,_=>by cases e
def ag1 (uss:List (List Int)):Prop:=2≤uss.length∧uss.length < 64∧fX uss.length (kas_sort uss.length)=true∧(cN uss).length≤64∧∀ us∈uss,us≠[]
def ag0 (xs:List PV) (uss:List (List Int)):List PV:=(cN uss).map fun i=>xs.getD i .non
open Classical in
noncomputable def oY (xs:List PV):Option PV:=match kX xs with
 | some uss=>if ag1 uss then some (.lst (ag0 xs uss)) else none
 | none=>none
noncomputable def qC:List PV→Option PV
 | [.lst xs]=>oY xs
 | [.tup xs]=>oY xs
 | _=>none
theorem abX {c:Addr→Prop} {H:Hp} {xs:List PV} {vs:List V} (r:aT K c H xs vs):∀ ps:List Nat,aT K c H (ps.map fun i=>xs.getD i .non) (ps.map fun i=>vs.getD i .non)
 | []=>.nil
 | i :: ps=>by
  refine .cons ?_ (abX r ps)
  by_cases hi:i < xs.length
  ·obtain ⟨v,e1,e2⟩:=r.get (List.getElem?_eq_getElem hi)
   have q1:xs.getD i .non=xs[i]:=by simp [List.getD,hi]
   have q2:vs.getD i .non=v:=by simp [List.getD,e1]
   show Rep K c H (xs.getD i .non) (vs.getD i .non)
   rw [q1,q2]
   exact e2
  ·have hl:=r.length
   have q1:xs.getD i .non=.non:=by simp [List.getD,hi]
   have q2:vs.getD i .non=.non:=by simp [List.getD,show vs.length≤i by omega]
   show Rep K c H (xs.getD i .non) (vs.getD i .non)
   rw [q1,q2]
   unfold Rep
   rfl
theorem agl:CaR K (fun xs H Q=>∃ (a:Addr) (ts:List V) (uss:List (List Int)),xs=[.ref a]∧(SqL K H a ts∨SqT K H a ts)∧ahW K H ts uss∧2≤ts.length∧ts.length < 64∧fX uss.length (kas_sort uss.length)=true∧(cN uss).length≤64 ∧
  ∀ l,H l=none→Q (.ref l) (upd H l (.lst ((cN uss).map fun i=>ts.getD i .non)))) qC:=fun {p S H as c xs Q} s ra e k=>by
 have key:∀ (zs:List PV) (a:Addr) (vs:List V),oY zs=some c→(SqL K H a vs∨SqT K H a vs)→aT K p.c H zs vs→∃ (a':Addr) (ts:List V) (uss:List (List Int)),[V.ref a]=[.ref a']∧(SqL K H a' ts∨SqT K H a' ts)∧ahW K H ts uss∧2≤ts.length∧ts.length < 64∧fX uss.length (kas_sort uss.length)=true∧(cN uss).length≤64 ∧
   ∀ l,H l=none→Q (.ref l) (upd H l (.lst ((cN uss).map fun i=>ts.getD i .non))):=fun zs a vs e sq r=>by
  unfold oY at e
  split at e
  ·rename_i uss hu
   split at e
   ·rename_i hc
    cases e
    obtain ⟨c1,c2,c3,c4,c5⟩:=hc
    have l1:=ac1 hu
    have l2:=r.length
    refine ⟨a,vs,uss,rfl,sq,⟨by omega,fun i t h=>?_⟩,by omega,by omega,c3,c4,fun l hl=>?_⟩
    ·obtain ⟨b,e1,e2⟩:=aeq hu r i t h
     have hi:i < uss.length:=by
      have:=(List.getElem?_eq_some_iff.mp h).1
      omega
     refine ⟨b,e1,e2,?_⟩
     rw [List.getD,List.getElem?_eq_getElem hi]
     exact c5 _ (List.getElem_mem hi)
    ·refine k _ _ (eX hl) (kS s (abX r _) ?_ hl)
     rw [List.length_map,fB]
     omega
   ·cases e
  ·cases e
 unfold qC at e
 split at e
 ·rename_i zs
  cases ra with
  | cons h t =>
   cases t
   obtain ⟨a,vs,rfl,l,z,r⟩:=h.lst
   exact key zs a vs e (.inl l) r
 ·rename_i zs
  cases ra with
  | cons h t =>
   cases t
   obtain ⟨a,vs,rfl,l,z,r⟩:=h.tup
   exact key zs a vs e (.inr l) r
 ·cases e
end
end L2.Pp
namespace L2
open PySem.W (KasT kas_sort)
theorem aa7 {α:Type} {lt lt':Nat→Nat→Bool} {n:Nat} (h:∀ i j,i < n→j < n→lt i j=lt' i j):∀ t:KasT α,fX n t=true→kC lt t=kC lt' t
 | .ret a,_=>rfl
 | .ask i j k,ok=>by
  unfold fX at ok
  simp only [Bool.and_eq_true,decide_eq_true_eq] at ok
  obtain ⟨⟨⟨hi,hj⟩,h1⟩,h2⟩:=ok
  show kC lt (k (lt i j))=kC lt' (k (lt' i j))
  rw [← h i j hi hj]
  refine aa7 h (k (lt i j)) ?_
  cases lt i j
  ·exact h2
  ·exact h1
theorem jA:∀ u:List Int,HT.lexLt u u=false
 | []=>rfl
 | x :: u=>by rw [HT.lexLt_cons,if_pos rfl,jA u]
theorem zB:∀ u v:List Int,u=v∨HT.lexLt u v=true∨HT.lexLt v u=true
 | [],[]=>.inl rfl
 | [],_ :: _=>.inr (.inl rfl)
 | _ :: _,[]=>.inr (.inr rfl)
 | x :: u,y :: v=>by
  rw [HT.lexLt_cons,HT.lexLt_cons]
  by_cases h:x=y
  ·subst h
   rw [if_pos rfl,if_pos rfl]
   rcases zB u v with h | h | h
   ·exact .inl (by rw [h])
   ·exact .inr (.inl h)
   ·exact .inr (.inr h)
  ·rw [if_neg h,if_neg (fun z=>h z.symm)]
   by_cases q:x < y
   ·exact .inr (.inl (by simpa using q))
   ·exact .inr (.inr (by simp; omega))
theorem sS:∀ u v w:List Int,HT.lexLt u v=true→HT.lexLt v w=true→HT.lexLt u w=true
 | [],[],_,h,_=>by cases h
 | [],_ :: _,[],_,h=>by cases h
 | [],_ :: _,_ :: _,_,_=>rfl
 | _ :: _,[],_,h,_=>by cases h
 | _ :: _,_ :: _,[],_,h=>by cases h
 | x :: u,y :: v,z :: w,h1,h2=>by
  rw [HT.lexLt_cons] at h1 h2 ⊢
  by_cases e1:x=y
  ·subst e1
   rw [if_pos rfl] at h1
   by_cases e2:x=z
   ·rw [if_pos e2] at h2 ⊢
    exact sS u v w h1 h2
   ·rw [if_neg e2] at h2 ⊢
    exact h2
  ·rw [if_neg e1] at h1
   have h1:x < y:=by simpa using h1
   by_cases e2:y=z
   ·subst e2
    rw [if_neg e1]
    simpa using h1
   ·rw [if_neg e2] at h2
    have h2:y < z:=by simpa using h2
    rw [if_neg (by omega)]
    simp
    omega
theorem afO {u v:List Int} (h:HT.lexLt u v=true):HT.lexLt v u=false:=by
 cases q:HT.lexLt v u with
 | false=>rfl
 | true =>
  have:=sS u v u h q
  rw [jA] at this
  cases this
theorem afG {u v:List Int} (h:HT.lexLt u v=false) (g:HT.lexLt v u=false):u=v:=by
 rcases zB u v with e | e | e
 ·exact e
 ·rw [h] at e; cases e
 ·rw [g] at e; cases e
def r3 (a b c d e f:Bool):Bool:=(!(a && b) || c) && (!(d && e) || f)
def okT (b:Nat→Nat→Bool) (n:Nat):Bool:=(List.range n).all fun i=>!(b i i) && (List.range n).all fun j=>!(b i j && b j i) && (List.range n).all fun k=>(!(b i j && b j k) || b i k) && (b i j || b j k || !(b i k))
def uM (b:Nat→Nat→Bool) (n:Nat) (ps:List (List Nat)):Bool:=let p:=(kC b (kas_sort n)).toList
 ps.contains p && (List.range n).all fun i=>(List.range n).all fun j=>!(decide (i < j)) || !(b (p.getD j 0) (p.getD i 0))
def qQ:List (List Nat):=[[0,1,2],[0,2,1],[1,0,2],[1,2,0],[2,0,1],[2,1,0]]
def qO:List (List Nat):=[[0,1,2,3],[0,1,3,2],[0,2,1,3],[0,2,3,1],[0,3,1,2],[0,3,2,1],[1,0,2,3],[1,0,3,2],[1,2,0,3],[1,2,3,0],[1,3,0,2],[1,3,2,0],
 [2,0,1,3],[2,0,3,1],[2,1,0,3],[2,1,3,0],[2,3,0,1],[2,3,1,0],[3,0,1,2],[3,0,2,1],[3,1,0,2],[3,1,2,0],[3,2,0,1],[3,2,1,0]]
def mt3 (b01 b02 b10 b12 b20 b21:Bool) (i j:Nat):Bool:=match i,j with
 | 0,1=>b01 | 0,2=>b02 | 1,0=>b10 | 1,2=>b12 | 2,0=>b20 | 2,1=>b21 | _,_=>false
def mt4 (b01 b02 b03 b10 b12 b13 b20 b21 b23 b30 b31 b32:Bool) (i j:Nat):Bool:=match i,j with
 | 0,1=>b01 | 0,2=>b02 | 0,3=>b03 | 1,0=>b10 | 1,2=>b12 | 1,3=>b13 | 2,0=>b20 | 2,1=>b21 | 2,3=>b23 | 3,0=>b30 | 3,1=>b31 | 3,2=>b32 | _,_=>false
theorem aja:fX 3 (kas_sort 3)=true:=by decide +kernel
theorem ajB:fX 4 (kas_sort 4)=true:=by decide +kernel
theorem alq:∀ b01 b02 b10 b12 b20 b21:Bool,okT (mt3 b01 b02 b10 b12 b20 b21) 3=true→uM (mt3 b01 b02 b10 b12 b20 b21) 3 qQ=true:=by decide +kernel
theorem alu:∀ b01 b02 b03 b10 b12 b13 b20 b21 b23 b30 b31 b32:Bool,okT (mt4 b01 b02 b03 b10 b12 b13 b20 b21 b23 b30 b31 b32) 4=true→uM (mt4 b01 b02 b03 b10 b12 b13 b20 b21 b23 b30 b31 b32) 4 qO=true:=by decide +kernel
theorem af9 {b:Nat→Nat→Bool} {n:Nat} {uss:List (List Int)} (h:∀ i j,i < n→j < n→b i j=HT.lexLt (uss.getD i []) (uss.getD j [])):okT b n=true:=by
 unfold okT
 simp only [List.all_eq_true,List.mem_range,Bool.and_eq_true,Bool.not_eq_true',Bool.or_eq_true,Bool.and_eq_false_imp]
 intro i hi
 refine ⟨by rw [h i i hi hi,jA],fun j hj=>⟨fun q=>?_,fun k hk=>⟨?_,?_⟩⟩⟩
 ·rw [h i j hi hj] at q
  rw [h j i hj hi,afO q]
 ·rw [h i j hi hj,h j k hj hk,h i k hi hk]
  cases q1:HT.lexLt (uss.getD i []) (uss.getD j []) with
  | false=>exact .inl fun z=>by cases z
  | true =>
   cases q2:HT.lexLt (uss.getD j []) (uss.getD k []) with
   | false=>exact .inl fun _=>rfl
   | true=>exact .inr (sS _ _ _ q1 q2)
 ·rw [h i j hi hj,h j k hj hk,h i k hi hk]
  cases q1:HT.lexLt (uss.getD i []) (uss.getD j []) with
  | true=>exact .inl (.inl rfl)
  | false =>
   cases q2:HT.lexLt (uss.getD j []) (uss.getD k []) with
   | true=>exact .inl (.inr rfl)
   | false =>
    refine .inr ?_
    cases q3:HT.lexLt (uss.getD i []) (uss.getD k []) with
    | false=>rfl
    | true =>
     rcases zB (uss.getD i []) (uss.getD j []) with e | e | e
     ·rw [e] at q3; rw [q2] at q3; cases q3
     ·rw [q1] at e; cases e
     ·have:=sS _ _ _ e q3
      rw [q2] at this
      cases this
end L2
namespace L2
open PySem.W (KasT kas_sort)
def cH (uss:List (List Int)):List (List Int):=(cN uss).map fun i=>uss.getD i []
def leU (u v:List Int):Prop:=HT.lexLt v u=false
theorem acj {uss:List (List Int)} {n:Nat} {ps:List (List Nat)} (hl:uss.length=n) (ok:fX n (kas_sort n)=true) {b:Nat→Nat→Bool} (hb:∀ i j,i < n→j < n→b i j=HT.lexLt (uss.getD i []) (uss.getD j [])) (good:uM b n ps=true) (hp:∀ p∈ps,p.Perm (List.range n)) :
  cN uss∈ps∧(cN uss).Perm (List.range n)∧(cH uss).Pairwise leU:=by
 have e:cN uss=(kC b (kas_sort n)).toList:=by
  unfold cN
  rw [hl]
  exact congrArg Array.toList (aa7 (n:=n) (fun i j hi hj=>(hb i j hi hj).symm) _ ok)
 unfold uM at good
 simp only [Bool.and_eq_true,List.all_eq_true,List.mem_range] at good
 rw [← e] at good
 obtain ⟨g1,g2⟩:=good
 have m:cN uss∈ps:=by simpa using g1
 have pm:=hp _ m
 refine ⟨m,pm,?_⟩
 have ln:(cN uss).length=n:=by rw [pm.length_eq,List.length_range]
 unfold cH
 rw [List.pairwise_iff_getElem]
 intro i j hi hj hij
 rw [List.length_map] at hi hj
 have q:=g2 i (by omega) j (by omega)
 have pi:(cN uss).getD i 0=(cN uss)[i]:=by simp [List.getD,hi]
 have pj:(cN uss).getD j 0=(cN uss)[j]:=by simp [List.getD,hj]
 rw [pi,pj] at q
 have li:(cN uss)[i] < n:=by
  have:=pm.subset (List.getElem_mem hi)
  simpa using this
 have lj:(cN uss)[j] < n:=by
  have:=pm.subset (List.getElem_mem hj)
  simpa using this
 rw [hb _ _ lj li] at q
 simp only [List.getElem_map]
 unfold leU
 have d:decide (i < j)=true:=by simpa using hij
 rw [d] at q
 simpa using q
theorem afn:∀ p∈qQ,p.Perm (List.range 3):=by decide
theorem afg:∀ p∈qO,p.Perm (List.range 4):=by decide
theorem yT {uss:List (List Int)} (h:uss.length=3):cN uss∈qQ∧(cN uss).Perm (List.range 3)∧(cH uss).Pairwise leU:=by
 match uss,h with
 | [u0,u1,u2],_ =>
  have hb:∀ i j,i < 3→j < 3→mt3 (HT.lexLt u0 u1) (HT.lexLt u0 u2) (HT.lexLt u1 u0) (HT.lexLt u1 u2) (HT.lexLt u2 u0) (HT.lexLt u2 u1) i j=HT.lexLt (([u0,u1,u2]:List (List Int)).getD i []) (([u0,u1,u2]:List (List Int)).getD j []):=fun i j hi hj=>by
   match i,j,hi,hj with
   | 0,0,_,_=>exact (jA u0).symm
   | 0,1,_,_=>rfl
   | 0,2,_,_=>rfl
   | 1,0,_,_=>rfl
   | 1,1,_,_=>exact (jA u1).symm
   | 1,2,_,_=>rfl
   | 2,0,_,_=>rfl
   | 2,1,_,_=>rfl
   | 2,2,_,_=>exact (jA u2).symm
  exact acj rfl aja hb (alq _ _ _ _ _ _ (af9 hb)) afn
theorem yW {uss:List (List Int)} (h:uss.length=4):cN uss∈qO∧(cN uss).Perm (List.range 4)∧(cH uss).Pairwise leU:=by
 match uss,h with
 | [u0,u1,u2,u3],_ =>
  have hb:∀ i j,i < 4→j < 4→mt4 (HT.lexLt u0 u1) (HT.lexLt u0 u2) (HT.lexLt u0 u3) (HT.lexLt u1 u0) (HT.lexLt u1 u2) (HT.lexLt u1 u3) (HT.lexLt u2 u0) (HT.lexLt u2 u1) (HT.lexLt u2 u3) (HT.lexLt u3 u0) (HT.lexLt u3 u1) (HT.lexLt u3 u2) i j=HT.lexLt (([u0,u1,u2,u3]:List (List Int)).getD i []) (([u0,u1,u2,u3]:List (List Int)).getD j []):=fun i j hi hj=>by
   match i,j,hi,hj with
   | 0,0,_,_=>exact (jA u0).symm
   | 0,1,_,_=>rfl
   | 0,2,_,_=>rfl
   | 0,3,_,_=>rfl
   | 1,0,_,_=>rfl
   | 1,1,_,_=>exact (jA u1).symm
   | 1,2,_,_=>rfl
   | 1,3,_,_=>rfl
   | 2,0,_,_=>rfl
   | 2,1,_,_=>rfl
   | 2,2,_,_=>exact (jA u2).symm
   | 2,3,_,_=>rfl
   | 3,0,_,_=>rfl
   | 3,1,_,_=>rfl
   | 3,2,_,_=>rfl
   | 3,3,_,_=>exact (jA u3).symm
  exact acj rfl ajB hb (alu _ _ _ _ _ _ _ _ _ _ _ _ (af9 hb)) afg
theorem kJ {uss:List (List Int)} (h:uss.length=3∨uss.length=4):(cH uss).Perm uss∧(cH uss).Pairwise leU:=by
 have key:∀ n,uss.length=n→(cN uss).Perm (List.range n)→(cH uss).Perm uss:=fun n hn hp=>by
  have e:(List.range n).map (fun i=>uss.getD i [])=uss:=by
   refine List.ext_getElem (by simp [hn]) fun i h1 h2=>?_
   have hi:i < uss.length:=h2
   simp [List.getD,hi]
  have:=hp.map (fun i=>uss.getD i [])
  rw [e] at this
  exact this
 rcases h with h | h
 ·obtain ⟨_,hp,hs⟩:=yT h
  exact ⟨key 3 h hp,hs⟩
 ·obtain ⟨_,hp,hs⟩:=yW h
  exact ⟨key 4 h hp,hs⟩
theorem abx {A B:List (List Int)} (hp:A.Perm B) (ha:A.Pairwise leU) (hb:B.Pairwise leU):A=B :=
 hp.eq_of_pairwise (fun u v _ _ h g=>afG g h) ha hb
theorem abz {A B:List (List Int)} (hp:A.Perm B) (h:B.length=3∨B.length=4):cH A=cH B:=by
 obtain ⟨p1,s1⟩:=kJ (uss:=A) (by rw [hp.length_eq]; exact h)
 obtain ⟨p2,s2⟩:=kJ h
 exact abx (p1.trans (hp.trans p2.symm)) s1 s2
end L2
namespace L2
open PySem PySem.Spec PyProof.Rows Bn
end L2
namespace L2
open PySem PySem.Spec PyProof.Rows Bn
section
variable {M:Model} {A:Around} {E:Value→Shared→Prop} {s:Shared}
end
end L2
namespace L2
open PySem PySem.Spec PyProof.Rows Bn
section
variable {X:Cx} {sc:Scope} {own:List Str} {cap:List (Nat × Str)} {pins:List (Addr × Obj)} {σ:St} {H:Hp} {s:Shared} {elt target iter:Expr} {pos pos':Pos} {wi:TI} {g:TG} {te:TE} {Q:VK}
end
end L2
namespace L2.Pp
open PySem PySem.Spec PyProof.Rows Bn
section
variable {K:PySem.W.Frag} {cl:Str→Addr} {E:XK} {X:Cx} {p q:Ph} {H H':Hp} {S:Sto}
variable {sc:Scope} {own:List Str} {cap:List (Nat × Str)} {elt target iter:Expr} {pos:Pos} {mi:MI} {g:GM} {me:ME}
end
end L2.Pp
namespace L2.Pp
open PySem PySem.Spec PyProof.Rows Bn
section
variable {K:PySem.W.Frag} {cl:Str→Addr} {E:XK} {X:Cx} {a e:Expr} {m:ME} {ms:MA} {pos:Pos} {p q:Ph} {H H':Hp} {S:Sto}
end
section
variable {P:Program} {w:World} {K:PySem.W.Frag} {mg:Str→Option Value} {base:Heap} {cl:Str→Addr}
end
end L2.Pp
namespace L2.Pp
open PySem PySem.Spec PyProof.Rows Bn
def uZ (v:AV) (S:Sto):Res Bool:=match rd S v with
 | some (.lst xs)=>.ok (!xs.isEmpty) S
 | some (.tup xs)=>.ok (!xs.isEmpty) S
 | some (.int i)=>.ok (i != 0) S
 | some (.bl b)=>.ok b S
 | _=>.fail
def vF (m:ME):MT:=fun ρ S=>(m ρ S).bind uZ
theorem aa8 {K:PySem.W.Frag} {c:Addr→Prop} {H:Hp} {xs:List PV} {vs:List V} (r:aT K c H xs vs):vs.isEmpty=xs.isEmpty:=by
 have:=r.length
 cases xs <;> cases vs <;> simp_all
theorem agN {K:PySem.W.Frag} {cl:Str→Addr} {E:XK} {X:Cx} {a:Expr} {ma:ME} (ha:PEp K cl E X a ma) (he:∀ whole,isTrue a X.env whole=(do let v ← whole; standAt a.pos; holding [v] (truthy v)):=by intro _; rfl):PTp K cl E X a (vF ma):=by
 intro hK
 subst hK
 refine (afi (ha rfl) he).imp fun σ H Q ⟨p,S,ρ,s,e,h⟩=>?_
 refine bO s e h fun q H1 a x S1 st s1 e1 r1 h1=>?_
 unfold uZ at h1
 cases z:rd S1 a with
 | none=>rw [z] at h1; exact h1.elim
 | some v =>
  rw [z] at h1
  have rr:=lX s1 r1 z
  cases v with
  | lst xs =>
   obtain ⟨b,vs,rfl,l,_,r⟩:=rr.lst
   exact ⟨_,.inl ⟨vs,l,by rw [aa8 r]⟩,bN.ret (R:=RB) h1 s1 rfl⟩
  | tup xs =>
   obtain ⟨b,vs,rfl,l,_,r⟩:=rr.tup
   exact ⟨_,.inr (.inl ⟨vs,l,by rw [aa8 r]⟩),bN.ret (R:=RB) h1 s1 rfl⟩
  | int i =>
   cases rr.int
   exact ⟨_,rfl,bN.ret (R:=RB) h1 s1 rfl⟩
  | bl i =>
   cases rr.bl
   exact ⟨_,rfl,bN.ret (R:=RB) h1 s1 rfl⟩
  | _=>exact h1.elim
end L2.Pp
namespace L2.Pp
open PySem PySem.Spec PyProof.Rows Bn
def Cal (P:Program) (w:World) (K:PySem.W.Frag) (mg:Str→Option Value) (base:Heap) (cl:Str→Addr) (x:Str) (k:Nat) (ps:List Str) (g:FM):Prop:=∃ (a:Addr) (d:FuncData),aW P w K mg base CX0 k a d ps (bL K cl g)∧cU K d ps []∧PySem.W.keepIn K (.ref a)=true∧mg x=some (.ref a)
section
variable {cl:Str→Addr} {E:XK} {X:Cx} {e:Expr} {es:List Expr} {ms:MA} {pos p:Pos} {k k0:Nat} {ps:List Str} {g:FM} {x:Str}
theorem bP (C:Cal X.prog X.w X.K X.mg X.base cl x k ps g) (hr:cY k0 X.A) (hk:k≤k0) (hg:Gl X x) (ha:PAp X.K cl E X (e :: es) ms) (hdb:(x == ("__debug__":Str))=false:=by decide) (he:starEach (e :: es) X.env=(false,eval e X.env) :: starEach es X.env:=by rfl) (hpl:(backTo pos (starEach es X.env)).any (·.1)=false:=by rfl) :
  PEp X.K cl E X (.Call (.Name x p) (e :: es) [] pos) (aY g [] ms):=by
 obtain ⟨a,d,G,b,kk,n⟩:=C
 exact afN G (hr.mono hk) hg n kk b .nil Dv.nil ha hdb he hpl
theorem aj1 (C:Cal X.prog X.w X.K X.mg X.base cl x k ps g) (hr:cY k0 X.A) (hk:k≤k0) (hg:Gl X x) (ha:PAp X.K cl E X (e :: es) ms) (hdb:(x == ("__debug__":Str))=false:=by decide) (he:starEach (e :: es) X.env=(false,eval e X.env) :: starEach es X.env:=by rfl) (hpl:(backTo pos (starEach es X.env)).any (·.1)=false:=by rfl) :
  PEp X.K cl E X (.Call (.Name x p) (e :: es) [] pos) (tY g [] ms):=by
 obtain ⟨a,d,G,b,kk,n⟩:=C
 exact ae5 G (hr.mono hk) hg n kk b .nil Dv.nil ha hdb he hpl
end
end L2.Pp
namespace L2.Pp
open PySem PySem.Spec PyProof.Rows Bn
section
variable {X:Cx}
end
section
variable {K:PySem.W.Frag} {cl:Str→Addr} {E:XK} {X:Cx} {e:Expr} {m:ME} {pos:Pos}
end
end L2.Pp
namespace L2.Pp
open PySem PySem.Spec PyProof.Rows Bn
section
variable {K:PySem.W.Frag} {cl:Str→Addr} {E:XK} {X:Cx}
variable {a e:Expr} {m:ME} {ms:MA} {pos:Pos}
end
end L2.Pp
namespace L2.Pp
open PySem PySem.Spec PyProof.Rows Bn
section
variable {K:PySem.W.Frag} {cl:Str→Addr} {E:XK} {X:Cx}
end
end L2.Pp
namespace L2.Pp
open PySem PySem.Spec PyProof.Rows Bn
section
variable {K:PySem.W.Frag} {cl:Str→Addr} {E:XK} {X:Cx}
def GlT (K:PySem.W.Frag) (mg:Str→Option Value) (x:Str) (pv:PV):Prop:=∃ (u:Value) (v:V),mg x=some u∧bM v u∧∀ c H,Rep K c H pv v
theorem tK {x:Str} {pv:PV} {pos:Pos} (hg:Gl X x) (hm:GlT K X.mg x pv) (hd:(x == ("__debug__":Str))=false:=by decide):PEp K cl E X (.Name x pos) (mC pv):=fun _=>by
 obtain ⟨u,v,hm,r,hr⟩:=hm
 exact (agL hg hm r hd).imp fun σ H Q ⟨p,S,ρ,s,e,h⟩=>bN.ret (R:=bU K) (x:=v) h s (hr p.c H)
theorem agU {i:Int}:∀ c H,Rep K c H (.int i) (.int i):=fun c H=>by
 unfold Rep
 rfl
end
end L2.Pp
namespace L2.Pp
open PySem PySem.Spec PyProof.Rows Bn
section
variable {K:PySem.W.Frag} {cl:Str→Addr} {E:XK} {X:Cx}
end
end L2.Pp
namespace L2.Pp
open PySem PySem.Spec PyProof.Rows Bn
section
variable {K:PySem.W.Frag} {cl:Str→Addr} {E:XK} {X:Cx}
variable {a e:Expr} {m:ME} {ms:MA} {pos:Pos}
end
end L2.Pp
namespace L2.Pp
open PySem PySem.Spec PyProof.Rows Bn
section
variable {M:Model} {A:Around} {E:Value→Shared→Prop} {s:Shared} {env:Env}
def xU (M:Model) (A:Around) (E:Value→Shared→Prop) (Q:Value→Shared→Prop) (acc:Value) (c:Env):Result→Shared→Prop
 | .ok _,s'=>∃ m,s'.heap.Ns c.locals m∧∀ h',Heap.SameBut c.locals s'.heap h'→Q acc { s' with heap:=h' }
 | .error x,s'=>∃ m,s'.heap.Ns c.locals m∧∀ h',Heap.SameBut c.locals s'.heap h'→wpAny M A (PySem.passOn "comprehension.variables-let-go" x c:Sem Value) (fun _ _=>False) E { s' with heap:=h' }
theorem afo {e:Expr} {sc:Scope} {pos:Pos} {newAcc first:Sem Value} {g:Comprehension} {gs:List Comprehension} {cl:List (Str × Addr)} {Q:Value→Shared→Prop}
  (hc:clausesOf e=g :: gs) (hs:∀ x,foldedSetIterable g.iter env x=pure x) (hcl:closureFor sc env=pure cl) (hk:sc.kind=.function) (hn:∀ x∈sc.names,x.2=.local→sc.names.lookup x.1=some .local)
  (h:wpAny M A first (fun x s1=>wpAny M A (pyIter x) (fun it s2=>wpAny M A newAcc (fun acc s3=>wpAny M A (newFunctionEnv sc env.globals cl [] env.qual none .none (some env)) (fun c s4 =>
    codeAny M A (.compStart e 0 it acc { c with scope:=relabel sc env }) (xU M A E Q acc { c with scope:=relabel sc env }) s4) E s3) E s2) E s1) E s) :
  wpAny M A (comprehension e sc env pos newAcc false first none) Q E s:=by
 unfold comprehension
 rw [hcl,hc]
 refine wpAny_bind (thn h fun x s1 h1=>wpAny_bind (wpAny_standAt (wpAny_bind (wpAny_of_eq (hs x) (wpAny_bind (wpAny_holding (thn h1 fun it s2 h2=>?_)))))))
 refine wpAny_standIf (wpAny_bind (thn h2 fun acc s3 h3=>wpAny_bind (wpAny_pure (wpAny_bind (thn h3 fun c s4 h4=>?_)))))
 dsimp only
 have loc:∀ x∈(sc.names.filter fun x=>(x.2 == .local || x.2 == .cell) && x.1 != (".0":Str)).reverse,x.2=.local→Env.kindOf { c with scope:=relabel sc env } x.1=some .local:=fun x hx hl =>
  lookup_relabel_local (hn x (List.mem_filter.mp (List.mem_reverse.mp hx)).1 hl)
 refine wpAny_holding (wpAny_bind (wpAny_attempt (wpAny_holding (wpAny_run (codeAny_mono h4 fun r s' hr=>?_)))))
 cases r with
 | ok f =>
  obtain ⟨m,hm,hr⟩:=hr
  exact wpAny_bind (wpAny_holding (wpAny_comp_letGo (cenv:={ c with scope:=relabel sc env }) hk _ s' m loc hm fun h' _ _ sb=>wpAny_pure (hr h' sb)))
 | error x =>
  obtain ⟨m,hm,hr⟩:=hr
  exact wpAny_bind (wpAny_holding (wpAny_comp_letGo (cenv:={ c with scope:=relabel sc env }) hk _ s' m loc hm fun h' _ _ sb=>wpAny_mono (hr h' sb) (fun _ _ z=>z.elim) fun _ _ y=>y))
end
section
variable {prog:Program} {w:World} {A:Around} {R:Result→Shared→Prop} {s:Shared}
theorem ad7 {elt target iter:Expr} {sc:Scope} {pos:Pos} {it acc:Value} {env:Env} (I:Nat→Shared→Prop)
  (turn:∀ n s,I n s→wpAny (model prog w) A (pyNext it) (fun r s1=>match r with
   | none=>R (.ok .next) s1
   | some v=>wpAny (model prog w) A (letOwnedTupleGo target it v) (fun _ s2=>wpAny (model prog w) A (assign target env v) (fun _ s3=>wpAny (model prog w) A (eval elt env)
     (fun x s4=>wpAny (model prog w) A (call (.builtin "list.append") [acc,x]) (fun _ s5=>∃ m,m < n∧I m s5) (fun _ _=>False) s4) (notedBy (model prog w) A env fun x s'=>R (.error x) s') s3) (fun _ _=>False) s2) (fun _ _=>False) s1) (fun _ _=>False) s)
  (n:Nat) (h:I n s):codeAny (model prog w) A (.compLoop (.ListComp elt [⟨target,iter,[],0⟩] sc pos) 0 it acc env) R s:=by
 refine codeAny_loop rfl I (fun n s hI=>?_) n h
 show wpAny _ _ ((compTurn (.ListComp elt [⟨target,iter,[],0⟩] sc pos) 0 it acc env).onRaise (fun x=>do noteFrame x env; theTreesLotGoes x)) _ _ s
 refine wpAny_noted ?_
 rw [compTurn_list1]
 refine wpAny_bind (wpAny_standAt (wpAny_bind ?_))
 refine wpAny_mono (turn n s hI) (fun r s1 h1=>?_) fun _ _ z=>z.elim
 cases r with
 | none=>exact wpAny_pure h1
 | some v =>
  refine wpAny_bind (wpAny_mono h1 (fun _ s2 h2=>?_) fun _ _ z=>z.elim)
  refine wpAny_bind (wpAny_mono h2 (fun _ s3 h3=>?_) fun _ _ z=>z.elim)
  refine wpAny_bind (wpAny_bind (wpAny_mono h3 (fun x s4 h4=>?_) fun _ _ z=>z))
  refine wpAny_bind (wpAny_mono h4 (fun _ s5 h5=>?_) fun _ _ z=>z.elim)
  exact wpAny_pure (wpAny_pure ⟨rfl,h5⟩)
end
def iL (B:Heap) (C:Addr):Heap:={ B with objs:=B.objs.setIfInBounds C ⟨.none,none,.freed,#[]⟩ }
theorem aaT {B:Heap} {C:Addr}:(iL B C).get? C=none:=by
 unfold iL Heap.get?
 dsimp only
 by_cases h:C < B.objs.size
 ·rw [Array.getElem?_setIfInBounds_self_of_lt h]
 ·rw [Array.getElem?_eq_none (by rw [Array.size_setIfInBounds]; exact Nat.le_of_not_lt h)]
theorem sQ {B:Heap} {C b:Addr} (h:b≠C):(iL B C).get? b=B.get? b:=by
 unfold iL Heap.get?
 dsimp only
 rw [Array.getElem?_setIfInBounds_ne (Ne.symm h)]
theorem wO {B:Heap} {C b:Addr} (h:B.get? b=none):(iL B C).get? b=none:=by
 by_cases z:b=C
 ·rw [z]; exact aaT
 ·rw [sQ z]; exact h
theorem acp {B:Heap} {C b:Addr} {o:Obj} (h:(iL B C).get? b=some o):b≠C∧B.get? b=some o:=by
 by_cases z:b=C
 ·rw [z,aaT] at h; cases h
 ·rw [sQ z] at h; exact ⟨z,h⟩
theorem aeN {B h h':Heap} {l:List Env} {e L C:Addr} {cls a0:Value} (hC:∃ o,B.get? C=some o) (hh:Heap.HeldW B l e cls a0 L h) (sb:Heap.SameBut C h h'):Heap.HeldW (iL B C) l e cls a0 L h':=by
 obtain ⟨oC,hC⟩:=hC
 have ne:∀ {b},B.get? b=none→b≠C:=fun {b} hb z=>by
  rw [z,hC] at hb
  cases hb
 obtain ⟨k1,k2,k3,k4⟩:=hh
 refine ⟨fun b o hb=>?_,wO k2,?_,?_⟩
 ·obtain ⟨z,hb⟩:=acp hb
  rw [sb.2 b z]
  exact k1 b o hb
 ·clear k4
  induction l with
  | nil=>trivial
  | cons env dQ ih =>
   obtain ⟨a,⟨L0,o,hf,hn,ho,hd⟩,hr⟩:=k3
   exact ⟨a,⟨L0,o,hf,wO hn,(sb.2 L0 (ne hn)).trans ho,hd⟩,ih hr⟩
 ·obtain ⟨oe,vs,T,oT,ts,he,hcls,hd,h1,hnT,hTe,hT,hdT,h3⟩:=k4
  exact ⟨oe,vs,T,oT,ts,(sb.2 e (ne k2)).trans he,hcls,hd,h1,wO hnT,hTe,(sb.2 T (ne hnT)).trans hT,hdT,h3⟩
theorem adO {e:Value} {c env:Env} (h:c.frame=env.frame):noteFrame e c=noteFrame e env:=by
 unfold noteFrame PySem.frameOf
 rw [h]
theorem aeY {M:Model} {A:Around} {E:Value→Shared→Prop} {s:Shared} {α:Type} {Q:α→Shared→Prop} {B:Heap} {l:List Env} {e L:Addr} {cls a0:Value} {c:Env} {what:String} (hf:c.frame=some L) (hh:Heap.HeldW B l e cls a0 L s.heap)
  (h:∀ h',Heap.HeldW B l e cls a0 L h'→(∀ b o,s.heap.get? b=some o→(∀ vs,o.data≠.fields vs)→h'.get? b=some o)→E (.ref e) { s with heap:=h' }):wpAny M A (PySem.passOn what (.ref e) c:Sem α) Q E s:=by
 obtain ⟨k1,k2,k3,oe,vs,T,oT,ts,he,hcls,hd,h1,hnT,hTe,hT,hdT,h3⟩:=hh
 have hsz3:3 < ts.size:=(Array.getElem?_eq_some_iff.mp h3).1
 have other:∀ b,b≠T→(s.heap.update T (Obj.mapFields (·.setIfInBounds 3 (rawInt L)))).get? b=s.heap.get? b:=fun b hb=>Heap.get?_update_other _ _ (Ne.symm hb)
 have noRec:∀ b o,s.heap.get? b=some o→(∀ vs,o.data≠.fields vs)→b≠T:=fun b o hb hnf q=>by
  rw [q,hT] at hb; injection hb with hb; subst hb; exact hnf ts hdT
 unfold PySem.passOn
 refine wpAny_bind (wpAny_field he hd h1 ?_)
 rw [if_neg (show ¬ ((Value.ref T == Value.none)=true) from by simp)]
 refine wpAny_bind ?_
 unfold setFlight
 rw [hf]
 refine wpAny_bind (wpAny_field he hd h1 ?_)
 rw [if_pos (show (Value.ref T != Value.none)=true from by simp)]
 refine wpAny_setField hT hdT hsz3 (wpAny_throw (h _ ⟨fun b o hbo=>(other b fun q=>by rw [q,hnT] at hbo; cases hbo).trans (k1 b o hbo),k2,k3.of_keeps fun b o hb hnf=>⟨o,(other b (noRec b o hb hnf)).trans hb,rfl⟩,?_⟩ fun b o hb hnf=>(other b (noRec b o hb hnf)).trans hb))
 exact ⟨oe,vs,T,_,_,(other e (Ne.symm hTe)).trans he,hcls,hd,h1,hnT,hTe,Heap.get?_update_self _ hT (Obj.isFreed_of_fields (Obj.data_mapFields hdT _)),Obj.data_mapFields hdT _,by simp [hsz3]⟩
end L2.Pp
namespace L2
open PySem PySem.Spec PyProof.Rows Bn
section
variable {X:Cx} {pins:List (Addr × Obj)} {σ:St} {H H':Hp} {s s':Shared}
theorem Inv.flownC {B h5:Heap} {C:Addr} (I:Inv X pins σ H s) (hC:dR X pins H C) (os:s'.os=s.os) (bare:AllBare s'.gens) (un:Un (frs X.stack) [] H H' s.heap s'.heap) (hok:HOk X.prog X.w H' s'.heap)
  (cov:∀ b o,s'.heap.get? b=some o→(∃ u,H' b=some u)∨(∃ o',s.heap.get? b=some o'∧b ∉ frs X.stack)→b≠C→B.get? b=some o) (fr:∀ b∈frs X.stack,H' b=none) (hn:H' C=none)
  (st:B.StaysIn h5) (up:∀ b o,b≠C→s'.heap.get? b=some o→(∀ vs,o.data≠.fields vs)→∃ sl,h5.get? b=some { o with slots:=sl }):Inv X pins σ H' { s' with heap:=h5 }:=by
 have one:∀ {b},b ∉ [C]→b≠C:=fun {b} h z=>h (by rw [z]; exact List.mem_singleton.mpr rfl)
 have frame:∀ b∈frs X.stack,b≠C→∃ o sl,s.heap.get? b=some o∧H b=none∧h5.get? b=some { o with slots:=sl }:=fun b hb hx=>by
  obtain ⟨_,o,ho,hd⟩:=I.stack.mem hb
  have hn:=I.stkFree b hb
  obtain ⟨sl,g⟩:=un.slot b o ho hn hb (by intro z; cases z)
  obtain ⟨sl',g'⟩:=up b _ hx g hd
  exact ⟨o,sl',ho,hn,g'⟩
 refine I.call' (s':={ s' with heap:=h5 }) (ch:=[C]) os ⟨fun b o q n hb hx=>?_,fun b o q n hb hx=>?_,fun b o q n _=>un.free b o q n (by intro z; cases z),fun b o q hx=>?_,un.tups,un.frzs,un.tbls⟩ (fun b u q=>?_) bare fun b z=>?_
 ·exact st b o (cov b o (un.keep b o q n hb (by intro z; cases z)) (.inr ⟨o,q,hb⟩) (one hx))
 ·obtain ⟨o',sl,g1,_,g2⟩:=frame b hb (one hx)
  rw [q] at g1
  cases g1
  exact ⟨sl,g2⟩
 ·by_cases c:b∈frs X.stack
  ·obtain ⟨o',sl,_,_,g2⟩:=frame b c (one hx)
   exact ⟨_,g2⟩
  ·obtain ⟨o',g⟩:=un.there b o q (by intro z; cases z)
   exact ⟨o',st b o' (cov b o' g (.inr ⟨o,q,c⟩) (one hx))⟩
 ·refine (hok b u q).stay (fun c v hc g=>?_) (fun _ g=>g) fun _ _ g=>g
  have nc:∀ {y},H' c=some y→c≠C:=fun {y} e z=>by
   rw [z,hn] at e
   cases e
  rcases hc with z | z
  ·have q':H' c=some u:=by rw [z]; exact q
   exact st c v (cov c v g (.inl ⟨u,q'⟩) (nc q'))
  ·exact st c v (cov c v g (.inl ⟨_,z⟩) (nc z))
 ·have z:b=C:=List.mem_singleton.mp z
  subst z
  obtain ⟨_,f1,_,f3,f4,f5⟩:=hC
  exact ⟨f3,f1,f4,f5⟩
end
end L2
namespace L2
open PySem PySem.Spec PyProof.Rows Bn L2.Pp
section
variable {P:Program} {w:World} {K:PySem.W.Frag} {mg:Str→Option Value} {base:Heap} {N:List Str} {qual:Str} {scope:Scope} {f:Addr} {cd:Value} {A:Around} {outer:List Env} {s₀:Shared} {H₀:Hp} {E:XK}
theorem ait {pins:List (Addr × Obj)} {σ:St} {H2 H3:Hp} {s2 s3:Shared} {sc:Scope} {Nb:List Str} {C:Addr} {fp:List Addr} {Qf:Value→Shared→Prop} {acc:Value}
  (I2:Inv (aM (CX1 P w) P w K mg base N qual scope f cd A outer s₀ H₀ E) pins σ H2 s2) (f2:∀ b∈fp,dR (aM (CX1 P w) P w K mg base N qual scope f cd A outer s₀ H₀ E) pins H2 b) (un:Un (frs (aM (CX1 P w) P w K mg base N qual scope f cd A outer s₀ H₀ E).stack) fp H2 H3 s2.heap s3.heap) (os3:s3.os=s2.os)
  (hF:∀ H:Hp,H C=none→dR (aM (CX1 P w) P w K mg base N qual scope f cd A outer s₀ H₀ E) pins H C) (hCf:C ∉ frs (aM (CX1 P w) P w K mg base N qual scope f cd A outer s₀ H₀ E).stack) (hC0:∀ o,s₀.heap.get? C≠some o) :
  hU (CX1 P w) ((cC (aM (CX1 P w) P w K mg base N qual scope f cd A outer s₀ H₀ E) sc Nb C s3 H3 fp).wish (notedBy (model P w) (aM (CX1 P w) P w K mg base N qual scope f cd A outer s₀ H₀ E).A (cC (aM (CX1 P w) P w K mg base N qual scope f cd A outer s₀ H₀ E) sc Nb C s3 H3 fp).env fun x s''=>xU (model P w) (aM (CX1 P w) P w K mg base N qual scope f cd A outer s₀ H₀ E).A (aM (CX1 P w) P w K mg base N qual scope f cd A outer s₀ H₀ E).xe Qf acc (cC (aM (CX1 P w) P w K mg base N qual scope f cd A outer s₀ H₀ E) sc Nb C s3 H3 fp).env (.error x) s'')) E:=by
 intro pl σ' H s e s' I c
 have J:=I.unwish
 obtain ⟨x,Cl,t,B,H',rfl,os,bare,un',hok,fl,cov,hE⟩:=c
 have fr:∀ b∈frs (aM (CX1 P w) P w K mg base N qual scope f cd A outer s₀ H₀ E).stack,H' b=none:=fun b hb=>by
  obtain ⟨_,o,ho,hd⟩:=J.stack.mem hb
  exact un'.free b o ho (J.stkFree b hb) (by intro z; cases z)
 have IX:=I2.uncmp f2 un os3 J
 show wpAny _ _ (noteFrame (.ref x) _) _ _ s'
 rw [adO (c:=(cC (aM (CX1 P w) P w K mg base N qual scope f cd A outer s₀ H₀ E) sc Nb C s3 H3 fp).env) (env:=(aM (CX1 P w) P w K mg base N qual scope f cd A outer s₀ H₀ E).env) rfl]
 refine wpAny_looks_onW IX.ok.frames rfl fl fun h1 held up=>?_
 have J5:=J.flown os bare un' hok cov fr held.1 up
 obtain ⟨m,hn,_⟩:=id J5.loc
 refine ⟨m,hn,fun h2 sb=>?_⟩
 obtain ⟨mC,hnC,_⟩:=id J.loc
 obtain ⟨oC,_,_,hoC,_⟩:=hnC
 obtain ⟨oC',gC⟩:=un'.there C oC hoC (by intro z; cases z)
 have hCB:∃ o,B.get? C=some o:=⟨oC',cov C oC' gC (.inr ⟨oC,hoC,hCf⟩)⟩
 have held2:=aeN hCB held sb
 have hHC:H C=none:=J.free
 have hnC':H' C=none:=un'.free C oC hoC hHC (by intro z; cases z)
 refine aeY rfl held2 fun h3 held3 keep=>?_
 show wpAny _ _ (leaving _ (.ref x)) _ _ _
 unfold leaving
 refine wpAny_bind (wpAny_noteFrame_againW rfl held3.2.2.2 ?_)
 refine wpAny_landsW held3 fun h4 fl4 up4=>?_
 have I4:=IX.flownC (s':=s') (B:=iL B C) (h5:=h4) (hF H hHC) os bare un' hok (fun b o g d hb=>by rw [sQ hb]; exact cov b o g d) fr hnC' fl4.1 (fun b o hb g hnf=>by
  obtain ⟨sl,g1⟩:=up b o g hnf
  have g2:=(sb.2 b hb).trans g1
  have g3:=keep b _ g2 hnf
  obtain ⟨sl',g4⟩:=up4 b _ g3 hnf
  exact ⟨sl',g4⟩)
 have nL:∀ {b o},s₀.heap.get? b=some o→b ∉ frs outer→b ∉ frs (envOfC qual scope s₀.heap.objs.size f cd :: outer):=fun {b o} q z y=>by
  rcases List.mem_cons.mp (IX.stkSub b y) with g | g
  ·exact absurd (Nat.lt_of_lt_of_le (Heap.lt_size q) IX.ok.above) (by rw [g]; exact Nat.lt_irrefl _)
  ·exact z g
 obtain ⟨k1,k2,⟨_,_,k3⟩,k4⟩:=fl4
 refine ⟨x,Cl,t,iL B C,H',rfl,os.trans IX.os,bare,I4.base,I4.hok,⟨k1,k2,k3,k4⟩,fun b o q z=>?_,hE⟩
 have go:∀ {o2},B.get? b=some o2→b≠C→(iL B C).get? b=some o:=fun {o2} g hb=>by
  have g':(iL B C).get? b=some o2:=by rw [sQ hb]; exact g
  have:=k1 b o2 g'
  have q':h4.get? b=some o:=q
  rw [q'] at this
  cases this
  exact g'
 rcases z with ⟨u,z⟩ | ⟨o',z,nz⟩
 ·obtain ⟨o2,g⟩:=(hok b u z).has
  exact go (cov b o2 g (.inl ⟨u,z⟩)) fun y=>by rw [y,hnC'] at z; cases z
 ·obtain ⟨o2,g⟩:=IX.base.there b o' z (by intro z; cases z)
  obtain ⟨o3,g3⟩:=un'.there b o2 g (by intro z; cases z)
  exact go (cov b o3 g3 (.inr ⟨o2,g,nL z nz⟩)) fun y=>hC0 o' (by rw [← y]; exact z)
end
end L2
namespace L2
open PySem PySem.Spec PyProof.Rows Bn L2.Pp
section
variable {P:Program} {w:World} {K:PySem.W.Frag} {mg:Str→Option Value} {base:Heap} {N:List Str} {qual:Str} {scope:Scope} {f:Addr} {cd:Value} {A:Around} {outer:List Env} {s₀:Shared} {H₀:Hp} {E:XK}
variable {sc:Scope} {own:List Str} {cap:List (Nat × Str)} {pins:List (Addr × Obj)} {σ:St} {H:Hp} {s:Shared} {elt target iter:Expr} {pos pos':Pos} {wi:TI} {g:TG} {te:TE} {Q:VK}
theorem adg {Qf:Value→Shared→Prop} (k:gB (aM (CX1 P w) P w K mg base N qual scope f cd A outer s₀ H₀ E) sc own cap) (hi:PI (aM (CX1 P w) P w K mg base N qual scope f cd A outer s₀ H₀ E) target iter wi) (hc:(aM (CX1 P w) P w K mg base N qual scope f cd A outer s₀ H₀ E).calm=true)
  (hg:∀ C s₁ H₁ ex,PG (cC (aM (CX1 P w) P w K mg base N qual scope f cd A outer s₀ H₀ E) sc (bF own cap) C s₁ H₁ ex) target g) (he:∀ C s₁ H₁ ex E',hU (CX1 P w) ((cC (aM (CX1 P w) P w K mg base N qual scope f cd A outer s₀ H₀ E) sc (bF own cap) C s₁ H₁ ex).wish E') E→PE ((cC (aM (CX1 P w) P w K mg base N qual scope f cd A outer s₀ H₀ E) sc (bF own cap) C s₁ H₁ ex).wish E') elt te) (I:Inv (aM (CX1 P w) P w K mg base N qual scope f cd A outer s₀ H₀ E) pins σ H s) (h:mE own cap wi g te σ H Q)
  (fin:∀ D C s' H' m,Inv (aM (CX1 P w) P w K mg base N qual scope f cd A outer s₀ H₀ E) pins σ H' s'→dR (aM (CX1 P w) P w K mg base N qual scope f cd A outer s₀ H₀ E) pins H' C→s'.heap.Ns C m→Q (.ref D) H'→∃ m,s'.heap.Ns C m∧∀ h',Heap.SameBut C s'.heap h'→Qf (.ref D) { s' with heap:=h' })
  (hs:∀ x,foldedSetIterable iter (aM (CX1 P w) P w K mg base N qual scope f cd A outer s₀ H₀ E).env x=pure x) :
  wpAny (model (aM (CX1 P w) P w K mg base N qual scope f cd A outer s₀ H₀ E).prog (aM (CX1 P w) P w K mg base N qual scope f cd A outer s₀ H₀ E).w) (aM (CX1 P w) P w K mg base N qual scope f cd A outer s₀ H₀ E).A (comprehension (.ListComp elt [⟨target,iter,[],0⟩] sc pos) sc (aM (CX1 P w) P w K mg base N qual scope f cd A outer s₀ H₀ E).env pos' (newList []) false (eval iter (aM (CX1 P w) P w K mg base N qual scope f cd A outer s₀ H₀ E).env) none) Qf (aM (CX1 P w) P w K mg base N qual scope f cd A outer s₀ H₀ E).xe s:=by
 refine afo rfl hs (yS (k.has I.ok)) k.kind k.names ?_
 refine thn (hi pins s σ H _ I h) fun v s1 h1=>thn h1 fun itv s2 h2=>?_
 obtain ⟨it,fp,tn,J,H2,e,I2,T,st2,f2,hW⟩:=h2
 subst e
 refine wpAny_newObj_type (wpAny_newFunctionEnv k.nocell (fun y hy=>nomatch hy) (fun h4 hns hsb=>?_) k.kind)
 have I3:Inv (aM (CX1 P w) P w K mg base N qual scope f cd A outer s₀ H₀ E) pins σ (upd H2 s2.heap.objs.size (.lst [])) { s2 with heap:=s2.heap.push { cls:=.type "list",data:=.seq ([]:List Value).toArray },toks:=s2.toks }:=I2.lnew (ys:=[]) (its:=[]) .nil (Nat.zero_le _)
 have hD:H2 s2.heap.objs.size=none:=I2.fresh
 have ltf:∀ b∈fp,b < s2.heap.objs.size:=fun b hb=>by
  obtain ⟨o,ho,_⟩:=T.obj _ _ st2 b hb
  exact Heap.lt_size ho
 have f3:∀ b∈fp,dR (aM (CX1 P w) P w K mg base N qual scope f cd A outer s₀ H₀ E) pins (upd H2 s2.heap.objs.size (.lst [])) b:=fun b hb=>⟨by rw [cD (Nat.ne_of_lt (ltf b hb))]; exact (f2 b hb).1,(f2 b hb).2⟩
 have un:Un (frs (aM (CX1 P w) P w K mg base N qual scope f cd A outer s₀ H₀ E).stack) fp H2 (upd H2 s2.heap.objs.size (.lst [])) s2.heap (s2.heap.push { cls:=.type "list",data:=.seq ([]:List Value).toArray }):=Un.laid (fun b u q=>Heap.get?_push_of_some _ q) (Nat.le_refl _) hD
 have kp:∀ b o,(s2.heap.push { cls:=.type "list",data:=.seq ([]:List Value).toArray }).get? b=some o→h4.get? b=some o:=fun b o q=>hsb.extBut b o (Nat.ne_of_lt (Heap.lt_size q)) (Heap.get?_push_of_some _ q)
 have J0:=I3.cmp (t':=s2.toks+([]:List (Str × Value)).length) k f3 (fun b hb=>Nat.lt_of_lt_of_le (ltf b hb) (by rw [Heap.size_push]; exact Nat.le_succ _)) hns kp
 have stat:∀ {H':Hp},(∀ b∈fp,H' b=none)→∀ b∈fp,dR (cC (aM (CX1 P w) P w K mg base N qual scope f cd A outer s₀ H₀ E) sc (bF own cap) (s2.heap.push { cls:=.type "list",data:=.seq ([]:List Value).toArray }).objs.size { s2 with heap:=s2.heap.push { cls:=.type "list",data:=.seq ([]:List Value).toArray },toks:=s2.toks } (upd H2 s2.heap.objs.size (.lst [])) fp) [] H' b:=fun hn b hb =>
  ⟨hn b hb,(J0.ok.exf b hb).1,J0.ok.exfs b hb,.inl hb,(J0.ok.exf b hb).2,fun p hp=>absurd (show p∈([]:List (Addr × Obj)) from hp) (by simp)⟩
 have st4:tn 0 h4:=T.keep _ _ _ st2 fun b hb o q=>kp b o (Heap.get?_push_of_some _ q)
 have fr0:∀ b∈fp,(upd H2 s2.heap.objs.size (.lst [])) b=none:=fun b hb=>(f3 b hb).1
 have hCf:(s2.heap.push { cls:=.type "list",data:=.seq ([]:List Value).toArray }).objs.size ∉ frs (aM (CX1 P w) P w K mg base N qual scope f cd A outer s₀ H₀ E).stack:=fun hb=>by
  obtain ⟨_,o,ho,hd⟩:=I3.stack.mem hb
  exact Nat.lt_irrefl _ (Heap.lt_size ho)
 have hC0:∀ o,s₀.heap.get? (s2.heap.push { cls:=.type "list",data:=.seq ([]:List Value).toArray }).objs.size≠some o:=fun o ho=>by
  obtain ⟨m,⟨oL,_,_,hoL,_⟩,_⟩:=id I3.loc
  exact Nat.lt_irrefl _ (Nat.lt_trans (Nat.lt_of_lt_of_le (Heap.lt_size ho) I3.ok.above) (Heap.lt_size hoL))
 have loop:codeAny (model (aM (CX1 P w) P w K mg base N qual scope f cd A outer s₀ H₀ E).prog (aM (CX1 P w) P w K mg base N qual scope f cd A outer s₀ H₀ E).w) (aM (CX1 P w) P w K mg base N qual scope f cd A outer s₀ H₀ E).A (.compLoop (.ListComp elt [⟨target,iter,[],0⟩] sc pos) 0 (.ref it) (.ref s2.heap.objs.size) (compEnvC sc (gF (aM (CX1 P w) P w K mg base N qual scope f cd A outer s₀ H₀ E).env sc.names []) (s2.heap.push { cls:=.type "list",data:=.seq ([]:List Value).toArray }).objs.size (aM (CX1 P w) P w K mg base N qual scope f cd A outer s₀ H₀ E).env))
   (xU (model (aM (CX1 P w) P w K mg base N qual scope f cd A outer s₀ H₀ E).prog (aM (CX1 P w) P w K mg base N qual scope f cd A outer s₀ H₀ E).w) (aM (CX1 P w) P w K mg base N qual scope f cd A outer s₀ H₀ E).A (aM (CX1 P w) P w K mg base N qual scope f cd A outer s₀ H₀ E).xe Qf (.ref s2.heap.objs.size) (compEnvC sc (gF (aM (CX1 P w) P w K mg base N qual scope f cd A outer s₀ H₀ E).env sc.names []) (s2.heap.push { cls:=.type "list",data:=.seq ([]:List Value).toArray }).objs.size (aM (CX1 P w) P w K mg base N qual scope f cd A outer s₀ H₀ E).env)) { s2 with heap:=h4,toks:=s2.toks+([]:List (Str × Value)).length }:=by
  obtain ⟨W,⟨m0,w0⟩,turn⟩:=hW s2.heap.objs.size hD
  refine ad7 (fun n s'=>∃ i σ' H' ys,Inv (cC (aM (CX1 P w) P w K mg base N qual scope f cd A outer s₀ H₀ E) sc (bF own cap) (s2.heap.push { cls:=.type "list",data:=.seq ([]:List Value).toArray }).objs.size { s2 with heap:=s2.heap.push { cls:=.type "list",data:=.seq ([]:List Value).toArray },toks:=s2.toks } (upd H2 s2.heap.objs.size (.lst [])) fp) [] σ' H' s'∧tn i s'.heap∧(∀ b∈fp,H' b=none)∧W i n σ' H' ys) ?_ m0
   ⟨0,_,_,[],J0,st4,fr0,w0⟩
  rintro n s5 ⟨i,σ5,H5,ys,I5,st5,fr5,w5⟩
  obtain ⟨hD5,w5⟩:=turn i n σ5 H5 ys w5
  rcases w5 with ⟨stop,qn⟩ | ⟨go,hlt,step⟩
  ·refine thn (T.done (cC (aM (CX1 P w) P w K mg base N qual scope f cd A outer s₀ H₀ E) sc (bF own cap) (s2.heap.push { cls:=.type "list",data:=.seq ([]:List Value).toArray }).objs.size { s2 with heap:=s2.heap.push { cls:=.type "list",data:=.seq ([]:List Value).toArray },toks:=s2.toks } (upd H2 s2.heap.objs.size (.lst [])) fp) rfl rfl rfl hc i [] s5 σ5 H5 _ I5 (stat fr5) st5 stop) fun r s6 ⟨hr,I6⟩=>?_
   subst hr
   obtain ⟨m,hn,_⟩:=id I6.loc
   exact fin _ _ s6 H5 m (I2.uncmp (s3:={ s2 with heap:=s2.heap.push { cls:=.type "list",data:=.seq ([]:List Value).toArray },toks:=s2.toks }) f2 un rfl I6) (I3.fpOk (Nat.le_refl _) I6.free) hn qn
  ·refine thn (T.item (cC (aM (CX1 P w) P w K mg base N qual scope f cd A outer s₀ H₀ E) sc (bF own cap) (s2.heap.push { cls:=.type "list",data:=.seq ([]:List Value).toArray }).objs.size { s2 with heap:=s2.heap.push { cls:=.type "list",data:=.seq ([]:List Value).toArray },toks:=s2.toks } (upd H2 s2.heap.objs.size (.lst [])) fp) rfl rfl rfl hc i [] s5 σ5 H5 _ I5 (stat fr5) st5 go) fun r s6 ⟨u,hr,h6⟩=>?_
   subst hr
   refine thn h6 fun _ s7 ⟨x,H7,I7,r7,y7,st7,fr7⟩=>?_
   have I7':=I7.pinned (stat fr7) (T.obj _ _ st7)
   refine thn (hg _ _ _ _ _ s7 σ5 H7 x u _ I7' r7 (step x H7 y7)) fun _ s8 ⟨σ8,H8,I8,q8⟩=>?_
   refine thn (he _ _ _ _ _ (ait (s3:={ s2 with heap:=s2.heap.push { cls:=.type "list",data:=.seq ([]:List Value).toArray },toks:=s2.toks }) I2 f2 un rfl (fun H hH=>I3.fpOk (Nat.le_refl _) hH) hCf hC0) _ s8 σ8 H8 _ (I8.wish _) q8) fun v9 s9 ⟨y,H9,I9,r9,hD9,m',hm,w9⟩=>?_
   have I9:=I9.unwish
   refine thn (sX _ s9 σ8 H9 (.ref s2.heap.objs.size) [y] (.ref s2.heap.objs.size) [v9] (fun _ H'=>H'=upd H9 s2.heap.objs.size (.lst (ys++[y]))) I9 rfl (.cons r9 .nil) ⟨_,ys,y,rfl,rfl,hD9,hlt,rfl⟩) fun _ s10 ⟨_,H10,I10,_,q10⟩=>?_
   subst q10
   refine ⟨m',hm,i+1,σ8,_,_,I10.unpinned,T.keep _ _ _ st7 fun b hb o q=>(I10.pin (b,o) (List.mem_append_right _ (List.mem_append_right _ (kI hb q)))).1,fun b hb=>?_,w9⟩
   obtain ⟨o,q,d⟩:=T.obj _ _ st7 b hb
   exact (I10.pin (b,o) (List.mem_append_right _ (List.mem_append_right _ (kI hb q)))).2.1
 exact codeAny_compStart_list loop (T.self _ 0 _ _ _ st4 loop)
end
end L2
namespace L2.Pp
open PySem PySem.Spec PyProof.Rows Bn
open Classical in
noncomputable def eU (G:Gd) (g:GM) (me:ME):List PV→Rho→Sto→Res (List PV)
 | [],_,S=>if gOk G S then .ok [] S else .fail
 | x :: r,ρ,S=>if gOk G S then (match g x ρ with
  | none=>.fail
  | some ρ1=>match me ρ1 S with
   | .ok (.pv y) S1=>match eU G g me r ρ1 S1 with
    | .ok ys S2=>.ok (y :: ys) S2
    | .exc n S2=>.exc n S2
    | .fail=>.fail
   | .ok (.ref _) _=>.fail
   | .exc n S1=>.exc n S1
   | .fail=>.fail) else .fail
section
variable {K:PySem.W.Frag} {cl:Str→Addr} {E:XK} {X:Cx} {p q:Ph} {H H':Hp} {S:Sto}
def uT (K:PySem.W.Frag) (cl:Str→Addr) (E:XK) (p:Ph) (H:Hp) (D:Addr) (Q:VK) (us:List PV):Res (List PV)→Prop
 | .ok ws S2=>∀ q H' vs,bK p H q H'→Sim K q S2 H'→Sim K (q.hold D) S2 H'→q.w D→D ∉ q.f→H' D=some (.lst vs)→vs.length≤sizeLine→aT K q.c H' (us++ws) vs→Q (.ref D) H'
 | .exc n S2=>∀ q H',bK p H q H'→Sim K q S2 H'→E (.ref (cl n)) none H'
 | .fail=>False
theorem ab0 {G:Gd} {g:GM} {me:ME} {xs us:List PV} {ρ:Rho} {D:Addr} {Q:VK} (h:uT K cl E p H D Q us (eU G g me xs ρ S)):gOk G S:=by
 cases xs with
 | nil =>
  unfold eU at h
  split at h
  ·assumption
  ·exact h.elim
 | cons x r =>
  unfold eU at h
  split at h
  ·assumption
  ·exact h.elim
variable {sc:Scope} {own:List Str} {cap:List (Nat × Str)} {elt target iter:Expr} {pos:Pos} {mi:MI} {g:GM} {me:ME}
theorem adx {σ:St} {ρ:Rho} {xs:List PV} {G:Gd} {J:It} {Q:VK} {D:Addr} (sm:Sim K p S H) (ev:cO K p H ρ σ) (it:dN K p H (xs,G) J) (hD:H D=none) (kk:uT K cl E p H D Q [] (eU G g me xs (bR own cap ρ) S)) :
  pE J (gP K g) (tP K cl E (bU K) me) (iP own cap σ) H D Q:=by
 obtain ⟨st0,sm0⟩:=sm.res (D:=D) (o:=.lst []) hD trivial
 have sh0:=sm.resHold (D:=D) (o:=.lst []) hD trivial
 have nf0:D ∉ p.f:=fun h=>sm.notin hD (sm.wc D (sm.sub D h))
 refine aeM xs.length it.1 (fun i σ1 H1 ys=>ys.length=i∧i≤xs.length∧H1 D=some (.lst ys)∧∃ p1 S1 ρ1 us,(Sim K p1 S1 H1∧Sim K (p1.hold D) S1 H1)∧bK p H p1 H1∧p1.w D∧D ∉ p1.f∧cO K p1 H1 ρ1 σ1∧dN K p1 H1 (xs,G) J∧gOk G S1∧aT K p1.c H1 us ys∧uT K cl E p H D Q us (eU G g me (xs.drop i) ρ1 S1)) ?_ ?_ ?_ ?_ ?_
 ·refine ⟨rfl,Nat.zero_le _,gJ,p.res D,S,bR own cap ρ,[],⟨sm0,sh0⟩,st0,.inr rfl,nf0,ac2 (st0.repE ev),it.step st0,?_,.nil,by simpa using kk⟩
  exact ab0 kk
 ·rintro i σ1 H1 ys ⟨h1,_,h2,_⟩
  exact ⟨h1,h2⟩
 ·rintro i σ1 H1 ys hi ⟨_,_,_,p1,S1,ρ1,us,⟨sm1,sh1⟩,st1,w1,f1,ev1,it1,g1,_⟩
  exact ((it1.2 p1 H1 S1 sm1.step sm1 g1).1 i xs[i] (List.getElem?_eq_getElem hi)).1
 ·rintro i σ1 H1 ys x H2 hi ⟨hl,_,hH,p1,S1,ρ1,us,⟨sm1,sh1⟩,st1,w1,f1,ev1,it1,g1,r1,c1⟩ hy
  obtain ⟨same,rx⟩:=((it1.2 p1 H1 S1 sm1.step sm1 g1).1 i xs[i] (List.getElem?_eq_getElem hi)).2 x H2 hy
  rw [List.drop_eq_getElem_cons hi] at c1
  unfold eU at c1
  rw [if_pos g1] at c1
  cases gz:g xs[i] ρ1 with
  | none=>rw [gz] at c1; exact c1.elim
  | some ρ2 =>
   rw [gz] at c1
   dsimp only at c1
   have st2:=sm1.same same
   have sm2:=sm1.ofSame same
   have smh:=sh1.ofSame same
   have stS:bK p H p1 H2:=st1.trans st2
   refine ⟨p1,S1,ρ1,xs[i],ρ2,sm2,st2.repE ev1,rx,gz,fun σ3 ev3=>⟨p1.hold D,S1,ρ2,smh,⟨ev3.len,ev3.at_⟩,?_⟩⟩
   cases mz:me ρ2 S1 with
   | fail=>rw [mz] at c1; exact c1.elim
   | exc n S3 =>
    rw [mz] at c1
    intro q H4 st4 sm4
    have hD2:H2 D=some (.lst ys):=same _ _ hH
    have hD4:H4 D=some (.lst ys):=st4.keep D _ hD2 fun z=>z.2 rfl
    have fq:D ∉ q.f:=fun h=>by
     have:=st4.nf D h f1
     rw [hD2] at this
     cases this
    have stU:=bK.unhold w1 st4 sm2
    have nq:¬ q.w D:=fun z=>by
     have:=st4.nw D z fun y=>y.2 rfl
     rw [hD2] at this
     cases this
    have smU:Sim K ⟨q.f,fun a=>q.w a∨a=D,q.c⟩ S3 H4:=⟨sm4.nd,sm4.len,fun a h=>.inl (sm4.sub a h),fun a h=>h.elim (sm4.wc a) fun z=>z ▸ st4.mono D (sm2.wc D w1),sm4.mu,fun k a o e1 e2 =>
     (sm4.obj k a o e1 e2).mono (fun _ e=>e) (fun b w f=>⟨⟨.inl w,f⟩,fun _ e=>e⟩) fun _ _ r=>r⟩
    have shU:Sim K (Ph.hold ⟨q.f,fun a=>q.w a∨a=D,q.c⟩ D) S3 H4:=⟨sm4.nd,sm4.len,fun a h=>⟨.inl (sm4.sub a h),fun z=>nq (z ▸ sm4.sub a h)⟩,fun a h=>smU.wc a h.1,sm4.mu,fun k a o e1 e2 =>
     (sm4.obj k a o e1 e2).mono (fun _ e=>e) (fun b w f=>⟨⟨⟨.inl w,fun z=>nq (z ▸ w)⟩,f⟩,fun _ e=>e⟩) fun _ _ r=>r⟩
    exact c1 _ H4 ((stS.trans stU).toLess hD) shU.toLess
   | ok av S3 =>
    cases av with
    | ref k=>rw [mz] at c1; exact c1.elim
    | pv y =>
     rw [mz] at c1
     dsimp only at c1
     intro q H4 y' st4 sm4 ry
     have hD2:H2 D=some (.lst ys):=same _ _ hH
     have hD4:H4 D=some (.lst ys):=st4.keep D _ hD2 fun z=>z.2 rfl
     have fq:D ∉ q.f:=fun h=>by
      have:=st4.nf D h f1
      rw [hD2] at this
      cases this
     have stU:=bK.unhold w1 st4 sm2
     have nq:¬ q.w D:=fun z=>by
      have:=st4.nw D z fun y=>y.2 rfl
      rw [hD2] at this
      cases this
     have smU:Sim K ⟨q.f,fun a=>q.w a∨a=D,q.c⟩ S3 H4:=⟨sm4.nd,sm4.len,fun a h=>.inl (sm4.sub a h),fun a h=>h.elim (sm4.wc a) fun z=>z ▸ st4.mono D (sm2.wc D w1),sm4.mu,fun k a o e1 e2 =>
      (sm4.obj k a o e1 e2).mono (fun _ e=>e) (fun b w f=>⟨⟨.inl w,f⟩,fun _ e=>e⟩) fun _ _ r=>r⟩
     have shU:Sim K (Ph.hold ⟨q.f,fun a=>q.w a∨a=D,q.c⟩ D) S3 H4:=⟨sm4.nd,sm4.len,fun a h=>⟨.inl (sm4.sub a h),fun z=>nq (z ▸ sm4.sub a h)⟩,fun a h=>smU.wc a h.1,sm4.mu,fun k a o e1 e2 =>
      (sm4.obj k a o e1 e2).mono (fun _ e=>e) (fun b w f=>⟨⟨⟨.inl w,fun z=>nq (z ▸ w)⟩,f⟩,fun _ e=>e⟩) fun _ _ r=>r⟩
     have c2:uT K cl E p H D Q (us++[y]) (eU G g me (xs.drop (i+1)) ρ2 S3):=by
      cases cz:eU G g me (xs.drop (i+1)) ρ2 S3 with
      | fail=>rw [cz] at c1; exact c1.elim
      | exc n S4=>rw [cz] at c1; exact c1
      | ok ws S4 =>
       rw [cz] at c1
       intro q H' vs z1 z2 z3 z4 z5 z6 z7 r
       rw [List.append_assoc] at r
       exact c1 q H' vs z1 z2 z3 z4 z5 z6 z7 r
     obtain ⟨stG,smG,shG⟩:=smU.grow (ys:=ys) (D:=D) (o:=.lst (ys++[y'])) shU (.inr rfl) fq trivial
     have stA:=st2.trans (stU.trans stG)
     refine aiO hi hD4 ⟨by rw [List.length_append,hl]; rfl,hi,gJ,_,S3,ρ2,us++[y],⟨smG,shG⟩,st1.trans stA,.inr rfl,fq,stG.repE (stU.repE ev3),it1.step stA,ab0 c2,?_,c2⟩
     exact (stA.reps r1).append (.cons (stG.rep ry) .nil)
 ·rintro σ1 H1 ys ⟨hl,_,hH,p1,S1,ρ1,us,⟨sm1,sh1⟩,st1,w1,f1,ev1,it1,g1,r1,c1⟩
  rw [List.drop_length] at c1
  unfold eU at c1
  rw [if_pos g1] at c1
  refine ⟨(it1.2 p1 H1 _ sm1.step sm1 g1).2,?_⟩
  exact c1 p1 H1 ys st1 sm1 sh1 w1 f1 hH (by rw [hl]; exact it.1) (by rw [List.append_nil]; exact r1)
theorem abl {σ:St} {ρ:Rho} {xs:List PV × Gd} {J:It} {Q:VK} {D:Addr} (sm:Sim K p S H) (ev:cO K p H ρ σ) (it:dN K p H xs J) (k:bN K cl (bU K) p H ((eU xs.2 g me xs.1 (bR own cap ρ) S).bind fun ys S2=>.ok (.pv (.lst ys)) S2) Q E) (hD:H D=none) :
  pE J (gP K g) (tP K cl E (bU K) me) (iP own cap σ) H D Q:=by
 refine adx sm ev it hD ?_
 cases z:eU xs.2 g me xs.1 (bR own cap ρ) S with
 | fail=>rw [z] at k; exact k.elim
 | exc n S'=>rw [z] at k; exact k
 | ok zs S2 =>
  rw [z] at k
  have k:∀ q H' x,bK p H q H'→Sim K q S2 H'→Rep K q.c H' (.lst zs) x→Q x H':=k
  intro q H' vs st1 sm1 sh1 w1 f1 hH l1 r1
  rw [List.nil_append] at r1
  refine k (q.less D) H' (.ref D) (st1.toLess hD) sh1.toLess ?_
  unfold Rep
  exact ⟨D,vs,rfl,.inl ⟨hH,fun z=>z.2 rfl⟩,l1,pP (fun a h=>h.1) r1⟩
end
noncomputable def dZ (own:List Str) (cap:List (Nat × Str)) (mi:MI) (g:GM) (me:ME):ME:=fun ρ S=>(mi ρ S).bind fun xs S1=>(eU xs.2 g me xs.1 (bR own cap ρ) S1).bind fun ys S2=>.ok (.pv (.lst ys)) S2
section
variable {P:Program} {w:World} {K:PySem.W.Frag} {mg:Str→Option Value} {base:Heap} {N:List Str} {qual:Str} {scope:Scope} {f:Addr} {cd:Value} {A:Around} {outer:List Env} {s₀:Shared} {H₀:Hp} {E:XK} {cl:Str→Addr}
variable {sc:Scope} {own:List Str} {cap:List (Nat × Str)} {elt target iter:Expr} {pos:Pos} {mi:MI} {g:GM} {me:ME} {wi:TI} {tg:TG} {te:TE}
theorem afp (k:gB (aM (CX1 P w) P w K mg base N qual scope f cd A outer s₀ H₀ E) sc own cap) (hi:PI (aM (CX1 P w) P w K mg base N qual scope f cd A outer s₀ H₀ E) target iter wi) (hc:(aM (CX1 P w) P w K mg base N qual scope f cd A outer s₀ H₀ E).calm=true)
  (hg:∀ C s₁ H₁ ex,PG (cC (aM (CX1 P w) P w K mg base N qual scope f cd A outer s₀ H₀ E) sc (bF own cap) C s₁ H₁ ex) target tg) (he:∀ C s₁ H₁ ex E',hU (CX1 P w) ((cC (aM (CX1 P w) P w K mg base N qual scope f cd A outer s₀ H₀ E) sc (bF own cap) C s₁ H₁ ex).wish E') E→PE ((cC (aM (CX1 P w) P w K mg base N qual scope f cd A outer s₀ H₀ E) sc (bF own cap) C s₁ H₁ ex).wish E') elt te)
  (hs:∀ x,foldedSetIterable iter (aM (CX1 P w) P w K mg base N qual scope f cd A outer s₀ H₀ E).env x=pure x:=by intro _; rfl):PE (aM (CX1 P w) P w K mg base N qual scope f cd A outer s₀ H₀ E) (.ListComp elt [⟨target,iter,[],0⟩] sc pos) (mE own cap wi tg te):=by
 intro pins s σ H Q I h
 rw [eval_ListComp]
 refine adg k hi hc hg he I h (fun D C s' H' m I' fC hn q=>?_) hs
 refine ⟨m,hn,fun h' sb=>⟨.ref D,H',?_,rfl,q⟩⟩
 obtain ⟨f0,f1,f2,f3,f4,f5⟩:=fC
 exact I'.turned (t':=s'.toks) (fun b o hb e=>(sb.2 b hb).trans e) f0 f1 f3 f4 f5
theorem nR (k:gB (aM (CX1 P w) P w K mg base N qual scope f cd A outer s₀ H₀ E) sc own cap) (hi:PIp K cl E (aM (CX1 P w) P w K mg base N qual scope f cd A outer s₀ H₀ E) target iter mi) (hc:(aM (CX1 P w) P w K mg base N qual scope f cd A outer s₀ H₀ E).calm=true) (hg:∀ C s₁ H₁ ex,PGp K (cC (aM (CX1 P w) P w K mg base N qual scope f cd A outer s₀ H₀ E) sc (bF own cap) C s₁ H₁ ex) target g) (he:∀ C s₁ H₁ ex E',hU (CX1 P w) ((cC (aM (CX1 P w) P w K mg base N qual scope f cd A outer s₀ H₀ E) sc (bF own cap) C s₁ H₁ ex).wish E') E→PEp K cl E ((cC (aM (CX1 P w) P w K mg base N qual scope f cd A outer s₀ H₀ E) sc (bF own cap) C s₁ H₁ ex).wish E') elt me)
  (hs:∀ x,foldedSetIterable iter (aM (CX1 P w) P w K mg base N qual scope f cd A outer s₀ H₀ E).env x=pure x:=by intro _; rfl):PEp K cl E (aM (CX1 P w) P w K mg base N qual scope f cd A outer s₀ H₀ E) (.ListComp elt [⟨target,iter,[],0⟩] sc pos) (dZ own cap mi g me):=by
 intro hK
 refine PE.imp (afp k (hi hK) hc (fun C s₁ H₁ ex=>hg C s₁ H₁ ex hK) (fun C s₁ H₁ ex E' ps=>he C s₁ H₁ ex E' ps hK) hs) fun σ H Q ⟨p,S,ρ,s,ev,h⟩=>?_
 exact bO s ev h fun q H' xs J S' stp sm ev it kk D hD=>abl sm ev it kk hD
end
section
variable {K:PySem.W.Frag} {cl:Str→Addr} {E:XK} {X:Cx} {e:Expr} {es:List Expr} {ms:MA} {pos p:Pos} {k n:Nat} {f:Addr} {fd:FuncData} {ps:List Str} {g:FM} {x:Str} {dvs:List V} {ds:List Value} {dv:List PV}
theorem lQ (hp:hU (CX1 X.prog X.w) X E) (F:aW X.prog X.w X.K X.mg X.base (CX1 X.prog X.w) k f fd ps (spP K cl g)) (hr:cY k X.A) (hg:Gl X x) (hm:X.mg x=some (.ref f)) (hk:PySem.W.keepIn X.K (.ref f)=true) (hb:cU X.K fd ps ds) (hd:bC dvs ds) (hv:Dv dv dvs)
  (ha:PAp K cl E X (e :: es) ms) (hdb:(x == ("__debug__":Str))=false:=by decide) (he:starEach (e :: es) X.env=(false,eval e X.env) :: starEach es X.env:=by rfl) (hpl:(backTo pos (starEach es X.env)).any (·.1)=false:=by rfl) :
  PEp K cl E X (.Call (.Name x p) (e :: es) [] pos) (bW g dv ms):=by
 intro hK
 refine PE.imp (qG F hr hg hm hk hb hd hp (ha hK) hdb he hpl) fun σ H Q ⟨p,S,ρ,s,ev,h⟩=>?_
 exact bO s ev h fun q H' as xs S' stp sm ev r k=>⟨q,S',_,sm,nB r (hv K q H'),pZ sm k⟩
end
end L2.Pp
namespace L2.Pp
open PySem PySem.Spec PyProof.Rows Bn
section
variable {K:PySem.W.Frag} {cl:Str→Addr} {E:XK} {X:Cx}
end
end L2.Pp
namespace L2.Pp
open PySem PySem.Spec PyProof.Rows Bn
section
variable {K:PySem.W.Frag} {cl:Str→Addr} {E:XK} {X:Cx} {a b e:Expr} {m:ME} {ms:MA} {pos:Pos}
theorem qP:bootBuiltins "str"=some (.type "str"):=by decide +kernel
theorem mI {c:Addr→Prop} {H:Hp} (x:Str):Rep K c H (.str x) (.str x):=by
 unfold Rep
 rfl
def iO:PV→PV→Option PV
 | .str x,.str y=>if x.length+y.length≤16777216 then some (.str (x++y)) else none
 | _,_=>none
theorem qK:OpS K (fun x y H Q=>∃ i j,x=.str i∧y=.str j∧i.length+j.length≤sizeLine∧Q (.str (i++j)) H) iO:=fun {p S H a b c x y Q} s ra rb e k=>by
 unfold iO at e
 split at e
 ·split at e
  ·rename_i h
   cases e
   rw [← fB] at h
   exact ⟨_,_,ra.str,rb.str,h,k H _ (bZ.refl H) (mI _)⟩
  ·cases e
 ·cases e
def ak2 (y x:Str):Bool:=!(Builtin.Str.occurrences y x 0 y.length 1).isEmpty
def mK:PV→PV→Option PV
 | .str x,.str y=>some (.bl (ak2 y x))
 | _,_=>none
theorem akL:OpS K (fun x y H Q=>∃ i j,x=.str i∧y=.str j∧Q (.bl (!(Builtin.Str.occurrences j i 0 j.length 1).isEmpty)) H) mK:=fun {p S H a b c x y Q} s ra rb e k=>by
 unfold mK at e
 split at e
 ·cases e
  exact ⟨_,_,ra.str,rb.str,k H _ (bZ.refl H) (fK (v:=.bl _) rfl)⟩
 ·cases e
def lB:List PV→Option PV
 | [.str x]=>if x.length≤16777216 then some (.int x.length) else none
 | _=>none
theorem aji:CaR K (fun xs H Q=>∃ z,xs=[.str z]∧z.length≤sizeLine∧Q (.int z.length) H) lB:=fun {p S H as c xs Q} s ra e k=>by
 unfold lB at e
 split at e
 ·rename_i x
  split at e
  ·rename_i h
   cases e
   rw [← fB] at h
   cases ra with
   | cons h1 t =>
    cases t
    exact ⟨x,by rw [h1.str],h,k H _ (bZ.refl H) (fK (v:=.int _) rfl)⟩
  ·cases e
 ·cases e
def jF:List PV→Option PV
 | [.int i]=>if i.natAbs.log2 < 1920 then some (.str (toString i)) else none
 | _=>none
theorem uW:CaR K (fun xs H Q=>∃ i,xs=[.int i]∧i.natAbs.log2 < 1920∧Q (.str (toString i)) H) jF:=fun {p S H as c xs Q} s ra e k=>by
 unfold jF at e
 split at e
 ·rename_i x
  split at e
  ·rename_i h
   cases e
   cases ra with
   | cons h1 t =>
    cases t
    exact ⟨x,by rw [h1.int],h,k H _ (bZ.refl H) (mI _)⟩
  ·cases e
 ·cases e
theorem abt:fS X (.type "int") (fun xs H Q=>∃ x n,xs=[.str x]∧PySem.intText? x=some n∧x.length≤640∧Q (.int n) H):=by
 intro pins s σ H xs us Q I r h
 obtain ⟨x,n,rfl,hn,hl,q⟩:=h
 obtain ⟨u,rfl,t,rfl⟩:=gW r
 exact PySem.W.KIN.call_text hn hl ⟨.int n,H,I.tok _,⟨_,rfl⟩,q⟩
def rD:List PV→Option PV
 | [.str x]=>if x.length≤640 then (PySem.intText? x).map .int else none
 | _=>none
theorem ajI:CaR K (fun xs H Q=>∃ x n,xs=[.str x]∧PySem.intText? x=some n∧x.length≤640∧Q (.int n) H) rD:=fun {p S H as c xs Q} s ra e k=>by
 unfold rD at e
 split at e
 ·rename_i x
  split at e
  ·rename_i h
   cases z:PySem.intText? x with
   | none=>rw [z] at e; cases e
   | some n =>
    rw [z] at e
    cases e
    cases ra with
    | cons h1 t =>
     cases t
     exact ⟨x,n,by rw [h1.str],z,h,k H _ (bZ.refl H) (fK (v:=.int _) rfl)⟩
  ·cases e
 ·cases e
theorem adh {h:Heap} {sl:Addr} {vl vu:Value} {lo hi:Option Int} (hs:h.IsSliceOf sl vl vu .none) (pl:IsPart vl lo) (pu:IsPart vu hi):∃ l u:Option (Int × Tok),h.IsSlice sl l u none∧l.map (·.1)=lo∧u.map (·.1)=hi:=by
 obtain ⟨o,e,c,d⟩:=hs
 cases pl with
 | none =>
  cases pu with
  | none=>exact ⟨none,none,⟨o,e,c,d⟩,rfl,rfl⟩
  | int j u=>exact ⟨none,some (j,u),⟨o,e,c,d⟩,rfl,rfl⟩
 | int i t =>
  cases pu with
  | none=>exact ⟨some (i,t),none,⟨o,e,c,d⟩,rfl,rfl⟩
  | int j u=>exact ⟨some (i,t),some (j,u),⟨o,e,c,d⟩,rfl,rfl⟩
theorem aiU:SlR X (fun x lo hi H Q=>∃ z,x=.str z∧z.length≤sizeLine∧Q (.str (Txt.slice z lo hi)) H):=by
 intro pins s σ H x v vl vu lo hi sl Q I rx hs pl pu h
 obtain ⟨z,rfl,hz,q⟩:=h
 obtain ⟨t,rfl⟩:=rx
 obtain ⟨l,u,hs,rfl,rfl⟩:=adh hs pl pu
 refine ⟨"str",_,PySem.F.slot_str_getitem.lookup,typeIs_str _ _ _,?_⟩
 exact wpAny_getItem_str_slice hs rfl (post_val_or_str ⟨Nat.le_trans (Txt.slice_le z _ _) hz,fun t' k=>⟨.str _,H,I.tok _,⟨_,rfl⟩,q⟩⟩)
def akQ (v:PV) (lo hi:Option Int):Option PV:=match v with
 | .str x=>if x.length≤16777216 then some (.str (Txt.slice x lo hi)) else none
 | _=>none
def lC (m:ME) (ml mh:MO):ME:=fun ρ S=>(m ρ S).bind fun v S1=>(ml ρ S1).bind fun lo S2=>(mh ρ S2).bind fun hi S3=>okO ((rd S3 v).bind fun x=>akQ x lo hi) S3
theorem ajM {lo hi:Option Expr} {ml mh:MO} {p2:Pos} (he:PEp K cl E X e m) (hl:POp K cl E X lo ml) (hu:POp K cl E X hi mh):PEp K cl E X (.Subscript e (.Slice lo hi none p2) pos) (lC m ml mh):=by
 intro hK
 subst hK
 refine (ac0 aiU (he rfl) (hl rfl) (hu rfl)).imp fun σ H Q ⟨p,S,ρ,s,e,h⟩=>?_
 refine bO s e h fun q H1 a x S1 st s1 e1 r1 h1=>bO s1 e1 h1 fun q2 H2 lo lo' S2 st2 s2 e2 r2 h2=>bO s2 e2 h2 fun q3 H3 hi hi' S3 st3 s3 e3 r3 h3=>?_
 cases r2
 cases r3
 have ra:=st3.repA (st2.repA r1)
 obtain ⟨c,ec,k⟩:=kR s3 h3
 cases z:rd S3 a with
 | none=>rw [z] at ec; cases ec
 | some v =>
  rw [z] at ec
  have rv:=lX s3 ra z
  cases v with
  | str w =>
   have ec:(if w.length≤16777216 then some (PV.str (Txt.slice w lo hi)) else none)=some c:=ec
   split at ec
   ·rename_i hw
    cases ec
    rw [← fB] at hw
    exact ⟨w,rv.str,hw,k _ _ (bZ.refl _) (mI _)⟩
   ·cases ec
  | _=>cases ec
def MtS (X:Cx) (id:String) (f:Str→List PV→Option PV):Prop :=
 ∀ (pins:List (Addr × Obj)) (s:Shared) (σ:St) (H:Hp) (x:Str) (t:Tok) (as:List PV) (xs:List V) (us:List Value) (c:PV) (Q:VK),Inv X pins σ H s→bC xs us→(∃ p:Ph,aT X.K p.c H as xs)→f x as=some c →
  (∀ H' z,bZ H H'→(∀ (p:Ph) S,Sim X.K p S H→aT X.K p.c H as xs→Rep X.K p.c H' c z)→Q z H')→wpAny (model X.prog X.w) X.A (call (.builtin id) (.str x t :: us)) (EP X pins σ Q) X.xe s
def dC {α:Type} (k:AV) (f:Str→Res α):Res α:=match k with
 | .pv (.str x)=>f x
 | _=>.fail
def eF (f:Str→List PV→Option PV) (m:ME) (ms:MA):ME:=fun ρ S=>(m ρ S).bind fun k S1=>dC k fun x=>(ms ρ S1).bind fun ys S2=>okO ((iB ys).bind (f x)) S2
theorem qT {name:Str} {id:String} {f:Str→List PV→Option PV} {es:List Expr} {apos cpos:Pos} (slot:Slot "str" name id) (hty:typeOf (.builtin id)=pure (.type "method_descriptor")) (hm:MtS X id f) (ho:PEp K cl E X a m) (ha:PAp K cl E X (e :: es) ms) (hbase:attributeBase a name X.env (eval a X.env)=eval a X.env:=by rfl)
  (hfew:((backTo cpos (starEach (e :: es) X.env)).all (fun x=>!x.1) && (backToKw cpos (keywordEach [] X.env)).all (fun x=>x.1.isSome)
   && decide ((e :: es).length+([]:List Keyword).length+(if ([]:List Keyword).isEmpty then 0 else 1) < 30))=true:=by rfl)
  (hline:(apos.endLine == cpos.line)=true:=by rfl) (hs:starEach (e :: es) X.env=(false,eval e X.env) :: starEach es X.env:=by rfl) (hplain:(backTo cpos (starEach es X.env)).any (·.1)=false:=by rfl) :
  PEp K cl E X (.Call (.Attribute a name apos) (e :: es) [] cpos) (eF f m ms):=by
 intro hK
 subst hK
 refine PE.imp (uN (r:=fun x xs H Q=>∃ (z:Str) (as:List PV) (c:PV),x=.str z∧(∃ p:Ph,aT X.K p.c H as xs)∧f z as=some c∧∀ H' y,bZ H H'→(∀ (p:Ph) S,Sim X.K p S H→aT X.K p.c H as xs→Rep X.K p.c H' c y)→Q y H') PySem.F.plainAttrs_str slot hty (fun pins s σ H x xs v us Q I rx rs h=>?_) (ho rfl) (ha rfl) hbase hfew hline hs hplain) fun σ H Q ⟨p,S,ρ,s,ev,h⟩=>?_
 ·obtain ⟨z,as,c,rfl,hp,hf,k⟩:=h
  obtain ⟨t,rfl⟩:=rx
  exact hm pins s σ H z t as xs us c Q I rs hp hf k
 ·refine bO s ev h fun q H1 k x S1 st s1 e1 r1 h1=>?_
  unfold dC at h1
  split at h1
  ·rename_i z
   have ex:=(show dL X.K q H1 (.str z) x from .inl r1).str
   subst ex
   refine ⟨rfl,bO s1 e1 h1 fun q2 H2 ys xs S2 st2 s2 e2 r2 h2=>?_⟩
   obtain ⟨c,ec,k⟩:=kR s2 h2
   cases y:iB ys with
   | none=>rw [y] at ec; cases ec
   | some as =>
    rw [y] at ec
    have rr:=sM y r2
    exact ⟨z,as,c,rfl,⟨q2,rr⟩,ec,fun H' w sm hr=>k H' w sm (hr q2 S2 s2 rr)⟩
  ·exact h1.elim
theorem afL {c:PV} {H H':Hp} {as:List PV} {xs:List V} (h:oV c=true):∀ (p:Ph) S,Sim K p S H→aT K p.c H as xs→Rep K p.c H' c (toV c):=fun p S _ _=>fK h
theorem aeJ {c:Addr→Prop} {H:Hp} {y:Str} {xs:List V} (r:aT K c H [.str y] xs):xs=[.str y]:=by
 unfold aT at r
 obtain ⟨v,r1,rfl,h,t⟩:=r
 unfold aT at t
 subst t
 unfold Rep at h
 rw [h]
def jB (x:Str):List PV→Option PV
 | [.str y]=>some (.bl (Txt.startswith x y))
 | _=>none
theorem aes:MtS X "str.startswith" jB:=by
 intro pins s σ H x t as xs us c Q I rs ⟨p,rp⟩ hf k
 unfold jB at hf
 split at hf
 ·rename_i y
  cases hf
  rw [aeJ rp] at rs
  obtain ⟨u,rfl,t',rfl⟩:=gW rs
  exact SC.startswith ⟨.bl _,H,I,rfl,k H _ (bZ.refl H) (afL (c:=.bl _) rfl)⟩
 ·cases hf
theorem ab5:∀ l:List (Str × Tok),bC (l.map fun p=>V.str p.1) (strValues l)
 | []=>.nil
 | p :: l=>.cons ⟨p.2,rfl⟩ (ab5 l)
theorem acl {c:Addr→Prop} {H:Hp}:∀ l:List Str,aT K c H (l.map PV.str) (l.map V.str)
 | []=>.nil
 | x :: l=>.cons (mI x) (acl l)
def fG (x:Str):List PV→Option PV
 | [.str y]=>if y.length≠0∧x.length+2≤16777216 then some (.lst ((Txt.split x y).map .str)) else none
 | _=>none
theorem aeh (x y:Str):(Txt.split x y).length≤x.length+2:=by
 unfold Txt.split
 split
 ·simp
 ·split
  ·simp
  ·have e1:=StrLaws.occ_length_le x y 0 x.length (x.length+1)
   rw [PySem.length_partsBetween]
   omega
theorem tI:MtS X "str.split" fG:=by
 intro pins s σ H x t as xs us c Q I rs ⟨p,rp⟩ hf k
 unfold fG at hf
 split at hf
 ·rename_i y
  split at hf
  ·rename_i hp
   cases hf
   rw [aeJ rp] at rs
   obtain ⟨u,rfl,t',rfl⟩:=gW rs
   have hl:=aeh x y
   have hz:((Txt.split x y).map V.str).length≤sizeLine:=by rw [List.length_map,fB]; omega
   have hn:(Builtin.Str.partsBetween x (Builtin.Str.occurrences x y 0 x.length (x.length+1)) y.length).length≤sizeLine:=by
    have e1:=StrLaws.occ_length_le x y 0 x.length (x.length+1)
    rw [PySem.length_partsBetween,fB]; omega
   have fin:∀ (l:List (Str × Tok)) (n:Nat) (h':Heap) (tk:Nat),l.map (·.1)=Txt.split x y→h'=s.heap.push { cls:=.type "list",data:=.seq (strValues l).toArray }→EP X pins σ Q (.ref s.heap.objs.size) { s with heap:=h',toks:=tk }:=fun l n h' tk el eh=>by
    have ev:(Txt.split x y).map V.str=l.map fun p=>V.str p.1:=by rw [← el,List.map_map]; rfl
    subst eh
    refine ⟨.ref s.heap.objs.size,_,I.laid (o:=.lst ((Txt.split x y).map V.str)) (fun b ob q=>Heap.get?_push_of_some _ q) (Nat.le_refl _) ⟨hz,_,0,by rw [ev]; exact ab5 l,Heap.get?_push_size _ rfl⟩,rfl,?_⟩
    have hnone:=I.hok.fresh (Nat.le_refl s.heap.objs.size)
    refine k _ _ (eX hnone) fun p S sm _=>?_
    exact kS sm (acl _) hz hnone
   cases h1:(decide (x.length < y.length) || decide (Builtin.Str.strKind x < Builtin.Str.strKind y))
   ·cases hf:(Builtin.Str.occurrences x y 0 x.length (x.length+1)).isEmpty
    ·refine call_meets PySem.F.slot_str_split (typeIs_str _ _ _) PySem.F.entry_str_split (PySem.F.args_str_split_2 _ _) (meets_str_split_sep x y t t' h1 (by simpa using hp.1) hf (by rw [fB]; omega) hn) ?_
     rw [strsFrom_eq]
     exact fin (numbered s.toks _) 0 _ _ ((numbered_texts _ _).trans ((if_neg (ne_true_of_eq_false h1)).trans (if_neg (ne_true_of_eq_false hf))).symm) rfl
    ·exact call_meets PySem.F.slot_str_split (typeIs_str _ _ _) PySem.F.entry_str_split (PySem.F.args_str_split_2 _ _) (meets_str_split_not_found x y t t' h1 (by simpa using hp.1) hf)
      (fin [(x,t)] 0 _ s.toks ((if_neg (ne_true_of_eq_false h1)).trans (if_pos hf)).symm rfl)
   ·exact call_meets PySem.F.slot_str_split (typeIs_str _ _ _) PySem.F.entry_str_split (PySem.F.args_str_split_2 _ _) (meets_str_split_cannot_occur x y t t' h1)
     (fin [(x,t)] 0 _ s.toks (if_pos h1).symm rfl)
  ·cases hf
 ·cases hf
end
end L2.Pp
namespace L2
open PySem PySem.Spec PyProof.Rows Bn
def Itx (x:Str):It:=⟨fun i _=>i < x.cps.size,fun i H v H'=>H'=H∧∃ c,x.cps[i]?=some c∧v=.str ⟨#[c]⟩,fun i _=>x.cps.size≤i⟩
theorem afc {P:Program} {w:World} {K:PySem.W.Frag} {tg:Expr} (x:Str) (t:Tok) (it:Addr):mL P w K tg (Itx x) [it] it (fun i h=>h.IsStrIter it "str_ascii_iterator" x t i) where
 mem:=by simp
 obj:=fun i h st b hb=>by
  have e:b=it:=by simpa using hb
  subst e
  obtain ⟨o,e,c,d⟩:=st
  exact ⟨o,e,fun v z=>by rw [d] at z; cases z⟩
 keep:=fun i h h' st k=>by
  obtain ⟨o,e,c,d⟩:=st
  exact ⟨o,k it (by simp) o e,c,d⟩
 item:=by
  intro X hP hw hK hc i pins s σ H E I hf st hg
  subst hP hw hK
  have hg:i < x.cps.size:=hg
  obtain ⟨f0,f1,f2,f3,f4,f5⟩:=hf it (by simp)
  have hx:x.cps[i]?=some x.cps[i]:=Array.getElem?_eq_getElem hg
  refine wpAny_pyNext_ascii_item st hx fun h' st' sb=>?_
  have I1:Inv X pins σ H { s with heap:=h',toks:=s.toks+1 }:=I.turned (fun b o hb e=>(sb.2 b hb).trans e) f0 f1 f3 f4 f5
  obtain ⟨o,e,c,d⟩:=id st'
  exact ⟨_,rfl,vA (s:={ s with heap:=h',toks:=s.toks+1 }) e c d (by decide) ⟨.str ⟨#[x.cps[i]]⟩,H,I1,⟨_,rfl⟩,⟨rfl,_,hx,rfl⟩,st',fun b hb=>(hf b hb).1⟩⟩
 done:=by
  intro X hP hw hK hc i pins s σ H E I hf st hg
  subst hP hw hK
  have hg:x.cps.size≤i:=hg
  obtain ⟨f0,f1,f2,f3,f4,f5⟩:=hf it (by simp)
  exact wpAny_pyNext_ascii_end (I.ok.hd hc) st (Array.getElem?_eq_none hg) fun h' eb=>⟨rfl,I.turned (t':=s.toks) (fun b o hb e=>eb b o hb e) f0 f1 f3 f4 f5⟩
 self:=fun _ _ _ _ _ st h=>wpAny_pyIter_striter_ascii st h
def PEx (X:Cx) (e:Expr) (te:XK→TE):Prop :=
 ∀ (pins:List (Addr × Obj)) (s:Shared) (σ:St) (H:Hp) (Q:VK) (E:XK) (Ex:Value→Shared→Prop),Inv X pins σ H s→te E σ H Q →
  (∀ s1 H1 e' s',Inv X pins σ H1 s1→CX1 X.prog X.w X.stack H1 s1 E e' s'→Ex e' s')→wpAny (model X.prog X.w) X.A (eval e X.env) (EP X pins σ Q) Ex s
section
variable {X:Cx} {k:Nat} {f:Addr} {fd:FuncData} {ps:List Str} {sp:Sp} {dvs:List V} {ds:List Value} {x:Str} {p pos pos1 pos2 pos3 pc:Pos} {e a:Expr} {es:List Expr} {t:TA} {ta:TE} {te:XK→TE} {c n:Str} {C:Addr} {i:Nat} {b₀:Stmt} {body:List Stmt} {newId:String}
theorem afH (hxe:X.xe=fun _ _=>False) (F:aW X.prog X.w X.K X.mg X.base (CX1 X.prog X.w) k f fd ps sp) (hr:cY k X.A) (hg:Gl X x) (hm:X.mg x=some (.ref f)) (hkp:PySem.W.keepIn X.K (.ref f)=true)
  (hb:cU X.K fd ps ds) (hd:bC dvs ds) (ha:PA X (e :: es) t)
  (hdb:(x == ("__debug__":Str))=false:=by decide) (he:starEach (e :: es) X.env=(false,eval e X.env) :: starEach es X.env:=by rfl) (hpl:(backTo pos (starEach es X.env)).any (·.1)=false:=by rfl) :
  PEx X (.Call (.Name x p) (e :: es) [] pos) (fun E σ H Q=>t σ H fun vs H1=>sp (vs++dvs) H1 Q E) :=
 fun pins s σ H Q E Ex I h hx=>afC hxe F hr hg hm hkp hb hd ha I h hx hdb he hpl
theorem af1 {x1} (hxe:X.xe=fun _ _=>False) (ha:PE X a ta) (he:PEx X e te)
  (hs:starEach [a,e] X.env=[(false,eval a X.env),(false,eval e X.env)]:=by rfl) :
  PEx X (.Tuple [a,e] x1 pos) (fun E σ H Q=>ta σ H fun u H1=>te E σ H1 fun v H2=>∀ t,H2 t=none→Q (.ref t) (upd H2 t (.tup [u,v]))):=by
 intro pins s σ H Q E Ex I h hx
 refine wpAny_Tuple_spliced ?_
 rw [hs]
 show wpAny _ _ (spliced ((false,eval a X.env) :: [(false,eval e X.env)])) _ _ s
 refine Calls.spliced_cons (wpAny_mono (ha pins s σ H _ I h) (fun u s1 ⟨x,H1,I1,r1,q1⟩=>?_) fun _ _ z=>by rw [hxe] at z; exact z.elim)
 refine Calls.spliced_cons (wpAny_mono (he pins s1 σ H1 _ E Ex I1 q1 hx) (fun v s2 ⟨y,H2,I2,r2,q2⟩=>?_) fun _ _ z=>z)
 refine Calls.spliced_nil ⟨by show 2≤sizeLine; decide,?_⟩
 have hf:H2 s2.heap.objs.size=none:=I2.hok.fresh (Nat.le_refl _)
 refine ⟨.ref s2.heap.objs.size,upd H2 s2.heap.objs.size (.tup [x,y]),I2.laid (t':=s2.toks) (fun b u e=>Heap.get?_push_of_some _ e) (Nat.le_refl _) ?_,rfl,q2 _ hf⟩
 exact ⟨by show 2≤sizeLine; decide,[u,v],.cons r1 (.cons r2 .nil),⟨_,Heap.get?_push_size _ rfl,rfl,_,rfl⟩⟩
end
end L2
namespace L2.Pp
open PySem PySem.Spec PyProof.Rows Bn
section
variable {K:PySem.W.Frag} {cl:Str→Addr} {E:XK} {X:Cx} {a b c e:Expr} {m mc:ME} {ms:MA} {pos:Pos} {tg:Expr} {ma mb:ME}
def chs (x:Str):List PV:=x.cps.toList.map fun c=>.str ⟨#[c]⟩
def vB:AV→Sto→Res (List PV × Gd)
 | .pv (.str x),S=>if x.cps.all (· < 128)=true∧x.length≤16777216 then .ok (chs x,[]) S else .fail
 | _,_=>.fail
def rM (m:ME):MI:=fun ρ S=>(m ρ S).bind vB
theorem aiA {p:Ph} {H:Hp} {x:Str} (hz:x.length≤16777216):dN K p H (chs x,[]) (Itx x):=by
 have hl:(chs x).length=x.cps.size:=by unfold chs; rw [List.length_map,Array.length_toList]
 refine ⟨by show (chs x).length≤sizeLine; rw [hl,fB]; exact hz,fun q H1 S1 st _ _=>⟨fun i v e=>?_,?_⟩⟩
 ·have e:(chs x)[i]?=some v:=e
  unfold chs at e
  rw [List.getElem?_map] at e
  cases z:x.cps.toList[i]? with
  | none=>rw [z] at e; cases e
  | some d =>
   rw [z] at e
   cases e
   have z:x.cps[i]?=some d:=by simpa using z
   refine ⟨(Array.getElem?_eq_some_iff.mp z).1,fun y H2 hy=>?_⟩
   obtain ⟨rfl,d',e1,rfl⟩:=hy
   rw [z] at e1
   cases e1
   exact ⟨bZ.refl _,mI _⟩
 ·show x.cps.size≤(chs x).length
  rw [hl]
  exact Nat.le_refl _
theorem agZ (h:PEp K cl E X e m):PIp K cl E X tg e (rM m):=by
 intro hK
 subst hK
 intro pins s σ H R I hh
 obtain ⟨p,S,ρ,sm,ev,hh⟩:=hh
 have z:=h rfl pins s σ H (fun x H1=>∃ y,x=.str y∧y.cps.all (· < 128)=true∧R (Itx y) H1) I (bO sm ev hh fun q H' v x S' stp sm ev r k=>by
  unfold vB at k
  split at k
  ·rename_i y
   split at k
   ·rename_i hy
    exact ⟨y,(show dL X.K q H' (.str y) x from .inl r).str,hy.1,bN.ret (R:=dN X.K) k sm (aiA hy.2)⟩
   ·exact k.elim
  ·exact k.elim)
 refine thn z fun v s1 ⟨x,H1,I1,r1,y,e,ha,q⟩=>?_
 subst e
 obtain ⟨t,rfl⟩:=r1
 refine wpAny_pyIter_ascii ha ?_
 refine ⟨s1.heap.objs.size,[s1.heap.objs.size],_,_,H1,rfl,I1.kept (t':=s1.toks) fun b o e=>Heap.get?_push_of_some _ e,afc y t _,⟨_,Heap.get?_push_size _ rfl,rfl,rfl⟩,fun b hb=>?_,q⟩
 have e:b=s1.heap.objs.size:=by simpa using hb
 subst e
 exact I1.fpOk (Nat.le_refl _) (I1.hok.fresh (Nat.le_refl _))
def lY (f f':PV→PV→Option PV) (ma mb mc:ME):ME:=fun ρ S=>(ma ρ S).bind fun x S1=>(mb ρ S1).bind fun y S2=>(fH f x y S2).bind fun z S3=>match z with
 | .pv (.bl true)=>(mc ρ S3).bind fun w S4=>fH f' y w S4
 | .pv (.bl false)=>.ok (.pv (.bl false)) S3
 | _=>.fail
theorem afB {op op':CmpOp} {r r':R2} {f f':PV→PV→Option PV} (ho:OpR X (compareOp op) r) (hf:OpS X.K r f) (ho':OpR X (compareOp op') r') (hf':OpS X.K r' f') (ha:PEp K cl E X a ma) (hb:PEp K cl E X b mb) (hc:PEp K cl E X c mc)
  (hm:lastMarks [op,op'] [b,c]=false:=by with_unfolding_all rfl):PEp K cl E X (.Compare a [op,op'] [b,c] pos) (lY f f' ma mb mc):=by
 intro hK
 subst hK
 refine PE.imp (afQ ho ho' (ha rfl) (hb rfl) (hc rfl) hm) fun σ H Q ⟨p,S,ρ,s,e,h⟩=>?_
 refine bO s e h fun q H1 x x' S1 st s1 e1 r1 h1=>bO s1 e1 h1 fun q2 H2 y y' S2 st2 s2 e2 r2 h2=>?_
 cases z:fH f x y S2 with
 | fail=>rw [z] at h2; exact h2.elim
 | exc n S3 =>
  exfalso
  unfold fH at z
  cases w:((rd S2 x).bind fun x=>(rd S2 y).bind fun y=>f x y) with
  | none=>rw [w] at z; cases z
  | some u=>rw [w] at z; cases z
 | ok u S3 =>
  rw [z] at h2
  simp only [Res.bind] at h2
  have eS:S3=S2:=by
   unfold fH at z
   cases w:((rd S2 x).bind fun x=>(rd S2 y).bind fun y=>f x y) with
   | none=>rw [w] at z; cases z
   | some u=>rw [w] at z; cases z; rfl
  subst eS
  refine nM (cl:=cl) (E:=E) hf s2 (st2.repA r1) r2 ?_
  rw [z]
  intro q3 H3 w st3 s3 r3
  have e3:=st3.repE e2
  have ry:=st3.repA r2
  split at h2
  ·have:w=.bl true:=qW r3 rfl
   subst this
   refine ⟨true,rfl,if_pos rfl ▸ ?_⟩
   refine ⟨q3,S3,ρ,s3,e3,?_⟩
   have h2:bN X.K cl (bU X.K) q2 H2 ((mc ρ S3).bind fun w S4=>fH f' y w S4) Q E:=h2
   cases zc:mc ρ S3 with
   | fail=>rw [zc] at h2; exact h2.elim
   | exc n S4=>
    rw [zc] at h2
    intro q4 H4 st4 s4
    exact h2 q4 H4 (st3.trans st4) s4
   | ok v S4 =>
    rw [zc] at h2
    intro q4 H4 v' st4 s4 r4
    refine nM (cl:=cl) (E:=E) hf' s4 (st4.repA ry) r4 ?_
    exact bN.mono h2 (st3.trans st4)
  ·have:w=.bl false:=qW r3 rfl
   subst this
   refine ⟨false,rfl,?_⟩
   show Q (.bl false) H3
   exact h2 q3 H3 _ st3 s3 (by show Rep X.K q3.c H3 _ _; unfold Rep; rfl)
  ·exact h2.elim
theorem ac9 {x:Str}:∀ c H,Rep K c H (.str x) (.str x):=fun c H=>mI x
end
end L2.Pp
namespace L2.Pp
open PySem PySem.Spec PyProof.Rows Bn
section
variable {K:PySem.W.Frag} {cl:Str→Addr} {E:XK} {X:Cx} {e a:Expr} {es:List Expr} {ms:MA} {ma me:ME} {p q:Ph} {H H':Hp} {S:Sto}
variable {k:Nat} {f:Addr} {fd:FuncData} {ps:List Str} {g:FM} {dvs:List V} {ds:List Value} {dv:List PV} {x:Str} {pp pos pos1 pos2 pos3 pc:Pos} {c n:Str} {i nn:Nat} {b₀:Stmt} {body:List Stmt} {newId:String} {up:Rho→Rho}
variable (K cl X)
def PXp (e:Expr) (m:ME):Prop:=X.K=K→PEx X e fun E=>tP K cl E (bU K) m
variable {K cl X}
def oK (f:FM) (ds:List PV) (ms:MA):ME:=fun ρ S=>(aL (ms ρ S)).bind fun xs S1=>frz S1.length (f (xs++ds.map .pv) S1)
def oZ (ma me:ME):ME:=fun ρ S=>(aL (ma ρ S)).bind fun u S1=>(me ρ S1).bind fun v S2=>oR eW [u,v] S2
theorem PEx.imp {te te':XK→TE} (h:PEx X e te) (i:∀ E σ H Q,te' E σ H Q→te E σ H Q):PEx X e te':=fun pins s σ H Q E Ex I q hx=>h pins s σ H Q E Ex I (i E σ H Q q) hx
theorem ahL (hxe:X.xe=fun _ _=>False) (F:aW X.prog X.w X.K X.mg X.base (CX1 X.prog X.w) k f fd ps (spP K cl g)) (hr:cY k X.A) (hg:Gl X x) (hm:X.mg x=some (.ref f)) (hkp:PySem.W.keepIn X.K (.ref f)=true)
  (hb:cU X.K fd ps ds) (hd:bC dvs ds) (hv:Dv dv dvs) (ha:PAp K cl E0 X (e :: es) ms)
  (hdb:(x == ("__debug__":Str))=false:=by decide) (he:starEach (e :: es) X.env=(false,eval e X.env) :: starEach es X.env:=by rfl) (hpl:(backTo pos (starEach es X.env)).any (·.1)=false:=by rfl) :
  PXp K cl X (.Call (.Name x pp) (e :: es) [] pos) (oK g dv ms):=by
 intro hK
 refine PEx.imp (afH hxe F hr hg hm hkp hb hd (ha hK) hdb he hpl) fun E σ H Q ⟨p,S,ρ,s,ev,h⟩=>?_
 refine ⟨p,S,ρ,s,ev,?_⟩
 unfold oK at h
 cases z:ms ρ S with
 | ok xs S1 =>
  rw [z] at h
  intro q H1 vs st sm r
  exact ⟨q,S1,xs++dv.map .pv,sm,nB r (hv K q H1),pZ sm (bN.mono h st)⟩
 | exc m S1=>rw [z] at h; exact h.elim
 | fail=>rw [z] at h; exact h.elim
theorem agQ {x1} (hxe:X.xe=fun _ _=>False) (ha:PEp K cl E0 X a ma) (he:PXp K cl X e me)
  (hs:starEach [a,e] X.env=[(false,eval a X.env),(false,eval e X.env)]:=by rfl):PXp K cl X (.Tuple [a,e] x1 pos) (oZ ma me):=by
 intro hK
 refine PEx.imp (af1 hxe (ha hK) (he hK) hs) fun E σ H Q ⟨p,S,ρ,s,ev,h⟩=>?_
 refine ⟨p,S,ρ,s,ev,?_⟩
 unfold oZ at h
 cases z:ma ρ S with
 | exc m S1=>rw [z] at h; exact h.elim
 | fail=>rw [z] at h; exact h.elim
 | ok u S1 =>
  rw [z] at h
  have h:bN K cl (bU K) p H ((me ρ S1).bind fun v S2=>oR eW [u,v] S2) Q E:=h
  intro q H1 u' st sm r
  refine ⟨q,S1,ρ,sm,st.repE ev,?_⟩
  cases z2:me ρ S1 with
  | fail=>rw [z2] at h; exact h.elim
  | exc n S2 =>
   rw [z2] at h
   intro q2 H2 st2 sm2
   exact h q2 H2 (st.trans st2) sm2
  | ok v S2 =>
   rw [z2] at h
   have h:bN K cl (bU K) p H (oR eW [u,v] S2) Q E:=h
   intro q2 H2 v' st2 sm2 r2 t ht
   have h:=bN.mono h (st.trans st2)
   refine xT (r:=fun xs H Q=>xs.length≤sizeLine∧∀ t,H t=none→Q (.ref t) (upd H t (.tup xs))) (f:=eW) (fun {p S H as c xs Q} s r e k=>?_) sm2 (.cons (st2.repA r) (.cons r2 .nil)) h |>.2 t ht
   unfold eW at e
   split at e
   ·rename_i hl
    cases e
    rw [r.length,← fB] at hl
    exact ⟨hl,fun t ht=>k _ _ (eX ht) (kP s r hl ht)⟩
   ·cases e
theorem abP {c:Addr→Prop}:∀ {vs:List PV},(∀ v∈vs,oV v=true)→aT K c H vs (vs.map toV)
 | [],_=>.nil
 | v :: vs,h=>.cons (fK (h v List.mem_cons_self)) (abP fun u hu=>h u (List.mem_cons_of_mem _ hu))
theorem cO.setT {ρ:Rho} {σ:St} (s:Sim K p S H) (ev:cO K p H ρ σ) {t:Addr} (ht:H t=none) {vs:List PV} (fl:∀ v∈vs,oV v=true) (hl:vs.length≤sizeLine) (i:Nat):cO K p (upd H t (.tup (vs.map toV))) (ρ.set i (some (.pv (.tup vs)))) (σ.set i (some (.ref t))) :=
 ((s.same (eX ht)).repE ev).set (v:=.pv (.tup vs)) (x:=.ref t) (kP s (abP fl) (by rw [List.length_map]; exact hl) ht) i
def oW (me:ME) (c:Str) (nn j:Nat) (up:Rho→Rho):MS:=fun ρ S=>if ρ.length=nn then (match me ρ S with
 | .ok v S2=>.nx (ρ.set j (some v)) S2
 | .exc n S2=>if n=c then .nx (up ρ) S2 else .fail
 | .fail=>.fail) else .fail
end
end L2.Pp
namespace L2.Pp
open PySem PySem.Spec PyProof.Rows Bn
section
variable {K:PySem.W.Frag} {cl:Str→Addr} {E:XK} {X:Cx} {a b:Expr} {ma mb:ME} {pos:Pos}
theorem ahG {m:ME} {σ:St} {H:Hp} {Q:VK} (z:tP X.K cl E (bU X.K) (mUn lF m) σ H Q):akS (tP X.K cl E (bU X.K) m) σ H Q:=by
 obtain ⟨p,S,ρ,s,ev,h⟩:=z
 refine bO s ev h fun q H' as x S' stp sm ev r k=>?_
 refine sW (r:=fun x H Q=>Q (.bl (decide (x=.non))) H) (f:=lF) (fun {p S H a c x Q} s ra e k=>?_) sm r k
 have z:c=.bl (decide (x=.non)):=by
  cases a with
  | non=>cases ra.non; cases e; rfl
  | int i=>cases ra.int; cases e; rfl
  | bl i=>cases ra.bl; cases e; rfl
  | str i=>cases ra.str; cases e; rfl
  | tup xs=>obtain ⟨a,vs,rfl,_⟩:=ra.tup; cases e; rfl
  | lst xs=>obtain ⟨a,vs,rfl,_⟩:=ra.lst; cases e; rfl
 subst z
 exact k H _ (bZ.refl H) (by unfold Rep; rfl)
theorem ai5 {m:ME} {j pos'} (ha:PEp K cl E X a m):PTp K cl E X (.Compare a [.Is] [.Constant .none j pos'] pos) (bG (mUn lF m)):=by
 intro hK
 subst hK
 refine (aiy (aim (ha rfl))).imp fun σ H Q ⟨p,S,ρ,s,e,h⟩=>?_
 have z:tP X.K cl E (bU X.K) (mUn lF m) σ H fun x H'=>∃ k,x=.bl k∧Q k H':=bO s e h fun q H1 a x S1 st s1 e1 r1 h1=>xW s1 r1 h1
 exact ahG z
end
end L2.Pp
namespace L2
open PySem PySem.Spec PyProof.Rows Bn
section
variable {X:Cx} {k:Nat} {p pos pos1 pos2 pos3 pc:Pos} {e:Expr} {te:XK→TE} {c:Str} {C:Addr} {b₀:Stmt} {body:List Stmt} {newId:String}
theorem aho {jv:Nat} {xv:Str} {posv:Pos} {ts:TS} (stk:X.stack=X.env :: X.outer) (hN:X.N.Nodup)
  (hgc:Gl X c) (hmc:X.mg c=some (.ref C)) (hxC:PySem.W.excIn X.K C eV newId=true) (he:PEx X e te)
  (hjv:X.N[jv]?=some xv) (hxv:Loc X.env.scope xv) (hs:∀ y,PSs (X.mk1 y []) (b₀ :: body) ts)
  (hsw:swapsWith e (some (.Name xv posv)) pos1.line X.env=pure false:=by rfl)
  (hfv:X.fn xv=true∨X.env.scope.names.lookup xv=some .local:=by first | exact .inl rfl | exact .inr rfl | assumption)
  (hfr:X.env.frame=some X.env.locals:=by rfl)
  (hdc:(c == ("__debug__":Str))=false:=by decide) :
  PS X (.Try [.Assign [.Name xv posv] e pos1] [.ExceptHandler (some (.Name c pc)) none (b₀ :: body) pos2] [] [] pos3)
   (fun D σ H=>te (fun cls _ H2=>cls=.ref C∧ts D σ H2) σ H (fun v H2=>D.nx (σ.set jv (some v)) H2)):=by
 intro pins s σ H D I h
 refine wpAny_Try_except (wpAny_execs_cons (wpAny_Assign_Name (wpAny_mono (he pins s σ H _ _ _ I h (fun s1 H1 e' s' I1 cx=>?_)) (fun v s1 q=>?_) fun e' s1 z=>z) hsw))
 rotate_left
 ·obtain ⟨v,H1,I1,rv,q⟩:=q
  exact lP I1 hN hjv hxv rv (fun s2 I2=>wpAny_execs_nil (wpAny_execs_nil ⟨_,H1,I2,q⟩)) hfv
 obtain ⟨y,C',tt,B,H',rfl,os,bare,un,hok,fl,cov,hE⟩:=cx
 obtain ⟨hC',hts⟩:=hE
 cases hC'
 rw [stk] at fl
 have fr:∀ b∈frs X.stack,H' b=none:=fun b hb=>by
  obtain ⟨_,o,ho,hd⟩:=I1.stack.mem hb
  exact un.free b o ho (I1.stkFree b hb) (by intro z; cases z)
 have ff:X.A.frames=some (X.env :: X.outer):=by rw [I.ok.frames,stk]
 refine wpAny_looks_onW (base:=B) ff hfr fl fun h2 held up2=>?_
 refine wpAny_landsW (base:=B) held fun h3 fl3 up3=>?_
 have up:=aeV up2 up3
 have I3:=I1.flown os bare un hok cov fr fl3.1 up
 refine wpAny_handleBy_cons ?_ (by intro z; cases z)
 refine codeAny_handlers_test (qE (X:=X.mk1 y []) (I3.mk1 y [] fun p hp=>nomatch hp) hgc hmc ?_ hdc)
 obtain ⟨bm,Nn,nm,qn,bs,hdct,sn,sub,ab,col,dd,k0,k1,k2,k3,k5,mN,hC,hNs,hni,T⟩:=aeE I.ok.mod.kin hxC
 obtain ⟨oe,vs,TT,oT,tts,hoe,⟨hcls,_⟩,hdat,_⟩:=fl3.2.2.2
 refine wpAny_excMatches_sub_self (I3.bk _ _ hC) hoe hcls (T.hasType (by decide)) ?_
 refine codeAny_handlers_suite (lands_againW (base:=B) fl3 fun h4 fl4 up4=>?_)
 have I4:=I1.flown os bare un hok cov fr fl4.1 (aeV up up4)
 have I5:Inv (X.mk1 y []) pins σ H' _:=I4.mk1 y [] fun p hp=>nomatch hp
 refine wpAny_mono (hs y pins _ _ H' _ I5 hts) (fun fl s7 q7=>?_) fun _ _ z=>False.elim z
 cases fl with
 | next=>obtain ⟨σ',H7,I7,q⟩:=q7; exact ⟨_,_,I7.unmk1 I.ok,q⟩
 | brk=>obtain ⟨σ',H7,I7,q⟩:=q7; exact ⟨_,_,I7.unmk1 I.ok,q⟩
 | cont=>obtain ⟨σ',H7,I7,q⟩:=q7; exact ⟨_,_,I7.unmk1 I.ok,q⟩
 | ret u=>obtain ⟨v,σ',H7,I7,r,q⟩:=q7; exact ⟨v,_,_,I7.unmk1 I.ok,r,q⟩
end
end L2
namespace L2.Pp
open PySem PySem.Spec PyProof.Rows Bn
section
variable {K:PySem.W.Frag} {cl:Str→Addr} {E:XK} {X:Cx} {a b e:Expr} {m me:ME} {ms:MA} {pos pos1 pos2 pos3 pc:Pos} {c:Str} {nn:Nat} {b₀:Stmt} {body:List Stmt} {newId:String} {up:Rho→Rho}
theorem ae9 {jv:Nat} {xv:Str} {posv:Pos} {ts:TS} (stk:X.stack=X.env :: X.outer) (hN:X.N.Nodup)
  (hgc:Gl X c) (hmc:X.mg c=some (.ref (cl c))) (hxC:PySem.W.excIn X.K (cl c) eV newId=true) (he:PXp K cl X e me)
  (hjv:X.N[jv]?=some xv) (hxv:Loc X.env.scope xv) (hs:∀ y,PSs (X.mk1 y []) (b₀ :: body) ts)
  (hts:∀ (D:jI) (σ:St) (H:Hp) (p:Ph) (S:Sto) (ρ:Rho),Sim K p S H→σ.length=nn→cO K p H ρ σ→(∀ H' σ',bZ H H'→cO K p H' (up ρ) σ'→D.nx σ' H')→ts D σ H)
  (hsw:swapsWith e (some (.Name xv posv)) pos1.line X.env=pure false:=by rfl)
  (hfv:X.fn xv=true∨X.env.scope.names.lookup xv=some .local:=by first | exact .inl rfl | exact .inr rfl | assumption)
  (hfr:X.env.frame=some X.env.locals:=by rfl)
  (hdc:(c == ("__debug__":Str))=false:=by decide) :
  PSp K cl E0 X (.Try [.Assign [.Name xv posv] e pos1] [.ExceptHandler (some (.Name c pc)) none (b₀ :: body) pos2] [] [] pos3) (oW me c nn jv up):=by
 intro hK
 refine PS.imp (aho stk hN hgc hmc hxC (he hK) hjv hxv hs hsw hfv hfr hdc) fun D σ H ⟨p,S,ρ,s,ev,h⟩=>?_
 unfold oW at h
 split at h
 ·rename_i hl
  refine ⟨p,S,ρ,s,ev,?_⟩
  cases z:me ρ S with
  | ok v S2 =>
   simp only [z] at h
   intro q2 H2 y st2 sm2 r2
   exact h q2 H2 _ st2 sm2 ((st2.repE ev).set r2 jv)
  | exc m S2 =>
   simp only [z] at h
   split at h
   ·rename_i hm
    subst hm
    intro q2 H2 st2 sm2
    refine ⟨rfl,hts D σ H2 q2 S2 ρ sm2 (by rw [← ev.len]; exact hl) (st2.repE ev) fun H' σ' hs e'=>h q2 H' σ' (st2.trans (sm2.same hs)) (sm2.ofSame hs) e'⟩
   ·exact h.elim
  | fail=>simp only [z] at h; exact h.elim
 ·exact h.elim
def jU:List PV→Option (List Str)
 | []=>some []
 | .str x :: r=>match jU r with
  | some xs=>some (x :: xs)
  | none=>none
 | _=>none
theorem ab4 {c:Addr→Prop} {H:Hp}:∀ {xs:List PV} {ts:List Str} {vs:List V},jU xs=some ts→aT K c H xs vs→vs=ts.map V.str
 | [],ts,vs,e,r=>by
  unfold aT at r
  cases e
  exact r
 | x :: xs,ts,vs,e,r=>by
  unfold aT at r
  obtain ⟨v,r1,rfl,h,t⟩:=r
  unfold jU at e
  split at e
  ·rename_i he; cases he
  ·rename_i y r' he
   cases he
   split at e
   ·rename_i ys hy
    cases e
    unfold Rep at h
    rw [h,ab4 hy t]
    rfl
   ·cases e
  ·cases e
theorem acK:∀ {ts:List Str} {its:List Value},bC (ts.map V.str) its→∃ l:List (Str × Tok),its=strValues l∧l.map (·.1)=ts
 | [],_,.nil=>⟨[],rfl,rfl⟩
 | t :: ts,_,.cons r v=>by
  obtain ⟨tk,rfl⟩:=r
  obtain ⟨l,rfl,rfl⟩:=acK v
  exact ⟨(t,tk) :: l,rfl,rfl⟩
theorem ahX:MtR X "str.join" (fun x vs H Q=>∃ (z:Str) (a:Addr) (ts:List Str),x=.str z∧vs=[.ref a]∧SqL X.K H a (ts.map V.str)∧JoinOk z ts=true∧Q (.str (Txt.join z ts)) H):=by
 intro pins s σ H x vs v us Q I rx rv h
 obtain ⟨z,a,ts,rfl,rfl,hq,hj,q⟩:=h
 obtain ⟨t,rfl⟩:=rx
 obtain ⟨u,rfl,ru⟩:=rv.one
 cases ru
 obtain ⟨its,r,pl,hz⟩:=I.list hq
 obtain ⟨l,rfl,hl⟩:=acK r
 exact SC.join pl.isList hl hj fun t' k=>⟨.str _,H,I.tok _,⟨_,rfl⟩,q⟩
def iA (z:Str):List PV→Option PV
 | [.lst xs]=>match jU xs with
  | some ts=>if JoinOk z ts=true then some (.str (Txt.join z ts)) else none
  | none=>none
 | _=>none
theorem ade {z:Str} {as:List PV} {c:PV} (h:iA z as=some c):∃ zs ts,as=[.lst zs]∧jU zs=some ts∧JoinOk z ts=true∧c=.str (Txt.join z ts):=by
 unfold iA at h
 split at h
 ·rename_i zs
  cases w:jU zs with
  | none=>rw [w] at h; cases h
  | some ts =>
   rw [w] at h
   dsimp only at h
   split at h
   ·rename_i hj
    cases h
    exact ⟨zs,ts,rfl,w,hj,rfl⟩
   ·cases h
 ·cases h
def fZ (m:ME) (ms:MA):ME:=fun ρ S=>(m ρ S).bind fun k S1=>dC k fun x=>(ms ρ S1).bind fun ys S2=>okO ((gA S2 ys).bind (iA x)) S2
theorem nV {apos cpos:Pos} (ho:PEp K cl E X a m) (ha:PAp K cl E X [e] ms) (hbase:attributeBase a "join" X.env (eval a X.env)=eval a X.env:=by rfl)
  (hfew:((backTo cpos (starEach [e] X.env)).all (fun x=>!x.1) && (backToKw cpos (keywordEach [] X.env)).all (fun x=>x.1.isSome) && decide (([e]:List Expr).length+([]:List Keyword).length+(if ([]:List Keyword).isEmpty then 0 else 1) < 30))=true:=by rfl)
  (hline:(apos.endLine == cpos.line)=true:=by rfl) (hs:starEach [e] X.env=[(false,eval e X.env)]:=by rfl):PEp K cl E X (.Call (.Attribute a "join" apos) [e] [] cpos) (fZ m ms):=by
 intro hK
 subst hK
 refine PE.imp (uN PySem.F.plainAttrs_str PySem.F.slot_str_join PySem.F.type_str_join ahX (ho rfl) (ha rfl) hbase hfew hline hs rfl) fun σ H Q ⟨p,S,ρ,s,ev,h⟩=>?_
 refine bO s ev h fun q H1 k x S1 st s1 e1 r1 h1=>?_
 unfold dC at h1
 split at h1
 ·rename_i z
  have ex:=(show dL X.K q H1 (.str z) x from .inl r1).str
  subst ex
  refine ⟨rfl,bO s1 e1 h1 fun q2 H2 ys xs S2 st2 s2 e2 r2 h2=>?_⟩
  obtain ⟨c,ec,kk⟩:=kR s2 h2
  cases y:gA S2 ys with
  | none=>rw [y] at ec; cases ec
  | some as =>
   rw [y] at ec
   have rr:=xR s2 r2 y
   have ec:iA z as=some c:=ec
   obtain ⟨zs,ts,rfl,w,hj,rfl⟩:=ade ec
   cases rr with
   | cons h t =>
    cases t
    obtain ⟨b0,ws,rfl,sq,lw,rw0⟩:=h.lst
    rw [ab4 w rw0] at sq
    exact ⟨z,b0,ts,rfl,rfl,sq,hj,kk H2 _ (bZ.refl H2) (mI _)⟩
 ·exact h1.elim
def vQ:V→Bool
 | .non=>true
 | _=>false
def rL:Value→Bool
 | .none=>true
 | _=>false
def ItN (K:PySem.W.Frag) (H:Hp):V→Prop
 | .non=>True
 | .bl _=>True
 | .int _=>True
 | .str _=>True
 | .ref a=>(∃ xs,SqL K H a xs)∨∃ xs,SqT K H a xs
 | _=>False
theorem aeg {H:Hp}:∀ {xs:List V} {us:List Value},bC xs us→(∀ v∈xs,ItN K H v)→us.any rL=xs.any vQ
 | _,_,.nil,_=>rfl
 | y :: xs,u :: us,.cons r t,f=>by
  rw [List.any_cons,List.any_cons,aeg t fun v hv=>f v (List.mem_cons_of_mem _ hv)]
  have h:=f y List.mem_cons_self
  cases y with
  | non=>cases r; rfl
  | bl b=>cases r; rfl
  | int i=>obtain ⟨t,rfl⟩:=r; rfl
  | str z=>obtain ⟨t,rfl⟩:=r; rfl
  | ref a=>cases r; rfl
  | _=>exact h.elim
theorem abK {pins:List (Addr × Obj)} {σ:St} {H:Hp} {s:Shared} (I:Inv X pins σ H s) {A:Around} (hu:A.units < cLine):∀ {xs:List V} {us:List Value},bC xs us→(∀ v∈xs,ItN X.K H v)→∀ u∈us,SeqAt.EqAt A s u .none (rL u)
 | _,_,.nil,_=>fun u hu=>by cases hu
 | y :: xs,u :: us,.cons r t,f=>fun u' hm=>by
  rcases List.mem_cons.mp hm with rfl | hm
  ·have h:=f y List.mem_cons_self
   cases y with
   | non=>cases r; exact SeqAt.EqAt.same _
   | bl b=>cases r; exact SeqAt.EqAt.bool_none b
   | int i=>obtain ⟨t,rfl⟩:=r; exact SeqAt.EqAt.int_none i t
   | str z=>obtain ⟨t,rfl⟩:=r; exact SeqAt.EqAt.str_none z t
   | ref a =>
    cases r
    rcases h with ⟨zs,h⟩ | ⟨zs,h⟩
    ·obtain ⟨its,_,pl,_⟩:=I.list h
     exact SeqAt.EqAt.list_none pl.isList hu
    ·obtain ⟨its,_,pl,_⟩:=I.tuple h
     exact SeqAt.EqAt.tuple_none pl hu
   | _=>exact h.elim
  ·exact abK I hu t (fun v hv=>f v (List.mem_cons_of_mem _ hv)) u' hm
def akT (K:PySem.W.Frag):R2:=fun x y H Q=>∃ p xs,x=.non∧y=.ref p∧SqL K H p xs∧(∀ v∈xs,ItN K H v)∧Q (.bl (xs.any vQ)) H
theorem aeZ (hu:X.A.units+8 < cLine):OpR X (compareOp .In) (akT X.K):=by
 intro pins s σ H x y v u Q I rx ry h
 obtain ⟨p,xs,rfl,rfl,hq,f,q⟩:=h
 cases rx
 cases ry
 obtain ⟨its,r,pl,hz⟩:=I.list hq
 refine SeqAt.in_listAt rL pl.isList (fun w hw=>abK I (A:=X.A.in1) (by show X.A.units+1 < cLine; omega) r f w (by simpa using hw)) ⟨.bl _,H,I,rfl,?_⟩
 rw [show its.toArray.any rL=its.any rL by simp,aeg r f]
 exact q
def pD:PV→Bool
 | .non=>true
 | _=>false
theorem ajh {c:Addr→Prop} {H:Hp} {v:PV} {x:V} (h:Rep K c H v x):ItN K H x∧vQ x=pD v:=by
 cases v with
 | non=>unfold Rep at h; subst h; exact ⟨trivial,rfl⟩
 | bl b=>unfold Rep at h; subst h; exact ⟨trivial,rfl⟩
 | int i=>unfold Rep at h; subst h; exact ⟨trivial,rfl⟩
 | str z=>unfold Rep at h; subst h; exact ⟨trivial,rfl⟩
 | tup xs =>
  unfold Rep at h
  obtain ⟨a,vs,rfl,t,_,_⟩:=h
  exact ⟨.inr ⟨vs,t⟩,rfl⟩
 | lst xs =>
  unfold Rep at h
  obtain ⟨a,vs,rfl,t,_,_⟩:=h
  exact ⟨.inl ⟨vs,t.sq⟩,rfl⟩
theorem aeW {c:Addr→Prop} {H:Hp}:∀ {xs:List PV} {vs:List V},aT K c H xs vs→(∀ v∈vs,ItN K H v)∧vs.any vQ=xs.any pD
 | [],vs,r=>by
  unfold aT at r
  subst r
  exact ⟨fun v hv=>absurd hv List.not_mem_nil,rfl⟩
 | x :: xs,vs,r=>by
  unfold aT at r
  obtain ⟨v,r1,rfl,h,t⟩:=r
  obtain ⟨a,b⟩:=ajh h
  obtain ⟨c1,d⟩:=aeW t
  refine ⟨fun w hw=>?_,by rw [List.any_cons,List.any_cons,b,d]⟩
  rcases List.mem_cons.mp hw with rfl | hw
  ·exact a
  ·exact c1 w hw
def iR:PV→PV→Option PV
 | .non,.lst xs=>some (.bl (xs.any pD))
 | _,_=>none
theorem ahA:OpS K (akT K) iR:=fun {p S H a b c x y Q} s ra rb e k=>by
 unfold iR at e
 split at e
 ·cases e
  obtain ⟨a1,vs,rfl,l1,z1,r1⟩:=rb.lst
  obtain ⟨f,g⟩:=aeW r1
  refine ⟨a1,vs,ra.non,rfl,l1,f,?_⟩
  rw [g]
  exact k H _ (bZ.refl H) (fK (v:=.bl _) rfl)
 ·cases e
end
end L2.Pp
namespace L2.Pp
open PySem PySem.Spec PyProof.Rows Bn
section
variable {M:Model} {A:Around} {E:Value→Shared→Prop} {s:Shared} {env:Env}
def abI (u:Value→Sem Unit) (M:Model) (A:Around) (E:Value→Shared→Prop) (Q:Value→Shared→Prop) (acc:Value) (c:Env):Result→Shared→Prop
 | .ok _,s'=>wpAny M A (u acc) (fun _ s''=>∃ m,s''.heap.Ns c.locals m∧∀ h',Heap.SameBut c.locals s''.heap h'→Q .none { s'' with heap:=h' }) E s'
 | .error x,s'=>∃ m,s'.heap.Ns c.locals m∧∀ h',Heap.SameBut c.locals s'.heap h'→wpAny M A (PySem.passOn "comprehension.variables-let-go" x c:Sem Value) (fun _ _=>False) E { s' with heap:=h' }
theorem aeP {u:Value→Sem Unit} {e:Expr} {sc:Scope} {pos:Pos} {newAcc first:Sem Value} {g:Comprehension} {gs:List Comprehension} {cl:List (Str × Addr)} {Q:Value→Shared→Prop}
  (hc:clausesOf e=g :: gs) (hs:∀ x,foldedSetIterable g.iter env x=pure x) (hcl:closureFor sc env=pure cl) (hk:sc.kind=.function) (hn:∀ x∈sc.names,x.2=.local→sc.names.lookup x.1=some .local)
  (h:wpAny M A first (fun x s1=>wpAny M A (pyIter x) (fun it s2=>wpAny M A newAcc (fun acc s3=>wpAny M A (newFunctionEnv sc env.globals cl [] env.qual none .none (some env)) (fun c s4 =>
    codeAny M A (.compStart e 0 it acc { c with scope:=relabel sc env }) (abI u M A E Q acc { c with scope:=relabel sc env }) s4) E s3) E s2) E s1) E s) :
  wpAny M A (comprehension e sc env pos newAcc false first (some u)) Q E s:=by
 unfold comprehension
 rw [hcl,hc]
 refine wpAny_bind (thn h fun x s1 h1=>wpAny_bind (wpAny_standAt (wpAny_bind (wpAny_of_eq (hs x) (wpAny_bind (wpAny_holding (thn h1 fun it s2 h2=>?_)))))))
 refine wpAny_standIf (wpAny_bind (thn h2 fun acc s3 h3=>wpAny_bind (wpAny_pure (wpAny_bind (thn h3 fun c s4 h4=>?_)))))
 dsimp only
 have loc:∀ x∈(sc.names.filter fun x=>(x.2 == .local || x.2 == .cell) && x.1 != (".0":Str)).reverse,x.2=.local→Env.kindOf { c with scope:=relabel sc env } x.1=some .local:=fun x hx hl =>
  lookup_relabel_local (hn x (List.mem_filter.mp (List.mem_reverse.mp hx)).1 hl)
 have loc':∀ x∈(sc.names.filter fun x=>(x.2 == .local || x.2 == .cell) && x.1 != (".0":Str)).reverse.drop 1++(sc.names.filter fun x=>(x.2 == .local || x.2 == .cell) && x.1 != (".0":Str)).reverse.take 1,x.2=.local→Env.kindOf { c with scope:=relabel sc env } x.1=some .local:=fun x hx hl=>by
  rcases List.mem_append.mp hx with h1 | h1
  ·exact loc x (List.mem_of_mem_drop h1) hl
  ·exact loc x (List.mem_of_mem_take h1) hl
 refine wpAny_holding (wpAny_bind (wpAny_attempt (wpAny_holding (wpAny_run (codeAny_mono h4 fun r s' hr=>?_)))))
 cases r with
 | ok f =>
  refine wpAny_bind (wpAny_rule (wpAny_bind (wpAny_holding (wpAny_mono hr (fun _ s'' hr'=>?_) fun _ _ h'=>h'))))
  obtain ⟨m,hm,hr'⟩:=hr'
  exact wpAny_bind (wpAny_comp_letGo (cenv:={ c with scope:=relabel sc env }) hk _ s'' m loc' hm fun h' _ _ sb=>wpAny_pure (hr' h' sb))
 | error x =>
  obtain ⟨m,hm,hr⟩:=hr
  exact wpAny_bind (wpAny_holding (wpAny_comp_letGo (cenv:={ c with scope:=relabel sc env }) hk _ s' m loc hm fun h' _ _ sb=>wpAny_mono (hr h' sb) (fun _ _ z=>z.elim) fun _ _ y=>y))
end
end L2.Pp
namespace L2
open PySem PySem.Spec PyProof.Rows Bn L2.Pp
section
variable {P:Program} {w:World} {K:PySem.W.Frag} {mg:Str→Option Value} {base:Heap} {N:List Str} {qual:Str} {scope:Scope} {f:Addr} {cd:Value} {A:Around} {outer:List Env} {s₀:Shared} {H₀:Hp} {E:XK}
variable {sc:Scope} {own:List Str} {cap:List (Nat × Str)} {pins:List (Addr × Obj)} {σ:St} {H:Hp} {s:Shared} {elt target iter:Expr} {pos pos':Pos} {wi:TI} {g:TG} {te:TE} {Q:VK}
theorem acA {u:Value→Sem Unit} {Qf:Value→Shared→Prop} (k:gB (aM (CX1 P w) P w K mg base N qual scope f cd A outer s₀ H₀ E) sc own cap) (hi:PI (aM (CX1 P w) P w K mg base N qual scope f cd A outer s₀ H₀ E) target iter wi) (hc:(aM (CX1 P w) P w K mg base N qual scope f cd A outer s₀ H₀ E).calm=true)
  (hg:∀ C s₁ H₁ ex,PG (cC (aM (CX1 P w) P w K mg base N qual scope f cd A outer s₀ H₀ E) sc (bF own cap) C s₁ H₁ ex) target g) (he:∀ C s₁ H₁ ex E',hU (CX1 P w) ((cC (aM (CX1 P w) P w K mg base N qual scope f cd A outer s₀ H₀ E) sc (bF own cap) C s₁ H₁ ex).wish E') E→PE ((cC (aM (CX1 P w) P w K mg base N qual scope f cd A outer s₀ H₀ E) sc (bF own cap) C s₁ H₁ ex).wish E') elt te) (I:Inv (aM (CX1 P w) P w K mg base N qual scope f cd A outer s₀ H₀ E) pins σ H s) (h:mE own cap wi g te σ H Q)
  (fin:∀ D C s' H' m,Inv (aM (CX1 P w) P w K mg base N qual scope f cd A outer s₀ H₀ E) pins σ H' s'→dR (aM (CX1 P w) P w K mg base N qual scope f cd A outer s₀ H₀ E) pins H' C→s'.heap.Ns C m→Q (.ref D) H'→wpAny (model (aM (CX1 P w) P w K mg base N qual scope f cd A outer s₀ H₀ E).prog (aM (CX1 P w) P w K mg base N qual scope f cd A outer s₀ H₀ E).w) (aM (CX1 P w) P w K mg base N qual scope f cd A outer s₀ H₀ E).A (u (.ref D)) (fun _ s''=>∃ m,s''.heap.Ns C m∧∀ h',Heap.SameBut C s''.heap h'→Qf .none { s'' with heap:=h' }) (aM (CX1 P w) P w K mg base N qual scope f cd A outer s₀ H₀ E).xe s')
  (hs:∀ x,foldedSetIterable iter (aM (CX1 P w) P w K mg base N qual scope f cd A outer s₀ H₀ E).env x=pure x) :
  wpAny (model (aM (CX1 P w) P w K mg base N qual scope f cd A outer s₀ H₀ E).prog (aM (CX1 P w) P w K mg base N qual scope f cd A outer s₀ H₀ E).w) (aM (CX1 P w) P w K mg base N qual scope f cd A outer s₀ H₀ E).A (comprehension (.ListComp elt [⟨target,iter,[],0⟩] sc pos) sc (aM (CX1 P w) P w K mg base N qual scope f cd A outer s₀ H₀ E).env pos' (newList []) false (eval iter (aM (CX1 P w) P w K mg base N qual scope f cd A outer s₀ H₀ E).env) (some u)) Qf (aM (CX1 P w) P w K mg base N qual scope f cd A outer s₀ H₀ E).xe s:=by
 refine aeP (u:=u) rfl hs (yS (k.has I.ok)) k.kind k.names ?_
 refine thn (hi pins s σ H _ I h) fun v s1 h1=>thn h1 fun itv s2 h2=>?_
 obtain ⟨it,fp,tn,J,H2,e,I2,T,st2,f2,hW⟩:=h2
 subst e
 refine wpAny_newObj_type (wpAny_newFunctionEnv k.nocell (fun y hy=>nomatch hy) (fun h4 hns hsb=>?_) k.kind)
 have I3:Inv (aM (CX1 P w) P w K mg base N qual scope f cd A outer s₀ H₀ E) pins σ (upd H2 s2.heap.objs.size (.lst [])) { s2 with heap:=s2.heap.push { cls:=.type "list",data:=.seq ([]:List Value).toArray },toks:=s2.toks }:=I2.lnew (ys:=[]) (its:=[]) .nil (Nat.zero_le _)
 have hD:H2 s2.heap.objs.size=none:=I2.fresh
 have ltf:∀ b∈fp,b < s2.heap.objs.size:=fun b hb=>by
  obtain ⟨o,ho,_⟩:=T.obj _ _ st2 b hb
  exact Heap.lt_size ho
 have f3:∀ b∈fp,dR (aM (CX1 P w) P w K mg base N qual scope f cd A outer s₀ H₀ E) pins (upd H2 s2.heap.objs.size (.lst [])) b:=fun b hb=>⟨by rw [cD (Nat.ne_of_lt (ltf b hb))]; exact (f2 b hb).1,(f2 b hb).2⟩
 have un:Un (frs (aM (CX1 P w) P w K mg base N qual scope f cd A outer s₀ H₀ E).stack) fp H2 (upd H2 s2.heap.objs.size (.lst [])) s2.heap (s2.heap.push { cls:=.type "list",data:=.seq ([]:List Value).toArray }):=Un.laid (fun b u q=>Heap.get?_push_of_some _ q) (Nat.le_refl _) hD
 have kp:∀ b o,(s2.heap.push { cls:=.type "list",data:=.seq ([]:List Value).toArray }).get? b=some o→h4.get? b=some o:=fun b o q=>hsb.extBut b o (Nat.ne_of_lt (Heap.lt_size q)) (Heap.get?_push_of_some _ q)
 have J0:=I3.cmp (t':=s2.toks+([]:List (Str × Value)).length) k f3 (fun b hb=>Nat.lt_of_lt_of_le (ltf b hb) (by rw [Heap.size_push]; exact Nat.le_succ _)) hns kp
 have stat:∀ {H':Hp},(∀ b∈fp,H' b=none)→∀ b∈fp,dR (cC (aM (CX1 P w) P w K mg base N qual scope f cd A outer s₀ H₀ E) sc (bF own cap) (s2.heap.push { cls:=.type "list",data:=.seq ([]:List Value).toArray }).objs.size { s2 with heap:=s2.heap.push { cls:=.type "list",data:=.seq ([]:List Value).toArray },toks:=s2.toks } (upd H2 s2.heap.objs.size (.lst [])) fp) [] H' b:=fun hn b hb =>
  ⟨hn b hb,(J0.ok.exf b hb).1,J0.ok.exfs b hb,.inl hb,(J0.ok.exf b hb).2,fun p hp=>absurd (show p∈([]:List (Addr × Obj)) from hp) (by simp)⟩
 have st4:tn 0 h4:=T.keep _ _ _ st2 fun b hb o q=>kp b o (Heap.get?_push_of_some _ q)
 have fr0:∀ b∈fp,(upd H2 s2.heap.objs.size (.lst [])) b=none:=fun b hb=>(f3 b hb).1
 have hCf:(s2.heap.push { cls:=.type "list",data:=.seq ([]:List Value).toArray }).objs.size ∉ frs (aM (CX1 P w) P w K mg base N qual scope f cd A outer s₀ H₀ E).stack:=fun hb=>by
  obtain ⟨_,o,ho,hd⟩:=I3.stack.mem hb
  exact Nat.lt_irrefl _ (Heap.lt_size ho)
 have hC0:∀ o,s₀.heap.get? (s2.heap.push { cls:=.type "list",data:=.seq ([]:List Value).toArray }).objs.size≠some o:=fun o ho=>by
  obtain ⟨m,⟨oL,_,_,hoL,_⟩,_⟩:=id I3.loc
  exact Nat.lt_irrefl _ (Nat.lt_trans (Nat.lt_of_lt_of_le (Heap.lt_size ho) I3.ok.above) (Heap.lt_size hoL))
 have loop:codeAny (model (aM (CX1 P w) P w K mg base N qual scope f cd A outer s₀ H₀ E).prog (aM (CX1 P w) P w K mg base N qual scope f cd A outer s₀ H₀ E).w) (aM (CX1 P w) P w K mg base N qual scope f cd A outer s₀ H₀ E).A (.compLoop (.ListComp elt [⟨target,iter,[],0⟩] sc pos) 0 (.ref it) (.ref s2.heap.objs.size) (compEnvC sc (gF (aM (CX1 P w) P w K mg base N qual scope f cd A outer s₀ H₀ E).env sc.names []) (s2.heap.push { cls:=.type "list",data:=.seq ([]:List Value).toArray }).objs.size (aM (CX1 P w) P w K mg base N qual scope f cd A outer s₀ H₀ E).env))
   (abI u (model (aM (CX1 P w) P w K mg base N qual scope f cd A outer s₀ H₀ E).prog (aM (CX1 P w) P w K mg base N qual scope f cd A outer s₀ H₀ E).w) (aM (CX1 P w) P w K mg base N qual scope f cd A outer s₀ H₀ E).A (aM (CX1 P w) P w K mg base N qual scope f cd A outer s₀ H₀ E).xe Qf (.ref s2.heap.objs.size) (compEnvC sc (gF (aM (CX1 P w) P w K mg base N qual scope f cd A outer s₀ H₀ E).env sc.names []) (s2.heap.push { cls:=.type "list",data:=.seq ([]:List Value).toArray }).objs.size (aM (CX1 P w) P w K mg base N qual scope f cd A outer s₀ H₀ E).env)) { s2 with heap:=h4,toks:=s2.toks+([]:List (Str × Value)).length }:=by
  obtain ⟨W,⟨m0,w0⟩,turn⟩:=hW s2.heap.objs.size hD
  refine ad7 (fun n s'=>∃ i σ' H' ys,Inv (cC (aM (CX1 P w) P w K mg base N qual scope f cd A outer s₀ H₀ E) sc (bF own cap) (s2.heap.push { cls:=.type "list",data:=.seq ([]:List Value).toArray }).objs.size { s2 with heap:=s2.heap.push { cls:=.type "list",data:=.seq ([]:List Value).toArray },toks:=s2.toks } (upd H2 s2.heap.objs.size (.lst [])) fp) [] σ' H' s'∧tn i s'.heap∧(∀ b∈fp,H' b=none)∧W i n σ' H' ys) ?_ m0
   ⟨0,_,_,[],J0,st4,fr0,w0⟩
  rintro n s5 ⟨i,σ5,H5,ys,I5,st5,fr5,w5⟩
  obtain ⟨hD5,w5⟩:=turn i n σ5 H5 ys w5
  rcases w5 with ⟨stop,qn⟩ | ⟨go,hlt,step⟩
  ·refine thn (T.done (cC (aM (CX1 P w) P w K mg base N qual scope f cd A outer s₀ H₀ E) sc (bF own cap) (s2.heap.push { cls:=.type "list",data:=.seq ([]:List Value).toArray }).objs.size { s2 with heap:=s2.heap.push { cls:=.type "list",data:=.seq ([]:List Value).toArray },toks:=s2.toks } (upd H2 s2.heap.objs.size (.lst [])) fp) rfl rfl rfl hc i [] s5 σ5 H5 _ I5 (stat fr5) st5 stop) fun r s6 ⟨hr,I6⟩=>?_
   subst hr
   obtain ⟨m,hn,_⟩:=id I6.loc
   exact fin _ _ s6 H5 m (I2.uncmp (s3:={ s2 with heap:=s2.heap.push { cls:=.type "list",data:=.seq ([]:List Value).toArray },toks:=s2.toks }) f2 un rfl I6) (I3.fpOk (Nat.le_refl _) I6.free) hn qn
  ·refine thn (T.item (cC (aM (CX1 P w) P w K mg base N qual scope f cd A outer s₀ H₀ E) sc (bF own cap) (s2.heap.push { cls:=.type "list",data:=.seq ([]:List Value).toArray }).objs.size { s2 with heap:=s2.heap.push { cls:=.type "list",data:=.seq ([]:List Value).toArray },toks:=s2.toks } (upd H2 s2.heap.objs.size (.lst [])) fp) rfl rfl rfl hc i [] s5 σ5 H5 _ I5 (stat fr5) st5 go) fun r s6 ⟨u,hr,h6⟩=>?_
   subst hr
   refine thn h6 fun _ s7 ⟨x,H7,I7,r7,y7,st7,fr7⟩=>?_
   have I7':=I7.pinned (stat fr7) (T.obj _ _ st7)
   refine thn (hg _ _ _ _ _ s7 σ5 H7 x u _ I7' r7 (step x H7 y7)) fun _ s8 ⟨σ8,H8,I8,q8⟩=>?_
   refine thn (he _ _ _ _ _ (ait (Qf:=Qf) (acc:=.ref s2.heap.objs.size) (s3:={ s2 with heap:=s2.heap.push { cls:=.type "list",data:=.seq ([]:List Value).toArray },toks:=s2.toks }) I2 f2 un rfl (fun H hH=>I3.fpOk (Nat.le_refl _) hH) hCf hC0) _ s8 σ8 H8 _ (I8.wish _) q8) fun v9 s9 ⟨y,H9,I9,r9,hD9,m',hm,w9⟩=>?_
   have I9:=I9.unwish
   refine thn (sX _ s9 σ8 H9 (.ref s2.heap.objs.size) [y] (.ref s2.heap.objs.size) [v9] (fun _ H'=>H'=upd H9 s2.heap.objs.size (.lst (ys++[y]))) I9 rfl (.cons r9 .nil) ⟨_,ys,y,rfl,rfl,hD9,hlt,rfl⟩) fun _ s10 ⟨_,H10,I10,_,q10⟩=>?_
   subst q10
   refine ⟨m',hm,i+1,σ8,_,_,I10.unpinned,T.keep _ _ _ st7 fun b hb o q=>(I10.pin (b,o) (List.mem_append_right _ (List.mem_append_right _ (kI hb q)))).1,fun b hb=>?_,w9⟩
   obtain ⟨o,q,d⟩:=T.obj _ _ st7 b hb
   exact (I10.pin (b,o) (List.mem_append_right _ (List.mem_append_right _ (kI hb q)))).2.1
 exact codeAny_compStart_list loop (T.self _ 0 _ _ _ st4 loop)
theorem ae6 {i:Nat} {x:Str} {py spos:Pos} (hN:N.Nodup) (hx:N[i]?=some x) (hl:Loc (aM (CX1 P w) P w K mg base N qual scope f cd A outer s₀ H₀ E).env.scope x) (k:gB (aM (CX1 P w) P w K mg base N qual scope f cd A outer s₀ H₀ E) sc own cap) (hi:PI (aM (CX1 P w) P w K mg base N qual scope f cd A outer s₀ H₀ E) target iter wi) (hc:(aM (CX1 P w) P w K mg base N qual scope f cd A outer s₀ H₀ E).calm=true)
  (hg:∀ C s₁ H₁ ex,PG (cC (aM (CX1 P w) P w K mg base N qual scope f cd A outer s₀ H₀ E) sc (bF own cap) C s₁ H₁ ex) target g) (he:∀ C s₁ H₁ ex E',hU (CX1 P w) ((cC (aM (CX1 P w) P w K mg base N qual scope f cd A outer s₀ H₀ E) sc (bF own cap) C s₁ H₁ ex).wish E') E→PE ((cC (aM (CX1 P w) P w K mg base N qual scope f cd A outer s₀ H₀ E) sc (bF own cap) C s₁ H₁ ex).wish E') elt te)
  (hs:∀ x,foldedSetIterable iter (aM (CX1 P w) P w K mg base N qual scope f cd A outer s₀ H₀ E).env x=pure x:=by intro _; rfl) (hsw:swapsWith (.ListComp elt [⟨target,iter,[],0⟩] sc pos) (some (.Name x py)) spos.line (aM (CX1 P w) P w K mg base N qual scope f cd A outer s₀ H₀ E).env=pure true:=by rfl)
  (hf:(aM (CX1 P w) P w K mg base N qual scope f cd A outer s₀ H₀ E).fn x=true∨(aM (CX1 P w) P w K mg base N qual scope f cd A outer s₀ H₀ E).env.scope.names.lookup x=some .local:=by first | exact .inl rfl | exact .inr rfl | assumption) :
  PS (aM (CX1 P w) P w K mg base N qual scope f cd A outer s₀ H₀ E) (.Assign [.Name x py] (.ListComp elt [⟨target,iter,[],0⟩] sc pos) spos) (vP (mE own cap wi g te) (vC i)):=by
 intro pins s σ H D I h
 rw [exec_Assign_Name_used _ _ _ _ hsw]
 refine wpAny_bind (wpAny_standAt (wpAny_bind ?_))
 show wpAny _ (aM (CX1 P w) P w K mg base N qual scope f cd A outer s₀ H₀ E).A (comprehension (.ListComp elt [⟨target,iter,[],0⟩] sc pos) sc (aM (CX1 P w) P w K mg base N qual scope f cd A outer s₀ H₀ E).env _ (newList []) false (eval iter (aM (CX1 P w) P w K mg base N qual scope f cd A outer s₀ H₀ E).env) (some (assign (.Name x py) (aM (CX1 P w) P w K mg base N qual scope f cd A outer s₀ H₀ E).env)) >>= fun _=>pure ()) _ _ s
 refine wpAny_bind (thn (acA (u:=assign (.Name x py) (aM (CX1 P w) P w K mg base N qual scope f cd A outer s₀ H₀ E).env) (Qf:=fun _ s'=>SP (aM (CX1 P w) P w K mg base N qual scope f cd A outer s₀ H₀ E) pins D .next s') k hi hc hg he I h (fun B C s' H' m I' fC hn q=>?_) hs) fun _ s' hq=>wpAny_pure (wpAny_pure hq))
 show wpAny _ _ (assign (.Name x py) (aM (CX1 P w) P w K mg base N qual scope f cd A outer s₀ H₀ E).env (.ref B)) _ _ s'
 obtain ⟨o,es,ep,ho,hd,r⟩:=hn
 obtain ⟨f0,f1,f2,f3,f4,f5⟩:=fC
 have I'':Inv (aM (CX1 P w) P w K mg base N qual scope f cd A outer s₀ H₀ E) (pins++[(C,o)]) σ H' s':=I'.pins_of fun p hp=>(List.mem_append.mp hp).elim (fun z=>I'.pin p (List.mem_append_right _ z)) fun z=>by
  have e:p=(C,o):=by simpa using z
  subst e
  exact ⟨ho,f0,f1,f2,fun v z=>by rw [hd] at z; cases z⟩
 refine wpAny_assign_Name (lP I'' hN hx hl (v:=.ref B) rfl (fun s2 I2=>?_) hf)
 have pC:=I2.pin (C,o) (by simp)
 refine ⟨m,⟨o,es,ep,pC.1,hd,r⟩,fun h' sb=>⟨_,H',?_,q⟩⟩
 exact (I2.unpinned).turned (t':=s2.toks) (fun b o hb e=>(sb.2 b hb).trans e) f0 f1 f3 f4 f5
end
end L2
namespace L2.Pp
open PySem PySem.Spec PyProof.Rows Bn
section
variable {P:Program} {w:World} {K:PySem.W.Frag} {mg:Str→Option Value} {base:Heap} {N:List Str} {qual:Str} {scope:Scope} {f:Addr} {cd:Value} {A:Around} {outer:List Env} {s₀:Shared} {H₀:Hp} {E:XK} {cl:Str→Addr}
variable {sc:Scope} {own:List Str} {cap:List (Nat × Str)} {elt target iter:Expr} {pos:Pos} {mi:MI} {g:GM} {me:ME}
theorem ae1 {i:Nat} {x:Str} {py spos:Pos} (hN:N.Nodup) (hx:N[i]?=some x) (hl:Loc (aM (CX1 P w) P w K mg base N qual scope f cd A outer s₀ H₀ E).env.scope x) (k:gB (aM (CX1 P w) P w K mg base N qual scope f cd A outer s₀ H₀ E) sc own cap) (hi:PIp K cl E (aM (CX1 P w) P w K mg base N qual scope f cd A outer s₀ H₀ E) target iter mi) (hc:(aM (CX1 P w) P w K mg base N qual scope f cd A outer s₀ H₀ E).calm=true) (hg:∀ C s₁ H₁ ex,PGp K (cC (aM (CX1 P w) P w K mg base N qual scope f cd A outer s₀ H₀ E) sc (bF own cap) C s₁ H₁ ex) target g) (he:∀ C s₁ H₁ ex E',hU (CX1 P w) ((cC (aM (CX1 P w) P w K mg base N qual scope f cd A outer s₀ H₀ E) sc (bF own cap) C s₁ H₁ ex).wish E') E→PEp K cl E ((cC (aM (CX1 P w) P w K mg base N qual scope f cd A outer s₀ H₀ E) sc (bF own cap) C s₁ H₁ ex).wish E') elt me)
  (hs:∀ x,foldedSetIterable iter (aM (CX1 P w) P w K mg base N qual scope f cd A outer s₀ H₀ E).env x=pure x:=by intro _; rfl) (hsw:swapsWith (.ListComp elt [⟨target,iter,[],0⟩] sc pos) (some (.Name x py)) spos.line (aM (CX1 P w) P w K mg base N qual scope f cd A outer s₀ H₀ E).env=pure true:=by rfl)
  (hf:(aM (CX1 P w) P w K mg base N qual scope f cd A outer s₀ H₀ E).fn x=true∨(aM (CX1 P w) P w K mg base N qual scope f cd A outer s₀ H₀ E).env.scope.names.lookup x=some .local:=by first | exact .inl rfl | exact .inr rfl | assumption) :
  PSp K cl E (aM (CX1 P w) P w K mg base N qual scope f cd A outer s₀ H₀ E) (.Assign [.Name x py] (.ListComp elt [⟨target,iter,[],0⟩] sc pos) spos) (bA i (dZ own cap mi g me)):=by
 intro hK
 refine PS.imp (ae6 hN hx hl k (hi hK) hc (fun C s₁ H₁ ex=>hg C s₁ H₁ ex hK) (fun C s₁ H₁ ex E' ps=>he C s₁ H₁ ex E' ps hK) hs hsw hf) fun D σ H ⟨p,S,ρ,s,ev,h⟩=>?_
 have h2:tP K cl E (bU K) (dZ own cap mi g me) σ H fun y H1=>D.nx (σ.set i (some y)) H1:=by
  refine ⟨p,S,ρ,s,ev,?_⟩
  unfold bA at h
  cases z:dZ own cap mi g me ρ S with
  | ok v S1 =>
   rw [z] at h
   exact fun q H' y st sm r=>h q H' _ st sm ((st.repE ev).set r i)
  | exc n S1=>rw [z] at h; exact h
  | fail=>rw [z] at h; exact h
 obtain ⟨p,S,ρ,s,ev,h⟩:=h2
 exact bO s ev h fun q H' xs J S' stp sm ev it kk D hD=>abl sm ev it kk hD
end
end L2.Pp
namespace L2.Pp
open PySem PySem.Spec PyProof.Rows Bn
section
variable {K:PySem.W.Frag}
def qY:List PV→Option PV
 | [.int i,.int j]=>some (.int (if j < i then j else i))
 | _=>none
theorem aiS:CaR K (fun xs H Q=>∃ i j,xs=[.int i,.int j]∧Q (.int (if j < i then j else i)) H) qY:=fun {p S H as c xs Q} s ra e k=>by
 unfold qY at e
 split at e
 ·rename_i i j
  cases e
  cases ra with
  | cons h1 t =>
   cases t with
   | cons h2 t =>
    cases t
    exact ⟨i,j,by rw [h1.int,h2.int],k H _ (bZ.refl H) (fK (v:=.int _) rfl)⟩
 ·cases e
end
end L2.Pp
namespace L2.Pp
open PySem
theorem fL:bootBuiltins "len"=some (.builtin "len"):=by decide +kernel
theorem oH:bootBuiltins "abs"=some (.builtin "abs"):=by decide +kernel
theorem oN:bootBuiltins "all"=some (.builtin "all"):=by decide +kernel
theorem agb:bootBuiltins "sum"=some (.builtin "sum"):=by decide +kernel
theorem aiE:bootBuiltins "min"=some (.builtin "min"):=by decide +kernel
theorem acg:bootBuiltins "sorted"=some (.builtin "sorted"):=by decide +kernel
theorem agh:bootBuiltins "int"=some (.type "int"):=by decide +kernel
theorem ahg:bootBuiltins "bool"=some (.type "bool"):=by decide +kernel
theorem tL:bootBuiltins "list"=some (.type "list"):=by decide +kernel
theorem iG:bootBuiltins "tuple"=some (.type "tuple"):=by decide +kernel
end L2.Pp
set_option Elab.async false
set_option maxRecDepth 100000
set_option maxHeartbeats 4000000
namespace Sc
noncomputable section
open PySem L2 Bn L2.Pp
abbrev zK:Stmt:=top 8
abbrev xM:Stmt:=top 9
abbrev sP:Stmt:=top 10
abbrev nG:Stmt:=top 11
abbrev lS:Stmt:=top 13
abbrev sL:Stmt:=top 14
abbrev sK:Stmt:=top 15
abbrev rT:Stmt:=top 16
abbrev uR:Stmt:=top 17
abbrev xY:Stmt:=top 18
abbrev rV:Stmt:=top 19
abbrev zS:Stmt:=top 20
abbrev xO:Stmt:=top 22
abbrev wG:Stmt:=top 27
abbrev wB:Stmt:=top 28
abbrev rR:Stmt:=top 29
abbrev rO:Stmt:=top 30
abbrev wN:Stmt:=top 31
abbrev rY:Stmt:=top 32
abbrev wA:Stmt:=top 33
abbrev rZ:Stmt:=top 34
abbrev wJ:Stmt:=top 35
abbrev sA:Stmt:=top 36
abbrev pM:Stmt:=top 37
abbrev wP:Stmt:=top 38
abbrev nC:Stmt:=top 39
abbrev zX:Stmt:=top 41
abbrev zC:Stmt:=top 42
abbrev zO:Stmt:=top 43
abbrev sZ:Stmt:=top 44
abbrev yB:Stmt:=top 45
abbrev sO:Stmt:=top 46
abbrev yN:Stmt:=top 47
abbrev uE:Stmt:=top 48
abbrev xZ:Stmt:=top 49
abbrev uG:Stmt:=top 50
abbrev yJ:Stmt:=top 51
abbrev uF:Stmt:=top 52
abbrev xB:Stmt:=top 53
abbrev wH:Stmt:=top 54
abbrev rN:Stmt:=top 55
abbrev sB:Stmt:=top 56
abbrev xH:Stmt:=top 57
abbrev wS:Stmt:=top 58
abbrev rX:Stmt:=top 59
abbrev rP:Stmt:=top 60
abbrev sC:Stmt:=top 61
abbrev rQ:Stmt:=top 62
abbrev rS:Stmt:=top 63
abbrev yY:Stmt:=top 64
abbrev jZ:Stmt:=top 65
def zL:MS:=(aS (sIf (bG (aC fGt (aA 0) (mC (.int 0)))) (bE (mC (.int 1))) cA)
 (aS (sIf (bG (aC fLt (aA 0) (mC (.int 0)))) (bE (mUn cV (mC (.int 1)))) cA)
 (bE (mC (.int 0)))))
def jC:FM:=fnM 1 1 zL
def xJ:MS:=(aS (mD (bG (aC fNe (aA 1) (mC (.int 0)))) (aS (bA 2 (aC eO (aA 0) (aA 1)))
 (aS (bA 0 (aA 1))
 (bA 1 (aA 2)))))
 (bE (mR aN (aB (aA 0) aE))))
def kL:FM:=fnM 2 3 xJ
def xK:MS:=(aS (bA 1 (mC (.int 0)))
 (aS (dJ (mIt (aA 0)) (gN 2) (bA 1 (aY kL [] (aB (aA 1) (aB (aA 2) aE)))))
 (bE (bJ ["number"] [(1,"common")] (mIt (aA 0)) (gN 0) (aC fM (aA 0) (aA 1))))))
def pW:FM:=fnM 1 3 xK
def lN:MS:=(aS (sIf (bG (aC fEq (aA 1) (mC (.int 0)))) (kU "NoNumber") cA)
 (aS (bA 2 (aC bD (aY jC [] (aB (aA 1) aE)) (aY kL [] (aB (aA 0) (aB (aA 1) aE)))))
 (bE (mN eW (aB (aC fM (aA 0) (aA 2)) (aB (aC fM (aA 1) (aA 2)) aE))))))
def gS:FM:=fnM 2 3 lN
def qF:MS:=(aS (sIf (bG (aC fEq (aA 1) (mC (.int 0)))) (kU "NoPoint") cA)
 (bE (mR aJ (aB (bJ ["number"] [(1,"bottom")] (mIt (aY pW [] (aB (aC aG (mR aK (aB (aA 0) aE)) (mN eE (aB (aA 1) aE))) aE))) (gN 0) (aC bD (aY jC [] (aB (aA 1) aE)) (aA 0))) aE))))
def lV:FM:=fnM 2 2 qF
def xC:MS:=(bE (mR aJ (aB (bJ ["number"] [(0,"p")] (mIt (mSl (aA 0) mO0 (mO1 (mUn cV (mC (.int 1)))))) (gN 0) (bW gS [] (aB (aA 0) (aB (aC fIx (aA 1) (mUn cV (mC (.int 1)))) aE)))) aE)))
def pU:FM:=fnM 1 1 xC
def sJ:MS:=(aS (bA 1 (mC (.int 1)))
 (aS (dJ (mIt (aA 0)) (gN 2) (bA 1 (aC bD (aA 1) (aC fIx (aA 2) (mC (.int 1))))))
 (bE (bW lV [] (aB (bJ ["part"] [(1,"bottom")] (mIt (aA 0)) (gN 0) (aC bD (aC fIx (aA 0) (mC (.int 0))) (aC fM (aA 1) (aC fIx (aA 0) (mC (.int 1)))))) (aB (aA 1) aE))))))
def jL:FM:=fnM 1 3 sJ
def wK:MS:=(bE (bJ ["near","far"] [(0,"start"),(1,"end")] (mJ (aB (mSl (aA 0) mO0 (mO1 (mUn cV (mC (.int 1))))) (aB (mSl (aA 1) mO0 (mO1 (mUn cV (mC (.int 1))))) aE))) (gT 2 (dM (gN 0) (dM (gN 1) fN))) (aC dF (aC bD (aA 1) (aC fIx (aA 2) (mUn cV (mC (.int 1))))) (aC bD (aA 0) (aC fIx (aA 3) (mUn cV (mC (.int 1))))))))
def lK:FM:=fnM 2 2 wK
def ahN:MS:=(bE (mR pL (aB (bJ ["one","other"] [] (mJ (aB (aA 0) (aB (aA 1) aE))) (gT 2 (dM (gN 0) (dM (gN 1) fN))) (aC bD (aA 0) (aA 1))) aE)))
def rA:FM:=fnM 2 2 ahN
def tD:MS:=(aS (bA 1 (aC fIx (aA 0) (mC (.int 0))))
 (aS (sIf (bG (aC fEq (mR cP (aB (aA 0) aE)) (mC (.int 1)))) (bE (mN eE (aB (mUn cV (aC fIx (aA 1) (mC (.int 1)))) (aB (aC fIx (aA 1) (mC (.int 0))) aE)))) cA)
 (aS (bA 2 (aC fIx (aA 0) (mC (.int 1))))
 (bE (mN eE (aB (aC dF (aC bD (aC fIx (aA 1) (mC (.int 1))) (aC fIx (aA 2) (mC (.int 2)))) (aC bD (aC fIx (aA 1) (mC (.int 2))) (aC fIx (aA 2) (mC (.int 1))))) (aB (aC dF (aC bD (aC fIx (aA 1) (mC (.int 2))) (aC fIx (aA 2) (mC (.int 0)))) (aC bD (aC fIx (aA 1) (mC (.int 0))) (aC fIx (aA 2) (mC (.int 2))))) (aB (aC dF (aC bD (aC fIx (aA 1) (mC (.int 0))) (aC fIx (aA 2) (mC (.int 1)))) (aC bD (aC fIx (aA 1) (mC (.int 1))) (aC fIx (aA 2) (mC (.int 0))))) aE))))))))
def lR:FM:=fnM 1 3 tD
def rW:MS:=(aS (bA 1 (bJ ["p"] [(0,"points")] (mIt (mSl (aA 0) (mO1 (mC (.int 1))) mO0)) (gN 0) (aY lK [] (aB (aC fIx (aA 1) (mC (.int 0))) (aB (aA 0) aE)))))
 (bE (aY rA [] (aB (aY lR [] (aB (mSl (aA 1) mO0 (mO1 (mUn cV (mC (.int 1))))) aE)) (aB (aC fIx (aA 1) (mUn cV (mC (.int 1)))) aE)))))
def lL:FM:=fnM 1 2 rW
def uD:MS:=(bE (aY jC [] (aB (aY lL [] (aB (aA 0) aE)) aE)))
def kW:FM:=fnM 1 1 uD
def nK:MS:=(aS (bA 1 (mR qC (aB (aA 0) aE)))
 (aS (bA 2 (aY kW [] (aB (aA 1) aE)))
 (aS (sIf (bG (aC fEq (aA 2) (mC (.int 0)))) (kU "Flat") cA)
 (aS (sIf (bG (aC fLt (aA 2) (mC (.int 0)))) (bA 1 (aC aG (mSl (aA 1) mO0 (mO1 (mUn cV (mC (.int 2))))) (mN eE (aB (aC fIx (aA 1) (mUn cV (mC (.int 1)))) (aB (aC fIx (aA 1) (mUn cV (mC (.int 2)))) aE))))) cA)
 (bE (mR aJ (aB (aA 1) aE)))))))
def iY:FM:=fnM 1 3 nK
def mQ:MS:=(aS (sIf (bG (aC fGe (mR aN (aB (aA 0) aE)) (aC eD (mC (.int 10)) (mC (.int 60))))) (kU "TooGreat") cA)
 (bE (mR jF (aB (mR aN (aB (aA 0) aE)) aE))))
def lI:FM:=fnM 1 1 mQ
def kE:MS:=(aS (bA 1 (bW lI [] (aB (aC fIx (aA 0) (mC (.int 0))) aE)))
 (aS (sIf (bG (aC fLt (aC fIx (aA 0) (mC (.int 0))) (mC (.int 0)))) (bA 1 (aC iO (mC (.str "-")) (aA 1))) cA)
 (aS (sIf (bG (aC fEq (aC fIx (aA 0) (mC (.int 1))) (mC (.int 1)))) (bE (aA 1)) cA)
 (bE (aC iO (aC iO (aA 1) (mC (.str "/"))) (bW lI [] (aB (aC fIx (aA 0) (mC (.int 1))) aE)))))))
def gH:FM:=fnM 1 2 kE
def mU:MS:=(bE (fZ (mC (.str " ")) (aB (dZ ["number"] [] (mIt (aY pU [] (aB (aA 0) aE))) (gN 0) (bW gH [] (aB (aA 0) aE))) aE)))
def gI:FM:=fnM 1 1 mU
def mO:MS:=(bE (fZ (mC (.str ", ")) (aB (dZ ["p"] [] (mIt (aA 0)) (gN 0) (bW gI [] (aB (aA 0) aE))) aE)))
def gY:FM:=fnM 1 1 mO
def sF:MS:=(bE (mIf (vF (aA 0)) (fZ (mC (.str " + ")) (aB (aA 0) aE)) (mC (.str "none"))))
def mW:FM:=fnM 1 1 sF
def nA:MS:=(bE (aY mW [] (aB (dZ ["piece"] [] (mIt (aA 0)) (gN 0) (bW gY [] (aB (aA 0) aE))) aE)))
def jJ:FM:=fnM 1 1 nA
def gG:MS:=(sIf (jH (bG (aA 0))) (kU "NoText") cA)
def eR:FM:=fnM 1 1 gG
def mY:MS:=(aS (dW (bW eR [] (aB (jW (lY fLe fLe (mC (.int 1)) (mR lB (aB (aA 0) aE)) (mC (.int 60))) (mR fV (aB (bJ ["sign"] [] (rM (aA 0)) (gN 0) (aC mK (aA 0) (mC (.str "0123456789")))) aE))) aE)))
 (bE (mR rD (aB (aA 0) aE))))
def fA:FM:=fnM 1 1 mY
def iE:MS:=(aS (bA 1 (eF fG (aA 0) (aB (mC (.str "/")) aE)))
 (aS (dW (bW eR [] (aB (aC fLe (mR cP (aB (aA 1) aE)) (mC (.int 2))) aE)))
 (aS (bA 2 (eF jB (aC fIx (aA 1) (mC (.int 0))) (aB (mC (.str "-")) aE)))
 (aS (bA 3 (bW fA [] (aB (mIf (bG (aA 2)) (lC (aC fIx (aA 1) (mC (.int 0))) (mO1 (mC (.int 1))) mO0) (aC fIx (aA 1) (mC (.int 0)))) aE)))
 (aS (bA 4 (mIf (bG (aC fEq (mR cP (aB (aA 1) aE)) (mC (.int 2)))) (bW fA [] (aB (aC fIx (aA 1) (mC (.int 1))) aE)) (mC (.int 1))))
 (aS (dW (bW eR [] (aB (aC fNe (aA 4) (mC (.int 0))) aE)))
 (bE (bW gS [] (aB (mIf (bG (aA 2)) (mUn cV (aA 3)) (aA 3)) (aB (aA 4) aE))))))))))
def dO:FM:=fnM 1 5 iE
def pO:MS:=(aS (bA 1 (dZ ["text"] [] (mIt (eF fG (aA 0) (aB (mC (.str " ")) aE))) (gN 0) (bW dO [] (aB (aA 0) aE))))
 (aS (dW (bW eR [] (aB (aka (aC fEq (mR cP (aB (aA 1) aE)) (mC (.int 2))) (aC fEq (mR cP (aB (aA 1) aE)) (mC (.int 3)))) aE)))
 (bE (aY jL [] (aB (aA 1) aE)))))
def iT:FM:=fnM 1 2 pO
def pN:MS:=(aS (bA 1 (dZ ["part"] [] (mIt (eF fG (aA 0) (aB (mC (.str ", ")) aE))) (gN 0) (bW iT [] (aB (aA 0) aE))))
 (aS (dW (bW eR [] (aB (mR fV (aB (bJ ["p"] [(1,"corners")] (mIt (aA 1)) (gN 0) (aC fEq (mR cP (aB (aA 0) aE)) (mR cP (aB (aA 1) aE)))) aE)) aE)))
 (bE (aA 1))))
def kF:FM:=fnM 1 2 pN
def sH:MS:=(bE (mIf (bG (aC fEq (aA 0) (mC (.str "none")))) (mN eE aE) (eF fG (aA 0) (aB (mC (.str " + ")) aE))))
def nF:FM:=fnM 1 1 sH
def pQ:MS:=(aS (bA 1 (dZ ["text"] [] (mIt (aY nF [] (aB (aA 0) aE))) (gN 0) (bW kF [] (aB (aA 0) aE))))
 (aS (dW (bW eR [] (aB (mR fV (aB (bJ ["corners"] [(1,"rows")] (mIt (aA 1)) (gN 0) (aC fEq (mR cP (aB (aA 0) aE)) (mR cP (aB (aC fIx (aA 1) (mC (.int 0))) aE)))) aE)) aE)))
 (bE (mR aJ (aB (dZ ["corners"] [] (mIt (aA 1)) (gN 0) (bW iY [] (aB (aA 0) aE))) aE)))))
def nE:FM:=fnM 1 2 pQ
def zE:MS:=(aS (bA 1 (fO aE))
 (aS (dJ (ag5 (aB (mSl (aA 0) mO0 (mO1 (mC (.int 63)))) aE)) (gT 2 (dM (gN 2) (dM (gN 3) fN))) (sIf (bG (aC fGe (aA 3) (aC eD (mC (.int 10)) (mC (.int 18))))) (dW (eZ (aA 1) (aB (aC dF (aA 3) (aC eD (mC (.int 10)) (mC (.int 18)))) aE))) (aS (bA 4 (aC eO (aC bD (aC aG (aC aG (aC aG (aA 3) (aC bD (aC bD (mC (.int 7)) (aA 2)) (aA 2))) (aC bD (mC (.int 13)) (aA 2))) (mC (.int 5))) (mC (.int 48271))) (mC (.int 2147483647))))
 (aS (bA 5 (aC eO (aC bD (aC aG (aC aG (aC aG (aA 3) (aC bD (aC bD (mC (.int 11)) (aA 2)) (aA 2))) (aC bD (mC (.int 17)) (aA 2))) (mC (.int 3))) (mC (.int 40692))) (mC (.int 2147483399))))
 (aS (bA 6 (aC eO (aC bD (aC aG (aC aG (aC aG (aA 3) (aC bD (aC bD (mC (.int 5)) (aA 2)) (aA 2))) (aC bD (mC (.int 29)) (aA 2))) (mC (.int 8))) (mC (.int 39373))) (mC (.int 2147483587))))
 (aS (bA 4 (aC eO (aC bD (aA 4) (mC (.int 52021))) (mC (.int 1000000007))))
 (aS (bA 5 (aC eO (aC bD (aA 5) (mC (.int 30011))) (mC (.int 998244353))))
 (aS (bA 6 (aC eO (aC bD (aA 6) (mC (.int 45989))) (mC (.int 1000000009))))
 (dW (eZ (aA 1) (aB (aC aG (aC bD (aC aG (aC bD (aA 4) (mC (.int 998244353))) (aA 5)) (mC (.int 1000000009))) (aA 6)) aE)))))))))))
 (bE (aA 1))))
def oJ:FM:=fnM 1 7 zE
def tO:MS:=(aS (mD (mM (bG (aC fGt (mR cP (aB (aA 0) aE)) (mC (.int 0)))) (bG (aC fEq (aC fIx (aA 0) (mC (.int 0))) (mC (.int 0))))) (dW (vK (aA 0) (aB (mC (.int 0)) aE))))
 (aS (sIf (bG (aC fEq (mR cP (aB (aA 0) aE)) (mC (.int 0)))) (bE (mC (.int 0))) cA)
 (aS (bA 2 (aC eO (aC fIx (aA 0) (mC (.int 0))) (aA 1)))
 (aS (zJ (aA 0) (mC (.int 0)) (aC fM (aC fIx (aA 0) (mC (.int 0))) (aA 1)))
 (bE (aA 2))))))
def cG:FM:=fnM 2 3 tO
def zV:MS:=(aS (bA 0 (mR aN (aB (aA 0) aE)))
 (aS (bA 1 (mR aN (aB (aA 1) aE)))
 (aS (mD (bG (aC fGt (aA 1) (mC (.int 0)))) (vG 0 1 (aB (aA 1) (aB (aC eO (aA 0) (aA 1)) aE))))
 (bE (aA 0)))))
def oD:FM:=fnM 2 2 zV
def sU:MS:=(aS (bA 1 (mC (.int 0)))
 (aS (dJ (mIt (aA 0)) (gN 2) (bA 1 (aY oD [] (aB (aA 1) (aB (aA 2) aE)))))
 (aS (sIf (bG (aC fEq (aA 1) (mC (.int 0)))) (bE (mR aJ (aB (aA 0) aE))) cA)
 (bE (mR aJ (aB (bJ ["_law_number"] [(1,"_law_by")] (mIt (aA 0)) (gN 0) (aC fM (aA 0) (aA 1))) aE))))))
def fE:FM:=fnM 1 3 sU
def yC:MS:=(bE (jW (mUn (eY "int") (aA 0)) (mUn rG (mUn (eY "bool") (aA 0)))))
def nQ:FM:=fnM 1 1 yC
def xI:MS:=(aS (sIf (mOr (jH (bG (mUn (eY "tuple") (aA 0)))) (bG (aC fNe (mR cP (aB (aA 0) aE)) (aA 1)))) (bE (mC (.bl false))) cA)
 (bE (mR fV (aB (bJ ["_law_number"] [] (mIt (aA 0)) (gN 0) (aY nQ [] (aB (aA 0) aE))) aE))))
def pV:FM:=fnM 2 2 xI
def yX:MS:=(aS (sIf (bG (aC fLt (aA 1) (mC (.int 0)))) (bE (aY fE [] (aB (mN eE (aB (aC dF (mC (.int 0)) (aA 0)) (aB (aC dF (mC (.int 0)) (aA 1)) aE))) aE))) cA)
 (bE (aY fE [] (aB (mN eE (aB (aA 0) (aB (aA 1) aE))) aE))))
def nT:FM:=fnM 2 2 yX
def zZ:MS:=(bE (bJ ["_law_k"] [(1,"_law_q"),(0,"_law_p")] (dY (aB (aC dF (mR cP (aB (aA 0) aE)) (mC (.int 1))) aE)) (gN 0) (aC dF (aC bD (aC fIx (aA 1) (aA 0)) (aC fIx (aA 2) (mUn cV (mC (.int 1))))) (aC bD (aC fIx (aA 2) (aA 0)) (aC fIx (aA 1) (mUn cV (mC (.int 1))))))))
def lW:FM:=fnM 2 2 zZ
def yG:MS:=(aS (bA 2 (aC dF (aC bD (aC fIx (aA 0) (mC (.int 1))) (aC fIx (aA 1) (mC (.int 2)))) (aC bD (aC fIx (aA 0) (mC (.int 2))) (aC fIx (aA 1) (mC (.int 1))))))
 (aS (bA 3 (aC dF (aC bD (aC fIx (aA 0) (mC (.int 2))) (aC fIx (aA 1) (mC (.int 0)))) (aC bD (aC fIx (aA 0) (mC (.int 0))) (aC fIx (aA 1) (mC (.int 2))))))
 (aS (bA 4 (aC dF (aC bD (aC fIx (aA 0) (mC (.int 0))) (aC fIx (aA 1) (mC (.int 1)))) (aC bD (aC fIx (aA 0) (mC (.int 1))) (aC fIx (aA 1) (mC (.int 0))))))
 (bE (mN eE (aB (aA 2) (aB (aA 3) (aB (aA 4) aE))))))))
def qB:FM:=fnM 2 5 yG
def zY:MS:=(bE (mR pL (aB (bJ ["_law_one","_law_other"] [] (mJ (aB (aA 0) (aB (aA 1) aE))) (gT 2 (dM (gN 0) (dM (gN 1) fN))) (aC bD (aA 0) (aA 1))) aE)))
def qU:FM:=fnM 2 2 zY
def nY:MS:=(aS (sIf (bG (aC fEq (mR cP (aB (aA 0) aE)) (mC (.int 2)))) (bE (aC dF (aC bD (aC fIx (aC fIx (aA 0) (mC (.int 0))) (mC (.int 0))) (aC fIx (aC fIx (aA 0) (mC (.int 1))) (mC (.int 1)))) (aC bD (aC fIx (aC fIx (aA 0) (mC (.int 0))) (mC (.int 1))) (aC fIx (aC fIx (aA 0) (mC (.int 1))) (mC (.int 0)))))) cA)
 (bE (aY qU [] (aB (aY qB [] (aB (aC fIx (aA 0) (mC (.int 0))) (aB (aC fIx (aA 0) (mC (.int 1))) aE))) (aB (aC fIx (aA 0) (mC (.int 2))) aE)))))
def iI:FM:=fnM 1 1 nY
def oF:MS:=(bE (aY iI [] (aB (bJ ["_law_p"] [(0,"_law_points")] (mIt (mSl (aA 0) (mO1 (mC (.int 1))) mO0)) (gN 0) (aY lW [] (aB (aC fIx (aA 1) (mC (.int 0))) (aB (aA 0) aE)))) aE)))
def eH:FM:=fnM 1 1 oF
def nH:MS:=(aS (bA 1 (mR qC (aB (aA 0) aE)))
 (aS (sIf (bG (aC fLt (aY eH [] (aB (aA 1) aE)) (mC (.int 0)))) (bA 1 (aC aG (mSl (aA 1) mO0 (mO1 (mUn cV (mC (.int 2))))) (mN eE (aB (aC fIx (aA 1) (mUn cV (mC (.int 1)))) (aB (aC fIx (aA 1) (mUn cV (mC (.int 2)))) aE))))) cA)
 (bE (mR aJ (aB (aA 1) aE)))))
def fI:FM:=fnM 1 2 nH
def wE:MS:=(aS (sIf (mOr (jH (bG (aY pV [] (aB (aA 0) (aB (aC aG (aA 1) (mC (.int 1))) aE))))) (bG (aC fLt (aC fIx (aA 0) (mUn cV (mC (.int 1)))) (mC (.int 1))))) (bE (mC (.bl false))) cA)
 (bE (aC fEq (aY fE [] (aB (aA 0) aE)) (aA 0))))
def mV:FM:=fnM 2 2 wE
def vZ:MS:=(aS (sIf (mOr (jH (bG (mUn (eY "tuple") (aA 0)))) (bG (aC fNe (mR cP (aB (aA 0) aE)) (aC aG (aA 1) (mC (.int 1)))))) (bE (mC (.bl false))) cA)
 (aS (sIf (jH (bG (mR fV (aB (bJ ["_law_p"] [(1,"_law_many")] (mIt (aA 0)) (gN 0) (aY mV [] (aB (aA 0) (aB (aA 1) aE)))) aE)))) (bE (mC (.bl false))) cA)
 (bE (jW (aC fNe (aY eH [] (aB (aA 0) aE)) (mC (.int 0))) (aC fEq (aY fI [] (aB (aA 0) aE)) (aA 0))))))
def mP:FM:=fnM 2 2 vZ
def wL:MS:=(aS (sIf (jH (bG (mUn (eY "tuple") (aA 0)))) (bE (mC (.bl false))) cA)
 (bE (mR fV (aB (bJ ["_law_points"] [(1,"_law_many")] (mIt (aA 0)) (gN 0) (aY mP [] (aB (aA 0) (aB (aA 1) aE)))) aE))))
def mZ:FM:=fnM 2 2 wL
def xN:MS:=(aS (sIf (bG (aC fEq (aY cG [] (aB (aA 0) (aB (mC (.int 2)) aE))) (mC (.int 1)))) (bE (mR aJ (aB (aA 1) aE))) cA)
 (bE (mR aK (aB (aA 1) aE))))
def nI:FM:=fnM 2 2 xN
def pR:MS:=(aS (pI (gT 2 (dM (gN 0) (dM (gN 1) fN))) (aY nT [] (aB (aA 0) (aB (aA 1) aE))))
 (aS (sIf (mOr (bG (aC fGe (mR aN (aB (aA 0) aE)) (aC eD (mC (.int 10)) (mC (.int 60))))) (bG (aC fGe (aA 1) (aC eD (mC (.int 10)) (mC (.int 60)))))) (bE (mC .non)) cA)
 (aS (sIf (bG (aC fEq (aA 1) (mC (.int 1)))) (bE (mR jF (aB (aA 0) aE))) cA)
 (bE (aC iO (aC iO (mR jF (aB (aA 0) aE)) (mC (.str "/"))) (mR jF (aB (aA 1) aE)))))))
def iX:FM:=fnM 2 2 pR
def wD:MS:=(aS (bA 1 (bJ ["_law_number"] [(0,"_law_p")] (mIt (mSl (aA 0) mO0 (mO1 (mUn cV (mC (.int 1)))))) (gN 0) (aY iX [] (aB (aA 0) (aB (aC fIx (aA 1) (mUn cV (mC (.int 1)))) aE)))))
 (aS (sIf (bG (aC iR (mC .non) (aA 1))) (bE (mC .non)) cA)
 (bE (fZ (mC (.str " ")) (aB (aA 1) aE)))))
def iD:FM:=fnM 1 2 wD
def wC:MS:=(aS (bA 1 (bJ ["_law_p"] [] (mIt (aA 0)) (gN 0) (aY iD [] (aB (aA 0) aE))))
 (aS (sIf (bG (aC iR (mC .non) (aA 1))) (bE (mC .non)) cA)
 (bE (fZ (mC (.str ", ")) (aB (aA 1) aE)))))
def kG:FM:=fnM 1 2 wC
def wM:MS:=(aS (sIf (bG (aC fEq (mR cP (aB (aA 0) aE)) (mC (.int 0)))) (bE (mC (.str "none"))) cA)
 (aS (bA 1 (bJ ["_law_points"] [] (mIt (aA 0)) (gN 0) (aY kG [] (aB (aA 0) aE))))
 (aS (sIf (bG (aC iR (mC .non) (aA 1))) (bE (mC .non)) cA)
 (bE (fZ (mC (.str " + ")) (aB (aA 1) aE))))))
def mX:FM:=fnM 1 2 wM
def wI:MS:=(aS (bA 3 (aC fIx (mN eE (aB (mC (.int 2)) (aB (mC (.int 9)) (aB (aC eD (mC (.int 10)) (mC (.int 20))) (aB (aC eD (mC (.int 10)) (mC (.int 61))) aE))))) (aY cG [] (aB (aA 0) (aB (mC (.int 4)) aE)))))
 (aS (bA 4 (aY cG [] (aB (aA 0) (aB (aC aG (aA 2) (mC (.int 1))) aE))))
 (aS (bA 5 (mC (.int 12)))
 (aS (sIf (bG (aC fEq (aY cG [] (aB (aA 0) (aB (mC (.int 8)) aE))) (mC (.int 7)))) (aS (bA 5 (aC fIx (mN eE (aB (aC eD (mC (.int 10)) (mC (.int 20))) (aB (aC eD (mC (.int 10)) (mC (.int 61))) aE))) (aY cG [] (aB (aA 0) (aB (mC (.int 2)) aE)))))
 (bA 4 (mR qY (aB (aA 4) (aB (mC (.int 1)) aE))))) cA)
 (aS (bA 6 (fO aE))
 (aS (dJ (dY (aB (aA 4) aE)) (gN 7) (aS (bA 8 (fO aE))
 (aS (dJ (dY (aB (aC aG (aA 1) (mC (.int 1))) aE)) (gN 9) (aS (bA 10 (bJ ["_law_n"] [(3,"_law_wide"),(0,"_law_row_here")] (dY (aB (aA 1) aE)) (gN 0) (aC dF (aY cG [] (aB (aA 2) (aB (aC aG (aC bD (mC (.int 2)) (aA 1)) (mC (.int 1))) aE))) (aA 1))))
 (dW (eZ (aA 8) (aB (aY fE [] (aB (aC aG (aA 10) (mN eE (aB (aC aG (mC (.int 1)) (aY cG [] (aB (aA 0) (aB (aA 5) aE)))) aE))) aE)) aE)))))
 (sIf (bG (aC fNe (aY eH [] (aB (aA 8) aE)) (mC (.int 0)))) (dW (eZ (aA 6) (aB (aY fI [] (aB (aA 8) aE)) aE))) cA))))
 (bE (aA 6))))))))
def lJ:FM:=fnM 3 11 wI
def wF:MS:=(aS (bA 3 (fO aE))
 (aS (dJ (dY (aB (aY cG [] (aB (aA 0) (aB (aC aG (aA 2) (mC (.int 1))) aE))) aE)) (gN 4) (aS (bA 5 (fO aE))
 (aS (dJ (dY (aB (aC aG (aA 1) (mC (.int 1))) aE)) (gN 6) (aS (bA 7 (bJ ["_law_n"] [(0,"_law_row_here")] (dY (aB (aA 1) aE)) (gN 0) (aC dF (aY cG [] (aB (aA 1) (aB (mC (.int 5)) aE))) (mC (.int 2)))))
 (dW (eZ (aA 5) (aB (aY fE [] (aB (aC aG (aA 7) (mN eE (aB (aC aG (mC (.int 1)) (aY cG [] (aB (aA 0) (aB (mC (.int 2)) aE)))) aE))) aE)) aE)))))
 (sIf (bG (aC fNe (aY eH [] (aB (aA 5) aE)) (mC (.int 0)))) (dW (eZ (aA 3) (aB (aY fI [] (aB (aA 5) aE)) aE))) cA))))
 (bE (aA 3))))
def mS:FM:=fnM 3 8 wF
def yR:MS:=(aS (bA 1 (aC aG (mC (.int 2)) (aY cG [] (aB (aA 0) (aB (mC (.int 2)) aE)))))
 (aS (bA 2 (aY lJ [] (aB (aA 0) (aB (aA 1) (aB (mC (.int 5)) aE)))))
 (aS (sIf (bG (aC fEq (aY cG [] (aB (aA 0) (aB (mC (.int 16)) aE))) (mC (.int 15)))) (aS (bA 1 (mC (.int 2)))
 (bA 2 (aC rJ (mSl (aC aG (aY mS [] (aB (aA 0) (aB (mC (.int 2)) (aB (mC (.int 3)) aE)))) (mN eE (aB (mN eW (aB (mN eW (aB (mC (.int 0)) (aB (mC (.int 0)) (aB (mC (.int 1)) aE)))) (aB (mN eW (aB (mC (.int 1)) (aB (mC (.int 0)) (aB (mC (.int 1)) aE)))) (aB (mN eW (aB (mC (.int 0)) (aB (mC (.int 1)) (aB (mC (.int 1)) aE)))) aE)))) aE))) mO0 (mO1 (mC (.int 1)))) (aC aG (mC (.int 60)) (aY cG [] (aB (aA 0) (aB (mC (.int 41)) aE))))))) cA)
 (aS (bA 3 (aY nI [] (aB (aA 0) (aB (aA 2) aE))))
 (aS (bA 4 (aY mX [] (aB (aA 2) aE)))
 (aS (bA 5 (mC .non))
 (aS (oW (oZ (mC (.str "told")) (oK jJ [] (aB (aA 3) aE))) "TooGreat" 7 5 (fun ρ=>(ρ.set 5 (some (.pv (.tup [.str "refused",.non]))))))
 (aS (sIf (bG (aC fNe (mR aK (aB (aA 3) aE)) (aA 2))) (bE (mC (.bl false))) cA)
 (aS (sIf (bG (mUn lF (aA 4))) (bE (aC fEq (aA 5) (mN eW (aB (mC (.str "refused")) (aB (mC .non) aE))))) cA)
 (aS (sIf (mOr (bG (aC fNe (aC fIx (aA 5) (mC (.int 0))) (mC (.str "told")))) (mOr (jH (bG (mUn (eY "str") (aC fIx (aA 5) (mC (.int 1)))))) (bG (aC fNe (aC fIx (aA 5) (mC (.int 1))) (aA 4))))) (bE (mC (.bl false))) cA)
 (aS (bA 6 (bW nE [] (aB (aA 4) aE)))
 (bE (jW (aY mZ [] (aB (aA 6) (aB (aA 1) aE))) (aC fEq (mR aK (aB (aA 6) aE)) (aA 2)))))))))))))))
def nX:FM:=fnM 1 7 yR
def ahE:MS:=(aS (bA 1 (tY oJ [] (aB (aA 0) aE)))
 (bE (jW (aY nX [] (aB (aA 1) aE)) (aY nX [] (aB (aA 1) aE)))))
def ahe:FM:=fnM 1 2 ahE
section
variable {P:Program} {w:World} {K:PySem.W.Frag} {mg:Str→Option Value} {base:Heap} {cl:Str→Addr}
theorem ad9:bQ ["number"] ["number"] (aX zK):=⟨rfl,rfl,rfl,by decide +kernel,rfl,by decide +kernel,by decide +kernel⟩
theorem aht {f:Addr} {fd:FuncData} (F:Fun K "sign" "sign" zK f fd)
  : aW P w K mg base CX0 1 f fd ["number"] (bL K cl jC):=by
 have nd:=ad9.nd
 refine okP (np:=1) (n:=1) F ad9 (by decide) (by decide) (b:=zL) (k:=0) fun cdv A outer s H E hr=>?_
 exact (aZ (cQ (cM ahY akq (aD 0) aH (bY _)) (bB (bI aH)) cW)
   (aZ (cQ (cM oX pH (aD 0) aH (bY _)) (bB (bI (eJ eI eK aH))) cW)
   (bB (bI aH))))
theorem abi:bQ ["one","other","rest"] ["one","other"] (aX xM):=⟨rfl,rfl,rfl,by decide +kernel,rfl,by decide +kernel,by decide +kernel⟩
theorem adC {f:Addr} {fd:FuncData} (F:Fun K "divisor" "divisor" xM f fd)
  (m_abs:mg "abs"=none)
  : aW P w K mg base CX0 1 f fd ["one","other"] (bL K cl kL):=by
 have nd:=abi.nd
 refine okP (np:=2) (n:=3) F abi (by decide) (by decide) (b:=xJ) (k:=0) fun cdv A outer s H E hr=>?_
 exact (aZ (xQ PassesOwn.never (cM (jD (hu8 hr)) jG (aD 1) aH (bY _)) (aZ (bS (i:=2) nd rfl (Or.inl rfl) (aV jQ kA (aD 0) (aD 1)))
   (aZ (bS (i:=0) nd rfl (Or.inl rfl) (aD 1))
   (bB (bS (i:=1) nd rfl (Or.inl rfl) (aD 2))))))
   (bB (bI (cX nS pA rfl m_abs oH (aF (aD 0) aI)))))
theorem aa9:bQ ["numbers","common","number"] ["numbers"] (aX sP):=⟨rfl,rfl,rfl,by decide +kernel,rfl,by decide +kernel,by decide +kernel⟩
theorem adc {f:Addr} {fd:FuncData} (F:Fun K "reduced" "reduced" sP f fd)
  (C_divisor:Cal P w K mg base cl "divisor" 1 ["one","other"] kL)
  : aW P w K mg base CX0 2 f fd ["numbers"] (bL K cl pW):=by
 have nd:=aa9.nd
 refine okP (np:=1) (n:=3) F aa9 (by decide) (by decide) (b:=xK) (k:=1) fun cdv A outer s H E hr=>?_
 exact (aZ (bS (i:=1) nd rfl (Or.inr rfl) aH)
   (aZ (kN PassesOwn.never rfl (dP (aD 0)) (cF (i:=2) nd rfl (Or.inl rfl)) (bB (bS (i:=1) nd rfl (Or.inr rfl) (bP C_divisor hr (by decide) rfl (aF (aD 1) (aF (aD 2) aI))))))
   (bB (bI (fQ (own:=["number"]) (cap:=[(1,"common")]) (dA (aX sP) ["numbers","common","number"] rfl rfl rfl (by decide +kernel) (by decide +kernel) (by decide +kernel) (by decide +kernel) (by decide +kernel)) (dP (aD 0)) rfl (fun _ _ _ _=>(cF (i:=0) (show (bF ["number"] [(1,"common")]).Nodup by decide +kernel) rfl (Or.inl rfl) (Or.inr rfl))) (fun _ _ _ _=>(aV nP oI (aD 0) (aD 1))))))))
theorem aaG:bQ ["top","bottom","common"] ["top","bottom"] (aX nG):=⟨rfl,rfl,rfl,by decide +kernel,rfl,by decide +kernel,by decide +kernel⟩
theorem act {f:Addr} {fd:FuncData} {dsv:Array Value} (F:lG K "fraction" "fraction" nG f fd dsv)
  (C_sign:Cal P w K mg base cl "sign" 1 ["number"] jC)
  (C_divisor:Cal P w K mg base cl "divisor" 1 ["one","other"] kL)
  (q_NoNumber:mg "NoNumber"=some (.ref (cl "NoNumber"))) (x_NoNumber:PySem.W.excIn K (cl "NoNumber") eV "ValueError.__new__"=true)
  : aW P w K mg base (CX1 P w) 2 f fd ["top","bottom"] (spP K cl gS):=by
 have nd:=aaG.nd
 refine ak1 (np:=2) (n:=3) F aaG (by decide) (by decide) (b:=lN) (k:=1) fun cdv A outer s H E hr=>?_
 exact (aZ (cQ (cM (dS (hu8 hr)) dX (aD 1) aH (bY _)) (bB (pX rfl q_NoNumber x_NoNumber)) cW)
   (aZ (bS (i:=2) nd rfl (Or.inl rfl) (aV cJ cK (bP C_sign hr (by decide) rfl (aF (aD 1) aI)) (bP C_divisor hr (by decide) rfl (aF (aD 0) (aF (aD 1) aI)))))
   (bB (bI (oO (aF (aV nP oI (aD 0) (aD 2)) (aF (aV nP oI (aD 1) (aD 2)) aI)))))))
theorem ac8:bQ ["numbers","bottom"] ["numbers","bottom"] (aX lS):=⟨rfl,rfl,rfl,by decide +kernel,rfl,by decide +kernel,by decide +kernel⟩
theorem afl {f:Addr} {fd:FuncData} {dsv:Array Value} (F:lG K "point" "point" lS f fd dsv)
  (C_reduced:Cal P w K mg base cl "reduced" 2 ["numbers"] pW)
  (C_sign:Cal P w K mg base cl "sign" 1 ["number"] jC)
  (m_list:mg "list"=none)
  (m_tuple:mg "tuple"=none)
  (q_NoPoint:mg "NoPoint"=some (.ref (cl "NoPoint"))) (x_NoPoint:PySem.W.excIn K (cl "NoPoint") eV "ValueError.__new__"=true)
  : aW P w K mg base (CX1 P w) 3 f fd ["numbers","bottom"] (spP K cl lV):=by
 have nd:=ac8.nd
 refine ak1 (np:=2) (n:=2) F ac8 (by decide) (by decide) (b:=qF) (k:=2) fun cdv A outer s H E hr=>?_
 exact (aZ (cQ (cM (dS (hu8 hr)) dX (aD 1) aH (bY _)) (bB (pX rfl q_NoPoint x_NoPoint)) cW)
   (bB (bI (fJ kH kO rfl m_tuple iG (aF (fQ (own:=["number"]) (cap:=[(1,"bottom")]) (dA (aX lS) ["numbers","bottom"] rfl rfl rfl (by decide +kernel) (by decide +kernel) (by decide +kernel) (by decide +kernel) (by decide +kernel)) (dP (bP C_reduced hr (by decide) rfl (aF (aV dD dE (fJ sD tR rfl m_list tL (aF (aD 0) aI)) (gM (aF (aD 1) aI))) aI))) rfl (fun _ _ _ _=>(cF (i:=0) (show (bF ["number"] [(1,"bottom")]).Nodup by decide +kernel) rfl (Or.inl rfl) (Or.inr rfl))) (fun _ _ _ _=>(aV cJ cK (bP C_sign hr (by decide) rfl (aF (aD 1) aI)) (aD 0)))) aI)))))
theorem aaI:bQ ["p"] ["p"] (aX sL):=⟨rfl,rfl,rfl,by decide +kernel,rfl,by decide +kernel,by decide +kernel⟩
theorem acv {f:Addr} {fd:FuncData} (F:Fun K "measures" "measures" sL f fd)
  {a_fraction:Addr} {d_fraction:FuncData}
  (G_fraction:aW P w K mg base CX0 2 a_fraction d_fraction ["top","bottom"] (bL K cl gS)) (lN:cU K d_fraction ["top","bottom"] []) (k_fraction:PySem.W.keepIn K (.ref a_fraction)=true) (n_fraction:mg "fraction"=some (.ref a_fraction))
  (m_tuple:mg "tuple"=none)
  : aW P w K mg base CX0 3 f fd ["p"] (bL K cl pU):=by
 have nd:=aaI.nd
 refine okP (np:=1) (n:=1) F aaI (by decide) (by decide) (b:=xC) (k:=2) fun cdv A outer s H E hr=>?_
 exact (bB (bI (fJ kH kO rfl m_tuple iG (aF (fQ (own:=["number"]) (cap:=[(0,"p")]) (dA (aX sL) ["p"] rfl rfl rfl (by decide +kernel) (by decide +kernel) (by decide +kernel) (by decide +kernel) (by decide +kernel)) (dP (iQ (aD 0) gZ (hJ (eJ eI eK aH)))) rfl (fun _ _ _ _=>(cF (i:=0) (show (bF ["number"] [(0,"p")]).Nodup by decide +kernel) rfl (Or.inl rfl) (Or.inr rfl))) (fun _ _ _ _=>(yM G_fraction (hr.mono (by decide)) rfl n_fraction k_fraction lN .nil Dv.nil (aF (aD 0) (aF (bH (aD 1) (eJ eI eK aH)) aI))))) aI))))
theorem aaO:bQ ["parts","bottom","part"] ["parts"] (aX sK):=⟨rfl,rfl,rfl,by decide +kernel,rfl,by decide +kernel,by decide +kernel⟩
theorem acs {f:Addr} {fd:FuncData} (F:Fun K "point_at" "point_at" sK f fd)
  {a_point:Addr} {d_point:FuncData}
  (G_point:aW P w K mg base CX0 3 a_point d_point ["numbers","bottom"] (bL K cl lV)) (qF:cU K d_point ["numbers","bottom"] []) (k_point:PySem.W.keepIn K (.ref a_point)=true) (n_point:mg "point"=some (.ref a_point))
  : aW P w K mg base CX0 4 f fd ["parts"] (bL K cl jL):=by
 have nd:=aaO.nd
 refine okP (np:=1) (n:=3) F aaO (by decide) (by decide) (b:=sJ) (k:=3) fun cdv A outer s H E hr=>?_
 exact (aZ (bS (i:=1) nd rfl (Or.inr rfl) aH)
   (aZ (kN PassesOwn.never rfl (dP (aD 0)) (cF (i:=2) nd rfl (Or.inl rfl)) (bB (bS (i:=1) nd rfl (Or.inr rfl) (aV cJ cK (aD 1) (bH (aD 2) aH)))))
   (bB (bI (yM G_point (hr.mono (by decide)) rfl n_point k_point qF .nil Dv.nil (aF (fQ (own:=["part"]) (cap:=[(1,"bottom")]) (dA (aX sK) ["parts","bottom","part"] rfl rfl rfl (by decide +kernel) (by decide +kernel) (by decide +kernel) (by decide +kernel) (by decide +kernel)) (dP (aD 0)) rfl (fun _ _ _ _=>(cF (i:=0) (show (bF ["part"] [(1,"bottom")]).Nodup by decide +kernel) rfl (Or.inl rfl) (Or.inr rfl))) (fun _ _ _ _=>(aV cJ cK (bH (aD 0) aH) (aV nP oI (aD 1) (bH (aD 0) aH))))) (aF (aD 1) aI)))))))
theorem aak:bQ ["start","end"] ["start","end"] (aX rT):=⟨rfl,rfl,rfl,by decide +kernel,rfl,by decide +kernel,by decide +kernel⟩
theorem aaY {f:Addr} {fd:FuncData} (F:Fun K "whole_arrow" "whole_arrow" rT f fd)
  (m_zip:mg "zip"=none)
  : aW P w K mg base CX0 1 f fd ["start","end"] (bL K cl lK):=by
 have nd:=aak.nd
 refine okP (np:=2) (n:=2) F aak (by decide) (by decide) (b:=wK) (k:=0) fun cdv A outer s H E hr=>?_
 exact (bB (bI (fQ (own:=["near","far"]) (cap:=[(0,"start"),(1,"end")]) (dA (aX rT) ["start","end"] rfl rfl rfl (by decide +kernel) (by decide +kernel) (by decide +kernel) (by decide +kernel) (by decide +kernel)) (yO rfl m_zip (aF (iQ (aD 0) gZ (hJ (eJ eI eK aH))) (aF (iQ (aD 1) gZ (hJ (eJ eI eK aH))) aI))) rfl (fun _ _ _ _=>(qH rfl (iZ (cF (i:=0) (show (bF ["near","far"] [(0,"start"),(1,"end")]).Nodup by decide +kernel) rfl (Or.inl rfl) (Or.inr rfl)) (iZ (cF (i:=1) (show (bF ["near","far"] [(0,"start"),(1,"end")]).Nodup by decide +kernel) rfl (Or.inl rfl) (Or.inr rfl)) qA)))) (fun _ _ _ _=>(aV fY gD (aV cJ cK (aD 1) (bH (aD 2) (eJ eI eK aH))) (aV cJ cK (aD 0) (bH (aD 3) (eJ eI eK aH))))))))
theorem af7:bQ ["u","v"] ["u","v"] (aX uR):=⟨rfl,rfl,rfl,by decide +kernel,rfl,by decide +kernel,by decide +kernel⟩
theorem aik {f:Addr} {fd:FuncData} (F:Fun K "dot" "dot" uR f fd)
  (m_sum:mg "sum"=none)
  (m_zip:mg "zip"=none)
  : aW P w K mg base CX0 1 f fd ["u","v"] (bL K cl rA):=by
 have nd:=af7.nd
 refine okP (np:=2) (n:=2) F af7 (by decide) (by decide) (b:=ahN) (k:=0) fun cdv A outer s H E hr=>?_
 exact (bB (bI (cX (ace rfl) ajy rfl m_sum agb (aF (fQ (own:=["one","other"]) (cap:=[]) (dA (aX uR) ["u","v"] rfl rfl rfl (by decide +kernel) (by decide +kernel) (by decide +kernel) (by decide +kernel) (by decide +kernel)) (yO rfl m_zip (aF (aD 0) (aF (aD 1) aI))) rfl (fun _ _ _ _=>(qH rfl (iZ (cF (i:=0) (show (bF ["one","other"] []).Nodup by decide +kernel) rfl (Or.inl rfl) (Or.inr rfl)) (iZ (cF (i:=1) (show (bF ["one","other"] []).Nodup by decide +kernel) rfl (Or.inl rfl) (Or.inr rfl)) qA)))) (fun _ _ _ _=>(aV cJ cK (aD 0) (aD 1)))) aI))))
theorem abR:bQ ["arrows","u","v"] ["arrows"] (aX xY):=⟨rfl,rfl,rfl,by decide +kernel,rfl,by decide +kernel,by decide +kernel⟩
theorem aee {f:Addr} {fd:FuncData} (F:Fun K "normal" "normal" xY f fd)
  (m_len:mg "len"=none)
  : aW P w K mg base CX0 1 f fd ["arrows"] (bL K cl lR):=by
 have nd:=abR.nd
 refine okP (np:=1) (n:=3) F abR (by decide) (by decide) (b:=tD) (k:=0) fun cdv A outer s H E hr=>?_
 exact (aZ (bS (i:=1) nd rfl (Or.inl rfl) (bH (aD 0) aH))
   (aZ (cQ (cM (dS (hu8 hr)) dX (cX fP fR rfl m_len fL (aF (aD 0) aI)) aH (bY _)) (bB (bI (gM (aF (eJ eI eK (bH (aD 1) aH)) (aF (bH (aD 1) aH) aI))))) cW)
   (aZ (bS (i:=2) nd rfl (Or.inl rfl) (bH (aD 0) aH))
   (bB (bI (gM (aF (aV fY gD (aV cJ cK (bH (aD 1) aH) (bH (aD 2) aH)) (aV cJ cK (bH (aD 1) aH) (bH (aD 2) aH))) (aF (aV fY gD (aV cJ cK (bH (aD 1) aH) (bH (aD 2) aH)) (aV cJ cK (bH (aD 1) aH) (bH (aD 2) aH))) (aF (aV fY gD (aV cJ cK (bH (aD 1) aH) (bH (aD 2) aH)) (aV cJ cK (bH (aD 1) aH) (bH (aD 2) aH))) aI)))))))))
theorem aan:bQ ["points","rows"] ["points"] (aX rV):=⟨rfl,rfl,rfl,by decide +kernel,rfl,by decide +kernel,by decide +kernel⟩
theorem aaX {f:Addr} {fd:FuncData} (F:Fun K "determinant" "determinant" rV f fd)
  (C_whole_arrow:Cal P w K mg base cl "whole_arrow" 1 ["start","end"] lK)
  (C_dot:Cal P w K mg base cl "dot" 1 ["u","v"] rA)
  (C_normal:Cal P w K mg base cl "normal" 1 ["arrows"] lR)
  : aW P w K mg base CX0 2 f fd ["points"] (bL K cl lL):=by
 have nd:=aan.nd
 refine okP (np:=1) (n:=2) F aan (by decide) (by decide) (b:=rW) (k:=1) fun cdv A outer s H E hr=>?_
 exact (aZ (nN (i:=1) (own:=["p"]) (cap:=[(0,"points")]) nd rfl (Or.inl rfl) (dA (aX rV) ["points","rows"] rfl rfl rfl (by decide +kernel) (by decide +kernel) (by decide +kernel) (by decide +kernel) (by decide +kernel)) (dP (iQ (aD 0) (hJ aH) gZ)) rfl (fun _ _ _ _=>(cF (i:=0) (show (bF ["p"] [(0,"points")]).Nodup by decide +kernel) rfl (Or.inl rfl) (Or.inr rfl))) (fun _ _ _ _=>(bP C_whole_arrow hr (by decide) rfl (aF (bH (aD 1) aH) (aF (aD 0) aI)))))
   (bB (bI (bP C_dot hr (by decide) rfl (aF (bP C_normal hr (by decide) rfl (aF (iQ (aD 1) gZ (hJ (eJ eI eK aH))) aI)) (aF (bH (aD 1) (eJ eI eK aH)) aI))))))
theorem ae2:bQ ["points"] ["points"] (aX zS):=⟨rfl,rfl,rfl,by decide +kernel,rfl,by decide +kernel,by decide +kernel⟩
theorem ahT {f:Addr} {fd:FuncData} (F:Fun K "side" "side" zS f fd)
  (C_sign:Cal P w K mg base cl "sign" 1 ["number"] jC)
  (C_determinant:Cal P w K mg base cl "determinant" 2 ["points"] lL)
  : aW P w K mg base CX0 3 f fd ["points"] (bL K cl kW):=by
 have nd:=ae2.nd
 refine okP (np:=1) (n:=1) F ae2 (by decide) (by decide) (b:=uD) (k:=2) fun cdv A outer s H E hr=>?_
 exact (bB (bI (bP C_sign hr (by decide) rfl (aF (bP C_determinant hr (by decide) rfl (aF (aD 0) aI)) aI))))
theorem aa4:bQ ["points","corners","turn"] ["points"] (aX xO):=⟨rfl,rfl,rfl,by decide +kernel,rfl,by decide +kernel,by decide +kernel⟩
theorem adA {f:Addr} {fd:FuncData} (F:Fun K "simplex" "simplex" xO f fd)
  (C_side:Cal P w K mg base cl "side" 3 ["points"] kW)
  (m_sorted:mg "sorted"=none)
  (m_tuple:mg "tuple"=none)
  (q_Flat:mg "Flat"=some (.ref (cl "Flat"))) (x_Flat:PySem.W.excIn K (cl "Flat") eV "ValueError.__new__"=true)
  : aW P w K mg base (CX1 P w) 4 f fd ["points"] (spP K cl iY):=by
 have nd:=aa4.nd
 refine okX (np:=1) (n:=3) F aa4 (by decide) (by decide) (b:=nK) (k:=3) fun cdv A outer s H E hr=>?_
 exact (aZ (bS (i:=1) nd rfl (Or.inl rfl) (cX abn agl rfl m_sorted acg (aF (aD 0) aI)))
   (aZ (bS (i:=2) nd rfl (Or.inl rfl) (bP C_side hr (by decide) rfl (aF (aD 1) aI)))
   (aZ (cQ (cM (dS (hu8 hr)) dX (aD 2) aH (bY _)) (bB (pX rfl q_Flat x_Flat)) cW)
   (aZ (cQ (cM oX pH (aD 2) aH (bY _)) (bB (bS (i:=1) nd rfl (Or.inl rfl) (aV dD dE (iQ (aD 1) gZ (hJ (eJ eI eK aH))) (gM (aF (bH (aD 1) (eJ eI eK aH)) (aF (bH (aD 1) (eJ eI eK aH)) aI)))))) cW)
   (bB (bI (fJ kH kO rfl m_tuple iG (aF (aD 1) aI))))))))
theorem aai:bQ ["number"] ["number"] (aX wG):=⟨rfl,rfl,rfl,by decide +kernel,rfl,by decide +kernel,by decide +kernel⟩
theorem aa2 {f:Addr} {fd:FuncData} (F:Fun K "shown_whole" "shown_whole" wG f fd)
  (m_abs:mg "abs"=none)
  (m_str:mg "str"=none)
  (q_TooGreat:mg "TooGreat"=some (.ref (cl "TooGreat"))) (x_TooGreat:PySem.W.excIn K (cl "TooGreat") eV "ValueError.__new__"=true)
  : aW P w K mg base (CX1 P w) 1 f fd ["number"] (spP K cl lI):=by
 have nd:=aai.nd
 refine okX (np:=1) (n:=1) F aai (by decide) (by decide) (b:=mQ) (k:=0) fun cdv A outer s H E hr=>?_
 exact (aZ (cQ (cM uS vW (cX nS pA rfl m_abs oH (aF (aD 0) aI)) (aV jR jY aH aH) (bY _)) (bB (pX rfl q_TooGreat x_TooGreat)) cW)
   (bB (bI (fJ sE uW rfl m_str qP (aF (cX nS pA rfl m_abs oH (aF (aD 0) aI)) aI)))))
theorem aae:bQ ["number","text"] ["number"] (aX wB):=⟨rfl,rfl,rfl,by decide +kernel,rfl,by decide +kernel,by decide +kernel⟩
theorem aaS {f:Addr} {fd:FuncData} (F:Fun K "shown_number" "shown_number" wB f fd)
  {a_shown_whole:Addr} {d_shown_whole:FuncData}
  (GX_shown_whole:aW P w K mg base (CX1 P w) 1 a_shown_whole d_shown_whole ["number"] (spP K cl lI))
  (G_shown_whole:aW P w K mg base CX0 1 a_shown_whole d_shown_whole ["number"] (bL K cl lI)) (mQ:cU K d_shown_whole ["number"] []) (k_shown_whole:PySem.W.keepIn K (.ref a_shown_whole)=true) (n_shown_whole:mg "shown_whole"=some (.ref a_shown_whole))
  : aW P w K mg base (CX1 P w) 2 f fd ["number"] (spP K cl gH):=by
 have nd:=aae.nd
 refine okX (np:=1) (n:=2) F aae (by decide) (by decide) (b:=kE) (k:=1) fun cdv A outer s H E hr=>?_
 exact (aZ (bS (i:=1) nd rfl (Or.inl rfl) (iH GX_shown_whole (hr.mono (by decide)) rfl n_shown_whole k_shown_whole mQ .nil Dv.nil (aF (bH (aD 0) aH) aI)))
   (aZ (cQ (cM oX pH (bH (aD 0) aH) aH (bY _)) (bB (bS (i:=1) nd rfl (Or.inl rfl) (aV pS qK fF (aD 1)))) cW)
   (aZ (cQ (cM (dS (hu8 hr)) dX (bH (aD 0) aH) aH (bY _)) (bB (bI (aD 1))) cW)
   (bB (bI (aV pS qK (aV pS qK (aD 1) fF) (iH GX_shown_whole (hr.mono (by decide)) rfl n_shown_whole k_shown_whole mQ .nil Dv.nil (aF (bH (aD 0) aH) aI))))))))
theorem aao:bQ ["p"] ["p"] (aX rR):=⟨rfl,rfl,rfl,by decide +kernel,rfl,by decide +kernel,by decide +kernel⟩
theorem aaW {f:Addr} {fd:FuncData} (F:Fun K "shown_point" "shown_point" rR f fd)
  (C_measures:Cal P w K mg base cl "measures" 3 ["p"] pU)
  {a_shown_number:Addr} {d_shown_number:FuncData}
  (GX_shown_number:aW P w K mg base (CX1 P w) 2 a_shown_number d_shown_number ["number"] (spP K cl gH))
  (G_shown_number:aW P w K mg base CX0 2 a_shown_number d_shown_number ["number"] (bL K cl gH)) (kE:cU K d_shown_number ["number"] []) (k_shown_number:PySem.W.keepIn K (.ref a_shown_number)=true) (n_shown_number:mg "shown_number"=some (.ref a_shown_number))
  : aW P w K mg base (CX1 P w) 4 f fd ["p"] (spP K cl gI):=by
 have nd:=aao.nd
 refine okX (np:=1) (n:=1) F aao (by decide) (by decide) (b:=mU) (k:=3) fun cdv A outer s H E hr=>?_
 exact (bB (bI (nV fF (aF (nR (own:=["number"]) (cap:=[]) (dA (aX rR) ["p"] rfl rfl rfl (by decide +kernel) (by decide +kernel) (by decide +kernel) (by decide +kernel) (by decide +kernel)) (dP (bP C_measures hr (by decide) rfl (aF (aD 0) aI))) rfl (fun _ _ _ _=>(cF (i:=0) (show (bF ["number"] []).Nodup by decide +kernel) rfl (Or.inl rfl) (Or.inr rfl))) (fun _ _ _ _ _ hp=>(lQ hp GX_shown_number (hr.mono (by decide)) rfl n_shown_number k_shown_number kE .nil Dv.nil (aF (aD 0) aI)))) aI))))
theorem aac:bQ ["piece"] ["piece"] (aX rO):=⟨rfl,rfl,rfl,by decide +kernel,rfl,by decide +kernel,by decide +kernel⟩
theorem aaB {f:Addr} {fd:FuncData} (F:Fun K "shown_simplex" "shown_simplex" rO f fd)
  {a_shown_point:Addr} {d_shown_point:FuncData}
  (GX_shown_point:aW P w K mg base (CX1 P w) 4 a_shown_point d_shown_point ["p"] (spP K cl gI))
  (G_shown_point:aW P w K mg base CX0 4 a_shown_point d_shown_point ["p"] (bL K cl gI)) (mU:cU K d_shown_point ["p"] []) (k_shown_point:PySem.W.keepIn K (.ref a_shown_point)=true) (n_shown_point:mg "shown_point"=some (.ref a_shown_point))
  : aW P w K mg base (CX1 P w) 5 f fd ["piece"] (spP K cl gY):=by
 have nd:=aac.nd
 refine okX (np:=1) (n:=1) F aac (by decide) (by decide) (b:=mO) (k:=4) fun cdv A outer s H E hr=>?_
 exact (bB (bI (nV fF (aF (nR (own:=["p"]) (cap:=[]) (dA (aX rO) ["piece"] rfl rfl rfl (by decide +kernel) (by decide +kernel) (by decide +kernel) (by decide +kernel) (by decide +kernel)) (dP (aD 0)) rfl (fun _ _ _ _=>(cF (i:=0) (show (bF ["p"] []).Nodup by decide +kernel) rfl (Or.inl rfl) (Or.inr rfl))) (fun _ _ _ _ _ hp=>(lQ hp GX_shown_point (hr.mono (by decide)) rfl n_shown_point k_shown_point mU .nil Dv.nil (aF (aD 0) aI)))) aI))))
theorem aaw:bQ ["texts"] ["texts"] (aX wN):=⟨rfl,rfl,rfl,by decide +kernel,rfl,by decide +kernel,by decide +kernel⟩
theorem abw {f:Addr} {fd:FuncData} (F:Fun K "shown_rows" "shown_rows" wN f fd)
  (gt_NOTHING:GlT K mg "NOTHING" (.str "none"))
  : aW P w K mg base CX0 1 f fd ["texts"] (bL K cl mW):=by
 have nd:=aaw.nd
 refine okP (np:=1) (n:=1) F aaw (by decide) (by decide) (b:=sF) (k:=0) fun cdv A outer s H E hr=>?_
 exact (bB (bI (qV (agN (aD 0)) (nV fF (aF (aD 0) aI)) (tK rfl gt_NOTHING))))
theorem aaq:bQ ["heap"] ["heap"] (aX rY):=⟨rfl,rfl,rfl,by decide +kernel,rfl,by decide +kernel,by decide +kernel⟩
theorem abr {f:Addr} {fd:FuncData} (F:Fun K "shown_heap" "shown_heap" rY f fd)
  (C_shown_rows:Cal P w K mg base cl "shown_rows" 1 ["texts"] mW)
  {a_shown_simplex:Addr} {d_shown_simplex:FuncData}
  (GX_shown_simplex:aW P w K mg base (CX1 P w) 5 a_shown_simplex d_shown_simplex ["piece"] (spP K cl gY))
  (G_shown_simplex:aW P w K mg base CX0 5 a_shown_simplex d_shown_simplex ["piece"] (bL K cl gY)) (mO:cU K d_shown_simplex ["piece"] []) (k_shown_simplex:PySem.W.keepIn K (.ref a_shown_simplex)=true) (n_shown_simplex:mg "shown_simplex"=some (.ref a_shown_simplex))
  : aW P w K mg base (CX1 P w) 6 f fd ["heap"] (spP K cl jJ):=by
 have nd:=aaq.nd
 refine okX (np:=1) (n:=1) F aaq (by decide) (by decide) (b:=nA) (k:=5) fun cdv A outer s H E hr=>?_
 exact (bB (bI (bP C_shown_rows hr (by decide) rfl (aF (nR (own:=["piece"]) (cap:=[]) (dA (aX rY) ["heap"] rfl rfl rfl (by decide +kernel) (by decide +kernel) (by decide +kernel) (by decide +kernel) (by decide +kernel)) (dP (aD 0)) rfl (fun _ _ _ _=>(cF (i:=0) (show (bF ["piece"] []).Nodup by decide +kernel) rfl (Or.inl rfl) (Or.inr rfl))) (fun _ _ _ _ _ hp=>(lQ hp GX_shown_simplex (hr.mono (by decide)) rfl n_shown_simplex k_shown_simplex mO .nil Dv.nil (aF (aD 0) aI)))) aI))))
theorem aab:bQ ["fits"] ["fits"] (aX wA):=⟨rfl,rfl,rfl,by decide +kernel,rfl,by decide +kernel,by decide +kernel⟩
theorem aaD {f:Addr} {fd:FuncData} (F:Fun K "refuse_unless" "refuse_unless" wA f fd)
  (q_NoText:mg "NoText"=some (.ref (cl "NoText"))) (x_NoText:PySem.W.excIn K (cl "NoText") eV "ValueError.__new__"=true)
  : aW P w K mg base (CX1 P w) 1 f fd ["fits"] (spP K cl eR):=by
 have nd:=aab.nd
 refine okX (np:=1) (n:=1) F aab (by decide) (by decide) (b:=gG) (k:=0) fun cdv A outer s H E hr=>?_
 exact (bB (cQ (lU (jP (aD 0))) (bB (pX rfl q_NoText x_NoText)) cW))
theorem aat:bQ ["text"] ["text"] (aX rZ):=⟨rfl,rfl,rfl,by decide +kernel,rfl,by decide +kernel,by decide +kernel⟩
theorem abA {f:Addr} {fd:FuncData} (F:Fun K "read_whole" "read_whole" rZ f fd)
  {a_refuse_unless:Addr} {d_refuse_unless:FuncData}
  (GX_refuse_unless:aW P w K mg base (CX1 P w) 1 a_refuse_unless d_refuse_unless ["fits"] (spP K cl eR))
  (G_refuse_unless:aW P w K mg base CX0 1 a_refuse_unless d_refuse_unless ["fits"] (bL K cl eR)) (gG:cU K d_refuse_unless ["fits"] []) (k_refuse_unless:PySem.W.keepIn K (.ref a_refuse_unless)=true) (n_refuse_unless:mg "refuse_unless"=some (.ref a_refuse_unless))
  (m_all:mg "all"=none)
  (m_int:mg "int"=none)
  (m_len:mg "len"=none)
  (gt_FIGURES:GlT K mg "FIGURES" (.str "0123456789"))
  (gt_MOST_FIGURES:GlT K mg "MOST_FIGURES" (.int 60))
  : aW P w K mg base (CX1 P w) 2 f fd ["text"] (spP K cl fA):=by
 have nd:=aat.nd
 refine okX (np:=1) (n:=1) F aat (by decide) (by decide) (b:=mY) (k:=1) fun cdv A outer s H E hr=>?_
 exact (aZ (gU (iH GX_refuse_unless (hr.mono (by decide)) rfl n_refuse_unless k_refuse_unless gG .nil Dv.nil (aF (qN (afB agX akE agX akE aH (cX abH aji rfl m_len fL (aF (aD 0) aI)) (tK rfl gt_MOST_FIGURES)) (oB (cX (nO rfl) oS rfl m_all oN (aF (fQ (own:=["sign"]) (cap:=[]) (dA (aX rZ) ["text"] rfl rfl rfl (by decide +kernel) (by decide +kernel) (by decide +kernel) (by decide +kernel) (by decide +kernel)) (agZ (aD 0)) rfl (fun _ _ _ _=>(cF (i:=0) (show (bF ["sign"] []).Nodup by decide +kernel) rfl (Or.inl rfl) (Or.inr rfl))) (fun _ _ _ _=>(hV adH akL (aD 0) (tK rfl gt_FIGURES) rfl))) aI)))) aI)))
   (bB (bI (fJ abt ajI rfl m_int agh (aF (aD 0) aI)))))
theorem aap:bQ ["line","parts","below","top","bottom"] ["line"] (aX wJ):=⟨rfl,rfl,rfl,by decide +kernel,rfl,by decide +kernel,by decide +kernel⟩
theorem aaU {f:Addr} {fd:FuncData} (F:Fun K "read_number" "read_number" wJ f fd)
  {a_refuse_unless:Addr} {d_refuse_unless:FuncData}
  (GX_refuse_unless:aW P w K mg base (CX1 P w) 1 a_refuse_unless d_refuse_unless ["fits"] (spP K cl eR))
  (G_refuse_unless:aW P w K mg base CX0 1 a_refuse_unless d_refuse_unless ["fits"] (bL K cl eR)) (gG:cU K d_refuse_unless ["fits"] []) (k_refuse_unless:PySem.W.keepIn K (.ref a_refuse_unless)=true) (n_refuse_unless:mg "refuse_unless"=some (.ref a_refuse_unless))
  {a_read_whole:Addr} {d_read_whole:FuncData}
  (GX_read_whole:aW P w K mg base (CX1 P w) 2 a_read_whole d_read_whole ["text"] (spP K cl fA))
  (G_read_whole:aW P w K mg base CX0 2 a_read_whole d_read_whole ["text"] (bL K cl fA)) (mY:cU K d_read_whole ["text"] []) (k_read_whole:PySem.W.keepIn K (.ref a_read_whole)=true) (n_read_whole:mg "read_whole"=some (.ref a_read_whole))
  {a_fraction:Addr} {d_fraction:FuncData}
  (GX_fraction:aW P w K mg base (CX1 P w) 2 a_fraction d_fraction ["top","bottom"] (spP K cl gS))
  (G_fraction:aW P w K mg base CX0 2 a_fraction d_fraction ["top","bottom"] (bL K cl gS)) (lN:cU K d_fraction ["top","bottom"] []) (k_fraction:PySem.W.keepIn K (.ref a_fraction)=true) (n_fraction:mg "fraction"=some (.ref a_fraction))
  (m_len:mg "len"=none)
  : aW P w K mg base (CX1 P w) 3 f fd ["line"] (spP K cl dO):=by
 have nd:=aap.nd
 refine okX (np:=1) (n:=5) F aap (by decide) (by decide) (b:=iE) (k:=2) fun cdv A outer s H E hr=>?_
 exact (aZ (bS (i:=1) nd rfl (Or.inl rfl) (qT PySem.F.slot_str_split PySem.F.type_str_split tI (aD 0) (aF fF aI)))
   (aZ (gU (iH GX_refuse_unless (hr.mono (by decide)) rfl n_refuse_unless k_refuse_unless gG .nil Dv.nil (aF (hV agX akE (cX fP fR rfl m_len fL (aF (aD 1) aI)) aH (bY _)) aI)))
   (aZ (bS (i:=2) nd rfl (Or.inl rfl) (qT PySem.F.slot_str_startswith PySem.F.type_str_startswith aes (bH (aD 1) aH) (aF fF aI)))
   (aZ (bS (i:=3) nd rfl (Or.inl rfl) (iH GX_read_whole (hr.mono (by decide)) rfl n_read_whole k_read_whole mY .nil Dv.nil (aF (qV (jP (aD 2)) (ajM (bH (aD 1) aH) (hJ aH) gZ) (bH (aD 1) aH)) aI)))
   (aZ (bS (i:=4) nd rfl (Or.inl rfl) (qV (cM (dS (hu8 hr)) dX (cX fP fR rfl m_len fL (aF (aD 1) aI)) aH (bY _)) (iH GX_read_whole (hr.mono (by decide)) rfl n_read_whole k_read_whole mY .nil Dv.nil (aF (bH (aD 1) aH) aI)) aH))
   (aZ (gU (iH GX_refuse_unless (hr.mono (by decide)) rfl n_refuse_unless k_refuse_unless gG .nil Dv.nil (aF (hV (jD (hu8 hr)) jG (aD 4) aH (bY _)) aI)))
   (bB (bI (iH GX_fraction (hr.mono (by decide)) rfl n_fraction k_fraction lN .nil Dv.nil (aF (qV (jP (aD 2)) (eJ eI eK (aD 3)) (aD 3)) (aF (aD 4) aI)))))))))))
theorem aav:bQ ["line","parts"] ["line"] (aX sA):=⟨rfl,rfl,rfl,by decide +kernel,rfl,by decide +kernel,by decide +kernel⟩
theorem abB {f:Addr} {fd:FuncData} (F:Fun K "read_point" "read_point" sA f fd)
  {a_read_number:Addr} {d_read_number:FuncData}
  (GX_read_number:aW P w K mg base (CX1 P w) 3 a_read_number d_read_number ["line"] (spP K cl dO))
  (G_read_number:aW P w K mg base CX0 3 a_read_number d_read_number ["line"] (bL K cl dO)) (iE:cU K d_read_number ["line"] []) (k_read_number:PySem.W.keepIn K (.ref a_read_number)=true) (n_read_number:mg "read_number"=some (.ref a_read_number))
  {a_refuse_unless:Addr} {d_refuse_unless:FuncData}
  (GX_refuse_unless:aW P w K mg base (CX1 P w) 1 a_refuse_unless d_refuse_unless ["fits"] (spP K cl eR))
  (G_refuse_unless:aW P w K mg base CX0 1 a_refuse_unless d_refuse_unless ["fits"] (bL K cl eR)) (gG:cU K d_refuse_unless ["fits"] []) (k_refuse_unless:PySem.W.keepIn K (.ref a_refuse_unless)=true) (n_refuse_unless:mg "refuse_unless"=some (.ref a_refuse_unless))
  (C_point_at:Cal P w K mg base cl "point_at" 4 ["parts"] jL)
  (m_len:mg "len"=none)
  : aW P w K mg base (CX1 P w) 5 f fd ["line"] (spP K cl iT):=by
 have nd:=aav.nd
 refine okX (np:=1) (n:=2) F aav (by decide) (by decide) (b:=pO) (k:=4) fun cdv A outer s H E hr=>?_
 exact (aZ (ae1 (i:=1) (own:=["text"]) (cap:=[]) nd rfl (Or.inl rfl) (dA (aX sA) ["line","parts"] rfl rfl rfl (by decide +kernel) (by decide +kernel) (by decide +kernel) (by decide +kernel) (by decide +kernel)) (dP (qT PySem.F.slot_str_split PySem.F.type_str_split tI (aD 0) (aF fF aI))) rfl (fun _ _ _ _=>(cF (i:=0) (show (bF ["text"] []).Nodup by decide +kernel) rfl (Or.inl rfl) (Or.inr rfl))) (fun _ _ _ _ _ hp=>(lQ hp GX_read_number (hr.mono (by decide)) rfl n_read_number k_read_number iE .nil Dv.nil (aF (aD 0) aI))))
   (aZ (gU (iH GX_refuse_unless (hr.mono (by decide)) rfl n_refuse_unless k_refuse_unless gG .nil Dv.nil (aF (akb (hV (dS (hu8 hr)) dX (cX fP fR rfl m_len fL (aF (aD 1) aI)) aH (bY _)) (oB (hV (dS (hu8 hr)) dX (cX fP fR rfl m_len fL (aF (aD 1) aI)) aH (bY _)))) aI)))
   (bB (bI (bP C_point_at hr (by decide) rfl (aF (aD 1) aI))))))
theorem aad:bQ ["text","corners"] ["text"] (aX pM):=⟨rfl,rfl,rfl,by decide +kernel,rfl,by decide +kernel,by decide +kernel⟩
theorem aaQ {f:Addr} {fd:FuncData} (F:Fun K "read_corners" "read_corners" pM f fd)
  {a_read_point:Addr} {d_read_point:FuncData}
  (GX_read_point:aW P w K mg base (CX1 P w) 5 a_read_point d_read_point ["line"] (spP K cl iT))
  (G_read_point:aW P w K mg base CX0 5 a_read_point d_read_point ["line"] (bL K cl iT)) (pO:cU K d_read_point ["line"] []) (k_read_point:PySem.W.keepIn K (.ref a_read_point)=true) (n_read_point:mg "read_point"=some (.ref a_read_point))
  {a_refuse_unless:Addr} {d_refuse_unless:FuncData}
  (GX_refuse_unless:aW P w K mg base (CX1 P w) 1 a_refuse_unless d_refuse_unless ["fits"] (spP K cl eR))
  (G_refuse_unless:aW P w K mg base CX0 1 a_refuse_unless d_refuse_unless ["fits"] (bL K cl eR)) (gG:cU K d_refuse_unless ["fits"] []) (k_refuse_unless:PySem.W.keepIn K (.ref a_refuse_unless)=true) (n_refuse_unless:mg "refuse_unless"=some (.ref a_refuse_unless))
  (m_all:mg "all"=none)
  (m_len:mg "len"=none)
  : aW P w K mg base (CX1 P w) 6 f fd ["text"] (spP K cl kF):=by
 have nd:=aad.nd
 refine okX (np:=1) (n:=2) F aad (by decide) (by decide) (b:=pN) (k:=5) fun cdv A outer s H E hr=>?_
 exact (aZ (bS (i:=1) nd rfl (Or.inr rfl) (nR (own:=["part"]) (cap:=[]) (dA (aX pM) ["text","corners"] rfl rfl rfl (by decide +kernel) (by decide +kernel) (by decide +kernel) (by decide +kernel) (by decide +kernel)) (dP (qT PySem.F.slot_str_split PySem.F.type_str_split tI (aD 0) (aF fF aI))) rfl (fun _ _ _ _=>(cF (i:=0) (show (bF ["part"] []).Nodup by decide +kernel) rfl (Or.inl rfl) (Or.inr rfl))) (fun _ _ _ _ _ hp=>(lQ hp GX_read_point (hr.mono (by decide)) rfl n_read_point k_read_point pO .nil Dv.nil (aF (aD 0) aI)))))
   (aZ (gU (iH GX_refuse_unless (hr.mono (by decide)) rfl n_refuse_unless k_refuse_unless gG .nil Dv.nil (aF (cX (nO rfl) oS rfl m_all oN (aF (fQ (own:=["p"]) (cap:=[(1,"corners")]) (dA (aX pM) ["text","corners"] rfl rfl rfl (by decide +kernel) (by decide +kernel) (by decide +kernel) (by decide +kernel) (by decide +kernel)) (dP (aD 1)) rfl (fun _ _ _ _=>(cF (i:=0) (show (bF ["p"] [(1,"corners")]).Nodup by decide +kernel) rfl (Or.inl rfl) (Or.inr rfl))) (fun _ _ _ _=>(hV (dS (hu8 hr)) dX (cX fP fR rfl m_len fL (aF (aD 0) aI)) (cX fP fR rfl m_len fL (aF (aD 1) aI)) (bY _)))) aI)) aI)))
   (bB (bI (aD 1)))))
theorem aaz:bQ ["line"] ["line"] (aX wP):=⟨rfl,rfl,rfl,by decide +kernel,rfl,by decide +kernel,by decide +kernel⟩
theorem abO {f:Addr} {fd:FuncData} (F:Fun K "read_rows" "read_rows" wP f fd)
  (gt_NOTHING:GlT K mg "NOTHING" (.str "none"))
  : aW P w K mg base CX0 1 f fd ["line"] (bL K cl nF):=by
 have nd:=aaz.nd
 refine okP (np:=1) (n:=1) F aaz (by decide) (by decide) (b:=sH) (k:=0) fun cdv A outer s H E hr=>?_
 exact (bB (bI (qV (cM (dS (hu8 hr)) dX (aD 0) (tK rfl gt_NOTHING) (bY _)) (gM aI) (qT PySem.F.slot_str_split PySem.F.type_str_split tI (aD 0) (aF fF aI)))))
theorem aay:bQ ["line","rows"] ["line"] (aX nC):=⟨rfl,rfl,rfl,by decide +kernel,rfl,by decide +kernel,by decide +kernel⟩
theorem ab6 {f:Addr} {fd:FuncData} (F:Fun K "read_heap" "read_heap" nC f fd)
  (C_read_rows:Cal P w K mg base cl "read_rows" 1 ["line"] nF)
  {a_read_corners:Addr} {d_read_corners:FuncData}
  (GX_read_corners:aW P w K mg base (CX1 P w) 6 a_read_corners d_read_corners ["text"] (spP K cl kF))
  (G_read_corners:aW P w K mg base CX0 6 a_read_corners d_read_corners ["text"] (bL K cl kF)) (pN:cU K d_read_corners ["text"] []) (k_read_corners:PySem.W.keepIn K (.ref a_read_corners)=true) (n_read_corners:mg "read_corners"=some (.ref a_read_corners))
  {a_refuse_unless:Addr} {d_refuse_unless:FuncData}
  (GX_refuse_unless:aW P w K mg base (CX1 P w) 1 a_refuse_unless d_refuse_unless ["fits"] (spP K cl eR))
  (G_refuse_unless:aW P w K mg base CX0 1 a_refuse_unless d_refuse_unless ["fits"] (bL K cl eR)) (gG:cU K d_refuse_unless ["fits"] []) (k_refuse_unless:PySem.W.keepIn K (.ref a_refuse_unless)=true) (n_refuse_unless:mg "refuse_unless"=some (.ref a_refuse_unless))
  {a_simplex:Addr} {d_simplex:FuncData}
  (GX_simplex:aW P w K mg base (CX1 P w) 4 a_simplex d_simplex ["points"] (spP K cl iY))
  (G_simplex:aW P w K mg base CX0 4 a_simplex d_simplex ["points"] (bL K cl iY)) (nK:cU K d_simplex ["points"] []) (k_simplex:PySem.W.keepIn K (.ref a_simplex)=true) (n_simplex:mg "simplex"=some (.ref a_simplex))
  (m_all:mg "all"=none)
  (m_len:mg "len"=none)
  (m_tuple:mg "tuple"=none)
  : aW P w K mg base (CX1 P w) 7 f fd ["line"] (spP K cl nE):=by
 have nd:=aay.nd
 refine okX (np:=1) (n:=2) F aay (by decide) (by decide) (b:=pQ) (k:=6) fun cdv A outer s H E hr=>?_
 exact (aZ (bS (i:=1) nd rfl (Or.inr rfl) (nR (own:=["text"]) (cap:=[]) (dA (aX nC) ["line","rows"] rfl rfl rfl (by decide +kernel) (by decide +kernel) (by decide +kernel) (by decide +kernel) (by decide +kernel)) (dP (bP C_read_rows hr (by decide) rfl (aF (aD 0) aI))) rfl (fun _ _ _ _=>(cF (i:=0) (show (bF ["text"] []).Nodup by decide +kernel) rfl (Or.inl rfl) (Or.inr rfl))) (fun _ _ _ _ _ hp=>(lQ hp GX_read_corners (hr.mono (by decide)) rfl n_read_corners k_read_corners pN .nil Dv.nil (aF (aD 0) aI)))))
   (aZ (gU (iH GX_refuse_unless (hr.mono (by decide)) rfl n_refuse_unless k_refuse_unless gG .nil Dv.nil (aF (cX (nO rfl) oS rfl m_all oN (aF (fQ (own:=["corners"]) (cap:=[(1,"rows")]) (dA (aX nC) ["line","rows"] rfl rfl rfl (by decide +kernel) (by decide +kernel) (by decide +kernel) (by decide +kernel) (by decide +kernel)) (dP (aD 1)) rfl (fun _ _ _ _=>(cF (i:=0) (show (bF ["corners"] [(1,"rows")]).Nodup by decide +kernel) rfl (Or.inl rfl) (Or.inr rfl))) (fun _ _ _ _=>(hV (dS (hu8 hr)) dX (cX fP fR rfl m_len fL (aF (aD 0) aI)) (cX fP fR rfl m_len fL (aF (bH (aD 1) aH) aI)) (bY _)))) aI)) aI)))
   (bB (bI (fJ kH kO rfl m_tuple iG (aF (nR (own:=["corners"]) (cap:=[]) (dA (aX nC) ["line","rows"] rfl rfl rfl (by decide +kernel) (by decide +kernel) (by decide +kernel) (by decide +kernel) (by decide +kernel)) (dP (aD 1)) rfl (fun _ _ _ _=>(cF (i:=0) (show (bF ["corners"] []).Nodup by decide +kernel) rfl (Or.inl rfl) (Or.inr rfl))) (fun _ _ _ _ _ hp=>(lQ hp GX_simplex (hr.mono (by decide)) rfl n_simplex k_simplex nK .nil Dv.nil (aF (aD 0) aI)))) aI))))))
theorem adQ:bQ ["_law_script","_law_row_here","_law_k","_law_cell","_law_one","_law_two","_law_three"] ["_law_script"] (aX zX):=⟨rfl,rfl,rfl,by decide +kernel,rfl,by decide +kernel,by decide +kernel⟩
theorem agV {f:Addr} {fd:FuncData} (F:Fun K "_law_row" "_law_row" zX f fd)
  (m_enumerate:mg "enumerate"=none)
  : aW P w K mg base CX0 1 f fd ["_law_script"] (bL K cl oJ):=by
 have nd:=adQ.nd
 refine okP (np:=1) (n:=7) F adQ (by decide) (by decide) (b:=zE) (k:=0) fun cdv A outer s H E hr=>?_
 exact (aZ (bS (i:=1) nd rfl (Or.inl rfl) (qD aI))
   (aZ (kN PassesOwn.never rfl (afE rfl m_enumerate (aF (iQ (aD 0) gZ (hJ aH)) aI)) (qH rfl (iZ (cF (i:=2) nd rfl (Or.inl rfl)) (iZ (cF (i:=3) nd rfl (Or.inl rfl)) qA))) (bB (cQ (cM uS vW (aD 3) (aV jR jY aH aH) (bY _)) (bB (gU (nJ (aD 1) (aF (aV fY gD (aD 3) (aV jR jY aH aH)) aI)))) (aZ (bS (i:=4) nd rfl (Or.inl rfl) (aV jQ kA (aV cJ cK (aV dD dE (aV dD dE (aV dD dE (aD 3) (aV cJ cK (aV cJ cK aH (aD 2)) (aD 2))) (aV cJ cK aH (aD 2))) aH) aH) aH))
   (aZ (bS (i:=5) nd rfl (Or.inl rfl) (aV jQ kA (aV cJ cK (aV dD dE (aV dD dE (aV dD dE (aD 3) (aV cJ cK (aV cJ cK aH (aD 2)) (aD 2))) (aV cJ cK aH (aD 2))) aH) aH) aH))
   (aZ (bS (i:=6) nd rfl (Or.inl rfl) (aV jQ kA (aV cJ cK (aV dD dE (aV dD dE (aV dD dE (aD 3) (aV cJ cK (aV cJ cK aH (aD 2)) (aD 2))) (aV cJ cK aH (aD 2))) aH) aH) aH))
   (aZ (bS (i:=4) nd rfl (Or.inl rfl) (aV jQ kA (aV cJ cK (aD 4) aH) aH))
   (aZ (bS (i:=5) nd rfl (Or.inl rfl) (aV jQ kA (aV cJ cK (aD 5) aH) aH))
   (aZ (bS (i:=6) nd rfl (Or.inl rfl) (aV jQ kA (aV cJ cK (aD 6) aH) aH))
   (bB (gU (nJ (aD 1) (aF (aV dD dE (aV cJ cK (aV dD dE (aV cJ cK (aD 4) aH) (aD 5)) aH) (aD 6)) aI)))))))))))))
   (bB (bI (aD 1)))))
theorem acF:bQ ["_law_row_here","_law_many","_law_found"] ["_law_row_here","_law_many"] (aX zC):=⟨rfl,rfl,rfl,by decide +kernel,rfl,by decide +kernel,by decide +kernel⟩
theorem afj {f:Addr} {fd:FuncData} (F:Fun K "_law_take" "_law_take" zC f fd)
  (m_len:mg "len"=none)
  : aW P w K mg base CX0 1 f fd ["_law_row_here","_law_many"] (bL K cl cG):=by
 have nd:=acF.nd
 refine okP (np:=2) (n:=3) F acF (by decide) (by decide) (b:=tO) (k:=0) fun cdv A outer s H E hr=>?_
 exact (aZ (xQ PassesOwn.never (PWp.pt (agI (cM ahY akq (cX fP fR rfl m_len fL (aF (aD 0) aI)) aH (bY _)) (afd (cM (dS (hu8 hr)) dX (bH (aD 0) aH) aH (bY _))))) (bB (gU (ajq (aD 0) (aF aH aI)))))
   (aZ (cQ (cM (dS (hu8 hr)) dX (cX fP fR rfl m_len fL (aF (aD 0) aI)) aH (bY _)) (bB (bI aH)) cW)
   (aZ (bS (i:=2) nd rfl (Or.inl rfl) (aV jQ kA (bH (aD 0) aH) (aD 1)))
   (aZ (adV (aV nP oI (bH (aD 0) aH) (aD 1)) (aD 0) aH)
   (bB (bI (aD 2)))))))
theorem aej:bQ ["_law_one","_law_other"] ["_law_one","_law_other"] (aX zO):=⟨rfl,rfl,rfl,by decide +kernel,rfl,by decide +kernel,by decide +kernel⟩
theorem agY {f:Addr} {fd:FuncData} (F:Fun K "_law_gcd" "_law_gcd" zO f fd)
  (m_abs:mg "abs"=none)
  : aW P w K mg base CX0 1 f fd ["_law_one","_law_other"] (bL K cl oD):=by
 have nd:=aej.nd
 refine okP (np:=2) (n:=2) F aej (by decide) (by decide) (b:=zV) (k:=0) fun cdv A outer s H E hr=>?_
 exact (aZ (bS (i:=0) nd rfl (Or.inl rfl) (cX nS pA rfl m_abs oH (aF (aD 0) aI)))
   (aZ (bS (i:=1) nd rfl (Or.inl rfl) (cX nS pA rfl m_abs oH (aF (aD 1) aI)))
   (aZ (xQ PassesOwn.never (cM ahY akq (aD 1) aH (bY _)) (bB (ahB (i:=0) (j:=1) rfl nd rfl rfl (by decide) rfl rfl (aF (aD 1) (aF (aV jQ kA (aD 0) (aD 1)) aI)) rfl)))
   (bB (bI (aD 0))))))
theorem abd:bQ ["_law_numbers","_law_by","_law_number"] ["_law_numbers"] (aX sZ):=⟨rfl,rfl,rfl,by decide +kernel,rfl,by decide +kernel,by decide +kernel⟩
theorem adn {f:Addr} {fd:FuncData} (F:Fun K "_law_lowest" "_law_lowest" sZ f fd)
  (C_wgcd:Cal P w K mg base cl "_law_gcd" 1 ["_law_one","_law_other"] oD)
  (m_tuple:mg "tuple"=none)
  : aW P w K mg base CX0 2 f fd ["_law_numbers"] (bL K cl fE):=by
 have nd:=abd.nd
 refine okP (np:=1) (n:=3) F abd (by decide) (by decide) (b:=sU) (k:=1) fun cdv A outer s H E hr=>?_
 exact (aZ (bS (i:=1) nd rfl (Or.inr rfl) aH)
   (aZ (kN PassesOwn.never rfl (dP (aD 0)) (cF (i:=2) nd rfl (Or.inl rfl)) (bB (bS (i:=1) nd rfl (Or.inr rfl) (bP C_wgcd hr (by decide) rfl (aF (aD 1) (aF (aD 2) aI))))))
   (aZ (cQ (cM (dS (hu8 hr)) dX (aD 1) aH (bY _)) (bB (bI (fJ kH kO rfl m_tuple iG (aF (aD 0) aI)))) cW)
   (bB (bI (fJ kH kO rfl m_tuple iG (aF (fQ (own:=["_law_number"]) (cap:=[(1,"_law_by")]) (dA (aX sZ) ["_law_numbers","_law_by","_law_number"] rfl rfl rfl (by decide +kernel) (by decide +kernel) (by decide +kernel) (by decide +kernel) (by decide +kernel)) (dP (aD 0)) rfl (fun _ _ _ _=>(cF (i:=0) (show (bF ["_law_number"] [(1,"_law_by")]).Nodup by decide +kernel) rfl (Or.inl rfl) (Or.inr rfl))) (fun _ _ _ _=>(aV nP oI (aD 0) (aD 1)))) aI)))))))
theorem ab3:bQ ["_law_number"] ["_law_number"] (aX yB):=⟨rfl,rfl,rfl,by decide +kernel,rfl,by decide +kernel,by decide +kernel⟩
theorem ael {f:Addr} {fd:FuncData} (F:Fun K "_law_whole" "_law_whole" yB f fd)
  (m_bool:mg "bool"=none)
  (m_int:mg "int"=none)
  (m_isinstance:mg "isinstance"=none)
  : aW P w K mg base CX0 1 f fd ["_law_number"] (bL K cl nQ):=by
 have nd:=ab3.nd
 refine okP (np:=1) (n:=1) F ab3 (by decide) (by decide) (b:=yC) (k:=0) fun cdv A outer s H E hr=>?_
 exact (bB (bI (qN (oA (n:="int") rfl m_isinstance rfl m_int agh (aD 0)) (oB (ain (oA (n:="bool") rfl m_isinstance rfl m_bool ahg (aD 0)))))))
theorem abe:bQ ["_law_told","_law_many"] ["_law_told","_law_many"] (aX sO):=⟨rfl,rfl,rfl,by decide +kernel,rfl,by decide +kernel,by decide +kernel⟩
theorem adi {f:Addr} {fd:FuncData} (F:Fun K "_law_wholes" "_law_wholes" sO f fd)
  (C_wwhole:Cal P w K mg base cl "_law_whole" 1 ["_law_number"] nQ)
  (m_all:mg "all"=none)
  (m_isinstance:mg "isinstance"=none)
  (m_len:mg "len"=none)
  (m_tuple:mg "tuple"=none)
  : aW P w K mg base CX0 2 f fd ["_law_told","_law_many"] (bL K cl pV):=by
 have nd:=abe.nd
 refine okP (np:=2) (n:=2) F abe (by decide) (by decide) (b:=xI) (k:=1) fun cdv A outer s H E hr=>?_
 exact (aZ (cQ (PWp.pt (oE (lU (jP (oA (n:="tuple") rfl m_isinstance rfl m_tuple iG (aD 0)))) (qI (cM (jD (hu8 hr)) jG (cX fP fR rfl m_len fL (aF (aD 0) aI)) (aD 1) (bY _))))) (bB (bI mH)) cW)
   (bB (bI (cX (nO rfl) oS rfl m_all oN (aF (fQ (own:=["_law_number"]) (cap:=[]) (dA (aX sO) ["_law_told","_law_many"] rfl rfl rfl (by decide +kernel) (by decide +kernel) (by decide +kernel) (by decide +kernel) (by decide +kernel)) (dP (aD 0)) rfl (fun _ _ _ _=>(cF (i:=0) (show (bF ["_law_number"] []).Nodup by decide +kernel) rfl (Or.inl rfl) (Or.inr rfl))) (fun _ _ _ _=>(bP C_wwhole hr (by decide) rfl (aF (aD 0) aI)))) aI)))))
theorem acX:bQ ["_law_top","_law_bottom"] ["_law_top","_law_bottom"] (aX yN):=⟨rfl,rfl,rfl,by decide +kernel,rfl,by decide +kernel,by decide +kernel⟩
theorem af3 {f:Addr} {fd:FuncData} (F:Fun K "_law_frac" "_law_frac" yN f fd)
  (C_wlowest:Cal P w K mg base cl "_law_lowest" 2 ["_law_numbers"] fE)
  : aW P w K mg base CX0 3 f fd ["_law_top","_law_bottom"] (bL K cl nT):=by
 have nd:=acX.nd
 refine okP (np:=2) (n:=2) F acX (by decide) (by decide) (b:=yX) (k:=2) fun cdv A outer s H E hr=>?_
 exact (aZ (cQ (cM oX pH (aD 1) aH (bY _)) (bB (bI (bP C_wlowest hr (by decide) rfl (aF (gM (aF (aV fY gD aH (aD 0)) (aF (aV fY gD aH (aD 1)) aI))) aI)))) cW)
   (bB (bI (bP C_wlowest hr (by decide) rfl (aF (gM (aF (aD 0) (aF (aD 1) aI))) aI)))))
theorem aeS:bQ ["_law_p","_law_q"] ["_law_p","_law_q"] (aX uE):=⟨rfl,rfl,rfl,by decide +kernel,rfl,by decide +kernel,by decide +kernel⟩
theorem ag2 {f:Addr} {fd:FuncData} (F:Fun K "_law_gap" "_law_gap" uE f fd)
  (m_len:mg "len"=none)
  (m_range:mg "range"=none)
  : aW P w K mg base CX0 1 f fd ["_law_p","_law_q"] (bL K cl lW):=by
 have nd:=aeS.nd
 refine okP (np:=2) (n:=2) F aeS (by decide) (by decide) (b:=zZ) (k:=0) fun cdv A outer s H E hr=>?_
 exact (bB (bI (fQ (own:=["_law_k"]) (cap:=[(1,"_law_q"),(0,"_law_p")]) (dA (aX uE) ["_law_p","_law_q"] rfl rfl rfl (by decide +kernel) (by decide +kernel) (by decide +kernel) (by decide +kernel) (by decide +kernel)) (lM rfl m_range (aF (aV fY gD (cX fP fR rfl m_len fL (aF (aD 0) aI)) aH) aI)) rfl (fun _ _ _ _=>(cF (i:=0) (show (bF ["_law_k"] [(1,"_law_q"),(0,"_law_p")]).Nodup by decide +kernel) rfl (Or.inl rfl) (Or.inr rfl))) (fun _ _ _ _=>(aV fY gD (aV cJ cK (bH (aD 1) (aD 0)) (bH (aD 2) (eJ eI eK aH))) (aV cJ cK (bH (aD 2) (aD 0)) (bH (aD 1) (eJ eI eK aH))))))))
theorem aca:bQ ["_law_u","_law_v","_law_x","_law_y","_law_z"] ["_law_u","_law_v"] (aX xZ):=⟨rfl,rfl,rfl,by decide +kernel,rfl,by decide +kernel,by decide +kernel⟩
theorem aeQ {f:Addr} {fd:FuncData} (F:Fun K "_law_cross" "_law_cross" xZ f fd)
  : aW P w K mg base CX0 1 f fd ["_law_u","_law_v"] (bL K cl qB):=by
 have nd:=aca.nd
 refine okP (np:=2) (n:=5) F aca (by decide) (by decide) (b:=yG) (k:=0) fun cdv A outer s H E hr=>?_
 exact (aZ (bS (i:=2) nd rfl (Or.inl rfl) (aV fY gD (aV cJ cK (bH (aD 0) aH) (bH (aD 1) aH)) (aV cJ cK (bH (aD 0) aH) (bH (aD 1) aH))))
   (aZ (bS (i:=3) nd rfl (Or.inl rfl) (aV fY gD (aV cJ cK (bH (aD 0) aH) (bH (aD 1) aH)) (aV cJ cK (bH (aD 0) aH) (bH (aD 1) aH))))
   (aZ (bS (i:=4) nd rfl (Or.inl rfl) (aV fY gD (aV cJ cK (bH (aD 0) aH) (bH (aD 1) aH)) (aV cJ cK (bH (aD 0) aH) (bH (aD 1) aH))))
   (bB (bI (gM (aF (aD 2) (aF (aD 3) (aF (aD 4) aI)))))))))
theorem aeB:bQ ["_law_u","_law_v"] ["_law_u","_law_v"] (aX uG):=⟨rfl,rfl,rfl,by decide +kernel,rfl,by decide +kernel,by decide +kernel⟩
theorem ahs {f:Addr} {fd:FuncData} (F:Fun K "_law_dot" "_law_dot" uG f fd)
  (m_sum:mg "sum"=none)
  (m_zip:mg "zip"=none)
  : aW P w K mg base CX0 1 f fd ["_law_u","_law_v"] (bL K cl qU):=by
 have nd:=aeB.nd
 refine okP (np:=2) (n:=2) F aeB (by decide) (by decide) (b:=zY) (k:=0) fun cdv A outer s H E hr=>?_
 exact (bB (bI (cX (ace rfl) ajy rfl m_sum agb (aF (fQ (own:=["_law_one","_law_other"]) (cap:=[]) (dA (aX uG) ["_law_u","_law_v"] rfl rfl rfl (by decide +kernel) (by decide +kernel) (by decide +kernel) (by decide +kernel) (by decide +kernel)) (yO rfl m_zip (aF (aD 0) (aF (aD 1) aI))) rfl (fun _ _ _ _=>(qH rfl (iZ (cF (i:=0) (show (bF ["_law_one","_law_other"] []).Nodup by decide +kernel) rfl (Or.inl rfl) (Or.inr rfl)) (iZ (cF (i:=1) (show (bF ["_law_one","_law_other"] []).Nodup by decide +kernel) rfl (Or.inl rfl) (Or.inr rfl)) qA)))) (fun _ _ _ _=>(aV cJ cK (aD 0) (aD 1)))) aI))))
theorem ac7:bQ ["_law_ways"] ["_law_ways"] (aX yJ):=⟨rfl,rfl,rfl,by decide +kernel,rfl,by decide +kernel,by decide +kernel⟩
theorem afy {f:Addr} {fd:FuncData} (F:Fun K "_law_turn" "_law_turn" yJ f fd)
  (C_wdot:Cal P w K mg base cl "_law_dot" 1 ["_law_u","_law_v"] qU)
  (C_wcross:Cal P w K mg base cl "_law_cross" 1 ["_law_u","_law_v"] qB)
  (m_len:mg "len"=none)
  : aW P w K mg base CX0 2 f fd ["_law_ways"] (bL K cl iI):=by
 have nd:=ac7.nd
 refine okP (np:=1) (n:=1) F ac7 (by decide) (by decide) (b:=nY) (k:=1) fun cdv A outer s H E hr=>?_
 exact (aZ (cQ (cM (dS (hu8 hr)) dX (cX fP fR rfl m_len fL (aF (aD 0) aI)) aH (bY _)) (bB (bI (aV fY gD (aV cJ cK (bH (bH (aD 0) aH) aH) (bH (bH (aD 0) aH) aH)) (aV cJ cK (bH (bH (aD 0) aH) aH) (bH (bH (aD 0) aH) aH))))) cW)
   (bB (bI (bP C_wdot hr (by decide) rfl (aF (bP C_wcross hr (by decide) rfl (aF (bH (aD 0) aH) (aF (bH (aD 0) aH) aI))) (aF (bH (aD 0) aH) aI))))))
theorem ad4:bQ ["_law_points"] ["_law_points"] (aX uF):=⟨rfl,rfl,rfl,by decide +kernel,rfl,by decide +kernel,by decide +kernel⟩
theorem ahx {f:Addr} {fd:FuncData} (F:Fun K "_law_det" "_law_det" uF f fd)
  (C_wturn:Cal P w K mg base cl "_law_turn" 2 ["_law_ways"] iI)
  (C_wgap:Cal P w K mg base cl "_law_gap" 1 ["_law_p","_law_q"] lW)
  : aW P w K mg base CX0 3 f fd ["_law_points"] (bL K cl eH):=by
 have nd:=ad4.nd
 refine okP (np:=1) (n:=1) F ad4 (by decide) (by decide) (b:=oF) (k:=2) fun cdv A outer s H E hr=>?_
 exact (bB (bI (bP C_wturn hr (by decide) rfl (aF (fQ (own:=["_law_p"]) (cap:=[(0,"_law_points")]) (dA (aX uF) ["_law_points"] rfl rfl rfl (by decide +kernel) (by decide +kernel) (by decide +kernel) (by decide +kernel) (by decide +kernel)) (dP (iQ (aD 0) (hJ aH) gZ)) rfl (fun _ _ _ _=>(cF (i:=0) (show (bF ["_law_p"] [(0,"_law_points")]).Nodup by decide +kernel) rfl (Or.inl rfl) (Or.inr rfl))) (fun _ _ _ _=>(bP C_wgap hr (by decide) rfl (aF (bH (aD 1) aH) (aF (aD 0) aI))))) aI))))
theorem aaJ:bQ ["_law_points","_law_told"] ["_law_points"] (aX xB):=⟨rfl,rfl,rfl,by decide +kernel,rfl,by decide +kernel,by decide +kernel⟩
theorem acz {f:Addr} {fd:FuncData} (F:Fun K "_law_simplex" "_law_simplex" xB f fd)
  (C_wdet:Cal P w K mg base cl "_law_det" 3 ["_law_points"] eH)
  (m_sorted:mg "sorted"=none)
  (m_tuple:mg "tuple"=none)
  : aW P w K mg base CX0 4 f fd ["_law_points"] (bL K cl fI):=by
 have nd:=aaJ.nd
 refine okP (np:=1) (n:=2) F aaJ (by decide) (by decide) (b:=nH) (k:=3) fun cdv A outer s H E hr=>?_
 exact (aZ (bS (i:=1) nd rfl (Or.inl rfl) (cX abn agl rfl m_sorted acg (aF (aD 0) aI)))
   (aZ (cQ (cM oX pH (bP C_wdet hr (by decide) rfl (aF (aD 1) aI)) aH (bY _)) (bB (bS (i:=1) nd rfl (Or.inl rfl) (aV dD dE (iQ (aD 1) gZ (hJ (eJ eI eK aH))) (gM (aF (bH (aD 1) (eJ eI eK aH)) (aF (bH (aD 1) (eJ eI eK aH)) aI)))))) cW)
   (bB (bI (fJ kH kO rfl m_tuple iG (aF (aD 1) aI))))))
theorem aah:bQ ["_law_p","_law_many"] ["_law_p","_law_many"] (aX wH):=⟨rfl,rfl,rfl,by decide +kernel,rfl,by decide +kernel,by decide +kernel⟩
theorem aaZ {f:Addr} {fd:FuncData} (F:Fun K "_law_point_form" "_law_point_form" wH f fd)
  (C_wwholes:Cal P w K mg base cl "_law_wholes" 2 ["_law_told","_law_many"] pV)
  (C_wlowest:Cal P w K mg base cl "_law_lowest" 2 ["_law_numbers"] fE)
  : aW P w K mg base CX0 3 f fd ["_law_p","_law_many"] (bL K cl mV):=by
 have nd:=aah.nd
 refine okP (np:=2) (n:=2) F aah (by decide) (by decide) (b:=wE) (k:=2) fun cdv A outer s H E hr=>?_
 exact (aZ (cQ (PWp.pt (oE (lU (jP (bP C_wwholes hr (by decide) rfl (aF (aD 0) (aF (aV dD dE (aD 1) aH) aI))))) (qI (cM oX pH (bH (aD 0) (eJ eI eK aH)) aH (bY _))))) (bB (bI mH)) cW)
   (bB (bI (hV (dS (hu8 hr)) dX (bP C_wlowest hr (by decide) rfl (aF (aD 0) aI)) (aD 0) (bY _)))))
theorem aaa:bQ ["_law_points","_law_many"] ["_law_points","_law_many"] (aX rN):=⟨rfl,rfl,rfl,by decide +kernel,rfl,by decide +kernel,by decide +kernel⟩
theorem aaC {f:Addr} {fd:FuncData} (F:Fun K "_law_simplex_form" "_law_simplex_form" rN f fd)
  (C_wpoint_form:Cal P w K mg base cl "_law_point_form" 3 ["_law_p","_law_many"] mV)
  (C_wdet:Cal P w K mg base cl "_law_det" 3 ["_law_points"] eH)
  (C_wsimplex:Cal P w K mg base cl "_law_simplex" 4 ["_law_points"] fI)
  (m_all:mg "all"=none)
  (m_isinstance:mg "isinstance"=none)
  (m_len:mg "len"=none)
  (m_tuple:mg "tuple"=none)
  : aW P w K mg base CX0 5 f fd ["_law_points","_law_many"] (bL K cl mP):=by
 have nd:=aaa.nd
 refine okP (np:=2) (n:=2) F aaa (by decide) (by decide) (b:=vZ) (k:=4) fun cdv A outer s H E hr=>?_
 exact (aZ (cQ (PWp.pt (oE (lU (jP (oA (n:="tuple") rfl m_isinstance rfl m_tuple iG (aD 0)))) (qI (cM (jD (hu8 hr)) jG (cX fP fR rfl m_len fL (aF (aD 0) aI)) (aV dD dE (aD 1) aH) (bY _))))) (bB (bI mH)) cW)
   (aZ (cQ (lU (jP (cX (nO rfl) oS rfl m_all oN (aF (fQ (own:=["_law_p"]) (cap:=[(1,"_law_many")]) (dA (aX rN) ["_law_points","_law_many"] rfl rfl rfl (by decide +kernel) (by decide +kernel) (by decide +kernel) (by decide +kernel) (by decide +kernel)) (dP (aD 0)) rfl (fun _ _ _ _=>(cF (i:=0) (show (bF ["_law_p"] [(1,"_law_many")]).Nodup by decide +kernel) rfl (Or.inl rfl) (Or.inr rfl))) (fun _ _ _ _=>(bP C_wpoint_form hr (by decide) rfl (aF (aD 0) (aF (aD 1) aI))))) aI)))) (bB (bI mH)) cW)
   (bB (bI (qN (hV (jD (hu8 hr)) jG (bP C_wdet hr (by decide) rfl (aF (aD 0) aI)) aH (bY _)) (oB (hV (dS (hu8 hr)) dX (bP C_wsimplex hr (by decide) rfl (aF (aD 0) aI)) (aD 0) (bY _))))))))
theorem aar:bQ ["_law_heap","_law_many"] ["_law_heap","_law_many"] (aX sB):=⟨rfl,rfl,rfl,by decide +kernel,rfl,by decide +kernel,by decide +kernel⟩
theorem abC {f:Addr} {fd:FuncData} (F:Fun K "_law_heap_form" "_law_heap_form" sB f fd)
  (C_wsimplex_form:Cal P w K mg base cl "_law_simplex_form" 5 ["_law_points","_law_many"] mP)
  (m_all:mg "all"=none)
  (m_isinstance:mg "isinstance"=none)
  (m_tuple:mg "tuple"=none)
  : aW P w K mg base CX0 6 f fd ["_law_heap","_law_many"] (bL K cl mZ):=by
 have nd:=aar.nd
 refine okP (np:=2) (n:=2) F aar (by decide) (by decide) (b:=wL) (k:=5) fun cdv A outer s H E hr=>?_
 exact (aZ (cQ (lU (jP (oA (n:="tuple") rfl m_isinstance rfl m_tuple iG (aD 0)))) (bB (bI mH)) cW)
   (bB (bI (cX (nO rfl) oS rfl m_all oN (aF (fQ (own:=["_law_points"]) (cap:=[(1,"_law_many")]) (dA (aX sB) ["_law_heap","_law_many"] rfl rfl rfl (by decide +kernel) (by decide +kernel) (by decide +kernel) (by decide +kernel) (by decide +kernel)) (dP (aD 0)) rfl (fun _ _ _ _=>(cF (i:=0) (show (bF ["_law_points"] [(1,"_law_many")]).Nodup by decide +kernel) rfl (Or.inl rfl) (Or.inr rfl))) (fun _ _ _ _=>(bP C_wsimplex_form hr (by decide) rfl (aF (aD 0) (aF (aD 1) aI))))) aI)))))
theorem aa5:bQ ["_law_row_here","_law_rows"] ["_law_row_here","_law_rows"] (aX xH):=⟨rfl,rfl,rfl,by decide +kernel,rfl,by decide +kernel,by decide +kernel⟩
theorem adq {f:Addr} {fd:FuncData} (F:Fun K "_law_handed" "_law_handed" xH f fd)
  (C_wtake:Cal P w K mg base cl "_law_take" 1 ["_law_row_here","_law_many"] cG)
  (m_list:mg "list"=none)
  (m_tuple:mg "tuple"=none)
  : aW P w K mg base CX0 2 f fd ["_law_row_here","_law_rows"] (bL K cl nI):=by
 have nd:=aa5.nd
 refine okP (np:=2) (n:=2) F aa5 (by decide) (by decide) (b:=xN) (k:=1) fun cdv A outer s H E hr=>?_
 exact (aZ (cQ (cM (dS (hu8 hr)) dX (bP C_wtake hr (by decide) rfl (aF (aD 0) (aF aH aI))) aH (bY _)) (bB (bI (fJ kH kO rfl m_tuple iG (aF (aD 1) aI)))) cW)
   (bB (bI (fJ sD tR rfl m_list tL (aF (aD 1) aI)))))
theorem aaN:bQ ["_law_top","_law_bottom"] ["_law_top","_law_bottom"] (aX wS):=⟨rfl,rfl,rfl,by decide +kernel,rfl,by decide +kernel,by decide +kernel⟩
theorem aco {f:Addr} {fd:FuncData} (F:Fun K "_law_written" "_law_written" wS f fd)
  (C_wfrac:Cal P w K mg base cl "_law_frac" 3 ["_law_top","_law_bottom"] nT)
  (m_abs:mg "abs"=none)
  (m_str:mg "str"=none)
  : aW P w K mg base CX0 4 f fd ["_law_top","_law_bottom"] (bL K cl iX):=by
 have nd:=aaN.nd
 refine okP (np:=2) (n:=2) F aaN (by decide) (by decide) (b:=pR) (k:=3) fun cdv A outer s H E hr=>?_
 exact (aZ (ag9 (bP C_wfrac hr (by decide) rfl (aF (aD 0) (aF (aD 1) aI))) (qH rfl (iZ (cF (i:=0) nd rfl (Or.inl rfl)) (iZ (cF (i:=1) nd rfl (Or.inl rfl)) qA))))
   (aZ (cQ (PWp.pt (oE (cM uS vW (cX nS pA rfl m_abs oH (aF (aD 0) aI)) (aV jR jY aH aH) (bY _)) (qI (cM uS vW (aD 1) (aV jR jY aH aH) (bY _))))) (bB (bI jS)) cW)
   (aZ (cQ (cM (dS (hu8 hr)) dX (aD 1) aH (bY _)) (bB (bI (fJ sE uW rfl m_str qP (aF (aD 0) aI)))) cW)
   (bB (bI (aV pS qK (aV pS qK (fJ sE uW rfl m_str qP (aF (aD 0) aI)) fF) (fJ sE uW rfl m_str qP (aF (aD 1) aI))))))))
theorem aal:bQ ["_law_p","_law_words"] ["_law_p"] (aX rX):=⟨rfl,rfl,rfl,by decide +kernel,rfl,by decide +kernel,by decide +kernel⟩
theorem aaV {f:Addr} {fd:FuncData} (F:Fun K "_law_point_text" "_law_point_text" rX f fd)
  (C_wwritten:Cal P w K mg base cl "_law_written" 4 ["_law_top","_law_bottom"] iX)
  : aW P w K mg base CX0 5 f fd ["_law_p"] (bL K cl iD):=by
 have nd:=aal.nd
 refine okP (np:=1) (n:=2) F aal (by decide) (by decide) (b:=wD) (k:=4) fun cdv A outer s H E hr=>?_
 exact (aZ (nN (i:=1) (own:=["_law_number"]) (cap:=[(0,"_law_p")]) nd rfl (Or.inl rfl) (dA (aX rX) ["_law_p","_law_words"] rfl rfl rfl (by decide +kernel) (by decide +kernel) (by decide +kernel) (by decide +kernel) (by decide +kernel)) (dP (iQ (aD 0) gZ (hJ (eJ eI eK aH)))) rfl (fun _ _ _ _=>(cF (i:=0) (show (bF ["_law_number"] [(0,"_law_p")]).Nodup by decide +kernel) rfl (Or.inl rfl) (Or.inr rfl))) (fun _ _ _ _=>(bP C_wwritten hr (by decide) rfl (aF (aD 0) (aF (bH (aD 1) (eJ eI eK aH)) aI)))))
   (aZ (cQ (cM (aeZ (hu8 hr)) ahA jS (aD 1) rfl) (bB (bI jS)) cW)
   (bB (bI (nV fF (aF (aD 1) aI))))))
theorem aaf:bQ ["_law_points","_law_words"] ["_law_points"] (aX rP):=⟨rfl,rfl,rfl,by decide +kernel,rfl,by decide +kernel,by decide +kernel⟩
theorem aaL {f:Addr} {fd:FuncData} (F:Fun K "_law_points_text" "_law_points_text" rP f fd)
  (C_wpoint_text:Cal P w K mg base cl "_law_point_text" 5 ["_law_p"] iD)
  : aW P w K mg base CX0 6 f fd ["_law_points"] (bL K cl kG):=by
 have nd:=aaf.nd
 refine okP (np:=1) (n:=2) F aaf (by decide) (by decide) (b:=wC) (k:=5) fun cdv A outer s H E hr=>?_
 exact (aZ (nN (i:=1) (own:=["_law_p"]) (cap:=[]) nd rfl (Or.inl rfl) (dA (aX rP) ["_law_points","_law_words"] rfl rfl rfl (by decide +kernel) (by decide +kernel) (by decide +kernel) (by decide +kernel) (by decide +kernel)) (dP (aD 0)) rfl (fun _ _ _ _=>(cF (i:=0) (show (bF ["_law_p"] []).Nodup by decide +kernel) rfl (Or.inl rfl) (Or.inr rfl))) (fun _ _ _ _=>(bP C_wpoint_text hr (by decide) rfl (aF (aD 0) aI))))
   (aZ (cQ (cM (aeZ (hu8 hr)) ahA jS (aD 1) rfl) (bB (bI jS)) cW)
   (bB (bI (nV fF (aF (aD 1) aI))))))
theorem aau:bQ ["_law_heap","_law_words"] ["_law_heap"] (aX sC):=⟨rfl,rfl,rfl,by decide +kernel,rfl,by decide +kernel,by decide +kernel⟩
theorem aby {f:Addr} {fd:FuncData} (F:Fun K "_law_heap_text" "_law_heap_text" sC f fd)
  (C_wpoints_text:Cal P w K mg base cl "_law_points_text" 6 ["_law_points"] kG)
  (m_len:mg "len"=none)
  : aW P w K mg base CX0 7 f fd ["_law_heap"] (bL K cl mX):=by
 have nd:=aau.nd
 refine okP (np:=1) (n:=2) F aau (by decide) (by decide) (b:=wM) (k:=6) fun cdv A outer s H E hr=>?_
 exact (aZ (cQ (cM (dS (hu8 hr)) dX (cX fP fR rfl m_len fL (aF (aD 0) aI)) aH (bY _)) (bB (bI fF)) cW)
   (aZ (nN (i:=1) (own:=["_law_points"]) (cap:=[]) nd rfl (Or.inl rfl) (dA (aX sC) ["_law_heap","_law_words"] rfl rfl rfl (by decide +kernel) (by decide +kernel) (by decide +kernel) (by decide +kernel) (by decide +kernel)) (dP (aD 0)) rfl (fun _ _ _ _=>(cF (i:=0) (show (bF ["_law_points"] []).Nodup by decide +kernel) rfl (Or.inl rfl) (Or.inr rfl))) (fun _ _ _ _=>(bP C_wpoints_text hr (by decide) rfl (aF (aD 0) aI))))
   (aZ (cQ (cM (aeZ (hu8 hr)) ahA jS (aD 1) rfl) (bB (bI jS)) cW)
   (bB (bI (nV fF (aF (aD 1) aI)))))))
theorem aaj:bQ ["_law_row_here","_law_dims","_law_most","_law_wide","_law_many","_law_under","_law_told","_law_k","_law_points","_law_m","_law_far"] ["_law_row_here","_law_dims","_law_most"] (aX rQ):=⟨rfl,rfl,rfl,by decide +kernel,rfl,by decide +kernel,by decide +kernel⟩
theorem aa0 {f:Addr} {fd:FuncData} (F:Fun K "_law_great_heap" "_law_great_heap" rQ f fd)
  (C_wtake:Cal P w K mg base cl "_law_take" 1 ["_law_row_here","_law_many"] cG)
  (C_wlowest:Cal P w K mg base cl "_law_lowest" 2 ["_law_numbers"] fE)
  (C_wdet:Cal P w K mg base cl "_law_det" 3 ["_law_points"] eH)
  (C_wsimplex:Cal P w K mg base cl "_law_simplex" 4 ["_law_points"] fI)
  (m_min:mg "min"=none)
  (m_range:mg "range"=none)
  : aW P w K mg base CX0 5 f fd ["_law_row_here","_law_dims","_law_most"] (bL K cl lJ):=by
 have nd:=aaj.nd
 refine okP (np:=3) (n:=11) F aaj (by decide) (by decide) (b:=wI) (k:=4) fun cdv A outer s H E hr=>?_
 exact (aZ (bS (i:=3) nd rfl (Or.inr rfl) (bH (gM (aF aH (aF aH (aF (aV jR jY aH aH) (aF (aV jR jY aH aH) aI))))) (bP C_wtake hr (by decide) rfl (aF (aD 0) (aF aH aI)))))
   (aZ (bS (i:=4) nd rfl (Or.inl rfl) (bP C_wtake hr (by decide) rfl (aF (aD 0) (aF (aV dD dE (aD 2) aH) aI))))
   (aZ (bS (i:=5) nd rfl (Or.inl rfl) aH)
   (aZ (cQ (cM (dS (hu8 hr)) dX (bP C_wtake hr (by decide) rfl (aF (aD 0) (aF aH aI))) aH (bY _)) (aZ (bS (i:=5) nd rfl (Or.inl rfl) (bH (gM (aF (aV jR jY aH aH) (aF (aV jR jY aH aH) aI))) (bP C_wtake hr (by decide) rfl (aF (aD 0) (aF aH aI)))))
   (bB (bS (i:=4) nd rfl (Or.inl rfl) (cX (adM rfl) aiS rfl m_min aiE (aF (aD 4) (aF aH aI)))))) cW)
   (aZ (bS (i:=6) nd rfl (Or.inl rfl) (qD aI))
   (aZ (kN PassesOwn.never rfl (lM rfl m_range (aF (aD 4) aI)) (cF (i:=7) nd rfl (Or.inl rfl)) (aZ (bS (i:=8) nd rfl (Or.inl rfl) (qD aI))
   (aZ (kN PassesOwn.never rfl (lM rfl m_range (aF (aV dD dE (aD 1) aH) aI)) (cF (i:=9) nd rfl (Or.inl rfl)) (aZ (nN (i:=10) (own:=["_law_n"]) (cap:=[(3,"_law_wide"),(0,"_law_row_here")]) nd rfl (Or.inl rfl) (dA (aX rQ) ["_law_row_here","_law_dims","_law_most","_law_wide","_law_many","_law_under","_law_told","_law_k","_law_points","_law_m","_law_far"] rfl rfl rfl (by decide +kernel) (by decide +kernel) (by decide +kernel) (by decide +kernel) (by decide +kernel)) (lM rfl m_range (aF (aD 1) aI)) rfl (fun _ _ _ _=>(cF (i:=0) (show (bF ["_law_n"] [(3,"_law_wide"),(0,"_law_row_here")]).Nodup by decide +kernel) rfl (Or.inl rfl) (Or.inr rfl))) (fun _ _ _ _=>(aV fY gD (bP C_wtake hr (by decide) rfl (aF (aD 2) (aF (aV dD dE (aV cJ cK aH (aD 1)) aH) aI))) (aD 1))))
   (bB (gU (nJ (aD 8) (aF (bP C_wlowest hr (by decide) rfl (aF (aV dD dE (aD 10) (gM (aF (aV dD dE aH (bP C_wtake hr (by decide) rfl (aF (aD 0) (aF (aD 5) aI)))) aI))) aI)) aI))))))
   (bB (cQ (cM (jD (hu8 hr)) jG (bP C_wdet hr (by decide) rfl (aF (aD 8) aI)) aH (bY _)) (bB (gU (nJ (aD 6) (aF (bP C_wsimplex hr (by decide) rfl (aF (aD 8) aI)) aI)))) cW)))))
   (bB (bI (aD 6)))))))))
theorem aam:bQ ["_law_row_here","_law_dims","_law_most","_law_told","_law_k","_law_points","_law_m","_law_far"] ["_law_row_here","_law_dims","_law_most"] (aX rS):=⟨rfl,rfl,rfl,by decide +kernel,rfl,by decide +kernel,by decide +kernel⟩
theorem aa3 {f:Addr} {fd:FuncData} (F:Fun K "_law_small_heap" "_law_small_heap" rS f fd)
  (C_wtake:Cal P w K mg base cl "_law_take" 1 ["_law_row_here","_law_many"] cG)
  (C_wlowest:Cal P w K mg base cl "_law_lowest" 2 ["_law_numbers"] fE)
  (C_wdet:Cal P w K mg base cl "_law_det" 3 ["_law_points"] eH)
  (C_wsimplex:Cal P w K mg base cl "_law_simplex" 4 ["_law_points"] fI)
  (m_range:mg "range"=none)
  : aW P w K mg base CX0 5 f fd ["_law_row_here","_law_dims","_law_most"] (bL K cl mS):=by
 have nd:=aam.nd
 refine okP (np:=3) (n:=8) F aam (by decide) (by decide) (b:=wF) (k:=4) fun cdv A outer s H E hr=>?_
 exact (aZ (bS (i:=3) nd rfl (Or.inl rfl) (qD aI))
   (aZ (kN PassesOwn.never rfl (lM rfl m_range (aF (bP C_wtake hr (by decide) rfl (aF (aD 0) (aF (aV dD dE (aD 2) aH) aI))) aI)) (cF (i:=4) nd rfl (Or.inl rfl)) (aZ (bS (i:=5) nd rfl (Or.inl rfl) (qD aI))
   (aZ (kN PassesOwn.never rfl (lM rfl m_range (aF (aV dD dE (aD 1) aH) aI)) (cF (i:=6) nd rfl (Or.inl rfl)) (aZ (nN (i:=7) (own:=["_law_n"]) (cap:=[(0,"_law_row_here")]) nd rfl (Or.inl rfl) (dA (aX rS) ["_law_row_here","_law_dims","_law_most","_law_told","_law_k","_law_points","_law_m","_law_far"] rfl rfl rfl (by decide +kernel) (by decide +kernel) (by decide +kernel) (by decide +kernel) (by decide +kernel)) (lM rfl m_range (aF (aD 1) aI)) rfl (fun _ _ _ _=>(cF (i:=0) (show (bF ["_law_n"] [(0,"_law_row_here")]).Nodup by decide +kernel) rfl (Or.inl rfl) (Or.inr rfl))) (fun _ _ _ _=>(aV fY gD (bP C_wtake hr (by decide) rfl (aF (aD 1) (aF aH aI))) aH)))
   (bB (gU (nJ (aD 5) (aF (bP C_wlowest hr (by decide) rfl (aF (aV dD dE (aD 7) (gM (aF (aV dD dE aH (bP C_wtake hr (by decide) rfl (aF (aD 0) (aF aH aI)))) aI))) aI)) aI))))))
   (bB (cQ (cM (jD (hu8 hr)) jG (bP C_wdet hr (by decide) rfl (aF (aD 5) aI)) aH (bY _)) (bB (gU (nJ (aD 3) (aF (bP C_wsimplex hr (by decide) rfl (aF (aD 5) aI)) aI)))) cW)))))
   (bB (bI (aD 3)))))
theorem acL:bQ ["_law_row_here","_law_dims","_law_heap","_law_handed_here","_law_due","_law_found","_law_again"] ["_law_row_here"] (aX yY):=⟨rfl,rfl,rfl,by decide +kernel,rfl,by decide +kernel,by decide +kernel⟩
theorem afI {f:Addr} {fd:FuncData} (F:Fun K "_law_once" "_law_once" yY f fd)
  (C_wtake:Cal P w K mg base cl "_law_take" 1 ["_law_row_here","_law_many"] cG)
  (C_wgreat_heap:Cal P w K mg base cl "_law_great_heap" 5 ["_law_row_here","_law_dims","_law_most"] lJ)
  (C_wsmall_heap:Cal P w K mg base cl "_law_small_heap" 5 ["_law_row_here","_law_dims","_law_most"] mS)
  (C_whanded:Cal P w K mg base cl "_law_handed" 2 ["_law_row_here","_law_rows"] nI)
  (C_wheap_text:Cal P w K mg base cl "_law_heap_text" 7 ["_law_heap"] mX)
  {a_shown_heap:Addr} {d_shown_heap:FuncData}
  (GX_shown_heap:aW P w K mg base (CX1 P w) 6 a_shown_heap d_shown_heap ["heap"] (spP K cl jJ))
  (G_shown_heap:aW P w K mg base CX0 6 a_shown_heap d_shown_heap ["heap"] (bL K cl jJ)) (nA:cU K d_shown_heap ["heap"] []) (k_shown_heap:PySem.W.keepIn K (.ref a_shown_heap)=true) (n_shown_heap:mg "shown_heap"=some (.ref a_shown_heap))
  {a_read_heap:Addr} {d_read_heap:FuncData}
  (G_read_heap:aW P w K mg base CX0 7 a_read_heap d_read_heap ["line"] (bL K cl nE)) (pQ:cU K d_read_heap ["line"] []) (k_read_heap:PySem.W.keepIn K (.ref a_read_heap)=true) (n_read_heap:mg "read_heap"=some (.ref a_read_heap))
  (C_wheap_form:Cal P w K mg base cl "_law_heap_form" 6 ["_law_heap","_law_many"] mZ)
  (m_isinstance:mg "isinstance"=none)
  (m_list:mg "list"=none)
  (m_str:mg "str"=none)
  (q_TooGreat:mg "TooGreat"=some (.ref (cl "TooGreat"))) (x_TooGreat:PySem.W.excIn K (cl "TooGreat") eV "ValueError.__new__"=true)
  : aW P w K mg base CX0 8 f fd ["_law_row_here"] (bL K cl nX):=by
 have nd:=acL.nd
 refine okP (np:=1) (n:=7) F acL (by decide) (by decide) (b:=yR) (k:=7) fun cdv A outer s H E hr=>?_
 exact (aZ (bS (i:=1) nd rfl (Or.inl rfl) (aV dD dE aH (bP C_wtake hr (by decide) rfl (aF (aD 0) (aF aH aI)))))
   (aZ (bS (i:=2) nd rfl (Or.inl rfl) (bP C_wgreat_heap hr (by decide) rfl (aF (aD 0) (aF (aD 1) (aF aH aI)))))
   (aZ (cQ (cM (dS (hu8 hr)) dX (bP C_wtake hr (by decide) rfl (aF (aD 0) (aF aH aI))) aH (bY _)) (aZ (bS (i:=1) nd rfl (Or.inl rfl) aH)
   (bB (bS (i:=2) nd rfl (Or.inl rfl) (aV ahI ake (iQ (aV dD dE (bP C_wsmall_heap hr (by decide) rfl (aF (aD 0) (aF aH (aF aH aI)))) (gM (aF (oO (aF (oO (aF aH (aF aH (aF aH aI)))) (aF (oO (aF aH (aF aH (aF aH aI)))) (aF (oO (aF aH (aF aH (aF aH aI)))) aI)))) aI))) gZ (hJ aH)) (aV dD dE aH (bP C_wtake hr (by decide) rfl (aF (aD 0) (aF aH aI)))))))) cW)
   (aZ (bS (i:=3) nd rfl (Or.inl rfl) (bP C_whanded hr (by decide) rfl (aF (aD 0) (aF (aD 2) aI))))
   (aZ (bS (i:=4) nd rfl (Or.inl rfl) (bP C_wheap_text hr (by decide) rfl (aF (aD 2) aI)))
   (aZ (bS (i:=5) nd rfl (Or.inl rfl) jS)
   (aZ (ae9 (jv:=5) (nn:=7) (c:="TooGreat") (up:=fun ρ=>(ρ.set 5 (some (.pv (.tup [.str "refused",.non]))))) rfl nd rfl q_TooGreat x_TooGreat (agQ rfl fF (ahL rfl GX_shown_heap (hr.mono (by decide)) rfl n_shown_heap k_shown_heap nA .nil Dv.nil (aF (aD 3) aI))) rfl (Or.inl rfl) (fun y=>(ae0 (agy (i:=5) nd rfl (Or.inl rfl) (agH (nZ zT (nZ aga uI)))))) (fun D σ H p S ρ sm hl ev k=>by
    match σ,hl,ev with
    | [s0,s1,s2,s3,s4,s5,s6],_,ev=>exact ⟨(by show 2≤PySem.sizeLine; decide),fun t ht=>k _ _ (eX ht) (cO.setT (vs:=[.str "refused",.non]) sm ev ht (by decide) (by decide) 5)⟩))
   (aZ (cQ (cM (jD (hu8 hr)) jG (fJ sD tR rfl m_list tL (aF (aD 3) aI)) (aD 2) (bY _)) (bB (bI mH)) cW)
   (aZ (cQ (ai5 (aD 4)) (bB (bI (hV (dS (hu8 hr)) dX (aD 5) (oO (aF fF (aF jS aI))) (bY _)))) cW)
   (aZ (cQ (PWp.pt (oE (cM (jD (hu8 hr)) jG (bH (aD 5) aH) fF (bY _)) (oE (lU (jP (oA (n:="str") rfl m_isinstance rfl m_str qP (bH (aD 5) aH)))) (qI (cM (jD (hu8 hr)) jG (bH (aD 5) aH) (aD 4) (bY _)))))) (bB (bI mH)) cW)
   (aZ (bS (i:=6) nd rfl (Or.inl rfl) (yM G_read_heap (hr.mono (by decide)) rfl n_read_heap k_read_heap pQ .nil Dv.nil (aF (aD 4) aI)))
   (bB (bI (qN (bP C_wheap_form hr (by decide) rfl (aF (aD 6) (aF (aD 1) aI))) (oB (hV (dS (hu8 hr)) dX (fJ sD tR rfl m_list tL (aF (aD 6) aI)) (aD 2) (bY _)))))))))))))))))
theorem agz:bQ ["_law_script","_law_row_here"] ["_law_script"] (aX jZ):=⟨rfl,rfl,rfl,by decide +kernel,rfl,by decide +kernel,by decide +kernel⟩
theorem aig {f:Addr} {fd:FuncData} (F:Fun K "law" "law" jZ f fd)
  (C_wrow:Cal P w K mg base cl "_law_row" 1 ["_law_script"] oJ)
  (C_wonce:Cal P w K mg base cl "_law_once" 8 ["_law_row_here"] nX)
  : aW P w K mg base CX0 9 f fd ["_law_script"] (bL K cl ahe):=by
 have nd:=agz.nd
 refine okP (np:=1) (n:=2) F agz (by decide) (by decide) (b:=ahE) (k:=8) fun cdv A outer s H E hr=>?_
 exact (aZ (bS (i:=1) nd rfl (Or.inl rfl) (aj1 C_wrow hr (by decide) rfl (aF (aD 0) aI)))
   (bB (bI (qN (bP C_wonce hr (by decide) rfl (aF (aD 1) aI)) (oB (bP C_wonce hr (by decide) rfl (aF (aD 1) aI)))))))
end
def EC:=And.intro @iM.eq_1 (And.intro @aS.eq_1 (And.intro @sIf.eq_1 (And.intro @bG.eq_1 (And.intro @jH.eq_1 (And.intro @mM.eq_1 (And.intro @mOr.eq_1 (And.intro @jW.eq_1 (And.intro @aka.eq_1 (And.intro @mIf.eq_1 (And.intro @aC.eq_1 (And.intro @mUn.eq_1 (And.intro @mR.eq_1 (And.intro @mN.eq_1 (And.intro @aB.eq_1 (And.intro @aA.eq_1 (And.intro @mC.eq_1 (And.intro @aE.eq_1 (And.intro @Res.bind.eq_1 (And.intro @Res.bind.eq_2 (And.intro @Res.bind.eq_3 (And.intro @qZ.eq_1 (And.intro @fH.eq_1 (And.intro @lA.eq_1 (And.intro @oR.eq_1 (And.intro @gA.eq_1 (And.intro @gA.eq_2 (And.intro @rd.eq_1 (And.intro @rd.eq_2 (And.intro @iB.eq_1 (And.intro @iB.eq_2 (And.intro @iB.eq_3 (And.intro @okO.eq_1 (And.intro @okO.eq_2 (And.intro @cP.eq_1 (And.intro @cP.eq_2 (And.intro @cP.eq_3 (And.intro @eW.eq_1 (And.intro @eE.eq_1 (And.intro @cV.eq_1 (And.intro @cV.eq_2 (And.intro @rG.eq_1 (And.intro @rG.eq_2 (And.intro @tst.eq_1 (And.intro @tst.eq_2 (And.intro @cE.of.eq_1 (And.intro @cE.of.eq_2 (And.intro @cE.of.eq_3 (And.intro @bE.eq_1 (And.intro @akm.eq_1 (And.intro @cA.eq_1 (And.intro @dW.eq_1 (And.intro @bA.eq_1 (And.intro @iK.eq_1 (And.intro @iK.eq_2 (And.intro @iK.eq_3 (And.intro @iK.eq_4 (And.intro @kY.eq_1 (And.intro @kY.eq_2 (And.intro @aY.eq_1 (And.intro @bW.eq_1 (@tY.eq_1)))))))))))))))))))))))))))))))))))))))))))))))))))))))))))))
def Row (S:Sto) (k:Nat) (ns:List Int):Prop:=S[k]?=some (.lst (ns.map .int))
theorem Row.lt {S:Sto} {k:Nat} {ns:List Int} (h:Row S k ns):k < S.length:=(List.getElem?_eq_some_iff.mp h).1
theorem Row.set {S:Sto} {k:Nat} {ns:List Int} (h:Row S k ns) (ms:List Int):Row (S.set k (.lst (ms.map .int))) k ms:=List.getElem?_set_self h.lt
theorem abh {r:Rho} {k:Nat} {m:AV}:∀ (ns:List Int) (S:Sto),Row S k ns→∃ n ns',cZ (mM (bG (aC fGt (mR cP (aB (aA 0) aE)) (mC (.int 0)))) (bG (aC fEq (aC fIx (aA 0) (mC (.int 0))) (mC (.int 0))))) (dW (vK (aA 0) (aB (mC (.int 0)) aE))) n (some (.ref k) :: some m :: r) S=.nx (some (.ref k) :: some m :: r) (S.set k (.lst (ns'.map .int)))∧ns'.length≤ns.length∧(ns'=[]∨∃ i t,ns'=i :: t∧i≠0)
 | [],S,h=>by
  refine ⟨1,[],?_,Nat.le_refl _,.inl rfl⟩
  have h':S[k]?=some (.lst []):=h
  have e:S.set k (.lst (([]:List Int).map .int))=S:=List.ext_getElem? fun i=>by
   by_cases q:k=i
   ·subst q; rw [List.getElem?_set_self h.lt,h']; rfl
   ·rw [List.getElem?_set_ne q]
  rw [e]
  simp [cZ,mM,bG,aC,mR,aB,aA,mC,aE,Res.bind,lA,gA,rd,h',okO,cP,fH,fGt,i2,tst,cE.of]
 | i :: t,S,h=>by
  have h':S[k]?=some (.lst (.int i :: t.map .int)):=h
  by_cases hi:i=0
  ·subst hi
   have hr:Row (S.set k (.lst (t.map .int))) k t:=h.set t
   obtain ⟨n,ns',e,l,q⟩:=abh (r:=r) (m:=m) t _ hr
   refine ⟨n+1,ns',?_,by simp; omega,q⟩
   rw [List.set_set] at e
   rw [← e]
   have hl:(0:Int) < (t.length:Int)+1:=by omega
   simp [cZ,mM,bG,aC,mR,aB,aA,mC,aE,Res.bind,lA,gA,rd,h',okO,cP,fH,fGt,i2,tst,cE.of,fIx,atI,ixN,fEq,eqN,dW,vK,iN,ahw,seqIndex?,hl]
  ·refine ⟨1,i :: t,?_,Nat.le_refl _,.inr ⟨i,t,rfl,hi⟩⟩
   have e:S.set k (.lst ((i :: t).map .int))=S:=List.ext_getElem? fun j=>by
    by_cases q:k=j
    ·subst q; rw [List.getElem?_set_self h.lt,h']; rfl
    ·rw [List.getElem?_set_ne q]
   rw [e]
   have hl:(0:Int) < (t.length:Int)+1:=by omega
   simp [cZ,mM,bG,aC,mR,aB,aA,mC,aE,Res.bind,lA,gA,rd,h',okO,cP,fH,fGt,i2,tst,cE.of,fIx,atI,ixN,fEq,eqN,hl,hi]
theorem nU {S:Sto} {k:Nat} {ns:List Int} {m:Int} (h:Row S k ns) (hm:0 < m) (b:Bd 8000 m):∃ (v:Int) (ns':List Int),cG [.ref k,.pv (.int m)] S=.ok (.pv (.int v)) (S.set k (.lst (ns'.map .int)))∧0≤v∧v < m∧ns'.length≤ns.length:=by
 obtain ⟨n,ns',e,l,q⟩:=abh (r:=[none]) (m:=.pv (.int m)) ns S h
 have hr:=h.set ns'
 have hl1:(S.set k (.lst (ns'.map .int))).length=S.length:=by simp
 have hss:∀ x,(S.set k (.lst (ns'.map .int))).set k x=S.set k x:=fun x=>List.set_set ..
 generalize hS1:S.set k (.lst (ns'.map .int))=S1 at e hr hl1 hss
 have w:=xD e (by simp)
 rcases q with rfl | ⟨i,t,rfl,hi⟩
 ·refine ⟨0,[],?_,Int.le_refl 0,hm,Nat.zero_le _⟩
  rw [hS1]
  have hr':S1[k]?=some (.lst []):=hr
  have tk:List.take S.length S1=S1:=List.take_of_length_le (by omega)
  unfold cG fnM tO
  simp [iM,aS,w,sIf,bG,aC,mR,aB,aA,mC,aE,Res.bind,lA,gA,rd,hr',okO,cP,fH,fEq,eqN,tst,cE.of,bE,iK,kY,tk]
 ·have hr':S1[k]?=some (.lst (.int i :: t.map .int)):=hr
  refine ⟨i.fmod m,i.fdiv m :: t,?_,Int.fmod_nonneg_of_pos i hm,Int.fmod_lt_of_pos i hm,l⟩
  rw [← hss]
  have tk:∀ x,List.take S.length (S1.set k x)=S1.set k x:=fun x=>List.take_of_length_le (by simp; omega)
  have hl:¬ ((t.length:Int)+1=0):=by omega
  have hq:mG i m:=⟨by omega,b⟩
  have hm0:m≠0:=by omega
  unfold cG fnM tO
  simp [iM,aS,w,sIf,bG,aC,mR,aB,aA,mC,aE,Res.bind,lA,gA,rd,hr',okO,cP,fH,fEq,eqN,tst,cE.of,bE,iK,kY,tk,cA,hl,bA,eO,fM,i2,cI,fIx,atI,ixN,hm0,hq,zJ,iN,uQ]
theorem aO (i j:Int):fGt (.int i) (.int j)=some (.bl (decide (j < i))):=rfl
theorem aQ (i j:Int):fLt (.int i) (.int j)=some (.bl (decide (i < j))):=rfl
theorem aP (i j:Int):fGe (.int i) (.int j)=some (.bl (decide (j≤i))):=rfl
theorem aR (i j:Int):fLe (.int i) (.int j)=some (.bl (decide (i≤j))):=rfl
theorem aU (i j:Int):dF (.int i) (.int j)=some (.int (i - j)):=rfl
theorem jO {i j:Int} (h:mF i j):bD (.int i) (.int j)=some (.int (i*j)):=by
 simp [bD,i2,cI,h]
theorem tJ {i j:Int} (h:mG i j):fM (.int i) (.int j)=some (.int (i.fdiv j)):=by
 simp [fM,i2,cI,h]
theorem kQ {i j:Int} (h:j≠0):eO (.int i) (.int j)=some (.int (i.fmod j)):=by
 simp [eO,i2,cI,h]
theorem tT {i j:Int} (h:vN i j):eD (.int i) (.int j)=some (.int (i ^ j.toNat)):=by
 simp [eD,i2,cI,h]
theorem tU (n:Int) (S:Sto):jC [.pv (.int n)] S=.ok (.pv (.int (sg n))) S:=by
 unfold jC fnM zL sg
 by_cases h1:0 < n
 ·simp [iM,aS,sIf,bG,aC,aA,mC,Res.bind,fH,rd,okO,fGt,i2,tst,cE.of,bE,iK,kY,h1]
 ·by_cases h2:n < 0
  ·simp [iM,aS,sIf,bG,aC,aA,mC,Res.bind,fH,rd,okO,fGt,fLt,i2,tst,cE.of,bE,iK,kY,h1,h2,cA,mUn,qZ,cV]
  ·simp [iM,aS,sIf,bG,aC,aA,mC,Res.bind,fH,rd,okO,fGt,fLt,i2,tst,cE.of,bE,iK,kY,h1,h2,cA,mUn,qZ,cV]
theorem aas (S:Sto):∀ (m:Nat) (a b:Int) (x:Option AV),b.natAbs≤m→∃ (n:Nat) (g:Int) (x':Option AV),cZ (bG (aC fNe (aA 1) (mC (.int 0)))) (aS (bA 2 (aC eO (aA 0) (aA 1))) (aS (bA 0 (aA 1)) (bA 1 (aA 2)))) n [some (.pv (.int a)),some (.pv (.int b)),x] S=.nx [some (.pv (.int g)),some (.pv (.int 0)),x'] S∧g.natAbs=Int.gcd a b
 | 0,a,b,x,h=>by
  have hb:b=0:=by omega
  subst hb
  refine ⟨1,a,x,?_,by simp⟩
  simp [EC,cZ,aN,aJ,aK,fIx,atI,ixN,fEq,fNe,eqN,aO,aQ,aP,aR,aG,aU,frz,aL]
 | m+1,a,b,x,h=>by
  by_cases hb:b=0
  ·subst hb
   refine ⟨1,a,x,?_,by simp⟩
   simp [EC,cZ,aN,aJ,aK,fIx,atI,ixN,fEq,fNe,eqN,aO,aQ,aP,aR,aG,aU,frz,aL]
  ·have hl:=abV a hb
   obtain ⟨n,g,x',e,q⟩:=aas S m b (a.fmod b) (some (.pv (.int (a.fmod b)))) (by omega)
   refine ⟨n+1,g,x',?_,by rw [q,acW]⟩
   rw [← e]
   simp [EC,cZ,aN,aJ,aK,fIx,atI,ixN,fEq,fNe,eqN,aO,aQ,aP,aR,aG,aU,frz,aL,kQ hb,hb]
theorem abq (a b:Int) (S:Sto):kL [.pv (.int a),.pv (.int b)] S=.ok (.pv (.int (Int.gcd a b:Nat))) S:=by
 obtain ⟨n,g,x',e,q⟩:=aas S b.natAbs a b none (Nat.le_refl _)
 have w:=xD e (by simp)
 unfold kL fnM xJ
 have hg:(if g < 0 then -g else g)=((Int.gcd a b:Nat):Int):=by rw [← q]; exact zG g
 simp [EC,aN,aJ,aK,fIx,atI,ixN,fEq,fNe,eqN,aO,aQ,aP,aR,aG,aU,frz,aL,w,hg]
theorem ab7 (S:Sto):∀ (m:Nat) (a b:Int),0≤a→0≤b→b.natAbs≤m→∃ (n:Nat),cZ (bG (aC fGt (aA 1) (mC (.int 0)))) (vG 0 1 (aB (aA 1) (aB (aC eO (aA 0) (aA 1)) aE))) n [some (.pv (.int a)),some (.pv (.int b))] S=.nx [some (.pv (.int (Int.gcd a b:Nat))),some (.pv (.int 0))] S
 | 0,a,b,ha,hb,h=>by
  have hb:b=0:=by omega
  subst hb
  have ea:((Int.gcd a 0:Nat):Int)=a:=by simp; omega
  refine ⟨1,?_⟩
  rw [ea]
  simp [EC,cZ,aN,aJ,aK,fIx,atI,ixN,fEq,fNe,eqN,aO,aQ,aP,aR,aG,aU,frz,aL]
 | m+1,a,b,ha,hb,h=>by
  by_cases h0:b=0
  ·subst h0
   have ea:((Int.gcd a 0:Nat):Int)=a:=by simp; omega
   refine ⟨1,?_⟩
   rw [ea]
   simp [EC,cZ,aN,aJ,aK,fIx,atI,ixN,fEq,fNe,eqN,aO,aQ,aP,aR,aG,aU,frz,aL]
  ·have hl:=abV a h0
   have hp:0 < b:=by omega
   obtain ⟨n,e⟩:=ab7 S m b (a.fmod b) hb (Int.fmod_nonneg_of_pos a hp) (by omega)
   refine ⟨n+1,?_⟩
   rw [← acW,← e]
   simp [EC,cZ,aN,aJ,aK,fIx,atI,ixN,fEq,fNe,eqN,aO,aQ,aP,aR,aG,aU,frz,aL,kQ h0,hp,vG]
theorem ajv (a b:Int) (S:Sto):oD [.pv (.int a),.pv (.int b)] S=.ok (.pv (.int (Int.gcd a b:Nat))) S:=by
 have ha:0≤(if a < 0 then -a else a):=by split <;> omega
 have hb:0≤(if b < 0 then -b else b):=by split <;> omega
 obtain ⟨n,e⟩:=ab7 S _ _ _ ha hb (Nat.le_refl _)
 have w:=xD e (by simp)
 have eg:Int.gcd (if a < 0 then -a else a) (if b < 0 then -b else b)=Int.gcd a b:=by
  rw [zG,zG]
  simp [Int.gcd]
 rw [eg] at w
 unfold oD fnM zV
 simp [EC,aN,aJ,aK,fIx,atI,ixN,fEq,fNe,eqN,aO,aQ,aP,aR,aG,aU,frz,aL,w]
theorem xX (S:Sto) (v2:Option AV):∀ (ns:List Int) (g:Int) (a:AV),∃ v',dH [] (gN 2) (bA 1 (aY oD [] (aB (aA 1) (aB (aA 2) aE)))) (ns.map .int) [some a,some (.pv (.int g)),v2] S=.nx [some a,some (.pv (.int (gl ns g))),v'] S
 | [],g,a=>⟨v2,jM⟩
 | n :: ns,g,a=>by
  obtain ⟨v',e⟩:=xX S (some (.pv (.int n))) ns (Int.gcd g n:Nat) a
  refine ⟨v',?_⟩
  show dH [] _ _ (.int n :: ns.map .int) _ S=_
  rw [iV]
  simp [EC,gN,aN,aJ,aK,fIx,atI,ixN,fEq,fNe,eqN,aO,aQ,aP,aR,aG,aU,frz,aL,ajv]
  exact e
theorem tF (S:Sto) (g:Int) (hg:g≠0) (b:Bd 8000 g):∀ (ns:List Int) (x:Option AV),bT [] (gN 0) (aC fM (aA 0) (aA 1)) (ns.map .int) [x,some (.pv (.int g))] S=.ok ((ns.map fun n=>n.fdiv g).map .int) S
 | [],x=>eG
 | n :: ns,x=>by
  have ih:=tF S g hg b ns (some (.pv (.int n)))
  show bT [] _ _ (.int n :: ns.map .int) _ S=_
  rw [eN]
  simp [EC,gN,aN,aJ,aK,fIx,atI,ixN,fEq,fNe,eqN,aO,aQ,aP,aR,aG,aU,frz,aL,tJ (show mG n g from ⟨hg,b⟩),ih]
theorem sT (ns:List Int) (S:Sto) (hb:∀ n∈ns,Bd 8000 n):fE [.pv (.lst (ns.map .int))] S=.ok (.pv (.tup ((low ns).map .int))) S:=by
 obtain ⟨v',e⟩:=xX S none ns 0 (.pv (.lst (ns.map .int)))
 unfold fE fnM sU
 by_cases h:gl ns 0=0
 ·have el:low ns=ns:=by unfold low; rw [if_pos h]
  simp [EC,aN,aJ,aK,fIx,atI,ixN,fEq,fNe,eqN,aO,aQ,aP,aR,aG,aU,frz,aL,dJ,mIt,bV,e,h,el]
 ·have el:low ns=ns.map fun n=>n.fdiv (gl ns 0):=by
   unfold low
   rw [if_neg h]
   exact List.map_congr_left fun n hn=>(Int.fdiv_eq_ediv_of_dvd ((jE ns 0).2 n hn)).symm
  have bg:Bd 8000 (gl ns 0):=uL (Bd.of (n:=0) (by simp) (Nat.two_pow_pos 8000)) hb
  have ec:=tF S (gl ns 0) h bg ns none
  simp [EC,aN,aJ,aK,fIx,atI,ixN,fEq,fNe,eqN,aO,aQ,aP,aR,aG,aU,frz,aL,dJ,mIt,bV,e,h,el,bJ,bR,ec]
theorem af0 (n:Int) (S:Sto):nQ [.pv (.int n)] S=.ok (.pv (.bl true)) S:=by
 unfold nQ fnM yC
 simp [EC,aN,aJ,aK,fIx,atI,ixN,fEq,fNe,eqN,aO,aQ,aP,aR,aG,aU,frz,aL,eY]
theorem aaP (S:Sto):∀ (ns:List Int) (x:Option AV),bT [] (gN 0) (aY nQ [] (aB (aA 0) aE)) (ns.map .int) [x] S=.ok (ns.map fun _=>.bl true) S
 | [],x=>eG
 | n :: ns,x=>by
  have ih:=aaP S ns (some (.pv (.int n)))
  show bT [] _ _ (.int n :: ns.map .int) _ S=_
  rw [eN]
  simp [EC,gN,aN,aJ,aK,fIx,atI,ixN,fEq,fNe,eqN,aO,aQ,aP,aR,aG,aU,frz,aL,af0,ih]
theorem acG:∀ (ns:List Int),hZ (ns.map fun _=>PV.bl true)=some (ns.map fun _=>true)
 | []=>rfl
 | n :: ns=>by
  show hZ (.bl true :: ns.map fun _=>PV.bl true)=_
  unfold hZ
  rw [acG ns]
  rfl
theorem adX (ns:List Int) (S:Sto):pV [.pv (.tup (ns.map .int)),.pv (.int ns.length)] S=.ok (.pv (.bl true)) S:=by
 unfold pV fnM xI
 have e:=aaP S ns none
 have ea:((ns.map fun _=>true).all id)=true:=by simp
 simp [EC,aN,aJ,aK,fIx,atI,ixN,fEq,fNe,eqN,aO,aQ,aP,aR,aG,aU,frz,aL,eY,bJ,mIt,bV,bR,e,fV,acG]
theorem aeR:∀ (n:Nat) (ns:List Int),fW (List.zipWith (eqN n) (ns.map .int) (ns.map .int))=some (ns.map fun _=>true)
 | n,[]=>rfl
 | n,m :: ns=>by
  have ih:=aeR n ns
  simp only [List.map_cons,List.zipWith_cons_cons]
  have e:eqN n (.int m) (.int m)=some true:=by cases n <;> simp [eqN]
  rw [e]
  unfold fW
  rw [ih]
theorem adY (n:Nat) (ns:List Int):eqN (n+1) (.tup (ns.map .int)) (.tup (ns.map .int))=some true:=by
 rw [eqN,aeR]
 simp
theorem adr (ns:List Int) (S:Sto) (hb:∀ n∈ns,Bd 8000 n):fE [.pv (.tup (ns.map .int))] S=.ok (.pv (.tup ((low ns).map .int))) S:=by
 obtain ⟨v',e⟩:=xX S none ns 0 (.pv (.tup (ns.map .int)))
 unfold fE fnM sU
 by_cases h:gl ns 0=0
 ·have el:low ns=ns:=by unfold low; rw [if_pos h]
  simp [EC,aN,aJ,aK,fIx,atI,ixN,fEq,fNe,eqN,aO,aQ,aP,aR,aG,aU,frz,aL,dJ,mIt,bV,e,h,el]
 ·have el:low ns=ns.map fun n=>n.fdiv (gl ns 0):=by
   unfold low
   rw [if_neg h]
   exact List.map_congr_left fun n hn=>(Int.fdiv_eq_ediv_of_dvd ((jE ns 0).2 n hn)).symm
  have bg:Bd 8000 (gl ns 0):=uL (Bd.of (n:=0) (by simp) (Nat.two_pow_pos 8000)) hb
  have ec:=tF S (gl ns 0) h bg ns none
  simp [EC,aN,aJ,aK,fIx,atI,ixN,fEq,fNe,eqN,aO,aQ,aP,aR,aG,aU,frz,aL,dJ,mIt,bV,e,h,el,bJ,bR,ec]
theorem kB (i:Int) {j:Int} (h1:-(2 ^ 64) < j) (h2:j < 2 ^ 64):bD (.int i) (.int j)=some (.int (i*j)):=jO (.inl (.inr ⟨h1,h2⟩))
theorem p18:eD (.int 10) (.int 18)=some (.int 1000000000000000000):=tT (i:=10) (j:=18) ⟨by decide,by decide,by decide⟩
theorem yH {k:Nat} {a:AV}:∀ (cs:List Int) (n:Nat) (acc:List Int) (S:Sto) (v2 v3 v4 v5 v6:Option AV),Row S k acc→acc.length+cs.length≤63→n+cs.length≤63→∃ (acc':List Int) (w2 w3 w4 w5 w6:Option AV),dH [] (gT 2 (dM (gN 2) (dM (gN 3) fN))) ((sIf (bG (aC fGe (aA 3) (aC eD (mC (.int 10)) (mC (.int 18))))) (dW (eZ (aA 1) (aB (aC dF (aA 3) (aC eD (mC (.int 10)) (mC (.int 18)))) aE))) (aS (bA 4 (aC eO (aC bD (aC aG (aC aG (aC aG (aA 3) (aC bD (aC bD (mC (.int 7)) (aA 2)) (aA 2))) (aC bD (mC (.int 13)) (aA 2))) (mC (.int 5))) (mC (.int 48271))) (mC (.int 2147483647))))
 (aS (bA 5 (aC eO (aC bD (aC aG (aC aG (aC aG (aA 3) (aC bD (aC bD (mC (.int 11)) (aA 2)) (aA 2))) (aC bD (mC (.int 17)) (aA 2))) (mC (.int 3))) (mC (.int 40692))) (mC (.int 2147483399))))
 (aS (bA 6 (aC eO (aC bD (aC aG (aC aG (aC aG (aA 3) (aC bD (aC bD (mC (.int 5)) (aA 2)) (aA 2))) (aC bD (mC (.int 29)) (aA 2))) (mC (.int 8))) (mC (.int 39373))) (mC (.int 2147483587))))
 (aS (bA 4 (aC eO (aC bD (aA 4) (mC (.int 52021))) (mC (.int 1000000007))))
 (aS (bA 5 (aC eO (aC bD (aA 5) (mC (.int 30011))) (mC (.int 998244353))))
 (aS (bA 6 (aC eO (aC bD (aA 6) (mC (.int 45989))) (mC (.int 1000000009))))
 (dW (eZ (aA 1) (aB (aC aG (aC bD (aC aG (aC bD (aA 4) (mC (.int 998244353))) (aA 5)) (mC (.int 1000000009))) (aA 6)) aE))))))))))) (gO n (cs.map .int)) [some a,some (.ref k),v2,v3,v4,v5,v6] S=.nx [some a,some (.ref k),w2,w3,w4,w5,w6] (S.set k (.lst (acc'.map .int)))∧acc'.length≤63
 | [],n,acc,S,v2,v3,v4,v5,v6,h,hl,_=>by
  refine ⟨acc,v2,v3,v4,v5,v6,?_,by simpa using hl⟩
  have e:S.set k (.lst (acc.map .int))=S:=List.ext_getElem? fun j=>by
   by_cases q:k=j
   ·subst q; rw [List.getElem?_set_self h.lt]; exact h.symm
   ·rw [List.getElem?_set_ne q]
  rw [e]
  exact jM
 | x :: cs,n,acc,S,v2,v3,v4,v5,v6,h,hl,hn=>by
  simp only [List.length_cons] at hl hn
  have h':S[k]?=some (.lst (acc.map .int)):=h
  have hlen:acc.length < 16777216:=by omega
  have hk1:-(2 ^ 64) < (n:Int):=by omega
  have hk2:(n:Int) < 2 ^ 64:=by omega
  by_cases c:(1000000000000000000:Int)≤x
  ·obtain ⟨acc',w2,w3,w4,w5,w6,e,q⟩:=yH (k:=k) (a:=a) cs (n+1) (acc++[x - 1000000000000000000]) (S.set k (.lst ((acc++[x - 1000000000000000000]).map .int))) (some (.pv (.int n))) (some (.pv (.int x))) v4 v5 v6 (h.set _) (by simp; omega) (by omega)
   refine ⟨acc',w2,w3,w4,w5,w6,?_,q⟩
   rw [List.set_set] at e
   rw [← e]
   show dH [] _ _ (.tup [.int n,.int x] :: gO (n+1) (cs.map .int)) _ S=_
   rw [iV]
   simp [EC,gT,dM,fN,gN,aN,aJ,aK,fIx,atI,ixN,fEq,fNe,eqN,aO,aQ,aP,aR,aG,aU,frz,aL,p18,c,eZ,iN,kZ,h',hlen]
  ·obtain ⟨acc',w2,w3,w4,w5,w6,e,q⟩:=yH (k:=k) (a:=a) cs (n+1) (acc++[((((x+7*n*n+13*n+5)*48271).fmod 2147483647*52021).fmod 1000000007*998244353+(((x+11*n*n+17*n+3)*40692).fmod 2147483399*30011).fmod 998244353)*1000000009+(((x+5*n*n+29*n+8)*39373).fmod 2147483587*45989).fmod 1000000009]) (S.set k (.lst ((acc++[((((x+7*n*n+13*n+5)*48271).fmod 2147483647*52021).fmod 1000000007*998244353+(((x+11*n*n+17*n+3)*40692).fmod 2147483399*30011).fmod 998244353)*1000000009+(((x+5*n*n+29*n+8)*39373).fmod 2147483587*45989).fmod 1000000009]).map .int))) (some (.pv (.int n))) (some (.pv (.int x))) (some (.pv (.int ((((x+7*n*n+13*n+5)*48271).fmod 2147483647*52021).fmod 1000000007)))) (some (.pv (.int ((((x+11*n*n+17*n+3)*40692).fmod 2147483399*30011).fmod 998244353)))) (some (.pv (.int ((((x+5*n*n+29*n+8)*39373).fmod 2147483587*45989).fmod 1000000009)))) (h.set _) (by simp; omega) (by omega)
   refine ⟨acc',w2,w3,w4,w5,w6,?_,q⟩
   rw [List.set_set] at e
   rw [← e]
   show dH [] _ _ (.tup [.int n,.int x] :: gO (n+1) (cs.map .int)) _ S=_
   rw [iV]
   simp [EC,gT,dM,fN,gN,aN,aJ,aK,fIx,atI,ixN,fEq,fNe,eqN,aO,aQ,aP,aR,aG,aU,frz,aL,p18,c,eZ,iN,kZ,h',hlen,kB _ hk1 hk2,kB _ (show -(2 ^ 64) < (48271:Int) by decide) (by decide),kB _ (show -(2 ^ 64) < (40692:Int) by decide) (by decide),kB _ (show -(2 ^ 64) < (39373:Int) by decide) (by decide),kB _ (show -(2 ^ 64) < (52021:Int) by decide) (by decide),kB _ (show -(2 ^ 64) < (30011:Int) by decide) (by decide),kB _ (show -(2 ^ 64) < (45989:Int) by decide) (by decide),kB _ (show -(2 ^ 64) < (998244353:Int) by decide) (by decide),kB _ (show -(2 ^ 64) < (1000000009:Int) by decide) (by decide),kQ (show (2147483647:Int)≠0 by decide),kQ (show (2147483399:Int)≠0 by decide),kQ (show (2147483587:Int)≠0 by decide),kQ (show (1000000007:Int)≠0 by decide),kQ (show (998244353:Int)≠0 by decide),kQ (show (1000000009:Int)≠0 by decide)]
theorem ajO (ns:List Int) (S:Sto) (h:ns.length≤63):∃ ms:List Int,oJ [.pv (.lst (ns.map .int))] S=.ok (.ref S.length) (S++[.lst (ms.map .int)])∧ms.length≤63:=by
 have hr:Row (S++[.lst []]) S.length []:=by unfold Row; simp
 obtain ⟨ms,w2,w3,w4,w5,w6,e,q⟩:=yH (a:=.pv (.lst (ns.map .int))) ns 0 [] (S++[.lst []]) none none none none none hr (by simpa using h) (by simpa using h)
 have ec:gR (ns.map .int) none (some 63)=ns.map .int:=by
  unfold gR
  have e1:HT.sIx (ns.map PV.int).length 0 none=0:=rfl
  have e2:HT.sIx (ns.map PV.int).length (ns.map PV.int).length (some 63)=(ns.map PV.int).length:=by
   have:=HT.sIx_nat (ns.map PV.int).length (ns.map PV.int).length 63
   rw [show ((63:Nat):Int)=63 from rfl] at this
   rw [this,List.length_map]
   omega
  rw [e1,e2,List.drop_zero,Nat.sub_zero,List.take_length]
 refine ⟨ms,?_,q⟩
 have es:(S++[SO.lst []]).set S.length (.lst (ms.map .int))=S++[.lst (ms.map .int)]:=by simp
 rw [es] at e
 unfold oJ fnM zE
 simp [EC,aN,aJ,aK,fIx,atI,ixN,fEq,fNe,eqN,aO,aQ,aP,aR,aG,aU,frz,aL,dJ,fO,jX,ag5,mSl,mO0,mO1,dG,fSl,zF,ec,e]
def PT (L:List Int) (b:Int):List Int:=(low (L++[b])).map (sg b*·)
theorem ak3 {L:List Int} {b:Int} (hb:b≠0):gl (L++[b]) 0≠0:=qX (kM L b) hb
theorem ai4 {L:List Int} {b:Int} (hb:0 < b):PT L b=low (L++[b]):=by
 unfold PT sg
 rw [if_pos hb]
 conv=>rhs; rw [← List.map_id (low (L++[b]))]
 exact List.map_congr_left fun n _=>Int.one_mul n
theorem acH (S:Sto) (v2:Option AV):∀ (ns:List Int) (g:Int) (a:AV),∃ v',dH [] (gN 2) (bA 1 (aY kL [] (aB (aA 1) (aB (aA 2) aE)))) (ns.map .int) [some a,some (.pv (.int g)),v2] S=.nx [some a,some (.pv (.int (gl ns g))),v'] S
 | [],g,a=>⟨v2,jM⟩
 | n :: ns,g,a=>by
  obtain ⟨v',e⟩:=acH S (some (.pv (.int n))) ns (Int.gcd g n:Nat) a
  refine ⟨v',?_⟩
  show dH [] _ _ (.int n :: ns.map .int) _ S=_
  rw [iV]
  simp [EC,gN,aN,aJ,aK,fIx,atI,ixN,fEq,fNe,eqN,aO,aQ,aP,aR,aG,aU,frz,aL,abq]
  exact e
theorem adB (ns:List Int) (S:Sto) (hb:∀ n∈ns,Bd 8000 n) (h:gl ns 0≠0):pW [.pv (.lst (ns.map .int))] S=.ok (.pv (.lst ((low ns).map .int))) S:=by
 obtain ⟨v',e⟩:=acH S none ns 0 (.pv (.lst (ns.map .int)))
 have el:low ns=ns.map fun n=>n.fdiv (gl ns 0):=by
  unfold low
  rw [if_neg h]
  exact List.map_congr_left fun n hn=>(Int.fdiv_eq_ediv_of_dvd ((jE ns 0).2 n hn)).symm
 have bg:Bd 8000 (gl ns 0):=uL (Bd.of (n:=0) (by simp) (Nat.two_pow_pos 8000)) hb
 have ec:=tF S (gl ns 0) h bg ns none
 unfold pW fnM xK
 simp [EC,aN,aJ,aK,fIx,atI,ixN,fEq,fNe,eqN,aO,aQ,aP,aR,aG,aU,frz,aL,dJ,mIt,bV,e,h,el,bJ,bR,ec]
theorem ac6 (S:Sto) (b:Int):∀ (ns:List Int) (x:Option AV),bT [] (gN 0) (aC bD (aY jC [] (aB (aA 1) aE)) (aA 0)) (ns.map .int) [x,some (.pv (.int b))] S=.ok ((ns.map (sg b*·)).map .int) S
 | [],x=>eG
 | n :: ns,x=>by
  have ih:=ac6 S b ns (some (.pv (.int n)))
  have hm:bD (.int (sg b)) (.int n)=some (.int (sg b*n)):=jO (.inl (.inl (afu b)))
  show bT [] _ _ (.int n :: ns.map .int) _ S=_
  rw [eN]
  simp [EC,gN,aN,aJ,aK,fIx,atI,ixN,fEq,fNe,eqN,aO,aQ,aP,aR,aG,aU,frz,aL,tU,hm,ih]
theorem afF {w:PV} (L:List Int) (b:Int) (S:Sto) (hw:w=.lst (L.map .int)∨w=.tup (L.map .int)) (hL:∀ n∈L,Bd 8000 n) (bb:Bd 8000 b) (hb:b≠0) (hl:L.length≤100):lV [.pv w,.pv (.int b)] S=.ok (.pv (.tup ((PT L b).map .int))) S:=by
 have e1:=adB (L++[b]) S (fun n hn=>by
  rcases List.mem_append.mp hn with z | z
  ·exact hL n z
  ·have:n=b:=by simpa using z
   rw [this]; exact bb) (ak3 hb)
 have e2:=ac6 S b (low (L++[b])) none
 have hz:L.length+1≤16777216:=by omega
 simp only [List.map_append,List.map_cons,List.map_nil] at e1
 unfold PT lV fnM qF
 rcases hw with rfl | rfl <;> simp [EC,aN,aJ,aK,fIx,atI,ixN,fEq,fNe,eqN,aO,aQ,aP,aR,aG,aU,frz,aL,hb,hz,e1,mIt,bV,bJ,bR,e2]
theorem af5 (zs:List Int) (z:Int):gR ((zs++[z]).map .int) none (some (-1))=zs.map .int:=by
 unfold gR
 have e1:HT.sIx ((zs++[z]).map PV.int).length 0 none=0:=rfl
 have e2:HT.sIx ((zs++[z]).map PV.int).length ((zs++[z]).map PV.int).length (some (-1))=zs.length:=by
  rw [List.length_map,List.length_append]
  exact yF zs.length _
 rw [e1,e2]
 simp
theorem aem (zs:List Int) (z:Int):¬ (HT.sIx ((zs++[z]).map PV.int).length 0 none=0∧HT.sIx ((zs++[z]).map PV.int).length ((zs++[z]).map PV.int).length (some (-1))=((zs++[z]).map PV.int).length):=by
 rintro ⟨_,e⟩
 have e2:HT.sIx ((zs++[z]).map PV.int).length ((zs++[z]).map PV.int).length (some (-1))=zs.length:=by
  rw [List.length_map,List.length_append]
  exact yF zs.length _
 rw [e2,List.length_map,List.length_append] at e
 simp at e
theorem tG (zs:List Int) (z:Int):fSl (.tup ((zs++[z]).map .int)) none (some (-1))=some (.tup (zs.map .int)):=by
 unfold fSl
 dsimp only
 rw [if_neg (aem zs z),af5]
theorem lO (zs:List Int) (z:Int):fIx (.tup ((zs++[z]).map .int)) (.int (-1))=some (.int z):=by
 show atI ((zs++[z]).map PV.int) (-1)=_
 rw [List.map_append]
 exact afx _ _
theorem sm8 {m:Int} (h0:0≤m) (h:m < 1024):Bd 8000 m:=Bd.of (n:=1023) (by omega) (Nat.lt_of_lt_of_le (show 1023 < 2 ^ 10 by decide) (Nat.pow_le_pow_right (by decide) (by decide)))
theorem cR (n:Nat) (a b:Int):eqN n (.int a) (.int b)=some (a == b):=by cases n <;> rfl
theorem mB {a b:Int} (h:Bd 2000 a) (g:Bd 2000 b):bD (.int a) (.int b)=some (.int (a*b)):=jO (.inr ⟨h.mono (by decide),g.mono (by decide)⟩)
theorem agv (zs:List Int) (z:Int) (j:Nat) (h:j < zs.length):fIx (.tup ((zs++[z]).map .int)) (.int (j:Nat))=some (.int (zs.getD j 0)):=by
 show atI ((zs++[z]).map PV.int) (j:Int)=_
 refine aec ?_
 rw [List.getElem?_map,List.getElem?_append_left h,List.getElem?_eq_getElem h]
 simp [List.getD,h]
theorem aex {xs:List Int} {k:Nat} (h:∀ x∈xs,Bd k x) (j:Nat):Bd k (xs.getD j 0):=by
 by_cases hj:j < xs.length
 ·have e:xs.getD j 0=xs[j]:=by simp [List.getD,hj]
  rw [e]
  exact h _ (List.getElem_mem hj)
 ·have e:xs.getD j 0=0:=by simp [List.getD,hj]
  rw [e]
  exact Bd.of (n:=0) (by decide) (Nat.two_pow_pos k)
theorem aer {xs ys:List Int} (hl:xs.length=ys.length) (f:Int→Int→Int):(List.range xs.length).map (fun j=>f (xs.getD j 0) (ys.getD j 0))=List.zipWith f xs ys:=by
 refine List.ext_getElem (by simp [hl]) fun i h1 h2=>?_
 have hi:i < xs.length:=by simpa using h1
 have hj:i < ys.length:=by omega
 simp [List.getD,hi,hj]
structure Pq (n k:Nat) (xs:List Int) (w:Int):Prop where
 len:xs.length=n
 pos:0 < w
 low:low (xs++[w])=xs++[w]
 bx:∀ x∈xs,Bd k x
 bw:Bd k w
def Vl (n:Nat) (xs:List Int) (w:Int) (N:Nat→Int) (D:Int):Prop:=∀ j,j < n→xs.getD j 0*D=N j*w
theorem Vl.self (n:Nat) (xs:List Int) (w:Int):Vl n xs w (fun j=>xs.getD j 0) w:=fun _ _=>rfl
theorem aiz {a b c:Int} (h:0 < c) (e:a*c=b*c):a=b:=Int.eq_of_mul_eq_mul_right (by omega) e
theorem Pq.same {n k k':Nat} {xs ys:List Int} {w v:Int} (P:Pq n k xs w) (Q:Pq n k' ys v) (h:∀ j,j < n→xs.getD j 0*v=ys.getD j 0*w):xs++[w]=ys++[v]:=by
 rw [← P.low,← Q.low]
 refine acM (k:=v) (m:=w) Q.pos P.pos (qX (kM xs w) (by have:=P.pos; omega)) ?_
 rw [List.map_append,List.map_append]
 congr 1
 ·refine List.ext_getElem (by simp [P.len,Q.len]) fun j h1 h2=>?_
  have hj:j < n:=by rw [← P.len]; simpa using h1
  have e:=h j hj
  have a1:xs.getD j 0=xs[j]'(by rw [P.len]; exact hj):=by simp [List.getD,P.len,hj]
  have a2:ys.getD j 0=ys[j]'(by rw [Q.len]; exact hj):=by simp [List.getD,Q.len,hj]
  rw [a1,a2] at e
  rw [List.getElem_map,List.getElem_map]
  rw [Int.mul_comm v,Int.mul_comm w]
  exact e
 ·simp only [List.map_cons,List.map_nil]
  rw [Int.mul_comm]
theorem Pq.eq {n k k':Nat} {xs ys:List Int} {w v:Int} {N M:Nat→Int} {D E:Int} (P:Pq n k xs w) (Q:Pq n k' ys v) (a:Vl n xs w N D) (b:Vl n ys v M E) (hD:0 < D) (hE:0 < E) (h:∀ j,j < n→N j*E=M j*D):xs++[w]=ys++[v]:=by
 refine P.same Q fun j hj=>?_
 have e1:=a j hj
 have e2:=b j hj
 have e3:=h j hj
 refine aiz (c:=D*E) (Int.mul_pos hD hE) ?_
 grind
theorem Pq.mono {n k l:Nat} {xs:List Int} {w:Int} (P:Pq n k xs w) (h:k≤l):Pq n l xs w:=⟨P.len,P.pos,P.low,fun x hx=>(P.bx x hx).mono h,P.bw.mono h⟩
theorem af4 {xs:List Int} {w:Int} {n k:Nat} (S:Sto) (hk:k≤2000) (h:Pq n k xs w):mV [.pv (.tup ((xs++[w]).map .int)),.pv (.int n)] S=.ok (.pv (.bl true)) S:=by
 have e1:=adX (xs++[w]) S
 have hl:((xs++[w]).length:Int)=(n:Int)+1:=by simp [h.len]
 rw [hl] at e1
 have ip:=lO xs w
 have el:=adr (xs++[w]) S (fun m hm=>by
  rcases List.mem_append.mp hm with z | z
  ·exact (h.bx m z).mono (by omega)
  ·have:m=w:=by simpa using z
   rw [this]; exact h.bw.mono (by omega))
 rw [h.low] at el
 have q:eqN 8 (.tup ((xs++[w]).map .int)) (.tup ((xs++[w]).map .int))=some true:=adY 7 _
 have hw:¬ w < 1:=by have:=h.pos; omega
 generalize (xs++[w]).map PV.int=PL at e1 ip el q
 unfold mV fnM wE
 simp [EC,aN,aJ,aK,fEq,fNe,cR,aO,aQ,aP,aR,aG,aU,frz,aL,e1,ip,hw,el,q]
theorem ahk (t b:Int) (S:Sto) (ht:Bd 8000 t) (hb:Bd 8000 b):nT [.pv (.int t),.pv (.int b)] S=.ok (.pv (.tup ((fr t b).map .int))) S:=by
 unfold nT fnM yX fr
 have e1:=sT [0 - t,0 - b] S (by
  intro n hn
  rcases List.mem_cons.mp hn with rfl | hn
  ·rw [Int.zero_sub]; exact ht.neg
  ·have:n=0 - b:=by simpa using hn
   rw [this,Int.zero_sub]; exact hb.neg)
 have e2:=sT [t,b] S (by
  intro n hn
  rcases List.mem_cons.mp hn with rfl | hn
  ·exact ht
  ·have:n=b:=by simpa using hn
   rw [this]; exact hb)
 by_cases h:b < 0
 ·simp only [List.map_cons,List.map_nil,Int.zero_sub] at e1
  simp [EC,aN,aJ,aK,fIx,atI,ixN,fEq,fNe,eqN,aO,aQ,aP,aR,aG,aU,frz,aL,h,e1]
 ·simp only [List.map_cons,List.map_nil] at e2
  simp [EC,aN,aJ,aK,fIx,atI,ixN,fEq,fNe,eqN,aO,aQ,aP,aR,aG,aU,frz,aL,h,e2]
theorem aaR (t b:Int) (S:Sto) (ht:Bd 7000 t) (hb:Bd 7000 b) (h:b≠0):gS [.pv (.int t),.pv (.int b)] S=.ok (.pv (.tup ((fr t b).map .int))) S:=by
 have gb:Bd 7000 ((Int.gcd t b:Nat):Int):=ht.gcd hb
 have sb:Bd 2 (sg b):=by
  unfold sg
  split
  ·unfold Bd; simp
  ·split <;> (unfold Bd; simp)
 have mb:mF (sg b) (Int.gcd t b:Nat):=.inr ⟨sb.mono (by decide),gb.mono (by decide)⟩
 have nz:sg b*(Int.gcd t b:Nat)≠0:=by
  have gp:=tX (lD t b) h
  rw [uB] at gp
  rcases acD h with ⟨_,s⟩ | ⟨_,s⟩ <;> rw [s] <;> omega
 have qb:∀ x,mG x (sg b*(Int.gcd t b:Nat)):=fun x=>⟨nz,(sb.mul gb).mono (by decide)⟩
 rw [← adL h]
 unfold gS fnM lN
 simp [EC,aN,aJ,aK,fIx,atI,ixN,fEq,fNe,eqN,aO,aQ,aP,aR,aG,aU,frz,aL,h,tU,abq,jO mb,tJ (qb t),tJ (qb b)]
theorem wV:∀ is:List Int,jV (is.map .int)=some is
 | []=>rfl
 | i :: is=>by
  have ih:=wV is
  show (match jV (is.map .int) with | some bs=>some (i :: bs) | none=>none)=_
  rw [ih]
theorem abL (is:List Int):pL [.lst (is.map .int)]=some (.int is.sum):=by
 simp only [pL,wV,Option.map_some]
def wa (xs:List Int) (w:Int) (ys:List Int) (v:Int):List Int:=List.zipWith (fun x y=>y*w - x*v) xs ys
theorem aeD (S:Sto) (PL QL:List PV) (w v:Int) (hp:fIx (.tup PL) (.int (-1))=some (.int w)) (hq:fIx (.tup QL) (.int (-1))=some (.int v)) (bw:Bd 2000 w) (bv:Bd 2000 v):∀ (xs ys:List Int) (x y:Option AV),xs.length=ys.length→(∀ x∈xs,Bd 2000 x)→(∀ y∈ys,Bd 2000 y) →
  bT [] (gT 2 (dM (gN 0) (dM (gN 1) fN))) (aC dF (aC bD (aA 1) (aC fIx (aA 2) (mUn cV (mC (.int 1))))) (aC bD (aA 0) (aC fIx (aA 3) (mUn cV (mC (.int 1)))))) (fU (xs.map .int) (ys.map .int)) [x,y,some (.pv (.tup PL)),some (.pv (.tup QL))] S=.ok ((wa xs w ys v).map .int) S
 | [],ys,x,y,hl,_,_=>by
  have:ys=[]:=List.length_eq_zero_iff.mp hl.symm
  subst this
  exact eG
 | a :: xs,[],x,y,hl,_,_=>by cases hl
 | a :: xs,b :: ys,x,y,hl,hx,hy=>by
  have ih:=aeD S PL QL w v hp hq bw bv xs ys (some (.pv (.int a))) (some (.pv (.int b))) (by simpa using hl) (fun m hm=>hx m (List.mem_cons_of_mem _ hm)) (fun m hm=>hy m (List.mem_cons_of_mem _ hm))
  have m1:=mB (hx a List.mem_cons_self) bv
  have m2:=mB (hy b List.mem_cons_self) bw
  show bT [] _ _ (.tup [.int a,.int b] :: fU (xs.map .int) (ys.map .int)) _ S=_
  rw [eN]
  simp [gT,dM,fN,gN,EC,aN,aJ,aK,fEq,fNe,cR,aO,aQ,aP,aR,aG,aU,frz,aL,hp,hq,m1,m2,ih,wa]
theorem acZ {xs ys:List Int} {w v:Int} (S:Sto) (hl:xs.length=ys.length) (hx:∀ x∈xs,Bd 2000 x) (hy:∀ y∈ys,Bd 2000 y) (bw:Bd 2000 w) (bv:Bd 2000 v) :
  lK [.pv (.tup ((xs++[w]).map .int)),.pv (.tup ((ys++[v]).map .int))] S=.ok (.pv (.lst ((wa xs w ys v).map .int))) S:=by
 have ip:=lO xs w
 have iq:=lO ys v
 have sp:=tG xs w
 have sq:=tG ys v
 have ec:=aeD S _ _ w v ip iq bw bv xs ys none none hl hx hy
 generalize (xs++[w]).map PV.int=PL at ip sp ec
 generalize (ys++[v]).map PV.int=QL at iq sq ec
 unfold lK fnM wK
 simp [EC,aN,aJ,aK,fEq,fNe,cR,aO,aQ,aP,aR,aG,aU,frz,aL,bJ,mJ,rB,bV,mSl,mO0,mO1,dG,sp,sq,bR,ec]
theorem yE (S:Sto):∀ (us vs:List Int) (x y:Option AV),(∀ x∈us,Bd 100000 x)→(∀ y∈vs,Bd 100000 y) →
  bT [] (gT 2 (dM (gN 0) (dM (gN 1) fN))) (aC bD (aA 0) (aA 1)) (fU (us.map .int) (vs.map .int)) [x,y] S=.ok ((List.zipWith (·*·) us vs).map .int) S
 | [],vs,x,y,_,_=>by
  show bT [] _ _ [] _ S=_
  exact eG
 | a :: us,[],x,y,_,_=>by
  show bT [] _ _ [] _ S=_
  exact eG
 | a :: us,b :: vs,x,y,hx,hy=>by
  have ih:=yE S us vs (some (.pv (.int a))) (some (.pv (.int b))) (fun m hm=>hx m (List.mem_cons_of_mem _ hm)) (fun m hm=>hy m (List.mem_cons_of_mem _ hm))
  have m1:bD (.int a) (.int b)=some (.int (a*b)):=jO (.inr ⟨(hx a List.mem_cons_self).mono (by decide),(hy b List.mem_cons_self).mono (by decide)⟩)
  show bT [] _ _ (.tup [.int a,.int b] :: fU (us.map .int) (vs.map .int)) _ S=_
  rw [eN]
  simp [gT,dM,fN,gN,EC,aN,aJ,aK,fEq,fNe,cR,aO,aQ,aP,aR,aG,aU,frz,aL,m1,ih]
def dt (us vs:List Int):Int:=(List.zipWith (·*·) us vs).sum
def Sq (A:PV) (us:List Int):Prop:=A=.lst (us.map .int)∨A=.tup (us.map .int)
theorem agw {A B:PV} {us vs:List Int} (S:Sto) (hA:Sq A us) (hB:Sq B vs) (hx:∀ x∈us,Bd 100000 x) (hy:∀ y∈vs,Bd 100000 y):rA [.pv A,.pv B] S=.ok (.pv (.int (dt us vs))) S:=by
 have ec:=yE S us vs none none hx hy
 have es:=abL (List.zipWith (·*·) us vs)
 unfold dt
 generalize (List.zipWith (·*·) us vs).map PV.int=ZL at ec es
 generalize (List.zipWith (·*·) us vs).sum=Z at es
 unfold rA fnM ahN
 rcases hA with rfl | rfl <;> rcases hB with rfl | rfl <;>
  (generalize us.map PV.int=UL at ec ⊢; generalize vs.map PV.int=VL at ec ⊢; simp [EC,aN,aJ,aK,fEq,fNe,cR,aO,aQ,aP,aR,aG,aU,frz,aL,bJ,mJ,rB,bV,bR,ec,es])
theorem aeA {A B:PV} {us vs:List Int} (S:Sto) (hA:Sq A us) (hB:Sq B vs) (hx:∀ x∈us,Bd 100000 x) (hy:∀ y∈vs,Bd 100000 y):qU [.pv A,.pv B] S=.ok (.pv (.int (dt us vs))) S:=by
 have ec:=yE S us vs none none hx hy
 have es:=abL (List.zipWith (·*·) us vs)
 unfold dt
 generalize (List.zipWith (·*·) us vs).map PV.int=ZL at ec es
 generalize (List.zipWith (·*·) us vs).sum=Z at es
 unfold qU fnM zY
 rcases hA with rfl | rfl <;> rcases hB with rfl | rfl <;>
  (generalize us.map PV.int=UL at ec ⊢; generalize vs.map PV.int=VL at ec ⊢; simp [EC,aN,aJ,aK,fEq,fNe,cR,aO,aQ,aP,aR,aG,aU,frz,aL,bJ,mJ,rB,bV,bR,ec,es])
theorem mBB {k l:Nat} {a b:Int} (h:Bd k a) (g:Bd l b) (hk:k≤1000000:=by decide) (hl:l≤1000000:=by decide):bD (.int a) (.int b)=some (.int (a*b)):=jO (.inr ⟨h.mono hk,g.mono hl⟩)
theorem ahO (a b:Int) (S:Sto):lR [.pv (.lst [.lst [.int a,.int b]])] S=.ok (.pv (.lst [.int (-b),.int a])) S:=by
 unfold lR fnM tD
 simp [EC,aN,aJ,aK,fIx,atI,ixN,fEq,fNe,eqN,aO,aQ,aP,aR,aG,aU,frz,aL]
theorem agW {a b c d e f:Int} (S:Sto) (ha:Bd 10000 a) (hb:Bd 10000 b) (hc:Bd 10000 c) (hd:Bd 10000 d) (he:Bd 10000 e) (hf:Bd 10000 f):lR [.pv (.lst [.lst [.int a,.int b,.int c],.lst [.int d,.int e,.int f]])] S=.ok (.pv (.lst [.int (b*f - c*e),.int (c*d - a*f),.int (a*e - b*d)])) S:=by
 have m1:=mBB hb hf
 have m2:=mBB hc he
 have m3:=mBB hc hd
 have m4:=mBB ha hf
 have m5:=mBB ha he
 have m6:=mBB hb hd
 unfold lR fnM tD
 simp [EC,aN,aJ,aK,fIx,atI,ixN,fEq,fNe,eqN,aO,aQ,aP,aR,aG,aU,frz,aL,m1,m2,m3,m4,m5,m6]
theorem acQ {A B:PV} {a b c d e f:Int} (S:Sto) (hA:Sq A [a,b,c]) (hB:Sq B [d,e,f]) (ha:Bd 10000 a) (hb:Bd 10000 b) (hc:Bd 10000 c) (hd:Bd 10000 d) (he:Bd 10000 e) (hf:Bd 10000 f):qB [.pv A,.pv B] S=.ok (.pv (.lst [.int (b*f - c*e),.int (c*d - a*f),.int (a*e - b*d)])) S:=by
 have m1:=mBB hb hf
 have m2:=mBB hc he
 have m3:=mBB hc hd
 have m4:=mBB ha hf
 have m5:=mBB ha he
 have m6:=mBB hb hd
 unfold qB fnM yG
 rcases hA with rfl | rfl <;> rcases hB with rfl | rfl <;> simp [EC,aN,aJ,aK,fIx,atI,ixN,fEq,fNe,eqN,aO,aQ,aP,aR,aG,aU,frz,aL,m1,m2,m3,m4,m5,m6]
structure P2 (x y w:Int):Prop where
 bx:Bd 1000 x
 by_:Bd 1000 y
 bw:Bd 1000 w
 pos:0 < w
structure P3 (x y z w:Int):Prop where
 bx:Bd 1000 x
 by_:Bd 1000 y
 bz:Bd 1000 z
 bw:Bd 1000 w
 pos:0 < w
abbrev v2 (x y w:Int):PV:=.tup [.int x,.int y,.int w]
abbrev v3 (x y z w:Int):PV:=.tup [.int x,.int y,.int z,.int w]
def Sv (A:PV) (L:List PV):Prop:=A=.lst L∨A=.tup L
theorem akW (p:PV) (L:List PV):gR (p :: L) (some 1) none=L:=by
 unfold gR
 have e1:HT.sIx (p :: L).length 0 (some 1)=1:=by
  rw [show (some (1:Int))=some ((1:Nat):Int) from rfl,HT.sIx_nat,List.length_cons]
  omega
 rw [e1]
 show ((p :: L).drop 1).take ((p :: L).length - 1)=L
 simp
theorem oQ (p:PV) (L:List PV):fSl (.lst (p :: L)) (some 1) none=some (.lst L):=by
 unfold fSl
 dsimp only
 rw [akW]
theorem uX (p:PV) (L:List PV):fSl (.tup (p :: L)) (some 1) none=some (.tup L):=by
 unfold fSl
 dsimp only
 have e1:HT.sIx (p :: L).length 0 (some 1)=1:=by
  rw [show (some (1:Int))=some ((1:Nat):Int) from rfl,HT.sIx_nat,List.length_cons]
  omega
 rw [if_neg (by rw [e1]; simp),akW]
theorem agf (L:List PV) (p:PV):fSl (.lst (L++[p])) none (some (-1))=some (.lst L):=by
 unfold fSl
 dsimp only
 unfold gR
 have e1:HT.sIx (L++[p]).length (L++[p]).length (some (-1))=L.length:=by
  rw [List.length_append]
  exact yF L.length _
 rw [e1]
 show some (PV.lst (((L++[p]).drop 0).take (L.length - 0)))=_
 simp
theorem agA {x0 y0 w0 x1 y1 w1:Int} (S:Sto) (p:P2 x0 y0 w0) (q:P2 x1 y1 w1):lK [.pv (v2 x0 y0 w0),.pv (v2 x1 y1 w1)] S=.ok (.pv (.lst [.int (x1*w0 - x0*w1),.int (y1*w0 - y0*w1)])) S:=by
 have e:=acZ (xs:=[x0,y0]) (ys:=[x1,y1]) (w:=w0) (v:=w1) S rfl (by simp; exact ⟨p.bx.mono (by decide),p.by_.mono (by decide)⟩) (by simp; exact ⟨q.bx.mono (by decide),q.by_.mono (by decide)⟩) (p.bw.mono (by decide)) (q.bw.mono (by decide))
 exact e
theorem zM {x0 y0 z0 w0 x1 y1 z1 w1:Int} (S:Sto) (p:P3 x0 y0 z0 w0) (q:P3 x1 y1 z1 w1):lK [.pv (v3 x0 y0 z0 w0),.pv (v3 x1 y1 z1 w1)] S=.ok (.pv (.lst [.int (x1*w0 - x0*w1),.int (y1*w0 - y0*w1),.int (z1*w0 - z0*w1)])) S:=by
 have e:=acZ (xs:=[x0,y0,z0]) (ys:=[x1,y1,z1]) (w:=w0) (v:=w1) S rfl (by simp; exact ⟨p.bx.mono (by decide),p.by_.mono (by decide),p.bz.mono (by decide)⟩) (by simp; exact ⟨q.bx.mono (by decide),q.by_.mono (by decide),q.bz.mono (by decide)⟩) (p.bw.mono (by decide)) (q.bw.mono (by decide))
 exact e
theorem sb {x0 w0 x1 w1:Int} (a:Bd 1000 x0) (b:Bd 1000 w0) (c:Bd 1000 x1) (d:Bd 1000 w1):Bd 2001 (x1*w0 - x0*w1):=((c.mul b).mono (show 1000+1000≤2000 by decide)).sub ((a.mul d).mono (show 1000+1000≤2000 by decide))
theorem cb {a b c d:Int} (h1:Bd 2001 a) (h2:Bd 2001 b) (h3:Bd 2001 c) (h4:Bd 2001 d):Bd 4003 (a*b - c*d):=((h1.mul h2).mono (show 2001+2001≤4002 by decide)).sub ((h3.mul h4).mono (show 2001+2001≤4002 by decide))
def D2 (x0 y0 w0 x1 y1 w1 x2 y2 w2:Int):Int:=w0*(x1*y2 - y1*x2) - w1*(x0*y2 - y0*x2)+w2*(x0*y1 - y0*x1)
def D3 (x0 y0 z0 w0 x1 y1 z1 w1 x2 y2 z2 w2 x3 y3 z3 w3:Int):Int :=
 w0*((y1*z2 - z1*y2)*x3+(z1*x2 - x1*z2)*y3+(x1*y2 - y1*x2)*z3) - w1*((y0*z2 - z0*y2)*x3+(z0*x2 - x0*z2)*y3+(x0*y2 - y0*x2)*z3)
 + w2*((y0*z1 - z0*y1)*x3+(z0*x1 - x0*z1)*y3+(x0*y1 - y0*x1)*z3) - w3*((y0*z1 - z0*y1)*x2+(z0*x1 - x0*z1)*y2+(x0*y1 - y0*x1)*z2)
theorem akF (x0 y0 w0 x1 y1 w1 x2 y2 w2:Int):dt [-(y1*w0 - y0*w1),x1*w0 - x0*w1] [x2*w0 - x0*w2,y2*w0 - y0*w2]=w0*D2 x0 y0 w0 x1 y1 w1 x2 y2 w2:=by
 simp only [dt,D2,List.zipWith_cons_cons,List.zipWith_nil_left,List.sum_cons,List.sum_nil]
 grind
theorem ahp (x0 y0 z0 w0 x1 y1 z1 w1 x2 y2 z2 w2 x3 y3 z3 w3:Int):dt [(y1*w0 - y0*w1)*(z2*w0 - z0*w2) - (z1*w0 - z0*w1)*(y2*w0 - y0*w2),(z1*w0 - z0*w1)*(x2*w0 - x0*w2) - (x1*w0 - x0*w1)*(z2*w0 - z0*w2),(x1*w0 - x0*w1)*(y2*w0 - y0*w2) - (y1*w0 - y0*w1)*(x2*w0 - x0*w2)] [x3*w0 - x0*w3,y3*w0 - y0*w3,z3*w0 - z0*w3]=w0*w0*D3 x0 y0 z0 w0 x1 y1 z1 w1 x2 y2 z2 w2 x3 y3 z3 w3:=by
 simp only [dt,D3,List.zipWith_cons_cons,List.zipWith_nil_left,List.sum_cons,List.sum_nil]
 grind
theorem oG {w d:Int} (h:0 < w):sg (w*d)=sg d:=by
 unfold sg
 by_cases h1:0 < d
 ·rw [if_pos (Int.mul_pos h h1),if_pos h1]
 ·by_cases h2:d < 0
  ·have:w*d < 0:=Int.mul_neg_of_pos_of_neg h h2
   rw [if_neg (by omega),if_pos this,if_neg h1,if_pos h2]
  ·have:d=0:=by omega
   subst this
   rw [Int.mul_zero]
theorem ahK {A:PV} {x0 y0 w0 x1 y1 w1 x2 y2 w2:Int} (S:Sto) (hA:Sv A [v2 x0 y0 w0,v2 x1 y1 w1,v2 x2 y2 w2]) (p:P2 x0 y0 w0) (q:P2 x1 y1 w1) (r:P2 x2 y2 w2):lL [.pv A] S=.ok (.pv (.int (w0*D2 x0 y0 w0 x1 y1 w1 x2 y2 w2))) S:=by
 have a1:=agA S p q
 have a2:=agA S p r
 have bu:=sb p.bx p.bw q.bx q.bw
 have bv:=sb p.by_ p.bw q.by_ q.bw
 have bu2:=sb p.bx p.bw r.bx r.bw
 have bv2:=sb p.by_ p.bw r.by_ r.bw
 have id:=akF x0 y0 w0 x1 y1 w1 x2 y2 w2
 generalize w0*D2 x0 y0 w0 x1 y1 w1 x2 y2 w2=D at *
 generalize x1*w0 - x0*w1=U0 at *
 generalize y1*w0 - y0*w1=U1 at *
 generalize x2*w0 - x0*w2=V0 at *
 generalize y2*w0 - y0*w2=V1 at *
 have en:=ahO U0 U1 S
 have ed:=agw (A:=.lst [.int (-U1),.int U0]) (B:=.lst [.int V0,.int V1]) (us:=[-U1,U0]) (vs:=[V0,V1]) S (.inl rfl) (.inl rfl) (by simp; exact ⟨bv.neg.mono (by decide),bu.mono (by decide)⟩) (by simp; exact ⟨bu2.mono (by decide),bv2.mono (by decide)⟩)
 rw [id] at ed
 have pre:=agf [.lst [.int U0,.int U1]] (.lst [.int V0,.int V1])
 simp only [List.cons_append,List.nil_append] at pre
 generalize v2 x0 y0 w0=P at *
 generalize v2 x1 y1 w1=Q at *
 generalize v2 x2 y2 w2=R at *
 unfold lL fnM rW
 rcases hA with rfl | rfl
 ·have s1:=oQ P [Q,R]
  simp [EC,aN,aJ,aK,fIx,atI,ixN,fEq,fNe,eqN,aO,aQ,aP,aR,aG,aU,frz,aL,bJ,mIt,bV,mSl,mO0,mO1,dG,s1,bR,eN,eG,gN,a1,a2,pre,en,ed]
 ·have s1:=uX P [Q,R]
  simp [EC,aN,aJ,aK,fIx,atI,ixN,fEq,fNe,eqN,aO,aQ,aP,aR,aG,aU,frz,aL,bJ,mIt,bV,mSl,mO0,mO1,dG,s1,bR,eN,eG,gN,a1,a2,pre,en,ed]
theorem aha {A:PV} {x0 y0 z0 w0 x1 y1 z1 w1 x2 y2 z2 w2 x3 y3 z3 w3:Int} (S:Sto) (hA:Sv A [v3 x0 y0 z0 w0,v3 x1 y1 z1 w1,v3 x2 y2 z2 w2,v3 x3 y3 z3 w3]) (p:P3 x0 y0 z0 w0) (q:P3 x1 y1 z1 w1) (r:P3 x2 y2 z2 w2) (s:P3 x3 y3 z3 w3):lL [.pv A] S=.ok (.pv (.int (w0*w0*D3 x0 y0 z0 w0 x1 y1 z1 w1 x2 y2 z2 w2 x3 y3 z3 w3))) S:=by
 have a1:=zM S p q
 have a2:=zM S p r
 have a3:=zM S p s
 have b1:=sb p.bx p.bw q.bx q.bw
 have b2:=sb p.by_ p.bw q.by_ q.bw
 have b3:=sb p.bz p.bw q.bz q.bw
 have b4:=sb p.bx p.bw r.bx r.bw
 have b5:=sb p.by_ p.bw r.by_ r.bw
 have b6:=sb p.bz p.bw r.bz r.bw
 have b7:=sb p.bx p.bw s.bx s.bw
 have b8:=sb p.by_ p.bw s.by_ s.bw
 have b9:=sb p.bz p.bw s.bz s.bw
 have id:=ahp x0 y0 z0 w0 x1 y1 z1 w1 x2 y2 z2 w2 x3 y3 z3 w3
 generalize w0*w0*D3 x0 y0 z0 w0 x1 y1 z1 w1 x2 y2 z2 w2 x3 y3 z3 w3=D at *
 generalize x1*w0 - x0*w1=U0 at *
 generalize y1*w0 - y0*w1=U1 at *
 generalize z1*w0 - z0*w1=U2 at *
 generalize x2*w0 - x0*w2=V0 at *
 generalize y2*w0 - y0*w2=V1 at *
 generalize z2*w0 - z0*w2=V2 at *
 generalize x3*w0 - x0*w3=T0 at *
 generalize y3*w0 - y0*w3=T1 at *
 generalize z3*w0 - z0*w3=T2 at *
 have h:∀ {a:Int},Bd 2001 a→Bd 10000 a:=fun h=>h.mono (by decide)
 have h4:∀ {a:Int},Bd 4003 a→Bd 100000 a:=fun h=>h.mono (by decide)
 have h2:∀ {a:Int},Bd 2001 a→Bd 100000 a:=fun h=>h.mono (by decide)
 have en:=agW S (h b1) (h b2) (h b3) (h b4) (h b5) (h b6)
 have c1:=cb b2 b6 b3 b5
 have c2:=cb b3 b4 b1 b6
 have c3:=cb b1 b5 b2 b4
 have ed:=agw (A:=.lst [.int (U1*V2 - U2*V1),.int (U2*V0 - U0*V2),.int (U0*V1 - U1*V0)]) (B:=.lst [.int T0,.int T1,.int T2]) (us:=[U1*V2 - U2*V1,U2*V0 - U0*V2,U0*V1 - U1*V0]) (vs:=[T0,T1,T2]) S (.inl rfl) (.inl rfl) (by simp; exact ⟨h4 c1,h4 c2,h4 c3⟩) (by simp; exact ⟨h2 b7,h2 b8,h2 b9⟩)
 rw [id] at ed
 generalize U1*V2 - U2*V1=N0 at *
 generalize U2*V0 - U0*V2=N1 at *
 generalize U0*V1 - U1*V0=N2 at *
 have pre:=agf [.lst [.int U0,.int U1,.int U2],.lst [.int V0,.int V1,.int V2]] (.lst [.int T0,.int T1,.int T2])
 simp only [List.cons_append,List.nil_append] at pre
 generalize v3 x0 y0 z0 w0=P at *
 generalize v3 x1 y1 z1 w1=Q at *
 generalize v3 x2 y2 z2 w2=R at *
 generalize v3 x3 y3 z3 w3=T at *
 unfold lL fnM rW
 rcases hA with rfl | rfl
 ·have s1:=oQ P [Q,R,T]
  simp [EC,aN,aJ,aK,fIx,atI,ixN,fEq,fNe,eqN,aO,aQ,aP,aR,aG,aU,frz,aL,bJ,mIt,bV,mSl,mO0,mO1,dG,s1,bR,eN,eG,gN,a1,a2,a3,pre,en,ed]
 ·have s1:=uX P [Q,R,T]
  simp [EC,aN,aJ,aK,fIx,atI,ixN,fEq,fNe,eqN,aO,aQ,aP,aR,aG,aU,frz,aL,bJ,mIt,bV,mSl,mO0,mO1,dG,s1,bR,eN,eG,gN,a1,a2,a3,pre,en,ed]
theorem afb {A:PV} {x0 y0 w0 x1 y1 w1 x2 y2 w2:Int} (S:Sto) (hA:Sv A [v2 x0 y0 w0,v2 x1 y1 w1,v2 x2 y2 w2]) (p:P2 x0 y0 w0) (q:P2 x1 y1 w1) (r:P2 x2 y2 w2):kW [.pv A] S=.ok (.pv (.int (sg (D2 x0 y0 w0 x1 y1 w1 x2 y2 w2)))) S:=by
 have e1:=ahK S hA p q r
 have e2:=tU (w0*D2 x0 y0 w0 x1 y1 w1 x2 y2 w2) S
 rw [oG p.pos] at e2
 unfold kW fnM uD
 simp [EC,aN,aJ,aK,fIx,atI,ixN,fEq,fNe,eqN,aO,aQ,aP,aR,aG,aU,frz,aL,e1,e2]
theorem ae7 {A:PV} {x0 y0 z0 w0 x1 y1 z1 w1 x2 y2 z2 w2 x3 y3 z3 w3:Int} (S:Sto) (hA:Sv A [v3 x0 y0 z0 w0,v3 x1 y1 z1 w1,v3 x2 y2 z2 w2,v3 x3 y3 z3 w3]) (p:P3 x0 y0 z0 w0) (q:P3 x1 y1 z1 w1) (r:P3 x2 y2 z2 w2) (s:P3 x3 y3 z3 w3):kW [.pv A] S=.ok (.pv (.int (sg (D3 x0 y0 z0 w0 x1 y1 z1 w1 x2 y2 z2 w2 x3 y3 z3 w3)))) S:=by
 have e1:=aha S hA p q r s
 have e2:=tU (w0*w0*D3 x0 y0 z0 w0 x1 y1 z1 w1 x2 y2 z2 w2 x3 y3 z3 w3) S
 rw [oG (Int.mul_pos p.pos p.pos)] at e2
 unfold kW fnM uD
 simp [EC,aN,aJ,aK,fIx,atI,ixN,fEq,fNe,eqN,aO,aQ,aP,aR,aG,aU,frz,aL,e1,e2]
def Gp (n k:Nat) (v:PV):Prop:=∃ xs w,v=.tup ((xs++[w]).map .int)∧Pq n k xs w
theorem Gp.two {v:PV} (h:Gp 2 1000 v):∃ x y w,v=v2 x y w∧P2 x y w:=by
 obtain ⟨xs,w,rfl,P⟩:=h
 match xs,P.len with
 | [x,y],_=>exact ⟨x,y,w,rfl,P.bx x (by simp),P.bx y (by simp),P.bw,P.pos⟩
theorem Gp.three {v:PV} (h:Gp 3 1000 v):∃ x y z w,v=v3 x y z w∧P3 x y z w:=by
 obtain ⟨xs,w,rfl,P⟩:=h
 match xs,P.len with
 | [x,y,z],_=>exact ⟨x,y,z,w,rfl,P.bx x (by simp),P.bx y (by simp),P.bx z (by simp),P.bw,P.pos⟩
theorem agm {n k m:Nat} {v:PV} (h:Gp n k v):eqN (m+1) v v=some true:=by
 obtain ⟨xs,w,rfl,_⟩:=h
 exact adY m _
theorem wY:∀ L:List PV,∀ m,(∀ v∈L,eqN m v v=some true)→fW (List.zipWith (eqN m) L L)=some (L.map fun _=>true)
 | [],m,_=>rfl
 | v :: L,m,h=>by
  rw [List.zipWith_cons_cons,h v List.mem_cons_self,fW,wY L m fun u hu=>h u (List.mem_cons_of_mem _ hu)]
  rfl
theorem agM {m:Nat} {L:List PV} (h:∀ v∈L,eqN m v v=some true):eqN (m+1) (.lst L) (.lst L)=some true:=by
 rw [eqN,if_pos rfl,wY L m h]
 simp
theorem yA {m:Nat} {L:List PV} (h:∀ v∈L,eqN m v v=some true):eqN (m+1) (.tup L) (.tup L)=some true:=by
 rw [eqN,wY L m h]
 simp
theorem ac5 (S:Sto) (PL QL:List PV) (xs ys:List Int) (w v:Int) (hp:fIx (.tup PL) (.int (-1))=some (.int w)) (hq:fIx (.tup QL) (.int (-1))=some (.int v)) (hpj:∀ j:Nat,j < xs.length→fIx (.tup PL) (.int (j:Nat))=some (.int (xs.getD j 0))) (hqj:∀ j:Nat,j < xs.length→fIx (.tup QL) (.int (j:Nat))=some (.int (ys.getD j 0)))
  (bw:Bd 1000 w) (bv:Bd 1000 v) (hx:∀ j,Bd 1000 (xs.getD j 0)) (hy:∀ j,Bd 1000 (ys.getD j 0)):∀ (js:List Nat) (x:Option AV),(∀ j∈js,j < xs.length) →
  bT [] (gN 0) (aC dF (aC bD (aC fIx (aA 1) (aA 0)) (aC fIx (aA 2) (mUn cV (mC (.int 1))))) (aC bD (aC fIx (aA 2) (aA 0)) (aC fIx (aA 1) (mUn cV (mC (.int 1)))))) (js.map fun j=>.int (0+(j:Nat))) [x,some (.pv (.tup QL)),some (.pv (.tup PL))] S=.ok ((js.map fun j=>ys.getD j 0*w - xs.getD j 0*v).map .int) S
 | [],x,_=>eG
 | j :: js,x,h=>by
  have ih:=ac5 S PL QL xs ys w v hp hq hpj hqj bw bv hx hy js (some (.pv (.int (0+(j:Nat))))) fun i hi=>h i (List.mem_cons_of_mem _ hi)
  have e1:=hpj j (h j List.mem_cons_self)
  have e2:=hqj j (h j List.mem_cons_self)
  have m1:=mB ((hx j).mono (show 1000≤2000 by decide)) (bv.mono (show 1000≤2000 by decide))
  have m2:=mB ((hy j).mono (show 1000≤2000 by decide)) (bw.mono (show 1000≤2000 by decide))
  show bT [] _ _ (.int (0+(j:Nat)) :: js.map fun j=>.int (0+(j:Nat))) _ S=_
  rw [eN]
  simp only [Int.zero_add] at ih ⊢
  generalize hX:xs.getD j 0=X at e1 m1
  generalize hY:ys.getD j 0=Y at e2 m2
  simp [gN,EC,aN,aJ,aK,fEq,fNe,cR,aO,aQ,aP,aR,aG,aU,frz,aL,e1,e2,hp,hq,m1,m2,ih]
  simp only [List.getD_eq_getElem?_getD] at hX hY
  rw [hX,hY]
theorem agq {xs ys:List Int} {w v:Int} (S:Sto) (hl:xs.length=ys.length) (h9:xs.length≤9) (hx:∀ x∈xs,Bd 1000 x) (hy:∀ y∈ys,Bd 1000 y) (bw:Bd 1000 w) (bv:Bd 1000 v) :
  lW [.pv (.tup ((xs++[w]).map .int)),.pv (.tup ((ys++[v]).map .int))] S=.ok (.pv (.lst ((wa xs w ys v).map .int))) S:=by
 have ip:=lO xs w
 have iq:=lO ys v
 have ec:=ac5 S _ _ xs ys w v ip iq (fun j h=>agv xs w j h) (fun j h=>agv ys v j (by omega)) bw bv (aex hx) (aex hy) (List.range xs.length) none fun j hj=>by simpa using hj
 have er:(List.range xs.length).map (fun j=>ys.getD j 0*w - xs.getD j 0*v)=wa xs w ys v:=aer hl fun x y=>y*w - x*v
 rw [er] at ec
 have hlen:((xs++[w]).map PV.int).length=xs.length+1:=by simp
 have hr:pJ [.pv (.int (((xs.length+1:Nat):Int) - 1))] S=.ok ((List.range xs.length).map fun j=>.int (0+(j:Nat)),[]) S:=by
  unfold pJ
  dsimp only
  rw [if_pos ⟨by omega,by omega⟩]
  have:(((xs.length+1:Nat):Int) - 1).toNat=xs.length:=by omega
  rw [this]
  rfl
 generalize (wa xs w ys v).map PV.int=ZL at ec
 generalize (List.range xs.length).map (fun j=>PV.int (0+(j:Nat)))=RL at ec hr
 generalize hP:(xs++[w]).map PV.int=PL at ip ec hlen
 generalize (ys++[v]).map PV.int=QL at iq ec
 unfold lW fnM zZ
 have hr2:=hr
 rw [← hlen] at hr2
 simp [EC,aN,aJ,aK,fEq,fNe,cR,aO,aQ,aP,aR,aG,aU,frz,aL,bJ,dY,hr2,bR,ec]
theorem vJ {x0 y0 w0 x1 y1 w1:Int} (S:Sto) (p:P2 x0 y0 w0) (q:P2 x1 y1 w1):lW [.pv (v2 x0 y0 w0),.pv (v2 x1 y1 w1)] S=.ok (.pv (.lst [.int (x1*w0 - x0*w1),.int (y1*w0 - y0*w1)])) S:=by
 have e:=agq (xs:=[x0,y0]) (ys:=[x1,y1]) (w:=w0) (v:=w1) S rfl (by simp) (by simp; exact ⟨p.bx,p.by_⟩) (by simp; exact ⟨q.bx,q.by_⟩) p.bw q.bw
 exact e
theorem pK {x0 y0 z0 w0 x1 y1 z1 w1:Int} (S:Sto) (p:P3 x0 y0 z0 w0) (q:P3 x1 y1 z1 w1):lW [.pv (v3 x0 y0 z0 w0),.pv (v3 x1 y1 z1 w1)] S=.ok (.pv (.lst [.int (x1*w0 - x0*w1),.int (y1*w0 - y0*w1),.int (z1*w0 - z0*w1)])) S:=by
 have e:=agq (xs:=[x0,y0,z0]) (ys:=[x1,y1,z1]) (w:=w0) (v:=w1) S rfl (by simp) (by simp; exact ⟨p.bx,p.by_,p.bz⟩) (by simp; exact ⟨q.bx,q.by_,q.bz⟩) p.bw q.bw
 exact e
theorem adb {A:PV} {x0 y0 w0 x1 y1 w1 x2 y2 w2:Int} (S:Sto) (hA:Sv A [v2 x0 y0 w0,v2 x1 y1 w1,v2 x2 y2 w2]) (p:P2 x0 y0 w0) (q:P2 x1 y1 w1) (r:P2 x2 y2 w2):eH [.pv A] S=.ok (.pv (.int (w0*D2 x0 y0 w0 x1 y1 w1 x2 y2 w2))) S:=by
 have a1:=vJ S p q
 have a2:=vJ S p r
 have bu:=sb p.bx p.bw q.bx q.bw
 have bv:=sb p.by_ p.bw q.by_ q.bw
 have bu2:=sb p.bx p.bw r.bx r.bw
 have bv2:=sb p.by_ p.bw r.by_ r.bw
 have id:(x1*w0 - x0*w1)*(y2*w0 - y0*w2) - (y1*w0 - y0*w1)*(x2*w0 - x0*w2)=w0*D2 x0 y0 w0 x1 y1 w1 x2 y2 w2:=by
  unfold D2
  grind
 generalize w0*D2 x0 y0 w0 x1 y1 w1 x2 y2 w2=D at *
 generalize x1*w0 - x0*w1=U0 at *
 generalize y1*w0 - y0*w1=U1 at *
 generalize x2*w0 - x0*w2=V0 at *
 generalize y2*w0 - y0*w2=V1 at *
 have m1:=mBB bu bv2
 have m2:=mBB bv bu2
 generalize v2 x0 y0 w0=P at *
 generalize v2 x1 y1 w1=Q at *
 generalize v2 x2 y2 w2=R at *
 have et:iI [.pv (.lst [.lst [.int U0,.int U1],.lst [.int V0,.int V1]])] S=.ok (.pv (.int D)) S:=by
  unfold iI fnM nY
  simp [EC,aN,aJ,aK,fIx,atI,ixN,fEq,fNe,eqN,aO,aQ,aP,aR,aG,aU,frz,aL,m1,m2,id]
 unfold eH fnM oF
 rcases hA with rfl | rfl
 ·have s1:=oQ P [Q,R]
  simp [EC,aN,aJ,aK,fIx,atI,ixN,fEq,fNe,eqN,aO,aQ,aP,aR,aG,aU,frz,aL,bJ,mIt,bV,mSl,mO0,mO1,dG,s1,bR,eN,eG,gN,a1,a2,et]
 ·have s1:=uX P [Q,R]
  simp [EC,aN,aJ,aK,fIx,atI,ixN,fEq,fNe,eqN,aO,aQ,aP,aR,aG,aU,frz,aL,bJ,mIt,bV,mSl,mO0,mO1,dG,s1,bR,eN,eG,gN,a1,a2,et]
theorem acT {A:PV} {x0 y0 z0 w0 x1 y1 z1 w1 x2 y2 z2 w2 x3 y3 z3 w3:Int} (S:Sto) (hA:Sv A [v3 x0 y0 z0 w0,v3 x1 y1 z1 w1,v3 x2 y2 z2 w2,v3 x3 y3 z3 w3]) (p:P3 x0 y0 z0 w0) (q:P3 x1 y1 z1 w1) (r:P3 x2 y2 z2 w2) (s:P3 x3 y3 z3 w3):eH [.pv A] S=.ok (.pv (.int (w0*w0*D3 x0 y0 z0 w0 x1 y1 z1 w1 x2 y2 z2 w2 x3 y3 z3 w3))) S:=by
 have a1:=pK S p q
 have a2:=pK S p r
 have a3:=pK S p s
 have b1:=sb p.bx p.bw q.bx q.bw
 have b2:=sb p.by_ p.bw q.by_ q.bw
 have b3:=sb p.bz p.bw q.bz q.bw
 have b4:=sb p.bx p.bw r.bx r.bw
 have b5:=sb p.by_ p.bw r.by_ r.bw
 have b6:=sb p.bz p.bw r.bz r.bw
 have b7:=sb p.bx p.bw s.bx s.bw
 have b8:=sb p.by_ p.bw s.by_ s.bw
 have b9:=sb p.bz p.bw s.bz s.bw
 have id:=ahp x0 y0 z0 w0 x1 y1 z1 w1 x2 y2 z2 w2 x3 y3 z3 w3
 generalize w0*w0*D3 x0 y0 z0 w0 x1 y1 z1 w1 x2 y2 z2 w2 x3 y3 z3 w3=D at *
 generalize x1*w0 - x0*w1=U0 at *
 generalize y1*w0 - y0*w1=U1 at *
 generalize z1*w0 - z0*w1=U2 at *
 generalize x2*w0 - x0*w2=V0 at *
 generalize y2*w0 - y0*w2=V1 at *
 generalize z2*w0 - z0*w2=V2 at *
 generalize x3*w0 - x0*w3=T0 at *
 generalize y3*w0 - y0*w3=T1 at *
 generalize z3*w0 - z0*w3=T2 at *
 have h:∀ {a:Int},Bd 2001 a→Bd 10000 a:=fun h=>h.mono (by decide)
 have h4:∀ {a:Int},Bd 4003 a→Bd 100000 a:=fun h=>h.mono (by decide)
 have h2:∀ {a:Int},Bd 2001 a→Bd 100000 a:=fun h=>h.mono (by decide)
 have en:=acQ (A:=.lst [.int U0,.int U1,.int U2]) (B:=.lst [.int V0,.int V1,.int V2]) S (.inl rfl) (.inl rfl) (h b1) (h b2) (h b3) (h b4) (h b5) (h b6)
 have c1:=cb b2 b6 b3 b5
 have c2:=cb b3 b4 b1 b6
 have c3:=cb b1 b5 b2 b4
 have ed:=aeA (A:=.lst [.int (U1*V2 - U2*V1),.int (U2*V0 - U0*V2),.int (U0*V1 - U1*V0)]) (B:=.lst [.int T0,.int T1,.int T2]) (us:=[U1*V2 - U2*V1,U2*V0 - U0*V2,U0*V1 - U1*V0]) (vs:=[T0,T1,T2]) S (.inl rfl) (.inl rfl) (by simp; exact ⟨h4 c1,h4 c2,h4 c3⟩) (by simp; exact ⟨h2 b7,h2 b8,h2 b9⟩)
 rw [id] at ed
 generalize U1*V2 - U2*V1=N0 at *
 generalize U2*V0 - U0*V2=N1 at *
 generalize U0*V1 - U1*V0=N2 at *
 generalize v3 x0 y0 z0 w0=P at *
 generalize v3 x1 y1 z1 w1=Q at *
 generalize v3 x2 y2 z2 w2=R at *
 generalize v3 x3 y3 z3 w3=T at *
 have et:iI [.pv (.lst [.lst [.int U0,.int U1,.int U2],.lst [.int V0,.int V1,.int V2],.lst [.int T0,.int T1,.int T2]])] S=.ok (.pv (.int D)) S:=by
  unfold iI fnM nY
  simp [EC,aN,aJ,aK,fIx,atI,ixN,fEq,fNe,eqN,aO,aQ,aP,aR,aG,aU,frz,aL,en,ed]
 unfold eH fnM oF
 rcases hA with rfl | rfl
 ·have s1:=oQ P [Q,R,T]
  simp [EC,aN,aJ,aK,fIx,atI,ixN,fEq,fNe,eqN,aO,aQ,aP,aR,aG,aU,frz,aL,bJ,mIt,bV,mSl,mO0,mO1,dG,s1,bR,eN,eG,gN,a1,a2,a3,et]
 ·have s1:=uX P [Q,R,T]
  simp [EC,aN,aJ,aK,fIx,atI,ixN,fEq,fNe,eqN,aO,aQ,aP,aR,aG,aU,frz,aL,bJ,mIt,bV,mSl,mO0,mO1,dG,s1,bR,eN,eG,gN,a1,a2,a3,et]
theorem ahj {G:Gd} {g:GM} {me:ME} {x:PV} {r:List PV} {ρ:Rho} {S:Sto} (h:gOk G S):bT G g me (x :: r) ρ S=(match g x ρ with
  | none=>.fail
  | some ρ1=>match me ρ1 S with
   | .ok (.pv y) S1=>match bT G g me r ρ1 S1 with
    | .ok ys S2=>.ok (y :: ys) S2
    | _=>.fail
   | _=>.fail):=by
 rw [bT,if_pos h]
 all_goals rfl
theorem af2 {G:Gd} {g:GM} {me:ME} {ρ:Rho} {S:Sto} (h:gOk G S):bT G g me [] ρ S=.ok [] S:=by
 rw [bT,if_pos h]
structure R2 (x y w X Y D:Int):Prop where
 pos:0 < w
 dos:0 < D
 ex:x*D=X*w
 ey:y*D=Y*w
theorem Pq.p2 {k:Nat} {x y w:Int} (P:Pq 2 k [x,y] w) (h:k≤1000):P2 x y w:=⟨(P.bx x (by simp)).mono h,(P.bx y (by simp)).mono h,P.bw.mono h,P.pos⟩
theorem Pq.p3 {k:Nat} {x y z w:Int} (P:Pq 3 k [x,y,z] w) (h:k≤1000):P3 x y z w:=⟨(P.bx x (by simp)).mono h,(P.bx y (by simp)).mono h,(P.bx z (by simp)).mono h,P.bw.mono h,P.pos⟩
def sgP:List PV→Int
 | [.tup [.int x0,.int y0,.int w0],.tup [.int x1,.int y1,.int w1],.tup [.int x2,.int y2,.int w2]]=>sg (D2 x0 y0 w0 x1 y1 w1 x2 y2 w2)
 | [.tup [.int x0,.int y0,.int z0,.int w0],.tup [.int x1,.int y1,.int z1,.int w1],.tup [.int x2,.int y2,.int z2,.int w2],.tup [.int x3,.int y3,.int z3,.int w3]]=>sg (D3 x0 y0 z0 w0 x1 y1 z1 w1 x2 y2 z2 w2 x3 y3 z3 w3)
 | _=>0
theorem ahD {n:Nat} (hn:n=2∨n=3) {A:PV} {L:List PV} (S:Sto) (hl:L.length=n+1) (hg:∀ v∈L,Gp n 1000 v) (hA:Sv A L):kW [.pv A] S=.ok (.pv (.int (sgP L))) S:=by
 rcases hn with rfl | rfl
 ·match L,hl with
  | [P,Q,R],_ =>
   obtain ⟨x0,y0,w0,rfl,p⟩:=(hg P (by simp)).two
   obtain ⟨x1,y1,w1,rfl,q⟩:=(hg Q (by simp)).two
   obtain ⟨x2,y2,w2,rfl,r⟩:=(hg R (by simp)).two
   exact afb S hA p q r
 ·match L,hl with
  | [P,Q,R,T],_ =>
   obtain ⟨x0,y0,z0,w0,rfl,p⟩:=(hg P (by simp)).three
   obtain ⟨x1,y1,z1,w1,rfl,q⟩:=(hg Q (by simp)).three
   obtain ⟨x2,y2,z2,w2,rfl,r⟩:=(hg R (by simp)).three
   obtain ⟨x3,y3,z3,w3,rfl,s⟩:=(hg T (by simp)).three
   exact ae7 S hA p q r s
theorem air (D:Int):sg (-D)=- sg D:=by
 unfold sg
 split <;> split <;> (try split) <;> (try split) <;> omega
abbrev tv (us:List Int):PV:=.tup (us.map .int)
def Gu (n k:Nat) (us:List Int):Prop:=∃ xs w,us=xs++[w]∧Pq n k xs w
theorem Gu.gp {n k:Nat} {us:List Int} (h:Gu n k us):Gp n k (tv us):=by
 obtain ⟨xs,w,rfl,P⟩:=h
 exact ⟨xs,w,rfl,P⟩
theorem Gu.ne {n k:Nat} {us:List Int} (h:Gu n k us):us≠[]:=by
 obtain ⟨xs,w,rfl,P⟩:=h
 simp
theorem gps {n k:Nat} {uss:List (List Int)} (h:∀ us∈uss,Gu n k us):∀ v∈uss.map tv,Gp n k v:=fun v hv=>by
 obtain ⟨us,hu,rfl⟩:=List.mem_map.mp hv
 exact (h us hu).gp
theorem abp:∀ uss:List (List Int),kX (uss.map tv)=some uss
 | []=>rfl
 | us :: uss=>by
  have ih:=abp uss
  show (match jV (us.map .int),kX (uss.map tv) with | some is,some uss=>some (is :: uss) | _,_=>none)=_
  rw [ih,wV]
theorem acm {uss:List (List Int)} {n:Nat} (hl:uss.length=n) (hp:(cN uss).Perm (List.range n)):ag0 (uss.map tv) uss=(cH uss).map tv:=by
 unfold ag0 cH
 rw [List.map_map]
 refine List.map_congr_left fun i hi=>?_
 have h:i < uss.length:=by
  have:=hp.subset hi
  rw [hl]
  simpa using this
 simp [List.getD,h]
theorem wW {A:PV} {uss:List (List Int)} (hl:uss.length=3∨uss.length=4) (hA:Sv A (uss.map tv)) (hne:∀ us∈uss,us≠[]):qC [A]=some (.lst ((cH uss).map tv)):=by
 have e:oY (uss.map tv)=some (.lst ((cH uss).map tv)):=by
  unfold oY
  rw [abp]
  dsimp only
  rcases hl with h | h
  ·obtain ⟨_,hp,_⟩:=yT h
   rw [if_pos (show ag1 uss from ⟨by omega,by omega,by rw [h]; exact aja,by rw [hp.length_eq]; simp,hne⟩),acm h hp]
  ·obtain ⟨_,hp,_⟩:=yW h
   rw [if_pos (show ag1 uss from ⟨by omega,by omega,by rw [h]; exact ajB,by rw [hp.length_eq]; simp,hne⟩),acm h hp]
 rcases hA with rfl | rfl
 ·exact e
 ·exact e
def swl {α:Type}:List α→List α
 | [a,b,c]=>[a,c,b]
 | [a,b,c,d]=>[a,b,d,c]
 | l=>l
theorem yL {α β:Type} (f:α→β) (l:List α):(swl l).map f=swl (l.map f):=by
 unfold swl
 split
 ·rfl
 ·rfl
 ·rename_i h1 h2
  split
  ·rename_i e
   match l,e with
   | [a,b,c],_=>exact absurd rfl (h1 a b c)
  ·rename_i e
   match l,e with
   | [a,b,c,d],_=>exact absurd rfl (h2 a b c d)
  ·rfl
theorem afa {α:Type} (l:List α):(swl l).Perm l:=by
 unfold swl
 split
 ·exact .cons _ (.swap _ _ _)
 ·exact .cons _ (.cons _ (.swap _ _ _))
 ·exact .refl _
def dU:List (List Int)→Int
 | [[x0,y0,w0],[x1,y1,w1],[x2,y2,w2]]=>D2 x0 y0 w0 x1 y1 w1 x2 y2 w2
 | [[x0,y0,z0,w0],[x1,y1,z1,w1],[x2,y2,z2,w2],[x3,y3,z3,w3]]=>D3 x0 y0 z0 w0 x1 y1 z1 w1 x2 y2 z2 w2 x3 y3 z3 w3
 | _=>0
theorem Gu.two {k:Nat} {us:List Int} (h:Gu 2 k us) (hk:k≤1000):∃ x y w,us=[x,y,w]∧P2 x y w:=by
 obtain ⟨xs,w,rfl,P⟩:=h
 match xs,P.len,P with
 | [x,y],_,P=>exact ⟨x,y,w,rfl,P.p2 hk⟩
theorem Gu.three {k:Nat} {us:List Int} (h:Gu 3 k us) (hk:k≤1000):∃ x y z w,us=[x,y,z,w]∧P3 x y z w:=by
 obtain ⟨xs,w,rfl,P⟩:=h
 match xs,P.len,P with
 | [x,y,z],_,P=>exact ⟨x,y,z,w,rfl,P.p3 hk⟩
theorem qM {n k:Nat} (hn:n=2∨n=3) (hk:k≤1000) {uss:List (List Int)} (hl:uss.length=n+1) (hg:∀ us∈uss,Gu n k us):sgP (uss.map tv)=sg (dU uss):=by
 rcases hn with rfl | rfl
 ·match uss,hl with
  | [a,b,c],_ =>
   obtain ⟨x0,y0,w0,rfl,_⟩:=(hg a (by simp)).two hk
   obtain ⟨x1,y1,w1,rfl,_⟩:=(hg b (by simp)).two hk
   obtain ⟨x2,y2,w2,rfl,_⟩:=(hg c (by simp)).two hk
   rfl
 ·match uss,hl with
  | [a,b,c,d],_ =>
   obtain ⟨x0,y0,z0,w0,rfl,_⟩:=(hg a (by simp)).three hk
   obtain ⟨x1,y1,z1,w1,rfl,_⟩:=(hg b (by simp)).three hk
   obtain ⟨x2,y2,z2,w2,rfl,_⟩:=(hg c (by simp)).three hk
   obtain ⟨x3,y3,z3,w3,rfl,_⟩:=(hg d (by simp)).three hk
   rfl
theorem ajC {x0 y0 w0 x1 y1 w1 x2 y2 w2:Int} {p:List Nat} (hp:p∈qQ):dU (p.map fun i=>([[x0,y0,w0],[x1,y1,w1],[x2,y2,w2]]:List (List Int)).getD i [])=dU [[x0,y0,w0],[x1,y1,w1],[x2,y2,w2]]∨dU (p.map fun i=>([[x0,y0,w0],[x1,y1,w1],[x2,y2,w2]]:List (List Int)).getD i [])=- dU [[x0,y0,w0],[x1,y1,w1],[x2,y2,w2]]:=by
 have hp:p=[0,1,2]∨p=[0,2,1]∨p=[1,0,2]∨p=[1,2,0]∨p=[2,0,1]∨p=[2,1,0]:=by simpa [qQ] using hp
 rcases hp with rfl | rfl | rfl | rfl | rfl | rfl
 ·left
  show D2 x0 y0 w0 x1 y1 w1 x2 y2 w2=D2 x0 y0 w0 x1 y1 w1 x2 y2 w2
  unfold D2
  grind
 ·right
  show D2 x0 y0 w0 x2 y2 w2 x1 y1 w1=-(D2 x0 y0 w0 x1 y1 w1 x2 y2 w2)
  unfold D2
  grind
 ·right
  show D2 x1 y1 w1 x0 y0 w0 x2 y2 w2=-(D2 x0 y0 w0 x1 y1 w1 x2 y2 w2)
  unfold D2
  grind
 ·left
  show D2 x1 y1 w1 x2 y2 w2 x0 y0 w0=D2 x0 y0 w0 x1 y1 w1 x2 y2 w2
  unfold D2
  grind
 ·left
  show D2 x2 y2 w2 x0 y0 w0 x1 y1 w1=D2 x0 y0 w0 x1 y1 w1 x2 y2 w2
  unfold D2
  grind
 ·right
  show D2 x2 y2 w2 x1 y1 w1 x0 y0 w0=-(D2 x0 y0 w0 x1 y1 w1 x2 y2 w2)
  unfold D2
  grind
theorem aiB {x0 y0 z0 w0 x1 y1 z1 w1 x2 y2 z2 w2 x3 y3 z3 w3:Int} {p:List Nat} (hp:p∈qO):dU (p.map fun i=>([[x0,y0,z0,w0],[x1,y1,z1,w1],[x2,y2,z2,w2],[x3,y3,z3,w3]]:List (List Int)).getD i [])=dU [[x0,y0,z0,w0],[x1,y1,z1,w1],[x2,y2,z2,w2],[x3,y3,z3,w3]]∨dU (p.map fun i=>([[x0,y0,z0,w0],[x1,y1,z1,w1],[x2,y2,z2,w2],[x3,y3,z3,w3]]:List (List Int)).getD i [])=- dU [[x0,y0,z0,w0],[x1,y1,z1,w1],[x2,y2,z2,w2],[x3,y3,z3,w3]]:=by
 have hp:p=[0,1,2,3]∨p=[0,1,3,2]∨p=[0,2,1,3]∨p=[0,2,3,1]∨p=[0,3,1,2]∨p=[0,3,2,1]∨p=[1,0,2,3]∨p=[1,0,3,2]∨p=[1,2,0,3]∨p=[1,2,3,0]∨p=[1,3,0,2]∨p=[1,3,2,0]∨p=[2,0,1,3]∨p=[2,0,3,1]∨p=[2,1,0,3]∨p=[2,1,3,0]∨p=[2,3,0,1]∨p=[2,3,1,0]∨p=[3,0,1,2]∨p=[3,0,2,1]∨p=[3,1,0,2]∨p=[3,1,2,0]∨p=[3,2,0,1]∨p=[3,2,1,0]:=by simpa [qO] using hp
 rcases hp with rfl | rfl | rfl | rfl | rfl | rfl | rfl | rfl | rfl | rfl | rfl | rfl | rfl | rfl | rfl | rfl | rfl | rfl | rfl | rfl | rfl | rfl | rfl | rfl
 ·left
  show D3 x0 y0 z0 w0 x1 y1 z1 w1 x2 y2 z2 w2 x3 y3 z3 w3=D3 x0 y0 z0 w0 x1 y1 z1 w1 x2 y2 z2 w2 x3 y3 z3 w3
  unfold D3
  grind
 ·right
  show D3 x0 y0 z0 w0 x1 y1 z1 w1 x3 y3 z3 w3 x2 y2 z2 w2=-(D3 x0 y0 z0 w0 x1 y1 z1 w1 x2 y2 z2 w2 x3 y3 z3 w3)
  unfold D3
  grind
 ·right
  show D3 x0 y0 z0 w0 x2 y2 z2 w2 x1 y1 z1 w1 x3 y3 z3 w3=-(D3 x0 y0 z0 w0 x1 y1 z1 w1 x2 y2 z2 w2 x3 y3 z3 w3)
  unfold D3
  grind
 ·left
  show D3 x0 y0 z0 w0 x2 y2 z2 w2 x3 y3 z3 w3 x1 y1 z1 w1=D3 x0 y0 z0 w0 x1 y1 z1 w1 x2 y2 z2 w2 x3 y3 z3 w3
  unfold D3
  grind
 ·left
  show D3 x0 y0 z0 w0 x3 y3 z3 w3 x1 y1 z1 w1 x2 y2 z2 w2=D3 x0 y0 z0 w0 x1 y1 z1 w1 x2 y2 z2 w2 x3 y3 z3 w3
  unfold D3
  grind
 ·right
  show D3 x0 y0 z0 w0 x3 y3 z3 w3 x2 y2 z2 w2 x1 y1 z1 w1=-(D3 x0 y0 z0 w0 x1 y1 z1 w1 x2 y2 z2 w2 x3 y3 z3 w3)
  unfold D3
  grind
 ·right
  show D3 x1 y1 z1 w1 x0 y0 z0 w0 x2 y2 z2 w2 x3 y3 z3 w3=-(D3 x0 y0 z0 w0 x1 y1 z1 w1 x2 y2 z2 w2 x3 y3 z3 w3)
  unfold D3
  grind
 ·left
  show D3 x1 y1 z1 w1 x0 y0 z0 w0 x3 y3 z3 w3 x2 y2 z2 w2=D3 x0 y0 z0 w0 x1 y1 z1 w1 x2 y2 z2 w2 x3 y3 z3 w3
  unfold D3
  grind
 ·left
  show D3 x1 y1 z1 w1 x2 y2 z2 w2 x0 y0 z0 w0 x3 y3 z3 w3=D3 x0 y0 z0 w0 x1 y1 z1 w1 x2 y2 z2 w2 x3 y3 z3 w3
  unfold D3
  grind
 ·right
  show D3 x1 y1 z1 w1 x2 y2 z2 w2 x3 y3 z3 w3 x0 y0 z0 w0=-(D3 x0 y0 z0 w0 x1 y1 z1 w1 x2 y2 z2 w2 x3 y3 z3 w3)
  unfold D3
  grind
 ·right
  show D3 x1 y1 z1 w1 x3 y3 z3 w3 x0 y0 z0 w0 x2 y2 z2 w2=-(D3 x0 y0 z0 w0 x1 y1 z1 w1 x2 y2 z2 w2 x3 y3 z3 w3)
  unfold D3
  grind
 ·left
  show D3 x1 y1 z1 w1 x3 y3 z3 w3 x2 y2 z2 w2 x0 y0 z0 w0=D3 x0 y0 z0 w0 x1 y1 z1 w1 x2 y2 z2 w2 x3 y3 z3 w3
  unfold D3
  grind
 ·left
  show D3 x2 y2 z2 w2 x0 y0 z0 w0 x1 y1 z1 w1 x3 y3 z3 w3=D3 x0 y0 z0 w0 x1 y1 z1 w1 x2 y2 z2 w2 x3 y3 z3 w3
  unfold D3
  grind
 ·right
  show D3 x2 y2 z2 w2 x0 y0 z0 w0 x3 y3 z3 w3 x1 y1 z1 w1=-(D3 x0 y0 z0 w0 x1 y1 z1 w1 x2 y2 z2 w2 x3 y3 z3 w3)
  unfold D3
  grind
 ·right
  show D3 x2 y2 z2 w2 x1 y1 z1 w1 x0 y0 z0 w0 x3 y3 z3 w3=-(D3 x0 y0 z0 w0 x1 y1 z1 w1 x2 y2 z2 w2 x3 y3 z3 w3)
  unfold D3
  grind
 ·left
  show D3 x2 y2 z2 w2 x1 y1 z1 w1 x3 y3 z3 w3 x0 y0 z0 w0=D3 x0 y0 z0 w0 x1 y1 z1 w1 x2 y2 z2 w2 x3 y3 z3 w3
  unfold D3
  grind
 ·left
  show D3 x2 y2 z2 w2 x3 y3 z3 w3 x0 y0 z0 w0 x1 y1 z1 w1=D3 x0 y0 z0 w0 x1 y1 z1 w1 x2 y2 z2 w2 x3 y3 z3 w3
  unfold D3
  grind
 ·right
  show D3 x2 y2 z2 w2 x3 y3 z3 w3 x1 y1 z1 w1 x0 y0 z0 w0=-(D3 x0 y0 z0 w0 x1 y1 z1 w1 x2 y2 z2 w2 x3 y3 z3 w3)
  unfold D3
  grind
 ·right
  show D3 x3 y3 z3 w3 x0 y0 z0 w0 x1 y1 z1 w1 x2 y2 z2 w2=-(D3 x0 y0 z0 w0 x1 y1 z1 w1 x2 y2 z2 w2 x3 y3 z3 w3)
  unfold D3
  grind
 ·left
  show D3 x3 y3 z3 w3 x0 y0 z0 w0 x2 y2 z2 w2 x1 y1 z1 w1=D3 x0 y0 z0 w0 x1 y1 z1 w1 x2 y2 z2 w2 x3 y3 z3 w3
  unfold D3
  grind
 ·left
  show D3 x3 y3 z3 w3 x1 y1 z1 w1 x0 y0 z0 w0 x2 y2 z2 w2=D3 x0 y0 z0 w0 x1 y1 z1 w1 x2 y2 z2 w2 x3 y3 z3 w3
  unfold D3
  grind
 ·right
  show D3 x3 y3 z3 w3 x1 y1 z1 w1 x2 y2 z2 w2 x0 y0 z0 w0=-(D3 x0 y0 z0 w0 x1 y1 z1 w1 x2 y2 z2 w2 x3 y3 z3 w3)
  unfold D3
  grind
 ·right
  show D3 x3 y3 z3 w3 x2 y2 z2 w2 x0 y0 z0 w0 x1 y1 z1 w1=-(D3 x0 y0 z0 w0 x1 y1 z1 w1 x2 y2 z2 w2 x3 y3 z3 w3)
  unfold D3
  grind
 ·left
  show D3 x3 y3 z3 w3 x2 y2 z2 w2 x1 y1 z1 w1 x0 y0 z0 w0=D3 x0 y0 z0 w0 x1 y1 z1 w1 x2 y2 z2 w2 x3 y3 z3 w3
  unfold D3
  grind
theorem adF {n k:Nat} (hn:n=2∨n=3) (hk:k≤1000) {uss:List (List Int)} (hl:uss.length=n+1) (hg:∀ us∈uss,Gu n k us):dU (cH uss)=dU uss∨dU (cH uss)=- dU uss:=by
 rcases hn with rfl | rfl
 ·obtain ⟨m,hp,_⟩:=yT hl
  unfold cH
  generalize cN uss=p at *
  match uss,hl with
  | [a,b,c],_ =>
   obtain ⟨x0,y0,w0,rfl,_⟩:=(hg a (by simp)).two hk
   obtain ⟨x1,y1,w1,rfl,_⟩:=(hg b (by simp)).two hk
   obtain ⟨x2,y2,w2,rfl,_⟩:=(hg c (by simp)).two hk
   exact ajC m
 ·obtain ⟨m,hp,_⟩:=yW hl
  unfold cH
  generalize cN uss=p at *
  match uss,hl with
  | [a,b,c,d],_ =>
   obtain ⟨x0,y0,z0,w0,rfl,_⟩:=(hg a (by simp)).three hk
   obtain ⟨x1,y1,z1,w1,rfl,_⟩:=(hg b (by simp)).three hk
   obtain ⟨x2,y2,z2,w2,rfl,_⟩:=(hg c (by simp)).three hk
   obtain ⟨x3,y3,z3,w3,rfl,_⟩:=(hg d (by simp)).three hk
   exact aiB m
theorem uO {n:Nat} (hn:n=2∨n=3) {uss:List (List Int)} (hl:uss.length=n+1):uss.length=3∨uss.length=4:=by
 rcases hn with rfl | rfl
 ·exact .inl hl
 ·exact .inr hl
theorem afX {n:Nat} (hn:n=2∨n=3) {uss:List (List Int)} (hl:uss.length=n+1) (hg:∀ us∈uss,Gu n 1000 us):sgP ((cH uss).map tv)=sgP (uss.map tv)∨sgP ((cH uss).map tv)=- sgP (uss.map tv):=by
 have hp:=(kJ (uO hn hl)).1
 rw [qM hn (Nat.le_refl 1000) (by rw [hp.length_eq,hl]) (fun us hu=>hg us (hp.subset hu)),qM hn (Nat.le_refl 1000) hl hg]
 rcases adF hn (Nat.le_refl 1000) hl hg with e | e
 ·exact .inl (by rw [e])
 ·exact .inr (by rw [e,air])
theorem yZ {n:Nat} (hn:n=2∨n=3) {A:PV} {L:List PV} (S:Sto) (hl:L.length=n+1) (hg:∀ v∈L,Gp n 1000 v) (hA:Sv A L):∃ d:Int,eH [.pv A] S=.ok (.pv (.int d)) S∧sg d=sgP L:=by
 rcases hn with rfl | rfl
 ·match L,hl with
  | [P,Q,R],_ =>
   obtain ⟨x0,y0,w0,rfl,p⟩:=(hg P (by simp)).two
   obtain ⟨x1,y1,w1,rfl,q⟩:=(hg Q (by simp)).two
   obtain ⟨x2,y2,w2,rfl,r⟩:=(hg R (by simp)).two
   exact ⟨_,adb S hA p q r,oG p.pos⟩
 ·match L,hl with
  | [P,Q,R,T],_ =>
   obtain ⟨x0,y0,z0,w0,rfl,p⟩:=(hg P (by simp)).three
   obtain ⟨x1,y1,z1,w1,rfl,q⟩:=(hg Q (by simp)).three
   obtain ⟨x2,y2,z2,w2,rfl,r⟩:=(hg R (by simp)).three
   obtain ⟨x3,y3,z3,w3,rfl,s⟩:=(hg T (by simp)).three
   exact ⟨_,acT S hA p q r s,oG (Int.mul_pos p.pos p.pos)⟩
def cnr (uss:List (List Int)):List (List Int):=if sgP ((cH uss).map tv) < 0 then swl (cH uss) else cH uss
theorem ag6 {n:Nat} (hn:n=2∨n=3) {L:List PV} (hl:L.length=n+1):∃ a b M,fSl (.lst L) none (some (-2))=some (.lst M)∧fIx (.lst L) (.int (-1))=some a∧fIx (.lst L) (.int (-2))=some b∧aG (.lst M) (.lst [a,b])=some (.lst (swl L)):=by
 rcases hn with rfl | rfl
 ·match L,hl with
  | [P,Q,R],_=>exact ⟨R,Q,[P],rfl,rfl,rfl,rfl⟩
 ·match L,hl with
  | [P,Q,R,T],_=>exact ⟨T,R,[P,Q],rfl,rfl,rfl,rfl⟩
theorem acx {n:Nat} (hn:n=2∨n=3) {A:PV} {uss:List (List Int)} (S:Sto) (hl:uss.length=n+1) (hg:∀ us∈uss,Gu n 1000 us) (hA:Sv A (uss.map tv)):fI [.pv A] S=.ok (.pv (.tup ((cnr uss).map tv))) S:=by
 have h34:uss.length=3∨uss.length=4:=by omega
 have e1:=wW h34 hA fun us hu=>(hg us hu).ne
 obtain ⟨pm,_⟩:=kJ h34
 have hl2:((cH uss).map tv).length=n+1:=by rw [List.length_map,pm.length_eq]; exact hl
 have hg2:∀ v∈(cH uss).map tv,Gp n 1000 v:=gps fun us hu=>hg us (pm.subset hu)
 obtain ⟨d,e2,hd⟩:=yZ (A:=.lst ((cH uss).map tv)) hn S hl2 hg2 (.inl rfl)
 obtain ⟨a,b,M,t1,t2,t3,t4⟩:=ag6 hn hl2
 unfold cnr
 have hlt:d < 0↔sgP ((cH uss).map tv) < 0:=by
  rw [← hd]
  unfold sg
  split
  ·omega
  ·split <;> omega
 by_cases h:d < 0
 ·rw [if_pos (hlt.mp h),yL]
  generalize (cH uss).map tv=L at *
  unfold fI fnM nH
  simp [EC,aN,aJ,aK,fEq,fNe,cR,aO,aQ,aP,aR,frz,aL,e1,e2,h,mSl,mO0,mO1,dG,t1,t2,t3,t4]
 ·rw [if_neg (fun z=>h (hlt.mpr z))]
  generalize (cH uss).map tv=L at *
  unfold fI fnM nH
  simp [EC,aN,aJ,aK,fEq,fNe,cR,aO,aQ,aP,aR,frz,aL,e1,e2,h]
theorem adt {n:Nat} (hn:n=2∨n=3) {A:PV} {uss:List (List Int)} (S:Sto) (hl:uss.length=n+1) (hg:∀ us∈uss,Gu n 1000 us) (hA:Sv A (uss.map tv)) (h0:sgP (uss.map tv)≠0):iY [.pv A] S=.ok (.pv (.tup ((cnr uss).map tv))) S:=by
 have h34:uss.length=3∨uss.length=4:=by omega
 have e1:=wW h34 hA fun us hu=>(hg us hu).ne
 obtain ⟨pm,_⟩:=kJ h34
 have hl2:((cH uss).map tv).length=n+1:=by rw [List.length_map,pm.length_eq]; exact hl
 have hg2:∀ v∈(cH uss).map tv,Gp n 1000 v:=gps fun us hu=>hg us (pm.subset hu)
 have e2:=ahD (A:=.lst ((cH uss).map tv)) hn S hl2 hg2 (.inl rfl)
 have h1:sgP ((cH uss).map tv)≠0:=by rcases afX hn hl hg with e | e <;> omega
 obtain ⟨a,b,M,t1,t2,t3,t4⟩:=ag6 hn hl2
 unfold cnr
 by_cases h:sgP ((cH uss).map tv) < 0
 ·rw [if_pos h,yL]
  generalize (cH uss).map tv=L at *
  generalize sgP L=D at *
  unfold iY fnM nK
  simp [EC,aN,aJ,aK,fEq,fNe,cR,aO,aQ,aP,aR,frz,aL,e1,e2,h,h1,mSl,mO0,mO1,dG,t1,t2,t3,t4]
 ·rw [if_neg h]
  generalize (cH uss).map tv=L at *
  generalize sgP L=D at *
  unfold iY fnM nK
  simp [EC,aN,aJ,aK,fEq,fNe,cR,aO,aQ,aP,aR,frz,aL,e1,e2,h,h1]
theorem acV {uss:List (List Int)} (h:uss.length=3∨uss.length=4):(cnr uss).Perm uss:=by
 obtain ⟨pm,_⟩:=kJ h
 unfold cnr
 split
 ·exact (afa _).trans pm
 ·exact pm
theorem ahP {uss:List (List Int)} (h:uss.length=3∨uss.length=4):cnr (cnr uss)=cnr uss:=by
 have e:=abz (acV h) h
 unfold cnr at e ⊢
 rw [e]
theorem Gu.mono {n k l:Nat} {us:List Int} (h:Gu n k us) (hl:k≤l):Gu n l us:=by
 obtain ⟨xs,w,e,P⟩:=h
 exact ⟨xs,w,e,P.mono hl⟩
theorem tQ {d:Int}:sg d=0↔d=0:=by
 unfold sg
 split
 ·omega
 ·split <;> omega
theorem ais {d:Int}:sg d < 0↔d < 0:=by
 unfold sg
 split
 ·omega
 ·split <;> omega
theorem ajx {n k:Nat} (hn:n=2∨n=3) (hk:k≤1000) {uss:List (List Int)} (hl:uss.length=n+1) (hg:∀ us∈uss,Gu n k us):dU (swl uss)=- dU uss:=by
 rcases hn with rfl | rfl
 ·match uss,hl with
  | [a,b,c],_ =>
   obtain ⟨x0,y0,w0,rfl,_⟩:=(hg a (by simp)).two hk
   obtain ⟨x1,y1,w1,rfl,_⟩:=(hg b (by simp)).two hk
   obtain ⟨x2,y2,w2,rfl,_⟩:=(hg c (by simp)).two hk
   show D2 x0 y0 w0 x2 y2 w2 x1 y1 w1=-(D2 x0 y0 w0 x1 y1 w1 x2 y2 w2)
   unfold D2
   grind
 ·match uss,hl with
  | [a,b,c,d],_ =>
   obtain ⟨x0,y0,z0,w0,rfl,_⟩:=(hg a (by simp)).three hk
   obtain ⟨x1,y1,z1,w1,rfl,_⟩:=(hg b (by simp)).three hk
   obtain ⟨x2,y2,z2,w2,rfl,_⟩:=(hg c (by simp)).three hk
   obtain ⟨x3,y3,z3,w3,rfl,_⟩:=(hg d (by simp)).three hk
   show D3 x0 y0 z0 w0 x1 y1 z1 w1 x3 y3 z3 w3 x2 y2 z2 w2=-(D3 x0 y0 z0 w0 x1 y1 z1 w1 x2 y2 z2 w2 x3 y3 z3 w3)
   unfold D3
   grind
theorem ajb {n k:Nat} (hn:n=2∨n=3) (hk:k≤1000) {uss:List (List Int)} (hl:uss.length=n+1) (hg:∀ us∈uss,Gu n k us):dU (cnr uss)=((dU uss).natAbs:Int):=by
 have hp:=(kJ (uO hn hl)).1
 have gs:∀ us∈cH uss,Gu n k us:=fun us hu=>hg us (hp.subset hu)
 have ls:(cH uss).length=n+1:=by rw [hp.length_eq,hl]
 have e:=adF hn hk hl hg
 have s:=ajx hn hk ls gs
 have q:=qM hn hk ls gs
 unfold cnr
 split
 ·rename_i h
  rw [q,ais] at h
  rw [s]
  omega
 ·rename_i h
  rw [q,ais] at h
  omega
structure Sx (n k:Nat) (uss:List (List Int)):Prop where
 len:uss.length=n+1
 gu:∀ us∈uss,Gu n k us
 nz:dU uss≠0
 cn:cnr uss=uss
abbrev px (uss:List (List Int)):PV:=.tup (uss.map tv)
theorem ahm {n k:Nat} (hn:n=2∨n=3) (hk:k≤1000) {uss:List (List Int)} (hl:uss.length=n+1) (hg:∀ us∈uss,Gu n k us) (nz:dU uss≠0):Sx n k (cnr uss):=by
 have hp:=acV (uO hn hl)
 refine ⟨by rw [hp.length_eq,hl],fun us hu=>hg us (hp.subset hu),?_,ahP (uO hn hl)⟩
 rw [ajb hn hk hl hg]
 omega
theorem jN {G:Gd} {S:Sto} (hG:gOk G S) {me:ME} {tail:Rho} {α:Type} (A B:α→PV):∀ (L:List α) (x:Option AV),(∀ v∈L,me (some (.pv (A v)) :: tail) S=.ok (.pv (B v)) S)→bT G (gN 0) me (L.map A) (x :: tail) S=.ok (L.map B) S
 | [],x,_=>af2 hG
 | v :: L,x,h=>by
  have e:=h v List.mem_cons_self
  have e':=jN hG A B L (some (.pv (A v))) fun u hu=>h u (List.mem_cons_of_mem _ hu)
  rw [List.map_cons,ahj hG]
  simp [gN,e,e']
theorem aj0 {k:Nat} {x0 y0 w0 x1 y1 w1 x2 y2 w2:Int} (a0:Bd k x0) (b0:Bd k y0) (c0:Bd k w0) (a1:Bd k x1) (b1:Bd k y1) (c1:Bd k w1) (a2:Bd k x2) (b2:Bd k y2) (c2:Bd k w2):Bd (3*k+3) (D2 x0 y0 w0 x1 y1 w1 x2 y2 w2):=by
 have m:∀ {a b:Int},Bd k a→Bd k b→Bd (2*k) (a*b):=fun h g=>(h.mul g).mono (by omega)
 have s:∀ {a b c d:Int},Bd k a→Bd k b→Bd k c→Bd k d→Bd (2*k+1) (a*b - c*d):=fun h g i j=>(m h g).sub (m i j)
 have t:∀ {w e:Int},Bd k w→Bd (2*k+1) e→Bd (3*k+1) (w*e):=fun h g=>(h.mul g).mono (by omega)
 unfold D2
 exact ((t c0 (s a1 b2 b1 a2)).sub (t c1 (s a0 b2 b0 a2))).add ((t c2 (s a0 b1 b0 a1)).mono (by omega))
theorem akz {k:Nat} {x0 y0 z0 w0 x1 y1 z1 w1 x2 y2 z2 w2 x3 y3 z3 w3:Int} (a0:Bd k x0) (b0:Bd k y0) (d0:Bd k z0) (c0:Bd k w0) (a1:Bd k x1) (b1:Bd k y1) (d1:Bd k z1) (c1:Bd k w1) (a2:Bd k x2) (b2:Bd k y2) (d2:Bd k z2) (c2:Bd k w2) (a3:Bd k x3) (b3:Bd k y3) (d3:Bd k z3) (c3:Bd k w3):Bd (4*k+6) (D3 x0 y0 z0 w0 x1 y1 z1 w1 x2 y2 z2 w2 x3 y3 z3 w3):=by
 have m:∀ {a b:Int},Bd k a→Bd k b→Bd (2*k) (a*b):=fun h g=>(h.mul g).mono (by omega)
 have s:∀ {a b c d:Int},Bd k a→Bd k b→Bd k c→Bd k d→Bd (2*k+1) (a*b - c*d):=fun h g i j=>(m h g).sub (m i j)
 have t:∀ {e w:Int},Bd (2*k+1) e→Bd k w→Bd (3*k+1) (e*w):=fun h g=>(h.mul g).mono (by omega)
 have u:∀ {e f g w:Int},Bd (3*k+1) e→Bd (3*k+1) f→Bd (3*k+1) g→Bd k w→Bd (4*k+3) (w*(e+f+g)):=fun h i j l=>(l.mul ((h.add i).add (j.mono (by omega)))).mono (by omega)
 unfold D3
 refine (((u (t (s b1 d2 d1 b2) a3) (t (s d1 a2 a1 d2) b3) (t (s a1 b2 b1 a2) d3) c0).sub (u (t (s b0 d2 d0 b2) a3) (t (s d0 a2 a0 d2) b3) (t (s a0 b2 b0 a2) d3) c1)).add ((u (t (s b0 d1 d0 b1) a3) (t (s d0 a1 a0 d1) b3) (t (s a0 b1 b0 a1) d3) c2).mono (by omega))).sub ((u (t (s b0 d1 d0 b1) a2) (t (s d0 a1 a0 d1) b2) (t (s a0 b1 b0 a1) d2) c3).mono (by omega))
theorem Gu.two' {k:Nat} {us:List Int} (h:Gu 2 k us):∃ x y w,us=[x,y,w]∧0 < w∧Bd k x∧Bd k y∧Bd k w:=by
 obtain ⟨xs,w,rfl,P⟩:=h
 match xs,P.len,P with
 | [x,y],_,P=>exact ⟨x,y,w,rfl,P.pos,P.bx x (by simp),P.bx y (by simp),P.bw⟩
theorem Gu.three' {k:Nat} {us:List Int} (h:Gu 3 k us):∃ x y z w,us=[x,y,z,w]∧0 < w∧Bd k x∧Bd k y∧Bd k z∧Bd k w:=by
 obtain ⟨xs,w,rfl,P⟩:=h
 match xs,P.len,P with
 | [x,y,z],_,P=>exact ⟨x,y,z,w,rfl,P.pos,P.bx x (by simp),P.bx y (by simp),P.bx z (by simp),P.bw⟩
theorem abk {n:Nat} (S:Sto):∀ (L:List PV) (x:Option AV),(∀ v∈L,Gp n 1000 v)→bT [] (gN 0) (aY mV [] (aB (aA 0) (aB (aA 1) aE))) L [x,some (.pv (.int n))] S=.ok (L.map fun _=>.bl true) S
 | [],x,_=>eG
 | v :: L,x,h=>by
  have ih:=abk (n:=n) S L (some (.pv v)) fun u hu=>h u (List.mem_cons_of_mem _ hu)
  obtain ⟨xs,w,rfl,P⟩:=h v List.mem_cons_self
  have e:=af4 S (by decide) P
  rw [eN]
  generalize (xs++[w]).map PV.int=XL at *
  generalize (n:Int)=N at *
  simp [gN,EC,aN,aJ,aK,fIx,atI,ixN,fEq,fNe,eqN,aO,aQ,aP,aR,aG,aU,frz,aL,e,ih]
theorem xP:∀ L:List PV,fV [.lst (L.map fun _=>.bl true)]=some (.bl true):=fun L=>by
 have e:hZ (L.map fun _=>PV.bl true)=some (L.map fun _=>true):=by
  induction L with
  | nil=>rfl
  | cons v L ih =>
   show (match hZ (L.map fun _=>PV.bl true) with | some bs=>some (true :: bs) | none=>none)=_
   rw [ih]
   rfl
 simp only [fV,e,Option.map_some]
 simp
theorem ae4 {n:Nat} (hn:n=2∨n=3) {uss:List (List Int)} (S:Sto) (hl:uss.length=n+1) (hg:∀ us∈uss,Gu n 1000 us) (h0:sgP (uss.map tv)≠0) (hc:cnr uss=uss):mP [.pv (.tup (uss.map tv)),.pv (.int n)] S=.ok (.pv (.bl true)) S:=by
 have gp:=gps hg
 have hl2:(uss.map tv).length=n+1:=by rw [List.length_map]; exact hl
 have ec:=abk S (uss.map tv) none gp
 have ea:=xP (uss.map tv)
 obtain ⟨d,e2,hd⟩:=yZ (A:=.tup (uss.map tv)) hn S hl2 gp (.inr rfl)
 have hd0:d≠0:=fun z=>h0 (by rw [← hd,z]; rfl)
 have hdb:(d == 0)=false:=by simpa using hd0
 have e3:=acx (A:=.tup (uss.map tv)) hn S hl hg (.inr rfl)
 rw [hc] at e3
 have q:eqN 8 (.tup (uss.map tv)) (.tup (uss.map tv))=some true:=yA fun v hv=>agm (m:=6) (gp v hv)
 have a3:aG (.int (n:Int)) (.int 1)=some (.int ((uss.map tv).length:Nat)):=by rw [aG,hl2]; rfl
 generalize uss.map tv=L at *
 generalize L.map (fun _=>PV.bl true)=BL at *
 unfold mP fnM vZ
 generalize (n:Int)=N at *
 simp [EC,aN,aJ,aK,fEq,fNe,cR,aO,aQ,aP,aR,frz,aL,eY,a3,bJ,mIt,bV,bR,ec,ea,e2,hdb,e3,q]
theorem aez {n k:Nat} (hn:n=2∨n=3) (S:Sto) {hs:List (List (List Int))} (h:∀ uss∈hs,Sx n k uss) (hk:k≤1000):mZ [.pv (.tup (hs.map px)),.pv (.int n)] S=.ok (.pv (.bl true)) S:=by
 have e:bT [] (gN 0) (aY mP [] (aB (aA 0) (aB (aA 1) aE))) (hs.map px) [none,some (.pv (.int n))] S=.ok (hs.map fun _=>.bl true) S:=by
  refine jN (gL S) px (fun _=>.bl true) hs none fun uss hu=>?_
  have s:=h uss hu
  have e1:=ae4 hn S s.len (fun us hu=>(s.gu us hu).mono hk) (by rw [qM hn hk s.len s.gu]; exact fun z=>s.nz (tQ.mp z)) s.cn
  simp [EC,aN,aJ,aK,fIx,atI,ixN,fEq,fNe,eqN,aO,aQ,aP,aR,aG,aU,frz,aL,e1]
 have ea:fV [.lst (hs.map fun _=>PV.bl true)]=some (.bl true):=by
  have:=xP (hs.map px)
  rw [List.map_map] at this
  exact this
 unfold mZ fnM wL
 simp [EC,aN,aJ,aK,fIx,atI,ixN,fEq,fNe,eqN,aO,aQ,aP,aR,aG,aU,frz,aL,eY,bJ,bR,mIt,bV,e,ea]
theorem ajn {n k m:Nat} {uss:List (List Int)} (h:∀ us∈uss,Gu n k us):eqN (m+2) (px uss) (px uss)=some true :=
 yA fun v hv=>by
  obtain ⟨us,hu,rfl⟩:=List.mem_map.mp hv
  exact agm (h us hu).gp
theorem afw {n k m:Nat} {hs:List (List (List Int))} (h:∀ uss∈hs,Sx n k uss):eqN (m+3) (.tup (hs.map px)) (.tup (hs.map px))=some true∧eqN (m+3) (.lst (hs.map px)) (.lst (hs.map px))=some true:=by
 have a:∀ v∈hs.map px,eqN (m+2) v v=some true:=fun v hv=>by
  obtain ⟨uss,hu,rfl⟩:=List.mem_map.mp hv
  exact ajn (h uss hu).gu
 exact ⟨yA a,agM a⟩
abbrev li (xs:List Int):List PV:=xs.map .int
theorem rgn (S:Sto) {n:Nat} (h:n≤9):pJ [.pv (.int (n:Int))] S=.ok (cL 0 n,[]) S:=by
 have e:pJ [.pv (.int (n:Int))] S=@ite _ ((n:Int)≤16777216∧-16777216≤(n:Int)) (Classical.propDecidable _) (.ok (cL 0 (n:Int).toNat,[]) S) .fail:=rfl
 rw [e,if_pos ⟨by omega,by omega⟩,Int.toNat_natCast]
theorem xV {S:Sto} {k:Nat} {ns:List Int} (h:Row S k ns):S.set k (.lst (ns.map .int))=S:=List.ext_getElem? fun j=>by
 by_cases q:k=j
 ·subst q
  rw [List.getElem?_set_self h.lt]
  exact h.symm
 ·rw [List.getElem?_set_ne q]
theorem qL {n k:Nat} {L:List Int} {b:Int} (hb:0 < b) (hl:L.length=n) (hL:∀ x∈L,Bd k x) (bb:Bd k b):∃ (zs:List Int) (z:Int),low (L++[b])=zs++[z]∧Pq n k zs z∧∀ j,j < n→zs.getD j 0*b=L.getD j 0*z:=by
 obtain ⟨zs,z,g,e,hg,hz,g1,g2,hzl⟩:=agF L hb
 have hlow:=ahF L hb
 have hbd:=aiV (k:=k) (ns:=L++[b]) fun m hm=>by
  rcases List.mem_append.mp hm with y | y
  ·exact hL m y
  ·have:m=b:=by simpa using y
   rw [this]; exact bb
 rw [e] at hlow hbd
 refine ⟨zs,z,e,⟨hzl.trans hl,hz,hlow,fun x hx=>hbd x (List.mem_append_left _ hx),hbd z (kM zs z)⟩,fun j hj=>?_⟩
 have hj':j < zs.length:=by omega
 have e1:L.getD j 0=g*zs.getD j 0:=by
  rw [g1]
  simp [List.getD,hj']
 rw [e1,g2]
 grind
theorem aiP {k:Nat} {x0 y0 w0 x1 y1 w1 x2 y2 w2:Int} (S:Sto) (h:S[k]?=some (.lst [v2 x0 y0 w0,v2 x1 y1 w1,v2 x2 y2 w2])) (p:P2 x0 y0 w0) (q:P2 x1 y1 w1) (r:P2 x2 y2 w2):eH [.ref k] S=.ok (.pv (.int (w0*D2 x0 y0 w0 x1 y1 w1 x2 y2 w2))) S:=by
 have a1:=vJ S p q
 have a2:=vJ S p r
 have bu:=sb p.bx p.bw q.bx q.bw
 have bv:=sb p.by_ p.bw q.by_ q.bw
 have bu2:=sb p.bx p.bw r.bx r.bw
 have bv2:=sb p.by_ p.bw r.by_ r.bw
 have id:(x1*w0 - x0*w1)*(y2*w0 - y0*w2) - (y1*w0 - y0*w1)*(x2*w0 - x0*w2)=w0*D2 x0 y0 w0 x1 y1 w1 x2 y2 w2:=by
  unfold D2
  grind
 generalize w0*D2 x0 y0 w0 x1 y1 w1 x2 y2 w2=D at *
 generalize x1*w0 - x0*w1=U0 at *
 generalize y1*w0 - y0*w1=U1 at *
 generalize x2*w0 - x0*w2=V0 at *
 generalize y2*w0 - y0*w2=V1 at *
 have m1:=mBB bu bv2
 have m2:=mBB bv bu2
 generalize v2 x0 y0 w0=P at *
 generalize v2 x1 y1 w1=Q at *
 generalize v2 x2 y2 w2=R at *
 have et:iI [.pv (.lst [.lst [.int U0,.int U1],.lst [.int V0,.int V1]])] S=.ok (.pv (.int D)) S:=by
  unfold iI fnM nY
  simp [EC,aN,aJ,aK,fIx,atI,ixN,fEq,fNe,eqN,aO,aQ,aP,aR,aG,aU,frz,aL,m1,m2,id]
 unfold eH fnM oF
 have s1:=oQ P [Q,R]
 simp [EC,aN,aJ,aK,fIx,atI,ixN,fEq,fNe,eqN,aO,aQ,aP,aR,aG,aU,frz,aL,bJ,mIt,bV,mSl,mO0,mO1,dG,s1,bR,eN,eG,gN,a1,a2,et,h]
theorem aiJ {k:Nat} {x0 y0 z0 w0 x1 y1 z1 w1 x2 y2 z2 w2 x3 y3 z3 w3:Int} (S:Sto) (h:S[k]?=some (.lst [v3 x0 y0 z0 w0,v3 x1 y1 z1 w1,v3 x2 y2 z2 w2,v3 x3 y3 z3 w3])) (p:P3 x0 y0 z0 w0) (q:P3 x1 y1 z1 w1) (r:P3 x2 y2 z2 w2) (s:P3 x3 y3 z3 w3):eH [.ref k] S=.ok (.pv (.int (w0*w0*D3 x0 y0 z0 w0 x1 y1 z1 w1 x2 y2 z2 w2 x3 y3 z3 w3))) S:=by
 have a1:=pK S p q
 have a2:=pK S p r
 have a3:=pK S p s
 have b1:=sb p.bx p.bw q.bx q.bw
 have b2:=sb p.by_ p.bw q.by_ q.bw
 have b3:=sb p.bz p.bw q.bz q.bw
 have b4:=sb p.bx p.bw r.bx r.bw
 have b5:=sb p.by_ p.bw r.by_ r.bw
 have b6:=sb p.bz p.bw r.bz r.bw
 have b7:=sb p.bx p.bw s.bx s.bw
 have b8:=sb p.by_ p.bw s.by_ s.bw
 have b9:=sb p.bz p.bw s.bz s.bw
 have id:=ahp x0 y0 z0 w0 x1 y1 z1 w1 x2 y2 z2 w2 x3 y3 z3 w3
 generalize w0*w0*D3 x0 y0 z0 w0 x1 y1 z1 w1 x2 y2 z2 w2 x3 y3 z3 w3=D at *
 generalize x1*w0 - x0*w1=U0 at *
 generalize y1*w0 - y0*w1=U1 at *
 generalize z1*w0 - z0*w1=U2 at *
 generalize x2*w0 - x0*w2=V0 at *
 generalize y2*w0 - y0*w2=V1 at *
 generalize z2*w0 - z0*w2=V2 at *
 generalize x3*w0 - x0*w3=T0 at *
 generalize y3*w0 - y0*w3=T1 at *
 generalize z3*w0 - z0*w3=T2 at *
 have hh:∀ {a:Int},Bd 2001 a→Bd 10000 a:=fun h=>h.mono (by decide)
 have h4:∀ {a:Int},Bd 4003 a→Bd 100000 a:=fun h=>h.mono (by decide)
 have h2:∀ {a:Int},Bd 2001 a→Bd 100000 a:=fun h=>h.mono (by decide)
 have en:=acQ (A:=.lst [.int U0,.int U1,.int U2]) (B:=.lst [.int V0,.int V1,.int V2]) S (.inl rfl) (.inl rfl) (hh b1) (hh b2) (hh b3) (hh b4) (hh b5) (hh b6)
 have c1:=cb b2 b6 b3 b5
 have c2:=cb b3 b4 b1 b6
 have c3:=cb b1 b5 b2 b4
 have ed:=aeA (A:=.lst [.int (U1*V2 - U2*V1),.int (U2*V0 - U0*V2),.int (U0*V1 - U1*V0)]) (B:=.lst [.int T0,.int T1,.int T2]) (us:=[U1*V2 - U2*V1,U2*V0 - U0*V2,U0*V1 - U1*V0]) (vs:=[T0,T1,T2]) S (.inl rfl) (.inl rfl) (by simp; exact ⟨h4 c1,h4 c2,h4 c3⟩) (by simp; exact ⟨h2 b7,h2 b8,h2 b9⟩)
 rw [id] at ed
 generalize U1*V2 - U2*V1=N0 at *
 generalize U2*V0 - U0*V2=N1 at *
 generalize U0*V1 - U1*V0=N2 at *
 generalize v3 x0 y0 z0 w0=P at *
 generalize v3 x1 y1 z1 w1=Q at *
 generalize v3 x2 y2 z2 w2=R at *
 generalize v3 x3 y3 z3 w3=T at *
 have et:iI [.pv (.lst [.lst [.int U0,.int U1,.int U2],.lst [.int V0,.int V1,.int V2],.lst [.int T0,.int T1,.int T2]])] S=.ok (.pv (.int D)) S:=by
  unfold iI fnM nY
  simp [EC,aN,aJ,aK,fIx,atI,ixN,fEq,fNe,eqN,aO,aQ,aP,aR,aG,aU,frz,aL,en,ed]
 unfold eH fnM oF
 have s1:=oQ P [Q,R,T]
 simp [EC,aN,aJ,aK,fIx,atI,ixN,fEq,fNe,eqN,aO,aQ,aP,aR,aG,aU,frz,aL,bJ,mIt,bV,mSl,mO0,mO1,dG,s1,bR,eN,eG,gN,a1,a2,a3,et,h]
theorem ah4 {n:Nat} (hn:n=2∨n=3) {uss:List (List Int)} (hl:uss.length=n+1) (hg:∀ us∈uss,Gu n 1000 us):∃ d:Int,sg d=sg (dU uss)∧Bd 8000 d∧(∀ S,eH [.pv (px uss)] S=.ok (.pv (.int d)) S)∧∀ (S:Sto) (k:Nat),S[k]?=some (.lst (uss.map tv))→eH [.ref k] S=.ok (.pv (.int d)) S:=by
 rcases hn with rfl | rfl
 ·match uss,hl,hg with
  | [a,b,c],_,hg =>
   obtain ⟨x0,y0,w0,rfl,q0,a0,b0,c0⟩:=(hg a (by simp)).two'
   obtain ⟨x1,y1,w1,rfl,q1,a1,b1,c1⟩:=(hg b (by simp)).two'
   obtain ⟨x2,y2,w2,rfl,q2,a2,b2,c2⟩:=(hg c (by simp)).two'
   refine ⟨w0*D2 x0 y0 w0 x1 y1 w1 x2 y2 w2,oG q0,(c0.mul (aj0 a0 b0 c0 a1 b1 c1 a2 b2 c2)).mono (by decide),fun S=>?_,fun S k h=>?_⟩
   ·exact adb S (.inr rfl) ⟨a0,b0,c0,q0⟩ ⟨a1,b1,c1,q1⟩ ⟨a2,b2,c2,q2⟩
   ·exact aiP S h ⟨a0,b0,c0,q0⟩ ⟨a1,b1,c1,q1⟩ ⟨a2,b2,c2,q2⟩
 ·match uss,hl,hg with
  | [a,b,c,d],_,hg =>
   obtain ⟨x0,y0,z0,w0,rfl,q0,a0,b0,d0,c0⟩:=(hg a (by simp)).three'
   obtain ⟨x1,y1,z1,w1,rfl,q1,a1,b1,d1,c1⟩:=(hg b (by simp)).three'
   obtain ⟨x2,y2,z2,w2,rfl,q2,a2,b2,d2,c2⟩:=(hg c (by simp)).three'
   obtain ⟨x3,y3,z3,w3,rfl,q3,a3,b3,d3,c3⟩:=(hg d (by simp)).three'
   refine ⟨w0*w0*D3 x0 y0 z0 w0 x1 y1 z1 w1 x2 y2 z2 w2 x3 y3 z3 w3,oG (Int.mul_pos q0 q0),((c0.mul c0).mul (akz a0 b0 d0 c0 a1 b1 d1 c1 a2 b2 d2 c2 a3 b3 d3 c3)).mono (by decide),fun S=>?_,fun S k h=>?_⟩
   ·exact acT S (.inr rfl) ⟨a0,b0,d0,c0,q0⟩ ⟨a1,b1,d1,c1,q1⟩ ⟨a2,b2,d2,c2,q2⟩ ⟨a3,b3,d3,c3,q3⟩
   ·exact aiJ S h ⟨a0,b0,d0,c0,q0⟩ ⟨a1,b1,d1,c1,q1⟩ ⟨a2,b2,d2,c2,q2⟩ ⟨a3,b3,d3,c3,q3⟩
abbrev tx (L:List Nat):Str:=⟨L.toArray⟩
theorem nW (x:Str):tx x.cps.toList=x:=by
 cases x
 simp [tx]
theorem eB (L:List Nat):(tx L).length=L.length:=by
 show L.toArray.size=L.length
 simp
theorem qR (A B:List Nat):tx A++tx B=tx (A++B):=by
 have e:=PySem.W.KT.app_list (tx A) (tx B)
 rw [← nW (tx A++tx B),e]
theorem agc {A B:List Nat} (h:tx A=tx B):A=B:=by
 have e:=congrArg (fun x:Str=>x.cps.toList) h
 simpa using e
theorem ai2 (A B:List Nat):(tx A == tx B)=decide (A=B):=by
 by_cases h:A=B
 ·subst h
  simp
 ·have:tx A≠tx B:=fun z=>h (agc z)
  simp [h,this]
theorem adW:("/":Str)=tx [47]:=by kernel_rfl
theorem aeu:("-":Str)=tx [45]:=by kernel_rfl
def isD (c:Nat):Bool:=decide (48≤c) && decide (c≤57)
theorem afW:∀ c:Nat,c < 128→ak2 "0123456789" ⟨#[c]⟩=isD c:=by decide +kernel
theorem ajo {L:List Nat} (h:∀ c∈L,c < 128):(tx L).cps.all (· < 128)=true:=by
 simpa [tx] using h
theorem ae3 (bs:List Bool):fV [.lst (bs.map .bl)]=some (.bl (bs.all id)):=by
 have e:hZ (bs.map PV.bl)=some bs:=by
  induction bs with
  | nil=>rfl
  | cons v L ih =>
   show (match hZ (L.map PV.bl) with | some bs=>some (v :: bs) | none=>none)=_
   rw [ih]
 simp only [fV,e,Option.map_some]
theorem aey (S:Sto) (L:List Nat) (h:∀ c∈L,c < 128):bT [] (gN 0) (aC mK (aA 0) (mC (.str "0123456789"))) (chs (tx L)) [none] S=.ok ((L.map isD).map .bl) S:=by
 have e:chs (tx L)=L.map fun c=>PV.str ⟨#[c]⟩:=by unfold chs; simp
 rw [e,List.map_map]
 refine jN (gL S) (fun c:Nat=>PV.str ⟨#[c]⟩) (fun c=>.bl (isD c)) L none fun c hc=>?_
 have q:=afW c (h c hc)
 simp [aC,aA,mC,Res.bind,fH,rd,mK,q,okO]
def okD (L:List Nat):Bool:=decide (1≤L.length) && decide (L.length≤60) && L.all isD
def vD (L:List Nat):Int:=((PySem.NumText.digitsVal L:Nat):Int)
theorem ahC {L:List Nat} (h:okD L=true):rD [.str (tx L)]=some (.int (vD L)):=by
 unfold okD at h
 rw [Bool.and_eq_true,Bool.and_eq_true,decide_eq_true_eq,decide_eq_true_eq] at h
 have hl:(tx L).length≤640:=by rw [eB]; omega
 have hd:PySem.NumText.AllDigits (tx L).cps.toList:=by
  intro c hc
  have hc:c∈L:=by simpa [tx] using hc
  have:=List.all_eq_true.mp h.2 c hc
  unfold isD at this
  rw [Bool.and_eq_true,decide_eq_true_eq,decide_eq_true_eq] at this
  exact this
 have hn:(tx L).cps.toList≠[]:=by
  intro z
  have:L=[]:=by simpa [tx] using z
  rw [this] at h
  exact absurd h.1.1 (by decide)
 have e:=PySem.intText_digits hd hn (by omega)
 show (if (tx L).length≤640 then (PySem.intText? (tx L)).map PV.int else none)=_
 rw [if_pos hl,e]
 simp [vD,tx]
theorem ab8:∀ (L:List Nat) (a:Nat),(∀ c∈L,isD c=true)→L.foldl (fun acc c=>acc*10+(c - 48)) a < (a+1)*10 ^ L.length
 | [],a,_=>by simp
 | c :: L,a,h=>by
  have hc:=h c List.mem_cons_self
  unfold isD at hc
  rw [Bool.and_eq_true,decide_eq_true_eq,decide_eq_true_eq] at hc
  have ih:=ab8 L (a*10+(c - 48)) fun d hd=>h d (List.mem_cons_of_mem _ hd)
  rw [List.foldl_cons,List.length_cons,Nat.pow_succ]
  have:a*10+(c - 48)+1≤(a+1)*10:=by omega
  have:=Nat.mul_le_mul_right (10 ^ L.length) this
  have e:(a+1)*10*10 ^ L.length=(a+1)*(10 ^ L.length*10):=by rw [Nat.mul_assoc,Nat.mul_comm 10]
  omega
theorem ahQ {L:List Nat} (h:okD L=true):0≤vD L∧vD L < 10 ^ 60:=by
 unfold okD at h
 rw [Bool.and_eq_true,Bool.and_eq_true,decide_eq_true_eq,decide_eq_true_eq] at h
 have a:=ab8 L 0 (List.all_eq_true.mp h.2)
 have b:10 ^ L.length≤10 ^ 60:=Nat.pow_le_pow_right (by decide) h.1.2
 unfold vD PySem.NumText.digitsVal
 refine ⟨by omega,?_⟩
 have:List.foldl (fun acc c=>acc*10+(c - 48)) 0 L < 10 ^ 60:=by omega
 exact_mod_cast this
theorem iF (S:Sto) (b:Bool):eR [.pv (.bl b)] S=if b=true then .ok (.pv .non) S else .exc "NoText" S:=by
 unfold eR fnM gG
 cases b <;> simp [EC,aN,aJ,aK,fIx,atI,ixN,fEq,fNe,eqN,aO,aQ,aP,aR,aG,aU,frz,aL,kU]
theorem ach (S:Sto) {L:List Nat} (ha:∀ c∈L,c < 128) (hl:L.length≤10000):fA [.pv (.str (tx L))] S=if okD L=true then .ok (.pv (.int (vD L))) S else .exc "NoText" S:=by
 have z:(tx L).length≤16777216:=by rw [eB]; omega
 have ec:=aey S L ha
 have eb:=ae3 (L.map isD)
 have ll:((tx L).length:Int)=(L.length:Int):=by rw [eB]
 have a8:=ajo ha
 have ei:=@ahC L
 have rf:=iF S
 have hb:mY=(aS (dW (bW eR [] (aB (jW (lY fLe fLe (mC (.int 1)) (mR lB (aB (aA 0) aE)) (mC (.int 60))) (mR fV (aB (bJ ["sign"] [] (rM (aA 0)) (gN 0) (aC mK (aA 0) (mC (.str "0123456789")))) aE))) aE))) (bE (mR rD (aB (aA 0) aE)))):=rfl
 have al:(L.map isD).all id=L.all isD:=by simp [List.all_map]
 rw [al] at eb
 unfold okD at ei ⊢
 generalize (aC mK (aA 0) (mC (.str "0123456789")))=ME1 at *
 generalize (L.map isD).map PV.bl=BL at *
 generalize L.all isD=B at *
 generalize vD L=V at *
 generalize L.length=N at *
 generalize tx L=T at *
 unfold fA fnM
 rw [hb]
 by_cases h1:(1:Int)≤(N:Int)
 ·have h1':1≤N:=by omega
  by_cases h2:(N:Int)≤60
  ·have h2':N≤60:=by omega
   cases B with
   | true =>
    have ei:=ei (by simp [h1',h2'])
    simp [EC,aN,aJ,aK,fIx,atI,ixN,fEq,fNe,eqN,aO,aQ,aP,aR,aG,aU,frz,aL,lY,lB,z,ll,h1,h2,h1',h2',bJ,bR,rM,vB,a8,ec,eb,rf,ei]
   | false=>simp [EC,aN,aJ,aK,fIx,atI,ixN,fEq,fNe,eqN,aO,aQ,aP,aR,aG,aU,frz,aL,lY,lB,z,ll,h1,h2,h1',h2',bJ,bR,rM,vB,a8,ec,eb,rf]
  ·have h2':¬ N≤60:=by omega
   simp [EC,aN,aJ,aK,fIx,atI,ixN,fEq,fNe,eqN,aO,aQ,aP,aR,aG,aU,frz,aL,lY,lB,z,ll,h1,h2,h1',h2',rf]
 ·have h1':¬ 1≤N:=by omega
  simp [EC,aN,aJ,aK,fIx,atI,ixN,fEq,fNe,eqN,aO,aQ,aP,aR,aG,aU,frz,aL,lY,lB,z,ll,h1,h1',rf]
theorem ahH (L:List Nat) (i:Nat):Txt.slice (tx L) (some (i:Int)) none=tx (L.drop i):=by
 have hl:=eB L
 by_cases h:i≤L.length
 ·rw [PyProof.Rows.slice_from_eq (b:=((tx L).length:Int)) (by omega) (by omega) rfl]
  have e1:((i:Int)).toNat=i:=by omega
  have e2:(((tx L).length:Int) - (i:Int)).toNat=L.length - i:=by omega
  rw [e1,e2]
  have:(tx L).cps.toList=L:=by simp [tx]
  rw [this,List.take_of_length_le (by rw [List.length_drop]; exact Nat.le_refl _)]
 ·rw [PyProof.Rows.slice_beyond (by omega),List.drop_of_length_le (by omega)]
  rfl
theorem ah0 (L:List Nat) (c:Nat):Txt.startswith (tx L) (tx [c])=decide (L.head?=some c):=by
 have e:=StrLaws.subAt_one (tx L) c 0
 have h0:(tx L).cps.toList[0]?=L.head?:=by
  have:(tx L).cps.toList=L:=by simp [tx]
  rw [this]
  cases L <;> rfl
 rw [h0] at e
 unfold Txt.startswith
 by_cases h:L.head?=some c
 ·obtain ⟨a,b⟩:=e.mpr h
  have a:0+(tx [c]).length≤(tx L).length:=a
  have b:Builtin.Str.subAt (tx L) (tx [c]) 0=true:=b
  rw [Nat.zero_add] at a
  simp [h,a,b]
 ·have n:¬ (0+(tx [c]).length≤(tx L).length∧Builtin.Str.subAt (tx L) (tx [c]) 0=true):=fun z=>h (e.mp z)
  simp only [h,decide_false]
  by_cases a:0+(tx [c]).length≤(tx L).length
  ·have b:Builtin.Str.subAt (tx L) (tx [c]) 0=false:=by
    cases q:Builtin.Str.subAt (tx L) (tx [c]) 0 with
    | false=>rfl
    | true=>exact absurd ⟨a,q⟩ n
   simp [b]
  ·rw [Nat.zero_add] at a
   simp [a]
def dI (c:Nat):List (List Nat)→List Nat
 | []=>[]
 | [p]=>p
 | p :: q :: r=>p++c :: dI c (q :: r)
theorem aef (c:Nat):∀ P:List (List Nat),Str.join (tx [c]) (P.map tx)=tx (dI c P)
 | []=>rfl
 | [p]=>rfl
 | p :: q :: r=>by
  show tx p++tx [c]++Str.join (tx [c]) ((q :: r).map tx)=tx (p++c :: dI c (q :: r))
  rw [aef c (q :: r),qR,qR,List.append_assoc]
  rfl
theorem zW (L:List Nat) (c:Nat):∃ P:List (List Nat),Txt.split (tx L) (tx [c])=P.map tx∧(∀ p∈P,c ∉ p)∧dI c P=L∧P≠[]:=by
 refine ⟨(Txt.split (tx L) (tx [c])).map fun x=>x.cps.toList,?_,?_,?_,?_⟩
 ·rw [List.map_map]
  have:(tx ∘ fun x:Str=>x.cps.toList)=id:=by
   funext x
   exact nW x
  rw [this,List.map_id]
 ·intro p hp
  obtain ⟨x,hx,rfl⟩:=List.mem_map.mp hp
  exact StrLaws.split_free (tx L) c x hx
 ·have e:=StrLaws.join_split (tx L) (tx [c])
  apply agc
  rw [← aef,List.map_map]
  have:(tx ∘ fun x:Str=>x.cps.toList)=id:=by
   funext x
   exact nW x
  rw [this,List.map_id]
  exact e
 ·intro z
  have:=PyProof.Rows.split_pos (tx L) (tx [c])
  rw [List.map_eq_nil_iff.mp z] at this
  exact absurd this (by decide)
theorem xA {c:Nat}:∀ {A A' B B':List Nat},c ∉ A→c ∉ A'→A++c :: B=A'++c :: B'→A=A'∧B=B'
 | [],[],B,B',_,_,e=>⟨rfl,(List.cons.inj e).2⟩
 | [],a :: A',B,B',_,h,e=>absurd (by rw [(List.cons.inj e).1]; exact List.mem_cons_self) h
 | a :: A,[],B,B',h,_,e=>absurd (by rw [← (List.cons.inj e).1]; exact List.mem_cons_self) h
 | a :: A,b :: A',B,B',h,h',e=>by
  obtain ⟨e1,e2⟩:=List.cons.inj e
  obtain ⟨r1,r2⟩:=xA (fun z=>h (List.mem_cons_of_mem _ z)) (fun z=>h' (List.mem_cons_of_mem _ z)) e2
  exact ⟨by rw [e1,r1],r2⟩
theorem sR {c:Nat}:∀ {P Q:List (List Nat)},P≠[]→Q≠[]→(∀ p∈P,c ∉ p)→(∀ p∈Q,c ∉ p)→dI c P=dI c Q→P=Q
 | [],_,h,_,_,_,_=>absurd rfl h
 | _,[],_,h,_,_,_=>absurd rfl h
 | [p],[q],_,_,_,_,e=>by
  have e:p=q:=e
  rw [e]
 | [p],q :: q' :: r,_,_,hp,_,e=>by
  have e:p=q++c :: dI c (q' :: r):=e
  exact absurd (by rw [e]; simp) (hp p List.mem_cons_self)
 | p :: p' :: r,[q],_,_,_,hq,e=>by
  have e:p++c :: dI c (p' :: r)=q:=e
  exact absurd (by rw [← e]; simp) (hq q List.mem_cons_self)
 | p :: p' :: r,q :: q' :: t,_,_,hp,hq,e=>by
  have e:p++c :: dI c (p' :: r)=q++c :: dI c (q' :: t):=e
  obtain ⟨e1,e2⟩:=xA (hp p List.mem_cons_self) (hq q List.mem_cons_self) e
  have:=sR (by simp) (by simp) (fun x hx=>hp x (List.mem_cons_of_mem _ hx)) (fun x hx=>hq x (List.mem_cons_of_mem _ hx)) e2
  rw [e1,this]
def bd (p:List Nat):List Nat:=if p.head?=some 45 then p.tail else p
def sN (p:List Nat):Int:=if p.head?=some 45 then -(vD (bd p)) else vD (bd p)
def rdN:List (List Nat)→Option (Int × Int)
 | [p]=>if okD (bd p)=true then some (sN p,1) else none
 | [p,q]=>if okD (bd p)=true∧okD q=true∧vD q≠0 then some (sN p,vD q) else none
 | _=>none
theorem b60 {v:Int} (h:0≤v∧v < 10 ^ 60):Bd 200 v∧Bd 200 (-v):=by
 have a:Bd 200 v:=Bd.of (n:=10 ^ 60) (by omega) (by decide +kernel)
 exact ⟨a,a.neg⟩
theorem uK {p:List Nat} (h:okD (bd p)=true):Bd 200 (sN p):=by
 have:=b60 (ahQ h)
 unfold sN
 split
 ·exact this.2
 ·exact this.1
theorem agG:Bd 200 (1:Int):=(Bd.of (k:=2) (n:=1) (by decide) (by decide)).mono (by decide)
theorem aij {p:List Nat} {c:Nat} (h:c∈bd p):c∈p:=by
 unfold bd at h
 split at h
 ·exact List.mem_of_mem_tail h
 ·exact h
theorem ai7 (p:List Nat):(bd p).length≤p.length:=by
 unfold bd
 split
 ·rw [List.length_tail]; omega
 ·exact Nat.le_refl _
def akj (r:Option (Int × Int)) (S:Sto):Res AV:=match r with
 | some (t,b)=>.ok (.pv (.tup ((fr t b).map .int))) S
 | none=>.exc "NoText" S
def Bod (b:Bool) (T0 T1:Str):Prop:=(b=true∧akQ (.str T0) (some 1) none=some (.str T1))∨(b=false∧T1=T0)
theorem ahl {S:Sto} {TL T0 T1:Str} {b:Bool} {V:Int} {F:AV} (es:fG TL [.str "/"]=some (.lst [.str T0])) (st:jB T0 [.str "-"]=some (.bl b)) (hb:Bod b T0 T1) (r1:fA [.pv (.str T1)] S=.ok (.pv (.int V)) S) (fq:gS [.pv (.int (if b=true then -V else V)),.pv (.int 1)] S=.ok F S) (hF:∀ k,F≠.ref k):dO [.pv (.str TL)] S=.ok F S:=by
 have rf:=iF S
 unfold dO fnM iE
 cases F with
 | ref k=>exact absurd rfl (hF k)
 | pv F =>
  rcases hb with ⟨rfl,hb⟩ | ⟨rfl,rfl⟩
  ·simp only [if_true] at fq
   simp [EC,aN,aJ,aK,fIx,atI,ixN,fEq,fNe,eqN,aO,aQ,aP,aR,aG,aU,frz,aL,eF,dC,es,rf,st,lC,mO0,mO1,dG,hb,r1,fq]
  ·simp only [Bool.false_eq_true,if_false] at fq
   simp [EC,aN,aJ,aK,fIx,atI,ixN,fEq,fNe,eqN,aO,aQ,aP,aR,aG,aU,frz,aL,eF,dC,es,rf,st,r1,fq]
theorem adm {S:Sto} {TL T0 T1:Str} {b:Bool} (es:fG TL [.str "/"]=some (.lst [.str T0])) (st:jB T0 [.str "-"]=some (.bl b)) (hb:Bod b T0 T1) (r1:fA [.pv (.str T1)] S=.exc "NoText" S):dO [.pv (.str TL)] S=.exc "NoText" S:=by
 have rf:=iF S
 unfold dO fnM iE
 rcases hb with ⟨rfl,hb⟩ | ⟨rfl,rfl⟩
 ·simp [EC,aN,aJ,aK,fIx,atI,ixN,fEq,fNe,eqN,aO,aQ,aP,aR,aG,aU,frz,aL,eF,dC,es,rf,st,lC,mO0,mO1,dG,hb,r1]
 ·simp [EC,aN,aJ,aK,fIx,atI,ixN,fEq,fNe,eqN,aO,aQ,aP,aR,aG,aU,frz,aL,eF,dC,es,rf,st,r1]
theorem ahJ {S:Sto} {TL T0 T1 T2:Str} {b:Bool} {V V2:Int} {F:AV} (es:fG TL [.str "/"]=some (.lst [.str T0,.str T2])) (st:jB T0 [.str "-"]=some (.bl b)) (hb:Bod b T0 T1) (r1:fA [.pv (.str T1)] S=.ok (.pv (.int V)) S) (r2:fA [.pv (.str T2)] S=.ok (.pv (.int V2)) S) (hz:V2≠0) (fq:gS [.pv (.int (if b=true then -V else V)),.pv (.int V2)] S=.ok F S) (hF:∀ k,F≠.ref k):dO [.pv (.str TL)] S=.ok F S:=by
 have rf:=iF S
 have hz':(V2 == 0)=false:=by simpa using hz
 unfold dO fnM iE
 cases F with
 | ref k=>exact absurd rfl (hF k)
 | pv F =>
  rcases hb with ⟨rfl,hb⟩ | ⟨rfl,rfl⟩
  ·simp only [if_true] at fq
   simp [EC,aN,aJ,aK,fIx,atI,ixN,fEq,fNe,eqN,aO,aQ,aP,aR,aG,aU,frz,aL,eF,dC,es,rf,st,lC,mO0,mO1,dG,hb,r1,r2,hz',fq]
  ·simp only [Bool.false_eq_true,if_false] at fq
   simp [EC,aN,aJ,aK,fIx,atI,ixN,fEq,fNe,eqN,aO,aQ,aP,aR,aG,aU,frz,aL,eF,dC,es,rf,st,r1,r2,hz',fq]
theorem acC {S:Sto} {TL T0 T1 T2:Str} {b:Bool} (es:fG TL [.str "/"]=some (.lst [.str T0,.str T2])) (st:jB T0 [.str "-"]=some (.bl b)) (hb:Bod b T0 T1) (r1:fA [.pv (.str T1)] S=.exc "NoText" S):dO [.pv (.str TL)] S=.exc "NoText" S:=by
 have rf:=iF S
 unfold dO fnM iE
 rcases hb with ⟨rfl,hb⟩ | ⟨rfl,rfl⟩
 ·simp [EC,aN,aJ,aK,fIx,atI,ixN,fEq,fNe,eqN,aO,aQ,aP,aR,aG,aU,frz,aL,eF,dC,es,rf,st,lC,mO0,mO1,dG,hb,r1]
 ·simp [EC,aN,aJ,aK,fIx,atI,ixN,fEq,fNe,eqN,aO,aQ,aP,aR,aG,aU,frz,aL,eF,dC,es,rf,st,r1]
theorem acq {S:Sto} {TL T0 T1 T2:Str} {b:Bool} {V:Int} (es:fG TL [.str "/"]=some (.lst [.str T0,.str T2])) (st:jB T0 [.str "-"]=some (.bl b)) (hb:Bod b T0 T1) (r1:fA [.pv (.str T1)] S=.ok (.pv (.int V)) S) (r2:fA [.pv (.str T2)] S=.exc "NoText" S):dO [.pv (.str TL)] S=.exc "NoText" S:=by
 have rf:=iF S
 unfold dO fnM iE
 rcases hb with ⟨rfl,hb⟩ | ⟨rfl,rfl⟩
 ·simp [EC,aN,aJ,aK,fIx,atI,ixN,fEq,fNe,eqN,aO,aQ,aP,aR,aG,aU,frz,aL,eF,dC,es,rf,st,lC,mO0,mO1,dG,hb,r1,r2]
 ·simp [EC,aN,aJ,aK,fIx,atI,ixN,fEq,fNe,eqN,aO,aQ,aP,aR,aG,aU,frz,aL,eF,dC,es,rf,st,r1,r2]
theorem abJ {S:Sto} {TL T0 T1 T2:Str} {b:Bool} {V:Int} (es:fG TL [.str "/"]=some (.lst [.str T0,.str T2])) (st:jB T0 [.str "-"]=some (.bl b)) (hb:Bod b T0 T1) (r1:fA [.pv (.str T1)] S=.ok (.pv (.int V)) S) (r2:fA [.pv (.str T2)] S=.ok (.pv (.int 0)) S):dO [.pv (.str TL)] S=.exc "NoText" S:=by
 have rf:=iF S
 unfold dO fnM iE
 rcases hb with ⟨rfl,hb⟩ | ⟨rfl,rfl⟩
 ·simp [EC,aN,aJ,aK,fIx,atI,ixN,fEq,fNe,eqN,aO,aQ,aP,aR,aG,aU,frz,aL,eF,dC,es,rf,st,lC,mO0,mO1,dG,hb,r1,r2]
 ·simp [EC,aN,aJ,aK,fIx,atI,ixN,fEq,fNe,eqN,aO,aQ,aP,aR,aG,aU,frz,aL,eF,dC,es,rf,st,r1,r2]
theorem afA {S:Sto} {TL:Str} {R:List PV} (es:fG TL [.str "/"]=some (.lst R)) (h:2 < R.length):dO [.pv (.str TL)] S=.exc "NoText" S:=by
 have rf:=iF S
 have h3:¬ ((R.length:Int)≤2):=by omega
 unfold dO fnM iE
 simp [EC,aN,aJ,aK,fIx,atI,ixN,fEq,fNe,eqN,aO,aQ,aP,aR,aG,aU,frz,aL,eF,dC,es,rf,h3]
theorem ago {p:List Nat} (h:p.length≤10000):jB (tx p) [.str "-"]=some (.bl (decide (p.head?=some 45)))∧Bod (decide (p.head?=some 45)) (tx p) (tx (bd p)):=by
 refine ⟨?_,?_⟩
 ·rw [aeu]
  show some (PV.bl (Txt.startswith (tx p) (tx [45])))=_
  rw [ah0]
 ·unfold bd
  by_cases h45:p.head?=some 45
  ·left
   rw [if_pos h45]
   refine ⟨by simp [h45],?_⟩
   show (if (tx p).length≤16777216 then some (PV.str (Txt.slice (tx p) (some 1) none)) else none)=_
   rw [if_pos (by rw [eB]; omega)]
   have:=ahH p 1
   rw [show ((1:Nat):Int)=1 from rfl,List.drop_one] at this
   rw [this]
  ·right
   rw [if_neg h45]
   exact ⟨by simp [h45],rfl⟩
theorem ajK (p:List Nat):(if decide (p.head?=some 45)=true then -(vD (bd p)) else vD (bd p))=sN p:=by
 unfold sN
 by_cases h45:p.head?=some 45 <;> simp [h45]
theorem akA (p:List Nat):rdN [p]=if okD (bd p)=true then some (sN p,1) else none:=rfl
theorem akG (p q:List Nat):rdN [p,q]=if okD (bd p)=true∧okD q=true∧vD q≠0 then some (sN p,vD q) else none:=rfl
theorem xS (S:Sto) {L:List Nat} {P:List (List Nat)} (hs:Txt.split (tx L) (tx [47])=P.map tx) (hp:P≠[]) (ha:∀ p∈P,∀ c∈p,c < 128) (hl:∀ p∈P,p.length≤10000) (hL:L.length≤10000):dO [.pv (.str (tx L))] S=akj (rdN P) S:=by
 have es:fG (tx L) [.str "/"]=some (.lst (P.map fun p=>.str (tx p))):=by
  rw [adW]
  show (if (tx [47]).length≠0∧(tx L).length+2≤16777216 then some (PV.lst ((Txt.split (tx L) (tx [47])).map .str)) else none)=_
  rw [if_pos ⟨by rw [eB]; decide,by rw [eB]; omega⟩,hs,List.map_map]
  rfl
 have top:∀ p∈P,fA [.pv (.str (tx (bd p)))] S=if okD (bd p)=true then .ok (.pv (.int (vD (bd p)))) S else .exc "NoText" S:=fun p h=>ach S (fun c hc=>ha p h c (aij hc)) (Nat.le_trans (ai7 p) (hl p h))
 have wh:∀ p∈P,fA [.pv (.str (tx p))] S=if okD p=true then .ok (.pv (.int (vD p))) S else .exc "NoText" S:=fun p h=>ach S (ha p h) (hl p h)
 have fq:∀ t b:Int,Bd 200 t→Bd 200 b→b≠0→gS [.pv (.int t),.pv (.int b)] S=.ok (.pv (.tup ((fr t b).map .int))) S:=fun t b ht hb h=>aaR t b S (ht.mono (by decide)) (hb.mono (by decide)) h
 match P,hp,hl,es,top,wh with
 | [p],_,hl,es,top,wh =>
  have tp:=top p (by simp)
  obtain ⟨st,bo⟩:=ago (hl p (by simp))
  simp only [List.map_cons,List.map_nil] at es
  rw [akA]
  by_cases hk:okD (bd p)=true
  ·rw [if_pos hk] at tp ⊢
   exact ahl es st bo tp (by rw [ajK]; exact fq (sN p) 1 (uK hk) agG (by decide)) (fun _ z=>by cases z)
  ·rw [if_neg hk] at tp ⊢
   exact adm es st bo tp
 | [p,q],_,hl,es,top,wh =>
  have tp:=top p (by simp)
  have tq:=wh q (by simp)
  obtain ⟨st,bo⟩:=ago (hl p (by simp))
  simp only [List.map_cons,List.map_nil] at es
  rw [akG]
  by_cases hk:okD (bd p)=true
  ·rw [if_pos hk] at tp
   by_cases hq:okD q=true
   ·rw [if_pos hq] at tq
    by_cases hz:vD q=0
    ·rw [if_neg (fun z=>z.2.2 hz)]
     rw [hz] at tq
     exact abJ es st bo tp tq
    ·rw [if_pos ⟨hk,hq,hz⟩]
     exact ahJ es st bo tp tq hz (by rw [ajK]; exact fq (sN p) (vD q) (uK hk) (b60 (ahQ hq)).1 hz) (fun _ z=>by cases z)
   ·rw [if_neg hq] at tq
    rw [if_neg (fun z=>hq z.2.1)]
    exact acq es st bo tp tq
  ·rw [if_neg hk] at tp
   rw [if_neg (fun z=>hk z.1)]
   exact acC es st bo tp
 | p :: q :: r :: t,_,hl,es,top,wh =>
  exact afA es (by simp)
def alv (r:Option (Int × Int)):AV:=match r with
 | some (t,b)=>.pv (.tup ((fr t b).map .int))
 | none=>.pv .non
theorem ab2 {c:Nat}:∀ {P:List (List Nat)} {p:List Nat},p∈P→∀ d∈p,d∈dI c P
 | [q],p,h,d,hd=>by
  have:p=q:=by simpa using h
  rw [← this]; exact hd
 | q :: q' :: r,p,h,d,hd=>by
  show d∈q++c :: dI c (q' :: r)
  rcases List.mem_cons.mp h with rfl | h
  ·exact List.mem_append_left _ hd
  ·exact List.mem_append_right _ (List.mem_cons_of_mem _ (ab2 h d hd))
theorem abD {c:Nat}:∀ {P:List (List Nat)} {p:List Nat},p∈P→p.length≤(dI c P).length
 | [q],p,h=>by
  have:p=q:=by simpa using h
  rw [this]; exact Nat.le_refl _
 | q :: q' :: r,p,h=>by
  show _≤(q++c :: dI c (q' :: r)).length
  rw [List.length_append,List.length_cons]
  rcases List.mem_cons.mp h with rfl | h
  ·omega
  ·have:=abD (c:=c) h
   omega
def dg (m:Nat):List Nat:=(Nat.toDigits 10 m).map Char.toNat
theorem agr (m:Nat):(Str.ofString (toString ((m:Nat):Int)):Str)=tx (dg m):=by
 rw [← nW (Str.ofString (toString ((m:Nat):Int))),PySem.W.KIN.signs_num]
 rfl
theorem jT {m c:Nat} (h:c∈dg m):isD c=true:=by
 obtain ⟨ch,hch,rfl⟩:=List.mem_map.mp h
 have r:=PyProof.Rows.digit_range (Nat.isDigit_of_mem_toDigits (by decide) (by decide) hch)
 unfold isD
 simp [r.1,r.2]
theorem age (m:Nat):vD (dg m)=(m:Int):=by
 unfold vD dg
 rw [PySem.W.KIN.val_back]
theorem ajt (m:Nat):1≤(dg m).length:=by
 unfold dg
 rw [List.length_map]
 exact PySem.toDigits_len_ge 10 m
theorem kT:∀ (k m:Nat),m < 10 ^ (k+1)→(dg m).length≤k+1
 | 0,m,h=>by
  unfold dg
  rw [Nat.toDigits_of_lt_base (by omega)]
  simp
 | k+1,m,h=>by
  by_cases h10:m < 10
  ·unfold dg
   rw [Nat.toDigits_of_lt_base h10]
   simp
  ·have hm:m % 10 < 10:=Nat.mod_lt m (by decide)
   have t:Nat.toDigits 10 (m / 10)++Nat.toDigits 10 (m % 10)=Nat.toDigits 10 (10*(m / 10)+m % 10):=Nat.toDigits_append_toDigits (by decide) (by omega) hm
   rw [Nat.div_add_mod] at t
   have ih:=kT k (m / 10) (by rw [Nat.pow_succ] at h; omega)
   unfold dg at ih ⊢
   rw [← t,Nat.toDigits_of_lt_base hm]
   rw [List.length_map] at ih ⊢
   rw [List.length_append]
   simp
   omega
theorem uH {c:Nat} (h:isD c=true):c < 128∧c≠45∧c≠47:=by
 unfold isD at h
 rw [Bool.and_eq_true,decide_eq_true_eq,decide_eq_true_eq] at h
 omega
theorem akJ {v:Int} (h0:0≤v) (h1:v < 10 ^ 61):jF [.int v]=some (.str (tx (dg v.toNat)))∧(dg v.toNat).length≤61:=by
 obtain ⟨m,rfl⟩:=Int.eq_ofNat_of_zero_le h0
 have hm:m < 10 ^ 61:=by exact_mod_cast h1
 have hl:((m:Int)).natAbs.log2 < 1920:=by
  have e:((m:Int)).natAbs=m:=by omega
  rw [e]
  by_cases hz:m=0
  ·subst hz; decide
  ·refine (Nat.log2_lt hz).mpr (Nat.lt_of_lt_of_le hm ?_)
   decide +kernel
 refine ⟨?_,?_⟩
 ·show (if ((m:Int)).natAbs.log2 < 1920 then some (PV.str (Str.ofString (toString (m:Int)))) else none)=_
  rw [if_pos hl,agr]
  rfl
 ·exact kT 60 m hm
theorem lH (ns:List Int) {m:Int} (hm:0 < m) (b:Bd 8000 m):∃ (v:Int) (ns':List Int),cG [.ref 0,.pv (.int m)] [.lst (li ns)]=.ok (.pv (.int v)) [.lst (li ns')]∧0≤v∧v < m:=by
 obtain ⟨v,n1,e,a,c,_⟩:=nU (S:=[.lst (li ns)]) (k:=0) (ns:=ns) (m:=m) rfl hm b
 exact ⟨v,n1,e,a,c⟩
theorem q20:eD (.int 10) (.int 20)=some (.int 100000000000000000000):=tT (i:=10) (j:=20) ⟨by decide,by decide,by decide⟩
theorem p60:eD (.int 10) (.int 60)=some (.int 1000000000000000000000000000000000000000000000000000000000000):=tT (i:=10) (j:=60) ⟨by decide,by decide,by decide⟩
theorem p61:eD (.int 10) (.int 61)=some (.int 10000000000000000000000000000000000000000000000000000000000000):=tT (i:=10) (j:=61) ⟨by decide,by decide,by decide⟩
def G60:Int:=1000000000000000000000000000000000000000000000000000000000000
theorem agi:G60=10 ^ 60:=by decide +kernel
theorem ai1 {t b:Int} {k:Nat} (hb:0 < b) (ht:Bd k t) (hbb:Bd k b):∃ p q:Int,fr t b=[p,q]∧0 < q∧Bd k p∧Bd k q∧fr p q=[p,q]:=by
 obtain ⟨zs,z,e,Z,_⟩:=qL (n:=1) (L:=[t]) (b:=b) hb rfl (fun x hx=>by
  have:x=t:=by simpa using hx
  rw [this]; exact ht) hbb
 have el:=Z.len
 match zs,el,e,Z with
 | [p],_,e,Z =>
  have e:low [t,b]=[p,z]:=e
  have f1:fr t b=low [t,b]:=if_neg (by omega)
  have zp:=Z.pos
  have f2:fr p z=low [p,z]:=if_neg (by omega)
  refine ⟨p,z,by rw [f1,e],Z.pos,Z.bx p (by simp),Z.bw,?_⟩
  rw [f2]
  exact Z.low
def tN (p:Int):List Nat:=if p < 0 then 45 :: dg p.natAbs else dg p.natAbs
theorem agS (m:Nat):(Str.ofString (toString (Int.negSucc m)):Str)=tx (45 :: dg (m+1)):=by
 rw [← nW (Str.ofString (toString (Int.negSucc m))),PyProof.Rows.signs_ofString]
 have e:toString (Int.negSucc m)="-"++Nat.repr (m+1):=rfl
 rw [e,String.toList_append,List.map_append]
 have e2:(Nat.repr (m+1)).toList=Nat.toDigits 10 (m+1):=Nat.toList_repr
 rw [e2]
 rfl
theorem aiQ {p:Int} (h:p.natAbs < 10 ^ 61):p.natAbs.log2 < 1920:=by
 by_cases hz:p.natAbs=0
 ·rw [hz]; decide
 ·refine (Nat.log2_lt hz).mpr (Nat.lt_of_lt_of_le h ?_)
  decide +kernel
theorem agg {p:Int} (h:p.natAbs < 10 ^ 61):jF [.int p]=some (.str (tx (tN p))):=by
 show (if p.natAbs.log2 < 1920 then some (PV.str (Str.ofString (toString p))) else none)=_
 rw [if_pos (aiQ h)]
 unfold tN
 cases p with
 | ofNat m =>
  rw [if_neg (by exact Int.not_lt.mpr (Int.natCast_nonneg m))]
  exact congrArg (fun x=>some (PV.str x)) (agr m)
 | negSucc m =>
  rw [if_pos (Int.negSucc_lt_zero m)]
  exact congrArg (fun x=>some (PV.str x)) (agS m)
theorem aed (p:Int):aN [.int p]=some (.int ((p.natAbs:Nat):Int)):=by
 show some (PV.int (if p < 0 then -p else p))=_
 congr 2
 split <;> omega
theorem g60 (n:Nat):(10 ^ 60≤n)↔G60≤(n:Int):=by
 rw [agi]
 constructor
 ·intro h; exact_mod_cast h
 ·intro h; exact_mod_cast h
theorem akZ:eD (.int 10) (.int 60)=some (.int G60):=p60
theorem abS (S:Sto) (p:Int):lI [.pv (.int p)] S=if G60≤((p.natAbs:Nat):Int) then .exc "TooGreat" S else .ok (.pv (.str (tx (dg p.natAbs)))) S:=by
 have ab:=aed p
 have es:¬ G60≤((p.natAbs:Nat):Int)→jF [.int ((p.natAbs:Nat):Int)]=some (.str (tx (dg p.natAbs))):=fun h=>by
  have h2:p.natAbs < 10 ^ 60:=Nat.lt_of_not_le fun z=>h ((g60 p.natAbs).mp z)
  have:=akJ (v:=((p.natAbs:Nat):Int)) (by omega) (by
   have:p.natAbs < 10 ^ 61:=Nat.lt_trans h2 (by decide +kernel)
   exact_mod_cast this)
  exact this.1
 have q:=akZ
 unfold lI fnM
 unfold mQ
 generalize G60=G at *
 generalize tx (dg p.natAbs)=T at *
 generalize ((p.natAbs:Nat):Int)=A at *
 have eAbs:∀ xs,aN xs=aN xs:=fun _=>rfl
 by_cases h:G≤A
 ·simp [EC,aJ,aK,fIx,atI,ixN,fEq,fNe,eqN,aO,aQ,aP,aR,aG,aU,frz,aL,ab,q,h,kU]
 ·have es:=es h
  simp [EC,aJ,aK,fIx,atI,ixN,fEq,fNe,eqN,aO,aQ,aP,aR,aG,aU,frz,aL,ab,q,h,es]
def txt (p q:Int):List Nat:=if q=1 then tN p else tN p++47 :: dg q.natAbs
theorem zU {p:Int} (h:p.natAbs < 10 ^ 60):(tN p).length≤61:=by
 have:=kT 59 p.natAbs h
 unfold tN
 split
 ·rw [List.length_cons]; omega
 ·omega
theorem iC {p:Int} (h:¬ G60≤((p.natAbs:Nat):Int)):p.natAbs < 10 ^ 60:=Nat.lt_of_not_le fun z=>h ((g60 p.natAbs).mp z)
theorem zH {A B:List Nat} (h:A.length+B.length≤10000):iO (.str (tx A)) (.str (tx B))=some (.str (tx (A++B))):=by
 show (if (tx A).length+(tx B).length≤16777216 then some (PV.str (tx A++tx B)) else none)=_
 rw [if_pos (by rw [eB,eB]; omega),qR]
theorem tZ {p q:Int} (hp:p.natAbs < 10 ^ 60) (hq:q.natAbs < 10 ^ 60):iO (.str "-") (.str (tx (dg p.natAbs)))=some (.str (tx (45 :: dg p.natAbs)))∧iO (.str (tx (tN p))) (.str "/")=some (.str (tx (tN p++[47])))∧iO (.str (tx (tN p++[47]))) (.str (tx (dg q.natAbs)))=some (.str (tx (tN p++47 :: dg q.natAbs))):=by
 have l1:=zU hp
 have l2:=kT 59 p.natAbs hp
 have l3:=kT 59 q.natAbs hq
 refine ⟨?_,?_,?_⟩
 ·rw [aeu,zH (by simp; omega)]
  rfl
 ·rw [adW,zH (by simp; omega)]
 ·rw [zH (by simp; omega),List.append_assoc]
  rfl
theorem aft (S:Sto) {p q:Int}:gH [.pv (.tup [.int p,.int q])] S=if G60≤((p.natAbs:Nat):Int)∨(q≠1∧G60≤((q.natAbs:Nat):Int)) then .exc "TooGreat" S else .ok (.pv (.str (tx (txt p q)))) S:=by
 have e1:=abS S p
 have e2:=abS S q
 by_cases hp:G60≤((p.natAbs:Nat):Int)
 ·rw [if_pos hp] at e1
  rw [if_pos (.inl hp)]
  unfold gH fnM kE
  simp [EC,aN,aJ,aK,fIx,atI,ixN,fEq,fNe,eqN,aO,aQ,aP,aR,aG,aU,frz,aL,e1]
 ·rw [if_neg hp] at e1
  by_cases h1:q=1
  ·subst h1
   rw [if_neg (fun z=>z.elim hp fun z=>z.1 rfl)]
   obtain ⟨a1,_,_⟩:=tZ (p:=p) (q:=1) (iC hp) (by decide +kernel)
   unfold txt tN gH fnM kE
   rw [if_pos rfl]
   by_cases hn:p < 0
   ·rw [if_pos hn]
    generalize tx (dg p.natAbs)=T at *
    generalize tx (45 :: dg p.natAbs)=T2 at *
    simp [EC,aN,aJ,aK,fIx,atI,ixN,fEq,fNe,eqN,aO,aQ,aP,aR,aG,aU,frz,aL,e1,hn,a1]
   ·rw [if_neg hn]
    generalize tx (dg p.natAbs)=T at *
    simp [EC,aN,aJ,aK,fIx,atI,ixN,fEq,fNe,eqN,aO,aQ,aP,aR,aG,aU,frz,aL,e1,hn]
  ·have h1':(q == 1)=false:=by simpa using h1
   by_cases hq:G60≤((q.natAbs:Nat):Int)
   ·rw [if_pos hq] at e2
    rw [if_pos (.inr ⟨h1,hq⟩)]
    obtain ⟨a1,a2,_⟩:=tZ (p:=p) (q:=1) (iC hp) (by decide +kernel)
    unfold gH fnM kE
    unfold tN at a2
    by_cases hn:p < 0
    ·rw [if_pos hn] at a2
     generalize tx (dg p.natAbs)=T at *
     generalize tx (45 :: dg p.natAbs)=T2 at *
     generalize tx (45 :: dg p.natAbs++[47])=T3 at *
     simp [EC,aN,aJ,aK,fIx,atI,ixN,fEq,fNe,eqN,aO,aQ,aP,aR,aG,aU,frz,aL,e1,hn,a1,h1',a2,e2]
    ·rw [if_neg hn] at a2
     generalize tx (dg p.natAbs)=T at *
     generalize tx (dg p.natAbs++[47])=T3 at *
     simp [EC,aN,aJ,aK,fIx,atI,ixN,fEq,fNe,eqN,aO,aQ,aP,aR,aG,aU,frz,aL,e1,hn,h1',a2,e2]
   ·rw [if_neg hq] at e2
    rw [if_neg (fun z=>z.elim hp fun z=>hq z.2)]
    obtain ⟨a1,a2,a3⟩:=tZ (p:=p) (q:=q) (iC hp) (iC hq)
    unfold gH fnM kE txt
    rw [if_neg h1]
    unfold tN at a2 a3 ⊢
    by_cases hn:p < 0
    ·rw [if_pos hn] at a2 a3 ⊢
     generalize tx (45 :: dg p.natAbs++47 :: dg q.natAbs)=T4 at *
     generalize tx (45 :: dg p.natAbs++[47])=T3 at *
     generalize tx (45 :: dg p.natAbs)=T2 at *
     generalize tx (dg p.natAbs)=T at *
     generalize tx (dg q.natAbs)=U at *
     simp [EC,aN,aJ,aK,fIx,atI,ixN,fEq,fNe,eqN,aO,aQ,aP,aR,aG,aU,frz,aL,e1,hn,a1,h1',a2,e2,a3]
    ·rw [if_neg hn] at a2 a3 ⊢
     generalize tx (dg p.natAbs++47 :: dg q.natAbs)=T4 at *
     generalize tx (dg p.natAbs++[47])=T3 at *
     generalize tx (dg p.natAbs)=T at *
     generalize tx (dg q.natAbs)=U at *
     simp [EC,aN,aJ,aK,fIx,atI,ixN,fEq,fNe,eqN,aO,aQ,aP,aR,aG,aU,frz,aL,e1,hn,h1',a2,e2,a3]
theorem ado {q:Int} (h0:0 < q) (h:q.natAbs < 10 ^ 60):jF [.int q]=some (.str (tx (dg q.natAbs))):=by
 have:=agg (p:=q) (Nat.lt_trans h (by decide +kernel))
 unfold tN at this
 rw [if_neg (by omega)] at this
 exact this
theorem adp (S:Sto) {t b p q:Int} (ef:nT [.pv (.int t),.pv (.int b)] S=.ok (.pv (.tup [.int p,.int q])) S) (hq:0 < q):iX [.pv (.int t),.pv (.int b)] S=.ok (if G60≤((p.natAbs:Nat):Int)∨(q≠1∧G60≤((q.natAbs:Nat):Int)) then .pv .non else .pv (.str (tx (txt p q)))) S:=by
 have ab:=aed p
 have q6:=akZ
 have qa:((q.natAbs:Nat):Int)=q:=by omega
 by_cases hp:G60≤((p.natAbs:Nat):Int)
 ·rw [if_pos (.inl hp)]
  unfold iX fnM
  unfold pR
  generalize G60=G at *
  generalize ((p.natAbs:Nat):Int)=A at *
  simp [EC,aJ,aK,fIx,atI,ixN,fEq,fNe,eqN,aO,aQ,aP,aR,aG,aU,frz,aL,pI,gT,dM,fN,gN,ef,ab,q6,hp]
 ·have s1:=agg (p:=p) (Nat.lt_trans (iC hp) (by decide +kernel))
  by_cases hg:G60≤((q.natAbs:Nat):Int)
  ·have h1:q≠1:=fun z=>by
    rw [z] at hg
    exact absurd hg (by rw [agi]; decide +kernel)
   rw [if_pos (.inr ⟨h1,hg⟩)]
   rw [qa] at hg
   unfold iX fnM
   unfold pR
   generalize G60=G at *
   generalize ((p.natAbs:Nat):Int)=A at *
   simp [EC,aJ,aK,fIx,atI,ixN,fEq,fNe,eqN,aO,aQ,aP,aR,aG,aU,frz,aL,pI,gT,dM,fN,gN,ef,ab,q6,hp,hg]
  ·rw [if_neg (fun z=>z.elim hp fun z=>hg z.2)]
   have s2:=ado hq (iC hg)
   obtain ⟨_,a2,a3⟩:=tZ (p:=p) (q:=q) (iC hp) (iC hg)
   rw [qa] at hg
   unfold iX fnM txt
   unfold pR
   by_cases h1:q=1
   ·subst h1
    rw [if_pos rfl]
    generalize G60=G at *
    generalize ((p.natAbs:Nat):Int)=A at *
    generalize tx (tN p)=T at *
    simp [EC,aJ,aK,fIx,atI,ixN,fEq,fNe,eqN,aO,aQ,aP,aR,aG,aU,frz,aL,pI,gT,dM,fN,gN,ef,ab,q6,hp,hg,s1]
   ·rw [if_neg h1]
    have h1':(q == 1)=false:=by simpa using h1
    generalize G60=G at *
    generalize ((p.natAbs:Nat):Int)=A at *
    generalize tx (tN p++47 :: dg q.natAbs)=T4 at *
    generalize tx (tN p++[47])=T3 at *
    generalize tx (tN p)=T at *
    generalize tx (dg q.natAbs)=U at *
    simp [EC,aJ,aK,fIx,atI,ixN,fEq,fNe,eqN,aO,aQ,aP,aR,aG,aU,frz,aL,pI,gT,dM,fN,gN,ef,ab,q6,hp,hg,h1',s1,a2,s2,a3]
theorem zN {m:Nat} (h:m < 10 ^ 60):okD (dg m)=true:=by
 have a:=ajt m
 have b:=kT 59 m h
 unfold okD
 have c:(dg m).all isD=true:=List.all_eq_true.mpr fun x hx=>jT hx
 rw [c]
 simp [a,b]
theorem ah3 (p:Int):bd (tN p)=dg p.natAbs∧(((tN p).head?=some 45)↔p < 0):=by
 have hd:(dg p.natAbs).head?≠some 45:=fun z=>by
  have:=jT (m:=p.natAbs) (c:=45) (by
   cases h:dg p.natAbs with
   | nil=>rw [h] at z; cases z
   | cons a L=>rw [h] at z; cases z; simp)
  exact absurd this (by decide)
 unfold tN bd
 by_cases h:p < 0
 ·rw [if_pos h]
  simp [h]
 ·rw [if_neg h]
  exact ⟨if_neg hd,fun z=>absurd z hd,fun z=>absurd z h⟩
theorem aiC (p:Int):sN (tN p)=p:=by
 obtain ⟨a,b⟩:=ah3 p
 unfold sN
 rw [a,age]
 by_cases h:p < 0
 ·rw [if_pos (b.mpr h)]; omega
 ·rw [if_neg (fun z=>h (b.mp z))]; omega
theorem aeC (p:Int):(∀ c∈tN p,c < 128)∧47 ∉ tN p:=by
 have d:∀ c∈dg p.natAbs,c < 128∧c≠45∧c≠47:=fun c hc=>uH (jT hc)
 unfold tN
 split
 ·refine ⟨fun c hc=>?_,fun z=>?_⟩
  ·rcases List.mem_cons.mp hc with rfl | hc
   ·decide
   ·exact (d c hc).1
  ·rcases List.mem_cons.mp z with z | z
   ·cases z
   ·exact (d 47 z).2.2 rfl
 ·exact ⟨fun c hc=>(d c hc).1,fun z=>(d 47 z).2.2 rfl⟩
theorem afM (S:Sto) {p q:Int} (hp:p.natAbs < 10 ^ 60) (hq:q.natAbs < 10 ^ 60) (h0:0 < q) (ef:fr p q=[p,q]):dO [.pv (.str (tx (txt p q)))] S=.ok (.pv (.tup [.int p,.int q])) S:=by
 obtain ⟨P,es,hf,hi,hne⟩:=zW (txt p q) 47
 obtain ⟨f1,f2⟩:=aeC p
 have l1:=zU hp
 have l3:=kT 59 q.natAbs hq
 have fd:(∀ c∈dg q.natAbs,c < 128)∧47 ∉ dg q.natAbs:=⟨fun c hc=>(uH (jT hc)).1,fun z=>(uH (jT z)).2.2 rfl⟩
 by_cases h1:q=1
 ·subst h1
  have eP:P=[tN p]:=sR hne (by simp) hf (by simpa using f2) (by rw [hi]; rfl)
  subst eP
  rw [xS S es hne (by simpa using f1) (by simpa using Nat.le_trans l1 (by decide)) (by show (tN p).length≤10000; omega),akA,if_pos (by rw [(ah3 p).1]; exact zN hp),aiC]
  show Res.ok (AV.pv (.tup ((fr p 1).map .int))) S=_
  rw [ef]
  rfl
 ·have et:txt p q=tN p++47 :: dg q.natAbs:=if_neg h1
  have eP:P=[tN p,dg q.natAbs]:=sR hne (by simp) hf (by
   intro x hx
   have:x=tN p∨x=dg q.natAbs:=by simpa using hx
   rcases this with rfl | rfl
   ·exact f2
   ·exact fd.2) (by rw [hi,et]; rfl)
  subst eP
  have qv:vD (dg q.natAbs)=q:=by rw [age]; omega
  rw [xS S es hne (fun x hx=>by
   have:x=tN p∨x=dg q.natAbs:=by simpa using hx
   rcases this with rfl | rfl
   ·exact f1
   ·exact fd.1) (fun x hx=>by
   have:x=tN p∨x=dg q.natAbs:=by simpa using hx
   rcases this with rfl | rfl <;> omega) (by rw [et,List.length_append,List.length_cons]; omega),akG,if_pos ⟨by rw [(ah3 p).1]; exact zN hp,zN hq,by rw [qv]; omega⟩,aiC,qv]
  show Res.ok (AV.pv (.tup ((fr p q).map .int))) S=_
  rw [ef]
  rfl
theorem aei {g:GM} {me:ME} {ρ:Rho} {S:Sto}:eU [] g me [] ρ S=.ok [] S:=by
 unfold eU
 rw [if_pos (gL S)]
theorem aba {g:GM} {me:ME} {x:PV} {r:List PV} {ρ:Rho} {S:Sto}:eU [] g me (x :: r) ρ S=(match g x ρ with
  | none=>.fail
  | some ρ1=>match me ρ1 S with
   | .ok (.pv y) S1=>match eU [] g me r ρ1 S1 with
    | .ok ys S2=>.ok (y :: ys) S2
    | .exc n S2=>.exc n S2
    | .fail=>.fail
   | .ok (.ref _) _=>.fail
   | .exc n S1=>.exc n S1
   | .fail=>.fail):=by
 conv=>lhs; unfold eU
 rw [if_pos (gL S)]
 all_goals (rcases g x ρ with _ | ρ1 <;> dsimp only <;> first | rfl | (rcases me ρ1 S with ⟨a,S1⟩ | ⟨n,S1⟩ | _ <;> first | rfl | (cases a <;> rfl)))
theorem kK {S:Sto} {me:ME} {tail:Rho} {α:Type} (A B:α→PV):∀ (L:List α) (x:Option AV),(∀ v∈L,me (some (.pv (A v)) :: tail) S=.ok (.pv (B v)) S)→eU [] (gN 0) me (L.map A) (x :: tail) S=.ok (L.map B) S
 | [],x,_=>aei
 | v :: L,x,h=>by
  have e:=h v List.mem_cons_self
  have e':=kK A B L (some (.pv (A v))) fun u hu=>h u (List.mem_cons_of_mem _ hu)
  rw [List.map_cons,aba]
  simp [gN,e,e']
theorem yP:(" ":Str)=tx [32]:=by kernel_rfl
def pT (w x:Int):Int:=(fr x w).getD 0 0
def pB (w x:Int):Int:=(fr x w).getD 1 0
theorem rC {k:Nat} {w x:Int} (hw:0 < w) (bw:Bd k w) (bx:Bd k x):fr x w=[pT w x,pB w x]∧0 < pB w x∧Bd k (pT w x)∧Bd k (pB w x)∧fr (pT w x) (pB w x)=[pT w x,pB w x]:=by
 obtain ⟨p,q,e,a,b,c,d⟩:=ai1 hw bx bw
 have e1:pT w x=p:=by unfold pT; rw [e]; rfl
 have e2:pB w x=q:=by unfold pB; rw [e]; rfl
 rw [e1,e2]
 exact ⟨e,a,b,c,d⟩
def GR (w x:Int):Prop:=G60≤(((pT w x).natAbs:Nat):Int)∨(pB w x≠1∧G60≤(((pB w x).natAbs:Nat):Int))
def mT (w x:Int):List Nat:=txt (pT w x) (pB w x)
theorem oP {w x:Int} (h:¬ GR w x):(mT w x).length≤130:=by
 have h1:=zU (iC fun z=>h (.inl z))
 unfold mT txt
 split
 ·omega
 ·rename_i hq
  have h2:=kT 59 _ (iC (p:=pB w x) fun z=>h (.inr ⟨hq,z⟩))
  rw [List.length_append,List.length_cons]
  omega
theorem zD {w x:Int}:(∀ c∈mT w x,c < 128)∧32 ∉ mT w x:=by
 obtain ⟨a,b⟩:=aeC (pT w x)
 have a2:32 ∉ tN (pT w x):=fun z=>by
  have d:∀ c∈dg (pT w x).natAbs,isD c=true:=fun c hc=>jT hc
  unfold tN at z
  split at z
  ·rcases List.mem_cons.mp z with z | z
   ·cases z
   ·exact absurd (d 32 z) (by decide)
  ·exact absurd (d 32 z) (by decide)
 unfold mT txt
 split
 ·exact ⟨a,a2⟩
 ·refine ⟨fun c hc=>?_,fun z=>?_⟩
  ·rcases List.mem_append.mp hc with z | z
   ·exact a c z
   ·rcases List.mem_cons.mp z with rfl | z
    ·decide
    ·exact (uH (jT z)).1
  ·rcases List.mem_append.mp z with z | z
   ·exact a2 z
   ·rcases List.mem_cons.mp z with z | z
    ·cases z
    ·exact absurd (jT z) (by decide)
theorem sI {S:Sto} {me:ME} {tail:Rho} {α:Type} (A B:α→PV) (bad:α→Prop) (n:Str):∀ (L:List α) (x:Option AV),(∀ v∈L,(bad v→me (some (.pv (A v)) :: tail) S=.exc n S)∧(¬ bad v→me (some (.pv (A v)) :: tail) S=.ok (.pv (B v)) S))→(∃ v∈L,bad v)→eU [] (gN 0) me (L.map A) (x :: tail) S=.exc n S
 | [],x,_,h=>by obtain ⟨v,hv,_⟩:=h; cases hv
 | v :: L,x,h,hb=>by
  obtain ⟨a,b⟩:=h v List.mem_cons_self
  rw [List.map_cons,aba]
  by_cases hv:bad v
  ·simp [gN,a hv]
  ·have:∃ u∈L,bad u:=by
    obtain ⟨u,hu,z⟩:=hb
    rcases List.mem_cons.mp hu with rfl | hu
    ·exact absurd z hv
    ·exact ⟨u,hu,z⟩
   have e':=sI A B bad n L (some (.pv (A v))) (fun u hu=>h u (List.mem_cons_of_mem _ hu)) this
   simp [gN,b hv,e']
theorem abb:∀ Ls:List (List Nat),jU (Ls.map fun l=>PV.str (tx l))=some (Ls.map tx)
 | []=>rfl
 | l :: Ls=>by
  show (match jU (Ls.map fun l=>PV.str (tx l)) with | some xs=>some (tx l :: xs) | none=>none)=_
  rw [abb Ls]
  rfl
def jn (s:List Nat):List (List Nat)→List Nat
 | []=>[]
 | [p]=>p
 | p :: q :: r=>p++(s++jn s (q :: r))
theorem aeX (s:List Nat):∀ P:List (List Nat),Str.join (tx s) (P.map tx)=tx (jn s P)
 | []=>rfl
 | [p]=>rfl
 | p :: q :: r=>by
  show tx p++tx s++Str.join (tx s) ((q :: r).map tx)=tx (p++(s++jn s (q :: r)))
  rw [aeX s (q :: r),qR,qR,List.append_assoc]
open Classical in
def wv {α:Type} (bad:α→Prop) (T:α→List Nat) (a:α):PV:=if bad a then .non else .str (tx (T a))
theorem zQ {α:Type} {bad:α→Prop} {T:α→List Nat} {xs:List α}:((∃ x∈xs,bad x)→(xs.map (wv bad T)).any pD=true)∧((∀ x∈xs,¬ bad x)→(xs.map (wv bad T)).any pD=false∧xs.map (wv bad T)=xs.map fun x=>.str (tx (T x))):=by
 refine ⟨fun ⟨x,hx,h⟩=>List.any_eq_true.mpr ⟨wv bad T x,List.mem_map.mpr ⟨x,hx,rfl⟩,?_⟩,fun h=>?_⟩
 ·unfold wv
  rw [if_pos h]
  rfl
 ·have e:xs.map (wv bad T)=xs.map fun x=>.str (tx (T x)):=List.map_congr_left fun x hx=>if_neg (h x hx)
  refine ⟨?_,e⟩
  rw [e,List.any_map]
  exact List.any_eq_false.mpr fun x hx=>by simp [pD]
theorem qS {s:List Nat} {Ls:List (List Nat)} {B:Nat} (hs:s.length≤9) (hB:∀ l∈Ls,l.length≤B) (hn:Ls.length≤200) (hb:B≤20000):iA (tx s) [.lst (Ls.map fun l=>.str (tx l))]=some (.str (tx (jn s Ls))):=by
 have ok:JoinOk (tx s) (Ls.map tx)=true:=by
  unfold JoinOk
  rw [StrLaws.joinFits (B:=B) (fun y hy=>by
   obtain ⟨l,hl,rfl⟩:=List.mem_map.mp hy
   rw [eB]; exact hB l hl) (by
   rw [List.length_map,eB]
   have h1:Ls.length*B≤200*20000:=Nat.mul_le_mul hn hb
   have h2:Ls.length*s.length≤200*9:=Nat.mul_le_mul hn hs
   show Ls.length*B+Ls.length*s.length≤16777216
   omega)]
  rfl
 show (match jU (Ls.map fun l=>PV.str (tx l)) with | some ts=>if JoinOk (tx s) ts=true then some (PV.str (Txt.join (tx s) ts)) else none | none=>none)=_
 rw [abb]
 dsimp only
 rw [if_pos ok]
 have:Txt.join (tx s) (Ls.map tx)=tx (jn s Ls):=by
  show Builtin.Str.glued (tx s) (Ls.map tx)=_
  rw [StrLaws.glued_eq_join,aeX]
 rw [this]
theorem tH (c:Nat):∀ P:List (List Nat),dI c P=jn [c] P
 | []=>rfl
 | [p]=>rfl
 | p :: q :: r=>by
  show p++c :: dI c (q :: r)=p++([c]++jn [c] (q :: r))
  rw [tH c (q :: r)]
  rfl
theorem vE {s:List Nat} {B:Nat}:∀ {P:List (List Nat)},(∀ p∈P,p.length≤B)→(jn s P).length≤P.length*(B+s.length)
 | [],_=>Nat.zero_le _
 | [p],h=>by
  have:=h p (by simp)
  show p.length≤1*(B+s.length)
  omega
 | p :: q :: r,h=>by
  have h1:=h p (by simp)
  have h2:=vE (s:=s) (P:=q :: r) fun x hx=>h x (List.mem_cons_of_mem _ hx)
  show (p++(s++jn s (q :: r))).length≤_
  rw [List.length_append,List.length_append]
  have:(p :: q :: r).length*(B+s.length)=(q :: r).length*(B+s.length)+(B+s.length):=by
   rw [List.length_cons (as:=q :: r),Nat.succ_mul]
  omega
theorem aeO {c:Nat} {Ls:List (List Nat)} {B:Nat} (hB:∀ l∈Ls,l.length≤B) (hn:Ls.length≤200) (hb:B≤20000):iA (tx [c]) [.lst (Ls.map fun l=>.str (tx l))]=some (.str (tx (dI c Ls))):=by
 rw [tH]
 exact qS (show 1≤9 by decide) hB hn hb
theorem aiX {n k:Nat} (S:Sto) {xs:List Int} {w:Int} (P:Pq n k xs w) (hk:k≤1000):pU [.pv (tv (xs++[w]))] S=.ok (.pv (.tup (xs.map fun x=>.tup [.int (pT w x),.int (pB w x)]))) S:=by
 have e1:=tG xs w
 have e2:=lO xs w
 have e:bT [] (gN 0) (bW gS [] (aB (aA 0) (aB (aC fIx (aA 1) (mUn cV (mC (.int 1)))) aE))) (xs.map .int) [none,some (.pv (tv (xs++[w])))] S=.ok (xs.map fun x=>.tup [.int (pT w x),.int (pB w x)]) S:=by
  refine jN (gL S) PV.int (fun x=>.tup [.int (pT w x),.int (pB w x)]) xs none fun x hx=>?_
  have f:=aaR x w S ((P.bx x hx).mono (by omega)) (P.bw.mono (by omega)) (by have:=P.pos; omega)
  rw [(rC P.pos P.bw (P.bx x hx)).1] at f
  simp only [List.map_cons,List.map_nil] at f
  show _=Res.ok (AV.pv (.tup [.int (pT w x),.int (pB w x)])) S
  have e2:fIx (tv (xs++[w])) (.int (-1))=some (.int w):=e2
  generalize tv (xs++[w])=TV at *
  generalize pT w x=p at *
  generalize pB w x=q at *
  simp [EC,aN,aJ,aK,fEq,fNe,cR,aO,aQ,aP,aR,aG,aU,frz,aL,e2,f]
 unfold pU fnM
 unfold xC
 have e1:fSl (tv (xs++[w])) none (some (-1))=some (.tup (xs.map .int)):=e1
 generalize (bW gS [] (aB (aA 0) (aB (aC fIx (aA 1) (mUn cV (mC (.int 1)))) aE)))=ME1 at *
 generalize tv (xs++[w])=TV at *
 generalize (xs.map fun x=>PV.tup [.int (pT w x),.int (pB w x)])=ML at *
 simp [EC,aN,aJ,aK,fEq,fNe,cR,aO,aQ,aP,aR,aG,aU,frz,aL,bJ,bR,mIt,bV,mSl,mO0,mO1,dG,e1,e]
theorem afz {n k:Nat} (S:Sto) {xs:List Int} {w:Int} (P:Pq n k xs w) (hk:k≤1000) (hn:n≤3):((∃ x∈xs,GR w x)→gI [.pv (tv (xs++[w]))] S=.exc "TooGreat" S)∧((∀ x∈xs,¬ GR w x)→gI [.pv (tv (xs++[w]))] S=.ok (.pv (.str (tx (dI 32 (xs.map (mT w)))))) S):=by
 have em:=aiX S P hk
 have step:∀ x∈xs,(GR w x→(bW gH [] (aB (aA 0) aE)) (some (.pv (.tup [.int (pT w x),.int (pB w x)])) :: []) S=.exc "TooGreat" S)∧(¬ GR w x→(bW gH [] (aB (aA 0) aE)) (some (.pv (.tup [.int (pT w x),.int (pB w x)])) :: []) S=.ok (.pv (.str (tx (mT w x)))) S):=fun x hx=>by
  have e:=aft S (p:=pT w x) (q:=pB w x)
  refine ⟨fun h=>?_,fun h=>?_⟩
  ·unfold GR at h
   rw [if_pos h] at e
   simp [EC,aN,aJ,aK,fIx,atI,ixN,fEq,fNe,eqN,aO,aQ,aP,aR,aG,aU,frz,aL,e]
  ·unfold GR at h
   rw [if_neg h] at e
   have e:gH [.pv (.tup [.int (pT w x),.int (pB w x)])] S=.ok (.pv (.str (tx (mT w x)))) S:=e
   generalize tx (mT w x)=T at *
   simp [EC,aN,aJ,aK,fIx,atI,ixN,fEq,fNe,eqN,aO,aQ,aP,aR,aG,aU,frz,aL,e]
 refine ⟨fun h=>?_,fun h=>?_⟩
 ·have ec:=sI (fun x=>.tup [.int (pT w x),.int (pB w x)]) (fun x=>.str (tx (mT w x))) (GR w) "TooGreat" xs none step h
  unfold gI fnM
  unfold mU
  generalize (bW gH [] (aB (aA 0) aE))=ME1 at *
  generalize (xs.map fun x=>PV.tup [.int (pT w x),.int (pB w x)])=ML at *
  generalize tv (xs++[w])=TV at *
  simp [EC,aN,aJ,aK,fIx,atI,ixN,fEq,fNe,eqN,aO,aQ,aP,aR,aG,aU,frz,aL,fZ,dC,dZ,bR,mIt,bV,em,ec]
 ·have ec:=kK (fun x=>.tup [.int (pT w x),.int (pB w x)]) (fun x=>PV.str (tx (mT w x))) xs none fun x hx=>(step x hx).2 (h x hx)
  have ej:=aeO (c:=32) (Ls:=xs.map (mT w)) (B:=130) (fun l hl=>by
   obtain ⟨x,hx,rfl⟩:=List.mem_map.mp hl
   exact oP (h x hx)) (by rw [List.length_map,P.len]; omega) (by decide)
  rw [List.map_map,← yP] at ej
  have ej:iA " " [.lst (xs.map fun x=>.str (tx (mT w x)))]=some (.str (tx (dI 32 (xs.map (mT w))))):=ej
  unfold gI fnM
  unfold mU
  generalize (bW gH [] (aB (aA 0) aE))=ME1 at *
  generalize (xs.map fun x=>PV.str (tx (mT w x)))=SL at *
  generalize (xs.map fun x=>PV.tup [.int (pT w x),.int (pB w x)])=ML at *
  generalize tx (dI 32 (xs.map (mT w)))=TT at *
  generalize tv (xs++[w])=TV at *
  simp [EC,aN,aJ,aK,fIx,atI,ixN,fEq,fNe,eqN,aO,aQ,aP,aR,aG,aU,frz,aL,fZ,dC,dZ,bR,mIt,bV,em,ec,ej]
theorem afs {n k:Nat} (S:Sto) {xs:List Int} {w:Int} (P:Pq n k xs w) (hk:k≤1000) (hn:n≤3):((∃ x∈xs,GR w x)→iD [.pv (tv (xs++[w]))] S=.ok (.pv .non) S)∧((∀ x∈xs,¬ GR w x)→iD [.pv (tv (xs++[w]))] S=.ok (.pv (.str (tx (dI 32 (xs.map (mT w)))))) S):=by
 have e1:fSl (tv (xs++[w])) none (some (-1))=some (.tup (xs.map .int)):=tG xs w
 have e2:fIx (tv (xs++[w])) (.int (-1))=some (.int w):=lO xs w
 have ec:bT [] (gN 0) (aY iX [] (aB (aA 0) (aB (aC fIx (aA 1) (mUn cV (mC (.int 1)))) aE))) (xs.map .int) [none,some (.pv (tv (xs++[w])))] S=.ok (xs.map (wv (GR w) (mT w))) S:=by
  refine jN (gL S) PV.int (wv (GR w) (mT w)) xs none fun x hx=>?_
  obtain ⟨f,q0,_⟩:=rC P.pos P.bw (P.bx x hx)
  have ef:=ahk x w S ((P.bx x hx).mono (by omega)) (P.bw.mono (by omega))
  rw [f] at ef
  have ew:=adp S ef q0
  have:(if G60≤(((pT w x).natAbs:Nat):Int)∨(pB w x≠1∧G60≤(((pB w x).natAbs:Nat):Int)) then AV.pv .non else AV.pv (.str (tx (txt (pT w x) (pB w x)))))=AV.pv (wv (GR w) (mT w) x):=by
   unfold wv GR mT
   split <;> rfl
  rw [this] at ew
  generalize tv (xs++[w])=TV at *
  generalize wv (GR w) (mT w) x=W at *
  simp [EC,aN,aJ,aK,fEq,fNe,cR,aO,aQ,aP,aR,aG,aU,frz,aL,e2,ew]
 obtain ⟨a1,a2⟩:=zQ (bad:=GR w) (T:=mT w) (xs:=xs)
 unfold iD fnM
 unfold wD
 refine ⟨fun h=>?_,fun h=>?_⟩
 ·have a1:=a1 h
  generalize (aY iX [] (aB (aA 0) (aB (aC fIx (aA 1) (mUn cV (mC (.int 1)))) aE)))=ME1 at *
  generalize xs.map (wv (GR w) (mT w))=WL at *
  generalize tv (xs++[w])=TV at *
  simp [EC,aN,aJ,aK,fEq,fNe,cR,aO,aQ,aP,aR,aG,aU,frz,aL,bJ,bR,mIt,bV,mSl,mO0,mO1,dG,e1,ec,iR,a1]
 ·obtain ⟨a2,a3⟩:=a2 h
  have ej:=aeO (c:=32) (Ls:=xs.map (mT w)) (B:=130) (fun l hl=>by
   obtain ⟨x,hx,rfl⟩:=List.mem_map.mp hl
   exact oP (h x hx)) (by rw [List.length_map,P.len]; omega) (by decide)
  rw [List.map_map,← yP] at ej
  have ej:iA " " [.lst (xs.map fun x=>.str (tx (mT w x)))]=some (.str (tx (dI 32 (xs.map (mT w))))):=ej
  rw [← a3] at ej
  generalize (aY iX [] (aB (aA 0) (aB (aC fIx (aA 1) (mUn cV (mC (.int 1)))) aE)))=ME1 at *
  generalize xs.map (wv (GR w) (mT w))=WL at *
  generalize tx (dI 32 (xs.map (mT w)))=TT at *
  generalize tv (xs++[w])=TV at *
  simp [EC,aN,aJ,aK,fEq,fNe,cR,aO,aQ,aP,aR,aG,aU,frz,aL,bJ,bR,mIt,bV,mSl,mO0,mO1,dG,e1,ec,iR,a2,fZ,dC,ej]
theorem rE {a b:Int} (hb:0 < b) (bb:Bd 1000 b):fM (.int (a*b)) (.int b)=some (.int a):=by
 rw [tJ (i:=a*b) (j:=b) ⟨by omega,bb.mono (by decide)⟩,Int.fdiv_eq_ediv_of_nonneg _ (by omega),Int.mul_ediv_cancel _ (by omega)]
structure Fz (u:Int × Int):Prop where
 pos:0 < u.2
 b1:Bd 300 u.1
 b2:Bd 300 u.2
abbrev fz (u:Int × Int):PV:=.tup [.int u.1,.int u.2]
def cT:List (Int × Int)→List Int
 | [u,v]=>[u.1*v.2,v.1*u.2]
 | [u,v,t]=>[u.1*(v.2*t.2),v.1*(u.2*t.2),t.1*(u.2*v.2)]
 | _=>[]
def cB:List (Int × Int)→Int
 | [u,v]=>u.2*v.2
 | [u,v,t]=>u.2*v.2*t.2
 | _=>1
theorem b3 {k l:Nat} {a b:Int} (h:Bd k a) (g:Bd l b) (hs:k+l≤1000):Bd 1000 (a*b):=(h.mul g).mono hs
theorem ajl {ab:List (Int × Int)} (hl:ab.length=2∨ab.length=3) (h:∀ u∈ab,Fz u):0 < cB ab∧Bd 1000 (cB ab)∧(cT ab).length=ab.length∧∀ x∈cT ab,Bd 1000 x:=by
 match ab,hl,h with
 | [u,v],_,h =>
  have hu:=h u (by simp)
  have hv:=h v (by simp)
  refine ⟨Int.mul_pos hu.pos hv.pos,b3 hu.b2 hv.b2 (by decide),rfl,fun x hx=>?_⟩
  have:x=u.1*v.2∨x=v.1*u.2:=by simpa [cT] using hx
  rcases this with rfl | rfl
  ·exact b3 hu.b1 hv.b2 (by decide)
  ·exact b3 hv.b1 hu.b2 (by decide)
 | [u,v,t],_,h =>
  have hu:=h u (by simp)
  have hv:=h v (by simp)
  have ht:=h t (by simp)
  refine ⟨Int.mul_pos (Int.mul_pos hu.pos hv.pos) ht.pos,b3 (hu.b2.mul hv.b2) ht.b2 (by decide),rfl,fun x hx=>?_⟩
  have:x=u.1*(v.2*t.2)∨x=v.1*(u.2*t.2)∨x=t.1*(u.2*v.2):=by simpa [cT] using hx
  rcases this with rfl | rfl | rfl
  ·exact b3 hu.b1 (hv.b2.mul ht.b2) (by decide)
  ·exact b3 hv.b1 (hu.b2.mul ht.b2) (by decide)
  ·exact b3 ht.b1 (hu.b2.mul hv.b2) (by decide)
theorem acB (S:Sto) {ab:List (Int × Int)} (hl:ab.length=2∨ab.length=3) (h:∀ u∈ab,Fz u):jL [.pv (.lst (ab.map fz))] S=.ok (.pv (tv (low (cT ab++[cB ab])))) S:=by
 obtain ⟨p0,pb,pl,px⟩:=ajl hl h
 have ep:=afF (w:=.lst ((cT ab).map .int)) (cT ab) (cB ab) S (.inl rfl) (fun x hx=>(px x hx).mono (by decide)) (pb.mono (by decide)) (by omega) (by omega)
 rw [ai4 p0] at ep
 match ab,hl,h,ep with
 | [u,v],_,h,ep =>
  have hu:=h u (by simp)
  have hv:=h v (by simp)
  obtain ⟨a,b⟩:=u
  obtain ⟨c,d⟩:=v
  have m1:bD (.int 1) (.int b)=some (.int b):=by rw [jO (.inl (.inl ⟨by decide,by decide⟩)),Int.one_mul]
  have m2:bD (.int b) (.int d)=some (.int (b*d)):=mBB hu.b2 hv.b2
  have q1:fM (.int (b*d)) (.int b)=some (.int d):=by rw [Int.mul_comm]; exact rE hu.pos (hu.b2.mono (by decide))
  have q2:fM (.int (b*d)) (.int d)=some (.int b):=rE hv.pos (hv.b2.mono (by decide))
  have m3:bD (.int a) (.int d)=some (.int (a*d)):=mBB hu.b1 hv.b2
  have m4:bD (.int c) (.int b)=some (.int (c*b)):=mBB hv.b1 hu.b2
  have ep:lV [.pv (.lst [.int (a*d),.int (c*b)]),.pv (.int (b*d))] S=.ok (.pv (tv (low ([a*d,c*b]++[b*d])))) S:=ep
  show jL [.pv (.lst [.tup [.int a,.int b],.tup [.int c,.int d]])] S=.ok (.pv (tv (low ([a*d,c*b]++[b*d])))) S
  generalize tv (low ([a*d,c*b]++[b*d]))=R at *
  unfold jL fnM sJ
  simp [EC,aN,aJ,aK,fIx,atI,ixN,fEq,fNe,eqN,aO,aQ,aP,aR,aG,aU,frz,aL,dJ,mIt,bV,iV,jM,eN,eG,gN,m1,m2,bJ,bR,q1,q2,m3,m4,ep]
 | [u,v,t],_,h,ep =>
  have hu:=h u (by simp)
  have hv:=h v (by simp)
  have ht:=h t (by simp)
  obtain ⟨a,b⟩:=u
  obtain ⟨c,d⟩:=v
  obtain ⟨e,f⟩:=t
  have m1:bD (.int 1) (.int b)=some (.int b):=by rw [jO (.inl (.inl ⟨by decide,by decide⟩)),Int.one_mul]
  have m2:bD (.int b) (.int d)=some (.int (b*d)):=mBB hu.b2 hv.b2
  have m2':bD (.int (b*d)) (.int f)=some (.int (b*d*f)):=mBB (hu.b2.mul hv.b2) ht.b2
  have q1:fM (.int (b*d*f)) (.int b)=some (.int (d*f)):=by
   rw [show b*d*f=d*f*b by grind]; exact rE hu.pos (hu.b2.mono (by decide))
  have q2:fM (.int (b*d*f)) (.int d)=some (.int (b*f)):=by
   rw [show b*d*f=b*f*d by grind]; exact rE hv.pos (hv.b2.mono (by decide))
  have q3:fM (.int (b*d*f)) (.int f)=some (.int (b*d)):=rE ht.pos (ht.b2.mono (by decide))
  have m3:bD (.int a) (.int (d*f))=some (.int (a*(d*f))):=mBB hu.b1 (hv.b2.mul ht.b2)
  have m4:bD (.int c) (.int (b*f))=some (.int (c*(b*f))):=mBB hv.b1 (hu.b2.mul ht.b2)
  have m5:bD (.int e) (.int (b*d))=some (.int (e*(b*d))):=mBB ht.b1 (hu.b2.mul hv.b2)
  have ep:lV [.pv (.lst [.int (a*(d*f)),.int (c*(b*f)),.int (e*(b*d))]),.pv (.int (b*d*f))] S=.ok (.pv (tv (low ([a*(d*f),c*(b*f),e*(b*d)]++[b*d*f])))) S:=ep
  show jL [.pv (.lst [.tup [.int a,.int b],.tup [.int c,.int d],.tup [.int e,.int f]])] S=.ok (.pv (tv (low ([a*(d*f),c*(b*f),e*(b*d)]++[b*d*f])))) S
  generalize tv (low ([a*(d*f),c*(b*f),e*(b*d)]++[b*d*f]))=R at *
  unfold jL fnM sJ
  simp [EC,aN,aJ,aK,fIx,atI,ixN,fEq,fNe,eqN,aO,aQ,aP,aR,aG,aU,frz,aL,dJ,mIt,bV,iV,jM,eN,eG,gN,m1,m2,m2',bJ,bR,q1,q2,q3,m3,m4,m5,ep]
theorem acr {L:List Nat} {Ps:List (List Nat)} (hs:Txt.split (tx L) (tx [32])=Ps.map tx) (hL:L.length≤9000):fG (tx L) [.str " "]=some (.lst (Ps.map fun p=>.str (tx p))):=by
 rw [yP]
 show (if (tx [32]).length≠0∧(tx L).length+2≤16777216 then some (PV.lst ((Txt.split (tx L) (tx [32])).map .str)) else none)=_
 rw [if_pos ⟨by rw [eB]; decide,by rw [eB]; omega⟩,hs,List.map_map]
 rfl
def rr (p:List Nat):Option (Int × Int):=rdN ((Txt.split (tx p) (tx [47])).map fun x=>x.cps.toList)
theorem aib (S:Sto) {p:List Nat} (ha:∀ c∈p,c < 128) (hl:p.length≤9000):dO [.pv (.str (tx p))] S=akj (rr p) S∧True:=by
 obtain ⟨P,es,hf,hi,hp⟩:=zW p 47
 have e:rr p=rdN P:=by
  unfold rr
  rw [es,List.map_map]
  have:((fun x:Str=>x.cps.toList) ∘ tx)=id:=by
   funext l
   simp [tx]
  rw [this,List.map_id]
 rw [e]
 exact ⟨xS S es hp (fun q h c hc=>ha c (by rw [← hi]; exact ab2 h c hc)) (fun q h=>by have z:=abD (c:=47) h; rw [hi] at z; omega) (by omega),trivial⟩
def rF (p:List Nat):Int × Int:=match rr p with
 | some (t,b)=>(pT b t,pB b t)
 | none=>(0,1)
theorem ajR {p:List Nat} {t b:Int} (h:rr p=some (t,b)):0 < b∧Bd 200 t∧Bd 200 b:=by
 unfold rr at h
 generalize ((Txt.split (tx p) (tx [47])).map fun x=>x.cps.toList)=P at h
 match P,h with
 | [q],h =>
  rw [akA] at h
  split at h
  ·rename_i hk
   cases h
   exact ⟨by decide,uK hk,agG⟩
  ·cases h
 | [q,r],h =>
  rw [akG] at h
  split at h
  ·rename_i hk
   cases h
   have v:=ahQ hk.2.1
   exact ⟨by have:=hk.2.2; omega,uK hk.1,(b60 v).1⟩
  ·cases h
theorem aiH {p:List Nat} (h:rr p≠none):Fz (rF p)∧(∀ S,akj (rr p) S=.ok (.pv (fz (rF p))) S)∧alv (rr p)=.pv (fz (rF p)):=by
 cases e:rr p with
 | none=>exact absurd e h
 | some u =>
  obtain ⟨t,b⟩:=u
  obtain ⟨h0,ht,hb⟩:=ajR e
  obtain ⟨f,q0,b1,b2,_⟩:=rC h0 hb ht
  have er:rF p=(pT b t,pB b t):=by unfold rF; rw [e]
  rw [er]
  refine ⟨⟨q0,b1.mono (by decide),b2.mono (by decide)⟩,fun S=>?_,?_⟩
  ·show Res.ok (AV.pv (.tup ((fr t b).map .int))) S=_
   rw [f]
   rfl
  ·show AV.pv (.tup ((fr t b).map .int))=_
   rw [f]
   rfl
theorem ady (S:Sto) {L:List Nat} {Ps:List (List Nat)} {ab:List Nat→Int × Int} (hs:Txt.split (tx L) (tx [32])=Ps.map tx) (hL:L.length≤9000) (hl:Ps.length=2∨Ps.length=3) (hr:∀ p∈Ps,Fz (ab p)∧dO [.pv (.str (tx p))] S=.ok (.pv (fz (ab p))) S):iT [.pv (.str (tx L))] S=.ok (.pv (tv (low (cT (Ps.map ab)++[cB (Ps.map ab)])))) S:=by
 have es:=acr hs hL
 have rf:=iF S
 have ec:=kK (S:=S) (me:=bW dO [] (aB (aA 0) aE)) (tail:=[]) (fun p=>.str (tx p)) (fun p=>fz (ab p)) Ps none fun p hp=>by
  have e:=(hr p hp).2
  generalize fz (ab p)=F at *
  generalize tx p=T at *
  simp [EC,aN,aJ,aK,fIx,atI,ixN,fEq,fNe,eqN,aO,aQ,aP,aR,aG,aU,frz,aL,e]
 have ep:=acB S (ab:=Ps.map ab) (by rw [List.length_map]; exact hl) fun u hu=>by
  obtain ⟨p,hp,rfl⟩:=List.mem_map.mp hu
  exact (hr p hp).1
 rw [List.map_map] at ep
 have ep:jL [.pv (.lst (Ps.map fun p=>fz (ab p)))] S=.ok (.pv (tv (low (cT (Ps.map ab)++[cB (Ps.map ab)])))) S:=ep
 have ln:((Ps.map fun p=>fz (ab p)).length:Int)=(Ps.length:Int):=by rw [List.length_map]
 unfold iT fnM
 unfold pO
 generalize (bW dO [] (aB (aA 0) aE))=ME1 at *
 generalize tv (low (cT (Ps.map ab)++[cB (Ps.map ab)]))=R at *
 generalize (Ps.map fun p=>PV.str (tx p))=SL at *
 generalize (Ps.map fun p=>fz (ab p))=FL at *
 generalize tx L=TL at *
 rcases hl with h | h
 ·rw [h] at ln
  simp [EC,aN,aJ,aK,fIx,atI,ixN,fEq,fNe,eqN,aO,aQ,aP,aR,aG,aU,frz,aL,dZ,bR,mIt,eF,dC,es,bV,ec,ln,rf,ep]
 ·rw [h] at ln
  simp [EC,aN,aJ,aK,fIx,atI,ixN,fEq,fNe,eqN,aO,aQ,aP,aR,aG,aU,frz,aL,dZ,bR,mIt,eF,dC,es,bV,ec,ln,rf,ep]
theorem afY {k:Nat} {w x:Int} (hw:0 < w) (bw:Bd k w) (bx:Bd k x):pT w x*w=x*pB w x:=by
 obtain ⟨zs,z,e,Z,h⟩:=qL (n:=1) (L:=[x]) (b:=w) hw rfl (fun y hy=>by
  have:y=x:=by simpa using hy
  rw [this]; exact bx) bw
 have el:=Z.len
 match zs,el,e,h with
 | [p],_,e,h =>
  have e:low [x,w]=[p,z]:=e
  have f1:fr x w=[p,z]:=by rw [← e]; exact if_neg (by omega)
  have h0:p*w=x*z:=h 0 (by decide)
  have e1:pT w x=p:=by unfold pT; rw [f1]; rfl
  have e2:pB w x=z:=by unfold pB; rw [f1]; rfl
  rw [e1,e2]
  exact h0
theorem afZ {n k:Nat} {xs:List Int} {w:Int} (hn:n=2∨n=3) (P:Pq n k xs w) (hk:k≤300):(∀ u∈xs.map (fun x=>(pT w x,pB w x)),Fz u)∧low (cT (xs.map fun x=>(pT w x,pB w x))++[cB (xs.map fun x=>(pT w x,pB w x))])=xs++[w]:=by
 have fz1:∀ u∈xs.map (fun x=>(pT w x,pB w x)),Fz u:=fun u hu=>by
  obtain ⟨x,hx,rfl⟩:=List.mem_map.mp hu
  obtain ⟨_,q0,b1,b2,_⟩:=rC P.pos P.bw (P.bx x hx)
  exact ⟨q0,b1.mono hk,b2.mono hk⟩
 refine ⟨fz1,?_⟩
 have cr:∀ x∈xs,pT w x*w=x*pB w x:=fun x hx=>afY P.pos P.bw (P.bx x hx)
 obtain ⟨p0,pb,pl,px⟩:=ajl (ab:=xs.map fun x=>(pT w x,pB w x)) (by rw [List.length_map,P.len]; exact hn) fz1
 obtain ⟨zs,z,e,Z,h⟩:=qL (n:=n) p0 (by rw [pl,List.length_map,P.len]) px pb
 rw [e]
 refine Pq.eq Z P (N:=fun j=>(cT (xs.map fun x=>(pT w x,pB w x))).getD j 0) (D:=cB (xs.map fun x=>(pT w x,pB w x))) h (Vl.self n xs w) p0 P.pos fun j hj=>?_
 have hl:=P.len
 rcases hn with rfl | rfl
 ·match xs,hl,cr with
  | [x,y],_,cr =>
   have c1:=cr x (by simp)
   have c2:=cr y (by simp)
   have:j=0∨j=1:=by omega
   rcases this with rfl | rfl
   ·show pT w x*pB w y*w=x*(pB w x*pB w y)
    grind
   ·show pT w y*pB w x*w=y*(pB w x*pB w y)
    grind
 ·match xs,hl,cr with
  | [x,y,t],_,cr =>
   have c1:=cr x (by simp)
   have c2:=cr y (by simp)
   have c3:=cr t (by simp)
   have:j=0∨j=1∨j=2:=by omega
   rcases this with rfl | rfl | rfl
   ·show pT w x*(pB w y*pB w t)*w=x*(pB w x*pB w y*pB w t)
    grind
   ·show pT w y*(pB w x*pB w t)*w=y*(pB w x*pB w y*pB w t)
    grind
   ·show pT w t*(pB w x*pB w y)*w=t*(pB w x*pB w y*pB w t)
    grind
theorem acE {c B:Nat} {P:List (List Nat)} (h:∀ p∈P,p.length≤B):(dI c P).length≤P.length*(B+1):=by
 rw [tH]
 exact vE h
theorem ai9 {n k:Nat} {xs:List Int} {w x:Int} (P:Pq n k xs w) (hx:x∈xs) (hg:¬ GR w x):rr (mT w x)≠none∧rF (mT w x)=(pT w x,pB w x):=by
 obtain ⟨_,q0,b1,b2,ef⟩:=rC P.pos P.bw (P.bx x hx)
 have hp:(pT w x).natAbs < 10 ^ 60:=iC fun z=>hg (.inl z)
 have hq:(pB w x).natAbs < 10 ^ 60:=by
  by_cases h1:pB w x=1
  ·rw [h1]; decide +kernel
  ·exact iC fun z=>hg (.inr ⟨h1,z⟩)
 have e:=afM [] hp hq q0 ef
 have l:=oP hg
 have e2:=(aib [] (p:=mT w x) zD.1 (by omega)).1
 have e:dO [.pv (.str (tx (mT w x)))] []=.ok (.pv (.tup [.int (pT w x),.int (pB w x)])) []:=e
 rw [e] at e2
 have hn:rr (mT w x)≠none:=fun z=>by
  rw [z] at e2
  cases e2
 refine ⟨hn,?_⟩
 rw [(aiH hn).2.1 []] at e2
 generalize rF (mT w x)=u at *
 obtain ⟨a,b⟩:=u
 generalize pT w x=p at *
 generalize pB w x=q at *
 injection e2 with e3 e4
 injection e3 with e5
 injection e5 with e6
 injection e6 with e7 e8
 injection e8 with e9 _
 injection e7 with e7
 injection e9 with e9
 rw [e7,e9]
theorem ai3 {n k:Nat} (S:Sto) {xs:List Int} {w:Int} (hn:n=2∨n=3) (P:Pq n k xs w) (hk:k≤300) (hg:∀ x∈xs,¬ GR w x):iT [.pv (.str (tx (dI 32 (xs.map (mT w)))))] S=.ok (.pv (tv (xs++[w]))) S:=by
 obtain ⟨Q,es,hf,hi,hne⟩:=zW (dI 32 (xs.map (mT w))) 32
 have xl:=P.len
 have eQ:Q=xs.map (mT w):=sR hne (by
  intro z
  have:xs.length=0:=by rw [← List.length_map (f:=mT w),z]; rfl
  omega) hf (fun p hp=>by
  obtain ⟨x,hx,rfl⟩:=List.mem_map.mp hp
  exact zD.2) hi
 subst eQ
 have hu:=acE (c:=32) (B:=130) (P:=xs.map (mT w)) fun p hp=>by
  obtain ⟨x,hx,rfl⟩:=List.mem_map.mp hp
  exact oP (hg x hx)
 rw [List.length_map] at hu
 have e:=ady S (ab:=rF) es (by omega) (by rw [List.length_map]; omega) fun p hp=>by
  obtain ⟨x,hx,rfl⟩:=List.mem_map.mp hp
  obtain ⟨a,b⟩:=ai9 P hx (hg x hx)
  obtain ⟨c,d,_⟩:=aiH a
  have l:=oP (hg x hx)
  refine ⟨c,?_⟩
  rw [(aib S (p:=mT w x) zD.1 (by omega)).1,d S]
 have em:(xs.map (mT w)).map rF=xs.map fun x=>(pT w x,pB w x):=by
  rw [List.map_map]
  exact List.map_congr_left fun x hx=>(ai9 P hx (hg x hx)).2
 rw [em,(afZ hn P hk).2] at e
 exact e
theorem acb {k:Nat} {W:Int} (W0:0≤W) (W1:W≤10 ^ 61):∀ (is:List PV) (S:Sto) (ns:List Int) (x:Option AV),Row S k ns→∃ (xs ns':List Int),bT [] (gN 0) (aC dF (aY cG [] (aB (aA 2) (aB (aC aG (aC bD (mC (.int 2)) (aA 1)) (mC (.int 1))) aE))) (aA 1)) is [x,some (.pv (.int W)),some (.ref k)] S=.ok (xs.map .int) (S.set k (.lst (ns'.map .int)))∧xs.length=is.length∧∀ n∈xs,Bd 210 n
 | [],S,ns,x,h=>by
  refine ⟨[],ns,?_,rfl,fun _ h=>absurd h List.not_mem_nil⟩
  have e:S.set k (.lst (ns.map .int))=S:=List.ext_getElem? fun j=>by
   by_cases q:k=j
   ·subst q; rw [List.getElem?_set_self h.lt]; exact h.symm
   ·rw [List.getElem?_set_ne q]
  rw [e]
  exact eG
 | i :: is,S,ns,x,h=>by
  obtain ⟨t,n1,e1,t0,t1,_⟩:=nU (m:=2*W+1) h (by omega) ((Bd.of (k:=210) (n:=2*10 ^ 61+1) (by omega) (by decide +kernel)).mono (by decide))
  obtain ⟨xs,n2,e2,l2,b2⟩:=acb W0 W1 is _ n1 (some (.pv i)) (h.set n1)
  rw [List.set_set] at e2
  have m2:bD (.int 2) (.int W)=some (.int (2*W)):=jO (.inl (.inl ⟨by decide,by decide⟩))
  refine ⟨(t - W) :: xs,n2,?_,by simp [l2],fun n hn=>?_⟩
  ·rw [eN]
   generalize S.set k (.lst (n1.map .int))=S1 at e1 e2
   simp [gN,EC,aN,aJ,aK,fIx,atI,ixN,fEq,fNe,eqN,aO,aQ,aP,aR,aG,aU,frz,aL,m2,e1,e2]
  ·rcases List.mem_cons.mp hn with rfl | hn
   ·exact Bd.of (n:=10 ^ 61) (by omega) (by decide +kernel)
   ·exact b2 n hn
theorem aax {n:Nat} (hn:n=2∨n=3) {k:Nat} {uss:List (List Int)} (S:Sto) (hl:uss.length=n+1) (hg:∀ us∈uss,Gu n 1000 us) (hS:S[k]?=some (.lst (uss.map tv))):fI [.ref k] S=.ok (.pv (.tup ((cnr uss).map tv))) S:=by
 have h34:uss.length=3∨uss.length=4:=by omega
 have e1:=wW (A:=.lst (uss.map tv)) h34 (.inl rfl) fun us hu=>(hg us hu).ne
 obtain ⟨pm,_⟩:=kJ h34
 have hl2:((cH uss).map tv).length=n+1:=by rw [List.length_map,pm.length_eq]; exact hl
 have hg2:∀ v∈(cH uss).map tv,Gp n 1000 v:=gps fun us hu=>hg us (pm.subset hu)
 obtain ⟨d,e2,hd⟩:=yZ (A:=.lst ((cH uss).map tv)) hn S hl2 hg2 (.inl rfl)
 obtain ⟨a,b,M,t1,t2,t3,t4⟩:=ag6 hn hl2
 unfold cnr
 have hlt:d < 0↔sgP ((cH uss).map tv) < 0:=by
  rw [← hd]
  unfold sg
  split
  ·omega
  ·split <;> omega
 by_cases h:d < 0
 ·rw [if_pos (hlt.mp h),yL]
  generalize (cH uss).map tv=L at *
  unfold fI fnM nH
  simp [EC,aN,aJ,aK,fEq,fNe,cR,aO,aQ,aP,aR,frz,aL,hS,e1,e2,h,mSl,mO0,mO1,dG,t1,t2,t3,t4]
 ·rw [if_neg (fun z=>h (hlt.mpr z))]
  generalize (cH uss).map tv=L at *
  unfold fI fnM nH
  simp [EC,aN,aJ,aK,fEq,fNe,cR,aO,aQ,aP,aR,frz,aL,hS,e1,e2,h]
theorem yQ:(", ":Str)=tx [44,32]:=by kernel_rfl
theorem zR:(" + ":Str)=tx [32,43,32]:=by kernel_rfl
theorem uC:("none":Str)=tx [110,111,110,101]:=by kernel_rfl
theorem zI {L s:List Nat} {k:Nat}:StrLaws.At (tx L) (tx s) (tx L).length k↔k+s.length≤L.length∧∃ B,L.drop k=s++B:=by
 unfold StrLaws.At
 rw [StrLaws.subAt_eq,eB,eB]
 have e1:(tx L).cps.toList=L:=by simp [tx]
 have e2:(tx s).cps.toList=s:=by simp [tx]
 rw [e1,e2]
 refine ⟨fun ⟨a,b⟩=>⟨a,(L.drop k).drop s.length,?_⟩,fun ⟨a,B,b⟩=>⟨a,?_⟩⟩
 ·have b:(L.drop k).take s.length=s:=by simpa using b
  have:=List.take_append_drop s.length (L.drop k)
  rw [b] at this
  exact this.symm
 ·rw [b]
  simp
theorem agC (L:List Nat) (a b:Nat):Builtin.Str.strSub (tx L) a b=tx ((L.drop a).take (b - a)):=by
 have e1:(tx L).cps.toList=L:=by simp [tx]
 have e2:=StrLaws.strSub_toList (tx L) a b
 rw [e1] at e2
 rw [← nW (Builtin.Str.strSub (tx L) a b),e2]
theorem acP {L s1 s2:List Nat} {c:Nat} (h1:c ∉ s1):∀ (P:List (List Nat)) (a:Nat) (cuts:List Nat) (f:Nat),P≠[]→(∀ p∈P,c ∉ p)→L.drop a=jn (s1++c :: s2) P→a≤L.length→StrLaws.ChainG (tx L) (tx (s1++c :: s2)) (tx L).length a cuts f→(∀ k,f≤k→¬ StrLaws.At (tx L) (tx (s1++c :: s2)) (tx L).length k)→StrLaws.partsFrom (tx L) (tx (s1++c :: s2)).length a cuts=P.map tx
 | [],_,_,_,h,_,_,_,_,_=>absurd rfl h
 | [p],a,[],f,_,hp,hd,ha,hc,hf=>by
  have hd:L.drop a=p:=hd
  show [Builtin.Str.strSub (tx L) a (tx L).length]=[tx p]
  rw [agC,eB,hd,List.take_of_length_le]
  rw [← hd,List.length_drop]
  exact Nat.le_refl _
 | [p],a,d :: r,f,_,hp,hd,ha,hc,hf=>by
  have hd:L.drop a=p:=hd
  obtain ⟨h2,h3,_,_⟩:=hc
  obtain ⟨_,B,h4⟩:=zI.mp h3
  have e:L.drop d=p.drop (d - a):=by rw [← hd,List.drop_drop]; congr 1; omega
  rw [e] at h4
  have:c∈p.drop (d - a):=by rw [h4]; simp
  exact absurd (List.mem_of_mem_drop this) (hp p (by simp))
 | p :: q :: r,a,cuts,f,_,hp,hd,ha,hc,hf=>by
  have hd:L.drop a=p++((s1++c :: s2)++jn (s1++c :: s2) (q :: r)):=hd
  have ll:L.length - a=p.length+((s1++c :: s2).length+(jn (s1++c :: s2) (q :: r)).length):=by rw [← List.length_drop,hd,List.length_append,List.length_append]
  have here:StrLaws.At (tx L) (tx (s1++c :: s2)) (tx L).length (a+p.length):=zI.mpr ⟨by omega,jn (s1++c :: s2) (q :: r),by rw [← List.drop_drop,hd,List.drop_left]⟩
  have none':∀ k,a≤k→k < a+p.length→¬ StrLaws.At (tx L) (tx (s1++c :: s2)) (tx L).length k:=fun k k1 k2 z=>by
   obtain ⟨_,B,h4⟩:=zI.mp z
   have e:L.drop k=(L.drop a).drop (k - a):=by rw [List.drop_drop]; congr 1; omega
   rw [e,hd,List.drop_append_of_le_length (by omega)] at h4
   have h5:(p.drop (k - a)++s1)++c :: (s2++jn (s1++c :: s2) (q :: r))=s1++c :: (s2++B):=by
    simpa [List.append_assoc] using h4
   have:=(xA (by
    intro y
    rcases List.mem_append.mp y with y | y
    ·exact hp p (by simp) (List.mem_of_mem_drop y)
    ·exact h1 y) h1 h5).1
   have:=congrArg List.length this
   rw [List.length_append,List.length_drop] at this
   omega
  match cuts,hc with
  | [],hc =>
   have:f=a:=hc
   exact absurd here (hf _ (by omega))
  | d :: r',hc =>
   obtain ⟨h2,h3,h4,h5⟩:=hc
   have d1:¬ d < a+p.length:=fun z=>none' d h2 z h3
   have d2:¬ a+p.length < d:=fun z=>h4 _ (by omega) z here
   have ed:d=a+p.length:=by omega
   subst ed
   have hd2:L.drop (a+p.length+(tx (s1++c :: s2)).length)=jn (s1++c :: s2) (q :: r):=by
    rw [eB,Nat.add_assoc,← List.drop_drop,hd,← List.append_assoc,← List.length_append,List.drop_left]
   have ih:=acP h1 (q :: r) (a+p.length+(tx (s1++c :: s2)).length) r' f (by simp) (fun x hx=>hp x (List.mem_cons_of_mem _ hx)) hd2 (by rw [eB]; omega) h5 hf
   show Builtin.Str.strSub (tx L) a (a+p.length) :: StrLaws.partsFrom (tx L) (tx (s1++c :: s2)).length (a+p.length+(tx (s1++c :: s2)).length) r'=tx p :: (q :: r).map tx
   rw [ih,agC,hd]
   congr 2
   rw [show a+p.length - a=p.length by omega,List.take_left]
theorem aiZ {s1 s2:List Nat} {c:Nat} (h1:c ∉ s1) (ha:∀ d∈s1++c :: s2,d < 128) {P:List (List Nat)} (h0:P≠[]) (hp:∀ p∈P,c ∉ p):Txt.split (tx (jn (s1++c :: s2) P)) (tx (s1++c :: s2))=P.map tx:=by
 obtain ⟨f,hG,hn⟩:=StrLaws.occ_tight (tx (jn (s1++c :: s2) P)) (tx (s1++c :: s2)) (by rw [eB]; simp; omega)
 have key:=acP h1 P 0 _ f h0 hp (by rfl) (Nat.zero_le _) hG hn
 unfold Txt.split
 split
 ·rename_i hc
  rw [Bool.or_eq_true,decide_eq_true_eq,decide_eq_true_eq] at hc
  have hk:¬ Builtin.Str.strKind (tx (jn (s1++c :: s2) P)) < Builtin.Str.strKind (tx (s1++c :: s2)):=by
   have e:Builtin.Str.strKind (tx (s1++c :: s2))=1:=by
    unfold Builtin.Str.strKind
    rw [if_pos]
    rw [← Array.all_toList,List.all_eq_true]
    intro d hd
    have:d∈s1++c :: s2:=by simpa [tx] using hd
    have:=ha d this
    exact decide_eq_true (by omega)
   rw [e]
   unfold Builtin.Str.strKind
   split
   ·decide
   ·split <;> decide
  have hl:=hc.resolve_right hk
  match P,h0,hl with
  | [p],_,_=>rfl
  | p :: q :: r,_,hl =>
   exfalso
   have:jn (s1++c :: s2) (p :: q :: r)=p++((s1++c :: s2)++jn (s1++c :: s2) (q :: r)):=rfl
   rw [this,eB,eB,List.length_append,List.length_append] at hl
   omega
 ·split
  ·rename_i he
   have e0:=List.isEmpty_iff.mp he
   rw [e0] at key
   rw [← key]
   show _=[Builtin.Str.strSub _ 0 _]
   rw [StrLaws.sub_whole]
  ·rw [StrLaws.partsBetween_eq]
   exact key
theorem uJ {s:List Nat} {c:Nat} (hs:c ∉ s):∀ {P:List (List Nat)},(∀ p∈P,c ∉ p)→c ∉ jn s P
 | [],_=>fun z=>by cases z
 | [p],h=>h p (by simp)
 | p :: q :: r,h=>fun z=>by
  have z:c∈p++(s++jn s (q :: r)):=z
  rcases List.mem_append.mp z with z | z
  ·exact h p (by simp) z
  ·rcases List.mem_append.mp z with z | z
   ·exact hs z
   ·exact uJ hs (P:=q :: r) (fun x hx=>h x (List.mem_cons_of_mem _ hx)) z
theorem akt {w x:Int} {c:Nat} (h1:isD c=false) (h2:c≠45) (h3:c≠47):c ∉ mT w x:=by
 have nd:∀ m:Nat,c ∉ dg m:=fun m z=>by rw [jT z] at h1; cases h1
 have nt:c ∉ tN (pT w x):=fun z=>by
  unfold tN at z
  split at z
  ·rcases List.mem_cons.mp z with z | z
   ·exact h2 z
   ·exact nd _ z
  ·exact nd _ z
 unfold mT txt
 split
 ·exact nt
 ·intro z
  rcases List.mem_append.mp z with z | z
  ·exact nt z
  ·rcases List.mem_cons.mp z with z | z
   ·exact h3 z
   ·exact nd _ z
def ptx (us:List Int):List Nat:=dI 32 (us.dropLast.map (mT (us.getLastD 0)))
def gp (us:List Int):Prop:=∃ x∈us.dropLast,GR (us.getLastD 0) x
theorem uV (xs:List Int) (w:Int):(xs++[w]).dropLast=xs∧(xs++[w]).getLastD 0=w:=⟨by simp,by simp⟩
theorem ah5 {n k:Nat} (S:Sto) {us:List Int} (h:Gu n k us) (hk:k≤1000) (hn:n≤3):(gp us→gI [.pv (tv us)] S=.exc "TooGreat" S)∧(¬ gp us→gI [.pv (tv us)] S=.ok (.pv (.str (tx (ptx us)))) S):=by
 obtain ⟨xs,w,rfl,P⟩:=h
 obtain ⟨a,b⟩:=uV xs w
 have s:=afz S P hk hn
 unfold gp ptx
 rw [a,b]
 exact ⟨s.1,fun z=>s.2 fun x hx y=>z ⟨x,hx,y⟩⟩
theorem ajL {n k:Nat} (S:Sto) {us:List Int} (h:Gu n k us) (hk:k≤1000) (hn:n≤3):(gp us→iD [.pv (tv us)] S=.ok (.pv .non) S)∧(¬ gp us→iD [.pv (tv us)] S=.ok (.pv (.str (tx (ptx us)))) S):=by
 obtain ⟨xs,w,rfl,P⟩:=h
 obtain ⟨a,b⟩:=uV xs w
 have s:=afs S P hk hn
 unfold gp ptx
 rw [a,b]
 exact ⟨s.1,fun z=>s.2 fun x hx y=>z ⟨x,hx,y⟩⟩
theorem ahu {n k:Nat} (S:Sto) {us:List Int} (hn:n=2∨n=3) (h:Gu n k us) (hk:k≤300) (hg:¬ gp us):iT [.pv (.str (tx (ptx us)))] S=.ok (.pv (tv us)) S:=by
 obtain ⟨xs,w,rfl,P⟩:=h
 obtain ⟨a,b⟩:=uV xs w
 unfold gp at hg
 unfold ptx
 rw [a,b] at hg ⊢
 exact ai3 S hn P hk fun x hx y=>hg ⟨x,hx,y⟩
theorem zA {n k:Nat} {us:List Int} (h:Gu n k us) (hn:n≤3) (hg:¬ gp us):(ptx us).length≤400:=by
 obtain ⟨xs,w,rfl,P⟩:=h
 obtain ⟨a,b⟩:=uV xs w
 unfold gp at hg
 unfold ptx
 rw [a,b] at hg ⊢
 have:=acE (c:=32) (B:=130) (P:=xs.map (mT w)) fun p hp=>by
  obtain ⟨x,hx,rfl⟩:=List.mem_map.mp hp
  exact oP fun y=>hg ⟨x,hx,y⟩
 rw [List.length_map,P.len] at this
 omega
theorem agB {us:List Int} {c:Nat} (h1:isD c=false) (h2:c≠45) (h3:c≠47) (h4:c≠32):c ∉ ptx us:=by
 unfold ptx
 rw [tH]
 refine uJ (by simpa using h4) fun p hp=>?_
 obtain ⟨x,hx,rfl⟩:=List.mem_map.mp hp
 exact akt h1 h2 h3
def sTx (uss:List (List Int)):List Nat:=jn [44,32] (uss.map ptx)
def gs (uss:List (List Int)):Prop:=∃ us∈uss,gp us
theorem ajp {n k:Nat} (S:Sto) {uss:List (List Int)} (hl:uss.length=n+1) (h:∀ us∈uss,Gu n k us) (hk:k≤1000) (hn:n≤3):(gs uss→gY [.pv (px uss)] S=.exc "TooGreat" S)∧(¬ gs uss→gY [.pv (px uss)] S=.ok (.pv (.str (tx (sTx uss)))) S):=by
 have step:∀ us∈uss,(gp us→(bW gI [] (aB (aA 0) aE)) (some (.pv (tv us)) :: []) S=.exc "TooGreat" S)∧(¬ gp us→(bW gI [] (aB (aA 0) aE)) (some (.pv (tv us)) :: []) S=.ok (.pv (.str (tx (ptx us)))) S):=fun us hu=>by
  obtain ⟨e1,e2⟩:=ah5 S (h us hu) hk hn
  refine ⟨fun z=>?_,fun z=>?_⟩
  ·have e:=e1 z
   generalize tv us=TV at *
   simp [EC,aN,aJ,aK,fIx,atI,ixN,fEq,fNe,eqN,aO,aQ,aP,aR,aG,aU,frz,aL,e]
  ·have e:=e2 z
   generalize tx (ptx us)=T at *
   generalize tv us=TV at *
   simp [EC,aN,aJ,aK,fIx,atI,ixN,fEq,fNe,eqN,aO,aQ,aP,aR,aG,aU,frz,aL,e]
 refine ⟨fun z=>?_,fun z=>?_⟩
 ·have ec:=sI tv (fun us=>.str (tx (ptx us))) gp "TooGreat" uss none step z
  unfold gY fnM px
  unfold mO
  generalize (bW gI [] (aB (aA 0) aE))=ME1 at *
  generalize uss.map tv=UL at *
  simp [EC,aN,aJ,aK,fIx,atI,ixN,fEq,fNe,eqN,aO,aQ,aP,aR,aG,aU,frz,aL,fZ,dC,dZ,bR,mIt,bV,ec]
 ·have hg:∀ us∈uss,¬ gp us:=fun us hu y=>z ⟨us,hu,y⟩
  have ec:=kK tv (fun us=>PV.str (tx (ptx us))) uss none fun us hu=>(step us hu).2 (hg us hu)
  have ej:=qS (s:=[44,32]) (Ls:=uss.map ptx) (B:=400) (by decide) (fun l hl=>by
   obtain ⟨x,hx,rfl⟩:=List.mem_map.mp hl
   exact zA (h x hx) hn (hg x hx)) (by rw [List.length_map,hl]; omega) (by decide)
  rw [List.map_map,← yQ] at ej
  have ej:iA ", " [.lst (uss.map fun us=>.str (tx (ptx us)))]=some (.str (tx (sTx uss))):=ej
  unfold gY fnM px
  unfold mO
  generalize (bW gI [] (aB (aA 0) aE))=ME1 at *
  generalize (uss.map fun us=>PV.str (tx (ptx us)))=SL at *
  generalize tx (sTx uss)=TT at *
  generalize uss.map tv=UL at *
  simp [EC,aN,aJ,aK,fIx,atI,ixN,fEq,fNe,eqN,aO,aQ,aP,aR,aG,aU,frz,aL,fZ,dC,dZ,bR,mIt,bV,ec,ej]
theorem aiI {n k:Nat} (S:Sto) {uss:List (List Int)} (hl:uss.length=n+1) (h:∀ us∈uss,Gu n k us) (hk:k≤1000) (hn:n≤3):kG [.pv (px uss)] S=.ok (.pv (wv gs sTx uss)) S:=by
 have ec:bT [] (gN 0) (aY iD [] (aB (aA 0) aE)) (uss.map tv) [none] S=.ok (uss.map (wv gp ptx)) S:=by
  refine jN (gL S) tv (wv gp ptx) uss none fun us hu=>?_
  obtain ⟨e1,e2⟩:=ajL S (h us hu) hk hn
  unfold wv
  by_cases z:gp us
  ·rw [if_pos z]
   have e:=e1 z
   generalize tv us=TV at *
   simp [EC,aN,aJ,aK,fIx,atI,ixN,fEq,fNe,eqN,aO,aQ,aP,aR,aG,aU,frz,aL,e]
  ·rw [if_neg z]
   have e:=e2 z
   generalize tx (ptx us)=T at *
   generalize tv us=TV at *
   simp [EC,aN,aJ,aK,fIx,atI,ixN,fEq,fNe,eqN,aO,aQ,aP,aR,aG,aU,frz,aL,e]
 obtain ⟨a1,a2⟩:=zQ (bad:=gp) (T:=ptx) (xs:=uss)
 unfold kG fnM px
 unfold wC
 by_cases z:gs uss
 ·have ew:wv gs sTx uss=.non:=if_pos z
  have a1:=a1 z
  rw [ew]
  generalize (aY iD [] (aB (aA 0) aE))=ME1 at *
  generalize uss.map (wv gp ptx)=WL at *
  generalize uss.map tv=UL at *
  simp [EC,aN,aJ,aK,fIx,atI,ixN,fEq,fNe,eqN,aO,aQ,aP,aR,aG,aU,frz,aL,bJ,bR,mIt,bV,ec,iR,a1]
 ·have hg:∀ us∈uss,¬ gp us:=fun us hu y=>z ⟨us,hu,y⟩
  obtain ⟨a2,a3⟩:=a2 hg
  have ew:wv gs sTx uss=.str (tx (sTx uss)):=if_neg z
  rw [ew]
  have ej:=qS (s:=[44,32]) (Ls:=uss.map ptx) (B:=400) (by decide) (fun l hl=>by
   obtain ⟨x,hx,rfl⟩:=List.mem_map.mp hl
   exact zA (h x hx) hn (hg x hx)) (by rw [List.length_map,hl]; omega) (by decide)
  rw [List.map_map,← yQ] at ej
  have ej:iA ", " [.lst (uss.map fun us=>.str (tx (ptx us)))]=some (.str (tx (sTx uss))):=ej
  rw [← a3] at ej
  generalize (aY iD [] (aB (aA 0) aE))=ME1 at *
  generalize uss.map (wv gp ptx)=WL at *
  generalize tx (sTx uss)=TT at *
  generalize uss.map tv=UL at *
  simp [EC,aN,aJ,aK,fIx,atI,ixN,fEq,fNe,eqN,aO,aQ,aP,aR,aG,aU,frz,aL,bJ,bR,mIt,bV,ec,iR,a2,fZ,dC,ej]
theorem tM {n k:Nat} {uss:List (List Int)} (hl:uss.length=n+1) (h:∀ us∈uss,Gu n k us) (hn:n≤3) (hg:¬ gs uss):(sTx uss).length≤1608:=by
 have:=vE (s:=[44,32]) (B:=400) (P:=uss.map ptx) fun p hp=>by
  obtain ⟨x,hx,rfl⟩:=List.mem_map.mp hp
  exact zA (h x hx) hn fun y=>hg ⟨x,hx,y⟩
 rw [List.length_map,hl] at this
 have h2:(n+1)*(400+[44,32].length)≤4*402:=Nat.mul_le_mul (by omega) (Nat.le_refl _)
 unfold sTx
 omega
theorem agj {uss:List (List Int)} {c:Nat} (h1:isD c=false) (h2:c≠45) (h3:c≠47) (h4:c≠32) (h5:c≠44):c ∉ sTx uss:=by
 unfold sTx
 refine uJ (by simp [h4,h5]) fun p hp=>?_
 obtain ⟨x,hx,rfl⟩:=List.mem_map.mp hp
 exact agB h1 h2 h3 h4
def hTx (hs:List (List (List Int))):List Nat:=if hs=[] then [110,111,110,101] else jn [32,43,32] (hs.map sTx)
def gh (hs:List (List (List Int))):Prop:=∃ uss∈hs,gs uss
theorem ahr (S:Sto) {hs:List (List (List Int))} (hl:hs.length≤200) (h:∀ uss∈hs,(sTx uss).length≤1608):mW [.pv (.lst (hs.map fun uss=>.str (tx (sTx uss))))] S=.ok (.pv (.str (tx (hTx hs)))) S:=by
 have ej:=qS (s:=[32,43,32]) (Ls:=hs.map sTx) (B:=1608) (by decide) (fun l hl=>by
  obtain ⟨x,hx,rfl⟩:=List.mem_map.mp hl
  exact h x hx) (by rw [List.length_map]; exact hl) (by decide)
 rw [List.map_map,← zR] at ej
 have ej:iA " + " [.lst (hs.map fun uss=>.str (tx (sTx uss)))]=some (.str (tx (jn [32,43,32] (hs.map sTx)))):=ej
 cases hs with
 | nil =>
  have eh:hTx []=[110,111,110,101]:=if_pos rfl
  rw [eh,← uC]
  unfold mW fnM sF
  simp [EC,aN,aJ,aK,fIx,atI,ixN,fEq,fNe,eqN,aO,aQ,aP,aR,aG,aU,frz,aL,vF,uZ]
 | cons u r =>
  have eh:hTx (u :: r)=jn [32,43,32] ((u :: r).map sTx):=if_neg (by simp)
  rw [eh]
  unfold mW fnM sF
  have ne:((u :: r).map fun uss=>PV.str (tx (sTx uss))).isEmpty=false:=rfl
  generalize ((u :: r).map fun uss=>PV.str (tx (sTx uss)))=SL at *
  generalize tx (jn [32,43,32] ((u :: r).map sTx))=TT at *
  simp [EC,aN,aJ,aK,fIx,atI,ixN,fEq,fNe,eqN,aO,aQ,aP,aR,aG,aU,frz,aL,vF,uZ,ne,fZ,dC,ej]
theorem aiv {n k:Nat} (S:Sto) {hs:List (List (List Int))} {A:PV} (hA:Sv A (hs.map px)) (hl:hs.length≤200) (h:∀ uss∈hs,Sx n k uss) (hk:k≤1000) (hn:n≤3):(gh hs→jJ [.pv A] S=.exc "TooGreat" S)∧(¬ gh hs→jJ [.pv A] S=.ok (.pv (.str (tx (hTx hs)))) S):=by
 have step:∀ uss∈hs,(gs uss→(bW gY [] (aB (aA 0) aE)) (some (.pv (px uss)) :: []) S=.exc "TooGreat" S)∧(¬ gs uss→(bW gY [] (aB (aA 0) aE)) (some (.pv (px uss)) :: []) S=.ok (.pv (.str (tx (sTx uss)))) S):=fun uss hu=>by
  obtain ⟨e1,e2⟩:=ajp S (h uss hu).len (h uss hu).gu hk hn
  refine ⟨fun z=>?_,fun z=>?_⟩
  ·have e:=e1 z
   generalize px uss=TV at *
   simp [EC,aN,aJ,aK,fIx,atI,ixN,fEq,fNe,eqN,aO,aQ,aP,aR,aG,aU,frz,aL,e]
  ·have e:=e2 z
   generalize tx (sTx uss)=T at *
   generalize px uss=TV at *
   simp [EC,aN,aJ,aK,fIx,atI,ixN,fEq,fNe,eqN,aO,aQ,aP,aR,aG,aU,frz,aL,e]
 have sq:∀ ρ:Rho,ρ[0]?=some (some (.pv A))→mIt (aA 0) ρ S=.ok (hs.map px,[]) S:=fun ρ h=>by
  rcases hA with rfl | rfl
  ·simp [mIt,aA,h,Res.bind,bV]
  ·simp [mIt,aA,h,Res.bind,bV]
 have sq:=sq (iM 1 [.pv A]) rfl
 refine ⟨fun z=>?_,fun z=>?_⟩
 ·have ec:=sI px (fun us=>.str (tx (sTx us))) gs "TooGreat" hs none step z
  unfold jJ fnM
  unfold nA
  generalize (bW gY [] (aB (aA 0) aE))=ME1 at *
  generalize mIt (aA 0)=IT at *
  generalize hs.map px=UL at *
  simp [EC,aN,aJ,aK,fIx,atI,ixN,fEq,fNe,eqN,aO,aQ,aP,aR,aG,aU,frz,aL,dZ,bR,ec] at sq ⊢
  simp [EC,aN,aJ,aK,fIx,atI,ixN,fEq,fNe,eqN,aO,aQ,aP,aR,aG,aU,frz,aL,dZ,bR,sq,ec]
 ·have hg:∀ uss∈hs,¬ gs uss:=fun uss hu y=>z ⟨uss,hu,y⟩
  have ec:=kK px (fun us=>PV.str (tx (sTx us))) hs none fun us hu=>(step us hu).2 (hg us hu)
  have er:=ahr S hl fun uss hu=>tM (h uss hu).len (h uss hu).gu hn (hg uss hu)
  unfold jJ fnM
  unfold nA
  generalize (bW gY [] (aB (aA 0) aE))=ME1 at *
  generalize mIt (aA 0)=IT at *
  generalize (hs.map fun us=>PV.str (tx (sTx us)))=SL at *
  generalize tx (hTx hs)=TT at *
  generalize hs.map px=UL at *
  simp [EC,aN,aJ,aK,fIx,atI,ixN,fEq,fNe,eqN,aO,aQ,aP,aR,aG,aU,frz,aL,dZ,bR,ec] at sq ⊢
  simp [EC,aN,aJ,aK,fIx,atI,ixN,fEq,fNe,eqN,aO,aQ,aP,aR,aG,aU,frz,aL,dZ,bR,sq,ec,er]
theorem aff {n k:Nat} (S:Sto) {hs:List (List (List Int))} (hl:hs.length≤200) (h:∀ uss∈hs,Sx n k uss) (hk:k≤1000) (hn:n≤3):mX [.pv (.lst (hs.map px))] S=.ok (.pv (wv gh hTx hs)) S:=by
 have ec:bT [] (gN 0) (aY kG [] (aB (aA 0) aE)) (hs.map px) [none] S=.ok (hs.map (wv gs sTx)) S:=by
  refine jN (gL S) px (wv gs sTx) hs none fun us hu=>?_
  have e:=aiI S (h us hu).len (h us hu).gu hk hn
  generalize wv gs sTx us=V at *
  generalize px us=TV at *
  simp [EC,aN,aJ,aK,fIx,atI,ixN,fEq,fNe,eqN,aO,aQ,aP,aR,aG,aU,frz,aL,e]
 obtain ⟨a1,a2⟩:=zQ (bad:=gs) (T:=sTx) (xs:=hs)
 unfold mX fnM
 unfold wM
 cases hs with
 | nil =>
  have ew:wv gh hTx []=.str "none":=by
   unfold wv
   rw [if_neg (fun ⟨_,z,_⟩=>by cases z),uC]
   rfl
  rw [ew]
  simp [EC,aN,aJ,aK,fIx,atI,ixN,fEq,fNe,eqN,aO,aQ,aP,aR,aG,aU,frz,aL]
 | cons u r =>
  have l0:((((u :: r).map px).length:Int) == 0)=false:=by
   rw [List.length_map,List.length_cons]
   have:¬ (((r.length+1:Nat):Int)=0):=by omega
   simpa using this
  by_cases z:gh (u :: r)
  ·have ew:wv gh hTx (u :: r)=.non:=if_pos z
   have a1:=a1 z
   rw [ew]
   generalize (aY kG [] (aB (aA 0) aE))=ME1 at *
   generalize (u :: r).map (wv gs sTx)=WL at *
   generalize (u :: r).map px=UL at *
   simp [EC,aN,aJ,aK,fIx,atI,ixN,fEq,fNe,eqN,aO,aQ,aP,aR,aG,aU,frz,aL,l0,bJ,bR,mIt,bV,ec,iR,a1]
  ·have hg:∀ us∈u :: r,¬ gs us:=fun us hu y=>z ⟨us,hu,y⟩
   obtain ⟨a2,a3⟩:=a2 hg
   have ew:wv gh hTx (u :: r)=.str (tx (jn [32,43,32] ((u :: r).map sTx))):=by
    unfold wv
    rw [if_neg z]
    rfl
   rw [ew]
   have ej:=qS (s:=[32,43,32]) (Ls:=(u :: r).map sTx) (B:=1608) (by decide) (fun l hl=>by
    obtain ⟨x,hx,rfl⟩:=List.mem_map.mp hl
    exact tM (h x hx).len (h x hx).gu hn (hg x hx)) (by rw [List.length_map]; exact hl) (by decide)
   rw [List.map_map,← zR] at ej
   have ej:iA " + " [.lst ((u :: r).map fun us=>.str (tx (sTx us)))]=some (.str (tx (jn [32,43,32] ((u :: r).map sTx)))):=ej
   rw [← a3] at ej
   generalize (aY kG [] (aB (aA 0) aE))=ME1 at *
   generalize (u :: r).map (wv gs sTx)=WL at *
   generalize tx (jn [32,43,32] ((u :: r).map sTx))=TT at *
   generalize (u :: r).map px=UL at *
   simp [EC,aN,aJ,aK,fIx,atI,ixN,fEq,fNe,eqN,aO,aQ,aP,aR,aG,aU,frz,aL,l0,bJ,bR,mIt,bV,ec,iR,a2,fZ,dC,ej]
theorem aeo {s1 s2:List Nat} {c:Nat} (h1:c ∉ s1) (ha:∀ d∈s1++c :: s2,d < 128) {P:List (List Nat)} (h0:P≠[]) (hp:∀ p∈P,c ∉ p) (hL:(jn (s1++c :: s2) P).length≤9000000):fG (tx (jn (s1++c :: s2) P)) [.str (tx (s1++c :: s2))]=some (.lst (P.map fun p=>.str (tx p))):=by
 have hs:=aiZ h1 ha h0 hp (s2:=s2)
 show (if (tx (s1++c :: s2)).length≠0∧(tx (jn (s1++c :: s2) P)).length+2≤16777216 then some (PV.lst ((Txt.split (tx (jn (s1++c :: s2) P)) (tx (s1++c :: s2))).map .str)) else none)=_
 rw [if_pos ⟨by rw [eB,List.length_append,List.length_cons]; omega,by rw [eB]; omega⟩,hs,List.map_map]
 rfl
theorem akY {α:Type} (L:List α):fV [.lst (L.map fun _=>PV.bl true)]=some (.bl true):=by
 have:=xP (L.map fun _=>PV.non)
 rw [List.map_map] at this
 exact this
theorem aiK {n k:Nat} {us:List Int} (h:Gu n k us):us.length=n+1:=by
 obtain ⟨xs,w,rfl,P⟩:=h
 rw [List.length_append,P.len]
 rfl
theorem abQ {n k:Nat} (S:Sto) (hn:n=2∨n=3) {uss:List (List Int)} (hl:uss.length=n+1) (h:∀ us∈uss,Gu n k us) (hk:k≤300) (hg:¬ gs uss):kF [.pv (.str (tx (sTx uss)))] S=.ok (.pv (.lst (uss.map tv))) S:=by
 have hg2:∀ us∈uss,¬ gp us:=fun us hu y=>hg ⟨us,hu,y⟩
 have ll:=tM hl h (by omega) hg
 have es:=aeo (s1:=[]) (c:=44) (s2:=[32]) (P:=uss.map ptx) (by simp) (by simp) (fun z=>by
  have:=congrArg List.length z
  rw [List.length_map,hl] at this
  cases this) (fun p hp=>by
  obtain ⟨us,hu,rfl⟩:=List.mem_map.mp hp
  exact agB rfl (by decide) (by decide) (by decide)) (Nat.le_trans ll (by decide))
 rw [List.map_map] at es
 have es:fG (tx (sTx uss)) [.str (tx [44,32])]=some (.lst (uss.map fun us=>.str (tx (ptx us)))):=es
 rw [← yQ] at es
 have ec:=kK (S:=S) (me:=bW iT [] (aB (aA 0) aE)) (tail:=[]) (fun us=>.str (tx (ptx us))) tv uss none fun us hu=>by
  have e:=ahu S hn (h us hu) hk (hg2 us hu)
  generalize tv us=TV at *
  generalize tx (ptx us)=T at *
  simp [EC,aN,aJ,aK,fIx,atI,ixN,fEq,fNe,eqN,aO,aQ,aP,aR,aG,aU,frz,aL,e]
 have ea:bT [] (gN 0) (aC fEq (mR cP (aB (aA 0) aE)) (mR cP (aB (aA 1) aE))) (uss.map tv) [none,some (.pv (.lst (uss.map tv)))] S=.ok (uss.map fun _=>.bl true) S:=by
  refine jN (gL S) tv (fun _=>.bl true) uss none fun us hu=>?_
  have l1:((us.map PV.int).length:Int)=n+1:=by rw [List.length_map,aiK (h us hu)]; rfl
  have l2:((uss.map tv).length:Int)=n+1:=by rw [List.length_map,hl]; rfl
  show (aC fEq (mR cP (aB (aA 0) aE)) (mR cP (aB (aA 1) aE))) [some (.pv (.tup (us.map .int))),some (.pv (.lst (uss.map tv)))] S=.ok (.pv (.bl true)) S
  generalize us.map PV.int=U at *
  generalize uss.map tv=V at *
  simp [EC,aN,aJ,aK,fIx,atI,ixN,fEq,fNe,eqN,aO,aQ,aP,aR,aG,aU,frz,aL,l1,l2]
 have eb:=akY uss
 have rf:=iF S true
 rw [if_pos rfl] at rf
 unfold kF fnM
 unfold pN
 generalize (bW iT [] (aB (aA 0) aE))=ME1 at *
 generalize (aC fEq (mR cP (aB (aA 0) aE)) (mR cP (aB (aA 1) aE)))=ME2 at *
 generalize (uss.map fun _=>PV.bl true)=BL at *
 generalize (uss.map fun us=>PV.str (tx (ptx us)))=SL at *
 generalize uss.map tv=UL at *
 generalize tx (sTx uss)=TT at *
 simp [EC,aN,aJ,aK,fIx,atI,ixN,fEq,fNe,eqN,aO,aQ,aP,aR,aG,aU,frz,aL,dZ,bJ,bR,mIt,eF,dC,es,bV,ec,ea,eb,rf]
theorem aeK (S:Sto) {hs:List (List (List Int))} (hl:hs.length≤200) (h:∀ uss∈hs,(sTx uss).length≤1608):nF [.pv (.str (tx (hTx hs)))] S=.ok (.pv (.lst (hs.map fun uss=>.str (tx (sTx uss))))) S:=by
 cases hs with
 | nil =>
  have eh:hTx []=[110,111,110,101]:=if_pos rfl
  rw [eh,← uC]
  have q:eqN 8 (.str "none") (.str "none")=some true:=by simp [eqN]
  unfold nF fnM sH
  simp [EC,aN,aJ,aK,fEq,fNe,cR,aO,aQ,aP,aR,aG,aU,frz,aL,q]
 | cons u r =>
  have eh:hTx (u :: r)=jn [32,43,32] ((u :: r).map sTx):=if_neg (by simp)
  have lu:=vE (s:=[32,43,32]) (B:=1608) (P:=(u :: r).map sTx) fun p hp=>by
   obtain ⟨x,hx,rfl⟩:=List.mem_map.mp hp
   exact h x hx
  rw [List.length_map] at lu
  have lv2:(u :: r).length*(1608+[32,43,32].length)≤200*1611:=Nat.mul_le_mul hl (Nat.le_refl _)
  have es:=aeo (s1:=[32]) (c:=43) (s2:=[32]) (P:=(u :: r).map sTx) (by simp) (by simp) (by simp) (fun p hp=>by
   obtain ⟨us,hu,rfl⟩:=List.mem_map.mp hp
   exact agj rfl (by decide) (by decide) (by decide) (by decide)) (by
   show (jn [32,43,32] ((u :: r).map sTx)).length≤9000000
   omega)
  rw [List.map_map] at es
  have es:fG (tx (jn [32,43,32] ((u :: r).map sTx))) [.str (tx [32,43,32])]=some (.lst ((u :: r).map fun uss=>.str (tx (sTx uss)))):=es
  rw [← zR] at es
  rw [eh]
  have q:eqN 8 (.str (tx (jn [32,43,32] ((u :: r).map sTx)))) (.str "none")=some false:=by
   rw [uC]
   show some (tx _ == tx _)=_
   rw [ai2]
   congr 1
   refine decide_eq_false fun z=>?_
   have:110∈jn [32,43,32] ((u :: r).map sTx):=by rw [z]; decide
   exact uJ (by decide) (fun p hp=>by
    obtain ⟨us,hu,rfl⟩:=List.mem_map.mp hp
    exact agj rfl (by decide) (by decide) (by decide) (by decide)) this
  unfold nF fnM sH
  generalize ((u :: r).map fun uss=>PV.str (tx (sTx uss)))=SL at *
  generalize tx (jn [32,43,32] ((u :: r).map sTx))=TT at *
  simp [EC,aN,aJ,aK,fEq,fNe,cR,aO,aQ,aP,aR,aG,aU,frz,aL,q,eF,dC,es]
theorem ad1 {n k:Nat} (S:Sto) (hn:n=2∨n=3) {hs:List (List (List Int))} (hl:hs.length≤200) (h:∀ uss∈hs,Sx n k uss) (hk:k≤300) (hg:¬ gh hs):nE [.pv (.str (tx (hTx hs)))] S=.ok (.pv (.tup (hs.map px))) S:=by
 have hg2:∀ uss∈hs,¬ gs uss:=fun us hu y=>hg ⟨us,hu,y⟩
 have er:=aeK S hl fun uss hu=>tM (h uss hu).len (h uss hu).gu (by omega) (hg2 uss hu)
 have ec:=kK (S:=S) (me:=bW kF [] (aB (aA 0) aE)) (tail:=[]) (fun uss=>.str (tx (sTx uss))) (fun uss=>.lst (uss.map tv)) hs none fun uss hu=>by
  have e:=abQ S hn (h uss hu).len (h uss hu).gu hk (hg2 uss hu)
  generalize uss.map tv=TV at *
  generalize tx (sTx uss)=T at *
  simp [EC,aN,aJ,aK,fIx,atI,ixN,fEq,fNe,eqN,aO,aQ,aP,aR,aG,aU,frz,aL,e]
 have ea:bT [] (gN 0) (aC fEq (mR cP (aB (aA 0) aE)) (mR cP (aB (aC fIx (aA 1) (mC (.int 0))) aE))) (hs.map fun uss=>.lst (uss.map tv)) [none,some (.pv (.lst (hs.map fun uss=>.lst (uss.map tv))))] S=.ok (hs.map fun _=>.bl true) S:=by
  refine jN (gL S) (fun uss=>.lst (uss.map tv)) (fun _=>.bl true) hs none fun us hu=>?_
  obtain ⟨u,r,rfl⟩:∃ u r,hs=u :: r:=by
   cases hs with
   | nil=>cases hu
   | cons u r=>exact ⟨u,r,rfl⟩
  have i0:fIx (.lst ((u :: r).map fun uss=>.lst (uss.map tv))) (.int 0)=some (.lst (u.map tv)):=aec (j:=0) rfl
  have l1:((us.map tv).length:Int)=n+1:=by rw [List.length_map,(h us hu).len]; rfl
  have l2:((u.map tv).length:Int)=n+1:=by rw [List.length_map,(h u (by simp)).len]; rfl
  generalize ((u :: r).map fun uss=>PV.lst (uss.map tv))=HL at *
  generalize us.map tv=U at *
  generalize u.map tv=V at *
  simp [EC,aN,aJ,aK,fEq,fNe,cR,aO,aQ,aP,aR,aG,aU,frz,aL,i0,l1,l2]
 have eb:=akY hs
 have rf:=iF S true
 rw [if_pos rfl] at rf
 have ex:=kK (S:=S) (me:=bW iY [] (aB (aA 0) aE)) (tail:=[]) (fun uss=>.lst (uss.map tv)) px hs none fun uss hu=>by
  have s:=h uss hu
  have e:=adt (A:=.lst (uss.map tv)) hn S s.len (fun us hu=>(s.gu us hu).mono (by omega)) (.inl rfl) (by rw [qM hn (k:=k) (by omega) s.len s.gu]; exact fun z=>s.nz (tQ.mp z))
  rw [s.cn] at e
  have e:iY [.pv (.lst (uss.map tv))] S=.ok (.pv (px uss)) S:=e
  generalize px uss=T at *
  generalize uss.map tv=TV at *
  simp [EC,aN,aJ,aK,fIx,atI,ixN,fEq,fNe,eqN,aO,aQ,aP,aR,aG,aU,frz,aL,e]
 unfold nE fnM
 unfold pQ
 generalize (bW iY [] (aB (aA 0) aE))=ME3 at *
 generalize (bW kF [] (aB (aA 0) aE))=ME1 at *
 generalize (aC fEq (mR cP (aB (aA 0) aE)) (mR cP (aB (aC fIx (aA 1) (mC (.int 0))) aE)))=ME2 at *
 generalize (hs.map fun _=>PV.bl true)=BL at *
 generalize (hs.map fun uss=>PV.str (tx (sTx uss)))=SL at *
 generalize (hs.map fun uss=>PV.lst (uss.map tv))=HL at *
 generalize hs.map px=UL at *
 generalize tx (hTx hs)=TT at *
 simp [EC,aN,aJ,aK,fIx,atI,ixN,fEq,fNe,eqN,aO,aQ,aP,aR,aG,aU,frz,aL,dZ,bJ,bR,mIt,er,bV,ec,ea,eb,rf,ex]
def ppB:MS:=(aS (bA 10 (bJ ["_law_n"] [(3,"_law_wide"),(0,"_law_row_here")] (dY (aB (aA 1) aE)) (gN 0) (aC dF (aY cG [] (aB (aA 2) (aB (aC aG (aC bD (mC (.int 2)) (aA 1)) (mC (.int 1))) aE))) (aA 1))))
 (dW (eZ (aA 8) (aB (aY fE [] (aB (aC aG (aA 10) (mN eE (aB (aC aG (mC (.int 1)) (aY cG [] (aB (aA 0) (aB (aA 5) aE)))) aE))) aE)) aE))))
def ggB:MS:=(aS (bA 8 (fO aE))
 (aS (dJ (dY (aB (aC aG (aA 1) (mC (.int 1))) aE)) (gN 9) ppB)
 (sIf (bG (aC fNe (aY eH [] (aB (aA 8) aE)) (mC (.int 0)))) (dW (eZ (aA 6) (aB (aY fI [] (aB (aA 8) aE)) aE))) cA)))
theorem aeI {S:Sto} {k:Nat} (hk:k≠0) (a a' b b':SO):(((S.set 0 a).set k b).set 0 a').set k b'=(S.set 0 a').set k b':=by
 rw [List.set_comm (l:=S.set 0 a) b a' hk,List.set_set,List.set_set]
theorem uU {S:Sto} {k:Nat} (h:k < S.length) (a b:SO):((S.set 0 a).set k b)[k]?=some b:=List.getElem?_set_self (by rw [List.length_set]; exact h)
theorem uY {S:Sto} {k:Nat} (hk:k≠0) (h:0 < S.length) (a b:SO):((S.set 0 a).set k b)[0]?=some a:=by
 rw [List.getElem?_set_ne hk]
 exact List.getElem?_set_self h
theorem aii {S:Sto} {k:Nat} (hk:k≠1) (a b:SO):((S.set 0 a).set k b)[1]?=S[1]?:=by
 rw [List.getElem?_set_ne hk,List.getElem?_set_ne (by decide)]
theorem akI {n:Nat} (hn:n=2∨n=3) {W U:Int} (W0:0≤W) (W1:W≤10 ^ 61) (U0:0 < U) (U1:U≤10 ^ 61) {S:Sto} {ns:List Int} (h0:Row S 0 ns) {k:Nat} (hk:k≠0) {uss:List (List Int)} (hS:S[k]?=some (.lst (uss.map tv))) (hl:uss.length≤99) (x2 x4 x6 x7 x9 x10:Option AV):∃ (us:List Int) (ns':List Int) (y10:Option AV),ppB [some (.ref 0),some (.pv (.int (n:Int))),x2,some (.pv (.int W)),x4,some (.pv (.int U)),x6,x7,some (.ref k),x9,x10] S=.nx [some (.ref 0),some (.pv (.int (n:Int))),x2,some (.pv (.int W)),x4,some (.pv (.int U)),x6,x7,some (.ref k),x9,y10] ((S.set 0 (.lst (li ns'))).set k (.lst ((uss++[us]).map tv)))∧Gu n 210 us:=by
 obtain ⟨xs,n1,e1,l1,b1⟩:=acb (k:=0) W0 W1 (cL 0 n) S ns none h0
 have h1:=h0.set n1
 obtain ⟨b,n2,e2,b0,b2,_⟩:=nU (m:=U) h1 U0 ((Bd.of (k:=210) (n:=10 ^ 61) (by omega) (by decide +kernel)).mono (by decide))
 rw [List.set_set] at e2
 have l:(cL 0 n).length=n:=by unfold cL; simp
 rw [l] at l1
 have bb:Bd 210 (1+b):=Bd.of (n:=10 ^ 61+1) (by omega) (by decide +kernel)
 obtain ⟨zs,z,el,Z,_⟩:=qL (n:=n) (k:=210) (L:=xs) (b:=1+b) (by omega) l1 b1 bb
 have ew:=sT (xs++[1+b]) (S.set 0 (.lst (li n2))) fun x hx=>by
  rcases List.mem_append.mp hx with y | y
  ·exact (b1 x y).mono (by decide)
  ·have:x=1+b:=by simpa using y
   rw [this]; exact bb.mono (by decide)
 rw [el,List.map_append] at ew
 have ew:fE [.pv (.lst (xs.map .int++[.int (1+b)]))] (S.set 0 (.lst (li n2)))=.ok (.pv (tv (zs++[z]))) (S.set 0 (.lst (li n2))):=ew
 have rg:=rgn S (n:=n) (by omega)
 have A2:aG (.int 1) (.int b)=some (.int (1+b)):=rfl
 have A3:aG (.lst (xs.map .int)) (.lst [.int (1+b)])=some (.lst (xs.map .int++[.int (1+b)])):=if_pos (by rw [List.length_map,l1]; show n+1≤16777216; omega)
 have hS2:(S.set 0 (.lst (li n2)))[k]?=some (.lst (uss.map tv)):=by rw [List.getElem?_set_ne (fun z=>hk z.symm)]; exact hS
 have lz:(uss.map tv).length < 16777216:=by rw [List.length_map]; omega
 have em:(uss++[zs++[z]]).map tv=uss.map tv++[tv (zs++[z])]:=by simp
 refine ⟨zs++[z],n2,some (.pv (.lst (xs.map .int))),?_,⟨zs,z,rfl,Z⟩⟩
 rw [em]
 unfold ppB
 have e1:bT [] (gN 0) (aC dF (aY cG [] (aB (aA 2) (aB (aC aG (aC bD (mC (.int 2)) (aA 1)) (mC (.int 1))) aE))) (aA 1)) (cL 0 n) [none,some (.pv (.int W)),some (.ref 0)] S=.ok (xs.map .int) (S.set 0 (.lst (li n1))):=e1
 have e2:cG [.ref 0,.pv (.int U)] (S.set 0 (.lst (li n1)))=.ok (.pv (.int b)) (S.set 0 (.lst (li n2))):=e2
 generalize (aC dF (aY cG [] (aB (aA 2) (aB (aC aG (aC bD (mC (.int 2)) (aA 1)) (mC (.int 1))) aE))) (aA 1))=ME1 at *
 generalize tv (zs++[z])=TV at *
 generalize S.set 0 (.lst (li n1))=S1 at *
 generalize S.set 0 (.lst (li n2))=S2 at *
 generalize cL 0 n=IL at *
 generalize xs.map PV.int=XL at *
 generalize uss.map tv=UL at *
 generalize 1+b=B1 at *
 generalize (n:Int)=N at *
 simp [EC,aN,aJ,aK,fEq,fNe,cR,aO,aQ,aP,aR,frz,aL,bJ,bR,dY,rg,e1,e2,A2,A3,ew,eZ,iN,kZ,hS2,lz]
theorem aiq {n:Nat} (hn:n=2∨n=3) {W U:Int} (W0:0≤W) (W1:W≤10 ^ 61) (U0:0 < U) (U1:U≤10 ^ 61) {k:Nat} (hk:k≠0) (x2 x4 x6 x7:Option AV):∀ (is:List PV) (S:Sto) (ns:List Int) (uss:List (List Int)) (x9 x10:Option AV),Row S 0 ns→S[k]?=some (.lst (uss.map tv))→uss.length+is.length≤99→(∀ us∈uss,Gu n 210 us)→∃ (vss:List (List Int)) (ns':List Int) (y9 y10:Option AV),dH [] (gN 9) ppB is [some (.ref 0),some (.pv (.int (n:Int))),x2,some (.pv (.int W)),x4,some (.pv (.int U)),x6,x7,some (.ref k),x9,x10] S=.nx [some (.ref 0),some (.pv (.int (n:Int))),x2,some (.pv (.int W)),x4,some (.pv (.int U)),x6,x7,some (.ref k),y9,y10] ((S.set 0 (.lst (li ns'))).set k (.lst (vss.map tv)))∧vss.length=uss.length+is.length∧∀ us∈vss,Gu n 210 us
 | [],S,ns,uss,x9,x10,h0,hS,_,hg=>by
  refine ⟨uss,ns,x9,x10,?_,rfl,hg⟩
  have e1:S.set 0 (.lst (li ns))=S:=xV h0
  have e2:S.set k (.lst (uss.map tv))=S:=List.ext_getElem? fun j=>by
   by_cases q:k=j
   ·subst q
    rw [List.getElem?_set_self (List.getElem?_eq_some_iff.mp hS).1]
    exact hS.symm
   ·rw [List.getElem?_set_ne q]
  rw [e1,e2]
  exact jM
 | i :: is,S,ns,uss,x9,x10,h0,hS,h9,hg=>by
  have h9:uss.length+(is.length+1)≤99:=h9
  obtain ⟨us,n1,y10,e1,g1⟩:=akI hn W0 W1 U0 U1 h0 hk hS (by omega) x2 x4 x6 x7 (some (.pv i)) x10
  have kl:=(List.getElem?_eq_some_iff.mp hS).1
  obtain ⟨vss,n2,z9,z10,e2,l2,g2⟩:=aiq hn W0 W1 U0 U1 hk x2 x4 x6 x7 is ((S.set 0 (.lst (li n1))).set k (.lst ((uss++[us]).map tv))) n1 (uss++[us]) (some (.pv i)) y10 (uY hk h0.lt _ _) (uU kl _ _) (by rw [List.length_append,List.length_singleton]; omega) (fun u hu=>by
   rcases List.mem_append.mp hu with y | y
   ·exact hg u y
   ·have:u=us:=by simpa using y
    rw [this]; exact g1)
  rw [aeI hk] at e2
  refine ⟨vss,n2,z9,z10,?_,by rw [l2,List.length_append,List.length_singleton,List.length_cons]; omega,g2⟩
  rw [iV]
  simp only [gN,List.set_cons_succ,List.set_cons_zero]
  rw [e1]
  exact e2
theorem aj2 {n:Nat} (hn:n=2∨n=3) {W U:Int} (W0:0≤W) (W1:W≤10 ^ 61) (U0:0 < U) (U1:U≤10 ^ 61) {S:Sto} {ns:List Int} {ts:List (List (List Int))} (h0:Row S 0 ns) (h1:S[1]?=some (.lst (ts.map px))) (hts:ts.length≤99) (hx:∀ uss∈ts,Sx n 210 uss) (x2 x4 x7 x8 x9 x10:Option AV):∃ (S':Sto) (ns':List Int) (ts':List (List (List Int))) (y8 y9 y10:Option AV),ggB [some (.ref 0),some (.pv (.int (n:Int))),x2,some (.pv (.int W)),x4,some (.pv (.int U)),some (.ref 1),x7,x8,x9,x10] S=.nx [some (.ref 0),some (.pv (.int (n:Int))),x2,some (.pv (.int W)),x4,some (.pv (.int U)),some (.ref 1),x7,y8,y9,y10] S'∧Row S' 0 ns'∧S'[1]?=some (.lst (ts'.map px))∧(∀ uss∈ts',Sx n 210 uss)∧ts'.length≤ts.length+1:=by
 have s1:=(List.getElem?_eq_some_iff.mp h1).1
 have hk0:S.length≠0:=by omega
 have hk1:S.length≠1:=by omega
 have r0:Row (S++[.lst []]) 0 ns:=by
  show (S++[.lst []])[0]?=_
  rw [List.getElem?_append_left (by omega)]
  exact h0
 have rk:(S++[SO.lst []])[S.length]?=some (.lst (([]:List (List Int)).map tv)):=by
  rw [List.getElem?_append_right (Nat.le_refl _),Nat.sub_self]
  rfl
 obtain ⟨vss,n1,y9,y10,e1,l1,g1⟩:=aiq hn W0 W1 U0 U1 hk0 x2 x4 (some (.ref 1)) x7 (cL 0 (n+1)) (S++[.lst []]) ns [] x9 x10 r0 rk (by unfold cL; simp; omega) (fun _ h=>by cases h)
 have lv3:vss.length=n+1:=by rw [l1]; unfold cL; simp
 have sl:S.length < (S++[SO.lst []]).length:=by rw [List.length_append]; simp
 have q0:(((S++[SO.lst []]).set 0 (.lst (li n1))).set S.length (.lst (vss.map tv)))[0]?=some (.lst (li n1)):=uY hk0 r0.lt _ _
 have q1:(((S++[SO.lst []]).set 0 (.lst (li n1))).set S.length (.lst (vss.map tv)))[1]?=some (.lst (ts.map px)):=by
  rw [aii hk1,List.getElem?_append_left s1]
  exact h1
 have qk:(((S++[SO.lst []]).set 0 (.lst (li n1))).set S.length (.lst (vss.map tv)))[S.length]?=some (.lst (vss.map tv)):=uU sl _ _
 obtain ⟨d,hd,_,_,ed⟩:=ah4 hn lv3 (fun us hu=>(g1 us hu).mono (by decide))
 have ed:=ed _ _ qk
 have es:=aax hn (((S++[SO.lst []]).set 0 (.lst (li n1))).set S.length (.lst (vss.map tv))) lv3 (fun us hu=>(g1 us hu).mono (by decide)) qk
 have es:fI [.ref S.length] (((S++[SO.lst []]).set 0 (.lst (li n1))).set S.length (.lst (vss.map tv)))=.ok (.pv (px (cnr vss))) (((S++[SO.lst []]).set 0 (.lst (li n1))).set S.length (.lst (vss.map tv))):=es
 have rg:=rgn (S++[.lst []]) (n:=n+1) (by omega)
 unfold ggB
 have e1':=e1
 have lz:(ts.map px).length < 16777216:=by rw [List.length_map]; omega
 have a1:aG (.int (n:Int)) (.int 1)=some (.int ((n+1:Nat):Int)):=rfl
 generalize ((S++[SO.lst []]).set 0 (.lst (li n1))).set S.length (.lst (vss.map tv))=S2 at *
 by_cases hz:d=0
 ·refine ⟨S2,n1,ts,some (.ref S.length),y9,y10,?_,q0,q1,hx,by omega⟩
  subst hz
  generalize ppB=PBX at *
  generalize cL 0 (n+1)=IL at *
  generalize ((n+1:Nat):Int)=N1 at *
  generalize (n:Int)=N at *
  simp [EC,aN,aJ,aK,fEq,fNe,cR,aO,aQ,aP,aR,frz,aL,fO,jX,dJ,dY,a1,rg,e1,ed]
 ·have nz:dU vss≠0:=fun z=>by
   rw [z] at hd
   exact hz (tQ.mp (by rw [hd]; rfl))
  have sx:=ahm hn (by decide) lv3 g1 nz
  refine ⟨S2.set 1 (.lst ((ts++[cnr vss]).map px)),n1,ts++[cnr vss],some (.ref S.length),y9,y10,?_,?_,?_,fun u hu=>?_,by rw [List.length_append]; exact Nat.le_refl _⟩
  ·have em:(ts++[cnr vss]).map px=ts.map px++[px (cnr vss)]:=by simp
   rw [em]
   have hz:(d == 0)=false:=by simpa using hz
   generalize ppB=PBX at *
   generalize px (cnr vss)=PX at *
   generalize ts.map px=TL at *
   generalize cL 0 (n+1)=IL at *
   generalize ((n+1:Nat):Int)=N1 at *
   generalize (n:Int)=N at *
   simp [EC,aN,aJ,aK,fEq,fNe,cR,aO,aQ,aP,aR,frz,aL,fO,jX,dJ,dY,a1,rg,e1,ed,hz,es,eZ,iN,kZ,q1,lz]
  ·show (S2.set 1 _)[0]?=_
   rw [List.getElem?_set_ne (by decide)]
   exact q0
  ·exact List.getElem?_set_self (List.getElem?_eq_some_iff.mp q1).1
  ·rcases List.mem_append.mp hu with y | y
   ·exact hx u y
   ·have:u=cnr vss:=by simpa using y
    rw [this]; exact sx
theorem aif {n:Nat} (hn:n=2∨n=3) {W U:Int} (W0:0≤W) (W1:W≤10 ^ 61) (U0:0 < U) (U1:U≤10 ^ 61) (x2 x4:Option AV):∀ (is:List PV) (S:Sto) (ns:List Int) (ts:List (List (List Int))) (x7 x8 x9 x10:Option AV),Row S 0 ns→S[1]?=some (.lst (ts.map px))→ts.length+is.length≤99→(∀ uss∈ts,Sx n 210 uss)→∃ (S':Sto) (ns':List Int) (ts':List (List (List Int))) (y7 y8 y9 y10:Option AV),dH [] (gN 7) ggB is [some (.ref 0),some (.pv (.int (n:Int))),x2,some (.pv (.int W)),x4,some (.pv (.int U)),some (.ref 1),x7,x8,x9,x10] S=.nx [some (.ref 0),some (.pv (.int (n:Int))),x2,some (.pv (.int W)),x4,some (.pv (.int U)),some (.ref 1),y7,y8,y9,y10] S'∧Row S' 0 ns'∧S'[1]?=some (.lst (ts'.map px))∧(∀ uss∈ts',Sx n 210 uss)∧ts'.length≤ts.length+is.length
 | [],S,ns,ts,x7,x8,x9,x10,h0,h1,_,hx=>⟨S,ns,ts,x7,x8,x9,x10,jM,h0,h1,hx,Nat.le_refl _⟩
 | i :: is,S,ns,ts,x7,x8,x9,x10,h0,h1,h9,hx=>by
  have h9:ts.length+(is.length+1)≤99:=h9
  obtain ⟨S1,n1,t1,y8,y9,y10,e1,r1,q1,g1,l1⟩:=aj2 hn W0 W1 U0 U1 h0 h1 (by omega) hx x2 x4 (some (.pv i)) x8 x9 x10
  obtain ⟨S2,n2,t2,z7,z8,z9,z10,e2,r2,q2,g2,l2⟩:=aif hn W0 W1 U0 U1 x2 x4 is S1 n1 t1 (some (.pv i)) y8 y9 y10 r1 q1 (by omega) g1
  refine ⟨S2,n2,t2,z7,z8,z9,z10,?_,r2,q2,g2,by rw [List.length_cons]; omega⟩
  rw [iV]
  simp only [gN,List.set_cons_succ,List.set_cons_zero]
  rw [e1]
  exact e2
def ppS:MS:=(aS (bA 7 (bJ ["_law_n"] [(0,"_law_row_here")] (dY (aB (aA 1) aE)) (gN 0) (aC dF (aY cG [] (aB (aA 1) (aB (mC (.int 5)) aE))) (mC (.int 2)))))
 (dW (eZ (aA 5) (aB (aY fE [] (aB (aC aG (aA 7) (mN eE (aB (aC aG (mC (.int 1)) (aY cG [] (aB (aA 0) (aB (mC (.int 2)) aE)))) aE))) aE)) aE))))
def ggS:MS:=(aS (bA 5 (fO aE))
 (aS (dJ (dY (aB (aC aG (aA 1) (mC (.int 1))) aE)) (gN 6) ppS)
 (sIf (bG (aC fNe (aY eH [] (aB (aA 5) aE)) (mC (.int 0)))) (dW (eZ (aA 3) (aB (aY fI [] (aB (aA 5) aE)) aE))) cA)))
theorem abY {k:Nat}:∀ (is:List PV) (S:Sto) (ns:List Int) (x:Option AV),Row S k ns→∃ (xs ns':List Int),bT [] (gN 0) (aC dF (aY cG [] (aB (aA 1) (aB (mC (.int 5)) aE))) (mC (.int 2))) is [x,some (.ref k)] S=.ok (xs.map .int) (S.set k (.lst (ns'.map .int)))∧xs.length=is.length∧∀ n∈xs,Bd 210 n
 | [],S,ns,x,h=>by
  refine ⟨[],ns,?_,rfl,fun _ h=>absurd h List.not_mem_nil⟩
  rw [show S.set k (.lst (ns.map .int))=S from xV h]
  exact eG
 | i :: is,S,ns,x,h=>by
  obtain ⟨t,n1,e1,t0,t1,_⟩:=nU (m:=5) h (by decide) (sm8 (by decide) (by decide))
  obtain ⟨xs,n2,e2,l2,b2⟩:=abY is _ n1 (some (.pv i)) (h.set n1)
  rw [List.set_set] at e2
  refine ⟨(t - 2) :: xs,n2,?_,by simp [l2],fun n hn=>?_⟩
  ·rw [eN]
   generalize S.set k (.lst (n1.map .int))=S1 at e1 e2
   simp [gN,EC,aN,aJ,aK,fIx,atI,ixN,fEq,fNe,eqN,aO,aQ,aP,aR,aG,aU,frz,aL,e1,e2]
  ·rcases List.mem_cons.mp hn with rfl | hn
   ·exact Bd.of (n:=9) (by omega) (Nat.lt_of_lt_of_le (show 9 < 2 ^ 10 by decide) (Nat.pow_le_pow_right (by decide) (by decide)))
   ·exact b2 n hn
theorem aih {n:Nat} (hn:n=2∨n=3) {S:Sto} {ns:List Int} (h0:Row S 0 ns) {k:Nat} (hk:k≠0) {uss:List (List Int)} (hS:S[k]?=some (.lst (uss.map tv))) (hl:uss.length≤99) (x2 x6 x7 x9 x10:Option AV):∃ (us:List Int) (ns':List Int) (y10:Option AV),ppS [some (.ref 0),some (.pv (.int (n:Int))),x2,x6,x7,some (.ref k),x9,x10] S=.nx [some (.ref 0),some (.pv (.int (n:Int))),x2,x6,x7,some (.ref k),x9,y10] ((S.set 0 (.lst (li ns'))).set k (.lst ((uss++[us]).map tv)))∧Gu n 210 us:=by
 obtain ⟨xs,n1,e1,l1,b1⟩:=abY (k:=0) (cL 0 n) S ns none h0
 have h1:=h0.set n1
 obtain ⟨b,n2,e2,b0,b2,_⟩:=nU (m:=2) h1 (by decide) (sm8 (by decide) (by decide))
 rw [List.set_set] at e2
 have l:(cL 0 n).length=n:=by unfold cL; simp
 rw [l] at l1
 have bb:Bd 210 (1+b):=Bd.of (n:=10 ^ 61+1) (by omega) (by decide +kernel)
 obtain ⟨zs,z,el,Z,_⟩:=qL (n:=n) (k:=210) (L:=xs) (b:=1+b) (by omega) l1 b1 bb
 have ew:=sT (xs++[1+b]) (S.set 0 (.lst (li n2))) fun x hx=>by
  rcases List.mem_append.mp hx with y | y
  ·exact (b1 x y).mono (by decide)
  ·have:x=1+b:=by simpa using y
   rw [this]; exact bb.mono (by decide)
 rw [el,List.map_append] at ew
 have ew:fE [.pv (.lst (xs.map .int++[.int (1+b)]))] (S.set 0 (.lst (li n2)))=.ok (.pv (tv (zs++[z]))) (S.set 0 (.lst (li n2))):=ew
 have rg:=rgn S (n:=n) (by omega)
 have A2:aG (.int 1) (.int b)=some (.int (1+b)):=rfl
 have A3:aG (.lst (xs.map .int)) (.lst [.int (1+b)])=some (.lst (xs.map .int++[.int (1+b)])):=if_pos (by rw [List.length_map,l1]; show n+1≤16777216; omega)
 have hS2:(S.set 0 (.lst (li n2)))[k]?=some (.lst (uss.map tv)):=by rw [List.getElem?_set_ne (fun z=>hk z.symm)]; exact hS
 have lz:(uss.map tv).length < 16777216:=by rw [List.length_map]; omega
 have em:(uss++[zs++[z]]).map tv=uss.map tv++[tv (zs++[z])]:=by simp
 refine ⟨zs++[z],n2,some (.pv (.lst (xs.map .int))),?_,⟨zs,z,rfl,Z⟩⟩
 rw [em]
 unfold ppS
 have e1:bT [] (gN 0) (aC dF (aY cG [] (aB (aA 1) (aB (mC (.int 5)) aE))) (mC (.int 2))) (cL 0 n) [none,some (.ref 0)] S=.ok (xs.map .int) (S.set 0 (.lst (li n1))):=e1
 have e2:cG [.ref 0,.pv (.int 2)] (S.set 0 (.lst (li n1)))=.ok (.pv (.int b)) (S.set 0 (.lst (li n2))):=e2
 generalize (aC dF (aY cG [] (aB (aA 1) (aB (mC (.int 5)) aE))) (mC (.int 2)))=ME1 at *
 generalize tv (zs++[z])=TV at *
 generalize S.set 0 (.lst (li n1))=S1 at *
 generalize S.set 0 (.lst (li n2))=S2 at *
 generalize cL 0 n=IL at *
 generalize xs.map PV.int=XL at *
 generalize uss.map tv=UL at *
 generalize 1+b=B1 at *
 generalize (n:Int)=N at *
 simp [EC,aN,aJ,aK,fEq,fNe,cR,aO,aQ,aP,aR,frz,aL,bJ,bR,dY,rg,e1,e2,A2,A3,ew,eZ,iN,kZ,hS2,lz]
theorem agk {n:Nat} (hn:n=2∨n=3) {k:Nat} (hk:k≠0) (x2 x6 x7:Option AV):∀ (is:List PV) (S:Sto) (ns:List Int) (uss:List (List Int)) (x9 x10:Option AV),Row S 0 ns→S[k]?=some (.lst (uss.map tv))→uss.length+is.length≤99→(∀ us∈uss,Gu n 210 us)→∃ (vss:List (List Int)) (ns':List Int) (y9 y10:Option AV),dH [] (gN 6) ppS is [some (.ref 0),some (.pv (.int (n:Int))),x2,x6,x7,some (.ref k),x9,x10] S=.nx [some (.ref 0),some (.pv (.int (n:Int))),x2,x6,x7,some (.ref k),y9,y10] ((S.set 0 (.lst (li ns'))).set k (.lst (vss.map tv)))∧vss.length=uss.length+is.length∧∀ us∈vss,Gu n 210 us
 | [],S,ns,uss,x9,x10,h0,hS,_,hg=>by
  refine ⟨uss,ns,x9,x10,?_,rfl,hg⟩
  have e1:S.set 0 (.lst (li ns))=S:=xV h0
  have e2:S.set k (.lst (uss.map tv))=S:=List.ext_getElem? fun j=>by
   by_cases q:k=j
   ·subst q
    rw [List.getElem?_set_self (List.getElem?_eq_some_iff.mp hS).1]
    exact hS.symm
   ·rw [List.getElem?_set_ne q]
  rw [e1,e2]
  exact jM
 | i :: is,S,ns,uss,x9,x10,h0,hS,h9,hg=>by
  have h9:uss.length+(is.length+1)≤99:=h9
  obtain ⟨us,n1,y10,e1,g1⟩:=aih hn h0 hk hS (by omega) x2 x6 x7 (some (.pv i)) x10
  have kl:=(List.getElem?_eq_some_iff.mp hS).1
  obtain ⟨vss,n2,z9,z10,e2,l2,g2⟩:=agk hn hk x2 x6 x7 is ((S.set 0 (.lst (li n1))).set k (.lst ((uss++[us]).map tv))) n1 (uss++[us]) (some (.pv i)) y10 (uY hk h0.lt _ _) (uU kl _ _) (by rw [List.length_append,List.length_singleton]; omega) (fun u hu=>by
   rcases List.mem_append.mp hu with y | y
   ·exact hg u y
   ·have:u=us:=by simpa using y
    rw [this]; exact g1)
  rw [aeI hk] at e2
  refine ⟨vss,n2,z9,z10,?_,by rw [l2,List.length_append,List.length_singleton,List.length_cons]; omega,g2⟩
  rw [iV]
  simp only [gN,List.set_cons_succ,List.set_cons_zero]
  rw [e1]
  exact e2
theorem aiG {n:Nat} (hn:n=2∨n=3) {S:Sto} {ns:List Int} {ts:List (List (List Int))} (h0:Row S 0 ns) (h1:S[1]?=some (.lst (ts.map px))) (hts:ts.length≤99) (hx:∀ uss∈ts,Sx n 210 uss) (x2 x7 x8 x9 x10:Option AV):∃ (S':Sto) (ns':List Int) (ts':List (List (List Int))) (y8 y9 y10:Option AV),ggS [some (.ref 0),some (.pv (.int (n:Int))),x2,some (.ref 1),x7,x8,x9,x10] S=.nx [some (.ref 0),some (.pv (.int (n:Int))),x2,some (.ref 1),x7,y8,y9,y10] S'∧Row S' 0 ns'∧S'[1]?=some (.lst (ts'.map px))∧(∀ uss∈ts',Sx n 210 uss)∧ts'.length≤ts.length+1:=by
 have s1:=(List.getElem?_eq_some_iff.mp h1).1
 have hk0:S.length≠0:=by omega
 have hk1:S.length≠1:=by omega
 have r0:Row (S++[.lst []]) 0 ns:=by
  show (S++[.lst []])[0]?=_
  rw [List.getElem?_append_left (by omega)]
  exact h0
 have rk:(S++[SO.lst []])[S.length]?=some (.lst (([]:List (List Int)).map tv)):=by
  rw [List.getElem?_append_right (Nat.le_refl _),Nat.sub_self]
  rfl
 obtain ⟨vss,n1,y9,y10,e1,l1,g1⟩:=agk hn hk0 x2 (some (.ref 1)) x7 (cL 0 (n+1)) (S++[.lst []]) ns [] x9 x10 r0 rk (by unfold cL; simp; omega) (fun _ h=>by cases h)
 have lv3:vss.length=n+1:=by rw [l1]; unfold cL; simp
 have sl:S.length < (S++[SO.lst []]).length:=by rw [List.length_append]; simp
 have q0:(((S++[SO.lst []]).set 0 (.lst (li n1))).set S.length (.lst (vss.map tv)))[0]?=some (.lst (li n1)):=uY hk0 r0.lt _ _
 have q1:(((S++[SO.lst []]).set 0 (.lst (li n1))).set S.length (.lst (vss.map tv)))[1]?=some (.lst (ts.map px)):=by
  rw [aii hk1,List.getElem?_append_left s1]
  exact h1
 have qk:(((S++[SO.lst []]).set 0 (.lst (li n1))).set S.length (.lst (vss.map tv)))[S.length]?=some (.lst (vss.map tv)):=uU sl _ _
 obtain ⟨d,hd,_,_,ed⟩:=ah4 hn lv3 (fun us hu=>(g1 us hu).mono (by decide))
 have ed:=ed _ _ qk
 have es:=aax hn (((S++[SO.lst []]).set 0 (.lst (li n1))).set S.length (.lst (vss.map tv))) lv3 (fun us hu=>(g1 us hu).mono (by decide)) qk
 have es:fI [.ref S.length] (((S++[SO.lst []]).set 0 (.lst (li n1))).set S.length (.lst (vss.map tv)))=.ok (.pv (px (cnr vss))) (((S++[SO.lst []]).set 0 (.lst (li n1))).set S.length (.lst (vss.map tv))):=es
 have rg:=rgn (S++[.lst []]) (n:=n+1) (by omega)
 unfold ggS
 have e1':=e1
 have lz:(ts.map px).length < 16777216:=by rw [List.length_map]; omega
 have a1:aG (.int (n:Int)) (.int 1)=some (.int ((n+1:Nat):Int)):=rfl
 generalize ((S++[SO.lst []]).set 0 (.lst (li n1))).set S.length (.lst (vss.map tv))=S2 at *
 by_cases hz:d=0
 ·refine ⟨S2,n1,ts,some (.ref S.length),y9,y10,?_,q0,q1,hx,by omega⟩
  subst hz
  generalize ppS=PBX at *
  generalize cL 0 (n+1)=IL at *
  generalize ((n+1:Nat):Int)=N1 at *
  generalize (n:Int)=N at *
  simp [EC,aN,aJ,aK,fEq,fNe,cR,aO,aQ,aP,aR,frz,aL,fO,jX,dJ,dY,a1,rg,e1,ed]
 ·have nz:dU vss≠0:=fun z=>by
   rw [z] at hd
   exact hz (tQ.mp (by rw [hd]; rfl))
  have sx:=ahm hn (by decide) lv3 g1 nz
  refine ⟨S2.set 1 (.lst ((ts++[cnr vss]).map px)),n1,ts++[cnr vss],some (.ref S.length),y9,y10,?_,?_,?_,fun u hu=>?_,by rw [List.length_append]; exact Nat.le_refl _⟩
  ·have em:(ts++[cnr vss]).map px=ts.map px++[px (cnr vss)]:=by simp
   rw [em]
   have hz:(d == 0)=false:=by simpa using hz
   generalize ppS=PBX at *
   generalize px (cnr vss)=PX at *
   generalize ts.map px=TL at *
   generalize cL 0 (n+1)=IL at *
   generalize ((n+1:Nat):Int)=N1 at *
   generalize (n:Int)=N at *
   simp [EC,aN,aJ,aK,fEq,fNe,cR,aO,aQ,aP,aR,frz,aL,fO,jX,dJ,dY,a1,rg,e1,ed,hz,es,eZ,iN,kZ,q1,lz]
  ·show (S2.set 1 _)[0]?=_
   rw [List.getElem?_set_ne (by decide)]
   exact q0
  ·exact List.getElem?_set_self (List.getElem?_eq_some_iff.mp q1).1
  ·rcases List.mem_append.mp hu with y | y
   ·exact hx u y
   ·have:u=cnr vss:=by simpa using y
    rw [this]; exact sx
theorem agt {n:Nat} (hn:n=2∨n=3) (x2:Option AV):∀ (is:List PV) (S:Sto) (ns:List Int) (ts:List (List (List Int))) (x7 x8 x9 x10:Option AV),Row S 0 ns→S[1]?=some (.lst (ts.map px))→ts.length+is.length≤99→(∀ uss∈ts,Sx n 210 uss)→∃ (S':Sto) (ns':List Int) (ts':List (List (List Int))) (y7 y8 y9 y10:Option AV),dH [] (gN 4) ggS is [some (.ref 0),some (.pv (.int (n:Int))),x2,some (.ref 1),x7,x8,x9,x10] S=.nx [some (.ref 0),some (.pv (.int (n:Int))),x2,some (.ref 1),y7,y8,y9,y10] S'∧Row S' 0 ns'∧S'[1]?=some (.lst (ts'.map px))∧(∀ uss∈ts',Sx n 210 uss)∧ts'.length≤ts.length+is.length
 | [],S,ns,ts,x7,x8,x9,x10,h0,h1,_,hx=>⟨S,ns,ts,x7,x8,x9,x10,jM,h0,h1,hx,Nat.le_refl _⟩
 | i :: is,S,ns,ts,x7,x8,x9,x10,h0,h1,h9,hx=>by
  have h9:ts.length+(is.length+1)≤99:=h9
  obtain ⟨S1,n1,t1,y8,y9,y10,e1,r1,q1,g1,l1⟩:=aiG hn h0 h1 (by omega) hx x2 (some (.pv i)) x8 x9 x10
  obtain ⟨S2,n2,t2,z7,z8,z9,z10,e2,r2,q2,g2,l2⟩:=agt hn x2 is S1 n1 t1 (some (.pv i)) y8 y9 y10 r1 q1 (by omega) g1
  refine ⟨S2,n2,t2,z7,z8,z9,z10,?_,r2,q2,g2,by rw [List.length_cons]; omega⟩
  rw [iV]
  simp only [gN,List.set_cons_succ,List.set_cons_zero]
  rw [e1]
  exact e2
theorem ajJ {S:Sto} {x:SO} (h:S[0]?=some x):S.take 1=[x]:=by
 cases S with
 | nil=>cases h
 | cons a r =>
  have:a=x:=by simpa using h
  rw [this]
  rfl
def tgB:MS:=(aS (bA 6 (fO aE))
 (aS (dJ (dY (aB (aA 4) aE)) (gN 7) ggB)
 (bE (aA 6))))
theorem agn {n:Nat} (hn:n=2∨n=3) {W U:Int} (W0:0≤W) (W1:W≤10 ^ 61) (U0:0 < U) (U1:U≤10 ^ 61) {M:Nat} (hM:M≤9) (ns:List Int) (x2:Option AV):∃ (S':Sto) (ns':List Int) (ts:List (List (List Int))),tgB [some (.ref 0),some (.pv (.int (n:Int))),x2,some (.pv (.int W)),some (.pv (.int (M:Int))),some (.pv (.int U)),none,none,none,none,none] [.lst (li ns)]=.rt (.ref 1) S'∧S'.take 1=[.lst (li ns')]∧S'[1]?=some (.lst (ts.map px))∧(∀ uss∈ts,Sx n 210 uss)∧ts.length≤9:=by
 obtain ⟨S',n1,ts,y7,y8,y9,y10,e1,r1,q1,g1,l1⟩:=aif hn W0 W1 U0 U1 x2 (some (.pv (.int (M:Int)))) (cL 0 M) [.lst (li ns),.lst []] ns [] none none none none rfl rfl (by unfold cL; simp; omega) (fun _ h=>by cases h)
 have l:(cL 0 M).length=M:=by unfold cL; simp
 rw [l] at l1
 have rg:=rgn [.lst (li ns),.lst []] (n:=M) hM
 refine ⟨S',n1,ts,?_,ajJ r1,q1,g1,by simpa using Nat.le_trans l1 (by simpa using hM)⟩
 unfold tgB
 generalize ggB=GBX at *
 generalize cL 0 M=IL at *
 generalize (M:Int)=MM at *
 generalize (n:Int)=N at *
 simp [EC,aN,aJ,aK,fIx,atI,ixN,fEq,fNe,eqN,aO,aQ,aP,aR,aG,aU,frz,aL,fO,jX,dJ,dY,rg,e1]
theorem afK {n:Nat} (hn:n=2∨n=3) (ns:List Int):∃ (ts:List (List (List Int))) (ns':List Int),lJ [.ref 0,.pv (.int (n:Int)),.pv (.int 5)] [.lst (li ns)]=.ok (.ref 1) [.lst (li ns'),.lst (ts.map px)]∧(∀ uss∈ts,Sx n 210 uss)∧ts.length≤9:=by
 obtain ⟨v,n1,e1,v0,v1⟩:=lH ns (m:=4) (by decide) (sm8 (by decide) (by decide))
 obtain ⟨m,n2,e2,m0,m1⟩:=lH n1 (m:=6) (by decide) (sm8 (by decide) (by decide))
 obtain ⟨t,n3,e3,t0,t1⟩:=lH n2 (m:=8) (by decide) (sm8 (by decide) (by decide))
 obtain ⟨u,n4,e4,u0,u1⟩:=lH n3 (m:=2) (by decide) (sm8 (by decide) (by decide))
 obtain ⟨W,iW,W0,W1⟩:∃ W:Int,fIx (.lst [.int 2,.int 9,.int 100000000000000000000,.int 10000000000000000000000000000000000000000000000000000000000000]) (.int v)=some (.int W)∧0≤W∧W≤10 ^ 61:=by
  have:v=0∨v=1∨v=2∨v=3:=by omega
  rcases this with rfl | rfl | rfl | rfl
  ·exact ⟨2,rfl,by decide +kernel,by decide +kernel⟩
  ·exact ⟨9,rfl,by decide +kernel,by decide +kernel⟩
  ·exact ⟨100000000000000000000,rfl,by decide +kernel,by decide +kernel⟩
  ·exact ⟨10000000000000000000000000000000000000000000000000000000000000,rfl,by decide +kernel,by decide +kernel⟩
 obtain ⟨U,iU,U0,U1⟩:∃ U:Int,fIx (.lst [.int 100000000000000000000,.int 10000000000000000000000000000000000000000000000000000000000000]) (.int u)=some (.int U)∧0 < U∧U≤10 ^ 61:=by
  have:u=0∨u=1:=by omega
  rcases this with rfl | rfl
  ·exact ⟨100000000000000000000,rfl,by decide +kernel,by decide +kernel⟩
  ·exact ⟨10000000000000000000000000000000000000000000000000000000000000,rfl,by decide +kernel,by decide +kernel⟩
 have hb:wI=(aS (bA 3 (aC fIx (mN eE (aB (mC (.int 2)) (aB (mC (.int 9)) (aB (aC eD (mC (.int 10)) (mC (.int 20))) (aB (aC eD (mC (.int 10)) (mC (.int 61))) aE))))) (aY cG [] (aB (aA 0) (aB (mC (.int 4)) aE)))))
 (aS (bA 4 (aY cG [] (aB (aA 0) (aB (aC aG (aA 2) (mC (.int 1))) aE))))
 (aS (bA 5 (mC (.int 12)))
 (aS (sIf (bG (aC fEq (aY cG [] (aB (aA 0) (aB (mC (.int 8)) aE))) (mC (.int 7)))) (aS (bA 5 (aC fIx (mN eE (aB (aC eD (mC (.int 10)) (mC (.int 20))) (aB (aC eD (mC (.int 10)) (mC (.int 61))) aE))) (aY cG [] (aB (aA 0) (aB (mC (.int 2)) aE)))))
 (bA 4 (mR qY (aB (aA 4) (aB (mC (.int 1)) aE))))) cA)
 tgB)))):=rfl
 have a1:aG (.int 5) (.int 1)=some (.int 6):=rfl
 by_cases ht:t=7
 ·obtain ⟨M,eM,hM⟩:∃ M:Nat,qY [.int m,.int 1]=some (.int (M:Int))∧M≤9:=by
   refine ⟨(if (1:Int) < m then 1 else m).toNat,?_,?_⟩
   ·show some (PV.int (if (1:Int) < m then 1 else m))=_
    congr 2
    split <;> omega
   ·split <;> omega
  obtain ⟨S',n5,ts,e5,k5,q5,g5,l5⟩:=agn hn W0 W1 U0 U1 hM n4 (some (.pv (.int 5)))
  refine ⟨ts,n5,?_,g5,l5⟩
  unfold lJ fnM
  rw [hb]
  subst ht
  generalize tgB=TG at *
  generalize (M:Int)=MM at *
  generalize (n:Int)=N at *
  generalize ts.map px=TL at *
  simp [EC,aN,aJ,aK,fEq,fNe,cR,aO,aQ,aP,aR,frz,aL,a1,e1,q20,p61,iW,e2,e3,e4,iU,eM,e5,k5,q5]
 ·obtain ⟨M,eM,hM⟩:∃ M:Nat,m=(M:Int)∧M≤9:=⟨m.toNat,by omega,by omega⟩
  subst eM
  obtain ⟨S',n5,ts,e5,k5,q5,g5,l5⟩:=agn hn W0 W1 (U:=12) (by decide) (by decide +kernel) hM n3 (some (.pv (.int 5)))
  refine ⟨ts,n5,?_,g5,l5⟩
  have ht:(t == 7)=false:=by simpa using ht
  unfold lJ fnM
  rw [hb]
  generalize tgB=TG at *
  generalize (M:Int)=MM at *
  generalize (n:Int)=N at *
  generalize ts.map px=TL at *
  simp [EC,aN,aJ,aK,fEq,fNe,cR,aO,aQ,aP,aR,frz,aL,a1,e1,q20,p61,iW,e2,e3,ht,e5,k5,q5]
theorem afv (ns:List Int):∃ (ts:List (List (List Int))) (ns':List Int),mS [.ref 0,.pv (.int 2),.pv (.int 3)] [.lst (li ns)]=.ok (.ref 1) [.lst (li ns'),.lst (ts.map px)]∧(∀ uss∈ts,Sx 2 210 uss)∧ts.length≤9:=by
 obtain ⟨m,n1,e1,m0,m1,_⟩:=nU (S:=[.lst (li ns),.lst []]) (k:=0) (ns:=ns) (m:=4) rfl (by decide) (sm8 (by decide) (by decide))
 have e1:cG [.ref 0,.pv (.int 4)] [.lst (li ns),.lst []]=.ok (.pv (.int m)) [.lst (li n1),.lst []]:=e1
 obtain ⟨M,rfl,hM⟩:∃ M:Nat,m=(M:Int)∧M≤9:=⟨m.toNat,by omega,by omega⟩
 obtain ⟨S',n2,ts,y7,y8,y9,y10,e2,r2,q2,g2,l2⟩:=agt (n:=2) (.inl rfl) (some (.pv (.int 3))) (cL 0 M) [.lst (li n1),.lst []] n1 [] none none none none rfl rfl (by unfold cL; simp; omega) (fun _ h=>by cases h)
 have l:(cL 0 M).length=M:=by unfold cL; simp
 rw [l] at l2
 have rg:=rgn [.lst (li n1),.lst []] (n:=M) hM
 have k2:=ajJ r2
 refine ⟨ts,n2,?_,g2,by simpa using Nat.le_trans l2 (by simpa using hM)⟩
 have hb:wF=(aS (bA 3 (fO aE))
 (aS (dJ (dY (aB (aY cG [] (aB (aA 0) (aB (aC aG (aA 2) (mC (.int 1))) aE))) aE)) (gN 4) ggS)
 (bE (aA 3)))):=rfl
 have a1:aG (.int 3) (.int 1)=some (.int 4):=rfl
 unfold mS fnM
 rw [hb]
 have e2:dH [] (gN 4) ggS (cL 0 M) [some (.ref 0),some (.pv (.int 2)),some (.pv (.int 3)),some (.ref 1),none,none,none,none] [.lst (li n1),.lst []]=.nx [some (.ref 0),some (.pv (.int 2)),some (.pv (.int 3)),some (.ref 1),y7,y8,y9,y10] S':=e2
 generalize ggS=GBX at *
 generalize cL 0 M=IL at *
 generalize (M:Int)=MM at *
 generalize ts.map px=TL at *
 simp [EC,aN,aJ,aK,fEq,fNe,cR,aO,aQ,aP,aR,frz,aL,a1,fO,jX,dJ,dY,e1,rg,e2,k2,q2]
theorem ag4 (ns:List Int) (L:List PV):∃ (A:PV) (ns':List Int),nI [.ref 0,.pv (.lst L)] [.lst (li ns)]=.ok (.pv A) [.lst (li ns')]∧Sv A L∧aK [A]=some (.lst L):=by
 obtain ⟨v,n1,e1,v0,v1⟩:=lH ns (m:=2) (by decide) (sm8 (by decide) (by decide))
 unfold nI fnM xN
 by_cases hv:v=1
 ·subst hv
  exact ⟨.tup L,n1,by simp [EC,aN,aJ,aK,fIx,atI,ixN,fEq,fNe,eqN,aO,aQ,aP,aR,aG,aU,frz,aL,e1],.inr rfl,rfl⟩
 ·have hv:(v == 1)=false:=by simpa using hv
  exact ⟨.lst L,n1,by simp [EC,aN,aJ,aK,fIx,atI,ixN,fEq,fNe,eqN,aO,aQ,aP,aR,aG,aU,frz,aL,e1,hv],.inl rfl,rfl⟩
def tlB:MS:=(aS (bA 3 (aY nI [] (aB (aA 0) (aB (aA 2) aE))))
 (aS (bA 4 (aY mX [] (aB (aA 2) aE)))
 (aS (bA 5 (mC .non))
 (aS (oW (oZ (mC (.str "told")) (oK jJ [] (aB (aA 3) aE))) "TooGreat" 7 5 (fun ρ=>(ρ.set 5 (some (.pv (.tup [.str "refused",.non]))))))
 (aS (sIf (bG (aC fNe (mR aK (aB (aA 3) aE)) (aA 2))) (bE (mC (.bl false))) cA)
 (aS (sIf (bG (mUn lF (aA 4))) (bE (aC fEq (aA 5) (mN eW (aB (mC (.str "refused")) (aB (mC .non) aE))))) cA)
 (aS (sIf (mOr (bG (aC fNe (aC fIx (aA 5) (mC (.int 0))) (mC (.str "told")))) (mOr (jH (bG (mUn (eY "str") (aC fIx (aA 5) (mC (.int 1)))))) (bG (aC fNe (aC fIx (aA 5) (mC (.int 1))) (aA 4))))) (bE (mC (.bl false))) cA)
 (aS (bA 6 (bW nE [] (aB (aA 4) aE)))
 (bE (jW (aY mZ [] (aB (aA 6) (aB (aA 1) aE))) (aC fEq (mR aK (aB (aA 6) aE)) (aA 2))))))))))))
theorem aic {n:Nat} (hn:n=2∨n=3) {hs:List (List (List Int))} (hl:hs.length≤200) (h:∀ uss∈hs,Sx n 210 uss) (ns:List Int):∃ ns':List Int,tlB [some (.ref 0),some (.pv (.int (n:Int))),some (.pv (.lst (hs.map px))),none,none,none,none] [.lst (li ns)]=.rt (.pv (.bl true)) [.lst (li ns')]:=by
 obtain ⟨A,n1,e1,hA,eA⟩:=ag4 ns (hs.map px)
 have et:=aff [.lst (li n1)] hl h (by decide) (by omega)
 have es:=aiv [.lst (li n1)] hA hl h (by decide) (by omega)
 have q:eqN 8 (.lst (hs.map px)) (.lst (hs.map px))=some true:=(afw (m:=5) h).2
 have qs:eqN 8 (.str "told") (.str "told")=some true:=by simp [eqN]
 have qr:eqN 8 (.tup [.str "refused",.non]) (.tup [.str "refused",.non])=some true:=by simp [eqN,fW]
 have i0:∀ x y:PV,fIx (.tup [x,y]) (.int 0)=some x:=fun _ _=>rfl
 have i1:∀ x y:PV,fIx (.tup [x,y]) (.int 1)=some y:=fun _ _=>rfl
 refine ⟨n1,?_⟩
 unfold tlB
 by_cases z:gh hs
 ·have ew:wv gh hTx hs=.non:=if_pos z
  rw [ew] at et
  have es:=es.1 z
  generalize hs.map px=HL at *
  generalize (n:Int)=N at *
  simp [EC,aN,aJ,fEq,fNe,cR,aO,aQ,aP,aR,aG,aU,frz,aL,e1,et,oW,oZ,oK,es,eA,q,lF,qr]
 ·have ew:wv gh hTx hs=.str (tx (hTx hs)):=if_neg z
  rw [ew] at et
  have es:=es.2 z
  have er:=ad1 [.lst (li n1)] hn hl h (by decide) z
  have ef:=aez hn [.lst (li n1)] h (by decide)
  have eL:aK [.tup (hs.map px)]=some (.lst (hs.map px)):=rfl
  have qt:eqN 8 (.str (tx (hTx hs))) (.str (tx (hTx hs)))=some true:=by simp [eqN]
  generalize tx (hTx hs)=TT at *
  generalize hs.map px=HL at *
  generalize (n:Int)=N at *
  simp [EC,aN,aJ,fEq,fNe,cR,aO,aQ,aP,aR,aG,aU,frz,aL,e1,et,oW,oZ,oK,es,eA,q,lF,eY,qs,qt,i0,i1,er,ef,eL]
theorem aiY:Sx 2 210 [[0,0,1],[1,0,1],[0,1,1]]:=by
 have c:cnr [[0,0,1],[1,0,1],[0,1,1]]=[[0,0,1],[1,0,1],[0,1,1]]:=by decide +kernel
 have g:∀ us∈[[0,0,1],[1,0,1],[0,1,(1:Int)]],Gu 2 210 us:=fun us hu=>by
  have b0:Bd 210 (0:Int):=Bd.of (n:=0) (by decide) (by decide +kernel)
  have b1:Bd 210 (1:Int):=Bd.of (n:=1) (by decide) (by decide +kernel)
  have:us=[0,0,1]∨us=[1,0,1]∨us=[0,1,1]:=by simpa using hu
  rcases this with rfl | rfl | rfl
  ·exact ⟨[0,0],1,rfl,rfl,by decide,by decide +kernel,by simp [b0],b1⟩
  ·exact ⟨[1,0],1,rfl,rfl,by decide,by decide +kernel,by simp [b0,b1],b1⟩
  ·exact ⟨[0,1],1,rfl,rfl,by decide,by decide +kernel,by simp [b0,b1],b1⟩
 have:=ahm (n:=2) (.inl rfl) (by decide) (uss:=[[0,0,1],[1,0,1],[0,1,1]]) rfl g (by decide +kernel)
 rw [c] at this
 exact this
theorem ajQ (u:List (List Int)) (m:Nat):vL [px u] (m:Int)=(List.replicate m u).map px:=by
 unfold vL
 rw [Int.toNat_natCast,List.map_replicate]
 induction m with
 | zero=>rfl
 | succ m ih=>rw [List.replicate_succ,List.flatten_cons,ih,List.replicate_succ]; rfl
theorem ajj (p:PV) (L:List PV):fSl (.lst (p :: L)) none (some 1)=some (.lst [p]):=by
 unfold fSl
 dsimp only
 unfold gR
 have e1:HT.sIx (p :: L).length (p :: L).length (some 1)=1:=by
  rw [show (some (1:Int))=some ((1:Nat):Int) from rfl,HT.sIx_nat,List.length_cons]
  omega
 rw [e1]
 rfl
theorem aio:yR=(aS (bA 1 (aC aG (mC (.int 2)) (aY cG [] (aB (aA 0) (aB (mC (.int 2)) aE)))))
 (aS (bA 2 (aY lJ [] (aB (aA 0) (aB (aA 1) (aB (mC (.int 5)) aE)))))
 (aS (sIf (bG (aC fEq (aY cG [] (aB (aA 0) (aB (mC (.int 16)) aE))) (mC (.int 15)))) (aS (bA 1 (mC (.int 2)))
 (bA 2 (aC rJ (mSl (aC aG (aY mS [] (aB (aA 0) (aB (mC (.int 2)) (aB (mC (.int 3)) aE)))) (mN eE (aB (mN eW (aB (mN eW (aB (mC (.int 0)) (aB (mC (.int 0)) (aB (mC (.int 1)) aE)))) (aB (mN eW (aB (mC (.int 1)) (aB (mC (.int 0)) (aB (mC (.int 1)) aE)))) (aB (mN eW (aB (mC (.int 0)) (aB (mC (.int 1)) (aB (mC (.int 1)) aE)))) aE)))) aE))) mO0 (mO1 (mC (.int 1)))) (aC aG (mC (.int 60)) (aY cG [] (aB (aA 0) (aB (mC (.int 41)) aE))))))) cA)
 tlB))):=rfl
theorem ad5 (ms:List Int):∃ ns':List Int,nX [.ref 0] [.lst (li ms)]=.ok (.pv (.bl true)) [.lst (li ns')]:=by
 obtain ⟨a,n1,e1,a0,a1⟩:=lH ms (m:=2) (by decide) (sm8 (by decide) (by decide))
 obtain ⟨n,hn,ea⟩:∃ n:Nat,(n=2∨n=3)∧2+a=(n:Int):=⟨(2+a).toNat,by omega,by omega⟩
 obtain ⟨ts,n2,e2,g2,l2⟩:=afK hn n1
 obtain ⟨t,n3,e3,t0,t1⟩:=lH n2 (m:=16) (by decide) (sm8 (by decide) (by decide))
 have A1:aG (.int 2) (.int a)=some (.int (n:Int)):=by rw [aG,ea]
 unfold nX fnM
 rw [aio]
 by_cases ht:t=15
 ·subst ht
  obtain ⟨us,n4,e4,g4,l4⟩:=afv n3
  obtain ⟨m,n5,e5,m0,m1⟩:=lH n4 (m:=41) (by decide) (sm8 (by decide) (by decide))
  obtain ⟨M,eM,hM⟩:∃ M:Nat,60+m=(M:Int)∧M≤200:=⟨(60+m).toNat,by omega,by omega⟩
  have A2:aG (.int 60) (.int m)=some (.int (M:Int)):=by rw [aG,eM]
  have A3:aG (.lst (us.map px)) (.lst [px [[0,0,1],[1,0,1],[0,1,1]]])=some (.lst (us.map px++[px [[0,0,1],[1,0,1],[0,1,1]]])):=if_pos (by rw [List.length_map]; show us.length+1≤16777216; omega)
  obtain ⟨u,sx,A4⟩:∃ u:List (List Int),Sx 2 210 u∧fSl (.lst (us.map px++[px [[0,0,1],[1,0,1],[0,1,1]]])) none (some 1)=some (.lst [px u]):=by
   cases us with
   | nil=>exact ⟨_,aiY,rfl⟩
   | cons u r=>exact ⟨u,g4 u (by simp),ajj _ _⟩
  have A5:rJ (.lst [px u]) (.int (M:Int))=some (.lst ((List.replicate M u).map px)):=by
   rw [adD,if_pos ⟨by omega,by omega,by show 1*(M:Int).toNat≤16777216; omega⟩,ajQ]
  obtain ⟨n6,e6⟩:=aic (n:=2) (.inl rfl) (hs:=List.replicate M u) (by rw [List.length_replicate]; exact hM) (fun v hv=>by
   rw [(List.mem_replicate.mp hv).2]; exact sx) n5
  refine ⟨n6,?_⟩
  have e6:tlB [some (.ref 0),some (.pv (.int 2)),some (.pv (.lst ((List.replicate M u).map px))),none,none,none,none] [.lst (li n5)]=.rt (.pv (.bl true)) [.lst (li n6)]:=e6
  have A3:aG (.lst (us.map px)) (.lst [.tup [.tup [.int 0,.int 0,.int 1],.tup [.int 1,.int 0,.int 1],.tup [.int 0,.int 1,.int 1]]])=some (.lst (us.map px++[px [[0,0,1],[1,0,1],[0,1,1]]])):=A3
  generalize tlB=TB at *
  generalize (List.replicate M u).map px=RL at *
  generalize us.map px++[px [[0,0,1],[1,0,1],[0,1,1]]]=AL at *
  generalize px u=PU at *
  generalize us.map px=UL at *
  generalize ts.map px=TL at *
  generalize (M:Int)=MM at *
  generalize (n:Int)=N at *
  simp [EC,aN,aJ,aK,fEq,fNe,cR,aO,aQ,aP,aR,frz,aL,e1,A1,e2,e3,e4,A3,mSl,mO0,mO1,dG,A4,e5,A2,A5,e6]
 ·have ht:(t == 15)=false:=by simpa using ht
  obtain ⟨n6,e6⟩:=aic hn (hs:=ts) (by omega) g2 n3
  refine ⟨n6,?_⟩
  generalize tlB=TB at *
  generalize ts.map px=TL at *
  generalize (n:Int)=N at *
  simp [EC,aN,aJ,aK,fEq,fNe,cR,aO,aQ,aP,aR,frz,aL,e1,A1,e2,e3,ht,e6]
theorem afq (ns:List Int) (h:ns.length≤63):∃ S,ahe [.pv (.lst (ns.map .int))] []=.ok (.pv (.bl true)) S:=by
 obtain ⟨ms,e0,_⟩:=ajO ns [] h
 have e0:oJ [.pv (.lst (ns.map .int))] []=.ok (.ref 0) [.lst (li ms)]:=e0
 obtain ⟨n1,e1⟩:=ad5 ms
 obtain ⟨n2,e2⟩:=ad5 n1
 refine ⟨[],?_⟩
 generalize ns.map PV.int=NL at *
 unfold ahe fnM ahE
 simp [EC,aN,aJ,aK,fIx,atI,ixN,fEq,fNe,eqN,aO,aQ,aP,aR,aG,aU,frz,aL,e0,e1,e2]
def HF (K:PySem.W.Frag) (x:Str) (st:Stmt):Prop:=∃ (f:Addr) (fd:FuncData),PySem.W.nsIn K mainGlobals x=some (some (.ref f))∧Fun K x x st f fd
theorem bX {K:PySem.W.Frag} {x:Str} {st:Stmt} {h:Heap} {mg:Str→Option Value} (X:K.In h) (G:h.Ns mainGlobals mg) (q:HF K x st):∃ f fd,Fun K x x st f fd∧PySem.W.keepIn K (.ref f)=true∧mg x=some (.ref f):=by
 obtain ⟨f,fd,a,F⟩:=q
 exact ⟨f,fd,F,F.kp,PySem.W.mg_of X G a⟩
theorem hF_of {K:PySem.W.Frag} {x:Str} {st:Stmt} {f:Addr} {oc:Value} {od an:Option Addr} {osl:Array (Option Value)} {kV doc pm cdv ct:Value} (a:PySem.W.nsIn K mainGlobals x=some (some (.ref f))) (l:K.lookup f=some ⟨oc,od,.func (PySem.W.fnOf x x (gK st) (eT st) (aX st) .none kV doc pm an cdv ct),osl⟩)
  (c:PySem.W.codeIn K cdv x=true) (k:PySem.W.keepIn K (.ref f)=true):HF K x st:=⟨_,_,a,af8 l c k⟩
theorem cS {P:Program} {w:World} {K:PySem.W.Frag} {mg:Str→Option Value} {base:Heap} {cl:Str→Addr} {x:Str} {k:Nat} {ps:List Str} {g:FM} {a:Addr} {d:FuncData} (G:aW P w K mg base CX0 k a d ps (bL K cl g)) (b:cU K d ps []) (kp:PySem.W.keepIn K (.ref a)=true) (n:mg x=some (.ref a)):Cal P w K mg base cl x k ps g:=⟨_,_,G,b,kp,n⟩
theorem all_mk {l:PySem.W.OpenLaw} {w:World} {K:PySem.W.Frag} {h:Heap} {mg:Str→Option Value} {fa:Addr} (X:K.In h) (G:h.Ns mainGlobals mg) (hfa:mg "law"=some (.ref fa))
  (h41:HF K "_law_row" zX)
  (h42:HF K "_law_take" zC)
  (h43:HF K "_law_gcd" zO)
  (h44:HF K "_law_lowest" sZ)
  (h50:HF K "_law_dot" uG)
  (h49:HF K "_law_cross" xZ)
  (h51:HF K "_law_turn" yJ)
  (h48:HF K "_law_gap" uE)
  (h52:HF K "_law_det" uF)
  (h53:HF K "_law_simplex" xB)
  (h62:HF K "_law_great_heap" rQ)
  (h63:HF K "_law_small_heap" rS)
  (h57:HF K "_law_handed" xH)
  (h47:HF K "_law_frac" yN)
  (h58:HF K "_law_written" wS)
  (h59:HF K "_law_point_text" rX)
  (h60:HF K "_law_points_text" rP)
  (h61:HF K "_law_heap_text" sC)
  (h31:HF K "shown_rows" wN)
  (h8:HF K "sign" zK)
  (h9:HF K "divisor" xM)
  {f11:Addr} {od11 an11:Option Addr} {sl11:Array (Option Value)} {oc11 kV11 dc11 pm11 cd11 ct11:Value}
  {T11:Addr} {tc11:Value} {td11:Option Addr} {tl11:Array (Option Value)} {tt11:Tok} {tn11:Nat}
  (a11:PySem.W.nsIn K mainGlobals "fraction"=some (some (.ref f11))) (l11:K.lookup f11=some ⟨oc11,od11,.func (PySem.W.fnOf "fraction" "fraction" (gK nG) (eT nG) (aX nG) (.ref T11) kV11 dc11 pm11 an11 cd11 ct11),sl11⟩) (c11:PySem.W.codeIn K cd11 "fraction"=true) (k11:PySem.W.keepIn K (.ref f11)=true)
  (t11:K.lookup T11=some ⟨tc11,td11,.seq #[.int 1 tt11] tn11,tl11⟩)
  (h14:HF K "measures" sL)
  (h27:HF K "shown_whole" wG)
  (h28:HF K "shown_number" wB)
  (h29:HF K "shown_point" rR)
  (h30:HF K "shown_simplex" rO)
  (h32:HF K "shown_heap" rY)
  (h38:HF K "read_rows" wP)
  (h33:HF K "refuse_unless" wA)
  (h34:HF K "read_whole" rZ)
  (h35:HF K "read_number" wJ)
  (h10:HF K "reduced" sP)
  {f13:Addr} {od13 an13:Option Addr} {sl13:Array (Option Value)} {oc13 kV13 dc13 pm13 cd13 ct13:Value}
  {T13:Addr} {tc13:Value} {td13:Option Addr} {tl13:Array (Option Value)} {tt13:Tok} {tn13:Nat}
  (a13:PySem.W.nsIn K mainGlobals "point"=some (some (.ref f13))) (l13:K.lookup f13=some ⟨oc13,od13,.func (PySem.W.fnOf "point" "point" (gK lS) (eT lS) (aX lS) (.ref T13) kV13 dc13 pm13 an13 cd13 ct13),sl13⟩) (c13:PySem.W.codeIn K cd13 "point"=true) (k13:PySem.W.keepIn K (.ref f13)=true)
  (t13:K.lookup T13=some ⟨tc13,td13,.seq #[.int 1 tt13] tn13,tl13⟩)
  (h15:HF K "point_at" sK)
  (h36:HF K "read_point" sA)
  (h37:HF K "read_corners" pM)
  (h16:HF K "whole_arrow" rT)
  (h17:HF K "dot" uR)
  (h18:HF K "normal" xY)
  (h19:HF K "determinant" rV)
  (h20:HF K "side" zS)
  (h22:HF K "simplex" xO)
  (h39:HF K "read_heap" nC)
  (h45:HF K "_law_whole" yB)
  (h46:HF K "_law_wholes" sO)
  (h54:HF K "_law_point_form" wH)
  (h55:HF K "_law_simplex_form" rN)
  (h56:HF K "_law_heap_form" sB)
  (h64:HF K "_law_once" yY)
  {f65:Addr} {od65 an65:Option Addr} {sl65:Array (Option Value)} {oc65 kV65 dc65 pm65 cd65 ct65:Value}
  (a65:PySem.W.nsIn K mainGlobals "law"=some (some (.ref f65))) (l65:K.lookup f65=some ⟨oc65,od65,.func (PySem.W.fnOf "law" "law" (gK jZ) (eT jZ) (aX jZ) .none kV65 dc65 pm65 an65 cd65 ct65),sl65⟩) (c65:PySem.W.codeIn K cd65 "law"=true) (k65:PySem.W.keepIn K (.ref f65)=true)
  (z1:PySem.W.nsIn K mainGlobals "abs"=some none)
  (z2:PySem.W.nsIn K mainGlobals "all"=some none)
  (z3:PySem.W.nsIn K mainGlobals "bool"=some none)
  (z4:PySem.W.nsIn K mainGlobals "enumerate"=some none)
  (z5:PySem.W.nsIn K mainGlobals "int"=some none)
  (z6:PySem.W.nsIn K mainGlobals "isinstance"=some none)
  (z7:PySem.W.nsIn K mainGlobals "len"=some none)
  (z8:PySem.W.nsIn K mainGlobals "list"=some none)
  (z9:PySem.W.nsIn K mainGlobals "min"=some none)
  (z10:PySem.W.nsIn K mainGlobals "range"=some none)
  (z11:PySem.W.nsIn K mainGlobals "sorted"=some none)
  (z12:PySem.W.nsIn K mainGlobals "str"=some none)
  (z13:PySem.W.nsIn K mainGlobals "sum"=some none)
  (z14:PySem.W.nsIn K mainGlobals "tuple"=some none)
  (z15:PySem.W.nsIn K mainGlobals "zip"=some none)
  {C1 C2 C3 C4 C5:Addr}
  (y1:PySem.W.nsIn K mainGlobals "Flat"=some (some (.ref C1))) (x1:PySem.W.excIn K C1 eV "ValueError.__new__"=true)
  (y2:PySem.W.nsIn K mainGlobals "NoNumber"=some (some (.ref C2))) (x2:PySem.W.excIn K C2 eV "ValueError.__new__"=true)
  (y3:PySem.W.nsIn K mainGlobals "NoPoint"=some (some (.ref C3))) (x3:PySem.W.excIn K C3 eV "ValueError.__new__"=true)
  (y4:PySem.W.nsIn K mainGlobals "NoText"=some (some (.ref C4))) (x4:PySem.W.excIn K C4 eV "ValueError.__new__"=true)
  (y5:PySem.W.nsIn K mainGlobals "TooGreat"=some (some (.ref C5))) (x5:PySem.W.excIn K C5 eV "ValueError.__new__"=true)
  {gk1:Tok}
  {gk2:Tok}
  {gk3:Tok}
  (v1:PySem.W.nsIn K mainGlobals "FIGURES"=some (some (.str "0123456789" gk1)))
  (v2:PySem.W.nsIn K mainGlobals "MOST_FIGURES"=some (some (.int 60 gk2)))
  (v3:PySem.W.nsIn K mainGlobals "NOTHING"=some (some (.str "none" gk3)))
  : ∃ fd:FuncData,(∀ (s:Shared) (v:Value),BindsTo s fd ⟨[v],[]⟩ [("_law_script",v)])∧∀ base:Heap,K.In base→base.Ns mainGlobals mg→aW l.prog w K mg base CX0 9 fa fd ["_law_script"] (uP K):=by
 let cl:Str→Addr:=fun n=>if n="Flat" then C1 else if n="NoNumber" then C2 else if n="NoPoint" then C3 else if n="NoText" then C4 else if n="TooGreat" then C5 else 0
 have e:=hfa.symm.trans (PySem.W.mg_of X G a65)
 cases e
 obtain ⟨f41,d41,F41,k41,n41⟩:=bX X G h41
 obtain ⟨f42,d42,F42,k42,n42⟩:=bX X G h42
 obtain ⟨f43,d43,F43,k43,n43⟩:=bX X G h43
 obtain ⟨f44,d44,F44,k44,n44⟩:=bX X G h44
 obtain ⟨f50,d50,F50,k50,n50⟩:=bX X G h50
 obtain ⟨f49,d49,F49,k49,n49⟩:=bX X G h49
 obtain ⟨f51,d51,F51,k51,n51⟩:=bX X G h51
 obtain ⟨f48,d48,F48,k48,n48⟩:=bX X G h48
 obtain ⟨f52,d52,F52,k52,n52⟩:=bX X G h52
 obtain ⟨f53,d53,F53,k53,n53⟩:=bX X G h53
 obtain ⟨f62,d62,F62,k62,n62⟩:=bX X G h62
 obtain ⟨f63,d63,F63,k63,n63⟩:=bX X G h63
 obtain ⟨f57,d57,F57,k57,n57⟩:=bX X G h57
 obtain ⟨f47,d47,F47,k47,n47⟩:=bX X G h47
 obtain ⟨f58,d58,F58,k58,n58⟩:=bX X G h58
 obtain ⟨f59,d59,F59,k59,n59⟩:=bX X G h59
 obtain ⟨f60,d60,F60,k60,n60⟩:=bX X G h60
 obtain ⟨f61,d61,F61,k61,n61⟩:=bX X G h61
 obtain ⟨f31,d31,F31,k31,n31⟩:=bX X G h31
 obtain ⟨f8,d8,F8,k8,n8⟩:=bX X G h8
 obtain ⟨f9,d9,F9,k9,n9⟩:=bX X G h9
 have F11:=aea (st:=nG) l11 c11 k11 t11 rfl
 obtain ⟨f14,d14,F14,k14,n14⟩:=bX X G h14
 obtain ⟨f27,d27,F27,k27,n27⟩:=bX X G h27
 obtain ⟨f28,d28,F28,k28,n28⟩:=bX X G h28
 obtain ⟨f29,d29,F29,k29,n29⟩:=bX X G h29
 obtain ⟨f30,d30,F30,k30,n30⟩:=bX X G h30
 obtain ⟨f32,d32,F32,k32,n32⟩:=bX X G h32
 obtain ⟨f38,d38,F38,k38,n38⟩:=bX X G h38
 obtain ⟨f33,d33,F33,k33,n33⟩:=bX X G h33
 obtain ⟨f34,d34,F34,k34,n34⟩:=bX X G h34
 obtain ⟨f35,d35,F35,k35,n35⟩:=bX X G h35
 obtain ⟨f10,d10,F10,k10,n10⟩:=bX X G h10
 have F13:=aea (st:=lS) l13 c13 k13 t13 rfl
 obtain ⟨f15,d15,F15,k15,n15⟩:=bX X G h15
 obtain ⟨f36,d36,F36,k36,n36⟩:=bX X G h36
 obtain ⟨f37,d37,F37,k37,n37⟩:=bX X G h37
 obtain ⟨f16,d16,F16,k16,n16⟩:=bX X G h16
 obtain ⟨f17,d17,F17,k17,n17⟩:=bX X G h17
 obtain ⟨f18,d18,F18,k18,n18⟩:=bX X G h18
 obtain ⟨f19,d19,F19,k19,n19⟩:=bX X G h19
 obtain ⟨f20,d20,F20,k20,n20⟩:=bX X G h20
 obtain ⟨f22,d22,F22,k22,n22⟩:=bX X G h22
 obtain ⟨f39,d39,F39,k39,n39⟩:=bX X G h39
 obtain ⟨f45,d45,F45,k45,n45⟩:=bX X G h45
 obtain ⟨f46,d46,F46,k46,n46⟩:=bX X G h46
 obtain ⟨f54,d54,F54,k54,n54⟩:=bX X G h54
 obtain ⟨f55,d55,F55,k55,n55⟩:=bX X G h55
 obtain ⟨f56,d56,F56,k56,n56⟩:=bX X G h56
 obtain ⟨f64,d64,F64,k64,n64⟩:=bX X G h64
 have F65:=af8 (st:=jZ) l65 c65 k65
 have b41:=F41.binds (ps:=["_law_script"]) fun _ _ _ _ _ _ us hl=>match us,hl with | [_],_=>rfl
 have b42:=F42.binds (ps:=["_law_row_here","_law_many"]) fun _ _ _ _ _ _ us hl=>match us,hl with | [_,_],_=>rfl
 have b43:=F43.binds (ps:=["_law_one","_law_other"]) fun _ _ _ _ _ _ us hl=>match us,hl with | [_,_],_=>rfl
 have b44:=F44.binds (ps:=["_law_numbers"]) fun _ _ _ _ _ _ us hl=>match us,hl with | [_],_=>rfl
 have b50:=F50.binds (ps:=["_law_u","_law_v"]) fun _ _ _ _ _ _ us hl=>match us,hl with | [_,_],_=>rfl
 have b49:=F49.binds (ps:=["_law_u","_law_v"]) fun _ _ _ _ _ _ us hl=>match us,hl with | [_,_],_=>rfl
 have b51:=F51.binds (ps:=["_law_ways"]) fun _ _ _ _ _ _ us hl=>match us,hl with | [_],_=>rfl
 have b48:=F48.binds (ps:=["_law_p","_law_q"]) fun _ _ _ _ _ _ us hl=>match us,hl with | [_,_],_=>rfl
 have b52:=F52.binds (ps:=["_law_points"]) fun _ _ _ _ _ _ us hl=>match us,hl with | [_],_=>rfl
 have b53:=F53.binds (ps:=["_law_points"]) fun _ _ _ _ _ _ us hl=>match us,hl with | [_],_=>rfl
 have b62:=F62.binds (ps:=["_law_row_here","_law_dims","_law_most"]) fun _ _ _ _ _ _ us hl=>match us,hl with | [_,_,_],_=>rfl
 have b63:=F63.binds (ps:=["_law_row_here","_law_dims","_law_most"]) fun _ _ _ _ _ _ us hl=>match us,hl with | [_,_,_],_=>rfl
 have b57:=F57.binds (ps:=["_law_row_here","_law_rows"]) fun _ _ _ _ _ _ us hl=>match us,hl with | [_,_],_=>rfl
 have b47:=F47.binds (ps:=["_law_top","_law_bottom"]) fun _ _ _ _ _ _ us hl=>match us,hl with | [_,_],_=>rfl
 have b58:=F58.binds (ps:=["_law_top","_law_bottom"]) fun _ _ _ _ _ _ us hl=>match us,hl with | [_,_],_=>rfl
 have b59:=F59.binds (ps:=["_law_p"]) fun _ _ _ _ _ _ us hl=>match us,hl with | [_],_=>rfl
 have b60:=F60.binds (ps:=["_law_points"]) fun _ _ _ _ _ _ us hl=>match us,hl with | [_],_=>rfl
 have b61:=F61.binds (ps:=["_law_heap"]) fun _ _ _ _ _ _ us hl=>match us,hl with | [_],_=>rfl
 have b31:=F31.binds (ps:=["texts"]) fun _ _ _ _ _ _ us hl=>match us,hl with | [_],_=>rfl
 have b8:=F8.binds (ps:=["number"]) fun _ _ _ _ _ _ us hl=>match us,hl with | [_],_=>rfl
 have b9:=F9.binds (ps:=["one","other"]) fun _ _ _ _ _ _ us hl=>match us,hl with | [_,_],_=>rfl
 have b11:=F11.binds (ps:=["top","bottom"]) (dd:=[]) fun _ _ _ _ _ _ _ us hl=>match us,hl with | [_,_],_=>⟨_,rfl,rfl⟩
 have bD11:=F11.binds (ps:=["top","bottom"]) (dd:=[.int 1 tt11]) fun _ _ _ _ _ _ _ us hl=>match us,(show us.length=1 by simpa using hl) with | [_],_=>⟨_,rfl,rfl⟩
 have b14:=F14.binds (ps:=["p"]) fun _ _ _ _ _ _ us hl=>match us,hl with | [_],_=>rfl
 have b27:=F27.binds (ps:=["number"]) fun _ _ _ _ _ _ us hl=>match us,hl with | [_],_=>rfl
 have b28:=F28.binds (ps:=["number"]) fun _ _ _ _ _ _ us hl=>match us,hl with | [_],_=>rfl
 have b29:=F29.binds (ps:=["p"]) fun _ _ _ _ _ _ us hl=>match us,hl with | [_],_=>rfl
 have b30:=F30.binds (ps:=["piece"]) fun _ _ _ _ _ _ us hl=>match us,hl with | [_],_=>rfl
 have b32:=F32.binds (ps:=["heap"]) fun _ _ _ _ _ _ us hl=>match us,hl with | [_],_=>rfl
 have b38:=F38.binds (ps:=["line"]) fun _ _ _ _ _ _ us hl=>match us,hl with | [_],_=>rfl
 have b33:=F33.binds (ps:=["fits"]) fun _ _ _ _ _ _ us hl=>match us,hl with | [_],_=>rfl
 have b34:=F34.binds (ps:=["text"]) fun _ _ _ _ _ _ us hl=>match us,hl with | [_],_=>rfl
 have b35:=F35.binds (ps:=["line"]) fun _ _ _ _ _ _ us hl=>match us,hl with | [_],_=>rfl
 have b10:=F10.binds (ps:=["numbers"]) fun _ _ _ _ _ _ us hl=>match us,hl with | [_],_=>rfl
 have b13:=F13.binds (ps:=["numbers","bottom"]) (dd:=[]) fun _ _ _ _ _ _ _ us hl=>match us,hl with | [_,_],_=>⟨_,rfl,rfl⟩
 have bD13:=F13.binds (ps:=["numbers","bottom"]) (dd:=[.int 1 tt13]) fun _ _ _ _ _ _ _ us hl=>match us,(show us.length=1 by simpa using hl) with | [_],_=>⟨_,rfl,rfl⟩
 have b15:=F15.binds (ps:=["parts"]) fun _ _ _ _ _ _ us hl=>match us,hl with | [_],_=>rfl
 have b36:=F36.binds (ps:=["line"]) fun _ _ _ _ _ _ us hl=>match us,hl with | [_],_=>rfl
 have b37:=F37.binds (ps:=["text"]) fun _ _ _ _ _ _ us hl=>match us,hl with | [_],_=>rfl
 have b16:=F16.binds (ps:=["start","end"]) fun _ _ _ _ _ _ us hl=>match us,hl with | [_,_],_=>rfl
 have b17:=F17.binds (ps:=["u","v"]) fun _ _ _ _ _ _ us hl=>match us,hl with | [_,_],_=>rfl
 have b18:=F18.binds (ps:=["arrows"]) fun _ _ _ _ _ _ us hl=>match us,hl with | [_],_=>rfl
 have b19:=F19.binds (ps:=["points"]) fun _ _ _ _ _ _ us hl=>match us,hl with | [_],_=>rfl
 have b20:=F20.binds (ps:=["points"]) fun _ _ _ _ _ _ us hl=>match us,hl with | [_],_=>rfl
 have b22:=F22.binds (ps:=["points"]) fun _ _ _ _ _ _ us hl=>match us,hl with | [_],_=>rfl
 have b39:=F39.binds (ps:=["line"]) fun _ _ _ _ _ _ us hl=>match us,hl with | [_],_=>rfl
 have b45:=F45.binds (ps:=["_law_number"]) fun _ _ _ _ _ _ us hl=>match us,hl with | [_],_=>rfl
 have b46:=F46.binds (ps:=["_law_told","_law_many"]) fun _ _ _ _ _ _ us hl=>match us,hl with | [_,_],_=>rfl
 have b54:=F54.binds (ps:=["_law_p","_law_many"]) fun _ _ _ _ _ _ us hl=>match us,hl with | [_,_],_=>rfl
 have b55:=F55.binds (ps:=["_law_points","_law_many"]) fun _ _ _ _ _ _ us hl=>match us,hl with | [_,_],_=>rfl
 have b56:=F56.binds (ps:=["_law_heap","_law_many"]) fun _ _ _ _ _ _ us hl=>match us,hl with | [_,_],_=>rfl
 have b64:=F64.binds (ps:=["_law_row_here"]) fun _ _ _ _ _ _ us hl=>match us,hl with | [_],_=>rfl
 have m_abs:=PySem.W.mg_none_of X G z1
 have m_all:=PySem.W.mg_none_of X G z2
 have m_bool:=PySem.W.mg_none_of X G z3
 have m_enumerate:=PySem.W.mg_none_of X G z4
 have m_int:=PySem.W.mg_none_of X G z5
 have m_isinstance:=PySem.W.mg_none_of X G z6
 have m_len:=PySem.W.mg_none_of X G z7
 have m_list:=PySem.W.mg_none_of X G z8
 have m_min:=PySem.W.mg_none_of X G z9
 have m_range:=PySem.W.mg_none_of X G z10
 have m_sorted:=PySem.W.mg_none_of X G z11
 have m_str:=PySem.W.mg_none_of X G z12
 have m_sum:=PySem.W.mg_none_of X G z13
 have m_tuple:=PySem.W.mg_none_of X G z14
 have m_zip:=PySem.W.mg_none_of X G z15
 have q_Flat:mg "Flat"=some (.ref (cl "Flat")):=PySem.W.mg_of X G y1
 have x_Flat:PySem.W.excIn K (cl "Flat") eV "ValueError.__new__"=true:=x1
 have q_NoNumber:mg "NoNumber"=some (.ref (cl "NoNumber")):=PySem.W.mg_of X G y2
 have x_NoNumber:PySem.W.excIn K (cl "NoNumber") eV "ValueError.__new__"=true:=x2
 have q_NoPoint:mg "NoPoint"=some (.ref (cl "NoPoint")):=PySem.W.mg_of X G y3
 have x_NoPoint:PySem.W.excIn K (cl "NoPoint") eV "ValueError.__new__"=true:=x3
 have q_NoText:mg "NoText"=some (.ref (cl "NoText")):=PySem.W.mg_of X G y4
 have x_NoText:PySem.W.excIn K (cl "NoText") eV "ValueError.__new__"=true:=x4
 have q_TooGreat:mg "TooGreat"=some (.ref (cl "TooGreat")):=PySem.W.mg_of X G y5
 have x_TooGreat:PySem.W.excIn K (cl "TooGreat") eV "ValueError.__new__"=true:=x5
 have gt_FIGURES:GlT K mg "FIGURES" (.str "0123456789"):=⟨_,.str "0123456789",PySem.W.mg_of X G v1,⟨_,rfl⟩,ac9⟩
 have gt_MOST_FIGURES:GlT K mg "MOST_FIGURES" (.int 60):=⟨_,.int 60,PySem.W.mg_of X G v2,⟨_,rfl⟩,agU⟩
 have gt_NOTHING:GlT K mg "NOTHING" (.str "none"):=⟨_,.str "none",PySem.W.mg_of X G v3,⟨_,rfl⟩,ac9⟩
 have n11:=PySem.W.mg_of X G a11
 have n13:=PySem.W.mg_of X G a13
 have n65:=PySem.W.mg_of X G a65
 refine ⟨PySem.W.fnOf "law" "law" (gK jZ) (eT jZ) (aX jZ) .none kV65 dc65 pm65 an65 cd65 ct65,fun s v=>.of_eq rfl,fun base _ _=>?_⟩
 have G41:=agV (P:=l.prog) (w:=w) (mg:=mg) (base:=base) (cl:=cl) F41 m_enumerate
 have C41:=cS G41 b41 k41 n41
 have G42:=afj (P:=l.prog) (w:=w) (mg:=mg) (base:=base) (cl:=cl) F42 m_len
 have C42:=cS G42 b42 k42 n42
 have G43:=agY (P:=l.prog) (w:=w) (mg:=mg) (base:=base) (cl:=cl) F43 m_abs
 have C43:=cS G43 b43 k43 n43
 have G44:=adn F44 C43 m_tuple
 have C44:=cS G44 b44 k44 n44
 have G50:=ahs (P:=l.prog) (w:=w) (mg:=mg) (base:=base) (cl:=cl) F50 m_sum m_zip
 have C50:=cS G50 b50 k50 n50
 have G49:=aeQ (P:=l.prog) (w:=w) (mg:=mg) (base:=base) (cl:=cl) F49
 have C49:=cS G49 b49 k49 n49
 have G51:=afy F51 C50 C49 m_len
 have C51:=cS G51 b51 k51 n51
 have G48:=ag2 (P:=l.prog) (w:=w) (mg:=mg) (base:=base) (cl:=cl) F48 m_len m_range
 have C48:=cS G48 b48 k48 n48
 have G52:=ahx F52 C51 C48
 have C52:=cS G52 b52 k52 n52
 have G53:=acz F53 C52 m_sorted m_tuple
 have C53:=cS G53 b53 k53 n53
 have G62:=aa0 F62 C42 C44 C52 C53 m_min m_range
 have C62:=cS G62 b62 k62 n62
 have G63:=aa3 F63 C42 C44 C52 C53 m_range
 have C63:=cS G63 b63 k63 n63
 have G57:=adq F57 C42 m_list m_tuple
 have C57:=cS G57 b57 k57 n57
 have G47:=af3 F47 C44
 have C47:=cS G47 b47 k47 n47
 have G58:=aco F58 C47 m_abs m_str
 have C58:=cS G58 b58 k58 n58
 have G59:=aaV F59 C58
 have C59:=cS G59 b59 k59 n59
 have G60:=aaL F60 C59
 have C60:=cS G60 b60 k60 n60
 have G61:=aby F61 C60 m_len
 have C61:=cS G61 b61 k61 n61
 have G31:=abw (P:=l.prog) (w:=w) (mg:=mg) (base:=base) (cl:=cl) F31 gt_NOTHING
 have C31:=cS G31 b31 k31 n31
 have G8:=aht (P:=l.prog) (w:=w) (mg:=mg) (base:=base) (cl:=cl) F8
 have C8:=cS G8 b8 k8 n8
 have G9:=adC (P:=l.prog) (w:=w) (mg:=mg) (base:=base) (cl:=cl) F9 m_abs
 have C9:=cS G9 b9 k9 n9
 have GX11:=act F11 C8 C9 q_NoNumber x_NoNumber
 have G11:=x0 GX11
 have G14:=acv F14 G11 b11 k11 n11 m_tuple
 have C14:=cS G14 b14 k14 n14
 have GX27:=aa2 (P:=l.prog) (w:=w) (mg:=mg) (base:=base) (cl:=cl) F27 m_abs m_str q_TooGreat x_TooGreat
 have G27:=x0 GX27
 have GX28:=aaS F28 GX27 G27 b27 k27 n27
 have G28:=x0 GX28
 have GX29:=aaW F29 C14 GX28 G28 b28 k28 n28
 have G29:=x0 GX29
 have GX30:=aaB F30 GX29 G29 b29 k29 n29
 have G30:=x0 GX30
 have GX32:=abr F32 C31 GX30 G30 b30 k30 n30
 have G32:=x0 GX32
 have G38:=abO (P:=l.prog) (w:=w) (mg:=mg) (base:=base) (cl:=cl) F38 gt_NOTHING
 have C38:=cS G38 b38 k38 n38
 have GX33:=aaD (P:=l.prog) (w:=w) (mg:=mg) (base:=base) (cl:=cl) F33 q_NoText x_NoText
 have G33:=x0 GX33
 have GX34:=abA F34 GX33 G33 b33 k33 n33 m_all m_int m_len gt_FIGURES gt_MOST_FIGURES
 have G34:=x0 GX34
 have GX35:=aaU F35 GX33 G33 b33 k33 n33 GX34 G34 b34 k34 n34 GX11 G11 b11 k11 n11 m_len
 have G35:=x0 GX35
 have G10:=adc F10 C9
 have C10:=cS G10 b10 k10 n10
 have GX13:=afl F13 C10 C8 m_list m_tuple q_NoPoint x_NoPoint
 have G13:=x0 GX13
 have G15:=acs F15 G13 b13 k13 n13
 have C15:=cS G15 b15 k15 n15
 have GX36:=abB F36 GX35 G35 b35 k35 n35 GX33 G33 b33 k33 n33 C15 m_len
 have G36:=x0 GX36
 have GX37:=aaQ F37 GX36 G36 b36 k36 n36 GX33 G33 b33 k33 n33 m_all m_len
 have G37:=x0 GX37
 have G16:=aaY (P:=l.prog) (w:=w) (mg:=mg) (base:=base) (cl:=cl) F16 m_zip
 have C16:=cS G16 b16 k16 n16
 have G17:=aik (P:=l.prog) (w:=w) (mg:=mg) (base:=base) (cl:=cl) F17 m_sum m_zip
 have C17:=cS G17 b17 k17 n17
 have G18:=aee (P:=l.prog) (w:=w) (mg:=mg) (base:=base) (cl:=cl) F18 m_len
 have C18:=cS G18 b18 k18 n18
 have G19:=aaX F19 C16 C17 C18
 have C19:=cS G19 b19 k19 n19
 have G20:=ahT F20 C8 C19
 have C20:=cS G20 b20 k20 n20
 have GX22:=adA F22 C20 m_sorted m_tuple q_Flat x_Flat
 have G22:=x0 GX22
 have GX39:=ab6 F39 C38 GX37 G37 b37 k37 n37 GX33 G33 b33 k33 n33 GX22 G22 b22 k22 n22 m_all m_len m_tuple
 have G39:=x0 GX39
 have G45:=ael (P:=l.prog) (w:=w) (mg:=mg) (base:=base) (cl:=cl) F45 m_bool m_int m_isinstance
 have C45:=cS G45 b45 k45 n45
 have G46:=adi F46 C45 m_all m_isinstance m_len m_tuple
 have C46:=cS G46 b46 k46 n46
 have G54:=aaZ F54 C46 C44
 have C54:=cS G54 b54 k54 n54
 have G55:=aaC F55 C54 C52 C53 m_all m_isinstance m_len m_tuple
 have C55:=cS G55 b55 k55 n55
 have G56:=abC F56 C55 m_all m_isinstance m_tuple
 have C56:=cS G56 b56 k56 n56
 have G64:=afI F64 C42 C62 C63 C57 C61 GX32 G32 b32 k32 n32 G39 b39 k39 n39 C56 m_isinstance m_list m_str q_TooGreat x_TooGreat
 have C64:=cS G64 b64 k64 n64
 exact (aig (P:=l.prog) (w:=w) (mg:=mg) (base:=base) (cl:=cl) F65 C41 C64).imp fun vs H Q E h=>ag8 afq h
theorem walk {l:PySem.W.OpenLaw} {q:Program} {loose:List Str} {XP:(Str→Option Value)→Heap→Prop} {YP:World→Heap→Prop} {d:DefRec} {K:Params→PySem.W.Frag} (hn:l.most=some 63) (hdf:d.params.defaults=[])
  (hY:∀ (w:World) (h:Heap),YP w h→(K w.params).In h)
  (F:∀ (w:World) (mg:Str→Option Value) (fa:Addr) (h:Heap),(K w.params).In h→h.Ns mainGlobals mg→mg d.name=some (.ref fa) →
   ∃ fd:FuncData,(∀ (s:Shared) (u:Value),BindsTo s fd ⟨[u],[]⟩ [("_law_script",u)])∧∀ base:Heap,(K w.params).In base→base.Ns mainGlobals mg→aW l.prog w (K w.params) mg base CX0 9 fa fd ["_law_script"] (uP (K w.params))) :
  PySem.W.WalkO q loose XP YP l.row.toRowW d [] (fun f vs=>PySem.call f vs) :=
 L2.walk_of (n:=63) (k:=9) (x:="_law_script") (CX:=fun _=>CX0) (sp:=fun w=>uP (K w.params)) hn (by decide) hdf ⟨rfl,by decide,by decide⟩ hY F (fun _ _ a ns hl _ hS=>⟨a,ns,rfl,hS,hl,fun _=>rfl⟩) fun _ _ _ _ _ z=>z
end
end Sc
open PySem PySem.W PyProof.Rows
set_option maxRecDepth 100000 in
set_option maxHeartbeats 0 in
theorem PySem.Challenge.cw_scissorhall_k83_heaps_written_holds : PySem.Challenge.rw_scissorhall_k83_heaps_written.Holds := by
 w_on; o_law
 refine holds_open (q:=Sc.VW) (loose:=[PySem.Str.ofString "fraction",PySem.Str.ofString "point"]) (Xt:=fun s=>xlAt Sc.VW [] s && recOk (RowW.records (OpenRow.toRowW (OpenLaw.row PySem.Challenge.rw_scissorhall_k83_heaps_written))) s) (XP:=XL Sc.VW []) (Yf:=Hook.obs (kHook Sc.KK Sc.KA Sc.KE)) (Ya:=Hook.val (kHook Sc.KK Sc.KA Sc.KE)) (YP:=Hook.says (kHook Sc.KK Sc.KA Sc.KE)) (N:=5676) Sc.left (Hook.of (kHook Sc.KK Sc.KA Sc.KE)) (Hook.keeps (kHook Sc.KK Sc.KA Sc.KE)) (fun s e=>xl_of s (Bool.and_eq_true_iff.mp e).1) XL.keeps (by rfl) (by rfl) (by rfl) (fun s e=>recFacts_of (Bool.and_eq_true_iff.mp e).2) (by rfl) (by first | assumption | decide +kernel) (by decide +kernel) ⟨rfl,rfl,rfl,rfl,rfl,by decide +kernel⟩ ?hw ?hc
 case hw=>w_witness2
 k_fill
 refine Sc.walk (l:=PySem.Challenge.rw_scissorhall_k83_heaps_written) rfl rfl (fun w h Y=>PySem.W.kIn_of Y) ?F
 case F =>
  intro w mg fa h KX G hmg
  refine' Sc.all_mk KX G hmg (Sc.hF_of ?a41 ?l41 ?c41 ?k41) (Sc.hF_of ?a42 ?l42 ?c42 ?k42) (Sc.hF_of ?a43 ?l43 ?c43 ?k43) (Sc.hF_of ?a44 ?l44 ?c44 ?k44) (Sc.hF_of ?a50 ?l50 ?c50 ?k50) (Sc.hF_of ?a49 ?l49 ?c49 ?k49) (Sc.hF_of ?a51 ?l51 ?c51 ?k51) (Sc.hF_of ?a48 ?l48 ?c48 ?k48) (Sc.hF_of ?a52 ?l52 ?c52 ?k52) (Sc.hF_of ?a53 ?l53 ?c53 ?k53) (Sc.hF_of ?a62 ?l62 ?c62 ?k62) (Sc.hF_of ?a63 ?l63 ?c63 ?k63) (Sc.hF_of ?a57 ?l57 ?c57 ?k57) (Sc.hF_of ?a47 ?l47 ?c47 ?k47) (Sc.hF_of ?a58 ?l58 ?c58 ?k58) (Sc.hF_of ?a59 ?l59 ?c59 ?k59) (Sc.hF_of ?a60 ?l60 ?c60 ?k60) (Sc.hF_of ?a61 ?l61 ?c61 ?k61) (Sc.hF_of ?a31 ?l31 ?c31 ?k31) (Sc.hF_of ?a8 ?l8 ?c8 ?k8) (Sc.hF_of ?a9 ?l9 ?c9 ?k9) ?a11 ?l11 ?c11 ?k11 ?t11 (Sc.hF_of ?a14 ?l14 ?c14 ?k14) (Sc.hF_of ?a27 ?l27 ?c27 ?k27) (Sc.hF_of ?a28 ?l28 ?c28 ?k28) (Sc.hF_of ?a29 ?l29 ?c29 ?k29) (Sc.hF_of ?a30 ?l30 ?c30 ?k30) (Sc.hF_of ?a32 ?l32 ?c32 ?k32) (Sc.hF_of ?a38 ?l38 ?c38 ?k38) (Sc.hF_of ?a33 ?l33 ?c33 ?k33) (Sc.hF_of ?a34 ?l34 ?c34 ?k34) (Sc.hF_of ?a35 ?l35 ?c35 ?k35) (Sc.hF_of ?a10 ?l10 ?c10 ?k10) ?a13 ?l13 ?c13 ?k13 ?t13 (Sc.hF_of ?a15 ?l15 ?c15 ?k15) (Sc.hF_of ?a36 ?l36 ?c36 ?k36) (Sc.hF_of ?a37 ?l37 ?c37 ?k37) (Sc.hF_of ?a16 ?l16 ?c16 ?k16) (Sc.hF_of ?a17 ?l17 ?c17 ?k17) (Sc.hF_of ?a18 ?l18 ?c18 ?k18) (Sc.hF_of ?a19 ?l19 ?c19 ?k19) (Sc.hF_of ?a20 ?l20 ?c20 ?k20) (Sc.hF_of ?a22 ?l22 ?c22 ?k22) (Sc.hF_of ?a39 ?l39 ?c39 ?k39) (Sc.hF_of ?a45 ?l45 ?c45 ?k45) (Sc.hF_of ?a46 ?l46 ?c46 ?k46) (Sc.hF_of ?a54 ?l54 ?c54 ?k54) (Sc.hF_of ?a55 ?l55 ?c55 ?k55) (Sc.hF_of ?a56 ?l56 ?c56 ?k56) (Sc.hF_of ?a64 ?l64 ?c64 ?k64) ?a65 ?l65 ?c65 ?k65 ?z1 ?z2 ?z3 ?z4 ?z5 ?z6 ?z7 ?z8 ?z9 ?z10 ?z11 ?z12 ?z13 ?z14 ?z15 ?y1 ?x1 ?y2 ?x2 ?y3 ?x3 ?y4 ?x4 ?y5 ?x5 ?v1 ?v2 ?v3
  (case a41 | l41 | c41 | k41 | a42 | l42 | c42 | k42 | a43 | l43 | c43 | k43 | a44 | l44 | c44 | k44 | a50 | l50 | c50 | k50 | a49 | l49 | c49 | k49 | a51 | l51 | c51 | k51 | a48 | l48 | c48 | k48 | a52 | l52 | c52 | k52 | a53 | l53 | c53 | k53 | a62 | l62 | c62 | k62 | a63 | l63 | c63 | k63 | a57 | l57 | c57 | k57 | a47 | l47 | c47 | k47 | a58 | l58 | c58 | k58 | a59 | l59 | c59 | k59 | a60 | l60 | c60 | k60 | a61 | l61 | c61 | k61 | a31 | l31 | c31 | k31 | a8 | l8 | c8 | k8 | a9 | l9 | c9 | k9 | a11 | l11 | c11 | k11 | t11 | a14 | l14 | c14 | k14 | a27 | l27 | c27 | k27 | a28 | l28 | c28 | k28 | a29 | l29 | c29 | k29 | a30 | l30 | c30 | k30 | a32 | l32 | c32 | k32 | a38 | l38 | c38 | k38 | a33 | l33 | c33 | k33 | a34 | l34 | c34 | k34 | a35 | l35 | c35 | k35 | a10 | l10 | c10 | k10 | a13 | l13 | c13 | k13 | t13 | a15 | l15 | c15 | k15 | a36 | l36 | c36 | k36 | a37 | l37 | c37 | k37 | a16 | l16 | c16 | k16 | a17 | l17 | c17 | k17 | a18 | l18 | c18 | k18 | a19 | l19 | c19 | k19 | a20 | l20 | c20 | k20 | a22 | l22 | c22 | k22 | a39 | l39 | c39 | k39 | a45 | l45 | c45 | k45 | a46 | l46 | c46 | k46 | a54 | l54 | c54 | k54 | a55 | l55 | c55 | k55 | a56 | l56 | c56 | k56 | a64 | l64 | c64 | k64 | a65 | l65 | c65 | k65 | z1 | z2 | z3 | z4 | z5 | z6 | z7 | z8 | z9 | z10 | z11 | z12 | z13 | z14 | z15 | y1=>k_is)
  (case x1=>k_exc)
  (case y2=>k_is)
  (case x2=>k_exc)
  (case y3=>k_is)
  (case x3=>k_exc)
  (case y4=>k_is)
  (case x4=>k_exc)
  (case y5=>k_is)
  (case x5=>k_exc)
  (case v1 | v2 | v3=>k_is)
#print axioms PySem.Challenge.cw_scissorhall_k83_heaps_written_holds
