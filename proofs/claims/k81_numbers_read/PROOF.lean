import PyProof.Rows.All
import Wide.All
import OpenK.AllK
import Wide.FinOn
import Lean
import PyProof.EqAt
import PyProof.EqKinds
import PyProof.TupleCall
import PyProof.ZipIter
import PyProof.Draws
import PyProof.CompFree
import PyProof.NeKinds
import PyProof.NsDelKeeps
import PyProof.ExcArgsOwn
import PyProof.ExcAttrAll.ValueError
import KE.KSortTup
import KE.KIntText
import PyProof.FitsReplace
import PyProof.StrWalks
import PySem.Challenge.RW_scissorhall_k81_numbers_read
set_option Elab.async false
set_option maxRecDepth 100000
set_option maxHeartbeats 0
namespace L2
open PySem
def aaB (s:Stmt):Arguments:=match s with
 | .FunctionDef _ a _ _ _ _ _ _ _ _=>a
 | _=>{ posonlyargs:=[],args:=[],vararg:=none,kwonlyargs:=[],kw_defaults:=[],kwarg:=none,defaults:=[] }
def aax (s:Stmt):List Stmt:=match s with
 | .FunctionDef _ _ b _ _ _ _ _ _ _=>b
 | _=>[]
def aae (s:Stmt):Scope:=match s with
 | .FunctionDef _ _ _ _ _ _ sc _ _ _=>sc
 | _=>{ kind:=.function,names:=[],isGenerator:=false,isCoroutine:=false }
end L2
namespace Sc
open PySem L2
def top (i:Nat):Stmt:=PySem.Challenge.pw_scissorhall_k81_numbers_read.main.body.getD i (.Pass ⟨0,0,0,0⟩)
abbrev vs (s:String) (t:Nat):Value:=.str (Str.ofString s) t
abbrev vi (i:Int):Value:=.int i 0
abbrev vr (a:Nat):Value:=.ref a
abbrev fo (n:String) (i:Nat) (dV dc pm cd ct:Value):Obj:=⟨.type "function",none,.func (PySem.W.fnOf (Str.ofString n) (Str.ofString n) (aaB (top i)) (aax (top i)) (aae (top i)) dV .none dc pm none cd ct),#[]⟩
abbrev fc (l:List Value):Obj:=⟨.type "code",none,.fields l.toArray,#[]⟩
abbrev fd (P:Params) (n:Nat) (l:List (String × Nat × Value)):Obj:=⟨.type "dict",none,.dict (l.map fun e=>⟨PyData.keyHash P (Str.ofString e.1),.str (Str.ofString e.1) e.2.1,e.2.2⟩).toArray n,#[]⟩
noncomputable def KK (P:Params):PySem.W.Frag :=
 (nat_lit 3,fd P 38 [("__name__",165,vs "law_scissorhall_k81_numbers_read" 313),("__doc__",166,.none),("__package__",167,.none),("__loader__",168,(.builtin "__main__.__loader__#opaque")),("__spec__",169,.none),("__annotations__",170,vr 6),("__builtins__",171,vr 4),("__file__",173,vs "/claim/cut.py" 172),("__cached__",174,.none),("HallError",206,vr 24),("NoNumber",222,vr 37),("NoText",238,vr 49),("TooGreat",254,vr 61),("sign",263,vr 70),("divisor",272,vr 77),("fraction",282,vr 85),("FIGURES",286,vs "0123456789" 285),("MOST_FIGURES",288,(.int 60 287)),("refuse_unless",295,vr 92),("read_whole",301,vr 97),("read_number",312,vr 104),("_law_row",327,vr 111),("_law_take",336,vr 118),("_law_gcd",344,vr 125),("_law_lowest",350,vr 130),("_law_whole",357,vr 137),("_law_wholes",363,vr 142),("_law_frac",371,vr 149),("_law_figures",377,vr 154),("_law_number_of",387,vr 161),("_law_sign_at",396,vr 168),("_law_spoilt",407,vr 175),("_law_tens",416,vr 182),("_law_word_of",424,vr 189),("_law_number_word",433,vr 196),("_law_asked",442,vr 203),("_law_meets",450,vr 210),("law",461,vr 217)]) ::
 (nat_lit 23,fd P 3 [("__module__",196,vs "scissorhall.errors" 187),("__firstlineno__",200,(.int 2 199)),("__static_attributes__",201,vr 22),("__weakref__",203,vr 25),("__doc__",204,.none)]) ::
 (nat_lit 24,⟨(.type "type"),none,.cls { name:="HallError",bases:=[(.type "ValueError")],mro:=[vr 24,(.type "ValueError"),(.type "Exception"),(.type "BaseException"),(.type "object")],ns:=23,qualname:="HallError",hasDict:=true,subclasses:=[vr 37,vr 49,vr 61] },#[some (vr 15),none,some (vs "HallError" 189),some (vs "HallError" 197),some (.builtin "ValueError.__new__"),some (.bool true)]⟩) ::
 (nat_lit 36,fd P 2 [("__module__",214,vs "scissorhall.errors" 187),("__firstlineno__",218,(.int 4 217)),("__static_attributes__",219,vr 35),("__doc__",220,.none)]) ::
 (nat_lit 37,⟨(.type "type"),none,.cls { name:="NoNumber",bases:=[vr 24],mro:=[vr 37,vr 24,(.type "ValueError"),(.type "Exception"),(.type "BaseException"),(.type "object")],ns:=36,qualname:="NoNumber",hasDict:=true,subclasses:=[] },#[some (vr 28),none,some (vs "NoNumber" 207),some (vs "NoNumber" 215),some (.builtin "ValueError.__new__"),some (.bool true)]⟩) ::
 (nat_lit 48,fd P 2 [("__module__",230,vs "scissorhall.errors" 187),("__firstlineno__",234,(.int 6 233)),("__static_attributes__",235,vr 47),("__doc__",236,.none)]) ::
 (nat_lit 49,⟨(.type "type"),none,.cls { name:="NoText",bases:=[vr 24],mro:=[vr 49,vr 24,(.type "ValueError"),(.type "Exception"),(.type "BaseException"),(.type "object")],ns:=48,qualname:="NoText",hasDict:=true,subclasses:=[] },#[some (vr 40),none,some (vs "NoText" 223),some (vs "NoText" 231),some (.builtin "ValueError.__new__"),some (.bool true)]⟩) ::
 (nat_lit 60,fd P 2 [("__module__",246,vs "scissorhall.errors" 187),("__firstlineno__",250,(.int 8 249)),("__static_attributes__",251,vr 59),("__doc__",252,.none)]) ::
 (nat_lit 61,⟨(.type "type"),none,.cls { name:="TooGreat",bases:=[vr 24],mro:=[vr 61,vr 24,(.type "ValueError"),(.type "Exception"),(.type "BaseException"),(.type "object")],ns:=60,qualname:="TooGreat",hasDict:=true,subclasses:=[] },#[some (vr 52),none,some (vs "TooGreat" 239),some (vs "TooGreat" 247),some (.builtin "ValueError.__new__"),some (.bool true)]⟩) ::
 (nat_lit 69,fc [vs "sign" 257,vs "sign" 258,vs "/claim/cut.py" 259,vi 11,vi 1,vi 0,vi 0,vi 3,vr 64,(.bool true),vi 181,vr 65,.none,vr 66,vr 67,vr 68,vi 261,vi 11,vs "/claim/cut.py" 262]) ::
 (nat_lit 70,fo "sign" 6 .none .none (vs "scissorhall.lowest" 255) (vr 69) .none) ::
 (nat_lit 76,fc [vs "divisor" 264,vs "divisor" 265,vs "/claim/cut.py" 266,vi 17,vi 2,vi 0,vi 0,vi 3,vr 71,(.bool true),vi 181,vr 72,.none,vr 73,vr 74,vr 75,vi 270,vi 17,vs "/claim/cut.py" 271]) ::
 (nat_lit 77,fo "divisor" 7 .none .none (vs "scissorhall.lowest" 255) (vr 76) .none) ::
 (nat_lit 78,⟨.type "tuple",none,.seq #[(.int 1 273)] 0,#[]⟩) ::
 (nat_lit 84,fc [vs "fraction" 274,vs "fraction" 275,vs "/claim/cut.py" 276,vi 23,vi 2,vi 0,vi 0,vi 3,vr 79,(.bool true),vi 181,vr 80,.none,vr 81,vr 82,vr 83,vi 280,vi 23,vs "/claim/cut.py" 281]) ::
 (nat_lit 85,fo "fraction" 8 (vr 78) .none (vs "scissorhall.lowest" 255) (vr 84) .none) ::
 (nat_lit 91,fc [vs "refuse_unless" 289,vs "refuse_unless" 290,vs "/claim/cut.py" 291,vi 31,vi 1,vi 0,vi 0,vi 3,vr 86,(.bool true),vi 181,vr 87,.none,vr 88,vr 89,vr 90,vi 293,vi 31,vs "/claim/cut.py" 294]) ::
 (nat_lit 92,fo "refuse_unless" 12 .none .none (vs "scissorhall.texts" 283) (vr 91) .none) ::
 (nat_lit 96,fc [vs "read_whole" 296,vs "read_whole" 297,vs "/claim/cut.py" 298,vi 34,vi 1,vi 0,vi 0,vi 3,vr 93,(.bool true),vi 181,vr 94,.none,.none,.none,vr 95,vi 299,vi 34,vs "/claim/cut.py" 300]) ::
 (nat_lit 97,fo "read_whole" 13 .none .none (vs "scissorhall.texts" 283) (vr 96) .none) ::
 (nat_lit 103,fc [vs "read_number" 302,vs "read_number" 303,vs "/claim/cut.py" 304,vi 37,vi 1,vi 0,vi 0,vi 3,vr 98,(.bool true),vi 181,vr 99,.none,vr 100,vr 101,vr 102,vi 310,vi 37,vs "/claim/cut.py" 311]) ::
 (nat_lit 104,fo "read_number" 14 .none .none (vs "scissorhall.texts" 283) (vr 103) .none) ::
 (nat_lit 110,fc [vs "_law_row" 315,vs "_law_row" 316,vs "/claim/cut.py" 317,vi 46,vi 1,vi 0,vi 0,vi 3,vr 105,(.bool true),vi 181,vr 106,.none,vr 107,vr 108,vr 109,vi 325,vi 46,vs "/claim/cut.py" 326]) ::
 (nat_lit 111,fo "_law_row" 16 .none .none (vs "law_scissorhall_k81_numbers_read" 313) (vr 110) .none) ::
 (nat_lit 117,fc [vs "_law_take" 328,vs "_law_take" 329,vs "/claim/cut.py" 330,vi 60,vi 2,vi 0,vi 0,vi 3,vr 112,(.bool true),vi 181,vr 113,.none,vr 114,vr 115,vr 116,vi 334,vi 60,vs "/claim/cut.py" 335]) ::
 (nat_lit 118,fo "_law_take" 17 .none .none (vs "law_scissorhall_k81_numbers_read" 313) (vr 117) .none) ::
 (nat_lit 124,fc [vs "_law_gcd" 337,vs "_law_gcd" 338,vs "/claim/cut.py" 339,vi 68,vi 2,vi 0,vi 0,vi 3,vr 119,(.bool true),vi 181,vr 120,.none,vr 121,vr 122,vr 123,vi 342,vi 68,vs "/claim/cut.py" 343]) ::
 (nat_lit 125,fo "_law_gcd" 18 .none .none (vs "law_scissorhall_k81_numbers_read" 313) (vr 124) .none) ::
 (nat_lit 129,fc [vs "_law_lowest" 345,vs "_law_lowest" 346,vs "/claim/cut.py" 347,vi 74,vi 1,vi 0,vi 0,vi 3,vr 126,(.bool true),vi 181,vr 127,.none,.none,.none,vr 128,vi 348,vi 74,vs "/claim/cut.py" 349]) ::
 (nat_lit 130,fo "_law_lowest" 19 .none .none (vs "law_scissorhall_k81_numbers_read" 313) (vr 129) .none) ::
 (nat_lit 136,fc [vs "_law_whole" 351,vs "_law_whole" 352,vs "/claim/cut.py" 353,vi 81,vi 1,vi 0,vi 0,vi 3,vr 131,(.bool true),vi 181,vr 132,.none,vr 133,vr 134,vr 135,vi 355,vi 81,vs "/claim/cut.py" 356]) ::
 (nat_lit 137,fo "_law_whole" 20 .none .none (vs "law_scissorhall_k81_numbers_read" 313) (vr 136) .none) ::
 (nat_lit 141,fc [vs "_law_wholes" 358,vs "_law_wholes" 359,vs "/claim/cut.py" 360,vi 83,vi 2,vi 0,vi 0,vi 3,vr 138,(.bool true),vi 181,vr 139,.none,.none,.none,vr 140,vi 361,vi 83,vs "/claim/cut.py" 362]) ::
 (nat_lit 142,fo "_law_wholes" 21 .none .none (vs "law_scissorhall_k81_numbers_read" 313) (vr 141) .none) ::
 (nat_lit 148,fc [vs "_law_frac" 364,vs "_law_frac" 365,vs "/claim/cut.py" 366,vi 87,vi 2,vi 0,vi 0,vi 3,vr 143,(.bool true),vi 181,vr 144,.none,vr 145,vr 146,vr 147,vi 369,vi 87,vs "/claim/cut.py" 370]) ::
 (nat_lit 149,fo "_law_frac" 22 .none .none (vs "law_scissorhall_k81_numbers_read" 313) (vr 148) .none) ::
 (nat_lit 153,fc [vs "_law_figures" 372,vs "_law_figures" 373,vs "/claim/cut.py" 374,vi 91,vi 1,vi 0,vi 0,vi 3,vr 150,(.bool true),vi 181,vr 151,.none,.none,.none,vr 152,vi 375,vi 91,vs "/claim/cut.py" 376]) ::
 (nat_lit 154,fo "_law_figures" 23 .none .none (vs "law_scissorhall_k81_numbers_read" 313) (vr 153) .none) ::
 (nat_lit 160,fc [vs "_law_number_of" 378,vs "_law_number_of" 379,vs "/claim/cut.py" 380,vi 95,vi 1,vi 0,vi 0,vi 3,vr 155,(.bool true),vi 181,vr 156,.none,vr 157,vr 158,vr 159,vi 385,vi 95,vs "/claim/cut.py" 386]) ::
 (nat_lit 161,fo "_law_number_of" 24 .none .none (vs "law_scissorhall_k81_numbers_read" 313) (vr 160) .none) ::
 (nat_lit 167,fc [vs "_law_sign_at" 388,vs "_law_sign_at" 389,vs "/claim/cut.py" 390,vi 110,vi 1,vi 0,vi 0,vi 3,vr 162,(.bool true),vi 181,vr 163,.none,vr 164,vr 165,vr 166,vi 394,vi 110,vs "/claim/cut.py" 395]) ::
 (nat_lit 168,fo "_law_sign_at" 25 .none .none (vs "law_scissorhall_k81_numbers_read" 313) (vr 167) .none) ::
 (nat_lit 174,fc [vs "_law_spoilt" 397,vs "_law_spoilt" 398,vs "/claim/cut.py" 399,vi 116,vi 2,vi 0,vi 0,vi 3,vr 169,(.bool true),vi 181,vr 170,.none,vr 171,vr 172,vr 173,vi 405,vi 116,vs "/claim/cut.py" 406]) ::
 (nat_lit 175,fo "_law_spoilt" 26 .none .none (vs "law_scissorhall_k81_numbers_read" 313) (vr 174) .none) ::
 (nat_lit 181,fc [vs "_law_tens" 408,vs "_law_tens" 409,vs "/claim/cut.py" 410,vi 127,vi 1,vi 0,vi 0,vi 3,vr 176,(.bool true),vi 181,vr 177,.none,vr 178,vr 179,vr 180,vi 414,vi 127,vs "/claim/cut.py" 415]) ::
 (nat_lit 182,fo "_law_tens" 27 .none .none (vs "law_scissorhall_k81_numbers_read" 313) (vr 181) .none) ::
 (nat_lit 188,fc [vs "_law_word_of" 417,vs "_law_word_of" 418,vs "/claim/cut.py" 419,vi 132,vi 1,vi 0,vi 0,vi 3,vr 183,(.bool true),vi 181,vr 184,.none,vr 185,vr 186,vr 187,vi 422,vi 132,vs "/claim/cut.py" 423]) ::
 (nat_lit 189,fo "_law_word_of" 28 .none .none (vs "law_scissorhall_k81_numbers_read" 313) (vr 188) .none) ::
 (nat_lit 195,fc [vs "_law_number_word" 425,vs "_law_number_word" 426,vs "/claim/cut.py" 427,vi 137,vi 1,vi 0,vi 0,vi 3,vr 190,(.bool true),vi 181,vr 191,.none,vr 192,vr 193,vr 194,vi 431,vi 137,vs "/claim/cut.py" 432]) ::
 (nat_lit 196,fo "_law_number_word" 29 .none .none (vs "law_scissorhall_k81_numbers_read" 313) (vr 195) .none) ::
 (nat_lit 202,fc [vs "_law_asked" 434,vs "_law_asked" 435,vs "/claim/cut.py" 436,vi 147,vi 1,vi 0,vi 0,vi 3,vr 197,(.bool true),vi 181,vr 198,.none,vr 199,vr 200,vr 201,vi 440,vi 147,vs "/claim/cut.py" 441]) ::
 (nat_lit 203,fo "_law_asked" 30 .none .none (vs "law_scissorhall_k81_numbers_read" 313) (vr 202) .none) ::
 (nat_lit 209,fc [vs "_law_meets" 443,vs "_law_meets" 444,vs "/claim/cut.py" 445,vi 154,vi 2,vi 0,vi 0,vi 3,vr 204,(.bool true),vi 181,vr 205,.none,vr 206,vr 207,vr 208,vi 448,vi 154,vs "/claim/cut.py" 449]) ::
 (nat_lit 210,fo "_law_meets" 31 .none .none (vs "law_scissorhall_k81_numbers_read" 313) (vr 209) .none) ::
 (nat_lit 216,fc [vs "law" 451,vs "law" 452,vs "/claim/cut.py" 453,vi 158,vi 1,vi 0,vi 0,vi 3,vr 211,(.bool true),vi 181,vr 212,.none,vr 213,vr 214,vr 215,vi 459,vi 158,vs "/claim/cut.py" 460]) ::
 (nat_lit 217,fo "law" 32 .none .none (vs "law_scissorhall_k81_numbers_read" 313) (vr 216) .none) :: []
noncomputable def KA:List Nat:=[3,23,24,36,37,48,49,60,61,69,70,76,77,78,84,85,91,92,96,97,103,104,110,111,117,118,124,125,129,130,136,137,141,142,148,149,153,154,160,161,167,168,174,175,181,182,188,189,195,196,202,203,209,210,216,217]
noncomputable def VW:Program:={ PySem.Challenge.pw_scissorhall_k81_numbers_read with main:={ PySem.Challenge.pw_scissorhall_k81_numbers_read.main with body:=[top 1,top 2,top 3,top 4,top 6,top 7,top 10,top 11,top 12,top 13,top 14,top 16,top 17,top 18,top 19,top 20,top 21,top 22,top 23,top 24,top 25,top 26,top 27,top 28,top 29,top 30,top 31,top 32] } }
theorem KE:∀ P,KA=(KK P).map (·.1):=fun _=>by kernel_rfl
theorem left:PySem.W.LeftO PySem.Challenge.pw_scissorhall_k81_numbers_read VW [PySem.Str.ofString "fraction"] (fun s=>PySem.W.xlAt VW [] s && PySem.W.recOk (PySem.W.RowW.records (PySem.W.OpenRow.toRowW (PySem.W.OpenLaw.row PySem.Challenge.rw_scissorhall_k81_numbers_read))) s) (PySem.W.Hook.obs (PySem.W.kHook KK KA KE)) (PySem.W.Hook.val (PySem.W.kHook KK KA KE)) 3276:=by
 intro w
 kernel_rfl
end Sc
set_option maxHeartbeats 200000
set_option Elab.async false
set_option linter.all false
set_option maxRecDepth 100000
namespace L2
open PySem PySem.Spec PyProof.Rows
abbrev Key:=Sum Int Str
def akE:Key→Value→Bool
 | .inl k,v=>Value.isInt k v
 | .inr x,v=>Value.isStrOf x v
def keyH (w:World):Key→Int
 | .inl k=>hashInt k
 | .inr x=>hashStr w x
theorem aaZ:∀ {k:Key} {v:Value},akE k v=true→(∃ i t,k=Sum.inl i∧v=Value.int i t)∨(∃ x t,k=Sum.inr x∧v=Value.str x t)
 | .inl i,v,h=>by
  obtain ⟨t,e⟩:=Value.isInt_shape (k:=i) (v:=v) h
  exact .inl ⟨i,t,rfl,e⟩
 | .inr x,v,h=>by
  obtain ⟨t,e⟩:=Value.isStrOf_shape (x:=x) (v:=v) h
  exact .inr ⟨x,t,rfl,e⟩
theorem akk (a b:Int):decide ((Sum.inl a:Key)=Sum.inl b)=(a == b):=by
 by_cases e:a=b
 ·subst e; simp
 ·have h:¬ (Sum.inl a:Key)=Sum.inl b:=fun q=>e (Sum.inl.inj q)
  rw [decide_eq_false h]
  exact (beq_eq_false_iff_ne.mpr e).symm
theorem akb (a b:Str):decide ((Sum.inr a:Key)=Sum.inr b)=decide (a=b):=by
 by_cases e:a=b
 ·subst e; simp
 ·have h:¬ (Sum.inr a:Key)=Sum.inr b:=fun q=>e (Sum.inr.inj q)
  rw [decide_eq_false h,decide_eq_false e]
theorem ak7 (a:Int) (b:Str):decide ((Sum.inl a:Key)=Sum.inr b)=false:=decide_eq_false (fun q=>nomatch q)
theorem aj7 (a:Str) (b:Int):decide ((Sum.inr a:Key)=Sum.inl b)=false:=decide_eq_false (fun q=>nomatch q)
def agC (prog:Program) (w:World):PySem.KeyKind prog w Key where
 is:=akE
 hash:=keyH w
 inj:=fun v a b ha hb=>by
  rcases aaZ ha with ⟨i,t,rfl,rfl⟩ | ⟨x,t,rfl,rfl⟩
  ·rcases aaZ hb with ⟨j,u,rfl,e⟩ | ⟨y,u,rfl,e⟩
   ·injection e with e1 _; rw [e1]
   ·exact nomatch e
  ·rcases aaZ hb with ⟨j,u,rfl,e⟩ | ⟨y,u,rfl,e⟩
   ·exact nomatch e
   ·injection e with e1 _; rw [e1]
 byValue:=fun k v h=>by
  rcases aaZ h with ⟨i,t,rfl,rfl⟩ | ⟨x,t,rfl,rfl⟩ <;> rfl
 pyHash:=fun hv h=>by
  rcases aaZ hv with ⟨i,t,rfl,rfl⟩ | ⟨x,t,rfl,rfl⟩
  ·exact wpAny_pyHash_int h
  ·exact wpAny_pyHash_str h
 eqBool:=fun hu hv h=>by
  rcases aaZ hu with ⟨i,t,rfl,rfl⟩ | ⟨x,t,rfl,rfl⟩
  ·rcases aaZ hv with ⟨j,u,rfl,rfl⟩ | ⟨y,u,rfl,rfl⟩
   ·rw [akk] at h; exact wpAny_eqBool_int h
   ·rw [ak7] at h; exact SeqAt.EqAt.int_str i t y u _ _ _ _ h
  ·rcases aaZ hv with ⟨j,u,rfl,rfl⟩ | ⟨y,u,rfl,rfl⟩
   ·rw [aj7] at h; exact SeqAt.EqAt.str_int x t j u _ _ _ _ h
   ·rw [akb] at h; exact wpAny_eqBool_str h
 «strs»:=fun k x t v h=>by
  rcases aaZ h with ⟨i,u,rfl,e⟩ | ⟨y,u,rfl,e⟩
  ·exact nomatch e
  ·injection e with e1 _
   subst e1
   cases v <;> rfl
end L2
namespace L2
open PySem PySem.Spec PyProof.Rows
inductive V where
 | non | bl (b:Bool) | int (i:Int) | str (x:Str) | byt (b:Array UInt8) | flt (b:UInt64) | ref (a:Addr) | ty (n:String)
 deriving DecidableEq
def RelV:V→Value→Prop
 | .non,u=>u=Value.none
 | .bl b,u=>u=Value.bool b
 | .int i,u=>∃ t,u=Value.int i t
 | .str x,u=>∃ t,u=Value.str x t
 | .byt b,u=>∃ t,u=Value.bytes b t
 | .flt b,u=>∃ t,u=Value.float b t
 | .ref a,u=>u=Value.ref a
 | .ty n,u=>u=Value.type n
abbrev Vals:List V→List Value→Prop:=Paired RelV
theorem Vals.length {xs:List V} {us:List Value} (r:Vals xs us):xs.length=us.length:=Paired.length r
theorem Vals.get:∀ {xs:List V} {us:List Value} {i:Nat} {x:V},Vals xs us→xs[i]?=some x→∃ u,us[i]?=some u∧RelV x u
 | _,_,_,_,.nil,e=>by simp at e
 | _,_,0,_,.cons r _,e=>by simp at e; subst e; exact ⟨_,rfl,r⟩
 | _,_,i+1,x,.cons _ t,e=>by
  obtain ⟨u,h1,h2⟩:=Vals.get (i:=i) (x:=x) t (by simpa using e)
  exact ⟨u,by simpa using h1,h2⟩
theorem Vals.set {x:V} {u:Value} (r:RelV x u):∀ {xs:List V} {us:List Value} (i:Nat),Vals xs us→Vals (xs.set i x) (us.set i u)
 | _,_,_,.nil=>.nil
 | _,_,0,.cons _ t=>.cons r t
 | _,_,i+1,.cons q t=>.cons q (Vals.set r i t)
theorem Vals.append:∀ {xs ys:List V} {us ws:List Value},Vals xs us→Vals ys ws→Vals (xs++ys) (us++ws)
 | _,_,_,_,.nil,s=>s
 | _,_,_,_,.cons r t,s=>.cons r (Vals.append t s)
theorem Vals.take:∀ {xs:List V} {us:List Value} (n:Nat),Vals xs us→Vals (xs.take n) (us.take n)
 | _,_,0,_=>.nil
 | _,_,_+1,.nil=>.nil
 | _,_,n+1,.cons r t=>.cons r (Vals.take n t)
theorem Vals.drop:∀ {xs:List V} {us:List Value} (n:Nat),Vals xs us→Vals (xs.drop n) (us.drop n)
 | _,_,0,r=>r
 | _,_,_+1,.nil=>.nil
 | _,_,n+1,.cons _ t=>Vals.drop n t
def RelO:Option V→Option Value→Prop
 | some v,some u=>RelV v u
 | none,none=>True
 | _,_=>False
def KV {κ:Type}:List (κ × V)→List (κ × Value)→Prop:=Paired fun (p:κ × V) (q:κ × Value)=>p.1=q.1∧RelV p.2 q.2
def kV:Key→V
 | .inl i=>.int i
 | .inr x=>.str x
inductive HO where
 /-- a list -/
 | lst (xs:List V)
 /-- a tuple (never changes) -/
 | tup (xs:List V)
 /-- a dict whose keys are ints and texts; one whose keys are tuples of ints and texts (the empty one is both) -/
 | dK (kvs:List (Key × V)) | dT (kvs:List (List Key × V))
 /-- a set of ints: its members,its size -/
 | set (S:Int→Bool) (n:Nat)
 /-- an instance of the class at C,its dict at dx,its attributes -/
 | ins (C dx:Addr) (fs:List (Str × V))
 /-- the dict of the instance at x -/
 | own (x:Addr)
 /-- the dict of an exception -/
 | xd (fs:List (Str × V))
 /-- a bound method,f of x -/
 | met (f x:Addr)
 /-- a range object lo,lo+1,.. below hi -/
 | rng (lo hi:Int)
 /-- a thing that is known to the object (the script; a dict while a loop walks it): read,never written while it is so -/
 | frz (o:Obj) (u:HO)
 /-- a code object's table -/
 | tbl (ps:Array Value)
 /-- any other thing,by what is true of its one object (a def of one's own: SetO a S n:=HO.ext fun h=>..) -/
 | ext (φ:Heap→Prop)
abbrev Hp:=Addr→Option HO
def upd (H:Hp) (a:Addr) (o:HO):Hp:=fun b=>if b=a then some o else H b
theorem abg {H:Hp} {a:Addr} {o:HO}:upd H a o a=some o:=by unfold upd; rw [if_pos rfl]
theorem aaF {H:Hp} {a b:Addr} {o:HO} (h:b≠a):upd H a o b=H b:=by unfold upd; rw [if_neg h]
theorem aaL {H:Hp} {a b:Addr} {o:HO} (h:H a=some o) (h':H b=none):a≠b:=by
 intro e; subst e; rw [h] at h'; cases h'
section
variable (P:Program) (w:World)
def abQ (H:Hp) (h:Heap) (a:Addr):HO→Prop
 | .lst xs=>xs.length≤sizeLine∧∃ (its:List Value) (n:Nat),Vals xs its∧h.get? a=some { cls:=.type "list",data:=.seq its.toArray n }
 | .tup xs=>xs.length≤sizeLine∧∃ its:List Value,Vals xs its∧IsTup h a its.toArray
 | .dK kvs=>kvs.length≤sizeLine∧(a == sysModules)=false∧∃ vs,KV kvs vs∧h.DictOf (agC P w) a vs
 | .dT kvs=>kvs.length≤sizeLine∧(a == sysModules)=false∧∃ xs:List (List Key × Addr × Value),
   Paired (fun (p:List Key × V) (q:List Key × Addr × Value)=>p.1=q.1∧H q.2.1=some (.tup (p.1.map kV))∧RelV p.2 q.2.2) kvs xs ∧
   ∃ o es ep,h.get? a=some o∧o.ExactDict∧o.data=.dict es ep∧es.toList=xs.map (entryOfKey (tupleKind (agC P w)))∧(xs.map (·.1)).Nodup
 | .set S n=>h.SetOf (intKind P w) a S n
 | .ins C dx fs=>H dx=some (.own a)∧fs.length≤1000∧dx≠a∧h.get? a=some (PySem.W.instObj C dx) ∧
   ∃ mA,h.Ns1 dx mA∧(∀ f,RelO (fs.lookup f) (mA f))∧PySem.Within mA (fs.map (·.1))
 | .own _=>∃ o,h.get? a=some o
 | .xd fs=>∃ mA,h.Ns1 a mA∧∀ f,RelO (fs.lookup f) (mA f)
 | .rng lo hi=>∃ t u v,h.get? a=some { cls:=.type "range",data:=.fields #[.int lo t,.int hi u,.int 1 v] }
 | .frz o u=>h.get? a=some o∧abQ H h a u
 | .tbl ps=>h.get? a=some { cls:=.none,data:=.fields ps }
 | .met f x=>h.get? a=some (PySem.W.methodObj (.ref f) (.ref x))
 | .ext φ=>φ h∧(∃ o,h.get? a=some o)∧∀ h1 h2:Heap,φ h1→(∀ o,h1.get? a=some o→h2.get? a=some o)→φ h2
def HOk (H:Hp) (h:Heap):Prop:=∀ a o,H a=some o→abQ P w H h a o
end
section
variable {P:Program} {w:World} {H H':Hp} {h h':Heap} {a:Addr} {o:HO}
theorem abQ.lt (x:abQ P w H h a o):a < h.objs.size:=by
 cases o with
 | lst xs=>obtain ⟨_,_,_,_,e⟩:=x; exact Heap.lt_size e
 | tup xs=>obtain ⟨_,_,_,p⟩:=x; exact p.lt
 | dK kvs=>obtain ⟨_,_,_,_,o,_,_,e,_⟩:=x; exact Heap.lt_size e
 | dT kvs=>obtain ⟨_,_,_,_,o,_,_,e,_⟩:=x; exact Heap.lt_size e
 | set S n=>obtain ⟨o,_,_,_,e,_⟩:=x; exact Heap.lt_size e
 | ins C dx fs=>obtain ⟨_,_,_,e,_⟩:=x; exact Heap.lt_size e
 | own y=>obtain ⟨_,e⟩:=x; exact Heap.lt_size e
 | xd fs=>obtain ⟨_,⟨_,_,_,e,_⟩,_⟩:=x; exact Heap.lt_size e
 | rng lo hi=>obtain ⟨_,_,_,e⟩:=x; exact Heap.lt_size e
 | frz ob u=>obtain ⟨e,_⟩:=x; exact Heap.lt_size e
 | tbl ps=>exact Heap.lt_size (show h.get? a=some _ from x)
 | met f y=>exact Heap.lt_size (show h.get? a=some _ from x)
 | ext φ=>obtain ⟨_,⟨_,e⟩,_⟩:=x; exact Heap.lt_size e
theorem Paired.mapP {α β:Type} {F G:α→β→Prop}:∀ {l₁:List α} {l₂:List β},Paired F l₁ l₂→(∀ a b,F a b→G a b)→Paired G l₁ l₂
 | _,_,.nil,_=>.nil
 | _,_,.cons r t,f=>.cons (f _ _ r) (Paired.mapP t f)
theorem abQ.stay (x:abQ P w H h a o) (k:∀ b u,(b=a∨H b=some (.own a))→h.get? b=some u→h'.get? b=some u)
  (ho:∀ b,H b=some (.own a)→H' b=some (.own a)) (ht:∀ b xs,H b=some (.tup xs)→H' b=some (.tup xs)):abQ P w H' h' a o:=by
 induction o with
 | lst xs=>obtain ⟨z,its,n,r,e⟩:=x; exact ⟨z,its,n,r,k _ _ (.inl rfl) e⟩
 | tup xs=>obtain ⟨z,its,r,ob,e,c⟩:=x; exact ⟨z,its,r,ob,k _ _ (.inl rfl) e,c⟩
 | dK kvs=>obtain ⟨z,y,vs,r,ob,es,ep,e,c⟩:=x; exact ⟨z,y,vs,r,ob,es,ep,k _ _ (.inl rfl) e,c⟩
 | dT kvs =>
  obtain ⟨z,y,xs,r,ob,es,ep,e,c⟩:=x
  exact ⟨z,y,xs,Paired.mapP r fun p q z=>⟨z.1,ht _ _ z.2.1,z.2.2⟩,ob,es,ep,k _ _ (.inl rfl) e,c⟩
 | set S n=>obtain ⟨ob,es,ep,t,e,c⟩:=x; exact ⟨ob,es,ep,t,k _ _ (.inl rfl) e,c⟩
 | ins C dx fs =>
  obtain ⟨d,z,ne,e,mA,⟨od,es,ep,e2,c⟩,r⟩:=x
  exact ⟨ho _ d,z,ne,k _ _ (.inl rfl) e,mA,⟨od,es,ep,k _ _ (.inr d) e2,c⟩,r⟩
 | own y=>obtain ⟨ob,e⟩:=x; exact ⟨ob,k _ _ (.inl rfl) e⟩
 | xd fs=>obtain ⟨mA,⟨od,es,ep,e,c⟩,r⟩:=x; exact ⟨mA,⟨od,es,ep,k _ _ (.inl rfl) e,c⟩,r⟩
 | rng lo hi=>obtain ⟨t,u,v,e⟩:=x; exact ⟨t,u,v,k _ _ (.inl rfl) e⟩
 | frz ob u ih=>obtain ⟨e,q⟩:=x; exact ⟨k _ _ (.inl rfl) e,ih q⟩
 | tbl ps =>
  have e:h.get? a=some { cls:=.none,data:=.fields ps }:=x
  show h'.get? a=some { cls:=.none,data:=.fields ps }
  exact k a _ (.inl rfl) e
 | met f y =>
  have e:h.get? a=some (PySem.W.methodObj (.ref f) (.ref y)):=x
  show h'.get? a=some (PySem.W.methodObj (.ref f) (.ref y))
  exact k a _ (.inl rfl) e
 | ext φ=>obtain ⟨p,⟨o,e⟩,st⟩:=x; exact ⟨st _ _ p fun o q=>k _ _ (.inl rfl) q,⟨o,k _ _ (.inl rfl) e⟩,st⟩
theorem HOk.lt (x:HOk P w H h) (e:H a=some o):a < h.objs.size:=(x a o e).lt
theorem HOk.fresh (x:HOk P w H h) (e:h.objs.size≤a):H a=none:=by
 cases q:H a with
 | none=>rfl
 | some u=>exact absurd (Nat.lt_of_lt_of_le (x.lt q) e) (Nat.lt_irrefl _)
theorem HOk.kept (x:HOk P w H h) (k:∀ b u,h.get? b=some u→h'.get? b=some u):HOk P w H h':=fun a o e =>
 (x a o e).stay (fun b u _ q=>k b u q) (fun _ q=>q) fun _ _ q=>q
theorem HOk.laid (x:HOk P w H h) (k:∀ b u,h.get? b=some u→h'.get? b=some u) (hp:h.objs.size≤a) (new:abQ P w (upd H a o) h' a o):HOk P w (upd H a o) h':=fun b u e=>by
 have hn:=x.fresh hp
 by_cases hb:b=a
 ·subst hb; rw [abg] at e; cases e; exact new
 ·rw [aaF hb] at e
  exact (x b u e).stay (fun c v _ q=>k c v q) (fun c q=>by rw [aaF (aaL q hn)]; exact q) fun c xs q=>by rw [aaF (aaL q hn)]; exact q
end
def Rd (H:Hp) (a:Addr) (u:HO):Prop:=H a=some u∨∃ o,H a=some (.frz o u)
theorem Rd.ok {P:Program} {w:World} {H:Hp} {h:Heap} {a:Addr} {u:HO} (r:Rd H a u) (x:HOk P w H h):abQ P w H h a u:=by
 rcases r with r | ⟨o,r⟩
 ·exact x a u r
 ·obtain ⟨_,q⟩:=x a _ r
  exact q
def Mut:Option HO→Prop
 | some (.lst _)=>True
 | some (.dK _)=>True
 | some (.dT _)=>True
 | some (.set _ _)=>True
 | some (.ins _ _ _)=>True
 | some (.ext _)=>True
 | _=>False
section
variable {P:Program} {w:World} {H:Hp} {h h':Heap} {x e:Addr} {o':HO}
theorem HOk.write (ok:HOk P w H h) (mu:Mut (H x)) (he:e=x∨H e=some (.own x)) (k:∀ b u,b≠e→h.get? b=some u→h'.get? b=some u) (heo:∃ u,h'.get? e=some u)
  (new:abQ P w (upd H x o') h' x o'):HOk P w (upd H x o') h':=fun b u q=>by
 have nown:∀ c y,H c=some (.own y)→c≠x:=fun c y r z=>by subst z; rw [r] at mu; exact mu
 have ntup:∀ c xs,H c=some (.tup xs)→c≠x:=fun c xs r z=>by subst z; rw [r] at mu; exact mu
 by_cases hb:b=x
 ·subst hb; rw [abg] at q; cases q; exact new
 ·rw [aaF hb] at q
  by_cases hbe:b=e
  ·have q':H b=some (.own x):=by
    rcases he with z | z
    ·exact absurd (hbe.trans z) hb
    ·rw [hbe]; exact z
   rw [q] at q'; cases q'
   obtain ⟨v,hv⟩:=heo
   exact ⟨v,by rw [hbe]; exact hv⟩
  ·refine (ok b u q).stay (fun c v hc r=>k c v ?_ r) (fun c r=>by rw [aaF (nown c b r)]; exact r) fun c xs r=>by rw [aaF (ntup c xs r)]; exact r
   rcases hc with rfl | hc
   ·exact hbe
   ·rintro rfl
    rcases he with z | z
    ·exact nown c b hc z
    ·rw [hc] at z; cases z; exact hb rfl
end
structure Un (fs ex:List Addr) (H H':Hp) (h h':Heap):Prop where
 keep:∀ b o,h.get? b=some o→H b=none→b ∉ fs→b ∉ ex→h'.get? b=some o
 slot:∀ b o,h.get? b=some o→H b=none→b∈fs→b ∉ ex→∃ sl,h'.get? b=some { o with slots:=sl }
 free:∀ b o,h.get? b=some o→H b=none→b ∉ ex→H' b=none
 there:∀ b o,h.get? b=some o→b ∉ ex→∃ o',h'.get? b=some o'
 tups:∀ b xs,H b=some (.tup xs)→H' b=some (.tup xs)
 frzs:∀ b o u,H b=some (.frz o u)→H' b=some (.frz o u)
 tbls:∀ b ps,H b=some (.tbl ps)→∃ more,H' b=some (.tbl (ps++more))
section
variable {fs fs' ex ex':List Addr} {H H1 H2:Hp} {h h1 h2 h':Heap} {a x e:Addr} {o:HO}
theorem Un.any (u:Un fs ex H H1 h h1) {b:Addr} {ob:Obj} (q:h.get? b=some ob) (n:H b=none) (hx:b ∉ ex):∃ sl,h1.get? b=some { ob with slots:=sl }:=by
 by_cases hb:b∈fs
 ·exact u.slot b ob q n hb hx
 ·exact ⟨ob.slots,u.keep b ob q n hb hx⟩
theorem Un.trans (a:Un fs ex H H1 h h1) (b:Un fs ex H1 H2 h1 h2):Un fs ex H H2 h h2 where
 keep:=fun c ob q n hc hx=>b.keep c ob (a.keep c ob q n hc hx) (a.free c ob q n hx) hc hx
 slot:=fun c ob q n hc hx=>by
  obtain ⟨sl,e1⟩:=a.slot c ob q n hc hx
  obtain ⟨sl',e2⟩:=b.slot c _ e1 (a.free c ob q n hx) hc hx
  exact ⟨sl',e2⟩
 free:=fun c ob q n hx=>by
  obtain ⟨o',e1⟩:=a.there c ob q hx
  exact b.free c o' e1 (a.free c ob q n hx) hx
 there:=fun c ob q hx=>by
  obtain ⟨o',e1⟩:=a.there c ob q hx
  exact b.there c o' e1 hx
 tups:=fun c xs q=>b.tups c xs (a.tups c xs q)
 frzs:=fun c ob xs q=>b.frzs c ob xs (a.frzs c ob xs q)
 tbls:=fun c ps q=>by
  obtain ⟨m1,e1⟩:=a.tbls c ps q
  obtain ⟨m2,e2⟩:=b.tbls c _ e1
  exact ⟨m1++m2,by rw [e2,Array.append_assoc]⟩
theorem Un.kept (k:∀ b u,h.get? b=some u→h'.get? b=some u):Un fs ex H H h h' :=
 ⟨fun b ob q _ _ _=>k b ob q,fun b ob q _ _ _=>⟨ob.slots,k b ob q⟩,fun _ _ _ n _=>n,fun b ob q _=>⟨ob,k b ob q⟩,fun _ _ q=>q,fun _ _ _ q=>q,fun _ ps q=>⟨#[],by rw [q]; simp⟩⟩
theorem Un.refl:Un fs ex H H h h:=Un.kept fun _ _ q=>q
theorem Un.laid (k:∀ b u,h.get? b=some u→h'.get? b=some u) (hp:h.objs.size≤a) (hn:H a=none):Un fs ex H (upd H a o) h h' where
 keep:=fun b u q _ _ _=>k b u q
 slot:=fun b u q _ _ _=>⟨u.slots,k b u q⟩
 free:=fun b u q n _=>by rw [aaF (Nat.ne_of_lt (Nat.lt_of_lt_of_le (Heap.lt_size q) hp))]; exact n
 there:=fun b u q _=>⟨u,k b u q⟩
 tups:=fun b xs q=>by rw [aaF (aaL q hn)]; exact q
 frzs:=fun b u xs q=>by rw [aaF (aaL q hn)]; exact q
 tbls:=fun b ps q=>⟨#[],by rw [aaF (aaL q hn),q]; simp⟩
theorem Un.write (mu:Mut (H x)) (he:e=x∨H e=some (.own x)) (k:∀ b u,b≠e→h.get? b=some u→h'.get? b=some u) (heo:∃ u,h'.get? e=some u):Un fs ex H (upd H x o) h h':=by
 have hx:∀ b,H b=none→b≠x:=fun b n z=>by subst z; rw [n] at mu; exact mu
 have hb:∀ b,H b=none→b≠e:=fun b n z=>by
  subst z
  rcases he with r | r
  ·exact hx b n r
  ·rw [n] at r; cases r
 have hm:∀ b u,H b=some u→¬ Mut (some u)→b≠x:=fun b u q nm z=>by subst z; rw [q] at mu; exact nm mu
 refine ⟨fun b u q n _ _=>k b u (hb b n) q,fun b u q n _ _=>⟨u.slots,k b u (hb b n) q⟩,fun b u q n _=>by rw [aaF (hx b n)]; exact n,fun b u q _=>?_,
  fun b xs q=>by rw [aaF (hm b _ q fun z=>z)]; exact q,fun b u xs q=>by rw [aaF (hm b _ q fun z=>z)]; exact q,fun b ps q=>⟨#[],by rw [aaF (hm b _ q fun z=>z),q]; simp⟩⟩
 by_cases hbe:b=e
 ·subst hbe; exact heo
 ·exact ⟨u,k b u hbe q⟩
end
def trk (h:Heap) (H:Hp):List Addr:=(List.range h.objs.size).filter fun a=>(H a).isSome
def hidT (h:Heap) (H:Hp):Heap:=PySem.W.hideAll h (trk h H)
theorem ahe (h:Heap) (H:Hp):(hidT h H).objs.size=h.objs.size:=PySem.W.hideAll_size _ _
theorem ah3 {h:Heap} {H:Hp} {b:Addr} {o:Obj} (e:h.get? b=some o) (n:H b=none):(hidT h H).get? b=some o :=
 PySem.W.hideAll_get _ e fun hm=>by
  have q:(H b).isSome=true:=(List.mem_filter.mp hm).2
  rw [n] at q; simp at q
theorem ajf {h:Heap} {H:Hp} {b:Addr} {o:Obj} (e:(hidT h H).get? b=some o):h.get? b=some o∧H b=none:=by
 have e':h.get? b=some o:=PySem.W.of_hideAll (trk h H) e
 refine ⟨e',?_⟩
 cases q:H b with
 | none=>rfl
 | some x =>
  have hm:b∈trk h H:=List.mem_filter.mpr ⟨List.mem_range.mpr (Heap.lt_size e'),by simp [q]⟩
  have z:(hidT h H).get? b=none:=PySem.W.hideAll_none (trk h H) hm
  rw [z] at e; cases e
def aiU (g h:Heap) (L:Addr):List (Addr × Obj):=(List.range h.objs.size).filterMap fun a=>if a=L∨(g.get? a).isSome=true then none else (h.get? a).map fun o=>(a,o)
def rest (g h:Heap) (L d:Addr):List (Addr × Obj):=(aiU g h L).filter fun p=>decide (p.1≠d)
end L2
namespace L2
open PySem PySem.Spec PyProof.Rows
structure Mod (K:PySem.W.Frag) (mg:Str→Option Value) (base:Heap):Prop where
 kin:K.In base
 glob:base.Ns mainGlobals mg
 blt:∃ mb,base.Ns builtinsNs mb∧∀ x:Str,x≠"__name__"→mb x=bootBuiltins x
 nolimit:base.NoLimit
structure Cx where
 prog:Program
 w:World
 K:PySem.W.Frag
 mg:Str→Option Value
 base:Heap
 A:Around
 N:List Str
 s₀:Shared
 H₀:Hp
 env:Env
 outer:List Env
 stack:List Env
 ex:List Addr
 fn:Str→Bool
 calm:Bool
 pn:List (Addr × Obj)
 xe:Value→Shared→Prop
def frs (l:List Env):List Addr:=l.filterMap (·.frame)
abbrev Cx.fs (X:Cx):List Addr:=frs X.outer
def Vis (sc:Scope) (x:Str):Prop:=sc.names.lookup x=some .local∨sc.names.lookup x=some .cell∨sc.names.lookup x=some .free
def Loc (sc:Scope) (x:Str):Prop:=sc.names.lookup x=some .local∨sc.names.lookup x=some .cell
def Look (env:Env) (h:Heap) (m:Str→Option Value) (x:Str) (u:Value):Prop :=
 (env.kindOf x=some .local∧m x=some u)∨((env.kindOf x=some .cell∨env.kindOf x=some .free)∧∃ c,env.cells.lookup x=some c∧h.IsCell c (some u))
structure Cx.Ok (X:Cx):Prop where
 mod:Mod X.K X.mg X.base
 kind:X.env.scope.kind=.function
 glob:X.env.globals=mainGlobals
 blt:X.env.builtins=builtinsNs
 above:X.s₀.heap.objs.size≤X.env.locals
 inj:∀ x y c,X.env.cells.lookup x=some c→X.env.cells.lookup y=some c→x=y
 has:∀ x,(X.env.kindOf x=some .cell∨X.env.kindOf x=some .free)→∃ c,X.env.cells.lookup x=some c
 cab:∀ x c,X.fn x=true→X.env.cells.lookup x=some c→X.s₀.heap.objs.size≤c
 hd:X.calm=true→X.A.handled=none
 frames:X.A.frames=some X.stack
 stk:X.stack=X.outer∨(X.stack=X.env :: X.outer∧X.env.frame=some X.env.locals)
 exf:∀ b∈X.ex,b≠X.env.locals∧∀ x c,X.env.cells.lookup x=some c→c≠b
 bs:∀ b o,X.base.get? b=some o→X.s₀.heap.get? b=some o∧X.H₀ b=none
 bsz:X.base.objs.size≤X.s₀.heap.objs.size
 noex:∀ b o,X.base.get? b=some o→b ∉ X.ex
 exfs:∀ b∈X.ex,b ∉ X.fs
 funs:X.s₀.heap.FunFrames X.base X.outer
 frf:∀ b∈X.fs,X.H₀ b=none
structure Inv (X:Cx) (pins:List (Addr × Obj)) (σ:List (Option V)) (H:Hp) (s:Shared):Prop where
 ok:X.Ok
 os:s.os=X.s₀.os
 bare:AllBare s.gens
 base:Un X.fs X.ex X.H₀ H X.s₀.heap s.heap
 loc:∃ m,s.heap.Ns X.env.locals m∧∀ (i:Nat) (x:Str) (v:V),X.N[i]?=some x→σ[i]?=some (some v)→Vis X.env.scope x→∃ u,RelV v u∧Look X.env s.heap m x u
 cell:∀ x c,X.env.cells.lookup x=some c→∃ v,s.heap.IsCell c v
 free:H X.env.locals=none
 freeC:∀ x c,X.env.cells.lookup x=some c→H c=none
 pin:∀ p∈X.pn++pins,s.heap.get? p.1=some p.2∧H p.1=none∧p.1≠X.env.locals∧p.1 ∉ X.fs∧∀ v,p.2.data≠.cell v
 hok:HOk X.prog X.w H s.heap
 len:σ.length=X.N.length
section
variable {X:Cx} {pins:List (Addr × Obj)} {σ:List (Option V)} {H H':Hp} {s:Shared} {h':Heap}
theorem Cx.Ok.nofr (ok:X.Ok) {b:Addr} {o:Obj} (e:X.base.get? b=some o):b ∉ X.fs:=fun hb=>by
 have:=(ok.funs.mem hb).1
 rw [e] at this; cases this
theorem Inv.bs (I:Inv X pins σ H s):∀ b o,X.base.get? b=some o→s.heap.get? b=some o∧H b=none:=fun b o e =>
 ⟨I.base.keep b o (I.ok.bs b o e).1 (I.ok.bs b o e).2 (I.ok.nofr e) (I.ok.noex b o e),I.base.free b o (I.ok.bs b o e).1 (I.ok.bs b o e).2 (I.ok.noex b o e)⟩
theorem Inv.bk (I:Inv X pins σ H s):∀ b o,X.base.get? b=some o→s.heap.get? b=some o:=fun b o e=>(I.bs b o e).1
theorem Inv.mod (I:Inv X pins σ H s):Mod X.K X.mg X.base:=I.ok.mod
theorem Inv.kIn (I:Inv X pins σ H s):X.K.In s.heap:=I.ok.mod.kin.keeps I.bk
theorem Inv.lt (I:Inv X pins σ H s):X.env.locals < s.heap.objs.size:=let ⟨_,hn,_⟩:=I.loc; hn.lt
theorem Inv.sz (I:Inv X pins σ H s):X.s₀.heap.objs.size≤s.heap.objs.size:=Nat.le_trans I.ok.above (Nat.le_of_lt I.lt)
theorem Inv.nofs (I:Inv X pins σ H s) {a:Addr} (h:s.heap.objs.size≤a):a ∉ X.fs:=fun hb=>by
 obtain ⟨_,o,ho,_⟩:=I.ok.funs.mem hb
 exact absurd (Nat.lt_of_lt_of_le (Heap.lt_size ho) (Nat.le_trans I.sz h)) (Nat.lt_irrefl _)
theorem Inv.cne (I:Inv X pins σ H s):∀ x c,X.env.cells.lookup x=some c→c≠X.env.locals:=fun x c e z=>by
 obtain ⟨v,o,ho,hd⟩:=I.cell x c e
 obtain ⟨m,⟨o',es,ep,ho',hd',_⟩,_⟩:=I.loc
 rw [z,ho'] at ho; cases ho; rw [hd'] at hd; cases hd
theorem Inv.funs (I:Inv X pins σ H s):s.heap.FunFrames X.base X.outer:=by
 have all:∀ (l:List Env),(∀ b∈frs l,b∈X.fs)→X.s₀.heap.FunFrames X.base l→s.heap.FunFrames X.base l:=by
  intro l
  induction l with
  | nil=>intro _ _; trivial
  | cons env r ih =>
   intro hs hl
   obtain ⟨hk,⟨L,o,hf,hn,ho,hd⟩,hr⟩:=hl
   have hL:L∈X.fs:=hs L (by unfold frs; rw [List.filterMap_cons,hf]; exact List.mem_cons_self)
   obtain ⟨sl,e⟩:=I.base.slot L o ho (I.ok.frf L hL) hL fun z=>I.ok.exfs L z hL
   exact ⟨hk,⟨L,_,hf,hn,e,hd⟩,ih (fun b hb=>hs b (by unfold frs; rw [List.filterMap_cons,hf]; exact List.mem_cons_of_mem _ hb)) hr⟩
 exact all X.outer (fun _ hb=>hb) I.ok.funs
theorem Inv.stack (I:Inv X pins σ H s):s.heap.FunFrames X.base X.stack:=by
 rcases I.ok.stk with e | ⟨e,hf⟩
 ·rw [e]; exact I.funs
 ·rw [e]
  obtain ⟨m,hn,_⟩:=I.loc
  refine .cons (by rw [I.ok.kind]; decide) hf hn ?_ I.funs
  exact Heap.get?_none_of_le (Nat.le_trans I.ok.bsz I.ok.above)
theorem Inv.stkSub (I:Inv X pins σ H s):∀ b∈frs X.stack,b∈X.env.locals :: X.fs:=fun b hb=>by
 rcases I.ok.stk with e | ⟨e,hf⟩
 ·rw [e] at hb; exact List.mem_cons_of_mem _ hb
 ·rw [e] at hb
  unfold frs at hb
  rw [List.filterMap_cons,hf] at hb
  exact hb
theorem Inv.stkFree (I:Inv X pins σ H s):∀ b∈frs X.stack,H b=none:=fun b hb=>by
 rcases List.mem_cons.mp (I.stkSub b hb) with e | hb
 ·rw [e]; exact I.free
 ·obtain ⟨_,o,ho,_⟩:=I.ok.funs.mem hb
  exact I.base.free b o ho (I.ok.frf b hb) fun z=>I.ok.exfs b z hb
theorem Inv.step {g':Array GenState} {t':Nat} {d':Drawn} {ch:List Addr} (I:Inv X pins σ H s)
  (hch:∀ b∈ch,(b∈X.ex∨X.s₀.heap.objs.size≤b)∧b≠X.env.locals∧(∀ x c,X.env.cells.lookup x=some c→c≠b)∧∀ p∈X.pn++pins,p.1≠b)
  (keep:∀ b o,b≠X.env.locals→b ∉ X.fs→b ∉ ch→s.heap.get? b=some o→H b=none→h'.get? b=some o)
  (slot:∀ b o,b≠X.env.locals→b∈X.fs→b ∉ ch→s.heap.get? b=some o→H b=none→∃ sl,h'.get? b=some { o with slots:=sl }) (free:∀ b o,b ∉ ch→s.heap.get? b=some o→H b=none→H' b=none)
  (there:∀ b o,b ∉ ch→s.heap.get? b=some o→∃ o',h'.get? b=some o')
  (tups:∀ b xs,H b=some (.tup xs)→H' b=some (.tup xs)) (frzs:∀ b o u,H b=some (.frz o u)→H' b=some (.frz o u)) (tbls:∀ b ps,H b=some (.tbl ps)→∃ more,H' b=some (.tbl (ps++more)))
  (ns:∀ m,s.heap.Ns X.env.locals m→h'.Ns X.env.locals m) (hok:HOk X.prog X.w H' h') (hg:AllBare g') :
  Inv X pins σ H' { s with heap:=h',gens:=g',drawn:=d',toks:=t' }:=by
 have neL:∀ b o,X.s₀.heap.get? b=some o→b≠X.env.locals:=fun b o e=>Nat.ne_of_lt (Nat.lt_of_lt_of_le (Heap.lt_size e) I.ok.above)
 have neC:∀ b o,X.s₀.heap.get? b=some o→b ∉ X.ex→b ∉ ch:=fun b o e hx hb=>by
  rcases (hch b hb).1 with z | z
  ·exact hx z
  ·exact absurd (Nat.lt_of_lt_of_le (Heap.lt_size e) z) (Nat.lt_irrefl _)
 have cellK:∀ x c,X.env.cells.lookup x=some c→∀ v,s.heap.IsCell c v→h'.IsCell c v:=fun x c e v ⟨o,ho,hd⟩=>by
  have nch:c ∉ ch:=fun z=>(hch c z).2.2.1 x c e rfl
  by_cases hc:c∈X.fs
  ·obtain ⟨sl,q⟩:=slot c o (I.cne x c e) hc nch ho (I.freeC x c e)
   exact ⟨_,q,hd⟩
  ·exact ⟨o,keep c o (I.cne x c e) hc nch ho (I.freeC x c e),hd⟩
 refine ⟨I.ok,I.os,hg,⟨fun b o e n hb hx=>?_,fun b o e n hb hx=>?_,fun b o e n hx=>?_,fun b o e hx=>?_,fun b xs e=>tups b xs (I.base.tups b xs e),fun b o xs e=>frzs b o xs (I.base.frzs b o xs e),fun b ps e=>?_⟩,?_,fun x c e=>?_,?_,fun x c e=>?_,fun p hp=>?_,hok,I.len⟩
 ·exact keep b o (neL b o e) hb (neC b o e hx) (I.base.keep b o e n hb hx) (I.base.free b o e n hx)
 ·obtain ⟨sl,e1⟩:=I.base.slot b o e n hb hx
  obtain ⟨sl',e2⟩:=slot b _ (neL b o e) hb (neC b o e hx) e1 (I.base.free b o e n hx)
  exact ⟨sl',e2⟩
 ·obtain ⟨o',e1⟩:=I.base.there b o e hx
  exact free b o' (neC b o e hx) e1 (I.base.free b o e n hx)
 ·obtain ⟨o',e1⟩:=I.base.there b o e hx
  exact there b o' (neC b o e hx) e1
 ·obtain ⟨m1,e1⟩:=I.base.tbls b ps e
  obtain ⟨m2,e2⟩:=tbls b _ e1
  exact ⟨m1++m2,by rw [e2,Array.append_assoc]⟩
 ·obtain ⟨m,hn,hl⟩:=I.loc
  refine ⟨m,ns m hn,fun i x v e1 e2 e3=>?_⟩
  obtain ⟨u,r,l⟩:=hl i x v e1 e2 e3
  refine ⟨u,r,?_⟩
  rcases l with l | ⟨k,c,e,z⟩
  ·exact .inl l
  ·exact .inr ⟨k,c,e,cellK x c e _ z⟩
 ·obtain ⟨v,z⟩:=I.cell x c e
  exact ⟨v,cellK x c e v z⟩
 ·obtain ⟨m,⟨o,_,_,ho,_⟩,_⟩:=I.loc
  exact free _ o (fun z=>(hch _ z).2.1 rfl) ho I.free
 ·obtain ⟨v,o,ho,hd⟩:=I.cell x c e
  exact free c o (fun z=>(hch c z).2.2.1 x c e rfl) ho (I.freeC x c e)
 ·obtain ⟨e,n,ne,nf,d⟩:=I.pin p hp
  have nch:p.1 ∉ ch:=fun z=>(hch p.1 z).2.2.2 p hp rfl
  exact ⟨keep p.1 p.2 ne nf nch e n,free p.1 p.2 nch e n,ne,nf,d⟩
theorem Inv.un {t':Nat} (I:Inv X pins σ H s) (u:Un X.fs [] H H' s.heap h') (hok:HOk X.prog X.w H' h'):Inv X pins σ H' { s with heap:=h',toks:=t' }:=by
 obtain ⟨m,⟨o,es,ep,ho,r⟩,_⟩:=id I.loc
 obtain ⟨sl,hL⟩:=u.any ho I.free (by simp)
 exact I.step (g':=s.gens) (d':=s.drawn) (ch:=[]) (fun _ z=>nomatch z) (fun b o _ hb _ e n=>u.keep b o e n hb (by simp)) (fun b o _ hb _ e n=>u.slot b o e n hb (by simp)) (fun b o _ e n=>u.free b o e n (by simp)) (fun b o _ e=>u.there b o e (by simp)) u.tups u.frzs u.tbls (fun m' hm=>by
  obtain ⟨o',es',ep',ho',r'⟩:=hm
  rw [ho] at ho'; cases ho'
  exact ⟨_,es',ep',hL,r'⟩) hok I.bare
theorem Inv.call {g':Array GenState} {t':Nat} {d':Drawn} {ch:List Addr} (I:Inv X pins σ H s) (u:Un (frs X.stack) ch H H' s.heap h') (hok:HOk X.prog X.w H' h') (hg:AllBare g')
  (hch:∀ b∈ch,(b∈X.ex∨X.s₀.heap.objs.size≤b)∧b≠X.env.locals∧(∀ x c,X.env.cells.lookup x=some c→c≠b)∧∀ p∈X.pn++pins,p.1≠b) :
  Inv X pins σ H' { s with heap:=h',gens:=g',drawn:=d',toks:=t' }:=by
 obtain ⟨m,⟨o,es,ep,ho,r⟩,_⟩:=id I.loc
 obtain ⟨sl,hL⟩:=u.any ho I.free fun z=>(hch _ z).2.1 rfl
 exact I.step (ch:=ch) hch (fun b o hL hb hc e n=>u.keep b o e n (fun z=>(List.mem_cons.mp (I.stkSub b z)).elim hL hb) hc) (fun b o _ _ hc e n=>u.any e n hc) (fun b o hc e n=>u.free b o e n hc) (fun b o hc e=>u.there b o e hc) u.tups u.frzs u.tbls (fun m' hm=>by
  obtain ⟨o',es',ep',ho',r'⟩:=hm
  rw [ho] at ho'; cases ho'
  exact ⟨_,es',ep',hL,r'⟩) hok hg
theorem Inv.turned {t':Nat} {it:Addr} (I:Inv X pins σ H s) (k:∀ b o,b≠it→s.heap.get? b=some o→h'.get? b=some o) (hn:H it=none) (hL:it≠X.env.locals)
  (h1:it∈X.ex∨X.s₀.heap.objs.size≤it) (h2:∀ x c,X.env.cells.lookup x=some c→c≠it) (h3:∀ p∈X.pn++pins,p.1≠it):Inv X pins σ H { s with heap:=h',toks:=t' }:=by
 have nit:∀ b u,H b=some u→b≠it:=fun b u e z=>by rw [z,hn] at e; cases e
 refine I.step (g':=s.gens) (d':=s.drawn) (ch:=[it]) (fun b hb=>?_) (fun b o _ _ hc e _=>k b o (fun z=>hc (by simp [z])) e) (fun b o _ _ hc e _=>⟨o.slots,k b o (fun z=>hc (by simp [z])) e⟩) (fun _ _ _ _ n=>n)
  (fun b o hc e=>⟨o,k b o (fun z=>hc (by simp [z])) e⟩) (fun _ _ e=>e) (fun _ _ _ e=>e) (fun b ps e=>⟨#[],by rw [e]; simp⟩) (fun m hm=>?_) (fun b u e=>?_) I.bare
 ·have e:b=it:=by simpa using hb
  subst e
  exact ⟨h1,hL,h2,h3⟩
 ·obtain ⟨o,es,ep,ho,r⟩:=hm
  exact ⟨o,es,ep,k _ o (Ne.symm hL) ho,r⟩
 ·refine (I.hok b u e).stay (fun c v hc q=>k c v ?_ q) (fun _ q=>q) fun _ _ q=>q
  rcases hc with z | z
  ·rw [z]; exact nit b u e
  ·exact nit c _ z
theorem Inv.tok (I:Inv X pins σ H s) (t:Nat):Inv X pins σ H { s with toks:=t }:=I.un (h':=s.heap) (t':=t) Un.refl I.hok
theorem Inv.kept {t':Nat} (I:Inv X pins σ H s) (k:∀ b u,s.heap.get? b=some u→h'.get? b=some u):Inv X pins σ H { s with heap:=h',toks:=t' }:=I.un (Un.kept k) (I.hok.kept k)
theorem Inv.laid {a:Addr} {o:HO} {t':Nat} (I:Inv X pins σ H s) (k:∀ b u,s.heap.get? b=some u→h'.get? b=some u) (hp:s.heap.objs.size≤a) (new:abQ X.prog X.w (upd H a o) h' a o) :
  Inv X pins σ (upd H a o) { s with heap:=h',toks:=t' }:=I.un (Un.laid k hp (I.hok.fresh hp)) (I.hok.laid k hp new)
theorem Inv.write {x e:Addr} {o:HO} {t':Nat} (I:Inv X pins σ H s) (mu:Mut (H x)) (he:e=x∨H e=some (.own x)) (k:∀ b u,b≠e→s.heap.get? b=some u→h'.get? b=some u) (heo:∃ u,h'.get? e=some u)
  (new:abQ X.prog X.w (upd H x o) h' x o):Inv X pins σ (upd H x o) { s with heap:=h',toks:=t' }:=I.un (Un.write mu he k heo) (I.hok.write mu he k heo new)
theorem Inv.pins_of {pins':List (Addr × Obj)} (I:Inv X pins σ H s) (h:∀ p∈pins',s.heap.get? p.1=some p.2∧H p.1=none∧p.1≠X.env.locals∧p.1 ∉ X.fs∧∀ v,p.2.data≠.cell v):Inv X pins' σ H s :=
 ⟨I.ok,I.os,I.bare,I.base,I.loc,I.cell,I.free,I.freeC,fun p hp=>(List.mem_append.mp hp).elim (fun z=>I.pin p (List.mem_append_left _ z)) (h p),I.hok,I.len⟩
theorem aee {N:List Str} (hN:N.Nodup) {i j:Nat} {x:Str} (a:N[i]?=some x) (b:N[j]?=some x):i=j:=by
 obtain ⟨h1,e1⟩:=List.getElem?_eq_some_iff.mp a
 obtain ⟨h2,e2⟩:=List.getElem?_eq_some_iff.mp b
 exact (List.getElem_inj hN).mp (e1.trans e2.symm)
theorem ag4 {M:Model} {A:Around} {E:Value→Shared→Prop} {i:Nat} {x:Str} {v:V} {u:Value} {Q:Unit→Shared→Prop} (I:Inv X pins σ H s) (hN:X.N.Nodup) (hi:X.N[i]?=some x) (hx:Loc X.env.scope x) (r:RelV v u)
  (h:∀ s',Inv X pins (σ.set i (some v)) H s'→(∃ a,Heap.SameBut a s.heap s'.heap∧(a=X.env.locals∨X.env.cells.lookup x=some a))→Q () s') (hf:X.fn x=true∨X.env.scope.names.lookup x=some .local:=by first | exact .inl rfl | exact .inr rfl | assumption):wpAny M A (storeName X.env x u) Q E s:=by
 obtain ⟨m,hn,hl⟩:=id I.loc
 have hcls:(X.env.scope.kind == .class || (X.env.scope.kind == .module && X.env.locals != X.env.globals))=false:=by rw [I.ok.kind]; rfl
 have hiσ:i < σ.length:=by rw [I.len]; exact (List.getElem?_eq_some_iff.mp hi).1
 have cne:=I.cne
 have tracked:∀ {a:Addr} {h':Heap},(∃ o,s.heap.get? a=some o∧H a=none)→Heap.SameBut a s.heap h'→HOk X.prog X.w H h':=fun {a h'} ha hs b ob e=>by
  obtain ⟨_,_,hfree⟩:=ha
  refine (I.hok b ob e).stay (fun c w' hc q=>(hs.2 c ?_).trans q) (fun _ q=>q) fun _ _ q=>q
  rintro rfl
  rcases hc with rfl | hc
  ·rw [hfree] at e; cases e
  ·rw [hfree] at hc; cases hc
 rcases hx with hk | hk
 ·refine wpAny_storeName_local hk hn (fun h' hn' hs=>?_) hcls
  obtain ⟨oL,_,_,hoL,_⟩:=id hn
  refine h _ ⟨I.ok,I.os,I.bare,⟨fun b o e n hb hx=>?_,fun b o e n hb hx=>?_,I.base.free,fun b o e hx=>?_,I.base.tups,I.base.frzs,I.base.tbls⟩,⟨_,hn',fun j y v' e1 e2 e3=>?_⟩,fun y c e=>?_,I.free,I.freeC,fun p hp=>?_,tracked ⟨oL,hoL,I.free⟩ hs,by simpa using I.len⟩ ⟨_,hs,.inl rfl⟩
  ·exact (hs.2 b (Nat.ne_of_lt (Nat.lt_of_lt_of_le (Heap.lt_size e) I.ok.above))).trans (I.base.keep b o e n hb hx)
  ·obtain ⟨sl,e1⟩:=I.base.slot b o e n hb hx
   exact ⟨sl,(hs.2 b (Nat.ne_of_lt (Nat.lt_of_lt_of_le (Heap.lt_size e) I.ok.above))).trans e1⟩
  ·obtain ⟨o',e1⟩:=I.base.there b o e hx
   exact ⟨o',(hs.2 b (Nat.ne_of_lt (Nat.lt_of_lt_of_le (Heap.lt_size e) I.ok.above))).trans e1⟩
  ·by_cases hj:j=i
   ·subst hj
    rw [hi] at e1; cases e1
    rw [List.getElem?_set_self hiσ] at e2
    cases e2
    exact ⟨u,r,.inl ⟨hk,by simp⟩⟩
   ·rw [List.getElem?_set_ne (Ne.symm hj)] at e2
    obtain ⟨u',r',q⟩:=hl j y v' e1 e2 e3
    refine ⟨u',r',?_⟩
    rcases q with ⟨k,e⟩ | ⟨k,c,e,z⟩
    ·refine .inl ⟨k,?_⟩
     have:y≠x:=fun e=>hj (aee hN e1 (e ▸ hi))
     simp [this,e]
    ·exact .inr ⟨k,c,e,z.sameBut hs (cne y c e)⟩
  ·obtain ⟨w',z⟩:=I.cell y c e
   exact ⟨w',z.sameBut hs (cne y c e)⟩
  ·obtain ⟨e,n,ne,nf,d⟩:=I.pin p hp
   exact ⟨(hs.2 p.1 ne).trans e,n,ne,nf,d⟩
 ·have hfn:X.fn x=true:=by
   rcases hf with z | z
   ·exact z
   ·rw [z] at hk; cases hk
  obtain ⟨c,hc⟩:=I.ok.has x (.inl hk)
  obtain ⟨w',z⟩:=I.cell x c hc
  refine wpAny_storeName_cell I.ok.kind hk hc z (fun h' hc' hs=>?_)
  obtain ⟨oc,hoc,hocd⟩:=id z
  refine h { s with heap:=h' } ⟨I.ok,I.os,I.bare,⟨fun b o e n hb hx=>?_,fun b o e n hb hx=>?_,I.base.free,fun b o e hx=>?_,I.base.tups,I.base.frzs,I.base.tbls⟩,⟨m,hn.sameBut hs (Ne.symm (cne x c hc)),fun j y v' e1 e2 e3=>?_⟩,fun y c' e=>?_,I.free,I.freeC,fun p hp=>?_,tracked ⟨oc,hoc,I.freeC x c hc⟩ hs,by simpa using I.len⟩ ⟨c,hs,.inr hc⟩
  ·exact (hs.2 b (Nat.ne_of_lt (Nat.lt_of_lt_of_le (Heap.lt_size e) (I.ok.cab x c hfn hc)))).trans (I.base.keep b o e n hb hx)
  ·obtain ⟨sl,e1⟩:=I.base.slot b o e n hb hx
   exact ⟨sl,(hs.2 b (Nat.ne_of_lt (Nat.lt_of_lt_of_le (Heap.lt_size e) (I.ok.cab x c hfn hc)))).trans e1⟩
  ·obtain ⟨o',e1⟩:=I.base.there b o e hx
   exact ⟨o',(hs.2 b (Nat.ne_of_lt (Nat.lt_of_lt_of_le (Heap.lt_size e) (I.ok.cab x c hfn hc)))).trans e1⟩
  ·by_cases hj:j=i
   ·subst hj
    rw [hi] at e1; cases e1
    rw [List.getElem?_set_self hiσ] at e2
    cases e2
    exact ⟨u,r,.inr ⟨.inl hk,c,hc,hc'⟩⟩
   ·rw [List.getElem?_set_ne (Ne.symm hj)] at e2
    obtain ⟨u',r',q⟩:=hl j y v' e1 e2 e3
    refine ⟨u',r',?_⟩
    rcases q with q | ⟨k,c',e,z'⟩
    ·exact .inl q
    ·refine .inr ⟨k,c',e,z'.sameBut hs ?_⟩
     rintro rfl
     exact hj (aee hN e1 (I.ok.inj _ _ _ e hc ▸ hi))
  ·by_cases hcc:c'=c
   ·subst hcc; exact ⟨_,hc'⟩
   ·obtain ⟨w2,z2⟩:=I.cell y c' e
    exact ⟨w2,z2.sameBut hs hcc⟩
  ·obtain ⟨e,n,ne,nf,d⟩:=I.pin p hp
   refine ⟨(hs.2 p.1 ?_).trans e,n,ne,nf,d⟩
   intro q
   rw [q,hoc] at e
   have q':oc=p.2:=Option.some.inj e
   exact d w' (by rw [← q']; exact hocd)
theorem act {M:Model} {A:Around} {E:Value→Shared→Prop} {i:Nat} {x:Str} {v:V} {u:Value} {Q:Unit→Shared→Prop} (I:Inv X pins σ H s) (hN:X.N.Nodup) (hi:X.N[i]?=some x) (hx:Loc X.env.scope x) (r:RelV v u)
  (h:∀ s',Inv X pins (σ.set i (some v)) H s'→Q () s') (hf:X.fn x=true∨X.env.scope.names.lookup x=some .local:=by first | exact .inl rfl | exact .inr rfl | assumption):wpAny M A (storeName X.env x u) Q E s :=
 ag4 I hN hi hx r (fun s' I' _=>h s' I') hf
theorem Inv.call' {s':Shared} {ch:List Addr} (I:Inv X pins σ H s) (ho:s'.os=s.os) (u:Un (frs X.stack) ch H H' s.heap s'.heap) (hok:HOk X.prog X.w H' s'.heap) (hg:AllBare s'.gens)
  (hch:∀ b∈ch,(b∈X.ex∨X.s₀.heap.objs.size≤b)∧b≠X.env.locals∧(∀ x c,X.env.cells.lookup x=some c→c≠b)∧∀ p∈X.pn++pins,p.1≠b):Inv X pins σ H' s':=by
 obtain ⟨h',g',d',t',o'⟩:=s'
 have e:o'=s.os:=ho
 subst e
 exact I.call (g':=g') (t':=t') (d':=d') u hok hg hch
end
abbrev XK:=Value→Option Addr→Hp→Prop
abbrev St:=List (Option V)
abbrev VK:=V→Hp→Prop
abbrev TE:=St→Hp→VK→Prop
abbrev TT:=St→Hp→(Bool→Hp→Prop)→Prop
abbrev TA:=St→Hp→(List V→Hp→Prop)→Prop
structure Ends where
 nx:St→Hp→Prop
 rt:VK
 bk:St→Hp→Prop:=fun _ _=>False
 ct:St→Hp→Prop:=fun _ _=>False
abbrev TS:=Ends→St→Hp→Prop
def EP (X:Cx) (pins:List (Addr × Obj)) (σ:St) (Q:VK) (u:Value) (s':Shared):Prop:=∃ v H',Inv X pins σ H' s'∧RelV v u∧Q v H'
def TP (X:Cx) (pins:List (Addr × Obj)) (σ:St) (Q:Bool→Hp→Prop) (b:Bool) (s':Shared):Prop:=∃ H',Inv X pins σ H' s'∧Q b H'
def AP (X:Cx) (pins:List (Addr × Obj)) (σ:St) (Q:List V→Hp→Prop) (us:List Value) (s':Shared):Prop:=∃ vs H',Inv X pins σ H' s'∧Vals vs us∧Q vs H'
def SP (X:Cx) (pins:List (Addr × Obj)) (D:Ends) (f:Flow) (s':Shared):Prop :=
 match f with
 | .next=>∃ σ' H',Inv X pins σ' H' s'∧D.nx σ' H'
 | .brk=>∃ σ' H',Inv X pins σ' H' s'∧D.bk σ' H'
 | .cont=>∃ σ' H',Inv X pins σ' H' s'∧D.ct σ' H'
 | .ret u=>∃ v σ' H',Inv X pins σ' H' s'∧RelV v u∧D.rt v H'
def PE (X:Cx) (e:Expr) (t:TE):Prop :=
 ∀ (pins:List (Addr × Obj)) (s:Shared) (σ:St) (H:Hp) (Q:VK),Inv X pins σ H s→t σ H Q→wpAny (model X.prog X.w) X.A (eval e X.env) (EP X pins σ Q) X.xe s
def PT (X:Cx) (e:Expr) (t:TT):Prop :=
 ∀ (pins:List (Addr × Obj)) (s:Shared) (σ:St) (H:Hp) (Q:Bool→Hp→Prop),Inv X pins σ H s→t σ H Q→wpAny (model X.prog X.w) X.A (isTrue e X.env (eval e X.env)) (TP X pins σ Q) X.xe s
def PW (X:Cx) (e:Expr) (t:TT):Prop :=
 ∀ (whole:Sem Value) (pins:List (Addr × Obj)) (s:Shared) (σ:St) (H:Hp) (Q:Bool→Hp→Prop),Inv X pins σ H s→t σ H Q→wpAny (model X.prog X.w) X.A (isTrue e X.env whole) (TP X pins σ Q) X.xe s
theorem PW.pt {X:Cx} {e:Expr} {t:TT} (h:PW X e t):PT X e t:=h _
def PA (X:Cx) (es:List Expr) (t:TA):Prop :=
 ∀ (pos:Pos) (pins:List (Addr × Obj)) (s:Shared) (σ:St) (H:Hp) (Q:List V→Hp→Prop),Inv X pins σ H s→t σ H Q→wpAny (model X.prog X.w) X.A (spliced (backTo pos (starEach es X.env))) (AP X pins σ Q) X.xe s
def PS (X:Cx) (st:Stmt) (t:TS):Prop :=
 ∀ (pins:List (Addr × Obj)) (s:Shared) (σ:St) (H:Hp) (D:Ends),Inv X pins σ H s→t D σ H→wpAny (model X.prog X.w) X.A (exec st X.env) (SP X pins D) X.xe s
def PSs (X:Cx) (st:List Stmt) (t:TS):Prop :=
 ∀ (pins:List (Addr × Obj)) (s:Shared) (σ:St) (H:Hp) (D:Ends),Inv X pins σ H s→t D σ H→wpAny (model X.prog X.w) X.A (execs st X.env) (SP X pins D) X.xe s
theorem thn {α:Type} {t:Sem α} {Q Q':α→Shared→Prop} {M:Model} {A:Around} {E:Value→Shared→Prop} {s:Shared} (h:wpAny M A t Q E s) (hQ:∀ a s,Q a s→Q' a s):wpAny M A t Q' E s:=wpAny_mono h hQ fun _ _ x=>x
end L2
namespace L2
open PySem PySem.Spec PyProof.Rows
section
variable {X:Cx}
theorem bin {a b:Expr} {ta tb:TE} (ha:PE X a ta) (hb:PE X b tb) {pins:List (Addr × Obj)} {s:Shared} {σ:St} {H:Hp} {R:V→V→Hp→Prop} (I:Inv X pins σ H s) (h:ta σ H fun x H1=>tb σ H1 fun y H2=>R x y H2)
  {α:Type} {Q:α→Shared→Prop} {f:Value→Value→Sem α}
  (hf:∀ v u s2 x y H2,Inv X pins σ H2 s2→RelV x v→RelV y u→R x y H2→wpAny (model X.prog X.w) X.A (f v u) Q X.xe s2) :
  wpAny (model X.prog X.w) X.A (eval a X.env) (fun v s₁=>wpAny (model X.prog X.w) X.A (eval b X.env) (fun u s₂=>wpAny (model X.prog X.w) X.A (f v u) Q X.xe s₂) X.xe s₁) X.xe s:=by
 refine thn (ha pins s σ H _ I h) fun v s1 ⟨x,H1,I1,r1,q1⟩=>?_
 refine thn (hb pins s1 σ H1 _ I1 q1) fun u s2 ⟨y,H2,I2,r2,q2⟩=>?_
 exact hf v u s2 x y H2 I2 r1 r2 q2
def tVar (i:Nat):TE:=fun σ H Q=>∃ v,σ[i]?=some (some v)∧Q v H
def tC (v:V):TE:=fun _ H Q=>Q v H
theorem aiC {i:Nat} {x:Str} {pos:Pos} (hN:X.N[i]?=some x) (hv:Vis X.env.scope x) (hd:(x == ("__debug__":Str))=false:=by decide) (hcd:(x == ("__classdict__":Str))=false:=by decide):PE X (.Name x pos) (tVar i):=by
 intro pins s σ H Q I h
 obtain ⟨v,e,h⟩:=h
 obtain ⟨m,hn,hl⟩:=I.loc
 obtain ⟨u,r,l⟩:=hl i x v hN e hv
 have fin:EP X pins σ Q u s:=⟨v,H,I,r,h⟩
 rcases l with ⟨hk,hm⟩ | ⟨hk,c,hc,hcell⟩
 ·exact wpAny_Name (wpAny_loadName_local I.ok.kind hk hn hm fin) hd
 ·rcases hk with hk | hk
  ·exact wpAny_Name (wpAny_loadName_cell I.ok.kind hk hc hcell fin) hd
  ·exact wpAny_Name (wpAny_loadName_free I.ok.kind hk hc hcell fin hcd) hd
theorem akG {i j pos}:PE X (.Constant (.int i) j pos) (tC (.int i)):=fun _ _ _ H _ I h=>wpAny_Constant_int ⟨.int i,H,I.tok _,⟨_,rfl⟩,h⟩
theorem alz {b j pos}:PE X (.Constant (.bool b) j pos) (tC (.bl b)):=fun _ _ _ H _ I h=>Constant_bool ⟨.bl b,H,I,rfl,h⟩
theorem akg {j pos}:PE X (.Constant .none j pos) (tC .non):=fun _ _ _ H _ I h=>Constant_none ⟨.non,H,I,rfl,h⟩
theorem ahF {x j pos}:PE X (.Constant (.str x) j pos) (tC (.str x)):=fun _ _ _ H _ I h=>Calls.Constant_str ⟨.str x,H,I.tok _,⟨_,rfl⟩,h⟩
def Gl (X:Cx) (x:Str):Prop:=X.env.kindOf x=some .globalImplicit
theorem adB {E:Value→Shared→Prop} {pins:List (Addr × Obj)} {s:Shared} {σ:St} {H:Hp} {x:Str} {u:Value} {pos:Pos} {Q:Value→Shared→Prop} (I:Inv X pins σ H s) (hg:Gl X x) (hm:X.mg x=some u) (h:Q u s)
  (hd:(x == ("__debug__":Str))=false:=by decide):wpAny (model X.prog X.w) X.A (eval (.Name x pos) X.env) Q E s :=
 Calls.Name_function_global I.ok.kind hg (Calls.loadGlobal_global (by rw [I.ok.glob]; exact I.mod.glob.keeps I.bk) hm h) hd
theorem aeF {E:Value→Shared→Prop} {pins:List (Addr × Obj)} {s:Shared} {σ:St} {H:Hp} {x:Str} {u:Value} {pos:Pos} {Q:Value→Shared→Prop} (I:Inv X pins σ H s) (hg:Gl X x) (hm:X.mg x=none) (hv:bootBuiltins x=some u) (h:Q u s)
  (hn:x≠"__name__":=by decide) (hd:(x == ("__debug__":Str))=false:=by decide):wpAny (model X.prog X.w) X.A (eval (.Name x pos) X.env) Q E s:=by
 obtain ⟨mb,h1,h2⟩:=I.mod.blt
 exact Calls.Name_function_global I.ok.kind hg (Calls.loadGlobal_builtin (by rw [I.ok.glob]; exact I.mod.glob.keeps I.bk) hm (by rw [I.ok.blt]; exact h1.keeps I.bk) ((h2 x hn).trans hv) h) hd
theorem afs {x:Str} {v:V} {u:Value} {pos:Pos} (hg:Gl X x) (hm:X.mg x=some u) (r:RelV v u) (hd:(x == ("__debug__":Str))=false:=by decide):PE X (.Name x pos) (tC v) :=
 fun _ _ _ H _ I h=>adB I hg hm ⟨v,H,I,r,h⟩ hd
theorem agY {x:Str} {v:V} {u:Value} {pos:Pos} (hg:Gl X x) (hm:X.mg x=none) (hv:bootBuiltins x=some u) (r:RelV v u) (hn:x≠"__name__":=by decide) (hd:(x == ("__debug__":Str))=false:=by decide):PE X (.Name x pos) (tC v) :=
 fun _ _ _ H _ I h=>aeF I hg hm hv ⟨v,H,I,r,h⟩ hn hd
variable {a b:Expr} {ta tb:TE} {pos:Pos}
def PC (X:Cx) (op:CmpOp) (a b:Expr) (t:TE):Prop :=
 ∀ (pins:List (Addr × Obj)) (s:Shared) (σ:St) (H:Hp) (Q:VK),Inv X pins σ H s→t σ H Q →
  wpAny (model X.prog X.w) X.A (eval a X.env) (fun v s₁=>wpAny (model X.prog X.w) X.A (eval b X.env) (fun u s₂=>wpAny (model X.prog X.w) X.A (compareOp op v u) (EP X pins σ Q) X.xe s₂) X.xe s₁) X.xe s
theorem ah5 (b:Expr) {op:CmpOp} (h:op≠.In) (h2:op≠.NotIn):behindInMarks op b=false:=by
 have e1:(op == CmpOp.In)=false:=by cases op <;> first | rfl | exact absurd rfl h
 have e2:(op == CmpOp.NotIn)=false:=by cases op <;> first | rfl | exact absurd rfl h2
 cases b <;> simp [behindInMarks,e1,e2]
def tIsN (ta:TE):TE:=fun σ H Q=>ta σ H fun x H1=>Q (.bl (decide (x=.non))) H1
theorem RelV.none_iff {x:V} {v:Value} (r:RelV x v):(v == Value.none)=decide (x=.non):=by
 cases x with
 | non=>cases r; rfl
 | bl _=>cases r; rfl
 | int _=>obtain ⟨t,rfl⟩:=r; rfl
 | str _=>obtain ⟨t,rfl⟩:=r; rfl
 | byt _=>obtain ⟨t,rfl⟩:=r; rfl
 | flt _=>obtain ⟨t,rfl⟩:=r; rfl
 | ref _=>cases r; rfl
 | ty _=>cases r; rfl
theorem ak6 {j pos'} (ha:PE X a ta):PC X .Is a (.Constant .none j pos') (tIsN ta):=by
 intro pins s σ H Q I h
 refine thn (ha pins s σ H _ I h) fun v s1 ⟨x,H1,I1,r1,q1⟩=>?_
 exact Constant_none (is_none_gen ⟨.bl _,H1,I1,by rw [r1.none_iff]; rfl,q1⟩)
def tB (t:TE):TT:=fun σ H Q=>t σ H fun x H1=>∃ c,x=.bl c∧Q c H1
theorem alf {op:CmpOp} {t:TE} (h:PC X op a b t) (h1:behindInMarks op b=false:=by first | exact ah5 _ (by decide) (by decide) | rfl):PT X (.Compare a [op] [b] pos) (tB t):=by
 intro pins s σ H Q I hw
 refine wpAny_isTrue_Compare1 (thn (h pins s σ H _ I hw) fun v s1 h1=>thn h1 fun u s2 h2=>thn h2 fun c s3 ⟨x,H1,I1,r1,q1⟩=>?_) h1
 obtain ⟨d,rfl,q⟩:=q1
 cases r1
 exact wpAny_truthy_bool ⟨H1,I1,q⟩
theorem akn {e:Expr} {t:TE} (h:PE X e t) (he:∀ whole,isTrue e X.env whole=(do let v ← whole; standAt e.pos; holding [v] (truthy v)):=by intro _; rfl):PT X e (tB t):=by
 intro pins s σ H Q I hw
 refine isTrue_plain (thn (h pins s σ H _ I hw) fun v s1 ⟨x,H1,I1,r1,q1⟩=>?_) (he _)
 obtain ⟨d,rfl,q⟩:=q1
 cases r1
 exact wpAny_truthy_bool ⟨H1,I1,q⟩
variable {tA tB':TT} {rest:List Expr}
def tAnd (t u:TT):TT:=fun σ H Q=>t σ H fun c H1=>if c=true then u σ H1 Q else Q false H1
def tOr (t u:TT):TT:=fun σ H Q=>t σ H fun c H1=>if c=true then Q true H1 else u σ H1 Q
def tNot (t:TT):TT:=fun σ H Q=>t σ H fun c H1=>Q (!c) H1
theorem ajW (ha:PT X a tA):PW X (.BoolOp .And [a] pos) tA:=by
 intro wh pins s σ H Q I h
 refine isTrue_and (thn (ha pins s σ H Q I h) fun c s1 e=>?_)
 cases c with
 | true=>exact isTrue_and_nil e
 | false=>exact e
theorem ak8 (ha:PT X a tA):PW X (.BoolOp .Or [a] pos) tA:=by
 intro wh pins s σ H Q I h
 refine isTrue_or (thn (ha pins s σ H Q I h) fun c s1 e=>?_)
 cases c with
 | false=>exact isTrue_or_nil e
 | true=>exact e
theorem akC (ha:PT X a tA) (hb:PW X (.BoolOp .And (b :: rest) pos) tB'):PW X (.BoolOp .And (a :: b :: rest) pos) (tAnd tA tB'):=by
 intro wh pins s σ H Q I h
 refine isTrue_and (thn (ha pins s σ H _ I h) fun c s1 ⟨H1,I1,q1⟩=>?_)
 cases c with
 | true=>exact hb wh pins s1 σ H1 Q I1 q1
 | false=>exact ⟨H1,I1,q1⟩
theorem alw (ha:PT X a tA) (hb:PW X (.BoolOp .Or (b :: rest) pos) tB'):PW X (.BoolOp .Or (a :: b :: rest) pos) (tOr tA tB'):=by
 intro wh pins s σ H Q I h
 refine isTrue_or (thn (ha pins s σ H _ I h) fun c s1 ⟨H1,I1,q1⟩=>?_)
 cases c with
 | true=>exact ⟨H1,I1,q1⟩
 | false=>exact hb wh pins s1 σ H1 Q I1 q1
theorem ak3 (ha:PT X a tA):PT X (.UnaryOp .Not a pos) (tNot tA):=by
 intro pins s σ H Q I h
 exact isTrue_not (ha pins s σ H (fun c H1=>Q (!c) H1) I h)
def alk (ta tb:TE):TE:=fun σ H Q=>ta σ H fun x H1=>∃ c,x=.bl c∧if c=true then tb σ H1 Q else Q (.bl false) H1
def alp (ta:TE):TE:=fun σ H Q=>ta σ H fun x H1=>∃ c,x=.bl c∧Q (.bl (!c)) H1
theorem akK {op} {t:TE} (h:PE X a t):PE X (.BoolOp op [a] pos) t:=fun pins s σ H Q I hw=>BoolOp_one (h pins s σ H Q I hw)
theorem akS (ha:PE X a ta) (hb:PE X (.BoolOp .And (b :: rest) pos) tb):PE X (.BoolOp .And (a :: b :: rest) pos) (alk ta tb):=by
 intro pins s σ H Q I h
 refine BoolOp_and (thn (ha pins s σ H _ I h) fun v s1 ⟨x,H1,I1,r1,q1⟩=>?_)
 obtain ⟨c,rfl,q1⟩:=q1
 cases r1
 refine wpAny_truthy_bool ?_
 cases c with
 | true=>exact hb pins s1 σ H1 Q I1 q1
 | false=>exact ⟨.bl false,H1,I1,rfl,q1⟩
theorem akQ (ha:PE X a ta):PE X (.UnaryOp .Not a pos) (alp ta):=by
 intro pins s σ H Q I h
 refine UnaryOp_ (thn (ha pins s σ H _ I h) fun v s1 ⟨x,H1,I1,r1,q1⟩=>?_)
 obtain ⟨c,rfl,q1⟩:=q1
 cases r1
 exact not_of (wpAny_truthy_bool ⟨.bl (!c),H1,I1,rfl,q1⟩)
def tIf (t:TT) (ta tb:TE):TE:=fun σ H Q=>t σ H fun c H1=>if c=true then ta σ H1 Q else tb σ H1 Q
theorem ais {c:Expr} (hc:PT X c tA) (ha:PE X a ta) (hb:PE X b tb):PE X (.IfExp c a b pos) (tIf tA ta tb):=by
 intro pins s σ H Q I h
 refine wpAny_IfExp (thn (hc pins s σ H _ I h) fun d s1 ⟨H1,I1,q1⟩=>?_)
 cases d with
 | true=>exact ha pins s1 σ H1 Q I1 q1
 | false=>exact hb pins s1 σ H1 Q I1 q1
end
end L2
namespace L2
open PySem PySem.Spec PyProof.Rows
def SqL (K:PySem.W.Frag) (H:Hp) (a:Addr) (xs:List V):Prop :=
 Rd H a (.lst xs) ∨
  ∃ (o:Obj) (its:Array Value) (n:Nat),K.lookup a=some o∧o.cls=.type "list"∧o.dict=none∧o.data=.seq its n∧its.size≤sizeLine∧Vals xs its.toList
def SqT (K:PySem.W.Frag) (H:Hp) (a:Addr) (xs:List V):Prop :=
 Rd H a (.tup xs) ∨
  ∃ (o:Obj) (its:Array Value) (n:Nat),K.lookup a=some o∧o.cls=.type "tuple"∧o.data=.seq its n∧its.size≤sizeLine∧Vals xs its.toList
def absV:Value→Option V
 | .none=>some .non
 | .bool b=>some (.bl b)
 | .int i _=>some (.int i)
 | .str x _=>some (.str x)
 | .bytes b _=>some (.byt b)
 | .float b _=>some (.flt b)
 | .ref a=>some (.ref a)
 | .type n=>some (.ty n)
 | _=>none
theorem RelV.abs {x:V} {u:Value} (r:RelV x u):absV u=some x:=by
 cases x with
 | non=>cases r; rfl
 | bl _=>cases r; rfl
 | int _=>obtain ⟨t,rfl⟩:=r; rfl
 | str _=>obtain ⟨t,rfl⟩:=r; rfl
 | byt _=>obtain ⟨t,rfl⟩:=r; rfl
 | flt _=>obtain ⟨t,rfl⟩:=r; rfl
 | ref _=>cases r; rfl
 | ty _=>cases r; rfl
theorem RelV.inj {x y:V} {u:Value} (r:RelV x u) (q:RelV y u):x=y:=Option.some.inj (r.abs.symm.trans q.abs)
theorem Vals.inj:∀ {xs ys:List V} {us:List Value},Vals xs us→Vals ys us→xs=ys
 | _,_,_,.nil,.nil=>rfl
 | _,_,_,.cons r t,.cons r' t'=>by rw [r.inj r',Vals.inj t t']
section
variable {X:Cx} {pins:List (Addr × Obj)} {σ:St} {H:Hp} {s:Shared} {a:Addr} {xs ys:List V}
theorem SqL.of {K:PySem.W.Frag} (h:H a=some (.lst xs)):SqL K H a xs:=.inl (.inl h)
theorem SqT.of {K:PySem.W.Frag} (h:H a=some (.tup xs)):SqT K H a xs:=.inl (.inl h)
theorem Inv.list (I:Inv X pins σ H s) (h:SqL X.K H a xs):∃ its:List Value,Vals xs its∧PlainL s.heap a its.toArray∧xs.length≤sizeLine:=by
 rcases h with h | ⟨o,its,n,hk,hc,hd,hs,hz,r⟩
 ·obtain ⟨z,its,n,r,e⟩:=h.ok I.hok
  exact ⟨its,r,⟨_,n,e,rfl,rfl,rfl⟩,z⟩
 ·refine ⟨its.toList,r,⟨o,n,I.kIn a o hk,hc,hd,by simpa using hs⟩,?_⟩
  have e:=r.length
  simp only [Array.length_toList] at e
  omega
theorem Inv.tuple (I:Inv X pins σ H s) (h:SqT X.K H a xs):∃ its:List Value,Vals xs its∧IsTup s.heap a its.toArray∧xs.length≤sizeLine:=by
 rcases h with h | ⟨o,its,n,hk,hc,hs,hz,r⟩
 ·obtain ⟨z,its,r,p⟩:=h.ok I.hok
  exact ⟨its,r,p,z⟩
 ·refine ⟨its.toList,r,⟨o,I.kIn a o hk,hc,n,by simpa using hs⟩,?_⟩
  have e:=r.length
  simp only [Array.length_toList] at e
  omega
theorem Inv.list_inj (I:Inv X pins σ H s) (h:SqL X.K H a xs) (h':SqL X.K H a ys):xs=ys:=by
 obtain ⟨its,r,⟨o,n,e,_,_,d⟩,_⟩:=I.list h
 obtain ⟨its',r',⟨o',n',e',_,_,d'⟩,_⟩:=I.list h'
 rw [e] at e'; cases e'
 rw [d] at d'
 injection d' with d1 _
 have:its=its':=by simpa using congrArg Array.toList d1
 subst this
 exact r.inj r'
theorem Inv.tuple_inj (I:Inv X pins σ H s) (h:SqT X.K H a xs) (h':SqT X.K H a ys):xs=ys:=by
 obtain ⟨its,r,⟨o,e,_,n,d⟩,_⟩:=I.tuple h
 obtain ⟨its',r',⟨o',e',_,n',d'⟩,_⟩:=I.tuple h'
 rw [e] at e'; cases e'
 rw [d] at d'
 injection d' with d1 _
 have:its=its':=by simpa using congrArg Array.toList d1
 subst this
 exact r.inj r'
end
abbrev Cx.wish (X:Cx) (E:Value→Shared→Prop):Cx:={ X with xe:=E }
abbrev Cx.nox (X:Cx):Cx:=X.wish fun _ _=>False
theorem Cx.Ok.wish {X:Cx} (ok:X.Ok) (E:Value→Shared→Prop):(X.wish E).Ok :=
 ⟨ok.mod,ok.kind,ok.glob,ok.blt,ok.above,ok.inj,ok.has,ok.cab,ok.hd,ok.frames,ok.stk,ok.exf,ok.bs,ok.bsz,ok.noex,ok.exfs,ok.funs,ok.frf⟩
theorem Cx.Ok.unwish {X:Cx} {E:Value→Shared→Prop} (ok:(X.wish E).Ok):X.Ok :=
 ⟨ok.mod,ok.kind,ok.glob,ok.blt,ok.above,ok.inj,ok.has,ok.cab,ok.hd,ok.frames,ok.stk,ok.exf,ok.bs,ok.bsz,ok.noex,ok.exfs,ok.funs,ok.frf⟩
section
variable {X:Cx} {pins:List (Addr × Obj)} {σ:St} {H:Hp} {s:Shared} {E:Value→Shared→Prop}
theorem Inv.wish (I:Inv X pins σ H s) (E:Value→Shared→Prop):Inv (X.wish E) pins σ H s:=⟨I.ok.wish E,I.os,I.bare,I.base,I.loc,I.cell,I.free,I.freeC,I.pin,I.hok,I.len⟩
theorem Inv.unwish (I:Inv (X.wish E) pins σ H s):Inv X pins σ H s:=⟨I.ok.unwish,I.os,I.bare,I.base,I.loc,I.cell,I.free,I.freeC,I.pin,I.hok,I.len⟩
theorem SP.unwish {D:Ends} {f:Flow} {s':Shared} (h:SP (X.wish E) pins D f s'):SP X pins D f s':=by
 cases f with
 | next=>obtain ⟨σ',H',I,q⟩:=h; exact ⟨σ',H',I.unwish,q⟩
 | brk=>obtain ⟨σ',H',I,q⟩:=h; exact ⟨σ',H',I.unwish,q⟩
 | cont=>obtain ⟨σ',H',I,q⟩:=h; exact ⟨σ',H',I.unwish,q⟩
 | ret u=>obtain ⟨v,σ',H',I,r,q⟩:=h; exact ⟨v,σ',H',I.unwish,r,q⟩
theorem PSs.nox {st:List Stmt} {t:TS} (h:PSs X.nox st t):PSs X st t:=fun pins s σ H D I hw =>
 wpAny_mono (h pins s σ H D (I.wish _) hw) (fun _ _ q=>q.unwish) fun _ _ z=>False.elim z
end
section
variable {X:Cx} {st:Stmt} {rest:List Stmt} {t u:TS} {e:Expr} {te:TE} {pos:Pos}
def aln:TS:=fun D σ H=>D.nx σ H
def tSeq (t u:TS):TS:=fun D σ H=>t { D with nx:=u D } σ H
theorem ai3:PSs X [] aln:=fun _ _ σ H _ I h=>wpAny_execs_nil ⟨σ,H,I,h⟩
theorem ahT (h1:PS X st t) (h2:PSs X rest u):PSs X (st :: rest) (tSeq t u):=by
 intro pins s σ H D I h
 refine wpAny_execs_cons (thn (h1 pins s σ H { D with nx:=u D } I h) fun f s1 q=>?_)
 cases f with
 | next =>
  obtain ⟨σ',H',I',q⟩:=q
  exact h2 pins s1 σ' H' D I' q
 | ret v=>exact q
 | brk=>exact q
 | cont=>exact q
theorem ag2 (h1:PS X st t):PSs X [st] t:=by
 intro pins s σ H D I h
 refine wpAny_execs_cons (thn (h1 pins s σ H D I h) fun f s1 q=>?_)
 cases f with
 | next=>exact wpAny_execs_nil q
 | ret v=>exact q
 | brk=>exact q
 | cont=>exact q
theorem Inv.quiet {pins:List (Addr × Obj)} {σ:St} {H:Hp} {s:Shared} (I:Inv X pins σ H s):interactive X.env=false:=by simp [interactive,I.ok.kind]
def alv (te:TE):TS:=fun D σ H=>te σ H fun _ H1=>D.nx σ H1
theorem ajY (he:PE X e te) (hs:swapsWith e none pos.line X.env=pure false:=by rfl):PS X (.Expr e pos) (alv te):=by
 intro pins s σ H D I h
 exact wpAny_Expr_any (thn (he pins s σ H _ I h) fun v s1 ⟨x,H1,I1,r1,q1⟩=>⟨σ,H1,I1,q1⟩) I.quiet hs
def tRet (te:TE):TS:=fun D σ H=>te σ H D.rt
theorem akT (he:PE X e te):PS X (.Return (some e) pos) (tRet te):=by
 intro pins s σ H D I h
 exact wpAny_Return_some (thn (he pins s σ H _ I h) fun v s1 ⟨x,H1,I1,r1,q1⟩=>⟨x,σ,H1,I1,r1,q1⟩)
def tIfS (c:TT) (t u:TS):TS:=fun D σ H=>c σ H fun b H1=>if b=true then t D σ H1 else u D σ H1
theorem alI {c:Expr} {a b:List Stmt} {tc:TT} (hc:PT X c tc) (ha:PSs X a t) (hb:PSs X b u):PS X (.If c a b pos) (tIfS tc t u):=by
 intro pins s σ H D I h
 refine wpAny_If (thn (hc pins s σ H _ I h) fun d s1 ⟨H1,I1,q1⟩=>?_)
 cases d with
 | true=>exact ha pins s1 σ H1 D I1 q1
 | false=>exact hb pins s1 σ H1 D I1 q1
end
abbrev TG:=V→St→Hp→(St→Hp→Prop)→Prop
abbrev TGs:=List V→St→Hp→(St→Hp→Prop)→Prop
def PG (X:Cx) (target:Expr) (t:TG):Prop :=
 ∀ (pins:List (Addr × Obj)) (s:Shared) (σ:St) (H:Hp) (v:V) (u:Value) (Q:St→Hp→Prop),Inv X pins σ H s→RelV v u→t v σ H Q →
  wpAny (model X.prog X.w) X.A (assign target X.env u) (fun _ s'=>∃ σ' H',Inv X pins σ' H' s'∧Q σ' H') X.xe s
def PGs (X:Cx) (ts:List Expr) (t:TGs):Prop :=
 ∀ (pins:List (Addr × Obj)) (s:Shared) (σ:St) (H:Hp) (vs:List V) (us:List Value) (Q:St→Hp→Prop),Inv X pins σ H s→Vals vs us→t vs σ H Q →
  wpAny (model X.prog X.w) X.A (assignInOrder ((assignEach ts X.env).map (·.2)) us) (fun _ s'=>∃ σ' H',Inv X pins σ' H' s'∧Q σ' H') X.xe s
abbrev TSet:=V→V→V→Hp→(Hp→Prop)→Prop
def PSet (X:Cx) (t:TSet):Prop :=
 ∀ (pins:List (Addr × Obj)) (s:Shared) (σ:St) (H:Hp) (o i v:V) (ov iv u:Value) (Q:Hp→Prop),Inv X pins σ H s→RelV o ov→RelV i iv→RelV v u→t o i v H Q →
  wpAny (model X.prog X.w) X.A (setItem ov iv u) (fun _ s'=>∃ H',Inv X pins σ H' s'∧Q H') X.xe s
abbrev TIp:=V→V→Hp→VK→Prop
def PIp (X:Cx) (op:Operator) (t:TIp):Prop :=
 ∀ (pins:List (Addr × Obj)) (s:Shared) (σ:St) (H:Hp) (x y:V) (v u:Value) (Q:VK),Inv X pins σ H s→RelV x v→RelV y u→t x y H Q →
  wpAny (model X.prog X.w) X.A (inplaceOp op v u) (EP X pins σ Q) X.xe s
section
variable {X:Cx} {pos:Pos}
def akP (i:Nat):TG:=fun v σ H Q=>Q (σ.set i (some v)) H
theorem ajz {i:Nat} {x:Str} (hN:X.N.Nodup) (hi:X.N[i]?=some x) (hx:Loc X.env.scope x) (hf:X.fn x=true∨X.env.scope.names.lookup x=some .local:=by first | exact .inl rfl | exact .inr rfl | assumption):PG X (.Name x pos) (akP i):=by
 intro pins s σ H v u Q I r h
 exact wpAny_assign_Name (act I hN hi hx r (fun s' I'=>⟨_,H,I',h⟩) hf)
def gNil:TGs:=fun vs σ H Q=>vs=[]∧Q σ H
def als (t:TG) (u:TGs):TGs:=fun vs σ H Q=>∃ v r,vs=v :: r∧t v σ H fun σ' H'=>u r σ' H' Q
theorem ajV:PGs X [] gNil:=by
 intro pins s σ H vs us Q I r h
 obtain ⟨e,h⟩:=h
 subst e
 cases r
 exact assignInOrder_nil ⟨σ,H,I,h⟩
theorem ahU {e:Expr} {es:List Expr} {t:TG} {u:TGs} (h1:PG X e t) (h2:PGs X es u)
  (hs:(assignEach (e :: es) X.env).map (·.2)=assign e X.env :: (assignEach es X.env).map (·.2):=by rfl):PGs X (e :: es) (als t u):=by
 intro pins s σ H vs us Q I r h
 obtain ⟨v,vr,e1,h⟩:=h
 subst e1
 cases r with
 | cons r rr =>
  rw [hs]
  refine assignInOrder_cons (thn (h1 pins s σ H _ _ _ I r h) fun _ s1 ⟨σ1,H1,I1,q1⟩=>?_)
  exact h2 pins s1 σ1 H1 _ _ Q I1 rr q1
def gTup (K:PySem.W.Frag) (n:Nat) (t:TGs):TG:=fun v σ H Q=>∃ a xs,v=.ref a∧SqT K H a xs∧xs.length=n∧t xs σ H Q
theorem ak2 {es:List Expr} {k:Nat} {t:TGs} {n:Nat} (hc:X.calm=true) (h:PGs X es t)
  (hn:(assignEach es X.env).length=n:=by rfl) (hst:(assignEach es X.env).findIdx? (·.1)=none:=by rfl):PG X (.Tuple es k pos) (gTup X.K n t):=by
 intro pins s σ H v u Q I r hw
 obtain ⟨a,xs,e1,hq,hl,hw⟩:=hw
 subst e1
 cases r
 obtain ⟨its,rv,ht,hz⟩:=I.tuple hq
 refine assign_Tuple_tuple (I.ok.hd hc) ht (by simp [hn,← hl,rv.length]) hst fun h' hx=>?_
 have I1:Inv X pins σ H { s with heap:=h' }:=I.kept (t':=s.toks) fun b o e=>hx b o (Nat.ne_of_lt (Heap.lt_size e)) e
 exact h pins _ σ H xs _ Q I1 (by simpa using rv) hw
def gSub (to ti:TE) (t:TSet):TG:=fun v σ H Q=>to σ H fun o H1=>ti σ H1 fun i H2=>t o i v H2 fun H3=>Q σ H3
theorem ake {o i:Expr} {to ti:TE} {t:TSet} (ho:PE X o to) (hi:PE X i ti) (hs:PSet X t)
  (ha:∀ v,assign (.Subscript o i pos) X.env v=(do
   let ov ← holding [v] (eval o X.env)
   let iv ← holding [v,ov] (eval i X.env)
   standAt pos
   holding [v,ov,iv] (setItem ov iv v)
   release [v,ov,iv] []):=by intro _; rfl):PG X (.Subscript o i pos) (gSub to ti t):=by
 intro pins s σ H v u Q I r h
 rw [ha]
 refine wpAny_bind (wpAny_holding (thn (ho pins s σ H _ I h) fun ov s1 ⟨x,H1,I1,r1,q1⟩=>?_))
 refine wpAny_bind (wpAny_holding (thn (hi pins s1 σ H1 _ I1 q1) fun iv s2 ⟨y,H2,I2,r2,q2⟩=>?_))
 refine wpAny_bind (wpAny_standAt (wpAny_bind (wpAny_holding (thn (hs pins s2 σ H2 x y v ov iv u _ I2 r1 r2 r q2) fun _ s3 ⟨H3,I3,q3⟩=>?_))))
 exact wpAny_release ⟨σ,H3,I3,q3⟩
def tAsg (te:TE) (g:TG):TS:=fun D σ H=>te σ H fun x H1=>g x σ H1 D.nx
theorem alc {tg e:Expr} {te:TE} {g:TG} (he:PE X e te) (hg:PG X tg g) (hs:swapsWithSole [tg] e pos.line X.env=pure false:=by rfl) (hw:swappedStores [tg] e X.env=pure none:=by rfl)
  (h1:(assignEach [tg] X.env).map (·.2)=[assign tg X.env]:=by rfl):PS X (.Assign [tg] e pos) (tAsg te g):=by
 intro pins s σ H D I h
 refine wpAny_Assign_stores (thn (he pins s σ H _ I h) fun v s1 ⟨x,H1,I1,r1,q1⟩=>?_) hs hw
 rw [h1]
 exact thn (hg pins s1 σ H1 x v _ I1 r1 q1) fun _ s2 q=>q
theorem aiD {i:Nat} {x:Str} {e:Expr} {te:TE} {pos':Pos} (hN:X.N.Nodup) (hi:X.N[i]?=some x) (hx:Loc X.env.scope x) (he:PE X e te) (hs:swapsWith e (some (.Name x pos')) pos.line X.env=pure false:=by rfl) (hf:X.fn x=true∨X.env.scope.names.lookup x=some .local:=by first | exact .inl rfl | exact .inr rfl | assumption) :
  PS X (.Assign [.Name x pos'] e pos) (tAsg te (akP i)):=by
 intro pins s σ H D I h
 refine wpAny_Assign_Name (thn (he pins s σ H _ I h) fun v s1 ⟨y,H1,I1,r1,q1⟩=>?_) hs
 exact act I1 hN hi hx r1 (fun s2 I2=>⟨_,H1,I2,q1⟩) hf
def tPar (i j:Nat) (ta:TA):TS:=fun D σ H=>ta σ H fun vs H1=>∃ v w,vs=[v,w]∧D.nx ((σ.set i (some v)).set j (some w)) H1
theorem akD {i j:Nat} {x y:Str} {a b:Expr} {ta:TA} {px py pt:Pos} {kt k2 pt2} (hc:X.calm=true) (hN:X.N.Nodup) (hi:X.N[i]?=some x) (hj:X.N[j]?=some y) (hij:i≠j)
  (hx:X.env.scope.names.lookup x=some .local) (hy:X.env.scope.names.lookup y=some .local) (ha:PA X [a,b] ta)
  (hw:swappedStores [.Tuple [.Name x px,.Name y py] kt pt] (.Tuple [a,b] k2 pt2) X.env=pure (some [x,y]))
  (hs:swapsWithSole [.Tuple [.Name x px,.Name y py] kt pt] (.Tuple [a,b] k2 pt2) pos.line X.env=pure false:=by rfl) :
  PS X (.Assign [.Tuple [.Name x px,.Name y py] kt pt] (.Tuple [a,b] k2 pt2) pos) (tPar i j ta):=by
 intro pins s σ H D I h
 rw [exec_Assign_arm]
 refine wpAny_bind (wpAny_standAt ?_)
 rw [hs]
 refine wpAny_bind (wpAny_pure ?_)
 rw [if_neg (by decide)]
 refine wpAny_bind (Tuple_ (thn (ha _ pins s σ H _ I h) fun us s1 ⟨vs,H1,I1,r1,q1⟩=>?_))
 obtain ⟨v,w,e1,q1⟩:=q1
 subst e1
 obtain ⟨u1,u2,rfl,rv,rw'⟩:∃ u1 u2,us=[u1,u2]∧RelV v u1∧RelV w u2:=by
  cases r1 with
  | cons p q =>
   cases q with
   | cons p' q' =>
    cases q'
    exact ⟨_,_,rfl,p,p'⟩
 refine wpAny_newObj_type ?_ (by show 2≤sizeLine; decide)
 have I2:Inv X pins σ H1 { s1 with heap:=s1.heap.push { cls:=.type "tuple",data:=.seq [u1,u2].toArray } }:=I1.kept (t':=s1.toks) fun b o e=>Heap.get?_push_of_some _ e
 rw [hw]
 refine wpAny_bind (wpAny_pure ?_)
 show wpAny (model X.prog X.w) X.A (do rule "assign.swapped-stores"; let items ← unpackItems (.ref s1.heap.objs.size) 2 none; assignInOrder [fun v=>bindName X.env y v,fun v=>bindName X.env x v] items.reverse; pure Flow.next) _ _ _
 refine wpAny_bind (wpAny_rule (wpAny_bind (unpackItems_tuple (items:=#[u1,u2]) (I.ok.hd hc) (IsTup.new s1.heap _) fun h' hx'=>?_)))
 have I3:=I2.kept (h':=h') (t':=s1.toks) fun b o e=>hx' b o (Nat.ne_of_lt (Heap.lt_size e)) e
 show wpAny _ _ (assignInOrder [fun v=>bindName X.env y v,fun v=>bindName X.env x v] [u2,u1] >>= fun _=>pure Flow.next) _ _ _
 refine wpAny_bind (assignInOrder_cons (wpAny_bindName (act I3 hN hj (.inl hy) rw' (fun s2 I4=>?_) (.inr hy))))
 refine assignInOrder_cons (wpAny_bindName (act I4 hN hi (.inl hx) rv (fun s3 I5=>assignInOrder_nil (wpAny_pure ?_)) (.inr hx)))
 rw [List.set_comm _ _ (Ne.symm hij)] at I5
 exact ⟨_,H1,I5,q1⟩
end
section
variable {X:Cx} {pos:Pos}
def akI (c:TT) (tb:TS):TS:=fun D σ H=>∃ W:Nat→St→Hp→Prop,(∃ m,W m σ H)∧∀ m σ H,W m σ H →
 c σ H fun b H1=>if b=true then ∃ N:St→Hp→Prop,(∀ σ' H',N σ' H'→∃ m',m' < m∧W m' σ' H')∧tb { D with nx:=N,ct:=N,bk:=D.nx } σ H1 else D.nx σ H1
theorem ahR {c:Expr} {body:List Stmt} {tc:TT} {tb:TS} (hp:PassesOwn (model X.prog X.w) X.A X.env X.xe) (hc:PT X c tc) (hb:PSs X body tb):PS X (.While c body [] pos) (akI tc tb):=by
 intro pins s σ H D I h
 obtain ⟨W,⟨m0,w0⟩,turn⟩:=h
 refine wpAny_While (codeAny_whileLoop (fun n s'=>∃ σ' H',Inv X pins σ' H' s'∧W n σ' H') ?_ m0 ⟨σ,H,I,w0⟩)
 rintro n s1 ⟨σ1,H1,I1,w1⟩
 refine wpAny_passesOwn hp (thn (hc pins s1 σ1 H1 _ I1 (turn n σ1 H1 w1)) fun b s2 ⟨H2,I2,q2⟩=>?_)
 cases b with
 | true =>
  obtain ⟨N,hN,q2⟩:=q2
  rw [if_pos rfl]
  refine wpAny_passesOwn hp (thn (hb pins s2 σ1 H2 _ I2 q2) fun f s3 q3=>?_)
  cases f with
  | next =>
   obtain ⟨σ3,H3,I3,n3⟩:=q3
   obtain ⟨m',hm,w3⟩:=hN σ3 H3 n3
   exact ⟨m',hm,σ3,H3,I3,w3⟩
  | cont =>
   obtain ⟨σ3,H3,I3,n3⟩:=q3
   obtain ⟨m',hm,w3⟩:=hN σ3 H3 n3
   exact ⟨m',hm,σ3,H3,I3,w3⟩
  | brk=>exact q3
  | ret v=>exact q3
 | false =>
  rw [if_neg Bool.false_ne_true]
  exact wpAny_execs_nil ⟨σ1,H2,I2,q2⟩
end
structure It where
 go:Nat→Hp→Prop
 yld:Nat→Hp→V→Hp→Prop
 stop:Nat→Hp→Prop
def FpOk (X:Cx) (pins:List (Addr × Obj)) (H:Hp) (b:Addr):Prop :=
 H b=none∧b≠X.env.locals∧b ∉ X.fs∧(b∈X.ex∨X.s₀.heap.objs.size≤b)∧(∀ x c,X.env.cells.lookup x=some c→c≠b)∧∀ p∈X.pn++pins,p.1≠b
theorem Inv.fpOk {X:Cx} {pins:List (Addr × Obj)} {σ:St} {H H':Hp} {s:Shared} {b:Addr} (I:Inv X pins σ H s) (hb:s.heap.objs.size≤b) (hn:H' b=none):FpOk X pins H' b:=by
 refine ⟨hn,Nat.ne_of_gt (Nat.lt_of_lt_of_le I.lt hb),I.nofs hb,.inr (Nat.le_trans I.sz hb),fun x c e z=>?_,fun p hp z=>?_⟩
 ·obtain ⟨v,q⟩:=I.cell x c e
  exact absurd (Nat.lt_of_lt_of_le q.lt (by rw [z]; exact hb)) (Nat.lt_irrefl _)
 ·exact absurd (Nat.lt_of_lt_of_le (Heap.lt_size (I.pin p hp).1) (by rw [z]; exact hb)) (Nat.lt_irrefl _)
structure Turn (P:Program) (w:World) (K:PySem.W.Frag) (tg:Expr) (J:It) (fp:List Addr) (it:Addr) (tn:Nat→Heap→Prop):Prop where
 mem:it∈fp
 obj:∀ i h,tn i h→∀ b∈fp,∃ o,h.get? b=some o∧∀ v,o.data≠.cell v
 keep:∀ i h h',tn i h→(∀ b∈fp,∀ o,h.get? b=some o→h'.get? b=some o)→tn i h'
 item:∀ (X:Cx),X.prog=P→X.w=w→X.K=K→X.calm=true→∀ (i:Nat) (pins:List (Addr × Obj)) (s:Shared) (σ:St) (H:Hp) (E:Value→Shared→Prop),Inv X pins σ H s→(∀ b∈fp,FpOk X pins H b)→tn i s.heap→J.go i H →
  wpAny (model P w) X.A (pyNext (.ref it)) (fun r s1=>∃ u,r=some u ∧
   wpAny (model P w) X.A (letOwnedTupleGo tg (.ref it) u) (fun _ s2=>∃ x H',Inv X pins σ H' s2∧RelV x u∧J.yld i H x H'∧tn (i+1) s2.heap∧∀ b∈fp,H' b=none) E s1) E s
 done:∀ (X:Cx),X.prog=P→X.w=w→X.K=K→X.calm=true→∀ (i:Nat) (pins:List (Addr × Obj)) (s:Shared) (σ:St) (H:Hp) (E:Value→Shared→Prop),Inv X pins σ H s→(∀ b∈fp,FpOk X pins H b)→tn i s.heap→J.stop i H →
  wpAny (model P w) X.A (pyNext (.ref it)) (fun r s1=>r=none∧Inv X pins σ H s1) E s
 self:∀ (A:Around) (i:Nat) (s:Shared) (Q:Value→Shared→Prop) (E:Value→Shared→Prop),tn i s.heap→Q (.ref it) s→wpAny (model P w) A (pyIter (.ref it)) Q E s
abbrev TI:=St→Hp→(It→Hp→Prop)→Prop
def PIE (X:Cx) (pins:List (Addr × Obj)) (σ:St) (tg:Expr) (R:It→Hp→Prop) (itv:Value) (s2:Shared):Prop :=
 ∃ (it:Addr) (fp:List Addr) (tn:Nat→Heap→Prop) (J:It) (H':Hp),itv=.ref it∧Inv X pins σ H' s2∧Turn X.prog X.w X.K tg J fp it tn∧tn 0 s2.heap∧(∀ b∈fp,FpOk X pins H' b)∧R J H'
def PI (X:Cx) (tg iter:Expr) (wi:TI):Prop :=
 ∀ (pins:List (Addr × Obj)) (s:Shared) (σ:St) (H:Hp) (R:It→Hp→Prop),Inv X pins σ H s→wi σ H R →
  wpAny (model X.prog X.w) X.A (eval iter X.env) (fun v s1=>wpAny (model X.prog X.w) X.A (pyIter v) (PIE X pins σ tg R) X.xe s1) X.xe s
theorem ah2 {M : Model} {A : Around} {E : Value → Shared → Prop} {s : Shared} {tg : Expr} {it : Addr} {u : Value} {o : Obj} {n : String} {vs : Array Value} {Q : Unit → Shared → Prop} (ho : s.heap.get? it = some o) (hc : o.cls = .type n) (hd : o.data = .fields vs)
    (hn : ["enumerate", "zip", "dict_itemiterator", "dict_reverseitemiterator", "odict_iterator", "itertools.zip_longest", "itertools.pairwise"].contains n = false) (hQ : Q () s) : wpAny M A (letOwnedTupleGo tg (.ref it) u) Q E s := by
  unfold letOwnedTupleGo
  cases tg <;> first
    | exact wpAny_pure hQ
    | (cases u <;> first
        | exact wpAny_pure hQ
        | (refine wpAny_bind (wpAny_load ho ?_)
           rw [hc, hd]
           show wpAny M A (if (["enumerate", "zip", "dict_itemiterator", "dict_reverseitemiterator", "odict_iterator", "itertools.zip_longest", "itertools.pairwise"].contains n && vs[0]? == some (rawInt _)) = true then _ else _) Q E s
           rw [if_neg (by intro h; rw [hn, Bool.false_and] at h; cases h)]
           exact wpAny_pure hQ))
def Itl (K:PySem.W.Frag) (a:Addr):It :=
 ⟨fun i H=>∃ xs x,SqL K H a xs∧xs[i]?=some x,fun i H x H'=>H'=H∧∀ xs,SqL K H a xs→xs[i]?=some x,fun i H=>∃ xs,SqL K H a xs∧xs.length≤i⟩
def Itt (K:PySem.W.Frag) (a:Addr):It :=
 ⟨fun i H=>∃ xs x,SqT K H a xs∧xs[i]?=some x,fun i H x H'=>H'=H∧∀ xs,SqT K H a xs→xs[i]?=some x,fun i H=>∃ xs,SqT K H a xs∧xs.length≤i⟩
def Itr (lo:Int) (n:Nat):It:=⟨fun i _=>i < n,fun i H x H'=>H'=H∧x=.int (lo+i),fun i _=>n≤i⟩
theorem ahp {P:Program} {w:World} {K:PySem.W.Frag} {tg:Expr} (a it:Addr):Turn P w K tg (Itl K a) [it] it (fun i h=>h.IsListIter it a i) where
 mem:=by simp
 obj:=fun i h st b hb=>by
  have e:b=it:=by simpa using hb
  subst e
  obtain ⟨o,e,c,d⟩:=st
  exact ⟨o,e,fun v z=>by rw [d] at z; cases z⟩
 keep:=fun i h h' st k=>st.at fun o e=>k it (by simp) o e
 item:=by
  intro X hP hw hK hc i pins s σ H E I hf st hg
  subst hP hw hK
  obtain ⟨xs,x,hq,hx⟩:=hg
  obtain ⟨its,rv,p,hz⟩:=I.list hq
  obtain ⟨u,hu,ru⟩:=rv.get hx
  obtain ⟨f0,f1,f2,f3,f4,f5⟩:=hf it (by simp)
  refine wpAny_pyNext_list_item st p.isList (x:=u) (by simpa using hu) fun h' st' sb=>?_
  have I1:Inv X pins σ H { s with heap:=h' }:=I.turned (t':=s.toks) (fun b o hb e=>(sb.2 b hb).trans e) f0 f1 f3 f4 f5
  obtain ⟨o,e,c,d⟩:=id st'
  exact ⟨u,rfl,ah2 (s:={ s with heap:=h' }) e c d (by decide) ⟨x,H,I1,ru,⟨rfl,fun ys hy=>by rw [I.list_inj hy hq]; exact hx⟩,st',fun b hb=>(hf b hb).1⟩⟩
 done:=by
  intro X hP hw hK hc i pins s σ H E I hf st hg
  subst hP hw hK
  obtain ⟨xs,hq,hx⟩:=hg
  obtain ⟨its,rv,p,hz⟩:=I.list hq
  obtain ⟨f0,f1,f2,f3,f4,f5⟩:=hf it (by simp)
  have hl:=rv.length
  exact wpAny_pyNext_list_end (I.ok.hd hc) st p.isList (by simp; omega) fun h' eb=>⟨rfl,I.turned (t':=s.toks) (fun b o hb e=>eb b o hb e) f0 f1 f3 f4 f5⟩
 self:=fun _ _ _ _ _ st h=>wpAny_pyIter_listiter st h
theorem ago {P:Program} {w:World} {K:PySem.W.Frag} {tg:Expr} (a it:Addr):Turn P w K tg (Itt K a) [it] it (fun i h=>h.IsTupleIter it a i) where
 mem:=by simp
 obj:=fun i h st b hb=>by
  have e:b=it:=by simpa using hb
  subst e
  obtain ⟨o,e,c,d⟩:=st
  exact ⟨o,e,fun v z=>by rw [d] at z; cases z⟩
 keep:=fun i h h' st k=>st.at fun o e=>k it (by simp) o e
 item:=by
  intro X hP hw hK hc i pins s σ H E I hf st hg
  subst hP hw hK
  obtain ⟨xs,x,hq,hx⟩:=hg
  obtain ⟨its,rv,p,hz⟩:=I.tuple hq
  obtain ⟨u,hu,ru⟩:=rv.get hx
  obtain ⟨f0,f1,f2,f3,f4,f5⟩:=hf it (by simp)
  refine wpAny_pyNext_tuple_item st (show s.heap.IsTuple a its.toArray from p) (x:=u) (by simpa using hu) fun h' st' sb=>?_
  have I1:Inv X pins σ H { s with heap:=h' }:=I.turned (t':=s.toks) (fun b o hb e=>(sb.2 b hb).trans e) f0 f1 f3 f4 f5
  obtain ⟨o,e,c,d⟩:=id st'
  exact ⟨u,rfl,ah2 (s:={ s with heap:=h' }) e c d (by decide) ⟨x,H,I1,ru,⟨rfl,fun ys hy=>by rw [I.tuple_inj hy hq]; exact hx⟩,st',fun b hb=>(hf b hb).1⟩⟩
 done:=by
  intro X hP hw hK hc i pins s σ H E I hf st hg
  subst hP hw hK
  obtain ⟨xs,hq,hx⟩:=hg
  obtain ⟨its,rv,p,hz⟩:=I.tuple hq
  obtain ⟨f0,f1,f2,f3,f4,f5⟩:=hf it (by simp)
  have hl:=rv.length
  exact wpAny_pyNext_tuple_end (I.ok.hd hc) st (show s.heap.IsTuple a its.toArray from p) (by simp; omega) fun h' eb=>⟨rfl,I.turned (t':=s.toks) (fun b o hb e=>eb b o hb e) f0 f1 f3 f4 f5⟩
 self:=fun _ _ _ _ _ st h=>wpAny_pyIter_tupleiter st h
theorem af9 {P:Program} {w:World} {K:PySem.W.Frag} {tg:Expr} (it:Addr) (lo:Int) (n:Nat):Turn P w K tg (Itr lo n) [it] it (fun i h=>IsRangeIter h it (lo+(i:Nat)*1) ((n:Int) - (i:Nat)) 1) where
 mem:=by simp
 obj:=fun i h st b hb=>by
  have e:b=it:=by simpa using hb
  subst e
  exact ⟨_,st,fun v z=>by
   have z':Data.fields _=Data.cell v:=z
   cases z'⟩
 keep:=fun i h h' st k=>k it (by simp) _ st
 item:=by
  intro X hP hw hK hc i pins s σ H E I hf st hg
  subst hP hw hK
  obtain ⟨f0,f1,f2,f3,f4,f5⟩:=hf it (by simp)
  have W:=Walks.range (prog:=X.prog) (w:=X.w) (I.ok.hd hc) it lo 1 n
  refine W.item i s _ _ hg st fun v h' tk hv st' kk=>?_
  obtain ⟨t,rfl⟩:=hv
  have I1:Inv X pins σ H { s with heap:=h',toks:=tk }:=I.turned (fun b o hb e=>kk b o (by simpa using hb) e) f0 f1 f3 f4 f5
  refine ⟨_,rfl,ah2 (s:={ s with heap:=h',toks:=tk }) (n:="range_iterator") st' rfl rfl (by decide) ⟨.int (lo+i),H,I1,⟨t,?_⟩,⟨rfl,rfl⟩,st',fun b hb=>(hf b hb).1⟩⟩
  rw [Int.mul_one]
 done:=by
  intro X hP hw hK hc i pins s σ H E I hf st hg
  subst hP hw hK
  obtain ⟨f0,f1,f2,f3,f4,f5⟩:=hf it (by simp)
  exact wpAny_pyNext_range_end (I.ok.hd hc) st (by have:n≤i:=hg; omega) fun h' eb=>⟨rfl,I.turned (t':=s.toks) (fun b o hb e=>eb b o hb e) f0 f1 f3 f4 f5⟩
 self:=fun _ _ _ _ _ st h=>wpAny_pyIter_rangeiter st h
end L2
namespace L2
open PySem PySem.Spec PyProof.Rows
section
variable {X:Cx} {tg:Expr}
theorem ah4 {pins:List (Addr × Obj)} {σ:St} {H:Hp} {s:Shared} {R:It→Hp→Prop} {E:Value→Shared→Prop} {lo hi:Int} {t u v:Tok} {tk:Nat} (I:Inv X pins σ H s) (h1:-(2 ^ 62)≤lo) (h2:lo < 2 ^ 62) (h3:-(2 ^ 62)≤hi) (h4:hi < 2 ^ 62)
  (q:R (Itr lo (hi - lo).toNat) H):wpAny (model X.prog X.w) X.A (pyIter (.ref s.heap.objs.size)) (PIE X pins σ tg R) E { s with heap:=s.heap.push { cls:=.type "range",data:=.fields #[.int lo t,.int hi u,.int 1 v] },toks:=tk }:=by
 refine wpAny_pyIter_range (IsRange.new ..) (small_one h1 h2 h3 h4) ?_
 have I1:Inv X pins σ H { s with heap:=s.heap.push { cls:=.type "range",data:=.fields #[.int lo t,.int hi u,.int 1 v] },toks:=tk }:=I.kept fun b o e=>Heap.get?_push_of_some _ e
 refine ⟨(s.heap.push { cls:=.type "range",data:=.fields #[.int lo t,.int hi u,.int 1 v] }).objs.size,[(s.heap.push { cls:=.type "range",data:=.fields #[.int lo t,.int hi u,.int 1 v] }).objs.size],_,_,H,rfl,
  I1.kept (t':=tk) fun b o e=>Heap.get?_push_of_some _ e,af9 _ lo (hi - lo).toNat,?_,fun b hb=>?_,q⟩
 ·have e1:lo+((0:Nat):Int)*1=lo:=by simp
  have e2:(((hi - lo).toNat:Nat):Int) - ((0:Nat):Int)=Builtin.Range.rangeSize lo hi 1:=by rw [rangeSize_one]; split <;> omega
  show IsRangeIter _ _ (lo+((0:Nat):Int)*1) ((((hi - lo).toNat:Nat):Int) - ((0:Nat):Int)) 1
  rw [e1,e2]
  exact Heap.get?_push_size _ rfl
 ·have e:b=(s.heap.push { cls:=.type "range",data:=.fields #[.int lo t,.int hi u,.int 1 v] }).objs.size:=by simpa using hb
  subst e
  exact I1.fpOk (Nat.le_refl _) (I1.hok.fresh (Nat.le_refl _))
def alF (ta:TA):TI:=fun σ H R=>ta σ H fun vs H1=>∃ j:Int,vs=[.int j]∧-(2 ^ 62)≤j∧j < 2 ^ 62∧R (Itr 0 j.toNat) H1
theorem ahf {a:Expr} {ta:TA} {p pos:Pos} (hg:Gl X "range") (hm:X.mg "range"=none) (ha:PA X [a] ta) (hs:starEach [a] X.env=[(false,eval a X.env)]:=by rfl):PI X tg (.Call (.Name "range" p) [a] [] pos) (alF ta):=by
 intro pins s σ H R I h
 refine Call_ (aeF I hg hm boot_range (PyProof.Rows.callWith_type1 (thn (ha pos pins s σ H _ I h) fun us s1 ⟨vs,H1,I1,r1,q1⟩=>?_) hs rfl))
 obtain ⟨j,e,q1,q2,q⟩:=q1
 subst e
 cases r1 with
 | cons r rr =>
  cases rr
  obtain ⟨t,rfl⟩:=r
  exact call_range_1 (ah4 I1 (by omega) (by omega) q1 q2 (by simpa using q))
def tFor (wi:TI) (g:TG) (tb:TS):TS:=fun D σ H=>wi σ H fun J H1=>∃ W:Nat→Nat→St→Hp→Prop,(∃ m,W 0 m σ H1)∧∀ i m σ H,W i m σ H →
 (J.stop i H∧D.nx σ H)∨(J.go i H∧∃ N:St→Hp→Prop,(∀ σ' H',N σ' H'→∃ m',m' < m∧W (i+1) m' σ' H')∧∀ x H',J.yld i H x H'→g x σ H' fun σ2 H2=>tb { D with nx:=N,ct:=N,bk:=D.nx } σ2 H2)
def afM (fp:List Addr) (h:Heap):List (Addr × Obj):=fp.filterMap fun b=>(h.get? b).map fun o=>(b,o)
theorem aco {fp:List Addr} {h:Heap} {b:Addr} {o:Obj} (hb:b∈fp) (e:h.get? b=some o):(b,o)∈afM fp h:=List.mem_filterMap.mpr ⟨b,hb,by rw [e]; rfl⟩
theorem ahh {fp:List Addr} {h:Heap} {p:Addr × Obj} (hp:p∈afM fp h):p.1∈fp∧h.get? p.1=some p.2:=by
 obtain ⟨b,hb,e⟩:=List.mem_filterMap.mp hp
 cases q:h.get? b with
 | none=>rw [q] at e; cases e
 | some o =>
  rw [q] at e
  have e':(b,o)=p:=Option.some.inj e
  subst e'
  exact ⟨hb,q⟩
theorem Inv.pinned {pins:List (Addr × Obj)} {σ:St} {H:Hp} {s:Shared} {fp:List Addr} (I:Inv X pins σ H s) (hf:∀ b∈fp,FpOk X pins H b) (ho:∀ b∈fp,∃ o,s.heap.get? b=some o∧∀ v,o.data≠.cell v):Inv X (pins++afM fp s.heap) σ H s :=
 I.pins_of fun p hp=>(List.mem_append.mp hp).elim (fun z=>I.pin p (List.mem_append_right _ z)) fun z=>by
  obtain ⟨hb,e⟩:=ahh z
  obtain ⟨f0,f1,f2,_⟩:=hf p.1 hb
  obtain ⟨o,e',d⟩:=ho p.1 hb
  rw [e] at e'; cases e'
  exact ⟨e,f0,f1,f2,d⟩
theorem Inv.unpinned {pins pl:List (Addr × Obj)} {σ:St} {H:Hp} {s:Shared} (I:Inv X (pins++pl) σ H s):Inv X pins σ H s:=I.pins_of fun p hp=>I.pin p (List.mem_append_right _ (List.mem_append_left _ hp))
theorem akV {iter:Expr} {body:List Stmt} {wi:TI} {g:TG} {tb:TS} {pos:Pos} (hp:PassesOwn (model X.prog X.w) X.A X.env X.xe) (hc:X.calm=true) (hi:PI X tg iter wi) (hg:PG X tg g) (hb:PSs X body tb)
  (hs:∀ x,foldedSetIterable iter X.env x=pure x:=by intro _; rfl):PS X (.For tg iter body [] pos) (tFor wi g tb):=by
 intro pins s σ H D I h
 refine wpAny_For (thn (hi pins s σ H _ I h) fun v s1 h1=>thn h1 fun itv s2 h2=>?_) hs
 obtain ⟨it,fp,tn,J,H2,e,I2,T,st2,f2,W,⟨m0,w0⟩,turn⟩:=h2
 subst e
 -- what stays true of the iterator's objects through the loop
 have stat:∀ {H':Hp},(∀ b∈fp,H' b=none)→∀ b∈fp,FpOk X pins H' b:=fun hn b hb=>⟨hn b hb,(f2 b hb).2⟩
 refine codeAny_forLoop_any (fun n s'=>∃ i σ' H',Inv X pins σ' H' s'∧tn i s'.heap∧(∀ b∈fp,H' b=none)∧W i n σ' H') ?_ m0 ⟨0,σ,H2,I2,st2,fun b hb=>(f2 b hb).1,w0⟩
 rintro n s3 ⟨i,σ3,H3,I3,st3,fr3,w3⟩
 rcases turn i n σ3 H3 w3 with ⟨stop,qn⟩ | ⟨go,N,hN,step⟩
 ·refine wpAny_passesOwn hp (thn (T.done X rfl rfl rfl hc i pins s3 σ3 H3 X.xe I3 (stat fr3) st3 stop) fun r s4 ⟨hr,I4⟩=>?_)
  subst hr
  exact wpAny_execs_nil ⟨σ3,H3,I4,qn⟩
 ·refine wpAny_passesOwn hp (thn (T.item X rfl rfl rfl hc i pins s3 σ3 H3 X.xe I3 (stat fr3) st3 go) fun r s4 ⟨u,hr,h4⟩=>?_)
  subst hr
  refine wpAny_passesOwn hp (thn h4 fun _ s5 ⟨x,H5,I5,r5,y5,st5,fr5⟩=>?_)
  have I5':=I5.pinned (stat fr5) (T.obj _ _ st5)
  refine wpAny_passesOwn hp (thn (hg _ s5 σ3 H5 x u _ I5' r5 (step x H5 y5)) fun _ s6 ⟨σ6,H6,I6,q6⟩=>?_)
  refine wpAny_passesOwn hp (thn (hb _ s6 σ6 H6 _ I6 q6) fun f s7 q7=>?_)
  have again:∀ {σ7:St} {H7:Hp},Inv X (pins++afM fp s5.heap) σ7 H7 s7→N σ7 H7→∃ m,m < n∧∃ i σ' H',Inv X pins σ' H' s7∧tn i s7.heap∧(∀ b∈fp,H' b=none)∧W i m σ' H':=fun {σ7 H7} I7 n7=>by
   obtain ⟨m',hm,w7⟩:=hN σ7 H7 n7
   refine ⟨m',hm,i+1,σ7,H7,I7.unpinned,T.keep _ _ _ st5 fun b hb o e=>(I7.pin (b,o) (List.mem_append_right _ (List.mem_append_right _ (aco hb e)))).1,fun b hb=>?_,w7⟩
   obtain ⟨o,e,d⟩:=T.obj _ _ st5 b hb
   exact (I7.pin (b,o) (List.mem_append_right _ (List.mem_append_right _ (aco hb e)))).2.1
  cases f with
  | next=>obtain ⟨σ7,H7,I7,n7⟩:=q7; exact again I7 n7
  | cont=>obtain ⟨σ7,H7,I7,n7⟩:=q7; exact again I7 n7
  | brk=>obtain ⟨σ7,H7,I7,q7⟩:=q7; exact ⟨σ7,H7,I7.unpinned,q7⟩
  | ret v=>obtain ⟨x7,σ7,H7,I7,r7,q7⟩:=q7; exact ⟨x7,σ7,H7,I7.unpinned,r7,q7⟩
end
end L2
namespace L2
open PySem PySem.Spec PyProof.Rows
abbrev R2:=V→V→Hp→VK→Prop
def OpR (X:Cx) (f:Value→Value→Sem Value) (r:R2):Prop :=
 ∀ (pins:List (Addr × Obj)) (s:Shared) (σ:St) (H:Hp) (x y:V) (v u:Value) (Q:VK),Inv X pins σ H s→RelV x v→RelV y u→r x y H Q →
  wpAny (model X.prog X.w) X.A (f v u) (EP X pins σ Q) X.xe s
def UnR (X:Cx) (f:Value→Sem Value) (r:V→Hp→VK→Prop):Prop :=
 ∀ (pins:List (Addr × Obj)) (s:Shared) (σ:St) (H:Hp) (x:V) (v:Value) (Q:VK),Inv X pins σ H s→RelV x v→r x H Q →
  wpAny (model X.prog X.w) X.A (f v) (EP X pins σ Q) X.xe s
def ac4 (X:Cx) (f:Value) (r:List V→Hp→VK→Prop):Prop :=
 ∀ (pins:List (Addr × Obj)) (s:Shared) (σ:St) (H:Hp) (xs:List V) (us:List Value) (Q:VK),Inv X pins σ H s→Vals xs us→r xs H Q →
  wpAny (model X.prog X.w) X.A (call f us) (EP X pins σ Q) X.xe s
def tOp (r:R2) (ta tb:TE):TE:=fun σ H Q=>ta σ H fun x H1=>tb σ H1 fun y H2=>r x y H2 Q
def tUn (r:V→Hp→VK→Prop) (ta:TE):TE:=fun σ H Q=>ta σ H fun x H1=>r x H1 Q
def rI (C:Int→Int→Prop) (g:Int→Int→V):R2:=fun x y H Q=>∃ i j,x=.int i∧y=.int j∧C i j∧Q (g i j) H
def rI0 (g:Int→Int→V):R2:=fun x y H Q=>∃ i j,x=.int i∧y=.int j∧Q (g i j) H
def rU (g:Int→V):V→Hp→VK→Prop:=fun x H Q=>∃ i,x=.int i∧Q (g i) H
section
variable {X:Cx} {a b c:Expr} {ta tb tc:TE} {pos:Pos}
theorem binT (ha:PE X a ta) (hb:PE X b tb) {pins:List (Addr × Obj)} {s:Shared} {σ:St} {H:Hp} {R:V→V→Hp→Prop} (I:Inv X pins σ H s)
  (h:ta σ H fun x H1=>tb σ H1 fun y H2=>R x y H2) {Q:Value→Shared→Prop} {f:Value→Value→Sem Value}
  (hf:∀ v u s2 x y H2,Inv X pins σ H2 s2→RelV x v→RelV y u→R x y H2→wpAny (model X.prog X.w) X.A (f v u) Q X.xe s2) :
  wpAny (model X.prog X.w) X.A (eval a X.env) (fun v s₁=>wpAny (model X.prog X.w) X.A (eval b X.env) (fun u s₂=>wpAny (model X.prog X.w) X.A (f v u) Q X.xe s₂) X.xe s₁) X.xe s:=by
 refine thn (ha pins s σ H _ I h) fun v s1 ⟨x,H1,I1,r1,q1⟩=>?_
 refine thn (hb pins s1 σ H1 _ I1 q1) fun u s2 ⟨y,H2,I2,r2,q2⟩=>?_
 exact hf v u s2 x y H2 I2 r1 r2 q2
theorem alj {op:Operator} {r:R2} (ho:OpR X (binaryOp op) r) (ha:PE X a ta) (hb:PE X b tb):PE X (.BinOp a op b pos) (tOp r ta tb):=by
 intro pins s σ H Q I h
 exact wpAny_BinOp (binT ha hb I h fun v u s2 x y H2 I2 rx ry q=>ho pins s2 σ H2 x y v u Q I2 rx ry q)
theorem alD {op:UnaryOp} {r:V→Hp→VK→Prop} (ho:UnR X (unaryOp op) r) (ha:PE X a ta):PE X (.UnaryOp op a pos) (tUn r ta):=by
 intro pins s σ H Q I h
 exact UnaryOp_ (thn (ha pins s σ H _ I h) fun v s1 ⟨x,H1,I1,r1,q1⟩=>ho pins s1 σ H1 x v Q I1 r1 q1)
theorem opI {f:Value→Value→Sem Value} {C:Int→Int→Prop} {g:Int→Int→Int}
  (rule:∀ (i j:Int) (t u:Tok) (s:Shared) (Q:Value→Shared→Prop) (E:Value→Shared→Prop),C i j→Q (.int (g i j) s.toks) { s with toks:=s.toks+1 }→wpAny (model X.prog X.w) X.A (f (.int i t) (.int j u)) Q E s) :
  OpR X f (rI C fun i j=>.int (g i j)):=by
 intro pins s σ H x y v u Q I rx ry h
 obtain ⟨i,j,rfl,rfl,hc,q⟩:=h
 obtain ⟨t,rfl⟩:=rx
 obtain ⟨t',rfl⟩:=ry
 exact rule i j t t' s _ _ hc ⟨.int (g i j),H,I.tok _,⟨_,rfl⟩,q⟩
theorem opI0 {f:Value→Value→Sem Value} {g:Int→Int→Int}
  (rule:∀ (i j:Int) (t u:Tok) (s:Shared) (Q:Value→Shared→Prop) (E:Value→Shared→Prop),Q (.int (g i j) s.toks) { s with toks:=s.toks+1 }→wpAny (model X.prog X.w) X.A (f (.int i t) (.int j u)) Q E s) :
  OpR X f (rI0 fun i j=>.int (g i j)):=by
 intro pins s σ H x y v u Q I rx ry h
 obtain ⟨i,j,rfl,rfl,q⟩:=h
 obtain ⟨t,rfl⟩:=rx
 obtain ⟨t',rfl⟩:=ry
 exact rule i j t t' s _ _ ⟨.int (g i j),H,I.tok _,⟨_,rfl⟩,q⟩
theorem opB0 {f:Value→Value→Sem Value} {g:Int→Int→Bool}
  (rule:∀ (i j:Int) (t u:Tok) (s:Shared) (Q:Value→Shared→Prop) (E:Value→Shared→Prop),Q (.bool (g i j)) s→wpAny (model X.prog X.w) X.A (f (.int i t) (.int j u)) Q E s) :
  OpR X f (rI0 fun i j=>.bl (g i j)):=by
 intro pins s σ H x y v u Q I rx ry h
 obtain ⟨i,j,rfl,rfl,q⟩:=h
 obtain ⟨t,rfl⟩:=rx
 obtain ⟨t',rfl⟩:=ry
 exact rule i j t t' s _ _ ⟨.bl (g i j),H,I,rfl,q⟩
def CPow (i j:Int):Prop:=0≤j∧j≤1000000∧i.natAbs < 2 ^ 64
def CMul (i j:Int):Prop:=(-(2 ^ 64) < i∧i < 2 ^ 64)∨(-(2 ^ 64) < j∧j < 2 ^ 64)
theorem CMul.ok {i j:Int} (h:CMul i j):IntMulOk i j:=by
 rcases h with ⟨h1,h2⟩ | ⟨h1,h2⟩
 ·exact .of_left (intBits_le_64 h1 h2)
 ·exact .of_right (intBits_le_64 h1 h2)
theorem akh:OpR X (binaryOp .Add) (rI0 fun i j=>.int (i+j)):=opI0 fun _ _ _ _ _ _ _ q=>add_int q
theorem agy:OpR X (binaryOp .Sub) (rI0 fun i j=>.int (i - j)):=opI0 fun _ _ _ _ _ _ _ q=>sub_int q
theorem ab8:OpR X (binaryOp .Mod) (rI (fun _ j=>j≠0) fun i j=>.int (i.fmod j)):=opI fun _ _ _ _ _ _ _ hc q=>mod_int' hc q
theorem aiy:OpR X (binaryOp .Pow) (rI CPow fun i j=>.int (i ^ j.toNat)):=opI fun _ _ _ _ _ _ _ hc q=>pow_int_small hc.1 hc.2.1 hc.2.2 q
theorem unI {f:Value→Sem Value} {g:Int→Int}
  (rule:∀ (i:Int) (t:Tok) (s:Shared) (Q:Value→Shared→Prop) (E:Value→Shared→Prop),Q (.int (g i) s.toks) { s with toks:=s.toks+1 }→wpAny (model X.prog X.w) X.A (f (.int i t)) Q E s) :
  UnR X f (rU fun i=>.int (g i)):=by
 intro pins s σ H x v Q I rx h
 obtain ⟨i,rfl,q⟩:=h
 obtain ⟨t,rfl⟩:=rx
 exact rule i t s _ _ ⟨.int (g i),H,I.tok _,⟨_,rfl⟩,q⟩
theorem ahw:UnR X (unaryOp .USub) (rU fun i=>.int (-i)):=unI fun _ _ _ _ _ q=>neg_int q
end
section
variable {X:Cx} {a b c:Expr} {ta tb tc:TE} {pos:Pos}
theorem alg {pins:List (Addr × Obj)} {σ:St} {H:Hp} {s:Shared} {Q:VK} {k k':Bool} (I:Inv X pins σ H s) (q:Q (.bl k) H) (e:k=k'):EP X pins σ Q (.bool k') s:=by
 subst e
 exact ⟨.bl k,H,I,rfl,q⟩
theorem ajF:OpR X (compareOp .Lt) (rI0 fun i j=>.bl (decide (i < j))):=opB0 fun _ _ _ _ _ _ _ q=>lt_int q
theorem ajc:OpR X (compareOp .LtE) (rI0 fun i j=>.bl (decide (i≤j))):=opB0 fun _ _ _ _ _ _ _ q=>le_int q
theorem ahz:OpR X (compareOp .Gt) (rI0 fun i j=>.bl (decide (j < i))):=opB0 fun _ _ _ _ _ _ _ q=>gt_int q
theorem akB:OpR X (compareOp .GtE) (rI0 fun i j=>.bl (decide (j≤i))):=opB0 fun _ _ _ _ _ _ _ q=>ge_int q
theorem aeX:OpR X (compareOp .In) (fun x y H Q=>∃ i j,x=.str i∧y=.str j∧Q (.bl (!(Builtin.Str.occurrences j i 0 j.length 1).isEmpty)) H):=by
 intro pins s σ H x y v u Q I rx ry h
 obtain ⟨i,j,rfl,rfl,q⟩:=h
 obtain ⟨t,rfl⟩:=rx
 obtain ⟨t',rfl⟩:=ry
 exact in_str (alg I q rfl)
theorem OpR.or {f:Value→Value→Sem Value} {r r':R2} (h:OpR X f r) (h':OpR X f r'):OpR X f (fun x y H Q=>r x y H Q∨r' x y H Q):=by
 intro pins s σ H x y v u Q I rx ry q
 rcases q with q | q
 ·exact h pins s σ H x y v u Q I rx ry q
 ·exact h' pins s σ H x y v u Q I rx ry q
theorem aaM (b:Expr) {op:CmpOp} (h:op≠.In:=by decide) (h2:op≠.NotIn:=by decide):behindInMarks op b=false:=by
 have e1:(op == CmpOp.In)=false:=by cases op <;> first | rfl | exact absurd rfl h
 have e2:(op == CmpOp.NotIn)=false:=by cases op <;> first | rfl | exact absurd rfl h2
 cases b <;> simp [behindInMarks,e1,e2]
theorem aiQ {op:CmpOp} {r:R2} (ho:OpR X (compareOp op) r) (ha:PE X a ta) (hb:PE X b tb) (hm:behindInMarks op b=false):PE X (.Compare a [op] [b] pos) (tOp r ta tb):=by
 intro pins s σ H Q I h
 exact wpAny_Compare1 (binT ha hb I h fun v u s2 x y H2 I2 rx ry q=>ho pins s2 σ H2 x y v u Q I2 rx ry q) hm
def alu (t:TE):TT:=fun σ H Q=>t σ H fun x H'=>∃ k,x=.bl k∧Q k H'
theorem ajA {op:CmpOp} {r:R2} (ho:OpR X (compareOp op) r) (ha:PE X a ta) (hb:PE X b tb) (hm:behindInMarks op b=false):PT X (.Compare a [op] [b] pos) (alu (tOp r ta tb)):=by
 intro pins s σ H Q I h
 refine wpAny_isTrue_Compare1 (thn (ha pins s σ H _ I h) fun v s1 ⟨x,H1,I1,r1,q1⟩=>thn (hb pins s1 σ H1 _ I1 q1) fun u s2 ⟨y,H2,I2,r2,q2⟩ =>
  thn (ho pins s2 σ H2 x y v u _ I2 r1 r2 q2) fun c s3 ⟨z,H3,I3,r3,k,e,q3⟩=>?_) hm
 subst e
 cases r3
 exact wpAny_truthy_bool ⟨H3,I3,q3⟩
def akx (r r':R2) (ta tb tc:TE):TE:=fun σ H Q=>ta σ H fun x H1=>tb σ H1 fun y H2=>r x y H2 fun z H3=>∃ k,z=.bl k ∧
 (if k=true then tc σ H3 fun w' H4=>r' y w' H4 Q else Q (.bl false) H3)
theorem ahL {op op':CmpOp} {r r':R2} (ho:OpR X (compareOp op) r) (ho':OpR X (compareOp op') r') (ha:PE X a ta) (hb:PE X b tb) (hc:PE X c tc)
  (hm:lastMarks [op,op'] [b,c]=false:=by with_unfolding_all rfl):PE X (.Compare a [op,op'] [b,c] pos) (akx r r' ta tb tc):=by
 intro pins s σ H Q I h
 refine Compare_chain (thn (ha pins s σ H _ I h) fun v s1 ⟨x,H1,I1,r1,q1⟩=>chain_link (thn (hb pins s1 σ H1 _ I1 q1) fun u s2 ⟨y,H2,I2,r2,q2⟩ =>
  thn (ho pins s2 σ H2 x y v u _ I2 r1 r2 q2) fun d s3 ⟨z,H3,I3,r3,k,e,q3⟩=>?_)) hm
 subst e
 cases r3
 refine wpAny_truthy_bool ?_
 cases k with
 | false=>exact ite_ff ⟨.bl false,H3,I3,rfl,q3⟩
 | true=>exact ite_tt (chain_last (thn (hc pins s3 σ H3 _ I3 q3) fun w' s4 ⟨z',H4,I4,r4,q4⟩=>ho' pins s4 σ H4 y z' u w' Q I4 r2 r4 q4))
theorem ad0:(sizeLine:Nat) < 2 ^ 63:=by rw [sizeLine_eq]; decide
theorem aa0:OpR X (binaryOp .Add) (fun x y H Q=>∃ i j,x=.str i∧y=.str j∧i.length+j.length≤sizeLine∧Q (.str (i++j)) H):=by
 intro pins s σ H x y v u Q I rx ry h
 obtain ⟨i,j,rfl,rfl,hz,q⟩:=h
 obtain ⟨t,rfl⟩:=rx
 obtain ⟨t',rfl⟩:=ry
 exact add_str (fun t' tk=>⟨.str (i++j),H,I.tok _,⟨_,rfl⟩,q⟩) hz
theorem ada {x:V} {us:List Value} (r:Vals [x] us):∃ u,us=[u]∧RelV x u:=by
 cases r with
 | cons r1 r2=>cases r2; exact ⟨_,rfl,r1⟩
theorem akU {x y:V} {us:List Value} (r:Vals [x,y] us):∃ u w',us=[u,w']∧RelV x u∧RelV y w':=by
 cases r with
 | cons r1 r2 =>
  cases r2 with
  | cons r3 r4=>cases r4; exact ⟨_,_,rfl,r1,r3⟩
theorem aey:ac4 X (.builtin "abs") (fun xs H Q=>∃ i,xs=[.int i]∧Q (.int (if i < 0 then -i else i)) H):=by
 intro pins s σ H xs us Q I r h
 obtain ⟨i,rfl,q⟩:=h
 obtain ⟨u,rfl,t,rfl⟩:=ada r
 exact call_abs_int fun u tk=>⟨.int (if i < 0 then -i else i),H,I.tok _,⟨_,rfl⟩,q⟩
theorem ac8:ac4 X (.type "str") (fun xs H Q=>∃ i,xs=[.int i]∧i.natAbs.log2 < 1920∧Q (.str (toString i)) H):=by
 intro pins s σ H xs us Q I r h
 obtain ⟨i,rfl,hz,q⟩:=h
 obtain ⟨u,rfl,t,rfl⟩:=ada r
 exact PySem.P.str_of_int hz ⟨.str _,H,I.tok _,⟨_,rfl⟩,q⟩
end
end L2
namespace L2
open PySem PySem.Spec PyProof.Rows
structure ObjM (h:Heap) (x dx C:Addr) (mA:Str→Option Value):Prop where
 obj:h.get? x=some (PySem.W.instObj C dx)
 ns:h.Ns1 dx mA
 ne:dx≠x
theorem agK {h:Heap} {dx:Addr} {mA:Str→Option Value} (n:h.Ns1 dx mA):∃ od,h.get? dx=some od∧∀ name,PySem.W.lookIn name od=some (mA name):=by
 obtain ⟨o,es,ep,ho,hd,hk,_,hm⟩:=n
 refine ⟨o,ho,fun name=>?_⟩
 have e:=hm name
 unfold nsFind findBy at e
 rw [← Array.find?_toList] at e
 unfold PySem.W.lookIn
 rw [hd]
 dsimp only
 split
 ·rename_i y q
  rw [q] at e
  exact congrArg some e
 ·rename_i q
  rw [q] at e
  have a:es.toList.any (·.refKey)=false:=by
   rw [List.any_eq_false]
   intro y hy
   obtain ⟨z,t,hkey⟩:=hk y (Array.mem_toList_iff.mp hy)
   simp [DictEntry.refKey,hkey]
  have a':¬ es.toList.any (·.refKey)=true:=by rw [a]; exact Bool.false_ne_true
  rw [if_neg a']
  exact congrArg some e
theorem ObjM.look {h:Heap} {x dx C:Addr} {mA:Str→Option Value} (I:ObjM h x dx C mA):∃ od,PySem.W.InstAt h x (PySem.W.instObj C dx) C (some od)∧∀ name,PySem.W.lookIn name od=some (mA name) :=
 let ⟨od,ho,hl⟩:=agK I.ns
 ⟨od,⟨I.obj,rfl,rfl,ho⟩,hl⟩
section
variable {prog:Program} {w:World} {A:Around} {E:Value→Shared→Prop} {s:Shared} {K:PySem.W.Frag} {x dx C f:Addr} {mA:Str→Option Value} {name:Str} {v:Value}
end
section
variable {P:Program} {w:World} {H H':Hp} {h h':Heap} {a C dx:Addr} {fs fs':List (Str × V)}
theorem ajd (hok:HOk P w H h) (e:H a=some (.ins C dx fs)):∃ mA,ObjM h a dx C mA∧(∀ f,RelO (fs.lookup f) (mA f))∧PySem.Within mA (fs.map (·.1))∧fs.length≤1000∧H dx=some (.own a):=by
 obtain ⟨d,z,ne,ob,mA,n,r,q⟩:=(show abQ P w H h a (.ins C dx fs) from hok a _ e)
 exact ⟨mA,⟨ob,n,ne⟩,r,q,z,d⟩
end
structure Cls (K:PySem.W.Frag) (C:Addr):Prop where
 pg:PySem.W.plainGet K C Str.empty=true
 hd:PySem.W.hasDictIn K C=true
 po:PySem.W.plainOver K C=true
 sa:PySem.W.findIn K (.ref C) "__setattr__"=some (some (.builtin "object.__setattr__"))
theorem Cls.get {K:PySem.W.Frag} {C:Addr} (c:Cls K C) (f:Str):PySem.W.plainGet K C f=true:=c.pg
section
variable {X:Cx} {pins:List (Addr × Obj)} {σ:St} {H:Hp} {s:Shared} {a C dx:Addr} {fs:List (Str × V)} {f:Str} {v:V} {A:Around} {E:Value→Shared→Prop}
end
section
variable {X:Cx} {o e value:Expr} {f:Str} {pos pos' tpos:Pos} {ta tv:TE}
end
section
variable {X:Cx} {pins:List (Addr × Obj)} {σ:St} {H:Hp} {s:Shared} {A:Around} {E:Value→Shared→Prop} {Q:Value→Shared→Prop} {c:Value} {b:Bool}
inductive TyOf (K:PySem.W.Frag) (H:Hp):V→Value→Prop where
 | non:TyOf K H .non (.type "NoneType")
 | bl (x:Bool):TyOf K H (.bl x) (.type "bool")
 | int (i:Int):TyOf K H (.int i) (.type "int")
 | str (x:Str):TyOf K H (.str x) (.type "str")
 | flt (x:UInt64):TyOf K H (.flt x) (.type "float")
 | lst {a:Addr} {xs:List V} (e:H a=some (.lst xs)):TyOf K H (.ref a) (.type "list")
 | frz {a:Addr} {o:Obj} {xs:List V} (e:H a=some (.frz o (.lst xs))):TyOf K H (.ref a) (.type "list")
 | tup {a:Addr} {xs:List V} (e:H a=some (.tup xs)):TyOf K H (.ref a) (.type "tuple")
 | dK {a:Addr} {kvs:List (Key × V)} (e:H a=some (.dK kvs)):TyOf K H (.ref a) (.type "dict")
 | dT {a:Addr} {kvs:List (List Key × V)} (e:H a=some (.dT kvs)):TyOf K H (.ref a) (.type "dict")
 | ins {a C dx:Addr} {fs:List (Str × V)} (e:H a=some (.ins C dx fs)) (cl:Cls K C) (ha:PySem.W.findIn K (.ref C) "__class__"=some (some (.builtin "object.__class__")))
   (hn:PySem.W.specialIn K (.builtin "object.__class__") "__get__"=some (some (.builtin "getset_descriptor.__get__"))) (htk:PySem.W.takesIn K (.builtin "object.__class__")=some true)
   (hm:PySem.W.mroIn K C (.type "object")=some true):TyOf K H (.ref a) (.ref C)
theorem ahr {x:V} {u t:Value} (I:Inv X pins σ H s) (rx:RelV x u) (ty:TyOf X.K H x t) (e:PySem.W.kitOne X.K t c=some b) (h:∀ tk,Q (.bool b) { s with toks:=tk }) :
  wpAny (model X.prog X.w) A (call (.builtin "isinstance") [u,c]) Q E s:=by
 cases ty with
 | non=>cases (show u=Value.none from rx); exact PySem.W.kia_one PySem.W.kitx_none I.kIn True.intro e (fun z=>nomatch z) h
 | bl y=>cases (show u=Value.bool y from rx); exact PySem.W.kia_one PySem.W.kitx_bool I.kIn True.intro e (fun z=>nomatch z) h
 | int i=>obtain ⟨t,q⟩:=(show ∃ t,u=Value.int i t from rx); cases q; exact PySem.W.kia_one PySem.W.kitx_int I.kIn True.intro e (fun z=>nomatch z) h
 | str y=>obtain ⟨t,q⟩:=(show ∃ t,u=Value.str y t from rx); cases q; exact PySem.W.kia_one PySem.W.kitx_str I.kIn True.intro e (fun z=>nomatch z) h
 | flt y=>obtain ⟨t,q⟩:=(show ∃ t,u=Value.float y t from rx); cases q; exact PySem.W.kia_one PySem.W.kitx_float I.kIn True.intro e (fun z=>nomatch z) h
 | @lst a xs ea =>
  cases (show u=Value.ref a from rx)
  obtain ⟨_,_,n,_,h1⟩:=(show abQ X.prog X.w H s.heap a (.lst xs) from I.hok a _ ea)
  exact PySem.W.kia_one PySem.W.kitx_list I.kIn ⟨_,h1,rfl⟩ e (fun z=>nomatch z) h
 | @frz a ob xs ea =>
  cases (show u=Value.ref a from rx)
  obtain ⟨_,_,_,n,_,h1⟩:=(show abQ X.prog X.w H s.heap a (.frz ob (.lst xs)) from I.hok a _ ea)
  exact PySem.W.kia_one PySem.W.kitx_list I.kIn ⟨_,h1,rfl⟩ e (fun z=>nomatch z) h
 | @tup a xs ea =>
  cases (show u=Value.ref a from rx)
  obtain ⟨_,_,_,p⟩:=(show abQ X.prog X.w H s.heap a (.tup xs) from I.hok a _ ea)
  obtain ⟨o,h1,h2,_⟩:=p
  exact PySem.W.kia_one PySem.W.kitx_tuple I.kIn ⟨o,h1,h2⟩ e (fun z=>nomatch z) h
 | @dK a kvs ea =>
  cases (show u=Value.ref a from rx)
  obtain ⟨_,_,vs,_,p⟩:=(show abQ X.prog X.w H s.heap a (.dK kvs) from I.hok a _ ea)
  obtain ⟨o,es,ep,h1,h2,_⟩:=p
  exact PySem.W.kia_one PySem.W.kitx_dict I.kIn ⟨o,h1,h2.1⟩ e (fun z=>nomatch z) h
 | @dT a kvs ea =>
  cases (show u=Value.ref a from rx)
  obtain ⟨_,_,xs,_,o,es,ep,h1,h2,_⟩:=(show abQ X.prog X.w H s.heap a (.dT kvs) from I.hok a _ ea)
  exact PySem.W.kia_one PySem.W.kitx_dict I.kIn ⟨o,h1,h2.1⟩ e (fun z=>nomatch z) h
 | @ins a C dx fs ea cl ha hn htk hm =>
  cases (show u=Value.ref a from rx)
  obtain ⟨mA,O,_⟩:=ajd I.hok ea
  obtain ⟨od,J,_⟩:=O.look
  exact PySem.W.kia_one (PySem.W.kitx_own (cl.get _) cl.hd ha hn htk hm) I.kIn J e (fun z=>nomatch z) h
end
end L2
namespace L2
open PySem PySem.Spec PyProof.Rows
structure Room (k:Nat) (A:Around):Prop where
 hd:A.handled=none
 dp:A.depth+3*k+5 < recursionLimit
 un:A.units+16*k+200 < cLine
theorem Room.mono {j k:Nat} {A:Around} (r:Room k A) (h:j≤k):Room j A:=⟨r.hd,by have:=r.dp; omega,by have:=r.un; omega⟩
theorem Room.deeper {k:Nat} {A:Around} (r:Room (k+1) A) (env:Env):Room k (A.deeper env) :=
 ⟨r.hd,by have:=r.dp; show A.depth+1+3*k+5 < _; omega,by have:=r.un; show A.units+3+16*k+200 < _; omega⟩
theorem Room.depth {k:Nat} {A:Around} (r:Room k A):A.depth < recursionLimit:=by have:=r.dp; omega
theorem Room.units {k:Nat} {A:Around} (r:Room k A):A.units+64 < cLine:=by have:=r.un; omega
def tNil:TA:=fun _ H Q=>Q [] H
def aly (ta:TE) (tr:TA):TA:=fun σ H Q=>ta σ H fun x H1=>tr σ H1 fun xs H2=>Q (x :: xs) H2
section
variable {X:Cx} {e:Expr} {es:List Expr} {te:TE} {t:TA} {pos:Pos}
theorem adI:PA X [] tNil:=fun _ _ _ _ H Q I h=>Calls.spliced_nil ⟨[],H,I,.nil,h⟩
theorem abq (ha:PE X e te) (hr:PA X es t) (hs:starEach (e :: es) X.env=(false,eval e X.env) :: starEach es X.env:=by rfl):PA X (e :: es) (aly te t):=by
 intro pos pins s σ H Q I h
 rw [hs]
 show wpAny _ _ (spliced ((false,eval e X.env) :: backTo pos (starEach es X.env))) _ _ s
 refine Calls.spliced_cons (thn (ha pins s σ H _ I h) fun u s1 ⟨x,H1,I1,r1,q1⟩=>?_)
 exact thn (hr pos pins s1 σ H1 _ I1 q1) fun us s2 ⟨xs,H2,I2,r2,q2⟩=>⟨x :: xs,H2,I2,.cons r1 r2,q2⟩
def tTup (t:TA):TE:=fun σ H Q=>t σ H fun xs H1=>xs.length≤sizeLine∧∀ p,H1 p=none→Q (.ref p) (upd H1 p (.tup xs))
def tLst (t:TA):TE:=fun σ H Q=>t σ H fun xs H1=>xs.length≤sizeLine∧∀ p,H1 p=none→Q (.ref p) (upd H1 p (.lst xs))
theorem aiJ {x1} (h:PA X es t):PE X (.Tuple es x1 pos) (tTup t):=by
 intro pins s σ H Q I hq
 refine wpAny_Tuple_spliced (thn (h pos pins s σ H _ I hq) fun us s1 ⟨xs,H1,I1,r,z,q⟩=>⟨by rw [← r.length]; exact z,?_⟩)
 have hf:H1 s1.heap.objs.size=none:=I1.hok.fresh (Nat.le_refl _)
 refine ⟨.ref s1.heap.objs.size,upd H1 s1.heap.objs.size (.tup xs),I1.laid (t':=s1.toks) (fun b u e=>Heap.get?_push_of_some _ e) (Nat.le_refl _) ?_,rfl,q _ hf⟩
 exact ⟨z,us,r,⟨_,Heap.get?_push_size _ rfl,rfl,_,rfl⟩⟩
theorem aiB (h:PA X es t):PE X (.List es pos) (tLst t):=by
 intro pins s σ H Q I hq
 refine wpAny_List_spliced (thn (h pos pins s σ H _ I hq) fun us s1 ⟨xs,H1,I1,r,z,q⟩=>⟨by rw [← r.length]; exact z,?_⟩)
 have hf:H1 s1.heap.objs.size=none:=I1.hok.fresh (Nat.le_refl _)
 refine ⟨.ref s1.heap.objs.size,upd H1 s1.heap.objs.size (.lst xs),I1.laid (t':=s1.toks) (fun b u e=>Heap.get?_push_of_some _ e) (Nat.le_refl _) ?_,rfl,q _ hf⟩
 exact ⟨z,us,0,r,Heap.get?_push_size _ rfl⟩
end
abbrev Sp:=List V→Hp→VK→XK→Prop
abbrev CXT:=List Env→Hp→Shared→XK→Value→Shared→Prop
structure Env0 (P:Program) (w:World) (K:PySem.W.Frag) (mg:Str→Option Value) (base:Heap) (A:Around) (outer:List Env) (s:Shared) (H:Hp):Prop where
 frames:A.frames=some outer
 mod:Mod K mg base
 bs:∀ b o,base.get? b=some o→s.heap.get? b=some o∧H b=none
 bsz:base.objs.size≤s.heap.objs.size
 funs:s.heap.FunFrames base outer
 frf:∀ b∈frs outer,H b=none
 hok:HOk P w H s.heap
 bare:AllBare s.gens
def CE (outer:List Env) (P:Program) (w:World) (H:Hp) (s:Shared) (Q:VK) (u:Value) (s':Shared):Prop :=
 ∃ v H',s'.os=s.os∧AllBare s'.gens∧Un (frs outer) [] H H' s.heap s'.heap∧HOk P w H' s'.heap∧RelV v u∧Q v H'
def CR (CX:CXT) (outer:List Env) (P:Program) (w:World) (H:Hp) (s:Shared) (Q:VK) (E:XK) (r:Result) (s':Shared):Prop :=
 match r with
 | .ok (.ret u)=>CE outer P w H s Q u s'
 | .ok _=>False
 | .error e=>CX outer H s E e s'
structure FnOk (P:Program) (w:World) (K:PySem.W.Frag) (mg:Str→Option Value) (base:Heap) (CX:CXT) (k:Nat) (f:Addr) (fd:FuncData) (ps:List Str) (sp:Sp):Prop where
 len:∀ vs H Q E,sp vs H Q E→vs.length=ps.length
 run:∀ (A:Around) (outer:List Env) (s:Shared) (H:Hp) (args:Args) (us:List Value) (vs:List V) (Q:VK) (E:XK),Room k A→Env0 P w K mg base A outer s H→BindsTo s fd args (ps.zip us)→Vals vs us→sp vs H Q E →
  codeAny (model P w) A (.call (.ref f) args) (CR CX outer P w H s Q E) s
theorem FnOk.imp {P:Program} {w:World} {K:PySem.W.Frag} {mg:Str→Option Value} {base:Heap} {CX:CXT} {k:Nat} {f:Addr} {fd:FuncData} {ps:List Str} {sp sp':Sp} (F:FnOk P w K mg base CX k f fd ps sp)
  (h:∀ vs H Q E,sp' vs H Q E→sp vs H Q E):FnOk P w K mg base CX k f fd ps sp' :=
 ⟨fun vs H Q E q=>F.len vs H Q E (h _ _ _ _ q),fun A outer s H args us vs Q E hr he hb hv hs=>F.run A outer s H args us vs Q E hr he hb hv (h _ _ _ _ hs)⟩
section
variable {X:Cx} {pins:List (Addr × Obj)} {σ:St} {H:Hp} {s s':Shared}
theorem Inv.env0 (I:Inv X pins σ H s):Env0 X.prog X.w X.K X.mg X.base X.A X.stack s H :=
 ⟨I.ok.frames,I.ok.mod,I.bs,Nat.le_trans I.ok.bsz I.sz,I.stack,I.stkFree,I.hok,I.bare⟩
theorem Inv.after {Q:VK} {u:Value} (I:Inv X pins σ H s) (h:CE X.stack X.prog X.w H s Q u s'):EP X pins σ Q u s':=by
 obtain ⟨v,H',os,bare,un,hok,r,q⟩:=h
 obtain ⟨hh,g,d,t,os'⟩:=s'
 obtain rfl:os'=s.os:=os
 exact ⟨v,H',I.call (h':=hh) (g':=g) (d':=d) (t':=t) (ch:=[]) un hok bare (fun b z=>absurd z (by simp)),r,q⟩
end
def alx (sp:Sp) (dvs:List V) (E:XK) (t:TA):TE:=fun σ H Q=>t σ H fun vs H1=>sp (vs++dvs) H1 Q E
def acb (K:PySem.W.Frag) (fd:FuncData) (ps:List Str) (ds:List Value):Prop :=
 ∀ (s:Shared) (us:List Value),K.In s.heap→(us++ds).length=ps.length→BindsTo s fd ⟨us,[]⟩ (ps.zip (us++ds))
theorem acb.all {K:PySem.W.Frag} {fd:FuncData} {ps:List Str} (h:∀ us:List Value,us.length=ps.length→bindArgs fd ⟨us,[]⟩=pure (ps.zip us)):acb K fd ps []:=fun s us _ hl=>by
 rw [List.append_nil] at hl ⊢
 exact .of_eq (h us hl)
def afG (CX:CXT) (X:Cx) (E:XK):Prop:=∀ (pins:List (Addr × Obj)) (σ:St) (H:Hp) (s:Shared) (e:Value) (s':Shared),Inv X pins σ H s→CX X.stack H s E e s'→X.xe e s'
section
variable {X:Cx} {CX:CXT} {k:Nat} {f C:Addr} {fd:FuncData} {ps:List Str} {sp:Sp} {dvs:List V} {ds:List Value} {E:XK} {x m:Str} {p pos apos:Pos} {e o:Expr} {es:List Expr} {ta:TE} {t:TA}
theorem ala {pins:List (Addr × Obj)} {σ:St} {H:Hp} {s:Shared} {Q:VK} {us:List Value} {vs:List V} (F:FnOk X.prog X.w X.K X.mg X.base CX k f fd ps sp) (hr:Room k X.A) (hb:acb X.K fd ps ds) (hd:Vals dvs ds) (hx:afG CX X E)
  (I:Inv X pins σ H s) (r:Vals vs us) (h:sp (vs++dvs) H Q E):wpAny (model X.prog X.w) X.A (call (.ref f) us) (EP X pins σ Q) X.xe s:=by
 have r2:Vals (vs++dvs) (us++ds):=r.append hd
 have hl:(us++ds).length=ps.length:=by rw [← r2.length]; exact F.len _ _ _ _ h
 refine wpAny_call (codeAny_mono (F.run X.A X.stack s H ⟨us,[]⟩ (us++ds) (vs++dvs) Q E hr I.env0 (hb s us I.kIn hl) r2 h) fun r s' hq=>?_)
 cases r with
 | error e=>exact hx pins σ H s e s' I hq
 | ok fl =>
  cases fl with
  | ret u=>exact I.after hq
  | next=>exact False.elim hq
  | brk=>exact False.elim hq
  | cont=>exact False.elim hq
theorem afl (F:FnOk X.prog X.w X.K X.mg X.base CX k f fd ps sp) (hr:Room k X.A) (hg:Gl X x) (hm:X.mg x=some (.ref f)) (hk:PySem.W.keepIn X.K (.ref f)=true) (hb:acb X.K fd ps ds) (hd:Vals dvs ds) (hx:afG CX X E)
  (ha:PA X (e :: es) t) (hdb:(x == ("__debug__":Str))=false:=by decide) (he:starEach (e :: es) X.env=(false,eval e X.env) :: starEach es X.env:=by rfl) (hpl:(backTo pos (starEach es X.env)).any (·.1)=false:=by rfl) :
  PE X (.Call (.Name x p) (e :: es) [] pos) (alx sp dvs E t):=by
 intro pins s σ H Q I h
 refine wpAny_Call_Name_kw (adB I hg hm ?_ hdb)
 refine PySem.W.callWith_K (h₀:=X.base) I.ok.mod.kin hk (thn (ha pos pins s σ H _ I h) fun us s1 ⟨vs,H1,I1,r,q⟩=>⟨I1.kIn,?_⟩) he hpl
 exact ala F hr hb hd hx I1 r q
end
section
variable {X:Cx} {CX:CXT} {k:Nat} {f C:Addr} {fd:FuncData} {ps ks:List Str} {sp:Sp} {E:XK} {x m:Str} {p pos apos kpos:Pos} {e o:Expr} {es:List Expr} {kws:List Keyword} {te ta:TE} {t tk:TA} {nm:Option Str}
variable {g:List Value→List Value→List Value} {gV:List V→List V→List V}
end
structure aaG (N P:List Str) (sc:Scope):Prop where
 kind:sc.kind=.function
 co:sc.isCoroutine=false
 gen:sc.isGenerator=false
 nd:N.Nodup
 pre:N.take P.length=P
 par:∀ x∈P,sc.names.lookup x=some .local∨sc.names.lookup x=some .cell
 nofree:∀ y∈sc.names,y.2≠.free
theorem afd {kindOf:Str→Option NameKind} {x:Str}:∀ {binds:List (Str × Value)} {m:Str→Option Value},(∀ v,(x,v) ∉ binds)→bindL kindOf binds m x=m x
 | [],_,_=>rfl
 | (n,v) :: r,m,h=>by
  unfold bindL
  rw [afd fun w hw=>h w (List.mem_cons_of_mem _ hw)]
  split
  ·have:x≠n:=by rintro rfl; exact h v List.mem_cons_self
   simp [this]
  ·rfl
theorem ae1 {kindOf:Str→Option NameKind} {x:Str}:∀ {binds:List (Str × Value)} {m:Str→Option Value},(∀ v,(x,v) ∉ binds)→bindC kindOf binds m x=m x
 | [],_,_=>rfl
 | (n,v) :: r,m,h=>by
  unfold bindC
  rw [ae1 fun w hw=>h w (List.mem_cons_of_mem _ hw)]
  split
  ·rfl
  ·have:x≠n:=by rintro rfl; exact h v List.mem_cons_self
   simp [this]
theorem aeJ {kindOf:Str→Option NameKind} {x:Str} {v:Value}:∀ {P:List Str} {vs:List Value} {i:Nat} {m:Str→Option Value},P.Nodup→P[i]?=some x→vs[i]?=some v→kindOf x=some .local →
  bindL kindOf (P.zip vs) m x=some v
 | [],_,_,_,_,h,_,_=>by simp at h
 | _ :: _,[],_,_,_,_,h,_=>by simp at h
 | p :: P,w :: vs,0,m,nd,h1,h2,hk=>by
  simp at h1 h2; subst h1; subst h2
  show bindL kindOf ((p,w) :: P.zip vs) m p=_
  unfold bindL
  rw [afd fun v hv=>(List.nodup_cons.mp nd).1 (List.of_mem_zip hv).1,if_pos hk]
  simp
 | p :: P,w :: vs,i+1,m,nd,h1,h2,hk=>by
  show bindL kindOf ((p,w) :: P.zip vs) m x=_
  unfold bindL
  exact aeJ (i:=i) (List.nodup_cons.mp nd).2 (by simpa using h1) (by simpa using h2) hk
theorem aeZ {kindOf:Str→Option NameKind} {x:Str} {v:Value}:∀ {P:List Str} {vs:List Value} {i:Nat} {m:Str→Option Value},P.Nodup→P[i]?=some x→vs[i]?=some v→kindOf x≠some .local →
  bindC kindOf (P.zip vs) m x=some v
 | [],_,_,_,_,h,_,_=>by simp at h
 | _ :: _,[],_,_,_,_,h,_=>by simp at h
 | p :: P,w :: vs,0,m,nd,h1,h2,hk=>by
  simp at h1 h2; subst h1; subst h2
  show bindC kindOf ((p,w) :: P.zip vs) m p=_
  unfold bindC
  rw [ae1 fun v hv=>(List.nodup_cons.mp nd).1 (List.of_mem_zip hv).1,if_neg hk]
  simp
 | p :: P,w :: vs,i+1,m,nd,h1,h2,hk=>by
  show bindC kindOf ((p,w) :: P.zip vs) m x=_
  unfold bindC
  exact aeZ (i:=i) (List.nodup_cons.mp nd).2 (by simpa using h1) (by simpa using h2) hk
def start (N:List Str) (vs:List V):St:=vs.map some++List.replicate (N.length - vs.length) none
def cxOf (CX:CXT) (P:Program) (w:World) (K:PySem.W.Frag) (mg:Str→Option Value) (base:Heap) (N:List Str) (qual:Str) (scope:Scope) (f:Addr) (cd:Value) (A:Around) (outer:List Env) (s:Shared) (H:Hp) (E:XK):Cx where
 prog:=P
 w:=w
 K:=K
 mg:=mg
 base:=base
 A:=A.deeper (envOfC qual scope s.heap.objs.size f cd)
 N:=N
 s₀:=s
 H₀:=H
 env:=envOfC qual scope s.heap.objs.size f cd
 outer:=outer
 stack:=envOfC qual scope s.heap.objs.size f cd :: outer
 ex:=[]
 calm:=true
 fn:=fun _=>true
 pn:=[]
 xe:=fun e s'=>wpAny (model P w) (A.deeper (envOfC qual scope s.heap.objs.size f cd)) (leaving (envOfC qual scope s.heap.objs.size f cd) e) (fun _ s''=>CX outer H s E e s'') (fun e' s''=>CX outer H s E e' s'') s'
theorem af7 {sc:Scope} {n:Nat} {x:Str} (h:sc.names.lookup x=some .cell):∃ c,(cellsFrom n sc.names []).lookup x=some c:=by
 have q:=PySem.W.cellsFrom_some sc.names n [] (.inl h)
 exact Option.isSome_iff_exists.mp q
theorem ahI {CX:CXT} {P:Program} {w:World} {K:PySem.W.Frag} {mg:Str→Option Value} {base:Heap} {N ps:List Str} {qual:Str} {scope:Scope} {f:Addr} {cd:Value} {A:Around} {outer:List Env} {s s1:Shared} {H:Hp} {E:XK} {us:List Value} {vs:List V}
  (S:aaG N ps scope) (hd:A.handled=none) (e0:Env0 P w K mg base A outer s H) (hl:vs.length=ps.length) (r:Vals vs us)
  (x:InCallC s s.heap.objs.size (bindL (envOfC qual scope s.heap.objs.size f cd).kindOf (ps.zip us) fun _=>none) (cellsFrom (s.heap.objs.size+1) scope.names []) (bindC (envOfC qual scope s.heap.objs.size f cd).kindOf (ps.zip us) fun _=>none) s1) :
  Inv (cxOf CX P w K mg base N qual scope f cd A outer s H E) [] (start N vs) H s1:=by
 have hpl:ps.length≤N.length:=by have:=congrArg List.length S.pre; rw [List.length_take] at this; omega
 obtain ⟨h1,tk,rfl,hk⟩:=x.done
 have noA:∀ b:Addr,b ∉ (cxOf CX P w K mg base N qual scope f cd A outer s H E).ex:=fun b z=>absurd (show b∈([]:List Addr) from z) (by simp)
 refine ⟨⟨e0.mod,S.kind,rfl,rfl,Nat.le_refl _,fun y z c h1 h2=>?_,fun y hy=>?_,fun y c _ h=>?_,fun _=>hd,Around.frames_deeper e0.frames,.inr ⟨rfl,rfl⟩,fun b z=>absurd z (noA b),e0.bs,e0.bsz,fun b _ _=>noA b,fun b z=>absurd z (noA b),e0.funs,e0.frf⟩,
  rfl,e0.bare,Un.kept hk,⟨_,x.toInCall.ns,fun i y v h1 h2 h3=>?_⟩,fun y c h=>⟨_,x.cell y c h⟩,e0.hok.fresh (Nat.le_refl _),fun y c h=>?_,fun p hp=>absurd (show p∈([]:List (Addr × Obj)) from hp) (by simp),e0.hok.kept hk,?_⟩
 ·exact name_of_addr x.apart (PySem.mem_of_lookup h1) (PySem.mem_of_lookup h2)
 ·have hy:scope.names.lookup y=some .cell∨scope.names.lookup y=some .free:=hy
  rcases hy with hy | hy
  ·exact af7 hy
  ·exact absurd rfl (S.nofree _ (PySem.mem_of_lookup hy))
 ·exact Nat.le_of_lt (x.above y c (PySem.mem_of_lookup h))
 ·have hi:i < vs.length:=by
   unfold start at h2
   by_cases hi:i < vs.length
   ·exact hi
   ·rw [List.getElem?_append_right (by simpa using hi)] at h2
    rw [List.getElem?_replicate] at h2
    split at h2 <;> cases h2
  have ha:vs[i]?=some v:=by
   unfold start at h2
   rw [List.getElem?_append_left (by simpa using hi),List.getElem?_map] at h2
   cases e:vs[i]? with
   | none=>rw [e] at h2; cases h2
   | some a=>rw [e] at h2; cases h2; rfl
  obtain ⟨u,hu,rv⟩:=r.get ha
  have hp:ps[i]?=some y:=by
   rw [← S.pre,List.getElem?_take_of_lt (by omega)]; exact h1
  have ndP:ps.Nodup:=by rw [← S.pre]; exact S.nd.sublist (List.take_sublist _ _)
  refine ⟨u,rv,?_⟩
  rcases S.par y (List.mem_of_getElem? hp) with k | k
  ·exact .inl ⟨k,aeJ ndP hp hu k⟩
  ·obtain ⟨c,e⟩:=af7 (n:=s.heap.objs.size+1) k
   refine .inr ⟨.inl k,c,e,?_⟩
   have q:=x.cell y c e
   rw [aeZ ndP hp hu (by show scope.names.lookup y≠_; rw [k]; decide)] at q
   exact q
 ·exact e0.hok.fresh (Nat.le_of_lt (x.above y c (PySem.mem_of_lookup h)))
 ·unfold start
  show _=N.length
  rw [List.length_append,List.length_map,List.length_replicate]
  omega
theorem ajq {CX:CXT} {P:Program} {w:World} {K:PySem.W.Frag} {mg:Str→Option Value} {base:Heap} {k:Nat} {f:Addr} {name qual:Str} {params:Arguments} {body:List Stmt} {scope:Scope} {dV kV doc pm cdv ct oc:Value} {an od:Option Addr}
  {osl:Array (Option Value)} {N ps:List Str} {sp:Sp} (lk:K.lookup f=some ⟨oc,od,.func (PySem.W.fnOf name qual params body scope dV kV doc pm an cdv ct),osl⟩) (hcd:PySem.W.codeIn K cdv qual=true) (S:aaG N ps scope)
  (len:∀ vs H Q E,sp vs H Q E→vs.length=ps.length)
  (hbody:∀ (A:Around) (outer:List Env) (s:Shared) (H:Hp) (vs:List V) (Q:VK) (E:XK),Room k (A.deeper (envOfC qual scope s.heap.objs.size f cdv))→sp vs H Q E →
   ∃ t,PSs (cxOf CX P w K mg base N qual scope f cdv A outer s H E) body t∧t { nx:=fun _ H'=>Q .non H',rt:=Q } (start N vs) H) :
  FnOk P w K mg base CX (k+1) f (PySem.W.fnOf name qual params body scope dV kV doc pm an cdv ct) ps sp:=by
 refine ⟨len,fun A outer s H args us vs Q E hr e0 hb r hsp=>?_⟩
 have hl:=len _ _ _ _ hsp
 have KX:K.In s.heap:=e0.mod.kin.keeps fun b o e=>(e0.bs b o e).1
 have lim:s.heap.NoLimit:=e0.mod.nolimit.keeps fun b o e=>(e0.bs b o e).1
 have hkind:∀ y∈ps.zip us,scope.names.lookup y.1=some .local∨(scope.names.lookup y.1=some .cell∧((cellsFrom (s.heap.objs.size+1) scope.names []).lookup y.1).isSome=true):=fun ⟨n,v⟩ hy=>by
  rcases S.par n (List.of_mem_zip hy).1 with q | q
  ·exact .inl q
  ·exact .inr ⟨q,PySem.W.cellsFrom_some _ _ _ (.inl q)⟩
 refine codeAny_call_function hr.depth (KX _ _ lk) rfl S.co S.gen rfl (PySem.W.codeRec_of KX hcd) (hb _ _ _ _ ?_)
 refine wpAny_newFunctionEnv_cells S.kind hkind fun env he s1 x=>?_
 subst he
 refine ⟨lim.keeps x.toInCall.keep,codeAny_func ?_⟩
 obtain ⟨t,ht,hq⟩:=hbody A outer s H vs Q E (hr.deeper _) hsp
 have I:Inv (cxOf CX P w K mg base N qual scope f cdv A outer s H E) [] (start N vs) H s1:=ahI S hr.hd e0 hl r x
 refine wpAny_mono (ht [] s1 (start N vs) H _ I hq) (fun fl s' hs=>?_) fun e s' hs=>hs
 have fin:∀ {σ':St} {H':Hp} {v:V} {u:Value},Inv (cxOf CX P w K mg base N qual scope f cdv A outer s H E) [] σ' H' s'→RelV v u→Q v H'→CE outer P w H s Q u s' :=
  fun {σ' H' v u} J rv q=>⟨v,H',J.os,J.bare,J.base,J.hok,rv,q⟩
 cases fl with
 | ret u =>
  obtain ⟨v,σ',H',J,rv,q⟩:=hs
  exact fin J rv q
 | next =>
  obtain ⟨σ',H',J,q⟩:=hs
  exact fin (v:=V.non) (u:=Value.none) J rfl q
 | brk =>
  obtain ⟨_,_,_,q⟩:=hs
  exact False.elim q
 | cont =>
  obtain ⟨_,_,_,q⟩:=hs
  exact False.elim q
end L2
namespace L2
open PySem PySem.Spec PyProof.Rows
section
variable {X:Cx} {x:Str} {p pos:Pos} {e:Expr} {es:List Expr} {t:TA} {id T:String} {r:List V→Hp→VK→Prop}
def tCB (r:List V→Hp→VK→Prop) (t:TA):TE:=fun σ H Q=>t σ H fun vs H1=>r vs H1 Q
theorem acK (hc:ac4 X (.builtin id) r) (hg:Gl X x) (hm:X.mg x=none) (hv:bootBuiltins x=some (.builtin id)) (ha:PA X (e :: es) t) (hn:x≠"__name__":=by decide) (hdb:(x == ("__debug__":Str))=false:=by decide)
  (he:starEach (e :: es) X.env=(false,eval e X.env) :: starEach es X.env:=by rfl) (hpl:(backTo pos (starEach es X.env)).any (·.1)=false:=by rfl):PE X (.Call (.Name x p) (e :: es) [] pos) (tCB r t):=by
 intro pins s σ H Q I h
 refine wpAny_Call_Name_kw (aeF I hg hm hv ?_ hn hdb)
 exact PyProof.Rows.callWith_builtin1 (thn (ha pos pins s σ H _ I h) fun us s1 ⟨vs,H1,I1,r1,q1⟩=>hc pins s1 σ H1 vs us Q I1 r1 q1) he hpl
theorem agu (hc:ac4 X (.type T) r) (hg:Gl X x) (hm:X.mg x=none) (hv:bootBuiltins x=some (.type T)) (ha:PA X (e :: es) t) (hn:x≠"__name__":=by decide) (hdb:(x == ("__debug__":Str))=false:=by decide)
  (he:starEach (e :: es) X.env=(false,eval e X.env) :: starEach es X.env:=by rfl) (hpl:(backTo pos (starEach es X.env)).any (·.1)=false:=by rfl):PE X (.Call (.Name x p) (e :: es) [] pos) (tCB r t):=by
 intro pins s σ H Q I h
 refine wpAny_Call_Name_kw (aeF I hg hm hv ?_ hn hdb)
 exact PyProof.Rows.callWith_type1 (thn (ha pos pins s σ H _ I h) fun us s1 ⟨vs,H1,I1,r1,q1⟩=>hc pins s1 σ H1 vs us Q I1 r1 q1) he hpl
end
end L2
namespace HT
open PySem PyProof.Rows
section
open PySem.SeqAt
open PySem.AutoSeq1 (wpAny_loadPart')
open PySem.MeetsSeq PySem.MeetsSeq2 PySem.MeetsSeq3
end
section
variable {prog:Program} {w:World} {A:Around} {E:Value→Shared→Prop} {s:Shared}
theorem cat_tup {t b:Addr} {vs ws:List Value} {Q:Value→Shared→Prop} (ht:IsTup s.heap t vs.toArray) (hb:IsTup s.heap b ws.toArray) (hv:vs≠[])
  (h1:ws=[]→Q (.ref t) s) (h2:ws≠[]→Q (.ref s.heap.objs.size) { s with heap:=s.heap.push { cls:=.type "tuple",data:=.seq (vs++ws).toArray } })
  (hsz:vs.length+ws.length≤sizeLine):wpAny (model prog w) A (binaryOp .Add (.ref t) (.ref b)) Q E s:=by
 obtain ⟨⟨cls,dd,data,sl⟩,ho,hc,n,hd⟩:=id ht
 obtain ⟨⟨cls2,dd2,data2,sl2⟩,ho2,hc2,n2,hd2⟩:=id hb
 simp only at hc hd hc2 hd2
 subst hc hd hc2 hd2
 have e:vs.toArray++ws.toArray=(vs++ws).toArray:=by simp
 by_cases hw:ws=[]
 ·exact concat_meets ⟨_,ho,rfl⟩ ⟨_,ho2,rfl⟩ noFill_tuple_add seq_tuple_add PySem.F.slot_tuple_add PySem.F.entry_tuple_add (PySem.F.args_tuple_add_2 _ _)
   (tuple_addW1 t b vs.toArray ws.toArray n n2 dd dd2 sl sl2 (by simpa using hv) (by simp [hw])) ⟨ho,ho2,h1 hw⟩
 ·refine concat_meets ⟨_,ho,rfl⟩ ⟨_,ho2,rfl⟩ noFill_tuple_add seq_tuple_add PySem.F.slot_tuple_add PySem.F.entry_tuple_add (PySem.F.args_tuple_add_2 _ _)
   (tuple_addW2 t b vs.toArray ws.toArray n n2 dd dd2 sl sl2 (by simpa using hv) (by simpa using hw) (by rw [List.size_toArray,List.size_toArray]; exact hsz)) ⟨ho,ho2,?_⟩
  rw [e]
  exact h2 hw
def sIx (n d:Nat):Option Int→Nat
 | none=>d
 | some v=>if v < 0 then (v+(n:Int)).toNat else min v.toNat n
theorem sIx_nat (n d k:Nat):sIx n d (some (k:Int))=min k n:=by
 show (if (k:Int) < 0 then ((k:Int)+(n:Int)).toNat else min (k:Int).toNat n)=min k n
 rw [if_neg (by omega),Int.toNat_natCast]
theorem ak5 (n d:Nat) (hd:d≤n) (o:Option Int):sIx n d o≤n:=by
 cases o with
 | none=>exact hd
 | some v =>
  show (if v < 0 then (v+(n:Int)).toNat else min v.toNat n)≤n
  by_cases hv:v < 0
  ·rw [if_pos hv]; omega
  ·rw [if_neg hv]; exact Nat.min_le_right _ _
theorem agt (v:Int) (n d:Nat):(if v < 0 then max (v+(n:Int)) 0 else min v (n:Int))=((sIx n d (some v):Nat):Int):=by
 show (if v < 0 then max (v+(n:Int)) 0 else min v (n:Int))=(((if v < 0 then (v+(n:Int)).toNat else min v.toNat n):Nat):Int)
 by_cases hv:v < 0
 ·simp only [if_pos hv]; omega
 ·simp only [if_neg hv]; omega
theorem agm (lo hi:Option Int) (n:Nat):Builtin.Slice.sliceAdjust lo hi 1 (n:Int)=(((sIx n 0 lo:Nat):Int),((sIx n n hi:Nat):Int)):=by
 have h1:¬ ((1:Int) < 0):=by omega
 unfold Builtin.Slice.sliceAdjust
 simp only [h1,if_false]
 refine Prod.ext ?_ ?_
 ·cases lo with
  | none=>rfl
  | some v=>exact agt v n 0
 ·cases hi with
  | none=>rfl
  | some v=>exact agt v n n
theorem agc (i j:Nat):Builtin.Slice.slicePlaces (i:Int) (j:Int) 1=j - i:=by
 unfold Builtin.Slice.slicePlaces
 have h1:(1:Int) > 0:=by omega
 simp only [h1,if_true,Int.ediv_one]
 split <;> omega
theorem adY {v:Value} {o:Option Int} {Q:Option Int→Shared→Prop} (p:IsPart v o) (h:Q o s):wpAny (model prog w) A (Builtin.Slice.slicePartIndex v) Q E s:=by
 cases p with
 | none=>exact slicePart_none h
 | int i t=>exact slicePart_int h
theorem add {sl:Addr} {vl vu:Value} {lo hi:Option Int} {n:Nat} {Q:Int × Int × Nat→Shared→Prop} (hs:s.heap.IsSliceOf sl vl vu .none) (pl:IsPart vl lo) (pu:IsPart vu hi)
  (h:Q (((sIx n 0 lo:Nat):Int),1,sIx n n hi - sIx n 0 lo) s):wpAny (model prog w) A (Builtin.Slice.sliceApplied (.ref sl) (pure (n:Int))) Q E s:=by
 obtain ⟨os,hos,hcs,hds⟩:=id hs
 unfold Builtin.Slice.sliceApplied Builtin.Slice.sliceFields
 refine wpAny_bind (wpAny_bind (wpAny_field hos hds (x:=vl) rfl (wpAny_bind (wpAny_field hos hds (x:=vu) rfl (wpAny_bind (wpAny_field hos hds (x:=.none) rfl (wpAny_pure ?_)))))))
 refine wpAny_bind (slicePart_none ?_)
 show wpAny _ _ (if ((1:Int) == 0)=true then _ else _) _ _ s
 rw [if_neg (by decide)]
 refine wpAny_bind (adY pl (wpAny_bind (adY pu (wpAny_bind (wpAny_pure ?_)))))
 show wpAny _ _ (match Builtin.Slice.sliceAdjust lo hi 1 (n:Int) with | (lo,hi)=>pure (lo,(1:Int),Builtin.Slice.slicePlaces lo hi 1)) _ _ s
 rw [agm lo hi n]
 show wpAny _ _ (pure (((sIx n 0 lo:Nat):Int),(1:Int),Builtin.Slice.slicePlaces ((sIx n 0 lo:Nat):Int) ((sIx n n hi:Nat):Int) 1)) _ _ s
 rw [agc]
 exact wpAny_pure h
theorem aif (xs:Array Value) (i k:Nat):((List.range k).filterMap fun (m:Nat)=>xs[((i:Int)+(m:Int)*1).toNat]?).toArray=((xs.toList.drop i).take k).toArray:=by
 have e:(fun (m:Nat)=>xs[((i:Int)+(m:Int)*1).toNat]?)=fun m=>xs[i+m]?:=by
  funext m
  have:((i:Int)+(m:Int)*1).toNat=i+m:=by omega
  rw [this]
 rw [e]
 have:=pick_run xs i k
 rw [List.filterMap_map] at this
 have e2:((fun x=>xs[x]?) ∘ fun x=>i+x)=fun m=>xs[i+m]?:=rfl
 rw [e2] at this
 rw [this]
theorem getItem_tuple_cut {t sl:Addr} {items:Array Value} {vl vu:Value} {lo hi:Option Int} {Q:Value→Shared→Prop} (ht:IsTup s.heap t items) (hs:s.heap.IsSliceOf sl vl vu .none) (pl:IsPart vl lo) (pu:IsPart vu hi)
  (hw:¬ (sIx items.size 0 lo=0∧sIx items.size items.size hi=items.size))
  (h:Q (.ref s.heap.objs.size) { s with heap:=s.heap.push { cls:=.type "tuple",data:=.seq ((items.toList.drop (sIx items.size 0 lo)).take (sIx items.size items.size hi - sIx items.size 0 lo)).toArray } })
  (hsz:items.size≤sizeLine):wpAny (model prog w) A (getItem (.ref t) (.ref sl)) Q E s:=by
 have htake:sizeOk (.seq ((items.toList.drop (sIx items.size 0 lo)).take (sIx items.size items.size hi - sIx items.size 0 lo)).toArray):=by
  show ((items.toList.drop (sIx items.size 0 lo)).take (sIx items.size items.size hi - sIx items.size 0 lo)).toArray.size≤sizeLine
  rw [List.size_toArray,List.length_take,List.length_drop,Array.length_toList]
  omega
 have hj:sIx items.size items.size hi≤items.size:=ak5 _ _ (Nat.le_refl _) hi
 obtain ⟨os,hos,hcs,hds⟩:=id hs
 have hTs:s.TypeIs (.ref sl) "slice":=⟨os,hos,hcs⟩
 unfold getItem
 try with_reducible refine wpAny_holding ?_
 first | refine wpAny_bind (wpAny_pure ?_) | skip
 refine wpAny_bind (wpAny_sequenceKey ht.typeIs (by decide) ?_)
 refine wpAny_bind (wpAny_callSpecial?_slot (name:=Str.ofString "__getitem__") ht.typeIs PyProof.Rows.slot_tuple_getitem
  (wpAny_call_entry PyProof.Rows.slot_tuple_getitem ht.typeIs entry_tuple_getitem ?_ (args_tuple_getitem _ _)))
 show wpAny _ _ (Builtin.Tuple.tupleItemsOf (.ref t) >>= _) _ _ s
 refine wpAny_bind (tupleItemsOf_ ht ?_)
 refine wpAny_bind (wpAny_typeOf hTs ?_)
 rw [if_pos (by decide)]
 refine wpAny_bind (add hs pl pu ?_)
 have hno:¬ ((((sIx items.size 0 lo:Nat):Int) == 0 && (1:Int) == 1 && (sIx items.size items.size hi - sIx items.size 0 lo) == items.size)=true):=by
  intro q
  rw [Bool.and_eq_true,Bool.and_eq_true] at q
  have q1:((sIx items.size 0 lo:Nat):Int)=0:=eq_of_beq q.1.1
  have q2:sIx items.size items.size hi - sIx items.size 0 lo=items.size:=eq_of_beq q.2
  exact hw ⟨by omega,by omega⟩
 show wpAny _ _ (if (((sIx items.size 0 lo:Nat):Int) == 0 && (1:Int) == 1 && (sIx items.size items.size hi - sIx items.size 0 lo) == items.size)=true then _ else _) _ _ s
 rw [if_neg hno,aif]
 first
  | exact wpAny_bind (m:=Builtin.Tuple.tupleExact _) (wpAny_newObj_type (wpAny_pure ⟨_,rfl,wpAny_pure h⟩) htake)
  | exact wpAny_bind (m:=Builtin.Tuple.tupleExact _) (wpAny_newObj_type (wpAny_bind (wpAny_pure (wpAny_pure ⟨_,rfl,wpAny_pure h⟩))) htake)
  | exact wpAny_bind (wpAny_bind (m:=Builtin.Tuple.tupleExact _) (wpAny_newObj_type (wpAny_pure (wpAny_pure ⟨_,rfl,wpAny_pure h⟩)) htake))
  | exact wpAny_bind (wpAny_bind (m:=Builtin.Tuple.tupleExact _) (wpAny_newObj_type (wpAny_pure ⟨_,rfl,wpAny_pure h⟩) htake))
end
end HT
namespace L2
open PySem PySem.Spec PyProof.Rows
abbrev TO:=St→Hp→(Option Int→Hp→Prop)→Prop
def PO (X:Cx) (e:Option Expr) (t:TO):Prop :=
 ∀ (pins:List (Addr × Obj)) (s:Shared) (σ:St) (H:Hp) (Q:Option Int→Hp→Prop),Inv X pins σ H s→t σ H Q →
  wpAny (model X.prog X.w) X.A (evalPart e X.env) (fun u s'=>∃ o H',Inv X pins σ H' s'∧IsPart u o∧Q o H') X.xe s
def aiT:TO:=fun _ H Q=>Q none H
def alE (t:TE):TO:=fun σ H Q=>t σ H fun x H1=>∃ i,x=.int i∧Q (some i) H1
section
variable {X:Cx} {e:Expr} {te:TE} {lo hi:Option Expr} {tl th:TO} {pos p2:Pos}
theorem aj2:PO X none aiT:=by
 intro pins s σ H Q I h
 rw [evalPart_none]
 exact wpAny_pure ⟨none,H,I,.none,h⟩
theorem aja (h:PE X e te):PO X (some e) (alE te):=by
 intro pins s σ H Q I hw
 rw [evalPart_some]
 refine thn (h pins s σ H _ I hw) fun u s1 ⟨x,H1,I1,r1,q1⟩=>?_
 obtain ⟨i,rfl,q⟩:=q1
 obtain ⟨t,rfl⟩:=r1
 exact ⟨some i,H1,I1,.int i t,q⟩
def SlR (X:Cx) (r:V→Option Int→Option Int→Hp→VK→Prop):Prop :=
 ∀ (pins:List (Addr × Obj)) (s:Shared) (σ:St) (H:Hp) (x:V) (v vl vu:Value) (lo hi:Option Int) (sl:Addr) (Q:VK),Inv X pins σ H s→RelV x v→s.heap.IsSliceOf sl vl vu .none→IsPart vl lo→IsPart vu hi→r x lo hi H Q →
  ∃ T id,typeLookup (.type T) "__getitem__"=pure (some (.builtin id))∧s.TypeIs v T∧wpAny (model X.prog X.w) X.A (getItem v (.ref sl)) (EP X pins σ Q) X.xe s
theorem SlR.or {r r':V→Option Int→Option Int→Hp→VK→Prop} (h:SlR X r) (h':SlR X r'):SlR X (fun x lo hi H Q=>r x lo hi H Q∨r' x lo hi H Q):=by
 intro pins s σ H x v vl vu lo hi sl Q I rx hs pl pu q
 rcases q with q | q
 ·exact h pins s σ H x v vl vu lo hi sl Q I rx hs pl pu q
 ·exact h' pins s σ H x v vl vu lo hi sl Q I rx hs pl pu q
def tSl (r:V→Option Int→Option Int→Hp→VK→Prop) (te:TE) (tl th:TO):TE:=fun σ H Q=>te σ H fun x H1=>tl σ H1 fun l H2=>th σ H2 fun u H3=>r x l u H3 Q
theorem afF {r:V→Option Int→Option Int→Hp→VK→Prop} (hr:SlR X r) (he:PE X e te) (hl:PO X lo tl) (hu:PO X hi th):PE X (.Subscript e (.Slice lo hi none p2) pos) (tSl r te tl th):=by
 intro pins s σ H Q I h
 refine Subscript_ (thn (he pins s σ H _ I h) fun v s1 ⟨x,H1,I1,r1,q1⟩=>?_)
 refine wpAny_Slice (thn (hl pins s1 σ H1 _ I1 q1) fun vl s2 ⟨l,H2,I2,pl,q2⟩=>thn (hu pins s2 σ H2 _ I2 q2) fun vu s3 ⟨u,H3,I3,pu,q3⟩=>?_)
 rw [evalPart_none]
 refine wpAny_pure ?_
 have I4:Inv X pins σ H3 { s3 with heap:=s3.heap.push { cls:=.type "slice",data:=.fields #[vl,vu,.none] } }:=I3.kept (t':=s3.toks) fun b ob q=>Heap.get?_push_of_some _ q
 obtain ⟨T,id,hT,ht,hg⟩:=hr pins { s3 with heap:=s3.heap.push { cls:=.type "slice",data:=.fields #[vl,vu,.none] } } σ H3 x v vl vu l u s3.heap.objs.size Q I4 r1 (Heap.IsSliceOf.new ..) pl pu q3
 show wpAny (model X.prog X.w) X.A (subscriptTail e (.Slice lo hi none p2) v (.ref s3.heap.objs.size)) (EP X pins σ Q) X.xe { s3 with heap:=s3.heap.push { cls:=.type "slice",data:=.fields #[vl,vu,.none] } }
 exact tail_any (ops:=[.ref s3.heap.objs.size,v]) ht hT hg (by with_unfolding_all rfl)
def cutV (xs:List V) (lo hi:Option Int):List V:=(xs.drop (HT.sIx xs.length 0 lo)).take (HT.sIx xs.length xs.length hi - HT.sIx xs.length 0 lo)
theorem ab9 (xs:List V) (lo hi:Option Int):(cutV xs lo hi).length≤xs.length:=by
 unfold cutV
 rw [List.length_take,List.length_drop]
 omega
def rSlT (K:PySem.W.Frag):V→Option Int→Option Int→Hp→VK→Prop:=fun x lo hi H Q=>∃ a xs,x=.ref a∧SqT K H a xs ∧
 ¬ (HT.sIx xs.length 0 lo=0∧HT.sIx xs.length xs.length hi=xs.length)∧∀ p,H p=none→Q (.ref p) (upd H p (.tup (cutV xs lo hi)))
theorem ald:SlR X (rSlT X.K):=by
 intro pins s σ H x v vl vu lo hi sl Q I rx hs pl pu h
 obtain ⟨a,xs,rfl,hx,hw,q⟩:=h
 cases rx
 obtain ⟨its,r,ht,hz⟩:=I.tuple hx
 have hlen:its.toArray.size=xs.length:=by rw [List.size_toArray]; exact r.length.symm
 refine ⟨"tuple",_,PyProof.Rows.slot_tuple_getitem.lookup,ht.typeIs,?_⟩
 refine HT.getItem_tuple_cut ht hs pl pu (by rw [hlen]; exact hw) ?_ (by rw [hlen]; exact hz)
 rw [hlen]
 refine ⟨.ref s.heap.objs.size,_,I.laid (t':=s.toks) (o:=.tup (cutV xs lo hi)) (fun b ob q=>Heap.get?_push_of_some _ q) (Nat.le_refl _) ?_,rfl,q _ (I.hok.fresh (Nat.le_refl _))⟩
 exact ⟨Nat.le_trans (ab9 xs lo hi) hz,_,(r.drop (HT.sIx xs.length 0 lo)).take (HT.sIx xs.length xs.length hi - HT.sIx xs.length 0 lo),IsTup.new _ _⟩
def aka (K:PySem.W.Frag):R2:=fun x y H Q=>∃ a b xs ys,x=.ref a∧y=.ref b∧SqT K H a xs∧SqT K H b ys∧xs≠[]∧xs.length+ys.length≤sizeLine ∧
 (ys=[]→Q (.ref a) H)∧(ys≠[]→∀ p,H p=none→Q (.ref p) (upd H p (.tup (xs++ys))))
theorem Vals.nil_iff {xs:List V} {us:List Value} (r:Vals xs us):us=[]↔xs=[]:=by
 cases r with
 | nil=>simp
 | cons _ _=>simp
theorem ajL:OpR X (binaryOp .Add) (aka X.K):=by
 intro pins s σ H x y v u Q I rx ry h
 obtain ⟨a,b,xs,ys,rfl,rfl,ha,hb,hx,hz,q1,q2⟩:=h
 cases rx
 cases ry
 obtain ⟨its,r1,p1,_⟩:=I.tuple ha
 obtain ⟨its2,r2,p2,_⟩:=I.tuple hb
 refine HT.cat_tup p1 p2 (fun z=>hx (r1.nil_iff.mp z)) (fun z=>⟨.ref a,H,I,rfl,q1 (r2.nil_iff.mp z)⟩) (fun z=>?_) (by rw [← r1.length,← r2.length]; exact hz)
 refine ⟨.ref s.heap.objs.size,_,I.laid (t':=s.toks) (o:=.tup (xs++ys)) (fun b ob q=>Heap.get?_push_of_some _ q) (Nat.le_refl _) ?_,rfl,q2 (fun w=>z (r2.nil_iff.mpr w)) _ (I.hok.fresh (Nat.le_refl _))⟩
 exact ⟨by rw [List.length_append]; exact hz,_,r1.append r2,IsTup.new _ _⟩
end
end L2
namespace L2
open PySem PySem.Spec PyProof.Rows
def ixN (n:Nat) (i:Int):Option Nat:=if 0≤i then (if i < n then some i.toNat else none) else if -(n:Int)≤i then some (i+n).toNat else none
def atI {α:Type} (xs:List α) (i:Int):Option α:=(ixN xs.length i).bind fun j=>xs[j]?
theorem aho {n:Nat} {i:Int} {j:Nat} (h:ixN n i=some j):seqIndex? i n=some j∧j < n∧-(n:Int)≤i∧i < n:=by
 unfold ixN at h
 by_cases h0:0≤i
 ·rw [if_pos h0] at h
  by_cases h1:i < n
  ·rw [if_pos h1] at h
   have e:i.toNat=j:=Option.some.inj h
   exact ⟨by rw [seqIndex_of h0 h1,e],by omega,by omega,h1⟩
  ·rw [if_neg h1] at h; cases h
 ·rw [if_neg h0] at h
  by_cases h1:-(n:Int)≤i
  ·rw [if_pos h1] at h
   have e:(i+n).toNat=j:=Option.some.inj h
   exact ⟨by rw [seqIndex_neg (by omega) h1,e],by omega,h1,by omega⟩
  ·rw [if_neg h1] at h; cases h
theorem afe {α:Type} {xs:List α} {i:Int} {v:α} (h:atI xs i=some v):∃ j,seqIndex? i xs.length=some j∧xs[j]?=some v∧j < xs.length∧-(xs.length:Int)≤i∧i < xs.length:=by
 unfold atI at h
 cases e:ixN xs.length i with
 | none=>rw [e] at h; cases h
 | some j =>
  rw [e] at h
  obtain ⟨h1,h2,h3,h4⟩:=aho e
  exact ⟨j,h1,h,h2,h3,h4⟩
theorem ajQ {α:Type} {xs:List α} {j:Nat} {v:α} (h:xs[j]?=some v):atI xs (j:Int)=some v:=by
 have hj:j < xs.length:=(List.getElem?_eq_some_iff.mp h).1
 have e:ixN xs.length (j:Int)=some j:=by
  unfold ixN
  rw [if_pos (by omega),if_pos (by omega)]; simp
 unfold atI; rw [e]; exact h
def afz (b:Expr):Prop:=∀ o i,subscripted b false o i=operate [o,i] (getItem o i)
def IxR (X:Cx) (r:R2):Prop :=
 ∀ (value slice:Expr) (pins:List (Addr × Obj)) (s:Shared) (σ:St) (H:Hp) (x y:V) (v u:Value) (Q:VK),Inv X pins σ H s→RelV x v→RelV y u→r x y H Q →
  subscripted slice false v u=operate [v,u] (getItem v u)→wpAny (model X.prog X.w) X.A (subscriptTail value slice v u) (EP X pins σ Q) X.xe s
def MtR (X:Cx) (id:String) (r:V→List V→Hp→VK→Prop):Prop :=
 ∀ (pins:List (Addr × Obj)) (s:Shared) (σ:St) (H:Hp) (x:V) (xs:List V) (v:Value) (us:List Value) (Q:VK),Inv X pins σ H s→RelV x v→Vals xs us→r x xs H Q →
  wpAny (model X.prog X.w) X.A (call (.builtin id) (v :: us)) (EP X pins σ Q) X.xe s
section
variable {X:Cx} {a b:Expr} {ta tb:TE} {pos:Pos}
theorem IxR.or {r r':R2} (h:IxR X r) (h':IxR X r'):IxR X (fun x y H Q=>r x y H Q∨r' x y H Q):=by
 intro value slice pins s σ H x y v u Q I rx ry q hs
 rcases q with q | q
 ·exact h value slice pins s σ H x y v u Q I rx ry q hs
 ·exact h' value slice pins s σ H x y v u Q I rx ry q hs
theorem aky {r:R2} (hr:IxR X r) (ha:PE X a ta) (hb:PE X b tb) (hs:afz b):PE X (.Subscript a b pos) (tOp r ta tb):=by
 intro pins s σ H Q I h
 exact Subscript_ (binT ha hb I h fun v u s2 x y H2 I2 rx ry q=>hr a b pins s2 σ H2 x y v u Q I2 rx ry q (hs _ _))
def rIxL (K:PySem.W.Frag):R2:=fun x y H Q=>∃ p xs i v,x=.ref p∧y=.int i∧SqL K H p xs∧atI xs i=some v∧Q v H
def rIxT (K:PySem.W.Frag):R2:=fun x y H Q=>∃ p xs i v,x=.ref p∧y=.int i∧SqT K H p xs∧atI xs i=some v∧Q v H
def rIxS:R2:=fun x y H Q=>∃ z i c,x=.str z∧y=.int i∧z.length≤sizeLine∧atI z.cps.toList i=some c∧Q (.str ⟨#[c]⟩) H
theorem ai8:IxR X (rIxL X.K):=by
 intro value slice pins s σ H x y v u Q I rx ry h hs
 obtain ⟨p,xs,i,z,rfl,rfl,hq,he,q⟩:=h
 cases rx
 obtain ⟨t,rfl⟩:=ry
 obtain ⟨its,r,pl,hz⟩:=I.list hq
 obtain ⟨j,h1,h2,h3,h4,h5⟩:=afe he
 obtain ⟨w,ew,rw'⟩:=r.get h2
 have hl:=r.length
 have hn:=ad0
 have fin:EP X pins σ Q w s:=⟨z,H,I,rw',q⟩
 by_cases h0:0≤i
 ·have hj:i.toNat=j:=by
   rw [seqIndex_of h0 h5] at h1
   exact Option.some.inj h1
  exact item_listR pl.isList h0 (by omega) (by rw [hj]; simpa using ew) fin hs
 ·have hj:(i+(its.toArray.size:Int)).toNat=j:=by
   rw [seqIndex_neg (by omega) h4] at h1
   rw [List.size_toArray,← hl]
   exact Option.some.inj h1
  exact subscriptTail_builtinR (x:=w) pl.isList.typeIs slot_list_getitem.lookup
   (wpAny_getItem_list_neg (Q:=fun r s'=>r=w∧EP X pins σ Q r s') pl.isList (by omega) (by rw [List.size_toArray] <;> omega) (by omega) (by rw [hj]; simpa using ew) ⟨rfl,fin⟩) hs
theorem akX:IxR X (rIxT X.K):=by
 intro value slice pins s σ H x y v u Q I rx ry h hs
 obtain ⟨p,xs,i,z,rfl,rfl,hq,he,q⟩:=h
 cases rx
 obtain ⟨t,rfl⟩:=ry
 obtain ⟨its,r,pl,hz⟩:=I.tuple hq
 obtain ⟨j,h1,h2,h3,h4,h5⟩:=afe he
 obtain ⟨w,ew,rw'⟩:=r.get h2
 have hl:=r.length
 have hn:=ad0
 have fin:EP X pins σ Q w s:=⟨z,H,I,rw',q⟩
 exact subscriptTail_builtinR (x:=w) pl.typeIs slot_tuple_getitem.lookup
  (getItem_tuple (j:=j) (Q:=fun r s'=>r=w∧EP X pins σ Q r s') pl (by omega) (by omega) (by rw [List.size_toArray,← hl]; exact h1) (by simpa using ew) ⟨rfl,fin⟩) hs
theorem aiF:IxR X rIxS:=by
 intro value slice pins s σ H x y v u Q I rx ry h hs
 obtain ⟨z,i,c,rfl,rfl,hz,he,q⟩:=h
 obtain ⟨t,rfl⟩:=rx
 obtain ⟨t',rfl⟩:=ry
 obtain ⟨j,h1,h2,h3,h4,h5⟩:=afe he
 have hl:z.cps.toList.length=z.length:=by simp [Str.length]
 rw [hl] at h1 h4 h5
 have hn:=ad0
 exact tail_any (typeIs_str s z t) slot_str_getitem.lookup (getItem_str (c:=c) (by
  have e1:decide (i < -(2 ^ 63:Int))=false:=decide_eq_false (by omega)
  have e2:decide (i ≥ 2 ^ 63)=false:=decide_eq_false (by omega)
  rw [e1,e2,Bool.or_false]) (by rw [h1]; simpa using h2) ⟨.str ⟨#[c]⟩,H,I.tok _,⟨_,rfl⟩,q⟩) hs
def rIx (K:PySem.W.Frag):R2:=fun x y H Q=>rIxL K x y H Q∨rIxT K x y H Q∨rIxS x y H Q
theorem akW:IxR X (rIx X.K):=ai8.or (akX.or aiF)
theorem agg (its:List Value) (n j:Nat) (u:Value):Obj.mapSeq (·.setIfInBounds j u) { cls:=.type "list",data:=.seq its.toArray n }={ cls:=.type "list",data:=.seq (its.set j u).toArray n }:=by
 simp [Obj.mapSeq]
theorem Inv.lst {pins:List (Addr × Obj)} {σ:St} {H:Hp} {s:Shared} {p:Addr} {xs:List V} (I:Inv X pins σ H s) (h:H p=some (.lst xs)) :
  ∃ (its:List Value) (n:Nat),Vals xs its∧s.heap.get? p=some { cls:=.type "list",data:=.seq its.toArray n }∧xs.length≤sizeLine:=by
 obtain ⟨z,its,n,r,e⟩:=I.hok p _ h
 exact ⟨its,n,r,e,z⟩
theorem Inv.lstUpd {pins:List (Addr × Obj)} {σ:St} {H:Hp} {s:Shared} {p:Addr} {xs ys:List V} {its its':List Value} {n n':Nat} {f:Obj→Obj} (I:Inv X pins σ H s) (h:H p=some (.lst xs))
  (ho:s.heap.get? p=some { cls:=.type "list",data:=.seq its.toArray n }) (hf:f { cls:=.type "list",data:=.seq its.toArray n }={ cls:=.type "list",data:=.seq its'.toArray n' }) (r:Vals ys its') (hz:ys.length≤sizeLine) (t:Nat) :
  Inv X pins σ (upd H p (.lst ys)) { s with heap:=s.heap.update p f,toks:=t }:=by
 have e:(s.heap.update p f).get? p=some { cls:=.type "list",data:=.seq its'.toArray n' }:=by
  rw [Heap.get?_update_self f ho (by rw [hf] <;> rfl),hf]
 refine I.write (x:=p) (e:=p) (by rw [h]; trivial) (.inl rfl) (fun b u hb q=>(Heap.get?_update_other _ _ (Ne.symm hb)).trans q) ⟨_,e⟩ ?_
 exact ⟨hz,its',n',r,e⟩
def alA:V→V→V→Hp→(Hp→Prop)→Prop:=fun o i v H Q=>∃ p xs k j,o=.ref p∧i=.int k∧H p=some (.lst xs)∧ixN xs.length k=some j∧Q (upd H p (.lst (xs.set j v)))
theorem aia:PSet X alA:=by
 intro pins s σ H o i v ov iv u Q I ro ri rv h
 obtain ⟨p,xs,k,j,rfl,rfl,hp,hj,q⟩:=h
 cases ro
 obtain ⟨t,rfl⟩:=ri
 obtain ⟨its,n,r,ho,hz⟩:=I.lst hp
 obtain ⟨h1,h2,h3,h4⟩:=aho hj
 have hl:=r.length
 have hn:=ad0
 have I':Inv X pins σ (upd H p (.lst (xs.set j v))) { s with heap:=s.heap.update p (Obj.mapSeq (·.setIfInBounds j u)) } :=
  I.lstUpd hp ho (agg its n j u) (r.set rv j) (by rw [List.length_set]; exact hz) s.toks
 by_cases h0:0≤k
 ·have hk:k.toNat=j:=by
   rw [seqIndex_of h0 h4] at h1
   exact Option.some.inj h1
  exact PySem.W.ki_setAt ho h0 (by omega) (by rw [List.size_toArray,← hl]; exact h4) (by rw [hk]; exact ⟨_,I',q⟩)
 ·have hk:(k+(its.toArray.size:Int)).toNat=j:=by
   rw [seqIndex_neg (by omega) h3] at h1
   rw [List.size_toArray,← hl]
   exact Option.some.inj h1
  exact PySem.W.ki_setBack ho (by omega) (by rw [List.size_toArray,← hl]; exact h3) (by omega) (by rw [hk]; exact ⟨_,I',q⟩)
theorem ae8 (lo hi:Option Int) (n:Nat):(sliceBounds lo hi none n).1=((HT.sIx n 0 lo:Nat):Int)∧(sliceBounds lo hi none n).2.1=((HT.sIx n n hi:Nat):Int)∧(sliceBounds lo hi none n).2.2=1:=by
 refine ⟨?_,?_,rfl⟩
 ·cases lo with
  | none=>simp [sliceBounds,HT.sIx]
  | some i =>
   simp only [sliceBounds,HT.sIx,Option.getD_none,show (1:Int) > 0 by decide,if_true]
   by_cases h:i < 0
   ·simp only [h,if_true] <;> omega
   ·simp only [h,if_false] <;> omega
 ·cases hi with
  | none=>simp [sliceBounds,HT.sIx]
  | some i =>
   simp only [sliceBounds,HT.sIx,Option.getD_none,show (1:Int) > 0 by decide,if_true]
   by_cases h:i < 0
   ·simp only [h,if_true] <;> omega
   ·simp only [h,if_false] <;> omega
theorem aen (its:List Value) (lo hi:Option Int):slicePick its.toArray lo hi none=((its.drop (HT.sIx its.length 0 lo)).take (HT.sIx its.length its.length hi - HT.sIx its.length 0 lo)).toArray:=by
 obtain ⟨h1,h2,h3⟩:=ae8 lo hi its.toArray.size
 unfold slicePick
 rw [h1,h2,h3]
 simp only [sliceRange_one,pick_run,List.size_toArray] <;> rfl
def rSlL (K:PySem.W.Frag):V→Option Int→Option Int→Hp→VK→Prop:=fun x lo hi H Q=>∃ a xs,x=.ref a∧SqL K H a xs∧∀ p,H p=none→Q (.ref p) (upd H p (.lst (cutV xs lo hi)))
theorem ajT:SlR X (rSlL X.K):=by
 intro pins s σ H x v vl vu lo hi sl Q I rx hs pl pu h
 obtain ⟨a,xs,rfl,hx,q⟩:=h
 cases rx
 obtain ⟨its,r,ht,hz⟩:=I.list hx
 have hlen:=r.length
 refine ⟨"list",_,slot_list_getitem.lookup,ht.isList.typeIs,?_⟩
 refine wpAny_getItem_list_slice ht.isList hs pl pu .none (by simp) ?_ (by rw [List.size_toArray] <;> omega)
 rw [aen,← hlen]
 refine ⟨.ref s.heap.objs.size,_,I.laid (t':=s.toks) (o:=.lst (cutV xs lo hi)) (fun b ob q=>Heap.get?_push_of_some _ q) (Nat.le_refl _) ?_,rfl,q _ (I.hok.fresh (Nat.le_refl _))⟩
 exact ⟨Nat.le_trans (ab9 xs lo hi) hz,_,0,(r.drop (HT.sIx xs.length 0 lo)).take (HT.sIx xs.length xs.length hi - HT.sIx xs.length 0 lo),Heap.get?_push_size _ rfl⟩
theorem abx:ac4 X (.builtin "len") (fun xs H Q=>∃ p ys,xs=[.ref p]∧(SqL X.K H p ys∨SqT X.K H p ys)∧Q (.int ys.length) H):=by
 intro pins s σ H xs us Q I r h
 obtain ⟨p,ys,rfl,hq,q⟩:=h
 obtain ⟨u,rfl,rx⟩:=ada r
 cases rx
 have hn:=ad0
 rcases hq with hq | hq
 ·obtain ⟨its,r',pl,hz⟩:=I.list hq
  have hlen:=r'.length
  exact Calls.call_len_list pl.isList (by simp only [List.size_toArray] <;> omega) ⟨.int ys.length,H,I.tok _,⟨s.toks+1,by rw [List.size_toArray,hlen]⟩,q⟩
 ·obtain ⟨its,r',pl,hz⟩:=I.tuple hq
  have hlen:=r'.length
  exact len_tuple pl (by simp only [List.size_toArray] <;> omega) ⟨.int ys.length,H,I.tok _,⟨s.toks+1,by rw [List.size_toArray,hlen]⟩,q⟩
theorem abj:ac4 X (.builtin "len") (fun xs H Q=>∃ z,xs=[.str z]∧z.length≤sizeLine∧Q (.int z.length) H):=by
 intro pins s σ H xs us Q I r h
 obtain ⟨z,rfl,hz,q⟩:=h
 obtain ⟨u,rfl,t,rfl⟩:=ada r
 have hn:=ad0
 exact len_str (by omega) ⟨.int z.length,H,I.tok _,⟨_,rfl⟩,q⟩
theorem acJ:ac4 X (.type "tuple") (fun xs H Q=>∃ p ys,xs=[.ref p]∧((SqL X.K H p ys∧∀ l,H l=none→Q (.ref l) (upd H l (.tup ys)))∨(SqT X.K H p ys∧Q (.ref p) H))):=by
 intro pins s σ H xs us Q I r h
 obtain ⟨p,ys,rfl,h⟩:=h
 obtain ⟨u,rfl,rx⟩:=ada r
 cases rx
 rcases h with ⟨hq,q⟩ | ⟨hq,q⟩
 ·obtain ⟨its,r',pl,hz⟩:=I.list hq
  have hlen:=r'.length
  refine call_tuple_list pl.isList (fun h' kp=>?_) (by simp only [List.size_toArray] <;> omega)
  have I1:Inv X pins σ H { s with heap:=h' }:=I.kept (t':=s.toks) kp
  have I2:Inv X pins σ (upd H h'.objs.size (.tup ys)) { s with heap:=h'.push { cls:=.type "tuple",data:=.seq its.toArray } } :=
   I1.laid (t':=s.toks) (fun b o e=>Heap.get?_push_of_some _ e) (Nat.le_refl _) (show abQ X.prog X.w _ _ _ (.tup ys) from ⟨hz,its,r',IsTup.new _ _⟩)
  exact ⟨.ref h'.objs.size,_,I2,rfl,q _ (I1.hok.fresh (Nat.le_refl _))⟩
 ·obtain ⟨its,r',pl,hz⟩:=I.tuple hq
  exact call_tuple_same pl ⟨.ref p,H,I,rfl,q⟩
def tyV (K:PySem.W.Frag) (T:String) (x:V) (H:Hp):Prop:=match x with
 | .str _=>T="str"
 | .int _=>T="int"
 | .ref p=>(T="list"∧∃ xs,SqL K H p xs)∨(T="tuple"∧∃ o,K.lookup p=some o∧o.cls=.type "tuple"∧o.dict=none) ∨
   (T="dict"∧((∃ kvs,H p=some (.dK kvs))∨∃ kvs,H p=some (.dT kvs)))∨(T="set"∧∃ S n,H p=some (.set S n))
 | _=>False
theorem aki {pins:List (Addr × Obj)} {σ:St} {H:Hp} {s:Shared} {T:String} {x:V} {v:Value} (I:Inv X pins σ H s) (r:RelV x v) (ty:tyV X.K T x H) :
  s.TypeIs v T∧∀ a,v=.ref a→∃ ob,s.heap.get? a=some ob∧ob.dict=none:=by
 cases x with
 | str z =>
  obtain ⟨t,rfl⟩:=r
  cases (show T="str" from ty)
  exact ⟨typeIs_str s z t,fun _ e=>nomatch e⟩
 | int i =>
  obtain ⟨t,rfl⟩:=r
  cases (show T="int" from ty)
  exact ⟨typeIs_int s i t,fun _ e=>nomatch e⟩
 | ref p =>
  cases r
  rcases ty with ⟨rfl,xs,hq⟩ | ⟨rfl,o,hk,hc,hd⟩ | ⟨rfl,hk⟩ | ⟨rfl,S,n,hk⟩
  ·obtain ⟨its,_,pl,_⟩:=I.list hq
   refine ⟨pl.isList.typeIs,fun a e=>?_⟩
   cases e
   obtain ⟨o,n,e,c,hd,_⟩:=pl
   exact ⟨o,e,hd⟩
  ·refine ⟨⟨o,I.kIn p o hk,hc⟩,fun a e=>?_⟩
   cases e
   exact ⟨o,I.kIn _ o hk,hd⟩
  ·have z:∃ o,s.heap.get? p=some o∧o.ExactDict:=by
    rcases hk with ⟨kvs,hk⟩ | ⟨kvs,hk⟩
    ·obtain ⟨_,_,_,_,o,_,_,e,ex,_⟩:=I.hok p _ hk
     exact ⟨o,e,ex⟩
    ·obtain ⟨_,_,_,_,o,_,_,e,ex,_⟩:=I.hok p _ hk
     exact ⟨o,e,ex⟩
   obtain ⟨o,e,ex⟩:=z
   refine ⟨⟨o,e,ex.1⟩,fun a e2=>?_⟩
   cases e2
   exact ⟨o,e,ex.2.1⟩
  ·obtain ⟨o,_,_,_,e,ex,_⟩:=I.hok p _ hk
   refine ⟨⟨o,e,ex.1⟩,fun a e2=>?_⟩
   cases e2
   exact ⟨o,e,ex.2.1⟩
 | _=>exact False.elim ty
def tBM (K:PySem.W.Frag) (T:String) (r:V→List V→Hp→VK→Prop) (to:TE) (t:TA):TE:=fun σ H Q=>to σ H fun x H1=>tyV K T x H1∧t σ H1 fun xs H2=>r x xs H2 Q
variable {o e:Expr} {es:List Expr} {to:TE} {t:TA} {name:Str} {apos cpos:Pos} {T id:String} {r:V→List V→Hp→VK→Prop}
theorem ajx (pa:PlainAttrs T) (slot:Slot T name id) (hty:typeOf (.builtin id)=pure (.type "method_descriptor")) (hm:MtR X id r) (ho:PE X o to) (ha:PA X (e :: es) t)
  (hbase:attributeBase o name X.env (eval o X.env)=eval o X.env:=by rfl)
  (hfew:((backTo cpos (starEach (e :: es) X.env)).all (fun x=>!x.1) && (backToKw cpos (keywordEach [] X.env)).all (fun x=>x.1.isSome)
   && decide ((e :: es).length+([]:List Keyword).length+(if ([]:List Keyword).isEmpty then 0 else 1) < 30))=true:=by rfl)
  (hline:(apos.endLine == cpos.line)=true:=by rfl) (hs:starEach (e :: es) X.env=(false,eval e X.env) :: starEach es X.env:=by rfl) (hplain:(backTo cpos (starEach es X.env)).any (·.1)=false:=by rfl) :
  PE X (.Call (.Attribute o name apos) (e :: es) [] cpos) (tBM X.K T r to t):=by
 intro pins s σ H Q I h
 refine wpAny_Call_method_late hbase hfew hline rfl (thn (ho pins s σ H _ I h) fun v s1 ⟨x,H1,I1,r1,ty,q1⟩=>?_)
 obtain ⟨h1,h2⟩:=aki I1 r1 ty
 refine ⟨T,id,pa,slot,hty,h1,h2,?_⟩
 have hA:=ha cpos pins s1 σ H1 _ I1 q1
 rw [hs] at hA ⊢
 refine Calls.callWith_builtin (by show (false || (backTo cpos (starEach es X.env)).any (·.1))=false; rw [hplain] <;> rfl) (Calls.evalArgs_plain ?_)
 exact thn hA fun us s2 ⟨vs,H2,I2,r2,q2⟩=>hm pins s2 σ H2 x vs v us Q I2 r1 r2 q2
end
end L2
namespace L2
open PySem PySem.Spec PyProof.Rows
def MtM (X:Cx) (id:String) (r:V→List V→Hp→VK→Prop):Prop :=
 ∀ (pins:List (Addr × Obj)) (s:Shared) (σ:St) (H:Hp) (x:V) (xs:List V) (v:Value) (us:List Value) (Q:VK),Inv X pins σ H s→RelV x v→Vals xs us→r x xs H Q →
  wpAny (model X.prog X.w) X.A (call (.builtin id) (v :: us)) (EP X pins σ Q) X.xe s
theorem Vals.one:∀ {x:V} {us:List Value},Vals [x] us→∃ u,us=[u]∧RelV x u
 | _,_,.cons r .nil=>⟨_,rfl,r⟩
theorem Vals.eraseIdx:∀ {xs:List V} {us:List Value} (i:Nat),Vals xs us→Vals (xs.eraseIdx i) (us.eraseIdx i)
 | _,_,_,.nil=>.nil
 | _,_,0,.cons _ t=>t
 | _,_,i+1,.cons r t=>.cons r (Vals.eraseIdx i t)
theorem adj {α:Type}:∀ (l:List α) (i:Nat),(l.eraseIdx i).length≤l.length
 | [],_=>Nat.le_refl _
 | _ :: _,0=>Nat.le_succ _
 | _ :: r,i+1=>Nat.succ_le_succ (adj r i)
section
variable {X:Cx} {pins:List (Addr × Obj)} {σ:St} {H:Hp} {s:Shared} {l b:Addr} {xs ys zs:List V}
theorem Inv.lset {its its':List Value} {n:Nat} {f:Array Value→Array Value} {t':Nat} (I:Inv X pins σ H s) (hH:H l=some (.lst xs))
  (e:s.heap.get? l=some { cls:=.type "list",data:=.seq its.toArray n }) (hf:f its.toArray=its'.toArray) (hv:Vals ys its') (hz:ys.length≤sizeLine) :
  Inv X pins σ (upd H l (.lst ys)) { s with heap:=s.heap.update l (Obj.mapSeq f),toks:=t' }:=by
 have q:=PySem.IsL.update e f
 rw [hf] at q
 refine I.write (x:=l) (e:=l) (by rw [hH]; exact trivial) (.inl rfl) (fun b' u hb hu=>(Heap.get?_update_other s.heap (Obj.mapSeq f) (Ne.symm hb)).trans hu) ⟨_,q⟩ ?_
 exact ⟨hz,its',_,hv,q⟩
theorem Inv.lnew {its:List Value} {t':Nat} (I:Inv X pins σ H s) (hv:Vals ys its) (hz:ys.length≤sizeLine) :
  Inv X pins σ (upd H s.heap.objs.size (.lst ys)) { s with heap:=s.heap.push { cls:=.type "list",data:=.seq its.toArray },toks:=t' } :=
 I.laid (fun _ _ q=>Heap.get?_push_of_some _ q) (Nat.le_refl _) ⟨hz,its,0,hv,Heap.get?_push_size _ rfl⟩
theorem Inv.fresh (I:Inv X pins σ H s):H s.heap.objs.size=none:=I.hok.fresh (Nat.le_refl _)
theorem Inv.lstM (I:Inv X pins σ H s) (hH:H l=some (.lst xs)):xs.length≤sizeLine∧∃ (its:List Value) (n:Nat),Vals xs its∧xs.length=its.length∧s.heap.get? l=some { cls:=.type "list",data:=.seq its.toArray n }:=by
 obtain ⟨z,its,n,r,e⟩:=I.hok l _ hH
 exact ⟨z,its,n,r,r.length,e⟩
end
section
variable {X:Cx}
def ajm:V→List V→Hp→VK→Prop:=fun x vs H Q=>∃ l xs y,x=.ref l∧vs=[y]∧H l=some (.lst xs)∧xs.length < sizeLine∧Q .non (upd H l (.lst (xs++[y])))
theorem aeI:MtM X "list.append" ajm:=by
 intro pins s σ H x vs v us Q I rx rv h
 obtain ⟨l,xs,y,rfl,rfl,hH,hz,q⟩:=h
 cases rx
 obtain ⟨u,rfl,ru⟩:=rv.one
 obtain ⟨z,its,n,r,hl,e⟩:=I.lstM hH
 refine call_meets F.slot_list_append ⟨_,e,rfl⟩ F.entry_list_append (F.args_list_append_2 _ _) (PySem.list_append l its.toArray n u (by rw [List.size_toArray]; omega)) ⟨e,?_⟩
 refine ⟨.non,_,I.lset (its':=its++[u]) hH e (by simp) (r.append (.cons ru .nil)) ?_,rfl,q⟩
 rw [List.length_append,List.length_singleton]
 omega
def akY:V→List V→Hp→VK→Prop:=fun x vs H Q=>∃ l xs i k y,x=.ref l∧vs=[.int i]∧H l=some (.lst xs)∧-(2 ^ 63)≤i∧i < 2 ^ 63∧seqIndex? i xs.length=some k∧xs[k]?=some y∧Q y (upd H l (.lst (xs.eraseIdx k)))
theorem ahQ:MtM X "list.pop" akY:=by
 intro pins s σ H x vs v us Q I rx rv h
 obtain ⟨l,xs,i,k,y,rfl,rfl,hH,h1,h2,hk,hy,q⟩:=h
 cases rx
 obtain ⟨u,rfl,ru⟩:=rv.one
 obtain ⟨t,rfl⟩:=ru
 obtain ⟨z,its,n,r,hl,e⟩:=I.lstM hH
 obtain ⟨w,hw,rw'⟩:=r.get hy
 refine call_meets F.slot_list_pop ⟨_,e,rfl⟩ F.entry_list_pop (F.args_list_pop_2 _ _)
  (MeetsSeq.list_pop_at l its.toArray n i t k w (fitsIndex_both h1 h2) (by rw [List.size_toArray,← hl]; exact hk) (by rw [← Array.getElem?_toList]; exact hw) (by rw [List.size_toArray]; omega)) ⟨e,?_⟩
 refine ⟨y,_,I.lset (its':=its.eraseIdx k) hH e ?_ (r.eraseIdx k) ?_,rw',q⟩
 ·show its.toArray.eraseIdxIfInBounds k=(its.eraseIdx k).toArray
  rw [List.eraseIdxIfInBounds_toArray]
 ·have:=adj xs k
  omega
end
section
variable {prog:Program} {w:World} {A:Around} {E:Value→Shared→Prop} {s:Shared}
end
section
variable {X:Cx}
end
end L2
namespace Att
open PySem PySem.W PySem.Calls PyProof.Rows
theorem adK {P:Params} {h:Heap}:∀ (ns:List Int) (vs:List Value),WellAll P h vs (ns.map WData.int)→IntsAre vs ns:=by
 intro ns
 induction ns with
 | nil =>
  intro vs w
  rw [List.map_nil] at w
  cases w
  exact .nil
 | cons n ns ih =>
  intro vs w
  rw [List.map_cons] at w
  cases w with
  | cons a b =>
   cases a
   exact .cons _ _ (ih _ b)
theorem agL {l:OpenLaw} {n:Nat} (hn:l.most=some n) {P:Params} {h:Heap} {args:List WData} {vals:List Value}
  (hpre:l.row.toRowW.claim.pre args=true) (hwl:WellAll P h vals args) :
  ∃ a vs ns,vals=[Value.ref a]∧args=[WData.list (ns.map WData.int)]∧h.get? a=some { cls:=.type "list",data:=.seq vs.toArray }∧IntsAre vs ns∧ns.length≤n:=by
 have hsh:WShape.hasAll [] args [.list .int]=true:=(pre_splitW hpre).1
 have hc:l.pre.holds [] { args:=args }=true:=(pre_splitW hpre).2
 obtain ⟨d,r,rfl,h1,h2⟩:=hasAllW_cons hsh
 obtain rfl:=hasAllW_nil h2
 obtain ⟨xs,rfl,h3⟩:=hasW_list h1
 obtain ⟨ns,rfl⟩:=items_int h3
 have hlen:ns.length≤n:=by
  unfold OpenLaw.pre at hc
  have h4:(WTm.not (.lt (.lit (.int (n:Int))) (.len (.arg 0)))).holds [] { args:=[.list (ns.map .int)] }=true:=by
   have h4:=(holds_andW hc).1
   rw [hn] at h4
   exact h4
  have h5:=condW_of h4 (w_not (w_lt w_lit (w_len_list (w_arg rfl))))
  rw [List.length_map] at h5
  refine Nat.le_of_not_lt fun q=>?_
  have q':(n:Int) < ((ns.length:Nat):Int):=by omega
  first
   | (rw [decide_eq_true q'] at h5; exact absurd h5 (by decide))
   | (simp at h5; omega)
 cases hwl with
 | cons w1 w2 =>
  cases w2
  cases w1 with
  | list ho hall=>exact ⟨_,_,ns,rfl,rfl,ho,adK ns _ hall,hlen⟩
theorem agI (l:OpenLaw) (args:List WData):l.row.toRowW.claim.post args (.bool true) args=true :=
 postW_of (r:=l.row.toRowW) (X:=(true == true))
  (show WShape.has [] (.bool true) .bool=true by first | rfl | decide | simp [WShape.has,WShape.arms,WShape.armsAll])
  (show (WTm.eq .res (.lit (.bool true))).value [] { args:=args,res:=some (.bool true),after:=args }=some (.bool (true == true)) from w_eq_bool (w_res rfl) w_lit) rfl
theorem attach_call {l:OpenLaw} {n:Nat} {q:Program} {loose:List Str} {XP:(Str→Option Value)→Heap→Prop} {YP:World→Heap→Prop} {d:DefRec}
  (hn:l.most=some n) (hdf:d.params.defaults=[])
  (call:∀ (w:World) (s₀ s₁:Shared) (mg mb:Str→Option Value) (fa:Addr) (o:Obj) (pm cd doc:Value) (a:Addr) (vs:List Value) (ns:List Int),
   Ground q loose [] XP w s₀ mg mb s₁.heap→YP w s₁.heap →
   s₁.heap.get? fa=some o→o.data=.func (docDef d.name d.params d.body d.scope pm cd doc)→s₁.heap.CodeRec cd d.name→mg d.name=some (.ref fa) →
   s₁.heap.get? a=some { cls:=.type "list",data:=.seq vs.toArray }→IntsAre vs ns→ns.length≤n→s₁.gens=#[] →
   codeAny (model l.prog w) callerA (.call (.ref fa) ⟨[.ref a],[]⟩) (fun r s'=>r=.ok (.ret (.bool true))∧OldK s₁.heap s'.heap∧s'.os=s₁.os∧AllBare s'.gens) s₁) :
  WalkO q loose XP YP l.row.toRowW d [] (fun f vs=>PySem.call f vs):=by
 intro w s₀ s₁ mg mb G Y fa o pm cd doc dV kV ho hd hcd hD hmg hg args vals as hpre hlay hrd hwl hlo
 obtain rfl:dV=.none:=Dflts.none hD hdf
 obtain rfl:kV=.none:=Dflts.noKw hD
 obtain ⟨a,vs,ns,rfl,rfl,hobj,hints,hlen⟩:=agL hn hpre hwl
 refine enter_call (codeAny_mono (call w s₀ s₁ mg mb fa o pm cd doc a vs ns G Y ho (fd_plain hd) hcd hmg hobj hints hlen hg) fun r s' hq=>?_)
 obtain ⟨rfl,h2,h3,h4⟩:=hq
 exact ⟨.inl ⟨.bool true,.bool true,[],rfl,fun _=>rfl,.bool true,agI l _,fun _=>⟨List.Pairwise.nil,fun _ hm=>(nomatch hm)⟩⟩,h2,h3,h4⟩
section
variable {prog:Program} {w:World} {A:Around} {E:Value→Shared→Prop} {s:Shared} {K:Frag}
end
end Att
namespace L2
open PySem PySem.Spec PyProof.Rows
theorem ae2:∀ {vs:List Value} {ns:List Int},IntsAre vs ns→Vals (ns.map V.int) vs
 | _,_,.nil=>.nil
 | _,_,.cons n t h=>.cons ⟨t,rfl⟩ (ae2 h)
def Only (H:Hp):Prop:=∀ b,H b=none∨∃ o xs,H b=some (.frz o (.lst xs))
theorem aic {P:Program} {w:World} {K:PySem.W.Frag} {mg mb:Str→Option Value} {CX:CXT} {k:Nat} {fa a:Addr} {fd:FuncData} {x:Str} {sp:Sp} {s₁:Shared} {vs:List Value} {ns:List Int}
  (KX:K.In s₁.heap) (hns:s₁.heap.Ns mainGlobals mg) (hb:s₁.heap.Ns builtinsNs mb) (hbb:∀ x:Str,x≠"__name__"→mb x=bootBuiltins x) (hlim:s₁.heap.NoLimit) (hg:s₁.gens=#[])
  (ha:s₁.heap.get? a=some { cls:=.type "list",data:=.seq vs.toArray }) (hi:IntsAre vs ns) (hl:ns.length≤sizeLine) (hr:Room k callerA)
  (F:∀ base:Heap,K.In base→base.Ns mainGlobals mg→FnOk P w K mg base CX k fa fd [x] sp) (hbind:∀ (s:Shared) (u:Value),BindsTo s fd ⟨[u],[]⟩ [(x,u)])
  (hsp:∀ H:Hp,Only H→SqL K H a (ns.map V.int)→sp [.ref a] H (fun v _=>v=.bl true) fun _ _ _=>False)
  (hCX:∀ H e s',CX [] H s₁ (fun _ _ _=>False) e s'→False) :
  codeAny (model P w) callerA (.call (.ref fa) ⟨[.ref a],[]⟩) (fun r s'=>r=.ok (.ret (.bool true))∧OldK s₁.heap s'.heap∧s'.os=s₁.os∧AllBare s'.gens) s₁:=by
 have rv:=ae2 hi
 have lenV:=hi.length
 -- from an abstract heap in which nothing but the script may be tracked
 have core:∀ H:Hp,Only H→SqL K H a (ns.map V.int)→HOk P w H s₁.heap→(∀ b,H b≠none→b=a)→(H a≠none→K.lookup a=none) →
   codeAny (model P w) callerA (.call (.ref fa) ⟨[.ref a],[]⟩) (fun r s'=>r=.ok (.ret (.bool true))∧OldK s₁.heap s'.heap∧s'.os=s₁.os∧AllBare s'.gens) s₁:=by
  intro H hO hS hok hA hK
  have base_of:∀ {b:Addr} {o:Obj},s₁.heap.get? b=some o→H b=none→(hidT s₁.heap H).get? b=some o:=fun e n=>ah3 e n
  have noA:∀ {b:Addr} {o:Obj} {es:Array DictEntry} {ep:Nat},s₁.heap.get? b=some o→o.data=.dict es ep→H b=none:=fun {b o es ep} e d=>by
   cases q:H b with
   | none=>rfl
   | some u =>
    have e':b=a:=hA b (by rw [q]; simp)
    subst e'
    rw [ha] at e; cases e
    have d':Data.seq vs.toArray _=Data.dict es ep:=d
    cases d'
  have nsK:∀ {b:Addr} {m:Str→Option Value},s₁.heap.Ns b m→(hidT s₁.heap H).Ns b m:=fun {b m} ⟨o,es,ep,e,d,r⟩=>⟨o,es,ep,base_of e (noA e d),d,r⟩
  have hKb:K.In (hidT s₁.heap H):=fun b o e=>base_of (KX b o e) (by
   cases q:H b with
   | none=>rfl
   | some u =>
    have e':b=a:=hA b (by rw [q]; simp)
    subst e'
    rw [hK (by rw [q]; simp)] at e; cases e)
  have hM:Mod K mg (hidT s₁.heap H):=⟨hKb,nsK hns,⟨mb,nsK hb,hbb⟩,let ⟨mc,h1,h2⟩:=hlim; ⟨mc,nsK h1,h2⟩⟩
  have e0:Env0 P w K mg (hidT s₁.heap H) callerA [] s₁ H:=⟨rfl,hM,fun b o e=>ajf e,Nat.le_of_eq (ahe _ _),trivial,fun b hb=>absurd (show b∈([]:List Addr) from hb) (by simp),hok,.of_eq hg⟩
  refine codeAny_mono ((F _ hKb (nsK hns)).run callerA [] s₁ H ⟨[.ref a],[]⟩ [.ref a] [.ref a] _ _ hr e0 (hbind s₁ (.ref a)) (.cons rfl .nil) (hsp H hO hS)) fun r s' h=>?_
  cases r with
  | error e=>exact (hCX H e s' h).elim
  | ok fl =>
   cases fl with
   | next=>exact False.elim h
   | brk=>exact False.elim h
   | cont=>exact False.elim h
   | ret u =>
    obtain ⟨v,H',os,bare,un,hok',r',q⟩:=h
    have q':v=.bl true:=q
    subst q'
    obtain rfl:u=Value.bool true:=r'
    refine ⟨rfl,OldK.of_keep fun b o e=>?_,os,bare⟩
    cases q:H b with
    | none=>exact un.keep b o e q (by intro z; exact absurd (show b∈([]:List Addr) from z) (by simp)) (by simp)
    | some u =>
     rcases hO b with z | ⟨ob,xs,z⟩
     ·rw [q] at z; cases z
     ·have z2:=un.frzs b ob _ z
      obtain ⟨e1,_⟩:=hok b _ z
      obtain ⟨e2,_⟩:=hok' b _ z2
      rw [e] at e1; cases e1
      exact e2
 cases hk:K.lookup a with
 | some o =>
  -- the script is one of the module's own objects
  have e:=KX a o hk
  rw [ha] at e
  cases e
  refine core (fun _=>none) (fun _=>.inl rfl) (.inr ⟨_,vs.toArray,_,hk,rfl,rfl,rfl,by rw [List.size_toArray,lenV]; exact hl,by simpa using rv⟩) (fun b u z=>by have z':(none:Option HO)=some u:=z; cases z') (fun b z=>absurd rfl z) fun z=>absurd rfl z
 | none =>
  refine core (fun b=>if b=a then some (.frz { cls:=.type "list",data:=.seq vs.toArray } (.lst (ns.map V.int))) else none) (fun b=>?_) (.inl (.inr ⟨{ cls:=.type "list",data:=.seq vs.toArray },if_pos rfl⟩)) (fun b u z=>?_) (fun b z=>?_) fun _=>hk
  ·by_cases hb:b=a
   ·exact .inr ⟨_,_,if_pos hb⟩
   ·exact .inl (if_neg hb)
  ·by_cases hb:b=a
   ·have z':=(if_pos hb).symm.trans z
    cases z'
    subst hb
    exact ⟨ha,by rw [List.length_map]; exact hl,vs,_,rv,ha⟩
   ·have z':=(if_neg hb).symm.trans z
    cases z'
  ·by_cases hb:b=a
   ·exact hb
   ·exact absurd (if_neg hb) z
end L2
namespace L2
open PySem PySem.Spec PyProof.Rows
theorem walk_of {l:PySem.W.OpenLaw} {n k:Nat} {q:Program} {loose:List Str} {XP:(Str→Option Value)→Heap→Prop} {YP:World→Heap→Prop} {d:DefRec} {K:Params→PySem.W.Frag} {CX:World→CXT} {sp:World→Sp} {x:Str}
  (hn:l.most=some n) (hn2:n≤sizeLine) (hdf:d.params.defaults=[]) (hr:Room k callerA)
  (hY:∀ (w:World) (h:Heap),YP w h→(K w.params).In h)
  (F:∀ (w:World) (mg:Str→Option Value) (fa:Addr) (h:Heap),(K w.params).In h→h.Ns mainGlobals mg→mg d.name=some (.ref fa) →
   ∃ fd:FuncData,(∀ (s:Shared) (u:Value),BindsTo s fd ⟨[u],[]⟩ [(x,u)]) ∧
    ∀ base:Heap,(K w.params).In base→base.Ns mainGlobals mg→FnOk l.prog w (K w.params) mg base (CX w) k fa fd [x] (sp w))
  (hsp:∀ (w:World) (H:Hp) (a:Addr) (ns:List Int),ns.length≤n→Only H→SqL (K w.params) H a (ns.map V.int)→sp w [.ref a] H (fun v _=>v=.bl true) fun _ _ _=>False)
  (hCX:∀ (w:World) (H:Hp) (s:Shared) (e:Value) (s':Shared),CX w [] H s (fun _ _ _=>False) e s'→False) :
  PySem.W.WalkO q loose XP YP l.row.toRowW d [] (fun f vs=>PySem.call f vs):=by
 refine Att.attach_call hn hdf fun w s₀ s₁ mg mb fa o pm cd doc a vs ns G Y ho hd hcd hmg hobj hints hlen hg=>?_
 have KX:=hY w _ Y
 obtain ⟨fd,hb,hF⟩:=F w mg fa _ KX G.T.g hmg
 exact aic KX G.T.g G.T.b G.T.builtins G.T.nolimit hg hobj hints (Nat.le_trans hlen hn2) hr hF hb (fun H hO hS=>hsp w H a ns hlen hO hS) fun H e s'=>hCX w H s₁ e s'
end L2
namespace L2
open PySem PySem.Spec PyProof.Rows
abbrev CX0:CXT:=fun _ _ _ _ _ _=>False
abbrev E0:XK:=fun _ _ _=>False
theorem aj5 {X:Cx}:afG CX0 X E0:=fun _ _ _ _ _ _ _ h=>h.elim
structure Fun (K:PySem.W.Frag) (x qual:Str) (st:Stmt) (f:Addr) (fd:FuncData):Prop where
 ex:∃ (oc:Value) (od:Option Addr) (kV doc pm:Value) (an:Option Addr) (cdv ct:Value) (osl:Array (Option Value)),
  fd=PySem.W.fnOf x qual (aaB st) (aax st) (aae st) .none kV doc pm an cdv ct∧K.lookup f=some ⟨oc,od,.func fd,osl⟩∧PySem.W.codeIn K cdv qual=true
 kp:PySem.W.keepIn K (.ref f)=true
section
variable {P:Program} {w:World} {K:PySem.W.Frag} {mg:Str→Option Value} {base:Heap}
theorem Fun.ok {x qual:Str} {st:Stmt} {f:Addr} {fd:FuncData} {N ps:List Str} {k:Nat} {sp:Sp} (F:Fun K x qual st f fd) (S:aaG N ps (aae st)) (len:∀ vs H Q E,sp vs H Q E→vs.length=ps.length)
  (hbody:∀ (cdv:Value) (A:Around) (outer:List Env) (s:Shared) (H:Hp) (vs:List V) (Q:VK) (E:XK),Room k (A.deeper (envOfC qual (aae st) s.heap.objs.size f cdv))→sp vs H Q E →
   ∃ t,PSs (cxOf CX0 P w K mg base N qual (aae st) f cdv A outer s H E).nox (aax st) t∧t { nx:=fun _ H'=>Q .non H',rt:=Q } (start N vs) H):FnOk P w K mg base CX0 (k+1) f fd ps sp:=by
 obtain ⟨oc,od,kV,doc,pm,an,cdv,ct,osl,rfl,lk,hcd⟩:=F.ex
 refine ajq lk hcd S len fun A outer s H vs Q E hr hsp=>?_
 obtain ⟨t,h,q⟩:=hbody cdv A outer s H vs Q E hr hsp
 exact ⟨t,h.nox,q⟩
theorem Fun.binds {x qual:Str} {st:Stmt} {f:Addr} {fd:FuncData} {ps:List Str} (F:Fun K x qual st f fd)
  (h:∀ (kV doc pm:Value) (an:Option Addr) (cdv ct:Value) (us:List Value),us.length=ps.length→bindArgs (PySem.W.fnOf x qual (aaB st) (aax st) (aae st) .none kV doc pm an cdv ct) ⟨us,[]⟩=pure (ps.zip us)):acb K fd ps []:=by
 obtain ⟨oc,od,kV,doc,pm,an,cdv,ct,osl,rfl,lk,hcd⟩:=F.ex
 exact .all (h kV doc pm an cdv ct)
theorem abc {x qual:Str} {st:Stmt} {f:Addr} {oc:Value} {od an:Option Addr} {osl:Array (Option Value)} {kV doc pm cdv ct:Value} (l:K.lookup f=some ⟨oc,od,.func (PySem.W.fnOf x qual (aaB st) (aax st) (aae st) .none kV doc pm an cdv ct),osl⟩)
  (c:PySem.W.codeIn K cdv qual=true) (k:PySem.W.keepIn K (.ref f)=true):Fun K x qual st f (PySem.W.fnOf x qual (aaB st) (aax st) (aae st) .none kV doc pm an cdv ct):=⟨⟨oc,od,kV,doc,pm,an,cdv,ct,osl,rfl,l,c⟩,k⟩
end
section
variable {X:Cx}
theorem pv (i:Nat) {x:Str} {pos:Pos} (hN:X.N[i]?=some x:=by rfl) (hv:Vis X.env.scope x:=by first | exact Or.inl rfl | exact Or.inr (Or.inl rfl) | exact Or.inr (Or.inr rfl)) (hd:(x == ("__debug__":Str))=false:=by decide)
  (hcd:(x == ("__classdict__":Str))=false:=by decide):PE X (.Name x pos) (tVar i):=aiC hN hv hd hcd
end
def Same (H H':Hp):Prop:=∀ b o,H b=some o→H' b=some o
theorem Same.refl (H:Hp):Same H H:=fun _ _ h=>h
end L2
namespace Bn
def Bd (k:Nat) (i:Int):Prop:=i.natAbs < 2 ^ k
theorem Bd.mono {j k:Nat} {i:Int} (h:Bd j i) (l:j≤k):Bd k i:=Nat.lt_of_lt_of_le h (Nat.pow_le_pow_right (by decide) l)
theorem Bd.mul {j k:Nat} {a b:Int} (h:Bd j a) (g:Bd k b):Bd (j+k) (a*b):=by
 unfold Bd at *
 rw [Int.natAbs_mul,Nat.pow_add]
 exact Nat.mul_lt_mul'' h g
theorem Bd.neg {k:Nat} {a:Int} (h:Bd k a):Bd k (-a):=by
 unfold Bd at *
 rw [Int.natAbs_neg]
 exact h
theorem Bd.of {k n:Nat} {a:Int} (l:a.natAbs≤n) (h:n < 2 ^ k):Bd k a:=Nat.lt_of_le_of_lt l h
theorem Bd.log {k:Nat} {a:Int} (h:Bd k a) (hk:0 < k):a.natAbs.log2 < k:=by
 rcases Nat.eq_zero_or_pos a.natAbs with z | z
 ·rw [z]
  exact Nat.lt_of_le_of_lt (Nat.le_of_eq (by decide)) hk
 ·exact (Nat.log2_lt (Nat.ne_of_gt z)).mpr h
theorem aeR (a:Int) {b:Int} (h:b≠0):(a.fmod b).natAbs < b.natAbs:=by
 rw [Int.fmod_eq_emod]
 have h1:=Int.emod_nonneg a h
 have h2:a % b < (b.natAbs:Int):=Int.emod_lt a h
 by_cases c:0≤b∨b ∣ a
 ·rw [if_pos c]
  omega
 ·rw [if_neg c]
  have hb:b < 0:=by omega
  have h3:a % b≠0:=fun z=>c (.inr (Int.dvd_of_emod_eq_zero z))
  have h4:b.natAbs=(-b).toNat:=by omega
  omega
theorem afO (a b:Int):Int.gcd b (a.fmod b)=Int.gcd a b:=by
 rw [Int.fmod_def,Int.mul_comm,Int.gcd_sub_mul_right_right,Int.gcd_comm]
theorem ahC (x:Int):(if x < 0 then -x else x)=(x.natAbs:Int):=by
 split <;> omega
end Bn
namespace Bn
def gl:List Int→Int→Int
 | [],g=>g
 | n :: r,g=>gl r (Int.gcd g n:Nat)
def low (ns:List Int):List Int:=if gl ns 0=0 then ns else ns.map (· / gl ns 0)
theorem akp:∀ (ns:List Int) (g:Int),0≤g→0≤gl ns g
 | [],_,h=>h
 | _ :: r,_,_=>akp r _ (Int.natCast_nonneg _)
theorem ahE:∀ (ns:List Int) (g:Int),gl ns g ∣ g∧∀ n∈ns,gl ns g ∣ n
 | [],g=>⟨Int.dvd_refl g,fun _ h=>nomatch h⟩
 | m :: r,g=>by
  obtain ⟨h1,h2⟩:=ahE r ((Int.gcd g m:Nat):Int)
  refine ⟨Int.dvd_trans h1 (Int.gcd_dvd_left ..),fun n hn=>?_⟩
  rcases List.mem_cons.mp hn with q | q
  ·subst q
   exact Int.dvd_trans h1 (Int.gcd_dvd_right ..)
  ·exact h2 n q
theorem aj1 {ns:List Int} (h:gl ns 0=0):∀ n∈ns,n=0:=fun n hn=>by
 have:=(ahE ns 0).2 n hn
 rw [h] at this
 exact Int.zero_dvd.mp this
theorem akZ {ns:List Int} {n:Int} (hn:n∈ns) (h:n≠0):gl ns 0≠0:=fun z=>h (aj1 z n hn)
theorem aiv {ns:List Int} {n:Int} (hn:n∈ns) (h:n≠0):0 < gl ns 0:=by
 have h1:=akp ns 0 (Int.le_refl 0)
 have h2:=akZ hn h
 omega
theorem aiz {ns:List Int} {n:Int} (hn:n∈ns) (h:n≠0):low ns=ns.map (· / gl ns 0):=by
 unfold low
 rw [if_neg (akZ hn h)]
theorem Bd.gcd {k:Nat} {a b:Int} (h:Bd k a) (g:Bd k b):Bd k (Int.gcd a b:Nat):=by
 unfold Bd at *
 rw [Int.natAbs_natCast]
 rcases Nat.eq_zero_or_pos a.natAbs with z | z
 ·have:a=0:=by omega
  subst this
  rw [Int.gcd_zero_left]
  exact g
 ·exact Nat.lt_of_le_of_lt (Nat.gcd_le_left _ z) h
theorem akv {k:Nat}:∀ {ns:List Int} {g:Int},Bd k g→(∀ n∈ns,Bd k n)→Bd k (gl ns g)
 | [],_,h,_=>h
 | n :: r,g,h,hn=>by
  show Bd k (gl r _)
  exact akv (ns:=r) (h.gcd (hn n List.mem_cons_self)) fun m hm=>hn m (List.mem_cons_of_mem _ hm)
def fr (t b:Int):List Int:=if b < 0 then low [0 - t,0 - b] else low [t,b]
theorem mem2 (a b:Int):b∈[a,b]:=List.mem_cons_of_mem _ List.mem_cons_self
def sg (n:Int):Int:=if 0 < n then 1 else if n < 0 then -1 else 0
theorem af4 {b:Int} (h:b≠0):(0 < b∧sg b=1)∨(b < 0∧sg b=-1):=by
 unfold sg
 by_cases c:0 < b
 ·exact .inl ⟨c,if_pos c⟩
 ·have d:b < 0:=by omega
  exact .inr ⟨d,by rw [if_neg c,if_pos d]⟩
theorem afU (t b:Int):gl [t,b] 0=(Int.gcd t b:Nat):=by
 show ((Int.gcd ((Int.gcd 0 t:Nat):Int) b:Nat):Int)=_
 rw [Int.gcd_zero_left]
 congr 1
theorem agk {g n:Int} (h:g≠0):(g*n).fdiv g=n:=by
 rw [Int.fdiv_eq_ediv_of_dvd ⟨n,rfl⟩,Int.mul_ediv_cancel_left _ h]
theorem acA {g n:Int} (h:g≠0):(g*n).fdiv (-1*g)=-n:=by
 have e:g*n=(-1*g)*(-n):=by
  rw [Int.neg_mul,Int.one_mul,Int.neg_mul_neg]
 rw [e]
 exact agk (by omega)
theorem ahq {t b:Int} (h:b≠0):[t.fdiv (sg b*(Int.gcd t b:Nat)),b.fdiv (sg b*(Int.gcd t b:Nat))]=fr t b:=by
 have gp:=aiv (mem2 t b) h
 rw [afU] at gp
 have gn:((Int.gcd t b:Nat):Int)≠0:=by omega
 obtain ⟨n,en⟩:=Int.gcd_dvd_left (a:=t) (b:=b)
 obtain ⟨m,em⟩:=Int.gcd_dvd_right (a:=t) (b:=b)
 have ht:t=((Int.gcd t b:Nat):Int)*n:=en
 have hb:b=((Int.gcd t b:Nat):Int)*m:=em
 generalize hg:((Int.gcd t b:Nat):Int)=g at *
 rcases af4 h with ⟨c,s⟩ | ⟨c,s⟩
 ·rw [s,Int.one_mul]
  have e1:fr t b=[t / g,b / g]:=by
   unfold fr
   rw [if_neg (by omega),aiz (mem2 t b) h,afU,hg]
   rfl
  have e2:t.fdiv g=t / g:=Int.fdiv_eq_ediv_of_dvd ⟨n,ht⟩
  have e3:b.fdiv g=b / g:=Int.fdiv_eq_ediv_of_dvd ⟨m,hb⟩
  rw [e1,e2,e3]
 ·rw [s]
  have e1:fr t b=[(0 - t) / g,(0 - b) / g]:=by
   unfold fr
   rw [if_pos c,aiz (mem2 (0 - t) (0 - b)) (by omega),afU,Int.zero_sub,Int.zero_sub,Int.neg_gcd,Int.gcd_neg,hg]
   rfl
  have e2:t.fdiv (-1*g)=-n:=by
   conv=>lhs; lhs; rw [ht]
   exact acA gn
  have e3:b.fdiv (-1*g)=-m:=by
   conv=>lhs; lhs; rw [hb]
   exact acA gn
  have e4:(0 - t) / g=-n:=by
   rw [ht,Int.zero_sub,← Int.mul_neg,Int.mul_ediv_cancel_left _ gn]
  have e5:(0 - b) / g=-m:=by
   rw [hb,Int.zero_sub,← Int.mul_neg,Int.mul_ediv_cancel_left _ gn]
  rw [e1,e2,e3,e4,e5]
end Bn
namespace Bn
def sm (xs:List Int) (w:Int) (ys:List Int) (v:Int):List Int:=List.zipWith (fun x y=>x*v+y*w) xs ys
end Bn
namespace L2
open PySem PySem.Spec PyProof.Rows Bn
section
variable {X:Cx}
theorem agV {k:Nat} {i:Int} (h:Bd k i):Builtin.Int.intBits i≤k:=by
 unfold Builtin.Int.intBits
 split
 ·exact Nat.zero_le _
 ·rename_i c
  have z:i.natAbs≠0:=by
   intro q
   have:i=0:=by omega
   subst this
   exact c rfl
  have:=(Nat.log2_lt z).mpr h
  omega
def afj (_ j:Int):Prop:=j≠0∧Bd 8000 j
theorem adg:OpR X (binaryOp .FloorDiv) (rI afj fun i j=>.int (i.fdiv j)) :=
 opI fun _ _ _ _ _ _ _ hc q=>floordiv_int hc.1 q (.inl (PyProof.noPylong_of_log2 (Nat.lt_trans (hc.2.log (by decide)) (by decide))))
theorem PS.imp {st:Stmt} {t t':TS} (h:PS X st t) (i:∀ D σ H,t' D σ H→t D σ H):PS X st t':=fun pins s σ H D I q=>h pins s σ H D I (i D σ H q)
theorem PSs.imp {st:List Stmt} {t t':TS} (h:PSs X st t) (i:∀ D σ H,t' D σ H→t D σ H):PSs X st t':=fun pins s σ H D I q=>h pins s σ H D I (i D σ H q)
theorem PE.imp {e:Expr} {t t':TE} (h:PE X e t) (i:∀ σ H Q,t' σ H Q→t σ H Q):PE X e t':=fun pins s σ H Q I q=>h pins s σ H Q I (i σ H Q q)
theorem PT.imp {e:Expr} {t t':TT} (h:PT X e t) (i:∀ σ H Q,t' σ H Q→t σ H Q):PT X e t':=fun pins s σ H Q I q=>h pins s σ H Q I (i σ H Q q)
theorem Inv.turnedNew {pins:List (Addr × Obj)} {σ:St} {H:Hp} {s:Shared} {h':Heap} {t':Nat} {ch:List Addr} {a:Addr} {o:HO} (I:Inv X pins σ H s) (hf:∀ b∈ch,FpOk X pins H b)
  (k:∀ b u,b ∉ ch→s.heap.get? b=some u→h'.get? b=some u) (hp:s.heap.objs.size≤a) (new:abQ X.prog X.w (upd H a o) h' a o) :
  Inv X pins σ (upd H a o) { s with heap:=h',toks:=t' }:=by
 have hn:H a=none:=I.hok.fresh hp
 have nch:∀ b u,H b=some u→b ∉ ch:=fun b u e z=>by
  rw [(hf b z).1] at e
  cases e
 have nea:∀ b u,H b=some u→b≠a:=fun b u e=>aaL e hn
 refine I.step (g':=s.gens) (d':=s.drawn) (ch:=ch) (fun b hb=>?_) (fun b u _ _ hc e _=>k b u hc e) (fun b u _ _ hc e _=>⟨u.slots,k b u hc e⟩) (fun b u _ e n=>?_)
  (fun b u hc e=>⟨u,k b u hc e⟩) (fun b xs e=>?_) (fun b u v e=>?_) (fun b ps e=>⟨#[],?_⟩) (fun m hm=>?_) (fun b u e=>?_) I.bare
 ·obtain ⟨_,f1,_,f3,f4,f5⟩:=hf b hb
  exact ⟨f3,f1,f4,f5⟩
 ·rw [aaF (Nat.ne_of_lt (Nat.lt_of_lt_of_le (Heap.lt_size e) hp))]
  exact n
 ·rw [aaF (nea b _ e)]
  exact e
 ·rw [aaF (nea b _ e)]
  exact e
 ·rw [aaF (nea b _ e),e]
  simp
 ·obtain ⟨ob,es,ep,ho,r⟩:=hm
  exact ⟨ob,es,ep,k _ ob (fun z=>(hf _ z).2.1 rfl) ho,r⟩
 ·by_cases hb:b=a
  ·subst hb
   rw [abg] at e
   cases e
   exact new
  ·rw [aaF hb] at e
   refine (I.hok b u e).stay (fun c v hc q=>k c v ?_ q) (fun c q=>?_) fun c xs q=>?_
   ·rcases hc with z | z
    ·rw [z]
     exact nch b u e
    ·exact nch c _ z
   ·rw [aaF (nea c _ q)]
    exact q
   ·rw [aaF (nea c _ q)]
    exact q
theorem Inv.turnedL {pins:List (Addr × Obj)} {σ:St} {H:Hp} {s:Shared} {h':Heap} {t':Nat} {ch:List Addr} (I:Inv X pins σ H s) (hf:∀ b∈ch,FpOk X pins H b)
  (k:∀ b u,b ∉ ch→s.heap.get? b=some u→h'.get? b=some u):Inv X pins σ H { s with heap:=h',toks:=t' }:=by
 have nch:∀ b u,H b=some u→b ∉ ch:=fun b u e z=>by
  rw [(hf b z).1] at e
  cases e
 refine I.step (g':=s.gens) (d':=s.drawn) (ch:=ch) (fun b hb=>?_) (fun b u _ _ hc e _=>k b u hc e) (fun b u _ _ hc e _=>⟨u.slots,k b u hc e⟩) (fun b u _ e n=>n)
  (fun b u hc e=>⟨u,k b u hc e⟩) (fun b xs e=>e) (fun b u v e=>e) (fun b ps e=>⟨#[],?_⟩) (fun m hm=>?_) (fun b u e=>?_) I.bare
 ·obtain ⟨_,f1,_,f3,f4,f5⟩:=hf b hb
  exact ⟨f3,f1,f4,f5⟩
 ·rw [e]
  simp
 ·obtain ⟨ob,es,ep,ho,r⟩:=hm
  exact ⟨ob,es,ep,k _ ob (fun z=>(hf _ z).2.1 rfl) ho,r⟩
 ·refine (I.hok b u e).stay (fun c v hc q=>k c v ?_ q) (fun c q=>q) fun c xs q=>q
  rcases hc with z | z
  ·rw [z]
   exact nch b u e
  ·exact nch c _ z
end
def Ite (K : PySem.W.Frag) (a : Addr) : It :=
  ⟨fun i H => ∃ xs x, SqL K H a xs ∧ xs[i]? = some x,
   fun i H x H' => ∃ p y, H p = none ∧ x = .ref p ∧ H' = upd H p (.tup [.int i, y]) ∧ ∀ xs, SqL K H a xs → xs[i]? = some y,
   fun i H => ∃ xs, SqL K H a xs ∧ xs.length ≤ i⟩
theorem agO {P:Program} {w:World} {K:PySem.W.Frag} {elts:List Expr} {x1:Nat} {tp:Pos} (a e it:Addr) (hne:e≠it) :
  Turn P w K (.Tuple elts x1 tp) (Ite K a) [e,it] e (fun i h=>(∃ old,IsEnum h e it (i:Int) old)∧h.IsListIter it a i) where
 mem:=by simp
 obj:=fun i h st b hb=>by
  obtain ⟨⟨old,q⟩,o,e1,c,d⟩:=st
  rcases List.mem_cons.mp hb with z | z
  ·subst z
   exact ⟨_,q,fun v z=>nomatch z⟩
  ·have z':b=it:=by simpa using z
   subst z'
   exact ⟨o,e1,fun v z=>by rw [d] at z; cases z⟩
 keep:=fun i h h' st k=>⟨let ⟨old,q⟩:=st.1; ⟨old,k e (by simp) _ q⟩,st.2.at fun o q=>k it (by simp) o q⟩
 item:=by
  intro X hP hw hK hc i pins s σ H E I hf st hg
  subst hP hw hK
  obtain ⟨xs,x,hq,hx⟩:=hg
  obtain ⟨its,rv,pl,hz⟩:=I.list hq
  obtain ⟨u,hu,ru⟩:=rv.get hx
  obtain ⟨⟨old,he⟩,hit⟩:=st
  refine wpAny_pyNext_enum_item he hit pl.isList (x:=u) (by simpa using hu) hne fun h1 ho1 hit1 ht1 hs1 hk1=>⟨_,rfl,?_⟩
  have lt1:e < s.heap.objs.size:=Heap.lt_size he
  refine wpAny_letOwnedTupleGo_enum (s:={ s with heap:=h1,toks:=s.toks+1 }) ho1 fun h2 he2 sb2=>?_
  have ht2:h2.get? s.heap.objs.size=some { cls:=.type "tuple",data:=.seq #[.int i s.toks,u] }:=(sb2.2 _ (Nat.ne_of_gt lt1)).trans ht1
  have I2:Inv X pins σ (upd H s.heap.objs.size (.tup [.int i,x])) { s with heap:=h2,toks:=s.toks+1 } :=
   I.turnedNew hf (fun b o hb q=>(sb2.2 b (fun z=>hb (by simp [z]))).trans (hk1 b o (fun z=>hb (by simp [z])) (fun z=>hb (by simp [z])) q)) (Nat.le_refl _)
    ⟨by show 2≤sizeLine; decide,[.int i s.toks,u],.cons ⟨_,rfl⟩ (.cons ru .nil),⟨_,ht2,rfl,_,rfl⟩⟩
  refine ⟨.ref s.heap.objs.size,_,I2,rfl,⟨_,x,I.hok.fresh (Nat.le_refl _),rfl,rfl,fun ys hy=>by rw [I.list_inj hy hq]; exact hx⟩,⟨⟨_,by simpa using he2⟩,hit1.at fun o q=>(sb2.2 it hne.symm).trans q⟩,fun b hb=>?_⟩
  have hb':=(hf b hb).1
  have lt:b≠s.heap.objs.size:=by
   rcases List.mem_cons.mp hb with z | z
   ·subst z
    exact Nat.ne_of_lt lt1
   ·have z':b=it:=by simpa using z
    subst z'
    obtain ⟨o,q,_⟩:=hit
    exact Nat.ne_of_lt (Heap.lt_size q)
  rw [aaF lt]
  exact hb'
 done:=by
  intro X hP hw hK hc i pins s σ H E I hf st hg
  subst hP hw hK
  obtain ⟨xs,hq,hx⟩:=hg
  obtain ⟨its,rv,pl,hz⟩:=I.list hq
  obtain ⟨⟨old,he⟩,hit⟩:=st
  have hl:=rv.length
  exact wpAny_pyNext_enum_end (I.ok.hd hc) he hit pl.isList (by simp; omega) fun h' eb=>⟨rfl,I.turnedL (t':=s.toks) hf fun b o hb q=>eb b o (fun z=>hb (by simp [z])) q⟩
 self:=fun _ _ _ _ _ st h=>let ⟨_,q⟩:=st.1; wpAny_pyIter_enum q h
section
variable {X:Cx} {elts:List Expr} {x1:Nat} {tp:Pos}
def alr (K:PySem.W.Frag) (tl:TA):TI:=fun σ H R=>tl σ H fun vs H1=>∃ a,vs=[.ref a]∧(∃ xs,SqL K H1 a xs)∧R (Ite K a) H1
theorem ajn {l:Expr} {tl:TA} {p pos:Pos} (hg:Gl X "enumerate") (hm:X.mg "enumerate"=none) (hl:PA X [l] tl) (hs:starEach [l] X.env=[(false,eval l X.env)]:=by rfl) :
  PI X (.Tuple elts x1 tp) (.Call (.Name "enumerate" p) [l] [] pos) (alr X.K tl):=by
 intro pins s σ H R I h
 refine Call_ (aeF I hg hm boot_enumerate (PyProof.Rows.callWith_type1 (thn (hl pos pins s σ H _ I h) fun us s1 ⟨vs,H1,I1,r1,q1⟩=>?_) hs rfl))
 obtain ⟨a,rfl,⟨xs,hq⟩,q⟩:=q1
 obtain ⟨u,rfl,ru⟩:=ada r1
 cases ru
 obtain ⟨its,rv,pl,hz⟩:=I1.list hq
 refine call_enumerate_list pl.isList fun h' he hit hsz k=>?_
 have I2:Inv X pins σ H1 { s1 with heap:=h' }:=I1.kept (t':=s1.toks) k
 refine wpAny_pyIter_enum (s:={ s1 with heap:=h' }) he ?_
 refine ⟨s1.heap.objs.size+1,[s1.heap.objs.size+1,s1.heap.objs.size],_,_,H1,rfl,I2,agO a _ _ (Nat.succ_ne_self _),⟨⟨_,he⟩,hit⟩,fun b hb=>?_,q⟩
 have hb':s1.heap.objs.size≤b:=by
  rcases List.mem_cons.mp hb with z | z
  ·rw [z]
   exact Nat.le_succ _
  ·have z':b=s1.heap.objs.size:=by simpa using z
   rw [z']
   exact Nat.le_refl _
 exact I1.fpOk hb' (I1.hok.fresh hb')
end
end L2
namespace L2
open PySem PySem.Spec PyProof.Rows Bn
def adi (env:Env):List (Str × NameKind)→List (Str × Addr)→List (Str × Addr)
 | [],acc=>acc
 | p :: r,acc=>if (p.2 == .free)=true then adi env r ((p.1,(env.cells.lookup p.1).getD 0) :: acc) else adi env r acc
theorem ajG {sc:Scope} {env:Env} (h:∀ p∈sc.names,p.2=.free→∃ c,env.cells.lookup p.1=some c):closureFor sc env=pure (adi env sc.names []):=by
 unfold closureFor
 have go:∀ (l:List (Str × NameKind)) (acc:List (Str × Addr)),(∀ p∈l,p.2=.free→∃ c,env.cells.lookup p.1=some c) →
   (forIn l acc (fun x r=>if (x.2 == NameKind.free)=true then do let a ← cellOf env x.1; pure (ForInStep.yield ((x.1,a) :: r)) else pure (ForInStep.yield r)):Sem _)=pure (adi env l acc):=by
  intro l
  induction l with
  | nil=>intro acc _; rfl
  | cons p r ih =>
   intro acc hp
   rw [List.forIn_cons]
   have hr:=fun acc'=>ih acc' fun q hq=>hp q (List.mem_cons_of_mem _ hq)
   by_cases c:(p.2 == NameKind.free)=true
   ·obtain ⟨a,ea⟩:=hp p List.mem_cons_self (by simpa using c)
    have e1:cellOf env p.1=pure a:=by unfold cellOf; rw [ea]
    rw [if_pos c,e1]
    simp only [pure_bind]
    rw [hr]
    show _=pure (if (p.2 == .free)=true then _ else _)
    rw [if_pos c,ea]
    rfl
   ·rw [if_neg c]
    simp only [pure_bind]
    rw [hr]
    show _=pure (if (p.2 == .free)=true then _ else _)
    rw [if_neg c]
 have e:=go sc.names [] h
 show (forIn sc.names [] _ >>= fun r=>pure r)=_
 rw [bind_pure]
 exact e
theorem ac3 {env:Env}:∀ (l:List (Str × NameKind)) (acc:List (Str × Addr)),(∀ p∈l,p.2=.free→∃ c,env.cells.lookup p.1=some c) →
  ∀ y c,(adi env l acc).lookup y=some c→acc.lookup y=some c∨env.cells.lookup y=some c
 | [],acc,_,y,c,e=>.inl e
 | p :: r,acc,h,y,c,e=>by
  have hr:∀ q∈r,q.2=.free→∃ c,env.cells.lookup q.1=some c:=fun q hq=>h q (List.mem_cons_of_mem _ hq)
  unfold adi at e
  by_cases k:(p.2 == NameKind.free)=true
  ·rw [if_pos k] at e
   obtain ⟨a,ea⟩:=h p List.mem_cons_self (by simpa using k)
   rcases ac3 r _ hr y c e with z | z
   ·rw [List.lookup_cons] at z
    cases w:y == p.1 with
    | true =>
     rw [w,ea] at z
     have hy:y=p.1:=by simpa using w
     rw [hy,ea]
     exact .inr z
    | false =>
     rw [w] at z
     exact .inl z
   ·exact .inr z
  ·rw [if_neg k] at e
   exact ac3 r acc hr y c e
theorem acP {env:Env}:∀ (l:List (Str × NameKind)) (acc:List (Str × Addr)) (y:Str),((∃ c,acc.lookup y=some c)∨(y,NameKind.free)∈l)→∃ c,(adi env l acc).lookup y=some c
 | [],acc,y,h=>by
  rcases h with h | h
  ·exact h
  ·cases h
 | p :: r,acc,y,h=>by
  unfold adi
  by_cases k:(p.2 == NameKind.free)=true
  ·rw [if_pos k]
   refine acP r _ y ?_
   cases w:y == p.1 with
   | true=>exact .inl ⟨_,by rw [List.lookup_cons,w]⟩
   | false =>
    rcases h with ⟨c,h⟩ | h
    ·exact .inl ⟨c,by rw [List.lookup_cons,w]; exact h⟩
    ·rcases List.mem_cons.mp h with z | z
     ·rw [← z] at w
      simp at w
     ·exact .inr z
  ·rw [if_neg k]
   refine acP r _ y ?_
   rcases h with h | h
   ·exact .inl h
   ·rcases List.mem_cons.mp h with z | z
    ·rw [← z] at k
     simp at k
    ·exact .inr z
theorem ac9 {env:Env}:∀ {names:List (Str × NameKind)} {x:Str},(∀ y∈names,y.2≠.cell) →
  (let l:=(names.map fun (n,k)=>if (k == NameKind.free && env.scope.kind == .function && env.kindOf n == some .cell) then (n,NameKind.cell) else (n,k)).lookup x; l=some .cell∨l=some .free)→(x,NameKind.free)∈names
 | [],x,_,h=>by
  rcases h with h | h <;> cases h
 | (n,k) :: r,x,hc,h=>by
  dsimp only at h
  rw [List.map_cons] at h
  have ih:=@ac9 env r x fun y hy=>hc y (List.mem_cons_of_mem _ hy)
  have nk:k≠.cell:=hc (n,k) List.mem_cons_self
  by_cases c:(k == NameKind.free && env.scope.kind == .function && env.kindOf n == some .cell)=true
  ·have kf:k=.free:=by
    simp only [Bool.and_eq_true,beq_iff_eq] at c
    exact c.1.1
   dsimp only at h
   rw [if_pos c,List.lookup_cons] at h
   cases w:x == n with
   | true =>
    have hx:x=n:=by simpa using w
    rw [hx,← kf]
    exact List.mem_cons_self
   | false =>
    rw [w] at h
    exact List.mem_cons_of_mem _ (ih h)
  ·dsimp only at h
   rw [if_neg c,List.lookup_cons] at h
   cases w:x == n with
   | true =>
    rw [w] at h
    have hx:x=n:=by simpa using w
    have kf:k=.free:=by
     rcases h with h | h
     ·exact absurd (Option.some.inj h) nk
     ·exact Option.some.inj h
    rw [hx,← kf]
    exact List.mem_cons_self
   | false =>
    rw [w] at h
    exact List.mem_cons_of_mem _ (ih h)
def adc (X:Cx) (sc:Scope) (N:List Str) (C:Addr) (s₀:Shared) (H₀:Hp) (ex:List Addr):Cx where
 prog:=X.prog
 w:=X.w
 K:=X.K
 mg:=X.mg
 base:=X.base
 A:=X.A
 N:=N
 s₀:=s₀
 H₀:=H₀
 env:=compEnvC sc (adi X.env sc.names []) C X.env
 outer:=X.stack
 stack:=X.stack
 ex:=ex
 fn:=fun _=>false
 calm:=X.calm
 pn:=[]
 xe:=fun _ _=>False
def aex (own:List Str) (cap:List (Nat × Str)) (σ:St):St:=own.map (fun _=>none)++cap.map fun p=>(σ[p.1]?).join
def cmpN (own:List Str) (cap:List (Nat × Str)):List Str:=own++cap.map (·.2)
def cmpW (J:It) (g:TG) (te:TE) (σ₀:St) (H1:Hp) (D:Addr) (Q:VK):Prop :=
 ∃ W:Nat→Nat→St→Hp→List V→Prop,(∃ m,W 0 m σ₀ (upd H1 D (.lst [])) [])∧∀ i m σ H ys,W i m σ H ys→H D=some (.lst ys) ∧
  ((J.stop i H∧Q (.ref D) H)∨(J.go i H∧ys.length < sizeLine∧∀ x H2,J.yld i H x H2→g x σ H2 fun σ3 H3=>te σ3 H3 fun y H4=>H4 D=some (.lst ys)∧∃ m',m' < m∧W (i+1) m' σ3 (upd H4 D (.lst (ys++[y]))) (ys++[y])))
def ak1 (own:List Str) (cap:List (Nat × Str)) (wi:TI) (g:TG) (te:TE):TE:=fun σ H Q=>wi σ H fun J H1=>∀ D,H1 D=none→cmpW J g te (aex own cap σ) H1 D Q
def Nx (n:Nat) (Pv:Nat→St→Hp→List V→Prop) (D:Addr) (i:Nat) (ys:List V) (σ:St) (y:V) (H:Hp):Prop :=
 H D=some (.lst ys)∧∃ m,m < n - i∧(m=n - (i+1)∧i+1≤n∧Pv (i+1) σ (upd H D (.lst (ys++[y]))) (ys++[y]))
theorem alq {n:Nat} {Pv:Nat→St→Hp→List V→Prop} {D:Addr} {i:Nat} {ys:List V} {σ:St} {y:V} {H:Hp} (h:i < n) (hD:H D=some (.lst ys)) (p:Pv (i+1) σ (upd H D (.lst (ys++[y]))) (ys++[y])):Nx n Pv D i ys σ y H :=
 ⟨hD,n - (i+1),by omega,rfl,h,p⟩
theorem ajK {J:It} {g:TG} {te:TE} {σ₀:St} {H1:Hp} {D:Addr} {Q:VK} (n:Nat) (hn:n≤sizeLine) (Pv:Nat→St→Hp→List V→Prop) (h0:Pv 0 σ₀ (upd H1 D (.lst [])) [])
  (hl:∀ i σ H ys,Pv i σ H ys→ys.length=i∧H D=some (.lst ys)) (hgo:∀ i σ H ys,i < n→Pv i σ H ys→J.go i H)
  (hs:∀ i σ H ys x H2,i < n→Pv i σ H ys→J.yld i H x H2→g x σ H2 fun σ3 H3=>te σ3 H3 fun y H4=>Nx n Pv D i ys σ3 y H4)
  (hd:∀ σ H ys,Pv n σ H ys→J.stop n H∧Q (.ref D) H):cmpW J g te σ₀ H1 D Q:=by
 refine ⟨fun i m σ H ys=>m=n - i∧i≤n∧Pv i σ H ys,⟨n,rfl,Nat.zero_le _,h0⟩,?_⟩
 rintro i m σ H ys ⟨rfl,hi,p⟩
 obtain ⟨l1,l2⟩:=hl i σ H ys p
 refine ⟨l2,?_⟩
 by_cases hlt:i < n
 ·exact .inr ⟨hgo i σ H ys hlt p,by omega,fun x H2 y=>hs i σ H ys x H2 hlt p y⟩
 ·have e:i=n:=by omega
  subst e
  exact .inl (hd σ H ys p)
section
variable {prog:Program} {w:World} {A:Around} {R:Result→Shared→Prop} {s:Shared}
theorem agP {elt target iter:Expr} {sc:Scope} {pos:Pos} {it acc:Value} {env:Env} (I:Nat→Shared→Prop)
  (turn:∀ n s,I n s→wpAny (model prog w) A (pyNext it) (fun r s1=>match r with
   | none=>R (.ok .next) s1
   | some v=>wpAny (model prog w) A (letOwnedTupleGo target it v) (fun _ s2=>wpAny (model prog w) A (assign target env v) (fun _ s3=>wpAny (model prog w) A (eval elt env)
     (fun x s4=>wpAny (model prog w) A (call (.builtin "list.append") [acc,x]) (fun _ s5=>∃ m,m < n∧I m s5) (fun _ _=>False) s4) (fun _ _=>False) s3) (fun _ _=>False) s2) (fun _ _=>False) s1) (fun _ _=>False) s)
  (n:Nat) (h:I n s):codeAny (model prog w) A (.compLoop (.ListComp elt [⟨target,iter,[],0⟩] sc pos) 0 it acc env) R s:=by
 refine codeAny_loop rfl I (fun n s hI=>?_) n h
 show wpAny _ _ ((compTurn (.ListComp elt [⟨target,iter,[],0⟩] sc pos) 0 it acc env).onRaise (fun x=>do noteFrame x env; theTreesLotGoes x)) _ _ s
 refine wpAny_noted ?_
 rw [compTurn_list1]
 refine wpAny_bind (wpAny_standAt (wpAny_bind ?_))
 refine wpAny_mono (turn n s hI) (fun r s1 h1=>?_) fun _ _ z=>z.elim
 cases r with
 | none=>exact wpAny_pure h1
 | some v =>
  refine wpAny_bind (wpAny_mono h1 (fun _ s2 h2=>?_) fun _ _ z=>z.elim)
  refine wpAny_bind (wpAny_mono h2 (fun _ s3 h3=>?_) fun _ _ z=>z.elim)
  refine wpAny_bind (wpAny_bind (wpAny_mono h3 (fun x s4 h4=>?_) fun _ _ z=>z.elim))
  refine wpAny_bind (wpAny_mono h4 (fun _ s5 h5=>?_) fun _ _ z=>z.elim)
  exact wpAny_pure (wpAny_pure ⟨rfl,h5⟩)
end
structure afB (X:Cx) (sc:Scope) (own:List Str) (cap:List (Nat × Str)):Prop where
 kind:sc.kind=.function
 names:∀ y∈sc.names,y.2=.local→sc.names.lookup y.1=some .local
 nocell:∀ y∈sc.names,y.2≠.cell
 free:∀ y∈sc.names,y.2=.free→X.env.kindOf y.1=some .cell
 at':∀ p∈cap,X.N[p.1]?=some p.2
 cap:∀ p∈cap,sc.names.lookup p.2=some .free
section
variable {X:Cx} {sc:Scope} {own:List Str} {cap:List (Nat × Str)} {pins:List (Addr × Obj)} {σ:St} {H:Hp} {s:Shared}
theorem afB.has (k:afB X sc own cap) (ok:X.Ok):∀ p∈sc.names,p.2=.free→∃ c,X.env.cells.lookup p.1=some c:=fun p hp e=>ok.has p.1 (.inl (k.free p hp e))
theorem adE {env:Env}:∀ {names:List (Str × NameKind)} {x:Str},env.scope.kind=.function→names.lookup x=some .free→env.kindOf x=some .cell →
  (names.map fun (n,k)=>if (k == NameKind.free && env.scope.kind == .function && env.kindOf n == some .cell) then (n,NameKind.cell) else (n,k)).lookup x=some .cell
 | [],x,_,h,_=>by cases h
 | (n,k) :: r,x,hk,h,hx=>by
  rw [List.map_cons]
  dsimp only
  rw [List.lookup_cons] at h
  cases w:x == n with
  | true =>
   rw [w] at h
   have e:x=n:=by simpa using w
   have kf:k=.free:=Option.some.inj h
   have c:(k == NameKind.free && env.scope.kind == .function && env.kindOf n == some .cell)=true:=by
    rw [kf,hk,← e,hx]
    decide
   rw [if_pos c,List.lookup_cons,w]
  | false =>
   rw [w] at h
   have ih:=@adE env r x hk h hx
   by_cases c:(k == NameKind.free && env.scope.kind == .function && env.kindOf n == some .cell)=true
   ·rw [if_pos c,List.lookup_cons,w]
    exact ih
   ·rw [if_neg c,List.lookup_cons,w]
    exact ih
theorem Inv.cmp (k:afB X sc own cap) {h4:Heap} {fp:List Addr} {m:Str→Option Value} {t':Nat} (I:Inv X pins σ H s) (hf:∀ b∈fp,FpOk X pins H b) (hlt:∀ b∈fp,b < s.heap.objs.size) (hns:h4.Ns s.heap.objs.size m)
  (kp:∀ b o,s.heap.get? b=some o→h4.get? b=some o):Inv (adc X sc (cmpN own cap) s.heap.objs.size s H fp) [] (aex own cap σ) H { s with heap:=h4,toks:=t' }:=by
 have hcl:∀ y c,(adi X.env sc.names []).lookup y=some c→X.env.cells.lookup y=some c:=fun y c e=>by
  rcases ac3 sc.names [] (k.has I.ok) y c e with z | z
  ·cases z
  ·exact z
 have nst:∀ b∈fp,b ∉ frs X.stack:=fun b hb z=>by
  rcases List.mem_cons.mp (I.stkSub b z) with e | e
  ·exact (hf b hb).2.1 e
  ·exact (hf b hb).2.2.1 e
 refine ⟨⟨I.ok.mod,k.kind,I.ok.glob,I.ok.blt,Nat.le_refl _,fun x y c h1 h2=>I.ok.inj x y c (hcl x c h1) (hcl y c h2),fun x hx=>?_,fun x c e=>(nomatch e),I.ok.hd,I.ok.frames,.inl rfl,fun b hb=>⟨Nat.ne_of_lt (hlt b hb),fun x c e=>(hf b hb).2.2.2.2.1 x c (hcl x c e)⟩,
  I.bs,Nat.le_trans I.ok.bsz I.sz,fun b o e hb=>?_,nst,I.stack,I.stkFree⟩,rfl,I.bare,Un.kept kp,⟨m,hns,fun i x v h1 h2 h3=>?_⟩,fun x c e=>?_,I.hok.fresh (Nat.le_refl _),fun x c e=>I.freeC x c (hcl x c e),fun p hp=>absurd (show p∈([]:List (Addr × Obj)) from hp) (by simp),I.hok.kept kp,?_⟩
 ·exact acP sc.names [] x (.inr (ac9 k.nocell hx))
 ·rcases (hf b hb).2.2.2.1 with z | z
  ·exact I.ok.noex b o e z
  ·exact absurd (Nat.lt_of_lt_of_le (Heap.lt_size (I.ok.bs b o e).1) z) (Nat.lt_irrefl _)
 ·have hN:(cmpN own cap)[i]?=some x:=h1
  unfold cmpN at hN
  unfold aex at h2
  by_cases hi:i < own.length
  ·rw [List.getElem?_append_left (by simpa using hi),List.getElem?_map] at h2
   cases e:own[i]? with
   | none=>rw [e] at h2; cases h2
   | some z=>rw [e] at h2; cases h2
  ·rw [List.getElem?_append_right (by simpa using hi),List.getElem?_map,List.length_map] at h2
   rw [List.getElem?_append_right (by omega),List.getElem?_map] at hN
   cases e:cap[i - own.length]? with
   | none=>rw [e] at h2; cases h2
   | some p =>
    rw [e] at h2 hN
    have hp:p∈cap:=List.mem_of_getElem? e
    have hx:p.2=x:=Option.some.inj hN
    have hv:(σ[p.1]?).join=some v:=Option.some.inj h2
    have hv':σ[p.1]?=some (some v):=by
     cases e2:σ[p.1]? with
     | none=>rw [e2] at hv; cases hv
     | some z=>rw [e2] at hv; exact congrArg some hv
    have fr:=k.cap p hp
    have kc:X.env.kindOf p.2=some .cell:=k.free (p.2,.free) (PySem.mem_of_lookup fr) rfl
    obtain ⟨m0,_,hl⟩:=I.loc
    obtain ⟨u,ru,lk⟩:=hl p.1 p.2 v (k.at' p hp) hv' (.inr (.inl kc))
    refine ⟨u,ru,?_⟩
    rcases lk with ⟨k1,_⟩ | ⟨_,c,ec,cell⟩
    ·rw [kc] at k1
     cases k1
    ·rw [← hx]
     obtain ⟨c',ec'⟩:=acP (env:=X.env) sc.names [] p.2 (.inr (PySem.mem_of_lookup fr))
     have:=(hcl _ _ ec').symm.trans ec
     cases this
     obtain ⟨o,ho,hd⟩:=cell
     exact .inr ⟨.inl (adE I.ok.kind fr kc),c,ec',o,kp c o ho,hd⟩
 ·obtain ⟨v,o,ho,hd⟩:=I.cell x c (hcl x c e)
  exact ⟨v,o,kp c o ho,hd⟩
 ·unfold aex
  show _=(cmpN own cap).length
  unfold cmpN
  rw [List.length_append,List.length_append,List.length_map,List.length_map,List.length_map]
theorem Inv.uncmp {s3 s':Shared} {H3 H':Hp} {N:List Str} {σ':St} {C:Addr} {fp:List Addr} {pl:List (Addr × Obj)} (I:Inv X pins σ H s) (hf:∀ b∈fp,FpOk X pins H b) (u:Un (frs X.stack) fp H H3 s.heap s3.heap) (os:s3.os=s.os)
  (J:Inv (adc X sc N C s3 H3 fp) pl σ' H' s'):Inv X pins σ H' s':=by
 have os':s'.os=s.os:=(show s'.os=s3.os from J.os).trans os
 refine I.call' (ch:=fp) os' (u.trans J.base) J.hok J.bare fun b hb=>?_
 obtain ⟨_,f1,_,f3,f4,f5⟩:=hf b hb
 exact ⟨f3,f1,f4,f5⟩
end
end L2
namespace L2
open PySem PySem.Spec PyProof.Rows Bn
section
variable {X:Cx} {sc:Scope} {own:List Str} {cap:List (Nat × Str)} {pins:List (Addr × Obj)} {σ:St} {H:Hp} {s:Shared} {elt target iter:Expr} {pos pos':Pos} {wi:TI} {g:TG} {te:TE} {Q:VK}
theorem ahi {use:Option (Value→Sem Unit)} {Qf:Value→Shared→Prop} (k:afB X sc own cap) (hi:PI X target iter wi) (hc:X.calm=true)
  (hg:∀ C s₀ H₀ ex,PG (adc X sc (cmpN own cap) C s₀ H₀ ex) target g) (he:∀ C s₀ H₀ ex,PE (adc X sc (cmpN own cap) C s₀ H₀ ex) elt te) (I:Inv X pins σ H s) (h:ak1 own cap wi g te σ H Q)
  (fin:∀ D C s' H' m,Inv X pins σ H' s'→FpOk X pins H' C→s'.heap.Ns C m→Q (.ref D) H'→compPost (model X.prog X.w) X.A X.xe use Qf (.ref D) C (.ok .next) s')
  (hs:∀ x,foldedSetIterable iter X.env x=pure x) :
  wpAny (model X.prog X.w) X.A (comprehension (.ListComp elt [⟨target,iter,[],0⟩] sc pos) sc X.env pos' (newList []) false (eval iter X.env) use) Qf X.xe s:=by
 refine wpAny_comprehension_free (use:=use) rfl hs (ajG (k.has I.ok)) k.kind k.names ?_
 refine thn (hi pins s σ H _ I h) fun v s1 h1=>thn h1 fun itv s2 h2=>?_
 obtain ⟨it,fp,tn,J,H2,e,I2,T,st2,f2,hW⟩:=h2
 subst e
 refine wpAny_newObj_type (wpAny_newFunctionEnv k.nocell (fun y hy=>nomatch hy) (fun h4 hns hsb=>?_) k.kind)
 have I3:Inv X pins σ (upd H2 s2.heap.objs.size (.lst [])) { s2 with heap:=s2.heap.push { cls:=.type "list",data:=.seq ([]:List Value).toArray },toks:=s2.toks }:=I2.lnew (ys:=[]) (its:=[]) .nil (Nat.zero_le _)
 have hD:H2 s2.heap.objs.size=none:=I2.fresh
 have ltf:∀ b∈fp,b < s2.heap.objs.size:=fun b hb=>by
  obtain ⟨o,ho,_⟩:=T.obj _ _ st2 b hb
  exact Heap.lt_size ho
 have f3:∀ b∈fp,FpOk X pins (upd H2 s2.heap.objs.size (.lst [])) b:=fun b hb=>⟨by rw [aaF (Nat.ne_of_lt (ltf b hb))]; exact (f2 b hb).1,(f2 b hb).2⟩
 have un:Un (frs X.stack) fp H2 (upd H2 s2.heap.objs.size (.lst [])) s2.heap (s2.heap.push { cls:=.type "list",data:=.seq ([]:List Value).toArray }):=Un.laid (fun b u q=>Heap.get?_push_of_some _ q) (Nat.le_refl _) hD
 have kp:∀ b o,(s2.heap.push { cls:=.type "list",data:=.seq ([]:List Value).toArray }).get? b=some o→h4.get? b=some o:=fun b o q=>hsb.extBut b o (Nat.ne_of_lt (Heap.lt_size q)) (Heap.get?_push_of_some _ q)
 have J0:=I3.cmp (t':=s2.toks+([]:List (Str × Value)).length) k f3 (fun b hb=>Nat.lt_of_lt_of_le (ltf b hb) (by rw [Heap.size_push]; exact Nat.le_succ _)) hns kp
 have stat:∀ {H':Hp},(∀ b∈fp,H' b=none)→∀ b∈fp,FpOk (adc X sc (cmpN own cap) (s2.heap.push { cls:=.type "list",data:=.seq ([]:List Value).toArray }).objs.size { s2 with heap:=s2.heap.push { cls:=.type "list",data:=.seq ([]:List Value).toArray },toks:=s2.toks } (upd H2 s2.heap.objs.size (.lst [])) fp) [] H' b:=fun hn b hb =>
  ⟨hn b hb,(J0.ok.exf b hb).1,J0.ok.exfs b hb,.inl hb,(J0.ok.exf b hb).2,fun p hp=>absurd (show p∈([]:List (Addr × Obj)) from hp) (by simp)⟩
 have st4:tn 0 h4:=T.keep _ _ _ st2 fun b hb o q=>kp b o (Heap.get?_push_of_some _ q)
 have fr0:∀ b∈fp,(upd H2 s2.heap.objs.size (.lst [])) b=none:=fun b hb=>(f3 b hb).1
 have loop:codeAny (model X.prog X.w) X.A (.compLoop (.ListComp elt [⟨target,iter,[],0⟩] sc pos) 0 (.ref it) (.ref s2.heap.objs.size) (compEnvC sc (adi X.env sc.names []) (s2.heap.push { cls:=.type "list",data:=.seq ([]:List Value).toArray }).objs.size X.env))
   (compPost (model X.prog X.w) X.A X.xe use Qf (.ref s2.heap.objs.size) (s2.heap.push { cls:=.type "list",data:=.seq ([]:List Value).toArray }).objs.size) { s2 with heap:=h4,toks:=s2.toks+([]:List (Str × Value)).length }:=by
  obtain ⟨W,⟨m0,w0⟩,turn⟩:=hW s2.heap.objs.size hD
  refine agP (fun n s'=>∃ i σ' H' ys,Inv (adc X sc (cmpN own cap) (s2.heap.push { cls:=.type "list",data:=.seq ([]:List Value).toArray }).objs.size { s2 with heap:=s2.heap.push { cls:=.type "list",data:=.seq ([]:List Value).toArray },toks:=s2.toks } (upd H2 s2.heap.objs.size (.lst [])) fp) [] σ' H' s'∧tn i s'.heap∧(∀ b∈fp,H' b=none)∧W i n σ' H' ys) ?_ m0
   ⟨0,_,_,[],J0,st4,fr0,w0⟩
  rintro n s5 ⟨i,σ5,H5,ys,I5,st5,fr5,w5⟩
  obtain ⟨hD5,w5⟩:=turn i n σ5 H5 ys w5
  rcases w5 with ⟨stop,qn⟩ | ⟨go,hlt,step⟩
  ·refine thn (T.done (adc X sc (cmpN own cap) (s2.heap.push { cls:=.type "list",data:=.seq ([]:List Value).toArray }).objs.size { s2 with heap:=s2.heap.push { cls:=.type "list",data:=.seq ([]:List Value).toArray },toks:=s2.toks } (upd H2 s2.heap.objs.size (.lst [])) fp) rfl rfl rfl hc i [] s5 σ5 H5 _ I5 (stat fr5) st5 stop) fun r s6 ⟨hr,I6⟩=>?_
   subst hr
   obtain ⟨m,hn,_⟩:=id I6.loc
   exact fin _ _ s6 H5 m (I2.uncmp (s3:={ s2 with heap:=s2.heap.push { cls:=.type "list",data:=.seq ([]:List Value).toArray },toks:=s2.toks }) f2 un rfl I6) (I3.fpOk (Nat.le_refl _) I6.free) hn qn
  ·refine thn (T.item (adc X sc (cmpN own cap) (s2.heap.push { cls:=.type "list",data:=.seq ([]:List Value).toArray }).objs.size { s2 with heap:=s2.heap.push { cls:=.type "list",data:=.seq ([]:List Value).toArray },toks:=s2.toks } (upd H2 s2.heap.objs.size (.lst [])) fp) rfl rfl rfl hc i [] s5 σ5 H5 _ I5 (stat fr5) st5 go) fun r s6 ⟨u,hr,h6⟩=>?_
   subst hr
   refine thn h6 fun _ s7 ⟨x,H7,I7,r7,y7,st7,fr7⟩=>?_
   have I7':=I7.pinned (stat fr7) (T.obj _ _ st7)
   refine thn (hg _ _ _ _ _ s7 σ5 H7 x u _ I7' r7 (step x H7 y7)) fun _ s8 ⟨σ8,H8,I8,q8⟩=>?_
   refine thn (he _ _ _ _ _ s8 σ8 H8 _ I8 q8) fun v9 s9 ⟨y,H9,I9,r9,hD9,m',hm,w9⟩=>?_
   refine thn (aeI _ s9 σ8 H9 (.ref s2.heap.objs.size) [y] (.ref s2.heap.objs.size) [v9] (fun _ H'=>H'=upd H9 s2.heap.objs.size (.lst (ys++[y]))) I9 rfl (.cons r9 .nil) ⟨_,ys,y,rfl,rfl,hD9,hlt,rfl⟩) fun _ s10 ⟨_,H10,I10,_,q10⟩=>?_
   subst q10
   refine ⟨m',hm,i+1,σ8,_,_,I10.unpinned,T.keep _ _ _ st7 fun b hb o q=>(I10.pin (b,o) (List.mem_append_right _ (List.mem_append_right _ (aco hb q)))).1,fun b hb=>?_,w9⟩
   obtain ⟨o,q,d⟩:=T.obj _ _ st7 b hb
   exact (I10.pin (b,o) (List.mem_append_right _ (List.mem_append_right _ (aco hb q)))).2.1
 exact codeAny_compStart_list loop (T.self _ 0 _ _ _ st4 loop)
theorem ajw (k:afB X sc own cap) (hi:PI X target iter wi) (hc:X.calm=true)
  (hg:∀ C s₀ H₀ ex,PG (adc X sc (cmpN own cap) C s₀ H₀ ex) target g) (he:∀ C s₀ H₀ ex,PE (adc X sc (cmpN own cap) C s₀ H₀ ex) elt te)
  (hs:∀ x,foldedSetIterable iter X.env x=pure x:=by intro _; rfl):PE X (.ListComp elt [⟨target,iter,[],0⟩] sc pos) (ak1 own cap wi g te):=by
 intro pins s σ H Q I h
 rw [eval_ListComp]
 refine ahi (use:=none) k hi hc hg he I h (fun D C s' H' m I' fC hn q=>?_) hs
 refine ⟨m,hn,fun h' sb=>⟨.ref D,H',?_,rfl,q⟩⟩
 obtain ⟨f0,f1,f2,f3,f4,f5⟩:=fC
 exact I'.turned (t':=s'.toks) (fun b o hb e=>(sb.2 b hb).trans e) f0 f1 f3 f4 f5
end
section
variable {X:Cx}
theorem ad8 (hc:X.calm=true):ac4 X (.builtin "all") (fun xs H Q=>∃ (a:Addr) (bs:List Bool),xs=[.ref a]∧SqL X.K H a (bs.map V.bl)∧Q (.bl (bs.all id)) H):=by
 intro pins s σ H xs us Q I r h
 obtain ⟨a,bs,rfl,hq,q⟩:=h
 obtain ⟨u,rfl,ru⟩:=ada r
 cases ru
 obtain ⟨its,rv,pl,hz⟩:=I.list hq
 have hl:bs.length=its.length:=by
  have:=rv.length
  rwa [List.length_map] at this
 refine call_all_walk (wpAny_pyIter_list pl.isList ?_)
 have ha:a < s.heap.objs.size:=by
  obtain ⟨o,ho,_⟩:=pl.isList
  exact Heap.lt_size ho
 refine ⟨_,_,_,_,_,_,fun i=>bs.getD i true,rfl,Walks.list (prog:=X.prog) (w:=X.w) (A:=X.A.in1) (show X.A.in1.handled=none from I.ok.hd hc) s.heap.objs.size a (Nat.ne_of_lt ha) its.toArray,⟨⟨_,Heap.get?_push_size _ rfl,rfl,rfl⟩,Heap.IsList.at pl.isList fun o e=>Heap.get?_push_of_some _ e⟩,fun i v s' Q' E' hv hQ=>?_,fun h' tk kp=>?_⟩
 ·have hv':its[i]?=some v:=by simpa using hv
  have hi:i < bs.length:=by
   have:=(List.getElem?_eq_some_iff.mp hv').1
   omega
  obtain ⟨u,hu,ru⟩:=rv.get (i:=i) (x:=.bl bs[i]) (by rw [List.getElem?_map,List.getElem?_eq_getElem hi]; rfl)
  rw [hv'] at hu
  cases hu
  cases (show v=Value.bool bs[i] from ru)
  have e:bs.getD i true=bs[i]:=by simp [List.getD,hi]
  have hQ':Q' (bs.getD i true) s':=hQ
  rw [e] at hQ'
  exact wpAny_truthy_bool hQ'
 ·have e:(List.range its.toArray.size).all (fun i=>bs.getD i true)=bs.all id:=by
   rw [List.size_toArray,← hl,Bool.eq_iff_iff,List.all_eq_true,List.all_eq_true]
   constructor
   ·intro z b hb
    obtain ⟨i,hi,rfl⟩:=List.mem_iff_getElem.mp hb
    have:=z i (by simpa using hi)
    simpa [List.getD,hi] using this
   ·intro z i hi
    have hi':i < bs.length:=by simpa using hi
    have:=z bs[i] (List.getElem_mem hi')
    simpa [List.getD,hi'] using this
  show EP X pins σ Q (.bool ((List.range its.toArray.size).all fun i=>bs.getD i true)) _
  rw [e]
  have I1:Inv X pins σ H { s with heap:=s.heap.push { cls:=.type "list_iterator",data:=.fields #[.ref a,.int 0 0] },toks:=s.toks }:=I.kept fun b o z=>Heap.get?_push_of_some _ z
  have fp:FpOk X pins H s.heap.objs.size:=I.fpOk (Nat.le_refl _) (I.hok.fresh (Nat.le_refl _))
  obtain ⟨f0,f1,f2,f3,f4,f5⟩:=fp
  exact ⟨.bl (bs.all id),H,I1.turned (fun b o hb z=>kp b o (by simpa using hb) z) f0 f1 f3 f4 f5,rfl,q⟩
end
end L2
namespace L2
open PySem Bn
section
variable {prog:Program} {w:World} {A:Around} {E:Value→Shared→Prop} {s:Shared}
end
section
variable {prog:Program} {w:World} {A:Around} {E:Value→Shared→Prop} {s:Shared} {z TI TO i1 i2:Addr} {fp1 fp2:List Addr} {n1 n2 i:Nat} {P1 P2:Nat→Value→Prop} {S1 S2:Nat→Heap→Prop} {a b:Value}
end
end L2
namespace L2
open PySem Bn
end L2
namespace L2
open PySem PySem.Spec PyProof.Rows Bn
section
variable {X:Cx} {pins:List (Addr × Obj)} {σ:St} {H:Hp} {s:Shared} {a:Addr} {xs ys:List V} {f:Bool}
end
section
variable {X:Cx} {elts:List Expr} {x1:Nat} {tp:Pos}
end
end L2
namespace L2
open PySem PySem.Spec PyProof.Rows Bn
theorem ak4 (K:PySem.W.Frag):PySem.W.kitOne K (.type "int") (.type "bool")=some false:=by
 unfold PySem.W.kitOne PySem.W.kitCls
 rw [if_neg (by decide)]
 show (if PySem.W.kitMeta "bool"=true then PySem.W.subIn K (.type "int") (.type "bool") else none)=some false
 rw [if_pos (by decide +kernel)]
 show (fastBuiltinMro "int").map (·.contains (.type "bool"))=some false
 decide +kernel
structure FunD (K:PySem.W.Frag) (x qual:Str) (st:Stmt) (f:Addr) (fd:FuncData) (ds:Array Value):Prop where
 ex:∃ (oc:Value) (od:Option Addr) (T:Addr) (oT:Obj) (n:Nat) (kV doc pm:Value) (an:Option Addr) (cdv ct:Value) (osl:Array (Option Value)),
  fd=PySem.W.fnOf x qual (aaB st) (aax st) (aae st) (.ref T) kV doc pm an cdv ct∧K.lookup f=some ⟨oc,od,.func fd,osl⟩∧PySem.W.codeIn K cdv qual=true∧K.lookup T=some oT∧oT.data=.seq ds n
 kp:PySem.W.keepIn K (.ref f)=true
section
variable {P:Program} {w:World} {K:PySem.W.Frag} {mg:Str→Option Value} {base:Heap}
theorem FunD.binds {x qual:Str} {st:Stmt} {f:Addr} {fd:FuncData} {ds:Array Value} {ps:List Str} {dd:List Value} (F:FunD K x qual st f fd ds)
  (h:∀ (T:Addr) (kV doc pm:Value) (an:Option Addr) (cdv ct:Value) (us:List Value),(us++dd).length=ps.length →
   ∃ k,bindArgs (PySem.W.fnOf x qual (aaB st) (aax st) (aae st) (.ref T) kV doc pm an cdv ct) ⟨us,[]⟩=seqItems? (.ref T) >>= k∧k (some ds)=pure (ps.zip (us++dd))):acb K fd ps dd:=by
 obtain ⟨oc,od,T,oT,n,kV,doc,pm,an,cdv,ct,osl,rfl,lk,hcd,lT,hT⟩:=F.ex
 intro s us hK hl
 obtain ⟨k,h1,h2⟩:=h T kV doc pm an cdv ct us hl
 exact PySem.W.binds_K hK rfl lT hT h1 h2
theorem aiY {x qual:Str} {st:Stmt} {f T:Addr} {oT:Obj} {n:Nat} {ds:Array Value} {oc:Value} {od an:Option Addr} {osl:Array (Option Value)} {kV doc pm cdv ct:Value} (l:K.lookup f=some ⟨oc,od,.func (PySem.W.fnOf x qual (aaB st) (aax st) (aae st) (.ref T) kV doc pm an cdv ct),osl⟩)
  (c:PySem.W.codeIn K cdv qual=true) (k:PySem.W.keepIn K (.ref f)=true) (lT:K.lookup T=some oT) (hT:oT.data=.seq ds n):FunD K x qual st f (PySem.W.fnOf x qual (aaB st) (aax st) (aae st) (.ref T) kV doc pm an cdv ct) ds :=
 ⟨⟨oc,od,T,oT,n,kV,doc,pm,an,cdv,ct,osl,rfl,l,c,lT,hT⟩,k⟩
end
theorem afK {X:Cx} {sc:Scope} {own:List Str} {cap:List (Nat × Str)} (so:Scope) (N:List Str) (hso:X.env.scope=so) (hN:X.N=N) (kind:sc.kind=.function) (names:∀ y∈sc.names,y.2=.local→sc.names.lookup y.1=some .local)
  (nocell:∀ y∈sc.names,y.2≠.cell) (free:∀ y∈sc.names,y.2=.free→so.names.lookup y.1=some .cell) (at':∀ p∈cap,N[p.1]?=some p.2) (hcap:∀ p∈cap,sc.names.lookup p.2=some .free):afB X sc own cap :=
 ⟨kind,names,nocell,fun y hy e=>by show X.env.scope.names.lookup y.1=_; rw [hso]; exact free y hy e,fun p hp=>by rw [hN]; exact at' p hp,hcap⟩
end L2
namespace L2
open PySem PySem.Spec PyProof.Rows Bn
end L2
namespace L2
open PySem PySem.Spec PyProof.Rows Bn
section
variable {X:Cx}
end
end L2
namespace L2
open PySem PySem.Spec PyProof.Rows Bn
theorem abQ.has {P:Program} {w:World} {H:Hp} {h:Heap} {a:Addr} {o:HO} (x:abQ P w H h a o):∃ u,h.get? a=some u:=by
 cases o with
 | lst xs=>obtain ⟨_,_,_,_,e⟩:=x; exact ⟨_,e⟩
 | tup xs=>obtain ⟨_,_,_,u,e,_⟩:=x; exact ⟨u,e⟩
 | dK kvs=>obtain ⟨_,_,_,_,o,_,_,e,_⟩:=x; exact ⟨_,e⟩
 | dT kvs=>obtain ⟨_,_,_,_,o,_,_,e,_⟩:=x; exact ⟨_,e⟩
 | set S n=>obtain ⟨o,_,_,_,e,_⟩:=x; exact ⟨_,e⟩
 | ins C dx fs=>obtain ⟨_,_,_,e,_⟩:=x; exact ⟨_,e⟩
 | own y=>exact x
 | xd fs=>obtain ⟨_,⟨_,_,_,e,_⟩,_⟩:=x; exact ⟨_,e⟩
 | rng lo hi=>obtain ⟨_,_,_,e⟩:=x; exact ⟨_,e⟩
 | frz ob u=>obtain ⟨e,_⟩:=x; exact ⟨_,e⟩
 | tbl ps=>exact ⟨_,show h.get? a=some _ from x⟩
 | met f y=>exact ⟨_,show h.get? a=some _ from x⟩
 | ext φ=>exact x.2.1
abbrev abz:List Value:=[.type "ValueError",.type "Exception",.type "BaseException",.type "object"]
theorem ahs {K:PySem.W.Frag} {h:Heap} {C:Addr} {bmB:List Value} {newId:String} (X:K.In h) (q:PySem.W.excIn K C bmB newId=true) :
  ∃ bm N nm qn bs hdct sn sub ab col dd k0 k1 k2 k3 k5 mN,h.get? C=some (excClassObj nm qn C N bs bm hdct sn sub ab col dd k0 k1 k2 k3 k5 newId)∧h.Ns N mN∧mN "__init__"=none∧OwnTail h bmB bm:=by
 unfold PySem.W.excIn at q
 split at q
 ·rename_i dd cd sl ho
  split at q
  ·rename_i C' bm k0 k1 k2 k3 n k5 hm hs
   simp only [Bool.and_eq_true,beq_iff_eq,Bool.not_eq_true'] at q
   obtain ⟨⟨⟨⟨⟨z1,z2⟩,hdel⟩,ht⟩,hok⟩,hni⟩:=q
   subst z1 z2
   obtain ⟨nm,bs,mro,ns,qn,hd,sn,sub,ab,col,del⟩:=cd
   dsimp only at hm hdel hok hni
   subst hm hdel
   have hsl:sl=#[k0,k1,k2,k3,some (.builtin n),k5]:=by
    obtain ⟨l⟩:=sl
    simp only at hs
    rw [hs]
   subst hsl
   refine ⟨bm,ns,nm,qn,bs,hd,sn,sub,ab,col,dd,k0,k1,k2,k3,k5,_,X _ _ ho,.of_isNs (PySem.W.isNs_of_in X hok),PySem.W.nsMap_none_of_in X hok hni,PySem.W.tail_of_in X ht⟩
  ·cases q
 ·cases q
def CX1 (P:Program) (w:World):CXT:=fun outer H s E e s'=>∃ (x C t:Addr) (B:Heap) (H':Hp),e=.ref x∧s'.os=s.os∧AllBare s'.gens∧Un (frs outer) [] H H' s.heap s'.heap∧HOk P w H' s'.heap ∧
 Heap.FlyingW B outer x (.ref C) (.ref t) s'.heap∧(∀ b o,s'.heap.get? b=some o→(∃ u,H' b=some u)∨(∃ o',s.heap.get? b=some o'∧b ∉ frs outer)→B.get? b=some o)∧E (.ref C) none H'
theorem aij {P:Program} {w:World} {K:PySem.W.Frag} {mg:Str→Option Value} {base:Heap} {N:List Str} {qual:Str} {scope:Scope} {f:Addr} {cd:Value} {A:Around} {outer:List Env} {s₀:Shared} {H₀:Hp} {E:XK}
  {x:Str} {C:Addr} {txt:Str} {j:Nat} {np p1 cpos pos:Pos} (hg:Gl (cxOf (CX1 P w) P w K mg base N qual scope f cd A outer s₀ H₀ E) x) (hm:mg x=some (.ref C)) (hx:PySem.W.excIn K C abz "ValueError.__new__"=true)
  (hd:(x == ("__debug__":Str))=false:=by decide) :
  PS (cxOf (CX1 P w) P w K mg base N qual scope f cd A outer s₀ H₀ E) (.Raise (some (.Call (.Name x np) [.Constant (.str txt) j p1] [] cpos)) none pos) (fun _ _ H=>E (.ref C) none H):=by
 intro pins s σ H D I h
 obtain ⟨bm,Nn,nm,qn,bs,hdct,sn,sub,ab,col,dd,k0,k1,k2,k3,k5,mN,hC,hN,hni,T⟩:=ahs I.ok.mod.kin hx
 refine wpAny_Raise_call_subT (C:=C) (nm:=nm) (q:=qn) (N:=Nn) (bs:=bs) (bm:=bm) (hdct:=hdct) (sn:=sn) (sub:=sub) (ab:=ab) (col:=col) (dd:=dd) (k0:=k0) (k1:=k1) (k2:=k2) (k3:=k3) (k5:=k5)
  PySem.F.excBase_ValueError (mN:=mN) (T.hasType (by decide)) (I.ok.hd rfl) rfl hni (adB I hg hm ⟨rfl,?_⟩ hd)
 refine Calls.evalArgs_plain (thn ((abq ahF adI) cpos pins s σ H (fun vs H1=>vs=[.str txt]∧H1=H) I ⟨rfl,rfl⟩) fun us s2 q2=>?_)
 obtain ⟨vs,H2,I2,r2,rfl,rfl⟩:=q2
 have l2:=r2.length
 refine ⟨rfl,by rw [← l2]; show 1≤sizeLine; decide,I2.bk _ _ hC,hN.keeps I2.bk,T.keeps I2.bk,fun h' e made=>?_⟩
 -- the frame is left
 have stk:(cxOf (CX1 P w) P w K mg base N qual scope f cd A outer s₀ H₀ E).stack=envOfC qual scope s₀.heap.objs.size f cd :: outer:=rfl
 have nfr:∀ {b u},H2 b=some u→b ∉ frs (envOfC qual scope s₀.heap.objs.size f cd :: outer):=fun {b u} q z=>by
  rw [I2.stkFree b z] at q
  cases q
 have nL:∀ {b o},s₀.heap.get? b=some o→b ∉ frs outer→b ∉ frs (envOfC qual scope s₀.heap.objs.size f cd :: outer):=fun {b o} q z y=>by
  rcases List.mem_cons.mp (I2.stkSub b y) with g | g
  ·exact absurd (Nat.lt_of_lt_of_le (Heap.lt_size q) I2.ok.above) (by rw [g]; exact Nat.lt_irrefl _)
  ·exact z g
 refine wpAny_leaves_madeW (base:=PySem.W.hideAll s2.heap (frs (envOfC qual scope s₀.heap.objs.size f cd :: outer))) (h:=s2.heap) (s:={ s2 with heap:=h' }) I2.ok.frames rfl (fun b o q=>PySem.W.of_hideAll _ q)
  (PySem.W.funFrames_hide I2.stack fun env he b hb=>List.mem_filterMap.mpr ⟨env,he,hb⟩) made fun h'' t fl tup nb ups=>?_
 have keepB:∀ b o,s2.heap.get? b=some o→b ∉ frs (envOfC qual scope s₀.heap.objs.size f cd :: outer)→h''.get? b=some o:=fun b o q z=>fl.1 b o (PySem.W.hideAll_get _ q z)
 have upS:∀ b o,s2.heap.get? b=some o→(∀ vs,o.data≠.fields vs)→∃ sl,h''.get? b=some { o with slots:=sl }:=fun b o q z=>ups b o (made.keeps b o q) z
 refine ⟨e,C,t,_,H2,rfl,I2.os,I2.bare,⟨fun b o q n hb _=>?_,fun b o q n hb _=>?_,fun b o q n _=>I2.base.free b o q n (by intro z; cases z),fun b o q _=>?_,I2.base.tups,I2.base.frzs,I2.base.tbls⟩,fun b u q=>?_,fl,fun b o q z=>?_,h⟩
 ·exact keepB b o (I2.base.keep b o q n hb (by intro z; cases z)) (nL q hb)
 ·obtain ⟨sl,g⟩:=I2.base.slot b o q n hb (by intro z; cases z)
  obtain ⟨_,o',ho',hd'⟩:=I2.ok.funs.mem hb
  have eo:o'=o:=by
   have ho2:s₀.heap.get? b=some o':=ho'
   rw [q] at ho2
   exact (Option.some.inj ho2).symm
  subst eo
  obtain ⟨sl',g'⟩:=upS b _ g hd'
  exact ⟨sl',g'⟩
 ·obtain ⟨o',g⟩:=I2.base.there b o q (by intro z; cases z)
  by_cases c:b∈frs (envOfC qual scope s₀.heap.objs.size f cd :: outer)
  ·obtain ⟨_,o2,ho2,hd2⟩:=I2.stack.mem c
   obtain ⟨sl,g'⟩:=upS b o2 ho2 hd2
   exact ⟨_,g'⟩
  ·exact ⟨o',keepB b o' g c⟩
 ·refine (I2.hok b u q).stay (fun c v hc g=>keepB c v g ?_) (fun _ g=>g) fun _ _ g=>g
  rcases hc with z | z
  ·rw [z]
   exact nfr q
  ·exact nfr z
 ·have go:∀ {o2},s2.heap.get? b=some o2→b ∉ frs (envOfC qual scope s₀.heap.objs.size f cd :: outer)→(PySem.W.hideAll s2.heap (frs (envOfC qual scope s₀.heap.objs.size f cd :: outer))).get? b=some o:=fun {o2} g n=>by
   have:=keepB b o2 g n
   have q':h''.get? b=some o:=q
   rw [q'] at this
   cases this
   exact PySem.W.hideAll_get _ g n
  rcases z with ⟨u,z⟩ | ⟨o',z,nz⟩
  ·obtain ⟨o2,g⟩:=(I2.hok b u z).has
   exact go g (nfr z)
  ·obtain ⟨o2,g⟩:=I2.base.there b o' z (by intro z; cases z)
   exact go g (nL z nz)
end L2
namespace L2
open PySem PySem.Spec PyProof.Rows Bn
section
variable {X:Cx} {pins:List (Addr × Obj)} {σ:St} {H H':Hp} {s s':Shared}
theorem Inv.flown {B h5:Heap} (I:Inv X pins σ H s) (os:s'.os=s.os) (bare:AllBare s'.gens) (un:Un (frs X.stack) [] H H' s.heap s'.heap) (hok:HOk X.prog X.w H' s'.heap)
  (cov:∀ b o,s'.heap.get? b=some o→(∃ u,H' b=some u)∨(∃ o',s.heap.get? b=some o'∧b ∉ frs X.stack)→B.get? b=some o) (fr:∀ b∈frs X.stack,H' b=none)
  (st:B.StaysIn h5) (up:s'.heap.UpToSlots h5):Inv X pins σ H' { s' with heap:=h5 }:=by
 have nofr:∀ {b u},H' b=some u→b ∉ frs X.stack:=fun {b u} q z=>by
  rw [fr b z] at q
  cases q
 have frame:∀ b∈frs X.stack,∃ o sl,s.heap.get? b=some o∧H b=none∧h5.get? b=some { o with slots:=sl }:=fun b hb=>by
  obtain ⟨_,o,ho,hd⟩:=I.stack.mem hb
  have hn:=I.stkFree b hb
  obtain ⟨sl,g⟩:=un.slot b o ho hn hb (by intro z; cases z)
  obtain ⟨sl',g'⟩:=up b _ g hd
  exact ⟨o,sl',ho,hn,g'⟩
 refine I.call' (s':={ s' with heap:=h5 }) (ch:=[]) os ⟨fun b o q n hb _=>?_,fun b o q n hb _=>?_,un.free,fun b o q _=>?_,un.tups,un.frzs,un.tbls⟩ (fun b u q=>?_) bare fun b z=>nomatch z
 ·exact st b o (cov b o (un.keep b o q n hb (by intro z; cases z)) (.inr ⟨o,q,hb⟩))
 ·obtain ⟨o',sl,g1,_,g2⟩:=frame b hb
  rw [q] at g1
  cases g1
  exact ⟨sl,g2⟩
 ·by_cases c:b∈frs X.stack
  ·obtain ⟨o',sl,_,_,g2⟩:=frame b c
   exact ⟨_,g2⟩
  ·obtain ⟨o',g⟩:=un.there b o q (by intro z; cases z)
   exact ⟨o',st b o' (cov b o' g (.inr ⟨o,q,c⟩))⟩
 ·refine (hok b u q).stay (fun c v hc g=>st c v (cov c v g (.inl ?_))) (fun _ g=>g) fun _ _ g=>g
  rcases hc with z | z
  ·exact ⟨u,by rw [z]; exact q⟩
  ·exact ⟨_,z⟩
end
section
variable {X:Cx} {k:Nat} {f:Addr} {fd:FuncData} {ps:List Str} {sp:Sp} {dvs:List V} {ds:List Value} {E:XK} {x:Str} {p pos:Pos} {e:Expr} {es:List Expr} {t:TA}
theorem ajH {pins:List (Addr × Obj)} {σ:St} {H:Hp} {s:Shared} {Q:VK} {us:List Value} {vs:List V} {Ex:Value→Shared→Prop} (F:FnOk X.prog X.w X.K X.mg X.base (CX1 X.prog X.w) k f fd ps sp) (hr:Room k X.A) (hb:acb X.K fd ps ds) (hd:Vals dvs ds)
  (I:Inv X pins σ H s) (r:Vals vs us) (h:sp (vs++dvs) H Q E) (hx:∀ e s',CX1 X.prog X.w X.stack H s E e s'→Ex e s'):wpAny (model X.prog X.w) X.A (call (.ref f) us) (EP X pins σ Q) Ex s:=by
 have r2:Vals (vs++dvs) (us++ds):=r.append hd
 have hl:(us++ds).length=ps.length:=by rw [← r2.length]; exact F.len _ _ _ _ h
 refine wpAny_call (codeAny_mono (F.run X.A X.stack s H ⟨us,[]⟩ (us++ds) (vs++dvs) Q E hr I.env0 (hb s us I.kIn hl) r2 h) fun rr s' hq=>?_)
 cases rr with
 | error e=>exact hx e s' hq
 | ok fl =>
  cases fl with
  | ret u=>exact I.after hq
  | next=>exact False.elim hq
  | brk=>exact False.elim hq
  | cont=>exact False.elim hq
theorem ah8 {pins:List (Addr × Obj)} {σ:St} {H:Hp} {s:Shared} {Q:VK} {Ex:Value→Shared→Prop} (hxe:X.xe=fun _ _=>False) (F:FnOk X.prog X.w X.K X.mg X.base (CX1 X.prog X.w) k f fd ps sp) (hr:Room k X.A) (hg:Gl X x) (hm:X.mg x=some (.ref f)) (hk:PySem.W.keepIn X.K (.ref f)=true)
  (hb:acb X.K fd ps ds) (hd:Vals dvs ds) (ha:PA X (e :: es) t) (I:Inv X pins σ H s) (h:t σ H fun vs H1=>sp (vs++dvs) H1 Q E)
  (hx:∀ s1 H1 e s',Inv X pins σ H1 s1→CX1 X.prog X.w X.stack H1 s1 E e s'→Ex e s')
  (hdb:(x == ("__debug__":Str))=false:=by decide) (he:starEach (e :: es) X.env=(false,eval e X.env) :: starEach es X.env:=by rfl) (hpl:(backTo pos (starEach es X.env)).any (·.1)=false:=by rfl) :
  wpAny (model X.prog X.w) X.A (eval (.Call (.Name x p) (e :: es) [] pos) X.env) (EP X pins σ Q) Ex s:=by
 refine wpAny_Call_Name_kw (adB I hg hm ?_ hdb)
 refine PySem.W.callWith_K (h₀:=X.base) I.ok.mod.kin hk (wpAny_mono (ha pos pins s σ H _ I h) (fun us s1 q1=>?_) fun _ _ z=>?_) he hpl
 ·obtain ⟨vs,H1,I1,r,q⟩:=q1
  exact ⟨I1.kIn,ajH F hr hb hd I1 r q fun e s' c=>hx s1 H1 e s' I1 c⟩
 ·rw [hxe] at z
  exact z.elim
end
end L2
namespace L2
open PySem PySem.Spec PyProof.Rows Bn
section
variable {P:Program} {w:World} {K:PySem.W.Frag} {mg:Str→Option Value} {base:Heap} {CX:CXT}
theorem Fun.okX {x qual:Str} {st:Stmt} {f:Addr} {fd:FuncData} {N ps:List Str} {k:Nat} {sp:Sp} (F:Fun K x qual st f fd) (S:aaG N ps (aae st)) (len:∀ vs H Q E,sp vs H Q E→vs.length=ps.length)
  (hbody:∀ (cdv:Value) (A:Around) (outer:List Env) (s:Shared) (H:Hp) (vs:List V) (Q:VK) (E:XK),Room k (A.deeper (envOfC qual (aae st) s.heap.objs.size f cdv))→sp vs H Q E →
   ∃ t,PSs (cxOf CX P w K mg base N qual (aae st) f cdv A outer s H E) (aax st) t∧t { nx:=fun _ H'=>Q .non H',rt:=Q } (start N vs) H):FnOk P w K mg base CX (k+1) f fd ps sp:=by
 obtain ⟨oc,od,kV,doc,pm,an,cdv,ct,osl,rfl,lk,hcd⟩:=F.ex
 exact ajq lk hcd S len fun A outer s H vs Q E hr hsp=>hbody cdv A outer s H vs Q E hr hsp
theorem FunD.okX {x qual:Str} {st:Stmt} {f:Addr} {fd:FuncData} {ds:Array Value} {N ps:List Str} {k:Nat} {sp:Sp} (F:FunD K x qual st f fd ds) (S:aaG N ps (aae st)) (len:∀ vs H Q E,sp vs H Q E→vs.length=ps.length)
  (hbody:∀ (cdv:Value) (A:Around) (outer:List Env) (s:Shared) (H:Hp) (vs:List V) (Q:VK) (E:XK),Room k (A.deeper (envOfC qual (aae st) s.heap.objs.size f cdv))→sp vs H Q E →
   ∃ t,PSs (cxOf CX P w K mg base N qual (aae st) f cdv A outer s H E) (aax st) t∧t { nx:=fun _ H'=>Q .non H',rt:=Q } (start N vs) H):FnOk P w K mg base CX (k+1) f fd ps sp:=by
 obtain ⟨oc,od,T,oT,n,kV,doc,pm,an,cdv,ct,osl,rfl,lk,hcd,_,_⟩:=F.ex
 exact ajq lk hcd S len fun A outer s H vs Q E hr hsp=>hbody cdv A outer s H vs Q E hr hsp
end
theorem alH {P:Program} {w:World} {K:PySem.W.Frag} {mg:Str→Option Value} {base:Heap} {N:List Str} {qual:Str} {scope:Scope} {f:Addr} {cd:Value} {A:Around} {outer:List Env} {s₀:Shared} {H₀:Hp} {E:XK} :
  afG (CX1 P w) (cxOf (CX1 P w) P w K mg base N qual scope f cd A outer s₀ H₀ E) E:=by
 intro pins σ H s e s' I c
 obtain ⟨x,C,t,B,H',rfl,os,bare,un,hok,fl,cov,hE⟩:=c
 have fr:∀ b∈frs (cxOf (CX1 P w) P w K mg base N qual scope f cd A outer s₀ H₀ E).stack,H' b=none:=fun b hb=>by
  obtain ⟨_,o,ho,hd⟩:=I.stack.mem hb
  exact un.free b o ho (I.stkFree b hb) (by intro z; cases z)
 have nL:∀ {b o},s₀.heap.get? b=some o→b ∉ frs outer→b ∉ frs (envOfC qual scope s₀.heap.objs.size f cd :: outer):=fun {b o} q z y=>by
  rcases List.mem_cons.mp (I.stkSub b y) with g | g
  ·exact absurd (Nat.lt_of_lt_of_le (Heap.lt_size q) I.ok.above) (by rw [g]; exact Nat.lt_irrefl _)
  ·exact z g
 refine wpAny_leaves_onW (base:=B) I.ok.frames rfl fl fun h' fl' up=>?_
 have I5:=I.flown os bare un hok cov fr fl'.1 up
 refine ⟨x,C,t,B,H',rfl,os.trans I.os,bare,I5.base,I5.hok,fl',fun b o q z=>?_,hE⟩
 have go:∀ {o2},B.get? b=some o2→B.get? b=some o:=fun {o2} g=>by
  have:=fl'.1 b o2 g
  have q':h'.get? b=some o:=q
  rw [q'] at this
  cases this
  exact g
 rcases z with ⟨u,z⟩ | ⟨o',z,nz⟩
 ·obtain ⟨o2,g⟩:=(hok b u z).has
  exact go (cov b o2 g (.inl ⟨u,z⟩))
 ·obtain ⟨o2,g⟩:=I.base.there b o' z (by intro z; cases z)
  obtain ⟨o3,g3⟩:=un.there b o2 g (by intro z; cases z)
  exact go (cov b o3 g3 (.inr ⟨o2,g,nL z nz⟩))
end L2
namespace L2
open PySem PySem.Spec PyProof.Rows Bn
section
variable {X:Cx} {pins:List (Addr × Obj)} {σ:St} {H:Hp} {s:Shared}
theorem ab6 {M:Model} {A:Around} {E:Value→Shared→Prop} {i:Nat} {n:Str} {pos:Pos} {Q:Unit→Shared→Prop} (I:Inv X pins σ H s) (hN:X.N.Nodup) (hi:X.N[i]?=some n) (hk:X.env.scope.names.lookup n=some .local)
  (h:∀ s',Inv X pins (σ.set i none) H s'→Q () s'):wpAny M A (do bindName X.env n Value.none; unbindBehindTheSuite X.env n pos) Q E s:=by
 obtain ⟨m,hn,hl⟩:=id I.loc
 have hcls:(X.env.scope.kind == .class || (X.env.scope.kind == .module && X.env.locals != X.env.globals))=false:=by rw [I.ok.kind]; rfl
 have hiσ:i < σ.length:=by rw [I.len]; exact (List.getElem?_eq_some_iff.mp hi).1
 have cne:=I.cne
 refine wpAny_nameGoes_keeps hk hn hcls fun h' v hn' hs=>?_
 obtain ⟨oL,_,_,hoL,_⟩:=id hn
 refine h _ ⟨I.ok,I.os,I.bare,⟨fun b o e n hb hx=>?_,fun b o e n hb hx=>?_,I.base.free,fun b o e hx=>?_,I.base.tups,I.base.frzs,I.base.tbls⟩,⟨_,hn',fun j y v' e1 e2 e3=>?_⟩,fun y c e=>?_,I.free,I.freeC,fun p hp=>?_,fun b ob e=>?_,by simpa using I.len⟩
 ·exact (hs.2 b (Nat.ne_of_lt (Nat.lt_of_lt_of_le (Heap.lt_size e) I.ok.above))).trans (I.base.keep b o e n hb hx)
 ·obtain ⟨sl,e1⟩:=I.base.slot b o e n hb hx
  exact ⟨sl,(hs.2 b (Nat.ne_of_lt (Nat.lt_of_lt_of_le (Heap.lt_size e) I.ok.above))).trans e1⟩
 ·obtain ⟨o',e1⟩:=I.base.there b o e hx
  exact ⟨o',(hs.2 b (Nat.ne_of_lt (Nat.lt_of_lt_of_le (Heap.lt_size e) I.ok.above))).trans e1⟩
 ·by_cases hj:j=i
  ·subst hj
   rw [List.getElem?_set_self hiσ] at e2
   cases e2
  ·rw [List.getElem?_set_ne (Ne.symm hj)] at e2
   obtain ⟨u',r',q⟩:=hl j y v' e1 e2 e3
   refine ⟨u',r',?_⟩
   rcases q with ⟨k,e⟩ | ⟨k,c,e,z⟩
   ·refine .inl ⟨k,?_⟩
    have:y≠n:=fun e=>hj (aee hN e1 (e ▸ hi))
    simp [this,e]
   ·exact .inr ⟨k,c,e,z.sameBut hs (cne y c e)⟩
 ·obtain ⟨w',z⟩:=I.cell y c e
  exact ⟨w',z.sameBut hs (cne y c e)⟩
 ·obtain ⟨e,n,ne,nf,d⟩:=I.pin p hp
  exact ⟨(hs.2 p.1 ne).trans e,n,ne,nf,d⟩
 ·refine (I.hok b ob e).stay (fun c w' hc q=>(hs.2 c ?_).trans q) (fun _ q=>q) fun _ _ q=>q
  have hfree:=I.free
  rintro rfl
  rcases hc with rfl | hc
  ·rw [hfree] at e; cases e
  ·rw [hfree] at hc; cases hc
end
abbrev Cx.mk1 (X:Cx) (x:Addr) (l:List (Addr × Obj)):Cx:={ X with A:=X.A.mark (some (.ref x)),calm:=false,pn:=l++X.pn,xe:=fun _ _=>False }
section
variable {X:Cx} {pins:List (Addr × Obj)} {σ:St} {H:Hp} {s:Shared}
theorem Cx.Ok.mk1 (ok:X.Ok) (x:Addr) (l:List (Addr × Obj)):(X.mk1 x l).Ok :=
 ⟨ok.mod,ok.kind,ok.glob,ok.blt,ok.above,ok.inj,ok.has,ok.cab,fun z=>(by cases z),ok.frames,ok.stk,ok.exf,ok.bs,ok.bsz,ok.noex,ok.exfs,ok.funs,ok.frf⟩
theorem Inv.mk1 (I:Inv X pins σ H s) (x:Addr) (l:List (Addr × Obj)) (h:∀ p∈l,s.heap.get? p.1=some p.2∧H p.1=none∧p.1≠X.env.locals∧p.1 ∉ X.fs∧∀ v,p.2.data≠.cell v):Inv (X.mk1 x l) pins σ H s :=
 ⟨I.ok.mk1 x l,I.os,I.bare,I.base,I.loc,I.cell,I.free,I.freeC,fun p hp=>by
  rw [List.append_assoc] at hp
  exact (List.mem_append.mp hp).elim (h p) (I.pin p),I.hok,I.len⟩
theorem Inv.unmk1 {x:Addr} {l:List (Addr × Obj)} (ok:X.Ok) (I:Inv (X.mk1 x l) pins σ H s):Inv X pins σ H s :=
 ⟨ok,I.os,I.bare,I.base,I.loc,I.cell,I.free,I.freeC,fun p hp=>I.pin p (by rw [List.append_assoc]; exact List.mem_append_right _ hp),I.hok,I.len⟩
end
end L2
namespace L2
open PySem PySem.Spec PyProof.Rows Bn
theorem agr {a b c:Heap} (h1:a.UpToSlots b) (h2:b.UpToSlots c):a.UpToSlots c:=fun x o q d=>by
 obtain ⟨sl,g⟩:=h1 x o q d
 obtain ⟨sl',g'⟩:=h2 x _ g d
 exact ⟨sl',g'⟩
section
variable {X:Cx} {k:Nat} {f:Addr} {fd:FuncData} {ps:List Str} {sp:Sp} {dvs:List V} {ds:List Value} {x:Str} {p pos pos1 pos2 pos3 pc:Pos} {e:Expr} {es:List Expr} {t:TA} {c n:Str} {C:Addr} {i:Nat} {b₀:Stmt} {body:List Stmt} {newId:String}
end
end L2
namespace L2
open PySem PySem.Spec PySem.W PySem.Calls PySem.Builtin PySem.Builtin.Getset_descriptor PyProof.Rows Bn
section
variable {prog:Program} {w:World} {A:Around} {E:Value→Shared→Prop} {s:Shared} {K:PySem.W.Frag} {x D:Addr} {B:String} {R:Result→Shared→Prop}
def afD (h:Heap) (x D:Addr):Prop:=∃ o,h.get? x=some o∧o.cls=.ref D
theorem afD.ty {M:Model} {h:Heap} (I:afD h x D):Looks M h (typeOf (.ref x)) (.ref D):=by
 obtain ⟨o,h1,h2⟩:=I
 rw [← h2]
 exact (Looks.ld h1).andThen .now
structure XCls (K:PySem.W.Frag) (D:Addr):Prop where
 ga:findIn K (.ref D) "__getattribute__"=some (some (.builtin "BaseException.__getattribute__"))
 gt:findIn K (.ref D) "__getattr__"=some none
 be:mroIn K D (.type "BaseException")=some true
 ob:mroIn K D (.type "object")=some true
 cl:findIn K (.ref D) "__class__"=some (some (.builtin "object.__class__"))
 sp:specialIn K (.builtin "object.__class__") "__get__"=some (some (.builtin "getset_descriptor.__get__"))
 tk:takesIn K (.builtin "object.__class__")=some true
 ci:(clsIn K D).isSome=true
theorem aii {M:Model} {h:Heap} (Z:XCls K D) (X:K.In h):Looks M h (Builtin.ObjectAttr.find (.ref x) (.ref D) "__class__") (.bind (.builtin "getset_descriptor.__get__") (.builtin "object.__class__")):=by
 have d:Looks M h (Builtin.ObjectAttr.dataDescriptor? (some (.builtin "object.__class__")) (some (.builtin "getset_descriptor.__get__"))) (some (.builtin "getset_descriptor.__get__",.builtin "object.__class__")) :=
  (looks_takesIn X Z.tk).andThen .now
 have g:Looks M h (Builtin.ObjectAttr.getOf (some (.builtin "object.__class__"))) (some (.builtin "getset_descriptor.__get__")):=looks_specialIn X Z.sp
 exact (looks_findIn X Z.cl).andThen (g.andThen (d.andThen (Looks.tag .now)))
theorem ai2 {tp:Value} (Z:XCls K D) (X:K.In s.heap) (I:afD s.heap x D) (h:R (.ok (.ret (.ref D))) s) :
  codeAny (model prog w) A (.call (.builtin "getset_descriptor.__get__") ⟨[.builtin "object.__class__",.ref x,tp],[]⟩) R s:=by
 obtain ⟨hh,g,dr,t,os⟩:=s
 have l0:=I.ty (M:=model prog w)
 have l1:=looks_mroIn (M:=model prog w) X Z.ob
 refine codeAny_call_builtin KF.slot_gs.plain KF.entry_gs
  (KF.slot_gs.check _ _ _ _ _ _ _ _ KF.type_class (KF.args_gs _ _ _) ?_)
 unfold Builtin.«getset_descriptor.__get__» descrGet; rw [dga_obj]
 refine wpAny_bind (wpAny_pure ?_); unfold descrGetter descrCheckInstance descrNameAndClass isInstance
 simp only [KF.owner_class]; repeat lk
 refine ⟨Code.quiet_builtin _ (by decide +kernel),
  codeAny_builtin KF.entry_class ?_⟩
 unfold Builtin.«object.__class__» shownTypeOf; repeat lk
 exact h
theorem akJ {tk:Tok} (FB:ExcAttrFacts B) (Z:XCls K D) (X:K.In s.heap) (I:afD s.heap x D) (h:R (.ok (.ret (.ref D))) s) :
  codeAny (model prog w) A (.call (.builtin "BaseException.__getattribute__") ⟨[.ref x,.str "__class__" tk],[]⟩) R s:=by
 obtain ⟨hh,g,d,t,os⟩:=s
 have l0:=I.ty (M:=model prog w)
 have lb:=looks_mroIn (M:=model prog w) X Z.be
 have l1:=aii (M:=model prog w) (x:=x) Z X
 refine codeAny_call_builtin FB.ga.plain F.entry_bexc_ga ?_
 have e1:builtinKind "BaseException.__getattribute__"=some .slot:=by decide +kernel
 have e2:splitId "BaseException.__getattribute__"=some ("BaseException","__getattribute__"):=by decide +kernel
 have ha:=F.args_bexc_ga (.ref x) (.str "__class__" tk)
 simp only [checkBuiltinCall,e1,e2]
 refine wpAny_bind ?_
 unfold isInstance
 refine wpAny_bind (l0.at (lb.at ?_))
 repeat (any_goals (first | wp_step))
 obtain ⟨o,h1,h2⟩:=id I
 refine wpAny_loadPart h1 (wpAny_pure ?_)
 rw [h2]
 refine wpAny_bind (l1.at ?_)
 unfold Builtin.ObjectAttr.bindTo
 repeat (any_goals (first | wp_step))
 exact ai2 Z X I (wpAny_pure h)
theorem agD {Q:Option Value→Shared→Prop} (FB:ExcAttrFacts B) (Z:XCls K D) (X:K.In s.heap) (I:afD s.heap x D) (h:Q (some (.ref D)) { s with toks:=s.toks+1 }) :
  wpAny (model prog w) A (getAttr? (.ref x) "__class__") Q E s:=by
 obtain ⟨hh,g,d,t,os⟩:=s
 have l0:=I.ty (M:=model prog w)
 have l1:=looks_findIn (M:=model prog w) X Z.ga
 have l2:=looks_findIn (M:=model prog w) X Z.gt
 have f3:=FB.ga.bind (.ref x)
 have e2:(Value.builtin "BaseException.__getattribute__" == Value.builtin "object.__getattribute__")=false:=by decide +kernel
 unfold getAttr? getAttrBy? getAttrBy
 refine wpAny_bind (wpAny_mkText (wpAny_bind (wpAny_attempt (wpAny_holding (wpAny_bind (l0.at (wpAny_bind (l1.at ?_))))))))
 dsimp only
 rw [e2]
 simp only [Bool.and_false,Bool.false_eq_true,if_false]
 unfold getAttrByItsOwn hookBefore onTheHeap
 simp only [if_true]
 refine wpAny_bind (l2.at ?_)
 repeat (any_goals (first | assumption | wp_step))
 refine akJ (s:=⟨hh,g,d,t+1,os⟩) FB Z X I ?_
 exact handed_on rfl (wpAny_pure h)
theorem afR (FB:ExcAttrFacts B) (Z:XCls K D):KitX K (.ref x) (.ref D) (fun h=>afD h x D) where
 ty:=fun _ _ _ I=>I.ty
 it:=fun _ _ X _=>by
  obtain ⟨cd,hc⟩:=Option.isSome_iff_exists.mp Z.ci
  unfold clsIn at hc
  split at hc
  ·rename_i _ _ _ _ ho
   exact (Looks.ld (X _ _ ho)).andThen .now
  ·cases hc
 ne:=fun h tp dd its n sl X htp=>by
  obtain ⟨cd,hc⟩:=Option.isSome_iff_exists.mp Z.ci
  cases q:(Value.ref D == Value.ref tp) with
  | false=>rfl
  | true =>
   cases Value.ref.inj (beq_iff_eq.mp q)
   unfold clsIn at hc
   split at hc
   ·rename_i _ _ _ _ ho
    cases (X _ _ ho).symm.trans htp
   ·cases hc
 ca:=fun X I k=>agD FB Z X I k
end
end L2
namespace L2
open PySem PySem.Spec PyProof.Rows Bn
section
variable {X:Cx} {y D:Addr} {oe:Obj}
theorem aem (Z:XCls X.K D) (hp:(y,oe)∈X.pn) (hc:oe.cls=.ref D):ac4 X (.builtin "isinstance") (fun xs H Q=>∃ c b,((∃ n,c=V.ty n∧PySem.W.kitOne X.K (.ref D) (.type n)=some b)∨∃ C,c=V.ref C∧PySem.W.kitOne X.K (.ref D) (.ref C)=some b)∧xs=[.ref y,c]∧Q (.bl b) H):=by
 intro pins s σ H xs us Q I r h
 obtain ⟨c,b,e,rfl,q⟩:=h
 obtain ⟨u,c',rfl,rx,rc⟩:=akU r
 cases (show u=Value.ref y from rx)
 have of:afD s.heap y D:=⟨oe,(I.pin _ (List.mem_append_left _ hp)).1,hc⟩
 rcases e with ⟨n,rfl,e⟩ | ⟨C,rfl,e⟩
 ·cases (show c'=Value.type n from rc)
  exact PySem.W.kia_one (afR PySem.F.excAttr_ValueError Z) I.kIn of e (by intro q; cases q) fun tk=>⟨.bl b,H,I.tok tk,rfl,q⟩
 ·cases (show c'=Value.ref C from rc)
  exact PySem.W.kia_one (afR PySem.F.excAttr_ValueError Z) I.kIn of e (by intro q; cases q) fun tk=>⟨.bl b,H,I.tok tk,rfl,q⟩
end
end L2
namespace L2.Pp
open PySem PySem.Spec PyProof.Rows Bn
inductive PV where
 | non | bl (b:Bool) | int (i:Int) | str (x:Str) | tup (xs:List PV) | lst (xs:List PV)
inductive SO where
 | lst (xs:List PV)
 | lol (xss:List (List PV))
abbrev Sto:=List SO
inductive AV where
 | pv (v:PV) | ref (k:Nat)
abbrev Rho:=List (Option AV)
inductive Res (α:Type) where
 | ok (a:α) (S:Sto) | exc (n:Str) (S:Sto) | fail
def Res.bind {α β:Type} (r:Res α) (k:α→Sto→Res β):Res β:=match r with
 | .ok a S=>k a S
 | .exc n S=>.exc n S
 | .fail=>.fail
inductive SRes where
 | nx (ρ:Rho) (S:Sto) | rt (v:AV) (S:Sto) | bk (ρ:Rho) (S:Sto) | ct (ρ:Rho) (S:Sto) | exc (n:Str) (S:Sto) | fail
def LAt (K:PySem.W.Frag) (c:Addr→Prop) (H:Hp) (a:Addr) (vs:List V):Prop :=
 (H a=some (.lst vs)∧¬ c a)∨(∃ o,H a=some (.frz o (.lst vs))) ∨
  ∃ (o:Obj) (its:Array Value) (n:Nat),K.lookup a=some o∧o.cls=.type "list"∧o.dict=none∧o.data=.seq its n∧its.size≤sizeLine∧Vals vs its.toList
theorem LAt.sq {K:PySem.W.Frag} {c:Addr→Prop} {H:Hp} {a:Addr} {vs:List V} (h:LAt K c H a vs):SqL K H a vs:=by
 rcases h with h | h | h
 ·exact .inl (.inl h.1)
 ·exact .inl (.inr h)
 ·exact .inr h
mutual
def Rep (K:PySem.W.Frag) (c:Addr→Prop) (H:Hp):PV→V→Prop
 | .non,x=>x=.non
 | .bl b,x=>x=.bl b
 | .int i,x=>x=.int i
 | .str s,x=>x=.str s
 | .tup xs,x=>∃ a vs,x=.ref a∧SqT K H a vs∧vs.length≤sizeLine∧Reps K c H xs vs
 | .lst xs,x=>∃ a vs,x=.ref a∧LAt K c H a vs∧vs.length≤sizeLine∧Reps K c H xs vs
def Reps (K:PySem.W.Frag) (c:Addr→Prop) (H:Hp):List PV→List V→Prop
 | [],vs=>vs=[]
 | p :: ps,vs=>∃ v r,vs=v :: r∧Rep K c H p v∧Reps K c H ps r
end
section
variable {K:PySem.W.Frag} {c c':Addr→Prop} {H H':Hp}
mutual
theorem Rep.mono (hT:∀ a vs,SqT K H a vs→SqT K H' a vs) (hL:∀ a vs,LAt K c H a vs→LAt K c' H' a vs):∀ (v:PV) (x:V),Rep K c H v x→Rep K c' H' v x
 | .non,x,h=>h
 | .bl b,x,h=>h
 | .int i,x,h=>h
 | .str s,x,h=>h
 | .tup xs,x,h=>by
  unfold Rep at h ⊢
  obtain ⟨a,vs,e,t,z,r⟩:=h
  exact ⟨a,vs,e,hT a vs t,z,Reps.mono hT hL xs vs r⟩
 | .lst xs,x,h=>by
  unfold Rep at h ⊢
  obtain ⟨a,vs,e,t,z,r⟩:=h
  exact ⟨a,vs,e,hL a vs t,z,Reps.mono hT hL xs vs r⟩
theorem Reps.mono (hT:∀ a vs,SqT K H a vs→SqT K H' a vs) (hL:∀ a vs,LAt K c H a vs→LAt K c' H' a vs):∀ (v:List PV) (x:List V),Reps K c H v x→Reps K c' H' v x
 | [],vs,h=>by
  unfold Reps at h ⊢
  exact h
 | p :: ps,vs,h=>by
  unfold Reps at h ⊢
  obtain ⟨v,r,e,h1,h2⟩:=h
  exact ⟨v,r,e,Rep.mono hT hL p v h1,Reps.mono hT hL ps r h2⟩
end
theorem Reps.length:∀ {xs:List PV} {vs:List V},Reps K c H xs vs→xs.length=vs.length
 | [],vs,h=>by
  unfold Reps at h
  rw [h]
  rfl
 | p :: ps,vs,h=>by
  unfold Reps at h
  obtain ⟨v,r,rfl,_,h2⟩:=h
  rw [List.length_cons,List.length_cons,Reps.length h2]
theorem Reps.get:∀ {xs:List PV} {vs:List V} {i:Nat} {p:PV},Reps K c H xs vs→xs[i]?=some p→∃ v,vs[i]?=some v∧Rep K c H p v
 | [],vs,i,p,h,e=>by simp at e
 | q :: ps,vs,0,p,h,e=>by
  unfold Reps at h
  obtain ⟨v,r,rfl,h1,_⟩:=h
  simp at e
  subst e
  exact ⟨v,rfl,h1⟩
 | q :: ps,vs,i+1,p,h,e=>by
  unfold Reps at h
  obtain ⟨v,r,rfl,_,h2⟩:=h
  obtain ⟨u,e1,e2⟩:=Reps.get (i:=i) h2 (by simpa using e)
  exact ⟨u,by simpa using e1,e2⟩
theorem Reps.nil:Reps K c H [] []:=by
 unfold Reps
 rfl
theorem Reps.cons {p:PV} {v:V} {ps:List PV} {vs:List V} (h:Rep K c H p v) (t:Reps K c H ps vs):Reps K c H (p :: ps) (v :: vs):=by
 unfold Reps
 exact ⟨v,vs,rfl,h,t⟩
theorem Reps.append:∀ {xs ys:List PV} {vs ws:List V},Reps K c H xs vs→Reps K c H ys ws→Reps K c H (xs++ys) (vs++ws)
 | [],ys,vs,ws,h,g=>by
  unfold Reps at h
  subst h
  exact g
 | p :: ps,ys,vs,ws,h,g=>by
  unfold Reps at h
  obtain ⟨v,r,rfl,h1,h2⟩:=h
  exact .cons h1 (h2.append g)
theorem Reps.drop:∀ {xs:List PV} {vs:List V} (n:Nat),Reps K c H xs vs→Reps K c H (xs.drop n) (vs.drop n)
 | xs,vs,0,h=>by simpa using h
 | [],vs,n+1,h=>by
  unfold Reps at h
  subst h
  simpa using Reps.nil
 | p :: ps,vs,n+1,h=>by
  unfold Reps at h
  obtain ⟨v,r,rfl,_,h2⟩:=h
  simpa using h2.drop n
theorem Reps.take:∀ {xs:List PV} {vs:List V} (n:Nat),Reps K c H xs vs→Reps K c H (xs.take n) (vs.take n)
 | xs,vs,0,h=>by simpa using Reps.nil
 | [],vs,n+1,h=>by
  unfold Reps at h
  subst h
  simpa using Reps.nil
 | p :: ps,vs,n+1,h=>by
  unfold Reps at h
  obtain ⟨v,r,rfl,h1,h2⟩:=h
  simpa using Reps.cons h1 (h2.take n)
theorem Reps.eraseIdx:∀ {xs:List PV} {vs:List V} (n:Nat),Reps K c H xs vs→Reps K c H (xs.eraseIdx n) (vs.eraseIdx n)
 | [],vs,n,h=>by
  unfold Reps at h
  subst h
  simpa using Reps.nil
 | p :: ps,vs,0,h=>by
  unfold Reps at h
  obtain ⟨v,r,rfl,h1,h2⟩:=h
  simpa using h2
 | p :: ps,vs,n+1,h=>by
  unfold Reps at h
  obtain ⟨v,r,rfl,h1,h2⟩:=h
  simpa using Reps.cons h1 (h2.eraseIdx n)
theorem Reps.set {p:PV} {v:V} (g:Rep K c H p v):∀ {xs:List PV} {vs:List V} (n:Nat),Reps K c H xs vs→Reps K c H (xs.set n p) (vs.set n v)
 | [],vs,n,h=>by
  unfold Reps at h
  subst h
  simpa using Reps.nil
 | q :: ps,vs,0,h=>by
  unfold Reps at h
  obtain ⟨v,r,rfl,h1,h2⟩:=h
  simpa using Reps.cons g h2
 | q :: ps,vs,n+1,h=>by
  unfold Reps at h
  obtain ⟨v,r,rfl,h1,h2⟩:=h
  simpa using Reps.cons h1 (Reps.set g n h2)
end
structure Ph where
 f:List Addr
 w:Addr→Prop
 c:Addr→Prop
def alt (K:PySem.W.Frag) (c:Addr→Prop) (H:Hp) (xss:List (List PV)) (bs:List Addr):Prop :=
 xss.length=bs.length∧∀ (i:Nat) (xs:List PV) (b:Addr),xss[i]?=some xs→bs[i]?=some b→∃ vs,H b=some (.lst vs)∧vs.length≤sizeLine∧Reps K c H xs vs
def SObj (K:PySem.W.Frag) (p:Ph) (H:Hp) (a:Addr):SO→Prop
 | .lst xs=>∃ vs,H a=some (.lst vs)∧vs.length≤sizeLine∧Reps K p.c H xs vs
 | .lol xss=>∃ bs:List Addr,H a=some (.lst (bs.map V.ref))∧bs.length≤sizeLine∧bs.Nodup∧(∀ b∈bs,p.w b∧b ∉ p.f)∧alt K p.c H xss bs
theorem SObj.mono {K:PySem.W.Frag} {p p':Ph} {H H':Hp} {a:Addr} {o:SO} (h:SObj K p H a o) (ha:∀ vs,H a=some (.lst vs)→H' a=some (.lst vs))
  (hb:∀ b,p.w b→b ∉ p.f→(p'.w b∧b ∉ p'.f)∧∀ vs,H b=some (.lst vs)→H' b=some (.lst vs)) (hR:∀ xs vs,Reps K p.c H xs vs→Reps K p'.c H' xs vs):SObj K p' H' a o:=by
 cases o with
 | lst xs =>
  obtain ⟨vs,e,l,r⟩:=h
  exact ⟨vs,ha vs e,l,hR xs vs r⟩
 | lol xss =>
  obtain ⟨bs,e,l,nd,wf,z,at_⟩:=h
  refine ⟨bs,ha _ e,l,nd,fun b m=>(hb b (wf b m).1 (wf b m).2).1,z,fun i xs b e1 e2=>?_⟩
  obtain ⟨vs,g1,g2,g3⟩:=at_ i xs b e1 e2
  have m:=wf b (List.mem_of_getElem? e2)
  exact ⟨vs,(hb b m.1 m.2).2 vs g1,g2,hR xs vs g3⟩
def Mb:HO→Prop
 | .lst _=>True
 | .dK _=>True
 | .dT _=>True
 | .ins _ _ _=>True
 | _=>False
structure Sim (K:PySem.W.Frag) (p:Ph) (S:Sto) (H:Hp):Prop where
 nd:p.f.Nodup
 len:p.f.length=S.length
 sub:∀ a∈p.f,p.w a
 wc:∀ a,p.w a→p.c a
 mu:∀ a,p.c a→∃ o,H a=some o∧Mb o
 obj:∀ (k:Nat) (a:Addr) (o:SO),p.f[k]?=some a→S[k]?=some o→SObj K p H a o
structure Step (p:Ph) (H:Hp) (q:Ph) (H':Hp):Prop where
 wc:∀ a,p.w a→p.c a
 mu:∀ a,p.c a→∃ o,H a=some o∧Mb o
 pre:p.f <+: q.f
 mw:∀ a,p.w a→q.w a
 mono:∀ a,p.c a→q.c a
 nf:∀ a∈q.f,a ∉ p.f→H a=none
 nw:∀ a,q.w a→¬ p.w a→H a=none
 nc:∀ a,q.c a→¬ p.c a→H a=none
 keep:∀ a o,H a=some o→¬ p.w a→H' a=some o
def RepA (K:PySem.W.Frag) (p:Ph) (H:Hp):AV→V→Prop
 | .pv v,x=>Rep K p.c H v x
 | .ref k,x=>∃ a,p.f[k]?=some a∧x=.ref a
abbrev acy (K:PySem.W.Frag) (p:Ph) (H:Hp):List AV→List V→Prop:=Paired (RepA K p H)
structure RepE (K:PySem.W.Frag) (p:Ph) (H:Hp) (ρ:Rho) (σ:St):Prop where
 len:ρ.length=σ.length
 at_:∀ (i:Nat) (v:AV),ρ[i]?=some (some v)→∃ x,σ[i]?=some (some x)∧RepA K p H v x
section
variable {K:PySem.W.Frag} {p q r:Ph} {H H' H'':Hp} {S:Sto}
theorem Sim.step (s:Sim K p S H):Step p H p H:=⟨s.wc,s.mu,List.prefix_rfl,fun _ h=>h,fun _ h=>h,fun _ h g=>absurd h g,fun _ h g=>absurd h g,fun _ h g=>absurd h g,fun _ _ h _=>h⟩
theorem Step.trans (a:Step p H q H') (b:Step q H' r H''):Step p H r H'':=by
 have back:∀ x,H' x=none→¬ p.w x→H x=none:=fun x h n=>by
  cases e:H x with
  | none=>rfl
  | some o=>rw [a.keep x o e n] at h; cases h
 refine ⟨a.wc,a.mu,a.pre.trans b.pre,fun x h=>b.mw x (a.mw x h),fun x h=>b.mono x (a.mono x h),fun x h n=>?_,fun x h n=>?_,fun x h n=>?_,fun x o e n=>?_⟩
 ·by_cases m:x∈q.f
  ·exact a.nf x m n
  ·have hn:=b.nf x h m
   refine back x hn fun z=>?_
   obtain ⟨o,ho,_⟩:=b.mu x (a.mono x (a.wc x z))
   rw [hn] at ho
   cases ho
 ·by_cases m:q.w x
  ·exact a.nw x m n
  ·exact back x (b.nw x h m) n
 ·by_cases m:q.c x
  ·exact a.nc x m n
  ·exact back x (b.nc x h m) fun z=>n (a.wc x z)
 ·refine b.keep x o (a.keep x o e n) fun z=>?_
  rw [a.nw x z n] at e
  cases e
theorem Step.tup (s:Step p H q H') {a:Addr} {vs:List V} (h:SqT K H a vs):SqT K H' a vs:=by
 have go:∀ o,H a=some o→¬ Mb o→H' a=some o:=fun o e n=>s.keep a o e fun z=>by
  obtain ⟨u,e',m⟩:=s.mu a (s.wc a z)
  rw [e] at e'
  cases e'
  exact n m
 rcases h with (h | ⟨o,h⟩) | h
 ·exact .inl (.inl (go _ h (fun z=>z)))
 ·exact .inl (.inr ⟨o,go _ h (fun z=>z)⟩)
 ·exact .inr h
theorem Step.lat (s:Step p H q H') {a:Addr} {vs:List V} (h:LAt K p.c H a vs):LAt K q.c H' a vs:=by
 rcases h with ⟨h,n⟩ | ⟨o,h⟩ | h
 ·refine .inl ⟨s.keep a _ h fun z=>n (s.wc a z),fun z=>?_⟩
  rw [s.nc a z n] at h
  cases h
 ·refine .inr (.inl ⟨o,s.keep a _ h fun z=>?_⟩)
  obtain ⟨u,e',m⟩:=s.mu a (s.wc a z)
  rw [h] at e'
  cases e'
  exact m
 ·exact .inr (.inr h)
theorem Step.rep (s:Step p H q H') {v:PV} {x:V} (h:Rep K p.c H v x):Rep K q.c H' v x:=Rep.mono (fun _ _=>s.tup) (fun _ _=>s.lat) v x h
theorem Step.reps (s:Step p H q H') {v:List PV} {x:List V} (h:Reps K p.c H v x):Reps K q.c H' v x:=Reps.mono (fun _ _=>s.tup) (fun _ _=>s.lat) v x h
theorem Step.at_ (s:Step p H q H') {k:Nat} {a:Addr} (h:p.f[k]?=some a):q.f[k]?=some a:=by
 obtain ⟨t,e⟩:=s.pre
 rw [← e,List.getElem?_append_left (by
  have:=List.getElem?_eq_some_iff.mp h
  exact this.1)]
 exact h
theorem Step.repA (s:Step p H q H') {v:AV} {x:V} (h:RepA K p H v x):RepA K q H' v x:=by
 cases v with
 | pv v=>exact s.rep h
 | ref k =>
  obtain ⟨a,e,f⟩:=h
  exact ⟨a,s.at_ e,f⟩
theorem Step.repE (s:Step p H q H') {ρ:Rho} {σ:St} (h:RepE K p H ρ σ):RepE K q H' ρ σ :=
 ⟨h.len,fun i v e=>let ⟨x,e1,e2⟩:=h.at_ i v e; ⟨x,e1,s.repA e2⟩⟩
theorem Sim.same (s:Sim K p S H) (h:Same H H'):Step p H p H':=⟨s.wc,s.mu,List.prefix_rfl,fun _ h=>h,fun _ h=>h,fun _ h g=>absurd h g,fun _ h g=>absurd h g,fun _ h g=>absurd h g,fun a o e _=>h a o e⟩
theorem Sim.ofSame (s:Sim K p S H) (h:Same H H'):Sim K p S H' :=
 ⟨s.nd,s.len,s.sub,s.wc,fun a m=>let ⟨o,e,m⟩:=s.mu a m; ⟨o,h a o e,m⟩,fun k a o e1 e2=>by
  exact (s.obj k a o e1 e2).mono (fun vs e=>h _ _ e) (fun b w f=>⟨⟨w,f⟩,fun vs e=>h _ _ e⟩) fun xs vs=>(s.same h).reps⟩
theorem aa3 {a:Addr} {o:HO} (h:H a=none):Same H (upd H a o):=fun b u e=>by
 rw [aaF (aaL e h)]
 exact e
end
section
variable {α β γ δ:Type}
def aaJ (K:PySem.W.Frag) (cl:Str→Addr) (R:Ph→Hp→α→β→Prop) (p:Ph) (H:Hp) (r:Res α) (Q:β→Hp→Prop) (E:XK):Prop:=match r with
 | .ok a S=>∀ q H' x,Step p H q H'→Sim K q S H'→R q H' a x→Q x H'
 | .exc n S=>∀ q H',Step p H q H'→Sim K q S H'→E (.ref (cl n)) none H'
 | .fail=>False
def abr (K:PySem.W.Frag) (cl:Str→Addr) (p:Ph) (H:Hp) (r:SRes) (D:Ends) (E:XK):Prop:=match r with
 | .nx ρ S=>∀ q H' σ,Step p H q H'→Sim K q S H'→RepE K q H' ρ σ→D.nx σ H'
 | .bk ρ S=>∀ q H' σ,Step p H q H'→Sim K q S H'→RepE K q H' ρ σ→D.bk σ H'
 | .ct ρ S=>∀ q H' σ,Step p H q H'→Sim K q S H'→RepE K q H' ρ σ→D.ct σ H'
 | .rt v S=>∀ q H' x,Step p H q H'→Sim K q S H'→RepA K q H' v x→D.rt x H'
 | .exc n S=>∀ q H',Step p H q H'→Sim K q S H'→E (.ref (cl n)) none H'
 | .fail=>False
variable {K:PySem.W.Frag} {cl:Str→Addr} {p q:Ph} {H H':Hp} {S:Sto} {E:XK} {R:Ph→Hp→α→β→Prop} {R':Ph→Hp→γ→δ→Prop}
theorem aaJ.mono {r:Res α} {Q:β→Hp→Prop} (h:aaJ K cl R p H r Q E) (s:Step p H q H'):aaJ K cl R q H' r Q E:=by
 cases r with
 | ok a S=>exact fun q' H'' x s'=>h q' H'' x (s.trans s')
 | exc n S=>exact fun q' H'' s'=>h q' H'' (s.trans s')
 | fail=>exact h
theorem abr.mono {r:SRes} {D:Ends} (h:abr K cl p H r D E) (s:Step p H q H'):abr K cl q H' r D E:=by
 cases r with
 | nx ρ S=>exact fun q' H'' x s'=>h q' H'' x (s.trans s')
 | bk ρ S=>exact fun q' H'' x s'=>h q' H'' x (s.trans s')
 | ct ρ S=>exact fun q' H'' x s'=>h q' H'' x (s.trans s')
 | rt v S=>exact fun q' H'' x s'=>h q' H'' x (s.trans s')
 | exc n S=>exact fun q' H'' s'=>h q' H'' (s.trans s')
 | fail=>exact h
theorem aaJ.ret {a:α} {x:β} {Q:β→Hp→Prop} (h:aaJ K cl R p H (.ok a S) Q E) (s:Sim K p S H) (r:R p H a x):Q x H:=h p H x s.step s r
theorem aaJ.same {a:α} {x:β} {Q:β→Hp→Prop} (h:aaJ K cl R p H (.ok a S) Q E) (s:Sim K p S H) (e:Same H H') (r:R p H' a x):Q x H':=h p H' x (s.same e) (s.ofSame e) r
def tP (K:PySem.W.Frag) (cl:Str→Addr) (E:XK) (R:Ph→Hp→α→β→Prop) (m:Rho→Sto→Res α) (σ:St) (H:Hp) (Q:β→Hp→Prop):Prop :=
 ∃ p S ρ,Sim K p S H∧RepE K p H ρ σ∧aaJ K cl R p H (m ρ S) Q E
def tS (K:PySem.W.Frag) (cl:Str→Addr) (E:XK) (m:Rho→Sto→SRes):TS:=fun D σ H =>
 ∃ p S ρ,Sim K p S H∧RepE K p H ρ σ∧abr K cl p H (m ρ S) D E
theorem aar {m:Rho→Sto→Res α} {k:α→Sto→Res γ} {ρ:Rho} {σ:St} {Q:δ→Hp→Prop} {T:β→Hp→Prop} (s:Sim K p S H) (e:RepE K p H ρ σ) (h:aaJ K cl R' p H ((m ρ S).bind k) Q E)
  (g:∀ q H' a b S',Step p H q H'→Sim K q S' H'→RepE K q H' ρ σ→R q H' a b→aaJ K cl R' q H' (k a S') Q E→T b H'):tP K cl E R m σ H T:=by
 refine ⟨p,S,ρ,s,e,?_⟩
 cases z:m ρ S with
 | ok a S1 =>
  rw [z] at h
  exact fun q H' b st sm r=>g q H' a b S1 st sm (st.repE e) r (aaJ.mono (r:=k a S1) h st)
 | exc n S1 =>
  rw [z] at h
  exact h
 | fail =>
  rw [z] at h
  exact h
def SRes.of {α:Type} (r:Res α) (k:α→Sto→SRes):SRes:=match r with
 | .ok a S=>k a S
 | .exc n S=>.exc n S
 | .fail=>.fail
theorem abV {m:Rho→Sto→Res α} {k:α→Sto→SRes} {ρ:Rho} {σ:St} {D:Ends} {T:β→Hp→Prop} (s:Sim K p S H) (e:RepE K p H ρ σ) (h:abr K cl p H (SRes.of (m ρ S) k) D E)
  (g:∀ q H' a b S',Step p H q H'→Sim K q S' H'→RepE K q H' ρ σ→R q H' a b→abr K cl q H' (k a S') D E→T b H'):tP K cl E R m σ H T:=by
 refine ⟨p,S,ρ,s,e,?_⟩
 cases z:m ρ S with
 | ok a S1 =>
  rw [z] at h
  exact fun q H' b st sm r=>g q H' a b S1 st sm (st.repE e) r (abr.mono (r:=k a S1) h st)
 | exc n S1 =>
  rw [z] at h
  exact h
 | fail =>
  rw [z] at h
  exact h
end
end L2.Pp
namespace L2.Pp
open PySem PySem.Spec PyProof.Rows Bn
abbrev RB:Ph→Hp→Bool→Bool→Prop:=fun _ _ a b=>a=b
abbrev ME:=Rho→Sto→Res AV
abbrev MT:=Rho→Sto→Res Bool
abbrev MA:=Rho→Sto→Res (List AV)
abbrev MS:=Rho→Sto→SRes
section
variable (K:PySem.W.Frag) (cl:Str→Addr) (E:XK) (X:Cx)
def PEp (e:Expr) (m:ME):Prop:=X.K=K→PE X e (tP K cl E (RepA K) m)
def PTp (e:Expr) (m:MT):Prop:=X.K=K→PT X e (tP K cl E RB m)
def PWp (e:Expr) (m:MT):Prop:=X.K=K→PW X e (tP K cl E RB m)
def PAp (es:List Expr) (m:MA):Prop:=X.K=K→PA X es (tP K cl E (acy K) m)
def PSp (st:Stmt) (m:MS):Prop:=X.K=K→PS X st (tS K cl E m)
def PSsp (st:List Stmt) (m:MS):Prop:=X.K=K→PSs X st (tS K cl E m)
end
theorem PA.imp {X:Cx} {es:List Expr} {t t':TA} (h:PA X es t) (i:∀ σ H Q,t' σ H Q→t σ H Q):PA X es t':=fun pos pins s σ H Q I q=>h pos pins s σ H Q I (i σ H Q q)
theorem PW.imp {X:Cx} {e:Expr} {t t':TT} (h:PW X e t) (i:∀ σ H Q,t' σ H Q→t σ H Q):PW X e t':=fun wh pins s σ H Q I q=>h wh pins s σ H Q I (i σ H Q q)
def mVar (i:Nat):ME:=fun ρ S=>match ρ[i]? with
 | some (some v)=>.ok v S
 | _=>.fail
def mC (v:PV):ME:=fun _ S=>.ok (.pv v) S
def rd (S:Sto):AV→Option PV
 | .pv v=>some v
 | .ref k=>match S[k]? with
  | some (.lst xs)=>some (.lst xs)
  | _=>none
def abi (S:Sto):List AV→Option (List PV)
 | []=>some []
 | a :: r=>match rd S a with
  | some v=>match abi S r with
   | some vs=>some (v :: vs)
   | none=>none
  | none=>none
def okO (o:Option PV) (S:Sto):Res AV:=match o with
 | some r=>.ok (.pv r) S
 | none=>.fail
def abN (f:PV→Option PV) (a:AV) (S:Sto):Res AV:=okO ((rd S a).bind f) S
def aa6 (f:PV→PV→Option PV) (a b:AV) (S:Sto):Res AV:=okO ((rd S a).bind fun x=>(rd S b).bind fun y=>f x y) S
def mUn (f:PV→Option PV) (ma:ME):ME:=fun ρ S=>(ma ρ S).bind fun x S1=>abN f x S1
def mBin (f:PV→PV→Option PV) (ma mb:ME):ME:=fun ρ S=>(ma ρ S).bind fun x S1=>(mb ρ S1).bind fun y S2=>aa6 f x y S2
def mNil:MA:=fun _ S=>.ok [] S
def aac (ma:ME) (mr:MA):MA:=fun ρ S=>(ma ρ S).bind fun x S1=>(mr ρ S1).bind fun xs S2=>.ok (x :: xs) S2
def abm:List AV→Option (List PV)
 | []=>some []
 | .pv v :: r=>match abm r with
  | some vs=>some (v :: vs)
  | none=>none
 | .ref _ :: _=>none
def abF (f:List PV→Option PV) (xs:List AV) (S:Sto):Res AV:=okO ((abm xs).bind f) S
def aby (f:List PV→Option PV) (xs:List AV) (S:Sto):Res AV:=okO ((abi S xs).bind f) S
def mR (f:List PV→Option PV) (ma:MA):ME:=fun ρ S=>(ma ρ S).bind fun xs S1=>aby f xs S1
def mN (f:List PV→Option PV) (ma:MA):ME:=fun ρ S=>(ma ρ S).bind fun xs S1=>abF f xs S1
def fTup (vs:List PV):Option PV:=if vs.length≤16777216 then some (.tup vs) else none
def fLst (vs:List PV):Option PV:=if vs.length≤16777216 then some (.lst vs) else none
def tst:AV→Sto→Res Bool
 | .pv (.bl b),S=>.ok b S
 | _,_=>.fail
def mTst (m:ME):MT:=fun ρ S=>(m ρ S).bind tst
def mNot (m:MT):MT:=fun ρ S=>(m ρ S).bind fun b S1=>.ok (!b) S1
def mAnd (m n:MT):MT:=fun ρ S=>(m ρ S).bind fun b S1=>if b=true then n ρ S1 else .ok false S1
def mOr (m n:MT):MT:=fun ρ S=>(m ρ S).bind fun b S1=>if b=true then .ok true S1 else n ρ S1
def abD (m n:ME):ME:=fun ρ S=>(m ρ S).bind fun x S1=>match x with
 | .pv (.bl true)=>n ρ S1
 | .pv (.bl false)=>.ok (.pv (.bl false)) S1
 | _=>.fail
def mOrV (m n:ME):ME:=fun ρ S=>(m ρ S).bind fun x S1=>match x with
 | .pv (.bl false)=>n ρ S1
 | .pv (.bl true)=>.ok (.pv (.bl true)) S1
 | _=>.fail
def fNot:PV→Option PV
 | .bl b=>some (.bl (!b))
 | _=>none
def mIf (c:MT) (a b:ME):ME:=fun ρ S=>(c ρ S).bind fun t S1=>if t=true then a ρ S1 else b ρ S1
section
variable {K:PySem.W.Frag} {cl:Str→Addr} {E:XK} {X:Cx} {a b c e:Expr} {es:List Expr} {ma mb mc m:ME} {mt nt:MT} {ms:MA} {pos:Pos}
theorem aab (i:Nat) {x:Str} (hN:X.N[i]?=some x:=by rfl) (hv:Vis X.env.scope x:=by first | exact Or.inl rfl | exact Or.inr (Or.inl rfl) | exact Or.inr (Or.inr rfl)) (hd:(x == ("__debug__":Str))=false:=by decide)
  (hcd:(x == ("__classdict__":Str))=false:=by decide):PEp K cl E X (.Name x pos) (mVar i):=fun _=>(aiC hN hv hd hcd).imp fun σ H Q ⟨p,S,ρ,s,e,h⟩=>by
 unfold mVar at h
 cases z:ρ[i]? with
 | none=>rw [z] at h; exact h.elim
 | some o =>
  cases o with
  | none=>rw [z] at h; exact h.elim
  | some v =>
   rw [z] at h
   obtain ⟨x,e1,e2⟩:=e.at_ i v z
   exact ⟨x,e1,aaJ.ret h s e2⟩
theorem aai {i:Int} {j}:PEp K cl E X (.Constant (.int i) j pos) (mC (.int i)):=fun _=>akG.imp fun σ H Q ⟨p,S,ρ,s,e,h⟩=>aaJ.ret (R:=RepA K) (x:=.int i) h s (by show Rep K p.c H (.int i) (.int i); unfold Rep; rfl)
theorem afm {i:Bool} {j}:PEp K cl E X (.Constant (.bool i) j pos) (mC (.bl i)):=fun _=>alz.imp fun σ H Q ⟨p,S,ρ,s,e,h⟩=>aaJ.ret (R:=RepA K) (x:=.bl i) h s (by show Rep K p.c H (.bl i) (.bl i); unfold Rep; rfl)
theorem abt {i:Str} {j}:PEp K cl E X (.Constant (.str i) j pos) (mC (.str i)):=fun _=>ahF.imp fun σ H Q ⟨p,S,ρ,s,e,h⟩=>aaJ.ret (R:=RepA K) (x:=.str i) h s (by show Rep K p.c H (.str i) (.str i); unfold Rep; rfl)
theorem ahv {j}:PEp K cl E X (.Constant .none j pos) (mC .non):=fun _=>akg.imp fun σ H Q ⟨p,S,ρ,s,e,h⟩=>aaJ.ret (R:=RepA K) (x:=.non) h s (by show Rep K p.c H .non .non; unfold Rep; rfl)
def RepR (K:PySem.W.Frag) (p:Ph) (H:Hp) (v:PV) (x:V):Prop:=Rep K p.c H v x∨∃ xs a vs,v=.lst xs∧x=.ref a∧H a=some (.lst vs)∧vs.length≤sizeLine∧Reps K p.c H xs vs
theorem RepR.int {p:Ph} {H:Hp} {i:Int} {x:V} (h:RepR K p H (.int i) x):x=.int i:=by
 rcases h with h | ⟨_,_,_,e,_⟩
 ·unfold Rep at h; exact h
 ·cases e
theorem RepR.bl {p:Ph} {H:Hp} {i:Bool} {x:V} (h:RepR K p H (.bl i) x):x=.bl i:=by
 rcases h with h | ⟨_,_,_,e,_⟩
 ·unfold Rep at h; exact h
 ·cases e
theorem RepR.str {p:Ph} {H:Hp} {i:Str} {x:V} (h:RepR K p H (.str i) x):x=.str i:=by
 rcases h with h | ⟨_,_,_,e,_⟩
 ·unfold Rep at h; exact h
 ·cases e
theorem RepR.non {p:Ph} {H:Hp} {x:V} (h:RepR K p H .non x):x=.non:=by
 rcases h with h | ⟨_,_,_,e,_⟩
 ·unfold Rep at h; exact h
 ·cases e
theorem RepR.tup {p:Ph} {H:Hp} {xs:List PV} {x:V} (h:RepR K p H (.tup xs) x):∃ a vs,x=.ref a∧SqT K H a vs∧vs.length≤sizeLine∧Reps K p.c H xs vs:=by
 rcases h with h | ⟨_,_,_,e,_⟩
 ·unfold Rep at h; exact h
 ·cases e
theorem RepR.lst {p:Ph} {H:Hp} {xs:List PV} {x:V} (h:RepR K p H (.lst xs) x):∃ a vs,x=.ref a∧SqL K H a vs∧vs.length≤sizeLine∧Reps K p.c H xs vs:=by
 rcases h with h | ⟨ys,a,vs,e,e2,h,z,r⟩
 ·unfold Rep at h
  obtain ⟨a,vs,e,l,z,r⟩:=h
  exact ⟨a,vs,e,l.sq,z,r⟩
 ·cases e
  exact ⟨a,vs,e2,SqL.of h,z,r⟩
theorem ad6 {p:Ph} {S:Sto} {H:Hp} {a:AV} {v:PV} {x:V} (s:Sim K p S H) (r:RepA K p H a x) (e:rd S a=some v):RepR K p H v x:=by
 cases a with
 | pv u=>cases e; exact .inl r
 | ref k =>
  obtain ⟨a,e1,rfl⟩:=r
  unfold rd at e
  cases z:S[k]? with
  | none=>simp only [z] at e; cases e
  | some o =>
   cases o with
   | lst xs =>
    simp only [z] at e
    cases e
    obtain ⟨vs,h,l,r⟩:=s.obj k a _ e1 z
    exact .inr ⟨xs,a,vs,rfl,rfl,h,l,r⟩
   | lol xss=>simp only [z] at e; cases e
abbrev akR (K:PySem.W.Frag) (p:Ph) (H:Hp):List PV→List V→Prop:=Paired (RepR K p H)
theorem aeO {p:Ph} {S:Sto} {H:Hp} (s:Sim K p S H):∀ {as:List AV} {vs:List PV} {xs:List V},acy K p H as xs→abi S as=some vs→akR K p H vs xs
 | [],vs,_,.nil,e=>by
  cases e
  exact .nil
 | a :: r,vs,_,.cons h t,e=>by
  unfold abi at e
  cases z:rd S a with
  | none=>simp only [z] at e; cases e
  | some v =>
   simp only [z] at e
   cases y:abi S r with
   | none=>simp only [y] at e; cases e
   | some us =>
    simp only [y] at e
    cases e
    exact .cons (ad6 s h z) (aeO s t y)
def OpS (K:PySem.W.Frag) (r:R2) (f:PV→PV→Option PV):Prop:=∀ {p:Ph} {S:Sto} {H:Hp} {a b c:PV} {x y:V} {Q:VK},Sim K p S H→RepR K p H a x→RepR K p H b y→f a b=some c →
 (∀ H' z,Same H H'→Rep K p.c H' c z→Q z H')→r x y H Q
def UnS (K:PySem.W.Frag) (r:V→Hp→VK→Prop) (f:PV→Option PV):Prop:=∀ {p:Ph} {S:Sto} {H:Hp} {a c:PV} {x:V} {Q:VK},Sim K p S H→RepR K p H a x→f a=some c →
 (∀ H' z,Same H H'→Rep K p.c H' c z→Q z H')→r x H Q
def CaS (K:PySem.W.Frag) (r:List V→Hp→VK→Prop) (f:List PV→Option PV):Prop:=∀ {p:Ph} {S:Sto} {H:Hp} {as:List PV} {c:PV} {xs:List V} {Q:VK},Sim K p S H→Reps K p.c H as xs→f as=some c →
 (∀ H' z,Same H H'→Rep K p.c H' c z→Q z H')→r xs H Q
def CaR (K:PySem.W.Frag) (r:List V→Hp→VK→Prop) (f:List PV→Option PV):Prop:=∀ {p:Ph} {S:Sto} {H:Hp} {as:List PV} {c:PV} {xs:List V} {Q:VK},Sim K p S H→akR K p H as xs→f as=some c →
 (∀ H' z,Same H H'→Rep K p.c H' c z→Q z H')→r xs H Q
theorem acE {p:Ph} {S:Sto} {H:Hp} {o:Option PV} {Q:VK} (s:Sim K p S H) (h:aaJ K cl (RepA K) p H (okO o S) Q E):∃ c,o=some c∧∀ H' z,Same H H'→Rep K p.c H' c z→Q z H':=by
 cases o with
 | none=>exact h.elim
 | some c=>exact ⟨c,rfl,fun H' z sm rz=>aaJ.same (R:=RepA K) h s sm rz⟩
theorem abO {r:R2} {f:PV→PV→Option PV} (hf:OpS K r f) {p:Ph} {S:Sto} {H:Hp} {a b:AV} {x y:V} {Q:VK} (s:Sim K p S H) (ra:RepA K p H a x) (rb:RepA K p H b y) (h:aaJ K cl (RepA K) p H (aa6 f a b S) Q E):r x y H Q:=by
 obtain ⟨c,e,k⟩:=acE s h
 cases z:rd S a with
 | none=>rw [z] at e; cases e
 | some v =>
  cases y:rd S b with
  | none=>rw [z,y] at e; cases e
  | some w =>
   rw [z,y] at e
   exact hf s (ad6 s ra z) (ad6 s rb y) e k
theorem acH {r:V→Hp→VK→Prop} {f:PV→Option PV} (hf:UnS K r f) {p:Ph} {S:Sto} {H:Hp} {a:AV} {x:V} {Q:VK} (s:Sim K p S H) (ra:RepA K p H a x) (h:aaJ K cl (RepA K) p H (abN f a S) Q E):r x H Q:=by
 obtain ⟨c,e,k⟩:=acE s h
 cases z:rd S a with
 | none=>rw [z] at e; cases e
 | some v =>
  rw [z] at e
  exact hf s (ad6 s ra z) e k
theorem aeW {r:List V→Hp→VK→Prop} {f:List PV→Option PV} (hf:CaR K r f) {p:Ph} {S:Sto} {H:Hp} {as:List AV} {xs:List V} {Q:VK} (s:Sim K p S H) (ra:acy K p H as xs) (h:aaJ K cl (RepA K) p H (aby f as S) Q E):r xs H Q:=by
 obtain ⟨c,e,k⟩:=acE s h
 cases z:abi S as with
 | none=>rw [z] at e; cases e
 | some v =>
  rw [z] at e
  exact hf s (aeO s ra z) e k
theorem acu {p:Ph} {H:Hp}:∀ {as:List AV} {vs:List PV} {xs:List V},abm as=some vs→acy K p H as xs→Reps K p.c H vs xs
 | [],vs,_,e,.nil=>by
  cases e
  exact .nil
 | .pv v :: r,vs,_,e,.cons h t=>by
  unfold abm at e
  cases z:abm r with
  | none=>simp only [z] at e; cases e
  | some us =>
   simp only [z] at e
   cases e
   exact .cons h (acu z t)
 | .ref k :: r,vs,_,e,.cons h t=>by
  cases e
theorem adn {r:List V→Hp→VK→Prop} {f:List PV→Option PV} (hf:CaS K r f) {p:Ph} {S:Sto} {H:Hp} {as:List AV} {xs:List V} {Q:VK} (s:Sim K p S H) (ra:acy K p H as xs) (h:aaJ K cl (RepA K) p H (abF f as S) Q E):r xs H Q:=by
 obtain ⟨c,e,k⟩:=acE s h
 cases z:abm as with
 | none=>rw [z] at e; cases e
 | some v =>
  rw [z] at e
  exact hf s (acu z ra) e k
theorem aaC {op:Operator} {r:R2} {f:PV→PV→Option PV} (ho:OpR X (binaryOp op) r) (hf:OpS X.K r f) (ha:PEp K cl E X a ma) (hb:PEp K cl E X b mb):PEp K cl E X (.BinOp a op b pos) (mBin f ma mb):=by
 intro hK
 subst hK
 refine (alj ho (ha rfl) (hb rfl)).imp fun σ H Q ⟨p,S,ρ,s,e,h⟩=>?_
 exact aar s e h fun q H1 a x S1 st s1 e1 r1 h1=>aar s1 e1 h1 fun q2 H2 b y S2 st2 s2 e2 r2 h2=>abO hf s2 (st2.repA r1) r2 h2
theorem aiV {op:UnaryOp} {r:V→Hp→VK→Prop} {f:PV→Option PV} (ho:UnR X (unaryOp op) r) (hf:UnS X.K r f) (ha:PEp K cl E X a ma):PEp K cl E X (.UnaryOp op a pos) (mUn f ma):=by
 intro hK
 subst hK
 refine (alD ho (ha rfl)).imp fun σ H Q ⟨p,S,ρ,s,e,h⟩=>?_
 exact aar s e h fun q H1 a x S1 st s1 e1 r1 h1=>acH hf s1 r1 h1
theorem adH {op:CmpOp} {r:R2} {f:PV→PV→Option PV} (ho:OpR X (compareOp op) r) (hf:OpS X.K r f) (ha:PEp K cl E X a ma) (hb:PEp K cl E X b mb) (hm:behindInMarks op b=false):PEp K cl E X (.Compare a [op] [b] pos) (mBin f ma mb):=by
 intro hK
 subst hK
 refine (aiQ ho (ha rfl) (hb rfl) hm).imp fun σ H Q ⟨p,S,ρ,s,e,h⟩=>?_
 exact aar s e h fun q H1 a x S1 st s1 e1 r1 h1=>aar s1 e1 h1 fun q2 H2 b y S2 st2 s2 e2 r2 h2=>abO hf s2 (st2.repA r1) r2 h2
theorem ah7 {p:Ph} {H:Hp} {v:AV} {x:V} (r:RepA K p H v x) {b:Bool} (e:v=.pv (.bl b)):x=.bl b:=by
 subst e
 unfold RepA Rep at r
 exact r
theorem aec {p:Ph} {S:Sto} {H:Hp} {v:AV} {x:V} {Q:Bool→Hp→Prop} (s:Sim K p S H) (r:RepA K p H v x)
  (h:aaJ K cl RB p H (tst v S) Q E):∃ k,x=.bl k∧Q k H:=by
 cases v with
 | ref k=>exact h.elim
 | pv v =>
  cases v with
  | bl b=>exact ⟨b,ah7 r rfl,aaJ.ret (R:=RB) h s rfl⟩
  | _=>exact h.elim
theorem aaI {op:CmpOp} {r:R2} {f:PV→PV→Option PV} (ho:OpR X (compareOp op) r) (hf:OpS X.K r f) (ha:PEp K cl E X a ma) (hb:PEp K cl E X b mb) (hm:behindInMarks op b=false):PTp K cl E X (.Compare a [op] [b] pos) (mTst (mBin f ma mb)):=by
 intro hK
 subst hK
 refine (ajA ho (ha rfl) (hb rfl) hm).imp fun σ H Q ⟨p,S,ρ,s,e,h⟩=>?_
 have z:tP X.K cl E (RepA X.K) (mBin f ma mb) σ H fun x H'=>∃ k,x=.bl k∧Q k H':=aar s e h fun q H1 a x S1 st s1 e1 r1 h1=>aec s1 r1 h1
 obtain ⟨p',S',ρ',s',e',h'⟩:=z
 exact aar s' e' h' fun q H1 a x S1 st s1 e1 r1 h1=>aar s1 e1 h1 fun q2 H2 b y S2 st2 s2 e2 r2 h2=>abO hf s2 (st2.repA r1) r2 h2
theorem acl (ha:PEp K cl E X a ma) (he:∀ whole,isTrue a X.env whole=(do let v ← whole; standAt a.pos; holding [v] (truthy v)):=by intro _; rfl):PTp K cl E X a (mTst ma):=by
 intro hK
 subst hK
 refine (akn (ha rfl) he).imp fun σ H Q ⟨p,S,ρ,s,e,h⟩=>?_
 exact aar s e h fun q H1 a x S1 st s1 e1 r1 h1=>aec s1 r1 h1
theorem ac1 (ha:PTp K cl E X a mt):PTp K cl E X (.UnaryOp .Not a pos) (mNot mt):=by
 intro hK
 subst hK
 refine (ak3 (ha rfl)).imp fun σ H Q ⟨p,S,ρ,s,e,h⟩=>?_
 exact aar s e h fun q H1 a x S1 st s1 e1 r1 h1=>by
  cases r1
  exact aaJ.ret (R:=RB) h1 s1 rfl
theorem aih (ha:PTp K cl E X a mt):PWp K cl E X (.BoolOp .And [a] pos) mt:=fun hK=>ajW (ha hK)
theorem aek (ha:PTp K cl E X a mt):PWp K cl E X (.BoolOp .Or [a] pos) mt:=fun hK=>ak8 (ha hK)
theorem PWp.pt (h:PWp K cl E X a mt):PTp K cl E X a mt:=fun hK=>PW.pt (h hK)
theorem aj3 {rest:List Expr} (ha:PTp K cl E X a mt) (hb:PWp K cl E X (.BoolOp .And (b :: rest) pos) nt):PWp K cl E X (.BoolOp .And (a :: b :: rest) pos) (mAnd mt nt):=by
 intro hK
 subst hK
 refine PW.imp (akC (ha rfl) (hb rfl)) fun σ H Q ⟨p,S,ρ,s,e,h⟩=>?_
 refine aar s e h fun q H1 a x S1 st s1 e1 r1 h1=>?_
 cases r1
 cases a with
 | true=>exact ⟨q,S1,ρ,s1,e1,h1⟩
 | false=>exact aaJ.ret (R:=RB) h1 s1 rfl
theorem af2 {rest:List Expr} (ha:PTp K cl E X a mt) (hb:PWp K cl E X (.BoolOp .Or (b :: rest) pos) nt):PWp K cl E X (.BoolOp .Or (a :: b :: rest) pos) (mOr mt nt):=by
 intro hK
 subst hK
 refine PW.imp (alw (ha rfl) (hb rfl)) fun σ H Q ⟨p,S,ρ,s,e,h⟩=>?_
 refine aar s e h fun q H1 a x S1 st s1 e1 r1 h1=>?_
 cases r1
 cases a with
 | true=>exact aaJ.ret (R:=RB) h1 s1 rfl
 | false=>exact ⟨q,S1,ρ,s1,e1,h1⟩
theorem ahk {op} (h:PEp K cl E X a ma):PEp K cl E X (.BoolOp op [a] pos) ma:=fun hK=>akK (h hK)
theorem af6 {rest:List Expr} (ha:PEp K cl E X a ma) (hb:PEp K cl E X (.BoolOp .And (b :: rest) pos) mb):PEp K cl E X (.BoolOp .And (a :: b :: rest) pos) (abD ma mb):=by
 intro hK
 subst hK
 refine (akS (ha rfl) (hb rfl)).imp fun σ H Q ⟨p,S,ρ,s,e,h⟩=>?_
 refine aar s e h fun q H1 a x S1 st s1 e1 r1 h1=>?_
 cases a with
 | ref k=>exact h1.elim
 | pv v =>
  cases v with
  | bl b =>
   refine ⟨b,ah7 r1 rfl,?_⟩
   cases b with
   | true=>exact ⟨q,S1,ρ,s1,e1,h1⟩
   | false=>exact aaJ.ret (R:=RepA X.K) h1 s1 (by show Rep X.K q.c H1 _ _; unfold Rep; rfl)
  | _=>exact h1.elim
theorem akw (ha:PEp K cl E X a ma):PEp K cl E X (.UnaryOp .Not a pos) (mUn fNot ma):=by
 intro hK
 subst hK
 refine (akQ (ha rfl)).imp fun σ H Q ⟨p,S,ρ,s,e,h⟩=>?_
 refine aar s e h fun q H1 a x S1 st s1 e1 r1 h1=>?_
 refine acH (r:=fun x H Q=>∃ c,x=.bl c∧Q (.bl (!c)) H) (f:=fNot) (fun {p S H a c x Q} s r e k=>?_) s1 r1 h1
 cases a with
 | bl b =>
  cases e
  exact ⟨b,r.bl,k H _ (Same.refl H) (by unfold Rep; rfl)⟩
 | _=>cases e
theorem ai0 (hc:PTp K cl E X c mt) (ha:PEp K cl E X a ma) (hb:PEp K cl E X b mb):PEp K cl E X (.IfExp c a b pos) (mIf mt ma mb):=by
 intro hK
 subst hK
 refine (ais (hc rfl) (ha rfl) (hb rfl)).imp fun σ H Q ⟨p,S,ρ,s,e,h⟩=>?_
 refine aar s e h fun q H1 a x S1 st s1 e1 r1 h1=>?_
 cases r1
 cases a with
 | true=>exact ⟨q,S1,ρ,s1,e1,h1⟩
 | false=>exact ⟨q,S1,ρ,s1,e1,h1⟩
theorem aaf:PAp K cl E X [] mNil:=fun _=>(PA.imp adI fun σ H Q ⟨p,S,ρ,s,e,h⟩=>aaJ.ret (R:=acy K) h s .nil)
theorem aaa (ha:PEp K cl E X e m) (hr:PAp K cl E X es ms) (hs:starEach (e :: es) X.env=(false,eval e X.env) :: starEach es X.env:=by rfl):PAp K cl E X (e :: es) (aac m ms):=by
 intro hK
 subst hK
 refine PA.imp (abq (ha rfl) (hr rfl) hs) fun σ H Q ⟨p,S,ρ,s,e,h⟩=>?_
 exact aar s e h fun q H1 a x S1 st s1 e1 r1 h1=>aar s1 e1 h1 fun q2 H2 b y S2 st2 s2 e2 r2 h2=>aaJ.ret (R:=acy X.K) h2 s2 (.cons (st2.repA r1) r2)
theorem acF {p:Ph} {S:Sto} {H:Hp} {vs:List PV} {xs:List V} {t:Addr} (s:Sim K p S H) (r:Reps K p.c H vs xs) (z:xs.length≤sizeLine) (ht:H t=none):Rep K p.c (upd H t (.tup xs)) (.tup vs) (.ref t):=by
 unfold Rep
 exact ⟨t,xs,rfl,SqT.of abg,z,(s.same (aa3 ht)).reps r⟩
theorem aep {p:Ph} {S:Sto} {H:Hp} {vs:List PV} {xs:List V} {t:Addr} (s:Sim K p S H) (r:Reps K p.c H vs xs) (z:xs.length≤sizeLine) (ht:H t=none):Rep K p.c (upd H t (.lst xs)) (.lst vs) (.ref t):=by
 unfold Rep
 refine ⟨t,xs,rfl,.inl ⟨abg,fun c=>?_⟩,z,(s.same (aa3 ht)).reps r⟩
 obtain ⟨o,e,_⟩:=s.mu t c
 rw [ht] at e
 cases e
theorem aaz:sizeLine=16777216:=sizeLine_eq
theorem aiL {x1} (h:PAp K cl E X es ms):PEp K cl E X (.Tuple es x1 pos) (mN fTup ms):=by
 intro hK
 subst hK
 refine (aiJ (h rfl)).imp fun σ H Q ⟨p,S,ρ,s,e,h⟩=>?_
 refine aar s e h fun q H1 as xs S1 st s1 e1 r1 h1=>?_
 refine adn (r:=fun xs H Q=>xs.length≤sizeLine∧∀ t,H t=none→Q (.ref t) (upd H t (.tup xs))) (f:=fTup) (fun {p S H as c xs Q} s r e k=>?_) s1 r1 h1
 unfold fTup at e
 split at e
 ·rename_i hl
  cases e
  rw [r.length,← aaz] at hl
  exact ⟨hl,fun t ht=>k _ _ (aa3 ht) (acF s r hl ht)⟩
 ·cases e
theorem ahj (h:PAp K cl E X es ms):PEp K cl E X (.List es pos) (mN fLst ms):=by
 intro hK
 subst hK
 refine (aiB (h rfl)).imp fun σ H Q ⟨p,S,ρ,s,e,h⟩=>?_
 refine aar s e h fun q H1 as xs S1 st s1 e1 r1 h1=>?_
 refine adn (r:=fun xs H Q=>xs.length≤sizeLine∧∀ t,H t=none→Q (.ref t) (upd H t (.lst xs))) (f:=fLst) (fun {p S H as c xs Q} s r e k=>?_) s1 r1 h1
 unfold fLst at e
 split at e
 ·rename_i hl
  cases e
  rw [r.length,← aaz] at hl
  exact ⟨hl,fun t ht=>k _ _ (aa3 ht) (aep s r hl ht)⟩
 ·cases e
end
end L2.Pp
namespace L2.Pp
open PySem PySem.Spec PyProof.Rows Bn
def sNil:MS:=fun ρ S=>.nx ρ S
def sSeq (a b:MS):MS:=fun ρ S=>match a ρ S with
 | .nx ρ1 S1=>b ρ1 S1
 | r=>r
def abh (m:ME):MS:=fun ρ S=>SRes.of (m ρ S) fun _ S1=>.nx ρ S1
def sRet (m:ME):MS:=fun ρ S=>SRes.of (m ρ S) fun v S1=>.rt v S1
def aca:MS:=fun _ S=>.rt (.pv .non) S
def sIf (c:MT) (a b:MS):MS:=fun ρ S=>SRes.of (c ρ S) fun t S1=>if t=true then a ρ S1 else b ρ S1
def sSet (i:Nat) (m:ME):MS:=fun ρ S=>SRes.of (m ρ S) fun v S1=>.nx (ρ.set i (some v)) S1
def sPar (i j:Nat) (m:MA):MS:=fun ρ S=>SRes.of (m ρ S) fun vs S1=>match vs with
 | [v,w]=>.nx ((ρ.set i (some v)).set j (some w)) S1
 | _=>.fail
abbrev GM:=PV→Rho→Option Rho
abbrev GMs:=List PV→Rho→Option Rho
def gN (i:Nat):GM:=fun v ρ=>some (ρ.set i (some (.pv v)))
def ahc:GMs:=fun vs ρ=>match vs with
 | []=>some ρ
 | _=>none
def ac6 (g:GM) (gs:GMs):GMs:=fun vs ρ=>match vs with
 | []=>none
 | v :: r=>match g v ρ with
  | some ρ1=>gs r ρ1
  | none=>none
def gT (n:Nat) (gs:GMs):GM:=fun v ρ=>match v with
 | .tup vs=>if vs.length=n then gs vs ρ else none
 | _=>none
abbrev Gd:=List (Nat × List PV)
def gOk (G:Gd) (S:Sto):Prop:=∀ g∈G,S[g.1]?=some (.lst g.2)
theorem adM (S:Sto):gOk [] S:=fun _ h=>nomatch h
abbrev MI:=Rho→Sto→Res (List PV × Gd)
open Classical in
noncomputable def abX (G:Gd) (g:GM) (mb:MS):List PV→Rho→Sto→SRes
 | [],ρ,S=>if gOk G S then .nx ρ S else .fail
 | x :: r,ρ,S=>if gOk G S then (match g x ρ with
  | none=>.fail
  | some ρ1=>match mb ρ1 S with
   | .nx ρ2 S2=>abX G g mb r ρ2 S2
   | .ct ρ2 S2=>abX G g mb r ρ2 S2
   | .bk ρ2 S2=>.nx ρ2 S2
   | .rt v S2=>.rt v S2
   | .exc n S2=>.exc n S2
   | .fail=>.fail) else .fail
noncomputable def sFor (mi:MI) (g:GM) (mb:MS):MS:=fun ρ S=>SRes.of (mi ρ S) fun xs S1=>abX xs.2 g mb xs.1 ρ S1
theorem adN {g:GM} {mb:MS} {ρ:Rho} {S:Sto}:abX [] g mb [] ρ S=.nx ρ S:=by
 unfold abX
 rw [if_pos (adM S)]
theorem acq {g:GM} {mb:MS} {x:PV} {r:List PV} {ρ:Rho} {S:Sto}:abX [] g mb (x :: r) ρ S=(match g x ρ with
  | none=>.fail
  | some ρ1=>match mb ρ1 S with
   | .nx ρ2 S2=>abX [] g mb r ρ2 S2
   | .ct ρ2 S2=>abX [] g mb r ρ2 S2
   | .bk ρ2 S2=>.nx ρ2 S2
   | .rt v S2=>.rt v S2
   | .exc n S2=>.exc n S2
   | .fail=>.fail):=by
 rw [abX,if_pos (adM S)]
def aaN (c:MT) (mb:MS):Nat→Rho→Sto→SRes
 | 0,_,_=>.fail
 | n+1,ρ,S=>SRes.of (c ρ S) fun t S1=>if t=true then (match mb ρ S1 with
   | .nx ρ2 S2=>aaN c mb n ρ2 S2
   | .ct ρ2 S2=>aaN c mb n ρ2 S2
   | .bk ρ2 S2=>.nx ρ2 S2
   | .rt v S2=>.rt v S2
   | .exc n S2=>.exc n S2
   | .fail=>.fail) else .nx ρ S1
open Classical in
noncomputable def adm (c:MT) (mb:MS):MS:=fun ρ S=>if h:∃ n,aaN c mb n ρ S≠.fail then aaN c mb h.choose ρ S else .fail
theorem SRes.of_ok {α:Type} {r:Res α} {k k':α→Sto→SRes} (h:∀ a S,k a S≠.fail→k' a S=k a S) (n:SRes.of r k≠.fail):SRes.of r k'=SRes.of r k:=by
 cases r with
 | ok a S=>exact h a S n
 | exc=>rfl
 | fail=>rfl
theorem acD {c:MT} {mb:MS}:∀ {n:Nat} {ρ:Rho} {S:Sto},aaN c mb n ρ S≠.fail→aaN c mb (n+1) ρ S=aaN c mb n ρ S
 | 0,_,_,h=>absurd rfl h
 | n+1,ρ,S,h=>by
  unfold aaN at h
  rw [aaN]
  conv=>rhs; rw [aaN]
  refine SRes.of_ok (fun t S1 h1=>?_) h
  by_cases ht:t=true
  ·simp only [if_pos ht] at h1 ⊢
   cases z:mb ρ S1 with
   | nx ρ2 S2=>rw [z] at h1; exact acD h1
   | ct ρ2 S2=>rw [z] at h1; exact acD h1
   | _=>rfl
  ·simp only [if_neg ht] at h1 ⊢
theorem acY {c:MT} {mb:MS} {n:Nat} {ρ:Rho} {S:Sto} (h:aaN c mb n ρ S≠.fail):∀ k,aaN c mb (n+k) ρ S=aaN c mb n ρ S
 | 0=>rfl
 | k+1=>by
  have ih:=acY h k
  rw [← Nat.add_assoc,acD (by rw [ih]; exact h),ih]
theorem adk {c:MT} {mb:MS} {n:Nat} {ρ:Rho} {S:Sto} {r:SRes} (e:aaN c mb n ρ S=r) (h:r≠.fail):adm c mb ρ S=r:=by
 have h':∃ n,aaN c mb n ρ S≠.fail:=⟨n,by rw [e]; exact h⟩
 unfold adm
 rw [dif_pos h']
 have e2:=h'.choose_spec
 rcases Nat.le_total n h'.choose with l | l
 ·obtain ⟨k,q⟩:=Nat.exists_eq_add_of_le l
  rw [q,acY (by rw [e]; exact h),e]
 ·obtain ⟨k,q⟩:=Nat.exists_eq_add_of_le l
  have z:=acY e2 k
  rw [← q,e] at z
  exact z.symm
section
variable {K:PySem.W.Frag} {cl:Str→Addr} {E:XK} {X:Cx} {a b c e tg:Expr} {es:List Expr} {m:ME} {mt:MT} {ms:MA} {b1 b2:MS} {st:Stmt} {sts sts':List Stmt} {pos:Pos}
theorem RepE.set {p:Ph} {H:Hp} {ρ:Rho} {σ:St} {v:AV} {x:V} (h:RepE K p H ρ σ) (r:RepA K p H v x) (i:Nat):RepE K p H (ρ.set i (some v)) (σ.set i (some x)):=by
 refine ⟨by rw [List.length_set,List.length_set,h.len],fun j u e=>?_⟩
 by_cases q:i=j
 ·subst q
  by_cases l:i < ρ.length
  ·rw [List.getElem?_set_self l] at e
   cases e
   exact ⟨x,List.getElem?_set_self (by rw [← h.len]; exact l),r⟩
  ·rw [List.getElem?_eq_none (by rw [List.length_set]; omega)] at e
   cases e
 ·rw [List.getElem?_set_ne q] at e ⊢
  exact h.at_ j u e
theorem aaE:PSsp K cl E X [] sNil:=fun _=>PSs.imp ai3 fun D σ H ⟨p,S,ρ,s,e,h⟩=>h p H σ s.step s e
theorem abr.nxD {p:Ph} {H:Hp} {ρ:Rho} {S:Sto} {D:Ends} (h:abr K cl p H (.nx ρ S) D E) {σ:St} (s:Sim K p S H) (e:RepE K p H ρ σ):D.nx σ H:=h p H σ s.step s e
theorem aad (h1:PSp K cl E X st b1) (h2:PSsp K cl E X sts b2):PSsp K cl E X (st :: sts) (sSeq b1 b2):=by
 intro hK
 subst hK
 refine PSs.imp (ahT (h1 rfl) (h2 rfl)) fun D σ H ⟨p,S,ρ,s,e,h⟩=>⟨p,S,ρ,s,e,?_⟩
 unfold sSeq at h
 cases z:b1 ρ S with
 | nx ρ1 S1 =>
  rw [z] at h
  exact fun q H' σ' stp sm ev=>⟨q,S1,ρ1,sm,ev,abr.mono (r:=b2 ρ1 S1) h stp⟩
 | bk ρ1 S1=>rw [z] at h; exact h
 | ct ρ1 S1=>rw [z] at h; exact h
 | rt v S1=>rw [z] at h; exact h
 | exc n S1=>rw [z] at h; exact h
 | fail=>rw [z] at h; exact h
theorem aaj (h1:PSp K cl E X st b1):PSsp K cl E X [st] b1:=fun hK=>ag2 (h1 hK)
theorem acw (he:PEp K cl E X e m) (hs:swapsWith e none pos.line X.env=pure false:=by rfl):PSp K cl E X (.Expr e pos) (abh m):=by
 intro hK
 subst hK
 refine PS.imp (ajY (he rfl) hs) fun D σ H ⟨p,S,ρ,s,e,h⟩=>?_
 exact abV s e h fun q H' a b S' stp sm ev r k=>abr.nxD k sm ev
theorem aay (he:PEp K cl E X e m):PSp K cl E X (.Return (some e) pos) (sRet m):=by
 intro hK
 subst hK
 refine PS.imp (akT (he rfl)) fun D σ H ⟨p,S,ρ,s,e,h⟩=>?_
 exact abV s e h fun q H' a b S' stp sm ev r k=>k q H' b sm.step sm r
theorem aaY (hc:PTp K cl E X c mt) (ha:PSsp K cl E X sts b1) (hb:PSsp K cl E X sts' b2):PSp K cl E X (.If c sts sts' pos) (sIf mt b1 b2):=by
 intro hK
 subst hK
 refine PS.imp (alI (hc rfl) (ha rfl) (hb rfl)) fun D σ H ⟨p,S,ρ,s,e,h⟩=>?_
 refine abV s e h fun q H' a b S' stp sm ev r k=>?_
 cases r
 cases a with
 | true=>exact ⟨q,S',ρ,sm,ev,k⟩
 | false=>exact ⟨q,S',ρ,sm,ev,k⟩
theorem aas {i:Nat} {x:Str} {pos':Pos} (hN:X.N.Nodup) (hi:X.N[i]?=some x) (hx:Loc X.env.scope x) (he:PEp K cl E X e m) (hs:swapsWith e (some (.Name x pos')) pos.line X.env=pure false:=by rfl)
  (hf:X.fn x=true∨X.env.scope.names.lookup x=some .local:=by first | exact .inl rfl | exact .inr rfl | assumption):PSp K cl E X (.Assign [.Name x pos'] e pos) (sSet i m):=by
 intro hK
 subst hK
 refine PS.imp (aiD hN hi hx (he rfl) hs hf) fun D σ H ⟨p,S,ρ,s,e,h⟩=>?_
 exact abV s e h fun q H' a b S' stp sm ev r k=>abr.nxD k sm (ev.set r i)
theorem ajh {i j:Nat} {x y:Str} {px py pt:Pos} {kt k2 pt2} (hc:X.calm=true) (hN:X.N.Nodup) (hi:X.N[i]?=some x) (hj:X.N[j]?=some y) (hij:i≠j)
  (hx:X.env.scope.names.lookup x=some .local) (hy:X.env.scope.names.lookup y=some .local) (ha:PAp K cl E X [a,b] ms)
  (hw:swappedStores [.Tuple [.Name x px,.Name y py] kt pt] (.Tuple [a,b] k2 pt2) X.env=pure (some [x,y]))
  (hs:swapsWithSole [.Tuple [.Name x px,.Name y py] kt pt] (.Tuple [a,b] k2 pt2) pos.line X.env=pure false:=by rfl) :
  PSp K cl E X (.Assign [.Tuple [.Name x px,.Name y py] kt pt] (.Tuple [a,b] k2 pt2) pos) (sPar i j ms):=by
 intro hK
 subst hK
 refine PS.imp (akD hc hN hi hj hij hx hy (ha rfl) hw hs) fun D σ H ⟨p,S,ρ,s,e,h⟩=>?_
 refine abV s e h fun q H' vs xs S' stp sm ev r k=>?_
 match vs,xs,r with
 | [],_,.nil=>exact k.elim
 | [v],_,.cons _ .nil=>exact k.elim
 | [v,w],_,.cons (b:=x1) r1 (.cons (b:=x2) r2 .nil)=>exact ⟨x1,x2,rfl,abr.nxD k sm ((ev.set r1 i).set r2 j)⟩
 | _ :: _ :: _ :: _,_,.cons _ (.cons _ (.cons _ _))=>exact k.elim
def gP (K:PySem.W.Frag) (g:GM):TG:=fun x σ H Q=>∃ p S ρ v ρ',Sim K p S H∧RepE K p H ρ σ∧Rep K p.c H v x∧g v ρ=some ρ'∧∀ σ',RepE K p H ρ' σ'→Q σ' H
def gPs (K:PySem.W.Frag) (g:GMs):TGs:=fun xs σ H Q=>∃ p S ρ vs ρ',Sim K p S H∧RepE K p H ρ σ∧Reps K p.c H vs xs∧g vs ρ=some ρ'∧∀ σ',RepE K p H ρ' σ'→Q σ' H
variable (K X)
def PGp (tg:Expr) (g:GM):Prop:=X.K=K→PG X tg (gP K g)
def PGsp (ts:List Expr) (g:GMs):Prop:=X.K=K→PGs X ts (gPs K g)
variable {K X}
theorem PG.imp {tg:Expr} {t t':TG} (h:PG X tg t) (i:∀ x σ H Q,t' x σ H Q→t x σ H Q):PG X tg t':=fun pins s σ H v u Q I r q=>h pins s σ H v u Q I r (i v σ H Q q)
theorem PGs.imp {ts:List Expr} {t t':TGs} (h:PGs X ts t) (i:∀ x σ H Q,t' x σ H Q→t x σ H Q):PGs X ts t':=fun pins s σ H v u Q I r q=>h pins s σ H v u Q I r (i v σ H Q q)
theorem abT {i:Nat} {x:Str} (hN:X.N.Nodup) (hi:X.N[i]?=some x) (hx:Loc X.env.scope x) (hf:X.fn x=true∨X.env.scope.names.lookup x=some .local:=by first | exact .inl rfl | exact .inr rfl | assumption):PGp K X (.Name x pos) (gN i) :=
 fun _=>PG.imp (ajz hN hi hx hf) fun x σ H Q ⟨p,S,ρ,v,ρ',s,ev,r,g,k⟩=>by
  cases g
  exact k _ (ev.set (v:=.pv v) r i)
theorem air:PGsp K X [] ahc:=fun _=>PGs.imp ajV fun xs σ H Q ⟨p,S,ρ,vs,ρ',s,ev,r,g,k⟩=>by
 cases vs with
 | nil =>
  cases g
  unfold Reps at r
  exact ⟨r,k _ ev⟩
 | cons _ _=>cases g
theorem ae7 {g:GM} {gs:GMs} (h1:PGp K X e g) (h2:PGsp K X es gs) (hs:(assignEach (e :: es) X.env).map (·.2)=assign e X.env :: (assignEach es X.env).map (·.2):=by rfl):PGsp K X (e :: es) (ac6 g gs):=by
 intro hK
 subst hK
 refine PGs.imp (ahU (h1 rfl) (h2 rfl) hs) fun xs σ H Q ⟨p,S,ρ,vs,ρ',s,ev,r,g1,k⟩=>?_
 cases vs with
 | nil=>cases g1
 | cons v vr =>
  unfold Reps at r
  obtain ⟨x,xr,rfl,r1,r2⟩:=r
  unfold ac6 at g1
  cases z:g v ρ with
  | none=>simp only [z] at g1; cases g1
  | some ρ1 =>
   simp only [z] at g1
   exact ⟨x,xr,rfl,p,S,ρ,v,ρ1,s,ev,r1,z,fun σ' ev'=>⟨p,S,ρ1,vr,ρ',s,ev',r2,g1,k⟩⟩
theorem aiX {k:Nat} {gs:GMs} {n:Nat} (hc:X.calm=true) (h:PGsp K X es gs) (hn:(assignEach es X.env).length=n:=by rfl) (hst:(assignEach es X.env).findIdx? (·.1)=none:=by rfl):PGp K X (.Tuple es k pos) (gT n gs):=by
 intro hK
 subst hK
 refine PG.imp (ak2 hc (h rfl) hn hst) fun x σ H Q ⟨p,S,ρ,v,ρ',s,ev,r,g1,k⟩=>?_
 cases v with
 | tup vs =>
  unfold Rep at r
  obtain ⟨a,xs,rfl,t,z,r⟩:=r
  unfold gT at g1
  dsimp only at g1
  split at g1
  ·rename_i hl
   exact ⟨a,xs,rfl,t,r.length.symm.trans hl,p,S,ρ,vs,ρ',s,ev,r,g1,k⟩
  ·cases g1
 | _=>cases g1
def ItOk (K:PySem.W.Frag) (p:Ph) (H:Hp) (xs:List PV × Gd) (J:It):Prop:=xs.1.length≤sizeLine∧∀ q H1 S1,Step p H q H1→Sim K q S1 H1→gOk xs.2 S1 →
 (∀ (i:Nat) (v:PV),xs.1[i]?=some v→J.go i H1∧∀ x H2,J.yld i H1 x H2→Same H1 H2∧Rep K q.c H2 v x)∧J.stop xs.1.length H1
theorem ItOk.step {p q:Ph} {H H':Hp} {xs:List PV × Gd} {J:It} (h:ItOk K p H xs J) (s:Step p H q H'):ItOk K q H' xs J:=⟨h.1,fun r H1 S1 t=>h.2 r H1 S1 (s.trans t)⟩
variable (K cl E X)
def PIp (tg iter:Expr) (m:MI):Prop:=X.K=K→PI X tg iter (tP K cl E (ItOk K) m)
variable {K cl E X}
theorem PI.imp {tg iter:Expr} {t t':TI} (h:PI X tg iter t) (i:∀ σ H Q,t' σ H Q→t σ H Q):PI X tg iter t':=fun pins s σ H R I q=>h pins s σ H R I (i σ H R q)
def iAny (K:PySem.W.Frag) (tl:TE):TI:=fun σ H R=>tl σ H fun x H1=>∃ a,x=.ref a∧(((∃ xs,SqL K H1 a xs)∧R (Itl K a) H1)∨((∃ xs,SqT K H1 a xs)∧R (Itt K a) H1))
theorem akF {l:Expr} {tl:TE} (hl:PE X l tl):PI X tg l (iAny X.K tl):=by
 intro pins s σ H R I h
 refine thn (hl pins s σ H _ I h) fun v s1 ⟨x,H1,I1,r1,q1⟩=>?_
 obtain ⟨a,e,q⟩:=q1
 subst e
 cases r1
 rcases q with ⟨⟨xs,hq⟩,q⟩ | ⟨⟨xs,hq⟩,q⟩
 ·obtain ⟨its,rv,p,hz⟩:=I1.list hq
  refine wpAny_pyIter_list p.isList ?_
  refine ⟨s1.heap.objs.size,[s1.heap.objs.size],_,_,H1,rfl,I1.kept (t':=s1.toks) fun b o e=>Heap.get?_push_of_some _ e,ahp a _,⟨_,Heap.get?_push_size _ rfl,rfl,rfl⟩,fun b hb=>?_,q⟩
  have e:b=s1.heap.objs.size:=by simpa using hb
  subst e
  exact I1.fpOk (Nat.le_refl _) (I1.hok.fresh (Nat.le_refl _))
 ·obtain ⟨its,rv,p,hz⟩:=I1.tuple hq
  refine wpAny_pyIter_tuple (show s1.heap.IsTuple a its.toArray from p) ?_
  refine ⟨s1.heap.objs.size,[s1.heap.objs.size],_,_,H1,rfl,I1.kept (t':=s1.toks) fun b o e=>Heap.get?_push_of_some _ e,ago a _,⟨_,Heap.get?_push_size _ rfl,rfl,rfl⟩,fun b hb=>?_,q⟩
  have e:b=s1.heap.objs.size:=by simpa using hb
  subst e
  exact I1.fpOk (Nat.le_refl _) (I1.hok.fresh (Nat.le_refl _))
def adq:AV→Sto→Res (List PV × Gd)
 | .pv (.lst xs),S=>.ok (xs,[]) S
 | .pv (.tup xs),S=>.ok (xs,[]) S
 | .ref k,S=>match S[k]? with
  | some (.lst xs)=>.ok (xs,[(k,xs)]) S
  | _=>.fail
 | _,_=>.fail
def mIt (m:ME):MI:=fun ρ S=>(m ρ S).bind adq
theorem aj9 {p:Ph} {H:Hp} {xs:List PV} {a:Addr} {vs:List V} (l:LAt K p.c H a vs) (z:vs.length≤sizeLine) (r:Reps K p.c H xs vs):ItOk K p H (xs,[]) (Itl K a):=by
 refine ⟨by rw [r.length]; exact z,fun q H1 S1 st _ _=>⟨fun i v e=>?_,?_⟩⟩
 ·have l1:=(st.lat l).sq
  obtain ⟨x,e1,r1⟩:=(st.reps r).get e
  refine ⟨⟨vs,x,l1,e1⟩,fun y H2 hy=>?_⟩
  obtain ⟨rfl,hy⟩:=hy
  have:=(hy vs l1).symm.trans e1
  cases this
  exact ⟨Same.refl _,r1⟩
 ·exact ⟨vs,(st.lat l).sq,by rw [r.length]; exact Nat.le_refl _⟩
theorem ali {p:Ph} {H:Hp} {xs:List PV} {a:Addr} {vs:List V} (l:SqT K H a vs) (z:vs.length≤sizeLine) (r:Reps K p.c H xs vs):ItOk K p H (xs,[]) (Itt K a):=by
 refine ⟨by rw [r.length]; exact z,fun q H1 S1 st _ _=>⟨fun i v e=>?_,?_⟩⟩
 ·have l1:=st.tup l
  obtain ⟨x,e1,r1⟩:=(st.reps r).get e
  refine ⟨⟨vs,x,l1,e1⟩,fun y H2 hy=>?_⟩
  obtain ⟨rfl,hy⟩:=hy
  have:=(hy vs l1).symm.trans e1
  cases this
  exact ⟨Same.refl _,r1⟩
 ·exact ⟨vs,st.tup l,by rw [r.length]; exact Nat.le_refl _⟩
theorem alh {p:Ph} {H:Hp} {xs:List PV} {a:Addr} {k:Nat} {n:xs.length≤sizeLine} (hf:p.f[k]?=some a):ItOk K p H (xs,[(k,xs)]) (Itl K a):=by
 refine ⟨n,fun q H1 S1 st sm g=>?_⟩
 have e0:S1[k]?=some (.lst xs):=g (k,xs) List.mem_cons_self
 obtain ⟨vs,h1,l1,r1⟩:=sm.obj k a _ (st.at_ hf) e0
 refine ⟨fun i v e=>?_,?_⟩
 ·obtain ⟨x,e1,r2⟩:=r1.get e
  refine ⟨⟨vs,x,SqL.of h1,e1⟩,fun y H2 hy=>?_⟩
  obtain ⟨rfl,hy⟩:=hy
  have:=(hy vs (SqL.of h1)).symm.trans e1
  cases this
  exact ⟨Same.refl _,r2⟩
 ·exact ⟨vs,SqL.of h1,by rw [r1.length]; exact Nat.le_refl _⟩
theorem afh (h:PEp K cl E X e m):PIp K cl E X tg e (mIt m):=by
 intro hK
 subst hK
 refine PI.imp (akF (h rfl)) fun σ H R ⟨p,S,ρ,s,ev,h⟩=>?_
 refine aar s ev h fun q H' v x S' stp sm ev r k=>?_
 cases v with
 | ref j =>
  obtain ⟨a,e,rfl⟩:=r
  unfold adq at k
  dsimp only at k
  cases z:S'[j]? with
  | none=>rw [z] at k; exact k.elim
  | some o =>
   cases o with
   | lst xs =>
    rw [z] at k
    obtain ⟨vs,h1,l1,r1⟩:=sm.obj j a _ e z
    exact ⟨a,rfl,.inl ⟨⟨vs,SqL.of h1⟩,aaJ.ret (R:=ItOk X.K) k sm (alh (n:=by rw [r1.length]; exact l1) e)⟩⟩
   | lol xss=>rw [z] at k; exact k.elim
 | pv v =>
  cases v with
  | lst xs =>
   have r:Rep X.K q.c H' (.lst xs) x:=r
   unfold Rep at r
   obtain ⟨a,vs,rfl,l,z,r⟩:=r
   exact ⟨a,rfl,.inl ⟨⟨vs,l.sq⟩,aaJ.ret (R:=ItOk X.K) k sm (aj9 l z r)⟩⟩
  | tup xs =>
   have r:Rep X.K q.c H' (.tup xs) x:=r
   unfold Rep at r
   obtain ⟨a,vs,rfl,l,z,r⟩:=r
   exact ⟨a,rfl,.inr ⟨⟨vs,l⟩,aaJ.ret (R:=ItOk X.K) k sm (ali l z r)⟩⟩
  | _=>exact k.elim
def acL (lo:Int) (n:Nat):List PV:=(List.range n).map fun i=>.int (lo+(i:Nat))
noncomputable def rng1:List AV→Sto→Res (List PV × Gd)
 | [.pv (.int j)],S1=>@ite _ (j≤16777216∧-16777216≤j) (Classical.propDecidable _) (.ok (acL 0 j.toNat,[]) S1) .fail
 | _,_=>.fail
noncomputable def aez (ms:MA):MI:=fun ρ S=>(ms ρ S).bind rng1
theorem akc {p:Ph} {H:Hp} {lo:Int} {n:Nat} (h:n≤sizeLine):ItOk K p H (acL lo n,[]) (Itr lo n):=by
 have hl:(acL lo n).length=n:=by unfold acL; rw [List.length_map,List.length_range]
 refine ⟨by show (acL lo n).length≤_; rw [hl]; exact h,fun q H1 S1 st _ _=>⟨fun i v e=>?_,?_⟩⟩
 ·have hi:i < n:=by
   have:=(List.getElem?_eq_some_iff.mp (show (acL lo n)[i]?=some v from e)).1
   omega
  refine ⟨hi,fun x H2 hy=>?_⟩
  obtain ⟨rfl,rfl⟩:=hy
  have e:(acL lo n)[i]?=some v:=e
  unfold acL at e
  rw [List.getElem?_map,List.getElem?_range hi] at e
  cases e
  refine ⟨Same.refl _,?_⟩
  unfold Rep
  rfl
 ·show n≤(acL lo n).length
  rw [hl]
  exact Nat.le_refl n
theorem agi {p:Pos} (hg:Gl X "range") (hm:X.mg "range"=none) (ha:PAp K cl E X [a] ms) (hs:starEach [a] X.env=[(false,eval a X.env)]:=by rfl):PIp K cl E X tg (.Call (.Name "range" p) [a] [] pos) (aez ms):=by
 intro hK
 subst hK
 refine PI.imp (ahf hg hm (ha rfl) hs) fun σ H R ⟨p,S,ρ,s,ev,h⟩=>?_
 refine aar s ev h fun q H' vs xs S' stp sm ev r k=>?_
 unfold rng1 at k
 split at k
 ·rename_i j
  cases r with
  | cons r1 r2 =>
   cases r2
   rename_i x
   have e:x=.int j:=by
    have r1:Rep X.K q.c H' (.int j) x:=r1
    unfold Rep at r1
    exact r1
   subst e
   split at k
   ·rename_i hj
    have hz:=aaz
    exact ⟨j,rfl,by omega,by omega,aaJ.ret (R:=ItOk X.K) k sm (akc (by omega))⟩
   ·exact k.elim
 ·exact k.elim
theorem afw {mi:MI} {g:GM} (hp:PassesOwn (model X.prog X.w) X.A X.env X.xe) (hc:X.calm=true) (hi:PIp K cl E X tg e mi) (hg:PGp K X tg g) (hb:PSsp K cl E X sts b1)
  (hs:∀ x,foldedSetIterable e X.env x=pure x:=by intro _; rfl):PSp K cl E X (.For tg e sts [] pos) (sFor mi g b1):=by
 intro hK
 subst hK
 refine PS.imp (akV hp hc (hi rfl) (hg rfl) (hb rfl) hs) fun D σ H ⟨p,S,ρ,s,ev,h⟩=>?_
 refine abV s ev h fun q H' xg J S' stp sm ev it k=>?_
 obtain ⟨xs,G⟩:=xg
 refine ⟨fun i n σ H=>n=xs.length - i∧i≤xs.length∧∃ p S ρ,Sim X.K p S H∧RepE X.K p H ρ σ∧ItOk X.K p H (xs,G) J∧abr X.K cl p H (abX G g b1 (xs.drop i) ρ S) D E,⟨xs.length,by simp,Nat.zero_le _,q,S',ρ,sm,ev,it,by simpa using k⟩,?_⟩
 rintro i n σ1 H1 ⟨rfl,hi,p1,S1,ρ1,sm1,ev1,it1,k1⟩
 by_cases hlt:i < xs.length
 ·have hx:xs[i]?=some xs[i]:=List.getElem?_eq_getElem hlt
  rw [List.drop_eq_getElem_cons hlt] at k1
  unfold abX at k1
  split at k1
  ·rename_i gk
   obtain ⟨g1,y1⟩:=(it1.2 p1 H1 S1 sm1.step sm1 gk).1 i _ hx
   cases z:g xs[i] ρ1 with
   | none=>simp only [z] at k1; exact k1.elim
   | some ρ2 =>
    simp only [z] at k1
    refine .inr ⟨g1,fun σ' H'=>i+1≤xs.length∧∃ p S ρ,Sim X.K p S H'∧RepE X.K p H' ρ σ'∧ItOk X.K p H' (xs,G) J∧abr X.K cl p H' (abX G g b1 (xs.drop (i+1)) ρ S) D E,fun σ' H' hN=>⟨xs.length - (i+1),by omega,rfl,hN⟩,fun x H2 hy=>?_⟩
    obtain ⟨same,rx⟩:=y1 x H2 hy
    have st2:=sm1.same same
    have sm2:=sm1.ofSame same
    refine ⟨p1,S1,ρ1,xs[i],ρ2,sm2,st2.repE ev1,rx,z,fun σ3 ev3=>⟨p1,S1,ρ2,sm2,ev3,?_⟩⟩
    have it2:=it1.step st2
    cases y:b1 ρ2 S1 with
    | nx ρ4 S4 =>
     rw [y] at k1
     exact fun q5 H5 σ5 st5 sm5 ev5=>⟨hlt,q5,S4,ρ4,sm5,ev5,it2.step st5,abr.mono (r:=abX G g b1 (xs.drop (i+1)) ρ4 S4) k1 (st2.trans st5)⟩
    | ct ρ4 S4 =>
     rw [y] at k1
     exact fun q5 H5 σ5 st5 sm5 ev5=>⟨hlt,q5,S4,ρ4,sm5,ev5,it2.step st5,abr.mono (r:=abX G g b1 (xs.drop (i+1)) ρ4 S4) k1 (st2.trans st5)⟩
    | bk ρ4 S4=>rw [y] at k1; exact abr.mono (r:=.nx ρ4 S4) k1 st2
    | rt v S4=>rw [y] at k1; exact abr.mono (r:=.rt v S4) k1 st2
    | exc v S4=>rw [y] at k1; exact abr.mono (r:=.exc v S4) k1 st2
    | fail=>rw [y] at k1; exact k1.elim
  ·exact k1.elim
 ·have e:i=xs.length:=by omega
  subst e
  rw [List.drop_length] at k1
  unfold abX at k1
  split at k1
  ·rename_i gk
   exact .inl ⟨(it1.2 p1 H1 S1 sm1.step sm1 gk).2,abr.nxD k1 sm1 ev1⟩
  ·exact k1.elim
theorem adx (hp:PassesOwn (model X.prog X.w) X.A X.env X.xe) (hc:PTp K cl E X c mt) (hb:PSsp K cl E X sts b1):PSp K cl E X (.While c sts [] pos) (adm mt b1):=by
 intro hK
 subst hK
 refine PS.imp (ahR hp (hc rfl) (hb rfl)) fun D σ H ⟨p,S,ρ,s,ev,h⟩=>?_
 unfold adm at h
 split at h
 ·rename_i hh
  refine ⟨fun n σ H=>∃ p S ρ,Sim X.K p S H∧RepE X.K p H ρ σ∧abr X.K cl p H (aaN mt b1 n ρ S) D E,⟨_,p,S,ρ,s,ev,h⟩,?_⟩
  rintro n σ1 H1 ⟨p1,S1,ρ1,sm1,ev1,k1⟩
  cases n with
  | zero=>exact k1.elim
  | succ n =>
   unfold aaN at k1
   refine abV sm1 ev1 k1 fun q H2 t t' S2 stp sm2 ev2 r k2=>?_
   cases r
   cases t with
   | true =>
    rw [if_pos rfl] at k2 ⊢
    refine ⟨fun σ' H'=>∃ p S ρ,Sim X.K p S H'∧RepE X.K p H' ρ σ'∧abr X.K cl p H' (aaN mt b1 n ρ S) D E,fun σ' H' hN=>⟨n,Nat.lt_succ_self n,hN⟩,q,S2,ρ1,sm2,ev2,?_⟩
    cases y:b1 ρ1 S2 with
    | nx ρ4 S4 =>
     rw [y] at k2
     exact fun q5 H5 σ5 st5 sm5 ev5=>⟨q5,S4,ρ4,sm5,ev5,abr.mono (r:=aaN mt b1 n ρ4 S4) k2 st5⟩
    | ct ρ4 S4 =>
     rw [y] at k2
     exact fun q5 H5 σ5 st5 sm5 ev5=>⟨q5,S4,ρ4,sm5,ev5,abr.mono (r:=aaN mt b1 n ρ4 S4) k2 st5⟩
    | bk ρ4 S4=>rw [y] at k2; exact k2
    | rt v S4=>rw [y] at k2; exact k2
    | exc v S4=>rw [y] at k2; exact k2
    | fail=>rw [y] at k2; exact k2.elim
   | false =>
    rw [if_neg Bool.false_ne_true] at k2 ⊢
    exact abr.nxD k2 sm2 ev2
 ·exact h.elim
end
end L2.Pp
namespace L2.Pp
open PySem PySem.Spec PyProof.Rows Bn
def aaU (n:Nat) (xs:List AV):Rho:=xs.map some++List.replicate (n - xs.length) none
def abA (n:Nat):AV→Sto→Res AV
 | .pv v,S=>.ok (.pv v) (S.take n)
 | .ref k,S=>if k < n then .ok (.ref k) (S.take n) else match S[k]? with
  | some (.lst xs)=>.ok (.ref n) (S.take n++[.lst xs])
  | _=>.fail
def frz (n:Nat):Res AV→Res AV
 | .ok (.ref k) S=>if k < n then .ok (.ref k) S else match S[k]? with
  | some (.lst xs)=>.ok (.pv (.lst xs)) (S.take n)
  | _=>.fail
 | r=>r
def aaT (n:Nat):SRes→Res AV
 | .rt v S=>abA n v S
 | .nx _ S=>.ok (.pv .non) (S.take n)
 | .exc e S=>.exc e (S.take n)
 | _=>.fail
def fnM (np n:Nat) (b:MS) (xs:List AV) (S:Sto):Res AV:=if xs.length=np then aaT S.length (b (aaU n xs) S) else .fail
def aau {α:Type}:Res α→Res α
 | .ok a S=>.ok a S
 | _=>.fail
abbrev FM:=List AV→Sto→Res AV
def abv (f:FM) (ds:List PV) (ms:MA):ME:=fun ρ S=>(ms ρ S).bind fun xs S1=>frz S1.length (f (xs++ds.map .pv) S1)
def aag (f:FM) (ds:List PV) (ms:MA):ME:=fun ρ S=>(ms ρ S).bind fun xs S1=>frz S1.length (aau (f (xs++ds.map .pv) S1))
def aa9 (f:FM) (ds:List PV) (ms:MA):ME:=fun ρ S=>(ms ρ S).bind fun xs S1=>aau (f (xs++ds.map .pv) S1)
def spP (K:PySem.W.Frag) (cl:Str→Addr) (f:FM):Sp:=fun vs H Q E=>∃ p S xs,Sim K p S H∧acy K p H xs vs∧aaJ K cl (RepA K) p H (f xs S) Q E
def spP0 (K:PySem.W.Frag) (cl:Str→Addr) (f:FM):Sp:=fun vs H Q _=>spP K cl f vs H Q E0
section
variable {K:PySem.W.Frag} {cl:Str→Addr} {p q:Ph} {H H':Hp} {S S':Sto}
theorem ad3 {c c':Addr→Prop} (h:∀ a,c a→c' a) {a:Addr} {vs:List V} (l:LAt K c' H a vs):LAt K c H a vs:=by
 rcases l with ⟨l,n⟩ | l | l
 ·exact .inl ⟨l,fun z=>n (h a z)⟩
 ·exact .inr (.inl l)
 ·exact .inr (.inr l)
theorem ab7 {c c':Addr→Prop} (h:∀ a,c a→c' a) {ps:List PV} {vs:List V} (r:Reps K c' H ps vs):Reps K c H ps vs:=Reps.mono (fun _ _ t=>t) (fun _ _ l=>ad3 h l) ps vs r
theorem agb {c c':Addr→Prop} (h:∀ a,c a→c' a) {v:PV} {x:V} (r:Rep K c' H v x):Rep K c H v x:=Rep.mono (fun _ _ t=>t) (fun _ _ l=>ad3 h l) v x r
theorem afn {f g:List Addr} (h:f <+: g):g.take f.length=f:=by
 obtain ⟨t,e⟩:=h
 rw [← e,List.take_left]
theorem adG {α:Type}:∀ {l:List α} {i j:Nat} {a:α},l.Nodup→l[i]?=some a→l[j]?=some a→i=j
 | [],i,j,a,_,e,_=>by simp at e
 | b :: l,0,0,a,_,_,_=>rfl
 | b :: l,0,j+1,a,n,e,f=>by
  simp at e f
  subst e
  exact absurd (List.mem_of_getElem? f) (List.nodup_cons.mp n).1
 | b :: l,i+1,0,a,n,e,f=>by
  simp at e f
  subst f
  exact absurd (List.mem_of_getElem? e) (List.nodup_cons.mp n).1
 | b :: l,i+1,j+1,a,n,e,f=>by
  exact congrArg (·+1) (adG (l:=l) (a:=a) (List.nodup_cons.mp n).2 (by simpa using e) (by simpa using f))
theorem Sim.cutX (D:Addr→Prop) (s:Sim K p S H) (st:Step p H q H') (s':Sim K q S' H') (hD:∀ b,D b→H b=none) (hq:(∀ b,D b→b∈q.f)∨∀ k xss,S'[k]?=some (.lol xss)→¬ k < S.length) :
  let r:Ph:=⟨p.f,fun b=>q.w b∧¬ D b,fun b=>q.c b∧¬ D b⟩
  Step p H r H'∧Sim K r (S'.take S.length) H':=by
 intro r
 have nD:∀ a,p.c a→¬ D a:=fun a c d=>by
  obtain ⟨o,ho,_⟩:=s.mu a c
  rw [hD a d] at ho
  cases ho
 have le:S.length≤S'.length:=by
  have:=st.pre.length_le
  rw [← s.len,← s'.len]
  exact this
 refine ⟨⟨s.wc,s.mu,List.prefix_rfl,fun a h=>⟨st.mw a h,nD a (s.wc a h)⟩,fun a h=>⟨st.mono a h,nD a h⟩,fun _ h g=>absurd h g,fun a h=>st.nw a h.1,fun a h=>st.nc a h.1,st.keep⟩,s.nd,by rw [s.len,List.length_take]; omega,fun a h=>⟨st.mw a (s.sub a h),nD a (s.wc a (s.sub a h))⟩,fun a h=>⟨s'.wc a h.1,h.2⟩,fun a h=>s'.mu a h.1,fun k a o e1 e2=>?_⟩
 have hk:k < S.length:=by
  have:=(List.getElem?_eq_some_iff.mp e1).1
  rw [← s.len]
  exact this
 have e2':S'[k]?=some o:=by
  rw [List.getElem?_take,if_pos hk] at e2
  exact e2
 have z:=s'.obj k a o (st.at_ e1) e2'
 have shr:∀ xs vs,Reps K q.c H' xs vs→Reps K r.c H' xs vs:=fun xs vs=>ab7 (fun b h=>h.1)
 have sub:∀ b,b ∉ q.f→b ∉ p.f:=fun b n h=>n (st.pre.subset h)
 rcases hq with hq | hq
 ·exact z.mono (fun _ e=>e) (fun b w f=>⟨⟨⟨w,fun d=>f (hq b d)⟩,sub b f⟩,fun _ e=>e⟩) shr
 ·cases o with
  | lst xs =>
   obtain ⟨vs,e,l,g⟩:=z
   exact ⟨vs,e,l,shr xs vs g⟩
  | lol xss=>exact absurd hk (hq k xss e2')
theorem Sim.cut (s:Sim K p S H) (st:Step p H q H') (s':Sim K q S' H'):Step p H ⟨p.f,fun b=>q.w b∧¬ False,fun b=>q.c b∧¬ False⟩ H'∧Sim K ⟨p.f,fun b=>q.w b∧¬ False,fun b=>q.c b∧¬ False⟩ (S'.take S.length) H' :=
 s.cutX (fun _=>False) st s' (fun _ h=>h.elim) (.inl fun _ h=>h.elim)
theorem aeP (s:Sim K p S H) (st:Step p H q H') (sm:Sim K q S' H') {k:Nat} {a:Addr} (e:q.f[k]?=some a) (hk:¬ k < S.length):a ∉ p.f∧H a=none∧¬ p.c a:=by
 have na:a ∉ p.f:=fun hm=>by
  obtain ⟨j,hj,ej⟩:=List.getElem_of_mem hm
  have e2:q.f[j]?=some a:=st.at_ (by rw [List.getElem?_eq_getElem hj,ej])
  have hjk:j=k:=adG sm.nd e2 e
  rw [s.len] at hj
  omega
 have hn:=st.nf a (List.mem_of_getElem? e) na
 refine ⟨na,hn,fun c=>?_⟩
 obtain ⟨o,ho,_⟩:=s.mu a c
 rw [hn] at ho
 cases ho
theorem aeg {r:Res AV} {Q:VK} {E:XK} (s:Sim K p S H) (h:aaJ K cl (RepA K) p H (frz S.length r) Q E):aaJ K cl (RepA K) p H r Q E:=by
 cases r with
 | exc n S1=>exact h
 | fail=>exact h
 | ok v S1 =>
  cases v with
  | pv v=>exact h
  | ref k =>
   have h:aaJ K cl (RepA K) p H (if k < S.length then .ok (.ref k) S1 else match S1[k]? with
    | some (.lst xs)=>.ok (.pv (.lst xs)) (S1.take S.length)
    | _=>.fail) Q E:=h
   split at h
   ·exact h
   ·rename_i hk
    cases z:S1[k]? with
    | none=>rw [z] at h; exact h.elim
    | some o =>
     cases o with
     | lol xss=>rw [z] at h; exact h.elim
     | lst xs =>
      rw [z] at h
      intro q H' x st sm r
      obtain ⟨a,e,rfl⟩:=r
      obtain ⟨na,hn,nc⟩:=aeP s st sm e hk
      obtain ⟨st1,sm1⟩:=s.cutX (fun b=>b=a) st sm (fun b d=>d ▸ hn) (.inl fun b d=>d ▸ List.mem_of_getElem? e)
      obtain ⟨vs,h1,l,r⟩:=sm.obj k a _ e z
      refine h _ H' (.ref a) st1 sm1 ?_
      show Rep K (fun b=>q.c b∧¬ b=a) H' (.lst xs) (.ref a)
      unfold Rep
      exact ⟨a,vs,rfl,.inl ⟨h1,fun d=>d.2 rfl⟩,l,ab7 (fun b h=>h.1) r⟩
theorem ac5 {r:SRes} {Q:VK} {E:XK} (s:Sim K p S H) (h:aaJ K cl (RepA K) p H (aaT S.length r) Q E):abr K cl p H r { nx:=fun _ H'=>Q .non H',rt:=Q } E:=by
 cases r with
 | nx ρ S1 =>
  intro q H' σ st sm ev
  obtain ⟨st1,sm1⟩:=s.cut st sm
  exact h _ H' .non st1 sm1 (by show Rep K (fun b=>q.c b∧¬ False) H' .non .non; unfold Rep; rfl)
 | exc n S1 =>
  intro q H' st sm
  obtain ⟨st1,sm1⟩:=s.cut st sm
  exact h _ H' st1 sm1
 | rt v S1 =>
  intro q H' x st sm r
  obtain ⟨st1,sm1⟩:=s.cut st sm
  cases v with
  | pv v=>exact h _ H' x st1 sm1 (show Rep K (fun b=>q.c b∧¬ False) H' v x from agb (fun b h=>h.1) r)
  | ref k =>
   obtain ⟨a,e,rfl⟩:=r
   have h:aaJ K cl (RepA K) p H (if k < S.length then .ok (.ref k) (S1.take S.length) else match S1[k]? with
    | some (.lst xs)=>.ok (.ref S.length) (S1.take S.length++[.lst xs])
    | _=>.fail) Q E:=h
   split at h
   ·rename_i hk
    refine h _ H' (.ref a) st1 sm1 ⟨a,?_,rfl⟩
    show p.f[k]?=some a
    have hf:=afn st.pre
    rw [← hf,List.getElem?_take,if_pos (by rw [s.len]; exact hk)]
    exact e
   ·rename_i hk
    cases z:S1[k]? with
    | none=>rw [z] at h; exact h.elim
    | some o =>
     cases o with
     | lol xss=>rw [z] at h; exact h.elim
     | lst xs =>
      rw [z] at h
      obtain ⟨vs,h1,l,r⟩:=sm.obj k a _ e z
      obtain ⟨na,hn,nc⟩:=aeP s st sm e hk
      have l1:(S1.take S.length).length=S.length:=by rw [← sm1.len,← s.len]
      have ma:a∈q.f:=List.mem_of_getElem? e
      refine h ⟨p.f++[a],q.w,q.c⟩ H' (.ref a) ⟨s.wc,s.mu,⟨[a],rfl⟩,st.mw,st.mono,fun b hb n=>?_,st.nw,st.nc,st.keep⟩ ⟨?_,?_,fun b hb=>?_,sm.wc,sm.mu,fun j b o e1 e2=>?_⟩ ⟨a,?_,rfl⟩
      ·rcases List.mem_append.mp hb with z | z
       ·exact absurd z n
       ·have:b=a:=by simpa using z
        rw [this]
        exact hn
      ·show (p.f++[a]).Nodup
       rw [List.nodup_append]
       refine ⟨s.nd,by simp,fun b hb c hc z=>?_⟩
       have:c=a:=by simpa using hc
       exact na (this ▸ z ▸ hb)
      ·show (p.f++[a]).length=_
       rw [List.length_append,List.length_append,l1,s.len]
       rfl
      ·rcases List.mem_append.mp hb with z | z
       ·exact st.mw b (s.sub b z)
       ·have:b=a:=by simpa using z
        rw [this]
        exact sm.sub a ma
      ·by_cases hj:j < S.length
       ·have e1':p.f[j]?=some b:=by
         have e1:(p.f++[a])[j]?=some b:=e1
         rwa [List.getElem?_append_left (by rw [s.len]; exact hj)] at e1
        rw [List.getElem?_append_left (by rw [l1]; exact hj),List.getElem?_take,if_pos hj] at e2
        refine (sm.obj j b o (st.at_ e1') e2).mono (fun _ e=>e) (fun c w f=>⟨⟨w,fun m=>?_⟩,fun _ e=>e⟩) fun _ _ r=>r
        rcases List.mem_append.mp m with z | z
        ·exact f (st.pre.subset z)
        ·have:c=a:=by simpa using z
         exact f (this ▸ ma)
       ·have hj':j=S.length:=by
         have:=(List.getElem?_eq_some_iff.mp e2).1
         rw [List.length_append,l1] at this
         simp at this
         omega
        subst hj'
        rw [List.getElem?_append_right (by rw [l1]; exact Nat.le_refl _),l1,Nat.sub_self] at e2
        have e1:(p.f++[a])[S.length]?=some b:=e1
        rw [← s.len,List.getElem?_append_right (Nat.le_refl _),Nat.sub_self] at e1
        cases e1
        cases e2
        exact ⟨vs,h1,l,r⟩
      ·show (p.f++[a])[S.length]?=some a
       rw [← s.len,List.getElem?_append_right (Nat.le_refl _),Nat.sub_self]
       rfl
 | bk ρ S1=>exact h.elim
 | ct ρ S1=>exact h.elim
 | fail=>exact h.elim
theorem acR {N:List Str} {xs:List AV} {vs:List V} (r:acy K p H xs vs):RepE K p H (aaU N.length xs) (L2.start N vs):=by
 have go:∀ {xs:List AV} {vs:List V},acy K p H xs vs→xs.length=vs.length:=fun {xs vs} r=>by
  induction r with
  | nil=>rfl
  | cons _ _ ih=>rw [List.length_cons,List.length_cons,ih]
 have get:∀ {xs:List AV} {vs:List V},acy K p H xs vs→∀ (i:Nat) (v:AV),xs[i]?=some v→∃ x,vs[i]?=some x∧RepA K p H v x:=fun {xs vs} r=>by
  induction r with
  | nil=>intro i v e; simp at e
  | cons h _ ih =>
   intro i v e
   cases i with
   | zero =>
    simp at e
    subst e
    exact ⟨_,rfl,h⟩
   | succ i=>simpa using ih i v (by simpa using e)
 have hl:=go r
 refine ⟨by unfold aaU L2.start; simp [hl],fun i v e=>?_⟩
 unfold aaU at e
 unfold L2.start
 by_cases hi:i < xs.length
 ·rw [List.getElem?_append_left (by simpa using hi),List.getElem?_map] at e
  cases z:xs[i]? with
  | none=>rw [z] at e; cases e
  | some u =>
   rw [z] at e
   cases e
   obtain ⟨x,e1,e2⟩:=get r i v z
   refine ⟨x,?_,e2⟩
   rw [List.getElem?_append_left (by rw [List.length_map,← hl]; exact hi),List.getElem?_map,e1]
   rfl
 ·rw [List.getElem?_append_right (by rw [List.length_map]; omega),List.getElem?_replicate] at e
  split at e
  ·cases e
  ·cases e
end
section
variable {P:Program} {w:World} {K:PySem.W.Frag} {mg:Str→Option Value} {base:Heap} {cl:Str→Addr}
theorem agT {K:PySem.W.Frag} {p:Ph} {H:Hp} {xs:List AV} {vs:List V} (h:acy K p H xs vs):xs.length=vs.length:=by
 induction h with
 | nil=>rfl
 | cons _ _ ih=>rw [List.length_cons,List.length_cons,ih]
theorem agq {np n:Nat} {b:MS} {vs:List V} {H:Hp} {Q:VK} {E:XK} (h:spP K cl (fnM np n b) vs H Q E):vs.length=np:=by
 obtain ⟨p,S,xs,sm,ra,h⟩:=h
 unfold fnM at h
 split at h
 ·rename_i e
  rw [← agT ra,e]
 ·exact h.elim
theorem okP {x qual:Str} {st:Stmt} {f:Addr} {fd:FuncData} {N ps:List Str} {k np n:Nat} {b:MS} (F:Fun K x qual st f fd) (S:aaG N ps (aae st)) (hnp:ps.length=np) (hn:N.length=n)
  (hb:∀ (cdv:Value) (A:Around) (outer:List Env) (s:Shared) (H:Hp) (E:XK),Room k (A.deeper (envOfC qual (aae st) s.heap.objs.size f cdv))→PSsp K cl E0 (cxOf CX0 P w K mg base N qual (aae st) f cdv A outer s H E).nox (aax st) b) :
  FnOk P w K mg base CX0 (k+1) f fd ps (spP0 K cl (fnM np n b)):=by
 subst hnp hn
 refine F.ok S (fun vs H Q E h=>agq h) fun cdv A outer s H vs Q E hr h=>⟨_,hb cdv A outer s H E hr rfl,?_⟩
 obtain ⟨p,S,xs,sm,ra,h⟩:=h
 unfold fnM at h
 split at h
 ·exact ⟨p,S,_,sm,acR ra,ac5 sm h⟩
 ·exact h.elim
theorem okX {x qual:Str} {st:Stmt} {f:Addr} {fd:FuncData} {N ps:List Str} {k np n:Nat} {b:MS} (F:Fun K x qual st f fd) (S:aaG N ps (aae st)) (hnp:ps.length=np) (hn:N.length=n)
  (hb:∀ (cdv:Value) (A:Around) (outer:List Env) (s:Shared) (H:Hp) (E:XK),Room k (A.deeper (envOfC qual (aae st) s.heap.objs.size f cdv))→PSsp K cl E (cxOf (CX1 P w) P w K mg base N qual (aae st) f cdv A outer s H E) (aax st) b) :
  FnOk P w K mg base (CX1 P w) (k+1) f fd ps (spP K cl (fnM np n b)):=by
 subst hnp hn
 refine F.okX S (fun vs H Q E h=>agq h) fun cdv A outer s H vs Q E hr h=>⟨_,hb cdv A outer s H E hr rfl,?_⟩
 obtain ⟨p,S,xs,sm,ra,h⟩:=h
 unfold fnM at h
 split at h
 ·exact ⟨p,S,_,sm,acR ra,ac5 sm h⟩
 ·exact h.elim
theorem okXD {x qual:Str} {st:Stmt} {f:Addr} {fd:FuncData} {ds:Array Value} {N ps:List Str} {k np n:Nat} {b:MS} (F:FunD K x qual st f fd ds) (S:aaG N ps (aae st)) (hnp:ps.length=np) (hn:N.length=n)
  (hb:∀ (cdv:Value) (A:Around) (outer:List Env) (s:Shared) (H:Hp) (E:XK),Room k (A.deeper (envOfC qual (aae st) s.heap.objs.size f cdv))→PSsp K cl E (cxOf (CX1 P w) P w K mg base N qual (aae st) f cdv A outer s H E) (aax st) b) :
  FnOk P w K mg base (CX1 P w) (k+1) f fd ps (spP K cl (fnM np n b)):=by
 subst hnp hn
 refine F.okX S (fun vs H Q E h=>agq h) fun cdv A outer s H vs Q E hr h=>⟨_,hb cdv A outer s H E hr rfl,?_⟩
 obtain ⟨p,S,xs,sm,ra,h⟩:=h
 unfold fnM at h
 split at h
 ·exact ⟨p,S,_,sm,acR ra,ac5 sm h⟩
 ·exact h.elim
theorem x0 {f:Addr} {fd:FuncData} {ps:List Str} {k:Nat} {g:FM} (F:FnOk P w K mg base (CX1 P w) k f fd ps (spP K cl g)):FnOk P w K mg base CX0 k f fd ps (spP0 K cl g) :=
 ⟨fun vs H Q E h=>F.len vs H Q E0 h,fun A outer s H args us vs Q E hr e0 hb hv h=>codeAny_mono (F.run A outer s H args us vs Q E0 hr e0 hb hv h) fun r s' hq=>by
  cases r with
  | error e =>
   obtain ⟨_,_,_,_,_,_,_,_,_,_,_,_,z⟩:=hq
   exact z
  | ok fl =>
   cases fl with
   | ret u=>exact hq
   | next=>exact hq
   | brk=>exact hq
   | cont=>exact hq⟩
end
section
variable {K:PySem.W.Frag} {cl:Str→Addr} {E:XK} {X:Cx} {e:Expr} {es:List Expr} {ms:MA} {pos p:Pos} {k n:Nat} {f:Addr} {fd:FuncData} {ps:List Str} {g:FM} {x:Str} {dvs:List V} {ds:List Value} {dv:List PV}
theorem abS {p:Ph} {H:Hp} {xs ys:List AV} {vs ws:List V} (h:acy K p H xs vs) (g:acy K p H ys ws):acy K p H (xs++ys) (vs++ws):=by
 induction h with
 | nil=>exact g
 | cons h _ ih=>exact .cons h ih
def Dv (dv:List PV) (dvs:List V):Prop:=∀ K p H,acy K p H (dv.map .pv) dvs
theorem Dv.nil:Dv [] []:=fun _ _ _=>.nil
theorem adR {α β:Type} {R:Ph→Hp→α→β→Prop} {p:Ph} {H:Hp} {r:Res α} {Q:β→Hp→Prop} (h:aaJ K cl R p H (aau r) Q E):aaJ K cl R p H r Q E0:=by
 cases r with
 | ok a S=>exact h
 | exc n S=>exact h.elim
 | fail=>exact h.elim
theorem ahK (F:FnOk X.prog X.w X.K X.mg X.base CX0 k f fd ps (spP0 K cl g)) (hr:Room k X.A) (hg:Gl X x) (hm:X.mg x=some (.ref f)) (hk:PySem.W.keepIn X.K (.ref f)=true) (hb:acb X.K fd ps ds) (hd:Vals dvs ds) (hv:Dv dv dvs)
  (ha:PAp K cl E X (e :: es) ms) (hdb:(x == ("__debug__":Str))=false:=by decide) (he:starEach (e :: es) X.env=(false,eval e X.env) :: starEach es X.env:=by rfl) (hpl:(backTo pos (starEach es X.env)).any (·.1)=false:=by rfl) :
  PEp K cl E X (.Call (.Name x p) (e :: es) [] pos) (aag g dv ms):=by
 intro hK
 refine PE.imp (afl F hr hg hm hk hb hd aj5 (ha hK) hdb he hpl) fun σ H Q ⟨p,S,ρ,s,ev,h⟩=>?_
 exact aar s ev h fun q H' as xs S' stp sm ev r k=>⟨q,S',_,sm,abS r (hv K q H'),adR (aeg sm k)⟩
theorem ahO (F:FnOk X.prog X.w X.K X.mg X.base CX0 k f fd ps (spP0 K cl g)) (hr:Room k X.A) (hg:Gl X x) (hm:X.mg x=some (.ref f)) (hk:PySem.W.keepIn X.K (.ref f)=true) (hb:acb X.K fd ps ds) (hd:Vals dvs ds) (hv:Dv dv dvs)
  (ha:PAp K cl E X (e :: es) ms) (hdb:(x == ("__debug__":Str))=false:=by decide) (he:starEach (e :: es) X.env=(false,eval e X.env) :: starEach es X.env:=by rfl) (hpl:(backTo pos (starEach es X.env)).any (·.1)=false:=by rfl) :
  PEp K cl E X (.Call (.Name x p) (e :: es) [] pos) (aa9 g dv ms):=by
 intro hK
 refine PE.imp (afl F hr hg hm hk hb hd aj5 (ha hK) hdb he hpl) fun σ H Q ⟨p,S,ρ,s,ev,h⟩=>?_
 exact aar s ev h fun q H' as xs S' stp sm ev r k=>⟨q,S',_,sm,abS r (hv K q H'),adR k⟩
theorem acr {P:Program} {w:World} {mg:Str→Option Value} {base:Heap} {N:List Str} {qual:Str} {scope:Scope} {fo:Addr} {cd:Value} {A:Around} {outer:List Env} {s₀:Shared} {H₀:Hp}
  (F:FnOk P w K mg base (CX1 P w) k f fd ps (spP K cl g)) (hr:Room k (cxOf (CX1 P w) P w K mg base N qual scope fo cd A outer s₀ H₀ E).A) (hg:Gl (cxOf (CX1 P w) P w K mg base N qual scope fo cd A outer s₀ H₀ E) x) (hm:mg x=some (.ref f)) (hk:PySem.W.keepIn K (.ref f)=true) (hb:acb K fd ps ds) (hd:Vals dvs ds) (hv:Dv dv dvs)
  (ha:PAp K cl E (cxOf (CX1 P w) P w K mg base N qual scope fo cd A outer s₀ H₀ E) (e :: es) ms) (hdb:(x == ("__debug__":Str))=false:=by decide)
  (he:starEach (e :: es) (cxOf (CX1 P w) P w K mg base N qual scope fo cd A outer s₀ H₀ E).env=(false,eval e (cxOf (CX1 P w) P w K mg base N qual scope fo cd A outer s₀ H₀ E).env) :: starEach es (cxOf (CX1 P w) P w K mg base N qual scope fo cd A outer s₀ H₀ E).env:=by rfl)
  (hpl:(backTo pos (starEach es (cxOf (CX1 P w) P w K mg base N qual scope fo cd A outer s₀ H₀ E).env)).any (·.1)=false:=by rfl) :
  PEp K cl E (cxOf (CX1 P w) P w K mg base N qual scope fo cd A outer s₀ H₀ E) (.Call (.Name x p) (e :: es) [] pos) (abv g dv ms):=by
 intro hK
 refine PE.imp (afl F hr hg hm hk hb hd alH (ha hK) hdb he hpl) fun σ H Q ⟨p,S,ρ,s,ev,h⟩=>?_
 exact aar s ev h fun q H' as xs S' stp sm ev r k=>⟨q,S',_,sm,abS r (hv K q H'),aeg sm k⟩
def afY (n:Str):MS:=fun _ S=>.exc n S
theorem afb {P:Program} {w:World} {mg:Str→Option Value} {base:Heap} {N:List Str} {qual:Str} {scope:Scope} {f:Addr} {cd:Value} {A:Around} {outer:List Env} {s₀:Shared} {H₀:Hp}
  {txt:Str} {j:Nat} {np p1 cpos:Pos} (hg:Gl (cxOf (CX1 P w) P w K mg base N qual scope f cd A outer s₀ H₀ E) x) (hm:mg x=some (.ref (cl x))) (hx:PySem.W.excIn K (cl x) abz "ValueError.__new__"=true)
  (hd:(x == ("__debug__":Str))=false:=by decide) :
  PSp K cl E (cxOf (CX1 P w) P w K mg base N qual scope f cd A outer s₀ H₀ E) (.Raise (some (.Call (.Name x np) [.Constant (.str txt) j p1] [] cpos)) none pos) (afY x) :=
 fun _=>PS.imp (aij hg hm hx hd) fun D σ H ⟨p,S,ρ,s,ev,h⟩=>h p H s.step s
end
end L2.Pp
namespace L2.Pp
open PySem PySem.Spec PyProof.Rows Bn
def cmpR (own:List Str) (cap:List (Nat × Str)) (ρ:Rho):Rho:=own.map (fun _=>none)++cap.map fun p=>(ρ[p.1]?).join
open Classical in
noncomputable def abn (G:Gd) (g:GM) (me:ME):List PV→Rho→Sto→Res (List PV)
 | [],_,S=>if gOk G S then .ok [] S else .fail
 | x :: r,ρ,S=>if gOk G S then (match g x ρ with
  | none=>.fail
  | some ρ1=>match me ρ1 S with
   | .ok (.pv y) S1=>match abn G g me r ρ1 S1 with
    | .ok ys S2=>.ok (y :: ys) S2
    | _=>.fail
   | _=>.fail) else .fail
theorem aeE {g:GM} {me:ME} {ρ:Rho} {S:Sto}:abn [] g me [] ρ S=.ok [] S:=by
 unfold abn
 rw [if_pos (adM S)]
theorem adV {g:GM} {me:ME} {x:PV} {r:List PV} {ρ:Rho} {S:Sto}:abn [] g me (x :: r) ρ S=(match g x ρ with
  | none=>.fail
  | some ρ1=>match me ρ1 S with
   | .ok (.pv y) S1=>match abn [] g me r ρ1 S1 with
    | .ok ys S2=>.ok (y :: ys) S2
    | _=>.fail
   | _=>.fail):=by
 rw [abn,if_pos (adM S)]
noncomputable def adb (own:List Str) (cap:List (Nat × Str)) (mi:MI) (g:GM) (me:ME):ME:=fun ρ S=>(mi ρ S).bind fun xs S1=>(abn xs.2 g me xs.1 (cmpR own cap ρ) S1).bind fun ys S2=>.ok (.pv (.lst ys)) S2
theorem afy {G:Gd} {g:GM} {me:ME}:∀ (xs:List PV) (ρ:Rho) (S:Sto) (n:Str) (S':Sto),abn G g me xs ρ S≠.exc n S'
 | [],_,_,_,_,e=>by
  unfold abn at e
  split at e <;> cases e
 | x :: r,ρ,S,n,S',e=>by
  unfold abn at e
  split at e
  ·split at e
   ·cases e
   ·split at e
    ·split at e
     ·cases e
     ·cases e
    ·cases e
  ·cases e
theorem afX {G:Gd} {g:GM} {me:ME} {xs zs:List PV} {ρ:Rho} {S S':Sto} (e:abn G g me xs ρ S=.ok zs S'):gOk G S:=by
 cases xs with
 | nil =>
  unfold abn at e
  split at e
  ·assumption
  ·cases e
 | cons x r =>
  unfold abn at e
  split at e
  ·assumption
  ·cases e
section
variable {K:PySem.W.Frag} {cl:Str→Addr} {E:XK} {X:Cx} {p q:Ph} {H H':Hp} {S:Sto}
theorem aio {ρ:Rho} {σ:St} {own:List Str} {cap:List (Nat × Str)} (h:RepE K p H ρ σ):RepE K p H (cmpR own cap ρ) (aex own cap σ):=by
 refine ⟨by unfold cmpR aex; simp,fun i v e=>?_⟩
 unfold cmpR at e
 unfold aex
 by_cases hi:i < own.length
 ·rw [List.getElem?_append_left (by simpa using hi),List.getElem?_map,List.getElem?_eq_getElem hi] at e
  cases e
 ·rw [List.getElem?_append_right (by rw [List.length_map]; omega),List.getElem?_map,List.length_map] at e ⊢
  cases z:cap[i - own.length]? with
  | none=>rw [z] at e; cases e
  | some c =>
   rw [z] at e
   have e:(ρ[c.1]?).join=some v:=Option.some.inj e
   have e':ρ[c.1]?=some (some v):=by
    cases y:ρ[c.1]? with
    | none=>rw [y] at e; cases e
    | some o=>rw [y] at e; exact congrArg some e
   obtain ⟨x,e1,e2⟩:=h.at_ c.1 v e'
   refine ⟨x,?_,e2⟩
   show some ((σ[c.1]?).join)=some (some x)
   rw [e1]
   rfl
def Ph.res (p:Ph) (D:Addr):Ph:=⟨p.f,fun a=>p.w a∨a=D,fun a=>p.c a∨a=D⟩
def Ph.hold (p:Ph) (D:Addr):Ph:=⟨p.f,fun a=>p.w a∧a≠D,p.c⟩
def Ph.less (p:Ph) (D:Addr):Ph:=⟨p.f,fun a=>p.w a∧a≠D,fun a=>p.c a∧a≠D⟩
theorem Sim.notin (s:Sim K p S H) {D:Addr} (h:H D=none):¬ p.c D:=fun c=>by
 obtain ⟨o,e,_⟩:=s.mu D c
 rw [h] at e
 cases e
theorem Sim.res (s:Sim K p S H) {D:Addr} {o:HO} (h:H D=none) (mo:Mb o):Step p H (p.res D) (upd H D o)∧Sim K (p.res D) S (upd H D o):=by
 have st:Step p H (p.res D) (upd H D o):=⟨s.wc,s.mu,List.prefix_rfl,fun a h=>.inl h,fun a h=>.inl h,fun a h g=>absurd h g,fun a x n=>x.elim (fun z=>absurd z n) (fun z=>by rw [z]; exact h),fun a x n=>x.elim (fun z=>absurd z n) (fun z=>by rw [z]; exact h),fun a u e _=>by
  rw [aaF (aaL e h)]
  exact e⟩
 refine ⟨st,s.nd,s.len,fun a h=>.inl (s.sub a h),fun a x=>x.elim (fun z=>.inl (s.wc a z)) .inr,fun a x=>?_,fun k a u e1 e2=>?_⟩
 ·by_cases z:a=D
  ·rw [z,abg]
   exact ⟨o,rfl,mo⟩
  ·rw [aaF z]
   exact s.mu a (x.elim id fun y=>absurd y z)
 ·exact (s.obj k a u e1 e2).mono (fun vs e=>by rw [aaF (aaL e h)]; exact e) (fun b w f=>⟨⟨.inl w,f⟩,fun vs e=>by rw [aaF (aaL e h)]; exact e⟩) fun _ _ r=>st.reps r
theorem Sim.resHold (s:Sim K p S H) {D:Addr} {o:HO} (h:H D=none) (mo:Mb o):Sim K ((p.res D).hold D) S (upd H D o):=by
 obtain ⟨st,sm⟩:=s.res (o:=o) h mo
 have ne:∀ a,p.w a→a≠D:=fun a w z=>s.notin h (z ▸ s.wc a w)
 refine ⟨sm.nd,sm.len,fun a m=>⟨sm.sub a m,ne a (s.sub a m)⟩,fun a x=>sm.wc a x.1,sm.mu,fun k a u e1 e2=>?_⟩
 exact (s.obj k a u e1 e2).mono (fun vs e=>by rw [aaF (aaL e h)]; exact e) (fun b w f=>⟨⟨⟨.inl w,ne b w⟩,f⟩,fun vs e=>by rw [aaF (aaL e h)]; exact e⟩) fun _ _ r=>st.reps r
theorem Step.unhold {D:Addr} (h:p.w D) (st:Step (p.hold D) H q H') (s:Sim K p S H):Step p H ⟨q.f,fun a=>q.w a∨a=D,q.c⟩ H' :=
 ⟨s.wc,s.mu,st.pre,fun a x=>by
  by_cases z:a=D
  ·exact .inr z
  ·exact .inl (st.mw a ⟨x,z⟩),st.mono,st.nf,fun a x n=>by
  rcases x with x | x
  ·exact st.nw a x fun z=>n z.1
  ·exact absurd (x ▸ h) n,st.nc,fun a o e n=>st.keep a o e fun z=>n z.1⟩
theorem Sim.grow {D:Addr} {ys:List V} {o:HO} (s:Sim K p S H) (sh:Sim K (p.hold D) S H) (w:p.w D) (n:D ∉ p.f) (mo:Mb o):Step p H p (upd H D o)∧Sim K p S (upd H D o)∧Sim K (p.hold D) S (upd H D o):=by
 have st:Step p H p (upd H D o):=⟨s.wc,s.mu,List.prefix_rfl,fun _ h=>h,fun _ h=>h,fun _ h g=>absurd h g,fun _ h g=>absurd h g,fun _ h g=>absurd h g,fun a u e nw=>by
  rw [aaF (fun z:a=D=>nw (by rw [z]; exact w))]
  exact e⟩
 have hm:∀ a,p.c a→∃ u,upd H D o a=some u∧Mb u:=fun a x=>by
  by_cases z:a=D
  ·rw [z,abg]
   exact ⟨o,rfl,mo⟩
  ·rw [aaF z]
   exact s.mu a x
 refine ⟨st,⟨s.nd,s.len,s.sub,s.wc,hm,fun k a u e1 e2=>?_⟩,⟨sh.nd,sh.len,sh.sub,sh.wc,hm,fun k a u e1 e2=>?_⟩⟩
 ·have ne:a≠D:=fun z=>n (z ▸ List.mem_of_getElem? e1)
  exact (sh.obj k a u e1 e2).mono (fun vs e=>by rw [aaF ne]; exact e) (fun b w f=>⟨⟨w.1,f⟩,fun vs e=>by rw [aaF w.2]; exact e⟩) fun _ _ r=>st.reps r
 ·have ne:a≠D:=fun z=>n (z ▸ List.mem_of_getElem? e1)
  exact (sh.obj k a u e1 e2).mono (fun vs e=>by rw [aaF ne]; exact e) (fun b w f=>⟨⟨w,f⟩,fun vs e=>by rw [aaF w.2]; exact e⟩) fun _ _ r=>st.reps r
theorem Sim.toLess {D:Addr} (s:Sim K (p.hold D) S H):Sim K (p.less D) S H :=
 ⟨s.nd,s.len,s.sub,fun a h=>⟨s.wc a h,h.2⟩,fun a h=>s.mu a h.1,fun k a o e1 e2 =>
  (s.obj k a o e1 e2).mono (fun _ e=>e) (fun b w f=>⟨⟨w,f⟩,fun _ e=>e⟩) fun _ _ r=>ab7 (fun a h=>h.1) r⟩
theorem Step.toLess {D:Addr} (st:Step p H q H') (h:H D=none):Step p H (q.less D) H':=by
 have nD:∀ a,p.c a→a≠D:=fun a c z=>by
  obtain ⟨o,e,_⟩:=st.mu a c
  rw [z,h] at e
  cases e
 exact ⟨st.wc,st.mu,st.pre,fun a x=>⟨st.mw a x,nD a (st.wc a x)⟩,fun a x=>⟨st.mono a x,nD a x⟩,st.nf,fun a x=>st.nw a x.1,fun a x=>st.nc a x.1,st.keep⟩
variable {sc:Scope} {own:List Str} {cap:List (Nat × Str)} {elt target iter:Expr} {pos:Pos} {mi:MI} {g:GM} {me:ME}
theorem aht {σ:St} {ρ:Rho} {xs zs:List PV} {G:Gd} {J:It} {Q:VK} {D:Addr} {S2:Sto} (sm:Sim K p S H) (ev:RepE K p H ρ σ) (it:ItOk K p H (xs,G) J) (z:abn G g me xs (cmpR own cap ρ) S=.ok zs S2) (hD:H D=none)
  (k:∀ q H' vs,Step p H q H'→Sim K q S2 H'→Sim K (q.hold D) S2 H'→q.w D→D ∉ q.f→H' D=some (.lst vs)→vs.length≤sizeLine→Reps K q.c H' zs vs→Q (.ref D) H') :
  cmpW J (gP K g) (tP K cl E0 (RepA K) me) (aex own cap σ) H D Q:=by
 obtain ⟨st0,sm0⟩:=sm.res (D:=D) (o:=.lst []) hD trivial
 have sh0:=sm.resHold (D:=D) (o:=.lst []) hD trivial
 have nf0:D ∉ p.f:=fun h=>sm.notin hD (sm.wc D (sm.sub D h))
 refine ajK xs.length it.1 (fun i σ1 H1 ys=>ys.length=i∧i≤xs.length∧H1 D=some (.lst ys)∧∃ p1 S1 ρ1 us ws,(Sim K p1 S1 H1∧Sim K (p1.hold D) S1 H1)∧Step p H p1 H1∧p1.w D∧D ∉ p1.f∧RepE K p1 H1 ρ1 σ1∧ItOk K p1 H1 (xs,G) J∧gOk G S1∧Reps K p1.c H1 us ys∧zs=us++ws∧abn G g me (xs.drop i) ρ1 S1=.ok ws S2) ?_ ?_ ?_ ?_ ?_
 ·refine ⟨rfl,Nat.zero_le _,abg,p.res D,S,cmpR own cap ρ,[],zs,⟨sm0,sh0⟩,st0,.inr rfl,nf0,aio (st0.repE ev),it.step st0,?_,.nil,rfl,by simpa using z⟩
  exact afX z
 ·rintro i σ1 H1 ys ⟨h1,_,h2,_⟩
  exact ⟨h1,h2⟩
 ·rintro i σ1 H1 ys hi ⟨_,_,_,p1,S1,ρ1,us,ws,⟨sm1,sh1⟩,st1,w1,f1,ev1,it1,g1,_⟩
  exact ((it1.2 p1 H1 S1 sm1.step sm1 g1).1 i xs[i] (List.getElem?_eq_getElem hi)).1
 ·rintro i σ1 H1 ys x H2 hi ⟨hl,_,hH,p1,S1,ρ1,us,ws,⟨sm1,sh1⟩,st1,w1,f1,ev1,it1,g1,r1,e1,c1⟩ hy
  obtain ⟨same,rx⟩:=((it1.2 p1 H1 S1 sm1.step sm1 g1).1 i xs[i] (List.getElem?_eq_getElem hi)).2 x H2 hy
  rw [List.drop_eq_getElem_cons hi] at c1
  unfold abn at c1
  rw [if_pos g1] at c1
  split at c1
  ·cases c1
  ·rename_i ρ2 gz
   split at c1
   ·rename_i y S3 mz
    split at c1
    ·rename_i vs S4 cz
     cases c1
     have st2:=sm1.same same
     have sm2:=sm1.ofSame same
     have smh:=sh1.ofSame same
     have stS:Step p H p1 H2:=st1.trans st2
     refine ⟨p1,S1,ρ1,xs[i],ρ2,sm2,st2.repE ev1,rx,gz,fun σ3 ev3=>⟨p1.hold D,S1,ρ2,smh,⟨ev3.len,ev3.at_⟩,?_⟩⟩
     rw [mz]
     intro q H4 y' st4 sm4 ry
     have hD2:H2 D=some (.lst ys):=same _ _ hH
     have hD4:H4 D=some (.lst ys):=st4.keep D _ hD2 fun z=>z.2 rfl
     have fq:D ∉ q.f:=fun h=>by
      have:=st4.nf D h f1
      rw [hD2] at this
      cases this
     have stU:=Step.unhold w1 st4 sm2
     have nq:¬ q.w D:=fun z=>by
      have:=st4.nw D z fun y=>y.2 rfl
      rw [hD2] at this
      cases this
     have smU:Sim K ⟨q.f,fun a=>q.w a∨a=D,q.c⟩ S3 H4:=⟨sm4.nd,sm4.len,fun a h=>.inl (sm4.sub a h),fun a h=>h.elim (sm4.wc a) fun z=>z ▸ st4.mono D (sm2.wc D w1),sm4.mu,fun k a o e1 e2 =>
      (sm4.obj k a o e1 e2).mono (fun _ e=>e) (fun b w f=>⟨⟨.inl w,f⟩,fun _ e=>e⟩) fun _ _ r=>r⟩
     have shU:Sim K (Ph.hold ⟨q.f,fun a=>q.w a∨a=D,q.c⟩ D) S3 H4:=⟨sm4.nd,sm4.len,fun a h=>⟨.inl (sm4.sub a h),fun z=>nq (z ▸ sm4.sub a h)⟩,fun a h=>smU.wc a h.1,sm4.mu,fun k a o e1 e2 =>
      (sm4.obj k a o e1 e2).mono (fun _ e=>e) (fun b w f=>⟨⟨⟨.inl w,fun z=>nq (z ▸ w)⟩,f⟩,fun _ e=>e⟩) fun _ _ r=>r⟩
     obtain ⟨stG,smG,shG⟩:=smU.grow (ys:=ys) (D:=D) (o:=.lst (ys++[y'])) shU (.inr rfl) fq trivial
     have stA:=st2.trans (stU.trans stG)
     refine alq hi hD4 ⟨by rw [List.length_append,hl]; rfl,hi,abg,_,S3,ρ2,us++[y],vs,⟨smG,shG⟩,st1.trans stA,.inr rfl,fq,stG.repE (stU.repE ev3),it1.step stA,afX cz,?_,by rw [e1,List.append_assoc]; rfl,cz⟩
     exact (stA.reps r1).append (.cons (stG.rep ry) .nil)
    ·cases c1
   ·cases c1
 ·rintro σ1 H1 ys ⟨hl,_,hH,p1,S1,ρ1,us,ws,⟨sm1,sh1⟩,st1,w1,f1,ev1,it1,g1,r1,e1,c1⟩
  rw [List.drop_length] at c1
  unfold abn at c1
  rw [if_pos g1] at c1
  cases c1
  refine ⟨(it1.2 p1 H1 _ sm1.step sm1 g1).2,?_⟩
  rw [List.append_nil] at e1
  subst e1
  exact k p1 H1 ys st1 sm1 sh1 w1 f1 hH (by rw [hl]; exact it.1) r1
theorem ahm {σ:St} {ρ:Rho} {xs:List PV × Gd} {J:It} {Q:VK} {D:Addr} (sm:Sim K p S H) (ev:RepE K p H ρ σ) (it:ItOk K p H xs J) (k:aaJ K cl (RepA K) p H ((abn xs.2 g me xs.1 (cmpR own cap ρ) S).bind fun ys S2=>.ok (.pv (.lst ys)) S2) Q E) (hD:H D=none) :
  cmpW J (gP K g) (tP K cl E0 (RepA K) me) (aex own cap σ) H D Q:=by
 cases z:abn xs.2 g me xs.1 (cmpR own cap ρ) S with
 | fail=>rw [z] at k; exact k.elim
 | exc n S'=>exact absurd z (afy _ _ _ _ _)
 | ok zs S2 =>
  rw [z] at k
  have k:∀ q H' x,Step p H q H'→Sim K q S2 H'→Rep K q.c H' (.lst zs) x→Q x H':=k
  refine aht sm ev it z hD fun q H' vs st1 sm1 sh1 w1 f1 hH l1 r1=>?_
  refine k (q.less D) H' (.ref D) (st1.toLess hD) sh1.toLess ?_
  unfold Rep
  exact ⟨D,vs,rfl,.inl ⟨hH,fun z=>z.2 rfl⟩,l1,ab7 (fun a h=>h.1) r1⟩
theorem aea (k:afB X sc own cap) (hi:PIp K cl E X target iter mi) (hc:X.calm=true) (hg:∀ C s₀ H₀ ex,PGp K (adc X sc (cmpN own cap) C s₀ H₀ ex) target g) (he:∀ C s₀ H₀ ex,PEp K cl E0 (adc X sc (cmpN own cap) C s₀ H₀ ex) elt me)
  (hs:∀ x,foldedSetIterable iter X.env x=pure x:=by intro _; rfl):PEp K cl E X (.ListComp elt [⟨target,iter,[],0⟩] sc pos) (adb own cap mi g me):=by
 intro hK
 refine PE.imp (ajw k (hi hK) hc (fun C s₀ H₀ ex=>hg C s₀ H₀ ex hK) (fun C s₀ H₀ ex=>he C s₀ H₀ ex hK) hs) fun σ H Q ⟨p,S,ρ,s,ev,h⟩=>?_
 exact aar s ev h fun q H' xs J S' stp sm ev it kk D hD=>ahm sm ev it kk hD
end
end L2.Pp
namespace L2.Pp
open PySem PySem.Spec PyProof.Rows Bn
def abZ:List (Option Bool)→Option (List Bool)
 | []=>some []
 | some b :: r=>match abZ r with
  | some bs=>some (b :: bs)
  | none=>none
 | none :: _=>none
theorem adQ:∀ {l:List (Option Bool)} {bs:List Bool},abZ l=some bs→bs.length=l.length
 | [],_,e=>by cases e; rfl
 | some b :: r,bs,e=>by
  unfold abZ at e
  split at e
  ·rename_i cs h
   cases e
   rw [List.length_cons,List.length_cons,adQ h]
  ·cases e
 | none :: r,_,e=>by cases e
theorem acW:∀ {l:List (Option Bool)} {bs:List Bool} {i:Nat} {o:Option Bool},abZ l=some bs→l[i]?=some o→∃ b,o=some b∧bs[i]?=some b
 | [],_,i,o,_,h=>by simp at h
 | some b :: r,bs,i,o,e,h=>by
  unfold abZ at e
  split at e
  ·rename_i cs h'
   cases e
   cases i with
   | zero =>
    simp at h
    exact ⟨b,h.symm,rfl⟩
   | succ i=>simpa using acW h' (by simpa using h)
  ·cases e
 | none :: r,_,_,_,e,_=>by cases e
def eqN:Nat→PV→PV→Option Bool
 | _,.non,.non=>some true
 | _,.bl a,.bl b=>some (a == b)
 | _,.int a,.int b=>some (a == b)
 | _,.str a,.str b=>some (a == b)
 | n+1,.tup xs,.tup ys=>match abZ (List.zipWith (eqN n) xs ys) with
  | some bs=>some (bs.all id && xs.length == ys.length)
  | none=>none
 | n+1,.lst xs,.lst ys=>if xs.length=ys.length then (match abZ (List.zipWith (eqN n) xs ys) with
  | some bs=>some (bs.all id)
  | none=>none) else some false
 | _,_,_=>none
theorem acO (bs:List Bool):((List.range bs.length).all fun j=>bs.getD j true)=bs.all id:=by
 rw [Bool.eq_iff_iff,List.all_eq_true,List.all_eq_true]
 constructor
 ·intro h b hb
  obtain ⟨j,hj,e⟩:=List.getElem_of_mem hb
  have:=h j (by simpa using hj)
  simpa [List.getD,hj,e] using this
 ·intro h j hj
  have hj:j < bs.length:=by simpa using hj
  have:=h bs[j] (List.getElem_mem hj)
  simpa [List.getD,hj] using this
section
variable {X:Cx} {pins:List (Addr × Obj)} {σ:St} {H:Hp} {s:Shared} {c:Addr→Prop}
theorem adf {n:Nat} {xs ys:List PV} {vs ws:List V} {its jts:List Value} {bs:List Bool} {A:Around}
  (ih:∀ (v w:PV) (x y:V) (u u':Value) (b:Bool),Rep X.K c H v x→Rep X.K c H w y→RelV x u→RelV y u'→eqN n v w=some b→SeqAt.EqAt A s u u' b)
  (r1:Reps X.K c H xs vs) (r2:Reps X.K c H ys ws) (q1:Vals vs its) (q2:Vals ws jts) (e:abZ (List.zipWith (eqN n) xs ys)=some bs) :
  ∀ j (h1:j < its.toArray.size) (h2:j < jts.toArray.size),SeqAt.EqAt A s its.toArray[j] jts.toArray[j] (bs.getD j true):=fun j h1 h2=>by
 have l1:=r1.length.trans q1.length
 have l2:=r2.length.trans q2.length
 have g1:j < xs.length:=by rw [l1]; simpa using h1
 have g2:j < ys.length:=by rw [l2]; simpa using h2
 obtain ⟨x,ex,rx⟩:=r1.get (List.getElem?_eq_getElem g1)
 obtain ⟨y,ey,ry⟩:=r2.get (List.getElem?_eq_getElem g2)
 obtain ⟨u,eu,ru⟩:=q1.get ex
 obtain ⟨u',eu',ru'⟩:=q2.get ey
 have hz:(List.zipWith (eqN n) xs ys)[j]?=some (eqN n xs[j] ys[j]):=by
  rw [List.getElem?_zipWith,List.getElem?_eq_getElem g1,List.getElem?_eq_getElem g2]
 obtain ⟨b,eb,eb'⟩:=acW e hz
 have e1:its.toArray[j]=u:=by
  rw [List.getElem_toArray]
  rw [List.getElem?_eq_getElem (by simpa using h1)] at eu
  exact Option.some.inj eu
 have e2:jts.toArray[j]=u':=by
  rw [List.getElem_toArray]
  rw [List.getElem?_eq_getElem (by simpa using h2)] at eu'
  exact Option.some.inj eu'
 rw [e1,e2]
 have e3:bs.getD j true=b:=by simp [List.getD,eb']
 rw [e3]
 exact ih _ _ _ _ _ _ _ rx ry ru ru' eb
theorem adJ {n:Nat} {xs ys:List PV} {bs:List Bool} (e:abZ (List.zipWith (eqN n) xs ys)=some bs):bs.length=min xs.length ys.length:=by
 rw [adQ e,List.length_zipWith]
theorem aeM (n:Nat) (v w:PV) (x:V) (b:Bool) (nt:∀ xs,v≠.tup xs) (nl:∀ xs,v≠.lst xs) (h:Rep X.K c H v x) (g:Rep X.K c H w x) (e:eqN n v w=some b):b=true:=by
 cases v with
 | tup xs=>exact absurd rfl (nt xs)
 | lst xs=>exact absurd rfl (nl xs)
 | non =>
  cases w <;> first | (unfold eqN at e; simp at e; done) | skip
  unfold eqN at e; cases e; rfl
 | bl i =>
  cases w <;> first | (unfold eqN at e; simp at e; done) | skip
  unfold Rep at h g; subst h; injection g with g'; subst g'; unfold eqN at e; cases e; exact beq_self_eq_true _
 | int i =>
  cases w <;> first | (unfold eqN at e; simp at e; done) | skip
  unfold Rep at h g; subst h; injection g with g'; subst g'; unfold eqN at e; cases e; exact beq_self_eq_true _
 | str i =>
  cases w <;> first | (unfold eqN at e; simp at e; done) | skip
  unfold Rep at h g; subst h; injection g with g'; subst g'; unfold eqN at e; cases e; exact beq_self_eq_true _
theorem afI (I:Inv X pins σ H s):∀ (n:Nat) (v w:PV) (x:V) (b:Bool),Rep X.K c H v x→Rep X.K c H w x→eqN n v w=some b→b=true:=by
 intro n
 induction n with
 | zero =>
  intro v w x b h g e
  cases v with
  | tup xs=>unfold eqN at e; simp at e
  | lst xs=>unfold eqN at e; simp at e
  | _=>exact aeM 0 _ w x b (by intro _ z; cases z) (by intro _ z; cases z) h g e
 | succ n ih =>
  have items:∀ (xs ys:List PV) (vs:List V) (bs:List Bool),Reps X.K c H xs vs→Reps X.K c H ys vs→abZ (List.zipWith (eqN n) xs ys)=some bs→bs.all id=true∧xs.length=ys.length:=fun xs ys vs bs r1 r2 e=>by
   have ll:=r1.length.trans r2.length.symm
   refine ⟨?_,ll⟩
   rw [List.all_eq_true]
   intro b hb
   obtain ⟨j,hj,ej⟩:=List.getElem_of_mem hb
   have hj':=hj
   rw [adJ e] at hj'
   have g1:j < xs.length:=by omega
   have g2:j < ys.length:=by omega
   obtain ⟨x,ex,rx⟩:=r1.get (List.getElem?_eq_getElem g1)
   obtain ⟨y,ey,ry⟩:=r2.get (List.getElem?_eq_getElem g2)
   have:=ex.symm.trans ey
   cases this
   have hz:(List.zipWith (eqN n) xs ys)[j]?=some (eqN n xs[j] ys[j]):=by
    rw [List.getElem?_zipWith,List.getElem?_eq_getElem g1,List.getElem?_eq_getElem g2]
   obtain ⟨b',eb,eb'⟩:=acW e hz
   rw [List.getElem?_eq_getElem hj,ej] at eb'
   cases eb'
   exact ih _ _ _ _ rx ry eb
  intro v w x b h g e
  cases v with
  | tup xs =>
   cases w with
   | tup ys =>
    unfold Rep at h g
    obtain ⟨a,vs,rfl,t1,_,r1⟩:=h
    obtain ⟨a',ws,e1,t2,_,r2⟩:=g
    cases e1
    have:=I.tuple_inj t1 t2
    subst this
    unfold eqN at e
    split at e
    ·rename_i bs hb
     obtain ⟨z1,z2⟩:=items xs ys vs bs r1 r2 hb
     rw [z1,z2,beq_self_eq_true] at e
     cases e
     rfl
    ·cases e
   | _=>unfold eqN at e; simp at e
  | lst xs =>
   cases w with
   | lst ys =>
    unfold Rep at h g
    obtain ⟨a,vs,rfl,t1,_,r1⟩:=h
    obtain ⟨a',ws,e1,t2,_,r2⟩:=g
    cases e1
    have:=I.list_inj t1.sq t2.sq
    subst this
    unfold eqN at e
    rw [if_pos (r1.length.trans r2.length.symm)] at e
    split at e
    ·rename_i bs hb
     obtain ⟨z1,z2⟩:=items xs ys vs bs r1 r2 hb
     rw [z1] at e
     cases e
     rfl
    ·cases e
   | _=>unfold eqN at e; simp at e
  | _=>exact aeM (n+1) _ w x b (by intro _ z; cases z) (by intro _ z; cases z) h g e
theorem aiE (I:Inv X pins σ H s):∀ (n:Nat) (v w:PV) (x y:V) (u u':Value) (b:Bool) (A:Around),A.units+n < cLine→Rep X.K c H v x→Rep X.K c H w y→RelV x u→RelV y u'→eqN n v w=some b→SeqAt.RcAt A s u u' b∧SeqAt.EqAt A s u u' b:=by
 have flat:∀ (n:Nat) (v w:PV) (x y:V) (u u':Value) (b:Bool) (A:Around),(∀ xs,v≠.tup xs)→(∀ xs,v≠.lst xs)→Rep X.K c H v x→Rep X.K c H w y→RelV x u→RelV y u'→eqN n v w=some b→SeqAt.RcAt A s u u' b∧SeqAt.EqAt A s u u' b:=by
  intro n v w x y u u' b A nt nl h g r r' e
  cases v with
  | tup xs=>exact absurd rfl (nt xs)
  | lst xs=>exact absurd rfl (nl xs)
  | non =>
   cases w <;> first | (unfold eqN at e; simp at e; done) | skip
   unfold Rep at h g; subst h g; cases r; cases r'; unfold eqN at e; cases e; exact ⟨SeqAt.RcAt.none_none,SeqAt.EqAt.same _⟩
  | bl i =>
   cases w <;> first | (unfold eqN at e; simp at e; done) | skip
   unfold Rep at h g; subst h g; cases r; cases r'; unfold eqN at e; cases e; exact ⟨SeqAt.RcAt.bool_bool _ _,SeqAt.EqAt.bool_bool _ _⟩
  | int i =>
   cases w <;> first | (unfold eqN at e; simp at e; done) | skip
   unfold Rep at h g; subst h g; obtain ⟨t,rfl⟩:=r; obtain ⟨t',rfl⟩:=r'; unfold eqN at e; cases e; exact ⟨SeqAt.RcAt.int_int _ _ _ _,SeqAt.EqAt.int_int _ _ _ _⟩
  | str i =>
   cases w <;> first | (unfold eqN at e; simp at e; done) | skip
   unfold Rep at h g; subst h g; obtain ⟨t,rfl⟩:=r; obtain ⟨t',rfl⟩:=r'; unfold eqN at e; cases e; exact ⟨SeqAt.RcAt.str_str _ _ _ _,SeqAt.EqAt.str_str _ _ _ _⟩
 have main:∀ (n:Nat) (v w:PV) (x y:V) (u u':Value) (b:Bool) (A:Around),A.units+n < cLine→Rep X.K c H v x→Rep X.K c H w y→RelV x u→RelV y u'→eqN n v w=some b→SeqAt.RcAt A s u u' b∧SeqAt.EqAt A s u u' b:=by
  intro n
  induction n with
  | zero =>
   intro v w x y u u' b A hu h g r r' e
   cases v with
   | tup xs=>unfold eqN at e; simp at e
   | lst xs=>unfold eqN at e; simp at e
   | _=>exact flat 0 _ w x y u u' b A (by intro _ z; cases z) (by intro _ z; cases z) h g r r' e
  | succ n ih =>
   intro v w x y u u' b A hu h g r r' e
   have hin:A.in1.units+n < cLine:=by show A.units+1+n < cLine; omega
   cases v with
   | tup xs =>
    cases w with
    | tup ys =>
     have hs:x=y→b=true:=fun z=>afI I (n+1) _ _ x b h (z ▸ g) e
     unfold Rep at h g
     obtain ⟨a,vs,rfl,t1,_,r1⟩:=h
     obtain ⟨a',ws,rfl,t2,_,r2⟩:=g
     cases r
     cases r'
     obtain ⟨its,q1,p1,_⟩:=I.tuple t1
     obtain ⟨jts,q2,p2,_⟩:=I.tuple t2
     unfold eqN at e
     split at e
     ·rename_i bs hb
      cases e
      have z:=SeqAt.RcAt.tuples (A:=A) (s:=s) (e:=fun j=>bs.getD j true) (show s.heap.IsTuple a its.toArray from p1) (show s.heap.IsTuple a' jts.toArray from p2) (by omega)
       (adf (A:=A.in1) (fun v w x y u u' b h1 h2 h3 h4 h5=>(ih v w x y u u' b A.in1 hin h1 h2 h3 h4 h5).2) r1 r2 q1 q2 hb)
      have l1:=r1.length.trans q1.length
      have l2:=r2.length.trans q2.length
      rw [List.size_toArray,List.size_toArray,← l1,← l2,← adJ hb,acO] at z
      refine ⟨z,?_⟩
      by_cases ha:a=a'
      ·subst ha
       rw [hs rfl]
       exact SeqAt.EqAt.same _
      ·exact SeqAt.EqAt.of_refs ha z
     ·cases e
    | _=>unfold eqN at e; simp at e
   | lst xs =>
    cases w with
    | lst ys =>
     have hs:x=y→b=true:=fun z=>afI I (n+1) _ _ x b h (z ▸ g) e
     unfold Rep at h g
     obtain ⟨a,vs,rfl,t1,_,r1⟩:=h
     obtain ⟨a',ws,rfl,t2,_,r2⟩:=g
     cases r
     cases r'
     obtain ⟨its,q1,p1,_⟩:=I.list t1.sq
     obtain ⟨jts,q2,p2,_⟩:=I.list t2.sq
     have l1:=r1.length.trans q1.length
     have l2:=r2.length.trans q2.length
     have fin:SeqAt.RcAt A s (.ref a) (.ref a') b→SeqAt.RcAt A s (.ref a) (.ref a') b∧SeqAt.EqAt A s (.ref a) (.ref a') b:=fun z=>by
      refine ⟨z,?_⟩
      by_cases ha:a=a'
      ·subst ha
       rw [hs rfl]
       exact SeqAt.EqAt.same _
      ·exact SeqAt.EqAt.of_refs ha z
     unfold eqN at e
     split at e
     ·rename_i hl
      split at e
      ·rename_i bs hb
       cases e
       have z:=SeqAt.RcAt.lists (A:=A) (s:=s) (e:=fun j=>bs.getD j true) p1.isList p2.isList (by rw [List.size_toArray,List.size_toArray]; omega) (by omega)
        (adf (A:=A.in1) (fun v w x y u u' b h1 h2 h3 h4 h5=>(ih v w x y u u' b A.in1 hin h1 h2 h3 h4 h5).2) r1 r2 q1 q2 hb)
       have hm:its.length=bs.length:=by rw [adJ hb]; omega
       rw [List.size_toArray,hm,acO] at z
       exact fin z
      ·cases e
     ·rename_i hl
      cases e
      exact fin (SeqAt.RcAt.lists_lengths p1.isList p2.isList (by rw [List.size_toArray,List.size_toArray]; simp; omega) (by omega))
    | _=>unfold eqN at e; simp at e
   | _=>exact flat (n+1) _ w x y u u' b A (by intro _ z; cases z) (by intro _ z; cases z) h g r r' e
 exact main
end
end L2.Pp
namespace L2.Pp
open PySem PySem.Spec PyProof.Rows Bn
section
variable {X:Cx}
theorem ak0 {pins:List (Addr × Obj)} {σ:St} {H:Hp} {s:Shared} (I:Inv X pins σ H s) {p:Ph} {v w:PV} {x y:V} {u u':Value} {b:Bool} {A:Around} (hu:A.units+8 < cLine) (h:RepR X.K p H v x) (g:RepR X.K p H w y) (r:RelV x u) (r':RelV y u') (e:eqN 8 v w=some b) :
  SeqAt.RcAt A s u u' b∧SeqAt.RcNeAt A s u u' (!b):=by
 have hin:A.in1.units+7 < cLine:=by show A.units+1+7 < cLine; omega
 cases v with
 | non =>
  cases w <;> first | (unfold eqN at e; simp at e; done) | skip
  have h:=h.non; have g:=g.non; subst h g; cases r; cases r'; unfold eqN at e; cases e; exact ⟨SeqAt.RcAt.none_none,SeqAt.RcNeAt.none_none⟩
 | bl i =>
  cases w <;> first | (unfold eqN at e; simp at e; done) | skip
  have h:=h.bl; have g:=g.bl; subst h g; cases r; cases r'; unfold eqN at e; cases e; exact ⟨SeqAt.RcAt.bool_bool _ _,SeqAt.RcNeAt.bool_bool _ _⟩
 | int i =>
  cases w <;> first | (unfold eqN at e; simp at e; done) | skip
  have h:=h.int; have g:=g.int; subst h g; obtain ⟨t,rfl⟩:=r; obtain ⟨t',rfl⟩:=r'; unfold eqN at e; cases e; exact ⟨SeqAt.RcAt.int_int _ _ _ _,SeqAt.RcNeAt.int_int _ _ _ _⟩
 | str i =>
  cases w <;> first | (unfold eqN at e; simp at e; done) | skip
  have h:=h.str; have g:=g.str; subst h g; obtain ⟨t,rfl⟩:=r; obtain ⟨t',rfl⟩:=r'; unfold eqN at e; cases e; exact ⟨SeqAt.RcAt.str_str _ _ _ _,SeqAt.RcNeAt.str_str _ _ _ _⟩
 | tup xs =>
  cases w with
  | tup ys =>
   obtain ⟨a,vs,rfl,t1,_,r1⟩:=h.tup
   obtain ⟨a',ws,rfl,t2,_,r2⟩:=g.tup
   cases r
   cases r'
   obtain ⟨its,q1,p1,_⟩:=I.tuple t1
   obtain ⟨jts,q2,p2,_⟩:=I.tuple t2
   unfold eqN at e
   split at e
   ·rename_i bs hb
    cases e
    have it:=adf (s:=s) (A:=A.in1) (fun v w x y u u' b h1 h2 h3 h4 h5=>(aiE I 7 v w x y u u' b A.in1 hin h1 h2 h3 h4 h5).2) r1 r2 q1 q2 hb
    have z:=SeqAt.RcAt.tuples (A:=A) (s:=s) (e:=fun j=>bs.getD j true) (show s.heap.IsTuple a its.toArray from p1) (show s.heap.IsTuple a' jts.toArray from p2) (by omega) it
    have z':=SeqAt.RcNeAt.tuples (A:=A) (s:=s) (e:=fun j=>bs.getD j true) (show s.heap.IsTuple a its.toArray from p1) (show s.heap.IsTuple a' jts.toArray from p2) (by omega) it
    have l1:=r1.length.trans q1.length
    have l2:=r2.length.trans q2.length
    rw [List.size_toArray,List.size_toArray,← l1,← l2,← adJ hb,acO] at z z'
    exact ⟨z,z'⟩
   ·cases e
  | _=>unfold eqN at e; simp at e
 | lst xs =>
  cases w with
  | lst ys =>
   obtain ⟨a,vs,rfl,t1,_,r1⟩:=h.lst
   obtain ⟨a',ws,rfl,t2,_,r2⟩:=g.lst
   cases r
   cases r'
   obtain ⟨its,q1,p1,_⟩:=I.list t1
   obtain ⟨jts,q2,p2,_⟩:=I.list t2
   have l1:=r1.length.trans q1.length
   have l2:=r2.length.trans q2.length
   unfold eqN at e
   split at e
   ·rename_i hl
    split at e
    ·rename_i bs hb
     cases e
     have it:=adf (s:=s) (A:=A.in1) (fun v w x y u u' b h1 h2 h3 h4 h5=>(aiE I 7 v w x y u u' b A.in1 hin h1 h2 h3 h4 h5).2) r1 r2 q1 q2 hb
     have z:=SeqAt.RcAt.lists (A:=A) (s:=s) (e:=fun j=>bs.getD j true) p1.isList p2.isList (by rw [List.size_toArray,List.size_toArray]; omega) (by omega) it
     have z':=SeqAt.RcNeAt.lists (A:=A) (s:=s) (e:=fun j=>bs.getD j true) p1.isList p2.isList (by rw [List.size_toArray,List.size_toArray]; omega) (by omega) it
     have hm:its.length=bs.length:=by rw [adJ hb]; omega
     rw [List.size_toArray,hm,acO] at z z'
     exact ⟨z,z'⟩
    ·cases e
   ·rename_i hl
    cases e
    exact ⟨SeqAt.RcAt.lists_lengths p1.isList p2.isList (by rw [List.size_toArray,List.size_toArray]; simp; omega) (by omega),SeqAt.RcNeAt.lists_lengths p1.isList p2.isList (by rw [List.size_toArray,List.size_toArray]; simp; omega) (by omega)⟩
  | _=>unfold eqN at e; simp at e
def rEqP (K:PySem.W.Frag) (neg:Bool):R2:=fun x y H Q=>∃ p v w b,RepR K p H v x∧RepR K p H w y∧eqN 8 v w=some b∧Q (.bl (if neg then !b else b)) H
theorem abo (hu:X.A.units+8 < cLine):OpR X (compareOp .Eq) (rEqP X.K false):=by
 intro pins s σ H x y v u Q I rx ry h
 obtain ⟨p,a,b,k,h1,h2,e,q⟩:=h
 exact (ak0 I hu h1 h2 rx ry e).1 X.prog X.w X.xe _ ⟨.bl k,H,I,rfl,q⟩
theorem ag7 (hu:X.A.units+8 < cLine):OpR X (compareOp .NotEq) (rEqP X.K true):=by
 intro pins s σ H x y v u Q I rx ry h
 obtain ⟨p,a,b,k,h1,h2,e,q⟩:=h
 exact (ak0 I hu h1 h2 rx ry e).2 X.prog X.w X.xe _ ⟨.bl (!k),H,I,rfl,q⟩
def fEq (a b:PV):Option PV:=(eqN 8 a b).map .bl
def fNe (a b:PV):Option PV:=(eqN 8 a b).map fun k=>.bl (!k)
theorem s_eq {K:PySem.W.Frag}:OpS K (rEqP K false) fEq:=fun {p S H a b c x y Q} s ra rb e k=>by
 unfold fEq at e
 cases z:eqN 8 a b with
 | none=>rw [z] at e; cases e
 | some t =>
  rw [z] at e
  cases e
  exact ⟨p,a,b,t,ra,rb,z,k H _ (Same.refl H) (by unfold Rep; rfl)⟩
theorem s_ne {K:PySem.W.Frag}:OpS K (rEqP K true) fNe:=fun {p S H a b c x y Q} s ra rb e k=>by
 unfold fNe at e
 cases z:eqN 8 a b with
 | none=>rw [z] at e; cases e
 | some t =>
  rw [z] at e
  cases e
  exact ⟨p,a,b,t,ra,rb,z,k H _ (Same.refl H) (by unfold Rep; rfl)⟩
def i2 (f:Int→Int→Option PV):PV→PV→Option PV
 | .int a,.int b=>f a b
 | _,_=>none
open Classical in
noncomputable def cI (C:Int→Int→Prop) (g:Int→Int→PV) (a b:Int):Option PV:=if C a b then some (g a b) else none
def toV:PV→V
 | .int i=>.int i
 | .bl b=>.bl b
 | .str s=>.str s
 | _=>.non
def age:PV→Bool
 | .int _=>true
 | .bl _=>true
 | .str _=>true
 | .non=>true
 | _=>false
theorem aa5 {K:PySem.W.Frag} {c:Addr→Prop} {H:Hp} {v:PV} (h:age v=true):Rep K c H v (toV v):=by
 cases v with
 | tup _=>cases h
 | lst _=>cases h
 | _=>unfold Rep toV; rfl
theorem s_i2 {K:PySem.W.Frag} {C:Int→Int→Prop} {g:Int→Int→PV} {h:Int→Int→V} (fl:∀ i j,age (g i j)=true∧toV (g i j)=h i j):OpS K (rI C h) (i2 (cI C g)):=fun {p S H a b c x y Q} s ra rb e k=>by
 cases a with
 | int i =>
  cases b with
  | int j =>
   unfold i2 cI at e
   dsimp only at e
   split at e
   ·rename_i hc
    cases e
    refine ⟨i,j,ra.int,rb.int,hc,?_⟩
    rw [← (fl i j).2]
    exact k H _ (Same.refl H) (aa5 (fl i j).1)
   ·cases e
  | _=>cases e
 | _=>cases e
theorem s_i0 {K:PySem.W.Frag} {g:Int→Int→PV} {h:Int→Int→V} (fl:∀ i j,age (g i j)=true∧toV (g i j)=h i j):OpS K (rI0 h) (i2 fun i j=>some (g i j)):=fun {p S H a b c x y Q} s ra rb e k=>by
 cases a with
 | int i =>
  cases b with
  | int j =>
   cases e
   refine ⟨i,j,ra.int,rb.int,?_⟩
   rw [← (fl i j).2]
   exact k H _ (Same.refl H) (aa5 (fl i j).1)
  | _=>cases e
 | _=>cases e
def afi (i j:Int):Prop:=CMul i j∨(Bd 1000000 i∧Bd 1000000 j)
theorem afi.ok {i j:Int} (h:afi i j):IntMulOk i j:=by
 rcases h with h | h
 ·exact h.ok
 have h1:=agV h.1
 have h2:=agV h.2
 unfold IntMulOk Builtin.Int.intTooBig bitsLine
 intro c
 simp only [Bool.and_eq_true,decide_eq_true_eq] at c
 have:=c.2
 omega
theorem aaW:OpR X (binaryOp .Mult) (rI afi fun i j=>.int (i*j)):=opI fun _ _ _ _ _ _ _ hc q=>mul_int q hc.ok
noncomputable def fMul:=i2 (cI afi fun i j=>.int (i*j))
noncomputable def ael:=i2 (cI afj fun i j=>.int (i.fdiv j))
noncomputable def fMod:=i2 (cI (fun _ j=>j≠0) fun i j=>.int (i.fmod j))
noncomputable def fPow:=i2 (cI CPow fun i j=>.int (i ^ j.toNat))
def fSub:=i2 fun i j=>some (.int (i - j))
def fLt:=i2 fun i j=>some (.bl (decide (i < j)))
def fLe:=i2 fun i j=>some (.bl (decide (i≤j)))
def fGt:=i2 fun i j=>some (.bl (decide (j < i)))
def fGe:=i2 fun i j=>some (.bl (decide (j≤i)))
theorem ab3 {K:PySem.W.Frag}:OpS K (rI afi fun i j=>.int (i*j)) fMul:=s_i2 fun _ _=>⟨rfl,rfl⟩
theorem af3 {K:PySem.W.Frag}:OpS K (rI afj fun i j=>.int (i.fdiv j)) ael:=s_i2 fun _ _=>⟨rfl,rfl⟩
theorem aef {K:PySem.W.Frag}:OpS K (rI (fun _ j=>j≠0) fun i j=>.int (i.fmod j)) fMod:=s_i2 fun _ _=>⟨rfl,rfl⟩
theorem akO {K:PySem.W.Frag}:OpS K (rI CPow fun i j=>.int (i ^ j.toNat)) fPow:=s_i2 fun _ _=>⟨rfl,rfl⟩
theorem ajE {K:PySem.W.Frag}:OpS K (rI0 fun i j=>.int (i - j)) fSub:=s_i0 fun _ _=>⟨rfl,rfl⟩
theorem s_lt {K:PySem.W.Frag}:OpS K (rI0 fun i j=>.bl (decide (i < j))) fLt:=s_i0 fun _ _=>⟨rfl,rfl⟩
theorem s_le {K:PySem.W.Frag}:OpS K (rI0 fun i j=>.bl (decide (i≤j))) fLe:=s_i0 fun _ _=>⟨rfl,rfl⟩
theorem s_gt {K:PySem.W.Frag}:OpS K (rI0 fun i j=>.bl (decide (j < i))) fGt:=s_i0 fun _ _=>⟨rfl,rfl⟩
theorem s_ge {K:PySem.W.Frag}:OpS K (rI0 fun i j=>.bl (decide (j≤i))) fGe:=s_i0 fun _ _=>⟨rfl,rfl⟩
def fNeg:PV→Option PV
 | .int i=>some (.int (-i))
 | _=>none
theorem ajb {K:PySem.W.Frag}:UnS K (rU fun i=>.int (-i)) fNeg:=fun {p S H a c x Q} s ra e k=>by
 cases a with
 | int i =>
  cases e
  exact ⟨i,ra.int,k H _ (Same.refl H) (aa5 (v:=.int (-i)) rfl)⟩
 | _=>cases e
def akA (K:PySem.W.Frag):R2:=fun x y H Q=>∃ l b xs zs,x=.ref l∧y=.ref b∧SqL K H l xs∧SqL K H b zs∧xs.length+zs.length≤sizeLine∧∀ p,H p=none→Q (.ref p) (upd H p (.lst (xs++zs)))
theorem aje:OpR X (binaryOp .Add) (akA X.K):=by
 intro pins s σ H x y v u Q I rx ry h
 obtain ⟨l,b,xs,zs,rfl,rfl,hx,hy,hz,q⟩:=h
 cases rx
 cases ry
 obtain ⟨its,r1,p1,_⟩:=I.list hx
 obtain ⟨jts,r2,p2,_⟩:=I.list hy
 obtain ⟨⟨cls,dd,data,sl⟩,n,ho,hc,_,hd⟩:=p1
 obtain ⟨⟨cls2,dd2,data2,sl2⟩,n2,ho2,hc2,_,hd2⟩:=p2
 simp only at hc hd hc2 hd2
 subst hc hd hc2 hd2
 have e:its.toArray++jts.toArray=(its++jts).toArray:=by simp
 have l1:=r1.length
 have l2:=r2.length
 refine concat_meets ⟨_,ho,rfl⟩ ⟨_,ho2,rfl⟩ noFill_list_add seq_list_add PySem.F.slot_list_add PySem.F.entry_list_add (PySem.F.args_list_add_2 _ _) (list_addW l b its.toArray jts.toArray n n2 dd dd2 sl sl2 (by rw [List.size_toArray,List.size_toArray]; omega)) ⟨ho,ho2,?_⟩
 rw [e]
 exact ⟨.ref _,_,I.lnew (t':=s.toks) (r1.append r2) (by rw [List.length_append]; omega),rfl,q _ I.fresh⟩
def fAdd:PV→PV→Option PV
 | .int a,.int b=>some (.int (a+b))
 | .lst xs,.lst ys=>if xs.length+ys.length≤16777216 then some (.lst (xs++ys)) else none
 | .tup xs,.tup ys=>if xs.length≠0∧ys.length≠0∧xs.length+ys.length≤16777216 then some (.tup (xs++ys)) else none
 | _,_=>none
def ak9 (K:PySem.W.Frag):R2:=fun x y H Q=>(rI0 fun i j=>.int (i+j)) x y H Q∨akA K x y H Q∨aka K x y H Q
theorem aa2:OpR X (binaryOp .Add) (ak9 X.K):=OpR.or akh (OpR.or aje ajL)
theorem acf {K:PySem.W.Frag}:OpS K (ak9 K) fAdd:=fun {p S H a b c x y Q} s ra rb e k=>by
 cases a with
 | int i =>
  cases b with
  | int j =>
   cases e
   exact .inl ⟨i,j,ra.int,rb.int,k H _ (Same.refl H) (aa5 (v:=.int (i+j)) rfl)⟩
  | _=>cases e
 | lst xs =>
  cases b with
  | lst ys =>
   have e:(if xs.length+ys.length≤16777216 then some (PV.lst (xs++ys)) else none)=some c:=e
   split at e
   ·rename_i hl
    cases e
    obtain ⟨a1,vs,rfl,l1,z1,r1⟩:=ra.lst
    obtain ⟨a2,ws,rfl,l2,z2,r2⟩:=rb.lst
    have hz:vs.length+ws.length≤sizeLine:=by rw [← r1.length,← r2.length,aaz]; exact hl
    exact .inr (.inl ⟨a1,a2,vs,ws,rfl,rfl,l1,l2,hz,fun t ht=>k _ _ (aa3 ht) (aep s (r1.append r2) (by rw [List.length_append]; exact hz) ht)⟩)
   ·cases e
  | _=>cases e
 | tup xs =>
  cases b with
  | tup ys =>
   have e:(if xs.length≠0∧ys.length≠0∧xs.length+ys.length≤16777216 then some (PV.tup (xs++ys)) else none)=some c:=e
   split at e
   ·rename_i hl
    cases e
    obtain ⟨a1,vs,rfl,l1,z1,r1⟩:=ra.tup
    obtain ⟨a2,ws,rfl,l2,z2,r2⟩:=rb.tup
    have hz:vs.length+ws.length≤sizeLine:=by rw [← r1.length,← r2.length,aaz]; exact hl.2.2
    refine .inr (.inr ⟨a1,a2,vs,ws,rfl,rfl,l1,l2,fun q=>hl.1 (by rw [r1.length,q]; rfl),hz,fun q=>absurd (show ys.length=0 by rw [r2.length,q]; rfl) hl.2.1,fun _ t ht=>k _ _ (aa3 ht) (acF s (r1.append r2) (by rw [List.length_append]; exact hz) ht)⟩)
   ·cases e
  | _=>cases e
 | _=>cases e
end
section
variable {K:PySem.W.Frag} {cl:Str→Addr} {E:XK} {X:Cx} {a b e:Expr} {es:List Expr} {ma mb m:ME} {ms:MA} {pos p2:Pos}
def fIx:PV→PV→Option PV
 | .lst xs,.int i=>atI xs i
 | .tup xs,.int i=>atI xs i
 | _,_=>none
theorem ahx {c:Addr→Prop} {H:Hp} {xs:List PV} {vs:List V} {i:Int} {v:PV} (r:Reps K c H xs vs) (e:atI xs i=some v):∃ x,atI vs i=some x∧Rep K c H v x:=by
 unfold atI at e ⊢
 rw [← r.length]
 cases z:ixN xs.length i with
 | none=>rw [z] at e; cases e
 | some j =>
  rw [z] at e
  exact r.get e
theorem s_ix:OpS K (rIx K) fIx:=fun {p S H a b c x y Q} s ra rb e k=>by
 cases b with
 | int i =>
  cases a with
  | lst xs =>
   obtain ⟨a1,vs,rfl,l1,z1,r1⟩:=ra.lst
   obtain ⟨x,e1,r2⟩:=ahx r1 e
   exact .inl ⟨a1,vs,i,x,rfl,rb.int,l1,e1,k H x (Same.refl H) r2⟩
  | tup xs =>
   obtain ⟨a1,vs,rfl,l1,z1,r1⟩:=ra.tup
   obtain ⟨x,e1,r2⟩:=ahx r1 e
   exact .inr (.inl ⟨a1,vs,i,x,rfl,rb.int,l1,e1,k H x (Same.refl H) r2⟩)
  | _=>cases e
 | _=>cases a <;> cases e
theorem ado (ha:PEp K cl E X a ma) (hb:PEp K cl E X b mb) (hs:afz b:=by intro _ _; rfl):PEp K cl E X (.Subscript a b pos) (mBin fIx ma mb):=by
 intro hK
 subst hK
 refine (aky akW (ha rfl) (hb rfl) hs).imp fun σ H Q ⟨p,S,ρ,s,e,h⟩=>?_
 exact aar s e h fun q H1 a x S1 st s1 e1 r1 h1=>aar s1 e1 h1 fun q2 H2 b y S2 st2 s2 e2 r2 h2=>abO s_ix s2 (st2.repA r1) r2 h2
abbrev MO:=Rho→Sto→Res (Option Int)
def mO0:MO:=fun _ S=>.ok none S
def aa4:AV→Sto→Res (Option Int)
 | .pv (.int i),S=>.ok (some i) S
 | _,_=>.fail
def mO1 (m:ME):MO:=fun ρ S=>(m ρ S).bind aa4
abbrev RO:Ph→Hp→Option Int→Option Int→Prop:=fun _ _ a b=>a=b
variable (K cl E X)
def POp (e:Option Expr) (m:MO):Prop:=X.K=K→PO X e (tP K cl E RO m)
variable {K cl E X}
theorem PO.imp {e:Option Expr} {t t':TO} (h:PO X e t) (i:∀ σ H Q,t' σ H Q→t σ H Q):PO X e t':=fun pins s σ H Q I q=>h pins s σ H Q I (i σ H Q q)
theorem abe:POp K cl E X none mO0:=fun _=>PO.imp aj2 fun σ H Q ⟨p,S,ρ,s,e,h⟩=>aaJ.ret (R:=RO) h s rfl
theorem abf (h:PEp K cl E X e m):POp K cl E X (some e) (mO1 m):=by
 intro hK
 subst hK
 refine PO.imp (aja (h rfl)) fun σ H Q ⟨p,S,ρ,s,e,h⟩=>?_
 refine aar s e h fun q H1 a x S1 st s1 e1 r1 h1=>?_
 unfold aa4 at h1
 split at h1
 ·rename_i i
  exact ⟨i,(show RepR X.K q H1 (.int i) x from .inl r1).int,aaJ.ret (R:=RO) h1 s1 rfl⟩
 ·exact h1.elim
def cutP (xs:List PV) (lo hi:Option Int):List PV:=(xs.drop (HT.sIx xs.length 0 lo)).take (HT.sIx xs.length xs.length hi - HT.sIx xs.length 0 lo)
def fSl (v:PV) (lo hi:Option Int):Option PV:=match v with
 | .lst xs=>some (.lst (cutP xs lo hi))
 | .tup xs=>if HT.sIx xs.length 0 lo=0∧HT.sIx xs.length xs.length hi=xs.length then none else some (.tup (cutP xs lo hi))
 | _=>none
def mSl (m:ME) (ml mh:MO):ME:=fun ρ S=>(m ρ S).bind fun v S1=>(ml ρ S1).bind fun lo S2=>(mh ρ S2).bind fun hi S3=>okO ((rd S3 v).bind fun x=>fSl x lo hi) S3
theorem afJ {c:Addr→Prop} {H:Hp} {xs:List PV} {vs:List V} {lo hi:Option Int} (r:Reps K c H xs vs):Reps K c H (cutP xs lo hi) (cutV vs lo hi):=by
 unfold cutP cutV
 rw [← r.length]
 exact (r.drop _).take _
theorem alm {lo hi:Option Expr} {ml mh:MO} (he:PEp K cl E X e m) (hl:POp K cl E X lo ml) (hu:POp K cl E X hi mh):PEp K cl E X (.Subscript e (.Slice lo hi none p2) pos) (mSl m ml mh):=by
 intro hK
 subst hK
 refine (afF (SlR.or ajT ald) (he rfl) (hl rfl) (hu rfl)).imp fun σ H Q ⟨p,S,ρ,s,e,h⟩=>?_
 refine aar s e h fun q H1 a x S1 st s1 e1 r1 h1=>aar s1 e1 h1 fun q2 H2 lo lo' S2 st2 s2 e2 r2 h2=>aar s2 e2 h2 fun q3 H3 hi hi' S3 st3 s3 e3 r3 h3=>?_
 cases r2
 cases r3
 have ra:=st3.repA (st2.repA r1)
 obtain ⟨c,ec,k⟩:=acE s3 h3
 cases z:rd S3 a with
 | none=>rw [z] at ec; cases ec
 | some v =>
  rw [z] at ec
  have rv:=ad6 s3 ra z
  cases v with
  | lst xs =>
   have ec:some (PV.lst (cutP xs lo hi))=some c:=ec
   cases ec
   obtain ⟨a1,vs,rfl,l1,z1,r1⟩:=rv.lst
   exact .inl ⟨a1,vs,rfl,l1,fun t ht=>k _ _ (aa3 ht) (aep s3 (afJ r1) (Nat.le_trans (ab9 vs lo hi) z1) ht)⟩
  | tup xs =>
   obtain ⟨a1,vs,rfl,l1,z1,r1⟩:=rv.tup
   have ec:(if HT.sIx xs.length 0 lo=0∧HT.sIx xs.length xs.length hi=xs.length then none else some (PV.tup (cutP xs lo hi)))=some c:=ec
   split at ec
   ·cases ec
   ·rename_i hw
    cases ec
    rw [r1.length] at hw
    exact .inr ⟨a1,vs,rfl,l1,hw,fun t ht=>k _ _ (aa3 ht) (acF s3 (afJ r1) (Nat.le_trans (ab9 vs lo hi) z1) ht)⟩
  | _=>cases ec
theorem aaS {id:String} {r:List V→Hp→VK→Prop} {f:List PV→Option PV} {x:Str} {p:Pos} (hc:ac4 X (.builtin id) r) (hf:CaR X.K r f) (hg:Gl X x) (hm:X.mg x=none) (hv:bootBuiltins x=some (.builtin id)) (ha:PAp K cl E X (e :: es) ms) (hn:x≠"__name__":=by decide) (hdb:(x == ("__debug__":Str))=false:=by decide)
  (he:starEach (e :: es) X.env=(false,eval e X.env) :: starEach es X.env:=by rfl) (hpl:(backTo pos (starEach es X.env)).any (·.1)=false:=by rfl):PEp K cl E X (.Call (.Name x p) (e :: es) [] pos) (mR f ms):=by
 intro hK
 subst hK
 refine PE.imp (acK hc hg hm hv (ha rfl) hn hdb he hpl) fun σ H Q ⟨p,S,ρ,s,ev,h⟩=>?_
 exact aar s ev h fun q H' as xs S' stp sm ev r k=>aeW hf sm r k
theorem abB {T:String} {r:List V→Hp→VK→Prop} {f:List PV→Option PV} {x:Str} {p:Pos} (hc:ac4 X (.type T) r) (hf:CaR X.K r f) (hg:Gl X x) (hm:X.mg x=none) (hv:bootBuiltins x=some (.type T)) (ha:PAp K cl E X (e :: es) ms) (hn:x≠"__name__":=by decide) (hdb:(x == ("__debug__":Str))=false:=by decide)
  (he:starEach (e :: es) X.env=(false,eval e X.env) :: starEach es X.env:=by rfl) (hpl:(backTo pos (starEach es X.env)).any (·.1)=false:=by rfl):PEp K cl E X (.Call (.Name x p) (e :: es) [] pos) (mR f ms):=by
 intro hK
 subst hK
 refine PE.imp (agu hc hg hm hv (ha rfl) hn hdb he hpl) fun σ H Q ⟨p,S,ρ,s,ev,h⟩=>?_
 exact aar s ev h fun q H' as xs S' stp sm ev r k=>aeW hf sm r k
def fLen:List PV→Option PV
 | [.lst xs]=>some (.int xs.length)
 | [.tup xs]=>some (.int xs.length)
 | _=>none
theorem ahH:CaR K (fun xs H Q=>∃ p ys,xs=[.ref p]∧(SqL K H p ys∨SqT K H p ys)∧Q (.int ys.length) H) fLen:=fun {p S H as c xs Q} s ra e k=>by
 unfold fLen at e
 split at e
 ·rename_i zs
  cases e
  cases ra with
  | cons h t =>
   cases t
   obtain ⟨a,vs,rfl,l,z,r⟩:=h.lst
   refine ⟨a,vs,rfl,.inl l,?_⟩
   rw [← r.length]
   exact k H _ (Same.refl H) (aa5 (v:=.int zs.length) rfl)
 ·rename_i zs
  cases e
  cases ra with
  | cons h t =>
   cases t
   obtain ⟨a,vs,rfl,l,z,r⟩:=h.tup
   refine ⟨a,vs,rfl,.inr l,?_⟩
   rw [← r.length]
   exact k H _ (Same.refl H) (aa5 (v:=.int zs.length) rfl)
 ·cases e
def fAbs:List PV→Option PV
 | [.int i]=>some (.int (if i < 0 then -i else i))
 | _=>none
theorem aj0:CaR K (fun xs H Q=>∃ i,xs=[.int i]∧Q (.int (if i < 0 then -i else i)) H) fAbs:=fun {p S H as c xs Q} s ra e k=>by
 unfold fAbs at e
 split at e
 ·rename_i i
  cases e
  cases ra with
  | cons h t =>
   cases t
   cases h.int
   exact ⟨i,rfl,k H _ (Same.refl H) (aa5 (v:=.int _) rfl)⟩
 ·cases e
def aak:List PV→Option PV
 | [.lst xs]=>some (.tup xs)
 | [.tup xs]=>some (.tup xs)
 | _=>none
theorem agX:CaR K (fun xs H Q=>∃ p ys,xs=[.ref p]∧((SqL K H p ys∧∀ l,H l=none→Q (.ref l) (upd H l (.tup ys)))∨(SqT K H p ys∧Q (.ref p) H))) aak:=fun {p S H as c xs Q} s ra e k=>by
 unfold aak at e
 split at e
 ·rename_i zs
  cases e
  cases ra with
  | cons h t =>
   cases t
   obtain ⟨a,vs,rfl,l,z,r⟩:=h.lst
   exact ⟨a,vs,rfl,.inl ⟨l,fun t ht=>k _ _ (aa3 ht) (acF s r z ht)⟩⟩
 ·rename_i zs
  cases e
  cases ra with
  | cons h t =>
   cases t
   obtain ⟨a,vs,rfl,l,z,r⟩:=h.tup
   refine ⟨a,vs,rfl,.inr ⟨l,k H _ (Same.refl H) ?_⟩⟩
   unfold Rep
   exact ⟨a,vs,rfl,l,z,r⟩
 ·cases e
def aao:List PV→Option PV
 | [.lst xs]=>some (.lst xs)
 | [.tup xs]=>some (.lst xs)
 | _=>none
def adP:List PV→Option (List Bool)
 | []=>some []
 | .bl b :: r=>match adP r with
  | some bs=>some (b :: bs)
  | none=>none
 | _ :: _=>none
def fAll:List PV→Option PV
 | [.lst xs]=>(adP xs).map fun bs=>.bl (bs.all id)
 | _=>none
theorem afE {c:Addr→Prop} {H:Hp}:∀ {xs:List PV} {bs:List Bool} {vs:List V},adP xs=some bs→Reps K c H xs vs→vs=bs.map V.bl
 | [],bs,vs,e,r=>by
  cases e
  unfold Reps at r
  exact r
 | .bl b :: xs,bs,vs,e,r=>by
  unfold adP at e
  split at e
  ·rename_i cs h
   cases e
   unfold Reps at r
   obtain ⟨v,w,rfl,r1,r2⟩:=r
   unfold Rep at r1
   rw [r1,afE h r2]
   rfl
  ·cases e
 | .non :: _,_,_,e,_=>by cases e
 | .int _ :: _,_,_,e,_=>by cases e
 | .str _ :: _,_,_,e,_=>by cases e
 | .tup _ :: _,_,_,e,_=>by cases e
 | .lst _ :: _,_,_,e,_=>by cases e
theorem ajJ:CaR K (fun xs H Q=>∃ (a:Addr) (bs:List Bool),xs=[.ref a]∧SqL K H a (bs.map V.bl)∧Q (.bl (bs.all id)) H) fAll:=fun {p S H as c xs Q} s ra e k=>by
 unfold fAll at e
 split at e
 ·rename_i zs
  cases y:adP zs with
  | none=>rw [y] at e; cases e
  | some bs =>
   rw [y] at e
   cases e
   cases ra with
   | cons h t =>
    cases t
    obtain ⟨a,vs,rfl,l,z,r⟩:=h.lst
    rw [afE y r] at l
    exact ⟨a,bs,rfl,l,k H _ (Same.refl H) (aa5 (v:=.bl _) rfl)⟩
 ·cases e
end
end L2.Pp
namespace L2.Pp
open PySem PySem.Spec PyProof.Rows Bn
section
variable {K:PySem.W.Frag} {cl:Str→Addr} {E:XK} {X:Cx} {a b c e l tg:Expr} {es:List Expr} {m ma mb:ME} {ms:MA} {pos:Pos} {p q:Ph} {H H':Hp} {S:Sto}
theorem Sim.push (s:Sim K p S H) {D:Addr} {ps:List PV} {vs:List V} (h:H D=none) (l:vs.length≤sizeLine) (r:Reps K p.c H ps vs) :
  let q:Ph:=⟨p.f++[D],fun a=>p.w a∨a=D,fun a=>p.c a∨a=D⟩
  Step p H q (upd H D (.lst vs))∧Sim K q (S++[.lst ps]) (upd H D (.lst vs)):=by
 intro q
 obtain ⟨st0,sm0⟩:=s.res (D:=D) (o:=.lst vs) h trivial
 have nf0:D ∉ p.f:=fun z=>s.notin h (s.wc D (s.sub D z))
 refine ⟨⟨st0.wc,st0.mu,⟨[D],rfl⟩,st0.mw,st0.mono,fun a x n=>?_,st0.nw,st0.nc,st0.keep⟩,?_,by simp [q,s.len],fun a x=>?_,sm0.wc,sm0.mu,fun k a o e1 e2=>?_⟩
 ·rcases List.mem_append.mp x with z | z
  ·exact absurd z n
  ·have:a=D:=by simpa using z
   rw [this]
   exact h
 ·show (p.f++[D]).Nodup
  rw [List.nodup_append]
  refine ⟨s.nd,by simp,fun a ha b hb z=>?_⟩
  have:b=D:=by simpa using hb
  exact nf0 (this ▸ z ▸ ha)
 ·rcases List.mem_append.mp x with z | z
  ·exact .inl (s.sub a z)
  ·exact .inr (by simpa using z)
 ·by_cases hk:k < S.length
  ·have e1':p.f[k]?=some a:=by
    have e1:(p.f++[D])[k]?=some a:=e1
    rwa [List.getElem?_append_left (by rw [s.len]; exact hk)] at e1
   rw [List.getElem?_append_left hk] at e2
   refine (s.obj k a o e1' e2).mono (fun vs e=>by rw [aaF (aaL e h)]; exact e) (fun b w f=>⟨⟨.inl w,fun m=>?_⟩,fun vs e=>by rw [aaF (aaL e h)]; exact e⟩) fun _ _ r=>st0.reps r
   rcases List.mem_append.mp m with z | z
   ·exact f z
   ·have:b=D:=by simpa using z
    exact s.notin h (this ▸ s.wc b w)
  ·have hk':k=S.length:=by
    have:=(List.getElem?_eq_some_iff.mp e2).1
    simp at this
    omega
   subst hk'
   rw [List.getElem?_append_right (Nat.le_refl _),Nat.sub_self] at e2
   have e1:(p.f++[D])[S.length]?=some a:=e1
   rw [← s.len,List.getElem?_append_right (Nat.le_refl _),Nat.sub_self] at e1
   cases e1
   cases e2
   exact ⟨vs,abg,l,st0.reps r⟩
theorem Sim.write (s:Sim K p S H) {D:Addr} {k:Nat} {ps:List PV} {vs:List V} (h:p.f[k]?=some D) (hk:k < S.length) (l:vs.length≤sizeLine) (r:Reps K p.c H ps vs) :
  Step p H p (upd H D (.lst vs))∧Sim K p (S.set k (.lst ps)) (upd H D (.lst vs)):=by
 have w:p.w D:=s.sub D (List.mem_of_getElem? h)
 have st:Step p H p (upd H D (.lst vs)):=⟨s.wc,s.mu,List.prefix_rfl,fun _ h=>h,fun _ h=>h,fun _ h g=>absurd h g,fun _ h g=>absurd h g,fun _ h g=>absurd h g,fun a u e nw=>by
  rw [aaF (fun z:a=D=>nw (by rw [z]; exact w))]
  exact e⟩
 refine ⟨st,s.nd,by rw [List.length_set]; exact s.len,s.sub,s.wc,fun a x=>?_,fun j a o e1 e2=>?_⟩
 ·by_cases z:a=D
  ·rw [z,abg]
   exact ⟨_,rfl,trivial⟩
  ·rw [aaF z]
   exact s.mu a x
 ·by_cases hj:k=j
  ·subst hj
   rw [h] at e1
   cases e1
   rw [List.getElem?_set_self hk] at e2
   cases e2
   exact ⟨vs,abg,l,st.reps r⟩
  ·rw [List.getElem?_set_ne hj] at e2
   have ne:a≠D:=fun q=>hj (adG s.nd h (q ▸ e1))
   exact (s.obj j a o e1 e2).mono (fun vs e=>by rw [aaF ne]; exact e) (fun b w f=>⟨⟨w,f⟩,fun vs e=>by rw [aaF (fun z:b=D=>f (z ▸ List.mem_of_getElem? h))]; exact e⟩) fun _ _ r=>st.reps r
def ai7 (xs:List AV) (S:Sto):Res AV:=match abm xs with
 | some vs=>if vs.length≤16777216 then .ok (.ref S.length) (S++[.lst vs]) else .fail
 | none=>.fail
def mNew (ms:MA):ME:=fun ρ S=>(ms ρ S).bind ai7
theorem ajg (h:PAp K cl E X es ms):PEp K cl E X (.List es pos) (mNew ms):=by
 intro hK
 subst hK
 refine (aiB (h rfl)).imp fun σ H Q ⟨p,S,ρ,s,e,h⟩=>?_
 refine aar s e h fun q H1 as xs S1 st s1 e1 r1 h1=>?_
 unfold ai7 at h1
 split at h1
 ·rename_i vs hv
  split at h1
  ·rename_i hl
   have r:=acu hv r1
   rw [r.length,← aaz] at hl
   refine ⟨hl,fun t ht=>?_⟩
   obtain ⟨st2,sm2⟩:=s1.push ht hl r
   exact h1 _ _ (.ref t) st2 sm2 ⟨t,by show (q.f++[t])[S1.length]?=some t; rw [← s1.len,List.getElem?_append_right (Nat.le_refl _),Nat.sub_self]; rfl,rfl⟩
  ·exact h1.elim
 ·exact h1.elim
def ahJ (k:Nat) (ys:List AV) (S:Sto):Res AV:=match ys with
 | [.pv y]=>match S[k]? with
  | some (.lst xs)=>if xs.length < 16777216 then .ok (.pv .non) (S.set k (.lst (xs++[y]))) else .fail
  | _=>.fail
 | _=>.fail
def afg {α:Type} (k:AV) (f:Nat→Res α):Res α:=match k with
 | .ref k=>f k
 | _=>.fail
def mApp (m:ME) (ms:MA):ME:=fun ρ S=>(m ρ S).bind fun k S1=>afg k fun k=>(ms ρ S1).bind fun ys S2=>ahJ k ys S2
theorem agU {k:Nat} {x:V} (s:Sim K p S H) (r:RepA K p H (.ref k) x):tyV K "list" x H:=by
 obtain ⟨a,e,rfl⟩:=r
 have hk:k < S.length:=by
  have:=(List.getElem?_eq_some_iff.mp e).1
  rw [← s.len]
  exact this
 have z:=s.obj k a S[k] e (List.getElem?_eq_getElem hk)
 cases y:S[k] with
 | lst xs =>
  rw [y] at z
  obtain ⟨vs,h,_⟩:=z
  exact .inl ⟨rfl,vs,SqL.of h⟩
 | lol xss =>
  rw [y] at z
  obtain ⟨bs,h,_⟩:=z
  exact .inl ⟨rfl,_,SqL.of h⟩
theorem aeT {apos cpos:Pos} (ho:PEp K cl E X a m) (ha:PAp K cl E X [e] ms) (hbase:attributeBase a "append" X.env (eval a X.env)=eval a X.env:=by rfl)
  (hfew:((backTo cpos (starEach [e] X.env)).all (fun x=>!x.1) && (backToKw cpos (keywordEach [] X.env)).all (fun x=>x.1.isSome) && decide (([e]:List Expr).length+([]:List Keyword).length+(if ([]:List Keyword).isEmpty then 0 else 1) < 30))=true:=by rfl)
  (hline:(apos.endLine == cpos.line)=true:=by rfl) (hs:starEach [e] X.env=[(false,eval e X.env)]:=by rfl):PEp K cl E X (.Call (.Attribute a "append" apos) [e] [] cpos) (mApp m ms):=by
 intro hK
 subst hK
 refine PE.imp (ajx PySem.F.plainAttrs_list PySem.F.slot_list_append PySem.F.type_list_append aeI (ho rfl) (ha rfl) hbase hfew hline hs rfl) fun σ H Q ⟨p,S,ρ,s,ev,h⟩=>?_
 refine aar s ev h fun q H1 k x S1 st s1 e1 r1 h1=>?_
 cases k with
 | pv v=>exact h1.elim
 | ref k =>
  refine ⟨agU s1 r1,aar s1 e1 h1 fun q2 H2 ys xs S2 st2 s2 e2 r2 h2=>?_⟩
  obtain ⟨a,ea,rfl⟩:=st2.repA r1
  unfold ahJ at h2
  split at h2
  ·rename_i y
   cases r2 with
   | cons r3 r4 =>
    cases r4
    rename_i x
    cases z:S2[k]? with
    | none=>rw [z] at h2; exact h2.elim
    | some o =>
     cases o with
     | lol xss=>simp only [z] at h2; exact h2.elim
     | lst zs =>
      simp only [z] at h2
      obtain ⟨vs,h3,l3,r4⟩:=s2.obj k a _ ea z
      split at h2
      ·rename_i hl
       rw [r4.length] at hl
       have hz:=aaz
       refine ⟨a,vs,x,rfl,rfl,h3,by omega,?_⟩
       obtain ⟨st3,sm3⟩:=s2.write ea (List.getElem?_eq_some_iff.mp z).1 (ps:=zs++[y]) (vs:=vs++[x]) (by rw [List.length_append,List.length_singleton]; omega) (r4.append (.cons r3 .nil))
       exact h2 _ _ .non st3 sm3 (by show Rep X.K q2.c (upd H2 a (.lst (vs++[x]))) .non .non; unfold Rep; rfl)
      ·exact h2.elim
  ·exact h2.elim
def ajS (k:Nat) (ys:List AV) (S:Sto):Res AV:=match ys with
 | [.pv (.int i)]=>if -9223372036854775808≤i∧i < 9223372036854775808 then (match S[k]? with
  | some (.lst xs)=>match seqIndex? i xs.length with
   | some j=>match xs[j]? with
    | some v=>.ok (.pv v) (S.set k (.lst (xs.eraseIdx j)))
    | none=>.fail
   | none=>.fail
  | _=>.fail) else .fail
 | _=>.fail
def mPop (m:ME) (ms:MA):ME:=fun ρ S=>(m ρ S).bind fun k S1=>afg k fun k=>(ms ρ S1).bind fun ys S2=>ajS k ys S2
theorem akl {apos cpos:Pos} (ho:PEp K cl E X a m) (ha:PAp K cl E X [e] ms) (hbase:attributeBase a "pop" X.env (eval a X.env)=eval a X.env:=by rfl)
  (hfew:((backTo cpos (starEach [e] X.env)).all (fun x=>!x.1) && (backToKw cpos (keywordEach [] X.env)).all (fun x=>x.1.isSome) && decide (([e]:List Expr).length+([]:List Keyword).length+(if ([]:List Keyword).isEmpty then 0 else 1) < 30))=true:=by rfl)
  (hline:(apos.endLine == cpos.line)=true:=by rfl) (hs:starEach [e] X.env=[(false,eval e X.env)]:=by rfl):PEp K cl E X (.Call (.Attribute a "pop" apos) [e] [] cpos) (mPop m ms):=by
 intro hK
 subst hK
 refine PE.imp (ajx PySem.F.plainAttrs_list PySem.F.slot_list_pop PySem.F.type_list_pop ahQ (ho rfl) (ha rfl) hbase hfew hline hs rfl) fun σ H Q ⟨p,S,ρ,s,ev,h⟩=>?_
 refine aar s ev h fun q H1 k x S1 st s1 e1 r1 h1=>?_
 cases k with
 | pv v=>exact h1.elim
 | ref k =>
  refine ⟨agU s1 r1,aar s1 e1 h1 fun q2 H2 ys xs S2 st2 s2 e2 r2 h2=>?_⟩
  obtain ⟨a,ea,rfl⟩:=st2.repA r1
  unfold ajS at h2
  split at h2
  ·rename_i i
   cases r2 with
   | cons r3 r4 =>
    cases r4
    rename_i x
    have ex:x=.int i:=(show RepR X.K q2 H2 (.int i) x from .inl r3).int
    subst ex
    split at h2
    ·rename_i hi
     cases z:S2[k]? with
     | none=>rw [z] at h2; exact h2.elim
     | some o =>
      cases o with
      | lol xss=>simp only [z] at h2; exact h2.elim
      | lst zs =>
       simp only [z] at h2
       obtain ⟨vs,h3,l3,r4⟩:=s2.obj k a _ ea z
       cases y:seqIndex? i zs.length with
       | none=>simp only [y] at h2; exact h2.elim
       | some j =>
        simp only [y] at h2
        cases yv:zs[j]? with
        | none=>simp only [yv] at h2; exact h2.elim
        | some v =>
         simp only [yv] at h2
         obtain ⟨u,eu,ru⟩:=r4.get yv
         refine ⟨a,vs,i,j,u,rfl,rfl,h3,hi.1,hi.2,by rw [← r4.length]; exact y,eu,?_⟩
         obtain ⟨st3,sm3⟩:=s2.write ea (List.getElem?_eq_some_iff.mp z).1 (ps:=zs.eraseIdx j) (vs:=vs.eraseIdx j) (Nat.le_trans (adj vs j) l3) (r4.eraseIdx j)
         exact h2 _ _ u st3 sm3 (st3.rep ru)
    ·exact h2.elim
  ·exact h2.elim
def ahS (k:Nat) (i:AV) (v:AV) (S:Sto):Res Unit:=match i,v with
 | .pv (.int i),.pv v=>match S[k]? with
  | some (.lst xs)=>match ixN xs.length i with
   | some j=>.ok () (S.set k (.lst (xs.set j v)))
   | none=>.fail
  | _=>.fail
 | _,_=>.fail
def ahl (mo mi mv:ME):MS:=fun ρ S=>SRes.of (mv ρ S) fun v S1=>SRes.of (mo ρ S1) fun k S2=>SRes.of (mi ρ S2) fun i S3=>SRes.of (afg k fun k=>ahS k i v S3) fun _ S4=>.nx ρ S4
theorem ag0 {o i v:Expr} {mo mi mv:ME} {tpos:Pos} (hv:PEp K cl E X v mv) (ho:PEp K cl E X o mo) (hi:PEp K cl E X i mi)
  (ha:∀ v,assign (.Subscript o i tpos) X.env v=(do
   let ov ← holding [v] (eval o X.env)
   let iv ← holding [v,ov] (eval i X.env)
   standAt tpos
   holding [v,ov,iv] (setItem ov iv v)
   release [v,ov,iv] []):=by intro _; rfl)
  (hs:swapsWithSole [.Subscript o i tpos] v pos.line X.env=pure false:=by rfl) (hw:swappedStores [.Subscript o i tpos] v X.env=pure none:=by rfl)
  (h1:(assignEach [.Subscript o i tpos] X.env).map (·.2)=[assign (.Subscript o i tpos) X.env]:=by rfl):PSp K cl E X (.Assign [.Subscript o i tpos] v pos) (ahl mo mi mv):=by
 intro hK
 subst hK
 refine PS.imp (alc (hv rfl) (ake (ho rfl) (hi rfl) aia ha) hs hw h1) fun D σ H ⟨p,S,ρ,s,ev,h⟩=>?_
 refine abV s ev h fun q H1 v x S1 st s1 e1 r1 h1=>?_
 refine abV s1 e1 h1 fun q2 H2 k y S2 st2 s2 e2 r2 h2=>?_
 refine abV s2 e2 h2 fun q3 H3 i z S3 st3 s3 e3 r3 h3=>?_
 cases k with
 | pv _=>exact h3.elim
 | ref k =>
  obtain ⟨a,ea,rfl⟩:=st3.repA r2
  have rv:=st3.repA (st2.repA r1)
  have h3:abr X.K cl q3 H3 (SRes.of (ahS k i v S3) fun _ S4=>.nx ρ S4) D E:=h3
  unfold ahS at h3
  split at h3
  ·rename_i ii vv _
   have ez:z=.int ii:=(show RepR X.K q3 H3 (.int ii) z from .inl r3).int
   subst ez
   cases w:S3[k]? with
   | none=>rw [w] at h3; exact h3.elim
   | some o =>
    cases o with
    | lol xss=>simp only [w] at h3; exact h3.elim
    | lst zs =>
     simp only [w] at h3
     obtain ⟨vs,hh,ll,rr⟩:=s3.obj k a _ ea w
     cases y:ixN zs.length ii with
     | none=>simp only [y] at h3; exact h3.elim
     | some j =>
      simp only [y] at h3
      refine ⟨a,vs,ii,j,rfl,rfl,hh,by rw [← rr.length]; exact y,?_⟩
      obtain ⟨st4,sm4⟩:=s3.write ea (List.getElem?_eq_some_iff.mp w).1 (ps:=zs.set j vv) (vs:=vs.set j x) (by rw [List.length_set]; exact ll) (Reps.set rv j rr)
      exact h3 _ _ _ st4 sm4 (st4.repE e3)
  ·exact h3.elim
def zipP:List PV→List PV→List PV
 | x :: xs,y :: ys=>.tup [x,y] :: zipP xs ys
 | _,_=>[]
def alJ:List AV→Sto→Res (List PV × Gd)
 | [a,b],S=>match adq a S with
  | .ok xs _=>match adq b S with
   | .ok ys _=>.ok (zipP xs.1 ys.1,xs.2++ys.2) S
   | _=>.fail
  | _=>.fail
 | _,_=>.fail
def acG:Nat→List PV→List PV
 | _,[]=>[]
 | n,x :: xs=>.tup [.int n,x] :: acG (n+1) xs
theorem adr:∀ (n:Nat) (xs:List PV),(acG n xs).length=xs.length
 | _,[]=>rfl
 | n,x :: xs=>by
  unfold acG
  rw [List.length_cons,adr (n+1) xs,List.length_cons]
theorem ae4:∀ {n:Nat} {xs:List PV} {i:Nat} {v:PV},(acG n xs)[i]?=some v→∃ x,xs[i]?=some x∧v=.tup [.int ((n+i:Nat):Int),x]
 | n,[],i,v,e=>by simp [acG] at e
 | n,x :: xs,0,v,e=>by
  unfold acG at e
  simp at e
  exact ⟨x,rfl,e.symm⟩
 | n,x :: xs,i+1,v,e=>by
  unfold acG at e
  obtain ⟨y,h1,h2⟩:=ae4 (n:=n+1) (xs:=xs) (i:=i) (v:=v) (by simpa using e)
  refine ⟨y,by simpa using h1,?_⟩
  rw [h2,show n+1+i=n+(i+1) by omega]
def agQ:List AV→Sto→Res (List PV × Gd)
 | [.pv (.lst xs)],S=>.ok (acG 0 xs,[]) S
 | [.ref k],S=>match adq (.ref k) S with
  | .ok xs _=>.ok (acG 0 xs.1,xs.2) S
  | _=>.fail
 | _,_=>.fail
def ajN (ms:MA):MI:=fun ρ S=>(ms ρ S).bind agQ
theorem aiI {xs:List PV} {G:Gd} {a:Addr} (z:xs.length≤sizeLine) (st1:∀ q H1 S1,Step p H q H1→Sim K q S1 H1→gOk G S1→∃ vs,SqL K H1 a vs∧Reps K q.c H1 xs vs):ItOk K p H (acG 0 xs,G) (Ite K a):=by
 refine ⟨by rw [adr]; exact z,fun q3 H3 S3 st3 sm3 g3=>?_⟩
 obtain ⟨ws1,w1,rr1⟩:=st1 q3 H3 S3 st3 sm3 g3
 refine ⟨fun i v e=>?_,?_⟩
 ·obtain ⟨x,ex,rfl⟩:=ae4 e
  obtain ⟨x',ex',rx⟩:=rr1.get ex
  refine ⟨⟨ws1,x',w1,ex'⟩,fun z H4 hz=>?_⟩
  obtain ⟨t,y2,ht,rfl,rfl,g1⟩:=hz
  have e1:=(g1 ws1 w1).symm.trans ex'
  cases e1
  refine ⟨aa3 ht,acF sm3 (.cons ?_ (.cons rx .nil)) (by show 2≤sizeLine; decide) ht⟩
  rw [Nat.zero_add]
  exact aa5 (v:=.int _) rfl
 ·refine ⟨ws1,w1,?_⟩
  show _≤(acG 0 xs).length
  rw [adr,rr1.length]
  exact Nat.le_refl _
theorem ahV {elts:List Expr} {x1:Nat} {tp p:Pos} (hg:Gl X "enumerate") (hm:X.mg "enumerate"=none) (hl:PAp K cl E X [l] ms) (hs:starEach [l] X.env=[(false,eval l X.env)]:=by rfl) :
  PIp K cl E X (.Tuple elts x1 tp) (.Call (.Name "enumerate" p) [l] [] pos) (ajN ms):=by
 intro hK
 subst hK
 refine PI.imp (ajn hg hm (hl rfl) hs) fun σ H R ⟨p,S,ρ,s,ev,h⟩=>?_
 refine aar s ev h fun q H' as xs S' stp sm ev r k=>?_
 unfold agQ at k
 split at k
 ·rename_i ys
  cases r with
  | cons r1 r2 =>
   cases r2
   rename_i x
   have r1:Rep X.K q.c H' (.lst ys) x:=r1
   unfold Rep at r1
   obtain ⟨a,vs,rfl,l,z,r⟩:=r1
   exact ⟨a,rfl,⟨vs,l.sq⟩,aaJ.ret (R:=ItOk X.K) k sm (aiI (by rw [r.length]; exact z) fun q H1 S1 st sm g=>⟨vs,(st.lat l).sq,st.reps r⟩)⟩
 ·rename_i j
  cases r with
  | cons r1 r2 =>
   cases r2
   split at k
   ·rename_i xs1 S1 hx
    obtain ⟨a,e1,rfl⟩:=r1
    cases z:S'[j]? with
    | none=>unfold adq at hx; simp only [z] at hx; cases hx
    | some o =>
     cases o with
     | lol xss=>unfold adq at hx; simp only [z] at hx; cases hx
     | lst ys =>
      unfold adq at hx
      simp only [z] at hx
      cases hx
      obtain ⟨vs,h1,l1,r1⟩:=sm.obj j a _ e1 z
      refine ⟨a,rfl,⟨vs,SqL.of h1⟩,aaJ.ret (R:=ItOk X.K) k sm (aiI (by rw [r1.length]; exact l1) fun q H1 S1 st sm g=>?_)⟩
      obtain ⟨ws,h2,l2,r2⟩:=sm.obj j a _ (st.at_ e1) (g (j,ys) List.mem_cons_self)
      exact ⟨ws,SqL.of h2,r2⟩
   ·exact k.elim
 ·exact k.elim
end
end L2.Pp
namespace L2.Pp
open PySem PySem.Spec PyProof.Rows Bn
theorem hu8 {A:Around} {k:Nat} (hr:Room k A):A.units+8 < cLine:=by
 have:=hr.units
 omega
section
variable {K:PySem.W.Frag} {cl:Str→Addr} {E:XK} {X:Cx} {a b c e l tg:Expr} {es:List Expr} {m ma mb:ME} {ms:MA} {pos:Pos} {p q:Ph} {H H':Hp} {S:Sto}
def fIsi (n:String):PV→Option PV
 | .int _=>if n="int" then some (.bl true) else if n="bool" then some (.bl false) else none
 | .tup _=>if n="tuple" then some (.bl true) else none
 | .lst _=>if n="list" then some (.bl true) else none
 | .str _=>if n="str" then some (.bl true) else none
 | .bl _=>if n="bool" then some (.bl true) else none
 | _=>none
theorem acM (K:PySem.W.Frag) (n:String):PySem.W.kitOne K (.type n) (.type n)=some true:=by
 unfold PySem.W.kitOne
 rw [if_pos (beq_self_eq_true _)]
def rIsi (K:PySem.W.Frag) (n:String):V→Hp→VK→Prop:=fun x H Q=>(∃ t b,TyOf K H x t∧PySem.W.kitOne K t (.type n)=some b∧Q (.bl b) H)∨(n="tuple"∧∃ a xs,x=.ref a∧SqT K H a xs∧Q (.bl true) H)∨(n="list"∧∃ a xs,x=.ref a∧SqL K H a xs∧Q (.bl true) H)
theorem agZ (n:String):ac4 X (.builtin "isinstance") (fun xs H Q=>∃ x,xs=[x,.ty n]∧rIsi X.K n x H Q):=by
 intro pins s σ H xs us Q I r h
 obtain ⟨x,rfl,h⟩:=h
 obtain ⟨u,c,rfl,rx,rc⟩:=akU r
 cases (show c=Value.type n from rc)
 rcases h with ⟨t,b,ty,e,q⟩ | ⟨rfl,a,xs,rfl,t,q⟩ | ⟨rfl,a,xs,rfl,t,q⟩
 ·exact ahr I rx ty e fun tk=>⟨.bl b,H,I.tok tk,rfl,q⟩
 ·cases rx
  obtain ⟨its,_,⟨o,h1,h2,_⟩,_⟩:=I.tuple t
  exact PySem.W.kia_one PySem.W.kitx_tuple I.kIn ⟨o,h1,h2⟩ (acM X.K "tuple") (fun z=>nomatch z) fun tk=>⟨.bl true,H,I.tok tk,rfl,q⟩
 ·cases rx
  obtain ⟨its,_,pl,_⟩:=I.list t
  obtain ⟨o,h1,h2,_⟩:=pl.isList
  exact PySem.W.kia_one PySem.W.kitx_list I.kIn ⟨o,h1,h2⟩ (acM X.K "list") (fun z=>nomatch z) fun tk=>⟨.bl true,H,I.tok tk,rfl,q⟩
theorem alC (n:String):UnS K (rIsi K n) (fIsi n):=fun {p S H a c x Q} s ra e k=>by
 have fin:∀ b,c=.bl b→Q (.bl b) H:=fun b h=>by
  subst h
  exact k H _ (Same.refl H) (by unfold Rep; rfl)
 cases a with
 | int i =>
  cases ra.int
  unfold fIsi at e
  dsimp only at e
  split at e
  ·rename_i hn
   cases e
   subst hn
   exact .inl ⟨_,true,.int i,acM K _,fin _ rfl⟩
  ·split at e
   ·rename_i hn
    cases e
    subst hn
    exact .inl ⟨_,false,.int i,ak4 K,fin _ rfl⟩
   ·cases e
 | bl i =>
  cases ra.bl
  unfold fIsi at e
  dsimp only at e
  split at e
  ·rename_i hn
   cases e
   subst hn
   exact .inl ⟨_,true,.bl i,acM K _,fin _ rfl⟩
  ·cases e
 | str i =>
  cases ra.str
  unfold fIsi at e
  dsimp only at e
  split at e
  ·rename_i hn
   cases e
   subst hn
   exact .inl ⟨_,true,.str i,acM K _,fin _ rfl⟩
  ·cases e
 | tup xs =>
  obtain ⟨a,vs,rfl,t,_,_⟩:=ra.tup
  unfold fIsi at e
  dsimp only at e
  split at e
  ·rename_i hn
   cases e
   exact .inr (.inl ⟨hn,a,vs,rfl,t,fin _ rfl⟩)
  ·cases e
 | lst xs =>
  obtain ⟨a,vs,rfl,t,_,_⟩:=ra.lst
  unfold fIsi at e
  dsimp only at e
  split at e
  ·rename_i hn
   cases e
   exact .inr (.inr ⟨hn,a,vs,rfl,t,fin _ rfl⟩)
  ·cases e
 | non=>cases e
theorem ahD {n:String} {t:Str} {p p2:Pos} (hg:Gl X "isinstance") (hm:X.mg "isinstance"=none) (hgt:Gl X t) (hmt:X.mg t=none) (hv:bootBuiltins t=some (.type n)) (ha:PEp K cl E X a m)
  (htn:t≠"__name__":=by decide) (htd:(t == ("__debug__":Str))=false:=by decide)
  (he:starEach [a,.Name t p2] X.env=(false,eval a X.env) :: starEach [.Name t p2] X.env:=by rfl) (he2:starEach [.Name t p2] X.env=[(false,eval (.Name t p2) X.env)]:=by rfl) (hpl:(backTo pos (starEach [.Name t p2] X.env)).any (·.1)=false:=by rfl) :
  PEp K cl E X (.Call (.Name "isinstance" p) [a,.Name t p2] [] pos) (mUn (fIsi n) m):=by
 intro hK
 subst hK
 refine PE.imp (acK (agZ n) hg hm PyProof.Rows.boot_isinstance (abq (ha rfl) (abq (agY hgt hmt hv (v:=.ty n) rfl htn htd) adI he2) he) (by decide) (by decide) he hpl) fun σ H Q ⟨p,S,ρ,s,ev,h⟩=>?_
 exact aar s ev h fun q H' as x S' stp sm ev r k=>⟨x,rfl,acH (alC n) sm r k⟩
def fIsN:PV→Option PV
 | .non=>some (.bl true)
 | _=>some (.bl false)
def ah6 (K:PySem.W.Frag):Sp:=fun vs H Q _=>∃ (a:Addr) (ns:List Int),vs=[.ref a]∧SqL K H a (ns.map V.int)∧ns.length≤63∧∀ H',Q (.bl true) H'
theorem aiR {f:FM} (ht:∀ ns:List Int,ns.length≤63→∃ S,f [.pv (.lst (ns.map .int))] []=.ok (.pv (.bl true)) S) {vs:List V} {H:Hp} {Q:VK} {E:XK} (h:ah6 K vs H Q E):spP0 K cl f vs H Q E:=by
 obtain ⟨a,ns,rfl,hS,hl,hQ⟩:=h
 obtain ⟨S,e⟩:=ht ns hl
 have rs:∀ (ns:List Int),Reps K (fun _=>False) H (ns.map .int) (ns.map V.int):=fun ns=>by
  induction ns with
  | nil=>exact .nil
  | cons n ns ih=>exact .cons (by unfold Rep; rfl) ih
 refine ⟨⟨[],fun _=>False,fun _=>False⟩,[],[.pv (.lst (ns.map .int))],⟨List.nodup_nil,rfl,(fun _ h=>absurd h (List.not_mem_nil)),(fun _ h=>h),(fun _ h=>h.elim),(fun k a o e=>by simp at e)⟩,.cons ?_ .nil,?_⟩
 ·show Rep K (fun _=>False) H (.lst (ns.map .int)) (.ref a)
  unfold Rep
  refine ⟨a,_,rfl,?_,?_,rs ns⟩
  ·rcases hS with (h | h) | h
   ·exact .inl ⟨h,fun z=>z⟩
   ·exact .inr (.inl h)
   ·exact .inr (.inr h)
  ·rw [List.length_map,aaz]
   omega
 ·rw [e]
  intro q H' x st sm r
  have r:Rep K q.c H' (.bl true) x:=r
  unfold Rep at r
  rw [r]
  exact hQ H'
end
end L2.Pp
namespace L2.Pp
open PySem PySem.Spec PyProof.Rows Bn
section
variable {K:PySem.W.Frag} {cl:Str→Addr} {E:XK} {X:Cx} {e:Expr} {es:List Expr} {ms:MA} {p q:Ph} {H H':Hp} {S:Sto}
theorem RepE.forget {ρ:Rho} {σ:St} (h:RepE K p H ρ σ) (i:Nat) (x:Option V):RepE K p H (ρ.set i none) (σ.set i x):=by
 refine ⟨by rw [List.length_set,List.length_set,h.len],fun j u e=>?_⟩
 by_cases q:i=j
 ·subst q
  by_cases l:i < ρ.length
  ·rw [List.getElem?_set_self l] at e
   cases e
  ·rw [List.getElem?_eq_none (by rw [List.length_set]; omega)] at e
   cases e
 ·rw [List.getElem?_set_ne q] at e ⊢
  exact h.at_ j u e
variable {k:Nat} {f:Addr} {fd:FuncData} {ps:List Str} {g:FM} {dvs:List V} {ds:List Value} {dv:List PV} {x:Str} {pp pos pos1 pos2 pos3 pc:Pos} {c n:Str} {i nn:Nat} {b₀:Stmt} {body:List Stmt} {newId:String} {up:Rho→Rho}
end
end L2.Pp
namespace L2
open PySem PySem.Spec PyProof.Rows Bn
section
variable {X:Cx} {k:Nat} {f:Addr} {fd:FuncData} {ps:List Str} {sp:Sp} {dvs:List V} {ds:List Value} {x:Str} {p pos pos1 pos2 pos3 pc:Pos} {e:Expr} {es:List Expr} {t:TA} {c n:Str} {C:Addr} {i:Nat} {b₀:Stmt} {body:List Stmt} {newId:String}
end
end L2
namespace L2.Pp
open PySem PySem.Spec PyProof.Rows Bn
section
variable {K:PySem.W.Frag} {cl:Str→Addr} {E:XK} {X:Cx} {e:Expr} {es:List Expr} {ms:MA} {p q:Ph} {H H':Hp} {S:Sto}
variable {k:Nat} {f:Addr} {fd:FuncData} {ps:List Str} {g:FM} {dvs:List V} {ds:List Value} {dv:List PV} {x:Str} {pp pos pos1 pos2 pos3 pc:Pos} {c n:Str} {i nn:Nat} {b₀:Stmt} {body:List Stmt} {newId:String} {up:Rho→Rho}
end
end L2.Pp
namespace L2.Pp
open PySem
section
variable {prog:Program} {w:World} {A:Around} {E:Value→Shared→Prop} {s:Shared}
end
end L2.Pp
namespace L2
open PySem PyProof.Rows
end L2
namespace L2.Pp
open PySem
end L2.Pp
namespace L2
open PySem PySem.Spec PyProof.Rows Bn
section
variable {X:Cx}
end
end L2
namespace L2.Pp
open PySem PySem.Spec PyProof.Rows Bn
section
variable {K:PySem.W.Frag} {cl:Str→Addr} {E:XK} {X:Cx}
end
end L2.Pp
namespace L2.Pp
open PySem PySem.Spec PyProof.Rows Bn
section
variable {K:PySem.W.Frag} {cl:Str→Addr} {E:XK} {X:Cx} {p q:Ph} {H H':Hp} {S:Sto}
variable {sc:Scope} {own:List Str} {cap:List (Nat × Str)} {elt target iter:Expr} {pos:Pos} {mi:MI} {g:GM} {me:ME}
end
section
variable {K:PySem.W.Frag} {cl:Str→Addr} {E:XK} {X:Cx} {e:Expr} {m:ME} {pos p2:Pos}
end
end L2.Pp
namespace L2.Pp
open PySem PySem.Spec PyProof.Rows Bn
section
variable {K:PySem.W.Frag} {cl:Str→Addr} {E:XK} {X:Cx}
end
end L2.Pp
namespace L2
open PySem PySem.Spec PyProof.Rows Bn
open PySem.W (KasT kas_sort kas_ask KatLex KatGo KatTups kat_run kat_kind kat_lt kat_one kas_item kat_snds)
section
variable {prog:Program} {w:World} {A:Around} {E:Value→Shared→Prop} {s:Shared}
end
end L2
namespace L2.Pp
open PySem PySem.Spec PyProof.Rows Bn
open PySem.W (kas_sort)
section
variable {K:PySem.W.Frag}
end
end L2.Pp
namespace L2
open PySem.W (KasT kas_sort)
def r3 (a b c d e f:Bool):Bool:=(!(a && b) || c) && (!(d && e) || f)
end L2
namespace L2
open PySem.W (KasT kas_sort)
end L2
namespace L2
open PySem PySem.Spec PyProof.Rows Bn
end L2
namespace L2
open PySem PySem.Spec PyProof.Rows Bn
section
variable {M:Model} {A:Around} {E:Value→Shared→Prop} {s:Shared}
end
end L2
namespace L2
open PySem PySem.Spec PyProof.Rows Bn
section
variable {X:Cx} {sc:Scope} {own:List Str} {cap:List (Nat × Str)} {pins:List (Addr × Obj)} {σ:St} {H:Hp} {s:Shared} {elt target iter:Expr} {pos pos':Pos} {wi:TI} {g:TG} {te:TE} {Q:VK}
end
end L2
namespace L2.Pp
open PySem PySem.Spec PyProof.Rows Bn
section
variable {K:PySem.W.Frag} {cl:Str→Addr} {E:XK} {X:Cx} {p q:Ph} {H H':Hp} {S:Sto}
variable {sc:Scope} {own:List Str} {cap:List (Nat × Str)} {elt target iter:Expr} {pos:Pos} {mi:MI} {g:GM} {me:ME}
end
end L2.Pp
namespace L2.Pp
open PySem PySem.Spec PyProof.Rows Bn
section
variable {K:PySem.W.Frag} {cl:Str→Addr} {E:XK} {X:Cx} {a e:Expr} {m:ME} {ms:MA} {pos:Pos} {p q:Ph} {H H':Hp} {S:Sto}
end
section
variable {P:Program} {w:World} {K:PySem.W.Frag} {mg:Str→Option Value} {base:Heap} {cl:Str→Addr}
end
end L2.Pp
namespace L2.Pp
open PySem PySem.Spec PyProof.Rows Bn
end L2.Pp
namespace L2.Pp
open PySem PySem.Spec PyProof.Rows Bn
def Cal (P:Program) (w:World) (K:PySem.W.Frag) (mg:Str→Option Value) (base:Heap) (cl:Str→Addr) (x:Str) (k:Nat) (ps:List Str) (g:FM):Prop:=∃ (a:Addr) (d:FuncData),FnOk P w K mg base CX0 k a d ps (spP0 K cl g)∧acb K d ps []∧PySem.W.keepIn K (.ref a)=true∧mg x=some (.ref a)
section
variable {cl:Str→Addr} {E:XK} {X:Cx} {e:Expr} {es:List Expr} {ms:MA} {pos p:Pos} {k k0:Nat} {ps:List Str} {g:FM} {x:Str}
theorem aaX (C:Cal X.prog X.w X.K X.mg X.base cl x k ps g) (hr:Room k0 X.A) (hk:k≤k0) (hg:Gl X x) (ha:PAp X.K cl E X (e :: es) ms) (hdb:(x == ("__debug__":Str))=false:=by decide) (he:starEach (e :: es) X.env=(false,eval e X.env) :: starEach es X.env:=by rfl) (hpl:(backTo pos (starEach es X.env)).any (·.1)=false:=by rfl) :
  PEp X.K cl E X (.Call (.Name x p) (e :: es) [] pos) (aag g [] ms):=by
 obtain ⟨a,d,G,b,kk,n⟩:=C
 exact ahK G (hr.mono hk) hg n kk b .nil Dv.nil ha hdb he hpl
theorem alB (C:Cal X.prog X.w X.K X.mg X.base cl x k ps g) (hr:Room k0 X.A) (hk:k≤k0) (hg:Gl X x) (ha:PAp X.K cl E X (e :: es) ms) (hdb:(x == ("__debug__":Str))=false:=by decide) (he:starEach (e :: es) X.env=(false,eval e X.env) :: starEach es X.env:=by rfl) (hpl:(backTo pos (starEach es X.env)).any (·.1)=false:=by rfl) :
  PEp X.K cl E X (.Call (.Name x p) (e :: es) [] pos) (aa9 g [] ms):=by
 obtain ⟨a,d,G,b,kk,n⟩:=C
 exact ahO G (hr.mono hk) hg n kk b .nil Dv.nil ha hdb he hpl
end
end L2.Pp
namespace L2.Pp
open PySem PySem.Spec PyProof.Rows Bn
section
variable {X:Cx}
end
section
variable {K:PySem.W.Frag} {cl:Str→Addr} {E:XK} {X:Cx} {e:Expr} {m:ME} {pos:Pos}
end
end L2.Pp
namespace L2.Pp
open PySem PySem.Spec PyProof.Rows Bn
section
variable {K:PySem.W.Frag} {cl:Str→Addr} {E:XK} {X:Cx}
variable {a e:Expr} {m:ME} {ms:MA} {pos:Pos}
end
end L2.Pp
namespace L2.Pp
open PySem PySem.Spec PyProof.Rows Bn
section
variable {K:PySem.W.Frag} {cl:Str→Addr} {E:XK} {X:Cx}
end
end L2.Pp
namespace L2.Pp
open PySem PySem.Spec PyProof.Rows Bn
section
variable {K:PySem.W.Frag} {cl:Str→Addr} {E:XK} {X:Cx}
def GlT (K:PySem.W.Frag) (mg:Str→Option Value) (x:Str) (pv:PV):Prop:=∃ (u:Value) (v:V),mg x=some u∧RelV v u∧∀ c H,Rep K c H pv v
theorem ahG {x:Str} {pv:PV} {pos:Pos} (hg:Gl X x) (hm:GlT K X.mg x pv) (hd:(x == ("__debug__":Str))=false:=by decide):PEp K cl E X (.Name x pos) (mC pv):=fun _=>by
 obtain ⟨u,v,hm,r,hr⟩:=hm
 exact (afs hg hm r hd).imp fun σ H Q ⟨p,S,ρ,s,e,h⟩=>aaJ.ret (R:=RepA K) (x:=v) h s (hr p.c H)
theorem ai5 {i:Int}:∀ c H,Rep K c H (.int i) (.int i):=fun c H=>by
 unfold Rep
 rfl
end
end L2.Pp
namespace L2.Pp
open PySem PySem.Spec PyProof.Rows Bn
section
variable {K:PySem.W.Frag} {cl:Str→Addr} {E:XK} {X:Cx}
end
end L2.Pp
namespace L2.Pp
open PySem PySem.Spec PyProof.Rows Bn
section
variable {K:PySem.W.Frag} {cl:Str→Addr} {E:XK} {X:Cx}
variable {a e:Expr} {m:ME} {ms:MA} {pos:Pos}
end
end L2.Pp
namespace L2.Pp
open PySem PySem.Spec PyProof.Rows Bn
section
variable {M:Model} {A:Around} {E:Value→Shared→Prop} {s:Shared} {env:Env}
end
section
variable {prog:Program} {w:World} {A:Around} {R:Result→Shared→Prop} {s:Shared}
end
end L2.Pp
namespace L2
open PySem PySem.Spec PyProof.Rows Bn
section
variable {X:Cx} {pins:List (Addr × Obj)} {σ:St} {H H':Hp} {s s':Shared}
end
end L2
namespace L2
open PySem PySem.Spec PyProof.Rows Bn L2.Pp
section
variable {P:Program} {w:World} {K:PySem.W.Frag} {mg:Str→Option Value} {base:Heap} {N:List Str} {qual:Str} {scope:Scope} {f:Addr} {cd:Value} {A:Around} {outer:List Env} {s₀:Shared} {H₀:Hp} {E:XK}
end
end L2
namespace L2
open PySem PySem.Spec PyProof.Rows Bn L2.Pp
section
variable {P:Program} {w:World} {K:PySem.W.Frag} {mg:Str→Option Value} {base:Heap} {N:List Str} {qual:Str} {scope:Scope} {f:Addr} {cd:Value} {A:Around} {outer:List Env} {s₀:Shared} {H₀:Hp} {E:XK}
variable {sc:Scope} {own:List Str} {cap:List (Nat × Str)} {pins:List (Addr × Obj)} {σ:St} {H:Hp} {s:Shared} {elt target iter:Expr} {pos pos':Pos} {wi:TI} {g:TG} {te:TE} {Q:VK}
end
end L2
namespace L2.Pp
open PySem PySem.Spec PyProof.Rows Bn
section
variable {K:PySem.W.Frag} {cl:Str→Addr} {E:XK} {X:Cx} {p q:Ph} {H H':Hp} {S:Sto}
variable {sc:Scope} {own:List Str} {cap:List (Nat × Str)} {elt target iter:Expr} {pos:Pos} {mi:MI} {g:GM} {me:ME}
end
section
variable {P:Program} {w:World} {K:PySem.W.Frag} {mg:Str→Option Value} {base:Heap} {N:List Str} {qual:Str} {scope:Scope} {f:Addr} {cd:Value} {A:Around} {outer:List Env} {s₀:Shared} {H₀:Hp} {E:XK} {cl:Str→Addr}
variable {sc:Scope} {own:List Str} {cap:List (Nat × Str)} {elt target iter:Expr} {pos:Pos} {mi:MI} {g:GM} {me:ME} {wi:TI} {tg:TG} {te:TE}
end
section
variable {K:PySem.W.Frag} {cl:Str→Addr} {E:XK} {X:Cx} {e:Expr} {es:List Expr} {ms:MA} {pos p:Pos} {k n:Nat} {f:Addr} {fd:FuncData} {ps:List Str} {g:FM} {x:Str} {dvs:List V} {ds:List Value} {dv:List PV}
end
end L2.Pp
namespace L2.Pp
open PySem PySem.Spec PyProof.Rows Bn
section
variable {K:PySem.W.Frag} {cl:Str→Addr} {E:XK} {X:Cx}
end
end L2.Pp
namespace L2.Pp
open PySem PySem.Spec PyProof.Rows Bn
section
variable {K:PySem.W.Frag} {cl:Str→Addr} {E:XK} {X:Cx} {a b e:Expr} {m:ME} {ms:MA} {pos:Pos}
theorem aiO:bootBuiltins "str"=some (.type "str"):=by decide +kernel
theorem repS {c:Addr→Prop} {H:Hp} (x:Str):Rep K c H (.str x) (.str x):=by
 unfold Rep
 rfl
def abp:PV→PV→Option PV
 | .str x,.str y=>if x.length+y.length≤16777216 then some (.str (x++y)) else none
 | _,_=>none
theorem acz:OpS K (fun x y H Q=>∃ i j,x=.str i∧y=.str j∧i.length+j.length≤sizeLine∧Q (.str (i++j)) H) abp:=fun {p S H a b c x y Q} s ra rb e k=>by
 unfold abp at e
 split at e
 ·split at e
  ·rename_i h
   cases e
   rw [← aaz] at h
   exact ⟨_,_,ra.str,rb.str,h,k H _ (Same.refl H) (repS _)⟩
  ·cases e
 ·cases e
def hasS (y x:Str):Bool:=!(Builtin.Str.occurrences y x 0 y.length 1).isEmpty
def fInS:PV→PV→Option PV
 | .str x,.str y=>some (.bl (hasS y x))
 | _,_=>none
theorem akN:OpS K (fun x y H Q=>∃ i j,x=.str i∧y=.str j∧Q (.bl (!(Builtin.Str.occurrences j i 0 j.length 1).isEmpty)) H) fInS:=fun {p S H a b c x y Q} s ra rb e k=>by
 unfold fInS at e
 split at e
 ·cases e
  exact ⟨_,_,ra.str,rb.str,k H _ (Same.refl H) (aa5 (v:=.bl _) rfl)⟩
 ·cases e
def abY:List PV→Option PV
 | [.str x]=>if x.length≤16777216 then some (.int x.length) else none
 | _=>none
theorem ad1:CaR K (fun xs H Q=>∃ z,xs=[.str z]∧z.length≤sizeLine∧Q (.int z.length) H) abY:=fun {p S H as c xs Q} s ra e k=>by
 unfold abY at e
 split at e
 ·rename_i x
  split at e
  ·rename_i h
   cases e
   rw [← aaz] at h
   cases ra with
   | cons h1 t =>
    cases t
    exact ⟨x,by rw [h1.str],h,k H _ (Same.refl H) (aa5 (v:=.int _) rfl)⟩
  ·cases e
 ·cases e
def fStr:List PV→Option PV
 | [.int i]=>if i.natAbs.log2 < 1920 then some (.str (toString i)) else none
 | _=>none
theorem akM:CaR K (fun xs H Q=>∃ i,xs=[.int i]∧i.natAbs.log2 < 1920∧Q (.str (toString i)) H) fStr:=fun {p S H as c xs Q} s ra e k=>by
 unfold fStr at e
 split at e
 ·rename_i x
  split at e
  ·rename_i h
   cases e
   cases ra with
   | cons h1 t =>
    cases t
    exact ⟨x,by rw [h1.int],h,k H _ (Same.refl H) (repS _)⟩
  ·cases e
 ·cases e
theorem abE:ac4 X (.type "int") (fun xs H Q=>∃ x n,xs=[.str x]∧PySem.intText? x=some n∧x.length≤640∧Q (.int n) H):=by
 intro pins s σ H xs us Q I r h
 obtain ⟨x,n,rfl,hn,hl,q⟩:=h
 obtain ⟨u,rfl,t,rfl⟩:=ada r
 exact PySem.W.KIN.call_text hn hl ⟨.int n,H,I.tok _,⟨_,rfl⟩,q⟩
def acV:List PV→Option PV
 | [.str x]=>if x.length≤640 then (PySem.intText? x).map .int else none
 | _=>none
theorem af5:CaR K (fun xs H Q=>∃ x n,xs=[.str x]∧PySem.intText? x=some n∧x.length≤640∧Q (.int n) H) acV:=fun {p S H as c xs Q} s ra e k=>by
 unfold acV at e
 split at e
 ·rename_i x
  split at e
  ·rename_i h
   cases z:PySem.intText? x with
   | none=>rw [z] at e; cases e
   | some n =>
    rw [z] at e
    cases e
    cases ra with
    | cons h1 t =>
     cases t
     exact ⟨x,n,by rw [h1.str],z,h,k H _ (Same.refl H) (aa5 (v:=.int _) rfl)⟩
  ·cases e
 ·cases e
theorem agd {h:Heap} {sl:Addr} {vl vu:Value} {lo hi:Option Int} (hs:h.IsSliceOf sl vl vu .none) (pl:IsPart vl lo) (pu:IsPart vu hi):∃ l u:Option (Int × Tok),h.IsSlice sl l u none∧l.map (·.1)=lo∧u.map (·.1)=hi:=by
 obtain ⟨o,e,c,d⟩:=hs
 cases pl with
 | none =>
  cases pu with
  | none=>exact ⟨none,none,⟨o,e,c,d⟩,rfl,rfl⟩
  | int j u=>exact ⟨none,some (j,u),⟨o,e,c,d⟩,rfl,rfl⟩
 | int i t =>
  cases pu with
  | none=>exact ⟨some (i,t),none,⟨o,e,c,d⟩,rfl,rfl⟩
  | int j u=>exact ⟨some (i,t),some (j,u),⟨o,e,c,d⟩,rfl,rfl⟩
theorem alb:SlR X (fun x lo hi H Q=>∃ z,x=.str z∧z.length≤sizeLine∧Q (.str (Txt.slice z lo hi)) H):=by
 intro pins s σ H x v vl vu lo hi sl Q I rx hs pl pu h
 obtain ⟨z,rfl,hz,q⟩:=h
 obtain ⟨t,rfl⟩:=rx
 obtain ⟨l,u,hs,rfl,rfl⟩:=agd hs pl pu
 refine ⟨"str",_,PySem.F.slot_str_getitem.lookup,typeIs_str _ _ _,?_⟩
 exact wpAny_getItem_str_slice hs rfl (post_val_or_str ⟨Nat.le_trans (Txt.slice_le z _ _) hz,fun t' k=>⟨.str _,H,I.tok _,⟨_,rfl⟩,q⟩⟩)
def fSlS (v:PV) (lo hi:Option Int):Option PV:=match v with
 | .str x=>if x.length≤16777216 then some (.str (Txt.slice x lo hi)) else none
 | _=>none
def mSlS (m:ME) (ml mh:MO):ME:=fun ρ S=>(m ρ S).bind fun v S1=>(ml ρ S1).bind fun lo S2=>(mh ρ S2).bind fun hi S3=>okO ((rd S3 v).bind fun x=>fSlS x lo hi) S3
theorem ach {lo hi:Option Expr} {ml mh:MO} {p2:Pos} (he:PEp K cl E X e m) (hl:POp K cl E X lo ml) (hu:POp K cl E X hi mh):PEp K cl E X (.Subscript e (.Slice lo hi none p2) pos) (mSlS m ml mh):=by
 intro hK
 subst hK
 refine (afF alb (he rfl) (hl rfl) (hu rfl)).imp fun σ H Q ⟨p,S,ρ,s,e,h⟩=>?_
 refine aar s e h fun q H1 a x S1 st s1 e1 r1 h1=>aar s1 e1 h1 fun q2 H2 lo lo' S2 st2 s2 e2 r2 h2=>aar s2 e2 h2 fun q3 H3 hi hi' S3 st3 s3 e3 r3 h3=>?_
 cases r2
 cases r3
 have ra:=st3.repA (st2.repA r1)
 obtain ⟨c,ec,k⟩:=acE s3 h3
 cases z:rd S3 a with
 | none=>rw [z] at ec; cases ec
 | some v =>
  rw [z] at ec
  have rv:=ad6 s3 ra z
  cases v with
  | str w =>
   have ec:(if w.length≤16777216 then some (PV.str (Txt.slice w lo hi)) else none)=some c:=ec
   split at ec
   ·rename_i hw
    cases ec
    rw [← aaz] at hw
    exact ⟨w,rv.str,hw,k _ _ (Same.refl _) (repS _)⟩
   ·cases ec
  | _=>cases ec
def MtS (X:Cx) (id:String) (f:Str→List PV→Option PV):Prop :=
 ∀ (pins:List (Addr × Obj)) (s:Shared) (σ:St) (H:Hp) (x:Str) (t:Tok) (as:List PV) (xs:List V) (us:List Value) (c:PV) (Q:VK),Inv X pins σ H s→Vals xs us→(∃ p:Ph,Reps X.K p.c H as xs)→f x as=some c →
  (∀ H' z,Same H H'→(∀ (p:Ph) S,Sim X.K p S H→Reps X.K p.c H as xs→Rep X.K p.c H' c z)→Q z H')→wpAny (model X.prog X.w) X.A (call (.builtin id) (.str x t :: us)) (EP X pins σ Q) X.xe s
def strR {α:Type} (k:AV) (f:Str→Res α):Res α:=match k with
 | .pv (.str x)=>f x
 | _=>.fail
def mMet (f:Str→List PV→Option PV) (m:ME) (ms:MA):ME:=fun ρ S=>(m ρ S).bind fun k S1=>strR k fun x=>(ms ρ S1).bind fun ys S2=>okO ((abm ys).bind (f x)) S2
theorem afV {name:Str} {id:String} {f:Str→List PV→Option PV} {es:List Expr} {apos cpos:Pos} (slot:Slot "str" name id) (hty:typeOf (.builtin id)=pure (.type "method_descriptor")) (hm:MtS X id f) (ho:PEp K cl E X a m) (ha:PAp K cl E X (e :: es) ms) (hbase:attributeBase a name X.env (eval a X.env)=eval a X.env:=by rfl)
  (hfew:((backTo cpos (starEach (e :: es) X.env)).all (fun x=>!x.1) && (backToKw cpos (keywordEach [] X.env)).all (fun x=>x.1.isSome)
   && decide ((e :: es).length+([]:List Keyword).length+(if ([]:List Keyword).isEmpty then 0 else 1) < 30))=true:=by rfl)
  (hline:(apos.endLine == cpos.line)=true:=by rfl) (hs:starEach (e :: es) X.env=(false,eval e X.env) :: starEach es X.env:=by rfl) (hplain:(backTo cpos (starEach es X.env)).any (·.1)=false:=by rfl) :
  PEp K cl E X (.Call (.Attribute a name apos) (e :: es) [] cpos) (mMet f m ms):=by
 intro hK
 subst hK
 refine PE.imp (ajx (r:=fun x xs H Q=>∃ (z:Str) (as:List PV) (c:PV),x=.str z∧(∃ p:Ph,Reps X.K p.c H as xs)∧f z as=some c∧∀ H' y,Same H H'→(∀ (p:Ph) S,Sim X.K p S H→Reps X.K p.c H as xs→Rep X.K p.c H' c y)→Q y H') PySem.F.plainAttrs_str slot hty (fun pins s σ H x xs v us Q I rx rs h=>?_) (ho rfl) (ha rfl) hbase hfew hline hs hplain) fun σ H Q ⟨p,S,ρ,s,ev,h⟩=>?_
 ·obtain ⟨z,as,c,rfl,hp,hf,k⟩:=h
  obtain ⟨t,rfl⟩:=rx
  exact hm pins s σ H z t as xs us c Q I rs hp hf k
 ·refine aar s ev h fun q H1 k x S1 st s1 e1 r1 h1=>?_
  unfold strR at h1
  split at h1
  ·rename_i z
   have ex:=(show RepR X.K q H1 (.str z) x from .inl r1).str
   subst ex
   refine ⟨rfl,aar s1 e1 h1 fun q2 H2 ys xs S2 st2 s2 e2 r2 h2=>?_⟩
   obtain ⟨c,ec,k⟩:=acE s2 h2
   cases y:abm ys with
   | none=>rw [y] at ec; cases ec
   | some as =>
    rw [y] at ec
    have rr:=acu y r2
    exact ⟨z,as,c,rfl,⟨q2,rr⟩,ec,fun H' w sm hr=>k H' w sm (hr q2 S2 s2 rr)⟩
  ·exact h1.elim
theorem aeo {c:PV} {H H':Hp} {as:List PV} {xs:List V} (h:age c=true):∀ (p:Ph) S,Sim K p S H→Reps K p.c H as xs→Rep K p.c H' c (toV c):=fun p S _ _=>aa5 h
theorem afu {c:Addr→Prop} {H:Hp} {y:Str} {xs:List V} (r:Reps K c H [.str y] xs):xs=[.str y]:=by
 unfold Reps at r
 obtain ⟨v,r1,rfl,h,t⟩:=r
 unfold Reps at t
 subst t
 unfold Rep at h
 rw [h]
theorem ai9 {c:Addr→Prop} {H:Hp} {y:Int} {xs:List V} (r:Reps K c H [.int y] xs):xs=[.int y]:=by
 unfold Reps at r
 obtain ⟨v,r1,rfl,h,t⟩:=r
 unfold Reps at t
 subst t
 unfold Rep at h
 rw [h]
def abU (x:Str):List PV→Option PV
 | [.str y]=>some (.bl (Txt.startswith x y))
 | _=>none
theorem ahB:MtS X "str.startswith" abU:=by
 intro pins s σ H x t as xs us c Q I rs ⟨p,rp⟩ hf k
 unfold abU at hf
 split at hf
 ·rename_i y
  cases hf
  rw [afu rp] at rs
  obtain ⟨u,rfl,t',rfl⟩:=ada rs
  exact SC.startswith ⟨.bl _,H,I,rfl,k H _ (Same.refl H) (aeo (c:=.bl _) rfl)⟩
 ·cases hf
def afq (x:Str):List PV→Option PV
 | [.str y]=>some (.int (Txt.find x y))
 | _=>none
theorem aiP:MtS X "str.find" afq:=by
 intro pins s σ H x t as xs us c Q I rs ⟨p,rp⟩ hf k
 unfold afq at hf
 split at hf
 ·rename_i y
  cases hf
  rw [afu rp] at rs
  obtain ⟨u,rfl,t',rfl⟩:=ada rs
  exact SC.find ⟨.int _,H,I.tok _,⟨_,rfl⟩,k H _ (Same.refl H) (aeo (c:=.int _) rfl)⟩
 ·cases hf
def afc (x:Str):List PV→Option PV
 | [.int i]=>if PadOk i=true then some (.str (Txt.zfill x i)) else none
 | _=>none
theorem ait:MtS X "str.zfill" afc:=by
 intro pins s σ H x t as xs us c Q I rs ⟨p,rp⟩ hf k
 unfold afc at hf
 split at hf
 ·rename_i y
  split at hf
  ·rename_i hp
   cases hf
   rw [ai9 rp] at rs
   obtain ⟨u,rfl,t',rfl⟩:=ada rs
   exact SC.zfill hp fun t' k'=>⟨.str _,H,I.tok _,⟨_,rfl⟩,k H _ (Same.refl H) (aeo (c:=.str _) rfl)⟩
  ·cases hf
 ·cases hf
theorem aeS:∀ l:List (Str × Tok),Vals (l.map fun p=>V.str p.1) (strValues l)
 | []=>.nil
 | p :: l=>.cons ⟨p.2,rfl⟩ (aeS l)
theorem ae3 {c:Addr→Prop} {H:Hp}:∀ l:List Str,Reps K c H (l.map PV.str) (l.map V.str)
 | []=>.nil
 | x :: l=>.cons (repS x) (ae3 l)
def aci (x:Str):List PV→Option PV
 | [.str y]=>if y.length≠0∧x.length+2≤16777216 then some (.lst ((Txt.split x y).map .str)) else none
 | _=>none
theorem agF (x y:Str):(Txt.split x y).length≤x.length+2:=by
 unfold Txt.split
 split
 ·simp
 ·split
  ·simp
  ·have e1:=StrLaws.occ_length_le x y 0 x.length (x.length+1)
   rw [PySem.length_partsBetween]
   omega
theorem ain:MtS X "str.split" aci:=by
 intro pins s σ H x t as xs us c Q I rs ⟨p,rp⟩ hf k
 unfold aci at hf
 split at hf
 ·rename_i y
  split at hf
  ·rename_i hp
   cases hf
   rw [afu rp] at rs
   obtain ⟨u,rfl,t',rfl⟩:=ada rs
   have hl:=agF x y
   have hz:((Txt.split x y).map V.str).length≤sizeLine:=by rw [List.length_map,aaz]; omega
   have hn:(Builtin.Str.partsBetween x (Builtin.Str.occurrences x y 0 x.length (x.length+1)) y.length).length≤sizeLine:=by
    have e1:=StrLaws.occ_length_le x y 0 x.length (x.length+1)
    rw [PySem.length_partsBetween,aaz]; omega
   have fin:∀ (l:List (Str × Tok)) (n:Nat) (h':Heap) (tk:Nat),l.map (·.1)=Txt.split x y→h'=s.heap.push { cls:=.type "list",data:=.seq (strValues l).toArray }→EP X pins σ Q (.ref s.heap.objs.size) { s with heap:=h',toks:=tk }:=fun l n h' tk el eh=>by
    have ev:(Txt.split x y).map V.str=l.map fun p=>V.str p.1:=by rw [← el,List.map_map]; rfl
    subst eh
    refine ⟨.ref s.heap.objs.size,_,I.laid (o:=.lst ((Txt.split x y).map V.str)) (fun b ob q=>Heap.get?_push_of_some _ q) (Nat.le_refl _) ⟨hz,_,0,by rw [ev]; exact aeS l,Heap.get?_push_size _ rfl⟩,rfl,?_⟩
    have hnone:=I.hok.fresh (Nat.le_refl s.heap.objs.size)
    refine k _ _ (aa3 hnone) fun p S sm _=>?_
    exact aep sm (ae3 _) hz hnone
   cases h1:(decide (x.length < y.length) || decide (Builtin.Str.strKind x < Builtin.Str.strKind y))
   ·cases hf:(Builtin.Str.occurrences x y 0 x.length (x.length+1)).isEmpty
    ·refine call_meets PySem.F.slot_str_split (typeIs_str _ _ _) PySem.F.entry_str_split (PySem.F.args_str_split_2 _ _) (meets_str_split_sep x y t t' h1 (by simpa using hp.1) hf (by rw [aaz]; omega) hn) ?_
     rw [strsFrom_eq]
     exact fin (numbered s.toks _) 0 _ _ ((numbered_texts _ _).trans ((if_neg (ne_true_of_eq_false h1)).trans (if_neg (ne_true_of_eq_false hf))).symm) rfl
    ·exact call_meets PySem.F.slot_str_split (typeIs_str _ _ _) PySem.F.entry_str_split (PySem.F.args_str_split_2 _ _) (meets_str_split_not_found x y t t' h1 (by simpa using hp.1) hf)
      (fin [(x,t)] 0 _ s.toks ((if_neg (ne_true_of_eq_false h1)).trans (if_pos hf)).symm rfl)
   ·exact call_meets PySem.F.slot_str_split (typeIs_str _ _ _) PySem.F.entry_str_split (PySem.F.args_str_split_2 _ _) (meets_str_split_cannot_occur x y t t' h1)
     (fin [(x,t)] 0 _ s.toks (if_pos h1).symm rfl)
  ·cases hf
 ·cases hf
end
end L2.Pp
namespace L2
open PySem PySem.Spec PyProof.Rows Bn
def Itx (x:Str):It:=⟨fun i _=>i < x.cps.size,fun i H v H'=>H'=H∧∃ c,x.cps[i]?=some c∧v=.str ⟨#[c]⟩,fun i _=>x.cps.size≤i⟩
theorem ah0 {P:Program} {w:World} {K:PySem.W.Frag} {tg:Expr} (x:Str) (t:Tok) (it:Addr):Turn P w K tg (Itx x) [it] it (fun i h=>h.IsStrIter it "str_ascii_iterator" x t i) where
 mem:=by simp
 obj:=fun i h st b hb=>by
  have e:b=it:=by simpa using hb
  subst e
  obtain ⟨o,e,c,d⟩:=st
  exact ⟨o,e,fun v z=>by rw [d] at z; cases z⟩
 keep:=fun i h h' st k=>by
  obtain ⟨o,e,c,d⟩:=st
  exact ⟨o,k it (by simp) o e,c,d⟩
 item:=by
  intro X hP hw hK hc i pins s σ H E I hf st hg
  subst hP hw hK
  have hg:i < x.cps.size:=hg
  obtain ⟨f0,f1,f2,f3,f4,f5⟩:=hf it (by simp)
  have hx:x.cps[i]?=some x.cps[i]:=Array.getElem?_eq_getElem hg
  refine wpAny_pyNext_ascii_item st hx fun h' st' sb=>?_
  have I1:Inv X pins σ H { s with heap:=h',toks:=s.toks+1 }:=I.turned (fun b o hb e=>(sb.2 b hb).trans e) f0 f1 f3 f4 f5
  obtain ⟨o,e,c,d⟩:=id st'
  exact ⟨_,rfl,ah2 (s:={ s with heap:=h',toks:=s.toks+1 }) e c d (by decide) ⟨.str ⟨#[x.cps[i]]⟩,H,I1,⟨_,rfl⟩,⟨rfl,_,hx,rfl⟩,st',fun b hb=>(hf b hb).1⟩⟩
 done:=by
  intro X hP hw hK hc i pins s σ H E I hf st hg
  subst hP hw hK
  have hg:x.cps.size≤i:=hg
  obtain ⟨f0,f1,f2,f3,f4,f5⟩:=hf it (by simp)
  exact wpAny_pyNext_ascii_end (I.ok.hd hc) st (Array.getElem?_eq_none hg) fun h' eb=>⟨rfl,I.turned (t':=s.toks) (fun b o hb e=>eb b o hb e) f0 f1 f3 f4 f5⟩
 self:=fun _ _ _ _ _ st h=>wpAny_pyIter_striter_ascii st h
def PEx (X:Cx) (e:Expr) (te:XK→TE):Prop :=
 ∀ (pins:List (Addr × Obj)) (s:Shared) (σ:St) (H:Hp) (Q:VK) (E:XK) (Ex:Value→Shared→Prop),Inv X pins σ H s→te E σ H Q →
  (∀ s1 H1 e' s',Inv X pins σ H1 s1→CX1 X.prog X.w X.stack H1 s1 E e' s'→Ex e' s')→wpAny (model X.prog X.w) X.A (eval e X.env) (EP X pins σ Q) Ex s
section
variable {X:Cx} {k:Nat} {f:Addr} {fd:FuncData} {ps:List Str} {sp:Sp} {dvs:List V} {ds:List Value} {x:Str} {p pos pos1 pos2 pos3 pc:Pos} {e a:Expr} {es:List Expr} {t:TA} {ta:TE} {te:XK→TE} {c n:Str} {C:Addr} {i:Nat} {b₀:Stmt} {body:List Stmt} {newId:String}
theorem ahN (hxe:X.xe=fun _ _=>False) (F:FnOk X.prog X.w X.K X.mg X.base (CX1 X.prog X.w) k f fd ps sp) (hr:Room k X.A) (hg:Gl X x) (hm:X.mg x=some (.ref f)) (hkp:PySem.W.keepIn X.K (.ref f)=true)
  (hb:acb X.K fd ps ds) (hd:Vals dvs ds) (ha:PA X (e :: es) t)
  (hdb:(x == ("__debug__":Str))=false:=by decide) (he:starEach (e :: es) X.env=(false,eval e X.env) :: starEach es X.env:=by rfl) (hpl:(backTo pos (starEach es X.env)).any (·.1)=false:=by rfl) :
  PEx X (.Call (.Name x p) (e :: es) [] pos) (fun E σ H Q=>t σ H fun vs H1=>sp (vs++dvs) H1 Q E) :=
 fun pins s σ H Q E Ex I h hx=>ah8 hxe F hr hg hm hkp hb hd ha I h hx hdb he hpl
theorem ahY {x1} (hxe:X.xe=fun _ _=>False) (ha:PE X a ta) (he:PEx X e te)
  (hs:starEach [a,e] X.env=[(false,eval a X.env),(false,eval e X.env)]:=by rfl) :
  PEx X (.Tuple [a,e] x1 pos) (fun E σ H Q=>ta σ H fun u H1=>te E σ H1 fun v H2=>∀ t,H2 t=none→Q (.ref t) (upd H2 t (.tup [u,v]))):=by
 intro pins s σ H Q E Ex I h hx
 refine wpAny_Tuple_spliced ?_
 rw [hs]
 show wpAny _ _ (spliced ((false,eval a X.env) :: [(false,eval e X.env)])) _ _ s
 refine Calls.spliced_cons (wpAny_mono (ha pins s σ H _ I h) (fun u s1 ⟨x,H1,I1,r1,q1⟩=>?_) fun _ _ z=>by rw [hxe] at z; exact z.elim)
 refine Calls.spliced_cons (wpAny_mono (he pins s1 σ H1 _ E Ex I1 q1 hx) (fun v s2 ⟨y,H2,I2,r2,q2⟩=>?_) fun _ _ z=>z)
 refine Calls.spliced_nil ⟨by show 2≤sizeLine; decide,?_⟩
 have hf:H2 s2.heap.objs.size=none:=I2.hok.fresh (Nat.le_refl _)
 refine ⟨.ref s2.heap.objs.size,upd H2 s2.heap.objs.size (.tup [x,y]),I2.laid (t':=s2.toks) (fun b u e=>Heap.get?_push_of_some _ e) (Nat.le_refl _) ?_,rfl,q2 _ hf⟩
 exact ⟨by show 2≤sizeLine; decide,[u,v],.cons r1 (.cons r2 .nil),⟨_,Heap.get?_push_size _ rfl,rfl,_,rfl⟩⟩
theorem aj4 {jv:Nat} {xv:Str} {posv:Pos} {ts:Addr→Obj→TS} (stk:X.stack=X.env :: X.outer) (hN:X.N.Nodup) (hi:X.N[i]?=some n) (hk:X.env.scope.names.lookup n=some .local)
  (hgc:Gl X c) (hmc:X.mg c=some (.ref C)) (hxC:PySem.W.excIn X.K C abz newId=true) (he:PEx X e te)
  (hjv:X.N[jv]?=some xv) (hxv:Loc X.env.scope xv) (hs:∀ y oe,oe.cls=.ref C→PSs (X.mk1 y [(y,oe)]) (b₀ :: body) (ts y oe))
  (hsw:swapsWith e (some (.Name xv posv)) pos1.line X.env=pure false:=by rfl)
  (hfv:X.fn xv=true∨X.env.scope.names.lookup xv=some .local:=by first | exact .inl rfl | exact .inr rfl | assumption)
  (hfr:X.env.frame=some X.env.locals:=by rfl)
  (hdc:(c == ("__debug__":Str))=false:=by decide) :
  PS X (.Try [.Assign [.Name xv posv] e pos1] [.ExceptHandler (some (.Name c pc)) (some n) (b₀ :: body) pos2] [] [] pos3)
   (fun D σ H=>te (fun cls _ H2=>cls=.ref C∧∀ y oe,oe.cls=.ref C→ts y oe { nx:=fun σ' H'=>D.nx (σ'.set i none) H',rt:=D.rt,bk:=fun σ' H'=>D.bk (σ'.set i none) H',ct:=fun σ' H'=>D.ct (σ'.set i none) H' } (σ.set i (some (.ref y))) H2) σ H (fun v H2=>D.nx (σ.set jv (some v)) H2)):=by
 intro pins s σ H D I h
 refine wpAny_Try_except (wpAny_execs_cons (wpAny_Assign_Name (wpAny_mono (he pins s σ H _ _ _ I h (fun s1 H1 e' s' I1 cx=>?_)) (fun v s1 q=>?_) fun e' s1 z=>z) hsw))
 rotate_left
 ·obtain ⟨v,H1,I1,rv,q⟩:=q
  exact act I1 hN hjv hxv rv (fun s2 I2=>wpAny_execs_nil (wpAny_execs_nil ⟨_,H1,I2,q⟩)) hfv
 obtain ⟨y,C',tt,B,H',rfl,os,bare,un,hok,fl,cov,hE⟩:=cx
 obtain ⟨hC',hts⟩:=hE
 cases hC'
 rw [stk] at fl
 have fr:∀ b∈frs X.stack,H' b=none:=fun b hb=>by
  obtain ⟨_,o,ho,hd⟩:=I1.stack.mem hb
  exact un.free b o ho (I1.stkFree b hb) (by intro z; cases z)
 have ff:X.A.frames=some (X.env :: X.outer):=by rw [I.ok.frames,stk]
 refine wpAny_looks_onW (base:=B) ff hfr fl fun h2 held up2=>?_
 refine wpAny_landsW (base:=B) held fun h3 fl3 up3=>?_
 have up:=agr up2 up3
 have I3:=I1.flown os bare un hok cov fr fl3.1 up
 refine wpAny_handleBy_cons ?_ (by intro z; cases z)
 refine codeAny_handlers_test (adB (X:=X.mk1 y []) (I3.mk1 y [] fun p hp=>nomatch hp) hgc hmc ?_ hdc)
 obtain ⟨bm,Nn,nm,qn,bs,hdct,sn,sub,ab,col,dd,k0,k1,k2,k3,k5,mN,hC,hNs,hni,T⟩:=ahs I.ok.mod.kin hxC
 obtain ⟨oe,vs,TT,oT,tts,hoe,⟨hcls,_⟩,hdat,_⟩:=fl3.2.2.2
 refine wpAny_excMatches_sub_self (I3.bk _ _ hC) hoe hcls (T.hasType (by decide)) ?_
 refine codeAny_handlers_suite_as (lands_againW (base:=B) fl3 fun h4 fl4 up4=>?_)
 have I4:=I1.flown os bare un hok cov fr fl4.1 (agr up up4)
 obtain ⟨oe,vs,TT,oT,tts,hoe,⟨hcls,_⟩,hdat,_⟩:=fl4.2.2.2
 have I5:Inv (X.mk1 y [(y,oe)]) pins σ H' _:=I4.mk1 y [(y,oe)] fun p hp=>by
  rw [List.mem_singleton] at hp
  subst hp
  have nfr:y ∉ frs X.stack:=fun z=>by
   obtain ⟨_,o,ho,hd⟩:=I4.stack.mem z
   have hoe':h4.get? y=some oe:=hoe
   have ho':h4.get? y=some o:=ho
   rw [hoe'] at ho'
   cases ho'
   exact hd vs hdat
  refine ⟨hoe,?_,?_,?_,fun v z=>?_⟩
  ·cases hq:H' y with
   | none=>rfl
   | some u =>
    obtain ⟨o2,g⟩:=(hok y u hq).has
    have:=cov y o2 g (.inl ⟨u,hq⟩)
    rw [fl4.2.1] at this
    cases this
  ·intro z
   refine nfr ?_
   rw [stk]
   exact List.mem_filterMap.mpr ⟨X.env,List.mem_cons_self,by rw [hfr]; exact congrArg some z.symm⟩
  ·intro z
   refine nfr ?_
   rw [stk]
   obtain ⟨env,hm,hq⟩:=List.mem_filterMap.mp z
   exact List.mem_filterMap.mpr ⟨env,List.mem_cons_of_mem _ hm,hq⟩
  ·have:oe.data=.cell v:=z
   rw [hdat] at this
   cases this
 refine act (X:=X.mk1 y [(y,oe)]) (v:=.ref y) I5 hN hi (.inl hk) rfl (fun s6 I6=>?_) (.inr hk)
 refine wpAny_mono (hs y oe hcls pins s6 _ H' _ I6 (hts y oe hcls)) (fun fl s7 q7=>?_) fun _ _ z=>False.elim z
 cases fl with
 | next=>obtain ⟨σ',H7,I7,q⟩:=q7; exact ab6 (I7.unmk1 I.ok) hN hi hk fun s8 I8=>⟨_,_,I8,q⟩
 | brk=>obtain ⟨σ',H7,I7,q⟩:=q7; exact ab6 (I7.unmk1 I.ok) hN hi hk fun s8 I8=>⟨_,_,I8,q⟩
 | cont=>obtain ⟨σ',H7,I7,q⟩:=q7; exact ab6 (I7.unmk1 I.ok) hN hi hk fun s8 I8=>⟨_,_,I8,q⟩
 | ret u=>obtain ⟨v,σ',H7,I7,r,q⟩:=q7; exact ab6 (I7.unmk1 I.ok) hN hi hk fun s8 I8=>⟨v,_,_,I8,r,q⟩
end
end L2
namespace L2.Pp
open PySem PySem.Spec PyProof.Rows Bn
section
variable {K:PySem.W.Frag} {cl:Str→Addr} {E:XK} {X:Cx} {a b c e:Expr} {m mc:ME} {ms:MA} {pos:Pos} {tg:Expr} {ma mb:ME}
def chs (x:Str):List PV:=x.cps.toList.map fun c=>.str ⟨#[c]⟩
def ahb:AV→Sto→Res (List PV × Gd)
 | .pv (.str x),S=>if x.cps.all (· < 128)=true∧x.length≤16777216 then .ok (chs x,[]) S else .fail
 | _,_=>.fail
def mItS (m:ME):MI:=fun ρ S=>(m ρ S).bind ahb
theorem akL {p:Ph} {H:Hp} {x:Str} (hz:x.length≤16777216):ItOk K p H (chs x,[]) (Itx x):=by
 have hl:(chs x).length=x.cps.size:=by unfold chs; rw [List.length_map,Array.length_toList]
 refine ⟨by show (chs x).length≤sizeLine; rw [hl,aaz]; exact hz,fun q H1 S1 st _ _=>⟨fun i v e=>?_,?_⟩⟩
 ·have e:(chs x)[i]?=some v:=e
  unfold chs at e
  rw [List.getElem?_map] at e
  cases z:x.cps.toList[i]? with
  | none=>rw [z] at e; cases e
  | some d =>
   rw [z] at e
   cases e
   have z:x.cps[i]?=some d:=by simpa using z
   refine ⟨(Array.getElem?_eq_some_iff.mp z).1,fun y H2 hy=>?_⟩
   obtain ⟨rfl,d',e1,rfl⟩:=hy
   rw [z] at e1
   cases e1
   exact ⟨Same.refl _,repS _⟩
 ·show x.cps.size≤(chs x).length
  rw [hl]
  exact Nat.le_refl _
theorem agB (h:PEp K cl E X e m):PIp K cl E X tg e (mItS m):=by
 intro hK
 subst hK
 intro pins s σ H R I hh
 obtain ⟨p,S,ρ,sm,ev,hh⟩:=hh
 have z:=h rfl pins s σ H (fun x H1=>∃ y,x=.str y∧y.cps.all (· < 128)=true∧R (Itx y) H1) I (aar sm ev hh fun q H' v x S' stp sm ev r k=>by
  unfold ahb at k
  split at k
  ·rename_i y
   split at k
   ·rename_i hy
    exact ⟨y,(show RepR X.K q H' (.str y) x from .inl r).str,hy.1,aaJ.ret (R:=ItOk X.K) k sm (akL hy.2)⟩
   ·exact k.elim
  ·exact k.elim)
 refine thn z fun v s1 ⟨x,H1,I1,r1,y,e,ha,q⟩=>?_
 subst e
 obtain ⟨t,rfl⟩:=r1
 refine wpAny_pyIter_ascii ha ?_
 refine ⟨s1.heap.objs.size,[s1.heap.objs.size],_,_,H1,rfl,I1.kept (t':=s1.toks) fun b o e=>Heap.get?_push_of_some _ e,ah0 y t _,⟨_,Heap.get?_push_size _ rfl,rfl,rfl⟩,fun b hb=>?_,q⟩
 have e:b=s1.heap.objs.size:=by simpa using hb
 subst e
 exact I1.fpOk (Nat.le_refl _) (I1.hok.fresh (Nat.le_refl _))
def adz (f f':PV→PV→Option PV) (ma mb mc:ME):ME:=fun ρ S=>(ma ρ S).bind fun x S1=>(mb ρ S1).bind fun y S2=>(aa6 f x y S2).bind fun z S3=>match z with
 | .pv (.bl true)=>(mc ρ S3).bind fun w S4=>aa6 f' y w S4
 | .pv (.bl false)=>.ok (.pv (.bl false)) S3
 | _=>.fail
theorem ahZ {op op':CmpOp} {r r':R2} {f f':PV→PV→Option PV} (ho:OpR X (compareOp op) r) (hf:OpS X.K r f) (ho':OpR X (compareOp op') r') (hf':OpS X.K r' f') (ha:PEp K cl E X a ma) (hb:PEp K cl E X b mb) (hc:PEp K cl E X c mc)
  (hm:lastMarks [op,op'] [b,c]=false:=by with_unfolding_all rfl):PEp K cl E X (.Compare a [op,op'] [b,c] pos) (adz f f' ma mb mc):=by
 intro hK
 subst hK
 refine PE.imp (ahL ho ho' (ha rfl) (hb rfl) (hc rfl) hm) fun σ H Q ⟨p,S,ρ,s,e,h⟩=>?_
 refine aar s e h fun q H1 x x' S1 st s1 e1 r1 h1=>aar s1 e1 h1 fun q2 H2 y y' S2 st2 s2 e2 r2 h2=>?_
 cases z:aa6 f x y S2 with
 | fail=>rw [z] at h2; exact h2.elim
 | exc n S3 =>
  exfalso
  unfold aa6 at z
  cases w:((rd S2 x).bind fun x=>(rd S2 y).bind fun y=>f x y) with
  | none=>rw [w] at z; cases z
  | some u=>rw [w] at z; cases z
 | ok u S3 =>
  rw [z] at h2
  simp only [Res.bind] at h2
  have eS:S3=S2:=by
   unfold aa6 at z
   cases w:((rd S2 x).bind fun x=>(rd S2 y).bind fun y=>f x y) with
   | none=>rw [w] at z; cases z
   | some u=>rw [w] at z; cases z; rfl
  subst eS
  refine abO (cl:=cl) (E:=E) hf s2 (st2.repA r1) r2 ?_
  rw [z]
  intro q3 H3 w st3 s3 r3
  have e3:=st3.repE e2
  have ry:=st3.repA r2
  split at h2
  ·have:w=.bl true:=ah7 r3 rfl
   subst this
   refine ⟨true,rfl,if_pos rfl ▸ ?_⟩
   refine ⟨q3,S3,ρ,s3,e3,?_⟩
   have h2:aaJ X.K cl (RepA X.K) q2 H2 ((mc ρ S3).bind fun w S4=>aa6 f' y w S4) Q E:=h2
   cases zc:mc ρ S3 with
   | fail=>rw [zc] at h2; exact h2.elim
   | exc n S4=>
    rw [zc] at h2
    intro q4 H4 st4 s4
    exact h2 q4 H4 (st3.trans st4) s4
   | ok v S4 =>
    rw [zc] at h2
    intro q4 H4 v' st4 s4 r4
    refine abO (cl:=cl) (E:=E) hf' s4 (st4.repA ry) r4 ?_
    exact aaJ.mono h2 (st3.trans st4)
  ·have:w=.bl false:=ah7 r3 rfl
   subst this
   refine ⟨false,rfl,?_⟩
   show Q (.bl false) H3
   exact h2 q3 H3 _ st3 s3 (by show Rep X.K q3.c H3 _ _; unfold Rep; rfl)
  ·exact h2.elim
theorem aie {x:Str}:∀ c H,Rep K c H (.str x) (.str x):=fun c H=>repS x
end
end L2.Pp
namespace L2.Pp
open PySem PySem.Spec PyProof.Rows Bn
section
variable {K:PySem.W.Frag} {cl:Str→Addr} {E:XK} {X:Cx} {e a:Expr} {es:List Expr} {ms:MA} {ma me:ME} {p q:Ph} {H H':Hp} {S:Sto}
variable {k:Nat} {f:Addr} {fd:FuncData} {ps:List Str} {g:FM} {dvs:List V} {ds:List Value} {dv:List PV} {x:Str} {pp pos pos1 pos2 pos3 pc:Pos} {c n:Str} {i nn:Nat} {b₀:Stmt} {body:List Stmt} {newId:String} {up:Rho→Rho}
variable (K cl X)
def PXp (e:Expr) (m:ME):Prop:=X.K=K→PEx X e fun E=>tP K cl E (RepA K) m
variable {K cl X}
def afa (f:FM) (ds:List PV) (ms:MA):ME:=fun ρ S=>(aau (ms ρ S)).bind fun xs S1=>frz S1.length (f (xs++ds.map .pv) S1)
def ag5 (ma me:ME):ME:=fun ρ S=>(aau (ma ρ S)).bind fun u S1=>(me ρ S1).bind fun v S2=>abF fTup [u,v] S2
theorem PEx.imp {te te':XK→TE} (h:PEx X e te) (i:∀ E σ H Q,te' E σ H Q→te E σ H Q):PEx X e te':=fun pins s σ H Q E Ex I q hx=>h pins s σ H Q E Ex I (i E σ H Q q) hx
theorem ai1 (hxe:X.xe=fun _ _=>False) (F:FnOk X.prog X.w X.K X.mg X.base (CX1 X.prog X.w) k f fd ps (spP K cl g)) (hr:Room k X.A) (hg:Gl X x) (hm:X.mg x=some (.ref f)) (hkp:PySem.W.keepIn X.K (.ref f)=true)
  (hb:acb X.K fd ps ds) (hd:Vals dvs ds) (hv:Dv dv dvs) (ha:PAp K cl E0 X (e :: es) ms)
  (hdb:(x == ("__debug__":Str))=false:=by decide) (he:starEach (e :: es) X.env=(false,eval e X.env) :: starEach es X.env:=by rfl) (hpl:(backTo pos (starEach es X.env)).any (·.1)=false:=by rfl) :
  PXp K cl X (.Call (.Name x pp) (e :: es) [] pos) (afa g dv ms):=by
 intro hK
 refine PEx.imp (ahN hxe F hr hg hm hkp hb hd (ha hK) hdb he hpl) fun E σ H Q ⟨p,S,ρ,s,ev,h⟩=>?_
 refine ⟨p,S,ρ,s,ev,?_⟩
 unfold afa at h
 cases z:ms ρ S with
 | ok xs S1 =>
  rw [z] at h
  intro q H1 vs st sm r
  exact ⟨q,S1,xs++dv.map .pv,sm,abS r (hv K q H1),aeg sm (aaJ.mono h st)⟩
 | exc m S1=>rw [z] at h; exact h.elim
 | fail=>rw [z] at h; exact h.elim
theorem ajU {x1} (hxe:X.xe=fun _ _=>False) (ha:PEp K cl E0 X a ma) (he:PXp K cl X e me)
  (hs:starEach [a,e] X.env=[(false,eval a X.env),(false,eval e X.env)]:=by rfl):PXp K cl X (.Tuple [a,e] x1 pos) (ag5 ma me):=by
 intro hK
 refine PEx.imp (ahY hxe (ha hK) (he hK) hs) fun E σ H Q ⟨p,S,ρ,s,ev,h⟩=>?_
 refine ⟨p,S,ρ,s,ev,?_⟩
 unfold ag5 at h
 cases z:ma ρ S with
 | exc m S1=>rw [z] at h; exact h.elim
 | fail=>rw [z] at h; exact h.elim
 | ok u S1 =>
  rw [z] at h
  have h:aaJ K cl (RepA K) p H ((me ρ S1).bind fun v S2=>abF fTup [u,v] S2) Q E:=h
  intro q H1 u' st sm r
  refine ⟨q,S1,ρ,sm,st.repE ev,?_⟩
  cases z2:me ρ S1 with
  | fail=>rw [z2] at h; exact h.elim
  | exc n S2 =>
   rw [z2] at h
   intro q2 H2 st2 sm2
   exact h q2 H2 (st.trans st2) sm2
  | ok v S2 =>
   rw [z2] at h
   have h:aaJ K cl (RepA K) p H (abF fTup [u,v] S2) Q E:=h
   intro q2 H2 v' st2 sm2 r2 t ht
   have h:=aaJ.mono h (st.trans st2)
   refine adn (r:=fun xs H Q=>xs.length≤sizeLine∧∀ t,H t=none→Q (.ref t) (upd H t (.tup xs))) (f:=fTup) (fun {p S H as c xs Q} s r e k=>?_) sm2 (.cons (st2.repA r) (.cons r2 .nil)) h |>.2 t ht
   unfold fTup at e
   split at e
   ·rename_i hl
    cases e
    rw [r.length,← aaz] at hl
    exact ⟨hl,fun t ht=>k _ _ (aa3 ht) (acF s r hl ht)⟩
   ·cases e
theorem ae0 {c:Addr→Prop}:∀ {vs:List PV},(∀ v∈vs,age v=true)→Reps K c H vs (vs.map toV)
 | [],_=>.nil
 | v :: vs,h=>.cons (aa5 (h v List.mem_cons_self)) (ae0 fun u hu=>h u (List.mem_cons_of_mem _ hu))
theorem RepE.setT {ρ:Rho} {σ:St} (s:Sim K p S H) (ev:RepE K p H ρ σ) {t:Addr} (ht:H t=none) {vs:List PV} (fl:∀ v∈vs,age v=true) (hl:vs.length≤sizeLine) (i:Nat):RepE K p (upd H t (.tup (vs.map toV))) (ρ.set i (some (.pv (.tup vs)))) (σ.set i (some (.ref t))) :=
 ((s.same (aa3 ht)).repE ev).set (v:=.pv (.tup vs)) (x:=.ref t) (acF s (ae0 fl) (by rw [List.length_map]; exact hl) ht) i
def agJ (me:ME) (c:Str) (nn j:Nat) (up:Rho→Rho):MS:=fun ρ S=>if ρ.length=nn then (match me ρ S with
 | .ok v S2=>.nx (ρ.set j (some v)) S2
 | .exc n S2=>if n=c then .nx (up ρ) S2 else .fail
 | .fail=>.fail) else .fail
theorem ahX {jv:Nat} {xv:Str} {posv:Pos} {ts:Addr→Obj→TS} (stk:X.stack=X.env :: X.outer) (hN:X.N.Nodup) (hi:X.N[i]?=some n) (hk:X.env.scope.names.lookup n=some .local)
  (hgc:Gl X c) (hmc:X.mg c=some (.ref (cl c))) (hxC:PySem.W.excIn X.K (cl c) abz newId=true) (he:PXp K cl X e me)
  (hjv:X.N[jv]?=some xv) (hxv:Loc X.env.scope xv) (hs:∀ y oe,oe.cls=.ref (cl c)→PSs (X.mk1 y [(y,oe)]) (b₀ :: body) (ts y oe))
  (hts:∀ (y:Addr) (oe:Obj) (D:Ends) (σ:St) (H:Hp) (p:Ph) (S:Sto) (ρ:Rho),Sim K p S H→σ.length=nn→RepE K p H ρ σ→(∀ H' σ',Same H H'→RepE K p H' (up ρ) σ'→D.nx σ' H') →
   ts y oe { nx:=fun σ' H'=>D.nx (σ'.set i none) H',rt:=D.rt,bk:=fun σ' H'=>D.bk (σ'.set i none) H',ct:=fun σ' H'=>D.ct (σ'.set i none) H' } (σ.set i (some (.ref y))) H)
  (hsw:swapsWith e (some (.Name xv posv)) pos1.line X.env=pure false:=by rfl)
  (hfv:X.fn xv=true∨X.env.scope.names.lookup xv=some .local:=by first | exact .inl rfl | exact .inr rfl | assumption)
  (hfr:X.env.frame=some X.env.locals:=by rfl)
  (hdc:(c == ("__debug__":Str))=false:=by decide) :
  PSp K cl E0 X (.Try [.Assign [.Name xv posv] e pos1] [.ExceptHandler (some (.Name c pc)) (some n) (b₀ :: body) pos2] [] [] pos3) (agJ me c nn jv up):=by
 intro hK
 refine PS.imp (aj4 stk hN hi hk hgc hmc hxC (he hK) hjv hxv hs hsw hfv hfr hdc) fun D σ H ⟨p,S,ρ,s,ev,h⟩=>?_
 unfold agJ at h
 split at h
 ·rename_i hl
  refine ⟨p,S,ρ,s,ev,?_⟩
  cases z:me ρ S with
  | ok v S2 =>
   simp only [z] at h
   intro q2 H2 y st2 sm2 r2
   exact h q2 H2 _ st2 sm2 ((st2.repE ev).set r2 jv)
  | exc m S2 =>
   simp only [z] at h
   split at h
   ·rename_i hm
    subst hm
    intro q2 H2 st2 sm2
    refine ⟨rfl,fun y oe hc=>hts y oe D σ H2 q2 S2 ρ sm2 (by rw [← ev.len]; exact hl) (st2.repE ev) fun H' σ' hs e'=>h q2 H' σ' (st2.trans (sm2.same hs)) (sm2.ofSame hs) e'⟩
   ·exact h.elim
  | fail=>simp only [z] at h; exact h.elim
 ·exact h.elim
end
end L2.Pp
namespace L2.Pp
open PySem PySem.Spec PyProof.Rows Bn
section
variable {K:PySem.W.Frag} {cl:Str→Addr} {E:XK} {X:Cx} {a b:Expr} {ma mb:ME} {pos:Pos}
def fIxS:PV→PV→Option PV
 | .str x,.int i=>if x.length≤16777216 then (atI x.cps.toList i).map fun c=>.str ⟨#[c]⟩ else none
 | _,_=>none
theorem alo:OpS K rIxS fIxS:=fun {p S H a b c x y Q} s ra rb e k=>by
 unfold fIxS at e
 split at e
 ·rename_i z i
  split at e
  ·rename_i hz
   rw [← aaz] at hz
   cases w:atI z.cps.toList i with
   | none=>rw [w] at e; cases e
   | some d =>
    rw [w] at e
    cases e
    exact ⟨z,i,d,ra.str,rb.int,hz,w,k H _ (Same.refl H) (repS _)⟩
  ·cases e
 ·cases e
theorem aix (ha:PEp K cl E X a ma) (hb:PEp K cl E X b mb) (hs:afz b:=by intro _ _; rfl):PEp K cl E X (.Subscript a b pos) (mBin fIxS ma mb):=by
 intro hK
 subst hK
 refine (aky aiF (ha rfl) (hb rfl) hs).imp fun σ H Q ⟨p,S,ρ,s,e,h⟩=>?_
 exact aar s e h fun q H1 a x S1 st s1 e1 r1 h1=>aar s1 e1 h1 fun q2 H2 b y S2 st2 s2 e2 r2 h2=>abO alo s2 (st2.repA r1) r2 h2
theorem ajj {m:ME} {σ:St} {H:Hp} {Q:VK} (z:tP X.K cl E (RepA X.K) (mUn fIsN m) σ H Q):tIsN (tP X.K cl E (RepA X.K) m) σ H Q:=by
 obtain ⟨p,S,ρ,s,ev,h⟩:=z
 refine aar s ev h fun q H' as x S' stp sm ev r k=>?_
 refine acH (r:=fun x H Q=>Q (.bl (decide (x=.non))) H) (f:=fIsN) (fun {p S H a c x Q} s ra e k=>?_) sm r k
 have z:c=.bl (decide (x=.non)):=by
  cases a with
  | non=>cases ra.non; cases e; rfl
  | int i=>cases ra.int; cases e; rfl
  | bl i=>cases ra.bl; cases e; rfl
  | str i=>cases ra.str; cases e; rfl
  | tup xs=>obtain ⟨a,vs,rfl,_⟩:=ra.tup; cases e; rfl
  | lst xs=>obtain ⟨a,vs,rfl,_⟩:=ra.lst; cases e; rfl
 subst z
 exact k H _ (Same.refl H) (by unfold Rep; rfl)
theorem akf {m:ME} {j pos'} (ha:PEp K cl E X a m):PTp K cl E X (.Compare a [.Is] [.Constant .none j pos'] pos) (mTst (mUn fIsN m)):=by
 intro hK
 subst hK
 refine (alf (ak6 (ha rfl))).imp fun σ H Q ⟨p,S,ρ,s,e,h⟩=>?_
 have z:tP X.K cl E (RepA X.K) (mUn fIsN m) σ H fun x H'=>∃ k,x=.bl k∧Q k H':=aar s e h fun q H1 a x S1 st s1 e1 r1 h1=>aec s1 r1 h1
 exact ajj z
end
end L2.Pp
namespace L2.Pp
open PySem
theorem acj:bootBuiltins "len"=some (.builtin "len"):=by decide +kernel
theorem agH:bootBuiltins "abs"=some (.builtin "abs"):=by decide +kernel
theorem ag3:bootBuiltins "all"=some (.builtin "all"):=by decide +kernel
theorem ae5:bootBuiltins "int"=some (.type "int"):=by decide +kernel
theorem ajt:bootBuiltins "bool"=some (.type "bool"):=by decide +kernel
theorem aet:bootBuiltins "tuple"=some (.type "tuple"):=by decide +kernel
theorem aes:bootBuiltins "ValueError"=some (.type "ValueError"):=by decide +kernel
end L2.Pp
set_option Elab.async false
set_option maxRecDepth 100000
set_option maxHeartbeats 4000000
namespace Sc
open PySem L2 Bn L2.Pp
abbrev adS:Stmt:=top 6
abbrev ab0:Stmt:=top 7
abbrev abG:Stmt:=top 8
abbrev aaV:Stmt:=top 12
abbrev aa7:Stmt:=top 13
abbrev aba:Stmt:=top 14
abbrev adW:Stmt:=top 16
abbrev acZ:Stmt:=top 17
abbrev ad2:Stmt:=top 18
abbrev abM:Stmt:=top 19
abbrev acp:Stmt:=top 20
abbrev abL:Stmt:=top 21
abbrev acX:Stmt:=top 22
abbrev abu:Stmt:=top 23
abbrev abl:Stmt:=top 24
abbrev abH:Stmt:=top 25
abbrev ab2:Stmt:=top 26
abbrev acT:Stmt:=top 27
abbrev abI:Stmt:=top 28
abbrev aa1:Stmt:=top 29
abbrev acv:Stmt:=top 30
abbrev acs:Stmt:=top 31
abbrev aer:Stmt:=top 32
noncomputable def ag8:MS:=(sSeq (sIf (mTst (mBin fGt (mVar 0) (mC (.int 0)))) (sRet (mC (.int 1))) sNil)
 (sSeq (sIf (mTst (mBin fLt (mVar 0) (mC (.int 0)))) (sRet (mUn fNeg (mC (.int 1)))) sNil)
 (sRet (mC (.int 0)))))
noncomputable def ad4:FM:=fnM 1 1 ag8
noncomputable def adu:MS:=(sSeq (adm (mTst (mBin fNe (mVar 1) (mC (.int 0)))) (sSeq (sSet 2 (mBin fMod (mVar 0) (mVar 1)))
 (sSeq (sSet 0 (mVar 1))
 (sSet 1 (mVar 2)))))
 (sRet (mR fAbs (aac (mVar 0) mNil))))
noncomputable def ab1:FM:=fnM 2 3 adu
noncomputable def ab4:MS:=(sSeq (sIf (mTst (mBin fEq (mVar 1) (mC (.int 0)))) (afY "NoNumber") sNil)
 (sSeq (sSet 2 (mBin fMul (aag ad4 [] (aac (mVar 1) mNil)) (aag ab1 [] (aac (mVar 0) (aac (mVar 1) mNil)))))
 (sRet (mN fTup (aac (mBin ael (mVar 0) (mVar 2)) (aac (mBin ael (mVar 1) (mVar 2)) mNil))))))
noncomputable def abb:FM:=fnM 2 3 ab4
noncomputable def aaK:MS:=(sIf (mNot (mTst (mVar 0))) (afY "NoText") sNil)
noncomputable def aaA:FM:=fnM 1 1 aaK
noncomputable def abk:MS:=(sSeq (abh (abv aaA [] (aac (abD (adz fLe fLe (mC (.int 1)) (mR abY (aac (mVar 0) mNil)) (mC (.int 60))) (mR fAll (aac (adb ["sign"] [] (mItS (mVar 0)) (gN 0) (mBin fInS (mVar 0) (mC (.str "0123456789")))) mNil))) mNil)))
 (sRet (mR acV (aac (mVar 0) mNil))))
noncomputable def aat:FM:=fnM 1 1 abk
noncomputable def aaH:MS:=(sSeq (sSet 1 (mMet aci (mVar 0) (aac (mC (.str "/")) mNil)))
 (sSeq (abh (abv aaA [] (aac (mBin fLe (mR fLen (aac (mVar 1) mNil)) (mC (.int 2))) mNil)))
 (sSeq (sSet 2 (mMet abU (mBin fIx (mVar 1) (mC (.int 0))) (aac (mC (.str "-")) mNil)))
 (sSeq (sSet 3 (abv aat [] (aac (mIf (mTst (mVar 2)) (mSlS (mBin fIx (mVar 1) (mC (.int 0))) (mO1 (mC (.int 1))) mO0) (mBin fIx (mVar 1) (mC (.int 0)))) mNil)))
 (sSeq (sSet 4 (mIf (mTst (mBin fEq (mR fLen (aac (mVar 1) mNil)) (mC (.int 2)))) (abv aat [] (aac (mBin fIx (mVar 1) (mC (.int 1))) mNil)) (mC (.int 1))))
 (sSeq (abh (abv aaA [] (aac (mBin fNe (mVar 4) (mC (.int 0))) mNil)))
 (sRet (abv abb [] (aac (mIf (mTst (mVar 2)) (mUn fNeg (mVar 3)) (mVar 3)) (aac (mVar 4) mNil))))))))))
noncomputable def aaq:FM:=fnM 1 5 aaH
noncomputable def agR:MS:=(sSeq (sSet 1 (mNew mNil))
 (sSeq (sFor (ajN (aac (mSl (mVar 0) mO0 (mO1 (mC (.int 63)))) mNil)) (gT 2 (ac6 (gN 2) (ac6 (gN 3) ahc))) (sIf (mTst (mBin fGe (mVar 3) (mBin fPow (mC (.int 10)) (mC (.int 18))))) (abh (mApp (mVar 1) (aac (mBin fSub (mVar 3) (mBin fPow (mC (.int 10)) (mC (.int 18)))) mNil))) (sSeq (sSet 4 (mBin fMod (mBin fMul (mBin fAdd (mBin fAdd (mBin fAdd (mVar 3) (mBin fMul (mBin fMul (mC (.int 7)) (mVar 2)) (mVar 2))) (mBin fMul (mC (.int 13)) (mVar 2))) (mC (.int 5))) (mC (.int 48271))) (mC (.int 2147483647))))
 (sSeq (sSet 5 (mBin fMod (mBin fMul (mBin fAdd (mBin fAdd (mBin fAdd (mVar 3) (mBin fMul (mBin fMul (mC (.int 11)) (mVar 2)) (mVar 2))) (mBin fMul (mC (.int 17)) (mVar 2))) (mC (.int 3))) (mC (.int 40692))) (mC (.int 2147483399))))
 (sSeq (sSet 6 (mBin fMod (mBin fMul (mBin fAdd (mBin fAdd (mBin fAdd (mVar 3) (mBin fMul (mBin fMul (mC (.int 5)) (mVar 2)) (mVar 2))) (mBin fMul (mC (.int 29)) (mVar 2))) (mC (.int 8))) (mC (.int 39373))) (mC (.int 2147483587))))
 (sSeq (sSet 4 (mBin fMod (mBin fMul (mVar 4) (mC (.int 52021))) (mC (.int 1000000007))))
 (sSeq (sSet 5 (mBin fMod (mBin fMul (mVar 5) (mC (.int 30011))) (mC (.int 998244353))))
 (sSeq (sSet 6 (mBin fMod (mBin fMul (mVar 6) (mC (.int 45989))) (mC (.int 1000000009))))
 (abh (mApp (mVar 1) (aac (mBin fAdd (mBin fMul (mBin fAdd (mBin fMul (mVar 4) (mC (.int 998244353))) (mVar 5)) (mC (.int 1000000009))) (mVar 6)) mNil)))))))))))
 (sRet (mVar 1))))
noncomputable def ac7:FM:=fnM 1 7 agR
noncomputable def aev:MS:=(sSeq (adm (mAnd (mTst (mBin fGt (mR fLen (aac (mVar 0) mNil)) (mC (.int 0)))) (mTst (mBin fEq (mBin fIx (mVar 0) (mC (.int 0))) (mC (.int 0))))) (abh (mPop (mVar 0) (aac (mC (.int 0)) mNil))))
 (sSeq (sIf (mTst (mBin fEq (mR fLen (aac (mVar 0) mNil)) (mC (.int 0)))) (sRet (mC (.int 0))) sNil)
 (sSeq (sSet 2 (mBin fMod (mBin fIx (mVar 0) (mC (.int 0))) (mVar 1)))
 (sSeq (ahl (mVar 0) (mC (.int 0)) (mBin ael (mBin fIx (mVar 0) (mC (.int 0))) (mVar 1)))
 (sRet (mVar 2))))))
noncomputable def aav:FM:=fnM 2 3 aev
noncomputable def agM:MS:=(sSeq (sSet 0 (mR fAbs (aac (mVar 0) mNil)))
 (sSeq (sSet 1 (mR fAbs (aac (mVar 1) mNil)))
 (sSeq (adm (mTst (mBin fGt (mVar 1) (mC (.int 0)))) (sPar 0 1 (aac (mVar 1) (aac (mBin fMod (mVar 0) (mVar 1)) mNil))))
 (sRet (mVar 0)))))
noncomputable def adw:FM:=fnM 2 2 agM
noncomputable def ady:MS:=(sSeq (sSet 1 (mC (.int 0)))
 (sSeq (sFor (mIt (mVar 0)) (gN 2) (sSet 1 (aag adw [] (aac (mVar 1) (aac (mVar 2) mNil)))))
 (sSeq (sIf (mTst (mBin fEq (mVar 1) (mC (.int 0)))) (sRet (mR aak (aac (mVar 0) mNil))) sNil)
 (sRet (mR aak (aac (adb ["_law_number"] [(1,"_law_by")] (mIt (mVar 0)) (gN 0) (mBin ael (mVar 0) (mVar 1))) mNil))))))
noncomputable def abK:FM:=fnM 1 3 ady
noncomputable def aei:MS:=(sRet (abD (mUn (fIsi "int") (mVar 0)) (mUn fNot (mUn (fIsi "bool") (mVar 0)))))
noncomputable def ab5:FM:=fnM 1 1 aei
noncomputable def adA:MS:=(sSeq (sIf (mOr (mNot (mTst (mUn (fIsi "tuple") (mVar 0)))) (mTst (mBin fNe (mR fLen (aac (mVar 0) mNil)) (mVar 1)))) (sRet (mC (.bl false))) sNil)
 (sRet (mR fAll (aac (adb ["_law_number"] [] (mIt (mVar 0)) (gN 0) (aag ab5 [] (aac (mVar 0) mNil))) mNil))))
noncomputable def abP:FM:=fnM 2 2 adA
noncomputable def afv:MS:=(sSeq (sIf (mTst (mBin fLt (mVar 1) (mC (.int 0)))) (sRet (aag abK [] (aac (mN fLst (aac (mBin fSub (mC (.int 0)) (mVar 0)) (aac (mBin fSub (mC (.int 0)) (mVar 1)) mNil))) mNil))) sNil)
 (sRet (aag abK [] (aac (mN fLst (aac (mVar 0) (aac (mVar 1) mNil))) mNil))))
noncomputable def acd:FM:=fnM 2 2 afv
noncomputable def acS:MS:=(sSeq (sIf (mOr (mTst (mBin fLt (mR abY (aac (mVar 0) mNil)) (mC (.int 1)))) (mTst (mBin fGt (mR abY (aac (mVar 0) mNil)) (mC (.int 60))))) (sRet (mC (.bl false))) sNil)
 (sRet (mR fAll (aac (adb ["_law_sign"] [] (mItS (mVar 0)) (gN 0) (mBin fInS (mVar 0) (mC (.str "0123456789")))) mNil))))
noncomputable def aaP:FM:=fnM 1 1 acS
noncomputable def abR:MS:=(sSeq (sSet 1 (mC (.int 1)))
 (sSeq (sIf (mTst (mBin fEq (mSlS (mVar 0) mO0 (mO1 (mC (.int 1)))) (mC (.str "-")))) (sSeq (sSet 1 (mUn fNeg (mC (.int 1))))
 (sSet 0 (mSlS (mVar 0) (mO1 (mC (.int 1))) mO0))) sNil)
 (sSeq (sSet 2 (mC (.str "1")))
 (sSeq (sSet 3 (mMet afq (mVar 0) (aac (mC (.str "/")) mNil)))
 (sSeq (sIf (mTst (mBin fGe (mVar 3) (mC (.int 0)))) (sSeq (sSet 2 (mSlS (mVar 0) (mO1 (mBin fAdd (mVar 3) (mC (.int 1)))) mO0))
 (sSet 0 (mSlS (mVar 0) mO0 (mO1 (mVar 3))))) sNil)
 (sSeq (sIf (mOr (mNot (mTst (aag aaP [] (aac (mVar 0) mNil)))) (mNot (mTst (aag aaP [] (aac (mVar 2) mNil))))) (sRet (mC .non)) sNil)
 (sSeq (sIf (mTst (mBin fEq (mR acV (aac (mVar 2) mNil)) (mC (.int 0)))) (sRet (mC .non)) sNil)
 (sRet (aag acd [] (aac (mBin fMul (mVar 1) (mR acV (aac (mVar 0) mNil))) (aac (mR acV (aac (mVar 2) mNil)) mNil)))))))))))
noncomputable def aaw:FM:=fnM 1 4 abR
noncomputable def ac0:MS:=(sSeq (sSet 1 (mC (.str " ,+/-0123456789nonepushturnby")))
 (sSeq (sIf (mTst (mBin fEq (aag aav [] (aac (mVar 0) (aac (mC (.int 2)) mNil))) (mC (.int 0)))) (sRet (mBin fIxS (mVar 1) (aag aav [] (aac (mVar 0) (aac (mR abY (aac (mVar 1) mNil)) mNil))))) sNil)
 (sSeq (sSet 2 (mC (.str " !\"#$&'()*+,-./0123456789:;<=>?@ABCDEFGHIJKLMNOPQRSTUVWXYZ[\\]^_`abcdefghijklmnopqrstuvwxyz{|}~")))
 (sRet (mBin fIxS (mVar 2) (aag aav [] (aac (mVar 0) (aac (mR abY (aac (mVar 2) mNil)) mNil))))))))
noncomputable def abJ:FM:=fnM 1 3 ac0
noncomputable def adL:MS:=(sSeq (sSet 2 (aag aav [] (aac (mVar 0) (aac (mC (.int 6)) mNil))))
 (sSeq (sIf (mTst (mBin fGt (mVar 2) (mC (.int 2)))) (sRet (mVar 1)) sNil)
 (sSeq (sSet 3 (aag aav [] (aac (mVar 0) (aac (mBin fAdd (mR abY (aac (mVar 1) mNil)) (mC (.int 1))) mNil))))
 (sSeq (sSet 4 (aag abJ [] (aac (mVar 0) mNil)))
 (sSeq (sIf (mTst (mBin fEq (mVar 2) (mC (.int 0)))) (sRet (mBin abp (mBin abp (mSlS (mVar 1) mO0 (mO1 (mVar 3))) (mVar 4)) (mSlS (mVar 1) (mO1 (mVar 3)) mO0))) sNil)
 (sSeq (sIf (mTst (mBin fEq (mVar 2) (mC (.int 1)))) (sRet (mBin abp (mSlS (mVar 1) mO0 (mO1 (mVar 3))) (mSlS (mVar 1) (mO1 (mBin fAdd (mVar 3) (mC (.int 1)))) mO0))) sNil)
 (sRet (mBin abp (mBin abp (mSlS (mVar 1) mO0 (mO1 (mVar 3))) (mVar 4)) (mSlS (mVar 1) (mO1 (mBin fAdd (mVar 3) (mC (.int 1)))) mO0)))))))))
noncomputable def aa8:FM:=fnM 2 5 adL
noncomputable def afo:MS:=(sSeq (sSet 1 (mC (.int 1)))
 (sSeq (sFor (aez (aac (mVar 0) mNil)) (gN 2) (sSet 1 (mBin fMul (mVar 1) (mC (.int 10)))))
 (sRet (mVar 1))))
noncomputable def acU:FM:=fnM 1 3 afo
noncomputable def acx:MS:=(sSeq (sSet 1 (mBin fAdd (mC (.int 1)) (aag aav [] (aac (mVar 0) (aac (mC (.int 4)) mNil)))))
 (sSeq (sIf (mTst (mBin fEq (aag aav [] (aac (mVar 0) (aac (mC (.int 4)) mNil))) (mC (.int 3)))) (sSet 1 (mBin fAdd (mC (.int 59)) (aag aav [] (aac (mVar 0) (aac (mC (.int 3)) mNil))))) sNil)
 (sRet (mMet afc (mR fStr (aac (aag aav [] (aac (mVar 0) (aac (aag acU [] (aac (mVar 1) mNil)) mNil))) mNil)) (aac (mVar 1) mNil)))))
noncomputable def aaQ:FM:=fnM 1 2 acx
noncomputable def abW:MS:=(sSeq (sSet 1 (aag aaQ [] (aac (mVar 0) mNil)))
 (sSeq (sSet 2 (aag aav [] (aac (mVar 0) (aac (mC (.int 6)) mNil))))
 (sSeq (sIf (mOr (mTst (mBin fEq (mVar 2) (mC (.int 0)))) (mTst (mBin fEq (mVar 2) (mC (.int 1))))) (sSet 1 (mBin abp (mBin abp (mVar 1) (mC (.str "/"))) (aag aaQ [] (aac (mVar 0) mNil)))) sNil)
 (sSeq (sIf (mTst (mBin fEq (mVar 2) (mC (.int 2)))) (sSet 1 (mBin abp (mBin abp (mVar 1) (mC (.str "/"))) (mR fStr (aac (mBin fAdd (mC (.int 1)) (aag aav [] (aac (mVar 0) (aac (mC (.int 12)) mNil)))) mNil)))) sNil)
 (sSeq (sIf (mTst (mBin fEq (aag aav [] (aac (mVar 0) (aac (mC (.int 3)) mNil))) (mC (.int 2)))) (sSet 1 (mBin abp (mC (.str "-")) (mVar 1))) sNil)
 (sRet (mVar 1)))))))
noncomputable def aaD:FM:=fnM 1 3 abW
noncomputable def aeA:MS:=(sSeq (sSet 1 (mC .non))
 (sSeq (agJ (ag5 (mC (.str "told")) (afa aaq [] (aac (mVar 0) mNil))) "NoText" 3 1 (fun ρ=>(((ρ.set 2 none).set 1 (some (.pv (.tup [.str "refused",.bl true,.bl true,.bl false])))).set 2 none)))
 (sRet (mVar 1))))
noncomputable def aaO:FM:=fnM 1 3 aeA
noncomputable def aej:MS:=(sSeq (sIf (mTst (mUn fIsN (mVar 1))) (sRet (mBin fEq (mVar 0) (mN fTup (aac (mC (.str "refused")) (aac (mC (.bl true)) (aac (mC (.bl true)) (aac (mC (.bl false)) mNil))))))) sNil)
 (sRet (abD (mBin fEq (mBin fIx (mVar 0) (mC (.int 0))) (mC (.str "told"))) (abD (aag abP [] (aac (mBin fIx (mVar 0) (mC (.int 1))) (aac (mC (.int 2)) mNil))) (mBin fEq (mBin fIx (mVar 0) (mC (.int 1))) (mVar 1))))))
noncomputable def aaR:FM:=fnM 2 2 aej
noncomputable def ajD:MS:=(sSeq (sSet 1 (aa9 ac7 [] (aac (mVar 0) mNil)))
 (sSeq (sSet 2 (aag aa8 [] (aac (mVar 1) (aac (aag aaD [] (aac (mVar 1) mNil)) mNil))))
 (sSeq (sIf (mTst (mBin fEq (aag aav [] (aac (mVar 1) (aac (mC (.int 24)) mNil))) (mC (.int 23)))) (sSet 2 (mBin fIx (mN fLst (aac (mC (.str "")) (aac (mC (.str "-")) (aac (mC (.str "/")) (aac (mC (.str "0/0")) mNil))))) (aag aav [] (aac (mVar 1) (aac (mC (.int 4)) mNil))))) sNil)
 (sSeq (sSet 3 (aag aa8 [] (aac (mVar 1) (aac (aag aaD [] (aac (mVar 1) mNil)) mNil))))
 (sSeq (sSet 4 (aag aaw [] (aac (mVar 2) mNil)))
 (sSeq (sIf (mNot (mTst (aag aaR [] (aac (aag aaO [] (aac (mVar 2) mNil)) (aac (mVar 4) mNil))))) (sRet (mC (.bl false))) sNil)
 (sSeq (sIf (mNot (mTst (aag aaR [] (aac (aag aaO [] (aac (mVar 3) mNil)) (aac (aag aaw [] (aac (mVar 3) mNil)) mNil))))) (sRet (mC (.bl false))) sNil)
 (sRet (aag aaR [] (aac (aag aaO [] (aac (mVar 2) mNil)) (aac (mVar 4) mNil)))))))))))
noncomputable def ajI:FM:=fnM 1 5 ajD
section
variable {P:Program} {w:World} {K:PySem.W.Frag} {mg:Str→Option Value} {base:Heap} {cl:Str→Addr}
theorem agW:aaG ["number"] ["number"] (aae adS):=⟨rfl,rfl,rfl,by decide +kernel,rfl,by decide +kernel,by decide +kernel⟩
theorem ai4 {f:Addr} {fd:FuncData} (F:Fun K "sign" "sign" adS f fd)
  : FnOk P w K mg base CX0 1 f fd ["number"] (spP0 K cl ad4):=by
 have nd:=agW.nd
 refine okP (np:=1) (n:=1) F agW (by decide) (by decide) (b:=ag8) (k:=0) fun cdv A outer s H E hr=>?_
 exact (aad (aaY (aaI ahz s_gt (aab 0) aai (aaM _)) (aaj (aay aai)) aaE)
   (aad (aaY (aaI ajF s_lt (aab 0) aai (aaM _)) (aaj (aay (aiV ahw ajb aai))) aaE)
   (aaj (aay aai))))
theorem adU:aaG ["one","other","rest"] ["one","other"] (aae ab0):=⟨rfl,rfl,rfl,by decide +kernel,rfl,by decide +kernel,by decide +kernel⟩
theorem agf {f:Addr} {fd:FuncData} (F:Fun K "divisor" "divisor" ab0 f fd)
  (m_abs:mg "abs"=none)
  : FnOk P w K mg base CX0 1 f fd ["one","other"] (spP0 K cl ab1):=by
 have nd:=adU.nd
 refine okP (np:=2) (n:=3) F adU (by decide) (by decide) (b:=adu) (k:=0) fun cdv A outer s H E hr=>?_
 exact (aad (adx PassesOwn.never (aaI (ag7 (hu8 hr)) s_ne (aab 1) aai (aaM _)) (aad (aas (i:=2) nd rfl (Or.inl rfl) (aaC ab8 aef (aab 0) (aab 1)))
   (aad (aas (i:=0) nd rfl (Or.inl rfl) (aab 1))
   (aaj (aas (i:=1) nd rfl (Or.inl rfl) (aab 2))))))
   (aaj (aay (aaS aey aj0 rfl m_abs agH (aaa (aab 0) aaf)))))
theorem adD:aaG ["top","bottom","common"] ["top","bottom"] (aae abG):=⟨rfl,rfl,rfl,by decide +kernel,rfl,by decide +kernel,by decide +kernel⟩
theorem afA {f:Addr} {fd:FuncData} {dsv:Array Value} (F:FunD K "fraction" "fraction" abG f fd dsv)
  (C_sign:Cal P w K mg base cl "sign" 1 ["number"] ad4)
  (C_divisor:Cal P w K mg base cl "divisor" 1 ["one","other"] ab1)
  (q_NoNumber:mg "NoNumber"=some (.ref (cl "NoNumber"))) (x_NoNumber:PySem.W.excIn K (cl "NoNumber") abz "ValueError.__new__"=true)
  : FnOk P w K mg base (CX1 P w) 2 f fd ["top","bottom"] (spP K cl abb):=by
 have nd:=adD.nd
 refine okXD (np:=2) (n:=3) F adD (by decide) (by decide) (b:=ab4) (k:=1) fun cdv A outer s H E hr=>?_
 exact (aad (aaY (aaI (abo (hu8 hr)) s_eq (aab 1) aai (aaM _)) (aaj (afb rfl q_NoNumber x_NoNumber)) aaE)
   (aad (aas (i:=2) nd rfl (Or.inl rfl) (aaC aaW ab3 (aaX C_sign hr (by decide) rfl (aaa (aab 1) aaf)) (aaX C_divisor hr (by decide) rfl (aaa (aab 0) (aaa (aab 1) aaf)))))
   (aaj (aay (aiL (aaa (aaC adg af3 (aab 0) (aab 2)) (aaa (aaC adg af3 (aab 1) (aab 2)) aaf)))))))
theorem ace:aaG ["fits"] ["fits"] (aae aaV):=⟨rfl,rfl,rfl,by decide +kernel,rfl,by decide +kernel,by decide +kernel⟩
theorem ade {f:Addr} {fd:FuncData} (F:Fun K "refuse_unless" "refuse_unless" aaV f fd)
  (q_NoText:mg "NoText"=some (.ref (cl "NoText"))) (x_NoText:PySem.W.excIn K (cl "NoText") abz "ValueError.__new__"=true)
  : FnOk P w K mg base (CX1 P w) 1 f fd ["fits"] (spP K cl aaA):=by
 have nd:=ace.nd
 refine okX (np:=1) (n:=1) F ace (by decide) (by decide) (b:=aaK) (k:=0) fun cdv A outer s H E hr=>?_
 exact (aaj (aaY (ac1 (acl (aab 0))) (aaj (afb rfl q_NoText x_NoText)) aaE))
theorem acI:aaG ["text"] ["text"] (aae aa7):=⟨rfl,rfl,rfl,by decide +kernel,rfl,by decide +kernel,by decide +kernel⟩
theorem aeh {f:Addr} {fd:FuncData} (F:Fun K "read_whole" "read_whole" aa7 f fd)
  {a_refuse_unless:Addr} {d_refuse_unless:FuncData}
  (GX_refuse_unless:FnOk P w K mg base (CX1 P w) 1 a_refuse_unless d_refuse_unless ["fits"] (spP K cl aaA))
  (G_refuse_unless:FnOk P w K mg base CX0 1 a_refuse_unless d_refuse_unless ["fits"] (spP0 K cl aaA)) (aaK:acb K d_refuse_unless ["fits"] []) (k_refuse_unless:PySem.W.keepIn K (.ref a_refuse_unless)=true) (n_refuse_unless:mg "refuse_unless"=some (.ref a_refuse_unless))
  (m_all:mg "all"=none)
  (m_int:mg "int"=none)
  (m_len:mg "len"=none)
  (gt_FIGURES:GlT K mg "FIGURES" (.str "0123456789"))
  (gt_MOST_FIGURES:GlT K mg "MOST_FIGURES" (.int 60))
  : FnOk P w K mg base (CX1 P w) 2 f fd ["text"] (spP K cl aat):=by
 have nd:=acI.nd
 refine okX (np:=1) (n:=1) F acI (by decide) (by decide) (b:=abk) (k:=1) fun cdv A outer s H E hr=>?_
 exact (aad (acw (acr GX_refuse_unless (hr.mono (by decide)) rfl n_refuse_unless k_refuse_unless aaK .nil Dv.nil (aaa (af6 (ahZ ajc s_le ajc s_le aai (aaS abj ad1 rfl m_len acj (aaa (aab 0) aaf)) (ahG rfl gt_MOST_FIGURES)) (ahk (aaS (ad8 rfl) ajJ rfl m_all ag3 (aaa (aea (own:=["sign"]) (cap:=[]) (afK (aae aa7) ["text"] rfl rfl rfl (by decide +kernel) (by decide +kernel) (by decide +kernel) (by decide +kernel) (by decide +kernel)) (agB (aab 0)) rfl (fun _ _ _ _=>(abT (i:=0) (show (cmpN ["sign"] []).Nodup by decide +kernel) rfl (Or.inl rfl) (Or.inr rfl))) (fun _ _ _ _=>(adH aeX akN (aab 0) (ahG rfl gt_FIGURES) rfl))) aaf)))) aaf)))
   (aaj (aay (abB abE af5 rfl m_int ae5 (aaa (aab 0) aaf)))))
theorem acB:aaG ["line","parts","below","top","bottom"] ["line"] (aae aba):=⟨rfl,rfl,rfl,by decide +kernel,rfl,by decide +kernel,by decide +kernel⟩
theorem adO {f:Addr} {fd:FuncData} (F:Fun K "read_number" "read_number" aba f fd)
  {a_refuse_unless:Addr} {d_refuse_unless:FuncData}
  (GX_refuse_unless:FnOk P w K mg base (CX1 P w) 1 a_refuse_unless d_refuse_unless ["fits"] (spP K cl aaA))
  (G_refuse_unless:FnOk P w K mg base CX0 1 a_refuse_unless d_refuse_unless ["fits"] (spP0 K cl aaA)) (aaK:acb K d_refuse_unless ["fits"] []) (k_refuse_unless:PySem.W.keepIn K (.ref a_refuse_unless)=true) (n_refuse_unless:mg "refuse_unless"=some (.ref a_refuse_unless))
  {a_read_whole:Addr} {d_read_whole:FuncData}
  (GX_read_whole:FnOk P w K mg base (CX1 P w) 2 a_read_whole d_read_whole ["text"] (spP K cl aat))
  (G_read_whole:FnOk P w K mg base CX0 2 a_read_whole d_read_whole ["text"] (spP0 K cl aat)) (abk:acb K d_read_whole ["text"] []) (k_read_whole:PySem.W.keepIn K (.ref a_read_whole)=true) (n_read_whole:mg "read_whole"=some (.ref a_read_whole))
  {a_fraction:Addr} {d_fraction:FuncData}
  (GX_fraction:FnOk P w K mg base (CX1 P w) 2 a_fraction d_fraction ["top","bottom"] (spP K cl abb))
  (G_fraction:FnOk P w K mg base CX0 2 a_fraction d_fraction ["top","bottom"] (spP0 K cl abb)) (ab4:acb K d_fraction ["top","bottom"] []) (k_fraction:PySem.W.keepIn K (.ref a_fraction)=true) (n_fraction:mg "fraction"=some (.ref a_fraction))
  (m_len:mg "len"=none)
  : FnOk P w K mg base (CX1 P w) 3 f fd ["line"] (spP K cl aaq):=by
 have nd:=acB.nd
 refine okX (np:=1) (n:=5) F acB (by decide) (by decide) (b:=aaH) (k:=2) fun cdv A outer s H E hr=>?_
 exact (aad (aas (i:=1) nd rfl (Or.inl rfl) (afV PySem.F.slot_str_split PySem.F.type_str_split ain (aab 0) (aaa abt aaf)))
   (aad (acw (acr GX_refuse_unless (hr.mono (by decide)) rfl n_refuse_unless k_refuse_unless aaK .nil Dv.nil (aaa (adH ajc s_le (aaS abx ahH rfl m_len acj (aaa (aab 1) aaf)) aai (aaM _)) aaf)))
   (aad (aas (i:=2) nd rfl (Or.inl rfl) (afV PySem.F.slot_str_startswith PySem.F.type_str_startswith ahB (ado (aab 1) aai) (aaa abt aaf)))
   (aad (aas (i:=3) nd rfl (Or.inl rfl) (acr GX_read_whole (hr.mono (by decide)) rfl n_read_whole k_read_whole abk .nil Dv.nil (aaa (ai0 (acl (aab 2)) (ach (ado (aab 1) aai) (abf aai) abe) (ado (aab 1) aai)) aaf)))
   (aad (aas (i:=4) nd rfl (Or.inl rfl) (ai0 (aaI (abo (hu8 hr)) s_eq (aaS abx ahH rfl m_len acj (aaa (aab 1) aaf)) aai (aaM _)) (acr GX_read_whole (hr.mono (by decide)) rfl n_read_whole k_read_whole abk .nil Dv.nil (aaa (ado (aab 1) aai) aaf)) aai))
   (aad (acw (acr GX_refuse_unless (hr.mono (by decide)) rfl n_refuse_unless k_refuse_unless aaK .nil Dv.nil (aaa (adH (ag7 (hu8 hr)) s_ne (aab 4) aai (aaM _)) aaf)))
   (aaj (aay (acr GX_fraction (hr.mono (by decide)) rfl n_fraction k_fraction ab4 .nil Dv.nil (aaa (ai0 (acl (aab 2)) (aiV ahw ajb (aab 3)) (aab 3)) (aaa (aab 4) aaf)))))))))))
theorem aha:aaG ["_law_script","_law_row_here","_law_k","_law_cell","_law_one","_law_two","_law_three"] ["_law_script"] (aae adW):=⟨rfl,rfl,rfl,by decide +kernel,rfl,by decide +kernel,by decide +kernel⟩
theorem ajp {f:Addr} {fd:FuncData} (F:Fun K "_law_row" "_law_row" adW f fd)
  (m_enumerate:mg "enumerate"=none)
  : FnOk P w K mg base CX0 1 f fd ["_law_script"] (spP0 K cl ac7):=by
 have nd:=aha.nd
 refine okP (np:=1) (n:=7) F aha (by decide) (by decide) (b:=agR) (k:=0) fun cdv A outer s H E hr=>?_
 exact (aad (aas (i:=1) nd rfl (Or.inl rfl) (ajg aaf))
   (aad (afw PassesOwn.never rfl (ahV rfl m_enumerate (aaa (alm (aab 0) abe (abf aai)) aaf)) (aiX rfl (ae7 (abT (i:=2) nd rfl (Or.inl rfl)) (ae7 (abT (i:=3) nd rfl (Or.inl rfl)) air))) (aaj (aaY (aaI akB s_ge (aab 3) (aaC aiy akO aai aai) (aaM _)) (aaj (acw (aeT (aab 1) (aaa (aaC agy ajE (aab 3) (aaC aiy akO aai aai)) aaf)))) (aad (aas (i:=4) nd rfl (Or.inl rfl) (aaC ab8 aef (aaC aaW ab3 (aaC aa2 acf (aaC aa2 acf (aaC aa2 acf (aab 3) (aaC aaW ab3 (aaC aaW ab3 aai (aab 2)) (aab 2))) (aaC aaW ab3 aai (aab 2))) aai) aai) aai))
   (aad (aas (i:=5) nd rfl (Or.inl rfl) (aaC ab8 aef (aaC aaW ab3 (aaC aa2 acf (aaC aa2 acf (aaC aa2 acf (aab 3) (aaC aaW ab3 (aaC aaW ab3 aai (aab 2)) (aab 2))) (aaC aaW ab3 aai (aab 2))) aai) aai) aai))
   (aad (aas (i:=6) nd rfl (Or.inl rfl) (aaC ab8 aef (aaC aaW ab3 (aaC aa2 acf (aaC aa2 acf (aaC aa2 acf (aab 3) (aaC aaW ab3 (aaC aaW ab3 aai (aab 2)) (aab 2))) (aaC aaW ab3 aai (aab 2))) aai) aai) aai))
   (aad (aas (i:=4) nd rfl (Or.inl rfl) (aaC ab8 aef (aaC aaW ab3 (aab 4) aai) aai))
   (aad (aas (i:=5) nd rfl (Or.inl rfl) (aaC ab8 aef (aaC aaW ab3 (aab 5) aai) aai))
   (aad (aas (i:=6) nd rfl (Or.inl rfl) (aaC ab8 aef (aaC aaW ab3 (aab 6) aai) aai))
   (aaj (acw (aeT (aab 1) (aaa (aaC aa2 acf (aaC aaW ab3 (aaC aa2 acf (aaC aaW ab3 (aab 4) aai) (aab 5)) aai) (aab 6)) aaf)))))))))))))
   (aaj (aay (aab 1)))))
theorem af8:aaG ["_law_row_here","_law_many","_law_found"] ["_law_row_here","_law_many"] (aae acZ):=⟨rfl,rfl,rfl,by decide +kernel,rfl,by decide +kernel,by decide +kernel⟩
theorem ail {f:Addr} {fd:FuncData} (F:Fun K "_law_take" "_law_take" acZ f fd)
  (m_len:mg "len"=none)
  : FnOk P w K mg base CX0 1 f fd ["_law_row_here","_law_many"] (spP0 K cl aav):=by
 have nd:=af8.nd
 refine okP (np:=2) (n:=3) F af8 (by decide) (by decide) (b:=aev) (k:=0) fun cdv A outer s H E hr=>?_
 exact (aad (adx PassesOwn.never (PWp.pt (aj3 (aaI ahz s_gt (aaS abx ahH rfl m_len acj (aaa (aab 0) aaf)) aai (aaM _)) (aih (aaI (abo (hu8 hr)) s_eq (ado (aab 0) aai) aai (aaM _))))) (aaj (acw (akl (aab 0) (aaa aai aaf)))))
   (aad (aaY (aaI (abo (hu8 hr)) s_eq (aaS abx ahH rfl m_len acj (aaa (aab 0) aaf)) aai (aaM _)) (aaj (aay aai)) aaE)
   (aad (aas (i:=2) nd rfl (Or.inl rfl) (aaC ab8 aef (ado (aab 0) aai) (aab 1)))
   (aad (ag0 (aaC adg af3 (ado (aab 0) aai) (aab 1)) (aab 0) aai)
   (aaj (aay (aab 2)))))))
theorem ahy:aaG ["_law_one","_law_other"] ["_law_one","_law_other"] (aae ad2):=⟨rfl,rfl,rfl,by decide +kernel,rfl,by decide +kernel,by decide +kernel⟩
theorem ajR {f:Addr} {fd:FuncData} (F:Fun K "_law_gcd" "_law_gcd" ad2 f fd)
  (m_abs:mg "abs"=none)
  : FnOk P w K mg base CX0 1 f fd ["_law_one","_law_other"] (spP0 K cl adw):=by
 have nd:=ahy.nd
 refine okP (np:=2) (n:=2) F ahy (by decide) (by decide) (b:=agM) (k:=0) fun cdv A outer s H E hr=>?_
 exact (aad (aas (i:=0) nd rfl (Or.inl rfl) (aaS aey aj0 rfl m_abs agH (aaa (aab 0) aaf)))
   (aad (aas (i:=1) nd rfl (Or.inl rfl) (aaS aey aj0 rfl m_abs agH (aaa (aab 1) aaf)))
   (aad (adx PassesOwn.never (aaI ahz s_gt (aab 1) aai (aaM _)) (aaj (ajh (i:=0) (j:=1) rfl nd rfl rfl (by decide) rfl rfl (aaa (aab 1) (aaa (aaC ab8 aef (aab 0) (aab 1)) aaf)) rfl)))
   (aaj (aay (aab 0))))))
theorem adZ:aaG ["_law_numbers","_law_by","_law_number"] ["_law_numbers"] (aae abM):=⟨rfl,rfl,rfl,by decide +kernel,rfl,by decide +kernel,by decide +kernel⟩
theorem agn {f:Addr} {fd:FuncData} (F:Fun K "_law_lowest" "_law_lowest" abM f fd)
  (C_wgcd:Cal P w K mg base cl "_law_gcd" 1 ["_law_one","_law_other"] adw)
  (m_tuple:mg "tuple"=none)
  : FnOk P w K mg base CX0 2 f fd ["_law_numbers"] (spP0 K cl abK):=by
 have nd:=adZ.nd
 refine okP (np:=1) (n:=3) F adZ (by decide) (by decide) (b:=ady) (k:=1) fun cdv A outer s H E hr=>?_
 exact (aad (aas (i:=1) nd rfl (Or.inr rfl) aai)
   (aad (afw PassesOwn.never rfl (afh (aab 0)) (abT (i:=2) nd rfl (Or.inl rfl)) (aaj (aas (i:=1) nd rfl (Or.inr rfl) (aaX C_wgcd hr (by decide) rfl (aaa (aab 1) (aaa (aab 2) aaf))))))
   (aad (aaY (aaI (abo (hu8 hr)) s_eq (aab 1) aai (aaM _)) (aaj (aay (abB acJ agX rfl m_tuple aet (aaa (aab 0) aaf)))) aaE)
   (aaj (aay (abB acJ agX rfl m_tuple aet (aaa (aea (own:=["_law_number"]) (cap:=[(1,"_law_by")]) (afK (aae abM) ["_law_numbers","_law_by","_law_number"] rfl rfl rfl (by decide +kernel) (by decide +kernel) (by decide +kernel) (by decide +kernel) (by decide +kernel)) (afh (aab 0)) rfl (fun _ _ _ _=>(abT (i:=0) (show (cmpN ["_law_number"] [(1,"_law_by")]).Nodup by decide +kernel) rfl (Or.inl rfl) (Or.inr rfl))) (fun _ _ _ _=>(aaC adg af3 (aab 0) (aab 1)))) aaf)))))))
theorem aeY:aaG ["_law_number"] ["_law_number"] (aae acp):=⟨rfl,rfl,rfl,by decide +kernel,rfl,by decide +kernel,by decide +kernel⟩
theorem ags {f:Addr} {fd:FuncData} (F:Fun K "_law_whole" "_law_whole" acp f fd)
  (m_bool:mg "bool"=none)
  (m_int:mg "int"=none)
  (m_isinstance:mg "isinstance"=none)
  : FnOk P w K mg base CX0 1 f fd ["_law_number"] (spP0 K cl ab5):=by
 have nd:=aeY.nd
 refine okP (np:=1) (n:=1) F aeY (by decide) (by decide) (b:=aei) (k:=0) fun cdv A outer s H E hr=>?_
 exact (aaj (aay (af6 (ahD (n:="int") rfl m_isinstance rfl m_int ae5 (aab 0)) (ahk (akw (ahD (n:="bool") rfl m_isinstance rfl m_bool ajt (aab 0)))))))
theorem ad5:aaG ["_law_told","_law_many"] ["_law_told","_law_many"] (aae abL):=⟨rfl,rfl,rfl,by decide +kernel,rfl,by decide +kernel,by decide +kernel⟩
theorem aga {f:Addr} {fd:FuncData} (F:Fun K "_law_wholes" "_law_wholes" abL f fd)
  (C_wwhole:Cal P w K mg base cl "_law_whole" 1 ["_law_number"] ab5)
  (m_all:mg "all"=none)
  (m_isinstance:mg "isinstance"=none)
  (m_len:mg "len"=none)
  (m_tuple:mg "tuple"=none)
  : FnOk P w K mg base CX0 2 f fd ["_law_told","_law_many"] (spP0 K cl abP):=by
 have nd:=ad5.nd
 refine okP (np:=2) (n:=2) F ad5 (by decide) (by decide) (b:=adA) (k:=1) fun cdv A outer s H E hr=>?_
 exact (aad (aaY (PWp.pt (af2 (ac1 (acl (ahD (n:="tuple") rfl m_isinstance rfl m_tuple aet (aab 0)))) (aek (aaI (ag7 (hu8 hr)) s_ne (aaS abx ahH rfl m_len acj (aaa (aab 0) aaf)) (aab 1) (aaM _))))) (aaj (aay afm)) aaE)
   (aaj (aay (aaS (ad8 rfl) ajJ rfl m_all ag3 (aaa (aea (own:=["_law_number"]) (cap:=[]) (afK (aae abL) ["_law_told","_law_many"] rfl rfl rfl (by decide +kernel) (by decide +kernel) (by decide +kernel) (by decide +kernel) (by decide +kernel)) (afh (aab 0)) rfl (fun _ _ _ _=>(abT (i:=0) (show (cmpN ["_law_number"] []).Nodup by decide +kernel) rfl (Or.inl rfl) (Or.inr rfl))) (fun _ _ _ _=>(aaX C_wwhole hr (by decide) rfl (aaa (aab 0) aaf)))) aaf)))))
theorem afS:aaG ["_law_top","_law_bottom"] ["_law_top","_law_bottom"] (aae acX):=⟨rfl,rfl,rfl,by decide +kernel,rfl,by decide +kernel,by decide +kernel⟩
theorem aim {f:Addr} {fd:FuncData} (F:Fun K "_law_frac" "_law_frac" acX f fd)
  (C_wlowest:Cal P w K mg base cl "_law_lowest" 2 ["_law_numbers"] abK)
  : FnOk P w K mg base CX0 3 f fd ["_law_top","_law_bottom"] (spP0 K cl acd):=by
 have nd:=afS.nd
 refine okP (np:=2) (n:=2) F afS (by decide) (by decide) (b:=afv) (k:=2) fun cdv A outer s H E hr=>?_
 exact (aad (aaY (aaI ajF s_lt (aab 1) aai (aaM _)) (aaj (aay (aaX C_wlowest hr (by decide) rfl (aaa (ahj (aaa (aaC agy ajE aai (aab 0)) (aaa (aaC agy ajE aai (aab 1)) aaf))) aaf)))) aaE)
   (aaj (aay (aaX C_wlowest hr (by decide) rfl (aaa (ahj (aaa (aab 0) (aaa (aab 1) aaf))) aaf)))))
theorem adt:aaG ["_law_word"] ["_law_word"] (aae abu):=⟨rfl,rfl,rfl,by decide +kernel,rfl,by decide +kernel,by decide +kernel⟩
theorem aff {f:Addr} {fd:FuncData} (F:Fun K "_law_figures" "_law_figures" abu f fd)
  (m_all:mg "all"=none)
  (m_len:mg "len"=none)
  : FnOk P w K mg base CX0 1 f fd ["_law_word"] (spP0 K cl aaP):=by
 have nd:=adt.nd
 refine okP (np:=1) (n:=1) F adt (by decide) (by decide) (b:=acS) (k:=0) fun cdv A outer s H E hr=>?_
 exact (aad (aaY (PWp.pt (af2 (aaI ajF s_lt (aaS abj ad1 rfl m_len acj (aaa (aab 0) aaf)) aai (aaM _)) (aek (aaI ahz s_gt (aaS abj ad1 rfl m_len acj (aaa (aab 0) aaf)) aai (aaM _))))) (aaj (aay afm)) aaE)
   (aaj (aay (aaS (ad8 rfl) ajJ rfl m_all ag3 (aaa (aea (own:=["_law_sign"]) (cap:=[]) (afK (aae abu) ["_law_word"] rfl rfl rfl (by decide +kernel) (by decide +kernel) (by decide +kernel) (by decide +kernel) (by decide +kernel)) (agB (aab 0)) rfl (fun _ _ _ _=>(abT (i:=0) (show (cmpN ["_law_sign"] []).Nodup by decide +kernel) rfl (Or.inl rfl) (Or.inr rfl))) (fun _ _ _ _=>(adH aeX akN (aab 0) abt rfl))) aaf)))))
theorem acN:aaG ["_law_word","_law_sign","_law_low","_law_at"] ["_law_word"] (aae abl):=⟨rfl,rfl,rfl,by decide +kernel,rfl,by decide +kernel,by decide +kernel⟩
theorem ad9 {f:Addr} {fd:FuncData} (F:Fun K "_law_number_of" "_law_number_of" abl f fd)
  (C_wfigures:Cal P w K mg base cl "_law_figures" 1 ["_law_word"] aaP)
  (C_wfrac:Cal P w K mg base cl "_law_frac" 3 ["_law_top","_law_bottom"] acd)
  (m_int:mg "int"=none)
  : FnOk P w K mg base CX0 4 f fd ["_law_word"] (spP0 K cl aaw):=by
 have nd:=acN.nd
 refine okP (np:=1) (n:=4) F acN (by decide) (by decide) (b:=abR) (k:=3) fun cdv A outer s H E hr=>?_
 exact (aad (aas (i:=1) nd rfl (Or.inl rfl) aai)
   (aad (aaY (aaI (abo (hu8 hr)) s_eq (ach (aab 0) abe (abf aai)) abt (aaM _)) (aad (aas (i:=1) nd rfl (Or.inl rfl) (aiV ahw ajb aai))
   (aaj (aas (i:=0) nd rfl (Or.inl rfl) (ach (aab 0) (abf aai) abe)))) aaE)
   (aad (aas (i:=2) nd rfl (Or.inl rfl) abt)
   (aad (aas (i:=3) nd rfl (Or.inl rfl) (afV PySem.F.slot_str_find PySem.F.type_str_find aiP (aab 0) (aaa abt aaf)))
   (aad (aaY (aaI akB s_ge (aab 3) aai (aaM _)) (aad (aas (i:=2) nd rfl (Or.inl rfl) (ach (aab 0) (abf (aaC aa2 acf (aab 3) aai)) abe))
   (aaj (aas (i:=0) nd rfl (Or.inl rfl) (ach (aab 0) abe (abf (aab 3)))))) aaE)
   (aad (aaY (PWp.pt (af2 (ac1 (acl (aaX C_wfigures hr (by decide) rfl (aaa (aab 0) aaf)))) (aek (ac1 (acl (aaX C_wfigures hr (by decide) rfl (aaa (aab 2) aaf))))))) (aaj (aay ahv)) aaE)
   (aad (aaY (aaI (abo (hu8 hr)) s_eq (abB abE af5 rfl m_int ae5 (aaa (aab 2) aaf)) aai (aaM _)) (aaj (aay ahv)) aaE)
   (aaj (aay (aaX C_wfrac hr (by decide) rfl (aaa (aaC aaW ab3 (aab 1) (abB abE af5 rfl m_int ae5 (aaa (aab 0) aaf))) (aaa (abB abE af5 rfl m_int ae5 (aaa (aab 2) aaf)) aaf))))))))))))
theorem adF:aaG ["_law_row_here","_law_some","_law_most"] ["_law_row_here"] (aae abH):=⟨rfl,rfl,rfl,by decide +kernel,rfl,by decide +kernel,by decide +kernel⟩
theorem aft {f:Addr} {fd:FuncData} (F:Fun K "_law_sign_at" "_law_sign_at" abH f fd)
  (C_wtake:Cal P w K mg base cl "_law_take" 1 ["_law_row_here","_law_many"] aav)
  (m_len:mg "len"=none)
  : FnOk P w K mg base CX0 2 f fd ["_law_row_here"] (spP0 K cl abJ):=by
 have nd:=adF.nd
 refine okP (np:=1) (n:=3) F adF (by decide) (by decide) (b:=ac0) (k:=1) fun cdv A outer s H E hr=>?_
 exact (aad (aas (i:=1) nd rfl (Or.inl rfl) abt)
   (aad (aaY (aaI (abo (hu8 hr)) s_eq (aaX C_wtake hr (by decide) rfl (aaa (aab 0) (aaa aai aaf))) aai (aaM _)) (aaj (aay (aix (aab 1) (aaX C_wtake hr (by decide) rfl (aaa (aab 0) (aaa (aaS abj ad1 rfl m_len acj (aaa (aab 1) aaf)) aaf)))))) aaE)
   (aad (aas (i:=2) nd rfl (Or.inl rfl) abt)
   (aaj (aay (aix (aab 2) (aaX C_wtake hr (by decide) rfl (aaa (aab 0) (aaa (aaS abj ad1 rfl m_len acj (aaa (aab 2) aaf)) aaf)))))))))
theorem adX:aaG ["_law_row_here","_law_line","_law_way","_law_at","_law_sign"] ["_law_row_here","_law_line"] (aae ab2):=⟨rfl,rfl,rfl,by decide +kernel,rfl,by decide +kernel,by decide +kernel⟩
theorem agl {f:Addr} {fd:FuncData} (F:Fun K "_law_spoilt" "_law_spoilt" ab2 f fd)
  (C_wtake:Cal P w K mg base cl "_law_take" 1 ["_law_row_here","_law_many"] aav)
  (C_wsign_at:Cal P w K mg base cl "_law_sign_at" 2 ["_law_row_here"] abJ)
  (m_len:mg "len"=none)
  : FnOk P w K mg base CX0 3 f fd ["_law_row_here","_law_line"] (spP0 K cl aa8):=by
 have nd:=adX.nd
 refine okP (np:=2) (n:=5) F adX (by decide) (by decide) (b:=adL) (k:=2) fun cdv A outer s H E hr=>?_
 exact (aad (aas (i:=2) nd rfl (Or.inl rfl) (aaX C_wtake hr (by decide) rfl (aaa (aab 0) (aaa aai aaf))))
   (aad (aaY (aaI ahz s_gt (aab 2) aai (aaM _)) (aaj (aay (aab 1))) aaE)
   (aad (aas (i:=3) nd rfl (Or.inl rfl) (aaX C_wtake hr (by decide) rfl (aaa (aab 0) (aaa (aaC aa2 acf (aaS abj ad1 rfl m_len acj (aaa (aab 1) aaf)) aai) aaf))))
   (aad (aas (i:=4) nd rfl (Or.inl rfl) (aaX C_wsign_at hr (by decide) rfl (aaa (aab 0) aaf)))
   (aad (aaY (aaI (abo (hu8 hr)) s_eq (aab 2) aai (aaM _)) (aaj (aay (aaC aa0 acz (aaC aa0 acz (ach (aab 1) abe (abf (aab 3))) (aab 4)) (ach (aab 1) (abf (aab 3)) abe)))) aaE)
   (aad (aaY (aaI (abo (hu8 hr)) s_eq (aab 2) aai (aaM _)) (aaj (aay (aaC aa0 acz (ach (aab 1) abe (abf (aab 3))) (ach (aab 1) (abf (aaC aa2 acf (aab 3) aai)) abe)))) aaE)
   (aaj (aay (aaC aa0 acz (aaC aa0 acz (ach (aab 1) abe (abf (aab 3))) (aab 4)) (ach (aab 1) (abf (aaC aa2 acf (aab 3) aai)) abe))))))))))
theorem afZ:aaG ["_law_many","_law_found","_law_k"] ["_law_many"] (aae acT):=⟨rfl,rfl,rfl,by decide +kernel,rfl,by decide +kernel,by decide +kernel⟩
theorem aiu {f:Addr} {fd:FuncData} (F:Fun K "_law_tens" "_law_tens" acT f fd)
  (m_range:mg "range"=none)
  : FnOk P w K mg base CX0 1 f fd ["_law_many"] (spP0 K cl acU):=by
 have nd:=afZ.nd
 refine okP (np:=1) (n:=3) F afZ (by decide) (by decide) (b:=afo) (k:=0) fun cdv A outer s H E hr=>?_
 exact (aad (aas (i:=1) nd rfl (Or.inl rfl) aai)
   (aad (afw PassesOwn.never rfl (agi rfl m_range (aaa (aab 0) aaf)) (abT (i:=2) nd rfl (Or.inl rfl)) (aaj (aas (i:=1) nd rfl (Or.inl rfl) (aaC aaW ab3 (aab 1) aai))))
   (aaj (aay (aab 1)))))
theorem adl:aaG ["_law_row_here","_law_many"] ["_law_row_here"] (aae abI):=⟨rfl,rfl,rfl,by decide +kernel,rfl,by decide +kernel,by decide +kernel⟩
theorem afr {f:Addr} {fd:FuncData} (F:Fun K "_law_word_of" "_law_word_of" abI f fd)
  (C_wtake:Cal P w K mg base cl "_law_take" 1 ["_law_row_here","_law_many"] aav)
  (C_wtens:Cal P w K mg base cl "_law_tens" 1 ["_law_many"] acU)
  (m_str:mg "str"=none)
  : FnOk P w K mg base CX0 2 f fd ["_law_row_here"] (spP0 K cl aaQ):=by
 have nd:=adl.nd
 refine okP (np:=1) (n:=2) F adl (by decide) (by decide) (b:=acx) (k:=1) fun cdv A outer s H E hr=>?_
 exact (aad (aas (i:=1) nd rfl (Or.inl rfl) (aaC aa2 acf aai (aaX C_wtake hr (by decide) rfl (aaa (aab 0) (aaa aai aaf)))))
   (aad (aaY (aaI (abo (hu8 hr)) s_eq (aaX C_wtake hr (by decide) rfl (aaa (aab 0) (aaa aai aaf))) aai (aaM _)) (aaj (aas (i:=1) nd rfl (Or.inl rfl) (aaC aa2 acf aai (aaX C_wtake hr (by decide) rfl (aaa (aab 0) (aaa aai aaf)))))) aaE)
   (aaj (aay (afV PySem.F.slot_str_zfill PySem.F.type_str_zfill ait (abB ac8 akM rfl m_str aiO (aaa (aaX C_wtake hr (by decide) rfl (aaa (aab 0) (aaa (aaX C_wtens hr (by decide) rfl (aaa (aab 1) aaf)) aaf))) aaf)) (aaa (aab 1) aaf))))))
theorem acg:aaG ["_law_row_here","_law_word","_law_way"] ["_law_row_here"] (aae aa1):=⟨rfl,rfl,rfl,by decide +kernel,rfl,by decide +kernel,by decide +kernel⟩
theorem adC {f:Addr} {fd:FuncData} (F:Fun K "_law_number_word" "_law_number_word" aa1 f fd)
  (C_wword_of:Cal P w K mg base cl "_law_word_of" 2 ["_law_row_here"] aaQ)
  (C_wtake:Cal P w K mg base cl "_law_take" 1 ["_law_row_here","_law_many"] aav)
  (m_str:mg "str"=none)
  : FnOk P w K mg base CX0 3 f fd ["_law_row_here"] (spP0 K cl aaD):=by
 have nd:=acg.nd
 refine okP (np:=1) (n:=3) F acg (by decide) (by decide) (b:=abW) (k:=2) fun cdv A outer s H E hr=>?_
 exact (aad (aas (i:=1) nd rfl (Or.inl rfl) (aaX C_wword_of hr (by decide) rfl (aaa (aab 0) aaf)))
   (aad (aas (i:=2) nd rfl (Or.inl rfl) (aaX C_wtake hr (by decide) rfl (aaa (aab 0) (aaa aai aaf))))
   (aad (aaY (PWp.pt (af2 (aaI (abo (hu8 hr)) s_eq (aab 2) aai (aaM _)) (aek (aaI (abo (hu8 hr)) s_eq (aab 2) aai (aaM _))))) (aaj (aas (i:=1) nd rfl (Or.inl rfl) (aaC aa0 acz (aaC aa0 acz (aab 1) abt) (aaX C_wword_of hr (by decide) rfl (aaa (aab 0) aaf))))) aaE)
   (aad (aaY (aaI (abo (hu8 hr)) s_eq (aab 2) aai (aaM _)) (aaj (aas (i:=1) nd rfl (Or.inl rfl) (aaC aa0 acz (aaC aa0 acz (aab 1) abt) (abB ac8 akM rfl m_str aiO (aaa (aaC aa2 acf aai (aaX C_wtake hr (by decide) rfl (aaa (aab 0) (aaa aai aaf)))) aaf))))) aaE)
   (aad (aaY (aaI (abo (hu8 hr)) s_eq (aaX C_wtake hr (by decide) rfl (aaa (aab 0) (aaa aai aaf))) aai (aaM _)) (aaj (aas (i:=1) nd rfl (Or.inl rfl) (aaC aa0 acz abt (aab 1)))) aaE)
   (aaj (aay (aab 1))))))))
theorem aeB:aaG ["_law_line","_law_found","e"] ["_law_line"] (aae acv):=⟨rfl,rfl,rfl,by decide +kernel,rfl,by decide +kernel,by decide +kernel⟩
theorem agz {f:Addr} {fd:FuncData} (F:Fun K "_law_asked" "_law_asked" acv f fd)
  {a_read_number:Addr} {d_read_number:FuncData}
  (GX_read_number:FnOk P w K mg base (CX1 P w) 3 a_read_number d_read_number ["line"] (spP K cl aaq))
  (G_read_number:FnOk P w K mg base CX0 3 a_read_number d_read_number ["line"] (spP0 K cl aaq)) (aaH:acb K d_read_number ["line"] []) (k_read_number:PySem.W.keepIn K (.ref a_read_number)=true) (n_read_number:mg "read_number"=some (.ref a_read_number))
  (m_ValueError:mg "ValueError"=none)
  (m_isinstance:mg "isinstance"=none)
  (q_HallError:mg "HallError"=some (.ref (cl "HallError"))) (x_HallError:PySem.W.excIn K (cl "HallError") abz "ValueError.__new__"=true)
  (q_NoText:mg "NoText"=some (.ref (cl "NoText"))) (x_NoText:PySem.W.excIn K (cl "NoText") abz "ValueError.__new__"=true)
  (q_TooGreat:mg "TooGreat"=some (.ref (cl "TooGreat"))) (x_TooGreat:PySem.W.excIn K (cl "TooGreat") abz "ValueError.__new__"=true)
  (Z_NoText:XCls K (cl "NoText"))
  (kt_NoText_HallError:PySem.W.kitOne K (.ref (cl "NoText")) (.ref (cl "HallError"))=some true)
  (kt_NoText_TooGreat:PySem.W.kitOne K (.ref (cl "NoText")) (.ref (cl "TooGreat"))=some false)
  (kt_NoText_ValueError:PySem.W.kitOne K (.ref (cl "NoText")) (.type "ValueError")=some true)
  : FnOk P w K mg base CX0 4 f fd ["_law_line"] (spP0 K cl aaO):=by
 have nd:=aeB.nd
 refine okP (np:=1) (n:=3) F aeB (by decide) (by decide) (b:=aeA) (k:=3) fun cdv A outer s H E hr=>?_
 exact (aad (aas (i:=1) nd rfl (Or.inl rfl) ahv)
   (aad (ahX (i:=2) (jv:=1) (nn:=3) (c:="NoText") (up:=fun ρ=>(((ρ.set 2 none).set 1 (some (.pv (.tup [.str "refused",.bl true,.bl true,.bl false])))).set 2 none)) rfl nd rfl rfl rfl q_NoText x_NoText (ajU rfl abt (ai1 rfl GX_read_number (hr.mono (by decide)) rfl n_read_number k_read_number aaH .nil Dv.nil (aaa (aab 0) aaf))) rfl (Or.inl rfl) (fun y oe hc=>(ag2 (aiD (i:=1) nd rfl (Or.inl rfl) (aiJ (abq ahF (abq (acK (aem Z_NoText List.mem_cons_self hc) rfl m_isinstance PyProof.Rows.boot_isinstance (abq (pv 2) (abq (afs (v:=.ref (cl "HallError")) rfl q_HallError rfl) adI))) (abq (acK (aem Z_NoText List.mem_cons_self hc) rfl m_isinstance PyProof.Rows.boot_isinstance (abq (pv 2) (abq (agY rfl m_ValueError aes (v:=.ty "ValueError") rfl) adI))) (abq (acK (aem Z_NoText List.mem_cons_self hc) rfl m_isinstance PyProof.Rows.boot_isinstance (abq (pv 2) (abq (afs (v:=.ref (cl "TooGreat")) rfl q_TooGreat rfl) adI))) adI)))))))) (fun y oe D σ H p S ρ sm hl ev k=>by
    match σ,hl,ev with
    | [s0,s1,s2],_,ev=>exact ⟨_,rfl,_,true,.inr ⟨_,rfl,kt_NoText_HallError⟩,rfl,_,rfl,_,true,.inl ⟨_,rfl,kt_NoText_ValueError⟩,rfl,_,rfl,_,false,.inr ⟨_,rfl,kt_NoText_TooGreat⟩,rfl,(by show 4≤PySem.sizeLine; decide),fun t ht=>k _ _ (aa3 ht) ((RepE.setT (vs:=[.str "refused",.bl true,.bl true,.bl false]) sm (ev.forget 2 (some (.ref y))) ht (by decide) (by decide) 1).forget 2 none)⟩))
   (aaj (aay (aab 1)))))
theorem aeV:aaG ["_law_found","_law_due"] ["_law_found","_law_due"] (aae acs):=⟨rfl,rfl,rfl,by decide +kernel,rfl,by decide +kernel,by decide +kernel⟩
theorem agN {f:Addr} {fd:FuncData} (F:Fun K "_law_meets" "_law_meets" acs f fd)
  (C_wwholes:Cal P w K mg base cl "_law_wholes" 2 ["_law_told","_law_many"] abP)
  : FnOk P w K mg base CX0 3 f fd ["_law_found","_law_due"] (spP0 K cl aaR):=by
 have nd:=aeV.nd
 refine okP (np:=2) (n:=2) F aeV (by decide) (by decide) (b:=aej) (k:=2) fun cdv A outer s H E hr=>?_
 exact (aad (aaY (akf (aab 1)) (aaj (aay (adH (abo (hu8 hr)) s_eq (aab 0) (aiL (aaa abt (aaa afm (aaa afm (aaa afm aaf))))) (aaM _)))) aaE)
   (aaj (aay (af6 (adH (abo (hu8 hr)) s_eq (ado (aab 0) aai) abt (aaM _)) (af6 (aaX C_wwholes hr (by decide) rfl (aaa (ado (aab 0) aai) (aaa aai aaf))) (ahk (adH (abo (hu8 hr)) s_eq (ado (aab 0) aai) (aab 1) (aaM _))))))))
theorem aiN:aaG ["_law_script","_law_row_here","_law_line","_law_other","_law_due"] ["_law_script"] (aae aer):=⟨rfl,rfl,rfl,by decide +kernel,rfl,by decide +kernel,by decide +kernel⟩
theorem akH {f:Addr} {fd:FuncData} (F:Fun K "law" "law" aer f fd)
  (C_wrow:Cal P w K mg base cl "_law_row" 1 ["_law_script"] ac7)
  (C_wspoilt:Cal P w K mg base cl "_law_spoilt" 3 ["_law_row_here","_law_line"] aa8)
  (C_wnumber_word:Cal P w K mg base cl "_law_number_word" 3 ["_law_row_here"] aaD)
  (C_wtake:Cal P w K mg base cl "_law_take" 1 ["_law_row_here","_law_many"] aav)
  (C_wnumber_of:Cal P w K mg base cl "_law_number_of" 4 ["_law_word"] aaw)
  (C_wmeets:Cal P w K mg base cl "_law_meets" 3 ["_law_found","_law_due"] aaR)
  (C_wasked:Cal P w K mg base cl "_law_asked" 4 ["_law_line"] aaO)
  : FnOk P w K mg base CX0 5 f fd ["_law_script"] (spP0 K cl ajI):=by
 have nd:=aiN.nd
 refine okP (np:=1) (n:=5) F aiN (by decide) (by decide) (b:=ajD) (k:=4) fun cdv A outer s H E hr=>?_
 exact (aad (aas (i:=1) nd rfl (Or.inl rfl) (alB C_wrow hr (by decide) rfl (aaa (aab 0) aaf)))
   (aad (aas (i:=2) nd rfl (Or.inl rfl) (aaX C_wspoilt hr (by decide) rfl (aaa (aab 1) (aaa (aaX C_wnumber_word hr (by decide) rfl (aaa (aab 1) aaf)) aaf))))
   (aad (aaY (aaI (abo (hu8 hr)) s_eq (aaX C_wtake hr (by decide) rfl (aaa (aab 1) (aaa aai aaf))) aai (aaM _)) (aaj (aas (i:=2) nd rfl (Or.inl rfl) (ado (ahj (aaa abt (aaa abt (aaa abt (aaa abt aaf))))) (aaX C_wtake hr (by decide) rfl (aaa (aab 1) (aaa aai aaf)))))) aaE)
   (aad (aas (i:=3) nd rfl (Or.inl rfl) (aaX C_wspoilt hr (by decide) rfl (aaa (aab 1) (aaa (aaX C_wnumber_word hr (by decide) rfl (aaa (aab 1) aaf)) aaf))))
   (aad (aas (i:=4) nd rfl (Or.inl rfl) (aaX C_wnumber_of hr (by decide) rfl (aaa (aab 2) aaf)))
   (aad (aaY (ac1 (acl (aaX C_wmeets hr (by decide) rfl (aaa (aaX C_wasked hr (by decide) rfl (aaa (aab 2) aaf)) (aaa (aab 4) aaf))))) (aaj (aay afm)) aaE)
   (aad (aaY (ac1 (acl (aaX C_wmeets hr (by decide) rfl (aaa (aaX C_wasked hr (by decide) rfl (aaa (aab 3) aaf)) (aaa (aaX C_wnumber_of hr (by decide) rfl (aaa (aab 3) aaf)) aaf))))) (aaj (aay afm)) aaE)
   (aaj (aay (aaX C_wmeets hr (by decide) rfl (aaa (aaX C_wasked hr (by decide) rfl (aaa (aab 2) aaf)) (aaa (aab 4) aaf))))))))))))
end
def EC:=And.intro @aaU.eq_1 (And.intro @sSeq.eq_1 (And.intro @sIf.eq_1 (And.intro @mTst.eq_1 (And.intro @mNot.eq_1 (And.intro @mAnd.eq_1 (And.intro @mOr.eq_1 (And.intro @abD.eq_1 (And.intro @mOrV.eq_1 (And.intro @mIf.eq_1 (And.intro @mBin.eq_1 (And.intro @mUn.eq_1 (And.intro @mR.eq_1 (And.intro @mN.eq_1 (And.intro @aac.eq_1 (And.intro @mVar.eq_1 (And.intro @mC.eq_1 (And.intro @mNil.eq_1 (And.intro @Res.bind.eq_1 (And.intro @Res.bind.eq_2 (And.intro @Res.bind.eq_3 (And.intro @abN.eq_1 (And.intro @aa6.eq_1 (And.intro @aby.eq_1 (And.intro @abF.eq_1 (And.intro @abi.eq_1 (And.intro @abi.eq_2 (And.intro @rd.eq_1 (And.intro @rd.eq_2 (And.intro @abm.eq_1 (And.intro @abm.eq_2 (And.intro @abm.eq_3 (And.intro @okO.eq_1 (And.intro @okO.eq_2 (And.intro @fLen.eq_1 (And.intro @fLen.eq_2 (And.intro @fLen.eq_3 (And.intro @fTup.eq_1 (And.intro @fLst.eq_1 (And.intro @fNeg.eq_1 (And.intro @fNeg.eq_2 (And.intro @fNot.eq_1 (And.intro @fNot.eq_2 (And.intro @tst.eq_1 (And.intro @tst.eq_2 (And.intro @SRes.of.eq_1 (And.intro @SRes.of.eq_2 (And.intro @SRes.of.eq_3 (And.intro @sRet.eq_1 (And.intro @aca.eq_1 (And.intro @sNil.eq_1 (And.intro @abh.eq_1 (And.intro @sSet.eq_1 (And.intro @aaT.eq_1 (And.intro @aaT.eq_2 (And.intro @aaT.eq_3 (And.intro @aaT.eq_4 (And.intro @abA.eq_1 (And.intro @abA.eq_2 (And.intro @aag.eq_1 (And.intro @abv.eq_1 (@aa9.eq_1)))))))))))))))))))))))))))))))))))))))))))))))))))))))))))))
def Row (S:Sto) (k:Nat) (ns:List Int):Prop:=S[k]?=some (.lst (ns.map .int))
theorem Row.lt {S:Sto} {k:Nat} {ns:List Int} (h:Row S k ns):k < S.length:=(List.getElem?_eq_some_iff.mp h).1
theorem Row.set {S:Sto} {k:Nat} {ns:List Int} (h:Row S k ns) (ms:List Int):Row (S.set k (.lst (ms.map .int))) k ms:=List.getElem?_set_self h.lt
theorem adT {r:Rho} {k:Nat} {m:AV}:∀ (ns:List Int) (S:Sto),Row S k ns→∃ n ns',aaN (mAnd (mTst (mBin fGt (mR fLen (aac (mVar 0) mNil)) (mC (.int 0)))) (mTst (mBin fEq (mBin fIx (mVar 0) (mC (.int 0))) (mC (.int 0))))) (abh (mPop (mVar 0) (aac (mC (.int 0)) mNil))) n (some (.ref k) :: some m :: r) S=.nx (some (.ref k) :: some m :: r) (S.set k (.lst (ns'.map .int)))∧ns'.length≤ns.length∧(ns'=[]∨∃ i t,ns'=i :: t∧i≠0)
 | [],S,h=>by
  refine ⟨1,[],?_,Nat.le_refl _,.inl rfl⟩
  have h':S[k]?=some (.lst []):=h
  have e:S.set k (.lst (([]:List Int).map .int))=S:=List.ext_getElem? fun i=>by
   by_cases q:k=i
   ·subst q; rw [List.getElem?_set_self h.lt,h']; rfl
   ·rw [List.getElem?_set_ne q]
  rw [e]
  simp [aaN,mAnd,mTst,mBin,mR,aac,mVar,mC,mNil,Res.bind,aby,abi,rd,h',okO,fLen,aa6,fGt,i2,tst,SRes.of]
 | i :: t,S,h=>by
  have h':S[k]?=some (.lst (.int i :: t.map .int)):=h
  by_cases hi:i=0
  ·subst hi
   have hr:Row (S.set k (.lst (t.map .int))) k t:=h.set t
   obtain ⟨n,ns',e,l,q⟩:=adT (r:=r) (m:=m) t _ hr
   refine ⟨n+1,ns',?_,by simp; omega,q⟩
   rw [List.set_set] at e
   rw [← e]
   have hl:(0:Int) < (t.length:Int)+1:=by omega
   simp [aaN,mAnd,mTst,mBin,mR,aac,mVar,mC,mNil,Res.bind,aby,abi,rd,h',okO,fLen,aa6,fGt,i2,tst,SRes.of,fIx,atI,ixN,fEq,eqN,abh,mPop,afg,ajS,seqIndex?,hl]
  ·refine ⟨1,i :: t,?_,Nat.le_refl _,.inr ⟨i,t,rfl,hi⟩⟩
   have e:S.set k (.lst ((i :: t).map .int))=S:=List.ext_getElem? fun j=>by
    by_cases q:k=j
    ·subst q; rw [List.getElem?_set_self h.lt,h']; rfl
    ·rw [List.getElem?_set_ne q]
   rw [e]
   have hl:(0:Int) < (t.length:Int)+1:=by omega
   simp [aaN,mAnd,mTst,mBin,mR,aac,mVar,mC,mNil,Res.bind,aby,abi,rd,h',okO,fLen,aa6,fGt,i2,tst,SRes.of,fIx,atI,ixN,fEq,eqN,hl,hi]
theorem ajv {S:Sto} {k:Nat} {ns:List Int} {m:Int} (h:Row S k ns) (hm:0 < m) (b:Bd 8000 m):∃ (v:Int) (ns':List Int),aav [.ref k,.pv (.int m)] S=.ok (.pv (.int v)) (S.set k (.lst (ns'.map .int)))∧0≤v∧v < m∧ns'.length≤ns.length:=by
 obtain ⟨n,ns',e,l,q⟩:=adT (r:=[none]) (m:=.pv (.int m)) ns S h
 have hr:=h.set ns'
 have hl1:(S.set k (.lst (ns'.map .int))).length=S.length:=by simp
 have hss:∀ x,(S.set k (.lst (ns'.map .int))).set k x=S.set k x:=fun x=>List.set_set ..
 generalize hS1:S.set k (.lst (ns'.map .int))=S1 at e hr hl1 hss
 have w:=adk e (by simp)
 rcases q with rfl | ⟨i,t,rfl,hi⟩
 ·refine ⟨0,[],?_,Int.le_refl 0,hm,Nat.zero_le _⟩
  rw [hS1]
  have hr':S1[k]?=some (.lst []):=hr
  have tk:List.take S.length S1=S1:=List.take_of_length_le (by omega)
  unfold aav fnM aev
  simp [aaU,sSeq,w,sIf,mTst,mBin,mR,aac,mVar,mC,mNil,Res.bind,aby,abi,rd,hr',okO,fLen,aa6,fEq,eqN,tst,SRes.of,sRet,aaT,abA,tk]
 ·have hr':S1[k]?=some (.lst (.int i :: t.map .int)):=hr
  refine ⟨i.fmod m,i.fdiv m :: t,?_,Int.fmod_nonneg_of_pos i hm,Int.fmod_lt_of_pos i hm,l⟩
  rw [← hss]
  have tk:∀ x,List.take S.length (S1.set k x)=S1.set k x:=fun x=>List.take_of_length_le (by simp; omega)
  have hl:¬ ((t.length:Int)+1=0):=by omega
  have hq:afj i m:=⟨by omega,b⟩
  have hm0:m≠0:=by omega
  unfold aav fnM aev
  simp [aaU,sSeq,w,sIf,mTst,mBin,mR,aac,mVar,mC,mNil,Res.bind,aby,abi,rd,hr',okO,fLen,aa6,fEq,eqN,tst,SRes.of,sRet,aaT,abA,tk,sNil,hl,sSet,fMod,ael,i2,cI,fIx,atI,ixN,hm0,hq,ahl,afg,ahS]
theorem aal (i j:Int):fGt (.int i) (.int j)=some (.bl (decide (j < i))):=rfl
theorem aam (i j:Int):fLt (.int i) (.int j)=some (.bl (decide (i < j))):=rfl
theorem aan (i j:Int):fGe (.int i) (.int j)=some (.bl (decide (j≤i))):=rfl
theorem aap (i j:Int):fLe (.int i) (.int j)=some (.bl (decide (i≤j))):=rfl
theorem aah (i j:Int):fSub (.int i) (.int j)=some (.int (i - j)):=rfl
theorem acC {i j:Int} (h:afi i j):fMul (.int i) (.int j)=some (.int (i*j)):=by
 simp [fMul,i2,cI,h]
theorem aed {i j:Int} (h:afj i j):ael (.int i) (.int j)=some (.int (i.fdiv j)):=by
 simp [ael,i2,cI,h]
theorem ack {i j:Int} (h:j≠0):fMod (.int i) (.int j)=some (.int (i.fmod j)):=by
 simp [fMod,i2,cI,h]
theorem ajC {i j:Int} (h:CPow i j):fPow (.int i) (.int j)=some (.int (i ^ j.toNat)):=by
 simp [fPow,i2,cI,h]
theorem ajk (n:Int) (S:Sto):ad4 [.pv (.int n)] S=.ok (.pv (.int (sg n))) S:=by
 unfold ad4 fnM ag8 sg
 by_cases h1:0 < n
 ·simp [aaU,sSeq,sIf,mTst,mBin,mVar,mC,Res.bind,aa6,rd,okO,fGt,i2,tst,SRes.of,sRet,aaT,abA,h1]
 ·by_cases h2:n < 0
  ·simp [aaU,sSeq,sIf,mTst,mBin,mVar,mC,Res.bind,aa6,rd,okO,fGt,fLt,i2,tst,SRes.of,sRet,aaT,abA,h1,h2,sNil,mUn,abN,fNeg]
  ·simp [aaU,sSeq,sIf,mTst,mBin,mVar,mC,Res.bind,aa6,rd,okO,fGt,fLt,i2,tst,SRes.of,sRet,aaT,abA,h1,h2,sNil,mUn,abN,fNeg]
theorem acQ (S:Sto):∀ (m:Nat) (a b:Int) (x:Option AV),b.natAbs≤m→∃ (n:Nat) (g:Int) (x':Option AV),aaN (mTst (mBin fNe (mVar 1) (mC (.int 0)))) (sSeq (sSet 2 (mBin fMod (mVar 0) (mVar 1))) (sSeq (sSet 0 (mVar 1)) (sSet 1 (mVar 2)))) n [some (.pv (.int a)),some (.pv (.int b)),x] S=.nx [some (.pv (.int g)),some (.pv (.int 0)),x'] S∧g.natAbs=Int.gcd a b
 | 0,a,b,x,h=>by
  have hb:b=0:=by omega
  subst hb
  refine ⟨1,a,x,?_,by simp⟩
  simp [aaN,aaU,sSeq,sIf,mTst,mNot,mAnd,mOr,abD,mOrV,mIf,mBin,mUn,mR,mN,aac,mVar,mC,mNil,Res.bind,abN,aa6,aby,abF,abi,rd,abm,okO,fLen,fAbs,aak,aao,fTup,fLst,fIx,atI,ixN,fEq,fNe,eqN,aal,aam,aan,aap,fAdd,aah,fNeg,fNot,tst,SRes.of,sRet,aca,sNil,abh,sSet,aaT,abA,aag,abv,aa9,frz,aau]
 | m+1,a,b,x,h=>by
  by_cases hb:b=0
  ·subst hb
   refine ⟨1,a,x,?_,by simp⟩
   simp [aaN,aaU,sSeq,sIf,mTst,mNot,mAnd,mOr,abD,mOrV,mIf,mBin,mUn,mR,mN,aac,mVar,mC,mNil,Res.bind,abN,aa6,aby,abF,abi,rd,abm,okO,fLen,fAbs,aak,aao,fTup,fLst,fIx,atI,ixN,fEq,fNe,eqN,aal,aam,aan,aap,fAdd,aah,fNeg,fNot,tst,SRes.of,sRet,aca,sNil,abh,sSet,aaT,abA,aag,abv,aa9,frz,aau]
  ·have hl:=aeR a hb
   obtain ⟨n,g,x',e,q⟩:=acQ S m b (a.fmod b) (some (.pv (.int (a.fmod b)))) (by omega)
   refine ⟨n+1,g,x',?_,by rw [q,afO]⟩
   rw [← e]
   simp [aaN,aaU,sSeq,sIf,mTst,mNot,mAnd,mOr,abD,mOrV,mIf,mBin,mUn,mR,mN,aac,mVar,mC,mNil,Res.bind,abN,aa6,aby,abF,abi,rd,abm,okO,fLen,fAbs,aak,aao,fTup,fLst,fIx,atI,ixN,fEq,fNe,eqN,aal,aam,aan,aap,fAdd,aah,fNeg,fNot,tst,SRes.of,sRet,aca,sNil,abh,sSet,aaT,abA,aag,abv,aa9,frz,aau,ack hb,hb]
theorem agj (a b:Int) (S:Sto):ab1 [.pv (.int a),.pv (.int b)] S=.ok (.pv (.int (Int.gcd a b:Nat))) S:=by
 obtain ⟨n,g,x',e,q⟩:=acQ S b.natAbs a b none (Nat.le_refl _)
 have w:=adk e (by simp)
 unfold ab1 fnM adu
 have hg:(if g < 0 then -g else g)=((Int.gcd a b:Nat):Int):=by rw [← q]; exact ahC g
 simp [aaU,sSeq,sIf,mTst,mNot,mAnd,mOr,abD,mOrV,mIf,mBin,mUn,mR,mN,aac,mVar,mC,mNil,Res.bind,abN,aa6,aby,abF,abi,rd,abm,okO,fLen,fAbs,aak,aao,fTup,fLst,fIx,atI,ixN,fEq,fNe,eqN,aal,aam,aan,aap,fAdd,aah,fNeg,fNot,tst,SRes.of,sRet,aca,sNil,abh,sSet,aaT,abA,aag,abv,aa9,frz,aau,w,hg]
theorem aeN (S:Sto):∀ (m:Nat) (a b:Int),0≤a→0≤b→b.natAbs≤m→∃ (n:Nat),aaN (mTst (mBin fGt (mVar 1) (mC (.int 0)))) (sPar 0 1 (aac (mVar 1) (aac (mBin fMod (mVar 0) (mVar 1)) mNil))) n [some (.pv (.int a)),some (.pv (.int b))] S=.nx [some (.pv (.int (Int.gcd a b:Nat))),some (.pv (.int 0))] S
 | 0,a,b,ha,hb,h=>by
  have hb:b=0:=by omega
  subst hb
  have ea:((Int.gcd a 0:Nat):Int)=a:=by simp; omega
  refine ⟨1,?_⟩
  rw [ea]
  simp [aaN,aaU,sSeq,sIf,mTst,mNot,mAnd,mOr,abD,mOrV,mIf,mBin,mUn,mR,mN,aac,mVar,mC,mNil,Res.bind,abN,aa6,aby,abF,abi,rd,abm,okO,fLen,fAbs,aak,aao,fTup,fLst,fIx,atI,ixN,fEq,fNe,eqN,aal,aam,aan,aap,fAdd,aah,fNeg,fNot,tst,SRes.of,sRet,aca,sNil,abh,sSet,aaT,abA,aag,abv,aa9,frz,aau]
 | m+1,a,b,ha,hb,h=>by
  by_cases h0:b=0
  ·subst h0
   have ea:((Int.gcd a 0:Nat):Int)=a:=by simp; omega
   refine ⟨1,?_⟩
   rw [ea]
   simp [aaN,aaU,sSeq,sIf,mTst,mNot,mAnd,mOr,abD,mOrV,mIf,mBin,mUn,mR,mN,aac,mVar,mC,mNil,Res.bind,abN,aa6,aby,abF,abi,rd,abm,okO,fLen,fAbs,aak,aao,fTup,fLst,fIx,atI,ixN,fEq,fNe,eqN,aal,aam,aan,aap,fAdd,aah,fNeg,fNot,tst,SRes.of,sRet,aca,sNil,abh,sSet,aaT,abA,aag,abv,aa9,frz,aau]
  ·have hl:=aeR a h0
   have hp:0 < b:=by omega
   obtain ⟨n,e⟩:=aeN S m b (a.fmod b) hb (Int.fmod_nonneg_of_pos a hp) (by omega)
   refine ⟨n+1,?_⟩
   rw [← afO,← e]
   simp [aaN,aaU,sSeq,sIf,mTst,mNot,mAnd,mOr,abD,mOrV,mIf,mBin,mUn,mR,mN,aac,mVar,mC,mNil,Res.bind,abN,aa6,aby,abF,abi,rd,abm,okO,fLen,fAbs,aak,aao,fTup,fLst,fIx,atI,ixN,fEq,fNe,eqN,aal,aam,aan,aap,fAdd,aah,fNeg,fNot,tst,SRes.of,sRet,aca,sNil,abh,sSet,aaT,abA,aag,abv,aa9,frz,aau,ack h0,hp,sPar]
theorem akj (a b:Int) (S:Sto):adw [.pv (.int a),.pv (.int b)] S=.ok (.pv (.int (Int.gcd a b:Nat))) S:=by
 have ha:0≤(if a < 0 then -a else a):=by split <;> omega
 have hb:0≤(if b < 0 then -b else b):=by split <;> omega
 obtain ⟨n,e⟩:=aeN S _ _ _ ha hb (Nat.le_refl _)
 have w:=adk e (by simp)
 have eg:Int.gcd (if a < 0 then -a else a) (if b < 0 then -b else b)=Int.gcd a b:=by
  rw [ahC,ahC]
  simp [Int.gcd]
 rw [eg] at w
 unfold adw fnM agM
 simp [aaU,sSeq,sIf,mTst,mNot,mAnd,mOr,abD,mOrV,mIf,mBin,mUn,mR,mN,aac,mVar,mC,mNil,Res.bind,abN,aa6,aby,abF,abi,rd,abm,okO,fLen,fAbs,aak,aao,fTup,fLst,fIx,atI,ixN,fEq,fNe,eqN,aal,aam,aan,aap,fAdd,aah,fNeg,fNot,tst,SRes.of,sRet,aca,sNil,abh,sSet,aaT,abA,aag,abv,aa9,frz,aau,w]
theorem af1 (S:Sto) (v2:Option AV):∀ (ns:List Int) (g:Int) (a:AV),∃ v',abX [] (gN 2) (sSet 1 (aag adw [] (aac (mVar 1) (aac (mVar 2) mNil)))) (ns.map .int) [some a,some (.pv (.int g)),v2] S=.nx [some a,some (.pv (.int (gl ns g))),v'] S
 | [],g,a=>⟨v2,adN⟩
 | n :: ns,g,a=>by
  obtain ⟨v',e⟩:=af1 S (some (.pv (.int n))) ns (Int.gcd g n:Nat) a
  refine ⟨v',?_⟩
  show abX [] _ _ (.int n :: ns.map .int) _ S=_
  rw [acq]
  simp [gN,aaU,sSeq,sIf,mTst,mNot,mAnd,mOr,abD,mOrV,mIf,mBin,mUn,mR,mN,aac,mVar,mC,mNil,Res.bind,abN,aa6,aby,abF,abi,rd,abm,okO,fLen,fAbs,aak,aao,fTup,fLst,fIx,atI,ixN,fEq,fNe,eqN,aal,aam,aan,aap,fAdd,aah,fNeg,fNot,tst,SRes.of,sRet,aca,sNil,abh,sSet,aaT,abA,aag,abv,aa9,frz,aau,akj]
  exact e
theorem af0 (S:Sto) (g:Int) (hg:g≠0) (b:Bd 8000 g):∀ (ns:List Int) (x:Option AV),abn [] (gN 0) (mBin ael (mVar 0) (mVar 1)) (ns.map .int) [x,some (.pv (.int g))] S=.ok ((ns.map fun n=>n.fdiv g).map .int) S
 | [],x=>aeE
 | n :: ns,x=>by
  have ih:=af0 S g hg b ns (some (.pv (.int n)))
  show abn [] _ _ (.int n :: ns.map .int) _ S=_
  rw [adV]
  simp [gN,aaU,sSeq,sIf,mTst,mNot,mAnd,mOr,abD,mOrV,mIf,mBin,mUn,mR,mN,aac,mVar,mC,mNil,Res.bind,abN,aa6,aby,abF,abi,rd,abm,okO,fLen,fAbs,aak,aao,fTup,fLst,fIx,atI,ixN,fEq,fNe,eqN,aal,aam,aan,aap,fAdd,aah,fNeg,fNot,tst,SRes.of,sRet,aca,sNil,abh,sSet,aaT,abA,aag,abv,aa9,frz,aau,aed (show afj n g from ⟨hg,b⟩),ih]
theorem aeL (ns:List Int) (S:Sto) (hb:∀ n∈ns,Bd 8000 n):abK [.pv (.lst (ns.map .int))] S=.ok (.pv (.tup ((low ns).map .int))) S:=by
 obtain ⟨v',e⟩:=af1 S none ns 0 (.pv (.lst (ns.map .int)))
 unfold abK fnM ady
 by_cases h:gl ns 0=0
 ·have el:low ns=ns:=by unfold low; rw [if_pos h]
  simp [aaU,sSeq,sIf,mTst,mNot,mAnd,mOr,abD,mOrV,mIf,mBin,mUn,mR,mN,aac,mVar,mC,mNil,Res.bind,abN,aa6,aby,abF,abi,rd,abm,okO,fLen,fAbs,aak,aao,fTup,fLst,fIx,atI,ixN,fEq,fNe,eqN,aal,aam,aan,aap,fAdd,aah,fNeg,fNot,tst,SRes.of,sRet,aca,sNil,abh,sSet,aaT,abA,aag,abv,aa9,frz,aau,sFor,mIt,adq,e,h,el]
 ·have el:low ns=ns.map fun n=>n.fdiv (gl ns 0):=by
   unfold low
   rw [if_neg h]
   exact List.map_congr_left fun n hn=>(Int.fdiv_eq_ediv_of_dvd ((ahE ns 0).2 n hn)).symm
  have bg:Bd 8000 (gl ns 0):=akv (Bd.of (n:=0) (by simp) (Nat.two_pow_pos 8000)) hb
  have ec:=af0 S (gl ns 0) h bg ns none
  simp [aaU,sSeq,sIf,mTst,mNot,mAnd,mOr,abD,mOrV,mIf,mBin,mUn,mR,mN,aac,mVar,mC,mNil,Res.bind,abN,aa6,aby,abF,abi,rd,abm,okO,fLen,fAbs,aak,aao,fTup,fLst,fIx,atI,ixN,fEq,fNe,eqN,aal,aam,aan,aap,fAdd,aah,fNeg,fNot,tst,SRes.of,sRet,aca,sNil,abh,sSet,aaT,abA,aag,abv,aa9,frz,aau,sFor,mIt,adq,e,h,el,adb,cmpR,ec]
theorem ahP (n:Int) (S:Sto):ab5 [.pv (.int n)] S=.ok (.pv (.bl true)) S:=by
 unfold ab5 fnM aei
 simp [aaU,sSeq,sIf,mTst,mNot,mAnd,mOr,abD,mOrV,mIf,mBin,mUn,mR,mN,aac,mVar,mC,mNil,Res.bind,abN,aa6,aby,abF,abi,rd,abm,okO,fLen,fAbs,aak,aao,fTup,fLst,fIx,atI,ixN,fEq,fNe,eqN,aal,aam,aan,aap,fAdd,aah,fNeg,fNot,tst,SRes.of,sRet,aca,sNil,abh,sSet,aaT,abA,aag,abv,aa9,frz,aau,fIsi]
theorem adp (S:Sto):∀ (ns:List Int) (x:Option AV),abn [] (gN 0) (aag ab5 [] (aac (mVar 0) mNil)) (ns.map .int) [x] S=.ok (ns.map fun _=>.bl true) S
 | [],x=>aeE
 | n :: ns,x=>by
  have ih:=adp S ns (some (.pv (.int n)))
  show abn [] _ _ (.int n :: ns.map .int) _ S=_
  rw [adV]
  simp [gN,aaU,sSeq,sIf,mTst,mNot,mAnd,mOr,abD,mOrV,mIf,mBin,mUn,mR,mN,aac,mVar,mC,mNil,Res.bind,abN,aa6,aby,abF,abi,rd,abm,okO,fLen,fAbs,aak,aao,fTup,fLst,fIx,atI,ixN,fEq,fNe,eqN,aal,aam,aan,aap,fAdd,aah,fNeg,fNot,tst,SRes.of,sRet,aca,sNil,abh,sSet,aaT,abA,aag,abv,aa9,frz,aau,ahP,ih]
theorem afT:∀ (ns:List Int),adP (ns.map fun _=>PV.bl true)=some (ns.map fun _=>true)
 | []=>rfl
 | n :: ns=>by
  show adP (.bl true :: ns.map fun _=>PV.bl true)=_
  unfold adP
  rw [afT ns]
  rfl
theorem ahg (ns:List Int) (S:Sto):abP [.pv (.tup (ns.map .int)),.pv (.int ns.length)] S=.ok (.pv (.bl true)) S:=by
 unfold abP fnM adA
 have e:=adp S ns none
 have ea:((ns.map fun _=>true).all id)=true:=by simp
 simp [aaU,sSeq,sIf,mTst,mNot,mAnd,mOr,abD,mOrV,mIf,mBin,mUn,mR,mN,aac,mVar,mC,mNil,Res.bind,abN,aa6,aby,abF,abi,rd,abm,okO,fLen,fAbs,aak,aao,fTup,fLst,fIx,atI,ixN,fEq,fNe,eqN,aal,aam,aan,aap,fAdd,aah,fNeg,fNot,tst,SRes.of,sRet,aca,sNil,abh,sSet,aaT,abA,aag,abv,aa9,frz,aau,fIsi,adb,mIt,adq,cmpR,e,fAll,afT]
theorem agE:∀ (n:Nat) (ns:List Int),abZ (List.zipWith (eqN n) (ns.map .int) (ns.map .int))=some (ns.map fun _=>true)
 | n,[]=>rfl
 | n,m :: ns=>by
  have ih:=agE n ns
  simp only [List.map_cons,List.zipWith_cons_cons]
  have e:eqN n (.int m) (.int m)=some true:=by cases n <;> simp [eqN]
  rw [e]
  unfold abZ
  rw [ih]
theorem aiS (n:Nat) (ns:List Int):eqN (n+1) (.tup (ns.map .int)) (.tup (ns.map .int))=some true:=by
 rw [eqN,agE]
 simp
theorem aeq (i:Int) {j:Int} (h1:-(2 ^ 64) < j) (h2:j < 2 ^ 64):fMul (.int i) (.int j)=some (.int (i*j)):=acC (.inl (.inr ⟨h1,h2⟩))
theorem p18:fPow (.int 10) (.int 18)=some (.int 1000000000000000000):=ajC (i:=10) (j:=18) ⟨by decide,by decide,by decide⟩
theorem aew {k:Nat} {a:AV}:∀ (cs:List Int) (n:Nat) (acc:List Int) (S:Sto) (v2 v3 v4 v5 v6:Option AV),Row S k acc→acc.length+cs.length≤63→n+cs.length≤63→∃ (acc':List Int) (w2 w3 w4 w5 w6:Option AV),abX [] (gT 2 (ac6 (gN 2) (ac6 (gN 3) ahc))) ((sIf (mTst (mBin fGe (mVar 3) (mBin fPow (mC (.int 10)) (mC (.int 18))))) (abh (mApp (mVar 1) (aac (mBin fSub (mVar 3) (mBin fPow (mC (.int 10)) (mC (.int 18)))) mNil))) (sSeq (sSet 4 (mBin fMod (mBin fMul (mBin fAdd (mBin fAdd (mBin fAdd (mVar 3) (mBin fMul (mBin fMul (mC (.int 7)) (mVar 2)) (mVar 2))) (mBin fMul (mC (.int 13)) (mVar 2))) (mC (.int 5))) (mC (.int 48271))) (mC (.int 2147483647))))
 (sSeq (sSet 5 (mBin fMod (mBin fMul (mBin fAdd (mBin fAdd (mBin fAdd (mVar 3) (mBin fMul (mBin fMul (mC (.int 11)) (mVar 2)) (mVar 2))) (mBin fMul (mC (.int 17)) (mVar 2))) (mC (.int 3))) (mC (.int 40692))) (mC (.int 2147483399))))
 (sSeq (sSet 6 (mBin fMod (mBin fMul (mBin fAdd (mBin fAdd (mBin fAdd (mVar 3) (mBin fMul (mBin fMul (mC (.int 5)) (mVar 2)) (mVar 2))) (mBin fMul (mC (.int 29)) (mVar 2))) (mC (.int 8))) (mC (.int 39373))) (mC (.int 2147483587))))
 (sSeq (sSet 4 (mBin fMod (mBin fMul (mVar 4) (mC (.int 52021))) (mC (.int 1000000007))))
 (sSeq (sSet 5 (mBin fMod (mBin fMul (mVar 5) (mC (.int 30011))) (mC (.int 998244353))))
 (sSeq (sSet 6 (mBin fMod (mBin fMul (mVar 6) (mC (.int 45989))) (mC (.int 1000000009))))
 (abh (mApp (mVar 1) (aac (mBin fAdd (mBin fMul (mBin fAdd (mBin fMul (mVar 4) (mC (.int 998244353))) (mVar 5)) (mC (.int 1000000009))) (mVar 6)) mNil))))))))))) (acG n (cs.map .int)) [some a,some (.ref k),v2,v3,v4,v5,v6] S=.nx [some a,some (.ref k),w2,w3,w4,w5,w6] (S.set k (.lst (acc'.map .int)))∧acc'.length≤63
 | [],n,acc,S,v2,v3,v4,v5,v6,h,hl,_=>by
  refine ⟨acc,v2,v3,v4,v5,v6,?_,by simpa using hl⟩
  have e:S.set k (.lst (acc.map .int))=S:=List.ext_getElem? fun j=>by
   by_cases q:k=j
   ·subst q; rw [List.getElem?_set_self h.lt]; exact h.symm
   ·rw [List.getElem?_set_ne q]
  rw [e]
  exact adN
 | x :: cs,n,acc,S,v2,v3,v4,v5,v6,h,hl,hn=>by
  simp only [List.length_cons] at hl hn
  have h':S[k]?=some (.lst (acc.map .int)):=h
  have hlen:acc.length < 16777216:=by omega
  have hk1:-(2 ^ 64) < (n:Int):=by omega
  have hk2:(n:Int) < 2 ^ 64:=by omega
  by_cases c:(1000000000000000000:Int)≤x
  ·obtain ⟨acc',w2,w3,w4,w5,w6,e,q⟩:=aew (k:=k) (a:=a) cs (n+1) (acc++[x - 1000000000000000000]) (S.set k (.lst ((acc++[x - 1000000000000000000]).map .int))) (some (.pv (.int n))) (some (.pv (.int x))) v4 v5 v6 (h.set _) (by simp; omega) (by omega)
   refine ⟨acc',w2,w3,w4,w5,w6,?_,q⟩
   rw [List.set_set] at e
   rw [← e]
   show abX [] _ _ (.tup [.int n,.int x] :: acG (n+1) (cs.map .int)) _ S=_
   rw [acq]
   simp [gT,ac6,ahc,gN,aaU,sSeq,sIf,mTst,mNot,mAnd,mOr,abD,mOrV,mIf,mBin,mUn,mR,mN,aac,mVar,mC,mNil,Res.bind,abN,aa6,aby,abF,abi,rd,abm,okO,fLen,fAbs,aak,aao,fTup,fLst,fIx,atI,ixN,fEq,fNe,eqN,aal,aam,aan,aap,fAdd,aah,fNeg,fNot,tst,SRes.of,sRet,aca,sNil,abh,sSet,aaT,abA,aag,abv,aa9,frz,aau,p18,c,mApp,afg,ahJ,h',hlen]
  ·obtain ⟨acc',w2,w3,w4,w5,w6,e,q⟩:=aew (k:=k) (a:=a) cs (n+1) (acc++[((((x+7*n*n+13*n+5)*48271).fmod 2147483647*52021).fmod 1000000007*998244353+(((x+11*n*n+17*n+3)*40692).fmod 2147483399*30011).fmod 998244353)*1000000009+(((x+5*n*n+29*n+8)*39373).fmod 2147483587*45989).fmod 1000000009]) (S.set k (.lst ((acc++[((((x+7*n*n+13*n+5)*48271).fmod 2147483647*52021).fmod 1000000007*998244353+(((x+11*n*n+17*n+3)*40692).fmod 2147483399*30011).fmod 998244353)*1000000009+(((x+5*n*n+29*n+8)*39373).fmod 2147483587*45989).fmod 1000000009]).map .int))) (some (.pv (.int n))) (some (.pv (.int x))) (some (.pv (.int ((((x+7*n*n+13*n+5)*48271).fmod 2147483647*52021).fmod 1000000007)))) (some (.pv (.int ((((x+11*n*n+17*n+3)*40692).fmod 2147483399*30011).fmod 998244353)))) (some (.pv (.int ((((x+5*n*n+29*n+8)*39373).fmod 2147483587*45989).fmod 1000000009)))) (h.set _) (by simp; omega) (by omega)
   refine ⟨acc',w2,w3,w4,w5,w6,?_,q⟩
   rw [List.set_set] at e
   rw [← e]
   show abX [] _ _ (.tup [.int n,.int x] :: acG (n+1) (cs.map .int)) _ S=_
   rw [acq]
   simp [gT,ac6,ahc,gN,aaU,sSeq,sIf,mTst,mNot,mAnd,mOr,abD,mOrV,mIf,mBin,mUn,mR,mN,aac,mVar,mC,mNil,Res.bind,abN,aa6,aby,abF,abi,rd,abm,okO,fLen,fAbs,aak,aao,fTup,fLst,fIx,atI,ixN,fEq,fNe,eqN,aal,aam,aan,aap,fAdd,aah,fNeg,fNot,tst,SRes.of,sRet,aca,sNil,abh,sSet,aaT,abA,aag,abv,aa9,frz,aau,p18,c,mApp,afg,ahJ,h',hlen,aeq _ hk1 hk2,aeq _ (show -(2 ^ 64) < (48271:Int) by decide) (by decide),aeq _ (show -(2 ^ 64) < (40692:Int) by decide) (by decide),aeq _ (show -(2 ^ 64) < (39373:Int) by decide) (by decide),aeq _ (show -(2 ^ 64) < (52021:Int) by decide) (by decide),aeq _ (show -(2 ^ 64) < (30011:Int) by decide) (by decide),aeq _ (show -(2 ^ 64) < (45989:Int) by decide) (by decide),aeq _ (show -(2 ^ 64) < (998244353:Int) by decide) (by decide),aeq _ (show -(2 ^ 64) < (1000000009:Int) by decide) (by decide),
    ack (show (2147483647:Int)≠0 by decide),ack (show (2147483399:Int)≠0 by decide),ack (show (2147483587:Int)≠0 by decide),ack (show (1000000007:Int)≠0 by decide),ack (show (998244353:Int)≠0 by decide),ack (show (1000000009:Int)≠0 by decide)]
theorem akz (ns:List Int) (S:Sto) (h:ns.length≤63):∃ ms:List Int,ac7 [.pv (.lst (ns.map .int))] S=.ok (.ref S.length) (S++[.lst (ms.map .int)])∧ms.length≤63:=by
 have hr:Row (S++[.lst []]) S.length []:=by unfold Row; simp
 obtain ⟨ms,w2,w3,w4,w5,w6,e,q⟩:=aew (a:=.pv (.lst (ns.map .int))) ns 0 [] (S++[.lst []]) none none none none none hr (by simpa using h) (by simpa using h)
 have ec:cutP (ns.map .int) none (some 63)=ns.map .int:=by
  unfold cutP
  have e1:HT.sIx (ns.map PV.int).length 0 none=0:=rfl
  have e2:HT.sIx (ns.map PV.int).length (ns.map PV.int).length (some 63)=(ns.map PV.int).length:=by
   have:=HT.sIx_nat (ns.map PV.int).length (ns.map PV.int).length 63
   rw [show ((63:Nat):Int)=63 from rfl] at this
   rw [this,List.length_map]
   omega
  rw [e1,e2,List.drop_zero,Nat.sub_zero,List.take_length]
 refine ⟨ms,?_,q⟩
 have es:(S++[SO.lst []]).set S.length (.lst (ms.map .int))=S++[.lst (ms.map .int)]:=by simp
 rw [es] at e
 unfold ac7 fnM agR
 simp [aaU,sSeq,sIf,mTst,mNot,mAnd,mOr,abD,mOrV,mIf,mBin,mUn,mR,mN,aac,mVar,mC,mNil,Res.bind,abN,aa6,aby,abF,abi,rd,abm,okO,fLen,fAbs,aak,aao,fTup,fLst,fIx,atI,ixN,fEq,fNe,eqN,aal,aam,aan,aap,fAdd,aah,fNeg,fNot,tst,SRes.of,sRet,aca,sNil,abh,sSet,aaT,abA,aag,abv,aa9,frz,aau,sFor,mNew,ai7,ajN,mSl,mO0,mO1,aa4,fSl,agQ,ec,e]
theorem sm8 {m:Int} (h0:0≤m) (h:m < 1024):Bd 8000 m:=Bd.of (n:=1023) (by omega) (Nat.lt_of_lt_of_le (show 1023 < 2 ^ 10 by decide) (Nat.pow_le_pow_right (by decide) (by decide)))
theorem aiH (n:Nat) (a b:Int):eqN n (.int a) (.int b)=some (a == b):=by cases n <;> rfl
theorem ajX (t b:Int) (S:Sto) (ht:Bd 8000 t) (hb:Bd 8000 b):acd [.pv (.int t),.pv (.int b)] S=.ok (.pv (.tup ((fr t b).map .int))) S:=by
 unfold acd fnM afv fr
 have e1:=aeL [0 - t,0 - b] S (by
  intro n hn
  rcases List.mem_cons.mp hn with rfl | hn
  ·rw [Int.zero_sub]; exact ht.neg
  ·have:n=0 - b:=by simpa using hn
   rw [this,Int.zero_sub]; exact hb.neg)
 have e2:=aeL [t,b] S (by
  intro n hn
  rcases List.mem_cons.mp hn with rfl | hn
  ·exact ht
  ·have:n=b:=by simpa using hn
   rw [this]; exact hb)
 by_cases h:b < 0
 ·simp only [List.map_cons,List.map_nil,Int.zero_sub] at e1
  simp [EC,fAbs,aak,aao,fIx,atI,ixN,fEq,fNe,eqN,aal,aam,aan,aap,fAdd,aah,frz,aau,h,e1]
 ·simp only [List.map_cons,List.map_nil] at e2
  simp [EC,fAbs,aak,aao,fIx,atI,ixN,fEq,fNe,eqN,aal,aam,aan,aap,fAdd,aah,frz,aau,h,e2]
theorem afk (t b:Int) (S:Sto) (ht:Bd 7000 t) (hb:Bd 7000 b) (h:b≠0):abb [.pv (.int t),.pv (.int b)] S=.ok (.pv (.tup ((fr t b).map .int))) S:=by
 have gb:Bd 7000 ((Int.gcd t b:Nat):Int):=ht.gcd hb
 have sb:Bd 2 (sg b):=by
  unfold sg
  split
  ·unfold Bd; simp
  ·split <;> (unfold Bd; simp)
 have mb:afi (sg b) (Int.gcd t b:Nat):=.inr ⟨sb.mono (by decide),gb.mono (by decide)⟩
 have nz:sg b*(Int.gcd t b:Nat)≠0:=by
  have gp:=aiv (mem2 t b) h
  rw [afU] at gp
  rcases af4 h with ⟨_,s⟩ | ⟨_,s⟩ <;> rw [s] <;> omega
 have qb:∀ x,afj x (sg b*(Int.gcd t b:Nat)):=fun x=>⟨nz,(sb.mul gb).mono (by decide)⟩
 rw [← ahq h]
 unfold abb fnM ab4
 simp [EC,fAbs,aak,aao,fIx,atI,ixN,fEq,fNe,eqN,aal,aam,aan,aap,fAdd,aah,frz,aau,h,ajk,agj,acC mb,aed (qb t),aed (qb b)]
abbrev v2 (x y w:Int):PV:=.tup [.int x,.int y,.int w]
abbrev v3 (x y z w:Int):PV:=.tup [.int x,.int y,.int z,.int w]
theorem ajl {G:Gd} {g:GM} {me:ME} {x:PV} {r:List PV} {ρ:Rho} {S:Sto} (h:gOk G S):abn G g me (x :: r) ρ S=(match g x ρ with
  | none=>.fail
  | some ρ1=>match me ρ1 S with
   | .ok (.pv y) S1=>match abn G g me r ρ1 S1 with
    | .ok ys S2=>.ok (y :: ys) S2
    | _=>.fail
   | _=>.fail):=by
 rw [abn,if_pos h]
 all_goals rfl
theorem ahM {G:Gd} {g:GM} {me:ME} {ρ:Rho} {S:Sto} (h:gOk G S):abn G g me [] ρ S=.ok [] S:=by
 rw [abn,if_pos h]
abbrev tv (us:List Int):PV:=.tup (us.map .int)
theorem aeG {G:Gd} {S:Sto} (hG:gOk G S) {me:ME} {tail:Rho} {α:Type} (A B:α→PV):∀ (L:List α) (x:Option AV),(∀ v∈L,me (some (.pv (A v)) :: tail) S=.ok (.pv (B v)) S)→abn G (gN 0) me (L.map A) (x :: tail) S=.ok (L.map B) S
 | [],x,_=>ahM hG
 | v :: L,x,h=>by
  have e:=h v List.mem_cons_self
  have e':=aeG hG A B L (some (.pv (A v))) fun u hu=>h u (List.mem_cons_of_mem _ hu)
  rw [List.map_cons,ajl hG]
  simp [gN,e,e']
abbrev li (xs:List Int):List PV:=xs.map .int
abbrev tx (L:List Nat):Str:=⟨L.toArray⟩
theorem aeb (x:Str):tx x.cps.toList=x:=by
 cases x
 simp [tx]
theorem abd (L:List Nat):(tx L).length=L.length:=by
 show L.toArray.size=L.length
 simp
theorem ag6 (A B:List Nat):tx A++tx B=tx (A++B):=by
 have e:=PySem.W.KT.app_list (tx A) (tx B)
 rw [← aeb (tx A++tx B),e]
theorem aiG {A B:List Nat} (h:tx A=tx B):A=B:=by
 have e:=congrArg (fun x:Str=>x.cps.toList) h
 simpa using e
theorem ako (A B:List Nat):(tx A == tx B)=decide (A=B):=by
 by_cases h:A=B
 ·subst h
  simp
 ·have:tx A≠tx B:=fun z=>h (aiG z)
  simp [h,this]
theorem aeu:("/":Str)=tx [47]:=by kernel_rfl
theorem afx:("-":Str)=tx [45]:=by kernel_rfl
theorem alG:("1":Str)=tx [49]:=by kernel_rfl
def isD (c:Nat):Bool:=decide (48≤c) && decide (c≤57)
theorem aiq:∀ c:Nat,c < 128→hasS "0123456789" ⟨#[c]⟩=isD c:=by decide +kernel
theorem aiw {L:List Nat} (h:∀ c∈L,c < 128):(tx L).cps.all (· < 128)=true:=by
 simpa [tx] using h
theorem afH (bs:List Bool):fAll [.lst (bs.map .bl)]=some (.bl (bs.all id)):=by
 have e:adP (bs.map PV.bl)=some bs:=by
  induction bs with
  | nil=>rfl
  | cons v L ih =>
   show (match adP (L.map PV.bl) with | some bs=>some (v :: bs) | none=>none)=_
   rw [ih]
 simp only [fAll,e,Option.map_some]
theorem aeD (S:Sto) (L:List Nat) (h:∀ c∈L,c < 128):abn [] (gN 0) (mBin fInS (mVar 0) (mC (.str "0123456789"))) (chs (tx L)) [none] S=.ok ((L.map isD).map .bl) S:=by
 have e:chs (tx L)=L.map fun c=>PV.str ⟨#[c]⟩:=by unfold chs; simp
 rw [e,List.map_map]
 refine aeG (adM S) (fun c:Nat=>PV.str ⟨#[c]⟩) (fun c=>.bl (isD c)) L none fun c hc=>?_
 have q:=aiq c (h c hc)
 simp [mBin,mVar,mC,Res.bind,aa6,rd,fInS,q,okO]
def okD (L:List Nat):Bool:=decide (1≤L.length) && decide (L.length≤60) && L.all isD
def vD (L:List Nat):Int:=((PySem.NumText.digitsVal L:Nat):Int)
theorem adv {L:List Nat} (h:okD L=true):acV [.str (tx L)]=some (.int (vD L)):=by
 unfold okD at h
 rw [Bool.and_eq_true,Bool.and_eq_true,decide_eq_true_eq,decide_eq_true_eq] at h
 have hl:(tx L).length≤640:=by rw [abd]; omega
 have hd:PySem.NumText.AllDigits (tx L).cps.toList:=by
  intro c hc
  have hc:c∈L:=by simpa [tx] using hc
  have:=List.all_eq_true.mp h.2 c hc
  unfold isD at this
  rw [Bool.and_eq_true,decide_eq_true_eq,decide_eq_true_eq] at this
  exact this
 have hn:(tx L).cps.toList≠[]:=by
  intro z
  have:L=[]:=by simpa [tx] using z
  rw [this] at h
  exact absurd h.1.1 (by decide)
 have e:=PySem.intText_digits hd hn (by omega)
 show (if (tx L).length≤640 then (PySem.intText? (tx L)).map PV.int else none)=_
 rw [if_pos hl,e]
 simp [vD,tx]
theorem aeQ:∀ (L:List Nat) (a:Nat),(∀ c∈L,isD c=true)→L.foldl (fun acc c=>acc*10+(c - 48)) a < (a+1)*10 ^ L.length
 | [],a,_=>by simp
 | c :: L,a,h=>by
  have hc:=h c List.mem_cons_self
  unfold isD at hc
  rw [Bool.and_eq_true,decide_eq_true_eq,decide_eq_true_eq] at hc
  have ih:=aeQ L (a*10+(c - 48)) fun d hd=>h d (List.mem_cons_of_mem _ hd)
  rw [List.foldl_cons,List.length_cons,Nat.pow_succ]
  have:a*10+(c - 48)+1≤(a+1)*10:=by omega
  have:=Nat.mul_le_mul_right (10 ^ L.length) this
  have e:(a+1)*10*10 ^ L.length=(a+1)*(10 ^ L.length*10):=by rw [Nat.mul_assoc,Nat.mul_comm 10]
  omega
theorem ajP {L:List Nat} (h:okD L=true):0≤vD L∧vD L < 10 ^ 60:=by
 unfold okD at h
 rw [Bool.and_eq_true,Bool.and_eq_true,decide_eq_true_eq,decide_eq_true_eq] at h
 have a:=aeQ L 0 (List.all_eq_true.mp h.2)
 have b:10 ^ L.length≤10 ^ 60:=Nat.pow_le_pow_right (by decide) h.1.2
 unfold vD PySem.NumText.digitsVal
 refine ⟨by omega,?_⟩
 have:List.foldl (fun acc c=>acc*10+(c - 48)) 0 L < 10 ^ 60:=by omega
 exact_mod_cast this
theorem abC (S:Sto) (b:Bool):aaA [.pv (.bl b)] S=if b=true then .ok (.pv .non) S else .exc "NoText" S:=by
 unfold aaA fnM aaK
 cases b <;> simp [EC,fAbs,aak,aao,fIx,atI,ixN,fEq,fNe,eqN,aal,aam,aan,aap,fAdd,aah,frz,aau,afY]
theorem aeH (S:Sto) {L:List Nat} (ha:∀ c∈L,c < 128) (hl:L.length≤10000):aat [.pv (.str (tx L))] S=if okD L=true then .ok (.pv (.int (vD L))) S else .exc "NoText" S:=by
 have z:(tx L).length≤16777216:=by rw [abd]; omega
 have ec:=aeD S L ha
 have eb:=afH (L.map isD)
 have ll:((tx L).length:Int)=(L.length:Int):=by rw [abd]
 have a8:=aiw ha
 have ei:=@adv L
 have rf:=abC S
 have hb:abk=(sSeq (abh (abv aaA [] (aac (abD (adz fLe fLe (mC (.int 1)) (mR abY (aac (mVar 0) mNil)) (mC (.int 60))) (mR fAll (aac (adb ["sign"] [] (mItS (mVar 0)) (gN 0) (mBin fInS (mVar 0) (mC (.str "0123456789")))) mNil))) mNil))) (sRet (mR acV (aac (mVar 0) mNil)))):=rfl
 have al:(L.map isD).all id=L.all isD:=by simp [List.all_map]
 rw [al] at eb
 unfold okD at ei ⊢
 generalize (mBin fInS (mVar 0) (mC (.str "0123456789")))=ME1 at *
 generalize (L.map isD).map PV.bl=BL at *
 generalize L.all isD=B at *
 generalize vD L=V at *
 generalize L.length=N at *
 generalize tx L=T at *
 unfold aat fnM
 rw [hb]
 by_cases h1:(1:Int)≤(N:Int)
 ·have h1':1≤N:=by omega
  by_cases h2:(N:Int)≤60
  ·have h2':N≤60:=by omega
   cases B with
   | true =>
    have ei:=ei (by simp [h1',h2'])
    simp [EC,fAbs,aak,aao,fIx,atI,ixN,fEq,fNe,eqN,aal,aam,aan,aap,fAdd,aah,frz,aau,adz,abY,z,ll,h1,h2,h1',h2',adb,cmpR,mItS,ahb,a8,ec,eb,rf,ei]
   | false=>simp [EC,fAbs,aak,aao,fIx,atI,ixN,fEq,fNe,eqN,aal,aam,aan,aap,fAdd,aah,frz,aau,adz,abY,z,ll,h1,h2,h1',h2',adb,cmpR,mItS,ahb,a8,ec,eb,rf]
  ·have h2':¬ N≤60:=by omega
   simp [EC,fAbs,aak,aao,fIx,atI,ixN,fEq,fNe,eqN,aal,aam,aan,aap,fAdd,aah,frz,aau,adz,abY,z,ll,h1,h2,h1',h2',rf]
 ·have h1':¬ 1≤N:=by omega
  simp [EC,fAbs,aak,aao,fIx,atI,ixN,fEq,fNe,eqN,aal,aam,aan,aap,fAdd,aah,frz,aau,adz,abY,z,ll,h1,h1',rf]
theorem agG (L:List Nat) (i:Nat):Txt.slice (tx L) (some (i:Int)) none=tx (L.drop i):=by
 have hl:=abd L
 by_cases h:i≤L.length
 ·rw [PyProof.Rows.slice_from_eq (b:=((tx L).length:Int)) (by omega) (by omega) rfl]
  have e1:((i:Int)).toNat=i:=by omega
  have e2:(((tx L).length:Int) - (i:Int)).toNat=L.length - i:=by omega
  rw [e1,e2]
  have:(tx L).cps.toList=L:=by simp [tx]
  rw [this,List.take_of_length_le (by rw [List.length_drop]; exact Nat.le_refl _)]
 ·rw [PyProof.Rows.slice_beyond (by omega),List.drop_of_length_le (by omega)]
  rfl
theorem akq (L:List Nat) (i:Nat) (h:i≤L.length):Txt.slice (tx L) none (some (i:Int))=tx (L.take i):=by
 have hl:=abd L
 have e:=beq_iff_eq.mp (PyProof.Rows.slice_closes_toL (x:=tx L) (j:=(i:Int)) (by omega) (by omega))
 rw [e]
 have e1:((i:Int) - 0).toNat=i:=by omega
 have:(tx L).cps.toList=L:=by simp [tx]
 rw [e1,this]
 rfl
theorem aju:Txt.slice (tx []) none (some 1)=tx []:=by kernel_rfl
theorem ajB (L:List Nat):Txt.slice (tx L) none (some 1)=tx (L.take 1):=by
 cases L with
 | nil=>exact aju
 | cons c L=>exact akq (c :: L) 1 (by simp)
theorem ajs (L:List Nat) (c:Nat):Txt.startswith (tx L) (tx [c])=decide (L.head?=some c):=by
 have e:=StrLaws.subAt_one (tx L) c 0
 have h0:(tx L).cps.toList[0]?=L.head?:=by
  have:(tx L).cps.toList=L:=by simp [tx]
  rw [this]
  cases L <;> rfl
 rw [h0] at e
 unfold Txt.startswith
 by_cases h:L.head?=some c
 ·obtain ⟨a,b⟩:=e.mpr h
  have a:0+(tx [c]).length≤(tx L).length:=a
  have b:Builtin.Str.subAt (tx L) (tx [c]) 0=true:=b
  rw [Nat.zero_add] at a
  simp [h,a,b]
 ·have n:¬ (0+(tx [c]).length≤(tx L).length∧Builtin.Str.subAt (tx L) (tx [c]) 0=true):=fun z=>h (e.mp z)
  simp only [h,decide_false]
  by_cases a:0+(tx [c]).length≤(tx L).length
  ·have b:Builtin.Str.subAt (tx L) (tx [c]) 0=false:=by
    cases q:Builtin.Str.subAt (tx L) (tx [c]) 0 with
    | false=>rfl
    | true=>exact absurd ⟨a,q⟩ n
   simp [b]
  ·rw [Nat.zero_add] at a
   simp [a]
theorem afL (L:List Nat) (c i:Nat):StrLaws.At (tx L) (tx [c]) (tx L).length i↔L[i]?=some c:=by
 have e:=StrLaws.subAt_one (tx L) c i
 have:(tx L).cps.toList=L:=by simp [tx]
 rw [this] at e
 exact e
theorem ai6 {L:List Nat} {c:Nat} (h:c ∉ L):Txt.find (tx L) (tx [c])=-1:=by
 rcases PyProof.Rows.find_whole (tx L) (tx [c]) with ⟨e,_⟩ | ⟨i,_,a,_⟩
 ·exact e
 ·exact absurd (List.mem_of_getElem? ((afL L c i).mp a)) h
theorem aiW {A B:List Nat} {c:Nat} (h:c ∉ A):Txt.find (tx (A++c :: B)) (tx [c])=(A.length:Int):=by
 have here:(A++c :: B)[A.length]?=some c:=by simp
 rcases PyProof.Rows.find_whole (tx (A++c :: B)) (tx [c]) with ⟨_,n⟩ | ⟨i,e,a,n⟩
 ·exact absurd ((afL _ c A.length).mpr here) (n A.length)
 ·rw [e]
  have ha:=(afL _ c i).mp a
  have h1:¬ i < A.length:=fun z=>by
   rw [List.getElem?_append_left z] at ha
   exact h (List.mem_of_getElem? ha)
  have h2:¬ A.length < i:=fun z=>n A.length z ((afL _ c A.length).mpr here)
  have:i=A.length:=by omega
  rw [this]
def abw (c:Nat):List (List Nat)→List Nat
 | []=>[]
 | [p]=>p
 | p :: q :: r=>p++c :: abw c (q :: r)
theorem agw (c:Nat):∀ P:List (List Nat),Str.join (tx [c]) (P.map tx)=tx (abw c P)
 | []=>rfl
 | [p]=>rfl
 | p :: q :: r=>by
  show tx p++tx [c]++Str.join (tx [c]) ((q :: r).map tx)=tx (p++c :: abw c (q :: r))
  rw [agw c (q :: r),ag6,ag6,List.append_assoc]
  rfl
theorem aj8 (L:List Nat) (c:Nat):∃ P:List (List Nat),Txt.split (tx L) (tx [c])=P.map tx∧(∀ p∈P,c ∉ p)∧abw c P=L∧P≠[]:=by
 refine ⟨(Txt.split (tx L) (tx [c])).map fun x=>x.cps.toList,?_,?_,?_,?_⟩
 ·rw [List.map_map]
  have:(tx ∘ fun x:Str=>x.cps.toList)=id:=by
   funext x
   exact aeb x
  rw [this,List.map_id]
 ·intro p hp
  obtain ⟨x,hx,rfl⟩:=List.mem_map.mp hp
  exact StrLaws.split_free (tx L) c x hx
 ·have e:=StrLaws.join_split (tx L) (tx [c])
  apply aiG
  rw [← agw,List.map_map]
  have:(tx ∘ fun x:Str=>x.cps.toList)=id:=by
   funext x
   exact aeb x
  rw [this,List.map_id]
  exact e
 ·intro z
  have:=PyProof.Rows.split_pos (tx L) (tx [c])
  rw [List.map_eq_nil_iff.mp z] at this
  exact absurd this (by decide)
def bd (p:List Nat):List Nat:=if p.head?=some 45 then p.tail else p
def sN (p:List Nat):Int:=if p.head?=some 45 then -(vD (bd p)) else vD (bd p)
def rdN:List (List Nat)→Option (Int × Int)
 | [p]=>if okD (bd p)=true then some (sN p,1) else none
 | [p,q]=>if okD (bd p)=true∧okD q=true∧vD q≠0 then some (sN p,vD q) else none
 | _=>none
theorem b60 {v:Int} (h:0≤v∧v < 10 ^ 60):Bd 200 v∧Bd 200 (-v):=by
 have a:Bd 200 v:=Bd.of (n:=10 ^ 60) (by omega) (by decide +kernel)
 exact ⟨a,a.neg⟩
theorem aid {p:List Nat} (h:okD (bd p)=true):Bd 200 (sN p):=by
 have:=b60 (ajP h)
 unfold sN
 split
 ·exact this.2
 ·exact this.1
theorem aiM:Bd 200 (1:Int):=(Bd.of (k:=2) (n:=1) (by decide) (by decide)).mono (by decide)
theorem ae6 {p:List Nat} {c:Nat} (h:c∈bd p):c∈p:=by
 unfold bd at h
 split at h
 ·exact List.mem_of_mem_tail h
 ·exact h
theorem afP (p:List Nat):(bd p).length≤p.length:=by
 unfold bd
 split
 ·rw [List.length_tail]; omega
 ·exact Nat.le_refl _
def outN (r:Option (Int × Int)) (S:Sto):Res AV:=match r with
 | some (t,b)=>.ok (.pv (.tup ((fr t b).map .int))) S
 | none=>.exc "NoText" S
def Bod (b:Bool) (T0 T1:Str):Prop:=(b=true∧fSlS (.str T0) (some 1) none=some (.str T1))∨(b=false∧T1=T0)
theorem ajo {S:Sto} {TL T0 T1:Str} {b:Bool} {V:Int} {F:AV} (es:aci TL [.str "/"]=some (.lst [.str T0])) (st:abU T0 [.str "-"]=some (.bl b)) (hb:Bod b T0 T1) (r1:aat [.pv (.str T1)] S=.ok (.pv (.int V)) S) (fq:abb [.pv (.int (if b=true then -V else V)),.pv (.int 1)] S=.ok F S) (hF:∀ k,F≠.ref k):aaq [.pv (.str TL)] S=.ok F S:=by
 have rf:=abC S
 unfold aaq fnM aaH
 cases F with
 | ref k=>exact absurd rfl (hF k)
 | pv F =>
  rcases hb with ⟨rfl,hb⟩ | ⟨rfl,rfl⟩
  ·simp only [if_true] at fq
   simp [EC,fAbs,aak,aao,fIx,atI,ixN,fEq,fNe,eqN,aal,aam,aan,aap,fAdd,aah,frz,aau,mMet,strR,es,rf,st,mSlS,mO0,mO1,aa4,hb,r1,fq]
  ·simp only [Bool.false_eq_true,if_false] at fq
   simp [EC,fAbs,aak,aao,fIx,atI,ixN,fEq,fNe,eqN,aal,aam,aan,aap,fAdd,aah,frz,aau,mMet,strR,es,rf,st,r1,fq]
theorem agh {S:Sto} {TL T0 T1:Str} {b:Bool} (es:aci TL [.str "/"]=some (.lst [.str T0])) (st:abU T0 [.str "-"]=some (.bl b)) (hb:Bod b T0 T1) (r1:aat [.pv (.str T1)] S=.exc "NoText" S):aaq [.pv (.str TL)] S=.exc "NoText" S:=by
 have rf:=abC S
 unfold aaq fnM aaH
 rcases hb with ⟨rfl,hb⟩ | ⟨rfl,rfl⟩
 ·simp [EC,fAbs,aak,aao,fIx,atI,ixN,fEq,fNe,eqN,aal,aam,aan,aap,fAdd,aah,frz,aau,mMet,strR,es,rf,st,mSlS,mO0,mO1,aa4,hb,r1]
 ·simp [EC,fAbs,aak,aao,fIx,atI,ixN,fEq,fNe,eqN,aal,aam,aan,aap,fAdd,aah,frz,aau,mMet,strR,es,rf,st,r1]
theorem ajZ {S:Sto} {TL T0 T1 T2:Str} {b:Bool} {V V2:Int} {F:AV} (es:aci TL [.str "/"]=some (.lst [.str T0,.str T2])) (st:abU T0 [.str "-"]=some (.bl b)) (hb:Bod b T0 T1) (r1:aat [.pv (.str T1)] S=.ok (.pv (.int V)) S) (r2:aat [.pv (.str T2)] S=.ok (.pv (.int V2)) S) (hz:V2≠0) (fq:abb [.pv (.int (if b=true then -V else V)),.pv (.int V2)] S=.ok F S) (hF:∀ k,F≠.ref k):aaq [.pv (.str TL)] S=.ok F S:=by
 have rf:=abC S
 have hz':(V2 == 0)=false:=by simpa using hz
 unfold aaq fnM aaH
 cases F with
 | ref k=>exact absurd rfl (hF k)
 | pv F =>
  rcases hb with ⟨rfl,hb⟩ | ⟨rfl,rfl⟩
  ·simp only [if_true] at fq
   simp [EC,fAbs,aak,aao,fIx,atI,ixN,fEq,fNe,eqN,aal,aam,aan,aap,fAdd,aah,frz,aau,mMet,strR,es,rf,st,mSlS,mO0,mO1,aa4,hb,r1,r2,hz',fq]
  ·simp only [Bool.false_eq_true,if_false] at fq
   simp [EC,fAbs,aak,aao,fIx,atI,ixN,fEq,fNe,eqN,aal,aam,aan,aap,fAdd,aah,frz,aau,mMet,strR,es,rf,st,r1,r2,hz',fq]
theorem afp {S:Sto} {TL T0 T1 T2:Str} {b:Bool} (es:aci TL [.str "/"]=some (.lst [.str T0,.str T2])) (st:abU T0 [.str "-"]=some (.bl b)) (hb:Bod b T0 T1) (r1:aat [.pv (.str T1)] S=.exc "NoText" S):aaq [.pv (.str TL)] S=.exc "NoText" S:=by
 have rf:=abC S
 unfold aaq fnM aaH
 rcases hb with ⟨rfl,hb⟩ | ⟨rfl,rfl⟩
 ·simp [EC,fAbs,aak,aao,fIx,atI,ixN,fEq,fNe,eqN,aal,aam,aan,aap,fAdd,aah,frz,aau,mMet,strR,es,rf,st,mSlS,mO0,mO1,aa4,hb,r1]
 ·simp [EC,fAbs,aak,aao,fIx,atI,ixN,fEq,fNe,eqN,aal,aam,aan,aap,fAdd,aah,frz,aau,mMet,strR,es,rf,st,r1]
theorem afC {S:Sto} {TL T0 T1 T2:Str} {b:Bool} {V:Int} (es:aci TL [.str "/"]=some (.lst [.str T0,.str T2])) (st:abU T0 [.str "-"]=some (.bl b)) (hb:Bod b T0 T1) (r1:aat [.pv (.str T1)] S=.ok (.pv (.int V)) S) (r2:aat [.pv (.str T2)] S=.exc "NoText" S):aaq [.pv (.str TL)] S=.exc "NoText" S:=by
 have rf:=abC S
 unfold aaq fnM aaH
 rcases hb with ⟨rfl,hb⟩ | ⟨rfl,rfl⟩
 ·simp [EC,fAbs,aak,aao,fIx,atI,ixN,fEq,fNe,eqN,aal,aam,aan,aap,fAdd,aah,frz,aau,mMet,strR,es,rf,st,mSlS,mO0,mO1,aa4,hb,r1,r2]
 ·simp [EC,fAbs,aak,aao,fIx,atI,ixN,fEq,fNe,eqN,aal,aam,aan,aap,fAdd,aah,frz,aau,mMet,strR,es,rf,st,r1,r2]
theorem aeK {S:Sto} {TL T0 T1 T2:Str} {b:Bool} {V:Int} (es:aci TL [.str "/"]=some (.lst [.str T0,.str T2])) (st:abU T0 [.str "-"]=some (.bl b)) (hb:Bod b T0 T1) (r1:aat [.pv (.str T1)] S=.ok (.pv (.int V)) S) (r2:aat [.pv (.str T2)] S=.ok (.pv (.int 0)) S):aaq [.pv (.str TL)] S=.exc "NoText" S:=by
 have rf:=abC S
 unfold aaq fnM aaH
 rcases hb with ⟨rfl,hb⟩ | ⟨rfl,rfl⟩
 ·simp [EC,fAbs,aak,aao,fIx,atI,ixN,fEq,fNe,eqN,aal,aam,aan,aap,fAdd,aah,frz,aau,mMet,strR,es,rf,st,mSlS,mO0,mO1,aa4,hb,r1,r2]
 ·simp [EC,fAbs,aak,aao,fIx,atI,ixN,fEq,fNe,eqN,aal,aam,aan,aap,fAdd,aah,frz,aau,mMet,strR,es,rf,st,r1,r2]
theorem ah1 {S:Sto} {TL:Str} {R:List PV} (es:aci TL [.str "/"]=some (.lst R)) (h:2 < R.length):aaq [.pv (.str TL)] S=.exc "NoText" S:=by
 have rf:=abC S
 have h3:¬ ((R.length:Int)≤2):=by omega
 unfold aaq fnM aaH
 simp [EC,fAbs,aak,aao,fIx,atI,ixN,fEq,fNe,eqN,aal,aam,aan,aap,fAdd,aah,frz,aau,mMet,strR,es,rf,h3]
theorem agA {p:List Nat} (h:p.length≤10000):abU (tx p) [.str "-"]=some (.bl (decide (p.head?=some 45)))∧Bod (decide (p.head?=some 45)) (tx p) (tx (bd p)):=by
 refine ⟨?_,?_⟩
 ·rw [afx]
  show some (PV.bl (Txt.startswith (tx p) (tx [45])))=_
  rw [ajs]
 ·unfold bd
  by_cases h45:p.head?=some 45
  ·left
   rw [if_pos h45]
   refine ⟨by simp [h45],?_⟩
   show (if (tx p).length≤16777216 then some (PV.str (Txt.slice (tx p) (some 1) none)) else none)=_
   rw [if_pos (by rw [abd]; omega)]
   have:=agG p 1
   rw [show ((1:Nat):Int)=1 from rfl,List.drop_one] at this
   rw [this]
  ·right
   rw [if_neg h45]
   exact ⟨by simp [h45],rfl⟩
theorem aik (p:List Nat):(if decide (p.head?=some 45)=true then -(vD (bd p)) else vD (bd p))=sN p:=by
 unfold sN
 by_cases h45:p.head?=some 45 <;> simp [h45]
theorem rdN1 (p:List Nat):rdN [p]=if okD (bd p)=true then some (sN p,1) else none:=rfl
theorem rdN2 (p q:List Nat):rdN [p,q]=if okD (bd p)=true∧okD q=true∧vD q≠0 then some (sN p,vD q) else none:=rfl
theorem agx (S:Sto) {L:List Nat} {P:List (List Nat)} (hs:Txt.split (tx L) (tx [47])=P.map tx) (hp:P≠[]) (ha:∀ p∈P,∀ c∈p,c < 128) (hl:∀ p∈P,p.length≤10000) (hL:L.length≤10000):aaq [.pv (.str (tx L))] S=outN (rdN P) S:=by
 have es:aci (tx L) [.str "/"]=some (.lst (P.map fun p=>.str (tx p))):=by
  rw [aeu]
  show (if (tx [47]).length≠0∧(tx L).length+2≤16777216 then some (PV.lst ((Txt.split (tx L) (tx [47])).map .str)) else none)=_
  rw [if_pos ⟨by rw [abd]; decide,by rw [abd]; omega⟩,hs,List.map_map]
  rfl
 have top:∀ p∈P,aat [.pv (.str (tx (bd p)))] S=if okD (bd p)=true then .ok (.pv (.int (vD (bd p)))) S else .exc "NoText" S:=fun p h=>aeH S (fun c hc=>ha p h c (ae6 hc)) (Nat.le_trans (afP p) (hl p h))
 have wh:∀ p∈P,aat [.pv (.str (tx p))] S=if okD p=true then .ok (.pv (.int (vD p))) S else .exc "NoText" S:=fun p h=>aeH S (ha p h) (hl p h)
 have fq:∀ t b:Int,Bd 200 t→Bd 200 b→b≠0→abb [.pv (.int t),.pv (.int b)] S=.ok (.pv (.tup ((fr t b).map .int))) S:=fun t b ht hb h=>afk t b S (ht.mono (by decide)) (hb.mono (by decide)) h
 match P,hp,hl,es,top,wh with
 | [p],_,hl,es,top,wh =>
  have tp:=top p (by simp)
  obtain ⟨st,bo⟩:=agA (hl p (by simp))
  simp only [List.map_cons,List.map_nil] at es
  rw [rdN1]
  by_cases hk:okD (bd p)=true
  ·rw [if_pos hk] at tp ⊢
   exact ajo es st bo tp (by rw [aik]; exact fq (sN p) 1 (aid hk) aiM (by decide)) (fun _ z=>by cases z)
  ·rw [if_neg hk] at tp ⊢
   exact agh es st bo tp
 | [p,q],_,hl,es,top,wh =>
  have tp:=top p (by simp)
  have tq:=wh q (by simp)
  obtain ⟨st,bo⟩:=agA (hl p (by simp))
  simp only [List.map_cons,List.map_nil] at es
  rw [rdN2]
  by_cases hk:okD (bd p)=true
  ·rw [if_pos hk] at tp
   by_cases hq:okD q=true
   ·rw [if_pos hq] at tq
    by_cases hz:vD q=0
    ·rw [if_neg (fun z=>z.2.2 hz)]
     rw [hz] at tq
     exact aeK es st bo tp tq
    ·rw [if_pos ⟨hk,hq,hz⟩]
     exact ajZ es st bo tp tq hz (by rw [aik]; exact fq (sN p) (vD q) (aid hk) (b60 (ajP hq)).1 hz) (fun _ z=>by cases z)
   ·rw [if_neg hq] at tq
    rw [if_neg (fun z=>hq z.2.1)]
    exact afC es st bo tp tq
  ·rw [if_neg hk] at tp
   rw [if_neg (fun z=>hk z.1)]
   exact afp es st bo tp
 | p :: q :: r :: t,_,hl,es,top,wh =>
  exact ah1 es (by simp)
theorem acn (S:Sto) {L:List Nat} (ha:∀ c∈L,c < 128) (hl:L.length≤10000):aaP [.pv (.str (tx L))] S=.ok (.pv (.bl (okD L))) S:=by
 have z:(tx L).length≤16777216:=by rw [abd]; omega
 have ec:=aeD S L ha
 have eb:=afH (L.map isD)
 have ll:((tx L).length:Int)=(L.length:Int):=by rw [abd]
 have a8:=aiw ha
 have hb:acS=(sSeq (sIf (mOr (mTst (mBin fLt (mR abY (aac (mVar 0) mNil)) (mC (.int 1)))) (mTst (mBin fGt (mR abY (aac (mVar 0) mNil)) (mC (.int 60))))) (sRet (mC (.bl false))) sNil) (sRet (mR fAll (aac (adb ["_law_sign"] [] (mItS (mVar 0)) (gN 0) (mBin fInS (mVar 0) (mC (.str "0123456789")))) mNil)))):=rfl
 have al:(L.map isD).all id=L.all isD:=by simp [List.all_map]
 rw [al] at eb
 unfold okD
 generalize (mBin fInS (mVar 0) (mC (.str "0123456789")))=ME1 at *
 generalize (L.map isD).map PV.bl=BL at *
 generalize L.all isD=B at *
 generalize L.length=N at *
 generalize tx L=T at *
 unfold aaP fnM
 rw [hb]
 by_cases h1:(N:Int) < 1
 ·have h1':¬ 1≤N:=by omega
  simp [EC,fAbs,aak,aao,fIx,atI,ixN,fEq,fNe,eqN,aal,aam,aan,aap,fAdd,aah,frz,aau,abY,z,ll,h1,h1']
 ·have h1':1≤N:=by omega
  by_cases h2:60 < (N:Int)
  ·have h2':¬ N≤60:=by omega
   simp [EC,fAbs,aak,aao,fIx,atI,ixN,fEq,fNe,eqN,aal,aam,aan,aap,fAdd,aah,frz,aau,abY,z,ll,h1,h2,h1',h2']
  ·have h2':N≤60:=by omega
   simp [EC,fAbs,aak,aao,fIx,atI,ixN,fEq,fNe,eqN,aal,aam,aan,aap,fAdd,aah,frz,aau,abY,z,ll,h1,h2,h1',h2',adb,cmpR,mItS,ahb,a8,ec,eb]
def outL (r:Option (Int × Int)):AV:=match r with
 | some (t,b)=>.pv (.tup ((fr t b).map .int))
 | none=>.pv .non
theorem aiZ {S:Sto} {T0 T1 HT:Str} {b y1:Bool} {n1:Int} {FV:PV} (h1:fSlS (.str T0) none (some 1)=some (.str HT)) (hq:(HT == ("-":Str))=b) (hb:Bod b T0 T1) (hf:afq T1 [.str "/"]=some (.int (-1))) (g1:aaP [.pv (.str T1)] S=.ok (.pv (.bl y1)) S) (g2:aaP [.pv (.str "1")] S=.ok (.pv (.bl true)) S) (i1:y1=true→acV [.str T1]=some (.int n1)) (i2:acV [.str "1"]=some (.int 1)) (fq:y1=true→acd [.pv (.int (if b=true then -n1 else n1)),.pv (.int 1)] S=.ok (.pv FV) S) :
  aaw [.pv (.str T0)] S=.ok (if y1=true then .pv FV else .pv .non) S:=by
 unfold aaw fnM abR
 have m1:fMul (.int (-1)) (.int n1)=some (.int (-n1)):=by rw [acC (.inl (.inl ⟨by decide,by decide⟩)),Int.neg_one_mul]
 have m2:fMul (.int 1) (.int n1)=some (.int n1):=by rw [acC (.inl (.inl ⟨by decide,by decide⟩)),Int.one_mul]
 cases y1 with
 | true =>
  have i1:=i1 rfl
  have fq:=fq rfl
  rcases hb with ⟨rfl,hb⟩ | ⟨rfl,rfl⟩
  ·simp only [if_true] at fq
   simp [EC,fAbs,aak,aao,fIx,atI,ixN,fEq,fNe,eqN,aal,aam,aan,aap,fAdd,aah,frz,aau,mSlS,mO0,mO1,aa4,h1,hq,hb,mMet,strR,hf,g1,g2,i1,i2,m1,fq]
  ·simp only [Bool.false_eq_true,if_false] at fq
   simp [EC,fAbs,aak,aao,fIx,atI,ixN,fEq,fNe,eqN,aal,aam,aan,aap,fAdd,aah,frz,aau,mSlS,mO0,mO1,aa4,h1,hq,mMet,strR,hf,g1,g2,i1,i2,m2,fq]
 | false =>
  rcases hb with ⟨rfl,hb⟩ | ⟨rfl,rfl⟩
  ·simp [EC,fAbs,aak,aao,fIx,atI,ixN,fEq,fNe,eqN,aal,aam,aan,aap,fAdd,aah,frz,aau,mSlS,mO0,mO1,aa4,h1,hq,hb,mMet,strR,hf,g1]
  ·simp [EC,fAbs,aak,aao,fIx,atI,ixN,fEq,fNe,eqN,aal,aam,aan,aap,fAdd,aah,frz,aau,mSlS,mO0,mO1,aa4,h1,hq,mMet,strR,hf,g1]
theorem ajO {S:Sto} {T0 T1 T2 T3 HT:Str} {b y1 y2:Bool} {n1 n2:Int} {n:Nat} {FV:PV} (h1:fSlS (.str T0) none (some 1)=some (.str HT)) (hq:(HT == ("-":Str))=b) (hb:Bod b T0 T1) (hf:afq T1 [.str "/"]=some (.int n)) (s2:fSlS (.str T1) (some ((n:Int)+1)) none=some (.str T2)) (s3:fSlS (.str T1) none (some (n:Int))=some (.str T3)) (g1:aaP [.pv (.str T3)] S=.ok (.pv (.bl y1)) S) (g2:aaP [.pv (.str T2)] S=.ok (.pv (.bl y2)) S) (i1:y1=true→acV [.str T3]=some (.int n1)) (i2:y2=true→acV [.str T2]=some (.int n2)) (fq:y1=true→y2=true→n2≠0→acd [.pv (.int (if b=true then -n1 else n1)),.pv (.int n2)] S=.ok (.pv FV) S) :
  aaw [.pv (.str T0)] S=.ok (if y1=true∧y2=true∧n2≠0 then .pv FV else .pv .non) S:=by
 unfold aaw fnM abR
 have m1:fMul (.int (-1)) (.int n1)=some (.int (-n1)):=by rw [acC (.inl (.inl ⟨by decide,by decide⟩)),Int.neg_one_mul]
 have m2:fMul (.int 1) (.int n1)=some (.int n1):=by rw [acC (.inl (.inl ⟨by decide,by decide⟩)),Int.one_mul]
 have n0:(0:Int)≤(n:Int):=by omega
 generalize (n:Int)=N at *
 cases y1 with
 | false =>
  rcases hb with ⟨rfl,hb⟩ | ⟨rfl,rfl⟩
  ·simp [EC,fAbs,aak,aao,fIx,atI,ixN,fEq,fNe,eqN,aal,aam,aan,aap,fAdd,aah,frz,aau,mSlS,mO0,mO1,aa4,h1,hq,hb,mMet,strR,hf,n0,s2,s3,g1]
  ·simp [EC,fAbs,aak,aao,fIx,atI,ixN,fEq,fNe,eqN,aal,aam,aan,aap,fAdd,aah,frz,aau,mSlS,mO0,mO1,aa4,h1,hq,mMet,strR,hf,n0,s2,s3,g1]
 | true =>
  have i1:=i1 rfl
  have fq:=fq rfl
  cases y2 with
  | false =>
   rcases hb with ⟨rfl,hb⟩ | ⟨rfl,rfl⟩
   ·simp [EC,fAbs,aak,aao,fIx,atI,ixN,fEq,fNe,eqN,aal,aam,aan,aap,fAdd,aah,frz,aau,mSlS,mO0,mO1,aa4,h1,hq,hb,mMet,strR,hf,n0,s2,s3,g1,g2]
   ·simp [EC,fAbs,aak,aao,fIx,atI,ixN,fEq,fNe,eqN,aal,aam,aan,aap,fAdd,aah,frz,aau,mSlS,mO0,mO1,aa4,h1,hq,mMet,strR,hf,n0,s2,s3,g1,g2]
  | true =>
   have i2:=i2 rfl
   have fq:=fq rfl
   by_cases hz:n2=0
   ·subst hz
    rcases hb with ⟨rfl,hb⟩ | ⟨rfl,rfl⟩
    ·simp [EC,fAbs,aak,aao,fIx,atI,ixN,fEq,fNe,eqN,aal,aam,aan,aap,fAdd,aah,frz,aau,mSlS,mO0,mO1,aa4,h1,hq,hb,mMet,strR,hf,n0,s2,s3,g1,g2,i2]
    ·simp [EC,fAbs,aak,aao,fIx,atI,ixN,fEq,fNe,eqN,aal,aam,aan,aap,fAdd,aah,frz,aau,mSlS,mO0,mO1,aa4,h1,hq,mMet,strR,hf,n0,s2,s3,g1,g2,i2]
   ·have fq:=fq hz
    rcases hb with ⟨rfl,hb⟩ | ⟨rfl,rfl⟩
    ·simp only [if_true] at fq
     simp [EC,fAbs,aak,aao,fIx,atI,ixN,fEq,fNe,eqN,aal,aam,aan,aap,fAdd,aah,frz,aau,mSlS,mO0,mO1,aa4,h1,hq,hb,mMet,strR,hf,n0,s2,s3,g1,g2,i1,i2,hz,m1,fq]
    ·simp only [Bool.false_eq_true,if_false] at fq
     simp [EC,fAbs,aak,aao,fIx,atI,ixN,fEq,fNe,eqN,aal,aam,aan,aap,fAdd,aah,frz,aau,mSlS,mO0,mO1,aa4,h1,hq,mMet,strR,hf,n0,s2,s3,g1,g2,i1,i2,hz,m2,fq]
theorem ac2 {p:List Nat} {r:List (List Nat)}:(abw 47 (p :: r)).head?=some 45↔p.head?=some 45:=by
 cases r with
 | nil=>exact Iff.rfl
 | cons q r =>
  show (p++47 :: abw 47 (q :: r)).head?=some 45↔_
  cases p with
  | nil=>simp
  | cons a p=>simp
theorem ahW (p:List Nat) (r:List (List Nat)):bd (abw 47 (p :: r))=abw 47 (bd p :: r):=by
 unfold bd
 by_cases h:p.head?=some 45
 ·rw [if_pos h,if_pos (ac2.mpr h)]
  cases p with
  | nil=>cases h
  | cons a p =>
   cases r with
   | nil=>rfl
   | cons q r=>rfl
 ·rw [if_neg h,if_neg (fun z=>h (ac2.mp z))]
theorem ad7 {L:List Nat} {i:Int} {j:Nat} (hi:i=(j:Int)) (h:L.length≤10000):fSlS (.str (tx L)) (some i) none=some (.str (tx (L.drop j))):=by
 show (if (tx L).length≤16777216 then some (PV.str (Txt.slice (tx L) (some i) none)) else none)=_
 rw [if_pos (by rw [abd]; omega),hi,agG]
theorem aiK {L:List Nat} {j:Nat} (hj:j≤L.length) (h:L.length≤10000):fSlS (.str (tx L)) none (some (j:Int))=some (.str (tx (L.take j))):=by
 show (if (tx L).length≤16777216 then some (PV.str (Txt.slice (tx L) none (some (j:Int)))) else none)=_
 rw [if_pos (by rw [abd]; omega),akq L j hj]
theorem ale {L:List Nat} (h:L.length≤10000):∃ HT,fSlS (.str (tx L)) none (some 1)=some (.str HT)∧(HT == ("-":Str))=decide (L.head?=some 45):=by
 refine ⟨tx (L.take 1),?_,?_⟩
 ·show (if (tx L).length≤16777216 then some (PV.str (Txt.slice (tx L) none (some 1))) else none)=_
  rw [if_pos (by rw [abd]; omega),ajB]
 ·rw [afx,ako]
  cases L with
  | nil=>rfl
  | cons a L=>simp
theorem ahn {q r:List Nat}:okD (q++47 :: r)=false:=by
 unfold okD
 have:(q++47 :: r).all isD=false:=by
  rw [List.all_append,List.all_cons]
  have:isD 47=false:=by decide
  rw [this]
  simp
 rw [this,Bool.and_false]
theorem ajy (S:Sto):aaP [.pv (.str "1")] S=.ok (.pv (.bl true)) S∧acV [.str "1"]=some (.int 1):=by
 have a:=acn S (L:=[49]) (by decide) (by decide)
 have b:=adv (L:=[49]) (by decide)
 rw [← alG] at a b
 exact ⟨a,b⟩
theorem adh {c:Nat}:∀ {P:List (List Nat)} {p:List Nat},p∈P→∀ d∈p,d∈abw c P
 | [q],p,h,d,hd=>by
  have:p=q:=by simpa using h
  rw [← this]; exact hd
 | q :: q' :: r,p,h,d,hd=>by
  show d∈q++c :: abw c (q' :: r)
  rcases List.mem_cons.mp h with rfl | h
  ·exact List.mem_append_left _ hd
  ·exact List.mem_append_right _ (List.mem_cons_of_mem _ (adh h d hd))
theorem ads {c:Nat}:∀ {P:List (List Nat)} {p:List Nat},p∈P→p.length≤(abw c P).length
 | [q],p,h=>by
  have:p=q:=by simpa using h
  rw [this]; exact Nat.le_refl _
 | q :: q' :: r,p,h=>by
  show _≤(q++c :: abw c (q' :: r)).length
  rw [List.length_append,List.length_cons]
  rcases List.mem_cons.mp h with rfl | h
  ·omega
  ·have:=ads (c:=c) h
   omega
theorem aig (S:Sto) {L:List Nat} {P:List (List Nat)} (hi:abw 47 P=L) (hp:P≠[]) (hf:∀ p∈P,47 ∉ p) (ha:∀ c∈L,c < 128) (hL:L.length≤10000):aaw [.pv (.str (tx L))] S=.ok (outL (rdN P)) S:=by
 obtain ⟨HT,h1,hq⟩:=ale hL
 obtain ⟨_,bo⟩:=agA hL
 obtain ⟨g1,i1⟩:=ajy S
 have fq:∀ t b:Int,Bd 200 t→Bd 200 b→acd [.pv (.int t),.pv (.int b)] S=.ok (.pv (.tup ((fr t b).map .int))) S:=fun t b ht hb=>ajX t b S (ht.mono (by decide)) (hb.mono (by decide))
 have fl:∀ {A:List Nat},47 ∉ A→afq (tx A) [.str "/"]=some (.int (-1)):=fun {A} h=>by
  rw [aeu]
  show some (PV.int (Txt.find (tx A) (tx [47])))=_
  rw [ai6 h]
 have ft:∀ {A B:List Nat},47 ∉ A→afq (tx (A++47 :: B)) [.str "/"]=some (.int (A.length:Nat)):=fun {A B} h=>by
  rw [aeu]
  show some (PV.int (Txt.find (tx (A++47 :: B)) (tx [47])))=_
  rw [aiW h]
 have aP:∀ p∈P,∀ c∈p,c < 128:=fun p h c hc=>ha c (by rw [← hi]; exact adh h c hc)
 have lP:∀ p∈P,p.length≤10000:=fun p h=>Nat.le_trans (by rw [← hi]; exact ads h) hL
 match P,hp,hi,hf,aP,lP with
 | [p],_,hi,hf,aP,lP =>
  have hi:p=L:=hi
  subst hi
  have g:=acn S (L:=bd p) (fun c hc=>ha c (ae6 hc)) (Nat.le_trans (afP p) hL)
  have z:=aiZ (n1:=vD (bd p)) (FV:=.tup ((fr (sN p) 1).map .int)) h1 hq bo (fl fun z=>hf p (by simp) (ae6 z)) g g1 adv i1 (fun hk=>by rw [aik]; exact fq (sN p) 1 (aid hk) aiM)
  rw [z,rdN1]
  by_cases hk:okD (bd p)=true
  ·rw [if_pos hk,if_pos hk]
   rfl
  ·rw [if_neg hk,if_neg hk]
   rfl
 | p :: q :: r,_,hi,hf,aP,lP =>
  have hd:L.head?=some 45↔p.head?=some 45:=by rw [← hi]; exact ac2
  have hb:bd L=bd p++47 :: abw 47 (q :: r):=by
   rw [← hi,ahW]
   rfl
  rw [hb] at bo
  have dd:decide (L.head?=some 45)=decide (p.head?=some 45):=by simp [hd]
  have lb:(bd p++47 :: abw 47 (q :: r)).length≤10000:=by rw [← hb]; exact Nat.le_trans (afP L) hL
  have s2:=ad7 (L:=bd p++47 :: abw 47 (q :: r)) (i:=((bd p).length:Int)+1) (j:=(bd p).length+1) (by omega) lb
  have s3:=aiK (L:=bd p++47 :: abw 47 (q :: r)) (j:=(bd p).length) (by simp) lb
  have e2:(bd p++47 :: abw 47 (q :: r)).drop ((bd p).length+1)=abw 47 (q :: r):=by
   rw [← List.drop_drop,List.drop_left]
   rfl
  rw [e2] at s2
  rw [List.take_left] at s3
  have ai:∀ c∈abw 47 (q :: r),c < 128:=fun c hc=>ha c (by
   rw [← hi]
   show c∈p++47 :: abw 47 (q :: r)
   exact List.mem_append_right _ (List.mem_cons_of_mem _ hc))
  have li:(abw 47 (q :: r)).length≤10000:=by
   rw [List.length_append,List.length_cons] at lb
   omega
  have g3:=acn S (L:=bd p) (fun c hc=>aP p (by simp) c (ae6 hc)) (Nat.le_trans (afP p) (lP p (by simp)))
  have g4:=acn S (L:=abw 47 (q :: r)) ai li
  have z:=ajO (n1:=vD (bd p)) (n2:=vD (abw 47 (q :: r))) (FV:=.tup ((fr (sN p) (vD (abw 47 (q :: r)))).map .int)) h1 hq bo (ft fun z=>hf p (by simp) (ae6 z)) s2 s3 g3 g4 adv adv (fun hk hk2 _=>by rw [dd,aik]; exact fq (sN p) _ (aid hk) (b60 (ajP hk2)).1)
  rw [z]
  cases r with
  | nil =>
   rw [rdN2]
   show Res.ok (if okD (bd p)=true∧okD q=true∧vD q≠0 then _ else _) S=_
   by_cases hk:okD (bd p)=true∧okD q=true∧vD q≠0
   ·rw [if_pos hk,if_pos hk]
    rfl
   ·rw [if_neg hk,if_neg hk]
    rfl
  | cons t r =>
   have:okD (abw 47 (q :: t :: r))=false:=ahn
   rw [if_neg (fun z=>by rw [this] at z; exact absurd z.2.1 (by decide))]
   rfl
def dg (m:Nat):List Nat:=(Nat.toDigits 10 m).map Char.toNat
theorem aku (m:Nat):(Str.ofString (toString ((m:Nat):Int)):Str)=tx (dg m):=by
 rw [← aeb (Str.ofString (toString ((m:Nat):Int))),PySem.W.KIN.signs_num]
 rfl
theorem afQ {m c:Nat} (h:c∈dg m):isD c=true:=by
 obtain ⟨ch,hch,rfl⟩:=List.mem_map.mp h
 have r:=PyProof.Rows.digit_range (Nat.isDigit_of_mem_toDigits (by decide) (by decide) hch)
 unfold isD
 simp [r.1,r.2]
theorem ag9:∀ (k m:Nat),m < 10 ^ (k+1)→(dg m).length≤k+1
 | 0,m,h=>by
  unfold dg
  rw [Nat.toDigits_of_lt_base (by omega)]
  simp
 | k+1,m,h=>by
  by_cases h10:m < 10
  ·unfold dg
   rw [Nat.toDigits_of_lt_base h10]
   simp
  ·have hm:m % 10 < 10:=Nat.mod_lt m (by decide)
   have t:Nat.toDigits 10 (m / 10)++Nat.toDigits 10 (m % 10)=Nat.toDigits 10 (10*(m / 10)+m % 10):=Nat.toDigits_append_toDigits (by decide) (by omega) hm
   rw [Nat.div_add_mod] at t
   have ih:=ag9 k (m / 10) (by rw [Nat.pow_succ] at h; omega)
   unfold dg at ih ⊢
   rw [← t,Nat.toDigits_of_lt_base hm]
   rw [List.length_map] at ih ⊢
   rw [List.length_append]
   simp
   omega
theorem ag1 {c:Nat} (h:isD c=true):c < 128∧c≠45∧c≠47:=by
 unfold isD at h
 rw [Bool.and_eq_true,decide_eq_true_eq,decide_eq_true_eq] at h
 omega
theorem ajM {v:Int} (h0:0≤v) (h1:v < 10 ^ 61):fStr [.int v]=some (.str (tx (dg v.toNat)))∧(dg v.toNat).length≤61:=by
 obtain ⟨m,rfl⟩:=Int.eq_ofNat_of_zero_le h0
 have hm:m < 10 ^ 61:=by exact_mod_cast h1
 have hl:((m:Int)).natAbs.log2 < 1920:=by
  have e:((m:Int)).natAbs=m:=by omega
  rw [e]
  by_cases hz:m=0
  ·subst hz; decide
  ·refine (Nat.log2_lt hz).mpr (Nat.lt_of_lt_of_le hm ?_)
   decide +kernel
 refine ⟨?_,?_⟩
 ·show (if ((m:Int)).natAbs.log2 < 1920 then some (PV.str (Str.ofString (toString (m:Int)))) else none)=_
  rw [if_pos hl,aku]
  rfl
 ·exact ag9 60 m hm
def Asc (n:Nat) (T:Str):Prop:=∃ L,T=tx L∧(∀ c∈L,c < 128)∧L.length≤n
theorem Asc.mono {n k:Nat} {T:Str} (h:Asc n T) (l:n≤k):Asc k T:=by
 obtain ⟨L,e,a,b⟩:=h
 exact ⟨L,e,a,by omega⟩
theorem akd {v:Int} (h1:v < 10 ^ 61) (h0:0≤v):Asc 61 (tx (dg v.toNat)):=⟨_,rfl,fun _ hc=>(ag1 (afQ hc)).1,(ajM h0 h1).2⟩
theorem acm {n k:Nat} {T U:Str} (h:Asc n T) (g:Asc k U) (hl:n+k≤10000):abp (.str T) (.str U)=some (.str (T++U))∧Asc (n+k) (T++U):=by
 obtain ⟨L,rfl,a,b⟩:=h
 obtain ⟨M,rfl,c,d⟩:=g
 refine ⟨?_,?_⟩
 ·show (if (tx L).length+(tx M).length≤16777216 then some (PV.str (tx L++tx M)) else none)=_
  rw [if_pos (by rw [abd,abd]; omega)]
 ·rw [ag6]
  refine ⟨_,rfl,fun x hx=>?_,by rw [List.length_append]; omega⟩
  rcases List.mem_append.mp hx with z | z
  ·exact a x z
  ·exact c x z
theorem ahd {m:Nat} {i:Int} (hm:m < 10 ^ 61) (h0:0≤i) (h1:i≤100):∃ T,afc (tx (dg m)) [.int i]=some (.str T)∧Asc 161 T:=by
 refine ⟨Txt.zfill (tx (dg m)) i,?_,?_⟩
 ·show (if PadOk i=true then some (PV.str (Txt.zfill (tx (dg m)) i)) else none)=_
  have:PadOk i=true:=by
   unfold PadOk fitsSsize Builtin.Str.tooLong
   have e1:decide (i < -(2 ^ 63:Int))=false:=decide_eq_false (by omega)
   have e2:decide (i ≥ 2 ^ 63)=false:=decide_eq_false (by omega)
   rw [e1,e2]
   have e3:decide (i.toNat > sizeLine)=false:=decide_eq_false (by rw [aaz]; omega)
   rw [e3]
   rfl
  rw [if_pos this]
 ·have hl:=ag9 60 m hm
  unfold Txt.zfill
  split
  ·exact ⟨_,rfl,fun _ hc=>(ag1 (afQ hc)).1,by omega⟩
  ·have e:zfilled (tx (dg m)) (i.toNat - (tx (dg m)).length)=tx (List.replicate (i.toNat - (tx (dg m)).length) 48++dg m):=by
    have hd:∀ c,(tx (dg m)).cps[0]?=some c→isD c=true:=fun c hc=>by
     refine afQ (m:=m) (List.mem_of_getElem? (i:=0) ?_)
     simpa [tx] using hc
    unfold zfilled
    split
    ·rename_i h; exact absurd (hd _ h) (by decide)
    ·rename_i h; exact absurd (hd _ h) (by decide)
    ·generalize i.toNat - (tx (dg m)).length=k
     unfold Builtin.Str.padded
     simp [tx]
   rw [e]
   refine ⟨_,rfl,fun c hc=>?_,by rw [List.length_append,List.length_replicate]; omega⟩
   rcases List.mem_append.mp hc with z | z
   ·have:=(List.mem_replicate.mp z).2
    omega
   ·exact (ag1 (afQ z)).1
theorem akm {n:Nat} {T:Str} {j:Nat} (h:Asc n T) (hj:(j:Int)≤T.length) (hn:n≤9000):∃ A B C,fSlS (.str T) none (some (j:Int))=some (.str A)∧fSlS (.str T) (some (j:Int)) none=some (.str B)∧fSlS (.str T) (some ((j:Int)+1)) none=some (.str C)∧Asc n A∧Asc n B∧Asc n C:=by
 obtain ⟨L,rfl,a,b⟩:=h
 rw [abd] at hj
 refine ⟨_,_,_,aiK (by omega) (by omega),ad7 rfl (by omega),ad7 (j:=j+1) (by omega) (by omega),?_,?_,?_⟩
 ·exact ⟨_,rfl,fun c hc=>a c (List.mem_of_mem_take hc),by rw [List.length_take]; omega⟩
 ·exact ⟨_,rfl,fun c hc=>a c (List.mem_of_mem_drop hc),by rw [List.length_drop]; omega⟩
 ·exact ⟨_,rfl,fun c hc=>a c (List.mem_of_mem_drop hc),by rw [List.length_drop]; omega⟩
theorem ajr {n:Nat} {T:Str} (h:Asc n T) (hn:n≤9000):abY [.str T]=some (.int (T.length:Nat))∧T.length≤n:=by
 obtain ⟨L,rfl,a,b⟩:=h
 rw [abd]
 refine ⟨?_,b⟩
 show (if (tx L).length≤16777216 then some (PV.int ((tx L).length:Nat)) else none)=_
 rw [if_pos (by rw [abd]; omega),abd]
theorem akr (t b:Int):(fr t b).length=2:=by
 unfold fr
 split <;> (unfold low; split <;> simp)
theorem aji (S:Sto) (t b:Int):abP [.pv (.tup ((fr t b).map .int)),.pv (.int 2)] S=.ok (.pv (.bl true)) S:=by
 have:=ahg (fr t b) S
 rw [akr] at this
 exact this
theorem aeU (S:Sto) {x0:Option AV}:∀ (is:List PV) (v:Int) (x2:Option AV),∃ y2,abX [] (gN 2) (sSet 1 (mBin fMul (mVar 1) (mC (.int 10)))) is [x0,some (.pv (.int v)),x2] S=.nx [x0,some (.pv (.int (v*10 ^ is.length))),y2] S
 | [],v,x2=>⟨x2,by simp [adN]⟩
 | i :: is,v,x2=>by
  have m:fMul (.int v) (.int 10)=some (.int (v*10)):=acC (.inl (.inr ⟨by decide,by decide⟩))
  obtain ⟨y2,ih⟩:=aeU S (x0:=x0) is (v*10) (some (.pv i))
  refine ⟨y2,?_⟩
  have e:v*10 ^ (i :: is).length=v*10*10 ^ is.length:=by
   rw [List.length_cons,Int.pow_succ,Int.mul_assoc,Int.mul_comm 10]
  rw [e,← ih,acq]
  simp [gN,EC,fAbs,aak,aao,fIx,atI,ixN,fEq,fNe,eqN,aal,aam,aan,aap,fAdd,aah,frz,aau,m]
theorem agv (S:Sto) {n:Nat} (h:n≤100):acU [.pv (.int (n:Int))] S=.ok (.pv (.int (10 ^ n))) S:=by
 have rg:rng1 [.pv (.int (n:Int))] S=.ok (acL 0 n,[]) S:=by
  unfold rng1
  dsimp only
  rw [if_pos ⟨by omega,by omega⟩]
  rfl
 obtain ⟨y2,e⟩:=aeU S (x0:=some (.pv (.int (n:Int)))) (acL 0 n) 1 none
 have l:(acL 0 n).length=n:=by unfold acL; simp
 rw [l,Int.one_mul] at e
 have hb:afo=(sSeq (sSet 1 (mC (.int 1))) (sSeq (sFor (aez (aac (mVar 0) mNil)) (gN 2) (sSet 1 (mBin fMul (mVar 1) (mC (.int 10))))) (sRet (mVar 1)))):=rfl
 unfold acU fnM
 rw [hb]
 generalize (sSet 1 (mBin fMul (mVar 1) (mC (.int 10))))=LB at *
 generalize acL 0 n=IL at *
 generalize ((10:Int) ^ n)=TN at *
 generalize (n:Int)=N at *
 simp [EC,fAbs,aak,aao,fIx,atI,ixN,fEq,fNe,eqN,aal,aam,aan,aap,fAdd,aah,frz,aau,sFor,aez,rg,e]
theorem row1 (ns:List Int) {m:Int} (hm:0 < m) (b:Bd 8000 m):∃ (v:Int) (ns':List Int),aav [.ref 0,.pv (.int m)] [.lst (li ns)]=.ok (.pv (.int v)) [.lst (li ns')]∧0≤v∧v < m:=by
 obtain ⟨v,n1,e,a,c,_⟩:=ajv (S:=[.lst (li ns)]) (k:=0) (ns:=ns) (m:=m) rfl hm b
 exact ⟨v,n1,e,a,c⟩
theorem ahu (ns:List Int):∃ (T:Str) (ns':List Int),aaQ [.ref 0] [.lst (li ns)]=.ok (.pv (.str T)) [.lst (li ns')]∧Asc 161 T:=by
 obtain ⟨a,n1,e1,a0,a1⟩:=row1 ns (m:=4) (by decide) (sm8 (by decide) (by decide))
 obtain ⟨b,n2,e2,b0,b1⟩:=row1 n1 (m:=4) (by decide) (sm8 (by decide) (by decide))
 obtain ⟨c,n3,e3,c0,c1⟩:=row1 n2 (m:=3) (by decide) (sm8 (by decide) (by decide))
 have pw:∀ n:Nat,n≤61→∀ ms,∃ (T:Str) (ms':List Int),(∃ v,aav [.ref 0,.pv (.int (10 ^ n))] [.lst (li ms)]=.ok (.pv (.int v)) [.lst (li ms')]∧fStr [.int v]=some (.str (tx (dg v.toNat)))∧afc (tx (dg v.toNat)) [.int (n:Int)]=some (.str T))∧Asc 161 T:=fun n hn ms=>by
  have p1:(10:Int) ^ n≤10 ^ 61:=by
   have:(10:Nat) ^ n≤10 ^ 61:=Nat.pow_le_pow_right (by decide) hn
   exact_mod_cast this
  have p0:(0:Int) < 10 ^ n:=Int.pow_pos (by decide)
  obtain ⟨v,m1,e,v0,v1⟩:=row1 ms (m:=10 ^ n) p0 ((Bd.of (k:=300) (n:=10 ^ 61) (by omega) (by decide +kernel)).mono (by decide))
  have hv:v < 10 ^ 61:=by omega
  obtain ⟨s1,_⟩:=ajM v0 hv
  obtain ⟨T,z1,z2⟩:=ahd (m:=v.toNat) (i:=(n:Int)) (by
   have:((v.toNat:Nat):Int) < 10 ^ 61:=by omega
   exact_mod_cast this) (by omega) (by omega)
  exact ⟨T,m1,⟨v,e,s1,z1⟩,z2⟩
 have hb:(b == 3)=true∨(b == 3)=false:=by cases (b == 3) <;> simp
 rcases hb with hb | hb
 ·obtain ⟨k,hk,hk2⟩:∃ k:Nat,59+c=(k:Int)∧k≤61:=⟨(59+c).toNat,by omega,by omega⟩
  obtain ⟨T,m1,⟨v,e4,s4,z4⟩,A⟩:=pw k hk2 n3
  have et:=agv [.lst (li n3)] (n:=k) (by omega)
  have ad:fAdd (.int 59) (.int c)=some (.int (k:Int)):=by rw [fAdd,hk]
  refine ⟨T,m1,?_,A⟩
  generalize tx (dg v.toNat)=TD at *
  generalize ((10:Int) ^ k)=TN at *
  generalize (k:Int)=KN at *
  have a1':fAdd (.int 1) (.int a)=some (.int (1+a)):=rfl
  unfold aaQ fnM acx
  simp [EC,fAbs,aak,aao,fIx,atI,ixN,fEq,fNe,eqN,aal,aam,aan,aap,aah,frz,aau,a1',e1,e2,hb,e3,ad,et,e4,s4,mMet,strR,z4]
 ·obtain ⟨k,hk,hk2⟩:∃ k:Nat,1+a=(k:Int)∧k≤61:=⟨(1+a).toNat,by omega,by omega⟩
  obtain ⟨T,m1,⟨v,e4,s4,z4⟩,A⟩:=pw k hk2 n2
  have et:=agv [.lst (li n2)] (n:=k) (by omega)
  have ad:fAdd (.int 1) (.int a)=some (.int (k:Int)):=by rw [fAdd,hk]
  refine ⟨T,m1,?_,A⟩
  generalize tx (dg v.toNat)=TD at *
  generalize ((10:Int) ^ k)=TN at *
  generalize (k:Int)=KN at *
  unfold aaQ fnM acx
  simp [EC,fAbs,aak,aao,fIx,atI,ixN,fEq,fNe,eqN,aal,aam,aan,aap,aah,frz,aau,e1,e2,hb,ad,et,e4,s4,mMet,strR,z4]
theorem ae9:Asc 1 ("/":Str)∧Asc 1 ("-":Str):=⟨⟨[47],aeu,by decide,by decide⟩,⟨[45],afx,by decide,by decide⟩⟩
theorem afW (ns:List Int):∃ (T:Str) (ns':List Int),aaD [.ref 0] [.lst (li ns)]=.ok (.pv (.str T)) [.lst (li ns')]∧Asc 600 T:=by
 obtain ⟨T,n1,e1,A1⟩:=ahu ns
 obtain ⟨w,n2,e2,w0,w1⟩:=row1 n1 (m:=6) (by decide) (sm8 (by decide) (by decide))
 have mid:∃ (U:Str) (n4:List Int),Asc 500 U∧∀ x3 x4:MS,(sSeq (sIf (mOr (mTst (mBin fEq (mVar 2) (mC (.int 0)))) (mTst (mBin fEq (mVar 2) (mC (.int 1))))) (sSet 1 (mBin abp (mBin abp (mVar 1) (mC (.str "/"))) (aag aaQ [] (aac (mVar 0) mNil)))) sNil) (sSeq (sIf (mTst (mBin fEq (mVar 2) (mC (.int 2)))) (sSet 1 (mBin abp (mBin abp (mVar 1) (mC (.str "/"))) (mR fStr (aac (mBin fAdd (mC (.int 1)) (aag aav [] (aac (mVar 0) (aac (mC (.int 12)) mNil)))) mNil)))) sNil) (sSeq x3 x4))) [some (.ref 0),some (.pv (.str T)),some (.pv (.int w))] [.lst (li n2)]=(sSeq x3 x4) [some (.ref 0),some (.pv (.str U)),some (.pv (.int w))] [.lst (li n4)]:=by
  obtain ⟨a1,A2⟩:=acm A1 ae9.1 (by decide)
  by_cases h01:w=0∨w=1
  ·obtain ⟨U,n3,e3,A3⟩:=ahu n2
   obtain ⟨a2,A4⟩:=acm A2 A3 (by decide)
   refine ⟨_,n3,A4.mono (by decide),fun x3 x4=>?_⟩
   have h2:(w == 2)=false:=by
    rcases h01 with rfl | rfl <;> rfl
   rcases h01 with rfl | rfl
   ·simp [EC,fAbs,aak,aao,fIx,atI,ixN,fEq,fNe,eqN,aal,aam,aan,aap,fAdd,aah,frz,aau,a1,e3,a2]
   ·simp [EC,fAbs,aak,aao,fIx,atI,ixN,fEq,fNe,eqN,aal,aam,aan,aap,fAdd,aah,frz,aau,a1,e3,a2]
  ·have h0:(w == 0)=false:=by simpa using fun z=>h01 (.inl z)
   have h1:(w == 1)=false:=by simpa using fun z=>h01 (.inr z)
   by_cases h2:w=2
   ·obtain ⟨v,n3,e3,v0,v1⟩:=row1 n2 (m:=12) (by decide) (sm8 (by decide) (by decide))
    have hv:1+v < 10 ^ 61:=by omega
    obtain ⟨s1,_⟩:=ajM (v:=1+v) (by omega) hv
    obtain ⟨a2,A4⟩:=acm A2 (akd hv (by omega)) (by decide)
    refine ⟨_,n3,A4.mono (by decide),fun x3 x4=>?_⟩
    subst h2
    generalize tx (dg (1+v).toNat)=TD at *
    simp [EC,fAbs,aak,aao,fIx,atI,ixN,fEq,fNe,eqN,aal,aam,aan,aap,fAdd,aah,frz,aau,a1,e3,s1,a2]
   ·have h2:(w == 2)=false:=by simpa using h2
    refine ⟨T,n2,A1.mono (by decide),fun x3 x4=>?_⟩
    simp [EC,fAbs,aak,aao,fIx,atI,ixN,fEq,fNe,eqN,aal,aam,aan,aap,fAdd,aah,frz,aau,h0,h1,h2]
 obtain ⟨U,n4,AU,em⟩:=mid
 obtain ⟨q,n5,e5,q0,q1⟩:=row1 n4 (m:=3) (by decide) (sm8 (by decide) (by decide))
 have hb:abW=(sSeq (sSet 1 (aag aaQ [] (aac (mVar 0) mNil))) (sSeq (sSet 2 (aag aav [] (aac (mVar 0) (aac (mC (.int 6)) mNil)))) (sSeq (sIf (mOr (mTst (mBin fEq (mVar 2) (mC (.int 0)))) (mTst (mBin fEq (mVar 2) (mC (.int 1))))) (sSet 1 (mBin abp (mBin abp (mVar 1) (mC (.str "/"))) (aag aaQ [] (aac (mVar 0) mNil)))) sNil) (sSeq (sIf (mTst (mBin fEq (mVar 2) (mC (.int 2)))) (sSet 1 (mBin abp (mBin abp (mVar 1) (mC (.str "/"))) (mR fStr (aac (mBin fAdd (mC (.int 1)) (aag aav [] (aac (mVar 0) (aac (mC (.int 12)) mNil)))) mNil)))) sNil) (sSeq (sIf (mTst (mBin fEq (aag aav [] (aac (mVar 0) (aac (mC (.int 3)) mNil))) (mC (.int 2)))) (sSet 1 (mBin abp (mC (.str "-")) (mVar 1))) sNil) (sRet (mVar 1))))))):=rfl
 have em:=em (sIf (mTst (mBin fEq (aag aav [] (aac (mVar 0) (aac (mC (.int 3)) mNil))) (mC (.int 2)))) (sSet 1 (mBin abp (mC (.str "-")) (mVar 1))) sNil) (sRet (mVar 1))
 have key:∃ (W:Str),Asc 600 W∧(sSeq (sIf (mTst (mBin fEq (aag aav [] (aac (mVar 0) (aac (mC (.int 3)) mNil))) (mC (.int 2)))) (sSet 1 (mBin abp (mC (.str "-")) (mVar 1))) sNil) (sRet (mVar 1))) [some (.ref 0),some (.pv (.str U)),some (.pv (.int w))] [.lst (li n4)]=.rt (.pv (.str W)) [.lst (li n5)]:=by
  obtain ⟨a3,A5⟩:=acm ae9.2 AU (by decide)
  by_cases h2:q=2
  ·subst h2
   refine ⟨_,A5.mono (by decide),?_⟩
   simp [EC,fAbs,aak,aao,fIx,atI,ixN,fEq,fNe,eqN,aal,aam,aan,aap,fAdd,aah,frz,aau,e5,a3]
  ·have h2:(q == 2)=false:=by simpa using h2
   refine ⟨U,AU.mono (by decide),?_⟩
   simp [EC,fAbs,aak,aao,fIx,atI,ixN,fEq,fNe,eqN,aal,aam,aan,aap,fAdd,aah,frz,aau,e5,h2]
 obtain ⟨W,AW,ek⟩:=key
 refine ⟨W,n5,?_,AW⟩
 unfold aaD fnM
 rw [hb]
 rw [ek] at em
 generalize (sSeq (sIf (mOr (mTst (mBin fEq (mVar 2) (mC (.int 0)))) (mTst (mBin fEq (mVar 2) (mC (.int 1))))) (sSet 1 (mBin abp (mBin abp (mVar 1) (mC (.str "/"))) (aag aaQ [] (aac (mVar 0) mNil)))) sNil) (sSeq (sIf (mTst (mBin fEq (mVar 2) (mC (.int 2)))) (sSet 1 (mBin abp (mBin abp (mVar 1) (mC (.str "/"))) (mR fStr (aac (mBin fAdd (mC (.int 1)) (aag aav [] (aac (mVar 0) (aac (mC (.int 12)) mNil)))) mNil)))) sNil) (sSeq (sIf (mTst (mBin fEq (aag aav [] (aac (mVar 0) (aac (mC (.int 3)) mNil))) (mC (.int 2)))) (sSet 1 (mBin abp (mC (.str "-")) (mVar 1))) sNil) (sRet (mVar 1)))))=RB at *
 simp [EC,fAbs,aak,aao,fIx,atI,ixN,fEq,fNe,eqN,aal,aam,aan,aap,fAdd,aah,frz,aau,e1,e2,em]
theorem aj6:(" ,+/-0123456789nonepushturnby":Str)=tx [32,44,43,47,45,48,49,50,51,52,53,54,55,56,57,110,111,110,101,112,117,115,104,116,117,114,110,98,121]:=by kernel_rfl
theorem akt:(" !\"#$&'()*+,-./0123456789:;<=>?@ABCDEFGHIJKLMNOPQRSTUVWXYZ[\\]^_`abcdefghijklmnopqrstuvwxyz{|}~":Str)=tx [32,33,34,35,36,38,39,40,41,42,43,44,45,46,47,48,49,50,51,52,53,54,55,56,57,58,59,60,61,62,63,64,65,66,67,68,69,70,71,72,73,74,75,76,77,78,79,80,81,82,83,84,85,86,87,88,89,90,91,92,93,94,95,96,97,98,99,100,101,102,103,104,105,106,107,108,109,110,111,112,113,114,115,116,117,118,119,120,121,122,123,124,125,126]:=by kernel_rfl
theorem aks {L:List Nat} (ha:∀ c∈L,c < 128) (hl:L.length≤1000) {v:Int} (h0:0≤v) (h1:v < L.length):∃ T,fIxS (.str (tx L)) (.int v)=some (.str T)∧Asc 1 T:=by
 obtain ⟨j,rfl⟩:=Int.eq_ofNat_of_zero_le h0
 have hj:j < L.length:=by omega
 refine ⟨tx [L[j]],?_,⟨_,rfl,fun c hc=>?_,by simp⟩⟩
 ·show (if (tx L).length≤16777216 then (atI (tx L).cps.toList (j:Int)).map (fun c=>PV.str ⟨#[c]⟩) else none)=_
  have e:(tx L).cps.toList=L:=by simp [tx]
  rw [if_pos (by rw [abd]; omega),e,ajQ (j:=j) (List.getElem?_eq_getElem hj)]
  rfl
 ·have:c=L[j]:=by simpa using hc
  rw [this]
  exact ha _ (List.getElem_mem _)
theorem aiA {L:List Nat} (hl:L.length≤1000):abY [.str (tx L)]=some (.int (L.length:Nat)):=by
 show (if (tx L).length≤16777216 then some (PV.int ((tx L).length:Nat)) else none)=_
 rw [if_pos (by rw [abd]; omega),abd]
theorem agp (ns:List Int):∃ (T:Str) (ns':List Int),abJ [.ref 0] [.lst (li ns)]=.ok (.pv (.str T)) [.lst (li ns')]∧Asc 1 T:=by
 obtain ⟨a,n1,e1,a0,a1⟩:=row1 ns (m:=2) (by decide) (sm8 (by decide) (by decide))
 have l1:=aiA (L:=[32,44,43,47,45,48,49,50,51,52,53,54,55,56,57,110,111,110,101,112,117,115,104,116,117,114,110,98,121]) (by decide)
 have l2:=aiA (L:=[32,33,34,35,36,38,39,40,41,42,43,44,45,46,47,48,49,50,51,52,53,54,55,56,57,58,59,60,61,62,63,64,65,66,67,68,69,70,71,72,73,74,75,76,77,78,79,80,81,82,83,84,85,86,87,88,89,90,91,92,93,94,95,96,97,98,99,100,101,102,103,104,105,106,107,108,109,110,111,112,113,114,115,116,117,118,119,120,121,122,123,124,125,126]) (by decide)
 obtain ⟨v,n2,e2,v0,v1⟩:=row1 n1 (m:=(([32,44,43,47,45,48,49,50,51,52,53,54,55,56,57,110,111,110,101,112,117,115,104,116,117,114,110,98,121].length:Nat):Int)) (by decide) (sm8 (by decide) (by decide))
 obtain ⟨u,n3,e3,u0,u1⟩:=row1 n1 (m:=(([32,33,34,35,36,38,39,40,41,42,43,44,45,46,47,48,49,50,51,52,53,54,55,56,57,58,59,60,61,62,63,64,65,66,67,68,69,70,71,72,73,74,75,76,77,78,79,80,81,82,83,84,85,86,87,88,89,90,91,92,93,94,95,96,97,98,99,100,101,102,103,104,105,106,107,108,109,110,111,112,113,114,115,116,117,118,119,120,121,122,123,124,125,126].length:Nat):Int)) (by decide) (sm8 (by decide) (by decide))
 obtain ⟨T,t1,A1⟩:=aks (L:=[32,44,43,47,45,48,49,50,51,52,53,54,55,56,57,110,111,110,101,112,117,115,104,116,117,114,110,98,121]) (by decide) (by decide) v0 v1
 obtain ⟨U,t2,A2⟩:=aks (L:=[32,33,34,35,36,38,39,40,41,42,43,44,45,46,47,48,49,50,51,52,53,54,55,56,57,58,59,60,61,62,63,64,65,66,67,68,69,70,71,72,73,74,75,76,77,78,79,80,81,82,83,84,85,86,87,88,89,90,91,92,93,94,95,96,97,98,99,100,101,102,103,104,105,106,107,108,109,110,111,112,113,114,115,116,117,118,119,120,121,122,123,124,125,126]) (by decide) (by decide) u0 u1
 rw [← aj6] at l1 t1
 rw [← akt] at l2 t2
 generalize (([32,44,43,47,45,48,49,50,51,52,53,54,55,56,57,110,111,110,101,112,117,115,104,116,117,114,110,98,121].length:Nat):Int)=N1 at *
 generalize (([32,33,34,35,36,38,39,40,41,42,43,44,45,46,47,48,49,50,51,52,53,54,55,56,57,58,59,60,61,62,63,64,65,66,67,68,69,70,71,72,73,74,75,76,77,78,79,80,81,82,83,84,85,86,87,88,89,90,91,92,93,94,95,96,97,98,99,100,101,102,103,104,105,106,107,108,109,110,111,112,113,114,115,116,117,118,119,120,121,122,123,124,125,126].length:Nat):Int)=N2 at *
 unfold abJ fnM ac0
 generalize (" ,+/-0123456789nonepushturnby":Str)=TS at *
 generalize (" !\"#$&'()*+,-./0123456789:;<=>?@ABCDEFGHIJKLMNOPQRSTUVWXYZ[\\]^_`abcdefghijklmnopqrstuvwxyz{|}~":Str)=TM at *
 have ha:(a == 0)=true∨(a == 0)=false:=by cases (a == 0) <;> simp
 rcases ha with ha | ha
 ·exact ⟨T,n2,by simp [EC,fAbs,aak,aao,fIx,atI,ixN,fEq,fNe,eqN,aal,aam,aan,aap,fAdd,aah,frz,aau,e1,ha,l1,e2,t1],A1⟩
 ·exact ⟨U,n3,by simp [EC,fAbs,aak,aao,fIx,atI,ixN,fEq,fNe,eqN,aal,aam,aan,aap,fAdd,aah,frz,aau,e1,ha,l2,e3,t2],A2⟩
theorem aeC {n:Nat} (hn:n≤800) (ns:List Int) {T:Str} (h:Asc n T):∃ (U:Str) (ns':List Int),aa8 [.ref 0,.pv (.str T)] [.lst (li ns)]=.ok (.pv (.str U)) [.lst (li ns')]∧Asc (2*n+1) U:=by
 obtain ⟨w,n1,e1,w0,w1⟩:=row1 ns (m:=6) (by decide) (sm8 (by decide) (by decide))
 unfold aa8 fnM adL
 by_cases hw:2 < w
 ·exact ⟨T,n1,by simp [EC,fAbs,aak,aao,fIx,atI,ixN,fEq,fNe,eqN,aal,aam,aan,aap,fAdd,aah,frz,aau,e1,hw],h.mono (by omega)⟩
 ·obtain ⟨el,hl⟩:=ajr h (by omega)
  obtain ⟨k,n2,e2,k0,k1⟩:=row1 n1 (m:=((T.length:Nat):Int)+1) (by omega) (sm8 (by omega) (by omega))
  obtain ⟨C,n3,e3,AC⟩:=agp n2
  obtain ⟨j,rfl⟩:=Int.eq_ofNat_of_zero_le k0
  obtain ⟨A,B,D,s1,s2,s3,AA,AB,AD⟩:=akm (j:=j) h (by omega) (by omega)
  obtain ⟨a1,A1⟩:=acm AA AC (by omega)
  obtain ⟨a2,A2⟩:=acm A1 AB (by omega)
  obtain ⟨a3,A3⟩:=acm AA AD (by omega)
  obtain ⟨a4,A4⟩:=acm A1 AD (by omega)
  generalize ((T.length:Nat):Int)=TN at *
  generalize (j:Int)=J at *
  by_cases h0:w=0
  ·subst h0
   exact ⟨_,n3,by simp [EC,fAbs,aak,aao,fIx,atI,ixN,fEq,fNe,eqN,aal,aam,aan,aap,fAdd,aah,frz,aau,e1,el,e2,e3,mSlS,mO0,mO1,aa4,s1,s2,a1,a2],A2.mono (by omega)⟩
  ·have h0:(w == 0)=false:=by simpa using h0
   by_cases h1:w=1
   ·subst h1
    exact ⟨_,n3,by simp [EC,fAbs,aak,aao,fIx,atI,ixN,fEq,fNe,eqN,aal,aam,aan,aap,fAdd,aah,frz,aau,e1,el,e2,e3,mSlS,mO0,mO1,aa4,s1,s3,a3],A3.mono (by omega)⟩
   ·have h1:(w == 1)=false:=by simpa using h1
    exact ⟨_,n3,by simp [EC,fAbs,aak,aao,fIx,atI,ixN,fEq,fNe,eqN,aal,aam,aan,aap,fAdd,aah,frz,aau,e1,hw,h0,h1,el,e2,e3,mSlS,mO0,mO1,aa4,s1,s3,a1,a4],A4.mono (by omega)⟩
def fnd (r:Option (Int × Int)):PV:=match r with
 | some (t,b)=>.tup [.str "told",.tup ((fr t b).map .int)]
 | none=>.tup [.str "refused",.bl true,.bl true,.bl false]
theorem aip (S:Sto) {T:Str} {r:Option (Int × Int)} (h:aaq [.pv (.str T)] S=outN r S):aaO [.pv (.str T)] S=.ok (.pv (fnd r)) S:=by
 unfold aaO fnM aeA
 cases r with
 | some p =>
  obtain ⟨t,b⟩:=p
  have h:aaq [.pv (.str T)] S=.ok (.pv (.tup ((fr t b).map .int))) S:=h
  show _=Res.ok (AV.pv (.tup [.str "told",.tup ((fr t b).map .int)])) S
  generalize (fr t b).map PV.int=FL at *
  simp [EC,fAbs,aak,aao,fIx,atI,ixN,fEq,fNe,eqN,aal,aam,aan,aap,fAdd,aah,frz,aau,agJ,ag5,afa,h]
 | none =>
  have h:aaq [.pv (.str T)] S=.exc "NoText" S:=h
  show _=Res.ok (AV.pv (.tup [.str "refused",.bl true,.bl true,.bl false])) S
  simp [EC,fAbs,aak,aao,fIx,atI,ixN,fEq,fNe,eqN,aal,aam,aan,aap,fAdd,aah,frz,aau,agJ,ag5,afa,h]
theorem afN (S:Sto) (r:Option (Int × Int)):aaR [.pv (fnd r),outL r] S=.ok (.pv (.bl true)) S:=by
 unfold aaR fnM aej
 cases r with
 | some p =>
  obtain ⟨t,b⟩:=p
  have w:=aji S t b
  have q:eqN 8 (.tup ((fr t b).map .int)) (.tup ((fr t b).map .int))=some true:=aiS 7 (fr t b)
  have ef:fnd (some (t,b))=.tup [.str "told",.tup ((fr t b).map .int)]:=rfl
  have eo:outL (some (t,b))=.pv (.tup ((fr t b).map .int)):=rfl
  rw [ef,eo]
  have qs:eqN 8 (.str "told") (.str "told")=some true:=by simp [eqN]
  generalize (fr t b).map PV.int=FL at *
  simp [EC,fAbs,aak,aao,fEq,fNe,aiH,aal,aam,aan,aap,fAdd,aah,frz,aau,fIx,atI,ixN,fIsN,w,q,qs]
 | none =>
  simp [EC,fAbs,aak,aao,fIx,atI,ixN,fEq,fNe,eqN,aal,aam,aan,aap,fAdd,aah,frz,aau,fIsN,fnd,outL,eqN,abZ]
theorem ahA {n:Nat} (hn:n≤9000) {T:Str} (h:Asc n T):∃ r:Option (Int × Int),∀ S,aaO [.pv (.str T)] S=.ok (.pv (fnd r)) S∧aaw [.pv (.str T)] S=.ok (outL r) S:=by
 obtain ⟨L,rfl,a,b⟩:=h
 obtain ⟨P,es,hf,hi,hp⟩:=aj8 L 47
 refine ⟨rdN P,fun S=>⟨aip S (agx S es hp (fun p h c hc=>a c (by rw [← hi]; exact adh h c hc)) (fun p h=>by have z:=ads (c:=47) h; rw [hi] at z; omega) (by omega)),aig S hi hp hf a (by omega)⟩⟩
theorem ah9 {v:Int} (h0:0≤v) (h1:v < 4):∃ T,fIx (.lst [.str "",.str "-",.str "/",.str "0/0"]) (.int v)=some (.str T)∧Asc 9 T:=by
 have:v=0∨v=1∨v=2∨v=3:=by omega
 rcases this with rfl | rfl | rfl | rfl
 ·exact ⟨_,rfl,[],by kernel_rfl,by decide,by decide⟩
 ·exact ⟨_,rfl,[45],by kernel_rfl,by decide,by decide⟩
 ·exact ⟨_,rfl,[47],by kernel_rfl,by decide,by decide⟩
 ·exact ⟨_,rfl,[48,47,48],by kernel_rfl,by decide,by decide⟩
theorem agS (r:Option (Int × Int)):∃ v,outL r=.pv v:=by
 cases r with
 | none=>exact ⟨_,rfl⟩
 | some p=>exact ⟨_,rfl⟩
theorem aib (ns:List Int) (h:ns.length≤63):∃ S,ajI [.pv (.lst (ns.map .int))] []=.ok (.pv (.bl true)) S:=by
 obtain ⟨ms,e0,_⟩:=akz ns [] h
 have e0:ac7 [.pv (.lst (ns.map .int))] []=.ok (.ref 0) [.lst (li ms)]:=e0
 obtain ⟨T1,n1,e1,A1⟩:=afW ms
 obtain ⟨T2,n2,e2,A2⟩:=aeC (by decide) n1 A1
 obtain ⟨q,n3,e3,q0,q1⟩:=row1 n2 (m:=24) (by decide) (sm8 (by decide) (by decide))
 obtain ⟨v,n4,e4,v0,v1⟩:=row1 n3 (m:=4) (by decide) (sm8 (by decide) (by decide))
 obtain ⟨T3,i3,A3⟩:=ah9 v0 v1
 have line:∃ (T:Str) (n5:List Int),Asc 2000 T∧∀ (a4 a5:MS) x0 x3 x4,(sSeq (sIf (mTst (mBin fEq (aag aav [] (aac (mVar 1) (aac (mC (.int 24)) mNil))) (mC (.int 23)))) (sSet 2 (mBin fIx (mN fLst (aac (mC (.str "")) (aac (mC (.str "-")) (aac (mC (.str "/")) (aac (mC (.str "0/0")) mNil))))) (aag aav [] (aac (mVar 1) (aac (mC (.int 4)) mNil))))) sNil) (sSeq a4 a5)) [x0,some (.ref 0),some (.pv (.str T2)),x3,x4] [.lst (li n2)]=(sSeq a4 a5) [x0,some (.ref 0),some (.pv (.str T)),x3,x4] [.lst (li n5)]:=by
  have hq:(q == 23)=true∨(q == 23)=false:=by cases (q == 23) <;> simp
  rcases hq with hq | hq
  ·refine ⟨T3,n4,A3.mono (by decide),fun a4 a5 x0 x3 x4=>?_⟩
   simp [EC,fAbs,aak,aao,fEq,fNe,aiH,aal,aam,aan,aap,fAdd,aah,frz,aau,e3,hq,e4,i3]
  ·refine ⟨T2,n3,A2.mono (by decide),fun a4 a5 x0 x3 x4=>?_⟩
   simp [EC,fAbs,aak,aao,fIx,atI,ixN,fEq,fNe,eqN,aal,aam,aan,aap,fAdd,aah,frz,aau,e3,hq]
 obtain ⟨T,n5,A,el⟩:=line
 obtain ⟨T4,n6,e6,A6⟩:=afW n5
 obtain ⟨T5,n7,e7,A7⟩:=aeC (by decide) n6 A6
 obtain ⟨r,hr⟩:=ahA (by decide) A
 obtain ⟨r2,hr2⟩:=ahA (by decide) A7
 obtain ⟨k1,k2⟩:=hr [.lst (li n7)]
 obtain ⟨k3,k4⟩:=hr2 [.lst (li n7)]
 have m1:=afN [.lst (li n7)] r
 have m2:=afN [.lst (li n7)] r2
 obtain ⟨o1,eo1⟩:=agS r
 obtain ⟨o2,eo2⟩:=agS r2
 rw [eo1] at k2 m1
 rw [eo2] at k4 m2
 generalize fnd r=F1 at *
 generalize fnd r2=F2 at *
 refine ⟨[],?_⟩
 have hb:ajD=(sSeq (sSet 1 (aa9 ac7 [] (aac (mVar 0) mNil)))
 (sSeq (sSet 2 (aag aa8 [] (aac (mVar 1) (aac (aag aaD [] (aac (mVar 1) mNil)) mNil))))
 (sSeq (sIf (mTst (mBin fEq (aag aav [] (aac (mVar 1) (aac (mC (.int 24)) mNil))) (mC (.int 23)))) (sSet 2 (mBin fIx (mN fLst (aac (mC (.str "")) (aac (mC (.str "-")) (aac (mC (.str "/")) (aac (mC (.str "0/0")) mNil))))) (aag aav [] (aac (mVar 1) (aac (mC (.int 4)) mNil))))) sNil)
 (sSeq (sSet 3 (aag aa8 [] (aac (mVar 1) (aac (aag aaD [] (aac (mVar 1) mNil)) mNil))))
 (sSeq (sSet 4 (aag aaw [] (aac (mVar 2) mNil)))
 (sSeq (sIf (mNot (mTst (aag aaR [] (aac (aag aaO [] (aac (mVar 2) mNil)) (aac (mVar 4) mNil))))) (sRet (mC (.bl false))) sNil)
 (sSeq (sIf (mNot (mTst (aag aaR [] (aac (aag aaO [] (aac (mVar 3) mNil)) (aac (aag aaw [] (aac (mVar 3) mNil)) mNil))))) (sRet (mC (.bl false))) sNil)
 (sRet (aag aaR [] (aac (aag aaO [] (aac (mVar 2) mNil)) (aac (mVar 4) mNil))))))))))):=rfl
 unfold ajI fnM
 rw [hb]
 generalize ns.map PV.int=NL at *
 have el:=el (sSet 3 (aag aa8 [] (aac (mVar 1) (aac (aag aaD [] (aac (mVar 1) mNil)) mNil)))) (sSeq (sSet 4 (aag aaw [] (aac (mVar 2) mNil)))
 (sSeq (sIf (mNot (mTst (aag aaR [] (aac (aag aaO [] (aac (mVar 2) mNil)) (aac (mVar 4) mNil))))) (sRet (mC (.bl false))) sNil)
 (sSeq (sIf (mNot (mTst (aag aaR [] (aac (aag aaO [] (aac (mVar 3) mNil)) (aac (aag aaw [] (aac (mVar 3) mNil)) mNil))))) (sRet (mC (.bl false))) sNil)
 (sRet (aag aaR [] (aac (aag aaO [] (aac (mVar 2) mNil)) (aac (mVar 4) mNil)))))))
 generalize (sSeq (sIf (mTst (mBin fEq (aag aav [] (aac (mVar 1) (aac (mC (.int 24)) mNil))) (mC (.int 23)))) (sSet 2 (mBin fIx (mN fLst (aac (mC (.str "")) (aac (mC (.str "-")) (aac (mC (.str "/")) (aac (mC (.str "0/0")) mNil))))) (aag aav [] (aac (mVar 1) (aac (mC (.int 4)) mNil))))) sNil)
 (sSeq (sSet 3 (aag aa8 [] (aac (mVar 1) (aac (aag aaD [] (aac (mVar 1) mNil)) mNil))))
 (sSeq (sSet 4 (aag aaw [] (aac (mVar 2) mNil)))
 (sSeq (sIf (mNot (mTst (aag aaR [] (aac (aag aaO [] (aac (mVar 2) mNil)) (aac (mVar 4) mNil))))) (sRet (mC (.bl false))) sNil)
 (sSeq (sIf (mNot (mTst (aag aaR [] (aac (aag aaO [] (aac (mVar 3) mNil)) (aac (aag aaw [] (aac (mVar 3) mNil)) mNil))))) (sRet (mC (.bl false))) sNil)
 (sRet (aag aaR [] (aac (aag aaO [] (aac (mVar 2) mNil)) (aac (mVar 4) mNil)))))))))=LB at *
 simp [EC,fAbs,aak,aao,fIx,atI,ixN,fEq,fNe,eqN,aal,aam,aan,aap,fAdd,aah,frz,aau,e0,e1,e2,el,e6,e7,k1,k2,k3,k4,m1,m2]
theorem all_mk {l:PySem.W.OpenLaw} {w:World} {K:PySem.W.Frag} {h:Heap} {mg:Str→Option Value} {fa:Addr} (X:K.In h) (G:h.Ns mainGlobals mg) (hfa:mg "law"=some (.ref fa))
  {f16:Addr} {od16 an16:Option Addr} {sl16:Array (Option Value)} {oc16 kV16 dc16 pm16 cd16 ct16:Value}
  (a16:PySem.W.nsIn K mainGlobals "_law_row"=some (some (.ref f16))) (l16:K.lookup f16=some ⟨oc16,od16,.func (PySem.W.fnOf "_law_row" "_law_row" (aaB adW) (aax adW) (aae adW) .none kV16 dc16 pm16 an16 cd16 ct16),sl16⟩) (c16:PySem.W.codeIn K cd16 "_law_row"=true) (k16:PySem.W.keepIn K (.ref f16)=true)
  {f17:Addr} {od17 an17:Option Addr} {sl17:Array (Option Value)} {oc17 kV17 dc17 pm17 cd17 ct17:Value}
  (a17:PySem.W.nsIn K mainGlobals "_law_take"=some (some (.ref f17))) (l17:K.lookup f17=some ⟨oc17,od17,.func (PySem.W.fnOf "_law_take" "_law_take" (aaB acZ) (aax acZ) (aae acZ) .none kV17 dc17 pm17 an17 cd17 ct17),sl17⟩) (c17:PySem.W.codeIn K cd17 "_law_take"=true) (k17:PySem.W.keepIn K (.ref f17)=true)
  {f25:Addr} {od25 an25:Option Addr} {sl25:Array (Option Value)} {oc25 kV25 dc25 pm25 cd25 ct25:Value}
  (a25:PySem.W.nsIn K mainGlobals "_law_sign_at"=some (some (.ref f25))) (l25:K.lookup f25=some ⟨oc25,od25,.func (PySem.W.fnOf "_law_sign_at" "_law_sign_at" (aaB abH) (aax abH) (aae abH) .none kV25 dc25 pm25 an25 cd25 ct25),sl25⟩) (c25:PySem.W.codeIn K cd25 "_law_sign_at"=true) (k25:PySem.W.keepIn K (.ref f25)=true)
  {f26:Addr} {od26 an26:Option Addr} {sl26:Array (Option Value)} {oc26 kV26 dc26 pm26 cd26 ct26:Value}
  (a26:PySem.W.nsIn K mainGlobals "_law_spoilt"=some (some (.ref f26))) (l26:K.lookup f26=some ⟨oc26,od26,.func (PySem.W.fnOf "_law_spoilt" "_law_spoilt" (aaB ab2) (aax ab2) (aae ab2) .none kV26 dc26 pm26 an26 cd26 ct26),sl26⟩) (c26:PySem.W.codeIn K cd26 "_law_spoilt"=true) (k26:PySem.W.keepIn K (.ref f26)=true)
  {f27:Addr} {od27 an27:Option Addr} {sl27:Array (Option Value)} {oc27 kV27 dc27 pm27 cd27 ct27:Value}
  (a27:PySem.W.nsIn K mainGlobals "_law_tens"=some (some (.ref f27))) (l27:K.lookup f27=some ⟨oc27,od27,.func (PySem.W.fnOf "_law_tens" "_law_tens" (aaB acT) (aax acT) (aae acT) .none kV27 dc27 pm27 an27 cd27 ct27),sl27⟩) (c27:PySem.W.codeIn K cd27 "_law_tens"=true) (k27:PySem.W.keepIn K (.ref f27)=true)
  {f28:Addr} {od28 an28:Option Addr} {sl28:Array (Option Value)} {oc28 kV28 dc28 pm28 cd28 ct28:Value}
  (a28:PySem.W.nsIn K mainGlobals "_law_word_of"=some (some (.ref f28))) (l28:K.lookup f28=some ⟨oc28,od28,.func (PySem.W.fnOf "_law_word_of" "_law_word_of" (aaB abI) (aax abI) (aae abI) .none kV28 dc28 pm28 an28 cd28 ct28),sl28⟩) (c28:PySem.W.codeIn K cd28 "_law_word_of"=true) (k28:PySem.W.keepIn K (.ref f28)=true)
  {f29:Addr} {od29 an29:Option Addr} {sl29:Array (Option Value)} {oc29 kV29 dc29 pm29 cd29 ct29:Value}
  (a29:PySem.W.nsIn K mainGlobals "_law_number_word"=some (some (.ref f29))) (l29:K.lookup f29=some ⟨oc29,od29,.func (PySem.W.fnOf "_law_number_word" "_law_number_word" (aaB aa1) (aax aa1) (aae aa1) .none kV29 dc29 pm29 an29 cd29 ct29),sl29⟩) (c29:PySem.W.codeIn K cd29 "_law_number_word"=true) (k29:PySem.W.keepIn K (.ref f29)=true)
  {f23:Addr} {od23 an23:Option Addr} {sl23:Array (Option Value)} {oc23 kV23 dc23 pm23 cd23 ct23:Value}
  (a23:PySem.W.nsIn K mainGlobals "_law_figures"=some (some (.ref f23))) (l23:K.lookup f23=some ⟨oc23,od23,.func (PySem.W.fnOf "_law_figures" "_law_figures" (aaB abu) (aax abu) (aae abu) .none kV23 dc23 pm23 an23 cd23 ct23),sl23⟩) (c23:PySem.W.codeIn K cd23 "_law_figures"=true) (k23:PySem.W.keepIn K (.ref f23)=true)
  {f18:Addr} {od18 an18:Option Addr} {sl18:Array (Option Value)} {oc18 kV18 dc18 pm18 cd18 ct18:Value}
  (a18:PySem.W.nsIn K mainGlobals "_law_gcd"=some (some (.ref f18))) (l18:K.lookup f18=some ⟨oc18,od18,.func (PySem.W.fnOf "_law_gcd" "_law_gcd" (aaB ad2) (aax ad2) (aae ad2) .none kV18 dc18 pm18 an18 cd18 ct18),sl18⟩) (c18:PySem.W.codeIn K cd18 "_law_gcd"=true) (k18:PySem.W.keepIn K (.ref f18)=true)
  {f19:Addr} {od19 an19:Option Addr} {sl19:Array (Option Value)} {oc19 kV19 dc19 pm19 cd19 ct19:Value}
  (a19:PySem.W.nsIn K mainGlobals "_law_lowest"=some (some (.ref f19))) (l19:K.lookup f19=some ⟨oc19,od19,.func (PySem.W.fnOf "_law_lowest" "_law_lowest" (aaB abM) (aax abM) (aae abM) .none kV19 dc19 pm19 an19 cd19 ct19),sl19⟩) (c19:PySem.W.codeIn K cd19 "_law_lowest"=true) (k19:PySem.W.keepIn K (.ref f19)=true)
  {f22:Addr} {od22 an22:Option Addr} {sl22:Array (Option Value)} {oc22 kV22 dc22 pm22 cd22 ct22:Value}
  (a22:PySem.W.nsIn K mainGlobals "_law_frac"=some (some (.ref f22))) (l22:K.lookup f22=some ⟨oc22,od22,.func (PySem.W.fnOf "_law_frac" "_law_frac" (aaB acX) (aax acX) (aae acX) .none kV22 dc22 pm22 an22 cd22 ct22),sl22⟩) (c22:PySem.W.codeIn K cd22 "_law_frac"=true) (k22:PySem.W.keepIn K (.ref f22)=true)
  {f24:Addr} {od24 an24:Option Addr} {sl24:Array (Option Value)} {oc24 kV24 dc24 pm24 cd24 ct24:Value}
  (a24:PySem.W.nsIn K mainGlobals "_law_number_of"=some (some (.ref f24))) (l24:K.lookup f24=some ⟨oc24,od24,.func (PySem.W.fnOf "_law_number_of" "_law_number_of" (aaB abl) (aax abl) (aae abl) .none kV24 dc24 pm24 an24 cd24 ct24),sl24⟩) (c24:PySem.W.codeIn K cd24 "_law_number_of"=true) (k24:PySem.W.keepIn K (.ref f24)=true)
  {f20:Addr} {od20 an20:Option Addr} {sl20:Array (Option Value)} {oc20 kV20 dc20 pm20 cd20 ct20:Value}
  (a20:PySem.W.nsIn K mainGlobals "_law_whole"=some (some (.ref f20))) (l20:K.lookup f20=some ⟨oc20,od20,.func (PySem.W.fnOf "_law_whole" "_law_whole" (aaB acp) (aax acp) (aae acp) .none kV20 dc20 pm20 an20 cd20 ct20),sl20⟩) (c20:PySem.W.codeIn K cd20 "_law_whole"=true) (k20:PySem.W.keepIn K (.ref f20)=true)
  {f21:Addr} {od21 an21:Option Addr} {sl21:Array (Option Value)} {oc21 kV21 dc21 pm21 cd21 ct21:Value}
  (a21:PySem.W.nsIn K mainGlobals "_law_wholes"=some (some (.ref f21))) (l21:K.lookup f21=some ⟨oc21,od21,.func (PySem.W.fnOf "_law_wholes" "_law_wholes" (aaB abL) (aax abL) (aae abL) .none kV21 dc21 pm21 an21 cd21 ct21),sl21⟩) (c21:PySem.W.codeIn K cd21 "_law_wholes"=true) (k21:PySem.W.keepIn K (.ref f21)=true)
  {f31:Addr} {od31 an31:Option Addr} {sl31:Array (Option Value)} {oc31 kV31 dc31 pm31 cd31 ct31:Value}
  (a31:PySem.W.nsIn K mainGlobals "_law_meets"=some (some (.ref f31))) (l31:K.lookup f31=some ⟨oc31,od31,.func (PySem.W.fnOf "_law_meets" "_law_meets" (aaB acs) (aax acs) (aae acs) .none kV31 dc31 pm31 an31 cd31 ct31),sl31⟩) (c31:PySem.W.codeIn K cd31 "_law_meets"=true) (k31:PySem.W.keepIn K (.ref f31)=true)
  {f12:Addr} {od12 an12:Option Addr} {sl12:Array (Option Value)} {oc12 kV12 dc12 pm12 cd12 ct12:Value}
  (a12:PySem.W.nsIn K mainGlobals "refuse_unless"=some (some (.ref f12))) (l12:K.lookup f12=some ⟨oc12,od12,.func (PySem.W.fnOf "refuse_unless" "refuse_unless" (aaB aaV) (aax aaV) (aae aaV) .none kV12 dc12 pm12 an12 cd12 ct12),sl12⟩) (c12:PySem.W.codeIn K cd12 "refuse_unless"=true) (k12:PySem.W.keepIn K (.ref f12)=true)
  {f13:Addr} {od13 an13:Option Addr} {sl13:Array (Option Value)} {oc13 kV13 dc13 pm13 cd13 ct13:Value}
  (a13:PySem.W.nsIn K mainGlobals "read_whole"=some (some (.ref f13))) (l13:K.lookup f13=some ⟨oc13,od13,.func (PySem.W.fnOf "read_whole" "read_whole" (aaB aa7) (aax aa7) (aae aa7) .none kV13 dc13 pm13 an13 cd13 ct13),sl13⟩) (c13:PySem.W.codeIn K cd13 "read_whole"=true) (k13:PySem.W.keepIn K (.ref f13)=true)
  {f6:Addr} {od6 an6:Option Addr} {sl6:Array (Option Value)} {oc6 kV6 dc6 pm6 cd6 ct6:Value}
  (a6:PySem.W.nsIn K mainGlobals "sign"=some (some (.ref f6))) (l6:K.lookup f6=some ⟨oc6,od6,.func (PySem.W.fnOf "sign" "sign" (aaB adS) (aax adS) (aae adS) .none kV6 dc6 pm6 an6 cd6 ct6),sl6⟩) (c6:PySem.W.codeIn K cd6 "sign"=true) (k6:PySem.W.keepIn K (.ref f6)=true)
  {f7:Addr} {od7 an7:Option Addr} {sl7:Array (Option Value)} {oc7 kV7 dc7 pm7 cd7 ct7:Value}
  (a7:PySem.W.nsIn K mainGlobals "divisor"=some (some (.ref f7))) (l7:K.lookup f7=some ⟨oc7,od7,.func (PySem.W.fnOf "divisor" "divisor" (aaB ab0) (aax ab0) (aae ab0) .none kV7 dc7 pm7 an7 cd7 ct7),sl7⟩) (c7:PySem.W.codeIn K cd7 "divisor"=true) (k7:PySem.W.keepIn K (.ref f7)=true)
  {f8:Addr} {od8 an8:Option Addr} {sl8:Array (Option Value)} {oc8 kV8 dc8 pm8 cd8 ct8:Value}
  {T8:Addr} {tc8:Value} {td8:Option Addr} {tl8:Array (Option Value)} {tt8:Tok} {tn8:Nat}
  (a8:PySem.W.nsIn K mainGlobals "fraction"=some (some (.ref f8))) (l8:K.lookup f8=some ⟨oc8,od8,.func (PySem.W.fnOf "fraction" "fraction" (aaB abG) (aax abG) (aae abG) (.ref T8) kV8 dc8 pm8 an8 cd8 ct8),sl8⟩) (c8:PySem.W.codeIn K cd8 "fraction"=true) (k8:PySem.W.keepIn K (.ref f8)=true)
  (t8:K.lookup T8=some ⟨tc8,td8,.seq #[.int 1 tt8] tn8,tl8⟩)
  {f14:Addr} {od14 an14:Option Addr} {sl14:Array (Option Value)} {oc14 kV14 dc14 pm14 cd14 ct14:Value}
  (a14:PySem.W.nsIn K mainGlobals "read_number"=some (some (.ref f14))) (l14:K.lookup f14=some ⟨oc14,od14,.func (PySem.W.fnOf "read_number" "read_number" (aaB aba) (aax aba) (aae aba) .none kV14 dc14 pm14 an14 cd14 ct14),sl14⟩) (c14:PySem.W.codeIn K cd14 "read_number"=true) (k14:PySem.W.keepIn K (.ref f14)=true)
  {f30:Addr} {od30 an30:Option Addr} {sl30:Array (Option Value)} {oc30 kV30 dc30 pm30 cd30 ct30:Value}
  (a30:PySem.W.nsIn K mainGlobals "_law_asked"=some (some (.ref f30))) (l30:K.lookup f30=some ⟨oc30,od30,.func (PySem.W.fnOf "_law_asked" "_law_asked" (aaB acv) (aax acv) (aae acv) .none kV30 dc30 pm30 an30 cd30 ct30),sl30⟩) (c30:PySem.W.codeIn K cd30 "_law_asked"=true) (k30:PySem.W.keepIn K (.ref f30)=true)
  {f32:Addr} {od32 an32:Option Addr} {sl32:Array (Option Value)} {oc32 kV32 dc32 pm32 cd32 ct32:Value}
  (a32:PySem.W.nsIn K mainGlobals "law"=some (some (.ref f32))) (l32:K.lookup f32=some ⟨oc32,od32,.func (PySem.W.fnOf "law" "law" (aaB aer) (aax aer) (aae aer) .none kV32 dc32 pm32 an32 cd32 ct32),sl32⟩) (c32:PySem.W.codeIn K cd32 "law"=true) (k32:PySem.W.keepIn K (.ref f32)=true)
  (z1:PySem.W.nsIn K mainGlobals "ValueError"=some none)
  (z2:PySem.W.nsIn K mainGlobals "abs"=some none)
  (z3:PySem.W.nsIn K mainGlobals "all"=some none)
  (z4:PySem.W.nsIn K mainGlobals "bool"=some none)
  (z5:PySem.W.nsIn K mainGlobals "enumerate"=some none)
  (z6:PySem.W.nsIn K mainGlobals "int"=some none)
  (z7:PySem.W.nsIn K mainGlobals "isinstance"=some none)
  (z8:PySem.W.nsIn K mainGlobals "len"=some none)
  (z9:PySem.W.nsIn K mainGlobals "range"=some none)
  (z10:PySem.W.nsIn K mainGlobals "str"=some none)
  (z11:PySem.W.nsIn K mainGlobals "tuple"=some none)
  {C1 C2 C3 C4:Addr}
  (y1:PySem.W.nsIn K mainGlobals "HallError"=some (some (.ref C1))) (x1:PySem.W.excIn K C1 abz "ValueError.__new__"=true)
  (y2:PySem.W.nsIn K mainGlobals "NoNumber"=some (some (.ref C2))) (x2:PySem.W.excIn K C2 abz "ValueError.__new__"=true)
  (y3:PySem.W.nsIn K mainGlobals "NoText"=some (some (.ref C3))) (x3:PySem.W.excIn K C3 abz "ValueError.__new__"=true)
  (y4:PySem.W.nsIn K mainGlobals "TooGreat"=some (some (.ref C4))) (x4:PySem.W.excIn K C4 abz "ValueError.__new__"=true)
  (u1C3:PySem.W.findIn K (.ref C3) "__getattribute__"=some (some (.builtin "BaseException.__getattribute__"))) (u2C3:PySem.W.findIn K (.ref C3) "__getattr__"=some none) (u3C3:PySem.W.mroIn K C3 (.type "BaseException")=some true) (u4C3:PySem.W.mroIn K C3 (.type "object")=some true)
  (u5C3:PySem.W.findIn K (.ref C3) "__class__"=some (some (.builtin "object.__class__"))) (u6C3:PySem.W.specialIn K (.builtin "object.__class__") "__get__"=some (some (.builtin "getset_descriptor.__get__"))) (u7C3:PySem.W.takesIn K (.builtin "object.__class__")=some true) (u8C3:PySem.W.hasDictIn K C3=true)
  (wNoText_HallError:PySem.W.kitOne K (.ref C3) (.ref C1)=some true)
  (wNoText_TooGreat:PySem.W.kitOne K (.ref C3) (.ref C4)=some false)
  (wNoText_ValueError:PySem.W.kitOne K (.ref C3) (.type "ValueError")=some true)
  {gk1:Tok}
  {gk2:Tok}
  (v1:PySem.W.nsIn K mainGlobals "FIGURES"=some (some (.str "0123456789" gk1)))
  (v2:PySem.W.nsIn K mainGlobals "MOST_FIGURES"=some (some (.int 60 gk2)))
  : ∃ fd:FuncData,(∀ (s:Shared) (v:Value),BindsTo s fd ⟨[v],[]⟩ [("_law_script",v)])∧∀ base:Heap,K.In base→base.Ns mainGlobals mg→FnOk l.prog w K mg base CX0 5 fa fd ["_law_script"] (ah6 K):=by
 let cl:Str→Addr:=fun n=>if n="HallError" then C1 else if n="NoNumber" then C2 else if n="NoText" then C3 else if n="TooGreat" then C4 else 0
 have e:=hfa.symm.trans (PySem.W.mg_of X G a32)
 cases e
 have F16:=abc (st:=adW) l16 c16 k16
 have F17:=abc (st:=acZ) l17 c17 k17
 have F25:=abc (st:=abH) l25 c25 k25
 have F26:=abc (st:=ab2) l26 c26 k26
 have F27:=abc (st:=acT) l27 c27 k27
 have F28:=abc (st:=abI) l28 c28 k28
 have F29:=abc (st:=aa1) l29 c29 k29
 have F23:=abc (st:=abu) l23 c23 k23
 have F18:=abc (st:=ad2) l18 c18 k18
 have F19:=abc (st:=abM) l19 c19 k19
 have F22:=abc (st:=acX) l22 c22 k22
 have F24:=abc (st:=abl) l24 c24 k24
 have F20:=abc (st:=acp) l20 c20 k20
 have F21:=abc (st:=abL) l21 c21 k21
 have F31:=abc (st:=acs) l31 c31 k31
 have F12:=abc (st:=aaV) l12 c12 k12
 have F13:=abc (st:=aa7) l13 c13 k13
 have F6:=abc (st:=adS) l6 c6 k6
 have F7:=abc (st:=ab0) l7 c7 k7
 have F8:=aiY (st:=abG) l8 c8 k8 t8 rfl
 have F14:=abc (st:=aba) l14 c14 k14
 have F30:=abc (st:=acv) l30 c30 k30
 have F32:=abc (st:=aer) l32 c32 k32
 have b16:=F16.binds (ps:=["_law_script"]) fun _ _ _ _ _ _ us hl=>match us,hl with | [_],_=>rfl
 have b17:=F17.binds (ps:=["_law_row_here","_law_many"]) fun _ _ _ _ _ _ us hl=>match us,hl with | [_,_],_=>rfl
 have b25:=F25.binds (ps:=["_law_row_here"]) fun _ _ _ _ _ _ us hl=>match us,hl with | [_],_=>rfl
 have b26:=F26.binds (ps:=["_law_row_here","_law_line"]) fun _ _ _ _ _ _ us hl=>match us,hl with | [_,_],_=>rfl
 have b27:=F27.binds (ps:=["_law_many"]) fun _ _ _ _ _ _ us hl=>match us,hl with | [_],_=>rfl
 have b28:=F28.binds (ps:=["_law_row_here"]) fun _ _ _ _ _ _ us hl=>match us,hl with | [_],_=>rfl
 have b29:=F29.binds (ps:=["_law_row_here"]) fun _ _ _ _ _ _ us hl=>match us,hl with | [_],_=>rfl
 have b23:=F23.binds (ps:=["_law_word"]) fun _ _ _ _ _ _ us hl=>match us,hl with | [_],_=>rfl
 have b18:=F18.binds (ps:=["_law_one","_law_other"]) fun _ _ _ _ _ _ us hl=>match us,hl with | [_,_],_=>rfl
 have b19:=F19.binds (ps:=["_law_numbers"]) fun _ _ _ _ _ _ us hl=>match us,hl with | [_],_=>rfl
 have b22:=F22.binds (ps:=["_law_top","_law_bottom"]) fun _ _ _ _ _ _ us hl=>match us,hl with | [_,_],_=>rfl
 have b24:=F24.binds (ps:=["_law_word"]) fun _ _ _ _ _ _ us hl=>match us,hl with | [_],_=>rfl
 have b20:=F20.binds (ps:=["_law_number"]) fun _ _ _ _ _ _ us hl=>match us,hl with | [_],_=>rfl
 have b21:=F21.binds (ps:=["_law_told","_law_many"]) fun _ _ _ _ _ _ us hl=>match us,hl with | [_,_],_=>rfl
 have b31:=F31.binds (ps:=["_law_found","_law_due"]) fun _ _ _ _ _ _ us hl=>match us,hl with | [_,_],_=>rfl
 have b12:=F12.binds (ps:=["fits"]) fun _ _ _ _ _ _ us hl=>match us,hl with | [_],_=>rfl
 have b13:=F13.binds (ps:=["text"]) fun _ _ _ _ _ _ us hl=>match us,hl with | [_],_=>rfl
 have b6:=F6.binds (ps:=["number"]) fun _ _ _ _ _ _ us hl=>match us,hl with | [_],_=>rfl
 have b7:=F7.binds (ps:=["one","other"]) fun _ _ _ _ _ _ us hl=>match us,hl with | [_,_],_=>rfl
 have b8:=F8.binds (ps:=["top","bottom"]) (dd:=[]) fun _ _ _ _ _ _ _ us hl=>match us,hl with | [_,_],_=>⟨_,rfl,rfl⟩
 have bD8:=F8.binds (ps:=["top","bottom"]) (dd:=[.int 1 tt8]) fun _ _ _ _ _ _ _ us hl=>match us,(show us.length=1 by simpa using hl) with | [_],_=>⟨_,rfl,rfl⟩
 have b14:=F14.binds (ps:=["line"]) fun _ _ _ _ _ _ us hl=>match us,hl with | [_],_=>rfl
 have b30:=F30.binds (ps:=["_law_line"]) fun _ _ _ _ _ _ us hl=>match us,hl with | [_],_=>rfl
 have m_ValueError:=PySem.W.mg_none_of X G z1
 have m_abs:=PySem.W.mg_none_of X G z2
 have m_all:=PySem.W.mg_none_of X G z3
 have m_bool:=PySem.W.mg_none_of X G z4
 have m_enumerate:=PySem.W.mg_none_of X G z5
 have m_int:=PySem.W.mg_none_of X G z6
 have m_isinstance:=PySem.W.mg_none_of X G z7
 have m_len:=PySem.W.mg_none_of X G z8
 have m_range:=PySem.W.mg_none_of X G z9
 have m_str:=PySem.W.mg_none_of X G z10
 have m_tuple:=PySem.W.mg_none_of X G z11
 have q_HallError:mg "HallError"=some (.ref (cl "HallError")):=PySem.W.mg_of X G y1
 have x_HallError:PySem.W.excIn K (cl "HallError") abz "ValueError.__new__"=true:=x1
 have q_NoNumber:mg "NoNumber"=some (.ref (cl "NoNumber")):=PySem.W.mg_of X G y2
 have x_NoNumber:PySem.W.excIn K (cl "NoNumber") abz "ValueError.__new__"=true:=x2
 have q_NoText:mg "NoText"=some (.ref (cl "NoText")):=PySem.W.mg_of X G y3
 have x_NoText:PySem.W.excIn K (cl "NoText") abz "ValueError.__new__"=true:=x3
 have q_TooGreat:mg "TooGreat"=some (.ref (cl "TooGreat")):=PySem.W.mg_of X G y4
 have x_TooGreat:PySem.W.excIn K (cl "TooGreat") abz "ValueError.__new__"=true:=x4
 have Z_NoText:XCls K (cl "NoText"):=⟨u1C3,u2C3,u3C3,u4C3,u5C3,u6C3,u7C3,(by obtain ⟨cd,hc,_⟩:=PySem.W.any_some u8C3; show (PySem.W.clsIn K C3).isSome=true; rw [hc]; rfl)⟩
 have gt_FIGURES:GlT K mg "FIGURES" (.str "0123456789"):=⟨_,.str "0123456789",PySem.W.mg_of X G v1,⟨_,rfl⟩,aie⟩
 have gt_MOST_FIGURES:GlT K mg "MOST_FIGURES" (.int 60):=⟨_,.int 60,PySem.W.mg_of X G v2,⟨_,rfl⟩,ai5⟩
 have n16:=PySem.W.mg_of X G a16
 have n17:=PySem.W.mg_of X G a17
 have n25:=PySem.W.mg_of X G a25
 have n26:=PySem.W.mg_of X G a26
 have n27:=PySem.W.mg_of X G a27
 have n28:=PySem.W.mg_of X G a28
 have n29:=PySem.W.mg_of X G a29
 have n23:=PySem.W.mg_of X G a23
 have n18:=PySem.W.mg_of X G a18
 have n19:=PySem.W.mg_of X G a19
 have n22:=PySem.W.mg_of X G a22
 have n24:=PySem.W.mg_of X G a24
 have n20:=PySem.W.mg_of X G a20
 have n21:=PySem.W.mg_of X G a21
 have n31:=PySem.W.mg_of X G a31
 have n12:=PySem.W.mg_of X G a12
 have n13:=PySem.W.mg_of X G a13
 have n6:=PySem.W.mg_of X G a6
 have n7:=PySem.W.mg_of X G a7
 have n8:=PySem.W.mg_of X G a8
 have n14:=PySem.W.mg_of X G a14
 have n30:=PySem.W.mg_of X G a30
 have n32:=PySem.W.mg_of X G a32
 refine ⟨PySem.W.fnOf "law" "law" (aaB aer) (aax aer) (aae aer) .none kV32 dc32 pm32 an32 cd32 ct32,fun s v=>.of_eq rfl,fun base _ _=>?_⟩
 have G16:=ajp (P:=l.prog) (w:=w) (mg:=mg) (base:=base) (cl:=cl) F16 m_enumerate
 have C16:Cal l.prog w K mg base cl "_law_row" 1 ["_law_script"] ac7:=⟨_,_,G16,b16,k16,n16⟩
 have G17:=ail (P:=l.prog) (w:=w) (mg:=mg) (base:=base) (cl:=cl) F17 m_len
 have C17:Cal l.prog w K mg base cl "_law_take" 1 ["_law_row_here","_law_many"] aav:=⟨_,_,G17,b17,k17,n17⟩
 have G25:=aft (P:=l.prog) (w:=w) (mg:=mg) (base:=base) (cl:=cl) F25 C17 m_len
 have C25:Cal l.prog w K mg base cl "_law_sign_at" 2 ["_law_row_here"] abJ:=⟨_,_,G25,b25,k25,n25⟩
 have G26:=agl (P:=l.prog) (w:=w) (mg:=mg) (base:=base) (cl:=cl) F26 C17 C25 m_len
 have C26:Cal l.prog w K mg base cl "_law_spoilt" 3 ["_law_row_here","_law_line"] aa8:=⟨_,_,G26,b26,k26,n26⟩
 have G27:=aiu (P:=l.prog) (w:=w) (mg:=mg) (base:=base) (cl:=cl) F27 m_range
 have C27:Cal l.prog w K mg base cl "_law_tens" 1 ["_law_many"] acU:=⟨_,_,G27,b27,k27,n27⟩
 have G28:=afr (P:=l.prog) (w:=w) (mg:=mg) (base:=base) (cl:=cl) F28 C17 C27 m_str
 have C28:Cal l.prog w K mg base cl "_law_word_of" 2 ["_law_row_here"] aaQ:=⟨_,_,G28,b28,k28,n28⟩
 have G29:=adC (P:=l.prog) (w:=w) (mg:=mg) (base:=base) (cl:=cl) F29 C28 C17 m_str
 have C29:Cal l.prog w K mg base cl "_law_number_word" 3 ["_law_row_here"] aaD:=⟨_,_,G29,b29,k29,n29⟩
 have G23:=aff (P:=l.prog) (w:=w) (mg:=mg) (base:=base) (cl:=cl) F23 m_all m_len
 have C23:Cal l.prog w K mg base cl "_law_figures" 1 ["_law_word"] aaP:=⟨_,_,G23,b23,k23,n23⟩
 have G18:=ajR (P:=l.prog) (w:=w) (mg:=mg) (base:=base) (cl:=cl) F18 m_abs
 have C18:Cal l.prog w K mg base cl "_law_gcd" 1 ["_law_one","_law_other"] adw:=⟨_,_,G18,b18,k18,n18⟩
 have G19:=agn (P:=l.prog) (w:=w) (mg:=mg) (base:=base) (cl:=cl) F19 C18 m_tuple
 have C19:Cal l.prog w K mg base cl "_law_lowest" 2 ["_law_numbers"] abK:=⟨_,_,G19,b19,k19,n19⟩
 have G22:=aim (P:=l.prog) (w:=w) (mg:=mg) (base:=base) (cl:=cl) F22 C19
 have C22:Cal l.prog w K mg base cl "_law_frac" 3 ["_law_top","_law_bottom"] acd:=⟨_,_,G22,b22,k22,n22⟩
 have G24:=ad9 (P:=l.prog) (w:=w) (mg:=mg) (base:=base) (cl:=cl) F24 C23 C22 m_int
 have C24:Cal l.prog w K mg base cl "_law_number_of" 4 ["_law_word"] aaw:=⟨_,_,G24,b24,k24,n24⟩
 have G20:=ags (P:=l.prog) (w:=w) (mg:=mg) (base:=base) (cl:=cl) F20 m_bool m_int m_isinstance
 have C20:Cal l.prog w K mg base cl "_law_whole" 1 ["_law_number"] ab5:=⟨_,_,G20,b20,k20,n20⟩
 have G21:=aga (P:=l.prog) (w:=w) (mg:=mg) (base:=base) (cl:=cl) F21 C20 m_all m_isinstance m_len m_tuple
 have C21:Cal l.prog w K mg base cl "_law_wholes" 2 ["_law_told","_law_many"] abP:=⟨_,_,G21,b21,k21,n21⟩
 have G31:=agN (P:=l.prog) (w:=w) (mg:=mg) (base:=base) (cl:=cl) F31 C21
 have C31:Cal l.prog w K mg base cl "_law_meets" 3 ["_law_found","_law_due"] aaR:=⟨_,_,G31,b31,k31,n31⟩
 have GX12:=ade (P:=l.prog) (w:=w) (mg:=mg) (base:=base) (cl:=cl) F12 q_NoText x_NoText
 have G12:=x0 GX12
 have GX13:=aeh (P:=l.prog) (w:=w) (mg:=mg) (base:=base) (cl:=cl) F13 GX12 G12 b12 k12 n12 m_all m_int m_len gt_FIGURES gt_MOST_FIGURES
 have G13:=x0 GX13
 have G6:=ai4 (P:=l.prog) (w:=w) (mg:=mg) (base:=base) (cl:=cl) F6
 have C6:Cal l.prog w K mg base cl "sign" 1 ["number"] ad4:=⟨_,_,G6,b6,k6,n6⟩
 have G7:=agf (P:=l.prog) (w:=w) (mg:=mg) (base:=base) (cl:=cl) F7 m_abs
 have C7:Cal l.prog w K mg base cl "divisor" 1 ["one","other"] ab1:=⟨_,_,G7,b7,k7,n7⟩
 have GX8:=afA (P:=l.prog) (w:=w) (mg:=mg) (base:=base) (cl:=cl) F8 C6 C7 q_NoNumber x_NoNumber
 have G8:=x0 GX8
 have GX14:=adO (P:=l.prog) (w:=w) (mg:=mg) (base:=base) (cl:=cl) F14 GX12 G12 b12 k12 n12 GX13 G13 b13 k13 n13 GX8 G8 b8 k8 n8 m_len
 have G14:=x0 GX14
 have G30:=agz (P:=l.prog) (w:=w) (mg:=mg) (base:=base) (cl:=cl) F30 GX14 G14 b14 k14 n14 m_ValueError m_isinstance q_HallError x_HallError q_NoText x_NoText q_TooGreat x_TooGreat Z_NoText wNoText_HallError wNoText_TooGreat wNoText_ValueError
 have C30:Cal l.prog w K mg base cl "_law_asked" 4 ["_law_line"] aaO:=⟨_,_,G30,b30,k30,n30⟩
 exact (akH (P:=l.prog) (w:=w) (mg:=mg) (base:=base) (cl:=cl) F32 C16 C26 C29 C17 C24 C31 C30).imp fun vs H Q E h=>aiR aib h
theorem walk {l:PySem.W.OpenLaw} {q:Program} {loose:List Str} {XP:(Str→Option Value)→Heap→Prop} {YP:World→Heap→Prop} {d:DefRec} {K:Params→PySem.W.Frag} (hn:l.most=some 63) (hdf:d.params.defaults=[])
  (hY:∀ (w:World) (h:Heap),YP w h→(K w.params).In h)
  (F:∀ (w:World) (mg:Str→Option Value) (fa:Addr) (h:Heap),(K w.params).In h→h.Ns mainGlobals mg→mg d.name=some (.ref fa) →
   ∃ fd:FuncData,(∀ (s:Shared) (u:Value),BindsTo s fd ⟨[u],[]⟩ [("_law_script",u)])∧∀ base:Heap,(K w.params).In base→base.Ns mainGlobals mg→FnOk l.prog w (K w.params) mg base CX0 5 fa fd ["_law_script"] (ah6 (K w.params))) :
  PySem.W.WalkO q loose XP YP l.row.toRowW d [] (fun f vs=>PySem.call f vs) :=
 L2.walk_of (n:=63) (k:=5) (x:="_law_script") (CX:=fun _=>CX0) (sp:=fun w=>ah6 (K w.params)) hn (by decide) hdf ⟨rfl,by decide,by decide⟩ hY F (fun _ _ a ns hl _ hS=>⟨a,ns,rfl,hS,hl,fun _=>rfl⟩) fun _ _ _ _ _ z=>z
end Sc
open PySem PySem.W PyProof.Rows
set_option maxRecDepth 100000 in
set_option maxHeartbeats 0 in
theorem PySem.Challenge.cw_scissorhall_k81_numbers_read_holds : PySem.Challenge.rw_scissorhall_k81_numbers_read.Holds := by
 w_on; o_law
 refine holds_open (q:=Sc.VW) (loose:=[PySem.Str.ofString "fraction"]) (Xt:=fun s=>xlAt Sc.VW [] s && recOk (RowW.records (OpenRow.toRowW (OpenLaw.row PySem.Challenge.rw_scissorhall_k81_numbers_read))) s) (XP:=XL Sc.VW []) (Yf:=Hook.obs (kHook Sc.KK Sc.KA Sc.KE)) (Ya:=Hook.val (kHook Sc.KK Sc.KA Sc.KE)) (YP:=Hook.says (kHook Sc.KK Sc.KA Sc.KE)) (N:=3276) Sc.left (Hook.of (kHook Sc.KK Sc.KA Sc.KE)) (Hook.keeps (kHook Sc.KK Sc.KA Sc.KE)) (fun s e=>xl_of s (Bool.and_eq_true_iff.mp e).1) XL.keeps (by rfl) (by rfl) (by rfl) (fun s e=>recFacts_of (Bool.and_eq_true_iff.mp e).2) (by rfl) (by first | assumption | decide +kernel) (by decide +kernel) ⟨rfl,rfl,rfl,rfl,rfl,by decide +kernel⟩ ?hw ?hc
 case hw=>w_witness2
 k_fill
 refine Sc.walk (l:=PySem.Challenge.rw_scissorhall_k81_numbers_read) rfl rfl (fun w h Y=>PySem.W.kIn_of Y) ?F
 case F =>
  intro w mg fa h KX G hmg
  refine' Sc.all_mk KX G hmg ?a16 ?l16 ?c16 ?k16 ?a17 ?l17 ?c17 ?k17 ?a25 ?l25 ?c25 ?k25 ?a26 ?l26 ?c26 ?k26 ?a27 ?l27 ?c27 ?k27 ?a28 ?l28 ?c28 ?k28 ?a29 ?l29 ?c29 ?k29 ?a23 ?l23 ?c23 ?k23 ?a18 ?l18 ?c18 ?k18 ?a19 ?l19 ?c19 ?k19 ?a22 ?l22 ?c22 ?k22 ?a24 ?l24 ?c24 ?k24 ?a20 ?l20 ?c20 ?k20 ?a21 ?l21 ?c21 ?k21 ?a31 ?l31 ?c31 ?k31 ?a12 ?l12 ?c12 ?k12 ?a13 ?l13 ?c13 ?k13 ?a6 ?l6 ?c6 ?k6 ?a7 ?l7 ?c7 ?k7 ?a8 ?l8 ?c8 ?k8 ?t8 ?a14 ?l14 ?c14 ?k14 ?a30 ?l30 ?c30 ?k30 ?a32 ?l32 ?c32 ?k32 ?z1 ?z2 ?z3 ?z4 ?z5 ?z6 ?z7 ?z8 ?z9 ?z10 ?z11 ?y1 ?x1 ?y2 ?x2 ?y3 ?x3 ?y4 ?x4 ?u1C3 ?u2C3 ?u3C3 ?u4C3 ?u5C3 ?u6C3 ?u7C3 ?u8C3 ?wNoText_HallError ?wNoText_TooGreat ?wNoText_ValueError ?v1 ?v2
  (case a16=>k_is)
  (case l16=>k_is)
  (case c16=>k_is)
  (case k16=>k_is)
  (case a17=>k_is)
  (case l17=>k_is)
  (case c17=>k_is)
  (case k17=>k_is)
  (case a25=>k_is)
  (case l25=>k_is)
  (case c25=>k_is)
  (case k25=>k_is)
  (case a26=>k_is)
  (case l26=>k_is)
  (case c26=>k_is)
  (case k26=>k_is)
  (case a27=>k_is)
  (case l27=>k_is)
  (case c27=>k_is)
  (case k27=>k_is)
  (case a28=>k_is)
  (case l28=>k_is)
  (case c28=>k_is)
  (case k28=>k_is)
  (case a29=>k_is)
  (case l29=>k_is)
  (case c29=>k_is)
  (case k29=>k_is)
  (case a23=>k_is)
  (case l23=>k_is)
  (case c23=>k_is)
  (case k23=>k_is)
  (case a18=>k_is)
  (case l18=>k_is)
  (case c18=>k_is)
  (case k18=>k_is)
  (case a19=>k_is)
  (case l19=>k_is)
  (case c19=>k_is)
  (case k19=>k_is)
  (case a22=>k_is)
  (case l22=>k_is)
  (case c22=>k_is)
  (case k22=>k_is)
  (case a24=>k_is)
  (case l24=>k_is)
  (case c24=>k_is)
  (case k24=>k_is)
  (case a20=>k_is)
  (case l20=>k_is)
  (case c20=>k_is)
  (case k20=>k_is)
  (case a21=>k_is)
  (case l21=>k_is)
  (case c21=>k_is)
  (case k21=>k_is)
  (case a31=>k_is)
  (case l31=>k_is)
  (case c31=>k_is)
  (case k31=>k_is)
  (case a12=>k_is)
  (case l12=>k_is)
  (case c12=>k_is)
  (case k12=>k_is)
  (case a13=>k_is)
  (case l13=>k_is)
  (case c13=>k_is)
  (case k13=>k_is)
  (case a6=>k_is)
  (case l6=>k_is)
  (case c6=>k_is)
  (case k6=>k_is)
  (case a7=>k_is)
  (case l7=>k_is)
  (case c7=>k_is)
  (case k7=>k_is)
  (case a8=>k_is)
  (case l8=>k_is)
  (case c8=>k_is)
  (case k8=>k_is)
  (case t8=>k_is)
  (case a14=>k_is)
  (case l14=>k_is)
  (case c14=>k_is)
  (case k14=>k_is)
  (case a30=>k_is)
  (case l30=>k_is)
  (case c30=>k_is)
  (case k30=>k_is)
  (case a32=>k_is)
  (case l32=>k_is)
  (case c32=>k_is)
  (case k32=>k_is)
  (case z1=>k_is)
  (case z2=>k_is)
  (case z3=>k_is)
  (case z4=>k_is)
  (case z5=>k_is)
  (case z6=>k_is)
  (case z7=>k_is)
  (case z8=>k_is)
  (case z9=>k_is)
  (case z10=>k_is)
  (case z11=>k_is)
  (case y1=>k_is)
  (case x1=>k_exc)
  (case y2=>k_is)
  (case x2=>k_exc)
  (case y3=>k_is)
  (case x3=>k_exc)
  (case y4=>k_is)
  (case x4=>k_exc)
  (case u1C3=>k_is)
  (case u2C3=>k_is)
  (case u3C3=>k_is)
  (case u4C3=>k_is)
  (case u5C3=>k_is)
  (case u6C3=>k_is)
  (case u7C3=>k_is)
  (case u8C3=>k_is)
  (case wNoText_HallError=>kit_is)
  (case wNoText_TooGreat=>kit_is)
  (case wNoText_ValueError=>kit_is)
  (case v1=>k_is)
  (case v2=>k_is)
#print axioms PySem.Challenge.cw_scissorhall_k81_numbers_read_holds
