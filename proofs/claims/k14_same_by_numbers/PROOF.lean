import PyProof.Rows.All
import KE.KFromBytes
import KE.KIsAll
import PyProof.EqAt
import PyProof.EqKinds
import PyProof.TupleCall
import PyProof.ZipIter
import PyProof.Draws
import PyProof.CompFree
import PyProof.NeKinds
import PyProof.NsDelKeeps
import PyProof.ExcArgsOwn
import PyProof.ExcAttrAll.ValueError
import KE.KSortTup
import PyProof.DictRoadsH
import Wide.Seal
import KE.KIntText
import PyProof.FitsReplace
import PyProof.StrWalks
import PyProof.CompMap
import KE.KDictList
import PySem.Challenge.RW_scissorhall_k14_same_by_numbers
set_option Elab.async false
set_option maxRecDepth 100000
set_option maxHeartbeats 0
namespace L2
open PySem
def jF (s:Stmt):Arguments:=match s with
 | .FunctionDef _ a _ _ _ _ _ _ _ _=>a
 | _=>{ posonlyargs:=[],args:=[],vararg:=none,kwonlyargs:=[],kw_defaults:=[],kwarg:=none,defaults:=[] }
def gB (s:Stmt):List Stmt:=match s with
 | .FunctionDef _ _ b _ _ _ _ _ _ _=>b
 | _=>[]
def eB (s:Stmt):Scope:=match s with
 | .FunctionDef _ _ _ _ _ _ sc _ _ _=>sc
 | _=>{ kind:=.function,names:=[],isGenerator:=false,isCoroutine:=false }
end L2
namespace Sc
noncomputable section
open PySem L2
def bD (i:Nat):Stmt:=PySem.Challenge.pw_scissorhall_k14_same_by_numbers.main.body.getD i (.Pass ⟨0,0,0,0⟩)
abbrev vs (s:String) (t:Nat):Value:=.str (Str.ofString s) t
abbrev vi (i:Int):Value:=.int i 0
abbrev vr (a:Nat):Value:=.ref a
abbrev fo (n:String) (i:Nat) (dV dc pm cd ct:Value):Obj:=⟨.type "function",none,.func (PySem.W.fnOf (Str.ofString n) (Str.ofString n) (jF (bD i)) (gB (bD i)) (eB (bD i)) dV .none dc pm none cd ct),#[]⟩
abbrev fc (l:List Value):Obj:=⟨.type "code",none,.fields l.toArray,#[]⟩
abbrev Mo (n:String) (t l a r g:Nat) (x:List Value):Obj:=fc (vs n t :: vs n (t+1) :: vs "/claim/cut.py" (t+2) :: vi l :: vi a :: vi 0 :: vi 0 :: vi 3 :: vr r :: .bool true :: vi g :: vr (r+1) :: .none :: x)
abbrev fM (n:String) (t l a r g u:Nat):Obj:=Mo n t l a r g [vr (r+2),vr (r+3),vr (r+4),vi u,vi l,vs "/claim/cut.py" (u+1)]
abbrev fN (n:String) (t l a r g:Nat):Obj:=Mo n t l a r g [.none,.none,vr (r+2),vi (t+3),vi l,vs "/claim/cut.py" (t+4)]
abbrev fd (P:Params) (n:Nat) (l:List (String × Nat × Value)):Obj:=⟨.type "dict",none,.dict (l.map fun e=>⟨PyData.keyHash P (Str.ofString e.1),.str (Str.ofString e.1) e.2.1,e.2.2⟩).toArray n,#[]⟩
noncomputable def KK (P:Params):PySem.W.Frag :=
 (nat_lit 3,fd P 53 [("__name__",165,vs "law_scissorhall_k14_same_by_numbers" 305),("__doc__",166,.none),("__package__",167,.none),("__loader__",168,(.builtin "__main__.__loader__#opaque")),("__spec__",169,.none),("__annotations__",170,vr 6),("__builtins__",171,vr 4),("__file__",173,vs "/claim/cut.py" 172),("__cached__",174,.none),("sign",195,vr 21),("divisor",204,vr 28),("reduced",210,vr 33),("lowest_way",216,vr 38),("whole_arrow",224,vr 43),("normal",233,vr 50),("FLAT_WALLS",242,vr 54),("SPACE_WALLS",255,vr 59),("walls",261,vr 64),("plane_way",269,vr 69),("sides",275,vr 74),("put_wall",291,vr 81),("same",304,vr 88),("_law_row",319,vr 95),("_law_take",328,vr 102),("_law_gcd",336,vr 109),("_law_lowest",342,vr 114),("_law_upward",348,vr 119),("_law_joined",354,vr 124),("_law_gap",360,vr 129),("_law_cross",371,vr 136),("_law_dot",377,vr 141),("_law_turn",384,vr 148),("_law_det",390,vr 153),("_law_simplex",398,vr 160),("_law_flat_line",406,vr 167),("_law_space_line",414,vr 174),("_law_plane",420,vr 179),("_law_shuts",431,vr 186),("_law_put",440,vr 193),("_law_mark",457,vr 200),("_law_same",463,vr 205),("_law_gone",469,vr 210),("_law_raw",475,vr 215),("_law_raw_turn",481,vr 220),("_law_kuhn",493,vr 227),("_law_raw_heap",505,vr 234),("_law_spot",511,vr 239),("_law_handed",519,vr 246),("_law_split",525,vr 251),("_law_parted",536,vr 258),("_law_plain",542,vr 263),("_law_second",548,vr 268),("law",561,vr 275)]) ::
 (nat_lit 20,fM "sign" 189 2 1 15 181 193) ::
 (nat_lit 21,fo "sign" 1 .none .none (vs "scissorhall.lowest" 187) (vr 20) .none) ::
 (nat_lit 27,fM "divisor" 196 8 2 22 181 202) ::
 (nat_lit 28,fo "divisor" 2 .none .none (vs "scissorhall.lowest" 187) (vr 27) .none) ::
 (nat_lit 32,fN "reduced" 205 14 1 29 181) ::
 (nat_lit 33,fo "reduced" 3 .none .none (vs "scissorhall.lowest" 187) (vr 32) .none) ::
 (nat_lit 37,fN "lowest_way" 211 19 1 34 181) ::
 (nat_lit 38,fo "lowest_way" 4 .none .none (vs "scissorhall.lowest" 187) (vr 37) .none) ::
 (nat_lit 42,fN "whole_arrow" 219 23 2 39 181) ::
 (nat_lit 43,fo "whole_arrow" 6 .none .none (vs "scissorhall.points" 217) (vr 42) .none) ::
 (nat_lit 49,fM "normal" 225 25 1 44 181 231) ::
 (nat_lit 50,fo "normal" 7 .none .none (vs "scissorhall.points" 217) (vr 49) .none) ::
 (nat_lit 51,⟨.type "tuple",none,.seq #[(.int 0 236),(.int 1 237)] 0,#[]⟩) ::
 (nat_lit 52,⟨.type "tuple",none,.seq #[(.int 1 238),(.int 2 239)] 0,#[]⟩) ::
 (nat_lit 53,⟨.type "tuple",none,.seq #[(.int 2 240),(.int 0 241)] 0,#[]⟩) ::
 (nat_lit 54,⟨.type "tuple",none,.seq #[vr 51,vr 52,vr 53] 0,#[]⟩) ::
 (nat_lit 55,⟨.type "tuple",none,.seq #[(.int 1 243),(.int 2 244),(.int 3 245)] 0,#[]⟩) ::
 (nat_lit 56,⟨.type "tuple",none,.seq #[(.int 0 246),(.int 3 247),(.int 2 248)] 0,#[]⟩) ::
 (nat_lit 57,⟨.type "tuple",none,.seq #[(.int 0 249),(.int 1 250),(.int 3 251)] 0,#[]⟩) ::
 (nat_lit 58,⟨.type "tuple",none,.seq #[(.int 0 252),(.int 2 253),(.int 1 254)] 0,#[]⟩) ::
 (nat_lit 59,⟨.type "tuple",none,.seq #[vr 55,vr 56,vr 57,vr 58] 0,#[]⟩) ::
 (nat_lit 63,fN "walls" 256 34 1 60 181) ::
 (nat_lit 64,fo "walls" 11 .none .none (vs "scissorhall.simplexes" 234) (vr 63) .none) ::
 (nat_lit 68,fN "plane_way" 264 38 1 65 181) ::
 (nat_lit 69,fo "plane_way" 13 .none .none (vs "scissorhall.heaps" 262) (vr 68) .none) ::
 (nat_lit 73,fN "sides" 270 40 1 70 181) ::
 (nat_lit 74,fo "sides" 14 .none .none (vs "scissorhall.heaps" 262) (vr 73) .none) ::
 (nat_lit 80,fM "put_wall" 276 44 3 75 181 289) ::
 (nat_lit 81,fo "put_wall" 15 .none .none (vs "scissorhall.heaps" 262) (vr 80) .none) ::
 (nat_lit 87,fM "same" 292 51 2 82 181 302) ::
 (nat_lit 88,fo "same" 16 .none .none (vs "scissorhall.heaps" 262) (vr 87) .none) ::
 (nat_lit 94,fM "_law_row" 307 59 1 89 181 317) ::
 (nat_lit 95,fo "_law_row" 18 .none .none (vs "law_scissorhall_k14_same_by_numbers" 305) (vr 94) .none) ::
 (nat_lit 101,fM "_law_take" 320 73 2 96 181 326) ::
 (nat_lit 102,fo "_law_take" 19 .none .none (vs "law_scissorhall_k14_same_by_numbers" 305) (vr 101) .none) ::
 (nat_lit 108,fM "_law_gcd" 329 81 2 103 181 334) ::
 (nat_lit 109,fo "_law_gcd" 20 .none .none (vs "law_scissorhall_k14_same_by_numbers" 305) (vr 108) .none) ::
 (nat_lit 113,fN "_law_lowest" 337 87 1 110 181) ::
 (nat_lit 114,fo "_law_lowest" 21 .none .none (vs "law_scissorhall_k14_same_by_numbers" 305) (vr 113) .none) ::
 (nat_lit 118,fN "_law_upward" 343 94 1 115 181) ::
 (nat_lit 119,fo "_law_upward" 22 .none .none (vs "law_scissorhall_k14_same_by_numbers" 305) (vr 118) .none) ::
 (nat_lit 123,fN "_law_joined" 349 102 3 120 181) ::
 (nat_lit 124,fo "_law_joined" 23 .none .none (vs "law_scissorhall_k14_same_by_numbers" 305) (vr 123) .none) ::
 (nat_lit 128,fN "_law_gap" 355 105 2 125 181) ::
 (nat_lit 129,fo "_law_gap" 24 .none .none (vs "law_scissorhall_k14_same_by_numbers" 305) (vr 128) .none) ::
 (nat_lit 135,fM "_law_cross" 361 107 2 130 181 369) ::
 (nat_lit 136,fo "_law_cross" 25 .none .none (vs "law_scissorhall_k14_same_by_numbers" 305) (vr 135) .none) ::
 (nat_lit 140,fN "_law_dot" 372 112 2 137 181) ::
 (nat_lit 141,fo "_law_dot" 26 .none .none (vs "law_scissorhall_k14_same_by_numbers" 305) (vr 140) .none) ::
 (nat_lit 147,fM "_law_turn" 378 114 1 142 181 382) ::
 (nat_lit 148,fo "_law_turn" 27 .none .none (vs "law_scissorhall_k14_same_by_numbers" 305) (vr 147) .none) ::
 (nat_lit 152,fN "_law_det" 385 118 1 149 181) ::
 (nat_lit 153,fo "_law_det" 28 .none .none (vs "law_scissorhall_k14_same_by_numbers" 305) (vr 152) .none) ::
 (nat_lit 159,fM "_law_simplex" 391 120 1 154 181 396) ::
 (nat_lit 160,fo "_law_simplex" 29 .none .none (vs "law_scissorhall_k14_same_by_numbers" 305) (vr 159) .none) ::
 (nat_lit 166,fM "_law_flat_line" 399 125 2 161 181 404) ::
 (nat_lit 167,fo "_law_flat_line" 30 .none .none (vs "law_scissorhall_k14_same_by_numbers" 305) (vr 166) .none) ::
 (nat_lit 173,fM "_law_space_line" 407 127 2 168 181 412) ::
 (nat_lit 174,fo "_law_space_line" 31 .none .none (vs "law_scissorhall_k14_same_by_numbers" 305) (vr 173) .none) ::
 (nat_lit 178,fN "_law_plane" 415 129 3 175 181) ::
 (nat_lit 179,fo "_law_plane" 32 .none .none (vs "law_scissorhall_k14_same_by_numbers" 305) (vr 178) .none) ::
 (nat_lit 185,fM "_law_shuts" 421 132 1 180 181 429) ::
 (nat_lit 186,fo "_law_shuts" 33 .none .none (vs "law_scissorhall_k14_same_by_numbers" 305) (vr 185) .none) ::
 (nat_lit 192,fM "_law_put" 432 135 3 187 181 438) ::
 (nat_lit 193,fo "_law_put" 34 .none .none (vs "law_scissorhall_k14_same_by_numbers" 305) (vr 192) .none) ::
 (nat_lit 199,fM "_law_mark" 441 137 3 194 181 455) ::
 (nat_lit 200,fo "_law_mark" 35 .none .none (vs "law_scissorhall_k14_same_by_numbers" 305) (vr 199) .none) ::
 (nat_lit 204,fN "_law_same" 458 160 2 201 181) ::
 (nat_lit 205,fo "_law_same" 36 .none .none (vs "law_scissorhall_k14_same_by_numbers" 305) (vr 204) .none) ::
 (nat_lit 209,fN "_law_gone" 464 167 3 206 181) ::
 (nat_lit 210,fo "_law_gone" 37 .none .none (vs "law_scissorhall_k14_same_by_numbers" 305) (vr 209) .none) ::
 (nat_lit 214,fN "_law_raw" 470 169 3 211 181) ::
 (nat_lit 215,fo "_law_raw" 38 .none .none (vs "law_scissorhall_k14_same_by_numbers" 305) (vr 214) .none) ::
 (nat_lit 219,fN "_law_raw_turn" 476 176 1 216 181) ::
 (nat_lit 220,fo "_law_raw_turn" 39 .none .none (vs "law_scissorhall_k14_same_by_numbers" 305) (vr 219) .none) ::
 (nat_lit 226,fM "_law_kuhn" 482 178 1 221 181 491) ::
 (nat_lit 227,fo "_law_kuhn" 40 .none .none (vs "law_scissorhall_k14_same_by_numbers" 305) (vr 226) .none) ::
 (nat_lit 233,fM "_law_raw_heap" 494 190 3 228 181 503) ::
 (nat_lit 234,fo "_law_raw_heap" 41 .none .none (vs "law_scissorhall_k14_same_by_numbers" 305) (vr 233) .none) ::
 (nat_lit 238,fN "_law_spot" 506 203 2 235 181) ::
 (nat_lit 239,fo "_law_spot" 42 .none .none (vs "law_scissorhall_k14_same_by_numbers" 305) (vr 238) .none) ::
 (nat_lit 245,fM "_law_handed" 512 209 2 240 181 517) ::
 (nat_lit 246,fo "_law_handed" 43 .none .none (vs "law_scissorhall_k14_same_by_numbers" 305) (vr 245) .none) ::
 (nat_lit 250,fN "_law_split" 520 213 2 247 181) ::
 (nat_lit 251,fo "_law_split" 44 .none .none (vs "law_scissorhall_k14_same_by_numbers" 305) (vr 250) .none) ::
 (nat_lit 257,fM "_law_parted" 526 227 2 252 181 534) ::
 (nat_lit 258,fo "_law_parted" 45 .none .none (vs "law_scissorhall_k14_same_by_numbers" 305) (vr 257) .none) ::
 (nat_lit 262,fN "_law_plain" 537 238 2 259 181) ::
 (nat_lit 263,fo "_law_plain" 46 .none .none (vs "law_scissorhall_k14_same_by_numbers" 305) (vr 262) .none) ::
 (nat_lit 267,fN "_law_second" 543 241 3 264 181) ::
 (nat_lit 268,fo "_law_second" 47 .none .none (vs "law_scissorhall_k14_same_by_numbers" 305) (vr 267) .none) ::
 (nat_lit 274,fM "law" 549 250 1 269 181 559) ::
 (nat_lit 275,fo "law" 48 .none .none (vs "law_scissorhall_k14_same_by_numbers" 305) (vr 274) .none) :: []
def KA:List Nat:=[3,20,21,27,28,32,33,37,38,42,43,49,50,51,52,53,54,55,56,57,58,59,63,64,68,69,73,74,80,81,87,88,94,95,101,102,108,109,113,114,118,119,123,124,128,129,135,136,140,141,147,148,152,153,159,160,166,167,173,174,178,179,185,186,192,193,199,200,204,205,209,210,214,215,219,220,226,227,233,234,238,239,245,246,250,251,257,258,262,263,267,268,274,275]
def VW:Program:={ PySem.Challenge.pw_scissorhall_k14_same_by_numbers with main:={ PySem.Challenge.pw_scissorhall_k14_same_by_numbers.main with body:=[bD 1,bD 2,bD 3,bD 4,bD 6,bD 7,bD 9,bD 10,bD 11,bD 13,bD 14,bD 15,bD 16,bD 18,bD 19,bD 20,bD 21,bD 22,bD 23,bD 24,bD 25,bD 26,bD 27,bD 28,bD 29,bD 30,bD 31,bD 32,bD 33,bD 34,bD 35,bD 36,bD 37,bD 38,bD 39,bD 40,bD 41,bD 42,bD 43,bD 44,bD 45,bD 46,bD 47,bD 48] } }
theorem KE:∀ P,KA=(KK P).map (·.1):=fun _=>by kernel_rfl
theorem wsaid:PySem.W.OpenLaw.wellSaid PySem.Challenge.rw_scissorhall_k14_same_by_numbers=true:=by kernel_rfl
theorem left:PySem.W.LeftO PySem.Challenge.pw_scissorhall_k14_same_by_numbers VW [] (fun s=>PySem.W.xlAt VW [] s && PySem.W.recOk (PySem.W.RowW.records (PySem.W.OpenRow.toRowW (PySem.W.OpenLaw.row PySem.Challenge.rw_scissorhall_k14_same_by_numbers))) s) (PySem.W.Hook.obs (PySem.W.kHook KK KA KE)) (PySem.W.Hook.val (PySem.W.kHook KK KA KE)) 2774:=by
 intro w
 kernel_rfl
end
end Sc
set_option maxHeartbeats 200000
set_option Elab.async false
set_option linter.all false
set_option maxRecDepth 100000
namespace L2
open PySem PySem.Spec PyProof.Rows
abbrev gG:=Sum Int Str
def Xm:gG→Value→Bool
 | .inl k,v=>Value.isInt k v
 | .inr x,v=>Value.isStrOf x v
def aag (w:World):gG→Int
 | .inl k=>hashInt k
 | .inr x=>hashStr w x
theorem lC:∀ {k:gG} {v:Value},Xm k v=true→(∃ i t,k=Sum.inl i∧v=Value.int i t)∨(∃ x t,k=Sum.inr x∧v=Value.str x t)
 | .inl i,v,h=>by
  obtain ⟨t,e⟩:=Value.isInt_shape (k:=i) (v:=v) h;exact .inl ⟨i,t,rfl,e⟩
 | .inr x,v,h=>by
  obtain ⟨t,e⟩:=Value.isStrOf_shape (x:=x) (v:=v) h;exact .inr ⟨x,t,rfl,e⟩
theorem F3 (a b:Int):decide ((Sum.inl a:gG)=Sum.inl b)=(a == b):=by
 by_cases e:a=b
 ·subst e; simp
 ·have h:¬ (Sum.inl a:gG)=Sum.inl b:=fun q=>e (Sum.inl.inj q)
  rw [decide_eq_false h];exact (beq_eq_false_iff_ne.mpr e).symm
theorem M0 (a b:Str):decide ((Sum.inr a:gG)=Sum.inr b)=decide (a=b):=by
 by_cases e:a=b
 ·subst e; simp
 ·have h:¬ (Sum.inr a:gG)=Sum.inr b:=fun q=>e (Sum.inr.inj q)
  rw [decide_eq_false h,decide_eq_false e]
theorem N4 (a:Int) (b:Str):decide ((Sum.inl a:gG)=Sum.inr b)=false:=decide_eq_false (fun q=>nomatch q)
theorem F9 (a:Str) (b:Int):decide ((Sum.inr a:gG)=Sum.inl b)=false:=decide_eq_false (fun q=>nomatch q)
def Ej (prog:Program) (w:World):PySem.KeyKind prog w gG where
 is:=Xm
 hash:=aag w
 inj:=fun v a b ha hb=>by
  rcases lC ha with ⟨i,t,rfl,rfl⟩ | ⟨x,t,rfl,rfl⟩
  ·rcases lC hb with ⟨j,u,rfl,e⟩ | ⟨y,u,rfl,e⟩
   ·injection e with e1 _; rw [e1]
   ·exact nomatch e
  ·rcases lC hb with ⟨j,u,rfl,e⟩ | ⟨y,u,rfl,e⟩
   ·exact nomatch e
   ·injection e with e1 _; rw [e1]
 byValue:=fun k v h=>by
  rcases lC h with ⟨i,t,rfl,rfl⟩ | ⟨x,t,rfl,rfl⟩ <;> rfl
 pyHash:=fun hv h=>by
  rcases lC hv with ⟨i,t,rfl,rfl⟩ | ⟨x,t,rfl,rfl⟩
  ·exact wpAny_pyHash_int h
  ·exact wpAny_pyHash_str h
 eqBool:=fun hu hv h=>by
  rcases lC hu with ⟨i,t,rfl,rfl⟩ | ⟨x,t,rfl,rfl⟩
  ·rcases lC hv with ⟨j,u,rfl,rfl⟩ | ⟨y,u,rfl,rfl⟩
   ·rw [F3] at h; exact wpAny_eqBool_int h
   ·rw [N4] at h; exact SeqAt.EqAt.int_str i t y u _ _ _ _ h
  ·rcases lC hv with ⟨j,u,rfl,rfl⟩ | ⟨y,u,rfl,rfl⟩
   ·rw [F9] at h; exact SeqAt.EqAt.str_int x t j u _ _ _ _ h
   ·rw [M0] at h; exact wpAny_eqBool_str h
 «strs»:=fun k x t v h=>by
  rcases lC h with ⟨i,u,rfl,e⟩ | ⟨y,u,rfl,e⟩
  ·exact nomatch e
  ·injection e with e1 _
   subst e1;cases v <;> rfl
end L2
namespace L2
open PySem PySem.Spec PyProof.Rows
inductive V where
 | non | bl (b:Bool) | int (i:Int) | str (x:Str) | byt (b:Array UInt8) | flt (b:UInt64) | ref (a:Addr) | ty (n:String)
 deriving DecidableEq
def bQ:V→Value→Prop
 | .non,u=>u=Value.none
 | .bl b,u=>u=Value.bool b
 | .int i,u=>∃ t,u=Value.int i t
 | .str x,u=>∃ t,u=Value.str x t
 | .byt b,u=>∃ t,u=Value.bytes b t
 | .flt b,u=>∃ t,u=Value.float b t
 | .ref a,u=>u=Value.ref a
 | .ty n,u=>u=Value.type n
abbrev bC:List V→List Value→Prop:=Paired bQ
theorem bC.length {xs:List V} {us:List Value} (r:bC xs us):xs.length=us.length:=Paired.length r
theorem bC.get:∀ {xs:List V} {us:List Value} {i:Nat} {x:V},bC xs us→xs[i]?=some x→∃ u,us[i]?=some u∧bQ x u
 | _,_,_,_,.nil,e=>by simp at e
 | _,_,0,_,.cons r _,e=>by simp at e; subst e; exact ⟨_,rfl,r⟩
 | _,_,i+1,x,.cons _ t,e=>by
  obtain ⟨u,h1,h2⟩:=bC.get (i:=i) (x:=x) t (by simpa using e);exact ⟨u,by simpa using h1,h2⟩
theorem bC.set {x:V} {u:Value} (r:bQ x u):∀ {xs:List V} {us:List Value} (i:Nat),bC xs us→bC (xs.set i x) (us.set i u)
 | _,_,_,.nil=>.nil
 | _,_,0,.cons _ t=>.cons r t
 | _,_,i+1,.cons q t=>.cons q (bC.set r i t)
theorem bC.append:∀ {xs ys:List V} {us ws:List Value},bC xs us→bC ys ws→bC (xs++ys) (us++ws)
 | _,_,_,_,.nil,s=>s
 | _,_,_,_,.cons r t,s=>.cons r (bC.append t s)
theorem bC.take:∀ {xs:List V} {us:List Value} (n:Nat),bC xs us→bC (xs.take n) (us.take n)
 | _,_,0,_=>.nil
 | _,_,_+1,.nil=>.nil
 | _,_,n+1,.cons r t=>.cons r (bC.take n t)
theorem bC.drop:∀ {xs:List V} {us:List Value} (n:Nat),bC xs us→bC (xs.drop n) (us.drop n)
 | _,_,0,r=>r
 | _,_,_+1,.nil=>.nil
 | _,_,n+1,.cons _ t=>bC.drop n t
def Ob:Option V→Option Value→Prop
 | some v,some u=>bQ v u
 | none,none=>True
 | _,_=>False
def KV {κ:Type}:List (κ × V)→List (κ × Value)→Prop:=Paired fun (p:κ × V) (q:κ × Value)=>p.1=q.1∧bQ p.2 q.2
def kV:gG→V
 | .inl i=>.int i
 | .inr x=>.str x
inductive HO where
 /-- a list -/
 | lst (xs:List V)
 /-- a tuple (never changes) -/
 | tup (xs:List V)
 /-- a dict whose keys are ints and texts; one whose keys are tuples of ints and texts (the empty one is both) -/
 | dK (kvs:List (gG × V)) | dT (kvs:List (List gG × V))
 /-- a set of ints: its members,its size -/
 | set (S:Int→Bool) (n:Nat)
 /-- an instance of the class at C,its dict at dx,its attributes -/
 | ins (C dx:Addr) (fs:List (Str × V))
 /-- the dict of the instance at x -/
 | own (x:Addr)
 /-- the dict of an exception -/
 | xd (fs:List (Str × V))
 /-- a bound method,f of x -/
 | met (f x:Addr)
 /-- a range object lo,lo+1,.. below hi -/
 | rng (lo hi:Int)
 /-- a thing that is known to the object (the script; a dict while a loop walks it): read,never written while it is so -/
 | frz (o:Obj) (u:HO)
 /-- a code object's table -/
 | tbl (ps:Array Value)
 /-- any other thing,by what is true of its one object (a def of one's own: SetO a S n:=HO.ext fun h=>..) -/
 | ext (φ:Heap→Prop)
abbrev Hp:=Addr→Option HO
def aT (H:Hp) (a:Addr) (o:HO):Hp:=fun b=>if b=a then some o else H b
theorem eN {H:Hp} {a:Addr} {o:HO}:aT H a o a=some o:=by unfold aT; rw [if_pos rfl]
theorem bP {H:Hp} {a b:Addr} {o:HO} (h:b≠a):aT H a o b=H b:=by unfold aT; rw [if_neg h]
theorem fF {H:Hp} {a b:Addr} {o:HO} (h:H a=some o) (h':H b=none):a≠b:=by
 intro e; subst e; rw [h] at h'; cases h'
section
variable (P:Program) (w:World)
def fJ (H:Hp) (h:Heap) (a:Addr):HO→Prop
 | .lst xs=>xs.length≤sizeLine∧∃ (its:List Value) (n:Nat),bC xs its∧h.get? a=some { cls:=.type "list",data:=.seq its.toArray n }
 | .tup xs=>xs.length≤sizeLine∧∃ its:List Value,bC xs its∧IsTup h a its.toArray
 | .dK kvs=>kvs.length≤sizeLine∧(a == sysModules)=false∧∃ vs,KV kvs vs∧h.DictOf (Ej P w) a vs
 | .dT kvs=>kvs.length≤sizeLine∧(a == sysModules)=false∧∃ xs:List (List gG × Addr × Value),
   Paired (fun (p:List gG × V) (q:List gG × Addr × Value)=>p.1=q.1∧H q.2.1=some (.tup (p.1.map kV))∧bQ p.2 q.2.2) kvs xs ∧
   ∃ o es ep,h.get? a=some o∧o.ExactDict∧o.data=.dict es ep∧es.toList=xs.map (entryOfKey (tupleKind (Ej P w)))∧(xs.map (·.1)).Nodup
 | .set S n=>h.SetOf (intKind P w) a S n
 | .ins C dx fs=>H dx=some (.own a)∧fs.length≤1000∧dx≠a∧h.get? a=some (PySem.W.instObj C dx) ∧
   ∃ mA,h.Ns1 dx mA∧(∀ f,Ob (fs.lookup f) (mA f))∧PySem.Within mA (fs.map (·.1))
 | .own _=>∃ o,h.get? a=some o
 | .xd fs=>∃ mA,h.Ns1 a mA∧∀ f,Ob (fs.lookup f) (mA f)
 | .rng lo hi=>∃ t u v,h.get? a=some { cls:=.type "range",data:=.fields #[.int lo t,.int hi u,.int 1 v] }
 | .frz o u=>h.get? a=some o∧fJ H h a u
 | .tbl ps=>h.get? a=some { cls:=.none,data:=.fields ps }
 | .met f x=>h.get? a=some (PySem.W.methodObj (.ref f) (.ref x))
 | .ext φ=>φ h∧(∃ o,h.get? a=some o)∧∀ h1 h2:Heap,φ h1→(∀ o,h1.get? a=some o→h2.get? a=some o)→φ h2
def eU (H:Hp) (h:Heap):Prop:=∀ a o,H a=some o→fJ P w H h a o
end
section
variable {P:Program} {w:World} {H H':Hp} {h h':Heap} {a:Addr} {o:HO}
theorem fJ.lt (x:fJ P w H h a o):a < h.objs.size:=by
 cases o with
 | lst xs=>obtain ⟨_,_,_,_,e⟩:=x; exact Heap.lt_size e
 | tup xs=>obtain ⟨_,_,_,p⟩:=x; exact p.lt
 | dK kvs=>obtain ⟨_,_,_,_,o,_,_,e,_⟩:=x; exact Heap.lt_size e
 | dT kvs=>obtain ⟨_,_,_,_,o,_,_,e,_⟩:=x; exact Heap.lt_size e
 | set S n=>obtain ⟨o,_,_,_,e,_⟩:=x; exact Heap.lt_size e
 | ins C dx fs=>obtain ⟨_,_,_,e,_⟩:=x; exact Heap.lt_size e
 | own y=>obtain ⟨_,e⟩:=x; exact Heap.lt_size e
 | xd fs=>obtain ⟨_,⟨_,_,_,e,_⟩,_⟩:=x; exact Heap.lt_size e
 | rng lo hi=>obtain ⟨_,_,_,e⟩:=x; exact Heap.lt_size e
 | frz ob u=>obtain ⟨e,_⟩:=x; exact Heap.lt_size e
 | tbl ps=>exact Heap.lt_size (show h.get? a=some _ from x)
 | met f y=>exact Heap.lt_size (show h.get? a=some _ from x)
 | ext φ=>obtain ⟨_,⟨_,e⟩,_⟩:=x; exact Heap.lt_size e
theorem Paired.mapP {α β:Type} {F G:α→β→Prop}:∀ {l₁:List α} {l₂:List β},Paired F l₁ l₂→(∀ a b,F a b→G a b)→Paired G l₁ l₂
 | _,_,.nil,_=>.nil
 | _,_,.cons r t,f=>.cons (f _ _ r) (Paired.mapP t f)
theorem fJ.stay (x:fJ P w H h a o) (k:∀ b u,(b=a∨H b=some (.own a))→h.get? b=some u→h'.get? b=some u)
  (ho:∀ b,H b=some (.own a)→H' b=some (.own a)) (ht:∀ b xs,H b=some (.tup xs)→H' b=some (.tup xs)):fJ P w H' h' a o:=by
 induction o with
 | lst xs=>obtain ⟨z,its,n,r,e⟩:=x; exact ⟨z,its,n,r,k _ _ (.inl rfl) e⟩
 | tup xs=>obtain ⟨z,its,r,ob,e,c⟩:=x; exact ⟨z,its,r,ob,k _ _ (.inl rfl) e,c⟩
 | dK kvs=>obtain ⟨z,y,vs,r,ob,es,ep,e,c⟩:=x; exact ⟨z,y,vs,r,ob,es,ep,k _ _ (.inl rfl) e,c⟩
 | dT kvs =>
  obtain ⟨z,y,xs,r,ob,es,ep,e,c⟩:=x;exact ⟨z,y,xs,Paired.mapP r fun p q z=>⟨z.1,ht _ _ z.2.1,z.2.2⟩,ob,es,ep,k _ _ (.inl rfl) e,c⟩
 | set S n=>obtain ⟨ob,es,ep,t,e,c⟩:=x; exact ⟨ob,es,ep,t,k _ _ (.inl rfl) e,c⟩
 | ins C dx fs =>
  obtain ⟨d,z,ne,e,mA,⟨od,es,ep,e2,c⟩,r⟩:=x;exact ⟨ho _ d,z,ne,k _ _ (.inl rfl) e,mA,⟨od,es,ep,k _ _ (.inr d) e2,c⟩,r⟩
 | own y=>obtain ⟨ob,e⟩:=x; exact ⟨ob,k _ _ (.inl rfl) e⟩
 | xd fs=>obtain ⟨mA,⟨od,es,ep,e,c⟩,r⟩:=x; exact ⟨mA,⟨od,es,ep,k _ _ (.inl rfl) e,c⟩,r⟩
 | rng lo hi=>obtain ⟨t,u,v,e⟩:=x; exact ⟨t,u,v,k _ _ (.inl rfl) e⟩
 | frz ob u ih=>obtain ⟨e,q⟩:=x; exact ⟨k _ _ (.inl rfl) e,ih q⟩
 | tbl ps =>
  have e:h.get? a=some { cls:=.none,data:=.fields ps }:=x;show h'.get? a=some { cls:=.none,data:=.fields ps };exact k a _ (.inl rfl) e
 | met f y =>
  have e:h.get? a=some (PySem.W.methodObj (.ref f) (.ref y)):=x;show h'.get? a=some (PySem.W.methodObj (.ref f) (.ref y));exact k a _ (.inl rfl) e
 | ext φ=>obtain ⟨p,⟨o,e⟩,st⟩:=x; exact ⟨st _ _ p fun o q=>k _ _ (.inl rfl) q,⟨o,k _ _ (.inl rfl) e⟩,st⟩
theorem eU.lt (x:eU P w H h) (e:H a=some o):a < h.objs.size:=(x a o e).lt
theorem eU.fresh (x:eU P w H h) (e:h.objs.size≤a):H a=none:=by
 cases q:H a with
 | none=>rfl
 | some u=>exact absurd (Nat.lt_of_lt_of_le (x.lt q) e) (Nat.lt_irrefl _)
theorem eU.kept (x:eU P w H h) (k:∀ b u,h.get? b=some u→h'.get? b=some u):eU P w H h':=fun a o e =>
 (x a o e).stay (fun b u _ q=>k b u q) (fun _ q=>q) fun _ _ q=>q
theorem eU.laid (x:eU P w H h) (k:∀ b u,h.get? b=some u→h'.get? b=some u) (hp:h.objs.size≤a) (new:fJ P w (aT H a o) h' a o):eU P w (aT H a o) h':=fun b u e=>by
 have hn:=x.fresh hp
 by_cases hb:b=a
 ·subst hb; rw [eN] at e; cases e; exact new
 ·rw [bP hb] at e
  exact (x b u e).stay (fun c v _ q=>k c v q) (fun c q=>by rw [bP (fF q hn)]; exact q) fun c xs q=>by rw [bP (fF q hn)]; exact q
end
def Rd (H:Hp) (a:Addr) (u:HO):Prop:=H a=some u∨∃ o,H a=some (.frz o u)
theorem Rd.ok {P:Program} {w:World} {H:Hp} {h:Heap} {a:Addr} {u:HO} (r:Rd H a u) (x:eU P w H h):fJ P w H h a u:=by
 rcases r with r | ⟨o,r⟩
 ·exact x a u r
 ·obtain ⟨_,q⟩:=x a _ r
  exact q
def wN:Option HO→Prop
 | some (.lst _)=>True
 | some (.dK _)=>True
 | some (.dT _)=>True
 | some (.set _ _)=>True
 | some (.ins _ _ _)=>True
 | some (.ext _)=>True
 | _=>False
section
variable {P:Program} {w:World} {H:Hp} {h h':Heap} {x e:Addr} {o':HO}
theorem eU.write (ok:eU P w H h) (mu:wN (H x)) (he:e=x∨H e=some (.own x)) (k:∀ b u,b≠e→h.get? b=some u→h'.get? b=some u) (heo:∃ u,h'.get? e=some u)
  (new:fJ P w (aT H x o') h' x o'):eU P w (aT H x o') h':=fun b u q=>by
 have nown:∀ c y,H c=some (.own y)→c≠x:=fun c y r z=>by subst z; rw [r] at mu; exact mu
 have ntup:∀ c xs,H c=some (.tup xs)→c≠x:=fun c xs r z=>by subst z; rw [r] at mu; exact mu
 by_cases hb:b=x
 ·subst hb; rw [eN] at q; cases q; exact new
 ·rw [bP hb] at q
  by_cases hbe:b=e
  ·have q':H b=some (.own x):=by
    rcases he with z | z
    ·exact absurd (hbe.trans z) hb
    ·rw [hbe]; exact z
   rw [q] at q'; cases q';obtain ⟨v,hv⟩:=heo;exact ⟨v,by rw [hbe]; exact hv⟩
  ·refine (ok b u q).stay (fun c v hc r=>k c v ?_ r) (fun c r=>by rw [bP (nown c b r)]; exact r) fun c xs r=>by rw [bP (ntup c xs r)]; exact r
   rcases hc with rfl | hc
   ·exact hbe
   ·rintro rfl
    rcases he with z | z
    ·exact nown c b hc z
    ·rw [hc] at z; cases z; exact hb rfl
end
structure Un (fs ex:List Addr) (H H':Hp) (h h':Heap):Prop where
 keep:∀ b o,h.get? b=some o→H b=none→b ∉ fs→b ∉ ex→h'.get? b=some o
 slot:∀ b o,h.get? b=some o→H b=none→b∈fs→b ∉ ex→∃ sl,h'.get? b=some { o with slots:=sl }
 free:∀ b o,h.get? b=some o→H b=none→b ∉ ex→H' b=none
 there:∀ b o,h.get? b=some o→b ∉ ex→∃ o',h'.get? b=some o'
 tups:∀ b xs,H b=some (.tup xs)→H' b=some (.tup xs)
 frzs:∀ b o u,H b=some (.frz o u)→H' b=some (.frz o u)
 tbls:∀ b ps,H b=some (.tbl ps)→∃ more,H' b=some (.tbl (ps++more))
section
variable {fs fs' ex ex':List Addr} {H H1 H2:Hp} {h h1 h2 h':Heap} {a x e:Addr} {o:HO}
theorem Un.any (u:Un fs ex H H1 h h1) {b:Addr} {ob:Obj} (q:h.get? b=some ob) (n:H b=none) (hx:b ∉ ex):∃ sl,h1.get? b=some { ob with slots:=sl }:=by
 by_cases hb:b∈fs
 ·exact u.slot b ob q n hb hx
 ·exact ⟨ob.slots,u.keep b ob q n hb hx⟩
theorem Un.trans (a:Un fs ex H H1 h h1) (b:Un fs ex H1 H2 h1 h2):Un fs ex H H2 h h2 where
 keep:=fun c ob q n hc hx=>b.keep c ob (a.keep c ob q n hc hx) (a.free c ob q n hx) hc hx
 slot:=fun c ob q n hc hx=>by
  obtain ⟨sl,e1⟩:=a.slot c ob q n hc hx;obtain ⟨sl',e2⟩:=b.slot c _ e1 (a.free c ob q n hx) hc hx;exact ⟨sl',e2⟩
 free:=fun c ob q n hx=>by
  obtain ⟨o',e1⟩:=a.there c ob q hx;exact b.free c o' e1 (a.free c ob q n hx) hx
 there:=fun c ob q hx=>by
  obtain ⟨o',e1⟩:=a.there c ob q hx;exact b.there c o' e1 hx
 tups:=fun c xs q=>b.tups c xs (a.tups c xs q)
 frzs:=fun c ob xs q=>b.frzs c ob xs (a.frzs c ob xs q)
 tbls:=fun c ps q=>by
  obtain ⟨m1,e1⟩:=a.tbls c ps q;obtain ⟨m2,e2⟩:=b.tbls c _ e1;exact ⟨m1++m2,by rw [e2,Array.append_assoc]⟩
theorem Un.kept (k:∀ b u,h.get? b=some u→h'.get? b=some u):Un fs ex H H h h' :=
 ⟨fun b ob q _ _ _=>k b ob q,fun b ob q _ _ _=>⟨ob.slots,k b ob q⟩,fun _ _ _ n _=>n,fun b ob q _=>⟨ob,k b ob q⟩,fun _ _ q=>q,fun _ _ _ q=>q,fun _ ps q=>⟨#[],by rw [q]; simp⟩⟩
theorem Un.refl:Un fs ex H H h h:=Un.kept fun _ _ q=>q
theorem Un.laid (k:∀ b u,h.get? b=some u→h'.get? b=some u) (hp:h.objs.size≤a) (hn:H a=none):Un fs ex H (aT H a o) h h' where
 keep:=fun b u q _ _ _=>k b u q
 slot:=fun b u q _ _ _=>⟨u.slots,k b u q⟩
 free:=fun b u q n _=>by rw [bP (Nat.ne_of_lt (Nat.lt_of_lt_of_le (Heap.lt_size q) hp))]; exact n
 there:=fun b u q _=>⟨u,k b u q⟩
 tups:=fun b xs q=>by rw [bP (fF q hn)]; exact q
 frzs:=fun b u xs q=>by rw [bP (fF q hn)]; exact q
 tbls:=fun b ps q=>⟨#[],by rw [bP (fF q hn),q]; simp⟩
theorem Un.write (mu:wN (H x)) (he:e=x∨H e=some (.own x)) (k:∀ b u,b≠e→h.get? b=some u→h'.get? b=some u) (heo:∃ u,h'.get? e=some u):Un fs ex H (aT H x o) h h':=by
 have hx:∀ b,H b=none→b≠x:=fun b n z=>by subst z; rw [n] at mu; exact mu
 have hb:∀ b,H b=none→b≠e:=fun b n z=>by
  subst z;rcases he with r | r
  ·exact hx b n r
  ·rw [n] at r; cases r
 have hm:∀ b u,H b=some u→¬ wN (some u)→b≠x:=fun b u q nm z=>by subst z; rw [q] at mu; exact nm mu
 refine ⟨fun b u q n _ _=>k b u (hb b n) q,fun b u q n _ _=>⟨u.slots,k b u (hb b n) q⟩,fun b u q n _=>by rw [bP (hx b n)]; exact n,fun b u q _=>?_,
  fun b xs q=>by rw [bP (hm b _ q fun z=>z)]; exact q,fun b u xs q=>by rw [bP (hm b _ q fun z=>z)]; exact q,fun b ps q=>⟨#[],by rw [bP (hm b _ q fun z=>z),q]; simp⟩⟩
 by_cases hbe:b=e
 ·subst hbe; exact heo
 ·exact ⟨u,k b u hbe q⟩
end
def wK (h:Heap) (H:Hp):List Addr:=(List.range h.objs.size).filter fun a=>(H a).isSome
def lZ (h:Heap) (H:Hp):Heap:=PySem.W.hideAll h (wK h H)
theorem Qr (h:Heap) (H:Hp):(lZ h H).objs.size=h.objs.size:=PySem.W.hideAll_size _ _
theorem Lu {h:Heap} {H:Hp} {b:Addr} {o:Obj} (e:h.get? b=some o) (n:H b=none):(lZ h H).get? b=some o :=
 PySem.W.hideAll_get _ e fun hm=>by
  have q:(H b).isSome=true:=(List.mem_filter.mp hm).2;rw [n] at q; simp at q
theorem Wy {h:Heap} {H:Hp} {b:Addr} {o:Obj} (e:(lZ h H).get? b=some o):h.get? b=some o∧H b=none:=by
 have e':h.get? b=some o:=PySem.W.of_hideAll (wK h H) e;refine ⟨e',?_⟩;cases q:H b with
 | none=>rfl
 | some x =>
  have hm:b∈wK h H:=List.mem_filter.mpr ⟨List.mem_range.mpr (Heap.lt_size e'),by simp [q]⟩;have z:(lZ h H).get? b=none:=PySem.W.hideAll_none (wK h H) hm;rw [z] at e; cases e
def Yy (g h:Heap) (L:Addr):List (Addr × Obj):=(List.range h.objs.size).filterMap fun a=>if a=L∨(g.get? a).isSome=true then none else (h.get? a).map fun o=>(a,o)
def fD (g h:Heap) (L d:Addr):List (Addr × Obj):=(Yy g h L).filter fun p=>decide (p.1≠d)
end L2
namespace L2
open PySem PySem.Spec PyProof.Rows
structure Mod (K:PySem.W.Frag) (mg:Str→Option Value) (base:Heap):Prop where
 kin:K.In base
 glob:base.Ns mainGlobals mg
 blt:∃ mb,base.Ns builtinsNs mb∧∀ x:Str,x≠"__name__"→mb x=bootBuiltins x
 nolimit:base.NoLimit
structure Cx where
 prog:Program
 w:World
 K:PySem.W.Frag
 mg:Str→Option Value
 base:Heap
 A:Around
 N:List Str
 s₀:Shared
 H₀:Hp
 env:Env
 outer:List Env
 stack:List Env
 ex:List Addr
 fn:Str→Bool
 calm:Bool
 pn:List (Addr × Obj)
 xe:Value→Shared→Prop
def fT (l:List Env):List Addr:=l.filterMap (·.frame)
abbrev Cx.fs (X:Cx):List Addr:=fT X.outer
def oQ (sc:Scope) (x:Str):Prop:=sc.names.lookup x=some .local∨sc.names.lookup x=some .cell∨sc.names.lookup x=some .free
def mG (sc:Scope) (x:Str):Prop:=sc.names.lookup x=some .local∨sc.names.lookup x=some .cell
def aaq (env:Env) (h:Heap) (m:Str→Option Value) (x:Str) (u:Value):Prop :=
 (env.kindOf x=some .local∧m x=some u)∨((env.kindOf x=some .cell∨env.kindOf x=some .free)∧∃ c,env.cells.lookup x=some c∧h.IsCell c (some u))
structure Cx.Ok (X:Cx):Prop where
 mod:Mod X.K X.mg X.base
 kind:X.env.scope.kind=.function
 glob:X.env.globals=mainGlobals
 blt:X.env.builtins=builtinsNs
 above:X.s₀.heap.objs.size≤X.env.locals
 inj:∀ x y c,X.env.cells.lookup x=some c→X.env.cells.lookup y=some c→x=y
 has:∀ x,(X.env.kindOf x=some .cell∨X.env.kindOf x=some .free)→∃ c,X.env.cells.lookup x=some c
 cab:∀ x c,X.fn x=true→X.env.cells.lookup x=some c→X.s₀.heap.objs.size≤c
 hd:X.calm=true→X.A.handled=none
 frames:X.A.frames=some X.stack
 stk:X.stack=X.outer∨(X.stack=X.env :: X.outer∧X.env.frame=some X.env.locals)
 exf:∀ b∈X.ex,b≠X.env.locals∧∀ x c,X.env.cells.lookup x=some c→c≠b
 bs:∀ b o,X.base.get? b=some o→X.s₀.heap.get? b=some o∧X.H₀ b=none
 bsz:X.base.objs.size≤X.s₀.heap.objs.size
 noex:∀ b o,X.base.get? b=some o→b ∉ X.ex
 exfs:∀ b∈X.ex,b ∉ X.fs
 funs:X.s₀.heap.FunFrames X.base X.outer
 frf:∀ b∈X.fs,X.H₀ b=none
structure aG (X:Cx) (pins:List (Addr × Obj)) (σ:List (Option V)) (H:Hp) (s:Shared):Prop where
 ok:X.Ok
 os:s.os=X.s₀.os
 bare:AllBare s.gens
 base:Un X.fs X.ex X.H₀ H X.s₀.heap s.heap
 loc:∃ m,s.heap.Ns X.env.locals m∧∀ (i:Nat) (x:Str) (v:V),X.N[i]?=some x→σ[i]?=some (some v)→oQ X.env.scope x→∃ u,bQ v u∧aaq X.env s.heap m x u
 cell:∀ x c,X.env.cells.lookup x=some c→∃ v,s.heap.IsCell c v
 free:H X.env.locals=none
 freeC:∀ x c,X.env.cells.lookup x=some c→H c=none
 pin:∀ p∈X.pn++pins,s.heap.get? p.1=some p.2∧H p.1=none∧p.1≠X.env.locals∧p.1 ∉ X.fs∧∀ v,p.2.data≠.cell v
 hok:eU X.prog X.w H s.heap
 len:σ.length=X.N.length
section
variable {X:Cx} {pins:List (Addr × Obj)} {σ:List (Option V)} {H H':Hp} {s:Shared} {h':Heap}
theorem Cx.Ok.nofr (ok:X.Ok) {b:Addr} {o:Obj} (e:X.base.get? b=some o):b ∉ X.fs:=fun hb=>by
 have:=(ok.funs.mem hb).1;rw [e] at this; cases this
theorem aG.bs (I:aG X pins σ H s):∀ b o,X.base.get? b=some o→s.heap.get? b=some o∧H b=none:=fun b o e =>
 ⟨I.base.keep b o (I.ok.bs b o e).1 (I.ok.bs b o e).2 (I.ok.nofr e) (I.ok.noex b o e),I.base.free b o (I.ok.bs b o e).1 (I.ok.bs b o e).2 (I.ok.noex b o e)⟩
theorem aG.bk (I:aG X pins σ H s):∀ b o,X.base.get? b=some o→s.heap.get? b=some o:=fun b o e=>(I.bs b o e).1
theorem aG.mod (I:aG X pins σ H s):Mod X.K X.mg X.base:=I.ok.mod
theorem aG.kIn (I:aG X pins σ H s):X.K.In s.heap:=I.ok.mod.kin.keeps I.bk
theorem aG.lt (I:aG X pins σ H s):X.env.locals < s.heap.objs.size:=let ⟨_,hn,_⟩:=I.loc; hn.lt
theorem aG.sz (I:aG X pins σ H s):X.s₀.heap.objs.size≤s.heap.objs.size:=Nat.le_trans I.ok.above (Nat.le_of_lt I.lt)
theorem aG.nofs (I:aG X pins σ H s) {a:Addr} (h:s.heap.objs.size≤a):a ∉ X.fs:=fun hb=>by
 obtain ⟨_,o,ho,_⟩:=I.ok.funs.mem hb;exact absurd (Nat.lt_of_lt_of_le (Heap.lt_size ho) (Nat.le_trans I.sz h)) (Nat.lt_irrefl _)
theorem aG.cne (I:aG X pins σ H s):∀ x c,X.env.cells.lookup x=some c→c≠X.env.locals:=fun x c e z=>by
 obtain ⟨v,o,ho,hd⟩:=I.cell x c e;obtain ⟨m,⟨o',es,ep,ho',hd',_⟩,_⟩:=I.loc;rw [z,ho'] at ho; cases ho; rw [hd'] at hd; cases hd
theorem aG.funs (I:aG X pins σ H s):s.heap.FunFrames X.base X.outer:=by
 have all:∀ (l:List Env),(∀ b∈fT l,b∈X.fs)→X.s₀.heap.FunFrames X.base l→s.heap.FunFrames X.base l:=by
  intro l
  induction l with
  | nil=>intro _ _; trivial
  | cons env r ih =>
   intro hs hl;obtain ⟨hk,⟨L,o,hf,hn,ho,hd⟩,hr⟩:=hl;have hL:L∈X.fs:=hs L (by unfold fT; rw [List.filterMap_cons,hf]; exact List.mem_cons_self);obtain ⟨sl,e⟩:=I.base.slot L o ho (I.ok.frf L hL) hL fun z=>I.ok.exfs L z hL;exact ⟨hk,⟨L,_,hf,hn,e,hd⟩,ih (fun b hb=>hs b (by unfold fT; rw [List.filterMap_cons,hf]; exact List.mem_cons_of_mem _ hb)) hr⟩
 exact all X.outer (fun _ hb=>hb) I.ok.funs
theorem aG.stack (I:aG X pins σ H s):s.heap.FunFrames X.base X.stack:=by
 rcases I.ok.stk with e | ⟨e,hf⟩
 ·rw [e]; exact I.funs
 ·rw [e]
  obtain ⟨m,hn,_⟩:=I.loc;refine .cons (by rw [I.ok.kind]; decide) hf hn ?_ I.funs;exact Heap.get?_none_of_le (Nat.le_trans I.ok.bsz I.ok.above)
theorem aG.stkSub (I:aG X pins σ H s):∀ b∈fT X.stack,b∈X.env.locals :: X.fs:=fun b hb=>by
 rcases I.ok.stk with e | ⟨e,hf⟩
 ·rw [e] at hb; exact List.mem_cons_of_mem _ hb
 ·rw [e] at hb
  unfold fT at hb;rw [List.filterMap_cons,hf] at hb;exact hb
theorem aG.stkFree (I:aG X pins σ H s):∀ b∈fT X.stack,H b=none:=fun b hb=>by
 rcases List.mem_cons.mp (I.stkSub b hb) with e | hb
 ·rw [e]; exact I.free
 ·obtain ⟨_,o,ho,_⟩:=I.ok.funs.mem hb
  exact I.base.free b o ho (I.ok.frf b hb) fun z=>I.ok.exfs b z hb
theorem aG.step {g':Array GenState} {t':Nat} {d':Drawn} {ch:List Addr} (I:aG X pins σ H s)
  (hch:∀ b∈ch,(b∈X.ex∨X.s₀.heap.objs.size≤b)∧b≠X.env.locals∧(∀ x c,X.env.cells.lookup x=some c→c≠b)∧∀ p∈X.pn++pins,p.1≠b)
  (keep:∀ b o,b≠X.env.locals→b ∉ X.fs→b ∉ ch→s.heap.get? b=some o→H b=none→h'.get? b=some o)
  (slot:∀ b o,b≠X.env.locals→b∈X.fs→b ∉ ch→s.heap.get? b=some o→H b=none→∃ sl,h'.get? b=some { o with slots:=sl }) (free:∀ b o,b ∉ ch→s.heap.get? b=some o→H b=none→H' b=none)
  (there:∀ b o,b ∉ ch→s.heap.get? b=some o→∃ o',h'.get? b=some o')
  (tups:∀ b xs,H b=some (.tup xs)→H' b=some (.tup xs)) (frzs:∀ b o u,H b=some (.frz o u)→H' b=some (.frz o u)) (tbls:∀ b ps,H b=some (.tbl ps)→∃ more,H' b=some (.tbl (ps++more)))
  (ns:∀ m,s.heap.Ns X.env.locals m→h'.Ns X.env.locals m) (hok:eU X.prog X.w H' h') (hg:AllBare g') :
  aG X pins σ H' { s with heap:=h',gens:=g',drawn:=d',toks:=t' }:=by
 have neL:∀ b o,X.s₀.heap.get? b=some o→b≠X.env.locals:=fun b o e=>Nat.ne_of_lt (Nat.lt_of_lt_of_le (Heap.lt_size e) I.ok.above);have neC:∀ b o,X.s₀.heap.get? b=some o→b ∉ X.ex→b ∉ ch:=fun b o e hx hb=>by
  rcases (hch b hb).1 with z | z
  ·exact hx z
  ·exact absurd (Nat.lt_of_lt_of_le (Heap.lt_size e) z) (Nat.lt_irrefl _)
 have cellK:∀ x c,X.env.cells.lookup x=some c→∀ v,s.heap.IsCell c v→h'.IsCell c v:=fun x c e v ⟨o,ho,hd⟩=>by
  have nch:c ∉ ch:=fun z=>(hch c z).2.2.1 x c e rfl
  by_cases hc:c∈X.fs
  ·obtain ⟨sl,q⟩:=slot c o (I.cne x c e) hc nch ho (I.freeC x c e)
   exact ⟨_,q,hd⟩
  ·exact ⟨o,keep c o (I.cne x c e) hc nch ho (I.freeC x c e),hd⟩
 refine ⟨I.ok,I.os,hg,⟨fun b o e n hb hx=>?_,fun b o e n hb hx=>?_,fun b o e n hx=>?_,fun b o e hx=>?_,fun b xs e=>tups b xs (I.base.tups b xs e),fun b o xs e=>frzs b o xs (I.base.frzs b o xs e),fun b ps e=>?_⟩,?_,fun x c e=>?_,?_,fun x c e=>?_,fun p hp=>?_,hok,I.len⟩
 ·exact keep b o (neL b o e) hb (neC b o e hx) (I.base.keep b o e n hb hx) (I.base.free b o e n hx)
 ·obtain ⟨sl,e1⟩:=I.base.slot b o e n hb hx
  obtain ⟨sl',e2⟩:=slot b _ (neL b o e) hb (neC b o e hx) e1 (I.base.free b o e n hx);exact ⟨sl',e2⟩
 ·obtain ⟨o',e1⟩:=I.base.there b o e hx
  exact free b o' (neC b o e hx) e1 (I.base.free b o e n hx)
 ·obtain ⟨o',e1⟩:=I.base.there b o e hx
  exact there b o' (neC b o e hx) e1
 ·obtain ⟨m1,e1⟩:=I.base.tbls b ps e
  obtain ⟨m2,e2⟩:=tbls b _ e1;exact ⟨m1++m2,by rw [e2,Array.append_assoc]⟩
 ·obtain ⟨m,hn,hl⟩:=I.loc
  refine ⟨m,ns m hn,fun i x v e1 e2 e3=>?_⟩;obtain ⟨u,r,l⟩:=hl i x v e1 e2 e3;refine ⟨u,r,?_⟩;rcases l with l | ⟨k,c,e,z⟩
  ·exact .inl l
  ·exact .inr ⟨k,c,e,cellK x c e _ z⟩
 ·obtain ⟨v,z⟩:=I.cell x c e
  exact ⟨v,cellK x c e v z⟩
 ·obtain ⟨m,⟨o,_,_,ho,_⟩,_⟩:=I.loc
  exact free _ o (fun z=>(hch _ z).2.1 rfl) ho I.free
 ·obtain ⟨v,o,ho,hd⟩:=I.cell x c e
  exact free c o (fun z=>(hch c z).2.2.1 x c e rfl) ho (I.freeC x c e)
 ·obtain ⟨e,n,ne,nf,d⟩:=I.pin p hp
  have nch:p.1 ∉ ch:=fun z=>(hch p.1 z).2.2.2 p hp rfl;exact ⟨keep p.1 p.2 ne nf nch e n,free p.1 p.2 nch e n,ne,nf,d⟩
theorem aG.un {t':Nat} (I:aG X pins σ H s) (u:Un X.fs [] H H' s.heap h') (hok:eU X.prog X.w H' h'):aG X pins σ H' { s with heap:=h',toks:=t' }:=by
 obtain ⟨m,⟨o,es,ep,ho,r⟩,_⟩:=id I.loc;obtain ⟨sl,hL⟩:=u.any ho I.free (by simp);exact I.step (g':=s.gens) (d':=s.drawn) (ch:=[]) (fun _ z=>nomatch z) (fun b o _ hb _ e n=>u.keep b o e n hb (by simp)) (fun b o _ hb _ e n=>u.slot b o e n hb (by simp)) (fun b o _ e n=>u.free b o e n (by simp)) (fun b o _ e=>u.there b o e (by simp)) u.tups u.frzs u.tbls (fun m' hm=>by
  obtain ⟨o',es',ep',ho',r'⟩:=hm;rw [ho] at ho'; cases ho';exact ⟨_,es',ep',hL,r'⟩) hok I.bare
theorem aG.call {g':Array GenState} {t':Nat} {d':Drawn} {ch:List Addr} (I:aG X pins σ H s) (u:Un (fT X.stack) ch H H' s.heap h') (hok:eU X.prog X.w H' h') (hg:AllBare g')
  (hch:∀ b∈ch,(b∈X.ex∨X.s₀.heap.objs.size≤b)∧b≠X.env.locals∧(∀ x c,X.env.cells.lookup x=some c→c≠b)∧∀ p∈X.pn++pins,p.1≠b) :
  aG X pins σ H' { s with heap:=h',gens:=g',drawn:=d',toks:=t' }:=by
 obtain ⟨m,⟨o,es,ep,ho,r⟩,_⟩:=id I.loc;obtain ⟨sl,hL⟩:=u.any ho I.free fun z=>(hch _ z).2.1 rfl;exact I.step (ch:=ch) hch (fun b o hL hb hc e n=>u.keep b o e n (fun z=>(List.mem_cons.mp (I.stkSub b z)).elim hL hb) hc) (fun b o _ _ hc e n=>u.any e n hc) (fun b o hc e n=>u.free b o e n hc) (fun b o hc e=>u.there b o e hc) u.tups u.frzs u.tbls (fun m' hm=>by
  obtain ⟨o',es',ep',ho',r'⟩:=hm;rw [ho] at ho'; cases ho';exact ⟨_,es',ep',hL,r'⟩) hok hg
theorem aG.turned {t':Nat} {it:Addr} (I:aG X pins σ H s) (k:∀ b o,b≠it→s.heap.get? b=some o→h'.get? b=some o) (hn:H it=none) (hL:it≠X.env.locals)
  (h1:it∈X.ex∨X.s₀.heap.objs.size≤it) (h2:∀ x c,X.env.cells.lookup x=some c→c≠it) (h3:∀ p∈X.pn++pins,p.1≠it):aG X pins σ H { s with heap:=h',toks:=t' }:=by
 have nit:∀ b u,H b=some u→b≠it:=fun b u e z=>by rw [z,hn] at e; cases e
 refine I.step (g':=s.gens) (d':=s.drawn) (ch:=[it]) (fun b hb=>?_) (fun b o _ _ hc e _=>k b o (fun z=>hc (by simp [z])) e) (fun b o _ _ hc e _=>⟨o.slots,k b o (fun z=>hc (by simp [z])) e⟩) (fun _ _ _ _ n=>n)
  (fun b o hc e=>⟨o,k b o (fun z=>hc (by simp [z])) e⟩) (fun _ _ e=>e) (fun _ _ _ e=>e) (fun b ps e=>⟨#[],by rw [e]; simp⟩) (fun m hm=>?_) (fun b u e=>?_) I.bare
 ·have e:b=it:=by simpa using hb
  subst e;exact ⟨h1,hL,h2,h3⟩
 ·obtain ⟨o,es,ep,ho,r⟩:=hm
  exact ⟨o,es,ep,k _ o (Ne.symm hL) ho,r⟩
 ·refine (I.hok b u e).stay (fun c v hc q=>k c v ?_ q) (fun _ q=>q) fun _ _ q=>q
  rcases hc with z | z
  ·rw [z]; exact nit b u e
  ·exact nit c _ z
theorem aG.tok (I:aG X pins σ H s) (t:Nat):aG X pins σ H { s with toks:=t }:=I.un (h':=s.heap) (t':=t) Un.refl I.hok
theorem aG.kept {t':Nat} (I:aG X pins σ H s) (k:∀ b u,s.heap.get? b=some u→h'.get? b=some u):aG X pins σ H { s with heap:=h',toks:=t' }:=I.un (Un.kept k) (I.hok.kept k)
theorem aG.laid {a:Addr} {o:HO} {t':Nat} (I:aG X pins σ H s) (k:∀ b u,s.heap.get? b=some u→h'.get? b=some u) (hp:s.heap.objs.size≤a) (new:fJ X.prog X.w (aT H a o) h' a o) :
  aG X pins σ (aT H a o) { s with heap:=h',toks:=t' }:=I.un (Un.laid k hp (I.hok.fresh hp)) (I.hok.laid k hp new)
theorem aG.write {x e:Addr} {o:HO} {t':Nat} (I:aG X pins σ H s) (mu:wN (H x)) (he:e=x∨H e=some (.own x)) (k:∀ b u,b≠e→s.heap.get? b=some u→h'.get? b=some u) (heo:∃ u,h'.get? e=some u)
  (new:fJ X.prog X.w (aT H x o) h' x o):aG X pins σ (aT H x o) { s with heap:=h',toks:=t' }:=I.un (Un.write mu he k heo) (I.hok.write mu he k heo new)
theorem aG.pins_of {pins':List (Addr × Obj)} (I:aG X pins σ H s) (h:∀ p∈pins',s.heap.get? p.1=some p.2∧H p.1=none∧p.1≠X.env.locals∧p.1 ∉ X.fs∧∀ v,p.2.data≠.cell v):aG X pins' σ H s :=
 ⟨I.ok,I.os,I.bare,I.base,I.loc,I.cell,I.free,I.freeC,fun p hp=>(List.mem_append.mp hp).elim (fun z=>I.pin p (List.mem_append_left _ z)) (h p),I.hok,I.len⟩
theorem Gi {N:List Str} (hN:N.Nodup) {i j:Nat} {x:Str} (a:N[i]?=some x) (b:N[j]?=some x):i=j:=by
 obtain ⟨h1,e1⟩:=List.getElem?_eq_some_iff.mp a;obtain ⟨h2,e2⟩:=List.getElem?_eq_some_iff.mp b;exact (List.getElem_inj hN).mp (e1.trans e2.symm)
theorem Kr {M:Model} {A:Around} {E:Value→Shared→Prop} {i:Nat} {x:Str} {v:V} {u:Value} {Q:Unit→Shared→Prop} (I:aG X pins σ H s) (hN:X.N.Nodup) (hi:X.N[i]?=some x) (hx:mG X.env.scope x) (r:bQ v u)
  (h:∀ s',aG X pins (σ.set i (some v)) H s'→(∃ a,Heap.SameBut a s.heap s'.heap∧(a=X.env.locals∨X.env.cells.lookup x=some a))→Q () s') (hf:X.fn x=true∨X.env.scope.names.lookup x=some .local:=by first | exact .inl rfl | exact .inr rfl | assumption):wpAny M A (storeName X.env x u) Q E s:=by
 obtain ⟨m,hn,hl⟩:=id I.loc;have hcls:(X.env.scope.kind == .class || (X.env.scope.kind == .module && X.env.locals != X.env.globals))=false:=by rw [I.ok.kind]; rfl
 have hiσ:i < σ.length:=by rw [I.len]; exact (List.getElem?_eq_some_iff.mp hi).1
 have cne:=I.cne;have tracked:∀ {a:Addr} {h':Heap},(∃ o,s.heap.get? a=some o∧H a=none)→Heap.SameBut a s.heap h'→eU X.prog X.w H h':=fun {a h'} ha hs b ob e=>by
  obtain ⟨_,_,hfree⟩:=ha;refine (I.hok b ob e).stay (fun c w' hc q=>(hs.2 c ?_).trans q) (fun _ q=>q) fun _ _ q=>q
  rintro rfl
  rcases hc with rfl | hc
  ·rw [hfree] at e; cases e
  ·rw [hfree] at hc; cases hc
 rcases hx with hk | hk
 ·refine wpAny_storeName_local hk hn (fun h' hn' hs=>?_) hcls
  obtain ⟨oL,_,_,hoL,_⟩:=id hn;refine h _ ⟨I.ok,I.os,I.bare,⟨fun b o e n hb hx=>?_,fun b o e n hb hx=>?_,I.base.free,fun b o e hx=>?_,I.base.tups,I.base.frzs,I.base.tbls⟩,⟨_,hn',fun j y v' e1 e2 e3=>?_⟩,fun y c e=>?_,I.free,I.freeC,fun p hp=>?_,tracked ⟨oL,hoL,I.free⟩ hs,by simpa using I.len⟩ ⟨_,hs,.inl rfl⟩
  ·exact (hs.2 b (Nat.ne_of_lt (Nat.lt_of_lt_of_le (Heap.lt_size e) I.ok.above))).trans (I.base.keep b o e n hb hx)
  ·obtain ⟨sl,e1⟩:=I.base.slot b o e n hb hx
   exact ⟨sl,(hs.2 b (Nat.ne_of_lt (Nat.lt_of_lt_of_le (Heap.lt_size e) I.ok.above))).trans e1⟩
  ·obtain ⟨o',e1⟩:=I.base.there b o e hx
   exact ⟨o',(hs.2 b (Nat.ne_of_lt (Nat.lt_of_lt_of_le (Heap.lt_size e) I.ok.above))).trans e1⟩
  ·by_cases hj:j=i
   ·subst hj
    rw [hi] at e1; cases e1;rw [List.getElem?_set_self hiσ] at e2;cases e2;exact ⟨u,r,.inl ⟨hk,by simp⟩⟩
   ·rw [List.getElem?_set_ne (Ne.symm hj)] at e2
    obtain ⟨u',r',q⟩:=hl j y v' e1 e2 e3;refine ⟨u',r',?_⟩;rcases q with ⟨k,e⟩ | ⟨k,c,e,z⟩
    ·refine .inl ⟨k,?_⟩
     have:y≠x:=fun e=>hj (Gi hN e1 (e ▸ hi));simp [this,e]
    ·exact .inr ⟨k,c,e,z.sameBut hs (cne y c e)⟩
  ·obtain ⟨w',z⟩:=I.cell y c e
   exact ⟨w',z.sameBut hs (cne y c e)⟩
  ·obtain ⟨e,n,ne,nf,d⟩:=I.pin p hp
   exact ⟨(hs.2 p.1 ne).trans e,n,ne,nf,d⟩
 ·have hfn:X.fn x=true:=by
   rcases hf with z | z
   ·exact z
   ·rw [z] at hk; cases hk
  obtain ⟨c,hc⟩:=I.ok.has x (.inl hk);obtain ⟨w',z⟩:=I.cell x c hc;refine wpAny_storeName_cell I.ok.kind hk hc z (fun h' hc' hs=>?_);obtain ⟨oc,hoc,hocd⟩:=id z;refine h { s with heap:=h' } ⟨I.ok,I.os,I.bare,⟨fun b o e n hb hx=>?_,fun b o e n hb hx=>?_,I.base.free,fun b o e hx=>?_,I.base.tups,I.base.frzs,I.base.tbls⟩,⟨m,hn.sameBut hs (Ne.symm (cne x c hc)),fun j y v' e1 e2 e3=>?_⟩,fun y c' e=>?_,I.free,I.freeC,fun p hp=>?_,tracked ⟨oc,hoc,I.freeC x c hc⟩ hs,by simpa using I.len⟩ ⟨c,hs,.inr hc⟩
  ·exact (hs.2 b (Nat.ne_of_lt (Nat.lt_of_lt_of_le (Heap.lt_size e) (I.ok.cab x c hfn hc)))).trans (I.base.keep b o e n hb hx)
  ·obtain ⟨sl,e1⟩:=I.base.slot b o e n hb hx
   exact ⟨sl,(hs.2 b (Nat.ne_of_lt (Nat.lt_of_lt_of_le (Heap.lt_size e) (I.ok.cab x c hfn hc)))).trans e1⟩
  ·obtain ⟨o',e1⟩:=I.base.there b o e hx
   exact ⟨o',(hs.2 b (Nat.ne_of_lt (Nat.lt_of_lt_of_le (Heap.lt_size e) (I.ok.cab x c hfn hc)))).trans e1⟩
  ·by_cases hj:j=i
   ·subst hj
    rw [hi] at e1; cases e1;rw [List.getElem?_set_self hiσ] at e2;cases e2;exact ⟨u,r,.inr ⟨.inl hk,c,hc,hc'⟩⟩
   ·rw [List.getElem?_set_ne (Ne.symm hj)] at e2
    obtain ⟨u',r',q⟩:=hl j y v' e1 e2 e3;refine ⟨u',r',?_⟩;rcases q with q | ⟨k,c',e,z'⟩
    ·exact .inl q
    ·refine .inr ⟨k,c',e,z'.sameBut hs ?_⟩
     rintro rfl
     exact hj (Gi hN e1 (I.ok.inj _ _ _ e hc ▸ hi))
  ·by_cases hcc:c'=c
   ·subst hcc; exact ⟨_,hc'⟩
   ·obtain ⟨w2,z2⟩:=I.cell y c' e
    exact ⟨w2,z2.sameBut hs hcc⟩
  ·obtain ⟨e,n,ne,nf,d⟩:=I.pin p hp
   refine ⟨(hs.2 p.1 ?_).trans e,n,ne,nf,d⟩;intro q;rw [q,hoc] at e;have q':oc=p.2:=Option.some.inj e;exact d w' (by rw [← q']; exact hocd)
theorem rC {M:Model} {A:Around} {E:Value→Shared→Prop} {i:Nat} {x:Str} {v:V} {u:Value} {Q:Unit→Shared→Prop} (I:aG X pins σ H s) (hN:X.N.Nodup) (hi:X.N[i]?=some x) (hx:mG X.env.scope x) (r:bQ v u)
  (h:∀ s',aG X pins (σ.set i (some v)) H s'→Q () s') (hf:X.fn x=true∨X.env.scope.names.lookup x=some .local:=by first | exact .inl rfl | exact .inr rfl | assumption):wpAny M A (storeName X.env x u) Q E s :=
 Kr I hN hi hx r (fun s' I' _=>h s' I') hf
theorem aG.call' {s':Shared} {ch:List Addr} (I:aG X pins σ H s) (ho:s'.os=s.os) (u:Un (fT X.stack) ch H H' s.heap s'.heap) (hok:eU X.prog X.w H' s'.heap) (hg:AllBare s'.gens)
  (hch:∀ b∈ch,(b∈X.ex∨X.s₀.heap.objs.size≤b)∧b≠X.env.locals∧(∀ x c,X.env.cells.lookup x=some c→c≠b)∧∀ p∈X.pn++pins,p.1≠b):aG X pins σ H' s':=by
 obtain ⟨h',g',d',t',o'⟩:=s';have e:o'=s.os:=ho;subst e;exact I.call (g':=g') (t':=t') (d':=d') u hok hg hch
end
abbrev XK:=Value→Option Addr→Hp→Prop
abbrev St:=List (Option V)
abbrev VK:=V→Hp→Prop
abbrev TE:=St→Hp→VK→Prop
abbrev TT:=St→Hp→(Bool→Hp→Prop)→Prop
abbrev TA:=St→Hp→(List V→Hp→Prop)→Prop
structure mF where
 nx:St→Hp→Prop
 rt:VK
 bk:St→Hp→Prop:=fun _ _=>False
 ct:St→Hp→Prop:=fun _ _=>False
abbrev TS:=mF→St→Hp→Prop
def EP (X:Cx) (pins:List (Addr × Obj)) (σ:St) (Q:VK) (u:Value) (s':Shared):Prop:=∃ v H',aG X pins σ H' s'∧bQ v u∧Q v H'
def TP (X:Cx) (pins:List (Addr × Obj)) (σ:St) (Q:Bool→Hp→Prop) (b:Bool) (s':Shared):Prop:=∃ H',aG X pins σ H' s'∧Q b H'
def AP (X:Cx) (pins:List (Addr × Obj)) (σ:St) (Q:List V→Hp→Prop) (us:List Value) (s':Shared):Prop:=∃ vs H',aG X pins σ H' s'∧bC vs us∧Q vs H'
def SP (X:Cx) (pins:List (Addr × Obj)) (D:mF) (f:Flow) (s':Shared):Prop :=
 match f with
 | .next=>∃ σ' H',aG X pins σ' H' s'∧D.nx σ' H'
 | .brk=>∃ σ' H',aG X pins σ' H' s'∧D.bk σ' H'
 | .cont=>∃ σ' H',aG X pins σ' H' s'∧D.ct σ' H'
 | .ret u=>∃ v σ' H',aG X pins σ' H' s'∧bQ v u∧D.rt v H'
def PE (X:Cx) (e:Expr) (t:TE):Prop :=
 ∀ (pins:List (Addr × Obj)) (s:Shared) (σ:St) (H:Hp) (Q:VK),aG X pins σ H s→t σ H Q→wpAny (model X.prog X.w) X.A (eval e X.env) (EP X pins σ Q) X.xe s
def PT (X:Cx) (e:Expr) (t:TT):Prop :=
 ∀ (pins:List (Addr × Obj)) (s:Shared) (σ:St) (H:Hp) (Q:Bool→Hp→Prop),aG X pins σ H s→t σ H Q→wpAny (model X.prog X.w) X.A (isTrue e X.env (eval e X.env)) (TP X pins σ Q) X.xe s
def PW (X:Cx) (e:Expr) (t:TT):Prop :=
 ∀ (whole:Sem Value) (pins:List (Addr × Obj)) (s:Shared) (σ:St) (H:Hp) (Q:Bool→Hp→Prop),aG X pins σ H s→t σ H Q→wpAny (model X.prog X.w) X.A (isTrue e X.env whole) (TP X pins σ Q) X.xe s
theorem PW.pt {X:Cx} {e:Expr} {t:TT} (h:PW X e t):PT X e t:=h _
def PA (X:Cx) (es:List Expr) (t:TA):Prop :=
 ∀ (pos:Pos) (pins:List (Addr × Obj)) (s:Shared) (σ:St) (H:Hp) (Q:List V→Hp→Prop),aG X pins σ H s→t σ H Q→wpAny (model X.prog X.w) X.A (spliced (backTo pos (starEach es X.env))) (AP X pins σ Q) X.xe s
def PS (X:Cx) (st:Stmt) (t:TS):Prop :=
 ∀ (pins:List (Addr × Obj)) (s:Shared) (σ:St) (H:Hp) (D:mF),aG X pins σ H s→t D σ H→wpAny (model X.prog X.w) X.A (exec st X.env) (SP X pins D) X.xe s
def fW (X:Cx) (st:List Stmt) (t:TS):Prop :=
 ∀ (pins:List (Addr × Obj)) (s:Shared) (σ:St) (H:Hp) (D:mF),aG X pins σ H s→t D σ H→wpAny (model X.prog X.w) X.A (execs st X.env) (SP X pins D) X.xe s
theorem bF {α:Type} {t:Sem α} {Q Q':α→Shared→Prop} {M:Model} {A:Around} {E:Value→Shared→Prop} {s:Shared} (h:wpAny M A t Q E s) (hQ:∀ a s,Q a s→Q' a s):wpAny M A t Q' E s:=wpAny_mono h hQ fun _ _ x=>x
end L2
namespace L2
open PySem PySem.Spec PyProof.Rows
section
variable {X:Cx}
theorem bin {a b:Expr} {ta tb:TE} (ha:PE X a ta) (hb:PE X b tb) {pins:List (Addr × Obj)} {s:Shared} {σ:St} {H:Hp} {R:V→V→Hp→Prop} (I:aG X pins σ H s) (h:ta σ H fun x H1=>tb σ H1 fun y H2=>R x y H2)
  {α:Type} {Q:α→Shared→Prop} {f:Value→Value→Sem α}
  (hf:∀ v u s2 x y H2,aG X pins σ H2 s2→bQ x v→bQ y u→R x y H2→wpAny (model X.prog X.w) X.A (f v u) Q X.xe s2) :
  wpAny (model X.prog X.w) X.A (eval a X.env) (fun v s₁=>wpAny (model X.prog X.w) X.A (eval b X.env) (fun u s₂=>wpAny (model X.prog X.w) X.A (f v u) Q X.xe s₂) X.xe s₁) X.xe s:=by
 refine bF (ha pins s σ H _ I h) fun v s1 ⟨x,H1,I1,r1,q1⟩=>?_;refine bF (hb pins s1 σ H1 _ I1 q1) fun u s2 ⟨y,H2,I2,r2,q2⟩=>?_;exact hf v u s2 x y H2 I2 r1 r2 q2
def Rn (i:Nat):TE:=fun σ H Q=>∃ v,σ[i]?=some (some v)∧Q v H
def tC (v:V):TE:=fun _ H Q=>Q v H
theorem nW {i:Nat} {x:Str} {pos:Pos} (hN:X.N[i]?=some x) (hv:oQ X.env.scope x) (hd:(x == ("__debug__":Str))=false:=by decide) (hcd:(x == ("__classdict__":Str))=false:=by decide):PE X (.Name x pos) (Rn i):=by
 intro pins s σ H Q I h;obtain ⟨v,e,h⟩:=h;obtain ⟨m,hn,hl⟩:=I.loc;obtain ⟨u,r,l⟩:=hl i x v hN e hv;have fin:EP X pins σ Q u s:=⟨v,H,I,r,h⟩;rcases l with ⟨hk,hm⟩ | ⟨hk,c,hc,hcell⟩
 ·exact wpAny_Name (wpAny_loadName_local I.ok.kind hk hn hm fin) hd
 ·rcases hk with hk | hk
  ·exact wpAny_Name (wpAny_loadName_cell I.ok.kind hk hc hcell fin) hd
  ·exact wpAny_Name (wpAny_loadName_free I.ok.kind hk hc hcell fin hcd) hd
theorem Jm {i j pos}:PE X (.Constant (.int i) j pos) (tC (.int i)):=fun _ _ _ H _ I h=>wpAny_Constant_int ⟨.int i,H,I.tok _,⟨_,rfl⟩,h⟩
def Gl (X:Cx) (x:Str):Prop:=X.env.kindOf x=some .globalImplicit
theorem Wi {E:Value→Shared→Prop} {pins:List (Addr × Obj)} {s:Shared} {σ:St} {H:Hp} {x:Str} {u:Value} {pos:Pos} {Q:Value→Shared→Prop} (I:aG X pins σ H s) (hg:Gl X x) (hm:X.mg x=some u) (h:Q u s)
  (hd:(x == ("__debug__":Str))=false:=by decide):wpAny (model X.prog X.w) X.A (eval (.Name x pos) X.env) Q E s :=
 Calls.Name_function_global I.ok.kind hg (Calls.loadGlobal_global (by rw [I.ok.glob]; exact I.mod.glob.keeps I.bk) hm h) hd
theorem oA {E:Value→Shared→Prop} {pins:List (Addr × Obj)} {s:Shared} {σ:St} {H:Hp} {x:Str} {u:Value} {pos:Pos} {Q:Value→Shared→Prop} (I:aG X pins σ H s) (hg:Gl X x) (hm:X.mg x=none) (hv:bootBuiltins x=some u) (h:Q u s)
  (hn:x≠"__name__":=by decide) (hd:(x == ("__debug__":Str))=false:=by decide):wpAny (model X.prog X.w) X.A (eval (.Name x pos) X.env) Q E s:=by
 obtain ⟨mb,h1,h2⟩:=I.mod.blt;exact Calls.Name_function_global I.ok.kind hg (Calls.loadGlobal_builtin (by rw [I.ok.glob]; exact I.mod.glob.keeps I.bk) hm (by rw [I.ok.blt]; exact h1.keeps I.bk) ((h2 x hn).trans hv) h) hd
theorem Fz {x:Str} {v:V} {u:Value} {pos:Pos} (hg:Gl X x) (hm:X.mg x=some u) (r:bQ v u) (hd:(x == ("__debug__":Str))=false:=by decide):PE X (.Name x pos) (tC v) :=
 fun _ _ _ H _ I h=>Wi I hg hm ⟨v,H,I,r,h⟩ hd
theorem Ry {x:Str} {v:V} {u:Value} {pos:Pos} (hg:Gl X x) (hm:X.mg x=none) (hv:bootBuiltins x=some u) (r:bQ v u) (hn:x≠"__name__":=by decide) (hd:(x == ("__debug__":Str))=false:=by decide):PE X (.Name x pos) (tC v) :=
 fun _ _ _ H _ I h=>oA I hg hm hv ⟨v,H,I,r,h⟩ hn hd
variable {a b:Expr} {ta tb:TE} {pos:Pos}
variable {tA tB':TT} {fD:List Expr}
def aac (t u:TT):TT:=fun σ H Q=>t σ H fun c H1=>if c=true then u σ H1 Q else Q false H1
def tOr (t u:TT):TT:=fun σ H Q=>t σ H fun c H1=>if c=true then Q true H1 else u σ H1 Q
theorem Wz (ha:PT X a tA):PW X (.BoolOp .And [a] pos) tA:=by
 intro wh pins s σ H Q I h;refine isTrue_and (bF (ha pins s σ H Q I h) fun c s1 e=>?_);cases c with
 | true=>exact isTrue_and_nil e
 | false=>exact e
theorem M6 (ha:PT X a tA):PW X (.BoolOp .Or [a] pos) tA:=by
 intro wh pins s σ H Q I h;refine isTrue_or (bF (ha pins s σ H Q I h) fun c s1 e=>?_);cases c with
 | false=>exact isTrue_or_nil e
 | true=>exact e
theorem F8 (ha:PT X a tA) (hb:PW X (.BoolOp .And (b :: fD) pos) tB'):PW X (.BoolOp .And (a :: b :: fD) pos) (aac tA tB'):=by
 intro wh pins s σ H Q I h;refine isTrue_and (bF (ha pins s σ H _ I h) fun c s1 ⟨H1,I1,q1⟩=>?_);cases c with
 | true=>exact hb wh pins s1 σ H1 Q I1 q1
 | false=>exact ⟨H1,I1,q1⟩
theorem Y4 (ha:PT X a tA) (hb:PW X (.BoolOp .Or (b :: fD) pos) tB'):PW X (.BoolOp .Or (a :: b :: fD) pos) (tOr tA tB'):=by
 intro wh pins s σ H Q I h;refine isTrue_or (bF (ha pins s σ H _ I h) fun c s1 ⟨H1,I1,q1⟩=>?_);cases c with
 | true=>exact ⟨H1,I1,q1⟩
 | false=>exact hb wh pins s1 σ H1 Q I1 q1
def V4 (ta tb:TE):TE:=fun σ H Q=>ta σ H fun x H1=>∃ c,x=.bl c∧if c=true then tb σ H1 Q else Q (.bl false) H1
def W9 (ta:TE):TE:=fun σ H Q=>ta σ H fun x H1=>∃ c,x=.bl c∧Q (.bl (!c)) H1
theorem M8 (ha:PE X a ta) (hb:PE X (.BoolOp .And (b :: fD) pos) tb):PE X (.BoolOp .And (a :: b :: fD) pos) (V4 ta tb):=by
 intro pins s σ H Q I h;refine BoolOp_and (bF (ha pins s σ H _ I h) fun v s1 ⟨x,H1,I1,r1,q1⟩=>?_);obtain ⟨c,rfl,q1⟩:=q1;cases r1;refine wpAny_truthy_bool ?_;cases c with
 | true=>exact hb pins s1 σ H1 Q I1 q1
 | false=>exact ⟨.bl false,H1,I1,rfl,q1⟩
theorem D8 (ha:PE X a ta):PE X (.UnaryOp .Not a pos) (W9 ta):=by
 intro pins s σ H Q I h;refine UnaryOp_ (bF (ha pins s σ H _ I h) fun v s1 ⟨x,H1,I1,r1,q1⟩=>?_);obtain ⟨c,rfl,q1⟩:=q1;cases r1;exact not_of (wpAny_truthy_bool ⟨.bl (!c),H1,I1,rfl,q1⟩)
def tIf (t:TT) (ta tb:TE):TE:=fun σ H Q=>t σ H fun c H1=>if c=true then ta σ H1 Q else tb σ H1 Q
theorem Fu {c:Expr} (hc:PT X c tA) (ha:PE X a ta) (hb:PE X b tb):PE X (.IfExp c a b pos) (tIf tA ta tb):=by
 intro pins s σ H Q I h;refine wpAny_IfExp (bF (hc pins s σ H _ I h) fun d s1 ⟨H1,I1,q1⟩=>?_);cases d with
 | true=>exact ha pins s1 σ H1 Q I1 q1
 | false=>exact hb pins s1 σ H1 Q I1 q1
end
end L2
namespace L2
open PySem PySem.Spec PyProof.Rows
def bY (K:PySem.W.Frag) (H:Hp) (a:Addr) (xs:List V):Prop :=
 Rd H a (.lst xs) ∨
  ∃ (o:Obj) (its:Array Value) (n:Nat),K.lookup a=some o∧o.cls=.type "list"∧o.dict=none∧o.data=.seq its n∧its.size≤sizeLine∧bC xs its.toList
def dC (K:PySem.W.Frag) (H:Hp) (a:Addr) (xs:List V):Prop :=
 Rd H a (.tup xs) ∨
  ∃ (o:Obj) (its:Array Value) (n:Nat),K.lookup a=some o∧o.cls=.type "tuple"∧o.data=.seq its n∧its.size≤sizeLine∧bC xs its.toList
def aah:Value→Option V
 | .none=>some .non
 | .bool b=>some (.bl b)
 | .int i _=>some (.int i)
 | .str x _=>some (.str x)
 | .bytes b _=>some (.byt b)
 | .float b _=>some (.flt b)
 | .ref a=>some (.ref a)
 | .type n=>some (.ty n)
 | _=>none
theorem bQ.abs {x:V} {u:Value} (r:bQ x u):aah u=some x:=by
 cases x with
 | non=>cases r; rfl
 | bl _=>cases r; rfl
 | int _=>obtain ⟨t,rfl⟩:=r; rfl
 | str _=>obtain ⟨t,rfl⟩:=r; rfl
 | byt _=>obtain ⟨t,rfl⟩:=r; rfl
 | flt _=>obtain ⟨t,rfl⟩:=r; rfl
 | ref _=>cases r; rfl
 | ty _=>cases r; rfl
theorem bQ.inj {x y:V} {u:Value} (r:bQ x u) (q:bQ y u):x=y:=Option.some.inj (r.abs.symm.trans q.abs)
theorem bC.inj:∀ {xs ys:List V} {us:List Value},bC xs us→bC ys us→xs=ys
 | _,_,_,.nil,.nil=>rfl
 | _,_,_,.cons r t,.cons r' t'=>by rw [r.inj r',bC.inj t t']
section
variable {X:Cx} {pins:List (Addr × Obj)} {σ:St} {H:Hp} {s:Shared} {a:Addr} {xs ys:List V}
theorem bY.of {K:PySem.W.Frag} (h:H a=some (.lst xs)):bY K H a xs:=.inl (.inl h)
theorem dC.of {K:PySem.W.Frag} (h:H a=some (.tup xs)):dC K H a xs:=.inl (.inl h)
theorem aG.list (I:aG X pins σ H s) (h:bY X.K H a xs):∃ its:List Value,bC xs its∧PlainL s.heap a its.toArray∧xs.length≤sizeLine:=by
 rcases h with h | ⟨o,its,n,hk,hc,hd,hs,hz,r⟩
 ·obtain ⟨z,its,n,r,e⟩:=h.ok I.hok
  exact ⟨its,r,⟨_,n,e,rfl,rfl,rfl⟩,z⟩
 ·refine ⟨its.toList,r,⟨o,n,I.kIn a o hk,hc,hd,by simpa using hs⟩,?_⟩
  have e:=r.length;simp only [Array.length_toList] at e;omega
theorem aG.tuple (I:aG X pins σ H s) (h:dC X.K H a xs):∃ its:List Value,bC xs its∧IsTup s.heap a its.toArray∧xs.length≤sizeLine:=by
 rcases h with h | ⟨o,its,n,hk,hc,hs,hz,r⟩
 ·obtain ⟨z,its,r,p⟩:=h.ok I.hok
  exact ⟨its,r,p,z⟩
 ·refine ⟨its.toList,r,⟨o,I.kIn a o hk,hc,n,by simpa using hs⟩,?_⟩
  have e:=r.length;simp only [Array.length_toList] at e;omega
theorem aG.list_inj (I:aG X pins σ H s) (h:bY X.K H a xs) (h':bY X.K H a ys):xs=ys:=by
 obtain ⟨its,r,⟨o,n,e,_,_,d⟩,_⟩:=I.list h;obtain ⟨its',r',⟨o',n',e',_,_,d'⟩,_⟩:=I.list h';rw [e] at e'; cases e';rw [d] at d';injection d' with d1 _;have:its=its':=by simpa using congrArg Array.toList d1
 subst this;exact r.inj r'
theorem aG.tuple_inj (I:aG X pins σ H s) (h:dC X.K H a xs) (h':dC X.K H a ys):xs=ys:=by
 obtain ⟨its,r,⟨o,e,_,n,d⟩,_⟩:=I.tuple h;obtain ⟨its',r',⟨o',e',_,n',d'⟩,_⟩:=I.tuple h';rw [e] at e'; cases e';rw [d] at d';injection d' with d1 _;have:its=its':=by simpa using congrArg Array.toList d1
 subst this;exact r.inj r'
end
abbrev Cx.wish (X:Cx) (E:Value→Shared→Prop):Cx:={ X with xe:=E }
abbrev Cx.nox (X:Cx):Cx:=X.wish fun _ _=>False
theorem Cx.Ok.wish {X:Cx} (ok:X.Ok) (E:Value→Shared→Prop):(X.wish E).Ok :=
 ⟨ok.mod,ok.kind,ok.glob,ok.blt,ok.above,ok.inj,ok.has,ok.cab,ok.hd,ok.frames,ok.stk,ok.exf,ok.bs,ok.bsz,ok.noex,ok.exfs,ok.funs,ok.frf⟩
theorem Cx.Ok.unwish {X:Cx} {E:Value→Shared→Prop} (ok:(X.wish E).Ok):X.Ok :=
 ⟨ok.mod,ok.kind,ok.glob,ok.blt,ok.above,ok.inj,ok.has,ok.cab,ok.hd,ok.frames,ok.stk,ok.exf,ok.bs,ok.bsz,ok.noex,ok.exfs,ok.funs,ok.frf⟩
section
variable {X:Cx} {pins:List (Addr × Obj)} {σ:St} {H:Hp} {s:Shared} {E:Value→Shared→Prop}
theorem aG.wish (I:aG X pins σ H s) (E:Value→Shared→Prop):aG (X.wish E) pins σ H s:=⟨I.ok.wish E,I.os,I.bare,I.base,I.loc,I.cell,I.free,I.freeC,I.pin,I.hok,I.len⟩
theorem aG.unwish (I:aG (X.wish E) pins σ H s):aG X pins σ H s:=⟨I.ok.unwish,I.os,I.bare,I.base,I.loc,I.cell,I.free,I.freeC,I.pin,I.hok,I.len⟩
theorem SP.unwish {D:mF} {f:Flow} {s':Shared} (h:SP (X.wish E) pins D f s'):SP X pins D f s':=by
 cases f with
 | next=>obtain ⟨σ',H',I,q⟩:=h; exact ⟨σ',H',I.unwish,q⟩
 | brk=>obtain ⟨σ',H',I,q⟩:=h; exact ⟨σ',H',I.unwish,q⟩
 | cont=>obtain ⟨σ',H',I,q⟩:=h; exact ⟨σ',H',I.unwish,q⟩
 | ret u=>obtain ⟨v,σ',H',I,r,q⟩:=h; exact ⟨v,σ',H',I.unwish,r,q⟩
theorem fW.nox {st:List Stmt} {t:TS} (h:fW X.nox st t):fW X st t:=fun pins s σ H D I hw =>
 wpAny_mono (h pins s σ H D (I.wish _) hw) (fun _ _ q=>q.unwish) fun _ _ z=>False.elim z
end
section
variable {X:Cx} {st:Stmt} {fD:List Stmt} {t u:TS} {e:Expr} {te:TE} {pos:Pos}
def U9:TS:=fun D σ H=>D.nx σ H
def aay (t u:TS):TS:=fun D σ H=>t { D with nx:=u D } σ H
theorem Zz:fW X [] U9:=fun _ _ σ H _ I h=>wpAny_execs_nil ⟨σ,H,I,h⟩
theorem Qw (h1:PS X st t) (h2:fW X fD u):fW X (st :: fD) (aay t u):=by
 intro pins s σ H D I h;refine wpAny_execs_cons (bF (h1 pins s σ H { D with nx:=u D } I h) fun f s1 q=>?_);cases f with
 | next =>
  obtain ⟨σ',H',I',q⟩:=q;exact h2 pins s1 σ' H' D I' q
 | ret v=>exact q
 | brk=>exact q
 | cont=>exact q
theorem Nk (h1:PS X st t):fW X [st] t:=by
 intro pins s σ H D I h;refine wpAny_execs_cons (bF (h1 pins s σ H D I h) fun f s1 q=>?_);cases f with
 | next=>exact wpAny_execs_nil q
 | ret v=>exact q
 | brk=>exact q
 | cont=>exact q
theorem aG.quiet {pins:List (Addr × Obj)} {σ:St} {H:Hp} {s:Shared} (I:aG X pins σ H s):interactive X.env=false:=by simp [interactive,I.ok.kind]
def O9 (te:TE):TS:=fun D σ H=>te σ H fun _ H1=>D.nx σ H1
theorem Py (he:PE X e te) (hs:swapsWith e none pos.line X.env=pure false:=by rfl):PS X (.Expr e pos) (O9 te):=by
 intro pins s σ H D I h;exact wpAny_Expr_any (bF (he pins s σ H _ I h) fun v s1 ⟨x,H1,I1,r1,q1⟩=>⟨σ,H1,I1,q1⟩) I.quiet hs
def Y6 (te:TE):TS:=fun D σ H=>te σ H D.rt
theorem G0 (he:PE X e te):PS X (.Return (some e) pos) (Y6 te):=by
 intro pins s σ H D I h;exact wpAny_Return_some (bF (he pins s σ H _ I h) fun v s1 ⟨x,H1,I1,r1,q1⟩=>⟨x,σ,H1,I1,r1,q1⟩)
def U6:TS:=fun D _ H=>D.rt .non H
theorem B5:PS X (.Return none pos) U6:=fun _ _ σ H _ I h=>wpAny_Return_none ⟨.non,σ,H,I,rfl,h⟩
def aar (c:TT) (t u:TS):TS:=fun D σ H=>c σ H fun b H1=>if b=true then t D σ H1 else u D σ H1
theorem V8 {c:Expr} {a b:List Stmt} {tc:TT} (hc:PT X c tc) (ha:fW X a t) (hb:fW X b u):PS X (.If c a b pos) (aar tc t u):=by
 intro pins s σ H D I h;refine wpAny_If (bF (hc pins s σ H _ I h) fun d s1 ⟨H1,I1,q1⟩=>?_);cases d with
 | true=>exact ha pins s1 σ H1 D I1 q1
 | false=>exact hb pins s1 σ H1 D I1 q1
end
abbrev TG:=V→St→Hp→(St→Hp→Prop)→Prop
abbrev mI:=List V→St→Hp→(St→Hp→Prop)→Prop
def PG (X:Cx) (target:Expr) (t:TG):Prop :=
 ∀ (pins:List (Addr × Obj)) (s:Shared) (σ:St) (H:Hp) (v:V) (u:Value) (Q:St→Hp→Prop),aG X pins σ H s→bQ v u→t v σ H Q →
  wpAny (model X.prog X.w) X.A (assign target X.env u) (fun _ s'=>∃ σ' H',aG X pins σ' H' s'∧Q σ' H') X.xe s
def kX (X:Cx) (ts:List Expr) (t:mI):Prop :=
 ∀ (pins:List (Addr × Obj)) (s:Shared) (σ:St) (H:Hp) (vs:List V) (us:List Value) (Q:St→Hp→Prop),aG X pins σ H s→bC vs us→t vs σ H Q →
  wpAny (model X.prog X.w) X.A (assignInOrder ((assignEach ts X.env).map (·.2)) us) (fun _ s'=>∃ σ' H',aG X pins σ' H' s'∧Q σ' H') X.xe s
abbrev vP:=V→V→V→Hp→(Hp→Prop)→Prop
def Ub (X:Cx) (t:vP):Prop :=
 ∀ (pins:List (Addr × Obj)) (s:Shared) (σ:St) (H:Hp) (o i v:V) (ov iv u:Value) (Q:Hp→Prop),aG X pins σ H s→bQ o ov→bQ i iv→bQ v u→t o i v H Q →
  wpAny (model X.prog X.w) X.A (setItem ov iv u) (fun _ s'=>∃ H',aG X pins σ H' s'∧Q H') X.xe s
abbrev TIp:=V→V→Hp→VK→Prop
def gU (X:Cx) (op:Operator) (t:TIp):Prop :=
 ∀ (pins:List (Addr × Obj)) (s:Shared) (σ:St) (H:Hp) (x y:V) (v u:Value) (Q:VK),aG X pins σ H s→bQ x v→bQ y u→t x y H Q →
  wpAny (model X.prog X.w) X.A (inplaceOp op v u) (EP X pins σ Q) X.xe s
section
variable {X:Cx} {pos:Pos}
def Hb (i:Nat):TG:=fun v σ H Q=>Q (σ.set i (some v)) H
theorem Mj {i:Nat} {x:Str} (hN:X.N.Nodup) (hi:X.N[i]?=some x) (hx:mG X.env.scope x) (hf:X.fn x=true∨X.env.scope.names.lookup x=some .local:=by first | exact .inl rfl | exact .inr rfl | assumption):PG X (.Name x pos) (Hb i):=by
 intro pins s σ H v u Q I r h;exact wpAny_assign_Name (rC I hN hi hx r (fun s' I'=>⟨_,H,I',h⟩) hf)
def aaf:mI:=fun vs σ H Q=>vs=[]∧Q σ H
def Q8 (t:TG) (u:mI):mI:=fun vs σ H Q=>∃ v r,vs=v :: r∧t v σ H fun σ' H'=>u r σ' H' Q
theorem Ny:kX X [] aaf:=by
 intro pins s σ H vs us Q I r h;obtain ⟨e,h⟩:=h;subst e;cases r;exact assignInOrder_nil ⟨σ,H,I,h⟩
theorem Aw {e:Expr} {es:List Expr} {t:TG} {u:mI} (h1:PG X e t) (h2:kX X es u)
  (hs:(assignEach (e :: es) X.env).map (·.2)=assign e X.env :: (assignEach es X.env).map (·.2):=by rfl):kX X (e :: es) (Q8 t u):=by
 intro pins s σ H vs us Q I r h;obtain ⟨v,vr,e1,h⟩:=h;subst e1;cases r with
 | cons r rr =>
  rw [hs];refine assignInOrder_cons (bF (h1 pins s σ H _ _ _ I r h) fun _ s1 ⟨σ1,H1,I1,q1⟩=>?_);exact h2 pins s1 σ1 H1 _ _ Q I1 rr q1
def aai (K:PySem.W.Frag) (n:Nat) (t:mI):TG:=fun v σ H Q=>∃ a xs,v=.ref a∧dC K H a xs∧xs.length=n∧t xs σ H Q
theorem L0 {es:List Expr} {k:Nat} {t:mI} {n:Nat} (hc:X.calm=true) (h:kX X es t)
  (hn:(assignEach es X.env).length=n:=by rfl) (hst:(assignEach es X.env).findIdx? (·.1)=none:=by rfl):PG X (.Tuple es k pos) (aai X.K n t):=by
 intro pins s σ H v u Q I r hw;obtain ⟨a,xs,e1,hq,hl,hw⟩:=hw;subst e1;cases r;obtain ⟨its,rv,ht,hz⟩:=I.tuple hq;refine assign_Tuple_tuple (I.ok.hd hc) ht (by simp [hn,← hl,rv.length]) hst fun h' hx=>?_;have I1:aG X pins σ H { s with heap:=h' }:=I.kept (t':=s.toks) fun b o e=>hx b o (Nat.ne_of_lt (Heap.lt_size e)) e;exact h pins _ σ H xs _ Q I1 (by simpa using rv) hw
def Y8 (to ti:TE) (t:vP):TG:=fun v σ H Q=>to σ H fun o H1=>ti σ H1 fun i H2=>t o i v H2 fun H3=>Q σ H3
theorem zM {o i:Expr} {to ti:TE} {t:vP} (ho:PE X o to) (hi:PE X i ti) (hs:Ub X t)
  (ha:∀ v,assign (.Subscript o i pos) X.env v=(do
   let ov ← holding [v] (eval o X.env)
   let iv ← holding [v,ov] (eval i X.env)
   standAt pos
   holding [v,ov,iv] (setItem ov iv v)
   release [v,ov,iv] []):=by intro _; rfl):PG X (.Subscript o i pos) (Y8 to ti t):=by
 intro pins s σ H v u Q I r h;rw [ha];refine wpAny_bind (wpAny_holding (bF (ho pins s σ H _ I h) fun ov s1 ⟨x,H1,I1,r1,q1⟩=>?_));refine wpAny_bind (wpAny_holding (bF (hi pins s1 σ H1 _ I1 q1) fun iv s2 ⟨y,H2,I2,r2,q2⟩=>?_));refine wpAny_bind (wpAny_standAt (wpAny_bind (wpAny_holding (bF (hs pins s2 σ H2 x y v ov iv u _ I2 r1 r2 r q2) fun _ s3 ⟨H3,I3,q3⟩=>?_))));exact wpAny_release ⟨σ,H3,I3,q3⟩
def Rb (te:TE) (g:TG):TS:=fun D σ H=>te σ H fun x H1=>g x σ H1 D.nx
theorem uK {tg e:Expr} {te:TE} {g:TG} (he:PE X e te) (hg:PG X tg g) (hs:swapsWithSole [tg] e pos.line X.env=pure false:=by rfl) (hw:swappedStores [tg] e X.env=pure none:=by rfl)
  (h1:(assignEach [tg] X.env).map (·.2)=[assign tg X.env]:=by rfl):PS X (.Assign [tg] e pos) (Rb te g):=by
 intro pins s σ H D I h;refine wpAny_Assign_stores (bF (he pins s σ H _ I h) fun v s1 ⟨x,H1,I1,r1,q1⟩=>?_) hs hw;rw [h1];exact bF (hg pins s1 σ H1 x v _ I1 r1 q1) fun _ s2 q=>q
theorem M2 {i:Nat} {x:Str} {e:Expr} {te:TE} {pos':Pos} (hN:X.N.Nodup) (hi:X.N[i]?=some x) (hx:mG X.env.scope x) (he:PE X e te) (hs:swapsWith e (some (.Name x pos')) pos.line X.env=pure false:=by rfl) (hf:X.fn x=true∨X.env.scope.names.lookup x=some .local:=by first | exact .inl rfl | exact .inr rfl | assumption) :
  PS X (.Assign [.Name x pos'] e pos) (Rb te (Hb i)):=by
 intro pins s σ H D I h;refine wpAny_Assign_Name (bF (he pins s σ H _ I h) fun v s1 ⟨y,H1,I1,r1,q1⟩=>?_) hs;exact rC I1 hN hi hx r1 (fun s2 I2=>⟨_,H1,I2,q1⟩) hf
def aaj (i j:Nat) (ta:TA):TS:=fun D σ H=>ta σ H fun vs H1=>∃ v w,vs=[v,w]∧D.nx ((σ.set i (some v)).set j (some w)) H1
theorem C0 {i j:Nat} {x y:Str} {a b:Expr} {ta:TA} {px py pt:Pos} {kt k2 eL} (hc:X.calm=true) (hN:X.N.Nodup) (hi:X.N[i]?=some x) (hj:X.N[j]?=some y) (hij:i≠j)
  (hx:X.env.scope.names.lookup x=some .local) (hy:X.env.scope.names.lookup y=some .local) (ha:PA X [a,b] ta)
  (hw:swappedStores [.Tuple [.Name x px,.Name y py] kt pt] (.Tuple [a,b] k2 eL) X.env=pure (some [x,y]))
  (hs:swapsWithSole [.Tuple [.Name x px,.Name y py] kt pt] (.Tuple [a,b] k2 eL) pos.line X.env=pure false:=by rfl) :
  PS X (.Assign [.Tuple [.Name x px,.Name y py] kt pt] (.Tuple [a,b] k2 eL) pos) (aaj i j ta):=by
 intro pins s σ H D I h;rw [exec_Assign_arm];refine wpAny_bind (wpAny_standAt ?_);rw [hs];refine wpAny_bind (wpAny_pure ?_);rw [if_neg (by decide)];refine wpAny_bind (Tuple_ (bF (ha _ pins s σ H _ I h) fun us s1 ⟨vs,H1,I1,r1,q1⟩=>?_));obtain ⟨v,w,e1,q1⟩:=q1;subst e1;obtain ⟨u1,u2,rfl,rv,rw'⟩:∃ u1 u2,us=[u1,u2]∧bQ v u1∧bQ w u2:=by
  cases r1 with
  | cons p q =>
   cases q with
   | cons p' q' =>
    cases q';exact ⟨_,_,rfl,p,p'⟩
 refine wpAny_newObj_type ?_ (by show 2≤sizeLine; decide);have I2:aG X pins σ H1 { s1 with heap:=s1.heap.push { cls:=.type "tuple",data:=.seq [u1,u2].toArray } }:=I1.kept (t':=s1.toks) fun b o e=>Heap.get?_push_of_some _ e;rw [hw];refine wpAny_bind (wpAny_pure ?_);show wpAny (model X.prog X.w) X.A (do rule "assign.swapped-stores"; let items ← unpackItems (.ref s1.heap.objs.size) 2 none; assignInOrder [fun v=>bindName X.env y v,fun v=>bindName X.env x v] items.reverse; pure Flow.next) _ _ _
 refine wpAny_bind (wpAny_rule (wpAny_bind (unpackItems_tuple (items:=#[u1,u2]) (I.ok.hd hc) (IsTup.new s1.heap _) fun h' hx'=>?_)));have I3:=I2.kept (h':=h') (t':=s1.toks) fun b o e=>hx' b o (Nat.ne_of_lt (Heap.lt_size e)) e;show wpAny _ _ (assignInOrder [fun v=>bindName X.env y v,fun v=>bindName X.env x v] [u2,u1] >>= fun _=>pure Flow.next) _ _ _
 refine wpAny_bind (assignInOrder_cons (wpAny_bindName (rC I3 hN hj (.inl hy) rw' (fun s2 I4=>?_) (.inr hy))));refine assignInOrder_cons (wpAny_bindName (rC I4 hN hi (.inl hx) rv (fun s3 I5=>assignInOrder_nil (wpAny_pure ?_)) (.inr hx)));rw [List.set_comm _ _ (Ne.symm hij)] at I5;exact ⟨_,H1,I5,q1⟩
end
section
variable {X:Cx} {pos:Pos}
def M5 (c:TT) (tb:TS):TS:=fun D σ H=>∃ W:Nat→St→Hp→Prop,(∃ m,W m σ H)∧∀ m σ H,W m σ H →
 c σ H fun b H1=>if b=true then ∃ N:St→Hp→Prop,(∀ σ' H',N σ' H'→∃ m',m' < m∧W m' σ' H')∧tb { D with nx:=N,ct:=N,bk:=D.nx } σ H1 else D.nx σ H1
theorem Vv {c:Expr} {body:List Stmt} {tc:TT} {tb:TS} (hp:PassesOwn (model X.prog X.w) X.A X.env X.xe) (hc:PT X c tc) (hb:fW X body tb):PS X (.While c body [] pos) (M5 tc tb):=by
 intro pins s σ H D I h;obtain ⟨W,⟨m0,w0⟩,turn⟩:=h;refine wpAny_While (codeAny_whileLoop (fun n s'=>∃ σ' H',aG X pins σ' H' s'∧W n σ' H') ?_ m0 ⟨σ,H,I,w0⟩)
 rintro n s1 ⟨σ1,H1,I1,w1⟩
 refine wpAny_passesOwn hp (bF (hc pins s1 σ1 H1 _ I1 (turn n σ1 H1 w1)) fun b s2 ⟨H2,I2,q2⟩=>?_);cases b with
 | true =>
  obtain ⟨N,hN,q2⟩:=q2;rw [if_pos rfl];refine wpAny_passesOwn hp (bF (hb pins s2 σ1 H2 _ I2 q2) fun f s3 q3=>?_);cases f with
  | next =>
   obtain ⟨σ3,H3,I3,n3⟩:=q3;obtain ⟨m',hm,w3⟩:=hN σ3 H3 n3;exact ⟨m',hm,σ3,H3,I3,w3⟩
  | cont =>
   obtain ⟨σ3,H3,I3,n3⟩:=q3;obtain ⟨m',hm,w3⟩:=hN σ3 H3 n3;exact ⟨m',hm,σ3,H3,I3,w3⟩
  | brk=>exact q3
  | ret v=>exact q3
 | false =>
  rw [if_neg Bool.false_ne_true];exact wpAny_execs_nil ⟨σ1,H2,I2,q2⟩
end
structure It where
 go:Nat→Hp→Prop
 yld:Nat→Hp→V→Hp→Prop
 stop:Nat→Hp→Prop
def eW (X:Cx) (pins:List (Addr × Obj)) (H:Hp) (b:Addr):Prop :=
 H b=none∧b≠X.env.locals∧b ∉ X.fs∧(b∈X.ex∨X.s₀.heap.objs.size≤b)∧(∀ x c,X.env.cells.lookup x=some c→c≠b)∧∀ p∈X.pn++pins,p.1≠b
theorem aG.fpOk {X:Cx} {pins:List (Addr × Obj)} {σ:St} {H H':Hp} {s:Shared} {b:Addr} (I:aG X pins σ H s) (hb:s.heap.objs.size≤b) (hn:H' b=none):eW X pins H' b:=by
 refine ⟨hn,Nat.ne_of_gt (Nat.lt_of_lt_of_le I.lt hb),I.nofs hb,.inr (Nat.le_trans I.sz hb),fun x c e z=>?_,fun p hp z=>?_⟩
 ·obtain ⟨v,q⟩:=I.cell x c e
  exact absurd (Nat.lt_of_lt_of_le q.lt (by rw [z]; exact hb)) (Nat.lt_irrefl _)
 ·exact absurd (Nat.lt_of_lt_of_le (Heap.lt_size (I.pin p hp).1) (by rw [z]; exact hb)) (Nat.lt_irrefl _)
structure pZ (P:Program) (w:World) (K:PySem.W.Frag) (tg:Expr) (J:It) (fp:List Addr) (it:Addr) (tn:Nat→Heap→Prop):Prop where
 mem:it∈fp
 obj:∀ i h,tn i h→∀ b∈fp,∃ o,h.get? b=some o∧∀ v,o.data≠.cell v
 keep:∀ i h h',tn i h→(∀ b∈fp,∀ o,h.get? b=some o→h'.get? b=some o)→tn i h'
 item:∀ (X:Cx),X.prog=P→X.w=w→X.K=K→X.calm=true→∀ (i:Nat) (pins:List (Addr × Obj)) (s:Shared) (σ:St) (H:Hp) (E:Value→Shared→Prop),aG X pins σ H s→(∀ b∈fp,eW X pins H b)→tn i s.heap→J.go i H →
  wpAny (model P w) X.A (pyNext (.ref it)) (fun r s1=>∃ u,r=some u ∧
   wpAny (model P w) X.A (letOwnedTupleGo tg (.ref it) u) (fun _ s2=>∃ x H',aG X pins σ H' s2∧bQ x u∧J.yld i H x H'∧tn (i+1) s2.heap∧∀ b∈fp,H' b=none) E s1) E s
 done:∀ (X:Cx),X.prog=P→X.w=w→X.K=K→X.calm=true→∀ (i:Nat) (pins:List (Addr × Obj)) (s:Shared) (σ:St) (H:Hp) (E:Value→Shared→Prop),aG X pins σ H s→(∀ b∈fp,eW X pins H b)→tn i s.heap→J.stop i H →
  wpAny (model P w) X.A (pyNext (.ref it)) (fun r s1=>r=none∧aG X pins σ H s1) E s
 self:∀ (A:Around) (i:Nat) (s:Shared) (Q:Value→Shared→Prop) (E:Value→Shared→Prop),tn i s.heap→Q (.ref it) s→wpAny (model P w) A (pyIter (.ref it)) Q E s
abbrev TI:=St→Hp→(It→Hp→Prop)→Prop
def Lo (X:Cx) (pins:List (Addr × Obj)) (σ:St) (tg:Expr) (R:It→Hp→Prop) (itv:Value) (s2:Shared):Prop :=
 ∃ (it:Addr) (fp:List Addr) (tn:Nat→Heap→Prop) (J:It) (H':Hp),itv=.ref it∧aG X pins σ H' s2∧pZ X.prog X.w X.K tg J fp it tn∧tn 0 s2.heap∧(∀ b∈fp,eW X pins H' b)∧R J H'
def PI (X:Cx) (tg iter:Expr) (wi:TI):Prop :=
 ∀ (pins:List (Addr × Obj)) (s:Shared) (σ:St) (H:Hp) (R:It→Hp→Prop),aG X pins σ H s→wi σ H R →
  wpAny (model X.prog X.w) X.A (eval iter X.env) (fun v s1=>wpAny (model X.prog X.w) X.A (pyIter v) (Lo X pins σ tg R) X.xe s1) X.xe s
theorem Ra {M : Model} {A : Around} {E : Value → Shared → Prop} {s : Shared} {tg : Expr} {it : Addr} {u : Value} {o : Obj} {n : String} {vs : Array Value} {Q : Unit → Shared → Prop} (ho : s.heap.get? it = some o) (hc : o.cls = .type n) (hd : o.data = .fields vs)
    (hn : ["enumerate", "zip", "dict_itemiterator", "dict_reverseitemiterator", "odict_iterator", "itertools.zip_longest", "itertools.pairwise"].contains n = false) (hQ : Q () s) : wpAny M A (letOwnedTupleGo tg (.ref it) u) Q E s := by
  unfold letOwnedTupleGo;cases tg <;> first
    | exact wpAny_pure hQ
    | (cases u <;> first
        | exact wpAny_pure hQ
        | (refine wpAny_bind (wpAny_load ho ?_)
           rw [hc, hd];show wpAny M A (if (["enumerate", "zip", "dict_itemiterator", "dict_reverseitemiterator", "odict_iterator", "itertools.zip_longest", "itertools.pairwise"].contains n && vs[0]? == some (rawInt _)) = true then _ else _) Q E s;rw [if_neg (by intro h; rw [hn, Bool.false_and] at h; cases h)];exact wpAny_pure hQ))
def vV (K:PySem.W.Frag) (a:Addr):It :=
 ⟨fun i H=>∃ xs x,bY K H a xs∧xs[i]?=some x,fun i H x H'=>H'=H∧∀ xs,bY K H a xs→xs[i]?=some x,fun i H=>∃ xs,bY K H a xs∧xs.length≤i⟩
def Hc (K:PySem.W.Frag) (a:Addr):It :=
 ⟨fun i H=>∃ xs x,dC K H a xs∧xs[i]?=some x,fun i H x H'=>H'=H∧∀ xs,dC K H a xs→xs[i]?=some x,fun i H=>∃ xs,dC K H a xs∧xs.length≤i⟩
def sR (lo:Int) (n:Nat):It:=⟨fun i _=>i < n,fun i H x H'=>H'=H∧x=.int (lo+i),fun i _=>n≤i⟩
theorem Cs {P:Program} {w:World} {K:PySem.W.Frag} {tg:Expr} (a it:Addr):pZ P w K tg (vV K a) [it] it (fun i h=>h.IsListIter it a i) where
 mem:=by simp
 obj:=fun i h st b hb=>by
  have e:b=it:=by simpa using hb
  subst e;obtain ⟨o,e,c,d⟩:=st;exact ⟨o,e,fun v z=>by rw [d] at z; cases z⟩
 keep:=fun i h h' st k=>st.at fun o e=>k it (by simp) o e
 item:=by
  intro X hP hw hK hc i pins s σ H E I hf st hg;subst hP hw hK;obtain ⟨xs,x,hq,hx⟩:=hg;obtain ⟨its,rv,p,hz⟩:=I.list hq;obtain ⟨u,hu,ru⟩:=rv.get hx;obtain ⟨f0,f1,f2,f3,f4,f5⟩:=hf it (by simp);refine wpAny_pyNext_list_item st p.isList (x:=u) (by simpa using hu) fun h' st' sb=>?_;have I1:aG X pins σ H { s with heap:=h' }:=I.turned (t':=s.toks) (fun b o hb e=>(sb.2 b hb).trans e) f0 f1 f3 f4 f5;obtain ⟨o,e,c,d⟩:=id st';exact ⟨u,rfl,Ra (s:={ s with heap:=h' }) e c d (by decide) ⟨x,H,I1,ru,⟨rfl,fun ys hy=>by rw [I.list_inj hy hq]; exact hx⟩,st',fun b hb=>(hf b hb).1⟩⟩
 done:=by
  intro X hP hw hK hc i pins s σ H E I hf st hg;subst hP hw hK;obtain ⟨xs,hq,hx⟩:=hg;obtain ⟨its,rv,p,hz⟩:=I.list hq;obtain ⟨f0,f1,f2,f3,f4,f5⟩:=hf it (by simp);have hl:=rv.length;exact wpAny_pyNext_list_end (I.ok.hd hc) st p.isList (by simp; omega) fun h' eb=>⟨rfl,I.turned (t':=s.toks) (fun b o hb e=>eb b o hb e) f0 f1 f3 f4 f5⟩
 self:=fun _ _ _ _ _ st h=>wpAny_pyIter_listiter st h
theorem Dr {P:Program} {w:World} {K:PySem.W.Frag} {tg:Expr} (a it:Addr):pZ P w K tg (Hc K a) [it] it (fun i h=>h.IsTupleIter it a i) where
 mem:=by simp
 obj:=fun i h st b hb=>by
  have e:b=it:=by simpa using hb
  subst e;obtain ⟨o,e,c,d⟩:=st;exact ⟨o,e,fun v z=>by rw [d] at z; cases z⟩
 keep:=fun i h h' st k=>st.at fun o e=>k it (by simp) o e
 item:=by
  intro X hP hw hK hc i pins s σ H E I hf st hg;subst hP hw hK;obtain ⟨xs,x,hq,hx⟩:=hg;obtain ⟨its,rv,p,hz⟩:=I.tuple hq;obtain ⟨u,hu,ru⟩:=rv.get hx;obtain ⟨f0,f1,f2,f3,f4,f5⟩:=hf it (by simp);refine wpAny_pyNext_tuple_item st (show s.heap.IsTuple a its.toArray from p) (x:=u) (by simpa using hu) fun h' st' sb=>?_;have I1:aG X pins σ H { s with heap:=h' }:=I.turned (t':=s.toks) (fun b o hb e=>(sb.2 b hb).trans e) f0 f1 f3 f4 f5;obtain ⟨o,e,c,d⟩:=id st';exact ⟨u,rfl,Ra (s:={ s with heap:=h' }) e c d (by decide) ⟨x,H,I1,ru,⟨rfl,fun ys hy=>by rw [I.tuple_inj hy hq]; exact hx⟩,st',fun b hb=>(hf b hb).1⟩⟩
 done:=by
  intro X hP hw hK hc i pins s σ H E I hf st hg;subst hP hw hK;obtain ⟨xs,hq,hx⟩:=hg;obtain ⟨its,rv,p,hz⟩:=I.tuple hq;obtain ⟨f0,f1,f2,f3,f4,f5⟩:=hf it (by simp);have hl:=rv.length;exact wpAny_pyNext_tuple_end (I.ok.hd hc) st (show s.heap.IsTuple a its.toArray from p) (by simp; omega) fun h' eb=>⟨rfl,I.turned (t':=s.toks) (fun b o hb e=>eb b o hb e) f0 f1 f3 f4 f5⟩
 self:=fun _ _ _ _ _ st h=>wpAny_pyIter_tupleiter st h
theorem Rq {P:Program} {w:World} {K:PySem.W.Frag} {tg:Expr} (it:Addr) (lo:Int) (n:Nat):pZ P w K tg (sR lo n) [it] it (fun i h=>IsRangeIter h it (lo+(i:Nat)*1) ((n:Int) - (i:Nat)) 1) where
 mem:=by simp
 obj:=fun i h st b hb=>by
  have e:b=it:=by simpa using hb
  subst e;exact ⟨_,st,fun v z=>by
   have z':Data.fields _=Data.cell v:=z;cases z'⟩
 keep:=fun i h h' st k=>k it (by simp) _ st
 item:=by
  intro X hP hw hK hc i pins s σ H E I hf st hg;subst hP hw hK;obtain ⟨f0,f1,f2,f3,f4,f5⟩:=hf it (by simp);have W:=Walks.range (prog:=X.prog) (w:=X.w) (I.ok.hd hc) it lo 1 n;refine W.item i s _ _ hg st fun v h' tk hv st' kk=>?_;obtain ⟨t,rfl⟩:=hv;have I1:aG X pins σ H { s with heap:=h',toks:=tk }:=I.turned (fun b o hb e=>kk b o (by simpa using hb) e) f0 f1 f3 f4 f5;refine ⟨_,rfl,Ra (s:={ s with heap:=h',toks:=tk }) (n:="range_iterator") st' rfl rfl (by decide) ⟨.int (lo+i),H,I1,⟨t,?_⟩,⟨rfl,rfl⟩,st',fun b hb=>(hf b hb).1⟩⟩;rw [Int.mul_one]
 done:=by
  intro X hP hw hK hc i pins s σ H E I hf st hg;subst hP hw hK;obtain ⟨f0,f1,f2,f3,f4,f5⟩:=hf it (by simp);exact wpAny_pyNext_range_end (I.ok.hd hc) st (by have:n≤i:=hg; omega) fun h' eb=>⟨rfl,I.turned (t':=s.toks) (fun b o hb e=>eb b o hb e) f0 f1 f3 f4 f5⟩
 self:=fun _ _ _ _ _ st h=>wpAny_pyIter_rangeiter st h
end L2
namespace L2
open PySem PySem.Spec PyProof.Rows
section
variable {X:Cx} {tg:Expr}
theorem Zh {pins:List (Addr × Obj)} {σ:St} {H:Hp} {s:Shared} {R:It→Hp→Prop} {E:Value→Shared→Prop} {lo hi:Int} {t u v:Tok} {tk:Nat} (I:aG X pins σ H s) (h1:-(2 ^ 62)≤lo) (h2:lo < 2 ^ 62) (h3:-(2 ^ 62)≤hi) (h4:hi < 2 ^ 62)
  (q:R (sR lo (hi - lo).toNat) H):wpAny (model X.prog X.w) X.A (pyIter (.ref s.heap.objs.size)) (Lo X pins σ tg R) E { s with heap:=s.heap.push { cls:=.type "range",data:=.fields #[.int lo t,.int hi u,.int 1 v] },toks:=tk }:=by
 refine wpAny_pyIter_range (IsRange.new ..) (small_one h1 h2 h3 h4) ?_;have I1:aG X pins σ H { s with heap:=s.heap.push { cls:=.type "range",data:=.fields #[.int lo t,.int hi u,.int 1 v] },toks:=tk }:=I.kept fun b o e=>Heap.get?_push_of_some _ e;refine ⟨(s.heap.push { cls:=.type "range",data:=.fields #[.int lo t,.int hi u,.int 1 v] }).objs.size,[(s.heap.push { cls:=.type "range",data:=.fields #[.int lo t,.int hi u,.int 1 v] }).objs.size],_,_,H,rfl,
  I1.kept (t':=tk) fun b o e=>Heap.get?_push_of_some _ e,Rq _ lo (hi - lo).toNat,?_,fun b hb=>?_,q⟩
 ·have e1:lo+((0:Nat):Int)*1=lo:=by simp
  have e2:(((hi - lo).toNat:Nat):Int) - ((0:Nat):Int)=Builtin.Range.rangeSize lo hi 1:=by rw [rangeSize_one]; split <;> omega
  show IsRangeIter _ _ (lo+((0:Nat):Int)*1) ((((hi - lo).toNat:Nat):Int) - ((0:Nat):Int)) 1;rw [e1,e2];exact Heap.get?_push_size _ rfl
 ·have e:b=(s.heap.push { cls:=.type "range",data:=.fields #[.int lo t,.int hi u,.int 1 v] }).objs.size:=by simpa using hb
  subst e;exact I1.fpOk (Nat.le_refl _) (I1.hok.fresh (Nat.le_refl _))
def O7 (ta:TA):TI:=fun σ H R=>ta σ H fun vs H1=>∃ j:Int,vs=[.int j]∧-(2 ^ 62)≤j∧j < 2 ^ 62∧R (sR 0 j.toNat) H1
def Q6 (ta:TA):TI:=fun σ H R=>ta σ H fun vs H1=>∃ i j:Int,vs=[.int i,.int j]∧(-(2 ^ 62)≤i∧i < 2 ^ 62∧-(2 ^ 62)≤j∧j < 2 ^ 62)∧R (sR i (j - i).toNat) H1
theorem Rs {a:Expr} {ta:TA} {p pos:Pos} (hg:Gl X "range") (hm:X.mg "range"=none) (ha:PA X [a] ta) (hs:starEach [a] X.env=[(false,eval a X.env)]:=by rfl):PI X tg (.Call (.Name "range" p) [a] [] pos) (O7 ta):=by
 intro pins s σ H R I h;refine Call_ (oA I hg hm boot_range (PyProof.Rows.callWith_type1 (bF (ha pos pins s σ H _ I h) fun us s1 ⟨vs,H1,I1,r1,q1⟩=>?_) hs rfl));obtain ⟨j,e,q1,q2,q⟩:=q1;subst e;cases r1 with
 | cons r rr =>
  cases rr;obtain ⟨t,rfl⟩:=r;exact call_range_1 (Zh I1 (by omega) (by omega) q1 q2 (by simpa using q))
theorem Rr {a b:Expr} {ta:TA} {p pos:Pos} (hg:Gl X "range") (hm:X.mg "range"=none) (ha:PA X [a,b] ta) (hs:starEach [a,b] X.env=[(false,eval a X.env),(false,eval b X.env)]:=by rfl) (hs2:starEach [b] X.env=[(false,eval b X.env)]:=by rfl) :
  PI X tg (.Call (.Name "range" p) [a,b] [] pos) (Q6 ta):=by
 intro pins s σ H R I h;refine Call_ (oA I hg hm boot_range (PyProof.Rows.callWith_type1 (bF (ha pos pins s σ H _ I h) fun us s1 ⟨vs,H1,I1,r1,q1⟩=>?_) (by rw [hs,hs2]) (by rw [hs2]; rfl)));obtain ⟨i,j,e,⟨q1,q2,q3,q4⟩,q⟩:=q1;subst e;cases r1 with
 | cons r rr =>
  cases rr with
  | cons r' rr =>
   cases rr;obtain ⟨t,rfl⟩:=r;obtain ⟨t',rfl⟩:=r';exact call_range_2 (Zh I1 q1 q2 q3 q4 q)
def Z4 (wi:TI) (g:TG) (tb:TS):TS:=fun D σ H=>wi σ H fun J H1=>∃ W:Nat→Nat→St→Hp→Prop,(∃ m,W 0 m σ H1)∧∀ i m σ H,W i m σ H →
 (J.stop i H∧D.nx σ H)∨(J.go i H∧∃ N:St→Hp→Prop,(∀ σ' H',N σ' H'→∃ m',m' < m∧W (i+1) m' σ' H')∧∀ x H',J.yld i H x H'→g x σ H' fun σ2 H2=>tb { D with nx:=N,ct:=N,bk:=D.nx } σ2 H2)
def uF (fp:List Addr) (h:Heap):List (Addr × Obj):=fp.filterMap fun b=>(h.get? b).map fun o=>(b,o)
theorem kK {fp:List Addr} {h:Heap} {b:Addr} {o:Obj} (hb:b∈fp) (e:h.get? b=some o):(b,o)∈uF fp h:=List.mem_filterMap.mpr ⟨b,hb,by rw [e]; rfl⟩
theorem Fs {fp:List Addr} {h:Heap} {p:Addr × Obj} (hp:p∈uF fp h):p.1∈fp∧h.get? p.1=some p.2:=by
 obtain ⟨b,hb,e⟩:=List.mem_filterMap.mp hp;cases q:h.get? b with
 | none=>rw [q] at e; cases e
 | some o =>
  rw [q] at e;have e':(b,o)=p:=Option.some.inj e;subst e';exact ⟨hb,q⟩
theorem aG.pinned {pins:List (Addr × Obj)} {σ:St} {H:Hp} {s:Shared} {fp:List Addr} (I:aG X pins σ H s) (hf:∀ b∈fp,eW X pins H b) (ho:∀ b∈fp,∃ o,s.heap.get? b=some o∧∀ v,o.data≠.cell v):aG X (pins++uF fp s.heap) σ H s :=
 I.pins_of fun p hp=>(List.mem_append.mp hp).elim (fun z=>I.pin p (List.mem_append_right _ z)) fun z=>by
  obtain ⟨hb,e⟩:=Fs z;obtain ⟨f0,f1,f2,_⟩:=hf p.1 hb;obtain ⟨o,e',d⟩:=ho p.1 hb;rw [e] at e'; cases e';exact ⟨e,f0,f1,f2,d⟩
theorem aG.unpinned {pins pl:List (Addr × Obj)} {σ:St} {H:Hp} {s:Shared} (I:aG X (pins++pl) σ H s):aG X pins σ H s:=I.pins_of fun p hp=>I.pin p (List.mem_append_right _ (List.mem_append_left _ hp))
theorem Sl {iter:Expr} {body:List Stmt} {wi:TI} {g:TG} {tb:TS} {pos:Pos} (hp:PassesOwn (model X.prog X.w) X.A X.env X.xe) (hc:X.calm=true) (hi:PI X tg iter wi) (hg:PG X tg g) (hb:fW X body tb)
  (hs:∀ x,foldedSetIterable iter X.env x=pure x:=by intro _; rfl):PS X (.For tg iter body [] pos) (Z4 wi g tb):=by
 intro pins s σ H D I h;refine wpAny_For (bF (hi pins s σ H _ I h) fun v s1 h1=>bF h1 fun itv s2 h2=>?_) hs;obtain ⟨it,fp,tn,J,H2,e,I2,T,st2,f2,W,⟨m0,w0⟩,turn⟩:=h2;subst e
 -- what stays true of the iterator's objects through the loop
 have stat:∀ {H':Hp},(∀ b∈fp,H' b=none)→∀ b∈fp,eW X pins H' b:=fun hn b hb=>⟨hn b hb,(f2 b hb).2⟩;refine codeAny_forLoop_any (fun n s'=>∃ i σ' H',aG X pins σ' H' s'∧tn i s'.heap∧(∀ b∈fp,H' b=none)∧W i n σ' H') ?_ m0 ⟨0,σ,H2,I2,st2,fun b hb=>(f2 b hb).1,w0⟩
 rintro n s3 ⟨i,σ3,H3,I3,st3,fr3,w3⟩
 rcases turn i n σ3 H3 w3 with ⟨stop,qn⟩ | ⟨go,N,hN,step⟩
 ·refine wpAny_passesOwn hp (bF (T.done X rfl rfl rfl hc i pins s3 σ3 H3 X.xe I3 (stat fr3) st3 stop) fun r s4 ⟨hr,I4⟩=>?_)
  subst hr;exact wpAny_execs_nil ⟨σ3,H3,I4,qn⟩
 ·refine wpAny_passesOwn hp (bF (T.item X rfl rfl rfl hc i pins s3 σ3 H3 X.xe I3 (stat fr3) st3 go) fun r s4 ⟨u,hr,h4⟩=>?_)
  subst hr;refine wpAny_passesOwn hp (bF h4 fun _ s5 ⟨x,H5,I5,r5,y5,st5,fr5⟩=>?_);have I5':=I5.pinned (stat fr5) (T.obj _ _ st5);refine wpAny_passesOwn hp (bF (hg _ s5 σ3 H5 x u _ I5' r5 (step x H5 y5)) fun _ s6 ⟨σ6,H6,I6,q6⟩=>?_);refine wpAny_passesOwn hp (bF (hb _ s6 σ6 H6 _ I6 q6) fun f s7 q7=>?_);have again:∀ {σ7:St} {H7:Hp},aG X (pins++uF fp s5.heap) σ7 H7 s7→N σ7 H7→∃ m,m < n∧∃ i σ' H',aG X pins σ' H' s7∧tn i s7.heap∧(∀ b∈fp,H' b=none)∧W i m σ' H':=fun {σ7 H7} I7 n7=>by
   obtain ⟨m',hm,w7⟩:=hN σ7 H7 n7;refine ⟨m',hm,i+1,σ7,H7,I7.unpinned,T.keep _ _ _ st5 fun b hb o e=>(I7.pin (b,o) (List.mem_append_right _ (List.mem_append_right _ (kK hb e)))).1,fun b hb=>?_,w7⟩;obtain ⟨o,e,d⟩:=T.obj _ _ st5 b hb;exact (I7.pin (b,o) (List.mem_append_right _ (List.mem_append_right _ (kK hb e)))).2.1
  cases f with
  | next=>obtain ⟨σ7,H7,I7,n7⟩:=q7; exact again I7 n7
  | cont=>obtain ⟨σ7,H7,I7,n7⟩:=q7; exact again I7 n7
  | brk=>obtain ⟨σ7,H7,I7,q7⟩:=q7; exact ⟨σ7,H7,I7.unpinned,q7⟩
  | ret v=>obtain ⟨x7,σ7,H7,I7,r7,q7⟩:=q7; exact ⟨x7,σ7,H7,I7.unpinned,r7,q7⟩
end
end L2
namespace L2
open PySem PySem.Spec PyProof.Rows
abbrev R2:=V→V→Hp→VK→Prop
def eF (X:Cx) (f:Value→Value→Sem Value) (r:R2):Prop :=
 ∀ (pins:List (Addr × Obj)) (s:Shared) (σ:St) (H:Hp) (x y:V) (v u:Value) (Q:VK),aG X pins σ H s→bQ x v→bQ y u→r x y H Q →
  wpAny (model X.prog X.w) X.A (f v u) (EP X pins σ Q) X.xe s
def wJ (X:Cx) (f:Value→Sem Value) (r:V→Hp→VK→Prop):Prop :=
 ∀ (pins:List (Addr × Obj)) (s:Shared) (σ:St) (H:Hp) (x:V) (v:Value) (Q:VK),aG X pins σ H s→bQ x v→r x H Q →
  wpAny (model X.prog X.w) X.A (f v) (EP X pins σ Q) X.xe s
def iA (X:Cx) (f:Value) (r:List V→Hp→VK→Prop):Prop :=
 ∀ (pins:List (Addr × Obj)) (s:Shared) (σ:St) (H:Hp) (xs:List V) (us:List Value) (Q:VK),aG X pins σ H s→bC xs us→r xs H Q →
  wpAny (model X.prog X.w) X.A (call f us) (EP X pins σ Q) X.xe s
def vX (r:R2) (ta tb:TE):TE:=fun σ H Q=>ta σ H fun x H1=>tb σ H1 fun y H2=>r x y H2 Q
def tUn (r:V→Hp→VK→Prop) (ta:TE):TE:=fun σ H Q=>ta σ H fun x H1=>r x H1 Q
def rI (C:Int→Int→Prop) (g:Int→Int→V):R2:=fun x y H Q=>∃ i j,x=.int i∧y=.int j∧C i j∧Q (g i j) H
def jB (g:Int→Int→V):R2:=fun x y H Q=>∃ i j,x=.int i∧y=.int j∧Q (g i j) H
def rU (g:Int→V):V→Hp→VK→Prop:=fun x H Q=>∃ i,x=.int i∧Q (g i) H
section
variable {X:Cx} {a b c:Expr} {ta tb tc:TE} {pos:Pos}
theorem Pb (ha:PE X a ta) (hb:PE X b tb) {pins:List (Addr × Obj)} {s:Shared} {σ:St} {H:Hp} {R:V→V→Hp→Prop} (I:aG X pins σ H s)
  (h:ta σ H fun x H1=>tb σ H1 fun y H2=>R x y H2) {Q:Value→Shared→Prop} {f:Value→Value→Sem Value}
  (hf:∀ v u s2 x y H2,aG X pins σ H2 s2→bQ x v→bQ y u→R x y H2→wpAny (model X.prog X.w) X.A (f v u) Q X.xe s2) :
  wpAny (model X.prog X.w) X.A (eval a X.env) (fun v s₁=>wpAny (model X.prog X.w) X.A (eval b X.env) (fun u s₂=>wpAny (model X.prog X.w) X.A (f v u) Q X.xe s₂) X.xe s₁) X.xe s:=by
 refine bF (ha pins s σ H _ I h) fun v s1 ⟨x,H1,I1,r1,q1⟩=>?_;refine bF (hb pins s1 σ H1 _ I1 q1) fun u s2 ⟨y,H2,I2,r2,q2⟩=>?_;exact hf v u s2 x y H2 I2 r1 r2 q2
theorem Oa {op:Operator} {r:R2} (ho:eF X (binaryOp op) r) (ha:PE X a ta) (hb:PE X b tb):PE X (.BinOp a op b pos) (vX r ta tb):=by
 intro pins s σ H Q I h;exact wpAny_BinOp (Pb ha hb I h fun v u s2 x y H2 I2 rx ry q=>ho pins s2 σ H2 x y v u Q I2 rx ry q)
theorem V7 {op:UnaryOp} {r:V→Hp→VK→Prop} (ho:wJ X (unaryOp op) r) (ha:PE X a ta):PE X (.UnaryOp op a pos) (tUn r ta):=by
 intro pins s σ H Q I h;exact UnaryOp_ (bF (ha pins s σ H _ I h) fun v s1 ⟨x,H1,I1,r1,q1⟩=>ho pins s1 σ H1 x v Q I1 r1 q1)
theorem wD {f:Value→Value→Sem Value} {C:Int→Int→Prop} {g:Int→Int→Int}
  (rule:∀ (i j:Int) (t u:Tok) (s:Shared) (Q:Value→Shared→Prop) (E:Value→Shared→Prop),C i j→Q (.int (g i j) s.toks) { s with toks:=s.toks+1 }→wpAny (model X.prog X.w) X.A (f (.int i t) (.int j u)) Q E s) :
  eF X f (rI C fun i j=>.int (g i j)):=by
 intro pins s σ H x y v u Q I rx ry h;obtain ⟨i,j,rfl,rfl,hc,q⟩:=h;obtain ⟨t,rfl⟩:=rx;obtain ⟨t',rfl⟩:=ry;exact rule i j t t' s _ _ hc ⟨.int (g i j),H,I.tok _,⟨_,rfl⟩,q⟩
theorem Sn {f:Value→Value→Sem Value} {g:Int→Int→Int}
  (rule:∀ (i j:Int) (t u:Tok) (s:Shared) (Q:Value→Shared→Prop) (E:Value→Shared→Prop),Q (.int (g i j) s.toks) { s with toks:=s.toks+1 }→wpAny (model X.prog X.w) X.A (f (.int i t) (.int j u)) Q E s) :
  eF X f (jB fun i j=>.int (g i j)):=by
 intro pins s σ H x y v u Q I rx ry h;obtain ⟨i,j,rfl,rfl,q⟩:=h;obtain ⟨t,rfl⟩:=rx;obtain ⟨t',rfl⟩:=ry;exact rule i j t t' s _ _ ⟨.int (g i j),H,I.tok _,⟨_,rfl⟩,q⟩
theorem Xb {f:Value→Value→Sem Value} {g:Int→Int→Bool}
  (rule:∀ (i j:Int) (t u:Tok) (s:Shared) (Q:Value→Shared→Prop) (E:Value→Shared→Prop),Q (.bool (g i j)) s→wpAny (model X.prog X.w) X.A (f (.int i t) (.int j u)) Q E s) :
  eF X f (jB fun i j=>.bl (g i j)):=by
 intro pins s σ H x y v u Q I rx ry h;obtain ⟨i,j,rfl,rfl,q⟩:=h;obtain ⟨t,rfl⟩:=rx;obtain ⟨t',rfl⟩:=ry;exact rule i j t t' s _ _ ⟨.bl (g i j),H,I,rfl,q⟩
def vN (i j:Int):Prop:=0≤j∧j≤1000000∧i.natAbs < 2 ^ 64
def Wb (i j:Int):Prop:=(-(2 ^ 64) < i∧i < 2 ^ 64)∨(-(2 ^ 64) < j∧j < 2 ^ 64)
theorem Wb.ok {i j:Int} (h:Wb i j):IntMulOk i j:=by
 rcases h with ⟨h1,h2⟩ | ⟨h1,h2⟩
 ·exact .of_left (intBits_le_64 h1 h2)
 ·exact .of_right (intBits_le_64 h1 h2)
theorem O0:eF X (binaryOp .Add) (jB fun i j=>.int (i+j)):=Sn fun _ _ _ _ _ _ _ q=>add_int q
theorem Im:eF X (binaryOp .Sub) (jB fun i j=>.int (i - j)):=Sn fun _ _ _ _ _ _ _ q=>sub_int q
theorem A5:eF X (binaryOp .Mod) (rI (fun _ j=>j≠0) fun i j=>.int (i.fmod j)):=wD fun _ _ _ _ _ _ _ hc q=>mod_int' hc q
theorem M9:eF X (binaryOp .Pow) (rI vN fun i j=>.int (i ^ j.toNat)):=wD fun _ _ _ _ _ _ _ hc q=>pow_int_small hc.1 hc.2.1 hc.2.2 q
theorem unI {f:Value→Sem Value} {g:Int→Int}
  (rule:∀ (i:Int) (t:Tok) (s:Shared) (Q:Value→Shared→Prop) (E:Value→Shared→Prop),Q (.int (g i) s.toks) { s with toks:=s.toks+1 }→wpAny (model X.prog X.w) X.A (f (.int i t)) Q E s) :
  wJ X f (rU fun i=>.int (g i)):=by
 intro pins s σ H x v Q I rx h;obtain ⟨i,rfl,q⟩:=h;obtain ⟨t,rfl⟩:=rx;exact rule i t s _ _ ⟨.int (g i),H,I.tok _,⟨_,rfl⟩,q⟩
theorem F5:wJ X (unaryOp .USub) (rU fun i=>.int (-i)):=unI fun _ _ _ _ _ q=>neg_int q
end
section
variable {X:Cx} {a b c:Expr} {ta tb tc:TE} {pos:Pos}
theorem Jn:eF X (compareOp .Lt) (jB fun i j=>.bl (decide (i < j))):=Xb fun _ _ _ _ _ _ _ q=>lt_int q
theorem On:eF X (compareOp .Gt) (jB fun i j=>.bl (decide (j < i))):=Xb fun _ _ _ _ _ _ _ q=>gt_int q
theorem Cn:eF X (compareOp .GtE) (jB fun i j=>.bl (decide (j≤i))):=Xb fun _ _ _ _ _ _ _ q=>ge_int q
theorem eF.or {f:Value→Value→Sem Value} {r r':R2} (h:eF X f r) (h':eF X f r'):eF X f (fun x y H Q=>r x y H Q∨r' x y H Q):=by
 intro pins s σ H x y v u Q I rx ry q;rcases q with q | q
 ·exact h pins s σ H x y v u Q I rx ry q
 ·exact h' pins s σ H x y v u Q I rx ry q
theorem kO (b:Expr) {op:CmpOp} (h:op≠.In:=by decide) (h2:op≠.NotIn:=by decide):behindInMarks op b=false:=by
 have e1:(op == CmpOp.In)=false:=by cases op <;> first | rfl | exact absurd rfl h
 have e2:(op == CmpOp.NotIn)=false:=by cases op <;> first | rfl | exact absurd rfl h2
 cases b <;> simp [behindInMarks,e1,e2]
theorem Uw {op:CmpOp} {r:R2} (ho:eF X (compareOp op) r) (ha:PE X a ta) (hb:PE X b tb) (hm:behindInMarks op b=false):PE X (.Compare a [op] [b] pos) (vX r ta tb):=by
 intro pins s σ H Q I h;exact wpAny_Compare1 (Pb ha hb I h fun v u s2 x y H2 I2 rx ry q=>ho pins s2 σ H2 x y v u Q I2 rx ry q) hm
def U3 (t:TE):TT:=fun σ H Q=>t σ H fun x H'=>∃ k,x=.bl k∧Q k H'
theorem Pz {op:CmpOp} {r:R2} (ho:eF X (compareOp op) r) (ha:PE X a ta) (hb:PE X b tb) (hm:behindInMarks op b=false):PT X (.Compare a [op] [b] pos) (U3 (vX r ta tb)):=by
 intro pins s σ H Q I h;refine wpAny_isTrue_Compare1 (bF (ha pins s σ H _ I h) fun v s1 ⟨x,H1,I1,r1,q1⟩=>bF (hb pins s1 σ H1 _ I1 q1) fun u s2 ⟨y,H2,I2,r2,q2⟩ =>
  bF (ho pins s2 σ H2 x y v u _ I2 r1 r2 q2) fun c s3 ⟨z,H3,I3,r3,k,e,q3⟩=>?_) hm
 subst e;cases r3;exact wpAny_truthy_bool ⟨H3,I3,q3⟩
theorem rT:(sizeLine:Nat) < 2 ^ 63:=by rw [sizeLine_eq]; decide
theorem jL {x:V} {us:List Value} (r:bC [x] us):∃ u,us=[u]∧bQ x u:=by
 cases r with
 | cons r1 r2=>cases r2; exact ⟨_,rfl,r1⟩
theorem Gn {x y:V} {us:List Value} (r:bC [x,y] us):∃ u w',us=[u,w']∧bQ x u∧bQ y w':=by
 cases r with
 | cons r1 r2 =>
  cases r2 with
  | cons r3 r4=>cases r4; exact ⟨_,_,rfl,r1,r3⟩
theorem Qt:iA X (.builtin "abs") (fun xs H Q=>∃ i,xs=[.int i]∧Q (.int (if i < 0 then -i else i)) H):=by
 intro pins s σ H xs us Q I r h;obtain ⟨i,rfl,q⟩:=h;obtain ⟨u,rfl,t,rfl⟩:=jL r;exact call_abs_int fun u tk=>⟨.int (if i < 0 then -i else i),H,I.tok _,⟨_,rfl⟩,q⟩
theorem Ur:iA X (.type "int") (fun xs H Q=>(∃ i,xs=[.int i]∧Q (.int i) H)∨∃ k,xs=[.bl k]∧Q (.int (if k then 1 else 0)) H):=by
 intro pins s σ H xs us Q I r h;rcases h with ⟨i,rfl,q⟩ | ⟨k,rfl,q⟩
 ·obtain ⟨u,rfl,t,rfl⟩:=jL r
  exact call_int_int ⟨.int i,H,I,⟨_,rfl⟩,q⟩
 ·obtain ⟨u,rfl,r1⟩:=jL r
  cases r1;exact call_int_bool ⟨.int (if k then 1 else 0),H,I.tok _,⟨_,rfl⟩,q⟩
end
end L2
namespace L2
open PySem PySem.Spec PyProof.Rows
structure Sb (h:Heap) (x dx C:Addr) (mA:Str→Option Value):Prop where
 obj:h.get? x=some (PySem.W.instObj C dx)
 ns:h.Ns1 dx mA
 ne:dx≠x
theorem Ys {h:Heap} {dx:Addr} {mA:Str→Option Value} (n:h.Ns1 dx mA):∃ od,h.get? dx=some od∧∀ name,PySem.W.lookIn name od=some (mA name):=by
 obtain ⟨o,es,ep,ho,hd,hk,_,hm⟩:=n;refine ⟨o,ho,fun name=>?_⟩;have e:=hm name;unfold nsFind findBy at e;rw [← Array.find?_toList] at e;unfold PySem.W.lookIn;rw [hd];dsimp only;split
 ·rename_i y q
  rw [q] at e;exact congrArg some e
 ·rename_i q
  rw [q] at e;have a:es.toList.any (·.refKey)=false:=by
   rw [List.any_eq_false];intro y hy;obtain ⟨z,t,hkey⟩:=hk y (Array.mem_toList_iff.mp hy);simp [DictEntry.refKey,hkey]
  have a':¬ es.toList.any (·.refKey)=true:=by rw [a]; exact Bool.false_ne_true
  rw [if_neg a'];exact congrArg some e
theorem Sb.look {h:Heap} {x dx C:Addr} {mA:Str→Option Value} (I:Sb h x dx C mA):∃ od,PySem.W.InstAt h x (PySem.W.instObj C dx) C (some od)∧∀ name,PySem.W.lookIn name od=some (mA name) :=
 let ⟨od,ho,hl⟩:=Ys I.ns
 ⟨od,⟨I.obj,rfl,rfl,ho⟩,hl⟩
section
variable {prog:Program} {w:World} {A:Around} {E:Value→Shared→Prop} {s:Shared} {K:PySem.W.Frag} {x dx C f:Addr} {mA:Str→Option Value} {name:Str} {v:Value}
end
section
variable {P:Program} {w:World} {H H':Hp} {h h':Heap} {a C dx:Addr} {fs fs':List (Str × V)}
theorem Gy (hok:eU P w H h) (e:H a=some (.ins C dx fs)):∃ mA,Sb h a dx C mA∧(∀ f,Ob (fs.lookup f) (mA f))∧PySem.Within mA (fs.map (·.1))∧fs.length≤1000∧H dx=some (.own a):=by
 obtain ⟨d,z,ne,ob,mA,n,r,q⟩:=(show fJ P w H h a (.ins C dx fs) from hok a _ e);exact ⟨mA,⟨ob,n,ne⟩,r,q,z,d⟩
end
structure Cc (K:PySem.W.Frag) (C:Addr):Prop where
 pg:PySem.W.plainGet K C Str.empty=true
 hd:PySem.W.hasDictIn K C=true
 po:PySem.W.plainOver K C=true
 sa:PySem.W.findIn K (.ref C) "__setattr__"=some (some (.builtin "object.__setattr__"))
theorem Cc.get {K:PySem.W.Frag} {C:Addr} (c:Cc K C) (f:Str):PySem.W.plainGet K C f=true:=c.pg
structure cG (K:PySem.W.Frag) (C:Addr) (f:Str) (v:V) (u:Value):Prop where
 at_:PySem.W.findIn K (.ref C) f=some (some u)
 rel:bQ v u
 get:PySem.W.specialIn K u "__get__"=some none
 cp:PySem.W.copiedNames.contains f=false
section
variable {X:Cx} {pins:List (Addr × Obj)} {σ:St} {H:Hp} {s:Shared} {a C dx:Addr} {fs:List (Str × V)} {f:Str} {v:V} {A:Around} {E:Value→Shared→Prop}
end
section
variable {X:Cx} {o e value:Expr} {f:Str} {pos pos' tpos:Pos} {ta tv:TE}
end
section
variable {X:Cx} {pins:List (Addr × Obj)} {σ:St} {H:Hp} {s:Shared} {A:Around} {E:Value→Shared→Prop} {Q:Value→Shared→Prop} {c:Value} {b:Bool}
inductive jA (K:PySem.W.Frag) (H:Hp):V→Value→Prop where
 | non:jA K H .non (.type "NoneType")
 | bl (x:Bool):jA K H (.bl x) (.type "bool")
 | int (i:Int):jA K H (.int i) (.type "int")
 | str (x:Str):jA K H (.str x) (.type "str")
 | flt (x:UInt64):jA K H (.flt x) (.type "float")
 | lst {a:Addr} {xs:List V} (e:H a=some (.lst xs)):jA K H (.ref a) (.type "list")
 | frz {a:Addr} {o:Obj} {xs:List V} (e:H a=some (.frz o (.lst xs))):jA K H (.ref a) (.type "list")
 | tup {a:Addr} {xs:List V} (e:H a=some (.tup xs)):jA K H (.ref a) (.type "tuple")
 | dK {a:Addr} {kvs:List (gG × V)} (e:H a=some (.dK kvs)):jA K H (.ref a) (.type "dict")
 | dT {a:Addr} {kvs:List (List gG × V)} (e:H a=some (.dT kvs)):jA K H (.ref a) (.type "dict")
 | ins {a C dx:Addr} {fs:List (Str × V)} (e:H a=some (.ins C dx fs)) (cl:Cc K C) (ha:PySem.W.findIn K (.ref C) "__class__"=some (some (.builtin "object.__class__")))
   (hn:PySem.W.specialIn K (.builtin "object.__class__") "__get__"=some (some (.builtin "getset_descriptor.__get__"))) (htk:PySem.W.takesIn K (.builtin "object.__class__")=some true)
   (hm:PySem.W.mroIn K C (.type "object")=some true):jA K H (.ref a) (.ref C)
theorem Yr {x:V} {u t:Value} (I:aG X pins σ H s) (rx:bQ x u) (ty:jA X.K H x t) (e:PySem.W.kitOne X.K t c=some b) (h:∀ tk,Q (.bool b) { s with toks:=tk }) :
  wpAny (model X.prog X.w) A (call (.builtin "isinstance") [u,c]) Q E s:=by
 cases ty with
 | non=>cases (show u=Value.none from rx); exact PySem.W.kia_one PySem.W.kitx_none I.kIn True.intro e (fun z=>nomatch z) h
 | bl y=>cases (show u=Value.bool y from rx); exact PySem.W.kia_one PySem.W.kitx_bool I.kIn True.intro e (fun z=>nomatch z) h
 | int i=>obtain ⟨t,q⟩:=(show ∃ t,u=Value.int i t from rx); cases q; exact PySem.W.kia_one PySem.W.kitx_int I.kIn True.intro e (fun z=>nomatch z) h
 | str y=>obtain ⟨t,q⟩:=(show ∃ t,u=Value.str y t from rx); cases q; exact PySem.W.kia_one PySem.W.kitx_str I.kIn True.intro e (fun z=>nomatch z) h
 | flt y=>obtain ⟨t,q⟩:=(show ∃ t,u=Value.float y t from rx); cases q; exact PySem.W.kia_one PySem.W.kitx_float I.kIn True.intro e (fun z=>nomatch z) h
 | @lst a xs ea =>
  cases (show u=Value.ref a from rx);obtain ⟨_,_,n,_,h1⟩:=(show fJ X.prog X.w H s.heap a (.lst xs) from I.hok a _ ea);exact PySem.W.kia_one PySem.W.kitx_list I.kIn ⟨_,h1,rfl⟩ e (fun z=>nomatch z) h
 | @frz a ob xs ea =>
  cases (show u=Value.ref a from rx);obtain ⟨_,_,_,n,_,h1⟩:=(show fJ X.prog X.w H s.heap a (.frz ob (.lst xs)) from I.hok a _ ea);exact PySem.W.kia_one PySem.W.kitx_list I.kIn ⟨_,h1,rfl⟩ e (fun z=>nomatch z) h
 | @tup a xs ea =>
  cases (show u=Value.ref a from rx);obtain ⟨_,_,_,p⟩:=(show fJ X.prog X.w H s.heap a (.tup xs) from I.hok a _ ea);obtain ⟨o,h1,h2,_⟩:=p;exact PySem.W.kia_one PySem.W.kitx_tuple I.kIn ⟨o,h1,h2⟩ e (fun z=>nomatch z) h
 | @dK a kvs ea =>
  cases (show u=Value.ref a from rx);obtain ⟨_,_,vs,_,p⟩:=(show fJ X.prog X.w H s.heap a (.dK kvs) from I.hok a _ ea);obtain ⟨o,es,ep,h1,h2,_⟩:=p;exact PySem.W.kia_one PySem.W.kitx_dict I.kIn ⟨o,h1,h2.1⟩ e (fun z=>nomatch z) h
 | @dT a kvs ea =>
  cases (show u=Value.ref a from rx);obtain ⟨_,_,xs,_,o,es,ep,h1,h2,_⟩:=(show fJ X.prog X.w H s.heap a (.dT kvs) from I.hok a _ ea);exact PySem.W.kia_one PySem.W.kitx_dict I.kIn ⟨o,h1,h2.1⟩ e (fun z=>nomatch z) h
 | @ins a C dx fs ea cl ha hn htk hm =>
  cases (show u=Value.ref a from rx);obtain ⟨mA,O,_⟩:=Gy I.hok ea;obtain ⟨od,J,_⟩:=O.look;exact PySem.W.kia_one (PySem.W.kitx_own (cl.get _) cl.hd ha hn htk hm) I.kIn J e (fun z=>nomatch z) h
end
end L2
namespace L2
open PySem PySem.Spec PyProof.Rows
structure eH (k:Nat) (A:Around):Prop where
 hd:A.handled=none
 dp:A.depth+3*k+5 < recursionLimit
 un:A.units+16*k+200 < cLine
theorem eH.mono {j k:Nat} {A:Around} (r:eH k A) (h:j≤k):eH j A:=⟨r.hd,by have:=r.dp; omega,by have:=r.un; omega⟩
theorem eH.deeper {k:Nat} {A:Around} (r:eH (k+1) A) (env:Env):eH k (A.deeper env) :=
 ⟨r.hd,by have:=r.dp; show A.depth+1+3*k+5 < _; omega,by have:=r.un; show A.units+3+16*k+200 < _; omega⟩
theorem eH.depth {k:Nat} {A:Around} (r:eH k A):A.depth < recursionLimit:=by have:=r.dp; omega
theorem eH.units {k:Nat} {A:Around} (r:eH k A):A.units+64 < cLine:=by have:=r.un; omega
def aav:TA:=fun _ H Q=>Q [] H
def O5 (ta:TE) (tr:TA):TA:=fun σ H Q=>ta σ H fun x H1=>tr σ H1 fun xs H2=>Q (x :: xs) H2
section
variable {X:Cx} {e:Expr} {es:List Expr} {te:TE} {t:TA} {pos:Pos}
theorem rS:PA X [] aav:=fun _ _ _ _ H Q I h=>Calls.spliced_nil ⟨[],H,I,.nil,h⟩
theorem pH (ha:PE X e te) (hr:PA X es t) (hs:starEach (e :: es) X.env=(false,eval e X.env) :: starEach es X.env:=by rfl):PA X (e :: es) (O5 te t):=by
 intro pos pins s σ H Q I h;rw [hs];show wpAny _ _ (spliced ((false,eval e X.env) :: backTo pos (starEach es X.env))) _ _ s;refine Calls.spliced_cons (bF (ha pins s σ H _ I h) fun u s1 ⟨x,H1,I1,r1,q1⟩=>?_);exact bF (hr pos pins s1 σ H1 _ I1 q1) fun us s2 ⟨xs,H2,I2,r2,q2⟩=>⟨x :: xs,H2,I2,.cons r1 r2,q2⟩
def aab (t:TA):TE:=fun σ H Q=>t σ H fun xs H1=>xs.length≤sizeLine∧∀ p,H1 p=none→Q (.ref p) (aT H1 p (.tup xs))
def aaB (t:TA):TE:=fun σ H Q=>t σ H fun xs H1=>xs.length≤sizeLine∧∀ p,H1 p=none→Q (.ref p) (aT H1 p (.lst xs))
theorem K6 {x1} (h:PA X es t):PE X (.Tuple es x1 pos) (aab t):=by
 intro pins s σ H Q I hq;refine wpAny_Tuple_spliced (bF (h pos pins s σ H _ I hq) fun us s1 ⟨xs,H1,I1,r,z,q⟩=>⟨by rw [← r.length]; exact z,?_⟩);have hf:H1 s1.heap.objs.size=none:=I1.hok.fresh (Nat.le_refl _);refine ⟨.ref s1.heap.objs.size,aT H1 s1.heap.objs.size (.tup xs),I1.laid (t':=s1.toks) (fun b u e=>Heap.get?_push_of_some _ e) (Nat.le_refl _) ?_,rfl,q _ hf⟩;exact ⟨z,us,r,⟨_,Heap.get?_push_size _ rfl,rfl,_,rfl⟩⟩
theorem zS (h:PA X es t):PE X (.List es pos) (aaB t):=by
 intro pins s σ H Q I hq;refine wpAny_List_spliced (bF (h pos pins s σ H _ I hq) fun us s1 ⟨xs,H1,I1,r,z,q⟩=>⟨by rw [← r.length]; exact z,?_⟩);have hf:H1 s1.heap.objs.size=none:=I1.hok.fresh (Nat.le_refl _);refine ⟨.ref s1.heap.objs.size,aT H1 s1.heap.objs.size (.lst xs),I1.laid (t':=s1.toks) (fun b u e=>Heap.get?_push_of_some _ e) (Nat.le_refl _) ?_,rfl,q _ hf⟩;exact ⟨z,us,0,r,Heap.get?_push_size _ rfl⟩
end
abbrev Sp:=List V→Hp→VK→XK→Prop
abbrev iR:=List Env→Hp→Shared→XK→Value→Shared→Prop
structure vD (P:Program) (w:World) (K:PySem.W.Frag) (mg:Str→Option Value) (base:Heap) (A:Around) (outer:List Env) (s:Shared) (H:Hp):Prop where
 frames:A.frames=some outer
 mod:Mod K mg base
 bs:∀ b o,base.get? b=some o→s.heap.get? b=some o∧H b=none
 bsz:base.objs.size≤s.heap.objs.size
 funs:s.heap.FunFrames base outer
 frf:∀ b∈fT outer,H b=none
 hok:eU P w H s.heap
 bare:AllBare s.gens
def CE (outer:List Env) (P:Program) (w:World) (H:Hp) (s:Shared) (Q:VK) (u:Value) (s':Shared):Prop :=
 ∃ v H',s'.os=s.os∧AllBare s'.gens∧Un (fT outer) [] H H' s.heap s'.heap∧eU P w H' s'.heap∧bQ v u∧Q v H'
def CR (CX:iR) (outer:List Env) (P:Program) (w:World) (H:Hp) (s:Shared) (Q:VK) (E:XK) (r:Result) (s':Shared):Prop :=
 match r with
 | .ok (.ret u)=>CE outer P w H s Q u s'
 | .ok _=>False
 | .error e=>CX outer H s E e s'
structure fR (P:Program) (w:World) (K:PySem.W.Frag) (mg:Str→Option Value) (base:Heap) (CX:iR) (k:Nat) (f:Addr) (fd:FuncData) (ps:List Str) (sp:Sp):Prop where
 len:∀ vs H Q E,sp vs H Q E→vs.length=ps.length
 run:∀ (A:Around) (outer:List Env) (s:Shared) (H:Hp) (args:Args) (us:List Value) (vs:List V) (Q:VK) (E:XK),eH k A→vD P w K mg base A outer s H→BindsTo s fd args (ps.zip us)→bC vs us→sp vs H Q E →
  codeAny (model P w) A (.call (.ref f) args) (CR CX outer P w H s Q E) s
theorem fR.imp {P:Program} {w:World} {K:PySem.W.Frag} {mg:Str→Option Value} {base:Heap} {CX:iR} {k:Nat} {f:Addr} {fd:FuncData} {ps:List Str} {sp sp':Sp} (F:fR P w K mg base CX k f fd ps sp)
  (h:∀ vs H Q E,sp' vs H Q E→sp vs H Q E):fR P w K mg base CX k f fd ps sp' :=
 ⟨fun vs H Q E q=>F.len vs H Q E (h _ _ _ _ q),fun A outer s H args us vs Q E hr he hb hv hs=>F.run A outer s H args us vs Q E hr he hb hv (h _ _ _ _ hs)⟩
section
variable {X:Cx} {pins:List (Addr × Obj)} {σ:St} {H:Hp} {s s':Shared}
theorem aG.env0 (I:aG X pins σ H s):vD X.prog X.w X.K X.mg X.base X.A X.stack s H :=
 ⟨I.ok.frames,I.ok.mod,I.bs,Nat.le_trans I.ok.bsz I.sz,I.stack,I.stkFree,I.hok,I.bare⟩
theorem aG.after {Q:VK} {u:Value} (I:aG X pins σ H s) (h:CE X.stack X.prog X.w H s Q u s'):EP X pins σ Q u s':=by
 obtain ⟨v,H',os,bare,un,hok,r,q⟩:=h;obtain ⟨hh,g,d,t,os'⟩:=s';obtain rfl:os'=s.os:=os;exact ⟨v,H',I.call (h':=hh) (g':=g) (d':=d) (t':=t) (ch:=[]) un hok bare (fun b z=>absurd z (by simp)),r,q⟩
end
def X8 (sp:Sp) (dvs:List V) (E:XK) (t:TA):TE:=fun σ H Q=>t σ H fun vs H1=>sp (vs++dvs) H1 Q E
def lU (K:PySem.W.Frag) (fd:FuncData) (ps:List Str) (ds:List Value):Prop :=
 ∀ (s:Shared) (us:List Value),K.In s.heap→(us++ds).length=ps.length→BindsTo s fd ⟨us,[]⟩ (ps.zip (us++ds))
theorem lU.all {K:PySem.W.Frag} {fd:FuncData} {ps:List Str} (h:∀ us:List Value,us.length=ps.length→bindArgs fd ⟨us,[]⟩=pure (ps.zip us)):lU K fd ps []:=fun s us _ hl=>by
 rw [List.append_nil] at hl ⊢;exact .of_eq (h us hl)
def Ba (CX:iR) (X:Cx) (E:XK):Prop:=∀ (pins:List (Addr × Obj)) (σ:St) (H:Hp) (s:Shared) (e:Value) (s':Shared),aG X pins σ H s→CX X.stack H s E e s'→X.xe e s'
section
variable {X:Cx} {CX:iR} {k:Nat} {f C:Addr} {fd:FuncData} {ps:List Str} {sp:Sp} {dvs:List V} {ds:List Value} {E:XK} {x m:Str} {p pos apos:Pos} {e o:Expr} {es:List Expr} {ta:TE} {t:TA}
theorem E1 {pins:List (Addr × Obj)} {σ:St} {H:Hp} {s:Shared} {Q:VK} {us:List Value} {vs:List V} (F:fR X.prog X.w X.K X.mg X.base CX k f fd ps sp) (hr:eH k X.A) (hb:lU X.K fd ps ds) (hd:bC dvs ds) (hx:Ba CX X E)
  (I:aG X pins σ H s) (r:bC vs us) (h:sp (vs++dvs) H Q E):wpAny (model X.prog X.w) X.A (call (.ref f) us) (EP X pins σ Q) X.xe s:=by
 have r2:bC (vs++dvs) (us++ds):=r.append hd;have hl:(us++ds).length=ps.length:=by rw [← r2.length]; exact F.len _ _ _ _ h
 refine wpAny_call (codeAny_mono (F.run X.A X.stack s H ⟨us,[]⟩ (us++ds) (vs++dvs) Q E hr I.env0 (hb s us I.kIn hl) r2 h) fun r s' hq=>?_);cases r with
 | error e=>exact hx pins σ H s e s' I hq
 | ok fl =>
  cases fl with
  | ret u=>exact I.after hq
  | next=>exact False.elim hq
  | brk=>exact False.elim hq
  | cont=>exact False.elim hq
theorem yY (F:fR X.prog X.w X.K X.mg X.base CX k f fd ps sp) (hr:eH k X.A) (hg:Gl X x) (hm:X.mg x=some (.ref f)) (hk:PySem.W.keepIn X.K (.ref f)=true) (hb:lU X.K fd ps ds) (hd:bC dvs ds) (hx:Ba CX X E)
  (ha:PA X (e :: es) t) (hdb:(x == ("__debug__":Str))=false:=by decide) (he:starEach (e :: es) X.env=(false,eval e X.env) :: starEach es X.env:=by rfl) (hpl:(backTo pos (starEach es X.env)).any (·.1)=false:=by rfl) :
  PE X (.Call (.Name x p) (e :: es) [] pos) (X8 sp dvs E t):=by
 intro pins s σ H Q I h;refine wpAny_Call_Name_kw (Wi I hg hm ?_ hdb);refine PySem.W.callWith_K (h₀:=X.base) I.ok.mod.kin hk (bF (ha pos pins s σ H _ I h) fun us s1 ⟨vs,H1,I1,r,q⟩=>⟨I1.kIn,?_⟩) he hpl;exact E1 F hr hb hd hx I1 r q
end
section
variable {X:Cx} {CX:iR} {k:Nat} {f C:Addr} {fd:FuncData} {ps ks:List Str} {sp:Sp} {E:XK} {x m:Str} {p pos apos kpos:Pos} {e o:Expr} {es:List Expr} {kws:List Keyword} {te ta:TE} {t tk:TA} {nm:Option Str}
variable {g:List Value→List Value→List Value} {gV:List V→List V→List V}
end
structure lN (N P:List Str) (sc:Scope):Prop where
 kind:sc.kind=.function
 co:sc.isCoroutine=false
 gen:sc.isGenerator=false
 nd:N.Nodup
 pre:N.take P.length=P
 par:∀ x∈P,sc.names.lookup x=some .local∨sc.names.lookup x=some .cell
 nofree:∀ y∈sc.names,y.2≠.free
theorem Wf {kindOf:Str→Option NameKind} {x:Str}:∀ {binds:List (Str × Value)} {m:Str→Option Value},(∀ v,(x,v) ∉ binds)→bindL kindOf binds m x=m x
 | [],_,_=>rfl
 | (n,v) :: r,m,h=>by
  unfold bindL;rw [Wf fun w hw=>h w (List.mem_cons_of_mem _ hw)];split
  ·have:x≠n:=by rintro rfl; exact h v List.mem_cons_self
   simp [this]
  ·rfl
theorem Ef {kindOf:Str→Option NameKind} {x:Str}:∀ {binds:List (Str × Value)} {m:Str→Option Value},(∀ v,(x,v) ∉ binds)→bindC kindOf binds m x=m x
 | [],_,_=>rfl
 | (n,v) :: r,m,h=>by
  unfold bindC;rw [Ef fun w hw=>h w (List.mem_cons_of_mem _ hw)];split
  ·rfl
  ·have:x≠n:=by rintro rfl; exact h v List.mem_cons_self
   simp [this]
theorem Df {kindOf:Str→Option NameKind} {x:Str} {v:Value}:∀ {P:List Str} {vs:List Value} {i:Nat} {m:Str→Option Value},P.Nodup→P[i]?=some x→vs[i]?=some v→kindOf x=some .local →
  bindL kindOf (P.zip vs) m x=some v
 | [],_,_,_,_,h,_,_=>by simp at h
 | _ :: _,[],_,_,_,_,h,_=>by simp at h
 | p :: P,w :: vs,0,m,nd,h1,h2,hk=>by
  simp at h1 h2; subst h1; subst h2;show bindL kindOf ((p,w) :: P.zip vs) m p=_;unfold bindL;rw [Wf fun v hv=>(List.nodup_cons.mp nd).1 (List.of_mem_zip hv).1,if_pos hk];simp
 | p :: P,w :: vs,i+1,m,nd,h1,h2,hk=>by
  show bindL kindOf ((p,w) :: P.zip vs) m x=_;unfold bindL;exact Df (i:=i) (List.nodup_cons.mp nd).2 (by simpa using h1) (by simpa using h2) hk
theorem Tf {kindOf:Str→Option NameKind} {x:Str} {v:Value}:∀ {P:List Str} {vs:List Value} {i:Nat} {m:Str→Option Value},P.Nodup→P[i]?=some x→vs[i]?=some v→kindOf x≠some .local →
  bindC kindOf (P.zip vs) m x=some v
 | [],_,_,_,_,h,_,_=>by simp at h
 | _ :: _,[],_,_,_,_,h,_=>by simp at h
 | p :: P,w :: vs,0,m,nd,h1,h2,hk=>by
  simp at h1 h2; subst h1; subst h2;show bindC kindOf ((p,w) :: P.zip vs) m p=_;unfold bindC;rw [Ef fun v hv=>(List.nodup_cons.mp nd).1 (List.of_mem_zip hv).1,if_neg hk];simp
 | p :: P,w :: vs,i+1,m,nd,h1,h2,hk=>by
  show bindC kindOf ((p,w) :: P.zip vs) m x=_;unfold bindC;exact Tf (i:=i) (List.nodup_cons.mp nd).2 (by simpa using h1) (by simpa using h2) hk
def start (N:List Str) (vs:List V):St:=vs.map some++List.replicate (N.length - vs.length) none
def iB (CX:iR) (P:Program) (w:World) (K:PySem.W.Frag) (mg:Str→Option Value) (base:Heap) (N:List Str) (qual:Str) (scope:Scope) (f:Addr) (cd:Value) (A:Around) (outer:List Env) (s:Shared) (H:Hp) (E:XK):Cx where
 prog:=P
 w:=w
 K:=K
 mg:=mg
 base:=base
 A:=A.deeper (envOfC qual scope s.heap.objs.size f cd)
 N:=N
 s₀:=s
 H₀:=H
 env:=envOfC qual scope s.heap.objs.size f cd
 outer:=outer
 stack:=envOfC qual scope s.heap.objs.size f cd :: outer
 ex:=[]
 calm:=true
 fn:=fun _=>true
 pn:=[]
 xe:=fun e s'=>wpAny (model P w) (A.deeper (envOfC qual scope s.heap.objs.size f cd)) (leaving (envOfC qual scope s.heap.objs.size f cd) e) (fun _ s''=>CX outer H s E e s'') (fun e' s''=>CX outer H s E e' s'') s'
theorem Yg {sc:Scope} {n:Nat} {x:Str} (h:sc.names.lookup x=some .cell):∃ c,(cellsFrom n sc.names []).lookup x=some c:=by
 have q:=PySem.W.cellsFrom_some sc.names n [] (.inl h);exact Option.isSome_iff_exists.mp q
theorem Ts {CX:iR} {P:Program} {w:World} {K:PySem.W.Frag} {mg:Str→Option Value} {base:Heap} {N ps:List Str} {qual:Str} {scope:Scope} {f:Addr} {cd:Value} {A:Around} {outer:List Env} {s s1:Shared} {H:Hp} {E:XK} {us:List Value} {vs:List V}
  (S:lN N ps scope) (hd:A.handled=none) (e0:vD P w K mg base A outer s H) (hl:vs.length=ps.length) (r:bC vs us)
  (x:InCallC s s.heap.objs.size (bindL (envOfC qual scope s.heap.objs.size f cd).kindOf (ps.zip us) fun _=>none) (cellsFrom (s.heap.objs.size+1) scope.names []) (bindC (envOfC qual scope s.heap.objs.size f cd).kindOf (ps.zip us) fun _=>none) s1) :
  aG (iB CX P w K mg base N qual scope f cd A outer s H E) [] (start N vs) H s1:=by
 have hpl:ps.length≤N.length:=by have:=congrArg List.length S.pre; rw [List.length_take] at this; omega
 obtain ⟨h1,tk,rfl,hk⟩:=x.done;have noA:∀ b:Addr,b ∉ (iB CX P w K mg base N qual scope f cd A outer s H E).ex:=fun b z=>absurd (show b∈([]:List Addr) from z) (by simp);refine ⟨⟨e0.mod,S.kind,rfl,rfl,Nat.le_refl _,fun y z c h1 h2=>?_,fun y hy=>?_,fun y c _ h=>?_,fun _=>hd,Around.frames_deeper e0.frames,.inr ⟨rfl,rfl⟩,fun b z=>absurd z (noA b),e0.bs,e0.bsz,fun b _ _=>noA b,fun b z=>absurd z (noA b),e0.funs,e0.frf⟩,
  rfl,e0.bare,Un.kept hk,⟨_,x.toInCall.ns,fun i y v h1 h2 h3=>?_⟩,fun y c h=>⟨_,x.cell y c h⟩,e0.hok.fresh (Nat.le_refl _),fun y c h=>?_,fun p hp=>absurd (show p∈([]:List (Addr × Obj)) from hp) (by simp),e0.hok.kept hk,?_⟩
 ·exact name_of_addr x.apart (PySem.mem_of_lookup h1) (PySem.mem_of_lookup h2)
 ·have hy:scope.names.lookup y=some .cell∨scope.names.lookup y=some .free:=hy
  rcases hy with hy | hy
  ·exact Yg hy
  ·exact absurd rfl (S.nofree _ (PySem.mem_of_lookup hy))
 ·exact Nat.le_of_lt (x.above y c (PySem.mem_of_lookup h))
 ·have hi:i < vs.length:=by
   unfold start at h2
   by_cases hi:i < vs.length
   ·exact hi
   ·rw [List.getElem?_append_right (by simpa using hi)] at h2
    rw [List.getElem?_replicate] at h2;split at h2 <;> cases h2
  have ha:vs[i]?=some v:=by
   unfold start at h2;rw [List.getElem?_append_left (by simpa using hi),List.getElem?_map] at h2;cases e:vs[i]? with
   | none=>rw [e] at h2; cases h2
   | some a=>rw [e] at h2; cases h2; rfl
  obtain ⟨u,hu,rv⟩:=r.get ha;have hp:ps[i]?=some y:=by
   rw [← S.pre,List.getElem?_take_of_lt (by omega)]; exact h1
  have ndP:ps.Nodup:=by rw [← S.pre]; exact S.nd.sublist (List.take_sublist _ _)
  refine ⟨u,rv,?_⟩;rcases S.par y (List.mem_of_getElem? hp) with k | k
  ·exact .inl ⟨k,Df ndP hp hu k⟩
  ·obtain ⟨c,e⟩:=Yg (n:=s.heap.objs.size+1) k
   refine .inr ⟨.inl k,c,e,?_⟩;have q:=x.cell y c e;rw [Tf ndP hp hu (by show scope.names.lookup y≠_; rw [k]; decide)] at q;exact q
 ·exact e0.hok.fresh (Nat.le_of_lt (x.above y c (PySem.mem_of_lookup h)))
 ·unfold start
  show _=N.length;rw [List.length_append,List.length_map,List.length_replicate];omega
theorem Q7 {CX:iR} {P:Program} {w:World} {K:PySem.W.Frag} {mg:Str→Option Value} {base:Heap} {k:Nat} {f:Addr} {name qual:Str} {params:Arguments} {body:List Stmt} {scope:Scope} {dV kV doc pm cdv ct oc:Value} {an od:Option Addr}
  {osl:Array (Option Value)} {N ps:List Str} {sp:Sp} (lk:K.lookup f=some ⟨oc,od,.func (PySem.W.fnOf name qual params body scope dV kV doc pm an cdv ct),osl⟩) (hcd:PySem.W.codeIn K cdv qual=true) (S:lN N ps scope)
  (len:∀ vs H Q E,sp vs H Q E→vs.length=ps.length)
  (hbody:∀ (A:Around) (outer:List Env) (s:Shared) (H:Hp) (vs:List V) (Q:VK) (E:XK),eH k (A.deeper (envOfC qual scope s.heap.objs.size f cdv))→sp vs H Q E →
   ∃ t,fW (iB CX P w K mg base N qual scope f cdv A outer s H E) body t∧t { nx:=fun _ H'=>Q .non H',rt:=Q } (start N vs) H) :
  fR P w K mg base CX (k+1) f (PySem.W.fnOf name qual params body scope dV kV doc pm an cdv ct) ps sp:=by
 refine ⟨len,fun A outer s H args us vs Q E hr e0 hb r hsp=>?_⟩;have hl:=len _ _ _ _ hsp;have KX:K.In s.heap:=e0.mod.kin.keeps fun b o e=>(e0.bs b o e).1;have lim:s.heap.NoLimit:=e0.mod.nolimit.keeps fun b o e=>(e0.bs b o e).1;have hkind:∀ y∈ps.zip us,scope.names.lookup y.1=some .local∨(scope.names.lookup y.1=some .cell∧((cellsFrom (s.heap.objs.size+1) scope.names []).lookup y.1).isSome=true):=fun ⟨n,v⟩ hy=>by
  rcases S.par n (List.of_mem_zip hy).1 with q | q
  ·exact .inl q
  ·exact .inr ⟨q,PySem.W.cellsFrom_some _ _ _ (.inl q)⟩
 refine codeAny_call_function hr.depth (KX _ _ lk) rfl S.co S.gen rfl (PySem.W.codeRec_of KX hcd) (hb _ _ _ _ ?_);refine wpAny_newFunctionEnv_cells S.kind hkind fun env he s1 x=>?_;subst he;refine ⟨lim.keeps x.toInCall.keep,codeAny_func ?_⟩;obtain ⟨t,ht,hq⟩:=hbody A outer s H vs Q E (hr.deeper _) hsp;have I:aG (iB CX P w K mg base N qual scope f cdv A outer s H E) [] (start N vs) H s1:=Ts S hr.hd e0 hl r x;refine wpAny_mono (ht [] s1 (start N vs) H _ I hq) (fun fl s' hs=>?_) fun e s' hs=>hs;have fin:∀ {σ':St} {H':Hp} {v:V} {u:Value},aG (iB CX P w K mg base N qual scope f cdv A outer s H E) [] σ' H' s'→bQ v u→Q v H'→CE outer P w H s Q u s' :=
  fun {σ' H' v u} J rv q=>⟨v,H',J.os,J.bare,J.base,J.hok,rv,q⟩
 cases fl with
 | ret u =>
  obtain ⟨v,σ',H',J,rv,q⟩:=hs;exact fin J rv q
 | next =>
  obtain ⟨σ',H',J,q⟩:=hs;exact fin (v:=V.non) (u:=Value.none) J rfl q
 | brk =>
  obtain ⟨_,_,_,q⟩:=hs;exact False.elim q
 | cont =>
  obtain ⟨_,_,_,q⟩:=hs;exact False.elim q
end L2
namespace L2
open PySem PySem.Spec PyProof.Rows
section
variable {X:Cx} {x:Str} {p pos:Pos} {e:Expr} {es:List Expr} {t:TA} {id T:String} {r:List V→Hp→VK→Prop}
def Po (r:List V→Hp→VK→Prop) (t:TA):TE:=fun σ H Q=>t σ H fun vs H1=>r vs H1 Q
theorem yT (hc:iA X (.builtin id) r) (hg:Gl X x) (hm:X.mg x=none) (hv:bootBuiltins x=some (.builtin id)) (ha:PA X (e :: es) t) (hn:x≠"__name__":=by decide) (hdb:(x == ("__debug__":Str))=false:=by decide)
  (he:starEach (e :: es) X.env=(false,eval e X.env) :: starEach es X.env:=by rfl) (hpl:(backTo pos (starEach es X.env)).any (·.1)=false:=by rfl):PE X (.Call (.Name x p) (e :: es) [] pos) (Po r t):=by
 intro pins s σ H Q I h;refine wpAny_Call_Name_kw (oA I hg hm hv ?_ hn hdb);exact PyProof.Rows.callWith_builtin1 (bF (ha pos pins s σ H _ I h) fun us s1 ⟨vs,H1,I1,r1,q1⟩=>hc pins s1 σ H1 vs us Q I1 r1 q1) he hpl
theorem qX (hc:iA X (.type T) r) (hg:Gl X x) (hm:X.mg x=none) (hv:bootBuiltins x=some (.type T)) (ha:PA X (e :: es) t) (hn:x≠"__name__":=by decide) (hdb:(x == ("__debug__":Str))=false:=by decide)
  (he:starEach (e :: es) X.env=(false,eval e X.env) :: starEach es X.env:=by rfl) (hpl:(backTo pos (starEach es X.env)).any (·.1)=false:=by rfl):PE X (.Call (.Name x p) (e :: es) [] pos) (Po r t):=by
 intro pins s σ H Q I h;refine wpAny_Call_Name_kw (oA I hg hm hv ?_ hn hdb);exact PyProof.Rows.callWith_type1 (bF (ha pos pins s σ H _ I h) fun us s1 ⟨vs,H1,I1,r1,q1⟩=>hc pins s1 σ H1 vs us Q I1 r1 q1) he hpl
end
end L2
namespace HT
open PySem PyProof.Rows
def lexLt:List Int→List Int→Bool
 | [],[]=>false
 | [],_ :: _=>true
 | _ :: _,[]=>false
 | x :: xs,y :: ys=>if x=y then lexLt xs ys else decide (x < y)
theorem lexLt_cons (x y:Int) (xs ys:List Int):lexLt (x :: xs) (y :: ys)=if x=y then lexLt xs ys else decide (x < y):=rfl
section
open PySem.SeqAt
open PySem.AutoSeq1 (wpAny_loadPart')
open PySem.MeetsSeq PySem.MeetsSeq2 PySem.MeetsSeq3
end
section
variable {prog:Program} {w:World} {A:Around} {E:Value→Shared→Prop} {s:Shared}
theorem cat_tup {t b:Addr} {vs ws:List Value} {Q:Value→Shared→Prop} (ht:IsTup s.heap t vs.toArray) (hb:IsTup s.heap b ws.toArray) (hv:vs≠[])
  (h1:ws=[]→Q (.ref t) s) (h2:ws≠[]→Q (.ref s.heap.objs.size) { s with heap:=s.heap.push { cls:=.type "tuple",data:=.seq (vs++ws).toArray } })
  (hsz:vs.length+ws.length≤sizeLine):wpAny (model prog w) A (binaryOp .Add (.ref t) (.ref b)) Q E s:=by
 obtain ⟨⟨cls,dd,data,sl⟩,ho,hc,n,hd⟩:=id ht;obtain ⟨⟨cls2,dd2,data2,sl2⟩,ho2,hc2,n2,hd2⟩:=id hb;simp only at hc hd hc2 hd2;subst hc hd hc2 hd2;have e:vs.toArray++ws.toArray=(vs++ws).toArray:=by simp
 by_cases hw:ws=[]
 ·exact concat_meets ⟨_,ho,rfl⟩ ⟨_,ho2,rfl⟩ noFill_tuple_add seq_tuple_add PySem.F.slot_tuple_add PySem.F.entry_tuple_add (PySem.F.args_tuple_add_2 _ _)
   (tuple_addW1 t b vs.toArray ws.toArray n n2 dd dd2 sl sl2 (by simpa using hv) (by simp [hw])) ⟨ho,ho2,h1 hw⟩
 ·refine concat_meets ⟨_,ho,rfl⟩ ⟨_,ho2,rfl⟩ noFill_tuple_add seq_tuple_add PySem.F.slot_tuple_add PySem.F.entry_tuple_add (PySem.F.args_tuple_add_2 _ _)
   (tuple_addW2 t b vs.toArray ws.toArray n n2 dd dd2 sl sl2 (by simpa using hv) (by simpa using hw) (by rw [List.size_toArray,List.size_toArray]; exact hsz)) ⟨ho,ho2,?_⟩
  rw [e];exact h2 hw
def sIx (n d:Nat):Option Int→Nat
 | none=>d
 | some v=>if v < 0 then (v+(n:Int)).toNat else min v.toNat n
theorem sIx_nat (n d k:Nat):sIx n d (some (k:Int))=min k n:=by
 show (if (k:Int) < 0 then ((k:Int)+(n:Int)).toNat else min (k:Int).toNat n)=min k n;rw [if_neg (by omega),Int.toNat_natCast]
theorem N6 (n d:Nat) (hd:d≤n) (o:Option Int):sIx n d o≤n:=by
 cases o with
 | none=>exact hd
 | some v =>
  show (if v < 0 then (v+(n:Int)).toNat else min v.toNat n)≤n
  by_cases hv:v < 0
  ·rw [if_pos hv]; omega
  ·rw [if_neg hv]; exact Nat.min_le_right _ _
theorem Pi (v:Int) (n d:Nat):(if v < 0 then max (v+(n:Int)) 0 else min v (n:Int))=((sIx n d (some v):Nat):Int):=by
 show (if v < 0 then max (v+(n:Int)) 0 else min v (n:Int))=(((if v < 0 then (v+(n:Int)).toNat else min v.toNat n):Nat):Int)
 by_cases hv:v < 0
 ·simp only [if_pos hv]; omega
 ·simp only [if_neg hv]; omega
theorem Hq (lo hi:Option Int) (n:Nat):Builtin.Slice.sliceAdjust lo hi 1 (n:Int)=(((sIx n 0 lo:Nat):Int),((sIx n n hi:Nat):Int)):=by
 have h1:¬ ((1:Int) < 0):=by omega
 unfold Builtin.Slice.sliceAdjust;simp only [h1,if_false];refine Prod.ext ?_ ?_
 ·cases lo with
  | none=>rfl
  | some v=>exact Pi v n 0
 ·cases hi with
  | none=>rfl
  | some v=>exact Pi v n n
theorem Uq (i j:Nat):Builtin.Slice.slicePlaces (i:Int) (j:Int) 1=j - i:=by
 unfold Builtin.Slice.slicePlaces;have h1:(1:Int) > 0:=by omega
 simp only [h1,if_true,Int.ediv_one];split <;> omega
theorem Ee {v:Value} {o:Option Int} {Q:Option Int→Shared→Prop} (p:IsPart v o) (h:Q o s):wpAny (model prog w) A (Builtin.Slice.slicePartIndex v) Q E s:=by
 cases p with
 | none=>exact slicePart_none h
 | int i t=>exact slicePart_int h
theorem So {sl:Addr} {vl vu:Value} {lo hi:Option Int} {n:Nat} {Q:Int × Int × Nat→Shared→Prop} (hs:s.heap.IsSliceOf sl vl vu .none) (pl:IsPart vl lo) (pu:IsPart vu hi)
  (h:Q (((sIx n 0 lo:Nat):Int),1,sIx n n hi - sIx n 0 lo) s):wpAny (model prog w) A (Builtin.Slice.sliceApplied (.ref sl) (pure (n:Int))) Q E s:=by
 obtain ⟨os,hos,hcs,hds⟩:=id hs;unfold Builtin.Slice.sliceApplied Builtin.Slice.sliceFields;refine wpAny_bind (wpAny_bind (wpAny_field hos hds (x:=vl) rfl (wpAny_bind (wpAny_field hos hds (x:=vu) rfl (wpAny_bind (wpAny_field hos hds (x:=.none) rfl (wpAny_pure ?_)))))));refine wpAny_bind (slicePart_none ?_);show wpAny _ _ (if ((1:Int) == 0)=true then _ else _) _ _ s;rw [if_neg (by decide)];refine wpAny_bind (Ee pl (wpAny_bind (Ee pu (wpAny_bind (wpAny_pure ?_)))));show wpAny _ _ (match Builtin.Slice.sliceAdjust lo hi 1 (n:Int) with | (lo,hi)=>pure (lo,(1:Int),Builtin.Slice.slicePlaces lo hi 1)) _ _ s
 rw [Hq lo hi n];show wpAny _ _ (pure (((sIx n 0 lo:Nat):Int),(1:Int),Builtin.Slice.slicePlaces ((sIx n 0 lo:Nat):Int) ((sIx n n hi:Nat):Int) 1)) _ _ s;rw [Uq];exact wpAny_pure h
theorem Jv (xs:Array Value) (i k:Nat):((List.range k).filterMap fun (m:Nat)=>xs[((i:Int)+(m:Int)*1).toNat]?).toArray=((xs.toList.drop i).take k).toArray:=by
 have e:(fun (m:Nat)=>xs[((i:Int)+(m:Int)*1).toNat]?)=fun m=>xs[i+m]?:=by
  funext m
  have:((i:Int)+(m:Int)*1).toNat=i+m:=by omega
  rw [this]
 rw [e];have:=pick_run xs i k;rw [List.filterMap_map] at this;have e2:((fun x=>xs[x]?) ∘ fun x=>i+x)=fun m=>xs[i+m]?:=rfl;rw [e2] at this;rw [this]
theorem getItem_tuple_cut {t sl:Addr} {items:Array Value} {vl vu:Value} {lo hi:Option Int} {Q:Value→Shared→Prop} (ht:IsTup s.heap t items) (hs:s.heap.IsSliceOf sl vl vu .none) (pl:IsPart vl lo) (pu:IsPart vu hi)
  (hw:¬ (sIx items.size 0 lo=0∧sIx items.size items.size hi=items.size))
  (h:Q (.ref s.heap.objs.size) { s with heap:=s.heap.push { cls:=.type "tuple",data:=.seq ((items.toList.drop (sIx items.size 0 lo)).take (sIx items.size items.size hi - sIx items.size 0 lo)).toArray } })
  (hsz:items.size≤sizeLine):wpAny (model prog w) A (getItem (.ref t) (.ref sl)) Q E s:=by
 have htake:sizeOk (.seq ((items.toList.drop (sIx items.size 0 lo)).take (sIx items.size items.size hi - sIx items.size 0 lo)).toArray):=by
  show ((items.toList.drop (sIx items.size 0 lo)).take (sIx items.size items.size hi - sIx items.size 0 lo)).toArray.size≤sizeLine;rw [List.size_toArray,List.length_take,List.length_drop,Array.length_toList];omega
 have hj:sIx items.size items.size hi≤items.size:=N6 _ _ (Nat.le_refl _) hi;obtain ⟨os,hos,hcs,hds⟩:=id hs;have hTs:s.TypeIs (.ref sl) "slice":=⟨os,hos,hcs⟩;unfold getItem
 try with_reducible refine wpAny_holding ?_
 first | refine wpAny_bind (wpAny_pure ?_) | skip
 refine wpAny_bind (wpAny_sequenceKey ht.typeIs (by decide) ?_);refine wpAny_bind (wpAny_callSpecial?_slot (name:=Str.ofString "__getitem__") ht.typeIs PyProof.Rows.slot_tuple_getitem
  (wpAny_call_entry PyProof.Rows.slot_tuple_getitem ht.typeIs entry_tuple_getitem ?_ (args_tuple_getitem _ _)))
 show wpAny _ _ (Builtin.Tuple.tupleItemsOf (.ref t) >>= _) _ _ s;refine wpAny_bind (tupleItemsOf_ ht ?_);refine wpAny_bind (wpAny_typeOf hTs ?_);rw [if_pos (by decide)];refine wpAny_bind (So hs pl pu ?_);have hno:¬ ((((sIx items.size 0 lo:Nat):Int) == 0 && (1:Int) == 1 && (sIx items.size items.size hi - sIx items.size 0 lo) == items.size)=true):=by
  intro q;rw [Bool.and_eq_true,Bool.and_eq_true] at q;have q1:((sIx items.size 0 lo:Nat):Int)=0:=eq_of_beq q.1.1;have q2:sIx items.size items.size hi - sIx items.size 0 lo=items.size:=eq_of_beq q.2;exact hw ⟨by omega,by omega⟩
 show wpAny _ _ (if (((sIx items.size 0 lo:Nat):Int) == 0 && (1:Int) == 1 && (sIx items.size items.size hi - sIx items.size 0 lo) == items.size)=true then _ else _) _ _ s;rw [if_neg hno,Jv]
 first
  | exact wpAny_bind (m:=Builtin.Tuple.tupleExact _) (wpAny_newObj_type (wpAny_pure ⟨_,rfl,wpAny_pure h⟩) htake)
  | exact wpAny_bind (m:=Builtin.Tuple.tupleExact _) (wpAny_newObj_type (wpAny_bind (wpAny_pure (wpAny_pure ⟨_,rfl,wpAny_pure h⟩))) htake)
  | exact wpAny_bind (wpAny_bind (m:=Builtin.Tuple.tupleExact _) (wpAny_newObj_type (wpAny_pure (wpAny_pure ⟨_,rfl,wpAny_pure h⟩)) htake))
  | exact wpAny_bind (wpAny_bind (m:=Builtin.Tuple.tupleExact _) (wpAny_newObj_type (wpAny_pure ⟨_,rfl,wpAny_pure h⟩) htake))
end
end HT
namespace L2
open PySem PySem.Spec PyProof.Rows
abbrev TO:=St→Hp→(Option Int→Hp→Prop)→Prop
def PO (X:Cx) (e:Option Expr) (t:TO):Prop :=
 ∀ (pins:List (Addr × Obj)) (s:Shared) (σ:St) (H:Hp) (Q:Option Int→Hp→Prop),aG X pins σ H s→t σ H Q →
  wpAny (model X.prog X.w) X.A (evalPart e X.env) (fun u s'=>∃ o H',aG X pins σ H' s'∧IsPart u o∧Q o H') X.xe s
def Tw:TO:=fun _ H Q=>Q none H
def V3 (t:TE):TO:=fun σ H Q=>t σ H fun x H1=>∃ i,x=.int i∧Q (some i) H1
section
variable {X:Cx} {e:Expr} {te:TE} {lo hi:Option Expr} {tl th:TO} {pos p2:Pos}
theorem Hz:PO X none Tw:=by
 intro pins s σ H Q I h;rw [evalPart_none];exact wpAny_pure ⟨none,H,I,.none,h⟩
theorem Sy (h:PE X e te):PO X (some e) (V3 te):=by
 intro pins s σ H Q I hw;rw [evalPart_some];refine bF (h pins s σ H _ I hw) fun u s1 ⟨x,H1,I1,r1,q1⟩=>?_;obtain ⟨i,rfl,q⟩:=q1;obtain ⟨t,rfl⟩:=r1;exact ⟨some i,H1,I1,.int i t,q⟩
def nK (X:Cx) (r:V→Option Int→Option Int→Hp→VK→Prop):Prop :=
 ∀ (pins:List (Addr × Obj)) (s:Shared) (σ:St) (H:Hp) (x:V) (v vl vu:Value) (lo hi:Option Int) (sl:Addr) (Q:VK),aG X pins σ H s→bQ x v→s.heap.IsSliceOf sl vl vu .none→IsPart vl lo→IsPart vu hi→r x lo hi H Q →
  ∃ T id,typeLookup (.type T) "__getitem__"=pure (some (.builtin id))∧s.TypeIs v T∧wpAny (model X.prog X.w) X.A (getItem v (.ref sl)) (EP X pins σ Q) X.xe s
theorem nK.or {r r':V→Option Int→Option Int→Hp→VK→Prop} (h:nK X r) (h':nK X r'):nK X (fun x lo hi H Q=>r x lo hi H Q∨r' x lo hi H Q):=by
 intro pins s σ H x v vl vu lo hi sl Q I rx hs pl pu q;rcases q with q | q
 ·exact h pins s σ H x v vl vu lo hi sl Q I rx hs pl pu q
 ·exact h' pins s σ H x v vl vu lo hi sl Q I rx hs pl pu q
def tSl (r:V→Option Int→Option Int→Hp→VK→Prop) (te:TE) (tl th:TO):TE:=fun σ H Q=>te σ H fun x H1=>tl σ H1 fun l H2=>th σ H2 fun u H3=>r x l u H3 Q
theorem Bv {r:V→Option Int→Option Int→Hp→VK→Prop} (hr:nK X r) (he:PE X e te) (hl:PO X lo tl) (hu:PO X hi th):PE X (.Subscript e (.Slice lo hi none p2) pos) (tSl r te tl th):=by
 intro pins s σ H Q I h;refine Subscript_ (bF (he pins s σ H _ I h) fun v s1 ⟨x,H1,I1,r1,q1⟩=>?_);refine wpAny_Slice (bF (hl pins s1 σ H1 _ I1 q1) fun vl s2 ⟨l,H2,I2,pl,q2⟩=>bF (hu pins s2 σ H2 _ I2 q2) fun vu s3 ⟨u,H3,I3,pu,q3⟩=>?_);rw [evalPart_none];refine wpAny_pure ?_;have I4:aG X pins σ H3 { s3 with heap:=s3.heap.push { cls:=.type "slice",data:=.fields #[vl,vu,.none] } }:=I3.kept (t':=s3.toks) fun b ob q=>Heap.get?_push_of_some _ q;obtain ⟨T,id,hT,ht,hg⟩:=hr pins { s3 with heap:=s3.heap.push { cls:=.type "slice",data:=.fields #[vl,vu,.none] } } σ H3 x v vl vu l u s3.heap.objs.size Q I4 r1 (Heap.IsSliceOf.new ..) pl pu q3;show wpAny (model X.prog X.w) X.A (subscriptTail e (.Slice lo hi none p2) v (.ref s3.heap.objs.size)) (EP X pins σ Q) X.xe { s3 with heap:=s3.heap.push { cls:=.type "slice",data:=.fields #[vl,vu,.none] } };exact tail_any (ops:=[.ref s3.heap.objs.size,v]) ht hT hg (by with_unfolding_all rfl)
def nB (xs:List V) (lo hi:Option Int):List V:=(xs.drop (HT.sIx xs.length 0 lo)).take (HT.sIx xs.length xs.length hi - HT.sIx xs.length 0 lo)
theorem sT (xs:List V) (lo hi:Option Int):(nB xs lo hi).length≤xs.length:=by
 unfold nB;rw [List.length_take,List.length_drop];omega
def Z5 (K:PySem.W.Frag):V→Option Int→Option Int→Hp→VK→Prop:=fun x lo hi H Q=>∃ a xs,x=.ref a∧dC K H a xs ∧
 ¬ (HT.sIx xs.length 0 lo=0∧HT.sIx xs.length xs.length hi=xs.length)∧∀ p,H p=none→Q (.ref p) (aT H p (.tup (nB xs lo hi)))
theorem J6:nK X (Z5 X.K):=by
 intro pins s σ H x v vl vu lo hi sl Q I rx hs pl pu h;obtain ⟨a,xs,rfl,hx,hw,q⟩:=h;cases rx;obtain ⟨its,r,ht,hz⟩:=I.tuple hx;have hlen:its.toArray.size=xs.length:=by rw [List.size_toArray]; exact r.length.symm
 refine ⟨"tuple",_,PyProof.Rows.slot_tuple_getitem.lookup,ht.typeIs,?_⟩;refine HT.getItem_tuple_cut ht hs pl pu (by rw [hlen]; exact hw) ?_ (by rw [hlen]; exact hz);rw [hlen];refine ⟨.ref s.heap.objs.size,_,I.laid (t':=s.toks) (o:=.tup (nB xs lo hi)) (fun b ob q=>Heap.get?_push_of_some _ q) (Nat.le_refl _) ?_,rfl,q _ (I.hok.fresh (Nat.le_refl _))⟩;exact ⟨Nat.le_trans (sT xs lo hi) hz,_,(r.drop (HT.sIx xs.length 0 lo)).take (HT.sIx xs.length xs.length hi - HT.sIx xs.length 0 lo),IsTup.new _ _⟩
def Sm (K:PySem.W.Frag):R2:=fun x y H Q=>∃ a b xs ys,x=.ref a∧y=.ref b∧dC K H a xs∧dC K H b ys∧xs≠[]∧xs.length+ys.length≤sizeLine ∧
 (ys=[]→Q (.ref a) H)∧(ys≠[]→∀ p,H p=none→Q (.ref p) (aT H p (.tup (xs++ys))))
theorem bC.nil_iff {xs:List V} {us:List Value} (r:bC xs us):us=[]↔xs=[]:=by
 cases r with
 | nil=>simp
 | cons _ _=>simp
theorem Bz:eF X (binaryOp .Add) (Sm X.K):=by
 intro pins s σ H x y v u Q I rx ry h;obtain ⟨a,b,xs,ys,rfl,rfl,ha,hb,hx,hz,q1,q2⟩:=h;cases rx;cases ry;obtain ⟨its,r1,p1,_⟩:=I.tuple ha;obtain ⟨its2,r2,p2,_⟩:=I.tuple hb;refine HT.cat_tup p1 p2 (fun z=>hx (r1.nil_iff.mp z)) (fun z=>⟨.ref a,H,I,rfl,q1 (r2.nil_iff.mp z)⟩) (fun z=>?_) (by rw [← r1.length,← r2.length]; exact hz);refine ⟨.ref s.heap.objs.size,_,I.laid (t':=s.toks) (o:=.tup (xs++ys)) (fun b ob q=>Heap.get?_push_of_some _ q) (Nat.le_refl _) ?_,rfl,q2 (fun w=>z (r2.nil_iff.mpr w)) _ (I.hok.fresh (Nat.le_refl _))⟩;exact ⟨by rw [List.length_append]; exact hz,_,r1.append r2,IsTup.new _ _⟩
end
end L2
namespace L2
open PySem PySem.Spec PyProof.Rows
def aY (n:Nat) (i:Int):Option Nat:=if 0≤i then (if i < n then some i.toNat else none) else if -(n:Int)≤i then some (i+n).toNat else none
def aZ {α:Type} (xs:List α) (i:Int):Option α:=(aY xs.length i).bind fun j=>xs[j]?
theorem Tj {n:Nat} {i:Int} {j:Nat} (h:aY n i=some j):seqIndex? i n=some j∧j < n∧-(n:Int)≤i∧i < n:=by
 unfold aY at h
 by_cases h0:0≤i
 ·rw [if_pos h0] at h
  by_cases h1:i < n
  ·rw [if_pos h1] at h
   have e:i.toNat=j:=Option.some.inj h;exact ⟨by rw [seqIndex_of h0 h1,e],by omega,by omega,h1⟩
  ·rw [if_neg h1] at h; cases h
 ·rw [if_neg h0] at h
  by_cases h1:-(n:Int)≤i
  ·rw [if_pos h1] at h
   have e:(i+n).toNat=j:=Option.some.inj h;exact ⟨by rw [seqIndex_neg (by omega) h1,e],by omega,h1,by omega⟩
  ·rw [if_neg h1] at h; cases h
theorem yU {α:Type} {xs:List α} {i:Int} {v:α} (h:aZ xs i=some v):∃ j,seqIndex? i xs.length=some j∧xs[j]?=some v∧j < xs.length∧-(xs.length:Int)≤i∧i < xs.length:=by
 unfold aZ at h;cases e:aY xs.length i with
 | none=>rw [e] at h; cases h
 | some j =>
  rw [e] at h;obtain ⟨h1,h2,h3,h4⟩:=Tj e;exact ⟨j,h1,h,h2,h3,h4⟩
theorem dS {α:Type} {xs:List α} {j:Nat} {v:α} (h:xs[j]?=some v):aZ xs (j:Int)=some v:=by
 have hj:j < xs.length:=(List.getElem?_eq_some_iff.mp h).1;have e:aY xs.length (j:Int)=some j:=by
  unfold aY;rw [if_pos (by omega),if_pos (by omega)]; simp
 unfold aZ; rw [e]; exact h
theorem Av {α:Type} (xs:List α) (v:α):aZ (xs++[v]) (-1)=some v:=by
 have hl:(xs++[v]).length=xs.length+1:=by simp
 have e:aY (xs++[v]).length (-1)=some xs.length:=by
  unfold aY;rw [hl,if_neg (by decide),if_pos (by omega)];congr 1;omega
 unfold aZ;rw [e];show (xs++[v])[xs.length]?=some v;simp
def tZ (b:Expr):Prop:=∀ o i,subscripted b false o i=operate [o,i] (getItem o i)
def kZ (X:Cx) (r:R2):Prop :=
 ∀ (value slice:Expr) (pins:List (Addr × Obj)) (s:Shared) (σ:St) (H:Hp) (x y:V) (v u:Value) (Q:VK),aG X pins σ H s→bQ x v→bQ y u→r x y H Q →
  subscripted slice false v u=operate [v,u] (getItem v u)→wpAny (model X.prog X.w) X.A (subscriptTail value slice v u) (EP X pins σ Q) X.xe s
def sM (X:Cx) (id:String) (r:V→List V→Hp→VK→Prop):Prop :=
 ∀ (pins:List (Addr × Obj)) (s:Shared) (σ:St) (H:Hp) (x:V) (xs:List V) (v:Value) (us:List Value) (Q:VK),aG X pins σ H s→bQ x v→bC xs us→r x xs H Q →
  wpAny (model X.prog X.w) X.A (call (.builtin id) (v :: us)) (EP X pins σ Q) X.xe s
section
variable {X:Cx} {a b:Expr} {ta tb:TE} {pos:Pos}
theorem kZ.or {r r':R2} (h:kZ X r) (h':kZ X r'):kZ X (fun x y H Q=>r x y H Q∨r' x y H Q):=by
 intro value slice pins s σ H x y v u Q I rx ry q hs;rcases q with q | q
 ·exact h value slice pins s σ H x y v u Q I rx ry q hs
 ·exact h' value slice pins s σ H x y v u Q I rx ry q hs
theorem Va {r:R2} (hr:kZ X r) (ha:PE X a ta) (hb:PE X b tb) (hs:tZ b):PE X (.Subscript a b pos) (vX r ta tb):=by
 intro pins s σ H Q I h;exact Subscript_ (Pb ha hb I h fun v u s2 x y H2 I2 rx ry q=>hr a b pins s2 σ H2 x y v u Q I2 rx ry q (hs _ _))
def Zn (K:PySem.W.Frag):R2:=fun x y H Q=>∃ p xs i v,x=.ref p∧y=.int i∧bY K H p xs∧aZ xs i=some v∧Q v H
def Do (K:PySem.W.Frag):R2:=fun x y H Q=>∃ p xs i v,x=.ref p∧y=.int i∧dC K H p xs∧aZ xs i=some v∧Q v H
def Tn:R2:=fun x y H Q=>∃ z i c,x=.str z∧y=.int i∧z.length≤sizeLine∧aZ z.cps.toList i=some c∧Q (.str ⟨#[c]⟩) H
theorem Uz:kZ X (Zn X.K):=by
 intro value slice pins s σ H x y v u Q I rx ry h hs;obtain ⟨p,xs,i,z,rfl,rfl,hq,he,q⟩:=h;cases rx;obtain ⟨t,rfl⟩:=ry;obtain ⟨its,r,pl,hz⟩:=I.list hq;obtain ⟨j,h1,h2,h3,h4,h5⟩:=yU he;obtain ⟨w,ew,rw'⟩:=r.get h2;have hl:=r.length;have hn:=rT;have fin:EP X pins σ Q w s:=⟨z,H,I,rw',q⟩
 by_cases h0:0≤i
 ·have hj:i.toNat=j:=by
   rw [seqIndex_of h0 h5] at h1;exact Option.some.inj h1
  exact item_listR pl.isList h0 (by omega) (by rw [hj]; simpa using ew) fin hs
 ·have hj:(i+(its.toArray.size:Int)).toNat=j:=by
   rw [seqIndex_neg (by omega) h4] at h1;rw [List.size_toArray,← hl];exact Option.some.inj h1
  exact subscriptTail_builtinR (x:=w) pl.isList.typeIs slot_list_getitem.lookup
   (wpAny_getItem_list_neg (Q:=fun r s'=>r=w∧EP X pins σ Q r s') pl.isList (by omega) (by rw [List.size_toArray] <;> omega) (by omega) (by rw [hj]; simpa using ew) ⟨rfl,fin⟩) hs
theorem G5:kZ X (Do X.K):=by
 intro value slice pins s σ H x y v u Q I rx ry h hs;obtain ⟨p,xs,i,z,rfl,rfl,hq,he,q⟩:=h;cases rx;obtain ⟨t,rfl⟩:=ry;obtain ⟨its,r,pl,hz⟩:=I.tuple hq;obtain ⟨j,h1,h2,h3,h4,h5⟩:=yU he;obtain ⟨w,ew,rw'⟩:=r.get h2;have hl:=r.length;have hn:=rT;have fin:EP X pins σ Q w s:=⟨z,H,I,rw',q⟩;exact subscriptTail_builtinR (x:=w) pl.typeIs slot_tuple_getitem.lookup
  (getItem_tuple (j:=j) (Q:=fun r s'=>r=w∧EP X pins σ Q r s') pl (by omega) (by omega) (by rw [List.size_toArray,← hl]; exact h1) (by simpa using ew) ⟨rfl,fin⟩) hs
theorem N7:kZ X Tn:=by
 intro value slice pins s σ H x y v u Q I rx ry h hs;obtain ⟨z,i,c,rfl,rfl,hz,he,q⟩:=h;obtain ⟨t,rfl⟩:=rx;obtain ⟨t',rfl⟩:=ry;obtain ⟨j,h1,h2,h3,h4,h5⟩:=yU he;have hl:z.cps.toList.length=z.length:=by simp [Str.length]
 rw [hl] at h1 h4 h5;have hn:=rT;exact tail_any (typeIs_str s z t) slot_str_getitem.lookup (getItem_str (c:=c) (by
  have e1:decide (i < -(2 ^ 63:Int))=false:=decide_eq_false (by omega);have e2:decide (i ≥ 2 ^ 63)=false:=decide_eq_false (by omega);rw [e1,e2,Bool.or_false]) (by rw [h1]; simpa using h2) ⟨.str ⟨#[c]⟩,H,I.tok _,⟨_,rfl⟩,q⟩) hs
def Ho (K:PySem.W.Frag):R2:=fun x y H Q=>Zn K x y H Q∨Do K x y H Q∨Tn x y H Q
theorem Hl:kZ X (Ho X.K):=Uz.or (G5.or N7)
theorem Vq (its:List Value) (n j:Nat) (u:Value):Obj.mapSeq (·.setIfInBounds j u) { cls:=.type "list",data:=.seq its.toArray n }={ cls:=.type "list",data:=.seq (its.set j u).toArray n }:=by
 simp [Obj.mapSeq]
theorem aG.lst {pins:List (Addr × Obj)} {σ:St} {H:Hp} {s:Shared} {p:Addr} {xs:List V} (I:aG X pins σ H s) (h:H p=some (.lst xs)) :
  ∃ (its:List Value) (n:Nat),bC xs its∧s.heap.get? p=some { cls:=.type "list",data:=.seq its.toArray n }∧xs.length≤sizeLine:=by
 obtain ⟨z,its,n,r,e⟩:=I.hok p _ h;exact ⟨its,n,r,e,z⟩
theorem aG.lstUpd {pins:List (Addr × Obj)} {σ:St} {H:Hp} {s:Shared} {p:Addr} {xs ys:List V} {its its':List Value} {n n':Nat} {f:Obj→Obj} (I:aG X pins σ H s) (h:H p=some (.lst xs))
  (ho:s.heap.get? p=some { cls:=.type "list",data:=.seq its.toArray n }) (hf:f { cls:=.type "list",data:=.seq its.toArray n }={ cls:=.type "list",data:=.seq its'.toArray n' }) (r:bC ys its') (hz:ys.length≤sizeLine) (t:Nat) :
  aG X pins σ (aT H p (.lst ys)) { s with heap:=s.heap.update p f,toks:=t }:=by
 have e:(s.heap.update p f).get? p=some { cls:=.type "list",data:=.seq its'.toArray n' }:=by
  rw [Heap.get?_update_self f ho (by rw [hf] <;> rfl),hf]
 refine I.write (x:=p) (e:=p) (by rw [h]; trivial) (.inl rfl) (fun b u hb q=>(Heap.get?_update_other _ _ (Ne.symm hb)).trans q) ⟨_,e⟩ ?_;exact ⟨hz,its',n',r,e⟩
def R1:V→V→V→Hp→(Hp→Prop)→Prop:=fun o i v H Q=>∃ p xs k j,o=.ref p∧i=.int k∧H p=some (.lst xs)∧aY xs.length k=some j∧Q (aT H p (.lst (xs.set j v)))
theorem Sh:Ub X R1:=by
 intro pins s σ H o i v ov iv u Q I ro ri rv h;obtain ⟨p,xs,k,j,rfl,rfl,hp,hj,q⟩:=h;cases ro;obtain ⟨t,rfl⟩:=ri;obtain ⟨its,n,r,ho,hz⟩:=I.lst hp;obtain ⟨h1,h2,h3,h4⟩:=Tj hj;have hl:=r.length;have hn:=rT;have I':aG X pins σ (aT H p (.lst (xs.set j v))) { s with heap:=s.heap.update p (Obj.mapSeq (·.setIfInBounds j u)) } :=
  I.lstUpd hp ho (Vq its n j u) (r.set rv j) (by rw [List.length_set]; exact hz) s.toks
 by_cases h0:0≤k
 ·have hk:k.toNat=j:=by
   rw [seqIndex_of h0 h4] at h1;exact Option.some.inj h1
  exact PySem.W.ki_setAt ho h0 (by omega) (by rw [List.size_toArray,← hl]; exact h4) (by rw [hk]; exact ⟨_,I',q⟩)
 ·have hk:(k+(its.toArray.size:Int)).toNat=j:=by
   rw [seqIndex_neg (by omega) h3] at h1;rw [List.size_toArray,← hl];exact Option.some.inj h1
  exact PySem.W.ki_setBack ho (by omega) (by rw [List.size_toArray,← hl]; exact h3) (by omega) (by rw [hk]; exact ⟨_,I',q⟩)
theorem Fp (lo hi:Option Int) (n:Nat):(sliceBounds lo hi none n).1=((HT.sIx n 0 lo:Nat):Int)∧(sliceBounds lo hi none n).2.1=((HT.sIx n n hi:Nat):Int)∧(sliceBounds lo hi none n).2.2=1:=by
 refine ⟨?_,?_,rfl⟩
 ·cases lo with
  | none=>simp [sliceBounds,HT.sIx]
  | some i =>
   simp only [sliceBounds,HT.sIx,Option.getD_none,show (1:Int) > 0 by decide,if_true]
   by_cases h:i < 0
   ·simp only [h,if_true] <;> omega
   ·simp only [h,if_false] <;> omega
 ·cases hi with
  | none=>simp [sliceBounds,HT.sIx]
  | some i =>
   simp only [sliceBounds,HT.sIx,Option.getD_none,show (1:Int) > 0 by decide,if_true]
   by_cases h:i < 0
   ·simp only [h,if_true] <;> omega
   ·simp only [h,if_false] <;> omega
theorem Zo (its:List Value) (lo hi:Option Int):slicePick its.toArray lo hi none=((its.drop (HT.sIx its.length 0 lo)).take (HT.sIx its.length its.length hi - HT.sIx its.length 0 lo)).toArray:=by
 obtain ⟨h1,h2,h3⟩:=Fp lo hi its.toArray.size;unfold slicePick;rw [h1,h2,h3];simp only [sliceRange_one,pick_run,List.size_toArray] <;> rfl
def aaz (K:PySem.W.Frag):V→Option Int→Option Int→Hp→VK→Prop:=fun x lo hi H Q=>∃ a xs,x=.ref a∧bY K H a xs∧∀ p,H p=none→Q (.ref p) (aT H p (.lst (nB xs lo hi)))
theorem B4:nK X (aaz X.K):=by
 intro pins s σ H x v vl vu lo hi sl Q I rx hs pl pu h;obtain ⟨a,xs,rfl,hx,q⟩:=h;cases rx;obtain ⟨its,r,ht,hz⟩:=I.list hx;have hlen:=r.length;refine ⟨"list",_,slot_list_getitem.lookup,ht.isList.typeIs,?_⟩;refine wpAny_getItem_list_slice ht.isList hs pl pu .none (by simp) ?_ (by rw [List.size_toArray] <;> omega);rw [Zo,← hlen];refine ⟨.ref s.heap.objs.size,_,I.laid (t':=s.toks) (o:=.lst (nB xs lo hi)) (fun b ob q=>Heap.get?_push_of_some _ q) (Nat.le_refl _) ?_,rfl,q _ (I.hok.fresh (Nat.le_refl _))⟩;exact ⟨Nat.le_trans (sT xs lo hi) hz,_,0,(r.drop (HT.sIx xs.length 0 lo)).take (HT.sIx xs.length xs.length hi - HT.sIx xs.length 0 lo),Heap.get?_push_size _ rfl⟩
theorem Kp:iA X (.builtin "len") (fun xs H Q=>∃ p ys,xs=[.ref p]∧(bY X.K H p ys∨dC X.K H p ys)∧Q (.int ys.length) H):=by
 intro pins s σ H xs us Q I r h;obtain ⟨p,ys,rfl,hq,q⟩:=h;obtain ⟨u,rfl,rx⟩:=jL r;cases rx;have hn:=rT;rcases hq with hq | hq
 ·obtain ⟨its,r',pl,hz⟩:=I.list hq
  have hlen:=r'.length;exact Calls.call_len_list pl.isList (by simp only [List.size_toArray] <;> omega) ⟨.int ys.length,H,I.tok _,⟨s.toks+1,by rw [List.size_toArray,hlen]⟩,q⟩
 ·obtain ⟨its,r',pl,hz⟩:=I.tuple hq
  have hlen:=r'.length;exact len_tuple pl (by simp only [List.size_toArray] <;> omega) ⟨.int ys.length,H,I.tok _,⟨s.toks+1,by rw [List.size_toArray,hlen]⟩,q⟩
theorem sS:iA X (.type "list") (fun xs H Q=>∃ p ys,xs=[.ref p]∧(bY X.K H p ys∨dC X.K H p ys)∧∀ l,H l=none→Q (.ref l) (aT H l (.lst ys))):=by
 intro pins s σ H xs us Q I r h;obtain ⟨p,ys,rfl,hq,q⟩:=h;obtain ⟨u,rfl,rx⟩:=jL r;cases rx;have fin:∀ (its:List Value),bC ys its→ys.length≤sizeLine→∀ (h':Heap) (c':Nat),(∀ b o',s.heap.get? b=some o'→h'.get? b=some o') →
   h'.get? s.heap.objs.size=some { cls:=.type "list",dict:=none,data:=.seq its.toArray c',slots:=#[] }→EP X pins σ Q (.ref s.heap.objs.size) { s with heap:=h' }:=fun its r' hz h' c' kp e =>
  ⟨.ref s.heap.objs.size,_,I.laid (t':=s.toks) kp (Nat.le_refl _) (show fJ X.prog X.w _ h' _ (.lst ys) from ⟨hz,its,c',r',e⟩),rfl,q _ (I.hok.fresh (Nat.le_refl _))⟩
 rcases hq with hq | hq
 ·obtain ⟨its,r',pl,hz⟩:=I.list hq
  have hlen:=r'.length;obtain ⟨o,ho,hc,n,hd⟩:=pl.isList;exact call_list_seq p (.inl rfl) ho hc hd (fun h' c' kp e=>fin its r' hz h' c' kp e) (by simp only [List.size_toArray] <;> omega)
 ·obtain ⟨its,r',pl,hz⟩:=I.tuple hq
  have hlen:=r'.length;obtain ⟨o,ho,hc,n,hd⟩:=pl;exact call_list_seq p (.inr rfl) ho hc hd (fun h' c' kp e=>fin its r' hz h' c' kp e) (by simp only [List.size_toArray] <;> omega)
theorem Bp:iA X (.type "tuple") (fun xs H Q=>∃ p ys,xs=[.ref p]∧((bY X.K H p ys∧∀ l,H l=none→Q (.ref l) (aT H l (.tup ys)))∨(dC X.K H p ys∧Q (.ref p) H))):=by
 intro pins s σ H xs us Q I r h;obtain ⟨p,ys,rfl,h⟩:=h;obtain ⟨u,rfl,rx⟩:=jL r;cases rx;rcases h with ⟨hq,q⟩ | ⟨hq,q⟩
 ·obtain ⟨its,r',pl,hz⟩:=I.list hq
  have hlen:=r'.length;refine call_tuple_list pl.isList (fun h' kp=>?_) (by simp only [List.size_toArray] <;> omega);have I1:aG X pins σ H { s with heap:=h' }:=I.kept (t':=s.toks) kp;have I2:aG X pins σ (aT H h'.objs.size (.tup ys)) { s with heap:=h'.push { cls:=.type "tuple",data:=.seq its.toArray } } :=
   I1.laid (t':=s.toks) (fun b o e=>Heap.get?_push_of_some _ e) (Nat.le_refl _) (show fJ X.prog X.w _ _ _ (.tup ys) from ⟨hz,its,r',IsTup.new _ _⟩)
  exact ⟨.ref h'.objs.size,_,I2,rfl,q _ (I1.hok.fresh (Nat.le_refl _))⟩
 ·obtain ⟨its,r',pl,hz⟩:=I.tuple hq
  exact call_tuple_same pl ⟨.ref p,H,I,rfl,q⟩
def Nc (K:PySem.W.Frag) (T:String) (x:V) (H:Hp):Prop:=match x with
 | .str _=>T="str"
 | .int _=>T="int"
 | .ref p=>(T="list"∧∃ xs,bY K H p xs)∨(T="tuple"∧∃ o,K.lookup p=some o∧o.cls=.type "tuple"∧o.dict=none) ∨
   (T="dict"∧((∃ kvs,H p=some (.dK kvs))∨∃ kvs,H p=some (.dT kvs)))∨(T="set"∧∃ S n,H p=some (.set S n))
 | _=>False
theorem K8 {pins:List (Addr × Obj)} {σ:St} {H:Hp} {s:Shared} {T:String} {x:V} {v:Value} (I:aG X pins σ H s) (r:bQ x v) (ty:Nc X.K T x H) :
  s.TypeIs v T∧∀ a,v=.ref a→∃ ob,s.heap.get? a=some ob∧ob.dict=none:=by
 cases x with
 | str z =>
  obtain ⟨t,rfl⟩:=r;cases (show T="str" from ty);exact ⟨typeIs_str s z t,fun _ e=>nomatch e⟩
 | int i =>
  obtain ⟨t,rfl⟩:=r;cases (show T="int" from ty);exact ⟨typeIs_int s i t,fun _ e=>nomatch e⟩
 | ref p =>
  cases r;rcases ty with ⟨rfl,xs,hq⟩ | ⟨rfl,o,hk,hc,hd⟩ | ⟨rfl,hk⟩ | ⟨rfl,S,n,hk⟩
  ·obtain ⟨its,_,pl,_⟩:=I.list hq
   refine ⟨pl.isList.typeIs,fun a e=>?_⟩;cases e;obtain ⟨o,n,e,c,hd,_⟩:=pl;exact ⟨o,e,hd⟩
  ·refine ⟨⟨o,I.kIn p o hk,hc⟩,fun a e=>?_⟩
   cases e;exact ⟨o,I.kIn _ o hk,hd⟩
  ·have z:∃ o,s.heap.get? p=some o∧o.ExactDict:=by
    rcases hk with ⟨kvs,hk⟩ | ⟨kvs,hk⟩
    ·obtain ⟨_,_,_,_,o,_,_,e,ex,_⟩:=I.hok p _ hk
     exact ⟨o,e,ex⟩
    ·obtain ⟨_,_,_,_,o,_,_,e,ex,_⟩:=I.hok p _ hk
     exact ⟨o,e,ex⟩
   obtain ⟨o,e,ex⟩:=z;refine ⟨⟨o,e,ex.1⟩,fun a e2=>?_⟩;cases e2;exact ⟨o,e,ex.2.1⟩
  ·obtain ⟨o,_,_,_,e,ex,_⟩:=I.hok p _ hk
   refine ⟨⟨o,e,ex.1⟩,fun a e2=>?_⟩;cases e2;exact ⟨o,e,ex.2.1⟩
 | _=>exact False.elim ty
def tBM (K:PySem.W.Frag) (T:String) (r:V→List V→Hp→VK→Prop) (to:TE) (t:TA):TE:=fun σ H Q=>to σ H fun x H1=>Nc K T x H1∧t σ H1 fun xs H2=>r x xs H2 Q
variable {o e:Expr} {es:List Expr} {to:TE} {t:TA} {name:Str} {apos cpos:Pos} {T id:String} {r:V→List V→Hp→VK→Prop}
theorem Eb (pa:PlainAttrs T) (slot:Slot T name id) (hty:typeOf (.builtin id)=pure (.type "method_descriptor")) (hm:sM X id r) (ho:PE X o to) (ha:PA X (e :: es) t)
  (hbase:attributeBase o name X.env (eval o X.env)=eval o X.env:=by rfl)
  (hfew:((backTo cpos (starEach (e :: es) X.env)).all (fun x=>!x.1) && (backToKw cpos (keywordEach [] X.env)).all (fun x=>x.1.isSome)
   && decide ((e :: es).length+([]:List Keyword).length+(if ([]:List Keyword).isEmpty then 0 else 1) < 30))=true:=by rfl)
  (hline:(apos.endLine == cpos.line)=true:=by rfl) (hs:starEach (e :: es) X.env=(false,eval e X.env) :: starEach es X.env:=by rfl) (hplain:(backTo cpos (starEach es X.env)).any (·.1)=false:=by rfl) :
  PE X (.Call (.Attribute o name apos) (e :: es) [] cpos) (tBM X.K T r to t):=by
 intro pins s σ H Q I h;refine wpAny_Call_method_late hbase hfew hline rfl (bF (ho pins s σ H _ I h) fun v s1 ⟨x,H1,I1,r1,ty,q1⟩=>?_);obtain ⟨h1,h2⟩:=K8 I1 r1 ty;refine ⟨T,id,pa,slot,hty,h1,h2,?_⟩;have hA:=ha cpos pins s1 σ H1 _ I1 q1;rw [hs] at hA ⊢;refine Calls.callWith_builtin (by show (false || (backTo cpos (starEach es X.env)).any (·.1))=false; rw [hplain] <;> rfl) (Calls.evalArgs_plain ?_);exact bF hA fun us s2 ⟨vs,H2,I2,r2,q2⟩=>hm pins s2 σ H2 x vs v us Q I2 r1 r2 q2
end
end L2
namespace L2
open PySem PySem.Spec PyProof.Rows
def Fo (X:Cx) (id:String) (r:V→List V→Hp→VK→Prop):Prop :=
 ∀ (pins:List (Addr × Obj)) (s:Shared) (σ:St) (H:Hp) (x:V) (xs:List V) (v:Value) (us:List Value) (Q:VK),aG X pins σ H s→bQ x v→bC xs us→r x xs H Q →
  wpAny (model X.prog X.w) X.A (call (.builtin id) (v :: us)) (EP X pins σ Q) X.xe s
theorem bC.one:∀ {x:V} {us:List Value},bC [x] us→∃ u,us=[u]∧bQ x u
 | _,_,.cons r .nil=>⟨_,rfl,r⟩
theorem bC.two:∀ {x y:V} {us:List Value},bC [x,y] us→∃ u v,us=[u,v]∧bQ x u∧bQ y v
 | _,_,_,.cons r (.cons q .nil)=>⟨_,_,rfl,r,q⟩
theorem bC.eraseIdx:∀ {xs:List V} {us:List Value} (i:Nat),bC xs us→bC (xs.eraseIdx i) (us.eraseIdx i)
 | _,_,_,.nil=>.nil
 | _,_,0,.cons _ t=>t
 | _,_,i+1,.cons r t=>.cons r (bC.eraseIdx i t)
theorem xZ {α:Type}:∀ (l:List α) (i:Nat),(l.eraseIdx i).length≤l.length
 | [],_=>Nat.le_refl _
 | _ :: _,0=>Nat.le_succ _
 | _ :: r,i+1=>Nat.succ_le_succ (xZ r i)
section
variable {X:Cx} {pins:List (Addr × Obj)} {σ:St} {H:Hp} {s:Shared} {l b:Addr} {xs ys zs:List V}
theorem aG.lset {its its':List Value} {n:Nat} {f:Array Value→Array Value} {t':Nat} (I:aG X pins σ H s) (hH:H l=some (.lst xs))
  (e:s.heap.get? l=some { cls:=.type "list",data:=.seq its.toArray n }) (hf:f its.toArray=its'.toArray) (hv:bC ys its') (hz:ys.length≤sizeLine) :
  aG X pins σ (aT H l (.lst ys)) { s with heap:=s.heap.update l (Obj.mapSeq f),toks:=t' }:=by
 have q:=PySem.IsL.update e f;rw [hf] at q;refine I.write (x:=l) (e:=l) (by rw [hH]; exact trivial) (.inl rfl) (fun b' u hb hu=>(Heap.get?_update_other s.heap (Obj.mapSeq f) (Ne.symm hb)).trans hu) ⟨_,q⟩ ?_;exact ⟨hz,its',_,hv,q⟩
theorem aG.lnew {its:List Value} {t':Nat} (I:aG X pins σ H s) (hv:bC ys its) (hz:ys.length≤sizeLine) :
  aG X pins σ (aT H s.heap.objs.size (.lst ys)) { s with heap:=s.heap.push { cls:=.type "list",data:=.seq its.toArray },toks:=t' } :=
 I.laid (fun _ _ q=>Heap.get?_push_of_some _ q) (Nat.le_refl _) ⟨hz,its,0,hv,Heap.get?_push_size _ rfl⟩
theorem aG.fresh (I:aG X pins σ H s):H s.heap.objs.size=none:=I.hok.fresh (Nat.le_refl _)
theorem aG.lstM (I:aG X pins σ H s) (hH:H l=some (.lst xs)):xs.length≤sizeLine∧∃ (its:List Value) (n:Nat),bC xs its∧xs.length=its.length∧s.heap.get? l=some { cls:=.type "list",data:=.seq its.toArray n }:=by
 obtain ⟨z,its,n,r,e⟩:=I.hok l _ hH;exact ⟨z,its,n,r,r.length,e⟩
end
section
variable {X:Cx}
def Uy:V→List V→Hp→VK→Prop:=fun x vs H Q=>∃ l xs y,x=.ref l∧vs=[y]∧H l=some (.lst xs)∧xs.length < sizeLine∧Q .non (aT H l (.lst (xs++[y])))
theorem qW:Fo X "list.append" Uy:=by
 intro pins s σ H x vs v us Q I rx rv h;obtain ⟨l,xs,y,rfl,rfl,hH,hz,q⟩:=h;cases rx;obtain ⟨u,rfl,ru⟩:=rv.one;obtain ⟨z,its,n,r,hl,e⟩:=I.lstM hH;refine call_meets F.slot_list_append ⟨_,e,rfl⟩ F.entry_list_append (F.args_list_append_2 _ _) (PySem.list_append l its.toArray n u (by rw [List.size_toArray]; omega)) ⟨e,?_⟩;refine ⟨.non,_,I.lset (its':=its++[u]) hH e (by simp) (r.append (.cons ru .nil)) ?_,rfl,q⟩;rw [List.length_append,List.length_singleton];omega
def E8:V→List V→Hp→VK→Prop:=fun x vs H Q=>∃ l xs i k y,x=.ref l∧vs=[.int i]∧H l=some (.lst xs)∧-(2 ^ 63)≤i∧i < 2 ^ 63∧seqIndex? i xs.length=some k∧xs[k]?=some y∧Q y (aT H l (.lst (xs.eraseIdx k)))
theorem Iu:Fo X "list.pop" E8:=by
 intro pins s σ H x vs v us Q I rx rv h;obtain ⟨l,xs,i,k,y,rfl,rfl,hH,h1,h2,hk,hy,q⟩:=h;cases rx;obtain ⟨u,rfl,ru⟩:=rv.one;obtain ⟨t,rfl⟩:=ru;obtain ⟨z,its,n,r,hl,e⟩:=I.lstM hH;obtain ⟨w,hw,rw'⟩:=r.get hy;refine call_meets F.slot_list_pop ⟨_,e,rfl⟩ F.entry_list_pop (F.args_list_pop_2 _ _)
  (MeetsSeq.list_pop_at l its.toArray n i t k w (fitsIndex_both h1 h2) (by rw [List.size_toArray,← hl]; exact hk) (by rw [← Array.getElem?_toList]; exact hw) (by rw [List.size_toArray]; omega)) ⟨e,?_⟩
 refine ⟨y,_,I.lset (its':=its.eraseIdx k) hH e ?_ (r.eraseIdx k) ?_,rw',q⟩
 ·show its.toArray.eraseIdxIfInBounds k=(its.eraseIdx k).toArray
  rw [List.eraseIdxIfInBounds_toArray]
 ·have:=xZ xs k
  omega
end
section
variable {prog:Program} {w:World} {A:Around} {E:Value→Shared→Prop} {s:Shared}
end
section
variable {X:Cx}
end
end L2
namespace Att
open PySem PySem.W PySem.Calls PyProof.Rows
theorem Uo {P:Params} {h:Heap}:∀ (ns:List Int) (vs:List Value),WellAll P h vs (ns.map WData.int)→IntsAre vs ns:=by
 intro ns
 induction ns with
 | nil =>
  intro vs w;rw [List.map_nil] at w;cases w;exact .nil
 | cons n ns ih =>
  intro vs w;rw [List.map_cons] at w;cases w with
  | cons a b =>
   cases a;exact .cons _ _ (ih _ b)
theorem Mr {l:OpenLaw} {n:Nat} (hn:l.most=some n) {P:Params} {h:Heap} {args:List WData} {vals:List Value}
  (hpre:l.row.toRowW.claim.pre args=true) (hwl:WellAll P h vals args) :
  ∃ a vs ns,vals=[Value.ref a]∧args=[WData.list (ns.map WData.int)]∧h.get? a=some { cls:=.type "list",data:=.seq vs.toArray }∧IntsAre vs ns∧ns.length≤n:=by
 have hsh:WShape.hasAll [] args [.list .int]=true:=(pre_splitW hpre).1;have hc:l.pre.holds [] { args:=args }=true:=(pre_splitW hpre).2;obtain ⟨d,r,rfl,h1,h2⟩:=hasAllW_cons hsh;obtain rfl:=hasAllW_nil h2;obtain ⟨xs,rfl,h3⟩:=hasW_list h1;obtain ⟨ns,rfl⟩:=items_int h3;have hlen:ns.length≤n:=by
  unfold OpenLaw.pre at hc;have h4:(WTm.not (.lt (.lit (.int (n:Int))) (.len (.arg 0)))).holds [] { args:=[.list (ns.map .int)] }=true:=by
   have h4:=(holds_andW hc).1;rw [hn] at h4;exact h4
  have h5:=condW_of h4 (w_not (w_lt w_lit (w_len_list (w_arg rfl))));rw [List.length_map] at h5;refine Nat.le_of_not_lt fun q=>?_;have q':(n:Int) < ((ns.length:Nat):Int):=by omega
  first
   | (rw [decide_eq_true q'] at h5; exact absurd h5 (by decide))
   | (simp at h5; omega)
 cases hwl with
 | cons w1 w2 =>
  cases w2;cases w1 with
  | list ho hall=>exact ⟨_,_,ns,rfl,rfl,ho,Uo ns _ hall,hlen⟩
theorem Xs (l:OpenLaw) (args:List WData):l.row.toRowW.claim.post args (.bool true) args=true :=
 postW_of (r:=l.row.toRowW) (X:=(true == true))
  (show WShape.has [] (.bool true) .bool=true by first | rfl | decide | simp [WShape.has,WShape.arms,WShape.armsAll])
  (show (WTm.eq .res (.lit (.bool true))).value [] { args:=args,res:=some (.bool true),after:=args }=some (.bool (true == true)) from w_eq_bool (w_res rfl) w_lit) rfl
theorem attach_call {l:OpenLaw} {n:Nat} {q:Program} {loose:List Str} {XP:(Str→Option Value)→Heap→Prop} {YP:World→Heap→Prop} {d:DefRec}
  (hn:l.most=some n) (hdf:d.params.defaults=[])
  (call:∀ (w:World) (s₀ s₁:Shared) (mg mb:Str→Option Value) (fa:Addr) (o:Obj) (pm cd doc:Value) (a:Addr) (vs:List Value) (ns:List Int),
   Ground q loose [] XP w s₀ mg mb s₁.heap→YP w s₁.heap →
   s₁.heap.get? fa=some o→o.data=.func (docDef d.name d.params d.body d.scope pm cd doc)→s₁.heap.CodeRec cd d.name→mg d.name=some (.ref fa) →
   s₁.heap.get? a=some { cls:=.type "list",data:=.seq vs.toArray }→IntsAre vs ns→ns.length≤n→s₁.gens=#[] →
   codeAny (model l.prog w) callerA (.call (.ref fa) ⟨[.ref a],[]⟩) (fun r s'=>r=.ok (.ret (.bool true))∧OldK s₁.heap s'.heap∧s'.os=s₁.os∧AllBare s'.gens) s₁) :
  WalkO q loose XP YP l.row.toRowW d [] (fun f vs=>PySem.call f vs):=by
 intro w s₀ s₁ mg mb G Y fa o pm cd doc dV kV ho hd hcd hD hmg hg args vals as hpre hlay hrd hwl hlo;obtain rfl:dV=.none:=Dflts.none hD hdf;obtain rfl:kV=.none:=Dflts.noKw hD;obtain ⟨a,vs,ns,rfl,rfl,hobj,hints,hlen⟩:=Mr hn hpre hwl;refine enter_call (codeAny_mono (call w s₀ s₁ mg mb fa o pm cd doc a vs ns G Y ho (fd_plain hd) hcd hmg hobj hints hlen hg) fun r s' hq=>?_);obtain ⟨rfl,h2,h3,h4⟩:=hq;exact ⟨.inl ⟨.bool true,.bool true,[],rfl,fun _=>rfl,.bool true,Xs l _,fun _=>⟨List.Pairwise.nil,fun _ hm=>(nomatch hm)⟩⟩,h2,h3,h4⟩
section
variable {prog:Program} {w:World} {A:Around} {E:Value→Shared→Prop} {s:Shared} {K:Frag}
end
end Att
namespace L2
open PySem PySem.Spec PyProof.Rows
theorem Af:∀ {vs:List Value} {ns:List Int},IntsAre vs ns→bC (ns.map V.int) vs
 | _,_,.nil=>.nil
 | _,_,.cons n t h=>.cons ⟨t,rfl⟩ (Af h)
def Qb (H:Hp):Prop:=∀ b,H b=none∨∃ o xs,H b=some (.frz o (.lst xs))
theorem Vu {P:Program} {w:World} {K:PySem.W.Frag} {mg mb:Str→Option Value} {CX:iR} {k:Nat} {fa a:Addr} {fd:FuncData} {x:Str} {sp:Sp} {s₁:Shared} {vs:List Value} {ns:List Int}
  (KX:K.In s₁.heap) (hns:s₁.heap.Ns mainGlobals mg) (hb:s₁.heap.Ns builtinsNs mb) (hbb:∀ x:Str,x≠"__name__"→mb x=bootBuiltins x) (hlim:s₁.heap.NoLimit) (hg:s₁.gens=#[])
  (ha:s₁.heap.get? a=some { cls:=.type "list",data:=.seq vs.toArray }) (hi:IntsAre vs ns) (hl:ns.length≤sizeLine) (hr:eH k callerA)
  (F:∀ base:Heap,K.In base→base.Ns mainGlobals mg→fR P w K mg base CX k fa fd [x] sp) (hbind:∀ (s:Shared) (u:Value),BindsTo s fd ⟨[u],[]⟩ [(x,u)])
  (hsp:∀ H:Hp,Qb H→bY K H a (ns.map V.int)→sp [.ref a] H (fun v _=>v=.bl true) fun _ _ _=>False)
  (hCX:∀ H e s',CX [] H s₁ (fun _ _ _=>False) e s'→False) :
  codeAny (model P w) callerA (.call (.ref fa) ⟨[.ref a],[]⟩) (fun r s'=>r=.ok (.ret (.bool true))∧OldK s₁.heap s'.heap∧s'.os=s₁.os∧AllBare s'.gens) s₁:=by
 have rv:=Af hi;have lenV:=hi.length
 -- from an abstract heap in which nothing but the script may be tracked
 have core:∀ H:Hp,Qb H→bY K H a (ns.map V.int)→eU P w H s₁.heap→(∀ b,H b≠none→b=a)→(H a≠none→K.lookup a=none) →
   codeAny (model P w) callerA (.call (.ref fa) ⟨[.ref a],[]⟩) (fun r s'=>r=.ok (.ret (.bool true))∧OldK s₁.heap s'.heap∧s'.os=s₁.os∧AllBare s'.gens) s₁:=by
  intro H hO hS hok hA hK;have base_of:∀ {b:Addr} {o:Obj},s₁.heap.get? b=some o→H b=none→(lZ s₁.heap H).get? b=some o:=fun e n=>Lu e n;have noA:∀ {b:Addr} {o:Obj} {es:Array DictEntry} {ep:Nat},s₁.heap.get? b=some o→o.data=.dict es ep→H b=none:=fun {b o es ep} e d=>by
   cases q:H b with
   | none=>rfl
   | some u =>
    have e':b=a:=hA b (by rw [q]; simp);subst e';rw [ha] at e; cases e;have d':Data.seq vs.toArray _=Data.dict es ep:=d;cases d'
  have nsK:∀ {b:Addr} {m:Str→Option Value},s₁.heap.Ns b m→(lZ s₁.heap H).Ns b m:=fun {b m} ⟨o,es,ep,e,d,r⟩=>⟨o,es,ep,base_of e (noA e d),d,r⟩;have hKb:K.In (lZ s₁.heap H):=fun b o e=>base_of (KX b o e) (by
   cases q:H b with
   | none=>rfl
   | some u =>
    have e':b=a:=hA b (by rw [q]; simp);subst e';rw [hK (by rw [q]; simp)] at e; cases e)
  have hM:Mod K mg (lZ s₁.heap H):=⟨hKb,nsK hns,⟨mb,nsK hb,hbb⟩,let ⟨mc,h1,h2⟩:=hlim; ⟨mc,nsK h1,h2⟩⟩;have e0:vD P w K mg (lZ s₁.heap H) callerA [] s₁ H:=⟨rfl,hM,fun b o e=>Wy e,Nat.le_of_eq (Qr _ _),trivial,fun b hb=>absurd (show b∈([]:List Addr) from hb) (by simp),hok,.of_eq hg⟩;refine codeAny_mono ((F _ hKb (nsK hns)).run callerA [] s₁ H ⟨[.ref a],[]⟩ [.ref a] [.ref a] _ _ hr e0 (hbind s₁ (.ref a)) (.cons rfl .nil) (hsp H hO hS)) fun r s' h=>?_;cases r with
  | error e=>exact (hCX H e s' h).elim
  | ok fl =>
   cases fl with
   | next=>exact False.elim h
   | brk=>exact False.elim h
   | cont=>exact False.elim h
   | ret u =>
    obtain ⟨v,H',os,bare,un,hok',r',q⟩:=h;have q':v=.bl true:=q;subst q';obtain rfl:u=Value.bool true:=r';refine ⟨rfl,OldK.of_keep fun b o e=>?_,os,bare⟩;cases q:H b with
    | none=>exact un.keep b o e q (by intro z; exact absurd (show b∈([]:List Addr) from z) (by simp)) (by simp)
    | some u =>
     rcases hO b with z | ⟨ob,xs,z⟩
     ·rw [q] at z; cases z
     ·have z2:=un.frzs b ob _ z
      obtain ⟨e1,_⟩:=hok b _ z;obtain ⟨e2,_⟩:=hok' b _ z2;rw [e] at e1; cases e1;exact e2
 cases hk:K.lookup a with
 | some o =>
  -- the script is one of the module's own objects
  have e:=KX a o hk;rw [ha] at e;cases e;refine core (fun _=>none) (fun _=>.inl rfl) (.inr ⟨_,vs.toArray,_,hk,rfl,rfl,rfl,by rw [List.size_toArray,lenV]; exact hl,by simpa using rv⟩) (fun b u z=>by have z':(none:Option HO)=some u:=z; cases z') (fun b z=>absurd rfl z) fun z=>absurd rfl z
 | none =>
  refine core (fun b=>if b=a then some (.frz { cls:=.type "list",data:=.seq vs.toArray } (.lst (ns.map V.int))) else none) (fun b=>?_) (.inl (.inr ⟨{ cls:=.type "list",data:=.seq vs.toArray },if_pos rfl⟩)) (fun b u z=>?_) (fun b z=>?_) fun _=>hk
  ·by_cases hb:b=a
   ·exact .inr ⟨_,_,if_pos hb⟩
   ·exact .inl (if_neg hb)
  ·by_cases hb:b=a
   ·have z':=(if_pos hb).symm.trans z
    cases z';subst hb;exact ⟨ha,by rw [List.length_map]; exact hl,vs,_,rv,ha⟩
   ·have z':=(if_neg hb).symm.trans z
    cases z'
  ·by_cases hb:b=a
   ·exact hb
   ·exact absurd (if_neg hb) z
end L2
namespace L2
open PySem PySem.Spec PyProof.Rows
theorem walk_of {l:PySem.W.OpenLaw} {n k:Nat} {q:Program} {loose:List Str} {XP:(Str→Option Value)→Heap→Prop} {YP:World→Heap→Prop} {d:DefRec} {K:Params→PySem.W.Frag} {CX:World→iR} {sp:World→Sp} {x:Str}
  (hn:l.most=some n) (hn2:n≤sizeLine) (hdf:d.params.defaults=[]) (hr:eH k callerA)
  (hY:∀ (w:World) (h:Heap),YP w h→(K w.params).In h)
  (F:∀ (w:World) (mg:Str→Option Value) (fa:Addr) (h:Heap),(K w.params).In h→h.Ns mainGlobals mg→mg d.name=some (.ref fa) →
   ∃ fd:FuncData,(∀ (s:Shared) (u:Value),BindsTo s fd ⟨[u],[]⟩ [(x,u)]) ∧
    ∀ base:Heap,(K w.params).In base→base.Ns mainGlobals mg→fR l.prog w (K w.params) mg base (CX w) k fa fd [x] (sp w))
  (hsp:∀ (w:World) (H:Hp) (a:Addr) (ns:List Int),ns.length≤n→Qb H→bY (K w.params) H a (ns.map V.int)→sp w [.ref a] H (fun v _=>v=.bl true) fun _ _ _=>False)
  (hCX:∀ (w:World) (H:Hp) (s:Shared) (e:Value) (s':Shared),CX w [] H s (fun _ _ _=>False) e s'→False) :
  PySem.W.WalkO q loose XP YP l.row.toRowW d [] (fun f vs=>PySem.call f vs):=by
 refine Att.attach_call hn hdf fun w s₀ s₁ mg mb fa o pm cd doc a vs ns G Y ho hd hcd hmg hobj hints hlen hg=>?_;have KX:=hY w _ Y;obtain ⟨fd,hb,hF⟩:=F w mg fa _ KX G.T.g hmg;exact Vu KX G.T.g G.T.b G.T.builtins G.T.nolimit hg hobj hints (Nat.le_trans hlen hn2) hr hF hb (fun H hO hS=>hsp w H a ns hlen hO hS) fun H e s'=>hCX w H s₁ e s'
end L2
namespace L2
open PySem PySem.Spec PyProof.Rows
abbrev fB:iR:=fun _ _ _ _ _ _=>False
abbrev E0:XK:=fun _ _ _=>False
theorem Cb {X:Cx}:Ba fB X E0:=fun _ _ _ _ _ _ _ h=>h.elim
structure jQ (K:PySem.W.Frag) (x qual:Str) (st:Stmt) (f:Addr) (fd:FuncData):Prop where
 ex:∃ (oc:Value) (od:Option Addr) (kV doc pm:Value) (an:Option Addr) (cdv ct:Value) (osl:Array (Option Value)),
  fd=PySem.W.fnOf x qual (jF st) (gB st) (eB st) .none kV doc pm an cdv ct∧K.lookup f=some ⟨oc,od,.func fd,osl⟩∧PySem.W.codeIn K cdv qual=true
 kp:PySem.W.keepIn K (.ref f)=true
section
variable {P:Program} {w:World} {K:PySem.W.Frag} {mg:Str→Option Value} {base:Heap}
theorem jQ.ok {x qual:Str} {st:Stmt} {f:Addr} {fd:FuncData} {N ps:List Str} {k:Nat} {sp:Sp} (F:jQ K x qual st f fd) (S:lN N ps (eB st)) (len:∀ vs H Q E,sp vs H Q E→vs.length=ps.length)
  (hbody:∀ (cdv:Value) (A:Around) (outer:List Env) (s:Shared) (H:Hp) (vs:List V) (Q:VK) (E:XK),eH k (A.deeper (envOfC qual (eB st) s.heap.objs.size f cdv))→sp vs H Q E →
   ∃ t,fW (iB fB P w K mg base N qual (eB st) f cdv A outer s H E).nox (gB st) t∧t { nx:=fun _ H'=>Q .non H',rt:=Q } (start N vs) H):fR P w K mg base fB (k+1) f fd ps sp:=by
 obtain ⟨oc,od,kV,doc,pm,an,cdv,ct,osl,rfl,lk,hcd⟩:=F.ex;refine Q7 lk hcd S len fun A outer s H vs Q E hr hsp=>?_;obtain ⟨t,h,q⟩:=hbody cdv A outer s H vs Q E hr hsp;exact ⟨t,h.nox,q⟩
theorem jQ.binds {x qual:Str} {st:Stmt} {f:Addr} {fd:FuncData} {ps:List Str} (F:jQ K x qual st f fd)
  (h:∀ (kV doc pm:Value) (an:Option Addr) (cdv ct:Value) (us:List Value),us.length=ps.length→bindArgs (PySem.W.fnOf x qual (jF st) (gB st) (eB st) .none kV doc pm an cdv ct) ⟨us,[]⟩=pure (ps.zip us)):lU K fd ps []:=by
 obtain ⟨oc,od,kV,doc,pm,an,cdv,ct,osl,rfl,lk,hcd⟩:=F.ex;exact .all (h kV doc pm an cdv ct)
theorem Rm {x qual:Str} {st:Stmt} {f:Addr} {oc:Value} {od an:Option Addr} {osl:Array (Option Value)} {kV doc pm cdv ct:Value} (l:K.lookup f=some ⟨oc,od,.func (PySem.W.fnOf x qual (jF st) (gB st) (eB st) .none kV doc pm an cdv ct),osl⟩)
  (c:PySem.W.codeIn K cdv qual=true) (k:PySem.W.keepIn K (.ref f)=true):jQ K x qual st f (PySem.W.fnOf x qual (jF st) (gB st) (eB st) .none kV doc pm an cdv ct):=⟨⟨oc,od,kV,doc,pm,an,cdv,ct,osl,rfl,l,c⟩,k⟩
end
section
variable {X:Cx}
theorem pv (i:Nat) {x:Str} {pos:Pos} (hN:X.N[i]?=some x:=by rfl) (hv:oQ X.env.scope x:=by first | exact Or.inl rfl | exact Or.inr (Or.inl rfl) | exact Or.inr (Or.inr rfl)) (hd:(x == ("__debug__":Str))=false:=by decide)
  (hcd:(x == ("__classdict__":Str))=false:=by decide):PE X (.Name x pos) (Rn i):=nW hN hv hd hcd
end
def dP (H H':Hp):Prop:=∀ b o,H b=some o→H' b=some o
theorem dP.refl (H:Hp):dP H H:=fun _ _ h=>h
end L2
namespace Bn
def Bd (k:Nat) (i:Int):Prop:=i.natAbs < 2 ^ k
theorem Bd.mono {j k:Nat} {i:Int} (h:Bd j i) (l:j≤k):Bd k i:=Nat.lt_of_lt_of_le h (Nat.pow_le_pow_right (by decide) l)
theorem Bd.mul {j k:Nat} {a b:Int} (h:Bd j a) (g:Bd k b):Bd (j+k) (a*b):=by
 unfold Bd at *;rw [Int.natAbs_mul,Nat.pow_add];exact Nat.mul_lt_mul'' h g
theorem Bd.add {k:Nat} {a b:Int} (h:Bd k a) (g:Bd k b):Bd (k+1) (a+b):=by
 unfold Bd at *;rw [Nat.pow_succ];have:=Int.natAbs_add_le a b;omega
theorem Bd.neg {k:Nat} {a:Int} (h:Bd k a):Bd k (-a):=by
 unfold Bd at *;rw [Int.natAbs_neg];exact h
theorem Bd.sub {k:Nat} {a b:Int} (h:Bd k a) (g:Bd k b):Bd (k+1) (a - b):=by
 rw [Int.sub_eq_add_neg];exact h.add g.neg
theorem Bd.le {k:Nat} {a b:Int} (h:Bd k b) (l:a.natAbs≤b.natAbs):Bd k a:=Nat.lt_of_le_of_lt l h
theorem Bd.of {k n:Nat} {a:Int} (l:a.natAbs≤n) (h:n < 2 ^ k):Bd k a:=Nat.lt_of_le_of_lt l h
theorem Bd.log {k:Nat} {a:Int} (h:Bd k a) (hk:0 < k):a.natAbs.log2 < k:=by
 rcases Nat.eq_zero_or_pos a.natAbs with z | z
 ·rw [z]
  exact Nat.lt_of_le_of_lt (Nat.le_of_eq (by decide)) hk
 ·exact (Nat.log2_lt (Nat.ne_of_gt z)).mpr h
theorem Fg (a:Int) {b:Int} (h:b≠0):(a.fmod b).natAbs < b.natAbs:=by
 rw [Int.fmod_eq_emod];have h1:=Int.emod_nonneg a h;have h2:a % b < (b.natAbs:Int):=Int.emod_lt a h
 by_cases c:0≤b∨b ∣ a
 ·rw [if_pos c]
  omega
 ·rw [if_neg c]
  have hb:b < 0:=by omega
  have h3:a % b≠0:=fun z=>c (.inr (Int.dvd_of_emod_eq_zero z));have h4:b.natAbs=(-b).toNat:=by omega
  omega
theorem Nh (a b:Int):Int.gcd b (a.fmod b)=Int.gcd a b:=by
 rw [Int.fmod_def,Int.mul_comm,Int.gcd_sub_mul_right_right,Int.gcd_comm]
theorem Ia (x:Int):(if x < 0 then -x else x)=(x.natAbs:Int):=by
 split <;> omega
end Bn
namespace Bn
def gl:List Int→Int→Int
 | [],g=>g
 | n :: r,g=>gl r (Int.gcd g n:Nat)
def low (ns:List Int):List Int:=if gl ns 0=0 then ns else ns.map (· / gl ns 0)
theorem Za:∀ (ns:List Int) (g:Int),0≤g→0≤gl ns g
 | [],_,h=>h
 | _ :: r,_,_=>Za r _ (Int.natCast_nonneg _)
theorem Rl (k:Int):∀ (ns:List Int) (g:Int),0≤g→gl (ns.map (k*·)) ((k.natAbs:Int)*g)=(k.natAbs:Int)*gl ns g
 | [],_,_=>rfl
 | n :: r,g,h=>by
  show gl (r.map (k*·)) ((Int.gcd ((k.natAbs:Int)*g) (k*n):Nat):Int)=(k.natAbs:Int)*gl r _;have e:((Int.gcd ((k.natAbs:Int)*g) (k*n):Nat):Int)=(k.natAbs:Int)*((Int.gcd g n:Nat):Int):=by
   rcases Int.natAbs_eq k with q | q
   ·rw [← q,Int.gcd_mul_left]
    have:(k.natAbs:Int)=k:=q.symm
    push_cast
    rw [this]
   ·have e2:k*n=(k.natAbs:Int)*(-n):=by rw [Int.mul_neg,← Int.neg_mul,← q]
    rw [e2,Int.gcd_mul_left,Int.gcd_neg]
    push_cast
    simp
  rw [e];exact Rl k r _ (Int.natCast_nonneg _)
theorem tN (k:Int) (ns:List Int):gl (ns.map (k*·)) 0=(k.natAbs:Int)*gl ns 0:=by
 have:=Rl k ns 0 (Int.le_refl 0)
 rwa [Int.mul_zero] at this
theorem xV {k:Int} (h:0 < k) (ns:List Int):gl ns 0≠0→low (ns.map (k*·))=low ns:=fun z=>by
 have hk:(k.natAbs:Int)=k:=by omega
 have e:=tN k ns;rw [hk] at e;have nz:k*gl ns 0≠0:=Int.mul_ne_zero (by omega) z;unfold low;rw [e,if_neg nz,if_neg z,List.map_map];refine List.map_congr_left fun n _=>?_;show k*n / (k*gl ns 0)=n / gl ns 0;exact Int.mul_ediv_mul_of_pos _ _ h
theorem iX:∀ (ns:List Int) (g:Int),gl ns g ∣ g∧∀ n∈ns,gl ns g ∣ n
 | [],g=>⟨Int.dvd_refl g,fun _ h=>nomatch h⟩
 | m :: r,g=>by
  obtain ⟨h1,h2⟩:=iX r ((Int.gcd g m:Nat):Int);refine ⟨Int.dvd_trans h1 (Int.gcd_dvd_left ..),fun n hn=>?_⟩;rcases List.mem_cons.mp hn with q | q
  ·subst q
   exact Int.dvd_trans h1 (Int.gcd_dvd_right ..)
  ·exact h2 n q
theorem zK {ns:List Int} (h:gl ns 0=0):∀ n∈ns,n=0:=fun n hn=>by
 have:=(iX ns 0).2 n hn;rw [h] at this;exact Int.zero_dvd.mp this
theorem Db {ns:List Int} {n:Int} (hn:n∈ns) (h:n≠0):gl ns 0≠0:=fun z=>h (zK z n hn)
theorem zV {ns:List Int} {n:Int} (hn:n∈ns) (h:n≠0):0 < gl ns 0:=by
 have h1:=Za ns 0 (Int.le_refl 0);have h2:=Db hn h;omega
theorem Fm {ns:List Int} {n:Int} (hn:n∈ns) (h:n≠0):low ns=ns.map (· / gl ns 0):=by
 unfold low;rw [if_neg (Db hn h)]
theorem Bd.gcd {k:Nat} {a b:Int} (h:Bd k a) (g:Bd k b):Bd k (Int.gcd a b:Nat):=by
 unfold Bd at *;rw [Int.natAbs_natCast];rcases Nat.eq_zero_or_pos a.natAbs with z | z
 ·have:a=0:=by omega
  subst this;rw [Int.gcd_zero_left];exact g
 ·exact Nat.lt_of_le_of_lt (Nat.gcd_le_left _ z) h
theorem Bb {k:Nat}:∀ {ns:List Int} {g:Int},Bd k g→(∀ n∈ns,Bd k n)→Bd k (gl ns g)
 | [],_,h,_=>h
 | n :: r,g,h,hn=>by
  show Bd k (gl r _);exact Bb (ns:=r) (h.gcd (hn n List.mem_cons_self)) fun m hm=>hn m (List.mem_cons_of_mem _ hm)
theorem Kl {k:Nat} {ns:List Int} (h:∀ n∈ns,Bd k n):∀ n∈low ns,Bd k n:=fun n hn=>by
 unfold low at hn
 by_cases c:gl ns 0=0
 ·rw [if_pos c] at hn
  exact h n hn
 ·rw [if_neg c] at hn
  obtain ⟨m,hm,rfl⟩:=List.mem_map.mp hn;refine (h m hm).le ?_;have d:=(iX ns 0).2 m hm;obtain ⟨q,e⟩:=d;rw [e,Int.mul_ediv_cancel_left _ c,Int.natAbs_mul];exact Nat.le_mul_of_pos_left _ (by omega)
theorem Ck (ns:List Int):(low ns).length=ns.length:=by
 unfold low;split
 ·rfl
 ·rw [List.length_map]
def fr (t b:Int):List Int:=if b < 0 then low [0 - t,0 - b] else low [t,b]
theorem vI (a b:Int):b∈[a,b]:=List.mem_cons_of_mem _ List.mem_cons_self
theorem Hy (ns:List Int):gl (ns.map (-1*·)) 0=gl ns 0:=by
 have:=tN (-1) ns;simpa using this
theorem aap {t b:Int} (h:b≠0):∃ p q:Int,fr t b=[p,q]∧0 < q∧p*b=t*q:=by
 have go:∀ {t b:Int},0 < b→∃ p q:Int,low [t,b]=[p,q]∧0 < q∧p*b=t*q:=fun {t b} hb=>by
  have nz:b≠0:=by omega
  have gp:=zV (vI t b) nz;refine ⟨t / gl [t,b] 0,b / gl [t,b] 0,Fm (vI t b) nz,?_,?_⟩
  ·obtain ⟨m,e⟩:=(iX [t,b] 0).2 b (vI t b)
   have:b / gl [t,b] 0=m:=by
    conv=>lhs; lhs; rw [e]
    exact Int.mul_ediv_cancel_left _ (by omega)
   rw [this];have hm:0 < m*gl [t,b] 0:=by rw [Int.mul_comm,← e]; exact hb
   exact Int.pos_of_mul_pos_left hm gp
  ·obtain ⟨m,e⟩:=(iX [t,b] 0).2 b (vI t b)
   obtain ⟨n,f⟩:=(iX [t,b] 0).2 t List.mem_cons_self;have e1:b / gl [t,b] 0=m:=by
    conv=>lhs; lhs; rw [e]
    exact Int.mul_ediv_cancel_left _ (by omega)
   have e2:t / gl [t,b] 0=n:=by
    conv=>lhs; lhs; rw [f]
    exact Int.mul_ediv_cancel_left _ (by omega)
   rw [e1,e2]
   conv=>lhs; rhs; rw [e]
   conv=>rhs; lhs; rw [f]
   rw [Int.mul_left_comm,Int.mul_assoc]
 unfold fr
 by_cases c:b < 0
 ·rw [if_pos c]
  obtain ⟨p,q,e1,e2,e3⟩:=go (t:=0 - t) (b:=0 - b) (by omega);refine ⟨p,q,e1,e2,?_⟩;rw [Int.zero_sub,Int.zero_sub,Int.mul_neg,Int.neg_mul] at e3;omega
 ·rw [if_neg c]
  exact go (by omega)
def sg (n:Int):Int:=if 0 < n then 1 else if n < 0 then -1 else 0
theorem Rv (b:Int):-(2 ^ 64) < sg b∧sg b < 2 ^ 64:=by
 unfold sg;split
 ·decide
 ·split <;> decide
theorem Yq {g n:Int} (h:g≠0):(g*n).fdiv g=n:=by
 rw [Int.fdiv_eq_ediv_of_dvd ⟨n,rfl⟩,Int.mul_ediv_cancel_left _ h]
theorem Xj (n:Int):∀ (l:List Int) (g:Int),gl (l++[n]) g=(Int.gcd (gl l g) n:Nat)
 | [],g=>rfl
 | m :: r,g=>Xj n r _
theorem Wv {k m:Int} (hk:0 < k) (hm:0 < m) {A B:List Int} (hA:gl A 0≠0) (e:A.map (k*·)=B.map (m*·)):low A=low B:=by
 have hB:gl B 0≠0:=fun z=>by
  have h:=tN k A;rw [e,tN m B,z,Int.mul_zero] at h;have:(k.natAbs:Int)*gl A 0≠0:=Int.mul_ne_zero (by omega) hA;exact this h.symm
 rw [← xV hk A hA,e,xV hm B hB]
theorem Tl (b:Int):∀ (ns:List Int) (g:Int),gl ns (Int.gcd g b:Nat)=(Int.gcd (gl ns g) b:Nat)
 | [],_=>rfl
 | n :: r,g=>by
  show gl r ((Int.gcd ((Int.gcd g b:Nat):Int) n:Nat):Int)=((Int.gcd (gl r _) b:Nat):Int);rw [← Tl b r,Int.gcd_assoc,Int.gcd_comm b n,← Int.gcd_assoc]
theorem zD {ns:List Int} {b:Int} (hb:0 < b):gl (ns++[b]) 0=gl ns b:=by
 rw [Xj,← Tl,Int.gcd_zero_left];congr 1;omega
theorem nT (ns:List Int) (b:Int):b∈ns++[b]:=List.mem_append_right _ List.mem_cons_self
theorem J1 {ns:List Int} {b:Int} (hb:0 < b):low (ns++[b])=(ns.map fun n=>n.fdiv (gl ns b))++[b.fdiv (gl ns b)]∧0 < gl ns b:=by
 have gp:=zV (nT ns b) (by omega);rw [zD hb] at gp;refine ⟨?_,gp⟩;rw [Fm (nT ns b) (by omega),zD hb,List.map_append];have e:∀ n:Int,n / gl ns b=n.fdiv (gl ns b):=fun n=>(Int.fdiv_eq_ediv_of_nonneg n (Int.le_of_lt gp)).symm;simp only [e,List.map_cons,List.map_nil]
theorem Ma (ns:List Int) {b:Int} (hb:0 < b):∃ (zs:List Int) (z g:Int),low (ns++[b])=zs++[z]∧0 < g∧0 < z∧ns=zs.map (g*·)∧b=g*z∧zs.length=ns.length:=by
 obtain ⟨e,gp⟩:=J1 (ns:=ns) hb;have dv:=iX (ns++[b]) 0;rw [zD hb] at dv;have ex:∀ n∈ns++[b],gl ns b*n.fdiv (gl ns b)=n:=fun n hn=>by
  obtain ⟨q,e⟩:=dv.2 n hn
  conv=>lhs; rhs; rw [e]
  rw [Yq (by omega)];exact e.symm
 refine ⟨_,_,gl ns b,e,gp,?_,?_,(ex b (nT ns b)).symm,List.length_map _⟩
 ·have h:=ex b (nT ns b)
  have:0 < b.fdiv (gl ns b)*gl ns b:=by rw [Int.mul_comm,h]; exact hb
  exact Int.pos_of_mul_pos_left this gp
 ·rw [List.map_map]
  conv=>lhs; rw [← List.map_id ns]
  refine List.map_congr_left fun n hn=>?_;exact (ex n (List.mem_append_left _ hn)).symm
theorem Gj (ns:List Int) {b:Int} (hb:0 < b):low (low (ns++[b]))=low (ns++[b]):=by
 obtain ⟨zs,z,g,e,hg,hz,e1,e2,_⟩:=Ma ns hb;rw [e];refine Wv (k:=g) (m:=1) hg (by decide) (Db (nT zs z) (by omega)) ?_ |>.trans e;rw [List.map_append,← e1];show ns++[g*z]=(ns++[b]).map (1*·);rw [← e2]
 conv=>lhs; rw [← List.map_id (ns++[b])]
 refine List.map_congr_left fun n _=>?_;exact (Int.one_mul n).symm
end Bn
namespace Bn
def sm (xs:List Int) (w:Int) (ys:List Int) (v:Int):List Int:=List.zipWith (fun x y=>x*v+y*w) xs ys
theorem Nn {xs ys:List Int} {f g:Int→Int→Int} (h:∀ x y,f x y=g x y):List.zipWith f xs ys=List.zipWith g xs ys:=by
 have:f=g:=funext fun x=>funext fun y=>h x y;rw [this]
theorem Iq (xs:List Int) (w:Int) (ys:List Int) (v:Int):List.zipWith (fun x y=>1*x*v+y*w) xs ys=sm xs w ys v:=Nn fun x y=>by rw [Int.one_mul]
theorem Np (xs:List Int) (w:Int) (ys:List Int) (v:Int):List.zipWith (fun y x=>-1*y*w+x*v) ys xs=sm xs w (ys.map (- ·)) v:=by
 unfold sm;rw [List.zipWith_map_right,List.zipWith_comm];refine Nn fun x y=>?_;rw [Int.neg_mul,Int.one_mul];exact Int.add_comm _ _
end Bn
namespace L2
open PySem PySem.Spec PyProof.Rows Bn
section
variable {X:Cx}
theorem Pk {k:Nat} {i:Int} (h:Bd k i):Builtin.Int.intBits i≤k:=by
 unfold Builtin.Int.intBits;split
 ·exact Nat.zero_le _
 ·rename_i c
  have z:i.natAbs≠0:=by
   intro q;have:i=0:=by omega
   subst this;exact c rfl
  have:=(Nat.log2_lt z).mpr h;omega
def pS (_ j:Int):Prop:=j≠0∧Bd 8000 j
theorem Yv:eF X (binaryOp .FloorDiv) (rI pS fun i j=>.int (i.fdiv j)) :=
 wD fun _ _ _ _ _ _ _ hc q=>floordiv_int hc.1 q (.inl (PyProof.noPylong_of_log2 (Nat.lt_trans (hc.2.log (by decide)) (by decide))))
theorem PS.imp {st:Stmt} {t t':TS} (h:PS X st t) (i:∀ D σ H,t' D σ H→t D σ H):PS X st t':=fun pins s σ H D I q=>h pins s σ H D I (i D σ H q)
theorem fW.imp {st:List Stmt} {t t':TS} (h:fW X st t) (i:∀ D σ H,t' D σ H→t D σ H):fW X st t':=fun pins s σ H D I q=>h pins s σ H D I (i D σ H q)
theorem PE.imp {e:Expr} {t t':TE} (h:PE X e t) (i:∀ σ H Q,t' σ H Q→t σ H Q):PE X e t':=fun pins s σ H Q I q=>h pins s σ H Q I (i σ H Q q)
theorem PT.imp {e:Expr} {t t':TT} (h:PT X e t) (i:∀ σ H Q,t' σ H Q→t σ H Q):PT X e t':=fun pins s σ H Q I q=>h pins s σ H Q I (i σ H Q q)
theorem aG.turnedNew {pins:List (Addr × Obj)} {σ:St} {H:Hp} {s:Shared} {h':Heap} {t':Nat} {ch:List Addr} {a:Addr} {o:HO} (I:aG X pins σ H s) (hf:∀ b∈ch,eW X pins H b)
  (k:∀ b u,b ∉ ch→s.heap.get? b=some u→h'.get? b=some u) (hp:s.heap.objs.size≤a) (new:fJ X.prog X.w (aT H a o) h' a o) :
  aG X pins σ (aT H a o) { s with heap:=h',toks:=t' }:=by
 have hn:H a=none:=I.hok.fresh hp;have nch:∀ b u,H b=some u→b ∉ ch:=fun b u e z=>by
  rw [(hf b z).1] at e;cases e
 have nea:∀ b u,H b=some u→b≠a:=fun b u e=>fF e hn;refine I.step (g':=s.gens) (d':=s.drawn) (ch:=ch) (fun b hb=>?_) (fun b u _ _ hc e _=>k b u hc e) (fun b u _ _ hc e _=>⟨u.slots,k b u hc e⟩) (fun b u _ e n=>?_)
  (fun b u hc e=>⟨u,k b u hc e⟩) (fun b xs e=>?_) (fun b u v e=>?_) (fun b ps e=>⟨#[],?_⟩) (fun m hm=>?_) (fun b u e=>?_) I.bare
 ·obtain ⟨_,f1,_,f3,f4,f5⟩:=hf b hb
  exact ⟨f3,f1,f4,f5⟩
 ·rw [bP (Nat.ne_of_lt (Nat.lt_of_lt_of_le (Heap.lt_size e) hp))]
  exact n
 ·rw [bP (nea b _ e)]
  exact e
 ·rw [bP (nea b _ e)]
  exact e
 ·rw [bP (nea b _ e),e]
  simp
 ·obtain ⟨ob,es,ep,ho,r⟩:=hm
  exact ⟨ob,es,ep,k _ ob (fun z=>(hf _ z).2.1 rfl) ho,r⟩
 ·by_cases hb:b=a
  ·subst hb
   rw [eN] at e;cases e;exact new
  ·rw [bP hb] at e
   refine (I.hok b u e).stay (fun c v hc q=>k c v ?_ q) (fun c q=>?_) fun c xs q=>?_
   ·rcases hc with z | z
    ·rw [z]
     exact nch b u e
    ·exact nch c _ z
   ·rw [bP (nea c _ q)]
    exact q
   ·rw [bP (nea c _ q)]
    exact q
theorem aG.turnedL {pins:List (Addr × Obj)} {σ:St} {H:Hp} {s:Shared} {h':Heap} {t':Nat} {ch:List Addr} (I:aG X pins σ H s) (hf:∀ b∈ch,eW X pins H b)
  (k:∀ b u,b ∉ ch→s.heap.get? b=some u→h'.get? b=some u):aG X pins σ H { s with heap:=h',toks:=t' }:=by
 have nch:∀ b u,H b=some u→b ∉ ch:=fun b u e z=>by
  rw [(hf b z).1] at e;cases e
 refine I.step (g':=s.gens) (d':=s.drawn) (ch:=ch) (fun b hb=>?_) (fun b u _ _ hc e _=>k b u hc e) (fun b u _ _ hc e _=>⟨u.slots,k b u hc e⟩) (fun b u _ e n=>n)
  (fun b u hc e=>⟨u,k b u hc e⟩) (fun b xs e=>e) (fun b u v e=>e) (fun b ps e=>⟨#[],?_⟩) (fun m hm=>?_) (fun b u e=>?_) I.bare
 ·obtain ⟨_,f1,_,f3,f4,f5⟩:=hf b hb
  exact ⟨f3,f1,f4,f5⟩
 ·rw [e]
  simp
 ·obtain ⟨ob,es,ep,ho,r⟩:=hm
  exact ⟨ob,es,ep,k _ ob (fun z=>(hf _ z).2.1 rfl) ho,r⟩
 ·refine (I.hok b u e).stay (fun c v hc q=>k c v ?_ q) (fun c q=>q) fun c xs q=>q
  rcases hc with z | z
  ·rw [z]
   exact nch b u e
  ·exact nch c _ z
end
def Zb (K : PySem.W.Frag) (a : Addr) : It :=
  ⟨fun i H => ∃ xs x, bY K H a xs ∧ xs[i]? = some x,
   fun i H x H' => ∃ p y, H p = none ∧ x = .ref p ∧ H' = aT H p (.tup [.int i, y]) ∧ ∀ xs, bY K H a xs → xs[i]? = some y,
   fun i H => ∃ xs, bY K H a xs ∧ xs.length ≤ i⟩
theorem Vr {P:Program} {w:World} {K:PySem.W.Frag} {elts:List Expr} {x1:Nat} {tp:Pos} (a e it:Addr) (hne:e≠it) :
  pZ P w K (.Tuple elts x1 tp) (Zb K a) [e,it] e (fun i h=>(∃ old,IsEnum h e it (i:Int) old)∧h.IsListIter it a i) where
 mem:=by simp
 obj:=fun i h st b hb=>by
  obtain ⟨⟨old,q⟩,o,e1,c,d⟩:=st;rcases List.mem_cons.mp hb with z | z
  ·subst z
   exact ⟨_,q,fun v z=>nomatch z⟩
  ·have z':b=it:=by simpa using z
   subst z';exact ⟨o,e1,fun v z=>by rw [d] at z; cases z⟩
 keep:=fun i h h' st k=>⟨let ⟨old,q⟩:=st.1; ⟨old,k e (by simp) _ q⟩,st.2.at fun o q=>k it (by simp) o q⟩
 item:=by
  intro X hP hw hK hc i pins s σ H E I hf st hg;subst hP hw hK;obtain ⟨xs,x,hq,hx⟩:=hg;obtain ⟨its,rv,pl,hz⟩:=I.list hq;obtain ⟨u,hu,ru⟩:=rv.get hx;obtain ⟨⟨old,he⟩,hit⟩:=st;refine wpAny_pyNext_enum_item he hit pl.isList (x:=u) (by simpa using hu) hne fun h1 ho1 hit1 ht1 hs1 hk1=>⟨_,rfl,?_⟩;have lt1:e < s.heap.objs.size:=Heap.lt_size he;refine wpAny_letOwnedTupleGo_enum (s:={ s with heap:=h1,toks:=s.toks+1 }) ho1 fun h2 he2 sb2=>?_;have ht2:h2.get? s.heap.objs.size=some { cls:=.type "tuple",data:=.seq #[.int i s.toks,u] }:=(sb2.2 _ (Nat.ne_of_gt lt1)).trans ht1;have I2:aG X pins σ (aT H s.heap.objs.size (.tup [.int i,x])) { s with heap:=h2,toks:=s.toks+1 } :=
   I.turnedNew hf (fun b o hb q=>(sb2.2 b (fun z=>hb (by simp [z]))).trans (hk1 b o (fun z=>hb (by simp [z])) (fun z=>hb (by simp [z])) q)) (Nat.le_refl _)
    ⟨by show 2≤sizeLine; decide,[.int i s.toks,u],.cons ⟨_,rfl⟩ (.cons ru .nil),⟨_,ht2,rfl,_,rfl⟩⟩
  refine ⟨.ref s.heap.objs.size,_,I2,rfl,⟨_,x,I.hok.fresh (Nat.le_refl _),rfl,rfl,fun ys hy=>by rw [I.list_inj hy hq]; exact hx⟩,⟨⟨_,by simpa using he2⟩,hit1.at fun o q=>(sb2.2 it hne.symm).trans q⟩,fun b hb=>?_⟩;have hb':=(hf b hb).1;have lt:b≠s.heap.objs.size:=by
   rcases List.mem_cons.mp hb with z | z
   ·subst z
    exact Nat.ne_of_lt lt1
   ·have z':b=it:=by simpa using z
    subst z';obtain ⟨o,q,_⟩:=hit;exact Nat.ne_of_lt (Heap.lt_size q)
  rw [bP lt];exact hb'
 done:=by
  intro X hP hw hK hc i pins s σ H E I hf st hg;subst hP hw hK;obtain ⟨xs,hq,hx⟩:=hg;obtain ⟨its,rv,pl,hz⟩:=I.list hq;obtain ⟨⟨old,he⟩,hit⟩:=st;have hl:=rv.length;exact wpAny_pyNext_enum_end (I.ok.hd hc) he hit pl.isList (by simp; omega) fun h' eb=>⟨rfl,I.turnedL (t':=s.toks) hf fun b o hb q=>eb b o (fun z=>hb (by simp [z])) q⟩
 self:=fun _ _ _ _ _ st h=>let ⟨_,q⟩:=st.1; wpAny_pyIter_enum q h
section
variable {X:Cx} {elts:List Expr} {x1:Nat} {tp:Pos}
def X5 (K:PySem.W.Frag) (tl:TA):TI:=fun σ H R=>tl σ H fun vs H1=>∃ a,vs=[.ref a]∧(∃ xs,bY K H1 a xs)∧R (Zb K a) H1
theorem Mz {l:Expr} {tl:TA} {p pos:Pos} (hg:Gl X "enumerate") (hm:X.mg "enumerate"=none) (hl:PA X [l] tl) (hs:starEach [l] X.env=[(false,eval l X.env)]:=by rfl) :
  PI X (.Tuple elts x1 tp) (.Call (.Name "enumerate" p) [l] [] pos) (X5 X.K tl):=by
 intro pins s σ H R I h;refine Call_ (oA I hg hm boot_enumerate (PyProof.Rows.callWith_type1 (bF (hl pos pins s σ H _ I h) fun us s1 ⟨vs,H1,I1,r1,q1⟩=>?_) hs rfl));obtain ⟨a,rfl,⟨xs,hq⟩,q⟩:=q1;obtain ⟨u,rfl,ru⟩:=jL r1;cases ru;obtain ⟨its,rv,pl,hz⟩:=I1.list hq;refine call_enumerate_list pl.isList fun h' he hit hsz k=>?_;have I2:aG X pins σ H1 { s1 with heap:=h' }:=I1.kept (t':=s1.toks) k;refine wpAny_pyIter_enum (s:={ s1 with heap:=h' }) he ?_;refine ⟨s1.heap.objs.size+1,[s1.heap.objs.size+1,s1.heap.objs.size],_,_,H1,rfl,I2,Vr a _ _ (Nat.succ_ne_self _),⟨⟨_,he⟩,hit⟩,fun b hb=>?_,q⟩;have hb':s1.heap.objs.size≤b:=by
  rcases List.mem_cons.mp hb with z | z
  ·rw [z]
   exact Nat.le_succ _
  ·have z':b=s1.heap.objs.size:=by simpa using z
   rw [z'];exact Nat.le_refl _
 exact I1.fpOk hb' (I1.hok.fresh hb')
end
end L2
namespace L2
open PySem PySem.Spec PyProof.Rows Bn
def fO (env:Env):List (Str × NameKind)→List (Str × Addr)→List (Str × Addr)
 | [],acc=>acc
 | p :: r,acc=>if (p.2 == .free)=true then fO env r ((p.1,(env.cells.lookup p.1).getD 0) :: acc) else fO env r acc
theorem yV {sc:Scope} {env:Env} (h:∀ p∈sc.names,p.2=.free→∃ c,env.cells.lookup p.1=some c):closureFor sc env=pure (fO env sc.names []):=by
 unfold closureFor;have go:∀ (l:List (Str × NameKind)) (acc:List (Str × Addr)),(∀ p∈l,p.2=.free→∃ c,env.cells.lookup p.1=some c) →
   (forIn l acc (fun x r=>if (x.2 == NameKind.free)=true then do let a ← cellOf env x.1; pure (ForInStep.yield ((x.1,a) :: r)) else pure (ForInStep.yield r)):Sem _)=pure (fO env l acc):=by
  intro l
  induction l with
  | nil=>intro acc _; rfl
  | cons p r ih =>
   intro acc hp;rw [List.forIn_cons];have hr:=fun acc'=>ih acc' fun q hq=>hp q (List.mem_cons_of_mem _ hq)
   by_cases c:(p.2 == NameKind.free)=true
   ·obtain ⟨a,ea⟩:=hp p List.mem_cons_self (by simpa using c)
    have e1:cellOf env p.1=pure a:=by unfold cellOf; rw [ea]
    rw [if_pos c,e1];simp only [pure_bind];rw [hr];show _=pure (if (p.2 == .free)=true then _ else _);rw [if_pos c,ea];rfl
   ·rw [if_neg c]
    simp only [pure_bind];rw [hr];show _=pure (if (p.2 == .free)=true then _ else _);rw [if_neg c]
 have e:=go sc.names [] h;show (forIn sc.names [] _ >>= fun r=>pure r)=_;rw [bind_pure];exact e
theorem sY {env:Env}:∀ (l:List (Str × NameKind)) (acc:List (Str × Addr)),(∀ p∈l,p.2=.free→∃ c,env.cells.lookup p.1=some c) →
  ∀ y c,(fO env l acc).lookup y=some c→acc.lookup y=some c∨env.cells.lookup y=some c
 | [],acc,_,y,c,e=>.inl e
 | p :: r,acc,h,y,c,e=>by
  have hr:∀ q∈r,q.2=.free→∃ c,env.cells.lookup q.1=some c:=fun q hq=>h q (List.mem_cons_of_mem _ hq);unfold fO at e
  by_cases k:(p.2 == NameKind.free)=true
  ·rw [if_pos k] at e
   obtain ⟨a,ea⟩:=h p List.mem_cons_self (by simpa using k);rcases sY r _ hr y c e with z | z
   ·rw [List.lookup_cons] at z
    cases w:y == p.1 with
    | true =>
     rw [w,ea] at z;have hy:y=p.1:=by simpa using w
     rw [hy,ea];exact .inr z
    | false =>
     rw [w] at z;exact .inl z
   ·exact .inr z
  ·rw [if_neg k] at e
   exact sY r acc hr y c e
theorem oX {env:Env}:∀ (l:List (Str × NameKind)) (acc:List (Str × Addr)) (y:Str),((∃ c,acc.lookup y=some c)∨(y,NameKind.free)∈l)→∃ c,(fO env l acc).lookup y=some c
 | [],acc,y,h=>by
  rcases h with h | h
  ·exact h
  ·cases h
 | p :: r,acc,y,h=>by
  unfold fO
  by_cases k:(p.2 == NameKind.free)=true
  ·rw [if_pos k]
   refine oX r _ y ?_;cases w:y == p.1 with
   | true=>exact .inl ⟨_,by rw [List.lookup_cons,w]⟩
   | false =>
    rcases h with ⟨c,h⟩ | h
    ·exact .inl ⟨c,by rw [List.lookup_cons,w]; exact h⟩
    ·rcases List.mem_cons.mp h with z | z
     ·rw [← z] at w
      simp at w
     ·exact .inr z
  ·rw [if_neg k]
   refine oX r _ y ?_;rcases h with h | h
   ·exact .inl h
   ·rcases List.mem_cons.mp h with z | z
    ·rw [← z] at k
     simp at k
    ·exact .inr z
theorem Ad {env:Env}:∀ {names:List (Str × NameKind)} {x:Str},(∀ y∈names,y.2≠.cell) →
  (let l:=(names.map fun (n,k)=>if (k == NameKind.free && env.scope.kind == .function && env.kindOf n == some .cell) then (n,NameKind.cell) else (n,k)).lookup x; l=some .cell∨l=some .free)→(x,NameKind.free)∈names
 | [],x,_,h=>by
  rcases h with h | h <;> cases h
 | (n,k) :: r,x,hc,h=>by
  dsimp only at h;rw [List.map_cons] at h;have ih:=@Ad env r x fun y hy=>hc y (List.mem_cons_of_mem _ hy);have nk:k≠.cell:=hc (n,k) List.mem_cons_self
  by_cases c:(k == NameKind.free && env.scope.kind == .function && env.kindOf n == some .cell)=true
  ·have kf:k=.free:=by
    simp only [Bool.and_eq_true,beq_iff_eq] at c;exact c.1.1
   dsimp only at h;rw [if_pos c,List.lookup_cons] at h;cases w:x == n with
   | true =>
    have hx:x=n:=by simpa using w
    rw [hx,← kf];exact List.mem_cons_self
   | false =>
    rw [w] at h;exact List.mem_cons_of_mem _ (ih h)
  ·dsimp only at h
   rw [if_neg c,List.lookup_cons] at h;cases w:x == n with
   | true =>
    rw [w] at h;have hx:x=n:=by simpa using w
    have kf:k=.free:=by
     rcases h with h | h
     ·exact absurd (Option.some.inj h) nk
     ·exact Option.some.inj h
    rw [hx,← kf];exact List.mem_cons_self
   | false =>
    rw [w] at h;exact List.mem_cons_of_mem _ (ih h)
def dX (X:Cx) (sc:Scope) (N:List Str) (C:Addr) (s₀:Shared) (H₀:Hp) (ex:List Addr):Cx where
 prog:=X.prog
 w:=X.w
 K:=X.K
 mg:=X.mg
 base:=X.base
 A:=X.A
 N:=N
 s₀:=s₀
 H₀:=H₀
 env:=compEnvC sc (fO X.env sc.names []) C X.env
 outer:=X.stack
 stack:=X.stack
 ex:=ex
 fn:=fun _=>false
 calm:=X.calm
 pn:=[]
 xe:=fun _ _=>False
def hV (own:List Str) (cap:List (Nat × Str)) (σ:St):St:=own.map (fun _=>none)++cap.map fun p=>(σ[p.1]?).join
def cB (own:List Str) (cap:List (Nat × Str)):List Str:=own++cap.map (·.2)
def vQ (J:It) (g:TG) (te:TE) (σ₀:St) (H1:Hp) (D:Addr) (Q:VK):Prop :=
 ∃ W:Nat→Nat→St→Hp→List V→Prop,(∃ m,W 0 m σ₀ (aT H1 D (.lst [])) [])∧∀ i m σ H ys,W i m σ H ys→H D=some (.lst ys) ∧
  ((J.stop i H∧Q (.ref D) H)∨(J.go i H∧ys.length < sizeLine∧∀ x H2,J.yld i H x H2→g x σ H2 fun σ3 H3=>te σ3 H3 fun y H4=>H4 D=some (.lst ys)∧∃ m',m' < m∧W (i+1) m' σ3 (aT H4 D (.lst (ys++[y]))) (ys++[y])))
def sE (own:List Str) (cap:List (Nat × Str)) (wi:TI) (g:TG) (te:TE):TE:=fun σ H Q=>wi σ H fun J H1=>∀ D,H1 D=none→vQ J g te (hV own cap σ) H1 D Q
def Nx (n:Nat) (Pv:Nat→St→Hp→List V→Prop) (D:Addr) (i:Nat) (ys:List V) (σ:St) (y:V) (H:Hp):Prop :=
 H D=some (.lst ys)∧∃ m,m < n - i∧(m=n - (i+1)∧i+1≤n∧Pv (i+1) σ (aT H D (.lst (ys++[y]))) (ys++[y]))
theorem R8 {n:Nat} {Pv:Nat→St→Hp→List V→Prop} {D:Addr} {i:Nat} {ys:List V} {σ:St} {y:V} {H:Hp} (h:i < n) (hD:H D=some (.lst ys)) (p:Pv (i+1) σ (aT H D (.lst (ys++[y]))) (ys++[y])):Nx n Pv D i ys σ y H :=
 ⟨hD,n - (i+1),by omega,rfl,h,p⟩
theorem Oy {J:It} {g:TG} {te:TE} {σ₀:St} {H1:Hp} {D:Addr} {Q:VK} (n:Nat) (hn:n≤sizeLine) (Pv:Nat→St→Hp→List V→Prop) (h0:Pv 0 σ₀ (aT H1 D (.lst [])) [])
  (hl:∀ i σ H ys,Pv i σ H ys→ys.length=i∧H D=some (.lst ys)) (hgo:∀ i σ H ys,i < n→Pv i σ H ys→J.go i H)
  (hs:∀ i σ H ys x H2,i < n→Pv i σ H ys→J.yld i H x H2→g x σ H2 fun σ3 H3=>te σ3 H3 fun y H4=>Nx n Pv D i ys σ3 y H4)
  (hd:∀ σ H ys,Pv n σ H ys→J.stop n H∧Q (.ref D) H):vQ J g te σ₀ H1 D Q:=by
 refine ⟨fun i m σ H ys=>m=n - i∧i≤n∧Pv i σ H ys,⟨n,rfl,Nat.zero_le _,h0⟩,?_⟩
 rintro i m σ H ys ⟨rfl,hi,p⟩
 obtain ⟨l1,l2⟩:=hl i σ H ys p;refine ⟨l2,?_⟩
 by_cases hlt:i < n
 ·exact .inr ⟨hgo i σ H ys hlt p,by omega,fun x H2 y=>hs i σ H ys x H2 hlt p y⟩
 ·have e:i=n:=by omega
  subst e;exact .inl (hd σ H ys p)
section
variable {prog:Program} {w:World} {A:Around} {R:Result→Shared→Prop} {s:Shared}
theorem Ve {elt target iter:Expr} {sc:Scope} {pos:Pos} {it acc:Value} {env:Env} (I:Nat→Shared→Prop)
  (turn:∀ n s,I n s→wpAny (model prog w) A (pyNext it) (fun r s1=>match r with
   | none=>R (.ok .next) s1
   | some v=>wpAny (model prog w) A (letOwnedTupleGo target it v) (fun _ s2=>wpAny (model prog w) A (assign target env v) (fun _ s3=>wpAny (model prog w) A (eval elt env)
     (fun x s4=>wpAny (model prog w) A (call (.builtin "list.append") [acc,x]) (fun _ s5=>∃ m,m < n∧I m s5) (fun _ _=>False) s4) (fun _ _=>False) s3) (fun _ _=>False) s2) (fun _ _=>False) s1) (fun _ _=>False) s)
  (n:Nat) (h:I n s):codeAny (model prog w) A (.compLoop (.ListComp elt [⟨target,iter,[],0⟩] sc pos) 0 it acc env) R s:=by
 refine codeAny_loop rfl I (fun n s hI=>?_) n h;show wpAny _ _ ((compTurn (.ListComp elt [⟨target,iter,[],0⟩] sc pos) 0 it acc env).onRaise (fun x=>do noteFrame x env; theTreesLotGoes x)) _ _ s;refine wpAny_noted ?_;rw [compTurn_list1];refine wpAny_bind (wpAny_standAt (wpAny_bind ?_));refine wpAny_mono (turn n s hI) (fun r s1 h1=>?_) fun _ _ z=>z.elim;cases r with
 | none=>exact wpAny_pure h1
 | some v =>
  refine wpAny_bind (wpAny_mono h1 (fun _ s2 h2=>?_) fun _ _ z=>z.elim);refine wpAny_bind (wpAny_mono h2 (fun _ s3 h3=>?_) fun _ _ z=>z.elim);refine wpAny_bind (wpAny_bind (wpAny_mono h3 (fun x s4 h4=>?_) fun _ _ z=>z.elim));refine wpAny_bind (wpAny_mono h4 (fun _ s5 h5=>?_) fun _ _ z=>z.elim);exact wpAny_pure (wpAny_pure ⟨rfl,h5⟩)
end
structure gI (X:Cx) (sc:Scope) (own:List Str) (cap:List (Nat × Str)):Prop where
 kind:sc.kind=.function
 names:∀ y∈sc.names,y.2=.local→sc.names.lookup y.1=some .local
 nocell:∀ y∈sc.names,y.2≠.cell
 free:∀ y∈sc.names,y.2=.free→X.env.kindOf y.1=some .cell
 at':∀ p∈cap,X.N[p.1]?=some p.2
 cap:∀ p∈cap,sc.names.lookup p.2=some .free
section
variable {X:Cx} {sc:Scope} {own:List Str} {cap:List (Nat × Str)} {pins:List (Addr × Obj)} {σ:St} {H:Hp} {s:Shared}
theorem gI.has (k:gI X sc own cap) (ok:X.Ok):∀ p∈sc.names,p.2=.free→∃ c,X.env.cells.lookup p.1=some c:=fun p hp e=>ok.has p.1 (.inl (k.free p hp e))
theorem qS {env:Env}:∀ {names:List (Str × NameKind)} {x:Str},env.scope.kind=.function→names.lookup x=some .free→env.kindOf x=some .cell →
  (names.map fun (n,k)=>if (k == NameKind.free && env.scope.kind == .function && env.kindOf n == some .cell) then (n,NameKind.cell) else (n,k)).lookup x=some .cell
 | [],x,_,h,_=>by cases h
 | (n,k) :: r,x,hk,h,hx=>by
  rw [List.map_cons];dsimp only;rw [List.lookup_cons] at h;cases w:x == n with
  | true =>
   rw [w] at h;have e:x=n:=by simpa using w
   have kf:k=.free:=Option.some.inj h;have c:(k == NameKind.free && env.scope.kind == .function && env.kindOf n == some .cell)=true:=by
    rw [kf,hk,← e,hx];decide
   rw [if_pos c,List.lookup_cons,w]
  | false =>
   rw [w] at h;have ih:=@qS env r x hk h hx
   by_cases c:(k == NameKind.free && env.scope.kind == .function && env.kindOf n == some .cell)=true
   ·rw [if_pos c,List.lookup_cons,w]
    exact ih
   ·rw [if_neg c,List.lookup_cons,w]
    exact ih
theorem aG.cmp (k:gI X sc own cap) {h4:Heap} {fp:List Addr} {m:Str→Option Value} {t':Nat} (I:aG X pins σ H s) (hf:∀ b∈fp,eW X pins H b) (hlt:∀ b∈fp,b < s.heap.objs.size) (hns:h4.Ns s.heap.objs.size m)
  (kp:∀ b o,s.heap.get? b=some o→h4.get? b=some o):aG (dX X sc (cB own cap) s.heap.objs.size s H fp) [] (hV own cap σ) H { s with heap:=h4,toks:=t' }:=by
 have hcl:∀ y c,(fO X.env sc.names []).lookup y=some c→X.env.cells.lookup y=some c:=fun y c e=>by
  rcases sY sc.names [] (k.has I.ok) y c e with z | z
  ·cases z
  ·exact z
 have nst:∀ b∈fp,b ∉ fT X.stack:=fun b hb z=>by
  rcases List.mem_cons.mp (I.stkSub b z) with e | e
  ·exact (hf b hb).2.1 e
  ·exact (hf b hb).2.2.1 e
 refine ⟨⟨I.ok.mod,k.kind,I.ok.glob,I.ok.blt,Nat.le_refl _,fun x y c h1 h2=>I.ok.inj x y c (hcl x c h1) (hcl y c h2),fun x hx=>?_,fun x c e=>(nomatch e),I.ok.hd,I.ok.frames,.inl rfl,fun b hb=>⟨Nat.ne_of_lt (hlt b hb),fun x c e=>(hf b hb).2.2.2.2.1 x c (hcl x c e)⟩,
  I.bs,Nat.le_trans I.ok.bsz I.sz,fun b o e hb=>?_,nst,I.stack,I.stkFree⟩,rfl,I.bare,Un.kept kp,⟨m,hns,fun i x v h1 h2 h3=>?_⟩,fun x c e=>?_,I.hok.fresh (Nat.le_refl _),fun x c e=>I.freeC x c (hcl x c e),fun p hp=>absurd (show p∈([]:List (Addr × Obj)) from hp) (by simp),I.hok.kept kp,?_⟩
 ·exact oX sc.names [] x (.inr (Ad k.nocell hx))
 ·rcases (hf b hb).2.2.2.1 with z | z
  ·exact I.ok.noex b o e z
  ·exact absurd (Nat.lt_of_lt_of_le (Heap.lt_size (I.ok.bs b o e).1) z) (Nat.lt_irrefl _)
 ·have hN:(cB own cap)[i]?=some x:=h1
  unfold cB at hN;unfold hV at h2
  by_cases hi:i < own.length
  ·rw [List.getElem?_append_left (by simpa using hi),List.getElem?_map] at h2
   cases e:own[i]? with
   | none=>rw [e] at h2; cases h2
   | some z=>rw [e] at h2; cases h2
  ·rw [List.getElem?_append_right (by simpa using hi),List.getElem?_map,List.length_map] at h2
   rw [List.getElem?_append_right (by omega),List.getElem?_map] at hN;cases e:cap[i - own.length]? with
   | none=>rw [e] at h2; cases h2
   | some p =>
    rw [e] at h2 hN;have hp:p∈cap:=List.mem_of_getElem? e;have hx:p.2=x:=Option.some.inj hN;have hv:(σ[p.1]?).join=some v:=Option.some.inj h2;have hv':σ[p.1]?=some (some v):=by
     cases e2:σ[p.1]? with
     | none=>rw [e2] at hv; cases hv
     | some z=>rw [e2] at hv; exact congrArg some hv
    have fr:=k.cap p hp;have kc:X.env.kindOf p.2=some .cell:=k.free (p.2,.free) (PySem.mem_of_lookup fr) rfl;obtain ⟨m0,_,hl⟩:=I.loc;obtain ⟨u,ru,lk⟩:=hl p.1 p.2 v (k.at' p hp) hv' (.inr (.inl kc));refine ⟨u,ru,?_⟩;rcases lk with ⟨k1,_⟩ | ⟨_,c,ec,cell⟩
    ·rw [kc] at k1
     cases k1
    ·rw [← hx]
     obtain ⟨c',ec'⟩:=oX (env:=X.env) sc.names [] p.2 (.inr (PySem.mem_of_lookup fr));have:=(hcl _ _ ec').symm.trans ec;cases this;obtain ⟨o,ho,hd⟩:=cell;exact .inr ⟨.inl (qS I.ok.kind fr kc),c,ec',o,kp c o ho,hd⟩
 ·obtain ⟨v,o,ho,hd⟩:=I.cell x c (hcl x c e)
  exact ⟨v,o,kp c o ho,hd⟩
 ·unfold hV
  show _=(cB own cap).length;unfold cB;rw [List.length_append,List.length_append,List.length_map,List.length_map,List.length_map]
theorem aG.uncmp {s3 s':Shared} {H3 H':Hp} {N:List Str} {σ':St} {C:Addr} {fp:List Addr} {pl:List (Addr × Obj)} (I:aG X pins σ H s) (hf:∀ b∈fp,eW X pins H b) (u:Un (fT X.stack) fp H H3 s.heap s3.heap) (os:s3.os=s.os)
  (J:aG (dX X sc N C s3 H3 fp) pl σ' H' s'):aG X pins σ H' s':=by
 have os':s'.os=s.os:=(show s'.os=s3.os from J.os).trans os;refine I.call' (ch:=fp) os' (u.trans J.base) J.hok J.bare fun b hb=>?_;obtain ⟨_,f1,_,f3,f4,f5⟩:=hf b hb;exact ⟨f3,f1,f4,f5⟩
end
end L2
namespace L2
open PySem PySem.Spec PyProof.Rows Bn
section
variable {X:Cx} {sc:Scope} {own:List Str} {cap:List (Nat × Str)} {pins:List (Addr × Obj)} {σ:St} {H:Hp} {s:Shared} {elt target iter:Expr} {pos pos':Pos} {wi:TI} {g:TG} {te:TE} {Q:VK}
theorem Kf {use:Option (Value→Sem Unit)} {Qf:Value→Shared→Prop} (k:gI X sc own cap) (hi:PI X target iter wi) (hc:X.calm=true)
  (hg:∀ C s₀ H₀ ex,PG (dX X sc (cB own cap) C s₀ H₀ ex) target g) (he:∀ C s₀ H₀ ex,PE (dX X sc (cB own cap) C s₀ H₀ ex) elt te) (I:aG X pins σ H s) (h:sE own cap wi g te σ H Q)
  (fin:∀ D C s' H' m,aG X pins σ H' s'→eW X pins H' C→s'.heap.Ns C m→Q (.ref D) H'→compPost (model X.prog X.w) X.A X.xe use Qf (.ref D) C (.ok .next) s')
  (hs:∀ x,foldedSetIterable iter X.env x=pure x) :
  wpAny (model X.prog X.w) X.A (comprehension (.ListComp elt [⟨target,iter,[],0⟩] sc pos) sc X.env pos' (newList []) false (eval iter X.env) use) Qf X.xe s:=by
 refine wpAny_comprehension_free (use:=use) rfl hs (yV (k.has I.ok)) k.kind k.names ?_;refine bF (hi pins s σ H _ I h) fun v s1 h1=>bF h1 fun itv s2 h2=>?_;obtain ⟨it,fp,tn,J,H2,e,I2,T,st2,f2,hW⟩:=h2;subst e;refine wpAny_newObj_type (wpAny_newFunctionEnv k.nocell (fun y hy=>nomatch hy) (fun h4 hns hsb=>?_) k.kind);have I3:aG X pins σ (aT H2 s2.heap.objs.size (.lst [])) { s2 with heap:=s2.heap.push { cls:=.type "list",data:=.seq ([]:List Value).toArray },toks:=s2.toks }:=I2.lnew (ys:=[]) (its:=[]) .nil (Nat.zero_le _);have hD:H2 s2.heap.objs.size=none:=I2.fresh;have ltf:∀ b∈fp,b < s2.heap.objs.size:=fun b hb=>by
  obtain ⟨o,ho,_⟩:=T.obj _ _ st2 b hb;exact Heap.lt_size ho
 have f3:∀ b∈fp,eW X pins (aT H2 s2.heap.objs.size (.lst [])) b:=fun b hb=>⟨by rw [bP (Nat.ne_of_lt (ltf b hb))]; exact (f2 b hb).1,(f2 b hb).2⟩;have un:Un (fT X.stack) fp H2 (aT H2 s2.heap.objs.size (.lst [])) s2.heap (s2.heap.push { cls:=.type "list",data:=.seq ([]:List Value).toArray }):=Un.laid (fun b u q=>Heap.get?_push_of_some _ q) (Nat.le_refl _) hD;have kp:∀ b o,(s2.heap.push { cls:=.type "list",data:=.seq ([]:List Value).toArray }).get? b=some o→h4.get? b=some o:=fun b o q=>hsb.extBut b o (Nat.ne_of_lt (Heap.lt_size q)) (Heap.get?_push_of_some _ q);have J0:=I3.cmp (t':=s2.toks+([]:List (Str × Value)).length) k f3 (fun b hb=>Nat.lt_of_lt_of_le (ltf b hb) (by rw [Heap.size_push]; exact Nat.le_succ _)) hns kp;have stat:∀ {H':Hp},(∀ b∈fp,H' b=none)→∀ b∈fp,eW (dX X sc (cB own cap) (s2.heap.push { cls:=.type "list",data:=.seq ([]:List Value).toArray }).objs.size { s2 with heap:=s2.heap.push { cls:=.type "list",data:=.seq ([]:List Value).toArray },toks:=s2.toks } (aT H2 s2.heap.objs.size (.lst [])) fp) [] H' b:=fun hn b hb =>
  ⟨hn b hb,(J0.ok.exf b hb).1,J0.ok.exfs b hb,.inl hb,(J0.ok.exf b hb).2,fun p hp=>absurd (show p∈([]:List (Addr × Obj)) from hp) (by simp)⟩
 have st4:tn 0 h4:=T.keep _ _ _ st2 fun b hb o q=>kp b o (Heap.get?_push_of_some _ q);have fr0:∀ b∈fp,(aT H2 s2.heap.objs.size (.lst [])) b=none:=fun b hb=>(f3 b hb).1;have loop:codeAny (model X.prog X.w) X.A (.compLoop (.ListComp elt [⟨target,iter,[],0⟩] sc pos) 0 (.ref it) (.ref s2.heap.objs.size) (compEnvC sc (fO X.env sc.names []) (s2.heap.push { cls:=.type "list",data:=.seq ([]:List Value).toArray }).objs.size X.env))
   (compPost (model X.prog X.w) X.A X.xe use Qf (.ref s2.heap.objs.size) (s2.heap.push { cls:=.type "list",data:=.seq ([]:List Value).toArray }).objs.size) { s2 with heap:=h4,toks:=s2.toks+([]:List (Str × Value)).length }:=by
  obtain ⟨W,⟨m0,w0⟩,turn⟩:=hW s2.heap.objs.size hD;refine Ve (fun n s'=>∃ i σ' H' ys,aG (dX X sc (cB own cap) (s2.heap.push { cls:=.type "list",data:=.seq ([]:List Value).toArray }).objs.size { s2 with heap:=s2.heap.push { cls:=.type "list",data:=.seq ([]:List Value).toArray },toks:=s2.toks } (aT H2 s2.heap.objs.size (.lst [])) fp) [] σ' H' s'∧tn i s'.heap∧(∀ b∈fp,H' b=none)∧W i n σ' H' ys) ?_ m0
   ⟨0,_,_,[],J0,st4,fr0,w0⟩
  rintro n s5 ⟨i,σ5,H5,ys,I5,st5,fr5,w5⟩
  obtain ⟨hD5,w5⟩:=turn i n σ5 H5 ys w5;rcases w5 with ⟨stop,qn⟩ | ⟨go,hlt,step⟩
  ·refine bF (T.done (dX X sc (cB own cap) (s2.heap.push { cls:=.type "list",data:=.seq ([]:List Value).toArray }).objs.size { s2 with heap:=s2.heap.push { cls:=.type "list",data:=.seq ([]:List Value).toArray },toks:=s2.toks } (aT H2 s2.heap.objs.size (.lst [])) fp) rfl rfl rfl hc i [] s5 σ5 H5 _ I5 (stat fr5) st5 stop) fun r s6 ⟨hr,I6⟩=>?_
   subst hr;obtain ⟨m,hn,_⟩:=id I6.loc;exact fin _ _ s6 H5 m (I2.uncmp (s3:={ s2 with heap:=s2.heap.push { cls:=.type "list",data:=.seq ([]:List Value).toArray },toks:=s2.toks }) f2 un rfl I6) (I3.fpOk (Nat.le_refl _) I6.free) hn qn
  ·refine bF (T.item (dX X sc (cB own cap) (s2.heap.push { cls:=.type "list",data:=.seq ([]:List Value).toArray }).objs.size { s2 with heap:=s2.heap.push { cls:=.type "list",data:=.seq ([]:List Value).toArray },toks:=s2.toks } (aT H2 s2.heap.objs.size (.lst [])) fp) rfl rfl rfl hc i [] s5 σ5 H5 _ I5 (stat fr5) st5 go) fun r s6 ⟨u,hr,h6⟩=>?_
   subst hr;refine bF h6 fun _ s7 ⟨x,H7,I7,r7,y7,st7,fr7⟩=>?_;have I7':=I7.pinned (stat fr7) (T.obj _ _ st7);refine bF (hg _ _ _ _ _ s7 σ5 H7 x u _ I7' r7 (step x H7 y7)) fun _ s8 ⟨σ8,H8,I8,q8⟩=>?_;refine bF (he _ _ _ _ _ s8 σ8 H8 _ I8 q8) fun v9 s9 ⟨y,H9,I9,r9,hD9,m',hm,w9⟩=>?_;refine bF (qW _ s9 σ8 H9 (.ref s2.heap.objs.size) [y] (.ref s2.heap.objs.size) [v9] (fun _ H'=>H'=aT H9 s2.heap.objs.size (.lst (ys++[y]))) I9 rfl (.cons r9 .nil) ⟨_,ys,y,rfl,rfl,hD9,hlt,rfl⟩) fun _ s10 ⟨_,H10,I10,_,q10⟩=>?_;subst q10;refine ⟨m',hm,i+1,σ8,_,_,I10.unpinned,T.keep _ _ _ st7 fun b hb o q=>(I10.pin (b,o) (List.mem_append_right _ (List.mem_append_right _ (kK hb q)))).1,fun b hb=>?_,w9⟩;obtain ⟨o,q,d⟩:=T.obj _ _ st7 b hb;exact (I10.pin (b,o) (List.mem_append_right _ (List.mem_append_right _ (kK hb q)))).2.1
 exact codeAny_compStart_list loop (T.self _ 0 _ _ _ st4 loop)
theorem Vz (k:gI X sc own cap) (hi:PI X target iter wi) (hc:X.calm=true)
  (hg:∀ C s₀ H₀ ex,PG (dX X sc (cB own cap) C s₀ H₀ ex) target g) (he:∀ C s₀ H₀ ex,PE (dX X sc (cB own cap) C s₀ H₀ ex) elt te)
  (hs:∀ x,foldedSetIterable iter X.env x=pure x:=by intro _; rfl):PE X (.ListComp elt [⟨target,iter,[],0⟩] sc pos) (sE own cap wi g te):=by
 intro pins s σ H Q I h;rw [eval_ListComp];refine Kf (use:=none) k hi hc hg he I h (fun D C s' H' m I' fC hn q=>?_) hs;refine ⟨m,hn,fun h' sb=>⟨.ref D,H',?_,rfl,q⟩⟩;obtain ⟨f0,f1,f2,f3,f4,f5⟩:=fC;exact I'.turned (t':=s'.toks) (fun b o hb e=>(sb.2 b hb).trans e) f0 f1 f3 f4 f5
theorem My {i:Nat} {x:Str} {py spos:Pos} (hN:X.N.Nodup) (hx:X.N[i]?=some x) (hl:mG X.env.scope x) (k:gI X sc own cap) (hi:PI X target iter wi) (hc:X.calm=true)
  (hg:∀ C s₀ H₀ ex,PG (dX X sc (cB own cap) C s₀ H₀ ex) target g) (he:∀ C s₀ H₀ ex,PE (dX X sc (cB own cap) C s₀ H₀ ex) elt te)
  (hs:∀ x,foldedSetIterable iter X.env x=pure x:=by intro _; rfl) (hsw:swapsWith (.ListComp elt [⟨target,iter,[],0⟩] sc pos) (some (.Name x py)) spos.line X.env=pure true:=by rfl)
  (hf:X.fn x=true∨X.env.scope.names.lookup x=some .local:=by first | exact .inl rfl | exact .inr rfl | assumption) :
  PS X (.Assign [.Name x py] (.ListComp elt [⟨target,iter,[],0⟩] sc pos) spos) (Rb (sE own cap wi g te) (Hb i)):=by
 intro pins s σ H D I h;rw [exec_Assign_Name_used _ _ _ _ hsw];refine wpAny_bind (wpAny_standAt (wpAny_bind ?_));show wpAny _ X.A (comprehension (.ListComp elt [⟨target,iter,[],0⟩] sc pos) sc X.env _ (newList []) false (eval iter X.env) (some (assign (.Name x py) X.env)) >>= fun _=>pure ()) _ _ s;refine wpAny_bind (bF (Kf (use:=some (assign (.Name x py) X.env)) (Qf:=fun _ s'=>SP X pins D .next s') k hi hc hg he I h (fun B C s' H' m I' fC hn q=>?_) hs) fun _ s' hq=>wpAny_pure (wpAny_pure hq))
 show wpAny _ _ (assign (.Name x py) X.env (.ref B)) _ _ s';obtain ⟨o,es,ep,ho,hd,r⟩:=hn;obtain ⟨f0,f1,f2,f3,f4,f5⟩:=fC;have I'':aG X (pins++[(C,o)]) σ H' s':=I'.pins_of fun p hp=>(List.mem_append.mp hp).elim (fun z=>I'.pin p (List.mem_append_right _ z)) fun z=>by
  have e:p=(C,o):=by simpa using z
  subst e;exact ⟨ho,f0,f1,f2,fun v z=>by rw [hd] at z; cases z⟩
 refine wpAny_assign_Name (rC I'' hN hx hl (v:=.ref B) rfl (fun s2 I2=>?_) hf);have pC:=I2.pin (C,o) (by simp);refine ⟨m,⟨o,es,ep,pC.1,hd,r⟩,fun h' sb=>⟨_,H',?_,q⟩⟩;exact (I2.unpinned).turned (t':=s2.toks) (fun b o hb e=>(sb.2 b hb).trans e) f0 f1 f3 f4 f5
end
section
variable {X:Cx}
theorem Fv (hc:X.calm=true):iA X (.builtin "all") (fun xs H Q=>∃ (a:Addr) (bs:List Bool),xs=[.ref a]∧bY X.K H a (bs.map V.bl)∧Q (.bl (bs.all id)) H):=by
 intro pins s σ H xs us Q I r h;obtain ⟨a,bs,rfl,hq,q⟩:=h;obtain ⟨u,rfl,ru⟩:=jL r;cases ru;obtain ⟨its,rv,pl,hz⟩:=I.list hq;have hl:bs.length=its.length:=by
  have:=rv.length
  rwa [List.length_map] at this
 refine call_all_walk (wpAny_pyIter_list pl.isList ?_);have ha:a < s.heap.objs.size:=by
  obtain ⟨o,ho,_⟩:=pl.isList;exact Heap.lt_size ho
 refine ⟨_,_,_,_,_,_,fun i=>bs.getD i true,rfl,Walks.list (prog:=X.prog) (w:=X.w) (A:=X.A.in1) (show X.A.in1.handled=none from I.ok.hd hc) s.heap.objs.size a (Nat.ne_of_lt ha) its.toArray,⟨⟨_,Heap.get?_push_size _ rfl,rfl,rfl⟩,Heap.IsList.at pl.isList fun o e=>Heap.get?_push_of_some _ e⟩,fun i v s' Q' E' hv hQ=>?_,fun h' tk kp=>?_⟩
 ·have hv':its[i]?=some v:=by simpa using hv
  have hi:i < bs.length:=by
   have:=(List.getElem?_eq_some_iff.mp hv').1;omega
  obtain ⟨u,hu,ru⟩:=rv.get (i:=i) (x:=.bl bs[i]) (by rw [List.getElem?_map,List.getElem?_eq_getElem hi]; rfl);rw [hv'] at hu;cases hu;cases (show v=Value.bool bs[i] from ru);have e:bs.getD i true=bs[i]:=by simp [List.getD,hi]
  have hQ':Q' (bs.getD i true) s':=hQ;rw [e] at hQ';exact wpAny_truthy_bool hQ'
 ·have e:(List.range its.toArray.size).all (fun i=>bs.getD i true)=bs.all id:=by
   rw [List.size_toArray,← hl,Bool.eq_iff_iff,List.all_eq_true,List.all_eq_true];constructor
   ·intro z b hb
    obtain ⟨i,hi,rfl⟩:=List.mem_iff_getElem.mp hb;have:=z i (by simpa using hi);simpa [List.getD,hi] using this
   ·intro z i hi
    have hi':i < bs.length:=by simpa using hi
    have:=z bs[i] (List.getElem_mem hi');simpa [List.getD,hi'] using this
  show EP X pins σ Q (.bool ((List.range its.toArray.size).all fun i=>bs.getD i true)) _;rw [e];have I1:aG X pins σ H { s with heap:=s.heap.push { cls:=.type "list_iterator",data:=.fields #[.ref a,.int 0 0] },toks:=s.toks }:=I.kept fun b o z=>Heap.get?_push_of_some _ z;have fp:eW X pins H s.heap.objs.size:=I.fpOk (Nat.le_refl _) (I.hok.fresh (Nat.le_refl _));obtain ⟨f0,f1,f2,f3,f4,f5⟩:=fp;exact ⟨.bl (bs.all id),H,I1.turned (fun b o hb z=>kp b o (by simpa using hb) z) f0 f1 f3 f4 f5,rfl,q⟩
end
end L2
namespace L2
open PySem Bn
section
variable {prog:Program} {w:World} {A:Around} {E:Value→Shared→Prop} {s:Shared}
theorem Oq {it t:Addr} {i:Nat} {items:Array Value} {x:Value} {Q:Value→Shared→Prop} (git:s.heap.IsTupleIter it t i) (gt:s.heap.IsTuple t items) (gx:items[i]?=some x)
  (gQ:∀ h',h'.IsTupleIter it t (i+1)→Heap.SameBut it s.heap h'→Q x { s with heap:=h' }):wpAny (model prog w) A (Builtin.SmallTypes.nextOf (.ref it)) Q E s:=by
 obtain ⟨o,go,gc,gd⟩:=id git;obtain ⟨ol,gol,_,nl,gdl⟩:=gt;unfold Builtin.SmallTypes.nextOf;refine wpAny_bind (wpAny_callSpecial?_slot (name:=Str.ofString "__next__") git.typeIs F.slot_tuple_iterator_next (wpAny_call_entry F.slot_tuple_iterator_next git.typeIs F.entry_tuple_iterator_next ?_ (F.args_tuple_iterator_next_1 _)));show wpAny _ _ (field (.ref it) 0 >>= _) _ _ s;refine wpAny_bind (wpAny_field go gd (x:=.ref t) rfl ?_);show wpAny _ _ (if (Value.ref t == Value.none)=true then _ else _) _ _ s;rw [if_neg (show ¬ ((Value.ref t == Value.none)=true) from Bool.false_ne_true)];show wpAny _ _ (field (.ref it) 1 >>= _) _ _ s;refine wpAny_bind (wpAny_field go gd (x:=.int i 0) rfl ?_);show wpAny _ _ (seqItems? (.ref t) >>= _) _ _ s;refine wpAny_bind (wpAny_seqItems gol gdl ?_);simp only [Int.toNat_natCast,gx];refine wpAny_bind (wpAny_setField go gd (by simp) (wpAny_pure ⟨_,rfl,wpAny_pure (gQ _ ?_ (Heap.SameBut.update ..))⟩));refine ⟨_,Heap.get?_update_self _ go (Obj.isFreed_of_fields (Obj.data_mapFields gd _)),(Obj.cls_mapFields ..).trans gc,?_⟩;rw [Obj.data_mapFields gd];simp [rawInt]
theorem Wo {it t:Addr} {i:Nat} {items:Array Value} {Q:Value→Shared→Prop} (hh:A.handled=none) (git:s.heap.IsTupleIter it t i) (gt:s.heap.IsTuple t items) (gx:items[i]?=none)
  (gE:∀ h' e,Heap.ExtBut it s.heap h'→(∃ o,h'.get? e=some o∧o.cls=.type "StopIteration")→E (.ref e) { s with heap:=h' }):wpAny (model prog w) A (Builtin.SmallTypes.nextOf (.ref it)) Q E s:=by
 obtain ⟨o,go,gc,gd⟩:=id git;obtain ⟨ol,gol,_,nl,gdl⟩:=gt;unfold Builtin.SmallTypes.nextOf;refine wpAny_bind (wpAny_callSpecial?_slot (name:=Str.ofString "__next__") git.typeIs F.slot_tuple_iterator_next (wpAny_call_entry F.slot_tuple_iterator_next git.typeIs F.entry_tuple_iterator_next ?_ (F.args_tuple_iterator_next_1 _)));show wpAny _ _ (field (.ref it) 0 >>= _) _ _ s;refine wpAny_bind (wpAny_field go gd (x:=.ref t) rfl ?_);show wpAny _ _ (if (Value.ref t == Value.none)=true then _ else _) _ _ s;rw [if_neg (show ¬ ((Value.ref t == Value.none)=true) from Bool.false_ne_true)];show wpAny _ _ (field (.ref it) 1 >>= _) _ _ s;refine wpAny_bind (wpAny_field go gd (x:=.int i 0) rfl ?_);show wpAny _ _ (seqItems? (.ref t) >>= _) _ _ s;refine wpAny_bind (wpAny_seqItems gol gdl ?_);simp only [Int.toNat_natCast,gx]
 first
  | refine wpAny_bind (wpAny_rule (wpAny_bind (wpAny_setField go gd (by simp) (wpAny_bind (wpAny_letGo ?_)))))
  | refine wpAny_bind (wpAny_rule (wpAny_bind (wpAny_setField go gd (by simp) ?_)))
 show wpAny _ _ (newExc (.type "StopIteration") [] >>= _) _ _ _;refine wpAny_bind ?_;simp only [newExc,newTuple];refine wpAny_bind (wpAny_newObj_type ?_ (by size_fits));refine wpAny_bind (m:=firstArgMember _ _) (wpAny_of_eq (a:=Value.none) (by first | rfl | (simp only [firstArgMember]; rfl)) ?_)
 refine wpAny_newObj_type ?_ (by size_fits);simp only [raiseNew];refine wpAny_bind (wpAny_handled ?_)
 first
  | rw [show A.in1.handled=none from hh]
  | rw [hh]
 refine wpAny_bind (wpAny_pure (wpAny_throw ?_));exact gE _ _ (((Heap.SameBut.update ..).extBut.push _).push _) ⟨_,Heap.get?_push_size _ rfl,rfl⟩
end
theorem Lw {prog:Program} {w:World} {A:Around} (hh:A.handled=none) (it t:Addr) (hne:t≠it) (items:Array Value) :
  Draws prog w A it [it,t] items.size (fun i v=>items[i]?=some v) (fun i h=>h.IsTupleIter it t i∧h.IsTuple t items) where
 live:=fun _ _ st=>let ⟨o,ho,_⟩:=st.1; ⟨o,ho⟩
 frame:=fun _ _ _ st hk=>⟨let ⟨o,ho,r⟩:=st.1; ⟨o,hk it (by simp) o ho,r⟩,let ⟨o,ho,r⟩:=st.2; ⟨o,hk t (by simp) o ho,r⟩⟩
 item:=fun i s Q E hi st hQ=>by
  refine Oq st.1 st.2 (x:=items[i]) (by simp [hi]) fun h' hit' hs'=>?_;exact hQ _ h' s.toks (by simp [hi]) ⟨hit',st.2.extBut hs'.extBut hne⟩ hs'
 done:=fun s Q E st hE=>Wo hh st.1 st.2 (by simp) hE
structure sQ (z TI TO i1 i2:Addr) (fp1 fp2:List Addr):Prop where
 tiz:TI≠z
 toz:TO≠z
 tito:TI≠TO
 ti1:TI≠i1
 ti2:TI≠i2
 z1:z ∉ fp1
 z2:z ∉ fp2
 to1:TO ∉ fp1
 to2:TO ∉ fp2
 i12:i1 ∉ fp2
 i21:i2 ∉ fp1
 m1:i1∈fp1
 m2:i2∈fp2
section
variable {prog:Program} {w:World} {A:Around} {E:Value→Shared→Prop} {s:Shared} {z TI TO i1 i2:Addr} {fp1 fp2:List Addr} {n1 n2 i:Nat} {P1 P2:Nat→Value→Prop} {S1 S2:Nat→Heap→Prop} {a b:Value}
theorem Sr {Q:Value→Shared→Prop} (D1:Draws prog w A i1 fp1 n1 P1 S1) (D2:Draws prog w A i2 fp2 n2 P2 S2) (ap:sQ z TI TO i1 i2 fp1 fp2) (gz:IsZip s.heap z TI TO .none) (gTI:IsPair s.heap TI (.ref i1) (.ref i2)) (gTO:IsPair s.heap TO a b)
  (g1:S1 i s.heap) (g2:S2 i s.heap) (l1:i < n1) (l2:i < n2)
  (gQ:∀ h' tk x y,P1 i x→P2 i y→IsZip h' z TI TO (rawInt s.heap.objs.size)→IsPair h' TO x y→S1 (i+1) h'→S2 (i+1) h'→IsPair h' s.heap.objs.size x y →
   (∀ c o,c≠z→c≠TO→c≠i1→c≠i2→s.heap.get? c=some o→h'.get? c=some o)→Q (.ref s.heap.objs.size) { s with heap:=h',toks:=tk }) :
  wpAny (model prog w) A (Builtin.«zip.__next__» ⟨[.ref z],[]⟩) (fun fin s'=>∃ v,fin=.done (.ret v)∧Q v s') E s:=by
 have nz1:i1≠z:=fun q=>ap.z1 (q ▸ ap.m1);have nz2:i2≠z:=fun q=>ap.z2 (q ▸ ap.m2);have nt1:TO≠i1:=fun q=>ap.to1 (q ▸ ap.m1);have nt2:TO≠i2:=fun q=>ap.to2 (q ▸ ap.m2);show wpAny _ _ (field (.ref z) 2 >>= _) _ _ _;refine wpAny_bind (wpAny_field gz rfl (x:=.bool false) rfl ?_);show wpAny _ _ (field (.ref z) 3 >>= _) _ _ _;refine wpAny_bind (wpAny_field gz rfl (x:=.ref TI) rfl ?_);refine wpAny_bind (wpAny_seqItems gTI rfl ?_);show wpAny _ _ (Builtin.SmallTypes.ownedTupleIsFree (.ref z) >>= _) _ _ _;refine wpAny_bind ?_;unfold Builtin.SmallTypes.ownedTupleIsFree;refine wpAny_bind (wpAny_field gz rfl (x:=.none) rfl (wpAny_pure ?_));simp only [if_true];refine wpAny_bind (wpAny_rule ?_);refine wpAny_bind (wpAny_field gz rfl (x:=.ref TO) rfl ?_);refine wpAny_bind (wpAny_setField_rec gz (by simp) fun h1 gz1 s1=>?_)
 replace gz1:IsZip h1 z TI TO .ellipsis:=gz1
 refine wpAny_bind ?_;simp only [List.zipIdx_cons,List.zipIdx_nil,List.forIn_cons,List.forIn_nil];refine wpAny_bind (wpAny_bind (wpAny_onRaise ?_));show wpAny _ _ (Builtin.SmallTypes.nextOf (.ref i1) >>= _) _ _ _;refine wpAny_bind (D1.item i _ _ _ l1 (D1.frame _ _ _ g1 fun c hc o q=>s1.extBut c o (fun e=>ap.z1 (e ▸ hc)) q) fun x h2 tk2 px g1' s2=>wpAny_pure ?_);have gTO2:IsPair h2 TO a b:=s2.extBut _ _ nt1 (s1.extBut _ _ ap.toz gTO);refine wpAny_bind (wpAny_seqItems gTO2 rfl ?_);refine wpAny_bind (wpAny_updateSeq_pair (s:={ s with heap:=h2,toks:=tk2 }) gTO2 fun h3 gTO3 s3=>?_)
 replace gTO3:IsPair h3 TO x b:=gTO3
 replace s3:Heap.SameBut TO h2 h3:=s3
 refine wpAny_bind (wpAny_letGo (wpAny_pure ?_));refine wpAny_bind (wpAny_bind (wpAny_onRaise ?_));show wpAny _ _ (Builtin.SmallTypes.nextOf (.ref i2) >>= _) _ _ _;have g2':S2 i h3:=D2.frame _ _ _ g2 fun c hc o q=>s3.extBut c o (fun e=>ap.to2 (e ▸ hc)) (s2.extBut c o (fun e=>ap.i12 (e ▸ hc)) (s1.extBut c o (fun e=>ap.z2 (e ▸ hc)) q));refine wpAny_bind (D2.item i _ _ _ l2 g2' fun y h4 tk4 py g2'' s4=>wpAny_pure ?_)
 replace s4:Heap.SameBut i2 h3 h4:=s4
 have gTO4:IsPair h4 TO x b:=s4.extBut _ _ nt2 gTO3;refine wpAny_bind (wpAny_seqItems gTO4 rfl ?_);refine wpAny_bind (wpAny_updateSeq_pair (s:={ s with heap:=h4,toks:=tk4 }) gTO4 fun h5 gTO5 s5=>?_)
 replace gTO5:IsPair h5 TO x y:=gTO5
 replace s5:Heap.SameBut TO h4 h5:=s5
 refine wpAny_bind (wpAny_letGo (wpAny_pure (wpAny_pure ?_)));refine wpAny_bind (wpAny_seqItems gTO5 rfl ?_);refine wpAny_bind (wpAny_newTuple ?_);have hsz:h5.objs.size=s.heap.objs.size:=by rw [s5.1,s4.1,s3.1,s2.1,s1.1]
 have gz5:IsZip h5 z TI TO .ellipsis:=s5.extBut _ _ ap.toz.symm (s4.extBut _ _ nz2.symm (s3.extBut _ _ ap.toz.symm (s2.extBut _ _ nz1.symm gz1)));have k5:∀ c o,c≠z→c≠TO→c≠i1→c≠i2→s.heap.get? c=some o→h5.get? c=some o:=fun c o c1 c2 c3 c4 q=>s5.extBut _ _ c2 (s4.extBut _ _ c4 (s3.extBut _ _ c2 (s2.extBut _ _ c3 (s1.extBut _ _ c1 q))));have g15:S1 (i+1) h5:=D1.frame _ _ _ g1' fun c hc o q=>s5.extBut c o (fun e=>ap.to1 (e ▸ hc)) (s4.extBut c o (fun e=>ap.i21 (e ▸ hc)) (s3.extBut c o (fun e=>ap.to1 (e ▸ hc)) q));have g25:S2 (i+1) h5:=D2.frame _ _ _ g2'' fun c hc o q=>s5.extBut c o (fun e=>ap.to2 (e ▸ hc)) q;have zlt:z < h5.objs.size:=Heap.lt_size gz5;show wpAny _ _ (Builtin.SmallTypes.ownedTupleHandOut (.ref z) (.ref h5.objs.size) >>= _) _ _ _;refine wpAny_bind ?_;unfold Builtin.SmallTypes.ownedTupleHandOut;have gz6:IsZip (h5.push { cls:=.type "tuple",data:=.seq #[x,y] }) z TI TO .ellipsis:=Heap.get?_push_of_some _ gz5;refine wpAny_bind (wpAny_setField_rec gz6 (by simp) fun h7 gz7 s7=>?_)
 replace gz7:IsZip h7 z TI TO (rawInt h5.objs.size):=gz7
 refine wpAny_setField_rec gz7 (by simp) fun h8 gz8 s8=>?_
 replace gz8:IsZip h8 z TI TO (rawInt h5.objs.size):=gz8
 have up:∀ c o,c≠z→h5.get? c=some o→h8.get? c=some o:=fun c o c1 q=>s8.extBut _ _ c1 (s7.extBut _ _ c1 (Heap.get?_push_of_some _ q));have gT8:IsPair h8 h5.objs.size x y:=s8.extBut _ _ (Nat.ne_of_gt zlt) (s7.extBut _ _ (Nat.ne_of_gt zlt) (Heap.get?_push_size _ rfl));rw [hsz] at gz8 gT8;refine wpAny_pure ⟨_,rfl,?_⟩;show Q (.ref h5.objs.size) _;rw [hsz];exact gQ h8 _ x y px py gz8 (up _ _ ap.toz gTO5) (D1.frame _ _ _ g15 fun c hc o q=>up c o (fun e=>ap.z1 (e ▸ hc)) q) (D2.frame _ _ _ g25 fun c hc o q=>up c o (fun e=>ap.z2 (e ▸ hc)) q) gT8 fun c o c1 c2 c3 c4 q=>up c o c1 (k5 c o c1 c2 c3 c4 q)
theorem Wr {Q:Fin→Shared→Prop} (D1:Draws prog w A i1 fp1 n1 P1 S1) (D2:Draws prog w A i2 fp2 n2 P2 S2) (ap:sQ z TI TO i1 i2 fp1 fp2) (gz:IsZip s.heap z TI TO .none) (gTI:IsPair s.heap TI (.ref i1) (.ref i2)) (gTO:IsPair s.heap TO a b)
  (g1:S1 i s.heap) (g2:S2 i s.heap) (fin:i=n1∨(i < n1∧i=n2))
  (gE:∀ h' tk e,(∀ c o,c≠z→c≠TO→c≠i1→c≠i2→s.heap.get? c=some o→h'.get? c=some o)→(∃ o,h'.get? e=some o∧o.cls=.type "StopIteration")→E (.ref e) { s with heap:=h',toks:=tk }) :
  wpAny (model prog w) A (Builtin.«zip.__next__» ⟨[.ref z],[]⟩) Q E s:=by
 have nz1:i1≠z:=fun q=>ap.z1 (q ▸ ap.m1);have nz2:i2≠z:=fun q=>ap.z2 (q ▸ ap.m2);have nt1:TO≠i1:=fun q=>ap.to1 (q ▸ ap.m1);have nt2:TO≠i2:=fun q=>ap.to2 (q ▸ ap.m2);show wpAny _ _ (field (.ref z) 2 >>= _) _ _ _;refine wpAny_bind (wpAny_field gz rfl (x:=.bool false) rfl ?_);show wpAny _ _ (field (.ref z) 3 >>= _) _ _ _;refine wpAny_bind (wpAny_field gz rfl (x:=.ref TI) rfl ?_);refine wpAny_bind (wpAny_seqItems gTI rfl ?_);show wpAny _ _ (Builtin.SmallTypes.ownedTupleIsFree (.ref z) >>= _) _ _ _;refine wpAny_bind ?_;unfold Builtin.SmallTypes.ownedTupleIsFree;refine wpAny_bind (wpAny_field gz rfl (x:=.none) rfl (wpAny_pure ?_));simp only [if_true];refine wpAny_bind (wpAny_rule ?_);refine wpAny_bind (wpAny_field gz rfl (x:=.ref TO) rfl ?_);refine wpAny_bind (wpAny_setField_rec gz (by simp) fun h1 gz1 s1=>?_)
 replace gz1:IsZip h1 z TI TO .ellipsis:=gz1
 refine wpAny_bind ?_;simp only [List.zipIdx_cons,List.zipIdx_nil,List.forIn_cons,List.forIn_nil];refine wpAny_bind (wpAny_bind (wpAny_onRaise ?_));show wpAny _ _ (Builtin.SmallTypes.nextOf (.ref i1) >>= _) _ _ _;have g1':S1 i h1:=D1.frame _ _ _ g1 fun c hc o q=>s1.extBut c o (fun e=>ap.z1 (e ▸ hc)) q;rcases fin with e1 | ⟨l1,e2⟩
 ·subst e1
  refine wpAny_bind (D1.done _ _ _ g1' fun h2 e s2 he=>?_);obtain ⟨oe,hoe,hce⟩:=he;have gz2:IsZip h2 z TI TO .ellipsis:=s2 _ _ nz1.symm gz1;have hez:e≠z:=fun q=>by
   subst q;rw [gz2] at hoe;cases hoe;simp at hce
  refine wpAny_setField_rec (s:={ s with heap:=h2 }) gz2 (by simp) fun h3 _ s3=>?_;exact gE h3 _ e (fun c o c1 _ c3 _ q=>s3.extBut _ _ c1 (s2 _ _ c3 (s1.extBut _ _ c1 q))) ⟨oe,s3.extBut _ _ hez hoe,hce⟩
 ·subst e2
  refine wpAny_bind (D1.item i _ _ _ l1 g1' fun x h2 tk2 px g1'' s2=>wpAny_pure ?_);have gTO2:IsPair h2 TO a b:=s2.extBut _ _ nt1 (s1.extBut _ _ ap.toz gTO);refine wpAny_bind (wpAny_seqItems gTO2 rfl ?_);refine wpAny_bind (wpAny_updateSeq_pair (s:={ s with heap:=h2,toks:=tk2 }) gTO2 fun h3 gTO3 s3=>?_)
  replace s3:Heap.SameBut TO h2 h3:=s3
  refine wpAny_bind (wpAny_letGo (wpAny_pure ?_));refine wpAny_bind (wpAny_bind (wpAny_onRaise ?_));show wpAny _ _ (Builtin.SmallTypes.nextOf (.ref i2) >>= _) _ _ _;have g2':S2 i h3:=D2.frame _ _ _ g2 fun c hc o q=>s3.extBut c o (fun e=>ap.to2 (e ▸ hc)) (s2.extBut c o (fun e=>ap.i12 (e ▸ hc)) (s1.extBut c o (fun e=>ap.z2 (e ▸ hc)) q));refine wpAny_bind (D2.done _ _ _ g2' fun h4 e s4 he=>?_)
  replace s4:Heap.ExtBut i2 h3 h4:=s4
  obtain ⟨oe,hoe,hce⟩:=he;have gz4:IsZip h4 z TI TO .ellipsis:=s4 _ _ nz2.symm (s3.extBut _ _ ap.toz.symm (s2.extBut _ _ nz1.symm gz1));have hez:e≠z:=fun q=>by
   subst q;rw [gz4] at hoe;cases hoe;simp at hce
  refine wpAny_setField_rec (s:={ s with heap:=h4,toks:=tk2 }) gz4 (by simp) fun h5 _ s5=>?_;exact gE h5 _ e (fun c o c1 c2 c3 c4 q=>s5.extBut _ _ c1 (s4 _ _ c4 (s3.extBut _ _ c2 (s2.extBut _ _ c3 (s1.extBut _ _ c1 q))))) ⟨oe,s5.extBut _ _ hez hoe,hce⟩
theorem Up {Q:Option Value→Shared→Prop} (D1:Draws prog w A.in1 i1 fp1 n1 P1 S1) (D2:Draws prog w A.in1 i2 fp2 n2 P2 S2) (ap:sQ z TI TO i1 i2 fp1 fp2) (gz:IsZip s.heap z TI TO .none) (gTI:IsPair s.heap TI (.ref i1) (.ref i2)) (gTO:IsPair s.heap TO a b)
  (g1:S1 i s.heap) (g2:S2 i s.heap) (l1:i < n1) (l2:i < n2)
  (gQ:∀ h' tk x y,P1 i x→P2 i y→IsZip h' z TI TO (rawInt s.heap.objs.size)→IsPair h' TO x y→S1 (i+1) h'→S2 (i+1) h'→IsPair h' s.heap.objs.size x y →
   (∀ c o,c≠z→c≠TO→c≠i1→c≠i2→s.heap.get? c=some o→h'.get? c=some o)→Q (some (.ref s.heap.objs.size)) { s with heap:=h',toks:=tk }) :
  wpAny (model prog w) A (pyNext (.ref z)) Q E s:=by
 have gT:s.TypeIs (.ref z) "zip":=⟨_,gz,rfl⟩;unfold pyNext;refine wpAny_bind (wpAny_attempt (wpAny_callSpecial?_slot (name:=Str.ofString "__next__") gT F.slot_zip_next (wpAny_call_entry F.slot_zip_next gT F.entry_zip_next ?_ (F.args_zip_next_1 _))));exact Sr D1 D2 ap gz gTI gTO g1 g2 l1 l2 fun h' tk x y p1 p2 e1 e2 e3 e4 e5 e6=>wpAny_pure (gQ h' tk x y p1 p2 e1 e2 e3 e4 e5 e6)
theorem To {Q:Option Value→Shared→Prop} (D1:Draws prog w A.in1 i1 fp1 n1 P1 S1) (D2:Draws prog w A.in1 i2 fp2 n2 P2 S2) (ap:sQ z TI TO i1 i2 fp1 fp2) (gz:IsZip s.heap z TI TO .none) (gTI:IsPair s.heap TI (.ref i1) (.ref i2)) (gTO:IsPair s.heap TO a b)
  (g1:S1 i s.heap) (g2:S2 i s.heap) (fin:i=n1∨(i < n1∧i=n2))
  (gQ:∀ h' tk,(∀ c o,c≠z→c≠TO→c≠i1→c≠i2→s.heap.get? c=some o→h'.get? c=some o)→Q none { s with heap:=h',toks:=tk }):wpAny (model prog w) A (pyNext (.ref z)) Q E s:=by
 have gT:s.TypeIs (.ref z) "zip":=⟨_,gz,rfl⟩;unfold pyNext;refine wpAny_bind (wpAny_attempt (wpAny_callSpecial?_slot (name:=Str.ofString "__next__") gT F.slot_zip_next (wpAny_call_entry F.slot_zip_next gT F.entry_zip_next ?_ (F.args_zip_next_1 _))));refine Wr D1 D2 ap gz gTI gTO g1 g2 fin fun h' tk e hk he=>?_;obtain ⟨o,ho,hc⟩:=he;refine wpAny_bind (wpAny_isInstance (T:="StopIteration") (b:=true) ⟨o,ho,hc⟩ isSubtype_stop ?_);exact wpAny_pure (gQ _ _ hk)
end
end L2
namespace L2
open PySem Bn
abbrev vM (h:Heap) (o1:Obj):Heap:=h.push o1
abbrev vF (h:Heap) (o1 o2:Obj):Heap:=(vM h o1).push o2
abbrev vK (h:Heap) (o1 o2:Obj):Heap:=(vF h o1 o2).push { cls:=.type "tuple",data:=.seq #[.ref h.objs.size,.ref (vM h o1).objs.size] }
abbrev vB (h:Heap) (o1 o2:Obj):Heap:=(vK h o1 o2).push { cls:=.type "tuple",data:=.seq #[.none,.none] }
abbrev qD (h:Heap) (o1 o2:Obj):Heap:=(vB h o1 o2).push { cls:=.type "zip",data:=.fields #[.none,.bool false,.bool false,.ref (vF h o1 o2).objs.size,.ref (vK h o1 o2).objs.size] }
def sH (l:Addr) (o:Obj) (G:Heap→Prop):Prop :=
 ∀ (prog:Program) (w:World) (A:Around) (E:Value→Shared→Prop) (s:Shared) (Q:Value→Shared→Prop),G s.heap→Q (.ref s.heap.objs.size) { s with heap:=s.heap.push o }→wpAny (model prog w) A (pyIter (.ref l)) Q E s
theorem Os (l1 l2:Addr) (o1 o2:Obj) (G1 G2:Heap→Prop) (p1:sH l1 o1 G1) (p2:sH l2 o2 G2) (k2:∀ h,G2 h→G2 (h.push o1)) :
  Meets (Builtin.«zip.__new__» ⟨[.type "zip",.ref l1,.ref l2],[]⟩) (fun _ R s=>G1 s.heap∧G2 s.heap∧R (.ok (.ret (.ref (vB s.heap o1 o2).objs.size))) { s with heap:=qD s.heap o1 o2 }) :=
 .of_wp fun prog w A R s h=>by
  obtain ⟨hp,g,d,tk,os⟩:=s;obtain ⟨g1,g2,h⟩:=h;have hsub:=sub_zip;have q1:=fun (A':Around) (E':Value→Shared→Prop) (Q':Value→Shared→Prop)=>p1 prog w A' E' ⟨hp,g,d,tk,os⟩ Q' g1;have q2:=fun (A':Around) (E':Value→Shared→Prop) (Q':Value→Shared→Prop)=>p2 prog w A' E' ⟨hp.push o1,g,d,tk,os⟩ Q' (k2 _ g2)
  wp_walk using q1 _ _ _,q2 _ _ _
  exact ⟨_,rfl,h⟩
theorem Ep {prog:Program} {w:World} {A:Around} {E:Value→Shared→Prop} {s:Shared} {l1 l2:Addr} {o1 o2:Obj} {G1 G2:Heap→Prop} {Q:Value→Shared→Prop} (p1:sH l1 o1 G1) (p2:sH l2 o2 G2) (k2:∀ h,G2 h→G2 (h.push o1)) (g1:G1 s.heap) (g2:G2 s.heap)
  (f1:o1.isFreed=false) (f2:o2.isFreed=false)
  (h:∀ h',IsZip h' (s.heap.objs.size+4) (s.heap.objs.size+2) (s.heap.objs.size+3) .none→IsPair h' (s.heap.objs.size+2) (.ref s.heap.objs.size) (.ref (s.heap.objs.size+1))→IsPair h' (s.heap.objs.size+3) .none .none →
   h'.get? s.heap.objs.size=some o1→h'.get? (s.heap.objs.size+1)=some o2→(∀ c o,s.heap.get? c=some o→h'.get? c=some o)→Q (.ref (s.heap.objs.size+4)) { s with heap:=h' }) :
  wpAny (model prog w) A (call (.type "zip") [.ref l1,.ref l2]) Q E s:=by
 refine callType_new F.called_zip (by decide) (F.typeCall_zip_2 _ _) (F.newCall_zip_2 _ _) (fun obj=>F.args_object_init_3 obj _ _) F.entry_zip_new (Os l1 l2 o1 o2 G1 G2 p1 p2 k2) ⟨g1,g2,?_⟩;have e1:(vM s.heap o1).objs.size=s.heap.objs.size+1:=Heap.size_push ..;have e2:(vF s.heap o1 o2).objs.size=s.heap.objs.size+2:=by rw [Heap.size_push,e1]
 have e3:(vK s.heap o1 o2).objs.size=s.heap.objs.size+3:=by rw [Heap.size_push,e2]
 have e4:(vB s.heap o1 o2).objs.size=s.heap.objs.size+4:=by rw [Heap.size_push,e3]
 have r5:(qD s.heap o1 o2).get? (vB s.heap o1 o2).objs.size=some _:=Heap.get?_push_size _ rfl;have r4:(qD s.heap o1 o2).get? (vK s.heap o1 o2).objs.size=some _:=Heap.get?_push_of_some _ (Heap.get?_push_size _ rfl);have r3:(qD s.heap o1 o2).get? (vF s.heap o1 o2).objs.size=some _:=Heap.get?_push_of_some _ (Heap.get?_push_of_some _ (Heap.get?_push_size _ rfl));have r2:(qD s.heap o1 o2).get? (vM s.heap o1).objs.size=some o2:=Heap.get?_push_of_some _ (Heap.get?_push_of_some _ (Heap.get?_push_of_some _ (Heap.get?_push_size _ f2)));have r1:(qD s.heap o1 o2).get? s.heap.objs.size=some o1:=Heap.get?_push_of_some _ (Heap.get?_push_of_some _ (Heap.get?_push_of_some _ (Heap.get?_push_of_some _ (Heap.get?_push_size _ f1))));show _∧_;rw [e2,e3,e4] at r5;rw [e1,e2] at r3;rw [e3] at r4;rw [e1] at r2;rw [e4];exact ⟨⟨_,r5,rfl⟩,h _ r5 r3 r4 r1 r2 fun c o q=>Heap.get?_push_of_some _ (Heap.get?_push_of_some _ (Heap.get?_push_of_some _ (Heap.get?_push_of_some _ (Heap.get?_push_of_some _ q))))⟩
end L2
namespace L2
open PySem PySem.Spec PyProof.Rows Bn
def iQ (f:Bool) (K:PySem.W.Frag) (H:Hp) (a:Addr) (xs:List V):Prop:=match f with
 | true=>dC K H a xs
 | false=>bY K H a xs
def mH (f:Bool) (it a:Addr) (i:Nat) (h:Heap):Prop:=match f with
 | true=>h.IsTupleIter it a i
 | false=>h.IsListIter it a i
def qF (f:Bool) (a:Addr) (items:Array Value) (h:Heap):Prop:=match f with
 | true=>h.IsTuple a items
 | false=>h.IsList a items
def Ic (f:Bool) (a:Addr):Obj:=match f with
 | true=>{ cls:=.type "tuple_iterator",data:=.fields #[.ref a,.int 0 0] }
 | false=>{ cls:=.type "list_iterator",data:=.fields #[.ref a,.int 0 0] }
section
variable {X:Cx} {pins:List (Addr × Obj)} {σ:St} {H:Hp} {s:Shared} {a:Addr} {xs ys:List V} {f:Bool}
theorem aG.seqF (I:aG X pins σ H s) (h:iQ f X.K H a xs):∃ its:List Value,bC xs its∧qF f a its.toArray s.heap∧xs.length≤sizeLine:=by
 cases f with
 | true =>
  obtain ⟨its,r,p,z⟩:=I.tuple h;exact ⟨its,r,p,z⟩
 | false =>
  obtain ⟨its,r,p,z⟩:=I.list h;exact ⟨its,r,p.isList,z⟩
theorem aG.seqF_inj (I:aG X pins σ H s) (h:iQ f X.K H a xs) (h':iQ f X.K H a ys):xs=ys:=by
 cases f with
 | true=>exact I.tuple_inj h h'
 | false=>exact I.list_inj h h'
theorem aG.apart {b:Addr} (I:aG X pins σ H s) (fb:eW X pins H b) (h:iQ f X.K H a xs):a≠b:=by
 have viaK:∀ {o:Obj},X.K.lookup a=some o→a≠b:=fun {o} q e=>by
  have hb:X.base.get? b=some o:=e ▸ I.ok.mod.kin a o q;rcases fb.2.2.2.1 with z | z
  ·exact I.ok.noex b o hb z
  ·exact absurd (Nat.lt_of_lt_of_le (Heap.lt_size (I.ok.bs b o hb).1) z) (Nat.lt_irrefl _)
 cases f with
 | true =>
  rcases h with (h | ⟨o,h⟩) | ⟨o,_,_,q,_⟩
  ·exact fF h fb.1
  ·exact fF h fb.1
  ·exact viaK q
 | false =>
  rcases h with (h | ⟨o,h⟩) | ⟨o,_,_,q,_⟩
  ·exact fF h fb.1
  ·exact fF h fb.1
  ·exact viaK q
end
theorem uL {prog:Program} {w:World} {A:Around} (f:Bool) (hh:A.handled=none) (it a:Addr) (hne:a≠it) (items:Array Value) :
  Draws prog w A it [it,a] items.size (fun i v=>items[i]?=some v) (fun i h=>mH f it a i h∧qF f a items h):=by
 cases f with
 | true=>exact Lw hh it a hne items
 | false=>exact Draws.list hh it a hne items
theorem Ym (f:Bool) (a:Addr) (items:Array Value):sH a (Ic f a) (qF f a items):=by
 cases f with
 | true=>exact fun prog w A E s Q g q=>wpAny_pyIter_tuple g q
 | false=>exact fun prog w A E s Q g q=>wpAny_pyIter_list g q
theorem mH.keep {f:Bool} {it a:Addr} {i:Nat} {h h':Heap} (x:mH f it a i h) (k:∀ o,h.get? it=some o→h'.get? it=some o):mH f it a i h':=by
 cases f with
 | true=>obtain ⟨o,e,r⟩:=x; exact ⟨o,k o e,r⟩
 | false=>obtain ⟨o,e,r⟩:=x; exact ⟨o,k o e,r⟩
theorem qF.keep {f:Bool} {a:Addr} {items:Array Value} {h h':Heap} (x:qF f a items h) (k:∀ o,h.get? a=some o→h'.get? a=some o):qF f a items h':=by
 cases f with
 | true=>obtain ⟨o,e,r⟩:=x; exact ⟨o,k o e,r⟩
 | false=>obtain ⟨o,e,r⟩:=x; exact ⟨o,k o e,r⟩
theorem mH.obj {f:Bool} {it a:Addr} {i:Nat} {h:Heap} (x:mH f it a i h):∃ o,h.get? it=some o∧∀ v,o.data≠.cell v:=by
 cases f with
 | true=>obtain ⟨o,e,_,d⟩:=x; exact ⟨o,e,fun v z=>by rw [d] at z; cases z⟩
 | false=>obtain ⟨o,e,_,d⟩:=x; exact ⟨o,e,fun v z=>by rw [d] at z; cases z⟩
theorem Rf (f:Bool) (a it:Addr) {h:Heap} (e:h.get? it=some (Ic f a)):mH f it a 0 h:=by
 cases f with
 | true=>exact ⟨_,e,rfl,rfl⟩
 | false=>exact ⟨_,e,rfl,rfl⟩
theorem Lh (f:Bool) (a:Addr):(Ic f a).isFreed=false:=by cases f <;> rfl
def Jo (K : PySem.W.Frag) (f1 : Bool) (a : Addr) (f2 : Bool) (b : Addr) : It :=
  ⟨fun i H => ∃ xs ys x y, iQ f1 K H a xs ∧ iQ f2 K H b ys ∧ xs[i]? = some x ∧ ys[i]? = some y,
   fun i H v H' => ∃ p x y, H p = none ∧ v = .ref p ∧ H' = aT H p (.tup [x, y]) ∧ (∀ xs, iQ f1 K H a xs → xs[i]? = some x) ∧ ∀ ys, iQ f2 K H b ys → ys[i]? = some y,
   fun i H => ∃ xs ys, iQ f1 K H a xs ∧ iQ f2 K H b ys ∧ (i = xs.length ∨ (i < xs.length ∧ i = ys.length))⟩
structure vO (z TI TO i1 i2:Addr):Prop where
 tiz:TI≠z
 toz:TO≠z
 i1z:i1≠z
 i2z:i2≠z
 tito:TI≠TO
 ti1:TI≠i1
 ti2:TI≠i2
 to1:TO≠i1
 to2:TO≠i2
 i12:i1≠i2
theorem vO.ap {z TI TO i1 i2 a b:Addr} (r:vO z TI TO i1 i2) (h:∀ c∈[z,TI,TO,i1,i2],a≠c) (g:∀ c∈[z,TI,TO,i1,i2],b≠c):sQ z TI TO i1 i2 [i1,a] [i2,b] where
 tiz:=r.tiz
 toz:=r.toz
 tito:=r.tito
 ti1:=r.ti1
 ti2:=r.ti2
 z1:=fun q=>by simp at q; rcases q with q | q; exact r.i1z q.symm; exact h z (by simp) q.symm
 z2:=fun q=>by simp at q; rcases q with q | q; exact r.i2z q.symm; exact g z (by simp) q.symm
 to1:=fun q=>by simp at q; rcases q with q | q; exact r.to1 q; exact h TO (by simp) q.symm
 to2:=fun q=>by simp at q; rcases q with q | q; exact r.to2 q; exact g TO (by simp) q.symm
 i12:=fun q=>by simp at q; rcases q with q | q; exact r.i12 q; exact g i1 (by simp) q.symm
 i21:=fun q=>by simp at q; rcases q with q | q; exact r.i12 q.symm; exact h i2 (by simp) q.symm
 m1:=by simp
 m2:=by simp
theorem Zt {P:Program} {w:World} {K:PySem.W.Frag} {elts:List Expr} {x1:Nat} {tp:Pos} (f1 f2:Bool) (a b z TI TO i1 i2:Addr) (zr:vO z TI TO i1 i2) :
  pZ P w K (.Tuple elts x1 tp) (Jo K f1 a f2 b) [z,TI,TO,i1,i2] z (fun i h=>IsZip h z TI TO .none∧IsPair h TI (.ref i1) (.ref i2)∧(∃ u v,IsPair h TO u v)∧mH f1 i1 a i h∧mH f2 i2 b i h) where
 mem:=by simp
 obj:=fun i h st c hc=>by
  obtain ⟨e1,e2,⟨u,v,e3⟩,e4,e5⟩:=st;simp at hc;rcases hc with q | q | q | q | q
  ·subst q
   exact ⟨_,e1,fun v z=>nomatch z⟩
  ·subst q
   exact ⟨_,e2,fun v z=>nomatch z⟩
  ·subst q
   exact ⟨_,e3,fun v z=>nomatch z⟩
  ·subst q
   exact e4.obj
  ·subst q
   exact e5.obj
 keep:=fun i h h' st k=>by
  obtain ⟨e1,e2,⟨u,v,e3⟩,e4,e5⟩:=st;exact ⟨k z (by simp) _ e1,k TI (by simp) _ e2,⟨u,v,k TO (by simp) _ e3⟩,e4.keep fun o q=>k i1 (by simp) o q,e5.keep fun o q=>k i2 (by simp) o q⟩
 item:=by
  intro X hP hw hK hc i pins s σ H E I hf st hg;subst hP hw hK;obtain ⟨xs,ys,x,y,hx,hy,ex,ey⟩:=hg;obtain ⟨its,r1,p1,_⟩:=I.seqF hx;obtain ⟨jts,r2,p2,_⟩:=I.seqF hy;obtain ⟨ux,gx,rx⟩:=r1.get ex;obtain ⟨uy,gy,ry⟩:=r2.get ey;obtain ⟨e1,e2,⟨u,v,e3⟩,e4,e5⟩:=st;have na:∀ c∈[z,TI,TO,i1,i2],a≠c:=fun c hc=>I.apart (hf c hc) hx;have nb:∀ c∈[z,TI,TO,i1,i2],b≠c:=fun c hc=>I.apart (hf c hc) hy;have hd:X.A.in1.handled=none:=I.ok.hd hc;have D1:=uL (prog:=X.prog) (w:=X.w) f1 hd i1 a (na i1 (by simp)) its.toArray;have D2:=uL (prog:=X.prog) (w:=X.w) f2 hd i2 b (nb i2 (by simp)) jts.toArray;refine Up D1 D2 (zr.ap na nb) e1 e2 e3 ⟨e4,p1⟩ ⟨e5,p2⟩ (List.getElem?_eq_some_iff.mp gx).1 (List.getElem?_eq_some_iff.mp gy).1 fun h1 tk vx vy px py q1 q2 q3 q4 q5 k1=>⟨_,rfl,?_⟩;have ex':vx=ux:=by
   have:its[i]?=some vx:=by simpa using px
   rw [gx] at this;exact (Option.some.inj this).symm
  have ey':vy=uy:=by
   have:jts[i]?=some vy:=by simpa using py
   rw [gy] at this;exact (Option.some.inj this).symm
  subst ex' ey';have lt:∀ c∈[z,TI,TO,i1,i2],c≠s.heap.objs.size:=fun c hc=>by
   have:∃ o,s.heap.get? c=some o:=by
    simp at hc;rcases hc with q | q | q | q | q
    ·exact ⟨_,q ▸ e1⟩
    ·exact ⟨_,q ▸ e2⟩
    ·exact ⟨_,q ▸ e3⟩
    ·obtain ⟨o,ho,_⟩:=e4.obj
     exact ⟨o,q ▸ ho⟩
    ·obtain ⟨o,ho,_⟩:=e5.obj
     exact ⟨o,q ▸ ho⟩
   obtain ⟨o,ho⟩:=this;exact Nat.ne_of_lt (Heap.lt_size ho)
  refine wpAny_letOwnedTupleGo_zip (s:={ s with heap:=h1,toks:=tk }) q1 fun h2 z2 sb2=>?_;have t2:h2.get? s.heap.objs.size=some { cls:=.type "tuple",data:=.seq #[vx,vy] }:=(sb2.2 _ (lt z (by simp)).symm).trans q5;have I2:aG X pins σ (aT H s.heap.objs.size (.tup [x,y])) { s with heap:=h2,toks:=tk } :=
   I.turnedNew hf (fun c o hc q=>(sb2.2 c (fun e=>hc (by simp [e]))).trans (k1 c o (fun e=>hc (by simp [e])) (fun e=>hc (by simp [e])) (fun e=>hc (by simp [e])) (fun e=>hc (by simp [e])) q)) (Nat.le_refl _)
    ⟨by show 2≤sizeLine; decide,[vx,vy],.cons rx (.cons ry .nil),⟨_,t2,rfl,_,rfl⟩⟩
  refine ⟨.ref s.heap.objs.size,_,I2,rfl,⟨_,x,y,I.hok.fresh (Nat.le_refl _),rfl,rfl,fun zs hz=>by rw [I.seqF_inj hz hx]; exact ex,fun zs hz=>by rw [I.seqF_inj hz hy]; exact ey⟩,
   ⟨z2,(sb2.2 _ zr.tiz).trans (k1 _ _ zr.tiz zr.tito zr.ti1 zr.ti2 e2),⟨_,_,(sb2.2 _ zr.toz).trans q2⟩,q3.1.keep fun o q=>(sb2.2 _ zr.i1z).trans q,q4.1.keep fun o q=>(sb2.2 _ zr.i2z).trans q⟩,fun c hc=>?_⟩
  rw [bP (lt c hc)];exact (hf c hc).1
 done:=by
  intro X hP hw hK hc i pins s σ H E I hf st hg;subst hP hw hK;obtain ⟨xs,ys,hx,hy,fin⟩:=hg;obtain ⟨its,r1,p1,_⟩:=I.seqF hx;obtain ⟨jts,r2,p2,_⟩:=I.seqF hy;have l1:=r1.length;have l2:=r2.length;obtain ⟨e1,e2,⟨u,v,e3⟩,e4,e5⟩:=st;have na:∀ c∈[z,TI,TO,i1,i2],a≠c:=fun c hc=>I.apart (hf c hc) hx;have nb:∀ c∈[z,TI,TO,i1,i2],b≠c:=fun c hc=>I.apart (hf c hc) hy;have hd:X.A.in1.handled=none:=I.ok.hd hc;have D1:=uL (prog:=X.prog) (w:=X.w) f1 hd i1 a (na i1 (by simp)) its.toArray;have D2:=uL (prog:=X.prog) (w:=X.w) f2 hd i2 b (nb i2 (by simp)) jts.toArray;refine To D1 D2 (zr.ap na nb) e1 e2 e3 ⟨e4,p1⟩ ⟨e5,p2⟩ (by rw [List.size_toArray,List.size_toArray,← l1,← l2]; exact fin) fun h' tk k=>⟨rfl,?_⟩;exact I.turnedL hf fun c o hc q=>k c o (fun e=>hc (by simp [e])) (fun e=>hc (by simp [e])) (fun e=>hc (by simp [e])) (fun e=>hc (by simp [e])) q
 self:=fun _ _ _ _ _ st h=>wpAny_pyIter_zip st.1 h
section
variable {X:Cx} {elts:List Expr} {x1:Nat} {tp:Pos}
def aau (K:PySem.W.Frag) (tl:TA):TI:=fun σ H R=>tl σ H fun vs H1=>∃ f1 a f2 b xs ys,vs=[.ref a,.ref b]∧iQ f1 K H1 a xs∧iQ f2 K H1 b ys∧R (Jo K f1 a f2 b) H1
theorem D0 {l r:Expr} {tl:TA} {p pos:Pos} (hg:Gl X "zip") (hm:X.mg "zip"=none) (hl:PA X [l,r] tl) (hs:starEach [l,r] X.env=[(false,eval l X.env),(false,eval r X.env)]:=by rfl) (hs2:starEach [r] X.env=[(false,eval r X.env)]:=by rfl) :
  PI X (.Tuple elts x1 tp) (.Call (.Name "zip" p) [l,r] [] pos) (aau X.K tl):=by
 intro pins s σ H R I h;refine Call_ (oA I hg hm boot_zip (PyProof.Rows.callWith_type1 (bF (hl pos pins s σ H _ I h) fun us s1 ⟨vs,H1,I1,r1,q1⟩=>?_) (by rw [hs,hs2]) (by rw [hs2]; rfl)));obtain ⟨f1,a,f2,b,xs,ys,rfl,hx,hy,q⟩:=q1;obtain ⟨u,v,rfl,ru,rv⟩:=Gn r1;cases ru;cases rv;obtain ⟨its,_,p1,_⟩:=I1.seqF hx;obtain ⟨jts,_,p2,_⟩:=I1.seqF hy;refine Ep (Ym f1 a its.toArray) (Ym f2 b jts.toArray) (fun h g=>g.keep fun o z=>Heap.get?_push_of_some _ z) p1 p2 (Lh _ _) (Lh _ _) fun h' e1 e2 e3 e4 e5 k=>?_;refine wpAny_pyIter_zip (s:={ s1 with heap:=h' }) e1 ?_;have zr:vO (s1.heap.objs.size+4) (s1.heap.objs.size+2) (s1.heap.objs.size+3) s1.heap.objs.size (s1.heap.objs.size+1):=by
  generalize s1.heap.objs.size=n;have g:∀ i j:Nat,i≠j→((n:Nat)+i:Nat)≠n+j:=fun i j h=>by omega
  exact ⟨g 2 4 (by decide),g 3 4 (by decide),g 0 4 (by decide),g 1 4 (by decide),g 2 3 (by decide),g 2 0 (by decide),g 2 1 (by decide),g 3 0 (by decide),g 3 1 (by decide),g 0 1 (by decide)⟩
 refine ⟨_,[s1.heap.objs.size+4,s1.heap.objs.size+2,s1.heap.objs.size+3,s1.heap.objs.size,s1.heap.objs.size+1],_,_,H1,rfl,I1.kept (t':=s1.toks) k,Zt f1 f2 a b _ _ _ _ _ zr,⟨e1,e2,⟨_,_,e3⟩,Rf f1 a _ e4,Rf f2 b _ e5⟩,fun c hc=>?_,q⟩;have hb:s1.heap.objs.size≤c:=by
  simp only [List.mem_cons,List.not_mem_nil,or_false] at hc;rcases hc with q | q | q | q | q
  all_goals rw [q]
  all_goals first | exact Nat.le_refl _ | exact Nat.le_add_right _ _
 exact I1.fpOk hb (I1.hok.fresh hb)
end
end L2
namespace L2
open PySem PySem.Spec PyProof.Rows Bn
theorem M4 (K:PySem.W.Frag):PySem.W.kitOne K (.type "int") (.type "bool")=some false:=by
 unfold PySem.W.kitOne PySem.W.kitCls;rw [if_neg (by decide)];show (if PySem.W.kitMeta "bool"=true then PySem.W.subIn K (.type "int") (.type "bool") else none)=some false;rw [if_pos (by decide +kernel)];show (fastBuiltinMro "int").map (·.contains (.type "bool"))=some false;decide +kernel
section
variable {P:Program} {w:World} {K:PySem.W.Frag} {mg:Str→Option Value} {base:Heap}
end
theorem H0 {X:Cx} {sc:Scope} {own:List Str} {cap:List (Nat × Str)} (so:Scope) (N:List Str) (hso:X.env.scope=so) (hN:X.N=N) (kind:sc.kind=.function) (names:∀ y∈sc.names,y.2=.local→sc.names.lookup y.1=some .local)
  (nocell:∀ y∈sc.names,y.2≠.cell) (free:∀ y∈sc.names,y.2=.free→so.names.lookup y.1=some .cell) (at':∀ p∈cap,N[p.1]?=some p.2) (hcap:∀ p∈cap,sc.names.lookup p.2=some .free):gI X sc own cap :=
 ⟨kind,names,nocell,fun y hy e=>by show X.env.scope.names.lookup y.1=_; rw [hso]; exact free y hy e,fun p hp=>by rw [hN]; exact at' p hp,hcap⟩
end L2
namespace L2
open PySem PySem.Spec PyProof.Rows Bn
theorem Rg (n d:Nat):HT.sIx (n+1) d (some (-1))=n:=by
 unfold HT.sIx;simp;omega
end L2
namespace L2
open PySem PySem.Spec PyProof.Rows Bn
section
variable {X:Cx}
end
end L2
namespace L2
open PySem PySem.Spec PyProof.Rows Bn
def CX1 (P:Program) (w:World):iR:=fun outer H s E e s'=>∃ (x C t:Addr) (B:Heap) (H':Hp),e=.ref x∧s'.os=s.os∧AllBare s'.gens∧Un (fT outer) [] H H' s.heap s'.heap∧eU P w H' s'.heap ∧
 Heap.FlyingW B outer x (.ref C) (.ref t) s'.heap∧(∀ b o,s'.heap.get? b=some o→(∃ u,H' b=some u)∨(∃ o',s.heap.get? b=some o'∧b ∉ fT outer)→B.get? b=some o)∧E (.ref C) none H'
end L2
namespace L2
open PySem PySem.Spec PyProof.Rows Bn
section
variable {X:Cx} {pins:List (Addr × Obj)} {σ:St} {H H':Hp} {s s':Shared}
end
section
variable {X:Cx} {k:Nat} {f:Addr} {fd:FuncData} {ps:List Str} {sp:Sp} {dvs:List V} {ds:List Value} {E:XK} {x:Str} {p pos:Pos} {e:Expr} {es:List Expr} {t:TA}
end
end L2
namespace L2
open PySem PySem.Spec PyProof.Rows Bn
section
variable {P:Program} {w:World} {K:PySem.W.Frag} {mg:Str→Option Value} {base:Heap} {CX:iR}
end
end L2
namespace L2
open PySem PySem.Spec PyProof.Rows Bn
section
variable {X:Cx} {pins:List (Addr × Obj)} {σ:St} {H:Hp} {s:Shared}
end
section
variable {X:Cx} {pins:List (Addr × Obj)} {σ:St} {H:Hp} {s:Shared}
end
end L2
namespace L2
open PySem PySem.Spec PyProof.Rows Bn
section
variable {X:Cx} {k:Nat} {f:Addr} {fd:FuncData} {ps:List Str} {sp:Sp} {dvs:List V} {ds:List Value} {x:Str} {p pos pos1 pos2 pos3 pc:Pos} {e:Expr} {es:List Expr} {t:TA} {c n:Str} {C:Addr} {i:Nat} {b₀:Stmt} {body:List Stmt} {newId:String}
end
end L2
namespace L2
open PySem PySem.Spec PySem.W PySem.Calls PySem.Builtin PySem.Builtin.Getset_descriptor PyProof.Rows Bn
section
variable {prog:Program} {w:World} {A:Around} {E:Value→Shared→Prop} {s:Shared} {K:PySem.W.Frag} {x D:Addr} {B:String} {R:Result→Shared→Prop}
end
end L2
namespace L2
open PySem PySem.Spec PyProof.Rows Bn
section
variable {X:Cx} {y D:Addr} {oe:Obj}
end
end L2
namespace L2
open PySem PySem.Spec PyProof.Rows
def fX (h:Heap) (l:List Int) (a:Addr):Prop:=∃ o its n,h.get? a=some o∧o.cls=.type "tuple"∧o.data=.seq its n∧bC (l.map V.int) its.toList
def iT (h:Heap) (ks:List (List Int)) (a:Addr):Prop:=∃ o its n,h.get? a=some o∧o.cls=.type "tuple"∧o.data=.seq its n∧Paired (fun k v=>∃ b,v=Value.ref b∧fX h k b) ks its.toList
def hF (l:List Int):Int:=reduceHash (Builtin.Tuple.tupleHashOf (l.map hashInt))
def hN (l:List (List Int)):Int:=reduceHash (Builtin.Tuple.tupleHashOf (l.map hF))
abbrev iK (prog:Program) (w:World):KeyKind prog w Int:=intKind prog w
theorem Ci:∀ {l m:List Int} {us:List Value},bC (l.map V.int) us→bC (m.map V.int) us→l=m
 | [],[],_,_,_=>rfl
 | [],_ :: _,_,.nil,h=>nomatch h
 | _ :: _,[],_,.cons _ _,h=>nomatch h
 | i :: l,j :: m,_,.cons r t,.cons r' t'=>by
  obtain ⟨x,e⟩:=r;obtain ⟨y,e'⟩:=r';rw [e] at e';injection e' with e1;rw [e1,Ci t t']
section
variable {prog:Program} {w:World} {A:Around} {E:Value→Shared→Prop} {s:Shared} {h h':Heap} {a b d:Addr}
theorem fX.inj {x y:List Int} (hx:fX h x a) (hy:fX h y a):x=y:=by
 obtain ⟨o,its,n,e,_,f,r⟩:=hx;obtain ⟨o',its',n',e',_,f',r'⟩:=hy;cases Option.some.inj (e.symm.trans e');cases f.symm.trans f';exact Ci r r'
theorem iT.inj {x y:List (List Int)} (hx:iT h x a) (hy:iT h y a):x=y:=by
 obtain ⟨o,its,n,e,_,f,r⟩:=hx;obtain ⟨o',its',n',e',_,f',r'⟩:=hy;cases Option.some.inj (e.symm.trans e');cases f.symm.trans f'
 revert r r'
 generalize its.toList=us;intro r
 induction r generalizing y with
 | nil=>intro r'; cases r'; rfl
 | cons p _ ih =>
  intro r';cases r' with
  | cons p' t' =>
   obtain ⟨b,rfl,g⟩:=p;obtain ⟨b',eb,g'⟩:=p';cases eb;rw [g.inj g',ih t']
theorem Hm {o o':Obj} {its:Array Value} {n:Nat} {es ep} (e:h.get? a=some o) (f:o.data=.seq its n) (e':h.get? d=some o') (f':o'.data=.dict es ep):a≠d:=fun z=>by
 rw [z,e'] at e;cases e;rw [f] at f';cases f'
theorem fX.keep {l:List Int} {o':Obj} {es ep} (x:fX h l a) (e':h.get? d=some o') (f':o'.data=.dict es ep) (sb:Heap.SameBut d h h'):fX h' l a:=by
 obtain ⟨o,its,n,e,c,f,r⟩:=x;exact ⟨o,its,n,(sb.2 a (Hm e f e' f')).trans e,c,f,r⟩
theorem iT.keep {l:List (List Int)} {o':Obj} {es ep} (x:iT h l a) (e':h.get? d=some o') (f':o'.data=.dict es ep) (sb:Heap.SameBut d h h'):iT h' l a:=by
 obtain ⟨o,its,n,e,c,f,r⟩:=x;exact ⟨o,its,n,(sb.2 a (Hm e f e' f')).trans e,c,f,Paired.mapP r fun _ _ ⟨b,eb,g⟩=>⟨b,eb,g.keep e' f' sb⟩⟩
theorem xC:∀ {l:List Int} {us:List Value},bC (l.map V.int) us→ItemsAre (iK prog w) l us
 | [],_,.nil=>.nil
 | i :: l,_,.cons r t=>by
  obtain ⟨t',rfl⟩:=r;exact .cons (by simp [iK,intKind,Value.isInt]) (xC t)
theorem fX.key {l:List Int} (x:fX h l a):IsTupleKey (iK prog w) h l a:=by
 obtain ⟨o,its,n,e,c,f,r⟩:=x;exact ⟨o,its,n,e,c,f,xC r⟩
theorem Zv {α:Type} [DecidableEq α] (z:α) (l m:List α):((List.range (min l.length m.length)).all (fun j=>decide (l.getD j z=m.getD j z)) && l.length == m.length)=decide (l=m):=by
 rw [Bool.eq_iff_iff,Bool.and_eq_true,List.all_eq_true,decide_eq_true_iff];constructor
 ·rintro ⟨h1,h2⟩
  have hl:l.length=m.length:=by simpa using h2
  refine List.ext_getElem hl fun i g1 g2=>?_;have:=h1 i (by simp; omega);simpa [List.getD,g1,g2] using this
 ·rintro rfl
  exact ⟨fun i _=>by simp,by simp⟩
theorem tQ {α β:Type} {R:α→β→Prop}:∀ {l:List α} {m:List β},Paired R l m→l.length=m.length∧∀ (j:Nat) (x:α) (y:β),l[j]?=some x→m[j]?=some y→R x y
 | _,_,.nil=>⟨rfl,fun j x y h=>by simp at h⟩
 | _,_,.cons r t=>by
  obtain ⟨e,g⟩:=tQ t;refine ⟨by rw [List.length_cons,List.length_cons,e],fun j x y h1 h2=>?_⟩;cases j with
  | zero =>
   simp at h1 h2;rw [← h1,← h2];exact r
  | succ j=>exact g j x y (by simpa using h1) (by simpa using h2)
theorem Ki {α:Type} [DecidableEq α] (z:α) {R:α→Value→Prop} {x y:List α} {o o':Obj} {us vs:Array Value} {n n':Nat} (hu:A.units < cLine) (ha:s.heap.get? a=some o) (hc:o.cls=.type "tuple") (hd:o.data=.seq us n) (hb:s.heap.get? b=some o') (hc':o'.cls=.type "tuple") (hd':o'.data=.seq vs n')
  (rx:Paired R x us.toList) (ry:Paired R y vs.toList) (same:a=b→x=y) (eq:∀ k l u v,R k u→R l v→SeqAt.EqAt A.in1 s u v (decide (k=l))):SeqAt.EqAt A s (.ref a) (.ref b) (decide (x=y)):=by
 by_cases ab:a=b
 ·rw [decide_eq_true (same ab),ab]
  exact SeqAt.EqAt.same _
 ·obtain ⟨m1,g1⟩:=tQ rx
  obtain ⟨m2,g2⟩:=tQ ry;have l1:x.length=us.size:=by simpa using m1
  have l2:y.length=vs.size:=by simpa using m2
  have:=SeqAt.RcAt.tuples (A:=A) (s:=s) (l:=a) (b:=b) (items:=us) (items2:=vs) (e:=fun j=>decide (x.getD j z=y.getD j z)) ⟨o,ha,hc,n,hd⟩ ⟨o',hb,hc',n',hd'⟩ hu fun j h1 h2=>by
   have i1:j < x.length:=by omega
   have i2:j < y.length:=by omega
   have e1:x.getD j z=x[j]:=by simp [List.getD,i1]
   have e2:y.getD j z=y[j]:=by simp [List.getD,i2]
   rw [e1,e2];exact eq _ _ _ _ (g1 j _ _ (List.getElem?_eq_getElem i1) (by simp [h1])) (g2 j _ _ (List.getElem?_eq_getElem i2) (by simp [h2]))
  rw [← l1,← l2,Zv] at this;exact SeqAt.EqAt.of_refs ab this
theorem xS:∀ {l:List Int} {us:List Value},bC (l.map V.int) us→Paired (fun (i:Int) v=>∃ t,v=Value.int i t) l us
 | [],_,.nil=>.nil
 | _ :: _,_,.cons r t=>.cons r (xS t)
theorem fX.eq {x y:List Int} (hu:A.units < cLine) (hx:fX s.heap x a) (hy:fX s.heap y b):SeqAt.EqAt A s (.ref a) (.ref b) (decide (x=y)):=by
 have inj:a=b→x=y:=fun z=>by subst z; exact hx.inj hy
 obtain ⟨o,us,n,e,c,f,r⟩:=hx;obtain ⟨o',vs,n',e',c',f',r'⟩:=hy;refine Ki 0 hu e c f e' c' f' (xS r) (xS r') inj fun k l u v ⟨t,eu⟩ ⟨t',ev⟩=>?_;subst eu ev;have:=SeqAt.EqAt.int_int (A:=A.in1) (s:=s) k t l t';have e:(k == l)=decide (k=l):=by by_cases q:k=l <;> simp [q]
 rwa [e] at this
theorem iT.eq {x y:List (List Int)} (hu:A.units+1 < cLine) (hx:iT s.heap x a) (hy:iT s.heap y b):SeqAt.EqAt A s (.ref a) (.ref b) (decide (x=y)):=by
 have inj:a=b→x=y:=fun z=>by subst z; exact hx.inj hy
 obtain ⟨o,us,n,e,c,f,r⟩:=hx;obtain ⟨o',vs,n',e',c',f',r'⟩:=hy;refine Ki [] (Nat.lt_of_succ_lt hu) e c f e' c' f' r r' inj fun k l u v ⟨p,eu,g⟩ ⟨q,ev,g'⟩=>?_;subst eu ev;exact g.eq hu g'
theorem Re {Q:Array Int→Shared→Prop} (hu:A.units < cLine):∀ (ks:List (List Int)) (vs:List Value) (t:Nat) (acc:Array Int),Paired (fun k v=>∃ b,v=Value.ref b∧fX s.heap k b) ks vs →
  (∀ acc':Array Int,acc'.toList=acc.toList++ks.map hF→Q acc' { s with toks:=t+(ks.map fun k=>k.length+1).sum }) →
  wpAny (model prog w) A (forIn vs acc fun x r=>do let h ← pyHash x; pure PUnit.unit; pure (ForInStep.yield (r.push h))) Q E { s with toks:=t }
 | [],_,t,acc,.nil,q=>wpAny_pure (by simpa using q acc (by simp))
 | k :: ks,_,t,acc,.cons ⟨b,eb,g⟩ r,q=>by
  subst eb;rw [List.forIn_cons];refine wpAny_bind (wpAny_bind (wpAny_pyHash_tuple (knd:=iK prog w) (s:={ s with toks:=t }) hu g.key ?_));refine wpAny_bind (wpAny_pure (wpAny_pure ?_));refine Re hu ks _ (t+(k.length+1)) _ r fun acc' e=>?_;have:=q acc' (by rw [e]; simp [hF,tupleKeyHash,iK,intKind]);rw [List.map_cons,List.sum_cons] at this;simpa [Nat.add_assoc] using this
theorem iT.hash {ks:List (List Int)} {Q:Int→Shared→Prop} (hu:A.units+1 < cLine) (hk:iT s.heap ks a) (q:Q (hN ks) { s with toks:=s.toks+((ks.map fun k=>k.length+1).sum+1) }):wpAny (model prog w) A (pyHash (.ref a)) Q E s:=by
 obtain ⟨o,its,n,e,c,f,r⟩:=hk;refine PySem.W.pyHash_slot (T:="tuple") ⟨o,e,c⟩ F.slot_tuple_hash F.entry_tuple_hash (F.args_tuple_hash_1 _) (beq_builtin_none _) (.inr (Nat.lt_of_succ_lt hu)) ?_;show wpAny _ _ (Builtin.Tuple.tupleItemsOf (.ref a) >>= _) _ _ s;refine wpAny_bind (wpAny_tupleItemsOf e f (wpAny_bind ?_));rw [← Array.forIn_toList];refine Re hu ks its.toList s.toks #[] r fun acc ea=>?_;show wpAny _ _ (retInt (Builtin.Tuple.tupleHashOf acc.toList)) _ _ _;rw [ea];exact wpAny_bind (wpAny_mkInt (wpAny_pure ⟨_,_,rfl,by simpa [hN,Nat.add_assoc] using q⟩))
theorem Kd {n:Nat} {P:Value→Prop} (hP:∀ v (Q:Bool→Shared→Prop),P v→Q true s→wpAny (model prog w) A (eqIsQuiet n v) Q E s) {o:Obj} {its:Array Value} {m:Nat} {Q:Bool→Shared→Prop} (e:s.heap.get? a=some o) (c:o.cls=.type "tuple") (f:o.data=.seq its m) (r:∀ v∈its.toList,P v) (q:Q true s) :
  wpAny (model prog w) A (eqIsQuiet (n+1) (.ref a)) Q E s:=by
 have hT:s.TypeIs (.ref a) "tuple":=⟨o,e,c⟩;unfold eqIsQuiet;refine wpAny_bind (wpAny_specialOf hT F.slot_tuple_eq.lookup (wpAny_bind (wpAny_isInstance hT isSubtype_tuple_tuple ?_)));rw [if_neg (by simp)];refine wpAny_bind (wpAny_seqItems e f (wpAny_bind ?_));show wpAny _ _ (forIn its _ _) _ _ s;rw [← Array.forIn_toList];refine wpAny_forIn_list _ (fun fD z s'=>s'=s∧z.1=none∧∀ v∈fD,P v) _ ?_ ?_ _ _ ⟨rfl,rfl,r⟩
 ·rintro v fD z s' ⟨rfl,hz,hr⟩
  refine wpAny_bind (hP v _ (hr v List.mem_cons_self) ?_);rw [if_neg (by simp)];exact wpAny_pure ⟨rfl,rfl,fun u hu=>hr u (List.mem_cons_of_mem _ hu)⟩
 ·rintro ⟨z1,z2⟩ s' ⟨rfl,hz,_⟩
  cases hz;exact wpAny_pure q
theorem fX.quiet {n:Nat} {l:List Int} {Q:Bool→Shared→Prop} (hk:fX s.heap l a) (q:Q true s):wpAny (model prog w) A (eqIsQuiet (n+1) (.ref a)) Q E s:=by
 obtain ⟨o,its,m,e,c,f,r⟩:=hk;refine Kd (P:=fun v=>carriedByValue v=true) (fun v Q' hv q'=>?_) e c f (xC (prog:=prog) (w:=w) r).byValue q;rw [eqIsQuiet_byValue _ hv];exact wpAny_pure q'
theorem iT.quiet {ks:List (List Int)} {Q:Bool→Shared→Prop} (hk:iT s.heap ks a) (q:Q true s):wpAny (model prog w) A (eqIsQuiet 8 (.ref a)) Q E s:=by
 obtain ⟨o,its,m,e,c,f,r⟩:=hk;refine Kd (P:=fun v=>∃ k b,v=.ref b∧fX s.heap k b) (fun v Q' ⟨k,b,ev,g⟩ q'=>by subst ev; exact g.quiet (n:=6) q') e c f (fun v hv=>?_) q;obtain ⟨l1,g⟩:=tQ r;obtain ⟨i,hi,ev⟩:=List.mem_iff_getElem.mp hv;have i1:i < ks.length:=by rw [l1]; exact hi
 obtain ⟨b,eb,gb⟩:=g i _ v (List.getElem?_eq_getElem i1) (by rw [List.getElem?_eq_getElem hi,ev]);exact ⟨_,b,eb,gb⟩
end
def Mw (prog:Program) (w:World):HeapKind prog w (List (List Int)) where
 is:=iT
 hash:=hN
 draws:=fun ks=>(ks.map fun k=>k.length+1).sum+1
 room:=fun A=>A.units+1 < cLine
 inj:=fun hx hy=>hx.inj hy
 keeps:=fun x ho hd hs=>x.keep ho hd hs
 pyHash:=fun hu hk h=>hk.hash hu h
 eqBool:=fun hu hx hy h=>hx.eq hu hy _ _ _ _ h
 quiet:=fun hk h=>hk.quiet h
def fK:Bool→Type
 | false=>List Int
 | true=>List (List Int)
instance decK:(n:Bool)→DecidableEq (fK n)
 | false=>inferInstanceAs (DecidableEq (List Int))
 | true=>inferInstanceAs (DecidableEq (List (List Int)))
def Hn:(n:Bool)→fK n→Int
 | false=>hF
 | true=>hN
def kU (prog:Program) (w:World):(n:Bool)→HeapKind prog w (fK n)
 | false=>tupleKind (iK prog w)
 | true=>Mw prog w
theorem He {prog:Program} {w:World}:∀ (n:Bool) (k:fK n),(kU prog w n).hash k=Hn n k
 | false,_=>rfl
 | true,_=>rfl
theorem xG {prog:Program} {w:World} {A:Around} (hu:A.units+2 < cLine):∀ n:Bool,(kU prog w n).room A.in1
 | false=>Nat.lt_of_succ_lt hu
 | true=>hu
end L2
namespace L2.Pp
open PySem PySem.Spec PyProof.Rows Bn
inductive PV where
 | non | bl (b:Bool) | int (i:Int) | str (x:Str) | tup (xs:List PV) | lst (xs:List PV)
inductive SO where
 | lst (xs:List PV)
 | lol (xss:List (List PV))
 | dic (n:Bool) (kvs:List (PV × PV))
 | dol (n:Bool) (kvs:List (PV × List PV))
abbrev aI:=List SO
inductive AV where
 | pv (v:PV) | ref (k:Nat)
abbrev bR:=List (Option AV)
inductive bK (α:Type) where
 | ok (a:α) (S:aI) | exc (n:Str) (S:aI) | fail
def bK.bind {α β:Type} (r:bK α) (k:α→aI→bK β):bK β:=match r with
 | .ok a S=>k a S
 | .exc n S=>.exc n S
 | .fail=>.fail
inductive bX where
 | nx (ρ:bR) (S:aI) | rt (v:AV) (S:aI) | bk (ρ:bR) (S:aI) | ct (ρ:bR) (S:aI) | exc (n:Str) (S:aI) | fail
def jP (K:PySem.W.Frag) (c:Addr→Prop) (H:Hp) (a:Addr) (vs:List V):Prop :=
 (H a=some (.lst vs)∧¬ c a)∨(∃ o,H a=some (.frz o (.lst vs))) ∨
  ∃ (o:Obj) (its:Array Value) (n:Nat),K.lookup a=some o∧o.cls=.type "list"∧o.dict=none∧o.data=.seq its n∧its.size≤sizeLine∧bC vs its.toList
theorem jP.sq {K:PySem.W.Frag} {c:Addr→Prop} {H:Hp} {a:Addr} {vs:List V} (h:jP K c H a vs):bY K H a vs:=by
 rcases h with h | h | h
 ·exact .inl (.inl h.1)
 ·exact .inl (.inr h)
 ·exact .inr h
mutual
def aL (K:PySem.W.Frag) (c:Addr→Prop) (H:Hp):PV→V→Prop
 | .non,x=>x=.non
 | .bl b,x=>x=.bl b
 | .int i,x=>x=.int i
 | .str s,x=>x=.str s
 | .tup xs,x=>∃ a vs,x=.ref a∧dC K H a vs∧vs.length≤sizeLine∧aM K c H xs vs
 | .lst xs,x=>∃ a vs,x=.ref a∧jP K c H a vs∧vs.length≤sizeLine∧aM K c H xs vs
def aM (K:PySem.W.Frag) (c:Addr→Prop) (H:Hp):List PV→List V→Prop
 | [],vs=>vs=[]
 | p :: ps,vs=>∃ v r,vs=v :: r∧aL K c H p v∧aM K c H ps r
end
section
variable {K:PySem.W.Frag} {c c':Addr→Prop} {H H':Hp}
mutual
theorem aL.mono (hT:∀ a vs,dC K H a vs→dC K H' a vs) (hL:∀ a vs,jP K c H a vs→jP K c' H' a vs):∀ (v:PV) (x:V),aL K c H v x→aL K c' H' v x
 | .non,x,h=>h
 | .bl b,x,h=>h
 | .int i,x,h=>h
 | .str s,x,h=>h
 | .tup xs,x,h=>by
  unfold aL at h ⊢;obtain ⟨a,vs,e,t,z,r⟩:=h;exact ⟨a,vs,e,hT a vs t,z,aM.mono hT hL xs vs r⟩
 | .lst xs,x,h=>by
  unfold aL at h ⊢;obtain ⟨a,vs,e,t,z,r⟩:=h;exact ⟨a,vs,e,hL a vs t,z,aM.mono hT hL xs vs r⟩
theorem aM.mono (hT:∀ a vs,dC K H a vs→dC K H' a vs) (hL:∀ a vs,jP K c H a vs→jP K c' H' a vs):∀ (v:List PV) (x:List V),aM K c H v x→aM K c' H' v x
 | [],vs,h=>by
  unfold aM at h ⊢;exact h
 | p :: ps,vs,h=>by
  unfold aM at h ⊢;obtain ⟨v,r,e,h1,h2⟩:=h;exact ⟨v,r,e,aL.mono hT hL p v h1,aM.mono hT hL ps r h2⟩
end
theorem aM.length:∀ {xs:List PV} {vs:List V},aM K c H xs vs→xs.length=vs.length
 | [],vs,h=>by
  unfold aM at h;rw [h];rfl
 | p :: ps,vs,h=>by
  unfold aM at h;obtain ⟨v,r,rfl,_,h2⟩:=h;rw [List.length_cons,List.length_cons,aM.length h2]
theorem aM.get:∀ {xs:List PV} {vs:List V} {i:Nat} {p:PV},aM K c H xs vs→xs[i]?=some p→∃ v,vs[i]?=some v∧aL K c H p v
 | [],vs,i,p,h,e=>by simp at e
 | q :: ps,vs,0,p,h,e=>by
  unfold aM at h;obtain ⟨v,r,rfl,h1,_⟩:=h;simp at e;subst e;exact ⟨v,rfl,h1⟩
 | q :: ps,vs,i+1,p,h,e=>by
  unfold aM at h;obtain ⟨v,r,rfl,_,h2⟩:=h;obtain ⟨u,e1,e2⟩:=aM.get (i:=i) h2 (by simpa using e);exact ⟨u,by simpa using e1,e2⟩
theorem aM.nil:aM K c H [] []:=by
 unfold aM;rfl
theorem aM.cons {p:PV} {v:V} {ps:List PV} {vs:List V} (h:aL K c H p v) (t:aM K c H ps vs):aM K c H (p :: ps) (v :: vs):=by
 unfold aM;exact ⟨v,vs,rfl,h,t⟩
theorem aM.append:∀ {xs ys:List PV} {vs ws:List V},aM K c H xs vs→aM K c H ys ws→aM K c H (xs++ys) (vs++ws)
 | [],ys,vs,ws,h,g=>by
  unfold aM at h;subst h;exact g
 | p :: ps,ys,vs,ws,h,g=>by
  unfold aM at h;obtain ⟨v,r,rfl,h1,h2⟩:=h;exact .cons h1 (h2.append g)
theorem aM.drop:∀ {xs:List PV} {vs:List V} (n:Nat),aM K c H xs vs→aM K c H (xs.drop n) (vs.drop n)
 | xs,vs,0,h=>by simpa using h
 | [],vs,n+1,h=>by
  unfold aM at h;subst h;simpa using aM.nil
 | p :: ps,vs,n+1,h=>by
  unfold aM at h;obtain ⟨v,r,rfl,_,h2⟩:=h;simpa using h2.drop n
theorem aM.take:∀ {xs:List PV} {vs:List V} (n:Nat),aM K c H xs vs→aM K c H (xs.take n) (vs.take n)
 | xs,vs,0,h=>by simpa using aM.nil
 | [],vs,n+1,h=>by
  unfold aM at h;subst h;simpa using aM.nil
 | p :: ps,vs,n+1,h=>by
  unfold aM at h;obtain ⟨v,r,rfl,h1,h2⟩:=h;simpa using aM.cons h1 (h2.take n)
theorem aM.eraseIdx:∀ {xs:List PV} {vs:List V} (n:Nat),aM K c H xs vs→aM K c H (xs.eraseIdx n) (vs.eraseIdx n)
 | [],vs,n,h=>by
  unfold aM at h;subst h;simpa using aM.nil
 | p :: ps,vs,0,h=>by
  unfold aM at h;obtain ⟨v,r,rfl,h1,h2⟩:=h;simpa using h2
 | p :: ps,vs,n+1,h=>by
  unfold aM at h;obtain ⟨v,r,rfl,h1,h2⟩:=h;simpa using aM.cons h1 (h2.eraseIdx n)
theorem aM.set {p:PV} {v:V} (g:aL K c H p v):∀ {xs:List PV} {vs:List V} (n:Nat),aM K c H xs vs→aM K c H (xs.set n p) (vs.set n v)
 | [],vs,n,h=>by
  unfold aM at h;subst h;simpa using aM.nil
 | q :: ps,vs,0,h=>by
  unfold aM at h;obtain ⟨v,r,rfl,h1,h2⟩:=h;simpa using aM.cons g h2
 | q :: ps,vs,n+1,h=>by
  unfold aM at h;obtain ⟨v,r,rfl,h1,h2⟩:=h;simpa using aM.cons h1 (aM.set g n h2)
end
structure Ph where
 f:List Addr
 w:Addr→Prop
 c:Addr→Prop
def uX (K:PySem.W.Frag) (c:Addr→Prop) (H:Hp) (xss:List (List PV)) (bs:List Addr):Prop :=
 xss.length=bs.length∧∀ (i:Nat) (xs:List PV) (b:Addr),xss[i]?=some xs→bs[i]?=some b→∃ vs,H b=some (.lst vs)∧vs.length≤sizeLine∧aM K c H xs vs
def dN:(n:Bool)→fK n→PV
 | false,l=>.tup (List.map PV.int l)
 | true,l=>.tup (List.map (fun r:List Int=>PV.tup (r.map PV.int)) l)
def oD (es:Array DictEntry) (ep:Nat):Obj:={ cls:=.type "dict",data:=.dict es ep }
def dO (a:Addr) (es:Array DictEntry) (ep:Nat):HO:=.ext fun h=>h.get? a=some (oD es ep)
def iP (n:Bool) (x:fK n × Addr × Value):DictEntry:=⟨Hn n x.1,.ref x.2.1,x.2.2⟩
def nM (K:PySem.W.Frag) (c:Addr→Prop) (H:Hp) (a:Addr) (n:Bool) (ks:List PV) (us:List Value):Prop :=
 ∃ (xs:List (fK n × Addr × Value)) (ep:Nat),H a=some (dO a (xs.map (iP n)).toArray ep)∧(a == sysModules)=false∧xs.length≤sizeLine∧(xs.map (·.1)).Nodup∧ks=xs.map (fun x=>dN n x.1)∧aM K c H ks (xs.map fun x=>V.ref x.2.1)∧us=xs.map (·.2.2)
def nE (K:PySem.W.Frag) (p:Ph) (H:Hp) (a:Addr):SO→Prop
 | .lst xs=>∃ vs,H a=some (.lst vs)∧vs.length≤sizeLine∧aM K p.c H xs vs
 | .lol xss=>∃ bs:List Addr,H a=some (.lst (bs.map V.ref))∧bs.length≤sizeLine∧bs.Nodup∧(∀ b∈bs,p.w b∧b ∉ p.f)∧uX K p.c H xss bs
 | .dic n kvs=>∃ us vs,nM K p.c H a n (kvs.map (·.1)) us∧bC vs us∧aM K p.c H (kvs.map (·.2)) vs
 | .dol n kvs=>∃ bs:List Addr,nM K p.c H a n (kvs.map (·.1)) (bs.map Value.ref)∧bs.Nodup∧(∀ b∈bs,p.w b∧b ∉ p.f)∧uX K p.c H (kvs.map (·.2)) bs
theorem nM.mono {K:PySem.W.Frag} {c c':Addr→Prop} {H H':Hp} {a:Addr} {n:Bool} {ks:List PV} {us:List Value} (h:nM K c H a n ks us) (ha:∀ o,H a=some o→H' a=some o) (hR:∀ xs vs,aM K c H xs vs→aM K c' H' xs vs):nM K c' H' a n ks us:=by
 obtain ⟨xs,ep,e,z,l,nd,ek,r,eu⟩:=h;exact ⟨xs,ep,ha _ e,z,l,nd,ek,hR _ _ r,eu⟩
theorem nE.mono {K:PySem.W.Frag} {p p':Ph} {H H':Hp} {a:Addr} {o:SO} (h:nE K p H a o) (ha:∀ o,H a=some o→H' a=some o)
  (hb:∀ b,p.w b→b ∉ p.f→(p'.w b∧b ∉ p'.f)∧∀ vs,H b=some (.lst vs)→H' b=some (.lst vs)) (hR:∀ xs vs,aM K p.c H xs vs→aM K p'.c H' xs vs):nE K p' H' a o:=by
 have lol:∀ {xss:List (List PV)} {bs:List Addr},(∀ b∈bs,p.w b∧b ∉ p.f)→uX K p.c H xss bs→uX K p'.c H' xss bs:=fun wf ⟨z,at_⟩=>⟨z,fun i xs b e1 e2=>by
  obtain ⟨vs,g1,g2,g3⟩:=at_ i xs b e1 e2;have m:=wf b (List.mem_of_getElem? e2);exact ⟨vs,(hb b m.1 m.2).2 vs g1,g2,hR xs vs g3⟩⟩
 cases o with
 | lst xs =>
  obtain ⟨vs,e,l,r⟩:=h;exact ⟨vs,ha _ e,l,hR xs vs r⟩
 | lol xss =>
  obtain ⟨bs,e,l,nd,wf,z⟩:=h;exact ⟨bs,ha _ e,l,nd,fun b m=>(hb b (wf b m).1 (wf b m).2).1,lol wf z⟩
 | dic n kvs =>
  obtain ⟨us,vs,d,v,r⟩:=h;exact ⟨us,vs,d.mono ha hR,v,hR _ _ r⟩
 | dol n kvs =>
  obtain ⟨bs,d,nd,wf,z⟩:=h;exact ⟨bs,d.mono ha hR,nd,fun b m=>(hb b (wf b m).1 (wf b m).2).1,lol wf z⟩
def Mb:HO→Prop
 | .lst _=>True
 | .dK _=>True
 | .dT _=>True
 | .ins _ _ _=>True
 | .ext _=>True
 | _=>False
structure aU (K:PySem.W.Frag) (p:Ph) (S:aI) (H:Hp):Prop where
 nd:p.f.Nodup
 len:p.f.length=S.length
 sub:∀ a∈p.f,p.w a
 wc:∀ a,p.w a→p.c a
 mu:∀ a,p.c a→∃ o,H a=some o∧Mb o
 obj:∀ (k:Nat) (a:Addr) (o:SO),p.f[k]?=some a→S[k]?=some o→nE K p H a o
structure bM (p:Ph) (H:Hp) (q:Ph) (H':Hp):Prop where
 wc:∀ a,p.w a→p.c a
 mu:∀ a,p.c a→∃ o,H a=some o∧Mb o
 pre:p.f <+: q.f
 mw:∀ a,p.w a→q.w a
 mono:∀ a,p.c a→q.c a
 nf:∀ a∈q.f,a ∉ p.f→H a=none
 nw:∀ a,q.w a→¬ p.w a→H a=none
 nc:∀ a,q.c a→¬ p.c a→H a=none
 keep:∀ a o,H a=some o→¬ p.w a→H' a=some o
def bV (K:PySem.W.Frag) (p:Ph) (H:Hp):AV→V→Prop
 | .pv v,x=>aL K p.c H v x
 | .ref k,x=>∃ a,p.f[k]?=some a∧x=.ref a
abbrev fP (K:PySem.W.Frag) (p:Ph) (H:Hp):List AV→List V→Prop:=Paired (bV K p H)
structure dB (K:PySem.W.Frag) (p:Ph) (H:Hp) (ρ:bR) (σ:St):Prop where
 len:ρ.length=σ.length
 at_:∀ (i:Nat) (v:AV),ρ[i]?=some (some v)→∃ x,σ[i]?=some (some x)∧bV K p H v x
section
variable {K:PySem.W.Frag} {p q r:Ph} {H H' H'':Hp} {S:aI}
theorem aU.step (s:aU K p S H):bM p H p H:=⟨s.wc,s.mu,List.prefix_rfl,fun _ h=>h,fun _ h=>h,fun _ h g=>absurd h g,fun _ h g=>absurd h g,fun _ h g=>absurd h g,fun _ _ h _=>h⟩
theorem bM.trans (a:bM p H q H') (b:bM q H' r H''):bM p H r H'':=by
 have back:∀ x,H' x=none→¬ p.w x→H x=none:=fun x h n=>by
  cases e:H x with
  | none=>rfl
  | some o=>rw [a.keep x o e n] at h; cases h
 refine ⟨a.wc,a.mu,a.pre.trans b.pre,fun x h=>b.mw x (a.mw x h),fun x h=>b.mono x (a.mono x h),fun x h n=>?_,fun x h n=>?_,fun x h n=>?_,fun x o e n=>?_⟩
 ·by_cases m:x∈q.f
  ·exact a.nf x m n
  ·have hn:=b.nf x h m
   refine back x hn fun z=>?_;obtain ⟨o,ho,_⟩:=b.mu x (a.mono x (a.wc x z));rw [hn] at ho;cases ho
 ·by_cases m:q.w x
  ·exact a.nw x m n
  ·exact back x (b.nw x h m) n
 ·by_cases m:q.c x
  ·exact a.nc x m n
  ·exact back x (b.nc x h m) fun z=>n (a.wc x z)
 ·refine b.keep x o (a.keep x o e n) fun z=>?_
  rw [a.nw x z n] at e;cases e
theorem bM.tup (s:bM p H q H') {a:Addr} {vs:List V} (h:dC K H a vs):dC K H' a vs:=by
 have go:∀ o,H a=some o→¬ Mb o→H' a=some o:=fun o e n=>s.keep a o e fun z=>by
  obtain ⟨u,e',m⟩:=s.mu a (s.wc a z);rw [e] at e';cases e';exact n m
 rcases h with (h | ⟨o,h⟩) | h
 ·exact .inl (.inl (go _ h (fun z=>z)))
 ·exact .inl (.inr ⟨o,go _ h (fun z=>z)⟩)
 ·exact .inr h
theorem bM.lat (s:bM p H q H') {a:Addr} {vs:List V} (h:jP K p.c H a vs):jP K q.c H' a vs:=by
 rcases h with ⟨h,n⟩ | ⟨o,h⟩ | h
 ·refine .inl ⟨s.keep a _ h fun z=>n (s.wc a z),fun z=>?_⟩
  rw [s.nc a z n] at h;cases h
 ·refine .inr (.inl ⟨o,s.keep a _ h fun z=>?_⟩)
  obtain ⟨u,e',m⟩:=s.mu a (s.wc a z);rw [h] at e';cases e';exact m
 ·exact .inr (.inr h)
theorem bM.rep (s:bM p H q H') {v:PV} {x:V} (h:aL K p.c H v x):aL K q.c H' v x:=aL.mono (fun _ _=>s.tup) (fun _ _=>s.lat) v x h
theorem bM.reps (s:bM p H q H') {v:List PV} {x:List V} (h:aM K p.c H v x):aM K q.c H' v x:=aM.mono (fun _ _=>s.tup) (fun _ _=>s.lat) v x h
theorem bM.at_ (s:bM p H q H') {k:Nat} {a:Addr} (h:p.f[k]?=some a):q.f[k]?=some a:=by
 obtain ⟨t,e⟩:=s.pre;rw [← e,List.getElem?_append_left (by
  have:=List.getElem?_eq_some_iff.mp h;exact this.1)]
 exact h
theorem bM.repA (s:bM p H q H') {v:AV} {x:V} (h:bV K p H v x):bV K q H' v x:=by
 cases v with
 | pv v=>exact s.rep h
 | ref k =>
  obtain ⟨a,e,f⟩:=h;exact ⟨a,s.at_ e,f⟩
theorem bM.repE (s:bM p H q H') {ρ:bR} {σ:St} (h:dB K p H ρ σ):dB K q H' ρ σ :=
 ⟨h.len,fun i v e=>let ⟨x,e1,e2⟩:=h.at_ i v e; ⟨x,e1,s.repA e2⟩⟩
theorem aU.same (s:aU K p S H) (h:dP H H'):bM p H p H':=⟨s.wc,s.mu,List.prefix_rfl,fun _ h=>h,fun _ h=>h,fun _ h g=>absurd h g,fun _ h g=>absurd h g,fun _ h g=>absurd h g,fun a o e _=>h a o e⟩
theorem aU.ofSame (s:aU K p S H) (h:dP H H'):aU K p S H' :=
 ⟨s.nd,s.len,s.sub,s.wc,fun a m=>let ⟨o,e,m⟩:=s.mu a m; ⟨o,h a o e,m⟩,fun k a o e1 e2=>by
  exact (s.obj k a o e1 e2).mono (fun vs e=>h _ _ e) (fun b w f=>⟨⟨w,f⟩,fun vs e=>h _ _ e⟩) fun xs vs=>(s.same h).reps⟩
theorem gR {a:Addr} {o:HO} (h:H a=none):dP H (aT H a o):=fun b u e=>by
 rw [bP (fF e h)];exact e
end
section
variable {α β γ δ:Type}
def bS (K:PySem.W.Frag) (cl:Str→Addr) (R:Ph→Hp→α→β→Prop) (p:Ph) (H:Hp) (r:bK α) (Q:β→Hp→Prop) (E:XK):Prop:=match r with
 | .ok a S=>∀ q H' x,bM p H q H'→aU K q S H'→R q H' a x→Q x H'
 | .exc n S=>∀ q H',bM p H q H'→aU K q S H'→E (.ref (cl n)) none H'
 | .fail=>False
def dW (K:PySem.W.Frag) (cl:Str→Addr) (p:Ph) (H:Hp) (r:bX) (D:mF) (E:XK):Prop:=match r with
 | .nx ρ S=>∀ q H' σ,bM p H q H'→aU K q S H'→dB K q H' ρ σ→D.nx σ H'
 | .bk ρ S=>∀ q H' σ,bM p H q H'→aU K q S H'→dB K q H' ρ σ→D.bk σ H'
 | .ct ρ S=>∀ q H' σ,bM p H q H'→aU K q S H'→dB K q H' ρ σ→D.ct σ H'
 | .rt v S=>∀ q H' x,bM p H q H'→aU K q S H'→bV K q H' v x→D.rt x H'
 | .exc n S=>∀ q H',bM p H q H'→aU K q S H'→E (.ref (cl n)) none H'
 | .fail=>False
variable {K:PySem.W.Frag} {cl:Str→Addr} {p q:Ph} {H H':Hp} {S:aI} {E:XK} {R:Ph→Hp→α→β→Prop} {R':Ph→Hp→γ→δ→Prop}
theorem bS.mono {r:bK α} {Q:β→Hp→Prop} (h:bS K cl R p H r Q E) (s:bM p H q H'):bS K cl R q H' r Q E:=by
 cases r with
 | ok a S=>exact fun q' H'' x s'=>h q' H'' x (s.trans s')
 | exc n S=>exact fun q' H'' s'=>h q' H'' (s.trans s')
 | fail=>exact h
theorem dW.mono {r:bX} {D:mF} (h:dW K cl p H r D E) (s:bM p H q H'):dW K cl q H' r D E:=by
 cases r with
 | nx ρ S=>exact fun q' H'' x s'=>h q' H'' x (s.trans s')
 | bk ρ S=>exact fun q' H'' x s'=>h q' H'' x (s.trans s')
 | ct ρ S=>exact fun q' H'' x s'=>h q' H'' x (s.trans s')
 | rt v S=>exact fun q' H'' x s'=>h q' H'' x (s.trans s')
 | exc n S=>exact fun q' H'' s'=>h q' H'' (s.trans s')
 | fail=>exact h
theorem bS.ret {a:α} {x:β} {Q:β→Hp→Prop} (h:bS K cl R p H (.ok a S) Q E) (s:aU K p S H) (r:R p H a x):Q x H:=h p H x s.step s r
theorem bS.same {a:α} {x:β} {Q:β→Hp→Prop} (h:bS K cl R p H (.ok a S) Q E) (s:aU K p S H) (e:dP H H') (r:R p H' a x):Q x H':=h p H' x (s.same e) (s.ofSame e) r
def tP (K:PySem.W.Frag) (cl:Str→Addr) (E:XK) (R:Ph→Hp→α→β→Prop) (m:bR→aI→bK α) (σ:St) (H:Hp) (Q:β→Hp→Prop):Prop :=
 ∃ p S ρ,aU K p S H∧dB K p H ρ σ∧bS K cl R p H (m ρ S) Q E
def tS (K:PySem.W.Frag) (cl:Str→Addr) (E:XK) (m:bR→aI→bX):TS:=fun D σ H =>
 ∃ p S ρ,aU K p S H∧dB K p H ρ σ∧dW K cl p H (m ρ S) D E
theorem cC {m:bR→aI→bK α} {k:α→aI→bK γ} {ρ:bR} {σ:St} {Q:δ→Hp→Prop} {T:β→Hp→Prop} (s:aU K p S H) (e:dB K p H ρ σ) (h:bS K cl R' p H ((m ρ S).bind k) Q E)
  (g:∀ q H' a b S',bM p H q H'→aU K q S' H'→dB K q H' ρ σ→R q H' a b→bS K cl R' q H' (k a S') Q E→T b H'):tP K cl E R m σ H T:=by
 refine ⟨p,S,ρ,s,e,?_⟩;cases z:m ρ S with
 | ok a S1 =>
  rw [z] at h;exact fun q H' b st sm r=>g q H' a b S1 st sm (st.repE e) r (bS.mono (r:=k a S1) h st)
 | exc n S1 =>
  rw [z] at h;exact h
 | fail =>
  rw [z] at h;exact h
def bX.of {α:Type} (r:bK α) (k:α→aI→bX):bX:=match r with
 | .ok a S=>k a S
 | .exc n S=>.exc n S
 | .fail=>.fail
theorem iF {m:bR→aI→bK α} {k:α→aI→bX} {ρ:bR} {σ:St} {D:mF} {T:β→Hp→Prop} (s:aU K p S H) (e:dB K p H ρ σ) (h:dW K cl p H (bX.of (m ρ S) k) D E)
  (g:∀ q H' a b S',bM p H q H'→aU K q S' H'→dB K q H' ρ σ→R q H' a b→dW K cl q H' (k a S') D E→T b H'):tP K cl E R m σ H T:=by
 refine ⟨p,S,ρ,s,e,?_⟩;cases z:m ρ S with
 | ok a S1 =>
  rw [z] at h;exact fun q H' b st sm r=>g q H' a b S1 st sm (st.repE e) r (dW.mono (r:=k a S1) h st)
 | exc n S1 =>
  rw [z] at h;exact h
 | fail =>
  rw [z] at h;exact h
end
end L2.Pp
namespace L2.Pp
open PySem PySem.Spec PyProof.Rows Bn
abbrev RB:Ph→Hp→Bool→Bool→Prop:=fun _ _ a b=>a=b
abbrev ME:=bR→aI→bK AV
abbrev MT:=bR→aI→bK Bool
abbrev MA:=bR→aI→bK (List AV)
abbrev MS:=bR→aI→bX
section
variable (K:PySem.W.Frag) (cl:Str→Addr) (E:XK) (X:Cx)
def aW (e:Expr) (m:ME):Prop:=X.K=K→PE X e (tP K cl E (bV K) m)
def gL (e:Expr) (m:MT):Prop:=X.K=K→PT X e (tP K cl E RB m)
def jC (e:Expr) (m:MT):Prop:=X.K=K→PW X e (tP K cl E RB m)
def eK (es:List Expr) (m:MA):Prop:=X.K=K→PA X es (tP K cl E (fP K) m)
def eJ (st:Stmt) (m:MS):Prop:=X.K=K→PS X st (tS K cl E m)
def gS (st:List Stmt) (m:MS):Prop:=X.K=K→fW X st (tS K cl E m)
end
theorem PA.imp {X:Cx} {es:List Expr} {t t':TA} (h:PA X es t) (i:∀ σ H Q,t' σ H Q→t σ H Q):PA X es t':=fun pos pins s σ H Q I q=>h pos pins s σ H Q I (i σ H Q q)
theorem PW.imp {X:Cx} {e:Expr} {t t':TT} (h:PW X e t) (i:∀ σ H Q,t' σ H Q→t σ H Q):PW X e t':=fun wh pins s σ H Q I q=>h wh pins s σ H Q I (i σ H Q q)
def aA (i:Nat):ME:=fun ρ S=>match ρ[i]? with
 | some (some v)=>.ok v S
 | _=>.fail
def mC (v:PV):ME:=fun _ S=>.ok (.pv v) S
def rd (S:aI):AV→Option PV
 | .pv v=>some v
 | .ref k=>match S[k]? with
  | some (.lst xs)=>some (.lst xs)
  | _=>none
def fI (S:aI):List AV→Option (List PV)
 | []=>some []
 | a :: r=>match rd S a with
  | some v=>match fI S r with
   | some vs=>some (v :: vs)
   | none=>none
  | none=>none
def gO (o:Option PV) (S:aI):bK AV:=match o with
 | some r=>.ok (.pv r) S
 | none=>.fail
def rZ (f:PV→Option PV) (a:AV) (S:aI):bK AV:=gO ((rd S a).bind f) S
def jZ (f:PV→PV→Option PV) (a b:AV) (S:aI):bK AV:=gO ((rd S a).bind fun x=>(rd S b).bind fun y=>f x y) S
def cD (f:PV→Option PV) (ma:ME):ME:=fun ρ S=>(ma ρ S).bind fun x S1=>rZ f x S1
def aC (f:PV→PV→Option PV) (ma mb:ME):ME:=fun ρ S=>(ma ρ S).bind fun x S1=>(mb ρ S1).bind fun y S2=>jZ f x y S2
def aD:MA:=fun _ S=>.ok [] S
def aB (ma:ME) (mr:MA):MA:=fun ρ S=>(ma ρ S).bind fun x S1=>(mr ρ S1).bind fun xs S2=>.ok (x :: xs) S2
def kS:List AV→Option (List PV)
 | []=>some []
 | .pv v :: r=>match kS r with
  | some vs=>some (v :: vs)
  | none=>none
 | .ref _ :: _=>none
def Ab (f:List PV→Option PV) (xs:List AV) (S:aI):bK AV:=gO ((kS xs).bind f) S
def mX (f:List PV→Option PV) (xs:List AV) (S:aI):bK AV:=gO ((fI S xs).bind f) S
def mR (f:List PV→Option PV) (ma:MA):ME:=fun ρ S=>(ma ρ S).bind fun xs S1=>mX f xs S1
def mN (f:List PV→Option PV) (ma:MA):ME:=fun ρ S=>(ma ρ S).bind fun xs S1=>Ab f xs S1
def cT (vs:List PV):Option PV:=if vs.length≤16777216 then some (.tup vs) else none
def dR (vs:List PV):Option PV:=if vs.length≤16777216 then some (.lst vs) else none
def jO:AV→aI→bK Bool
 | .pv (.bl b),S=>.ok b S
 | _,_=>.fail
def bE (m:ME):MT:=fun ρ S=>(m ρ S).bind jO
def aaA (m:MT):MT:=fun ρ S=>(m ρ S).bind fun b S1=>.ok (!b) S1
def iZ (m n:MT):MT:=fun ρ S=>(m ρ S).bind fun b S1=>if b=true then n ρ S1 else .ok false S1
def nI (m n:MT):MT:=fun ρ S=>(m ρ S).bind fun b S1=>if b=true then .ok true S1 else n ρ S1
def rW (m n:ME):ME:=fun ρ S=>(m ρ S).bind fun x S1=>match x with
 | .pv (.bl true)=>n ρ S1
 | .pv (.bl false)=>.ok (.pv (.bl false)) S1
 | _=>.fail
def Z7 (m n:ME):ME:=fun ρ S=>(m ρ S).bind fun x S1=>match x with
 | .pv (.bl false)=>n ρ S1
 | .pv (.bl true)=>.ok (.pv (.bl true)) S1
 | _=>.fail
def oI:PV→Option PV
 | .bl b=>some (.bl (!b))
 | _=>none
def wC (c:MT) (a b:ME):ME:=fun ρ S=>(c ρ S).bind fun t S1=>if t=true then a ρ S1 else b ρ S1
section
variable {K:PySem.W.Frag} {cl:Str→Addr} {E:XK} {X:Cx} {a b c e:Expr} {es:List Expr} {ma mb mc m:ME} {mt nt:MT} {ms:MA} {pos:Pos}
theorem F7 (i:Nat) {x:Str} (hN:X.N[i]?=some x:=by rfl) (hv:oQ X.env.scope x:=by first | exact Or.inl rfl | exact Or.inr (Or.inl rfl) | exact Or.inr (Or.inr rfl)) (hd:(x == ("__debug__":Str))=false:=by decide)
  (hcd:(x == ("__classdict__":Str))=false:=by decide):aW K cl E X (.Name x pos) (aA i):=fun _=>(nW hN hv hd hcd).imp fun σ H Q ⟨p,S,ρ,s,e,h⟩=>by
 unfold aA at h;cases z:ρ[i]? with
 | none=>rw [z] at h; exact h.elim
 | some o =>
  cases o with
  | none=>rw [z] at h; exact h.elim
  | some v =>
   rw [z] at h;obtain ⟨x,e1,e2⟩:=e.at_ i v z;exact ⟨x,e1,bS.ret h s e2⟩
theorem K7 {i:Int} {j}:aW K cl E X (.Constant (.int i) j pos) (mC (.int i)):=fun _=>Jm.imp fun σ H Q ⟨p,S,ρ,s,e,h⟩=>bS.ret (R:=bV K) (x:=.int i) h s (by show aL K p.c H (.int i) (.int i); unfold aL; rfl)
def eX (K:PySem.W.Frag) (p:Ph) (H:Hp) (v:PV) (x:V):Prop:=aL K p.c H v x∨∃ xs a vs,v=.lst xs∧x=.ref a∧H a=some (.lst vs)∧vs.length≤sizeLine∧aM K p.c H xs vs
theorem eX.int {p:Ph} {H:Hp} {i:Int} {x:V} (h:eX K p H (.int i) x):x=.int i:=by
 rcases h with h | ⟨_,_,_,e,_⟩
 ·unfold aL at h; exact h
 ·cases e
theorem eX.bl {p:Ph} {H:Hp} {i:Bool} {x:V} (h:eX K p H (.bl i) x):x=.bl i:=by
 rcases h with h | ⟨_,_,_,e,_⟩
 ·unfold aL at h; exact h
 ·cases e
theorem eX.str {p:Ph} {H:Hp} {i:Str} {x:V} (h:eX K p H (.str i) x):x=.str i:=by
 rcases h with h | ⟨_,_,_,e,_⟩
 ·unfold aL at h; exact h
 ·cases e
theorem eX.non {p:Ph} {H:Hp} {x:V} (h:eX K p H .non x):x=.non:=by
 rcases h with h | ⟨_,_,_,e,_⟩
 ·unfold aL at h; exact h
 ·cases e
theorem eX.tup {p:Ph} {H:Hp} {xs:List PV} {x:V} (h:eX K p H (.tup xs) x):∃ a vs,x=.ref a∧dC K H a vs∧vs.length≤sizeLine∧aM K p.c H xs vs:=by
 rcases h with h | ⟨_,_,_,e,_⟩
 ·unfold aL at h; exact h
 ·cases e
theorem eX.lst {p:Ph} {H:Hp} {xs:List PV} {x:V} (h:eX K p H (.lst xs) x):∃ a vs,x=.ref a∧bY K H a vs∧vs.length≤sizeLine∧aM K p.c H xs vs:=by
 rcases h with h | ⟨ys,a,vs,e,e2,h,z,r⟩
 ·unfold aL at h
  obtain ⟨a,vs,e,l,z,r⟩:=h;exact ⟨a,vs,e,l.sq,z,r⟩
 ·cases e
  exact ⟨a,vs,e2,bY.of h,z,r⟩
theorem nX {p:Ph} {S:aI} {H:Hp} {a:AV} {v:PV} {x:V} (s:aU K p S H) (r:bV K p H a x) (e:rd S a=some v):eX K p H v x:=by
 cases a with
 | pv u=>cases e; exact .inl r
 | ref k =>
  obtain ⟨a,e1,rfl⟩:=r;unfold rd at e;cases z:S[k]? with
  | none=>simp only [z] at e; cases e
  | some o =>
   cases o with
   | lst xs =>
    simp only [z] at e;cases e;obtain ⟨vs,h,l,r⟩:=s.obj k a _ e1 z;exact .inr ⟨xs,a,vs,rfl,rfl,h,l,r⟩
   | lol _=>simp only [z] at e; cases e
   | dic _ _=>simp only [z] at e; cases e
   | dol _ _=>simp only [z] at e; cases e
abbrev Jb (K:PySem.W.Frag) (p:Ph) (H:Hp):List PV→List V→Prop:=Paired (eX K p H)
theorem qV {p:Ph} {S:aI} {H:Hp} (s:aU K p S H):∀ {as:List AV} {vs:List PV} {xs:List V},fP K p H as xs→fI S as=some vs→Jb K p H vs xs
 | [],vs,_,.nil,e=>by
  cases e;exact .nil
 | a :: r,vs,_,.cons h t,e=>by
  unfold fI at e;cases z:rd S a with
  | none=>simp only [z] at e; cases e
  | some v =>
   simp only [z] at e;cases y:fI S r with
   | none=>simp only [y] at e; cases e
   | some us =>
    simp only [y] at e;cases e;exact .cons (nX s h z) (qV s t y)
def gD (K:PySem.W.Frag) (r:R2) (f:PV→PV→Option PV):Prop:=∀ {p:Ph} {S:aI} {H:Hp} {a b c:PV} {x y:V} {Q:VK},aU K p S H→eX K p H a x→eX K p H b y→f a b=some c →
 (∀ H' z,dP H H'→aL K p.c H' c z→Q z H')→r x y H Q
def vU (K:PySem.W.Frag) (r:V→Hp→VK→Prop) (f:PV→Option PV):Prop:=∀ {p:Ph} {S:aI} {H:Hp} {a c:PV} {x:V} {Q:VK},aU K p S H→eX K p H a x→f a=some c →
 (∀ H' z,dP H H'→aL K p.c H' c z→Q z H')→r x H Q
def CaS (K:PySem.W.Frag) (r:List V→Hp→VK→Prop) (f:List PV→Option PV):Prop:=∀ {p:Ph} {S:aI} {H:Hp} {as:List PV} {c:PV} {xs:List V} {Q:VK},aU K p S H→aM K p.c H as xs→f as=some c →
 (∀ H' z,dP H H'→aL K p.c H' c z→Q z H')→r xs H Q
def kF (K:PySem.W.Frag) (r:List V→Hp→VK→Prop) (f:List PV→Option PV):Prop:=∀ {p:Ph} {S:aI} {H:Hp} {as:List PV} {c:PV} {xs:List V} {Q:VK},aU K p S H→Jb K p H as xs→f as=some c →
 (∀ H' z,dP H H'→aL K p.c H' c z→Q z H')→r xs H Q
theorem rL {p:Ph} {S:aI} {H:Hp} {o:Option PV} {Q:VK} (s:aU K p S H) (h:bS K cl (bV K) p H (gO o S) Q E):∃ c,o=some c∧∀ H' z,dP H H'→aL K p.c H' c z→Q z H':=by
 cases o with
 | none=>exact h.elim
 | some c=>exact ⟨c,rfl,fun H' z sm rz=>bS.same (R:=bV K) h s sm rz⟩
theorem tF {r:R2} {f:PV→PV→Option PV} (hf:gD K r f) {p:Ph} {S:aI} {H:Hp} {a b:AV} {x y:V} {Q:VK} (s:aU K p S H) (ra:bV K p H a x) (rb:bV K p H b y) (h:bS K cl (bV K) p H (jZ f a b S) Q E):r x y H Q:=by
 obtain ⟨c,e,k⟩:=rL s h;cases z:rd S a with
 | none=>rw [z] at e; cases e
 | some v =>
  cases y:rd S b with
  | none=>rw [z,y] at e; cases e
  | some w =>
   rw [z,y] at e;exact hf s (nX s ra z) (nX s rb y) e k
theorem yB {r:V→Hp→VK→Prop} {f:PV→Option PV} (hf:vU K r f) {p:Ph} {S:aI} {H:Hp} {a:AV} {x:V} {Q:VK} (s:aU K p S H) (ra:bV K p H a x) (h:bS K cl (bV K) p H (rZ f a S) Q E):r x H Q:=by
 obtain ⟨c,e,k⟩:=rL s h;cases z:rd S a with
 | none=>rw [z] at e; cases e
 | some v =>
  rw [z] at e;exact hf s (nX s ra z) e k
theorem Kg {r:List V→Hp→VK→Prop} {f:List PV→Option PV} (hf:kF K r f) {p:Ph} {S:aI} {H:Hp} {as:List AV} {xs:List V} {Q:VK} (s:aU K p S H) (ra:fP K p H as xs) (h:bS K cl (bV K) p H (mX f as S) Q E):r xs H Q:=by
 obtain ⟨c,e,k⟩:=rL s h;cases z:fI S as with
 | none=>rw [z] at e; cases e
 | some v =>
  rw [z] at e;exact hf s (qV s ra z) e k
theorem xE {p:Ph} {H:Hp}:∀ {as:List AV} {vs:List PV} {xs:List V},kS as=some vs→fP K p H as xs→aM K p.c H vs xs
 | [],vs,_,e,.nil=>by
  cases e;exact .nil
 | .pv v :: r,vs,_,e,.cons h t=>by
  unfold kS at e;cases z:kS r with
  | none=>simp only [z] at e; cases e
  | some us =>
   simp only [z] at e;cases e;exact .cons h (xE z t)
 | .ref k :: r,vs,_,e,.cons h t=>by
  cases e
theorem Cg {r:List V→Hp→VK→Prop} {f:List PV→Option PV} (hf:CaS K r f) {p:Ph} {S:aI} {H:Hp} {as:List AV} {xs:List V} {Q:VK} (s:aU K p S H) (ra:fP K p H as xs) (h:bS K cl (bV K) p H (Ab f as S) Q E):r xs H Q:=by
 obtain ⟨c,e,k⟩:=rL s h;cases z:kS as with
 | none=>rw [z] at e; cases e
 | some v =>
  rw [z] at e;exact hf s (xE z ra) e k
theorem pQ {op:Operator} {r:R2} {f:PV→PV→Option PV} (ho:eF X (binaryOp op) r) (hf:gD X.K r f) (ha:aW K cl E X a ma) (hb:aW K cl E X b mb):aW K cl E X (.BinOp a op b pos) (aC f ma mb):=by
 intro hK;subst hK;refine (Oa ho (ha rfl) (hb rfl)).imp fun σ H Q ⟨p,S,ρ,s,e,h⟩=>?_;exact cC s e h fun q H1 a x S1 st s1 e1 r1 h1=>cC s1 e1 h1 fun q2 H2 b y S2 st2 s2 e2 r2 h2=>tF hf s2 (st2.repA r1) r2 h2
theorem S8 {op:UnaryOp} {r:V→Hp→VK→Prop} {f:PV→Option PV} (ho:wJ X (unaryOp op) r) (hf:vU X.K r f) (ha:aW K cl E X a ma):aW K cl E X (.UnaryOp op a pos) (cD f ma):=by
 intro hK;subst hK;refine (V7 ho (ha rfl)).imp fun σ H Q ⟨p,S,ρ,s,e,h⟩=>?_;exact cC s e h fun q H1 a x S1 st s1 e1 r1 h1=>yB hf s1 r1 h1
theorem rO {op:CmpOp} {r:R2} {f:PV→PV→Option PV} (ho:eF X (compareOp op) r) (hf:gD X.K r f) (ha:aW K cl E X a ma) (hb:aW K cl E X b mb) (hm:behindInMarks op b=false):aW K cl E X (.Compare a [op] [b] pos) (aC f ma mb):=by
 intro hK;subst hK;refine (Uw ho (ha rfl) (hb rfl) hm).imp fun σ H Q ⟨p,S,ρ,s,e,h⟩=>?_;exact cC s e h fun q H1 a x S1 st s1 e1 r1 h1=>cC s1 e1 h1 fun q2 H2 b y S2 st2 s2 e2 r2 h2=>tF hf s2 (st2.repA r1) r2 h2
theorem Pn {p:Ph} {H:Hp} {v:AV} {x:V} (r:bV K p H v x) {b:Bool} (e:v=.pv (.bl b)):x=.bl b:=by
 subst e;unfold bV aL at r;exact r
theorem Ow {p:Ph} {S:aI} {H:Hp} {v:AV} {x:V} {Q:Bool→Hp→Prop} (s:aU K p S H) (r:bV K p H v x)
  (h:bS K cl RB p H (jO v S) Q E):∃ k,x=.bl k∧Q k H:=by
 cases v with
 | ref k=>exact h.elim
 | pv v =>
  cases v with
  | bl b=>exact ⟨b,Pn r rfl,bS.ret (R:=RB) h s rfl⟩
  | _=>exact h.elim
theorem rF {op:CmpOp} {r:R2} {f:PV→PV→Option PV} (ho:eF X (compareOp op) r) (hf:gD X.K r f) (ha:aW K cl E X a ma) (hb:aW K cl E X b mb) (hm:behindInMarks op b=false):gL K cl E X (.Compare a [op] [b] pos) (bE (aC f ma mb)):=by
 intro hK;subst hK;refine (Pz ho (ha rfl) (hb rfl) hm).imp fun σ H Q ⟨p,S,ρ,s,e,h⟩=>?_;have z:tP X.K cl E (bV X.K) (aC f ma mb) σ H fun x H'=>∃ k,x=.bl k∧Q k H':=cC s e h fun q H1 a x S1 st s1 e1 r1 h1=>Ow s1 r1 h1;obtain ⟨p',S',ρ',s',e',h'⟩:=z;exact cC s' e' h' fun q H1 a x S1 st s1 e1 r1 h1=>cC s1 e1 h1 fun q2 H2 b y S2 st2 s2 e2 r2 h2=>tF hf s2 (st2.repA r1) r2 h2
theorem Xv (ha:gL K cl E X a mt):jC K cl E X (.BoolOp .And [a] pos) mt:=fun hK=>Wz (ha hK)
theorem A6 (ha:gL K cl E X a mt):jC K cl E X (.BoolOp .Or [a] pos) mt:=fun hK=>M6 (ha hK)
theorem jC.pt (h:jC K cl E X a mt):gL K cl E X a mt:=fun hK=>PW.pt (h hK)
theorem A0 {fD:List Expr} (ha:gL K cl E X a mt) (hb:jC K cl E X (.BoolOp .And (b :: fD) pos) nt):jC K cl E X (.BoolOp .And (a :: b :: fD) pos) (iZ mt nt):=by
 intro hK;subst hK;refine PW.imp (F8 (ha rfl) (hb rfl)) fun σ H Q ⟨p,S,ρ,s,e,h⟩=>?_;refine cC s e h fun q H1 a x S1 st s1 e1 r1 h1=>?_;cases r1;cases a with
 | true=>exact ⟨q,S1,ρ,s1,e1,h1⟩
 | false=>exact bS.ret (R:=RB) h1 s1 rfl
theorem G7 {fD:List Expr} (ha:gL K cl E X a mt) (hb:jC K cl E X (.BoolOp .Or (b :: fD) pos) nt):jC K cl E X (.BoolOp .Or (a :: b :: fD) pos) (nI mt nt):=by
 intro hK;subst hK;refine PW.imp (Y4 (ha rfl) (hb rfl)) fun σ H Q ⟨p,S,ρ,s,e,h⟩=>?_;refine cC s e h fun q H1 a x S1 st s1 e1 r1 h1=>?_;cases r1;cases a with
 | true=>exact bS.ret (R:=RB) h1 s1 rfl
 | false=>exact ⟨q,S1,ρ,s1,e1,h1⟩
theorem M1 {fD:List Expr} (ha:aW K cl E X a ma) (hb:aW K cl E X (.BoolOp .And (b :: fD) pos) mb):aW K cl E X (.BoolOp .And (a :: b :: fD) pos) (rW ma mb):=by
 intro hK;subst hK;refine (M8 (ha rfl) (hb rfl)).imp fun σ H Q ⟨p,S,ρ,s,e,h⟩=>?_;refine cC s e h fun q H1 a x S1 st s1 e1 r1 h1=>?_;cases a with
 | ref k=>exact h1.elim
 | pv v =>
  cases v with
  | bl b =>
   refine ⟨b,Pn r1 rfl,?_⟩;cases b with
   | true=>exact ⟨q,S1,ρ,s1,e1,h1⟩
   | false=>exact bS.ret (R:=bV X.K) h1 s1 (by show aL X.K q.c H1 _ _; unfold aL; rfl)
  | _=>exact h1.elim
theorem J4 (ha:aW K cl E X a ma):aW K cl E X (.UnaryOp .Not a pos) (cD oI ma):=by
 intro hK;subst hK;refine (D8 (ha rfl)).imp fun σ H Q ⟨p,S,ρ,s,e,h⟩=>?_;refine cC s e h fun q H1 a x S1 st s1 e1 r1 h1=>?_;refine yB (r:=fun x H Q=>∃ c,x=.bl c∧Q (.bl (!c)) H) (f:=oI) (fun {p S H a c x Q} s r e k=>?_) s1 r1 h1;cases a with
 | bl b =>
  cases e;exact ⟨b,r.bl,k H _ (dP.refl H) (by unfold aL; rfl)⟩
 | _=>cases e
theorem U4 (hc:gL K cl E X c mt) (ha:aW K cl E X a ma) (hb:aW K cl E X b mb):aW K cl E X (.IfExp c a b pos) (wC mt ma mb):=by
 intro hK;subst hK;refine (Fu (hc rfl) (ha rfl) (hb rfl)).imp fun σ H Q ⟨p,S,ρ,s,e,h⟩=>?_;refine cC s e h fun q H1 a x S1 st s1 e1 r1 h1=>?_;cases r1;cases a with
 | true=>exact ⟨q,S1,ρ,s1,e1,h1⟩
 | false=>exact ⟨q,S1,ρ,s1,e1,h1⟩
theorem Nz:eK K cl E X [] aD:=fun _=>(PA.imp rS fun σ H Q ⟨p,S,ρ,s,e,h⟩=>bS.ret (R:=fP K) h s .nil)
theorem Dw (ha:aW K cl E X e m) (hr:eK K cl E X es ms) (hs:starEach (e :: es) X.env=(false,eval e X.env) :: starEach es X.env:=by rfl):eK K cl E X (e :: es) (aB m ms):=by
 intro hK;subst hK;refine PA.imp (pH (ha rfl) (hr rfl) hs) fun σ H Q ⟨p,S,ρ,s,e,h⟩=>?_;exact cC s e h fun q H1 a x S1 st s1 e1 r1 h1=>cC s1 e1 h1 fun q2 H2 b y S2 st2 s2 e2 r2 h2=>bS.ret (R:=fP X.K) h2 s2 (.cons (st2.repA r1) r2)
theorem pL {p:Ph} {S:aI} {H:Hp} {vs:List PV} {xs:List V} {t:Addr} (s:aU K p S H) (r:aM K p.c H vs xs) (z:xs.length≤sizeLine) (ht:H t=none):aL K p.c (aT H t (.tup xs)) (.tup vs) (.ref t):=by
 unfold aL;exact ⟨t,xs,rfl,dC.of eN,z,(s.same (gR ht)).reps r⟩
theorem nU {p:Ph} {S:aI} {H:Hp} {vs:List PV} {xs:List V} {t:Addr} (s:aU K p S H) (r:aM K p.c H vs xs) (z:xs.length≤sizeLine) (ht:H t=none):aL K p.c (aT H t (.lst xs)) (.lst vs) (.ref t):=by
 unfold aL;refine ⟨t,xs,rfl,.inl ⟨eN,fun c=>?_⟩,z,(s.same (gR ht)).reps r⟩;obtain ⟨o,e,_⟩:=s.mu t c;rw [ht] at e;cases e
theorem iV:sizeLine=16777216:=sizeLine_eq
theorem D7 {x1} (h:eK K cl E X es ms):aW K cl E X (.Tuple es x1 pos) (mN cT ms):=by
 intro hK;subst hK;refine (K6 (h rfl)).imp fun σ H Q ⟨p,S,ρ,s,e,h⟩=>?_;refine cC s e h fun q H1 as xs S1 st s1 e1 r1 h1=>?_;refine Cg (r:=fun xs H Q=>xs.length≤sizeLine∧∀ t,H t=none→Q (.ref t) (aT H t (.tup xs))) (f:=cT) (fun {p S H as c xs Q} s r e k=>?_) s1 r1 h1;unfold cT at e;split at e
 ·rename_i hl
  cases e;rw [r.length,← iV] at hl;exact ⟨hl,fun t ht=>k _ _ (gR ht) (pL s r hl ht)⟩
 ·cases e
theorem B9 (h:eK K cl E X es ms):aW K cl E X (.List es pos) (mN dR ms):=by
 intro hK;subst hK;refine (zS (h rfl)).imp fun σ H Q ⟨p,S,ρ,s,e,h⟩=>?_;refine cC s e h fun q H1 as xs S1 st s1 e1 r1 h1=>?_;refine Cg (r:=fun xs H Q=>xs.length≤sizeLine∧∀ t,H t=none→Q (.ref t) (aT H t (.lst xs))) (f:=dR) (fun {p S H as c xs Q} s r e k=>?_) s1 r1 h1;unfold dR at e;split at e
 ·rename_i hl
  cases e;rw [r.length,← iV] at hl;exact ⟨hl,fun t ht=>k _ _ (gR ht) (nU s r hl ht)⟩
 ·cases e
end
end L2.Pp
namespace L2.Pp
noncomputable section
open PySem PySem.Spec PyProof.Rows Bn
def cY:MS:=fun ρ S=>.nx ρ S
def aH (a b:MS):MS:=fun ρ S=>match a ρ S with
 | .nx ρ1 S1=>b ρ1 S1
 | r=>r
def cS (m:ME):MS:=fun ρ S=>bX.of (m ρ S) fun _ S1=>.nx ρ S1
def bG (m:ME):MS:=fun ρ S=>bX.of (m ρ S) fun v S1=>.rt v S1
def mW:MS:=fun _ S=>.rt (.pv .non) S
def bZ (c:MT) (a b:MS):MS:=fun ρ S=>bX.of (c ρ S) fun t S1=>if t=true then a ρ S1 else b ρ S1
def aK (i:Nat) (m:ME):MS:=fun ρ S=>bX.of (m ρ S) fun v S1=>.nx (ρ.set i (some v)) S1
def sL (i j:Nat) (m:MA):MS:=fun ρ S=>bX.of (m ρ S) fun vs S1=>match vs with
 | [v,w]=>.nx ((ρ.set i (some v)).set j (some w)) S1
 | _=>.fail
abbrev GM:=PV→bR→Option bR
abbrev nL:=List PV→bR→Option bR
def gN (i:Nat):GM:=fun v ρ=>some (ρ.set i (some (.pv v)))
def eC:nL:=fun vs ρ=>match vs with
 | []=>some ρ
 | _=>none
def cJ (g:GM) (gs:nL):nL:=fun vs ρ=>match vs with
 | []=>none
 | v :: r=>match g v ρ with
  | some ρ1=>gs r ρ1
  | none=>none
def gT (n:Nat) (gs:nL):GM:=fun v ρ=>match v with
 | .tup vs=>if vs.length=n then gs vs ρ else none
 | _=>none
def vH (g:GM) (m:ME):MS:=fun ρ S=>bX.of (m ρ S) fun v S1=>match v with
 | .pv v=>match g v ρ with
  | some ρ1=>.nx ρ1 S1
  | none=>.fail
 | _=>.fail
abbrev Gd:=List (Nat × List PV)
def gJ (G:Gd) (S:aI):Prop:=∀ g∈G,S[g.1]?=some (.lst g.2)
theorem kM (S:aI):gJ [] S:=fun _ h=>nomatch h
abbrev MI:=bR→aI→bK (List PV × Gd)
open Classical in
def dM (G:Gd) (g:GM) (mb:MS):List PV→bR→aI→bX
 | [],ρ,S=>if gJ G S then .nx ρ S else .fail
 | x :: r,ρ,S=>if gJ G S then (match g x ρ with
  | none=>.fail
  | some ρ1=>match mb ρ1 S with
   | .nx ρ2 S2=>dM G g mb r ρ2 S2
   | .ct ρ2 S2=>dM G g mb r ρ2 S2
   | .bk ρ2 S2=>.nx ρ2 S2
   | .rt v S2=>.rt v S2
   | .exc n S2=>.exc n S2
   | .fail=>.fail) else .fail
def bJ (mi:MI) (g:GM) (mb:MS):MS:=fun ρ S=>bX.of (mi ρ S) fun xs S1=>dM xs.2 g mb xs.1 ρ S1
theorem fG {g:GM} {mb:MS} {ρ:bR} {S:aI}:dM [] g mb [] ρ S=.nx ρ S:=by
 unfold dM;rw [if_pos (kM S)]
theorem eM {g:GM} {mb:MS} {x:PV} {r:List PV} {ρ:bR} {S:aI}:dM [] g mb (x :: r) ρ S=(match g x ρ with
  | none=>.fail
  | some ρ1=>match mb ρ1 S with
   | .nx ρ2 S2=>dM [] g mb r ρ2 S2
   | .ct ρ2 S2=>dM [] g mb r ρ2 S2
   | .bk ρ2 S2=>.nx ρ2 S2
   | .rt v S2=>.rt v S2
   | .exc n S2=>.exc n S2
   | .fail=>.fail):=by
 rw [dM,if_pos (kM S)]
def dL (c:MT) (mb:MS):Nat→bR→aI→bX
 | 0,_,_=>.fail
 | n+1,ρ,S=>bX.of (c ρ S) fun t S1=>if t=true then (match mb ρ S1 with
   | .nx ρ2 S2=>dL c mb n ρ2 S2
   | .ct ρ2 S2=>dL c mb n ρ2 S2
   | .bk ρ2 S2=>.nx ρ2 S2
   | .rt v S2=>.rt v S2
   | .exc n S2=>.exc n S2
   | .fail=>.fail) else .nx ρ S1
open Classical in
def jV (c:MT) (mb:MS):MS:=fun ρ S=>if h:∃ n,dL c mb n ρ S≠.fail then dL c mb h.choose ρ S else .fail
theorem bX.of_ok {α:Type} {r:bK α} {k k':α→aI→bX} (h:∀ a S,k a S≠.fail→k' a S=k a S) (n:bX.of r k≠.fail):bX.of r k'=bX.of r k:=by
 cases r with
 | ok a S=>exact h a S n
 | exc=>rfl
 | fail=>rfl
theorem wY {c:MT} {mb:MS}:∀ {n:Nat} {ρ:bR} {S:aI},dL c mb n ρ S≠.fail→dL c mb (n+1) ρ S=dL c mb n ρ S
 | 0,_,_,h=>absurd rfl h
 | n+1,ρ,S,h=>by
  unfold dL at h;rw [dL]
  conv=>rhs; rw [dL]
  refine bX.of_ok (fun t S1 h1=>?_) h
  by_cases ht:t=true
  ·simp only [if_pos ht] at h1 ⊢
   cases z:mb ρ S1 with
   | nx ρ2 S2=>rw [z] at h1; exact wY h1
   | ct ρ2 S2=>rw [z] at h1; exact wY h1
   | _=>rfl
  ·simp only [if_neg ht] at h1 ⊢
theorem xH {c:MT} {mb:MS} {n:Nat} {ρ:bR} {S:aI} (h:dL c mb n ρ S≠.fail):∀ k,dL c mb (n+k) ρ S=dL c mb n ρ S
 | 0=>rfl
 | k+1=>by
  have ih:=xH h k;rw [← Nat.add_assoc,wY (by rw [ih]; exact h),ih]
theorem tH {c:MT} {mb:MS} {n:Nat} {ρ:bR} {S:aI} {r:bX} (e:dL c mb n ρ S=r) (h:r≠.fail):jV c mb ρ S=r:=by
 have h':∃ n,dL c mb n ρ S≠.fail:=⟨n,by rw [e]; exact h⟩;unfold jV;rw [dif_pos h'];have e2:=h'.choose_spec;rcases Nat.le_total n h'.choose with l | l
 ·obtain ⟨k,q⟩:=Nat.exists_eq_add_of_le l
  rw [q,xH (by rw [e]; exact h),e]
 ·obtain ⟨k,q⟩:=Nat.exists_eq_add_of_le l
  have z:=xH e2 k;rw [← q,e] at z;exact z.symm
section
variable {K:PySem.W.Frag} {cl:Str→Addr} {E:XK} {X:Cx} {a b c e tg:Expr} {es:List Expr} {m:ME} {mt:MT} {ms:MA} {b1 b2:MS} {st:Stmt} {sts sts':List Stmt} {pos:Pos}
theorem dB.set {p:Ph} {H:Hp} {ρ:bR} {σ:St} {v:AV} {x:V} (h:dB K p H ρ σ) (r:bV K p H v x) (i:Nat):dB K p H (ρ.set i (some v)) (σ.set i (some x)):=by
 refine ⟨by rw [List.length_set,List.length_set,h.len],fun j u e=>?_⟩
 by_cases q:i=j
 ·subst q
  by_cases l:i < ρ.length
  ·rw [List.getElem?_set_self l] at e
   cases e;exact ⟨x,List.getElem?_set_self (by rw [← h.len]; exact l),r⟩
  ·rw [List.getElem?_eq_none (by rw [List.length_set]; omega)] at e
   cases e
 ·rw [List.getElem?_set_ne q] at e ⊢
  exact h.at_ j u e
theorem Nw:gS K cl E X [] cY:=fun _=>fW.imp Zz fun D σ H ⟨p,S,ρ,s,e,h⟩=>h p H σ s.step s e
theorem dW.nxD {p:Ph} {H:Hp} {ρ:bR} {S:aI} {D:mF} (h:dW K cl p H (.nx ρ S) D E) {σ:St} (s:aU K p S H) (e:dB K p H ρ σ):D.nx σ H:=h p H σ s.step s e
theorem Ps (h1:eJ K cl E X st b1) (h2:gS K cl E X sts b2):gS K cl E X (st :: sts) (aH b1 b2):=by
 intro hK;subst hK;refine fW.imp (Qw (h1 rfl) (h2 rfl)) fun D σ H ⟨p,S,ρ,s,e,h⟩=>⟨p,S,ρ,s,e,?_⟩;unfold aH at h;cases z:b1 ρ S with
 | nx ρ1 S1 =>
  rw [z] at h;exact fun q H' σ' stp sm ev=>⟨q,S1,ρ1,sm,ev,dW.mono (r:=b2 ρ1 S1) h stp⟩
 | bk ρ1 S1=>rw [z] at h; exact h
 | ct ρ1 S1=>rw [z] at h; exact h
 | rt v S1=>rw [z] at h; exact h
 | exc n S1=>rw [z] at h; exact h
 | fail=>rw [z] at h; exact h
theorem Hv (h1:eJ K cl E X st b1):gS K cl E X [st] b1:=fun hK=>Nk (h1 hK)
theorem Fw (he:aW K cl E X e m) (hs:swapsWith e none pos.line X.env=pure false:=by rfl):eJ K cl E X (.Expr e pos) (cS m):=by
 intro hK;subst hK;refine PS.imp (Py (he rfl) hs) fun D σ H ⟨p,S,ρ,s,e,h⟩=>?_;exact iF s e h fun q H' a b S' stp sm ev r k=>dW.nxD k sm ev
theorem Ez (he:aW K cl E X e m):eJ K cl E X (.Return (some e) pos) (bG m):=by
 intro hK;subst hK;refine PS.imp (G0 (he rfl)) fun D σ H ⟨p,S,ρ,s,e,h⟩=>?_;exact iF s e h fun q H' a b S' stp sm ev r k=>k q H' b sm.step sm r
theorem Eu:eJ K cl E X (.Return none pos) mW:=fun _=>PS.imp B5 fun D σ H ⟨p,S,ρ,s,e,h⟩=>h p H .non s.step s (by show aL K p.c H .non .non; unfold aL; rfl)
theorem D9 (hc:gL K cl E X c mt) (ha:gS K cl E X sts b1) (hb:gS K cl E X sts' b2):eJ K cl E X (.If c sts sts' pos) (bZ mt b1 b2):=by
 intro hK;subst hK;refine PS.imp (V8 (hc rfl) (ha rfl) (hb rfl)) fun D σ H ⟨p,S,ρ,s,e,h⟩=>?_;refine iF s e h fun q H' a b S' stp sm ev r k=>?_;cases r;cases a with
 | true=>exact ⟨q,S',ρ,sm,ev,k⟩
 | false=>exact ⟨q,S',ρ,sm,ev,k⟩
theorem Bj {i:Nat} {x:Str} {pos':Pos} (hN:X.N.Nodup) (hi:X.N[i]?=some x) (hx:mG X.env.scope x) (he:aW K cl E X e m) (hs:swapsWith e (some (.Name x pos')) pos.line X.env=pure false:=by rfl)
  (hf:X.fn x=true∨X.env.scope.names.lookup x=some .local:=by first | exact .inl rfl | exact .inr rfl | assumption):eJ K cl E X (.Assign [.Name x pos'] e pos) (aK i m):=by
 intro hK;subst hK;refine PS.imp (M2 hN hi hx (he rfl) hs hf) fun D σ H ⟨p,S,ρ,s,e,h⟩=>?_;exact iF s e h fun q H' a b S' stp sm ev r k=>dW.nxD k sm (ev.set r i)
theorem A2 {i j:Nat} {x y:Str} {px py pt:Pos} {kt k2 eL} (hc:X.calm=true) (hN:X.N.Nodup) (hi:X.N[i]?=some x) (hj:X.N[j]?=some y) (hij:i≠j)
  (hx:X.env.scope.names.lookup x=some .local) (hy:X.env.scope.names.lookup y=some .local) (ha:eK K cl E X [a,b] ms)
  (hw:swappedStores [.Tuple [.Name x px,.Name y py] kt pt] (.Tuple [a,b] k2 eL) X.env=pure (some [x,y]))
  (hs:swapsWithSole [.Tuple [.Name x px,.Name y py] kt pt] (.Tuple [a,b] k2 eL) pos.line X.env=pure false:=by rfl) :
  eJ K cl E X (.Assign [.Tuple [.Name x px,.Name y py] kt pt] (.Tuple [a,b] k2 eL) pos) (sL i j ms):=by
 intro hK;subst hK;refine PS.imp (C0 hc hN hi hj hij hx hy (ha rfl) hw hs) fun D σ H ⟨p,S,ρ,s,e,h⟩=>?_;refine iF s e h fun q H' vs xs S' stp sm ev r k=>?_;cases r with
 | nil=>exact k.elim
 | cons r1 rr =>
  cases rr with
  | nil=>exact k.elim
  | cons r2 rs =>
   cases rs with
   | nil=>exact ⟨_,_,rfl,dW.nxD k sm ((ev.set r1 i).set r2 j)⟩
   | cons _ _=>exact k.elim
def gP (K:PySem.W.Frag) (g:GM):TG:=fun x σ H Q=>∃ p S ρ v ρ',aU K p S H∧dB K p H ρ σ∧aL K p.c H v x∧g v ρ=some ρ'∧∀ σ',dB K p H ρ' σ'→Q σ' H
def gPs (K:PySem.W.Frag) (g:nL):mI:=fun xs σ H Q=>∃ p S ρ vs ρ',aU K p S H∧dB K p H ρ σ∧aM K p.c H vs xs∧g vs ρ=some ρ'∧∀ σ',dB K p H ρ' σ'→Q σ' H
variable (K X)
def kJ (tg:Expr) (g:GM):Prop:=X.K=K→PG X tg (gP K g)
def pY (ts:List Expr) (g:nL):Prop:=X.K=K→kX X ts (gPs K g)
variable {K X}
theorem PG.imp {tg:Expr} {t t':TG} (h:PG X tg t) (i:∀ x σ H Q,t' x σ H Q→t x σ H Q):PG X tg t':=fun pins s σ H v u Q I r q=>h pins s σ H v u Q I r (i v σ H Q q)
theorem kX.imp {ts:List Expr} {t t':mI} (h:kX X ts t) (i:∀ x σ H Q,t' x σ H Q→t x σ H Q):kX X ts t':=fun pins s σ H v u Q I r q=>h pins s σ H v u Q I r (i v σ H Q q)
theorem Ov {i:Nat} {x:Str} (hN:X.N.Nodup) (hi:X.N[i]?=some x) (hx:mG X.env.scope x) (hf:X.fn x=true∨X.env.scope.names.lookup x=some .local:=by first | exact .inl rfl | exact .inr rfl | assumption):kJ K X (.Name x pos) (gN i) :=
 fun _=>PG.imp (Mj hN hi hx hf) fun x σ H Q ⟨p,S,ρ,v,ρ',s,ev,r,g,k⟩=>by
  cases g;exact k _ (ev.set (v:=.pv v) r i)
theorem Lv:pY K X [] eC:=fun _=>kX.imp Ny fun xs σ H Q ⟨p,S,ρ,vs,ρ',s,ev,r,g,k⟩=>by
 cases vs with
 | nil =>
  cases g;unfold aM at r;exact ⟨r,k _ ev⟩
 | cons _ _=>cases g
theorem Vs {g:GM} {gs:nL} (h1:kJ K X e g) (h2:pY K X es gs) (hs:(assignEach (e :: es) X.env).map (·.2)=assign e X.env :: (assignEach es X.env).map (·.2):=by rfl):pY K X (e :: es) (cJ g gs):=by
 intro hK;subst hK;refine kX.imp (Aw (h1 rfl) (h2 rfl) hs) fun xs σ H Q ⟨p,S,ρ,vs,ρ',s,ev,r,g1,k⟩=>?_;cases vs with
 | nil=>cases g1
 | cons v vr =>
  unfold aM at r;obtain ⟨x,xr,rfl,r1,r2⟩:=r;unfold cJ at g1;cases z:g v ρ with
  | none=>simp only [z] at g1; cases g1
  | some ρ1 =>
   simp only [z] at g1;exact ⟨x,xr,rfl,p,S,ρ,v,ρ1,s,ev,r1,z,fun σ' ev'=>⟨p,S,ρ1,vr,ρ',s,ev',r2,g1,k⟩⟩
theorem Ox {k:Nat} {gs:nL} {n:Nat} (hc:X.calm=true) (h:pY K X es gs) (hn:(assignEach es X.env).length=n:=by rfl) (hst:(assignEach es X.env).findIdx? (·.1)=none:=by rfl):kJ K X (.Tuple es k pos) (gT n gs):=by
 intro hK;subst hK;refine PG.imp (L0 hc (h rfl) hn hst) fun x σ H Q ⟨p,S,ρ,v,ρ',s,ev,r,g1,k⟩=>?_;cases v with
 | tup vs =>
  unfold aL at r;obtain ⟨a,xs,rfl,t,z,r⟩:=r;unfold gT at g1;dsimp only at g1;split at g1
  ·rename_i hl
   exact ⟨a,xs,rfl,t,r.length.symm.trans hl,p,S,ρ,vs,ρ',s,ev,r,g1,k⟩
  ·cases g1
 | _=>cases g1
theorem Wx {g:GM} (he:aW K cl E X e m) (hg:kJ K X tg g) (hs:swapsWithSole [tg] e pos.line X.env=pure false:=by rfl) (hw:swappedStores [tg] e X.env=pure none:=by rfl)
  (h1:(assignEach [tg] X.env).map (·.2)=[assign tg X.env]:=by rfl):eJ K cl E X (.Assign [tg] e pos) (vH g m):=by
 intro hK;subst hK;refine PS.imp (uK (he rfl) (hg rfl) hs hw h1) fun D σ H ⟨p,S,ρ,s,e,h⟩=>?_;refine iF s e h fun q H' a b S' stp sm ev r k=>?_;cases a with
 | ref k'=>exact k.elim
 | pv v =>
  dsimp only at k;cases z:g v ρ with
  | none=>simp only [z] at k; exact k.elim
  | some ρ1 =>
   simp only [z] at k;exact ⟨q,S',ρ,v,ρ1,sm,ev,r,z,fun σ' ev'=>dW.nxD k sm ev'⟩
def eT (K:PySem.W.Frag) (p:Ph) (H:Hp) (xs:List PV × Gd) (J:It):Prop:=xs.1.length≤sizeLine∧∀ q H1 S1,bM p H q H1→aU K q S1 H1→gJ xs.2 S1 →
 (∀ (i:Nat) (v:PV),xs.1[i]?=some v→J.go i H1∧∀ x H2,J.yld i H1 x H2→dP H1 H2∧aL K q.c H2 v x)∧J.stop xs.1.length H1
theorem eT.step {p q:Ph} {H H':Hp} {xs:List PV × Gd} {J:It} (h:eT K p H xs J) (s:bM p H q H'):eT K q H' xs J:=⟨h.1,fun r H1 S1 t=>h.2 r H1 S1 (s.trans t)⟩
variable (K cl E X)
def gU (tg iter:Expr) (m:MI):Prop:=X.K=K→PI X tg iter (tP K cl E (eT K) m)
variable {K cl E X}
theorem PI.imp {tg iter:Expr} {t t':TI} (h:PI X tg iter t) (i:∀ σ H Q,t' σ H Q→t σ H Q):PI X tg iter t':=fun pins s σ H R I q=>h pins s σ H R I (i σ H R q)
def aaa (K:PySem.W.Frag) (tl:TE):TI:=fun σ H R=>tl σ H fun x H1=>∃ a,x=.ref a∧(((∃ xs,bY K H1 a xs)∧R (vV K a) H1)∨((∃ xs,dC K H1 a xs)∧R (Hc K a) H1))
theorem Nl {l:Expr} {tl:TE} (hl:PE X l tl):PI X tg l (aaa X.K tl):=by
 intro pins s σ H R I h;refine bF (hl pins s σ H _ I h) fun v s1 ⟨x,H1,I1,r1,q1⟩=>?_;obtain ⟨a,e,q⟩:=q1;subst e;cases r1;rcases q with ⟨⟨xs,hq⟩,q⟩ | ⟨⟨xs,hq⟩,q⟩
 ·obtain ⟨its,rv,p,hz⟩:=I1.list hq
  refine wpAny_pyIter_list p.isList ?_;refine ⟨s1.heap.objs.size,[s1.heap.objs.size],_,_,H1,rfl,I1.kept (t':=s1.toks) fun b o e=>Heap.get?_push_of_some _ e,Cs a _,⟨_,Heap.get?_push_size _ rfl,rfl,rfl⟩,fun b hb=>?_,q⟩;have e:b=s1.heap.objs.size:=by simpa using hb
  subst e;exact I1.fpOk (Nat.le_refl _) (I1.hok.fresh (Nat.le_refl _))
 ·obtain ⟨its,rv,p,hz⟩:=I1.tuple hq
  refine wpAny_pyIter_tuple (show s1.heap.IsTuple a its.toArray from p) ?_;refine ⟨s1.heap.objs.size,[s1.heap.objs.size],_,_,H1,rfl,I1.kept (t':=s1.toks) fun b o e=>Heap.get?_push_of_some _ e,Dr a _,⟨_,Heap.get?_push_size _ rfl,rfl,rfl⟩,fun b hb=>?_,q⟩;have e:b=s1.heap.objs.size:=by simpa using hb
  subst e;exact I1.fpOk (Nat.le_refl _) (I1.hok.fresh (Nat.le_refl _))
def cN:AV→aI→bK (List PV × Gd)
 | .pv (.lst xs),S=>.ok (xs,[]) S
 | .pv (.tup xs),S=>.ok (xs,[]) S
 | .ref k,S=>match S[k]? with
  | some (.lst xs)=>.ok (xs,[(k,xs)]) S
  | _=>.fail
 | _,_=>.fail
def bH (m:ME):MI:=fun ρ S=>(m ρ S).bind cN
theorem E7 {p:Ph} {H:Hp} {xs:List PV} {a:Addr} {vs:List V} (l:jP K p.c H a vs) (z:vs.length≤sizeLine) (r:aM K p.c H xs vs):eT K p H (xs,[]) (vV K a):=by
 refine ⟨by rw [r.length]; exact z,fun q H1 S1 st _ _=>⟨fun i v e=>?_,?_⟩⟩
 ·have l1:=(st.lat l).sq
  obtain ⟨x,e1,r1⟩:=(st.reps r).get e;refine ⟨⟨vs,x,l1,e1⟩,fun y H2 hy=>?_⟩;obtain ⟨rfl,hy⟩:=hy;have:=(hy vs l1).symm.trans e1;cases this;exact ⟨dP.refl _,r1⟩
 ·exact ⟨vs,(st.lat l).sq,by rw [r.length]; exact Nat.le_refl _⟩
theorem F6 {p:Ph} {H:Hp} {xs:List PV} {a:Addr} {vs:List V} (l:dC K H a vs) (z:vs.length≤sizeLine) (r:aM K p.c H xs vs):eT K p H (xs,[]) (Hc K a):=by
 refine ⟨by rw [r.length]; exact z,fun q H1 S1 st _ _=>⟨fun i v e=>?_,?_⟩⟩
 ·have l1:=st.tup l
  obtain ⟨x,e1,r1⟩:=(st.reps r).get e;refine ⟨⟨vs,x,l1,e1⟩,fun y H2 hy=>?_⟩;obtain ⟨rfl,hy⟩:=hy;have:=(hy vs l1).symm.trans e1;cases this;exact ⟨dP.refl _,r1⟩
 ·exact ⟨vs,st.tup l,by rw [r.length]; exact Nat.le_refl _⟩
theorem K3 {p:Ph} {H:Hp} {xs:List PV} {a:Addr} {k:Nat} {n:xs.length≤sizeLine} (hf:p.f[k]?=some a):eT K p H (xs,[(k,xs)]) (vV K a):=by
 refine ⟨n,fun q H1 S1 st sm g=>?_⟩;have e0:S1[k]?=some (.lst xs):=g (k,xs) List.mem_cons_self;obtain ⟨vs,h1,l1,r1⟩:=sm.obj k a _ (st.at_ hf) e0;refine ⟨fun i v e=>?_,?_⟩
 ·obtain ⟨x,e1,r2⟩:=r1.get e
  refine ⟨⟨vs,x,bY.of h1,e1⟩,fun y H2 hy=>?_⟩;obtain ⟨rfl,hy⟩:=hy;have:=(hy vs (bY.of h1)).symm.trans e1;cases this;exact ⟨dP.refl _,r2⟩
 ·exact ⟨vs,bY.of h1,by rw [r1.length]; exact Nat.le_refl _⟩
theorem Xw (h:aW K cl E X e m):gU K cl E X tg e (bH m):=by
 intro hK;subst hK;refine PI.imp (Nl (h rfl)) fun σ H R ⟨p,S,ρ,s,ev,h⟩=>?_;refine cC s ev h fun q H' v x S' stp sm ev r k=>?_;cases v with
 | ref j =>
  obtain ⟨a,e,rfl⟩:=r;unfold cN at k;dsimp only at k;cases z:S'[j]? with
  | none=>rw [z] at k; exact k.elim
  | some o =>
   cases o with
   | lst xs =>
    rw [z] at k;obtain ⟨vs,h1,l1,r1⟩:=sm.obj j a _ e z;exact ⟨a,rfl,.inl ⟨⟨vs,bY.of h1⟩,bS.ret (R:=eT X.K) k sm (K3 (n:=by rw [r1.length]; exact l1) e)⟩⟩
   | lol _=>rw [z] at k; exact k.elim
   | dic _ _=>rw [z] at k; exact k.elim
   | dol _ _=>rw [z] at k; exact k.elim
 | pv v =>
  cases v with
  | lst xs =>
   have r:aL X.K q.c H' (.lst xs) x:=r;unfold aL at r;obtain ⟨a,vs,rfl,l,z,r⟩:=r;exact ⟨a,rfl,.inl ⟨⟨vs,l.sq⟩,bS.ret (R:=eT X.K) k sm (E7 l z r)⟩⟩
  | tup xs =>
   have r:aL X.K q.c H' (.tup xs) x:=r;unfold aL at r;obtain ⟨a,vs,rfl,l,z,r⟩:=r;exact ⟨a,rfl,.inr ⟨⟨vs,l⟩,bS.ret (R:=eT X.K) k sm (F6 l z r)⟩⟩
  | _=>exact k.elim
def cX (lo:Int) (n:Nat):List PV:=(List.range n).map fun i=>.int (lo+(i:Nat))
def fU:List AV→aI→bK (List PV × Gd)
 | [.pv (.int j)],S1=>@ite _ (j≤16777216∧-16777216≤j) (Classical.propDecidable _) (.ok (cX 0 j.toNat,[]) S1) .fail
 | _,_=>.fail
def bO (ms:MA):MI:=fun ρ S=>(ms ρ S).bind fU
def vJ:List AV→aI→bK (List PV × Gd)
 | [.pv (.int i),.pv (.int j)],S1=>@ite _ ((-4611686018427387904≤i∧i < 4611686018427387904∧-4611686018427387904≤j∧j < 4611686018427387904)∧j - i≤16777216) (Classical.propDecidable _) (.ok (cX i (j - i).toNat,[]) S1) .fail
 | _,_=>.fail
def mQ (ms:MA):MI:=fun ρ S=>(ms ρ S).bind vJ
theorem Am {p:Ph} {H:Hp} {lo:Int} {n:Nat} (h:n≤sizeLine):eT K p H (cX lo n,[]) (sR lo n):=by
 have hl:(cX lo n).length=n:=by unfold cX; rw [List.length_map,List.length_range]
 refine ⟨by show (cX lo n).length≤_; rw [hl]; exact h,fun q H1 S1 st _ _=>⟨fun i v e=>?_,?_⟩⟩
 ·have hi:i < n:=by
   have:=(List.getElem?_eq_some_iff.mp (show (cX lo n)[i]?=some v from e)).1;omega
  refine ⟨hi,fun x H2 hy=>?_⟩;obtain ⟨rfl,rfl⟩:=hy;have e:(cX lo n)[i]?=some v:=e;unfold cX at e;rw [List.getElem?_map,List.getElem?_range hi] at e;cases e;refine ⟨dP.refl _,?_⟩;unfold aL;rfl
 ·show n≤(cX lo n).length
  rw [hl];exact Nat.le_refl n
theorem Tq {p:Pos} (hg:Gl X "range") (hm:X.mg "range"=none) (ha:eK K cl E X [a] ms) (hs:starEach [a] X.env=[(false,eval a X.env)]:=by rfl):gU K cl E X tg (.Call (.Name "range" p) [a] [] pos) (bO ms):=by
 intro hK;subst hK;refine PI.imp (Rs hg hm (ha rfl) hs) fun σ H R ⟨p,S,ρ,s,ev,h⟩=>?_;refine cC s ev h fun q H' vs xs S' stp sm ev r k=>?_;unfold fU at k;split at k
 ·rename_i j
  cases r with
  | cons r1 r2 =>
   cases r2;rename_i x;have e:x=.int j:=by
    have r1:aL X.K q.c H' (.int j) x:=r1;unfold aL at r1;exact r1
   subst e;split at k
   ·rename_i hj
    have hz:=iV;exact ⟨j,rfl,by omega,by omega,bS.ret (R:=eT X.K) k sm (Am (by omega))⟩
   ·exact k.elim
 ·exact k.elim
theorem Fr {p:Pos} (hg:Gl X "range") (hm:X.mg "range"=none) (ha:eK K cl E X [a,b] ms) (hs:starEach [a,b] X.env=[(false,eval a X.env),(false,eval b X.env)]:=by rfl) (hs2:starEach [b] X.env=[(false,eval b X.env)]:=by rfl):gU K cl E X tg (.Call (.Name "range" p) [a,b] [] pos) (mQ ms):=by
 intro hK;subst hK;refine PI.imp (Rr hg hm (ha rfl) hs hs2) fun σ H R ⟨p,S,ρ,s,ev,h⟩=>?_;refine cC s ev h fun q H' vs xs S' stp sm ev r k=>?_;unfold vJ at k;split at k
 ·rename_i i j
  cases r with
  | cons r1 r2 =>
   cases r2 with
   | cons r2 r3 =>
    cases r3;rename_i x y;have e:x=.int i:=by
     have r1:aL X.K q.c H' (.int i) x:=r1;unfold aL at r1;exact r1
    have e2:y=.int j:=by
     have r1:aL X.K q.c H' (.int j) y:=r2;unfold aL at r1;exact r1
    subst e e2;split at k
    ·rename_i hj
     have hz:=iV;exact ⟨i,j,rfl,by omega,bS.ret (R:=eT X.K) k sm (Am (by omega))⟩
    ·exact k.elim
 ·exact k.elim
theorem Ky {mi:MI} {g:GM} (hp:PassesOwn (model X.prog X.w) X.A X.env X.xe) (hc:X.calm=true) (hi:gU K cl E X tg e mi) (hg:kJ K X tg g) (hb:gS K cl E X sts b1)
  (hs:∀ x,foldedSetIterable e X.env x=pure x:=by intro _; rfl):eJ K cl E X (.For tg e sts [] pos) (bJ mi g b1):=by
 intro hK;subst hK;refine PS.imp (Sl hp hc (hi rfl) (hg rfl) (hb rfl) hs) fun D σ H ⟨p,S,ρ,s,ev,h⟩=>?_;refine iF s ev h fun q H' xg J S' stp sm ev it k=>?_;obtain ⟨xs,G⟩:=xg;refine ⟨fun i n σ H=>n=xs.length - i∧i≤xs.length∧∃ p S ρ,aU X.K p S H∧dB X.K p H ρ σ∧eT X.K p H (xs,G) J∧dW X.K cl p H (dM G g b1 (xs.drop i) ρ S) D E,⟨xs.length,by simp,Nat.zero_le _,q,S',ρ,sm,ev,it,by simpa using k⟩,?_⟩
 rintro i n σ1 H1 ⟨rfl,hi,p1,S1,ρ1,sm1,ev1,it1,k1⟩
 by_cases hlt:i < xs.length
 ·have hx:xs[i]?=some xs[i]:=List.getElem?_eq_getElem hlt
  rw [List.drop_eq_getElem_cons hlt] at k1;unfold dM at k1;split at k1
  ·rename_i gk
   obtain ⟨g1,y1⟩:=(it1.2 p1 H1 S1 sm1.step sm1 gk).1 i _ hx;cases z:g xs[i] ρ1 with
   | none=>simp only [z] at k1; exact k1.elim
   | some ρ2 =>
    simp only [z] at k1;refine .inr ⟨g1,fun σ' H'=>i+1≤xs.length∧∃ p S ρ,aU X.K p S H'∧dB X.K p H' ρ σ'∧eT X.K p H' (xs,G) J∧dW X.K cl p H' (dM G g b1 (xs.drop (i+1)) ρ S) D E,fun σ' H' hN=>⟨xs.length - (i+1),by omega,rfl,hN⟩,fun x H2 hy=>?_⟩;obtain ⟨same,rx⟩:=y1 x H2 hy;have st2:=sm1.same same;have sm2:=sm1.ofSame same;refine ⟨p1,S1,ρ1,xs[i],ρ2,sm2,st2.repE ev1,rx,z,fun σ3 ev3=>⟨p1,S1,ρ2,sm2,ev3,?_⟩⟩;have it2:=it1.step st2;cases y:b1 ρ2 S1 with
    | nx ρ4 S4 =>
     rw [y] at k1;exact fun q5 H5 σ5 st5 sm5 ev5=>⟨hlt,q5,S4,ρ4,sm5,ev5,it2.step st5,dW.mono (r:=dM G g b1 (xs.drop (i+1)) ρ4 S4) k1 (st2.trans st5)⟩
    | ct ρ4 S4 =>
     rw [y] at k1;exact fun q5 H5 σ5 st5 sm5 ev5=>⟨hlt,q5,S4,ρ4,sm5,ev5,it2.step st5,dW.mono (r:=dM G g b1 (xs.drop (i+1)) ρ4 S4) k1 (st2.trans st5)⟩
    | bk ρ4 S4=>rw [y] at k1; exact dW.mono (r:=.nx ρ4 S4) k1 st2
    | rt v S4=>rw [y] at k1; exact dW.mono (r:=.rt v S4) k1 st2
    | exc v S4=>rw [y] at k1; exact dW.mono (r:=.exc v S4) k1 st2
    | fail=>rw [y] at k1; exact k1.elim
  ·exact k1.elim
 ·have e:i=xs.length:=by omega
  subst e;rw [List.drop_length] at k1;unfold dM at k1;split at k1
  ·rename_i gk
   exact .inl ⟨(it1.2 p1 H1 S1 sm1.step sm1 gk).2,dW.nxD k1 sm1 ev1⟩
  ·exact k1.elim
theorem Jr (hp:PassesOwn (model X.prog X.w) X.A X.env X.xe) (hc:gL K cl E X c mt) (hb:gS K cl E X sts b1):eJ K cl E X (.While c sts [] pos) (jV mt b1):=by
 intro hK;subst hK;refine PS.imp (Vv hp (hc rfl) (hb rfl)) fun D σ H ⟨p,S,ρ,s,ev,h⟩=>?_;unfold jV at h;split at h
 ·rename_i hh
  refine ⟨fun n σ H=>∃ p S ρ,aU X.K p S H∧dB X.K p H ρ σ∧dW X.K cl p H (dL mt b1 n ρ S) D E,⟨_,p,S,ρ,s,ev,h⟩,?_⟩
  rintro n σ1 H1 ⟨p1,S1,ρ1,sm1,ev1,k1⟩
  cases n with
  | zero=>exact k1.elim
  | succ n =>
   unfold dL at k1;refine iF sm1 ev1 k1 fun q H2 t t' S2 stp sm2 ev2 r k2=>?_;cases r;cases t with
   | true =>
    rw [if_pos rfl] at k2 ⊢;refine ⟨fun σ' H'=>∃ p S ρ,aU X.K p S H'∧dB X.K p H' ρ σ'∧dW X.K cl p H' (dL mt b1 n ρ S) D E,fun σ' H' hN=>⟨n,Nat.lt_succ_self n,hN⟩,q,S2,ρ1,sm2,ev2,?_⟩;cases y:b1 ρ1 S2 with
    | nx ρ4 S4 =>
     rw [y] at k2;exact fun q5 H5 σ5 st5 sm5 ev5=>⟨q5,S4,ρ4,sm5,ev5,dW.mono (r:=dL mt b1 n ρ4 S4) k2 st5⟩
    | ct ρ4 S4 =>
     rw [y] at k2;exact fun q5 H5 σ5 st5 sm5 ev5=>⟨q5,S4,ρ4,sm5,ev5,dW.mono (r:=dL mt b1 n ρ4 S4) k2 st5⟩
    | bk ρ4 S4=>rw [y] at k2; exact k2
    | rt v S4=>rw [y] at k2; exact k2
    | exc v S4=>rw [y] at k2; exact k2
    | fail=>rw [y] at k2; exact k2.elim
   | false =>
    rw [if_neg Bool.false_ne_true] at k2 ⊢;exact dW.nxD k2 sm2 ev2
 ·exact h.elim
end
end
end L2.Pp
namespace L2.Pp
open PySem PySem.Spec PyProof.Rows Bn
def gY (n:Nat) (xs:List AV):bR:=xs.map some++List.replicate (n - xs.length) none
def kR (n:Nat):AV→aI→bK AV
 | .pv v,S=>.ok (.pv v) (S.take n)
 | .ref k,S=>if k < n then .ok (.ref k) (S.take n) else match S[k]? with
  | some (.lst xs)=>.ok (.ref n) (S.take n++[.lst xs])
  | some (.dic b kvs)=>.ok (.ref n) (S.take n++[.dic b kvs])
  | _=>.fail
def frz (n:Nat):bK AV→bK AV
 | .ok (.ref k) S=>if k < n then .ok (.ref k) S else match S[k]? with
  | some (.lst xs)=>.ok (.pv (.lst xs)) (S.take n)
  | _=>.fail
 | r=>r
def jW (n:Nat):bX→bK AV
 | .rt v S=>kR n v S
 | .nx _ S=>.ok (.pv .non) (S.take n)
 | .exc e S=>.exc e (S.take n)
 | _=>.fail
def aX (np n:Nat) (b:MS) (xs:List AV) (S:aI):bK AV:=if xs.length=np then jW S.length (b (gY n xs) S) else .fail
def oB {α:Type}:bK α→bK α
 | .ok a S=>.ok a S
 | _=>.fail
abbrev FM:=List AV→aI→bK AV
def O4 (f:FM) (ds:List PV) (ms:MA):ME:=fun ρ S=>(ms ρ S).bind fun xs S1=>frz S1.length (f (xs++ds.map .pv) S1)
def aJ (f:FM) (ds:List PV) (ms:MA):ME:=fun ρ S=>(ms ρ S).bind fun xs S1=>frz S1.length (oB (f (xs++ds.map .pv) S1))
def pO (f:FM) (ds:List PV) (ms:MA):ME:=fun ρ S=>(ms ρ S).bind fun xs S1=>oB (f (xs++ds.map .pv) S1)
def wG (K:PySem.W.Frag) (cl:Str→Addr) (f:FM):Sp:=fun vs H Q E=>∃ p S xs,aU K p S H∧fP K p H xs vs∧bS K cl (bV K) p H (f xs S) Q E
def lY (K:PySem.W.Frag) (cl:Str→Addr) (f:FM):Sp:=fun vs H Q _=>wG K cl f vs H Q E0
section
variable {K:PySem.W.Frag} {cl:Str→Addr} {p q:Ph} {H H':Hp} {S S':aI}
theorem Ie {c c':Addr→Prop} (h:∀ a,c a→c' a) {a:Addr} {vs:List V} (l:jP K c' H a vs):jP K c H a vs:=by
 rcases l with ⟨l,n⟩ | l | l
 ·exact .inl ⟨l,fun z=>n (h a z)⟩
 ·exact .inr (.inl l)
 ·exact .inr (.inr l)
theorem nQ {c c':Addr→Prop} (h:∀ a,c a→c' a) {ps:List PV} {vs:List V} (r:aM K c' H ps vs):aM K c H ps vs:=aM.mono (fun _ _ t=>t) (fun _ _ l=>Ie h l) ps vs r
theorem Te {c c':Addr→Prop} (h:∀ a,c a→c' a) {v:PV} {x:V} (r:aL K c' H v x):aL K c H v x:=aL.mono (fun _ _ t=>t) (fun _ _ l=>Ie h l) v x r
theorem Xp {f g:List Addr} (h:f <+: g):g.take f.length=f:=by
 obtain ⟨t,e⟩:=h;rw [← e,List.take_left]
theorem oY {α:Type}:∀ {l:List α} {i j:Nat} {a:α},l.Nodup→l[i]?=some a→l[j]?=some a→i=j
 | [],i,j,a,_,e,_=>by simp at e
 | b :: l,0,0,a,_,_,_=>rfl
 | b :: l,0,j+1,a,n,e,f=>by
  simp at e f;subst e;exact absurd (List.mem_of_getElem? f) (List.nodup_cons.mp n).1
 | b :: l,i+1,0,a,n,e,f=>by
  simp at e f;subst f;exact absurd (List.mem_of_getElem? e) (List.nodup_cons.mp n).1
 | b :: l,i+1,j+1,a,n,e,f=>by
  exact congrArg (·+1) (oY (l:=l) (a:=a) (List.nodup_cons.mp n).2 (by simpa using e) (by simpa using f))
theorem aU.cutX (D:Addr→Prop) (s:aU K p S H) (st:bM p H q H') (s':aU K q S' H') (hD:∀ b,D b→H b=none) (hq:(∀ b,D b→b∈q.f)∨∀ k o,S'[k]?=some o→k < S.length→∃ xs,o=.lst xs) :
  let r:Ph:=⟨p.f,fun b=>q.w b∧¬ D b,fun b=>q.c b∧¬ D b⟩
  bM p H r H'∧aU K r (S'.take S.length) H':=by
 intro r;have nD:∀ a,p.c a→¬ D a:=fun a c d=>by
  obtain ⟨o,ho,_⟩:=s.mu a c;rw [hD a d] at ho;cases ho
 have le:S.length≤S'.length:=by
  have:=st.pre.length_le;rw [← s.len,← s'.len];exact this
 refine ⟨⟨s.wc,s.mu,List.prefix_rfl,fun a h=>⟨st.mw a h,nD a (s.wc a h)⟩,fun a h=>⟨st.mono a h,nD a h⟩,fun _ h g=>absurd h g,fun a h=>st.nw a h.1,fun a h=>st.nc a h.1,st.keep⟩,s.nd,by rw [s.len,List.length_take]; omega,fun a h=>⟨st.mw a (s.sub a h),nD a (s.wc a (s.sub a h))⟩,fun a h=>⟨s'.wc a h.1,h.2⟩,fun a h=>s'.mu a h.1,fun k a o e1 e2=>?_⟩;have hk:k < S.length:=by
  have:=(List.getElem?_eq_some_iff.mp e1).1;rw [← s.len];exact this
 have e2':S'[k]?=some o:=by
  rw [List.getElem?_take,if_pos hk] at e2;exact e2
 have z:=s'.obj k a o (st.at_ e1) e2';have shr:∀ xs vs,aM K q.c H' xs vs→aM K r.c H' xs vs:=fun xs vs=>nQ (fun b h=>h.1);have sub:∀ b,b ∉ q.f→b ∉ p.f:=fun b n h=>n (st.pre.subset h);rcases hq with hq | hq
 ·exact z.mono (fun _ e=>e) (fun b w f=>⟨⟨⟨w,fun d=>f (hq b d)⟩,sub b f⟩,fun _ e=>e⟩) shr
 ·obtain ⟨xs,rfl⟩:=hq k o e2' hk
  obtain ⟨vs,e,l,g⟩:=z;exact ⟨vs,e,l,shr xs vs g⟩
theorem aU.cut (s:aU K p S H) (st:bM p H q H') (s':aU K q S' H'):bM p H ⟨p.f,fun b=>q.w b∧¬ False,fun b=>q.c b∧¬ False⟩ H'∧aU K ⟨p.f,fun b=>q.w b∧¬ False,fun b=>q.c b∧¬ False⟩ (S'.take S.length) H' :=
 s.cutX (fun _=>False) st s' (fun _ h=>h.elim) (.inl fun _ h=>h.elim)
theorem xU (s:aU K p S H) (st:bM p H q H') (sm:aU K q S' H') {k:Nat} {a:Addr} (e:q.f[k]?=some a) (hk:¬ k < S.length):a ∉ p.f∧H a=none∧¬ p.c a:=by
 have na:a ∉ p.f:=fun hm=>by
  obtain ⟨j,hj,ej⟩:=List.getElem_of_mem hm;have e2:q.f[j]?=some a:=st.at_ (by rw [List.getElem?_eq_getElem hj,ej]);have hjk:j=k:=oY sm.nd e2 e;rw [s.len] at hj;omega
 have hn:=st.nf a (List.mem_of_getElem? e) na;refine ⟨na,hn,fun c=>?_⟩;obtain ⟨o,ho,_⟩:=s.mu a c;rw [hn] at ho;cases ho
theorem Ru {r:bK AV} {Q:VK} {E:XK} (s:aU K p S H) (h:bS K cl (bV K) p H (frz S.length r) Q E):bS K cl (bV K) p H r Q E:=by
 cases r with
 | exc n S1=>exact h
 | fail=>exact h
 | ok v S1 =>
  cases v with
  | pv v=>exact h
  | ref k =>
   have h:bS K cl (bV K) p H (if k < S.length then .ok (.ref k) S1 else match S1[k]? with
    | some (.lst xs)=>.ok (.pv (.lst xs)) (S1.take S.length)
    | _=>.fail) Q E:=h
   split at h
   ·exact h
   ·rename_i hk
    cases z:S1[k]? with
    | none=>rw [z] at h; exact h.elim
    | some o =>
     cases o with
     | lol _=>rw [z] at h; exact h.elim
     | dic _ _=>rw [z] at h; exact h.elim
     | dol _ _=>rw [z] at h; exact h.elim
     | lst xs =>
      rw [z] at h;intro q H' x st sm r;obtain ⟨a,e,rfl⟩:=r;obtain ⟨na,hn,nc⟩:=xU s st sm e hk;obtain ⟨st1,sm1⟩:=s.cutX (fun b=>b=a) st sm (fun b d=>d ▸ hn) (.inl fun b d=>d ▸ List.mem_of_getElem? e);obtain ⟨vs,h1,l,r⟩:=sm.obj k a _ e z;refine h _ H' (.ref a) st1 sm1 ?_;show aL K (fun b=>q.c b∧¬ b=a) H' (.lst xs) (.ref a);unfold aL;exact ⟨a,vs,rfl,.inl ⟨h1,fun d=>d.2 rfl⟩,l,nQ (fun b h=>h.1) r⟩
theorem Gr {r:bX} {Q:VK} {E:XK} (s:aU K p S H) (h:bS K cl (bV K) p H (jW S.length r) Q E):dW K cl p H r { nx:=fun _ H'=>Q .non H',rt:=Q } E:=by
 cases r with
 | nx ρ S1 =>
  intro q H' σ st sm ev;obtain ⟨st1,sm1⟩:=s.cut st sm;exact h _ H' .non st1 sm1 (by show aL K (fun b=>q.c b∧¬ False) H' .non .non; unfold aL; rfl)
 | exc n S1 =>
  intro q H' st sm;obtain ⟨st1,sm1⟩:=s.cut st sm;exact h _ H' st1 sm1
 | rt v S1 =>
  intro q H' x st sm r;obtain ⟨st1,sm1⟩:=s.cut st sm;cases v with
  | pv v=>exact h _ H' x st1 sm1 (show aL K (fun b=>q.c b∧¬ False) H' v x from Te (fun b h=>h.1) r)
  | ref k =>
   obtain ⟨a,e,rfl⟩:=r;have h:bS K cl (bV K) p H (if k < S.length then .ok (.ref k) (S1.take S.length) else match S1[k]? with
    | some (.lst xs)=>.ok (.ref S.length) (S1.take S.length++[.lst xs])
    | some (.dic b kvs)=>.ok (.ref S.length) (S1.take S.length++[.dic b kvs])
    | _=>.fail) Q E:=h
   split at h
   ·rename_i hk
    refine h _ H' (.ref a) st1 sm1 ⟨a,?_,rfl⟩;show p.f[k]?=some a;have hf:=Xp st.pre;rw [← hf,List.getElem?_take,if_pos (by rw [s.len]; exact hk)];exact e
   ·rename_i hk
    have fin:∀ o,S1[k]?=some o→bS K cl (bV K) p H (.ok (.ref S.length) (S1.take S.length++[o])) Q E→Q (.ref a) H':=fun o z h=>by
     obtain ⟨na,hn,nc⟩:=xU s st sm e hk;have l1:(S1.take S.length).length=S.length:=by rw [← sm1.len,← s.len]
     have ma:a∈q.f:=List.mem_of_getElem? e;refine h ⟨p.f++[a],q.w,q.c⟩ H' (.ref a) ⟨s.wc,s.mu,⟨[a],rfl⟩,st.mw,st.mono,fun b hb n=>?_,st.nw,st.nc,st.keep⟩ ⟨?_,?_,fun b hb=>?_,sm.wc,sm.mu,fun j b o e1 e2=>?_⟩ ⟨a,?_,rfl⟩
     ·rcases List.mem_append.mp hb with z | z
      ·exact absurd z n
      ·have:b=a:=by simpa using z
       rw [this];exact hn
     ·show (p.f++[a]).Nodup
      rw [List.nodup_append];refine ⟨s.nd,by simp,fun b hb c hc z=>?_⟩;have:c=a:=by simpa using hc
      exact na (this ▸ z ▸ hb)
     ·show (p.f++[a]).length=_
      rw [List.length_append,List.length_append,l1,s.len];rfl
     ·rcases List.mem_append.mp hb with z | z
      ·exact st.mw b (s.sub b z)
      ·have:b=a:=by simpa using z
       rw [this];exact sm.sub a ma
     ·by_cases hj:j < S.length
      ·have e1':p.f[j]?=some b:=by
        have e1:(p.f++[a])[j]?=some b:=e1
        rwa [List.getElem?_append_left (by rw [s.len]; exact hj)] at e1
       rw [List.getElem?_append_left (by rw [l1]; exact hj),List.getElem?_take,if_pos hj] at e2;refine (sm.obj j b o (st.at_ e1') e2).mono (fun _ e=>e) (fun c w f=>⟨⟨w,fun m=>?_⟩,fun _ e=>e⟩) fun _ _ r=>r;rcases List.mem_append.mp m with z | z
       ·exact f (st.pre.subset z)
       ·have:c=a:=by simpa using z
        exact f (this ▸ ma)
      ·have hj':j=S.length:=by
        have:=(List.getElem?_eq_some_iff.mp e2).1;rw [List.length_append,l1] at this;simp at this;omega
       subst hj';rw [List.getElem?_append_right (by rw [l1]; exact Nat.le_refl _),l1,Nat.sub_self] at e2;have e1:(p.f++[a])[S.length]?=some b:=e1;rw [← s.len,List.getElem?_append_right (Nat.le_refl _),Nat.sub_self] at e1;cases e1;cases e2;refine (sm.obj k a _ e z).mono (fun _ e=>e) (fun c w f=>⟨⟨w,fun m=>?_⟩,fun _ e=>e⟩) fun _ _ r=>r;rcases List.mem_append.mp m with z | z
       ·exact f (st.pre.subset z)
       ·have:c=a:=by simpa using z
        exact f (this ▸ ma)
     ·show (p.f++[a])[S.length]?=some a
      rw [← s.len,List.getElem?_append_right (Nat.le_refl _),Nat.sub_self];rfl
    split at h
    ·rename_i z
     exact fin _ z h
    ·rename_i z
     exact fin _ z h
    ·exact h.elim
 | bk ρ S1=>exact h.elim
 | ct ρ S1=>exact h.elim
 | fail=>exact h.elim
theorem Pe {N:List Str} {xs:List AV} {vs:List V} (r:fP K p H xs vs):dB K p H (gY N.length xs) (L2.start N vs):=by
 have go:∀ {xs:List AV} {vs:List V},fP K p H xs vs→xs.length=vs.length:=fun {xs vs} r=>by
  induction r with
  | nil=>rfl
  | cons _ _ ih=>rw [List.length_cons,List.length_cons,ih]
 have get:∀ {xs:List AV} {vs:List V},fP K p H xs vs→∀ (i:Nat) (v:AV),xs[i]?=some v→∃ x,vs[i]?=some x∧bV K p H v x:=fun {xs vs} r=>by
  induction r with
  | nil=>intro i v e; simp at e
  | cons h _ ih =>
   intro i v e;cases i with
   | zero =>
    simp at e;subst e;exact ⟨_,rfl,h⟩
   | succ i=>simpa using ih i v (by simpa using e)
 have hl:=go r;refine ⟨by unfold gY L2.start; simp [hl],fun i v e=>?_⟩;unfold gY at e;unfold L2.start
 by_cases hi:i < xs.length
 ·rw [List.getElem?_append_left (by simpa using hi),List.getElem?_map] at e
  cases z:xs[i]? with
  | none=>rw [z] at e; cases e
  | some u =>
   rw [z] at e;cases e;obtain ⟨x,e1,e2⟩:=get r i v z;refine ⟨x,?_,e2⟩;rw [List.getElem?_append_left (by rw [List.length_map,← hl]; exact hi),List.getElem?_map,e1];rfl
 ·rw [List.getElem?_append_right (by rw [List.length_map]; omega),List.getElem?_replicate] at e
  split at e
  ·cases e
  ·cases e
end
section
variable {P:Program} {w:World} {K:PySem.W.Frag} {mg:Str→Option Value} {base:Heap} {cl:Str→Addr}
theorem Ag {K:PySem.W.Frag} {p:Ph} {H:Hp} {xs:List AV} {vs:List V} (h:fP K p H xs vs):xs.length=vs.length:=by
 induction h with
 | nil=>rfl
 | cons _ _ ih=>rw [List.length_cons,List.length_cons,ih]
theorem N3 {np n:Nat} {b:MS} {vs:List V} {H:Hp} {Q:VK} {E:XK} (h:wG K cl (aX np n b) vs H Q E):vs.length=np:=by
 obtain ⟨p,S,xs,sm,ra,h⟩:=h;unfold aX at h;split at h
 ·rename_i e
  rw [← Ag ra,e]
 ·exact h.elim
theorem Ro {x qual:Str} {st:Stmt} {f:Addr} {fd:FuncData} {N ps:List Str} {k np n:Nat} {b:MS} (F:jQ K x qual st f fd) (S:lN N ps (eB st)) (hnp:ps.length=np) (hn:N.length=n)
  (hb:∀ (cdv:Value) (A:Around) (outer:List Env) (s:Shared) (H:Hp) (E:XK),eH k (A.deeper (envOfC qual (eB st) s.heap.objs.size f cdv))→gS K cl E0 (iB fB P w K mg base N qual (eB st) f cdv A outer s H E).nox (gB st) b) :
  fR P w K mg base fB (k+1) f fd ps (lY K cl (aX np n b)):=by
 subst hnp hn;refine F.ok S (fun vs H Q E h=>N3 h) fun cdv A outer s H vs Q E hr h=>⟨_,hb cdv A outer s H E hr rfl,?_⟩;obtain ⟨p,S,xs,sm,ra,h⟩:=h;unfold aX at h;split at h
 ·exact ⟨p,S,_,sm,Pe ra,Gr sm h⟩
 ·exact h.elim
theorem x0 {f:Addr} {fd:FuncData} {ps:List Str} {k:Nat} {g:FM} (F:fR P w K mg base (CX1 P w) k f fd ps (wG K cl g)):fR P w K mg base fB k f fd ps (lY K cl g) :=
 ⟨fun vs H Q E h=>F.len vs H Q E0 h,fun A outer s H args us vs Q E hr e0 hb hv h=>codeAny_mono (F.run A outer s H args us vs Q E0 hr e0 hb hv h) fun r s' hq=>by
  cases r with
  | error e =>
   obtain ⟨_,_,_,_,_,_,_,_,_,_,_,_,z⟩:=hq;exact z
  | ok fl =>
   cases fl with
   | ret u=>exact hq
   | next=>exact hq
   | brk=>exact hq
   | cont=>exact hq⟩
end
section
variable {K:PySem.W.Frag} {cl:Str→Addr} {E:XK} {X:Cx} {e:Expr} {es:List Expr} {ms:MA} {pos p:Pos} {k n:Nat} {f:Addr} {fd:FuncData} {ps:List Str} {g:FM} {x:Str} {dvs:List V} {ds:List Value} {dv:List PV}
theorem Hd {p:Ph} {H:Hp} {xs ys:List AV} {vs ws:List V} (h:fP K p H xs vs) (g:fP K p H ys ws):fP K p H (xs++ys) (vs++ws):=by
 induction h with
 | nil=>exact g
 | cons h _ ih=>exact .cons h ih
def Dv (dv:List PV) (dvs:List V):Prop:=∀ K p H,fP K p H (dv.map .pv) dvs
theorem Dv.nil:Dv [] []:=fun _ _ _=>.nil
theorem Ce {α β:Type} {R:Ph→Hp→α→β→Prop} {p:Ph} {H:Hp} {r:bK α} {Q:β→Hp→Prop} (h:bS K cl R p H (oB r) Q E):bS K cl R p H r Q E0:=by
 cases r with
 | ok a S=>exact h
 | exc n S=>exact h.elim
 | fail=>exact h.elim
theorem Gv (F:fR X.prog X.w X.K X.mg X.base fB k f fd ps (lY K cl g)) (hr:eH k X.A) (hg:Gl X x) (hm:X.mg x=some (.ref f)) (hk:PySem.W.keepIn X.K (.ref f)=true) (hb:lU X.K fd ps ds) (hd:bC dvs ds) (hv:Dv dv dvs)
  (ha:eK K cl E X (e :: es) ms) (hdb:(x == ("__debug__":Str))=false:=by decide) (he:starEach (e :: es) X.env=(false,eval e X.env) :: starEach es X.env:=by rfl) (hpl:(backTo pos (starEach es X.env)).any (·.1)=false:=by rfl) :
  aW K cl E X (.Call (.Name x p) (e :: es) [] pos) (aJ g dv ms):=by
 intro hK;refine PE.imp (yY F hr hg hm hk hb hd Cb (ha hK) hdb he hpl) fun σ H Q ⟨p,S,ρ,s,ev,h⟩=>?_;exact cC s ev h fun q H' as xs S' stp sm ev r k=>⟨q,S',_,sm,Hd r (hv K q H'),Ce (Ru sm k)⟩
theorem Vt (F:fR X.prog X.w X.K X.mg X.base fB k f fd ps (lY K cl g)) (hr:eH k X.A) (hg:Gl X x) (hm:X.mg x=some (.ref f)) (hk:PySem.W.keepIn X.K (.ref f)=true) (hb:lU X.K fd ps ds) (hd:bC dvs ds) (hv:Dv dv dvs)
  (ha:eK K cl E X (e :: es) ms) (hdb:(x == ("__debug__":Str))=false:=by decide) (he:starEach (e :: es) X.env=(false,eval e X.env) :: starEach es X.env:=by rfl) (hpl:(backTo pos (starEach es X.env)).any (·.1)=false:=by rfl) :
  aW K cl E X (.Call (.Name x p) (e :: es) [] pos) (pO g dv ms):=by
 intro hK;refine PE.imp (yY F hr hg hm hk hb hd Cb (ha hK) hdb he hpl) fun σ H Q ⟨p,S,ρ,s,ev,h⟩=>?_;exact cC s ev h fun q H' as xs S' stp sm ev r k=>⟨q,S',_,sm,Hd r (hv K q H'),Ce k⟩
end
end L2.Pp
namespace L2.Pp
open PySem PySem.Spec PyProof.Rows Bn
def cO (own:List Str) (cap:List (Nat × Str)) (ρ:bR):bR:=own.map (fun _=>none)++cap.map fun p=>(ρ[p.1]?).join
open Classical in
noncomputable def cE (G:Gd) (g:GM) (me:ME):List PV→bR→aI→bK (List PV)
 | [],_,S=>if gJ G S then .ok [] S else .fail
 | x :: r,ρ,S=>if gJ G S then (match g x ρ with
  | none=>.fail
  | some ρ1=>match me ρ1 S with
   | .ok (.pv y) S1=>match cE G g me r ρ1 S1 with
    | .ok ys S2=>.ok (y :: ys) S2
    | _=>.fail
   | _=>.fail) else .fail
theorem eA {g:GM} {me:ME} {ρ:bR} {S:aI}:cE [] g me [] ρ S=.ok [] S:=by
 unfold cE;rw [if_pos (kM S)]
theorem eD {g:GM} {me:ME} {x:PV} {r:List PV} {ρ:bR} {S:aI}:cE [] g me (x :: r) ρ S=(match g x ρ with
  | none=>.fail
  | some ρ1=>match me ρ1 S with
   | .ok (.pv y) S1=>match cE [] g me r ρ1 S1 with
    | .ok ys S2=>.ok (y :: ys) S2
    | _=>.fail
   | _=>.fail):=by
 rw [cE,if_pos (kM S)]
noncomputable def bB (own:List Str) (cap:List (Nat × Str)) (mi:MI) (g:GM) (me:ME):ME:=fun ρ S=>(mi ρ S).bind fun xs S1=>(cE xs.2 g me xs.1 (cO own cap ρ) S1).bind fun ys S2=>.ok (.pv (.lst ys)) S2
theorem Vp {G:Gd} {g:GM} {me:ME}:∀ (xs:List PV) (ρ:bR) (S:aI) (n:Str) (S':aI),cE G g me xs ρ S≠.exc n S'
 | [],_,_,_,_,e=>by
  unfold cE at e;split at e <;> cases e
 | x :: r,ρ,S,n,S',e=>by
  unfold cE at e;split at e
  ·split at e
   ·cases e
   ·split at e
    ·split at e
     ·cases e
     ·cases e
    ·cases e
  ·cases e
theorem Th {G:Gd} {g:GM} {me:ME} {xs zs:List PV} {ρ:bR} {S S':aI} (e:cE G g me xs ρ S=.ok zs S'):gJ G S:=by
 cases xs with
 | nil =>
  unfold cE at e;split at e
  ·assumption
  ·cases e
 | cons x r =>
  unfold cE at e;split at e
  ·assumption
  ·cases e
section
variable {K:PySem.W.Frag} {cl:Str→Addr} {E:XK} {X:Cx} {p q:Ph} {H H':Hp} {S:aI}
theorem Ah {ρ:bR} {σ:St} {own:List Str} {cap:List (Nat × Str)} (h:dB K p H ρ σ):dB K p H (cO own cap ρ) (hV own cap σ):=by
 refine ⟨by unfold cO hV; simp,fun i v e=>?_⟩;unfold cO at e;unfold hV
 by_cases hi:i < own.length
 ·rw [List.getElem?_append_left (by simpa using hi),List.getElem?_map,List.getElem?_eq_getElem hi] at e
  cases e
 ·rw [List.getElem?_append_right (by rw [List.length_map]; omega),List.getElem?_map,List.length_map] at e ⊢
  cases z:cap[i - own.length]? with
  | none=>rw [z] at e; cases e
  | some c =>
   rw [z] at e;have e:(ρ[c.1]?).join=some v:=Option.some.inj e;have e':ρ[c.1]?=some (some v):=by
    cases y:ρ[c.1]? with
    | none=>rw [y] at e; cases e
    | some o=>rw [y] at e; exact congrArg some e
   obtain ⟨x,e1,e2⟩:=h.at_ c.1 v e';refine ⟨x,?_,e2⟩;show some ((σ[c.1]?).join)=some (some x);rw [e1];rfl
def Ph.res (p:Ph) (D:Addr):Ph:=⟨p.f,fun a=>p.w a∨a=D,fun a=>p.c a∨a=D⟩
def Ph.hold (p:Ph) (D:Addr):Ph:=⟨p.f,fun a=>p.w a∧a≠D,p.c⟩
def Ph.less (p:Ph) (D:Addr):Ph:=⟨p.f,fun a=>p.w a∧a≠D,fun a=>p.c a∧a≠D⟩
theorem aU.notin (s:aU K p S H) {D:Addr} (h:H D=none):¬ p.c D:=fun c=>by
 obtain ⟨o,e,_⟩:=s.mu D c;rw [h] at e;cases e
theorem aU.res (s:aU K p S H) {D:Addr} {o:HO} (h:H D=none) (mo:Mb o):bM p H (p.res D) (aT H D o)∧aU K (p.res D) S (aT H D o):=by
 have st:bM p H (p.res D) (aT H D o):=⟨s.wc,s.mu,List.prefix_rfl,fun a h=>.inl h,fun a h=>.inl h,fun a h g=>absurd h g,fun a x n=>x.elim (fun z=>absurd z n) (fun z=>by rw [z]; exact h),fun a x n=>x.elim (fun z=>absurd z n) (fun z=>by rw [z]; exact h),fun a u e _=>by
  rw [bP (fF e h)];exact e⟩
 refine ⟨st,s.nd,s.len,fun a h=>.inl (s.sub a h),fun a x=>x.elim (fun z=>.inl (s.wc a z)) .inr,fun a x=>?_,fun k a u e1 e2=>?_⟩
 ·by_cases z:a=D
  ·rw [z,eN]
   exact ⟨o,rfl,mo⟩
  ·rw [bP z]
   exact s.mu a (x.elim id fun y=>absurd y z)
 ·exact (s.obj k a u e1 e2).mono (fun vs e=>by rw [bP (fF e h)]; exact e) (fun b w f=>⟨⟨.inl w,f⟩,fun vs e=>by rw [bP (fF e h)]; exact e⟩) fun _ _ r=>st.reps r
theorem aU.resHold (s:aU K p S H) {D:Addr} {o:HO} (h:H D=none) (mo:Mb o):aU K ((p.res D).hold D) S (aT H D o):=by
 obtain ⟨st,sm⟩:=s.res (o:=o) h mo;have ne:∀ a,p.w a→a≠D:=fun a w z=>s.notin h (z ▸ s.wc a w);refine ⟨sm.nd,sm.len,fun a m=>⟨sm.sub a m,ne a (s.sub a m)⟩,fun a x=>sm.wc a x.1,sm.mu,fun k a u e1 e2=>?_⟩;exact (s.obj k a u e1 e2).mono (fun vs e=>by rw [bP (fF e h)]; exact e) (fun b w f=>⟨⟨⟨.inl w,ne b w⟩,f⟩,fun vs e=>by rw [bP (fF e h)]; exact e⟩) fun _ _ r=>st.reps r
theorem bM.unhold {D:Addr} (h:p.w D) (st:bM (p.hold D) H q H') (s:aU K p S H):bM p H ⟨q.f,fun a=>q.w a∨a=D,q.c⟩ H' :=
 ⟨s.wc,s.mu,st.pre,fun a x=>by
  by_cases z:a=D
  ·exact .inr z
  ·exact .inl (st.mw a ⟨x,z⟩),st.mono,st.nf,fun a x n=>by
  rcases x with x | x
  ·exact st.nw a x fun z=>n z.1
  ·exact absurd (x ▸ h) n,st.nc,fun a o e n=>st.keep a o e fun z=>n z.1⟩
theorem aU.grow {D:Addr} {ys:List V} {o:HO} (s:aU K p S H) (sh:aU K (p.hold D) S H) (w:p.w D) (n:D ∉ p.f) (mo:Mb o):bM p H p (aT H D o)∧aU K p S (aT H D o)∧aU K (p.hold D) S (aT H D o):=by
 have st:bM p H p (aT H D o):=⟨s.wc,s.mu,List.prefix_rfl,fun _ h=>h,fun _ h=>h,fun _ h g=>absurd h g,fun _ h g=>absurd h g,fun _ h g=>absurd h g,fun a u e nw=>by
  rw [bP (fun z:a=D=>nw (by rw [z]; exact w))];exact e⟩
 have hm:∀ a,p.c a→∃ u,aT H D o a=some u∧Mb u:=fun a x=>by
  by_cases z:a=D
  ·rw [z,eN]
   exact ⟨o,rfl,mo⟩
  ·rw [bP z]
   exact s.mu a x
 refine ⟨st,⟨s.nd,s.len,s.sub,s.wc,hm,fun k a u e1 e2=>?_⟩,⟨sh.nd,sh.len,sh.sub,sh.wc,hm,fun k a u e1 e2=>?_⟩⟩
 ·have ne:a≠D:=fun z=>n (z ▸ List.mem_of_getElem? e1)
  exact (sh.obj k a u e1 e2).mono (fun vs e=>by rw [bP ne]; exact e) (fun b w f=>⟨⟨w.1,f⟩,fun vs e=>by rw [bP w.2]; exact e⟩) fun _ _ r=>st.reps r
 ·have ne:a≠D:=fun z=>n (z ▸ List.mem_of_getElem? e1)
  exact (sh.obj k a u e1 e2).mono (fun vs e=>by rw [bP ne]; exact e) (fun b w f=>⟨⟨w,f⟩,fun vs e=>by rw [bP w.2]; exact e⟩) fun _ _ r=>st.reps r
theorem aU.toLess {D:Addr} (s:aU K (p.hold D) S H):aU K (p.less D) S H :=
 ⟨s.nd,s.len,s.sub,fun a h=>⟨s.wc a h,h.2⟩,fun a h=>s.mu a h.1,fun k a o e1 e2 =>
  (s.obj k a o e1 e2).mono (fun _ e=>e) (fun b w f=>⟨⟨w,f⟩,fun _ e=>e⟩) fun _ _ r=>nQ (fun a h=>h.1) r⟩
theorem bM.toLess {D:Addr} (st:bM p H q H') (h:H D=none):bM p H (q.less D) H':=by
 have nD:∀ a,p.c a→a≠D:=fun a c z=>by
  obtain ⟨o,e,_⟩:=st.mu a c;rw [z,h] at e;cases e
 exact ⟨st.wc,st.mu,st.pre,fun a x=>⟨st.mw a x,nD a (st.wc a x)⟩,fun a x=>⟨st.mono a x,nD a x⟩,st.nf,fun a x=>st.nw a x.1,fun a x=>st.nc a x.1,st.keep⟩
variable {sc:Scope} {own:List Str} {cap:List (Nat × Str)} {elt target iter:Expr} {pos:Pos} {mi:MI} {g:GM} {me:ME}
theorem Lr {σ:St} {ρ:bR} {xs zs:List PV} {G:Gd} {J:It} {Q:VK} {D:Addr} {S2:aI} (sm:aU K p S H) (ev:dB K p H ρ σ) (it:eT K p H (xs,G) J) (z:cE G g me xs (cO own cap ρ) S=.ok zs S2) (hD:H D=none)
  (k:∀ q H' vs,bM p H q H'→aU K q S2 H'→aU K (q.hold D) S2 H'→q.w D→D ∉ q.f→H' D=some (.lst vs)→vs.length≤sizeLine→aM K q.c H' zs vs→Q (.ref D) H') :
  vQ J (gP K g) (tP K cl E0 (bV K) me) (hV own cap σ) H D Q:=by
 obtain ⟨st0,sm0⟩:=sm.res (D:=D) (o:=.lst []) hD trivial;have sh0:=sm.resHold (D:=D) (o:=.lst []) hD trivial;have nf0:D ∉ p.f:=fun h=>sm.notin hD (sm.wc D (sm.sub D h));refine Oy xs.length it.1 (fun i σ1 H1 ys=>ys.length=i∧i≤xs.length∧H1 D=some (.lst ys)∧∃ p1 S1 ρ1 us ws,(aU K p1 S1 H1∧aU K (p1.hold D) S1 H1)∧bM p H p1 H1∧p1.w D∧D ∉ p1.f∧dB K p1 H1 ρ1 σ1∧eT K p1 H1 (xs,G) J∧gJ G S1∧aM K p1.c H1 us ys∧zs=us++ws∧cE G g me (xs.drop i) ρ1 S1=.ok ws S2) ?_ ?_ ?_ ?_ ?_
 ·refine ⟨rfl,Nat.zero_le _,eN,p.res D,S,cO own cap ρ,[],zs,⟨sm0,sh0⟩,st0,.inr rfl,nf0,Ah (st0.repE ev),it.step st0,?_,.nil,rfl,by simpa using z⟩
  exact Th z
 ·rintro i σ1 H1 ys ⟨h1,_,h2,_⟩
  exact ⟨h1,h2⟩
 ·rintro i σ1 H1 ys hi ⟨_,_,_,p1,S1,ρ1,us,ws,⟨sm1,sh1⟩,st1,w1,f1,ev1,it1,g1,_⟩
  exact ((it1.2 p1 H1 S1 sm1.step sm1 g1).1 i xs[i] (List.getElem?_eq_getElem hi)).1
 ·rintro i σ1 H1 ys x H2 hi ⟨hl,_,hH,p1,S1,ρ1,us,ws,⟨sm1,sh1⟩,st1,w1,f1,ev1,it1,g1,r1,e1,c1⟩ hy
  obtain ⟨same,rx⟩:=((it1.2 p1 H1 S1 sm1.step sm1 g1).1 i xs[i] (List.getElem?_eq_getElem hi)).2 x H2 hy;rw [List.drop_eq_getElem_cons hi] at c1;unfold cE at c1;rw [if_pos g1] at c1;split at c1
  ·cases c1
  ·rename_i ρ2 gz
   split at c1
   ·rename_i y S3 mz
    split at c1
    ·rename_i vs S4 cz
     cases c1;have st2:=sm1.same same;have sm2:=sm1.ofSame same;have smh:=sh1.ofSame same;have stS:bM p H p1 H2:=st1.trans st2;refine ⟨p1,S1,ρ1,xs[i],ρ2,sm2,st2.repE ev1,rx,gz,fun σ3 ev3=>⟨p1.hold D,S1,ρ2,smh,⟨ev3.len,ev3.at_⟩,?_⟩⟩;rw [mz];intro q H4 y' st4 sm4 ry;have hD2:H2 D=some (.lst ys):=same _ _ hH;have hD4:H4 D=some (.lst ys):=st4.keep D _ hD2 fun z=>z.2 rfl;have fq:D ∉ q.f:=fun h=>by
      have:=st4.nf D h f1;rw [hD2] at this;cases this
     have stU:=bM.unhold w1 st4 sm2;have nq:¬ q.w D:=fun z=>by
      have:=st4.nw D z fun y=>y.2 rfl;rw [hD2] at this;cases this
     have smU:aU K ⟨q.f,fun a=>q.w a∨a=D,q.c⟩ S3 H4:=⟨sm4.nd,sm4.len,fun a h=>.inl (sm4.sub a h),fun a h=>h.elim (sm4.wc a) fun z=>z ▸ st4.mono D (sm2.wc D w1),sm4.mu,fun k a o e1 e2 =>
      (sm4.obj k a o e1 e2).mono (fun _ e=>e) (fun b w f=>⟨⟨.inl w,f⟩,fun _ e=>e⟩) fun _ _ r=>r⟩
     have shU:aU K (Ph.hold ⟨q.f,fun a=>q.w a∨a=D,q.c⟩ D) S3 H4:=⟨sm4.nd,sm4.len,fun a h=>⟨.inl (sm4.sub a h),fun z=>nq (z ▸ sm4.sub a h)⟩,fun a h=>smU.wc a h.1,sm4.mu,fun k a o e1 e2 =>
      (sm4.obj k a o e1 e2).mono (fun _ e=>e) (fun b w f=>⟨⟨⟨.inl w,fun z=>nq (z ▸ w)⟩,f⟩,fun _ e=>e⟩) fun _ _ r=>r⟩
     obtain ⟨stG,smG,shG⟩:=smU.grow (ys:=ys) (D:=D) (o:=.lst (ys++[y'])) shU (.inr rfl) fq trivial;have stA:=st2.trans (stU.trans stG);refine R8 hi hD4 ⟨by rw [List.length_append,hl]; rfl,hi,eN,_,S3,ρ2,us++[y],vs,⟨smG,shG⟩,st1.trans stA,.inr rfl,fq,stG.repE (stU.repE ev3),it1.step stA,Th cz,?_,by rw [e1,List.append_assoc]; rfl,cz⟩;exact (stA.reps r1).append (.cons (stG.rep ry) .nil)
    ·cases c1
   ·cases c1
 ·rintro σ1 H1 ys ⟨hl,_,hH,p1,S1,ρ1,us,ws,⟨sm1,sh1⟩,st1,w1,f1,ev1,it1,g1,r1,e1,c1⟩
  rw [List.drop_length] at c1;unfold cE at c1;rw [if_pos g1] at c1;cases c1;refine ⟨(it1.2 p1 H1 _ sm1.step sm1 g1).2,?_⟩;rw [List.append_nil] at e1;subst e1;exact k p1 H1 ys st1 sm1 sh1 w1 f1 hH (by rw [hl]; exact it.1) r1
theorem xY {σ:St} {ρ:bR} {xs:List PV × Gd} {J:It} {Q:VK} {D:Addr} (sm:aU K p S H) (ev:dB K p H ρ σ) (it:eT K p H xs J) (k:bS K cl (bV K) p H ((cE xs.2 g me xs.1 (cO own cap ρ) S).bind fun ys S2=>.ok (.pv (.lst ys)) S2) Q E) (hD:H D=none) :
  vQ J (gP K g) (tP K cl E0 (bV K) me) (hV own cap σ) H D Q:=by
 cases z:cE xs.2 g me xs.1 (cO own cap ρ) S with
 | fail=>rw [z] at k; exact k.elim
 | exc n S'=>exact absurd z (Vp _ _ _ _ _)
 | ok zs S2 =>
  rw [z] at k;have k:∀ q H' x,bM p H q H'→aU K q S2 H'→aL K q.c H' (.lst zs) x→Q x H':=k;refine Lr sm ev it z hD fun q H' vs st1 sm1 sh1 w1 f1 hH l1 r1=>?_;refine k (q.less D) H' (.ref D) (st1.toLess hD) sh1.toLess ?_;unfold aL;exact ⟨D,vs,rfl,.inl ⟨hH,fun z=>z.2 rfl⟩,l1,nQ (fun a h=>h.1) r1⟩
theorem Gz (k:gI X sc own cap) (hi:gU K cl E X target iter mi) (hc:X.calm=true) (hg:∀ C s₀ H₀ ex,kJ K (dX X sc (cB own cap) C s₀ H₀ ex) target g) (he:∀ C s₀ H₀ ex,aW K cl E0 (dX X sc (cB own cap) C s₀ H₀ ex) elt me)
  (hs:∀ x,foldedSetIterable iter X.env x=pure x:=by intro _; rfl):aW K cl E X (.ListComp elt [⟨target,iter,[],0⟩] sc pos) (bB own cap mi g me):=by
 intro hK;refine PE.imp (Vz k (hi hK) hc (fun C s₀ H₀ ex=>hg C s₀ H₀ ex hK) (fun C s₀ H₀ ex=>he C s₀ H₀ ex hK) hs) fun σ H Q ⟨p,S,ρ,s,ev,h⟩=>?_;exact cC s ev h fun q H' xs J S' stp sm ev it kk D hD=>xY sm ev it kk hD
theorem Pu {i:Nat} {x:Str} {py spos:Pos} (hN:X.N.Nodup) (hx:X.N[i]?=some x) (hl:mG X.env.scope x) (k:gI X sc own cap) (hi:gU K cl E X target iter mi) (hc:X.calm=true) (hg:∀ C s₀ H₀ ex,kJ K (dX X sc (cB own cap) C s₀ H₀ ex) target g) (he:∀ C s₀ H₀ ex,aW K cl E0 (dX X sc (cB own cap) C s₀ H₀ ex) elt me)
  (hs:∀ x,foldedSetIterable iter X.env x=pure x:=by intro _; rfl) (hsw:swapsWith (.ListComp elt [⟨target,iter,[],0⟩] sc pos) (some (.Name x py)) spos.line X.env=pure true:=by rfl)
  (hf:X.fn x=true∨X.env.scope.names.lookup x=some .local:=by first | exact .inl rfl | exact .inr rfl | assumption) :
  eJ K cl E X (.Assign [.Name x py] (.ListComp elt [⟨target,iter,[],0⟩] sc pos) spos) (aK i (bB own cap mi g me)):=by
 intro hK;refine PS.imp (My hN hx hl k (hi hK) hc (fun C s₀ H₀ ex=>hg C s₀ H₀ ex hK) (fun C s₀ H₀ ex=>he C s₀ H₀ ex hK) hs hsw hf) fun D σ H ⟨p,S,ρ,s,ev,h⟩=>?_;have h2:tP K cl E (bV K) (bB own cap mi g me) σ H fun y H1=>D.nx (σ.set i (some y)) H1:=by
  refine ⟨p,S,ρ,s,ev,?_⟩;unfold aK at h;cases z:bB own cap mi g me ρ S with
  | ok v S1 =>
   rw [z] at h;exact fun q H' y st sm r=>h q H' _ st sm ((st.repE ev).set r i)
  | exc n S1=>rw [z] at h; exact h
  | fail=>rw [z] at h; exact h
 obtain ⟨p,S,ρ,s,ev,h⟩:=h2;exact cC s ev h fun q H' xs J S' stp sm ev it kk B hB=>xY sm ev it kk hB
end
end L2.Pp
namespace L2.Pp
open PySem PySem.Spec PyProof.Rows Bn
def kP:List (Option Bool)→Option (List Bool)
 | []=>some []
 | some b :: r=>match kP r with
  | some bs=>some (b :: bs)
  | none=>none
 | none :: _=>none
theorem Le:∀ {l:List (Option Bool)} {bs:List Bool},kP l=some bs→bs.length=l.length
 | [],_,e=>by cases e; rfl
 | some b :: r,bs,e=>by
  unfold kP at e;split at e
  ·rename_i cs h
   cases e;rw [List.length_cons,List.length_cons,Le h]
  ·cases e
 | none :: r,_,e=>by cases e
theorem xD:∀ {l:List (Option Bool)} {bs:List Bool} {i:Nat} {o:Option Bool},kP l=some bs→l[i]?=some o→∃ b,o=some b∧bs[i]?=some b
 | [],_,i,o,_,h=>by simp at h
 | some b :: r,bs,i,o,e,h=>by
  unfold kP at e;split at e
  ·rename_i cs h'
   cases e;cases i with
   | zero =>
    simp at h;exact ⟨b,h.symm,rfl⟩
   | succ i=>simpa using xD h' (by simpa using h)
  ·cases e
 | none :: r,_,_,_,e,_=>by cases e
def aS:Nat→PV→PV→Option Bool
 | _,.non,.non=>some true
 | _,.bl a,.bl b=>some (a == b)
 | _,.int a,.int b=>some (a == b)
 | _,.str a,.str b=>some (a == b)
 | n+1,.tup xs,.tup ys=>match kP (List.zipWith (aS n) xs ys) with
  | some bs=>some (bs.all id && xs.length == ys.length)
  | none=>none
 | n+1,.lst xs,.lst ys=>if xs.length=ys.length then (match kP (List.zipWith (aS n) xs ys) with
  | some bs=>some (bs.all id)
  | none=>none) else some false
 | _,_,_=>none
theorem tI (bs:List Bool):((List.range bs.length).all fun j=>bs.getD j true)=bs.all id:=by
 rw [Bool.eq_iff_iff,List.all_eq_true,List.all_eq_true];constructor
 ·intro h b hb
  obtain ⟨j,hj,e⟩:=List.getElem_of_mem hb;have:=h j (by simpa using hj);simpa [List.getD,hj,e] using this
 ·intro h j hj
  have hj:j < bs.length:=by simpa using hj
  have:=h bs[j] (List.getElem_mem hj);simpa [List.getD,hj] using this
section
variable {X:Cx} {pins:List (Addr × Obj)} {σ:St} {H:Hp} {s:Shared} {c:Addr→Prop}
theorem tM {n:Nat} {xs ys:List PV} {vs ws:List V} {its jts:List Value} {bs:List Bool} {A:Around}
  (ih:∀ (v w:PV) (x y:V) (u u':Value) (b:Bool),aL X.K c H v x→aL X.K c H w y→bQ x u→bQ y u'→aS n v w=some b→SeqAt.EqAt A s u u' b)
  (r1:aM X.K c H xs vs) (r2:aM X.K c H ys ws) (q1:bC vs its) (q2:bC ws jts) (e:kP (List.zipWith (aS n) xs ys)=some bs) :
  ∀ j (h1:j < its.toArray.size) (h2:j < jts.toArray.size),SeqAt.EqAt A s its.toArray[j] jts.toArray[j] (bs.getD j true):=fun j h1 h2=>by
 have l1:=r1.length.trans q1.length;have l2:=r2.length.trans q2.length;have g1:j < xs.length:=by rw [l1]; simpa using h1
 have g2:j < ys.length:=by rw [l2]; simpa using h2
 obtain ⟨x,ex,rx⟩:=r1.get (List.getElem?_eq_getElem g1);obtain ⟨y,ey,ry⟩:=r2.get (List.getElem?_eq_getElem g2);obtain ⟨u,eu,ru⟩:=q1.get ex;obtain ⟨u',eu',ru'⟩:=q2.get ey;have hz:(List.zipWith (aS n) xs ys)[j]?=some (aS n xs[j] ys[j]):=by
  rw [List.getElem?_zipWith,List.getElem?_eq_getElem g1,List.getElem?_eq_getElem g2]
 obtain ⟨b,eb,eb'⟩:=xD e hz;have e1:its.toArray[j]=u:=by
  rw [List.getElem_toArray];rw [List.getElem?_eq_getElem (by simpa using h1)] at eu;exact Option.some.inj eu
 have e2:jts.toArray[j]=u':=by
  rw [List.getElem_toArray];rw [List.getElem?_eq_getElem (by simpa using h2)] at eu';exact Option.some.inj eu'
 rw [e1,e2];have e3:bs.getD j true=b:=by simp [List.getD,eb']
 rw [e3];exact ih _ _ _ _ _ _ _ rx ry ru ru' eb
theorem rH {n:Nat} {xs ys:List PV} {bs:List Bool} (e:kP (List.zipWith (aS n) xs ys)=some bs):bs.length=min xs.length ys.length:=by
 rw [Le e,List.length_zipWith]
theorem Hf (n:Nat) (v w:PV) (x:V) (b:Bool) (nt:∀ xs,v≠.tup xs) (nl:∀ xs,v≠.lst xs) (h:aL X.K c H v x) (g:aL X.K c H w x) (e:aS n v w=some b):b=true:=by
 cases v with
 | tup xs=>exact absurd rfl (nt xs)
 | lst xs=>exact absurd rfl (nl xs)
 | non =>
  cases w <;> first | (unfold aS at e; simp at e; done) | skip
  unfold aS at e; cases e; rfl
 | bl i =>
  cases w <;> first | (unfold aS at e; simp at e; done) | skip
  unfold aL at h g; subst h; injection g with g'; subst g'; unfold aS at e; cases e; exact beq_self_eq_true _
 | int i =>
  cases w <;> first | (unfold aS at e; simp at e; done) | skip
  unfold aL at h g; subst h; injection g with g'; subst g'; unfold aS at e; cases e; exact beq_self_eq_true _
 | str i =>
  cases w <;> first | (unfold aS at e; simp at e; done) | skip
  unfold aL at h g; subst h; injection g with g'; subst g'; unfold aS at e; cases e; exact beq_self_eq_true _
theorem Bh (I:aG X pins σ H s):∀ (n:Nat) (v w:PV) (x:V) (b:Bool),aL X.K c H v x→aL X.K c H w x→aS n v w=some b→b=true:=by
 intro n
 induction n with
 | zero =>
  intro v w x b h g e;cases v with
  | tup xs=>unfold aS at e; simp at e
  | lst xs=>unfold aS at e; simp at e
  | _=>exact Hf 0 _ w x b (by intro _ z; cases z) (by intro _ z; cases z) h g e
 | succ n ih =>
  have items:∀ (xs ys:List PV) (vs:List V) (bs:List Bool),aM X.K c H xs vs→aM X.K c H ys vs→kP (List.zipWith (aS n) xs ys)=some bs→bs.all id=true∧xs.length=ys.length:=fun xs ys vs bs r1 r2 e=>by
   have ll:=r1.length.trans r2.length.symm;refine ⟨?_,ll⟩;rw [List.all_eq_true];intro b hb;obtain ⟨j,hj,ej⟩:=List.getElem_of_mem hb;have hj':=hj;rw [rH e] at hj';have g1:j < xs.length:=by omega
   have g2:j < ys.length:=by omega
   obtain ⟨x,ex,rx⟩:=r1.get (List.getElem?_eq_getElem g1);obtain ⟨y,ey,ry⟩:=r2.get (List.getElem?_eq_getElem g2);have:=ex.symm.trans ey;cases this;have hz:(List.zipWith (aS n) xs ys)[j]?=some (aS n xs[j] ys[j]):=by
    rw [List.getElem?_zipWith,List.getElem?_eq_getElem g1,List.getElem?_eq_getElem g2]
   obtain ⟨b',eb,eb'⟩:=xD e hz;rw [List.getElem?_eq_getElem hj,ej] at eb';cases eb';exact ih _ _ _ _ rx ry eb
  intro v w x b h g e;cases v with
  | tup xs =>
   cases w with
   | tup ys =>
    unfold aL at h g;obtain ⟨a,vs,rfl,t1,_,r1⟩:=h;obtain ⟨a',ws,e1,t2,_,r2⟩:=g;cases e1;have:=I.tuple_inj t1 t2;subst this;unfold aS at e;split at e
    ·rename_i bs hb
     obtain ⟨z1,z2⟩:=items xs ys vs bs r1 r2 hb;rw [z1,z2,beq_self_eq_true] at e;cases e;rfl
    ·cases e
   | _=>unfold aS at e; simp at e
  | lst xs =>
   cases w with
   | lst ys =>
    unfold aL at h g;obtain ⟨a,vs,rfl,t1,_,r1⟩:=h;obtain ⟨a',ws,e1,t2,_,r2⟩:=g;cases e1;have:=I.list_inj t1.sq t2.sq;subst this;unfold aS at e;rw [if_pos (r1.length.trans r2.length.symm)] at e;split at e
    ·rename_i bs hb
     obtain ⟨z1,z2⟩:=items xs ys vs bs r1 r2 hb;rw [z1] at e;cases e;rfl
    ·cases e
   | _=>unfold aS at e; simp at e
  | _=>exact Hf (n+1) _ w x b (by intro _ z; cases z) (by intro _ z; cases z) h g e
theorem Nm (I:aG X pins σ H s):∀ (n:Nat) (v w:PV) (x y:V) (u u':Value) (b:Bool) (A:Around),A.units+n < cLine→aL X.K c H v x→aL X.K c H w y→bQ x u→bQ y u'→aS n v w=some b→SeqAt.RcAt A s u u' b∧SeqAt.EqAt A s u u' b:=by
 have flat:∀ (n:Nat) (v w:PV) (x y:V) (u u':Value) (b:Bool) (A:Around),(∀ xs,v≠.tup xs)→(∀ xs,v≠.lst xs)→aL X.K c H v x→aL X.K c H w y→bQ x u→bQ y u'→aS n v w=some b→SeqAt.RcAt A s u u' b∧SeqAt.EqAt A s u u' b:=by
  intro n v w x y u u' b A nt nl h g r r' e;cases v with
  | tup xs=>exact absurd rfl (nt xs)
  | lst xs=>exact absurd rfl (nl xs)
  | non =>
   cases w <;> first | (unfold aS at e; simp at e; done) | skip
   unfold aL at h g; subst h g; cases r; cases r'; unfold aS at e; cases e; exact ⟨SeqAt.RcAt.none_none,SeqAt.EqAt.same _⟩
  | bl i =>
   cases w <;> first | (unfold aS at e; simp at e; done) | skip
   unfold aL at h g; subst h g; cases r; cases r'; unfold aS at e; cases e; exact ⟨SeqAt.RcAt.bool_bool _ _,SeqAt.EqAt.bool_bool _ _⟩
  | int i =>
   cases w <;> first | (unfold aS at e; simp at e; done) | skip
   unfold aL at h g; subst h g; obtain ⟨t,rfl⟩:=r; obtain ⟨t',rfl⟩:=r'; unfold aS at e; cases e; exact ⟨SeqAt.RcAt.int_int _ _ _ _,SeqAt.EqAt.int_int _ _ _ _⟩
  | str i =>
   cases w <;> first | (unfold aS at e; simp at e; done) | skip
   unfold aL at h g; subst h g; obtain ⟨t,rfl⟩:=r; obtain ⟨t',rfl⟩:=r'; unfold aS at e; cases e; exact ⟨SeqAt.RcAt.str_str _ _ _ _,SeqAt.EqAt.str_str _ _ _ _⟩
 have main:∀ (n:Nat) (v w:PV) (x y:V) (u u':Value) (b:Bool) (A:Around),A.units+n < cLine→aL X.K c H v x→aL X.K c H w y→bQ x u→bQ y u'→aS n v w=some b→SeqAt.RcAt A s u u' b∧SeqAt.EqAt A s u u' b:=by
  intro n
  induction n with
  | zero =>
   intro v w x y u u' b A hu h g r r' e;cases v with
   | tup xs=>unfold aS at e; simp at e
   | lst xs=>unfold aS at e; simp at e
   | _=>exact flat 0 _ w x y u u' b A (by intro _ z; cases z) (by intro _ z; cases z) h g r r' e
  | succ n ih =>
   intro v w x y u u' b A hu h g r r' e;have hin:A.in1.units+n < cLine:=by show A.units+1+n < cLine; omega
   cases v with
   | tup xs =>
    cases w with
    | tup ys =>
     have hs:x=y→b=true:=fun z=>Bh I (n+1) _ _ x b h (z ▸ g) e;unfold aL at h g;obtain ⟨a,vs,rfl,t1,_,r1⟩:=h;obtain ⟨a',ws,rfl,t2,_,r2⟩:=g;cases r;cases r';obtain ⟨its,q1,p1,_⟩:=I.tuple t1;obtain ⟨jts,q2,p2,_⟩:=I.tuple t2;unfold aS at e;split at e
     ·rename_i bs hb
      cases e;have z:=SeqAt.RcAt.tuples (A:=A) (s:=s) (e:=fun j=>bs.getD j true) (show s.heap.IsTuple a its.toArray from p1) (show s.heap.IsTuple a' jts.toArray from p2) (by omega)
       (tM (A:=A.in1) (fun v w x y u u' b h1 h2 h3 h4 h5=>(ih v w x y u u' b A.in1 hin h1 h2 h3 h4 h5).2) r1 r2 q1 q2 hb)
      have l1:=r1.length.trans q1.length;have l2:=r2.length.trans q2.length;rw [List.size_toArray,List.size_toArray,← l1,← l2,← rH hb,tI] at z;refine ⟨z,?_⟩
      by_cases ha:a=a'
      ·subst ha
       rw [hs rfl];exact SeqAt.EqAt.same _
      ·exact SeqAt.EqAt.of_refs ha z
     ·cases e
    | _=>unfold aS at e; simp at e
   | lst xs =>
    cases w with
    | lst ys =>
     have hs:x=y→b=true:=fun z=>Bh I (n+1) _ _ x b h (z ▸ g) e;unfold aL at h g;obtain ⟨a,vs,rfl,t1,_,r1⟩:=h;obtain ⟨a',ws,rfl,t2,_,r2⟩:=g;cases r;cases r';obtain ⟨its,q1,p1,_⟩:=I.list t1.sq;obtain ⟨jts,q2,p2,_⟩:=I.list t2.sq;have l1:=r1.length.trans q1.length;have l2:=r2.length.trans q2.length;have fin:SeqAt.RcAt A s (.ref a) (.ref a') b→SeqAt.RcAt A s (.ref a) (.ref a') b∧SeqAt.EqAt A s (.ref a) (.ref a') b:=fun z=>by
      refine ⟨z,?_⟩
      by_cases ha:a=a'
      ·subst ha
       rw [hs rfl];exact SeqAt.EqAt.same _
      ·exact SeqAt.EqAt.of_refs ha z
     unfold aS at e;split at e
     ·rename_i hl
      split at e
      ·rename_i bs hb
       cases e;have z:=SeqAt.RcAt.lists (A:=A) (s:=s) (e:=fun j=>bs.getD j true) p1.isList p2.isList (by rw [List.size_toArray,List.size_toArray]; omega) (by omega)
        (tM (A:=A.in1) (fun v w x y u u' b h1 h2 h3 h4 h5=>(ih v w x y u u' b A.in1 hin h1 h2 h3 h4 h5).2) r1 r2 q1 q2 hb)
       have hm:its.length=bs.length:=by rw [rH hb]; omega
       rw [List.size_toArray,hm,tI] at z;exact fin z
      ·cases e
     ·rename_i hl
      cases e;exact fin (SeqAt.RcAt.lists_lengths p1.isList p2.isList (by rw [List.size_toArray,List.size_toArray]; simp; omega) (by omega))
    | _=>unfold aS at e; simp at e
   | _=>exact flat (n+1) _ w x y u u' b A (by intro _ z; cases z) (by intro _ z; cases z) h g r r' e
 exact main
end
end L2.Pp
namespace L2.Pp
noncomputable section
open PySem PySem.Spec PyProof.Rows Bn
section
variable {X:Cx}
theorem Mn {pins:List (Addr × Obj)} {σ:St} {H:Hp} {s:Shared} (I:aG X pins σ H s) {p:Ph} {v w:PV} {x y:V} {u u':Value} {b:Bool} {A:Around} (hu:A.units+8 < cLine) (h:eX X.K p H v x) (g:eX X.K p H w y) (r:bQ x u) (r':bQ y u') (e:aS 8 v w=some b) :
  SeqAt.RcAt A s u u' b∧SeqAt.RcNeAt A s u u' (!b):=by
 have hin:A.in1.units+7 < cLine:=by show A.units+1+7 < cLine; omega
 cases v with
 | non =>
  cases w <;> first | (unfold aS at e; simp at e; done) | skip
  have h:=h.non; have g:=g.non; subst h g; cases r; cases r'; unfold aS at e; cases e; exact ⟨SeqAt.RcAt.none_none,SeqAt.RcNeAt.none_none⟩
 | bl i =>
  cases w <;> first | (unfold aS at e; simp at e; done) | skip
  have h:=h.bl; have g:=g.bl; subst h g; cases r; cases r'; unfold aS at e; cases e; exact ⟨SeqAt.RcAt.bool_bool _ _,SeqAt.RcNeAt.bool_bool _ _⟩
 | int i =>
  cases w <;> first | (unfold aS at e; simp at e; done) | skip
  have h:=h.int; have g:=g.int; subst h g; obtain ⟨t,rfl⟩:=r; obtain ⟨t',rfl⟩:=r'; unfold aS at e; cases e; exact ⟨SeqAt.RcAt.int_int _ _ _ _,SeqAt.RcNeAt.int_int _ _ _ _⟩
 | str i =>
  cases w <;> first | (unfold aS at e; simp at e; done) | skip
  have h:=h.str; have g:=g.str; subst h g; obtain ⟨t,rfl⟩:=r; obtain ⟨t',rfl⟩:=r'; unfold aS at e; cases e; exact ⟨SeqAt.RcAt.str_str _ _ _ _,SeqAt.RcNeAt.str_str _ _ _ _⟩
 | tup xs =>
  cases w with
  | tup ys =>
   obtain ⟨a,vs,rfl,t1,_,r1⟩:=h.tup;obtain ⟨a',ws,rfl,t2,_,r2⟩:=g.tup;cases r;cases r';obtain ⟨its,q1,p1,_⟩:=I.tuple t1;obtain ⟨jts,q2,p2,_⟩:=I.tuple t2;unfold aS at e;split at e
   ·rename_i bs hb
    cases e;have it:=tM (s:=s) (A:=A.in1) (fun v w x y u u' b h1 h2 h3 h4 h5=>(Nm I 7 v w x y u u' b A.in1 hin h1 h2 h3 h4 h5).2) r1 r2 q1 q2 hb;have z:=SeqAt.RcAt.tuples (A:=A) (s:=s) (e:=fun j=>bs.getD j true) (show s.heap.IsTuple a its.toArray from p1) (show s.heap.IsTuple a' jts.toArray from p2) (by omega) it;have z':=SeqAt.RcNeAt.tuples (A:=A) (s:=s) (e:=fun j=>bs.getD j true) (show s.heap.IsTuple a its.toArray from p1) (show s.heap.IsTuple a' jts.toArray from p2) (by omega) it;have l1:=r1.length.trans q1.length;have l2:=r2.length.trans q2.length;rw [List.size_toArray,List.size_toArray,← l1,← l2,← rH hb,tI] at z z';exact ⟨z,z'⟩
   ·cases e
  | _=>unfold aS at e; simp at e
 | lst xs =>
  cases w with
  | lst ys =>
   obtain ⟨a,vs,rfl,t1,_,r1⟩:=h.lst;obtain ⟨a',ws,rfl,t2,_,r2⟩:=g.lst;cases r;cases r';obtain ⟨its,q1,p1,_⟩:=I.list t1;obtain ⟨jts,q2,p2,_⟩:=I.list t2;have l1:=r1.length.trans q1.length;have l2:=r2.length.trans q2.length;unfold aS at e;split at e
   ·rename_i hl
    split at e
    ·rename_i bs hb
     cases e;have it:=tM (s:=s) (A:=A.in1) (fun v w x y u u' b h1 h2 h3 h4 h5=>(Nm I 7 v w x y u u' b A.in1 hin h1 h2 h3 h4 h5).2) r1 r2 q1 q2 hb;have z:=SeqAt.RcAt.lists (A:=A) (s:=s) (e:=fun j=>bs.getD j true) p1.isList p2.isList (by rw [List.size_toArray,List.size_toArray]; omega) (by omega) it;have z':=SeqAt.RcNeAt.lists (A:=A) (s:=s) (e:=fun j=>bs.getD j true) p1.isList p2.isList (by rw [List.size_toArray,List.size_toArray]; omega) (by omega) it;have hm:its.length=bs.length:=by rw [rH hb]; omega
     rw [List.size_toArray,hm,tI] at z z';exact ⟨z,z'⟩
    ·cases e
   ·rename_i hl
    cases e;exact ⟨SeqAt.RcAt.lists_lengths p1.isList p2.isList (by rw [List.size_toArray,List.size_toArray]; simp; omega) (by omega),SeqAt.RcNeAt.lists_lengths p1.isList p2.isList (by rw [List.size_toArray,List.size_toArray]; simp; omega) (by omega)⟩
  | _=>unfold aS at e; simp at e
def vE (K:PySem.W.Frag) (neg:Bool):R2:=fun x y H Q=>∃ p v w b,eX K p H v x∧eX K p H w y∧aS 8 v w=some b∧Q (.bl (if neg then !b else b)) H
theorem Dl (hu:X.A.units+8 < cLine):eF X (compareOp .Eq) (vE X.K false):=by
 intro pins s σ H x y v u Q I rx ry h;obtain ⟨p,a,b,k,h1,h2,e,q⟩:=h;exact (Mn I hu h1 h2 rx ry e).1 X.prog X.w X.xe _ ⟨.bl k,H,I,rfl,q⟩
theorem Xl (hu:X.A.units+8 < cLine):eF X (compareOp .NotEq) (vE X.K true):=by
 intro pins s σ H x y v u Q I rx ry h;obtain ⟨p,a,b,k,h1,h2,e,q⟩:=h;exact (Mn I hu h1 h2 rx ry e).2 X.prog X.w X.xe _ ⟨.bl (!k),H,I,rfl,q⟩
def bT (a b:PV):Option PV:=(aS 8 a b).map .bl
def kG (a b:PV):Option PV:=(aS 8 a b).map fun k=>.bl (!k)
theorem Co {K:PySem.W.Frag}:gD K (vE K false) bT:=fun {p S H a b c x y Q} s ra rb e k=>by
 unfold bT at e;cases z:aS 8 a b with
 | none=>rw [z] at e; cases e
 | some t =>
  rw [z] at e;cases e;exact ⟨p,a,b,t,ra,rb,z,k H _ (dP.refl H) (by unfold aL; rfl)⟩
theorem Wn {K:PySem.W.Frag}:gD K (vE K true) kG:=fun {p S H a b c x y Q} s ra rb e k=>by
 unfold kG at e;cases z:aS 8 a b with
 | none=>rw [z] at e; cases e
 | some t =>
  rw [z] at e;cases e;exact ⟨p,a,b,t,ra,rb,z,k H _ (dP.refl H) (by unfold aL; rfl)⟩
def i2 (f:Int→Int→Option PV):PV→PV→Option PV
 | .int a,.int b=>f a b
 | _,_=>none
open Classical in
def cI (C:Int→Int→Prop) (g:Int→Int→PV) (a b:Int):Option PV:=if C a b then some (g a b) else none
def wM:PV→V
 | .int i=>.int i
 | .bl b=>.bl b
 | .str s=>.str s
 | _=>.non
def Ta:PV→Bool
 | .int _=>true
 | .bl _=>true
 | .str _=>true
 | .non=>true
 | _=>false
theorem iE {K:PySem.W.Frag} {c:Addr→Prop} {H:Hp} {v:PV} (h:Ta v=true):aL K c H v (wM v):=by
 cases v with
 | tup _=>cases h
 | lst _=>cases h
 | _=>unfold aL wM; rfl
theorem vA {K:PySem.W.Frag} {C:Int→Int→Prop} {g:Int→Int→PV} {h:Int→Int→V} (fl:∀ i j,Ta (g i j)=true∧wM (g i j)=h i j):gD K (rI C h) (i2 (cI C g)):=fun {p S H a b c x y Q} s ra rb e k=>by
 cases a with
 | int i =>
  cases b with
  | int j =>
   unfold i2 cI at e;dsimp only at e;split at e
   ·rename_i hc
    cases e;refine ⟨i,j,ra.int,rb.int,hc,?_⟩;rw [← (fl i j).2];exact k H _ (dP.refl H) (iE (fl i j).1)
   ·cases e
  | _=>cases e
 | _=>cases e
theorem vR {K:PySem.W.Frag} {g:Int→Int→PV} {h:Int→Int→V} (fl:∀ i j,Ta (g i j)=true∧wM (g i j)=h i j):gD K (jB h) (i2 fun i j=>some (g i j)):=fun {p S H a b c x y Q} s ra rb e k=>by
 cases a with
 | int i =>
  cases b with
  | int j =>
   cases e;refine ⟨i,j,ra.int,rb.int,?_⟩;rw [← (fl i j).2];exact k H _ (dP.refl H) (iE (fl i j).1)
  | _=>cases e
 | _=>cases e
def pX (i j:Int):Prop:=Wb i j∨(Bd 1000000 i∧Bd 1000000 j)
theorem pX.ok {i j:Int} (h:pX i j):IntMulOk i j:=by
 rcases h with h | h
 ·exact h.ok
 have h1:=Pk h.1;have h2:=Pk h.2;unfold IntMulOk Builtin.Int.intTooBig bitsLine;intro c;simp only [Bool.and_eq_true,decide_eq_true_eq] at c;have:=c.2;omega
theorem A7:eF X (binaryOp .Mult) (rI pX fun i j=>.int (i*j)):=wD fun _ _ _ _ _ _ _ hc q=>mul_int q hc.ok
def bA:=i2 (cI pX fun i j=>.int (i*j))
def kB:=i2 (cI pS fun i j=>.int (i.fdiv j))
def eY:=i2 (cI (fun _ j=>j≠0) fun i j=>.int (i.fmod j))
def lX:=i2 (cI vN fun i j=>.int (i ^ j.toNat))
def cR:=i2 fun i j=>some (.int (i - j))
def kY:=i2 fun i j=>some (.bl (decide (i < j)))
def fLe:=i2 fun i j=>some (.bl (decide (i≤j)))
def eI:=i2 fun i j=>some (.bl (decide (j < i)))
def qM:=i2 fun i j=>some (.bl (decide (j≤i)))
theorem V5 {K:PySem.W.Frag}:gD K (rI pX fun i j=>.int (i*j)) bA:=vA fun _ _=>⟨rfl,rfl⟩
theorem C5 {K:PySem.W.Frag}:gD K (rI pS fun i j=>.int (i.fdiv j)) kB:=vA fun _ _=>⟨rfl,rfl⟩
theorem X6 {K:PySem.W.Frag}:gD K (rI (fun _ j=>j≠0) fun i j=>.int (i.fmod j)) eY:=vA fun _ _=>⟨rfl,rfl⟩
theorem R9 {K:PySem.W.Frag}:gD K (rI vN fun i j=>.int (i ^ j.toNat)) lX:=vA fun _ _=>⟨rfl,rfl⟩
theorem Q4 {K:PySem.W.Frag}:gD K (jB fun i j=>.int (i - j)) cR:=vR fun _ _=>⟨rfl,rfl⟩
theorem Vn {K:PySem.W.Frag}:gD K (jB fun i j=>.bl (decide (i < j))) kY:=vR fun _ _=>⟨rfl,rfl⟩
theorem Bo {K:PySem.W.Frag}:gD K (jB fun i j=>.bl (decide (j < i))) eI:=vR fun _ _=>⟨rfl,rfl⟩
theorem Eo {K:PySem.W.Frag}:gD K (jB fun i j=>.bl (decide (j≤i))) qM:=vR fun _ _=>⟨rfl,rfl⟩
def cK:PV→Option PV
 | .int i=>some (.int (-i))
 | _=>none
theorem Q5 {K:PySem.W.Frag}:vU K (rU fun i=>.int (-i)) cK:=fun {p S H a c x Q} s ra e k=>by
 cases a with
 | int i =>
  cases e;exact ⟨i,ra.int,k H _ (dP.refl H) (iE (v:=.int (-i)) rfl)⟩
 | _=>cases e
def En (K:PySem.W.Frag):R2:=fun x y H Q=>∃ l b xs zs,x=.ref l∧y=.ref b∧bY K H l xs∧bY K H b zs∧xs.length+zs.length≤sizeLine∧∀ p,H p=none→Q (.ref p) (aT H p (.lst (xs++zs)))
theorem By:eF X (binaryOp .Add) (En X.K):=by
 intro pins s σ H x y v u Q I rx ry h;obtain ⟨l,b,xs,zs,rfl,rfl,hx,hy,hz,q⟩:=h;cases rx;cases ry;obtain ⟨its,r1,p1,_⟩:=I.list hx;obtain ⟨jts,r2,p2,_⟩:=I.list hy;obtain ⟨⟨cls,dd,data,sl⟩,n,ho,hc,_,hd⟩:=p1;obtain ⟨⟨cls2,dd2,data2,sl2⟩,n2,ho2,hc2,_,hd2⟩:=p2;simp only at hc hd hc2 hd2;subst hc hd hc2 hd2;have e:its.toArray++jts.toArray=(its++jts).toArray:=by simp
 have l1:=r1.length;have l2:=r2.length;refine concat_meets ⟨_,ho,rfl⟩ ⟨_,ho2,rfl⟩ noFill_list_add seq_list_add PySem.F.slot_list_add PySem.F.entry_list_add (PySem.F.args_list_add_2 _ _) (list_addW l b its.toArray jts.toArray n n2 dd dd2 sl sl2 (by rw [List.size_toArray,List.size_toArray]; omega)) ⟨ho,ho2,?_⟩;rw [e];exact ⟨.ref _,_,I.lnew (t':=s.toks) (r1.append r2) (by rw [List.length_append]; omega),rfl,q _ I.fresh⟩
def aF:PV→PV→Option PV
 | .int a,.int b=>some (.int (a+b))
 | .lst xs,.lst ys=>if xs.length+ys.length≤16777216 then some (.lst (xs++ys)) else none
 | .tup xs,.tup ys=>if xs.length≠0∧ys.length≠0∧xs.length+ys.length≤16777216 then some (.tup (xs++ys)) else none
 | _,_=>none
def Kn (K:PySem.W.Frag):R2:=fun x y H Q=>(jB fun i j=>.int (i+j)) x y H Q∨En K x y H Q∨Sm K x y H Q
theorem Si:eF X (binaryOp .Add) (Kn X.K):=eF.or O0 (eF.or By Bz)
theorem O6 {K:PySem.W.Frag}:gD K (Kn K) aF:=fun {p S H a b c x y Q} s ra rb e k=>by
 cases a with
 | int i =>
  cases b with
  | int j =>
   cases e;exact .inl ⟨i,j,ra.int,rb.int,k H _ (dP.refl H) (iE (v:=.int (i+j)) rfl)⟩
  | _=>cases e
 | lst xs =>
  cases b with
  | lst ys =>
   have e:(if xs.length+ys.length≤16777216 then some (PV.lst (xs++ys)) else none)=some c:=e;split at e
   ·rename_i hl
    cases e;obtain ⟨a1,vs,rfl,l1,z1,r1⟩:=ra.lst;obtain ⟨a2,ws,rfl,l2,z2,r2⟩:=rb.lst;have hz:vs.length+ws.length≤sizeLine:=by rw [← r1.length,← r2.length,iV]; exact hl
    exact .inr (.inl ⟨a1,a2,vs,ws,rfl,rfl,l1,l2,hz,fun t ht=>k _ _ (gR ht) (nU s (r1.append r2) (by rw [List.length_append]; exact hz) ht)⟩)
   ·cases e
  | _=>cases e
 | tup xs =>
  cases b with
  | tup ys =>
   have e:(if xs.length≠0∧ys.length≠0∧xs.length+ys.length≤16777216 then some (PV.tup (xs++ys)) else none)=some c:=e;split at e
   ·rename_i hl
    cases e;obtain ⟨a1,vs,rfl,l1,z1,r1⟩:=ra.tup;obtain ⟨a2,ws,rfl,l2,z2,r2⟩:=rb.tup;have hz:vs.length+ws.length≤sizeLine:=by rw [← r1.length,← r2.length,iV]; exact hl.2.2
    refine .inr (.inr ⟨a1,a2,vs,ws,rfl,rfl,l1,l2,fun q=>hl.1 (by rw [r1.length,q]; rfl),hz,fun q=>absurd (show ys.length=0 by rw [r2.length,q]; rfl) hl.2.1,fun _ t ht=>k _ _ (gR ht) (pL s (r1.append r2) (by rw [List.length_append]; exact hz) ht)⟩)
   ·cases e
  | _=>cases e
 | _=>cases e
end
section
variable {K:PySem.W.Frag} {cl:Str→Addr} {E:XK} {X:Cx} {a b e:Expr} {es:List Expr} {ma mb m:ME} {ms:MA} {pos p2:Pos}
def aE:PV→PV→Option PV
 | .lst xs,.int i=>aZ xs i
 | .tup xs,.int i=>aZ xs i
 | _,_=>none
theorem tY {c:Addr→Prop} {H:Hp} {xs:List PV} {vs:List V} {i:Int} {v:PV} (r:aM K c H xs vs) (e:aZ xs i=some v):∃ x,aZ vs i=some x∧aL K c H v x:=by
 unfold aZ at e ⊢;rw [← r.length];cases z:aY xs.length i with
 | none=>rw [z] at e; cases e
 | some j =>
  rw [z] at e;exact r.get e
theorem aas:gD K (Ho K) aE:=fun {p S H a b c x y Q} s ra rb e k=>by
 cases b with
 | int i =>
  cases a with
  | lst xs =>
   obtain ⟨a1,vs,rfl,l1,z1,r1⟩:=ra.lst;obtain ⟨x,e1,r2⟩:=tY r1 e;exact .inl ⟨a1,vs,i,x,rfl,rb.int,l1,e1,k H x (dP.refl H) r2⟩
  | tup xs =>
   obtain ⟨a1,vs,rfl,l1,z1,r1⟩:=ra.tup;obtain ⟨x,e1,r2⟩:=tY r1 e;exact .inr (.inl ⟨a1,vs,i,x,rfl,rb.int,l1,e1,k H x (dP.refl H) r2⟩)
  | _=>cases e
 | _=>cases a <;> cases e
theorem T6 (ha:aW K cl E X a ma) (hb:aW K cl E X b mb) (hs:tZ b:=by intro _ _; rfl):aW K cl E X (.Subscript a b pos) (aC aE ma mb):=by
 intro hK;subst hK;refine (Va Hl (ha rfl) (hb rfl) hs).imp fun σ H Q ⟨p,S,ρ,s,e,h⟩=>?_;exact cC s e h fun q H1 a x S1 st s1 e1 r1 h1=>cC s1 e1 h1 fun q2 H2 b y S2 st2 s2 e2 r2 h2=>tF aas s2 (st2.repA r1) r2 h2
abbrev MO:=bR→aI→bK (Option Int)
def dH:MO:=fun _ S=>.ok none S
def iG:AV→aI→bK (Option Int)
 | .pv (.int i),S=>.ok (some i) S
 | _,_=>.fail
def dE (m:ME):MO:=fun ρ S=>(m ρ S).bind iG
abbrev RO:Ph→Hp→Option Int→Option Int→Prop:=fun _ _ a b=>a=b
variable (K cl E X)
def qK (e:Option Expr) (m:MO):Prop:=X.K=K→PO X e (tP K cl E RO m)
variable {K cl E X}
theorem PO.imp {e:Option Expr} {t t':TO} (h:PO X e t) (i:∀ σ H Q,t' σ H Q→t σ H Q):PO X e t':=fun pins s σ H Q I q=>h pins s σ H Q I (i σ H Q q)
theorem Au:qK K cl E X none dH:=fun _=>PO.imp Hz fun σ H Q ⟨p,S,ρ,s,e,h⟩=>bS.ret (R:=RO) h s rfl
theorem Cu (h:aW K cl E X e m):qK K cl E X (some e) (dE m):=by
 intro hK;subst hK;refine PO.imp (Sy (h rfl)) fun σ H Q ⟨p,S,ρ,s,e,h⟩=>?_;refine cC s e h fun q H1 a x S1 st s1 e1 r1 h1=>?_;unfold iG at h1;split at h1
 ·rename_i i
  exact ⟨i,(show eX X.K q H1 (.int i) x from .inl r1).int,bS.ret (R:=RO) h1 s1 rfl⟩
 ·exact h1.elim
def iM (xs:List PV) (lo hi:Option Int):List PV:=(xs.drop (HT.sIx xs.length 0 lo)).take (HT.sIx xs.length xs.length hi - HT.sIx xs.length 0 lo)
def jD (v:PV) (lo hi:Option Int):Option PV:=match v with
 | .lst xs=>some (.lst (iM xs lo hi))
 | .tup xs=>if HT.sIx xs.length 0 lo=0∧HT.sIx xs.length xs.length hi=xs.length then none else some (.tup (iM xs lo hi))
 | _=>none
def dF (m:ME) (ml mh:MO):ME:=fun ρ S=>(m ρ S).bind fun v S1=>(ml ρ S1).bind fun lo S2=>(mh ρ S2).bind fun hi S3=>gO ((rd S3 v).bind fun x=>jD x lo hi) S3
theorem Ih {c:Addr→Prop} {H:Hp} {xs:List PV} {vs:List V} {lo hi:Option Int} (r:aM K c H xs vs):aM K c H (iM xs lo hi) (nB vs lo hi):=by
 unfold iM nB;rw [← r.length];exact (r.drop _).take _
theorem P8 {lo hi:Option Expr} {ml mh:MO} (he:aW K cl E X e m) (hl:qK K cl E X lo ml) (hu:qK K cl E X hi mh):aW K cl E X (.Subscript e (.Slice lo hi none p2) pos) (dF m ml mh):=by
 intro hK;subst hK;refine (Bv (nK.or B4 J6) (he rfl) (hl rfl) (hu rfl)).imp fun σ H Q ⟨p,S,ρ,s,e,h⟩=>?_;refine cC s e h fun q H1 a x S1 st s1 e1 r1 h1=>cC s1 e1 h1 fun q2 H2 lo lo' S2 st2 s2 e2 r2 h2=>cC s2 e2 h2 fun q3 H3 hi hi' S3 st3 s3 e3 r3 h3=>?_;cases r2;cases r3;have ra:=st3.repA (st2.repA r1);obtain ⟨c,ec,k⟩:=rL s3 h3;cases z:rd S3 a with
 | none=>rw [z] at ec; cases ec
 | some v =>
  rw [z] at ec;have rv:=nX s3 ra z;cases v with
  | lst xs =>
   have ec:some (PV.lst (iM xs lo hi))=some c:=ec;cases ec;obtain ⟨a1,vs,rfl,l1,z1,r1⟩:=rv.lst;exact .inl ⟨a1,vs,rfl,l1,fun t ht=>k _ _ (gR ht) (nU s3 (Ih r1) (Nat.le_trans (sT vs lo hi) z1) ht)⟩
  | tup xs =>
   obtain ⟨a1,vs,rfl,l1,z1,r1⟩:=rv.tup;have ec:(if HT.sIx xs.length 0 lo=0∧HT.sIx xs.length xs.length hi=xs.length then none else some (PV.tup (iM xs lo hi)))=some c:=ec;split at ec
   ·cases ec
   ·rename_i hw
    cases ec;rw [r1.length] at hw;exact .inr ⟨a1,vs,rfl,l1,hw,fun t ht=>k _ _ (gR ht) (pL s3 (Ih r1) (Nat.le_trans (sT vs lo hi) z1) ht)⟩
  | _=>cases ec
theorem rD {id:String} {r:List V→Hp→VK→Prop} {f:List PV→Option PV} {x:Str} {p:Pos} (hc:iA X (.builtin id) r) (hf:kF X.K r f) (hg:Gl X x) (hm:X.mg x=none) (hv:bootBuiltins x=some (.builtin id)) (ha:eK K cl E X (e :: es) ms) (hn:x≠"__name__":=by decide) (hdb:(x == ("__debug__":Str))=false:=by decide)
  (he:starEach (e :: es) X.env=(false,eval e X.env) :: starEach es X.env:=by rfl) (hpl:(backTo pos (starEach es X.env)).any (·.1)=false:=by rfl):aW K cl E X (.Call (.Name x p) (e :: es) [] pos) (mR f ms):=by
 intro hK;subst hK;refine PE.imp (yT hc hg hm hv (ha rfl) hn hdb he hpl) fun σ H Q ⟨p,S,ρ,s,ev,h⟩=>?_;exact cC s ev h fun q H' as xs S' stp sm ev r k=>Kg hf sm r k
theorem yA {T:String} {r:List V→Hp→VK→Prop} {f:List PV→Option PV} {x:Str} {p:Pos} (hc:iA X (.type T) r) (hf:kF X.K r f) (hg:Gl X x) (hm:X.mg x=none) (hv:bootBuiltins x=some (.type T)) (ha:eK K cl E X (e :: es) ms) (hn:x≠"__name__":=by decide) (hdb:(x == ("__debug__":Str))=false:=by decide)
  (he:starEach (e :: es) X.env=(false,eval e X.env) :: starEach es X.env:=by rfl) (hpl:(backTo pos (starEach es X.env)).any (·.1)=false:=by rfl):aW K cl E X (.Call (.Name x p) (e :: es) [] pos) (mR f ms):=by
 intro hK;subst hK;refine PE.imp (qX hc hg hm hv (ha rfl) hn hdb he hpl) fun σ H Q ⟨p,S,ρ,s,ev,h⟩=>?_;exact cC s ev h fun q H' as xs S' stp sm ev r k=>Kg hf sm r k
def cF:List PV→Option PV
 | [.lst xs]=>some (.int xs.length)
 | [.tup xs]=>some (.int xs.length)
 | _=>none
theorem P4:kF K (fun xs H Q=>∃ p ys,xs=[.ref p]∧(bY K H p ys∨dC K H p ys)∧Q (.int ys.length) H) cF:=fun {p S H as c xs Q} s ra e k=>by
 unfold cF at e;split at e
 ·rename_i zs
  cases e;cases ra with
  | cons h t =>
   cases t;obtain ⟨a,vs,rfl,l,z,r⟩:=h.lst;refine ⟨a,vs,rfl,.inl l,?_⟩;rw [← r.length];exact k H _ (dP.refl H) (iE (v:=.int zs.length) rfl)
 ·rename_i zs
  cases e;cases ra with
  | cons h t =>
   cases t;obtain ⟨a,vs,rfl,l,z,r⟩:=h.tup;refine ⟨a,vs,rfl,.inr l,?_⟩;rw [← r.length];exact k H _ (dP.refl H) (iE (v:=.int zs.length) rfl)
 ·cases e
def oH:List PV→Option PV
 | [.int i]=>some (.int (if i < 0 then -i else i))
 | _=>none
theorem P0:kF K (fun xs H Q=>∃ i,xs=[.int i]∧Q (.int (if i < 0 then -i else i)) H) oH:=fun {p S H as c xs Q} s ra e k=>by
 unfold oH at e;split at e
 ·rename_i i
  cases e;cases ra with
  | cons h t =>
   cases t;cases h.int;exact ⟨i,rfl,k H _ (dP.refl H) (iE (v:=.int _) rfl)⟩
 ·cases e
def fH:List PV→Option PV
 | [.lst xs]=>some (.tup xs)
 | [.tup xs]=>some (.tup xs)
 | _=>none
theorem Rx:kF K (fun xs H Q=>∃ p ys,xs=[.ref p]∧((bY K H p ys∧∀ l,H l=none→Q (.ref l) (aT H l (.tup ys)))∨(dC K H p ys∧Q (.ref p) H))) fH:=fun {p S H as c xs Q} s ra e k=>by
 unfold fH at e;split at e
 ·rename_i zs
  cases e;cases ra with
  | cons h t =>
   cases t;obtain ⟨a,vs,rfl,l,z,r⟩:=h.lst;exact ⟨a,vs,rfl,.inl ⟨l,fun t ht=>k _ _ (gR ht) (pL s r z ht)⟩⟩
 ·rename_i zs
  cases e;cases ra with
  | cons h t =>
   cases t;obtain ⟨a,vs,rfl,l,z,r⟩:=h.tup;refine ⟨a,vs,rfl,.inr ⟨l,k H _ (dP.refl H) ?_⟩⟩;unfold aL;exact ⟨a,vs,rfl,l,z,r⟩
 ·cases e
def jG:List PV→Option PV
 | [.lst xs]=>some (.lst xs)
 | [.tup xs]=>some (.lst xs)
 | _=>none
theorem Iz:kF K (fun xs H Q=>∃ p ys,xs=[.ref p]∧(bY K H p ys∨dC K H p ys)∧∀ l,H l=none→Q (.ref l) (aT H l (.lst ys))) jG:=fun {p S H as c xs Q} s ra e k=>by
 unfold jG at e;split at e
 ·rename_i zs
  cases e;cases ra with
  | cons h t =>
   cases t;obtain ⟨a,vs,rfl,l,z,r⟩:=h.lst;exact ⟨a,vs,rfl,.inl l,fun t ht=>k _ _ (gR ht) (nU s r z ht)⟩
 ·rename_i zs
  cases e;cases ra with
  | cons h t =>
   cases t;obtain ⟨a,vs,rfl,l,z,r⟩:=h.tup;exact ⟨a,vs,rfl,.inr l,fun t ht=>k _ _ (gR ht) (nU s r z ht)⟩
 ·cases e
def oE:List PV→Option (List Bool)
 | []=>some []
 | .bl b :: r=>match oE r with
  | some bs=>some (b :: bs)
  | none=>none
 | _ :: _=>none
def nC:List PV→Option PV
 | [.lst xs]=>(oE xs).map fun bs=>.bl (bs.all id)
 | _=>none
theorem Wg {c:Addr→Prop} {H:Hp}:∀ {xs:List PV} {bs:List Bool} {vs:List V},oE xs=some bs→aM K c H xs vs→vs=bs.map V.bl
 | [],bs,vs,e,r=>by
  cases e;unfold aM at r;exact r
 | .bl b :: xs,bs,vs,e,r=>by
  unfold oE at e;split at e
  ·rename_i cs h
   cases e;unfold aM at r;obtain ⟨v,w,rfl,r1,r2⟩:=r;unfold aL at r1;rw [r1,Wg h r2];rfl
  ·cases e
 | .non :: _,_,_,e,_=>by cases e
 | .int _ :: _,_,_,e,_=>by cases e
 | .str _ :: _,_,_,e,_=>by cases e
 | .tup _ :: _,_,_,e,_=>by cases e
 | .lst _ :: _,_,_,e,_=>by cases e
theorem R6:kF K (fun xs H Q=>∃ (a:Addr) (bs:List Bool),xs=[.ref a]∧bY K H a (bs.map V.bl)∧Q (.bl (bs.all id)) H) nC:=fun {p S H as c xs Q} s ra e k=>by
 unfold nC at e;split at e
 ·rename_i zs
  cases y:oE zs with
  | none=>rw [y] at e; cases e
  | some bs =>
   rw [y] at e;cases e;cases ra with
   | cons h t =>
    cases t;obtain ⟨a,vs,rfl,l,z,r⟩:=h.lst;rw [Wg y r] at l;exact ⟨a,bs,rfl,l,k H _ (dP.refl H) (iE (v:=.bl _) rfl)⟩
 ·cases e
def iL:List PV→Option PV
 | [.int i]=>some (.int i)
 | [.bl b]=>some (.int (if b then 1 else 0))
 | _=>none
theorem S9:kF K (fun xs H Q=>(∃ i,xs=[.int i]∧Q (.int i) H)∨∃ k,xs=[.bl k]∧Q (.int (if k then 1 else 0)) H) iL:=fun {p S H as c xs Q} s ra e k=>by
 unfold iL at e;split at e
 ·rename_i i
  cases e;cases ra with
  | cons h t =>
   cases t;cases h.int;exact .inl ⟨i,rfl,k H _ (dP.refl H) (iE (v:=.int _) rfl)⟩
 ·rename_i i
  cases e;cases ra with
  | cons h t =>
   cases t;cases h.bl;exact .inr ⟨i,rfl,k H _ (dP.refl H) (iE (v:=.int _) rfl)⟩
 ·cases e
end
end
end L2.Pp
namespace L2.Pp
open PySem PySem.Spec PyProof.Rows Bn
section
variable {K:PySem.W.Frag} {cl:Str→Addr} {E:XK} {X:Cx} {a b c e l tg:Expr} {es:List Expr} {m ma mb:ME} {ms:MA} {pos:Pos} {p q:Ph} {H H':Hp} {S:aI}
theorem aU.push (s:aU K p S H) {D:Addr} {ps:List PV} {vs:List V} (h:H D=none) (l:vs.length≤sizeLine) (r:aM K p.c H ps vs) :
  let q:Ph:=⟨p.f++[D],fun a=>p.w a∨a=D,fun a=>p.c a∨a=D⟩
  bM p H q (aT H D (.lst vs))∧aU K q (S++[.lst ps]) (aT H D (.lst vs)):=by
 intro q;obtain ⟨st0,sm0⟩:=s.res (D:=D) (o:=.lst vs) h trivial;have nf0:D ∉ p.f:=fun z=>s.notin h (s.wc D (s.sub D z));refine ⟨⟨st0.wc,st0.mu,⟨[D],rfl⟩,st0.mw,st0.mono,fun a x n=>?_,st0.nw,st0.nc,st0.keep⟩,?_,by simp [q,s.len],fun a x=>?_,sm0.wc,sm0.mu,fun k a o e1 e2=>?_⟩
 ·rcases List.mem_append.mp x with z | z
  ·exact absurd z n
  ·have:a=D:=by simpa using z
   rw [this];exact h
 ·show (p.f++[D]).Nodup
  rw [List.nodup_append];refine ⟨s.nd,by simp,fun a ha b hb z=>?_⟩;have:b=D:=by simpa using hb
  exact nf0 (this ▸ z ▸ ha)
 ·rcases List.mem_append.mp x with z | z
  ·exact .inl (s.sub a z)
  ·exact .inr (by simpa using z)
 ·by_cases hk:k < S.length
  ·have e1':p.f[k]?=some a:=by
    have e1:(p.f++[D])[k]?=some a:=e1
    rwa [List.getElem?_append_left (by rw [s.len]; exact hk)] at e1
   rw [List.getElem?_append_left hk] at e2;refine (s.obj k a o e1' e2).mono (fun vs e=>by rw [bP (fF e h)]; exact e) (fun b w f=>⟨⟨.inl w,fun m=>?_⟩,fun vs e=>by rw [bP (fF e h)]; exact e⟩) fun _ _ r=>st0.reps r;rcases List.mem_append.mp m with z | z
   ·exact f z
   ·have:b=D:=by simpa using z
    exact s.notin h (this ▸ s.wc b w)
  ·have hk':k=S.length:=by
    have:=(List.getElem?_eq_some_iff.mp e2).1;simp at this;omega
   subst hk';rw [List.getElem?_append_right (Nat.le_refl _),Nat.sub_self] at e2;have e1:(p.f++[D])[S.length]?=some a:=e1;rw [← s.len,List.getElem?_append_right (Nat.le_refl _),Nat.sub_self] at e1;cases e1;cases e2;exact ⟨vs,eN,l,st0.reps r⟩
theorem aU.write (s:aU K p S H) {D:Addr} {k:Nat} {ps:List PV} {vs:List V} (h:p.f[k]?=some D) (hk:k < S.length) (l:vs.length≤sizeLine) (r:aM K p.c H ps vs) :
  bM p H p (aT H D (.lst vs))∧aU K p (S.set k (.lst ps)) (aT H D (.lst vs)):=by
 have w:p.w D:=s.sub D (List.mem_of_getElem? h);have st:bM p H p (aT H D (.lst vs)):=⟨s.wc,s.mu,List.prefix_rfl,fun _ h=>h,fun _ h=>h,fun _ h g=>absurd h g,fun _ h g=>absurd h g,fun _ h g=>absurd h g,fun a u e nw=>by
  rw [bP (fun z:a=D=>nw (by rw [z]; exact w))];exact e⟩
 refine ⟨st,s.nd,by rw [List.length_set]; exact s.len,s.sub,s.wc,fun a x=>?_,fun j a o e1 e2=>?_⟩
 ·by_cases z:a=D
  ·rw [z,eN]
   exact ⟨_,rfl,trivial⟩
  ·rw [bP z]
   exact s.mu a x
 ·by_cases hj:k=j
  ·subst hj
   rw [h] at e1;cases e1;rw [List.getElem?_set_self hk] at e2;cases e2;exact ⟨vs,eN,l,st.reps r⟩
  ·rw [List.getElem?_set_ne hj] at e2
   have ne:a≠D:=fun q=>hj (oY s.nd h (q ▸ e1));exact (s.obj j a o e1 e2).mono (fun vs e=>by rw [bP ne]; exact e) (fun b w f=>⟨⟨w,f⟩,fun vs e=>by rw [bP (fun z:b=D=>f (z ▸ List.mem_of_getElem? h))]; exact e⟩) fun _ _ r=>st.reps r
def lR (xs:List AV) (S:aI):bK AV:=match kS xs with
 | some vs=>if vs.length≤16777216 then .ok (.ref S.length) (S++[.lst vs]) else .fail
 | none=>.fail
def fA (ms:MA):ME:=fun ρ S=>(ms ρ S).bind lR
theorem A4 (h:eK K cl E X es ms):aW K cl E X (.List es pos) (fA ms):=by
 intro hK;subst hK;refine (zS (h rfl)).imp fun σ H Q ⟨p,S,ρ,s,e,h⟩=>?_;refine cC s e h fun q H1 as xs S1 st s1 e1 r1 h1=>?_;unfold lR at h1;split at h1
 ·rename_i vs hv
  split at h1
  ·rename_i hl
   have r:=xE hv r1;rw [r.length,← iV] at hl;refine ⟨hl,fun t ht=>?_⟩;obtain ⟨st2,sm2⟩:=s1.push ht hl r;exact h1 _ _ (.ref t) st2 sm2 ⟨t,by show (q.f++[t])[S1.length]?=some t; rw [← s1.len,List.getElem?_append_right (Nat.le_refl _),Nat.sub_self]; rfl,rfl⟩
  ·exact h1.elim
 ·exact h1.elim
def vC (xs:List AV) (S:aI):bK AV:=match (fI S xs).bind jG with
 | some (.lst vs)=>.ok (.ref S.length) (S++[.lst vs])
 | _=>.fail
def pU (ms:MA):ME:=fun ρ S=>(ms ρ S).bind vC
theorem Mt {x:Str} {p:Pos} (hx:x="list") (hg:Gl X "list") (hm:X.mg "list"=none) (ha:eK K cl E X [e] ms) (he:starEach [e] X.env=[(false,eval e X.env)]:=by rfl):aW K cl E X (.Call (.Name x p) [e] [] pos) (pU ms):=by
 intro hK;subst hK hx;refine PE.imp (qX sS hg hm (by decide +kernel) (ha rfl) (by decide) (by decide) he rfl) fun σ H Q ⟨p,S,ρ,s,ev,h⟩=>?_;refine cC s ev h fun q H1 as xs S1 st s1 e1 r1 h1=>?_;unfold vC at h1;cases z:fI S1 as with
 | none=>rw [z] at h1; exact h1.elim
 | some us =>
  rw [z] at h1;have rr:=qV s1 r1 z;have fin:∀ (vs:List PV) (ws:List V) (a:Addr),aM X.K q.c H1 vs ws→ws.length≤sizeLine→bS X.K cl (bV X.K) q H1 (.ok (.ref S1.length) (S1++[.lst vs])) Q E→∀ l,H1 l=none→Q (.ref l) (aT H1 l (.lst ws)):=fun vs ws a r hl k t ht=>by
   obtain ⟨st2,sm2⟩:=s1.push ht hl r;exact k _ _ (.ref t) st2 sm2 ⟨t,by show (q.f++[t])[S1.length]?=some t; rw [← s1.len,List.getElem?_append_right (Nat.le_refl _),Nat.sub_self]; rfl,rfl⟩
  cases rr with
  | nil=>exact h1.elim
  | cons h t =>
   rename_i u x ut xt;cases t with
   | cons _ _=>cases u <;> exact h1.elim
   | nil =>
    cases u with
    | lst vs =>
     obtain ⟨a,ws,rfl,l,z,r⟩:=h.lst;exact ⟨a,ws,rfl,.inl l,fin vs ws a r z h1⟩
    | tup vs =>
     obtain ⟨a,ws,rfl,l,z,r⟩:=h.tup;exact ⟨a,ws,rfl,.inr l,fin vs ws a r z h1⟩
    | _=>exact h1.elim
def iI (k:Nat) (ys:List AV) (S:aI):bK AV:=match ys with
 | [.pv y]=>match S[k]? with
  | some (.lst xs)=>if xs.length < 16777216 then .ok (.pv .non) (S.set k (.lst (xs++[y]))) else .fail
  | _=>.fail
 | _=>.fail
def eO {α:Type} (k:AV) (S:aI) (f:Nat→bK α):bK α:=match k with
 | .ref k=>(match S[k]? with
  | some (.dic _ _)=>.fail
  | some (.dol _ _)=>.fail
  | _=>f k)
 | _=>.fail
theorem tO {α:Type} (k:Nat) (S:aI) (f:Nat→bK α):eO (.ref k) S f=.fail∨(eO (.ref k) S f=f k∧(∀ n l,S[k]?≠some (.dic n l))∧∀ n l,S[k]?≠some (.dol n l)):=by
 have e:eO (.ref k) S f=(match S[k]? with
  | some (.dic _ _)=>.fail
  | some (.dol _ _)=>.fail
  | _=>f k):=rfl
 rw [e];cases S[k]? with
 | none=>exact .inr ⟨rfl,fun _ _ z=>(nomatch z),fun _ _ z=>(nomatch z)⟩
 | some o =>
  cases o with
  | dic n l=>exact .inl rfl
  | dol n l=>exact .inl rfl
  | lst xs=>exact .inr ⟨rfl,fun _ _ z=>(nomatch z),fun _ _ z=>(nomatch z)⟩
  | lol xs=>exact .inr ⟨rfl,fun _ _ z=>(nomatch z),fun _ _ z=>(nomatch z)⟩
def dQ (m:ME) (ms:MA):ME:=fun ρ S=>(m ρ S).bind fun k S1=>eO k S1 fun k=>(ms ρ S1).bind fun ys S2=>iI k ys S2
theorem yW {k:Nat} {x:V} (s:aU K p S H) (r:bV K p H (.ref k) x) (n1:∀ n l,S[k]?≠some (.dic n l)) (n2:∀ n l,S[k]?≠some (.dol n l)):Nc K "list" x H:=by
 obtain ⟨a,e,rfl⟩:=r;have hk:k < S.length:=by
  have:=(List.getElem?_eq_some_iff.mp e).1;rw [← s.len];exact this
 have z:=s.obj k a S[k] e (List.getElem?_eq_getElem hk);cases y:S[k] with
 | lst xs =>
  rw [y] at z;obtain ⟨vs,h,_⟩:=z;exact .inl ⟨rfl,vs,bY.of h⟩
 | lol xss =>
  rw [y] at z;obtain ⟨bs,h,_⟩:=z;exact .inl ⟨rfl,_,bY.of h⟩
 | dic n l=>exact absurd (by rw [List.getElem?_eq_getElem hk,y]) (n1 n l)
 | dol n l=>exact absurd (by rw [List.getElem?_eq_getElem hk,y]) (n2 n l)
theorem Is {apos cpos:Pos} (ho:aW K cl E X a m) (ha:eK K cl E X [e] ms) (hbase:attributeBase a "append" X.env (eval a X.env)=eval a X.env:=by rfl)
  (hfew:((backTo cpos (starEach [e] X.env)).all (fun x=>!x.1) && (backToKw cpos (keywordEach [] X.env)).all (fun x=>x.1.isSome) && decide (([e]:List Expr).length+([]:List Keyword).length+(if ([]:List Keyword).isEmpty then 0 else 1) < 30))=true:=by rfl)
  (hline:(apos.endLine == cpos.line)=true:=by rfl) (hs:starEach [e] X.env=[(false,eval e X.env)]:=by rfl):aW K cl E X (.Call (.Attribute a "append" apos) [e] [] cpos) (dQ m ms):=by
 intro hK;subst hK;refine PE.imp (Eb PySem.F.plainAttrs_list PySem.F.slot_list_append PySem.F.type_list_append qW (ho rfl) (ha rfl) hbase hfew hline hs rfl) fun σ H Q ⟨p,S,ρ,s,ev,h⟩=>?_;refine cC s ev h fun q H1 k x S1 st s1 e1 r1 h1=>?_;cases k with
 | pv v=>exact h1.elim
 | ref k =>
  have h1:bS X.K cl (bV X.K) q H1 (eO (.ref k) S1 fun k=>(ms ρ S1).bind fun ys S2=>iI k ys S2) Q E:=h1;rcases tO k S1 (fun k=>(ms ρ S1).bind fun ys S2=>iI k ys S2) with z | ⟨z,n1,n2⟩
  ·rw [z] at h1
   exact h1.elim
  rw [z] at h1;refine ⟨yW s1 r1 n1 n2,cC s1 e1 h1 fun q2 H2 ys xs S2 st2 s2 e2 r2 h2=>?_⟩;obtain ⟨a,ea,rfl⟩:=st2.repA r1;unfold iI at h2;split at h2
  ·rename_i y
   cases r2 with
   | cons r3 r4 =>
    cases r4;rename_i x;cases z:S2[k]? with
    | none=>rw [z] at h2; exact h2.elim
    | some o =>
     cases o with
     | lol _=>simp only [z] at h2; exact h2.elim
     | dic _ _=>simp only [z] at h2; exact h2.elim
     | dol _ _=>simp only [z] at h2; exact h2.elim
     | lst zs =>
      simp only [z] at h2;obtain ⟨vs,h3,l3,r4⟩:=s2.obj k a _ ea z;split at h2
      ·rename_i hl
       rw [r4.length] at hl;have hz:=iV;refine ⟨a,vs,x,rfl,rfl,h3,by omega,?_⟩;obtain ⟨st3,sm3⟩:=s2.write ea (List.getElem?_eq_some_iff.mp z).1 (ps:=zs++[y]) (vs:=vs++[x]) (by rw [List.length_append,List.length_singleton]; omega) (r4.append (.cons r3 .nil));exact h2 _ _ .non st3 sm3 (by show aL X.K q2.c (aT H2 a (.lst (vs++[x]))) .non .non; unfold aL; rfl)
      ·exact h2.elim
  ·exact h2.elim
def oC (k:Nat) (ys:List AV) (S:aI):bK AV:=match ys with
 | [.pv (.int i)]=>if -9223372036854775808≤i∧i < 9223372036854775808 then (match S[k]? with
  | some (.lst xs)=>match seqIndex? i xs.length with
   | some j=>match xs[j]? with
    | some v=>.ok (.pv v) (S.set k (.lst (xs.eraseIdx j)))
    | none=>.fail
   | none=>.fail
  | _=>.fail) else .fail
 | _=>.fail
def kC (m:ME) (ms:MA):ME:=fun ρ S=>(m ρ S).bind fun k S1=>eO k S1 fun k=>(ms ρ S1).bind fun ys S2=>oC k ys S2
theorem L7 {apos cpos:Pos} (ho:aW K cl E X a m) (ha:eK K cl E X [e] ms) (hbase:attributeBase a "pop" X.env (eval a X.env)=eval a X.env:=by rfl)
  (hfew:((backTo cpos (starEach [e] X.env)).all (fun x=>!x.1) && (backToKw cpos (keywordEach [] X.env)).all (fun x=>x.1.isSome) && decide (([e]:List Expr).length+([]:List Keyword).length+(if ([]:List Keyword).isEmpty then 0 else 1) < 30))=true:=by rfl)
  (hline:(apos.endLine == cpos.line)=true:=by rfl) (hs:starEach [e] X.env=[(false,eval e X.env)]:=by rfl):aW K cl E X (.Call (.Attribute a "pop" apos) [e] [] cpos) (kC m ms):=by
 intro hK;subst hK;refine PE.imp (Eb PySem.F.plainAttrs_list PySem.F.slot_list_pop PySem.F.type_list_pop Iu (ho rfl) (ha rfl) hbase hfew hline hs rfl) fun σ H Q ⟨p,S,ρ,s,ev,h⟩=>?_;refine cC s ev h fun q H1 k x S1 st s1 e1 r1 h1=>?_;cases k with
 | pv v=>exact h1.elim
 | ref k =>
  have h1:bS X.K cl (bV X.K) q H1 (eO (.ref k) S1 fun k=>(ms ρ S1).bind fun ys S2=>oC k ys S2) Q E:=h1;rcases tO k S1 (fun k=>(ms ρ S1).bind fun ys S2=>oC k ys S2) with z | ⟨z,n1,n2⟩
  ·rw [z] at h1
   exact h1.elim
  rw [z] at h1;refine ⟨yW s1 r1 n1 n2,cC s1 e1 h1 fun q2 H2 ys xs S2 st2 s2 e2 r2 h2=>?_⟩;obtain ⟨a,ea,rfl⟩:=st2.repA r1;unfold oC at h2;split at h2
  ·rename_i i
   cases r2 with
   | cons r3 r4 =>
    cases r4;rename_i x;have ex:x=.int i:=(show eX X.K q2 H2 (.int i) x from .inl r3).int;subst ex;split at h2
    ·rename_i hi
     cases z:S2[k]? with
     | none=>rw [z] at h2; exact h2.elim
     | some o =>
      cases o with
      | lol _=>simp only [z] at h2; exact h2.elim
      | dic _ _=>simp only [z] at h2; exact h2.elim
      | dol _ _=>simp only [z] at h2; exact h2.elim
      | lst zs =>
       simp only [z] at h2;obtain ⟨vs,h3,l3,r4⟩:=s2.obj k a _ ea z;cases y:seqIndex? i zs.length with
       | none=>simp only [y] at h2; exact h2.elim
       | some j =>
        simp only [y] at h2;cases yv:zs[j]? with
        | none=>simp only [yv] at h2; exact h2.elim
        | some v =>
         simp only [yv] at h2;obtain ⟨u,eu,ru⟩:=r4.get yv;refine ⟨a,vs,i,j,u,rfl,rfl,h3,hi.1,hi.2,by rw [← r4.length]; exact y,eu,?_⟩;obtain ⟨st3,sm3⟩:=s2.write ea (List.getElem?_eq_some_iff.mp z).1 (ps:=zs.eraseIdx j) (vs:=vs.eraseIdx j) (Nat.le_trans (xZ vs j) l3) (r4.eraseIdx j);exact h2 _ _ u st3 sm3 (st3.rep ru)
    ·exact h2.elim
  ·exact h2.elim
def mZ (k:Nat) (i:AV) (v:AV) (S:aI):bK Unit:=match i,v with
 | .pv (.int i),.pv v=>match S[k]? with
  | some (.lst xs)=>match aY xs.length i with
   | some j=>.ok () (S.set k (.lst (xs.set j v)))
   | none=>.fail
  | _=>.fail
 | _,_=>.fail
def jX (mo mi mv:ME):MS:=fun ρ S=>bX.of (mv ρ S) fun v S1=>bX.of (mo ρ S1) fun k S2=>bX.of (mi ρ S2) fun i S3=>bX.of (eO k S3 fun k=>mZ k i v S3) fun _ S4=>.nx ρ S4
theorem As {o i v:Expr} {mo mi mv:ME} {tpos:Pos} (hv:aW K cl E X v mv) (ho:aW K cl E X o mo) (hi:aW K cl E X i mi)
  (ha:∀ v,assign (.Subscript o i tpos) X.env v=(do
   let ov ← holding [v] (eval o X.env)
   let iv ← holding [v,ov] (eval i X.env)
   standAt tpos
   holding [v,ov,iv] (setItem ov iv v)
   release [v,ov,iv] []):=by intro _; rfl)
  (hs:swapsWithSole [.Subscript o i tpos] v pos.line X.env=pure false:=by rfl) (hw:swappedStores [.Subscript o i tpos] v X.env=pure none:=by rfl)
  (h1:(assignEach [.Subscript o i tpos] X.env).map (·.2)=[assign (.Subscript o i tpos) X.env]:=by rfl):eJ K cl E X (.Assign [.Subscript o i tpos] v pos) (jX mo mi mv):=by
 intro hK;subst hK;refine PS.imp (uK (hv rfl) (zM (ho rfl) (hi rfl) Sh ha) hs hw h1) fun D σ H ⟨p,S,ρ,s,ev,h⟩=>?_;refine iF s ev h fun q H1 v x S1 st s1 e1 r1 h1=>?_;refine iF s1 e1 h1 fun q2 H2 k y S2 st2 s2 e2 r2 h2=>?_;refine iF s2 e2 h2 fun q3 H3 i z S3 st3 s3 e3 r3 h3=>?_;cases k with
 | pv _=>exact h3.elim
 | ref k =>
  obtain ⟨a,ea,rfl⟩:=st3.repA r2;have rv:=st3.repA (st2.repA r1);have h3:dW X.K cl q3 H3 (bX.of (eO (.ref k) S3 fun k=>mZ k i v S3) fun _ S4=>.nx ρ S4) D E:=h3;rcases tO k S3 (fun k=>mZ k i v S3) with z0 | ⟨z0,_,_⟩
  ·rw [z0] at h3
   exact h3.elim
  rw [z0] at h3;unfold mZ at h3;split at h3
  ·rename_i ii vv _
   have ez:z=.int ii:=(show eX X.K q3 H3 (.int ii) z from .inl r3).int;subst ez;cases w:S3[k]? with
   | none=>rw [w] at h3; exact h3.elim
   | some o =>
    cases o with
    | lol _=>simp only [w] at h3; exact h3.elim
    | dic _ _=>simp only [w] at h3; exact h3.elim
    | dol _ _=>simp only [w] at h3; exact h3.elim
    | lst zs =>
     simp only [w] at h3;obtain ⟨vs,hh,ll,rr⟩:=s3.obj k a _ ea w;cases y:aY zs.length ii with
     | none=>simp only [y] at h3; exact h3.elim
     | some j =>
      simp only [y] at h3;refine ⟨a,vs,ii,j,rfl,rfl,hh,by rw [← rr.length]; exact y,?_⟩;obtain ⟨st4,sm4⟩:=s3.write ea (List.getElem?_eq_some_iff.mp w).1 (ps:=zs.set j vv) (vs:=vs.set j x) (by rw [List.length_set]; exact ll) (aM.set rv j rr);exact h3 _ _ _ st4 sm4 (st4.repE e3)
  ·exact h3.elim
def fS:List PV→List PV→List PV
 | x :: xs,y :: ys=>.tup [x,y] :: fS xs ys
 | _,_=>[]
theorem yD:∀ (xs ys:List PV),(fS xs ys).length=min xs.length ys.length
 | [],ys=>by cases ys <;> simp [fS]
 | x :: xs,[]=>by simp [fS]
 | x :: xs,y :: ys=>by
  unfold fS;rw [List.length_cons,yD xs ys,List.length_cons,List.length_cons];omega
theorem Ii:∀ {xs ys:List PV} {i:Nat} {v:PV},(fS xs ys)[i]?=some v→∃ x y,xs[i]?=some x∧ys[i]?=some y∧v=.tup [x,y]
 | [],ys,i,v,e=>by cases ys <;> simp [fS] at e
 | x :: xs,[],i,v,e=>by simp [fS] at e
 | x :: xs,y :: ys,0,v,e=>by
  unfold fS at e;simp at e;exact ⟨x,y,rfl,rfl,e.symm⟩
 | x :: xs,y :: ys,i+1,v,e=>by
  unfold fS at e;obtain ⟨a,b,h1,h2,h3⟩:=Ii (xs:=xs) (ys:=ys) (i:=i) (v:=v) (by simpa using e);exact ⟨a,b,by simpa using h1,by simpa using h2,h3⟩
def mY:List AV→aI→bK (List PV × Gd)
 | [a,b],S=>match cN a S with
  | .ok xs _=>match cN b S with
   | .ok ys _=>.ok (fS xs.1 ys.1,xs.2++ys.2) S
   | _=>.fail
  | _=>.fail
 | _,_=>.fail
def jM (ms:MA):MI:=fun ρ S=>(ms ρ S).bind mY
theorem Hi {a:AV} {x:V} {xs:List PV × Gd} {S':aI} (s:aU K p S H) (r:bV K p H a x) (e:cN a S=.ok xs S'):∃ f ad vs,x=.ref ad∧iQ f K H ad vs∧xs.1.length≤sizeLine∧∀ q H1 S1,bM p H q H1→aU K q S1 H1→gJ xs.2 S1→∃ vs,iQ f K H1 ad vs∧aM K q.c H1 xs.1 vs:=by
 cases a with
 | ref j =>
  obtain ⟨a,e1,rfl⟩:=r;unfold cN at e;dsimp only at e;cases z:S[j]? with
  | none=>rw [z] at e; cases e
  | some o =>
   cases o with
   | lol _=>rw [z] at e; cases e
   | dic _ _=>rw [z] at e; cases e
   | dol _ _=>rw [z] at e; cases e
   | lst ys =>
    rw [z] at e;cases e;obtain ⟨vs,h1,l1,r1⟩:=s.obj j a _ e1 z;refine ⟨false,a,vs,rfl,bY.of h1,by rw [r1.length]; exact l1,fun q H1 S1 st sm g=>?_⟩;obtain ⟨ws,h2,l2,r2⟩:=sm.obj j a _ (st.at_ e1) (g (j,ys) List.mem_cons_self);exact ⟨ws,bY.of h2,r2⟩
 | pv v =>
  cases v with
  | lst ys =>
   cases e;have r:aL K p.c H (.lst ys) x:=r;unfold aL at r;obtain ⟨a,vs,rfl,l,z,r⟩:=r;exact ⟨false,a,vs,rfl,l.sq,by rw [r.length]; exact z,fun q H1 S1 st sm g=>⟨vs,(st.lat l).sq,st.reps r⟩⟩
  | tup ys =>
   cases e;have r:aL K p.c H (.tup ys) x:=r;unfold aL at r;obtain ⟨a,vs,rfl,l,z,r⟩:=r;exact ⟨true,a,vs,rfl,l,by rw [r.length]; exact z,fun q H1 S1 st sm g=>⟨vs,st.tup l,st.reps r⟩⟩
  | _=>cases e
theorem Ey {elts:List Expr} {x1:Nat} {tp p:Pos} (hg:Gl X "zip") (hm:X.mg "zip"=none) (hl:eK K cl E X [a,b] ms) (hs:starEach [a,b] X.env=[(false,eval a X.env),(false,eval b X.env)]:=by rfl) (hs2:starEach [b] X.env=[(false,eval b X.env)]:=by rfl) :
  gU K cl E X (.Tuple elts x1 tp) (.Call (.Name "zip" p) [a,b] [] pos) (jM ms):=by
 intro hK;subst hK;refine PI.imp (D0 hg hm (hl rfl) hs hs2) fun σ H R ⟨p,S,ρ,s,ev,h⟩=>?_;refine cC s ev h fun q H' as xs S' stp sm ev r k=>?_;unfold mY at k;split at k
 ·rename_i u v
  cases r with
  | cons r1 r2 =>
   cases r2 with
   | cons r2 r3 =>
    cases r3;split at k
    ·rename_i xs1 S1 hx
     split at k
     ·rename_i ys1 S2 hy
      obtain ⟨f1,a1,vs1,rfl,q1,z1,st1⟩:=Hi sm r1 hx;obtain ⟨f2,a2,vs2,rfl,q2,z2,st2⟩:=Hi sm r2 hy;refine ⟨f1,a1,f2,a2,vs1,vs2,rfl,q1,q2,bS.ret (R:=eT X.K) k sm ?_⟩;refine ⟨by rw [yD]; omega,fun q3 H3 S3 st3 sm3 g3=>?_⟩;obtain ⟨kH,w1,rr1⟩:=st1 q3 H3 S3 st3 sm3 fun g hg=>g3 g (List.mem_append_left _ hg);obtain ⟨ws2,w2,rr2⟩:=st2 q3 H3 S3 st3 sm3 fun g hg=>g3 g (List.mem_append_right _ hg);refine ⟨fun i v e=>?_,?_⟩
      ·obtain ⟨x,y,ex,ey,rfl⟩:=Ii e
       obtain ⟨x',ex',rx⟩:=rr1.get ex;obtain ⟨y',ey',ry⟩:=rr2.get ey;refine ⟨⟨kH,ws2,x',y',w1,w2,ex',ey'⟩,fun z H4 hz=>?_⟩;obtain ⟨t,x2,y2,ht,rfl,rfl,g1,g2⟩:=hz;have e1:=(g1 kH w1).symm.trans ex';have e2:=(g2 ws2 w2).symm.trans ey';cases e1;cases e2;refine ⟨gR ht,pL sm3 (.cons rx (.cons ry .nil)) (by show 2≤sizeLine; decide) ht⟩
      ·refine ⟨kH,ws2,w1,w2,?_⟩
       show (fS xs1.1 ys1.1).length=_∨_;rw [yD,rr1.length,rr2.length];omega
     ·exact k.elim
    ·exact k.elim
 ·exact k.elim
def iH:Nat→List PV→List PV
 | _,[]=>[]
 | n,x :: xs=>.tup [.int n,x] :: iH (n+1) xs
theorem xW:∀ (n:Nat) (xs:List PV),(iH n xs).length=xs.length
 | _,[]=>rfl
 | n,x :: xs=>by
  unfold iH;rw [List.length_cons,xW (n+1) xs,List.length_cons]
theorem Ye:∀ {n:Nat} {xs:List PV} {i:Nat} {v:PV},(iH n xs)[i]?=some v→∃ x,xs[i]?=some x∧v=.tup [.int ((n+i:Nat):Int),x]
 | n,[],i,v,e=>by simp [iH] at e
 | n,x :: xs,0,v,e=>by
  unfold iH at e;simp at e;exact ⟨x,rfl,e.symm⟩
 | n,x :: xs,i+1,v,e=>by
  unfold iH at e;obtain ⟨y,h1,h2⟩:=Ye (n:=n+1) (xs:=xs) (i:=i) (v:=v) (by simpa using e);refine ⟨y,by simpa using h1,?_⟩;rw [h2,show n+1+i=n+(i+1) by omega]
def zU:List AV→aI→bK (List PV × Gd)
 | [.pv (.lst xs)],S=>.ok (iH 0 xs,[]) S
 | [.ref k],S=>match cN (.ref k) S with
  | .ok xs _=>.ok (iH 0 xs.1,xs.2) S
  | _=>.fail
 | _,_=>.fail
def uQ (ms:MA):MI:=fun ρ S=>(ms ρ S).bind zU
theorem Km {xs:List PV} {G:Gd} {a:Addr} (z:xs.length≤sizeLine) (st1:∀ q H1 S1,bM p H q H1→aU K q S1 H1→gJ G S1→∃ vs,bY K H1 a vs∧aM K q.c H1 xs vs):eT K p H (iH 0 xs,G) (Zb K a):=by
 refine ⟨by rw [xW]; exact z,fun q3 H3 S3 st3 sm3 g3=>?_⟩;obtain ⟨kH,w1,rr1⟩:=st1 q3 H3 S3 st3 sm3 g3;refine ⟨fun i v e=>?_,?_⟩
 ·obtain ⟨x,ex,rfl⟩:=Ye e
  obtain ⟨x',ex',rx⟩:=rr1.get ex;refine ⟨⟨kH,x',w1,ex'⟩,fun z H4 hz=>?_⟩;obtain ⟨t,y2,ht,rfl,rfl,g1⟩:=hz;have e1:=(g1 kH w1).symm.trans ex';cases e1;refine ⟨gR ht,pL sm3 (.cons ?_ (.cons rx .nil)) (by show 2≤sizeLine; decide) ht⟩;rw [Nat.zero_add];exact iE (v:=.int _) rfl
 ·refine ⟨kH,w1,?_⟩
  show _≤(iH 0 xs).length;rw [xW,rr1.length];exact Nat.le_refl _
theorem Tt {elts:List Expr} {x1:Nat} {tp p:Pos} (hg:Gl X "enumerate") (hm:X.mg "enumerate"=none) (hl:eK K cl E X [l] ms) (hs:starEach [l] X.env=[(false,eval l X.env)]:=by rfl) :
  gU K cl E X (.Tuple elts x1 tp) (.Call (.Name "enumerate" p) [l] [] pos) (uQ ms):=by
 intro hK;subst hK;refine PI.imp (Mz hg hm (hl rfl) hs) fun σ H R ⟨p,S,ρ,s,ev,h⟩=>?_;refine cC s ev h fun q H' as xs S' stp sm ev r k=>?_;unfold zU at k;split at k
 ·rename_i ys
  cases r with
  | cons r1 r2 =>
   cases r2;rename_i x;have r1:aL X.K q.c H' (.lst ys) x:=r1;unfold aL at r1;obtain ⟨a,vs,rfl,l,z,r⟩:=r1;exact ⟨a,rfl,⟨vs,l.sq⟩,bS.ret (R:=eT X.K) k sm (Km (by rw [r.length]; exact z) fun q H1 S1 st sm g=>⟨vs,(st.lat l).sq,st.reps r⟩)⟩
 ·rename_i j
  cases r with
  | cons r1 r2 =>
   cases r2;split at k
   ·rename_i xs1 S1 hx
    obtain ⟨a,e1,rfl⟩:=r1;cases z:S'[j]? with
    | none=>unfold cN at hx; simp only [z] at hx; cases hx
    | some o =>
     cases o with
     | lol _=>unfold cN at hx; simp only [z] at hx; cases hx
     | dic _ _=>unfold cN at hx; simp only [z] at hx; cases hx
     | dol _ _=>unfold cN at hx; simp only [z] at hx; cases hx
     | lst ys =>
      unfold cN at hx;simp only [z] at hx;cases hx;obtain ⟨vs,h1,l1,r1⟩:=sm.obj j a _ e1 z;refine ⟨a,rfl,⟨vs,bY.of h1⟩,bS.ret (R:=eT X.K) k sm (Km (by rw [r1.length]; exact l1) fun q H1 S1 st sm g=>?_)⟩;obtain ⟨ws,h2,l2,r2⟩:=sm.obj j a _ (st.at_ e1) (g (j,ys) List.mem_cons_self);exact ⟨ws,bY.of h2,r2⟩
   ·exact k.elim
 ·exact k.elim
end
end L2.Pp
namespace L2.Pp
open PySem PySem.Spec PyProof.Rows Bn
theorem oS {A:Around} {k:Nat} (hr:eH k A):A.units+8 < cLine:=by
 have:=hr.units;omega
section
variable {K:PySem.W.Frag} {cl:Str→Addr} {E:XK} {X:Cx} {a b c e l tg:Expr} {es:List Expr} {m ma mb:ME} {ms:MA} {pos:Pos} {p q:Ph} {H H':Hp} {S:aI}
def kD (n:String):PV→Option PV
 | .int _=>if n="int" then some (.bl true) else if n="bool" then some (.bl false) else none
 | .tup _=>if n="tuple" then some (.bl true) else none
 | .lst _=>if n="list" then some (.bl true) else none
 | .str _=>if n="str" then some (.bl true) else none
 | .bl _=>if n="bool" then some (.bl true) else none
 | _=>none
theorem rE (K:PySem.W.Frag) (n:String):PySem.W.kitOne K (.type n) (.type n)=some true:=by
 unfold PySem.W.kitOne;rw [if_pos (beq_self_eq_true _)]
def Ao (K:PySem.W.Frag) (n:String):V→Hp→VK→Prop:=fun x H Q=>(∃ t b,jA K H x t∧PySem.W.kitOne K t (.type n)=some b∧Q (.bl b) H)∨(n="tuple"∧∃ a xs,x=.ref a∧dC K H a xs∧Q (.bl true) H)∨(n="list"∧∃ a xs,x=.ref a∧bY K H a xs∧Q (.bl true) H)
theorem Zs (n:String):iA X (.builtin "isinstance") (fun xs H Q=>∃ x,xs=[x,.ty n]∧Ao X.K n x H Q):=by
 intro pins s σ H xs us Q I r h;obtain ⟨x,rfl,h⟩:=h;obtain ⟨u,c,rfl,rx,rc⟩:=Gn r;cases (show c=Value.type n from rc);rcases h with ⟨t,b,ty,e,q⟩ | ⟨rfl,a,xs,rfl,t,q⟩ | ⟨rfl,a,xs,rfl,t,q⟩
 ·exact Yr I rx ty e fun tk=>⟨.bl b,H,I.tok tk,rfl,q⟩
 ·cases rx
  obtain ⟨its,_,⟨o,h1,h2,_⟩,_⟩:=I.tuple t;exact PySem.W.kia_one PySem.W.kitx_tuple I.kIn ⟨o,h1,h2⟩ (rE X.K "tuple") (fun z=>nomatch z) fun tk=>⟨.bl true,H,I.tok tk,rfl,q⟩
 ·cases rx
  obtain ⟨its,_,pl,_⟩:=I.list t;obtain ⟨o,h1,h2,_⟩:=pl.isList;exact PySem.W.kia_one PySem.W.kitx_list I.kIn ⟨o,h1,h2⟩ (rE X.K "list") (fun z=>nomatch z) fun tk=>⟨.bl true,H,I.tok tk,rfl,q⟩
theorem O8 (n:String):vU K (Ao K n) (kD n):=fun {p S H a c x Q} s ra e k=>by
 have fin:∀ b,c=.bl b→Q (.bl b) H:=fun b h=>by
  subst h;exact k H _ (dP.refl H) (by unfold aL; rfl)
 cases a with
 | int i =>
  cases ra.int;unfold kD at e;dsimp only at e;split at e
  ·rename_i hn
   cases e;subst hn;exact .inl ⟨_,true,.int i,rE K _,fin _ rfl⟩
  ·split at e
   ·rename_i hn
    cases e;subst hn;exact .inl ⟨_,false,.int i,M4 K,fin _ rfl⟩
   ·cases e
 | bl i =>
  cases ra.bl;unfold kD at e;dsimp only at e;split at e
  ·rename_i hn
   cases e;subst hn;exact .inl ⟨_,true,.bl i,rE K _,fin _ rfl⟩
  ·cases e
 | str i =>
  cases ra.str;unfold kD at e;dsimp only at e;split at e
  ·rename_i hn
   cases e;subst hn;exact .inl ⟨_,true,.str i,rE K _,fin _ rfl⟩
  ·cases e
 | tup xs =>
  obtain ⟨a,vs,rfl,t,_,_⟩:=ra.tup;unfold kD at e;dsimp only at e;split at e
  ·rename_i hn
   cases e;exact .inr (.inl ⟨hn,a,vs,rfl,t,fin _ rfl⟩)
  ·cases e
 | lst xs =>
  obtain ⟨a,vs,rfl,t,_,_⟩:=ra.lst;unfold kD at e;dsimp only at e;split at e
  ·rename_i hn
   cases e;exact .inr (.inr ⟨hn,a,vs,rfl,t,fin _ rfl⟩)
  ·cases e
 | non=>cases e
theorem J7 {n:String} {t:Str} {p p2:Pos} (hg:Gl X "isinstance") (hm:X.mg "isinstance"=none) (hgt:Gl X t) (hmt:X.mg t=none) (hv:bootBuiltins t=some (.type n)) (ha:aW K cl E X a m)
  (htn:t≠"__name__":=by decide) (htd:(t == ("__debug__":Str))=false:=by decide)
  (he:starEach [a,.Name t p2] X.env=(false,eval a X.env) :: starEach [.Name t p2] X.env:=by rfl) (he2:starEach [.Name t p2] X.env=[(false,eval (.Name t p2) X.env)]:=by rfl) (hpl:(backTo pos (starEach [.Name t p2] X.env)).any (·.1)=false:=by rfl) :
  aW K cl E X (.Call (.Name "isinstance" p) [a,.Name t p2] [] pos) (cD (kD n) m):=by
 intro hK;subst hK;refine PE.imp (yT (Zs n) hg hm PyProof.Rows.boot_isinstance (pH (ha rfl) (pH (Ry hgt hmt hv (v:=.ty n) rfl htn htd) rS he2) he) (by decide) (by decide) he hpl) fun σ H Q ⟨p,S,ρ,s,ev,h⟩=>?_;exact cC s ev h fun q H' as x S' stp sm ev r k=>⟨x,rfl,yB (O8 n) sm r k⟩
def uT (K:PySem.W.Frag):Sp:=fun vs H Q _=>∃ (a:Addr) (ns:List Int),vs=[.ref a]∧bY K H a (ns.map V.int)∧ns.length≤63∧∀ H',Q (.bl true) H'
theorem Yx {f:FM} (ht:∀ ns:List Int,ns.length≤63→∃ S,f [.pv (.lst (ns.map .int))] []=.ok (.pv (.bl true)) S) {vs:List V} {H:Hp} {Q:VK} {E:XK} (h:uT K vs H Q E):lY K cl f vs H Q E:=by
 obtain ⟨a,ns,rfl,hS,hl,hQ⟩:=h;obtain ⟨S,e⟩:=ht ns hl;have rs:∀ (ns:List Int),aM K (fun _=>False) H (ns.map .int) (ns.map V.int):=fun ns=>by
  induction ns with
  | nil=>exact .nil
  | cons n ns ih=>exact .cons (by unfold aL; rfl) ih
 refine ⟨⟨[],fun _=>False,fun _=>False⟩,[],[.pv (.lst (ns.map .int))],⟨List.nodup_nil,rfl,(fun _ h=>absurd h (List.not_mem_nil)),(fun _ h=>h),(fun _ h=>h.elim),(fun k a o e=>by simp at e)⟩,.cons ?_ .nil,?_⟩
 ·show aL K (fun _=>False) H (.lst (ns.map .int)) (.ref a)
  unfold aL;refine ⟨a,_,rfl,?_,?_,rs ns⟩
  ·rcases hS with (h | h) | h
   ·exact .inl ⟨h,fun z=>z⟩
   ·exact .inr (.inl h)
   ·exact .inr (.inr h)
  ·rw [List.length_map,iV]
   omega
 ·rw [e]
  intro q H' x st sm r;have r:aL K q.c H' (.bl true) x:=r;unfold aL at r;rw [r];exact hQ H'
end
end L2.Pp
namespace L2.Pp
open PySem PySem.Spec PyProof.Rows Bn
section
variable {K:PySem.W.Frag} {cl:Str→Addr} {E:XK} {X:Cx} {e:Expr} {es:List Expr} {ms:MA} {p q:Ph} {H H':Hp} {S:aI}
theorem dB.forget {ρ:bR} {σ:St} (h:dB K p H ρ σ) (i:Nat) (x:Option V):dB K p H (ρ.set i none) (σ.set i x):=by
 refine ⟨by rw [List.length_set,List.length_set,h.len],fun j u e=>?_⟩
 by_cases q:i=j
 ·subst q
  by_cases l:i < ρ.length
  ·rw [List.getElem?_set_self l] at e
   cases e
  ·rw [List.getElem?_eq_none (by rw [List.length_set]; omega)] at e
   cases e
 ·rw [List.getElem?_set_ne q] at e ⊢
  exact h.at_ j u e
variable {k:Nat} {f:Addr} {fd:FuncData} {ps:List Str} {g:FM} {dvs:List V} {ds:List Value} {dv:List PV} {x:Str} {pp pos pos1 pos2 pos3 pc:Pos} {c n:Str} {i nn:Nat} {b₀:Stmt} {body:List Stmt} {newId:String} {up:bR→bR}
end
end L2.Pp
namespace L2
open PySem PySem.Spec PyProof.Rows Bn
section
variable {X:Cx} {k:Nat} {f:Addr} {fd:FuncData} {ps:List Str} {sp:Sp} {dvs:List V} {ds:List Value} {x:Str} {p pos pos1 pos2 pos3 pc:Pos} {e:Expr} {es:List Expr} {t:TA} {c n:Str} {C:Addr} {i:Nat} {b₀:Stmt} {body:List Stmt} {newId:String}
end
end L2
namespace L2.Pp
open PySem PySem.Spec PyProof.Rows Bn
section
variable {K:PySem.W.Frag} {cl:Str→Addr} {E:XK} {X:Cx} {e:Expr} {es:List Expr} {ms:MA} {p q:Ph} {H H':Hp} {S:aI}
variable {k:Nat} {f:Addr} {fd:FuncData} {ps:List Str} {g:FM} {dvs:List V} {ds:List Value} {dv:List PV} {x:Str} {pp pos pos1 pos2 pos3 pc:Pos} {c n:Str} {i nn:Nat} {b₀:Stmt} {body:List Stmt} {newId:String} {up:bR→bR}
end
end L2.Pp
namespace L2.Pp
open PySem
section
variable {prog:Program} {w:World} {A:Around} {E:Value→Shared→Prop} {s:Shared}
end
end L2.Pp
namespace L2
open PySem PyProof.Rows
end L2
namespace L2.Pp
open PySem
end L2.Pp
namespace L2
open PySem PySem.Spec PyProof.Rows Bn
section
variable {X:Cx}
theorem Nd (is:List Int):∀ j,j≤is.length→preSum (fun i=>is.getD i 0) j=(is.take j).sum
 | 0,_=>by simp [preSum]
 | j+1,h=>by
  have hj:j < is.length:=h;rw [preSum,Nd is j (by omega),List.take_add_one,List.getElem?_eq_getElem hj,Option.toList_some,List.sum_append,List.sum_singleton];simp only [List.getD,List.getElem?_eq_getElem hj,Option.getD_some]
theorem Gs (hc:X.calm=true):iA X (.builtin "sum") (fun xs H Q=>∃ (a:Addr) (is:List Int),xs=[.ref a]∧bY X.K H a (is.map V.int)∧Q (.int is.sum) H):=by
 intro pins s σ H xs us Q I r h;obtain ⟨a,is,rfl,hq,q⟩:=h;obtain ⟨u,rfl,ru⟩:=jL r;cases ru;obtain ⟨its,rv,pl,hz⟩:=I.list hq;have hl:is.length=its.length:=by
  have:=rv.length
  rwa [List.length_map] at this
 refine call_sum_walkG (wpAny_pyIter_list pl.isList ?_);have ha:a < s.heap.objs.size:=by
  obtain ⟨o,ho,_⟩:=pl.isList;exact Heap.lt_size ho
 refine ⟨_,_,_,_,_,_,fun i=>is.getD i 0,rfl,Walks.list (prog:=X.prog) (w:=X.w) (A:=X.A.in1) (show X.A.in1.handled=none from I.ok.hd hc) s.heap.objs.size a (Nat.ne_of_lt ha) its.toArray,⟨⟨_,Heap.get?_push_size _ rfl,rfl,rfl⟩,Heap.IsList.at pl.isList fun o e=>Heap.get?_push_of_some _ e⟩,fun b hb=>?_,fun i v hv=>?_,fun h' tk t' kp=>?_⟩
 ·have hb':b=s.heap.objs.size∨b=a:=by simpa using hb
  rw [Heap.size_push];rcases hb' with e | e <;> rw [e]
  ·exact Nat.lt_succ_self _
  ·exact Nat.lt_succ_of_lt ha
 ·have hv':its[i]?=some v:=by simpa using hv
  have hi:i < is.length:=by
   have:=(List.getElem?_eq_some_iff.mp hv').1;omega
  obtain ⟨u,hu,ru⟩:=rv.get (i:=i) (x:=.int is[i]) (by rw [List.getElem?_map,List.getElem?_eq_getElem hi]; rfl);rw [hv'] at hu;cases hu;obtain ⟨t,ht⟩:=(show ∃ t,v=Value.int is[i] t from ru);exact ⟨t,by rw [ht]; simp [List.getD,hi]⟩
 ·have e:preSum (fun i=>is.getD i 0) its.toArray.size=is.sum:=by
   rw [List.size_toArray,← hl,Nd is _ (Nat.le_refl _),List.take_length]
  show EP X pins σ Q (.int (preSum (fun i=>is.getD i 0) its.toArray.size) t') _;rw [e];have I1:aG X pins σ H { s with heap:=s.heap.push { cls:=.type "list_iterator",data:=.fields #[.ref a,.int 0 0] },toks:=s.toks }:=I.kept fun b o z=>Heap.get?_push_of_some _ z;have fp:eW X pins H s.heap.objs.size:=I.fpOk (Nat.le_refl _) (I.hok.fresh (Nat.le_refl _));obtain ⟨f0,f1,f2,f3,f4,f5⟩:=fp;exact ⟨.int is.sum,H,I1.turned (fun b o hb z=>kp b o (by simpa using hb) z) f0 f1 f3 f4 f5,⟨t',rfl⟩,q⟩
theorem Nr (is:List Int):(List.range is.length).any (fun i=>is.getD i 0 != 0)=is.any (· != 0):=by
 rw [Bool.eq_iff_iff,List.any_eq_true,List.any_eq_true];constructor
 ·rintro ⟨i,hi,z⟩
  have hi':i < is.length:=by simpa using hi
  exact ⟨is[i],List.getElem_mem hi',by simpa [List.getD,hi'] using z⟩
 ·rintro ⟨b,hb,z⟩
  obtain ⟨i,hi,rfl⟩:=List.mem_iff_getElem.mp hb;exact ⟨i,by simpa using hi,by simpa [List.getD,hi] using z⟩
end
end L2
namespace L2.Pp
open PySem PySem.Spec PyProof.Rows Bn
section
variable {K:PySem.W.Frag} {cl:Str→Addr} {E:XK} {X:Cx}
def jI:List PV→Option (List Int)
 | []=>some []
 | .int b :: r=>match jI r with
  | some bs=>some (b :: bs)
  | none=>none
 | _ :: _=>none
theorem tG {c:Addr→Prop} {H:Hp}:∀ {xs:List PV} {bs:List Int} {vs:List V},jI xs=some bs→aM K c H xs vs→vs=bs.map V.int
 | [],bs,vs,e,r=>by
  cases e;unfold aM at r;exact r
 | .int b :: xs,bs,vs,e,r=>by
  unfold jI at e;split at e
  ·rename_i cs h
   cases e;unfold aM at r;obtain ⟨v,w,rfl,r1,r2⟩:=r;unfold aL at r1;rw [r1,tG h r2];rfl
  ·cases e
 | .non :: _,_,_,e,_=>by cases e
 | .bl _ :: _,_,_,e,_=>by cases e
 | .str _ :: _,_,_,e,_=>by cases e
 | .tup _ :: _,_,_,e,_=>by cases e
 | .lst _ :: _,_,_,e,_=>by cases e
def qE:List PV→Option PV
 | [.lst xs]=>(jI xs).map fun bs=>.int bs.sum
 | _=>none
theorem P5:kF K (fun xs H Q=>∃ (a:Addr) (is:List Int),xs=[.ref a]∧bY K H a (is.map V.int)∧Q (.int is.sum) H) qE:=fun {p S H as c xs Q} s ra e k=>by
 unfold qE at e;split at e
 ·rename_i zs
  cases y:jI zs with
  | none=>rw [y] at e; cases e
  | some bs =>
   rw [y] at e;cases e;cases ra with
   | cons h t =>
    cases t;obtain ⟨a,vs,rfl,l,z,r⟩:=h.lst;rw [tG y r] at l;exact ⟨a,bs,rfl,l,k H _ (dP.refl H) (iE (v:=.int _) rfl)⟩
 ·cases e
end
end L2.Pp
namespace L2.Pp
open PySem PySem.Spec PyProof.Rows Bn
section
variable {K:PySem.W.Frag} {cl:Str→Addr} {E:XK} {X:Cx} {p q:Ph} {H H':Hp} {S:aI}
variable {sc:Scope} {own:List Str} {cap:List (Nat × Str)} {elt target iter:Expr} {pos:Pos} {mi:MI} {g:GM} {me:ME}
end
section
variable {K:PySem.W.Frag} {cl:Str→Addr} {E:XK} {X:Cx} {e:Expr} {m:ME} {pos p2:Pos}
end
end L2.Pp
namespace L2.Pp
open PySem PySem.Spec PyProof.Rows Bn
section
variable {K:PySem.W.Frag} {cl:Str→Addr} {E:XK} {X:Cx}
end
end L2.Pp
namespace L2
open PySem PySem.Spec PyProof.Rows Bn
open PySem.W (KasT kas_sort kas_ask KatLex KatGo KatTups kat_run kat_kind kat_lt kat_one kas_item kat_snds)
def mE {α:Type} (lt:Nat→Nat→Bool):KasT α→α
 | .ret a=>a
 | .ask i j k=>mE lt (k (lt i j))
def gZ {α:Type} (n:Nat):KasT α→Bool
 | .ret _=>true
 | .ask i j k=>decide (i < n) && decide (j < n) && gZ n (k true) && gZ n (k false)
theorem Eh {α:Type} {cmp:Nat→Nat→(Bool→Shared→Prop)→Shared→Prop} {lt:Nat→Nat→Bool} {n:Nat} {s:Shared} (hc:∀ i j (C:Bool→Shared→Prop),i < n→j < n→C (lt i j) s→cmp i j C s):∀ (t:KasT α) (Q:α→Shared→Prop),gZ n t=true→Q (mE lt t) s→t.kasWp cmp Q s
 | .ret a,Q,_,h=>h
 | .ask i j k,Q,ok,h=>by
  unfold gZ at ok;simp only [Bool.and_eq_true,decide_eq_true_eq] at ok;obtain ⟨⟨⟨hi,hj⟩,h1⟩,h2⟩:=ok;refine hc i j _ hi hj (Eh hc (k (lt i j)) Q ?_ h);cases lt i j
  ·exact h2
  ·exact h1
def pW (h:Heap) (v:Value) (us:List Int):Prop:=∃ a o its n,v=.ref a∧h.get? a=some o∧o.cls=.type "tuple"∧o.data=.seq (List.toArray its) n∧bC (us.map V.int) its
section
variable {prog:Program} {w:World} {A:Around} {E:Value→Shared→Prop} {s:Shared}
theorem Cj {Q:Bool→Shared→Prop}:∀ (us vs:List Int) (its jts:List Value) (i:Nat) (fin:Bool),bC (us.map V.int) its→bC (vs.map V.int) jts→fin=decide (us.length < vs.length)→Q (HT.lexLt us vs) s→KatLex prog w A true fin Q (its.zip jts) i s
 | [],vs,its,jts,i,fin,h1,h2,hf,hQ=>by
  cases h1;cases vs with
  | nil =>
   subst hf;exact PySem.W.kat_nil hQ
  | cons v vs =>
   have e:fin=true:=by rw [hf]; simp
   subst e;exact PySem.W.kat_nil hQ
 | u :: us,[],its,jts,i,fin,h1,h2,hf,hQ=>by
  cases h2;have e:fin=false:=by rw [hf]; simp
  subst e;rw [List.zip_nil_right];exact PySem.W.kat_nil hQ
 | u :: us,v :: vs,its,jts,i,fin,h1,h2,hf,hQ=>by
  cases h1 with
  | cons r1 t1 =>
   cases h2 with
   | cons r2 t2 =>
    obtain ⟨k1,rfl⟩:=r1;obtain ⟨k2,rfl⟩:=r2;rw [List.zip_cons_cons];refine PySem.W.kat_cons (wpAny_eqBool_int ?_);rw [HT.lexLt_cons] at hQ
    by_cases e:u=v
    ·rw [if_pos e] at hQ
     have b:(u == v)=true:=by simpa using e
     rw [b];exact PySem.W.kat_yes (Cj us vs _ _ (i+1) fin t1 t2 (by rw [hf]; simp) hQ)
    ·rw [if_neg e] at hQ
     have b:(u == v)=false:=by simpa using e
     rw [b];refine PySem.W.kat_no ?_
     by_cases hi:i=0
     ·subst hi
      exact oneLt_int hQ
     ·have b2:(true && i == 0)=false:=by simpa using hi
      rw [b2];exact kat_one _ _ (PySem.P.lt_int hQ)
theorem E3 {x y:Value} {us vs:List Int} {Q:Bool→Shared→Prop} (hx:pW s.heap x us) (hy:pW s.heap y vs) (h:Q (HT.lexLt us vs) s):wpAny (model prog w) A (keyLt' (tuples' true) x y) Q E s:=by
 obtain ⟨a,o,its,n,rfl,ho,hc,hd,r⟩:=hx;obtain ⟨b,o2,jts,k,rfl,ho2,hc2,hd2,r2⟩:=hy;refine kat_lt ho hd ho2 hd2 ?_;have l1:=r.length;have l2:=r2.length;rw [List.length_map] at l1 l2;refine Cj us vs its jts 0 _ r r2 ?_ h;rw [List.size_toArray,List.size_toArray,l1,l2]
theorem Be:∀ (vs:List Value) (uss:List (List Int)),vs.length=uss.length→(∀ i,i < vs.length→pW s.heap (vs.getD i Value.none) (uss.getD i [])∧uss.getD i []≠[])→∃ fs,KatTups s.heap vs fs∧fs.length=vs.length∧∀ v∈fs,∃ i t,v=.int i t
 | [],uss,_,_=>⟨[],trivial,rfl,fun _ h=>absurd h List.not_mem_nil⟩
 | v :: vs,[],hl,_=>by cases hl
 | v :: vs,us :: uss,hl,h=>by
  obtain ⟨fs,k,l,q⟩:=Be vs uss (by simpa using hl) fun i hi=>by
   have:=h (i+1) (by simp; omega);simpa using this
  obtain ⟨⟨a,o,its,n,e,ho,hc,hd,r⟩,ne⟩:=h 0 (by simp);have e:v=.ref a:=e;subst e;cases us with
  | nil=>exact absurd rfl ne
  | cons u us =>
   have r:bC (V.int u :: us.map V.int) its:=r;cases r with
   | cons r1 t1 =>
    obtain ⟨t,rfl⟩:=r1;refine ⟨.int u t :: fs,KatTups.cons ho hc hd (by simp) k,by simp [l],fun x hx=>?_⟩;rcases List.mem_cons.mp hx with rfl | hx
    ·exact ⟨u,t,rfl⟩
    ·exact q x hx
def dI (uss:List (List Int)):List Nat:=(mE (fun i j=>HT.lexLt (uss.getD i []) (uss.getD j [])) (kas_sort uss.length)).toList
theorem Dp {a:Addr} {vs:List Value} {uss:List (List Int)} {n:Nat} {P:PySem.Fin→Shared→Prop} (ho:s.heap.get? a=some (seqObj "list" vs.toArray n)) (hl:vs.length=uss.length) (h2:2≤vs.length) (h64:vs.length < 64) (ok:gZ uss.length (kas_sort uss.length)=true)
  (tu:∀ i,i < vs.length→pW s.heap (vs.getD i Value.none) (uss.getD i [])∧uss.getD i []≠[])
  (h:P (.done (.ret .none)) { s with heap:=sortedHeap s.heap a vs (List.toArray ((dI uss).map fun i=>vs.getD i Value.none)) }) :
  wpAny (model prog w) A (Builtin.«list.sort» ⟨[.ref a],[]⟩) P E s:=by
 have ha:a < s.heap.objs.size:=Heap.lt_size ho;obtain ⟨e1,ho1⟩:∃ e1,(s.heap.update a (Obj.mapSeq fun _=>(#[]:Array Value))).get? a=some (seqObj "list" #[] e1):=⟨_,get?_update_seq ho fun _=>#[]⟩;have kp:∀ b o,b≠a→s.heap.get? b=some o→(((s.heap.update a (Obj.mapSeq fun _=>(#[]:Array Value))).push (seqObj "tuple" vs.toArray 0)).push (seqObj "list" #[] 0)).get? b=some o:=fun b o hb e =>
  Heap.get?_push_of_some _ (Heap.get?_push_of_some _ ((Heap.get?_update_ne _ _ _ _ hb).trans e))
 have tu2:∀ i,i < vs.length→pW (((s.heap.update a (Obj.mapSeq fun _=>(#[]:Array Value))).push (seqObj "tuple" vs.toArray 0)).push (seqObj "list" #[] 0)) (vs.getD i Value.none) (uss.getD i [])∧uss.getD i []≠[]:=fun i hi=>by
  obtain ⟨⟨b,o,its,m,e,hb,hc,hd,r⟩,ne⟩:=tu i hi;refine ⟨⟨b,o,its,m,e,kp b o (fun z=>?_) hb,hc,hd,r⟩,ne⟩;subst z;rw [ho] at hb;cases hb;have hc:Value.type "list"=Value.type "tuple":=hc;injection hc with hc;exact absurd hc (by decide)
 have na:(((s.heap.update a (Obj.mapSeq fun _=>(#[]:Array Value))).push (seqObj "tuple" vs.toArray 0)).push (seqObj "list" #[] 0)).get? a=some (seqObj "list" #[] e1):=Heap.get?_push_of_some _ (Heap.get?_push_of_some _ ho1);rw [list_sort_plain];refine wpAny_bind (listItems_at ho rfl ?_);refine wpAny_bind (listUpdate_at ho rfl ?_ (by rw [List.size_toArray,sizeLine_eq]; omega) (Nat.zero_le _));refine wpAny_bind (seqEpoch_at ho1 rfl ?_);refine wpAny_bind (wpAny_newTuple ?_ (by show vs.length≤_; rw [sizeLine_eq]; omega));refine wpAny_bind (wpAny_newList ?_ (Nat.zero_le _));refine wpAny_holding ?_;show wpAny (model prog w) A _ P E { s with heap:=((s.heap.update a (Obj.mapSeq fun _=>(#[]:Array Value))).push (seqObj "tuple" vs.toArray 0)).push (seqObj "list" #[] 0) };dsimp only;have hn2:¬ vs.toArray.size < 2:=by rw [List.size_toArray]; omega
 rw [if_neg hn2,if_neg hn2];obtain ⟨fs,kt,lf,qf⟩:=Be (s:={ s with heap:=((s.heap.update a (Obj.mapSeq fun _=>(#[]:Array Value))).push (seqObj "tuple" vs.toArray 0)).push (seqObj "list" #[] 0) }) vs uss hl tu2;refine wpAny_bind (kat_kind (T:=.type "int") kt (by omega) (fun v hv=>?_) rfl ?_)
 ·obtain ⟨i,t,rfl⟩:=qf v hv
  exact .now
 have bt:(Value.type "int" != Value.type "tuple")=true:=by decide
 rw [bt];refine wpAny_bind (wpAny_mono (kat_run (Q:=fun st' s'=>∃ p:Array Nat,p.size=vs.length∧arrOf st'=p.map (kas_item (vs.toArray.zip vs.toArray))∧failedOf st'=none∧p.toList=dI uss∧s'={ s with heap:=((s.heap.update a (Obj.mapSeq fun _=>(#[]:Array Value))).push (seqObj "tuple" vs.toArray 0)).push (seqObj "list" #[] 0) })
  (G:=fun p s'=>p.toList=dI uss∧s'={ s with heap:=((s.heap.update a (Obj.mapSeq fun _=>(#[]:Array Value))).push (seqObj "tuple" vs.toArray 0)).push (seqObj "list" #[] 0) })
  rfl h2 h64 (fun p' st' s' a1 a2 a3 a4=>⟨p',a1,a2,a3,a4⟩) ?_) ?_ fun _ _ e=>e)
 ·rw [hl]
  refine Eh (lt:=fun i j=>HT.lexLt (uss.getD i []) (uss.getD j [])) (n:=uss.length) (fun i j C hi hj hC=>?_) _ _ ok ⟨rfl,rfl⟩;exact E3 (tu2 i (by omega)).1 (tu2 j (by omega)).1 hC
 rintro ⟨⟨⟩,st'⟩ s' ⟨p,hp,har,hf,hpl,rfl⟩
 dsimp only;have hout:=kat_snds rfl har;have hsz:(List.toArray (p.toList.map fun i=>vs.getD i Value.none)).size=vs.length:=by rw [List.size_toArray,List.length_map,Array.length_toList,hp]
 rw [hout];refine wpAny_bind (seqEpoch_at na rfl ?_);refine wpAny_bind (listUpdate_at na rfl ?_ (Nat.zero_le _) (Nat.le_trans (Nat.le_of_eq hsz) (by rw [sizeLine_eq]; omega)));rw [hf];simp only [bne_self_eq_false,Bool.false_eq_true,if_false];refine wpAny_pure ?_;rw [hpl];exact h
theorem Wq {l:Addr} {o:Obj} {T:String} {vs:List Value} {uss:List (List Int)} {n:Nat} {Q:Value→Shared→Prop} (hT:T="list"∨T="tuple") (ho:s.heap.get? l=some o) (hc:o.cls=.type T) (hd:o.data=.seq vs.toArray n) (hl:vs.length=uss.length) (h2:2≤vs.length) (h64:vs.length < 64) (ok:gZ uss.length (kas_sort uss.length)=true)
  (tu:∀ i,i < vs.length→pW s.heap (vs.getD i Value.none) (uss.getD i [])∧uss.getD i []≠[])
  (h:∀ (h1 h':Heap) (c:Nat),(∀ b o',s.heap.get? b=some o'→h1.get? b=some o')→(∀ b o',h1.get? b=some o'→h'.get? b=some o')→h'.get? h1.objs.size=some (seqObj "list" (List.toArray ((dI uss).map fun i=>vs.getD i Value.none)) c)→Q (.ref h1.objs.size) { s with heap:=h' }) :
  wpAny (model prog w) A (call (.builtin "sorted") [.ref l]) Q E s:=by
 refine PySem.Calls.call_function_entry kind_sorted plain_sorted entry_sorted (args_sorted1 _) ?_;unfold Builtin.«sorted»;refine wpAny_bind (m:=checkCount "sorted" 1 1 _) (wpAny_pure ?_);refine wpAny_bind (wpAny_collect_seq l hT ho hc hd (fun h1 k1=>?_) (by rw [List.size_toArray,sizeLine_eq]; omega));refine wpAny_bind (wpAny_newList ?_ (by rw [sizeLine_eq]; simp; omega));have hoL:(h1.push (seqObj "list" vs.toArray 0)).get? h1.objs.size=some (seqObj "list" vs.toArray 0):=Heap.get?_push_size _ rfl;show wpAny _ _ _ _ _ { s with heap:=h1.push (seqObj "list" vs.toArray 0) };refine wpAny_bind (wpAny_holding (wpAny_call_entry slot_list_sort ⟨_,hoL,rfl⟩ entry_list_sort ?body (args_list_sort _)))
 case body =>
  refine Dp (s:={ s with heap:=h1.push (seqObj "list" vs.toArray 0) }) hoL hl h2 h64 ok (fun i hi=>?_) ⟨_,rfl,wpAny_pure ⟨_,rfl,?_⟩⟩
  ·obtain ⟨⟨b,o,its,m,e,hb,hc,hd,r⟩,ne⟩:=tu i hi
   exact ⟨⟨b,o,its,m,e,Heap.get?_push_of_some _ (k1 b o hb),hc,hd,r⟩,ne⟩
  ·obtain ⟨e1,ho1⟩:∃ e1,((h1.push (seqObj "list" vs.toArray 0)).update h1.objs.size (Obj.mapSeq fun _=>(#[]:Array Value))).get? h1.objs.size=some (seqObj "list" #[] e1):=⟨_,get?_update_seq hoL fun _=>#[]⟩
   have ho2:=Heap.get?_push_of_some (seqObj "list" #[] 0) (Heap.get?_push_of_some (seqObj "tuple" vs.toArray 0) ho1);obtain ⟨e2,ho3⟩:∃ e2,(sortedHeap (h1.push (seqObj "list" vs.toArray 0)) h1.objs.size vs (List.toArray ((dI uss).map fun i=>vs.getD i Value.none))).get? h1.objs.size=some (seqObj "list" (List.toArray ((dI uss).map fun i=>vs.getD i Value.none)) e2):=⟨_,get?_update_seq ho2 fun _=>List.toArray ((dI uss).map fun i=>vs.getD i Value.none)⟩;refine h h1 _ e2 k1 (fun b o' hb1=>?_) ho3;have hne:b≠h1.objs.size:=Nat.ne_of_lt (Heap.lt_size hb1);exact (Heap.get?_update_ne _ _ _ _ hne).trans (Heap.get?_push_of_some _ (Heap.get?_push_of_some _ ((Heap.get?_update_ne _ _ _ _ hne).trans (Heap.get?_push_of_some _ hb1))))
end
def Pa (K:PySem.W.Frag) (H:Hp) (ts:List V) (uss:List (List Int)):Prop:=ts.length=uss.length∧∀ i t,ts[i]?=some t→∃ a,t=.ref a∧dC K H a ((uss.getD i []).map V.int)∧uss.getD i []≠[]
theorem Zq {X:Cx}:iA X (.builtin "sorted") (fun xs H Q=>∃ (a:Addr) (ts:List V) (uss:List (List Int)),xs=[.ref a]∧(bY X.K H a ts∨dC X.K H a ts)∧Pa X.K H ts uss∧2≤ts.length∧ts.length < 64∧gZ uss.length (kas_sort uss.length)=true∧(dI uss).length≤64 ∧
  ∀ l,H l=none→Q (.ref l) (aT H l (.lst ((dI uss).map fun i=>ts.getD i .non)))):=by
 intro pins s σ H xs us Q I r h;obtain ⟨a,ts,uss,rfl,hq,⟨hl,ht⟩,h2,h64,ok,hpl,q⟩:=h;obtain ⟨u,rfl,ru⟩:=jL r;cases ru;have go:∀ (its:List Value) (T:String) (o:Obj) (n:Nat),bC ts its→(T="list"∨T="tuple")→s.heap.get? a=some o→o.cls=.type T→o.data=.seq its.toArray n→ts.length≤sizeLine →
   wpAny (model X.prog X.w) X.A (call (.builtin "sorted") [.ref a]) (EP X pins σ Q) X.xe s:=fun its T o n rv hT ho hc hd hz=>by
  have hlen:=rv.length;refine Wq (uss:=uss) hT ho hc hd (by omega) (by omega) (by omega) ok (fun i hi=>?_) fun h1 h' c k1 k2 e=>?_
  ·have hi':i < ts.length:=by omega
   obtain ⟨b,e1,sq,ne⟩:=ht i ts[i] (List.getElem?_eq_getElem hi');obtain ⟨v,e2,rel⟩:=rv.get (List.getElem?_eq_getElem hi');rw [e1] at rel;cases rel;obtain ⟨jts,rj,⟨o2,ho2,hc2,m,hd2⟩,_⟩:=I.tuple sq;refine ⟨⟨b,o2,jts,m,?_,ho2,hc2,hd2,rj⟩,ne⟩;rw [List.getD,e2];rfl
  ·have I1:aG X pins σ H { s with heap:=h1,toks:=s.toks }:=I.kept k1
   have hz2:((dI uss).map fun i=>ts.getD i .non).length≤sizeLine:=by
    rw [List.length_map,sizeLine_eq];omega
   have rel:∀ ps:List Nat,bC (ps.map fun i=>ts.getD i .non) (ps.map fun i=>its.getD i Value.none):=fun ps=>by
    induction ps with
    | nil=>exact .nil
    | cons i ps ih =>
     refine .cons ?_ ih
     by_cases hi:i < ts.length
     ·obtain ⟨v,e2,rr⟩:=rv.get (List.getElem?_eq_getElem hi)
      have q1:ts.getD i .non=ts[i]:=by simp [List.getD,hi]
      have q2:its.getD i Value.none=v:=by simp [List.getD,e2]
      show bQ (ts.getD i .non) (its.getD i Value.none);rw [q1,q2];exact rr
     ·have q1:ts.getD i .non=.non:=by simp [List.getD,hi]
      have q2:its.getD i Value.none=Value.none:=by simp [List.getD,show its.length≤i by omega]
      show bQ (ts.getD i .non) (its.getD i Value.none);rw [q1,q2];rfl
   refine ⟨.ref h1.objs.size,_,I1.laid (t':=s.toks) (o:=.lst ((dI uss).map fun i=>ts.getD i .non)) k2 (Nat.le_refl _) ?_,rfl,q _ (I1.hok.fresh (Nat.le_refl _))⟩;exact ⟨hz2,_,c,rel _,e⟩
 rcases hq with hq | hq
 ·obtain ⟨its,rv,pl,hz⟩:=I.list hq
  obtain ⟨o,ho,hc,n,hd⟩:=pl.isList;exact go its "list" o n rv (.inl rfl) ho hc hd hz
 ·obtain ⟨its,rv,⟨o,ho,hc,n,hd⟩,hz⟩:=I.tuple hq
  exact go its "tuple" o n rv (.inr rfl) ho hc hd hz
end L2
namespace L2.Pp
open PySem PySem.Spec PyProof.Rows Bn
open PySem.W (kas_sort)
section
variable {K:PySem.W.Frag}
def mS:List PV→Option (List (List Int))
 | []=>some []
 | .tup us :: r=>match jI us,mS r with
  | some is,some uss=>some (is :: uss)
  | _,_=>none
 | _ :: _=>none
theorem Ei:∀ {xs:List PV} {uss:List (List Int)},mS xs=some uss→xs.length=uss.length
 | [],uss,e=>by cases e; rfl
 | .tup us :: r,uss,e=>by
  unfold mS at e;split at e
  ·rename_i is uss' h1 h2
   cases e;rw [List.length_cons,List.length_cons,Ei h2]
  ·cases e
 | .non :: _,_,e=>by cases e
 | .bl _ :: _,_,e=>by cases e
 | .int _ :: _,_,e=>by cases e
 | .str _ :: _,_,e=>by cases e
 | .lst _ :: _,_,e=>by cases e
theorem Zj {c:Addr→Prop} {H:Hp}:∀ {xs:List PV} {uss:List (List Int)} {vs:List V},mS xs=some uss→aM K c H xs vs→∀ i t,vs[i]?=some t→∃ a,t=.ref a∧dC K H a ((uss.getD i []).map V.int)
 | [],uss,vs,e,r,i,t,h=>by
  unfold aM at r;subst r;simp at h
 | .tup us :: r,uss,vs,e,rr,i,t,h=>by
  unfold mS at e;split at e
  ·rename_i is uss' h1 h2
   cases e;unfold aM at rr;obtain ⟨v,w,rfl,r1,r2⟩:=rr;cases i with
   | zero =>
    cases h;unfold aL at r1;obtain ⟨a,ws,rfl,sq,_,r3⟩:=r1;rw [tG h1 r3] at sq;exact ⟨a,rfl,sq⟩
   | succ i =>
    have:=Zj h2 r2 i t (by simpa using h);simpa using this
  ·cases e
 | .non :: _,_,_,e,_,_,_,_=>by cases e
 | .bl _ :: _,_,_,e,_,_,_,_=>by cases e
 | .int _ :: _,_,_,e,_,_,_,_=>by cases e
 | .str _ :: _,_,_,e,_,_,_,_=>by cases e
 | .lst _ :: _,_,_,e,_,_,_,_=>by cases e
def Wa (uss:List (List Int)):Prop:=2≤uss.length∧uss.length < 64∧gZ uss.length (kas_sort uss.length)=true∧(dI uss).length≤64∧∀ us∈uss,us≠[]
def Fb (xs:List PV) (uss:List (List Int)):List PV:=(dI uss).map fun i=>xs.getD i .non
open Classical in
noncomputable def pV (xs:List PV):Option PV:=match mS xs with
 | some uss=>if Wa uss then some (.lst (Fb xs uss)) else none
 | none=>none
noncomputable def rJ:List PV→Option PV
 | [.lst xs]=>pV xs
 | [.tup xs]=>pV xs
 | _=>none
theorem Xe {c:Addr→Prop} {H:Hp} {xs:List PV} {vs:List V} (r:aM K c H xs vs):∀ ps:List Nat,aM K c H (ps.map fun i=>xs.getD i .non) (ps.map fun i=>vs.getD i .non)
 | []=>.nil
 | i :: ps=>by
  refine .cons ?_ (Xe r ps)
  by_cases hi:i < xs.length
  ·obtain ⟨v,e1,e2⟩:=r.get (List.getElem?_eq_getElem hi)
   have q1:xs.getD i .non=xs[i]:=by simp [List.getD,hi]
   have q2:vs.getD i .non=v:=by simp [List.getD,e1]
   show aL K c H (xs.getD i .non) (vs.getD i .non);rw [q1,q2];exact e2
  ·have hl:=r.length
   have q1:xs.getD i .non=.non:=by simp [List.getD,hi]
   have q2:vs.getD i .non=.non:=by simp [List.getD,show vs.length≤i by omega]
   show aL K c H (xs.getD i .non) (vs.getD i .non);rw [q1,q2];unfold aL;rfl
theorem J5:kF K (fun xs H Q=>∃ (a:Addr) (ts:List V) (uss:List (List Int)),xs=[.ref a]∧(bY K H a ts∨dC K H a ts)∧Pa K H ts uss∧2≤ts.length∧ts.length < 64∧gZ uss.length (kas_sort uss.length)=true∧(dI uss).length≤64 ∧
  ∀ l,H l=none→Q (.ref l) (aT H l (.lst ((dI uss).map fun i=>ts.getD i .non)))) rJ:=fun {p S H as c xs Q} s ra e k=>by
 have key:∀ (zs:List PV) (a:Addr) (vs:List V),pV zs=some c→(bY K H a vs∨dC K H a vs)→aM K p.c H zs vs→∃ (a':Addr) (ts:List V) (uss:List (List Int)),[V.ref a]=[.ref a']∧(bY K H a' ts∨dC K H a' ts)∧Pa K H ts uss∧2≤ts.length∧ts.length < 64∧gZ uss.length (kas_sort uss.length)=true∧(dI uss).length≤64 ∧
   ∀ l,H l=none→Q (.ref l) (aT H l (.lst ((dI uss).map fun i=>ts.getD i .non))):=fun zs a vs e sq r=>by
  unfold pV at e;split at e
  ·rename_i uss hu
   split at e
   ·rename_i hc
    cases e;obtain ⟨c1,c2,c3,c4,c5⟩:=hc;have l1:=Ei hu;have l2:=r.length;refine ⟨a,vs,uss,rfl,sq,⟨by omega,fun i t h=>?_⟩,by omega,by omega,c3,c4,fun l hl=>?_⟩
    ·obtain ⟨b,e1,e2⟩:=Zj hu r i t h
     have hi:i < uss.length:=by
      have:=(List.getElem?_eq_some_iff.mp h).1;omega
     refine ⟨b,e1,e2,?_⟩;rw [List.getD,List.getElem?_eq_getElem hi];exact c5 _ (List.getElem_mem hi)
    ·refine k _ _ (gR hl) (nU s (Xe r _) ?_ hl)
     rw [List.length_map,iV];omega
   ·cases e
  ·cases e
 unfold rJ at e;split at e
 ·rename_i zs
  cases ra with
  | cons h t =>
   cases t;obtain ⟨a,vs,rfl,l,z,r⟩:=h.lst;exact key zs a vs e (.inl l) r
 ·rename_i zs
  cases ra with
  | cons h t =>
   cases t;obtain ⟨a,vs,rfl,l,z,r⟩:=h.tup;exact key zs a vs e (.inr l) r
 ·cases e
end
end L2.Pp
namespace L2
open PySem.W (KasT kas_sort)
theorem Me {α:Type} {lt lt':Nat→Nat→Bool} {n:Nat} (h:∀ i j,i < n→j < n→lt i j=lt' i j):∀ t:KasT α,gZ n t=true→mE lt t=mE lt' t
 | .ret a,_=>rfl
 | .ask i j k,ok=>by
  unfold gZ at ok;simp only [Bool.and_eq_true,decide_eq_true_eq] at ok;obtain ⟨⟨⟨hi,hj⟩,h1⟩,h2⟩:=ok;show mE lt (k (lt i j))=mE lt' (k (lt' i j));rw [← h i j hi hj];refine Me h (k (lt i j)) ?_;cases lt i j
  ·exact h2
  ·exact h1
theorem kL:∀ u:List Int,HT.lexLt u u=false
 | []=>rfl
 | x :: u=>by rw [HT.lexLt_cons,if_pos rfl,kL u]
theorem zF:∀ u v:List Int,u=v∨HT.lexLt u v=true∨HT.lexLt v u=true
 | [],[]=>.inl rfl
 | [],_ :: _=>.inr (.inl rfl)
 | _ :: _,[]=>.inr (.inr rfl)
 | x :: u,y :: v=>by
  rw [HT.lexLt_cons,HT.lexLt_cons]
  by_cases h:x=y
  ·subst h
   rw [if_pos rfl,if_pos rfl];rcases zF u v with h | h | h
   ·exact .inl (by rw [h])
   ·exact .inr (.inl h)
   ·exact .inr (.inr h)
  ·rw [if_neg h,if_neg (fun z=>h z.symm)]
   by_cases q:x < y
   ·exact .inr (.inl (by simpa using q))
   ·exact .inr (.inr (by simp; omega))
theorem tB:∀ u v w:List Int,HT.lexLt u v=true→HT.lexLt v w=true→HT.lexLt u w=true
 | [],[],_,h,_=>by cases h
 | [],_ :: _,[],_,h=>by cases h
 | [],_ :: _,_ :: _,_,_=>rfl
 | _ :: _,[],_,h,_=>by cases h
 | _ :: _,_ :: _,[],_,h=>by cases h
 | x :: u,y :: v,z :: w,h1,h2=>by
  rw [HT.lexLt_cons] at h1 h2 ⊢
  by_cases e1:x=y
  ·subst e1
   rw [if_pos rfl] at h1
   by_cases e2:x=z
   ·rw [if_pos e2] at h2 ⊢
    exact tB u v w h1 h2
   ·rw [if_neg e2] at h2 ⊢
    exact h2
  ·rw [if_neg e1] at h1
   have h1:x < y:=by simpa using h1
   by_cases e2:y=z
   ·subst e2
    rw [if_neg e1];simpa using h1
   ·rw [if_neg e2] at h2
    have h2:y < z:=by simpa using h2
    rw [if_neg (by omega)];simp;omega
theorem Gw {u v:List Int} (h:HT.lexLt u v=true):HT.lexLt v u=false:=by
 cases q:HT.lexLt v u with
 | false=>rfl
 | true =>
  have:=tB u v u h q;rw [kL] at this;cases this
theorem Xu {u v:List Int} (h:HT.lexLt u v=false) (g:HT.lexLt v u=false):u=v:=by
 rcases zF u v with e | e | e
 ·exact e
 ·rw [h] at e; cases e
 ·rw [g] at e; cases e
def r3 (a b c d e f:Bool):Bool:=(!(a && b) || c) && (!(d && e) || f)
def vS (b:Nat→Nat→Bool) (n:Nat):Bool:=(List.range n).all fun i=>!(b i i) && (List.range n).all fun j=>!(b i j && b j i) && (List.range n).all fun k=>(!(b i j && b j k) || b i k) && (b i j || b j k || !(b i k))
def uR (b:Nat→Nat→Bool) (n:Nat) (ps:List (List Nat)):Bool:=let p:=(mE b (kas_sort n)).toList
 ps.contains p && (List.range n).all fun i=>(List.range n).all fun j=>!(decide (i < j)) || !(b (p.getD j 0) (p.getD i 0))
def zX:List (List Nat):=[[0,1,2],[0,2,1],[1,0,2],[1,2,0],[2,0,1],[2,1,0]]
def Ea:List (List Nat):=[[0,1,2,3],[0,1,3,2],[0,2,1,3],[0,2,3,1],[0,3,1,2],[0,3,2,1],[1,0,2,3],[1,0,3,2],[1,2,0,3],[1,2,3,0],[1,3,0,2],[1,3,2,0],
 [2,0,1,3],[2,0,3,1],[2,1,0,3],[2,1,3,0],[2,3,0,1],[2,3,1,0],[3,0,1,2],[3,0,2,1],[3,1,0,2],[3,1,2,0],[3,2,0,1],[3,2,1,0]]
def Jc (b01 b02 b10 b12 b20 b21:Bool) (i j:Nat):Bool:=match i,j with
 | 0,1=>b01 | 0,2=>b02 | 1,0=>b10 | 1,2=>b12 | 2,0=>b20 | 2,1=>b21 | _,_=>false
def Ec (b01 b02 b03 b10 b12 b13 b20 b21 b23 b30 b31 b32:Bool) (i j:Nat):Bool:=match i,j with
 | 0,1=>b01 | 0,2=>b02 | 0,3=>b03 | 1,0=>b10 | 1,2=>b12 | 1,3=>b13 | 2,0=>b20 | 2,1=>b21 | 2,3=>b23 | 3,0=>b30 | 3,1=>b31 | 3,2=>b32 | _,_=>false
theorem Zm:gZ 3 (kas_sort 3)=true:=by decide +kernel
theorem Qn:gZ 4 (kas_sort 4)=true:=by decide +kernel
theorem Z9:∀ b01 b02 b10 b12 b20 b21:Bool,vS (Jc b01 b02 b10 b12 b20 b21) 3=true→uR (Jc b01 b02 b10 b12 b20 b21) 3 zX=true:=by decide +kernel
theorem aax:∀ b01 b02 b03 b10 b12 b13 b20 b21 b23 b30 b31 b32:Bool,vS (Ec b01 b02 b03 b10 b12 b13 b20 b21 b23 b30 b31 b32) 4=true→uR (Ec b01 b02 b03 b10 b12 b13 b20 b21 b23 b30 b31 b32) 4 Ea=true:=by decide +kernel
theorem Zk {b:Nat→Nat→Bool} {n:Nat} {uss:List (List Int)} (h:∀ i j,i < n→j < n→b i j=HT.lexLt (uss.getD i []) (uss.getD j [])):vS b n=true:=by
 unfold vS;simp only [List.all_eq_true,List.mem_range,Bool.and_eq_true,Bool.not_eq_true',Bool.or_eq_true,Bool.and_eq_false_imp];intro i hi;refine ⟨by rw [h i i hi hi,kL],fun j hj=>⟨fun q=>?_,fun k hk=>⟨?_,?_⟩⟩⟩
 ·rw [h i j hi hj] at q
  rw [h j i hj hi,Gw q]
 ·rw [h i j hi hj,h j k hj hk,h i k hi hk]
  cases q1:HT.lexLt (uss.getD i []) (uss.getD j []) with
  | false=>exact .inl fun z=>by cases z
  | true =>
   cases q2:HT.lexLt (uss.getD j []) (uss.getD k []) with
   | false=>exact .inl fun _=>rfl
   | true=>exact .inr (tB _ _ _ q1 q2)
 ·rw [h i j hi hj,h j k hj hk,h i k hi hk]
  cases q1:HT.lexLt (uss.getD i []) (uss.getD j []) with
  | true=>exact .inl (.inl rfl)
  | false =>
   cases q2:HT.lexLt (uss.getD j []) (uss.getD k []) with
   | true=>exact .inl (.inr rfl)
   | false =>
    refine .inr ?_;cases q3:HT.lexLt (uss.getD i []) (uss.getD k []) with
    | false=>rfl
    | true =>
     rcases zF (uss.getD i []) (uss.getD j []) with e | e | e
     ·rw [e] at q3; rw [q2] at q3; cases q3
     ·rw [q1] at e; cases e
     ·have:=tB _ _ _ e q3
      rw [q2] at this;cases this
end L2
namespace L2
open PySem.W (KasT kas_sort)
def eP (uss:List (List Int)):List (List Int):=(dI uss).map fun i=>uss.getD i []
def oM (u v:List Int):Prop:=HT.lexLt v u=false
theorem Zf {uss:List (List Int)} {n:Nat} {ps:List (List Nat)} (hl:uss.length=n) (ok:gZ n (kas_sort n)=true) {b:Nat→Nat→Bool} (hb:∀ i j,i < n→j < n→b i j=HT.lexLt (uss.getD i []) (uss.getD j [])) (good:uR b n ps=true) (hp:∀ p∈ps,p.Perm (List.range n)) :
  dI uss∈ps∧(dI uss).Perm (List.range n)∧(eP uss).Pairwise oM:=by
 have e:dI uss=(mE b (kas_sort n)).toList:=by
  unfold dI;rw [hl];exact congrArg Array.toList (Me (n:=n) (fun i j hi hj=>(hb i j hi hj).symm) _ ok)
 unfold uR at good;simp only [Bool.and_eq_true,List.all_eq_true,List.mem_range] at good;rw [← e] at good;obtain ⟨g1,g2⟩:=good;have m:dI uss∈ps:=by simpa using g1
 have pm:=hp _ m;refine ⟨m,pm,?_⟩;have ln:(dI uss).length=n:=by rw [pm.length_eq,List.length_range]
 unfold eP;rw [List.pairwise_iff_getElem];intro i j hi hj hij;rw [List.length_map] at hi hj;have q:=g2 i (by omega) j (by omega);have pi:(dI uss).getD i 0=(dI uss)[i]:=by simp [List.getD,hi]
 have pj:(dI uss).getD j 0=(dI uss)[j]:=by simp [List.getD,hj]
 rw [pi,pj] at q;have li:(dI uss)[i] < n:=by
  have:=pm.subset (List.getElem_mem hi);simpa using this
 have lj:(dI uss)[j] < n:=by
  have:=pm.subset (List.getElem_mem hj);simpa using this
 rw [hb _ _ lj li] at q;simp only [List.getElem_map];unfold oM;have d:decide (i < j)=true:=by simpa using hij
 rw [d] at q;simpa using q
theorem Yu:∀ p∈zX,p.Perm (List.range 3):=by decide
theorem Ut:∀ p∈Ea,p.Perm (List.range 4):=by decide
theorem Rj {uss:List (List Int)} (h:uss.length=3):dI uss∈zX∧(dI uss).Perm (List.range 3)∧(eP uss).Pairwise oM:=by
 match uss,h with
 | [u0,u1,u2],_ =>
  have hb:∀ i j,i < 3→j < 3→Jc (HT.lexLt u0 u1) (HT.lexLt u0 u2) (HT.lexLt u1 u0) (HT.lexLt u1 u2) (HT.lexLt u2 u0) (HT.lexLt u2 u1) i j=HT.lexLt (([u0,u1,u2]:List (List Int)).getD i []) (([u0,u1,u2]:List (List Int)).getD j []):=fun i j hi hj=>by
   match i,j,hi,hj with
   | 0,0,_,_=>exact (kL u0).symm
   | 0,1,_,_=>rfl
   | 0,2,_,_=>rfl
   | 1,0,_,_=>rfl
   | 1,1,_,_=>exact (kL u1).symm
   | 1,2,_,_=>rfl
   | 2,0,_,_=>rfl
   | 2,1,_,_=>rfl
   | 2,2,_,_=>exact (kL u2).symm
  exact Zf rfl Zm hb (Z9 _ _ _ _ _ _ (Zk hb)) Yu
theorem Ek {uss:List (List Int)} (h:uss.length=4):dI uss∈Ea∧(dI uss).Perm (List.range 4)∧(eP uss).Pairwise oM:=by
 match uss,h with
 | [u0,u1,u2,u3],_ =>
  have hb:∀ i j,i < 4→j < 4→Ec (HT.lexLt u0 u1) (HT.lexLt u0 u2) (HT.lexLt u0 u3) (HT.lexLt u1 u0) (HT.lexLt u1 u2) (HT.lexLt u1 u3) (HT.lexLt u2 u0) (HT.lexLt u2 u1) (HT.lexLt u2 u3) (HT.lexLt u3 u0) (HT.lexLt u3 u1) (HT.lexLt u3 u2) i j=HT.lexLt (([u0,u1,u2,u3]:List (List Int)).getD i []) (([u0,u1,u2,u3]:List (List Int)).getD j []):=fun i j hi hj=>by
   match i,j,hi,hj with
   | 0,0,_,_=>exact (kL u0).symm
   | 0,1,_,_=>rfl
   | 0,2,_,_=>rfl
   | 0,3,_,_=>rfl
   | 1,0,_,_=>rfl
   | 1,1,_,_=>exact (kL u1).symm
   | 1,2,_,_=>rfl
   | 1,3,_,_=>rfl
   | 2,0,_,_=>rfl
   | 2,1,_,_=>rfl
   | 2,2,_,_=>exact (kL u2).symm
   | 2,3,_,_=>rfl
   | 3,0,_,_=>rfl
   | 3,1,_,_=>rfl
   | 3,2,_,_=>rfl
   | 3,3,_,_=>exact (kL u3).symm
  exact Zf rfl Qn hb (aax _ _ _ _ _ _ _ _ _ _ _ _ (Zk hb)) Ut
theorem oV {uss:List (List Int)} (h:uss.length=3∨uss.length=4):(eP uss).Perm uss∧(eP uss).Pairwise oM:=by
 have key:∀ n,uss.length=n→(dI uss).Perm (List.range n)→(eP uss).Perm uss:=fun n hn hp=>by
  have e:(List.range n).map (fun i=>uss.getD i [])=uss:=by
   refine List.ext_getElem (by simp [hn]) fun i h1 h2=>?_;have hi:i < uss.length:=h2;simp [List.getD,hi]
  have:=hp.map (fun i=>uss.getD i []);rw [e] at this;exact this
 rcases h with h | h
 ·obtain ⟨_,hp,hs⟩:=Rj h
  exact ⟨key 3 h hp,hs⟩
 ·obtain ⟨_,hp,hs⟩:=Ek h
  exact ⟨key 4 h hp,hs⟩
theorem Ap {A B:List (List Int)} (hp:A.Perm B) (ha:A.Pairwise oM) (hb:B.Pairwise oM):A=B :=
 hp.eq_of_pairwise (fun u v _ _ h g=>Xu g h) ha hb
theorem Uc {A B:List (List Int)} (hp:A.Perm B) (h:B.length=3∨B.length=4):eP A=eP B:=by
 obtain ⟨p1,s1⟩:=oV (uss:=A) (by rw [hp.length_eq]; exact h);obtain ⟨p2,s2⟩:=oV h;exact Ap (p1.trans (hp.trans p2.symm)) s1 s2
end L2
namespace L2
open PySem PySem.Spec PyProof.Rows Bn
theorem A9 {X:Cx} {sc1 sc:Scope} {own1 own:List Str} {cap1 cap:List (Nat × Str)} {C:Addr} {s₀:Shared} {H₀:Hp} {ex:List Addr} (so:Scope) (hso:X.env.scope=so) (hk:so.kind=.function) (kind:sc.kind=.function) (names:∀ y∈sc.names,y.2=.local→sc.names.lookup y.1=some .local)
  (nocell:∀ y∈sc.names,y.2≠.cell) (free:∀ y∈sc.names,y.2=.free→sc1.names.lookup y.1=some .free∧so.names.lookup y.1=some .cell) (at':∀ p∈cap,(cB own1 cap1)[p.1]?=some p.2) (hcap:∀ p∈cap,sc.names.lookup p.2=some .free) :
  gI (dX X sc1 (cB own1 cap1) C s₀ H₀ ex) sc own cap :=
 ⟨kind,names,nocell,fun y hy e=>by
  obtain ⟨f1,f2⟩:=free y hy e;exact qS (env:=X.env) (by rw [hso]; exact hk) f1 (by show X.env.scope.names.lookup y.1=_; rw [hso]; exact f2),at',hcap⟩
end L2
namespace L2
open PySem PySem.Spec PyProof.Rows Bn
section
variable {M:Model} {A:Around} {E:Value→Shared→Prop} {s:Shared}
theorem Ip {scope:Scope} {globals:Addr} {closure:List (Str × Addr)} {qual:Str} {outer:Env} {Q:Env→Shared→Prop}
  (hQ:Q (newEnv scope s.heap.objs.size globals (cellsFrom (s.heap.objs.size+1) scope.names closure) qual none .none (some outer) builtinsNs) { s with heap:=pushCells (s.heap.push { cls:=.type "dict",data:=.dict #[] }) scope.names }) :
  wpAny M A (newFunctionEnv scope globals closure [] qual none .none (some outer)) Q E s:=by
 simp only [newFunctionEnv,Option.isSome_some,if_true];refine wpAny_bind (wpAny_alloc ?_);refine wpAny_bind (wpAny_layCells _ (fun name kind cells=>by cases hkc:kind == NameKind.cell <;> simp [hkc]) _ _ _ _ ?_);rw [show ({ s with heap:=s.heap.push { cls:=.type "dict",data:=.dict #[] } }:Shared).heap.objs.size=s.heap.objs.size+1 from Heap.size_push ..];refine wpAny_bind ?_;rw [List.forIn_nil];exact wpAny_pure (wpAny_pure hQ)
end
end L2
namespace L2
open PySem PySem.Spec PyProof.Rows Bn
theorem zN:∀ (names:List (Str × NameKind)) (n:Nat) (acc:List (Str × Addr)),(∀ x y c,acc.lookup x=some c→acc.lookup y=some c→x=y)→(∀ x c,acc.lookup x=some c→c < n) →
  ∀ x y c,(cellsFrom n names acc).lookup x=some c→(cellsFrom n names acc).lookup y=some c→x=y
 | [],n,acc,hi,_,x,y,c,e1,e2=>hi x y c e1 e2
 | (name,kind) :: r,n,acc,hi,hb,x,y,c,e1,e2=>by
  unfold cellsFrom at e1 e2
  by_cases k:(kind == NameKind.cell)=true
  ·rw [if_pos k] at e1 e2
   refine zN r (n+1) _ (fun x y c e1 e2=>?_) (fun x c e=>?_) x y c e1 e2
   ·rw [List.lookup_cons] at e1 e2
    cases wx:x == name with
    | true =>
     cases wy:y == name with
     | true=>rw [beq_iff_eq.mp wx,beq_iff_eq.mp wy]
     | false =>
      rw [wx] at e1;rw [wy] at e2;cases e1;exact absurd (hb y _ e2) (Nat.lt_irrefl _)
    | false =>
     cases wy:y == name with
     | true =>
      rw [wx] at e1;rw [wy] at e2;cases e2;exact absurd (hb x _ e1) (Nat.lt_irrefl _)
     | false =>
      rw [wx] at e1;rw [wy] at e2;exact hi x y c e1 e2
   ·rw [List.lookup_cons] at e
    cases wx:x == name with
    | true =>
     rw [wx] at e;cases e;exact Nat.lt_succ_self _
    | false =>
     rw [wx] at e;exact Nat.lt_succ_of_lt (hb x c e)
  ·rw [if_neg k] at e1 e2
   exact zN r n acc hi hb x y c e1 e2
theorem rN {n0:Nat}:∀ (names:List (Str × NameKind)) (n:Nat) (acc:List (Str × Addr)) (x:Str),((∃ c,acc.lookup x=some c∧n0≤c)∨(x,NameKind.cell)∈names)→n0≤n→∃ c,(cellsFrom n names acc).lookup x=some c∧n0≤c
 | [],n,acc,x,h,hn=>by
  rcases h with h | h
  ·exact h
  ·cases h
 | (name,kind) :: r,n,acc,x,h,hn=>by
  unfold cellsFrom
  by_cases k:(kind == NameKind.cell)=true
  ·rw [if_pos k]
   refine rN r (n+1) _ x ?_ (Nat.le_succ_of_le hn);cases w:x == name with
   | true=>exact .inl ⟨n,by rw [List.lookup_cons,w],hn⟩
   | false =>
    rcases h with ⟨c,h,z⟩ | h
    ·exact .inl ⟨c,by rw [List.lookup_cons,w]; exact h,z⟩
    ·rcases List.mem_cons.mp h with z | z
     ·cases z
      simp at w
     ·exact .inr z
  ·rw [if_neg k]
   refine rN r n acc x ?_ hn;rcases h with h | h
   ·exact .inl h
   ·rcases List.mem_cons.mp h with z | z
    ·cases z
     simp at k
    ·exact .inr z
theorem zJ {n0:Nat}:∀ (names:List (Str × NameKind)) (n:Nat) (acc:List (Str × Addr)) (x:Str) (c:Addr),n0≤n→(cellsFrom n names acc).lookup x=some c→n0≤c∨acc.lookup x=some c
 | [],n,acc,x,c,hn,e=>.inr e
 | (name,kind) :: r,n,acc,x,c,hn,e=>by
  unfold cellsFrom at e
  by_cases k:(kind == NameKind.cell)=true
  ·rw [if_pos k] at e
   rcases zJ r (n+1) _ x c (Nat.le_succ_of_le hn) e with z | z
   ·exact .inl z
   ·rw [List.lookup_cons] at z
    cases w:x == name with
    | true =>
     rw [w] at z;cases z;exact .inl hn
    | false =>
     rw [w] at z;exact .inr z
  ·rw [if_neg k] at e
   exact zJ r n acc x c hn e
theorem uE:∀ (names:List (Str × NameKind)) (n:Nat) (acc:List (Str × Addr)) (x:Str),(x,NameKind.cell) ∉ names→(cellsFrom n names acc).lookup x=acc.lookup x
 | [],n,acc,x,h=>rfl
 | (name,kind) :: r,n,acc,x,h=>by
  unfold cellsFrom;have hr:(x,NameKind.cell) ∉ r:=fun z=>h (List.mem_cons_of_mem _ z)
  by_cases k:(kind == NameKind.cell)=true
  ·rw [if_pos k,uE r _ _ x hr,List.lookup_cons]
   cases w:x == name with
   | true =>
    refine absurd ?_ h;have e1:x=name:=by simpa using w
    have e2:kind=.cell:=by simpa using k
    rw [e1,e2];exact List.mem_cons_self
   | false=>rfl
  ·rw [if_neg k,uE r _ _ x hr]
theorem zC:∀ (names:List (Str × NameKind)) (h:Heap) (acc:List (Str × Addr)),(∀ x c,acc.lookup x=some c→∃ v,h.IsCell c v)→∀ x c,(cellsFrom h.objs.size names acc).lookup x=some c→∃ v,(pushCells h names).IsCell c v
 | [],h,acc,hc,x,c,e=>hc x c e
 | (name,kind) :: r,h,acc,hc,x,c,e=>by
  unfold cellsFrom at e;unfold pushCells
  by_cases k:(kind == NameKind.cell)=true
  ·rw [if_pos k] at e ⊢
   rw [← Heap.size_push h { cls:=.type "cell",data:=.cell none }] at e;refine zC r _ _ (fun y c e=>?_) x c e;rw [List.lookup_cons] at e;cases w:y == name with
   | true =>
    rw [w] at e;cases e;exact ⟨none,_,Heap.get?_push_size _ rfl,rfl⟩
   | false =>
    rw [w] at e;obtain ⟨v,z⟩:=hc y c e;exact ⟨v,z.keeps fun b o e=>Heap.get?_push_of_some _ e⟩
  ·rw [if_neg k] at e ⊢
   exact zC r h acc hc x c e
theorem De {env:Env}:∀ {names:List (Str × NameKind)} {x:Str},
  (let l:=(names.map fun (n,k)=>if (k == NameKind.free && env.scope.kind == .function && env.kindOf n == some .cell) then (n,NameKind.cell) else (n,k)).lookup x; l=some .cell∨l=some .free)→(x,NameKind.free)∈names∨(x,NameKind.cell)∈names
 | [],x,h=>by
  rcases h with h | h <;> cases h
 | (n,k) :: r,x,h=>by
  dsimp only at h;rw [List.map_cons] at h;have ih:=@De env r x
  by_cases c:(k == NameKind.free && env.scope.kind == .function && env.kindOf n == some .cell)=true
  ·have kf:k=.free:=by
    simp only [Bool.and_eq_true,beq_iff_eq] at c;exact c.1.1
   dsimp only at h;rw [if_pos c,List.lookup_cons] at h;cases w:x == n with
   | true =>
    have hx:x=n:=by simpa using w
    rw [hx,← kf];exact .inl List.mem_cons_self
   | false =>
    rw [w] at h;exact (ih h).imp (List.mem_cons_of_mem _) (List.mem_cons_of_mem _)
  ·dsimp only at h
   rw [if_neg c,List.lookup_cons] at h;cases w:x == n with
   | true =>
    rw [w] at h;have hx:x=n:=by simpa using w
    rcases h with h | h
    ·have kf:k=.cell:=Option.some.inj h
     rw [hx,← kf];exact .inr List.mem_cons_self
    ·have kf:k=.free:=Option.some.inj h
     rw [hx,← kf];exact .inl List.mem_cons_self
   | false =>
    rw [w] at h;exact (ih h).imp (List.mem_cons_of_mem _) (List.mem_cons_of_mem _)
theorem Td {env:Env}:∀ {names:List (Str × NameKind)} {x:Str},names.lookup x=some .cell →
  (names.map fun (n,k)=>if (k == NameKind.free && env.scope.kind == .function && env.kindOf n == some .cell) then (n,NameKind.cell) else (n,k)).lookup x=some .cell
 | [],x,h=>by cases h
 | (n,k) :: r,x,h=>by
  rw [List.map_cons];dsimp only;rw [List.lookup_cons] at h;cases w:x == n with
  | true =>
   rw [w] at h;have kf:k=.cell:=Option.some.inj h;subst kf;rw [if_neg (by rw [show (NameKind.cell == NameKind.free)=false from rfl]; simp),List.lookup_cons,w]
  | false =>
   rw [w] at h;have ih:=@Td env r x h
   by_cases c:(k == NameKind.free && env.scope.kind == .function && env.kindOf n == some .cell)=true
   ·rw [if_pos c,List.lookup_cons,w]
    exact ih
   ·rw [if_neg c,List.lookup_cons,w]
    exact ih
def hJ (X:Cx) (sc:Scope) (N:List Str) (C:Addr) (s₀:Shared) (H₀:Hp) (ex:List Addr):Cx where
 prog:=X.prog
 w:=X.w
 K:=X.K
 mg:=X.mg
 base:=X.base
 A:=X.A
 N:=N
 s₀:=s₀
 H₀:=H₀
 env:=compEnvC sc (cellsFrom (C+1) sc.names (fO X.env sc.names [])) C X.env
 outer:=X.stack
 stack:=X.stack
 ex:=ex
 fn:=fun x=>sc.names.lookup x == some .cell
 calm:=X.calm
 pn:=[]
 xe:=fun _ _=>False
structure mV (X:Cx) (sc:Scope) (own:List Str) (cap:List (Nat × Str)):Prop where
 kind:sc.kind=.function
 names:∀ y∈sc.names,y.2=.local→sc.names.lookup y.1=some .local
 cells:∀ y∈sc.names,y.2=.cell→sc.names.lookup y.1=some .cell
 free:∀ y∈sc.names,y.2=.free→X.env.kindOf y.1=some .cell
 at':∀ p∈cap,X.N[p.1]?=some p.2
 cap:∀ p∈cap,sc.names.lookup p.2=some .free
section
variable {X:Cx} {sc:Scope} {own:List Str} {cap:List (Nat × Str)} {pins:List (Addr × Obj)} {σ:St} {H:Hp} {s:Shared} {elt target iter:Expr} {pos pos':Pos} {wi:TI} {g:TG} {te:TE} {Q:VK}
theorem mV.has (k:mV X sc own cap) (ok:X.Ok):∀ p∈sc.names,p.2=.free→∃ c,X.env.cells.lookup p.1=some c:=fun p hp e=>ok.has p.1 (.inl (k.free p hp e))
theorem aG.cmpC (k:mV X sc own cap) {h4:Heap} {fp:List Addr} {t':Nat} (I:aG X pins σ H s) (hf:∀ b∈fp,eW X pins H b) (hlt:∀ b∈fp,b < s.heap.objs.size)
  (e4:h4=pushCells (s.heap.push { cls:=.type "dict",data:=.dict #[] }) sc.names):aG (hJ X sc (cB own cap) s.heap.objs.size s H fp) [] (hV own cap σ) H { s with heap:=h4,toks:=t' }:=by
 have kp:∀ b o,s.heap.get? b=some o→h4.get? b=some o:=fun b o e=>by
  rw [e4];exact pushCells_keeps _ _ b o (Heap.get?_push_of_some _ e)
 have hns:h4.Ns s.heap.objs.size (fun _=>none):=by
  rw [e4];exact (Heap.Ns.new ..).keeps fun b o e=>pushCells_keeps _ _ b o e
 have hcl:∀ y c,(fO X.env sc.names []).lookup y=some c→X.env.cells.lookup y=some c:=fun y c e=>by
  rcases sY sc.names [] (k.has I.ok) y c e with z | z
  ·cases z
  ·exact z
 have clt:∀ y c,X.env.cells.lookup y=some c→c < s.heap.objs.size:=fun y c e=>by
  obtain ⟨v,o,ho,_⟩:=I.cell y c e;exact Heap.lt_size ho
 have hfr:∀ y c,(cellsFrom (s.heap.objs.size+1) sc.names (fO X.env sc.names [])).lookup y=some c→s.heap.objs.size < c∨X.env.cells.lookup y=some c:=fun y c e =>
  (zJ (n0:=s.heap.objs.size+1) sc.names _ _ y c (Nat.le_refl _) e).imp (fun z=>z) (hcl y c)
 have nst:∀ b∈fp,b ∉ fT X.stack:=fun b hb z=>by
  rcases List.mem_cons.mp (I.stkSub b z) with e | e
  ·exact (hf b hb).2.1 e
  ·exact (hf b hb).2.2.1 e
 refine ⟨⟨I.ok.mod,k.kind,I.ok.glob,I.ok.blt,Nat.le_refl _,fun x y c h1 h2=>?_,fun x hx=>?_,fun x c hfn e=>?_,I.ok.hd,I.ok.frames,.inl rfl,fun b hb=>⟨Nat.ne_of_lt (hlt b hb),fun x c e=>?_⟩,
  I.bs,Nat.le_trans I.ok.bsz I.sz,fun b o e hb=>?_,nst,I.stack,I.stkFree⟩,rfl,I.bare,Un.kept kp,⟨_,hns,fun i x v h1 h2 h3=>?_⟩,fun x c e=>?_,I.hok.fresh (Nat.le_refl _),fun x c e=>?_,fun p hp=>absurd (show p∈([]:List (Addr × Obj)) from hp) (by simp),I.hok.kept kp,?_⟩
 ·exact zN sc.names _ _ (fun x y c h1 h2=>I.ok.inj x y c (hcl x c h1) (hcl y c h2)) (fun x c e=>Nat.lt_succ_of_lt (clt x c (hcl x c e))) x y c h1 h2
 ·rcases De hx with z | z
  ·by_cases m:(x,NameKind.cell)∈sc.names
   ·obtain ⟨c,e,_⟩:=rN (n0:=0) sc.names (s.heap.objs.size+1) (fO X.env sc.names []) x (.inr m) (Nat.zero_le _)
    exact ⟨c,e⟩
   ·obtain ⟨c,e⟩:=oX (env:=X.env) sc.names [] x (.inr z)
    exact ⟨c,(uE sc.names _ _ x m).trans e⟩
  ·obtain ⟨c,e,_⟩:=rN (n0:=0) sc.names (s.heap.objs.size+1) (fO X.env sc.names []) x (.inr z) (Nat.zero_le _)
   exact ⟨c,e⟩
 ·have hm:(x,NameKind.cell)∈sc.names:=PySem.mem_of_lookup (by simpa [hJ] using hfn)
  obtain ⟨c',e',hc'⟩:=rN (n0:=s.heap.objs.size) sc.names (s.heap.objs.size+1) (fO X.env sc.names []) x (.inr hm) (Nat.le_succ _);have:=e'.symm.trans e;cases this;exact hc'
 ·rcases hfr x c e with z | z
  ·exact Nat.ne_of_gt (Nat.lt_trans (hlt b hb) z)
  ·exact (hf b hb).2.2.2.2.1 x c z
 ·rcases (hf b hb).2.2.2.1 with z | z
  ·exact I.ok.noex b o e z
  ·exact absurd (Nat.lt_of_lt_of_le (Heap.lt_size (I.ok.bs b o e).1) z) (Nat.lt_irrefl _)
 ·have hN:(cB own cap)[i]?=some x:=h1
  unfold cB at hN;unfold hV at h2
  by_cases hi:i < own.length
  ·rw [List.getElem?_append_left (by simpa using hi),List.getElem?_map] at h2
   cases e:own[i]? with
   | none=>rw [e] at h2; cases h2
   | some z=>rw [e] at h2; cases h2
  ·rw [List.getElem?_append_right (by simpa using hi),List.getElem?_map,List.length_map] at h2
   rw [List.getElem?_append_right (by omega),List.getElem?_map] at hN;cases e:cap[i - own.length]? with
   | none=>rw [e] at h2; cases h2
   | some p =>
    rw [e] at h2 hN;have hp:p∈cap:=List.mem_of_getElem? e;have hx:p.2=x:=Option.some.inj hN;have hv:(σ[p.1]?).join=some v:=Option.some.inj h2;have hv':σ[p.1]?=some (some v):=by
     cases e2:σ[p.1]? with
     | none=>rw [e2] at hv; cases hv
     | some z=>rw [e2] at hv; exact congrArg some hv
    have fr:=k.cap p hp;have nc:(p.2,NameKind.cell) ∉ sc.names:=fun z=>by
     have:=k.cells _ z rfl;rw [fr] at this;cases this
    have kc:X.env.kindOf p.2=some .cell:=k.free (p.2,.free) (PySem.mem_of_lookup fr) rfl;obtain ⟨m0,_,hl⟩:=I.loc;obtain ⟨u,ru,lk⟩:=hl p.1 p.2 v (k.at' p hp) hv' (.inr (.inl kc));refine ⟨u,ru,?_⟩;rcases lk with ⟨k1,_⟩ | ⟨_,c,ec,cell⟩
    ·rw [kc] at k1
     cases k1
    ·rw [← hx]
     obtain ⟨c',ec'⟩:=oX (env:=X.env) sc.names [] p.2 (.inr (PySem.mem_of_lookup fr));have:=(hcl _ _ ec').symm.trans ec;cases this;obtain ⟨o,ho,hd⟩:=cell;exact .inr ⟨.inl (qS I.ok.kind fr kc),c,(uE sc.names _ _ p.2 nc).trans ec',o,kp c o ho,hd⟩
 ·show ∃ v,h4.IsCell c v
  rw [e4];refine zC sc.names _ (fO X.env sc.names []) (fun y c e=>?_) x c (by rw [Heap.size_push]; exact e);obtain ⟨v,z⟩:=I.cell y c (hcl y c e);exact ⟨v,z.keeps fun b o e=>Heap.get?_push_of_some _ e⟩
 ·rcases hfr x c e with z | z
  ·exact I.hok.fresh (Nat.le_of_lt z)
  ·exact I.freeC x c z
 ·unfold hV
  show _=(cB own cap).length;unfold cB;rw [List.length_append,List.length_append,List.length_map,List.length_map,List.length_map]
theorem aG.uncmpC {s3 s':Shared} {H3 H':Hp} {N:List Str} {σ':St} {C:Addr} {fp:List Addr} {pl:List (Addr × Obj)} (I:aG X pins σ H s) (hf:∀ b∈fp,eW X pins H b) (u:Un (fT X.stack) fp H H3 s.heap s3.heap) (os:s3.os=s.os)
  (J:aG (hJ X sc N C s3 H3 fp) pl σ' H' s'):aG X pins σ H' s':=by
 have os':s'.os=s.os:=(show s'.os=s3.os from J.os).trans os;refine I.call' (ch:=fp) os' (u.trans J.base) J.hok J.bare fun b hb=>?_;obtain ⟨_,f1,_,f3,f4,f5⟩:=hf b hb;exact ⟨f3,f1,f4,f5⟩
theorem Lq {use:Option (Value→Sem Unit)} {Qf:Value→Shared→Prop} (k:mV X sc own cap) (hi:PI X target iter wi) (hc:X.calm=true)
  (hg:∀ C s₀ H₀ ex,PG (hJ X sc (cB own cap) C s₀ H₀ ex) target g) (he:∀ C s₀ H₀ ex,PE (hJ X sc (cB own cap) C s₀ H₀ ex) elt te) (I:aG X pins σ H s) (h:sE own cap wi g te σ H Q)
  (fin:∀ D C s' H' m,aG X pins σ H' s'→eW X pins H' C→s'.heap.Ns C m→Q (.ref D) H'→compPost (model X.prog X.w) X.A X.xe use Qf (.ref D) C (.ok .next) s')
  (hs:∀ x,foldedSetIterable iter X.env x=pure x) :
  wpAny (model X.prog X.w) X.A (comprehension (.ListComp elt [⟨target,iter,[],0⟩] sc pos) sc X.env pos' (newList []) false (eval iter X.env) use) Qf X.xe s:=by
 refine wpAny_comprehension_free (use:=use) rfl hs (yV (k.has I.ok)) k.kind k.names ?_;refine bF (hi pins s σ H _ I h) fun v s1 h1=>bF h1 fun itv s2 h2=>?_;obtain ⟨it,fp,tn,J,H2,e,I2,T,st2,f2,hW⟩:=h2;subst e;refine wpAny_newObj_type (Ip ?_);have hsz:(s2.heap.push { cls:=.type "list",data:=.seq ([]:List Value).toArray }).objs.size=s2.heap.objs.size+1:=Heap.size_push ..;have I3:aG X pins σ (aT H2 s2.heap.objs.size (.lst [])) { s2 with heap:=s2.heap.push { cls:=.type "list",data:=.seq ([]:List Value).toArray },toks:=s2.toks }:=I2.lnew (ys:=[]) (its:=[]) .nil (Nat.zero_le _);have hD:H2 s2.heap.objs.size=none:=I2.fresh;have ltf:∀ b∈fp,b < s2.heap.objs.size:=fun b hb=>by
  obtain ⟨o,ho,_⟩:=T.obj _ _ st2 b hb;exact Heap.lt_size ho
 have f3:∀ b∈fp,eW X pins (aT H2 s2.heap.objs.size (.lst [])) b:=fun b hb=>⟨by rw [bP (Nat.ne_of_lt (ltf b hb))]; exact (f2 b hb).1,(f2 b hb).2⟩;have un:Un (fT X.stack) fp H2 (aT H2 s2.heap.objs.size (.lst [])) s2.heap (s2.heap.push { cls:=.type "list",data:=.seq ([]:List Value).toArray }):=Un.laid (fun b u q=>Heap.get?_push_of_some _ q) (Nat.le_refl _) hD;have kp:∀ b o,(s2.heap.push { cls:=.type "list",data:=.seq ([]:List Value).toArray }).get? b=some o→(pushCells ((s2.heap.push { cls:=.type "list",data:=.seq ([]:List Value).toArray }).push { cls:=.type "dict",data:=.dict #[] }) sc.names).get? b=some o:=fun b o q=>pushCells_keeps _ _ b o (Heap.get?_push_of_some _ q);have J0:=I3.cmpC (t':=s2.toks) k f3 (fun b hb=>Nat.lt_of_lt_of_le (ltf b hb) (by rw [Heap.size_push]; exact Nat.le_succ _)) rfl;have stat:∀ {H':Hp},(∀ b∈fp,H' b=none)→∀ b∈fp,eW (hJ X sc (cB own cap) (s2.heap.push { cls:=.type "list",data:=.seq ([]:List Value).toArray }).objs.size { s2 with heap:=s2.heap.push { cls:=.type "list",data:=.seq ([]:List Value).toArray },toks:=s2.toks } (aT H2 s2.heap.objs.size (.lst [])) fp) [] H' b:=fun hn b hb =>
  ⟨hn b hb,(J0.ok.exf b hb).1,J0.ok.exfs b hb,.inl hb,(J0.ok.exf b hb).2,fun p hp=>absurd (show p∈([]:List (Addr × Obj)) from hp) (by simp)⟩
 have st4:tn 0 (pushCells ((s2.heap.push { cls:=.type "list",data:=.seq ([]:List Value).toArray }).push { cls:=.type "dict",data:=.dict #[] }) sc.names):=T.keep _ _ _ st2 fun b hb o q=>kp b o (Heap.get?_push_of_some _ q);have fr0:∀ b∈fp,(aT H2 s2.heap.objs.size (.lst [])) b=none:=fun b hb=>(f3 b hb).1;have loop:codeAny (model X.prog X.w) X.A (.compLoop (.ListComp elt [⟨target,iter,[],0⟩] sc pos) 0 (.ref it) (.ref s2.heap.objs.size) (compEnvC sc (cellsFrom ((s2.heap.push { cls:=.type "list",data:=.seq ([]:List Value).toArray }).objs.size+1) sc.names (fO X.env sc.names [])) (s2.heap.push { cls:=.type "list",data:=.seq ([]:List Value).toArray }).objs.size X.env))
   (compPost (model X.prog X.w) X.A X.xe use Qf (.ref s2.heap.objs.size) (s2.heap.push { cls:=.type "list",data:=.seq ([]:List Value).toArray }).objs.size) { s2 with heap:=(pushCells ((s2.heap.push { cls:=.type "list",data:=.seq ([]:List Value).toArray }).push { cls:=.type "dict",data:=.dict #[] }) sc.names),toks:=s2.toks }:=by
  obtain ⟨W,⟨m0,w0⟩,turn⟩:=hW s2.heap.objs.size hD;refine Ve (fun n s'=>∃ i σ' H' ys,aG (hJ X sc (cB own cap) (s2.heap.push { cls:=.type "list",data:=.seq ([]:List Value).toArray }).objs.size { s2 with heap:=s2.heap.push { cls:=.type "list",data:=.seq ([]:List Value).toArray },toks:=s2.toks } (aT H2 s2.heap.objs.size (.lst [])) fp) [] σ' H' s'∧tn i s'.heap∧(∀ b∈fp,H' b=none)∧W i n σ' H' ys) ?_ m0
   ⟨0,_,_,[],J0,st4,fr0,w0⟩
  rintro n s5 ⟨i,σ5,H5,ys,I5,st5,fr5,w5⟩
  obtain ⟨hD5,w5⟩:=turn i n σ5 H5 ys w5;rcases w5 with ⟨stop,qn⟩ | ⟨go,hlt,step⟩
  ·refine bF (T.done (hJ X sc (cB own cap) (s2.heap.push { cls:=.type "list",data:=.seq ([]:List Value).toArray }).objs.size { s2 with heap:=s2.heap.push { cls:=.type "list",data:=.seq ([]:List Value).toArray },toks:=s2.toks } (aT H2 s2.heap.objs.size (.lst [])) fp) rfl rfl rfl hc i [] s5 σ5 H5 _ I5 (stat fr5) st5 stop) fun r s6 ⟨hr,I6⟩=>?_
   subst hr;obtain ⟨m,hn,_⟩:=id I6.loc;exact fin _ _ s6 H5 m (I2.uncmpC (s3:={ s2 with heap:=s2.heap.push { cls:=.type "list",data:=.seq ([]:List Value).toArray },toks:=s2.toks }) f2 un rfl I6) (I3.fpOk (Nat.le_refl _) I6.free) hn qn
  ·refine bF (T.item (hJ X sc (cB own cap) (s2.heap.push { cls:=.type "list",data:=.seq ([]:List Value).toArray }).objs.size { s2 with heap:=s2.heap.push { cls:=.type "list",data:=.seq ([]:List Value).toArray },toks:=s2.toks } (aT H2 s2.heap.objs.size (.lst [])) fp) rfl rfl rfl hc i [] s5 σ5 H5 _ I5 (stat fr5) st5 go) fun r s6 ⟨u,hr,h6⟩=>?_
   subst hr;refine bF h6 fun _ s7 ⟨x,H7,I7,r7,y7,st7,fr7⟩=>?_;have I7':=I7.pinned (stat fr7) (T.obj _ _ st7);refine bF (hg _ _ _ _ _ s7 σ5 H7 x u _ I7' r7 (step x H7 y7)) fun _ s8 ⟨σ8,H8,I8,q8⟩=>?_;refine bF (he _ _ _ _ _ s8 σ8 H8 _ I8 q8) fun v9 s9 ⟨y,H9,I9,r9,hD9,m',hm,w9⟩=>?_;refine bF (qW _ s9 σ8 H9 (.ref s2.heap.objs.size) [y] (.ref s2.heap.objs.size) [v9] (fun _ H'=>H'=aT H9 s2.heap.objs.size (.lst (ys++[y]))) I9 rfl (.cons r9 .nil) ⟨_,ys,y,rfl,rfl,hD9,hlt,rfl⟩) fun _ s10 ⟨_,H10,I10,_,q10⟩=>?_;subst q10;refine ⟨m',hm,i+1,σ8,_,_,I10.unpinned,T.keep _ _ _ st7 fun b hb o q=>(I10.pin (b,o) (List.mem_append_right _ (List.mem_append_right _ (kK hb q)))).1,fun b hb=>?_,w9⟩;obtain ⟨o,q,d⟩:=T.obj _ _ st7 b hb;exact (I10.pin (b,o) (List.mem_append_right _ (List.mem_append_right _ (kK hb q)))).2.1
 exact codeAny_compStart_list loop (T.self _ 0 _ _ _ st4 loop)
theorem Tv (k:mV X sc own cap) (hi:PI X target iter wi) (hc:X.calm=true)
  (hg:∀ C s₀ H₀ ex,PG (hJ X sc (cB own cap) C s₀ H₀ ex) target g) (he:∀ C s₀ H₀ ex,PE (hJ X sc (cB own cap) C s₀ H₀ ex) elt te)
  (hs:∀ x,foldedSetIterable iter X.env x=pure x:=by intro _; rfl):PE X (.ListComp elt [⟨target,iter,[],0⟩] sc pos) (sE own cap wi g te):=by
 intro pins s σ H Q I h;rw [eval_ListComp];refine Lq (use:=none) k hi hc hg he I h (fun D C s' H' m I' fC hn q=>?_) hs;refine ⟨m,hn,fun h' sb=>⟨.ref D,H',?_,rfl,q⟩⟩;obtain ⟨f0,f1,f2,f3,f4,f5⟩:=fC;exact I'.turned (t':=s'.toks) (fun b o hb e=>(sb.2 b hb).trans e) f0 f1 f3 f4 f5
theorem Qy {X:Cx} {sc:Scope} {own:List Str} {cap:List (Nat × Str)} (so:Scope) (N:List Str) (hso:X.env.scope=so) (hN:X.N=N) (kind:sc.kind=.function) (names:∀ y∈sc.names,y.2=.local→sc.names.lookup y.1=some .local)
  (cells:∀ y∈sc.names,y.2=.cell→sc.names.lookup y.1=some .cell) (free:∀ y∈sc.names,y.2=.free→so.names.lookup y.1=some .cell) (at':∀ p∈cap,N[p.1]?=some p.2) (hcap:∀ p∈cap,sc.names.lookup p.2=some .free):mV X sc own cap :=
 ⟨kind,names,cells,fun y hy e=>by show X.env.scope.names.lookup y.1=_; rw [hso]; exact free y hy e,fun p hp=>by rw [hN]; exact at' p hp,hcap⟩
theorem Ly {X:Cx} {sc1 sc:Scope} {own1 own:List Str} {cap1 cap:List (Nat × Str)} {C:Addr} {s₀:Shared} {H₀:Hp} {ex:List Addr} (so:Scope) (hso:X.env.scope=so) (hk:so.kind=.function) (kind:sc.kind=.function) (names:∀ y∈sc.names,y.2=.local→sc.names.lookup y.1=some .local)
  (nocell:∀ y∈sc.names,y.2≠.cell) (free:∀ y∈sc.names,y.2=.free→sc1.names.lookup y.1=some .cell∨(sc1.names.lookup y.1=some .free∧so.names.lookup y.1=some .cell)) (at':∀ p∈cap,(cB own1 cap1)[p.1]?=some p.2) (hcap:∀ p∈cap,sc.names.lookup p.2=some .free) :
  gI (hJ X sc1 (cB own1 cap1) C s₀ H₀ ex) sc own cap :=
 ⟨kind,names,nocell,fun y hy e=>by
  rcases free y hy e with f | ⟨f1,f2⟩
  ·exact Td (env:=X.env) f
  ·exact qS (env:=X.env) (by rw [hso]; exact hk) f1 (by show X.env.scope.names.lookup y.1=_; rw [hso]; exact f2),at',hcap⟩
end
end L2
namespace L2.Pp
open PySem PySem.Spec PyProof.Rows Bn
section
variable {K:PySem.W.Frag} {cl:Str→Addr} {E:XK} {X:Cx} {p q:Ph} {H H':Hp} {S:aI}
variable {sc:Scope} {own:List Str} {cap:List (Nat × Str)} {elt target iter:Expr} {pos:Pos} {mi:MI} {g:GM} {me:ME}
theorem Ew (k:mV X sc own cap) (hi:gU K cl E X target iter mi) (hc:X.calm=true) (hg:∀ C s₀ H₀ ex,kJ K (hJ X sc (cB own cap) C s₀ H₀ ex) target g) (he:∀ C s₀ H₀ ex,aW K cl E0 (hJ X sc (cB own cap) C s₀ H₀ ex) elt me)
  (hs:∀ x,foldedSetIterable iter X.env x=pure x:=by intro _; rfl):aW K cl E X (.ListComp elt [⟨target,iter,[],0⟩] sc pos) (bB own cap mi g me):=by
 intro hK;refine PE.imp (Tv k (hi hK) hc (fun C s₀ H₀ ex=>hg C s₀ H₀ ex hK) (fun C s₀ H₀ ex=>he C s₀ H₀ ex hK) hs) fun σ H Q ⟨p,S,ρ,s,ev,h⟩=>?_;exact cC s ev h fun q H' xs J S' stp sm ev it kk D hD=>xY sm ev it kk hD
end
end L2.Pp
namespace L2.Pp
noncomputable section
open PySem PySem.Spec PyProof.Rows Bn
def wA (k:Nat) (S:aI):Prop:=∀ (j:Nat) (o:SO),S[j]?=some o→j≠k→∃ xs,o=.lst xs
def Pl (S:aI):Prop:=∀ (j:Nat) (o:SO),S[j]?=some o→∃ xs,o=.lst xs
section
variable {K:PySem.W.Frag} {cl:Str→Addr} {E:XK} {X:Cx} {a e:Expr} {m:ME} {ms:MA} {pos:Pos} {p q:Ph} {H H':Hp} {S:aI}
theorem aU.pushO (s:aU K p S H) {D:Addr} {o:SO} {ho:HO} (h:H D=none) (mo:Mb ho) (ob:nE K ⟨p.f++[D],fun a=>p.w a∨a=D,fun a=>p.c a∨a=D⟩ (aT H D ho) D o) :
  let q:Ph:=⟨p.f++[D],fun a=>p.w a∨a=D,fun a=>p.c a∨a=D⟩
  bM p H q (aT H D ho)∧aU K q (S++[o]) (aT H D ho):=by
 intro q;obtain ⟨st0,sm0⟩:=s.res (D:=D) (o:=ho) h mo;have nf0:D ∉ p.f:=fun z=>s.notin h (s.wc D (s.sub D z));refine ⟨⟨st0.wc,st0.mu,⟨[D],rfl⟩,st0.mw,st0.mono,fun a x n=>?_,st0.nw,st0.nc,st0.keep⟩,?_,by simp [q,s.len],fun a x=>?_,sm0.wc,sm0.mu,fun k a u e1 e2=>?_⟩
 ·rcases List.mem_append.mp x with z | z
  ·exact absurd z n
  ·have:a=D:=by simpa using z
   rw [this];exact h
 ·show (p.f++[D]).Nodup
  rw [List.nodup_append];refine ⟨s.nd,by simp,fun a ha b hb z=>?_⟩;have:b=D:=by simpa using hb
  exact nf0 (this ▸ z ▸ ha)
 ·rcases List.mem_append.mp x with z | z
  ·exact .inl (s.sub a z)
  ·exact .inr (by simpa using z)
 ·by_cases hk:k < S.length
  ·have e1':p.f[k]?=some a:=by
    have e1:(p.f++[D])[k]?=some a:=e1
    rwa [List.getElem?_append_left (by rw [s.len]; exact hk)] at e1
   rw [List.getElem?_append_left hk] at e2;refine (s.obj k a u e1' e2).mono (fun vs e=>by rw [bP (fF e h)]; exact e) (fun b w f=>⟨⟨.inl w,fun m=>?_⟩,fun vs e=>by rw [bP (fF e h)]; exact e⟩) fun _ _ r=>st0.reps r;rcases List.mem_append.mp m with z | z
   ·exact f z
   ·have:b=D:=by simpa using z
    exact s.notin h (this ▸ s.wc b w)
  ·have hk':k=S.length:=by
    have:=(List.getElem?_eq_some_iff.mp e2).1;simp at this;omega
   subst hk';rw [List.getElem?_append_right (Nat.le_refl _),Nat.sub_self] at e2;have e1:(p.f++[D])[S.length]?=some a:=e1;rw [← s.len,List.getElem?_append_right (Nat.le_refl _),Nat.sub_self] at e1;cases e1;cases e2;exact ob
def Xa (xs:List AV) (S:aI):bK AV:=match (fI S xs).bind jG with
 | some (.lst vs)=>.ok (.ref S.length) (S++[.lol [vs]])
 | _=>.fail
def sJ (ms:MA):ME:=fun ρ S=>(ms ρ S).bind Xa
theorem Qk {as:List AV} {xs:List V} {vs:List PV} (s:aU K p S H) (r:fP K p H as xs) (h:(fI S as).bind jG=some (.lst vs)) :
  ∃ b ws,xs=[.ref b]∧(bY K H b ws∨dC K H b ws)∧ws.length≤sizeLine∧aM K p.c H vs ws:=by
 cases z:fI S as with
 | none=>rw [z] at h; cases h
 | some us =>
  rw [z] at h;have rr:=qV s r z;cases rr with
  | nil=>cases h
  | cons g t =>
   rename_i u x ut xt;cases t with
   | cons _ _=>cases u <;> cases h
   | nil =>
    cases u with
    | lst ws =>
     cases h;obtain ⟨a,ws,rfl,l,z,r⟩:=g.lst;exact ⟨a,ws,rfl,.inl l,z,r⟩
    | tup ws =>
     cases h;obtain ⟨a,ws,rfl,l,z,r⟩:=g.tup;exact ⟨a,ws,rfl,.inr l,z,r⟩
    | _=>cases h
theorem K4 {x:Str} {p lp:Pos} (hx:x="list") (hg:Gl X "list") (hm:X.mg "list"=none) (ha:eK K cl E X [e] ms) (he:starEach [e] X.env=[(false,eval e X.env)]:=by rfl)
  (hs:starEach [.Call (.Name x p) [e] [] pos] X.env=[(false,eval (.Call (.Name x p) [e] [] pos) X.env)]:=by rfl):aW K cl E X (.List [.Call (.Name x p) [e] [] pos] lp) (sJ ms):=by
 intro hK;subst hK hx;refine PE.imp (zS (pH (qX sS hg hm (by decide +kernel) (ha rfl) (by decide) (by decide) he rfl) rS hs)) fun σ H Q ⟨p,S,ρ,s,ev,h⟩=>?_;refine cC s ev h fun q H1 as xs S1 st s1 e1 r1 h1=>?_;unfold Xa at h1;split at h1
 ·rename_i vs hv
  obtain ⟨b,ws,rfl,sq,hl,r⟩:=Qk s1 r1 hv;refine ⟨b,ws,rfl,sq,fun l hn=>⟨by show 1≤sizeLine; decide,fun t ht=>?_⟩⟩;obtain ⟨st2,sm2⟩:=s1.res (D:=l) (o:=.lst ws) hn trivial;have ne:l≠t:=fun z=>by rw [← z,eN] at ht; cases ht
  have nf:l ∉ q.f:=fun z=>s1.notin hn (s1.wc l (s1.sub l z));have st3:=(sm2.res (D:=t) (o:=.lst [.ref l]) ht trivial).1;have ob:nE X.K ⟨(q.res l).f++[t],fun a=>(q.res l).w a∨a=t,fun a=>(q.res l).c a∨a=t⟩ (aT (aT H1 l (.lst ws)) t (.lst [.ref l])) t (.lol [vs]):=by
   refine ⟨[l],eN,by show 1≤sizeLine; decide,by simp,fun c hc=>?_,rfl,fun i ys c e1 e2=>?_⟩
   ·have:c=l:=by simpa using hc
    subst this;refine ⟨.inl (.inr rfl),fun m=>?_⟩;rcases List.mem_append.mp m with z | z
    ·exact nf z
    ·exact ne (by simpa using z)
   ·cases i with
    | zero =>
     cases e1;cases e2;exact ⟨ws,by rw [bP ne,eN],hl,st3.reps (st2.reps r)⟩
    | succ i=>simp at e1
  obtain ⟨st4,sm4⟩:=sm2.pushO (D:=t) (ho:=.lst [.ref l]) ht trivial ob;exact h1 _ _ (.ref t) (st2.trans st4) sm4 ⟨t,by show (q.f++[t])[S1.length]?=some t; rw [← s1.len,List.getElem?_append_right (Nat.le_refl _),Nat.sub_self]; rfl,rfl⟩
 ·exact h1.elim
def sK (k:Nat) (ys:List AV) (S:aI):bK AV:=match (fI S ys).bind jG,S[k]? with
 | some (.lst vs),some (.lol xss)=>if xss.length < 16777216 then .ok (.pv .non) (S.set k (.lol (xss++[vs]))) else .fail
 | _,_=>.fail
def rX (m:ME) (ms:MA):ME:=fun ρ S=>(m ρ S).bind fun k S1=>eO k S1 fun k=>(ms ρ S1).bind fun ys S2=>sK k ys S2
theorem aU.growL (s:aU K p S H) {k:Nat} {D l:Addr} {xss:List (List PV)} {bs:List Addr} {ys:List PV} {ws:List V} (h:p.f[k]?=some D) (hS:S[k]?=some (.lol xss)) (hn:H l=none) (hl:ws.length≤sizeLine) (r:aM K p.c H ys ws) (hH:H D=some (.lst (bs.map V.ref))) (hz:bs.length < sizeLine) :
  bM p H (p.res l) (aT (aT H l (.lst ws)) D (.lst ((bs++[l]).map V.ref)))∧aU K (p.res l) (S.set k (.lol (xss++[ys]))) (aT (aT H l (.lst ws)) D (.lst ((bs++[l]).map V.ref))):=by
 obtain ⟨st2,sm2⟩:=s.res (D:=l) (o:=.lst ws) hn trivial;have hk:k < S.length:=(List.getElem?_eq_some_iff.mp hS).1;have mD:D∈p.f:=List.mem_of_getElem? h;have w:(p.res l).w D:=.inl (s.sub D mD);have neD:D≠l:=fun z=>by rw [z,hn] at hH; cases hH
 have nl:l ∉ p.f:=fun z=>s.notin hn (s.wc l (s.sub l z));have st3:bM (p.res l) (aT H l (.lst ws)) (p.res l) (aT (aT H l (.lst ws)) D (.lst ((bs++[l]).map V.ref))):=⟨sm2.wc,sm2.mu,List.prefix_rfl,fun _ h=>h,fun _ h=>h,fun _ h g=>absurd h g,fun _ h g=>absurd h g,fun _ h g=>absurd h g,fun a u e nw=>by
  rw [bP (fun z:a=D=>nw (by rw [z]; exact w))];exact e⟩
 refine ⟨st2.trans st3,sm2.nd,by rw [List.length_set]; exact sm2.len,sm2.sub,sm2.wc,fun a x=>?_,fun j a o e1 e2=>?_⟩
 ·by_cases z:a=D
  ·rw [z,eN]
   exact ⟨_,rfl,trivial⟩
  ·rw [bP z]
   exact sm2.mu a x
 ·by_cases hj:k=j
  ·subst hj
   have e1:p.f[k]?=some a:=e1;rw [h] at e1;cases e1;rw [List.getElem?_set_self hk] at e2;cases e2;obtain ⟨cs,g1,g2,g3,g4,g5,g6⟩:=s.obj k D _ h hS;rw [hH] at g1;have ec:bs=cs:=by
    have:=congrArg (fun o=>match o with | some (HO.lst v)=>v | _=>[]) g1
    have:bs.map V.ref=cs.map V.ref:=this;exact List.map_inj_right (fun x y h=>by cases h; rfl) |>.mp this
   subst ec;have nb:∀ b∈bs,b≠l:=fun b hb z=>s.notin hn (z ▸ s.wc b (g4 b hb).1);refine ⟨bs++[l],eN,by rw [List.length_append]; exact hz,?_,fun b hb=>?_,by rw [List.length_append,List.length_append,g5]; rfl,fun i xs b e1 e2=>?_⟩
   ·rw [List.nodup_append]
    exact ⟨g3,by simp,fun x hx y hy z=>nb x hx (by rw [z]; simpa using hy)⟩
   ·rcases List.mem_append.mp hb with z | z
    ·exact ⟨.inl (g4 b z).1,(g4 b z).2⟩
    ·have:b=l:=by simpa using z
     subst this;exact ⟨.inr rfl,nl⟩
   ·by_cases hi:i < bs.length
    ·rw [List.getElem?_append_left hi] at e2
     rw [List.getElem?_append_left (by rw [g5]; exact hi)] at e1;obtain ⟨vs,h1,h2,h3⟩:=g6 i xs b e1 e2;have hb:=g4 b (List.mem_of_getElem? e2);exact ⟨vs,by rw [bP (fun z:b=D=>hb.2 (z ▸ mD)),bP (nb b (List.mem_of_getElem? e2))]; exact h1,h2,st3.reps (st2.reps h3)⟩
    ·have hi':i=bs.length:=by
      have:=(List.getElem?_eq_some_iff.mp e2).1;rw [List.length_append] at this;have:i < bs.length+1:=this;omega
     subst hi';rw [List.getElem?_append_right (Nat.le_refl _),Nat.sub_self] at e2;rw [← g5,List.getElem?_append_right (Nat.le_refl _),Nat.sub_self] at e1;cases e1;cases e2;exact ⟨ws,by rw [bP (Ne.symm neD),eN],hl,st3.reps (st2.reps r)⟩
  ·rw [List.getElem?_set_ne hj] at e2
   have ne:a≠D:=fun q=>hj (oY s.nd h (q ▸ e1));exact (sm2.obj j a o e1 e2).mono (fun vs e=>by rw [bP ne]; exact e) (fun b w f=>⟨⟨w,f⟩,fun vs e=>by rw [bP (fun z:b=D=>f (z ▸ mD))]; exact e⟩) fun _ _ r=>st3.reps r
theorem Kx {x:Str} {p apos cpos:Pos} (hx:x="list") (hg:Gl X "list") (hm:X.mg "list"=none) (ho:aW K cl E X a m) (ha:eK K cl E X [e] ms) (hbase:attributeBase a "append" X.env (eval a X.env)=eval a X.env:=by rfl)
  (hfew:((backTo cpos (starEach [.Call (.Name x p) [e] [] pos] X.env)).all (fun x=>!x.1) && (backToKw cpos (keywordEach [] X.env)).all (fun x=>x.1.isSome) && decide (([.Call (.Name x p) [e] [] pos]:List Expr).length+([]:List Keyword).length+(if ([]:List Keyword).isEmpty then 0 else 1) < 30))=true:=by rfl)
  (hline:(apos.endLine == cpos.line)=true:=by rfl) (he:starEach [e] X.env=[(false,eval e X.env)]:=by rfl) (hs:starEach [.Call (.Name x p) [e] [] pos] X.env=[(false,eval (.Call (.Name x p) [e] [] pos) X.env)]:=by rfl) :
  aW K cl E X (.Call (.Attribute a "append" apos) [.Call (.Name x p) [e] [] pos] [] cpos) (rX m ms):=by
 intro hK;subst hK hx;refine PE.imp (Eb PySem.F.plainAttrs_list PySem.F.slot_list_append PySem.F.type_list_append qW (ho rfl) (pH (qX sS hg hm (by decide +kernel) (ha rfl) (by decide) (by decide) he rfl) rS hs) hbase hfew hline hs rfl) fun σ H Q ⟨p,S,ρ,s,ev,h⟩=>?_;refine cC s ev h fun q H1 k x S1 st s1 e1 r1 h1=>?_;cases k with
 | pv v=>exact h1.elim
 | ref k =>
  have h1:bS X.K cl (bV X.K) q H1 (eO (.ref k) S1 fun k=>(ms ρ S1).bind fun ys S2=>sK k ys S2) Q E:=h1;rcases tO k S1 (fun k=>(ms ρ S1).bind fun ys S2=>sK k ys S2) with z | ⟨z,n1,n2⟩
  ·rw [z] at h1
   exact h1.elim
  rw [z] at h1;refine ⟨yW s1 r1 n1 n2,cC s1 e1 h1 fun q2 H2 ys xs S2 st2 s2 e2 r2 h2=>?_⟩;obtain ⟨a,ea,rfl⟩:=st2.repA r1;unfold sK at h2;split at h2
  ·rename_i vs xss hv hS
   obtain ⟨b,ws,rfl,sq,hl,r⟩:=Qk s2 r2 hv;split at h2
   ·rename_i hz
    refine ⟨b,ws,rfl,sq,fun l hn=>?_⟩;obtain ⟨bs,g1,g2,g3,g4,g5,g6⟩:=s2.obj k a _ ea hS;have hzz:=iV;have neA:a≠l:=fun z=>by rw [z,hn] at g1; cases g1
    obtain ⟨st3,sm3⟩:=s2.growL ea hS hn hl r g1 (by rw [← g5]; omega);refine ⟨a,bs.map V.ref,.ref l,rfl,rfl,by rw [bP neA]; exact g1,by rw [List.length_map,← g5]; omega,?_⟩;have:=h2 _ _ .non st3 sm3 (by show aL X.K (q2.res l).c (aT (aT H2 l (.lst ws)) a (.lst ((bs++[l]).map V.ref))) .non .non; exact iE (v:=.non) rfl);rw [List.map_append] at this;exact this
   ·exact h2.elim
  ·exact h2.elim
def uS (m:Int) (xs:List PV):Option (List PV):=match aY xs.length m with
 | some j=>match xs[j]? with
  | some (.int v)=>some (xs.set j (.int (1 - v)))
  | _=>none
 | none=>none
def pR (m:Int):List (List PV)→Option (List (List PV))
 | []=>some []
 | xs :: r=>match uS m xs,pR m r with
  | some y,some ys=>some (y :: ys)
  | _,_=>none
theorem Bg {m:Int}:∀ {xss yss:List (List PV)},pR m xss=some yss→xss.length=yss.length∧∀ (i:Nat) (xs:List PV),xss[i]?=some xs→∃ ys:List PV,yss[i]?=some ys∧uS m xs=some ys
 | [],yss,e=>by
  cases e;exact ⟨rfl,fun i xs h=>by simp at h⟩
 | xs :: r,yss,e=>by
  unfold pR at e;split at e
  ·rename_i y ys h1 h2
   cases e;obtain ⟨l,g⟩:=Bg h2;refine ⟨by rw [List.length_cons,List.length_cons,l],fun i zs h=>?_⟩;cases i with
   | zero =>
    cases h;exact ⟨y,rfl,h1⟩
   | succ i=>simpa using g i zs (by simpa using h)
  ·cases e
open Classical in
def oF (ics ic im:Nat):MS:=fun ρ S=>match ρ[ics]?,ρ[im]? with
 | some (some (.ref k)),some (some (.pv (.int m)))=>match S[k]? with
  | some (.lol xss)=>if wA k S∧ic < ρ.length then (match pR m xss with
   | some yss=>.nx (ρ.set ic none) (S.set k (.lol yss))
   | none=>.fail) else .fail
  | _=>.fail
 | _,_=>.fail
theorem aU.inner (s:aU K p S H) {k i:Nat} {D b:Addr} {xss:List (List PV)} {bs:List Addr} {ys:List PV} {ws:List V} (h:p.f[k]?=some D) (hS:S[k]?=some (.lol xss)) (pl:wA k S) (hH:H D=some (.lst (bs.map V.ref))) (hb:bs[i]?=some b) (hl:ws.length≤sizeLine) (r:aM K p.c H ys ws) :
  bM p H p (aT H b (.lst ws))∧aU K p (S.set k (.lol (xss.set i ys))) (aT H b (.lst ws)):=by
 have hk:k < S.length:=(List.getElem?_eq_some_iff.mp hS).1;have mD:D∈p.f:=List.mem_of_getElem? h;obtain ⟨cs,g1,g2,g3,g4,g5,g6⟩:=s.obj k D _ h hS;rw [hH] at g1;have ec:bs=cs:=by
  have:=congrArg (fun o=>match o with | some (HO.lst v)=>v | _=>[]) g1
  have:bs.map V.ref=cs.map V.ref:=this;exact List.map_inj_right (fun x y h=>by cases h; rfl) |>.mp this
 subst ec;have wb:=g4 b (List.mem_of_getElem? hb);have st:bM p H p (aT H b (.lst ws)):=⟨s.wc,s.mu,List.prefix_rfl,fun _ h=>h,fun _ h=>h,fun _ h g=>absurd h g,fun _ h g=>absurd h g,fun _ h g=>absurd h g,fun a u e nw=>by
  rw [bP (fun z:a=b=>nw (by rw [z]; exact wb.1))];exact e⟩
 refine ⟨st,s.nd,by rw [List.length_set]; exact s.len,s.sub,s.wc,fun a x=>?_,fun j a o e1 e2=>?_⟩
 ·by_cases z:a=b
  ·rw [z,eN]
   exact ⟨_,rfl,trivial⟩
  ·rw [bP z]
   exact s.mu a x
 ·have ne:a≠b:=fun z=>wb.2 (z ▸ List.mem_of_getElem? e1)
  by_cases hj:k=j
  ·subst hj
   rw [h] at e1;cases e1;rw [List.getElem?_set_self hk] at e2;cases e2;refine ⟨bs,by rw [bP ne]; exact hH,g2,g3,g4,by rw [List.length_set]; exact g5,fun i' xs c e1 e2=>?_⟩
   by_cases hi:i=i'
   ·subst hi
    rw [hb] at e2;cases e2;have hx:i < xss.length:=by
     rw [g5];exact (List.getElem?_eq_some_iff.mp hb).1
    rw [List.getElem?_set_self hx] at e1;cases e1;exact ⟨ws,eN,hl,st.reps r⟩
   ·rw [List.getElem?_set_ne hi] at e1
    obtain ⟨vs,h1,h2,h3⟩:=g6 i' xs c e1 e2;exact ⟨vs,by rw [bP (fun z:c=b=>hi (oY g3 hb (z ▸ e2)))]; exact h1,h2,st.reps h3⟩
  ·rw [List.getElem?_set_ne hj] at e2
   obtain ⟨xs,rfl⟩:=pl j o e2 (Ne.symm hj);obtain ⟨vs,e,l,g⟩:=s.obj j a _ e1 e2;exact ⟨vs,by rw [bP ne]; exact e,l,st.reps g⟩
theorem Kt {α:Type} {ys xs:List α} {i:Nat} {y:α} (l:xs.length=ys.length) (h:ys[i]?=some y):(ys.take i++xs.drop i).set i y=ys.take (i+1)++xs.drop (i+1):=by
 have hi:i < ys.length:=(List.getElem?_eq_some_iff.mp h).1;have hx:i < xs.length:=by omega
 have e:ys[i]=y:=(List.getElem?_eq_some_iff.mp h).2;rw [List.drop_eq_getElem_cons hx,List.set_append,if_neg (by rw [List.length_take]; omega),List.length_take,Nat.min_eq_left (Nat.le_of_lt hi),Nat.sub_self,List.set_cons_zero,List.take_succ_eq_append_getElem hi,e,List.append_assoc];rfl
theorem Di {α:Type} {l:List α} {i:Nat} {a b:α}:(l.set i a).set i b=l.set i b:=by simp
theorem Tz {ics ic im:Nat} {c cs mm:Str} {p1 p2 p3 p4 p5 p6 p7 p8 p9 apos:Pos} {j:Nat} (hp:PassesOwn (model X.prog X.w) X.A X.env X.xe) (hc:X.calm=true) (hN:X.N.Nodup) (h1:X.N[ics]?=some cs) (h2:X.N[ic]?=some c) (h3:X.N[im]?=some mm)
  (v1:oQ X.env.scope cs) (v2:mG X.env.scope c) (v3:oQ X.env.scope mm) (ne1:ics≠ic) (ne2:im≠ic)
  (ha:∀ v,assign (.Subscript (.Name c p3) (.Name mm p4) p5) X.env v=(do
   let ov ← holding [v] (eval (.Name c p3) X.env)
   let iv ← holding [v,ov] (eval (.Name mm p4) X.env)
   standAt p5
   holding [v,ov,iv] (setItem ov iv v)
   release [v,ov,iv] []):=by intro _; rfl)
  (hs:swapsWithSole [.Subscript (.Name c p3) (.Name mm p4) p5] (.BinOp (.Constant (.int 1) j p6) .Sub (.Subscript (.Name c p7) (.Name mm p8) p9) p2) apos.line X.env=pure false:=by rfl) (hw:swappedStores [.Subscript (.Name c p3) (.Name mm p4) p5] (.BinOp (.Constant (.int 1) j p6) .Sub (.Subscript (.Name c p7) (.Name mm p8) p9) p2) X.env=pure none:=by rfl)
  (ht:(assignEach [.Subscript (.Name c p3) (.Name mm p4) p5] X.env).map (·.2)=[assign (.Subscript (.Name c p3) (.Name mm p4) p5) X.env]:=by rfl)
  (hpl:tZ (.Name mm p8):=by intro _ _; rfl)
  (d1:(cs == ("__debug__":Str))=false:=by decide) (d2:(c == ("__debug__":Str))=false:=by decide) (d3:(mm == ("__debug__":Str))=false:=by decide)
  (k1:(cs == ("__classdict__":Str))=false:=by decide) (k2:(c == ("__classdict__":Str))=false:=by decide) (k3:(mm == ("__classdict__":Str))=false:=by decide)
  (hf:X.fn c=true∨X.env.scope.names.lookup c=some .local:=by first | exact .inl rfl | exact .inr rfl | assumption)
  (hfs:∀ x,foldedSetIterable (.Name cs p1) X.env x=pure x:=by intro _; rfl) {cp:Pos} :
  eJ K cl E X (.For (.Name c cp) (.Name cs p1) [.Assign [.Subscript (.Name c p3) (.Name mm p4) p5] (.BinOp (.Constant (.int 1) j p6) .Sub (.Subscript (.Name c p7) (.Name mm p8) p9) p2) apos] [] pos) (oF ics ic im):=by
 intro hK;subst hK;have vc:oQ X.env.scope c:=v2.elim .inl fun z=>.inr (.inl z);refine PS.imp (Sl hp hc (Nl (nW h1 v1 d1 k1)) (Mj hN h2 v2 hf) (Nk (uK (Oa Im Jm (Va Hl (nW h2 vc d2 k2) (nW h3 v3 d3 k3) hpl)) (zM (nW h2 vc d2 k2) (nW h3 v3 d3 k3) Sh ha) hs hw ht)) hfs) fun D σ H ⟨p,S,ρ,s,ev,h⟩=>?_;unfold oF at h;split at h
 ·rename_i k m q1 q2
  split at h
  ·rename_i xss hS
   split at h
   ·rename_i plc
    obtain ⟨pl,hic⟩:=plc;split at h
    ·rename_i yss hy
     obtain ⟨x,ex,rx⟩:=ev.at_ ics _ q1;obtain ⟨a,ea,rfl⟩:=rx;obtain ⟨ll,fl⟩:=Bg hy;have hk:k < S.length:=(List.getElem?_eq_some_iff.mp hS).1;obtain ⟨bs0,b1,b2,b3,b4,b5,b6⟩:=s.obj k a _ ea hS;have plx:∀ zss,wA k (S.set k (.lol zss)):=fun zss j o e n=>by
      rw [List.getElem?_set_ne (Ne.symm n)] at e;exact pl j o e n
     refine ⟨.ref a,ex,a,rfl,.inl ⟨⟨_,bY.of b1⟩,fun i n σ1 H1=>n=xss.length - i∧i≤xss.length∧∃ p1,bM p H p1 H1∧aU X.K p1 (S.set k (.lol (yss.take i++xss.drop i))) H1∧dB X.K p1 H1 (ρ.set ic none) σ1,⟨_,rfl,Nat.zero_le _,p,s.step,?_,?_⟩,?_⟩⟩
     ·have e0:S.set k (.lol xss)=S:=by
       obtain ⟨g1,g2⟩:=List.getElem?_eq_some_iff.mp hS;rw [← g2];exact List.set_getElem_self g1
      simpa [e0] using s
     ·have:=ev.forget ic ((σ[ic]?).join)
      have e0:σ.set ic (σ[ic]?).join=σ:=by
       by_cases hi:ic < σ.length
       ·rw [List.getElem?_eq_getElem hi]
        exact List.set_getElem_self hi
       ·exact List.set_eq_of_length_le (by omega)
      rwa [e0] at this
     ·rintro i n σ1 H1 ⟨rfl,hi,p1,st1,sm1,ev1⟩
      have e1:=st1.at_ ea;have hS1:(S.set k (.lol (yss.take i++xss.drop i)))[k]?=some (.lol (yss.take i++xss.drop i)):=List.getElem?_set_self hk;obtain ⟨bs,c1,c2,c3,c4,c5,c6⟩:=sm1.obj k a _ e1 hS1;have lz:(yss.take i++xss.drop i).length=xss.length:=by
       rw [List.length_append,List.length_take,List.length_drop];omega
      by_cases hlt:i < xss.length
      ·have hib:i < bs.length:=by omega
       obtain ⟨ys,ey,fy⟩:=fl i _ (List.getElem?_eq_getElem hlt);have ez:(yss.take i++xss.drop i)[i]?=some xss[i]:=by
        rw [List.getElem?_append_right (by rw [List.length_take]; omega),List.length_take,Nat.min_eq_left (by omega),Nat.sub_self,List.getElem?_drop,Nat.add_zero];exact List.getElem?_eq_getElem hlt
       obtain ⟨vs,g1,g2,g3⟩:=c6 i _ _ ez (List.getElem?_eq_getElem hib);unfold uS at fy;split at fy
       ·rename_i jj hj
        split at fy
        ·rename_i v hv
         cases fy;obtain ⟨u,eu,ru⟩:=g3.get hv;have:u=.int v:=by unfold aL at ru; exact ru
         subst this;obtain ⟨xm,exm,rxm⟩:=ev1.at_ im (.pv (.int m)) (by rw [List.getElem?_set_ne (Ne.symm ne2)]; exact q2);have:xm=.int m:=by
          have rxm:aL X.K p1.c H1 (.int m) xm:=rxm;unfold aL at rxm;exact rxm
         subst this;refine .inr ⟨⟨_,.ref bs[i],bY.of c1,by rw [List.getElem?_map,List.getElem?_eq_getElem hib]; rfl⟩,fun σ' H'=>∃ p2,bM p H p2 H'∧aU X.K p2 (S.set k (.lol (yss.take (i+1)++xss.drop (i+1)))) H'∧dB X.K p2 H' (ρ.set ic none) σ',fun σ' H' hn=>⟨xss.length - (i+1),by omega,rfl,hlt,hn⟩,fun x H2 hy=>?_⟩;obtain ⟨rfl,hy⟩:=hy;have ey2:=hy _ (bY.of c1);rw [List.getElem?_map,List.getElem?_eq_getElem hib] at ey2;cases ey2;have hic1:ic < σ1.length:=by
          rw [← ev1.len,List.length_set];exact hic
         have sc:(σ1.set ic (some (V.ref bs[i])))[ic]?=some (some (.ref bs[i])):=List.getElem?_set_self hic1;have sm':(σ1.set ic (some (V.ref bs[i])))[im]?=some (some (.int m)):=by rw [List.getElem?_set_ne (Ne.symm ne2)]; exact exm
         have hj':aY vs.length m=some jj:=by rw [← g3.length]; exact hj
         have ha1:aZ vs m=some (.int v):=by unfold aZ; rw [hj']; exact eu
         obtain ⟨st2,sm2⟩:=sm1.inner (ys:=xss[i].set jj (.int (1 - v))) (ws:=vs.set jj (.int (1 - v))) e1 hS1 (plx _) c1 (List.getElem?_eq_getElem hib) (by rw [List.length_set]; exact g2) (aM.set (iE (v:=.int (1 - v)) rfl) jj g3);rw [Di,Kt ll ey] at sm2;have ev2:=(st2.repE ev1).forget ic (some (V.ref bs[i]));rw [Di] at ev2;exact ⟨_,sc,_,sm',.inl ⟨_,_,_,_,rfl,rfl,bY.of g1,ha1,1,v,rfl,rfl,_,sc,_,sm',_,_,_,_,rfl,rfl,g1,hj',p1,st1.trans st2,sm2,ev2⟩⟩
        ·cases fy
       ·cases fy
      ·have e:i=xss.length:=by omega
       subst e;refine .inl ⟨⟨_,bY.of c1,by rw [List.length_map]; omega⟩,?_⟩;rw [List.drop_length,List.append_nil,ll,List.take_length] at sm1;exact h p1 H1 σ1 st1 sm1 ev1
    ·exact h.elim
   ·exact h.elim
  ·exact h.elim
 ·exact h.elim
open Classical in
def uB (n:Nat):bX→bK AV
 | .rt (.ref k) S=>match S[k]? with
  | some (.lol xss)=>if ¬ k < n∧Pl (S.take n) then .ok (.pv (.lst (xss.map .lst))) (S.take n) else .fail
  | _=>.fail
 | _=>.fail
open Classical in
def oO (np n:Nat) (b:MS) (xs:List AV) (S:aI):bK AV:=if xs.length=np∧Pl S then uB S.length (b (gY n xs) S) else .fail
def Ph.only (p:Ph):Ph:=⟨p.f,fun a=>a∈p.f,p.c⟩
theorem aU.only (s:aU K p S H) (pl:Pl S):aU K p.only S H :=
 ⟨s.nd,s.len,fun _ h=>h,fun a h=>s.wc a (s.sub a h),s.mu,fun k a o e1 e2=>by
  obtain ⟨xs,rfl⟩:=pl k o e2;exact s.obj k a _ e1 e2⟩
theorem Bq {as:List AV} {vs:List V} (h:fP K p H as vs):fP K p.only H as vs:=by
 induction h with
 | nil=>exact .nil
 | cons h _ ih =>
  refine .cons ?_ ih;rename_i v x _ _ _;cases v with
  | pv v=>exact h
  | ref k=>exact h
theorem Qp {r:bX} {Q:VK} {E:XK} (s:aU K p S H) (pl:Pl S) (h:bS K cl (bV K) p H (uB S.length r) Q E):dW K cl p.only H r { nx:=fun _ H'=>Q .non H',rt:=Q } E:=by
 cases r with
 | rt v S1 =>
  cases v with
  | pv v=>exact h.elim
  | ref k =>
   unfold uB at h;dsimp only at h;split at h
   ·rename_i xss hS
    split at h
    ·rename_i hc
     obtain ⟨hk,plt⟩:=hc
     rintro q H' x st sm ⟨a,e,rfl⟩
     have s1:=s.only pl;obtain ⟨na,hn,nc⟩:=xU s1 st sm e hk;obtain ⟨bs,g1,g2,g3,g4,g5,g6⟩:=sm.obj k a _ e hS;have fresh:∀ b∈bs,H b=none:=fun b hb=>st.nw b (g4 b hb).1 fun m=>(g4 b hb).2 (st.pre.subset m);obtain ⟨st1,sm1⟩:=s1.cutX (fun b=>b=a∨b∈bs) st sm (fun b d=>d.elim (fun z=>z ▸ hn) (fresh b)) (.inr fun j o e hj=>plt j o (by rw [List.getElem?_take,if_pos hj]; exact e));refine h ⟨p.f,fun b=>(q.w b∧¬ (b=a∨b∈bs))∨p.w b,fun b=>q.c b∧¬ (b=a∨b∈bs)⟩ H' (.ref a) ⟨s.wc,s.mu,List.prefix_rfl,fun b h=>.inr h,st1.mono,fun _ h g=>absurd h g,fun b h n=>?_,st1.nc,fun b o e n=>st1.keep b o e fun z=>n (s.sub b z)⟩
      ⟨s.nd,sm1.len,fun b h=>.inr (s.sub b h),fun b h=>h.elim (sm1.wc b) fun z=>st1.mono b (s.wc b z),sm1.mu,fun j b o e1 e2=>(sm1.obj j b o e1 e2).mono (fun _ e=>e) (fun c w f=>⟨⟨.inl w,f⟩,fun _ e=>e⟩) fun _ _ r=>r⟩ ?_
     ·rcases h with h | h
      ·exact st1.nw b h fun z=>n (s.sub b z)
      ·exact absurd h n
     ·show aL K (fun b=>q.c b∧¬ (b=a∨b∈bs)) H' (.lst (xss.map .lst)) (.ref a)
      unfold aL;refine ⟨a,bs.map V.ref,rfl,.inl ⟨g1,fun d=>d.2 (.inl rfl)⟩,by rw [List.length_map]; exact g2,?_⟩;have go:∀ (yss:List (List PV)) (cs:List Addr),yss.length=cs.length→(∀ c∈cs,c∈bs)→(∀ (i:Nat) (xs:List PV) (b:Addr),yss[i]?=some xs→cs[i]?=some b→∃ vs,H' b=some (.lst vs)∧vs.length≤sizeLine∧aM K q.c H' xs vs)→aM K (fun b=>q.c b∧¬ (b=a∨b∈bs)) H' (yss.map .lst) (cs.map V.ref):=by
       intro yss
       induction yss with
       | nil =>
        intro cs l _ _;have:cs=[]:=List.length_eq_zero_iff.mp l.symm;subst this;exact .nil
       | cons ys r ih =>
        intro cs l hm hh;cases cs with
        | nil=>cases l
        | cons c t =>
         obtain ⟨vs,k1,k2,k3⟩:=hh 0 ys c rfl rfl;refine .cons ?_ (ih t (by simpa using l) (fun c h=>hm c (List.mem_cons_of_mem _ h)) fun i xs b e1 e2=>hh (i+1) xs b (by simpa using e1) (by simpa using e2));unfold aL;exact ⟨c,vs,rfl,.inl ⟨k1,fun d=>d.2 (.inr (hm c List.mem_cons_self))⟩,k2,nQ (fun b h=>h.1) k3⟩
      exact go xss bs g5 (fun _ h=>h) g6
    ·exact h.elim
   ·exact h.elim
 | nx ρ S1=>exact h.elim
 | exc n S1=>exact h.elim
 | bk ρ S1=>exact h.elim
 | ct ρ S1=>exact h.elim
 | fail=>exact h.elim
end
section
variable {P:Program} {w:World} {K:PySem.W.Frag} {mg:Str→Option Value} {base:Heap} {cl:Str→Addr}
theorem Xz {np n:Nat} {b:MS} {vs:List V} {H:Hp} {Q:VK} {E:XK} (h:wG K cl (oO np n b) vs H Q E):vs.length=np:=by
 obtain ⟨p,S,xs,sm,ra,h⟩:=h;unfold oO at h;split at h
 ·rename_i e
  rw [← Ag ra,e.1]
 ·exact h.elim
theorem okL {x qual:Str} {st:Stmt} {f:Addr} {fd:FuncData} {N ps:List Str} {k np n:Nat} {b:MS} (F:jQ K x qual st f fd) (S:lN N ps (eB st)) (hnp:ps.length=np) (hn:N.length=n)
  (hb:∀ (cdv:Value) (A:Around) (outer:List Env) (s:Shared) (H:Hp) (E:XK),eH k (A.deeper (envOfC qual (eB st) s.heap.objs.size f cdv))→gS K cl E0 (iB fB P w K mg base N qual (eB st) f cdv A outer s H E).nox (gB st) b) :
  fR P w K mg base fB (k+1) f fd ps (lY K cl (oO np n b)):=by
 subst hnp hn;refine F.ok S (fun vs H Q E h=>Xz h) fun cdv A outer s H vs Q E hr h=>⟨_,hb cdv A outer s H E hr rfl,?_⟩;obtain ⟨p,S,xs,sm,ra,h⟩:=h;unfold oO at h;split at h
 ·rename_i e
  exact ⟨p.only,S,_,sm.only e.2,Pe (Bq ra),Qp sm e.2 h⟩
 ·exact h.elim
end
end
end L2.Pp
namespace L2.Pp
open PySem PySem.Spec PyProof.Rows Bn
end L2.Pp
namespace L2.Pp
open PySem PySem.Spec PyProof.Rows Bn
def wF (P:Program) (w:World) (K:PySem.W.Frag) (mg:Str→Option Value) (base:Heap) (cl:Str→Addr) (x:Str) (k:Nat) (ps:List Str) (g:FM):Prop:=∃ (a:Addr) (d:FuncData),fR P w K mg base fB k a d ps (lY K cl g)∧lU K d ps []∧PySem.W.keepIn K (.ref a)=true∧mg x=some (.ref a)
section
variable {cl:Str→Addr} {E:XK} {X:Cx} {e:Expr} {es:List Expr} {ms:MA} {pos p:Pos} {k k0:Nat} {ps:List Str} {g:FM} {x:Str}
theorem T7 (C:wF X.prog X.w X.K X.mg X.base cl x k ps g) (hr:eH k0 X.A) (hk:k≤k0) (hg:Gl X x) (ha:eK X.K cl E X (e :: es) ms) (hdb:(x == ("__debug__":Str))=false:=by decide) (he:starEach (e :: es) X.env=(false,eval e X.env) :: starEach es X.env:=by rfl) (hpl:(backTo pos (starEach es X.env)).any (·.1)=false:=by rfl) :
  aW X.K cl E X (.Call (.Name x p) (e :: es) [] pos) (aJ g [] ms):=by
 obtain ⟨a,d,G,b,kk,n⟩:=C;exact Gv G (hr.mono hk) hg n kk b .nil Dv.nil ha hdb he hpl
theorem W7 (C:wF X.prog X.w X.K X.mg X.base cl x k ps g) (hr:eH k0 X.A) (hk:k≤k0) (hg:Gl X x) (ha:eK X.K cl E X (e :: es) ms) (hdb:(x == ("__debug__":Str))=false:=by decide) (he:starEach (e :: es) X.env=(false,eval e X.env) :: starEach es X.env:=by rfl) (hpl:(backTo pos (starEach es X.env)).any (·.1)=false:=by rfl) :
  aW X.K cl E X (.Call (.Name x p) (e :: es) [] pos) (pO g [] ms):=by
 obtain ⟨a,d,G,b,kk,n⟩:=C;exact Vt G (hr.mono hk) hg n kk b .nil Dv.nil ha hdb he hpl
end
end L2.Pp
namespace L2.Pp
open PySem PySem.Spec PyProof.Rows Bn
section
variable {X:Cx}
end
section
variable {K:PySem.W.Frag} {cl:Str→Addr} {E:XK} {X:Cx} {e:Expr} {m:ME} {pos:Pos}
end
end L2.Pp
namespace L2.Pp
open PySem PySem.Spec PyProof.Rows Bn
section
variable {K:PySem.W.Frag} {cl:Str→Addr} {E:XK} {X:Cx}
variable {a e:Expr} {m:ME} {ms:MA} {pos:Pos}
end
end L2.Pp
namespace L2.Pp
open PySem PySem.Spec PyProof.Rows Bn
section
variable {K:PySem.W.Frag} {cl:Str→Addr} {E:XK} {X:Cx}
end
end L2.Pp
namespace L2.Pp
open PySem PySem.Spec PyProof.Rows Bn
section
variable {K:PySem.W.Frag} {cl:Str→Addr} {E:XK} {X:Cx}
def sN (K:PySem.W.Frag) (mg:Str→Option Value) (x:Str) (pv:PV):Prop:=∃ (u:Value) (v:V),mg x=some u∧bQ v u∧∀ c H,aL K c H pv v
theorem Px {x:Str} {pv:PV} {pos:Pos} (hg:Gl X x) (hm:sN K X.mg x pv) (hd:(x == ("__debug__":Str))=false:=by decide):aW K cl E X (.Name x pos) (mC pv):=fun _=>by
 obtain ⟨u,v,hm,r,hr⟩:=hm;exact (Fz hg hm r hd).imp fun σ H Q ⟨p,S,ρ,s,e,h⟩=>bS.ret (R:=bV K) (x:=v) h s (hr p.c H)
theorem lG:∀ c H,aM K c H [] []:=fun c H=>by
 unfold aM;rfl
theorem eQ {p:PV} {ps:List PV} {v:V} {vs:List V} (h:∀ c H,aL K c H p v) (t:∀ c H,aM K c H ps vs):∀ c H,aM K c H (p :: ps) (v :: vs):=fun c H=>by
 unfold aM;exact ⟨v,vs,rfl,h c H,t c H⟩
theorem fZ {i:Int}:∀ c H,aL K c H (.int i) (.int i):=fun c H=>by
 unfold aL;rfl
theorem lE {a:Addr} {od:Option Addr} {its:Array Value} {n:Nat} {sl:Array (Option Value)} {xs:List PV} {vs:List V} (l:K.lookup a=some ⟨.type "tuple",od,.seq its n,sl⟩) (hs:its.size≤sizeLine) (hv:bC vs its.toList) (hl:vs.length≤sizeLine) (t:∀ c H,aM K c H xs vs):∀ c H,aL K c H (.tup xs) (.ref a):=fun c H=>by
 unfold aL;exact ⟨a,vs,rfl,.inr ⟨_,its,n,l,rfl,rfl,hs,hv⟩,hl,t c H⟩
end
end L2.Pp
namespace L2.Pp
open PySem PySem.Spec PyProof.Rows Bn
section
variable {K:PySem.W.Frag} {cl:Str→Addr} {E:XK} {X:Cx}
end
end L2.Pp
namespace L2.Pp
open PySem PySem.Spec PyProof.Rows Bn
section
variable {K:PySem.W.Frag} {cl:Str→Addr} {E:XK} {X:Cx}
variable {a e:Expr} {m:ME} {ms:MA} {pos:Pos}
end
end L2.Pp
namespace L2.Pp
open PySem PySem.Spec PyProof.Rows Bn
section
variable {M:Model} {A:Around} {E:Value→Shared→Prop} {s:Shared} {env:Env}
end
section
variable {prog:Program} {w:World} {A:Around} {R:Result→Shared→Prop} {s:Shared}
end
end L2.Pp
namespace L2
open PySem PySem.Spec PyProof.Rows Bn
section
variable {X:Cx} {pins:List (Addr × Obj)} {σ:St} {H H':Hp} {s s':Shared}
end
end L2
namespace L2
open PySem PySem.Spec PyProof.Rows Bn L2.Pp
section
variable {P:Program} {w:World} {K:PySem.W.Frag} {mg:Str→Option Value} {base:Heap} {N:List Str} {qual:Str} {scope:Scope} {f:Addr} {cd:Value} {A:Around} {outer:List Env} {s₀:Shared} {H₀:Hp} {E:XK}
end
end L2
namespace L2
open PySem PySem.Spec PyProof.Rows Bn L2.Pp
section
variable {P:Program} {w:World} {K:PySem.W.Frag} {mg:Str→Option Value} {base:Heap} {N:List Str} {qual:Str} {scope:Scope} {f:Addr} {cd:Value} {A:Around} {outer:List Env} {s₀:Shared} {H₀:Hp} {E:XK}
variable {sc:Scope} {own:List Str} {cap:List (Nat × Str)} {pins:List (Addr × Obj)} {σ:St} {H:Hp} {s:Shared} {elt target iter:Expr} {pos pos':Pos} {wi:TI} {g:TG} {te:TE} {Q:VK}
end
end L2
namespace L2.Pp
open PySem PySem.Spec PyProof.Rows Bn
section
variable {K:PySem.W.Frag} {cl:Str→Addr} {E:XK} {X:Cx} {p q:Ph} {H H':Hp} {S:aI}
variable {sc:Scope} {own:List Str} {cap:List (Nat × Str)} {elt target iter:Expr} {pos:Pos} {mi:MI} {g:GM} {me:ME}
end
section
variable {P:Program} {w:World} {K:PySem.W.Frag} {mg:Str→Option Value} {base:Heap} {N:List Str} {qual:Str} {scope:Scope} {f:Addr} {cd:Value} {A:Around} {outer:List Env} {s₀:Shared} {H₀:Hp} {E:XK} {cl:Str→Addr}
variable {sc:Scope} {own:List Str} {cap:List (Nat × Str)} {elt target iter:Expr} {pos:Pos} {mi:MI} {g:GM} {me:ME} {wi:TI} {tg:TG} {te:TE}
end
section
variable {K:PySem.W.Frag} {cl:Str→Addr} {E:XK} {X:Cx} {e:Expr} {es:List Expr} {ms:MA} {pos p:Pos} {k n:Nat} {f:Addr} {fd:FuncData} {ps:List Str} {g:FM} {x:Str} {dvs:List V} {ds:List Value} {dv:List PV}
end
end L2.Pp
namespace L2.Pp
open PySem PySem.Spec PyProof.Rows Bn
section
variable {K:PySem.W.Frag} {cl:Str→Addr} {E:XK} {X:Cx}
end
end L2.Pp
namespace L2.Pp
open PySem PySem.Spec PyProof.Rows Bn
section
variable {K:PySem.W.Frag} {cl:Str→Addr} {E:XK} {X:Cx} {a b e:Expr} {m:ME} {ms:MA} {pos:Pos}
end
end L2.Pp
namespace L2
open PySem PySem.Spec PyProof.Rows Bn
section
variable {X:Cx} {k:Nat} {f:Addr} {fd:FuncData} {ps:List Str} {sp:Sp} {dvs:List V} {ds:List Value} {x:Str} {p pos pos1 pos2 pos3 pc:Pos} {e a:Expr} {es:List Expr} {t:TA} {ta:TE} {te:XK→TE} {c n:Str} {C:Addr} {i:Nat} {b₀:Stmt} {body:List Stmt} {newId:String}
end
end L2
namespace L2.Pp
open PySem PySem.Spec PyProof.Rows Bn
section
variable {K:PySem.W.Frag} {cl:Str→Addr} {E:XK} {X:Cx} {a b c e:Expr} {m mc:ME} {ms:MA} {pos:Pos} {tg:Expr} {ma mb:ME}
end
end L2.Pp
namespace L2.Pp
open PySem PySem.Spec PyProof.Rows Bn
section
variable {K:PySem.W.Frag} {cl:Str→Addr} {E:XK} {X:Cx} {e a:Expr} {es:List Expr} {ms:MA} {ma me:ME} {p q:Ph} {H H':Hp} {S:aI}
variable {k:Nat} {f:Addr} {fd:FuncData} {ps:List Str} {g:FM} {dvs:List V} {ds:List Value} {dv:List PV} {x:Str} {pp pos pos1 pos2 pos3 pc:Pos} {c n:Str} {i nn:Nat} {b₀:Stmt} {body:List Stmt} {newId:String} {up:bR→bR}
variable (K cl X)
variable {K cl X}
end
end L2.Pp
namespace L2.Pp
open PySem PySem.Spec PyProof.Rows Bn
section
variable {K:PySem.W.Frag} {cl:Str→Addr} {E:XK} {X:Cx} {a b:Expr} {ma mb:ME} {pos:Pos}
end
end L2.Pp
namespace L2
open PySem PySem.Spec PyProof.Rows Bn
section
variable {X:Cx} {k:Nat} {p pos pos1 pos2 pos3 pc:Pos} {e:Expr} {te:XK→TE} {c:Str} {C:Addr} {b₀:Stmt} {body:List Stmt} {newId:String}
end
end L2
namespace L2.Pp
open PySem PySem.Spec PyProof.Rows Bn
section
variable {K:PySem.W.Frag} {cl:Str→Addr} {E:XK} {X:Cx} {a b e:Expr} {m me:ME} {ms:MA} {pos pos1 pos2 pos3 pc:Pos} {c:Str} {nn:Nat} {b₀:Stmt} {body:List Stmt} {newId:String} {up:bR→bR}
end
end L2.Pp
namespace L2.Pp
open PySem PySem.Spec PyProof.Rows Bn
section
variable {M:Model} {A:Around} {E:Value→Shared→Prop} {s:Shared} {env:Env}
end
end L2.Pp
namespace L2
open PySem PySem.Spec PyProof.Rows Bn L2.Pp
section
variable {P:Program} {w:World} {K:PySem.W.Frag} {mg:Str→Option Value} {base:Heap} {N:List Str} {qual:Str} {scope:Scope} {f:Addr} {cd:Value} {A:Around} {outer:List Env} {s₀:Shared} {H₀:Hp} {E:XK}
variable {sc:Scope} {own:List Str} {cap:List (Nat × Str)} {pins:List (Addr × Obj)} {σ:St} {H:Hp} {s:Shared} {elt target iter:Expr} {pos pos':Pos} {wi:TI} {g:TG} {te:TE} {Q:VK}
end
end L2
namespace L2.Pp
open PySem PySem.Spec PyProof.Rows Bn
section
variable {P:Program} {w:World} {K:PySem.W.Frag} {mg:Str→Option Value} {base:Heap} {N:List Str} {qual:Str} {scope:Scope} {f:Addr} {cd:Value} {A:Around} {outer:List Env} {s₀:Shared} {H₀:Hp} {E:XK} {cl:Str→Addr}
variable {sc:Scope} {own:List Str} {cap:List (Nat × Str)} {elt target iter:Expr} {pos:Pos} {mi:MI} {g:GM} {me:ME}
end
end L2.Pp
namespace L2.Pp
open PySem PySem.Spec PyProof.Rows Bn
section
variable {K:PySem.W.Frag}
end
end L2.Pp
namespace L2.Pp
open PySem PySem.Spec PyProof.Rows Bn
section
variable {K:PySem.W.Frag} {X:Cx}
end
end L2.Pp
namespace L2
open PySem PySem.Spec PyProof.Rows Bn
def uW (J:It) (g:TG) (tc:TT) (te:TE) (σ₀:St) (H1:Hp) (D:Addr) (Q:VK):Prop :=
 ∃ W:Nat→Nat→St→Hp→List V→Prop,(∃ m,W 0 m σ₀ (aT H1 D (.lst [])) [])∧∀ i m σ H ys,W i m σ H ys→H D=some (.lst ys) ∧
  ((J.stop i H∧Q (.ref D) H)∨(J.go i H∧ys.length < sizeLine∧∀ x H2,J.yld i H x H2→g x σ H2 fun σ3 H3=>tc σ3 H3 fun b HA=>if b=true then te σ3 HA fun y H4=>H4 D=some (.lst ys)∧∃ m',m' < m∧W (i+1) m' σ3 (aT H4 D (.lst (ys++[y]))) (ys++[y]) else ∃ m',m' < m∧W (i+1) m' σ3 HA ys))
def Al (own:List Str) (cap:List (Nat × Str)) (wi:TI) (g:TG) (tc:TT) (te:TE):TE:=fun σ H Q=>wi σ H fun J H1=>∀ D,H1 D=none→uW J g tc te (hV own cap σ) H1 D Q
section
variable {prog:Program} {w:World} {A:Around} {R:Result→Shared→Prop} {s:Shared}
theorem Hr {elt target iter cnd:Expr} {sc:Scope} {pos:Pos} {it acc:Value} {env:Env} (I:Nat→Shared→Prop)
  (turn:∀ n s,I n s→wpAny (model prog w) A (pyNext it) (fun r s1=>match r with
   | none=>R (.ok .next) s1
   | some v=>wpAny (model prog w) A (letOwnedTupleGo target it v) (fun _ s2=>wpAny (model prog w) A (assign target env v) (fun _ s3=>wpAny (model prog w) A (isTrue cnd env (eval cnd env)) (fun b sA=>if b=true then wpAny (model prog w) A (eval elt env)
     (fun x s4=>wpAny (model prog w) A (call (.builtin "list.append") [acc,x]) (fun _ s5=>∃ m,m < n∧I m s5) (fun _ _=>False) s4) (fun _ _=>False) sA else ∃ m,m < n∧I m sA) (fun _ _=>False) s3) (fun _ _=>False) s2) (fun _ _=>False) s1) (fun _ _=>False) s)
  (n:Nat) (h:I n s):codeAny (model prog w) A (.compLoop (.ListComp elt [⟨target,iter,[cnd],0⟩] sc pos) 0 it acc env) R s:=by
 refine codeAny_loop rfl I (fun n s hI=>?_) n h;show wpAny _ _ ((compTurn (.ListComp elt [⟨target,iter,[cnd],0⟩] sc pos) 0 it acc env).onRaise (fun x=>do noteFrame x env; theTreesLotGoes x)) _ _ s;refine wpAny_noted ?_;rw [compTurn_list];refine wpAny_bind (wpAny_standAt (wpAny_bind ?_));refine wpAny_mono (turn n s hI) (fun r s1 h1=>?_) fun _ _ z=>z.elim;cases r with
 | none=>exact wpAny_pure h1
 | some v =>
  refine wpAny_bind (wpAny_mono h1 (fun _ s2 h2=>?_) fun _ _ z=>z.elim);refine wpAny_bind (wpAny_mono h2 (fun _ s3 h3=>?_) fun _ _ z=>z.elim);refine wpAny_bind (wpAny_tests_one (wpAny_mono h3 (fun ok sA hA=>?_) fun _ _ z=>z.elim));cases ok with
  | true =>
   rw [if_pos rfl] at hA ⊢;refine wpAny_bind (wpAny_bind (wpAny_mono hA (fun x s4 h4=>?_) fun _ _ z=>z.elim));refine wpAny_bind (wpAny_mono h4 (fun _ s5 h5=>?_) fun _ _ z=>z.elim);exact wpAny_pure (wpAny_pure ⟨rfl,h5⟩)
  | false =>
   rw [if_neg Bool.false_ne_true] at hA ⊢;exact wpAny_bind (wpAny_pure (wpAny_pure ⟨rfl,hA⟩))
end
section
variable {X:Cx} {sc:Scope} {own:List Str} {cap:List (Nat × Str)} {pins:List (Addr × Obj)} {σ:St} {H:Hp} {s:Shared} {elt target iter cnd:Expr} {pos pos':Pos} {wi:TI} {g:TG} {tc:TT} {te:TE} {Q:VK}
theorem Mq {use:Option (Value→Sem Unit)} {Qf:Value→Shared→Prop} (k:gI X sc own cap) (hi:PI X target iter wi) (hc:X.calm=true)
  (hg:∀ C s₀ H₀ ex,PG (dX X sc (cB own cap) C s₀ H₀ ex) target g) (ht:∀ C s₀ H₀ ex,PT (dX X sc (cB own cap) C s₀ H₀ ex) cnd tc) (he:∀ C s₀ H₀ ex,PE (dX X sc (cB own cap) C s₀ H₀ ex) elt te) (I:aG X pins σ H s) (h:Al own cap wi g tc te σ H Q)
  (fin:∀ D C s' H' m,aG X pins σ H' s'→eW X pins H' C→s'.heap.Ns C m→Q (.ref D) H'→compPost (model X.prog X.w) X.A X.xe use Qf (.ref D) C (.ok .next) s')
  (hs:∀ x,foldedSetIterable iter X.env x=pure x) :
  wpAny (model X.prog X.w) X.A (comprehension (.ListComp elt [⟨target,iter,[cnd],0⟩] sc pos) sc X.env pos' (newList []) false (eval iter X.env) use) Qf X.xe s:=by
 refine wpAny_comprehension_free (use:=use) rfl hs (yV (k.has I.ok)) k.kind k.names ?_;refine bF (hi pins s σ H _ I h) fun v s1 h1=>bF h1 fun itv s2 h2=>?_;obtain ⟨it,fp,tn,J,H2,e,I2,T,st2,f2,hW⟩:=h2;subst e;refine wpAny_newObj_type (wpAny_newFunctionEnv k.nocell (fun y hy=>nomatch hy) (fun h4 hns hsb=>?_) k.kind);have I3:aG X pins σ (aT H2 s2.heap.objs.size (.lst [])) { s2 with heap:=s2.heap.push { cls:=.type "list",data:=.seq ([]:List Value).toArray },toks:=s2.toks }:=I2.lnew (ys:=[]) (its:=[]) .nil (Nat.zero_le _);have hD:H2 s2.heap.objs.size=none:=I2.fresh;have ltf:∀ b∈fp,b < s2.heap.objs.size:=fun b hb=>by
  obtain ⟨o,ho,_⟩:=T.obj _ _ st2 b hb;exact Heap.lt_size ho
 have f3:∀ b∈fp,eW X pins (aT H2 s2.heap.objs.size (.lst [])) b:=fun b hb=>⟨by rw [bP (Nat.ne_of_lt (ltf b hb))]; exact (f2 b hb).1,(f2 b hb).2⟩;have un:Un (fT X.stack) fp H2 (aT H2 s2.heap.objs.size (.lst [])) s2.heap (s2.heap.push { cls:=.type "list",data:=.seq ([]:List Value).toArray }):=Un.laid (fun b u q=>Heap.get?_push_of_some _ q) (Nat.le_refl _) hD;have kp:∀ b o,(s2.heap.push { cls:=.type "list",data:=.seq ([]:List Value).toArray }).get? b=some o→h4.get? b=some o:=fun b o q=>hsb.extBut b o (Nat.ne_of_lt (Heap.lt_size q)) (Heap.get?_push_of_some _ q);have J0:=I3.cmp (t':=s2.toks+([]:List (Str × Value)).length) k f3 (fun b hb=>Nat.lt_of_lt_of_le (ltf b hb) (by rw [Heap.size_push]; exact Nat.le_succ _)) hns kp;have stat:∀ {H':Hp},(∀ b∈fp,H' b=none)→∀ b∈fp,eW (dX X sc (cB own cap) (s2.heap.push { cls:=.type "list",data:=.seq ([]:List Value).toArray }).objs.size { s2 with heap:=s2.heap.push { cls:=.type "list",data:=.seq ([]:List Value).toArray },toks:=s2.toks } (aT H2 s2.heap.objs.size (.lst [])) fp) [] H' b:=fun hn b hb =>
  ⟨hn b hb,(J0.ok.exf b hb).1,J0.ok.exfs b hb,.inl hb,(J0.ok.exf b hb).2,fun p hp=>absurd (show p∈([]:List (Addr × Obj)) from hp) (by simp)⟩
 have st4:tn 0 h4:=T.keep _ _ _ st2 fun b hb o q=>kp b o (Heap.get?_push_of_some _ q);have fr0:∀ b∈fp,(aT H2 s2.heap.objs.size (.lst [])) b=none:=fun b hb=>(f3 b hb).1;have loop:codeAny (model X.prog X.w) X.A (.compLoop (.ListComp elt [⟨target,iter,[cnd],0⟩] sc pos) 0 (.ref it) (.ref s2.heap.objs.size) (compEnvC sc (fO X.env sc.names []) (s2.heap.push { cls:=.type "list",data:=.seq ([]:List Value).toArray }).objs.size X.env))
   (compPost (model X.prog X.w) X.A X.xe use Qf (.ref s2.heap.objs.size) (s2.heap.push { cls:=.type "list",data:=.seq ([]:List Value).toArray }).objs.size) { s2 with heap:=h4,toks:=s2.toks+([]:List (Str × Value)).length }:=by
  obtain ⟨W,⟨m0,w0⟩,turn⟩:=hW s2.heap.objs.size hD;refine Hr (fun n s'=>∃ i σ' H' ys,aG (dX X sc (cB own cap) (s2.heap.push { cls:=.type "list",data:=.seq ([]:List Value).toArray }).objs.size { s2 with heap:=s2.heap.push { cls:=.type "list",data:=.seq ([]:List Value).toArray },toks:=s2.toks } (aT H2 s2.heap.objs.size (.lst [])) fp) [] σ' H' s'∧tn i s'.heap∧(∀ b∈fp,H' b=none)∧W i n σ' H' ys) ?_ m0
   ⟨0,_,_,[],J0,st4,fr0,w0⟩
  rintro n s5 ⟨i,σ5,H5,ys,I5,st5,fr5,w5⟩
  obtain ⟨hD5,w5⟩:=turn i n σ5 H5 ys w5;rcases w5 with ⟨stop,qn⟩ | ⟨go,hlt,step⟩
  ·refine bF (T.done (dX X sc (cB own cap) (s2.heap.push { cls:=.type "list",data:=.seq ([]:List Value).toArray }).objs.size { s2 with heap:=s2.heap.push { cls:=.type "list",data:=.seq ([]:List Value).toArray },toks:=s2.toks } (aT H2 s2.heap.objs.size (.lst [])) fp) rfl rfl rfl hc i [] s5 σ5 H5 _ I5 (stat fr5) st5 stop) fun r s6 ⟨hr,I6⟩=>?_
   subst hr;obtain ⟨m,hn,_⟩:=id I6.loc;exact fin _ _ s6 H5 m (I2.uncmp (s3:={ s2 with heap:=s2.heap.push { cls:=.type "list",data:=.seq ([]:List Value).toArray },toks:=s2.toks }) f2 un rfl I6) (I3.fpOk (Nat.le_refl _) I6.free) hn qn
  ·refine bF (T.item (dX X sc (cB own cap) (s2.heap.push { cls:=.type "list",data:=.seq ([]:List Value).toArray }).objs.size { s2 with heap:=s2.heap.push { cls:=.type "list",data:=.seq ([]:List Value).toArray },toks:=s2.toks } (aT H2 s2.heap.objs.size (.lst [])) fp) rfl rfl rfl hc i [] s5 σ5 H5 _ I5 (stat fr5) st5 go) fun r s6 ⟨u,hr,h6⟩=>?_
   subst hr;refine bF h6 fun _ s7 ⟨x,H7,I7,r7,y7,st7,fr7⟩=>?_;have I7':=I7.pinned (stat fr7) (T.obj _ _ st7);refine bF (hg _ _ _ _ _ s7 σ5 H7 x u _ I7' r7 (step x H7 y7)) fun _ s8 ⟨σ8,H8,I8,q8⟩=>?_;refine bF (ht _ _ _ _ _ s8 σ8 H8 _ I8 q8) fun bb sA ⟨HA,IA,qA⟩=>?_;cases bb with
   | true =>
    rw [if_pos rfl];rw [if_pos rfl] at qA;refine bF (he _ _ _ _ _ sA σ8 HA _ IA qA) fun v9 s9 ⟨y,H9,I9,r9,hD9,m',hm,w9⟩=>?_;refine bF (qW _ s9 σ8 H9 (.ref s2.heap.objs.size) [y] (.ref s2.heap.objs.size) [v9] (fun _ H'=>H'=aT H9 s2.heap.objs.size (.lst (ys++[y]))) I9 rfl (.cons r9 .nil) ⟨_,ys,y,rfl,rfl,hD9,hlt,rfl⟩) fun _ s10 ⟨_,H10,I10,_,q10⟩=>?_;subst q10;refine ⟨m',hm,i+1,σ8,_,_,I10.unpinned,T.keep _ _ _ st7 fun b hb o q=>(I10.pin (b,o) (List.mem_append_right _ (List.mem_append_right _ (kK hb q)))).1,fun b hb=>?_,w9⟩;obtain ⟨o,q,d⟩:=T.obj _ _ st7 b hb;exact (I10.pin (b,o) (List.mem_append_right _ (List.mem_append_right _ (kK hb q)))).2.1
   | false =>
    rw [if_neg Bool.false_ne_true];rw [if_neg Bool.false_ne_true] at qA;obtain ⟨m',hm,w9⟩:=qA;refine ⟨m',hm,i+1,σ8,_,_,IA.unpinned,T.keep _ _ _ st7 fun b hb o q=>(IA.pin (b,o) (List.mem_append_right _ (List.mem_append_right _ (kK hb q)))).1,fun b hb=>?_,w9⟩;obtain ⟨o,q,d⟩:=T.obj _ _ st7 b hb;exact (IA.pin (b,o) (List.mem_append_right _ (List.mem_append_right _ (kK hb q)))).2.1
 exact codeAny_compStart_list loop (T.self _ 0 _ _ _ st4 loop)
theorem Et (k:gI X sc own cap) (hi:PI X target iter wi) (hc:X.calm=true)
  (hg:∀ C s₀ H₀ ex,PG (dX X sc (cB own cap) C s₀ H₀ ex) target g) (ht:∀ C s₀ H₀ ex,PT (dX X sc (cB own cap) C s₀ H₀ ex) cnd tc) (he:∀ C s₀ H₀ ex,PE (dX X sc (cB own cap) C s₀ H₀ ex) elt te)
  (hs:∀ x,foldedSetIterable iter X.env x=pure x:=by intro _; rfl):PE X (.ListComp elt [⟨target,iter,[cnd],0⟩] sc pos) (Al own cap wi g tc te):=by
 intro pins s σ H Q I h;rw [eval_ListComp];refine Mq (use:=none) k hi hc hg ht he I h (fun D C s' H' m I' fC hn q=>?_) hs;refine ⟨m,hn,fun h' sb=>⟨.ref D,H',?_,rfl,q⟩⟩;obtain ⟨f0,f1,f2,f3,f4,f5⟩:=fC;exact I'.turned (t':=s'.toks) (fun b o hb e=>(sb.2 b hb).trans e) f0 f1 f3 f4 f5
end
end L2
namespace L2.Pp
open PySem PySem.Spec PyProof.Rows Bn
open Classical in
noncomputable def eZ (G:Gd) (g:GM) (mc:MT) (me:ME):List PV→bR→aI→bK (List PV)
 | [],_,S=>if gJ G S then .ok [] S else .fail
 | x :: r,ρ,S=>if gJ G S then (match g x ρ with
  | none=>.fail
  | some ρ1=>match mc ρ1 S with
   | .ok true S0=>(match me ρ1 S0 with
    | .ok (.pv y) S1=>match eZ G g mc me r ρ1 S1 with
     | .ok ys S2=>.ok (y :: ys) S2
     | _=>.fail
    | _=>.fail)
   | .ok false S0=>eZ G g mc me r ρ1 S0
   | _=>.fail) else .fail
theorem Kq {g:GM} {mc:MT} {me:ME} {ρ:bR} {S:aI}:eZ [] g mc me [] ρ S=.ok [] S:=by
 unfold eZ;rw [if_pos (kM S)]
theorem Wp {g:GM} {mc:MT} {me:ME} {x:PV} {r:List PV} {ρ:bR} {S:aI}:eZ [] g mc me (x :: r) ρ S=(match g x ρ with
  | none=>.fail
  | some ρ1=>match mc ρ1 S with
   | .ok true S0=>(match me ρ1 S0 with
    | .ok (.pv y) S1=>match eZ [] g mc me r ρ1 S1 with
     | .ok ys S2=>.ok (y :: ys) S2
     | _=>.fail
    | _=>.fail)
   | .ok false S0=>eZ [] g mc me r ρ1 S0
   | _=>.fail):=by
 rw [eZ,if_pos (kM S)]
noncomputable def uC (own:List Str) (cap:List (Nat × Str)) (mi:MI) (g:GM) (mc:MT) (me:ME):ME:=fun ρ S=>(mi ρ S).bind fun xs S1=>(eZ xs.2 g mc me xs.1 (cO own cap ρ) S1).bind fun ys S2=>.ok (.pv (.lst ys)) S2
theorem Cd {G:Gd} {g:GM} {mc:MT} {me:ME}:∀ (xs:List PV) (ρ:bR) (S:aI) (n:Str) (S':aI),eZ G g mc me xs ρ S≠.exc n S'
 | [],_,_,_,_,e=>by
  unfold eZ at e;split at e <;> cases e
 | x :: r,ρ,S,n,S',e=>by
  unfold eZ at e;split at e
  ·split at e
   ·cases e
   ·split at e
    ·split at e
     ·split at e <;> cases e
     ·cases e
    ·exact Cd r _ _ _ _ e
    ·cases e
  ·cases e
theorem xQ {G:Gd} {g:GM} {mc:MT} {me:ME} {xs zs:List PV} {ρ:bR} {S S':aI} (e:eZ G g mc me xs ρ S=.ok zs S'):gJ G S:=by
 cases xs with
 | nil =>
  unfold eZ at e;split at e
  ·assumption
  ·cases e
 | cons x r =>
  unfold eZ at e;split at e
  ·assumption
  ·cases e
theorem Hw {J:It} {g:TG} {tc:TT} {te:TE} {σ₀:St} {H1:Hp} {D:Addr} {Q:VK} (n:Nat) (hn:n≤sizeLine) (Pv:Nat→St→Hp→List V→Prop) (h0:Pv 0 σ₀ (aT H1 D (.lst [])) [])
  (hl:∀ i σ H ys,Pv i σ H ys→ys.length≤i∧H D=some (.lst ys)) (hgo:∀ i σ H ys,i < n→Pv i σ H ys→J.go i H)
  (hs:∀ i σ H ys x H2,i < n→Pv i σ H ys→J.yld i H x H2→g x σ H2 fun σ3 H3=>tc σ3 H3 fun b HA=>if b=true then te σ3 HA fun y H4=>H4 D=some (.lst ys)∧∃ m',m' < n - i∧(m'=n - (i+1)∧i+1≤n∧Pv (i+1) σ3 (aT H4 D (.lst (ys++[y]))) (ys++[y])) else ∃ m',m' < n - i∧(m'=n - (i+1)∧i+1≤n∧Pv (i+1) σ3 HA ys))
  (hd:∀ σ H ys,Pv n σ H ys→J.stop n H∧Q (.ref D) H):uW J g tc te σ₀ H1 D Q:=by
 refine ⟨fun i m σ H ys=>m=n - i∧i≤n∧Pv i σ H ys,⟨n,rfl,Nat.zero_le _,h0⟩,?_⟩
 rintro i m σ H ys ⟨rfl,hi,p⟩
 obtain ⟨l1,l2⟩:=hl i σ H ys p;refine ⟨l2,?_⟩
 by_cases hlt:i < n
 ·exact .inr ⟨hgo i σ H ys hlt p,by omega,fun x H2 y=>hs i σ H ys x H2 hlt p y⟩
 ·have e:i=n:=by omega
  subst e;exact .inl (hd σ H ys p)
theorem n1 {n i:Nat} {P:Prop} (h:i < n) (p:P):∃ m',m' < n - i∧(m'=n - (i+1)∧i+1≤n∧P):=⟨n - (i+1),by omega,rfl,h,p⟩
section
variable {K:PySem.W.Frag} {cl:Str→Addr} {E:XK} {X:Cx} {p q:Ph} {H H':Hp} {S:aI} {sc:Scope} {own:List Str} {cap:List (Nat × Str)} {elt target iter cnd:Expr} {pos:Pos} {mi:MI} {g:GM} {mc:MT} {me:ME}
theorem Fq {σ:St} {ρ:bR} {xs zs:List PV} {G:Gd} {J:It} {Q:VK} {D:Addr} {S2:aI} (sm:aU K p S H) (ev:dB K p H ρ σ) (it:eT K p H (xs,G) J) (z:eZ G g mc me xs (cO own cap ρ) S=.ok zs S2) (hD:H D=none)
  (k:∀ q H' vs,bM p H q H'→aU K q S2 H'→aU K (q.hold D) S2 H'→q.w D→D ∉ q.f→H' D=some (.lst vs)→vs.length≤sizeLine→aM K q.c H' zs vs→Q (.ref D) H') :
  uW J (gP K g) (tP K cl E0 RB mc) (tP K cl E0 (bV K) me) (hV own cap σ) H D Q:=by
 obtain ⟨st0,sm0⟩:=sm.res (D:=D) (o:=.lst []) hD trivial;have sh0:=sm.resHold (D:=D) (o:=.lst []) hD trivial;have nf0:D ∉ p.f:=fun h=>sm.notin hD (sm.wc D (sm.sub D h));refine Hw xs.length it.1 (fun i σ1 H1 ys=>ys.length≤i∧i≤xs.length∧H1 D=some (.lst ys)∧∃ p1 S1 ρ1 us ws,(aU K p1 S1 H1∧aU K (p1.hold D) S1 H1)∧bM p H p1 H1∧p1.w D∧D ∉ p1.f∧dB K p1 H1 ρ1 σ1∧eT K p1 H1 (xs,G) J∧gJ G S1∧aM K p1.c H1 us ys∧zs=us++ws∧eZ G g mc me (xs.drop i) ρ1 S1=.ok ws S2) ?_ ?_ ?_ ?_ ?_
 ·refine ⟨Nat.le_refl _,Nat.zero_le _,eN,p.res D,S,cO own cap ρ,[],zs,⟨sm0,sh0⟩,st0,.inr rfl,nf0,Ah (st0.repE ev),it.step st0,?_,.nil,rfl,by simpa using z⟩
  exact xQ z
 ·rintro i σ1 H1 ys ⟨h1,_,h2,_⟩
  exact ⟨h1,h2⟩
 ·rintro i σ1 H1 ys hi ⟨_,_,_,p1,S1,ρ1,us,ws,⟨sm1,sh1⟩,st1,w1,f1,ev1,it1,g1,_⟩
  exact ((it1.2 p1 H1 S1 sm1.step sm1 g1).1 i xs[i] (List.getElem?_eq_getElem hi)).1
 ·rintro i σ1 H1 ys x H2 hi ⟨hl,_,hH,p1,S1,ρ1,us,ws,⟨sm1,sh1⟩,st1,w1,f1,ev1,it1,g1,r1,e1,c1⟩ hy
  obtain ⟨same,rx⟩:=((it1.2 p1 H1 S1 sm1.step sm1 g1).1 i xs[i] (List.getElem?_eq_getElem hi)).2 x H2 hy;rw [List.drop_eq_getElem_cons hi] at c1;unfold eZ at c1;rw [if_pos g1] at c1;split at c1
  ·cases c1
  ·rename_i ρ2 gz
   have st2:=sm1.same same;have sm2:=sm1.ofSame same;have smh:=sh1.ofSame same;have hD2:H2 D=some (.lst ys):=same _ _ hH;have go:∀ (q:Ph) (H4:Hp) (S3:aI) (σ3:St),dB K p1 H2 ρ2 σ3→bM (p1.hold D) H2 q H4→aU K q S3 H4→H4 D=some (.lst ys)∧∃ q2:Ph,bM p1 H1 q2 H4∧aU K q2 S3 H4∧aU K (q2.hold D) S3 H4∧q2.w D∧D ∉ q2.f∧dB K q2 H4 ρ2 σ3∧q2.c=q.c:=fun q H4 S3 σ3 ev3 st4 sm4=>by
    have hD4:H4 D=some (.lst ys):=st4.keep D _ hD2 fun z=>z.2 rfl;have fq:D ∉ q.f:=fun h=>by
     have:=st4.nf D h f1;rw [hD2] at this;cases this
    have stU:=bM.unhold w1 st4 sm2;have nq:¬ q.w D:=fun z=>by
     have:=st4.nw D z fun y=>y.2 rfl;rw [hD2] at this;cases this
    have smU:aU K ⟨q.f,fun a=>q.w a∨a=D,q.c⟩ S3 H4:=⟨sm4.nd,sm4.len,fun a h=>.inl (sm4.sub a h),fun a h=>h.elim (sm4.wc a) fun z=>z ▸ st4.mono D (sm2.wc D w1),sm4.mu,fun k a o e1 e2 =>
     (sm4.obj k a o e1 e2).mono (fun _ e=>e) (fun b w f=>⟨⟨.inl w,f⟩,fun _ e=>e⟩) fun _ _ r=>r⟩
    have shU:aU K (Ph.hold ⟨q.f,fun a=>q.w a∨a=D,q.c⟩ D) S3 H4:=⟨sm4.nd,sm4.len,fun a h=>⟨.inl (sm4.sub a h),fun z=>nq (z ▸ sm4.sub a h)⟩,fun a h=>smU.wc a h.1,sm4.mu,fun k a o e1 e2 =>
     (sm4.obj k a o e1 e2).mono (fun _ e=>e) (fun b w f=>⟨⟨⟨.inl w,fun z=>nq (z ▸ w)⟩,f⟩,fun _ e=>e⟩) fun _ _ r=>r⟩
    exact ⟨hD4,_,st2.trans stU,smU,shU,.inr rfl,fq,stU.repE ev3,rfl⟩
   split at c1
   ·rename_i SA mz
    split at c1
    ·rename_i y S3 ez
     split at c1
     ·rename_i vs S4 cz
      cases c1;refine ⟨p1,S1,ρ1,xs[i],ρ2,sm2,st2.repE ev1,rx,gz,fun σ3 ev3=>⟨p1.hold D,S1,ρ2,smh,⟨ev3.len,ev3.at_⟩,?_⟩⟩;rw [mz];intro q HA b stA smA rb;cases rb;rw [if_pos rfl];refine ⟨q,SA,ρ2,smA,stA.repE (p:=p1.hold D) ⟨ev3.len,ev3.at_⟩,?_⟩;rw [ez];intro q4 H4 y' st4 sm4 ry;obtain ⟨hD4,q2,stQ,smQ,shQ,wQ,fQ,evQ,cQ⟩:=go q4 H4 S3 σ3 ev3 (stA.trans st4) sm4;obtain ⟨stG,smG,shG⟩:=smQ.grow (ys:=ys) (D:=D) (o:=.lst (ys++[y'])) shQ wQ fQ trivial;have stB:=stQ.trans stG;have ry:aL K q4.c H4 y y':=ry;rw [← cQ] at ry;refine ⟨hD4,n1 hi ⟨by rw [List.length_append]; exact Nat.succ_le_succ hl,hi,eN,q2,S3,ρ2,us++[y],vs,⟨smG,shG⟩,st1.trans stB,wQ,fQ,stG.repE evQ,it1.step stB,xQ cz,?_,by rw [e1,List.append_assoc]; rfl,cz⟩⟩;exact (stB.reps r1).append (.cons (stG.rep ry) .nil)
     ·cases c1
    ·cases c1
   ·rename_i SA mz
    refine ⟨p1,S1,ρ1,xs[i],ρ2,sm2,st2.repE ev1,rx,gz,fun σ3 ev3=>⟨p1.hold D,S1,ρ2,smh,⟨ev3.len,ev3.at_⟩,?_⟩⟩;rw [mz];intro q HA b stA smA rb;cases rb;rw [if_neg Bool.false_ne_true];obtain ⟨hD4,q2,stQ,smQ,shQ,wQ,fQ,evQ,cQ⟩:=go q HA SA σ3 ev3 stA smA;exact n1 hi ⟨Nat.le_succ_of_le hl,hi,hD4,q2,SA,ρ2,us,ws,⟨smQ,shQ⟩,st1.trans stQ,wQ,fQ,evQ,it1.step stQ,xQ c1,stQ.reps r1,e1,c1⟩
   ·cases c1
 ·rintro σ1 H1 ys ⟨hl,_,hH,p1,S1,ρ1,us,ws,⟨sm1,sh1⟩,st1,w1,f1,ev1,it1,g1,r1,e1,c1⟩
  rw [List.drop_length] at c1;unfold eZ at c1;rw [if_pos g1] at c1;cases c1;refine ⟨(it1.2 p1 H1 _ sm1.step sm1 g1).2,?_⟩;rw [List.append_nil] at e1;subst e1;exact k p1 H1 ys st1 sm1 sh1 w1 f1 hH (Nat.le_trans hl it.1) r1
theorem Aq {σ:St} {ρ:bR} {xs:List PV × Gd} {J:It} {Q:VK} {D:Addr} (sm:aU K p S H) (ev:dB K p H ρ σ) (it:eT K p H xs J) (k:bS K cl (bV K) p H ((eZ xs.2 g mc me xs.1 (cO own cap ρ) S).bind fun ys S2=>.ok (.pv (.lst ys)) S2) Q E) (hD:H D=none) :
  uW J (gP K g) (tP K cl E0 RB mc) (tP K cl E0 (bV K) me) (hV own cap σ) H D Q:=by
 cases z:eZ xs.2 g mc me xs.1 (cO own cap ρ) S with
 | fail=>rw [z] at k; exact k.elim
 | exc n S'=>exact absurd z (Cd _ _ _ _ _)
 | ok zs S2 =>
  rw [z] at k;have k:∀ q H' x,bM p H q H'→aU K q S2 H'→aL K q.c H' (.lst zs) x→Q x H':=k;refine Fq sm ev it z hD fun q H' vs st1 sm1 sh1 w1 f1 hH l1 r1=>?_;refine k (q.less D) H' (.ref D) (st1.toLess hD) sh1.toLess ?_;unfold aL;exact ⟨D,vs,rfl,.inl ⟨hH,fun z=>z.2 rfl⟩,l1,nQ (fun a h=>h.1) r1⟩
theorem Cv (k:gI X sc own cap) (hi:gU K cl E X target iter mi) (hc:X.calm=true) (hg:∀ C s₀ H₀ ex,kJ K (dX X sc (cB own cap) C s₀ H₀ ex) target g) (ht:∀ C s₀ H₀ ex,gL K cl E0 (dX X sc (cB own cap) C s₀ H₀ ex) cnd mc) (he:∀ C s₀ H₀ ex,aW K cl E0 (dX X sc (cB own cap) C s₀ H₀ ex) elt me)
  (hs:∀ x,foldedSetIterable iter X.env x=pure x:=by intro _; rfl):aW K cl E X (.ListComp elt [⟨target,iter,[cnd],0⟩] sc pos) (uC own cap mi g mc me):=by
 intro hK;refine PE.imp (Et k (hi hK) hc (fun C s₀ H₀ ex=>hg C s₀ H₀ ex hK) (fun C s₀ H₀ ex=>ht C s₀ H₀ ex hK) (fun C s₀ H₀ ex=>he C s₀ H₀ ex hK) hs) fun σ H Q ⟨p,S,ρ,s,ev,h⟩=>?_;exact cC s ev h fun q H' xs J S' stp sm ev it kk D hD=>Aq sm ev it kk hD
end
end L2.Pp
namespace L2
open PySem PySem.Spec PyProof.Rows Bn
open L2.Pp
section
variable {X:Cx} {pins:List (Addr × Obj)} {σ:St} {H:Hp} {s:Shared} {c:Addr→Prop} {a b:Addr} {n:Bool} {k:fK n} {ks:List PV} {us:List Value}
theorem Gg:∀ {l:List Int} {vs:List V},aM X.K c H (l.map PV.int) vs→vs=l.map V.int
 | [],vs,h=>by
  unfold List.map aM at h;exact h
 | i :: l,vs,h=>by
  rw [List.map_cons] at h;unfold aM at h;obtain ⟨v,r,rfl,h1,h2⟩:=h;unfold aL at h1;rw [h1,Gg h2];rfl
theorem Qi (I:aG X pins σ H s) {l:List Int} (r:aL X.K c H (.tup (l.map PV.int)) (.ref b)):fX s.heap l b:=by
 unfold aL at r;obtain ⟨a,vs,e,sq,_,r⟩:=r;cases e;obtain ⟨its,rv,⟨o,ho,hc,m,hd⟩,_⟩:=I.tuple sq;rw [Gg r] at rv;exact ⟨o,its.toArray,m,ho,hc,hd,by simpa using rv⟩
theorem Zd (I:aG X pins σ H s):∀ {l:List (List Int)} {vs:List V} {its:List Value},aM X.K c H (l.map fun r:List Int=>PV.tup (r.map PV.int)) vs→bC vs its→Paired (fun k v=>∃ b,v=Value.ref b∧fX s.heap k b) l its
 | [],vs,its,h,rv=>by
  unfold List.map aM at h;subst h;cases rv;exact .nil
 | i :: l,vs,its,h,rv=>by
  rw [List.map_cons] at h;unfold aM at h;obtain ⟨v,r,rfl,h1,h2⟩:=h;cases rv with
  | cons e t =>
   have h1':=h1;unfold aL at h1';obtain ⟨a,ws,rfl,_⟩:=h1';cases e;exact .cons ⟨_,rfl,Qi I h1⟩ (Zd I h2 t)
theorem zY (I:aG X pins σ H s):∀ {n:Bool} {k:fK n} {b:Addr},aL X.K c H (dN n k) (.ref b)→(kU X.prog X.w n).is s.heap k b
 | false,k,b,r=>fX.key (Qi I r)
 | true,k,b,r=>by
  have r:aL X.K c H (.tup (List.map (fun r:List Int=>PV.tup (r.map PV.int)) k)) (.ref b):=r;unfold aL at r;obtain ⟨a,vs,e,sq,_,r⟩:=r;cases e;obtain ⟨its,rv,⟨o,ho,hc,m,hd⟩,_⟩:=I.tuple sq;exact ⟨o,its.toArray,m,ho,hc,hd,by simpa using Zd I r rv⟩
theorem yN:∀ {l m:List Int},l.map PV.int=m.map PV.int→l=m
 | [],[],_=>rfl
 | [],_ :: _,h=>by cases h
 | _ :: _,[],h=>by cases h
 | i :: l,j :: m,h=>by
  rw [List.map_cons,List.map_cons] at h;injection h with h1 h2;injection h1 with h1;rw [h1,yN h2]
theorem pE:∀ {n:Bool} {k k':fK n},dN n k=dN n k'→k=k'
 | false,k,k',h=>by
  unfold dN at h;injection h with h;exact yN h
 | true,k,k',h=>by
  unfold dN at h;injection h with h;have go:∀ {l m:List (List Int)},l.map (fun r:List Int=>PV.tup (r.map PV.int))=m.map (fun r:List Int=>PV.tup (r.map PV.int))→l=m:=by
   intro l
   induction l with
   | nil =>
    intro m h;cases m with
    | nil=>rfl
    | cons _ _=>cases h
   | cons x l ih =>
    intro m h;cases m with
    | nil=>cases h
    | cons y m =>
     rw [List.map_cons,List.map_cons] at h;injection h with h1 h2;injection h1 with h1;rw [yN h1,ih h2]
  exact go h
theorem tY:∀ {ps:List PV} {vs:List V} {i:Nat} {v:V},aM X.K c H ps vs→vs[i]?=some v→∃ p,ps[i]?=some p∧aL X.K c H p v:=fun {ps vs i v} r e=>by
 have hi:i < ps.length:=by
  rw [r.length];exact (List.getElem?_eq_some_iff.mp e).1
 obtain ⟨u,e1,e2⟩:=r.get (List.getElem?_eq_getElem hi);rw [e] at e1;cases e1;exact ⟨_,List.getElem?_eq_getElem hi,e2⟩
theorem pT {es:Array DictEntry} {ep:Nat} (I:aG X pins σ H s) (h:H a=some (dO a es ep)):s.heap.get? a=some (oD es ep):=(I.hok a _ h).1
theorem Iw {es:Array DictEntry} {ep:Nat}:(oD es ep).ExactDict:=⟨rfl,rfl,rfl⟩
theorem Zl (I:aG X pins σ H s) {xs:List (fK n × Addr × Value)} {ep:Nat} (h:H a=some (dO a (xs.map (iP n)).toArray ep)) (nd:(xs.map (·.1)).Nodup) (r:aM X.K c H (xs.map fun x=>dN n x.1) (xs.map fun x=>V.ref x.2.1)) :
  s.heap.DictOfH (kU X.prog X.w n) a xs:=by
 refine ⟨_,_,ep,pT I h,Iw,rfl,?_,fun x hx=>?_,nd⟩
 ·have:iP n=entryOfKey (kU X.prog X.w n):=by
   funext x
   unfold iP entryOfKey;rw [He]
  simp [this]
 ·obtain ⟨i,hi,e⟩:=List.mem_iff_getElem.mp hx
  obtain ⟨p,e1,e2⟩:=tY (i:=i) (v:=.ref x.2.1) r (by rw [List.getElem?_map,List.getElem?_eq_getElem hi,e]; rfl);rw [List.getElem?_map,List.getElem?_eq_getElem hi,e] at e1;cases e1;exact zY I e2
theorem Sg {xs:List (fK n × Addr × Value)} (nd:(xs.map (·.1)).Nodup) :
  (∃ (i:Nat) (p:Addr × Value),xs[i]?=some (k,p)∧atKey xs k=some p)∨((∀ i:Nat,(xs.map fun x=>dN n x.1)[i]?≠some (dN n k))∧atKey xs k=none):=by
 by_cases h:∃ (i:Nat) (p:Addr × Value),xs[i]?=some (k,p)
 ·obtain ⟨i,p,h⟩:=h
  exact .inl ⟨i,p,h,atKey_of_get nd h⟩
 ·refine .inr ⟨fun i e=>?_,atKey_none_of_get fun j p e=>h ⟨j,p,e⟩⟩
  rw [List.getElem?_map] at e;cases z:xs[i]? with
  | none=>rw [z] at e; cases e
  | some x =>
   rw [z] at e;have e:dN n x.1=dN n k:=Option.some.inj e;exact h ⟨i,x.2,by rw [z,← pE e]⟩
def oJ (K:PySem.W.Frag) (H:Hp) (a b:Addr) (vs:List V) (Q:V→Prop) (N:Prop):Prop :=
 ∃ (c:Addr→Prop) (n:Bool) (k:fK n) (ks:List PV) (us:List Value),nM K c H a n ks us∧bC vs us∧aL K c H (dN n k) (.ref b)∧(∀ (i:Nat) (v:V),ks[i]?=some (dN n k)→vs[i]?=some v→Q v)∧((∀ i:Nat,ks[i]?≠some (dN n k))→N)
theorem Kk (I:aG X pins σ H s) {vs:List V} {Q:V→Prop} {N:Prop} (g:oJ X.K H a b vs Q N):∃ (n:Bool) (k:fK n) (xs:List (fK n × Addr × Value)),(a == sysModules)=false∧s.heap.DictOfH (kU X.prog X.w n) a xs∧(kU X.prog X.w n).is s.heap k b ∧
  ((∃ p v,atKey xs k=some p∧bQ v p.2∧Q v)∨(atKey xs k=none∧N)):=by
 obtain ⟨c,n,k,ks,us,⟨xs,ep,e,z,l,nd,rfl,r,rfl⟩,rv,rk,q1,q2⟩:=g;refine ⟨n,k,xs,z,Zl I e nd r,zY I rk,?_⟩;rcases Sg (k:=k) nd with ⟨i,p,hx,ha⟩ | ⟨hn,ha⟩
 ·have hi:=(List.getElem?_eq_some_iff.mp hx).1
  have hv:i < vs.length:=by
   rw [rv.length,List.length_map];exact hi
  obtain ⟨u,e1,e2⟩:=rv.get (List.getElem?_eq_getElem hv);rw [List.getElem?_map,hx] at e1;cases e1;exact .inl ⟨p,_,ha,e2,q1 i _ (by rw [List.getElem?_map,hx]; rfl) (List.getElem?_eq_getElem hv)⟩
 ·exact .inr ⟨ha,q2 hn⟩
def O2 (K:PySem.W.Frag):V→List V→Hp→VK→Prop:=fun x xs H Q=>∃ a b z vs,x=.ref a∧xs=[.ref b,z]∧oJ K H a b vs (fun v=>Q v H) (Q z H)
theorem Pt (hu:X.A.units+2 < cLine):sM X "dict.get" (O2 X.K):=by
 intro pins s σ H x xs v us Q I rx rv h;obtain ⟨a,b,z,vs,rfl,rfl,g⟩:=h;cases rx;obtain ⟨u1,u2,rfl,r1,r2⟩:=rv.two;cases r1;obtain ⟨n,k,xs,hd,dd,hk,o⟩:=Kk I g;refine call_meetsIn PySem.F.slot_dict_get dd.typeIs PySem.F.entry_dict_get (PySem.F.args_dict_get_3 _ _ _) (meetsH_dict_get_default (kU X.prog X.w n) a b hd u2) ⟨xG hu n,k,xs,hk,dd,?_⟩;rcases o with ⟨p,v,e,rv,q⟩ | ⟨e,q⟩
 ·rw [e]
  exact ⟨v,H,I.tok _,rv,q⟩
 ·rw [e]
  exact ⟨z,H,I.tok _,r2,q⟩
def aad (K:PySem.W.Frag):R2:=fun x y H Q=>∃ a b vs,x=.ref a∧y=.ref b∧oJ K H a b vs (fun v=>Q v H) False
theorem A1 (hu:X.A.units+2 < cLine):kZ X (aad X.K):=by
 intro value slice pins s σ H x y v u Q I rx ry h hs;obtain ⟨a,b,vs,rfl,rfl,g⟩:=h;cases rx;cases ry;obtain ⟨n,k,xs,hd,dd,hk,o⟩:=Kk I g;rcases o with ⟨p,v,e,rv,q⟩ | ⟨e,q⟩
 ·unfold subscriptTail
  refine wpAny_bind ?_;rw [getitemInPython_of_ne dd.typeIs.not_modules];refine wpAny_bind (wpAny_specialOf dd.typeIs PySem.F.slot_dict_getitem.lookup ?_);have fin:wpAny (model X.prog X.w) X.A (subscripted slice false (.ref a) (.ref b)) (fun r s₃=>wpAny (model X.prog X.w) X.A (letTemporaryGo value (.ref a) r >>= fun _=>pure r) (EP X pins σ Q) X.xe s₃) X.xe s:=by
   rw [hs];exact wpAny_operating (wpAny_getItem_heap (xG hu n) hk dd e (wpAny_bind (wpAny_letTemporaryGo (wpAny_pure ⟨v,H,I.tok _,rv,q⟩))))
  first
   | exact wpAny_pure (wpAny_bind fin)
   | exact wpAny_bind (wpAny_pure (wpAny_bind fin))
   | exact wpAny_bind fin
 ·exact q.elim
def nF (H:Hp) (a:Addr) (n:Bool) (ks:List PV) (rs:List V) (us:List Value):Prop :=
 ∃ (xs:List (fK n × Addr × Value)) (ep:Nat),H a=some (dO a (xs.map (iP n)).toArray ep)∧(a == sysModules)=false∧xs.length≤sizeLine∧(xs.map (·.1)).Nodup∧ks=xs.map (fun x=>dN n x.1)∧rs=xs.map (fun x=>V.ref x.2.1)∧us=xs.map (·.2.2)
theorem Da {K:PySem.W.Frag} (d:nM K c H a n ks us):∃ rs,nF H a n ks rs us∧aM K c H ks rs:=by
 obtain ⟨xs,ep,e,z,l,nd,ek,r,eu⟩:=d;exact ⟨_,⟨xs,ep,e,z,l,nd,ek,rfl,eu⟩,r⟩
theorem nF.at_ {K:PySem.W.Frag} {rs:List V} (d:nF H a n ks rs us) (r:aM K c H ks rs):nM K c H a n ks us:=by
 obtain ⟨xs,ep,e,z,l,nd,ek,er,eu⟩:=d;subst er;exact ⟨xs,ep,e,z,l,nd,ek,r,eu⟩
def DPt (H:Hp) (a:Addr) (n:Bool) (ks:List PV) (rs:List V) (us:List Value) (k:fK n) (b:Addr) (u:Value) (H':Hp):Prop :=
 ∃ es ep,H'=aT H a (dO a es ep)∧((∃ i:Nat,ks[i]?=some (dN n k)∧nF H' a n ks rs (us.set i u))∨((∀ i:Nat,ks[i]?≠some (dN n k))∧nF H' a n (ks++[dN n k]) (rs++[.ref b]) (us++[u])))
theorem Ev {xs:List (fK n × Addr × Value)} {i:Nat} {p:Addr × Value} {u:Value} (nd:(xs.map (·.1)).Nodup) (hx:xs[i]?=some (k,p)):(xs.map (putAt k u)).map (·.2.2)=(xs.map (·.2.2)).set i u:=by
 refine List.ext_getElem? fun j=>?_;have hi:=(List.getElem?_eq_some_iff.mp hx).1;rw [List.getElem?_set,List.length_map,List.getElem?_map,List.getElem?_map,List.getElem?_map]
 by_cases h:i=j
 ·subst h
  rw [if_pos rfl,if_pos hi,hx];simp [putAt]
 ·rw [if_neg h]
  cases z:xs[j]? with
  | none=>rfl
  | some x =>
   have:x.1≠k:=fun e=>h (idxH_unique nd (p:=p) (q:=x.2) hx (by rw [z,← e]));simp [putAt,this]
theorem Zu {xs:List (fK n × Addr × Value)} {u:Value}:(xs.map (putAt k u)).map (fun x=>V.ref x.2.1)=xs.map (fun x=>V.ref x.2.1):=by
 rw [List.map_map];refine List.map_congr_left fun x _=>?_;simp only [Function.comp_apply,putAt];split <;> rfl
theorem Uu {xs:List (fK n × Addr × Value)} {u:Value}:(xs.map (putAt k u)).map (fun x=>dN n x.1)=xs.map (fun x=>dN n x.1):=by
 rw [List.map_map];refine List.map_congr_left fun x _=>?_;simp only [Function.comp_apply,putAt];split <;> rfl
def V9 (K:PySem.W.Frag):vP:=fun o i v H Q=>∃ (a b:Addr) (c:Addr→Prop) (n:Bool) (k:fK n) (ks:List PV) (rs:List V) (us:List Value),o=.ref a∧i=.ref b∧nF H a n ks rs us∧aM K c H ks rs∧aL K c H (dN n k) (.ref b)∧us.length < sizeLine ∧
 ∀ u H',bQ v u→DPt H a n ks rs us k b u H'→Q H'
theorem Ju (hu:X.A.units+2 < cLine):Ub X (V9 X.K):=by
 intro pins s σ H o i v ov iv u Q I ro ri rv h;obtain ⟨a,b,c,n,k,ks,rs,us,rfl,rfl,d,r,rk,hl,q⟩:=h;cases ro;cases ri;obtain ⟨xs,ep,e,z,l,nd,rfl,rfl,rfl⟩:=d;have dd:=Zl I e nd r;rw [List.length_map] at hl;refine wpAny_setItem_heap (hsz:=l) (xG hu n) (zY I rk) dd fun h' dd' hs=>?_;obtain ⟨ob,es,ep',ho,hex,hd,he,_,hnd⟩:=dd';have eob:ob=oD es ep':=by
  obtain ⟨e1,e2,e3⟩:=hex;cases ob;simp only at e1 e2 e3 hd;subst e1 e2 e3 hd;rfl
 subst eob;have een:iP n=entryOfKey (kU X.prog X.w n):=by
  funext x
  unfold iP entryOfKey;rw [He]
 have ees:es=((storedH xs k b u).map (iP n)).toArray:=by
  rw [een,← he]
 have I':aG X pins σ (aT H a (dO a es ep')) { s with heap:=h',toks:=s.toks+(kU X.prog X.w n).draws k } :=
  I.write (x:=a) (e:=a) (by rw [e]; exact trivial) (.inl rfl) (fun b' q' hb z'=>(hs.2 b' hb).trans z') ⟨_,ho⟩ ⟨ho,⟨_,ho⟩,fun h1 h2 p kk=>kk _ p⟩
 refine ⟨_,I',q u _ rv ⟨es,ep',rfl,?_⟩⟩;have hat:(aT H a (dO a es ep')) a=some (dO a ((storedH xs k b u).map (iP n)).toArray ep'):=by rw [eN,ees]
 rcases Sg (k:=k) nd with ⟨i,p,hx,ha⟩ | ⟨hn,ha⟩
 ·refine .inl ⟨i,by rw [List.getElem?_map,hx]; rfl,storedH xs k b u,ep',hat,z,?_,hnd,?_,?_,?_⟩
  ·rw [storedH_old ha,List.length_map]
   exact l
  ·rw [storedH_old ha,Uu]
  ·rw [storedH_old ha,Zu]
  ·rw [storedH_old ha,Ev nd hx]
 ·refine .inr ⟨hn,storedH xs k b u,ep',hat,z,?_,hnd,?_,?_,?_⟩
  ·rw [storedH_new ha,List.length_append]
   exact hl
  ·rw [storedH_new ha,List.map_append] <;> rfl
  ·rw [storedH_new ha,List.map_append] <;> rfl
  ·rw [storedH_new ha,List.map_append] <;> rfl
def Yb (x:V) (H:Hp):Prop:=∃ a es ep,x=.ref a∧H a=some (dO a es ep)
theorem O3 {o e:Expr} {es:List Expr} {to:TE} {t:TA} {name:Str} {apos cpos:Pos} {id:String} {r:V→List V→Hp→VK→Prop} (slot:Slot "dict" name id) (hty:typeOf (.builtin id)=pure (.type "method_descriptor")) (hm:sM X id r) (ho:PE X o to) (ha:PA X (e :: es) t)
  (hbase:attributeBase o name X.env (eval o X.env)=eval o X.env:=by rfl)
  (hfew:((backTo cpos (starEach (e :: es) X.env)).all (fun x=>!x.1) && (backToKw cpos (keywordEach [] X.env)).all (fun x=>x.1.isSome)
   && decide ((e :: es).length+([]:List Keyword).length+(if ([]:List Keyword).isEmpty then 0 else 1) < 30))=true:=by rfl)
  (hline:(apos.endLine == cpos.line)=true:=by rfl) (hs:starEach (e :: es) X.env=(false,eval e X.env) :: starEach es X.env:=by rfl) (hplain:(backTo cpos (starEach es X.env)).any (·.1)=false:=by rfl) :
  PE X (.Call (.Attribute o name apos) (e :: es) [] cpos) (fun σ H Q=>to σ H fun x H1=>Yb x H1∧t σ H1 fun xs H2=>r x xs H2 Q):=by
 intro pins s σ H Q I h;refine wpAny_Call_method_late hbase hfew hline rfl (bF (ho pins s σ H _ I h) fun v s1 ⟨x,H1,I1,r1,⟨a,ds,ep,ex,hH⟩,q1⟩=>?_);subst ex;cases r1;have hg:=pT I1 hH;refine ⟨"dict",id,PySem.F.plainAttrs_dict,slot,hty,⟨_,hg,rfl⟩,fun b eb=>?_,?_⟩
 ·cases eb
  exact ⟨_,hg,rfl⟩
 have hA:=ha cpos pins s1 σ H1 _ I1 q1;rw [hs] at hA ⊢;refine Calls.callWith_builtin (by show (false || (backTo cpos (starEach es X.env)).any (·.1))=false; rw [hplain] <;> rfl) (Calls.evalArgs_plain ?_);exact bF hA fun us s2 ⟨vs,H2,I2,r2,q2⟩=>hm pins s2 σ H2 (.ref a) vs (.ref a) us Q I2 rfl r2 q2
theorem Ay (I:aG X pins σ H s):sysModules < s.heap.objs.size:=by
 have h:mainGlobals < s.heap.objs.size:=(I.mod.glob.keeps I.bk).lt;exact Nat.lt_trans (by decide) h
theorem Rt {pos:Pos}:PE X (.Dict [] [] pos) (fun _ H Q=>∀ p,H p=none→(p == sysModules)=false→Q (.ref p) (aT H p (dO p #[] 0))):=fun pins s σ H Q I h =>
 wpAny_Dict_empty ⟨.ref s.heap.objs.size,_,I.laid (a:=s.heap.objs.size) (o:=dO s.heap.objs.size #[] 0) (t':=s.toks) (fun _ _ q=>Heap.get?_push_of_some _ q) (Nat.le_refl _) ⟨Heap.get?_push_size _ rfl,⟨_,Heap.get?_push_size _ rfl⟩,fun h1 h2 p kk=>kk _ p⟩,rfl,
  h _ (I.hok.fresh (Nat.le_refl _)) (beq_eq_false_iff_ne.mpr (Ne.symm (Nat.ne_of_lt (Ay I))))⟩
end
end L2
namespace L2.Pp
noncomputable section
open PySem PySem.Spec PyProof.Rows Bn
open Classical in
def iC {α:Type} (kvs:List (PV × α)) (k:PV):Option Nat:=kvs.findIdx? fun kv=>decide (kv.1=k)
def eR {α:Type} (kvs:List (PV × α)) (k:PV):Option α:=match iC kvs k with
 | some i=>kvs[i]?.map (·.2)
 | none=>none
def fV {α:Type} (kvs:List (PV × α)) (k:PV) (v:α):List (PV × α):=match iC kvs k with
 | some i=>kvs.set i (k,v)
 | none=>kvs++[(k,v)]
def uZ (n:Bool) (k:PV):Prop:=∃ k',k=dN n k'
theorem lH {α:Type} {kvs:List (PV × α)} {k:PV} {i:Nat} (h:iC kvs k=some i):∃ v,kvs[i]?=some (k,v):=by
 unfold iC at h;obtain ⟨hi,e,_⟩:=List.findIdx?_eq_some_iff_getElem.mp h;have e:kvs[i].1=k:=by simpa using e
 refine ⟨kvs[i].2,?_⟩;rw [List.getElem?_eq_getElem hi];congr 1;exact Prod.ext e rfl
theorem yE {α:Type} {kvs:List (PV × α)} {k:PV} (h:iC kvs k=none) (i:Nat):(kvs.map (·.1))[i]?≠some k:=by
 unfold iC at h;rw [List.findIdx?_eq_none_iff] at h;intro e;rw [List.getElem?_map] at e;cases z:kvs[i]? with
 | none=>rw [z] at e; cases e
 | some x =>
  rw [z] at e;have:=h x (List.mem_of_getElem? z);have e:x.1=k:=Option.some.inj e;simp [e] at this
theorem Fa {α:Type} {kvs:List (PV × α)} {k:PV} {i:Nat} (h:(kvs.map (·.1))[i]?=some k):∃ j,iC kvs k=some j:=by
 cases z:iC kvs k with
 | some j=>exact ⟨j,rfl⟩
 | none=>exact absurd h (yE z i)
def iY (n:Bool):ME:=fun _ S=>.ok (.ref S.length) (S++[.dic n []])
open Classical in
def jJ (d k:AV) (S:aI) (z:Option AV):bK AV:=match d,k with
 | .ref j,.pv k=>match S[j]? with
  | some (.dic n kvs)=>if uZ n k then (match eR kvs k,z with
   | some v,_=>.ok (.pv v) S
   | none,some z=>.ok z S
   | none,none=>.fail) else .fail
  | _=>.fail
 | _,_=>.fail
def kW (md mk:ME):ME:=fun ρ S=>(md ρ S).bind fun d S1=>(mk ρ S1).bind fun k S2=>jJ d k S2 none
def sF {α:Type} (d:AV) (S:aI) (f:bK α):bK α:=match d with
 | .ref j=>(match S[j]? with
  | some (.dic _ _)=>f
  | _=>.fail)
 | _=>.fail
def oG (md:ME) (ms:MA):ME:=fun ρ S=>(md ρ S).bind fun d S1=>sF d S1 ((ms ρ S1).bind fun ks S2=>match ks with
 | [k,z]=>jJ d k S2 (some z)
 | _=>.fail)
open Classical in
def kA (d k v:AV) (S:aI):bK AV:=match d,k,v with
 | .ref j,.pv k,.pv v=>match S[j]? with
  | some (.dic n kvs)=>if uZ n k∧kvs.length < 16777216 then .ok (.pv .non) (S.set j (.dic n (fV kvs k v))) else .fail
  | _=>.fail
 | _,_,_=>.fail
def jK (md mk mv:ME):MS:=fun ρ S=>bX.of (mv ρ S) fun v S1=>bX.of (md ρ S1) fun d S2=>bX.of (mk ρ S2) fun k S3=>bX.of (kA d k v S3) fun _ S4=>.nx ρ S4
section
variable {K:PySem.W.Frag} {cl:Str→Addr} {E:XK} {X:Cx} {p q:Ph} {H H':Hp} {S:aI} {a b e o i v:Expr} {es:List Expr} {m md mk mv:ME} {ms:MA} {pos:Pos}
theorem Yz (n:Bool):aW K cl E X (.Dict [] [] pos) (iY n):=by
 intro hK;subst hK;refine PE.imp Rt fun σ H Q ⟨p,S,ρ,s,ev,h⟩ t ht hs=>?_;have ob:nE X.K ⟨p.f++[t],fun a=>p.w a∨a=t,fun a=>p.c a∨a=t⟩ (aT H t (dO t #[] 0)) t (.dic n []) :=
  ⟨[],[],⟨[],0,eN,hs,Nat.zero_le _,List.nodup_nil,rfl,.nil,rfl⟩,.nil,.nil⟩
 obtain ⟨st,sm⟩:=s.pushO ht (show Mb (dO t #[] 0) from trivial) ob;exact h _ _ (.ref t) st sm ⟨t,by show (p.f++[t])[S.length]?=some t; rw [← s.len,List.getElem?_append_right (Nat.le_refl _),Nat.sub_self]; rfl,rfl⟩
theorem Mm (s:aU K p S H) {j:Nat} {a:Addr} {n:Bool} {kvs:List (PV × PV)} {k:PV} {y:V} {Q:V→Prop} {N:Prop} (ej:p.f[j]?=some a) (z:S[j]?=some (.dic n kvs)) (hk:uZ n k) (ry:aL K p.c H k y)
  (q:∀ v x,eR kvs k=some v→aL K p.c H v x→Q x) (qn:eR kvs k=none→N):∃ b vs,y=.ref b∧oJ K H a b vs Q N:=by
 obtain ⟨k',rfl⟩:=hk;obtain ⟨us,vs,d,rv,r⟩:=s.obj j a _ ej z;have ey:∃ b,y=.ref b:=by
  cases n with
  | false =>
   have ry:aL K p.c H (.tup (List.map PV.int k')) y:=ry;unfold aL at ry;obtain ⟨b,_,e,_⟩:=ry;exact ⟨b,e⟩
  | true =>
   have ry:aL K p.c H (.tup (List.map (fun r:List Int=>PV.tup (r.map PV.int)) k')) y:=ry;unfold aL at ry;obtain ⟨b,_,e,_⟩:=ry;exact ⟨b,e⟩
 obtain ⟨b,rfl⟩:=ey;have nd:∀ i j:Nat,(kvs.map (·.1))[i]?=some (dN n k')→(kvs.map (·.1))[j]?=some (dN n k')→i=j:=by
  obtain ⟨xs,ep,_,_,_,nd,ek,_⟩:=d;intro i j h1 h2;rw [ek,List.getElem?_map] at h1 h2;cases z1:xs[i]? with
  | none=>rw [z1] at h1; cases h1
  | some x =>
   cases z2:xs[j]? with
   | none=>rw [z2] at h2; cases h2
   | some y =>
    rw [z1] at h1;rw [z2] at h2;have e1:=pE (Option.some.inj h1);have e2:=pE (Option.some.inj h2);have e1:x.1=k':=e1;have e2:y.1=k':=e2;exact idxH_unique nd (p:=x.2) (q:=y.2) (k:=k') (by rw [z1,← e1]) (by rw [z2,← e2])
 refine ⟨b,vs,rfl,p.c,n,k',_,us,d,rv,ry,fun i x h1 h2=>?_,fun hn=>qn ?_⟩
 ·obtain ⟨j',hj⟩:=Fa h1
  obtain ⟨v,hv⟩:=lH hj;have ei:j'=i:=nd j' i (by rw [List.getElem?_map,hv]; rfl) h1;subst ei;obtain ⟨x',e1,e2⟩:=r.get (i:=j') (p:=v) (by rw [List.getElem?_map,hv]; rfl);rw [h2] at e1;cases e1;exact q v x (by unfold eR; rw [hj]; simp [hv]) e2
 ·cases z:iC kvs (dN n k') with
  | none=>unfold eR; rw [z]
  | some i =>
   obtain ⟨v,hv⟩:=lH z;exact absurd (by rw [List.getElem?_map,hv]; rfl) (hn i)
theorem Ig {d k:AV} {z:Option AV} {x y:V} {Q:VK} (s:aU K p S H) (rd:bV K p H d x) (rk:bV K p H k y) (h:bS K cl (bV K) p H (jJ d k S z) Q E) :
  ∃ a b vs,x=.ref a∧y=.ref b∧oJ K H a b vs (fun v=>Q v H) (∃ w,z=some w∧∀ u,bV K p H w u→Q u H):=by
 cases d with
 | pv _=>cases k <;> exact h.elim
 | ref j =>
  cases k with
  | ref _=>exact h.elim
  | pv k =>
   obtain ⟨a,ej,rfl⟩:=rd;unfold jJ at h;dsimp only at h;split at h
   ·rename_i n kvs hS
    split at h
    ·rename_i hk
     obtain ⟨b,vs,e,g⟩:=Mm (y:=y) (Q:=fun v=>Q v H) (N:=∃ w,z=some w∧∀ u,bV K p H w u→Q u H) s ej hS hk rk (fun v x e r=>by
      rw [e] at h;exact bS.ret (R:=bV K) (a:=.pv v) h s r) (fun e=>by
      rw [e] at h;cases z with
      | none=>exact h.elim
      | some w=>exact ⟨w,rfl,fun u r=>bS.ret (R:=bV K) h s r⟩)
     exact ⟨a,b,vs,rfl,e,g⟩
    ·exact h.elim
   ·exact h.elim
theorem Ri {a b:Addr} {vs:List V} {Q Q':V→Prop} {N N':Prop} (g:oJ K H a b vs Q N) (f:∀ v,Q v→Q' v) (f':N→N'):oJ K H a b vs Q' N':=by
 obtain ⟨c,n,k,ks,us,d,rv,rk,q1,q2⟩:=g;exact ⟨c,n,k,ks,us,d,rv,rk,fun i v h1 h2=>f v (q1 i v h1 h2),fun h=>f' (q2 h)⟩
theorem L8 (hu:X.A.units+8 < cLine) (ha:aW K cl E X a md) (hb:aW K cl E X b mk) (hs:tZ b:=by intro _ _; rfl):aW K cl E X (.Subscript a b pos) (kW md mk):=by
 intro hK;subst hK;refine PE.imp (Va (A1 (by omega)) (ha rfl) (hb rfl) hs) fun σ H Q ⟨p,S,ρ,s,ev,h⟩=>?_;refine cC s ev h fun q H1 d x S1 st s1 e1 r1 h1=>cC s1 e1 h1 fun q2 H2 k y S2 st2 s2 e2 r2 h2=>?_;obtain ⟨a,b,vs,ex,ey,g⟩:=Ig s2 (st2.repA r1) r2 h2;exact ⟨a,b,vs,ex,ey,Ri g (fun _ h=>h) fun ⟨w,e,_⟩=>nomatch e⟩
theorem Qs {α β:Type} {R:Ph→Hp→α→β→Prop} {d:AV} {x:V} {f:bK α} {Q:β→Hp→Prop} (s:aU K p S H) (rd:bV K p H d x) (h:bS K cl R p H (sF d S f) Q E):Yb x H∧bS K cl R p H f Q E:=by
 cases d with
 | pv _=>exact h.elim
 | ref j =>
  obtain ⟨a,ej,rfl⟩:=rd;unfold sF at h;dsimp only at h;split at h
  ·rename_i n kvs hS
   obtain ⟨us,vs,⟨xs,ep,e,_⟩,_⟩:=s.obj j a _ ej hS;exact ⟨⟨a,_,_,rfl,e⟩,h⟩
  ·exact h.elim
theorem Cy {apos cpos:Pos} {f:Expr} (hu:X.A.units+8 < cLine) (ho:aW K cl E X o md) (ha:eK K cl E X [e,f] ms) (hbase:attributeBase o "get" X.env (eval o X.env)=eval o X.env:=by rfl)
  (hfew:((backTo cpos (starEach [e,f] X.env)).all (fun x=>!x.1) && (backToKw cpos (keywordEach [] X.env)).all (fun x=>x.1.isSome) && decide (([e,f]:List Expr).length+([]:List Keyword).length+(if ([]:List Keyword).isEmpty then 0 else 1) < 30))=true:=by rfl)
  (hline:(apos.endLine == cpos.line)=true:=by rfl) (hs:starEach [e,f] X.env=(false,eval e X.env) :: starEach [f] X.env:=by rfl) (hplain:(backTo cpos (starEach [f] X.env)).any (·.1)=false:=by rfl):aW K cl E X (.Call (.Attribute o "get" apos) [e,f] [] cpos) (oG md ms):=by
 intro hK;subst hK;refine PE.imp (O3 PySem.F.slot_dict_get PySem.F.type_dict_get (Pt (by omega)) (ho rfl) (ha rfl) hbase hfew hline hs hplain) fun σ H Q ⟨p,S,ρ,s,ev,h⟩=>?_;refine cC s ev h fun q H1 d x S1 st s1 e1 r1 h1=>?_;obtain ⟨hd,h1⟩:=Qs s1 r1 h1;refine ⟨hd,cC s1 e1 h1 fun q2 H2 ks ys S2 st2 s2 e2 r2 h2=>?_⟩;cases r2 with
 | nil=>exact h2.elim
 | cons r3 rr =>
  cases rr with
  | nil=>exact h2.elim
  | cons r4 rs =>
   cases rs with
   | nil =>
    obtain ⟨a,b,vs,ex,ey,g⟩:=Ig s2 (st2.repA r1) r3 h2;exact ⟨a,b,_,vs,ex,by rw [ey],Ri g (fun _ h=>h) fun ⟨w',e,q'⟩=>by cases e; exact q' _ r4⟩
   | cons _ _=>exact h2.elim
theorem aU.writeO (s:aU K p S H) {D:Addr} {k:Nat} {o:SO} {ho:HO} (h:p.f[k]?=some D) (hk:k < S.length) (mo:Mb ho) (ob:bM p H p (aT H D ho)→nE K p (aT H D ho) D o):bM p H p (aT H D ho)∧aU K p (S.set k o) (aT H D ho):=by
 have w:p.w D:=s.sub D (List.mem_of_getElem? h);have st:bM p H p (aT H D ho):=⟨s.wc,s.mu,List.prefix_rfl,fun _ h=>h,fun _ h=>h,fun _ h g=>absurd h g,fun _ h g=>absurd h g,fun _ h g=>absurd h g,fun a u e nw=>by
  rw [bP (fun z:a=D=>nw (by rw [z]; exact w))];exact e⟩
 refine ⟨st,s.nd,by rw [List.length_set]; exact s.len,s.sub,s.wc,fun a x=>?_,fun j a u e1 e2=>?_⟩
 ·by_cases z:a=D
  ·rw [z,eN]
   exact ⟨ho,rfl,mo⟩
  ·rw [bP z]
   exact s.mu a x
 ·by_cases hj:k=j
  ·subst hj
   rw [List.getElem?_set_self hk] at e2;cases e2;rw [h] at e1;cases e1;exact ob st
  ·rw [List.getElem?_set_ne hj] at e2
   have ne:a≠D:=fun z=>hj (oY s.nd h (by rw [z] at e1; exact e1));exact (s.obj j a u e1 e2).mono (fun vs e=>by rw [bP ne]; exact e) (fun b w f=>⟨⟨w,f⟩,fun vs e=>by rw [bP (fun z:b=D=>f (z ▸ List.mem_of_getElem? h))]; exact e⟩) fun _ _ r=>st.reps r
theorem bC.setI {vs:List V} {us:List Value} {x:V} {u:Value} (r:bC vs us) (rx:bQ x u):∀ i,bC (vs.set i x) (us.set i u):=fun i=>r.set rx i
theorem B0 {tpos:Pos} (hu:X.A.units+8 < cLine) (hv:aW K cl E X v mv) (ho:aW K cl E X o md) (hi:aW K cl E X i mk)
  (ha:∀ v,assign (.Subscript o i tpos) X.env v=(do
   let ov ← holding [v] (eval o X.env)
   let iv ← holding [v,ov] (eval i X.env)
   standAt tpos
   holding [v,ov,iv] (setItem ov iv v)
   release [v,ov,iv] []):=by intro _; rfl)
  (hs:swapsWithSole [.Subscript o i tpos] v pos.line X.env=pure false:=by rfl) (hw:swappedStores [.Subscript o i tpos] v X.env=pure none:=by rfl)
  (h1:(assignEach [.Subscript o i tpos] X.env).map (·.2)=[assign (.Subscript o i tpos) X.env]:=by rfl):eJ K cl E X (.Assign [.Subscript o i tpos] v pos) (jK md mk mv):=by
 intro hK;subst hK;refine PS.imp (uK (hv rfl) (zM (ho rfl) (hi rfl) (Ju (by omega)) ha) hs hw h1) fun D σ H ⟨p,S,ρ,s,ev,h⟩=>?_;refine iF s ev h fun q H1 v x S1 st s1 e1 r1 h1=>?_;refine iF s1 e1 h1 fun q2 H2 d y S2 st2 s2 e2 r2 h2=>?_;refine iF s2 e2 h2 fun q3 H3 k z S3 st3 s3 e3 r3 h3=>?_;have r2:=st3.repA r2;have r1:=st3.repA (st2.repA r1);cases d with
 | pv _=>cases k <;> cases v <;> exact h3.elim
 | ref j =>
  cases k with
  | ref _=>cases v <;> exact h3.elim
  | pv k =>
   cases v with
   | ref _=>exact h3.elim
   | pv v =>
    obtain ⟨a,ej,rfl⟩:=r2;have h3:dW X.K cl q3 H3 (bX.of (kA (.ref j) (.pv k) (.pv v) S3) fun _ S4=>.nx ρ S4) D E:=h3;unfold kA at h3;dsimp only at h3;cases hS:S3[j]? with
    | none=>simp only [hS] at h3; exact h3.elim
    | some o =>
     cases o with
     | lst _=>simp only [hS] at h3; exact h3.elim
     | lol _=>simp only [hS] at h3; exact h3.elim
     | dol _ _=>simp only [hS] at h3; exact h3.elim
     | dic n kvs =>
      simp only [hS] at h3
      by_cases hc:uZ n k∧kvs.length < 16777216
      ·rw [if_pos hc] at h3
       obtain ⟨⟨k',rfl⟩,hl⟩:=hc;obtain ⟨us,vs,d,rv,r⟩:=s3.obj j a _ ej hS;have rk:aL X.K q3.c H3 (dN n k') z:=r3;have ez:∃ b,z=.ref b:=by
        obtain ⟨b,_,e,_⟩:=Mm (Q:=fun _=>True) (N:=True) s3 ej hS ⟨k',rfl⟩ rk (fun _ _ _ _=>trivial) fun _=>trivial;exact ⟨b,e⟩
       obtain ⟨b,rfl⟩:=ez;obtain ⟨rs,dw,rr⟩:=Da d;have lu:us.length=kvs.length:=by
        rw [← rv.length,← r.length,List.length_map]
       refine ⟨a,b,q3.c,n,k',_,rs,us,rfl,rfl,dw,rr,rk,by rw [lu,iV]; exact hl,fun u H' ru hp=>?_⟩;obtain ⟨es,ep,rfl,hp⟩:=hp;have hj:=(List.getElem?_eq_some_iff.mp hS).1;obtain ⟨st4,sm4⟩:=s3.writeO (o:=.dic n (fV kvs (dN n k') v)) ej hj (show Mb (dO a es ep) from trivial) fun st4=>by
        rcases hp with ⟨i,hi,dw'⟩ | ⟨hn,dw'⟩
        ·obtain ⟨i',hi'⟩:=Fa hi
         obtain ⟨w,hw'⟩:=lH hi';have ei:i'=i:=by
          obtain ⟨xs,_,_,_,_,nd,ek,_⟩:=dw;have g1:(kvs.map (·.1))[i']?=some (dN n k'):=by rw [List.getElem?_map,hw']; rfl
          rw [ek,List.getElem?_map] at g1 hi;cases z1:xs[i']? with
          | none=>rw [z1] at g1; cases g1
          | some x1 =>
           cases z2:xs[i]? with
           | none=>rw [z2] at hi; cases hi
           | some x2 =>
            rw [z1] at g1;rw [z2] at hi;have e1:x1.1=k':=pE (Option.some.inj g1);have e2:x2.1=k':=pE (Option.some.inj hi);exact idxH_unique nd (p:=x1.2) (q:=x2.2) (k:=k') (by rw [z1,← e1]) (by rw [z2,← e2])
         subst ei;have ek:fV kvs (dN n k') v=kvs.set i' (dN n k',v):=by unfold fV; rw [hi']
         refine ⟨us.set i' u,vs.set i' x,?_,bC.setI rv ru i',?_⟩
         ·rw [ek]
          have e1:(kvs.set i' (dN n k',v)).map (·.1)=kvs.map (·.1):=by
           rw [List.map_set];refine List.ext_getElem? fun t=>?_;rw [List.getElem?_set];split
           ·rename_i ht
            subst ht;rw [if_pos (by rw [List.length_map]; exact (List.getElem?_eq_some_iff.mp hw').1),List.getElem?_map,hw'];rfl
           ·rfl
          rw [e1];exact dw'.at_ (st4.reps rr)
         ·rw [ek,List.map_set]
          exact aM.set (st4.rep r1) i' (st4.reps r)
        ·have ei:iC kvs (dN n k')=none:=by
          cases z0:iC kvs (dN n k') with
          | none=>rfl
          | some i =>
           obtain ⟨w,hw'⟩:=lH z0;exact absurd (by rw [List.getElem?_map,hw']; rfl) (hn i)
         have ek:fV kvs (dN n k') v=kvs++[(dN n k',v)]:=by unfold fV; rw [ei]
         refine ⟨us++[u],vs++[x],?_,bC.append rv (.cons ru .nil),?_⟩
         ·rw [ek,List.map_append]
          exact dw'.at_ ((st4.reps rr).append (.cons (st4.rep rk) .nil))
         ·rw [ek,List.map_append]
          exact (st4.reps r).append (.cons (st4.rep r1) .nil)
       exact h3 _ _ _ st4 sm4 (st4.repE e3)
      ·rw [if_neg hc] at h3
       exact h3.elim
end
end
end L2.Pp
namespace L2
open PySem PySem.Spec PyProof.Rows Bn
open L2.Pp
section
variable {prog:Program} {w:World} {A:Around} {E:Value→Shared→Prop} {s:Shared} {it d i ep:Nat} {es:Array DictEntry}
theorem Xi {h:i < es.size}:(if (i:Int) < 0 then none else es[(i:Int).toNat]?)=some es[i]:=by
 rw [if_neg (by omega),Int.toNat_natCast,Array.getElem?_eq_getElem h]
theorem Ak {h:¬ i < es.size}:(if (i:Int) < 0 then none else es[(i:Int).toNat]?)=none:=by
 rw [if_neg (by omega),Int.toNat_natCast,Array.getElem?_eq_none (by omega)]
theorem Qm {Q:Option Value→Shared→Prop} {h1:Heap} (hh:A.handled=none) (sb:Heap.ExtBut it s.heap h1) (q:∀ h',Heap.ExtBut it s.heap h'→Q none { s with heap:=h' }) :
  wpAny (model prog w) A.in1 (newExc (.type "StopIteration") [] >>= raiseNew (α:=PySem.Fin)) (fun _ _=>False) (fun e s'=>wpAny (model prog w) A (isInstance e (.type "StopIteration")) (fun b s2=>b=true∧Q none s2) E s') { s with heap:=h1 }:=by
 refine wpAny_bind ?_;simp only [newExc,newTuple];refine wpAny_bind (wpAny_newObj_type ?_ (by size_fits));refine wpAny_bind (m:=firstArgMember _ _) (wpAny_of_eq (a:=Value.none) (by first | rfl | (simp only [firstArgMember]; rfl)) ?_)
 refine wpAny_newObj_type ?_ (by size_fits);simp only [raiseNew];refine wpAny_bind (wpAny_handled ?_);rw [show A.in1.handled=none from hh];refine wpAny_bind (wpAny_pure (wpAny_throw ?_));exact wpAny_isInstance (T:="StopIteration") (b:=true) ⟨_,Heap.get?_push_size _ rfl,rfl⟩ isSubtype_stop ⟨rfl,q _ ((sb.push _).push _)⟩
theorem Hk {Q:PySem.Fin→Shared→Prop} {E':Value→Shared→Prop} (hit:s.heap.IsKeyIter it d i es.size ep) (hd:s.heap.get? d=some (oD es ep))
  (q1:∀ h:i < es.size,∀ h',h'.IsKeyIter it d (i+1) es.size ep→Heap.SameBut it s.heap h'→Q (.done (.ret es[i].key)) { s with heap:=h' })
  (q2:¬ i < es.size→∀ h',Heap.SameBut it s.heap h'→wpAny (model prog w) A.in1 (newExc (.type "StopIteration") [] >>= raiseNew (α:=PySem.Fin)) Q E' { s with heap:=h' }) :
  wpAny (model prog w) A.in1 (Builtin.«dict_keyiterator.__next__» ⟨[.ref it],[]⟩) Q E' s:=by
 obtain ⟨o,ho,hc,hf⟩:=id hit;have nm:∀ {s':Shared} {R:Nat→Shared→Prop},s'.TypeIs (.ref it) "dict_keyiterator"→R 0 s'→wpAny (model prog w) A.in1 (do let t ← typeNameOfWhole (.ref it); pure (if Builtin.Dict_items.ownsTuple t then 2 else 0)) R E' s':=fun hT r =>
  wpAny_bind (wpAny_typeNameOfWhole_keyiter hT (wpAny_pure (by rw [show Builtin.Dict_items.ownsTuple "dict_keyiterator"=false by decide]; exact r)))
 refine wpAny_bind (wpAny_pure (wpAny_bind (wpAny_bind (nm hit.typeIs (wpAny_bind (wpAny_fieldsOf ho hf ?_))))));show wpAny _ _ (if (Value.ref d == Value.none)=true then _ else _) _ _ s;rw [if_neg (show ¬ ((Value.ref d == Value.none)=true) from Bool.false_ne_true)];refine wpAny_bind (wpAny_pure (wpAny_bind (wpAny_dictEntries hd rfl ?_)));rw [if_neg (by simp)];refine wpAny_bind (wpAny_pure (wpAny_bind (wpAny_dictEpoch hd rfl ?_)));rw [if_neg (by simp)];refine wpAny_pure ?_
 by_cases h:i < es.size
 ·simp only [Xi (h:=h)]
  refine wpAny_bind (nm hit.typeIs (wpAny_bind (wpAny_isOneOf_keyiter hit.typeIs ?_)));show wpAny _ _ (setField (.ref it) 1 (rawInt ((i:Int)+1)) >>= _) _ _ s;refine wpAny_bind (wpAny_setField ho hf (by simp) ?_);have hit':(s.heap.update it (Obj.mapFields (·.setIfInBounds 1 (rawInt ((i:Int)+1))))).IsKeyIter it d (i+1) es.size ep :=
   ⟨_,Heap.get?_update_self _ ho (Obj.isFreed_of_fields (Obj.data_mapFields hf _)),(Obj.cls_mapFields ..).trans hc,by rw [Obj.data_mapFields hf]; simp [rawInt]⟩
  have tt:Shared.TypeIs { s with heap:=s.heap.update it (Obj.mapFields (·.setIfInBounds 1 (rawInt ((i:Int)+1)))) } (.ref it) "dict_keyiterator":=hit'.typeIs;exact wpAny_bind (wpAny_holding (wpAny_bind (wpAny_isOneOf_keyiter tt (wpAny_pure (wpAny_pure (q1 h _ hit' (Heap.SameBut.update ..)))))))
 ·simp only [Ak (h:=h)]
  refine wpAny_bind (nm hit.typeIs ?_);exact wpAny_bind (wpAny_setField ho hf (by simp) (q2 h _ (Heap.SameBut.update ..)))
theorem Jk {Q:PySem.Fin→Shared→Prop} {E':Value→Shared→Prop} (hit:s.heap.IsValIter it d i es.size ep) (hd:s.heap.get? d=some (oD es ep))
  (q1:∀ h:i < es.size,∀ h',h'.IsValIter it d (i+1) es.size ep→Heap.SameBut it s.heap h'→Q (.done (.ret es[i].val)) { s with heap:=h' })
  (q2:¬ i < es.size→∀ h',Heap.SameBut it s.heap h'→wpAny (model prog w) A.in1 (newExc (.type "StopIteration") [] >>= raiseNew (α:=PySem.Fin)) Q E' { s with heap:=h' }) :
  wpAny (model prog w) A.in1 (Builtin.«dict_valueiterator.__next__» ⟨[.ref it],[]⟩) Q E' s:=by
 obtain ⟨o,ho,hc,hf⟩:=id hit;have nm:∀ {s':Shared} {R:Nat→Shared→Prop},s'.TypeIs (.ref it) "dict_valueiterator"→R 0 s'→wpAny (model prog w) A.in1 (do let t ← typeNameOfWhole (.ref it); pure (if Builtin.Dict_items.ownsTuple t then 2 else 0)) R E' s':=fun hT r =>
  wpAny_bind (wpAny_typeNameOfWhole_valiter hT (wpAny_pure (by rw [show Builtin.Dict_items.ownsTuple "dict_valueiterator"=false by decide]; exact r)))
 refine wpAny_bind (wpAny_pure (wpAny_bind (wpAny_bind (nm hit.typeIs (wpAny_bind (wpAny_fieldsOf ho hf ?_))))));show wpAny _ _ (if (Value.ref d == Value.none)=true then _ else _) _ _ s;rw [if_neg (show ¬ ((Value.ref d == Value.none)=true) from Bool.false_ne_true)];refine wpAny_bind (wpAny_pure (wpAny_bind (wpAny_dictEntries hd rfl ?_)));rw [if_neg (by simp)];refine wpAny_bind (wpAny_pure (wpAny_bind (wpAny_dictEpoch hd rfl ?_)));rw [if_neg (by simp)];refine wpAny_pure ?_
 by_cases h:i < es.size
 ·simp only [Xi (h:=h)]
  refine wpAny_bind (nm hit.typeIs (wpAny_bind (wpAny_isOneOf_valiter hit.typeIs ?_)));show wpAny _ _ (setField (.ref it) 1 (rawInt ((i:Int)+1)) >>= _) _ _ s;refine wpAny_bind (wpAny_setField ho hf (by simp) ?_);have hit':(s.heap.update it (Obj.mapFields (·.setIfInBounds 1 (rawInt ((i:Int)+1))))).IsValIter it d (i+1) es.size ep :=
   ⟨_,Heap.get?_update_self _ ho (Obj.isFreed_of_fields (Obj.data_mapFields hf _)),(Obj.cls_mapFields ..).trans hc,by rw [Obj.data_mapFields hf]; simp [rawInt]⟩
  have tt:Shared.TypeIs { s with heap:=s.heap.update it (Obj.mapFields (·.setIfInBounds 1 (rawInt ((i:Int)+1)))) } (.ref it) "dict_valueiterator":=hit'.typeIs;exact wpAny_bind (wpAny_holding (wpAny_bind (wpAny_isOneOf_valiter tt (wpAny_bind (wpAny_isOneOf_valiter tt (wpAny_pure (wpAny_pure (q1 h _ hit' (Heap.SameBut.update ..)))))))))
 ·simp only [Ak (h:=h)]
  refine wpAny_bind (nm hit.typeIs ?_);exact wpAny_bind (wpAny_setField ho hf (by simp) (q2 h _ (Heap.SameBut.update ..)))
theorem Tx {Q:Option Value→Shared→Prop} (hit:s.heap.IsKeyIter it d i es.size ep) (hd:s.heap.get? d=some (oD es ep)) (h:i < es.size)
  (q:∀ h',h'.IsKeyIter it d (i+1) es.size ep→Heap.SameBut it s.heap h'→Q (some es[i].key) { s with heap:=h' }):wpAny (model prog w) A (pyNext (.ref it)) Q E s:=by
 unfold pyNext;exact wpAny_bind (wpAny_attempt (wpAny_callSpecial?_slot (name:=Str.ofString "__next__") hit.typeIs F.slot_dict_keyiterator_next (wpAny_call_entry F.slot_dict_keyiterator_next hit.typeIs F.entry_dict_keyiterator_next
  (Hk hit hd (fun _ h' a b=>⟨_,rfl,wpAny_pure (q h' a b)⟩) fun n=>absurd h n) (F.args_dict_keyiterator_next_1 _))))
theorem M3 {Q:Option Value→Shared→Prop} (hh:A.handled=none) (hit:s.heap.IsKeyIter it d i es.size ep) (hd:s.heap.get? d=some (oD es ep)) (h:¬ i < es.size)
  (q:∀ h',Heap.ExtBut it s.heap h'→Q none { s with heap:=h' }):wpAny (model prog w) A (pyNext (.ref it)) Q E s:=by
 unfold pyNext;exact wpAny_bind (wpAny_attempt (wpAny_callSpecial?_slot (name:=Str.ofString "__next__") hit.typeIs F.slot_dict_keyiterator_next (wpAny_call_entry F.slot_dict_keyiterator_next hit.typeIs F.entry_dict_keyiterator_next
  (Hk hit hd (fun n=>absurd n h) fun _ h' sb=>wpAny_mono (Qm (E:=E) hh sb.extBut q) (fun _ _ z=>z.elim) fun e s2 z=>wpAny_bind (bF z fun b s3 ⟨hb,q3⟩=>by subst hb; exact wpAny_pure q3)) (F.args_dict_keyiterator_next_1 _))))
theorem Iv (hh:A.handled=none) (I d:Addr) (hne:d≠I) (es:Array DictEntry) (ep:Nat) :
  Walks prog w A I [I,d] [I] es.size (fun i v=>∃ h:i < es.size,v=es[i].key) (fun i h=>h.IsKeyIter I d i es.size ep∧h.get? d=some (oD es ep)) where
 sub:=fun b hb=>by simp at hb; simp [hb]
 frame:=fun _ _ _ st hk=>⟨st.1.at fun o e=>hk I (by simp) o e,hk d (by simp) _ st.2⟩
 item:=fun i s Q E hi st hQ=>Tx st.1 st.2 hi fun h' hit' sb=>hQ _ h' s.toks ⟨hi,rfl⟩ ⟨hit',(sb.2 d hne).trans st.2⟩ fun b o hb e=>sb.extBut b o (fun z=>hb (by simp [z])) e
 done:=fun s Q E st hQ=>M3 hh st.1 st.2 (Nat.lt_irrefl _) fun h' eb=>hQ h' s.toks fun b o hb e=>eb b o (fun z=>hb (by simp [z])) e
 self:=fun _ _ _ _ st hQ=>wpAny_pyIter_keyiter st.1 hQ
theorem B6 {Q:Option Value→Shared→Prop} (hit:s.heap.IsValIter it d i es.size ep) (hd:s.heap.get? d=some (oD es ep)) (h:i < es.size)
  (q:∀ h',h'.IsValIter it d (i+1) es.size ep→Heap.SameBut it s.heap h'→Q (some es[i].val) { s with heap:=h' }):wpAny (model prog w) A (pyNext (.ref it)) Q E s:=by
 unfold pyNext;exact wpAny_bind (wpAny_attempt (wpAny_callSpecial?_slot (name:=Str.ofString "__next__") hit.typeIs F.slot_dict_valueiterator_next (wpAny_call_entry F.slot_dict_valueiterator_next hit.typeIs F.entry_dict_valueiterator_next
  (Jk hit hd (fun _ h' a b=>⟨_,rfl,wpAny_pure (q h' a b)⟩) fun n=>absurd h n) (F.args_dict_valueiterator_next_1 _))))
theorem G9 {Q:Option Value→Shared→Prop} (hh:A.handled=none) (hit:s.heap.IsValIter it d i es.size ep) (hd:s.heap.get? d=some (oD es ep)) (h:¬ i < es.size)
  (q:∀ h',Heap.ExtBut it s.heap h'→Q none { s with heap:=h' }):wpAny (model prog w) A (pyNext (.ref it)) Q E s:=by
 unfold pyNext;exact wpAny_bind (wpAny_attempt (wpAny_callSpecial?_slot (name:=Str.ofString "__next__") hit.typeIs F.slot_dict_valueiterator_next (wpAny_call_entry F.slot_dict_valueiterator_next hit.typeIs F.entry_dict_valueiterator_next
  (Jk hit hd (fun n=>absurd n h) fun _ h' sb=>wpAny_mono (Qm (E:=E) hh sb.extBut q) (fun _ _ z=>z.elim) fun e s2 z=>wpAny_bind (bF z fun b s3 ⟨hb,q3⟩=>by subst hb; exact wpAny_pure q3)) (F.args_dict_valueiterator_next_1 _))))
theorem Yt (hh:A.handled=none) (I d:Addr) (hne:d≠I) (es:Array DictEntry) (ep:Nat) :
  Walks prog w A I [I,d] [I] es.size (fun i v=>∃ h:i < es.size,v=es[i].val) (fun i h=>h.IsValIter I d i es.size ep∧h.get? d=some (oD es ep)) where
 sub:=fun b hb=>by simp at hb; simp [hb]
 frame:=fun _ _ _ st hk=>⟨st.1.at fun o e=>hk I (by simp) o e,hk d (by simp) _ st.2⟩
 item:=fun i s Q E hi st hQ=>B6 st.1 st.2 hi fun h' hit' sb=>hQ _ h' s.toks ⟨hi,rfl⟩ ⟨hit',(sb.2 d hne).trans st.2⟩ fun b o hb e=>sb.extBut b o (fun z=>hb (by simp [z])) e
 done:=fun s Q E st hQ=>G9 hh st.1 st.2 (Nat.lt_irrefl _) fun h' eb=>hQ h' s.toks fun b o hb e=>eb b o (fun z=>hb (by simp [z])) e
 self:=fun _ _ _ _ st hQ=>wpAny_pyIter_valiter st.1 hQ
theorem D6 {Q:Value→Shared→Prop} (ns:(d == sysModules)=false) (hd:s.heap.get? d=some (oD es ep))
  (q:Q (.ref s.heap.objs.size) { s with heap:=s.heap.push { cls:=.type "dict_keyiterator",data:=.fields #[.ref d,.int 0 0,.int es.size 0,.int ep 0] } }):wpAny (model prog w) A (pyIter (.ref d)) Q E s:=by
 have hT:s.TypeIs (.ref d) "dict":=⟨_,hd,rfl⟩;refine wpAny_pyIter_slot hT F.slot_dict_iter (wpAny_call_entry F.slot_dict_iter hT F.entry_dict_iter ?_ (F.args_dict_iter_1 _));refine wpAny_bind (wpAny_bind (wpAny_notOrdered_dict hT (wpAny_pure ?_)));show wpAny _ _ (Builtin.Dict.showsAll d >>= _) _ _ s;unfold Builtin.Dict.showsAll;rw [if_neg (by rw [ns]; exact Bool.false_ne_true)];refine wpAny_bind (wpAny_pure (wpAny_bind (wpAny_dictEntries hd rfl (wpAny_bind (wpAny_dictEpoch hd rfl ?_)))));exact wpAny_bind (wpAny_newObj_type (wpAny_pure ⟨_,rfl,"dict_keyiterator",_,⟨_,Heap.get?_push_size _ rfl,rfl⟩,F.slot_dict_keyiterator_next.lookup,q⟩))
theorem W8 (ns:(d == sysModules)=false):PySem.W.KdlSrc prog w "dict" d d es.size (fun i v=>∃ h:i < es.size,v=es[i].key) (fun h=>h.get? d=some (oD es ep)) where
 type:=fun _ hm=>⟨_,hm,rfl⟩
 there:=fun _ hm=>⟨Heap.lt_size hm,Heap.lt_size hm⟩
 keep:=fun _ _ hm hk=>hk d (.inl rfl) _ hm
 notList:=by decide
 notTuple:=by decide
 hint:=fun _ _ _ _ hm hq=>PySem.W.kdl_hint_dict ⟨_,hm,rfl⟩ hq
 iter:=fun _ _ hh hm=>⟨_,_,(fun _ _ hq=>D6 ns hm hq),Iv hh _ d (Nat.ne_of_lt (Heap.lt_size hm)) es ep,⟨⟨_,Heap.get?_push_size _ rfl,rfl,rfl⟩,Heap.get?_push_of_some _ hm⟩⟩
end
section
variable {X:Cx}
theorem Tp (hc:X.calm=true):iA X (.type "list") (fun xs H Q=>∃ (a:Addr) (n:Bool) (ks:List PV) (rs:List V) (us:List Value),xs=[.ref a]∧nF H a n ks rs us∧∀ l,H l=none→Q (.ref l) (aT H l (.lst rs))):=by
 intro pins s σ H xs us Q I r h;obtain ⟨a,n,ks,rs,us',rfl,d,q⟩:=h;obtain ⟨u,rfl,ru⟩:=jL r;cases ru;obtain ⟨ys,ep,e,z,l,nd,rfl,rfl,rfl⟩:=d;refine PySem.W.kdl_call (W8 z) (I.ok.hd hc) (pT I e) (by simpa using l) fun h' tk acc c hk hl hi=>?_;have ev:bC (ys.map fun x=>V.ref x.2.1) acc.toList:=by
  have e1:acc.toList=ys.map fun x=>Value.ref x.2.1:=by
   refine List.ext_getElem? fun j=>?_;have hz:acc.size=ys.length:=by simpa using hi.1
   by_cases hj:j < ys.length
   ·obtain ⟨_,ej⟩:=hi.2 j acc[j] (by simp [hz,hj])
    rw [List.getElem?_map,List.getElem?_eq_getElem hj,Array.getElem?_toList,Array.getElem?_eq_getElem (by omega),ej];simp [iP]
   ·rw [List.getElem?_eq_none (by simp; omega),List.getElem?_eq_none (by simp; omega)]
  rw [e1];clear e1 hi e q l nd
  induction ys with
  | nil=>exact .nil
  | cons y ys ih=>exact .cons rfl ih
 refine ⟨.ref s.heap.objs.size,_,I.laid (t':=tk) (o:=.lst (ys.map fun x=>V.ref x.2.1)) hk (Nat.le_refl _) ⟨by rw [List.length_map]; exact l,acc.toList,c,ev,hl⟩,rfl,q _ (I.hok.fresh (Nat.le_refl _))⟩
def Bc (v a:Addr):HO:=.ext fun h=>h.get? v=some { cls:=.type "dict_values",data:=.fields #[.ref a] }
theorem Ws:sM X "dict.values" (fun x xs H Q=>∃ a es ep,x=.ref a∧xs=[]∧(a == sysModules)=false∧H a=some (dO a es ep)∧∀ v,H v=none→Q (.ref v) (aT H v (Bc v a))):=by
 intro pins s σ H x xs v us Q I rx rv h;obtain ⟨a,es,ep,rfl,rfl,ns,hH,q⟩:=h;cases rx;cases rv;have hd:=pT I hH;have hT:s.TypeIs (.ref a) "dict":=⟨_,hd,rfl⟩;refine wpAny_call_entry F.slot_dict_values hT F.entry_dict_values ?_ (F.args_dict_values_1 _);refine wpAny_bind (wpAny_bind (wpAny_notOrdered_dict hT (wpAny_pure ?_)));show wpAny _ _ (Builtin.Dict.showsAll a >>= _) _ _ s;unfold Builtin.Dict.showsAll;rw [if_neg (by rw [ns]; exact Bool.false_ne_true)];refine wpAny_bind (wpAny_pure (wpAny_bind (wpAny_newObj_type (wpAny_pure ⟨_,rfl,?_⟩))));exact ⟨.ref s.heap.objs.size,_,I.laid (t':=s.toks) (o:=Bc s.heap.objs.size a) (fun _ _ e=>Heap.get?_push_of_some _ e) (Nat.le_refl _) ⟨Heap.get?_push_size _ rfl,⟨_,Heap.get?_push_size _ rfl⟩,fun h1 h2 p kk=>kk _ p⟩,rfl,q _ (I.hok.fresh (Nat.le_refl _))⟩
end
end L2
namespace L2
open PySem PySem.Spec PyProof.Rows Bn
open L2.Pp
section
variable {prog:Program} {w:World} {A:Around} {E:Value→Shared→Prop} {s:Shared} {v d ep:Nat} {es:Array DictEntry}
theorem K0 {Q:Value→Shared→Prop} (hv:s.heap.get? v=some { cls:=.type "dict_values",data:=.fields #[.ref d] }) (hd:s.heap.get? d=some (oD es ep))
  (q:Q (.ref s.heap.objs.size) { s with heap:=s.heap.push { cls:=.type "dict_valueiterator",data:=.fields #[.ref d,.int 0 0,.int es.size 0,.int ep 0] } }):wpAny (model prog w) A (pyIter (.ref v)) Q E s:=by
 have hT:s.TypeIs (.ref v) "dict_values":=⟨_,hv,rfl⟩;refine wpAny_pyIter_slot hT F.slot_dict_values_iter (wpAny_call_entry F.slot_dict_values_iter hT F.entry_dict_values_iter ?_ (F.args_dict_values_iter_1 _));unfold Builtin.«dict_values.__iter__» Builtin.Dict_items.dictOf Builtin.Dict_items.newIterator;refine wpAny_bind (wpAny_pure (wpAny_bind (wpAny_bind (wpAny_field hv rfl (x:=.ref d) rfl (wpAny_pure (wpAny_bind ?_))))));refine wpAny_bind (wpAny_dictEntries hd rfl (wpAny_bind (wpAny_dictEpoch hd rfl ?_)));simp only [show Builtin.Dict_items.ownsTuple "dict_valueiterator"=false by decide,Bool.false_eq_true,if_false];exact wpAny_newObj_type (wpAny_pure ⟨_,rfl,"dict_valueiterator",_,⟨_,Heap.get?_push_size _ rfl,rfl⟩,F.slot_dict_valueiterator_next.lookup,q⟩)
end
section
variable {X:Cx}
theorem Zp (hc:X.calm=true):iA X (.builtin "any") (fun xs H Q=>∃ (v a:Addr) (n:Bool) (ks:List PV) (rs:List V) (us:List Value) (is:List Int),xs=[.ref v]∧H v=some (Bc v a)∧nF H a n ks rs us∧bC (is.map V.int) us∧Q (.bl (is.any (· != 0))) H):=by
 intro pins s σ H xs us Q I r h;obtain ⟨v,a,n,ks,rs,us',is,rfl,hv,d,rv,q⟩:=h;obtain ⟨u,rfl,ru⟩:=jL r;cases ru;obtain ⟨ys,ep,e,z,l,nd,rfl,rfl,rfl⟩:=d;have hd:=pT I e;have hl:is.length=ys.length:=by
  have:=rv.length
  rwa [List.length_map,List.length_map] at this
 have hw:s.heap.get? v=some { cls:=.type "dict_values",data:=.fields #[.ref a] }:=(I.hok v _ hv).1;have hsz:(ys.map (iP n)).toArray.size=is.length:=by simp [hl]
 refine call_any_walk (K0 hw hd ⟨_,_,_,_,_,_,fun i=>is.getD i 0 != 0,rfl,Yt (show X.A.in1.handled=none from I.ok.hd hc) s.heap.objs.size a (Nat.ne_of_lt (Heap.lt_size hd)) _ ep,⟨⟨_,Heap.get?_push_size _ rfl,rfl,rfl⟩,Heap.get?_push_of_some _ hd⟩,fun i x s' Q' E' hx hQ=>?_,fun h' tk kp=>?_⟩)
 ·obtain ⟨hi,ex⟩:=hx
  have hi':i < is.length:=by rw [← hsz]; exact hi
  obtain ⟨y,ey,ry⟩:=rv.get (i:=i) (x:=.int is[i]) (by rw [List.getElem?_map,List.getElem?_eq_getElem hi']; rfl);have eq:x=y:=by
   rw [ex];rw [List.getElem?_map,List.getElem?_eq_getElem (by omega)] at ey;have ey:=Option.some.inj ey;rw [← ey];simp [iP]
  subst eq;obtain ⟨t,rfl⟩:=ry;have e1:is.getD i 0=is[i]:=by simp [List.getD,hi']
  have hQ':Q' (is.getD i 0 != 0) s':=hQ;rw [e1] at hQ';exact PySem.P.truthy_int hQ'
 ·show EP X pins σ Q (.bool ((List.range (ys.map (iP n)).toArray.size).any fun i=>is.getD i 0 != 0)) _
  rw [hsz,Nr];have I1:aG X pins σ H { s with heap:=s.heap.push { cls:=.type "dict_valueiterator",data:=.fields #[.ref a,.int 0 0,.int (ys.map (iP n)).toArray.size 0,.int ep 0] },toks:=s.toks }:=I.kept fun b o z=>Heap.get?_push_of_some _ z;obtain ⟨f0,f1,f2,f3,f4,f5⟩:=I.fpOk (Nat.le_refl s.heap.objs.size) (I.hok.fresh (Nat.le_refl _));exact ⟨.bl (is.any (· != 0)),H,I1.turned (fun b o hb z=>kp b o (by simpa using hb) z) f0 f1 f3 f4 f5,rfl,q⟩
theorem Ww {o:Expr} {to:TE} {name:Str} {apos cpos:Pos} {id:String} {r:V→List V→Hp→VK→Prop} (slot:Slot "dict" name id) (hty:typeOf (.builtin id)=pure (.type "method_descriptor")) (hm:sM X id r) (ho:PE X o to)
  (hbase:attributeBase o name X.env (eval o X.env)=eval o X.env:=by rfl) (hline:(apos.endLine == cpos.line)=true:=by rfl):PE X (.Call (.Attribute o name apos) [] [] cpos) (fun σ H Q=>to σ H fun x H1=>Yb x H1∧r x [] H1 Q):=by
 intro pins s σ H Q I h;refine wpAny_Call_method0_late hbase hline (bF (ho pins s σ H _ I h) fun v s1 ⟨x,H1,I1,r1,⟨a,ds,ep,ex,hH⟩,q1⟩=>?_);subst ex;cases r1;have hg:=pT I1 hH;refine ⟨"dict",id,PySem.F.plainAttrs_dict,slot,hty,⟨_,hg,rfl⟩,fun b eb=>?_,Calls.callWith_builtin rfl (PySem.evalArgs_none (hm pins s1 σ H1 (.ref a) [] (.ref a) [] Q I1 rfl .nil q1))⟩;cases eb;exact ⟨_,hg,rfl⟩
end
end L2
namespace L2.Pp
open PySem PySem.Spec PyProof.Rows Bn
def uJ (d:AV) (S:aI):bK AV:=match d with
 | .ref j=>(match S[j]? with
  | some (.dic _ kvs)=>.ok (.pv (.lst (kvs.map (·.1)))) S
  | _=>.fail)
 | _=>.fail
def sC (ms:MA):ME:=fun ρ S=>(ms ρ S).bind fun ds S1=>match ds with
 | [d]=>uJ d S1
 | _=>.fail
def sD (d:AV) (S:aI):bK AV:=match d with
 | .ref j=>(match S[j]? with
  | some (.dic _ kvs)=>(match jI (kvs.map (·.2)) with
   | some is=>.ok (.pv (.bl (is.any (· != 0)))) S
   | none=>.fail)
  | _=>.fail)
 | _=>.fail
def rY (m:ME):ME:=fun ρ S=>(m ρ S).bind fun d S1=>sD d S1
section
variable {K:PySem.W.Frag} {cl:Str→Addr} {E:XK} {X:Cx} {p q:Ph} {H H':Hp} {S:aI} {a b e o i v:Expr} {es:List Expr} {m md mk mv:ME} {ms:MA} {pos:Pos}
theorem Ex {x:Str} {px:Pos} (hc:X.calm=true) (hg:Gl X x) (hm:X.mg x=none) (hv:bootBuiltins x=some (.type "list")) (ha:eK K cl E X [e] ms) (hn:x≠"__name__":=by decide) (hdb:(x == ("__debug__":Str))=false:=by decide)
  (he:starEach [e] X.env=(false,eval e X.env) :: starEach [] X.env:=by rfl) (hpl:(backTo pos (starEach [] X.env)).any (·.1)=false:=by rfl):aW K cl E X (.Call (.Name x px) [e] [] pos) (sC ms):=by
 intro hK;subst hK;refine PE.imp (qX (Tp hc) hg hm hv (ha rfl) hn hdb he hpl) fun σ H Q ⟨p,S,ρ,s,ev,h⟩=>?_;refine cC s ev h fun q H1 ds xs S1 st s1 e1 r1 h1=>?_
 match ds,xs,r1 with
 | [],_,.nil=>exact h1.elim
 | [.pv _],_,.cons _ .nil=>exact h1.elim
 | _ :: _ :: _,_,.cons _ (.cons _ _)=>exact h1.elim
 | [.ref j],_,.cons ⟨a,ej,er⟩ .nil =>
  subst er;have h1:bS X.K cl (bV X.K) q H1 (uJ (.ref j) S1) Q E:=h1;unfold uJ at h1;dsimp only at h1;split at h1
  ·rename_i n kvs hS
   obtain ⟨us,vs,d,rv,r⟩:=s1.obj j a _ ej hS;obtain ⟨rs,dw,rr⟩:=Da d;refine ⟨a,n,_,rs,us,rfl,dw,fun l hl=>?_⟩;have hz:rs.length≤sizeLine:=by
    obtain ⟨ys,_,_,_,lz,_,_,er,_⟩:=dw;rw [er,List.length_map];exact lz
   exact bS.same (R:=bV X.K) h1 s1 (gR hl) (nU s1 rr hz hl)
  ·exact h1.elim
theorem A3 {x:Str} {px apos cpos:Pos} (hc:X.calm=true) (hg:Gl X x) (hm:X.mg x=none) (hv:bootBuiltins x=some (.builtin "any")) (ho:aW K cl E X o m) (hbase:attributeBase o "values" X.env (eval o X.env)=eval o X.env:=by rfl) (hline:(apos.endLine == cpos.line)=true:=by rfl)
  (hn:x≠"__name__":=by decide) (hdb:(x == ("__debug__":Str))=false:=by decide)
  (he:starEach [.Call (.Attribute o "values" apos) [] [] cpos] X.env=(false,eval (.Call (.Attribute o "values" apos) [] [] cpos) X.env) :: starEach [] X.env:=by rfl) (hpl:(backTo pos (starEach [] X.env)).any (·.1)=false:=by rfl) :
  aW K cl E X (.Call (.Name x px) [.Call (.Attribute o "values" apos) [] [] cpos] [] pos) (rY m):=by
 intro hK;subst hK;refine PE.imp (yT (Zp hc) hg hm hv (pH (Ww PySem.F.slot_dict_values PySem.F.type_dict_values Ws (ho rfl) hbase hline) rS he) hn hdb he hpl) fun σ H Q ⟨p,S,ρ,s,ev,h⟩=>?_;refine cC s ev h fun q H1 d x S1 st s1 e1 r1 h1=>?_;cases d with
 | pv _=>exact h1.elim
 | ref j =>
  obtain ⟨a,ej,rfl⟩:=r1;have h1:bS X.K cl (bV X.K) q H1 (sD (.ref j) S1) Q E:=h1;unfold sD at h1;dsimp only at h1;split at h1
  ·rename_i n kvs hS
   split at h1
   ·rename_i is hi
    obtain ⟨us,vs,d,rv,r⟩:=s1.obj j a _ ej hS;obtain ⟨rs,dw,rr⟩:=Da d;obtain ⟨ys,ep,ey,ns,lz,nd,ek,er,eu⟩:=dw;refine ⟨⟨a,_,_,rfl,ey⟩,a,_,_,rfl,rfl,ns,ey,fun v hv=>⟨v,a,n,_,rs,us,is,rfl,eN,⟨ys,ep,by rw [bP (fF ey hv)]; exact ey,ns,lz,nd,ek,er,eu⟩,?_,?_⟩⟩
    ·rw [← tG hi r]
     exact rv
    ·exact bS.same (R:=bV X.K) h1 s1 (gR hv) (x:=.bl (is.any (· != 0))) (by unfold bV aL; rfl)
   ·exact h1.elim
  ·exact h1.elim
end
end L2.Pp
namespace L2
open PySem PySem.Spec PyProof.Rows Bn
section
variable {X:Cx}
end
section
variable {X:Cx} {sc:Scope} {own:List Str} {cap:List (Nat × Str)} {pins:List (Addr × Obj)} {σ:St} {H:Hp} {s:Shared} {elt target iter:Expr} {pos pos':Pos} {wi:TI} {g:TG} {te:TE} {Q:VK}
end
end L2
namespace L2.Pp
open PySem PySem.Spec PyProof.Rows Bn
mutual
def nJ:PV→Bool
 | .lst _=>false
 | .tup xs=>vG xs
 | _=>true
def vG:List PV→Bool
 | []=>true
 | x :: r=>nJ x && vG r
end
def lP (f:FM) (ms:MA):ME:=fun ρ S=>(ms ρ S).bind fun xs S1=>match fI S1 xs with
 | some vs=>(match f (vs.map .pv) [] with
  | .ok (.pv v) _=>if nJ v=true then .ok (.pv v) S1 else .fail
  | _=>.fail)
 | none=>.fail
section
variable {K:PySem.W.Frag} {cl:Str→Addr} {E:XK} {X:Cx} {p q:Ph} {H H':Hp} {S:aI} {a b e o i v:Expr} {es:List Expr} {m ma mb md mk mv:ME} {ms:MA} {pos:Pos}
mutual
theorem Tk {c c':Addr→Prop}:∀ {v:PV} {x:V},aL K c H v x→nJ v=true→aL K c' H v x
 | .non,_,h,_=>by unfold aL at h ⊢; exact h
 | .bl _,_,h,_=>by unfold aL at h ⊢; exact h
 | .int _,_,h,_=>by unfold aL at h ⊢; exact h
 | .str _,_,h,_=>by unfold aL at h ⊢; exact h
 | .lst _,_,_,n=>by unfold nJ at n; cases n
 | .tup xs,_,h,n=>by
  unfold nJ at n;unfold aL at h ⊢;obtain ⟨a,vs,e,t,z,r⟩:=h;exact ⟨a,vs,e,t,z,Ji r n⟩
theorem Ji {c c':Addr→Prop}:∀ {v:List PV} {x:List V},aM K c H v x→vG v=true→aM K c' H v x
 | [],_,h,_=>by unfold aM at h ⊢; exact h
 | p :: ps,_,h,n=>by
  unfold vG at n;unfold aM at h ⊢;obtain ⟨v,r,e,h1,h2⟩:=h;have n:=Bool.and_eq_true_iff.mp n;exact ⟨v,r,e,Tk h1 n.1,Ji h2 n.2⟩
end
def Ph.none:Ph:=⟨[],fun _=>False,fun _=>False⟩
theorem Wt:aU K Ph.none [] H:=⟨List.nodup_nil,rfl,fun _ h=>(nomatch h),fun _ h=>h,fun _ h=>h.elim,fun k a o e=>(nomatch e)⟩
theorem Ud:∀ {vs:List PV} {xs:List V},Jb K p H vs xs→fP K Ph.none H (vs.map .pv) xs
 | _,_,.nil=>.nil
 | _,_,.cons h t=>by
  refine .cons ?_ (Ud t);show aL K (fun _=>False) H _ _;rcases h with h | ⟨xs,a,vs,rfl,rfl,h,z,r⟩
  ·exact Te (fun _ h=>h.elim) h
  ·unfold aL
   exact ⟨a,vs,rfl,.inl ⟨h,fun z=>z⟩,z,nQ (fun _ h=>h.elim) r⟩
theorem V6 {g:FM} {k k0:Nat} {ps:List Str} {x:Str} {px:Pos} (C:wF X.prog X.w X.K X.mg X.base cl x k ps g) (hr:eH k0 X.A) (hk:k≤k0) (hg:Gl X x) (ha:eK X.K cl E X (e :: es) ms) (hdb:(x == ("__debug__":Str))=false:=by decide) (he:starEach (e :: es) X.env=(false,eval e X.env) :: starEach es X.env:=by rfl) (hpl:(backTo pos (starEach es X.env)).any (·.1)=false:=by rfl) :
  aW X.K cl E X (.Call (.Name x px) (e :: es) [] pos) (lP g ms):=by
 obtain ⟨a,d,G,b,kk,n⟩:=C;intro hK;refine PE.imp (yY G (hr.mono hk) hg n kk b .nil Cb (ha rfl) hdb he hpl) fun σ H Q ⟨p,S,ρ,s,ev,h⟩=>?_;refine cC s ev h fun q H1 as xs S1 st sm ev r k=>?_;cases z:fI S1 as with
 | none=>simp only [z] at k; exact k.elim
 | some vs =>
  simp only [z] at k;have rr:=Ud (qV sm r z);have e0:xs++([]:List V)=xs:=List.append_nil xs;refine ⟨Ph.none,[],vs.map .pv,Wt,by first | exact rr | (rw [e0]; exact rr),?_⟩
  cases y:g (vs.map .pv) [] with
  | fail=>simp only [y] at k; exact k.elim
  | exc n S'=>simp only [y] at k; exact k.elim
  | ok w S' =>
   cases w with
   | ref j=>simp only [y] at k; exact k.elim
   | pv w =>
    simp only [y] at k
    by_cases hn:nJ w=true
    ·rw [if_pos hn] at k
     intro q' H' x' st' sm' r';have same:dP H1 H':=fun a o e=>st'.keep a o e fun z=>z;exact bS.same (R:=bV X.K) k sm same (Tk r' hn)
    ·rw [if_neg hn] at k
     exact k.elim
variable {sc:Scope} {own:List Str} {cap:List (Nat × Str)} {elt target iter:Expr} {mi:MI} {g:GM} {me:ME}
end
end L2.Pp
namespace L2.Pp
open PySem PySem.Spec PyProof.Rows
def sG (ma mb:ME):ME:=fun ρ S=>(ma ρ S).bind fun x S1=>(mb ρ S1).bind fun y S2=>match rd S2 x,rd S2 y with
 | some (.lst xs),some (.lst ys)=>if xs.length+ys.length≤16777216 then .ok (.ref S2.length) (S2++[.lst (xs++ys)]) else .fail
 | _,_=>.fail
section
variable {K:PySem.W.Frag} {cl:Str→Addr} {E:XK} {X:Cx} {a b:Expr} {ma mb:ME} {pos:Pos}
theorem Vw (ha:aW K cl E X a ma) (hb:aW K cl E X b mb):aW K cl E X (.BinOp a .Add b pos) (sG ma mb):=by
 intro hK;subst hK;refine PE.imp (Oa Si (ha rfl) (hb rfl)) fun σ H Q ⟨p,S,ρ,s,e,h⟩=>?_;refine cC s e h fun q H1 x u S1 st s1 e1 r1 h1=>cC s1 e1 h1 fun q2 H2 y w S2 st2 s2 e2 r2 h2=>?_;have r1:=st2.repA r1;cases z1:rd S2 x with
 | none=>simp only [z1] at h2; exact h2.elim
 | some vx =>
  cases z2:rd S2 y with
  | none=>simp only [z1,z2] at h2; exact h2.elim
  | some vy =>
   simp only [z1,z2] at h2;cases vx with
   | lst xs =>
    cases vy with
    | lst ys =>
     dsimp only at h2
     by_cases hl:xs.length+ys.length≤16777216
     ·rw [if_pos hl] at h2
      obtain ⟨a1,vs,rfl,l1,_,rr⟩:=(nX s2 r1 z1).lst;obtain ⟨a2,ws,rfl,l2,_,rw'⟩:=(nX s2 r2 z2).lst;have hz:vs.length+ws.length≤sizeLine:=by rw [← rr.length,← rw'.length,iV]; exact hl
      refine .inr (.inl ⟨a1,a2,vs,ws,rfl,rfl,l1,l2,hz,fun t ht=>?_⟩);obtain ⟨st3,sm3⟩:=s2.push ht (by rw [List.length_append]; exact hz) (rr.append rw');exact h2 _ _ (.ref t) st3 sm3 ⟨t,by show (q2.f++[t])[S2.length]?=some t; rw [← s2.len,List.getElem?_append_right (Nat.le_refl _),Nat.sub_self]; rfl,rfl⟩
     ·rw [if_neg hl] at h2
      exact h2.elim
    | _=>exact h2.elim
   | _=>cases vy <;> exact h2.elim
end
end L2.Pp
namespace L2.Pp
open PySem PySem.Spec PyProof.Rows Bn
section
variable {P:Program} {w:World} {K:PySem.W.Frag} {mg:Str→Option Value} {base:Heap} {cl:Str→Addr} {x qual:Str} {st:Stmt} {f:Addr} {fd:FuncData} {N ps:List Str} {k np n:Nat} {b:MS}
variable {so sc sc1:Scope} {own own1:List Str} {cap cap1:List (Nat × Str)} {cd:Value} {A:Around} {outer:List Env} {s:Shared} {H:Hp} {E:XK} {C:Addr} {s₀:Shared} {H₀:Hp} {ex:List Addr}
theorem Sa (a:sc.kind=.function:=by rfl) (b:∀ y∈sc.names,y.2=.local→sc.names.lookup y.1=some .local:=by decide +kernel) (c:∀ y∈sc.names,y.2≠.cell:=by decide +kernel) (d:∀ y∈sc.names,y.2=.free→so.names.lookup y.1=some .cell:=by decide +kernel) (e:∀ p∈cap,N[p.1]?=some p.2:=by decide +kernel) (g:∀ p∈cap,sc.names.lookup p.2=some .free:=by decide +kernel):gI (iB fB P w K mg base N qual so f cd A outer s H E).nox sc own cap:=H0 so N rfl rfl a b c d e g
theorem J8 (a:sc.kind=.function:=by rfl) (b:∀ y∈sc.names,y.2=.local→sc.names.lookup y.1=some .local:=by decide +kernel) (c:∀ y∈sc.names,y.2=.cell→sc.names.lookup y.1=some .cell:=by decide +kernel) (d:∀ y∈sc.names,y.2=.free→so.names.lookup y.1=some .cell:=by decide +kernel) (e:∀ p∈cap,N[p.1]?=some p.2:=by decide +kernel) (g:∀ p∈cap,sc.names.lookup p.2=some .free:=by decide +kernel):mV (iB fB P w K mg base N qual so f cd A outer s H E).nox sc own cap:=Qy so N rfl rfl a b c d e g
theorem zR (a:sc.kind=.function:=by rfl) (b:∀ y∈sc.names,y.2=.local→sc.names.lookup y.1=some .local:=by decide +kernel) (c:∀ y∈sc.names,y.2≠.cell:=by decide +kernel) (d:∀ y∈sc.names,y.2=.free→sc1.names.lookup y.1=some .free∧so.names.lookup y.1=some .cell:=by decide +kernel) (e:∀ p∈cap,(cB own1 cap1)[p.1]?=some p.2:=by decide +kernel) (g:∀ p∈cap,sc.names.lookup p.2=some .free:=by decide +kernel) (hk:so.kind=.function:=by rfl):gI (dX (iB fB P w K mg base N qual so f cd A outer s H E).nox sc1 (cB own1 cap1) C s₀ H₀ ex) sc own cap:=A9 so rfl hk a b c d e g
theorem Ja (a:sc.kind=.function:=by rfl) (b:∀ y∈sc.names,y.2=.local→sc.names.lookup y.1=some .local:=by decide +kernel) (c:∀ y∈sc.names,y.2≠.cell:=by decide +kernel) (d:∀ y∈sc.names,y.2=.free→sc1.names.lookup y.1=some .cell∨(sc1.names.lookup y.1=some .free∧so.names.lookup y.1=some .cell):=by decide +kernel) (e:∀ p∈cap,(cB own1 cap1)[p.1]?=some p.2:=by decide +kernel) (g:∀ p∈cap,sc.names.lookup p.2=some .free:=by decide +kernel) (hk:so.kind=.function:=by rfl):gI (hJ (iB fB P w K mg base N qual so f cd A outer s H E).nox sc1 (cB own1 cap1) C s₀ H₀ ex) sc own cap:=Ly so rfl hk a b c d e g
theorem cV {N ps:List Str} {sc:Scope} (a:sc.kind=.function:=by rfl) (b:sc.isCoroutine=false:=by rfl) (c:sc.isGenerator=false:=by rfl) (d:N.Nodup:=by decide +kernel) (e:N.take ps.length=ps:=by rfl) (f:∀ x∈ps,sc.names.lookup x=some .local∨sc.names.lookup x=some .cell:=by decide +kernel) (g:∀ y∈sc.names,y.2≠.free:=by decide +kernel):lN N ps sc:=⟨a,b,c,d,e,f,g⟩
end
end L2.Pp
namespace L2.Pp
open PySem PySem.Spec PyProof.Rows Bn
structure Bx where
 P:Program
 w:World
 K:PySem.W.Frag
 mg:Str→Option Value
 base:Heap
 cl:Str→Addr
abbrev cU (B:Bx) (x:Str) (k:Nat) (ps:List Str) (g:FM):Prop:=wF B.P B.w B.K B.mg B.base B.cl x k ps g
def HF (K:PySem.W.Frag) (x:Str) (st:Stmt):Prop:=∃ (f:Addr) (fd:FuncData),PySem.W.nsIn K mainGlobals x=some (some (.ref f))∧jQ K x x st f fd
def XG (K:PySem.W.Frag) (mg:Str→Option Value):Prop:=∃ h:Heap,K.In h∧h.Ns mainGlobals mg
section
variable {B:Bx} {x:Str} {st:Stmt} {f:Addr} {fd:FuncData} {N ps:List Str} {k np n:Nat} {b:MS}
theorem Fl (X:XG B.K B.mg) (q:HF B.K x st):∃ f fd,jQ B.K x x st f fd∧PySem.W.keepIn B.K (.ref f)=true∧B.mg x=some (.ref f):=by
 obtain ⟨f,fd,a,F⟩:=q;obtain ⟨h,X,G⟩:=X;exact ⟨f,fd,F,F.kp,PySem.W.mg_of X G a⟩
theorem Q3 {K:PySem.W.Frag} {oc:Value} {od an:Option Addr} {osl:Array (Option Value)} {kV doc pm cdv ct:Value} (a:PySem.W.nsIn K mainGlobals x=some (some (.ref f))) (l:K.lookup f=some ⟨oc,od,.func (PySem.W.fnOf x x (jF st) (gB st) (eB st) .none kV doc pm an cdv ct),osl⟩)
  (c:PySem.W.codeIn K cdv x=true) (k:PySem.W.keepIn K (.ref f)=true):HF K x st:=⟨_,_,a,Rm l c k⟩
theorem Io (F:jQ B.K x x st f fd) (h:∀ (kV doc pm:Value) (an:Option Addr) (cdv ct:Value) (us:List Value),us.length=ps.length→bindArgs (PySem.W.fnOf x x (jF st) (gB st) (eB st) .none kV doc pm an cdv ct) ⟨us,[]⟩=pure (ps.zip us)):lU B.K fd ps []:=F.binds fun kV doc pm an cdv ct us hl=>h kV doc pm an cdv ct us hl
theorem dA (X:XG B.K B.mg) (q:HF B.K x st) (S:lN N ps (eB st)) (hb:N.Nodup→∀ (f:Addr) (cdv:Value) (A:Around) (outer:List Env) (s:Shared) (H:Hp) (E:XK),eH k (A.deeper (envOfC x (eB st) s.heap.objs.size f cdv))→gS B.K B.cl E0 (iB fB B.P B.w B.K B.mg B.base N x (eB st) f cdv A outer s H E).nox (gB st) b) (hnp:ps.length=np:=by rfl) (hn:N.length=n:=by rfl)
  (h:∀ (kV doc pm:Value) (an:Option Addr) (cdv ct:Value) (us:List Value),us.length=ps.length→bindArgs (PySem.W.fnOf x x (jF st) (gB st) (eB st) .none kV doc pm an cdv ct) ⟨us,[]⟩=pure (ps.zip us):=by intro _ _ _ _ _ _ us h; rcases us with _ | ⟨_,_ | ⟨_,_ | ⟨_,_ | ⟨_,_ | ⟨_,_ | ⟨_,_⟩⟩⟩⟩⟩⟩ <;> first | (cases h; done) | rfl | (simp at h)):cU B x (k+1) ps (aX np n b):=by
 obtain ⟨f,fd,F,kp,m⟩:=Fl X q;exact ⟨f,fd,Ro F S hnp hn fun cdv A outer s H E hr=>hb S.nd f cdv A outer s H E hr,Io F h,kp,m⟩
theorem mkL (X:XG B.K B.mg) (q:HF B.K x st) (S:lN N ps (eB st)) (hb:N.Nodup→∀ (f:Addr) (cdv:Value) (A:Around) (outer:List Env) (s:Shared) (H:Hp) (E:XK),eH k (A.deeper (envOfC x (eB st) s.heap.objs.size f cdv))→gS B.K B.cl E0 (iB fB B.P B.w B.K B.mg B.base N x (eB st) f cdv A outer s H E).nox (gB st) b) (hnp:ps.length=np:=by rfl) (hn:N.length=n:=by rfl)
  (h:∀ (kV doc pm:Value) (an:Option Addr) (cdv ct:Value) (us:List Value),us.length=ps.length→bindArgs (PySem.W.fnOf x x (jF st) (gB st) (eB st) .none kV doc pm an cdv ct) ⟨us,[]⟩=pure (ps.zip us):=by intro _ _ _ _ _ _ us h; rcases us with _ | ⟨_,_ | ⟨_,_ | ⟨_,_ | ⟨_,_ | ⟨_,_ | ⟨_,_⟩⟩⟩⟩⟩⟩ <;> first | (cases h; done) | rfl | (simp at h)):cU B x (k+1) ps (oO np n b):=by
 obtain ⟨f,fd,F,kp,m⟩:=Fl X q;exact ⟨f,fd,okL F S hnp hn fun cdv A outer s H E hr=>hb S.nd f cdv A outer s H E hr,Io F h,kp,m⟩
theorem mkR (F:jQ B.K x x st f fd) (S:lN N ps (eB st)) (hb:N.Nodup→∀ (f:Addr) (cdv:Value) (A:Around) (outer:List Env) (s:Shared) (H:Hp) (E:XK),eH k (A.deeper (envOfC x (eB st) s.heap.objs.size f cdv))→gS B.K B.cl E0 (iB fB B.P B.w B.K B.mg B.base N x (eB st) f cdv A outer s H E).nox (gB st) b) (hnp:ps.length=np:=by rfl) (hn:N.length=n:=by rfl):fR B.P B.w B.K B.mg B.base fB (k+1) f fd ps (lY B.K B.cl (aX np n b)):=Ro F S hnp hn fun cdv A outer s H E hr=>hb S.nd f cdv A outer s H E hr
section
variable {X:Cx} {cl:Str→Addr} {E:XK} {e:Expr} {es:List Expr} {ms:MA} {pos p:Pos} {k0:Nat} {g:FM} {dv:List PV}
end
section
variable {P:Program} {w:World} {K:PySem.W.Frag} {mg:Str→Option Value} {base:Heap} {qual:Str} {so sc:Scope} {own:List Str} {cap:List (Nat × Str)} {cd:Value} {A:Around} {outer:List Env} {s:Shared} {H:Hp} {E:XK}
end
end
end L2.Pp
namespace L2.Pp
open PySem
theorem K9:bootBuiltins "len"=some (.builtin "len"):=by decide +kernel
theorem D5:bootBuiltins "abs"=some (.builtin "abs"):=by decide +kernel
theorem F4:bootBuiltins "all"=some (.builtin "all"):=by decide +kernel
theorem C9:bootBuiltins "any"=some (.builtin "any"):=by decide +kernel
theorem G8:bootBuiltins "sum"=some (.builtin "sum"):=by decide +kernel
theorem Ms:bootBuiltins "sorted"=some (.builtin "sorted"):=by decide +kernel
theorem F2:bootBuiltins "int"=some (.type "int"):=by decide +kernel
theorem Oz:bootBuiltins "bool"=some (.type "bool"):=by decide +kernel
theorem Rk:bootBuiltins "list"=some (.type "list"):=by decide +kernel
theorem Kw:bootBuiltins "tuple"=some (.type "tuple"):=by decide +kernel
end L2.Pp
set_option Elab.async false
set_option maxRecDepth 100000
set_option maxHeartbeats 4000000
namespace Sc
noncomputable section
open PySem L2 Bn L2.Pp
abbrev Om:Stmt:=bD 1
abbrev Dg:Stmt:=bD 2
abbrev Jg:Stmt:=bD 3
abbrev Yc:Stmt:=bD 4
abbrev Tc:Stmt:=bD 6
abbrev Ai:Stmt:=bD 7
abbrev Oj:Stmt:=bD 11
abbrev Ld:Stmt:=bD 13
abbrev Pj:Stmt:=bD 14
abbrev Ae:Stmt:=bD 15
abbrev Cm:Stmt:=bD 16
abbrev Yl:Stmt:=bD 18
abbrev Bk:Stmt:=bD 19
abbrev Ol:Stmt:=bD 20
abbrev Lf:Stmt:=bD 21
abbrev Ze:Stmt:=bD 22
abbrev Ue:Stmt:=bD 23
abbrev El:Stmt:=bD 24
abbrev Oh:Stmt:=bD 25
abbrev Ql:Stmt:=bD 26
abbrev Uj:Stmt:=bD 27
abbrev Yk:Stmt:=bD 28
abbrev Je:Stmt:=bD 29
abbrev Dd:Stmt:=bD 30
abbrev Xc:Stmt:=bD 31
abbrev Mi:Stmt:=bD 32
abbrev Rh:Stmt:=bD 33
abbrev Jl:Stmt:=bD 34
abbrev Yi:Stmt:=bD 35
abbrev Ui:Stmt:=bD 36
abbrev Oi:Stmt:=bD 37
abbrev Pd:Stmt:=bD 39
abbrev Ll:Stmt:=bD 38
abbrev Fj:Stmt:=bD 40
abbrev Qd:Stmt:=bD 41
abbrev Hj:Stmt:=bD 42
abbrev Uf:Stmt:=bD 43
abbrev Uh:Stmt:=bD 44
abbrev Vf:Stmt:=bD 45
abbrev Ni:Stmt:=bD 46
abbrev We:Stmt:=bD 47
abbrev nA:Stmt:=bD 48
def Na:MS:=(aH (bZ (bE (aC eI (aA 0) (mC (.int 0)))) (bG (mC (.int 1))) cY)
 (aH (bZ (bE (aC kY (aA 0) (mC (.int 0)))) (bG (cD cK (mC (.int 1)))) cY)
 (bG (mC (.int 0)))))
def rP:FM:=aX 1 1 Na
def xN:MS:=(aH (jV (bE (aC kG (aA 1) (mC (.int 0)))) (aH (aK 2 (aC eY (aA 0) (aA 1)))
 (aH (aK 0 (aA 1))
 (aK 1 (aA 2)))))
 (bG (mR oH (aB (aA 0) aD))))
def rA:FM:=aX 2 3 xN
def xT:MS:=(aH (aK 1 (mC (.int 0)))
 (aH (bJ (bH (aA 0)) (gN 2) (aK 1 (aJ rA [] (aB (aA 1) (aB (aA 2) aD)))))
 (bG (bB ["number"] [(1,"common")] (bH (aA 0)) (gN 0) (aC kB (aA 0) (aA 1))))))
def tE:FM:=aX 1 3 xT
def wX:MS:=(aH (aK 1 (aC aE (uC ["number"] [] (bH (aA 0)) (gN 0) (bE (aC kG (aA 0) (mC (.int 0)))) (aA 0)) (mC (.int 0))))
 (bG (mR fH (aB (bB ["number"] [(1,"first")] (bH (aJ tE [] (aB (aA 0) aD))) (gN 0) (aC bA (aJ rP [] (aB (aA 1) aD)) (aA 0))) aD))))
def nP:FM:=aX 1 2 wX
def wR:MS:=(bG (bB ["near","far"] [(0,"start"),(1,"end")] (jM (aB (dF (aA 0) dH (dE (cD cK (mC (.int 1))))) (aB (dF (aA 1) dH (dE (cD cK (mC (.int 1))))) aD))) (gT 2 (cJ (gN 0) (cJ (gN 1) eC))) (aC cR (aC bA (aA 1) (aC aE (aA 2) (cD cK (mC (.int 1))))) (aC bA (aA 0) (aC aE (aA 3) (cD cK (mC (.int 1))))))))
def lB:FM:=aX 2 2 wR
def tK:MS:=(aH (aK 1 (aC aE (aA 0) (mC (.int 0))))
 (aH (bZ (bE (aC bT (mR cF (aB (aA 0) aD)) (mC (.int 1)))) (bG (mN dR (aB (cD cK (aC aE (aA 1) (mC (.int 1)))) (aB (aC aE (aA 1) (mC (.int 0))) aD)))) cY)
 (aH (aK 2 (aC aE (aA 0) (mC (.int 1))))
 (bG (mN dR (aB (aC cR (aC bA (aC aE (aA 1) (mC (.int 1))) (aC aE (aA 2) (mC (.int 2)))) (aC bA (aC aE (aA 1) (mC (.int 2))) (aC aE (aA 2) (mC (.int 1))))) (aB (aC cR (aC bA (aC aE (aA 1) (mC (.int 2))) (aC aE (aA 2) (mC (.int 0)))) (aC bA (aC aE (aA 1) (mC (.int 0))) (aC aE (aA 2) (mC (.int 2))))) (aB (aC cR (aC bA (aC aE (aA 1) (mC (.int 0))) (aC aE (aA 2) (mC (.int 1)))) (aC bA (aC aE (aA 1) (mC (.int 1))) (aC aE (aA 2) (mC (.int 0))))) aD))))))))
def pB:FM:=aX 1 3 tK
def zL:MS:=(aH (aK 1 (wC (bE (aC bT (mR cF (aB (aA 0) aD)) (mC (.int 3)))) (mC (.tup [.tup [.int 0,.int 1],.tup [.int 1,.int 2],.tup [.int 2,.int 0]])) (mC (.tup [.tup [.int 1,.int 2,.int 3],.tup [.int 0,.int 3,.int 2],.tup [.int 0,.int 1,.int 3],.tup [.int 0,.int 2,.int 1]]))))
 (bG (bB ["wall"] [(0,"piece")] (bH (aA 1)) (gN 0) (mR fH (aB (bB ["k"] [(1,"piece")] (bH (aA 0)) (gN 0) (aC aE (aA 1) (aA 0))) aD)))))
def rM:FM:=aX 1 2 zL
def sW:MS:=(bG (aJ nP [] (aB (aJ pB [] (aB (bB ["p"] [(0,"wall")] (bH (dF (aA 0) (dE (mC (.int 1))) dH)) (gN 0) (aJ lB [] (aB (aC aE (aA 1) (mC (.int 0))) (aB (aA 0) aD)))) aD)) aD)))
def mJ:FM:=aX 1 1 sW
def zG:MS:=(aH (bZ (bE (aC bT (mR cF (aB (aA 0) aD)) (mC (.int 2)))) (bG (mN dR (aB (aA 0) aD))) cY)
 (bG (bB ["k"] [(0,"wall")] (bO (aB (mR cF (aB (aA 0) aD)) aD)) (gN 0) (mN cT (aB (aC aE (aA 1) (aC cR (aA 0) (mC (.int 1)))) (aB (aC aE (aA 1) (aA 0)) aD))))))
def rG:FM:=aX 1 1 zG
def xI:MS:=(aH (aK 3 (aJ mJ [] (aB (aA 1) aD)))
 (bJ (bH (aJ rG [] (aB (aA 1) aD))) (gT 2 (cJ (gN 4) (cJ (gN 5) eC))) (aH (aK 6 (aJ nP [] (aB (aJ lB [] (aB (aA 4) (aB (aA 5) aD))) aD)))
 (bJ (bH (mN cT (aB (mN cT (aB (aA 4) (aB (aA 2) aD))) (aB (mN cT (aB (aA 5) (aB (cD cK (aA 2)) aD))) aD)))) (gT 2 (cJ (gN 7) (cJ (gN 8) eC))) (aH (aK 9 (mN cT (aB (aA 3) (aB (aA 6) (aB (aA 7) aD)))))
 (jK (aA 0) (aA 9) (aC aF (oG (aA 0) (aB (aA 9) (aB (mC (.int 0)) aD))) (aA 8))))))))
def qU:FM:=aX 3 10 xI
def zO:MS:=(aH (aK 2 (iY true))
 (aH (bJ (bH (mN cT (aB (mN cT (aB (aA 0) (aB (mC (.int 1)) aD))) (aB (mN cT (aB (aA 1) (aB (cD cK (mC (.int 1))) aD))) aD)))) (gT 2 (cJ (gN 3) (cJ (gN 4) eC))) (bJ (bH (aA 3)) (gN 5) (bJ (bH (aJ rM [] (aB (aA 5) aD))) (gN 6) (cS (aJ qU [] (aB (aA 2) (aB (aA 6) (aB (aA 4) aD))))))))
 (bG (cD oI (rY (aA 2))))))
def nZ:FM:=aX 2 7 zO
def Ka:MS:=(aH (aK 1 (fA aD))
 (aH (bJ (uQ (aB (dF (aA 0) dH (dE (mC (.int 63)))) aD)) (gT 2 (cJ (gN 2) (cJ (gN 3) eC))) (bZ (bE (aC qM (aA 3) (aC lX (mC (.int 10)) (mC (.int 18))))) (cS (dQ (aA 1) (aB (aC cR (aA 3) (aC lX (mC (.int 10)) (mC (.int 18)))) aD))) (aH (aK 4 (aC eY (aC bA (aC aF (aC aF (aC aF (aA 3) (aC bA (aC bA (mC (.int 7)) (aA 2)) (aA 2))) (aC bA (mC (.int 13)) (aA 2))) (mC (.int 5))) (mC (.int 48271))) (mC (.int 2147483647))))
 (aH (aK 5 (aC eY (aC bA (aC aF (aC aF (aC aF (aA 3) (aC bA (aC bA (mC (.int 11)) (aA 2)) (aA 2))) (aC bA (mC (.int 17)) (aA 2))) (mC (.int 3))) (mC (.int 40692))) (mC (.int 2147483399))))
 (aH (aK 6 (aC eY (aC bA (aC aF (aC aF (aC aF (aA 3) (aC bA (aC bA (mC (.int 5)) (aA 2)) (aA 2))) (aC bA (mC (.int 29)) (aA 2))) (mC (.int 8))) (mC (.int 39373))) (mC (.int 2147483587))))
 (aH (aK 4 (aC eY (aC bA (aA 4) (mC (.int 52021))) (mC (.int 1000000007))))
 (aH (aK 5 (aC eY (aC bA (aA 5) (mC (.int 30011))) (mC (.int 998244353))))
 (aH (aK 6 (aC eY (aC bA (aA 6) (mC (.int 45989))) (mC (.int 1000000009))))
 (cS (dQ (aA 1) (aB (aC aF (aC bA (aC aF (aC bA (aA 4) (mC (.int 998244353))) (aA 5)) (mC (.int 1000000009))) (aA 6)) aD)))))))))))
 (bG (aA 1))))
def pP:FM:=aX 1 7 Ka
def tU:MS:=(aH (jV (iZ (bE (aC eI (mR cF (aB (aA 0) aD)) (mC (.int 0)))) (bE (aC bT (aC aE (aA 0) (mC (.int 0))) (mC (.int 0))))) (cS (kC (aA 0) (aB (mC (.int 0)) aD))))
 (aH (bZ (bE (aC bT (mR cF (aB (aA 0) aD)) (mC (.int 0)))) (bG (mC (.int 0))) cY)
 (aH (aK 2 (aC eY (aC aE (aA 0) (mC (.int 0))) (aA 1)))
 (aH (jX (aA 0) (mC (.int 0)) (aC kB (aC aE (aA 0) (mC (.int 0))) (aA 1)))
 (bG (aA 2))))))
def bU:FM:=aX 2 3 tU
def zT:MS:=(aH (aK 0 (mR oH (aB (aA 0) aD)))
 (aH (aK 1 (mR oH (aB (aA 1) aD)))
 (aH (jV (bE (aC eI (aA 1) (mC (.int 0)))) (sL 0 1 (aB (aA 1) (aB (aC eY (aA 0) (aA 1)) aD))))
 (bG (aA 0)))))
def rQ:FM:=aX 2 2 zT
def xL:MS:=(aH (aK 1 (mC (.int 0)))
 (aH (bJ (bH (aA 0)) (gN 2) (aK 1 (aJ rQ [] (aB (aA 1) (aB (aA 2) aD)))))
 (aH (bZ (bE (aC bT (aA 1) (mC (.int 0)))) (bG (mR fH (aB (aA 0) aD))) cY)
 (bG (mR fH (aB (bB ["_law_number"] [(1,"_law_by")] (bH (aA 0)) (gN 0) (aC kB (aA 0) (aA 1))) aD))))))
def jR:FM:=aX 1 3 xL
def xM:MS:=(aH (aK 1 (aJ jR [] (aB (aA 0) aD)))
 (aH (bJ (bH (aA 1)) (gN 2) (aH (bZ (bE (aC eI (aA 2) (mC (.int 0)))) (bG (aA 1)) cY)
 (bZ (bE (aC kY (aA 2) (mC (.int 0)))) (bG (mR fH (aB (bB ["_law_one"] [] (bH (aA 1)) (gN 0) (aC cR (mC (.int 0)) (aA 0))) aD))) cY)))
 (bG (aA 1))))
def lD:FM:=aX 1 3 xM
def xP:MS:=(aH (aK 3 (bB ["_law_k"] [(2,"_law_way"),(1,"_law_q"),(0,"_law_p")] (bO (aB (aC cR (mR cF (aB (aA 0) aD)) (mC (.int 1))) aD)) (gN 0) (aC aF (aC bA (aC bA (aA 1) (aC aE (aA 3) (aA 0))) (aC aE (aA 2) (cD cK (mC (.int 1))))) (aC bA (aC aE (aA 2) (aA 0)) (aC aE (aA 3) (cD cK (mC (.int 1))))))))
 (bG (aJ jR [] (aB (aC aF (aA 3) (mN dR (aB (aC bA (aC aE (aA 0) (cD cK (mC (.int 1)))) (aC aE (aA 1) (cD cK (mC (.int 1))))) aD))) aD))))
def nS:FM:=aX 3 4 xP
def zW:MS:=(bG (bB ["_law_k"] [(1,"_law_q"),(0,"_law_p")] (bO (aB (aC cR (mR cF (aB (aA 0) aD)) (mC (.int 1))) aD)) (gN 0) (aC cR (aC bA (aC aE (aA 1) (aA 0)) (aC aE (aA 2) (cD cK (mC (.int 1))))) (aC bA (aC aE (aA 2) (aA 0)) (aC aE (aA 1) (cD cK (mC (.int 1))))))))
def lO:FM:=aX 2 2 zW
def tR:MS:=(aH (aK 2 (aC cR (aC bA (aC aE (aA 0) (mC (.int 1))) (aC aE (aA 1) (mC (.int 2)))) (aC bA (aC aE (aA 0) (mC (.int 2))) (aC aE (aA 1) (mC (.int 1))))))
 (aH (aK 3 (aC cR (aC bA (aC aE (aA 0) (mC (.int 2))) (aC aE (aA 1) (mC (.int 0)))) (aC bA (aC aE (aA 0) (mC (.int 0))) (aC aE (aA 1) (mC (.int 2))))))
 (aH (aK 4 (aC cR (aC bA (aC aE (aA 0) (mC (.int 0))) (aC aE (aA 1) (mC (.int 1)))) (aC bA (aC aE (aA 0) (mC (.int 1))) (aC aE (aA 1) (mC (.int 0))))))
 (bG (mN dR (aB (aA 2) (aB (aA 3) (aB (aA 4) aD))))))))
def lJ:FM:=aX 2 5 tR
def zZ:MS:=(bG (mR qE (aB (bB ["_law_one","_law_other"] [] (jM (aB (aA 0) (aB (aA 1) aD))) (gT 2 (cJ (gN 0) (cJ (gN 1) eC))) (aC bA (aA 0) (aA 1))) aD)))
def rR:FM:=aX 2 2 zZ
def pJ:MS:=(aH (bZ (bE (aC bT (mR cF (aB (aA 0) aD)) (mC (.int 2)))) (bG (aC cR (aC bA (aC aE (aC aE (aA 0) (mC (.int 0))) (mC (.int 0))) (aC aE (aC aE (aA 0) (mC (.int 1))) (mC (.int 1)))) (aC bA (aC aE (aC aE (aA 0) (mC (.int 0))) (mC (.int 1))) (aC aE (aC aE (aA 0) (mC (.int 1))) (mC (.int 0)))))) cY)
 (bG (aJ rR [] (aB (aJ lJ [] (aB (aC aE (aA 0) (mC (.int 0))) (aB (aC aE (aA 0) (mC (.int 1))) aD))) (aB (aC aE (aA 0) (mC (.int 2))) aD)))))
def jU:FM:=aX 1 1 pJ
def uO:MS:=(bG (aJ jU [] (aB (bB ["_law_p"] [(0,"_law_points")] (bH (dF (aA 0) (dE (mC (.int 1))) dH)) (gN 0) (aJ lO [] (aB (aC aE (aA 1) (mC (.int 0))) (aB (aA 0) aD)))) aD)))
def nY:FM:=aX 1 1 uO
def sZ:MS:=(aH (aK 1 (mR rJ (aB (aA 0) aD)))
 (aH (bZ (bE (aC kY (aJ nY [] (aB (aA 1) aD)) (mC (.int 0)))) (aK 1 (aC aF (dF (aA 1) dH (dE (cD cK (mC (.int 2))))) (mN dR (aB (aC aE (aA 1) (cD cK (mC (.int 1)))) (aB (aC aE (aA 1) (cD cK (mC (.int 2)))) aD))))) cY)
 (bG (mR fH (aB (aA 1) aD)))))
def gW:FM:=aX 1 2 sZ
def wV:MS:=(bG (aJ lD [] (aB (aJ lJ [] (aB (aA 0) (aB (aA 1) aD))) aD)))
def oU:FM:=aX 2 2 wV
def wS:MS:=(bG (aJ lD [] (aB (aC aF (aJ lO [] (aB (aA 0) (aB (aA 1) aD))) (aJ lJ [] (aB (aA 0) (aB (aA 1) aD)))) aD)))
def oT:FM:=aX 2 2 wS
def yC:MS:=(aH (aK 3 (aJ lJ [] (aB (aJ lO [] (aB (aA 0) (aB (aA 1) aD))) (aB (aJ lO [] (aB (aA 0) (aB (aA 2) aD))) aD))))
 (bG (aJ lD [] (aB (aC aF (bB ["_law_number"] [(0,"_law_p")] (bH (aA 3)) (gN 0) (aC bA (aA 0) (aC aE (aA 1) (mC (.int 3))))) (mN dR (aB (aC cR (mC (.int 0)) (aJ rR [] (aB (aA 3) (aB (aA 0) aD)))) aD))) aD))))
def pF:FM:=aX 3 4 yC
def yM:MS:=(aH (vH (gT 4 (cJ (gN 1) (cJ (gN 2) (cJ (gN 3) (cJ (gN 4) eC))))) (aA 0))
 (bG (mN dR (aB (mN cT (aB (aA 2) (aB (aA 3) (aB (aA 4) aD)))) (aB (mN cT (aB (aA 1) (aB (aA 4) (aB (aA 3) aD)))) (aB (mN cT (aB (aA 1) (aB (aA 2) (aB (aA 4) aD)))) (aB (mN cT (aB (aA 1) (aB (aA 3) (aB (aA 2) aD)))) aD)))))))
def lK:FM:=aX 1 5 yM
def Ha:MS:=(jK (aA 0) (aA 1) (aC aF (oG (aA 0) (aB (aA 1) (aB (mC (.int 0)) aD))) (aA 2)))
def jY:FM:=aX 3 3 Ha
def tV:MS:=(aH (bZ (bE (aC bT (mR cF (aB (aA 1) aD)) (mC (.int 3)))) (aH (bJ (bO (aB (mC (.int 3)) aD)) (gN 3) (aH (aK 4 (aC aE (aA 1) (aC cR (aA 3) (mC (.int 1)))))
 (aH (aK 5 (aC aE (aA 1) (aA 3)))
 (aH (aK 6 (aJ oU [] (aB (aA 4) (aB (aA 5) aD))))
 (aH (cS (aJ jY [] (aB (aA 0) (aB (mN cT (aB (aA 6) (aB (aA 4) aD))) (aB (aA 2) aD)))))
 (cS (aJ jY [] (aB (aA 0) (aB (mN cT (aB (aA 6) (aB (aA 5) aD))) (aB (aC cR (mC (.int 0)) (aA 2)) aD))))))))))
 mW) cY)
 (aH (aK 7 (iY true))
 (aH (bJ (bO (aB (mC (.int 4)) aD)) (gN 3) (bJ (bO (aB (aA 3) aD)) (gN 8) (aH (aK 6 (aJ oT [] (aB (aC aE (aA 1) (aA 8)) (aB (aC aE (aA 1) (aA 3)) aD))))
 (aH (jK (aA 7) (mN cT (aB (aC aE (aA 1) (aA 8)) (aB (aC aE (aA 1) (aA 3)) aD))) (aA 6))
 (jK (aA 7) (mN cT (aB (aC aE (aA 1) (aA 3)) (aB (aC aE (aA 1) (aA 8)) aD))) (aA 6))))))
 (bJ (bH (aJ lK [] (aB (aA 1) aD))) (gN 9) (aH (aK 10 (aJ pF [] (aB (aC aE (aA 9) (mC (.int 0))) (aB (aC aE (aA 9) (mC (.int 1))) (aB (aC aE (aA 9) (mC (.int 2))) aD)))))
 (bJ (bO (aB (mC (.int 3)) aD)) (gN 3) (aH (aK 4 (aC aE (aA 9) (aC cR (aA 3) (mC (.int 1)))))
 (aH (aK 5 (aC aE (aA 9) (aA 3)))
 (aH (aK 6 (kW (aA 7) (mN cT (aB (aA 4) (aB (aA 5) aD)))))
 (aH (cS (aJ jY [] (aB (aA 0) (aB (mN cT (aB (aA 10) (aB (aA 6) (aB (aA 4) aD)))) (aB (aA 2) aD)))))
 (cS (aJ jY [] (aB (aA 0) (aB (mN cT (aB (aA 10) (aB (aA 6) (aB (aA 5) aD)))) (aB (aC cR (mC (.int 0)) (aA 2)) aD)))))))))))))))
def lM:FM:=aX 3 11 tV
def zE:MS:=(aH (aK 2 (iY true))
 (aH (bJ (bH (aA 0)) (gN 3) (cS (aJ lM [] (aB (aA 2) (aB (aA 3) (aB (mC (.int 1)) aD))))))
 (aH (bJ (bH (aA 1)) (gN 3) (cS (aJ lM [] (aB (aA 2) (aB (aA 3) (aB (cD cK (mC (.int 1))) aD))))))
 (bG (mR nC (aB (bB ["_law_key"] [(2,"_law_table")] (bH (sC (aB (aA 2) aD))) (gN 0) (aC bT (kW (aA 1) (aA 0)) (mC (.int 0)))) aD))))))
def pM:FM:=aX 2 4 zE
def yZ:MS:=(bG (aJ gW [] (aB (bB ["_law_p"] [(2,"_law_far"),(1,"_law_way")] (bH (aA 0)) (gN 0) (aJ nS [] (aB (aA 0) (aB (aA 1) (aB (aA 2) aD))))) aD)))
def jT:FM:=aX 3 3 yZ
def sV:MS:=(bG (aJ jU [] (aB (bB ["_law_corner"] [(0,"_law_corners")] (bH (dF (aA 0) (dE (mC (.int 1))) dH)) (gN 0) (bB ["_law_b","_law_c"] [] (jM (aB (aC aE (aA 1) (mC (.int 0))) (aB (aA 0) aD))) (gT 2 (cJ (gN 0) (cJ (gN 1) eC))) (aC cR (aA 1) (aA 0)))) aD)))
def mK:FM:=aX 1 1 sV
def Ca:MS:=(aH (aK 3 (fA aD))
 (aH (bJ (bO (aB (aC aF (aA 1) (mC (.int 1))) aD)) (gN 4) (cS (dQ (aA 3) (aB (bB ["_law_m"] [(0,"_law_row_here"),(2,"_law_wide")] (bO (aB (aA 1) aD)) (gN 0) (aJ bU [] (aB (aA 1) (aB (aC aF (aA 2) (mC (.int 1))) aD)))) aD))))
 (aH (bZ (bE (aC kG (aJ mK [] (aB (aA 3) aD)) (mC (.int 0)))) (bG (aA 3)) cY)
 (bG (bB ["_law_k"] [(1,"_law_dims")] (mQ (aB (cD cK (mC (.int 1))) (aB (aA 1) aD))) (gN 0) (bB ["_law_m"] [(0,"_law_k")] (bO (aB (aA 1) aD)) (gN 0) (mR iL (aB (aC bT (aA 0) (aA 1)) aD))))))))
def kQ:FM:=aX 3 5 Ca
def tW:MS:=(aH (aK 1 (fA (aB (mC (.int 0)) (aB (mC (.int 1)) (aB (mC (.int 2)) aD)))))
 (aH (aK 2 (fA (aB (mC (.int 0)) (aB (mC (.int 0)) (aB (mC (.int 0)) aD)))))
 (aH (aK 3 (sJ (aB (aA 2) aD)))
 (aH (bJ (bO (aB (mC (.int 3)) aD)) (gN 4) (aH (jX (aA 2) (kC (aA 1) (aB (aJ bU [] (aB (aA 0) (aB (mR cF (aB (aA 1) aD)) aD))) aD)) (mC (.int 1)))
 (cS (rX (aA 3) (aB (aA 2) aD)))))
 (aH (bJ (bO (aB (mC (.int 3)) aD)) (gN 5) (bZ (bE (aC bT (aJ bU [] (aB (aA 0) (aB (mC (.int 4)) aD))) (mC (.int 3)))) (oF 3 2 5) cY))
 (bG (aA 3)))))))
def pN:FM:=oO 1 6 tW
def xB:MS:=(aH (aK 3 (fA aD))
 (aH (bJ (bO (aB (aJ bU [] (aB (aA 0) (aB (aC aF (aA 2) (mC (.int 1))) aD))) aD)) (gN 4) (aH (aK 5 (aJ bU [] (aB (aA 0) (aB (mC (.int 6)) aD))))
 (bZ (iZ (bE (aC bT (aA 5) (mC (.int 5)))) (bE (aC eI (mR cF (aB (aA 3) aD)) (mC (.int 0))))) (cS (dQ (aA 3) (aB (aC aE (aA 3) (cD cK (mC (.int 1)))) aD))) (bZ (bE (aC bT (aA 1) (mC (.int 2)))) (cS (dQ (aA 3) (aB (aJ kQ [] (aB (aA 0) (aB (mC (.int 2)) (aB (aC aF (mC (.int 1)) (mR iL (aB (aC bT (aA 5) (mC (.int 4))) aD))) aD)))) aD))) (bZ (bE (aC eI (aA 5) (mC (.int 3)))) (cS (dQ (aA 3) (aB (aJ kQ [] (aB (aA 0) (aB (mC (.int 3)) (aB (mC (.int 1)) aD)))) aD))) (cS (dQ (aA 3) (aB (aJ pN [] (aB (aA 0) aD)) aD))))))))
 (bG (aA 3))))
def iU:FM:=aX 3 6 xB
def uA:MS:=(aH (aK 2 (mC (.int 1)))
 (aH (bJ (bH (aA 1)) (gN 3) (aK 2 (aC bA (aA 2) (aC aE (aA 3) (mC (.int 1))))))
 (aH (aK 4 (bB ["_law_number","_law_part"] [(2,"_law_under")] (jM (aB (aA 0) (aB (aA 1) aD))) (gT 2 (cJ (gN 0) (cJ (gN 1) eC))) (aC bA (aC bA (aA 0) (aC aE (aA 1) (mC (.int 0)))) (aC kB (aA 2) (aC aE (aA 1) (mC (.int 1)))))))
 (bG (aJ jR [] (aB (aC aF (aA 4) (mN dR (aB (aA 2) aD))) aD))))))
def kN:FM:=aX 2 5 uA
def tD:MS:=(aH (bZ (bE (aC bT (aJ bU [] (aB (aA 0) (aB (mC (.int 2)) aD))) (mC (.int 1)))) (bG (mR fH (aB (aA 1) aD))) cY)
 (bG (mR jG (aB (aA 1) aD))))
def jE:FM:=aX 2 2 tD
def yJ:MS:=(aH (aK 2 (aJ bU [] (aB (aA 0) (aB (mR cF (aB (aA 1) aD)) aD))))
 (aH (aK 3 (aC eY (aC aF (aC aF (aA 2) (mC (.int 1))) (aJ bU [] (aB (aA 0) (aB (aC cR (mR cF (aB (aA 1) aD)) (mC (.int 1))) aD)))) (mR cF (aB (aA 1) aD))))
 (aH (aK 4 (aC aF (mC (.int 1)) (aJ bU [] (aB (aA 0) (aB (mC (.int 3)) aD)))))
 (aH (aK 5 (aC aF (mC (.int 1)) (aJ bU [] (aB (aA 0) (aB (mC (.int 3)) aD)))))
 (aH (aK 6 (aC aE (aA 1) (aA 2)))
 (aH (aK 7 (aC aE (aA 1) (aA 3)))
 (aH (aK 8 (bB ["_law_k"] [(4,"_law_u"),(7,"_law_q"),(5,"_law_v"),(6,"_law_p")] (bO (aB (aC cR (mR cF (aB (aA 6) aD)) (mC (.int 1))) aD)) (gN 0) (aC aF (aC bA (aC bA (aA 1) (aC aE (aA 4) (aA 0))) (aC aE (aA 2) (cD cK (mC (.int 1))))) (aC bA (aC bA (aA 3) (aC aE (aA 2) (aA 0))) (aC aE (aA 4) (cD cK (mC (.int 1))))))))
 (aH (aK 9 (aJ jR [] (aB (aC aF (aA 8) (mN dR (aB (aC bA (aC bA (aC aF (aA 4) (aA 5)) (aC aE (aA 6) (cD cK (mC (.int 1))))) (aC aE (aA 7) (cD cK (mC (.int 1))))) aD))) aD)))
 (aH (aK 10 (pU (aB (aA 1) aD)))
 (aH (jX (aA 10) (aA 2) (aA 9))
 (aH (aK 11 (pU (aB (aA 1) aD)))
 (aH (jX (aA 11) (aA 3) (aA 9))
 (bG (mN dR (aB (aJ gW [] (aB (aA 10) aD)) (aB (aJ gW [] (aB (aA 11) aD)) aD))))))))))))))))
def pD:FM:=aX 2 12 yJ
def xJ:MS:=(aH (aK 2 (fA aD))
 (aH (bJ (bH (aA 1)) (gN 3) (bZ (bE (aC eI (aJ bU [] (aB (aA 0) (aB (mC (.int 3)) aD))) (mC (.int 0)))) (aK 2 (sG (aA 2) (aJ pD [] (aB (aA 0) (aB (aA 3) aD))))) (cS (dQ (aA 2) (aB (aA 3) aD)))))
 (aH (aK 4 (fA aD))
 (aH (jV (bE (aC eI (mR cF (aB (aA 2) aD)) (mC (.int 0)))) (cS (dQ (aA 4) (aB (kC (aA 2) (aB (aJ bU [] (aB (aA 0) (aB (mR cF (aB (aA 2) aD)) aD))) aD)) aD))))
 (bG (aA 4))))))
def nR:FM:=aX 2 5 xJ
def yI:MS:=(aH (aK 2 (bB ["_law_k"] [] (bO (aB (aA 1) aD)) (gN 0) (mN cT (aB (mC (.int 1)) (aB (mC (.int 1)) aD)))))
 (bG (bB ["_law_corners"] [(2,"_law_one")] (bH (aA 0)) (gN 0) (aJ gW [] (aB (bB ["_law_corner"] [(1,"_law_one")] (bH (aA 0)) (gN 0) (aJ kN [] (aB (aA 0) (aB (aA 1) aD)))) aD)))))
def iW:FM:=aX 2 3 yI
def xX:MS:=(aH (aK 3 (aJ bU [] (aB (aA 0) (aB (mC (.int 3)) aD))))
 (aH (bZ (nI (bE (aC bT (aA 3) (mC (.int 0)))) (bE (aC bT (mR cF (aB (aA 1) aD)) (mC (.int 0))))) (bG (aJ iW [] (aB (aJ iU [] (aB (aA 0) (aB (aA 2) (aB (mC (.int 3)) aD)))) (aB (aA 2) aD)))) cY)
 (aH (bZ (bE (aC bT (aA 3) (mC (.int 1)))) (aH (aK 4 (aJ bU [] (aB (aA 0) (aB (mR cF (aB (aA 1) aD)) aD))))
 (aH (aK 5 (bB ["_law_k"] [(0,"_law_row_here")] (bO (aB (aA 2) aD)) (gN 0) (aC cR (aJ bU [] (aB (aA 1) (aB (mC (.int 3)) aD))) (mC (.int 1)))))
 (bG (aC aF (aC aF (dF (aA 1) dH (dE (aA 4))) (mN dR (aB (aJ jT [] (aB (aC aE (aA 1) (aA 4)) (aB (mC (.int 1)) (aB (mR fH (aB (aC aF (aA 5) (mN dR (aB (mC (.int 1)) aD))) aD)) aD)))) aD))) (dF (aA 1) (dE (aC aF (aA 4) (mC (.int 1)))) dH))))) cY)
 (bG (aJ nR [] (aB (aA 0) (aB (aA 1) aD)))))))
def mL:FM:=aX 3 6 xX
def Ua:MS:=(aH (aK 1 (pO pP [] (aB (aA 0) aD)))
 (aH (aK 2 (aC aF (mC (.int 2)) (aJ bU [] (aB (aA 1) (aB (mC (.int 2)) aD)))))
 (aH (aK 3 (aJ iW [] (aB (aJ iU [] (aB (aA 1) (aB (aA 2) (aB (mC (.int 3)) aD)))) (aB (aA 2) aD))))
 (aH (aK 4 (aJ mL [] (aB (aA 1) (aB (aA 3) (aB (aA 2) aD)))))
 (aH (bZ (bE (aC bT (aJ bU [] (aB (aA 1) (aB (mC (.int 2)) aD))) (mC (.int 1)))) (aH (aK 5 (aJ iW [] (aB (aJ iU [] (aB (aA 1) (aB (aA 2) (aB (mC (.int 1)) aD)))) (aB (aA 2) aD))))
 (aH (aK 3 (aC aF (aA 3) (aA 5)))
 (aK 4 (aC aF (aA 5) (aA 4))))) cY)
 (aH (aK 6 (lP nZ (aB (aJ jE [] (aB (aA 1) (aB (aA 3) aD))) (aB (aJ jE [] (aB (aA 1) (aB (aA 4) aD))) aD))))
 (bG (rW (cD (kD "bool") (aA 6)) (aC bT (aA 6) (lP pM (aB (aA 3) (aB (aA 4) aD))))))))))))
def Kb:FM:=aX 1 7 Ua
abbrev Yj (B:Bx):=cU B "sign" 1 ["number"] rP
abbrev Yd (B:Bx):=cU B "divisor" 1 ["one","other"] rA
abbrev Se (B:Bx):=cU B "reduced" 2 ["numbers"] tE
abbrev wT (B:Bx):=cU B "lowest_way" 3 ["numbers"] nP
abbrev wP (B:Bx):=cU B "whole_arrow" 1 ["start","end"] lB
abbrev Mf (B:Bx):=cU B "normal" 1 ["arrows"] pB
abbrev Yh (B:Bx):=cU B "walls" 1 ["piece"] rM
abbrev Zc (B:Bx):=cU B "plane_way" 4 ["wall"] mJ
abbrev Wh (B:Bx):=cU B "sides" 1 ["wall"] rG
abbrev Sd (B:Bx):=cU B "put_wall" 5 ["marks","wall","number"] qU
abbrev Ik (B:Bx):=cU B "same" 6 ["one","other"] nZ
abbrev Ij (B:Bx):=cU B "_law_row" 1 ["_law_script"] pP
abbrev lI (B:Bx):=cU B "_law_take" 1 ["_law_row_here","_law_many"] bU
abbrev Zi (B:Bx):=cU B "_law_gcd" 1 ["_law_one","_law_other"] rQ
abbrev qT (B:Bx):=cU B "_law_lowest" 2 ["_law_numbers"] jR
abbrev sX (B:Bx):=cU B "_law_upward" 3 ["_law_numbers"] lD
abbrev Qe (B:Bx):=cU B "_law_joined" 3 ["_law_p","_law_q","_law_way"] nS
abbrev tT (B:Bx):=cU B "_law_gap" 1 ["_law_p","_law_q"] lO
abbrev qZ (B:Bx):=cU B "_law_cross" 1 ["_law_u","_law_v"] lJ
abbrev zI (B:Bx):=cU B "_law_dot" 1 ["_law_u","_law_v"] rR
abbrev yO (B:Bx):=cU B "_law_turn" 2 ["_law_ways"] jU
abbrev Sk (B:Bx):=cU B "_law_det" 3 ["_law_points"] nY
abbrev sU (B:Bx):=cU B "_law_simplex" 4 ["_law_points"] gW
abbrev Wc (B:Bx):=cU B "_law_flat_line" 4 ["_law_p","_law_q"] oU
abbrev Rc (B:Bx):=cU B "_law_space_line" 4 ["_law_p","_law_q"] oT
abbrev Jf (B:Bx):=cU B "_law_plane" 4 ["_law_p","_law_q","_law_r"] pF
abbrev Nf (B:Bx):=cU B "_law_shuts" 1 ["_law_points"] lK
abbrev Gk (B:Bx):=cU B "_law_put" 1 ["_law_table","_law_key","_law_number"] jY
abbrev Kh (B:Bx):=cU B "_law_mark" 5 ["_law_table","_law_points","_law_number"] lM
abbrev Fh (B:Bx):=cU B "_law_same" 6 ["_law_one","_law_other"] pM
abbrev Og (B:Bx):=cU B "_law_gone" 5 ["_law_points","_law_way","_law_far"] jT
abbrev Fd (B:Bx):=cU B "_law_raw_turn" 3 ["_law_corners"] mK
abbrev Ti (B:Bx):=cU B "_law_raw" 4 ["_law_row_here","_law_dims","_law_wide"] kQ
abbrev Vh (B:Bx):=cU B "_law_kuhn" 2 ["_law_row_here"] pN
abbrev wW (B:Bx):=cU B "_law_raw_heap" 5 ["_law_row_here","_law_dims","_law_many"] iU
abbrev Vg (B:Bx):=cU B "_law_spot" 3 ["_law_corner","_law_stretch"] kN
abbrev Oe (B:Bx):=cU B "_law_handed" 2 ["_law_row_here","_law_rows"] jE
abbrev Hg (B:Bx):=cU B "_law_split" 5 ["_law_row_here","_law_points"] pD
abbrev Wd (B:Bx):=cU B "_law_parted" 6 ["_law_row_here","_law_heap"] nR
abbrev xK (B:Bx):=cU B "_law_plain" 5 ["_law_raw_here","_law_dims"] iW
abbrev Ge (B:Bx):=cU B "_law_second" 7 ["_law_row_here","_law_heap","_law_dims"] mL
structure Mg (mg:Str→Option Value):Prop where
 m_abs:mg "abs"=none
 m_all:mg "all"=none
 m_any:mg "any"=none
 m_bool:mg "bool"=none
 m_enumerate:mg "enumerate"=none
 m_int:mg "int"=none
 m_isinstance:mg "isinstance"=none
 m_len:mg "len"=none
 m_list:mg "list"=none
 m_range:mg "range"=none
 m_sorted:mg "sorted"=none
 m_sum:mg "sum"=none
 m_tuple:mg "tuple"=none
 m_zip:mg "zip"=none
set_option hygiene false
local macro_rules | `(tactic| trivial) => `(tactic| (first
 | (with_reducible show eK _ _ _ _ _ aD); exact Nz
 | (with_reducible show eK _ _ _ _ _ (aB _ _)); refine Dw ?_ ?_
 | (with_reducible show aW _ _ _ _ _ (aA _)); exact F7 _
 | (with_reducible show aW _ _ _ _ _ (mC (.int _))); exact K7
 | (with_reducible show aW _ _ _ _ _ (mC (.tup _))); exact Px rfl (by assumption)
 | (with_reducible show aW _ _ _ _ _ (cD cK _)); refine S8 F5 Q5 ?_
 | (with_reducible show aW _ _ _ _ _ (cD oI _)); refine J4 ?_
 | (with_reducible show aW _ _ _ _ _ (sG _ _)); refine Vw ?_ ?_
 | (with_reducible show aW _ _ _ _ _ (aC aF _ _)); refine pQ Si O6 ?_ ?_
 | (with_reducible show aW _ _ _ _ _ (aC cR _ _)); refine pQ Im Q4 ?_ ?_
 | (with_reducible show aW _ _ _ _ _ (aC bA _ _)); refine pQ A7 V5 ?_ ?_
 | (with_reducible show aW _ _ _ _ _ (aC kB _ _)); refine pQ Yv C5 ?_ ?_
 | (with_reducible show aW _ _ _ _ _ (aC eY _ _)); refine pQ A5 X6 ?_ ?_
 | (with_reducible show aW _ _ _ _ _ (aC lX _ _)); refine pQ M9 R9 ?_ ?_
 | (with_reducible show aW _ _ _ _ _ (aC aE _ _)); refine T6 ?_ ?_
 | (with_reducible show aW _ _ _ _ _ (aC bT _ _)); refine rO (Dl (oS hr)) Co ?_ ?_ (kO _)
 | (with_reducible show aW _ _ _ _ _ (aC kG _ _)); refine rO (Xl (oS hr)) Wn ?_ ?_ (kO _)
 | (with_reducible show aW _ _ _ _ _ (aC kY _ _)); refine rO Jn Vn ?_ ?_ (kO _)
 | (with_reducible show aW _ _ _ _ _ (aC eI _ _)); refine rO On Bo ?_ ?_ (kO _)
 | (with_reducible show aW _ _ _ _ _ (aC qM _ _)); refine rO Cn Eo ?_ ?_ (kO _)
 | (with_reducible show gL _ _ _ _ _ (bE (aC bT _ _))); refine rF (Dl (oS hr)) Co ?_ ?_ (kO _)
 | (with_reducible show gL _ _ _ _ _ (bE (aC kG _ _))); refine rF (Xl (oS hr)) Wn ?_ ?_ (kO _)
 | (with_reducible show gL _ _ _ _ _ (bE (aC kY _ _))); refine rF Jn Vn ?_ ?_ (kO _)
 | (with_reducible show gL _ _ _ _ _ (bE (aC eI _ _))); refine rF On Bo ?_ ?_ (kO _)
 | (with_reducible show gL _ _ _ _ _ (bE (aC qM _ _))); refine rF Cn Eo ?_ ?_ (kO _)
 | (with_reducible show gL _ _ _ _ _ (iZ _ _)); refine jC.pt ?_
 | (with_reducible show gL _ _ _ _ _ (nI _ _)); refine jC.pt ?_
 | (with_reducible show jC _ _ _ _ _ (iZ _ _)); refine A0 ?_ ?_
 | (with_reducible show jC _ _ _ _ _ (nI _ _)); refine G7 ?_ ?_
 | (with_reducible show jC _ _ _ _ _ _); (first | refine Xv ?_ | refine A6 ?_)
 | (with_reducible show aW _ _ _ _ _ (rW _ _)); refine M1 ?_ ?_
 | (with_reducible show aW _ _ _ _ _ (wC _ _ _)); refine U4 ?_ ?_ ?_
 | (with_reducible show aW _ _ _ _ _ (mN cT _)); refine D7 ?_
 | (with_reducible show aW _ _ _ _ _ (mN dR _)); refine B9 ?_
 | (with_reducible show aW _ _ _ _ _ (fA _)); refine A4 ?_
 | (with_reducible show aW _ _ _ _ _ (dF _ _ _)); refine P8 ?_ ?_ ?_
 | (with_reducible show qK _ _ _ _ _ dH); exact Au
 | (with_reducible show qK _ _ _ _ _ (dE _)); refine Cu ?_
 | (with_reducible show aW _ _ _ _ _ (oG _ _)); refine Cy (oS hr) ?_ ?_
 | (with_reducible show aW _ _ _ _ _ (kW _ _)); refine L8 (oS hr) ?_ ?_
 | (with_reducible show aW _ _ _ _ _ (iY _)); exact Yz _
 | (with_reducible show aW _ _ _ _ _ (sC _)); refine Ex rfl rfl m.m_list Rk ?_
 | (with_reducible show aW _ _ _ _ _ (rY _)); refine A3 rfl rfl m.m_any C9 ?_
 | (with_reducible show aW _ _ _ _ _ (rX _ _)); refine Kx rfl rfl m.m_list ?_ ?_
 | (with_reducible show aW _ _ _ _ _ (sJ _)); refine K4 rfl rfl m.m_list ?_
 | (with_reducible show aW _ _ _ _ _ (dQ _ _)); refine Is ?_ ?_
 | (with_reducible show aW _ _ _ _ _ (kC _ _)); refine L7 ?_ ?_
 | (with_reducible show aW _ _ _ _ _ (lP _ _)); refine V6 (by assumption) hr (by decide) rfl ?_
 | (with_reducible show aW _ _ _ _ _ (aJ _ [] _)); refine T7 (by assumption) hr (by decide) rfl ?_
 | (with_reducible show aW _ _ _ _ _ (pO _ [] _)); refine W7 (by assumption) hr (by decide) rfl ?_
 | (with_reducible show aW _ _ _ _ _ (cD (kD "bool") _)); refine J7 (n := "bool") rfl m.m_isinstance rfl m.m_bool Oz ?_
 | (with_reducible show aW _ _ _ _ _ (pU _)); refine Mt rfl rfl m.m_list ?_
 | (with_reducible show aW _ _ _ _ _ (mR cF _)); refine rD Kp P4 rfl m.m_len K9 ?_
 | (with_reducible show aW _ _ _ _ _ (mR oH _)); refine rD Qt P0 rfl m.m_abs D5 ?_
 | (with_reducible show aW _ _ _ _ _ (mR nC _)); refine rD (Fv rfl) R6 rfl m.m_all F4 ?_
 | (with_reducible show aW _ _ _ _ _ (mR fH _)); refine yA Bp Rx rfl m.m_tuple Kw ?_
 | (with_reducible show aW _ _ _ _ _ (mR jG _)); refine yA sS Iz rfl m.m_list Rk ?_
 | (with_reducible show aW _ _ _ _ _ (mR iL _)); refine yA Ur S9 rfl m.m_int F2 ?_
 | (with_reducible show aW _ _ _ _ _ (mR qE _)); refine rD (Gs rfl) P5 rfl m.m_sum G8 ?_
 | (with_reducible show aW _ _ _ _ _ (mR rJ _)); refine rD Zq J5 rfl m.m_sorted Ms ?_
 | (with_reducible show aW _ _ _ _ _ (bB _ _ _ _ _)); (first | refine Gz (by first | exact Sa | exact zR | exact Ja) ?_ rfl (fun _ _ _ _ => ?_) (fun _ _ _ _ => ?_) | refine Ew J8 ?_ rfl (fun _ _ _ _ => ?_) (fun _ _ _ _ => ?_))
 | (with_reducible show aW _ _ _ _ _ (uC _ _ _ _ _ _)); refine Cv (by first | exact Sa | exact zR | exact Ja) ?_ rfl (fun _ _ _ _ => ?_) (fun _ _ _ _ => ?_) (fun _ _ _ _ => ?_)
 | (with_reducible show gU _ _ _ _ _ _ (jM _)); refine Ey rfl m.m_zip ?_
 | (with_reducible show gU _ _ _ _ _ _ (uQ _)); refine Tt rfl m.m_enumerate ?_
 | (with_reducible show gU _ _ _ _ _ _ (bO _)); refine Tq rfl m.m_range ?_
 | (with_reducible show gU _ _ _ _ _ _ (mQ _)); refine Fr rfl m.m_range ?_
 | (with_reducible show gU _ _ _ _ _ _ (bH _)); refine Xw ?_
 | (with_reducible show kJ _ _ _ (gN _)); exact Ov (by first | exact nd | (show (cB _ _).Nodup; decide +kernel)) rfl (by first | exact Or.inl rfl | exact Or.inr rfl)
 | (with_reducible show kJ _ _ _ (gT _ _)); refine Ox rfl ?_
 | (with_reducible show pY _ _ _ eC); exact Lv
 | (with_reducible show pY _ _ _ (cJ _ _)); refine Vs ?_ ?_
 | (with_reducible show gS _ _ _ _ _ cY); exact Nw
 | (with_reducible show gS _ _ _ _ _ (aH _ _)); refine Ps ?_ ?_
 | (with_reducible show gS _ _ _ _ _ _); refine Hv ?_
 | (with_reducible show eJ _ _ _ _ _ mW); exact Eu
 | (with_reducible show eJ _ _ _ _ _ (bG _)); refine Ez ?_
 | (with_reducible show eJ _ _ _ _ _ (bZ _ _ _)); refine D9 ?_ ?_ ?_
 | (with_reducible show eJ _ _ _ _ _ (cS _)); refine Fw ?_
 | (with_reducible show eJ _ _ _ _ _ (aK _ (bB _ _ _ _ _))); (first | refine Pu nd rfl (by first | exact Or.inl rfl | exact Or.inr rfl) (by first | exact Sa | exact zR | exact Ja) ?_ rfl (fun _ _ _ _ => ?_) (fun _ _ _ _ => ?_) | refine Bj nd rfl (by first | exact Or.inl rfl | exact Or.inr rfl) ?_)
 | (with_reducible show eJ _ _ _ _ _ (aK _ _)); refine Bj nd rfl (by first | exact Or.inl rfl | exact Or.inr rfl) ?_
 | (with_reducible show eJ _ _ _ _ _ (sL _ _ _)); refine A2 rfl nd rfl rfl (by decide) rfl rfl ?_ rfl
 | (with_reducible show eJ _ _ _ _ _ (vH _ _)); refine Wx ?_ ?_
 | (with_reducible show eJ _ _ _ _ _ (jK _ _ _)); refine B0 (oS hr) ?_ ?_ ?_
 | (with_reducible show eJ _ _ _ _ _ (jX _ _ _)); refine As ?_ ?_ ?_
 | (with_reducible show eJ _ _ _ _ _ (jV _ _)); refine Jr (by first | exact PassesOwn.never | exact PassesOwn.leaving) ?_ ?_
 | (with_reducible show eJ _ _ _ _ _ (oF _ _ _)); exact Tz (by first | exact PassesOwn.never | exact PassesOwn.leaving) rfl nd rfl rfl rfl (by first | exact Or.inl rfl | exact Or.inr (Or.inl rfl)) (by first | exact Or.inl rfl | exact Or.inr rfl) (by first | exact Or.inl rfl | exact Or.inr (Or.inl rfl)) (by decide) (by decide)
 | (with_reducible show eJ _ _ _ _ _ (bJ _ _ _)); refine Ky (by first | exact PassesOwn.never | exact PassesOwn.leaving) rfl ?_ ?_ ?_) <;> trivial)
set_option hygiene true
section
variable {B:Bx} (X:XG B.K B.mg) (m:Mg B.mg)
include X m
theorem Vy (h:HF B.K "sign" Om) :Yj B:=dA (N:=["number"]) X h cV fun nd _ _ _ _ _ _ _ hr=>by unfold Na; trivial
theorem Cq (h:HF B.K "divisor" Dg) :Yd B:=dA (N:=["one","other","rest"]) X h cV fun nd _ _ _ _ _ _ _ hr=>by unfold xN; trivial
theorem Br (h:HF B.K "reduced" Jg) (C_divisor:Yd B):Se B:=dA (N:=["numbers","common","number"]) X h cV fun nd _ _ _ _ _ _ _ hr=>by unfold xT; trivial
theorem Cp (h:HF B.K "lowest_way" Yc) (C_reduced:Se B) (C_sign:Yj B):wT B:=dA (N:=["numbers","first"]) X h cV fun nd _ _ _ _ _ _ _ hr=>by unfold wX; trivial
theorem Vo (h:HF B.K "whole_arrow" Tc) :wP B:=dA (N:=["start","end"]) X h cV fun nd _ _ _ _ _ _ _ hr=>by unfold wR; trivial
theorem Ds (h:HF B.K "normal" Ai) :Mf B:=dA (N:=["arrows","u","v"]) X h cV fun nd _ _ _ _ _ _ _ hr=>by unfold tK; trivial
theorem Nv (h:HF B.K "walls" Oj) (gt_FLAT_WALLS:sN B.K B.mg "FLAT_WALLS" (.tup [.tup [.int 0,.int 1],.tup [.int 1,.int 2],.tup [.int 2,.int 0]])) (gt_SPACE_WALLS:sN B.K B.mg "SPACE_WALLS" (.tup [.tup [.int 1,.int 2,.int 3],.tup [.int 0,.int 3,.int 2],.tup [.int 0,.int 1,.int 3],.tup [.int 0,.int 2,.int 1]])):Yh B:=dA (N:=["piece","order"]) X h cV fun nd _ _ _ _ _ _ _ hr=>by unfold zL; trivial
theorem Mp (h:HF B.K "plane_way" Ld) (C_lowest_way:wT B) (C_normal:Mf B) (C_whole_arrow:wP B):Zc B:=dA (N:=["wall"]) X h cV fun nd _ _ _ _ _ _ _ hr=>by unfold sW; trivial
theorem Cw (h:HF B.K "sides" Pj) :Wh B:=dA (N:=["wall"]) X h cV fun nd _ _ _ _ _ _ _ hr=>by unfold zG; trivial
theorem Rp (h:HF B.K "put_wall" Ae) (C_plane_way:Zc B) (C_sides:Wh B) (C_lowest_way:wT B) (C_whole_arrow:wP B):Sd B:=dA (N:=["marks","wall","number","plane","start","end","line","p","mark","key"]) X h cV fun nd _ _ _ _ _ _ _ hr=>by unfold xI; trivial
theorem A8 (h:HF B.K "same" Cm) (C_walls:Yh B) (C_put_wall:Sd B):Ik B:=dA (N:=["one","other","marks","heap","number","piece","wall"]) X h cV fun nd _ _ _ _ _ _ _ hr=>by unfold zO; trivial
theorem Sz (h:HF B.K "_law_row" Yl) :Ij B:=dA (N:=["_law_script","_law_row_here","_law_k","_law_cell","_law_one","_law_two","_law_three"]) X h cV fun nd _ _ _ _ _ _ _ hr=>by unfold Ka; trivial
theorem Bw (h:HF B.K "_law_take" Bk) :lI B:=dA (N:=["_law_row_here","_law_many","_law_found"]) X h cV fun nd _ _ _ _ _ _ _ hr=>by unfold tU; trivial
theorem Ix (h:HF B.K "_law_gcd" Ol) :Zi B:=dA (N:=["_law_one","_law_other"]) X h cV fun nd _ _ _ _ _ _ _ hr=>by unfold zT; trivial
theorem Er (h:HF B.K "_law_lowest" Lf) (C_wgcd:Zi B):qT B:=dA (N:=["_law_numbers","_law_by","_law_number"]) X h cV fun nd _ _ _ _ _ _ _ hr=>by unfold xL; trivial
theorem Dq (h:HF B.K "_law_upward" Ze) (C_wlowest:qT B):sX B:=dA (N:=["_law_numbers","_law_told","_law_number"]) X h cV fun nd _ _ _ _ _ _ _ hr=>by unfold xM; trivial
theorem Qq (h:HF B.K "_law_joined" Ue) (C_wlowest:qT B):Qe B:=dA (N:=["_law_p","_law_q","_law_way","_law_far"]) X h cV fun nd _ _ _ _ _ _ _ hr=>by unfold xP; trivial
theorem Lx (h:HF B.K "_law_gap" El) :tT B:=dA (N:=["_law_p","_law_q"]) X h cV fun nd _ _ _ _ _ _ _ hr=>by unfold zW; trivial
theorem Xr (h:HF B.K "_law_cross" Oh) :qZ B:=dA (N:=["_law_u","_law_v","_law_x","_law_y","_law_z"]) X h cV fun nd _ _ _ _ _ _ _ hr=>by unfold tR; trivial
theorem Gx (h:HF B.K "_law_dot" Ql) :zI B:=dA (N:=["_law_u","_law_v"]) X h cV fun nd _ _ _ _ _ _ _ hr=>by unfold zZ; trivial
theorem Uv (h:HF B.K "_law_turn" Uj) (C_wdot:zI B) (C_wcross:qZ B):yO B:=dA (N:=["_law_ways"]) X h cV fun nd _ _ _ _ _ _ _ hr=>by unfold pJ; trivial
theorem Zw (h:HF B.K "_law_det" Yk) (C_wturn:yO B) (C_wgap:tT B):Sk B:=dA (N:=["_law_points"]) X h cV fun nd _ _ _ _ _ _ _ hr=>by unfold uO; trivial
theorem Op (h:HF B.K "_law_simplex" Je) (C_wdet:Sk B):sU B:=dA (N:=["_law_points","_law_told"]) X h cV fun nd _ _ _ _ _ _ _ hr=>by unfold sZ; trivial
theorem Yo (h:HF B.K "_law_flat_line" Dd) (C_wupward:sX B) (C_wcross:qZ B):Wc B:=dA (N:=["_law_p","_law_q"]) X h cV fun nd _ _ _ _ _ _ _ hr=>by unfold wV; trivial
theorem Xo (h:HF B.K "_law_space_line" Xc) (C_wupward:sX B) (C_wgap:tT B) (C_wcross:qZ B):Rc B:=dA (N:=["_law_p","_law_q"]) X h cV fun nd _ _ _ _ _ _ _ hr=>by unfold wS; trivial
theorem Ks (h:HF B.K "_law_plane" Mi) (C_wcross:qZ B) (C_wgap:tT B) (C_wupward:sX B) (C_wdot:zI B):Jf B:=dA (N:=["_law_p","_law_q","_law_r","_law_out"]) X h cV fun nd _ _ _ _ _ _ _ hr=>by unfold yC; trivial
theorem Ls (h:HF B.K "_law_shuts" Rh) :Nf B:=dA (N:=["_law_points","_law_p","_law_q","_law_r","_law_s"]) X h cV fun nd _ _ _ _ _ _ _ hr=>by unfold yM; trivial
theorem Zx (h:HF B.K "_law_put" Jl) :Gk B:=dA (N:=["_law_table","_law_key","_law_number"]) X h cV fun nd _ _ _ _ _ _ _ hr=>by unfold Ha; trivial
theorem Jt (h:HF B.K "_law_mark" Yi) (C_wflat_line:Wc B) (C_wput:Gk B) (C_wspace_line:Rc B) (C_wshuts:Nf B) (C_wplane:Jf B):Kh B:=dA (N:=["_law_table","_law_points","_law_number","_law_k","_law_p","_law_q","_law_line","_law_lines","_law_m","_law_shut","_law_flat"]) X h cV fun nd _ _ _ _ _ _ _ hr=>by unfold tV; trivial
theorem Nt (h:HF B.K "_law_same" Ui) (C_wmark:Kh B):Fh B:=dA (N:=["_law_one","_law_other","_law_table","_law_points"]) X h cV fun nd _ _ _ _ _ _ _ hr=>by unfold zE; trivial
theorem Ft (h:HF B.K "_law_gone" Oi) (C_wsimplex:sU B) (C_wjoined:Qe B):Og B:=dA (N:=["_law_points","_law_way","_law_far"]) X h cV fun nd _ _ _ _ _ _ _ hr=>by unfold yZ; trivial
theorem Lp (h:HF B.K "_law_raw_turn" Pd) (C_wturn:yO B):Fd B:=dA (N:=["_law_corners"]) X h cV fun nd _ _ _ _ _ _ _ hr=>by unfold sV; trivial
theorem Mx (h:HF B.K "_law_raw" Ll) (C_wtake:lI B) (C_wraw_turn:Fd B):Ti B:=dA (N:=["_law_row_here","_law_dims","_law_wide","_law_corners","_law_k"]) X h cV fun nd _ _ _ _ _ _ _ hr=>by unfold Ca; trivial
theorem Ht (h:HF B.K "_law_kuhn" Fj) (C_wtake:lI B):Vh B:=mkL (N:=["_law_row_here","_law_rest","_law_corner","_law_corners","_law_k","_law_m"]) X h cV fun nd _ _ _ _ _ _ _ hr=>by unfold tW; trivial
theorem Jp (h:HF B.K "_law_raw_heap" Qd) (C_wtake:lI B) (C_wraw:Ti B) (C_wkuhn:Vh B):wW B:=dA (N:=["_law_row_here","_law_dims","_law_many","_law_heap","_law_k","_law_kind"]) X h cV fun nd _ _ _ _ _ _ _ hr=>by unfold xB; trivial
theorem Mu (h:HF B.K "_law_spot" Hj) (C_wlowest:qT B):Vg B:=dA (N:=["_law_corner","_law_stretch","_law_under","_law_part","_law_far"]) X h cV fun nd _ _ _ _ _ _ _ hr=>by unfold uA; trivial
theorem Yp (h:HF B.K "_law_handed" Uf) (C_wtake:lI B):Oe B:=dA (N:=["_law_row_here","_law_rows"]) X h cV fun nd _ _ _ _ _ _ _ hr=>by unfold tD; trivial
theorem Ir (h:HF B.K "_law_split" Uh) (C_wtake:lI B) (C_wlowest:qT B) (C_wsimplex:sU B):Hg B:=dA (N:=["_law_row_here","_law_points","_law_i","_law_j","_law_u","_law_v","_law_p","_law_q","_law_far","_law_middle","_law_one","_law_other"]) X h cV fun nd _ _ _ _ _ _ _ hr=>by unfold yJ; trivial
theorem Nq (h:HF B.K "_law_parted" Vf) (C_wtake:lI B) (C_wsplit:Hg B):Wd B:=dA (N:=["_law_row_here","_law_heap","_law_left","_law_points","_law_told"]) X h cV fun nd _ _ _ _ _ _ _ hr=>by unfold xJ; trivial
theorem At (h:HF B.K "_law_plain" Ni) (C_wsimplex:sU B) (C_wspot:Vg B):xK B:=dA (N:=["_law_raw_here","_law_dims","_law_one"]) X h cV fun nd _ _ _ _ _ _ _ hr=>by unfold yI; trivial
theorem Gq (h:HF B.K "_law_second" We) (C_wtake:lI B) (C_wplain:xK B) (C_wraw_heap:wW B) (C_wgone:Og B) (C_wparted:Wd B):Ge B:=dA (N:=["_law_row_here","_law_heap","_law_dims","_law_way","_law_at","_law_far"]) X h cV fun nd _ _ _ _ _ _ _ hr=>by unfold xX; trivial
theorem G3 {f:Addr} {fd:FuncData} (F:jQ B.K "law" "law" nA f fd) (C_wrow:Ij B) (C_wtake:lI B) (C_wplain:xK B) (C_wraw_heap:wW B) (C_wsecond:Ge B) (C_same:Ik B) (C_whanded:Oe B) (C_wsame:Fh B):fR B.P B.w B.K B.mg B.base fB 8 f fd ["_law_script"] (lY B.K B.cl Kb):=mkR (N:=["_law_script","_law_row_here","_law_dims","_law_heap","_law_other","_law_more","_law_found"]) F cV fun nd _ _ _ _ _ _ _ hr=>by unfold Ua; trivial
end
def EC:=And.intro @gY.eq_1 (And.intro @aH.eq_1 (And.intro @bZ.eq_1 (And.intro @bE.eq_1 (And.intro @aaA.eq_1 (And.intro @iZ.eq_1 (And.intro @nI.eq_1 (And.intro @rW.eq_1 (And.intro @Z7.eq_1 (And.intro @wC.eq_1 (And.intro @aC.eq_1 (And.intro @cD.eq_1 (And.intro @mR.eq_1 (And.intro @mN.eq_1 (And.intro @aB.eq_1 (And.intro @aA.eq_1 (And.intro @mC.eq_1 (And.intro @aD.eq_1 (And.intro @bK.bind.eq_1 (And.intro @bK.bind.eq_2 (And.intro @bK.bind.eq_3 (And.intro @rZ.eq_1 (And.intro @jZ.eq_1 (And.intro @mX.eq_1 (And.intro @Ab.eq_1 (And.intro @fI.eq_1 (And.intro @fI.eq_2 (And.intro @rd.eq_1 (And.intro @rd.eq_2 (And.intro @kS.eq_1 (And.intro @kS.eq_2 (And.intro @kS.eq_3 (And.intro @gO.eq_1 (And.intro @gO.eq_2 (And.intro @cF.eq_1 (And.intro @cF.eq_2 (And.intro @cF.eq_3 (And.intro @cT.eq_1 (And.intro @dR.eq_1 (And.intro @cK.eq_1 (And.intro @cK.eq_2 (And.intro @oI.eq_1 (And.intro @oI.eq_2 (And.intro @jO.eq_1 (And.intro @jO.eq_2 (And.intro @bX.of.eq_1 (And.intro @bX.of.eq_2 (And.intro @bX.of.eq_3 (And.intro @bG.eq_1 (And.intro @mW.eq_1 (And.intro @cY.eq_1 (And.intro @cS.eq_1 (And.intro @aK.eq_1 (And.intro @jW.eq_1 (And.intro @jW.eq_2 (And.intro @jW.eq_3 (And.intro @jW.eq_4 (And.intro @kR.eq_1 (And.intro @kR.eq_2 (And.intro @aJ.eq_1 (And.intro @O4.eq_1 (And.intro @pO.eq_1 (And.intro @oH.eq_1 (And.intro @fH.eq_1 (And.intro @fH.eq_2 (And.intro @jG.eq_1 (And.intro @jG.eq_2 (And.intro @bT.eq_1 (And.intro @kG.eq_1 (And.intro @frz.eq_1 (And.intro @frz.eq_2 (And.intro @oB.eq_1 @oB.eq_2)))))))))))))))))))))))))))))))))))))))))))))))))))))))))))))))))))))))
theorem Jw (S:aI) (k:Nat) (o:SO):(S.set k o).take S.length=S.set k o:=List.take_of_length_le (by simp)
def dY (S:aI) (k:Nat) (ns:List Int):Prop:=S[k]?=some (.lst (ns.map .int))
theorem dY.lt {S:aI} {k:Nat} {ns:List Int} (h:dY S k ns):k < S.length:=(List.getElem?_eq_some_iff.mp h).1
theorem dY.set {S:aI} {k:Nat} {ns:List Int} (h:dY S k ns) (ms:List Int):dY (S.set k (.lst (ms.map .int))) k ms:=List.getElem?_set_self h.lt
theorem Fe {r:bR} {k:Nat} {m:AV}:∀ (ns:List Int) (S:aI),dY S k ns→∃ n ns',dL (iZ (bE (aC eI (mR cF (aB (aA 0) aD)) (mC (.int 0)))) (bE (aC bT (aC aE (aA 0) (mC (.int 0))) (mC (.int 0))))) (cS (kC (aA 0) (aB (mC (.int 0)) aD))) n (some (.ref k) :: some m :: r) S=.nx (some (.ref k) :: some m :: r) (S.set k (.lst (ns'.map .int)))∧ns'.length≤ns.length∧(ns'=[]∨∃ i t,ns'=i :: t∧i≠0)
 | [],S,h=>by
  refine ⟨1,[],?_,Nat.le_refl _,.inl rfl⟩;have h':S[k]?=some (.lst []):=h;have e:S.set k (.lst (([]:List Int).map .int))=S:=List.ext_getElem? fun i=>by
   by_cases q:k=i
   ·subst q; rw [List.getElem?_set_self h.lt,h']; rfl
   ·rw [List.getElem?_set_ne q]
  rw [e];simp [dL,iZ,bE,aC,mR,aB,aA,mC,aD,bK.bind,mX,fI,rd,h',gO,cF,jZ,eI,i2,jO,bX.of]
 | i :: t,S,h=>by
  have h':S[k]?=some (.lst (.int i :: t.map .int)):=h
  by_cases hi:i=0
  ·subst hi
   have hr:dY (S.set k (.lst (t.map .int))) k t:=h.set t;obtain ⟨n,ns',e,l,q⟩:=Fe (r:=r) (m:=m) t _ hr;refine ⟨n+1,ns',?_,by simp; omega,q⟩;rw [List.set_set] at e;rw [← e];have hl:(0:Int) < (t.length:Int)+1:=by omega
   simp [dL,iZ,bE,aC,mR,aB,aA,mC,aD,bK.bind,mX,fI,rd,h',gO,cF,jZ,eI,i2,jO,bX.of,aE,aZ,aY,bT,aS,cS,kC,eO,oC,seqIndex?,hl]
  ·refine ⟨1,i :: t,?_,Nat.le_refl _,.inr ⟨i,t,rfl,hi⟩⟩
   have e:S.set k (.lst ((i :: t).map .int))=S:=List.ext_getElem? fun j=>by
    by_cases q:k=j
    ·subst q; rw [List.getElem?_set_self h.lt,h']; rfl
    ·rw [List.getElem?_set_ne q]
   rw [e];have hl:(0:Int) < (t.length:Int)+1:=by omega
   simp [dL,iZ,bE,aC,mR,aB,aA,mC,aD,bK.bind,mX,fI,rd,h',gO,cF,jZ,eI,i2,jO,bX.of,aE,aZ,aY,bT,aS,hl,hi]
theorem gH {S:aI} {k:Nat} {ns:List Int} {m:Int} (h:dY S k ns) (hm:0 < m) (b:Bd 8000 m):∃ (v:Int) (ns':List Int),bU [.ref k,.pv (.int m)] S=.ok (.pv (.int v)) (S.set k (.lst (ns'.map .int)))∧0≤v∧v < m∧ns'.length≤ns.length:=by
 obtain ⟨n,ns',e,l,q⟩:=Fe (r:=[none]) (m:=.pv (.int m)) ns S h;have hr:=h.set ns';have hl1:(S.set k (.lst (ns'.map .int))).length=S.length:=by simp
 have hss:∀ x,(S.set k (.lst (ns'.map .int))).set k x=S.set k x:=fun x=>List.set_set ..;generalize hS1:S.set k (.lst (ns'.map .int))=S1 at e hr hl1 hss;have w:=tH e (by simp);rcases q with rfl | ⟨i,t,rfl,hi⟩
 ·refine ⟨0,[],?_,Int.le_refl 0,hm,Nat.zero_le _⟩
  rw [hS1];have hr':S1[k]?=some (.lst []):=hr;have tk:List.take S.length S1=S1:=List.take_of_length_le (by omega);unfold bU aX tU;simp [gY,aH,w,bZ,bE,aC,mR,aB,aA,mC,aD,bK.bind,mX,fI,rd,hr',gO,cF,jZ,bT,aS,jO,bX.of,bG,jW,kR,tk]
 ·have hr':S1[k]?=some (.lst (.int i :: t.map .int)):=hr
  refine ⟨i.fmod m,i.fdiv m :: t,?_,Int.fmod_nonneg_of_pos i hm,Int.fmod_lt_of_pos i hm,l⟩;rw [← hss];have tk:∀ x,List.take S.length (S1.set k x)=S1.set k x:=fun x=>List.take_of_length_le (by simp; omega);have hl:¬ ((t.length:Int)+1=0):=by omega
  have hq:pS i m:=⟨by omega,b⟩;have hm0:m≠0:=by omega
  unfold bU aX tU;simp [gY,aH,w,bZ,bE,aC,mR,aB,aA,mC,aD,bK.bind,mX,fI,rd,hr',gO,cF,jZ,bT,aS,jO,bX.of,bG,jW,kR,tk,cY,hl,aK,eY,kB,i2,cI,aE,aZ,aY,hm0,hq,jX,eO,mZ]
theorem aO (i j:Int):eI (.int i) (.int j)=some (.bl (decide (j < i))):=rfl
theorem aP (i j:Int):kY (.int i) (.int j)=some (.bl (decide (i < j))):=rfl
theorem aR (i j:Int):qM (.int i) (.int j)=some (.bl (decide (j≤i))):=rfl
theorem aQ (i j:Int):fLe (.int i) (.int j)=some (.bl (decide (i≤j))):=rfl
theorem aN (i j:Int):cR (.int i) (.int j)=some (.int (i - j)):=rfl
theorem pI {i j:Int} (h:pX i j):bA (.int i) (.int j)=some (.int (i*j)):=by
 simp [bA,i2,cI,h]
theorem Qg {i j:Int} (h:pS i j):kB (.int i) (.int j)=some (.int (i.fdiv j)):=by
 simp [kB,i2,cI,h]
theorem lL {i j:Int} (h:j≠0):eY (.int i) (.int j)=some (.int (i.fmod j)):=by
 simp [eY,i2,cI,h]
theorem Yw {i j:Int} (h:vN i j):lX (.int i) (.int j)=some (.int (i ^ j.toNat)):=by
 simp [lX,i2,cI,h]
theorem Dx (n:Int) (S:aI):rP [.pv (.int n)] S=.ok (.pv (.int (sg n))) S:=by
 unfold rP aX Na sg
 by_cases h1:0 < n
 ·simp [gY,aH,bZ,bE,aC,aA,mC,bK.bind,jZ,rd,gO,eI,i2,jO,bX.of,bG,jW,kR,h1]
 ·by_cases h2:n < 0
  ·simp [gY,aH,bZ,bE,aC,aA,mC,bK.bind,jZ,rd,gO,eI,kY,i2,jO,bX.of,bG,jW,kR,h1,h2,cY,cD,rZ,cK]
  ·simp [gY,aH,bZ,bE,aC,aA,mC,bK.bind,jZ,rd,gO,eI,kY,i2,jO,bX.of,bG,jW,kR,h1,h2,cY,cD,rZ,cK]
theorem Vc (S:aI):∀ (m:Nat) (a b:Int) (x:Option AV),b.natAbs≤m→∃ (n:Nat) (g:Int) (x':Option AV),dL (bE (aC kG (aA 1) (mC (.int 0)))) (aH (aK 2 (aC eY (aA 0) (aA 1))) (aH (aK 0 (aA 1)) (aK 1 (aA 2)))) n [some (.pv (.int a)),some (.pv (.int b)),x] S=.nx [some (.pv (.int g)),some (.pv (.int 0)),x'] S∧g.natAbs=Int.gcd a b
 | 0,a,b,x,h=>by
  have hb:b=0:=by omega
  subst hb;refine ⟨1,a,x,?_,by simp⟩;simp [EC,dL,aE,aZ,aY,aS,aO,aP,aR,aQ,aF,aN]
 | m+1,a,b,x,h=>by
  by_cases hb:b=0
  ·subst hb
   refine ⟨1,a,x,?_,by simp⟩;simp [EC,dL,aE,aZ,aY,aS,aO,aP,aR,aQ,aF,aN]
  ·have hl:=Fg a hb
   obtain ⟨n,g,x',e,q⟩:=Vc S m b (a.fmod b) (some (.pv (.int (a.fmod b)))) (by omega);refine ⟨n+1,g,x',?_,by rw [q,Nh]⟩;rw [← e];simp [EC,dL,aE,aZ,aY,aS,aO,aP,aR,aQ,aF,aN,lL hb,hb]
theorem Cr (a b:Int) (S:aI):rA [.pv (.int a),.pv (.int b)] S=.ok (.pv (.int (Int.gcd a b:Nat))) S:=by
 obtain ⟨n,g,x',e,q⟩:=Vc S b.natAbs a b none (Nat.le_refl _);have w:=tH e (by simp);unfold rA aX xN;have hg:(if g < 0 then -g else g)=((Int.gcd a b:Nat):Int):=by rw [← q]; exact Ia g
 simp [EC,aE,aZ,aY,aS,aO,aP,aR,aQ,aF,aN,w,hg]
theorem Xf (S:aI):∀ (m:Nat) (a b:Int),0≤a→0≤b→b.natAbs≤m→∃ (n:Nat),dL (bE (aC eI (aA 1) (mC (.int 0)))) (sL 0 1 (aB (aA 1) (aB (aC eY (aA 0) (aA 1)) aD))) n [some (.pv (.int a)),some (.pv (.int b))] S=.nx [some (.pv (.int (Int.gcd a b:Nat))),some (.pv (.int 0))] S
 | 0,a,b,ha,hb,h=>by
  have hb:b=0:=by omega
  subst hb;have ea:((Int.gcd a 0:Nat):Int)=a:=by simp; omega
  refine ⟨1,?_⟩;rw [ea];simp [EC,dL,aE,aZ,aY,aS,aO,aP,aR,aQ,aF,aN]
 | m+1,a,b,ha,hb,h=>by
  by_cases h0:b=0
  ·subst h0
   have ea:((Int.gcd a 0:Nat):Int)=a:=by simp; omega
   refine ⟨1,?_⟩;rw [ea];simp [EC,dL,aE,aZ,aY,aS,aO,aP,aR,aQ,aF,aN]
  ·have hl:=Fg a h0
   have hp:0 < b:=by omega
   obtain ⟨n,e⟩:=Xf S m b (a.fmod b) hb (Int.fmod_nonneg_of_pos a hp) (by omega);refine ⟨n+1,?_⟩;rw [← Nh,← e];simp [EC,dL,aE,aZ,aY,aS,aO,aP,aR,aQ,aF,aN,lL h0,hp,sL]
theorem E2 (a b:Int) (S:aI):rQ [.pv (.int a),.pv (.int b)] S=.ok (.pv (.int (Int.gcd a b:Nat))) S:=by
 have ha:0≤(if a < 0 then -a else a):=by split <;> omega
 have hb:0≤(if b < 0 then -b else b):=by split <;> omega
 obtain ⟨n,e⟩:=Xf S _ _ _ ha hb (Nat.le_refl _);have w:=tH e (by simp);have eg:Int.gcd (if a < 0 then -a else a) (if b < 0 then -b else b)=Int.gcd a b:=by
  rw [Ia,Ia];simp [Int.gcd]
 rw [eg] at w;unfold rQ aX zT;simp [EC,aE,aZ,aY,aS,aO,aP,aR,aQ,aF,aN,w]
theorem Ng (S:aI) (v2:Option AV):∀ (ns:List Int) (g:Int) (a:AV),∃ v',dM [] (gN 2) (aK 1 (aJ rQ [] (aB (aA 1) (aB (aA 2) aD)))) (ns.map .int) [some a,some (.pv (.int g)),v2] S=.nx [some a,some (.pv (.int (gl ns g))),v'] S
 | [],g,a=>⟨v2,fG⟩
 | n :: ns,g,a=>by
  obtain ⟨v',e⟩:=Ng S (some (.pv (.int n))) ns (Int.gcd g n:Nat) a;refine ⟨v',?_⟩;show dM [] _ _ (.int n :: ns.map .int) _ S=_;rw [eM];simp [EC,gN,aE,aZ,aY,aS,aO,aP,aR,aQ,aF,aN,E2];exact e
theorem yP (S:aI) (g:Int) (hg:g≠0) (b:Bd 8000 g):∀ (ns:List Int) (x:Option AV),cE [] (gN 0) (aC kB (aA 0) (aA 1)) (ns.map .int) [x,some (.pv (.int g))] S=.ok ((ns.map fun n=>n.fdiv g).map .int) S
 | [],x=>eA
 | n :: ns,x=>by
  have ih:=yP S g hg b ns (some (.pv (.int n)));show cE [] _ _ (.int n :: ns.map .int) _ S=_;rw [eD];simp [EC,gN,aE,aZ,aY,aS,aO,aP,aR,aQ,aF,aN,Qg (show pS n g from ⟨hg,b⟩),ih]
theorem tJ (ns:List Int) (S:aI) (hb:∀ n∈ns,Bd 8000 n):jR [.pv (.lst (ns.map .int))] S=.ok (.pv (.tup ((low ns).map .int))) S:=by
 obtain ⟨v',e⟩:=Ng S none ns 0 (.pv (.lst (ns.map .int)));unfold jR aX xL
 by_cases h:gl ns 0=0
 ·have el:low ns=ns:=by unfold low; rw [if_pos h]
  simp [EC,aE,aZ,aY,aS,aO,aP,aR,aQ,aF,aN,bJ,bH,cN,e,h,el]
 ·have el:low ns=ns.map fun n=>n.fdiv (gl ns 0):=by
   unfold low;rw [if_neg h];exact List.map_congr_left fun n hn=>(Int.fdiv_eq_ediv_of_dvd ((iX ns 0).2 n hn)).symm
  have bg:Bd 8000 (gl ns 0):=Bb (Bd.of (n:=0) (by simp) (Nat.two_pow_pos 8000)) hb;have ec:=yP S (gl ns 0) h bg ns none;simp [EC,aE,aZ,aY,aS,aO,aP,aR,aQ,aF,aN,bJ,bH,cN,e,h,el,bB,cO,ec]
theorem lT (i:Int) {j:Int} (h1:-(2 ^ 64) < j) (h2:j < 2 ^ 64):bA (.int i) (.int j)=some (.int (i*j)):=pI (.inl (.inr ⟨h1,h2⟩))
theorem Qo:lX (.int 10) (.int 18)=some (.int 1000000000000000000):=Yw (i:=10) (j:=18) ⟨by decide,by decide,by decide⟩
theorem yR {k:Nat} {a:AV}:∀ (cs:List Int) (n:Nat) (acc:List Int) (S:aI) (v2 v3 v4 v5 v6:Option AV),dY S k acc→acc.length+cs.length≤63→n+cs.length≤63→∃ (acc':List Int) (w2 w3 w4 w5 w6:Option AV),dM [] (gT 2 (cJ (gN 2) (cJ (gN 3) eC))) ((bZ (bE (aC qM (aA 3) (aC lX (mC (.int 10)) (mC (.int 18))))) (cS (dQ (aA 1) (aB (aC cR (aA 3) (aC lX (mC (.int 10)) (mC (.int 18)))) aD))) (aH (aK 4 (aC eY (aC bA (aC aF (aC aF (aC aF (aA 3) (aC bA (aC bA (mC (.int 7)) (aA 2)) (aA 2))) (aC bA (mC (.int 13)) (aA 2))) (mC (.int 5))) (mC (.int 48271))) (mC (.int 2147483647))))
 (aH (aK 5 (aC eY (aC bA (aC aF (aC aF (aC aF (aA 3) (aC bA (aC bA (mC (.int 11)) (aA 2)) (aA 2))) (aC bA (mC (.int 17)) (aA 2))) (mC (.int 3))) (mC (.int 40692))) (mC (.int 2147483399))))
 (aH (aK 6 (aC eY (aC bA (aC aF (aC aF (aC aF (aA 3) (aC bA (aC bA (mC (.int 5)) (aA 2)) (aA 2))) (aC bA (mC (.int 29)) (aA 2))) (mC (.int 8))) (mC (.int 39373))) (mC (.int 2147483587))))
 (aH (aK 4 (aC eY (aC bA (aA 4) (mC (.int 52021))) (mC (.int 1000000007))))
 (aH (aK 5 (aC eY (aC bA (aA 5) (mC (.int 30011))) (mC (.int 998244353))))
 (aH (aK 6 (aC eY (aC bA (aA 6) (mC (.int 45989))) (mC (.int 1000000009))))
 (cS (dQ (aA 1) (aB (aC aF (aC bA (aC aF (aC bA (aA 4) (mC (.int 998244353))) (aA 5)) (mC (.int 1000000009))) (aA 6)) aD))))))))))) (iH n (cs.map .int)) [some a,some (.ref k),v2,v3,v4,v5,v6] S=.nx [some a,some (.ref k),w2,w3,w4,w5,w6] (S.set k (.lst (acc'.map .int)))∧acc'.length≤63
 | [],n,acc,S,v2,v3,v4,v5,v6,h,hl,_=>by
  refine ⟨acc,v2,v3,v4,v5,v6,?_,by simpa using hl⟩;have e:S.set k (.lst (acc.map .int))=S:=List.ext_getElem? fun j=>by
   by_cases q:k=j
   ·subst q; rw [List.getElem?_set_self h.lt]; exact h.symm
   ·rw [List.getElem?_set_ne q]
  rw [e];exact fG
 | x :: cs,n,acc,S,v2,v3,v4,v5,v6,h,hl,hn=>by
  simp only [List.length_cons] at hl hn;have h':S[k]?=some (.lst (acc.map .int)):=h;have hlen:acc.length < 16777216:=by omega
  have hk1:-(2 ^ 64) < (n:Int):=by omega
  have hk2:(n:Int) < 2 ^ 64:=by omega
  by_cases c:(1000000000000000000:Int)≤x
  ·obtain ⟨acc',w2,w3,w4,w5,w6,e,q⟩:=yR (k:=k) (a:=a) cs (n+1) (acc++[x - 1000000000000000000]) (S.set k (.lst ((acc++[x - 1000000000000000000]).map .int))) (some (.pv (.int n))) (some (.pv (.int x))) v4 v5 v6 (h.set _) (by simp; omega) (by omega)
   refine ⟨acc',w2,w3,w4,w5,w6,?_,q⟩;rw [List.set_set] at e;rw [← e];show dM [] _ _ (.tup [.int n,.int x] :: iH (n+1) (cs.map .int)) _ S=_;rw [eM];simp [EC,gT,cJ,eC,gN,aE,aZ,aY,aS,aO,aP,aR,aQ,aF,aN,Qo,c,dQ,eO,iI,h',hlen]
  ·obtain ⟨acc',w2,w3,w4,w5,w6,e,q⟩:=yR (k:=k) (a:=a) cs (n+1) (acc++[((((x+7*n*n+13*n+5)*48271).fmod 2147483647*52021).fmod 1000000007*998244353+(((x+11*n*n+17*n+3)*40692).fmod 2147483399*30011).fmod 998244353)*1000000009+(((x+5*n*n+29*n+8)*39373).fmod 2147483587*45989).fmod 1000000009]) (S.set k (.lst ((acc++[((((x+7*n*n+13*n+5)*48271).fmod 2147483647*52021).fmod 1000000007*998244353+(((x+11*n*n+17*n+3)*40692).fmod 2147483399*30011).fmod 998244353)*1000000009+(((x+5*n*n+29*n+8)*39373).fmod 2147483587*45989).fmod 1000000009]).map .int))) (some (.pv (.int n))) (some (.pv (.int x))) (some (.pv (.int ((((x+7*n*n+13*n+5)*48271).fmod 2147483647*52021).fmod 1000000007)))) (some (.pv (.int ((((x+11*n*n+17*n+3)*40692).fmod 2147483399*30011).fmod 998244353)))) (some (.pv (.int ((((x+5*n*n+29*n+8)*39373).fmod 2147483587*45989).fmod 1000000009)))) (h.set _) (by simp; omega) (by omega)
   refine ⟨acc',w2,w3,w4,w5,w6,?_,q⟩;rw [List.set_set] at e;rw [← e];show dM [] _ _ (.tup [.int n,.int x] :: iH (n+1) (cs.map .int)) _ S=_;rw [eM];simp [EC,gT,cJ,eC,gN,aE,aZ,aY,aS,aO,aP,aR,aQ,aF,aN,Qo,c,dQ,eO,iI,h',hlen,lT _ hk1 hk2,lT _ (show -(2 ^ 64) < (48271:Int) by decide) (by decide),lT _ (show -(2 ^ 64) < (40692:Int) by decide) (by decide),lT _ (show -(2 ^ 64) < (39373:Int) by decide) (by decide),lT _ (show -(2 ^ 64) < (52021:Int) by decide) (by decide),lT _ (show -(2 ^ 64) < (30011:Int) by decide) (by decide),lT _ (show -(2 ^ 64) < (45989:Int) by decide) (by decide),lT _ (show -(2 ^ 64) < (998244353:Int) by decide) (by decide),lT _ (show -(2 ^ 64) < (1000000009:Int) by decide) (by decide),lL (show (2147483647:Int)≠0 by decide),lL (show (2147483399:Int)≠0 by decide),lL (show (2147483587:Int)≠0 by decide),lL (show (1000000007:Int)≠0 by decide),lL (show (998244353:Int)≠0 by decide),lL (show (1000000009:Int)≠0 by decide)]
theorem N5 (ns:List Int) (S:aI) (h:ns.length≤63):∃ ms:List Int,pP [.pv (.lst (ns.map .int))] S=.ok (.ref S.length) (S++[.lst (ms.map .int)])∧ms.length≤63:=by
 have hr:dY (S++[.lst []]) S.length []:=by unfold dY; simp
 obtain ⟨ms,w2,w3,w4,w5,w6,e,q⟩:=yR (a:=.pv (.lst (ns.map .int))) ns 0 [] (S++[.lst []]) none none none none none hr (by simpa using h) (by simpa using h);have ec:iM (ns.map .int) none (some 63)=ns.map .int:=by
  unfold iM;have e1:HT.sIx (ns.map PV.int).length 0 none=0:=rfl;have e2:HT.sIx (ns.map PV.int).length (ns.map PV.int).length (some 63)=(ns.map PV.int).length:=by
   have:=HT.sIx_nat (ns.map PV.int).length (ns.map PV.int).length 63;rw [show ((63:Nat):Int)=63 from rfl] at this;rw [this,List.length_map];omega
  rw [e1,e2,List.drop_zero,Nat.sub_zero,List.take_length]
 refine ⟨ms,?_,q⟩;have es:(S++[SO.lst []]).set S.length (.lst (ms.map .int))=S++[.lst (ms.map .int)]:=by simp
 rw [es] at e;unfold pP aX Ka;simp [EC,aE,aZ,aY,aS,aO,aP,aR,aQ,aF,aN,bJ,fA,lR,uQ,dF,dH,dE,iG,jD,zU,ec,e]
theorem Az {L:List Int} (h:gl L 0≠0):(low L).map (gl L 0*·)=L:=by
 unfold low;rw [if_neg h,List.map_map]
 conv=>rhs; rw [← List.map_id L]
 refine List.map_congr_left fun n hn=>?_;show gl L 0*(n / gl L 0)=n;exact Int.mul_ediv_cancel' ((iX L 0).2 n hn)
theorem Hx {L:List Int} (h:gl L 0=1):low L=L:=by
 unfold low;rw [h,if_neg (by decide)]
 conv=>rhs; rw [← List.map_id L]
 exact List.map_congr_left fun n _=>Int.ediv_one n
theorem Mh (S:aI) (v2:Option AV):∀ (ns:List Int) (g:Int) (a:AV),∃ v',dM [] (gN 2) (aK 1 (aJ rA [] (aB (aA 1) (aB (aA 2) aD)))) (ns.map .int) [some a,some (.pv (.int g)),v2] S=.nx [some a,some (.pv (.int (gl ns g))),v'] S
 | [],g,a=>⟨v2,fG⟩
 | n :: ns,g,a=>by
  obtain ⟨v',e⟩:=Mh S (some (.pv (.int n))) ns (Int.gcd g n:Nat) a;refine ⟨v',?_⟩;show dM [] _ _ (.int n :: ns.map .int) _ S=_;rw [eM];simp [EC,gN,aE,aZ,aY,aS,aO,aP,aR,aQ,aF,aN,Cr];exact e
theorem Xq (ns:List Int) (S:aI) (hb:∀ n∈ns,Bd 8000 n) (h:gl ns 0≠0):tE [.pv (.lst (ns.map .int))] S=.ok (.pv (.lst ((low ns).map .int))) S:=by
 obtain ⟨v',e⟩:=Mh S none ns 0 (.pv (.lst (ns.map .int)));have el:low ns=ns.map fun n=>n.fdiv (gl ns 0):=by
  unfold low;rw [if_neg h];exact List.map_congr_left fun n hn=>(Int.fdiv_eq_ediv_of_dvd ((iX ns 0).2 n hn)).symm
 have bg:Bd 8000 (gl ns 0):=Bb (Bd.of (n:=0) (by simp) (Nat.two_pow_pos 8000)) hb;have ec:=yP S (gl ns 0) h bg ns none;unfold tE aX xT;simp [EC,aE,aZ,aY,aS,aO,aP,aR,aQ,aF,aN,bJ,bH,cN,e,h,el,bB,cO,ec]
theorem Hh (S:aI) (b:Int):∀ (ns:List Int) (x:Option AV),cE [] (gN 0) (aC bA (aJ rP [] (aB (aA 1) aD)) (aA 0)) (ns.map .int) [x,some (.pv (.int b))] S=.ok ((ns.map (sg b*·)).map .int) S
 | [],x=>eA
 | n :: ns,x=>by
  have ih:=Hh S b ns (some (.pv (.int n)));have hm:bA (.int (sg b)) (.int n)=some (.int (sg b*n)):=pI (.inl (.inl (Rv b)));show cE [] _ _ (.int n :: ns.map .int) _ S=_;rw [eD];simp [EC,gN,aE,aZ,aY,aS,aO,aP,aR,aQ,aF,aN,Dx,hm,ih]
theorem Qu (zs:List Int) (z:Int):iM ((zs++[z]).map .int) none (some (-1))=zs.map .int:=by
 unfold iM;have e1:HT.sIx ((zs++[z]).map PV.int).length 0 none=0:=rfl;have e2:HT.sIx ((zs++[z]).map PV.int).length ((zs++[z]).map PV.int).length (some (-1))=zs.length:=by
  rw [List.length_map,List.length_append];exact Rg zs.length _
 rw [e1,e2];simp
theorem Ss (zs:List Int) (z:Int):¬ (HT.sIx ((zs++[z]).map PV.int).length 0 none=0∧HT.sIx ((zs++[z]).map PV.int).length ((zs++[z]).map PV.int).length (some (-1))=((zs++[z]).map PV.int).length):=by
 rintro ⟨_,e⟩
 have e2:HT.sIx ((zs++[z]).map PV.int).length ((zs++[z]).map PV.int).length (some (-1))=zs.length:=by
  rw [List.length_map,List.length_append];exact Rg zs.length _
 rw [e2,List.length_map,List.length_append] at e;simp at e
theorem Jh (zs:List Int) (z:Int):jD (.tup ((zs++[z]).map .int)) none (some (-1))=some (.tup (zs.map .int)):=by
 unfold jD;dsimp only;rw [if_neg (Ss zs z),Qu]
theorem pA (zs:List Int) (z:Int):aE (.tup ((zs++[z]).map .int)) (.int (-1))=some (.int z):=by
 show aZ ((zs++[z]).map PV.int) (-1)=_;rw [List.map_append];exact Av _ _
theorem gM {m:Int} (h0:0≤m) (h:m < 1024):Bd 8000 m:=Bd.of (n:=1023) (by omega) (Nat.lt_of_lt_of_le (show 1023 < 2 ^ 10 by decide) (Nat.pow_le_pow_right (by decide) (by decide)))
theorem bI (n:Nat) (a b:Int):aS n (.int a) (.int b)=some (a == b):=by cases n <;> rfl
theorem mB {a b:Int} (h:Bd 2000 a) (g:Bd 2000 b):bA (.int a) (.int b)=some (.int (a*b)):=pI (.inr ⟨h.mono (by decide),g.mono (by decide)⟩)
def mv (way:Int) (xs:List Int) (w:Int) (ys:List Int) (v:Int):List Int:=if way=1 then low (sm xs w ys v++[w*v]) else low (sm ys v (xs.map (- ·)) w++[v*w])
theorem uH (zs:List Int) (z:Int) (j:Nat) (h:j < zs.length):aE (.tup ((zs++[z]).map .int)) (.int (j:Nat))=some (.int (zs.getD j 0)):=by
 show aZ ((zs++[z]).map PV.int) (j:Int)=_;refine dS ?_;rw [List.getElem?_map,List.getElem?_append_left h,List.getElem?_eq_getElem h];simp [List.getD,h]
theorem Aj (S:aI) (PL QL:List PV) (xs ys:List Int) (w v way:Int) (hp:aE (.tup PL) (.int (-1))=some (.int w)) (hq:aE (.tup QL) (.int (-1))=some (.int v)) (hpj:∀ j:Nat,j < xs.length→aE (.tup PL) (.int (j:Nat))=some (.int (xs.getD j 0))) (hqj:∀ j:Nat,j < xs.length→aE (.tup QL) (.int (j:Nat))=some (.int (ys.getD j 0)))
  (hway:way=1∨way=-1) (bw:Bd 1000 w) (bv:Bd 1000 v) (hx:∀ j,Bd 1000 (xs.getD j 0)) (hy:∀ j,Bd 1000 (ys.getD j 0)):∀ (js:List Nat) (x:Option AV),(∀ j∈js,j < xs.length) →
  cE [] (gN 0) (aC aF (aC bA (aC bA (aA 1) (aC aE (aA 3) (aA 0))) (aC aE (aA 2) (cD cK (mC (.int 1))))) (aC bA (aC aE (aA 2) (aA 0)) (aC aE (aA 3) (cD cK (mC (.int 1)))))) (js.map fun j=>.int (0+(j:Nat))) [x,some (.pv (.int way)),some (.pv (.tup QL)),some (.pv (.tup PL))] S=.ok ((js.map fun j=>way*xs.getD j 0*v+ys.getD j 0*w).map .int) S
 | [],x,_=>eA
 | j :: js,x,h=>by
  have ih:=Aj S PL QL xs ys w v way hp hq hpj hqj hway bw bv hx hy js (some (.pv (.int (0+(j:Nat))))) fun i hi=>h i (List.mem_cons_of_mem _ hi);have e1:=hpj j (h j List.mem_cons_self);have e2:=hqj j (h j List.mem_cons_self);have b1:Bd 2 way:=by rcases hway with rfl | rfl <;> exact Bd.of (n:=1) (by decide) (by decide)
  have m0:=mB (b1.mono (show 2≤2000 by decide)) ((hx j).mono (show 1000≤2000 by decide));have m1:=mB ((b1.mul (hx j)).mono (show 2+1000≤2000 by decide)) (bv.mono (show 1000≤2000 by decide));have m2:=mB ((hy j).mono (show 1000≤2000 by decide)) (bw.mono (show 1000≤2000 by decide));show cE [] _ _ (.int (0+(j:Nat)) :: js.map fun j=>.int (0+(j:Nat))) _ S=_;rw [eD];simp only [Int.zero_add] at ih ⊢;generalize hX:xs.getD j 0=X at e1 m0 m1;generalize hY:ys.getD j 0=Y at e2 m2;simp [EC,gN,bI,aO,aP,aR,aQ,aF,aN,e1,e2,hp,hq,m0,m1,m2,ih];simp only [List.getD_eq_getElem?_getD] at hX hY;rw [hX,hY]
theorem tX {xs:List Int} {k:Nat} (h:∀ x∈xs,Bd k x) (j:Nat):Bd k (xs.getD j 0):=by
 by_cases hj:j < xs.length
 ·have e:xs.getD j 0=xs[j]:=by simp [List.getD,hj]
  rw [e];exact h _ (List.getElem_mem hj)
 ·have e:xs.getD j 0=0:=by simp [List.getD,hj]
  rw [e];exact Bd.of (n:=0) (by decide) (Nat.two_pow_pos k)
theorem Bf {xs ys:List Int} (hl:xs.length=ys.length) (f:Int→Int→Int):(List.range xs.length).map (fun j=>f (xs.getD j 0) (ys.getD j 0))=List.zipWith f xs ys:=by
 refine List.ext_getElem (by simp [hl]) fun i h1 h2=>?_;have hi:i < xs.length:=by simpa using h1
 have hj:i < ys.length:=by omega
 simp [List.getD,hi,hj]
theorem Us {xs ys:List Int} {w v way:Int} (S:aI) (hl:xs.length=ys.length) (h9:xs.length≤9) (hway:way=1∨way=-1) (hx:∀ x∈xs,Bd 1000 x) (hy:∀ y∈ys,Bd 1000 y) (bw:Bd 1000 w) (bv:Bd 1000 v) :
  nS [.pv (.tup ((xs++[w]).map .int)),.pv (.tup ((ys++[v]).map .int)),.pv (.int way)] S=.ok (.pv (.tup ((low (List.zipWith (fun x y=>way*x*v+y*w) xs ys++[w*v])).map .int))) S:=by
 have ip:=pA xs w;have iq:=pA ys v;have ec:=Aj S _ _ xs ys w v way ip iq (fun j h=>uH xs w j h) (fun j h=>uH ys v j (by omega)) hway bw bv (tX hx) (tX hy) (List.range xs.length) none fun j hj=>by simpa using hj
 have er:(List.range xs.length).map (fun j=>way*xs.getD j 0*v+ys.getD j 0*w)=List.zipWith (fun x y=>way*x*v+y*w) xs ys:=Bf hl fun x y=>way*x*v+y*w;rw [er] at ec;have mm:=mB (bw.mono (show 1000≤2000 by decide)) (bv.mono (show 1000≤2000 by decide));have b1:Bd 2 way:=by rcases hway with rfl | rfl <;> exact Bd.of (n:=1) (by decide) (by decide)
 have el:=tJ (List.zipWith (fun x y=>way*x*v+y*w) xs ys++[w*v]) S (fun n hn=>by
  rcases List.mem_append.mp hn with z | z
  ·obtain ⟨i,hi,e⟩:=List.getElem_of_mem z
   rw [List.getElem_zipWith] at e;rw [← e];exact ((((b1.mul (hx _ (List.getElem_mem _))).mul bv).mono (show 2+1000+1000≤3000 by decide)).add (((hy _ (List.getElem_mem _)).mul bw).mono (show 1000+1000≤3000 by decide))).mono (by decide)
  ·have:n=w*v:=by simpa using z
   rw [this];exact (bw.mul bv).mono (by decide))
 have hlen:((xs++[w]).map PV.int).length=xs.length+1:=by simp
 have hz:xs.length+1≤16777216:=by omega
 have hr:fU [.pv (.int (((xs.length+1:Nat):Int) - 1))] S=.ok ((List.range xs.length).map fun j=>.int (0+(j:Nat)),[]) S:=by
  unfold fU;dsimp only;rw [if_pos ⟨by omega,by omega⟩];have:(((xs.length+1:Nat):Int) - 1).toNat=xs.length:=by omega
  rw [this];rfl
 have hzl:(List.zipWith (fun x y=>way*x*v+y*w) xs ys).length+1≤16777216:=by rw [List.length_zipWith]; omega
 simp only [List.map_append,List.map_cons,List.map_nil] at el;generalize hZ:(List.zipWith (fun x y=>way*x*v+y*w) xs ys).map PV.int=ZL at ec el;have hzl2:ZL.length+1≤16777216:=by rw [← hZ,List.length_map]; exact hzl
 generalize (List.range xs.length).map (fun j=>PV.int (0+(j:Nat)))=RL at ec hr;generalize hP:(xs++[w]).map PV.int=PL at ip ec hlen;generalize (ys++[v]).map PV.int=QL at iq ec;unfold nS aX xP;have hr2:=hr;rw [← hlen] at hr2;simp [EC,bI,aO,aP,aR,aQ,aF,aN,bB,bO,hr2,cO,ec,ip,iq,mm,hzl2,el]
theorem Ff {way:Int} (h:way=1∨way=-1) (xs:List Int) (w:Int) (ys:List Int) (v:Int):low (List.zipWith (fun x y=>way*x*v+y*w) xs ys++[w*v])=mv way xs w ys v:=by
 unfold mv;rcases h with rfl | rfl
 ·rw [if_pos rfl,Iq]
 ·rw [if_neg (by decide),Np,Int.mul_comm w v]
structure Pq (n k:Nat) (xs:List Int) (w:Int):Prop where
 len:xs.length=n
 pos:0 < w
 low:low (xs++[w])=xs++[w]
 bx:∀ x∈xs,Bd k x
 bw:Bd k w
def Vl (n:Nat) (xs:List Int) (w:Int) (N:Nat→Int) (D:Int):Prop:=∀ j,j < n→xs.getD j 0*D=N j*w
theorem Vl.self (n:Nat) (xs:List Int) (w:Int):Vl n xs w (fun j=>xs.getD j 0) w:=fun _ _=>rfl
theorem uM {a b c:Int} (h:0 < c) (e:a*c=b*c):a=b:=Int.eq_of_mul_eq_mul_right (by omega) e
theorem Ux {xs ys:List Int} {f:Int→Int→Int} {j:Nat} (h1:j < xs.length) (h2:j < ys.length):(List.zipWith f xs ys).getD j 0=f (xs.getD j 0) (ys.getD j 0):=by
 have:j < (List.zipWith f xs ys).length:=by rw [List.length_zipWith]; omega
 simp only [List.getD,List.getElem?_eq_getElem this,List.getElem?_eq_getElem h1,List.getElem?_eq_getElem h2,Option.getD_some,List.getElem_zipWith]
theorem T9 {n k l:Nat} {way:Int} {xs ys:List Int} {w v:Int} (hway:way=1∨way=-1) (P:Pq n k xs w) (Q:Pq n l ys v):∃ (zs:List Int) (z:Int),mv way xs w ys v=zs++[z]∧Pq n (k+l+1) zs z ∧
  ∀ (N M:Nat→Int) (D E:Int),Vl n xs w N D→Vl n ys v M E→0 < D→0 < E→Vl n zs z (fun j=>way*N j*E+M j*D) (D*E):=by
 rw [← Ff hway];have hb:=Int.mul_pos P.pos Q.pos;have hl:(List.zipWith (fun x y=>way*x*v+y*w) xs ys).length=n:=by rw [List.length_zipWith,P.len,Q.len]; omega
 obtain ⟨zs,z,g,e,hg,hz,g1,g2,hzl⟩:=Ma (List.zipWith (fun x y=>way*x*v+y*w) xs ys) hb;have hlow:=Gj (List.zipWith (fun x y=>way*x*v+y*w) xs ys) hb;have hbd:=Kl (k:=k+l+1) (ns:=List.zipWith (fun x y=>way*x*v+y*w) xs ys++[w*v]) fun m hm=>by
  rcases List.mem_append.mp hm with y | y
  ·obtain ⟨i,hi,e⟩:=List.getElem_of_mem y
   rw [List.getElem_zipWith] at e;rw [← e];have b1:=(P.bx _ (List.getElem_mem (l:=xs) (n:=i) (by rw [List.length_zipWith] at hi; omega))).mul Q.bw;have b2:=(Q.bx _ (List.getElem_mem (l:=ys) (n:=i) (by rw [List.length_zipWith] at hi; omega))).mul P.bw;have b3:Bd (k+l) (way*xs[i]'(by rw [List.length_zipWith] at hi; omega)*v):=by
    rcases hway with rfl | rfl
    ·rw [Int.one_mul]; exact b1
    ·have:(-1:Int)*xs[i]'(by rw [List.length_zipWith] at hi; omega)*v=-(xs[i]'(by rw [List.length_zipWith] at hi; omega)*v):=by rw [Int.neg_mul,Int.one_mul,Int.neg_mul]
     rw [this]; exact b1.neg
   exact b3.add (b2.mono (by omega))
  ·have:m=w*v:=by simpa using y
   rw [this];exact (P.bw.mul Q.bw).mono (by omega)
 rw [e] at hbd hlow;refine ⟨zs,z,e,⟨hzl.trans hl,hz,hlow,fun x hx=>hbd x (List.mem_append_left _ hx),hbd z (nT zs z)⟩,fun N M D E a b hD hE j hj=>?_⟩;have h1:(List.zipWith (fun x y=>way*x*v+y*w) xs ys).getD j 0=g*zs.getD j 0:=by
  rw [g1];have:j < zs.length:=by rw [hzl,hl]; exact hj
  simp [List.getD,this]
 rw [Ux (by rw [P.len]; exact hj) (by rw [Q.len]; exact hj)] at h1;have a1:=a j hj;have b1:=b j hj;generalize xs.getD j 0=X at a1 h1;generalize ys.getD j 0=Y at b1 h1;generalize zs.getD j 0=Z at h1 ⊢;show Z*(D*E)=(way*N j*E+M j*D)*z;generalize M j=B,N j=A at *;refine uM (c:=g*(w*v)) (Int.mul_pos hg hb) ?_;have p1:=P.pos;have p2:=Q.pos;have k1:(way*X*v+Y*w)*(D*E)=(way*A*E+B*D)*(w*v):=by grind
 have k2:Z*(D*E)*(g*(w*v))=(way*X*v+Y*w)*(D*E)*(w*v):=by rw [h1]; grind
 rw [k2,k1,g2];grind
theorem Pq.mono {n k l:Nat} {xs:List Int} {w:Int} (P:Pq n k xs w) (h:k≤l):Pq n l xs w:=⟨P.len,P.pos,P.low,fun x hx=>(P.bx x hx).mono h,P.bw.mono h⟩
theorem Qz {n k l:Nat} {way:Int} {xs ys:List Int} {w v:Int} (S:aI) (hn:n=2∨n=3) (hway:way=1∨way=-1) (P:Pq n k xs w) (Q:Pq n l ys v) (hk:k≤1000) (hl:l≤1000):nS [.pv (.tup ((xs++[w]).map .int)),.pv (.tup ((ys++[v]).map .int)),.pv (.int way)] S=.ok (.pv (.tup ((mv way xs w ys v).map .int))) S:=by
 have e:=Us (way:=way) S (P.len.trans Q.len.symm) (by rw [P.len]; omega) hway (fun x hx=>(P.bx x hx).mono hk) (fun x hx=>(Q.bx x hx).mono hl) (P.bw.mono hk) (Q.bw.mono hl);rw [Ff hway] at e;exact e
theorem hrg (S:aI):fU [.pv (.int 3)] S=.ok ([.int 0,.int 1,.int 2],[]) S:=by
 have h:cX 0 (3:Int).toNat=[.int 0,.int 1,.int 2]:=rfl;rw [← h];unfold fU;dsimp only;rw [if_pos ⟨by omega,by omega⟩]
theorem xF:∀ is:List Int,jI (is.map .int)=some is
 | []=>rfl
 | i :: is=>by
  have ih:=xF is;show (match jI (is.map .int) with | some bs=>some (i :: bs) | none=>none)=_
  rw [ih]
theorem Bs (is:List Int):qE [.lst (is.map .int)]=some (.int is.sum):=by
 simp only [qE,xF,Option.map_some]
def wa (xs:List Int) (w:Int) (ys:List Int) (v:Int):List Int:=List.zipWith (fun x y=>y*w - x*v) xs ys
theorem Wj (S:aI) (PL QL:List PV) (w v:Int) (hp:aE (.tup PL) (.int (-1))=some (.int w)) (hq:aE (.tup QL) (.int (-1))=some (.int v)) (bw:Bd 2000 w) (bv:Bd 2000 v):∀ (xs ys:List Int) (x y:Option AV),xs.length=ys.length→(∀ x∈xs,Bd 2000 x)→(∀ y∈ys,Bd 2000 y) →
  cE [] (gT 2 (cJ (gN 0) (cJ (gN 1) eC))) (aC cR (aC bA (aA 1) (aC aE (aA 2) (cD cK (mC (.int 1))))) (aC bA (aA 0) (aC aE (aA 3) (cD cK (mC (.int 1)))))) (fS (xs.map .int) (ys.map .int)) [x,y,some (.pv (.tup PL)),some (.pv (.tup QL))] S=.ok ((wa xs w ys v).map .int) S
 | [],ys,x,y,hl,_,_=>by
  have:ys=[]:=List.length_eq_zero_iff.mp hl.symm;subst this;exact eA
 | a :: xs,[],x,y,hl,_,_=>by cases hl
 | a :: xs,b :: ys,x,y,hl,hx,hy=>by
  have ih:=Wj S PL QL w v hp hq bw bv xs ys (some (.pv (.int a))) (some (.pv (.int b))) (by simpa using hl) (fun m hm=>hx m (List.mem_cons_of_mem _ hm)) (fun m hm=>hy m (List.mem_cons_of_mem _ hm));have m1:=mB (hx a List.mem_cons_self) bv;have m2:=mB (hy b List.mem_cons_self) bw;show cE [] _ _ (.tup [.int a,.int b] :: fS (xs.map .int) (ys.map .int)) _ S=_;rw [eD];simp [gT,cJ,eC,gN,EC,bI,aO,aP,aR,aQ,aF,aN,hp,hq,m1,m2,ih,wa]
theorem Bi {xs ys:List Int} {w v:Int} (S:aI) (hl:xs.length=ys.length) (hx:∀ x∈xs,Bd 2000 x) (hy:∀ y∈ys,Bd 2000 y) (bw:Bd 2000 w) (bv:Bd 2000 v) :
  lB [.pv (.tup ((xs++[w]).map .int)),.pv (.tup ((ys++[v]).map .int))] S=.ok (.pv (.lst ((wa xs w ys v).map .int))) S:=by
 have ip:=pA xs w;have iq:=pA ys v;have sp:=Jh xs w;have sq:=Jh ys v;have ec:=Wj S _ _ w v ip iq bw bv xs ys none none hl hx hy;generalize (xs++[w]).map PV.int=PL at ip sp ec;generalize (ys++[v]).map PV.int=QL at iq sq ec;unfold lB aX wR;simp [EC,bI,aO,aP,aR,aQ,aF,aN,bB,jM,mY,cN,dF,dH,dE,iG,sp,sq,cO,ec]
theorem Pg (S:aI):∀ (us vs:List Int) (x y:Option AV),(∀ x∈us,Bd 100000 x)→(∀ y∈vs,Bd 100000 y) →
  cE [] (gT 2 (cJ (gN 0) (cJ (gN 1) eC))) (aC bA (aA 0) (aA 1)) (fS (us.map .int) (vs.map .int)) [x,y] S=.ok ((List.zipWith (·*·) us vs).map .int) S
 | [],vs,x,y,_,_=>by
  show cE [] _ _ [] _ S=_;exact eA
 | a :: us,[],x,y,_,_=>by
  show cE [] _ _ [] _ S=_;exact eA
 | a :: us,b :: vs,x,y,hx,hy=>by
  have ih:=Pg S us vs (some (.pv (.int a))) (some (.pv (.int b))) (fun m hm=>hx m (List.mem_cons_of_mem _ hm)) (fun m hm=>hy m (List.mem_cons_of_mem _ hm));have m1:bA (.int a) (.int b)=some (.int (a*b)):=pI (.inr ⟨(hx a List.mem_cons_self).mono (by decide),(hy b List.mem_cons_self).mono (by decide)⟩);show cE [] _ _ (.tup [.int a,.int b] :: fS (us.map .int) (vs.map .int)) _ S=_;rw [eD];simp [gT,cJ,eC,gN,EC,bI,aO,aP,aR,aQ,aF,aN,m1,ih]
def dt (us vs:List Int):Int:=(List.zipWith (·*·) us vs).sum
def Sq (A:PV) (us:List Int):Prop:=A=.lst (us.map .int)∨A=.tup (us.map .int)
theorem zH {A B:PV} {us vs:List Int} (S:aI) (hA:Sq A us) (hB:Sq B vs) (hx:∀ x∈us,Bd 100000 x) (hy:∀ y∈vs,Bd 100000 y):rR [.pv A,.pv B] S=.ok (.pv (.int (dt us vs))) S:=by
 have ec:=Pg S us vs none none hx hy;have es:=Bs (List.zipWith (·*·) us vs);unfold dt;generalize (List.zipWith (·*·) us vs).map PV.int=ZL at ec es;generalize (List.zipWith (·*·) us vs).sum=Z at es;unfold rR aX zZ;rcases hA with rfl | rfl <;> rcases hB with rfl | rfl <;>
  (generalize us.map PV.int=UL at ec ⊢; generalize vs.map PV.int=VL at ec ⊢; simp [EC,bI,aO,aP,aR,aQ,aF,aN,bB,jM,mY,cN,cO,ec,es])
theorem fE {k l:Nat} {a b:Int} (h:Bd k a) (g:Bd l b) (hk:k≤1000000:=by decide) (hl:l≤1000000:=by decide):bA (.int a) (.int b)=some (.int (a*b)):=pI (.inr ⟨h.mono hk,g.mono hl⟩)
theorem Rz (a b:Int) (S:aI):pB [.pv (.lst [.lst [.int a,.int b]])] S=.ok (.pv (.lst [.int (-b),.int a])) S:=by
 unfold pB aX tK;simp [EC,aE,aZ,aY,aS,aO,aP,aR,aQ,aF,aN]
theorem Fx {a b c d e f:Int} (S:aI) (ha:Bd 10000 a) (hb:Bd 10000 b) (hc:Bd 10000 c) (hd:Bd 10000 d) (he:Bd 10000 e) (hf:Bd 10000 f):pB [.pv (.lst [.lst [.int a,.int b,.int c],.lst [.int d,.int e,.int f]])] S=.ok (.pv (.lst [.int (b*f - c*e),.int (c*d - a*f),.int (a*e - b*d)])) S:=by
 have m1:=fE hb hf;have m2:=fE hc he;have m3:=fE hc hd;have m4:=fE ha hf;have m5:=fE ha he;have m6:=fE hb hd;unfold pB aX tK;simp [EC,aE,aZ,aY,aS,aO,aP,aR,aQ,aF,aN,m1,m2,m3,m4,m5,m6]
theorem yS {A B:PV} {a b c d e f:Int} (S:aI) (hA:A=.lst [.int a,.int b,.int c]) (hB:B=.lst [.int d,.int e,.int f]) (ha:Bd 10000 a) (hb:Bd 10000 b) (hc:Bd 10000 c) (hd:Bd 10000 d) (he:Bd 10000 e) (hf:Bd 10000 f):lJ [.pv A,.pv B] S=.ok (.pv (.lst [.int (b*f - c*e),.int (c*d - a*f),.int (a*e - b*d)])) S:=by
 have m1:=fE hb hf;have m2:=fE hc he;have m3:=fE hc hd;have m4:=fE ha hf;have m5:=fE ha he;have m6:=fE hb hd;unfold lJ aX tR;subst hA hB; simp [EC,aE,aZ,aY,aS,aO,aP,aR,aQ,aF,aN,m1,m2,m3,m4,m5,m6]
structure P2 (x y w:Int):Prop where
 bx:Bd 1000 x
 by_:Bd 1000 y
 bw:Bd 1000 w
 pos:0 < w
structure P3 (x y z w:Int):Prop where
 bx:Bd 1000 x
 by_:Bd 1000 y
 bz:Bd 1000 z
 bw:Bd 1000 w
 pos:0 < w
abbrev v2 (x y w:Int):PV:=.tup [.int x,.int y,.int w]
abbrev v3 (x y z w:Int):PV:=.tup [.int x,.int y,.int z,.int w]
def Sv (A:PV) (L:List PV):Prop:=A=.lst L∨A=.tup L
theorem Yn (p:PV) (L:List PV):iM (p :: L) (some 1) none=L:=by
 unfold iM;have e1:HT.sIx (p :: L).length 0 (some 1)=1:=by
  rw [show (some (1:Int))=some ((1:Nat):Int) from rfl,HT.sIx_nat,List.length_cons];omega
 rw [e1];show ((p :: L).drop 1).take ((p :: L).length - 1)=L;simp
theorem uU (p:PV) (L:List PV):jD (.lst (p :: L)) (some 1) none=some (.lst L):=by
 unfold jD;dsimp only;rw [Yn]
theorem uV (p:PV) (L:List PV):jD (.tup (p :: L)) (some 1) none=some (.tup L):=by
 unfold jD;dsimp only;have e1:HT.sIx (p :: L).length 0 (some 1)=1:=by
  rw [show (some (1:Int))=some ((1:Nat):Int) from rfl,HT.sIx_nat,List.length_cons];omega
 rw [if_neg (by rw [e1]; simp),Yn]
theorem Cl {x0 y0 w0 x1 y1 w1:Int} (S:aI) (p:P2 x0 y0 w0) (q:P2 x1 y1 w1):lB [.pv (v2 x0 y0 w0),.pv (v2 x1 y1 w1)] S=.ok (.pv (.lst [.int (x1*w0 - x0*w1),.int (y1*w0 - y0*w1)])) S:=by
 have e:=Bi (xs:=[x0,y0]) (ys:=[x1,y1]) (w:=w0) (v:=w1) S rfl (by simp; exact ⟨p.bx.mono (by decide),p.by_.mono (by decide)⟩) (by simp; exact ⟨q.bx.mono (by decide),q.by_.mono (by decide)⟩) (p.bw.mono (by decide)) (q.bw.mono (by decide));exact e
theorem zQ {x0 y0 z0 w0 x1 y1 z1 w1:Int} (S:aI) (p:P3 x0 y0 z0 w0) (q:P3 x1 y1 z1 w1):lB [.pv (v3 x0 y0 z0 w0),.pv (v3 x1 y1 z1 w1)] S=.ok (.pv (.lst [.int (x1*w0 - x0*w1),.int (y1*w0 - y0*w1),.int (z1*w0 - z0*w1)])) S:=by
 have e:=Bi (xs:=[x0,y0,z0]) (ys:=[x1,y1,z1]) (w:=w0) (v:=w1) S rfl (by simp; exact ⟨p.bx.mono (by decide),p.by_.mono (by decide),p.bz.mono (by decide)⟩) (by simp; exact ⟨q.bx.mono (by decide),q.by_.mono (by decide),q.bz.mono (by decide)⟩) (p.bw.mono (by decide)) (q.bw.mono (by decide));exact e
theorem sb {x0 w0 x1 w1:Int} (a:Bd 1000 x0) (b:Bd 1000 w0) (c:Bd 1000 x1) (d:Bd 1000 w1):Bd 2001 (x1*w0 - x0*w1):=((c.mul b).mono (show 1000+1000≤2000 by decide)).sub ((a.mul d).mono (show 1000+1000≤2000 by decide))
theorem cb {a b c d:Int} (h1:Bd 2001 a) (h2:Bd 2001 b) (h3:Bd 2001 c) (h4:Bd 2001 d):Bd 4003 (a*b - c*d):=((h1.mul h2).mono (show 2001+2001≤4002 by decide)).sub ((h3.mul h4).mono (show 2001+2001≤4002 by decide))
def D2 (x0 y0 w0 x1 y1 w1 x2 y2 w2:Int):Int:=w0*(x1*y2 - y1*x2) - w1*(x0*y2 - y0*x2)+w2*(x0*y1 - y0*x1)
def D3 (x0 y0 z0 w0 x1 y1 z1 w1 x2 y2 z2 w2 x3 y3 z3 w3:Int):Int :=
 w0*((y1*z2 - z1*y2)*x3+(z1*x2 - x1*z2)*y3+(x1*y2 - y1*x2)*z3) - w1*((y0*z2 - z0*y2)*x3+(z0*x2 - x0*z2)*y3+(x0*y2 - y0*x2)*z3)
 + w2*((y0*z1 - z0*y1)*x3+(z0*x1 - x0*z1)*y3+(x0*y1 - y0*x1)*z3) - w3*((y0*z1 - z0*y1)*x2+(z0*x1 - x0*z1)*y2+(x0*y1 - y0*x1)*z2)
theorem R0 (x0 y0 z0 w0 x1 y1 z1 w1 x2 y2 z2 w2 x3 y3 z3 w3:Int):dt [(y1*w0 - y0*w1)*(z2*w0 - z0*w2) - (z1*w0 - z0*w1)*(y2*w0 - y0*w2),(z1*w0 - z0*w1)*(x2*w0 - x0*w2) - (x1*w0 - x0*w1)*(z2*w0 - z0*w2),(x1*w0 - x0*w1)*(y2*w0 - y0*w2) - (y1*w0 - y0*w1)*(x2*w0 - x0*w2)] [x3*w0 - x0*w3,y3*w0 - y0*w3,z3*w0 - z0*w3]=w0*w0*D3 x0 y0 z0 w0 x1 y1 z1 w1 x2 y2 z2 w2 x3 y3 z3 w3:=by
 simp only [dt,D3,List.zipWith_cons_cons,List.zipWith_nil_left,List.sum_cons,List.sum_nil];grind
theorem jH {w d:Int} (h:0 < w):sg (w*d)=sg d:=by
 unfold sg
 by_cases h1:0 < d
 ·rw [if_pos (Int.mul_pos h h1),if_pos h1]
 ·by_cases h2:d < 0
  ·have:w*d < 0:=Int.mul_neg_of_pos_of_neg h h2
   rw [if_neg (by omega),if_pos this,if_neg h1,if_pos h2]
  ·have:d=0:=by omega
   subst this;rw [Int.mul_zero]
def Gp (n k:Nat) (v:PV):Prop:=∃ xs w,v=.tup ((xs++[w]).map .int)∧Pq n k xs w
theorem Gp.two {v:PV} (h:Gp 2 1000 v):∃ x y w,v=v2 x y w∧P2 x y w:=by
 obtain ⟨xs,w,rfl,P⟩:=h
 match xs,P.len with
 | [x,y],_=>exact ⟨x,y,w,rfl,P.bx x (by simp),P.bx y (by simp),P.bw,P.pos⟩
theorem Gp.three {v:PV} (h:Gp 3 1000 v):∃ x y z w,v=v3 x y z w∧P3 x y z w:=by
 obtain ⟨xs,w,rfl,P⟩:=h
 match xs,P.len with
 | [x,y,z],_=>exact ⟨x,y,z,w,rfl,P.bx x (by simp),P.bx y (by simp),P.bx z (by simp),P.bw,P.pos⟩
theorem Lg (S:aI) (PL QL:List PV) (xs ys:List Int) (w v:Int) (hp:aE (.tup PL) (.int (-1))=some (.int w)) (hq:aE (.tup QL) (.int (-1))=some (.int v)) (hpj:∀ j:Nat,j < xs.length→aE (.tup PL) (.int (j:Nat))=some (.int (xs.getD j 0))) (hqj:∀ j:Nat,j < xs.length→aE (.tup QL) (.int (j:Nat))=some (.int (ys.getD j 0)))
  (bw:Bd 1000 w) (bv:Bd 1000 v) (hx:∀ j,Bd 1000 (xs.getD j 0)) (hy:∀ j,Bd 1000 (ys.getD j 0)):∀ (js:List Nat) (x:Option AV),(∀ j∈js,j < xs.length) →
  cE [] (gN 0) (aC cR (aC bA (aC aE (aA 1) (aA 0)) (aC aE (aA 2) (cD cK (mC (.int 1))))) (aC bA (aC aE (aA 2) (aA 0)) (aC aE (aA 1) (cD cK (mC (.int 1)))))) (js.map fun j=>.int (0+(j:Nat))) [x,some (.pv (.tup QL)),some (.pv (.tup PL))] S=.ok ((js.map fun j=>ys.getD j 0*w - xs.getD j 0*v).map .int) S
 | [],x,_=>eA
 | j :: js,x,h=>by
  have ih:=Lg S PL QL xs ys w v hp hq hpj hqj bw bv hx hy js (some (.pv (.int (0+(j:Nat))))) fun i hi=>h i (List.mem_cons_of_mem _ hi);have e1:=hpj j (h j List.mem_cons_self);have e2:=hqj j (h j List.mem_cons_self);have m1:=mB ((hx j).mono (show 1000≤2000 by decide)) (bv.mono (show 1000≤2000 by decide));have m2:=mB ((hy j).mono (show 1000≤2000 by decide)) (bw.mono (show 1000≤2000 by decide));show cE [] _ _ (.int (0+(j:Nat)) :: js.map fun j=>.int (0+(j:Nat))) _ S=_;rw [eD];simp only [Int.zero_add] at ih ⊢;generalize hX:xs.getD j 0=X at e1 m1;generalize hY:ys.getD j 0=Y at e2 m2;simp [gN,EC,bI,aO,aP,aR,aQ,aF,aN,e1,e2,hp,hq,m1,m2,ih];simp only [List.getD_eq_getElem?_getD] at hX hY;rw [hX,hY]
theorem Bl {xs ys:List Int} {w v:Int} (S:aI) (hl:xs.length=ys.length) (h9:xs.length≤9) (hx:∀ x∈xs,Bd 1000 x) (hy:∀ y∈ys,Bd 1000 y) (bw:Bd 1000 w) (bv:Bd 1000 v) :
  lO [.pv (.tup ((xs++[w]).map .int)),.pv (.tup ((ys++[v]).map .int))] S=.ok (.pv (.lst ((wa xs w ys v).map .int))) S:=by
 have ip:=pA xs w;have iq:=pA ys v;have ec:=Lg S _ _ xs ys w v ip iq (fun j h=>uH xs w j h) (fun j h=>uH ys v j (by omega)) bw bv (tX hx) (tX hy) (List.range xs.length) none fun j hj=>by simpa using hj
 have er:(List.range xs.length).map (fun j=>ys.getD j 0*w - xs.getD j 0*v)=wa xs w ys v:=Bf hl fun x y=>y*w - x*v;rw [er] at ec;have hlen:((xs++[w]).map PV.int).length=xs.length+1:=by simp
 have hr:fU [.pv (.int (((xs.length+1:Nat):Int) - 1))] S=.ok ((List.range xs.length).map fun j=>.int (0+(j:Nat)),[]) S:=by
  unfold fU;dsimp only;rw [if_pos ⟨by omega,by omega⟩];have:(((xs.length+1:Nat):Int) - 1).toNat=xs.length:=by omega
  rw [this];rfl
 generalize (wa xs w ys v).map PV.int=ZL at ec;generalize (List.range xs.length).map (fun j=>PV.int (0+(j:Nat)))=RL at ec hr;generalize hP:(xs++[w]).map PV.int=PL at ip ec hlen;generalize (ys++[v]).map PV.int=QL at iq ec;unfold lO aX zW;have hr2:=hr;rw [← hlen] at hr2;simp [EC,bI,aO,aP,aR,aQ,aF,aN,bB,bO,hr2,cO,ec]
theorem Xn {x0 y0 w0 x1 y1 w1:Int} (S:aI) (p:P2 x0 y0 w0) (q:P2 x1 y1 w1):lO [.pv (v2 x0 y0 w0),.pv (v2 x1 y1 w1)] S=.ok (.pv (.lst [.int (x1*w0 - x0*w1),.int (y1*w0 - y0*w1)])) S:=by
 have e:=Bl (xs:=[x0,y0]) (ys:=[x1,y1]) (w:=w0) (v:=w1) S rfl (by simp) (by simp; exact ⟨p.bx,p.by_⟩) (by simp; exact ⟨q.bx,q.by_⟩) p.bw q.bw;exact e
theorem qB {x0 y0 z0 w0 x1 y1 z1 w1:Int} (S:aI) (p:P3 x0 y0 z0 w0) (q:P3 x1 y1 z1 w1):lO [.pv (v3 x0 y0 z0 w0),.pv (v3 x1 y1 z1 w1)] S=.ok (.pv (.lst [.int (x1*w0 - x0*w1),.int (y1*w0 - y0*w1),.int (z1*w0 - z0*w1)])) S:=by
 have e:=Bl (xs:=[x0,y0,z0]) (ys:=[x1,y1,z1]) (w:=w0) (v:=w1) S rfl (by simp) (by simp; exact ⟨p.bx,p.by_,p.bz⟩) (by simp; exact ⟨q.bx,q.by_,q.bz⟩) p.bw q.bw;exact e
theorem Mv {A:PV} {x0 y0 w0 x1 y1 w1 x2 y2 w2:Int} (S:aI) (hA:Sv A [v2 x0 y0 w0,v2 x1 y1 w1,v2 x2 y2 w2]) (p:P2 x0 y0 w0) (q:P2 x1 y1 w1) (r:P2 x2 y2 w2):nY [.pv A] S=.ok (.pv (.int (w0*D2 x0 y0 w0 x1 y1 w1 x2 y2 w2))) S:=by
 have a1:=Xn S p q;have a2:=Xn S p r;have bu:=sb p.bx p.bw q.bx q.bw;have bv:=sb p.by_ p.bw q.by_ q.bw;have bu2:=sb p.bx p.bw r.bx r.bw;have bv2:=sb p.by_ p.bw r.by_ r.bw;have id:(x1*w0 - x0*w1)*(y2*w0 - y0*w2) - (y1*w0 - y0*w1)*(x2*w0 - x0*w2)=w0*D2 x0 y0 w0 x1 y1 w1 x2 y2 w2:=by
  unfold D2;grind
 generalize y2*w0 - y0*w2=V1,x2*w0 - x0*w2=V0,y1*w0 - y0*w1=U1,x1*w0 - x0*w1=U0,w0*D2 x0 y0 w0 x1 y1 w1 x2 y2 w2=D at *;have m1:=fE bu bv2;have m2:=fE bv bu2;generalize v2 x2 y2 w2=R,v2 x1 y1 w1=Q,v2 x0 y0 w0=P at *;have et:jU [.pv (.lst [.lst [.int U0,.int U1],.lst [.int V0,.int V1]])] S=.ok (.pv (.int D)) S:=by
  unfold jU aX pJ;simp [EC,aE,aZ,aY,aS,aO,aP,aR,aQ,aF,aN,m1,m2,id]
 unfold nY aX uO;rcases hA with rfl | rfl
 ·have s1:=uU P [Q,R]
  simp [EC,aE,aZ,aY,aS,aO,aP,aR,aQ,aF,aN,bB,bH,cN,dF,dH,dE,iG,s1,cO,eD,eA,gN,a1,a2,et]
 ·have s1:=uV P [Q,R]
  simp [EC,aE,aZ,aY,aS,aO,aP,aR,aQ,aF,aN,bB,bH,cN,dF,dH,dE,iG,s1,cO,eD,eA,gN,a1,a2,et]
theorem Ct {A:PV} {x0 y0 z0 w0 x1 y1 z1 w1 x2 y2 z2 w2 x3 y3 z3 w3:Int} (S:aI) (hA:Sv A [v3 x0 y0 z0 w0,v3 x1 y1 z1 w1,v3 x2 y2 z2 w2,v3 x3 y3 z3 w3]) (p:P3 x0 y0 z0 w0) (q:P3 x1 y1 z1 w1) (r:P3 x2 y2 z2 w2) (s:P3 x3 y3 z3 w3):nY [.pv A] S=.ok (.pv (.int (w0*w0*D3 x0 y0 z0 w0 x1 y1 z1 w1 x2 y2 z2 w2 x3 y3 z3 w3))) S:=by
 have a1:=qB S p q;have a2:=qB S p r;have a3:=qB S p s;have b1:=sb p.bx p.bw q.bx q.bw;have b2:=sb p.by_ p.bw q.by_ q.bw;have b3:=sb p.bz p.bw q.bz q.bw;have b4:=sb p.bx p.bw r.bx r.bw;have b5:=sb p.by_ p.bw r.by_ r.bw;have b6:=sb p.bz p.bw r.bz r.bw;have b7:=sb p.bx p.bw s.bx s.bw;have b8:=sb p.by_ p.bw s.by_ s.bw;have b9:=sb p.bz p.bw s.bz s.bw;have id:=R0 x0 y0 z0 w0 x1 y1 z1 w1 x2 y2 z2 w2 x3 y3 z3 w3;generalize z3*w0 - z0*w3=T2,y3*w0 - y0*w3=T1,x3*w0 - x0*w3=T0,z2*w0 - z0*w2=V2,y2*w0 - y0*w2=V1,x2*w0 - x0*w2=V0,z1*w0 - z0*w1=U2,y1*w0 - y0*w1=U1,x1*w0 - x0*w1=U0,w0*w0*D3 x0 y0 z0 w0 x1 y1 z1 w1 x2 y2 z2 w2 x3 y3 z3 w3=D at *;have h:∀ {a:Int},Bd 2001 a→Bd 10000 a:=fun h=>h.mono (by decide);have h4:∀ {a:Int},Bd 4003 a→Bd 100000 a:=fun h=>h.mono (by decide);have h2:∀ {a:Int},Bd 2001 a→Bd 100000 a:=fun h=>h.mono (by decide);have en:=yS (A:=.lst [.int U0,.int U1,.int U2]) (B:=.lst [.int V0,.int V1,.int V2]) S rfl rfl (h b1) (h b2) (h b3) (h b4) (h b5) (h b6);have c1:=cb b2 b6 b3 b5;have c2:=cb b3 b4 b1 b6;have c3:=cb b1 b5 b2 b4;have ed:=zH (A:=.lst [.int (U1*V2 - U2*V1),.int (U2*V0 - U0*V2),.int (U0*V1 - U1*V0)]) (B:=.lst [.int T0,.int T1,.int T2]) (us:=[U1*V2 - U2*V1,U2*V0 - U0*V2,U0*V1 - U1*V0]) (vs:=[T0,T1,T2]) S (.inl rfl) (.inl rfl) (by simp; exact ⟨h4 c1,h4 c2,h4 c3⟩) (by simp; exact ⟨h2 b7,h2 b8,h2 b9⟩);rw [id] at ed;generalize v3 x3 y3 z3 w3=T,v3 x2 y2 z2 w2=R,v3 x1 y1 z1 w1=Q,v3 x0 y0 z0 w0=P,U0*V1 - U1*V0=N2,U2*V0 - U0*V2=N1,U1*V2 - U2*V1=N0 at *;have et:jU [.pv (.lst [.lst [.int U0,.int U1,.int U2],.lst [.int V0,.int V1,.int V2],.lst [.int T0,.int T1,.int T2]])] S=.ok (.pv (.int D)) S:=by
  unfold jU aX pJ;simp [EC,aE,aZ,aY,aS,aO,aP,aR,aQ,aF,aN,en,ed]
 unfold nY aX uO;rcases hA with rfl | rfl
 ·have s1:=uU P [Q,R,T]
  simp [EC,aE,aZ,aY,aS,aO,aP,aR,aQ,aF,aN,bB,bH,cN,dF,dH,dE,iG,s1,cO,eD,eA,gN,a1,a2,a3,et]
 ·have s1:=uV P [Q,R,T]
  simp [EC,aE,aZ,aY,aS,aO,aP,aR,aQ,aF,aN,bB,bH,cN,dF,dH,dE,iG,s1,cO,eD,eA,gN,a1,a2,a3,et]
theorem Kj (ns:List Int):∃ g:Int,0 < g∧ns=(low ns).map (g*·):=by
 by_cases h:gl ns 0=0
 ·refine ⟨1,by decide,?_⟩
  unfold low;rw [if_pos h];simp
 ·have:=Za ns 0 (Int.le_refl 0)
  exact ⟨gl ns 0,by omega,(Az h).symm⟩
theorem Ou (ns:List Int):low (ns.map (- ·))=(low ns).map (- ·):=by
 have e:gl (ns.map (- ·)) 0=gl ns 0:=by
  rw [← Hy ns];exact congrArg (fun l=>gl l 0) (List.map_congr_left fun x _=>by omega)
 unfold low;rw [e];split
 ·rfl
 ·rw [List.map_map,List.map_map]
  refine List.map_congr_left fun x hx=>?_;exact Int.neg_ediv_of_dvd ((iX ns 0).2 x hx)
theorem Fi {S:aI} {k:Nat} {ns:List Int} {L:List PV} (h:dY S k ns):∃ (A:PV) (ns':List Int),jE [.ref k,.pv (.lst L)] S=.ok (.pv A) (S.set k (.lst (ns'.map .int)))∧Sv A L:=by
 obtain ⟨t,n1,e1,t0,t1,_⟩:=gH (m:=2) h (by decide) (gM (by decide) (by decide));have tk:=Jw S k (.lst (n1.map .int));generalize hS:S.set k (.lst (n1.map .int))=S1 at e1 tk
 by_cases ht:t=1
 ·subst ht
  refine ⟨.tup L,n1,?_,.inr rfl⟩;rw [hS];unfold jE aX tD;simp [EC,aE,aZ,aY,aS,aO,aP,aR,aQ,aF,aN,e1,tk]
 ·refine ⟨.lst L,n1,?_,.inl rfl⟩
  rw [hS];unfold jE aX tD;simp [EC,aE,aZ,aY,aS,aO,aP,aR,aQ,aF,aN,e1,tk,ht]
def B2 (x0 y0 w0 x1 y1 w1:Int):List Int:=[-(y1*w0 - y0*w1),x1*w0 - x0*w1,x0*y1 - y0*x1]
def B3 (w0 x0 y0 z0 a b c:Int):List Int:=[w0*a,w0*b,w0*c,-(a*x0+b*y0+c*z0)]
theorem Zy {G:Gd} {g:GM} {me:ME} {x:PV} {r:List PV} {ρ:bR} {S:aI} (h:gJ G S):cE G g me (x :: r) ρ S=(match g x ρ with
  | none=>.fail
  | some ρ1=>match me ρ1 S with
   | .ok (.pv y) S1=>match cE G g me r ρ1 S1 with
    | .ok ys S2=>.ok (y :: ys) S2
    | _=>.fail
   | _=>.fail):=by
 rw [cE,if_pos h]
 all_goals rfl
theorem Qv {G:Gd} {g:GM} {me:ME} {ρ:bR} {S:aI} (h:gJ G S):cE G g me [] ρ S=.ok [] S:=by
 rw [cE,if_pos h]
theorem Gh (a b c x0 y0 w0 x1 y1 w1 x2 y2 w2:Int):D2 (a*x0) (a*y0) (a*w0) (b*x1) (b*y1) (b*w1) (c*x2) (c*y2) (c*w2)=a*b*c*D2 x0 y0 w0 x1 y1 w1 x2 y2 w2:=by
 unfold D2;grind
theorem Qh (a b c d x0 y0 z0 w0 x1 y1 z1 w1 x2 y2 z2 w2 x3 y3 z3 w3:Int):D3 (a*x0) (a*y0) (a*z0) (a*w0) (b*x1) (b*y1) (b*z1) (b*w1) (c*x2) (c*y2) (c*z2) (c*w2) (d*x3) (d*y3) (d*z3) (d*w3)=a*b*c*d*D3 x0 y0 z0 w0 x1 y1 z1 w1 x2 y2 z2 w2 x3 y3 z3 w3:=by
 unfold D3;grind
structure R2 (x y w X Y D:Int):Prop where
 pos:0 < w
 dos:0 < D
 ex:x*D=X*w
 ey:y*D=Y*w
theorem Pq.p2 {k:Nat} {x y w:Int} (P:Pq 2 k [x,y] w) (h:k≤1000):P2 x y w:=⟨(P.bx x (by simp)).mono h,(P.bx y (by simp)).mono h,P.bw.mono h,P.pos⟩
theorem Pq.p3 {k:Nat} {x y z w:Int} (P:Pq 3 k [x,y,z] w) (h:k≤1000):P3 x y z w:=⟨(P.bx x (by simp)).mono h,(P.bx y (by simp)).mono h,(P.bx z (by simp)).mono h,P.bw.mono h,P.pos⟩
def wH:List PV→Int
 | [.tup [.int x0,.int y0,.int w0],.tup [.int x1,.int y1,.int w1],.tup [.int x2,.int y2,.int w2]]=>sg (D2 x0 y0 w0 x1 y1 w1 x2 y2 w2)
 | [.tup [.int x0,.int y0,.int z0,.int w0],.tup [.int x1,.int y1,.int z1,.int w1],.tup [.int x2,.int y2,.int z2,.int w2],.tup [.int x3,.int y3,.int z3,.int w3]]=>sg (D3 x0 y0 z0 w0 x1 y1 z1 w1 x2 y2 z2 w2 x3 y3 z3 w3)
 | _=>0
theorem B8 (D:Int):sg (-D)=- sg D:=by
 unfold sg;split <;> split <;> (try split) <;> (try split) <;> omega
abbrev tv (us:List Int):PV:=.tup (us.map .int)
def Gu (n k:Nat) (us:List Int):Prop:=∃ xs w,us=xs++[w]∧Pq n k xs w
theorem Gu.gp {n k:Nat} {us:List Int} (h:Gu n k us):Gp n k (tv us):=by
 obtain ⟨xs,w,rfl,P⟩:=h;exact ⟨xs,w,rfl,P⟩
theorem Gu.ne {n k:Nat} {us:List Int} (h:Gu n k us):us≠[]:=by
 obtain ⟨xs,w,rfl,P⟩:=h;simp
theorem gps {n k:Nat} {uss:List (List Int)} (h:∀ us∈uss,Gu n k us):∀ v∈uss.map tv,Gp n k v:=fun v hv=>by
 obtain ⟨us,hu,rfl⟩:=List.mem_map.mp hv;exact (h us hu).gp
theorem Xd:∀ uss:List (List Int),mS (uss.map tv)=some uss
 | []=>rfl
 | us :: uss=>by
  have ih:=Xd uss;show (match jI (us.map .int),mS (uss.map tv) with | some is,some uss=>some (is :: uss) | _,_=>none)=_
  rw [ih,xF]
theorem Cf {uss:List (List Int)} {n:Nat} (hl:uss.length=n) (hp:(dI uss).Perm (List.range n)):Fb (uss.map tv) uss=(eP uss).map tv:=by
 unfold Fb eP;rw [List.map_map];refine List.map_congr_left fun i hi=>?_;have h:i < uss.length:=by
  have:=hp.subset hi;rw [hl];simpa using this
 simp [List.getD,h]
theorem Jq {A:PV} {uss:List (List Int)} (hl:uss.length=3∨uss.length=4) (hA:Sv A (uss.map tv)) (hne:∀ us∈uss,us≠[]):rJ [A]=some (.lst ((eP uss).map tv)):=by
 have e:pV (uss.map tv)=some (.lst ((eP uss).map tv)):=by
  unfold pV;rw [Xd];dsimp only;rcases hl with h | h
  ·obtain ⟨_,hp,_⟩:=Rj h
   rw [if_pos (show Wa uss from ⟨by omega,by omega,by rw [h]; exact Zm,by rw [hp.length_eq]; simp,hne⟩),Cf h hp]
  ·obtain ⟨_,hp,_⟩:=Ek h
   rw [if_pos (show Wa uss from ⟨by omega,by omega,by rw [h]; exact Qn,by rw [hp.length_eq]; simp,hne⟩),Cf h hp]
 rcases hA with rfl | rfl
 ·exact e
 ·exact e
def oK {α:Type}:List α→List α
 | [a,b,c]=>[a,c,b]
 | [a,b,c,d]=>[a,b,d,c]
 | l=>l
theorem Dy {α β:Type} (f:α→β) (l:List α):(oK l).map f=oK (l.map f):=by
 rcases l with _ | ⟨a,_ | ⟨b,_ | ⟨c,_ | ⟨d,_ | ⟨e,l⟩⟩⟩⟩⟩ <;> rfl
theorem Sw {α:Type} (l:List α):(oK l).Perm l:=by
 unfold oK;split
 ·exact .cons _ (.swap _ _ _)
 ·exact .cons _ (.cons _ (.swap _ _ _))
 ·exact .refl _
def dU:List (List Int)→Int
 | [[x0,y0,w0],[x1,y1,w1],[x2,y2,w2]]=>D2 x0 y0 w0 x1 y1 w1 x2 y2 w2
 | [[x0,y0,z0,w0],[x1,y1,z1,w1],[x2,y2,z2,w2],[x3,y3,z3,w3]]=>D3 x0 y0 z0 w0 x1 y1 z1 w1 x2 y2 z2 w2 x3 y3 z3 w3
 | _=>0
theorem Gu.two {k:Nat} {us:List Int} (h:Gu 2 k us) (hk:k≤1000):∃ x y w,us=[x,y,w]∧P2 x y w:=by
 obtain ⟨xs,w,rfl,P⟩:=h
 match xs,P.len,P with
 | [x,y],_,P=>exact ⟨x,y,w,rfl,P.p2 hk⟩
theorem Gu.three {k:Nat} {us:List Int} (h:Gu 3 k us) (hk:k≤1000):∃ x y z w,us=[x,y,z,w]∧P3 x y z w:=by
 obtain ⟨xs,w,rfl,P⟩:=h
 match xs,P.len,P with
 | [x,y,z],_,P=>exact ⟨x,y,z,w,rfl,P.p3 hk⟩
theorem F0 {n k:Nat} (hn:n=2∨n=3) (hk:k≤1000) {uss:List (List Int)} (hl:uss.length=n+1) (hg:∀ us∈uss,Gu n k us):wH (uss.map tv)=sg (dU uss):=by
 rcases hn with rfl | rfl
 ·match uss,hl with
  | [a,b,c],_ =>
   obtain ⟨x0,y0,w0,rfl,_⟩:=(hg a (by simp)).two hk;obtain ⟨x1,y1,w1,rfl,_⟩:=(hg b (by simp)).two hk;obtain ⟨x2,y2,w2,rfl,_⟩:=(hg c (by simp)).two hk;rfl
 ·match uss,hl with
  | [a,b,c,d],_ =>
   obtain ⟨x0,y0,z0,w0,rfl,_⟩:=(hg a (by simp)).three hk;obtain ⟨x1,y1,z1,w1,rfl,_⟩:=(hg b (by simp)).three hk;obtain ⟨x2,y2,z2,w2,rfl,_⟩:=(hg c (by simp)).three hk;obtain ⟨x3,y3,z3,w3,rfl,_⟩:=(hg d (by simp)).three hk;rfl
def Pw (n:Nat) (us:List Int):Prop:=∃ xs w,us=xs++[w]∧xs.length=n∧0 < w
theorem Pw.two {us:List Int} (h:Pw 2 us):∃ x y w,us=[x,y,w]∧0 < w:=by
 obtain ⟨xs,w,rfl,l,p⟩:=h
 match xs,l with
 | [x,y],_=>exact ⟨x,y,w,rfl,p⟩
theorem Pw.three {us:List Int} (h:Pw 3 us):∃ x y z w,us=[x,y,z,w]∧0 < w:=by
 obtain ⟨xs,w,rfl,l,p⟩:=h
 match xs,l with
 | [x,y,z],_=>exact ⟨x,y,z,w,rfl,p⟩
theorem Gu.pt {n k:Nat} {us:List Int} (h:Gu n k us):Pw n us:=by
 obtain ⟨xs,w,e,P⟩:=h;exact ⟨xs,w,e,P.len,P.pos⟩
theorem dU2 {x0 y0 w0 x1 y1 w1 x2 y2 w2:Int}:dU [[x0,y0,w0],[x1,y1,w1],[x2,y2,w2]]=D2 x0 y0 w0 x1 y1 w1 x2 y2 w2:=rfl
theorem dU3 {x0 y0 z0 w0 x1 y1 z1 w1 x2 y2 z2 w2 x3 y3 z3 w3:Int}:dU [[x0,y0,z0,w0],[x1,y1,z1,w1],[x2,y2,z2,w2],[x3,y3,z3,w3]]=D3 x0 y0 z0 w0 x1 y1 z1 w1 x2 y2 z2 w2 x3 y3 z3 w3:=rfl
theorem Dk {n:Nat} (hn:n=2∨n=3) {pre l:List (List Int)} {x y:List Int} (hl:(pre++y :: x :: l).length=n+1) (hp:∀ u∈pre++y :: x :: l,Pw n u):dU (pre++x :: y :: l)=- dU (pre++y :: x :: l):=by
 have hx:=hp x (by simp);have hy:=hp y (by simp);rcases hn with rfl | rfl
 ·obtain ⟨x0,y0,w0,rfl,_⟩:=hx.two
  obtain ⟨x1,y1,w1,rfl,_⟩:=hy.two;have fin:∀ c∈pre++l,∃ x y w,c=[x,y,w]:=fun c hc=>by
   obtain ⟨x,y,w,e,_⟩:=(hp c (by simp at hc ⊢; rcases hc with h | h <;> simp [h])).two;exact ⟨x,y,w,e⟩
  match pre,l,hl,fin with
  | [],[c],_,fin | [c],[],_,fin =>
   obtain ⟨x2,y2,w2,rfl⟩:=fin c (by simp);simp only [List.nil_append,List.cons_append,dU2,D2];grind
  | [],[],h,_=>simp at h
  | [],_ :: _ :: _,h,_=>simp at h
  | _ :: _ :: _,_,h,_=>simp at h; omega
  | [_],_ :: _,h,_=>simp at h
 ·obtain ⟨x0,y0,z0,w0,rfl,_⟩:=hx.three
  obtain ⟨x1,y1,z1,w1,rfl,_⟩:=hy.three;have fin:∀ c∈pre++l,∃ x y z w,c=[x,y,z,w]:=fun c hc=>by
   obtain ⟨x,y,z,w,e,_⟩:=(hp c (by simp at hc ⊢; rcases hc with h | h <;> simp [h])).three;exact ⟨x,y,z,w,e⟩
  match pre,l,hl,fin with
  | [],[c,d],_,fin | [c],[d],_,fin | [c,d],[],_,fin =>
   obtain ⟨x2,y2,z2,w2,rfl⟩:=fin c (by simp);obtain ⟨x3,y3,z3,w3,rfl⟩:=fin d (by simp);simp only [List.nil_append,List.cons_append,dU3,D3];grind
  | [],[],h,_=>simp at h
  | [],[_],h,_=>simp at h
  | [],_ :: _ :: _ :: _,h,_=>simp at h
  | [_],[],h,_=>simp at h
  | [_],_ :: _ :: _,h,_=>simp at h
  | [_,_],_ :: _,h,_=>simp at h
  | _ :: _ :: _ :: _,_,h,_=>simp at h; omega
theorem Ax {n:Nat} (hn:n=2∨n=3) {A B:List (List Int)} (h:A.Perm B):∀ pre:List (List Int),(pre++A).length=n+1→(∀ u∈pre++A,Pw n u)→dU (pre++B)=dU (pre++A)∨dU (pre++B)=- dU (pre++A):=by
 induction h with
 | nil=>exact fun pre _ _=>.inl rfl
 | cons x _ ih =>
  intro pre hl hp;have:=ih (pre++[x]) (by simpa using hl) (by simpa using hp);simpa using this
 | swap x y l=>exact fun pre hl hp=>.inr (Dk hn hl hp)
 | trans h1 h2 ih1 ih2 =>
  intro pre hl hp;have q1:=ih1 pre hl hp;have q2:=ih2 pre (by rw [← (h1.append_left pre).length_eq]; exact hl) fun u hu=>hp u ((h1.append_left pre).mem_iff.mpr hu);omega
theorem Cz {n k:Nat} (hn:n=2∨n=3) (hk:k≤1000) {uss:List (List Int)} (hl:uss.length=n+1) (hg:∀ us∈uss,Gu n k us):dU (eP uss)=dU uss∨dU (eP uss)=- dU uss:=
 Ax hn (oV (by omega)).1.symm [] hl fun u hu=>(hg u hu).pt
theorem lQ {n:Nat} (hn:n=2∨n=3) {uss:List (List Int)} (hl:uss.length=n+1):uss.length=3∨uss.length=4:=by
 rcases hn with rfl | rfl
 ·exact .inl hl
 ·exact .inr hl
theorem Jx {n:Nat} (hn:n=2∨n=3) {A:PV} {L:List PV} (S:aI) (hl:L.length=n+1) (hg:∀ v∈L,Gp n 1000 v) (hA:Sv A L):∃ d:Int,nY [.pv A] S=.ok (.pv (.int d)) S∧sg d=wH L:=by
 rcases hn with rfl | rfl
 ·match L,hl with
  | [P,Q,R],_ =>
   obtain ⟨x0,y0,w0,rfl,p⟩:=(hg P (by simp)).two;obtain ⟨x1,y1,w1,rfl,q⟩:=(hg Q (by simp)).two;obtain ⟨x2,y2,w2,rfl,r⟩:=(hg R (by simp)).two;exact ⟨_,Mv S hA p q r,jH p.pos⟩
 ·match L,hl with
  | [P,Q,R,T],_ =>
   obtain ⟨x0,y0,z0,w0,rfl,p⟩:=(hg P (by simp)).three;obtain ⟨x1,y1,z1,w1,rfl,q⟩:=(hg Q (by simp)).three;obtain ⟨x2,y2,z2,w2,rfl,r⟩:=(hg R (by simp)).three;obtain ⟨x3,y3,z3,w3,rfl,s⟩:=(hg T (by simp)).three;exact ⟨_,Ct S hA p q r s,jH (Int.mul_pos p.pos p.pos)⟩
def cZ (uss:List (List Int)):List (List Int):=if wH ((eP uss).map tv) < 0 then oK (eP uss) else eP uss
theorem R4 {n:Nat} (hn:n=2∨n=3) {L:List PV} (hl:L.length=n+1):∃ a b M,jD (.lst L) none (some (-2))=some (.lst M)∧aE (.lst L) (.int (-1))=some a∧aE (.lst L) (.int (-2))=some b∧aF (.lst M) (.lst [a,b])=some (.lst (oK L)):=by
 rcases hn with rfl | rfl
 ·match L,hl with
  | [P,Q,R],_=>exact ⟨R,Q,[P],rfl,rfl,rfl,rfl⟩
 ·match L,hl with
  | [P,Q,R,T],_=>exact ⟨T,R,[P,Q],rfl,rfl,rfl,rfl⟩
theorem Od {n:Nat} (hn:n=2∨n=3) {A:PV} {a:AV} {uss:List (List Int)} (S:aI) (ha:rd S a=some A) (hl:uss.length=n+1) (hg:∀ us∈uss,Gu n 1000 us) (hA:Sv A (uss.map tv)):gW [a] S=.ok (.pv (.tup ((cZ uss).map tv))) S:=by
 have h34:uss.length=3∨uss.length=4:=by omega
 have e1:=Jq h34 hA fun us hu=>(hg us hu).ne;obtain ⟨pm,_⟩:=oV h34;have hl2:((eP uss).map tv).length=n+1:=by rw [List.length_map,pm.length_eq]; exact hl
 have hg2:∀ v∈(eP uss).map tv,Gp n 1000 v:=gps fun us hu=>hg us (pm.subset hu);obtain ⟨d,e2,hd⟩:=Jx (A:=.lst ((eP uss).map tv)) hn S hl2 hg2 (.inl rfl);obtain ⟨a1,b1,M,t1,t2,t3,t4⟩:=R4 hn hl2;unfold cZ;have hlt:d < 0↔wH ((eP uss).map tv) < 0:=by
  rw [← hd];unfold sg;split
  ·omega
  ·split <;> omega
 by_cases h:d < 0
 ·rw [if_pos (hlt.mp h),Dy]
  generalize (eP uss).map tv=L at *;unfold gW aX sZ;simp [EC,bI,aO,aP,aR,aQ,aN,ha,e1,e2,h,dF,dH,dE,iG,t1,t2,t3,t4]
 ·rw [if_neg (fun z=>h (hlt.mpr z))]
  generalize (eP uss).map tv=L at *;unfold gW aX sZ;simp [EC,bI,aO,aP,aR,aQ,aN,ha,e1,e2,h]
theorem Jd {n:Nat} (hn:n=2∨n=3) {A:PV} {uss:List (List Int)} (S:aI) (hl:uss.length=n+1) (hg:∀ us∈uss,Gu n 1000 us) (hA:Sv A (uss.map tv)):gW [.pv A] S=.ok (.pv (.tup ((cZ uss).map tv))) S:=Od hn S rfl hl hg hA
theorem yK {uss:List (List Int)} (h:uss.length=3∨uss.length=4):(cZ uss).Perm uss:=by
 obtain ⟨pm,_⟩:=oV h;unfold cZ;split
 ·exact (Sw _).trans pm
 ·exact pm
theorem Xy {uss:List (List Int)} (h:uss.length=3∨uss.length=4):cZ (cZ uss)=cZ uss:=by
 have e:=Uc (yK h) h;unfold cZ at e ⊢;rw [e]
theorem Pm {S:aI} {k j:Nat} {xs:List PV} {v:PV} (hS:S[k]?=some (.lst xs)) (hv:xs[j]?=some v) (hj:j < 1000):oC k [.pv (.int (j:Int))] S=.ok (.pv v) (S.set k (.lst (xs.eraseIdx j))):=by
 have hl:=(List.getElem?_eq_some_iff.mp hv).1;have e:seqIndex? (j:Int) xs.length=some j:=by
  unfold seqIndex?;have h1:¬ ((j:Int) < 0):=by omega
  have h2:(decide (0≤(j:Int)) && decide ((j:Int) < (xs.length:Int)))=true:=by
   simp only [Bool.and_eq_true,decide_eq_true_eq];omega
  simp only [h1,if_false];rw [if_pos h2,Int.toNat_natCast]
 unfold oC;dsimp only;rw [if_pos ⟨by omega,by omega⟩,hS];dsimp only;rw [e];dsimp only;rw [hv]
def wU:List (List Int)→Int
 | []=>1
 | us :: r=>us.getLastD 0*wU r
theorem Gu.mono {n k l:Nat} {us:List Int} (h:Gu n k us) (hl:k≤l):Gu n l us:=by
 obtain ⟨xs,w,e,P⟩:=h;exact ⟨xs,w,e,P.mono hl⟩
theorem Fk {d:Int}:sg d=0↔d=0:=by
 unfold sg;split
 ·omega
 ·split <;> omega
theorem Dn {d:Int}:sg d < 0↔d < 0:=by
 unfold sg;split
 ·omega
 ·split <;> omega
theorem D4 {n k:Nat} (hn:n=2∨n=3) (hk:k≤1000) {uss:List (List Int)} (hl:uss.length=n+1) (hg:∀ us∈uss,Gu n k us):dU (oK uss)=- dU uss:=by
 rcases hn with rfl | rfl
 ·match uss,hl with
  | [a,b,c],_ =>
   obtain ⟨x0,y0,w0,rfl,_⟩:=(hg a (by simp)).two hk;obtain ⟨x1,y1,w1,rfl,_⟩:=(hg b (by simp)).two hk;obtain ⟨x2,y2,w2,rfl,_⟩:=(hg c (by simp)).two hk;show D2 x0 y0 w0 x2 y2 w2 x1 y1 w1=-(D2 x0 y0 w0 x1 y1 w1 x2 y2 w2);unfold D2;grind
 ·match uss,hl with
  | [a,b,c,d],_ =>
   obtain ⟨x0,y0,z0,w0,rfl,_⟩:=(hg a (by simp)).three hk;obtain ⟨x1,y1,z1,w1,rfl,_⟩:=(hg b (by simp)).three hk;obtain ⟨x2,y2,z2,w2,rfl,_⟩:=(hg c (by simp)).three hk;obtain ⟨x3,y3,z3,w3,rfl,_⟩:=(hg d (by simp)).three hk;show D3 x0 y0 z0 w0 x1 y1 z1 w1 x3 y3 z3 w3 x2 y2 z2 w2=-(D3 x0 y0 z0 w0 x1 y1 z1 w1 x2 y2 z2 w2 x3 y3 z3 w3);unfold D3;grind
theorem zP {n k:Nat} (hn:n=2∨n=3) (hk:k≤1000) {uss:List (List Int)} (hl:uss.length=n+1) (hg:∀ us∈uss,Gu n k us):dU (cZ uss)=((dU uss).natAbs:Int):=by
 have hp:=(oV (lQ hn hl)).1;have gs:∀ us∈eP uss,Gu n k us:=fun us hu=>hg us (hp.subset hu);have ls:(eP uss).length=n+1:=by rw [hp.length_eq,hl]
 have e:=Cz hn hk hl hg;have s:=D4 hn hk ls gs;have q:=F0 hn hk ls gs;unfold cZ;split
 ·rename_i h
  rw [q,Dn] at h;rw [s];omega
 ·rename_i h
  rw [q,Dn] at h;omega
theorem uI {n k:Nat}:∀ {uss:List (List Int)},(∀ us∈uss,Gu n k us)→0 < wU uss
 | [],_=>by decide
 | us :: r,h=>by
  unfold wU;obtain ⟨xs,w,rfl,P⟩:=h us List.mem_cons_self;refine Int.mul_pos ?_ (uI fun u hu=>h u (List.mem_cons_of_mem _ hu));rw [show (xs++[w]).getLastD 0=w by simp];exact P.pos
theorem xA {A B:List (List Int)} (hp:A.Perm B) (h:B.length=3∨B.length=4):cZ A=cZ B:=by
 unfold cZ;rw [Uc hp h]
structure Sx (n k:Nat) (uss:List (List Int)):Prop where
 len:uss.length=n+1
 gu:∀ us∈uss,Gu n k us
 nz:dU uss≠0
 cn:cZ uss=uss
abbrev px (uss:List (List Int)):PV:=.tup (uss.map tv)
theorem uP {n k:Nat} (hn:n=2∨n=3) (hk:k≤1000) {uss:List (List Int)} (hl:uss.length=n+1) (hg:∀ us∈uss,Gu n k us) (nz:dU uss≠0):Sx n k (cZ uss):=by
 have hp:=yK (lQ hn hl);refine ⟨by rw [hp.length_eq,hl],fun us hu=>hg us (hp.subset hu),?_,Xy (lQ hn hl)⟩;rw [zP hn hk hl hg];omega
def jN (n:Nat) (A C:Nat→Int) (E:Int) (us us':List Int):Prop:=∃ xs w xs' w',us=xs++[w]∧us'=xs'++[w']∧xs.length=n∧xs'.length=n∧0 < w∧0 < w'∧∀ j,j < n→xs'.getD j 0*(E*w)=(A j*xs.getD j 0+C j*w)*w'
theorem jN.two {A C:Nat→Int} {E:Int} {us us':List Int} (h:jN 2 A C E us us'):∃ x y w x' y' w',us=[x,y,w]∧us'=[x',y',w']∧x'*(E*w)=(A 0*x+C 0*w)*w'∧y'*(E*w)=(A 1*y+C 1*w)*w':=by
 obtain ⟨xs,w,xs',w',rfl,rfl,l,l',_,_,h⟩:=h
 match xs,l,xs',l',h with
 | [x,y],_,[x',y'],_,h=>exact ⟨x,y,w,x',y',w',rfl,rfl,h 0 (by decide),h 1 (by decide)⟩
theorem jN.three {A C:Nat→Int} {E:Int} {us us':List Int} (h:jN 3 A C E us us'):∃ x y z w x' y' z' w',us=[x,y,z,w]∧us'=[x',y',z',w']∧x'*(E*w)=(A 0*x+C 0*w)*w'∧y'*(E*w)=(A 1*y+C 1*w)*w'∧z'*(E*w)=(A 2*z+C 2*w)*w':=by
 obtain ⟨xs,w,xs',w',rfl,rfl,l,l',_,_,h⟩:=h
 match xs,l,xs',l',h with
 | [x,y,z],_,[x',y',z'],_,h=>exact ⟨x,y,z,w,x',y',z',w',rfl,rfl,h 0 (by decide),h 1 (by decide),h 2 (by decide)⟩
theorem X9 (a b c d E x0 y0 w0 x1 y1 w1 x2 y2 w2:Int):D2 (a*x0+c*w0) (b*y0+d*w0) (E*w0) (a*x1+c*w1) (b*y1+d*w1) (E*w1) (a*x2+c*w2) (b*y2+d*w2) (E*w2)=a*b*E*D2 x0 y0 w0 x1 y1 w1 x2 y2 w2:=by
 unfold D2;grind
theorem U7 (a b p c d e E x0 y0 z0 w0 x1 y1 z1 w1 x2 y2 z2 w2 x3 y3 z3 w3:Int):D3 (a*x0+c*w0) (b*y0+d*w0) (p*z0+e*w0) (E*w0) (a*x1+c*w1) (b*y1+d*w1) (p*z1+e*w1) (E*w1) (a*x2+c*w2) (b*y2+d*w2) (p*z2+e*w2) (E*w2) (a*x3+c*w3) (b*y3+d*w3) (p*z3+e*w3) (E*w3)=a*b*p*E*D3 x0 y0 z0 w0 x1 y1 z1 w1 x2 y2 z2 w2 x3 y3 z3 w3:=by
 unfold D3;grind
theorem cm (a b:Int) {c:Int} (h:a*b=c):b*a=c:=by rw [Int.mul_comm]; exact h
theorem aak {A C:Nat→Int} {E:Int} {P Q R P' Q' R':List Int} (h0:jN 2 A C E P P') (h1:jN 2 A C E Q Q') (h2:jN 2 A C E R R'):dU [P',Q',R']*(E*E*E*wU [P,Q,R])=A 0*A 1*E*dU [P,Q,R]*wU [P',Q',R']:=by
 obtain ⟨x0,y0,w0,X0,Y0,W0,rfl,rfl,p,q⟩:=h0.two;obtain ⟨x1,y1,w1,X1,Y1,W1,rfl,rfl,p1,q1⟩:=h1.two;obtain ⟨x2,y2,w2,X2,Y2,W2,rfl,rfl,p2,q2⟩:=h2.two;have e:=Gh (E*w0) (E*w1) (E*w2) X0 Y0 W0 X1 Y1 W1 X2 Y2 W2;have f:=Gh W0 W1 W2 (A 0*x0+C 0*w0) (A 1*y0+C 1*w0) (E*w0) (A 0*x1+C 0*w1) (A 1*y1+C 1*w1) (E*w1) (A 0*x2+C 0*w2) (A 1*y2+C 1*w2) (E*w2);rw [X9] at f;rw [cm _ _ p,cm _ _ q,cm _ _ p1,cm _ _ q1,cm _ _ p2,cm _ _ q2,Int.mul_comm _ W0,Int.mul_comm _ W0,Int.mul_comm _ W0,Int.mul_comm _ W1,Int.mul_comm _ W1,Int.mul_comm _ W1,Int.mul_comm _ W2,Int.mul_comm _ W2,Int.mul_comm _ W2] at e;have g:=e.symm.trans f;show D2 X0 Y0 W0 X1 Y1 W1 X2 Y2 W2*(E*E*E*(w0*(w1*(w2*1))))=A 0*A 1*E*D2 x0 y0 w0 x1 y1 w1 x2 y2 w2*(W0*(W1*(W2*1)));generalize D2 X0 Y0 W0 X1 Y1 W1 X2 Y2 W2=d at g ⊢;generalize D2 x0 y0 w0 x1 y1 w1 x2 y2 w2=d' at g ⊢;clear e f p q p1 q1 p2 q2 h0 h1 h2;grind
theorem Y7 {A C:Nat→Int} {E:Int} {P Q R T P' Q' R' T':List Int} (h0:jN 3 A C E P P') (h1:jN 3 A C E Q Q') (h2:jN 3 A C E R R') (h3:jN 3 A C E T T'):dU [P',Q',R',T']*(E*E*E*E*wU [P,Q,R,T])=A 0*A 1*A 2*E*dU [P,Q,R,T]*wU [P',Q',R',T']:=by
 obtain ⟨x0,y0,z0,w0,X0,Y0,Z0,W0,rfl,rfl,p,q,r⟩:=h0.three;obtain ⟨x1,y1,z1,w1,X1,Y1,Z1,W1,rfl,rfl,p1,q1,r1⟩:=h1.three;obtain ⟨x2,y2,z2,w2,X2,Y2,Z2,W2,rfl,rfl,p2,q2,r2⟩:=h2.three;obtain ⟨x3,y3,z3,w3,X3,Y3,Z3,W3,rfl,rfl,p3,q3,r3⟩:=h3.three;have e:=Qh (E*w0) (E*w1) (E*w2) (E*w3) X0 Y0 Z0 W0 X1 Y1 Z1 W1 X2 Y2 Z2 W2 X3 Y3 Z3 W3;have f:=Qh W0 W1 W2 W3 (A 0*x0+C 0*w0) (A 1*y0+C 1*w0) (A 2*z0+C 2*w0) (E*w0) (A 0*x1+C 0*w1) (A 1*y1+C 1*w1) (A 2*z1+C 2*w1) (E*w1) (A 0*x2+C 0*w2) (A 1*y2+C 1*w2) (A 2*z2+C 2*w2) (E*w2) (A 0*x3+C 0*w3) (A 1*y3+C 1*w3) (A 2*z3+C 2*w3) (E*w3);rw [U7] at f;rw [cm _ _ p,cm _ _ q,cm _ _ r,cm _ _ p1,cm _ _ q1,cm _ _ r1,cm _ _ p2,cm _ _ q2,cm _ _ r2,cm _ _ p3,cm _ _ q3,cm _ _ r3] at e;have cW:∀ a W:Int,a*W=W*a:=Int.mul_comm;rw [cW _ W0,cW _ W0,cW _ W0,cW _ W0,cW _ W1,cW _ W1,cW _ W1,cW _ W1,cW _ W2,cW _ W2,cW _ W2,cW _ W2,cW _ W3,cW _ W3,cW _ W3,cW _ W3] at e;have g:=e.symm.trans f;show D3 X0 Y0 Z0 W0 X1 Y1 Z1 W1 X2 Y2 Z2 W2 X3 Y3 Z3 W3*(E*E*E*E*(w0*(w1*(w2*(w3*1)))))=A 0*A 1*A 2*E*D3 x0 y0 z0 w0 x1 y1 z1 w1 x2 y2 z2 w2 x3 y3 z3 w3*(W0*(W1*(W2*(W3*1))));generalize D3 X0 Y0 Z0 W0 X1 Y1 Z1 W1 X2 Y2 Z2 W2 X3 Y3 Z3 W3=d at g ⊢;generalize D3 x0 y0 z0 w0 x1 y1 z1 w1 x2 y2 z2 w2 x3 y3 z3 w3=d' at g ⊢;clear e f p q r p1 q1 r1 p2 q2 r2 p3 q3 r3 h0 h1 h2 h3 cW;grind
def iD (way:Int) (f us:List Int):List Int:=mv way us.dropLast (us.getLastD 0) f.dropLast (f.getLastD 0)
theorem Ul (way:Int) (xs:List Int) (w:Int) (ys:List Int) (v:Int):iD way (ys++[v]) (xs++[w])=mv way xs w ys v:=by
 unfold iD;simp
theorem mU {n k l:Nat} {way:Int} {us f:List Int} (hway:way=1∨way=-1) (h:Gu n k us) (g:Gu n l f):Gu n (k+l+1) (iD way f us)∧jN n (fun _=>way*f.getLastD 0) (fun j=>f.getD j 0) (f.getLastD 0) us (iD way f us):=by
 obtain ⟨xs,w,rfl,P⟩:=h;obtain ⟨ys,v,rfl,Q⟩:=g;rw [Ul];obtain ⟨zs,z,e,Z,hv⟩:=T9 hway P Q;rw [e];refine ⟨⟨zs,z,rfl,Z⟩,xs,w,zs,z,rfl,rfl,P.len,Z.len,P.pos,Z.pos,fun j hj=>?_⟩;have a:=hv _ _ _ _ (Vl.self n xs w) (Vl.self n ys v) P.pos Q.pos j hj;rw [show (ys++[v]).getLastD 0=v by simp];have eg:(ys++[v]).getD j 0=ys.getD j 0:=by
  have:j < ys.length:=by rw [Q.len]; exact hj
  simp [List.getD,List.getElem?_append_left this]
 dsimp only at a ⊢;rw [eg];generalize ys.getD j 0=y at a ⊢;generalize xs.getD j 0=x at a ⊢;generalize zs.getD j 0=t at a ⊢;rw [Int.mul_comm v w,a];grind
theorem Jz {n k l:Nat} {way:Int} {us f:List Int} (S:aI) (hn:n=2∨n=3) (hway:way=1∨way=-1) (h:Gu n k us) (g:Gu n l f) (hk:k≤1000) (hl:l≤1000):nS [.pv (tv us),.pv (tv f),.pv (.int way)] S=.ok (.pv (tv (iD way f us))) S:=by
 obtain ⟨xs,w,rfl,P⟩:=h;obtain ⟨ys,v,rfl,Q⟩:=g;rw [Ul];exact Qz S hn hway P Q hk hl
theorem Bt {a b w v:Int} (hw:0 < w) (hv:0 < v) (h:a*w=b*v∨a*w=-(b*v)):(a.natAbs:Int)*w=(b.natAbs:Int)*v:=by
 have e:(a*w).natAbs=(b*v).natAbs:=by
  rcases h with h | h
  ·rw [h]
  ·rw [h,Int.natAbs_neg]
 rw [Int.natAbs_mul,Int.natAbs_mul] at e;have e1:((w.natAbs:Nat):Int)=w:=by omega
 have e2:((v.natAbs:Nat):Int)=v:=by omega
 have e3:((a.natAbs*w.natAbs:Nat):Int)=((b.natAbs*v.natAbs:Nat):Int):=by rw [e]
 rw [Int.natCast_mul,Int.natCast_mul,e1,e2] at e3;exact e3
theorem aam {v d d' w w':Int} {way:Int} (hv:0 < v) (hway:way=1∨way=-1) (h:d'*(v*v*v*w)=way*v*(way*v)*v*d*w'):d'*w=d*w':=by
 have e:(d'*w)*(v*v*v)=(d*w')*(v*v*v):=by rcases hway with rfl | rfl <;> grind
 exact uM (Int.mul_pos (Int.mul_pos hv hv) hv) e
theorem aae {v d d' w w':Int} {way:Int} (hv:0 < v) (hway:way=1∨way=-1) (h:d'*(v*v*v*v*w)=way*v*(way*v)*(way*v)*v*d*w'):d'*w=d*w'∨d'*w=-(d*w'):=by
 have p:=Int.mul_pos (Int.mul_pos (Int.mul_pos hv hv) hv) hv;rcases hway with rfl | rfl
 ·left
  have e:(d'*w)*(v*v*v*v)=(d*w')*(v*v*v*v):=by grind
  exact uM p e
 ·right
  have e:(d'*w)*(v*v*v*v)=(-(d*w'))*(v*v*v*v):=by grind
  exact uM p e
theorem uN {n k l:Nat} {way:Int} {f:List Int} {uss:List (List Int)} (hway:way=1∨way=-1) (hg:∀ us∈uss,Gu n k us) (g:Gu n l f):∀ us∈uss.map (iD way f),Gu n (k+l+1) us:=fun us hu=>by
 obtain ⟨u,hm,rfl⟩:=List.mem_map.mp hu;exact (mU hway (hg u hm) g).1
theorem Gu.lastpos {n k:Nat} {f:List Int} (h:Gu n k f):0 < f.getLastD 0:=by
 obtain ⟨xs,w,rfl,P⟩:=h;rw [show (xs++[w]).getLastD 0=w by simp];exact P.pos
theorem G6 {n k l:Nat} (hn:n=2∨n=3) {way:Int} {f:List Int} {uss:List (List Int)} (hway:way=1∨way=-1) (hl:uss.length=n+1) (hg:∀ us∈uss,Gu n k us) (g:Gu n l f):((dU (uss.map (iD way f))).natAbs:Int)*wU uss=((dU uss).natAbs:Int)*wU (uss.map (iD way f)):=by
 have hv:=g.lastpos;have p1:=uI hg;have p2:=uI (uN hway hg g);refine Bt p1 p2 ?_;rcases hn with rfl | rfl
 ·match uss,hl,hg with
  | [a,b,c],_,hg =>
   have e:=aak (mU hway (hg a (by simp)) g).2 (mU hway (hg b (by simp)) g).2 (mU hway (hg c (by simp)) g).2;exact .inl (aam hv hway e)
 ·match uss,hl,hg with
  | [a,b,c,d],_,hg =>
   have e:=Y7 (mU hway (hg a (by simp)) g).2 (mU hway (hg b (by simp)) g).2 (mU hway (hg c (by simp)) g).2 (mU hway (hg d (by simp)) g).2;exact aae hv hway e
theorem P6 {n k l:Nat} (hn:n=2∨n=3) {way:Int} {f:List Int} {uss:List (List Int)} (hway:way=1∨way=-1) (hl:uss.length=n+1) (hg:∀ us∈uss,Gu n k us) (g:Gu n l f) (h:dU uss≠0):dU (uss.map (iD way f))≠0:=fun z=>by
 have e:=G6 hn hway hl hg g;rw [z] at e;have p2:=uI (uN hway hg g);have:((dU uss).natAbs:Int)*wU (uss.map (iD way f))≠0:=Int.mul_ne_zero (by omega) (Int.ne_of_gt p2);exact this (by rw [← e]; simp)
theorem qY {G:Gd} {S:aI} (hG:gJ G S) {me:ME} {tail:bR} {α:Type} (A B:α→PV):∀ (L:List α) (x:Option AV),(∀ v∈L,me (some (.pv (A v)) :: tail) S=.ok (.pv (B v)) S)→cE G (gN 0) me (L.map A) (x :: tail) S=.ok (L.map B) S
 | [],x,_=>Qv hG
 | v :: L,x,h=>by
  have e:=h v List.mem_cons_self;have e':=qY hG A B L (some (.pv (A v))) fun u hu=>h u (List.mem_cons_of_mem _ hu);rw [List.map_cons,Zy hG];simp [gN,e,e']
def nH (way:Int) (f:List Int) (uss:List (List Int)):List (List Int):=cZ (uss.map (iD way f))
theorem N9 {n k l:Nat} (hn:n=2∨n=3) {way:Int} {f:List Int} {uss:List (List Int)} (hway:way=1∨way=-1) (h:Sx n k uss) (g:Gu n l f) (hk:k+l+1≤1000):Sx n (k+l+1) (nH way f uss) :=
 uP hn hk (by rw [List.length_map]; exact h.len) (uN hway h.gu g) (P6 hn hway h.len h.gu g h.nz)
def sh (n:Nat):Int:=if n=2 then 2 else 6
theorem mk {k l:Nat} {a b:Int} (h:Bd k a) (g:Bd l b) (hk:k≤100000) (hl:l≤100000):bA (.int a) (.int b)=some (.int (a*b)):=pI (.inr ⟨h.mono (by omega),g.mono (by omega)⟩)
theorem Qx {n k l:Nat} (hn:n=2∨n=3) {way:Int} {f:List Int} (S:aI) (hway:way=1∨way=-1) {uss:List (List Int)} (h:Sx n k uss) (g:Gu n l f) (hk:k+l+1≤1000):jT [.pv (px uss),.pv (.int way),.pv (tv f)] S=.ok (.pv (px (nH way f uss))) S:=by
 have e1:cE [] (gN 0) (aJ nS [] (aB (aA 0) (aB (aA 1) (aB (aA 2) aD)))) (uss.map tv) [none,some (.pv (tv f)),some (.pv (.int way))] S=.ok (uss.map (tv ∘ iD way f)) S:=by
  refine qY (kM S) tv (tv ∘ iD way f) uss none fun us hu=>?_;have e:=Jz (way:=way) S hn hway (h.gu us hu) g (by omega) (by omega);simp [EC,aE,aZ,aY,aS,aO,aP,aR,aQ,aF,aN,e]
 have e2:=Jd (uss:=uss.map (iD way f)) (A:=.lst ((uss.map (iD way f)).map tv)) hn S (by rw [List.length_map]; exact h.len) (fun us hu=>(uN hway h.gu g us hu).mono hk) (.inl rfl);rw [List.map_map] at e2;unfold jT aX yZ;simp [EC,aE,aZ,aY,aS,aO,aP,aR,aQ,aF,aN,bB,cO,bH,cN,e1,e2,nH]
abbrev li (xs:List Int):List PV:=xs.map .int
abbrev lv (xs:List Int):PV:=.lst (li xs)
abbrev cM (xss:List (List Int)):PV:=.lst (xss.map lv)
structure Rw (n:Nat) (xss:List (List Int)):Prop where
 len:xss.length=n+1
 l:∀ xs∈xss,xs.length=n
 b:∀ xs∈xss,∀ x∈xs,-8 < x∧x < 8
 nz:dU (xss.map (·++[1]))≠0
theorem xO {α β:Type} (f:α→β):∀ (R:List α) (j:Nat),(R.map f).eraseIdx j=(R.eraseIdx j).map f
 | [],j=>by simp
 | a :: R,0=>by simp
 | a :: R,j+1=>by simp [xO f R j]
theorem ix3:∀ v < 3,aY 3 ((v:Nat):Int)=some v:=by decide
abbrev oP:MS:=(aH (jX (aA 2) (kC (aA 1) (aB (aJ bU [] (aB (aA 0) (aB (mR cF (aB (aA 1) aD)) aD))) aD)) (mC (.int 1)))
 (cS (rX (aA 3) (aB (aA 2) aD))))
abbrev qO:MS:=(bZ (bE (aC bT (aJ bU [] (aB (aA 0) (aB (mC (.int 4)) aD))) (mC (.int 3)))) (oF 3 2 5) cY)
theorem Qa (ns:List Int) (hl:List PV) (R C:List Int) (L:List (List Int)) (x4 x5:Option AV) (hR0:0 < R.length) (hR3:R.length≤3) (hv:∀ v∈R,0≤v∧v < 3) (hC:C.length=3) (hL:L.length≤9) :
  ∃ (j v:Nat) (ns':List Int),j < R.length∧R[j]?=some (v:Int)∧oP [some (.ref 0),some (.ref 2),some (.ref 3),some (.ref 4),x4,x5] [.lst (li ns),.lst hl,.lst (li R),.lst (li C),.lol (L.map li)]
   = .nx [some (.ref 0),some (.ref 2),some (.ref 3),some (.ref 4),x4,x5] [.lst (li ns'),.lst hl,.lst (li (R.eraseIdx j)),.lst (li (C.set v 1)),.lol ((L++[C.set v 1]).map li)]:=by
 have hr:dY [.lst (li ns),.lst hl,.lst (li R),.lst (li C),.lol (L.map li)] 0 ns:=rfl;obtain ⟨t,n1,e1,t0,t1,_⟩:=gH (m:=(R.length:Int)) hr (by omega) (gM (by omega) (by omega));simp only [List.set_cons_zero] at e1;obtain ⟨j,rfl⟩:∃ j:Nat,t=(j:Int):=⟨t.toNat,by omega⟩;have hj:j < R.length:=by omega
 obtain ⟨v,ev⟩:∃ v:Nat,R[j]=(v:Int):=⟨R[j].toNat,by have:=hv _ (List.getElem_mem hj); omega⟩;have hv3:v < 3:=by have:=hv _ (List.getElem_mem hj); omega
 have hq:R[j]?=some (v:Int):=by rw [List.getElem?_eq_getElem hj,ev]
 have ep:=Pm (S:=[.lst (li n1),.lst hl,.lst (li R),.lst (li C),.lol (L.map li)]) (k:=2) (j:=j) (xs:=li R) (v:=.int v) rfl (by rw [List.getElem?_map,hq]; rfl) (by omega);simp only [List.set_cons_succ,List.set_cons_zero] at ep;have er:(li R).eraseIdx j=li (R.eraseIdx j):=xO _ _ _;rw [er] at ep;have ei:aY (li C).length (v:Int)=some v:=by
  rw [List.length_map,hC];exact ix3 v hv3
 have ec:(li C).set v (.int 1)=li (C.set v 1):=by simp [li,List.map_set]
 refine ⟨j,v,n1,hj,hq,?_⟩;have e1':bU [.ref 0,.pv (.int ((li R).length:Int))] [.lst (li ns),.lst hl,.lst (li R),.lst (li C),.lol (L.map li)]=.ok (.pv (.int (j:Int))) [.lst (li n1),.lst hl,.lst (li R),.lst (li C),.lol (L.map li)]:=by
  rw [List.length_map];exact e1
 have el:(L++[C.set v 1]).map li=L.map li++[li (C.set v 1)]:=by simp
 rw [el];have lz:(L.map li).length < 16777216:=by rw [List.length_map]; omega
 generalize li n1=NL1,li ns=NL,(j:Int)=J,li R=RL,li (R.eraseIdx j)=RE,li C=CL,li (C.set v 1)=CS,L.map li=LL at *;unfold oP;simp [EC,bI,aO,aP,aR,aQ,aF,aN,jX,mZ,kC,rX,sK,eO,e1',ep,ei,ec,lz]
def k6:List (List (List Int)):=[[[0,0,0],[1,0,0],[1,1,0],[1,1,1]],[[0,0,0],[1,0,0],[1,0,1],[1,1,1]],[[0,0,0],[0,1,0],[1,1,0],[1,1,1]],[[0,0,0],[0,1,0],[0,1,1],[1,1,1]],[[0,0,0],[0,0,1],[1,0,1],[1,1,1]],[[0,0,0],[0,0,1],[0,1,1],[1,1,1]]]
theorem aaw {R:List Int} {j v:Nat} {a b c:Int} (h:R=[a,b,c]) (hj:j < R.length) (e:R[j]?=some (v:Int)):(j=0∧(v:Int)=a)∨(j=1∧(v:Int)=b)∨(j=2∧(v:Int)=c):=by
 subst h
 match j,hj,e with
 | 0,_,e=>simp at e; exact .inl ⟨rfl,e.symm⟩
 | 1,_,e=>simp at e; exact .inr (.inl ⟨rfl,e.symm⟩)
 | 2,_,e=>simp at e; exact .inr (.inr ⟨rfl,e.symm⟩)
theorem aao {R:List Int} {j v:Nat} {a b:Int} (h:R=[a,b]) (hj:j < R.length) (e:R[j]?=some (v:Int)):(j=0∧(v:Int)=a)∨(j=1∧(v:Int)=b):=by
 subst h
 match j,hj,e with
 | 0,_,e=>simp at e; exact .inl ⟨rfl,e.symm⟩
 | 1,_,e=>simp at e; exact .inr ⟨rfl,e.symm⟩
theorem Y9 {R:List Int} {j v:Nat} {a:Int} (h:R=[a]) (hj:j < R.length) (e:R[j]?=some (v:Int)):j=0∧(v:Int)=a:=by
 subst h
 match j,hj,e with
 | 0,_,e=>simp at e; exact ⟨rfl,e.symm⟩
theorem k3 (ns:List Int) (hl:List PV) (R C:List Int) (A:List (List Int)) (a b c:Nat) (x4 x5:Option AV) (hR:R=[(c:Int)]) (hc:c < 3) (hC:C.length=3) (hA:A.length≤9) (ks:List (List (List Int))) (hk:A++[C.set c 1]∈ks) :
  ∃ (xss:List (List Int)) (ns':List Int) (C':List Int),xss∈ks∧dM [] (gN 4) oP [.int 2] [some (.ref 0),some (.ref 2),some (.ref 3),some (.ref 4),x4,x5] [.lst (li ns),.lst hl,.lst (li R),.lst (li C),.lol (A.map li)]
   = .nx [some (.ref 0),some (.ref 2),some (.ref 3),some (.ref 4),some (.pv (.int 2)),x5] [.lst (li ns'),.lst hl,.lst [],.lst (li C'),.lol (xss.map li)]:=by
 obtain ⟨j,v,n1,hj,e,h⟩:=Qa ns hl R C A (some (.pv (.int 2))) x5 (by rw [hR]; simp) (by rw [hR]; simp) (by rw [hR]; simp; omega) hC hA;obtain ⟨rfl,ev⟩:=Y9 hR hj e;have:v=c:=by omega
 subst this;subst hR;refine ⟨_,n1,C.set v 1,hk,?_⟩;rw [eM];simp only [gN,List.set_cons_succ,List.set_cons_zero];rw [h];exact fG
theorem k2 (ns:List Int) (hl:List PV) (R C:List Int) (A:List (List Int)) (b c:Nat) (x4 x5:Option AV) (hR:R=[(b:Int),(c:Int)]) (hb:b < 3) (hc:c < 3) (hC:C.length=3) (hA:A.length≤8) (ks:List (List (List Int))) (h1:A++[C.set b 1]++[(C.set b 1).set c 1]∈ks) (h2:A++[C.set c 1]++[(C.set c 1).set b 1]∈ks) :
  ∃ (xss:List (List Int)) (ns':List Int) (C':List Int),xss∈ks∧dM [] (gN 4) oP [.int 1,.int 2] [some (.ref 0),some (.ref 2),some (.ref 3),some (.ref 4),x4,x5] [.lst (li ns),.lst hl,.lst (li R),.lst (li C),.lol (A.map li)]
   = .nx [some (.ref 0),some (.ref 2),some (.ref 3),some (.ref 4),some (.pv (.int 2)),x5] [.lst (li ns'),.lst hl,.lst [],.lst (li C'),.lol (xss.map li)]:=by
 obtain ⟨j,v,n1,hj,e,h⟩:=Qa ns hl R C A (some (.pv (.int 1))) x5 (by rw [hR]; simp) (by rw [hR]; simp) (by rw [hR]; simp; omega) hC (by omega);rw [eM];simp only [gN,List.set_cons_succ,List.set_cons_zero];rw [h];rcases aao hR hj e with ⟨rfl,ev⟩ | ⟨rfl,ev⟩
 ·have:v=b:=by omega
  subst this;subst hR;exact k3 n1 hl _ (C.set v 1) _ 0 0 c _ x5 rfl hc (by rw [List.length_set]; exact hC) (by simp; omega) ks h1
 ·have:v=c:=by omega
  subst this;subst hR;exact k3 n1 hl _ (C.set v 1) _ 0 0 b _ x5 rfl hb (by rw [List.length_set]; exact hC) (by simp; omega) ks h2
theorem k1 (ns:List Int) (hl:List PV) (x4 x5:Option AV) :
  ∃ (xss:List (List Int)) (ns':List Int) (C':List Int),xss∈k6∧dM [] (gN 4) oP [.int 0,.int 1,.int 2] [some (.ref 0),some (.ref 2),some (.ref 3),some (.ref 4),x4,x5] [.lst (li ns),.lst hl,.lst (li [0,1,2]),.lst (li [0,0,0]),.lol ([[0,0,0]].map li)]
   = .nx [some (.ref 0),some (.ref 2),some (.ref 3),some (.ref 4),some (.pv (.int 2)),x5] [.lst (li ns'),.lst hl,.lst [],.lst (li C'),.lol (xss.map li)]:=by
 obtain ⟨j,v,n1,hj,e,h⟩:=Qa ns hl [0,1,2] [0,0,0] [[0,0,0]] (some (.pv (.int 0))) x5 (by decide) (by decide) (by decide) rfl (by decide);rw [eM];simp only [gN,List.set_cons_succ,List.set_cons_zero];rw [h];rcases aaw rfl hj e with ⟨rfl,ev⟩ | ⟨rfl,ev⟩ | ⟨rfl,ev⟩
 ·have:v=0:=by omega
  subst this;exact k2 n1 hl _ [1,0,0] _ 1 2 _ x5 rfl (by decide) (by decide) rfl (by decide) k6 (by decide) (by decide)
 ·have:v=1:=by omega
  subst this;exact k2 n1 hl _ [0,1,0] _ 0 2 _ x5 rfl (by decide) (by decide) rfl (by decide) k6 (by decide) (by decide)
 ·have:v=2:=by omega
  subst this;exact k2 n1 hl _ [0,0,1] _ 0 1 _ x5 rfl (by decide) (by decide) rfl (by decide) k6 (by decide) (by decide)
def qL (m:Nat) (xs:List Int):List Int:=xs.set m (1 - xs.getD m 0)
theorem Dt {m:Nat} {xs:List Int} (h:xs.length=3) (hm:m < 3):uS (m:Int) (li xs)=some (li (qL m xs)):=by
 match xs,h,m,hm with
 | [a,b,c],_,0,_=>rfl
 | [a,b,c],_,1,_=>rfl
 | [a,b,c],_,2,_=>rfl
theorem Ug {m:Nat} (hm:m < 3):∀ {L:List (List Int)},(∀ xs∈L,xs.length=3)→pR (m:Int) (L.map li)=some ((L.map (qL m)).map li)
 | [],_=>rfl
 | xs :: L,h=>by
  have e1:=Dt (h xs List.mem_cons_self) hm;have e2:=Ug hm fun ys hy=>h ys (List.mem_cons_of_mem _ hy);simp only [List.map_cons];unfold pR;rw [e1,e2]
theorem Y5 {a b c d:List PV} {L:List (List PV)}:wA 4 [.lst a,.lst b,.lst c,.lst d,.lol L]:=fun j o e n=>by
 match j,e with
 | 0,e=>cases e; exact ⟨_,rfl⟩
 | 1,e=>cases e; exact ⟨_,rfl⟩
 | 2,e=>cases e; exact ⟨_,rfl⟩
 | 3,e=>cases e; exact ⟨_,rfl⟩
 | 4,e=>exact absurd rfl n
 | j+5,e=>simp at e
def kI (b:Bool) (m:Nat) (L:List (List Int)):List (List Int):=if b then L.map (qL m) else L
theorem Gb (m:Nat) (hm:m < 3) (ns:List Int) (a b c:List PV) (L:List (List Int)) (hL:∀ xs∈L,xs.length=3) (x2 x4:Option AV) :
  ∃ (f:Bool) (ns':List Int) (y2:Option AV),qO [some (.ref 0),some (.ref 2),x2,some (.ref 4),x4,some (.pv (.int (m:Int)))] [.lst (li ns),.lst a,.lst b,.lst c,.lol (L.map li)]
   = .nx [some (.ref 0),some (.ref 2),y2,some (.ref 4),x4,some (.pv (.int (m:Int)))] [.lst (li ns'),.lst a,.lst b,.lst c,.lol ((kI f m L).map li)]:=by
 have hr:dY [.lst (li ns),.lst a,.lst b,.lst c,.lol (L.map li)] 0 ns:=rfl;obtain ⟨t,n1,e1,t0,t1,_⟩:=gH (m:=4) hr (by decide) (gM (by decide) (by decide));simp only [List.set_cons_zero] at e1;have e1:bU [.ref 0,.pv (.int 4)] [.lst (li ns),.lst a,.lst b,.lst c,.lol (L.map li)]=.ok (.pv (.int t)) [.lst (li n1),.lst a,.lst b,.lst c,.lol (L.map li)]:=e1;have ef:=Ug hm hL
 by_cases h:t=3
 ·refine ⟨true,n1,none,?_⟩
  have hf:oF 3 2 5 [some (.ref 0),some (.ref 2),x2,some (.ref 4),x4,some (.pv (.int (m:Int)))] [.lst (li n1),.lst a,.lst b,.lst c,.lol (L.map li)]=.nx [some (.ref 0),some (.ref 2),none,some (.ref 4),x4,some (.pv (.int (m:Int)))] [.lst (li n1),.lst a,.lst b,.lst c,.lol ((L.map (qL m)).map li)]:=by
   unfold oF;dsimp only [List.getElem?_cons_succ,List.getElem?_cons_zero];rw [if_pos ⟨Y5,by simp⟩,ef];rfl
  unfold qO;have:kI true m L=L.map (qL m):=rfl;rw [this];simp [EC,aE,aZ,aY,aS,aO,aP,aR,aQ,aF,aN,e1,h,hf]
 ·refine ⟨false,n1,x2,?_⟩
  unfold qO;have:kI false m L=L:=rfl;rw [this];simp [EC,aE,aZ,aY,aS,aO,aP,aR,aQ,aF,aN,e1,h]
theorem zA {b:Bool} {m:Nat} {L:List (List Int)} (h:∀ xs∈L,xs.length=3):∀ xs∈kI b m L,xs.length=3:=by
 unfold kI;split
 ·intro xs hx
  obtain ⟨ys,hy,rfl⟩:=List.mem_map.mp hx;unfold qL;rw [List.length_set];exact h ys hy
 ·exact h
def Mc (xss:List (List Int)):Bool:=decide (xss.length=4) && xss.all (fun xs=>decide (xs.length=3) && xs.all fun x=>decide (-8 < x) && decide (x < 8)) && decide (dU (xss.map (·++[1]))≠0)
theorem F1 {xss:List (List Int)} (h:Mc xss=true):Rw 3 xss:=by
 unfold Mc at h;simp only [Bool.and_eq_true,decide_eq_true_eq,List.all_eq_true] at h;exact ⟨h.1.1,fun xs hx=>(h.1.2 xs hx).1,fun xs hx x hh=>(h.1.2 xs hx).2 x hh,h.2⟩
theorem sO:∀ xss∈k6,∀ a b c:Bool,Mc (kI c 2 (kI b 1 (kI a 0 xss)))=true:=by decide +kernel
theorem N8:∀ xss∈k6,∀ xs∈xss,xs.length=3:=by decide
theorem Go {a b:List PV}:Pl [.lst a,.lst b]:=fun j o e=>by
 match j,e with
 | 0,e=>cases e; exact ⟨_,rfl⟩
 | 1,e=>cases e; exact ⟨_,rfl⟩
 | j+2,e=>simp at e
theorem Xx (ns:List Int) (hl:List PV):∃ (xss:List (List Int)) (ns':List Int),pN [.ref 0] [.lst (li ns),.lst hl]=.ok (.pv (cM xss)) [.lst (li ns'),.lst hl]∧Rw 3 xss:=by
 obtain ⟨L,n1,C,hm,e1⟩:=k1 ns hl none none;have l0:=N8 L hm;obtain ⟨fa,n2,y2,e2⟩:=Gb 0 (by decide) n1 hl [] (li C) L l0 (some (.ref 3)) (some (.pv (.int 2)));obtain ⟨fb,n3,y3,e3⟩:=Gb 1 (by decide) n2 hl [] (li C) _ (zA l0) y2 (some (.pv (.int 2)));obtain ⟨fc,n4,y4,e4⟩:=Gb 2 (by decide) n3 hl [] (li C) _ (zA (zA l0)) y3 (some (.pv (.int 2)));have c0:((0:Nat):Int)=0:=rfl;have c1:((1:Nat):Int)=1:=rfl;have c2:((2:Nat):Int)=2:=rfl;rw [c0] at e2;rw [c1] at e3;rw [c2] at e4;have hw:=sO L hm fa fb fc;generalize kI fc 2 (kI fb 1 (kI fa 0 L))=X at hw e4;refine ⟨X,n4,?_,F1 hw⟩;have ex:(X.map li).map PV.lst=X.map lv:=by rw [List.map_map]; rfl
 have e5:dM [] (gN 5) qO [.int 0,.int 1,.int 2] [some (.ref 0),some (.ref 2),some (.ref 3),some (.ref 4),some (.pv (.int 2)),none] [.lst (li n1),.lst hl,.lst [],.lst (li C),.lol (L.map li)]
   = .nx [some (.ref 0),some (.ref 2),y4,some (.ref 4),some (.pv (.int 2)),some (.pv (.int 2))] [.lst (li n4),.lst hl,.lst [],.lst (li C),.lol (X.map li)]:=by
  rw [eM];simp only [gN,List.set_cons_succ,List.set_cons_zero];rw [e2];dsimp only;rw [eM];simp only [gN,List.set_cons_succ,List.set_cons_zero];rw [e3];dsimp only;rw [eM];simp only [gN,List.set_cons_succ,List.set_cons_zero];rw [e4];exact fG
 unfold pN oO;rw [if_pos ⟨rfl,Go⟩];have eb:tW (gY 6 [.ref 0]) [.lst (li ns),.lst hl]=.rt (.ref 4) [.lst (li n4),.lst hl,.lst [],.lst (li C),.lol (X.map li)]:=by
  simp only [li,List.map_cons,List.map_nil] at e1;have hb:tW=(aH (aK 1 (fA (aB (mC (.int 0)) (aB (mC (.int 1)) (aB (mC (.int 2)) aD)))))
   (aH (aK 2 (fA (aB (mC (.int 0)) (aB (mC (.int 0)) (aB (mC (.int 0)) aD)))))
   (aH (aK 3 (sJ (aB (aA 2) aD)))
   (aH (bJ (bO (aB (mC (.int 3)) aD)) (gN 4) oP)
   (aH (bJ (bO (aB (mC (.int 3)) aD)) (gN 5) qO)
   (bG (aA 3))))))):=rfl
  rw [hb];generalize oP=B1,qO=B2 at *;simp [EC,aE,aZ,aY,aS,aO,aP,aR,aQ,aF,aN,fA,lR,sJ,Xa,bJ,bO,hrg,e1,e5]
 rw [eb];unfold uB;simp [Go,ex]
theorem Hs (L:List PV) (p:PV) (h:L≠[]):∃ v∈L,aE (.lst L) (.int (-1))=some v:=by
 have hl:0 < L.length:=List.length_pos_iff.mpr h;refine ⟨L[L.length - 1]'(by omega),List.getElem_mem _,?_⟩;show aZ L (-1)=_;unfold aZ;have e:aY L.length (-1)=some (L.length - 1):=by
  unfold aY;rw [if_neg (by decide),if_pos (by omega)];congr 1;omega
 rw [e];exact List.getElem?_eq_getElem _
theorem sI {x:Int} (h:-1000 < x) (g:x < 1000):Bd 10 x:=by
 unfold Bd;have:x.natAbs < 1000:=by omega
 omega
theorem oN (S:aI) {n:Nat} (h:n≤9):fU [.pv (.int (n:Int))] S=.ok (cX 0 n,[]) S:=by
 have e:fU [.pv (.int (n:Int))] S=@ite _ ((n:Int)≤16777216∧-16777216≤(n:Int)) (Classical.propDecidable _) (.ok (cX 0 (n:Int).toNat,[]) S) .fail:=rfl;rw [e,if_pos ⟨by omega,by omega⟩,Int.toNat_natCast]
theorem Dh {S:aI} {k:Nat} {ns:List Int} (h:dY S k ns):S.set k (.lst (ns.map .int))=S:=List.ext_getElem? fun j=>by
 by_cases q:k=j
 ·subst q
  rw [List.getElem?_set_self h.lt];exact h.symm
 ·rw [List.getElem?_set_ne q]
theorem Tg {k:Nat} {W:Int} (W0:0≤W) (W1:W≤2):∀ (is:List PV) (S:aI) (ns:List Int) (x:Option AV),dY S k ns→∃ (xs ns':List Int),cE [] (gN 0) (aJ bU [] (aB (aA 1) (aB (aC aF (aA 2) (mC (.int 1))) aD))) is [x,some (.ref k),some (.pv (.int W))] S=.ok (li xs) (S.set k (.lst (li ns')))∧xs.length=is.length∧∀ n∈xs,0≤n∧n≤2
 | [],S,ns,x,h=>by
  refine ⟨[],ns,?_,rfl,fun _ h=>absurd h List.not_mem_nil⟩;rw [show S.set k (.lst (li ns))=S from Dh h];exact eA
 | i :: is,S,ns,x,h=>by
  obtain ⟨t,n1,e1,t0,t1,_⟩:=gH (m:=W+1) h (by omega) (gM (by omega) (by omega));obtain ⟨xs,n2,e2,l2,b2⟩:=Tg W0 W1 is _ n1 (some (.pv i)) (h.set n1);rw [List.set_set] at e2;refine ⟨t :: xs,n2,?_,by simp [l2],fun n hn=>?_⟩
  ·rw [eD]
   generalize S.set k (.lst (n1.map .int))=S1 at e1 e2;simp [gN,EC,aE,aZ,aY,aS,aO,aP,aR,aQ,aF,aN,e1,e2]
  ·rcases List.mem_cons.mp hn with rfl | hn
   ·omega
   ·exact b2 n hn
abbrev rB:MS:=(cS (dQ (aA 3) (aB (bB ["_law_m"] [(0,"_law_row_here"),(2,"_law_wide")] (bO (aB (aA 1) aD)) (gN 0) (aJ bU [] (aB (aA 1) (aB (aC aF (aA 2) (mC (.int 1))) aD)))) aD)))
theorem Xh {n:Nat} (hn:n≤9) {W:Int} (W0:0≤W) (W1:W≤2) (hl:List PV):∀ (is:List PV) (L:List (List Int)) (ns:List Int) (x4:Option AV),L.length+is.length≤99→∃ (L':List (List Int)) (ns':List Int) (y4:Option AV),
  dM [] (gN 4) rB is [some (.ref 0),some (.pv (.int (n:Int))),some (.pv (.int W)),some (.ref 2),x4] [.lst (li ns),.lst hl,.lst (L.map lv)]=.nx [some (.ref 0),some (.pv (.int (n:Int))),some (.pv (.int W)),some (.ref 2),y4] [.lst (li ns'),.lst hl,.lst ((L++L').map lv)]
   ∧ L'.length=is.length∧∀ xs∈L',xs.length=n∧∀ x∈xs,0≤x∧x≤2
 | [],L,ns,x4,h9=>⟨[],ns,x4,by rw [List.append_nil]; exact fG,rfl,fun _ h=>absurd h List.not_mem_nil⟩
 | i :: is,L,ns,x4,h9=>by
  have hr:dY [.lst (li ns),.lst hl,.lst (L.map lv)] 0 ns:=rfl;obtain ⟨xs,n1,e1,l1,b1⟩:=Tg W0 W1 (cX 0 n) _ ns none hr;simp only [List.set_cons_zero] at e1;have h9:L.length+(is.length+1)≤99:=h9;obtain ⟨L',n2,y4,e2,l2,b2⟩:=Xh hn W0 W1 hl is (L++[xs]) n1 (some (.pv i)) (by rw [List.length_append,List.length_singleton]; omega);refine ⟨xs :: L',n2,y4,?_,by simp [l2],fun ys hy=>?_⟩
  ·rw [eM]
   have es:rB [some (.ref 0),some (.pv (.int (n:Int))),some (.pv (.int W)),some (.ref 2),some (.pv i)] [.lst (li ns),.lst hl,.lst (L.map lv)]=.nx [some (.ref 0),some (.pv (.int (n:Int))),some (.pv (.int W)),some (.ref 2),some (.pv i)] [.lst (li n1),.lst hl,.lst ((L++[xs]).map lv)]:=by
    have el:(L++[xs]).map lv=L.map lv++[lv xs]:=by simp
    rw [el];have lz:(L.map lv).length < 16777216:=by rw [List.length_map]; omega
    have rg:=oN [.lst (li ns),.lst hl,.lst (L.map lv)] hn;unfold rB;generalize (n:Int)=N,cX 0 n=IP,li ns=NL,L.map lv=LL at *;simp [EC,aE,aZ,aY,aS,aO,aP,aR,aQ,aF,aN,dQ,eO,iI,bB,cO,bO,rg,e1,lz]
   simp only [gN,List.set_cons_succ,List.set_cons_zero];rw [es];dsimp only;rw [e2,List.append_assoc];rfl
  ·rcases List.mem_cons.mp hy with rfl | hy
   ·exact ⟨by rw [l1]; unfold cX; simp,b1⟩
   ·exact b2 ys hy
theorem G4 {S:aI} {ti:Nat} {a b c d e f:Int} (h:S[ti]?=some (.lst [lv [a,b],lv [c,d],lv [e,f]])) (ha:0≤a∧a≤2) (hb:0≤b∧b≤2) (hc:0≤c∧c≤2) (hd:0≤d∧d≤2) (he:0≤e∧e≤2) (hf:0≤f∧f≤2):mK [.ref ti] S=.ok (.pv (.int (D2 a b 1 c d 1 e f 1))) S:=by
 have id:(c - a)*(f - b) - (d - b)*(e - a)=D2 a b 1 c d 1 e f 1:=by
  unfold D2;grind
 have b1:Bd 10 (c - a):=sI (by omega) (by omega);have b2:Bd 10 (d - b):=sI (by omega) (by omega);have b3:Bd 10 (e - a):=sI (by omega) (by omega);have b4:Bd 10 (f - b):=sI (by omega) (by omega);have m1:=fE b1 b4;have m2:=fE b2 b3;generalize D2 a b 1 c d 1 e f 1=D at *;have s1:=uU (lv [a,b]) [lv [c,d],lv [e,f]];have et:jU [.pv (.lst [.lst [.int (c - a),.int (d - b)],.lst [.int (e - a),.int (f - b)]])] S=.ok (.pv (.int D)) S:=by
  unfold jU aX pJ;simp [EC,aE,aZ,aY,aS,aO,aP,aR,aQ,aF,aN,m1,m2,id]
 unfold mK aX sV;simp only [lv,li,List.map_cons,List.map_nil] at h s1;simp [EC,aE,aZ,aY,aS,aO,aP,aR,aQ,aF,aN,bB,bH,cN,dF,dH,dE,iG,h,s1,cO,eD,eA,gN,gT,cJ,eC,jM,mY,fS,et]
theorem O1 {S:aI} {ti:Nat} {x0 y0 z0 x1 y1 z1 x2 y2 z2 x3 y3 z3:Int} (h:S[ti]?=some (.lst [lv [x0,y0,z0],lv [x1,y1,z1],lv [x2,y2,z2],lv [x3,y3,z3]])) (hb:∀ x∈[x0,y0,z0,x1,y1,z1,x2,y2,z2,x3,y3,z3],0≤x∧x≤2):mK [.ref ti] S=.ok (.pv (.int (D3 x0 y0 z0 1 x1 y1 z1 1 x2 y2 z2 1 x3 y3 z3 1))) S:=by
 have id:dt [(y1 - y0)*(z2 - z0) - (z1 - z0)*(y2 - y0),(z1 - z0)*(x2 - x0) - (x1 - x0)*(z2 - z0),(x1 - x0)*(y2 - y0) - (y1 - y0)*(x2 - x0)] [x3 - x0,y3 - y0,z3 - z0]=D3 x0 y0 z0 1 x1 y1 z1 1 x2 y2 z2 1 x3 y3 z3 1:=by
  simp only [dt,D3,List.zipWith_cons_cons,List.zipWith_nil_left,List.sum_cons,List.sum_nil];grind
 simp only [List.mem_cons,List.not_mem_nil,or_false,forall_eq_or_imp,forall_eq] at hb;have q:∀ {a b:Int},(0≤a∧a≤2)→(0≤b∧b≤2)→Bd 10 (a - b):=fun h g=>sI (by omega) (by omega);obtain ⟨hx0,hy0,hz0,hx1,hy1,hz1,hx2,hy2,hz2,hx3,hy3,hz3⟩:=hb;have b1:=q hx1 hx0;have b2:=q hy1 hy0;have b3:=q hz1 hz0;have b4:=q hx2 hx0;have b5:=q hy2 hy0;have b6:=q hz2 hz0;have b7:=q hx3 hx0;have b8:=q hy3 hy0;have b9:=q hz3 hz0;clear hx0 hy0 hz0 hx1 hy1 hz1 hx2 hy2 hz2 hx3 hy3 hz3 q;generalize D3 x0 y0 z0 1 x1 y1 z1 1 x2 y2 z2 1 x3 y3 z3 1=D at *;have s1:=uU (lv [x0,y0,z0]) [lv [x1,y1,z1],lv [x2,y2,z2],lv [x3,y3,z3]];have et:jU [.pv (.lst [.lst [.int (x1 - x0),.int (y1 - y0),.int (z1 - z0)],.lst [.int (x2 - x0),.int (y2 - y0),.int (z2 - z0)],.lst [.int (x3 - x0),.int (y3 - y0),.int (z3 - z0)]])] S=.ok (.pv (.int D)) S:=by
  generalize z3 - z0=T2,y3 - y0=T1,x3 - x0=T0,z2 - z0=V2,y2 - y0=V1,x2 - x0=V0,z1 - z0=U2,y1 - y0=U1,x1 - x0=U0 at *;have u:∀ {a:Int},Bd 10 a→Bd 10000 a:=fun h=>h.mono (by decide);have u2:∀ {a:Int},Bd 10 a→Bd 100000 a:=fun h=>h.mono (by decide);have cc:∀ {a b c d:Int},Bd 10 a→Bd 10 b→Bd 10 c→Bd 10 d→Bd 100000 (a*b - c*d):=fun h1 h2 h3 h4=>(((h1.mul h2).mono (show 10+10≤20 by decide)).sub ((h3.mul h4).mono (show 10+10≤20 by decide))).mono (by decide);have en:=yS (A:=.lst [.int U0,.int U1,.int U2]) (B:=.lst [.int V0,.int V1,.int V2]) S rfl rfl (u b1) (u b2) (u b3) (u b4) (u b5) (u b6);have ed:=zH (A:=.lst [.int (U1*V2 - U2*V1),.int (U2*V0 - U0*V2),.int (U0*V1 - U1*V0)]) (B:=.lst [.int T0,.int T1,.int T2]) (us:=[U1*V2 - U2*V1,U2*V0 - U0*V2,U0*V1 - U1*V0]) (vs:=[T0,T1,T2]) S (.inl rfl) (.inl rfl) (by simp; exact ⟨cc b2 b6 b3 b5,cc b3 b4 b1 b6,cc b1 b5 b2 b4⟩) (by simp; exact ⟨u2 b7,u2 b8,u2 b9⟩);rw [id] at ed;generalize U0*V1 - U1*V0=N2,U2*V0 - U0*V2=N1,U1*V2 - U2*V1=N0 at *;unfold jU aX pJ;simp [EC,aE,aZ,aY,aS,aO,aP,aR,aQ,aF,aN,en,ed]
 unfold mK aX sV;simp only [lv,li,List.map_cons,List.map_nil] at h s1;simp [EC,aE,aZ,aY,aS,aO,aP,aR,aQ,aF,aN,bB,bH,cN,dF,dH,dE,iG,h,s1,cO,eD,eA,gN,gT,cJ,eC,jM,mY,fS,et]
theorem R7 {n:Nat} (hn:n=2∨n=3) {S:aI} {ti:Nat} {L:List (List Int)} (h:S[ti]?=some (.lst (L.map lv))) (hl:L.length=n+1) (hb:∀ xs∈L,xs.length=n∧∀ x∈xs,0≤x∧x≤2):mK [.ref ti] S=.ok (.pv (.int (dU (L.map (·++[1]))))) S:=by
 rcases hn with rfl | rfl
 ·match L,hl,hb,h with
  | [A,B,C],_,hb,h =>
   have ga:=hb A (by simp);have gb:=hb B (by simp);have gc:=hb C (by simp);clear hb
   match A,ga.1,B,gb.1,C,gc.1 with
   | [a,b],_,[c,d],_,[e,f],_=>exact G4 h (ga.2 a (by simp)) (ga.2 b (by simp)) (gb.2 c (by simp)) (gb.2 d (by simp)) (gc.2 e (by simp)) (gc.2 f (by simp))
 ·match L,hl,hb,h with
  | [A,B,C,D],_,hb,h =>
   have ga:=hb A (by simp);have gb:=hb B (by simp);have gc:=hb C (by simp);have gd:=hb D (by simp);clear hb
   match A,ga.1,B,gb.1,C,gc.1,D,gd.1 with
   | [x0,y0,z0],_,[x1,y1,z1],_,[x2,y2,z2],_,[x3,y3,z3],_ =>
    refine O1 h fun x hx=>?_;rw [show [x0,y0,z0,x1,y1,z1,x2,y2,z2,x3,y3,z3]=[x0,y0,z0]++([x1,y1,z1]++([x2,y2,z2]++[x3,y3,z3])) from rfl] at hx;rcases List.mem_append.mp hx with z | z
    ·exact ga.2 x z
    ·rcases List.mem_append.mp z with z | z
     ·exact gb.2 x z
     ·rcases List.mem_append.mp z with z | z
      ·exact gc.2 x z
      ·exact gd.2 x z
def qG (n:Nat):List (List Int):=if n=2 then [[0,0],[1,0],[0,1]] else [[0,0,0],[1,0,0],[0,1,0],[0,0,1]]
theorem K5 {n:Nat} (hn:n=2∨n=3):Rw n (qG n):=by
 rcases hn with rfl | rfl
 ·exact ⟨rfl,by decide,by decide,by decide⟩
 ·exact ⟨rfl,by decide,by decide,by decide⟩
theorem rgm (S:aI) {n:Nat} (h:n≤9):vJ [.pv (.int (-1)),.pv (.int (n:Int))] S=.ok (cX (-1) (n+1),[]) S:=by
 have e:vJ [.pv (.int (-1)),.pv (.int (n:Int))] S=@ite _ ((-4611686018427387904≤(-1:Int)∧(-1:Int) < 4611686018427387904∧-4611686018427387904≤(n:Int)∧(n:Int) < 4611686018427387904)∧(n:Int) - -1≤16777216) (Classical.propDecidable _) (.ok (cX (-1) ((n:Int) - -1).toNat,[]) S) .fail:=rfl;rw [e,if_pos ⟨⟨by decide,by decide,by omega,by omega⟩,by omega⟩];rw [show ((n:Int) - -1).toNat=n+1 by omega]
theorem vT {α:Type} {a:α} {S:aI}:oB (.ok a S)=.ok a S:=rfl
theorem wO {n:Nat} {v:PV} {S:aI}:frz n (.ok (.pv v) S)=.ok (.pv v) S:=rfl
theorem Jy {n:Nat} (hn:n=2∨n=3) (S:aI) (x0 x2 x3 x4:Option AV):bB ["_law_k"] [(1,"_law_dims")] (mQ (aB (cD cK (mC (.int 1))) (aB (aA 1) aD))) (gN 0) (bB ["_law_m"] [(0,"_law_k")] (bO (aB (aA 1) aD)) (gN 0) (mR iL (aB (aC bT (aA 0) (aA 1)) aD))) [x0,some (.pv (.int (n:Int))),x2,x3,x4] S=.ok (.pv (cM (qG n))) S:=by
 have r1:=fun S=>oN S (n:=n) (by omega);have r2:=fun S=>rgm S (n:=n) (by omega);rcases hn with rfl | rfl
 ·have c2:((2:Nat):Int)=2:=rfl
  rw [c2] at r1 r2 ⊢;have i1:cX 0 2=[.int 0,.int 1]:=rfl;have i2:cX (-1) (2+1)=[.int (-1),.int 0,.int 1]:=rfl;rw [i1] at r1;rw [i2] at r2;simp [bB,cO,bO,mQ,EC,aE,aZ,aY,aS,aO,aP,aR,aQ,aF,aN,r1,r2,eD,eA,gN,iL,qG]
 ·have c2:((3:Nat):Int)=3:=rfl
  rw [c2] at r1 r2 ⊢;have i1:cX 0 3=[.int 0,.int 1,.int 2]:=rfl;have i2:cX (-1) (3+1)=[.int (-1),.int 0,.int 1,.int 2]:=rfl;rw [i1] at r1;rw [i2] at r2;simp [bB,cO,bO,mQ,EC,aE,aZ,aY,aS,aO,aP,aR,aQ,aF,aN,r1,r2,eD,eA,gN,iL,qG]
theorem Xk {n:Nat} (hn:n=2∨n=3) {W:Int} (W0:0≤W) (W1:W≤2) (ns:List Int) (hl:List PV):∃ (xss:List (List Int)) (ns':List Int),frz 2 (oB (kQ [.ref 0,.pv (.int (n:Int)),.pv (.int W)] [.lst (li ns),.lst hl]))=.ok (.pv (cM xss)) [.lst (li ns'),.lst hl]∧Rw n xss:=by
 obtain ⟨L,n1,y4,e1,l1,b1⟩:=Xh (n:=n) (by omega) W0 W1 hl (cX 0 (n+1)) [] ns none (by unfold cX; simp; omega);have hi:(cX 0 (n+1)).length=n+1:=by unfold cX; simp
 rw [hi] at l1;simp only [List.nil_append,List.map_nil] at e1;have et:=R7 (ti:=2) (S:=[.lst (li n1),.lst hl,.lst (L.map lv)]) hn rfl l1 b1;have rg:=oN [.lst (li ns),.lst hl,.lst []] (n:=n+1) (by omega);have cn:((n+1:Nat):Int)=(n:Int)+1:=by omega
 rw [cn] at rg;have ed:=Jy hn [.lst (li n1),.lst hl,.lst (L.map lv)] (some (.ref 0)) (some (.pv (.int W))) (some (.ref 2)) y4;have hb:Ca=(aH (aK 3 (fA aD))
  (aH (bJ (bO (aB (aC aF (aA 1) (mC (.int 1))) aD)) (gN 4) rB)
  (aH (bZ (bE (aC kG (aJ mK [] (aB (aA 3) aD)) (mC (.int 0)))) (bG (aA 3)) cY)
  (bG (bB ["_law_k"] [(1,"_law_dims")] (mQ (aB (cD cK (mC (.int 1))) (aB (aA 1) aD))) (gN 0) (bB ["_law_m"] [(0,"_law_k")] (bO (aB (aA 1) aD)) (gN 0) (mR iL (aB (aC bT (aA 0) (aA 1)) aD)))))))):=rfl
 generalize (bB ["_law_k"] [(1,"_law_dims")] (mQ (aB (cD cK (mC (.int 1))) (aB (aA 1) aD))) (gN 0) (bB ["_law_m"] [(0,"_law_k")] (bO (aB (aA 1) aD)) (gN 0) (mR iL (aB (aC bT (aA 0) (aA 1)) aD))))=CD at ed hb;generalize rB=RB at e1 hb
 by_cases hd:dU (L.map (·++[1]))=0
 ·refine ⟨qG n,n1,?_,K5 hn⟩
  rw [hd] at et;unfold kQ aX;rw [hb];generalize (n:Int)=N,cX 0 (n+1)=IP,li n1=NL1,li ns=NL,L.map lv=LL,cM (qG n)=RV at *;simp [EC,aE,aZ,aY,aS,aO,aP,aR,aQ,aF,aN,fA,lR,bJ,bO,rg,e1,et,ed]
 ·refine ⟨L,n1,?_,⟨l1,fun xs hx=>(b1 xs hx).1,fun xs hx x hh=>by have:=(b1 xs hx).2 x hh; omega,hd⟩⟩
  unfold kQ aX;rw [hb];have hv:cM L=.lst (L.map lv):=rfl;rw [hv];generalize (n:Int)=N,cX 0 (n+1)=IP,li n1=NL1,li ns=NL,L.map lv=LL,dU (L.map (·++[1]))=d at *;simp [EC,aE,aZ,aY,aS,aO,aP,aR,aQ,aF,aN,fA,lR,bJ,bO,rg,e1,et,hd]
abbrev hB:MS:=(aH (aK 5 (aJ bU [] (aB (aA 0) (aB (mC (.int 6)) aD))))
 (bZ (iZ (bE (aC bT (aA 5) (mC (.int 5)))) (bE (aC eI (mR cF (aB (aA 3) aD)) (mC (.int 0))))) (cS (dQ (aA 3) (aB (aC aE (aA 3) (cD cK (mC (.int 1)))) aD))) (bZ (bE (aC bT (aA 1) (mC (.int 2)))) (cS (dQ (aA 3) (aB (aJ kQ [] (aB (aA 0) (aB (mC (.int 2)) (aB (aC aF (mC (.int 1)) (mR iL (aB (aC bT (aA 5) (mC (.int 4))) aD))) aD)))) aD))) (bZ (bE (aC eI (aA 5) (mC (.int 3)))) (cS (dQ (aA 3) (aB (aJ kQ [] (aB (aA 0) (aB (mC (.int 3)) (aB (mC (.int 1)) aD)))) aD))) (cS (dQ (aA 3) (aB (aJ pN [] (aB (aA 0) aD)) aD)))))))
theorem U5 {n:Nat} (hn:n=2∨n=3) (ns:List Int) (hs:List (List (List Int))) (hw:∀ xss∈hs,Rw n xss) (hl:hs.length≤99) (x2 x4 x5:Option AV):∃ (xss:List (List Int)) (ns':List Int) (y5:Option AV),hB [some (.ref 0),some (.pv (.int (n:Int))),x2,some (.ref 1),x4,x5] [.lst (li ns),.lst (hs.map cM)]=.nx [some (.ref 0),some (.pv (.int (n:Int))),x2,some (.ref 1),x4,y5] [.lst (li ns'),.lst ((hs++[xss]).map cM)]∧Rw n xss:=by
 have hr:dY [.lst (li ns),.lst (hs.map cM)] 0 ns:=rfl;obtain ⟨t,n1,e1,t0,t1,_⟩:=gH (m:=6) hr (by decide) (gM (by decide) (by decide));simp only [List.set_cons_zero] at e1;have e1:bU [.ref 0,.pv (.int 6)] [.lst (li ns),.lst (hs.map cM)]=.ok (.pv (.int t)) [.lst (li n1),.lst (hs.map cM)]:=e1;have lz:(hs.map cM).length < 16777216:=by rw [List.length_map]; omega
 have lz':hs.length < 16777216:=by omega
 have el:∀ xss,(hs++[xss]).map cM=hs.map cM++[cM xss]:=fun xss=>by simp
 by_cases c1:t=5∧0 < hs.length
 ·obtain ⟨v,hv,e2⟩:=Hs (hs.map cM) .non (by
   intro z;have:=congrArg List.length z;simp at this;rw [this] at c1;simp at c1)
  obtain ⟨xss,hx,rfl⟩:=List.mem_map.mp hv;refine ⟨xss,n1,some (.pv (.int t)),?_,hw xss hx⟩;rw [el];obtain ⟨c1,c2⟩:=c1;subst c1;have c3:hs.map cM≠[]:=fun z=>by
   have:=congrArg List.length z;simp at this;rw [this] at c2;simp at c2
  generalize hs.map cM=HL,cM xss=RV at *;unfold hB;simp [EC,bI,aO,aP,aR,aQ,aF,aN,e1,dQ,eO,iI,e2,lz,c3]
 ·have c1':t=5→hs.map cM=[]:=fun z=>by
   have:hs.length=0:=by
    by_cases y:0 < hs.length
    ·exact absurd ⟨z,y⟩ c1
    ·omega
   rw [List.length_eq_zero_iff.mp this];rfl
  have cA:∀ (S:aI) (ρ:bR),ρ[5]?=some (some (.pv (.int t)))→ρ[3]?=some (some (.ref 1))→S[1]?=some (.lst (hs.map cM))→iZ (bE (aC bT (aA 5) (mC (.int 5)))) (bE (aC eI (mR cF (aB (aA 3) aD)) (mC (.int 0)))) ρ S=.ok false S:=fun S ρ h5 h3 hS=>by
   cases z:t == 5 with
   | false=>simp [EC,bI,aO,aP,aR,aQ,aF,aN,h5,z]
   | true =>
    rw [c1' (by simpa using z)] at hS;simp [EC,bI,aO,aP,aR,aQ,aF,aN,h5,h3,hS,z]
  generalize hA:iZ (bE (aC bT (aA 5) (mC (.int 5)))) (bE (aC eI (mR cF (aB (aA 3) aD)) (mC (.int 0))))=MA at cA;have hBe:hB=(aH (aK 5 (aJ bU [] (aB (aA 0) (aB (mC (.int 6)) aD))))
   (bZ MA (cS (dQ (aA 3) (aB (aC aE (aA 3) (cD cK (mC (.int 1)))) aD))) (bZ (bE (aC bT (aA 1) (mC (.int 2)))) (cS (dQ (aA 3) (aB (aJ kQ [] (aB (aA 0) (aB (mC (.int 2)) (aB (aC aF (mC (.int 1)) (mR iL (aB (aC bT (aA 5) (mC (.int 4))) aD))) aD)))) aD))) (bZ (bE (aC eI (aA 5) (mC (.int 3)))) (cS (dQ (aA 3) (aB (aJ kQ [] (aB (aA 0) (aB (mC (.int 3)) (aB (mC (.int 1)) aD)))) aD))) (cS (dQ (aA 3) (aB (aJ pN [] (aB (aA 0) aD)) aD))))))):=by rw [← hA]
  rw [hBe];rcases hn with rfl | rfl
  ·obtain ⟨xss,n2,e2,hw2⟩:=Xk (n:=2) (.inl rfl) (W:=1+(if t=4 then 1 else 0)) (by split <;> decide) (by split <;> decide) n1 (hs.map cM)
   refine ⟨xss,n2,some (.pv (.int t)),?_,hw2⟩;rw [el];have c2:((2:Nat):Int)=2:=rfl;rw [c2] at e2 ⊢;have cA':=cA [.lst (li n1),.lst (hs.map cM)] [some (.ref 0),some (.pv (.int 2)),x2,some (.ref 1),x4,some (.pv (.int t))] rfl rfl rfl;generalize hs.map cM=HL,cM xss=RV at *
   by_cases z:t=4
   ·subst z
    simp [EC,bI,aO,aP,aR,aQ,aF,aN,e1,cA',dQ,eO,iI,iL,vT,wO,lz] at e2 ⊢;simp [e2,lz,bK.bind,bX.of]
   ·rw [if_neg z] at e2
    have z':(t == 4)=false:=by simpa using z
    simp [EC,bI,aO,aP,aR,aQ,aF,aN,e1,cA',dQ,eO,iI,iL,vT,wO,lz,z'] at e2 ⊢;simp [e2,lz,bK.bind,bX.of]
  ·have c3:((3:Nat):Int)=3:=rfl
   rw [c3];have cA':=cA [.lst (li n1),.lst (hs.map cM)] [some (.ref 0),some (.pv (.int 3)),x2,some (.ref 1),x4,some (.pv (.int t))] rfl rfl rfl
   by_cases z:3 < t
   ·obtain ⟨xss,n2,e2,hw2⟩:=Xk (n:=3) (.inr rfl) (W:=1) (by decide) (by decide) n1 (hs.map cM)
    refine ⟨xss,n2,some (.pv (.int t)),?_,hw2⟩;rw [el];rw [c3] at e2;generalize hs.map cM=HL,cM xss=RV at *;simp [EC,bI,aO,aP,aR,aQ,aF,aN,e1,cA',dQ,eO,iI,vT,wO,z];simp [e2,lz,bK.bind,bX.of]
   ·obtain ⟨xss,n2,e2,hw2⟩:=Xx n1 (hs.map cM)
    refine ⟨xss,n2,some (.pv (.int t)),?_,hw2⟩;rw [el];generalize hs.map cM=HL,cM xss=RV at *;simp [EC,bI,aO,aP,aR,aQ,aF,aN,e1,cA',dQ,eO,iI,vT,wO,z,e2,lz]
theorem Vm {n:Nat} (hn:n=2∨n=3) (x2:Option AV):∀ (is:List PV) (hs:List (List (List Int))) (ns:List Int) (x4 x5:Option AV),(∀ xss∈hs,Rw n xss)→hs.length+is.length≤99→∃ (hs':List (List (List Int))) (ns':List Int) (y4 y5:Option AV),
  dM [] (gN 4) hB is [some (.ref 0),some (.pv (.int (n:Int))),x2,some (.ref 1),x4,x5] [.lst (li ns),.lst (hs.map cM)]=.nx [some (.ref 0),some (.pv (.int (n:Int))),x2,some (.ref 1),y4,y5] [.lst (li ns'),.lst (hs'.map cM)]∧hs'.length=hs.length+is.length∧∀ xss∈hs',Rw n xss
 | [],hs,ns,x4,x5,hw,_=>⟨hs,ns,x4,x5,fG,rfl,hw⟩
 | i :: is,hs,ns,x4,x5,hw,h9=>by
  have h9:hs.length+(is.length+1)≤99:=h9;obtain ⟨xss,n1,y5,e1,r1⟩:=U5 hn ns hs hw (by omega) x2 (some (.pv i)) x5;obtain ⟨hs',n2,z4,z5,e2,l2,r2⟩:=Vm hn x2 is (hs++[xss]) n1 (some (.pv i)) y5 (fun y hy=>by
   rcases List.mem_append.mp hy with z | z
   ·exact hw y z
   ·have:y=xss:=by simpa using z
    rw [this]; exact r1) (by rw [List.length_append,List.length_singleton]; omega)
  refine ⟨hs',n2,z4,z5,?_,by rw [l2,List.length_append,List.length_singleton]; show _=hs.length+(is.length+1); omega,r2⟩;rw [eM];simp only [gN,List.set_cons_succ,List.set_cons_zero];rw [e1];exact e2
theorem wZ {n M:Nat} (hn:n=2∨n=3) (hM:M≤8) (ns:List Int):∃ (hs:List (List (List Int))) (ns':List Int),iU [.ref 0,.pv (.int (n:Int)),.pv (.int (M:Int))] [.lst (li ns)]=.ok (.ref 1) [.lst (li ns'),.lst (hs.map cM)]∧hs.length≤M∧∀ xss∈hs,Rw n xss:=by
 have hr:dY [.lst (li ns),.lst []] 0 ns:=rfl;obtain ⟨t,n1,e1,t0,t1,_⟩:=gH (m:=(M:Int)+1) hr (by omega) (gM (by omega) (by omega));simp only [List.set_cons_zero] at e1;have e1:bU [.ref 0,.pv (.int ((M:Int)+1))] [.lst (li ns),.lst []]=.ok (.pv (.int t)) [.lst (li n1),.lst []]:=e1;obtain ⟨m,rfl⟩:∃ m:Nat,t=(m:Int):=⟨t.toNat,by omega⟩;have rg:=oN [.lst (li n1),.lst []] (n:=m) (by omega);have hi:(cX 0 m).length=m:=by unfold cX; simp
 obtain ⟨hs,n2,y4,y5,e2,l2,r2⟩:=Vm hn (some (.pv (.int (M:Int)))) (cX 0 m) [] n1 none none (fun _ h=>absurd h List.not_mem_nil) (by rw [hi]; show 0+m≤99; omega);rw [hi] at l2;refine ⟨hs,n2,?_,by rw [l2]; show 0+m≤M; omega,r2⟩;simp only [List.map_nil] at e2;have hb:xB=(aH (aK 3 (fA aD))
  (aH (bJ (bO (aB (aJ bU [] (aB (aA 0) (aB (aC aF (aA 2) (mC (.int 1))) aD))) aD)) (gN 4) hB)
  (bG (aA 3)))):=rfl
 unfold iU aX;rw [hb];generalize (M:Int)=MM,(n:Int)=N,(m:Int)=mm,cX 0 m=IP,hs.map cM=HL,hB=HB at *;simp [EC,aE,aZ,aY,aS,aO,aP,aR,aQ,aF,aN,fA,lR,bJ,bO,e1,rg,e2]
theorem M7 {n k:Nat} {L:List Int} {b:Int} (hb:0 < b) (hl:L.length=n) (hL:∀ x∈L,Bd k x) (bb:Bd k b):∃ (zs:List Int) (z:Int),low (L++[b])=zs++[z]∧Pq n k zs z∧∀ j,j < n→zs.getD j 0*b=L.getD j 0*z:=by
 obtain ⟨zs,z,g,e,hg,hz,g1,g2,hzl⟩:=Ma L hb;have hlow:=Gj L hb;have hbd:=Kl (k:=k) (ns:=L++[b]) fun m hm=>by
  rcases List.mem_append.mp hm with y | y
  ·exact hL m y
  ·have:m=b:=by simpa using y
   rw [this]; exact bb
 rw [e] at hlow hbd;refine ⟨zs,z,e,⟨hzl.trans hl,hz,hlow,fun x hx=>hbd x (List.mem_append_left _ hx),hbd z (nT zs z)⟩,fun j hj=>?_⟩;have hj':j < zs.length:=by omega
 have e1:L.getD j 0=g*zs.getD j 0:=by
  rw [g1];simp [List.getD,hj']
 rw [e1,g2];grind
theorem Bu (bs:List Bool):nC [.lst (bs.map .bl)]=some (.bl (bs.all id)):=by
 have e:oE (bs.map PV.bl)=some bs:=by
  induction bs with
  | nil=>rfl
  | cons v L ih =>
   show (match oE (L.map PV.bl) with | some bs=>some (v :: bs) | none=>none)=_
   rw [ih]
 simp only [nC,e,Option.map_some]
def bd (p:List Nat):List Nat:=if p.head?=some 45 then p.tail else p
def kE (k:List (List Int)):PV:=.tup (k.map fun r:List Int=>PV.tup (r.map PV.int))
theorem La {k l:List (List Int)} (h:kE k=kE l):k=l:=pE (n:=true) h
abbrev cG:Type:=List (List Int) × Int
def dD:List cG→List (List Int)→Int
 | [],_=>0
 | c :: C,k=>(if c.1=k then c.2 else 0)+dD C k
theorem oW (C D:List cG) (k:List (List Int)):dD (C++D) k=dD C k+dD D k:=by
 induction C with
 | nil=>simp [dD]
 | cons c C ih=>simp [dD,ih]; omega
def lV:Option PV→Int
 | some (.int i)=>i
 | _=>0
def fL (kvs:List (PV × PV)) (c:cG):List (PV × PV):=fV kvs (kE c.1) (.int (lV (eR kvs (kE c.1))+c.2))
def eG (kvs:List (PV × PV)) (C:List cG):List (PV × PV):=C.foldl fL kvs
theorem jS (kvs:List (PV × PV)) (C D:List cG):eG (eG kvs C) D=eG kvs (C++D):=by
 unfold eG;rw [List.foldl_append]
theorem Lm {kvs:List (PV × PV)} (nd:(kvs.map (·.1)).Nodup) {i j:Nat} {k v w:PV} (h1:kvs[i]?=some (k,v)) (h2:kvs[j]?=some (k,w)):i=j:=by
 have e1:(kvs.map (·.1))[i]?=some k:=by rw [List.getElem?_map,h1]; rfl
 have e2:(kvs.map (·.1))[j]?=some k:=by rw [List.getElem?_map,h2]; rfl
 exact (List.getElem?_inj (List.getElem?_eq_some_iff.mp e1).1 nd).mp (e1.trans e2.symm)
theorem mM {kvs:List (PV × PV)} (nd:(kvs.map (·.1)).Nodup) {k v:PV} (h:(k,v)∈kvs):eR kvs k=some v:=by
 obtain ⟨i,hi⟩:=List.mem_iff_getElem?.mp h;obtain ⟨j,hj⟩:=Fa (kvs:=kvs) (k:=k) (i:=i) (by rw [List.getElem?_map,hi]; rfl);obtain ⟨w,hw⟩:=lH hj;have e:=Lm nd hw hi;subst e;unfold eR;rw [hj];simp [hi]
theorem Zr {kvs:List (PV × PV)} {k:PV} (h:∀ v,(k,v) ∉ kvs):eR kvs k=none:=by
 unfold eR;cases z:iC kvs k with
 | none=>rfl
 | some i =>
  obtain ⟨v,hv⟩:=lH z;exact absurd (List.mem_of_getElem? hv) (h v)
theorem yF {kvs:List (PV × PV)} (nd:(kvs.map (·.1)).Nodup) {k v:PV} (x:PV × PV):x∈fV kvs k v↔(x=(k,v))∨(x.1≠k∧x∈kvs):=by
 unfold fV;cases z:iC kvs k with
 | none =>
  dsimp only;rw [List.mem_append,List.mem_singleton];constructor
  ·rintro (h | h)
   ·refine .inr ⟨fun e=>?_,h⟩
    obtain ⟨i,hi⟩:=List.mem_iff_getElem?.mp h;exact yE z i (by rw [List.getElem?_map,hi,← e]; rfl)
   ·exact .inl h
  ·rintro (h | h)
   ·exact .inr h
   ·exact .inl h.2
 | some i =>
  dsimp only;obtain ⟨w,hw⟩:=lH z;have hi:=(List.getElem?_eq_some_iff.mp hw).1;constructor
  ·intro h
   obtain ⟨j,hj⟩:=List.mem_iff_getElem?.mp h;rw [List.getElem?_set] at hj
   by_cases e:i=j
   ·subst e
    rw [if_pos rfl,if_pos hi] at hj;exact .inl (Option.some.inj hj).symm
   ·rw [if_neg e] at hj
    refine .inr ⟨fun ek=>e (Lm nd hw (w:=x.2) (by rw [hj,← ek])),List.mem_of_getElem? hj⟩
  ·rintro (h | ⟨h1,h2⟩)
   ·rw [h]
    exact List.mem_of_getElem? (List.getElem?_set_self hi)
   ·obtain ⟨j,hj⟩:=List.mem_iff_getElem?.mp h2
    have e:i≠j:=fun e=>by
     subst e;rw [hw] at hj;cases hj;exact h1 rfl
    exact List.mem_of_getElem? (i:=j) (by rw [List.getElem?_set_ne e]; exact hj)
theorem pK {kvs:List (PV × PV)} (nd:(kvs.map (·.1)).Nodup) {k v:PV}:((fV kvs k v).map (·.1)).Nodup∧(fV kvs k v).length≤kvs.length+1:=by
 unfold fV;cases z:iC kvs k with
 | none =>
  dsimp only;refine ⟨?_,by rw [List.length_append]; exact Nat.le_refl _⟩;rw [List.map_append,List.nodup_append];refine ⟨nd,by simp,fun a ha b hb=>?_⟩;have hb:b=k:=by simpa using hb
  rintro rfl
  subst hb;obtain ⟨i,hi⟩:=List.mem_iff_getElem?.mp ha;exact yE z i hi
 | some i =>
  dsimp only;obtain ⟨w,hw⟩:=lH z;refine ⟨?_,by rw [List.length_set]; exact Nat.le_succ _⟩;have e:(kvs.set i (k,v)).map (·.1)=kvs.map (·.1):=by
   rw [List.map_set];refine List.ext_getElem? fun t=>?_;rw [List.getElem?_set];split
   ·rename_i ht
    subst ht;rw [if_pos (by rw [List.length_map]; exact (List.getElem?_eq_some_iff.mp hw).1),List.getElem?_map,hw];rfl
   ·rfl
  rw [e];exact nd
structure Tb (kvs:List (PV × PV)) (C:List cG):Prop where
 int:∀ x∈kvs,∃ k i,x=(kE k,.int i)
 nd:(kvs.map (·.1)).Nodup
 val:∀ k,(kE k,PV.int (dD C k))∈kvs∨((∀ v,(kE k,v) ∉ kvs)∧dD C k=0)
 len:kvs.length≤C.length
theorem Tb.nil:Tb [] []:=⟨fun _ h=>absurd h List.not_mem_nil,List.nodup_nil,fun k=>.inr ⟨fun _ h=>absurd h List.not_mem_nil,rfl⟩,Nat.le_refl _⟩
theorem Tb.get {kvs:List (PV × PV)} {C:List cG} (h:Tb kvs C) (k:List (List Int)):eR kvs (kE k)=some (.int (dD C k))∨(eR kvs (kE k)=none∧dD C k=0):=by
 rcases h.val k with e | ⟨e,z⟩
 ·exact .inl (mM h.nd e)
 ·exact .inr ⟨Zr e,z⟩
theorem Tb.vint {kvs:List (PV × PV)} {C:List cG} (h:Tb kvs C) (k:List (List Int)):lV (eR kvs (kE k))=dD C k:=by
 rcases h.get k with e | ⟨e,z⟩
 ·rw [e]; rfl
 ·rw [e,z]; rfl
theorem Tb.add {kvs:List (PV × PV)} {C:List cG} (h:Tb kvs C) (c:cG):Tb (fL kvs c) (C++[c]):=by
 have hm:=fun x=>yF h.nd (k:=kE c.1) (v:=.int (dD C c.1+c.2)) x;have en:=pK h.nd (k:=kE c.1) (v:=.int (dD C c.1+c.2));unfold fL;rw [h.vint];have sm:∀ k,dD (C++[c]) k=dD C k+if c.1=k then c.2 else 0:=fun k=>by rw [oW]; simp [dD]
 refine ⟨fun x hx=>?_,en.1,fun k=>?_,by rw [List.length_append]; exact Nat.le_trans en.2 (Nat.succ_le_succ h.len)⟩
 ·rcases (hm x).mp hx with e | ⟨_,e⟩
  ·exact ⟨_,_,e⟩
  ·exact h.int x e
 ·rw [sm]
  by_cases e:c.1=k
  ·subst e
   rw [if_pos rfl];exact .inl ((hm _).mpr (.inl rfl))
  ·rw [if_neg e,Int.add_zero]
   have ne:kE k≠kE c.1:=fun z=>e (La z).symm;rcases h.val k with g | ⟨g,z⟩
   ·exact .inl ((hm _).mpr (.inr ⟨ne,g⟩))
   ·refine .inr ⟨fun v hv=>?_,z⟩
    rcases (hm _).mp hv with q | ⟨_,q⟩
    ·exact ne (congrArg Prod.fst q)
    ·exact g v q
theorem Tb.adds {kvs:List (PV × PV)} {C:List cG} (h:Tb kvs C):∀ D:List cG,Tb (eG kvs D) (C++D)
 | []=>by rw [List.append_nil]; exact h
 | c :: D=>by
  have:=(h.add c).adds D;rw [List.append_assoc] at this;exact this
theorem Of:∀ {L:List (PV × PV)},(∀ x∈L,∃ k i,x=(kE k,.int i))→∃ is,jI (L.map (·.2))=some is∧∀ b:Int,b∈is↔∃ k,(kE k,PV.int b)∈L
 | [],_=>⟨[],rfl,fun b=>by simp⟩
 | x :: L,h=>by
  obtain ⟨is,e,g⟩:=Of (L:=L) fun y hy=>h y (List.mem_cons_of_mem _ hy);obtain ⟨k,i,rfl⟩:=h x List.mem_cons_self;refine ⟨i :: is,by rw [List.map_cons]; show (match jI (L.map (·.2)) with | some bs=>some (i :: bs) | none=>none)=_; rw [e],fun b=>?_⟩
  rw [List.mem_cons,g];constructor
  ·rintro (rfl | ⟨k',h'⟩)
   ·exact ⟨k,List.mem_cons_self⟩
   ·exact ⟨k',List.mem_cons_of_mem _ h'⟩
  ·rintro ⟨k',h'⟩
   rcases List.mem_cons.mp h' with q | q
   ·have q2:=congrArg Prod.snd q
    injection q2 with q2;exact .inl q2
   ·exact .inr ⟨k',q⟩
theorem E9 {kvs:List (PV × PV)} {C:List cG} (h:Tb kvs C):∃ b,sD (.ref 0) [.dic true kvs]=.ok (.pv (.bl b)) [.dic true kvs]∧(b=false↔∀ k,dD C k=0):=by
 obtain ⟨is,e,g⟩:=Of h.int;refine ⟨is.any (· != 0),by unfold sD; simp [e],?_⟩;rw [List.any_eq_false];constructor
 ·intro z k
  rcases h.val k with m | ⟨_,m⟩
  ·have:=z _ ((g _).mpr ⟨k,m⟩)
   simpa using this
  ·exact m
 ·intro z b hb
  obtain ⟨k,hk⟩:=(g b).mp hb;rcases h.val k with m | ⟨m,_⟩
  ·have e1:=mM h.nd m
   have e2:=mM h.nd hk;rw [e1] at e2;have e3:dD C k=b:=by injection e2 with e2; injection e2
   rw [← e3,z k];simp
  ·exact absurd hk (m _)
theorem Tu {kvs:List (PV × PV)} {C:List cG} (h:Tb kvs C) (k:List (List Int)):jJ (.ref 0) (.pv (kE k)) [.dic true kvs] (some (.pv (.int 0)))=.ok (.pv (.int (dD C k))) [.dic true kvs]:=by
 unfold jJ;simp only [List.getElem?_cons_zero];rw [if_pos ⟨k,rfl⟩];rcases h.get k with e | ⟨e,z⟩
 ·rw [e]
 ·rw [e,z]
theorem Wu {kvs:List (PV × PV)} {C:List cG} (h:Tb kvs C) (hl:C.length≤100000) (k:List (List Int)) (m:Int):kA (.ref 0) (.pv (kE k)) (.pv (.int (dD C k+m))) [.dic true kvs]=.ok (.pv .non) [.dic true (fL kvs (k,m))]:=by
 unfold kA fL;simp only [List.getElem?_cons_zero];have:=h.len;rw [if_pos ⟨⟨k,rfl⟩,by omega⟩,h.vint];rfl
def dG:List Int→Int
 | []=>0
 | n :: r=>if n=0 then dG r else sg n
def aV (ns:List Int):List Int:=(low ns).map (dG ns*·)
theorem Eg (S:aI):∀ (ns:List Int) (x:Option AV),eZ [] (gN 0) (bE (aC kG (aA 0) (mC (.int 0)))) (aA 0) (ns.map .int) [x] S=.ok ((ns.filter (fun x=>!decide (x=0))).map .int) S
 | [],x=>Kq
 | n :: ns,x=>by
  have ih:=Eg S ns (some (.pv (.int n)));show eZ [] _ _ _ (.int n :: ns.map .int) _ S=_;rw [Wp]
  by_cases h:n=0
  ·subst h
   simp [gN,EC,aE,aZ,aY,aS,aO,aP,aR,aQ,aF,aN,ih]
  ·have hb:(!n == 0)=true:=by simpa using h
   simp [gN,EC,aE,aZ,aY,aS,aO,aP,aR,aQ,aF,aN,hb,ih,h]
theorem Sf:∀ {ns:List Int},(∃ n∈ns,n≠0)→∃ m L,ns.filter (fun x=>!decide (x=0))=m :: L∧sg m=dG ns
 | [],h=>by
  obtain ⟨n,h,_⟩:=h;cases h
 | n :: ns,h=>by
  by_cases e:n=0
  ·subst e
   obtain ⟨m,L,e1,e2⟩:=Sf (ns:=ns) (by
    obtain ⟨k,hk,nk⟩:=h;rcases List.mem_cons.mp hk with rfl | hk
    ·exact absurd rfl nk
    ·exact ⟨k,hk,nk⟩)
   exact ⟨m,L,by simpa using e1,by rw [e2]; simp [dG]⟩
  ·exact ⟨n,ns.filter (fun x=>!decide (x=0)),by simp [e],by simp [dG,e]⟩
theorem X7 {ns:List Int} (h:∃ n∈ns,n≠0):gl ns 0≠0:=fun e=>by
 obtain ⟨n,hn,z⟩:=h;obtain ⟨m,hm⟩:=(iX ns 0).2 n hn;rw [e] at hm;exact z (by rw [hm,Int.zero_mul])
theorem yX (ns:List Int) (S:aI) (hb:∀ n∈ns,Bd 8000 n) (nz:∃ n∈ns,n≠0):nP [.pv (.lst (ns.map .int))] S=.ok (.pv (tv (aV ns))) S:=by
 obtain ⟨m,L,e1,e2⟩:=Sf nz;have ef:=Eg S ns none;rw [e1] at ef;have er:=Xq ns S hb (X7 nz);have ec:=Hh S m (low ns) none;rw [e2] at ec;have i0:aE (.lst ((m :: L).map .int)) (.int 0)=some (.int m):=dS (j:=0) rfl;unfold nP aX wX aV;generalize (m :: L).map PV.int=ML at *;simp [EC,bI,aO,aP,aR,aQ,aF,aN,uC,bH,cN,cO,ef,i0,er,bB,ec]
theorem pG {ns:List Int}:aV (ns.map (- ·))=aV ns:=by
 unfold aV;have hf:∀ l:List Int,dG (l.map (- ·))=- dG l:=fun l=>by
  induction l with
  | nil=>rfl
  | cons n l ih =>
   rw [List.map_cons];unfold dG
   by_cases h:n=0
   ·subst h
    simpa using ih
   ·rw [if_neg h,if_neg (by omega),B8]
 rw [Ou,hf,List.map_map];refine List.map_congr_left fun n _=>?_;simp [Int.neg_mul_neg]
def bW:List Int→List Int→List Int
 | [x0,y0,w0],[x1,y1,w1]=>[x1*w0 - x0*w1,y1*w0 - y0*w1]
 | [x0,y0,z0,w0],[x1,y1,z1,w1]=>[x1*w0 - x0*w1,y1*w0 - y0*w1,z1*w0 - z0*w1]
 | _,_=>[]
def dJ:List Int→List Int→List Int
 | [a,b,c],[d,e,f]=>[b*f - c*e,c*d - a*f,a*e - b*d]
 | _,_=>[]
def bN:List (List Int)→List Int
 | [p,q]=>(match bW p q with
  | [a,b]=>[-b,a]
  | _=>[])
 | [p,q,r]=>dJ (bW p q) (bW p r)
 | _=>[]
def sd (pi s e:List Int) (n:Int):List cG:=[([pi,aV (bW s e),s],n),([pi,aV (bW s e),e],-n)]
def iS:List (List Int)→List (List Int × List Int)
 | [p,q]=>[(p,q)]
 | [a,b,c]=>[(c,a),(a,b),(b,c)]
 | _=>[]
def cW (w:List (List Int)) (n:Int):List cG:=(iS w).flatMap fun x=>sd (aV (bN w)) x.1 x.2 n
structure Ar (s e:List Int):Prop where
 eq:∀ S,lB [.pv (tv s),.pv (tv e)] S=.ok (.pv (.lst ((bW s e).map .int))) S
 bd:∀ n∈bW s e,Bd 8000 n
 nz:∃ n∈bW s e,n≠0
theorem Ar.way {s e:List Int} (h:Ar s e) (S:aI):nP [.pv (.lst ((bW s e).map .int))] S=.ok (.pv (tv (aV (bW s e)))) S:=yX _ S h.bd h.nz
def Gc:MS:=(aH (aK 9 (mN cT (aB (aA 3) (aB (aA 6) (aB (aA 7) aD)))))
 (jK (aA 0) (aA 9) (aC aF (oG (aA 0) (aB (aA 9) (aB (mC (.int 0)) aD))) (aA 8))))
theorem Um {kvs:List (PV × PV)} {C:List cG} (h:Tb kvs C) (hl:C.length≤100000) (pi d p:List Int) (m:Int) (w1 w2 s4 s5 x9:Option AV) :
  Gc [some (.ref 0),w1,w2,some (.pv (tv pi)),s4,s5,some (.pv (tv d)),some (.pv (tv p)),some (.pv (.int m)),x9] [.dic true kvs]=.nx [some (.ref 0),w1,w2,some (.pv (tv pi)),s4,s5,some (.pv (tv d)),some (.pv (tv p)),some (.pv (.int m)),some (.pv (kE [pi,d,p]))] [.dic true (fL kvs ([pi,d,p],m))]:=by
 have ek:PV.tup [tv pi,tv d,tv p]=kE [pi,d,p]:=rfl;have e1:=Tu h [pi,d,p];have e2:=Wu h hl [pi,d,p] m;unfold Gc;generalize tv p=T3,tv d=T2,tv pi=T1 at *;simp [EC,aE,aZ,aY,aS,aO,aP,aR,aQ,aF,aN,oG,sF,jK,ek,e1,e2]
def vY:MS:=(aH (aK 6 (aJ nP [] (aB (aJ lB [] (aB (aA 4) (aB (aA 5) aD))) aD)))
 (bJ (bH (mN cT (aB (mN cT (aB (aA 4) (aB (aA 2) aD))) (aB (mN cT (aB (aA 5) (aB (cD cK (aA 2)) aD))) aD)))) (gT 2 (cJ (gN 7) (cJ (gN 8) eC))) Gc))
theorem W5 {kvs:List (PV × PV)} {C:List cG} (h:Tb kvs C) (hl:C.length≤90000) {s e:List Int} (a:Ar s e) (pi:List Int) (n:Int) (w1 x6 x7 x8 x9:Option AV) :
  ∃ y6 y7 y8 y9,vY [some (.ref 0),w1,some (.pv (.int n)),some (.pv (tv pi)),some (.pv (tv s)),some (.pv (tv e)),x6,x7,x8,x9] [.dic true kvs]=.nx [some (.ref 0),w1,some (.pv (.int n)),some (.pv (tv pi)),some (.pv (tv s)),some (.pv (tv e)),y6,y7,y8,y9] [.dic true (eG kvs (sd pi s e n))]:=by
 have h2:=h.add ([pi,aV (bW s e),s],n);have e1:=Um h (by omega) pi (aV (bW s e)) s n w1 (some (.pv (.int n))) (some (.pv (tv s))) (some (.pv (tv e))) x9;have e2:=Um h2 (by rw [List.length_append]; simp; omega) pi (aV (bW s e)) e (-n) w1 (some (.pv (.int n))) (some (.pv (tv s))) (some (.pv (tv e))) (some (.pv (kE [pi,aV (bW s e),s])));have ea:=a.eq [.dic true kvs];have ew:=a.way [.dic true kvs];have et:eG kvs (sd pi s e n)=fL (fL kvs ([pi,aV (bW s e),s],n)) ([pi,aV (bW s e),e],-n):=rfl;rw [et];refine ⟨some (.pv (tv (aV (bW s e)))),some (.pv (tv e)),some (.pv (.int (-n))),some (.pv (kE [pi,aV (bW s e),e])),?_⟩;unfold vY;generalize (bW s e).map PV.int=T5,tv pi=T4,tv (aV (bW s e))=T3,tv e=T2,tv s=T1 at *;simp [EC,aE,aZ,aY,aS,aO,aP,aR,aQ,aF,aN,ea,ew,bJ,bH,cN,eM,fG,gT,cJ,eC,gN,e1,e2]
structure Wl (w:List (List Int)):Prop where
 ln:w.length=2∨w.length=3
 ar:∀ x∈iS w,Ar x.1 x.2
 pl:∀ S,mJ [.pv (.tup (w.map tv))] S=.ok (.pv (tv (aV (bN w)))) S
theorem Nu {w:List (List Int)} (h:w.length=2∨w.length=3) (S:aI):rG [.pv (.tup (w.map tv))] S=.ok (.pv (.lst ((iS w).map fun x=>.tup [tv x.1,tv x.2]))) S:=by
 have rg:fU [.pv (.int 3)] S=.ok ([.int 0,.int 1,.int 2],[]) S:=by
  unfold fU;dsimp only;rw [if_pos (by decide)];rfl
 unfold rG aX zG;rcases h with h | h
 ·match w,h with
  | [a,b],_ =>
   generalize hA:tv a=TA;generalize hB:tv b=TB;simp [EC,aE,aZ,aY,aS,aO,aP,aR,aQ,aF,aN,iS,hA,hB]
 ·match w,h with
  | [a,b,c],_ =>
   generalize hA:tv a=TA;generalize hB:tv b=TB;generalize hC:tv c=TC;simp [EC,aE,aZ,aY,aS,aO,aP,aR,aQ,aF,aN,iS,hA,hB,hC,bB,cO,bO,rg,eD,eA,gN]
def Oo:MS:=(aH (aK 3 (aJ mJ [] (aB (aA 1) aD)))
 (bJ (bH (aJ rG [] (aB (aA 1) aD))) (gT 2 (cJ (gN 4) (cJ (gN 5) eC))) vY))
theorem Vd {kvs0:List (PV × PV)} {C:List cG} (pi:List Int) (n:Int) (w1:Option AV):∀ (L:List (List Int × List Int)) (kvs:List (PV × PV)) (D:List cG),Tb kvs (C++D)→(C++D).length+2*L.length≤90000→(∀ x∈L,Ar x.1 x.2)→∀ x4 x5 x6 x7 x8 x9,
  ∃ y4 y5 y6 y7 y8 y9,dM [] (gT 2 (cJ (gN 4) (cJ (gN 5) eC))) vY (L.map fun x=>.tup [tv x.1,tv x.2]) [some (.ref 0),w1,some (.pv (.int n)),some (.pv (tv pi)),x4,x5,x6,x7,x8,x9] [.dic true kvs]=.nx [some (.ref 0),w1,some (.pv (.int n)),some (.pv (tv pi)),y4,y5,y6,y7,y8,y9] [.dic true (eG kvs (L.flatMap fun x=>sd pi x.1 x.2 n))]
 | [],kvs,D,h,hl,ha,x4,x5,x6,x7,x8,x9=>⟨x4,x5,x6,x7,x8,x9,fG⟩
 | x :: L,kvs,D,h,hl,ha,x4,x5,x6,x7,x8,x9=>by
  rw [List.length_cons] at hl;obtain ⟨z6,z7,z8,z9,e⟩:=W5 h (by omega) (ha x List.mem_cons_self) pi n w1 x6 x7 x8 x9;have h2:=h.adds (sd pi x.1 x.2 n);rw [List.append_assoc] at h2;obtain ⟨y4,y5,y6,y7,y8,y9,e2⟩:=Vd (kvs0:=kvs0) pi n w1 L _ _ h2 (by
   rw [← List.append_assoc,List.length_append];have:(sd pi x.1 x.2 n).length=2:=rfl;omega) (fun y hy=>ha y (List.mem_cons_of_mem _ hy)) (some (.pv (tv x.1))) (some (.pv (tv x.2))) z6 z7 z8 z9
  refine ⟨y4,y5,y6,y7,y8,y9,?_⟩;rw [jS] at e2;rw [List.map_cons,eM,List.flatMap_cons];simp [gT,cJ,eC,gN,e,e2]
theorem Fy {kvs:List (PV × PV)} {C:List cG} (h:Tb kvs C) (hl:C.length≤80000) {w:List (List Int)} (hw:Wl w) (n:Int):qU [.ref 0,.pv (.tup (w.map tv)),.pv (.int n)] [.dic true kvs]=.ok (.pv .non) [.dic true (eG kvs (cW w n))]:=by
 have l3:(iS w).length≤3:=by
  rcases hw.ln with e | e
  ·match w,e with
   | [a,b],_=>simp [iS]
  ·match w,e with
   | [a,b,c],_=>simp [iS]
 obtain ⟨y4,y5,y6,y7,y8,y9,e⟩:=Vd (kvs0:=kvs) (C:=C) (aV (bN w)) n (some (.pv (.tup (w.map tv)))) (iS w) kvs [] (by rw [List.append_nil]; exact h) (by rw [List.append_nil]; omega) hw.ar none none none none none none;have e1:=hw.pl [.dic true kvs];have e2:=Nu hw.ln [.dic true kvs];have hb:xI=Oo:=rfl;unfold qU aX cW;rw [hb];unfold Oo;generalize tv (aV (bN w))=T3,(iS w).map (fun x=>PV.tup [tv x.1,tv x.2])=T2,PV.tup (w.map tv)=T1 at *;simp [EC,aE,aZ,aY,aS,aO,aP,aR,aQ,aF,aN,e1,e2,bJ,bH,cN,e]
def gX:List (List Int)→List (List (List Int))
 | [a,b,c]=>[[a,b],[b,c],[c,a]]
 | [a,b,c,d]=>[[b,c,d],[a,d,c],[a,b,d],[a,c,b]]
 | _=>[]
def cP (uss:List (List Int)) (n:Int):List cG:=(gX uss).flatMap fun w=>cW w n
def cH (hs:List (List (List Int))) (n:Int):List cG:=hs.flatMap fun uss=>cP uss n
structure Pc (uss:List (List Int)):Prop where
 ln:uss.length=3∨uss.length=4
 wl:∀ w∈gX uss,Wl w
theorem Ot {uss:List (List Int)} (h:uss.length=3∨uss.length=4) (S:aI):rM [.pv (px uss)] S=.ok (.pv (.lst ((gX uss).map fun w=>.tup (w.map tv)))) S:=by
 unfold rM aX zL;rcases h with h | h
 ·match uss,h with
  | [a,b,c],_ =>
   generalize hA:tv a=TA;generalize hB:tv b=TB;generalize hC:tv c=TC;simp [EC,aE,aZ,aY,aS,aO,aP,aR,aQ,aF,aN,gX,hA,hB,hC,bB,cO,bH,cN,eD,eA,gN]
 ·match uss,h with
  | [a,b,c,d],_ =>
   generalize hA:tv a=TA;generalize hB:tv b=TB;generalize hC:tv c=TC;generalize hD:tv d=TD;simp [EC,aE,aZ,aY,aS,aO,aP,aR,aQ,aF,aN,gX,hA,hB,hC,hD,bB,cO,bH,cN,eD,eA,gN]
theorem mT (w:List (List Int)) (n:Int):(cW w n).length≤6:=by
 unfold cW iS;split <;> simp [sd]
theorem Il (uss:List (List Int)) (n:Int):(cP uss n).length≤24:=by
 unfold cP gX;split
 ·rename_i a b c
  have h1:=mT [a,b] n;have h2:=mT [b,c] n;have h3:=mT [c,a] n;simp only [List.flatMap_cons,List.flatMap_nil,List.length_append,List.length_nil];omega
 ·rename_i a b c d
  have h1:=mT [b,c,d] n;have h2:=mT [a,d,c] n;have h3:=mT [a,b,d] n;have h4:=mT [a,c,b] n;simp only [List.flatMap_cons,List.flatMap_nil,List.length_append,List.length_nil];omega
 ·simp
def wB:MS:=(cS (aJ qU [] (aB (aA 2) (aB (aA 6) (aB (aA 4) aD)))))
def vZ:MS:=(bJ (bH (aJ rM [] (aB (aA 5) aD))) (gN 6) wB)
def Dc:MS:=(bJ (bH (aA 3)) (gN 5) vZ)
def Ko:MS:=(aH (aK 2 (iY true))
 (aH (bJ (bH (mN cT (aB (mN cT (aB (aA 0) (aB (mC (.int 1)) aD))) (aB (mN cT (aB (aA 1) (aB (cD cK (mC (.int 1))) aD))) aD)))) (gT 2 (cJ (gN 3) (cJ (gN 4) eC))) Dc)
 (bG (cD oI (rY (aA 2))))))
theorem Ke {C:List cG} (n:Int) (a0 a1 a3 a5:Option AV):∀ (L:List (List (List Int))) (kvs:List (PV × PV)) (D:List cG),Tb kvs (C++D)→(C++D).length+6*L.length≤80000→(∀ w∈L,Wl w)→∀ x6,
  ∃ y6,dM [] (gN 6) wB (L.map fun w=>.tup (w.map tv)) [a0,a1,some (.ref 0),a3,some (.pv (.int n)),a5,x6] [.dic true kvs]=.nx [a0,a1,some (.ref 0),a3,some (.pv (.int n)),a5,y6] [.dic true (eG kvs (L.flatMap fun w=>cW w n))]
 | [],kvs,D,h,hl,ha,x6=>⟨x6,fG⟩
 | w :: L,kvs,D,h,hl,ha,x6=>by
  rw [List.length_cons] at hl;have e:=Fy h (by omega) (ha w List.mem_cons_self) n;have h2:=h.adds (cW w n);rw [List.append_assoc] at h2;obtain ⟨y6,e2⟩:=Ke n a0 a1 a3 a5 L _ _ h2 (by
   rw [← List.append_assoc,List.length_append];have:=mT w n;omega) (fun y hy=>ha y (List.mem_cons_of_mem _ hy)) (some (.pv (.tup (w.map tv))))
  refine ⟨y6,?_⟩;rw [jS] at e2;rw [List.map_cons,eM,List.flatMap_cons];generalize PV.tup (w.map tv)=T1 at *;have e3:wB [a0,a1,some (.ref 0),a3,some (.pv (.int n)),a5,some (.pv T1)] [.dic true kvs]=.nx [a0,a1,some (.ref 0),a3,some (.pv (.int n)),a5,some (.pv T1)] [.dic true (eG kvs (cW w n))]:=by
   unfold wB;simp [EC,aE,aZ,aY,aS,aO,aP,aR,aQ,aF,aN,e]
  simp [gN,e3,e2]
theorem Ch {C:List cG} (n:Int) (a0 a1 a3:Option AV):∀ (L:List (List (List Int))) (kvs:List (PV × PV)) (D:List cG),Tb kvs (C++D)→(C++D).length+24*L.length≤70000→(∀ u∈L,Pc u)→∀ x5 x6,
  ∃ y5 y6,dM [] (gN 5) vZ (L.map px) [a0,a1,some (.ref 0),a3,some (.pv (.int n)),x5,x6] [.dic true kvs]=.nx [a0,a1,some (.ref 0),a3,some (.pv (.int n)),y5,y6] [.dic true (eG kvs (cH L n))]
 | [],kvs,D,h,hl,ha,x5,x6=>⟨x5,x6,fG⟩
 | u :: L,kvs,D,h,hl,ha,x5,x6=>by
  rw [List.length_cons] at hl;have hp:=ha u List.mem_cons_self;have lw:(gX u).length≤4:=by
   rcases hp.ln with e | e
   ·match u,e with
    | [a,b,c],_=>simp [gX]
   ·match u,e with
    | [a,b,c,d],_=>simp [gX]
  obtain ⟨z6,e⟩:=Ke (C:=C) n a0 a1 a3 (some (.pv (px u))) (gX u) kvs D h (by omega) hp.wl x6;have e1:=Ot hp.ln [.dic true kvs];have h2:=h.adds (cP u n);rw [List.append_assoc] at h2;obtain ⟨y5,y6,e2⟩:=Ch n a0 a1 a3 L _ _ h2 (by
   rw [← List.append_assoc,List.length_append];have:=Il u n;omega) (fun y hy=>ha y (List.mem_cons_of_mem _ hy)) (some (.pv (px u))) z6
  refine ⟨y5,y6,?_⟩;rw [jS] at e2;have ec:cH (u :: L) n=cP u n++cH L n:=List.flatMap_cons;rw [List.map_cons,eM,ec];have e0:(gX u).flatMap (fun w=>cW w n)=cP u n:=rfl;rw [e0] at e;generalize px u=T1,(gX u).map (fun w=>PV.tup (w.map tv))=T2 at *;have e3:vZ [a0,a1,some (.ref 0),a3,some (.pv (.int n)),some (.pv T1),x6] [.dic true kvs]=.nx [a0,a1,some (.ref 0),a3,some (.pv (.int n)),some (.pv T1),z6] [.dic true (eG kvs (cP u n))]:=by
   unfold vZ;simp [EC,aE,aZ,aY,aS,aO,aP,aR,aQ,aF,aN,bJ,bH,cN,e1,e]
  simp [gN,e3,e2]
theorem Tm {C:List cG} {n:Int} {a0 a1 x5 x6:Option AV} {A:PV} {hs:List (List (List Int))} {kvs:List (PV × PV)} (h:Tb kvs C) (hl:C.length+24*hs.length≤70000) (ha:∀ u∈hs,Pc u) (hA:Sv A (hs.map px)) :
  ∃ y5 y6,Dc [a0,a1,some (.ref 0),some (.pv A),some (.pv (.int n)),x5,x6] [.dic true kvs]=.nx [a0,a1,some (.ref 0),some (.pv A),some (.pv (.int n)),y5,y6] [.dic true (eG kvs (cH hs n))]:=by
 obtain ⟨y5,y6,e⟩:=Ch (C:=C) n a0 a1 (some (.pv A)) hs kvs [] (by rw [List.append_nil]; exact h) (by rw [List.append_nil]; exact hl) ha x5 x6;refine ⟨y5,y6,?_⟩;unfold Dc;rcases hA with rfl | rfl <;> simp [EC,aE,aZ,aY,aS,aO,aP,aR,aQ,aF,aN,bJ,bH,cN,e]
theorem Dz {A B:PV} {hs gs:List (List (List Int))} (hA:Sv A (hs.map px)) (hB:Sv B (gs.map px)) (h:∀ u∈hs,Pc u) (g:∀ u∈gs,Pc u) (lh:hs.length≤1000) (lg:gs.length≤1000) :
  ∃ b,nZ [.pv A,.pv B] []=.ok (.pv (.bl b)) []∧(b=true↔∀ k,dD (cH hs 1++cH gs (-1)) k=0):=by
 have h0:=Tb.nil;have cl:∀ (hs:List (List (List Int))) (n:Int),(cH hs n).length≤24*hs.length:=fun hs n=>by
  induction hs with
  | nil=>simp [cH]
  | cons u hs ih =>
   have e:cH (u :: hs) n=cP u n++cH hs n:=List.flatMap_cons;rw [e,List.length_append,List.length_cons];have:=Il u n;omega
 obtain ⟨y5,y6,e1⟩:=Tm (n:=1) (a0:=some (.pv A)) (a1:=some (.pv B)) (x5:=none) (x6:=none) h0 (by simp; omega) h hA;have h1:=h0.adds (cH hs 1);rw [List.nil_append] at h1;have l1:=cl hs 1;obtain ⟨z5,z6,e2⟩:=Tm (n:=-1) (a0:=some (.pv A)) (a1:=some (.pv B)) (x5:=y5) (x6:=y6) h1 (by omega) g hB;have h2:=h1.adds (cH gs (-1));obtain ⟨b,e3,eb⟩:=E9 h2;refine ⟨!b,?_,by rw [← eb]; cases b <;> simp⟩;have hb:zO=Ko:=rfl;unfold nZ aX;rw [hb];unfold Ko;simp [EC,aE,aZ,aY,aS,aO,aP,aR,aQ,aF,aN,iY,bJ,bH,cN,eM,fG,gT,cJ,eC,gN,e1,e2,rY,e3]
theorem ar2 {x0 y0 w0 x1 y1 w1:Int} (p:P2 x0 y0 w0) (q:P2 x1 y1 w1) (nz:¬ (x1*w0 - x0*w1=0∧y1*w0 - y0*w1=0)):Ar [x0,y0,w0] [x1,y1,w1]:=by
 refine ⟨fun S=>Cl S p q,fun n hn=>?_,?_⟩
 ·have hn:n=x1*w0 - x0*w1∨n=y1*w0 - y0*w1:=by simpa [bW] using hn
  rcases hn with rfl | rfl
  ·exact (sb p.bx p.bw q.bx q.bw).mono (by decide)
  ·exact (sb p.by_ p.bw q.by_ q.bw).mono (by decide)
 ·by_cases h:x1*w0 - x0*w1=0
  ·exact ⟨_,by simp [bW],fun h2=>nz ⟨h,h2⟩⟩
  ·exact ⟨_,by simp [bW],h⟩
theorem Kc {x0 y0 z0 w0 x1 y1 z1 w1:Int} (p:P3 x0 y0 z0 w0) (q:P3 x1 y1 z1 w1) (nz:¬ (x1*w0 - x0*w1=0∧y1*w0 - y0*w1=0∧z1*w0 - z0*w1=0)):Ar [x0,y0,z0,w0] [x1,y1,z1,w1]:=by
 refine ⟨fun S=>zQ S p q,fun n hn=>?_,?_⟩
 ·have hn:n=x1*w0 - x0*w1∨n=y1*w0 - y0*w1∨n=z1*w0 - z0*w1:=by simpa [bW] using hn
  rcases hn with rfl | rfl | rfl
  ·exact (sb p.bx p.bw q.bx q.bw).mono (by decide)
  ·exact (sb p.by_ p.bw q.by_ q.bw).mono (by decide)
  ·exact (sb p.bz p.bw q.bz q.bw).mono (by decide)
 ·by_cases h:x1*w0 - x0*w1=0
  ·by_cases h1:y1*w0 - y0*w1=0
   ·exact ⟨_,by simp [bW],fun h2=>nz ⟨h,h1,h2⟩⟩
   ·exact ⟨y1*w0 - y0*w1,by simp [bW],h1⟩
  ·exact ⟨x1*w0 - x0*w1,by simp [bW],h⟩
theorem Oc {x0 y0 w0 x1 y1 w1:Int} (p:P2 x0 y0 w0) (q:P2 x1 y1 w1) (nz:¬ (x1*w0 - x0*w1=0∧y1*w0 - y0*w1=0)):Wl [[x0,y0,w0],[x1,y1,w1]]:=by
 have a:=ar2 p q nz;refine ⟨.inl rfl,fun x hx=>?_,fun S=>?_⟩
 ·have hx:x=([x0,y0,w0],[x1,y1,w1]):=by simpa [iS] using hx
  subst hx;exact a
 ·have e1:=Cl S p q
  have e2:=Rz (x1*w0 - x0*w1) (y1*w0 - y0*w1) S;have e3:=yX (bN [[x0,y0,w0],[x1,y1,w1]]) S (fun n hn=>by
   have hn:n=-(y1*w0 - y0*w1)∨n=x1*w0 - x0*w1:=by simpa [bN,bW] using hn
   rcases hn with rfl | rfl
   ·exact ((sb p.by_ p.bw q.by_ q.bw).neg).mono (by decide)
   ·exact (sb p.bx p.bw q.bx q.bw).mono (by decide)) (by
   by_cases h:x1*w0 - x0*w1=0
   ·exact ⟨-(y1*w0 - y0*w1),by simp [bN,bW],fun h2=>nz ⟨h,by omega⟩⟩
   ·exact ⟨x1*w0 - x0*w1,by simp [bN,bW],h⟩)
  have e4:(bN [[x0,y0,w0],[x1,y1,w1]]).map PV.int=[.int (-(y1*w0 - y0*w1)),.int (x1*w0 - x0*w1)]:=rfl;rw [e4] at e3;have i0:aE (.tup [v2 x0 y0 w0,v2 x1 y1 w1]) (.int 0)=some (v2 x0 y0 w0):=dS (j:=0) rfl;have sl:=uV (v2 x0 y0 w0) [v2 x1 y1 w1];show mJ [.pv (.tup [v2 x0 y0 w0,v2 x1 y1 w1])] S=_;generalize v2 x1 y1 w1=B,v2 x0 y0 w0=A,y1*w0 - y0*w1=v,x1*w0 - x0*w1=u,tv (aV (bN [[x0,y0,w0],[x1,y1,w1]]))=R at *;unfold mJ aX sW;simp [EC,bI,aO,aP,aR,aQ,aF,aN,bB,cO,bH,dF,dH,dE,iG,sl,cN,eD,eA,gN,i0,e1,e2,e3]
theorem wI {x0 y0 z0 w0 x1 y1 z1 w1 x2 y2 z2 w2:Int} (p:P3 x0 y0 z0 w0) (q:P3 x1 y1 z1 w1) (r:P3 x2 y2 z2 w2) (nz:∃ n∈bN [[x0,y0,z0,w0],[x1,y1,z1,w1],[x2,y2,z2,w2]],n≠0):Wl [[x0,y0,z0,w0],[x1,y1,z1,w1],[x2,y2,z2,w2]]:=by
 have hn:bN [[x0,y0,z0,w0],[x1,y1,z1,w1],[x2,y2,z2,w2]]=[(y1*w0 - y0*w1)*(z2*w0 - z0*w2) - (z1*w0 - z0*w1)*(y2*w0 - y0*w2),(z1*w0 - z0*w1)*(x2*w0 - x0*w2) - (x1*w0 - x0*w1)*(z2*w0 - z0*w2),(x1*w0 - x0*w1)*(y2*w0 - y0*w2) - (y1*w0 - y0*w1)*(x2*w0 - x0*w2)]:=rfl;rw [hn] at nz;have q0:=p.pos;have q1:=q.pos;have q2:=r.pos;have n01:¬ (x1*w0 - x0*w1=0∧y1*w0 - y0*w1=0∧z1*w0 - z0*w1=0):=fun ⟨h1,h2,h3⟩=>by
  obtain ⟨n,hm,h⟩:=nz;rw [h1,h2,h3] at hm;simp at hm;exact h hm
 have n20:¬ (x0*w2 - x2*w0=0∧y0*w2 - y2*w0=0∧z0*w2 - z2*w0=0):=fun ⟨h1,h2,h3⟩=>by
  obtain ⟨n,hm,h⟩:=nz;rw [show x2*w0 - x0*w2=0 by omega,show y2*w0 - y0*w2=0 by omega,show z2*w0 - z0*w2=0 by omega] at hm;simp at hm;exact h hm
 have n12:¬ (x2*w1 - x1*w2=0∧y2*w1 - y1*w2=0∧z2*w1 - z1*w2=0):=fun ⟨h1,h2,h3⟩=>by
  obtain ⟨n,hm,h⟩:=nz;have g:w1*n=0:=by
   simp only [List.mem_cons,List.not_mem_nil,or_false] at hm;rcases hm with rfl | rfl | rfl <;> grind
  rcases Int.mul_eq_zero.mp g with g | g
  ·omega
  ·exact h g
 refine ⟨.inr rfl,fun x hx=>?_,fun S=>?_⟩
 ·have hx:x=([x2,y2,z2,w2],[x0,y0,z0,w0])∨x=([x0,y0,z0,w0],[x1,y1,z1,w1])∨x=([x1,y1,z1,w1],[x2,y2,z2,w2]):=by simpa [iS] using hx
  rcases hx with rfl | rfl | rfl
  ·exact Kc r p n20
  ·exact Kc p q n01
  ·exact Kc q r n12
 ·have e1:=zQ S p q
  have e2:=zQ S p r;have b1:=sb p.bx p.bw q.bx q.bw;have b2:=sb p.by_ p.bw q.by_ q.bw;have b3:=sb p.bz p.bw q.bz q.bw;have b4:=sb p.bx p.bw r.bx r.bw;have b5:=sb p.by_ p.bw r.by_ r.bw;have b6:=sb p.bz p.bw r.bz r.bw;have m:(2001:Nat)≤10000:=by decide
  have e3:=Fx S (b1.mono m) (b2.mono m) (b3.mono m) (b4.mono m) (b5.mono m) (b6.mono m);have e4:=yX (bN [[x0,y0,z0,w0],[x1,y1,z1,w1],[x2,y2,z2,w2]]) S (fun n hm=>by
   rw [hn] at hm;simp only [List.mem_cons,List.not_mem_nil,or_false] at hm;rcases hm with rfl | rfl | rfl
   ·exact (cb b2 b6 b3 b5).mono (by decide)
   ·exact (cb b3 b4 b1 b6).mono (by decide)
   ·exact (cb b1 b5 b2 b4).mono (by decide)) (by rw [hn]; exact nz)
  generalize tv (aV (bN [[x0,y0,z0,w0],[x1,y1,z1,w1],[x2,y2,z2,w2]]))=R at *;rw [hn] at e4;have i0:aE (.tup [v3 x0 y0 z0 w0,v3 x1 y1 z1 w1,v3 x2 y2 z2 w2]) (.int 0)=some (v3 x0 y0 z0 w0):=dS (j:=0) rfl;have sl:=uV (v3 x0 y0 z0 w0) [v3 x1 y1 z1 w1,v3 x2 y2 z2 w2];show mJ [.pv (.tup [v3 x0 y0 z0 w0,v3 x1 y1 z1 w1,v3 x2 y2 z2 w2])] S=_;clear nz hn n01 n12 n20 b1 b2 b3 b4 b5 b6;generalize L2.Pp.PV.tup [.int x2,.int y2,.int z2,.int w2]=T,L2.Pp.PV.tup [.int x1,.int y1,.int z1,.int w1]=B,L2.Pp.PV.tup [.int x0,.int y0,.int z0,.int w0]=A,z2*w0 - z0*w2=v3,y2*w0 - y0*w2=v2,x2*w0 - x0*w2=v1,z1*w0 - z0*w1=u3,y1*w0 - y0*w1=u2,x1*w0 - x0*w1=u1 at *;generalize u1*v2 - u2*v1=k3,u3*v1 - u1*v3=k2,u2*v3 - u3*v2=k1 at *;simp only [List.map_cons,List.map_nil] at e4;unfold mJ aX sW;simp [EC,bI,aO,aP,aR,aQ,aF,aN,bB,cO,bH,dF,dH,dE,iG,sl,cN,eD,eA,gN,i0,e1,e2,e3,e4]
theorem uG {x0 y0 z0 w0 x1 y1 z1 w1 x2 y2 z2 w2 x3 y3 z3 w3:Int} (p0:0 < w0) (d:D3 x0 y0 z0 w0 x1 y1 z1 w1 x2 y2 z2 w2 x3 y3 z3 w3≠0):∃ n∈bN [[x0,y0,z0,w0],[x1,y1,z1,w1],[x2,y2,z2,w2]],n≠0:=by
 apply Decidable.byContradiction;intro h;have hz:∀ n∈bN [[x0,y0,z0,w0],[x1,y1,z1,w1],[x2,y2,z2,w2]],n=0:=fun n hn=>Decidable.byContradiction fun c=>h ⟨n,hn,c⟩;have h1:(y1*w0 - y0*w1)*(z2*w0 - z0*w2) - (z1*w0 - z0*w1)*(y2*w0 - y0*w2)=0:=hz _ (by simp [bN,dJ,bW]);have h2:(z1*w0 - z0*w1)*(x2*w0 - x0*w2) - (x1*w0 - x0*w1)*(z2*w0 - z0*w2)=0:=hz _ (by simp [bN,dJ,bW]);have h3:(x1*w0 - x0*w1)*(y2*w0 - y0*w2) - (y1*w0 - y0*w1)*(x2*w0 - x0*w2)=0:=hz _ (by simp [bN,dJ,bW]);have e:w0*w0*D3 x0 y0 z0 w0 x1 y1 z1 w1 x2 y2 z2 w2 x3 y3 z3 w3=((y1*w0 - y0*w1)*(z2*w0 - z0*w2) - (z1*w0 - z0*w1)*(y2*w0 - y0*w2))*(x3*w0 - x0*w3)+((z1*w0 - z0*w1)*(x2*w0 - x0*w2) - (x1*w0 - x0*w1)*(z2*w0 - z0*w2))*(y3*w0 - y0*w3)+((x1*w0 - x0*w1)*(y2*w0 - y0*w2) - (y1*w0 - y0*w1)*(x2*w0 - x0*w2))*(z3*w0 - z0*w3):=by
  unfold D3;grind
 rw [h1,h2,h3,Int.zero_mul,Int.zero_mul,Int.zero_mul] at e;rcases Int.mul_eq_zero.mp e with g | g
 ·rcases Int.mul_eq_zero.mp g with g | g <;> omega
 ·exact d g
theorem aan (x0 y0 z0 w0 x1 y1 z1 w1 x2 y2 z2 w2 x3 y3 z3 w3:Int):D3 x1 y1 z1 w1 x2 y2 z2 w2 x3 y3 z3 w3 x0 y0 z0 w0=- D3 x0 y0 z0 w0 x1 y1 z1 w1 x2 y2 z2 w2 x3 y3 z3 w3:=by
 unfold D3;grind
theorem aat (x0 y0 z0 w0 x1 y1 z1 w1 x2 y2 z2 w2 x3 y3 z3 w3:Int):D3 x0 y0 z0 w0 x3 y3 z3 w3 x2 y2 z2 w2 x1 y1 z1 w1=- D3 x0 y0 z0 w0 x1 y1 z1 w1 x2 y2 z2 w2 x3 y3 z3 w3:=by
 unfold D3;grind
theorem aal (x0 y0 z0 w0 x1 y1 z1 w1 x2 y2 z2 w2 x3 y3 z3 w3:Int):D3 x0 y0 z0 w0 x1 y1 z1 w1 x3 y3 z3 w3 x2 y2 z2 w2=- D3 x0 y0 z0 w0 x1 y1 z1 w1 x2 y2 z2 w2 x3 y3 z3 w3:=by
 unfold D3;grind
theorem aaC (x0 y0 z0 w0 x1 y1 z1 w1 x2 y2 z2 w2 x3 y3 z3 w3:Int):D3 x0 y0 z0 w0 x2 y2 z2 w2 x1 y1 z1 w1 x3 y3 z3 w3=- D3 x0 y0 z0 w0 x1 y1 z1 w1 x2 y2 z2 w2 x3 y3 z3 w3:=by
 unfold D3;grind
theorem P7 {n k:Nat} (hn:n=2∨n=3) (hk:k≤1000) {uss:List (List Int)} (hl:uss.length=n+1) (hg:∀ us∈uss,Gu n k us) (nz:dU uss≠0):Pc uss:=by
 rcases hn with rfl | rfl
 ·match uss,hl with
  | [a,b,c],_ =>
   obtain ⟨x0,y0,w0,rfl,p0⟩:=(hg a (by simp)).two hk;obtain ⟨x1,y1,w1,rfl,p1⟩:=(hg b (by simp)).two hk;obtain ⟨x2,y2,w2,rfl,p2⟩:=(hg c (by simp)).two hk;have nz:D2 x0 y0 w0 x1 y1 w1 x2 y2 w2≠0:=nz;have q0:=p0.pos;have q1:=p1.pos;have q2:=p2.pos;refine ⟨.inl rfl,fun w hw=>?_⟩;have hw:w=[[x0,y0,w0],[x1,y1,w1]]∨w=[[x1,y1,w1],[x2,y2,w2]]∨w=[[x2,y2,w2],[x0,y0,w0]]:=by simpa [gX] using hw
   have key:∀ {u D:Int},0 < u→u*D=0→D=0:=fun hu h=>by
    rcases Int.mul_eq_zero.mp h with g | g
    ·omega
    ·exact g
   rcases hw with rfl | rfl | rfl
   ·refine Oc p0 p1 fun ⟨h1,h2⟩=>nz (key q0 ?_)
    have e:w0*D2 x0 y0 w0 x1 y1 w1 x2 y2 w2=(x1*w0 - x0*w1)*(y2*w0 - y0*w2) - (y1*w0 - y0*w1)*(x2*w0 - x0*w2):=by unfold D2; grind
    rw [e,h1,h2,Int.zero_mul,Int.zero_mul,Int.sub_zero]
   ·refine Oc p1 p2 fun ⟨h1,h2⟩=>nz (key q1 ?_)
    have e:w1*D2 x0 y0 w0 x1 y1 w1 x2 y2 w2=(x2*w1 - x1*w2)*(y0*w1 - y1*w0) - (y2*w1 - y1*w2)*(x0*w1 - x1*w0):=by unfold D2; grind
    rw [e,h1,h2,Int.zero_mul,Int.zero_mul,Int.sub_zero]
   ·refine Oc p2 p0 fun ⟨h1,h2⟩=>nz (key q2 ?_)
    have e:w2*D2 x0 y0 w0 x1 y1 w1 x2 y2 w2=(x0*w2 - x2*w0)*(y1*w2 - y2*w1) - (y0*w2 - y2*w0)*(x1*w2 - x2*w1):=by unfold D2; grind
    rw [e,h1,h2,Int.zero_mul,Int.zero_mul,Int.sub_zero]
 ·match uss,hl with
  | [a,b,c,d],_ =>
   obtain ⟨x0,y0,z0,w0,rfl,p0⟩:=(hg a (by simp)).three hk;obtain ⟨x1,y1,z1,w1,rfl,p1⟩:=(hg b (by simp)).three hk;obtain ⟨x2,y2,z2,w2,rfl,p2⟩:=(hg c (by simp)).three hk;obtain ⟨x3,y3,z3,w3,rfl,p3⟩:=(hg d (by simp)).three hk;have nz:D3 x0 y0 z0 w0 x1 y1 z1 w1 x2 y2 z2 w2 x3 y3 z3 w3≠0:=nz;refine ⟨.inr rfl,fun w hw=>?_⟩;have hw:w=[[x1,y1,z1,w1],[x2,y2,z2,w2],[x3,y3,z3,w3]]∨w=[[x0,y0,z0,w0],[x3,y3,z3,w3],[x2,y2,z2,w2]]∨w=[[x0,y0,z0,w0],[x1,y1,z1,w1],[x3,y3,z3,w3]]∨w=[[x0,y0,z0,w0],[x2,y2,z2,w2],[x1,y1,z1,w1]]:=by simpa [gX] using hw
   rcases hw with rfl | rfl | rfl | rfl
   ·exact wI p1 p2 p3 (uG p1.pos (x3:=x0) (y3:=y0) (z3:=z0) (w3:=w0) (by rw [aan]; omega))
   ·exact wI p0 p3 p2 (uG p0.pos (x3:=x1) (y3:=y1) (z3:=z1) (w3:=w1) (by rw [aat]; omega))
   ·exact wI p0 p1 p3 (uG p0.pos (x3:=x2) (y3:=y2) (z3:=z2) (w3:=w2) (by rw [aal]; omega))
   ·exact wI p0 p2 p1 (uG p0.pos (x3:=x3) (y3:=y3) (z3:=z3) (w3:=w3) (by rw [aaC]; omega))
theorem An {k:Int} (h:k≠0):sg k*sg k=1:=by
 unfold sg; (repeat' split) <;> omega
theorem Li {k:Int} (hk:0 < k) (l:List Int):aV (l.map (k*·))=aV l:=by
 by_cases z:gl l 0=0
 ·have e:l.map (k*·)=l:=by
   have h:=zK z;clear z
   induction l with
   | nil=>rfl
   | cons n l ih=>rw [List.map_cons,ih fun m hm=>h m (List.mem_cons_of_mem _ hm),h n (List.mem_cons_self ..),Int.mul_zero]
  rw [e]
 ·have hf:∀ l:List Int,dG (l.map (k*·))=dG l:=fun l=>by
   induction l with
   | nil=>rfl
   | cons n l ih =>
    rw [List.map_cons];unfold dG
    by_cases h:n=0
    ·subst h
     simpa using ih
    ·rw [if_neg h,if_neg (Int.mul_ne_zero (by omega) h),jH hk]
  unfold aV;rw [xV hk l z,hf]
theorem Zg {k:Int} (hk:k≠0) (l:List Int):aV (l.map (k*·))=aV l:=by
 by_cases h:0 < k
 ·exact Li h l
 ·have e:l.map (k*·)=(l.map ((-k)*·)).map (- ·):=by
   rw [List.map_map];refine List.map_congr_left fun n _=>?_;show k*n=-(-k*n);rw [Int.neg_mul,Int.neg_neg]
  rw [e,pG,Li (by omega) l]
theorem mO {u v:List Int} {a b:Int} (ha:a≠0) (hb:b≠0) (h:u.map (a*·)=v.map (b*·)):aV u=aV v:=by
 rw [← Zg ha,h,Zg hb]
theorem Kv (ns:List Int):∃ g:Int,ns=(aV ns).map (g*·):=by
 by_cases z:gl ns 0=0
 ·have h:=zK z
  refine ⟨0,?_⟩;have hl:(aV ns).length=ns.length:=by unfold aV; rw [List.length_map,Ck]
  generalize aV ns=D at hl;clear z
  induction ns generalizing D with
  | nil=>cases D with
   | nil=>rfl
   | cons a D=>simp at hl
  | cons n ns ih =>
   cases D with
   | nil=>simp at hl
   | cons a D =>
    rw [List.map_cons,← ih (fun m hm=>h m (List.mem_cons_of_mem _ hm)) D (by simpa using hl),h n (List.mem_cons_self ..),Int.zero_mul]
 ·obtain ⟨g,_,e⟩:=Kj ns
  have hf:dG ns*dG ns=1:=by
   have:∀ l:List Int,gl l 0≠0→dG l*dG l=1:=fun l=>by
    induction l with
    | nil=>intro h; exact absurd rfl h
    | cons n l ih =>
     intro h;unfold dG
     by_cases e:n=0
     ·subst e
      rw [if_pos rfl];exact ih (by simpa [gl] using h)
     ·rw [if_neg e]
      exact An e
   exact this ns z
  refine ⟨g*dG ns,?_⟩;unfold aV;rw [List.map_map];refine e.trans ?_;refine List.map_congr_left fun n _=>?_;show g*n=g*dG ns*(dG ns*n);grind
def tk (pi d p:List Int) (k:List (List Int)):Int:=if [pi,d,p]=k then 1 else 0
def Ed (pi s e:List Int) (k:List (List Int)):Int:=tk pi (aV (bW s e)) s k - tk pi (aV (bW s e)) e k
def W2 (p q:List Int) (k:List (List Int)):Int:=Ed (aV (bN [p,q])) p q k
def W3 (p q r:List Int) (k:List (List Int)):Int:=Ed (aV (bN [p,q,r])) r p k+Ed (aV (bN [p,q,r])) p q k+Ed (aV (bN [p,q,r])) q r k
def PS (uss:List (List Int)) (k:List (List Int)):Int:=match uss with
 | [a,b,c]=>W2 a b k+W2 b c k+W2 c a k
 | [a,b,c,d]=>W3 b c d k+W3 a d c k+W3 a b d k+W3 a c b k
 | _=>0
theorem yL {n:Nat} (hn:n=2∨n=3) {p q:List Int} (hp:Pw n p) (hq:Pw n q):bW q p=(bW p q).map (- ·):=by
 rcases hn with rfl | rfl
 ·obtain ⟨x0,y0,w0,rfl,_⟩:=hp.two
  obtain ⟨x1,y1,w1,rfl,_⟩:=hq.two;simp [bW,Int.neg_sub]
 ·obtain ⟨x0,y0,z0,w0,rfl,_⟩:=hp.three
  obtain ⟨x1,y1,z1,w1,rfl,_⟩:=hq.three;simp [bW,Int.neg_sub]
theorem mP {n:Nat} (hn:n=2∨n=3) {p q:List Int} (hp:Pw n p) (hq:Pw n q) (pi:List Int) (k:List (List Int)):Ed pi q p k=- Ed pi p q k:=by
 unfold Ed;rw [yL hn hp hq,pG];omega
theorem nV {p q:List Int} (hp:Pw 2 p) (hq:Pw 2 q) (k:List (List Int)):W2 q p k=- W2 p q k:=by
 have e:bN [q,p]=(bN [p,q]).map (- ·):=by
  obtain ⟨x0,y0,w0,rfl,_⟩:=hp.two;obtain ⟨x1,y1,w1,rfl,_⟩:=hq.two;simp [bN,bW,Int.neg_sub]
 unfold W2;rw [e,pG,mP (.inl rfl) hp hq]
theorem l3 {a b c d e f:Int} (h:a=d) (g:b=e) (i:c=f):[a,b,c]=[d,e,f]:=by rw [h,g,i]
theorem Lb {p q r:List Int} (hp:Pw 3 p) (hq:Pw 3 q) (hr:Pw 3 r):aV (bN [q,p,r])=aV (bN [p,q,r]):=by
 obtain ⟨x0,y0,z0,w0,rfl,p0⟩:=hp.three;obtain ⟨x1,y1,z1,w1,rfl,p1⟩:=hq.three;obtain ⟨x2,y2,z2,w2,rfl,p2⟩:=hr.three;refine mO (a:=w0) (b:=- w1) (by omega) (by omega) ?_;simp only [bN,bW,dJ,List.map_cons,List.map_nil];refine l3 ?_ ?_ ?_ <;> grind
theorem P9 {p q r:List Int} (hp:Pw 3 p) (hq:Pw 3 q) (hr:Pw 3 r):aV (bN [p,r,q])=aV (bN [p,q,r]):=by
 obtain ⟨x0,y0,z0,w0,rfl,p0⟩:=hp.three;obtain ⟨x1,y1,z1,w1,rfl,p1⟩:=hq.three;obtain ⟨x2,y2,z2,w2,rfl,p2⟩:=hr.three;refine mO (a:=1) (b:=- 1) (by omega) (by omega) ?_;simp only [bN,bW,dJ,List.map_cons,List.map_nil];refine l3 ?_ ?_ ?_ <;> grind
theorem vL {p q r:List Int} (hp:Pw 3 p) (hq:Pw 3 q) (hr:Pw 3 r) (k:List (List Int)):W3 q p r k=- W3 p q r k:=by
 unfold W3;rw [Lb hp hq hr,mP (.inr rfl) hq hr,mP (.inr rfl) hp hq,mP (.inr rfl) hr hp];omega
theorem iO {p q r:List Int} (hp:Pw 3 p) (hq:Pw 3 q) (hr:Pw 3 r) (k:List (List Int)):W3 p r q k=- W3 p q r k:=by
 unfold W3;rw [P9 hp hq hr,mP (.inr rfl) hq hr,mP (.inr rfl) hp hq,mP (.inr rfl) hr hp];omega
def qI (A B:List (List Int)):Prop:=∃ s:Int,(s=1∨s=-1)∧dU B=s*dU A∧∀ k,PS B k=s*PS A k
theorem qI.trans {A B C:List (List Int)} (h:qI A B) (g:qI B C):qI A C:=by
 obtain ⟨s,hs,e1,e2⟩:=h;obtain ⟨t,ht,e3,e4⟩:=g;refine ⟨t*s,?_,by rw [e3,e1,Int.mul_assoc],fun k=>by rw [e4,e2,Int.mul_assoc]⟩;rcases hs with rfl | rfl <;> rcases ht with rfl | rfl <;> simp
theorem B7 {n:Nat} (hn:n=2∨n=3) {pre l:List (List Int)} {x y:List Int} (hl:(pre++y :: x :: l).length=n+1) (hp:∀ u∈pre++y :: x :: l,Pw n u):qI (pre++y :: x :: l) (pre++x :: y :: l):=by
 refine ⟨-1,.inr rfl,(Dk hn hl hp).trans (by omega),fun k=>?_⟩;have hx:=hp x (by simp);have hy:=hp y (by simp);rcases hn with rfl | rfl
 ·match pre,l,hl with
  | [],[c],_ =>
   have hc:=hp c (by simp);have h1:=nV hx hy k;have h2:=nV hx hc k;have h3:=nV hy hc k;simp only [PS,List.nil_append];omega
  | [c],[],_ =>
   have hc:=hp c (by simp);have h1:=nV hx hy k;have h2:=nV hx hc k;have h3:=nV hy hc k;simp only [PS,List.nil_append,List.cons_append];omega
  | [],[],h=>simp at h
  | [],_ :: _ :: _,h=>simp at h
  | _ :: _ :: _,_,h=>simp at h; omega
  | [_],_ :: _,h=>simp at h
 ·match pre,l,hl with
  | [],[c,d],_ =>
   have hc:=hp c (by simp);have hd:=hp d (by simp);have a:=iO hy hd hc k;have b:=iO hx hc hd k;have e:=vL hy hx hd k;have f:=vL hx hc hy k;have g:=iO hc hy hx k;have i:=vL hy hc hx k;simp only [PS,List.nil_append];omega
  | [c],[d],_ =>
   have hc:=hp c (by simp);have hd:=hp d (by simp);have a:=vL hy hx hd k;have b:=iO hc hy hd k;have e:=iO hc hd hx k;have f:=iO hc hx hy k;simp only [PS,List.nil_append,List.cons_append];omega
  | [c,d],[],_ =>
   have hc:=hp c (by simp);have hd:=hp d (by simp);have a:=iO hd hy hx k;have b:=iO hc hx hy k;have e:=iO hc hy hd k;have f:=iO hc hd hx k;simp only [PS,List.nil_append,List.cons_append];omega
  | [],[],h=>simp at h
  | [],[_],h=>simp at h
  | [],_ :: _ :: _ :: _,h=>simp at h
  | [_],[],h=>simp at h
  | [_],_ :: _ :: _,h=>simp at h
  | [_,_],_ :: _,h=>simp at h
  | _ :: _ :: _ :: _,_,h=>simp at h; omega
theorem Lz {n:Nat} (hn:n=2∨n=3) {A B:List (List Int)} (h:A.Perm B):∀ pre:List (List Int),(pre++A).length=n+1→(∀ u∈pre++A,Pw n u)→qI (pre++A) (pre++B):=by
 induction h with
 | nil=>exact fun pre _ _=>⟨1,.inl rfl,(Int.one_mul _).symm,fun k=>(Int.one_mul _).symm⟩
 | cons x _ ih =>
  intro pre hl hp;have:=ih (pre++[x]) (by simpa using hl) (by simpa using hp);simpa using this
 | swap x y l=>exact fun pre hl hp=>B7 hn hl hp
 | trans h1 h2 ih1 ih2 =>
  intro pre hl hp;have e:∀ u,u∈pre++_↔u∈pre++_:=fun u=>(h1.append_left pre).mem_iff;exact (ih1 pre hl hp).trans (ih2 pre (by rw [← (h1.append_left pre).length_eq]; exact hl) fun u hu=>hp u ((e u).mpr hu))
theorem Ga {n k:Nat} (hn:n=2∨n=3) (hk:k≤1000) {uss:List (List Int)} (hl:uss.length=n+1) (hg:∀ us∈uss,Gu n k us) (nz:dU uss≠0) (kk:List (List Int)):PS (cZ uss) kk=sg (dU uss)*PS uss kk:=by
 obtain ⟨s,hs,e1,e2⟩:=Lz hn (yK (lQ hn hl)).symm [] hl fun u hu=>(hg u hu).pt;simp only [List.nil_append] at e1 e2;rw [zP hn hk hl hg] at e1;rw [e2];congr 1;unfold sg;rcases hs with rfl | rfl <;> (repeat' split) <;> omega
def HS:List (List (List Int))→List (List Int)→Int
 | [],_=>0
 | u :: hs,k=>PS u k+HS hs k
theorem Em (hs gs:List (List (List Int))) (k:List (List Int)):HS (hs++gs) k=HS hs k+HS gs k:=by
 induction hs with
 | nil=>simp [HS]
 | cons u hs ih=>simp [HS,ih]; omega
theorem gx {S:aI} {x y:SO} {i:Nat} (h:S[i]?=some y):(S++[x])[i]?=some y:=by
 rw [List.getElem?_append_left (List.getElem?_eq_some_iff.mp h).1];exact h
theorem gs {S:aI} {x y:SO} {i j:Nat} (h:S[i]?=some y) (n:j≠i):(S.set j x)[i]?=some y:=by
 rw [List.getElem?_set_ne n];exact h
def gK (n:Nat) (u v:Int) (p q m:List Int):Prop:=Pw n m∧∀ j,j≤n→m.getD j 0*((u+v)*p.getD n 0*q.getD n 0)=(u*p.getD j 0*q.getD n 0+v*q.getD j 0*p.getD n 0)*m.getD n 0
theorem gK.symm {n:Nat} {u v:Int} {p q m:List Int} (h:gK n u v p q m):gK n v u q p m:=⟨h.1,fun j hj=>by
 have:=h.2 j hj;grind⟩
theorem gK.three {u v:Int} {x0 y0 z0 w0 x1 y1 z1 w1:Int} {m:List Int} (h:gK 3 u v [x0,y0,z0,w0] [x1,y1,z1,w1] m):∃ x y z w,m=[x,y,z,w]∧0 < w∧x*((u+v)*w0*w1)=(u*x0*w1+v*x1*w0)*w∧y*((u+v)*w0*w1)=(u*y0*w1+v*y1*w0)*w∧z*((u+v)*w0*w1)=(u*z0*w1+v*z1*w0)*w:=by
 obtain ⟨x,y,z,w,rfl,p⟩:=h.1.three;exact ⟨x,y,z,w,rfl,p,h.2 0 (by decide),h.2 1 (by decide),h.2 2 (by decide)⟩
theorem gK.two {u v:Int} {x0 y0 w0 x1 y1 w1:Int} {m:List Int} (h:gK 2 u v [x0,y0,w0] [x1,y1,w1] m):∃ x y w,m=[x,y,w]∧0 < w∧x*((u+v)*w0*w1)=(u*x0*w1+v*x1*w0)*w∧y*((u+v)*w0*w1)=(u*y0*w1+v*y1*w0)*w:=by
 obtain ⟨x,y,w,rfl,p⟩:=h.1.two;exact ⟨x,y,w,rfl,p,h.2 0 (by decide),h.2 1 (by decide)⟩
theorem kT {u v x0 w0 x1 w1 x w:Int} (h:x*((u+v)*w0*w1)=(u*x0*w1+v*x1*w0)*w):(u+v)*w1*(x*w0 - x0*w)=v*w*(x1*w0 - x0*w1):=by grind
theorem Iy {n:Nat} (hn:n=2∨n=3) {u v:Int} (hu:0 < u) (hv:0 < v) {p q m:List Int} (hp:Pw n p) (hq:Pw n q) (h:gK n u v p q m):∃ a b:Int,a≠0∧b≠0∧(bW p m).map (a*·)=(bW p q).map (b*·):=by
 rcases hn with rfl | rfl
 ·obtain ⟨x0,y0,w0,rfl,p0⟩:=hp.two
  obtain ⟨x1,y1,w1,rfl,p1⟩:=hq.two;obtain ⟨x,y,w,rfl,p2,h1,h2⟩:=h.two;refine ⟨(u+v)*w1,v*w,Int.mul_ne_zero (by omega) (by omega),Int.mul_ne_zero (by omega) (by omega),?_⟩;simp only [bW,List.map_cons,List.map_nil];rw [kT h1,kT h2]
 ·obtain ⟨x0,y0,z0,w0,rfl,p0⟩:=hp.three
  obtain ⟨x1,y1,z1,w1,rfl,p1⟩:=hq.three;obtain ⟨x,y,z,w,rfl,p2,h1,h2,h3⟩:=h.three;refine ⟨(u+v)*w1,v*w,Int.mul_ne_zero (by omega) (by omega),Int.mul_ne_zero (by omega) (by omega),?_⟩;simp only [bW,List.map_cons,List.map_nil];rw [kT h1,kT h2,kT h3]
theorem Wk {n:Nat} (hn:n=2∨n=3) {u v:Int} (hu:0 < u) (hv:0 < v) {p q m:List Int} (hp:Pw n p) (hq:Pw n q) (h:gK n u v p q m):aV (bW p m)=aV (bW p q):=by
 obtain ⟨a,b,ha,hb,e⟩:=Iy hn hu hv hp hq h;exact mO ha hb e
theorem Dm {n:Nat} (hn:n=2∨n=3) {u v:Int} (hu:0 < u) (hv:0 < v) {p q m:List Int} (hp:Pw n p) (hq:Pw n q) (h:gK n u v p q m) (pi:List Int) (k:List (List Int)):Ed pi p m k+Ed pi m q k=Ed pi p q k:=by
 have e1:=Wk hn hu hv hp hq h;have e2:aV (bW m q)=aV (bW p q):=by
  rw [yL hn hq h.1,pG,Wk hn hv hu hq hp h.symm,yL hn hp hq,pG]
 unfold Ed;rw [e1,e2];omega
theorem J3 {u v:Int} (hu:0 < u) (hv:0 < v) {p q m:List Int} (hp:Pw 2 p) (hq:Pw 2 q) (h:gK 2 u v p q m) (k:List (List Int)):W2 p m k+W2 m q k=W2 p q k:=by
 have nr:∀ {p q m:List Int} {u v:Int},0 < u→0 < v→Pw 2 p→Pw 2 q→gK 2 u v p q m→aV (bN [p,m])=aV (bN [p,q]):=fun {p q m u v} hu hv hp hq h=>by
  obtain ⟨x0,y0,w0,rfl,p0⟩:=hp.two;obtain ⟨x1,y1,w1,rfl,p1⟩:=hq.two;obtain ⟨x,y,w,rfl,p2,h1,h2⟩:=h.two;refine mO (a:=(u+v)*w1) (b:=v*w) (Int.mul_ne_zero (by omega) (by omega)) (Int.mul_ne_zero (by omega) (by omega)) ?_;simp only [bN,bW,List.map_cons,List.map_nil];rw [Int.mul_neg,Int.mul_neg,kT h1,kT h2]
 have e1:=nr hu hv hp hq h;have e2:=nr hv hu hq hp h.symm;have sw:∀ {p q:List Int},Pw 2 p→Pw 2 q→aV (bN [q,p])=aV (bN [p,q]):=fun {p q} hp hq=>by
  obtain ⟨x0,y0,w0,rfl,_⟩:=hp.two;obtain ⟨x1,y1,w1,rfl,_⟩:=hq.two;rw [show bN [[x1,y1,w1],[x0,y0,w0]]=(bN [[x0,y0,w0],[x1,y1,w1]]).map (- ·) by simp [bN,bW,Int.neg_sub],pG]
 unfold W2;rw [e1,← sw h.1 hq,e2,sw hp hq];exact Dm (.inl rfl) hu hv hp hq h _ k
theorem Dj {u v:Int} (hu:0 < u) (hv:0 < v) {p q m r:List Int} (hp:Pw 3 p) (hq:Pw 3 q) (hr:Pw 3 r) (h:gK 3 u v p q m):aV (bN [p,m,r])=aV (bN [p,q,r]):=by
 obtain ⟨x0,y0,z0,w0,rfl,p0⟩:=hp.three;obtain ⟨x1,y1,z1,w1,rfl,p1⟩:=hq.three;obtain ⟨x2,y2,z2,w2,rfl,p2⟩:=hr.three;obtain ⟨x,y,z,w,rfl,p3,h1,h2,h3⟩:=h.three;refine mO (a:=(u+v)*w1) (b:=v*w) (Int.mul_ne_zero (by omega) (by omega)) (Int.mul_ne_zero (by omega) (by omega)) ?_;have g1:=kT h1;have g2:=kT h2;have g3:=kT h3;simp only [bN,bW,dJ,List.map_cons,List.map_nil];have key:∀ {A B a b c d s t:Int},A*a=B*b→A*c=B*d→A*(a*s - c*t)=B*(b*s - d*t):=fun {A B a b c d s t} e f=>by
  rw [Int.mul_sub,← Int.mul_assoc,← Int.mul_assoc,e,f,Int.mul_sub,Int.mul_assoc,Int.mul_assoc]
 exact l3 (key g2 g3) (key g3 g1) (key g1 g2)
theorem Ml {u v:Int} (hu:0 < u) (hv:0 < v) {p q m r:List Int} (hp:Pw 3 p) (hq:Pw 3 q) (hr:Pw 3 r) (h:gK 3 u v p q m) (k:List (List Int)):W3 p m r k+W3 m q r k=W3 p q r k:=by
 have e1:=Dj hu hv hp hq hr h;have e2:=Dj hv hu hq hp hr h.symm;have e3:=Lb hq h.1 hr;have e4:=Lb hp hq hr;have e5:=Dm (.inr rfl) hu hv hp hq h (aV (bN [p,q,r])) k;have e6:=mP (.inr rfl) h.1 hr (aV (bN [p,q,r])) k;unfold W3;rw [e1,e3,e2,e4];omega
theorem L9 {n:Nat} (hn:n=2∨n=3) {u v:Int} (hu:0 < u) (hv:0 < v) {p q m:List Int} {R:List (List Int)} (hl:(p :: q :: R).length=n+1) (hp:∀ x∈p :: q :: R,Pw n x) (h:gK n u v p q m):(∀ k,PS (m :: q :: R) k+PS (p :: m :: R) k=PS (p :: q :: R) k)∧sg (dU (m :: q :: R))=sg (dU (p :: q :: R))∧sg (dU (p :: m :: R))=sg (dU (p :: q :: R)):=by
 have h1:=hp p (by simp);have h2:=hp q (by simp);rcases hn with rfl | rfl
 ·match R,hl with
  | [r],_ =>
   have h3:=hp r (by simp);refine ⟨fun k=>?_,?_⟩
   ·have e1:=J3 hu hv h1 h2 h k
    have e2:=nV h.1 h3 k;simp only [PS];omega
   ·obtain ⟨x0,y0,w0,rfl,p0⟩:=h1.two
    obtain ⟨x1,y1,w1,rfl,p1⟩:=h2.two;obtain ⟨x2,y2,w2,rfl,p2⟩:=h3.two;obtain ⟨x,y,w,rfl,p3,g1,g2⟩:=h.two;have c0:0 < (u+v)*w0*w1:=Int.mul_pos (Int.mul_pos (by omega) p0) p1;have c1:(u+v)*w0*w1*D2 x y w x1 y1 w1 x2 y2 w2=u*w1*w*D2 x0 y0 w0 x1 y1 w1 x2 y2 w2:=by unfold D2; grind
    have c2:(u+v)*w0*w1*D2 x0 y0 w0 x y w x2 y2 w2=v*w0*w*D2 x0 y0 w0 x1 y1 w1 x2 y2 w2:=by unfold D2; grind
    show sg (D2 _ _ _ _ _ _ _ _ _)=sg (D2 _ _ _ _ _ _ _ _ _)∧sg (D2 _ _ _ _ _ _ _ _ _)=_;rw [← jH c0,c1,jH (Int.mul_pos (Int.mul_pos hu p1) p3)];refine ⟨rfl,?_⟩;rw [← jH c0,c2,jH (Int.mul_pos (Int.mul_pos hv p0) p3)];rfl
 ·match R,hl with
  | [r,s],_ =>
   have h3:=hp r (by simp);have h4:=hp s (by simp);refine ⟨fun k=>?_,?_⟩
   ·have e1:=Ml hu hv h1 h2 h3 h k
    have e2:=Ml hu hv h1 h2 h4 h k;have e3:=iO h.1 h3 h4 k;have f1:=iO h.1 h2 h3 k;have f2:=iO h1 h.1 h3 k;have f3:=iO h1 h2 h3 k;simp only [PS];omega
   ·obtain ⟨x0,y0,z0,w0,rfl,p0⟩:=h1.three
    obtain ⟨x1,y1,z1,w1,rfl,p1⟩:=h2.three;obtain ⟨x2,y2,z2,w2,rfl,p2⟩:=h3.three;obtain ⟨x3,y3,z3,w3,rfl,p4⟩:=h4.three;obtain ⟨x,y,z,w,rfl,p3,g1,g2,g3⟩:=h.three;have c0:0 < (u+v)*w0*w1:=Int.mul_pos (Int.mul_pos (by omega) p0) p1;have ex:∀ (x y z w a b c d:Int),(x*a+y*b+z*c+w*d)*((u+v)*w0*w1)=x*((u+v)*w0*w1)*a+y*((u+v)*w0*w1)*b+z*((u+v)*w0*w1)*c+w*((u+v)*w0*w1)*d:=fun x y z w a b c d=>by grind
    have c1:(u+v)*w0*w1*D3 x y z w x1 y1 z1 w1 x2 y2 z2 w2 x3 y3 z3 w3=u*w1*w*D3 x0 y0 z0 w0 x1 y1 z1 w1 x2 y2 z2 w2 x3 y3 z3 w3:=by
     unfold D3;grind
    have c2:(u+v)*w0*w1*D3 x0 y0 z0 w0 x y z w x2 y2 z2 w2 x3 y3 z3 w3=v*w0*w*D3 x0 y0 z0 w0 x1 y1 z1 w1 x2 y2 z2 w2 x3 y3 z3 w3:=by
     unfold D3;grind
    show sg (D3 _ _ _ _ _ _ _ _ _ _ _ _ _ _ _ _)=sg (D3 _ _ _ _ _ _ _ _ _ _ _ _ _ _ _ _)∧sg (D3 _ _ _ _ _ _ _ _ _ _ _ _ _ _ _ _)=_;rw [← jH c0,c1,jH (Int.mul_pos (Int.mul_pos hu p1) p3)];refine ⟨rfl,?_⟩;rw [← jH c0,c2,jH (Int.mul_pos (Int.mul_pos hv p0) p3)];rfl
theorem yQ {α:Type}:∀ {L:List α} {i:Nat} {x:α},L[i]?=some x→L.Perm (x :: L.eraseIdx i)
 | a :: L,0,x,h=>by
  simp at h;subst h;exact List.Perm.refl _
 | a :: L,i+1,x,h=>((yQ (L:=L) (i:=i) (by simpa using h)).cons a).trans (List.Perm.swap x a _)
theorem Hu {α:Type} {P:List α} {i j:Nat} {p q m:α} (hij:i≠j) (hp:P[i]?=some p) (hq:P[j]?=some q):∃ R,P.Perm (p :: q :: R)∧(P.set i m).Perm (m :: q :: R)∧(P.set j m).Perm (p :: m :: R):=by
 have one:∀ {L:List α} {i:Nat} {x:α},L[i]?=some x→L.Perm (x :: L.eraseIdx i):=yQ;have il:i < P.length:=(List.getElem?_eq_some_iff.mp hp).1;have jl:j < P.length:=(List.getElem?_eq_some_iff.mp hq).1;have s1:(P.set i m).Perm (m :: P.eraseIdx i):=by
  have:=one (L:=P.set i m) (i:=i) (x:=m) (List.getElem?_set_self il);rw [List.eraseIdx_set_eq] at this;exact this
 have s2:(P.set j m).Perm (p :: (P.set j m).eraseIdx i):=one (by rw [List.getElem?_set_ne (Ne.symm hij)]; exact hp);rcases Nat.lt_or_ge j i with c | c
 ·have hq':(P.eraseIdx i)[j]?=some q:=by rw [List.getElem?_eraseIdx_of_lt c]; exact hq
  have jl':j < (P.eraseIdx i).length:=(List.getElem?_eq_some_iff.mp hq').1;refine ⟨(P.eraseIdx i).eraseIdx j,(one hp).trans ((one hq').cons _),s1.trans ((one hq').cons _),?_⟩;rw [List.eraseIdx_set_gt c] at s2;have:=one (L:=(P.eraseIdx i).set j m) (i:=j) (x:=m) (List.getElem?_set_self jl');rw [List.eraseIdx_set_eq] at this;exact s2.trans (this.cons _)
 ·have c':i < j:=by omega
  have hq':(P.eraseIdx i)[j - 1]?=some q:=by rw [List.getElem?_eraseIdx_of_ge (by omega),Nat.sub_add_cancel (by omega)]; exact hq
  have jl':j - 1 < (P.eraseIdx i).length:=(List.getElem?_eq_some_iff.mp hq').1;refine ⟨(P.eraseIdx i).eraseIdx (j - 1),(one hp).trans ((one hq').cons _),s1.trans ((one hq').cons _),?_⟩;rw [List.eraseIdx_set_lt c'] at s2;have:=one (L:=(P.eraseIdx i).set (j - 1) m) (i:=j - 1) (x:=m) (List.getElem?_set_self jl');rw [List.eraseIdx_set_eq] at this;exact s2.trans (this.cons _)
theorem C8 {n k l:Nat} (hn:n=2∨n=3) (hkl:k≤l) (hl:l≤1000) {u v:Int} (hu:0 < u) (hv:0 < v) {P:List (List Int)} (h:Sx n k P) {i j:Nat} {p q m:List Int} (hij:i≠j) (hp:P[i]?=some p) (hq:P[j]?=some q) (hm:gK n u v p q m) (gm:Gu n l m):(∀ kk,HS [cZ (P.set i m),cZ (P.set j m)] kk=PS P kk)∧Sx n l (cZ (P.set i m))∧Sx n l (cZ (P.set j m)):=by
 obtain ⟨R,q0,q1,q2⟩:=Hu (m:=m) hij hp hq;have g0:∀ x∈p :: q :: R,Gu n k x:=fun x hx=>h.gu x (q0.mem_iff.mpr hx);have l0:(p :: q :: R).length=n+1:=by rw [← q0.length_eq]; exact h.len
 have l1:(m :: q :: R).length=n+1:=l0;have l2:(p :: m :: R).length=n+1:=l0;have g1:∀ x∈m :: q :: R,Gu n l x:=fun x hx=>by
  rcases List.mem_cons.mp hx with rfl | hx
  ·exact gm
  ·exact (g0 x (List.mem_cons_of_mem _ hx)).mono hkl
 have g2:∀ x∈p :: m :: R,Gu n l x:=fun x hx=>by
  rcases List.mem_cons.mp hx with rfl | hx
  ·exact (g0 x (by simp)).mono hkl
  ·rcases List.mem_cons.mp hx with rfl | hx
   ·exact gm
   ·exact (g0 x (by simp [hx])).mono hkl
 obtain ⟨e,d1,d2⟩:=L9 hn hu hv l0 (fun x hx=>(g0 x hx).pt) hm;have c0:cZ (p :: q :: R)=P:=by rw [← xA q0 (lQ hn l0)]; exact h.cn
 have c1:cZ (P.set i m)=cZ (m :: q :: R):=xA q1 (lQ hn l1);have c2:cZ (P.set j m)=cZ (p :: m :: R):=xA q2 (lQ hn l2);have nz0:dU (p :: q :: R)≠0:=fun z=>by
  have:=zP hn (Nat.le_trans hkl hl) l0 g0;rw [c0,z] at this;exact h.nz this
 have nz1:dU (m :: q :: R)≠0:=fun z=>by
  rw [z] at d1;exact nz0 (Fk.mp d1.symm)
 have nz2:dU (p :: m :: R)≠0:=fun z=>by
  rw [z] at d2;exact nz0 (Fk.mp d2.symm)
 rw [c1,c2];refine ⟨fun kk=>?_,uP hn hl l1 g1 nz1,uP hn hl l2 g2 nz2⟩;simp only [HS];rw [Ga hn hl l1 g1 nz1,Ga hn hl l2 g2 nz2,d1,d2]
 conv=>rhs; rw [← c0]
 rw [Ga hn (Nat.le_trans hkl hl) l0 g0 nz0,← e kk];grind
theorem sq {a b:MS} {ρ ρ':bR} {S S':aI} {r:bX} (h:a ρ S=.nx ρ' S') (g:b ρ' S'=r):aH a b ρ S=r:=by
 rw [aH,h];exact g
theorem T8 {np n:Nat} {b:MS} {xs:List AV} {S S':aI} {v:AV} {r:bK AV} (hl:xs.length=np) (h:b (gY n xs) S=.rt v S') (hc:kR S.length v S'=r):aX np n b xs S=r:=by
 unfold aX;rw [if_pos hl,h];exact hc
abbrev Lc:ME:=(aC aF (aC bA (aC bA (aA 1) (aC aE (aA 4) (aA 0))) (aC aE (aA 2) (cD cK (mC (.int 1))))) (aC bA (aC bA (aA 3) (aC aE (aA 2) (aA 0))) (aC aE (aA 4) (cD cK (mC (.int 1))))))
theorem rK {S:aI} {p q:PV} {j u v x y a b:Int} {k:Nat} (hk:k≤1000) (e1:aE p (.int j)=some (.int x)) (e2:aE q (.int j)=some (.int y)) (e3:aE p (.int (-1))=some (.int a)) (e4:aE q (.int (-1))=some (.int b)) (hu:Bd 3 u) (hv:Bd 3 v) (hx:Bd k x) (hy:Bd k y) (ha:Bd k a) (hb:Bd k b):Lc [some (.pv (.int j)),some (.pv (.int u)),some (.pv q),some (.pv (.int v)),some (.pv p)] S=.ok (.pv (.int (u*x*b+v*y*a))) S:=by
 have m1:=fE hu hx (by decide) (by omega);have m2:=fE (hu.mul hx) hb (by omega) (by omega);have m3:=fE hv hy (by decide) (by omega);have m4:=fE (hv.mul hy) ha (by omega) (by omega);unfold Lc;simp [EC,bI,aO,aP,aR,aQ,aF,aN,e1,e2,e3,e4,m1,m2,m3,m4]
theorem rV {k:Nat} {u v x y a b:Int} (hu:Bd 3 u) (hv:Bd 3 v) (hx:Bd k x) (hy:Bd k y) (ha:Bd k a) (hb:Bd k b):Bd (2*k+6) (u*x*b+v*y*a):=((((hu.mul hx).mul hb).mono (show 3+k+k≤2*k+3 by omega)).add (((hv.mul hy).mul ha).mono (show 3+k+k≤2*k+3 by omega))).mono (by omega)
theorem iJ {n k:Nat} {us:List Int} (h:Gu n k us):∀ x∈us,Bd k x:=fun x hx=>by
 obtain ⟨xs,w,rfl,P⟩:=h;rcases List.mem_append.mp hx with h | h
 ·exact P.bx x h
 ·have:x=w:=by simpa using h
  rw [this];exact P.bw
theorem S7 {n k:Nat} (hn:n=2∨n=3) (hk:k≤410) {p q:List Int} (gp:Gu n k p) (gq:Gu n k q) {u v:Int} (u0:0 < u) (u1:u≤3) (v0:0 < v) (v1:v≤3):∃ (L:List Int) (a b:Int) (m:List Int),L.length=n∧aE (tv p) (.int (-1))=some (.int a)∧aE (tv q) (.int (-1))=some (.int b)∧Bd k a∧Bd k b∧(∀ S,cE [] (gN 0) Lc (cX 0 n) [none,some (.pv (.int u)),some (.pv (tv q)),some (.pv (.int v)),some (.pv (tv p))] S=.ok (L.map .int) S)∧(∀ S,jR [.pv (.lst (L.map .int++[.int ((u+v)*a*b)]))] S=.ok (.pv (tv m)) S)∧gK n u v p q m∧Gu n (2*k+6) m:=by
 have hu:Bd 3 u:=Bd.of (n:=3) (by omega) (by decide);have hv:Bd 3 v:=Bd.of (n:=3) (by omega) (by decide);have huv:Bd 6 (u+v):=Bd.of (n:=6) (by omega) (by decide);have fin:∀ {L:List Int} {a b:Int},L.length=n→(∀ x∈L,Bd (2*k+6) x)→0 < a→0 < b→Bd k a→Bd k b→∃ zs z,(∀ S,jR [.pv (.lst (L.map .int++[.int ((u+v)*a*b)]))] S=.ok (.pv (tv (zs++[z]))) S)∧zs.length=n∧0 < z∧(∀ j,j < n→zs.getD j 0*((u+v)*a*b)=L.getD j 0*z)∧Gu n (2*k+6) (zs++[z]):=fun {L a b} hl hL a0 b0 ha hb=>by
  have bb:Bd (2*k+6) ((u+v)*a*b):=((huv.mul ha).mul hb).mono (by omega);obtain ⟨zs,z,e1,P,e2⟩:=M7 (n:=n) (k:=2*k+6) (L:=L) (b:=(u+v)*a*b) (Int.mul_pos (Int.mul_pos (by omega) a0) b0) hl hL bb;refine ⟨zs,z,fun S=>?_,P.len,P.pos,e2,zs,z,rfl,P⟩;have e:=tJ (L++[(u+v)*a*b]) S fun x hx=>by
   rcases List.mem_append.mp hx with h | h
   ·exact (hL x h).mono (by omega)
   ·have:x=(u+v)*a*b:=by simpa using h
    rw [this];exact bb.mono (by omega)
  rw [e1,List.map_append] at e;exact e
 rcases hn with rfl | rfl
 ·obtain ⟨x0,y0,w0,rfl,P⟩:=gp.two (by omega)
  obtain ⟨x1,y1,w1,rfl,Q⟩:=gq.two (by omega);have bp:Bd k x0∧Bd k y0∧Bd k w0:=⟨iJ gp _ (by simp),iJ gp _ (by simp),iJ gp _ (by simp)⟩;have bq:Bd k x1∧Bd k y1∧Bd k w1:=⟨iJ gq _ (by simp),iJ gq _ (by simp),iJ gq _ (by simp)⟩;obtain ⟨p1,p2,p3⟩:=bp;obtain ⟨q1,q2,q3⟩:=bq;obtain ⟨zs,z,e1,l1,z0,e2,G⟩:=fin (L:=[u*x0*w1+v*x1*w0,u*y0*w1+v*y1*w0]) (a:=w0) (b:=w1) rfl (fun x hx=>by
   simp only [List.mem_cons,List.not_mem_nil,or_false] at hx;rcases hx with rfl | rfl
   ·exact rV hu hv p1 q1 p3 q3
   ·exact rV hu hv p2 q2 p3 q3) P.pos Q.pos p3 q3
  have f3:aE (tv [x0,y0,w0]) (.int (-1))=some (.int w0):=rfl;have f4:aE (tv [x1,y1,w1]) (.int (-1))=some (.int w1):=rfl;refine ⟨_,w0,w1,zs++[z],rfl,f3,f4,p3,q3,fun S=>?_,e1,⟨⟨zs,z,rfl,l1,z0⟩,fun j hj=>?_⟩,G⟩
  ·have s0:=rK (S:=S) (k:=k) (by omega) (j:=0) (p:=tv [x0,y0,w0]) (q:=tv [x1,y1,w1]) rfl rfl f3 f4 hu hv p1 q1 p3 q3
   have s1:=rK (S:=S) (k:=k) (by omega) (j:=1) (p:=tv [x0,y0,w0]) (q:=tv [x1,y1,w1]) rfl rfl f3 f4 hu hv p2 q2 p3 q3;have i1:cX 0 2=[.int 0,.int 1]:=rfl;rw [i1];generalize tv [x1,y1,w1]=T2,tv [x0,y0,w0]=T1 at *;simp [eD,eA,gN,s0,s1]
  ·match zs,l1 with
   | [a,b],_ =>
    have h0:=e2 0 (by decide);have h1:=e2 1 (by decide)
    match j,hj with
    | 0,_=>exact h0
    | 1,_=>exact h1
    | 2,_ =>
     show z*((u+v)*w0*w1)=(u*w0*w1+v*w1*w0)*z;grind
 ·obtain ⟨x0,y0,t0,w0,rfl,P⟩:=gp.three (by omega)
  obtain ⟨x1,y1,t1,w1,rfl,Q⟩:=gq.three (by omega);have bp:Bd k x0∧Bd k y0∧Bd k t0∧Bd k w0:=⟨iJ gp _ (by simp),iJ gp _ (by simp),iJ gp _ (by simp),iJ gp _ (by simp)⟩;have bq:Bd k x1∧Bd k y1∧Bd k t1∧Bd k w1:=⟨iJ gq _ (by simp),iJ gq _ (by simp),iJ gq _ (by simp),iJ gq _ (by simp)⟩;obtain ⟨p1,p2,p4,p3⟩:=bp;obtain ⟨q1,q2,q4,q3⟩:=bq;obtain ⟨zs,z,e1,l1,z0,e2,G⟩:=fin (L:=[u*x0*w1+v*x1*w0,u*y0*w1+v*y1*w0,u*t0*w1+v*t1*w0]) (a:=w0) (b:=w1) rfl (fun x hx=>by
   simp only [List.mem_cons,List.not_mem_nil,or_false] at hx;rcases hx with rfl | rfl | rfl
   ·exact rV hu hv p1 q1 p3 q3
   ·exact rV hu hv p2 q2 p3 q3
   ·exact rV hu hv p4 q4 p3 q3) P.pos Q.pos p3 q3
  have f3:aE (tv [x0,y0,t0,w0]) (.int (-1))=some (.int w0):=rfl;have f4:aE (tv [x1,y1,t1,w1]) (.int (-1))=some (.int w1):=rfl;refine ⟨_,w0,w1,zs++[z],rfl,f3,f4,p3,q3,fun S=>?_,e1,⟨⟨zs,z,rfl,l1,z0⟩,fun j hj=>?_⟩,G⟩
  ·have s0:=rK (S:=S) (k:=k) (by omega) (j:=0) (p:=tv [x0,y0,t0,w0]) (q:=tv [x1,y1,t1,w1]) rfl rfl f3 f4 hu hv p1 q1 p3 q3
   have s1:=rK (S:=S) (k:=k) (by omega) (j:=1) (p:=tv [x0,y0,t0,w0]) (q:=tv [x1,y1,t1,w1]) rfl rfl f3 f4 hu hv p2 q2 p3 q3;have s2:=rK (S:=S) (k:=k) (by omega) (j:=2) (p:=tv [x0,y0,t0,w0]) (q:=tv [x1,y1,t1,w1]) rfl rfl f3 f4 hu hv p4 q4 p3 q3;have i1:cX 0 3=[.int 0,.int 1,.int 2]:=rfl;rw [i1];generalize tv [x1,y1,t1,w1]=T2,tv [x0,y0,t0,w0]=T1 at *;simp [eD,eA,gN,s0,s1,s2]
  ·match zs,l1 with
   | [a,b,c],_ =>
    have h0:=e2 0 (by decide);have h1:=e2 1 (by decide);have h2:=e2 2 (by decide)
    match j,hj with
    | 0,_=>exact h0
    | 1,_=>exact h1
    | 2,_=>exact h2
    | 3,_ =>
     show z*((u+v)*w0*w1)=(u*w0*w1+v*w1*w0)*z;grind
theorem Du {n k:Nat} (hn:n=2∨n=3) (hk:k≤410) {S:aI} {ns:List Int} (h:dY S 0 ns) {P:List (List Int)} (hP:Sx n k P):∃ (A B:List (List Int)) (ns':List Int),pD [.ref 0,.pv (px P)] S=.ok (.pv (.lst [px A,px B])) (S.set 0 (.lst (ns'.map .int)))∧(∀ kk,HS [A,B] kk=PS P kk)∧Sx n (2*k+6) A∧Sx n (2*k+6) B:=by
 have hl:=hP.len;have l0:(P.map tv).length=n+1:=by rw [List.length_map]; exact hl
 obtain ⟨i,n1,e1,i0,i1,_⟩:=gH (m:=((P.map tv).length:Int)) h (by omega) (gM (by omega) (by omega));obtain ⟨t,n2,e2,t0,t1,_⟩:=gH (m:=(n:Int)) (h.set n1) (by omega) (gM (by omega) (by omega));obtain ⟨u,n3,e3,u0,u1,_⟩:=gH (m:=3) ((h.set n1).set n2) (by decide) (gM (by decide) (by decide));obtain ⟨v,n4,e4,v0,v1,_⟩:=gH (m:=3) (((h.set n1).set n2).set n3) (by decide) (gM (by decide) (by decide));simp only [List.set_set] at e2 e3 e4;have h4:dY (S.set 0 (.lst (n4.map .int))) 0 n4:=h.set n4;obtain ⟨jn,ej,jl,ij⟩:∃ jn:Nat,(i+1+t).fmod ((P.map tv).length:Int)=(jn:Int)∧jn < n+1∧i≠(jn:Int):=by
  rw [l0];rw [Int.fmod_eq_emod_of_nonneg _ (by omega)];have b0:=Int.emod_nonneg (i+1+t) (b:=((n+1:Nat):Int)) (by omega);have b1:=Int.emod_lt_of_pos (i+1+t) (b:=((n+1:Nat):Int)) (by omega);refine ⟨((i+1+t) % ((n+1:Nat):Int)).toNat,by omega,by omega,?_⟩;rcases hn with rfl | rfl <;> omega
 obtain ⟨iN,rfl⟩:∃ iN:Nat,i=(iN:Int):=⟨i.toNat,by omega⟩;have il:iN < P.length:=by omega
 have jl2:jn < P.length:=by omega
 have gp:=hP.gu _ (List.getElem_mem il);have gq:=hP.gu _ (List.getElem_mem jl2);obtain ⟨L,a,b,m,hL,ea,eb,ba,bb,ec,el,Md,Gm⟩:=S7 hn hk gp gq (u:=1+u) (v:=1+v) (by omega) (by omega) (by omega) (by omega);have ip:aE (.tup (P.map tv)) (.int (iN:Int))=some (tv P[iN]):=dS (by rw [List.getElem?_map,List.getElem?_eq_getElem il]; rfl);have iq:aE (.tup (P.map tv)) (.int (jn:Int))=some (tv P[jn]):=dS (by rw [List.getElem?_map,List.getElem?_eq_getElem jl2]; rfl);obtain ⟨hh,sA,sB⟩:=C8 hn (show k≤2*k+6 by omega) (by omega) (u:=1+u) (v:=1+v) (by omega) (by omega) hP (i:=iN) (j:=jn) (by omega) (List.getElem?_eq_getElem il) (List.getElem?_eq_getElem jl2) Md Gm;refine ⟨cZ (P.set iN m),cZ (P.set jn m),n4,?_,hh,sA,sB⟩;have gA:∀ (x:Nat),∀ us∈P.set x m,Gu n 1000 us:=fun x us hu=>by
  rcases List.mem_or_eq_of_mem_set hu with z | z
  ·exact (hP.gu us z).mono (by omega)
  ·rw [z]; exact Gm.mono (by omega)
 have lA:∀ x,(P.set x m).length=n+1:=fun x=>by rw [List.length_set]; exact hl
 have mo:eY (.int ((iN:Int)+1+t)) (.int ((P.map tv).length:Int))=some (.int (jn:Int)):=by rw [← ej]; exact lL (by omega)
 have hn1:((P.map tv).length:Int) - 1=(n:Int):=by omega
 have rg:=oN (S.set 0 (.lst (n4.map .int))) (n:=n) (by omega);have lp:∃ TL,tv P[iN]=.tup TL∧(TL.length:Int) - 1=(n:Int):=by
  obtain ⟨xs,w,e,Q⟩:=gp;refine ⟨(P[iN]).map .int,rfl,?_⟩;rw [e];have:=Q.len;simp;omega
 obtain ⟨TL,lp,hn2⟩:=lp;have m1:=fE (show Bd 6 ((1+u)+(1+v)) from Bd.of (n:=6) (by omega) (by decide)) ba (by decide) (by omega);have m2:=fE ((show Bd 6 ((1+u)+(1+v)) from Bd.of (n:=6) (by omega) (by decide)).mul ba) bb (by omega) (by omega);have el:=el (S.set 0 (.lst (n4.map .int)));have ec:=ec (S.set 0 (.lst (n4.map .int)));have lz:(L.map PV.int).length+1≤16777216:=by
  have:=ec;have q:L.length=n:=hL;rw [List.length_map];omega
 have s4:(S.set 0 (SO.lst (n4.map .int))).length=S.length:=by simp
 have rdx:∀ (x c:Nat) (S':aI),S'[c]?=some (.lst ((P.map tv).set x (tv m)))→gW [.ref c] S'=.ok (.pv (.tup ((cZ (P.set x m)).map tv))) S':=fun x c S' hc=>Od (A:=.lst ((P.set x m).map tv)) hn S' (by rw [List.map_set]; simp only [rd]; rw [hc]) (lA x) (gA x) (.inl rfl);have hx:∀ x:Nat,x < n+1→aY (P.map tv).length (x:Int)=some x:=fun x hx=>by
  unfold aY;rw [if_pos (by omega),if_pos (by omega)];simp
 have hi:=hx iN (by omega);have hj:=hx jn jl;have lo:jG [.tup (P.map tv)]=some (.lst (P.map tv)):=by simp [jG]
 rw [lp] at ip ea ec;have e2:bU [.ref 0,.pv (.int (n:Int))] (S.set 0 (.lst (n1.map .int)))=.ok (.pv (.int t)) (S.set 0 (.lst (n2.map .int))):=e2;show pD [.ref 0,.pv (.tup (P.map tv))] S=.ok (.pv (.lst [.tup ((cZ (P.set iN m)).map tv),.tup ((cZ (P.set jn m)).map tv)])) (S.set 0 (.lst (n4.map .int)));have r1:=rdx iN;have r2:=rdx jn;clear gp gq hh sA sB gA lA hP Md Gm ij ej i1 hl h h4 l0 ba bb lp rdx hx;generalize L.map PV.int=LL,P.map tv=PL,tv m=TM,tv P[jn]=TQ,S.set 0 (SO.lst (n1.map .int))=S1,S.set 0 (SO.lst (n2.map .int))=S2,S.set 0 (SO.lst (n3.map .int))=S3,S.set 0 (SO.lst (n4.map .int))=S4,(cZ (P.set jn m)).map tv=CB,(cZ (P.set iN m)).map tv=CA at *;have g1:(S4++[SO.lst PL])[S4.length]?=some (.lst PL):=List.getElem?_concat_length;have E5:(S4++[SO.lst PL]).set S4.length (.lst (PL.set iN TM))=S4++[.lst (PL.set iN TM)]:=by simp
 have q5:(S4++[SO.lst (PL.set iN TM)])[S4.length]?=some (.lst (PL.set iN TM)):=List.getElem?_concat_length;have t5:(S4++[SO.lst (PL.set iN TM)]).take S.length=S4:=by rw [← s4,List.take_left]
 have l5:S.length≤(S4++[SO.lst (PL.set iN TM)]).length:=by simp; omega
 generalize S4++[SO.lst (PL.set iN TM)]=S5 at *;have g2:(S5++[SO.lst PL])[S5.length]?=some (.lst PL):=List.getElem?_concat_length;have E6:(S5++[SO.lst PL]).set S5.length (.lst (PL.set jn TM))=S5++[.lst (PL.set jn TM)]:=by simp
 have rd1:=r1 S4.length (S5++[.lst (PL.set jn TM)]) (gx q5);have rd2:=r2 S5.length (S5++[.lst (PL.set jn TM)]) List.getElem?_concat_length;have tk:(S5++[SO.lst (PL.set jn TM)]).take S.length=S4:=by rw [List.take_append_of_le_length l5,t5]
 generalize (jn:Int)=j,(iN:Int)=i,S5++[SO.lst (PL.set jn TM)]=S6 at *;unfold pD yJ;apply T8 rfl;rw [show gY 12 [AV.ref 0,.pv (.tup PL)]=[some (.ref 0),some (.pv (.tup PL)),none,none,none,none,none,none,none,none,none,none] from rfl];apply sq; simp [EC,bI,aO,aP,aR,aQ,aF,aN,e1]; exact ⟨rfl,rfl⟩;apply sq; simp [EC,bI,aO,aP,aR,aQ,aF,aN,hn1,e2,mo]; exact ⟨rfl,rfl⟩;apply sq; simp [EC,bI,aO,aP,aR,aQ,aF,aN,e3]; exact ⟨rfl,rfl⟩;apply sq; simp [EC,bI,aO,aP,aR,aQ,aF,aN,e4]; exact ⟨rfl,rfl⟩;apply sq; simp [EC,bI,aO,aP,aR,aQ,aF,aN,ip]; exact ⟨rfl,rfl⟩;apply sq; simp [EC,bI,aO,aP,aR,aQ,aF,aN,iq]; exact ⟨rfl,rfl⟩;apply sq; simp [EC,bI,aO,aP,aR,aQ,aF,aN,bB,cO,bO,hn2,rg,ec]; exact ⟨rfl,rfl⟩;apply sq; simp [EC,bI,aO,aP,aR,aQ,aF,aN,ea,eb,m1,m2,lz,el]; exact ⟨rfl,rfl⟩;apply sq; simp [EC,bI,aO,aP,aR,aQ,aF,aN,pU,vC,lo]; exact ⟨rfl,rfl⟩;apply sq; simp [EC,bI,aO,aP,aR,aQ,aF,aN,jX,mZ,eO,g1,hi,E5]; exact ⟨rfl,rfl⟩;apply sq; simp [EC,bI,aO,aP,aR,aQ,aF,aN,pU,vC,lo]; exact ⟨rfl,rfl⟩;apply sq; simp [EC,bI,aO,aP,aR,aQ,aF,aN,jX,mZ,eO,g2,hj,E6]; exact ⟨rfl,rfl⟩;simp [EC,bI,aO,aP,aR,aQ,aF,aN,rd1,rd2];exact ⟨rfl,rfl⟩;simp [kR,tk]
theorem Kz {A B:List (List (List Int))} (h:A.Perm B) (k:List (List Int)):HS A k=HS B k:=by
 induction h with
 | nil=>rfl
 | cons x _ ih=>simp only [HS,ih]
 | swap x y l=>simp only [HS]; omega
 | trans _ _ ih1 ih2=>exact ih1.trans ih2
theorem Sx.mono {n k l:Nat} {u:List (List Int)} (h:Sx n k u) (hl:k≤l):Sx n l u:=⟨h.len,fun us hu=>(h.gu us hu).mono hl,h.nz,h.cn⟩
def qQ:MS:=(bZ (bE (aC eI (aJ bU [] (aB (aA 0) (aB (mC (.int 3)) aD))) (mC (.int 0)))) (aK 2 (sG (aA 2) (aJ pD [] (aB (aA 0) (aB (aA 3) aD))))) (cS (dQ (aA 2) (aB (aA 3) aD))))
def qR:MT:=(bE (aC eI (mR cF (aB (aA 2) aD)) (mC (.int 0))))
def sP:MS:=(cS (dQ (aA 4) (aB (kC (aA 2) (aB (aJ bU [] (aB (aA 0) (aB (mR cF (aB (aA 2) aD)) aD))) aD)) aD)))
theorem Vx {n k:Nat} (hn:n=2∨n=3) (hk:k≤410) {S:aI} {ns:List Int} {c:Nat} {G:List (List (List Int))} (h:dY S 0 ns) (hc:S[c]?=some (.lst (G.map px))) (c1:1≤c) (hG:G.length≤1000) {P:List (List Int)} (hP:Sx n k P) (x1 x4:Option AV):∃ (S':aI) (c':Nat) (X:List (List (List Int))) (ns':List Int),qQ [some (.ref 0),x1,some (.ref c),some (.pv (px P)),x4] S=.nx [some (.ref 0),x1,some (.ref c'),some (.pv (px P)),x4] S'∧dY S' 0 ns'∧S'[c']?=some (.lst ((G++X).map px))∧1≤c'∧(∀ kk,HS X kk=PS P kk)∧(∀ u∈X,Sx n (2*k+6) u)∧X.length≤2∧0 < X.length:=by
 obtain ⟨t,n1,e1,t0,t1,_⟩:=gH (m:=3) h (by decide) (gM (by decide) (by decide));have h1:=h.set n1;have hc1:(S.set 0 (SO.lst (n1.map .int)))[c]?=some (.lst (G.map px)):=gs hc (by omega);have cl:c < S.length:=(List.getElem?_eq_some_iff.mp hc).1
 by_cases z:0 < t
 ·obtain ⟨A,B,n2,e2,hh,sA,sB⟩:=Du hn hk h1 hP
  rw [List.set_set] at e2;have hc2:(S.set 0 (SO.lst (n2.map .int)))[c]?=some (.lst (G.map px)):=gs hc (by omega);refine ⟨S.set 0 (SO.lst (n2.map .int))++[.lst (G.map px++[px A,px B])],S.length,[A,B],n2,?_,gx (h.set n2),?_,by omega,hh,?_,by simp,by simp⟩
  ·have lz:(G.map px).length+2≤16777216:=by rw [List.length_map]; omega
   have ll:(S.set 0 (SO.lst (n2.map .int))).length=S.length:=by simp
   rw [← ll];unfold qQ;generalize S.set 0 (SO.lst (n2.map .int))=S2,S.set 0 (SO.lst (n1.map .int))=S1,G.map px=GL,px P=XP,px B=XB,px A=XA at *;simp [EC,bI,aO,aP,aR,aQ,aF,aN,e1,z,sG,e2,hc2,lz]
  ·have ll:(S.set 0 (SO.lst (n2.map .int))).length=S.length:=by simp
   rw [← ll,List.getElem?_concat_length];simp
  ·intro u hu
   simp only [List.mem_cons,List.not_mem_nil,or_false] at hu;rcases hu with rfl | rfl
   ·exact sA
   ·exact sB
 ·refine ⟨(S.set 0 (SO.lst (n1.map .int))).set c (.lst (G.map px++[px P])),c,[P],n1,?_,gs h1 (by omega),?_,c1,fun kk=>by simp [HS],?_,by simp,by simp⟩
  ·have lz:(G.map px).length < 16777216:=by rw [List.length_map]; omega
   unfold qQ;generalize S.set 0 (SO.lst (n1.map .int))=S1,G.map px=GL,px P=XP at *;simp [EC,bI,aO,aP,aR,aQ,aF,aN,e1,z,dQ,eO,iI,hc1,lz]
  ·rw [List.getElem?_set_self (by simp; omega)]
   simp
  ·intro u hu
   simp only [List.mem_cons,List.not_mem_nil,or_false] at hu;subst hu;exact hP.mono (by omega)
theorem Vj {n k:Nat} (hn:n=2∨n=3) (hk:k≤410) (x1 x4:Option AV):∀ (hs G:List (List (List Int))) (S:aI) (ns:List Int) (c:Nat) (x3:Option AV),dY S 0 ns→S[c]?=some (.lst (G.map px))→1≤c→(∀ u∈hs,Sx n k u)→(∀ u∈G,Sx n (2*k+6) u)→G.length+2*hs.length≤200→∃ (S':aI) (c':Nat) (G':List (List (List Int))) (ns':List Int) (y3:Option AV),dM [] (gN 3) qQ (hs.map px) [some (.ref 0),x1,some (.ref c),x3,x4] S=.nx [some (.ref 0),x1,some (.ref c'),y3,x4] S'∧dY S' 0 ns'∧S'[c']?=some (.lst (G'.map px))∧1≤c'∧(∀ kk,HS G' kk=HS G kk+HS hs kk)∧(∀ u∈G',Sx n (2*k+6) u)∧G'.length≤G.length+2*hs.length∧G.length+hs.length≤G'.length
 | [],G,S,ns,c,x3,h,hc,c1,_,hG,_=>⟨S,c,G,ns,x3,fG,h,hc,c1,fun kk=>by simp [HS],hG,by simp,by simp⟩
 | P :: hs,G,S,ns,c,x3,h,hc,c1,hh,hG,hl=>by
  have hl:G.length+2*(hs.length+1)≤200:=hl;obtain ⟨S1,cc,X,n1,e1,r1,g1,d1,q1,s1,l1,l2⟩:=Vx hn hk h hc c1 (by omega) (hh P List.mem_cons_self) x1 x4;obtain ⟨S2,c2,G2,n2,y3,e2,r2,g2,d2,q2,s2,l3,l4⟩:=Vj hn hk x1 x4 hs (G++X) S1 n1 cc (some (.pv (px P))) r1 g1 d1 (fun u hu=>hh u (List.mem_cons_of_mem _ hu)) (fun u hu=>by
   rcases List.mem_append.mp hu with z | z
   ·exact hG u z
   ·exact s1 u z) (by rw [List.length_append]; omega)
  refine ⟨S2,c2,G2,n2,y3,?_,r2,g2,d2,fun kk=>?_,s2,by rw [List.length_append] at l3; simp only [List.length_cons]; omega,by rw [List.length_append] at l4; simp only [List.length_cons]; omega⟩
  ·rw [List.map_cons,eM]
   simp only [gN,List.set_cons_succ,List.set_cons_zero];rw [e1];exact e2
  ·rw [q2,Em,q1,HS]
   omega
theorem Lj {n l:Nat} (x1 x3:Option AV) {c d:Nat} (c1:1≤c) (d1:1≤d) (cd:c≠d):∀ (m:Nat) (G T:List (List (List Int))) (S:aI) (ns:List Int),G.length=m→dY S 0 ns→S[c]?=some (.lst (G.map px))→S[d]?=some (.lst (T.map px))→(∀ u∈G,Sx n l u)→(∀ u∈T,Sx n l u)→G.length+T.length≤500→∃ (S':aI) (T':List (List (List Int))) (ns':List Int),dL qR sP (m+1) [some (.ref 0),x1,some (.ref c),x3,some (.ref d)] S=.nx [some (.ref 0),x1,some (.ref c),x3,some (.ref d)] S'∧dY S' 0 ns'∧S'[d]?=some (.lst (T'.map px))∧(∀ kk,HS T' kk=HS T kk+HS G kk)∧(∀ u∈T',Sx n l u)∧T'.length=T.length+G.length
 | 0,G,T,S,ns,hm,h,hc,hd,_,hT,_=>by
  have e:G=[]:=List.length_eq_zero_iff.mp hm;subst e;refine ⟨S,T,ns,?_,h,hd,fun kk=>by simp [HS],hT,by simp⟩;have hc:S[c]?=some (.lst []):=hc;unfold qR;simp [dL,EC,bI,aO,aP,aR,aQ,aF,aN,hc]
 | m+1,G,T,S,ns,hm,h,hc,hd,hG,hT,hl=>by
  obtain ⟨t,n1,e1,t0,t1,_⟩:=gH (m:=((G.map px).length:Int)) h (by rw [List.length_map]; omega) (gM (by omega) (by rw [List.length_map]; omega));obtain ⟨j,rfl⟩:∃ j:Nat,t=j:=⟨t.toNat,by omega⟩;rw [List.length_map] at t1;have jl:j < G.length:=by omega
  have hc1:(S.set 0 (SO.lst (n1.map .int)))[c]?=some (.lst (G.map px)):=gs hc (by omega);have hp:=Pm (k:=c) (j:=j) (v:=px G[j]) hc1 (by rw [List.getElem?_map,List.getElem?_eq_getElem jl]; rfl) (by omega);rw [xO] at hp;have cl:c < S.length:=(List.getElem?_eq_some_iff.mp hc).1;have dl:d < S.length:=(List.getElem?_eq_some_iff.mp hd).1;have hd2:((S.set 0 (SO.lst (n1.map .int))).set c (.lst ((G.eraseIdx j).map px)))[d]?=some (.lst (T.map px)):=gs (gs hd (by omega)) cd;have pm:=yQ (L:=G) (List.getElem?_eq_getElem jl);have le:(G.eraseIdx j).length=m:=by
   have:=pm.length_eq;simp only [List.length_cons] at this;omega
  obtain ⟨S',T',n2,e2,r2,g2,q2,s2,l2⟩:=Lj x1 x3 c1 d1 cd m (G.eraseIdx j) (T++[G[j]]) (((S.set 0 (SO.lst (n1.map .int))).set c (.lst ((G.eraseIdx j).map px))).set d (.lst (T.map px++[px G[j]]))) n1 le (gs (gs (h.set n1) (by omega)) (by omega)) (gs (List.getElem?_set_self (by simp; omega)) (Ne.symm cd)) (by rw [List.getElem?_set_self (by simp; omega)]; simp) (fun u hu=>hG u (pm.mem_iff.mpr (List.mem_cons_of_mem _ hu))) (fun u hu=>by
   rcases List.mem_append.mp hu with z | z
   ·exact hT u z
   ·have:u=G[j]:=by simpa using z
    rw [this];exact hG _ (List.getElem_mem jl)) (by rw [List.length_append,List.length_singleton]; omega)
  refine ⟨S',T',n2,?_,r2,g2,fun kk=>?_,s2,by rw [l2,List.length_append,List.length_singleton]; omega⟩
  ·have ec:qR [some (.ref 0),x1,some (.ref c),x3,some (.ref d)] S=.ok true S:=by
    have gl:0 < (G.map px).length:=by rw [List.length_map]; omega
    unfold qR;generalize G.map px=GL at *;simp [EC,bI,aO,aP,aR,aQ,aF,aN,hc,gl]
   have eb:sP [some (.ref 0),x1,some (.ref c),x3,some (.ref d)] S=.nx [some (.ref 0),x1,some (.ref c),x3,some (.ref d)] (((S.set 0 (SO.lst (n1.map .int))).set c (.lst ((G.eraseIdx j).map px))).set d (.lst (T.map px++[px G[j]]))):=by
    have lz:(T.map px).length < 16777216:=by rw [List.length_map]; omega
    unfold sP;clear ec e2 r2 g2 q2 s2 l2;generalize S.set 0 (SO.lst (n1.map .int))=S1,T.map px=TL,G.map px=GL,(G.eraseIdx j).map px=EL,px G[j]=XP at *;generalize S1.set c (.lst EL)=S2 at *;simp [EC,bI,aO,aP,aR,aQ,aF,aN,dQ,eO,hd,kC,hc,e1,hc1,hp,iI,hd2,lz]
   rw [dL,ec];simp only [bX.of,↓reduceIte,eb,e2]
  ·rw [q2,Em,Kz pm]
   simp only [HS];omega
theorem Es {n k:Nat} (hn:n=2∨n=3) (hk:k≤410) (ns:List Int) {hs:List (List (List Int))} (hh:∀ u∈hs,Sx n k u) (hl:hs.length≤90):∃ (gs:List (List (List Int))) (ns':List Int),nR [.ref 0,.pv (.lst (hs.map px))] [.lst (ns.map .int)]=.ok (.ref 1) [.lst (ns'.map .int),.lst (gs.map px)]∧(∀ kk,HS gs kk=HS hs kk)∧(∀ u∈gs,Sx n (2*k+6) u)∧gs.length≤2*hs.length∧hs.length≤gs.length:=by
 obtain ⟨S1,c,G,n1,y3,e1,r1,g1,c1,q1,s1,l1,l1'⟩:=Vj hn hk (some (.pv (.lst (hs.map px)))) none hs [] [.lst (ns.map .int),.lst []] ns 1 none rfl rfl (by decide) hh (by simp) (by simp; omega);have cl:c < S1.length:=(List.getElem?_eq_some_iff.mp g1).1;obtain ⟨S2,T,n2,e2,r2,g2,q2,s2,l2⟩:=Lj (some (.pv (.lst (hs.map px)))) y3 c1 (d:=S1.length) (by omega) (by omega) G.length G [] (S1++[.lst []]) n1 rfl (gx r1) (gx g1) List.getElem?_concat_length s1 (by simp) (by simp at l1 ⊢; omega);have w:=tH e2 (by simp);refine ⟨T,n2,?_,fun kk=>by rw [q2,q1]; simp [HS],s2,by simp at l1 l2; omega,by simp at l1' l2; omega⟩;have tk:S2.take 1=[.lst (n2.map .int)]:=by
  have h0:S2[0]?=some (.lst (n2.map .int)):=r2
  match S2,h0 with
  | x :: _,h0=>simp at h0; subst h0; rfl
 have d1:¬ S1.length < 1:=by omega
 have hb:xJ=(aH (aK 2 (fA aD)) (aH (bJ (bH (aA 1)) (gN 3) qQ) (aH (aK 4 (fA aD)) (aH (jV qR sP) (bG (aA 4)))))):=rfl;unfold nR aX;rw [hb];clear e2;generalize qQ=PB,jV qR sP=WW,hs.map px=HL,T.map px=TL at *;have a1:(aK 4 (fA aD)) [some (.ref 0),some (.pv (.lst HL)),some (.ref c),y3,none] S1=.nx [some (.ref 0),some (.pv (.lst HL)),some (.ref c),y3,some (.ref S1.length)] (S1++[.lst []]):=by
  simp [EC,bI,aO,aP,aR,aQ,aF,aN,fA,lR]
 generalize S1.length=d,S1++[SO.lst []]=S3 at *;simp [EC,bI,aO,aP,aR,aQ,aF,aN,fA,lR,bJ,bH,cN] at a1 ⊢;simp [EC,bI,aO,aP,aR,aQ,aF,aN,e1,a1,w,g2,tk,d1]
theorem Pf (S:aI):∀ (ns:List Int) (x:Option AV),cE [] (gN 0) (aC cR (mC (.int 0)) (aA 0)) (ns.map .int) [x] S=.ok ((ns.map (- ·)).map .int) S
 | [],x=>eA
 | n :: ns,x=>by
  rw [List.map_cons,eD];simp [gN,EC,aE,aZ,aY,aS,aO,aP,aR,aQ,aF,aN,Pf S ns]
theorem Nb (xs:List Int):low (xs++[1])=xs++[1]:=by
 refine Hx ?_;have d:=(iX (xs++[1]) 0).2 1 (by simp);have p:=zV (ns:=xs++[1]) (n:=1) (by simp) (by decide);have:=Int.le_of_dvd (by decide) d;omega
abbrev pl (n:Nat):List PV:=List.replicate n (.tup [.int 1,.int 1])
theorem Wm {n:Nat} (hn:n=2∨n=3) (S:aI) {xs:List Int} (hx:xs.length=n) (hb:∀ x∈xs,-8 < x∧x < 8):kN [.pv (lv xs),.pv (.lst (pl n))] S=.ok (.pv (tv (xs++[1]))) S∧Gu n 3 (xs++[1]):=by
 have b3:∀ {x:Int},-8 < x∧x < 8→Bd 3 x:=fun h=>by
  unfold Bd;have:(2:Nat) ^ 3=8:=rfl;omega
 have o1:Bd 3 (1:Int):=b3 (by decide);have m1:∀ x:Int,Bd 3 x→bA (.int x) (.int 1)=some (.int x):=fun x h=>by
  have:=mk h o1 (by decide) (by decide);rw [Int.mul_one] at this;exact this
 have q1:kB (.int 1) (.int 1)=some (.int 1):=Qg (i:=1) (j:=1) ⟨by decide,o1.mono (by decide)⟩;have bL:∀ x∈xs++[1],Bd 3 x:=by
  intro x h;rcases List.mem_append.mp h with y | y
  ·exact b3 (hb x y)
  ·have:x=1:=by simpa using y
   rw [this]; exact o1
 have ew:=tJ (xs++[1]) S fun x h=>(bL x h).mono (by decide);rw [Nb] at ew;refine ⟨?_,xs,1,rfl,hx,by decide,Nb xs,fun x h=>b3 (hb x h),o1⟩;have m0:=m1 1 o1;rcases hn with rfl | rfl
 ·match xs,hx,hb,ew with
  | [a,b],_,hb,ew =>
   have ma:=m1 a (b3 (hb a (by simp)));have mb:=m1 b (b3 (hb b (by simp)));simp only [List.map_cons,List.map_nil,List.cons_append,List.nil_append] at ew;unfold kN aX uA;simp only [lv,li,tv,pl,List.replicate,List.map_cons,List.map_nil,List.cons_append,List.nil_append];simp [EC,aE,aZ,aY,aS,aO,aP,aR,aQ,aF,aN,bJ,bH,cN,eM,fG,gN,m0,bB,cO,jM,mY,fS,eD,eA,gT,cJ,eC,ma,mb,q1,ew]
 ·match xs,hx,hb,ew with
  | [a,b,c],_,hb,ew =>
   have ma:=m1 a (b3 (hb a (by simp)));have mb:=m1 b (b3 (hb b (by simp)));have mc:=m1 c (b3 (hb c (by simp)));simp only [List.map_cons,List.map_nil,List.cons_append,List.nil_append] at ew;unfold kN aX uA;simp only [lv,li,tv,pl,List.replicate,List.map_cons,List.map_nil,List.cons_append,List.nil_append];simp [EC,aE,aZ,aY,aS,aO,aP,aR,aQ,aF,aN,bJ,bH,cN,eM,fG,gN,m0,bB,cO,jM,mY,fS,eD,eA,gT,cJ,eC,ma,mb,mc,q1,ew]
theorem Z6 (L:List PV) {a:Nat} (h:a≤L.length):jD (.lst L) none (some (a:Int))=some (.lst (L.take a)):=by
 unfold jD;dsimp only;unfold iM;rw [HT.sIx_nat];show some (PV.lst ((L.drop 0).take (_ - 0)))=_;simp
theorem Z8 (L:List PV) {a:Nat} (h:a < L.length):jD (.lst L) (some ((a:Int)+1)) none=some (.lst (L.drop (a+1))):=by
 unfold jD;dsimp only;unfold iM;rw [show ((a:Int)+1)=((a+1:Nat):Int) by omega,HT.sIx_nat];show some (PV.lst ((L.drop (min (a+1) L.length)).take (L.length - min (a+1) L.length)))=_;rw [Nat.min_eq_left (by omega),List.take_of_length_le (by rw [List.length_drop]; omega)]
abbrev qJ:ME:=(aC cR (aJ bU [] (aB (aA 1) (aB (mC (.int 3)) aD))) (mC (.int 1)))
theorem Jj {k:Nat}:∀ (is:List PV) (S:aI) (ns:List Int) (x:Option AV),dY S k ns→∃ (xs ns':List Int),cE [] (gN 0) qJ is [x,some (.ref k)] S=.ok (xs.map .int) (S.set k (.lst (ns'.map .int)))∧xs.length=is.length∧∀ n∈xs,-1≤n∧n≤1
 | [],S,ns,x,h=>by
  refine ⟨[],ns,?_,rfl,fun _ h=>absurd h List.not_mem_nil⟩;rw [show S.set k (.lst (ns.map .int))=S from Dh h];exact eA
 | i :: is,S,ns,x,h=>by
  obtain ⟨t,n1,e1,t0,t1,_⟩:=gH (m:=3) h (by decide) (gM (by decide) (by decide));obtain ⟨xs,n2,e2,l2,b2⟩:=Jj is _ n1 (some (.pv i)) (h.set n1);rw [List.set_set] at e2;refine ⟨(t - 1) :: xs,n2,?_,by simp [l2],fun n hn=>?_⟩
  ·rw [eD]
   generalize S.set k (.lst (n1.map .int))=S1 at e1 e2;have es:qJ [some (.pv i),some (.ref k)] S=.ok (.pv (.int (t - 1))) S1:=by
    unfold qJ;simp [EC,bI,aO,aP,aR,aQ,aF,aN,e1]
   simp [gN,es,e2]
  ·rcases List.mem_cons.mp hn with rfl | hn
   ·omega
   ·exact b2 n hn
theorem Qj (ns:List Int):∃ g:Int,g≠0∧ns=(aV ns).map (g*·):=by
 obtain ⟨g,e⟩:=Kv ns
 by_cases h:g=0
 ·refine ⟨1,by decide,?_⟩
  have z:∀ n∈ns,n=0:=fun n hn=>by
   rw [e,h] at hn;obtain ⟨m,_,rfl⟩:=List.mem_map.mp hn;exact Int.zero_mul m
  have z2:∀ n∈aV ns,n=0:=fun n hn=>by
   unfold aV at hn;obtain ⟨m,hm,rfl⟩:=List.mem_map.mp hn;have:m=0:=by
    unfold low at hm;split at hm
    ·exact z m hm
    ·obtain ⟨x,hx,rfl⟩:=List.mem_map.mp hm
     rw [z x hx,Int.zero_ediv]
   rw [this,Int.mul_zero]
  have l:ns.length=(aV ns).length:=by unfold aV; rw [List.length_map,Ck]
  have e1:=List.eq_replicate_of_mem z;have e2:=List.eq_replicate_of_mem z2;rw [e2,← l,List.map_replicate];exact e1
 ·exact ⟨g,h,e⟩
abbrev Pr (u v:List Int):Prop:=∃ a b:Int,a≠0∧b≠0∧u.map (a*·)=v.map (b*·)
theorem fY {u v:List Int}:aV u=aV v↔Pr u v:=by
 constructor
 ·intro h
  obtain ⟨g,hg,e⟩:=Qj u;obtain ⟨k,hk,f⟩:=Qj v;refine ⟨k,g,hk,hg,?_⟩;have e1:=congrArg (List.map (k*·)) e;have f1:=congrArg (List.map (g*·)) f;rw [e1,f1,h,List.map_map,List.map_map];refine List.map_congr_left fun x _=>?_;show k*(g*x)=g*(k*x);grind
 ·rintro ⟨a,b,ha,hb,e⟩
  exact mO ha hb e
def ext:List Int→List Int→List Int
 | [a,b,c],[x,y,z,t]=>[a*t,b*t,c*t,0 - (a*x+b*y+c*z)]
 | _,_=>[]
def nO:List Int→List Int→List Int
 | [a,b,c],[x,y,z,t]=>[a*t,b*t,c*t,y*c - z*b,z*a - x*c,x*b - y*a]
 | _,_=>[]
def exf:List Int→List Int→List Int
 | [a,b],[x,y,t]=>[-(b*t),a*t,x*b - y*a]
 | _,_=>[]
def eV:List Int→List Int→List Int
 | [x0,y0,z0,w0],[x1,y1,z1,w1]=>[x1*w0 - x0*w1,y1*w0 - y0*w1,z1*w0 - z0*w1,y0*z1 - z0*y1,z0*x1 - x0*z1,x0*y1 - y0*x1]
 | _,_=>[]
theorem Mk {a b c d e f x y z t:Int} (ht:0 < t):Pr (ext [a,b,c] [x,y,z,t]) (ext [d,e,f] [x,y,z,t])↔Pr [a,b,c] [d,e,f]:=by
 constructor
 ·rintro ⟨k,l,hk,hl,h⟩
  simp only [ext,List.map_cons,List.map_nil,List.cons.injEq,and_true] at h;refine ⟨k*t,l*t,Int.mul_ne_zero hk (by omega),Int.mul_ne_zero hl (by omega),?_⟩;obtain ⟨h1,h2,h3,_⟩:=h;exact l3 (by grind) (by grind) (by grind)
 ·rintro ⟨k,l,hk,hl,h⟩
  simp only [List.map_cons,List.map_nil,List.cons.injEq,and_true] at h;obtain ⟨h1,h2,h3⟩:=h;refine ⟨k,l,hk,hl,?_⟩;simp only [ext,List.map_cons,List.map_nil,List.cons.injEq,and_true];exact ⟨by grind,by grind,by grind,by grind⟩
theorem Sj {a b c d e f x y z t:Int} (ht:0 < t):Pr (nO [a,b,c] [x,y,z,t]) (nO [d,e,f] [x,y,z,t])↔Pr [a,b,c] [d,e,f]:=by
 constructor
 ·rintro ⟨k,l,hk,hl,h⟩
  simp only [nO,List.map_cons,List.map_nil,List.cons.injEq,and_true] at h;refine ⟨k*t,l*t,Int.mul_ne_zero hk (by omega),Int.mul_ne_zero hl (by omega),?_⟩;obtain ⟨h1,h2,h3,_⟩:=h;exact l3 (by grind) (by grind) (by grind)
 ·rintro ⟨k,l,hk,hl,h⟩
  simp only [List.map_cons,List.map_nil,List.cons.injEq,and_true] at h;obtain ⟨h1,h2,h3⟩:=h;refine ⟨k,l,hk,hl,?_⟩;simp only [nO,List.map_cons,List.map_nil,List.cons.injEq,and_true];exact ⟨by grind,by grind,by grind,by grind,by grind,by grind⟩
theorem Vi {a b d e x y t:Int} (ht:0 < t):Pr (exf [a,b] [x,y,t]) (exf [d,e] [x,y,t])↔Pr [a,b] [d,e]:=by
 constructor
 ·rintro ⟨k,l,hk,hl,h⟩
  simp only [exf,List.map_cons,List.map_nil,List.cons.injEq,and_true] at h;refine ⟨k*t,l*t,Int.mul_ne_zero hk (by omega),Int.mul_ne_zero hl (by omega),?_⟩;obtain ⟨h1,h2,_⟩:=h;simp only [List.map_cons,List.map_nil,List.cons.injEq,and_true];exact ⟨by grind,by grind⟩
 ·rintro ⟨k,l,hk,hl,h⟩
  simp only [List.map_cons,List.map_nil,List.cons.injEq,and_true] at h;obtain ⟨h1,h2⟩:=h;refine ⟨k,l,hk,hl,?_⟩;simp only [exf,List.map_cons,List.map_nil,List.cons.injEq,and_true];exact ⟨by grind,by grind,by grind⟩
theorem R5 {x0 y0 z0 w0 x1 y1 z1 w1 x2 y2 z2 w2:Int} (h0:0 < w0) (h1:0 < w1) (h2:0 < w2):Pr (ext (bN [[x0,y0,z0,w0],[x1,y1,z1,w1],[x2,y2,z2,w2]]) [x0,y0,z0,w0]) (ext (bN [[x0,y0,z0,w0],[x1,y1,z1,w1],[x2,y2,z2,w2]]) [x1,y1,z1,w1])∧Pr (ext (bN [[x0,y0,z0,w0],[x1,y1,z1,w1],[x2,y2,z2,w2]]) [x0,y0,z0,w0]) (ext (bN [[x0,y0,z0,w0],[x1,y1,z1,w1],[x2,y2,z2,w2]]) [x2,y2,z2,w2]):=by
 refine ⟨⟨w1,w0,by omega,by omega,?_⟩,⟨w2,w0,by omega,by omega,?_⟩⟩ <;>
 ·simp only [ext,bN,dJ,bW,List.map_cons,List.map_nil,List.cons.injEq,and_true]
  exact ⟨by grind,by grind,by grind,by grind⟩
theorem J2 {x0 y0 z0 w0 x1 y1 z1 w1:Int} (h0:0 < w0) (h1:0 < w1):Pr (eV [x0,y0,z0,w0] [x1,y1,z1,w1]) (nO (bW [x0,y0,z0,w0] [x1,y1,z1,w1]) [x0,y0,z0,w0])∧Pr (eV [x0,y0,z0,w0] [x1,y1,z1,w1]) (nO (bW [x0,y0,z0,w0] [x1,y1,z1,w1]) [x1,y1,z1,w1]):=by
 refine ⟨⟨w0,1,by omega,by omega,?_⟩,⟨w1,1,by omega,by omega,?_⟩⟩ <;>
 ·simp only [eV,nO,bW,List.map_cons,List.map_nil,List.cons.injEq,and_true]
  exact ⟨by grind,by grind,by grind,by grind,by grind,by grind⟩
theorem J9 {x0 y0 z0 w0 x1 y1 z1 w1:Int}:aV (eV [x1,y1,z1,w1] [x0,y0,z0,w0])=aV (eV [x0,y0,z0,w0] [x1,y1,z1,w1]):=mO (a:=1) (b:=-1) (by decide) (by decide) (by
 simp only [eV,List.map_cons,List.map_nil,List.cons.injEq,and_true];exact ⟨by grind,by grind,by grind,by grind,by grind,by grind⟩)
theorem E4 {x0 y0 w0 x1 y1 w1:Int} (h0:0 < w0) (h1:0 < w1):Pr (dJ [x0,y0,w0] [x1,y1,w1]) (exf (bW [x0,y0,w0] [x1,y1,w1]) [x0,y0,w0])∧Pr (dJ [x0,y0,w0] [x1,y1,w1]) (exf (bW [x0,y0,w0] [x1,y1,w1]) [x1,y1,w1]):=by
 refine ⟨⟨w0,1,by omega,by omega,?_⟩,⟨w1,1,by omega,by omega,?_⟩⟩ <;>
 ·simp only [dJ,exf,bW,List.map_cons,List.map_nil,List.cons.injEq,and_true]
  exact ⟨by grind,by grind,by grind⟩
def Lk (n:Nat) (k l:List (List Int)):Prop :=
 (n=3∧∃ a b c d e f x y z t:Int,0 < t∧k=[aV [a,b,c],aV [d,e,f],[x,y,z,t]]∧l=[aV (ext [a,b,c] [x,y,z,t]),aV (nO [d,e,f] [x,y,z,t]),[x,y,z,t]]) ∨
 (n=2∧∃ a b x y t:Int,0 < t∧k=[aV [-b,a],aV [a,b],[x,y,t]]∧l=[aV (exf [a,b] [x,y,t]),[x,y,t]])
theorem Lk.iff {n:Nat} {k l k' l':List (List Int)} (h:Lk n k l) (h':Lk n k' l'):k=k'↔l=l':=by
 rcases h with ⟨hn,a,b,c,d,e,f,x,y,z,t,ht,rfl,rfl⟩ | ⟨hn,a,b,x,y,t,ht,rfl,rfl⟩ <;>
 rcases h' with ⟨hn',a',b',c',d',e',f',x',y',z',t',ht',rfl,rfl⟩ | ⟨hn',a',b',x',y',t',ht',rfl,rfl⟩
 ·have key:∀ P:Prop,(P∧[x,y,z,t]=[x',y',z',t'])=([x,y,z,t]=[x',y',z',t']∧P):=fun P=>by rw [and_comm]
  simp only [List.cons.injEq,and_true];constructor
  ·rintro ⟨h1,h2,rfl,rfl,rfl,rfl⟩
   exact ⟨fY.mpr ((Mk ht).mpr (fY.mp h1)),fY.mpr ((Sj ht).mpr (fY.mp h2)),rfl,rfl,rfl,rfl⟩
  ·rintro ⟨h1,h2,rfl,rfl,rfl,rfl⟩
   exact ⟨fY.mpr ((Mk ht).mp (fY.mp h1)),fY.mpr ((Sj ht).mp (fY.mp h2)),rfl,rfl,rfl,rfl⟩
 ·omega
 ·omega
 ·simp only [List.cons.injEq,and_true]
  constructor
  ·rintro ⟨_,h2,rfl,rfl,rfl⟩
   exact ⟨fY.mpr ((Vi ht).mpr (fY.mp h2)),rfl,rfl,rfl⟩
  ·rintro ⟨h1,rfl,rfl,rfl⟩
   have q:=(Vi ht).mp (fY.mp h1);refine ⟨?_,fY.mpr q,rfl,rfl,rfl⟩;obtain ⟨k,l,hk,hl,h⟩:=q;simp only [List.map_cons,List.map_nil,List.cons.injEq,and_true] at h;refine mO hk hl ?_;simp only [List.map_cons,List.map_nil,List.cons.injEq,and_true];exact ⟨by grind,by grind⟩
def gF (n:Nat):List cG→List cG→Prop
 | [],[]=>True
 | c :: C,d :: D=>(Lk n c.1 d.1∧c.2=d.2)∧gF n C D
 | _,_=>False
theorem gF.app {n:Nat}:∀ {C D C' D':List cG},gF n C D→gF n C' D'→gF n (C++C') (D++D')
 | [],[],_,_,_,h=>h
 | c :: C,d :: D,_,_,h,h'=>⟨h.1,h.2.app h'⟩
theorem gF.at {n:Nat} {k l:List (List Int)} (hk:Lk n k l):∀ {C D:List cG},gF n C D→dD C k=dD D l
 | [],[],_=>rfl
 | c :: C,d :: D,h=>by
  unfold dD;rw [gF.at hk h.2,h.1.2]
  by_cases e:c.1=k
  ·rw [if_pos e,if_pos ((h.1.1.iff hk).mp e)]
  ·rw [if_neg e,if_neg fun z=>e ((h.1.1.iff hk).mpr z)]
theorem gF.one {n:Nat}:∀ {C D:List cG},gF n C D→(∀ c∈C,∃ d∈D,Lk n c.1 d.1)∧(∀ d∈D,∃ c∈C,Lk n c.1 d.1)
 | [],[],_=>⟨fun _ h=>absurd h List.not_mem_nil,fun _ h=>absurd h List.not_mem_nil⟩
 | c :: C,d :: D,h=>by
  have ih:=gF.one h.2;refine ⟨fun x hx=>?_,fun x hx=>?_⟩
  ·rcases List.mem_cons.mp hx with rfl | hx
   ·exact ⟨d,List.mem_cons_self,h.1.1⟩
   ·obtain ⟨y,hy,z⟩:=ih.1 x hx
    exact ⟨y,List.mem_cons_of_mem _ hy,z⟩
  ·rcases List.mem_cons.mp hx with rfl | hx
   ·exact ⟨c,List.mem_cons_self,h.1.1⟩
   ·obtain ⟨y,hy,z⟩:=ih.2 x hx
    exact ⟨y,List.mem_cons_of_mem _ hy,z⟩
theorem Aa {k:List (List Int)}:∀ {C:List cG},(∀ c∈C,c.1≠k)→dD C k=0
 | [],_=>rfl
 | c :: C,h=>by
  unfold dD;rw [if_neg (h c List.mem_cons_self),Aa fun d hd=>h d (List.mem_cons_of_mem _ hd)];rfl
theorem gF.iff {n:Nat} {C D:List cG} (h:gF n C D):(∀ k,dD C k=0)↔∀ l,dD D l=0:=by
 constructor
 ·intro z l
  by_cases q:∃ d∈D,d.1=l
  ·obtain ⟨d,hd,rfl⟩:=q
   obtain ⟨c,_,hc⟩:=h.one.2 d hd;rw [← h.at hc];exact z _
  ·exact Aa fun d hd e=>q ⟨d,hd,e⟩
 ·intro z k
  by_cases q:∃ c∈C,c.1=k
  ·obtain ⟨c,hc,rfl⟩:=q
   obtain ⟨d,_,hd⟩:=h.one.1 c hc;rw [h.at hd];exact z _
  ·exact Aa fun c hc e=>q ⟨c,hc,e⟩
abbrev nN:MS:=(aH (bZ (bE (aC eI (aA 2) (mC (.int 0)))) (bG (aA 1)) cY) (bZ (bE (aC kY (aA 2) (mC (.int 0)))) (bG (mR fH (aB (bB ["_law_one"] [] (bH (aA 1)) (gN 0) (aC cR (mC (.int 0)) (aA 0))) aD))) cY))
theorem Nj (S:aI) (TL:List Int) (x0:Option AV):∀ (L:List Int) (x2:Option AV),(dG L=0∧∃ y2,dM [] (gN 2) nN (L.map .int) [x0,some (.pv (tv TL)),x2] S=.nx [x0,some (.pv (tv TL)),y2] S)∨(dG L≠0∧dM [] (gN 2) nN (L.map .int) [x0,some (.pv (tv TL)),x2] S=.rt (.pv (tv (TL.map (dG L*·)))) S)
 | [],x2=>.inl ⟨rfl,x2,fG⟩
 | n :: L,x2=>by
  rw [List.map_cons,eM];have ec:=Pf S TL none;rcases Int.lt_trichotomy n 0 with h | h | h
  ·have hf:dG (n :: L)=-1:=by
    unfold dG;rw [if_neg (by omega)];unfold sg
    (repeat' split) <;> omega
   rw [hf];refine .inr ⟨by decide,?_⟩;have e:TL.map (-1*·)=TL.map (- ·):=List.map_congr_left fun x _=>by omega
   rw [e];have h1:¬ 0 < n:=by omega
   unfold nN;show _=bX.rt (.pv (.tup ((TL.map (- ·)).map .int))) S;have ht:tv TL=.tup (TL.map .int):=rfl;rw [ht];generalize TL.map PV.int=T1,(TL.map (- ·)).map PV.int=T2 at *;simp [gN,EC,bI,aO,aP,aR,aQ,aF,aN,h1,h,bB,cO,bH,cN,ec]
  ·subst h
   have hf:dG (0 :: L)=dG L:=by simp [dG]
   rw [hf];have ih:=Nj S TL x0 L (some (.pv (.int 0)));have e:nN [x0,some (.pv (tv TL)),some (.pv (.int 0))] S=.nx [x0,some (.pv (tv TL)),some (.pv (.int 0))] S:=by
    unfold nN;generalize tv TL=T1;simp [EC,bI,aO,aP,aR,aQ,aF,aN]
   simp only [gN,List.set_cons_succ,List.set_cons_zero,e];exact ih
  ·have hf:dG (n :: L)=1:=by
    unfold dG;rw [if_neg (by omega)];unfold sg
    (repeat' split) <;> omega
   rw [hf];refine .inr ⟨by decide,?_⟩;have e:TL.map (1*·)=TL:=by simp
   rw [e];unfold nN;generalize tv TL=T1;simp [gN,EC,bI,aO,aP,aR,aQ,aF,aN,h]
theorem xR (ns:List Int) (S:aI) (hb:∀ n∈ns,Bd 8000 n):lD [.pv (.lst (ns.map .int))] S=.ok (.pv (tv (aV ns))) S:=by
 have e1:=tJ ns S hb;have e1:jR [.pv (.lst (ns.map .int))] S=.ok (.pv (tv (low ns))) S:=e1;have hf:∀ {k:Int} (_:0 < k) (l:List Int),dG (l.map (k*·))=dG l:=fun {k} hk l=>by
  induction l with
  | nil=>rfl
  | cons n l ih =>
   rw [List.map_cons];unfold dG
   by_cases h:n=0
   ·subst h
    simpa using ih
   ·rw [if_neg h,if_neg (Int.mul_ne_zero (by omega) h),jH hk]
 have ef:dG ns=dG (low ns):=by
  obtain ⟨g,hg,e⟩:=Kj ns;have:=hf hg (low ns);rw [← e] at this;exact this
 have hb:xM=(aH (aK 1 (aJ jR [] (aB (aA 0) aD))) (aH (bJ (bH (aA 1)) (gN 2) nN) (bG (aA 1)))):=rfl;unfold lD aX aV;rw [hb,ef];have ht:∀ l:List Int,tv l=.tup (l.map .int):=fun _=>rfl;have ih:=Nj S (low ns) (some (.pv (.lst (ns.map .int)))) (low ns) none;rw [ht] at e1 ih;rw [ht];generalize nN=UB at *;rcases ih with ⟨z,y2,e2⟩ | ⟨z,e2⟩
 ·rw [z]
  have e:(low ns).map (0*·)=low ns:=by
   have q:∀ l:List Int,dG l=0→l.map (0*·)=l:=fun l=>by
    induction l with
    | nil=>intro _; rfl
    | cons n l ih =>
     intro h;unfold dG at h
     by_cases c:n=0
     ·rw [if_pos c] at h
      rw [List.map_cons,ih h,c,Int.zero_mul]
     ·rw [if_neg c] at h
      have:=An c;rw [h] at this;exact absurd this (by decide)
   exact q _ z
  rw [e];generalize ns.map PV.int=T2,(low ns).map PV.int=T1 at *;simp [EC,bI,aO,aP,aR,aQ,aF,aN,bJ,bH,cN,e1,e2]
 ·rw [ht] at e2
  generalize ns.map PV.int=T2,(low ns).map PV.int=T1,((low ns).map (dG (low ns)*·)).map PV.int=T3 at *;simp [EC,bI,aO,aP,aR,aQ,aF,aN,bJ,bH,cN,e1,e2]
theorem No {a b c d e f:Int} {A B:PV} (S:aI) (hA:A=.tup [.int a,.int b,.int c]∨∃ w,A=.tup [.int a,.int b,.int c,.int w]) (hB:B=.tup [.int d,.int e,.int f]∨∃ w,B=.tup [.int d,.int e,.int f,.int w]) (ha:Bd 1000 a) (hb:Bd 1000 b) (hc:Bd 1000 c) (hd:Bd 1000 d) (he:Bd 1000 e) (hf:Bd 1000 f):lJ [.pv A,.pv B] S=.ok (.pv (.lst [.int (b*f - c*e),.int (c*d - a*f),.int (a*e - b*d)])) S:=by
 have m1:=mk hb hf (by decide) (by decide);have m2:=mk hc he (by decide) (by decide);have m3:=mk hc hd (by decide) (by decide);have m4:=mk ha hf (by decide) (by decide);have m5:=mk ha he (by decide) (by decide);have m6:=mk hb hd (by decide) (by decide);obtain ⟨a0,a1,a2⟩:aE A (.int 0)=some (.int a)∧aE A (.int 1)=some (.int b)∧aE A (.int 2)=some (.int c):=by
  rcases hA with rfl | ⟨w,rfl⟩ <;> exact ⟨dS (j:=0) rfl,dS (j:=1) rfl,dS (j:=2) rfl⟩
 obtain ⟨b0,b1,b2⟩:aE B (.int 0)=some (.int d)∧aE B (.int 1)=some (.int e)∧aE B (.int 2)=some (.int f):=by
  rcases hB with rfl | ⟨w,rfl⟩ <;> exact ⟨dS (j:=0) rfl,dS (j:=1) rfl,dS (j:=2) rfl⟩
 unfold lJ aX tR;simp [EC,bI,aO,aP,aR,aQ,aF,aN,a0,a1,a2,b0,b1,b2,m1,m2,m3,m4,m5,m6]
theorem gC {k:Nat} {a b c d:Int} (ha:Bd k a) (hb:Bd k b) (hc:Bd k c) (hd:Bd k d):Bd (k+k+1) (a*b - c*d):=(ha.mul hb).sub (hc.mul hd)
theorem yG {x0 y0 w0 x1 y1 w1:Int} (S:aI) (p:P2 x0 y0 w0) (q:P2 x1 y1 w1):oU [.pv (tv [x0,y0,w0]),.pv (tv [x1,y1,w1])] S=.ok (.pv (tv (aV (dJ [x0,y0,w0] [x1,y1,w1])))) S:=by
 have c:=No S (A:=.tup [.int x0,.int y0,.int w0]) (B:=.tup [.int x1,.int y1,.int w1]) (.inl rfl) (.inl rfl) p.bx p.by_ p.bw q.bx q.by_ q.bw;have e:=xR (dJ [x0,y0,w0] [x1,y1,w1]) S (fun n hn=>by
  have hn:n=y0*w1 - w0*y1∨n=w0*x1 - x0*w1∨n=x0*y1 - y0*x1:=by simpa [dJ] using hn
  rcases hn with rfl | rfl | rfl
  ·exact (gC p.by_ q.bw p.bw q.by_).mono (by decide)
  ·exact (gC p.bw q.bx p.bx q.bw).mono (by decide)
  ·exact (gC p.bx q.by_ p.by_ q.bx).mono (by decide))
 have e:lD [.pv (.lst [.int (y0*w1 - w0*y1),.int (w0*x1 - x0*w1),.int (x0*y1 - y0*x1)])] S=_:=e;have ht:∀ a b c:Int,tv [a,b,c]=.tup [.int a,.int b,.int c]:=fun _ _ _=>rfl;rw [ht,ht];generalize x0*y1 - y0*x1=n3,w0*x1 - x0*w1=n2,y0*w1 - w0*y1=n1,tv (aV (dJ [x0,y0,w0] [x1,y1,w1]))=R at *;unfold oU aX wV;simp [EC,aE,aZ,aY,aS,aO,aP,aR,aQ,aF,aN,c,e]
theorem oZ {x0 y0 z0 w0 x1 y1 z1 w1:Int} (S:aI) (p:P3 x0 y0 z0 w0) (q:P3 x1 y1 z1 w1):oT [.pv (tv [x0,y0,z0,w0]),.pv (tv [x1,y1,z1,w1])] S=.ok (.pv (tv (aV (eV [x0,y0,z0,w0] [x1,y1,z1,w1])))) S:=by
 have g:=qB S p q;have c:=No S (A:=v3 x0 y0 z0 w0) (B:=v3 x1 y1 z1 w1) (.inr ⟨_,rfl⟩) (.inr ⟨_,rfl⟩) p.bx p.by_ p.bz q.bx q.by_ q.bz;have e:=xR (eV [x0,y0,z0,w0] [x1,y1,z1,w1]) S (fun n hn=>by
  have hn:n=x1*w0 - x0*w1∨n=y1*w0 - y0*w1∨n=z1*w0 - z0*w1∨n=y0*z1 - z0*y1∨n=z0*x1 - x0*z1∨n=x0*y1 - y0*x1:=by simpa [eV] using hn
  rcases hn with rfl | rfl | rfl | rfl | rfl | rfl
  ·exact (gC q.bx p.bw p.bx q.bw).mono (by decide)
  ·exact (gC q.by_ p.bw p.by_ q.bw).mono (by decide)
  ·exact (gC q.bz p.bw p.bz q.bw).mono (by decide)
  ·exact (gC p.by_ q.bz p.bz q.by_).mono (by decide)
  ·exact (gC p.bz q.bx p.bx q.bz).mono (by decide)
  ·exact (gC p.bx q.by_ p.by_ q.bx).mono (by decide))
 have e:lD [.pv (.lst [.int (x1*w0 - x0*w1),.int (y1*w0 - y0*w1),.int (z1*w0 - z0*w1),.int (y0*z1 - z0*y1),.int (z0*x1 - x0*z1),.int (x0*y1 - y0*x1)])] S=_:=e;have ht:∀ a b c d:Int,tv [a,b,c,d]=v3 a b c d:=fun _ _ _ _=>rfl;rw [ht,ht];generalize x0*y1 - y0*x1=n6,z0*x1 - x0*z1=n5,y0*z1 - z0*y1=n4,z1*w0 - z0*w1=n3,y1*w0 - y0*w1=n2,x1*w0 - x0*w1=n1,v3 x1 y1 z1 w1=B,v3 x0 y0 z0 w0=A,tv (aV (eV [x0,y0,z0,w0] [x1,y1,z1,w1]))=R at *;unfold oT aX wS;simp [EC,aE,aZ,aY,aS,aO,aP,aR,aQ,aF,aN,g,c,e]
theorem tL {x0 y0 z0 w0 x1 y1 z1 w1 x2 y2 z2 w2:Int} (S:aI) (p:P3 x0 y0 z0 w0) (q:P3 x1 y1 z1 w1) (r:P3 x2 y2 z2 w2):pF [.pv (tv [x0,y0,z0,w0]),.pv (tv [x1,y1,z1,w1]),.pv (tv [x2,y2,z2,w2])] S=.ok (.pv (tv (aV (ext (bN [[x0,y0,z0,w0],[x1,y1,z1,w1],[x2,y2,z2,w2]]) [x0,y0,z0,w0])))) S:=by
 have g1:=qB S p q;have g2:=qB S p r;have b1:=gC q.bx p.bw p.bx q.bw;have b2:=gC q.by_ p.bw p.by_ q.bw;have b3:=gC q.bz p.bw p.bz q.bw;have b4:=gC r.bx p.bw p.bx r.bw;have b5:=gC r.by_ p.bw p.by_ r.bw;have b6:=gC r.bz p.bw p.bz r.bw;have hn:bN [[x0,y0,z0,w0],[x1,y1,z1,w1],[x2,y2,z2,w2]]=dJ [x1*w0 - x0*w1,y1*w0 - y0*w1,z1*w0 - z0*w1] [x2*w0 - x0*w2,y2*w0 - y0*w2,z2*w0 - z0*w2]:=rfl;rw [hn];have ht:∀ a b c d:Int,tv [a,b,c,d]=v3 a b c d:=fun _ _ _ _=>rfl;rw [ht,ht,ht];generalize z2*w0 - z0*w2=t3,y2*w0 - y0*w2=t2,x2*w0 - x0*w2=t1,z1*w0 - z0*w1=u3,y1*w0 - y0*w1=u2,x1*w0 - x0*w1=u1 at *;have c:=yS S (A:=.lst [.int u1,.int u2,.int u3]) (B:=.lst [.int t1,.int t2,.int t3]) rfl rfl (b1.mono (by decide)) (b2.mono (by decide)) (b3.mono (by decide)) (b4.mono (by decide)) (b5.mono (by decide)) (b6.mono (by decide));have d1:=gC b2 b6 b3 b5;have d2:=gC b3 b4 b1 b6;have d3:=gC b1 b5 b2 b4;have hc:dJ [u1,u2,u3] [t1,t2,t3]=[u2*t3 - u3*t2,u3*t1 - u1*t3,u1*t2 - u2*t1]:=rfl;rw [hc];generalize u1*t2 - u2*t1=n3,u3*t1 - u1*t3=n2,u2*t3 - u3*t2=n1 at *;have f:=zH S (A:=.lst [.int n1,.int n2,.int n3]) (B:=v3 x0 y0 z0 w0) (us:=[n1,n2,n3]) (vs:=[x0,y0,z0,w0]) (.inl rfl) (.inr rfl) (by simp; exact ⟨d1.mono (by decide),d2.mono (by decide),d3.mono (by decide)⟩) (by simp; exact ⟨p.bx.mono (by decide),p.by_.mono (by decide),p.bz.mono (by decide),p.bw.mono (by decide)⟩);have hd:dt [n1,n2,n3] [x0,y0,z0,w0]=n1*x0+n2*y0+n3*z0:=by
  unfold dt;simp;omega
 rw [hd] at f;have m1:=mk d1 p.bw (by decide) (by decide);have m2:=mk d2 p.bw (by decide) (by decide);have m3:=mk d3 p.bw (by decide) (by decide);have hx:ext [n1,n2,n3] [x0,y0,z0,w0]=[n1*w0,n2*w0,n3*w0,0 - (n1*x0+n2*y0+n3*z0)]:=rfl;have e:=xR (ext [n1,n2,n3] [x0,y0,z0,w0]) S (fun n hn=>by
  rw [hx] at hn;have hn:n=n1*w0∨n=n2*w0∨n=n3*w0∨n=0 - (n1*x0+n2*y0+n3*z0):=by simpa using hn
  rcases hn with rfl | rfl | rfl | rfl
  ·exact (d1.mul p.bw).mono (by decide)
  ·exact (d2.mul p.bw).mono (by decide)
  ·exact (d3.mul p.bw).mono (by decide)
  ·rw [Int.zero_sub]
   exact ((((d1.mul p.bx).add (d2.mul p.by_)).add ((d3.mul p.bz).mono (by decide))).neg).mono (by decide))
 rw [hx] at e ⊢;have e:lD [.pv (.lst [.int (n1*w0),.int (n2*w0),.int (n3*w0),.int (0 - (n1*x0+n2*y0+n3*z0))])] S=_:=e;have i3:aE (v3 x0 y0 z0 w0) (.int 3)=some (.int w0):=dS (j:=3) rfl;generalize n1*x0+n2*y0+n3*z0=N,tv (aV [n1*w0,n2*w0,n3*w0,0 - (n1*x0+n2*y0+n3*z0)])=R at *;rw [Int.zero_sub] at e;generalize v3 x2 y2 z2 w2=C,v3 x1 y1 z1 w1=B,v3 x0 y0 z0 w0=A at *;generalize hq1:n1*w0=q1 at *;generalize hq2:n2*w0=q2 at *;generalize hq3:n3*w0=q3 at *;unfold pF aX yC;simp [EC,bI,aO,aP,aR,aQ,aF,aN,bB,cO,bH,cN,eD,eA,gN,g1,g2,c,f,i3,m1,m2,m3,e]
theorem uD {kvs:List (PV × PV)} {C:List cG} (h:Tb kvs C) (hl:C.length≤100000) (T:aI) (k:List (List Int)) (m:Int):jY [.ref 0,.pv (kE k),.pv (.int m)] (.dic true kvs :: T)=.ok (.pv .non) (.dic true (fL kvs (k,m)) :: T):=by
 have e1:jJ (.ref 0) (.pv (kE k)) (.dic true kvs :: T) (some (.pv (.int 0)))=.ok (.pv (.int (dD C k))) (.dic true kvs :: T):=by
  unfold jJ;simp only [List.getElem?_cons_zero];rw [if_pos ⟨k,rfl⟩];rcases h.get k with e | ⟨e,z⟩
  ·rw [e]
  ·rw [e,z]
 have e2:kA (.ref 0) (.pv (kE k)) (.pv (.int (dD C k+m))) (.dic true kvs :: T)=.ok (.pv .non) (.dic true (fL kvs (k,m)) :: T):=by
  unfold kA fL;simp only [List.getElem?_cons_zero];have:=h.len;rw [if_pos ⟨⟨k,rfl⟩,by omega⟩,h.vint];rfl
 unfold jY aX Ha;generalize kE k=K1 at *;simp [EC,aE,aZ,aY,aS,aO,aP,aR,aQ,aF,aN,oG,sF,jK,e1,e2]
def lF (s e:List Int) (n:Int):List cG:=[([aV (dJ s e),s],n),([aV (dJ s e),e],0 - n)]
def lS (w:List (List Int)) (s e:List Int) (n:Int):List cG:=[([aV (ext (bN w) (w.headD [])),aV (eV s e),s],n),([aV (ext (bN w) (w.headD [])),aV (eV s e),e],0 - n)]
def lW (w:List (List Int)) (n:Int):List cG:=(iS w).flatMap fun x=>lS w x.1 x.2 n
def lA (uss:List (List Int)) (n:Int):List cG:=match uss with
 | [a,b,c]=>lF c a n++lF a b n++lF b c n
 | [a,b,c,d]=>(gX [a,b,c,d]).flatMap fun w=>lW w n
 | _=>[]
def qN:MS:=(aH (aK 4 (aC aE (aA 1) (aC cR (aA 3) (mC (.int 1))))) (aH (aK 5 (aC aE (aA 1) (aA 3))) (aH (aK 6 (aJ oU [] (aB (aA 4) (aB (aA 5) aD)))) (aH (cS (aJ jY [] (aB (aA 0) (aB (mN cT (aB (aA 6) (aB (aA 4) aD))) (aB (aA 2) aD))))) (cS (aJ jY [] (aB (aA 0) (aB (mN cT (aB (aA 6) (aB (aA 5) aD))) (aB (aC cR (mC (.int 0)) (aA 2)) aD)))))))))
theorem Ac {kvs:List (PV × PV)} {C:List cG} (h:Tb kvs C) (hl:C.length≤90000) {U:PV} {p q:List Int} {k:Int} (i1:aE U (.int (k - 1))=some (tv p)) (i2:aE U (.int k)=some (tv q)) (el:∀ S,oU [.pv (tv p),.pv (tv q)] S=.ok (.pv (tv (aV (dJ p q)))) S) (n:Int) (x4 x5 x6 x7 x8 x9 x10:Option AV):∃ y4 y5 y6,qN [some (.ref 0),some (.pv U),some (.pv (.int n)),some (.pv (.int k)),x4,x5,x6,x7,x8,x9,x10] [.dic true kvs]=.nx [some (.ref 0),some (.pv U),some (.pv (.int n)),some (.pv (.int k)),y4,y5,y6,x7,x8,x9,x10] [.dic true (eG kvs (lF p q n))]:=by
 have h2:=h.add ([aV (dJ p q),p],n);have e1:=uD h (by omega) [] [aV (dJ p q),p] n;have e2:=uD h2 (by rw [List.length_append]; simp; omega) [] [aV (dJ p q),q] (0 - n);have e0:=el [.dic true kvs];have et:eG kvs (lF p q n)=fL (fL kvs ([aV (dJ p q),p],n)) ([aV (dJ p q),q],0 - n):=rfl;have k1:kE [aV (dJ p q),p]=.tup [tv (aV (dJ p q)),tv p]:=rfl;have k2:kE [aV (dJ p q),q]=.tup [tv (aV (dJ p q)),tv q]:=rfl;rw [et];rw [k1] at e1;rw [k2] at e2;refine ⟨some (.pv (tv p)),some (.pv (tv q)),some (.pv (tv (aV (dJ p q)))),?_⟩;unfold qN;generalize tv q=T3,tv p=T2,tv (aV (dJ p q))=T1,fL kvs ([aV (dJ p q),p],n)=K1,fL (fL kvs ([aV (dJ p q),p],n)) ([aV (dJ p q),q],0 - n)=K2 at *;rw [Int.zero_sub] at e2;simp [EC,bI,aO,aP,aR,aQ,aF,aN,i1,i2,e0,e1,e2]
theorem Qc (S:aI):fU [.pv (.int 3)] S=.ok ([.int 0,.int 1,.int 2],[]) S:=by
 unfold fU;dsimp only;rw [if_pos (by decide)];rfl
theorem Vk {ls:List (PV × PV)} (nd:(ls.map (·.1)).Nodup) (k v:PV):eR (fV ls k v) k=some v:=mM (pK nd).1 ((yF nd _).mpr (.inl rfl))
theorem Uk {ls:List (PV × PV)} (nd:(ls.map (·.1)).Nodup) {k v k' u:PV} (h:k'≠k) (g:eR ls k'=some u):eR (fV ls k v) k'=some u:=by
 refine mM (pK nd).1 ((yF nd _).mpr (.inr ⟨h,?_⟩));unfold eR at g;cases z:iC ls k' with
 | none=>rw [z] at g; cases g
 | some i =>
  rw [z] at g;obtain ⟨w,hw⟩:=lH z;simp only [hw,Option.map_some,Option.some.injEq] at g;subst g;exact List.mem_of_getElem? hw
abbrev dZ (p q:List Int):PV:=tv (aV (eV p q))
def eL (ls:List (PV × PV)) (p q:List Int):List (PV × PV):=fV (fV ls (kE [p,q]) (dZ p q)) (kE [q,p]) (dZ p q)
structure Ln (ls:List (PV × PV)) (E:List (List Int × List Int)):Prop where
 nd:(ls.map (·.1)).Nodup
 len:ls.length≤2*E.length
 at_:∀ x∈E,eR ls (kE [x.1,x.2])=some (dZ x.1 x.2)∧eR ls (kE [x.2,x.1])=some (dZ x.1 x.2)
theorem Ln.add {ls:List (PV × PV)} {E:List (List Int × List Int)} (h:Ln ls E) {p q:List Int} (sw:dZ q p=dZ p q):Ln (eL ls p q) ((p,q) :: E):=by
 have n1:=pK h.nd (k:=kE [p,q]) (v:=dZ p q);have n2:=pK n1.1 (k:=kE [q,p]) (v:=dZ p q);have key:∀ {s t:List Int} {v:PV},((s=p∧t=q)→v=dZ p q)→((s=q∧t=p)→v=dZ p q)→(eR ls (kE [s,t])=some v∨(s=p∧t=q)∨(s=q∧t=p))→eR (eL ls p q) (kE [s,t])=some v:=fun {s t v} h1 h2 h3=>by
  unfold eL
  by_cases c:s=q∧t=p
  ·rw [c.1,c.2,h2 c]
   exact Vk n1.1 _ _
  ·refine Uk n1.1 (fun e=>c (by have:=La e; simpa using this)) ?_
   by_cases c':s=p∧t=q
   ·rw [c'.1,c'.2,h1 c']
    exact Vk h.nd _ _
   ·refine Uk h.nd (fun e=>c' (by have:=La e; simpa using this)) ?_
    rcases h3 with g | g | g
    ·exact g
    ·exact absurd g c'
    ·exact absurd g c
 refine ⟨n2.1,?_,fun x hx=>?_⟩
 ·have:=h.len
  have:=n1.2;have:=n2.2;unfold eL;rw [List.length_cons];omega
 ·rcases List.mem_cons.mp hx with rfl | hx
  ·exact ⟨key (fun _=>rfl) (fun _=>rfl) (.inr (.inl ⟨rfl,rfl⟩)),key (fun _=>rfl) (fun _=>rfl) (.inr (.inr ⟨rfl,rfl⟩))⟩
  ·have g:=h.at_ x hx
   refine ⟨key (fun e=>by rw [e.1,e.2]) (fun e=>by rw [e.1,e.2,sw]) (.inl g.1),key (fun e=>by rw [e.1,e.2,sw]) (fun e=>by rw [e.1,e.2]) (.inl g.2)⟩
theorem Ln.nil:Ln [] []:=⟨List.nodup_nil,Nat.le_refl _,fun _ h=>absurd h List.not_mem_nil⟩
def nG:MS:=(aH (aK 6 (aJ oT [] (aB (aC aE (aA 1) (aA 8)) (aB (aC aE (aA 1) (aA 3)) aD)))) (aH (jK (aA 7) (mN cT (aB (aC aE (aA 1) (aA 8)) (aB (aC aE (aA 1) (aA 3)) aD))) (aA 6)) (jK (aA 7) (mN cT (aB (aC aE (aA 1) (aA 3)) (aB (aC aE (aA 1) (aA 8)) aD))) (aA 6))))
theorem qP {kvs ls:List (PV × PV)} {E:List (List Int × List Int)} (h:Ln ls E) (hl:E.length≤1000) {U:PV} {p q:List Int} {k m:Int} (i1:aE U (.int m)=some (tv p)) (i2:aE U (.int k)=some (tv q)) (el:∀ S,oT [.pv (tv p),.pv (tv q)] S=.ok (.pv (dZ p q)) S) (x2 x4 x5 x6 x9 x10:Option AV):nG [some (.ref 0),some (.pv U),x2,some (.pv (.int k)),x4,x5,x6,some (.ref 1),some (.pv (.int m)),x9,x10] [.dic true kvs,.dic true ls]=.nx [some (.ref 0),some (.pv U),x2,some (.pv (.int k)),x4,x5,some (.pv (dZ p q)),some (.ref 1),some (.pv (.int m)),x9,x10] [.dic true kvs,.dic true (eL ls p q)]:=by
 have e0:=el [.dic true kvs,.dic true ls];have n1:=pK h.nd (k:=kE [p,q]) (v:=dZ p q);have hl':=h.len;have e1:kA (.ref 1) (.pv (kE [p,q])) (.pv (dZ p q)) [.dic true kvs,.dic true ls]=.ok (.pv .non) [.dic true kvs,.dic true (fV ls (kE [p,q]) (dZ p q))]:=by
  unfold kA;simp only [List.getElem?_cons_succ,List.getElem?_cons_zero];rw [if_pos ⟨⟨_,rfl⟩,by omega⟩];rfl
 have e2:kA (.ref 1) (.pv (kE [q,p])) (.pv (dZ p q)) [.dic true kvs,.dic true (fV ls (kE [p,q]) (dZ p q))]=.ok (.pv .non) [.dic true kvs,.dic true (eL ls p q)]:=by
  unfold kA;simp only [List.getElem?_cons_succ,List.getElem?_cons_zero];rw [if_pos ⟨⟨_,rfl⟩,by omega⟩];rfl
 have k1:kE [p,q]=.tup [tv p,tv q]:=rfl;have k2:kE [q,p]=.tup [tv q,tv p]:=rfl;rw [k1] at e1 e2;rw [k2] at e2;unfold nG;generalize tv q=T2,tv p=T1,dZ p q=V,fV ls (.tup [tv p,tv q]) (dZ p q)=L1,eL ls p q=L2 at *;simp [EC,bI,aO,aP,aR,aQ,aF,aN,jK,i1,i2,e0,e1,e2]
def wE:MS:=(aH (aK 4 (aC aE (aA 9) (aC cR (aA 3) (mC (.int 1))))) (aH (aK 5 (aC aE (aA 9) (aA 3))) (aH (aK 6 (kW (aA 7) (mN cT (aB (aA 4) (aB (aA 5) aD))))) (aH (cS (aJ jY [] (aB (aA 0) (aB (mN cT (aB (aA 10) (aB (aA 6) (aB (aA 4) aD)))) (aB (aA 2) aD))))) (cS (aJ jY [] (aB (aA 0) (aB (mN cT (aB (aA 10) (aB (aA 6) (aB (aA 5) aD)))) (aB (aC cR (mC (.int 0)) (aA 2)) aD)))))))))
theorem kH {kvs ls:List (PV × PV)} {C:List cG} (h:Tb kvs C) (hl:C.length≤90000) {W:PV} {w:List (List Int)} {p q:List Int} {k:Int} (i1:aE W (.int (k - 1))=some (tv p)) (i2:aE W (.int k)=some (tv q)) (hg:eR ls (kE [p,q])=some (dZ p q)) (n:Int) (x1 x4 x5 x6 x8:Option AV):∃ y4 y5 y6,wE [some (.ref 0),x1,some (.pv (.int n)),some (.pv (.int k)),x4,x5,x6,some (.ref 1),x8,some (.pv W),some (.pv (tv (aV (ext (bN w) (w.headD [])))))] [.dic true kvs,.dic true ls]=.nx [some (.ref 0),x1,some (.pv (.int n)),some (.pv (.int k)),y4,y5,y6,some (.ref 1),x8,some (.pv W),some (.pv (tv (aV (ext (bN w) (w.headD [])))))] [.dic true (eG kvs (lS w p q n)),.dic true ls]:=by
 generalize hP:aV (ext (bN w) (w.headD []))=P at *;have h2:=h.add ([P,aV (eV p q),p],n);have e1:=uD h (by omega) [.dic true ls] [P,aV (eV p q),p] n;have e2:=uD h2 (by rw [List.length_append]; simp; omega) [.dic true ls] [P,aV (eV p q),q] (0 - n);have e0:jJ (.ref 1) (.pv (kE [p,q])) [.dic true kvs,.dic true ls] none=.ok (.pv (dZ p q)) [.dic true kvs,.dic true ls]:=by
  unfold jJ;simp only [List.getElem?_cons_succ,List.getElem?_cons_zero];rw [if_pos ⟨_,rfl⟩,hg]
 have et:eG kvs (lS w p q n)=fL (fL kvs ([P,aV (eV p q),p],n)) ([P,aV (eV p q),q],0 - n):=by rw [← hP]; rfl
 have k0:kE [p,q]=.tup [tv p,tv q]:=rfl;have k1:kE [P,aV (eV p q),p]=.tup [tv P,dZ p q,tv p]:=rfl;have k2:kE [P,aV (eV p q),q]=.tup [tv P,dZ p q,tv q]:=rfl;rw [et];rw [k0] at e0;rw [k1] at e1;rw [k2] at e2;refine ⟨some (.pv (tv p)),some (.pv (tv q)),some (.pv (dZ p q)),?_⟩;unfold wE;generalize tv P=T4,tv q=T3,tv p=T2,dZ p q=T1,fL kvs ([P,aV (eV p q),p],n)=K1,fL (fL kvs ([P,aV (eV p q),p],n)) ([P,aV (eV p q),q],0 - n)=K2 at *;rw [Int.zero_sub] at e2;simp [EC,bI,aO,aP,aR,aQ,aF,aN,kW,i1,i2,e0,e1,e2]
def qH:MS:=(aH (aK 10 (aJ pF [] (aB (aC aE (aA 9) (mC (.int 0))) (aB (aC aE (aA 9) (mC (.int 1))) (aB (aC aE (aA 9) (mC (.int 2))) aD))))) (bJ (bO (aB (mC (.int 3)) aD)) (gN 3) wE))
theorem vW {kvs ls:List (PV × PV)} {C:List cG} (h:Tb kvs C) (hl:C.length≤80000) {a b c:List Int} (ep:∀ S,pF [.pv (tv a),.pv (tv b),.pv (tv c)] S=.ok (.pv (tv (aV (ext (bN [a,b,c]) a)))) S) (g1:eR ls (kE [c,a])=some (dZ c a)) (g2:eR ls (kE [a,b])=some (dZ a b)) (g3:eR ls (kE [b,c])=some (dZ b c)) (n:Int) (x1 x3 x4 x5 x6 x8 x10:Option AV):∃ y3 y4 y5 y6 y10,qH [some (.ref 0),x1,some (.pv (.int n)),x3,x4,x5,x6,some (.ref 1),x8,some (.pv (.tup [tv a,tv b,tv c])),x10] [.dic true kvs,.dic true ls]=.nx [some (.ref 0),x1,some (.pv (.int n)),y3,y4,y5,y6,some (.ref 1),x8,some (.pv (.tup [tv a,tv b,tv c])),y10] [.dic true (eG kvs (lW [a,b,c] n)),.dic true ls]:=by
 have ll:∀ s e:List Int,(lS [a,b,c] s e n).length=2:=fun _ _=>rfl;obtain ⟨y4,y5,y6,e1⟩:=kH (W:=.tup [tv a,tv b,tv c]) (w:=[a,b,c]) (p:=c) (q:=a) (k:=0) h (by omega) rfl (dS (j:=0) rfl) g1 n x1 x4 x5 x6 x8;have h1:=h.adds (lS [a,b,c] c a n);obtain ⟨z4,z5,z6,e2⟩:=kH (W:=.tup [tv a,tv b,tv c]) (w:=[a,b,c]) (p:=a) (q:=b) (k:=1) h1 (by rw [List.length_append,ll]; omega) (dS (j:=0) rfl) (dS (j:=1) rfl) g2 n x1 y4 y5 y6 x8;have h2:=h1.adds (lS [a,b,c] a b n);obtain ⟨t4,t5,t6,e3⟩:=kH (W:=.tup [tv a,tv b,tv c]) (w:=[a,b,c]) (p:=b) (q:=c) (k:=2) h2 (by rw [List.length_append,List.length_append,ll,ll]; omega) (dS (j:=1) rfl) (dS (j:=2) rfl) g3 n x1 z4 z5 z6 x8;rw [jS] at e2 e3;rw [jS] at e3;have hW:lW [a,b,c] n=lS [a,b,c] c a n++lS [a,b,c] a b n++lS [a,b,c] b c n:=rfl;have ep:=ep [.dic true kvs,.dic true ls];have hh:[a,b,c].headD []=a:=rfl;rw [hh] at e1 e2 e3;refine ⟨some (.pv (.int 2)),t4,t5,t6,some (.pv (tv (aV (ext (bN [a,b,c]) a)))),?_⟩;rw [hW];have i0:aE (.tup [tv a,tv b,tv c]) (.int 0)=some (tv a):=dS (j:=0) rfl;have i1:aE (.tup [tv a,tv b,tv c]) (.int 1)=some (tv b):=dS (j:=1) rfl;have i2:aE (.tup [tv a,tv b,tv c]) (.int 2)=some (tv c):=dS (j:=2) rfl;unfold qH;generalize tv c=T3,tv b=T2,tv a=T1,PV.tup [tv a,tv b,tv c]=W,tv (aV (ext (bN [a,b,c]) a))=T4,wE=FB at *;simp [EC,bI,aO,aP,aR,aQ,aF,aN,i0,i1,i2,ep,bJ,bO,Qc,eM,fG,gN,e1,e2,e3]
theorem R3 {kvs:List (PV × PV)} {C:List cG} (h:Tb kvs C) (hl:C.length≤80000) {x0 y0 w0 x1 y1 w1 x2 y2 w2:Int} (p0:P2 x0 y0 w0) (p1:P2 x1 y1 w1) (p2:P2 x2 y2 w2) (n:Int):lM [.ref 0,.pv (px [[x0,y0,w0],[x1,y1,w1],[x2,y2,w2]]),.pv (.int n)] [.dic true kvs]=.ok (.pv .non) [.dic true (eG kvs (lA [[x0,y0,w0],[x1,y1,w1],[x2,y2,w2]] n))]:=by
 have l1:=fun S=>yG S p2 p0;have l2:=fun S=>yG S p0 p1;have l3':=fun S=>yG S p1 p2;have hA:lA [[x0,y0,w0],[x1,y1,w1],[x2,y2,w2]] n=lF [x2,y2,w2] [x0,y0,w0] n++lF [x0,y0,w0] [x1,y1,w1] n++lF [x1,y1,w1] [x2,y2,w2] n:=rfl;have hU:px [[x0,y0,w0],[x1,y1,w1],[x2,y2,w2]]=.tup [tv [x0,y0,w0],tv [x1,y1,w1],tv [x2,y2,w2]]:=rfl;rw [hA,hU];generalize [x2,y2,w2]=c,[x1,y1,w1]=b,[x0,y0,w0]=a at *;have ll:∀ s e:List Int,(lF s e n).length=2:=fun _ _=>rfl;obtain ⟨y4,y5,y6,e1⟩:=Ac (U:=.tup [tv a,tv b,tv c]) (p:=c) (q:=a) (k:=0) h (by omega) rfl (dS (j:=0) rfl) l1 n none none none none none none none;have h1:=h.adds (lF c a n);obtain ⟨z4,z5,z6,e2⟩:=Ac (U:=.tup [tv a,tv b,tv c]) (p:=a) (q:=b) (k:=1) h1 (by rw [List.length_append,ll]; omega) (dS (j:=0) rfl) (dS (j:=1) rfl) l2 n y4 y5 y6 none none none none;have h2:=h1.adds (lF a b n);obtain ⟨t4,t5,t6,e3⟩:=Ac (U:=.tup [tv a,tv b,tv c]) (p:=b) (q:=c) (k:=2) h2 (by rw [List.length_append,List.length_append,ll,ll]; omega) (dS (j:=1) rfl) (dS (j:=2) rfl) l3' n z4 z5 z6 none none none none;rw [jS] at e2 e3;rw [jS] at e3;have hb:tV=(aH (bZ (bE (aC bT (mR cF (aB (aA 1) aD)) (mC (.int 3)))) (aH (bJ (bO (aB (mC (.int 3)) aD)) (gN 3) qN) mW) cY) (aH (aK 7 (iY true)) (aH (bJ (bO (aB (mC (.int 4)) aD)) (gN 3) (bJ (bO (aB (aA 3) aD)) (gN 8) nG)) (bJ (bH (aJ lK [] (aB (aA 1) aD))) (gN 9) qH)))):=rfl;unfold lM aX;rw [hb];generalize (aH (aK 7 (iY true)) (aH (bJ (bO (aB (mC (.int 4)) aD)) (gN 3) (bJ (bO (aB (aA 3) aD)) (gN 8) nG)) (bJ (bH (aJ lK [] (aB (aA 1) aD))) (gN 9) qH)))=MR;generalize tv c=T3,tv b=T2,tv a=T1,qN=FB at *;simp [EC,bI,aO,aP,aR,aQ,aF,aN,bJ,bO,Qc,eM,fG,gN,e1,e2,e3]
theorem rg0 (S:aI):fU [.pv (.int 0)] S=.ok ([],[]) S∧fU [.pv (.int 1)] S=.ok ([.int 0],[]) S∧fU [.pv (.int 2)] S=.ok ([.int 0,.int 1],[]) S∧fU [.pv (.int 4)] S=.ok ([.int 0,.int 1,.int 2,.int 3],[]) S:=by
 refine ⟨?_,?_,?_,?_⟩ <;>
 ·unfold fU
  dsimp only;rw [if_pos (by decide)];rfl
theorem qC {x0 y0 z0 w0 x1 y1 z1 w1:Int}:dZ [x1,y1,z1,w1] [x0,y0,z0,w0]=dZ [x0,y0,z0,w0] [x1,y1,z1,w1]:=congrArg tv J9
theorem X4 {kvs:List (PV × PV)} {C:List cG} (h:Tb kvs C) (hl:C.length≤70000) {x0 y0 z0 w0 x1 y1 z1 w1 x2 y2 z2 w2 x3 y3 z3 w3:Int} (p0:P3 x0 y0 z0 w0) (p1:P3 x1 y1 z1 w1) (p2:P3 x2 y2 z2 w2) (p3:P3 x3 y3 z3 w3) (n:Int):lM [.ref 0,.pv (px [[x0,y0,z0,w0],[x1,y1,z1,w1],[x2,y2,z2,w2],[x3,y3,z3,w3]]),.pv (.int n)] [.dic true kvs]=.ok (.pv .non) [.dic true (eG kvs (lA [[x0,y0,z0,w0],[x1,y1,z1,w1],[x2,y2,z2,w2],[x3,y3,z3,w3]] n))]:=by
 have l1:=fun S=>oZ S p0 p1;have l2:=fun S=>oZ S p0 p2;have l3':=fun S=>oZ S p1 p2;have l4:=fun S=>oZ S p0 p3;have l5:=fun S=>oZ S p1 p3;have l6:=fun S=>oZ S p2 p3;have s1:=@qC x0 y0 z0 w0 x1 y1 z1 w1;have s2:=@qC x0 y0 z0 w0 x2 y2 z2 w2;have s3:=@qC x1 y1 z1 w1 x2 y2 z2 w2;have s4:=@qC x0 y0 z0 w0 x3 y3 z3 w3;have s5:=@qC x1 y1 z1 w1 x3 y3 z3 w3;have s6:=@qC x2 y2 z2 w2 x3 y3 z3 w3;have q1:=fun S=>tL S p1 p2 p3;have q2:=fun S=>tL S p0 p3 p2;have q3:=fun S=>tL S p0 p1 p3;have q4:=fun S=>tL S p0 p2 p1;generalize [x3,y3,z3,w3]=d,[x2,y2,z2,w2]=c,[x1,y1,z1,w1]=b,[x0,y0,z0,w0]=a at *;have hA:lA [a,b,c,d] n=lW [b,c,d] n++lW [a,d,c] n++lW [a,b,d] n++lW [a,c,b] n:=by
  show lW [b,c,d] n++(lW [a,d,c] n++(lW [a,b,d] n++(lW [a,c,b] n++[])))=_;rw [List.append_nil,List.append_assoc,List.append_assoc]
 have hU:px [a,b,c,d]=.tup [tv a,tv b,tv c,tv d]:=rfl;rw [hA,hU];have i0:aE (.tup [tv a,tv b,tv c,tv d]) (.int 0)=some (tv a):=dS (j:=0) rfl;have i1:aE (.tup [tv a,tv b,tv c,tv d]) (.int 1)=some (tv b):=dS (j:=1) rfl;have i2:aE (.tup [tv a,tv b,tv c,tv d]) (.int 2)=some (tv c):=dS (j:=2) rfl;have i3:aE (.tup [tv a,tv b,tv c,tv d]) (.int 3)=some (tv d):=dS (j:=3) rfl;have L1:=Ln.nil.add s1;have L2:=L1.add s2;have L3:=L2.add s3;have L4:=L3.add s4;have L5:=L4.add s5;have L6:=L5.add s6;have e1:=fun x2 x4 x5 x6 x9 x10=>qP (kvs:=kvs) Ln.nil (by decide) i0 i1 l1 x2 x4 x5 x6 x9 x10;have e2:=fun x2 x4 x5 x6 x9 x10=>qP (kvs:=kvs) L1 (by simp) i0 i2 l2 x2 x4 x5 x6 x9 x10;have e3:=fun x2 x4 x5 x6 x9 x10=>qP (kvs:=kvs) L2 (by simp) i1 i2 l3' x2 x4 x5 x6 x9 x10;have e4:=fun x2 x4 x5 x6 x9 x10=>qP (kvs:=kvs) L3 (by simp) i0 i3 l4 x2 x4 x5 x6 x9 x10;have e5:=fun x2 x4 x5 x6 x9 x10=>qP (kvs:=kvs) L4 (by simp) i1 i3 l5 x2 x4 x5 x6 x9 x10;have e6:=fun x2 x4 x5 x6 x9 x10=>qP (kvs:=kvs) L5 (by simp) i2 i3 l6 x2 x4 x5 x6 x9 x10;have g1:=L6.at_ (a,b) (by simp);have g2:=L6.at_ (a,c) (by simp);have g3:=L6.at_ (b,c) (by simp);have g4:=L6.at_ (a,d) (by simp);have g5:=L6.at_ (b,d) (by simp);have g6:=L6.at_ (c,d) (by simp);dsimp only at g1 g2 g3 g4 g5 g6;have ls:∃ y3 y6 y8,(bJ (bO (aB (mC (.int 4)) aD)) (gN 3) (bJ (bO (aB (aA 3) aD)) (gN 8) nG)) [some (.ref 0),some (.pv (.tup [tv a,tv b,tv c,tv d])),some (.pv (.int n)),none,none,none,none,some (.ref 1),none,none,none] [.dic true kvs,.dic true []]=.nx [some (.ref 0),some (.pv (.tup [tv a,tv b,tv c,tv d])),some (.pv (.int n)),y3,none,none,y6,some (.ref 1),y8,none,none] [.dic true kvs,.dic true (eL (eL (eL (eL (eL (eL [] a b) a c) b c) a d) b d) c d)]:=by
  refine ⟨some (.pv (.int 3)),some (.pv (dZ c d)),some (.pv (.int 2)),?_⟩;clear L1 L2 L3 L4 L5 L6 g1 g2 g3 g4 g5 g6 l1 l2 l3' l4 l5 l6 s1 s2 s3 s4 s5 s6 q1 q2 q3 q4 i0 i1 i2 i3;generalize PV.tup [tv a,tv b,tv c,tv d]=U,nG=LB at *;simp [EC,bI,aO,aP,aR,aQ,aF,aN,bJ,bO,Qc,rg0,eM,fG,gN,e1,e2,e3,e4,e5,e6]
 obtain ⟨y3,y6,y8,el⟩:=ls;clear e1 e2 e3 e4 e5 e6 i0 i1 i2 i3 L1 L2 L3 L4 L5 L6;generalize eL (eL (eL (eL (eL (eL [] a b) a c) b c) a d) b d) c d=LS at *;have ll:∀ u v t:List Int,(lW [u,v,t] n).length=6:=fun _ _ _=>rfl;obtain ⟨b3,b4,b5,b6,b10,f1⟩:=vW h (by omega) q1 (by rw [s5]; exact g5.2) g3.1 g6.1 n (some (.pv (.tup [tv a,tv b,tv c,tv d]))) y3 none none y6 y8 none;have h1:=h.adds (lW [b,c,d] n);obtain ⟨c3,c4,c5,c6,c10,f2⟩:=vW h1 (by rw [List.length_append,ll]; omega) q2 (by rw [s2]; exact g2.2) g4.1 (by rw [s6]; exact g6.2) n (some (.pv (.tup [tv a,tv b,tv c,tv d]))) b3 b4 b5 b6 y8 b10;have h2:=h1.adds (lW [a,d,c] n);obtain ⟨d3,d4,d5,d6,d10,f3⟩:=vW h2 (by rw [List.length_append,List.length_append,ll,ll]; omega) q3 (by rw [s4]; exact g4.2) g1.1 g5.1 n (some (.pv (.tup [tv a,tv b,tv c,tv d]))) c3 c4 c5 c6 y8 c10;have h3:=h2.adds (lW [a,b,d] n);obtain ⟨j3,j4,j5,j6,j10,f4⟩:=vW h3 (by rw [List.length_append,List.length_append,List.length_append,ll,ll,ll]; omega) q4 (by rw [s1]; exact g1.2) g2.1 (by rw [s3]; exact g3.2) n (some (.pv (.tup [tv a,tv b,tv c,tv d]))) d3 d4 d5 d6 y8 d10;rw [jS] at f2 f3 f4;rw [jS] at f3 f4;rw [jS] at f4;have es:∀ S,lK [.pv (.tup [tv a,tv b,tv c,tv d])] S=.ok (.pv (.lst [.tup [tv b,tv c,tv d],.tup [tv a,tv d,tv c],.tup [tv a,tv b,tv d],.tup [tv a,tv c,tv b]])) S:=fun S=>by
  generalize tv a=T1;generalize tv b=T2;generalize tv c=T3;generalize tv d=T4;unfold lK aX yM;simp [EC,aE,aZ,aY,aS,aO,aP,aR,aQ,aF,aN,vH,gT,cJ,eC,gN]
 have es:=es [.dic true kvs,.dic true LS];have hb:tV=(aH (bZ (bE (aC bT (mR cF (aB (aA 1) aD)) (mC (.int 3)))) (aH (bJ (bO (aB (mC (.int 3)) aD)) (gN 3) qN) mW) cY) (aH (aK 7 (iY true)) (aH (bJ (bO (aB (mC (.int 4)) aD)) (gN 3) (bJ (bO (aB (aA 3) aD)) (gN 8) nG)) (bJ (bH (aJ lK [] (aB (aA 1) aD))) (gN 9) qH)))):=rfl;unfold lM aX;rw [hb];clear g1 g2 g3 g4 g5 g6 l1 l2 l3' l4 l5 l6 s1 s2 s3 s4 s5 s6 q1 q2 q3 q4 hb hA hU h1 h2 h3;generalize tv d=T4,tv c=T3,tv b=T2,tv a=T1,PV.tup [tv a,tv c,tv b]=W4,PV.tup [tv a,tv b,tv d]=W3,PV.tup [tv a,tv d,tv c]=W2,PV.tup [tv b,tv c,tv d]=W1,qH=WB,qN=FB,(bJ (bO (aB (mC (.int 4)) aD)) (gN 3) (bJ (bO (aB (aA 3) aD)) (gN 8) nG))=SL at *;have t1:(bZ (bE (aC bT (mR cF (aB (aA 1) aD)) (mC (.int 3)))) (aH (bJ (bO (aB (mC (.int 3)) aD)) (gN 3) FB) mW) cY) [some (.ref 0),some (.pv (.tup [T1,T2,T3,T4])),some (.pv (.int n)),none,none,none,none,none,none,none,none] [.dic true kvs]=.nx [some (.ref 0),some (.pv (.tup [T1,T2,T3,T4])),some (.pv (.int n)),none,none,none,none,none,none,none,none] [.dic true kvs]:=by
  simp [EC,bI,aO,aP,aR,aQ,aF,aN]
 have t2:(bJ (bH (aJ lK [] (aB (aA 1) aD))) (gN 9) WB) [some (.ref 0),some (.pv (.tup [T1,T2,T3,T4])),some (.pv (.int n)),y3,none,none,y6,some (.ref 1),y8,none,none] [.dic true kvs,.dic true LS]=.nx [some (.ref 0),some (.pv (.tup [T1,T2,T3,T4])),some (.pv (.int n)),j3,j4,j5,j6,some (.ref 1),y8,some (.pv W4),j10] [.dic true (eG kvs (lW [b,c,d] n++lW [a,d,c] n++lW [a,b,d] n++lW [a,c,b] n)),.dic true LS]:=by
  simp [EC,bI,aO,aP,aR,aQ,aF,aN,bJ,bH,cN,es,eM,fG,gN,f1,f2,f3,f4]
 clear f1 f2 f3 f4 es;generalize (bZ (bE (aC bT (mR cF (aB (aA 1) aD)) (mC (.int 3)))) (aH (bJ (bO (aB (mC (.int 3)) aD)) (gN 3) FB) mW) cY)=SI,(bJ (bH (aJ lK [] (aB (aA 1) aD))) (gN 9) WB)=SW,eG kvs (lW [b,c,d] n++lW [a,d,c] n++lW [a,b,d] n++lW [a,c,b] n)=KV at *;simp [EC,bI,aO,aP,aR,aQ,aF,aN,iY,t1,el,t2]
theorem W6 {n k:Nat} (hn:n=2∨n=3) (hk:k≤1000) {kvs:List (PV × PV)} {C:List cG} (h:Tb kvs C) (hl:C.length≤70000) {u:List (List Int)} (s:Sx n k u) (m:Int):lM [.ref 0,.pv (px u),.pv (.int m)] [.dic true kvs]=.ok (.pv .non) [.dic true (eG kvs (lA u m))]:=by
 have hg:=s.gu;have sl:=s.len;rcases hn with rfl | rfl
 ·match u,sl with
  | [a,b,c],_ =>
   obtain ⟨x0,y0,w0,rfl,p0⟩:=(hg a (by simp)).two hk;obtain ⟨x1,y1,w1,rfl,p1⟩:=(hg b (by simp)).two hk;obtain ⟨x2,y2,w2,rfl,p2⟩:=(hg c (by simp)).two hk;exact R3 h (by omega) p0 p1 p2 m
 ·match u,sl with
  | [a,b,c,d],_ =>
   obtain ⟨x0,y0,z0,w0,rfl,p0⟩:=(hg a (by simp)).three hk;obtain ⟨x1,y1,z1,w1,rfl,p1⟩:=(hg b (by simp)).three hk;obtain ⟨x2,y2,z2,w2,rfl,p2⟩:=(hg c (by simp)).three hk;obtain ⟨x3,y3,z3,w3,rfl,p3⟩:=(hg d (by simp)).three hk;exact X4 h hl p0 p1 p2 p3 m
def cL (hs:List (List (List Int))) (m:Int):List cG:=hs.flatMap fun u=>lA u m
theorem Bm {u:List (List Int)} (h:u.length=3∨u.length=4) (m:Int):(lA u m).length≤24:=by
 rcases h with h | h
 ·match u,h with
  | [a,b,c],_=>exact (by decide:6≤24)
 ·match u,h with
  | [a,b,c,d],_=>exact Nat.le_refl 24
def oR (e:ME):MS:=(cS (aJ lM [] (aB (aA 2) (aB (aA 3) (aB e aD)))))
theorem zB {n k:Nat} (hn:n=2∨n=3) (hk:k≤1000) {e:ME} {m:Int} (he:∀ ρ S,e ρ S=.ok (.pv (.int m)) S) (a0 a1:Option AV):∀ (L:List (List (List Int))) (kvs:List (PV × PV)) (C:List cG) (x3:Option AV),Tb kvs C→C.length+24*L.length≤70000→(∀ u∈L,Sx n k u)→∃ y3,dM [] (gN 3) (oR e) (L.map px) [a0,a1,some (.ref 0),x3] [.dic true kvs]=.nx [a0,a1,some (.ref 0),y3] [.dic true (eG kvs (cL L m))]
 | [],kvs,C,x3,h,hl,ha=>⟨x3,fG⟩
 | u :: L,kvs,C,x3,h,hl,ha=>by
  rw [List.length_cons] at hl;have su:=ha u List.mem_cons_self;have e1:=W6 hn hk h (by omega) su m;have h2:=h.adds (lA u m);have:=Bm (lQ hn su.len) m;obtain ⟨y3,e2⟩:=zB hn hk he a0 a1 L _ _ (some (.pv (px u))) h2 (by rw [List.length_append]; omega) fun y hy=>ha y (List.mem_cons_of_mem _ hy);refine ⟨y3,?_⟩;rw [jS] at e2;have ec:cL (u :: L) m=lA u m++cL L m:=List.flatMap_cons;rw [List.map_cons,eM,ec];have e3:oR e [a0,a1,some (.ref 0),some (.pv (px u))] [.dic true kvs]=.nx [a0,a1,some (.ref 0),some (.pv (px u))] [.dic true (eG kvs (lA u m))]:=by
   unfold oR;generalize px u=T1 at *;simp [EC,aE,aZ,aY,aS,aO,aP,aR,aQ,aF,aN,he,e1]
  simp [gN,e3,e2]
theorem I0 {kvs:List (PV × PV)} {C:List cG} (h:Tb kvs C):∃ b L,cE [] (gN 0) (aC bT (kW (aA 1) (aA 0)) (mC (.int 0))) (kvs.map (·.1)) [none,some (.ref 0)] [.dic true kvs]=.ok L [.dic true kvs]∧nC [.lst L]=some (.bl b)∧(b=true↔∀ k,dD C k=0):=by
 refine ⟨kvs.all fun x=>lV (some x.2) == 0,kvs.map fun x=>.bl (lV (some x.2) == 0),?_,?_,?_⟩
 ·refine qY (kM _) (fun x:PV × PV=>x.1) (fun x=>PV.bl (lV (some x.2) == 0)) kvs none fun x hx=>?_
  obtain ⟨k,i,rfl⟩:=h.int x hx;have e:=mM h.nd hx;have e1:jJ (.ref 0) (.pv (kE k)) [.dic true kvs] none=.ok (.pv (.int i)) [.dic true kvs]:=by
   unfold jJ;simp only [List.getElem?_cons_zero];rw [if_pos ⟨k,rfl⟩,e]
  dsimp only [lV];generalize kE k=K1 at *;simp [EC,bI,aO,aP,aR,aQ,aF,aN,kW,e1]
 ·have e:=Bu (kvs.map fun x=>lV (some x.2) == 0)
  rw [List.map_map] at e;refine e.trans ?_;rw [List.all_map];rfl
 ·rw [List.all_eq_true]
  constructor
  ·intro z k
   rcases h.val k with m | ⟨_,m⟩
   ·simpa [lV] using z _ m
   ·exact m
  ·intro z x hx
   obtain ⟨k,i,rfl⟩:=h.int x hx;rcases h.val k with m | ⟨m,_⟩
   ·have e1:=mM h.nd m
    rw [mM h.nd hx] at e1;injection e1 with e1;injection e1 with e1;simp [lV,e1,z k]
   ·exact absurd hx (m _)
theorem Ku {n k:Nat} (hn:n=2∨n=3) (hk:k≤1000) {hs gs:List (List (List Int))} (h:∀ u∈hs,Sx n k u) (g:∀ u∈gs,Sx n k u) (lh:hs.length≤1000) (lg:gs.length≤1000):∃ b,pM [.pv (.lst (hs.map px)),.pv (.lst (gs.map px))] []=.ok (.pv (.bl b)) []∧(b=true↔∀ l,dD (cL hs 1++cL gs (-1)) l=0):=by
 have cl:∀ (hs:List (List (List Int))) (m:Int),(∀ u∈hs,Sx n k u)→(cL hs m).length≤24*hs.length:=fun hs m=>by
  induction hs with
  | nil=>intro _; simp [cL]
  | cons u hs ih =>
   intro h;have e:cL (u :: hs) m=lA u m++cL hs m:=List.flatMap_cons;rw [e,List.length_append,List.length_cons];have:=Bm (lQ hn (h u List.mem_cons_self).len) m;have:=ih fun v hv=>h v (List.mem_cons_of_mem _ hv);omega
 obtain ⟨y3,e1⟩:=zB hn hk (e:=(mC (.int 1))) (m:=1) (fun _ _=>rfl) (some (.pv (.lst (hs.map px)))) (some (.pv (.lst (gs.map px)))) hs [] [] none Tb.nil (by simp; omega) h;have h1:=Tb.nil.adds (cL hs 1);rw [List.nil_append] at h1;have l1:=cl hs 1 h;obtain ⟨z3,e2⟩:=zB hn hk (e:=(cD cK (mC (.int 1)))) (m:=-1) (fun _ _=>rfl) (some (.pv (.lst (hs.map px)))) (some (.pv (.lst (gs.map px)))) gs _ _ y3 h1 (by omega) g;have h2:=h1.adds (cL gs (-1));obtain ⟨b,L,e3,e4,eb⟩:=I0 h2;refine ⟨b,?_,eb⟩;have hb:zE=(aH (aK 2 (iY true)) (aH (bJ (bH (aA 0)) (gN 3) (oR (mC (.int 1)))) (aH (bJ (bH (aA 1)) (gN 3) (oR (cD cK (mC (.int 1))))) (bG (mR nC (aB (bB ["_law_key"] [(2,"_law_table")] (bH (sC (aB (aA 2) aD))) (gN 0) (aC bT (kW (aA 1) (aA 0)) (mC (.int 0)))) aD)))))):=rfl;unfold pM aX;rw [hb];generalize eG [] (cL hs 1)=K1,eG (eG [] (cL hs 1)) (cL gs (-1))=K2,gs.map px=GL,hs.map px=HL,(aC bT (kW (aA 1) (aA 0)) (mC (.int 0)))=B3,oR (cD cK (mC (.int 1)))=B2,oR (mC (.int 1))=B1 at *;simp [EC,bI,aO,aP,aR,aQ,aF,aN,iY,bJ,bH,cN,e1,e2,bB,cO,sC,uJ,e3,e4]
theorem Fc {x0 y0 w0 x1 y1 w1:Int} (h0:0 < w0) (h1:0 < w1) (m:Int):gF 2 (cW [[x0,y0,w0],[x1,y1,w1]] m) (lF [x0,y0,w0] [x1,y1,w1] m):=by
 have c:=@E4 x0 y0 w0 x1 y1 w1 h0 h1;have e1:=fY.mpr c.1;have e2:=fY.mpr c.2;refine ⟨⟨.inr ⟨rfl,_,_,_,_,_,h0,rfl,?_⟩,rfl⟩,⟨.inr ⟨rfl,_,_,_,_,_,h1,rfl,?_⟩,?_⟩,trivial⟩
 ·show [aV (dJ [x0,y0,w0] [x1,y1,w1]),[x0,y0,w0]]=_
  rw [e1];rfl
 ·show [aV (dJ [x0,y0,w0] [x1,y1,w1]),[x1,y1,w1]]=_
  rw [e2];rfl
 ·show -m=0 - m
  omega
theorem Vb {w:List (List Int)} {n1 n2 n3:Int} (hN:bN w=[n1,n2,n3]) {x0 y0 z0 w0 x1 y1 z1 w1:Int} (h0:0 < w0) (h1:0 < w1) (eS:Pr (ext (bN w) (w.headD [])) (ext (bN w) [x0,y0,z0,w0])) (eE:Pr (ext (bN w) (w.headD [])) (ext (bN w) [x1,y1,z1,w1])) (m:Int):gF 3 (sd (aV (bN w)) [x0,y0,z0,w0] [x1,y1,z1,w1] m) (lS w [x0,y0,z0,w0] [x1,y1,z1,w1] m):=by
 have c:=@J2 x0 y0 z0 w0 x1 y1 z1 w1 h0 h1;have e1:=fY.mpr c.1;have e2:=fY.mpr c.2;have e3:=fY.mpr eS;have e4:=fY.mpr eE;refine ⟨⟨.inl ⟨rfl,n1,n2,n3,x1*w0 - x0*w1,y1*w0 - y0*w1,z1*w0 - z0*w1,x0,y0,z0,w0,h0,?_,?_⟩,rfl⟩,⟨.inl ⟨rfl,n1,n2,n3,x1*w0 - x0*w1,y1*w0 - y0*w1,z1*w0 - z0*w1,x1,y1,z1,w1,h1,?_,?_⟩,?_⟩,trivial⟩
 ·rw [← hN]
  rfl
 ·show [aV (ext (bN w) (w.headD [])),aV (eV [x0,y0,z0,w0] [x1,y1,z1,w1]),[x0,y0,z0,w0]]=_
  rw [e3,e1,hN];rfl
 ·rw [← hN]
  rfl
 ·show [aV (ext (bN w) (w.headD [])),aV (eV [x0,y0,z0,w0] [x1,y1,z1,w1]),[x1,y1,z1,w1]]=_
  rw [e4,e2,hN];rfl
 ·show -m=0 - m
  omega
theorem wL {a b c:List Int} (ha:Pw 3 a) (hb:Pw 3 b) (hc:Pw 3 c) (m:Int):gF 3 (cW [a,b,c] m) (lW [a,b,c] m):=by
 obtain ⟨x0,y0,z0,w0,rfl,h0⟩:=ha.three;obtain ⟨x1,y1,z1,w1,rfl,h1⟩:=hb.three;obtain ⟨x2,y2,z2,w2,rfl,h2⟩:=hc.three;have q:=@R5 x0 y0 z0 w0 x1 y1 z1 w1 x2 y2 z2 w2 h0 h1 h2;have r:Pr (ext (bN [[x0,y0,z0,w0],[x1,y1,z1,w1],[x2,y2,z2,w2]]) [x0,y0,z0,w0]) (ext (bN [[x0,y0,z0,w0],[x1,y1,z1,w1],[x2,y2,z2,w2]]) [x0,y0,z0,w0]):=⟨1,1,by decide,by decide,rfl⟩;exact (Vb (w:=[[x0,y0,z0,w0],[x1,y1,z1,w1],[x2,y2,z2,w2]]) rfl h2 h0 q.2 r m).app ((Vb (w:=[[x0,y0,z0,w0],[x1,y1,z1,w1],[x2,y2,z2,w2]]) rfl h0 h1 r q.1 m).app ((Vb (w:=[[x0,y0,z0,w0],[x1,y1,z1,w1],[x2,y2,z2,w2]]) rfl h1 h2 q.1 q.2 m).app (C':=[]) (D':=[]) trivial))
theorem Q9 {n:Nat} (hn:n=2∨n=3) {u:List (List Int)} (hl:u.length=n+1) (hp:∀ v∈u,Pw n v) (m:Int):∃ D,gF n (cP u m) D∧∀ k,dD D k=dD (lA u m) k:=by
 rcases hn with rfl | rfl
 ·match u,hl with
  | [a,b,c],_ =>
   obtain ⟨x0,y0,w0,rfl,h0⟩:=(hp a (by simp)).two;obtain ⟨x1,y1,w1,rfl,h1⟩:=(hp b (by simp)).two;obtain ⟨x2,y2,w2,rfl,h2⟩:=(hp c (by simp)).two;refine ⟨_,(Fc h0 h1 m).app ((Fc h1 h2 m).app ((Fc h2 h0 m).app (C':=[]) (D':=[]) trivial)),fun k=>?_⟩;show _=dD (lF _ _ m++lF _ _ m++lF _ _ m) k;simp only [oW,dD];omega
 ·match u,hl with
  | [a,b,c,d],_ =>
   have pa:=hp a (by simp);have pb:=hp b (by simp);have pc:=hp c (by simp);have pd:=hp d (by simp);exact ⟨_,(wL pb pc pd m).app ((wL pa pd pc m).app ((wL pa pb pd m).app ((wL pa pc pb m).app (C':=[]) (D':=[]) trivial))),fun k=>rfl⟩
theorem Ib {n k:Nat} (hn:n=2∨n=3) (m:Int):∀ {hs:List (List (List Int))},(∀ u∈hs,Sx n k u)→∃ D,gF n (cH hs m) D∧∀ k,dD D k=dD (cL hs m) k
 | [],_=>⟨[],trivial,fun _=>rfl⟩
 | u :: hs,h=>by
  obtain ⟨D,l1,s1⟩:=Ib hn m (hs:=hs) fun v hv=>h v (List.mem_cons_of_mem _ hv);have su:=h u List.mem_cons_self;obtain ⟨E,l2,s2⟩:=Q9 hn su.len (fun v hv=>(su.gu v hv).pt) m;refine ⟨E++D,l2.app l1,fun k=>?_⟩;have ec:cL (u :: hs) m=lA u m++cL hs m:=List.flatMap_cons;rw [ec,oW,oW,s1,s2]
theorem Tr {n k:Nat} (hn:n=2∨n=3) (hk:k≤1000) {A B:PV} {hs gs:List (List (List Int))} (hA:Sv A (hs.map px)) (hB:Sv B (gs.map px)) (h:∀ u∈hs,Sx n k u) (g:∀ u∈gs,Sx n k u) (lh:hs.length≤1000) (lg:gs.length≤1000):∃ b,nZ [.pv A,.pv B] []=.ok (.pv (.bl b)) []∧pM [.pv (.lst (hs.map px)),.pv (.lst (gs.map px))] []=.ok (.pv (.bl b)) []:=by
 have pc:∀ u,Sx n k u→Pc u:=fun u s=>P7 hn hk s.len s.gu s.nz;obtain ⟨b,e,hb⟩:=Dz hA hB (fun u hu=>pc u (h u hu)) (fun u hu=>pc u (g u hu)) lh lg;obtain ⟨c,f,hc⟩:=Ku hn hk h g lh lg;refine ⟨b,e,?_⟩;obtain ⟨D1,l1,s1⟩:=Ib hn 1 h;obtain ⟨D2,l2,s2⟩:=Ib hn (-1) g;have q:=(l1.app l2).iff;have:b=c:=by
  rw [Bool.eq_iff_iff,hb,hc,q];refine forall_congr' fun k=>?_;rw [oW,oW,s1,s2]
 rw [this];exact f
abbrev oL (L:List PV):Option AV:=some (.pv (.lst L))
theorem yH {n:Nat} (hn:n=2∨n=3) (S:aI) {hs:List (List (List Int))} (hw:∀ xss∈hs,Rw n xss):∃ gs:List (List (List Int)),iW [.pv (.lst (hs.map cM)),.pv (.int (n:Int))] S=.ok (.pv (.lst (gs.map px))) S∧gs.length=hs.length∧∀ u∈gs,Sx n 3 u:=by
 refine ⟨hs.map fun xss=>cZ (xss.map (·++[1])),?_,by rw [List.length_map],fun u hu=>?_⟩
 ·have t1:(aK 2 (bB ["_law_k"] [] (bO (aB (aA 1) aD)) (gN 0) (mN cT (aB (mC (.int 1)) (aB (mC (.int 1)) aD))))) [some (.pv (.lst (hs.map cM))),some (.pv (.int (n:Int))),none] S=.nx [some (.pv (.lst (hs.map cM))),some (.pv (.int (n:Int))),some (.pv (.lst (pl n)))] S:=by
   have rg:=oN S (n:=n) (by omega);have ec:cE [] (gN 0) (mN cT (aB (mC (.int 1)) (aB (mC (.int 1)) aD))) (cX 0 n) [none] S=.ok (pl n) S:=by
    rcases hn with rfl | rfl
    ·show cE _ _ _ [.int 0,.int 1] _ _=_
     simp [EC,aE,aZ,aY,aS,aO,aP,aR,aQ,aF,aN,eD,eA,gN,pl,List.replicate]
    ·show cE _ _ _ [.int 0,.int 1,.int 2] _ _=_
     simp [EC,aE,aZ,aY,aS,aO,aP,aR,aQ,aF,aN,eD,eA,gN,pl,List.replicate]
   generalize (n:Int)=N,cX 0 n=IP,pl n=PL,hs.map cM=HL at *;simp [EC,bI,aO,aP,aR,aQ,aF,aN,bB,cO,bO,rg,ec]
  have ec:cE [] (gN 0) (aJ gW [] (aB (bB ["_law_corner"] [(1,"_law_one")] (bH (aA 0)) (gN 0) (aJ kN [] (aB (aA 0) (aB (aA 1) aD)))) aD)) (hs.map cM) [none,some (.pv (.lst (pl n)))] S=.ok (hs.map fun xss=>px (cZ (xss.map (·++[1])))) S:=by
   refine qY (kM _) cM (fun xss=>px (cZ (xss.map (·++[1])))) hs none fun xss hx=>?_;have w:=hw xss hx;have sp:=fun xs (hx:xs∈xss)=>Wm hn S (w.l xs hx) (w.b xs hx);have e1:cE [] (gN 0) (aJ kN [] (aB (aA 0) (aB (aA 1) aD))) (xss.map lv) [none,some (.pv (.lst (pl n)))] S=.ok (xss.map fun xs=>tv (xs++[1])) S:=by
    refine qY (kM _) lv (fun xs=>tv (xs++[1])) xss none fun xs hx=>?_;have a1:=(sp xs hx).1;generalize pl n=FL,lv xs=T3,tv (xs++[1])=T2 at *;simp [EC,aE,aZ,aY,aS,aO,aP,aR,aQ,aF,aN,a1]
   have es:=Jd (uss:=xss.map (·++[1])) (A:=.lst ((xss.map (·++[1])).map tv)) hn S (by rw [List.length_map]; exact w.len) (fun us hu=>by
    obtain ⟨xs,hx,rfl⟩:=List.mem_map.mp hu;exact (sp xs hx).2.mono (by decide)) (.inl rfl)
   rw [List.map_map] at es;have es:gW [.pv (.lst (xss.map fun xs=>tv (xs++[1])))] S=.ok (.pv (px (cZ (xss.map (·++[1]))))) S:=es;have hv:cM xss=.lst (xss.map lv):=rfl;rw [hv];generalize pl n=FL,xss.map lv=XL,(xss.map fun xs=>tv (xs++[1]))=TL,px (cZ (xss.map (·++[1])))=PX at *;simp [EC,aE,aZ,aY,aS,aO,aP,aR,aQ,aF,aN,bB,cO,bH,cN,e1,es]
  rw [List.map_map];have ec:cE [] (gN 0) (aJ gW [] (aB (bB ["_law_corner"] [(1,"_law_one")] (bH (aA 0)) (gN 0) (aJ kN [] (aB (aA 0) (aB (aA 1) aD)))) aD)) (hs.map cM) [none,some (.pv (.lst (pl n)))] S=.ok (hs.map (px ∘ fun xss=>cZ (xss.map (·++[1])))) S:=ec;have hb:yI=(aH (aK 2 (bB ["_law_k"] [] (bO (aB (aA 1) aD)) (gN 0) (mN cT (aB (mC (.int 1)) (aB (mC (.int 1)) aD))))) (bG (bB ["_law_corners"] [(2,"_law_one")] (bH (aA 0)) (gN 0) (aJ gW [] (aB (bB ["_law_corner"] [(1,"_law_one")] (bH (aA 0)) (gN 0) (aJ kN [] (aB (aA 0) (aB (aA 1) aD)))) aD))))):=rfl;unfold iW aX;rw [hb];generalize (aK 2 (bB ["_law_k"] [] (bO (aB (aA 1) aD)) (gN 0) (mN cT (aB (mC (.int 1)) (aB (mC (.int 1)) aD)))))=ST1,(aJ gW [] (aB (bB ["_law_corner"] [(1,"_law_one")] (bH (aA 0)) (gN 0) (aJ kN [] (aB (aA 0) (aB (aA 1) aD)))) aD))=ME1,(n:Int)=N,pl n=PL,hs.map cM=HL,hs.map (px ∘ fun xss=>cZ (xss.map (·++[1])))=RL at *;simp [EC,bI,aO,aP,aR,aQ,aF,aN,t1,bB,cO,bH,cN,ec]
 ·obtain ⟨xss,hx,rfl⟩:=List.mem_map.mp hu
  have w:=hw xss hx;refine uP hn (k:=3) (by decide) (by rw [List.length_map]; exact w.len) (fun us hu=>?_) w.nz;obtain ⟨xs,hx,rfl⟩:=List.mem_map.mp hu;exact (Wm hn [] (w.l xs hx) (w.b xs hx)).2
abbrev sr (g:List PV) (n:Int) (a w f:Option AV):bR:=[some (.ref 0),some (.pv (.lst g)),some (.pv (.int n)),a,w,f]
theorem Js {n:Nat} (hn:n=2∨n=3) (ns:List Int) {hs:List (List (List Int))} (sh:∀ u∈hs,Sx n 3 u) (lh:hs.length≤3):∃ (gs:List (List (List Int))) (ns':List Int),mL [.ref 0,.pv (.lst (hs.map px)),.pv (.int (n:Int))] [.lst (li ns)]=.ok (.pv (.lst (gs.map px))) [.lst (li ns')]∧(∀ u∈gs,Sx n 12 u)∧gs.length≤6:=by
 have hr:∀ k:List Int,dY [.lst (li k)] 0 k:=fun _=>rfl;obtain ⟨w,n1,e1,w0,w1,_⟩:=gH (m:=3) (hr ns) (by decide) (gM (by decide) (by decide));simp only [List.set_cons_zero] at e1;have e1:bU [.ref 0,.pv (.int 3)] [.lst (li ns)]=.ok (.pv (.int w)) [.lst (li n1)]:=e1;have t1:(aK 3 (aJ bU [] (aB (aA 0) (aB (mC (.int 3)) aD)))) (sr (hs.map px) n none none none) [.lst (li ns)]=.nx (sr (hs.map px) n (some (.pv (.int w))) none none) [.lst (li n1)]:=by
  generalize (n:Int)=N,hs.map px=HL at *;simp [EC,bI,aO,aP,aR,aQ,aF,aN,sr,e1]
 have s0:gY 6 [AV.ref 0,.pv (.lst (hs.map px)),.pv (.int (n:Int))]=sr (hs.map px) n none none none:=rfl;have hb:xX=(aH (aK 3 (aJ bU [] (aB (aA 0) (aB (mC (.int 3)) aD)))) (aH (bZ (nI (bE (aC bT (aA 3) (mC (.int 0)))) (bE (aC bT (mR cF (aB (aA 1) aD)) (mC (.int 0))))) (bG (aJ iW [] (aB (aJ iU [] (aB (aA 0) (aB (aA 2) (aB (mC (.int 3)) aD)))) (aB (aA 2) aD)))) cY) (aH (bZ (bE (aC bT (aA 3) (mC (.int 1)))) (aH (aK 4 (aJ bU [] (aB (aA 0) (aB (mR cF (aB (aA 1) aD)) aD)))) (aH (aK 5 (bB ["_law_k"] [(0,"_law_row_here")] (bO (aB (aA 2) aD)) (gN 0) (aC cR (aJ bU [] (aB (aA 1) (aB (mC (.int 3)) aD))) (mC (.int 1))))) (bG (aC aF (aC aF (dF (aA 1) dH (dE (aA 4))) (mN dR (aB (aJ jT [] (aB (aC aE (aA 1) (aA 4)) (aB (mC (.int 1)) (aB (mR fH (aB (aC aF (aA 5) (mN dR (aB (mC (.int 1)) aD))) aD)) aD)))) aD))) (dF (aA 1) (dE (aC aF (aA 4) (mC (.int 1)))) dH))))) cY) (bG (aJ nR [] (aB (aA 0) (aB (aA 1) aD))))))):=rfl;have hlen:((hs.map px).length:Int)=(hs.length:Int):=by rw [List.length_map]
 by_cases c:w=0∨hs.length=0
 ·obtain ⟨rs,n2,e2,l2,r2⟩:=wZ hn (M:=3) (by decide) n1
  rw [show ((3:Nat):Int)=3 from rfl] at e2;obtain ⟨gs,e3,l3,r3⟩:=yH hn [.lst (li n2)] r2;refine ⟨gs,n2,?_,fun u hu=>(r3 u hu).mono (by decide),by omega⟩;have t2:(bZ (nI (bE (aC bT (aA 3) (mC (.int 0)))) (bE (aC bT (mR cF (aB (aA 1) aD)) (mC (.int 0))))) (bG (aJ iW [] (aB (aJ iU [] (aB (aA 0) (aB (aA 2) (aB (mC (.int 3)) aD)))) (aB (aA 2) aD)))) cY) (sr (hs.map px) n (some (.pv (.int w))) none none) [.lst (li n1)]=.rt (.pv (.lst (gs.map px))) [.lst (li n2)]:=by
   clear t1 s0;generalize (n:Int)=N,rs.map cM=RL,gs.map px=GL at *
   by_cases cw:w=0
   ·subst cw
    generalize hs.map px=HL at *;simp [EC,bI,aO,aP,aR,aQ,aF,aN,sr,e2,e3]
   ·have c2:hs.length=0:=by omega
    have cw':(w == 0)=false:=by simpa using cw
    have c2:(hs.map px).length=0:=by rw [List.length_map]; exact c2
    generalize hs.map px=HL at *;simp [EC,bI,aO,aP,aR,aQ,aF,aN,sr,cw',c2,e2,e3]
  unfold mL aX;rw [hb,if_pos (show [AV.ref 0,.pv (.lst (hs.map px)),.pv (.int (n:Int))].length=3 from rfl),s0,aH,t1];dsimp only;rw [aH,t2];rfl
 have cw:(w == 0)=false:=by simpa using fun h=>c (.inl h)
 have c2:(((hs.map px).length:Int) == 0)=false:=by
  rw [hlen];simpa using fun h=>c (.inr h)
 have t2:(bZ (nI (bE (aC bT (aA 3) (mC (.int 0)))) (bE (aC bT (mR cF (aB (aA 1) aD)) (mC (.int 0))))) (bG (aJ iW [] (aB (aJ iU [] (aB (aA 0) (aB (aA 2) (aB (mC (.int 3)) aD)))) (aB (aA 2) aD)))) cY) (sr (hs.map px) n (some (.pv (.int w))) none none) [.lst (li n1)]=.nx (sr (hs.map px) n (some (.pv (.int w))) none none) [.lst (li n1)]:=by
  clear t1 s0;generalize (n:Int)=N,hs.map px=HL at *;simp [EC,bI,aO,aP,aR,aQ,aF,aN,sr,cw,c2]
 by_cases d:w=1
 ·subst d
  obtain ⟨a,n2,e2,a0,a1,_⟩:=gH (m:=((hs.map px).length:Int)) (hr n1) (by rw [List.length_map]; omega) (gM (by omega) (by rw [List.length_map]; omega));simp only [List.set_cons_zero] at e2;have e2:bU [.ref 0,.pv (.int ((hs.map px).length:Int))] [.lst (li n1)]=.ok (.pv (.int a)) [.lst (li n2)]:=e2;obtain ⟨an,rfl⟩:∃ an:Nat,a=an:=⟨a.toNat,by omega⟩;rw [List.length_map] at a1;have al:an < hs.length:=by omega
  have al':an < (hs.map px).length:=by rw [List.length_map]; exact al
  obtain ⟨xs,n3,e3,lx,bx⟩:=Jj (k:=0) (cX 0 n) [.lst (li n2)] n2 none (hr n2);simp only [List.set_cons_zero] at e3;have lx:xs.length=n:=by rw [lx]; unfold cX; simp
  have Gf:Gu n 3 (xs++[1]):=⟨xs,1,rfl,lx,by decide,Nb xs,fun x h=>by
   have:=bx x h;unfold Bd;have:(2:Nat) ^ 3=8:=rfl;omega,by unfold Bd; decide⟩
  have sa:=sh _ (List.getElem_mem al);have e4:=Qx hn [.lst (li n3)] (way:=1) (.inl rfl) sa Gf (by decide);have S1':=N9 hn (way:=1) (.inl rfl) sa Gf (by decide);have c1:=Z6 (hs.map px) (a:=an) (by omega);have c3:=Z8 (hs.map px) al';rw [← List.map_take] at c1;rw [← List.map_drop] at c3;have ix:aE (.lst (hs.map px)) (.int (an:Int))=some (px hs[an]):=dS (by rw [List.getElem?_map,List.getElem?_eq_getElem al]; rfl);have l1:((hs.take an).map px).length+1≤16777216:=by simp; omega
  have l2:((hs.take an).map px).length+1+((hs.drop (an+1)).map px).length≤16777216:=by simp; omega
  refine ⟨hs.take an++[nH 1 (xs++[1]) hs[an]]++hs.drop (an+1),n3,?_,fun u hu=>?_,by simp; omega⟩
  ·have rg:=oN [.lst (li n2)] (n:=n) (by omega)
   have t3:(aK 4 (aJ bU [] (aB (aA 0) (aB (mR cF (aB (aA 1) aD)) aD)))) (sr (hs.map px) n (some (.pv (.int 1))) none none) [.lst (li n1)]=.nx (sr (hs.map px) n (some (.pv (.int 1))) (some (.pv (.int (an:Int)))) none) [.lst (li n2)]:=by
    clear t1 t2 s0 e4 sa S1' ix c1 c3;generalize (n:Int)=N,hs.map px=HL at *;simp [EC,bI,aO,aP,aR,aQ,aF,aN,sr,e2]
   have t4:(aK 5 (bB ["_law_k"] [(0,"_law_row_here")] (bO (aB (aA 2) aD)) (gN 0) (aC cR (aJ bU [] (aB (aA 1) (aB (mC (.int 3)) aD))) (mC (.int 1))))) (sr (hs.map px) n (some (.pv (.int 1))) (some (.pv (.int (an:Int)))) none) [.lst (li n2)]=.nx (sr (hs.map px) n (some (.pv (.int 1))) (some (.pv (.int (an:Int)))) (some (.pv (.lst (xs.map .int))))) [.lst (li n3)]:=by
    clear t1 t2 t3 s0 e4 sa S1' ix c1 c3;have e3:cE [] (gN 0) qJ (cX 0 n) [none,some (.ref 0)] [.lst (li n2)]=.ok (xs.map .int) [.lst (li n3)]:=e3;have hf:(aC cR (aJ bU [] (aB (aA 1) (aB (mC (.int 3)) aD))) (mC (.int 1)))=qJ:=rfl;rw [hf];generalize (n:Int)=N,cX 0 n=IP,xs.map PV.int=XL,hs.map px=HL,qJ=FB at *;simp [EC,bI,aO,aP,aR,aQ,aF,aN,sr,bB,cO,bO,rg,e3]
   have t5:(bG (aC aF (aC aF (dF (aA 1) dH (dE (aA 4))) (mN dR (aB (aJ jT [] (aB (aC aE (aA 1) (aA 4)) (aB (mC (.int 1)) (aB (mR fH (aB (aC aF (aA 5) (mN dR (aB (mC (.int 1)) aD))) aD)) aD)))) aD))) (dF (aA 1) (dE (aC aF (aA 4) (mC (.int 1)))) dH))) (sr (hs.map px) n (some (.pv (.int 1))) (some (.pv (.int (an:Int)))) (some (.pv (.lst (xs.map .int))))) [.lst (li n3)]=.rt (.pv (.lst ((hs.take an).map px++[px (nH 1 (xs++[1]) hs[an])]++(hs.drop (an+1)).map px))) [.lst (li n3)]:=by
    have tu:tv (xs++[1])=.tup (xs.map .int++[.int 1]):=by show PV.tup ((xs++[1]).map .int)=_; simp
    rw [tu] at e4;have lz:(xs.map PV.int).length+1≤16777216:=by rw [List.length_map]; omega
    clear t1 t2 t3 t4 s0 sa S1' e3;generalize (n:Int)=N,xs.map PV.int=XL,hs.map px=HL,(hs.drop (an+1)).map px=G2,(hs.take an).map px=G1,px hs[an]=PH,px (nH 1 (xs++[1]) hs[an])=PX at *;have q:(G1++[PX]).length+G2.length≤16777216:=by rw [List.length_append]; exact l2
    simp [EC,bI,aO,aP,aR,aQ,aF,aN,sr,dF,dH,dE,iG,c1,c3,l1,ix,e4,lz] at q ⊢;simp [q,gO,bX.of]
   rw [List.map_append,List.map_append];unfold mL aX;rw [hb,if_pos (show [AV.ref 0,.pv (.lst (hs.map px)),.pv (.int (n:Int))].length=3 from rfl),s0,aH,t1];dsimp only;rw [aH,t2];dsimp only;have hw:(bZ (bE (aC bT (aA 3) (mC (.int 1)))) (aH (aK 4 (aJ bU [] (aB (aA 0) (aB (mR cF (aB (aA 1) aD)) aD)))) (aH (aK 5 (bB ["_law_k"] [(0,"_law_row_here")] (bO (aB (aA 2) aD)) (gN 0) (aC cR (aJ bU [] (aB (aA 1) (aB (mC (.int 3)) aD))) (mC (.int 1))))) (bG (aC aF (aC aF (dF (aA 1) dH (dE (aA 4))) (mN dR (aB (aJ jT [] (aB (aC aE (aA 1) (aA 4)) (aB (mC (.int 1)) (aB (mR fH (aB (aC aF (aA 5) (mN dR (aB (mC (.int 1)) aD))) aD)) aD)))) aD))) (dF (aA 1) (dE (aC aF (aA 4) (mC (.int 1)))) dH))))) cY)=(bZ (bE (aC bT (aA 3) (mC (.int 1)))) (aH (aK 4 (aJ bU [] (aB (aA 0) (aB (mR cF (aB (aA 1) aD)) aD)))) (aH (aK 5 (bB ["_law_k"] [(0,"_law_row_here")] (bO (aB (aA 2) aD)) (gN 0) (aC cR (aJ bU [] (aB (aA 1) (aB (mC (.int 3)) aD))) (mC (.int 1))))) (bG (aC aF (aC aF (dF (aA 1) dH (dE (aA 4))) (mN dR (aB (aJ jT [] (aB (aC aE (aA 1) (aA 4)) (aB (mC (.int 1)) (aB (mR fH (aB (aC aF (aA 5) (mN dR (aB (mC (.int 1)) aD))) aD)) aD)))) aD))) (dF (aA 1) (dE (aC aF (aA 4) (mC (.int 1)))) dH))))) cY):=rfl;have t6:(bZ (bE (aC bT (aA 3) (mC (.int 1)))) (aH (aK 4 (aJ bU [] (aB (aA 0) (aB (mR cF (aB (aA 1) aD)) aD)))) (aH (aK 5 (bB ["_law_k"] [(0,"_law_row_here")] (bO (aB (aA 2) aD)) (gN 0) (aC cR (aJ bU [] (aB (aA 1) (aB (mC (.int 3)) aD))) (mC (.int 1))))) (bG (aC aF (aC aF (dF (aA 1) dH (dE (aA 4))) (mN dR (aB (aJ jT [] (aB (aC aE (aA 1) (aA 4)) (aB (mC (.int 1)) (aB (mR fH (aB (aC aF (aA 5) (mN dR (aB (mC (.int 1)) aD))) aD)) aD)))) aD))) (dF (aA 1) (dE (aC aF (aA 4) (mC (.int 1)))) dH))))) cY) (sr (hs.map px) n (some (.pv (.int 1))) none none) [.lst (li n1)]=.rt (.pv (.lst ((hs.take an).map px++[px (nH 1 (xs++[1]) hs[an])]++(hs.drop (an+1)).map px))) [.lst (li n3)]:=by
    rw [hw];generalize (bG (aC aF (aC aF (dF (aA 1) dH (dE (aA 4))) (mN dR (aB (aJ jT [] (aB (aC aE (aA 1) (aA 4)) (aB (mC (.int 1)) (aB (mR fH (aB (aC aF (aA 5) (mN dR (aB (mC (.int 1)) aD))) aD)) aD)))) aD))) (dF (aA 1) (dE (aC aF (aA 4) (mC (.int 1)))) dH)))=Q2,(aK 5 (bB ["_law_k"] [(0,"_law_row_here")] (bO (aB (aA 2) aD)) (gN 0) (aC cR (aJ bU [] (aB (aA 1) (aB (mC (.int 3)) aD))) (mC (.int 1)))))=Q1,(aK 4 (aJ bU [] (aB (aA 0) (aB (mR cF (aB (aA 1) aD)) aD))))=Q0 at *;have:(bE (aC bT (aA 3) (mC (.int 1)))) (sr (hs.map px) n (some (.pv (.int 1))) none none) [.lst (li n1)]=.ok true [.lst (li n1)]:=by simp [EC,bI,aO,aP,aR,aQ,aF,aN,sr]
    rw [bZ,this];simp only [bX.of,if_true,aH,t3,t4,t5]
   rw [aH,t6];rfl
  ·rcases List.mem_append.mp hu with z | z
   ·rcases List.mem_append.mp z with z | z
    ·exact (sh u (List.mem_of_mem_take z)).mono (by decide)
    ·have:u=nH 1 (xs++[1]) hs[an]:=by simpa using z
     rw [this];exact S1'.mono (by decide)
   ·exact (sh u (List.mem_of_mem_drop z)).mono (by decide)
 ·have dw:(w == 1)=false:=by simpa using d
  obtain ⟨gs,n2,e2,h2,s2,l2,p2⟩:=Es hn (k:=3) (by decide) n1 sh (by omega);have e2:nR [.ref 0,.pv (.lst (hs.map px))] [.lst (li n1)]=.ok (.ref 1) [.lst (li n2),.lst (gs.map px)]:=e2;refine ⟨gs,n2,?_,s2,by omega⟩;have t3:(bZ (bE (aC bT (aA 3) (mC (.int 1)))) (aH (aK 4 (aJ bU [] (aB (aA 0) (aB (mR cF (aB (aA 1) aD)) aD)))) (aH (aK 5 (bB ["_law_k"] [(0,"_law_row_here")] (bO (aB (aA 2) aD)) (gN 0) (aC cR (aJ bU [] (aB (aA 1) (aB (mC (.int 3)) aD))) (mC (.int 1))))) (bG (aC aF (aC aF (dF (aA 1) dH (dE (aA 4))) (mN dR (aB (aJ jT [] (aB (aC aE (aA 1) (aA 4)) (aB (mC (.int 1)) (aB (mR fH (aB (aC aF (aA 5) (mN dR (aB (mC (.int 1)) aD))) aD)) aD)))) aD))) (dF (aA 1) (dE (aC aF (aA 4) (mC (.int 1)))) dH))))) cY) (sr (hs.map px) n (some (.pv (.int w))) none none) [.lst (li n1)]=.nx (sr (hs.map px) n (some (.pv (.int w))) none none) [.lst (li n1)]:=by
   clear t1 t2 s0;generalize (n:Int)=N,hs.map px=HL at *;simp [EC,bI,aO,aP,aR,aQ,aF,aN,sr,dw]
  have t4:(bG (aJ nR [] (aB (aA 0) (aB (aA 1) aD)))) (sr (hs.map px) n (some (.pv (.int w))) none none) [.lst (li n1)]=.rt (.pv (.lst (gs.map px))) [.lst (li n2)]:=by
   clear t1 t2 t3 s0;generalize (n:Int)=N,gs.map px=GL,hs.map px=HL at *;simp [EC,bI,aO,aP,aR,aQ,aF,aN,sr,e2]
  unfold mL aX;rw [hb,if_pos (show [AV.ref 0,.pv (.lst (hs.map px)),.pv (.int (n:Int))].length=3 from rfl),s0,aH,t1];dsimp only;rw [aH,t2];dsimp only;rw [aH,t3];dsimp only;rw [t4];rfl
abbrev rh (x0:Option AV) (N:Int) (a b c d:Option AV):bR:=[x0,some (.ref 0),some (.pv (.int N)),a,b,c,d]
def uY:MS:=(aH (aK 3 (aJ iW [] (aB (aJ iU [] (aB (aA 1) (aB (aA 2) (aB (mC (.int 3)) aD)))) (aB (aA 2) aD)))) (aH (aK 4 (aJ mL [] (aB (aA 1) (aB (aA 3) (aB (aA 2) aD))))) (aH (bZ (bE (aC bT (aJ bU [] (aB (aA 1) (aB (mC (.int 2)) aD))) (mC (.int 1)))) (aH (aK 5 (aJ iW [] (aB (aJ iU [] (aB (aA 1) (aB (aA 2) (aB (mC (.int 1)) aD)))) (aB (aA 2) aD)))) (aH (aK 3 (aC aF (aA 3) (aA 5))) (aK 4 (aC aF (aA 5) (aA 4))))) cY) (aH (aK 6 (lP nZ (aB (aJ jE [] (aB (aA 1) (aB (aA 3) aD))) (aB (aJ jE [] (aB (aA 1) (aB (aA 4) aD))) aD)))) (bG (rW (cD (kD "bool") (aA 6)) (aC bT (aA 6) (lP pM (aB (aA 3) (aB (aA 4) aD))))))))))
theorem U8 {n:Nat} (hn:n=2∨n=3) (ns:List Int) (x0:Option AV):∃ S',uY (rh x0 n none none none none) [.lst (li ns)]=.rt (.pv (.bl true)) S':=by
 have hr:∀ k:List Int,dY [.lst (li k)] 0 k:=fun _=>rfl;obtain ⟨rs,n1,e1,l1,r1⟩:=wZ hn (M:=3) (by decide) ns;rw [show ((3:Nat):Int)=3 from rfl] at e1;obtain ⟨hs,e2,l2,r2⟩:=yH hn [.lst (li n1)] r1;have t1:(aK 3 (aJ iW [] (aB (aJ iU [] (aB (aA 1) (aB (aA 2) (aB (mC (.int 3)) aD)))) (aB (aA 2) aD)))) (rh x0 n none none none none) [.lst (li ns)]=.nx (rh x0 n (oL (hs.map px)) none none none) [.lst (li n1)]:=by
  generalize (n:Int)=N,rs.map cM=RL,hs.map px=HL at *;simp [EC,bI,aO,aP,aR,aQ,aF,aN,rh,oL,e1,e2]
 obtain ⟨gs,n2,e3,s3,l3⟩:=Js hn n1 r2 (by omega);have t2:(aK 4 (aJ mL [] (aB (aA 1) (aB (aA 3) (aB (aA 2) aD))))) (rh x0 n (oL (hs.map px)) none none none) [.lst (li n1)]=.nx (rh x0 n (oL (hs.map px)) (oL (gs.map px)) none none) [.lst (li n2)]:=by
  clear t1 e2;generalize (n:Int)=N,gs.map px=GL,hs.map px=HL at *;simp [EC,bI,aO,aP,aR,aQ,aF,aN,rh,oL,e3]
 obtain ⟨hs2,gs2,n3,x5,t3,h5,g5,lh,lg⟩:∃ (hs2 gs2:List (List (List Int))) (n3:List Int) (x5:Option AV),(bZ (bE (aC bT (aJ bU [] (aB (aA 1) (aB (mC (.int 2)) aD))) (mC (.int 1)))) (aH (aK 5 (aJ iW [] (aB (aJ iU [] (aB (aA 1) (aB (aA 2) (aB (mC (.int 1)) aD)))) (aB (aA 2) aD)))) (aH (aK 3 (aC aF (aA 3) (aA 5))) (aK 4 (aC aF (aA 5) (aA 4))))) cY) (rh x0 n (oL (hs.map px)) (oL (gs.map px)) none none) [.lst (li n2)]=.nx (rh x0 n (oL (hs2.map px)) (oL (gs2.map px)) x5 none) [.lst (li n3)]∧(∀ u∈hs2,Sx n 12 u)∧(∀ u∈gs2,Sx n 12 u)∧hs2.length≤99∧gs2.length≤99:=by
  obtain ⟨t,n3,e4,t0,t1',_⟩:=gH (m:=2) (hr n2) (by decide) (gM (by decide) (by decide));simp only [List.set_cons_zero] at e4;have e4:bU [.ref 0,.pv (.int 2)] [.lst (li n2)]=.ok (.pv (.int t)) [.lst (li n3)]:=e4
  by_cases c:t=1
  ·subst c
   obtain ⟨ms,n4,e5,l5,r5⟩:=wZ hn (M:=1) (by decide) n3;rw [show ((1:Nat):Int)=1 from rfl] at e5;obtain ⟨ps,e6,l6,r6⟩:=yH hn [.lst (li n4)] r5;refine ⟨hs++ps,ps++gs,n4,oL (ps.map px),?_,fun u hu=>?_,fun u hu=>?_,by simp; omega,by simp; omega⟩
   ·have q1:(hs.map px).length+(ps.map px).length≤16777216:=by simp; omega
    have q2:(ps.map px).length+(gs.map px).length≤16777216:=by simp; omega
    rw [List.map_append,List.map_append];clear t1 t2 e2 e3;generalize (n:Int)=N,ms.map cM=ML,ps.map px=PL,gs.map px=GL,hs.map px=HL at *;simp [EC,bI,aO,aP,aR,aQ,aF,aN,rh,oL,e4,e5,e6,q1,q2]
   ·rcases List.mem_append.mp hu with z | z
    ·exact (r2 u z).mono (by decide)
    ·exact (r6 u z).mono (by decide)
   ·rcases List.mem_append.mp hu with z | z
    ·exact (r6 u z).mono (by decide)
    ·exact s3 u z
  ·refine ⟨hs,gs,n3,none,?_,fun u hu=>(r2 u hu).mono (by decide),s3,by omega,by omega⟩
   have cb:(t == 1)=false:=by simpa using c
   clear t1 t2 e2 e3;generalize (n:Int)=N,gs.map px=GL,hs.map px=HL at *;simp [EC,bI,aO,aP,aR,aQ,aF,aN,rh,oL,e4,cb]
 obtain ⟨A,n4,e7,hA⟩:=Fi (L:=hs2.map px) (hr n3);obtain ⟨B,n5,e8,hB⟩:=Fi (L:=gs2.map px) (hr n4);simp only [List.set_cons_zero] at e7 e8;have e7:jE [.ref 0,.pv (.lst (hs2.map px))] [.lst (li n3)]=.ok (.pv A) [.lst (li n4)]:=e7;have e8:jE [.ref 0,.pv (.lst (gs2.map px))] [.lst (li n4)]=.ok (.pv B) [.lst (li n5)]:=e8;obtain ⟨b,f1,f2⟩:=Tr hn (k:=12) (by decide) hA hB h5 g5 (by omega) (by omega);have t4:(aK 6 (lP nZ (aB (aJ jE [] (aB (aA 1) (aB (aA 3) aD))) (aB (aJ jE [] (aB (aA 1) (aB (aA 4) aD))) aD)))) (rh x0 n (oL (hs2.map px)) (oL (gs2.map px)) x5 none) [.lst (li n3)]=.nx (rh x0 n (oL (hs2.map px)) (oL (gs2.map px)) x5 (some (.pv (.bl b)))) [.lst (li n5)]:=by
  clear t1 t2 t3 e2 e3 h5 g5 hA hB;generalize (n:Int)=N,gs2.map px=GL,hs2.map px=HL at *;simp [EC,bI,aO,aP,aR,aQ,aF,aN,rh,oL,lP,nJ,e7,e8,f1]
 refine ⟨[.lst (li n5)],?_⟩;unfold uY;rw [aH,t1];dsimp only;rw [aH,t2];dsimp only;rw [aH,t3];dsimp only;rw [aH,t4];dsimp only;clear t1 t2 t3 t4 e2 e3 h5 g5 hA hB e7 e8;generalize (n:Int)=N,gs2.map px=GL,hs2.map px=HL at *;simp [EC,aE,aZ,aY,aS,aO,aP,aR,aQ,aF,aN,rh,oL,lP,nJ,kD,f2]
theorem Su (ns:List Int) (h:ns.length≤63):∃ S,Kb [.pv (.lst (ns.map .int))] []=.ok (.pv (.bl true)) S:=by
 obtain ⟨ms,e0,_⟩:=N5 ns [] h;have e0:pP [.pv (.lst (ns.map .int))] []=.ok (.ref 0) [.lst (li ms)]:=e0;obtain ⟨d,n1,e1,d0,d1,_⟩:=gH (m:=2) (show dY [.lst (li ms)] 0 ms from rfl) (by decide) (gM (by decide) (by decide));have e1:bU [.ref 0,.pv (.int 2)] [.lst (li ms)]=.ok (.pv (.int d)) [.lst (li n1)]:=e1;obtain ⟨n,en,hn⟩:∃ n:Nat,2+d=(n:Int)∧(n=2∨n=3):=⟨(2+d).toNat,by omega,by omega⟩;have a2:aF (.int 2) (.int d)=some (.int n):=by rw [aF,en]
 obtain ⟨S',ew⟩:=U8 hn n1 (some (.pv (.lst (ns.map .int))));have hb:Ua=(aH (aK 1 (pO pP [] (aB (aA 0) aD))) (aH (aK 2 (aC aF (mC (.int 2)) (aJ bU [] (aB (aA 1) (aB (mC (.int 2)) aD))))) uY)):=rfl;refine ⟨[],?_⟩;generalize (n:Int)=N,ns.map PV.int=NL at *;unfold Kb aX;rw [hb];generalize uY=WB at *;simp [EC,bI,aO,aP,aR,aQ,aN,e0,e1,a2,ew]
theorem hF_k {K:PySem.W.Frag} {x:Str} {st:Stmt} {f:Addr} {oc:Value} {od an:Option Addr} {osl:Array (Option Value)} {kV doc pm cdv ct:Value} (a:PySem.W.nsIn K mainGlobals x=some (some (.ref f)):=by k_is) (l:K.lookup f=some ⟨oc,od,.func (PySem.W.fnOf x x (jF st) (gB st) (eB st) .none kV doc pm an cdv ct),osl⟩:=by k_is) (c:PySem.W.codeIn K cdv x=true:=by k_is) (k:PySem.W.keepIn K (.ref f)=true:=by k_is):HF K x st:=Q3 a l c k
theorem all_mk {l:PySem.W.OpenLaw} {w:World} {K:PySem.W.Frag} {h:Heap} {mg:Str→Option Value} {fa:Addr} (X:K.In h) (G:h.Ns mainGlobals mg) (hfa:mg "law"=some (.ref fa))
  (h18:HF K "_law_row" Yl)
  (h19:HF K "_law_take" Bk)
  (h26:HF K "_law_dot" Ql)
  (h25:HF K "_law_cross" Oh)
  (h27:HF K "_law_turn" Uj)
  (h24:HF K "_law_gap" El)
  (h28:HF K "_law_det" Yk)
  (h29:HF K "_law_simplex" Je)
  (h20:HF K "_law_gcd" Ol)
  (h21:HF K "_law_lowest" Lf)
  (h42:HF K "_law_spot" Hj)
  (h46:HF K "_law_plain" Ni)
  (h39:HF K "_law_raw_turn" Pd)
  (h38:HF K "_law_raw" Ll)
  (h40:HF K "_law_kuhn" Fj)
  (h41:HF K "_law_raw_heap" Qd)
  (h23:HF K "_law_joined" Ue)
  (h37:HF K "_law_gone" Oi)
  (h44:HF K "_law_split" Uh)
  (h45:HF K "_law_parted" Vf)
  (h47:HF K "_law_second" We)
  (h11:HF K "walls" Oj)
  (h2:HF K "divisor" Dg)
  (h3:HF K "reduced" Jg)
  (h1:HF K "sign" Om)
  (h4:HF K "lowest_way" Yc)
  (h7:HF K "normal" Ai)
  (h6:HF K "whole_arrow" Tc)
  (h13:HF K "plane_way" Ld)
  (h14:HF K "sides" Pj)
  (h15:HF K "put_wall" Ae)
  (h16:HF K "same" Cm)
  (h43:HF K "_law_handed" Uf)
  (h22:HF K "_law_upward" Ze)
  (h30:HF K "_law_flat_line" Dd)
  (h34:HF K "_law_put" Jl)
  (h31:HF K "_law_space_line" Xc)
  (h33:HF K "_law_shuts" Rh)
  (h32:HF K "_law_plane" Mi)
  (h35:HF K "_law_mark" Yi)
  (h36:HF K "_law_same" Ui)
  {f48:Addr} {od48 an48:Option Addr} {sl48:Array (Option Value)} {oc48 kV48 dc48 pm48 cd48 ct48:Value}
  (a48:PySem.W.nsIn K mainGlobals "law"=some (some (.ref f48))) (l48:K.lookup f48=some ⟨oc48,od48,.func (PySem.W.fnOf "law" "law" (jF nA) (gB nA) (eB nA) .none kV48 dc48 pm48 an48 cd48 ct48),sl48⟩) (c48:PySem.W.codeIn K cd48 "law"=true) (sO:PySem.W.keepIn K (.ref f48)=true)
  (z1:PySem.W.nsIn K mainGlobals "abs"=some none)
  (z2:PySem.W.nsIn K mainGlobals "all"=some none)
  (z3:PySem.W.nsIn K mainGlobals "any"=some none)
  (z4:PySem.W.nsIn K mainGlobals "bool"=some none)
  (z5:PySem.W.nsIn K mainGlobals "enumerate"=some none)
  (z6:PySem.W.nsIn K mainGlobals "int"=some none)
  (z7:PySem.W.nsIn K mainGlobals "isinstance"=some none)
  (z8:PySem.W.nsIn K mainGlobals "len"=some none)
  (z9:PySem.W.nsIn K mainGlobals "list"=some none)
  (z10:PySem.W.nsIn K mainGlobals "range"=some none)
  (z11:PySem.W.nsIn K mainGlobals "sorted"=some none)
  (z12:PySem.W.nsIn K mainGlobals "sum"=some none)
  (z13:PySem.W.nsIn K mainGlobals "tuple"=some none)
  (z14:PySem.W.nsIn K mainGlobals "zip"=some none)
  {gk1:Tok}
  {gk2:Tok}
  {GA2:Addr} {gd2:Option Addr} {gn2:Nat} {gs2:Array (Option Value)}
  {gk3:Tok}
  {gk4:Tok}
  {GA3:Addr} {gd3:Option Addr} {gn3:Nat} {gs3:Array (Option Value)}
  {gk5:Tok}
  {gk6:Tok}
  {GA4:Addr} {gd4:Option Addr} {gn4:Nat} {gs4:Array (Option Value)}
  {GA1:Addr} {gd1:Option Addr} {gn1:Nat} {gs1:Array (Option Value)}
  {gk7:Tok}
  {gk8:Tok}
  {gk9:Tok}
  {GA6:Addr} {gd6:Option Addr} {gn6:Nat} {gs6:Array (Option Value)}
  {gk10:Tok}
  {gk11:Tok}
  {gk12:Tok}
  {GA7:Addr} {gd7:Option Addr} {gn7:Nat} {gs7:Array (Option Value)}
  {gk13:Tok}
  {gk14:Tok}
  {gk15:Tok}
  {GA8:Addr} {gd8:Option Addr} {gn8:Nat} {gs8:Array (Option Value)}
  {gk16:Tok}
  {gk17:Tok}
  {gk18:Tok}
  {GA9:Addr} {gd9:Option Addr} {gn9:Nat} {gs9:Array (Option Value)}
  {GA5:Addr} {gd5:Option Addr} {gn5:Nat} {gs5:Array (Option Value)}
  (v1:PySem.W.nsIn K mainGlobals "FLAT_WALLS"=some (some (.ref GA1)))
  (v2:PySem.W.nsIn K mainGlobals "SPACE_WALLS"=some (some (.ref GA5)))
  (vl1:K.lookup GA1=some ⟨.type "tuple",gd1,.seq #[.ref GA2,.ref GA3,.ref GA4] gn1,gs1⟩)
  (vl2:K.lookup GA2=some ⟨.type "tuple",gd2,.seq #[.int 0 gk1,.int 1 gk2] gn2,gs2⟩)
  (vl3:K.lookup GA3=some ⟨.type "tuple",gd3,.seq #[.int 1 gk3,.int 2 gk4] gn3,gs3⟩)
  (vl4:K.lookup GA4=some ⟨.type "tuple",gd4,.seq #[.int 2 gk5,.int 0 gk6] gn4,gs4⟩)
  (vl5:K.lookup GA5=some ⟨.type "tuple",gd5,.seq #[.ref GA6,.ref GA7,.ref GA8,.ref GA9] gn5,gs5⟩)
  (vl6:K.lookup GA6=some ⟨.type "tuple",gd6,.seq #[.int 1 gk7,.int 2 gk8,.int 3 gk9] gn6,gs6⟩)
  (vl7:K.lookup GA7=some ⟨.type "tuple",gd7,.seq #[.int 0 gk10,.int 3 gk11,.int 2 gk12] gn7,gs7⟩)
  (vl8:K.lookup GA8=some ⟨.type "tuple",gd8,.seq #[.int 0 gk13,.int 1 gk14,.int 3 gk15] gn8,gs8⟩)
  (vl9:K.lookup GA9=some ⟨.type "tuple",gd9,.seq #[.int 0 gk16,.int 2 gk17,.int 1 gk18] gn9,gs9⟩)
  : ∃ fd:FuncData,(∀ (s:Shared) (v:Value),BindsTo s fd ⟨[v],[]⟩ [("_law_script",v)])∧∀ base:Heap,K.In base→base.Ns mainGlobals mg→fR l.prog w K mg base fB 8 fa fd ["_law_script"] (uT K):=by
 let cl:Str→Addr:=fun n=> 0
 have e:=hfa.symm.trans (PySem.W.mg_of X G a48);cases e;have F48:=Rm (st:=nA) l48 c48 sO;have m:Mg mg:=⟨PySem.W.mg_none_of X G z1,PySem.W.mg_none_of X G z2,PySem.W.mg_none_of X G z3,PySem.W.mg_none_of X G z4,PySem.W.mg_none_of X G z5,PySem.W.mg_none_of X G z6,PySem.W.mg_none_of X G z7,PySem.W.mg_none_of X G z8,PySem.W.mg_none_of X G z9,PySem.W.mg_none_of X G z10,PySem.W.mg_none_of X G z11,PySem.W.mg_none_of X G z12,PySem.W.mg_none_of X G z13,PySem.W.mg_none_of X G z14⟩;have gt_FLAT_WALLS:sN K mg "FLAT_WALLS" (.tup [.tup [.int 0,.int 1],.tup [.int 1,.int 2],.tup [.int 2,.int 0]]):=⟨_,.ref GA1,PySem.W.mg_of X G v1,rfl,(lE (vs:=[.ref GA2,.ref GA3,.ref GA4]) vl1 (by show 3≤PySem.sizeLine; decide) (.cons rfl (.cons rfl (.cons rfl .nil))) (by show 3≤PySem.sizeLine; decide) (eQ (lE (vs:=[.int 0,.int 1]) vl2 (by show 2≤PySem.sizeLine; decide) (.cons ⟨_,rfl⟩ (.cons ⟨_,rfl⟩ .nil)) (by show 2≤PySem.sizeLine; decide) (eQ fZ (eQ fZ lG))) (eQ (lE (vs:=[.int 1,.int 2]) vl3 (by show 2≤PySem.sizeLine; decide) (.cons ⟨_,rfl⟩ (.cons ⟨_,rfl⟩ .nil)) (by show 2≤PySem.sizeLine; decide) (eQ fZ (eQ fZ lG))) (eQ (lE (vs:=[.int 2,.int 0]) vl4 (by show 2≤PySem.sizeLine; decide) (.cons ⟨_,rfl⟩ (.cons ⟨_,rfl⟩ .nil)) (by show 2≤PySem.sizeLine; decide) (eQ fZ (eQ fZ lG))) lG))))⟩;have gt_SPACE_WALLS:sN K mg "SPACE_WALLS" (.tup [.tup [.int 1,.int 2,.int 3],.tup [.int 0,.int 3,.int 2],.tup [.int 0,.int 1,.int 3],.tup [.int 0,.int 2,.int 1]]):=⟨_,.ref GA5,PySem.W.mg_of X G v2,rfl,(lE (vs:=[.ref GA6,.ref GA7,.ref GA8,.ref GA9]) vl5 (by show 4≤PySem.sizeLine; decide) (.cons rfl (.cons rfl (.cons rfl (.cons rfl .nil)))) (by show 4≤PySem.sizeLine; decide) (eQ (lE (vs:=[.int 1,.int 2,.int 3]) vl6 (by show 3≤PySem.sizeLine; decide) (.cons ⟨_,rfl⟩ (.cons ⟨_,rfl⟩ (.cons ⟨_,rfl⟩ .nil))) (by show 3≤PySem.sizeLine; decide) (eQ fZ (eQ fZ (eQ fZ lG)))) (eQ (lE (vs:=[.int 0,.int 3,.int 2]) vl7 (by show 3≤PySem.sizeLine; decide) (.cons ⟨_,rfl⟩ (.cons ⟨_,rfl⟩ (.cons ⟨_,rfl⟩ .nil))) (by show 3≤PySem.sizeLine; decide) (eQ fZ (eQ fZ (eQ fZ lG)))) (eQ (lE (vs:=[.int 0,.int 1,.int 3]) vl8 (by show 3≤PySem.sizeLine; decide) (.cons ⟨_,rfl⟩ (.cons ⟨_,rfl⟩ (.cons ⟨_,rfl⟩ .nil))) (by show 3≤PySem.sizeLine; decide) (eQ fZ (eQ fZ (eQ fZ lG)))) (eQ (lE (vs:=[.int 0,.int 2,.int 1]) vl9 (by show 3≤PySem.sizeLine; decide) (.cons ⟨_,rfl⟩ (.cons ⟨_,rfl⟩ (.cons ⟨_,rfl⟩ .nil))) (by show 3≤PySem.sizeLine; decide) (eQ fZ (eQ fZ (eQ fZ lG)))) lG)))))⟩;refine ⟨PySem.W.fnOf "law" "law" (jF nA) (gB nA) (eB nA) .none kV48 dc48 pm48 an48 cd48 ct48,fun s v=>.of_eq rfl,fun base _ _=>?_⟩
 let B:Bx:=⟨l.prog,w,K,mg,base,cl⟩
 have Xg:XG B.K B.mg:=⟨h,X,G⟩;have m:Mg B.mg:=m;have C18:=Sz Xg m h18 ;have C19:=Bw Xg m h19 ;have C26:=Gx Xg m h26 ;have C25:=Xr Xg m h25 ;have C27:=Uv Xg m h27 C26 C25;have C24:=Lx Xg m h24 ;have C28:=Zw Xg m h28 C27 C24;have C29:=Op Xg m h29 C28;have C20:=Ix Xg m h20 ;have C21:=Er Xg m h21 C20;have C42:=Mu Xg m h42 C21;have C46:=At Xg m h46 C29 C42;have C39:=Lp Xg m h39 C27;have C38:=Mx Xg m h38 C19 C39;have C40:=Ht Xg m h40 C19;have C41:=Jp Xg m h41 C19 C38 C40;have C23:=Qq Xg m h23 C21;have C37:=Ft Xg m h37 C29 C23;have C44:=Ir Xg m h44 C19 C21 C29;have C45:=Nq Xg m h45 C19 C44;have C47:=Gq Xg m h47 C19 C46 C41 C37 C45;have C11:=Nv Xg m h11 gt_FLAT_WALLS gt_SPACE_WALLS;have C2:=Cq Xg m h2 ;have C3:=Br Xg m h3 C2;have C1:=Vy Xg m h1 ;have C4:=Cp Xg m h4 C3 C1;have C7:=Ds Xg m h7 ;have C6:=Vo Xg m h6 ;have C13:=Mp Xg m h13 C4 C7 C6;have C14:=Cw Xg m h14 ;have C15:=Rp Xg m h15 C13 C14 C4 C6;have C16:=A8 Xg m h16 C11 C15;have C43:=Yp Xg m h43 C19;have C22:=Dq Xg m h22 C21;have C30:=Yo Xg m h30 C22 C25;have C34:=Zx Xg m h34 ;have C31:=Xo Xg m h31 C22 C24 C25;have C33:=Ls Xg m h33 ;have C32:=Ks Xg m h32 C25 C24 C22 C26;have C35:=Jt Xg m h35 C30 C34 C31 C33 C32;have C36:=Nt Xg m h36 C35;exact (G3 Xg m F48 C18 C19 C46 C41 C47 C16 C43 C36).imp fun vs H Q E h=>Yx Su h
theorem walk {l:PySem.W.OpenLaw} {q:Program} {loose:List Str} {XP:(Str→Option Value)→Heap→Prop} {YP:World→Heap→Prop} {d:DefRec} {K:Params→PySem.W.Frag} (hn:l.most=some 63) (hdf:d.params.defaults=[])
  (hY:∀ (w:World) (h:Heap),YP w h→(K w.params).In h)
  (F:∀ (w:World) (mg:Str→Option Value) (fa:Addr) (h:Heap),(K w.params).In h→h.Ns mainGlobals mg→mg d.name=some (.ref fa) →
   ∃ fd:FuncData,(∀ (s:Shared) (u:Value),BindsTo s fd ⟨[u],[]⟩ [("_law_script",u)])∧∀ base:Heap,(K w.params).In base→base.Ns mainGlobals mg→fR l.prog w (K w.params) mg base fB 8 fa fd ["_law_script"] (uT (K w.params))) :
  PySem.W.WalkO q loose XP YP l.row.toRowW d [] (fun f vs=>PySem.call f vs) :=
 L2.walk_of (n:=63) (k:=8) (x:="_law_script") (CX:=fun _=>fB) (sp:=fun w=>uT (K w.params)) hn (by decide) hdf ⟨rfl,by decide,by decide⟩ hY F (fun _ _ a ns hl _ hS=>⟨a,ns,rfl,hS,hl,fun _=>rfl⟩) fun _ _ _ _ _ z=>z
end
end Sc
open PySem PySem.W PyProof.Rows
set_option maxRecDepth 100000 in
set_option maxHeartbeats 0 in
theorem PySem.Challenge.cw_scissorhall_k14_same_by_numbers_holds : PySem.Challenge.rw_scissorhall_k14_same_by_numbers.Holds := by
 w_on; refine holds_law Sc.wsaid fun said=>?_
 refine holds_open (q:=Sc.VW) (loose:=[]) (Xt:=fun s=>xlAt Sc.VW [] s && recOk (RowW.records (OpenRow.toRowW (OpenLaw.row PySem.Challenge.rw_scissorhall_k14_same_by_numbers))) s) (XP:=XL Sc.VW []) (Yf:=Hook.obs (kHook Sc.KK Sc.KA Sc.KE)) (Ya:=Hook.val (kHook Sc.KK Sc.KA Sc.KE)) (YP:=Hook.says (kHook Sc.KK Sc.KA Sc.KE)) (N:=2774) Sc.left (Hook.of (kHook Sc.KK Sc.KA Sc.KE)) (Hook.keeps (kHook Sc.KK Sc.KA Sc.KE)) (fun s e=>xl_of s (Bool.and_eq_true_iff.mp e).1) XL.keeps (by rfl) (by rfl) (by rfl) (fun s e=>recFacts_of (Bool.and_eq_true_iff.mp e).2) (by rfl) (by first | assumption | decide +kernel) (by decide +kernel) ⟨rfl,rfl,rfl,rfl,rfl,by decide +kernel⟩ ?hw ?hc
 case hw=>w_witness2
 k_fill
 refine Sc.walk (l:=PySem.Challenge.rw_scissorhall_k14_same_by_numbers) rfl rfl (fun w h Y=>PySem.W.kIn_of Y) ?F
 case F =>
  intro w mg fa h KX G hmg;refine' Sc.all_mk KX G hmg Sc.hF_k Sc.hF_k Sc.hF_k Sc.hF_k Sc.hF_k Sc.hF_k Sc.hF_k Sc.hF_k Sc.hF_k Sc.hF_k Sc.hF_k Sc.hF_k Sc.hF_k Sc.hF_k Sc.hF_k Sc.hF_k Sc.hF_k Sc.hF_k Sc.hF_k Sc.hF_k Sc.hF_k Sc.hF_k Sc.hF_k Sc.hF_k Sc.hF_k Sc.hF_k Sc.hF_k Sc.hF_k Sc.hF_k Sc.hF_k Sc.hF_k Sc.hF_k Sc.hF_k Sc.hF_k Sc.hF_k Sc.hF_k Sc.hF_k Sc.hF_k Sc.hF_k Sc.hF_k Sc.hF_k ?a48 ?l48 ?c48 ?sO ?z1 ?z2 ?z3 ?z4 ?z5 ?z6 ?z7 ?z8 ?z9 ?z10 ?z11 ?z12 ?z13 ?z14 ?v1 ?v2 ?vl1 ?vl2 ?vl3 ?vl4 ?vl5 ?vl6 ?vl7 ?vl8 ?vl9
  (case a48 | l48 | c48 | sO | z1 | z2 | z3 | z4 | z5 | z6 | z7 | z8 | z9 | z10 | z11 | z12 | z13 | z14 | v1 | v2 | vl1 | vl2 | vl3 | vl4 | vl5 | vl6 | vl7 | vl8 | vl9=>k_is)
#print axioms PySem.Challenge.cw_scissorhall_k14_same_by_numbers_holds
