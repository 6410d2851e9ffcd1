import PyProof.Rows.All
import KE.KFromBytes
import KE.KIsAll
import PyProof.EqAt
import PyProof.EqKinds
import PyProof.TupleCall
import PyProof.ZipIter
import PyProof.Draws
import PyProof.CompFree
import PyProof.NeKinds
import PyProof.NsDelKeeps
import PyProof.ExcArgsOwn
import PyProof.ExcAttrAll.ValueError
import KE.KSortTup
import PyProof.DictRoadsH
import Wide.Seal
import KE.KIntText
import PyProof.FitsReplace
import PyProof.StrWalks
import PyProof.CompMap
import KE.KDictList
import PySem.Challenge.RW_scissorhall_k13_same_otherwise
set_option Elab.async false
set_option maxRecDepth 100000
set_option maxHeartbeats 0
namespace L2
open PySem
def iC (s:Stmt):Arguments:=match s with
 | .FunctionDef _ a _ _ _ _ _ _ _ _=>a
 | _=>{ posonlyargs:=[],args:=[],vararg:=none,kwonlyargs:=[],kw_defaults:=[],kwarg:=none,defaults:=[] }
def fZ (s:Stmt):List Stmt:=match s with
 | .FunctionDef _ _ b _ _ _ _ _ _ _=>b
 | _=>[]
def bE (s:Stmt):Scope:=match s with
 | .FunctionDef _ _ _ _ _ _ sc _ _ _=>sc
 | _=>{ kind:=.function,names:=[],isGenerator:=false,isCoroutine:=false }
end L2
namespace Sc
noncomputable section
open PySem L2
def top (i:Nat):Stmt:=PySem.Challenge.pw_scissorhall_k13_same_otherwise.main.body.getD i (.Pass ⟨0,0,0,0⟩)
abbrev vs (s:String) (t:Nat):Value:=.str (Str.ofString s) t
abbrev vi (i:Int):Value:=.int i 0
abbrev vr (a:Nat):Value:=.ref a
abbrev fo (n:String) (i:Nat) (dV dc pm cd ct:Value):Obj:=⟨.type "function",none,.func (PySem.W.fnOf (Str.ofString n) (Str.ofString n) (iC (top i)) (fZ (top i)) (bE (top i)) dV .none dc pm none cd ct),#[]⟩
abbrev fc (l:List Value):Obj:=⟨.type "code",none,.fields l.toArray,#[]⟩
abbrev hdz (n:String) (t l a r g:Nat) (x:List Value):Obj:=fc (vs n t :: vs n (t+1) :: vs "/claim/cut.py" (t+2) :: vi l :: vi a :: vi 0 :: vi 0 :: vi 3 :: vr r :: .bool true :: vi g :: vr (r+1) :: .none :: x)
abbrev hdq (n:String) (t l a r g u:Nat):Obj:=hdz n t l a r g [vr (r+2),vr (r+3),vr (r+4),vi u,vi l,vs "/claim/cut.py" (u+1)]
abbrev hdp (n:String) (t l a r g:Nat):Obj:=hdz n t l a r g [.none,.none,vr (r+2),vi (t+3),vi l,vs "/claim/cut.py" (t+4)]
abbrev fd (P:Params) (n:Nat) (l:List (String × Nat × Value)):Obj:=⟨.type "dict",none,.dict (l.map fun e=>⟨PyData.keyHash P (Str.ofString e.1),.str (Str.ofString e.1) e.2.1,e.2.2⟩).toArray n,#[]⟩
def KK (P:Params):PySem.W.Frag :=
 (nat_lit 3,fd P 40 [("__name__",165,vs "law_scissorhall_k13_same_otherwise" 305),("__doc__",166,.none),("__package__",167,.none),("__loader__",168,(.builtin "__main__.__loader__#opaque")),("__spec__",169,.none),("__annotations__",170,vr 6),("__builtins__",171,vr 4),("__file__",173,vs "/claim/cut.py" 172),("__cached__",174,.none),("sign",195,vr 21),("divisor",204,vr 28),("reduced",210,vr 33),("lowest_way",216,vr 38),("whole_arrow",224,vr 43),("normal",233,vr 50),("FLAT_WALLS",242,vr 54),("SPACE_WALLS",255,vr 59),("walls",261,vr 64),("plane_way",269,vr 69),("sides",275,vr 74),("put_wall",291,vr 81),("same",304,vr 88),("_law_row",319,vr 95),("_law_take",328,vr 102),("_law_gcd",336,vr 109),("_law_lowest",342,vr 114),("_law_joined",348,vr 119),("_law_gap",354,vr 124),("_law_cross",365,vr 131),("_law_dot",371,vr 136),("_law_turn",378,vr 143),("_law_det",384,vr 148),("_law_simplex",392,vr 155),("_law_far",398,vr 160),("_law_handed",406,vr 167),("_law_node",417,vr 174),("_law_flat_hands",428,vr 181),("_law_six",434,vr 186),("_law_five",440,vr 191),("law",446,vr 196)]) ::
 (nat_lit 20,hdq "sign" 189 2 1 15 181 193) ::
 (nat_lit 21,fo "sign" 1 .none .none (vs "scissorhall.lowest" 187) (vr 20) .none) ::
 (nat_lit 27,hdq "divisor" 196 8 2 22 181 202) ::
 (nat_lit 28,fo "divisor" 2 .none .none (vs "scissorhall.lowest" 187) (vr 27) .none) ::
 (nat_lit 32,hdp "reduced" 205 14 1 29 181) ::
 (nat_lit 33,fo "reduced" 3 .none .none (vs "scissorhall.lowest" 187) (vr 32) .none) ::
 (nat_lit 37,hdp "lowest_way" 211 19 1 34 181) ::
 (nat_lit 38,fo "lowest_way" 4 .none .none (vs "scissorhall.lowest" 187) (vr 37) .none) ::
 (nat_lit 42,hdp "whole_arrow" 219 23 2 39 181) ::
 (nat_lit 43,fo "whole_arrow" 6 .none .none (vs "scissorhall.points" 217) (vr 42) .none) ::
 (nat_lit 49,hdq "normal" 225 25 1 44 181 231) ::
 (nat_lit 50,fo "normal" 7 .none .none (vs "scissorhall.points" 217) (vr 49) .none) ::
 (nat_lit 51,⟨.type "tuple",none,.seq #[(.int 0 236),(.int 1 237)] 0,#[]⟩) ::
 (nat_lit 52,⟨.type "tuple",none,.seq #[(.int 1 238),(.int 2 239)] 0,#[]⟩) ::
 (nat_lit 53,⟨.type "tuple",none,.seq #[(.int 2 240),(.int 0 241)] 0,#[]⟩) ::
 (nat_lit 54,⟨.type "tuple",none,.seq #[vr 51,vr 52,vr 53] 0,#[]⟩) ::
 (nat_lit 55,⟨.type "tuple",none,.seq #[(.int 1 243),(.int 2 244),(.int 3 245)] 0,#[]⟩) ::
 (nat_lit 56,⟨.type "tuple",none,.seq #[(.int 0 246),(.int 3 247),(.int 2 248)] 0,#[]⟩) ::
 (nat_lit 57,⟨.type "tuple",none,.seq #[(.int 0 249),(.int 1 250),(.int 3 251)] 0,#[]⟩) ::
 (nat_lit 58,⟨.type "tuple",none,.seq #[(.int 0 252),(.int 2 253),(.int 1 254)] 0,#[]⟩) ::
 (nat_lit 59,⟨.type "tuple",none,.seq #[vr 55,vr 56,vr 57,vr 58] 0,#[]⟩) ::
 (nat_lit 63,hdp "walls" 256 34 1 60 181) ::
 (nat_lit 64,fo "walls" 11 .none .none (vs "scissorhall.simplexes" 234) (vr 63) .none) ::
 (nat_lit 68,hdp "plane_way" 264 38 1 65 181) ::
 (nat_lit 69,fo "plane_way" 13 .none .none (vs "scissorhall.heaps" 262) (vr 68) .none) ::
 (nat_lit 73,hdp "sides" 270 40 1 70 181) ::
 (nat_lit 74,fo "sides" 14 .none .none (vs "scissorhall.heaps" 262) (vr 73) .none) ::
 (nat_lit 80,hdq "put_wall" 276 44 3 75 181 289) ::
 (nat_lit 81,fo "put_wall" 15 .none .none (vs "scissorhall.heaps" 262) (vr 80) .none) ::
 (nat_lit 87,hdq "same" 292 51 2 82 181 302) ::
 (nat_lit 88,fo "same" 16 .none .none (vs "scissorhall.heaps" 262) (vr 87) .none) ::
 (nat_lit 94,hdq "_law_row" 307 59 1 89 181 317) ::
 (nat_lit 95,fo "_law_row" 18 .none .none (vs "law_scissorhall_k13_same_otherwise" 305) (vr 94) .none) ::
 (nat_lit 101,hdq "_law_take" 320 73 2 96 181 326) ::
 (nat_lit 102,fo "_law_take" 19 .none .none (vs "law_scissorhall_k13_same_otherwise" 305) (vr 101) .none) ::
 (nat_lit 108,hdq "_law_gcd" 329 81 2 103 181 334) ::
 (nat_lit 109,fo "_law_gcd" 20 .none .none (vs "law_scissorhall_k13_same_otherwise" 305) (vr 108) .none) ::
 (nat_lit 113,hdp "_law_lowest" 337 87 1 110 181) ::
 (nat_lit 114,fo "_law_lowest" 21 .none .none (vs "law_scissorhall_k13_same_otherwise" 305) (vr 113) .none) ::
 (nat_lit 118,hdp "_law_joined" 343 94 3 115 181) ::
 (nat_lit 119,fo "_law_joined" 22 .none .none (vs "law_scissorhall_k13_same_otherwise" 305) (vr 118) .none) ::
 (nat_lit 123,hdp "_law_gap" 349 97 2 120 181) ::
 (nat_lit 124,fo "_law_gap" 23 .none .none (vs "law_scissorhall_k13_same_otherwise" 305) (vr 123) .none) ::
 (nat_lit 130,hdq "_law_cross" 355 99 2 125 181 363) ::
 (nat_lit 131,fo "_law_cross" 24 .none .none (vs "law_scissorhall_k13_same_otherwise" 305) (vr 130) .none) ::
 (nat_lit 135,hdp "_law_dot" 366 104 2 132 181) ::
 (nat_lit 136,fo "_law_dot" 25 .none .none (vs "law_scissorhall_k13_same_otherwise" 305) (vr 135) .none) ::
 (nat_lit 142,hdq "_law_turn" 372 106 1 137 181 376) ::
 (nat_lit 143,fo "_law_turn" 26 .none .none (vs "law_scissorhall_k13_same_otherwise" 305) (vr 142) .none) ::
 (nat_lit 147,hdp "_law_det" 379 110 1 144 181) ::
 (nat_lit 148,fo "_law_det" 27 .none .none (vs "law_scissorhall_k13_same_otherwise" 305) (vr 147) .none) ::
 (nat_lit 154,hdq "_law_simplex" 385 112 1 149 181 390) ::
 (nat_lit 155,fo "_law_simplex" 28 .none .none (vs "law_scissorhall_k13_same_otherwise" 305) (vr 154) .none) ::
 (nat_lit 159,hdp "_law_far" 393 117 2 156 181) ::
 (nat_lit 160,fo "_law_far" 29 .none .none (vs "law_scissorhall_k13_same_otherwise" 305) (vr 159) .none) ::
 (nat_lit 166,hdq "_law_handed" 399 123 2 161 181 404) ::
 (nat_lit 167,fo "_law_handed" 30 .none .none (vs "law_scissorhall_k13_same_otherwise" 305) (vr 166) .none) ::
 (nat_lit 173,hdq "_law_node" 407 127 3 168 181 415) ::
 (nat_lit 174,fo "_law_node" 31 .none .none (vs "law_scissorhall_k13_same_otherwise" 305) (vr 173) .none) ::
 (nat_lit 180,hdq "_law_flat_hands" 418 133 2 175 181 426) ::
 (nat_lit 181,fo "_law_flat_hands" 32 .none .none (vs "law_scissorhall_k13_same_otherwise" 305) (vr 180) .none) ::
 (nat_lit 185,hdp "_law_six" 429 138 2 182 181) ::
 (nat_lit 186,fo "_law_six" 33 .none .none (vs "law_scissorhall_k13_same_otherwise" 305) (vr 185) .none) ::
 (nat_lit 190,hdp "_law_five" 435 148 3 187 181) ::
 (nat_lit 191,fo "_law_five" 34 .none .none (vs "law_scissorhall_k13_same_otherwise" 305) (vr 190) .none) ::
 (nat_lit 195,hdp "law" 441 162 1 192 181) ::
 (nat_lit 196,fo "law" 35 .none .none (vs "law_scissorhall_k13_same_otherwise" 305) (vr 195) .none) :: []
def KA:List Nat:=[3,20,21,27,28,32,33,37,38,42,43,49,50,51,52,53,54,55,56,57,58,59,63,64,68,69,73,74,80,81,87,88,94,95,101,102,108,109,113,114,118,119,123,124,130,131,135,136,142,143,147,148,154,155,159,160,166,167,173,174,180,181,185,186,190,191,195,196]
def VW:Program:={ PySem.Challenge.pw_scissorhall_k13_same_otherwise with main:={ PySem.Challenge.pw_scissorhall_k13_same_otherwise.main with body:=[top 1,top 2,top 3,top 4,top 6,top 7,top 9,top 10,top 11,top 13,top 14,top 15,top 16,top 18,top 19,top 20,top 21,top 22,top 23,top 24,top 25,top 26,top 27,top 28,top 29,top 30,top 31,top 32,top 33,top 34,top 35] } }
theorem KE:∀ P,KA=(KK P).map (·.1):=fun _=>by kernel_rfl
theorem left:PySem.W.LeftO PySem.Challenge.pw_scissorhall_k13_same_otherwise VW [] (fun s=>PySem.W.xlAt VW [] s && PySem.W.recOk (PySem.W.RowW.records (PySem.W.OpenRow.toRowW (PySem.W.OpenLaw.row PySem.Challenge.rw_scissorhall_k13_same_otherwise))) s) (PySem.W.Hook.obs (PySem.W.kHook KK KA KE)) (PySem.W.Hook.val (PySem.W.kHook KK KA KE)) 1996:=by
 intro w
 kernel_rfl
end
end Sc
set_option maxHeartbeats 200000
set_option Elab.async false
set_option linter.all false
set_option maxRecDepth 100000
namespace L2
open PySem PySem.Spec PyProof.Rows
abbrev Key:=Sum Int Str
def aff:Key→Value→Bool
 | .inl k,v=>Value.isInt k v
 | .inr x,v=>Value.isStrOf x v
def ah6 (w:World):Key→Int
 | .inl k=>hashInt k
 | .inr x=>hashStr w x
theorem iW:∀ {k:Key} {v:Value},aff k v=true→(∃ i t,k=Sum.inl i∧v=Value.int i t)∨(∃ x t,k=Sum.inr x∧v=Value.str x t)
 | .inl i,v,h=>by
  obtain ⟨t,e⟩:=Value.isInt_shape (k:=i) (v:=v) h
  exact .inl ⟨i,t,rfl,e⟩
 | .inr x,v,h=>by
  obtain ⟨t,e⟩:=Value.isStrOf_shape (x:=x) (v:=v) h
  exact .inr ⟨x,t,rfl,e⟩
theorem agA (a b:Int):decide ((Sum.inl a:Key)=Sum.inl b)=(a == b):=by
 by_cases e:a=b
 ·subst e; simp
 ·have h:¬ (Sum.inl a:Key)=Sum.inl b:=fun q=>e (Sum.inl.inj q)
  rw [decide_eq_false h]
  exact (beq_eq_false_iff_ne.mpr e).symm
theorem afN (a b:Str):decide ((Sum.inr a:Key)=Sum.inr b)=decide (a=b):=by
 by_cases e:a=b
 ·subst e; simp
 ·have h:¬ (Sum.inr a:Key)=Sum.inr b:=fun q=>e (Sum.inr.inj q)
  rw [decide_eq_false h,decide_eq_false e]
theorem agE (a:Int) (b:Str):decide ((Sum.inl a:Key)=Sum.inr b)=false:=decide_eq_false (fun q=>nomatch q)
theorem agd (a:Str) (b:Int):decide ((Sum.inr a:Key)=Sum.inl b)=false:=decide_eq_false (fun q=>nomatch q)
def abD (prog:Program) (w:World):PySem.KeyKind prog w Key where
 is:=aff
 hash:=ah6 w
 inj:=fun v a b ha hb=>by
  rcases iW ha with ⟨i,t,rfl,rfl⟩ | ⟨x,t,rfl,rfl⟩
  ·rcases iW hb with ⟨j,u,rfl,e⟩ | ⟨y,u,rfl,e⟩
   ·injection e with e1 _; rw [e1]
   ·exact nomatch e
  ·rcases iW hb with ⟨j,u,rfl,e⟩ | ⟨y,u,rfl,e⟩
   ·exact nomatch e
   ·injection e with e1 _; rw [e1]
 byValue:=fun k v h=>by
  rcases iW h with ⟨i,t,rfl,rfl⟩ | ⟨x,t,rfl,rfl⟩ <;> rfl
 pyHash:=fun hv h=>by
  rcases iW hv with ⟨i,t,rfl,rfl⟩ | ⟨x,t,rfl,rfl⟩
  ·exact wpAny_pyHash_int h
  ·exact wpAny_pyHash_str h
 eqBool:=fun hu hv h=>by
  rcases iW hu with ⟨i,t,rfl,rfl⟩ | ⟨x,t,rfl,rfl⟩
  ·rcases iW hv with ⟨j,u,rfl,rfl⟩ | ⟨y,u,rfl,rfl⟩
   ·rw [agA] at h; exact wpAny_eqBool_int h
   ·rw [agE] at h; exact SeqAt.EqAt.int_str i t y u _ _ _ _ h
  ·rcases iW hv with ⟨j,u,rfl,rfl⟩ | ⟨y,u,rfl,rfl⟩
   ·rw [agd] at h; exact SeqAt.EqAt.str_int x t j u _ _ _ _ h
   ·rw [afN] at h; exact wpAny_eqBool_str h
 «strs»:=fun k x t v h=>by
  rcases iW h with ⟨i,u,rfl,e⟩ | ⟨y,u,rfl,e⟩
  ·exact nomatch e
  ·injection e with e1 _
   subst e1
   cases v <;> rfl
end L2
namespace L2
open PySem PySem.Spec PyProof.Rows
inductive V where
 | non | bl (b:Bool) | int (i:Int) | str (x:Str) | byt (b:Array UInt8) | flt (b:UInt64) | ref (a:Addr) | ty (n:String)
 deriving DecidableEq
def bH:V→Value→Prop
 | .non,u=>u=Value.none
 | .bl b,u=>u=Value.bool b
 | .int i,u=>∃ t,u=Value.int i t
 | .str x,u=>∃ t,u=Value.str x t
 | .byt b,u=>∃ t,u=Value.bytes b t
 | .flt b,u=>∃ t,u=Value.float b t
 | .ref a,u=>u=Value.ref a
 | .ty n,u=>u=Value.type n
abbrev aX:List V→List Value→Prop:=Paired bH
theorem aX.length {xs:List V} {us:List Value} (r:aX xs us):xs.length=us.length:=Paired.length r
theorem aX.get:∀ {xs:List V} {us:List Value} {i:Nat} {x:V},aX xs us→xs[i]?=some x→∃ u,us[i]?=some u∧bH x u
 | _,_,_,_,.nil,e=>by simp at e
 | _,_,0,_,.cons r _,e=>by simp at e; subst e; exact ⟨_,rfl,r⟩
 | _,_,i+1,x,.cons _ t,e=>by
  obtain ⟨u,h1,h2⟩:=aX.get (i:=i) (x:=x) t (by simpa using e)
  exact ⟨u,by simpa using h1,h2⟩
theorem aX.set {x:V} {u:Value} (r:bH x u):∀ {xs:List V} {us:List Value} (i:Nat),aX xs us→aX (xs.set i x) (us.set i u)
 | _,_,_,.nil=>.nil
 | _,_,0,.cons _ t=>.cons r t
 | _,_,i+1,.cons q t=>.cons q (aX.set r i t)
theorem aX.append:∀ {xs ys:List V} {us ws:List Value},aX xs us→aX ys ws→aX (xs++ys) (us++ws)
 | _,_,_,_,.nil,s=>s
 | _,_,_,_,.cons r t,s=>.cons r (aX.append t s)
theorem aX.take:∀ {xs:List V} {us:List Value} (n:Nat),aX xs us→aX (xs.take n) (us.take n)
 | _,_,0,_=>.nil
 | _,_,_+1,.nil=>.nil
 | _,_,n+1,.cons r t=>.cons r (aX.take n t)
theorem aX.drop:∀ {xs:List V} {us:List Value} (n:Nat),aX xs us→aX (xs.drop n) (us.drop n)
 | _,_,0,r=>r
 | _,_,_+1,.nil=>.nil
 | _,_,n+1,.cons _ t=>aX.drop n t
def ahD:Option V→Option Value→Prop
 | some v,some u=>bH v u
 | none,none=>True
 | _,_=>False
def KV {κ:Type}:List (κ × V)→List (κ × Value)→Prop:=Paired fun (p:κ × V) (q:κ × Value)=>p.1=q.1∧bH p.2 q.2
def kV:Key→V
 | .inl i=>.int i
 | .inr x=>.str x
inductive HO where
 /-- a list -/
 | lst (xs:List V)
 /-- a tuple (never changes) -/
 | tup (xs:List V)
 /-- a dict whose keys are ints and texts; one whose keys are tuples of ints and texts (the empty one is both) -/
 | dK (kvs:List (Key × V)) | dT (kvs:List (List Key × V))
 /-- a set of ints: its members,its size -/
 | set (S:Int→Bool) (n:Nat)
 /-- an instance of the class at C,its dict at dx,its attributes -/
 | ins (C dx:Addr) (fs:List (Str × V))
 /-- the dict of the instance at x -/
 | own (x:Addr)
 /-- the dict of an exception -/
 | xd (fs:List (Str × V))
 /-- a bound method,f of x -/
 | met (f x:Addr)
 /-- a range object lo,lo+1,.. below hi -/
 | rng (lo hi:Int)
 /-- a thing that is known to the object (the script; a dict while a loop walks it): read,never written while it is so -/
 | frz (o:Obj) (u:HO)
 /-- a code object's table -/
 | tbl (ps:Array Value)
 /-- any other thing,by what is true of its one object (a def of one's own: SetO a S n:=HO.ext fun h=>..) -/
 | ext (φ:Heap→Prop)
abbrev Hp:=Addr→Option HO
def upd (H:Hp) (a:Addr) (o:HO):Hp:=fun b=>if b=a then some o else H b
theorem eL {H:Hp} {a:Addr} {o:HO}:upd H a o a=some o:=by unfold upd; rw [if_pos rfl]
theorem bQ {H:Hp} {a b:Addr} {o:HO} (h:b≠a):upd H a o b=H b:=by unfold upd; rw [if_neg h]
theorem dY {H:Hp} {a b:Addr} {o:HO} (h:H a=some o) (h':H b=none):a≠b:=by
 intro e; subst e; rw [h] at h'; cases h'
section
variable (P:Program) (w:World)
def fK (H:Hp) (h:Heap) (a:Addr):HO→Prop
 | .lst xs=>xs.length≤sizeLine∧∃ (its:List Value) (n:Nat),aX xs its∧h.get? a=some { cls:=.type "list",data:=.seq its.toArray n }
 | .tup xs=>xs.length≤sizeLine∧∃ its:List Value,aX xs its∧IsTup h a its.toArray
 | .dK kvs=>kvs.length≤sizeLine∧(a == sysModules)=false∧∃ vs,KV kvs vs∧h.DictOf (abD P w) a vs
 | .dT kvs=>kvs.length≤sizeLine∧(a == sysModules)=false∧∃ xs:List (List Key × Addr × Value),
   Paired (fun (p:List Key × V) (q:List Key × Addr × Value)=>p.1=q.1∧H q.2.1=some (.tup (p.1.map kV))∧bH p.2 q.2.2) kvs xs ∧
   ∃ o es ep,h.get? a=some o∧o.ExactDict∧o.data=.dict es ep∧es.toList=xs.map (entryOfKey (tupleKind (abD P w)))∧(xs.map (·.1)).Nodup
 | .set S n=>h.SetOf (intKind P w) a S n
 | .ins C dx fs=>H dx=some (.own a)∧fs.length≤1000∧dx≠a∧h.get? a=some (PySem.W.instObj C dx) ∧
   ∃ mA,h.Ns1 dx mA∧(∀ f,ahD (fs.lookup f) (mA f))∧PySem.Within mA (fs.map (·.1))
 | .own _=>∃ o,h.get? a=some o
 | .xd fs=>∃ mA,h.Ns1 a mA∧∀ f,ahD (fs.lookup f) (mA f)
 | .rng lo hi=>∃ t u v,h.get? a=some { cls:=.type "range",data:=.fields #[.int lo t,.int hi u,.int 1 v] }
 | .frz o u=>h.get? a=some o∧fK H h a u
 | .tbl ps=>h.get? a=some { cls:=.none,data:=.fields ps }
 | .met f x=>h.get? a=some (PySem.W.methodObj (.ref f) (.ref x))
 | .ext φ=>φ h∧(∃ o,h.get? a=some o)∧∀ h1 h2:Heap,φ h1→(∀ o,h1.get? a=some o→h2.get? a=some o)→φ h2
def HOk (H:Hp) (h:Heap):Prop:=∀ a o,H a=some o→fK P w H h a o
end
section
variable {P:Program} {w:World} {H H':Hp} {h h':Heap} {a:Addr} {o:HO}
theorem fK.lt (x:fK P w H h a o):a < h.objs.size:=by
 cases o with
 | lst xs=>obtain ⟨_,_,_,_,e⟩:=x; exact Heap.lt_size e
 | tup xs=>obtain ⟨_,_,_,p⟩:=x; exact p.lt
 | dK kvs=>obtain ⟨_,_,_,_,o,_,_,e,_⟩:=x; exact Heap.lt_size e
 | dT kvs=>obtain ⟨_,_,_,_,o,_,_,e,_⟩:=x; exact Heap.lt_size e
 | set S n=>obtain ⟨o,_,_,_,e,_⟩:=x; exact Heap.lt_size e
 | ins C dx fs=>obtain ⟨_,_,_,e,_⟩:=x; exact Heap.lt_size e
 | own y=>obtain ⟨_,e⟩:=x; exact Heap.lt_size e
 | xd fs=>obtain ⟨_,⟨_,_,_,e,_⟩,_⟩:=x; exact Heap.lt_size e
 | rng lo hi=>obtain ⟨_,_,_,e⟩:=x; exact Heap.lt_size e
 | frz ob u=>obtain ⟨e,_⟩:=x; exact Heap.lt_size e
 | tbl ps=>exact Heap.lt_size (show h.get? a=some _ from x)
 | met f y=>exact Heap.lt_size (show h.get? a=some _ from x)
 | ext φ=>obtain ⟨_,⟨_,e⟩,_⟩:=x; exact Heap.lt_size e
theorem Paired.mapP {α β:Type} {F G:α→β→Prop}:∀ {l₁:List α} {l₂:List β},Paired F l₁ l₂→(∀ a b,F a b→G a b)→Paired G l₁ l₂
 | _,_,.nil,_=>.nil
 | _,_,.cons r t,f=>.cons (f _ _ r) (Paired.mapP t f)
theorem fK.stay (x:fK P w H h a o) (k:∀ b u,(b=a∨H b=some (.own a))→h.get? b=some u→h'.get? b=some u)
  (ho:∀ b,H b=some (.own a)→H' b=some (.own a)) (ht:∀ b xs,H b=some (.tup xs)→H' b=some (.tup xs)):fK P w H' h' a o:=by
 induction o with
 | lst xs=>obtain ⟨z,its,n,r,e⟩:=x; exact ⟨z,its,n,r,k _ _ (.inl rfl) e⟩
 | tup xs=>obtain ⟨z,its,r,ob,e,c⟩:=x; exact ⟨z,its,r,ob,k _ _ (.inl rfl) e,c⟩
 | dK kvs=>obtain ⟨z,y,vs,r,ob,es,ep,e,c⟩:=x; exact ⟨z,y,vs,r,ob,es,ep,k _ _ (.inl rfl) e,c⟩
 | dT kvs =>
  obtain ⟨z,y,xs,r,ob,es,ep,e,c⟩:=x
  exact ⟨z,y,xs,Paired.mapP r fun p q z=>⟨z.1,ht _ _ z.2.1,z.2.2⟩,ob,es,ep,k _ _ (.inl rfl) e,c⟩
 | set S n=>obtain ⟨ob,es,ep,t,e,c⟩:=x; exact ⟨ob,es,ep,t,k _ _ (.inl rfl) e,c⟩
 | ins C dx fs =>
  obtain ⟨d,z,ne,e,mA,⟨od,es,ep,e2,c⟩,r⟩:=x
  exact ⟨ho _ d,z,ne,k _ _ (.inl rfl) e,mA,⟨od,es,ep,k _ _ (.inr d) e2,c⟩,r⟩
 | own y=>obtain ⟨ob,e⟩:=x; exact ⟨ob,k _ _ (.inl rfl) e⟩
 | xd fs=>obtain ⟨mA,⟨od,es,ep,e,c⟩,r⟩:=x; exact ⟨mA,⟨od,es,ep,k _ _ (.inl rfl) e,c⟩,r⟩
 | rng lo hi=>obtain ⟨t,u,v,e⟩:=x; exact ⟨t,u,v,k _ _ (.inl rfl) e⟩
 | frz ob u ih=>obtain ⟨e,q⟩:=x; exact ⟨k _ _ (.inl rfl) e,ih q⟩
 | tbl ps =>
  have e:h.get? a=some { cls:=.none,data:=.fields ps }:=x
  show h'.get? a=some { cls:=.none,data:=.fields ps }
  exact k a _ (.inl rfl) e
 | met f y =>
  have e:h.get? a=some (PySem.W.methodObj (.ref f) (.ref y)):=x
  show h'.get? a=some (PySem.W.methodObj (.ref f) (.ref y))
  exact k a _ (.inl rfl) e
 | ext φ=>obtain ⟨p,⟨o,e⟩,st⟩:=x; exact ⟨st _ _ p fun o q=>k _ _ (.inl rfl) q,⟨o,k _ _ (.inl rfl) e⟩,st⟩
theorem HOk.lt (x:HOk P w H h) (e:H a=some o):a < h.objs.size:=(x a o e).lt
theorem HOk.fresh (x:HOk P w H h) (e:h.objs.size≤a):H a=none:=by
 cases q:H a with
 | none=>rfl
 | some u=>exact absurd (Nat.lt_of_lt_of_le (x.lt q) e) (Nat.lt_irrefl _)
theorem HOk.kept (x:HOk P w H h) (k:∀ b u,h.get? b=some u→h'.get? b=some u):HOk P w H h':=fun a o e =>
 (x a o e).stay (fun b u _ q=>k b u q) (fun _ q=>q) fun _ _ q=>q
theorem HOk.laid (x:HOk P w H h) (k:∀ b u,h.get? b=some u→h'.get? b=some u) (hp:h.objs.size≤a) (new:fK P w (upd H a o) h' a o):HOk P w (upd H a o) h':=fun b u e=>by
 have hn:=x.fresh hp
 by_cases hb:b=a
 ·subst hb; rw [eL] at e; cases e; exact new
 ·rw [bQ hb] at e
  exact (x b u e).stay (fun c v _ q=>k c v q) (fun c q=>by rw [bQ (dY q hn)]; exact q) fun c xs q=>by rw [bQ (dY q hn)]; exact q
end
def Rd (H:Hp) (a:Addr) (u:HO):Prop:=H a=some u∨∃ o,H a=some (.frz o u)
theorem Rd.ok {P:Program} {w:World} {H:Hp} {h:Heap} {a:Addr} {u:HO} (r:Rd H a u) (x:HOk P w H h):fK P w H h a u:=by
 rcases r with r | ⟨o,r⟩
 ·exact x a u r
 ·obtain ⟨_,q⟩:=x a _ r
  exact q
def Mut:Option HO→Prop
 | some (.lst _)=>True
 | some (.dK _)=>True
 | some (.dT _)=>True
 | some (.set _ _)=>True
 | some (.ins _ _ _)=>True
 | some (.ext _)=>True
 | _=>False
section
variable {P:Program} {w:World} {H:Hp} {h h':Heap} {x e:Addr} {o':HO}
theorem HOk.write (ok:HOk P w H h) (mu:Mut (H x)) (he:e=x∨H e=some (.own x)) (k:∀ b u,b≠e→h.get? b=some u→h'.get? b=some u) (heo:∃ u,h'.get? e=some u)
  (new:fK P w (upd H x o') h' x o'):HOk P w (upd H x o') h':=fun b u q=>by
 have nown:∀ c y,H c=some (.own y)→c≠x:=fun c y r z=>by subst z; rw [r] at mu; exact mu
 have ntup:∀ c xs,H c=some (.tup xs)→c≠x:=fun c xs r z=>by subst z; rw [r] at mu; exact mu
 by_cases hb:b=x
 ·subst hb; rw [eL] at q; cases q; exact new
 ·rw [bQ hb] at q
  by_cases hbe:b=e
  ·have q':H b=some (.own x):=by
    rcases he with z | z
    ·exact absurd (hbe.trans z) hb
    ·rw [hbe]; exact z
   rw [q] at q'; cases q'
   obtain ⟨v,hv⟩:=heo
   exact ⟨v,by rw [hbe]; exact hv⟩
  ·refine (ok b u q).stay (fun c v hc r=>k c v ?_ r) (fun c r=>by rw [bQ (nown c b r)]; exact r) fun c xs r=>by rw [bQ (ntup c xs r)]; exact r
   rcases hc with rfl | hc
   ·exact hbe
   ·rintro rfl
    rcases he with z | z
    ·exact nown c b hc z
    ·rw [hc] at z; cases z; exact hb rfl
end
structure Un (fs ex:List Addr) (H H':Hp) (h h':Heap):Prop where
 keep:∀ b o,h.get? b=some o→H b=none→b ∉ fs→b ∉ ex→h'.get? b=some o
 slot:∀ b o,h.get? b=some o→H b=none→b∈fs→b ∉ ex→∃ sl,h'.get? b=some { o with slots:=sl }
 free:∀ b o,h.get? b=some o→H b=none→b ∉ ex→H' b=none
 there:∀ b o,h.get? b=some o→b ∉ ex→∃ o',h'.get? b=some o'
 tups:∀ b xs,H b=some (.tup xs)→H' b=some (.tup xs)
 frzs:∀ b o u,H b=some (.frz o u)→H' b=some (.frz o u)
 tbls:∀ b ps,H b=some (.tbl ps)→∃ more,H' b=some (.tbl (ps++more))
section
variable {fs fs' ex ex':List Addr} {H H1 H2:Hp} {h h1 h2 h':Heap} {a x e:Addr} {o:HO}
theorem Un.any (u:Un fs ex H H1 h h1) {b:Addr} {ob:Obj} (q:h.get? b=some ob) (n:H b=none) (hx:b ∉ ex):∃ sl,h1.get? b=some { ob with slots:=sl }:=by
 by_cases hb:b∈fs
 ·exact u.slot b ob q n hb hx
 ·exact ⟨ob.slots,u.keep b ob q n hb hx⟩
theorem Un.trans (a:Un fs ex H H1 h h1) (b:Un fs ex H1 H2 h1 h2):Un fs ex H H2 h h2 where
 keep:=fun c ob q n hc hx=>b.keep c ob (a.keep c ob q n hc hx) (a.free c ob q n hx) hc hx
 slot:=fun c ob q n hc hx=>by
  obtain ⟨sl,e1⟩:=a.slot c ob q n hc hx
  obtain ⟨sl',e2⟩:=b.slot c _ e1 (a.free c ob q n hx) hc hx
  exact ⟨sl',e2⟩
 free:=fun c ob q n hx=>by
  obtain ⟨o',e1⟩:=a.there c ob q hx
  exact b.free c o' e1 (a.free c ob q n hx) hx
 there:=fun c ob q hx=>by
  obtain ⟨o',e1⟩:=a.there c ob q hx
  exact b.there c o' e1 hx
 tups:=fun c xs q=>b.tups c xs (a.tups c xs q)
 frzs:=fun c ob xs q=>b.frzs c ob xs (a.frzs c ob xs q)
 tbls:=fun c ps q=>by
  obtain ⟨m1,e1⟩:=a.tbls c ps q
  obtain ⟨m2,e2⟩:=b.tbls c _ e1
  exact ⟨m1++m2,by rw [e2,Array.append_assoc]⟩
theorem Un.kept (k:∀ b u,h.get? b=some u→h'.get? b=some u):Un fs ex H H h h' :=
 ⟨fun b ob q _ _ _=>k b ob q,fun b ob q _ _ _=>⟨ob.slots,k b ob q⟩,fun _ _ _ n _=>n,fun b ob q _=>⟨ob,k b ob q⟩,fun _ _ q=>q,fun _ _ _ q=>q,fun _ ps q=>⟨#[],by rw [q]; simp⟩⟩
theorem Un.refl:Un fs ex H H h h:=Un.kept fun _ _ q=>q
theorem Un.laid (k:∀ b u,h.get? b=some u→h'.get? b=some u) (hp:h.objs.size≤a) (hn:H a=none):Un fs ex H (upd H a o) h h' where
 keep:=fun b u q _ _ _=>k b u q
 slot:=fun b u q _ _ _=>⟨u.slots,k b u q⟩
 free:=fun b u q n _=>by rw [bQ (Nat.ne_of_lt (Nat.lt_of_lt_of_le (Heap.lt_size q) hp))]; exact n
 there:=fun b u q _=>⟨u,k b u q⟩
 tups:=fun b xs q=>by rw [bQ (dY q hn)]; exact q
 frzs:=fun b u xs q=>by rw [bQ (dY q hn)]; exact q
 tbls:=fun b ps q=>⟨#[],by rw [bQ (dY q hn),q]; simp⟩
theorem Un.write (mu:Mut (H x)) (he:e=x∨H e=some (.own x)) (k:∀ b u,b≠e→h.get? b=some u→h'.get? b=some u) (heo:∃ u,h'.get? e=some u):Un fs ex H (upd H x o) h h':=by
 have hx:∀ b,H b=none→b≠x:=fun b n z=>by subst z; rw [n] at mu; exact mu
 have hb:∀ b,H b=none→b≠e:=fun b n z=>by
  subst z
  rcases he with r | r
  ·exact hx b n r
  ·rw [n] at r; cases r
 have hm:∀ b u,H b=some u→¬ Mut (some u)→b≠x:=fun b u q nm z=>by subst z; rw [q] at mu; exact nm mu
 refine ⟨fun b u q n _ _=>k b u (hb b n) q,fun b u q n _ _=>⟨u.slots,k b u (hb b n) q⟩,fun b u q n _=>by rw [bQ (hx b n)]; exact n,fun b u q _=>?_,
  fun b xs q=>by rw [bQ (hm b _ q fun z=>z)]; exact q,fun b u xs q=>by rw [bQ (hm b _ q fun z=>z)]; exact q,fun b ps q=>⟨#[],by rw [bQ (hm b _ q fun z=>z),q]; simp⟩⟩
 by_cases hbe:b=e
 ·subst hbe; exact heo
 ·exact ⟨u,k b u hbe q⟩
end
def trk (h:Heap) (H:Hp):List Addr:=(List.range h.objs.size).filter fun a=>(H a).isSome
def jH (h:Heap) (H:Hp):Heap:=PySem.W.hideAll h (trk h H)
theorem abZ (h:Heap) (H:Hp):(jH h H).objs.size=h.objs.size:=PySem.W.hideAll_size _ _
theorem adj {h:Heap} {H:Hp} {b:Addr} {o:Obj} (e:h.get? b=some o) (n:H b=none):(jH h H).get? b=some o :=
 PySem.W.hideAll_get _ e fun hm=>by
  have q:(H b).isSome=true:=(List.mem_filter.mp hm).2
  rw [n] at q; simp at q
theorem ae1 {h:Heap} {H:Hp} {b:Addr} {o:Obj} (e:(jH h H).get? b=some o):h.get? b=some o∧H b=none:=by
 have e':h.get? b=some o:=PySem.W.of_hideAll (trk h H) e
 refine ⟨e',?_⟩
 cases q:H b with
 | none=>rfl
 | some x =>
  have hm:b∈trk h H:=List.mem_filter.mpr ⟨List.mem_range.mpr (Heap.lt_size e'),by simp [q]⟩
  have z:(jH h H).get? b=none:=PySem.W.hideAll_none (trk h H) hm
  rw [z] at e; cases e
def aef (g h:Heap) (L:Addr):List (Addr × Obj):=(List.range h.objs.size).filterMap fun a=>if a=L∨(g.get? a).isSome=true then none else (h.get? a).map fun o=>(a,o)
def dX (g h:Heap) (L d:Addr):List (Addr × Obj):=(aef g h L).filter fun p=>decide (p.1≠d)
end L2
namespace L2
open PySem PySem.Spec PyProof.Rows
structure Mod (K:PySem.W.Frag) (mg:Str→Option Value) (base:Heap):Prop where
 kin:K.In base
 glob:base.Ns mainGlobals mg
 blt:∃ mb,base.Ns builtinsNs mb∧∀ x:Str,x≠"__name__"→mb x=bootBuiltins x
 nolimit:base.NoLimit
structure Cx where
 prog:Program
 w:World
 K:PySem.W.Frag
 mg:Str→Option Value
 base:Heap
 A:Around
 N:List Str
 s₀:Shared
 H₀:Hp
 env:Env
 outer:List Env
 stack:List Env
 ex:List Addr
 fn:Str→Bool
 calm:Bool
 pn:List (Addr × Obj)
 xe:Value→Shared→Prop
def frs (l:List Env):List Addr:=l.filterMap (·.frame)
abbrev Cx.fs (X:Cx):List Addr:=frs X.outer
def Vis (sc:Scope) (x:Str):Prop:=sc.names.lookup x=some .local∨sc.names.lookup x=some .cell∨sc.names.lookup x=some .free
def Loc (sc:Scope) (x:Str):Prop:=sc.names.lookup x=some .local∨sc.names.lookup x=some .cell
def aiE (env:Env) (h:Heap) (m:Str→Option Value) (x:Str) (u:Value):Prop :=
 (env.kindOf x=some .local∧m x=some u)∨((env.kindOf x=some .cell∨env.kindOf x=some .free)∧∃ c,env.cells.lookup x=some c∧h.IsCell c (some u))
structure Cx.Ok (X:Cx):Prop where
 mod:Mod X.K X.mg X.base
 kind:X.env.scope.kind=.function
 glob:X.env.globals=mainGlobals
 blt:X.env.builtins=builtinsNs
 above:X.s₀.heap.objs.size≤X.env.locals
 inj:∀ x y c,X.env.cells.lookup x=some c→X.env.cells.lookup y=some c→x=y
 has:∀ x,(X.env.kindOf x=some .cell∨X.env.kindOf x=some .free)→∃ c,X.env.cells.lookup x=some c
 cab:∀ x c,X.fn x=true→X.env.cells.lookup x=some c→X.s₀.heap.objs.size≤c
 hd:X.calm=true→X.A.handled=none
 frames:X.A.frames=some X.stack
 stk:X.stack=X.outer∨(X.stack=X.env :: X.outer∧X.env.frame=some X.env.locals)
 exf:∀ b∈X.ex,b≠X.env.locals∧∀ x c,X.env.cells.lookup x=some c→c≠b
 bs:∀ b o,X.base.get? b=some o→X.s₀.heap.get? b=some o∧X.H₀ b=none
 bsz:X.base.objs.size≤X.s₀.heap.objs.size
 noex:∀ b o,X.base.get? b=some o→b ∉ X.ex
 exfs:∀ b∈X.ex,b ∉ X.fs
 funs:X.s₀.heap.FunFrames X.base X.outer
 frf:∀ b∈X.fs,X.H₀ b=none
structure Inv (X:Cx) (pins:List (Addr × Obj)) (σ:List (Option V)) (H:Hp) (s:Shared):Prop where
 ok:X.Ok
 os:s.os=X.s₀.os
 bare:AllBare s.gens
 base:Un X.fs X.ex X.H₀ H X.s₀.heap s.heap
 loc:∃ m,s.heap.Ns X.env.locals m∧∀ (i:Nat) (x:Str) (v:V),X.N[i]?=some x→σ[i]?=some (some v)→Vis X.env.scope x→∃ u,bH v u∧aiE X.env s.heap m x u
 cell:∀ x c,X.env.cells.lookup x=some c→∃ v,s.heap.IsCell c v
 free:H X.env.locals=none
 freeC:∀ x c,X.env.cells.lookup x=some c→H c=none
 pin:∀ p∈X.pn++pins,s.heap.get? p.1=some p.2∧H p.1=none∧p.1≠X.env.locals∧p.1 ∉ X.fs∧∀ v,p.2.data≠.cell v
 hok:HOk X.prog X.w H s.heap
 len:σ.length=X.N.length
section
variable {X:Cx} {pins:List (Addr × Obj)} {σ:List (Option V)} {H H':Hp} {s:Shared} {h':Heap}
theorem Cx.Ok.nofr (ok:X.Ok) {b:Addr} {o:Obj} (e:X.base.get? b=some o):b ∉ X.fs:=fun hb=>by
 have:=(ok.funs.mem hb).1
 rw [e] at this; cases this
theorem Inv.bs (I:Inv X pins σ H s):∀ b o,X.base.get? b=some o→s.heap.get? b=some o∧H b=none:=fun b o e =>
 ⟨I.base.keep b o (I.ok.bs b o e).1 (I.ok.bs b o e).2 (I.ok.nofr e) (I.ok.noex b o e),I.base.free b o (I.ok.bs b o e).1 (I.ok.bs b o e).2 (I.ok.noex b o e)⟩
theorem Inv.bk (I:Inv X pins σ H s):∀ b o,X.base.get? b=some o→s.heap.get? b=some o:=fun b o e=>(I.bs b o e).1
theorem Inv.mod (I:Inv X pins σ H s):Mod X.K X.mg X.base:=I.ok.mod
theorem Inv.kIn (I:Inv X pins σ H s):X.K.In s.heap:=I.ok.mod.kin.keeps I.bk
theorem Inv.lt (I:Inv X pins σ H s):X.env.locals < s.heap.objs.size:=let ⟨_,hn,_⟩:=I.loc; hn.lt
theorem Inv.sz (I:Inv X pins σ H s):X.s₀.heap.objs.size≤s.heap.objs.size:=Nat.le_trans I.ok.above (Nat.le_of_lt I.lt)
theorem Inv.nofs (I:Inv X pins σ H s) {a:Addr} (h:s.heap.objs.size≤a):a ∉ X.fs:=fun hb=>by
 obtain ⟨_,o,ho,_⟩:=I.ok.funs.mem hb
 exact absurd (Nat.lt_of_lt_of_le (Heap.lt_size ho) (Nat.le_trans I.sz h)) (Nat.lt_irrefl _)
theorem Inv.cne (I:Inv X pins σ H s):∀ x c,X.env.cells.lookup x=some c→c≠X.env.locals:=fun x c e z=>by
 obtain ⟨v,o,ho,hd⟩:=I.cell x c e
 obtain ⟨m,⟨o',es,ep,ho',hd',_⟩,_⟩:=I.loc
 rw [z,ho'] at ho; cases ho; rw [hd'] at hd; cases hd
theorem Inv.funs (I:Inv X pins σ H s):s.heap.FunFrames X.base X.outer:=by
 have all:∀ (l:List Env),(∀ b∈frs l,b∈X.fs)→X.s₀.heap.FunFrames X.base l→s.heap.FunFrames X.base l:=by
  intro l
  induction l with
  | nil=>intro _ _; trivial
  | cons env r ih =>
   intro hs hl
   obtain ⟨hk,⟨L,o,hf,hn,ho,hd⟩,hr⟩:=hl
   have hL:L∈X.fs:=hs L (by unfold frs; rw [List.filterMap_cons,hf]; exact List.mem_cons_self)
   obtain ⟨sl,e⟩:=I.base.slot L o ho (I.ok.frf L hL) hL fun z=>I.ok.exfs L z hL
   exact ⟨hk,⟨L,_,hf,hn,e,hd⟩,ih (fun b hb=>hs b (by unfold frs; rw [List.filterMap_cons,hf]; exact List.mem_cons_of_mem _ hb)) hr⟩
 exact all X.outer (fun _ hb=>hb) I.ok.funs
theorem Inv.stack (I:Inv X pins σ H s):s.heap.FunFrames X.base X.stack:=by
 rcases I.ok.stk with e | ⟨e,hf⟩
 ·rw [e]; exact I.funs
 ·rw [e]
  obtain ⟨m,hn,_⟩:=I.loc
  refine .cons (by rw [I.ok.kind]; decide) hf hn ?_ I.funs
  exact Heap.get?_none_of_le (Nat.le_trans I.ok.bsz I.ok.above)
theorem Inv.stkSub (I:Inv X pins σ H s):∀ b∈frs X.stack,b∈X.env.locals :: X.fs:=fun b hb=>by
 rcases I.ok.stk with e | ⟨e,hf⟩
 ·rw [e] at hb; exact List.mem_cons_of_mem _ hb
 ·rw [e] at hb
  unfold frs at hb
  rw [List.filterMap_cons,hf] at hb
  exact hb
theorem Inv.stkFree (I:Inv X pins σ H s):∀ b∈frs X.stack,H b=none:=fun b hb=>by
 rcases List.mem_cons.mp (I.stkSub b hb) with e | hb
 ·rw [e]; exact I.free
 ·obtain ⟨_,o,ho,_⟩:=I.ok.funs.mem hb
  exact I.base.free b o ho (I.ok.frf b hb) fun z=>I.ok.exfs b z hb
theorem Inv.step {g':Array GenState} {t':Nat} {d':Drawn} {ch:List Addr} (I:Inv X pins σ H s)
  (hch:∀ b∈ch,(b∈X.ex∨X.s₀.heap.objs.size≤b)∧b≠X.env.locals∧(∀ x c,X.env.cells.lookup x=some c→c≠b)∧∀ p∈X.pn++pins,p.1≠b)
  (keep:∀ b o,b≠X.env.locals→b ∉ X.fs→b ∉ ch→s.heap.get? b=some o→H b=none→h'.get? b=some o)
  (slot:∀ b o,b≠X.env.locals→b∈X.fs→b ∉ ch→s.heap.get? b=some o→H b=none→∃ sl,h'.get? b=some { o with slots:=sl }) (free:∀ b o,b ∉ ch→s.heap.get? b=some o→H b=none→H' b=none)
  (there:∀ b o,b ∉ ch→s.heap.get? b=some o→∃ o',h'.get? b=some o')
  (tups:∀ b xs,H b=some (.tup xs)→H' b=some (.tup xs)) (frzs:∀ b o u,H b=some (.frz o u)→H' b=some (.frz o u)) (tbls:∀ b ps,H b=some (.tbl ps)→∃ more,H' b=some (.tbl (ps++more)))
  (ns:∀ m,s.heap.Ns X.env.locals m→h'.Ns X.env.locals m) (hok:HOk X.prog X.w H' h') (hg:AllBare g') :
  Inv X pins σ H' { s with heap:=h',gens:=g',drawn:=d',toks:=t' }:=by
 have neL:∀ b o,X.s₀.heap.get? b=some o→b≠X.env.locals:=fun b o e=>Nat.ne_of_lt (Nat.lt_of_lt_of_le (Heap.lt_size e) I.ok.above)
 have neC:∀ b o,X.s₀.heap.get? b=some o→b ∉ X.ex→b ∉ ch:=fun b o e hx hb=>by
  rcases (hch b hb).1 with z | z
  ·exact hx z
  ·exact absurd (Nat.lt_of_lt_of_le (Heap.lt_size e) z) (Nat.lt_irrefl _)
 have cellK:∀ x c,X.env.cells.lookup x=some c→∀ v,s.heap.IsCell c v→h'.IsCell c v:=fun x c e v ⟨o,ho,hd⟩=>by
  have nch:c ∉ ch:=fun z=>(hch c z).2.2.1 x c e rfl
  by_cases hc:c∈X.fs
  ·obtain ⟨sl,q⟩:=slot c o (I.cne x c e) hc nch ho (I.freeC x c e)
   exact ⟨_,q,hd⟩
  ·exact ⟨o,keep c o (I.cne x c e) hc nch ho (I.freeC x c e),hd⟩
 refine ⟨I.ok,I.os,hg,⟨fun b o e n hb hx=>?_,fun b o e n hb hx=>?_,fun b o e n hx=>?_,fun b o e hx=>?_,fun b xs e=>tups b xs (I.base.tups b xs e),fun b o xs e=>frzs b o xs (I.base.frzs b o xs e),fun b ps e=>?_⟩,?_,fun x c e=>?_,?_,fun x c e=>?_,fun p hp=>?_,hok,I.len⟩
 ·exact keep b o (neL b o e) hb (neC b o e hx) (I.base.keep b o e n hb hx) (I.base.free b o e n hx)
 ·obtain ⟨sl,e1⟩:=I.base.slot b o e n hb hx
  obtain ⟨sl',e2⟩:=slot b _ (neL b o e) hb (neC b o e hx) e1 (I.base.free b o e n hx)
  exact ⟨sl',e2⟩
 ·obtain ⟨o',e1⟩:=I.base.there b o e hx
  exact free b o' (neC b o e hx) e1 (I.base.free b o e n hx)
 ·obtain ⟨o',e1⟩:=I.base.there b o e hx
  exact there b o' (neC b o e hx) e1
 ·obtain ⟨m1,e1⟩:=I.base.tbls b ps e
  obtain ⟨m2,e2⟩:=tbls b _ e1
  exact ⟨m1++m2,by rw [e2,Array.append_assoc]⟩
 ·obtain ⟨m,hn,hl⟩:=I.loc
  refine ⟨m,ns m hn,fun i x v e1 e2 e3=>?_⟩
  obtain ⟨u,r,l⟩:=hl i x v e1 e2 e3
  refine ⟨u,r,?_⟩
  rcases l with l | ⟨k,c,e,z⟩
  ·exact .inl l
  ·exact .inr ⟨k,c,e,cellK x c e _ z⟩
 ·obtain ⟨v,z⟩:=I.cell x c e
  exact ⟨v,cellK x c e v z⟩
 ·obtain ⟨m,⟨o,_,_,ho,_⟩,_⟩:=I.loc
  exact free _ o (fun z=>(hch _ z).2.1 rfl) ho I.free
 ·obtain ⟨v,o,ho,hd⟩:=I.cell x c e
  exact free c o (fun z=>(hch c z).2.2.1 x c e rfl) ho (I.freeC x c e)
 ·obtain ⟨e,n,ne,nf,d⟩:=I.pin p hp
  have nch:p.1 ∉ ch:=fun z=>(hch p.1 z).2.2.2 p hp rfl
  exact ⟨keep p.1 p.2 ne nf nch e n,free p.1 p.2 nch e n,ne,nf,d⟩
theorem Inv.un {t':Nat} (I:Inv X pins σ H s) (u:Un X.fs [] H H' s.heap h') (hok:HOk X.prog X.w H' h'):Inv X pins σ H' { s with heap:=h',toks:=t' }:=by
 obtain ⟨m,⟨o,es,ep,ho,r⟩,_⟩:=id I.loc
 obtain ⟨sl,hL⟩:=u.any ho I.free (by simp)
 exact I.step (g':=s.gens) (d':=s.drawn) (ch:=[]) (fun _ z=>nomatch z) (fun b o _ hb _ e n=>u.keep b o e n hb (by simp)) (fun b o _ hb _ e n=>u.slot b o e n hb (by simp)) (fun b o _ e n=>u.free b o e n (by simp)) (fun b o _ e=>u.there b o e (by simp)) u.tups u.frzs u.tbls (fun m' hm=>by
  obtain ⟨o',es',ep',ho',r'⟩:=hm
  rw [ho] at ho'; cases ho'
  exact ⟨_,es',ep',hL,r'⟩) hok I.bare
theorem Inv.call {g':Array GenState} {t':Nat} {d':Drawn} {ch:List Addr} (I:Inv X pins σ H s) (u:Un (frs X.stack) ch H H' s.heap h') (hok:HOk X.prog X.w H' h') (hg:AllBare g')
  (hch:∀ b∈ch,(b∈X.ex∨X.s₀.heap.objs.size≤b)∧b≠X.env.locals∧(∀ x c,X.env.cells.lookup x=some c→c≠b)∧∀ p∈X.pn++pins,p.1≠b) :
  Inv X pins σ H' { s with heap:=h',gens:=g',drawn:=d',toks:=t' }:=by
 obtain ⟨m,⟨o,es,ep,ho,r⟩,_⟩:=id I.loc
 obtain ⟨sl,hL⟩:=u.any ho I.free fun z=>(hch _ z).2.1 rfl
 exact I.step (ch:=ch) hch (fun b o hL hb hc e n=>u.keep b o e n (fun z=>(List.mem_cons.mp (I.stkSub b z)).elim hL hb) hc) (fun b o _ _ hc e n=>u.any e n hc) (fun b o hc e n=>u.free b o e n hc) (fun b o hc e=>u.there b o e hc) u.tups u.frzs u.tbls (fun m' hm=>by
  obtain ⟨o',es',ep',ho',r'⟩:=hm
  rw [ho] at ho'; cases ho'
  exact ⟨_,es',ep',hL,r'⟩) hok hg
theorem Inv.turned {t':Nat} {it:Addr} (I:Inv X pins σ H s) (k:∀ b o,b≠it→s.heap.get? b=some o→h'.get? b=some o) (hn:H it=none) (hL:it≠X.env.locals)
  (h1:it∈X.ex∨X.s₀.heap.objs.size≤it) (h2:∀ x c,X.env.cells.lookup x=some c→c≠it) (h3:∀ p∈X.pn++pins,p.1≠it):Inv X pins σ H { s with heap:=h',toks:=t' }:=by
 have nit:∀ b u,H b=some u→b≠it:=fun b u e z=>by rw [z,hn] at e; cases e
 refine I.step (g':=s.gens) (d':=s.drawn) (ch:=[it]) (fun b hb=>?_) (fun b o _ _ hc e _=>k b o (fun z=>hc (by simp [z])) e) (fun b o _ _ hc e _=>⟨o.slots,k b o (fun z=>hc (by simp [z])) e⟩) (fun _ _ _ _ n=>n)
  (fun b o hc e=>⟨o,k b o (fun z=>hc (by simp [z])) e⟩) (fun _ _ e=>e) (fun _ _ _ e=>e) (fun b ps e=>⟨#[],by rw [e]; simp⟩) (fun m hm=>?_) (fun b u e=>?_) I.bare
 ·have e:b=it:=by simpa using hb
  subst e
  exact ⟨h1,hL,h2,h3⟩
 ·obtain ⟨o,es,ep,ho,r⟩:=hm
  exact ⟨o,es,ep,k _ o (Ne.symm hL) ho,r⟩
 ·refine (I.hok b u e).stay (fun c v hc q=>k c v ?_ q) (fun _ q=>q) fun _ _ q=>q
  rcases hc with z | z
  ·rw [z]; exact nit b u e
  ·exact nit c _ z
theorem Inv.tok (I:Inv X pins σ H s) (t:Nat):Inv X pins σ H { s with toks:=t }:=I.un (h':=s.heap) (t':=t) Un.refl I.hok
theorem Inv.kept {t':Nat} (I:Inv X pins σ H s) (k:∀ b u,s.heap.get? b=some u→h'.get? b=some u):Inv X pins σ H { s with heap:=h',toks:=t' }:=I.un (Un.kept k) (I.hok.kept k)
theorem Inv.laid {a:Addr} {o:HO} {t':Nat} (I:Inv X pins σ H s) (k:∀ b u,s.heap.get? b=some u→h'.get? b=some u) (hp:s.heap.objs.size≤a) (new:fK X.prog X.w (upd H a o) h' a o) :
  Inv X pins σ (upd H a o) { s with heap:=h',toks:=t' }:=I.un (Un.laid k hp (I.hok.fresh hp)) (I.hok.laid k hp new)
theorem Inv.write {x e:Addr} {o:HO} {t':Nat} (I:Inv X pins σ H s) (mu:Mut (H x)) (he:e=x∨H e=some (.own x)) (k:∀ b u,b≠e→s.heap.get? b=some u→h'.get? b=some u) (heo:∃ u,h'.get? e=some u)
  (new:fK X.prog X.w (upd H x o) h' x o):Inv X pins σ (upd H x o) { s with heap:=h',toks:=t' }:=I.un (Un.write mu he k heo) (I.hok.write mu he k heo new)
theorem Inv.pins_of {pins':List (Addr × Obj)} (I:Inv X pins σ H s) (h:∀ p∈pins',s.heap.get? p.1=some p.2∧H p.1=none∧p.1≠X.env.locals∧p.1 ∉ X.fs∧∀ v,p.2.data≠.cell v):Inv X pins' σ H s :=
 ⟨I.ok,I.os,I.bare,I.base,I.loc,I.cell,I.free,I.freeC,fun p hp=>(List.mem_append.mp hp).elim (fun z=>I.pin p (List.mem_append_left _ z)) (h p),I.hok,I.len⟩
theorem zT {N:List Str} (hN:N.Nodup) {i j:Nat} {x:Str} (a:N[i]?=some x) (b:N[j]?=some x):i=j:=by
 obtain ⟨h1,e1⟩:=List.getElem?_eq_some_iff.mp a
 obtain ⟨h2,e2⟩:=List.getElem?_eq_some_iff.mp b
 exact (List.getElem_inj hN).mp (e1.trans e2.symm)
theorem abA {M:Model} {A:Around} {E:Value→Shared→Prop} {i:Nat} {x:Str} {v:V} {u:Value} {Q:Unit→Shared→Prop} (I:Inv X pins σ H s) (hN:X.N.Nodup) (hi:X.N[i]?=some x) (hx:Loc X.env.scope x) (r:bH v u)
  (h:∀ s',Inv X pins (σ.set i (some v)) H s'→(∃ a,Heap.SameBut a s.heap s'.heap∧(a=X.env.locals∨X.env.cells.lookup x=some a))→Q () s') (hf:X.fn x=true∨X.env.scope.names.lookup x=some .local:=by first | exact .inl rfl | exact .inr rfl | assumption):wpAny M A (storeName X.env x u) Q E s:=by
 obtain ⟨m,hn,hl⟩:=id I.loc
 have hcls:(X.env.scope.kind == .class || (X.env.scope.kind == .module && X.env.locals != X.env.globals))=false:=by rw [I.ok.kind]; rfl
 have hiσ:i < σ.length:=by rw [I.len]; exact (List.getElem?_eq_some_iff.mp hi).1
 have cne:=I.cne
 have tracked:∀ {a:Addr} {h':Heap},(∃ o,s.heap.get? a=some o∧H a=none)→Heap.SameBut a s.heap h'→HOk X.prog X.w H h':=fun {a h'} ha hs b ob e=>by
  obtain ⟨_,_,hfree⟩:=ha
  refine (I.hok b ob e).stay (fun c w' hc q=>(hs.2 c ?_).trans q) (fun _ q=>q) fun _ _ q=>q
  rintro rfl
  rcases hc with rfl | hc
  ·rw [hfree] at e; cases e
  ·rw [hfree] at hc; cases hc
 rcases hx with hk | hk
 ·refine wpAny_storeName_local hk hn (fun h' hn' hs=>?_) hcls
  obtain ⟨oL,_,_,hoL,_⟩:=id hn
  refine h _ ⟨I.ok,I.os,I.bare,⟨fun b o e n hb hx=>?_,fun b o e n hb hx=>?_,I.base.free,fun b o e hx=>?_,I.base.tups,I.base.frzs,I.base.tbls⟩,⟨_,hn',fun j y v' e1 e2 e3=>?_⟩,fun y c e=>?_,I.free,I.freeC,fun p hp=>?_,tracked ⟨oL,hoL,I.free⟩ hs,by simpa using I.len⟩ ⟨_,hs,.inl rfl⟩
  ·exact (hs.2 b (Nat.ne_of_lt (Nat.lt_of_lt_of_le (Heap.lt_size e) I.ok.above))).trans (I.base.keep b o e n hb hx)
  ·obtain ⟨sl,e1⟩:=I.base.slot b o e n hb hx
   exact ⟨sl,(hs.2 b (Nat.ne_of_lt (Nat.lt_of_lt_of_le (Heap.lt_size e) I.ok.above))).trans e1⟩
  ·obtain ⟨o',e1⟩:=I.base.there b o e hx
   exact ⟨o',(hs.2 b (Nat.ne_of_lt (Nat.lt_of_lt_of_le (Heap.lt_size e) I.ok.above))).trans e1⟩
  ·by_cases hj:j=i
   ·subst hj
    rw [hi] at e1; cases e1
    rw [List.getElem?_set_self hiσ] at e2
    cases e2
    exact ⟨u,r,.inl ⟨hk,by simp⟩⟩
   ·rw [List.getElem?_set_ne (Ne.symm hj)] at e2
    obtain ⟨u',r',q⟩:=hl j y v' e1 e2 e3
    refine ⟨u',r',?_⟩
    rcases q with ⟨k,e⟩ | ⟨k,c,e,z⟩
    ·refine .inl ⟨k,?_⟩
     have:y≠x:=fun e=>hj (zT hN e1 (e ▸ hi))
     simp [this,e]
    ·exact .inr ⟨k,c,e,z.sameBut hs (cne y c e)⟩
  ·obtain ⟨w',z⟩:=I.cell y c e
   exact ⟨w',z.sameBut hs (cne y c e)⟩
  ·obtain ⟨e,n,ne,nf,d⟩:=I.pin p hp
   exact ⟨(hs.2 p.1 ne).trans e,n,ne,nf,d⟩
 ·have hfn:X.fn x=true:=by
   rcases hf with z | z
   ·exact z
   ·rw [z] at hk; cases hk
  obtain ⟨c,hc⟩:=I.ok.has x (.inl hk)
  obtain ⟨w',z⟩:=I.cell x c hc
  refine wpAny_storeName_cell I.ok.kind hk hc z (fun h' hc' hs=>?_)
  obtain ⟨oc,hoc,hocd⟩:=id z
  refine h { s with heap:=h' } ⟨I.ok,I.os,I.bare,⟨fun b o e n hb hx=>?_,fun b o e n hb hx=>?_,I.base.free,fun b o e hx=>?_,I.base.tups,I.base.frzs,I.base.tbls⟩,⟨m,hn.sameBut hs (Ne.symm (cne x c hc)),fun j y v' e1 e2 e3=>?_⟩,fun y c' e=>?_,I.free,I.freeC,fun p hp=>?_,tracked ⟨oc,hoc,I.freeC x c hc⟩ hs,by simpa using I.len⟩ ⟨c,hs,.inr hc⟩
  ·exact (hs.2 b (Nat.ne_of_lt (Nat.lt_of_lt_of_le (Heap.lt_size e) (I.ok.cab x c hfn hc)))).trans (I.base.keep b o e n hb hx)
  ·obtain ⟨sl,e1⟩:=I.base.slot b o e n hb hx
   exact ⟨sl,(hs.2 b (Nat.ne_of_lt (Nat.lt_of_lt_of_le (Heap.lt_size e) (I.ok.cab x c hfn hc)))).trans e1⟩
  ·obtain ⟨o',e1⟩:=I.base.there b o e hx
   exact ⟨o',(hs.2 b (Nat.ne_of_lt (Nat.lt_of_lt_of_le (Heap.lt_size e) (I.ok.cab x c hfn hc)))).trans e1⟩
  ·by_cases hj:j=i
   ·subst hj
    rw [hi] at e1; cases e1
    rw [List.getElem?_set_self hiσ] at e2
    cases e2
    exact ⟨u,r,.inr ⟨.inl hk,c,hc,hc'⟩⟩
   ·rw [List.getElem?_set_ne (Ne.symm hj)] at e2
    obtain ⟨u',r',q⟩:=hl j y v' e1 e2 e3
    refine ⟨u',r',?_⟩
    rcases q with q | ⟨k,c',e,z'⟩
    ·exact .inl q
    ·refine .inr ⟨k,c',e,z'.sameBut hs ?_⟩
     rintro rfl
     exact hj (zT hN e1 (I.ok.inj _ _ _ e hc ▸ hi))
  ·by_cases hcc:c'=c
   ·subst hcc; exact ⟨_,hc'⟩
   ·obtain ⟨w2,z2⟩:=I.cell y c' e
    exact ⟨w2,z2.sameBut hs hcc⟩
  ·obtain ⟨e,n,ne,nf,d⟩:=I.pin p hp
   refine ⟨(hs.2 p.1 ?_).trans e,n,ne,nf,d⟩
   intro q
   rw [q,hoc] at e
   have q':oc=p.2:=Option.some.inj e
   exact d w' (by rw [← q']; exact hocd)
theorem lH {M:Model} {A:Around} {E:Value→Shared→Prop} {i:Nat} {x:Str} {v:V} {u:Value} {Q:Unit→Shared→Prop} (I:Inv X pins σ H s) (hN:X.N.Nodup) (hi:X.N[i]?=some x) (hx:Loc X.env.scope x) (r:bH v u)
  (h:∀ s',Inv X pins (σ.set i (some v)) H s'→Q () s') (hf:X.fn x=true∨X.env.scope.names.lookup x=some .local:=by first | exact .inl rfl | exact .inr rfl | assumption):wpAny M A (storeName X.env x u) Q E s :=
 abA I hN hi hx r (fun s' I' _=>h s' I') hf
theorem Inv.call' {s':Shared} {ch:List Addr} (I:Inv X pins σ H s) (ho:s'.os=s.os) (u:Un (frs X.stack) ch H H' s.heap s'.heap) (hok:HOk X.prog X.w H' s'.heap) (hg:AllBare s'.gens)
  (hch:∀ b∈ch,(b∈X.ex∨X.s₀.heap.objs.size≤b)∧b≠X.env.locals∧(∀ x c,X.env.cells.lookup x=some c→c≠b)∧∀ p∈X.pn++pins,p.1≠b):Inv X pins σ H' s':=by
 obtain ⟨h',g',d',t',o'⟩:=s'
 have e:o'=s.os:=ho
 subst e
 exact I.call (g':=g') (t':=t') (d':=d') u hok hg hch
end
abbrev XK:=Value→Option Addr→Hp→Prop
abbrev St:=List (Option V)
abbrev VK:=V→Hp→Prop
abbrev TE:=St→Hp→VK→Prop
abbrev TT:=St→Hp→(Bool→Hp→Prop)→Prop
abbrev TA:=St→Hp→(List V→Hp→Prop)→Prop
structure jG where
 nx:St→Hp→Prop
 rt:VK
 bk:St→Hp→Prop:=fun _ _=>False
 ct:St→Hp→Prop:=fun _ _=>False
abbrev TS:=jG→St→Hp→Prop
def EP (X:Cx) (pins:List (Addr × Obj)) (σ:St) (Q:VK) (u:Value) (s':Shared):Prop:=∃ v H',Inv X pins σ H' s'∧bH v u∧Q v H'
def TP (X:Cx) (pins:List (Addr × Obj)) (σ:St) (Q:Bool→Hp→Prop) (b:Bool) (s':Shared):Prop:=∃ H',Inv X pins σ H' s'∧Q b H'
def AP (X:Cx) (pins:List (Addr × Obj)) (σ:St) (Q:List V→Hp→Prop) (us:List Value) (s':Shared):Prop:=∃ vs H',Inv X pins σ H' s'∧aX vs us∧Q vs H'
def SP (X:Cx) (pins:List (Addr × Obj)) (D:jG) (f:Flow) (s':Shared):Prop :=
 match f with
 | .next=>∃ σ' H',Inv X pins σ' H' s'∧D.nx σ' H'
 | .brk=>∃ σ' H',Inv X pins σ' H' s'∧D.bk σ' H'
 | .cont=>∃ σ' H',Inv X pins σ' H' s'∧D.ct σ' H'
 | .ret u=>∃ v σ' H',Inv X pins σ' H' s'∧bH v u∧D.rt v H'
def PE (X:Cx) (e:Expr) (t:TE):Prop :=
 ∀ (pins:List (Addr × Obj)) (s:Shared) (σ:St) (H:Hp) (Q:VK),Inv X pins σ H s→t σ H Q→wpAny (model X.prog X.w) X.A (eval e X.env) (EP X pins σ Q) X.xe s
def PT (X:Cx) (e:Expr) (t:TT):Prop :=
 ∀ (pins:List (Addr × Obj)) (s:Shared) (σ:St) (H:Hp) (Q:Bool→Hp→Prop),Inv X pins σ H s→t σ H Q→wpAny (model X.prog X.w) X.A (isTrue e X.env (eval e X.env)) (TP X pins σ Q) X.xe s
def PW (X:Cx) (e:Expr) (t:TT):Prop :=
 ∀ (whole:Sem Value) (pins:List (Addr × Obj)) (s:Shared) (σ:St) (H:Hp) (Q:Bool→Hp→Prop),Inv X pins σ H s→t σ H Q→wpAny (model X.prog X.w) X.A (isTrue e X.env whole) (TP X pins σ Q) X.xe s
theorem PW.pt {X:Cx} {e:Expr} {t:TT} (h:PW X e t):PT X e t:=h _
def PA (X:Cx) (es:List Expr) (t:TA):Prop :=
 ∀ (pos:Pos) (pins:List (Addr × Obj)) (s:Shared) (σ:St) (H:Hp) (Q:List V→Hp→Prop),Inv X pins σ H s→t σ H Q→wpAny (model X.prog X.w) X.A (spliced (backTo pos (starEach es X.env))) (AP X pins σ Q) X.xe s
def PS (X:Cx) (st:Stmt) (t:TS):Prop :=
 ∀ (pins:List (Addr × Obj)) (s:Shared) (σ:St) (H:Hp) (D:jG),Inv X pins σ H s→t D σ H→wpAny (model X.prog X.w) X.A (exec st X.env) (SP X pins D) X.xe s
def PSs (X:Cx) (st:List Stmt) (t:TS):Prop :=
 ∀ (pins:List (Addr × Obj)) (s:Shared) (σ:St) (H:Hp) (D:jG),Inv X pins σ H s→t D σ H→wpAny (model X.prog X.w) X.A (execs st X.env) (SP X pins D) X.xe s
theorem thn {α:Type} {t:Sem α} {Q Q':α→Shared→Prop} {M:Model} {A:Around} {E:Value→Shared→Prop} {s:Shared} (h:wpAny M A t Q E s) (hQ:∀ a s,Q a s→Q' a s):wpAny M A t Q' E s:=wpAny_mono h hQ fun _ _ x=>x
end L2
namespace L2
open PySem PySem.Spec PyProof.Rows
section
variable {X:Cx}
theorem bin {a b:Expr} {ta tb:TE} (ha:PE X a ta) (hb:PE X b tb) {pins:List (Addr × Obj)} {s:Shared} {σ:St} {H:Hp} {R:V→V→Hp→Prop} (I:Inv X pins σ H s) (h:ta σ H fun x H1=>tb σ H1 fun y H2=>R x y H2)
  {α:Type} {Q:α→Shared→Prop} {f:Value→Value→Sem α}
  (hf:∀ v u s2 x y H2,Inv X pins σ H2 s2→bH x v→bH y u→R x y H2→wpAny (model X.prog X.w) X.A (f v u) Q X.xe s2) :
  wpAny (model X.prog X.w) X.A (eval a X.env) (fun v s₁=>wpAny (model X.prog X.w) X.A (eval b X.env) (fun u s₂=>wpAny (model X.prog X.w) X.A (f v u) Q X.xe s₂) X.xe s₁) X.xe s:=by
 refine thn (ha pins s σ H _ I h) fun v s1 ⟨x,H1,I1,r1,q1⟩=>?_
 refine thn (hb pins s1 σ H1 _ I1 q1) fun u s2 ⟨y,H2,I2,r2,q2⟩=>?_
 exact hf v u s2 x y H2 I2 r1 r2 q2
def ahS (i:Nat):TE:=fun σ H Q=>∃ v,σ[i]?=some (some v)∧Q v H
def tC (v:V):TE:=fun _ H Q=>Q v H
theorem adr {i:Nat} {x:Str} {pos:Pos} (hN:X.N[i]?=some x) (hv:Vis X.env.scope x) (hd:(x == ("__debug__":Str))=false:=by decide) (hcd:(x == ("__classdict__":Str))=false:=by decide):PE X (.Name x pos) (ahS i):=by
 intro pins s σ H Q I h
 obtain ⟨v,e,h⟩:=h
 obtain ⟨m,hn,hl⟩:=I.loc
 obtain ⟨u,r,l⟩:=hl i x v hN e hv
 have fin:EP X pins σ Q u s:=⟨v,H,I,r,h⟩
 rcases l with ⟨hk,hm⟩ | ⟨hk,c,hc,hcell⟩
 ·exact wpAny_Name (wpAny_loadName_local I.ok.kind hk hn hm fin) hd
 ·rcases hk with hk | hk
  ·exact wpAny_Name (wpAny_loadName_cell I.ok.kind hk hc hcell fin) hd
  ·exact wpAny_Name (wpAny_loadName_free I.ok.kind hk hc hcell fin hcd) hd
theorem af7 {i j pos}:PE X (.Constant (.int i) j pos) (tC (.int i)):=fun _ _ _ H _ I h=>wpAny_Constant_int ⟨.int i,H,I.tok _,⟨_,rfl⟩,h⟩
theorem ahp {b j pos}:PE X (.Constant (.bool b) j pos) (tC (.bl b)):=fun _ _ _ H _ I h=>Constant_bool ⟨.bl b,H,I,rfl,h⟩
def Gl (X:Cx) (x:Str):Prop:=X.env.kindOf x=some .globalImplicit
theorem abR {E:Value→Shared→Prop} {pins:List (Addr × Obj)} {s:Shared} {σ:St} {H:Hp} {x:Str} {u:Value} {pos:Pos} {Q:Value→Shared→Prop} (I:Inv X pins σ H s) (hg:Gl X x) (hm:X.mg x=some u) (h:Q u s)
  (hd:(x == ("__debug__":Str))=false:=by decide):wpAny (model X.prog X.w) X.A (eval (.Name x pos) X.env) Q E s :=
 Calls.Name_function_global I.ok.kind hg (Calls.loadGlobal_global (by rw [I.ok.glob]; exact I.mod.glob.keeps I.bk) hm h) hd
theorem nA {E:Value→Shared→Prop} {pins:List (Addr × Obj)} {s:Shared} {σ:St} {H:Hp} {x:Str} {u:Value} {pos:Pos} {Q:Value→Shared→Prop} (I:Inv X pins σ H s) (hg:Gl X x) (hm:X.mg x=none) (hv:bootBuiltins x=some u) (h:Q u s)
  (hn:x≠"__name__":=by decide) (hd:(x == ("__debug__":Str))=false:=by decide):wpAny (model X.prog X.w) X.A (eval (.Name x pos) X.env) Q E s:=by
 obtain ⟨mb,h1,h2⟩:=I.mod.blt
 exact Calls.Name_function_global I.ok.kind hg (Calls.loadGlobal_builtin (by rw [I.ok.glob]; exact I.mod.glob.keeps I.bk) hm (by rw [I.ok.blt]; exact h1.keeps I.bk) ((h2 x hn).trans hv) h) hd
theorem ad3 {x:Str} {v:V} {u:Value} {pos:Pos} (hg:Gl X x) (hm:X.mg x=some u) (r:bH v u) (hd:(x == ("__debug__":Str))=false:=by decide):PE X (.Name x pos) (tC v) :=
 fun _ _ _ H _ I h=>abR I hg hm ⟨v,H,I,r,h⟩ hd
variable {a b:Expr} {ta tb:TE} {pos:Pos}
def tB (t:TE):TT:=fun σ H Q=>t σ H fun x H1=>∃ c,x=.bl c∧Q c H1
variable {tA tB':TT} {dX:List Expr}
def aid (t u:TT):TT:=fun σ H Q=>t σ H fun c H1=>if c=true then u σ H1 Q else Q false H1
def tOr (t u:TT):TT:=fun σ H Q=>t σ H fun c H1=>if c=true then Q true H1 else u σ H1 Q
theorem aeX (ha:PT X a tA):PW X (.BoolOp .And [a] pos) tA:=by
 intro wh pins s σ H Q I h
 refine isTrue_and (thn (ha pins s σ H Q I h) fun c s1 e=>?_)
 cases c with
 | true=>exact isTrue_and_nil e
 | false=>exact e
theorem afi (ha:PT X a tA):PW X (.BoolOp .Or [a] pos) tA:=by
 intro wh pins s σ H Q I h
 refine isTrue_or (thn (ha pins s σ H Q I h) fun c s1 e=>?_)
 cases c with
 | false=>exact isTrue_or_nil e
 | true=>exact e
theorem agw (ha:PT X a tA) (hb:PW X (.BoolOp .And (b :: dX) pos) tB'):PW X (.BoolOp .And (a :: b :: dX) pos) (aid tA tB'):=by
 intro wh pins s σ H Q I h
 refine isTrue_and (thn (ha pins s σ H _ I h) fun c s1 ⟨H1,I1,q1⟩=>?_)
 cases c with
 | true=>exact hb wh pins s1 σ H1 Q I1 q1
 | false=>exact ⟨H1,I1,q1⟩
theorem ag7 (ha:PT X a tA) (hb:PW X (.BoolOp .Or (b :: dX) pos) tB'):PW X (.BoolOp .Or (a :: b :: dX) pos) (tOr tA tB'):=by
 intro wh pins s σ H Q I h
 refine isTrue_or (thn (ha pins s σ H _ I h) fun c s1 ⟨H1,I1,q1⟩=>?_)
 cases c with
 | true=>exact ⟨H1,I1,q1⟩
 | false=>exact hb wh pins s1 σ H1 Q I1 q1
def ah2 (ta tb:TE):TE:=fun σ H Q=>ta σ H fun x H1=>∃ c,x=.bl c∧if c=true then Q (.bl true) H1 else tb σ H1 Q
def ahc (ta:TE):TE:=fun σ H Q=>ta σ H fun x H1=>∃ c,x=.bl c∧Q (.bl (!c)) H1
theorem agi {op} {t:TE} (h:PE X a t):PE X (.BoolOp op [a] pos) t:=fun pins s σ H Q I hw=>BoolOp_one (h pins s σ H Q I hw)
theorem ag0 (ha:PE X a ta) (hb:PE X (.BoolOp .Or (b :: dX) pos) tb):PE X (.BoolOp .Or (a :: b :: dX) pos) (ah2 ta tb):=by
 intro pins s σ H Q I h
 refine BoolOp_or (thn (ha pins s σ H _ I h) fun v s1 ⟨x,H1,I1,r1,q1⟩=>?_)
 obtain ⟨c,rfl,q1⟩:=q1
 cases r1
 refine wpAny_truthy_bool ?_
 cases c with
 | false=>exact hb pins s1 σ H1 Q I1 q1
 | true=>exact ⟨.bl true,H1,I1,rfl,q1⟩
theorem afw (ha:PE X a ta):PE X (.UnaryOp .Not a pos) (ahc ta):=by
 intro pins s σ H Q I h
 refine UnaryOp_ (thn (ha pins s σ H _ I h) fun v s1 ⟨x,H1,I1,r1,q1⟩=>?_)
 obtain ⟨c,rfl,q1⟩:=q1
 cases r1
 exact not_of (wpAny_truthy_bool ⟨.bl (!c),H1,I1,rfl,q1⟩)
def tIf (t:TT) (ta tb:TE):TE:=fun σ H Q=>t σ H fun c H1=>if c=true then ta σ H1 Q else tb σ H1 Q
theorem acs {c:Expr} (hc:PT X c tA) (ha:PE X a ta) (hb:PE X b tb):PE X (.IfExp c a b pos) (tIf tA ta tb):=by
 intro pins s σ H Q I h
 refine wpAny_IfExp (thn (hc pins s σ H _ I h) fun d s1 ⟨H1,I1,q1⟩=>?_)
 cases d with
 | true=>exact ha pins s1 σ H1 Q I1 q1
 | false=>exact hb pins s1 σ H1 Q I1 q1
end
end L2
namespace L2
open PySem PySem.Spec PyProof.Rows
def SqL (K:PySem.W.Frag) (H:Hp) (a:Addr) (xs:List V):Prop :=
 Rd H a (.lst xs) ∨
  ∃ (o:Obj) (its:Array Value) (n:Nat),K.lookup a=some o∧o.cls=.type "list"∧o.dict=none∧o.data=.seq its n∧its.size≤sizeLine∧aX xs its.toList
def SqT (K:PySem.W.Frag) (H:Hp) (a:Addr) (xs:List V):Prop :=
 Rd H a (.tup xs) ∨
  ∃ (o:Obj) (its:Array Value) (n:Nat),K.lookup a=some o∧o.cls=.type "tuple"∧o.data=.seq its n∧its.size≤sizeLine∧aX xs its.toList
def aiu:Value→Option V
 | .none=>some .non
 | .bool b=>some (.bl b)
 | .int i _=>some (.int i)
 | .str x _=>some (.str x)
 | .bytes b _=>some (.byt b)
 | .float b _=>some (.flt b)
 | .ref a=>some (.ref a)
 | .type n=>some (.ty n)
 | _=>none
theorem bH.abs {x:V} {u:Value} (r:bH x u):aiu u=some x:=by
 cases x with
 | non=>cases r; rfl
 | bl _=>cases r; rfl
 | int _=>obtain ⟨t,rfl⟩:=r; rfl
 | str _=>obtain ⟨t,rfl⟩:=r; rfl
 | byt _=>obtain ⟨t,rfl⟩:=r; rfl
 | flt _=>obtain ⟨t,rfl⟩:=r; rfl
 | ref _=>cases r; rfl
 | ty _=>cases r; rfl
theorem bH.inj {x y:V} {u:Value} (r:bH x u) (q:bH y u):x=y:=Option.some.inj (r.abs.symm.trans q.abs)
theorem aX.inj:∀ {xs ys:List V} {us:List Value},aX xs us→aX ys us→xs=ys
 | _,_,_,.nil,.nil=>rfl
 | _,_,_,.cons r t,.cons r' t'=>by rw [r.inj r',aX.inj t t']
section
variable {X:Cx} {pins:List (Addr × Obj)} {σ:St} {H:Hp} {s:Shared} {a:Addr} {xs ys:List V}
theorem SqL.of {K:PySem.W.Frag} (h:H a=some (.lst xs)):SqL K H a xs:=.inl (.inl h)
theorem SqT.of {K:PySem.W.Frag} (h:H a=some (.tup xs)):SqT K H a xs:=.inl (.inl h)
theorem Inv.list (I:Inv X pins σ H s) (h:SqL X.K H a xs):∃ its:List Value,aX xs its∧PlainL s.heap a its.toArray∧xs.length≤sizeLine:=by
 rcases h with h | ⟨o,its,n,hk,hc,hd,hs,hz,r⟩
 ·obtain ⟨z,its,n,r,e⟩:=h.ok I.hok
  exact ⟨its,r,⟨_,n,e,rfl,rfl,rfl⟩,z⟩
 ·refine ⟨its.toList,r,⟨o,n,I.kIn a o hk,hc,hd,by simpa using hs⟩,?_⟩
  have e:=r.length
  simp only [Array.length_toList] at e
  omega
theorem Inv.tuple (I:Inv X pins σ H s) (h:SqT X.K H a xs):∃ its:List Value,aX xs its∧IsTup s.heap a its.toArray∧xs.length≤sizeLine:=by
 rcases h with h | ⟨o,its,n,hk,hc,hs,hz,r⟩
 ·obtain ⟨z,its,r,p⟩:=h.ok I.hok
  exact ⟨its,r,p,z⟩
 ·refine ⟨its.toList,r,⟨o,I.kIn a o hk,hc,n,by simpa using hs⟩,?_⟩
  have e:=r.length
  simp only [Array.length_toList] at e
  omega
theorem Inv.list_inj (I:Inv X pins σ H s) (h:SqL X.K H a xs) (h':SqL X.K H a ys):xs=ys:=by
 obtain ⟨its,r,⟨o,n,e,_,_,d⟩,_⟩:=I.list h
 obtain ⟨its',r',⟨o',n',e',_,_,d'⟩,_⟩:=I.list h'
 rw [e] at e'; cases e'
 rw [d] at d'
 injection d' with d1 _
 have:its=its':=by simpa using congrArg Array.toList d1
 subst this
 exact r.inj r'
theorem Inv.tuple_inj (I:Inv X pins σ H s) (h:SqT X.K H a xs) (h':SqT X.K H a ys):xs=ys:=by
 obtain ⟨its,r,⟨o,e,_,n,d⟩,_⟩:=I.tuple h
 obtain ⟨its',r',⟨o',e',_,n',d'⟩,_⟩:=I.tuple h'
 rw [e] at e'; cases e'
 rw [d] at d'
 injection d' with d1 _
 have:its=its':=by simpa using congrArg Array.toList d1
 subst this
 exact r.inj r'
end
abbrev Cx.wish (X:Cx) (E:Value→Shared→Prop):Cx:={ X with xe:=E }
abbrev Cx.nox (X:Cx):Cx:=X.wish fun _ _=>False
theorem Cx.Ok.wish {X:Cx} (ok:X.Ok) (E:Value→Shared→Prop):(X.wish E).Ok :=
 ⟨ok.mod,ok.kind,ok.glob,ok.blt,ok.above,ok.inj,ok.has,ok.cab,ok.hd,ok.frames,ok.stk,ok.exf,ok.bs,ok.bsz,ok.noex,ok.exfs,ok.funs,ok.frf⟩
theorem Cx.Ok.unwish {X:Cx} {E:Value→Shared→Prop} (ok:(X.wish E).Ok):X.Ok :=
 ⟨ok.mod,ok.kind,ok.glob,ok.blt,ok.above,ok.inj,ok.has,ok.cab,ok.hd,ok.frames,ok.stk,ok.exf,ok.bs,ok.bsz,ok.noex,ok.exfs,ok.funs,ok.frf⟩
section
variable {X:Cx} {pins:List (Addr × Obj)} {σ:St} {H:Hp} {s:Shared} {E:Value→Shared→Prop}
theorem Inv.wish (I:Inv X pins σ H s) (E:Value→Shared→Prop):Inv (X.wish E) pins σ H s:=⟨I.ok.wish E,I.os,I.bare,I.base,I.loc,I.cell,I.free,I.freeC,I.pin,I.hok,I.len⟩
theorem Inv.unwish (I:Inv (X.wish E) pins σ H s):Inv X pins σ H s:=⟨I.ok.unwish,I.os,I.bare,I.base,I.loc,I.cell,I.free,I.freeC,I.pin,I.hok,I.len⟩
theorem SP.unwish {D:jG} {f:Flow} {s':Shared} (h:SP (X.wish E) pins D f s'):SP X pins D f s':=by
 cases f with
 | next=>obtain ⟨σ',H',I,q⟩:=h; exact ⟨σ',H',I.unwish,q⟩
 | brk=>obtain ⟨σ',H',I,q⟩:=h; exact ⟨σ',H',I.unwish,q⟩
 | cont=>obtain ⟨σ',H',I,q⟩:=h; exact ⟨σ',H',I.unwish,q⟩
 | ret u=>obtain ⟨v,σ',H',I,r,q⟩:=h; exact ⟨v,σ',H',I.unwish,r,q⟩
theorem PSs.nox {st:List Stmt} {t:TS} (h:PSs X.nox st t):PSs X st t:=fun pins s σ H D I hw =>
 wpAny_mono (h pins s σ H D (I.wish _) hw) (fun _ _ q=>q.unwish) fun _ _ z=>False.elim z
end
section
variable {X:Cx} {st:Stmt} {dX:List Stmt} {t u:TS} {e:Expr} {te:TE} {pos:Pos}
def agS:TS:=fun D σ H=>D.nx σ H
def aiD (t u:TS):TS:=fun D σ H=>t { D with nx:=u D } σ H
theorem aew:PSs X [] agS:=fun _ _ σ H _ I h=>wpAny_execs_nil ⟨σ,H,I,h⟩
theorem ac5 (h1:PS X st t) (h2:PSs X dX u):PSs X (st :: dX) (aiD t u):=by
 intro pins s σ H D I h
 refine wpAny_execs_cons (thn (h1 pins s σ H { D with nx:=u D } I h) fun f s1 q=>?_)
 cases f with
 | next =>
  obtain ⟨σ',H',I',q⟩:=q
  exact h2 pins s1 σ' H' D I' q
 | ret v=>exact q
 | brk=>exact q
 | cont=>exact q
theorem ae5 (h1:PS X st t):PSs X [st] t:=by
 intro pins s σ H D I h
 refine wpAny_execs_cons (thn (h1 pins s σ H D I h) fun f s1 q=>?_)
 cases f with
 | next=>exact wpAny_execs_nil q
 | ret v=>exact q
 | brk=>exact q
 | cont=>exact q
theorem Inv.quiet {pins:List (Addr × Obj)} {σ:St} {H:Hp} {s:Shared} (I:Inv X pins σ H s):interactive X.env=false:=by simp [interactive,I.ok.kind]
def agV (te:TE):TS:=fun D σ H=>te σ H fun _ H1=>D.nx σ H1
theorem aem (he:PE X e te) (hs:swapsWith e none pos.line X.env=pure false:=by rfl):PS X (.Expr e pos) (agV te):=by
 intro pins s σ H D I h
 exact wpAny_Expr_any (thn (he pins s σ H _ I h) fun v s1 ⟨x,H1,I1,r1,q1⟩=>⟨σ,H1,I1,q1⟩) I.quiet hs
def ah8 (te:TE):TS:=fun D σ H=>te σ H D.rt
theorem afU (he:PE X e te):PS X (.Return (some e) pos) (ah8 te):=by
 intro pins s σ H D I h
 exact wpAny_Return_some (thn (he pins s σ H _ I h) fun v s1 ⟨x,H1,I1,r1,q1⟩=>⟨x,σ,H1,I1,r1,q1⟩)
def aiy (c:TT) (t u:TS):TS:=fun D σ H=>c σ H fun b H1=>if b=true then t D σ H1 else u D σ H1
theorem agU {c:Expr} {a b:List Stmt} {tc:TT} (hc:PT X c tc) (ha:PSs X a t) (hb:PSs X b u):PS X (.If c a b pos) (aiy tc t u):=by
 intro pins s σ H D I h
 refine wpAny_If (thn (hc pins s σ H _ I h) fun d s1 ⟨H1,I1,q1⟩=>?_)
 cases d with
 | true=>exact ha pins s1 σ H1 D I1 q1
 | false=>exact hb pins s1 σ H1 D I1 q1
end
abbrev TG:=V→St→Hp→(St→Hp→Prop)→Prop
abbrev TGs:=List V→St→Hp→(St→Hp→Prop)→Prop
def PG (X:Cx) (target:Expr) (t:TG):Prop :=
 ∀ (pins:List (Addr × Obj)) (s:Shared) (σ:St) (H:Hp) (v:V) (u:Value) (Q:St→Hp→Prop),Inv X pins σ H s→bH v u→t v σ H Q →
  wpAny (model X.prog X.w) X.A (assign target X.env u) (fun _ s'=>∃ σ' H',Inv X pins σ' H' s'∧Q σ' H') X.xe s
def PGs (X:Cx) (ts:List Expr) (t:TGs):Prop :=
 ∀ (pins:List (Addr × Obj)) (s:Shared) (σ:St) (H:Hp) (vs:List V) (us:List Value) (Q:St→Hp→Prop),Inv X pins σ H s→aX vs us→t vs σ H Q →
  wpAny (model X.prog X.w) X.A (assignInOrder ((assignEach ts X.env).map (·.2)) us) (fun _ s'=>∃ σ' H',Inv X pins σ' H' s'∧Q σ' H') X.xe s
abbrev qY:=V→V→V→Hp→(Hp→Prop)→Prop
def wK (X:Cx) (t:qY):Prop :=
 ∀ (pins:List (Addr × Obj)) (s:Shared) (σ:St) (H:Hp) (o i v:V) (ov iv u:Value) (Q:Hp→Prop),Inv X pins σ H s→bH o ov→bH i iv→bH v u→t o i v H Q →
  wpAny (model X.prog X.w) X.A (setItem ov iv u) (fun _ s'=>∃ H',Inv X pins σ H' s'∧Q H') X.xe s
abbrev TIp:=V→V→Hp→VK→Prop
def PIp (X:Cx) (op:Operator) (t:TIp):Prop :=
 ∀ (pins:List (Addr × Obj)) (s:Shared) (σ:St) (H:Hp) (x y:V) (v u:Value) (Q:VK),Inv X pins σ H s→bH x v→bH y u→t x y H Q →
  wpAny (model X.prog X.w) X.A (inplaceOp op v u) (EP X pins σ Q) X.xe s
section
variable {X:Cx} {pos:Pos}
def qC (i:Nat):TG:=fun v σ H Q=>Q (σ.set i (some v)) H
theorem aeh {i:Nat} {x:Str} (hN:X.N.Nodup) (hi:X.N[i]?=some x) (hx:Loc X.env.scope x) (hf:X.fn x=true∨X.env.scope.names.lookup x=some .local:=by first | exact .inl rfl | exact .inr rfl | assumption):PG X (.Name x pos) (qC i):=by
 intro pins s σ H v u Q I r h
 exact wpAny_assign_Name (lH I hN hi hx r (fun s' I'=>⟨_,H,I',h⟩) hf)
def aiq:TGs:=fun vs σ H Q=>vs=[]∧Q σ H
def ahr (t:TG) (u:TGs):TGs:=fun vs σ H Q=>∃ v r,vs=v :: r∧t v σ H fun σ' H'=>u r σ' H' Q
theorem ae4:PGs X [] aiq:=by
 intro pins s σ H vs us Q I r h
 obtain ⟨e,h⟩:=h
 subst e
 cases r
 exact assignInOrder_nil ⟨σ,H,I,h⟩
theorem acW {e:Expr} {es:List Expr} {t:TG} {u:TGs} (h1:PG X e t) (h2:PGs X es u)
  (hs:(assignEach (e :: es) X.env).map (·.2)=assign e X.env :: (assignEach es X.env).map (·.2):=by rfl):PGs X (e :: es) (ahr t u):=by
 intro pins s σ H vs us Q I r h
 obtain ⟨v,vr,e1,h⟩:=h
 subst e1
 cases r with
 | cons r rr =>
  rw [hs]
  refine assignInOrder_cons (thn (h1 pins s σ H _ _ _ I r h) fun _ s1 ⟨σ1,H1,I1,q1⟩=>?_)
  exact h2 pins s1 σ1 H1 _ _ Q I1 rr q1
def aim (K:PySem.W.Frag) (n:Nat) (t:TGs):TG:=fun v σ H Q=>∃ a xs,v=.ref a∧SqT K H a xs∧xs.length=n∧t xs σ H Q
theorem afY {es:List Expr} {k:Nat} {t:TGs} {n:Nat} (hc:X.calm=true) (h:PGs X es t)
  (hn:(assignEach es X.env).length=n:=by rfl) (hst:(assignEach es X.env).findIdx? (·.1)=none:=by rfl):PG X (.Tuple es k pos) (aim X.K n t):=by
 intro pins s σ H v u Q I r hw
 obtain ⟨a,xs,e1,hq,hl,hw⟩:=hw
 subst e1
 cases r
 obtain ⟨its,rv,ht,hz⟩:=I.tuple hq
 refine assign_Tuple_tuple (I.ok.hd hc) ht (by simp [hn,← hl,rv.length]) hst fun h' hx=>?_
 have I1:Inv X pins σ H { s with heap:=h' }:=I.kept (t':=s.toks) fun b o e=>hx b o (Nat.ne_of_lt (Heap.lt_size e)) e
 exact h pins _ σ H xs _ Q I1 (by simpa using rv) hw
def aiz (to ti:TE) (t:qY):TG:=fun v σ H Q=>to σ H fun o H1=>ti σ H1 fun i H2=>t o i v H2 fun H3=>Q σ H3
theorem adv {o i:Expr} {to ti:TE} {t:qY} (ho:PE X o to) (hi:PE X i ti) (hs:wK X t)
  (ha:∀ v,assign (.Subscript o i pos) X.env v=(do
   let ov ← holding [v] (eval o X.env)
   let iv ← holding [v,ov] (eval i X.env)
   standAt pos
   holding [v,ov,iv] (setItem ov iv v)
   release [v,ov,iv] []):=by intro _; rfl):PG X (.Subscript o i pos) (aiz to ti t):=by
 intro pins s σ H v u Q I r h
 rw [ha]
 refine wpAny_bind (wpAny_holding (thn (ho pins s σ H _ I h) fun ov s1 ⟨x,H1,I1,r1,q1⟩=>?_))
 refine wpAny_bind (wpAny_holding (thn (hi pins s1 σ H1 _ I1 q1) fun iv s2 ⟨y,H2,I2,r2,q2⟩=>?_))
 refine wpAny_bind (wpAny_standAt (wpAny_bind (wpAny_holding (thn (hs pins s2 σ H2 x y v ov iv u _ I2 r1 r2 r q2) fun _ s3 ⟨H3,I3,q3⟩=>?_))))
 exact wpAny_release ⟨σ,H3,I3,q3⟩
def rB (te:TE) (g:TG):TS:=fun D σ H=>te σ H fun x H1=>g x σ H1 D.nx
theorem uF {tg e:Expr} {te:TE} {g:TG} (he:PE X e te) (hg:PG X tg g) (hs:swapsWithSole [tg] e pos.line X.env=pure false:=by rfl) (hw:swappedStores [tg] e X.env=pure none:=by rfl)
  (h1:(assignEach [tg] X.env).map (·.2)=[assign tg X.env]:=by rfl):PS X (.Assign [tg] e pos) (rB te g):=by
 intro pins s σ H D I h
 refine wpAny_Assign_stores (thn (he pins s σ H _ I h) fun v s1 ⟨x,H1,I1,r1,q1⟩=>?_) hs hw
 rw [h1]
 exact thn (hg pins s1 σ H1 x v _ I1 r1 q1) fun _ s2 q=>q
theorem afa {i:Nat} {x:Str} {e:Expr} {te:TE} {pos':Pos} (hN:X.N.Nodup) (hi:X.N[i]?=some x) (hx:Loc X.env.scope x) (he:PE X e te) (hs:swapsWith e (some (.Name x pos')) pos.line X.env=pure false:=by rfl) (hf:X.fn x=true∨X.env.scope.names.lookup x=some .local:=by first | exact .inl rfl | exact .inr rfl | assumption) :
  PS X (.Assign [.Name x pos'] e pos) (rB te (qC i)):=by
 intro pins s σ H D I h
 refine wpAny_Assign_Name (thn (he pins s σ H _ I h) fun v s1 ⟨y,H1,I1,r1,q1⟩=>?_) hs
 exact lH I1 hN hi hx r1 (fun s2 I2=>⟨_,H1,I2,q1⟩) hf
def ais (i j:Nat) (ta:TA):TS:=fun D σ H=>ta σ H fun vs H1=>∃ v w,vs=[v,w]∧D.nx ((σ.set i (some v)).set j (some w)) H1
theorem ae9 {i j:Nat} {x y:Str} {a b:Expr} {ta:TA} {px py pt:Pos} {kt k2 pt2} (hc:X.calm=true) (hN:X.N.Nodup) (hi:X.N[i]?=some x) (hj:X.N[j]?=some y) (hij:i≠j)
  (hx:X.env.scope.names.lookup x=some .local) (hy:X.env.scope.names.lookup y=some .local) (ha:PA X [a,b] ta)
  (hw:swappedStores [.Tuple [.Name x px,.Name y py] kt pt] (.Tuple [a,b] k2 pt2) X.env=pure (some [x,y]))
  (hs:swapsWithSole [.Tuple [.Name x px,.Name y py] kt pt] (.Tuple [a,b] k2 pt2) pos.line X.env=pure false:=by rfl) :
  PS X (.Assign [.Tuple [.Name x px,.Name y py] kt pt] (.Tuple [a,b] k2 pt2) pos) (ais i j ta):=by
 intro pins s σ H D I h
 rw [exec_Assign_arm]
 refine wpAny_bind (wpAny_standAt ?_)
 rw [hs]
 refine wpAny_bind (wpAny_pure ?_)
 rw [if_neg (by decide)]
 refine wpAny_bind (Tuple_ (thn (ha _ pins s σ H _ I h) fun us s1 ⟨vs,H1,I1,r1,q1⟩=>?_))
 obtain ⟨v,w,e1,q1⟩:=q1
 subst e1
 obtain ⟨u1,u2,rfl,rv,rw'⟩:∃ u1 u2,us=[u1,u2]∧bH v u1∧bH w u2:=by
  cases r1 with
  | cons p q =>
   cases q with
   | cons p' q' =>
    cases q'
    exact ⟨_,_,rfl,p,p'⟩
 refine wpAny_newObj_type ?_ (by show 2≤sizeLine; decide)
 have I2:Inv X pins σ H1 { s1 with heap:=s1.heap.push { cls:=.type "tuple",data:=.seq [u1,u2].toArray } }:=I1.kept (t':=s1.toks) fun b o e=>Heap.get?_push_of_some _ e
 rw [hw]
 refine wpAny_bind (wpAny_pure ?_)
 show wpAny (model X.prog X.w) X.A (do rule "assign.swapped-stores"; let items ← unpackItems (.ref s1.heap.objs.size) 2 none; assignInOrder [fun v=>bindName X.env y v,fun v=>bindName X.env x v] items.reverse; pure Flow.next) _ _ _
 refine wpAny_bind (wpAny_rule (wpAny_bind (unpackItems_tuple (items:=#[u1,u2]) (I.ok.hd hc) (IsTup.new s1.heap _) fun h' hx'=>?_)))
 have I3:=I2.kept (h':=h') (t':=s1.toks) fun b o e=>hx' b o (Nat.ne_of_lt (Heap.lt_size e)) e
 show wpAny _ _ (assignInOrder [fun v=>bindName X.env y v,fun v=>bindName X.env x v] [u2,u1] >>= fun _=>pure Flow.next) _ _ _
 refine wpAny_bind (assignInOrder_cons (wpAny_bindName (lH I3 hN hj (.inl hy) rw' (fun s2 I4=>?_) (.inr hy))))
 refine assignInOrder_cons (wpAny_bindName (lH I4 hN hi (.inl hx) rv (fun s3 I5=>assignInOrder_nil (wpAny_pure ?_)) (.inr hx)))
 rw [List.set_comm _ _ (Ne.symm hij)] at I5
 exact ⟨_,H1,I5,q1⟩
end
section
variable {X:Cx} {pos:Pos}
def afb (c:TT) (tb:TS):TS:=fun D σ H=>∃ W:Nat→St→Hp→Prop,(∃ m,W m σ H)∧∀ m σ H,W m σ H →
 c σ H fun b H1=>if b=true then ∃ N:St→Hp→Prop,(∀ σ' H',N σ' H'→∃ m',m' < m∧W m' σ' H')∧tb { D with nx:=N,ct:=N,bk:=D.nx } σ H1 else D.nx σ H1
theorem adn {c:Expr} {body:List Stmt} {tc:TT} {tb:TS} (hp:PassesOwn (model X.prog X.w) X.A X.env X.xe) (hc:PT X c tc) (hb:PSs X body tb):PS X (.While c body [] pos) (afb tc tb):=by
 intro pins s σ H D I h
 obtain ⟨W,⟨m0,w0⟩,turn⟩:=h
 refine wpAny_While (codeAny_whileLoop (fun n s'=>∃ σ' H',Inv X pins σ' H' s'∧W n σ' H') ?_ m0 ⟨σ,H,I,w0⟩)
 rintro n s1 ⟨σ1,H1,I1,w1⟩
 refine wpAny_passesOwn hp (thn (hc pins s1 σ1 H1 _ I1 (turn n σ1 H1 w1)) fun b s2 ⟨H2,I2,q2⟩=>?_)
 cases b with
 | true =>
  obtain ⟨N,hN,q2⟩:=q2
  rw [if_pos rfl]
  refine wpAny_passesOwn hp (thn (hb pins s2 σ1 H2 _ I2 q2) fun f s3 q3=>?_)
  cases f with
  | next =>
   obtain ⟨σ3,H3,I3,n3⟩:=q3
   obtain ⟨m',hm,w3⟩:=hN σ3 H3 n3
   exact ⟨m',hm,σ3,H3,I3,w3⟩
  | cont =>
   obtain ⟨σ3,H3,I3,n3⟩:=q3
   obtain ⟨m',hm,w3⟩:=hN σ3 H3 n3
   exact ⟨m',hm,σ3,H3,I3,w3⟩
  | brk=>exact q3
  | ret v=>exact q3
 | false =>
  rw [if_neg Bool.false_ne_true]
  exact wpAny_execs_nil ⟨σ1,H2,I2,q2⟩
end
structure It where
 go:Nat→Hp→Prop
 yld:Nat→Hp→V→Hp→Prop
 stop:Nat→Hp→Prop
def dQ (X:Cx) (pins:List (Addr × Obj)) (H:Hp) (b:Addr):Prop :=
 H b=none∧b≠X.env.locals∧b ∉ X.fs∧(b∈X.ex∨X.s₀.heap.objs.size≤b)∧(∀ x c,X.env.cells.lookup x=some c→c≠b)∧∀ p∈X.pn++pins,p.1≠b
theorem Inv.fpOk {X:Cx} {pins:List (Addr × Obj)} {σ:St} {H H':Hp} {s:Shared} {b:Addr} (I:Inv X pins σ H s) (hb:s.heap.objs.size≤b) (hn:H' b=none):dQ X pins H' b:=by
 refine ⟨hn,Nat.ne_of_gt (Nat.lt_of_lt_of_le I.lt hb),I.nofs hb,.inr (Nat.le_trans I.sz hb),fun x c e z=>?_,fun p hp z=>?_⟩
 ·obtain ⟨v,q⟩:=I.cell x c e
  exact absurd (Nat.lt_of_lt_of_le q.lt (by rw [z]; exact hb)) (Nat.lt_irrefl _)
 ·exact absurd (Nat.lt_of_lt_of_le (Heap.lt_size (I.pin p hp).1) (by rw [z]; exact hb)) (Nat.lt_irrefl _)
structure mE (P:Program) (w:World) (K:PySem.W.Frag) (tg:Expr) (J:It) (fp:List Addr) (it:Addr) (tn:Nat→Heap→Prop):Prop where
 mem:it∈fp
 obj:∀ i h,tn i h→∀ b∈fp,∃ o,h.get? b=some o∧∀ v,o.data≠.cell v
 keep:∀ i h h',tn i h→(∀ b∈fp,∀ o,h.get? b=some o→h'.get? b=some o)→tn i h'
 item:∀ (X:Cx),X.prog=P→X.w=w→X.K=K→X.calm=true→∀ (i:Nat) (pins:List (Addr × Obj)) (s:Shared) (σ:St) (H:Hp) (E:Value→Shared→Prop),Inv X pins σ H s→(∀ b∈fp,dQ X pins H b)→tn i s.heap→J.go i H →
  wpAny (model P w) X.A (pyNext (.ref it)) (fun r s1=>∃ u,r=some u ∧
   wpAny (model P w) X.A (letOwnedTupleGo tg (.ref it) u) (fun _ s2=>∃ x H',Inv X pins σ H' s2∧bH x u∧J.yld i H x H'∧tn (i+1) s2.heap∧∀ b∈fp,H' b=none) E s1) E s
 done:∀ (X:Cx),X.prog=P→X.w=w→X.K=K→X.calm=true→∀ (i:Nat) (pins:List (Addr × Obj)) (s:Shared) (σ:St) (H:Hp) (E:Value→Shared→Prop),Inv X pins σ H s→(∀ b∈fp,dQ X pins H b)→tn i s.heap→J.stop i H →
  wpAny (model P w) X.A (pyNext (.ref it)) (fun r s1=>r=none∧Inv X pins σ H s1) E s
 self:∀ (A:Around) (i:Nat) (s:Shared) (Q:Value→Shared→Prop) (E:Value→Shared→Prop),tn i s.heap→Q (.ref it) s→wpAny (model P w) A (pyIter (.ref it)) Q E s
abbrev TI:=St→Hp→(It→Hp→Prop)→Prop
def PIE (X:Cx) (pins:List (Addr × Obj)) (σ:St) (tg:Expr) (R:It→Hp→Prop) (itv:Value) (s2:Shared):Prop :=
 ∃ (it:Addr) (fp:List Addr) (tn:Nat→Heap→Prop) (J:It) (H':Hp),itv=.ref it∧Inv X pins σ H' s2∧mE X.prog X.w X.K tg J fp it tn∧tn 0 s2.heap∧(∀ b∈fp,dQ X pins H' b)∧R J H'
def PI (X:Cx) (tg iter:Expr) (wi:TI):Prop :=
 ∀ (pins:List (Addr × Obj)) (s:Shared) (σ:St) (H:Hp) (R:It→Hp→Prop),Inv X pins σ H s→wi σ H R →
  wpAny (model X.prog X.w) X.A (eval iter X.env) (fun v s1=>wpAny (model X.prog X.w) X.A (pyIter v) (PIE X pins σ tg R) X.xe s1) X.xe s
theorem vI {M : Model} {A : Around} {E : Value → Shared → Prop} {s : Shared} {tg : Expr} {it : Addr} {u : Value} {o : Obj} {n : String} {vs : Array Value} {Q : Unit → Shared → Prop} (ho : s.heap.get? it = some o) (hc : o.cls = .type n) (hd : o.data = .fields vs)
    (hn : ["enumerate", "zip", "dict_itemiterator", "dict_reverseitemiterator", "odict_iterator", "itertools.zip_longest", "itertools.pairwise"].contains n = false) (hQ : Q () s) : wpAny M A (letOwnedTupleGo tg (.ref it) u) Q E s := by
  unfold letOwnedTupleGo
  cases tg <;> first
    | exact wpAny_pure hQ
    | (cases u <;> first
        | exact wpAny_pure hQ
        | (refine wpAny_bind (wpAny_load ho ?_)
           rw [hc, hd]
           show wpAny M A (if (["enumerate", "zip", "dict_itemiterator", "dict_reverseitemiterator", "odict_iterator", "itertools.zip_longest", "itertools.pairwise"].contains n && vs[0]? == some (rawInt _)) = true then _ else _) Q E s
           rw [if_neg (by intro h; rw [hn, Bool.false_and] at h; cases h)]
           exact wpAny_pure hQ))
def Itl (K:PySem.W.Frag) (a:Addr):It :=
 ⟨fun i H=>∃ xs x,SqL K H a xs∧xs[i]?=some x,fun i H x H'=>H'=H∧∀ xs,SqL K H a xs→xs[i]?=some x,fun i H=>∃ xs,SqL K H a xs∧xs.length≤i⟩
def Itt (K:PySem.W.Frag) (a:Addr):It :=
 ⟨fun i H=>∃ xs x,SqT K H a xs∧xs[i]?=some x,fun i H x H'=>H'=H∧∀ xs,SqT K H a xs→xs[i]?=some x,fun i H=>∃ xs,SqT K H a xs∧xs.length≤i⟩
def Itr (lo:Int) (n:Nat):It:=⟨fun i _=>i < n,fun i H x H'=>H'=H∧x=.int (lo+i),fun i _=>n≤i⟩
theorem abk {P:Program} {w:World} {K:PySem.W.Frag} {tg:Expr} (a it:Addr):mE P w K tg (Itl K a) [it] it (fun i h=>h.IsListIter it a i) where
 mem:=by simp
 obj:=fun i h st b hb=>by
  have e:b=it:=by simpa using hb
  subst e
  obtain ⟨o,e,c,d⟩:=st
  exact ⟨o,e,fun v z=>by rw [d] at z; cases z⟩
 keep:=fun i h h' st k=>st.at fun o e=>k it (by simp) o e
 item:=by
  intro X hP hw hK hc i pins s σ H E I hf st hg
  subst hP hw hK
  obtain ⟨xs,x,hq,hx⟩:=hg
  obtain ⟨its,rv,p,hz⟩:=I.list hq
  obtain ⟨u,hu,ru⟩:=rv.get hx
  obtain ⟨f0,f1,f2,f3,f4,f5⟩:=hf it (by simp)
  refine wpAny_pyNext_list_item st p.isList (x:=u) (by simpa using hu) fun h' st' sb=>?_
  have I1:Inv X pins σ H { s with heap:=h' }:=I.turned (t':=s.toks) (fun b o hb e=>(sb.2 b hb).trans e) f0 f1 f3 f4 f5
  obtain ⟨o,e,c,d⟩:=id st'
  exact ⟨u,rfl,vI (s:={ s with heap:=h' }) e c d (by decide) ⟨x,H,I1,ru,⟨rfl,fun ys hy=>by rw [I.list_inj hy hq]; exact hx⟩,st',fun b hb=>(hf b hb).1⟩⟩
 done:=by
  intro X hP hw hK hc i pins s σ H E I hf st hg
  subst hP hw hK
  obtain ⟨xs,hq,hx⟩:=hg
  obtain ⟨its,rv,p,hz⟩:=I.list hq
  obtain ⟨f0,f1,f2,f3,f4,f5⟩:=hf it (by simp)
  have hl:=rv.length
  exact wpAny_pyNext_list_end (I.ok.hd hc) st p.isList (by simp; omega) fun h' eb=>⟨rfl,I.turned (t':=s.toks) (fun b o hb e=>eb b o hb e) f0 f1 f3 f4 f5⟩
 self:=fun _ _ _ _ _ st h=>wpAny_pyIter_listiter st h
theorem aa9 {P:Program} {w:World} {K:PySem.W.Frag} {tg:Expr} (a it:Addr):mE P w K tg (Itt K a) [it] it (fun i h=>h.IsTupleIter it a i) where
 mem:=by simp
 obj:=fun i h st b hb=>by
  have e:b=it:=by simpa using hb
  subst e
  obtain ⟨o,e,c,d⟩:=st
  exact ⟨o,e,fun v z=>by rw [d] at z; cases z⟩
 keep:=fun i h h' st k=>st.at fun o e=>k it (by simp) o e
 item:=by
  intro X hP hw hK hc i pins s σ H E I hf st hg
  subst hP hw hK
  obtain ⟨xs,x,hq,hx⟩:=hg
  obtain ⟨its,rv,p,hz⟩:=I.tuple hq
  obtain ⟨u,hu,ru⟩:=rv.get hx
  obtain ⟨f0,f1,f2,f3,f4,f5⟩:=hf it (by simp)
  refine wpAny_pyNext_tuple_item st (show s.heap.IsTuple a its.toArray from p) (x:=u) (by simpa using hu) fun h' st' sb=>?_
  have I1:Inv X pins σ H { s with heap:=h' }:=I.turned (t':=s.toks) (fun b o hb e=>(sb.2 b hb).trans e) f0 f1 f3 f4 f5
  obtain ⟨o,e,c,d⟩:=id st'
  exact ⟨u,rfl,vI (s:={ s with heap:=h' }) e c d (by decide) ⟨x,H,I1,ru,⟨rfl,fun ys hy=>by rw [I.tuple_inj hy hq]; exact hx⟩,st',fun b hb=>(hf b hb).1⟩⟩
 done:=by
  intro X hP hw hK hc i pins s σ H E I hf st hg
  subst hP hw hK
  obtain ⟨xs,hq,hx⟩:=hg
  obtain ⟨its,rv,p,hz⟩:=I.tuple hq
  obtain ⟨f0,f1,f2,f3,f4,f5⟩:=hf it (by simp)
  have hl:=rv.length
  exact wpAny_pyNext_tuple_end (I.ok.hd hc) st (show s.heap.IsTuple a its.toArray from p) (by simp; omega) fun h' eb=>⟨rfl,I.turned (t':=s.toks) (fun b o hb e=>eb b o hb e) f0 f1 f3 f4 f5⟩
 self:=fun _ _ _ _ _ st h=>wpAny_pyIter_tupleiter st h
theorem abf {P:Program} {w:World} {K:PySem.W.Frag} {tg:Expr} (it:Addr) (lo:Int) (n:Nat):mE P w K tg (Itr lo n) [it] it (fun i h=>IsRangeIter h it (lo+(i:Nat)*1) ((n:Int) - (i:Nat)) 1) where
 mem:=by simp
 obj:=fun i h st b hb=>by
  have e:b=it:=by simpa using hb
  subst e
  exact ⟨_,st,fun v z=>by
   have z':Data.fields _=Data.cell v:=z
   cases z'⟩
 keep:=fun i h h' st k=>k it (by simp) _ st
 item:=by
  intro X hP hw hK hc i pins s σ H E I hf st hg
  subst hP hw hK
  obtain ⟨f0,f1,f2,f3,f4,f5⟩:=hf it (by simp)
  have W:=Walks.range (prog:=X.prog) (w:=X.w) (I.ok.hd hc) it lo 1 n
  refine W.item i s _ _ hg st fun v h' tk hv st' kk=>?_
  obtain ⟨t,rfl⟩:=hv
  have I1:Inv X pins σ H { s with heap:=h',toks:=tk }:=I.turned (fun b o hb e=>kk b o (by simpa using hb) e) f0 f1 f3 f4 f5
  refine ⟨_,rfl,vI (s:={ s with heap:=h',toks:=tk }) (n:="range_iterator") st' rfl rfl (by decide) ⟨.int (lo+i),H,I1,⟨t,?_⟩,⟨rfl,rfl⟩,st',fun b hb=>(hf b hb).1⟩⟩
  rw [Int.mul_one]
 done:=by
  intro X hP hw hK hc i pins s σ H E I hf st hg
  subst hP hw hK
  obtain ⟨f0,f1,f2,f3,f4,f5⟩:=hf it (by simp)
  exact wpAny_pyNext_range_end (I.ok.hd hc) st (by have:n≤i:=hg; omega) fun h' eb=>⟨rfl,I.turned (t':=s.toks) (fun b o hb e=>eb b o hb e) f0 f1 f3 f4 f5⟩
 self:=fun _ _ _ _ _ st h=>wpAny_pyIter_rangeiter st h
end L2
namespace L2
open PySem PySem.Spec PyProof.Rows
section
variable {X:Cx} {tg:Expr}
theorem acp {pins:List (Addr × Obj)} {σ:St} {H:Hp} {s:Shared} {R:It→Hp→Prop} {E:Value→Shared→Prop} {lo hi:Int} {t u v:Tok} {tk:Nat} (I:Inv X pins σ H s) (h1:-(2 ^ 62)≤lo) (h2:lo < 2 ^ 62) (h3:-(2 ^ 62)≤hi) (h4:hi < 2 ^ 62)
  (q:R (Itr lo (hi - lo).toNat) H):wpAny (model X.prog X.w) X.A (pyIter (.ref s.heap.objs.size)) (PIE X pins σ tg R) E { s with heap:=s.heap.push { cls:=.type "range",data:=.fields #[.int lo t,.int hi u,.int 1 v] },toks:=tk }:=by
 refine wpAny_pyIter_range (IsRange.new ..) (small_one h1 h2 h3 h4) ?_
 have I1:Inv X pins σ H { s with heap:=s.heap.push { cls:=.type "range",data:=.fields #[.int lo t,.int hi u,.int 1 v] },toks:=tk }:=I.kept fun b o e=>Heap.get?_push_of_some _ e
 refine ⟨(s.heap.push { cls:=.type "range",data:=.fields #[.int lo t,.int hi u,.int 1 v] }).objs.size,[(s.heap.push { cls:=.type "range",data:=.fields #[.int lo t,.int hi u,.int 1 v] }).objs.size],_,_,H,rfl,
  I1.kept (t':=tk) fun b o e=>Heap.get?_push_of_some _ e,abf _ lo (hi - lo).toNat,?_,fun b hb=>?_,q⟩
 ·have e1:lo+((0:Nat):Int)*1=lo:=by simp
  have e2:(((hi - lo).toNat:Nat):Int) - ((0:Nat):Int)=Builtin.Range.rangeSize lo hi 1:=by rw [rangeSize_one]; split <;> omega
  show IsRangeIter _ _ (lo+((0:Nat):Int)*1) ((((hi - lo).toNat:Nat):Int) - ((0:Nat):Int)) 1
  rw [e1,e2]
  exact Heap.get?_push_size _ rfl
 ·have e:b=(s.heap.push { cls:=.type "range",data:=.fields #[.int lo t,.int hi u,.int 1 v] }).objs.size:=by simpa using hb
  subst e
  exact I1.fpOk (Nat.le_refl _) (I1.hok.fresh (Nat.le_refl _))
def agT (ta:TA):TI:=fun σ H R=>ta σ H fun vs H1=>∃ j:Int,vs=[.int j]∧-(2 ^ 62)≤j∧j < 2 ^ 62∧R (Itr 0 j.toNat) H1
theorem aco {a:Expr} {ta:TA} {p pos:Pos} (hg:Gl X "range") (hm:X.mg "range"=none) (ha:PA X [a] ta) (hs:starEach [a] X.env=[(false,eval a X.env)]:=by rfl):PI X tg (.Call (.Name "range" p) [a] [] pos) (agT ta):=by
 intro pins s σ H R I h
 refine Call_ (nA I hg hm boot_range (PyProof.Rows.callWith_type1 (thn (ha pos pins s σ H _ I h) fun us s1 ⟨vs,H1,I1,r1,q1⟩=>?_) hs rfl))
 obtain ⟨j,e,q1,q2,q⟩:=q1
 subst e
 cases r1 with
 | cons r rr =>
  cases rr
  obtain ⟨t,rfl⟩:=r
  exact call_range_1 (acp I1 (by omega) (by omega) q1 q2 (by simpa using q))
def ah5 (wi:TI) (g:TG) (tb:TS):TS:=fun D σ H=>wi σ H fun J H1=>∃ W:Nat→Nat→St→Hp→Prop,(∃ m,W 0 m σ H1)∧∀ i m σ H,W i m σ H →
 (J.stop i H∧D.nx σ H)∨(J.go i H∧∃ N:St→Hp→Prop,(∀ σ' H',N σ' H'→∃ m',m' < m∧W (i+1) m' σ' H')∧∀ x H',J.yld i H x H'→g x σ H' fun σ2 H2=>tb { D with nx:=N,ct:=N,bk:=D.nx } σ2 H2)
def pO (fp:List Addr) (h:Heap):List (Addr × Obj):=fp.filterMap fun b=>(h.get? b).map fun o=>(b,o)
theorem iI {fp:List Addr} {h:Heap} {b:Addr} {o:Obj} (hb:b∈fp) (e:h.get? b=some o):(b,o)∈pO fp h:=List.mem_filterMap.mpr ⟨b,hb,by rw [e]; rfl⟩
theorem ab3 {fp:List Addr} {h:Heap} {p:Addr × Obj} (hp:p∈pO fp h):p.1∈fp∧h.get? p.1=some p.2:=by
 obtain ⟨b,hb,e⟩:=List.mem_filterMap.mp hp
 cases q:h.get? b with
 | none=>rw [q] at e; cases e
 | some o =>
  rw [q] at e
  have e':(b,o)=p:=Option.some.inj e
  subst e'
  exact ⟨hb,q⟩
theorem Inv.pinned {pins:List (Addr × Obj)} {σ:St} {H:Hp} {s:Shared} {fp:List Addr} (I:Inv X pins σ H s) (hf:∀ b∈fp,dQ X pins H b) (ho:∀ b∈fp,∃ o,s.heap.get? b=some o∧∀ v,o.data≠.cell v):Inv X (pins++pO fp s.heap) σ H s :=
 I.pins_of fun p hp=>(List.mem_append.mp hp).elim (fun z=>I.pin p (List.mem_append_right _ z)) fun z=>by
  obtain ⟨hb,e⟩:=ab3 z
  obtain ⟨f0,f1,f2,_⟩:=hf p.1 hb
  obtain ⟨o,e',d⟩:=ho p.1 hb
  rw [e] at e'; cases e'
  exact ⟨e,f0,f1,f2,d⟩
theorem Inv.unpinned {pins pl:List (Addr × Obj)} {σ:St} {H:Hp} {s:Shared} (I:Inv X (pins++pl) σ H s):Inv X pins σ H s:=I.pins_of fun p hp=>I.pin p (List.mem_append_right _ (List.mem_append_left _ hp))
theorem afv {iter:Expr} {body:List Stmt} {wi:TI} {g:TG} {tb:TS} {pos:Pos} (hp:PassesOwn (model X.prog X.w) X.A X.env X.xe) (hc:X.calm=true) (hi:PI X tg iter wi) (hg:PG X tg g) (hb:PSs X body tb)
  (hs:∀ x,foldedSetIterable iter X.env x=pure x:=by intro _; rfl):PS X (.For tg iter body [] pos) (ah5 wi g tb):=by
 intro pins s σ H D I h
 refine wpAny_For (thn (hi pins s σ H _ I h) fun v s1 h1=>thn h1 fun itv s2 h2=>?_) hs
 obtain ⟨it,fp,tn,J,H2,e,I2,T,st2,f2,W,⟨m0,w0⟩,turn⟩:=h2
 subst e
 -- what stays true of the iterator's objects through the loop
 have stat:∀ {H':Hp},(∀ b∈fp,H' b=none)→∀ b∈fp,dQ X pins H' b:=fun hn b hb=>⟨hn b hb,(f2 b hb).2⟩
 refine codeAny_forLoop_any (fun n s'=>∃ i σ' H',Inv X pins σ' H' s'∧tn i s'.heap∧(∀ b∈fp,H' b=none)∧W i n σ' H') ?_ m0 ⟨0,σ,H2,I2,st2,fun b hb=>(f2 b hb).1,w0⟩
 rintro n s3 ⟨i,σ3,H3,I3,st3,fr3,w3⟩
 rcases turn i n σ3 H3 w3 with ⟨stop,qn⟩ | ⟨go,N,hN,step⟩
 ·refine wpAny_passesOwn hp (thn (T.done X rfl rfl rfl hc i pins s3 σ3 H3 X.xe I3 (stat fr3) st3 stop) fun r s4 ⟨hr,I4⟩=>?_)
  subst hr
  exact wpAny_execs_nil ⟨σ3,H3,I4,qn⟩
 ·refine wpAny_passesOwn hp (thn (T.item X rfl rfl rfl hc i pins s3 σ3 H3 X.xe I3 (stat fr3) st3 go) fun r s4 ⟨u,hr,h4⟩=>?_)
  subst hr
  refine wpAny_passesOwn hp (thn h4 fun _ s5 ⟨x,H5,I5,r5,y5,st5,fr5⟩=>?_)
  have I5':=I5.pinned (stat fr5) (T.obj _ _ st5)
  refine wpAny_passesOwn hp (thn (hg _ s5 σ3 H5 x u _ I5' r5 (step x H5 y5)) fun _ s6 ⟨σ6,H6,I6,q6⟩=>?_)
  refine wpAny_passesOwn hp (thn (hb _ s6 σ6 H6 _ I6 q6) fun f s7 q7=>?_)
  have again:∀ {σ7:St} {H7:Hp},Inv X (pins++pO fp s5.heap) σ7 H7 s7→N σ7 H7→∃ m,m < n∧∃ i σ' H',Inv X pins σ' H' s7∧tn i s7.heap∧(∀ b∈fp,H' b=none)∧W i m σ' H':=fun {σ7 H7} I7 n7=>by
   obtain ⟨m',hm,w7⟩:=hN σ7 H7 n7
   refine ⟨m',hm,i+1,σ7,H7,I7.unpinned,T.keep _ _ _ st5 fun b hb o e=>(I7.pin (b,o) (List.mem_append_right _ (List.mem_append_right _ (iI hb e)))).1,fun b hb=>?_,w7⟩
   obtain ⟨o,e,d⟩:=T.obj _ _ st5 b hb
   exact (I7.pin (b,o) (List.mem_append_right _ (List.mem_append_right _ (iI hb e)))).2.1
  cases f with
  | next=>obtain ⟨σ7,H7,I7,n7⟩:=q7; exact again I7 n7
  | cont=>obtain ⟨σ7,H7,I7,n7⟩:=q7; exact again I7 n7
  | brk=>obtain ⟨σ7,H7,I7,q7⟩:=q7; exact ⟨σ7,H7,I7.unpinned,q7⟩
  | ret v=>obtain ⟨x7,σ7,H7,I7,r7,q7⟩:=q7; exact ⟨x7,σ7,H7,I7.unpinned,r7,q7⟩
end
end L2
namespace L2
open PySem PySem.Spec PyProof.Rows
abbrev R2:=V→V→Hp→VK→Prop
def OpR (X:Cx) (f:Value→Value→Sem Value) (r:R2):Prop :=
 ∀ (pins:List (Addr × Obj)) (s:Shared) (σ:St) (H:Hp) (x y:V) (v u:Value) (Q:VK),Inv X pins σ H s→bH x v→bH y u→r x y H Q →
  wpAny (model X.prog X.w) X.A (f v u) (EP X pins σ Q) X.xe s
def UnR (X:Cx) (f:Value→Sem Value) (r:V→Hp→VK→Prop):Prop :=
 ∀ (pins:List (Addr × Obj)) (s:Shared) (σ:St) (H:Hp) (x:V) (v:Value) (Q:VK),Inv X pins σ H s→bH x v→r x H Q →
  wpAny (model X.prog X.w) X.A (f v) (EP X pins σ Q) X.xe s
def gW (X:Cx) (f:Value) (r:List V→Hp→VK→Prop):Prop :=
 ∀ (pins:List (Addr × Obj)) (s:Shared) (σ:St) (H:Hp) (xs:List V) (us:List Value) (Q:VK),Inv X pins σ H s→aX xs us→r xs H Q →
  wpAny (model X.prog X.w) X.A (call f us) (EP X pins σ Q) X.xe s
def tOp (r:R2) (ta tb:TE):TE:=fun σ H Q=>ta σ H fun x H1=>tb σ H1 fun y H2=>r x y H2 Q
def tUn (r:V→Hp→VK→Prop) (ta:TE):TE:=fun σ H Q=>ta σ H fun x H1=>r x H1 Q
def rI (C:Int→Int→Prop) (g:Int→Int→V):R2:=fun x y H Q=>∃ i j,x=.int i∧y=.int j∧C i j∧Q (g i j) H
def rI0 (g:Int→Int→V):R2:=fun x y H Q=>∃ i j,x=.int i∧y=.int j∧Q (g i j) H
def rU (g:Int→V):V→Hp→VK→Prop:=fun x H Q=>∃ i,x=.int i∧Q (g i) H
section
variable {X:Cx} {a b c:Expr} {ta tb tc:TE} {pos:Pos}
theorem wI (ha:PE X a ta) (hb:PE X b tb) {pins:List (Addr × Obj)} {s:Shared} {σ:St} {H:Hp} {R:V→V→Hp→Prop} (I:Inv X pins σ H s)
  (h:ta σ H fun x H1=>tb σ H1 fun y H2=>R x y H2) {Q:Value→Shared→Prop} {f:Value→Value→Sem Value}
  (hf:∀ v u s2 x y H2,Inv X pins σ H2 s2→bH x v→bH y u→R x y H2→wpAny (model X.prog X.w) X.A (f v u) Q X.xe s2) :
  wpAny (model X.prog X.w) X.A (eval a X.env) (fun v s₁=>wpAny (model X.prog X.w) X.A (eval b X.env) (fun u s₂=>wpAny (model X.prog X.w) X.A (f v u) Q X.xe s₂) X.xe s₁) X.xe s:=by
 refine thn (ha pins s σ H _ I h) fun v s1 ⟨x,H1,I1,r1,q1⟩=>?_
 refine thn (hb pins s1 σ H1 _ I1 q1) fun u s2 ⟨y,H2,I2,r2,q2⟩=>?_
 exact hf v u s2 x y H2 I2 r1 r2 q2
theorem afz {op:Operator} {r:R2} (ho:OpR X (binaryOp op) r) (ha:PE X a ta) (hb:PE X b tb):PE X (.BinOp a op b pos) (tOp r ta tb):=by
 intro pins s σ H Q I h
 exact wpAny_BinOp (wI ha hb I h fun v u s2 x y H2 I2 rx ry q=>ho pins s2 σ H2 x y v u Q I2 rx ry q)
theorem agY {op:UnaryOp} {r:V→Hp→VK→Prop} (ho:UnR X (unaryOp op) r) (ha:PE X a ta):PE X (.UnaryOp op a pos) (tUn r ta):=by
 intro pins s σ H Q I h
 exact UnaryOp_ (thn (ha pins s σ H _ I h) fun v s1 ⟨x,H1,I1,r1,q1⟩=>ho pins s1 σ H1 x v Q I1 r1 q1)
theorem opI {f:Value→Value→Sem Value} {C:Int→Int→Prop} {g:Int→Int→Int}
  (rule:∀ (i j:Int) (t u:Tok) (s:Shared) (Q:Value→Shared→Prop) (E:Value→Shared→Prop),C i j→Q (.int (g i j) s.toks) { s with toks:=s.toks+1 }→wpAny (model X.prog X.w) X.A (f (.int i t) (.int j u)) Q E s) :
  OpR X f (rI C fun i j=>.int (g i j)):=by
 intro pins s σ H x y v u Q I rx ry h
 obtain ⟨i,j,rfl,rfl,hc,q⟩:=h
 obtain ⟨t,rfl⟩:=rx
 obtain ⟨t',rfl⟩:=ry
 exact rule i j t t' s _ _ hc ⟨.int (g i j),H,I.tok _,⟨_,rfl⟩,q⟩
theorem ahI {f:Value→Value→Sem Value} {g:Int→Int→Int}
  (rule:∀ (i j:Int) (t u:Tok) (s:Shared) (Q:Value→Shared→Prop) (E:Value→Shared→Prop),Q (.int (g i j) s.toks) { s with toks:=s.toks+1 }→wpAny (model X.prog X.w) X.A (f (.int i t) (.int j u)) Q E s) :
  OpR X f (rI0 fun i j=>.int (g i j)):=by
 intro pins s σ H x y v u Q I rx ry h
 obtain ⟨i,j,rfl,rfl,q⟩:=h
 obtain ⟨t,rfl⟩:=rx
 obtain ⟨t',rfl⟩:=ry
 exact rule i j t t' s _ _ ⟨.int (g i j),H,I.tok _,⟨_,rfl⟩,q⟩
theorem wP {f:Value→Value→Sem Value} {g:Int→Int→Bool}
  (rule:∀ (i j:Int) (t u:Tok) (s:Shared) (Q:Value→Shared→Prop) (E:Value→Shared→Prop),Q (.bool (g i j)) s→wpAny (model X.prog X.w) X.A (f (.int i t) (.int j u)) Q E s) :
  OpR X f (rI0 fun i j=>.bl (g i j)):=by
 intro pins s σ H x y v u Q I rx ry h
 obtain ⟨i,j,rfl,rfl,q⟩:=h
 obtain ⟨t,rfl⟩:=rx
 obtain ⟨t',rfl⟩:=ry
 exact rule i j t t' s _ _ ⟨.bl (g i j),H,I,rfl,q⟩
def qQ (i j:Int):Prop:=0≤j∧j≤1000000∧i.natAbs < 2 ^ 64
def wF (i j:Int):Prop:=(-(2 ^ 64) < i∧i < 2 ^ 64)∨(-(2 ^ 64) < j∧j < 2 ^ 64)
theorem wF.ok {i j:Int} (h:wF i j):IntMulOk i j:=by
 rcases h with ⟨h1,h2⟩ | ⟨h1,h2⟩
 ·exact .of_left (intBits_le_64 h1 h2)
 ·exact .of_right (intBits_le_64 h1 h2)
theorem afg:OpR X (binaryOp .Add) (rI0 fun i j=>.int (i+j)):=ahI fun _ _ _ _ _ _ _ q=>add_int q
theorem fG:OpR X (binaryOp .Sub) (rI0 fun i j=>.int (i - j)):=ahI fun _ _ _ _ _ _ _ q=>sub_int q
theorem gA:OpR X (binaryOp .Mod) (rI (fun _ j=>j≠0) fun i j=>.int (i.fmod j)):=opI fun _ _ _ _ _ _ _ hc q=>mod_int' hc q
theorem uU:OpR X (binaryOp .Pow) (rI qQ fun i j=>.int (i ^ j.toNat)):=opI fun _ _ _ _ _ _ _ hc q=>pow_int_small hc.1 hc.2.1 hc.2.2 q
theorem unI {f:Value→Sem Value} {g:Int→Int}
  (rule:∀ (i:Int) (t:Tok) (s:Shared) (Q:Value→Shared→Prop) (E:Value→Shared→Prop),Q (.int (g i) s.toks) { s with toks:=s.toks+1 }→wpAny (model X.prog X.w) X.A (f (.int i t)) Q E s) :
  UnR X f (rU fun i=>.int (g i)):=by
 intro pins s σ H x v Q I rx h
 obtain ⟨i,rfl,q⟩:=h
 obtain ⟨t,rfl⟩:=rx
 exact rule i t s _ _ ⟨.int (g i),H,I.tok _,⟨_,rfl⟩,q⟩
theorem eS:UnR X (unaryOp .USub) (rU fun i=>.int (-i)):=unI fun _ _ _ _ _ q=>neg_int q
end
section
variable {X:Cx} {a b c:Expr} {ta tb tc:TE} {pos:Pos}
theorem afB:OpR X (compareOp .Lt) (rI0 fun i j=>.bl (decide (i < j))):=wP fun _ _ _ _ _ _ _ q=>lt_int q
theorem vQ:OpR X (compareOp .Gt) (rI0 fun i j=>.bl (decide (j < i))):=wP fun _ _ _ _ _ _ _ q=>gt_int q
theorem ag5:OpR X (compareOp .GtE) (rI0 fun i j=>.bl (decide (j≤i))):=wP fun _ _ _ _ _ _ _ q=>ge_int q
theorem OpR.or {f:Value→Value→Sem Value} {r r':R2} (h:OpR X f r) (h':OpR X f r'):OpR X f (fun x y H Q=>r x y H Q∨r' x y H Q):=by
 intro pins s σ H x y v u Q I rx ry q
 rcases q with q | q
 ·exact h pins s σ H x y v u Q I rx ry q
 ·exact h' pins s σ H x y v u Q I rx ry q
theorem cO (b:Expr) {op:CmpOp} (h:op≠.In:=by decide) (h2:op≠.NotIn:=by decide):behindInMarks op b=false:=by
 have e1:(op == CmpOp.In)=false:=by cases op <;> first | rfl | exact absurd rfl h
 have e2:(op == CmpOp.NotIn)=false:=by cases op <;> first | rfl | exact absurd rfl h2
 cases b <;> simp [behindInMarks,e1,e2]
theorem aes {op:CmpOp} {r:R2} (ho:OpR X (compareOp op) r) (ha:PE X a ta) (hb:PE X b tb) (hm:behindInMarks op b=false):PE X (.Compare a [op] [b] pos) (tOp r ta tb):=by
 intro pins s σ H Q I h
 exact wpAny_Compare1 (wI ha hb I h fun v u s2 x y H2 I2 rx ry q=>ho pins s2 σ H2 x y v u Q I2 rx ry q) hm
def ag3 (t:TE):TT:=fun σ H Q=>t σ H fun x H'=>∃ k,x=.bl k∧Q k H'
theorem aeO {op:CmpOp} {r:R2} (ho:OpR X (compareOp op) r) (ha:PE X a ta) (hb:PE X b tb) (hm:behindInMarks op b=false):PT X (.Compare a [op] [b] pos) (ag3 (tOp r ta tb)):=by
 intro pins s σ H Q I h
 refine wpAny_isTrue_Compare1 (thn (ha pins s σ H _ I h) fun v s1 ⟨x,H1,I1,r1,q1⟩=>thn (hb pins s1 σ H1 _ I1 q1) fun u s2 ⟨y,H2,I2,r2,q2⟩ =>
  thn (ho pins s2 σ H2 x y v u _ I2 r1 r2 q2) fun c s3 ⟨z,H3,I3,r3,k,e,q3⟩=>?_) hm
 subst e
 cases r3
 exact wpAny_truthy_bool ⟨H3,I3,q3⟩
theorem nC:(sizeLine:Nat) < 2 ^ 63:=by rw [sizeLine_eq]; decide
theorem iT {x:V} {us:List Value} (r:aX [x] us):∃ u,us=[u]∧bH x u:=by
 cases r with
 | cons r1 r2=>cases r2; exact ⟨_,rfl,r1⟩
theorem agO {x y:V} {us:List Value} (r:aX [x,y] us):∃ u w',us=[u,w']∧bH x u∧bH y w':=by
 cases r with
 | cons r1 r2 =>
  cases r2 with
  | cons r3 r4=>cases r4; exact ⟨_,_,rfl,r1,r3⟩
theorem tE:gW X (.builtin "abs") (fun xs H Q=>∃ i,xs=[.int i]∧Q (.int (if i < 0 then -i else i)) H):=by
 intro pins s σ H xs us Q I r h
 obtain ⟨i,rfl,q⟩:=h
 obtain ⟨u,rfl,t,rfl⟩:=iT r
 exact call_abs_int fun u tk=>⟨.int (if i < 0 then -i else i),H,I.tok _,⟨_,rfl⟩,q⟩
theorem rW:gW X (.type "int") (fun xs H Q=>(∃ i,xs=[.int i]∧Q (.int i) H)∨∃ k,xs=[.bl k]∧Q (.int (if k then 1 else 0)) H):=by
 intro pins s σ H xs us Q I r h
 rcases h with ⟨i,rfl,q⟩ | ⟨k,rfl,q⟩
 ·obtain ⟨u,rfl,t,rfl⟩:=iT r
  exact call_int_int ⟨.int i,H,I,⟨_,rfl⟩,q⟩
 ·obtain ⟨u,rfl,r1⟩:=iT r
  cases r1
  exact call_int_bool ⟨.int (if k then 1 else 0),H,I.tok _,⟨_,rfl⟩,q⟩
end
end L2
namespace L2
open PySem PySem.Spec PyProof.Rows
section
variable {prog:Program} {w:World} {A:Around} {E:Value→Shared→Prop} {s:Shared} {K:PySem.W.Frag} {x dx C f:Addr} {mA:Str→Option Value} {name:Str} {v:Value}
end
section
variable {P:Program} {w:World} {H H':Hp} {h h':Heap} {a C dx:Addr} {fs fs':List (Str × V)}
end
structure Con (K:PySem.W.Frag) (C:Addr) (f:Str) (v:V) (u:Value):Prop where
 at_:PySem.W.findIn K (.ref C) f=some (some u)
 rel:bH v u
 get:PySem.W.specialIn K u "__get__"=some none
 cp:PySem.W.copiedNames.contains f=false
section
variable {X:Cx} {pins:List (Addr × Obj)} {σ:St} {H:Hp} {s:Shared} {a C dx:Addr} {fs:List (Str × V)} {f:Str} {v:V} {A:Around} {E:Value→Shared→Prop}
end
section
variable {X:Cx} {o e value:Expr} {f:Str} {pos pos' tpos:Pos} {ta tv:TE}
end
section
variable {X:Cx} {pins:List (Addr × Obj)} {σ:St} {H:Hp} {s:Shared} {A:Around} {E:Value→Shared→Prop} {Q:Value→Shared→Prop} {c:Value} {b:Bool}
end
end L2
namespace L2
open PySem PySem.Spec PyProof.Rows
structure dJ (k:Nat) (A:Around):Prop where
 hd:A.handled=none
 dp:A.depth+3*k+5 < recursionLimit
 un:A.units+16*k+200 < cLine
theorem dJ.mono {j k:Nat} {A:Around} (r:dJ k A) (h:j≤k):dJ j A:=⟨r.hd,by have:=r.dp; omega,by have:=r.un; omega⟩
theorem dJ.deeper {k:Nat} {A:Around} (r:dJ (k+1) A) (env:Env):dJ k (A.deeper env) :=
 ⟨r.hd,by have:=r.dp; show A.depth+1+3*k+5 < _; omega,by have:=r.un; show A.units+3+16*k+200 < _; omega⟩
theorem dJ.depth {k:Nat} {A:Around} (r:dJ k A):A.depth < recursionLimit:=by have:=r.dp; omega
theorem dJ.units {k:Nat} {A:Around} (r:dJ k A):A.units+64 < cLine:=by have:=r.un; omega
def ahY:TA:=fun _ H Q=>Q [] H
def aha (ta:TE) (tr:TA):TA:=fun σ H Q=>ta σ H fun x H1=>tr σ H1 fun xs H2=>Q (x :: xs) H2
section
variable {X:Cx} {e:Expr} {es:List Expr} {te:TE} {t:TA} {pos:Pos}
theorem adz:PA X [] ahY:=fun _ _ _ _ H Q I h=>Calls.spliced_nil ⟨[],H,I,.nil,h⟩
theorem abB (ha:PE X e te) (hr:PA X es t) (hs:starEach (e :: es) X.env=(false,eval e X.env) :: starEach es X.env:=by rfl):PA X (e :: es) (aha te t):=by
 intro pos pins s σ H Q I h
 rw [hs]
 show wpAny _ _ (spliced ((false,eval e X.env) :: backTo pos (starEach es X.env))) _ _ s
 refine Calls.spliced_cons (thn (ha pins s σ H _ I h) fun u s1 ⟨x,H1,I1,r1,q1⟩=>?_)
 exact thn (hr pos pins s1 σ H1 _ I1 q1) fun us s2 ⟨xs,H2,I2,r2,q2⟩=>⟨x :: xs,H2,I2,.cons r1 r2,q2⟩
def ait (t:TA):TE:=fun σ H Q=>t σ H fun xs H1=>xs.length≤sizeLine∧∀ p,H1 p=none→Q (.ref p) (upd H1 p (.tup xs))
def ah4 (t:TA):TE:=fun σ H Q=>t σ H fun xs H1=>xs.length≤sizeLine∧∀ p,H1 p=none→Q (.ref p) (upd H1 p (.lst xs))
theorem aft {x1} (h:PA X es t):PE X (.Tuple es x1 pos) (ait t):=by
 intro pins s σ H Q I hq
 refine wpAny_Tuple_spliced (thn (h pos pins s σ H _ I hq) fun us s1 ⟨xs,H1,I1,r,z,q⟩=>⟨by rw [← r.length]; exact z,?_⟩)
 have hf:H1 s1.heap.objs.size=none:=I1.hok.fresh (Nat.le_refl _)
 refine ⟨.ref s1.heap.objs.size,upd H1 s1.heap.objs.size (.tup xs),I1.laid (t':=s1.toks) (fun b u e=>Heap.get?_push_of_some _ e) (Nat.le_refl _) ?_,rfl,q _ hf⟩
 exact ⟨z,us,r,⟨_,Heap.get?_push_size _ rfl,rfl,_,rfl⟩⟩
theorem adI (h:PA X es t):PE X (.List es pos) (ah4 t):=by
 intro pins s σ H Q I hq
 refine wpAny_List_spliced (thn (h pos pins s σ H _ I hq) fun us s1 ⟨xs,H1,I1,r,z,q⟩=>⟨by rw [← r.length]; exact z,?_⟩)
 have hf:H1 s1.heap.objs.size=none:=I1.hok.fresh (Nat.le_refl _)
 refine ⟨.ref s1.heap.objs.size,upd H1 s1.heap.objs.size (.lst xs),I1.laid (t':=s1.toks) (fun b u e=>Heap.get?_push_of_some _ e) (Nat.le_refl _) ?_,rfl,q _ hf⟩
 exact ⟨z,us,0,r,Heap.get?_push_size _ rfl⟩
end
abbrev Sp:=List V→Hp→VK→XK→Prop
abbrev CXT:=List Env→Hp→Shared→XK→Value→Shared→Prop
structure rE (P:Program) (w:World) (K:PySem.W.Frag) (mg:Str→Option Value) (base:Heap) (A:Around) (outer:List Env) (s:Shared) (H:Hp):Prop where
 frames:A.frames=some outer
 mod:Mod K mg base
 bs:∀ b o,base.get? b=some o→s.heap.get? b=some o∧H b=none
 bsz:base.objs.size≤s.heap.objs.size
 funs:s.heap.FunFrames base outer
 frf:∀ b∈frs outer,H b=none
 hok:HOk P w H s.heap
 bare:AllBare s.gens
def CE (outer:List Env) (P:Program) (w:World) (H:Hp) (s:Shared) (Q:VK) (u:Value) (s':Shared):Prop :=
 ∃ v H',s'.os=s.os∧AllBare s'.gens∧Un (frs outer) [] H H' s.heap s'.heap∧HOk P w H' s'.heap∧bH v u∧Q v H'
def CR (CX:CXT) (outer:List Env) (P:Program) (w:World) (H:Hp) (s:Shared) (Q:VK) (E:XK) (r:Result) (s':Shared):Prop :=
 match r with
 | .ok (.ret u)=>CE outer P w H s Q u s'
 | .ok _=>False
 | .error e=>CX outer H s E e s'
structure bS (P:Program) (w:World) (K:PySem.W.Frag) (mg:Str→Option Value) (base:Heap) (CX:CXT) (k:Nat) (f:Addr) (fd:FuncData) (ps:List Str) (sp:Sp):Prop where
 len:∀ vs H Q E,sp vs H Q E→vs.length=ps.length
 run:∀ (A:Around) (outer:List Env) (s:Shared) (H:Hp) (args:Args) (us:List Value) (vs:List V) (Q:VK) (E:XK),dJ k A→rE P w K mg base A outer s H→BindsTo s fd args (ps.zip us)→aX vs us→sp vs H Q E →
  codeAny (model P w) A (.call (.ref f) args) (CR CX outer P w H s Q E) s
theorem bS.imp {P:Program} {w:World} {K:PySem.W.Frag} {mg:Str→Option Value} {base:Heap} {CX:CXT} {k:Nat} {f:Addr} {fd:FuncData} {ps:List Str} {sp sp':Sp} (F:bS P w K mg base CX k f fd ps sp)
  (h:∀ vs H Q E,sp' vs H Q E→sp vs H Q E):bS P w K mg base CX k f fd ps sp' :=
 ⟨fun vs H Q E q=>F.len vs H Q E (h _ _ _ _ q),fun A outer s H args us vs Q E hr he hb hv hs=>F.run A outer s H args us vs Q E hr he hb hv (h _ _ _ _ hs)⟩
section
variable {X:Cx} {pins:List (Addr × Obj)} {σ:St} {H:Hp} {s s':Shared}
theorem Inv.env0 (I:Inv X pins σ H s):rE X.prog X.w X.K X.mg X.base X.A X.stack s H :=
 ⟨I.ok.frames,I.ok.mod,I.bs,Nat.le_trans I.ok.bsz I.sz,I.stack,I.stkFree,I.hok,I.bare⟩
theorem Inv.after {Q:VK} {u:Value} (I:Inv X pins σ H s) (h:CE X.stack X.prog X.w H s Q u s'):EP X pins σ Q u s':=by
 obtain ⟨v,H',os,bare,un,hok,r,q⟩:=h
 obtain ⟨hh,g,d,t,os'⟩:=s'
 obtain rfl:os'=s.os:=os
 exact ⟨v,H',I.call (h':=hh) (g':=g) (d':=d) (t':=t) (ch:=[]) un hok bare (fun b z=>absurd z (by simp)),r,q⟩
end
def ag9 (sp:Sp) (dvs:List V) (E:XK) (t:TA):TE:=fun σ H Q=>t σ H fun vs H1=>sp (vs++dvs) H1 Q E
def gX (K:PySem.W.Frag) (fd:FuncData) (ps:List Str) (ds:List Value):Prop :=
 ∀ (s:Shared) (us:List Value),K.In s.heap→(us++ds).length=ps.length→BindsTo s fd ⟨us,[]⟩ (ps.zip (us++ds))
theorem gX.all {K:PySem.W.Frag} {fd:FuncData} {ps:List Str} (h:∀ us:List Value,us.length=ps.length→bindArgs fd ⟨us,[]⟩=pure (ps.zip us)):gX K fd ps []:=fun s us _ hl=>by
 rw [List.append_nil] at hl ⊢
 exact .of_eq (h us hl)
def uX (CX:CXT) (X:Cx) (E:XK):Prop:=∀ (pins:List (Addr × Obj)) (σ:St) (H:Hp) (s:Shared) (e:Value) (s':Shared),Inv X pins σ H s→CX X.stack H s E e s'→X.xe e s'
section
variable {X:Cx} {CX:CXT} {k:Nat} {f C:Addr} {fd:FuncData} {ps:List Str} {sp:Sp} {dvs:List V} {ds:List Value} {E:XK} {x m:Str} {p pos apos:Pos} {e o:Expr} {es:List Expr} {ta:TE} {t:TA}
theorem af9 {pins:List (Addr × Obj)} {σ:St} {H:Hp} {s:Shared} {Q:VK} {us:List Value} {vs:List V} (F:bS X.prog X.w X.K X.mg X.base CX k f fd ps sp) (hr:dJ k X.A) (hb:gX X.K fd ps ds) (hd:aX dvs ds) (hx:uX CX X E)
  (I:Inv X pins σ H s) (r:aX vs us) (h:sp (vs++dvs) H Q E):wpAny (model X.prog X.w) X.A (call (.ref f) us) (EP X pins σ Q) X.xe s:=by
 have r2:aX (vs++dvs) (us++ds):=r.append hd
 have hl:(us++ds).length=ps.length:=by rw [← r2.length]; exact F.len _ _ _ _ h
 refine wpAny_call (codeAny_mono (F.run X.A X.stack s H ⟨us,[]⟩ (us++ds) (vs++dvs) Q E hr I.env0 (hb s us I.kIn hl) r2 h) fun r s' hq=>?_)
 cases r with
 | error e=>exact hx pins σ H s e s' I hq
 | ok fl =>
  cases fl with
  | ret u=>exact I.after hq
  | next=>exact False.elim hq
  | brk=>exact False.elim hq
  | cont=>exact False.elim hq
theorem tW (F:bS X.prog X.w X.K X.mg X.base CX k f fd ps sp) (hr:dJ k X.A) (hg:Gl X x) (hm:X.mg x=some (.ref f)) (hk:PySem.W.keepIn X.K (.ref f)=true) (hb:gX X.K fd ps ds) (hd:aX dvs ds) (hx:uX CX X E)
  (ha:PA X (e :: es) t) (hdb:(x == ("__debug__":Str))=false:=by decide) (he:starEach (e :: es) X.env=(false,eval e X.env) :: starEach es X.env:=by rfl) (hpl:(backTo pos (starEach es X.env)).any (·.1)=false:=by rfl) :
  PE X (.Call (.Name x p) (e :: es) [] pos) (ag9 sp dvs E t):=by
 intro pins s σ H Q I h
 refine wpAny_Call_Name_kw (abR I hg hm ?_ hdb)
 refine PySem.W.callWith_K (h₀:=X.base) I.ok.mod.kin hk (thn (ha pos pins s σ H _ I h) fun us s1 ⟨vs,H1,I1,r,q⟩=>⟨I1.kIn,?_⟩) he hpl
 exact af9 F hr hb hd hx I1 r q
end
section
variable {X:Cx} {CX:CXT} {k:Nat} {f C:Addr} {fd:FuncData} {ps ks:List Str} {sp:Sp} {E:XK} {x m:Str} {p pos apos kpos:Pos} {e o:Expr} {es:List Expr} {kws:List Keyword} {te ta:TE} {t tk:TA} {nm:Option Str}
variable {g:List Value→List Value→List Value} {gV:List V→List V→List V}
end
structure cJ (N P:List Str) (sc:Scope):Prop where
 kind:sc.kind=.function
 co:sc.isCoroutine=false
 gen:sc.isGenerator=false
 nd:N.Nodup
 pre:N.take P.length=P
 par:∀ x∈P,sc.names.lookup x=some .local∨sc.names.lookup x=some .cell
 nofree:∀ y∈sc.names,y.2≠.free
theorem zC {kindOf:Str→Option NameKind} {x:Str}:∀ {binds:List (Str × Value)} {m:Str→Option Value},(∀ v,(x,v) ∉ binds)→bindL kindOf binds m x=m x
 | [],_,_=>rfl
 | (n,v) :: r,m,h=>by
  unfold bindL
  rw [zC fun w hw=>h w (List.mem_cons_of_mem _ hw)]
  split
  ·have:x≠n:=by rintro rfl; exact h v List.mem_cons_self
   simp [this]
  ·rfl
theorem yJ {kindOf:Str→Option NameKind} {x:Str}:∀ {binds:List (Str × Value)} {m:Str→Option Value},(∀ v,(x,v) ∉ binds)→bindC kindOf binds m x=m x
 | [],_,_=>rfl
 | (n,v) :: r,m,h=>by
  unfold bindC
  rw [yJ fun w hw=>h w (List.mem_cons_of_mem _ hw)]
  split
  ·rfl
  ·have:x≠n:=by rintro rfl; exact h v List.mem_cons_self
   simp [this]
theorem yQ {kindOf:Str→Option NameKind} {x:Str} {v:Value}:∀ {P:List Str} {vs:List Value} {i:Nat} {m:Str→Option Value},P.Nodup→P[i]?=some x→vs[i]?=some v→kindOf x=some .local →
  bindL kindOf (P.zip vs) m x=some v
 | [],_,_,_,_,h,_,_=>by simp at h
 | _ :: _,[],_,_,_,_,h,_=>by simp at h
 | p :: P,w :: vs,0,m,nd,h1,h2,hk=>by
  simp at h1 h2; subst h1; subst h2
  show bindL kindOf ((p,w) :: P.zip vs) m p=_
  unfold bindL
  rw [zC fun v hv=>(List.nodup_cons.mp nd).1 (List.of_mem_zip hv).1,if_pos hk]
  simp
 | p :: P,w :: vs,i+1,m,nd,h1,h2,hk=>by
  show bindL kindOf ((p,w) :: P.zip vs) m x=_
  unfold bindL
  exact yQ (i:=i) (List.nodup_cons.mp nd).2 (by simpa using h1) (by simpa using h2) hk
theorem yF {kindOf:Str→Option NameKind} {x:Str} {v:Value}:∀ {P:List Str} {vs:List Value} {i:Nat} {m:Str→Option Value},P.Nodup→P[i]?=some x→vs[i]?=some v→kindOf x≠some .local →
  bindC kindOf (P.zip vs) m x=some v
 | [],_,_,_,_,h,_,_=>by simp at h
 | _ :: _,[],_,_,_,_,h,_=>by simp at h
 | p :: P,w :: vs,0,m,nd,h1,h2,hk=>by
  simp at h1 h2; subst h1; subst h2
  show bindC kindOf ((p,w) :: P.zip vs) m p=_
  unfold bindC
  rw [yJ fun v hv=>(List.nodup_cons.mp nd).1 (List.of_mem_zip hv).1,if_neg hk]
  simp
 | p :: P,w :: vs,i+1,m,nd,h1,h2,hk=>by
  show bindC kindOf ((p,w) :: P.zip vs) m x=_
  unfold bindC
  exact yF (i:=i) (List.nodup_cons.mp nd).2 (by simpa using h1) (by simpa using h2) hk
def start (N:List Str) (vs:List V):St:=vs.map some++List.replicate (N.length - vs.length) none
def kT (CX:CXT) (P:Program) (w:World) (K:PySem.W.Frag) (mg:Str→Option Value) (base:Heap) (N:List Str) (qual:Str) (scope:Scope) (f:Addr) (cd:Value) (A:Around) (outer:List Env) (s:Shared) (H:Hp) (E:XK):Cx where
 prog:=P
 w:=w
 K:=K
 mg:=mg
 base:=base
 A:=A.deeper (envOfC qual scope s.heap.objs.size f cd)
 N:=N
 s₀:=s
 H₀:=H
 env:=envOfC qual scope s.heap.objs.size f cd
 outer:=outer
 stack:=envOfC qual scope s.heap.objs.size f cd :: outer
 ex:=[]
 calm:=true
 fn:=fun _=>true
 pn:=[]
 xe:=fun e s'=>wpAny (model P w) (A.deeper (envOfC qual scope s.heap.objs.size f cd)) (leaving (envOfC qual scope s.heap.objs.size f cd) e) (fun _ s''=>CX outer H s E e s'') (fun e' s''=>CX outer H s E e' s'') s'
theorem zY {sc:Scope} {n:Nat} {x:Str} (h:sc.names.lookup x=some .cell):∃ c,(cellsFrom n sc.names []).lookup x=some c:=by
 have q:=PySem.W.cellsFrom_some sc.names n [] (.inl h)
 exact Option.isSome_iff_exists.mp q
theorem aca {CX:CXT} {P:Program} {w:World} {K:PySem.W.Frag} {mg:Str→Option Value} {base:Heap} {N ps:List Str} {qual:Str} {scope:Scope} {f:Addr} {cd:Value} {A:Around} {outer:List Env} {s s1:Shared} {H:Hp} {E:XK} {us:List Value} {vs:List V}
  (S:cJ N ps scope) (hd:A.handled=none) (e0:rE P w K mg base A outer s H) (hl:vs.length=ps.length) (r:aX vs us)
  (x:InCallC s s.heap.objs.size (bindL (envOfC qual scope s.heap.objs.size f cd).kindOf (ps.zip us) fun _=>none) (cellsFrom (s.heap.objs.size+1) scope.names []) (bindC (envOfC qual scope s.heap.objs.size f cd).kindOf (ps.zip us) fun _=>none) s1) :
  Inv (kT CX P w K mg base N qual scope f cd A outer s H E) [] (start N vs) H s1:=by
 have hpl:ps.length≤N.length:=by have:=congrArg List.length S.pre; rw [List.length_take] at this; omega
 obtain ⟨h1,tk,rfl,hk⟩:=x.done
 have noA:∀ b:Addr,b ∉ (kT CX P w K mg base N qual scope f cd A outer s H E).ex:=fun b z=>absurd (show b∈([]:List Addr) from z) (by simp)
 refine ⟨⟨e0.mod,S.kind,rfl,rfl,Nat.le_refl _,fun y z c h1 h2=>?_,fun y hy=>?_,fun y c _ h=>?_,fun _=>hd,Around.frames_deeper e0.frames,.inr ⟨rfl,rfl⟩,fun b z=>absurd z (noA b),e0.bs,e0.bsz,fun b _ _=>noA b,fun b z=>absurd z (noA b),e0.funs,e0.frf⟩,
  rfl,e0.bare,Un.kept hk,⟨_,x.toInCall.ns,fun i y v h1 h2 h3=>?_⟩,fun y c h=>⟨_,x.cell y c h⟩,e0.hok.fresh (Nat.le_refl _),fun y c h=>?_,fun p hp=>absurd (show p∈([]:List (Addr × Obj)) from hp) (by simp),e0.hok.kept hk,?_⟩
 ·exact name_of_addr x.apart (PySem.mem_of_lookup h1) (PySem.mem_of_lookup h2)
 ·have hy:scope.names.lookup y=some .cell∨scope.names.lookup y=some .free:=hy
  rcases hy with hy | hy
  ·exact zY hy
  ·exact absurd rfl (S.nofree _ (PySem.mem_of_lookup hy))
 ·exact Nat.le_of_lt (x.above y c (PySem.mem_of_lookup h))
 ·have hi:i < vs.length:=by
   unfold start at h2
   by_cases hi:i < vs.length
   ·exact hi
   ·rw [List.getElem?_append_right (by simpa using hi)] at h2
    rw [List.getElem?_replicate] at h2
    split at h2 <;> cases h2
  have ha:vs[i]?=some v:=by
   unfold start at h2
   rw [List.getElem?_append_left (by simpa using hi),List.getElem?_map] at h2
   cases e:vs[i]? with
   | none=>rw [e] at h2; cases h2
   | some a=>rw [e] at h2; cases h2; rfl
  obtain ⟨u,hu,rv⟩:=r.get ha
  have hp:ps[i]?=some y:=by
   rw [← S.pre,List.getElem?_take_of_lt (by omega)]; exact h1
  have ndP:ps.Nodup:=by rw [← S.pre]; exact S.nd.sublist (List.take_sublist _ _)
  refine ⟨u,rv,?_⟩
  rcases S.par y (List.mem_of_getElem? hp) with k | k
  ·exact .inl ⟨k,yQ ndP hp hu k⟩
  ·obtain ⟨c,e⟩:=zY (n:=s.heap.objs.size+1) k
   refine .inr ⟨.inl k,c,e,?_⟩
   have q:=x.cell y c e
   rw [yF ndP hp hu (by show scope.names.lookup y≠_; rw [k]; decide)] at q
   exact q
 ·exact e0.hok.fresh (Nat.le_of_lt (x.above y c (PySem.mem_of_lookup h)))
 ·unfold start
  show _=N.length
  rw [List.length_append,List.length_map,List.length_replicate]
  omega
theorem ahb {CX:CXT} {P:Program} {w:World} {K:PySem.W.Frag} {mg:Str→Option Value} {base:Heap} {k:Nat} {f:Addr} {name qual:Str} {params:Arguments} {body:List Stmt} {scope:Scope} {dV kV doc pm cdv ct oc:Value} {an od:Option Addr}
  {osl:Array (Option Value)} {N ps:List Str} {sp:Sp} (lk:K.lookup f=some ⟨oc,od,.func (PySem.W.fnOf name qual params body scope dV kV doc pm an cdv ct),osl⟩) (hcd:PySem.W.codeIn K cdv qual=true) (S:cJ N ps scope)
  (len:∀ vs H Q E,sp vs H Q E→vs.length=ps.length)
  (hbody:∀ (A:Around) (outer:List Env) (s:Shared) (H:Hp) (vs:List V) (Q:VK) (E:XK),dJ k (A.deeper (envOfC qual scope s.heap.objs.size f cdv))→sp vs H Q E →
   ∃ t,PSs (kT CX P w K mg base N qual scope f cdv A outer s H E) body t∧t { nx:=fun _ H'=>Q .non H',rt:=Q } (start N vs) H) :
  bS P w K mg base CX (k+1) f (PySem.W.fnOf name qual params body scope dV kV doc pm an cdv ct) ps sp:=by
 refine ⟨len,fun A outer s H args us vs Q E hr e0 hb r hsp=>?_⟩
 have hl:=len _ _ _ _ hsp
 have KX:K.In s.heap:=e0.mod.kin.keeps fun b o e=>(e0.bs b o e).1
 have lim:s.heap.NoLimit:=e0.mod.nolimit.keeps fun b o e=>(e0.bs b o e).1
 have hkind:∀ y∈ps.zip us,scope.names.lookup y.1=some .local∨(scope.names.lookup y.1=some .cell∧((cellsFrom (s.heap.objs.size+1) scope.names []).lookup y.1).isSome=true):=fun ⟨n,v⟩ hy=>by
  rcases S.par n (List.of_mem_zip hy).1 with q | q
  ·exact .inl q
  ·exact .inr ⟨q,PySem.W.cellsFrom_some _ _ _ (.inl q)⟩
 refine codeAny_call_function hr.depth (KX _ _ lk) rfl S.co S.gen rfl (PySem.W.codeRec_of KX hcd) (hb _ _ _ _ ?_)
 refine wpAny_newFunctionEnv_cells S.kind hkind fun env he s1 x=>?_
 subst he
 refine ⟨lim.keeps x.toInCall.keep,codeAny_func ?_⟩
 obtain ⟨t,ht,hq⟩:=hbody A outer s H vs Q E (hr.deeper _) hsp
 have I:Inv (kT CX P w K mg base N qual scope f cdv A outer s H E) [] (start N vs) H s1:=aca S hr.hd e0 hl r x
 refine wpAny_mono (ht [] s1 (start N vs) H _ I hq) (fun fl s' hs=>?_) fun e s' hs=>hs
 have fin:∀ {σ':St} {H':Hp} {v:V} {u:Value},Inv (kT CX P w K mg base N qual scope f cdv A outer s H E) [] σ' H' s'→bH v u→Q v H'→CE outer P w H s Q u s' :=
  fun {σ' H' v u} J rv q=>⟨v,H',J.os,J.bare,J.base,J.hok,rv,q⟩
 cases fl with
 | ret u =>
  obtain ⟨v,σ',H',J,rv,q⟩:=hs
  exact fin J rv q
 | next =>
  obtain ⟨σ',H',J,q⟩:=hs
  exact fin (v:=V.non) (u:=Value.none) J rfl q
 | brk =>
  obtain ⟨_,_,_,q⟩:=hs
  exact False.elim q
 | cont =>
  obtain ⟨_,_,_,q⟩:=hs
  exact False.elim q
end L2
namespace L2
open PySem PySem.Spec PyProof.Rows
section
variable {X:Cx} {x:Str} {p pos:Pos} {e:Expr} {es:List Expr} {t:TA} {id T:String} {r:List V→Hp→VK→Prop}
def tCB (r:List V→Hp→VK→Prop) (t:TA):TE:=fun σ H Q=>t σ H fun vs H1=>r vs H1 Q
theorem aaL (hc:gW X (.builtin id) r) (hg:Gl X x) (hm:X.mg x=none) (hv:bootBuiltins x=some (.builtin id)) (ha:PA X (e :: es) t) (hn:x≠"__name__":=by decide) (hdb:(x == ("__debug__":Str))=false:=by decide)
  (he:starEach (e :: es) X.env=(false,eval e X.env) :: starEach es X.env:=by rfl) (hpl:(backTo pos (starEach es X.env)).any (·.1)=false:=by rfl):PE X (.Call (.Name x p) (e :: es) [] pos) (tCB r t):=by
 intro pins s σ H Q I h
 refine wpAny_Call_Name_kw (nA I hg hm hv ?_ hn hdb)
 exact PyProof.Rows.callWith_builtin1 (thn (ha pos pins s σ H _ I h) fun us s1 ⟨vs,H1,I1,r1,q1⟩=>hc pins s1 σ H1 vs us Q I1 r1 q1) he hpl
theorem yK (hc:gW X (.type T) r) (hg:Gl X x) (hm:X.mg x=none) (hv:bootBuiltins x=some (.type T)) (ha:PA X (e :: es) t) (hn:x≠"__name__":=by decide) (hdb:(x == ("__debug__":Str))=false:=by decide)
  (he:starEach (e :: es) X.env=(false,eval e X.env) :: starEach es X.env:=by rfl) (hpl:(backTo pos (starEach es X.env)).any (·.1)=false:=by rfl):PE X (.Call (.Name x p) (e :: es) [] pos) (tCB r t):=by
 intro pins s σ H Q I h
 refine wpAny_Call_Name_kw (nA I hg hm hv ?_ hn hdb)
 exact PyProof.Rows.callWith_type1 (thn (ha pos pins s σ H _ I h) fun us s1 ⟨vs,H1,I1,r1,q1⟩=>hc pins s1 σ H1 vs us Q I1 r1 q1) he hpl
end
end L2
namespace HT
open PySem PyProof.Rows
def lexLt:List Int→List Int→Bool
 | [],[]=>false
 | [],_ :: _=>true
 | _ :: _,[]=>false
 | x :: xs,y :: ys=>if x=y then lexLt xs ys else decide (x < y)
theorem lexLt_cons (x y:Int) (xs ys:List Int):lexLt (x :: xs) (y :: ys)=if x=y then lexLt xs ys else decide (x < y):=rfl
section
open PySem.SeqAt
open PySem.AutoSeq1 (wpAny_loadPart')
open PySem.MeetsSeq PySem.MeetsSeq2 PySem.MeetsSeq3
end
section
variable {prog:Program} {w:World} {A:Around} {E:Value→Shared→Prop} {s:Shared}
theorem cat_tup {t b:Addr} {vs ws:List Value} {Q:Value→Shared→Prop} (ht:IsTup s.heap t vs.toArray) (hb:IsTup s.heap b ws.toArray) (hv:vs≠[])
  (h1:ws=[]→Q (.ref t) s) (h2:ws≠[]→Q (.ref s.heap.objs.size) { s with heap:=s.heap.push { cls:=.type "tuple",data:=.seq (vs++ws).toArray } })
  (hsz:vs.length+ws.length≤sizeLine):wpAny (model prog w) A (binaryOp .Add (.ref t) (.ref b)) Q E s:=by
 obtain ⟨⟨cls,dd,data,sl⟩,ho,hc,n,hd⟩:=id ht
 obtain ⟨⟨cls2,dd2,data2,sl2⟩,ho2,hc2,n2,hd2⟩:=id hb
 simp only at hc hd hc2 hd2
 subst hc hd hc2 hd2
 have e:vs.toArray++ws.toArray=(vs++ws).toArray:=by simp
 by_cases hw:ws=[]
 ·exact concat_meets ⟨_,ho,rfl⟩ ⟨_,ho2,rfl⟩ noFill_tuple_add seq_tuple_add PySem.F.slot_tuple_add PySem.F.entry_tuple_add (PySem.F.args_tuple_add_2 _ _)
   (tuple_addW1 t b vs.toArray ws.toArray n n2 dd dd2 sl sl2 (by simpa using hv) (by simp [hw])) ⟨ho,ho2,h1 hw⟩
 ·refine concat_meets ⟨_,ho,rfl⟩ ⟨_,ho2,rfl⟩ noFill_tuple_add seq_tuple_add PySem.F.slot_tuple_add PySem.F.entry_tuple_add (PySem.F.args_tuple_add_2 _ _)
   (tuple_addW2 t b vs.toArray ws.toArray n n2 dd dd2 sl sl2 (by simpa using hv) (by simpa using hw) (by rw [List.size_toArray,List.size_toArray]; exact hsz)) ⟨ho,ho2,?_⟩
  rw [e]
  exact h2 hw
def sIx (n d:Nat):Option Int→Nat
 | none=>d
 | some v=>if v < 0 then (v+(n:Int)).toNat else min v.toNat n
theorem sIx_nat (n d k:Nat):sIx n d (some (k:Int))=min k n:=by
 show (if (k:Int) < 0 then ((k:Int)+(n:Int)).toNat else min (k:Int).toNat n)=min k n
 rw [if_neg (by omega),Int.toNat_natCast]
theorem af2 (n d:Nat) (hd:d≤n) (o:Option Int):sIx n d o≤n:=by
 cases o with
 | none=>exact hd
 | some v =>
  show (if v < 0 then (v+(n:Int)).toNat else min v.toNat n)≤n
  by_cases hv:v < 0
  ·rw [if_pos hv]; omega
  ·rw [if_neg hv]; exact Nat.min_le_right _ _
theorem ab2 (v:Int) (n d:Nat):(if v < 0 then max (v+(n:Int)) 0 else min v (n:Int))=((sIx n d (some v):Nat):Int):=by
 show (if v < 0 then max (v+(n:Int)) 0 else min v (n:Int))=(((if v < 0 then (v+(n:Int)).toNat else min v.toNat n):Nat):Int)
 by_cases hv:v < 0
 ·simp only [if_pos hv]; omega
 ·simp only [if_neg hv]; omega
theorem aaS (lo hi:Option Int) (n:Nat):Builtin.Slice.sliceAdjust lo hi 1 (n:Int)=(((sIx n 0 lo:Nat):Int),((sIx n n hi:Nat):Int)):=by
 have h1:¬ ((1:Int) < 0):=by omega
 unfold Builtin.Slice.sliceAdjust
 simp only [h1,if_false]
 refine Prod.ext ?_ ?_
 ·cases lo with
  | none=>rfl
  | some v=>exact ab2 v n 0
 ·cases hi with
  | none=>rfl
  | some v=>exact ab2 v n n
theorem aaZ (i j:Nat):Builtin.Slice.slicePlaces (i:Int) (j:Int) 1=j - i:=by
 unfold Builtin.Slice.slicePlaces
 have h1:(1:Int) > 0:=by omega
 simp only [h1,if_true,Int.ediv_one]
 split <;> omega
theorem xN {v:Value} {o:Option Int} {Q:Option Int→Shared→Prop} (p:IsPart v o) (h:Q o s):wpAny (model prog w) A (Builtin.Slice.slicePartIndex v) Q E s:=by
 cases p with
 | none=>exact slicePart_none h
 | int i t=>exact slicePart_int h
theorem aaa {sl:Addr} {vl vu:Value} {lo hi:Option Int} {n:Nat} {Q:Int × Int × Nat→Shared→Prop} (hs:s.heap.IsSliceOf sl vl vu .none) (pl:IsPart vl lo) (pu:IsPart vu hi)
  (h:Q (((sIx n 0 lo:Nat):Int),1,sIx n n hi - sIx n 0 lo) s):wpAny (model prog w) A (Builtin.Slice.sliceApplied (.ref sl) (pure (n:Int))) Q E s:=by
 obtain ⟨os,hos,hcs,hds⟩:=id hs
 unfold Builtin.Slice.sliceApplied Builtin.Slice.sliceFields
 refine wpAny_bind (wpAny_bind (wpAny_field hos hds (x:=vl) rfl (wpAny_bind (wpAny_field hos hds (x:=vu) rfl (wpAny_bind (wpAny_field hos hds (x:=.none) rfl (wpAny_pure ?_)))))))
 refine wpAny_bind (slicePart_none ?_)
 show wpAny _ _ (if ((1:Int) == 0)=true then _ else _) _ _ s
 rw [if_neg (by decide)]
 refine wpAny_bind (xN pl (wpAny_bind (xN pu (wpAny_bind (wpAny_pure ?_)))))
 show wpAny _ _ (match Builtin.Slice.sliceAdjust lo hi 1 (n:Int) with | (lo,hi)=>pure (lo,(1:Int),Builtin.Slice.slicePlaces lo hi 1)) _ _ s
 rw [aaS lo hi n]
 show wpAny _ _ (pure (((sIx n 0 lo:Nat):Int),(1:Int),Builtin.Slice.slicePlaces ((sIx n 0 lo:Nat):Int) ((sIx n n hi:Nat):Int) 1)) _ _ s
 rw [aaZ]
 exact wpAny_pure h
theorem ac2 (xs:Array Value) (i k:Nat):((List.range k).filterMap fun (m:Nat)=>xs[((i:Int)+(m:Int)*1).toNat]?).toArray=((xs.toList.drop i).take k).toArray:=by
 have e:(fun (m:Nat)=>xs[((i:Int)+(m:Int)*1).toNat]?)=fun m=>xs[i+m]?:=by
  funext m
  have:((i:Int)+(m:Int)*1).toNat=i+m:=by omega
  rw [this]
 rw [e]
 have:=pick_run xs i k
 rw [List.filterMap_map] at this
 have e2:((fun x=>xs[x]?) ∘ fun x=>i+x)=fun m=>xs[i+m]?:=rfl
 rw [e2] at this
 rw [this]
theorem getItem_tuple_cut {t sl:Addr} {items:Array Value} {vl vu:Value} {lo hi:Option Int} {Q:Value→Shared→Prop} (ht:IsTup s.heap t items) (hs:s.heap.IsSliceOf sl vl vu .none) (pl:IsPart vl lo) (pu:IsPart vu hi)
  (hw:¬ (sIx items.size 0 lo=0∧sIx items.size items.size hi=items.size))
  (h:Q (.ref s.heap.objs.size) { s with heap:=s.heap.push { cls:=.type "tuple",data:=.seq ((items.toList.drop (sIx items.size 0 lo)).take (sIx items.size items.size hi - sIx items.size 0 lo)).toArray } })
  (hsz:items.size≤sizeLine):wpAny (model prog w) A (getItem (.ref t) (.ref sl)) Q E s:=by
 have htake:sizeOk (.seq ((items.toList.drop (sIx items.size 0 lo)).take (sIx items.size items.size hi - sIx items.size 0 lo)).toArray):=by
  show ((items.toList.drop (sIx items.size 0 lo)).take (sIx items.size items.size hi - sIx items.size 0 lo)).toArray.size≤sizeLine
  rw [List.size_toArray,List.length_take,List.length_drop,Array.length_toList]
  omega
 have hj:sIx items.size items.size hi≤items.size:=af2 _ _ (Nat.le_refl _) hi
 obtain ⟨os,hos,hcs,hds⟩:=id hs
 have hTs:s.TypeIs (.ref sl) "slice":=⟨os,hos,hcs⟩
 unfold getItem
 try with_reducible refine wpAny_holding ?_
 first | refine wpAny_bind (wpAny_pure ?_) | skip
 refine wpAny_bind (wpAny_sequenceKey ht.typeIs (by decide) ?_)
 refine wpAny_bind (wpAny_callSpecial?_slot (name:=Str.ofString "__getitem__") ht.typeIs PyProof.Rows.slot_tuple_getitem
  (wpAny_call_entry PyProof.Rows.slot_tuple_getitem ht.typeIs entry_tuple_getitem ?_ (args_tuple_getitem _ _)))
 show wpAny _ _ (Builtin.Tuple.tupleItemsOf (.ref t) >>= _) _ _ s
 refine wpAny_bind (tupleItemsOf_ ht ?_)
 refine wpAny_bind (wpAny_typeOf hTs ?_)
 rw [if_pos (by decide)]
 refine wpAny_bind (aaa hs pl pu ?_)
 have hno:¬ ((((sIx items.size 0 lo:Nat):Int) == 0 && (1:Int) == 1 && (sIx items.size items.size hi - sIx items.size 0 lo) == items.size)=true):=by
  intro q
  rw [Bool.and_eq_true,Bool.and_eq_true] at q
  have q1:((sIx items.size 0 lo:Nat):Int)=0:=eq_of_beq q.1.1
  have q2:sIx items.size items.size hi - sIx items.size 0 lo=items.size:=eq_of_beq q.2
  exact hw ⟨by omega,by omega⟩
 show wpAny _ _ (if (((sIx items.size 0 lo:Nat):Int) == 0 && (1:Int) == 1 && (sIx items.size items.size hi - sIx items.size 0 lo) == items.size)=true then _ else _) _ _ s
 rw [if_neg hno,ac2]
 first
  | exact wpAny_bind (m:=Builtin.Tuple.tupleExact _) (wpAny_newObj_type (wpAny_pure ⟨_,rfl,wpAny_pure h⟩) htake)
  | exact wpAny_bind (m:=Builtin.Tuple.tupleExact _) (wpAny_newObj_type (wpAny_bind (wpAny_pure (wpAny_pure ⟨_,rfl,wpAny_pure h⟩))) htake)
  | exact wpAny_bind (wpAny_bind (m:=Builtin.Tuple.tupleExact _) (wpAny_newObj_type (wpAny_pure (wpAny_pure ⟨_,rfl,wpAny_pure h⟩)) htake))
  | exact wpAny_bind (wpAny_bind (m:=Builtin.Tuple.tupleExact _) (wpAny_newObj_type (wpAny_pure ⟨_,rfl,wpAny_pure h⟩) htake))
end
end HT
namespace L2
open PySem PySem.Spec PyProof.Rows
abbrev TO:=St→Hp→(Option Int→Hp→Prop)→Prop
def PO (X:Cx) (e:Option Expr) (t:TO):Prop :=
 ∀ (pins:List (Addr × Obj)) (s:Shared) (σ:St) (H:Hp) (Q:Option Int→Hp→Prop),Inv X pins σ H s→t σ H Q →
  wpAny (model X.prog X.w) X.A (evalPart e X.env) (fun u s'=>∃ o H',Inv X pins σ H' s'∧IsPart u o∧Q o H') X.xe s
def aeZ:TO:=fun _ H Q=>Q none H
def ahk (t:TE):TO:=fun σ H Q=>t σ H fun x H1=>∃ i,x=.int i∧Q (some i) H1
section
variable {X:Cx} {e:Expr} {te:TE} {lo hi:Option Expr} {tl th:TO} {pos p2:Pos}
theorem aeo:PO X none aeZ:=by
 intro pins s σ H Q I h
 rw [evalPart_none]
 exact wpAny_pure ⟨none,H,I,.none,h⟩
theorem aeu (h:PE X e te):PO X (some e) (ahk te):=by
 intro pins s σ H Q I hw
 rw [evalPart_some]
 refine thn (h pins s σ H _ I hw) fun u s1 ⟨x,H1,I1,r1,q1⟩=>?_
 obtain ⟨i,rfl,q⟩:=q1
 obtain ⟨t,rfl⟩:=r1
 exact ⟨some i,H1,I1,.int i t,q⟩
def SlR (X:Cx) (r:V→Option Int→Option Int→Hp→VK→Prop):Prop :=
 ∀ (pins:List (Addr × Obj)) (s:Shared) (σ:St) (H:Hp) (x:V) (v vl vu:Value) (lo hi:Option Int) (sl:Addr) (Q:VK),Inv X pins σ H s→bH x v→s.heap.IsSliceOf sl vl vu .none→IsPart vl lo→IsPart vu hi→r x lo hi H Q →
  ∃ T id,typeLookup (.type T) "__getitem__"=pure (some (.builtin id))∧s.TypeIs v T∧wpAny (model X.prog X.w) X.A (getItem v (.ref sl)) (EP X pins σ Q) X.xe s
theorem SlR.or {r r':V→Option Int→Option Int→Hp→VK→Prop} (h:SlR X r) (h':SlR X r'):SlR X (fun x lo hi H Q=>r x lo hi H Q∨r' x lo hi H Q):=by
 intro pins s σ H x v vl vu lo hi sl Q I rx hs pl pu q
 rcases q with q | q
 ·exact h pins s σ H x v vl vu lo hi sl Q I rx hs pl pu q
 ·exact h' pins s σ H x v vl vu lo hi sl Q I rx hs pl pu q
def tSl (r:V→Option Int→Option Int→Hp→VK→Prop) (te:TE) (tl th:TO):TE:=fun σ H Q=>te σ H fun x H1=>tl σ H1 fun l H2=>th σ H2 fun u H3=>r x l u H3 Q
theorem acH {r:V→Option Int→Option Int→Hp→VK→Prop} (hr:SlR X r) (he:PE X e te) (hl:PO X lo tl) (hu:PO X hi th):PE X (.Subscript e (.Slice lo hi none p2) pos) (tSl r te tl th):=by
 intro pins s σ H Q I h
 refine Subscript_ (thn (he pins s σ H _ I h) fun v s1 ⟨x,H1,I1,r1,q1⟩=>?_)
 refine wpAny_Slice (thn (hl pins s1 σ H1 _ I1 q1) fun vl s2 ⟨l,H2,I2,pl,q2⟩=>thn (hu pins s2 σ H2 _ I2 q2) fun vu s3 ⟨u,H3,I3,pu,q3⟩=>?_)
 rw [evalPart_none]
 refine wpAny_pure ?_
 have I4:Inv X pins σ H3 { s3 with heap:=s3.heap.push { cls:=.type "slice",data:=.fields #[vl,vu,.none] } }:=I3.kept (t':=s3.toks) fun b ob q=>Heap.get?_push_of_some _ q
 obtain ⟨T,id,hT,ht,hg⟩:=hr pins { s3 with heap:=s3.heap.push { cls:=.type "slice",data:=.fields #[vl,vu,.none] } } σ H3 x v vl vu l u s3.heap.objs.size Q I4 r1 (Heap.IsSliceOf.new ..) pl pu q3
 show wpAny (model X.prog X.w) X.A (subscriptTail e (.Slice lo hi none p2) v (.ref s3.heap.objs.size)) (EP X pins σ Q) X.xe { s3 with heap:=s3.heap.push { cls:=.type "slice",data:=.fields #[vl,vu,.none] } }
 exact tail_any (ops:=[.ref s3.heap.objs.size,v]) ht hT hg (by with_unfolding_all rfl)
def jU (xs:List V) (lo hi:Option Int):List V:=(xs.drop (HT.sIx xs.length 0 lo)).take (HT.sIx xs.length xs.length hi - HT.sIx xs.length 0 lo)
theorem oE (xs:List V) (lo hi:Option Int):(jU xs lo hi).length≤xs.length:=by
 unfold jU
 rw [List.length_take,List.length_drop]
 omega
def air (K:PySem.W.Frag):V→Option Int→Option Int→Hp→VK→Prop:=fun x lo hi H Q=>∃ a xs,x=.ref a∧SqT K H a xs ∧
 ¬ (HT.sIx xs.length 0 lo=0∧HT.sIx xs.length xs.length hi=xs.length)∧∀ p,H p=none→Q (.ref p) (upd H p (.tup (jU xs lo hi)))
theorem afM:SlR X (air X.K):=by
 intro pins s σ H x v vl vu lo hi sl Q I rx hs pl pu h
 obtain ⟨a,xs,rfl,hx,hw,q⟩:=h
 cases rx
 obtain ⟨its,r,ht,hz⟩:=I.tuple hx
 have hlen:its.toArray.size=xs.length:=by rw [List.size_toArray]; exact r.length.symm
 refine ⟨"tuple",_,PyProof.Rows.slot_tuple_getitem.lookup,ht.typeIs,?_⟩
 refine HT.getItem_tuple_cut ht hs pl pu (by rw [hlen]; exact hw) ?_ (by rw [hlen]; exact hz)
 rw [hlen]
 refine ⟨.ref s.heap.objs.size,_,I.laid (t':=s.toks) (o:=.tup (jU xs lo hi)) (fun b ob q=>Heap.get?_push_of_some _ q) (Nat.le_refl _) ?_,rfl,q _ (I.hok.fresh (Nat.le_refl _))⟩
 exact ⟨Nat.le_trans (oE xs lo hi) hz,_,(r.drop (HT.sIx xs.length 0 lo)).take (HT.sIx xs.length xs.length hi - HT.sIx xs.length 0 lo),IsTup.new _ _⟩
def agF (K:PySem.W.Frag):R2:=fun x y H Q=>∃ a b xs ys,x=.ref a∧y=.ref b∧SqT K H a xs∧SqT K H b ys∧xs≠[]∧xs.length+ys.length≤sizeLine ∧
 (ys=[]→Q (.ref a) H)∧(ys≠[]→∀ p,H p=none→Q (.ref p) (upd H p (.tup (xs++ys))))
theorem aX.nil_iff {xs:List V} {us:List Value} (r:aX xs us):us=[]↔xs=[]:=by
 cases r with
 | nil=>simp
 | cons _ _=>simp
theorem adZ:OpR X (binaryOp .Add) (agF X.K):=by
 intro pins s σ H x y v u Q I rx ry h
 obtain ⟨a,b,xs,ys,rfl,rfl,ha,hb,hx,hz,q1,q2⟩:=h
 cases rx
 cases ry
 obtain ⟨its,r1,p1,_⟩:=I.tuple ha
 obtain ⟨its2,r2,p2,_⟩:=I.tuple hb
 refine HT.cat_tup p1 p2 (fun z=>hx (r1.nil_iff.mp z)) (fun z=>⟨.ref a,H,I,rfl,q1 (r2.nil_iff.mp z)⟩) (fun z=>?_) (by rw [← r1.length,← r2.length]; exact hz)
 refine ⟨.ref s.heap.objs.size,_,I.laid (t':=s.toks) (o:=.tup (xs++ys)) (fun b ob q=>Heap.get?_push_of_some _ q) (Nat.le_refl _) ?_,rfl,q2 (fun w=>z (r2.nil_iff.mpr w)) _ (I.hok.fresh (Nat.le_refl _))⟩
 exact ⟨by rw [List.length_append]; exact hz,_,r1.append r2,IsTup.new _ _⟩
end
end L2
namespace L2
open PySem PySem.Spec PyProof.Rows
def ixN (n:Nat) (i:Int):Option Nat:=if 0≤i then (if i < n then some i.toNat else none) else if -(n:Int)≤i then some (i+n).toNat else none
def atI {α:Type} (xs:List α) (i:Int):Option α:=(ixN xs.length i).bind fun j=>xs[j]?
theorem ab7 {n:Nat} {i:Int} {j:Nat} (h:ixN n i=some j):seqIndex? i n=some j∧j < n∧-(n:Int)≤i∧i < n:=by
 unfold ixN at h
 by_cases h0:0≤i
 ·rw [if_pos h0] at h
  by_cases h1:i < n
  ·rw [if_pos h1] at h
   have e:i.toNat=j:=Option.some.inj h
   exact ⟨by rw [seqIndex_of h0 h1,e],by omega,by omega,h1⟩
  ·rw [if_neg h1] at h; cases h
 ·rw [if_neg h0] at h
  by_cases h1:-(n:Int)≤i
  ·rw [if_pos h1] at h
   have e:(i+n).toNat=j:=Option.some.inj h
   exact ⟨by rw [seqIndex_neg (by omega) h1,e],by omega,h1,by omega⟩
  ·rw [if_neg h1] at h; cases h
theorem tL {α:Type} {xs:List α} {i:Int} {v:α} (h:atI xs i=some v):∃ j,seqIndex? i xs.length=some j∧xs[j]?=some v∧j < xs.length∧-(xs.length:Int)≤i∧i < xs.length:=by
 unfold atI at h
 cases e:ixN xs.length i with
 | none=>rw [e] at h; cases h
 | some j =>
  rw [e] at h
  obtain ⟨h1,h2,h3,h4⟩:=ab7 e
  exact ⟨j,h1,h,h2,h3,h4⟩
theorem mT {α:Type} {xs:List α} {j:Nat} {v:α} (h:xs[j]?=some v):atI xs (j:Int)=some v:=by
 have hj:j < xs.length:=(List.getElem?_eq_some_iff.mp h).1
 have e:ixN xs.length (j:Int)=some j:=by
  unfold ixN
  rw [if_pos (by omega),if_pos (by omega)]; simp
 unfold atI; rw [e]; exact h
theorem adm {α:Type} (xs:List α) (v:α):atI (xs++[v]) (-1)=some v:=by
 have hl:(xs++[v]).length=xs.length+1:=by simp
 have e:ixN (xs++[v]).length (-1)=some xs.length:=by
  unfold ixN
  rw [hl,if_neg (by decide),if_pos (by omega)]
  congr 1
  omega
 unfold atI
 rw [e]
 show (xs++[v])[xs.length]?=some v
 simp
def tN (b:Expr):Prop:=∀ o i,subscripted b false o i=operate [o,i] (getItem o i)
def IxR (X:Cx) (r:R2):Prop :=
 ∀ (value slice:Expr) (pins:List (Addr × Obj)) (s:Shared) (σ:St) (H:Hp) (x y:V) (v u:Value) (Q:VK),Inv X pins σ H s→bH x v→bH y u→r x y H Q →
  subscripted slice false v u=operate [v,u] (getItem v u)→wpAny (model X.prog X.w) X.A (subscriptTail value slice v u) (EP X pins σ Q) X.xe s
def MtR (X:Cx) (id:String) (r:V→List V→Hp→VK→Prop):Prop :=
 ∀ (pins:List (Addr × Obj)) (s:Shared) (σ:St) (H:Hp) (x:V) (xs:List V) (v:Value) (us:List Value) (Q:VK),Inv X pins σ H s→bH x v→aX xs us→r x xs H Q →
  wpAny (model X.prog X.w) X.A (call (.builtin id) (v :: us)) (EP X pins σ Q) X.xe s
section
variable {X:Cx} {a b:Expr} {ta tb:TE} {pos:Pos}
theorem IxR.or {r r':R2} (h:IxR X r) (h':IxR X r'):IxR X (fun x y H Q=>r x y H Q∨r' x y H Q):=by
 intro value slice pins s σ H x y v u Q I rx ry q hs
 rcases q with q | q
 ·exact h value slice pins s σ H x y v u Q I rx ry q hs
 ·exact h' value slice pins s σ H x y v u Q I rx ry q hs
theorem afW {r:R2} (hr:IxR X r) (ha:PE X a ta) (hb:PE X b tb) (hs:tN b):PE X (.Subscript a b pos) (tOp r ta tb):=by
 intro pins s σ H Q I h
 exact Subscript_ (wI ha hb I h fun v u s2 x y H2 I2 rx ry q=>hr a b pins s2 σ H2 x y v u Q I2 rx ry q (hs _ _))
def ahL (K:PySem.W.Frag):R2:=fun x y H Q=>∃ p xs i v,x=.ref p∧y=.int i∧SqL K H p xs∧atI xs i=some v∧Q v H
def ahF (K:PySem.W.Frag):R2:=fun x y H Q=>∃ p xs i v,x=.ref p∧y=.int i∧SqT K H p xs∧atI xs i=some v∧Q v H
def ahO:R2:=fun x y H Q=>∃ z i c,x=.str z∧y=.int i∧z.length≤sizeLine∧atI z.cps.toList i=some c∧Q (.str ⟨#[c]⟩) H
theorem aeM:IxR X (ahL X.K):=by
 intro value slice pins s σ H x y v u Q I rx ry h hs
 obtain ⟨p,xs,i,z,rfl,rfl,hq,he,q⟩:=h
 cases rx
 obtain ⟨t,rfl⟩:=ry
 obtain ⟨its,r,pl,hz⟩:=I.list hq
 obtain ⟨j,h1,h2,h3,h4,h5⟩:=tL he
 obtain ⟨w,ew,rw'⟩:=r.get h2
 have hl:=r.length
 have hn:=nC
 have fin:EP X pins σ Q w s:=⟨z,H,I,rw',q⟩
 by_cases h0:0≤i
 ·have hj:i.toNat=j:=by
   rw [seqIndex_of h0 h5] at h1
   exact Option.some.inj h1
  exact item_listR pl.isList h0 (by omega) (by rw [hj]; simpa using ew) fin hs
 ·have hj:(i+(its.toArray.size:Int)).toNat=j:=by
   rw [seqIndex_neg (by omega) h4] at h1
   rw [List.size_toArray,← hl]
   exact Option.some.inj h1
  exact subscriptTail_builtinR (x:=w) pl.isList.typeIs slot_list_getitem.lookup
   (wpAny_getItem_list_neg (Q:=fun r s'=>r=w∧EP X pins σ Q r s') pl.isList (by omega) (by rw [List.size_toArray] <;> omega) (by omega) (by rw [hj]; simpa using ew) ⟨rfl,fin⟩) hs
theorem afE:IxR X (ahF X.K):=by
 intro value slice pins s σ H x y v u Q I rx ry h hs
 obtain ⟨p,xs,i,z,rfl,rfl,hq,he,q⟩:=h
 cases rx
 obtain ⟨t,rfl⟩:=ry
 obtain ⟨its,r,pl,hz⟩:=I.tuple hq
 obtain ⟨j,h1,h2,h3,h4,h5⟩:=tL he
 obtain ⟨w,ew,rw'⟩:=r.get h2
 have hl:=r.length
 have hn:=nC
 have fin:EP X pins σ Q w s:=⟨z,H,I,rw',q⟩
 exact subscriptTail_builtinR (x:=w) pl.typeIs slot_tuple_getitem.lookup
  (getItem_tuple (j:=j) (Q:=fun r s'=>r=w∧EP X pins σ Q r s') pl (by omega) (by omega) (by rw [List.size_toArray,← hl]; exact h1) (by simpa using ew) ⟨rfl,fin⟩) hs
theorem afp:IxR X ahO:=by
 intro value slice pins s σ H x y v u Q I rx ry h hs
 obtain ⟨z,i,c,rfl,rfl,hz,he,q⟩:=h
 obtain ⟨t,rfl⟩:=rx
 obtain ⟨t',rfl⟩:=ry
 obtain ⟨j,h1,h2,h3,h4,h5⟩:=tL he
 have hl:z.cps.toList.length=z.length:=by simp [Str.length]
 rw [hl] at h1 h4 h5
 have hn:=nC
 exact tail_any (typeIs_str s z t) slot_str_getitem.lookup (getItem_str (c:=c) (by
  have e1:decide (i < -(2 ^ 63:Int))=false:=decide_eq_false (by omega)
  have e2:decide (i ≥ 2 ^ 63)=false:=decide_eq_false (by omega)
  rw [e1,e2,Bool.or_false]) (by rw [h1]; simpa using h2) ⟨.str ⟨#[c]⟩,H,I.tok _,⟨_,rfl⟩,q⟩) hs
def rIx (K:PySem.W.Frag):R2:=fun x y H Q=>ahL K x y H Q∨ahF K x y H Q∨ahO x y H Q
theorem aga:IxR X (rIx X.K):=aeM.or (afE.or afp)
theorem aa8 (its:List Value) (n j:Nat) (u:Value):Obj.mapSeq (·.setIfInBounds j u) { cls:=.type "list",data:=.seq its.toArray n }={ cls:=.type "list",data:=.seq (its.set j u).toArray n }:=by
 simp [Obj.mapSeq]
theorem Inv.lst {pins:List (Addr × Obj)} {σ:St} {H:Hp} {s:Shared} {p:Addr} {xs:List V} (I:Inv X pins σ H s) (h:H p=some (.lst xs)) :
  ∃ (its:List Value) (n:Nat),aX xs its∧s.heap.get? p=some { cls:=.type "list",data:=.seq its.toArray n }∧xs.length≤sizeLine:=by
 obtain ⟨z,its,n,r,e⟩:=I.hok p _ h
 exact ⟨its,n,r,e,z⟩
theorem Inv.lstUpd {pins:List (Addr × Obj)} {σ:St} {H:Hp} {s:Shared} {p:Addr} {xs ys:List V} {its its':List Value} {n n':Nat} {f:Obj→Obj} (I:Inv X pins σ H s) (h:H p=some (.lst xs))
  (ho:s.heap.get? p=some { cls:=.type "list",data:=.seq its.toArray n }) (hf:f { cls:=.type "list",data:=.seq its.toArray n }={ cls:=.type "list",data:=.seq its'.toArray n' }) (r:aX ys its') (hz:ys.length≤sizeLine) (t:Nat) :
  Inv X pins σ (upd H p (.lst ys)) { s with heap:=s.heap.update p f,toks:=t }:=by
 have e:(s.heap.update p f).get? p=some { cls:=.type "list",data:=.seq its'.toArray n' }:=by
  rw [Heap.get?_update_self f ho (by rw [hf] <;> rfl),hf]
 refine I.write (x:=p) (e:=p) (by rw [h]; trivial) (.inl rfl) (fun b u hb q=>(Heap.get?_update_other _ _ (Ne.symm hb)).trans q) ⟨_,e⟩ ?_
 exact ⟨hz,its',n',r,e⟩
def aht:V→V→V→Hp→(Hp→Prop)→Prop:=fun o i v H Q=>∃ p xs k j,o=.ref p∧i=.int k∧H p=some (.lst xs)∧ixN xs.length k=some j∧Q (upd H p (.lst (xs.set j v)))
theorem acr:wK X aht:=by
 intro pins s σ H o i v ov iv u Q I ro ri rv h
 obtain ⟨p,xs,k,j,rfl,rfl,hp,hj,q⟩:=h
 cases ro
 obtain ⟨t,rfl⟩:=ri
 obtain ⟨its,n,r,ho,hz⟩:=I.lst hp
 obtain ⟨h1,h2,h3,h4⟩:=ab7 hj
 have hl:=r.length
 have hn:=nC
 have I':Inv X pins σ (upd H p (.lst (xs.set j v))) { s with heap:=s.heap.update p (Obj.mapSeq (·.setIfInBounds j u)) } :=
  I.lstUpd hp ho (aa8 its n j u) (r.set rv j) (by rw [List.length_set]; exact hz) s.toks
 by_cases h0:0≤k
 ·have hk:k.toNat=j:=by
   rw [seqIndex_of h0 h4] at h1
   exact Option.some.inj h1
  exact PySem.W.ki_setAt ho h0 (by omega) (by rw [List.size_toArray,← hl]; exact h4) (by rw [hk]; exact ⟨_,I',q⟩)
 ·have hk:(k+(its.toArray.size:Int)).toNat=j:=by
   rw [seqIndex_neg (by omega) h3] at h1
   rw [List.size_toArray,← hl]
   exact Option.some.inj h1
  exact PySem.W.ki_setBack ho (by omega) (by rw [List.size_toArray,← hl]; exact h3) (by omega) (by rw [hk]; exact ⟨_,I',q⟩)
theorem aan (lo hi:Option Int) (n:Nat):(sliceBounds lo hi none n).1=((HT.sIx n 0 lo:Nat):Int)∧(sliceBounds lo hi none n).2.1=((HT.sIx n n hi:Nat):Int)∧(sliceBounds lo hi none n).2.2=1:=by
 refine ⟨?_,?_,rfl⟩
 ·cases lo with
  | none=>simp [sliceBounds,HT.sIx]
  | some i =>
   simp only [sliceBounds,HT.sIx,Option.getD_none,show (1:Int) > 0 by decide,if_true]
   by_cases h:i < 0
   ·simp only [h,if_true] <;> omega
   ·simp only [h,if_false] <;> omega
 ·cases hi with
  | none=>simp [sliceBounds,HT.sIx]
  | some i =>
   simp only [sliceBounds,HT.sIx,Option.getD_none,show (1:Int) > 0 by decide,if_true]
   by_cases h:i < 0
   ·simp only [h,if_true] <;> omega
   ·simp only [h,if_false] <;> omega
theorem aag (its:List Value) (lo hi:Option Int):slicePick its.toArray lo hi none=((its.drop (HT.sIx its.length 0 lo)).take (HT.sIx its.length its.length hi - HT.sIx its.length 0 lo)).toArray:=by
 obtain ⟨h1,h2,h3⟩:=aan lo hi its.toArray.size
 unfold slicePick
 rw [h1,h2,h3]
 simp only [sliceRange_one,pick_run,List.size_toArray] <;> rfl
def aix (K:PySem.W.Frag):V→Option Int→Option Int→Hp→VK→Prop:=fun x lo hi H Q=>∃ a xs,x=.ref a∧SqL K H a xs∧∀ p,H p=none→Q (.ref p) (upd H p (.lst (jU xs lo hi)))
theorem aeR:SlR X (aix X.K):=by
 intro pins s σ H x v vl vu lo hi sl Q I rx hs pl pu h
 obtain ⟨a,xs,rfl,hx,q⟩:=h
 cases rx
 obtain ⟨its,r,ht,hz⟩:=I.list hx
 have hlen:=r.length
 refine ⟨"list",_,slot_list_getitem.lookup,ht.isList.typeIs,?_⟩
 refine wpAny_getItem_list_slice ht.isList hs pl pu .none (by simp) ?_ (by rw [List.size_toArray] <;> omega)
 rw [aag,← hlen]
 refine ⟨.ref s.heap.objs.size,_,I.laid (t':=s.toks) (o:=.lst (jU xs lo hi)) (fun b ob q=>Heap.get?_push_of_some _ q) (Nat.le_refl _) ?_,rfl,q _ (I.hok.fresh (Nat.le_refl _))⟩
 exact ⟨Nat.le_trans (oE xs lo hi) hz,_,0,(r.drop (HT.sIx xs.length 0 lo)).take (HT.sIx xs.length xs.length hi - HT.sIx xs.length 0 lo),Heap.get?_push_size _ rfl⟩
theorem gG:gW X (.builtin "len") (fun xs H Q=>∃ p ys,xs=[.ref p]∧(SqL X.K H p ys∨SqT X.K H p ys)∧Q (.int ys.length) H):=by
 intro pins s σ H xs us Q I r h
 obtain ⟨p,ys,rfl,hq,q⟩:=h
 obtain ⟨u,rfl,rx⟩:=iT r
 cases rx
 have hn:=nC
 rcases hq with hq | hq
 ·obtain ⟨its,r',pl,hz⟩:=I.list hq
  have hlen:=r'.length
  exact Calls.call_len_list pl.isList (by simp only [List.size_toArray] <;> omega) ⟨.int ys.length,H,I.tok _,⟨s.toks+1,by rw [List.size_toArray,hlen]⟩,q⟩
 ·obtain ⟨its,r',pl,hz⟩:=I.tuple hq
  have hlen:=r'.length
  exact len_tuple pl (by simp only [List.size_toArray] <;> omega) ⟨.int ys.length,H,I.tok _,⟨s.toks+1,by rw [List.size_toArray,hlen]⟩,q⟩
theorem wY:gW X (.type "list") (fun xs H Q=>∃ p ys,xs=[.ref p]∧(SqL X.K H p ys∨SqT X.K H p ys)∧∀ l,H l=none→Q (.ref l) (upd H l (.lst ys))):=by
 intro pins s σ H xs us Q I r h
 obtain ⟨p,ys,rfl,hq,q⟩:=h
 obtain ⟨u,rfl,rx⟩:=iT r
 cases rx
 have fin:∀ (its:List Value),aX ys its→ys.length≤sizeLine→∀ (h':Heap) (c':Nat),(∀ b o',s.heap.get? b=some o'→h'.get? b=some o') →
   h'.get? s.heap.objs.size=some { cls:=.type "list",dict:=none,data:=.seq its.toArray c',slots:=#[] }→EP X pins σ Q (.ref s.heap.objs.size) { s with heap:=h' }:=fun its r' hz h' c' kp e =>
  ⟨.ref s.heap.objs.size,_,I.laid (t':=s.toks) kp (Nat.le_refl _) (show fK X.prog X.w _ h' _ (.lst ys) from ⟨hz,its,c',r',e⟩),rfl,q _ (I.hok.fresh (Nat.le_refl _))⟩
 rcases hq with hq | hq
 ·obtain ⟨its,r',pl,hz⟩:=I.list hq
  have hlen:=r'.length
  obtain ⟨o,ho,hc,n,hd⟩:=pl.isList
  exact call_list_seq p (.inl rfl) ho hc hd (fun h' c' kp e=>fin its r' hz h' c' kp e) (by simp only [List.size_toArray] <;> omega)
 ·obtain ⟨its,r',pl,hz⟩:=I.tuple hq
  have hlen:=r'.length
  obtain ⟨o,ho,hc,n,hd⟩:=pl
  exact call_list_seq p (.inr rfl) ho hc hd (fun h' c' kp e=>fin its r' hz h' c' kp e) (by simp only [List.size_toArray] <;> omega)
theorem jV:gW X (.type "tuple") (fun xs H Q=>∃ p ys,xs=[.ref p]∧((SqL X.K H p ys∧∀ l,H l=none→Q (.ref l) (upd H l (.tup ys)))∨(SqT X.K H p ys∧Q (.ref p) H))):=by
 intro pins s σ H xs us Q I r h
 obtain ⟨p,ys,rfl,h⟩:=h
 obtain ⟨u,rfl,rx⟩:=iT r
 cases rx
 rcases h with ⟨hq,q⟩ | ⟨hq,q⟩
 ·obtain ⟨its,r',pl,hz⟩:=I.list hq
  have hlen:=r'.length
  refine call_tuple_list pl.isList (fun h' kp=>?_) (by simp only [List.size_toArray] <;> omega)
  have I1:Inv X pins σ H { s with heap:=h' }:=I.kept (t':=s.toks) kp
  have I2:Inv X pins σ (upd H h'.objs.size (.tup ys)) { s with heap:=h'.push { cls:=.type "tuple",data:=.seq its.toArray } } :=
   I1.laid (t':=s.toks) (fun b o e=>Heap.get?_push_of_some _ e) (Nat.le_refl _) (show fK X.prog X.w _ _ _ (.tup ys) from ⟨hz,its,r',IsTup.new _ _⟩)
  exact ⟨.ref h'.objs.size,_,I2,rfl,q _ (I1.hok.fresh (Nat.le_refl _))⟩
 ·obtain ⟨its,r',pl,hz⟩:=I.tuple hq
  exact call_tuple_same pl ⟨.ref p,H,I,rfl,q⟩
def tyV (K:PySem.W.Frag) (T:String) (x:V) (H:Hp):Prop:=match x with
 | .str _=>T="str"
 | .int _=>T="int"
 | .ref p=>(T="list"∧∃ xs,SqL K H p xs)∨(T="tuple"∧∃ o,K.lookup p=some o∧o.cls=.type "tuple"∧o.dict=none) ∨
   (T="dict"∧((∃ kvs,H p=some (.dK kvs))∨∃ kvs,H p=some (.dT kvs)))∨(T="set"∧∃ S n,H p=some (.set S n))
 | _=>False
theorem agG {pins:List (Addr × Obj)} {σ:St} {H:Hp} {s:Shared} {T:String} {x:V} {v:Value} (I:Inv X pins σ H s) (r:bH x v) (ty:tyV X.K T x H) :
  s.TypeIs v T∧∀ a,v=.ref a→∃ ob,s.heap.get? a=some ob∧ob.dict=none:=by
 cases x with
 | str z =>
  obtain ⟨t,rfl⟩:=r
  cases (show T="str" from ty)
  exact ⟨typeIs_str s z t,fun _ e=>nomatch e⟩
 | int i =>
  obtain ⟨t,rfl⟩:=r
  cases (show T="int" from ty)
  exact ⟨typeIs_int s i t,fun _ e=>nomatch e⟩
 | ref p =>
  cases r
  rcases ty with ⟨rfl,xs,hq⟩ | ⟨rfl,o,hk,hc,hd⟩ | ⟨rfl,hk⟩ | ⟨rfl,S,n,hk⟩
  ·obtain ⟨its,_,pl,_⟩:=I.list hq
   refine ⟨pl.isList.typeIs,fun a e=>?_⟩
   cases e
   obtain ⟨o,n,e,c,hd,_⟩:=pl
   exact ⟨o,e,hd⟩
  ·refine ⟨⟨o,I.kIn p o hk,hc⟩,fun a e=>?_⟩
   cases e
   exact ⟨o,I.kIn _ o hk,hd⟩
  ·have z:∃ o,s.heap.get? p=some o∧o.ExactDict:=by
    rcases hk with ⟨kvs,hk⟩ | ⟨kvs,hk⟩
    ·obtain ⟨_,_,_,_,o,_,_,e,ex,_⟩:=I.hok p _ hk
     exact ⟨o,e,ex⟩
    ·obtain ⟨_,_,_,_,o,_,_,e,ex,_⟩:=I.hok p _ hk
     exact ⟨o,e,ex⟩
   obtain ⟨o,e,ex⟩:=z
   refine ⟨⟨o,e,ex.1⟩,fun a e2=>?_⟩
   cases e2
   exact ⟨o,e,ex.2.1⟩
  ·obtain ⟨o,_,_,_,e,ex,_⟩:=I.hok p _ hk
   refine ⟨⟨o,e,ex.1⟩,fun a e2=>?_⟩
   cases e2
   exact ⟨o,e,ex.2.1⟩
 | _=>exact False.elim ty
def tBM (K:PySem.W.Frag) (T:String) (r:V→List V→Hp→VK→Prop) (to:TE) (t:TA):TE:=fun σ H Q=>to σ H fun x H1=>tyV K T x H1∧t σ H1 fun xs H2=>r x xs H2 Q
variable {o e:Expr} {es:List Expr} {to:TE} {t:TA} {name:Str} {apos cpos:Pos} {T id:String} {r:V→List V→Hp→VK→Prop}
theorem afQ (pa:PlainAttrs T) (slot:Slot T name id) (hty:typeOf (.builtin id)=pure (.type "method_descriptor")) (hm:MtR X id r) (ho:PE X o to) (ha:PA X (e :: es) t)
  (hbase:attributeBase o name X.env (eval o X.env)=eval o X.env:=by rfl)
  (hfew:((backTo cpos (starEach (e :: es) X.env)).all (fun x=>!x.1) && (backToKw cpos (keywordEach [] X.env)).all (fun x=>x.1.isSome)
   && decide ((e :: es).length+([]:List Keyword).length+(if ([]:List Keyword).isEmpty then 0 else 1) < 30))=true:=by rfl)
  (hline:(apos.endLine == cpos.line)=true:=by rfl) (hs:starEach (e :: es) X.env=(false,eval e X.env) :: starEach es X.env:=by rfl) (hplain:(backTo cpos (starEach es X.env)).any (·.1)=false:=by rfl) :
  PE X (.Call (.Attribute o name apos) (e :: es) [] cpos) (tBM X.K T r to t):=by
 intro pins s σ H Q I h
 refine wpAny_Call_method_late hbase hfew hline rfl (thn (ho pins s σ H _ I h) fun v s1 ⟨x,H1,I1,r1,ty,q1⟩=>?_)
 obtain ⟨h1,h2⟩:=agG I1 r1 ty
 refine ⟨T,id,pa,slot,hty,h1,h2,?_⟩
 have hA:=ha cpos pins s1 σ H1 _ I1 q1
 rw [hs] at hA ⊢
 refine Calls.callWith_builtin (by show (false || (backTo cpos (starEach es X.env)).any (·.1))=false; rw [hplain] <;> rfl) (Calls.evalArgs_plain ?_)
 exact thn hA fun us s2 ⟨vs,H2,I2,r2,q2⟩=>hm pins s2 σ H2 x vs v us Q I2 r1 r2 q2
end
end L2
namespace L2
open PySem PySem.Spec PyProof.Rows
def MtM (X:Cx) (id:String) (r:V→List V→Hp→VK→Prop):Prop :=
 ∀ (pins:List (Addr × Obj)) (s:Shared) (σ:St) (H:Hp) (x:V) (xs:List V) (v:Value) (us:List Value) (Q:VK),Inv X pins σ H s→bH x v→aX xs us→r x xs H Q →
  wpAny (model X.prog X.w) X.A (call (.builtin id) (v :: us)) (EP X pins σ Q) X.xe s
theorem aX.one:∀ {x:V} {us:List Value},aX [x] us→∃ u,us=[u]∧bH x u
 | _,_,.cons r .nil=>⟨_,rfl,r⟩
theorem aX.two:∀ {x y:V} {us:List Value},aX [x,y] us→∃ u v,us=[u,v]∧bH x u∧bH y v
 | _,_,_,.cons r (.cons q .nil)=>⟨_,_,rfl,r,q⟩
theorem aX.eraseIdx:∀ {xs:List V} {us:List Value} (i:Nat),aX xs us→aX (xs.eraseIdx i) (us.eraseIdx i)
 | _,_,_,.nil=>.nil
 | _,_,0,.cons _ t=>t
 | _,_,i+1,.cons r t=>.cons r (aX.eraseIdx i t)
theorem aX.rep {xs:List V} {us:List Value} (h:aX xs us):∀ k:Nat,aX (List.replicate k xs).flatten (List.replicate k us).flatten
 | 0=>.nil
 | k+1=>by
  rw [List.replicate_succ,List.replicate_succ,List.flatten_cons,List.flatten_cons]
  exact aX.append h (aX.rep h k)
theorem sI {α:Type}:∀ (l:List α) (i:Nat),(l.eraseIdx i).length≤l.length
 | [],_=>Nat.le_refl _
 | _ :: _,0=>Nat.le_succ _
 | _ :: r,i+1=>Nat.succ_le_succ (sI r i)
theorem yM (its:List Value):∀ (k:Nat) (acc:List Value),
  List.foldl (fun x1 x2=>x1++x2) acc.toArray (List.replicate k its.toArray)=(acc++(List.replicate k its).flatten).toArray
 | 0,acc=>by simp
 | k+1,acc=>by
  have e:acc.toArray++its.toArray=(acc++its).toArray:=by simp
  have e2:(acc++its)++(List.replicate k its).flatten=acc++(List.replicate (k+1) its).flatten:=by
   rw [List.replicate_succ,List.flatten_cons,List.append_assoc]
  rw [← e2,← yM its k (acc++its),← e,List.replicate_succ,List.foldl_cons]
section
variable {X:Cx} {pins:List (Addr × Obj)} {σ:St} {H:Hp} {s:Shared} {l b:Addr} {xs ys zs:List V}
theorem Inv.lset {its its':List Value} {n:Nat} {f:Array Value→Array Value} {t':Nat} (I:Inv X pins σ H s) (hH:H l=some (.lst xs))
  (e:s.heap.get? l=some { cls:=.type "list",data:=.seq its.toArray n }) (hf:f its.toArray=its'.toArray) (hv:aX ys its') (hz:ys.length≤sizeLine) :
  Inv X pins σ (upd H l (.lst ys)) { s with heap:=s.heap.update l (Obj.mapSeq f),toks:=t' }:=by
 have q:=PySem.IsL.update e f
 rw [hf] at q
 refine I.write (x:=l) (e:=l) (by rw [hH]; exact trivial) (.inl rfl) (fun b' u hb hu=>(Heap.get?_update_other s.heap (Obj.mapSeq f) (Ne.symm hb)).trans hu) ⟨_,q⟩ ?_
 exact ⟨hz,its',_,hv,q⟩
theorem Inv.lnew {its:List Value} {t':Nat} (I:Inv X pins σ H s) (hv:aX ys its) (hz:ys.length≤sizeLine) :
  Inv X pins σ (upd H s.heap.objs.size (.lst ys)) { s with heap:=s.heap.push { cls:=.type "list",data:=.seq its.toArray },toks:=t' } :=
 I.laid (fun _ _ q=>Heap.get?_push_of_some _ q) (Nat.le_refl _) ⟨hz,its,0,hv,Heap.get?_push_size _ rfl⟩
theorem Inv.fresh (I:Inv X pins σ H s):H s.heap.objs.size=none:=I.hok.fresh (Nat.le_refl _)
theorem Inv.lstM (I:Inv X pins σ H s) (hH:H l=some (.lst xs)):xs.length≤sizeLine∧∃ (its:List Value) (n:Nat),aX xs its∧xs.length=its.length∧s.heap.get? l=some { cls:=.type "list",data:=.seq its.toArray n }:=by
 obtain ⟨z,its,n,r,e⟩:=I.hok l _ hH
 exact ⟨z,its,n,r,r.length,e⟩
theorem acx {n:Nat} (h:n≤sizeLine):Builtin.List.listTooLong n=false:=by
 unfold Builtin.List.listTooLong
 exact decide_eq_false (by omega)
end
section
variable {X:Cx}
def ae7:V→List V→Hp→VK→Prop:=fun x vs H Q=>∃ l xs y,x=.ref l∧vs=[y]∧H l=some (.lst xs)∧xs.length < sizeLine∧Q .non (upd H l (.lst (xs++[y])))
theorem oH:MtM X "list.append" ae7:=by
 intro pins s σ H x vs v us Q I rx rv h
 obtain ⟨l,xs,y,rfl,rfl,hH,hz,q⟩:=h
 cases rx
 obtain ⟨u,rfl,ru⟩:=rv.one
 obtain ⟨z,its,n,r,hl,e⟩:=I.lstM hH
 refine call_meets F.slot_list_append ⟨_,e,rfl⟩ F.entry_list_append (F.args_list_append_2 _ _) (PySem.list_append l its.toArray n u (by rw [List.size_toArray]; omega)) ⟨e,?_⟩
 refine ⟨.non,_,I.lset (its':=its++[u]) hH e (by simp) (r.append (.cons ru .nil)) ?_,rfl,q⟩
 rw [List.length_append,List.length_singleton]
 omega
def afu:V→List V→Hp→VK→Prop:=fun x vs H Q=>∃ l xs i k y,x=.ref l∧vs=[.int i]∧H l=some (.lst xs)∧-(2 ^ 63)≤i∧i < 2 ^ 63∧seqIndex? i xs.length=some k∧xs[k]?=some y∧Q y (upd H l (.lst (xs.eraseIdx k)))
theorem acX:MtM X "list.pop" afu:=by
 intro pins s σ H x vs v us Q I rx rv h
 obtain ⟨l,xs,i,k,y,rfl,rfl,hH,h1,h2,hk,hy,q⟩:=h
 cases rx
 obtain ⟨u,rfl,ru⟩:=rv.one
 obtain ⟨t,rfl⟩:=ru
 obtain ⟨z,its,n,r,hl,e⟩:=I.lstM hH
 obtain ⟨w,hw,rw'⟩:=r.get hy
 refine call_meets F.slot_list_pop ⟨_,e,rfl⟩ F.entry_list_pop (F.args_list_pop_2 _ _)
  (MeetsSeq.list_pop_at l its.toArray n i t k w (fitsIndex_both h1 h2) (by rw [List.size_toArray,← hl]; exact hk) (by rw [← Array.getElem?_toList]; exact hw) (by rw [List.size_toArray]; omega)) ⟨e,?_⟩
 refine ⟨y,_,I.lset (its':=its.eraseIdx k) hH e ?_ (r.eraseIdx k) ?_,rw',q⟩
 ·show its.toArray.eraseIdxIfInBounds k=(its.eraseIdx k).toArray
  rw [List.eraseIdxIfInBounds_toArray]
 ·have:=sI xs k
  omega
theorem uA {α:Type} (xs:List α) (k:Nat):(List.replicate k xs).flatten.length=k*xs.length:=by
 induction k with
 | zero=>simp
 | succ k ih=>rw [List.replicate_succ,List.flatten_cons,List.length_append,ih,Nat.succ_mul,Nat.add_comm]
end
section
variable {prog:Program} {w:World} {A:Around} {E:Value→Shared→Prop} {s:Shared}
end
section
variable {X:Cx}
end
end L2
namespace Att
open PySem PySem.W PySem.Calls PyProof.Rows
theorem aac {P:Params} {h:Heap}:∀ (ns:List Int) (vs:List Value),WellAll P h vs (ns.map WData.int)→IntsAre vs ns:=by
 intro ns
 induction ns with
 | nil =>
  intro vs w
  rw [List.map_nil] at w
  cases w
  exact .nil
 | cons n ns ih =>
  intro vs w
  rw [List.map_cons] at w
  cases w with
  | cons a b =>
   cases a
   exact .cons _ _ (ih _ b)
theorem ace {l:OpenLaw} {n:Nat} (hn:l.most=some n) {P:Params} {h:Heap} {args:List WData} {vals:List Value}
  (hpre:l.row.toRowW.claim.pre args=true) (hwl:WellAll P h vals args) :
  ∃ a vs ns,vals=[Value.ref a]∧args=[WData.list (ns.map WData.int)]∧h.get? a=some { cls:=.type "list",data:=.seq vs.toArray }∧IntsAre vs ns∧ns.length≤n:=by
 have hsh:WShape.hasAll [] args [.list .int]=true:=(pre_splitW hpre).1
 have hc:l.pre.holds [] { args:=args }=true:=(pre_splitW hpre).2
 obtain ⟨d,r,rfl,h1,h2⟩:=hasAllW_cons hsh
 obtain rfl:=hasAllW_nil h2
 obtain ⟨xs,rfl,h3⟩:=hasW_list h1
 obtain ⟨ns,rfl⟩:=items_int h3
 have hlen:ns.length≤n:=by
  unfold OpenLaw.pre at hc
  have h4:(WTm.not (.lt (.lit (.int (n:Int))) (.len (.arg 0)))).holds [] { args:=[.list (ns.map .int)] }=true:=by
   have h4:=(holds_andW hc).1
   rw [hn] at h4
   exact h4
  have h5:=condW_of h4 (w_not (w_lt w_lit (w_len_list (w_arg rfl))))
  rw [List.length_map] at h5
  refine Nat.le_of_not_lt fun q=>?_
  have q':(n:Int) < ((ns.length:Nat):Int):=by omega
  first
   | (rw [decide_eq_true q'] at h5; exact absurd h5 (by decide))
   | (simp at h5; omega)
 cases hwl with
 | cons w1 w2 =>
  cases w2
  cases w1 with
  | list ho hall=>exact ⟨_,_,ns,rfl,rfl,ho,aac ns _ hall,hlen⟩
theorem acd (l:OpenLaw) (args:List WData):l.row.toRowW.claim.post args (.bool true) args=true :=
 postW_of (r:=l.row.toRowW) (X:=(true == true))
  (show WShape.has [] (.bool true) .bool=true by first | rfl | decide | simp [WShape.has,WShape.arms,WShape.armsAll])
  (show (WTm.eq .res (.lit (.bool true))).value [] { args:=args,res:=some (.bool true),after:=args }=some (.bool (true == true)) from w_eq_bool (w_res rfl) w_lit) rfl
theorem attach_call {l:OpenLaw} {n:Nat} {q:Program} {loose:List Str} {XP:(Str→Option Value)→Heap→Prop} {YP:World→Heap→Prop} {d:DefRec}
  (hn:l.most=some n) (hdf:d.params.defaults=[])
  (call:∀ (w:World) (s₀ s₁:Shared) (mg mb:Str→Option Value) (fa:Addr) (o:Obj) (pm cd doc:Value) (a:Addr) (vs:List Value) (ns:List Int),
   Ground q loose [] XP w s₀ mg mb s₁.heap→YP w s₁.heap →
   s₁.heap.get? fa=some o→o.data=.func (docDef d.name d.params d.body d.scope pm cd doc)→s₁.heap.CodeRec cd d.name→mg d.name=some (.ref fa) →
   s₁.heap.get? a=some { cls:=.type "list",data:=.seq vs.toArray }→IntsAre vs ns→ns.length≤n→s₁.gens=#[] →
   codeAny (model l.prog w) callerA (.call (.ref fa) ⟨[.ref a],[]⟩) (fun r s'=>r=.ok (.ret (.bool true))∧OldK s₁.heap s'.heap∧s'.os=s₁.os∧AllBare s'.gens) s₁) :
  WalkO q loose XP YP l.row.toRowW d [] (fun f vs=>PySem.call f vs):=by
 intro w s₀ s₁ mg mb G Y fa o pm cd doc dV kV ho hd hcd hD hmg hg args vals as hpre hlay hrd hwl hlo
 obtain rfl:dV=.none:=Dflts.none hD hdf
 obtain rfl:kV=.none:=Dflts.noKw hD
 obtain ⟨a,vs,ns,rfl,rfl,hobj,hints,hlen⟩:=ace hn hpre hwl
 refine enter_call (codeAny_mono (call w s₀ s₁ mg mb fa o pm cd doc a vs ns G Y ho (fd_plain hd) hcd hmg hobj hints hlen hg) fun r s' hq=>?_)
 obtain ⟨rfl,h2,h3,h4⟩:=hq
 exact ⟨.inl ⟨.bool true,.bool true,[],rfl,fun _=>rfl,.bool true,acd l _,fun _=>⟨List.Pairwise.nil,fun _ hm=>(nomatch hm)⟩⟩,h2,h3,h4⟩
section
variable {prog:Program} {w:World} {A:Around} {E:Value→Shared→Prop} {s:Shared} {K:Frag}
end
end Att
namespace L2
open PySem PySem.Spec PyProof.Rows
theorem yE:∀ {vs:List Value} {ns:List Int},IntsAre vs ns→aX (ns.map V.int) vs
 | _,_,.nil=>.nil
 | _,_,.cons n t h=>.cons ⟨t,rfl⟩ (yE h)
def wM (H:Hp):Prop:=∀ b,H b=none∨∃ o xs,H b=some (.frz o (.lst xs))
theorem ac4 {P:Program} {w:World} {K:PySem.W.Frag} {mg mb:Str→Option Value} {CX:CXT} {k:Nat} {fa a:Addr} {fd:FuncData} {x:Str} {sp:Sp} {s₁:Shared} {vs:List Value} {ns:List Int}
  (KX:K.In s₁.heap) (hns:s₁.heap.Ns mainGlobals mg) (hb:s₁.heap.Ns builtinsNs mb) (hbb:∀ x:Str,x≠"__name__"→mb x=bootBuiltins x) (hlim:s₁.heap.NoLimit) (hg:s₁.gens=#[])
  (ha:s₁.heap.get? a=some { cls:=.type "list",data:=.seq vs.toArray }) (hi:IntsAre vs ns) (hl:ns.length≤sizeLine) (hr:dJ k callerA)
  (F:∀ base:Heap,K.In base→base.Ns mainGlobals mg→bS P w K mg base CX k fa fd [x] sp) (hbind:∀ (s:Shared) (u:Value),BindsTo s fd ⟨[u],[]⟩ [(x,u)])
  (hsp:∀ H:Hp,wM H→SqL K H a (ns.map V.int)→sp [.ref a] H (fun v _=>v=.bl true) fun _ _ _=>False)
  (hCX:∀ H e s',CX [] H s₁ (fun _ _ _=>False) e s'→False) :
  codeAny (model P w) callerA (.call (.ref fa) ⟨[.ref a],[]⟩) (fun r s'=>r=.ok (.ret (.bool true))∧OldK s₁.heap s'.heap∧s'.os=s₁.os∧AllBare s'.gens) s₁:=by
 have rv:=yE hi
 have lenV:=hi.length
 -- from an abstract heap in which nothing but the script may be tracked
 have core:∀ H:Hp,wM H→SqL K H a (ns.map V.int)→HOk P w H s₁.heap→(∀ b,H b≠none→b=a)→(H a≠none→K.lookup a=none) →
   codeAny (model P w) callerA (.call (.ref fa) ⟨[.ref a],[]⟩) (fun r s'=>r=.ok (.ret (.bool true))∧OldK s₁.heap s'.heap∧s'.os=s₁.os∧AllBare s'.gens) s₁:=by
  intro H hO hS hok hA hK
  have base_of:∀ {b:Addr} {o:Obj},s₁.heap.get? b=some o→H b=none→(jH s₁.heap H).get? b=some o:=fun e n=>adj e n
  have noA:∀ {b:Addr} {o:Obj} {es:Array DictEntry} {ep:Nat},s₁.heap.get? b=some o→o.data=.dict es ep→H b=none:=fun {b o es ep} e d=>by
   cases q:H b with
   | none=>rfl
   | some u =>
    have e':b=a:=hA b (by rw [q]; simp)
    subst e'
    rw [ha] at e; cases e
    have d':Data.seq vs.toArray _=Data.dict es ep:=d
    cases d'
  have nsK:∀ {b:Addr} {m:Str→Option Value},s₁.heap.Ns b m→(jH s₁.heap H).Ns b m:=fun {b m} ⟨o,es,ep,e,d,r⟩=>⟨o,es,ep,base_of e (noA e d),d,r⟩
  have hKb:K.In (jH s₁.heap H):=fun b o e=>base_of (KX b o e) (by
   cases q:H b with
   | none=>rfl
   | some u =>
    have e':b=a:=hA b (by rw [q]; simp)
    subst e'
    rw [hK (by rw [q]; simp)] at e; cases e)
  have hM:Mod K mg (jH s₁.heap H):=⟨hKb,nsK hns,⟨mb,nsK hb,hbb⟩,let ⟨mc,h1,h2⟩:=hlim; ⟨mc,nsK h1,h2⟩⟩
  have e0:rE P w K mg (jH s₁.heap H) callerA [] s₁ H:=⟨rfl,hM,fun b o e=>ae1 e,Nat.le_of_eq (abZ _ _),trivial,fun b hb=>absurd (show b∈([]:List Addr) from hb) (by simp),hok,.of_eq hg⟩
  refine codeAny_mono ((F _ hKb (nsK hns)).run callerA [] s₁ H ⟨[.ref a],[]⟩ [.ref a] [.ref a] _ _ hr e0 (hbind s₁ (.ref a)) (.cons rfl .nil) (hsp H hO hS)) fun r s' h=>?_
  cases r with
  | error e=>exact (hCX H e s' h).elim
  | ok fl =>
   cases fl with
   | next=>exact False.elim h
   | brk=>exact False.elim h
   | cont=>exact False.elim h
   | ret u =>
    obtain ⟨v,H',os,bare,un,hok',r',q⟩:=h
    have q':v=.bl true:=q
    subst q'
    obtain rfl:u=Value.bool true:=r'
    refine ⟨rfl,OldK.of_keep fun b o e=>?_,os,bare⟩
    cases q:H b with
    | none=>exact un.keep b o e q (by intro z; exact absurd (show b∈([]:List Addr) from z) (by simp)) (by simp)
    | some u =>
     rcases hO b with z | ⟨ob,xs,z⟩
     ·rw [q] at z; cases z
     ·have z2:=un.frzs b ob _ z
      obtain ⟨e1,_⟩:=hok b _ z
      obtain ⟨e2,_⟩:=hok' b _ z2
      rw [e] at e1; cases e1
      exact e2
 cases hk:K.lookup a with
 | some o =>
  -- the script is one of the module's own objects
  have e:=KX a o hk
  rw [ha] at e
  cases e
  refine core (fun _=>none) (fun _=>.inl rfl) (.inr ⟨_,vs.toArray,_,hk,rfl,rfl,rfl,by rw [List.size_toArray,lenV]; exact hl,by simpa using rv⟩) (fun b u z=>by have z':(none:Option HO)=some u:=z; cases z') (fun b z=>absurd rfl z) fun z=>absurd rfl z
 | none =>
  refine core (fun b=>if b=a then some (.frz { cls:=.type "list",data:=.seq vs.toArray } (.lst (ns.map V.int))) else none) (fun b=>?_) (.inl (.inr ⟨{ cls:=.type "list",data:=.seq vs.toArray },if_pos rfl⟩)) (fun b u z=>?_) (fun b z=>?_) fun _=>hk
  ·by_cases hb:b=a
   ·exact .inr ⟨_,_,if_pos hb⟩
   ·exact .inl (if_neg hb)
  ·by_cases hb:b=a
   ·have z':=(if_pos hb).symm.trans z
    cases z'
    subst hb
    exact ⟨ha,by rw [List.length_map]; exact hl,vs,_,rv,ha⟩
   ·have z':=(if_neg hb).symm.trans z
    cases z'
  ·by_cases hb:b=a
   ·exact hb
   ·exact absurd (if_neg hb) z
end L2
namespace L2
open PySem PySem.Spec PyProof.Rows
theorem walk_of {l:PySem.W.OpenLaw} {n k:Nat} {q:Program} {loose:List Str} {XP:(Str→Option Value)→Heap→Prop} {YP:World→Heap→Prop} {d:DefRec} {K:Params→PySem.W.Frag} {CX:World→CXT} {sp:World→Sp} {x:Str}
  (hn:l.most=some n) (hn2:n≤sizeLine) (hdf:d.params.defaults=[]) (hr:dJ k callerA)
  (hY:∀ (w:World) (h:Heap),YP w h→(K w.params).In h)
  (F:∀ (w:World) (mg:Str→Option Value) (fa:Addr) (h:Heap),(K w.params).In h→h.Ns mainGlobals mg→mg d.name=some (.ref fa) →
   ∃ fd:FuncData,(∀ (s:Shared) (u:Value),BindsTo s fd ⟨[u],[]⟩ [(x,u)]) ∧
    ∀ base:Heap,(K w.params).In base→base.Ns mainGlobals mg→bS l.prog w (K w.params) mg base (CX w) k fa fd [x] (sp w))
  (hsp:∀ (w:World) (H:Hp) (a:Addr) (ns:List Int),ns.length≤n→wM H→SqL (K w.params) H a (ns.map V.int)→sp w [.ref a] H (fun v _=>v=.bl true) fun _ _ _=>False)
  (hCX:∀ (w:World) (H:Hp) (s:Shared) (e:Value) (s':Shared),CX w [] H s (fun _ _ _=>False) e s'→False) :
  PySem.W.WalkO q loose XP YP l.row.toRowW d [] (fun f vs=>PySem.call f vs):=by
 refine Att.attach_call hn hdf fun w s₀ s₁ mg mb fa o pm cd doc a vs ns G Y ho hd hcd hmg hobj hints hlen hg=>?_
 have KX:=hY w _ Y
 obtain ⟨fd,hb,hF⟩:=F w mg fa _ KX G.T.g hmg
 exact ac4 KX G.T.g G.T.b G.T.builtins G.T.nolimit hg hobj hints (Nat.le_trans hlen hn2) hr hF hb (fun H hO hS=>hsp w H a ns hlen hO hS) fun H e s'=>hCX w H s₁ e s'
end L2
namespace L2
open PySem PySem.Spec PyProof.Rows
abbrev CX0:CXT:=fun _ _ _ _ _ _=>False
abbrev E0:XK:=fun _ _ _=>False
theorem vJ {X:Cx}:uX CX0 X E0:=fun _ _ _ _ _ _ _ h=>h.elim
structure Fun (K:PySem.W.Frag) (x qual:Str) (st:Stmt) (f:Addr) (fd:FuncData):Prop where
 ex:∃ (oc:Value) (od:Option Addr) (kV doc pm:Value) (an:Option Addr) (cdv ct:Value) (osl:Array (Option Value)),
  fd=PySem.W.fnOf x qual (iC st) (fZ st) (bE st) .none kV doc pm an cdv ct∧K.lookup f=some ⟨oc,od,.func fd,osl⟩∧PySem.W.codeIn K cdv qual=true
 kp:PySem.W.keepIn K (.ref f)=true
section
variable {P:Program} {w:World} {K:PySem.W.Frag} {mg:Str→Option Value} {base:Heap}
theorem Fun.ok {x qual:Str} {st:Stmt} {f:Addr} {fd:FuncData} {N ps:List Str} {k:Nat} {sp:Sp} (F:Fun K x qual st f fd) (S:cJ N ps (bE st)) (len:∀ vs H Q E,sp vs H Q E→vs.length=ps.length)
  (hbody:∀ (cdv:Value) (A:Around) (outer:List Env) (s:Shared) (H:Hp) (vs:List V) (Q:VK) (E:XK),dJ k (A.deeper (envOfC qual (bE st) s.heap.objs.size f cdv))→sp vs H Q E →
   ∃ t,PSs (kT CX0 P w K mg base N qual (bE st) f cdv A outer s H E).nox (fZ st) t∧t { nx:=fun _ H'=>Q .non H',rt:=Q } (start N vs) H):bS P w K mg base CX0 (k+1) f fd ps sp:=by
 obtain ⟨oc,od,kV,doc,pm,an,cdv,ct,osl,rfl,lk,hcd⟩:=F.ex
 refine ahb lk hcd S len fun A outer s H vs Q E hr hsp=>?_
 obtain ⟨t,h,q⟩:=hbody cdv A outer s H vs Q E hr hsp
 exact ⟨t,h.nox,q⟩
theorem Fun.binds {x qual:Str} {st:Stmt} {f:Addr} {fd:FuncData} {ps:List Str} (F:Fun K x qual st f fd)
  (h:∀ (kV doc pm:Value) (an:Option Addr) (cdv ct:Value) (us:List Value),us.length=ps.length→bindArgs (PySem.W.fnOf x qual (iC st) (fZ st) (bE st) .none kV doc pm an cdv ct) ⟨us,[]⟩=pure (ps.zip us)):gX K fd ps []:=by
 obtain ⟨oc,od,kV,doc,pm,an,cdv,ct,osl,rfl,lk,hcd⟩:=F.ex
 exact .all (h kV doc pm an cdv ct)
theorem adw {x qual:Str} {st:Stmt} {f:Addr} {oc:Value} {od an:Option Addr} {osl:Array (Option Value)} {kV doc pm cdv ct:Value} (l:K.lookup f=some ⟨oc,od,.func (PySem.W.fnOf x qual (iC st) (fZ st) (bE st) .none kV doc pm an cdv ct),osl⟩)
  (c:PySem.W.codeIn K cdv qual=true) (k:PySem.W.keepIn K (.ref f)=true):Fun K x qual st f (PySem.W.fnOf x qual (iC st) (fZ st) (bE st) .none kV doc pm an cdv ct):=⟨⟨oc,od,kV,doc,pm,an,cdv,ct,osl,rfl,l,c⟩,k⟩
end
section
variable {X:Cx}
theorem pv (i:Nat) {x:Str} {pos:Pos} (hN:X.N[i]?=some x:=by rfl) (hv:Vis X.env.scope x:=by first | exact Or.inl rfl | exact Or.inr (Or.inl rfl) | exact Or.inr (Or.inr rfl)) (hd:(x == ("__debug__":Str))=false:=by decide)
  (hcd:(x == ("__classdict__":Str))=false:=by decide):PE X (.Name x pos) (ahS i):=adr hN hv hd hcd
end
def cK (H H':Hp):Prop:=∀ b o,H b=some o→H' b=some o
theorem cK.refl (H:Hp):cK H H:=fun _ _ h=>h
end L2
namespace Bn
def Bd (k:Nat) (i:Int):Prop:=i.natAbs < 2 ^ k
theorem Bd.mono {j k:Nat} {i:Int} (h:Bd j i) (l:j≤k):Bd k i:=Nat.lt_of_lt_of_le h (Nat.pow_le_pow_right (by decide) l)
theorem Bd.mul {j k:Nat} {a b:Int} (h:Bd j a) (g:Bd k b):Bd (j+k) (a*b):=by
 unfold Bd at *
 rw [Int.natAbs_mul,Nat.pow_add]
 exact Nat.mul_lt_mul'' h g
theorem Bd.add {k:Nat} {a b:Int} (h:Bd k a) (g:Bd k b):Bd (k+1) (a+b):=by
 unfold Bd at *
 rw [Nat.pow_succ]
 have:=Int.natAbs_add_le a b
 omega
theorem Bd.neg {k:Nat} {a:Int} (h:Bd k a):Bd k (-a):=by
 unfold Bd at *
 rw [Int.natAbs_neg]
 exact h
theorem Bd.sub {k:Nat} {a b:Int} (h:Bd k a) (g:Bd k b):Bd (k+1) (a - b):=by
 rw [Int.sub_eq_add_neg]
 exact h.add g.neg
theorem Bd.le {k:Nat} {a b:Int} (h:Bd k b) (l:a.natAbs≤b.natAbs):Bd k a:=Nat.lt_of_le_of_lt l h
theorem Bd.of {k n:Nat} {a:Int} (l:a.natAbs≤n) (h:n < 2 ^ k):Bd k a:=Nat.lt_of_le_of_lt l h
theorem Bd.log {k:Nat} {a:Int} (h:Bd k a) (hk:0 < k):a.natAbs.log2 < k:=by
 rcases Nat.eq_zero_or_pos a.natAbs with z | z
 ·rw [z]
  exact Nat.lt_of_le_of_lt (Nat.le_of_eq (by decide)) hk
 ·exact (Nat.log2_lt (Nat.ne_of_gt z)).mpr h
theorem zG (a:Int) {b:Int} (h:b≠0):(a.fmod b).natAbs < b.natAbs:=by
 rw [Int.fmod_eq_emod]
 have h1:=Int.emod_nonneg a h
 have h2:a % b < (b.natAbs:Int):=Int.emod_lt a h
 by_cases c:0≤b∨b ∣ a
 ·rw [if_pos c]
  omega
 ·rw [if_neg c]
  have hb:b < 0:=by omega
  have h3:a % b≠0:=fun z=>c (.inr (Int.dvd_of_emod_eq_zero z))
  have h4:b.natAbs=(-b).toNat:=by omega
  omega
theorem zQ (a b:Int):Int.gcd b (a.fmod b)=Int.gcd a b:=by
 rw [Int.fmod_def,Int.mul_comm,Int.gcd_sub_mul_right_right,Int.gcd_comm]
theorem uL (x:Int):(if x < 0 then -x else x)=(x.natAbs:Int):=by
 split <;> omega
end Bn
namespace Bn
def gl:List Int→Int→Int
 | [],g=>g
 | n :: r,g=>gl r (Int.gcd g n:Nat)
def low (ns:List Int):List Int:=if gl ns 0=0 then ns else ns.map (· / gl ns 0)
theorem vP:∀ (ns:List Int) (g:Int),0≤g→0≤gl ns g
 | [],_,h=>h
 | _ :: r,_,_=>vP r _ (Int.natCast_nonneg _)
theorem adF (k:Int):∀ (ns:List Int) (g:Int),0≤g→gl (ns.map (k*·)) ((k.natAbs:Int)*g)=(k.natAbs:Int)*gl ns g
 | [],_,_=>rfl
 | n :: r,g,h=>by
  show gl (r.map (k*·)) ((Int.gcd ((k.natAbs:Int)*g) (k*n):Nat):Int)=(k.natAbs:Int)*gl r _
  have e:((Int.gcd ((k.natAbs:Int)*g) (k*n):Nat):Int)=(k.natAbs:Int)*((Int.gcd g n:Nat):Int):=by
   rcases Int.natAbs_eq k with q | q
   ·rw [← q,Int.gcd_mul_left]
    have:(k.natAbs:Int)=k:=q.symm
    push_cast
    rw [this]
   ·have e2:k*n=(k.natAbs:Int)*(-n):=by rw [Int.mul_neg,← Int.neg_mul,← q]
    rw [e2,Int.gcd_mul_left,Int.gcd_neg]
    push_cast
    simp
  rw [e]
  exact adF k r _ (Int.natCast_nonneg _)
theorem oY (k:Int) (ns:List Int):gl (ns.map (k*·)) 0=(k.natAbs:Int)*gl ns 0:=by
 have:=adF k ns 0 (Int.le_refl 0)
 rwa [Int.mul_zero] at this
theorem sN {k:Int} (h:0 < k) (ns:List Int):gl ns 0≠0→low (ns.map (k*·))=low ns:=fun z=>by
 have hk:(k.natAbs:Int)=k:=by omega
 have e:=oY k ns
 rw [hk] at e
 have nz:k*gl ns 0≠0:=Int.mul_ne_zero (by omega) z
 unfold low
 rw [e,if_neg nz,if_neg z,List.map_map]
 refine List.map_congr_left fun n _=>?_
 show k*n / (k*gl ns 0)=n / gl ns 0
 exact Int.mul_ediv_mul_of_pos _ _ h
theorem gL:∀ (ns:List Int) (g:Int),gl ns g ∣ g∧∀ n∈ns,gl ns g ∣ n
 | [],g=>⟨Int.dvd_refl g,fun _ h=>nomatch h⟩
 | m :: r,g=>by
  obtain ⟨h1,h2⟩:=gL r ((Int.gcd g m:Nat):Int)
  refine ⟨Int.dvd_trans h1 (Int.gcd_dvd_left ..),fun n hn=>?_⟩
  rcases List.mem_cons.mp hn with q | q
  ·subst q
   exact Int.dvd_trans h1 (Int.gcd_dvd_right ..)
  ·exact h2 n q
theorem tO {ns:List Int} (h:gl ns 0=0):∀ n∈ns,n=0:=fun n hn=>by
 have:=(gL ns 0).2 n hn
 rw [h] at this
 exact Int.zero_dvd.mp this
theorem vW {ns:List Int} {n:Int} (hn:n∈ns) (h:n≠0):gl ns 0≠0:=fun z=>h (tO z n hn)
theorem adq {ns:List Int} {n:Int} (hn:n∈ns) (h:n≠0):0 < gl ns 0:=by
 have h1:=vP ns 0 (Int.le_refl 0)
 have h2:=vW hn h
 omega
theorem adV {ns:List Int} {n:Int} (hn:n∈ns) (h:n≠0):low ns=ns.map (· / gl ns 0):=by
 unfold low
 rw [if_neg (vW hn h)]
theorem Bd.gcd {k:Nat} {a b:Int} (h:Bd k a) (g:Bd k b):Bd k (Int.gcd a b:Nat):=by
 unfold Bd at *
 rw [Int.natAbs_natCast]
 rcases Nat.eq_zero_or_pos a.natAbs with z | z
 ·have:a=0:=by omega
  subst this
  rw [Int.gcd_zero_left]
  exact g
 ·exact Nat.lt_of_le_of_lt (Nat.gcd_le_left _ z) h
theorem vU {k:Nat}:∀ {ns:List Int} {g:Int},Bd k g→(∀ n∈ns,Bd k n)→Bd k (gl ns g)
 | [],_,h,_=>h
 | n :: r,g,h,hn=>by
  show Bd k (gl r _)
  exact vU (ns:=r) (h.gcd (hn n List.mem_cons_self)) fun m hm=>hn m (List.mem_cons_of_mem _ hm)
theorem ady {k:Nat} {ns:List Int} (h:∀ n∈ns,Bd k n):∀ n∈low ns,Bd k n:=fun n hn=>by
 unfold low at hn
 by_cases c:gl ns 0=0
 ·rw [if_pos c] at hn
  exact h n hn
 ·rw [if_neg c] at hn
  obtain ⟨m,hm,rfl⟩:=List.mem_map.mp hn
  refine (h m hm).le ?_
  have d:=(gL ns 0).2 m hm
  obtain ⟨q,e⟩:=d
  rw [e,Int.mul_ediv_cancel_left _ c,Int.natAbs_mul]
  exact Nat.le_mul_of_pos_left _ (by omega)
theorem aeP (ns:List Int):(low ns).length=ns.length:=by
 unfold low
 split
 ·rfl
 ·rw [List.length_map]
def fr (t b:Int):List Int:=if b < 0 then low [0 - t,0 - b] else low [t,b]
theorem qN (a b:Int):b∈[a,b]:=List.mem_cons_of_mem _ List.mem_cons_self
theorem ad7 (ns:List Int):gl (ns.map (-1*·)) 0=gl ns 0:=by
 have:=oY (-1) ns
 simpa using this
theorem aia {t b:Int} (h:b≠0):∃ p q:Int,fr t b=[p,q]∧0 < q∧p*b=t*q:=by
 have go:∀ {t b:Int},0 < b→∃ p q:Int,low [t,b]=[p,q]∧0 < q∧p*b=t*q:=fun {t b} hb=>by
  have nz:b≠0:=by omega
  have gp:=adq (qN t b) nz
  refine ⟨t / gl [t,b] 0,b / gl [t,b] 0,adV (qN t b) nz,?_,?_⟩
  ·obtain ⟨m,e⟩:=(gL [t,b] 0).2 b (qN t b)
   have:b / gl [t,b] 0=m:=by
    conv=>lhs; lhs; rw [e]
    exact Int.mul_ediv_cancel_left _ (by omega)
   rw [this]
   have hm:0 < m*gl [t,b] 0:=by rw [Int.mul_comm,← e]; exact hb
   exact Int.pos_of_mul_pos_left hm gp
  ·obtain ⟨m,e⟩:=(gL [t,b] 0).2 b (qN t b)
   obtain ⟨n,f⟩:=(gL [t,b] 0).2 t List.mem_cons_self
   have e1:b / gl [t,b] 0=m:=by
    conv=>lhs; lhs; rw [e]
    exact Int.mul_ediv_cancel_left _ (by omega)
   have e2:t / gl [t,b] 0=n:=by
    conv=>lhs; lhs; rw [f]
    exact Int.mul_ediv_cancel_left _ (by omega)
   rw [e1,e2]
   conv=>lhs; rhs; rw [e]
   conv=>rhs; lhs; rw [f]
   rw [Int.mul_left_comm,Int.mul_assoc]
 unfold fr
 by_cases c:b < 0
 ·rw [if_pos c]
  obtain ⟨p,q,e1,e2,e3⟩:=go (t:=0 - t) (b:=0 - b) (by omega)
  refine ⟨p,q,e1,e2,?_⟩
  rw [Int.zero_sub,Int.zero_sub,Int.mul_neg,Int.neg_mul] at e3
  omega
 ·rw [if_neg c]
  exact go (by omega)
def sg (n:Int):Int:=if 0 < n then 1 else if n < 0 then -1 else 0
theorem acw (b:Int):-(2 ^ 64) < sg b∧sg b < 2 ^ 64:=by
 unfold sg
 split
 ·decide
 ·split <;> decide
theorem aaW {g n:Int} (h:g≠0):(g*n).fdiv g=n:=by
 rw [Int.fdiv_eq_ediv_of_dvd ⟨n,rfl⟩,Int.mul_ediv_cancel_left _ h]
theorem acn (n:Int):∀ (l:List Int) (g:Int),gl (l++[n]) g=(Int.gcd (gl l g) n:Nat)
 | [],g=>rfl
 | m :: r,g=>acn n r _
theorem acV {k m:Int} (hk:0 < k) (hm:0 < m) {A B:List Int} (hA:gl A 0≠0) (e:A.map (k*·)=B.map (m*·)):low A=low B:=by
 have hB:gl B 0≠0:=fun z=>by
  have h:=oY k A
  rw [e,oY m B,z,Int.mul_zero] at h
  have:(k.natAbs:Int)*gl A 0≠0:=Int.mul_ne_zero (by omega) hA
  exact this h.symm
 rw [← sN hk A hA,e,sN hm B hB]
theorem adt (b:Int):∀ (ns:List Int) (g:Int),gl ns (Int.gcd g b:Nat)=(Int.gcd (gl ns g) b:Nat)
 | [],_=>rfl
 | n :: r,g=>by
  show gl r ((Int.gcd ((Int.gcd g b:Nat):Int) n:Nat):Int)=((Int.gcd (gl r _) b:Nat):Int)
  rw [← adt b r,Int.gcd_assoc,Int.gcd_comm b n,← Int.gcd_assoc]
theorem tJ {ns:List Int} {b:Int} (hb:0 < b):gl (ns++[b]) 0=gl ns b:=by
 rw [acn,← adt,Int.gcd_zero_left]
 congr 1
 omega
theorem kA (ns:List Int) (b:Int):b∈ns++[b]:=List.mem_append_right _ List.mem_cons_self
theorem agt {ns:List Int} {b:Int} (hb:0 < b):low (ns++[b])=(ns.map fun n=>n.fdiv (gl ns b))++[b.fdiv (gl ns b)]∧0 < gl ns b:=by
 have gp:=adq (kA ns b) (by omega)
 rw [tJ hb] at gp
 refine ⟨?_,gp⟩
 rw [adV (kA ns b) (by omega),tJ hb,List.map_append]
 have e:∀ n:Int,n / gl ns b=n.fdiv (gl ns b):=fun n=>(Int.fdiv_eq_ediv_of_nonneg n (Int.le_of_lt gp)).symm
 simp only [e,List.map_cons,List.map_nil]
theorem uR (ns:List Int) {b:Int} (hb:0 < b):∃ (zs:List Int) (z g:Int),low (ns++[b])=zs++[z]∧0 < g∧0 < z∧ns=zs.map (g*·)∧b=g*z∧zs.length=ns.length:=by
 obtain ⟨e,gp⟩:=agt (ns:=ns) hb
 have dv:=gL (ns++[b]) 0
 rw [tJ hb] at dv
 have ex:∀ n∈ns++[b],gl ns b*n.fdiv (gl ns b)=n:=fun n hn=>by
  obtain ⟨q,e⟩:=dv.2 n hn
  conv=>lhs; rhs; rw [e]
  rw [aaW (by omega)]
  exact e.symm
 refine ⟨_,_,gl ns b,e,gp,?_,?_,(ex b (kA ns b)).symm,List.length_map _⟩
 ·have h:=ex b (kA ns b)
  have:0 < b.fdiv (gl ns b)*gl ns b:=by rw [Int.mul_comm,h]; exact hb
  exact Int.pos_of_mul_pos_left this gp
 ·rw [List.map_map]
  conv=>lhs; rw [← List.map_id ns]
  refine List.map_congr_left fun n hn=>?_
  exact (ex n (List.mem_append_left _ hn)).symm
theorem abt (ns:List Int) {b:Int} (hb:0 < b):low (low (ns++[b]))=low (ns++[b]):=by
 obtain ⟨zs,z,g,e,hg,hz,e1,e2,_⟩:=uR ns hb
 rw [e]
 refine acV (k:=g) (m:=1) hg (by decide) (vW (kA zs z) (by omega)) ?_ |>.trans e
 rw [List.map_append,← e1]
 show ns++[g*z]=(ns++[b]).map (1*·)
 rw [← e2]
 conv=>lhs; rw [← List.map_id (ns++[b])]
 refine List.map_congr_left fun n _=>?_
 exact (Int.one_mul n).symm
end Bn
namespace Bn
def sm (xs:List Int) (w:Int) (ys:List Int) (v:Int):List Int:=List.zipWith (fun x y=>x*v+y*w) xs ys
theorem af8 {xs ys:List Int} {f g:Int→Int→Int} (h:∀ x y,f x y=g x y):List.zipWith f xs ys=List.zipWith g xs ys:=by
 have:f=g:=funext fun x=>funext fun y=>h x y
 rw [this]
theorem abb (xs:List Int) (w:Int) (ys:List Int) (v:Int):List.zipWith (fun x y=>1*x*v+y*w) xs ys=sm xs w ys v:=af8 fun x y=>by rw [Int.one_mul]
theorem aav (xs:List Int) (w:Int) (ys:List Int) (v:Int):List.zipWith (fun y x=>-1*y*w+x*v) ys xs=sm xs w (ys.map (- ·)) v:=by
 unfold sm
 rw [List.zipWith_map_right,List.zipWith_comm]
 refine af8 fun x y=>?_
 rw [Int.neg_mul,Int.one_mul]
 exact Int.add_comm _ _
end Bn
namespace L2
open PySem PySem.Spec PyProof.Rows Bn
section
variable {X:Cx}
theorem abj {k:Nat} {i:Int} (h:Bd k i):Builtin.Int.intBits i≤k:=by
 unfold Builtin.Int.intBits
 split
 ·exact Nat.zero_le _
 ·rename_i c
  have z:i.natAbs≠0:=by
   intro q
   have:i=0:=by omega
   subst this
   exact c rfl
  have:=(Nat.log2_lt z).mpr h
  omega
def lX (_ j:Int):Prop:=j≠0∧Bd 8000 j
theorem lC:OpR X (binaryOp .FloorDiv) (rI lX fun i j=>.int (i.fdiv j)) :=
 opI fun _ _ _ _ _ _ _ hc q=>floordiv_int hc.1 q (.inl (PyProof.noPylong_of_log2 (Nat.lt_trans (hc.2.log (by decide)) (by decide))))
theorem PS.imp {st:Stmt} {t t':TS} (h:PS X st t) (i:∀ D σ H,t' D σ H→t D σ H):PS X st t':=fun pins s σ H D I q=>h pins s σ H D I (i D σ H q)
theorem PSs.imp {st:List Stmt} {t t':TS} (h:PSs X st t) (i:∀ D σ H,t' D σ H→t D σ H):PSs X st t':=fun pins s σ H D I q=>h pins s σ H D I (i D σ H q)
theorem PE.imp {e:Expr} {t t':TE} (h:PE X e t) (i:∀ σ H Q,t' σ H Q→t σ H Q):PE X e t':=fun pins s σ H Q I q=>h pins s σ H Q I (i σ H Q q)
theorem PT.imp {e:Expr} {t t':TT} (h:PT X e t) (i:∀ σ H Q,t' σ H Q→t σ H Q):PT X e t':=fun pins s σ H Q I q=>h pins s σ H Q I (i σ H Q q)
theorem Inv.turnedNew {pins:List (Addr × Obj)} {σ:St} {H:Hp} {s:Shared} {h':Heap} {t':Nat} {ch:List Addr} {a:Addr} {o:HO} (I:Inv X pins σ H s) (hf:∀ b∈ch,dQ X pins H b)
  (k:∀ b u,b ∉ ch→s.heap.get? b=some u→h'.get? b=some u) (hp:s.heap.objs.size≤a) (new:fK X.prog X.w (upd H a o) h' a o) :
  Inv X pins σ (upd H a o) { s with heap:=h',toks:=t' }:=by
 have hn:H a=none:=I.hok.fresh hp
 have nch:∀ b u,H b=some u→b ∉ ch:=fun b u e z=>by
  rw [(hf b z).1] at e
  cases e
 have nea:∀ b u,H b=some u→b≠a:=fun b u e=>dY e hn
 refine I.step (g':=s.gens) (d':=s.drawn) (ch:=ch) (fun b hb=>?_) (fun b u _ _ hc e _=>k b u hc e) (fun b u _ _ hc e _=>⟨u.slots,k b u hc e⟩) (fun b u _ e n=>?_)
  (fun b u hc e=>⟨u,k b u hc e⟩) (fun b xs e=>?_) (fun b u v e=>?_) (fun b ps e=>⟨#[],?_⟩) (fun m hm=>?_) (fun b u e=>?_) I.bare
 ·obtain ⟨_,f1,_,f3,f4,f5⟩:=hf b hb
  exact ⟨f3,f1,f4,f5⟩
 ·rw [bQ (Nat.ne_of_lt (Nat.lt_of_lt_of_le (Heap.lt_size e) hp))]
  exact n
 ·rw [bQ (nea b _ e)]
  exact e
 ·rw [bQ (nea b _ e)]
  exact e
 ·rw [bQ (nea b _ e),e]
  simp
 ·obtain ⟨ob,es,ep,ho,r⟩:=hm
  exact ⟨ob,es,ep,k _ ob (fun z=>(hf _ z).2.1 rfl) ho,r⟩
 ·by_cases hb:b=a
  ·subst hb
   rw [eL] at e
   cases e
   exact new
  ·rw [bQ hb] at e
   refine (I.hok b u e).stay (fun c v hc q=>k c v ?_ q) (fun c q=>?_) fun c xs q=>?_
   ·rcases hc with z | z
    ·rw [z]
     exact nch b u e
    ·exact nch c _ z
   ·rw [bQ (nea c _ q)]
    exact q
   ·rw [bQ (nea c _ q)]
    exact q
theorem Inv.turnedL {pins:List (Addr × Obj)} {σ:St} {H:Hp} {s:Shared} {h':Heap} {t':Nat} {ch:List Addr} (I:Inv X pins σ H s) (hf:∀ b∈ch,dQ X pins H b)
  (k:∀ b u,b ∉ ch→s.heap.get? b=some u→h'.get? b=some u):Inv X pins σ H { s with heap:=h',toks:=t' }:=by
 have nch:∀ b u,H b=some u→b ∉ ch:=fun b u e z=>by
  rw [(hf b z).1] at e
  cases e
 refine I.step (g':=s.gens) (d':=s.drawn) (ch:=ch) (fun b hb=>?_) (fun b u _ _ hc e _=>k b u hc e) (fun b u _ _ hc e _=>⟨u.slots,k b u hc e⟩) (fun b u _ e n=>n)
  (fun b u hc e=>⟨u,k b u hc e⟩) (fun b xs e=>e) (fun b u v e=>e) (fun b ps e=>⟨#[],?_⟩) (fun m hm=>?_) (fun b u e=>?_) I.bare
 ·obtain ⟨_,f1,_,f3,f4,f5⟩:=hf b hb
  exact ⟨f3,f1,f4,f5⟩
 ·rw [e]
  simp
 ·obtain ⟨ob,es,ep,ho,r⟩:=hm
  exact ⟨ob,es,ep,k _ ob (fun z=>(hf _ z).2.1 rfl) ho,r⟩
 ·refine (I.hok b u e).stay (fun c v hc q=>k c v ?_ q) (fun c q=>q) fun c xs q=>q
  rcases hc with z | z
  ·rw [z]
   exact nch b u e
  ·exact nch c _ z
end
def Ite (K : PySem.W.Frag) (a : Addr) : It :=
  ⟨fun i H => ∃ xs x, SqL K H a xs ∧ xs[i]? = some x,
   fun i H x H' => ∃ p y, H p = none ∧ x = .ref p ∧ H' = upd H p (.tup [.int i, y]) ∧ ∀ xs, SqL K H a xs → xs[i]? = some y,
   fun i H => ∃ xs, SqL K H a xs ∧ xs.length ≤ i⟩
theorem abu {P:Program} {w:World} {K:PySem.W.Frag} {elts:List Expr} {x1:Nat} {tp:Pos} (a e it:Addr) (hne:e≠it) :
  mE P w K (.Tuple elts x1 tp) (Ite K a) [e,it] e (fun i h=>(∃ old,IsEnum h e it (i:Int) old)∧h.IsListIter it a i) where
 mem:=by simp
 obj:=fun i h st b hb=>by
  obtain ⟨⟨old,q⟩,o,e1,c,d⟩:=st
  rcases List.mem_cons.mp hb with z | z
  ·subst z
   exact ⟨_,q,fun v z=>nomatch z⟩
  ·have z':b=it:=by simpa using z
   subst z'
   exact ⟨o,e1,fun v z=>by rw [d] at z; cases z⟩
 keep:=fun i h h' st k=>⟨let ⟨old,q⟩:=st.1; ⟨old,k e (by simp) _ q⟩,st.2.at fun o q=>k it (by simp) o q⟩
 item:=by
  intro X hP hw hK hc i pins s σ H E I hf st hg
  subst hP hw hK
  obtain ⟨xs,x,hq,hx⟩:=hg
  obtain ⟨its,rv,pl,hz⟩:=I.list hq
  obtain ⟨u,hu,ru⟩:=rv.get hx
  obtain ⟨⟨old,he⟩,hit⟩:=st
  refine wpAny_pyNext_enum_item he hit pl.isList (x:=u) (by simpa using hu) hne fun h1 ho1 hit1 ht1 hs1 hk1=>⟨_,rfl,?_⟩
  have lt1:e < s.heap.objs.size:=Heap.lt_size he
  refine wpAny_letOwnedTupleGo_enum (s:={ s with heap:=h1,toks:=s.toks+1 }) ho1 fun h2 he2 sb2=>?_
  have ht2:h2.get? s.heap.objs.size=some { cls:=.type "tuple",data:=.seq #[.int i s.toks,u] }:=(sb2.2 _ (Nat.ne_of_gt lt1)).trans ht1
  have I2:Inv X pins σ (upd H s.heap.objs.size (.tup [.int i,x])) { s with heap:=h2,toks:=s.toks+1 } :=
   I.turnedNew hf (fun b o hb q=>(sb2.2 b (fun z=>hb (by simp [z]))).trans (hk1 b o (fun z=>hb (by simp [z])) (fun z=>hb (by simp [z])) q)) (Nat.le_refl _)
    ⟨by show 2≤sizeLine; decide,[.int i s.toks,u],.cons ⟨_,rfl⟩ (.cons ru .nil),⟨_,ht2,rfl,_,rfl⟩⟩
  refine ⟨.ref s.heap.objs.size,_,I2,rfl,⟨_,x,I.hok.fresh (Nat.le_refl _),rfl,rfl,fun ys hy=>by rw [I.list_inj hy hq]; exact hx⟩,⟨⟨_,by simpa using he2⟩,hit1.at fun o q=>(sb2.2 it hne.symm).trans q⟩,fun b hb=>?_⟩
  have hb':=(hf b hb).1
  have lt:b≠s.heap.objs.size:=by
   rcases List.mem_cons.mp hb with z | z
   ·subst z
    exact Nat.ne_of_lt lt1
   ·have z':b=it:=by simpa using z
    subst z'
    obtain ⟨o,q,_⟩:=hit
    exact Nat.ne_of_lt (Heap.lt_size q)
  rw [bQ lt]
  exact hb'
 done:=by
  intro X hP hw hK hc i pins s σ H E I hf st hg
  subst hP hw hK
  obtain ⟨xs,hq,hx⟩:=hg
  obtain ⟨its,rv,pl,hz⟩:=I.list hq
  obtain ⟨⟨old,he⟩,hit⟩:=st
  have hl:=rv.length
  exact wpAny_pyNext_enum_end (I.ok.hd hc) he hit pl.isList (by simp; omega) fun h' eb=>⟨rfl,I.turnedL (t':=s.toks) hf fun b o hb q=>eb b o (fun z=>hb (by simp [z])) q⟩
 self:=fun _ _ _ _ _ st h=>let ⟨_,q⟩:=st.1; wpAny_pyIter_enum q h
section
variable {X:Cx} {elts:List Expr} {x1:Nat} {tp:Pos}
def ahd (K:PySem.W.Frag) (tl:TA):TI:=fun σ H R=>tl σ H fun vs H1=>∃ a,vs=[.ref a]∧(∃ xs,SqL K H1 a xs)∧R (Ite K a) H1
theorem aeS {l:Expr} {tl:TA} {p pos:Pos} (hg:Gl X "enumerate") (hm:X.mg "enumerate"=none) (hl:PA X [l] tl) (hs:starEach [l] X.env=[(false,eval l X.env)]:=by rfl) :
  PI X (.Tuple elts x1 tp) (.Call (.Name "enumerate" p) [l] [] pos) (ahd X.K tl):=by
 intro pins s σ H R I h
 refine Call_ (nA I hg hm boot_enumerate (PyProof.Rows.callWith_type1 (thn (hl pos pins s σ H _ I h) fun us s1 ⟨vs,H1,I1,r1,q1⟩=>?_) hs rfl))
 obtain ⟨a,rfl,⟨xs,hq⟩,q⟩:=q1
 obtain ⟨u,rfl,ru⟩:=iT r1
 cases ru
 obtain ⟨its,rv,pl,hz⟩:=I1.list hq
 refine call_enumerate_list pl.isList fun h' he hit hsz k=>?_
 have I2:Inv X pins σ H1 { s1 with heap:=h' }:=I1.kept (t':=s1.toks) k
 refine wpAny_pyIter_enum (s:={ s1 with heap:=h' }) he ?_
 refine ⟨s1.heap.objs.size+1,[s1.heap.objs.size+1,s1.heap.objs.size],_,_,H1,rfl,I2,abu a _ _ (Nat.succ_ne_self _),⟨⟨_,he⟩,hit⟩,fun b hb=>?_,q⟩
 have hb':s1.heap.objs.size≤b:=by
  rcases List.mem_cons.mp hb with z | z
  ·rw [z]
   exact Nat.le_succ _
  ·have z':b=s1.heap.objs.size:=by simpa using z
   rw [z']
   exact Nat.le_refl _
 exact I1.fpOk hb' (I1.hok.fresh hb')
end
end L2
namespace L2
open PySem PySem.Spec PyProof.Rows Bn
def eH (env:Env):List (Str × NameKind)→List (Str × Addr)→List (Str × Addr)
 | [],acc=>acc
 | p :: r,acc=>if (p.2 == .free)=true then eH env r ((p.1,(env.cells.lookup p.1).getD 0) :: acc) else eH env r acc
theorem uB {sc:Scope} {env:Env} (h:∀ p∈sc.names,p.2=.free→∃ c,env.cells.lookup p.1=some c):closureFor sc env=pure (eH env sc.names []):=by
 unfold closureFor
 have go:∀ (l:List (Str × NameKind)) (acc:List (Str × Addr)),(∀ p∈l,p.2=.free→∃ c,env.cells.lookup p.1=some c) →
   (forIn l acc (fun x r=>if (x.2 == NameKind.free)=true then do let a ← cellOf env x.1; pure (ForInStep.yield ((x.1,a) :: r)) else pure (ForInStep.yield r)):Sem _)=pure (eH env l acc):=by
  intro l
  induction l with
  | nil=>intro acc _; rfl
  | cons p r ih =>
   intro acc hp
   rw [List.forIn_cons]
   have hr:=fun acc'=>ih acc' fun q hq=>hp q (List.mem_cons_of_mem _ hq)
   by_cases c:(p.2 == NameKind.free)=true
   ·obtain ⟨a,ea⟩:=hp p List.mem_cons_self (by simpa using c)
    have e1:cellOf env p.1=pure a:=by unfold cellOf; rw [ea]
    rw [if_pos c,e1]
    simp only [pure_bind]
    rw [hr]
    show _=pure (if (p.2 == .free)=true then _ else _)
    rw [if_pos c,ea]
    rfl
   ·rw [if_neg c]
    simp only [pure_bind]
    rw [hr]
    show _=pure (if (p.2 == .free)=true then _ else _)
    rw [if_neg c]
 have e:=go sc.names [] h
 show (forIn sc.names [] _ >>= fun r=>pure r)=_
 rw [bind_pure]
 exact e
theorem oG {env:Env}:∀ (l:List (Str × NameKind)) (acc:List (Str × Addr)),(∀ p∈l,p.2=.free→∃ c,env.cells.lookup p.1=some c) →
  ∀ y c,(eH env l acc).lookup y=some c→acc.lookup y=some c∨env.cells.lookup y=some c
 | [],acc,_,y,c,e=>.inl e
 | p :: r,acc,h,y,c,e=>by
  have hr:∀ q∈r,q.2=.free→∃ c,env.cells.lookup q.1=some c:=fun q hq=>h q (List.mem_cons_of_mem _ hq)
  unfold eH at e
  by_cases k:(p.2 == NameKind.free)=true
  ·rw [if_pos k] at e
   obtain ⟨a,ea⟩:=h p List.mem_cons_self (by simpa using k)
   rcases oG r _ hr y c e with z | z
   ·rw [List.lookup_cons] at z
    cases w:y == p.1 with
    | true =>
     rw [w,ea] at z
     have hy:y=p.1:=by simpa using w
     rw [hy,ea]
     exact .inr z
    | false =>
     rw [w] at z
     exact .inl z
   ·exact .inr z
  ·rw [if_neg k] at e
   exact oG r acc hr y c e
theorem kY {env:Env}:∀ (l:List (Str × NameKind)) (acc:List (Str × Addr)) (y:Str),((∃ c,acc.lookup y=some c)∨(y,NameKind.free)∈l)→∃ c,(eH env l acc).lookup y=some c
 | [],acc,y,h=>by
  rcases h with h | h
  ·exact h
  ·cases h
 | p :: r,acc,y,h=>by
  unfold eH
  by_cases k:(p.2 == NameKind.free)=true
  ·rw [if_pos k]
   refine kY r _ y ?_
   cases w:y == p.1 with
   | true=>exact .inl ⟨_,by rw [List.lookup_cons,w]⟩
   | false =>
    rcases h with ⟨c,h⟩ | h
    ·exact .inl ⟨c,by rw [List.lookup_cons,w]; exact h⟩
    ·rcases List.mem_cons.mp h with z | z
     ·rw [← z] at w
      simp at w
     ·exact .inr z
  ·rw [if_neg k]
   refine kY r _ y ?_
   rcases h with h | h
   ·exact .inl h
   ·rcases List.mem_cons.mp h with z | z
    ·rw [← z] at k
     simp at k
    ·exact .inr z
theorem wW {env:Env}:∀ {names:List (Str × NameKind)} {x:Str},(∀ y∈names,y.2≠.cell) →
  (let l:=(names.map fun (n,k)=>if (k == NameKind.free && env.scope.kind == .function && env.kindOf n == some .cell) then (n,NameKind.cell) else (n,k)).lookup x; l=some .cell∨l=some .free)→(x,NameKind.free)∈names
 | [],x,_,h=>by
  rcases h with h | h <;> cases h
 | (n,k) :: r,x,hc,h=>by
  dsimp only at h
  rw [List.map_cons] at h
  have ih:=@wW env r x fun y hy=>hc y (List.mem_cons_of_mem _ hy)
  have nk:k≠.cell:=hc (n,k) List.mem_cons_self
  by_cases c:(k == NameKind.free && env.scope.kind == .function && env.kindOf n == some .cell)=true
  ·have kf:k=.free:=by
    simp only [Bool.and_eq_true,beq_iff_eq] at c
    exact c.1.1
   dsimp only at h
   rw [if_pos c,List.lookup_cons] at h
   cases w:x == n with
   | true =>
    have hx:x=n:=by simpa using w
    rw [hx,← kf]
    exact List.mem_cons_self
   | false =>
    rw [w] at h
    exact List.mem_cons_of_mem _ (ih h)
  ·dsimp only at h
   rw [if_neg c,List.lookup_cons] at h
   cases w:x == n with
   | true =>
    rw [w] at h
    have hx:x=n:=by simpa using w
    have kf:k=.free:=by
     rcases h with h | h
     ·exact absurd (Option.some.inj h) nk
     ·exact Option.some.inj h
    rw [hx,← kf]
    exact List.mem_cons_self
   | false =>
    rw [w] at h
    exact List.mem_cons_of_mem _ (ih h)
def cT (X:Cx) (sc:Scope) (N:List Str) (C:Addr) (s₀:Shared) (H₀:Hp) (ex:List Addr):Cx where
 prog:=X.prog
 w:=X.w
 K:=X.K
 mg:=X.mg
 base:=X.base
 A:=X.A
 N:=N
 s₀:=s₀
 H₀:=H₀
 env:=compEnvC sc (eH X.env sc.names []) C X.env
 outer:=X.stack
 stack:=X.stack
 ex:=ex
 fn:=fun _=>false
 calm:=X.calm
 pn:=[]
 xe:=fun _ _=>False
def fL (own:List Str) (cap:List (Nat × Str)) (σ:St):St:=own.map (fun _=>none)++cap.map fun p=>(σ[p.1]?).join
def bB (own:List Str) (cap:List (Nat × Str)):List Str:=own++cap.map (·.2)
def qT (J:It) (g:TG) (te:TE) (σ₀:St) (H1:Hp) (D:Addr) (Q:VK):Prop :=
 ∃ W:Nat→Nat→St→Hp→List V→Prop,(∃ m,W 0 m σ₀ (upd H1 D (.lst [])) [])∧∀ i m σ H ys,W i m σ H ys→H D=some (.lst ys) ∧
  ((J.stop i H∧Q (.ref D) H)∨(J.go i H∧ys.length < sizeLine∧∀ x H2,J.yld i H x H2→g x σ H2 fun σ3 H3=>te σ3 H3 fun y H4=>H4 D=some (.lst ys)∧∃ m',m' < m∧W (i+1) m' σ3 (upd H4 D (.lst (ys++[y]))) (ys++[y])))
def nU (own:List Str) (cap:List (Nat × Str)) (wi:TI) (g:TG) (te:TE):TE:=fun σ H Q=>wi σ H fun J H1=>∀ D,H1 D=none→qT J g te (fL own cap σ) H1 D Q
def Nx (n:Nat) (Pv:Nat→St→Hp→List V→Prop) (D:Addr) (i:Nat) (ys:List V) (σ:St) (y:V) (H:Hp):Prop :=
 H D=some (.lst ys)∧∃ m,m < n - i∧(m=n - (i+1)∧i+1≤n∧Pv (i+1) σ (upd H D (.lst (ys++[y]))) (ys++[y]))
theorem ahA {n:Nat} {Pv:Nat→St→Hp→List V→Prop} {D:Addr} {i:Nat} {ys:List V} {σ:St} {y:V} {H:Hp} (h:i < n) (hD:H D=some (.lst ys)) (p:Pv (i+1) σ (upd H D (.lst (ys++[y]))) (ys++[y])):Nx n Pv D i ys σ y H :=
 ⟨hD,n - (i+1),by omega,rfl,h,p⟩
theorem aee {J:It} {g:TG} {te:TE} {σ₀:St} {H1:Hp} {D:Addr} {Q:VK} (n:Nat) (hn:n≤sizeLine) (Pv:Nat→St→Hp→List V→Prop) (h0:Pv 0 σ₀ (upd H1 D (.lst [])) [])
  (hl:∀ i σ H ys,Pv i σ H ys→ys.length=i∧H D=some (.lst ys)) (hgo:∀ i σ H ys,i < n→Pv i σ H ys→J.go i H)
  (hs:∀ i σ H ys x H2,i < n→Pv i σ H ys→J.yld i H x H2→g x σ H2 fun σ3 H3=>te σ3 H3 fun y H4=>Nx n Pv D i ys σ3 y H4)
  (hd:∀ σ H ys,Pv n σ H ys→J.stop n H∧Q (.ref D) H):qT J g te σ₀ H1 D Q:=by
 refine ⟨fun i m σ H ys=>m=n - i∧i≤n∧Pv i σ H ys,⟨n,rfl,Nat.zero_le _,h0⟩,?_⟩
 rintro i m σ H ys ⟨rfl,hi,p⟩
 obtain ⟨l1,l2⟩:=hl i σ H ys p
 refine ⟨l2,?_⟩
 by_cases hlt:i < n
 ·exact .inr ⟨hgo i σ H ys hlt p,by omega,fun x H2 y=>hs i σ H ys x H2 hlt p y⟩
 ·have e:i=n:=by omega
  subst e
  exact .inl (hd σ H ys p)
section
variable {prog:Program} {w:World} {A:Around} {R:Result→Shared→Prop} {s:Shared}
theorem yC {elt target iter:Expr} {sc:Scope} {pos:Pos} {it acc:Value} {env:Env} (I:Nat→Shared→Prop)
  (turn:∀ n s,I n s→wpAny (model prog w) A (pyNext it) (fun r s1=>match r with
   | none=>R (.ok .next) s1
   | some v=>wpAny (model prog w) A (letOwnedTupleGo target it v) (fun _ s2=>wpAny (model prog w) A (assign target env v) (fun _ s3=>wpAny (model prog w) A (eval elt env)
     (fun x s4=>wpAny (model prog w) A (call (.builtin "list.append") [acc,x]) (fun _ s5=>∃ m,m < n∧I m s5) (fun _ _=>False) s4) (fun _ _=>False) s3) (fun _ _=>False) s2) (fun _ _=>False) s1) (fun _ _=>False) s)
  (n:Nat) (h:I n s):codeAny (model prog w) A (.compLoop (.ListComp elt [⟨target,iter,[],0⟩] sc pos) 0 it acc env) R s:=by
 refine codeAny_loop rfl I (fun n s hI=>?_) n h
 show wpAny _ _ ((compTurn (.ListComp elt [⟨target,iter,[],0⟩] sc pos) 0 it acc env).onRaise (fun x=>do noteFrame x env; theTreesLotGoes x)) _ _ s
 refine wpAny_noted ?_
 rw [compTurn_list1]
 refine wpAny_bind (wpAny_standAt (wpAny_bind ?_))
 refine wpAny_mono (turn n s hI) (fun r s1 h1=>?_) fun _ _ z=>z.elim
 cases r with
 | none=>exact wpAny_pure h1
 | some v =>
  refine wpAny_bind (wpAny_mono h1 (fun _ s2 h2=>?_) fun _ _ z=>z.elim)
  refine wpAny_bind (wpAny_mono h2 (fun _ s3 h3=>?_) fun _ _ z=>z.elim)
  refine wpAny_bind (wpAny_bind (wpAny_mono h3 (fun x s4 h4=>?_) fun _ _ z=>z.elim))
  refine wpAny_bind (wpAny_mono h4 (fun _ s5 h5=>?_) fun _ _ z=>z.elim)
  exact wpAny_pure (wpAny_pure ⟨rfl,h5⟩)
end
structure fW (X:Cx) (sc:Scope) (own:List Str) (cap:List (Nat × Str)):Prop where
 kind:sc.kind=.function
 names:∀ y∈sc.names,y.2=.local→sc.names.lookup y.1=some .local
 nocell:∀ y∈sc.names,y.2≠.cell
 free:∀ y∈sc.names,y.2=.free→X.env.kindOf y.1=some .cell
 at':∀ p∈cap,X.N[p.1]?=some p.2
 cap:∀ p∈cap,sc.names.lookup p.2=some .free
section
variable {X:Cx} {sc:Scope} {own:List Str} {cap:List (Nat × Str)} {pins:List (Addr × Obj)} {σ:St} {H:Hp} {s:Shared}
theorem fW.has (k:fW X sc own cap) (ok:X.Ok):∀ p∈sc.names,p.2=.free→∃ c,X.env.cells.lookup p.1=some c:=fun p hp e=>ok.has p.1 (.inl (k.free p hp e))
theorem mL {env:Env}:∀ {names:List (Str × NameKind)} {x:Str},env.scope.kind=.function→names.lookup x=some .free→env.kindOf x=some .cell →
  (names.map fun (n,k)=>if (k == NameKind.free && env.scope.kind == .function && env.kindOf n == some .cell) then (n,NameKind.cell) else (n,k)).lookup x=some .cell
 | [],x,_,h,_=>by cases h
 | (n,k) :: r,x,hk,h,hx=>by
  rw [List.map_cons]
  dsimp only
  rw [List.lookup_cons] at h
  cases w:x == n with
  | true =>
   rw [w] at h
   have e:x=n:=by simpa using w
   have kf:k=.free:=Option.some.inj h
   have c:(k == NameKind.free && env.scope.kind == .function && env.kindOf n == some .cell)=true:=by
    rw [kf,hk,← e,hx]
    decide
   rw [if_pos c,List.lookup_cons,w]
  | false =>
   rw [w] at h
   have ih:=@mL env r x hk h hx
   by_cases c:(k == NameKind.free && env.scope.kind == .function && env.kindOf n == some .cell)=true
   ·rw [if_pos c,List.lookup_cons,w]
    exact ih
   ·rw [if_neg c,List.lookup_cons,w]
    exact ih
theorem Inv.cmp (k:fW X sc own cap) {h4:Heap} {fp:List Addr} {m:Str→Option Value} {t':Nat} (I:Inv X pins σ H s) (hf:∀ b∈fp,dQ X pins H b) (hlt:∀ b∈fp,b < s.heap.objs.size) (hns:h4.Ns s.heap.objs.size m)
  (kp:∀ b o,s.heap.get? b=some o→h4.get? b=some o):Inv (cT X sc (bB own cap) s.heap.objs.size s H fp) [] (fL own cap σ) H { s with heap:=h4,toks:=t' }:=by
 have hcl:∀ y c,(eH X.env sc.names []).lookup y=some c→X.env.cells.lookup y=some c:=fun y c e=>by
  rcases oG sc.names [] (k.has I.ok) y c e with z | z
  ·cases z
  ·exact z
 have nst:∀ b∈fp,b ∉ frs X.stack:=fun b hb z=>by
  rcases List.mem_cons.mp (I.stkSub b z) with e | e
  ·exact (hf b hb).2.1 e
  ·exact (hf b hb).2.2.1 e
 refine ⟨⟨I.ok.mod,k.kind,I.ok.glob,I.ok.blt,Nat.le_refl _,fun x y c h1 h2=>I.ok.inj x y c (hcl x c h1) (hcl y c h2),fun x hx=>?_,fun x c e=>(nomatch e),I.ok.hd,I.ok.frames,.inl rfl,fun b hb=>⟨Nat.ne_of_lt (hlt b hb),fun x c e=>(hf b hb).2.2.2.2.1 x c (hcl x c e)⟩,
  I.bs,Nat.le_trans I.ok.bsz I.sz,fun b o e hb=>?_,nst,I.stack,I.stkFree⟩,rfl,I.bare,Un.kept kp,⟨m,hns,fun i x v h1 h2 h3=>?_⟩,fun x c e=>?_,I.hok.fresh (Nat.le_refl _),fun x c e=>I.freeC x c (hcl x c e),fun p hp=>absurd (show p∈([]:List (Addr × Obj)) from hp) (by simp),I.hok.kept kp,?_⟩
 ·exact kY sc.names [] x (.inr (wW k.nocell hx))
 ·rcases (hf b hb).2.2.2.1 with z | z
  ·exact I.ok.noex b o e z
  ·exact absurd (Nat.lt_of_lt_of_le (Heap.lt_size (I.ok.bs b o e).1) z) (Nat.lt_irrefl _)
 ·have hN:(bB own cap)[i]?=some x:=h1
  unfold bB at hN
  unfold fL at h2
  by_cases hi:i < own.length
  ·rw [List.getElem?_append_left (by simpa using hi),List.getElem?_map] at h2
   cases e:own[i]? with
   | none=>rw [e] at h2; cases h2
   | some z=>rw [e] at h2; cases h2
  ·rw [List.getElem?_append_right (by simpa using hi),List.getElem?_map,List.length_map] at h2
   rw [List.getElem?_append_right (by omega),List.getElem?_map] at hN
   cases e:cap[i - own.length]? with
   | none=>rw [e] at h2; cases h2
   | some p =>
    rw [e] at h2 hN
    have hp:p∈cap:=List.mem_of_getElem? e
    have hx:p.2=x:=Option.some.inj hN
    have hv:(σ[p.1]?).join=some v:=Option.some.inj h2
    have hv':σ[p.1]?=some (some v):=by
     cases e2:σ[p.1]? with
     | none=>rw [e2] at hv; cases hv
     | some z=>rw [e2] at hv; exact congrArg some hv
    have fr:=k.cap p hp
    have kc:X.env.kindOf p.2=some .cell:=k.free (p.2,.free) (PySem.mem_of_lookup fr) rfl
    obtain ⟨m0,_,hl⟩:=I.loc
    obtain ⟨u,ru,lk⟩:=hl p.1 p.2 v (k.at' p hp) hv' (.inr (.inl kc))
    refine ⟨u,ru,?_⟩
    rcases lk with ⟨k1,_⟩ | ⟨_,c,ec,cell⟩
    ·rw [kc] at k1
     cases k1
    ·rw [← hx]
     obtain ⟨c',ec'⟩:=kY (env:=X.env) sc.names [] p.2 (.inr (PySem.mem_of_lookup fr))
     have:=(hcl _ _ ec').symm.trans ec
     cases this
     obtain ⟨o,ho,hd⟩:=cell
     exact .inr ⟨.inl (mL I.ok.kind fr kc),c,ec',o,kp c o ho,hd⟩
 ·obtain ⟨v,o,ho,hd⟩:=I.cell x c (hcl x c e)
  exact ⟨v,o,kp c o ho,hd⟩
 ·unfold fL
  show _=(bB own cap).length
  unfold bB
  rw [List.length_append,List.length_append,List.length_map,List.length_map,List.length_map]
theorem Inv.uncmp {s3 s':Shared} {H3 H':Hp} {N:List Str} {σ':St} {C:Addr} {fp:List Addr} {pl:List (Addr × Obj)} (I:Inv X pins σ H s) (hf:∀ b∈fp,dQ X pins H b) (u:Un (frs X.stack) fp H H3 s.heap s3.heap) (os:s3.os=s.os)
  (J:Inv (cT X sc N C s3 H3 fp) pl σ' H' s'):Inv X pins σ H' s':=by
 have os':s'.os=s.os:=(show s'.os=s3.os from J.os).trans os
 refine I.call' (ch:=fp) os' (u.trans J.base) J.hok J.bare fun b hb=>?_
 obtain ⟨_,f1,_,f3,f4,f5⟩:=hf b hb
 exact ⟨f3,f1,f4,f5⟩
end
end L2
namespace L2
open PySem PySem.Spec PyProof.Rows Bn
section
variable {X:Cx} {sc:Scope} {own:List Str} {cap:List (Nat × Str)} {pins:List (Addr × Obj)} {σ:St} {H:Hp} {s:Shared} {elt target iter:Expr} {pos pos':Pos} {wi:TI} {g:TG} {te:TE} {Q:VK}
theorem yV {use:Option (Value→Sem Unit)} {Qf:Value→Shared→Prop} (k:fW X sc own cap) (hi:PI X target iter wi) (hc:X.calm=true)
  (hg:∀ C s₀ H₀ ex,PG (cT X sc (bB own cap) C s₀ H₀ ex) target g) (he:∀ C s₀ H₀ ex,PE (cT X sc (bB own cap) C s₀ H₀ ex) elt te) (I:Inv X pins σ H s) (h:nU own cap wi g te σ H Q)
  (fin:∀ D C s' H' m,Inv X pins σ H' s'→dQ X pins H' C→s'.heap.Ns C m→Q (.ref D) H'→compPost (model X.prog X.w) X.A X.xe use Qf (.ref D) C (.ok .next) s')
  (hs:∀ x,foldedSetIterable iter X.env x=pure x) :
  wpAny (model X.prog X.w) X.A (comprehension (.ListComp elt [⟨target,iter,[],0⟩] sc pos) sc X.env pos' (newList []) false (eval iter X.env) use) Qf X.xe s:=by
 refine wpAny_comprehension_free (use:=use) rfl hs (uB (k.has I.ok)) k.kind k.names ?_
 refine thn (hi pins s σ H _ I h) fun v s1 h1=>thn h1 fun itv s2 h2=>?_
 obtain ⟨it,fp,tn,J,H2,e,I2,T,st2,f2,hW⟩:=h2
 subst e
 refine wpAny_newObj_type (wpAny_newFunctionEnv k.nocell (fun y hy=>nomatch hy) (fun h4 hns hsb=>?_) k.kind)
 have I3:Inv X pins σ (upd H2 s2.heap.objs.size (.lst [])) { s2 with heap:=s2.heap.push { cls:=.type "list",data:=.seq ([]:List Value).toArray },toks:=s2.toks }:=I2.lnew (ys:=[]) (its:=[]) .nil (Nat.zero_le _)
 have hD:H2 s2.heap.objs.size=none:=I2.fresh
 have ltf:∀ b∈fp,b < s2.heap.objs.size:=fun b hb=>by
  obtain ⟨o,ho,_⟩:=T.obj _ _ st2 b hb
  exact Heap.lt_size ho
 have f3:∀ b∈fp,dQ X pins (upd H2 s2.heap.objs.size (.lst [])) b:=fun b hb=>⟨by rw [bQ (Nat.ne_of_lt (ltf b hb))]; exact (f2 b hb).1,(f2 b hb).2⟩
 have un:Un (frs X.stack) fp H2 (upd H2 s2.heap.objs.size (.lst [])) s2.heap (s2.heap.push { cls:=.type "list",data:=.seq ([]:List Value).toArray }):=Un.laid (fun b u q=>Heap.get?_push_of_some _ q) (Nat.le_refl _) hD
 have kp:∀ b o,(s2.heap.push { cls:=.type "list",data:=.seq ([]:List Value).toArray }).get? b=some o→h4.get? b=some o:=fun b o q=>hsb.extBut b o (Nat.ne_of_lt (Heap.lt_size q)) (Heap.get?_push_of_some _ q)
 have J0:=I3.cmp (t':=s2.toks+([]:List (Str × Value)).length) k f3 (fun b hb=>Nat.lt_of_lt_of_le (ltf b hb) (by rw [Heap.size_push]; exact Nat.le_succ _)) hns kp
 have stat:∀ {H':Hp},(∀ b∈fp,H' b=none)→∀ b∈fp,dQ (cT X sc (bB own cap) (s2.heap.push { cls:=.type "list",data:=.seq ([]:List Value).toArray }).objs.size { s2 with heap:=s2.heap.push { cls:=.type "list",data:=.seq ([]:List Value).toArray },toks:=s2.toks } (upd H2 s2.heap.objs.size (.lst [])) fp) [] H' b:=fun hn b hb =>
  ⟨hn b hb,(J0.ok.exf b hb).1,J0.ok.exfs b hb,.inl hb,(J0.ok.exf b hb).2,fun p hp=>absurd (show p∈([]:List (Addr × Obj)) from hp) (by simp)⟩
 have st4:tn 0 h4:=T.keep _ _ _ st2 fun b hb o q=>kp b o (Heap.get?_push_of_some _ q)
 have fr0:∀ b∈fp,(upd H2 s2.heap.objs.size (.lst [])) b=none:=fun b hb=>(f3 b hb).1
 have loop:codeAny (model X.prog X.w) X.A (.compLoop (.ListComp elt [⟨target,iter,[],0⟩] sc pos) 0 (.ref it) (.ref s2.heap.objs.size) (compEnvC sc (eH X.env sc.names []) (s2.heap.push { cls:=.type "list",data:=.seq ([]:List Value).toArray }).objs.size X.env))
   (compPost (model X.prog X.w) X.A X.xe use Qf (.ref s2.heap.objs.size) (s2.heap.push { cls:=.type "list",data:=.seq ([]:List Value).toArray }).objs.size) { s2 with heap:=h4,toks:=s2.toks+([]:List (Str × Value)).length }:=by
  obtain ⟨W,⟨m0,w0⟩,turn⟩:=hW s2.heap.objs.size hD
  refine yC (fun n s'=>∃ i σ' H' ys,Inv (cT X sc (bB own cap) (s2.heap.push { cls:=.type "list",data:=.seq ([]:List Value).toArray }).objs.size { s2 with heap:=s2.heap.push { cls:=.type "list",data:=.seq ([]:List Value).toArray },toks:=s2.toks } (upd H2 s2.heap.objs.size (.lst [])) fp) [] σ' H' s'∧tn i s'.heap∧(∀ b∈fp,H' b=none)∧W i n σ' H' ys) ?_ m0
   ⟨0,_,_,[],J0,st4,fr0,w0⟩
  rintro n s5 ⟨i,σ5,H5,ys,I5,st5,fr5,w5⟩
  obtain ⟨hD5,w5⟩:=turn i n σ5 H5 ys w5
  rcases w5 with ⟨stop,qn⟩ | ⟨go,hlt,step⟩
  ·refine thn (T.done (cT X sc (bB own cap) (s2.heap.push { cls:=.type "list",data:=.seq ([]:List Value).toArray }).objs.size { s2 with heap:=s2.heap.push { cls:=.type "list",data:=.seq ([]:List Value).toArray },toks:=s2.toks } (upd H2 s2.heap.objs.size (.lst [])) fp) rfl rfl rfl hc i [] s5 σ5 H5 _ I5 (stat fr5) st5 stop) fun r s6 ⟨hr,I6⟩=>?_
   subst hr
   obtain ⟨m,hn,_⟩:=id I6.loc
   exact fin _ _ s6 H5 m (I2.uncmp (s3:={ s2 with heap:=s2.heap.push { cls:=.type "list",data:=.seq ([]:List Value).toArray },toks:=s2.toks }) f2 un rfl I6) (I3.fpOk (Nat.le_refl _) I6.free) hn qn
  ·refine thn (T.item (cT X sc (bB own cap) (s2.heap.push { cls:=.type "list",data:=.seq ([]:List Value).toArray }).objs.size { s2 with heap:=s2.heap.push { cls:=.type "list",data:=.seq ([]:List Value).toArray },toks:=s2.toks } (upd H2 s2.heap.objs.size (.lst [])) fp) rfl rfl rfl hc i [] s5 σ5 H5 _ I5 (stat fr5) st5 go) fun r s6 ⟨u,hr,h6⟩=>?_
   subst hr
   refine thn h6 fun _ s7 ⟨x,H7,I7,r7,y7,st7,fr7⟩=>?_
   have I7':=I7.pinned (stat fr7) (T.obj _ _ st7)
   refine thn (hg _ _ _ _ _ s7 σ5 H7 x u _ I7' r7 (step x H7 y7)) fun _ s8 ⟨σ8,H8,I8,q8⟩=>?_
   refine thn (he _ _ _ _ _ s8 σ8 H8 _ I8 q8) fun v9 s9 ⟨y,H9,I9,r9,hD9,m',hm,w9⟩=>?_
   refine thn (oH _ s9 σ8 H9 (.ref s2.heap.objs.size) [y] (.ref s2.heap.objs.size) [v9] (fun _ H'=>H'=upd H9 s2.heap.objs.size (.lst (ys++[y]))) I9 rfl (.cons r9 .nil) ⟨_,ys,y,rfl,rfl,hD9,hlt,rfl⟩) fun _ s10 ⟨_,H10,I10,_,q10⟩=>?_
   subst q10
   refine ⟨m',hm,i+1,σ8,_,_,I10.unpinned,T.keep _ _ _ st7 fun b hb o q=>(I10.pin (b,o) (List.mem_append_right _ (List.mem_append_right _ (iI hb q)))).1,fun b hb=>?_,w9⟩
   obtain ⟨o,q,d⟩:=T.obj _ _ st7 b hb
   exact (I10.pin (b,o) (List.mem_append_right _ (List.mem_append_right _ (iI hb q)))).2.1
 exact codeAny_compStart_list loop (T.self _ 0 _ _ _ st4 loop)
theorem aeB (k:fW X sc own cap) (hi:PI X target iter wi) (hc:X.calm=true)
  (hg:∀ C s₀ H₀ ex,PG (cT X sc (bB own cap) C s₀ H₀ ex) target g) (he:∀ C s₀ H₀ ex,PE (cT X sc (bB own cap) C s₀ H₀ ex) elt te)
  (hs:∀ x,foldedSetIterable iter X.env x=pure x:=by intro _; rfl):PE X (.ListComp elt [⟨target,iter,[],0⟩] sc pos) (nU own cap wi g te):=by
 intro pins s σ H Q I h
 rw [eval_ListComp]
 refine yV (use:=none) k hi hc hg he I h (fun D C s' H' m I' fC hn q=>?_) hs
 refine ⟨m,hn,fun h' sb=>⟨.ref D,H',?_,rfl,q⟩⟩
 obtain ⟨f0,f1,f2,f3,f4,f5⟩:=fC
 exact I'.turned (t':=s'.toks) (fun b o hb e=>(sb.2 b hb).trans e) f0 f1 f3 f4 f5
theorem ad6 {i:Nat} {x:Str} {py spos:Pos} (hN:X.N.Nodup) (hx:X.N[i]?=some x) (hl:Loc X.env.scope x) (k:fW X sc own cap) (hi:PI X target iter wi) (hc:X.calm=true)
  (hg:∀ C s₀ H₀ ex,PG (cT X sc (bB own cap) C s₀ H₀ ex) target g) (he:∀ C s₀ H₀ ex,PE (cT X sc (bB own cap) C s₀ H₀ ex) elt te)
  (hs:∀ x,foldedSetIterable iter X.env x=pure x:=by intro _; rfl) (hsw:swapsWith (.ListComp elt [⟨target,iter,[],0⟩] sc pos) (some (.Name x py)) spos.line X.env=pure true:=by rfl)
  (hf:X.fn x=true∨X.env.scope.names.lookup x=some .local:=by first | exact .inl rfl | exact .inr rfl | assumption) :
  PS X (.Assign [.Name x py] (.ListComp elt [⟨target,iter,[],0⟩] sc pos) spos) (rB (nU own cap wi g te) (qC i)):=by
 intro pins s σ H D I h
 rw [exec_Assign_Name_used _ _ _ _ hsw]
 refine wpAny_bind (wpAny_standAt (wpAny_bind ?_))
 show wpAny _ X.A (comprehension (.ListComp elt [⟨target,iter,[],0⟩] sc pos) sc X.env _ (newList []) false (eval iter X.env) (some (assign (.Name x py) X.env)) >>= fun _=>pure ()) _ _ s
 refine wpAny_bind (thn (yV (use:=some (assign (.Name x py) X.env)) (Qf:=fun _ s'=>SP X pins D .next s') k hi hc hg he I h (fun B C s' H' m I' fC hn q=>?_) hs) fun _ s' hq=>wpAny_pure (wpAny_pure hq))
 show wpAny _ _ (assign (.Name x py) X.env (.ref B)) _ _ s'
 obtain ⟨o,es,ep,ho,hd,r⟩:=hn
 obtain ⟨f0,f1,f2,f3,f4,f5⟩:=fC
 have I'':Inv X (pins++[(C,o)]) σ H' s':=I'.pins_of fun p hp=>(List.mem_append.mp hp).elim (fun z=>I'.pin p (List.mem_append_right _ z)) fun z=>by
  have e:p=(C,o):=by simpa using z
  subst e
  exact ⟨ho,f0,f1,f2,fun v z=>by rw [hd] at z; cases z⟩
 refine wpAny_assign_Name (lH I'' hN hx hl (v:=.ref B) rfl (fun s2 I2=>?_) hf)
 have pC:=I2.pin (C,o) (by simp)
 refine ⟨m,⟨o,es,ep,pC.1,hd,r⟩,fun h' sb=>⟨_,H',?_,q⟩⟩
 exact (I2.unpinned).turned (t':=s2.toks) (fun b o hb e=>(sb.2 b hb).trans e) f0 f1 f3 f4 f5
end
section
variable {X:Cx}
end
end L2
namespace L2
open PySem Bn
section
variable {prog:Program} {w:World} {A:Around} {E:Value→Shared→Prop} {s:Shared}
theorem aa3 {it t:Addr} {i:Nat} {items:Array Value} {x:Value} {Q:Value→Shared→Prop} (git:s.heap.IsTupleIter it t i) (gt:s.heap.IsTuple t items) (gx:items[i]?=some x)
  (gQ:∀ h',h'.IsTupleIter it t (i+1)→Heap.SameBut it s.heap h'→Q x { s with heap:=h' }):wpAny (model prog w) A (Builtin.SmallTypes.nextOf (.ref it)) Q E s:=by
 obtain ⟨o,go,gc,gd⟩:=id git
 obtain ⟨ol,gol,_,nl,gdl⟩:=gt
 unfold Builtin.SmallTypes.nextOf
 refine wpAny_bind (wpAny_callSpecial?_slot (name:=Str.ofString "__next__") git.typeIs F.slot_tuple_iterator_next (wpAny_call_entry F.slot_tuple_iterator_next git.typeIs F.entry_tuple_iterator_next ?_ (F.args_tuple_iterator_next_1 _)))
 show wpAny _ _ (field (.ref it) 0 >>= _) _ _ s
 refine wpAny_bind (wpAny_field go gd (x:=.ref t) rfl ?_)
 show wpAny _ _ (if (Value.ref t == Value.none)=true then _ else _) _ _ s
 rw [if_neg (show ¬ ((Value.ref t == Value.none)=true) from Bool.false_ne_true)]
 show wpAny _ _ (field (.ref it) 1 >>= _) _ _ s
 refine wpAny_bind (wpAny_field go gd (x:=.int i 0) rfl ?_)
 show wpAny _ _ (seqItems? (.ref t) >>= _) _ _ s
 refine wpAny_bind (wpAny_seqItems gol gdl ?_)
 simp only [Int.toNat_natCast,gx]
 refine wpAny_bind (wpAny_setField go gd (by simp) (wpAny_pure ⟨_,rfl,wpAny_pure (gQ _ ?_ (Heap.SameBut.update ..))⟩))
 refine ⟨_,Heap.get?_update_self _ go (Obj.isFreed_of_fields (Obj.data_mapFields gd _)),(Obj.cls_mapFields ..).trans gc,?_⟩
 rw [Obj.data_mapFields gd]
 simp [rawInt]
theorem aae {it t:Addr} {i:Nat} {items:Array Value} {Q:Value→Shared→Prop} (hh:A.handled=none) (git:s.heap.IsTupleIter it t i) (gt:s.heap.IsTuple t items) (gx:items[i]?=none)
  (gE:∀ h' e,Heap.ExtBut it s.heap h'→(∃ o,h'.get? e=some o∧o.cls=.type "StopIteration")→E (.ref e) { s with heap:=h' }):wpAny (model prog w) A (Builtin.SmallTypes.nextOf (.ref it)) Q E s:=by
 obtain ⟨o,go,gc,gd⟩:=id git
 obtain ⟨ol,gol,_,nl,gdl⟩:=gt
 unfold Builtin.SmallTypes.nextOf
 refine wpAny_bind (wpAny_callSpecial?_slot (name:=Str.ofString "__next__") git.typeIs F.slot_tuple_iterator_next (wpAny_call_entry F.slot_tuple_iterator_next git.typeIs F.entry_tuple_iterator_next ?_ (F.args_tuple_iterator_next_1 _)))
 show wpAny _ _ (field (.ref it) 0 >>= _) _ _ s
 refine wpAny_bind (wpAny_field go gd (x:=.ref t) rfl ?_)
 show wpAny _ _ (if (Value.ref t == Value.none)=true then _ else _) _ _ s
 rw [if_neg (show ¬ ((Value.ref t == Value.none)=true) from Bool.false_ne_true)]
 show wpAny _ _ (field (.ref it) 1 >>= _) _ _ s
 refine wpAny_bind (wpAny_field go gd (x:=.int i 0) rfl ?_)
 show wpAny _ _ (seqItems? (.ref t) >>= _) _ _ s
 refine wpAny_bind (wpAny_seqItems gol gdl ?_)
 simp only [Int.toNat_natCast,gx]
 first
  | refine wpAny_bind (wpAny_rule (wpAny_bind (wpAny_setField go gd (by simp) (wpAny_bind (wpAny_letGo ?_)))))
  | refine wpAny_bind (wpAny_rule (wpAny_bind (wpAny_setField go gd (by simp) ?_)))
 show wpAny _ _ (newExc (.type "StopIteration") [] >>= _) _ _ _
 refine wpAny_bind ?_
 simp only [newExc,newTuple]
 refine wpAny_bind (wpAny_newObj_type ?_ (by size_fits))
 refine wpAny_bind (m:=firstArgMember _ _) (wpAny_of_eq (a:=Value.none) (by first | rfl | (simp only [firstArgMember]; rfl)) ?_)
 refine wpAny_newObj_type ?_ (by size_fits)
 simp only [raiseNew]
 refine wpAny_bind (wpAny_handled ?_)
 first
  | rw [show A.in1.handled=none from hh]
  | rw [hh]
 refine wpAny_bind (wpAny_pure (wpAny_throw ?_))
 exact gE _ _ (((Heap.SameBut.update ..).extBut.push _).push _) ⟨_,Heap.get?_push_size _ rfl,rfl⟩
end
theorem adg {prog:Program} {w:World} {A:Around} (hh:A.handled=none) (it t:Addr) (hne:t≠it) (items:Array Value) :
  Draws prog w A it [it,t] items.size (fun i v=>items[i]?=some v) (fun i h=>h.IsTupleIter it t i∧h.IsTuple t items) where
 live:=fun _ _ st=>let ⟨o,ho,_⟩:=st.1; ⟨o,ho⟩
 frame:=fun _ _ _ st hk=>⟨let ⟨o,ho,r⟩:=st.1; ⟨o,hk it (by simp) o ho,r⟩,let ⟨o,ho,r⟩:=st.2; ⟨o,hk t (by simp) o ho,r⟩⟩
 item:=fun i s Q E hi st hQ=>by
  refine aa3 st.1 st.2 (x:=items[i]) (by simp [hi]) fun h' hit' hs'=>?_
  exact hQ _ h' s.toks (by simp [hi]) ⟨hit',st.2.extBut hs'.extBut hne⟩ hs'
 done:=fun s Q E st hE=>aae hh st.1 st.2 (by simp) hE
structure ZAp (z TI TO i1 i2:Addr) (fp1 fp2:List Addr):Prop where
 tiz:TI≠z
 toz:TO≠z
 tito:TI≠TO
 ti1:TI≠i1
 ti2:TI≠i2
 z1:z ∉ fp1
 z2:z ∉ fp2
 to1:TO ∉ fp1
 to2:TO ∉ fp2
 i12:i1 ∉ fp2
 i21:i2 ∉ fp1
 m1:i1∈fp1
 m2:i2∈fp2
section
variable {prog:Program} {w:World} {A:Around} {E:Value→Shared→Prop} {s:Shared} {z TI TO i1 i2:Addr} {fp1 fp2:List Addr} {n1 n2 i:Nat} {P1 P2:Nat→Value→Prop} {S1 S2:Nat→Heap→Prop} {a b:Value}
theorem ach {Q:Value→Shared→Prop} (D1:Draws prog w A i1 fp1 n1 P1 S1) (D2:Draws prog w A i2 fp2 n2 P2 S2) (ap:ZAp z TI TO i1 i2 fp1 fp2) (gz:IsZip s.heap z TI TO .none) (gTI:IsPair s.heap TI (.ref i1) (.ref i2)) (gTO:IsPair s.heap TO a b)
  (g1:S1 i s.heap) (g2:S2 i s.heap) (l1:i < n1) (l2:i < n2)
  (gQ:∀ h' tk x y,P1 i x→P2 i y→IsZip h' z TI TO (rawInt s.heap.objs.size)→IsPair h' TO x y→S1 (i+1) h'→S2 (i+1) h'→IsPair h' s.heap.objs.size x y →
   (∀ c o,c≠z→c≠TO→c≠i1→c≠i2→s.heap.get? c=some o→h'.get? c=some o)→Q (.ref s.heap.objs.size) { s with heap:=h',toks:=tk }) :
  wpAny (model prog w) A (Builtin.«zip.__next__» ⟨[.ref z],[]⟩) (fun fin s'=>∃ v,fin=.done (.ret v)∧Q v s') E s:=by
 have nz1:i1≠z:=fun q=>ap.z1 (q ▸ ap.m1)
 have nz2:i2≠z:=fun q=>ap.z2 (q ▸ ap.m2)
 have nt1:TO≠i1:=fun q=>ap.to1 (q ▸ ap.m1)
 have nt2:TO≠i2:=fun q=>ap.to2 (q ▸ ap.m2)
 show wpAny _ _ (field (.ref z) 2 >>= _) _ _ _
 refine wpAny_bind (wpAny_field gz rfl (x:=.bool false) rfl ?_)
 show wpAny _ _ (field (.ref z) 3 >>= _) _ _ _
 refine wpAny_bind (wpAny_field gz rfl (x:=.ref TI) rfl ?_)
 refine wpAny_bind (wpAny_seqItems gTI rfl ?_)
 show wpAny _ _ (Builtin.SmallTypes.ownedTupleIsFree (.ref z) >>= _) _ _ _
 refine wpAny_bind ?_
 unfold Builtin.SmallTypes.ownedTupleIsFree
 refine wpAny_bind (wpAny_field gz rfl (x:=.none) rfl (wpAny_pure ?_))
 simp only [if_true]
 refine wpAny_bind (wpAny_rule ?_)
 refine wpAny_bind (wpAny_field gz rfl (x:=.ref TO) rfl ?_)
 refine wpAny_bind (wpAny_setField_rec gz (by simp) fun h1 gz1 s1=>?_)
 replace gz1:IsZip h1 z TI TO .ellipsis:=gz1
 refine wpAny_bind ?_
 simp only [List.zipIdx_cons,List.zipIdx_nil,List.forIn_cons,List.forIn_nil]
 refine wpAny_bind (wpAny_bind (wpAny_onRaise ?_))
 show wpAny _ _ (Builtin.SmallTypes.nextOf (.ref i1) >>= _) _ _ _
 refine wpAny_bind (D1.item i _ _ _ l1 (D1.frame _ _ _ g1 fun c hc o q=>s1.extBut c o (fun e=>ap.z1 (e ▸ hc)) q) fun x h2 tk2 px g1' s2=>wpAny_pure ?_)
 have gTO2:IsPair h2 TO a b:=s2.extBut _ _ nt1 (s1.extBut _ _ ap.toz gTO)
 refine wpAny_bind (wpAny_seqItems gTO2 rfl ?_)
 refine wpAny_bind (wpAny_updateSeq_pair (s:={ s with heap:=h2,toks:=tk2 }) gTO2 fun h3 gTO3 s3=>?_)
 replace gTO3:IsPair h3 TO x b:=gTO3
 replace s3:Heap.SameBut TO h2 h3:=s3
 refine wpAny_bind (wpAny_letGo (wpAny_pure ?_))
 refine wpAny_bind (wpAny_bind (wpAny_onRaise ?_))
 show wpAny _ _ (Builtin.SmallTypes.nextOf (.ref i2) >>= _) _ _ _
 have g2':S2 i h3:=D2.frame _ _ _ g2 fun c hc o q=>s3.extBut c o (fun e=>ap.to2 (e ▸ hc)) (s2.extBut c o (fun e=>ap.i12 (e ▸ hc)) (s1.extBut c o (fun e=>ap.z2 (e ▸ hc)) q))
 refine wpAny_bind (D2.item i _ _ _ l2 g2' fun y h4 tk4 py g2'' s4=>wpAny_pure ?_)
 replace s4:Heap.SameBut i2 h3 h4:=s4
 have gTO4:IsPair h4 TO x b:=s4.extBut _ _ nt2 gTO3
 refine wpAny_bind (wpAny_seqItems gTO4 rfl ?_)
 refine wpAny_bind (wpAny_updateSeq_pair (s:={ s with heap:=h4,toks:=tk4 }) gTO4 fun h5 gTO5 s5=>?_)
 replace gTO5:IsPair h5 TO x y:=gTO5
 replace s5:Heap.SameBut TO h4 h5:=s5
 refine wpAny_bind (wpAny_letGo (wpAny_pure (wpAny_pure ?_)))
 refine wpAny_bind (wpAny_seqItems gTO5 rfl ?_)
 refine wpAny_bind (wpAny_newTuple ?_)
 have hsz:h5.objs.size=s.heap.objs.size:=by rw [s5.1,s4.1,s3.1,s2.1,s1.1]
 have gz5:IsZip h5 z TI TO .ellipsis:=s5.extBut _ _ ap.toz.symm (s4.extBut _ _ nz2.symm (s3.extBut _ _ ap.toz.symm (s2.extBut _ _ nz1.symm gz1)))
 have k5:∀ c o,c≠z→c≠TO→c≠i1→c≠i2→s.heap.get? c=some o→h5.get? c=some o:=fun c o c1 c2 c3 c4 q=>s5.extBut _ _ c2 (s4.extBut _ _ c4 (s3.extBut _ _ c2 (s2.extBut _ _ c3 (s1.extBut _ _ c1 q))))
 have g15:S1 (i+1) h5:=D1.frame _ _ _ g1' fun c hc o q=>s5.extBut c o (fun e=>ap.to1 (e ▸ hc)) (s4.extBut c o (fun e=>ap.i21 (e ▸ hc)) (s3.extBut c o (fun e=>ap.to1 (e ▸ hc)) q))
 have g25:S2 (i+1) h5:=D2.frame _ _ _ g2'' fun c hc o q=>s5.extBut c o (fun e=>ap.to2 (e ▸ hc)) q
 have zlt:z < h5.objs.size:=Heap.lt_size gz5
 show wpAny _ _ (Builtin.SmallTypes.ownedTupleHandOut (.ref z) (.ref h5.objs.size) >>= _) _ _ _
 refine wpAny_bind ?_
 unfold Builtin.SmallTypes.ownedTupleHandOut
 have gz6:IsZip (h5.push { cls:=.type "tuple",data:=.seq #[x,y] }) z TI TO .ellipsis:=Heap.get?_push_of_some _ gz5
 refine wpAny_bind (wpAny_setField_rec gz6 (by simp) fun h7 gz7 s7=>?_)
 replace gz7:IsZip h7 z TI TO (rawInt h5.objs.size):=gz7
 refine wpAny_setField_rec gz7 (by simp) fun h8 gz8 s8=>?_
 replace gz8:IsZip h8 z TI TO (rawInt h5.objs.size):=gz8
 have up:∀ c o,c≠z→h5.get? c=some o→h8.get? c=some o:=fun c o c1 q=>s8.extBut _ _ c1 (s7.extBut _ _ c1 (Heap.get?_push_of_some _ q))
 have gT8:IsPair h8 h5.objs.size x y:=s8.extBut _ _ (Nat.ne_of_gt zlt) (s7.extBut _ _ (Nat.ne_of_gt zlt) (Heap.get?_push_size _ rfl))
 rw [hsz] at gz8 gT8
 refine wpAny_pure ⟨_,rfl,?_⟩
 show Q (.ref h5.objs.size) _
 rw [hsz]
 exact gQ h8 _ x y px py gz8 (up _ _ ap.toz gTO5) (D1.frame _ _ _ g15 fun c hc o q=>up c o (fun e=>ap.z1 (e ▸ hc)) q) (D2.frame _ _ _ g25 fun c hc o q=>up c o (fun e=>ap.z2 (e ▸ hc)) q) gT8 fun c o c1 c2 c3 c4 q=>up c o c1 (k5 c o c1 c2 c3 c4 q)
theorem abN {Q:Fin→Shared→Prop} (D1:Draws prog w A i1 fp1 n1 P1 S1) (D2:Draws prog w A i2 fp2 n2 P2 S2) (ap:ZAp z TI TO i1 i2 fp1 fp2) (gz:IsZip s.heap z TI TO .none) (gTI:IsPair s.heap TI (.ref i1) (.ref i2)) (gTO:IsPair s.heap TO a b)
  (g1:S1 i s.heap) (g2:S2 i s.heap) (fin:i=n1∨(i < n1∧i=n2))
  (gE:∀ h' tk e,(∀ c o,c≠z→c≠TO→c≠i1→c≠i2→s.heap.get? c=some o→h'.get? c=some o)→(∃ o,h'.get? e=some o∧o.cls=.type "StopIteration")→E (.ref e) { s with heap:=h',toks:=tk }) :
  wpAny (model prog w) A (Builtin.«zip.__next__» ⟨[.ref z],[]⟩) Q E s:=by
 have nz1:i1≠z:=fun q=>ap.z1 (q ▸ ap.m1)
 have nz2:i2≠z:=fun q=>ap.z2 (q ▸ ap.m2)
 have nt1:TO≠i1:=fun q=>ap.to1 (q ▸ ap.m1)
 have nt2:TO≠i2:=fun q=>ap.to2 (q ▸ ap.m2)
 show wpAny _ _ (field (.ref z) 2 >>= _) _ _ _
 refine wpAny_bind (wpAny_field gz rfl (x:=.bool false) rfl ?_)
 show wpAny _ _ (field (.ref z) 3 >>= _) _ _ _
 refine wpAny_bind (wpAny_field gz rfl (x:=.ref TI) rfl ?_)
 refine wpAny_bind (wpAny_seqItems gTI rfl ?_)
 show wpAny _ _ (Builtin.SmallTypes.ownedTupleIsFree (.ref z) >>= _) _ _ _
 refine wpAny_bind ?_
 unfold Builtin.SmallTypes.ownedTupleIsFree
 refine wpAny_bind (wpAny_field gz rfl (x:=.none) rfl (wpAny_pure ?_))
 simp only [if_true]
 refine wpAny_bind (wpAny_rule ?_)
 refine wpAny_bind (wpAny_field gz rfl (x:=.ref TO) rfl ?_)
 refine wpAny_bind (wpAny_setField_rec gz (by simp) fun h1 gz1 s1=>?_)
 replace gz1:IsZip h1 z TI TO .ellipsis:=gz1
 refine wpAny_bind ?_
 simp only [List.zipIdx_cons,List.zipIdx_nil,List.forIn_cons,List.forIn_nil]
 refine wpAny_bind (wpAny_bind (wpAny_onRaise ?_))
 show wpAny _ _ (Builtin.SmallTypes.nextOf (.ref i1) >>= _) _ _ _
 have g1':S1 i h1:=D1.frame _ _ _ g1 fun c hc o q=>s1.extBut c o (fun e=>ap.z1 (e ▸ hc)) q
 rcases fin with e1 | ⟨l1,e2⟩
 ·subst e1
  refine wpAny_bind (D1.done _ _ _ g1' fun h2 e s2 he=>?_)
  obtain ⟨oe,hoe,hce⟩:=he
  have gz2:IsZip h2 z TI TO .ellipsis:=s2 _ _ nz1.symm gz1
  have hez:e≠z:=fun q=>by
   subst q
   rw [gz2] at hoe
   cases hoe
   simp at hce
  refine wpAny_setField_rec (s:={ s with heap:=h2 }) gz2 (by simp) fun h3 _ s3=>?_
  exact gE h3 _ e (fun c o c1 _ c3 _ q=>s3.extBut _ _ c1 (s2 _ _ c3 (s1.extBut _ _ c1 q))) ⟨oe,s3.extBut _ _ hez hoe,hce⟩
 ·subst e2
  refine wpAny_bind (D1.item i _ _ _ l1 g1' fun x h2 tk2 px g1'' s2=>wpAny_pure ?_)
  have gTO2:IsPair h2 TO a b:=s2.extBut _ _ nt1 (s1.extBut _ _ ap.toz gTO)
  refine wpAny_bind (wpAny_seqItems gTO2 rfl ?_)
  refine wpAny_bind (wpAny_updateSeq_pair (s:={ s with heap:=h2,toks:=tk2 }) gTO2 fun h3 gTO3 s3=>?_)
  replace s3:Heap.SameBut TO h2 h3:=s3
  refine wpAny_bind (wpAny_letGo (wpAny_pure ?_))
  refine wpAny_bind (wpAny_bind (wpAny_onRaise ?_))
  show wpAny _ _ (Builtin.SmallTypes.nextOf (.ref i2) >>= _) _ _ _
  have g2':S2 i h3:=D2.frame _ _ _ g2 fun c hc o q=>s3.extBut c o (fun e=>ap.to2 (e ▸ hc)) (s2.extBut c o (fun e=>ap.i12 (e ▸ hc)) (s1.extBut c o (fun e=>ap.z2 (e ▸ hc)) q))
  refine wpAny_bind (D2.done _ _ _ g2' fun h4 e s4 he=>?_)
  replace s4:Heap.ExtBut i2 h3 h4:=s4
  obtain ⟨oe,hoe,hce⟩:=he
  have gz4:IsZip h4 z TI TO .ellipsis:=s4 _ _ nz2.symm (s3.extBut _ _ ap.toz.symm (s2.extBut _ _ nz1.symm gz1))
  have hez:e≠z:=fun q=>by
   subst q
   rw [gz4] at hoe
   cases hoe
   simp at hce
  refine wpAny_setField_rec (s:={ s with heap:=h4,toks:=tk2 }) gz4 (by simp) fun h5 _ s5=>?_
  exact gE h5 _ e (fun c o c1 c2 c3 c4 q=>s5.extBut _ _ c1 (s4 _ _ c4 (s3.extBut _ _ c2 (s2.extBut _ _ c3 (s1.extBut _ _ c1 q))))) ⟨oe,s5.extBut _ _ hez hoe,hce⟩
theorem aau {Q:Option Value→Shared→Prop} (D1:Draws prog w A.in1 i1 fp1 n1 P1 S1) (D2:Draws prog w A.in1 i2 fp2 n2 P2 S2) (ap:ZAp z TI TO i1 i2 fp1 fp2) (gz:IsZip s.heap z TI TO .none) (gTI:IsPair s.heap TI (.ref i1) (.ref i2)) (gTO:IsPair s.heap TO a b)
  (g1:S1 i s.heap) (g2:S2 i s.heap) (l1:i < n1) (l2:i < n2)
  (gQ:∀ h' tk x y,P1 i x→P2 i y→IsZip h' z TI TO (rawInt s.heap.objs.size)→IsPair h' TO x y→S1 (i+1) h'→S2 (i+1) h'→IsPair h' s.heap.objs.size x y →
   (∀ c o,c≠z→c≠TO→c≠i1→c≠i2→s.heap.get? c=some o→h'.get? c=some o)→Q (some (.ref s.heap.objs.size)) { s with heap:=h',toks:=tk }) :
  wpAny (model prog w) A (pyNext (.ref z)) Q E s:=by
 have gT:s.TypeIs (.ref z) "zip":=⟨_,gz,rfl⟩
 unfold pyNext
 refine wpAny_bind (wpAny_attempt (wpAny_callSpecial?_slot (name:=Str.ofString "__next__") gT F.slot_zip_next (wpAny_call_entry F.slot_zip_next gT F.entry_zip_next ?_ (F.args_zip_next_1 _))))
 exact ach D1 D2 ap gz gTI gTO g1 g2 l1 l2 fun h' tk x y p1 p2 e1 e2 e3 e4 e5 e6=>wpAny_pure (gQ h' tk x y p1 p2 e1 e2 e3 e4 e5 e6)
theorem aab {Q:Option Value→Shared→Prop} (D1:Draws prog w A.in1 i1 fp1 n1 P1 S1) (D2:Draws prog w A.in1 i2 fp2 n2 P2 S2) (ap:ZAp z TI TO i1 i2 fp1 fp2) (gz:IsZip s.heap z TI TO .none) (gTI:IsPair s.heap TI (.ref i1) (.ref i2)) (gTO:IsPair s.heap TO a b)
  (g1:S1 i s.heap) (g2:S2 i s.heap) (fin:i=n1∨(i < n1∧i=n2))
  (gQ:∀ h' tk,(∀ c o,c≠z→c≠TO→c≠i1→c≠i2→s.heap.get? c=some o→h'.get? c=some o)→Q none { s with heap:=h',toks:=tk }):wpAny (model prog w) A (pyNext (.ref z)) Q E s:=by
 have gT:s.TypeIs (.ref z) "zip":=⟨_,gz,rfl⟩
 unfold pyNext
 refine wpAny_bind (wpAny_attempt (wpAny_callSpecial?_slot (name:=Str.ofString "__next__") gT F.slot_zip_next (wpAny_call_entry F.slot_zip_next gT F.entry_zip_next ?_ (F.args_zip_next_1 _))))
 refine abN D1 D2 ap gz gTI gTO g1 g2 fin fun h' tk e hk he=>?_
 obtain ⟨o,ho,hc⟩:=he
 refine wpAny_bind (wpAny_isInstance (T:="StopIteration") (b:=true) ⟨o,ho,hc⟩ isSubtype_stop ?_)
 exact wpAny_pure (gQ _ _ hk)
end
end L2
namespace L2
open PySem Bn
abbrev qO (h:Heap) (o1:Obj):Heap:=h.push o1
abbrev qP (h:Heap) (o1 o2:Obj):Heap:=(qO h o1).push o2
abbrev rA (h:Heap) (o1 o2:Obj):Heap:=(qP h o1 o2).push { cls:=.type "tuple",data:=.seq #[.ref h.objs.size,.ref (qO h o1).objs.size] }
abbrev qS (h:Heap) (o1 o2:Obj):Heap:=(rA h o1 o2).push { cls:=.type "tuple",data:=.seq #[.none,.none] }
abbrev mJ (h:Heap) (o1 o2:Obj):Heap:=(qS h o1 o2).push { cls:=.type "zip",data:=.fields #[.none,.bool false,.bool false,.ref (qP h o1 o2).objs.size,.ref (rA h o1 o2).objs.size] }
def nY (l:Addr) (o:Obj) (G:Heap→Prop):Prop :=
 ∀ (prog:Program) (w:World) (A:Around) (E:Value→Shared→Prop) (s:Shared) (Q:Value→Shared→Prop),G s.heap→Q (.ref s.heap.objs.size) { s with heap:=s.heap.push o }→wpAny (model prog w) A (pyIter (.ref l)) Q E s
theorem acj (l1 l2:Addr) (o1 o2:Obj) (G1 G2:Heap→Prop) (p1:nY l1 o1 G1) (p2:nY l2 o2 G2) (k2:∀ h,G2 h→G2 (h.push o1)) :
  Meets (Builtin.«zip.__new__» ⟨[.type "zip",.ref l1,.ref l2],[]⟩) (fun _ R s=>G1 s.heap∧G2 s.heap∧R (.ok (.ret (.ref (qS s.heap o1 o2).objs.size))) { s with heap:=mJ s.heap o1 o2 }) :=
 .of_wp fun prog w A R s h=>by
  obtain ⟨hp,g,d,tk,os⟩:=s
  obtain ⟨g1,g2,h⟩:=h
  have hsub:=sub_zip
  have q1:=fun (A':Around) (E':Value→Shared→Prop) (Q':Value→Shared→Prop)=>p1 prog w A' E' ⟨hp,g,d,tk,os⟩ Q' g1
  have q2:=fun (A':Around) (E':Value→Shared→Prop) (Q':Value→Shared→Prop)=>p2 prog w A' E' ⟨hp.push o1,g,d,tk,os⟩ Q' (k2 _ g2)
  wp_walk using q1 _ _ _,q2 _ _ _
  exact ⟨_,rfl,h⟩
theorem aam {prog:Program} {w:World} {A:Around} {E:Value→Shared→Prop} {s:Shared} {l1 l2:Addr} {o1 o2:Obj} {G1 G2:Heap→Prop} {Q:Value→Shared→Prop} (p1:nY l1 o1 G1) (p2:nY l2 o2 G2) (k2:∀ h,G2 h→G2 (h.push o1)) (g1:G1 s.heap) (g2:G2 s.heap)
  (f1:o1.isFreed=false) (f2:o2.isFreed=false)
  (h:∀ h',IsZip h' (s.heap.objs.size+4) (s.heap.objs.size+2) (s.heap.objs.size+3) .none→IsPair h' (s.heap.objs.size+2) (.ref s.heap.objs.size) (.ref (s.heap.objs.size+1))→IsPair h' (s.heap.objs.size+3) .none .none →
   h'.get? s.heap.objs.size=some o1→h'.get? (s.heap.objs.size+1)=some o2→(∀ c o,s.heap.get? c=some o→h'.get? c=some o)→Q (.ref (s.heap.objs.size+4)) { s with heap:=h' }) :
  wpAny (model prog w) A (call (.type "zip") [.ref l1,.ref l2]) Q E s:=by
 refine callType_new F.called_zip (by decide) (F.typeCall_zip_2 _ _) (F.newCall_zip_2 _ _) (fun obj=>F.args_object_init_3 obj _ _) F.entry_zip_new (acj l1 l2 o1 o2 G1 G2 p1 p2 k2) ⟨g1,g2,?_⟩
 have e1:(qO s.heap o1).objs.size=s.heap.objs.size+1:=Heap.size_push ..
 have e2:(qP s.heap o1 o2).objs.size=s.heap.objs.size+2:=by rw [Heap.size_push,e1]
 have e3:(rA s.heap o1 o2).objs.size=s.heap.objs.size+3:=by rw [Heap.size_push,e2]
 have e4:(qS s.heap o1 o2).objs.size=s.heap.objs.size+4:=by rw [Heap.size_push,e3]
 have r5:(mJ s.heap o1 o2).get? (qS s.heap o1 o2).objs.size=some _:=Heap.get?_push_size _ rfl
 have r4:(mJ s.heap o1 o2).get? (rA s.heap o1 o2).objs.size=some _:=Heap.get?_push_of_some _ (Heap.get?_push_size _ rfl)
 have r3:(mJ s.heap o1 o2).get? (qP s.heap o1 o2).objs.size=some _:=Heap.get?_push_of_some _ (Heap.get?_push_of_some _ (Heap.get?_push_size _ rfl))
 have r2:(mJ s.heap o1 o2).get? (qO s.heap o1).objs.size=some o2:=Heap.get?_push_of_some _ (Heap.get?_push_of_some _ (Heap.get?_push_of_some _ (Heap.get?_push_size _ f2)))
 have r1:(mJ s.heap o1 o2).get? s.heap.objs.size=some o1:=Heap.get?_push_of_some _ (Heap.get?_push_of_some _ (Heap.get?_push_of_some _ (Heap.get?_push_of_some _ (Heap.get?_push_size _ f1))))
 show _∧_
 rw [e2,e3,e4] at r5
 rw [e1,e2] at r3
 rw [e3] at r4
 rw [e1] at r2
 rw [e4]
 exact ⟨⟨_,r5,rfl⟩,h _ r5 r3 r4 r1 r2 fun c o q=>Heap.get?_push_of_some _ (Heap.get?_push_of_some _ (Heap.get?_push_of_some _ (Heap.get?_push_of_some _ (Heap.get?_push_of_some _ q))))⟩
end L2
namespace L2
open PySem PySem.Spec PyProof.Rows Bn
def SqF (f:Bool) (K:PySem.W.Frag) (H:Hp) (a:Addr) (xs:List V):Prop:=match f with
 | true=>SqT K H a xs
 | false=>SqL K H a xs
def ItF (f:Bool) (it a:Addr) (i:Nat) (h:Heap):Prop:=match f with
 | true=>h.IsTupleIter it a i
 | false=>h.IsListIter it a i
def mG (f:Bool) (a:Addr) (items:Array Value) (h:Heap):Prop:=match f with
 | true=>h.IsTuple a items
 | false=>h.IsList a items
def ItO (f:Bool) (a:Addr):Obj:=match f with
 | true=>{ cls:=.type "tuple_iterator",data:=.fields #[.ref a,.int 0 0] }
 | false=>{ cls:=.type "list_iterator",data:=.fields #[.ref a,.int 0 0] }
section
variable {X:Cx} {pins:List (Addr × Obj)} {σ:St} {H:Hp} {s:Shared} {a:Addr} {xs ys:List V} {f:Bool}
theorem Inv.seqF (I:Inv X pins σ H s) (h:SqF f X.K H a xs):∃ its:List Value,aX xs its∧mG f a its.toArray s.heap∧xs.length≤sizeLine:=by
 cases f with
 | true =>
  obtain ⟨its,r,p,z⟩:=I.tuple h
  exact ⟨its,r,p,z⟩
 | false =>
  obtain ⟨its,r,p,z⟩:=I.list h
  exact ⟨its,r,p.isList,z⟩
theorem Inv.seqF_inj (I:Inv X pins σ H s) (h:SqF f X.K H a xs) (h':SqF f X.K H a ys):xs=ys:=by
 cases f with
 | true=>exact I.tuple_inj h h'
 | false=>exact I.list_inj h h'
theorem Inv.apart {b:Addr} (I:Inv X pins σ H s) (fb:dQ X pins H b) (h:SqF f X.K H a xs):a≠b:=by
 have viaK:∀ {o:Obj},X.K.lookup a=some o→a≠b:=fun {o} q e=>by
  have hb:X.base.get? b=some o:=e ▸ I.ok.mod.kin a o q
  rcases fb.2.2.2.1 with z | z
  ·exact I.ok.noex b o hb z
  ·exact absurd (Nat.lt_of_lt_of_le (Heap.lt_size (I.ok.bs b o hb).1) z) (Nat.lt_irrefl _)
 cases f with
 | true =>
  rcases h with (h | ⟨o,h⟩) | ⟨o,_,_,q,_⟩
  ·exact dY h fb.1
  ·exact dY h fb.1
  ·exact viaK q
 | false =>
  rcases h with (h | ⟨o,h⟩) | ⟨o,_,_,q,_⟩
  ·exact dY h fb.1
  ·exact dY h fb.1
  ·exact viaK q
end
theorem pV {prog:Program} {w:World} {A:Around} (f:Bool) (hh:A.handled=none) (it a:Addr) (hne:a≠it) (items:Array Value) :
  Draws prog w A it [it,a] items.size (fun i v=>items[i]?=some v) (fun i h=>ItF f it a i h∧mG f a items h):=by
 cases f with
 | true=>exact adg hh it a hne items
 | false=>exact Draws.list hh it a hne items
theorem afX (f:Bool) (a:Addr) (items:Array Value):nY a (ItO f a) (mG f a items):=by
 cases f with
 | true=>exact fun prog w A E s Q g q=>wpAny_pyIter_tuple g q
 | false=>exact fun prog w A E s Q g q=>wpAny_pyIter_list g q
theorem ItF.keep {f:Bool} {it a:Addr} {i:Nat} {h h':Heap} (x:ItF f it a i h) (k:∀ o,h.get? it=some o→h'.get? it=some o):ItF f it a i h':=by
 cases f with
 | true=>obtain ⟨o,e,r⟩:=x; exact ⟨o,k o e,r⟩
 | false=>obtain ⟨o,e,r⟩:=x; exact ⟨o,k o e,r⟩
theorem mG.keep {f:Bool} {a:Addr} {items:Array Value} {h h':Heap} (x:mG f a items h) (k:∀ o,h.get? a=some o→h'.get? a=some o):mG f a items h':=by
 cases f with
 | true=>obtain ⟨o,e,r⟩:=x; exact ⟨o,k o e,r⟩
 | false=>obtain ⟨o,e,r⟩:=x; exact ⟨o,k o e,r⟩
theorem ItF.obj {f:Bool} {it a:Addr} {i:Nat} {h:Heap} (x:ItF f it a i h):∃ o,h.get? it=some o∧∀ v,o.data≠.cell v:=by
 cases f with
 | true=>obtain ⟨o,e,_,d⟩:=x; exact ⟨o,e,fun v z=>by rw [d] at z; cases z⟩
 | false=>obtain ⟨o,e,_,d⟩:=x; exact ⟨o,e,fun v z=>by rw [d] at z; cases z⟩
theorem yN (f:Bool) (a it:Addr) {h:Heap} (e:h.get? it=some (ItO f a)):ItF f it a 0 h:=by
 cases f with
 | true=>exact ⟨_,e,rfl,rfl⟩
 | false=>exact ⟨_,e,rfl,rfl⟩
theorem aay (f:Bool) (a:Addr):(ItO f a).isFreed=false:=by cases f <;> rfl
def Itz (K : PySem.W.Frag) (f1 : Bool) (a : Addr) (f2 : Bool) (b : Addr) : It :=
  ⟨fun i H => ∃ xs ys x y, SqF f1 K H a xs ∧ SqF f2 K H b ys ∧ xs[i]? = some x ∧ ys[i]? = some y,
   fun i H v H' => ∃ p x y, H p = none ∧ v = .ref p ∧ H' = upd H p (.tup [x, y]) ∧ (∀ xs, SqF f1 K H a xs → xs[i]? = some x) ∧ ∀ ys, SqF f2 K H b ys → ys[i]? = some y,
   fun i H => ∃ xs ys, SqF f1 K H a xs ∧ SqF f2 K H b ys ∧ (i = xs.length ∨ (i < xs.length ∧ i = ys.length))⟩
structure qZ (z TI TO i1 i2:Addr):Prop where
 tiz:TI≠z
 toz:TO≠z
 i1z:i1≠z
 i2z:i2≠z
 tito:TI≠TO
 ti1:TI≠i1
 ti2:TI≠i2
 to1:TO≠i1
 to2:TO≠i2
 i12:i1≠i2
theorem qZ.ap {z TI TO i1 i2 a b:Addr} (r:qZ z TI TO i1 i2) (h:∀ c∈[z,TI,TO,i1,i2],a≠c) (g:∀ c∈[z,TI,TO,i1,i2],b≠c):ZAp z TI TO i1 i2 [i1,a] [i2,b] where
 tiz:=r.tiz
 toz:=r.toz
 tito:=r.tito
 ti1:=r.ti1
 ti2:=r.ti2
 z1:=fun q=>by simp at q; rcases q with q | q; exact r.i1z q.symm; exact h z (by simp) q.symm
 z2:=fun q=>by simp at q; rcases q with q | q; exact r.i2z q.symm; exact g z (by simp) q.symm
 to1:=fun q=>by simp at q; rcases q with q | q; exact r.to1 q; exact h TO (by simp) q.symm
 to2:=fun q=>by simp at q; rcases q with q | q; exact r.to2 q; exact g TO (by simp) q.symm
 i12:=fun q=>by simp at q; rcases q with q | q; exact r.i12 q; exact g i1 (by simp) q.symm
 i21:=fun q=>by simp at q; rcases q with q | q; exact r.i12 q.symm; exact h i2 (by simp) q.symm
 m1:=by simp
 m2:=by simp
theorem acJ {P:Program} {w:World} {K:PySem.W.Frag} {elts:List Expr} {x1:Nat} {tp:Pos} (f1 f2:Bool) (a b z TI TO i1 i2:Addr) (zr:qZ z TI TO i1 i2) :
  mE P w K (.Tuple elts x1 tp) (Itz K f1 a f2 b) [z,TI,TO,i1,i2] z (fun i h=>IsZip h z TI TO .none∧IsPair h TI (.ref i1) (.ref i2)∧(∃ u v,IsPair h TO u v)∧ItF f1 i1 a i h∧ItF f2 i2 b i h) where
 mem:=by simp
 obj:=fun i h st c hc=>by
  obtain ⟨e1,e2,⟨u,v,e3⟩,e4,e5⟩:=st
  simp at hc
  rcases hc with q | q | q | q | q
  ·subst q
   exact ⟨_,e1,fun v z=>nomatch z⟩
  ·subst q
   exact ⟨_,e2,fun v z=>nomatch z⟩
  ·subst q
   exact ⟨_,e3,fun v z=>nomatch z⟩
  ·subst q
   exact e4.obj
  ·subst q
   exact e5.obj
 keep:=fun i h h' st k=>by
  obtain ⟨e1,e2,⟨u,v,e3⟩,e4,e5⟩:=st
  exact ⟨k z (by simp) _ e1,k TI (by simp) _ e2,⟨u,v,k TO (by simp) _ e3⟩,e4.keep fun o q=>k i1 (by simp) o q,e5.keep fun o q=>k i2 (by simp) o q⟩
 item:=by
  intro X hP hw hK hc i pins s σ H E I hf st hg
  subst hP hw hK
  obtain ⟨xs,ys,x,y,hx,hy,ex,ey⟩:=hg
  obtain ⟨its,r1,p1,_⟩:=I.seqF hx
  obtain ⟨jts,r2,p2,_⟩:=I.seqF hy
  obtain ⟨ux,gx,rx⟩:=r1.get ex
  obtain ⟨uy,gy,ry⟩:=r2.get ey
  obtain ⟨e1,e2,⟨u,v,e3⟩,e4,e5⟩:=st
  have na:∀ c∈[z,TI,TO,i1,i2],a≠c:=fun c hc=>I.apart (hf c hc) hx
  have nb:∀ c∈[z,TI,TO,i1,i2],b≠c:=fun c hc=>I.apart (hf c hc) hy
  have hd:X.A.in1.handled=none:=I.ok.hd hc
  have D1:=pV (prog:=X.prog) (w:=X.w) f1 hd i1 a (na i1 (by simp)) its.toArray
  have D2:=pV (prog:=X.prog) (w:=X.w) f2 hd i2 b (nb i2 (by simp)) jts.toArray
  refine aau D1 D2 (zr.ap na nb) e1 e2 e3 ⟨e4,p1⟩ ⟨e5,p2⟩ (List.getElem?_eq_some_iff.mp gx).1 (List.getElem?_eq_some_iff.mp gy).1 fun h1 tk vx vy px py q1 q2 q3 q4 q5 k1=>⟨_,rfl,?_⟩
  have ex':vx=ux:=by
   have:its[i]?=some vx:=by simpa using px
   rw [gx] at this
   exact (Option.some.inj this).symm
  have ey':vy=uy:=by
   have:jts[i]?=some vy:=by simpa using py
   rw [gy] at this
   exact (Option.some.inj this).symm
  subst ex' ey'
  have lt:∀ c∈[z,TI,TO,i1,i2],c≠s.heap.objs.size:=fun c hc=>by
   have:∃ o,s.heap.get? c=some o:=by
    simp at hc
    rcases hc with q | q | q | q | q
    ·exact ⟨_,q ▸ e1⟩
    ·exact ⟨_,q ▸ e2⟩
    ·exact ⟨_,q ▸ e3⟩
    ·obtain ⟨o,ho,_⟩:=e4.obj
     exact ⟨o,q ▸ ho⟩
    ·obtain ⟨o,ho,_⟩:=e5.obj
     exact ⟨o,q ▸ ho⟩
   obtain ⟨o,ho⟩:=this
   exact Nat.ne_of_lt (Heap.lt_size ho)
  refine wpAny_letOwnedTupleGo_zip (s:={ s with heap:=h1,toks:=tk }) q1 fun h2 z2 sb2=>?_
  have t2:h2.get? s.heap.objs.size=some { cls:=.type "tuple",data:=.seq #[vx,vy] }:=(sb2.2 _ (lt z (by simp)).symm).trans q5
  have I2:Inv X pins σ (upd H s.heap.objs.size (.tup [x,y])) { s with heap:=h2,toks:=tk } :=
   I.turnedNew hf (fun c o hc q=>(sb2.2 c (fun e=>hc (by simp [e]))).trans (k1 c o (fun e=>hc (by simp [e])) (fun e=>hc (by simp [e])) (fun e=>hc (by simp [e])) (fun e=>hc (by simp [e])) q)) (Nat.le_refl _)
    ⟨by show 2≤sizeLine; decide,[vx,vy],.cons rx (.cons ry .nil),⟨_,t2,rfl,_,rfl⟩⟩
  refine ⟨.ref s.heap.objs.size,_,I2,rfl,⟨_,x,y,I.hok.fresh (Nat.le_refl _),rfl,rfl,fun zs hz=>by rw [I.seqF_inj hz hx]; exact ex,fun zs hz=>by rw [I.seqF_inj hz hy]; exact ey⟩,
   ⟨z2,(sb2.2 _ zr.tiz).trans (k1 _ _ zr.tiz zr.tito zr.ti1 zr.ti2 e2),⟨_,_,(sb2.2 _ zr.toz).trans q2⟩,q3.1.keep fun o q=>(sb2.2 _ zr.i1z).trans q,q4.1.keep fun o q=>(sb2.2 _ zr.i2z).trans q⟩,fun c hc=>?_⟩
  rw [bQ (lt c hc)]
  exact (hf c hc).1
 done:=by
  intro X hP hw hK hc i pins s σ H E I hf st hg
  subst hP hw hK
  obtain ⟨xs,ys,hx,hy,fin⟩:=hg
  obtain ⟨its,r1,p1,_⟩:=I.seqF hx
  obtain ⟨jts,r2,p2,_⟩:=I.seqF hy
  have l1:=r1.length
  have l2:=r2.length
  obtain ⟨e1,e2,⟨u,v,e3⟩,e4,e5⟩:=st
  have na:∀ c∈[z,TI,TO,i1,i2],a≠c:=fun c hc=>I.apart (hf c hc) hx
  have nb:∀ c∈[z,TI,TO,i1,i2],b≠c:=fun c hc=>I.apart (hf c hc) hy
  have hd:X.A.in1.handled=none:=I.ok.hd hc
  have D1:=pV (prog:=X.prog) (w:=X.w) f1 hd i1 a (na i1 (by simp)) its.toArray
  have D2:=pV (prog:=X.prog) (w:=X.w) f2 hd i2 b (nb i2 (by simp)) jts.toArray
  refine aab D1 D2 (zr.ap na nb) e1 e2 e3 ⟨e4,p1⟩ ⟨e5,p2⟩ (by rw [List.size_toArray,List.size_toArray,← l1,← l2]; exact fin) fun h' tk k=>⟨rfl,?_⟩
  exact I.turnedL hf fun c o hc q=>k c o (fun e=>hc (by simp [e])) (fun e=>hc (by simp [e])) (fun e=>hc (by simp [e])) (fun e=>hc (by simp [e])) q
 self:=fun _ _ _ _ _ st h=>wpAny_pyIter_zip st.1 h
section
variable {X:Cx} {elts:List Expr} {x1:Nat} {tp:Pos}
def aih (K:PySem.W.Frag) (tl:TA):TI:=fun σ H R=>tl σ H fun vs H1=>∃ f1 a f2 b xs ys,vs=[.ref a,.ref b]∧SqF f1 K H1 a xs∧SqF f2 K H1 b ys∧R (Itz K f1 a f2 b) H1
theorem afx {l r:Expr} {tl:TA} {p pos:Pos} (hg:Gl X "zip") (hm:X.mg "zip"=none) (hl:PA X [l,r] tl) (hs:starEach [l,r] X.env=[(false,eval l X.env),(false,eval r X.env)]:=by rfl) (hs2:starEach [r] X.env=[(false,eval r X.env)]:=by rfl) :
  PI X (.Tuple elts x1 tp) (.Call (.Name "zip" p) [l,r] [] pos) (aih X.K tl):=by
 intro pins s σ H R I h
 refine Call_ (nA I hg hm boot_zip (PyProof.Rows.callWith_type1 (thn (hl pos pins s σ H _ I h) fun us s1 ⟨vs,H1,I1,r1,q1⟩=>?_) (by rw [hs,hs2]) (by rw [hs2]; rfl)))
 obtain ⟨f1,a,f2,b,xs,ys,rfl,hx,hy,q⟩:=q1
 obtain ⟨u,v,rfl,ru,rv⟩:=agO r1
 cases ru
 cases rv
 obtain ⟨its,_,p1,_⟩:=I1.seqF hx
 obtain ⟨jts,_,p2,_⟩:=I1.seqF hy
 refine aam (afX f1 a its.toArray) (afX f2 b jts.toArray) (fun h g=>g.keep fun o z=>Heap.get?_push_of_some _ z) p1 p2 (aay _ _) (aay _ _) fun h' e1 e2 e3 e4 e5 k=>?_
 refine wpAny_pyIter_zip (s:={ s1 with heap:=h' }) e1 ?_
 have zr:qZ (s1.heap.objs.size+4) (s1.heap.objs.size+2) (s1.heap.objs.size+3) s1.heap.objs.size (s1.heap.objs.size+1):=by
  generalize s1.heap.objs.size=n
  have g:∀ i j:Nat,i≠j→((n:Nat)+i:Nat)≠n+j:=fun i j h=>by omega
  exact ⟨g 2 4 (by decide),g 3 4 (by decide),g 0 4 (by decide),g 1 4 (by decide),g 2 3 (by decide),g 2 0 (by decide),g 2 1 (by decide),g 3 0 (by decide),g 3 1 (by decide),g 0 1 (by decide)⟩
 refine ⟨_,[s1.heap.objs.size+4,s1.heap.objs.size+2,s1.heap.objs.size+3,s1.heap.objs.size,s1.heap.objs.size+1],_,_,H1,rfl,I1.kept (t':=s1.toks) k,acJ f1 f2 a b _ _ _ _ _ zr,⟨e1,e2,⟨_,_,e3⟩,yN f1 a _ e4,yN f2 b _ e5⟩,fun c hc=>?_,q⟩
 have hb:s1.heap.objs.size≤c:=by
  simp only [List.mem_cons,List.not_mem_nil,or_false] at hc
  rcases hc with q | q | q | q | q
  all_goals rw [q]
  all_goals first | exact Nat.le_refl _ | exact Nat.le_add_right _ _
 exact I1.fpOk hb (I1.hok.fresh hb)
end
end L2
namespace L2
open PySem PySem.Spec PyProof.Rows Bn
section
variable {P:Program} {w:World} {K:PySem.W.Frag} {mg:Str→Option Value} {base:Heap}
end
theorem eQ {X:Cx} {sc:Scope} {own:List Str} {cap:List (Nat × Str)} (so:Scope) (N:List Str) (hso:X.env.scope=so) (hN:X.N=N) (kind:sc.kind=.function) (names:∀ y∈sc.names,y.2=.local→sc.names.lookup y.1=some .local)
  (nocell:∀ y∈sc.names,y.2≠.cell) (free:∀ y∈sc.names,y.2=.free→so.names.lookup y.1=some .cell) (at':∀ p∈cap,N[p.1]?=some p.2) (hcap:∀ p∈cap,sc.names.lookup p.2=some .free):fW X sc own cap :=
 ⟨kind,names,nocell,fun y hy e=>by show X.env.scope.names.lookup y.1=_; rw [hso]; exact free y hy e,fun p hp=>by rw [hN]; exact at' p hp,hcap⟩
end L2
namespace L2
open PySem PySem.Spec PyProof.Rows Bn
theorem aaK (n d:Nat):HT.sIx (n+1) d (some (-1))=n:=by
 unfold HT.sIx
 simp
 omega
end L2
namespace L2
open PySem PySem.Spec PyProof.Rows Bn
section
variable {X:Cx}
end
end L2
namespace L2
open PySem PySem.Spec PyProof.Rows Bn
def CX1 (P:Program) (w:World):CXT:=fun outer H s E e s'=>∃ (x C t:Addr) (B:Heap) (H':Hp),e=.ref x∧s'.os=s.os∧AllBare s'.gens∧Un (frs outer) [] H H' s.heap s'.heap∧HOk P w H' s'.heap ∧
 Heap.FlyingW B outer x (.ref C) (.ref t) s'.heap∧(∀ b o,s'.heap.get? b=some o→(∃ u,H' b=some u)∨(∃ o',s.heap.get? b=some o'∧b ∉ frs outer)→B.get? b=some o)∧E (.ref C) none H'
end L2
namespace L2
open PySem PySem.Spec PyProof.Rows Bn
section
variable {X:Cx} {pins:List (Addr × Obj)} {σ:St} {H H':Hp} {s s':Shared}
end
section
variable {X:Cx} {k:Nat} {f:Addr} {fd:FuncData} {ps:List Str} {sp:Sp} {dvs:List V} {ds:List Value} {E:XK} {x:Str} {p pos:Pos} {e:Expr} {es:List Expr} {t:TA}
end
end L2
namespace L2
open PySem PySem.Spec PyProof.Rows Bn
section
variable {P:Program} {w:World} {K:PySem.W.Frag} {mg:Str→Option Value} {base:Heap} {CX:CXT}
end
end L2
namespace L2
open PySem PySem.Spec PyProof.Rows Bn
section
variable {X:Cx} {pins:List (Addr × Obj)} {σ:St} {H:Hp} {s:Shared}
end
section
variable {X:Cx} {pins:List (Addr × Obj)} {σ:St} {H:Hp} {s:Shared}
end
end L2
namespace L2
open PySem PySem.Spec PyProof.Rows Bn
section
variable {X:Cx} {k:Nat} {f:Addr} {fd:FuncData} {ps:List Str} {sp:Sp} {dvs:List V} {ds:List Value} {x:Str} {p pos pos1 pos2 pos3 pc:Pos} {e:Expr} {es:List Expr} {t:TA} {c n:Str} {C:Addr} {i:Nat} {b₀:Stmt} {body:List Stmt} {newId:String}
end
end L2
namespace L2
open PySem PySem.Spec PySem.W PySem.Calls PySem.Builtin PySem.Builtin.Getset_descriptor PyProof.Rows Bn
section
variable {prog:Program} {w:World} {A:Around} {E:Value→Shared→Prop} {s:Shared} {K:PySem.W.Frag} {x D:Addr} {B:String} {R:Result→Shared→Prop}
end
end L2
namespace L2
open PySem PySem.Spec PyProof.Rows Bn
section
variable {X:Cx} {y D:Addr} {oe:Obj}
end
end L2
namespace L2
open PySem PySem.Spec PyProof.Rows
def TpI (h:Heap) (l:List Int) (a:Addr):Prop:=∃ o its n,h.get? a=some o∧o.cls=.type "tuple"∧o.data=.seq its n∧aX (l.map V.int) its.toList
def TpT (h:Heap) (ks:List (List Int)) (a:Addr):Prop:=∃ o its n,h.get? a=some o∧o.cls=.type "tuple"∧o.data=.seq its n∧Paired (fun k v=>∃ b,v=Value.ref b∧TpI h k b) ks its.toList
def hF (l:List Int):Int:=reduceHash (Builtin.Tuple.tupleHashOf (l.map hashInt))
def hN (l:List (List Int)):Int:=reduceHash (Builtin.Tuple.tupleHashOf (l.map hF))
abbrev iK (prog:Program) (w:World):KeyKind prog w Int:=intKind prog w
theorem zR:∀ {l m:List Int} {us:List Value},aX (l.map V.int) us→aX (m.map V.int) us→l=m
 | [],[],_,_,_=>rfl
 | [],_ :: _,_,.nil,h=>nomatch h
 | _ :: _,[],_,.cons _ _,h=>nomatch h
 | i :: l,j :: m,_,.cons r t,.cons r' t'=>by
  obtain ⟨x,e⟩:=r
  obtain ⟨y,e'⟩:=r'
  rw [e] at e'
  injection e' with e1
  rw [e1,zR t t']
section
variable {prog:Program} {w:World} {A:Around} {E:Value→Shared→Prop} {s:Shared} {h h':Heap} {a b d:Addr}
theorem TpI.inj {x y:List Int} (hx:TpI h x a) (hy:TpI h y a):x=y:=by
 obtain ⟨o,its,n,e,_,f,r⟩:=hx
 obtain ⟨o',its',n',e',_,f',r'⟩:=hy
 cases Option.some.inj (e.symm.trans e')
 cases f.symm.trans f'
 exact zR r r'
theorem TpT.inj {x y:List (List Int)} (hx:TpT h x a) (hy:TpT h y a):x=y:=by
 obtain ⟨o,its,n,e,_,f,r⟩:=hx
 obtain ⟨o',its',n',e',_,f',r'⟩:=hy
 cases Option.some.inj (e.symm.trans e')
 cases f.symm.trans f'
 revert r r'
 generalize its.toList=us
 intro r
 induction r generalizing y with
 | nil=>intro r'; cases r'; rfl
 | cons p _ ih =>
  intro r'
  cases r' with
  | cons p' t' =>
   obtain ⟨b,rfl,g⟩:=p
   obtain ⟨b',eb,g'⟩:=p'
   cases eb
   rw [g.inj g',ih t']
theorem adE {o o':Obj} {its:Array Value} {n:Nat} {es ep} (e:h.get? a=some o) (f:o.data=.seq its n) (e':h.get? d=some o') (f':o'.data=.dict es ep):a≠d:=fun z=>by
 rw [z,e'] at e
 cases e
 rw [f] at f'
 cases f'
theorem TpI.keep {l:List Int} {o':Obj} {es ep} (x:TpI h l a) (e':h.get? d=some o') (f':o'.data=.dict es ep) (sb:Heap.SameBut d h h'):TpI h' l a:=by
 obtain ⟨o,its,n,e,c,f,r⟩:=x
 exact ⟨o,its,n,(sb.2 a (adE e f e' f')).trans e,c,f,r⟩
theorem TpT.keep {l:List (List Int)} {o':Obj} {es ep} (x:TpT h l a) (e':h.get? d=some o') (f':o'.data=.dict es ep) (sb:Heap.SameBut d h h'):TpT h' l a:=by
 obtain ⟨o,its,n,e,c,f,r⟩:=x
 exact ⟨o,its,n,(sb.2 a (adE e f e' f')).trans e,c,f,Paired.mapP r fun _ _ ⟨b,eb,g⟩=>⟨b,eb,g.keep e' f' sb⟩⟩
theorem rL:∀ {l:List Int} {us:List Value},aX (l.map V.int) us→ItemsAre (iK prog w) l us
 | [],_,.nil=>.nil
 | i :: l,_,.cons r t=>by
  obtain ⟨t',rfl⟩:=r
  exact .cons (by simp [iK,intKind,Value.isInt]) (rL t)
theorem TpI.key {l:List Int} (x:TpI h l a):IsTupleKey (iK prog w) h l a:=by
 obtain ⟨o,its,n,e,c,f,r⟩:=x
 exact ⟨o,its,n,e,c,f,rL r⟩
theorem acu {α:Type} [DecidableEq α] (z:α) (l m:List α):((List.range (min l.length m.length)).all (fun j=>decide (l.getD j z=m.getD j z)) && l.length == m.length)=decide (l=m):=by
 rw [Bool.eq_iff_iff,Bool.and_eq_true,List.all_eq_true,decide_eq_true_iff]
 constructor
 ·rintro ⟨h1,h2⟩
  have hl:l.length=m.length:=by simpa using h2
  refine List.ext_getElem hl fun i g1 g2=>?_
  have:=h1 i (by simp; omega)
  simpa [List.getD,g1,g2] using this
 ·rintro rfl
  exact ⟨fun i _=>by simp,by simp⟩
theorem pA {α β:Type} {R:α→β→Prop}:∀ {l:List α} {m:List β},Paired R l m→l.length=m.length∧∀ (j:Nat) (x:α) (y:β),l[j]?=some x→m[j]?=some y→R x y
 | _,_,.nil=>⟨rfl,fun j x y h=>by simp at h⟩
 | _,_,.cons r t=>by
  obtain ⟨e,g⟩:=pA t
  refine ⟨by rw [List.length_cons,List.length_cons,e],fun j x y h1 h2=>?_⟩
  cases j with
  | zero =>
   simp at h1 h2
   rw [← h1,← h2]
   exact r
  | succ j=>exact g j x y (by simpa using h1) (by simpa using h2)
theorem aaB {α:Type} [DecidableEq α] (z:α) {R:α→Value→Prop} {x y:List α} {o o':Obj} {us vs:Array Value} {n n':Nat} (hu:A.units < cLine) (ha:s.heap.get? a=some o) (hc:o.cls=.type "tuple") (hd:o.data=.seq us n) (hb:s.heap.get? b=some o') (hc':o'.cls=.type "tuple") (hd':o'.data=.seq vs n')
  (rx:Paired R x us.toList) (ry:Paired R y vs.toList) (same:a=b→x=y) (eq:∀ k l u v,R k u→R l v→SeqAt.EqAt A.in1 s u v (decide (k=l))):SeqAt.EqAt A s (.ref a) (.ref b) (decide (x=y)):=by
 by_cases ab:a=b
 ·rw [decide_eq_true (same ab),ab]
  exact SeqAt.EqAt.same _
 ·obtain ⟨m1,g1⟩:=pA rx
  obtain ⟨m2,g2⟩:=pA ry
  have l1:x.length=us.size:=by simpa using m1
  have l2:y.length=vs.size:=by simpa using m2
  have:=SeqAt.RcAt.tuples (A:=A) (s:=s) (l:=a) (b:=b) (items:=us) (items2:=vs) (e:=fun j=>decide (x.getD j z=y.getD j z)) ⟨o,ha,hc,n,hd⟩ ⟨o',hb,hc',n',hd'⟩ hu fun j h1 h2=>by
   have i1:j < x.length:=by omega
   have i2:j < y.length:=by omega
   have e1:x.getD j z=x[j]:=by simp [List.getD,i1]
   have e2:y.getD j z=y[j]:=by simp [List.getD,i2]
   rw [e1,e2]
   exact eq _ _ _ _ (g1 j _ _ (List.getElem?_eq_getElem i1) (by simp [h1])) (g2 j _ _ (List.getElem?_eq_getElem i2) (by simp [h2]))
  rw [← l1,← l2,acu] at this
  exact SeqAt.EqAt.of_refs ab this
theorem rY:∀ {l:List Int} {us:List Value},aX (l.map V.int) us→Paired (fun (i:Int) v=>∃ t,v=Value.int i t) l us
 | [],_,.nil=>.nil
 | _ :: _,_,.cons r t=>.cons r (rY t)
theorem TpI.eq {x y:List Int} (hu:A.units < cLine) (hx:TpI s.heap x a) (hy:TpI s.heap y b):SeqAt.EqAt A s (.ref a) (.ref b) (decide (x=y)):=by
 have inj:a=b→x=y:=fun z=>by subst z; exact hx.inj hy
 obtain ⟨o,us,n,e,c,f,r⟩:=hx
 obtain ⟨o',vs,n',e',c',f',r'⟩:=hy
 refine aaB 0 hu e c f e' c' f' (rY r) (rY r') inj fun k l u v ⟨t,eu⟩ ⟨t',ev⟩=>?_
 subst eu ev
 have:=SeqAt.EqAt.int_int (A:=A.in1) (s:=s) k t l t'
 have e:(k == l)=decide (k=l):=by by_cases q:k=l <;> simp [q]
 rwa [e] at this
theorem TpT.eq {x y:List (List Int)} (hu:A.units+1 < cLine) (hx:TpT s.heap x a) (hy:TpT s.heap y b):SeqAt.EqAt A s (.ref a) (.ref b) (decide (x=y)):=by
 have inj:a=b→x=y:=fun z=>by subst z; exact hx.inj hy
 obtain ⟨o,us,n,e,c,f,r⟩:=hx
 obtain ⟨o',vs,n',e',c',f',r'⟩:=hy
 refine aaB [] (Nat.lt_of_succ_lt hu) e c f e' c' f' r r' inj fun k l u v ⟨p,eu,g⟩ ⟨q,ev,g'⟩=>?_
 subst eu ev
 exact g.eq hu g'
theorem xS {Q:Array Int→Shared→Prop} (hu:A.units < cLine):∀ (ks:List (List Int)) (vs:List Value) (t:Nat) (acc:Array Int),Paired (fun k v=>∃ b,v=Value.ref b∧TpI s.heap k b) ks vs →
  (∀ acc':Array Int,acc'.toList=acc.toList++ks.map hF→Q acc' { s with toks:=t+(ks.map fun k=>k.length+1).sum }) →
  wpAny (model prog w) A (forIn vs acc fun x r=>do let h ← pyHash x; pure PUnit.unit; pure (ForInStep.yield (r.push h))) Q E { s with toks:=t }
 | [],_,t,acc,.nil,q=>wpAny_pure (by simpa using q acc (by simp))
 | k :: ks,_,t,acc,.cons ⟨b,eb,g⟩ r,q=>by
  subst eb
  rw [List.forIn_cons]
  refine wpAny_bind (wpAny_bind (wpAny_pyHash_tuple (knd:=iK prog w) (s:={ s with toks:=t }) hu g.key ?_))
  refine wpAny_bind (wpAny_pure (wpAny_pure ?_))
  refine xS hu ks _ (t+(k.length+1)) _ r fun acc' e=>?_
  have:=q acc' (by rw [e]; simp [hF,tupleKeyHash,iK,intKind])
  rw [List.map_cons,List.sum_cons] at this
  simpa [Nat.add_assoc] using this
theorem TpT.hash {ks:List (List Int)} {Q:Int→Shared→Prop} (hu:A.units+1 < cLine) (hk:TpT s.heap ks a) (q:Q (hN ks) { s with toks:=s.toks+((ks.map fun k=>k.length+1).sum+1) }):wpAny (model prog w) A (pyHash (.ref a)) Q E s:=by
 obtain ⟨o,its,n,e,c,f,r⟩:=hk
 refine PySem.W.pyHash_slot (T:="tuple") ⟨o,e,c⟩ F.slot_tuple_hash F.entry_tuple_hash (F.args_tuple_hash_1 _) (beq_builtin_none _) (.inr (Nat.lt_of_succ_lt hu)) ?_
 show wpAny _ _ (Builtin.Tuple.tupleItemsOf (.ref a) >>= _) _ _ s
 refine wpAny_bind (wpAny_tupleItemsOf e f (wpAny_bind ?_))
 rw [← Array.forIn_toList]
 refine xS hu ks its.toList s.toks #[] r fun acc ea=>?_
 show wpAny _ _ (retInt (Builtin.Tuple.tupleHashOf acc.toList)) _ _ _
 rw [ea]
 exact wpAny_bind (wpAny_mkInt (wpAny_pure ⟨_,_,rfl,by simpa [hN,Nat.add_assoc] using q⟩))
theorem xD {n:Nat} {P:Value→Prop} (hP:∀ v (Q:Bool→Shared→Prop),P v→Q true s→wpAny (model prog w) A (eqIsQuiet n v) Q E s) {o:Obj} {its:Array Value} {m:Nat} {Q:Bool→Shared→Prop} (e:s.heap.get? a=some o) (c:o.cls=.type "tuple") (f:o.data=.seq its m) (r:∀ v∈its.toList,P v) (q:Q true s) :
  wpAny (model prog w) A (eqIsQuiet (n+1) (.ref a)) Q E s:=by
 have hT:s.TypeIs (.ref a) "tuple":=⟨o,e,c⟩
 unfold eqIsQuiet
 refine wpAny_bind (wpAny_specialOf hT F.slot_tuple_eq.lookup (wpAny_bind (wpAny_isInstance hT isSubtype_tuple_tuple ?_)))
 rw [if_neg (by simp)]
 refine wpAny_bind (wpAny_seqItems e f (wpAny_bind ?_))
 show wpAny _ _ (forIn its _ _) _ _ s
 rw [← Array.forIn_toList]
 refine wpAny_forIn_list _ (fun dX z s'=>s'=s∧z.1=none∧∀ v∈dX,P v) _ ?_ ?_ _ _ ⟨rfl,rfl,r⟩
 ·rintro v dX z s' ⟨rfl,hz,hr⟩
  refine wpAny_bind (hP v _ (hr v List.mem_cons_self) ?_)
  rw [if_neg (by simp)]
  exact wpAny_pure ⟨rfl,rfl,fun u hu=>hr u (List.mem_cons_of_mem _ hu)⟩
 ·rintro ⟨z1,z2⟩ s' ⟨rfl,hz,_⟩
  cases hz
  exact wpAny_pure q
theorem TpI.quiet {n:Nat} {l:List Int} {Q:Bool→Shared→Prop} (hk:TpI s.heap l a) (q:Q true s):wpAny (model prog w) A (eqIsQuiet (n+1) (.ref a)) Q E s:=by
 obtain ⟨o,its,m,e,c,f,r⟩:=hk
 refine xD (P:=fun v=>carriedByValue v=true) (fun v Q' hv q'=>?_) e c f (rL (prog:=prog) (w:=w) r).byValue q
 rw [eqIsQuiet_byValue _ hv]
 exact wpAny_pure q'
theorem TpT.quiet {ks:List (List Int)} {Q:Bool→Shared→Prop} (hk:TpT s.heap ks a) (q:Q true s):wpAny (model prog w) A (eqIsQuiet 8 (.ref a)) Q E s:=by
 obtain ⟨o,its,m,e,c,f,r⟩:=hk
 refine xD (P:=fun v=>∃ k b,v=.ref b∧TpI s.heap k b) (fun v Q' ⟨k,b,ev,g⟩ q'=>by subst ev; exact g.quiet (n:=6) q') e c f (fun v hv=>?_) q
 obtain ⟨l1,g⟩:=pA r
 obtain ⟨i,hi,ev⟩:=List.mem_iff_getElem.mp hv
 have i1:i < ks.length:=by rw [l1]; exact hi
 obtain ⟨b,eb,gb⟩:=g i _ v (List.getElem?_eq_getElem i1) (by rw [List.getElem?_eq_getElem hi,ev])
 exact ⟨_,b,eb,gb⟩
end
def ac6 (prog:Program) (w:World):HeapKind prog w (List (List Int)) where
 is:=TpT
 hash:=hN
 draws:=fun ks=>(ks.map fun k=>k.length+1).sum+1
 room:=fun A=>A.units+1 < cLine
 inj:=fun hx hy=>hx.inj hy
 keeps:=fun x ho hd hs=>x.keep ho hd hs
 pyHash:=fun hu hk h=>hk.hash hu h
 eqBool:=fun hu hx hy h=>hx.eq hu hy _ _ _ _ h
 quiet:=fun hk h=>hk.quiet h
def eD:Bool→Type
 | false=>List Int
 | true=>List (List Int)
instance decK:(n:Bool)→DecidableEq (eD n)
 | false=>inferInstanceAs (DecidableEq (List Int))
 | true=>inferInstanceAs (DecidableEq (List (List Int)))
def afn:(n:Bool)→eD n→Int
 | false=>hF
 | true=>hN
def iQ (prog:Program) (w:World):(n:Bool)→HeapKind prog w (eD n)
 | false=>tupleKind (iK prog w)
 | true=>ac6 prog w
theorem xO {prog:Program} {w:World}:∀ (n:Bool) (k:eD n),(iQ prog w n).hash k=afn n k
 | false,_=>rfl
 | true,_=>rfl
theorem rT {prog:Program} {w:World} {A:Around} (hu:A.units+2 < cLine):∀ n:Bool,(iQ prog w n).room A.in1
 | false=>Nat.lt_of_succ_lt hu
 | true=>hu
end L2
namespace L2.Pp
open PySem PySem.Spec PyProof.Rows Bn
inductive PV where
 | non | bl (b:Bool) | int (i:Int) | str (x:Str) | tup (xs:List PV) | lst (xs:List PV)
inductive SO where
 | lst (xs:List PV)
 | lol (xss:List (List PV))
 | dic (n:Bool) (kvs:List (PV × PV))
 | dol (n:Bool) (kvs:List (PV × List PV))
abbrev Sto:=List SO
inductive AV where
 | pv (v:PV) | ref (k:Nat)
abbrev Rho:=List (Option AV)
inductive Res (α:Type) where
 | ok (a:α) (S:Sto) | exc (n:Str) (S:Sto) | fail
def Res.bind {α β:Type} (r:Res α) (k:α→Sto→Res β):Res β:=match r with
 | .ok a S=>k a S
 | .exc n S=>.exc n S
 | .fail=>.fail
inductive bN where
 | nx (ρ:Rho) (S:Sto) | rt (v:AV) (S:Sto) | bk (ρ:Rho) (S:Sto) | ct (ρ:Rho) (S:Sto) | exc (n:Str) (S:Sto) | fail
def LAt (K:PySem.W.Frag) (c:Addr→Prop) (H:Hp) (a:Addr) (vs:List V):Prop :=
 (H a=some (.lst vs)∧¬ c a)∨(∃ o,H a=some (.frz o (.lst vs))) ∨
  ∃ (o:Obj) (its:Array Value) (n:Nat),K.lookup a=some o∧o.cls=.type "list"∧o.dict=none∧o.data=.seq its n∧its.size≤sizeLine∧aX vs its.toList
theorem LAt.sq {K:PySem.W.Frag} {c:Addr→Prop} {H:Hp} {a:Addr} {vs:List V} (h:LAt K c H a vs):SqL K H a vs:=by
 rcases h with h | h | h
 ·exact .inl (.inl h.1)
 ·exact .inl (.inr h)
 ·exact .inr h
mutual
def Rep (K:PySem.W.Frag) (c:Addr→Prop) (H:Hp):PV→V→Prop
 | .non,x=>x=.non
 | .bl b,x=>x=.bl b
 | .int i,x=>x=.int i
 | .str s,x=>x=.str s
 | .tup xs,x=>∃ a vs,x=.ref a∧SqT K H a vs∧vs.length≤sizeLine∧aJ K c H xs vs
 | .lst xs,x=>∃ a vs,x=.ref a∧LAt K c H a vs∧vs.length≤sizeLine∧aJ K c H xs vs
def aJ (K:PySem.W.Frag) (c:Addr→Prop) (H:Hp):List PV→List V→Prop
 | [],vs=>vs=[]
 | p :: ps,vs=>∃ v r,vs=v :: r∧Rep K c H p v∧aJ K c H ps r
end
section
variable {K:PySem.W.Frag} {c c':Addr→Prop} {H H':Hp}
mutual
theorem Rep.mono (hT:∀ a vs,SqT K H a vs→SqT K H' a vs) (hL:∀ a vs,LAt K c H a vs→LAt K c' H' a vs):∀ (v:PV) (x:V),Rep K c H v x→Rep K c' H' v x
 | .non,x,h=>h
 | .bl b,x,h=>h
 | .int i,x,h=>h
 | .str s,x,h=>h
 | .tup xs,x,h=>by
  unfold Rep at h ⊢
  obtain ⟨a,vs,e,t,z,r⟩:=h
  exact ⟨a,vs,e,hT a vs t,z,aJ.mono hT hL xs vs r⟩
 | .lst xs,x,h=>by
  unfold Rep at h ⊢
  obtain ⟨a,vs,e,t,z,r⟩:=h
  exact ⟨a,vs,e,hL a vs t,z,aJ.mono hT hL xs vs r⟩
theorem aJ.mono (hT:∀ a vs,SqT K H a vs→SqT K H' a vs) (hL:∀ a vs,LAt K c H a vs→LAt K c' H' a vs):∀ (v:List PV) (x:List V),aJ K c H v x→aJ K c' H' v x
 | [],vs,h=>by
  unfold aJ at h ⊢
  exact h
 | p :: ps,vs,h=>by
  unfold aJ at h ⊢
  obtain ⟨v,r,e,h1,h2⟩:=h
  exact ⟨v,r,e,Rep.mono hT hL p v h1,aJ.mono hT hL ps r h2⟩
end
theorem aJ.length:∀ {xs:List PV} {vs:List V},aJ K c H xs vs→xs.length=vs.length
 | [],vs,h=>by
  unfold aJ at h
  rw [h]
  rfl
 | p :: ps,vs,h=>by
  unfold aJ at h
  obtain ⟨v,r,rfl,_,h2⟩:=h
  rw [List.length_cons,List.length_cons,aJ.length h2]
theorem aJ.get:∀ {xs:List PV} {vs:List V} {i:Nat} {p:PV},aJ K c H xs vs→xs[i]?=some p→∃ v,vs[i]?=some v∧Rep K c H p v
 | [],vs,i,p,h,e=>by simp at e
 | q :: ps,vs,0,p,h,e=>by
  unfold aJ at h
  obtain ⟨v,r,rfl,h1,_⟩:=h
  simp at e
  subst e
  exact ⟨v,rfl,h1⟩
 | q :: ps,vs,i+1,p,h,e=>by
  unfold aJ at h
  obtain ⟨v,r,rfl,_,h2⟩:=h
  obtain ⟨u,e1,e2⟩:=aJ.get (i:=i) h2 (by simpa using e)
  exact ⟨u,by simpa using e1,e2⟩
theorem aJ.nil:aJ K c H [] []:=by
 unfold aJ
 rfl
theorem aJ.cons {p:PV} {v:V} {ps:List PV} {vs:List V} (h:Rep K c H p v) (t:aJ K c H ps vs):aJ K c H (p :: ps) (v :: vs):=by
 unfold aJ
 exact ⟨v,vs,rfl,h,t⟩
theorem aJ.append:∀ {xs ys:List PV} {vs ws:List V},aJ K c H xs vs→aJ K c H ys ws→aJ K c H (xs++ys) (vs++ws)
 | [],ys,vs,ws,h,g=>by
  unfold aJ at h
  subst h
  exact g
 | p :: ps,ys,vs,ws,h,g=>by
  unfold aJ at h
  obtain ⟨v,r,rfl,h1,h2⟩:=h
  exact .cons h1 (h2.append g)
theorem aJ.drop:∀ {xs:List PV} {vs:List V} (n:Nat),aJ K c H xs vs→aJ K c H (xs.drop n) (vs.drop n)
 | xs,vs,0,h=>by simpa using h
 | [],vs,n+1,h=>by
  unfold aJ at h
  subst h
  simpa using aJ.nil
 | p :: ps,vs,n+1,h=>by
  unfold aJ at h
  obtain ⟨v,r,rfl,_,h2⟩:=h
  simpa using h2.drop n
theorem aJ.take:∀ {xs:List PV} {vs:List V} (n:Nat),aJ K c H xs vs→aJ K c H (xs.take n) (vs.take n)
 | xs,vs,0,h=>by simpa using aJ.nil
 | [],vs,n+1,h=>by
  unfold aJ at h
  subst h
  simpa using aJ.nil
 | p :: ps,vs,n+1,h=>by
  unfold aJ at h
  obtain ⟨v,r,rfl,h1,h2⟩:=h
  simpa using aJ.cons h1 (h2.take n)
theorem aJ.eraseIdx:∀ {xs:List PV} {vs:List V} (n:Nat),aJ K c H xs vs→aJ K c H (xs.eraseIdx n) (vs.eraseIdx n)
 | [],vs,n,h=>by
  unfold aJ at h
  subst h
  simpa using aJ.nil
 | p :: ps,vs,0,h=>by
  unfold aJ at h
  obtain ⟨v,r,rfl,h1,h2⟩:=h
  simpa using h2
 | p :: ps,vs,n+1,h=>by
  unfold aJ at h
  obtain ⟨v,r,rfl,h1,h2⟩:=h
  simpa using aJ.cons h1 (h2.eraseIdx n)
theorem aJ.set {p:PV} {v:V} (g:Rep K c H p v):∀ {xs:List PV} {vs:List V} (n:Nat),aJ K c H xs vs→aJ K c H (xs.set n p) (vs.set n v)
 | [],vs,n,h=>by
  unfold aJ at h
  subst h
  simpa using aJ.nil
 | q :: ps,vs,0,h=>by
  unfold aJ at h
  obtain ⟨v,r,rfl,h1,h2⟩:=h
  simpa using aJ.cons g h2
 | q :: ps,vs,n+1,h=>by
  unfold aJ at h
  obtain ⟨v,r,rfl,h1,h2⟩:=h
  simpa using aJ.cons h1 (aJ.set g n h2)
end
structure Ph where
 f:List Addr
 w:Addr→Prop
 c:Addr→Prop
def qE (K:PySem.W.Frag) (c:Addr→Prop) (H:Hp) (xss:List (List PV)) (bs:List Addr):Prop :=
 xss.length=bs.length∧∀ (i:Nat) (xs:List PV) (b:Addr),xss[i]?=some xs→bs[i]?=some b→∃ vs,H b=some (.lst vs)∧vs.length≤sizeLine∧aJ K c H xs vs
def cG:(n:Bool)→eD n→PV
 | false,l=>.tup (List.map PV.int l)
 | true,l=>.tup (List.map (fun r:List Int=>PV.tup (r.map PV.int)) l)
def oD (es:Array DictEntry) (ep:Nat):Obj:={ cls:=.type "dict",data:=.dict es ep }
def dO (a:Addr) (es:Array DictEntry) (ep:Nat):HO:=.ext fun h=>h.get? a=some (oD es ep)
def enK (n:Bool) (x:eD n × Addr × Value):DictEntry:=⟨afn n x.1,.ref x.2.1,x.2.2⟩
def DAt (K:PySem.W.Frag) (c:Addr→Prop) (H:Hp) (a:Addr) (n:Bool) (ks:List PV) (us:List Value):Prop :=
 ∃ (xs:List (eD n × Addr × Value)) (ep:Nat),H a=some (dO a (xs.map (enK n)).toArray ep)∧(a == sysModules)=false∧xs.length≤sizeLine∧(xs.map (·.1)).Nodup∧ks=xs.map (fun x=>cG n x.1)∧aJ K c H ks (xs.map fun x=>V.ref x.2.1)∧us=xs.map (·.2.2)
def kQ (K:PySem.W.Frag) (p:Ph) (H:Hp) (a:Addr):SO→Prop
 | .lst xs=>∃ vs,H a=some (.lst vs)∧vs.length≤sizeLine∧aJ K p.c H xs vs
 | .lol xss=>∃ bs:List Addr,H a=some (.lst (bs.map V.ref))∧bs.length≤sizeLine∧bs.Nodup∧(∀ b∈bs,p.w b∧b ∉ p.f)∧qE K p.c H xss bs
 | .dic n kvs=>∃ us vs,DAt K p.c H a n (kvs.map (·.1)) us∧aX vs us∧aJ K p.c H (kvs.map (·.2)) vs
 | .dol n kvs=>∃ bs:List Addr,DAt K p.c H a n (kvs.map (·.1)) (bs.map Value.ref)∧bs.Nodup∧(∀ b∈bs,p.w b∧b ∉ p.f)∧qE K p.c H (kvs.map (·.2)) bs
theorem DAt.mono {K:PySem.W.Frag} {c c':Addr→Prop} {H H':Hp} {a:Addr} {n:Bool} {ks:List PV} {us:List Value} (h:DAt K c H a n ks us) (ha:∀ o,H a=some o→H' a=some o) (hR:∀ xs vs,aJ K c H xs vs→aJ K c' H' xs vs):DAt K c' H' a n ks us:=by
 obtain ⟨xs,ep,e,z,l,nd,ek,r,eu⟩:=h
 exact ⟨xs,ep,ha _ e,z,l,nd,ek,hR _ _ r,eu⟩
theorem kQ.mono {K:PySem.W.Frag} {p p':Ph} {H H':Hp} {a:Addr} {o:SO} (h:kQ K p H a o) (ha:∀ o,H a=some o→H' a=some o)
  (hb:∀ b,p.w b→b ∉ p.f→(p'.w b∧b ∉ p'.f)∧∀ vs,H b=some (.lst vs)→H' b=some (.lst vs)) (hR:∀ xs vs,aJ K p.c H xs vs→aJ K p'.c H' xs vs):kQ K p' H' a o:=by
 have lol:∀ {xss:List (List PV)} {bs:List Addr},(∀ b∈bs,p.w b∧b ∉ p.f)→qE K p.c H xss bs→qE K p'.c H' xss bs:=fun wf ⟨z,at_⟩=>⟨z,fun i xs b e1 e2=>by
  obtain ⟨vs,g1,g2,g3⟩:=at_ i xs b e1 e2
  have m:=wf b (List.mem_of_getElem? e2)
  exact ⟨vs,(hb b m.1 m.2).2 vs g1,g2,hR xs vs g3⟩⟩
 cases o with
 | lst xs =>
  obtain ⟨vs,e,l,r⟩:=h
  exact ⟨vs,ha _ e,l,hR xs vs r⟩
 | lol xss =>
  obtain ⟨bs,e,l,nd,wf,z⟩:=h
  exact ⟨bs,ha _ e,l,nd,fun b m=>(hb b (wf b m).1 (wf b m).2).1,lol wf z⟩
 | dic n kvs =>
  obtain ⟨us,vs,d,v,r⟩:=h
  exact ⟨us,vs,d.mono ha hR,v,hR _ _ r⟩
 | dol n kvs =>
  obtain ⟨bs,d,nd,wf,z⟩:=h
  exact ⟨bs,d.mono ha hR,nd,fun b m=>(hb b (wf b m).1 (wf b m).2).1,lol wf z⟩
def Mb:HO→Prop
 | .lst _=>True
 | .dK _=>True
 | .dT _=>True
 | .ins _ _ _=>True
 | .ext _=>True
 | _=>False
structure Sim (K:PySem.W.Frag) (p:Ph) (S:Sto) (H:Hp):Prop where
 nd:p.f.Nodup
 len:p.f.length=S.length
 sub:∀ a∈p.f,p.w a
 wc:∀ a,p.w a→p.c a
 mu:∀ a,p.c a→∃ o,H a=some o∧Mb o
 obj:∀ (k:Nat) (a:Addr) (o:SO),p.f[k]?=some a→S[k]?=some o→kQ K p H a o
structure bC (p:Ph) (H:Hp) (q:Ph) (H':Hp):Prop where
 wc:∀ a,p.w a→p.c a
 mu:∀ a,p.c a→∃ o,H a=some o∧Mb o
 pre:p.f <+: q.f
 mw:∀ a,p.w a→q.w a
 mono:∀ a,p.c a→q.c a
 nf:∀ a∈q.f,a ∉ p.f→H a=none
 nw:∀ a,q.w a→¬ p.w a→H a=none
 nc:∀ a,q.c a→¬ p.c a→H a=none
 keep:∀ a o,H a=some o→¬ p.w a→H' a=some o
def bL (K:PySem.W.Frag) (p:Ph) (H:Hp):AV→V→Prop
 | .pv v,x=>Rep K p.c H v x
 | .ref k,x=>∃ a,p.f[k]?=some a∧x=.ref a
abbrev eU (K:PySem.W.Frag) (p:Ph) (H:Hp):List AV→List V→Prop:=Paired (bL K p H)
structure cL (K:PySem.W.Frag) (p:Ph) (H:Hp) (ρ:Rho) (σ:St):Prop where
 len:ρ.length=σ.length
 at_:∀ (i:Nat) (v:AV),ρ[i]?=some (some v)→∃ x,σ[i]?=some (some x)∧bL K p H v x
section
variable {K:PySem.W.Frag} {p q r:Ph} {H H' H'':Hp} {S:Sto}
theorem Sim.step (s:Sim K p S H):bC p H p H:=⟨s.wc,s.mu,List.prefix_rfl,fun _ h=>h,fun _ h=>h,fun _ h g=>absurd h g,fun _ h g=>absurd h g,fun _ h g=>absurd h g,fun _ _ h _=>h⟩
theorem bC.trans (a:bC p H q H') (b:bC q H' r H''):bC p H r H'':=by
 have back:∀ x,H' x=none→¬ p.w x→H x=none:=fun x h n=>by
  cases e:H x with
  | none=>rfl
  | some o=>rw [a.keep x o e n] at h; cases h
 refine ⟨a.wc,a.mu,a.pre.trans b.pre,fun x h=>b.mw x (a.mw x h),fun x h=>b.mono x (a.mono x h),fun x h n=>?_,fun x h n=>?_,fun x h n=>?_,fun x o e n=>?_⟩
 ·by_cases m:x∈q.f
  ·exact a.nf x m n
  ·have hn:=b.nf x h m
   refine back x hn fun z=>?_
   obtain ⟨o,ho,_⟩:=b.mu x (a.mono x (a.wc x z))
   rw [hn] at ho
   cases ho
 ·by_cases m:q.w x
  ·exact a.nw x m n
  ·exact back x (b.nw x h m) n
 ·by_cases m:q.c x
  ·exact a.nc x m n
  ·exact back x (b.nc x h m) fun z=>n (a.wc x z)
 ·refine b.keep x o (a.keep x o e n) fun z=>?_
  rw [a.nw x z n] at e
  cases e
theorem bC.tup (s:bC p H q H') {a:Addr} {vs:List V} (h:SqT K H a vs):SqT K H' a vs:=by
 have go:∀ o,H a=some o→¬ Mb o→H' a=some o:=fun o e n=>s.keep a o e fun z=>by
  obtain ⟨u,e',m⟩:=s.mu a (s.wc a z)
  rw [e] at e'
  cases e'
  exact n m
 rcases h with (h | ⟨o,h⟩) | h
 ·exact .inl (.inl (go _ h (fun z=>z)))
 ·exact .inl (.inr ⟨o,go _ h (fun z=>z)⟩)
 ·exact .inr h
theorem bC.lat (s:bC p H q H') {a:Addr} {vs:List V} (h:LAt K p.c H a vs):LAt K q.c H' a vs:=by
 rcases h with ⟨h,n⟩ | ⟨o,h⟩ | h
 ·refine .inl ⟨s.keep a _ h fun z=>n (s.wc a z),fun z=>?_⟩
  rw [s.nc a z n] at h
  cases h
 ·refine .inr (.inl ⟨o,s.keep a _ h fun z=>?_⟩)
  obtain ⟨u,e',m⟩:=s.mu a (s.wc a z)
  rw [h] at e'
  cases e'
  exact m
 ·exact .inr (.inr h)
theorem bC.rep (s:bC p H q H') {v:PV} {x:V} (h:Rep K p.c H v x):Rep K q.c H' v x:=Rep.mono (fun _ _=>s.tup) (fun _ _=>s.lat) v x h
theorem bC.reps (s:bC p H q H') {v:List PV} {x:List V} (h:aJ K p.c H v x):aJ K q.c H' v x:=aJ.mono (fun _ _=>s.tup) (fun _ _=>s.lat) v x h
theorem bC.at_ (s:bC p H q H') {k:Nat} {a:Addr} (h:p.f[k]?=some a):q.f[k]?=some a:=by
 obtain ⟨t,e⟩:=s.pre
 rw [← e,List.getElem?_append_left (by
  have:=List.getElem?_eq_some_iff.mp h
  exact this.1)]
 exact h
theorem bC.repA (s:bC p H q H') {v:AV} {x:V} (h:bL K p H v x):bL K q H' v x:=by
 cases v with
 | pv v=>exact s.rep h
 | ref k =>
  obtain ⟨a,e,f⟩:=h
  exact ⟨a,s.at_ e,f⟩
theorem bC.repE (s:bC p H q H') {ρ:Rho} {σ:St} (h:cL K p H ρ σ):cL K q H' ρ σ :=
 ⟨h.len,fun i v e=>let ⟨x,e1,e2⟩:=h.at_ i v e; ⟨x,e1,s.repA e2⟩⟩
theorem Sim.same (s:Sim K p S H) (h:cK H H'):bC p H p H':=⟨s.wc,s.mu,List.prefix_rfl,fun _ h=>h,fun _ h=>h,fun _ h g=>absurd h g,fun _ h g=>absurd h g,fun _ h g=>absurd h g,fun a o e _=>h a o e⟩
theorem Sim.ofSame (s:Sim K p S H) (h:cK H H'):Sim K p S H' :=
 ⟨s.nd,s.len,s.sub,s.wc,fun a m=>let ⟨o,e,m⟩:=s.mu a m; ⟨o,h a o e,m⟩,fun k a o e1 e2=>by
  exact (s.obj k a o e1 e2).mono (fun vs e=>h _ _ e) (fun b w f=>⟨⟨w,f⟩,fun vs e=>h _ _ e⟩) fun xs vs=>(s.same h).reps⟩
theorem eW {a:Addr} {o:HO} (h:H a=none):cK H (upd H a o):=fun b u e=>by
 rw [bQ (dY e h)]
 exact e
end
section
variable {α β γ δ:Type}
def bI (K:PySem.W.Frag) (cl:Str→Addr) (R:Ph→Hp→α→β→Prop) (p:Ph) (H:Hp) (r:Res α) (Q:β→Hp→Prop) (E:XK):Prop:=match r with
 | .ok a S=>∀ q H' x,bC p H q H'→Sim K q S H'→R q H' a x→Q x H'
 | .exc n S=>∀ q H',bC p H q H'→Sim K q S H'→E (.ref (cl n)) none H'
 | .fail=>False
def cS (K:PySem.W.Frag) (cl:Str→Addr) (p:Ph) (H:Hp) (r:bN) (D:jG) (E:XK):Prop:=match r with
 | .nx ρ S=>∀ q H' σ,bC p H q H'→Sim K q S H'→cL K q H' ρ σ→D.nx σ H'
 | .bk ρ S=>∀ q H' σ,bC p H q H'→Sim K q S H'→cL K q H' ρ σ→D.bk σ H'
 | .ct ρ S=>∀ q H' σ,bC p H q H'→Sim K q S H'→cL K q H' ρ σ→D.ct σ H'
 | .rt v S=>∀ q H' x,bC p H q H'→Sim K q S H'→bL K q H' v x→D.rt x H'
 | .exc n S=>∀ q H',bC p H q H'→Sim K q S H'→E (.ref (cl n)) none H'
 | .fail=>False
variable {K:PySem.W.Frag} {cl:Str→Addr} {p q:Ph} {H H':Hp} {S:Sto} {E:XK} {R:Ph→Hp→α→β→Prop} {R':Ph→Hp→γ→δ→Prop}
theorem bI.mono {r:Res α} {Q:β→Hp→Prop} (h:bI K cl R p H r Q E) (s:bC p H q H'):bI K cl R q H' r Q E:=by
 cases r with
 | ok a S=>exact fun q' H'' x s'=>h q' H'' x (s.trans s')
 | exc n S=>exact fun q' H'' s'=>h q' H'' (s.trans s')
 | fail=>exact h
theorem cS.mono {r:bN} {D:jG} (h:cS K cl p H r D E) (s:bC p H q H'):cS K cl q H' r D E:=by
 cases r with
 | nx ρ S=>exact fun q' H'' x s'=>h q' H'' x (s.trans s')
 | bk ρ S=>exact fun q' H'' x s'=>h q' H'' x (s.trans s')
 | ct ρ S=>exact fun q' H'' x s'=>h q' H'' x (s.trans s')
 | rt v S=>exact fun q' H'' x s'=>h q' H'' x (s.trans s')
 | exc n S=>exact fun q' H'' s'=>h q' H'' (s.trans s')
 | fail=>exact h
theorem bI.ret {a:α} {x:β} {Q:β→Hp→Prop} (h:bI K cl R p H (.ok a S) Q E) (s:Sim K p S H) (r:R p H a x):Q x H:=h p H x s.step s r
theorem bI.same {a:α} {x:β} {Q:β→Hp→Prop} (h:bI K cl R p H (.ok a S) Q E) (s:Sim K p S H) (e:cK H H') (r:R p H' a x):Q x H':=h p H' x (s.same e) (s.ofSame e) r
def tP (K:PySem.W.Frag) (cl:Str→Addr) (E:XK) (R:Ph→Hp→α→β→Prop) (m:Rho→Sto→Res α) (σ:St) (H:Hp) (Q:β→Hp→Prop):Prop :=
 ∃ p S ρ,Sim K p S H∧cL K p H ρ σ∧bI K cl R p H (m ρ S) Q E
def tS (K:PySem.W.Frag) (cl:Str→Addr) (E:XK) (m:Rho→Sto→bN):TS:=fun D σ H =>
 ∃ p S ρ,Sim K p S H∧cL K p H ρ σ∧cS K cl p H (m ρ S) D E
theorem bR {m:Rho→Sto→Res α} {k:α→Sto→Res γ} {ρ:Rho} {σ:St} {Q:δ→Hp→Prop} {T:β→Hp→Prop} (s:Sim K p S H) (e:cL K p H ρ σ) (h:bI K cl R' p H ((m ρ S).bind k) Q E)
  (g:∀ q H' a b S',bC p H q H'→Sim K q S' H'→cL K q H' ρ σ→R q H' a b→bI K cl R' q H' (k a S') Q E→T b H'):tP K cl E R m σ H T:=by
 refine ⟨p,S,ρ,s,e,?_⟩
 cases z:m ρ S with
 | ok a S1 =>
  rw [z] at h
  exact fun q H' b st sm r=>g q H' a b S1 st sm (st.repE e) r (bI.mono (r:=k a S1) h st)
 | exc n S1 =>
  rw [z] at h
  exact h
 | fail =>
  rw [z] at h
  exact h
def bN.of {α:Type} (r:Res α) (k:α→Sto→bN):bN:=match r with
 | .ok a S=>k a S
 | .exc n S=>.exc n S
 | .fail=>.fail
theorem fT {m:Rho→Sto→Res α} {k:α→Sto→bN} {ρ:Rho} {σ:St} {D:jG} {T:β→Hp→Prop} (s:Sim K p S H) (e:cL K p H ρ σ) (h:cS K cl p H (bN.of (m ρ S) k) D E)
  (g:∀ q H' a b S',bC p H q H'→Sim K q S' H'→cL K q H' ρ σ→R q H' a b→cS K cl q H' (k a S') D E→T b H'):tP K cl E R m σ H T:=by
 refine ⟨p,S,ρ,s,e,?_⟩
 cases z:m ρ S with
 | ok a S1 =>
  rw [z] at h
  exact fun q H' b st sm r=>g q H' a b S1 st sm (st.repE e) r (cS.mono (r:=k a S1) h st)
 | exc n S1 =>
  rw [z] at h
  exact h
 | fail =>
  rw [z] at h
  exact h
end
end L2.Pp
namespace L2.Pp
open PySem PySem.Spec PyProof.Rows Bn
abbrev RB:Ph→Hp→Bool→Bool→Prop:=fun _ _ a b=>a=b
abbrev ME:=Rho→Sto→Res AV
abbrev MT:=Rho→Sto→Res Bool
abbrev MA:=Rho→Sto→Res (List AV)
abbrev MS:=Rho→Sto→bN
section
variable (K:PySem.W.Frag) (cl:Str→Addr) (E:XK) (X:Cx)
def PEp (e:Expr) (m:ME):Prop:=X.K=K→PE X e (tP K cl E (bL K) m)
def PTp (e:Expr) (m:MT):Prop:=X.K=K→PT X e (tP K cl E RB m)
def PWp (e:Expr) (m:MT):Prop:=X.K=K→PW X e (tP K cl E RB m)
def PAp (es:List Expr) (m:MA):Prop:=X.K=K→PA X es (tP K cl E (eU K) m)
def PSp (st:Stmt) (m:MS):Prop:=X.K=K→PS X st (tS K cl E m)
def jF (st:List Stmt) (m:MS):Prop:=X.K=K→PSs X st (tS K cl E m)
end
theorem PA.imp {X:Cx} {es:List Expr} {t t':TA} (h:PA X es t) (i:∀ σ H Q,t' σ H Q→t σ H Q):PA X es t':=fun pos pins s σ H Q I q=>h pos pins s σ H Q I (i σ H Q q)
theorem PW.imp {X:Cx} {e:Expr} {t t':TT} (h:PW X e t) (i:∀ σ H Q,t' σ H Q→t σ H Q):PW X e t':=fun wh pins s σ H Q I q=>h wh pins s σ H Q I (i σ H Q q)
def aA (i:Nat):ME:=fun ρ S=>match ρ[i]? with
 | some (some v)=>.ok v S
 | _=>.fail
def mC (v:PV):ME:=fun _ S=>.ok (.pv v) S
def rd (S:Sto):AV→Option PV
 | .pv v=>some v
 | .ref k=>match S[k]? with
  | some (.lst xs)=>some (.lst xs)
  | _=>none
def eN (S:Sto):List AV→Option (List PV)
 | []=>some []
 | a :: r=>match rd S a with
  | some v=>match eN S r with
   | some vs=>some (v :: vs)
   | none=>none
  | none=>none
def okO (o:Option PV) (S:Sto):Res AV:=match o with
 | some r=>.ok (.pv r) S
 | none=>.fail
def nT (f:PV→Option PV) (a:AV) (S:Sto):Res AV:=okO ((rd S a).bind f) S
def iF (f:PV→PV→Option PV) (a b:AV) (S:Sto):Res AV:=okO ((rd S a).bind fun x=>(rd S b).bind fun y=>f x y) S
def mUn (f:PV→Option PV) (ma:ME):ME:=fun ρ S=>(ma ρ S).bind fun x S1=>nT f x S1
def aC (f:PV→PV→Option PV) (ma mb:ME):ME:=fun ρ S=>(ma ρ S).bind fun x S1=>(mb ρ S1).bind fun y S2=>iF f x y S2
def aD:MA:=fun _ S=>.ok [] S
def aB (ma:ME) (mr:MA):MA:=fun ρ S=>(ma ρ S).bind fun x S1=>(mr ρ S1).bind fun xs S2=>.ok (x :: xs) S2
def iP:List AV→Option (List PV)
 | []=>some []
 | .pv v :: r=>match iP r with
  | some vs=>some (v :: vs)
  | none=>none
 | .ref _ :: _=>none
def vY (f:List PV→Option PV) (xs:List AV) (S:Sto):Res AV:=okO ((iP xs).bind f) S
def jS (f:List PV→Option PV) (xs:List AV) (S:Sto):Res AV:=okO ((eN S xs).bind f) S
def mR (f:List PV→Option PV) (ma:MA):ME:=fun ρ S=>(ma ρ S).bind fun xs S1=>jS f xs S1
def mN (f:List PV→Option PV) (ma:MA):ME:=fun ρ S=>(ma ρ S).bind fun xs S1=>vY f xs S1
def dH (vs:List PV):Option PV:=if vs.length≤16777216 then some (.tup vs) else none
def cA (vs:List PV):Option PV:=if vs.length≤16777216 then some (.lst vs) else none
def tst:AV→Sto→Res Bool
 | .pv (.bl b),S=>.ok b S
 | _,_=>.fail
def bK (m:ME):MT:=fun ρ S=>(m ρ S).bind tst
def ah0 (m:MT):MT:=fun ρ S=>(m ρ S).bind fun b S1=>.ok (!b) S1
def kS (m n:MT):MT:=fun ρ S=>(m ρ S).bind fun b S1=>if b=true then n ρ S1 else .ok false S1
def mOr (m n:MT):MT:=fun ρ S=>(m ρ S).bind fun b S1=>if b=true then .ok true S1 else n ρ S1
def agM (m n:ME):ME:=fun ρ S=>(m ρ S).bind fun x S1=>match x with
 | .pv (.bl true)=>n ρ S1
 | .pv (.bl false)=>.ok (.pv (.bl false)) S1
 | _=>.fail
def nV (m n:ME):ME:=fun ρ S=>(m ρ S).bind fun x S1=>match x with
 | .pv (.bl false)=>n ρ S1
 | .pv (.bl true)=>.ok (.pv (.bl true)) S1
 | _=>.fail
def mI:PV→Option PV
 | .bl b=>some (.bl (!b))
 | _=>none
def mIf (c:MT) (a b:ME):ME:=fun ρ S=>(c ρ S).bind fun t S1=>if t=true then a ρ S1 else b ρ S1
section
variable {K:PySem.W.Frag} {cl:Str→Addr} {E:XK} {X:Cx} {a b c e:Expr} {es:List Expr} {ma mb mc m:ME} {mt nt:MT} {ms:MA} {pos:Pos}
theorem aE (i:Nat) {x:Str} (hN:X.N[i]?=some x:=by rfl) (hv:Vis X.env.scope x:=by first | exact Or.inl rfl | exact Or.inr (Or.inl rfl) | exact Or.inr (Or.inr rfl)) (hd:(x == ("__debug__":Str))=false:=by decide)
  (hcd:(x == ("__classdict__":Str))=false:=by decide):PEp K cl E X (.Name x pos) (aA i):=fun _=>(adr hN hv hd hcd).imp fun σ H Q ⟨p,S,ρ,s,e,h⟩=>by
 unfold aA at h
 cases z:ρ[i]? with
 | none=>rw [z] at h; exact h.elim
 | some o =>
  cases o with
  | none=>rw [z] at h; exact h.elim
  | some v =>
   rw [z] at h
   obtain ⟨x,e1,e2⟩:=e.at_ i v z
   exact ⟨x,e1,bI.ret h s e2⟩
theorem aG {i:Int} {j}:PEp K cl E X (.Constant (.int i) j pos) (mC (.int i)):=fun _=>af7.imp fun σ H Q ⟨p,S,ρ,s,e,h⟩=>bI.ret (R:=bL K) (x:=.int i) h s (by show Rep K p.c H (.int i) (.int i); unfold Rep; rfl)
theorem kO {i:Bool} {j}:PEp K cl E X (.Constant (.bool i) j pos) (mC (.bl i)):=fun _=>ahp.imp fun σ H Q ⟨p,S,ρ,s,e,h⟩=>bI.ret (R:=bL K) (x:=.bl i) h s (by show Rep K p.c H (.bl i) (.bl i); unfold Rep; rfl)
def dL (K:PySem.W.Frag) (p:Ph) (H:Hp) (v:PV) (x:V):Prop:=Rep K p.c H v x∨∃ xs a vs,v=.lst xs∧x=.ref a∧H a=some (.lst vs)∧vs.length≤sizeLine∧aJ K p.c H xs vs
theorem dL.int {p:Ph} {H:Hp} {i:Int} {x:V} (h:dL K p H (.int i) x):x=.int i:=by
 rcases h with h | ⟨_,_,_,e,_⟩
 ·unfold Rep at h; exact h
 ·cases e
theorem dL.bl {p:Ph} {H:Hp} {i:Bool} {x:V} (h:dL K p H (.bl i) x):x=.bl i:=by
 rcases h with h | ⟨_,_,_,e,_⟩
 ·unfold Rep at h; exact h
 ·cases e
theorem dL.str {p:Ph} {H:Hp} {i:Str} {x:V} (h:dL K p H (.str i) x):x=.str i:=by
 rcases h with h | ⟨_,_,_,e,_⟩
 ·unfold Rep at h; exact h
 ·cases e
theorem dL.non {p:Ph} {H:Hp} {x:V} (h:dL K p H .non x):x=.non:=by
 rcases h with h | ⟨_,_,_,e,_⟩
 ·unfold Rep at h; exact h
 ·cases e
theorem dL.tup {p:Ph} {H:Hp} {xs:List PV} {x:V} (h:dL K p H (.tup xs) x):∃ a vs,x=.ref a∧SqT K H a vs∧vs.length≤sizeLine∧aJ K p.c H xs vs:=by
 rcases h with h | ⟨_,_,_,e,_⟩
 ·unfold Rep at h; exact h
 ·cases e
theorem dL.lst {p:Ph} {H:Hp} {xs:List PV} {x:V} (h:dL K p H (.lst xs) x):∃ a vs,x=.ref a∧SqL K H a vs∧vs.length≤sizeLine∧aJ K p.c H xs vs:=by
 rcases h with h | ⟨ys,a,vs,e,e2,h,z,r⟩
 ·unfold Rep at h
  obtain ⟨a,vs,e,l,z,r⟩:=h
  exact ⟨a,vs,e,l.sq,z,r⟩
 ·cases e
  exact ⟨a,vs,e2,SqL.of h,z,r⟩
theorem kL {p:Ph} {S:Sto} {H:Hp} {a:AV} {v:PV} {x:V} (s:Sim K p S H) (r:bL K p H a x) (e:rd S a=some v):dL K p H v x:=by
 cases a with
 | pv u=>cases e; exact .inl r
 | ref k =>
  obtain ⟨a,e1,rfl⟩:=r
  unfold rd at e
  cases z:S[k]? with
  | none=>simp only [z] at e; cases e
  | some o =>
   cases o with
   | lst xs =>
    simp only [z] at e
    cases e
    obtain ⟨vs,h,l,r⟩:=s.obj k a _ e1 z
    exact .inr ⟨xs,a,vs,rfl,rfl,h,l,r⟩
   | lol _=>simp only [z] at e; cases e
   | dic _ _=>simp only [z] at e; cases e
   | dol _ _=>simp only [z] at e; cases e
abbrev wE (K:PySem.W.Frag) (p:Ph) (H:Hp):List PV→List V→Prop:=Paired (dL K p H)
theorem oQ {p:Ph} {S:Sto} {H:Hp} (s:Sim K p S H):∀ {as:List AV} {vs:List PV} {xs:List V},eU K p H as xs→eN S as=some vs→wE K p H vs xs
 | [],vs,_,.nil,e=>by
  cases e
  exact .nil
 | a :: r,vs,_,.cons h t,e=>by
  unfold eN at e
  cases z:rd S a with
  | none=>simp only [z] at e; cases e
  | some v =>
   simp only [z] at e
   cases y:eN S r with
   | none=>simp only [y] at e; cases e
   | some us =>
    simp only [y] at e
    cases e
    exact .cons (kL s h z) (oQ s t y)
def OpS (K:PySem.W.Frag) (r:R2) (f:PV→PV→Option PV):Prop:=∀ {p:Ph} {S:Sto} {H:Hp} {a b c:PV} {x y:V} {Q:VK},Sim K p S H→dL K p H a x→dL K p H b y→f a b=some c →
 (∀ H' z,cK H H'→Rep K p.c H' c z→Q z H')→r x y H Q
def UnS (K:PySem.W.Frag) (r:V→Hp→VK→Prop) (f:PV→Option PV):Prop:=∀ {p:Ph} {S:Sto} {H:Hp} {a c:PV} {x:V} {Q:VK},Sim K p S H→dL K p H a x→f a=some c →
 (∀ H' z,cK H H'→Rep K p.c H' c z→Q z H')→r x H Q
def CaS (K:PySem.W.Frag) (r:List V→Hp→VK→Prop) (f:List PV→Option PV):Prop:=∀ {p:Ph} {S:Sto} {H:Hp} {as:List PV} {c:PV} {xs:List V} {Q:VK},Sim K p S H→aJ K p.c H as xs→f as=some c →
 (∀ H' z,cK H H'→Rep K p.c H' c z→Q z H')→r xs H Q
def CaR (K:PySem.W.Frag) (r:List V→Hp→VK→Prop) (f:List PV→Option PV):Prop:=∀ {p:Ph} {S:Sto} {H:Hp} {as:List PV} {c:PV} {xs:List V} {Q:VK},Sim K p S H→wE K p H as xs→f as=some c →
 (∀ H' z,cK H H'→Rep K p.c H' c z→Q z H')→r xs H Q
theorem mZ {p:Ph} {S:Sto} {H:Hp} {o:Option PV} {Q:VK} (s:Sim K p S H) (h:bI K cl (bL K) p H (okO o S) Q E):∃ c,o=some c∧∀ H' z,cK H H'→Rep K p.c H' c z→Q z H':=by
 cases o with
 | none=>exact h.elim
 | some c=>exact ⟨c,rfl,fun H' z sm rz=>bI.same (R:=bL K) h s sm rz⟩
theorem oO {r:R2} {f:PV→PV→Option PV} (hf:OpS K r f) {p:Ph} {S:Sto} {H:Hp} {a b:AV} {x y:V} {Q:VK} (s:Sim K p S H) (ra:bL K p H a x) (rb:bL K p H b y) (h:bI K cl (bL K) p H (iF f a b S) Q E):r x y H Q:=by
 obtain ⟨c,e,k⟩:=mZ s h
 cases z:rd S a with
 | none=>rw [z] at e; cases e
 | some v =>
  cases y:rd S b with
  | none=>rw [z,y] at e; cases e
  | some w =>
   rw [z,y] at e
   exact hf s (kL s ra z) (kL s rb y) e k
theorem yR {r:V→Hp→VK→Prop} {f:PV→Option PV} (hf:UnS K r f) {p:Ph} {S:Sto} {H:Hp} {a:AV} {x:V} {Q:VK} (s:Sim K p S H) (ra:bL K p H a x) (h:bI K cl (bL K) p H (nT f a S) Q E):r x H Q:=by
 obtain ⟨c,e,k⟩:=mZ s h
 cases z:rd S a with
 | none=>rw [z] at e; cases e
 | some v =>
  rw [z] at e
  exact hf s (kL s ra z) e k
theorem yU {r:List V→Hp→VK→Prop} {f:List PV→Option PV} (hf:CaR K r f) {p:Ph} {S:Sto} {H:Hp} {as:List AV} {xs:List V} {Q:VK} (s:Sim K p S H) (ra:eU K p H as xs) (h:bI K cl (bL K) p H (jS f as S) Q E):r xs H Q:=by
 obtain ⟨c,e,k⟩:=mZ s h
 cases z:eN S as with
 | none=>rw [z] at e; cases e
 | some v =>
  rw [z] at e
  exact hf s (oQ s ra z) e k
theorem rR {p:Ph} {H:Hp}:∀ {as:List AV} {vs:List PV} {xs:List V},iP as=some vs→eU K p H as xs→aJ K p.c H vs xs
 | [],vs,_,e,.nil=>by
  cases e
  exact .nil
 | .pv v :: r,vs,_,e,.cons h t=>by
  unfold iP at e
  cases z:iP r with
  | none=>simp only [z] at e; cases e
  | some us =>
   simp only [z] at e
   cases e
   exact .cons h (rR z t)
 | .ref k :: r,vs,_,e,.cons h t=>by
  cases e
theorem yT {r:List V→Hp→VK→Prop} {f:List PV→Option PV} (hf:CaS K r f) {p:Ph} {S:Sto} {H:Hp} {as:List AV} {xs:List V} {Q:VK} (s:Sim K p S H) (ra:eU K p H as xs) (h:bI K cl (bL K) p H (vY f as S) Q E):r xs H Q:=by
 obtain ⟨c,e,k⟩:=mZ s h
 cases z:iP as with
 | none=>rw [z] at e; cases e
 | some v =>
  rw [z] at e
  exact hf s (rR z ra) e k
theorem aP {op:Operator} {r:R2} {f:PV→PV→Option PV} (ho:OpR X (binaryOp op) r) (hf:OpS X.K r f) (ha:PEp K cl E X a ma) (hb:PEp K cl E X b mb):PEp K cl E X (.BinOp a op b pos) (aC f ma mb):=by
 intro hK
 subst hK
 refine (afz ho (ha rfl) (hb rfl)).imp fun σ H Q ⟨p,S,ρ,s,e,h⟩=>?_
 exact bR s e h fun q H1 a x S1 st s1 e1 r1 h1=>bR s1 e1 h1 fun q2 H2 b y S2 st2 s2 e2 r2 h2=>oO hf s2 (st2.repA r1) r2 h2
theorem eT {op:UnaryOp} {r:V→Hp→VK→Prop} {f:PV→Option PV} (ho:UnR X (unaryOp op) r) (hf:UnS X.K r f) (ha:PEp K cl E X a ma):PEp K cl E X (.UnaryOp op a pos) (mUn f ma):=by
 intro hK
 subst hK
 refine (agY ho (ha rfl)).imp fun σ H Q ⟨p,S,ρ,s,e,h⟩=>?_
 exact bR s e h fun q H1 a x S1 st s1 e1 r1 h1=>yR hf s1 r1 h1
theorem nB {op:CmpOp} {r:R2} {f:PV→PV→Option PV} (ho:OpR X (compareOp op) r) (hf:OpS X.K r f) (ha:PEp K cl E X a ma) (hb:PEp K cl E X b mb) (hm:behindInMarks op b=false):PEp K cl E X (.Compare a [op] [b] pos) (aC f ma mb):=by
 intro hK
 subst hK
 refine (aes ho (ha rfl) (hb rfl) hm).imp fun σ H Q ⟨p,S,ρ,s,e,h⟩=>?_
 exact bR s e h fun q H1 a x S1 st s1 e1 r1 h1=>bR s1 e1 h1 fun q2 H2 b y S2 st2 s2 e2 r2 h2=>oO hf s2 (st2.repA r1) r2 h2
theorem afc {p:Ph} {H:Hp} {v:AV} {x:V} (r:bL K p H v x) {b:Bool} (e:v=.pv (.bl b)):x=.bl b:=by
 subst e
 unfold bL Rep at r
 exact r
theorem acQ {p:Ph} {S:Sto} {H:Hp} {v:AV} {x:V} {Q:Bool→Hp→Prop} (s:Sim K p S H) (r:bL K p H v x)
  (h:bI K cl RB p H (tst v S) Q E):∃ k,x=.bl k∧Q k H:=by
 cases v with
 | ref k=>exact h.elim
 | pv v =>
  cases v with
  | bl b=>exact ⟨b,afc r rfl,bI.ret (R:=RB) h s rfl⟩
  | _=>exact h.elim
theorem dE {op:CmpOp} {r:R2} {f:PV→PV→Option PV} (ho:OpR X (compareOp op) r) (hf:OpS X.K r f) (ha:PEp K cl E X a ma) (hb:PEp K cl E X b mb) (hm:behindInMarks op b=false):PTp K cl E X (.Compare a [op] [b] pos) (bK (aC f ma mb)):=by
 intro hK
 subst hK
 refine (aeO ho (ha rfl) (hb rfl) hm).imp fun σ H Q ⟨p,S,ρ,s,e,h⟩=>?_
 have z:tP X.K cl E (bL X.K) (aC f ma mb) σ H fun x H'=>∃ k,x=.bl k∧Q k H':=bR s e h fun q H1 a x S1 st s1 e1 r1 h1=>acQ s1 r1 h1
 obtain ⟨p',S',ρ',s',e',h'⟩:=z
 exact bR s' e' h' fun q H1 a x S1 st s1 e1 r1 h1=>bR s1 e1 h1 fun q2 H2 b y S2 st2 s2 e2 r2 h2=>oO hf s2 (st2.repA r1) r2 h2
theorem adl (ha:PTp K cl E X a mt):PWp K cl E X (.BoolOp .And [a] pos) mt:=fun hK=>aeX (ha hK)
theorem acl (ha:PTp K cl E X a mt):PWp K cl E X (.BoolOp .Or [a] pos) mt:=fun hK=>afi (ha hK)
theorem PWp.pt (h:PWp K cl E X a mt):PTp K cl E X a mt:=fun hK=>PW.pt (h hK)
theorem aep {dX:List Expr} (ha:PTp K cl E X a mt) (hb:PWp K cl E X (.BoolOp .And (b :: dX) pos) nt):PWp K cl E X (.BoolOp .And (a :: b :: dX) pos) (kS mt nt):=by
 intro hK
 subst hK
 refine PW.imp (agw (ha rfl) (hb rfl)) fun σ H Q ⟨p,S,ρ,s,e,h⟩=>?_
 refine bR s e h fun q H1 a x S1 st s1 e1 r1 h1=>?_
 cases r1
 cases a with
 | true=>exact ⟨q,S1,ρ,s1,e1,h1⟩
 | false=>exact bI.ret (R:=RB) h1 s1 rfl
theorem adu {dX:List Expr} (ha:PTp K cl E X a mt) (hb:PWp K cl E X (.BoolOp .Or (b :: dX) pos) nt):PWp K cl E X (.BoolOp .Or (a :: b :: dX) pos) (mOr mt nt):=by
 intro hK
 subst hK
 refine PW.imp (ag7 (ha rfl) (hb rfl)) fun σ H Q ⟨p,S,ρ,s,e,h⟩=>?_
 refine bR s e h fun q H1 a x S1 st s1 e1 r1 h1=>?_
 cases r1
 cases a with
 | true=>exact bI.ret (R:=RB) h1 s1 rfl
 | false=>exact ⟨q,S1,ρ,s1,e1,h1⟩
theorem afA {op} (h:PEp K cl E X a ma):PEp K cl E X (.BoolOp op [a] pos) ma:=fun hK=>agi (h hK)
theorem ahy {dX:List Expr} (ha:PEp K cl E X a ma) (hb:PEp K cl E X (.BoolOp .Or (b :: dX) pos) mb):PEp K cl E X (.BoolOp .Or (a :: b :: dX) pos) (nV ma mb):=by
 intro hK
 subst hK
 refine (ag0 (ha rfl) (hb rfl)).imp fun σ H Q ⟨p,S,ρ,s,e,h⟩=>?_
 refine bR s e h fun q H1 a x S1 st s1 e1 r1 h1=>?_
 cases a with
 | ref k=>exact h1.elim
 | pv v =>
  cases v with
  | bl b =>
   refine ⟨b,afc r1 rfl,?_⟩
   cases b with
   | true=>exact bI.ret (R:=bL X.K) h1 s1 (by show Rep X.K q.c H1 _ _; unfold Rep; rfl)
   | false=>exact ⟨q,S1,ρ,s1,e1,h1⟩
  | _=>exact h1.elim
theorem agy (ha:PEp K cl E X a ma):PEp K cl E X (.UnaryOp .Not a pos) (mUn mI ma):=by
 intro hK
 subst hK
 refine (afw (ha rfl)).imp fun σ H Q ⟨p,S,ρ,s,e,h⟩=>?_
 refine bR s e h fun q H1 a x S1 st s1 e1 r1 h1=>?_
 refine yR (r:=fun x H Q=>∃ c,x=.bl c∧Q (.bl (!c)) H) (f:=mI) (fun {p S H a c x Q} s r e k=>?_) s1 r1 h1
 cases a with
 | bl b =>
  cases e
  exact ⟨b,r.bl,k H _ (cK.refl H) (by unfold Rep; rfl)⟩
 | _=>cases e
theorem ahs (hc:PTp K cl E X c mt) (ha:PEp K cl E X a ma) (hb:PEp K cl E X b mb):PEp K cl E X (.IfExp c a b pos) (mIf mt ma mb):=by
 intro hK
 subst hK
 refine (acs (hc rfl) (ha rfl) (hb rfl)).imp fun σ H Q ⟨p,S,ρ,s,e,h⟩=>?_
 refine bR s e h fun q H1 a x S1 st s1 e1 r1 h1=>?_
 cases r1
 cases a with
 | true=>exact ⟨q,S1,ρ,s1,e1,h1⟩
 | false=>exact ⟨q,S1,ρ,s1,e1,h1⟩
theorem aH:PAp K cl E X [] aD:=fun _=>(PA.imp adz fun σ H Q ⟨p,S,ρ,s,e,h⟩=>bI.ret (R:=eU K) h s .nil)
theorem aF (ha:PEp K cl E X e m) (hr:PAp K cl E X es ms) (hs:starEach (e :: es) X.env=(false,eval e X.env) :: starEach es X.env:=by rfl):PAp K cl E X (e :: es) (aB m ms):=by
 intro hK
 subst hK
 refine PA.imp (abB (ha rfl) (hr rfl) hs) fun σ H Q ⟨p,S,ρ,s,e,h⟩=>?_
 exact bR s e h fun q H1 a x S1 st s1 e1 r1 h1=>bR s1 e1 h1 fun q2 H2 b y S2 st2 s2 e2 r2 h2=>bI.ret (R:=eU X.K) h2 s2 (.cons (st2.repA r1) r2)
theorem lN {p:Ph} {S:Sto} {H:Hp} {vs:List PV} {xs:List V} {t:Addr} (s:Sim K p S H) (r:aJ K p.c H vs xs) (z:xs.length≤sizeLine) (ht:H t=none):Rep K p.c (upd H t (.tup xs)) (.tup vs) (.ref t):=by
 unfold Rep
 exact ⟨t,xs,rfl,SqT.of eL,z,(s.same (eW ht)).reps r⟩
theorem kF {p:Ph} {S:Sto} {H:Hp} {vs:List PV} {xs:List V} {t:Addr} (s:Sim K p S H) (r:aJ K p.c H vs xs) (z:xs.length≤sizeLine) (ht:H t=none):Rep K p.c (upd H t (.lst xs)) (.lst vs) (.ref t):=by
 unfold Rep
 refine ⟨t,xs,rfl,.inl ⟨eL,fun c=>?_⟩,z,(s.same (eW ht)).reps r⟩
 obtain ⟨o,e,_⟩:=s.mu t c
 rw [ht] at e
 cases e
theorem gH:sizeLine=16777216:=sizeLine_eq
theorem gR {x1} (h:PAp K cl E X es ms):PEp K cl E X (.Tuple es x1 pos) (mN dH ms):=by
 intro hK
 subst hK
 refine (aft (h rfl)).imp fun σ H Q ⟨p,S,ρ,s,e,h⟩=>?_
 refine bR s e h fun q H1 as xs S1 st s1 e1 r1 h1=>?_
 refine yT (r:=fun xs H Q=>xs.length≤sizeLine∧∀ t,H t=none→Q (.ref t) (upd H t (.tup xs))) (f:=dH) (fun {p S H as c xs Q} s r e k=>?_) s1 r1 h1
 unfold dH at e
 split at e
 ·rename_i hl
  cases e
  rw [r.length,← gH] at hl
  exact ⟨hl,fun t ht=>k _ _ (eW ht) (lN s r hl ht)⟩
 ·cases e
theorem dS (h:PAp K cl E X es ms):PEp K cl E X (.List es pos) (mN cA ms):=by
 intro hK
 subst hK
 refine (adI (h rfl)).imp fun σ H Q ⟨p,S,ρ,s,e,h⟩=>?_
 refine bR s e h fun q H1 as xs S1 st s1 e1 r1 h1=>?_
 refine yT (r:=fun xs H Q=>xs.length≤sizeLine∧∀ t,H t=none→Q (.ref t) (upd H t (.lst xs))) (f:=cA) (fun {p S H as c xs Q} s r e k=>?_) s1 r1 h1
 unfold cA at e
 split at e
 ·rename_i hl
  cases e
  rw [r.length,← gH] at hl
  exact ⟨hl,fun t ht=>k _ _ (eW ht) (kF s r hl ht)⟩
 ·cases e
end
end L2.Pp
namespace L2.Pp
noncomputable section
open PySem PySem.Spec PyProof.Rows Bn
def dA:MS:=fun ρ S=>.nx ρ S
def aK (a b:MS):MS:=fun ρ S=>match a ρ S with
 | .nx ρ1 S1=>b ρ1 S1
 | r=>r
def eB (m:ME):MS:=fun ρ S=>bN.of (m ρ S) fun _ S1=>.nx ρ S1
def bP (m:ME):MS:=fun ρ S=>bN.of (m ρ S) fun v S1=>.rt v S1
def ahi:MS:=fun _ S=>.rt (.pv .non) S
def sIf (c:MT) (a b:MS):MS:=fun ρ S=>bN.of (c ρ S) fun t S1=>if t=true then a ρ S1 else b ρ S1
def aM (i:Nat) (m:ME):MS:=fun ρ S=>bN.of (m ρ S) fun v S1=>.nx (ρ.set i (some v)) S1
def qV (i j:Nat) (m:MA):MS:=fun ρ S=>bN.of (m ρ S) fun vs S1=>match vs with
 | [v,w]=>.nx ((ρ.set i (some v)).set j (some w)) S1
 | _=>.fail
abbrev GM:=PV→Rho→Option Rho
abbrev GMs:=List PV→Rho→Option Rho
def gN (i:Nat):GM:=fun v ρ=>some (ρ.set i (some (.pv v)))
def dD:GMs:=fun vs ρ=>match vs with
 | []=>some ρ
 | _=>none
def bT (g:GM) (gs:GMs):GMs:=fun vs ρ=>match vs with
 | []=>none
 | v :: r=>match g v ρ with
  | some ρ1=>gs r ρ1
  | none=>none
def gT (n:Nat) (gs:GMs):GM:=fun v ρ=>match v with
 | .tup vs=>if vs.length=n then gs vs ρ else none
 | _=>none
def kR (g:GM) (m:ME):MS:=fun ρ S=>bN.of (m ρ S) fun v S1=>match v with
 | .pv v=>match g v ρ with
  | some ρ1=>.nx ρ1 S1
  | none=>.fail
 | _=>.fail
abbrev Gd:=List (Nat × List PV)
def gOk (G:Gd) (S:Sto):Prop:=∀ g∈G,S[g.1]?=some (.lst g.2)
theorem lI (S:Sto):gOk [] S:=fun _ h=>nomatch h
abbrev MI:=Rho→Sto→Res (List PV × Gd)
open Classical in
def bZ (G:Gd) (g:GM) (mb:MS):List PV→Rho→Sto→bN
 | [],ρ,S=>if gOk G S then .nx ρ S else .fail
 | x :: r,ρ,S=>if gOk G S then (match g x ρ with
  | none=>.fail
  | some ρ1=>match mb ρ1 S with
   | .nx ρ2 S2=>bZ G g mb r ρ2 S2
   | .ct ρ2 S2=>bZ G g mb r ρ2 S2
   | .bk ρ2 S2=>.nx ρ2 S2
   | .rt v S2=>.rt v S2
   | .exc n S2=>.exc n S2
   | .fail=>.fail) else .fail
def bU (mi:MI) (g:GM) (mb:MS):MS:=fun ρ S=>bN.of (mi ρ S) fun xs S1=>bZ xs.2 g mb xs.1 ρ S1
theorem eO {g:GM} {mb:MS} {ρ:Rho} {S:Sto}:bZ [] g mb [] ρ S=.nx ρ S:=by
 unfold bZ
 rw [if_pos (lI S)]
theorem eJ {g:GM} {mb:MS} {x:PV} {r:List PV} {ρ:Rho} {S:Sto}:bZ [] g mb (x :: r) ρ S=(match g x ρ with
  | none=>.fail
  | some ρ1=>match mb ρ1 S with
   | .nx ρ2 S2=>bZ [] g mb r ρ2 S2
   | .ct ρ2 S2=>bZ [] g mb r ρ2 S2
   | .bk ρ2 S2=>.nx ρ2 S2
   | .rt v S2=>.rt v S2
   | .exc n S2=>.exc n S2
   | .fail=>.fail):=by
 rw [bZ,if_pos (lI S)]
def cM (c:MT) (mb:MS):Nat→Rho→Sto→bN
 | 0,_,_=>.fail
 | n+1,ρ,S=>bN.of (c ρ S) fun t S1=>if t=true then (match mb ρ S1 with
   | .nx ρ2 S2=>cM c mb n ρ2 S2
   | .ct ρ2 S2=>cM c mb n ρ2 S2
   | .bk ρ2 S2=>.nx ρ2 S2
   | .rt v S2=>.rt v S2
   | .exc n S2=>.exc n S2
   | .fail=>.fail) else .nx ρ S1
open Classical in
def kI (c:MT) (mb:MS):MS:=fun ρ S=>if h:∃ n,cM c mb n ρ S≠.fail then cM c mb h.choose ρ S else .fail
theorem bN.of_ok {α:Type} {r:Res α} {k k':α→Sto→bN} (h:∀ a S,k a S≠.fail→k' a S=k a S) (n:bN.of r k≠.fail):bN.of r k'=bN.of r k:=by
 cases r with
 | ok a S=>exact h a S n
 | exc=>rfl
 | fail=>rfl
theorem rK {c:MT} {mb:MS}:∀ {n:Nat} {ρ:Rho} {S:Sto},cM c mb n ρ S≠.fail→cM c mb (n+1) ρ S=cM c mb n ρ S
 | 0,_,_,h=>absurd rfl h
 | n+1,ρ,S,h=>by
  unfold cM at h
  rw [cM]
  conv=>rhs; rw [cM]
  refine bN.of_ok (fun t S1 h1=>?_) h
  by_cases ht:t=true
  ·simp only [if_pos ht] at h1 ⊢
   cases z:mb ρ S1 with
   | nx ρ2 S2=>rw [z] at h1; exact rK h1
   | ct ρ2 S2=>rw [z] at h1; exact rK h1
   | _=>rfl
  ·simp only [if_neg ht] at h1 ⊢
theorem rN {c:MT} {mb:MS} {n:Nat} {ρ:Rho} {S:Sto} (h:cM c mb n ρ S≠.fail):∀ k,cM c mb (n+k) ρ S=cM c mb n ρ S
 | 0=>rfl
 | k+1=>by
  have ih:=rN h k
  rw [← Nat.add_assoc,rK (by rw [ih]; exact h),ih]
theorem rX {c:MT} {mb:MS} {n:Nat} {ρ:Rho} {S:Sto} {r:bN} (e:cM c mb n ρ S=r) (h:r≠.fail):kI c mb ρ S=r:=by
 have h':∃ n,cM c mb n ρ S≠.fail:=⟨n,by rw [e]; exact h⟩
 unfold kI
 rw [dif_pos h']
 have e2:=h'.choose_spec
 rcases Nat.le_total n h'.choose with l | l
 ·obtain ⟨k,q⟩:=Nat.exists_eq_add_of_le l
  rw [q,rN (by rw [e]; exact h),e]
 ·obtain ⟨k,q⟩:=Nat.exists_eq_add_of_le l
  have z:=rN e2 k
  rw [← q,e] at z
  exact z.symm
section
variable {K:PySem.W.Frag} {cl:Str→Addr} {E:XK} {X:Cx} {a b c e tg:Expr} {es:List Expr} {m:ME} {mt:MT} {ms:MA} {b1 b2:MS} {st:Stmt} {sts sts':List Stmt} {pos:Pos}
theorem cL.set {p:Ph} {H:Hp} {ρ:Rho} {σ:St} {v:AV} {x:V} (h:cL K p H ρ σ) (r:bL K p H v x) (i:Nat):cL K p H (ρ.set i (some v)) (σ.set i (some x)):=by
 refine ⟨by rw [List.length_set,List.length_set,h.len],fun j u e=>?_⟩
 by_cases q:i=j
 ·subst q
  by_cases l:i < ρ.length
  ·rw [List.getElem?_set_self l] at e
   cases e
   exact ⟨x,List.getElem?_set_self (by rw [← h.len]; exact l),r⟩
  ·rw [List.getElem?_eq_none (by rw [List.length_set]; omega)] at e
   cases e
 ·rw [List.getElem?_set_ne q] at e ⊢
  exact h.at_ j u e
theorem fF:jF K cl E X [] dA:=fun _=>PSs.imp aew fun D σ H ⟨p,S,ρ,s,e,h⟩=>h p H σ s.step s e
theorem cS.nxD {p:Ph} {H:Hp} {ρ:Rho} {S:Sto} {D:jG} (h:cS K cl p H (.nx ρ S) D E) {σ:St} (s:Sim K p S H) (e:cL K p H ρ σ):D.nx σ H:=h p H σ s.step s e
theorem bA (h1:PSp K cl E X st b1) (h2:jF K cl E X sts b2):jF K cl E X (st :: sts) (aK b1 b2):=by
 intro hK
 subst hK
 refine PSs.imp (ac5 (h1 rfl) (h2 rfl)) fun D σ H ⟨p,S,ρ,s,e,h⟩=>⟨p,S,ρ,s,e,?_⟩
 unfold aK at h
 cases z:b1 ρ S with
 | nx ρ1 S1 =>
  rw [z] at h
  exact fun q H' σ' stp sm ev=>⟨q,S1,ρ1,sm,ev,cS.mono (r:=b2 ρ1 S1) h stp⟩
 | bk ρ1 S1=>rw [z] at h; exact h
 | ct ρ1 S1=>rw [z] at h; exact h
 | rt v S1=>rw [z] at h; exact h
 | exc n S1=>rw [z] at h; exact h
 | fail=>rw [z] at h; exact h
theorem bG (h1:PSp K cl E X st b1):jF K cl E X [st] b1:=fun hK=>ae5 (h1 hK)
theorem jK (he:PEp K cl E X e m) (hs:swapsWith e none pos.line X.env=pure false:=by rfl):PSp K cl E X (.Expr e pos) (eB m):=by
 intro hK
 subst hK
 refine PS.imp (aem (he rfl) hs) fun D σ H ⟨p,S,ρ,s,e,h⟩=>?_
 exact fT s e h fun q H' a b S' stp sm ev r k=>cS.nxD k sm ev
theorem cB (he:PEp K cl E X e m):PSp K cl E X (.Return (some e) pos) (bP m):=by
 intro hK
 subst hK
 refine PS.imp (afU (he rfl)) fun D σ H ⟨p,S,ρ,s,e,h⟩=>?_
 exact fT s e h fun q H' a b S' stp sm ev r k=>k q H' b sm.step sm r
theorem eR (hc:PTp K cl E X c mt) (ha:jF K cl E X sts b1) (hb:jF K cl E X sts' b2):PSp K cl E X (.If c sts sts' pos) (sIf mt b1 b2):=by
 intro hK
 subst hK
 refine PS.imp (agU (hc rfl) (ha rfl) (hb rfl)) fun D σ H ⟨p,S,ρ,s,e,h⟩=>?_
 refine fT s e h fun q H' a b S' stp sm ev r k=>?_
 cases r
 cases a with
 | true=>exact ⟨q,S',ρ,sm,ev,k⟩
 | false=>exact ⟨q,S',ρ,sm,ev,k⟩
theorem bO {i:Nat} {x:Str} {pos':Pos} (hN:X.N.Nodup) (hi:X.N[i]?=some x) (hx:Loc X.env.scope x) (he:PEp K cl E X e m) (hs:swapsWith e (some (.Name x pos')) pos.line X.env=pure false:=by rfl)
  (hf:X.fn x=true∨X.env.scope.names.lookup x=some .local:=by first | exact .inl rfl | exact .inr rfl | assumption):PSp K cl E X (.Assign [.Name x pos'] e pos) (aM i m):=by
 intro hK
 subst hK
 refine PS.imp (afa hN hi hx (he rfl) hs hf) fun D σ H ⟨p,S,ρ,s,e,h⟩=>?_
 exact fT s e h fun q H' a b S' stp sm ev r k=>cS.nxD k sm (ev.set r i)
theorem ae8 {i j:Nat} {x y:Str} {px py pt:Pos} {kt k2 pt2} (hc:X.calm=true) (hN:X.N.Nodup) (hi:X.N[i]?=some x) (hj:X.N[j]?=some y) (hij:i≠j)
  (hx:X.env.scope.names.lookup x=some .local) (hy:X.env.scope.names.lookup y=some .local) (ha:PAp K cl E X [a,b] ms)
  (hw:swappedStores [.Tuple [.Name x px,.Name y py] kt pt] (.Tuple [a,b] k2 pt2) X.env=pure (some [x,y]))
  (hs:swapsWithSole [.Tuple [.Name x px,.Name y py] kt pt] (.Tuple [a,b] k2 pt2) pos.line X.env=pure false:=by rfl) :
  PSp K cl E X (.Assign [.Tuple [.Name x px,.Name y py] kt pt] (.Tuple [a,b] k2 pt2) pos) (qV i j ms):=by
 intro hK
 subst hK
 refine PS.imp (ae9 hc hN hi hj hij hx hy (ha rfl) hw hs) fun D σ H ⟨p,S,ρ,s,e,h⟩=>?_
 refine fT s e h fun q H' vs xs S' stp sm ev r k=>?_
 match vs,xs,r with
 | [],_,.nil=>exact k.elim
 | [v],_,.cons _ .nil=>exact k.elim
 | [v,w],_,.cons (b:=x1) r1 (.cons (b:=x2) r2 .nil)=>exact ⟨x1,x2,rfl,cS.nxD k sm ((ev.set r1 i).set r2 j)⟩
 | _ :: _ :: _ :: _,_,.cons _ (.cons _ (.cons _ _))=>exact k.elim
def gP (K:PySem.W.Frag) (g:GM):TG:=fun x σ H Q=>∃ p S ρ v ρ',Sim K p S H∧cL K p H ρ σ∧Rep K p.c H v x∧g v ρ=some ρ'∧∀ σ',cL K p H ρ' σ'→Q σ' H
def gPs (K:PySem.W.Frag) (g:GMs):TGs:=fun xs σ H Q=>∃ p S ρ vs ρ',Sim K p S H∧cL K p H ρ σ∧aJ K p.c H vs xs∧g vs ρ=some ρ'∧∀ σ',cL K p H ρ' σ'→Q σ' H
variable (K X)
def PGp (tg:Expr) (g:GM):Prop:=X.K=K→PG X tg (gP K g)
def qX (ts:List Expr) (g:GMs):Prop:=X.K=K→PGs X ts (gPs K g)
variable {K X}
theorem PG.imp {tg:Expr} {t t':TG} (h:PG X tg t) (i:∀ x σ H Q,t' x σ H Q→t x σ H Q):PG X tg t':=fun pins s σ H v u Q I r q=>h pins s σ H v u Q I r (i v σ H Q q)
theorem PGs.imp {ts:List Expr} {t t':TGs} (h:PGs X ts t) (i:∀ x σ H Q,t' x σ H Q→t x σ H Q):PGs X ts t':=fun pins s σ H v u Q I r q=>h pins s σ H v u Q I r (i v σ H Q q)
theorem bX {i:Nat} {x:Str} (hN:X.N.Nodup) (hi:X.N[i]?=some x) (hx:Loc X.env.scope x) (hf:X.fn x=true∨X.env.scope.names.lookup x=some .local:=by first | exact .inl rfl | exact .inr rfl | assumption):PGp K X (.Name x pos) (gN i) :=
 fun _=>PG.imp (aeh hN hi hx hf) fun x σ H Q ⟨p,S,ρ,v,ρ',s,ev,r,g,k⟩=>by
  cases g
  exact k _ (ev.set (v:=.pv v) r i)
theorem kB:qX K X [] dD:=fun _=>PGs.imp ae4 fun xs σ H Q ⟨p,S,ρ,vs,ρ',s,ev,r,g,k⟩=>by
 cases vs with
 | nil =>
  cases g
  unfold aJ at r
  exact ⟨r,k _ ev⟩
 | cons _ _=>cases g
theorem fR {g:GM} {gs:GMs} (h1:PGp K X e g) (h2:qX K X es gs) (hs:(assignEach (e :: es) X.env).map (·.2)=assign e X.env :: (assignEach es X.env).map (·.2):=by rfl):qX K X (e :: es) (bT g gs):=by
 intro hK
 subst hK
 refine PGs.imp (acW (h1 rfl) (h2 rfl) hs) fun xs σ H Q ⟨p,S,ρ,vs,ρ',s,ev,r,g1,k⟩=>?_
 cases vs with
 | nil=>cases g1
 | cons v vr =>
  unfold aJ at r
  obtain ⟨x,xr,rfl,r1,r2⟩:=r
  unfold bT at g1
  cases z:g v ρ with
  | none=>simp only [z] at g1; cases g1
  | some ρ1 =>
   simp only [z] at g1
   exact ⟨x,xr,rfl,p,S,ρ,v,ρ1,s,ev,r1,z,fun σ' ev'=>⟨p,S,ρ1,vr,ρ',s,ev',r2,g1,k⟩⟩
theorem kD {k:Nat} {gs:GMs} {n:Nat} (hc:X.calm=true) (h:qX K X es gs) (hn:(assignEach es X.env).length=n:=by rfl) (hst:(assignEach es X.env).findIdx? (·.1)=none:=by rfl):PGp K X (.Tuple es k pos) (gT n gs):=by
 intro hK
 subst hK
 refine PG.imp (afY hc (h rfl) hn hst) fun x σ H Q ⟨p,S,ρ,v,ρ',s,ev,r,g1,k⟩=>?_
 cases v with
 | tup vs =>
  unfold Rep at r
  obtain ⟨a,xs,rfl,t,z,r⟩:=r
  unfold gT at g1
  dsimp only at g1
  split at g1
  ·rename_i hl
   exact ⟨a,xs,rfl,t,r.length.symm.trans hl,p,S,ρ,vs,ρ',s,ev,r,g1,k⟩
  ·cases g1
 | _=>cases g1
theorem ad9 {g:GM} (he:PEp K cl E X e m) (hg:PGp K X tg g) (hs:swapsWithSole [tg] e pos.line X.env=pure false:=by rfl) (hw:swappedStores [tg] e X.env=pure none:=by rfl)
  (h1:(assignEach [tg] X.env).map (·.2)=[assign tg X.env]:=by rfl):PSp K cl E X (.Assign [tg] e pos) (kR g m):=by
 intro hK
 subst hK
 refine PS.imp (uF (he rfl) (hg rfl) hs hw h1) fun D σ H ⟨p,S,ρ,s,e,h⟩=>?_
 refine fT s e h fun q H' a b S' stp sm ev r k=>?_
 cases a with
 | ref k'=>exact k.elim
 | pv v =>
  dsimp only at k
  cases z:g v ρ with
  | none=>simp only [z] at k; exact k.elim
  | some ρ1 =>
   simp only [z] at k
   exact ⟨q,S',ρ,v,ρ1,sm,ev,r,z,fun σ' ev'=>cS.nxD k sm ev'⟩
def dM (K:PySem.W.Frag) (p:Ph) (H:Hp) (xs:List PV × Gd) (J:It):Prop:=xs.1.length≤sizeLine∧∀ q H1 S1,bC p H q H1→Sim K q S1 H1→gOk xs.2 S1 →
 (∀ (i:Nat) (v:PV),xs.1[i]?=some v→J.go i H1∧∀ x H2,J.yld i H1 x H2→cK H1 H2∧Rep K q.c H2 v x)∧J.stop xs.1.length H1
theorem dM.step {p q:Ph} {H H':Hp} {xs:List PV × Gd} {J:It} (h:dM K p H xs J) (s:bC p H q H'):dM K q H' xs J:=⟨h.1,fun r H1 S1 t=>h.2 r H1 S1 (s.trans t)⟩
variable (K cl E X)
def PIp (tg iter:Expr) (m:MI):Prop:=X.K=K→PI X tg iter (tP K cl E (dM K) m)
variable {K cl E X}
theorem PI.imp {tg iter:Expr} {t t':TI} (h:PI X tg iter t) (i:∀ σ H Q,t' σ H Q→t σ H Q):PI X tg iter t':=fun pins s σ H R I q=>h pins s σ H R I (i σ H R q)
def aip (K:PySem.W.Frag) (tl:TE):TI:=fun σ H R=>tl σ H fun x H1=>∃ a,x=.ref a∧(((∃ xs,SqL K H1 a xs)∧R (Itl K a) H1)∨((∃ xs,SqT K H1 a xs)∧R (Itt K a) H1))
theorem agk {l:Expr} {tl:TE} (hl:PE X l tl):PI X tg l (aip X.K tl):=by
 intro pins s σ H R I h
 refine thn (hl pins s σ H _ I h) fun v s1 ⟨x,H1,I1,r1,q1⟩=>?_
 obtain ⟨a,e,q⟩:=q1
 subst e
 cases r1
 rcases q with ⟨⟨xs,hq⟩,q⟩ | ⟨⟨xs,hq⟩,q⟩
 ·obtain ⟨its,rv,p,hz⟩:=I1.list hq
  refine wpAny_pyIter_list p.isList ?_
  refine ⟨s1.heap.objs.size,[s1.heap.objs.size],_,_,H1,rfl,I1.kept (t':=s1.toks) fun b o e=>Heap.get?_push_of_some _ e,abk a _,⟨_,Heap.get?_push_size _ rfl,rfl,rfl⟩,fun b hb=>?_,q⟩
  have e:b=s1.heap.objs.size:=by simpa using hb
  subst e
  exact I1.fpOk (Nat.le_refl _) (I1.hok.fresh (Nat.le_refl _))
 ·obtain ⟨its,rv,p,hz⟩:=I1.tuple hq
  refine wpAny_pyIter_tuple (show s1.heap.IsTuple a its.toArray from p) ?_
  refine ⟨s1.heap.objs.size,[s1.heap.objs.size],_,_,H1,rfl,I1.kept (t':=s1.toks) fun b o e=>Heap.get?_push_of_some _ e,aa9 a _,⟨_,Heap.get?_push_size _ rfl,rfl,rfl⟩,fun b hb=>?_,q⟩
  have e:b=s1.heap.objs.size:=by simpa using hb
  subst e
  exact I1.fpOk (Nat.le_refl _) (I1.hok.fresh (Nat.le_refl _))
def cN:AV→Sto→Res (List PV × Gd)
 | .pv (.lst xs),S=>.ok (xs,[]) S
 | .pv (.tup xs),S=>.ok (xs,[]) S
 | .ref k,S=>match S[k]? with
  | some (.lst xs)=>.ok (xs,[(k,xs)]) S
  | _=>.fail
 | _,_=>.fail
def mIt (m:ME):MI:=fun ρ S=>(m ρ S).bind cN
theorem afK {p:Ph} {H:Hp} {xs:List PV} {a:Addr} {vs:List V} (l:LAt K p.c H a vs) (z:vs.length≤sizeLine) (r:aJ K p.c H xs vs):dM K p H (xs,[]) (Itl K a):=by
 refine ⟨by rw [r.length]; exact z,fun q H1 S1 st _ _=>⟨fun i v e=>?_,?_⟩⟩
 ·have l1:=(st.lat l).sq
  obtain ⟨x,e1,r1⟩:=(st.reps r).get e
  refine ⟨⟨vs,x,l1,e1⟩,fun y H2 hy=>?_⟩
  obtain ⟨rfl,hy⟩:=hy
  have:=(hy vs l1).symm.trans e1
  cases this
  exact ⟨cK.refl _,r1⟩
 ·exact ⟨vs,(st.lat l).sq,by rw [r.length]; exact Nat.le_refl _⟩
theorem agu {p:Ph} {H:Hp} {xs:List PV} {a:Addr} {vs:List V} (l:SqT K H a vs) (z:vs.length≤sizeLine) (r:aJ K p.c H xs vs):dM K p H (xs,[]) (Itt K a):=by
 refine ⟨by rw [r.length]; exact z,fun q H1 S1 st _ _=>⟨fun i v e=>?_,?_⟩⟩
 ·have l1:=st.tup l
  obtain ⟨x,e1,r1⟩:=(st.reps r).get e
  refine ⟨⟨vs,x,l1,e1⟩,fun y H2 hy=>?_⟩
  obtain ⟨rfl,hy⟩:=hy
  have:=(hy vs l1).symm.trans e1
  cases this
  exact ⟨cK.refl _,r1⟩
 ·exact ⟨vs,st.tup l,by rw [r.length]; exact Nat.le_refl _⟩
theorem ags {p:Ph} {H:Hp} {xs:List PV} {a:Addr} {k:Nat} {n:xs.length≤sizeLine} (hf:p.f[k]?=some a):dM K p H (xs,[(k,xs)]) (Itl K a):=by
 refine ⟨n,fun q H1 S1 st sm g=>?_⟩
 have e0:S1[k]?=some (.lst xs):=g (k,xs) List.mem_cons_self
 obtain ⟨vs,h1,l1,r1⟩:=sm.obj k a _ (st.at_ hf) e0
 refine ⟨fun i v e=>?_,?_⟩
 ·obtain ⟨x,e1,r2⟩:=r1.get e
  refine ⟨⟨vs,x,SqL.of h1,e1⟩,fun y H2 hy=>?_⟩
  obtain ⟨rfl,hy⟩:=hy
  have:=(hy vs (SqL.of h1)).symm.trans e1
  cases this
  exact ⟨cK.refl _,r2⟩
 ·exact ⟨vs,SqL.of h1,by rw [r1.length]; exact Nat.le_refl _⟩
theorem eP (h:PEp K cl E X e m):PIp K cl E X tg e (mIt m):=by
 intro hK
 subst hK
 refine PI.imp (agk (h rfl)) fun σ H R ⟨p,S,ρ,s,ev,h⟩=>?_
 refine bR s ev h fun q H' v x S' stp sm ev r k=>?_
 cases v with
 | ref j =>
  obtain ⟨a,e,rfl⟩:=r
  unfold cN at k
  dsimp only at k
  cases z:S'[j]? with
  | none=>rw [z] at k; exact k.elim
  | some o =>
   cases o with
   | lst xs =>
    rw [z] at k
    obtain ⟨vs,h1,l1,r1⟩:=sm.obj j a _ e z
    exact ⟨a,rfl,.inl ⟨⟨vs,SqL.of h1⟩,bI.ret (R:=dM X.K) k sm (ags (n:=by rw [r1.length]; exact l1) e)⟩⟩
   | lol _=>rw [z] at k; exact k.elim
   | dic _ _=>rw [z] at k; exact k.elim
   | dol _ _=>rw [z] at k; exact k.elim
 | pv v =>
  cases v with
  | lst xs =>
   have r:Rep X.K q.c H' (.lst xs) x:=r
   unfold Rep at r
   obtain ⟨a,vs,rfl,l,z,r⟩:=r
   exact ⟨a,rfl,.inl ⟨⟨vs,l.sq⟩,bI.ret (R:=dM X.K) k sm (afK l z r)⟩⟩
  | tup xs =>
   have r:Rep X.K q.c H' (.tup xs) x:=r
   unfold Rep at r
   obtain ⟨a,vs,rfl,l,z,r⟩:=r
   exact ⟨a,rfl,.inr ⟨⟨vs,l⟩,bI.ret (R:=dM X.K) k sm (agu l z r)⟩⟩
  | _=>exact k.elim
def fV (lo:Int) (n:Nat):List PV:=(List.range n).map fun i=>.int (lo+(i:Nat))
def fO:List AV→Sto→Res (List PV × Gd)
 | [.pv (.int j)],S1=>@ite _ (j≤16777216∧-16777216≤j) (Classical.propDecidable _) (.ok (fV 0 j.toNat,[]) S1) .fail
 | _,_=>.fail
def bJ (ms:MA):MI:=fun ρ S=>(ms ρ S).bind fO
theorem afq {p:Ph} {H:Hp} {lo:Int} {n:Nat} (h:n≤sizeLine):dM K p H (fV lo n,[]) (Itr lo n):=by
 have hl:(fV lo n).length=n:=by unfold fV; rw [List.length_map,List.length_range]
 refine ⟨by show (fV lo n).length≤_; rw [hl]; exact h,fun q H1 S1 st _ _=>⟨fun i v e=>?_,?_⟩⟩
 ·have hi:i < n:=by
   have:=(List.getElem?_eq_some_iff.mp (show (fV lo n)[i]?=some v from e)).1
   omega
  refine ⟨hi,fun x H2 hy=>?_⟩
  obtain ⟨rfl,rfl⟩:=hy
  have e:(fV lo n)[i]?=some v:=e
  unfold fV at e
  rw [List.getElem?_map,List.getElem?_range hi] at e
  cases e
  refine ⟨cK.refl _,?_⟩
  unfold Rep
  rfl
 ·show n≤(fV lo n).length
  rw [hl]
  exact Nat.le_refl n
theorem fP {p:Pos} (hg:Gl X "range") (hm:X.mg "range"=none) (ha:PAp K cl E X [a] ms) (hs:starEach [a] X.env=[(false,eval a X.env)]:=by rfl):PIp K cl E X tg (.Call (.Name "range" p) [a] [] pos) (bJ ms):=by
 intro hK
 subst hK
 refine PI.imp (aco hg hm (ha rfl) hs) fun σ H R ⟨p,S,ρ,s,ev,h⟩=>?_
 refine bR s ev h fun q H' vs xs S' stp sm ev r k=>?_
 unfold fO at k
 split at k
 ·rename_i j
  cases r with
  | cons r1 r2 =>
   cases r2
   rename_i x
   have e:x=.int j:=by
    have r1:Rep X.K q.c H' (.int j) x:=r1
    unfold Rep at r1
    exact r1
   subst e
   split at k
   ·rename_i hj
    have hz:=gH
    exact ⟨j,rfl,by omega,by omega,bI.ret (R:=dM X.K) k sm (afq (by omega))⟩
   ·exact k.elim
 ·exact k.elim
theorem fS {mi:MI} {g:GM} (hp:PassesOwn (model X.prog X.w) X.A X.env X.xe) (hc:X.calm=true) (hi:PIp K cl E X tg e mi) (hg:PGp K X tg g) (hb:jF K cl E X sts b1)
  (hs:∀ x,foldedSetIterable e X.env x=pure x:=by intro _; rfl):PSp K cl E X (.For tg e sts [] pos) (bU mi g b1):=by
 intro hK
 subst hK
 refine PS.imp (afv hp hc (hi rfl) (hg rfl) (hb rfl) hs) fun D σ H ⟨p,S,ρ,s,ev,h⟩=>?_
 refine fT s ev h fun q H' xg J S' stp sm ev it k=>?_
 obtain ⟨xs,G⟩:=xg
 refine ⟨fun i n σ H=>n=xs.length - i∧i≤xs.length∧∃ p S ρ,Sim X.K p S H∧cL X.K p H ρ σ∧dM X.K p H (xs,G) J∧cS X.K cl p H (bZ G g b1 (xs.drop i) ρ S) D E,⟨xs.length,by simp,Nat.zero_le _,q,S',ρ,sm,ev,it,by simpa using k⟩,?_⟩
 rintro i n σ1 H1 ⟨rfl,hi,p1,S1,ρ1,sm1,ev1,it1,k1⟩
 by_cases hlt:i < xs.length
 ·have hx:xs[i]?=some xs[i]:=List.getElem?_eq_getElem hlt
  rw [List.drop_eq_getElem_cons hlt] at k1
  unfold bZ at k1
  split at k1
  ·rename_i gk
   obtain ⟨g1,y1⟩:=(it1.2 p1 H1 S1 sm1.step sm1 gk).1 i _ hx
   cases z:g xs[i] ρ1 with
   | none=>simp only [z] at k1; exact k1.elim
   | some ρ2 =>
    simp only [z] at k1
    refine .inr ⟨g1,fun σ' H'=>i+1≤xs.length∧∃ p S ρ,Sim X.K p S H'∧cL X.K p H' ρ σ'∧dM X.K p H' (xs,G) J∧cS X.K cl p H' (bZ G g b1 (xs.drop (i+1)) ρ S) D E,fun σ' H' hN=>⟨xs.length - (i+1),by omega,rfl,hN⟩,fun x H2 hy=>?_⟩
    obtain ⟨same,rx⟩:=y1 x H2 hy
    have st2:=sm1.same same
    have sm2:=sm1.ofSame same
    refine ⟨p1,S1,ρ1,xs[i],ρ2,sm2,st2.repE ev1,rx,z,fun σ3 ev3=>⟨p1,S1,ρ2,sm2,ev3,?_⟩⟩
    have it2:=it1.step st2
    cases y:b1 ρ2 S1 with
    | nx ρ4 S4 =>
     rw [y] at k1
     exact fun q5 H5 σ5 st5 sm5 ev5=>⟨hlt,q5,S4,ρ4,sm5,ev5,it2.step st5,cS.mono (r:=bZ G g b1 (xs.drop (i+1)) ρ4 S4) k1 (st2.trans st5)⟩
    | ct ρ4 S4 =>
     rw [y] at k1
     exact fun q5 H5 σ5 st5 sm5 ev5=>⟨hlt,q5,S4,ρ4,sm5,ev5,it2.step st5,cS.mono (r:=bZ G g b1 (xs.drop (i+1)) ρ4 S4) k1 (st2.trans st5)⟩
    | bk ρ4 S4=>rw [y] at k1; exact cS.mono (r:=.nx ρ4 S4) k1 st2
    | rt v S4=>rw [y] at k1; exact cS.mono (r:=.rt v S4) k1 st2
    | exc v S4=>rw [y] at k1; exact cS.mono (r:=.exc v S4) k1 st2
    | fail=>rw [y] at k1; exact k1.elim
  ·exact k1.elim
 ·have e:i=xs.length:=by omega
  subst e
  rw [List.drop_length] at k1
  unfold bZ at k1
  split at k1
  ·rename_i gk
   exact .inl ⟨(it1.2 p1 H1 S1 sm1.step sm1 gk).2,cS.nxD k1 sm1 ev1⟩
  ·exact k1.elim
theorem sG (hp:PassesOwn (model X.prog X.w) X.A X.env X.xe) (hc:PTp K cl E X c mt) (hb:jF K cl E X sts b1):PSp K cl E X (.While c sts [] pos) (kI mt b1):=by
 intro hK
 subst hK
 refine PS.imp (adn hp (hc rfl) (hb rfl)) fun D σ H ⟨p,S,ρ,s,ev,h⟩=>?_
 unfold kI at h
 split at h
 ·rename_i hh
  refine ⟨fun n σ H=>∃ p S ρ,Sim X.K p S H∧cL X.K p H ρ σ∧cS X.K cl p H (cM mt b1 n ρ S) D E,⟨_,p,S,ρ,s,ev,h⟩,?_⟩
  rintro n σ1 H1 ⟨p1,S1,ρ1,sm1,ev1,k1⟩
  cases n with
  | zero=>exact k1.elim
  | succ n =>
   unfold cM at k1
   refine fT sm1 ev1 k1 fun q H2 t t' S2 stp sm2 ev2 r k2=>?_
   cases r
   cases t with
   | true =>
    rw [if_pos rfl] at k2 ⊢
    refine ⟨fun σ' H'=>∃ p S ρ,Sim X.K p S H'∧cL X.K p H' ρ σ'∧cS X.K cl p H' (cM mt b1 n ρ S) D E,fun σ' H' hN=>⟨n,Nat.lt_succ_self n,hN⟩,q,S2,ρ1,sm2,ev2,?_⟩
    cases y:b1 ρ1 S2 with
    | nx ρ4 S4 =>
     rw [y] at k2
     exact fun q5 H5 σ5 st5 sm5 ev5=>⟨q5,S4,ρ4,sm5,ev5,cS.mono (r:=cM mt b1 n ρ4 S4) k2 st5⟩
    | ct ρ4 S4 =>
     rw [y] at k2
     exact fun q5 H5 σ5 st5 sm5 ev5=>⟨q5,S4,ρ4,sm5,ev5,cS.mono (r:=cM mt b1 n ρ4 S4) k2 st5⟩
    | bk ρ4 S4=>rw [y] at k2; exact k2
    | rt v S4=>rw [y] at k2; exact k2
    | exc v S4=>rw [y] at k2; exact k2
    | fail=>rw [y] at k2; exact k2.elim
   | false =>
    rw [if_neg Bool.false_ne_true] at k2 ⊢
    exact cS.nxD k2 sm2 ev2
 ·exact h.elim
end
end
end L2.Pp
namespace L2.Pp
open PySem PySem.Spec PyProof.Rows Bn
def iO (n:Nat) (xs:List AV):Rho:=xs.map some++List.replicate (n - xs.length) none
def jQ (n:Nat):AV→Sto→Res AV
 | .pv v,S=>.ok (.pv v) (S.take n)
 | .ref k,S=>if k < n then .ok (.ref k) (S.take n) else match S[k]? with
  | some (.lst xs)=>.ok (.ref n) (S.take n++[.lst xs])
  | some (.dic b kvs)=>.ok (.ref n) (S.take n++[.dic b kvs])
  | _=>.fail
def frz (n:Nat):Res AV→Res AV
 | .ok (.ref k) S=>if k < n then .ok (.ref k) S else match S[k]? with
  | some (.lst xs)=>.ok (.pv (.lst xs)) (S.take n)
  | _=>.fail
 | r=>r
def iD (n:Nat):bN→Res AV
 | .rt v S=>jQ n v S
 | .nx _ S=>.ok (.pv .non) (S.take n)
 | .exc e S=>.exc e (S.take n)
 | _=>.fail
def fnM (np n:Nat) (b:MS) (xs:List AV) (S:Sto):Res AV:=if xs.length=np then iD S.length (b (iO n xs) S) else .fail
def aR {α:Type}:Res α→Res α
 | .ok a S=>.ok a S
 | _=>.fail
abbrev FM:=List AV→Sto→Res AV
def agX (f:FM) (ds:List PV) (ms:MA):ME:=fun ρ S=>(ms ρ S).bind fun xs S1=>frz S1.length (f (xs++ds.map .pv) S1)
def aL (f:FM) (ds:List PV) (ms:MA):ME:=fun ρ S=>(ms ρ S).bind fun xs S1=>frz S1.length (aR (f (xs++ds.map .pv) S1))
def nE (f:FM) (ds:List PV) (ms:MA):ME:=fun ρ S=>(ms ρ S).bind fun xs S1=>aR (f (xs++ds.map .pv) S1)
def spP (K:PySem.W.Frag) (cl:Str→Addr) (f:FM):Sp:=fun vs H Q E=>∃ p S xs,Sim K p S H∧eU K p H xs vs∧bI K cl (bL K) p H (f xs S) Q E
def cF (K:PySem.W.Frag) (cl:Str→Addr) (f:FM):Sp:=fun vs H Q _=>spP K cl f vs H Q E0
section
variable {K:PySem.W.Frag} {cl:Str→Addr} {p q:Ph} {H H':Hp} {S S':Sto}
theorem xW {c c':Addr→Prop} (h:∀ a,c a→c' a) {a:Addr} {vs:List V} (l:LAt K c' H a vs):LAt K c H a vs:=by
 rcases l with ⟨l,n⟩ | l | l
 ·exact .inl ⟨l,fun z=>n (h a z)⟩
 ·exact .inr (.inl l)
 ·exact .inr (.inr l)
theorem kU {c c':Addr→Prop} (h:∀ a,c a→c' a) {ps:List PV} {vs:List V} (r:aJ K c' H ps vs):aJ K c H ps vs:=aJ.mono (fun _ _ t=>t) (fun _ _ l=>xW h l) ps vs r
theorem xX {c c':Addr→Prop} (h:∀ a,c a→c' a) {v:PV} {x:V} (r:Rep K c' H v x):Rep K c H v x:=Rep.mono (fun _ _ t=>t) (fun _ _ l=>xW h l) v x r
theorem aas {f g:List Addr} (h:f <+: g):g.take f.length=f:=by
 obtain ⟨t,e⟩:=h
 rw [← e,List.take_left]
theorem oP {α:Type}:∀ {l:List α} {i j:Nat} {a:α},l.Nodup→l[i]?=some a→l[j]?=some a→i=j
 | [],i,j,a,_,e,_=>by simp at e
 | b :: l,0,0,a,_,_,_=>rfl
 | b :: l,0,j+1,a,n,e,f=>by
  simp at e f
  subst e
  exact absurd (List.mem_of_getElem? f) (List.nodup_cons.mp n).1
 | b :: l,i+1,0,a,n,e,f=>by
  simp at e f
  subst f
  exact absurd (List.mem_of_getElem? e) (List.nodup_cons.mp n).1
 | b :: l,i+1,j+1,a,n,e,f=>by
  exact congrArg (·+1) (oP (l:=l) (a:=a) (List.nodup_cons.mp n).2 (by simpa using e) (by simpa using f))
theorem Sim.cutX (D:Addr→Prop) (s:Sim K p S H) (st:bC p H q H') (s':Sim K q S' H') (hD:∀ b,D b→H b=none) (hq:(∀ b,D b→b∈q.f)∨∀ k o,S'[k]?=some o→k < S.length→∃ xs,o=.lst xs) :
  let r:Ph:=⟨p.f,fun b=>q.w b∧¬ D b,fun b=>q.c b∧¬ D b⟩
  bC p H r H'∧Sim K r (S'.take S.length) H':=by
 intro r
 have nD:∀ a,p.c a→¬ D a:=fun a c d=>by
  obtain ⟨o,ho,_⟩:=s.mu a c
  rw [hD a d] at ho
  cases ho
 have le:S.length≤S'.length:=by
  have:=st.pre.length_le
  rw [← s.len,← s'.len]
  exact this
 refine ⟨⟨s.wc,s.mu,List.prefix_rfl,fun a h=>⟨st.mw a h,nD a (s.wc a h)⟩,fun a h=>⟨st.mono a h,nD a h⟩,fun _ h g=>absurd h g,fun a h=>st.nw a h.1,fun a h=>st.nc a h.1,st.keep⟩,s.nd,by rw [s.len,List.length_take]; omega,fun a h=>⟨st.mw a (s.sub a h),nD a (s.wc a (s.sub a h))⟩,fun a h=>⟨s'.wc a h.1,h.2⟩,fun a h=>s'.mu a h.1,fun k a o e1 e2=>?_⟩
 have hk:k < S.length:=by
  have:=(List.getElem?_eq_some_iff.mp e1).1
  rw [← s.len]
  exact this
 have e2':S'[k]?=some o:=by
  rw [List.getElem?_take,if_pos hk] at e2
  exact e2
 have z:=s'.obj k a o (st.at_ e1) e2'
 have shr:∀ xs vs,aJ K q.c H' xs vs→aJ K r.c H' xs vs:=fun xs vs=>kU (fun b h=>h.1)
 have sub:∀ b,b ∉ q.f→b ∉ p.f:=fun b n h=>n (st.pre.subset h)
 rcases hq with hq | hq
 ·exact z.mono (fun _ e=>e) (fun b w f=>⟨⟨⟨w,fun d=>f (hq b d)⟩,sub b f⟩,fun _ e=>e⟩) shr
 ·obtain ⟨xs,rfl⟩:=hq k o e2' hk
  obtain ⟨vs,e,l,g⟩:=z
  exact ⟨vs,e,l,shr xs vs g⟩
theorem Sim.cut (s:Sim K p S H) (st:bC p H q H') (s':Sim K q S' H'):bC p H ⟨p.f,fun b=>q.w b∧¬ False,fun b=>q.c b∧¬ False⟩ H'∧Sim K ⟨p.f,fun b=>q.w b∧¬ False,fun b=>q.c b∧¬ False⟩ (S'.take S.length) H' :=
 s.cutX (fun _=>False) st s' (fun _ h=>h.elim) (.inl fun _ h=>h.elim)
theorem yI (s:Sim K p S H) (st:bC p H q H') (sm:Sim K q S' H') {k:Nat} {a:Addr} (e:q.f[k]?=some a) (hk:¬ k < S.length):a ∉ p.f∧H a=none∧¬ p.c a:=by
 have na:a ∉ p.f:=fun hm=>by
  obtain ⟨j,hj,ej⟩:=List.getElem_of_mem hm
  have e2:q.f[j]?=some a:=st.at_ (by rw [List.getElem?_eq_getElem hj,ej])
  have hjk:j=k:=oP sm.nd e2 e
  rw [s.len] at hj
  omega
 have hn:=st.nf a (List.mem_of_getElem? e) na
 refine ⟨na,hn,fun c=>?_⟩
 obtain ⟨o,ho,_⟩:=s.mu a c
 rw [hn] at ho
 cases ho
theorem acD {r:Res AV} {Q:VK} {E:XK} (s:Sim K p S H) (h:bI K cl (bL K) p H (frz S.length r) Q E):bI K cl (bL K) p H r Q E:=by
 cases r with
 | exc n S1=>exact h
 | fail=>exact h
 | ok v S1 =>
  cases v with
  | pv v=>exact h
  | ref k =>
   have h:bI K cl (bL K) p H (if k < S.length then .ok (.ref k) S1 else match S1[k]? with
    | some (.lst xs)=>.ok (.pv (.lst xs)) (S1.take S.length)
    | _=>.fail) Q E:=h
   split at h
   ·exact h
   ·rename_i hk
    cases z:S1[k]? with
    | none=>rw [z] at h; exact h.elim
    | some o =>
     cases o with
     | lol _=>rw [z] at h; exact h.elim
     | dic _ _=>rw [z] at h; exact h.elim
     | dol _ _=>rw [z] at h; exact h.elim
     | lst xs =>
      rw [z] at h
      intro q H' x st sm r
      obtain ⟨a,e,rfl⟩:=r
      obtain ⟨na,hn,nc⟩:=yI s st sm e hk
      obtain ⟨st1,sm1⟩:=s.cutX (fun b=>b=a) st sm (fun b d=>d ▸ hn) (.inl fun b d=>d ▸ List.mem_of_getElem? e)
      obtain ⟨vs,h1,l,r⟩:=sm.obj k a _ e z
      refine h _ H' (.ref a) st1 sm1 ?_
      show Rep K (fun b=>q.c b∧¬ b=a) H' (.lst xs) (.ref a)
      unfold Rep
      exact ⟨a,vs,rfl,.inl ⟨h1,fun d=>d.2 rfl⟩,l,kU (fun b h=>h.1) r⟩
theorem aaR {r:bN} {Q:VK} {E:XK} (s:Sim K p S H) (h:bI K cl (bL K) p H (iD S.length r) Q E):cS K cl p H r { nx:=fun _ H'=>Q .non H',rt:=Q } E:=by
 cases r with
 | nx ρ S1 =>
  intro q H' σ st sm ev
  obtain ⟨st1,sm1⟩:=s.cut st sm
  exact h _ H' .non st1 sm1 (by show Rep K (fun b=>q.c b∧¬ False) H' .non .non; unfold Rep; rfl)
 | exc n S1 =>
  intro q H' st sm
  obtain ⟨st1,sm1⟩:=s.cut st sm
  exact h _ H' st1 sm1
 | rt v S1 =>
  intro q H' x st sm r
  obtain ⟨st1,sm1⟩:=s.cut st sm
  cases v with
  | pv v=>exact h _ H' x st1 sm1 (show Rep K (fun b=>q.c b∧¬ False) H' v x from xX (fun b h=>h.1) r)
  | ref k =>
   obtain ⟨a,e,rfl⟩:=r
   have h:bI K cl (bL K) p H (if k < S.length then .ok (.ref k) (S1.take S.length) else match S1[k]? with
    | some (.lst xs)=>.ok (.ref S.length) (S1.take S.length++[.lst xs])
    | some (.dic b kvs)=>.ok (.ref S.length) (S1.take S.length++[.dic b kvs])
    | _=>.fail) Q E:=h
   split at h
   ·rename_i hk
    refine h _ H' (.ref a) st1 sm1 ⟨a,?_,rfl⟩
    show p.f[k]?=some a
    have hf:=aas st.pre
    rw [← hf,List.getElem?_take,if_pos (by rw [s.len]; exact hk)]
    exact e
   ·rename_i hk
    have fin:∀ o,S1[k]?=some o→bI K cl (bL K) p H (.ok (.ref S.length) (S1.take S.length++[o])) Q E→Q (.ref a) H':=fun o z h=>by
     obtain ⟨na,hn,nc⟩:=yI s st sm e hk
     have l1:(S1.take S.length).length=S.length:=by rw [← sm1.len,← s.len]
     have ma:a∈q.f:=List.mem_of_getElem? e
     refine h ⟨p.f++[a],q.w,q.c⟩ H' (.ref a) ⟨s.wc,s.mu,⟨[a],rfl⟩,st.mw,st.mono,fun b hb n=>?_,st.nw,st.nc,st.keep⟩ ⟨?_,?_,fun b hb=>?_,sm.wc,sm.mu,fun j b o e1 e2=>?_⟩ ⟨a,?_,rfl⟩
     ·rcases List.mem_append.mp hb with z | z
      ·exact absurd z n
      ·have:b=a:=by simpa using z
       rw [this]
       exact hn
     ·show (p.f++[a]).Nodup
      rw [List.nodup_append]
      refine ⟨s.nd,by simp,fun b hb c hc z=>?_⟩
      have:c=a:=by simpa using hc
      exact na (this ▸ z ▸ hb)
     ·show (p.f++[a]).length=_
      rw [List.length_append,List.length_append,l1,s.len]
      rfl
     ·rcases List.mem_append.mp hb with z | z
      ·exact st.mw b (s.sub b z)
      ·have:b=a:=by simpa using z
       rw [this]
       exact sm.sub a ma
     ·by_cases hj:j < S.length
      ·have e1':p.f[j]?=some b:=by
        have e1:(p.f++[a])[j]?=some b:=e1
        rwa [List.getElem?_append_left (by rw [s.len]; exact hj)] at e1
       rw [List.getElem?_append_left (by rw [l1]; exact hj),List.getElem?_take,if_pos hj] at e2
       refine (sm.obj j b o (st.at_ e1') e2).mono (fun _ e=>e) (fun c w f=>⟨⟨w,fun m=>?_⟩,fun _ e=>e⟩) fun _ _ r=>r
       rcases List.mem_append.mp m with z | z
       ·exact f (st.pre.subset z)
       ·have:c=a:=by simpa using z
        exact f (this ▸ ma)
      ·have hj':j=S.length:=by
        have:=(List.getElem?_eq_some_iff.mp e2).1
        rw [List.length_append,l1] at this
        simp at this
        omega
       subst hj'
       rw [List.getElem?_append_right (by rw [l1]; exact Nat.le_refl _),l1,Nat.sub_self] at e2
       have e1:(p.f++[a])[S.length]?=some b:=e1
       rw [← s.len,List.getElem?_append_right (Nat.le_refl _),Nat.sub_self] at e1
       cases e1
       cases e2
       refine (sm.obj k a _ e z).mono (fun _ e=>e) (fun c w f=>⟨⟨w,fun m=>?_⟩,fun _ e=>e⟩) fun _ _ r=>r
       rcases List.mem_append.mp m with z | z
       ·exact f (st.pre.subset z)
       ·have:c=a:=by simpa using z
        exact f (this ▸ ma)
     ·show (p.f++[a])[S.length]?=some a
      rw [← s.len,List.getElem?_append_right (Nat.le_refl _),Nat.sub_self]
      rfl
    split at h
    ·rename_i z
     exact fin _ z h
    ·rename_i z
     exact fin _ z h
    ·exact h.elim
 | bk ρ S1=>exact h.elim
 | ct ρ S1=>exact h.elim
 | fail=>exact h.elim
theorem aaU {N:List Str} {xs:List AV} {vs:List V} (r:eU K p H xs vs):cL K p H (iO N.length xs) (L2.start N vs):=by
 have go:∀ {xs:List AV} {vs:List V},eU K p H xs vs→xs.length=vs.length:=fun {xs vs} r=>by
  induction r with
  | nil=>rfl
  | cons _ _ ih=>rw [List.length_cons,List.length_cons,ih]
 have get:∀ {xs:List AV} {vs:List V},eU K p H xs vs→∀ (i:Nat) (v:AV),xs[i]?=some v→∃ x,vs[i]?=some x∧bL K p H v x:=fun {xs vs} r=>by
  induction r with
  | nil=>intro i v e; simp at e
  | cons h _ ih =>
   intro i v e
   cases i with
   | zero =>
    simp at e
    subst e
    exact ⟨_,rfl,h⟩
   | succ i=>simpa using ih i v (by simpa using e)
 have hl:=go r
 refine ⟨by unfold iO L2.start; simp [hl],fun i v e=>?_⟩
 unfold iO at e
 unfold L2.start
 by_cases hi:i < xs.length
 ·rw [List.getElem?_append_left (by simpa using hi),List.getElem?_map] at e
  cases z:xs[i]? with
  | none=>rw [z] at e; cases e
  | some u =>
   rw [z] at e
   cases e
   obtain ⟨x,e1,e2⟩:=get r i v z
   refine ⟨x,?_,e2⟩
   rw [List.getElem?_append_left (by rw [List.length_map,← hl]; exact hi),List.getElem?_map,e1]
   rfl
 ·rw [List.getElem?_append_right (by rw [List.length_map]; omega),List.getElem?_replicate] at e
  split at e
  ·cases e
  ·cases e
end
section
variable {P:Program} {w:World} {K:PySem.W.Frag} {mg:Str→Option Value} {base:Heap} {cl:Str→Addr}
theorem abW {K:PySem.W.Frag} {p:Ph} {H:Hp} {xs:List AV} {vs:List V} (h:eU K p H xs vs):xs.length=vs.length:=by
 induction h with
 | nil=>rfl
 | cons _ _ ih=>rw [List.length_cons,List.length_cons,ih]
theorem agn {np n:Nat} {b:MS} {vs:List V} {H:Hp} {Q:VK} {E:XK} (h:spP K cl (fnM np n b) vs H Q E):vs.length=np:=by
 obtain ⟨p,S,xs,sm,ra,h⟩:=h
 unfold fnM at h
 split at h
 ·rename_i e
  rw [← abW ra,e]
 ·exact h.elim
theorem okP {x qual:Str} {st:Stmt} {f:Addr} {fd:FuncData} {N ps:List Str} {k np n:Nat} {b:MS} (F:Fun K x qual st f fd) (S:cJ N ps (bE st)) (hnp:ps.length=np) (hn:N.length=n)
  (hb:∀ (cdv:Value) (A:Around) (outer:List Env) (s:Shared) (H:Hp) (E:XK),dJ k (A.deeper (envOfC qual (bE st) s.heap.objs.size f cdv))→jF K cl E0 (kT CX0 P w K mg base N qual (bE st) f cdv A outer s H E).nox (fZ st) b) :
  bS P w K mg base CX0 (k+1) f fd ps (cF K cl (fnM np n b)):=by
 subst hnp hn
 refine F.ok S (fun vs H Q E h=>agn h) fun cdv A outer s H vs Q E hr h=>⟨_,hb cdv A outer s H E hr rfl,?_⟩
 obtain ⟨p,S,xs,sm,ra,h⟩:=h
 unfold fnM at h
 split at h
 ·exact ⟨p,S,_,sm,aaU ra,aaR sm h⟩
 ·exact h.elim
theorem x0 {f:Addr} {fd:FuncData} {ps:List Str} {k:Nat} {g:FM} (F:bS P w K mg base (CX1 P w) k f fd ps (spP K cl g)):bS P w K mg base CX0 k f fd ps (cF K cl g) :=
 ⟨fun vs H Q E h=>F.len vs H Q E0 h,fun A outer s H args us vs Q E hr e0 hb hv h=>codeAny_mono (F.run A outer s H args us vs Q E0 hr e0 hb hv h) fun r s' hq=>by
  cases r with
  | error e =>
   obtain ⟨_,_,_,_,_,_,_,_,_,_,_,_,z⟩:=hq
   exact z
  | ok fl =>
   cases fl with
   | ret u=>exact hq
   | next=>exact hq
   | brk=>exact hq
   | cont=>exact hq⟩
end
section
variable {K:PySem.W.Frag} {cl:Str→Addr} {E:XK} {X:Cx} {e:Expr} {es:List Expr} {ms:MA} {pos p:Pos} {k n:Nat} {f:Addr} {fd:FuncData} {ps:List Str} {g:FM} {x:Str} {dvs:List V} {ds:List Value} {dv:List PV}
theorem wX {p:Ph} {H:Hp} {xs ys:List AV} {vs ws:List V} (h:eU K p H xs vs) (g:eU K p H ys ws):eU K p H (xs++ys) (vs++ws):=by
 induction h with
 | nil=>exact g
 | cons h _ ih=>exact .cons h ih
def Dv (dv:List PV) (dvs:List V):Prop:=∀ K p H,eU K p H (dv.map .pv) dvs
theorem Dv.nil:Dv [] []:=fun _ _ _=>.nil
theorem xU {α β:Type} {R:Ph→Hp→α→β→Prop} {p:Ph} {H:Hp} {r:Res α} {Q:β→Hp→Prop} (h:bI K cl R p H (aR r) Q E):bI K cl R p H r Q E0:=by
 cases r with
 | ok a S=>exact h
 | exc n S=>exact h.elim
 | fail=>exact h.elim
theorem acY (F:bS X.prog X.w X.K X.mg X.base CX0 k f fd ps (cF K cl g)) (hr:dJ k X.A) (hg:Gl X x) (hm:X.mg x=some (.ref f)) (hk:PySem.W.keepIn X.K (.ref f)=true) (hb:gX X.K fd ps ds) (hd:aX dvs ds) (hv:Dv dv dvs)
  (ha:PAp K cl E X (e :: es) ms) (hdb:(x == ("__debug__":Str))=false:=by decide) (he:starEach (e :: es) X.env=(false,eval e X.env) :: starEach es X.env:=by rfl) (hpl:(backTo pos (starEach es X.env)).any (·.1)=false:=by rfl) :
  PEp K cl E X (.Call (.Name x p) (e :: es) [] pos) (aL g dv ms):=by
 intro hK
 refine PE.imp (tW F hr hg hm hk hb hd vJ (ha hK) hdb he hpl) fun σ H Q ⟨p,S,ρ,s,ev,h⟩=>?_
 exact bR s ev h fun q H' as xs S' stp sm ev r k=>⟨q,S',_,sm,wX r (hv K q H'),xU (acD sm k)⟩
theorem acT (F:bS X.prog X.w X.K X.mg X.base CX0 k f fd ps (cF K cl g)) (hr:dJ k X.A) (hg:Gl X x) (hm:X.mg x=some (.ref f)) (hk:PySem.W.keepIn X.K (.ref f)=true) (hb:gX X.K fd ps ds) (hd:aX dvs ds) (hv:Dv dv dvs)
  (ha:PAp K cl E X (e :: es) ms) (hdb:(x == ("__debug__":Str))=false:=by decide) (he:starEach (e :: es) X.env=(false,eval e X.env) :: starEach es X.env:=by rfl) (hpl:(backTo pos (starEach es X.env)).any (·.1)=false:=by rfl) :
  PEp K cl E X (.Call (.Name x p) (e :: es) [] pos) (nE g dv ms):=by
 intro hK
 refine PE.imp (tW F hr hg hm hk hb hd vJ (ha hK) hdb he hpl) fun σ H Q ⟨p,S,ρ,s,ev,h⟩=>?_
 exact bR s ev h fun q H' as xs S' stp sm ev r k=>⟨q,S',_,sm,wX r (hv K q H'),xU k⟩
end
end L2.Pp
namespace L2.Pp
open PySem PySem.Spec PyProof.Rows Bn
def cD (own:List Str) (cap:List (Nat × Str)) (ρ:Rho):Rho:=own.map (fun _=>none)++cap.map fun p=>(ρ[p.1]?).join
open Classical in
noncomputable def bY (G:Gd) (g:GM) (me:ME):List PV→Rho→Sto→Res (List PV)
 | [],_,S=>if gOk G S then .ok [] S else .fail
 | x :: r,ρ,S=>if gOk G S then (match g x ρ with
  | none=>.fail
  | some ρ1=>match me ρ1 S with
   | .ok (.pv y) S1=>match bY G g me r ρ1 S1 with
    | .ok ys S2=>.ok (y :: ys) S2
    | _=>.fail
   | _=>.fail) else .fail
theorem eA {g:GM} {me:ME} {ρ:Rho} {S:Sto}:bY [] g me [] ρ S=.ok [] S:=by
 unfold bY
 rw [if_pos (lI S)]
theorem eF {g:GM} {me:ME} {x:PV} {r:List PV} {ρ:Rho} {S:Sto}:bY [] g me (x :: r) ρ S=(match g x ρ with
  | none=>.fail
  | some ρ1=>match me ρ1 S with
   | .ok (.pv y) S1=>match bY [] g me r ρ1 S1 with
    | .ok ys S2=>.ok (y :: ys) S2
    | _=>.fail
   | _=>.fail):=by
 rw [bY,if_pos (lI S)]
noncomputable def bF (own:List Str) (cap:List (Nat × Str)) (mi:MI) (g:GM) (me:ME):ME:=fun ρ S=>(mi ρ S).bind fun xs S1=>(bY xs.2 g me xs.1 (cD own cap ρ) S1).bind fun ys S2=>.ok (.pv (.lst ys)) S2
theorem aat {G:Gd} {g:GM} {me:ME}:∀ (xs:List PV) (ρ:Rho) (S:Sto) (n:Str) (S':Sto),bY G g me xs ρ S≠.exc n S'
 | [],_,_,_,_,e=>by
  unfold bY at e
  split at e <;> cases e
 | x :: r,ρ,S,n,S',e=>by
  unfold bY at e
  split at e
  ·split at e
   ·cases e
   ·split at e
    ·split at e
     ·cases e
     ·cases e
    ·cases e
  ·cases e
theorem zS {G:Gd} {g:GM} {me:ME} {xs zs:List PV} {ρ:Rho} {S S':Sto} (e:bY G g me xs ρ S=.ok zs S'):gOk G S:=by
 cases xs with
 | nil =>
  unfold bY at e
  split at e
  ·assumption
  ·cases e
 | cons x r =>
  unfold bY at e
  split at e
  ·assumption
  ·cases e
section
variable {K:PySem.W.Frag} {cl:Str→Addr} {E:XK} {X:Cx} {p q:Ph} {H H':Hp} {S:Sto}
theorem aax {ρ:Rho} {σ:St} {own:List Str} {cap:List (Nat × Str)} (h:cL K p H ρ σ):cL K p H (cD own cap ρ) (fL own cap σ):=by
 refine ⟨by unfold cD fL; simp,fun i v e=>?_⟩
 unfold cD at e
 unfold fL
 by_cases hi:i < own.length
 ·rw [List.getElem?_append_left (by simpa using hi),List.getElem?_map,List.getElem?_eq_getElem hi] at e
  cases e
 ·rw [List.getElem?_append_right (by rw [List.length_map]; omega),List.getElem?_map,List.length_map] at e ⊢
  cases z:cap[i - own.length]? with
  | none=>rw [z] at e; cases e
  | some c =>
   rw [z] at e
   have e:(ρ[c.1]?).join=some v:=Option.some.inj e
   have e':ρ[c.1]?=some (some v):=by
    cases y:ρ[c.1]? with
    | none=>rw [y] at e; cases e
    | some o=>rw [y] at e; exact congrArg some e
   obtain ⟨x,e1,e2⟩:=h.at_ c.1 v e'
   refine ⟨x,?_,e2⟩
   show some ((σ[c.1]?).join)=some (some x)
   rw [e1]
   rfl
def Ph.res (p:Ph) (D:Addr):Ph:=⟨p.f,fun a=>p.w a∨a=D,fun a=>p.c a∨a=D⟩
def Ph.hold (p:Ph) (D:Addr):Ph:=⟨p.f,fun a=>p.w a∧a≠D,p.c⟩
def Ph.less (p:Ph) (D:Addr):Ph:=⟨p.f,fun a=>p.w a∧a≠D,fun a=>p.c a∧a≠D⟩
theorem Sim.notin (s:Sim K p S H) {D:Addr} (h:H D=none):¬ p.c D:=fun c=>by
 obtain ⟨o,e,_⟩:=s.mu D c
 rw [h] at e
 cases e
theorem Sim.res (s:Sim K p S H) {D:Addr} {o:HO} (h:H D=none) (mo:Mb o):bC p H (p.res D) (upd H D o)∧Sim K (p.res D) S (upd H D o):=by
 have st:bC p H (p.res D) (upd H D o):=⟨s.wc,s.mu,List.prefix_rfl,fun a h=>.inl h,fun a h=>.inl h,fun a h g=>absurd h g,fun a x n=>x.elim (fun z=>absurd z n) (fun z=>by rw [z]; exact h),fun a x n=>x.elim (fun z=>absurd z n) (fun z=>by rw [z]; exact h),fun a u e _=>by
  rw [bQ (dY e h)]
  exact e⟩
 refine ⟨st,s.nd,s.len,fun a h=>.inl (s.sub a h),fun a x=>x.elim (fun z=>.inl (s.wc a z)) .inr,fun a x=>?_,fun k a u e1 e2=>?_⟩
 ·by_cases z:a=D
  ·rw [z,eL]
   exact ⟨o,rfl,mo⟩
  ·rw [bQ z]
   exact s.mu a (x.elim id fun y=>absurd y z)
 ·exact (s.obj k a u e1 e2).mono (fun vs e=>by rw [bQ (dY e h)]; exact e) (fun b w f=>⟨⟨.inl w,f⟩,fun vs e=>by rw [bQ (dY e h)]; exact e⟩) fun _ _ r=>st.reps r
theorem Sim.resHold (s:Sim K p S H) {D:Addr} {o:HO} (h:H D=none) (mo:Mb o):Sim K ((p.res D).hold D) S (upd H D o):=by
 obtain ⟨st,sm⟩:=s.res (o:=o) h mo
 have ne:∀ a,p.w a→a≠D:=fun a w z=>s.notin h (z ▸ s.wc a w)
 refine ⟨sm.nd,sm.len,fun a m=>⟨sm.sub a m,ne a (s.sub a m)⟩,fun a x=>sm.wc a x.1,sm.mu,fun k a u e1 e2=>?_⟩
 exact (s.obj k a u e1 e2).mono (fun vs e=>by rw [bQ (dY e h)]; exact e) (fun b w f=>⟨⟨⟨.inl w,ne b w⟩,f⟩,fun vs e=>by rw [bQ (dY e h)]; exact e⟩) fun _ _ r=>st.reps r
theorem bC.unhold {D:Addr} (h:p.w D) (st:bC (p.hold D) H q H') (s:Sim K p S H):bC p H ⟨q.f,fun a=>q.w a∨a=D,q.c⟩ H' :=
 ⟨s.wc,s.mu,st.pre,fun a x=>by
  by_cases z:a=D
  ·exact .inr z
  ·exact .inl (st.mw a ⟨x,z⟩),st.mono,st.nf,fun a x n=>by
  rcases x with x | x
  ·exact st.nw a x fun z=>n z.1
  ·exact absurd (x ▸ h) n,st.nc,fun a o e n=>st.keep a o e fun z=>n z.1⟩
theorem Sim.grow {D:Addr} {ys:List V} {o:HO} (s:Sim K p S H) (sh:Sim K (p.hold D) S H) (w:p.w D) (n:D ∉ p.f) (mo:Mb o):bC p H p (upd H D o)∧Sim K p S (upd H D o)∧Sim K (p.hold D) S (upd H D o):=by
 have st:bC p H p (upd H D o):=⟨s.wc,s.mu,List.prefix_rfl,fun _ h=>h,fun _ h=>h,fun _ h g=>absurd h g,fun _ h g=>absurd h g,fun _ h g=>absurd h g,fun a u e nw=>by
  rw [bQ (fun z:a=D=>nw (by rw [z]; exact w))]
  exact e⟩
 have hm:∀ a,p.c a→∃ u,upd H D o a=some u∧Mb u:=fun a x=>by
  by_cases z:a=D
  ·rw [z,eL]
   exact ⟨o,rfl,mo⟩
  ·rw [bQ z]
   exact s.mu a x
 refine ⟨st,⟨s.nd,s.len,s.sub,s.wc,hm,fun k a u e1 e2=>?_⟩,⟨sh.nd,sh.len,sh.sub,sh.wc,hm,fun k a u e1 e2=>?_⟩⟩
 ·have ne:a≠D:=fun z=>n (z ▸ List.mem_of_getElem? e1)
  exact (sh.obj k a u e1 e2).mono (fun vs e=>by rw [bQ ne]; exact e) (fun b w f=>⟨⟨w.1,f⟩,fun vs e=>by rw [bQ w.2]; exact e⟩) fun _ _ r=>st.reps r
 ·have ne:a≠D:=fun z=>n (z ▸ List.mem_of_getElem? e1)
  exact (sh.obj k a u e1 e2).mono (fun vs e=>by rw [bQ ne]; exact e) (fun b w f=>⟨⟨w,f⟩,fun vs e=>by rw [bQ w.2]; exact e⟩) fun _ _ r=>st.reps r
theorem Sim.toLess {D:Addr} (s:Sim K (p.hold D) S H):Sim K (p.less D) S H :=
 ⟨s.nd,s.len,s.sub,fun a h=>⟨s.wc a h,h.2⟩,fun a h=>s.mu a h.1,fun k a o e1 e2 =>
  (s.obj k a o e1 e2).mono (fun _ e=>e) (fun b w f=>⟨⟨w,f⟩,fun _ e=>e⟩) fun _ _ r=>kU (fun a h=>h.1) r⟩
theorem bC.toLess {D:Addr} (st:bC p H q H') (h:H D=none):bC p H (q.less D) H':=by
 have nD:∀ a,p.c a→a≠D:=fun a c z=>by
  obtain ⟨o,e,_⟩:=st.mu a c
  rw [z,h] at e
  cases e
 exact ⟨st.wc,st.mu,st.pre,fun a x=>⟨st.mw a x,nD a (st.wc a x)⟩,fun a x=>⟨st.mono a x,nD a x⟩,st.nf,fun a x=>st.nw a x.1,fun a x=>st.nc a x.1,st.keep⟩
variable {sc:Scope} {own:List Str} {cap:List (Nat × Str)} {elt target iter:Expr} {pos:Pos} {mi:MI} {g:GM} {me:ME}
theorem abr {σ:St} {ρ:Rho} {xs zs:List PV} {G:Gd} {J:It} {Q:VK} {D:Addr} {S2:Sto} (sm:Sim K p S H) (ev:cL K p H ρ σ) (it:dM K p H (xs,G) J) (z:bY G g me xs (cD own cap ρ) S=.ok zs S2) (hD:H D=none)
  (k:∀ q H' vs,bC p H q H'→Sim K q S2 H'→Sim K (q.hold D) S2 H'→q.w D→D ∉ q.f→H' D=some (.lst vs)→vs.length≤sizeLine→aJ K q.c H' zs vs→Q (.ref D) H') :
  qT J (gP K g) (tP K cl E0 (bL K) me) (fL own cap σ) H D Q:=by
 obtain ⟨st0,sm0⟩:=sm.res (D:=D) (o:=.lst []) hD trivial
 have sh0:=sm.resHold (D:=D) (o:=.lst []) hD trivial
 have nf0:D ∉ p.f:=fun h=>sm.notin hD (sm.wc D (sm.sub D h))
 refine aee xs.length it.1 (fun i σ1 H1 ys=>ys.length=i∧i≤xs.length∧H1 D=some (.lst ys)∧∃ p1 S1 ρ1 us ws,(Sim K p1 S1 H1∧Sim K (p1.hold D) S1 H1)∧bC p H p1 H1∧p1.w D∧D ∉ p1.f∧cL K p1 H1 ρ1 σ1∧dM K p1 H1 (xs,G) J∧gOk G S1∧aJ K p1.c H1 us ys∧zs=us++ws∧bY G g me (xs.drop i) ρ1 S1=.ok ws S2) ?_ ?_ ?_ ?_ ?_
 ·refine ⟨rfl,Nat.zero_le _,eL,p.res D,S,cD own cap ρ,[],zs,⟨sm0,sh0⟩,st0,.inr rfl,nf0,aax (st0.repE ev),it.step st0,?_,.nil,rfl,by simpa using z⟩
  exact zS z
 ·rintro i σ1 H1 ys ⟨h1,_,h2,_⟩
  exact ⟨h1,h2⟩
 ·rintro i σ1 H1 ys hi ⟨_,_,_,p1,S1,ρ1,us,ws,⟨sm1,sh1⟩,st1,w1,f1,ev1,it1,g1,_⟩
  exact ((it1.2 p1 H1 S1 sm1.step sm1 g1).1 i xs[i] (List.getElem?_eq_getElem hi)).1
 ·rintro i σ1 H1 ys x H2 hi ⟨hl,_,hH,p1,S1,ρ1,us,ws,⟨sm1,sh1⟩,st1,w1,f1,ev1,it1,g1,r1,e1,c1⟩ hy
  obtain ⟨same,rx⟩:=((it1.2 p1 H1 S1 sm1.step sm1 g1).1 i xs[i] (List.getElem?_eq_getElem hi)).2 x H2 hy
  rw [List.drop_eq_getElem_cons hi] at c1
  unfold bY at c1
  rw [if_pos g1] at c1
  split at c1
  ·cases c1
  ·rename_i ρ2 gz
   split at c1
   ·rename_i y S3 mz
    split at c1
    ·rename_i vs S4 cz
     cases c1
     have st2:=sm1.same same
     have sm2:=sm1.ofSame same
     have smh:=sh1.ofSame same
     have stS:bC p H p1 H2:=st1.trans st2
     refine ⟨p1,S1,ρ1,xs[i],ρ2,sm2,st2.repE ev1,rx,gz,fun σ3 ev3=>⟨p1.hold D,S1,ρ2,smh,⟨ev3.len,ev3.at_⟩,?_⟩⟩
     rw [mz]
     intro q H4 y' st4 sm4 ry
     have hD2:H2 D=some (.lst ys):=same _ _ hH
     have hD4:H4 D=some (.lst ys):=st4.keep D _ hD2 fun z=>z.2 rfl
     have fq:D ∉ q.f:=fun h=>by
      have:=st4.nf D h f1
      rw [hD2] at this
      cases this
     have stU:=bC.unhold w1 st4 sm2
     have nq:¬ q.w D:=fun z=>by
      have:=st4.nw D z fun y=>y.2 rfl
      rw [hD2] at this
      cases this
     have smU:Sim K ⟨q.f,fun a=>q.w a∨a=D,q.c⟩ S3 H4:=⟨sm4.nd,sm4.len,fun a h=>.inl (sm4.sub a h),fun a h=>h.elim (sm4.wc a) fun z=>z ▸ st4.mono D (sm2.wc D w1),sm4.mu,fun k a o e1 e2 =>
      (sm4.obj k a o e1 e2).mono (fun _ e=>e) (fun b w f=>⟨⟨.inl w,f⟩,fun _ e=>e⟩) fun _ _ r=>r⟩
     have shU:Sim K (Ph.hold ⟨q.f,fun a=>q.w a∨a=D,q.c⟩ D) S3 H4:=⟨sm4.nd,sm4.len,fun a h=>⟨.inl (sm4.sub a h),fun z=>nq (z ▸ sm4.sub a h)⟩,fun a h=>smU.wc a h.1,sm4.mu,fun k a o e1 e2 =>
      (sm4.obj k a o e1 e2).mono (fun _ e=>e) (fun b w f=>⟨⟨⟨.inl w,fun z=>nq (z ▸ w)⟩,f⟩,fun _ e=>e⟩) fun _ _ r=>r⟩
     obtain ⟨stG,smG,shG⟩:=smU.grow (ys:=ys) (D:=D) (o:=.lst (ys++[y'])) shU (.inr rfl) fq trivial
     have stA:=st2.trans (stU.trans stG)
     refine ahA hi hD4 ⟨by rw [List.length_append,hl]; rfl,hi,eL,_,S3,ρ2,us++[y],vs,⟨smG,shG⟩,st1.trans stA,.inr rfl,fq,stG.repE (stU.repE ev3),it1.step stA,zS cz,?_,by rw [e1,List.append_assoc]; rfl,cz⟩
     exact (stA.reps r1).append (.cons (stG.rep ry) .nil)
    ·cases c1
   ·cases c1
 ·rintro σ1 H1 ys ⟨hl,_,hH,p1,S1,ρ1,us,ws,⟨sm1,sh1⟩,st1,w1,f1,ev1,it1,g1,r1,e1,c1⟩
  rw [List.drop_length] at c1
  unfold bY at c1
  rw [if_pos g1] at c1
  cases c1
  refine ⟨(it1.2 p1 H1 _ sm1.step sm1 g1).2,?_⟩
  rw [List.append_nil] at e1
  subst e1
  exact k p1 H1 ys st1 sm1 sh1 w1 f1 hH (by rw [hl]; exact it.1) r1
theorem sD {σ:St} {ρ:Rho} {xs:List PV × Gd} {J:It} {Q:VK} {D:Addr} (sm:Sim K p S H) (ev:cL K p H ρ σ) (it:dM K p H xs J) (k:bI K cl (bL K) p H ((bY xs.2 g me xs.1 (cD own cap ρ) S).bind fun ys S2=>.ok (.pv (.lst ys)) S2) Q E) (hD:H D=none) :
  qT J (gP K g) (tP K cl E0 (bL K) me) (fL own cap σ) H D Q:=by
 cases z:bY xs.2 g me xs.1 (cD own cap ρ) S with
 | fail=>rw [z] at k; exact k.elim
 | exc n S'=>exact absurd z (aat _ _ _ _ _)
 | ok zs S2 =>
  rw [z] at k
  have k:∀ q H' x,bC p H q H'→Sim K q S2 H'→Rep K q.c H' (.lst zs) x→Q x H':=k
  refine abr sm ev it z hD fun q H' vs st1 sm1 sh1 w1 f1 hH l1 r1=>?_
  refine k (q.less D) H' (.ref D) (st1.toLess hD) sh1.toLess ?_
  unfold Rep
  exact ⟨D,vs,rfl,.inl ⟨hH,fun z=>z.2 rfl⟩,l1,kU (fun a h=>h.1) r1⟩
theorem gI (k:fW X sc own cap) (hi:PIp K cl E X target iter mi) (hc:X.calm=true) (hg:∀ C s₀ H₀ ex,PGp K (cT X sc (bB own cap) C s₀ H₀ ex) target g) (he:∀ C s₀ H₀ ex,PEp K cl E0 (cT X sc (bB own cap) C s₀ H₀ ex) elt me)
  (hs:∀ x,foldedSetIterable iter X.env x=pure x:=by intro _; rfl):PEp K cl E X (.ListComp elt [⟨target,iter,[],0⟩] sc pos) (bF own cap mi g me):=by
 intro hK
 refine PE.imp (aeB k (hi hK) hc (fun C s₀ H₀ ex=>hg C s₀ H₀ ex hK) (fun C s₀ H₀ ex=>he C s₀ H₀ ex hK) hs) fun σ H Q ⟨p,S,ρ,s,ev,h⟩=>?_
 exact bR s ev h fun q H' xs J S' stp sm ev it kk D hD=>sD sm ev it kk hD
theorem mQ {i:Nat} {x:Str} {py spos:Pos} (hN:X.N.Nodup) (hx:X.N[i]?=some x) (hl:Loc X.env.scope x) (k:fW X sc own cap) (hi:PIp K cl E X target iter mi) (hc:X.calm=true) (hg:∀ C s₀ H₀ ex,PGp K (cT X sc (bB own cap) C s₀ H₀ ex) target g) (he:∀ C s₀ H₀ ex,PEp K cl E0 (cT X sc (bB own cap) C s₀ H₀ ex) elt me)
  (hs:∀ x,foldedSetIterable iter X.env x=pure x:=by intro _; rfl) (hsw:swapsWith (.ListComp elt [⟨target,iter,[],0⟩] sc pos) (some (.Name x py)) spos.line X.env=pure true:=by rfl)
  (hf:X.fn x=true∨X.env.scope.names.lookup x=some .local:=by first | exact .inl rfl | exact .inr rfl | assumption) :
  PSp K cl E X (.Assign [.Name x py] (.ListComp elt [⟨target,iter,[],0⟩] sc pos) spos) (aM i (bF own cap mi g me)):=by
 intro hK
 refine PS.imp (ad6 hN hx hl k (hi hK) hc (fun C s₀ H₀ ex=>hg C s₀ H₀ ex hK) (fun C s₀ H₀ ex=>he C s₀ H₀ ex hK) hs hsw hf) fun D σ H ⟨p,S,ρ,s,ev,h⟩=>?_
 have h2:tP K cl E (bL K) (bF own cap mi g me) σ H fun y H1=>D.nx (σ.set i (some y)) H1:=by
  refine ⟨p,S,ρ,s,ev,?_⟩
  unfold aM at h
  cases z:bF own cap mi g me ρ S with
  | ok v S1 =>
   rw [z] at h
   exact fun q H' y st sm r=>h q H' _ st sm ((st.repE ev).set r i)
  | exc n S1=>rw [z] at h; exact h
  | fail=>rw [z] at h; exact h
 obtain ⟨p,S,ρ,s,ev,h⟩:=h2
 exact bR s ev h fun q H' xs J S' stp sm ev it kk B hB=>sD sm ev it kk hB
end
end L2.Pp
namespace L2.Pp
open PySem PySem.Spec PyProof.Rows Bn
def iN:List (Option Bool)→Option (List Bool)
 | []=>some []
 | some b :: r=>match iN r with
  | some bs=>some (b :: bs)
  | none=>none
 | none :: _=>none
theorem xM:∀ {l:List (Option Bool)} {bs:List Bool},iN l=some bs→bs.length=l.length
 | [],_,e=>by cases e; rfl
 | some b :: r,bs,e=>by
  unfold iN at e
  split at e
  ·rename_i cs h
   cases e
   rw [List.length_cons,List.length_cons,xM h]
  ·cases e
 | none :: r,_,e=>by cases e
theorem rQ:∀ {l:List (Option Bool)} {bs:List Bool} {i:Nat} {o:Option Bool},iN l=some bs→l[i]?=some o→∃ b,o=some b∧bs[i]?=some b
 | [],_,i,o,_,h=>by simp at h
 | some b :: r,bs,i,o,e,h=>by
  unfold iN at e
  split at e
  ·rename_i cs h'
   cases e
   cases i with
   | zero =>
    simp at h
    exact ⟨b,h.symm,rfl⟩
   | succ i=>simpa using rQ h' (by simpa using h)
  ·cases e
 | none :: r,_,_,_,e,_=>by cases e
def eqN:Nat→PV→PV→Option Bool
 | _,.non,.non=>some true
 | _,.bl a,.bl b=>some (a == b)
 | _,.int a,.int b=>some (a == b)
 | _,.str a,.str b=>some (a == b)
 | n+1,.tup xs,.tup ys=>match iN (List.zipWith (eqN n) xs ys) with
  | some bs=>some (bs.all id && xs.length == ys.length)
  | none=>none
 | n+1,.lst xs,.lst ys=>if xs.length=ys.length then (match iN (List.zipWith (eqN n) xs ys) with
  | some bs=>some (bs.all id)
  | none=>none) else some false
 | _,_,_=>none
theorem oT (bs:List Bool):((List.range bs.length).all fun j=>bs.getD j true)=bs.all id:=by
 rw [Bool.eq_iff_iff,List.all_eq_true,List.all_eq_true]
 constructor
 ·intro h b hb
  obtain ⟨j,hj,e⟩:=List.getElem_of_mem hb
  have:=h j (by simpa using hj)
  simpa [List.getD,hj,e] using this
 ·intro h j hj
  have hj:j < bs.length:=by simpa using hj
  have:=h bs[j] (List.getElem_mem hj)
  simpa [List.getD,hj] using this
section
variable {X:Cx} {pins:List (Addr × Obj)} {σ:St} {H:Hp} {s:Shared} {c:Addr→Prop}
theorem pB {n:Nat} {xs ys:List PV} {vs ws:List V} {its jts:List Value} {bs:List Bool} {A:Around}
  (ih:∀ (v w:PV) (x y:V) (u u':Value) (b:Bool),Rep X.K c H v x→Rep X.K c H w y→bH x u→bH y u'→eqN n v w=some b→SeqAt.EqAt A s u u' b)
  (r1:aJ X.K c H xs vs) (r2:aJ X.K c H ys ws) (q1:aX vs its) (q2:aX ws jts) (e:iN (List.zipWith (eqN n) xs ys)=some bs) :
  ∀ j (h1:j < its.toArray.size) (h2:j < jts.toArray.size),SeqAt.EqAt A s its.toArray[j] jts.toArray[j] (bs.getD j true):=fun j h1 h2=>by
 have l1:=r1.length.trans q1.length
 have l2:=r2.length.trans q2.length
 have g1:j < xs.length:=by rw [l1]; simpa using h1
 have g2:j < ys.length:=by rw [l2]; simpa using h2
 obtain ⟨x,ex,rx⟩:=r1.get (List.getElem?_eq_getElem g1)
 obtain ⟨y,ey,ry⟩:=r2.get (List.getElem?_eq_getElem g2)
 obtain ⟨u,eu,ru⟩:=q1.get ex
 obtain ⟨u',eu',ru'⟩:=q2.get ey
 have hz:(List.zipWith (eqN n) xs ys)[j]?=some (eqN n xs[j] ys[j]):=by
  rw [List.getElem?_zipWith,List.getElem?_eq_getElem g1,List.getElem?_eq_getElem g2]
 obtain ⟨b,eb,eb'⟩:=rQ e hz
 have e1:its.toArray[j]=u:=by
  rw [List.getElem_toArray]
  rw [List.getElem?_eq_getElem (by simpa using h1)] at eu
  exact Option.some.inj eu
 have e2:jts.toArray[j]=u':=by
  rw [List.getElem_toArray]
  rw [List.getElem?_eq_getElem (by simpa using h2)] at eu'
  exact Option.some.inj eu'
 rw [e1,e2]
 have e3:bs.getD j true=b:=by simp [List.getD,eb']
 rw [e3]
 exact ih _ _ _ _ _ _ _ rx ry ru ru' eb
theorem mY {n:Nat} {xs ys:List PV} {bs:List Bool} (e:iN (List.zipWith (eqN n) xs ys)=some bs):bs.length=min xs.length ys.length:=by
 rw [xM e,List.length_zipWith]
theorem yZ (n:Nat) (v w:PV) (x:V) (b:Bool) (nt:∀ xs,v≠.tup xs) (nl:∀ xs,v≠.lst xs) (h:Rep X.K c H v x) (g:Rep X.K c H w x) (e:eqN n v w=some b):b=true:=by
 cases v with
 | tup xs=>exact absurd rfl (nt xs)
 | lst xs=>exact absurd rfl (nl xs)
 | non =>
  cases w <;> first | (unfold eqN at e; simp at e; done) | skip
  unfold eqN at e; cases e; rfl
 | bl i =>
  cases w <;> first | (unfold eqN at e; simp at e; done) | skip
  unfold Rep at h g; subst h; injection g with g'; subst g'; unfold eqN at e; cases e; exact beq_self_eq_true _
 | int i =>
  cases w <;> first | (unfold eqN at e; simp at e; done) | skip
  unfold Rep at h g; subst h; injection g with g'; subst g'; unfold eqN at e; cases e; exact beq_self_eq_true _
 | str i =>
  cases w <;> first | (unfold eqN at e; simp at e; done) | skip
  unfold Rep at h g; subst h; injection g with g'; subst g'; unfold eqN at e; cases e; exact beq_self_eq_true _
theorem zJ (I:Inv X pins σ H s):∀ (n:Nat) (v w:PV) (x:V) (b:Bool),Rep X.K c H v x→Rep X.K c H w x→eqN n v w=some b→b=true:=by
 intro n
 induction n with
 | zero =>
  intro v w x b h g e
  cases v with
  | tup xs=>unfold eqN at e; simp at e
  | lst xs=>unfold eqN at e; simp at e
  | _=>exact yZ 0 _ w x b (by intro _ z; cases z) (by intro _ z; cases z) h g e
 | succ n ih =>
  have items:∀ (xs ys:List PV) (vs:List V) (bs:List Bool),aJ X.K c H xs vs→aJ X.K c H ys vs→iN (List.zipWith (eqN n) xs ys)=some bs→bs.all id=true∧xs.length=ys.length:=fun xs ys vs bs r1 r2 e=>by
   have ll:=r1.length.trans r2.length.symm
   refine ⟨?_,ll⟩
   rw [List.all_eq_true]
   intro b hb
   obtain ⟨j,hj,ej⟩:=List.getElem_of_mem hb
   have hj':=hj
   rw [mY e] at hj'
   have g1:j < xs.length:=by omega
   have g2:j < ys.length:=by omega
   obtain ⟨x,ex,rx⟩:=r1.get (List.getElem?_eq_getElem g1)
   obtain ⟨y,ey,ry⟩:=r2.get (List.getElem?_eq_getElem g2)
   have:=ex.symm.trans ey
   cases this
   have hz:(List.zipWith (eqN n) xs ys)[j]?=some (eqN n xs[j] ys[j]):=by
    rw [List.getElem?_zipWith,List.getElem?_eq_getElem g1,List.getElem?_eq_getElem g2]
   obtain ⟨b',eb,eb'⟩:=rQ e hz
   rw [List.getElem?_eq_getElem hj,ej] at eb'
   cases eb'
   exact ih _ _ _ _ rx ry eb
  intro v w x b h g e
  cases v with
  | tup xs =>
   cases w with
   | tup ys =>
    unfold Rep at h g
    obtain ⟨a,vs,rfl,t1,_,r1⟩:=h
    obtain ⟨a',ws,e1,t2,_,r2⟩:=g
    cases e1
    have:=I.tuple_inj t1 t2
    subst this
    unfold eqN at e
    split at e
    ·rename_i bs hb
     obtain ⟨z1,z2⟩:=items xs ys vs bs r1 r2 hb
     rw [z1,z2,beq_self_eq_true] at e
     cases e
     rfl
    ·cases e
   | _=>unfold eqN at e; simp at e
  | lst xs =>
   cases w with
   | lst ys =>
    unfold Rep at h g
    obtain ⟨a,vs,rfl,t1,_,r1⟩:=h
    obtain ⟨a',ws,e1,t2,_,r2⟩:=g
    cases e1
    have:=I.list_inj t1.sq t2.sq
    subst this
    unfold eqN at e
    rw [if_pos (r1.length.trans r2.length.symm)] at e
    split at e
    ·rename_i bs hb
     obtain ⟨z1,z2⟩:=items xs ys vs bs r1 r2 hb
     rw [z1] at e
     cases e
     rfl
    ·cases e
   | _=>unfold eqN at e; simp at e
  | _=>exact yZ (n+1) _ w x b (by intro _ z; cases z) (by intro _ z; cases z) h g e
theorem ads (I:Inv X pins σ H s):∀ (n:Nat) (v w:PV) (x y:V) (u u':Value) (b:Bool) (A:Around),A.units+n < cLine→Rep X.K c H v x→Rep X.K c H w y→bH x u→bH y u'→eqN n v w=some b→SeqAt.RcAt A s u u' b∧SeqAt.EqAt A s u u' b:=by
 have flat:∀ (n:Nat) (v w:PV) (x y:V) (u u':Value) (b:Bool) (A:Around),(∀ xs,v≠.tup xs)→(∀ xs,v≠.lst xs)→Rep X.K c H v x→Rep X.K c H w y→bH x u→bH y u'→eqN n v w=some b→SeqAt.RcAt A s u u' b∧SeqAt.EqAt A s u u' b:=by
  intro n v w x y u u' b A nt nl h g r r' e
  cases v with
  | tup xs=>exact absurd rfl (nt xs)
  | lst xs=>exact absurd rfl (nl xs)
  | non =>
   cases w <;> first | (unfold eqN at e; simp at e; done) | skip
   unfold Rep at h g; subst h g; cases r; cases r'; unfold eqN at e; cases e; exact ⟨SeqAt.RcAt.none_none,SeqAt.EqAt.same _⟩
  | bl i =>
   cases w <;> first | (unfold eqN at e; simp at e; done) | skip
   unfold Rep at h g; subst h g; cases r; cases r'; unfold eqN at e; cases e; exact ⟨SeqAt.RcAt.bool_bool _ _,SeqAt.EqAt.bool_bool _ _⟩
  | int i =>
   cases w <;> first | (unfold eqN at e; simp at e; done) | skip
   unfold Rep at h g; subst h g; obtain ⟨t,rfl⟩:=r; obtain ⟨t',rfl⟩:=r'; unfold eqN at e; cases e; exact ⟨SeqAt.RcAt.int_int _ _ _ _,SeqAt.EqAt.int_int _ _ _ _⟩
  | str i =>
   cases w <;> first | (unfold eqN at e; simp at e; done) | skip
   unfold Rep at h g; subst h g; obtain ⟨t,rfl⟩:=r; obtain ⟨t',rfl⟩:=r'; unfold eqN at e; cases e; exact ⟨SeqAt.RcAt.str_str _ _ _ _,SeqAt.EqAt.str_str _ _ _ _⟩
 have main:∀ (n:Nat) (v w:PV) (x y:V) (u u':Value) (b:Bool) (A:Around),A.units+n < cLine→Rep X.K c H v x→Rep X.K c H w y→bH x u→bH y u'→eqN n v w=some b→SeqAt.RcAt A s u u' b∧SeqAt.EqAt A s u u' b:=by
  intro n
  induction n with
  | zero =>
   intro v w x y u u' b A hu h g r r' e
   cases v with
   | tup xs=>unfold eqN at e; simp at e
   | lst xs=>unfold eqN at e; simp at e
   | _=>exact flat 0 _ w x y u u' b A (by intro _ z; cases z) (by intro _ z; cases z) h g r r' e
  | succ n ih =>
   intro v w x y u u' b A hu h g r r' e
   have hin:A.in1.units+n < cLine:=by show A.units+1+n < cLine; omega
   cases v with
   | tup xs =>
    cases w with
    | tup ys =>
     have hs:x=y→b=true:=fun z=>zJ I (n+1) _ _ x b h (z ▸ g) e
     unfold Rep at h g
     obtain ⟨a,vs,rfl,t1,_,r1⟩:=h
     obtain ⟨a',ws,rfl,t2,_,r2⟩:=g
     cases r
     cases r'
     obtain ⟨its,q1,p1,_⟩:=I.tuple t1
     obtain ⟨jts,q2,p2,_⟩:=I.tuple t2
     unfold eqN at e
     split at e
     ·rename_i bs hb
      cases e
      have z:=SeqAt.RcAt.tuples (A:=A) (s:=s) (e:=fun j=>bs.getD j true) (show s.heap.IsTuple a its.toArray from p1) (show s.heap.IsTuple a' jts.toArray from p2) (by omega)
       (pB (A:=A.in1) (fun v w x y u u' b h1 h2 h3 h4 h5=>(ih v w x y u u' b A.in1 hin h1 h2 h3 h4 h5).2) r1 r2 q1 q2 hb)
      have l1:=r1.length.trans q1.length
      have l2:=r2.length.trans q2.length
      rw [List.size_toArray,List.size_toArray,← l1,← l2,← mY hb,oT] at z
      refine ⟨z,?_⟩
      by_cases ha:a=a'
      ·subst ha
       rw [hs rfl]
       exact SeqAt.EqAt.same _
      ·exact SeqAt.EqAt.of_refs ha z
     ·cases e
    | _=>unfold eqN at e; simp at e
   | lst xs =>
    cases w with
    | lst ys =>
     have hs:x=y→b=true:=fun z=>zJ I (n+1) _ _ x b h (z ▸ g) e
     unfold Rep at h g
     obtain ⟨a,vs,rfl,t1,_,r1⟩:=h
     obtain ⟨a',ws,rfl,t2,_,r2⟩:=g
     cases r
     cases r'
     obtain ⟨its,q1,p1,_⟩:=I.list t1.sq
     obtain ⟨jts,q2,p2,_⟩:=I.list t2.sq
     have l1:=r1.length.trans q1.length
     have l2:=r2.length.trans q2.length
     have fin:SeqAt.RcAt A s (.ref a) (.ref a') b→SeqAt.RcAt A s (.ref a) (.ref a') b∧SeqAt.EqAt A s (.ref a) (.ref a') b:=fun z=>by
      refine ⟨z,?_⟩
      by_cases ha:a=a'
      ·subst ha
       rw [hs rfl]
       exact SeqAt.EqAt.same _
      ·exact SeqAt.EqAt.of_refs ha z
     unfold eqN at e
     split at e
     ·rename_i hl
      split at e
      ·rename_i bs hb
       cases e
       have z:=SeqAt.RcAt.lists (A:=A) (s:=s) (e:=fun j=>bs.getD j true) p1.isList p2.isList (by rw [List.size_toArray,List.size_toArray]; omega) (by omega)
        (pB (A:=A.in1) (fun v w x y u u' b h1 h2 h3 h4 h5=>(ih v w x y u u' b A.in1 hin h1 h2 h3 h4 h5).2) r1 r2 q1 q2 hb)
       have hm:its.length=bs.length:=by rw [mY hb]; omega
       rw [List.size_toArray,hm,oT] at z
       exact fin z
      ·cases e
     ·rename_i hl
      cases e
      exact fin (SeqAt.RcAt.lists_lengths p1.isList p2.isList (by rw [List.size_toArray,List.size_toArray]; simp; omega) (by omega))
    | _=>unfold eqN at e; simp at e
   | _=>exact flat (n+1) _ w x y u u' b A (by intro _ z; cases z) (by intro _ z; cases z) h g r r' e
 exact main
end
end L2.Pp
namespace L2.Pp
noncomputable section
open PySem PySem.Spec PyProof.Rows Bn
section
variable {X:Cx}
theorem agI {pins:List (Addr × Obj)} {σ:St} {H:Hp} {s:Shared} (I:Inv X pins σ H s) {p:Ph} {v w:PV} {x y:V} {u u':Value} {b:Bool} {A:Around} (hu:A.units+8 < cLine) (h:dL X.K p H v x) (g:dL X.K p H w y) (r:bH x u) (r':bH y u') (e:eqN 8 v w=some b) :
  SeqAt.RcAt A s u u' b∧SeqAt.RcNeAt A s u u' (!b):=by
 have hin:A.in1.units+7 < cLine:=by show A.units+1+7 < cLine; omega
 cases v with
 | non =>
  cases w <;> first | (unfold eqN at e; simp at e; done) | skip
  have h:=h.non; have g:=g.non; subst h g; cases r; cases r'; unfold eqN at e; cases e; exact ⟨SeqAt.RcAt.none_none,SeqAt.RcNeAt.none_none⟩
 | bl i =>
  cases w <;> first | (unfold eqN at e; simp at e; done) | skip
  have h:=h.bl; have g:=g.bl; subst h g; cases r; cases r'; unfold eqN at e; cases e; exact ⟨SeqAt.RcAt.bool_bool _ _,SeqAt.RcNeAt.bool_bool _ _⟩
 | int i =>
  cases w <;> first | (unfold eqN at e; simp at e; done) | skip
  have h:=h.int; have g:=g.int; subst h g; obtain ⟨t,rfl⟩:=r; obtain ⟨t',rfl⟩:=r'; unfold eqN at e; cases e; exact ⟨SeqAt.RcAt.int_int _ _ _ _,SeqAt.RcNeAt.int_int _ _ _ _⟩
 | str i =>
  cases w <;> first | (unfold eqN at e; simp at e; done) | skip
  have h:=h.str; have g:=g.str; subst h g; obtain ⟨t,rfl⟩:=r; obtain ⟨t',rfl⟩:=r'; unfold eqN at e; cases e; exact ⟨SeqAt.RcAt.str_str _ _ _ _,SeqAt.RcNeAt.str_str _ _ _ _⟩
 | tup xs =>
  cases w with
  | tup ys =>
   obtain ⟨a,vs,rfl,t1,_,r1⟩:=h.tup
   obtain ⟨a',ws,rfl,t2,_,r2⟩:=g.tup
   cases r
   cases r'
   obtain ⟨its,q1,p1,_⟩:=I.tuple t1
   obtain ⟨jts,q2,p2,_⟩:=I.tuple t2
   unfold eqN at e
   split at e
   ·rename_i bs hb
    cases e
    have it:=pB (s:=s) (A:=A.in1) (fun v w x y u u' b h1 h2 h3 h4 h5=>(ads I 7 v w x y u u' b A.in1 hin h1 h2 h3 h4 h5).2) r1 r2 q1 q2 hb
    have z:=SeqAt.RcAt.tuples (A:=A) (s:=s) (e:=fun j=>bs.getD j true) (show s.heap.IsTuple a its.toArray from p1) (show s.heap.IsTuple a' jts.toArray from p2) (by omega) it
    have z':=SeqAt.RcNeAt.tuples (A:=A) (s:=s) (e:=fun j=>bs.getD j true) (show s.heap.IsTuple a its.toArray from p1) (show s.heap.IsTuple a' jts.toArray from p2) (by omega) it
    have l1:=r1.length.trans q1.length
    have l2:=r2.length.trans q2.length
    rw [List.size_toArray,List.size_toArray,← l1,← l2,← mY hb,oT] at z z'
    exact ⟨z,z'⟩
   ·cases e
  | _=>unfold eqN at e; simp at e
 | lst xs =>
  cases w with
  | lst ys =>
   obtain ⟨a,vs,rfl,t1,_,r1⟩:=h.lst
   obtain ⟨a',ws,rfl,t2,_,r2⟩:=g.lst
   cases r
   cases r'
   obtain ⟨its,q1,p1,_⟩:=I.list t1
   obtain ⟨jts,q2,p2,_⟩:=I.list t2
   have l1:=r1.length.trans q1.length
   have l2:=r2.length.trans q2.length
   unfold eqN at e
   split at e
   ·rename_i hl
    split at e
    ·rename_i bs hb
     cases e
     have it:=pB (s:=s) (A:=A.in1) (fun v w x y u u' b h1 h2 h3 h4 h5=>(ads I 7 v w x y u u' b A.in1 hin h1 h2 h3 h4 h5).2) r1 r2 q1 q2 hb
     have z:=SeqAt.RcAt.lists (A:=A) (s:=s) (e:=fun j=>bs.getD j true) p1.isList p2.isList (by rw [List.size_toArray,List.size_toArray]; omega) (by omega) it
     have z':=SeqAt.RcNeAt.lists (A:=A) (s:=s) (e:=fun j=>bs.getD j true) p1.isList p2.isList (by rw [List.size_toArray,List.size_toArray]; omega) (by omega) it
     have hm:its.length=bs.length:=by rw [mY hb]; omega
     rw [List.size_toArray,hm,oT] at z z'
     exact ⟨z,z'⟩
    ·cases e
   ·rename_i hl
    cases e
    exact ⟨SeqAt.RcAt.lists_lengths p1.isList p2.isList (by rw [List.size_toArray,List.size_toArray]; simp; omega) (by omega),SeqAt.RcNeAt.lists_lengths p1.isList p2.isList (by rw [List.size_toArray,List.size_toArray]; simp; omega) (by omega)⟩
  | _=>unfold eqN at e; simp at e
def rD (K:PySem.W.Frag) (neg:Bool):R2:=fun x y H Q=>∃ p v w b,dL K p H v x∧dL K p H w y∧eqN 8 v w=some b∧Q (.bl (if neg then !b else b)) H
theorem fA (hu:X.A.units+8 < cLine):OpR X (compareOp .Eq) (rD X.K false):=by
 intro pins s σ H x y v u Q I rx ry h
 obtain ⟨p,a,b,k,h1,h2,e,q⟩:=h
 exact (agI I hu h1 h2 rx ry e).1 X.prog X.w X.xe _ ⟨.bl k,H,I,rfl,q⟩
theorem pQ (hu:X.A.units+8 < cLine):OpR X (compareOp .NotEq) (rD X.K true):=by
 intro pins s σ H x y v u Q I rx ry h
 obtain ⟨p,a,b,k,h1,h2,e,q⟩:=h
 exact (agI I hu h1 h2 rx ry e).2 X.prog X.w X.xe _ ⟨.bl (!k),H,I,rfl,q⟩
def fEq (a b:PV):Option PV:=(eqN 8 a b).map .bl
def fNe (a b:PV):Option PV:=(eqN 8 a b).map fun k=>.bl (!k)
theorem fE {K:PySem.W.Frag}:OpS K (rD K false) fEq:=fun {p S H a b c x y Q} s ra rb e k=>by
 unfold fEq at e
 cases z:eqN 8 a b with
 | none=>rw [z] at e; cases e
 | some t =>
  rw [z] at e
  cases e
  exact ⟨p,a,b,t,ra,rb,z,k H _ (cK.refl H) (by unfold Rep; rfl)⟩
theorem qM {K:PySem.W.Frag}:OpS K (rD K true) fNe:=fun {p S H a b c x y Q} s ra rb e k=>by
 unfold fNe at e
 cases z:eqN 8 a b with
 | none=>rw [z] at e; cases e
 | some t =>
  rw [z] at e
  cases e
  exact ⟨p,a,b,t,ra,rb,z,k H _ (cK.refl H) (by unfold Rep; rfl)⟩
def i2 (f:Int→Int→Option PV):PV→PV→Option PV
 | .int a,.int b=>f a b
 | _,_=>none
open Classical in
def cI (C:Int→Int→Prop) (g:Int→Int→PV) (a b:Int):Option PV:=if C a b then some (g a b) else none
def toV:PV→V
 | .int i=>.int i
 | .bl b=>.bl b
 | .str s=>.str s
 | _=>.non
def vS:PV→Bool
 | .int _=>true
 | .bl _=>true
 | .str _=>true
 | .non=>true
 | _=>false
theorem iB {K:PySem.W.Frag} {c:Addr→Prop} {H:Hp} {v:PV} (h:vS v=true):Rep K c H v (toV v):=by
 cases v with
 | tup _=>cases h
 | lst _=>cases h
 | _=>unfold Rep toV; rfl
theorem qR {K:PySem.W.Frag} {C:Int→Int→Prop} {g:Int→Int→PV} {h:Int→Int→V} (fl:∀ i j,vS (g i j)=true∧toV (g i j)=h i j):OpS K (rI C h) (i2 (cI C g)):=fun {p S H a b c x y Q} s ra rb e k=>by
 cases a with
 | int i =>
  cases b with
  | int j =>
   unfold i2 cI at e
   dsimp only at e
   split at e
   ·rename_i hc
    cases e
    refine ⟨i,j,ra.int,rb.int,hc,?_⟩
    rw [← (fl i j).2]
    exact k H _ (cK.refl H) (iB (fl i j).1)
   ·cases e
  | _=>cases e
 | _=>cases e
theorem rC {K:PySem.W.Frag} {g:Int→Int→PV} {h:Int→Int→V} (fl:∀ i j,vS (g i j)=true∧toV (g i j)=h i j):OpS K (rI0 h) (i2 fun i j=>some (g i j)):=fun {p S H a b c x y Q} s ra rb e k=>by
 cases a with
 | int i =>
  cases b with
  | int j =>
   cases e
   refine ⟨i,j,ra.int,rb.int,?_⟩
   rw [← (fl i j).2]
   exact k H _ (cK.refl H) (iB (fl i j).1)
  | _=>cases e
 | _=>cases e
def lT (i j:Int):Prop:=wF i j∨(Bd 1000000 i∧Bd 1000000 j)
theorem lT.ok {i j:Int} (h:lT i j):IntMulOk i j:=by
 rcases h with h | h
 ·exact h.ok
 have h1:=abj h.1
 have h2:=abj h.2
 unfold IntMulOk Builtin.Int.intTooBig bitsLine
 intro c
 simp only [Bool.and_eq_true,decide_eq_true_eq] at c
 have:=c.2
 omega
theorem bV:OpR X (binaryOp .Mult) (rI lT fun i j=>.int (i*j)):=opI fun _ _ _ _ _ _ _ hc q=>mul_int q hc.ok
def aZ:=i2 (cI lT fun i j=>.int (i*j))
def fB:=i2 (cI lX fun i j=>.int (i.fdiv j))
def cE:=i2 (cI (fun _ j=>j≠0) fun i j=>.int (i.fmod j))
def gZ:=i2 (cI qQ fun i j=>.int (i ^ j.toNat))
def dR:=i2 fun i j=>some (.int (i - j))
def fLt:=i2 fun i j=>some (.bl (decide (i < j)))
def fLe:=i2 fun i j=>some (.bl (decide (i≤j)))
def fGt:=i2 fun i j=>some (.bl (decide (j < i)))
def fGe:=i2 fun i j=>some (.bl (decide (j≤i)))
theorem bW {K:PySem.W.Frag}:OpS K (rI lT fun i j=>.int (i*j)) aZ:=qR fun _ _=>⟨rfl,rfl⟩
theorem lQ {K:PySem.W.Frag}:OpS K (rI lX fun i j=>.int (i.fdiv j)) fB:=qR fun _ _=>⟨rfl,rfl⟩
theorem gB {K:PySem.W.Frag}:OpS K (rI (fun _ j=>j≠0) fun i j=>.int (i.fmod j)) cE:=qR fun _ _=>⟨rfl,rfl⟩
theorem vK {K:PySem.W.Frag}:OpS K (rI qQ fun i j=>.int (i ^ j.toNat)) gZ:=qR fun _ _=>⟨rfl,rfl⟩
theorem fM {K:PySem.W.Frag}:OpS K (rI0 fun i j=>.int (i - j)) dR:=rC fun _ _=>⟨rfl,rfl⟩
theorem ahN {K:PySem.W.Frag}:OpS K (rI0 fun i j=>.bl (decide (i < j))) fLt:=rC fun _ _=>⟨rfl,rfl⟩
theorem wG {K:PySem.W.Frag}:OpS K (rI0 fun i j=>.bl (decide (j < i))) fGt:=rC fun _ _=>⟨rfl,rfl⟩
theorem ahW {K:PySem.W.Frag}:OpS K (rI0 fun i j=>.bl (decide (j≤i))) fGe:=rC fun _ _=>⟨rfl,rfl⟩
def cU:PV→Option PV
 | .int i=>some (.int (-i))
 | _=>none
theorem eV {K:PySem.W.Frag}:UnS K (rU fun i=>.int (-i)) cU:=fun {p S H a c x Q} s ra e k=>by
 cases a with
 | int i =>
  cases e
  exact ⟨i,ra.int,k H _ (cK.refl H) (iB (v:=.int (-i)) rfl)⟩
 | _=>cases e
def af3 (K:PySem.W.Frag):R2:=fun x y H Q=>∃ l b xs zs,x=.ref l∧y=.ref b∧SqL K H l xs∧SqL K H b zs∧xs.length+zs.length≤sizeLine∧∀ p,H p=none→Q (.ref p) (upd H p (.lst (xs++zs)))
theorem ae6:OpR X (binaryOp .Add) (af3 X.K):=by
 intro pins s σ H x y v u Q I rx ry h
 obtain ⟨l,b,xs,zs,rfl,rfl,hx,hy,hz,q⟩:=h
 cases rx
 cases ry
 obtain ⟨its,r1,p1,_⟩:=I.list hx
 obtain ⟨jts,r2,p2,_⟩:=I.list hy
 obtain ⟨⟨cls,dd,data,sl⟩,n,ho,hc,_,hd⟩:=p1
 obtain ⟨⟨cls2,dd2,data2,sl2⟩,n2,ho2,hc2,_,hd2⟩:=p2
 simp only at hc hd hc2 hd2
 subst hc hd hc2 hd2
 have e:its.toArray++jts.toArray=(its++jts).toArray:=by simp
 have l1:=r1.length
 have l2:=r2.length
 refine concat_meets ⟨_,ho,rfl⟩ ⟨_,ho2,rfl⟩ noFill_list_add seq_list_add PySem.F.slot_list_add PySem.F.entry_list_add (PySem.F.args_list_add_2 _ _) (list_addW l b its.toArray jts.toArray n n2 dd dd2 sl sl2 (by rw [List.size_toArray,List.size_toArray]; omega)) ⟨ho,ho2,?_⟩
 rw [e]
 exact ⟨.ref _,_,I.lnew (t':=s.toks) (r1.append r2) (by rw [List.length_append]; omega),rfl,q _ I.fresh⟩
def aI:PV→PV→Option PV
 | .int a,.int b=>some (.int (a+b))
 | .lst xs,.lst ys=>if xs.length+ys.length≤16777216 then some (.lst (xs++ys)) else none
 | .tup xs,.tup ys=>if xs.length≠0∧ys.length≠0∧xs.length+ys.length≤16777216 then some (.tup (xs++ys)) else none
 | _,_=>none
def agJ (K:PySem.W.Frag):R2:=fun x y H Q=>(rI0 fun i j=>.int (i+j)) x y H Q∨af3 K x y H Q∨agF K x y H Q
theorem dN:OpR X (binaryOp .Add) (agJ X.K):=OpR.or afg (OpR.or ae6 adZ)
theorem dP {K:PySem.W.Frag}:OpS K (agJ K) aI:=fun {p S H a b c x y Q} s ra rb e k=>by
 cases a with
 | int i =>
  cases b with
  | int j =>
   cases e
   exact .inl ⟨i,j,ra.int,rb.int,k H _ (cK.refl H) (iB (v:=.int (i+j)) rfl)⟩
  | _=>cases e
 | lst xs =>
  cases b with
  | lst ys =>
   have e:(if xs.length+ys.length≤16777216 then some (PV.lst (xs++ys)) else none)=some c:=e
   split at e
   ·rename_i hl
    cases e
    obtain ⟨a1,vs,rfl,l1,z1,r1⟩:=ra.lst
    obtain ⟨a2,ws,rfl,l2,z2,r2⟩:=rb.lst
    have hz:vs.length+ws.length≤sizeLine:=by rw [← r1.length,← r2.length,gH]; exact hl
    exact .inr (.inl ⟨a1,a2,vs,ws,rfl,rfl,l1,l2,hz,fun t ht=>k _ _ (eW ht) (kF s (r1.append r2) (by rw [List.length_append]; exact hz) ht)⟩)
   ·cases e
  | _=>cases e
 | tup xs =>
  cases b with
  | tup ys =>
   have e:(if xs.length≠0∧ys.length≠0∧xs.length+ys.length≤16777216 then some (PV.tup (xs++ys)) else none)=some c:=e
   split at e
   ·rename_i hl
    cases e
    obtain ⟨a1,vs,rfl,l1,z1,r1⟩:=ra.tup
    obtain ⟨a2,ws,rfl,l2,z2,r2⟩:=rb.tup
    have hz:vs.length+ws.length≤sizeLine:=by rw [← r1.length,← r2.length,gH]; exact hl.2.2
    refine .inr (.inr ⟨a1,a2,vs,ws,rfl,rfl,l1,l2,fun q=>hl.1 (by rw [r1.length,q]; rfl),hz,fun q=>absurd (show ys.length=0 by rw [r2.length,q]; rfl) hl.2.1,fun _ t ht=>k _ _ (eW ht) (lN s (r1.append r2) (by rw [List.length_append]; exact hz) ht)⟩)
   ·cases e
  | _=>cases e
 | _=>cases e
end
section
variable {K:PySem.W.Frag} {cl:Str→Addr} {E:XK} {X:Cx} {a b e:Expr} {es:List Expr} {ma mb m:ME} {ms:MA} {pos p2:Pos}
def fIx:PV→PV→Option PV
 | .lst xs,.int i=>atI xs i
 | .tup xs,.int i=>atI xs i
 | _,_=>none
theorem pJ {c:Addr→Prop} {H:Hp} {xs:List PV} {vs:List V} {i:Int} {v:PV} (r:aJ K c H xs vs) (e:atI xs i=some v):∃ x,atI vs i=some x∧Rep K c H v x:=by
 unfold atI at e ⊢
 rw [← r.length]
 cases z:ixN xs.length i with
 | none=>rw [z] at e; cases e
 | some j =>
  rw [z] at e
  exact r.get e
theorem aio:OpS K (rIx K) fIx:=fun {p S H a b c x y Q} s ra rb e k=>by
 cases b with
 | int i =>
  cases a with
  | lst xs =>
   obtain ⟨a1,vs,rfl,l1,z1,r1⟩:=ra.lst
   obtain ⟨x,e1,r2⟩:=pJ r1 e
   exact .inl ⟨a1,vs,i,x,rfl,rb.int,l1,e1,k H x (cK.refl H) r2⟩
  | tup xs =>
   obtain ⟨a1,vs,rfl,l1,z1,r1⟩:=ra.tup
   obtain ⟨x,e1,r2⟩:=pJ r1 e
   exact .inr (.inl ⟨a1,vs,i,x,rfl,rb.int,l1,e1,k H x (cK.refl H) r2⟩)
  | _=>cases e
 | _=>cases a <;> cases e
theorem bD (ha:PEp K cl E X a ma) (hb:PEp K cl E X b mb) (hs:tN b:=by intro _ _; rfl):PEp K cl E X (.Subscript a b pos) (aC fIx ma mb):=by
 intro hK
 subst hK
 refine (afW aga (ha rfl) (hb rfl) hs).imp fun σ H Q ⟨p,S,ρ,s,e,h⟩=>?_
 exact bR s e h fun q H1 a x S1 st s1 e1 r1 h1=>bR s1 e1 h1 fun q2 H2 b y S2 st2 s2 e2 r2 h2=>oO aio s2 (st2.repA r1) r2 h2
abbrev MO:=Rho→Sto→Res (Option Int)
def mO0:MO:=fun _ S=>.ok none S
def iE:AV→Sto→Res (Option Int)
 | .pv (.int i),S=>.ok (some i) S
 | _,_=>.fail
def mO1 (m:ME):MO:=fun ρ S=>(m ρ S).bind iE
abbrev RO:Ph→Hp→Option Int→Option Int→Prop:=fun _ _ a b=>a=b
variable (K cl E X)
def POp (e:Option Expr) (m:MO):Prop:=X.K=K→PO X e (tP K cl E RO m)
variable {K cl E X}
theorem PO.imp {e:Option Expr} {t t':TO} (h:PO X e t) (i:∀ σ H Q,t' σ H Q→t σ H Q):PO X e t':=fun pins s σ H Q I q=>h pins s σ H Q I (i σ H Q q)
theorem lE:POp K cl E X none mO0:=fun _=>PO.imp aeo fun σ H Q ⟨p,S,ρ,s,e,h⟩=>bI.ret (R:=RO) h s rfl
theorem lF (h:PEp K cl E X e m):POp K cl E X (some e) (mO1 m):=by
 intro hK
 subst hK
 refine PO.imp (aeu (h rfl)) fun σ H Q ⟨p,S,ρ,s,e,h⟩=>?_
 refine bR s e h fun q H1 a x S1 st s1 e1 r1 h1=>?_
 unfold iE at h1
 split at h1
 ·rename_i i
  exact ⟨i,(show dL X.K q H1 (.int i) x from .inl r1).int,bI.ret (R:=RO) h1 s1 rfl⟩
 ·exact h1.elim
def hJ (xs:List PV) (lo hi:Option Int):List PV:=(xs.drop (HT.sIx xs.length 0 lo)).take (HT.sIx xs.length xs.length hi - HT.sIx xs.length 0 lo)
def fSl (v:PV) (lo hi:Option Int):Option PV:=match v with
 | .lst xs=>some (.lst (hJ xs lo hi))
 | .tup xs=>if HT.sIx xs.length 0 lo=0∧HT.sIx xs.length xs.length hi=xs.length then none else some (.tup (hJ xs lo hi))
 | _=>none
def mSl (m:ME) (ml mh:MO):ME:=fun ρ S=>(m ρ S).bind fun v S1=>(ml ρ S1).bind fun lo S2=>(mh ρ S2).bind fun hi S3=>okO ((rd S3 v).bind fun x=>fSl x lo hi) S3
theorem zU {c:Addr→Prop} {H:Hp} {xs:List PV} {vs:List V} {lo hi:Option Int} (r:aJ K c H xs vs):aJ K c H (hJ xs lo hi) (jU vs lo hi):=by
 unfold hJ jU
 rw [← r.length]
 exact (r.drop _).take _
theorem mD {lo hi:Option Expr} {ml mh:MO} (he:PEp K cl E X e m) (hl:POp K cl E X lo ml) (hu:POp K cl E X hi mh):PEp K cl E X (.Subscript e (.Slice lo hi none p2) pos) (mSl m ml mh):=by
 intro hK
 subst hK
 refine (acH (SlR.or aeR afM) (he rfl) (hl rfl) (hu rfl)).imp fun σ H Q ⟨p,S,ρ,s,e,h⟩=>?_
 refine bR s e h fun q H1 a x S1 st s1 e1 r1 h1=>bR s1 e1 h1 fun q2 H2 lo lo' S2 st2 s2 e2 r2 h2=>bR s2 e2 h2 fun q3 H3 hi hi' S3 st3 s3 e3 r3 h3=>?_
 cases r2
 cases r3
 have ra:=st3.repA (st2.repA r1)
 obtain ⟨c,ec,k⟩:=mZ s3 h3
 cases z:rd S3 a with
 | none=>rw [z] at ec; cases ec
 | some v =>
  rw [z] at ec
  have rv:=kL s3 ra z
  cases v with
  | lst xs =>
   have ec:some (PV.lst (hJ xs lo hi))=some c:=ec
   cases ec
   obtain ⟨a1,vs,rfl,l1,z1,r1⟩:=rv.lst
   exact .inl ⟨a1,vs,rfl,l1,fun t ht=>k _ _ (eW ht) (kF s3 (zU r1) (Nat.le_trans (oE vs lo hi) z1) ht)⟩
  | tup xs =>
   obtain ⟨a1,vs,rfl,l1,z1,r1⟩:=rv.tup
   have ec:(if HT.sIx xs.length 0 lo=0∧HT.sIx xs.length xs.length hi=xs.length then none else some (PV.tup (hJ xs lo hi)))=some c:=ec
   split at ec
   ·cases ec
   ·rename_i hw
    cases ec
    rw [r1.length] at hw
    exact .inr ⟨a1,vs,rfl,l1,hw,fun t ht=>k _ _ (eW ht) (lN s3 (zU r1) (Nat.le_trans (oE vs lo hi) z1) ht)⟩
  | _=>cases ec
theorem eK {id:String} {r:List V→Hp→VK→Prop} {f:List PV→Option PV} {x:Str} {p:Pos} (hc:gW X (.builtin id) r) (hf:CaR X.K r f) (hg:Gl X x) (hm:X.mg x=none) (hv:bootBuiltins x=some (.builtin id)) (ha:PAp K cl E X (e :: es) ms) (hn:x≠"__name__":=by decide) (hdb:(x == ("__debug__":Str))=false:=by decide)
  (he:starEach (e :: es) X.env=(false,eval e X.env) :: starEach es X.env:=by rfl) (hpl:(backTo pos (starEach es X.env)).any (·.1)=false:=by rfl):PEp K cl E X (.Call (.Name x p) (e :: es) [] pos) (mR f ms):=by
 intro hK
 subst hK
 refine PE.imp (aaL hc hg hm hv (ha rfl) hn hdb he hpl) fun σ H Q ⟨p,S,ρ,s,ev,h⟩=>?_
 exact bR s ev h fun q H' as xs S' stp sm ev r k=>yU hf sm r k
theorem iA {T:String} {r:List V→Hp→VK→Prop} {f:List PV→Option PV} {x:Str} {p:Pos} (hc:gW X (.type T) r) (hf:CaR X.K r f) (hg:Gl X x) (hm:X.mg x=none) (hv:bootBuiltins x=some (.type T)) (ha:PAp K cl E X (e :: es) ms) (hn:x≠"__name__":=by decide) (hdb:(x == ("__debug__":Str))=false:=by decide)
  (he:starEach (e :: es) X.env=(false,eval e X.env) :: starEach es X.env:=by rfl) (hpl:(backTo pos (starEach es X.env)).any (·.1)=false:=by rfl):PEp K cl E X (.Call (.Name x p) (e :: es) [] pos) (mR f ms):=by
 intro hK
 subst hK
 refine PE.imp (yK hc hg hm hv (ha rfl) hn hdb he hpl) fun σ H Q ⟨p,S,ρ,s,ev,h⟩=>?_
 exact bR s ev h fun q H' as xs S' stp sm ev r k=>yU hf sm r k
def dB:List PV→Option PV
 | [.lst xs]=>some (.int xs.length)
 | [.tup xs]=>some (.int xs.length)
 | _=>none
theorem gS:CaR K (fun xs H Q=>∃ p ys,xs=[.ref p]∧(SqL K H p ys∨SqT K H p ys)∧Q (.int ys.length) H) dB:=fun {p S H as c xs Q} s ra e k=>by
 unfold dB at e
 split at e
 ·rename_i zs
  cases e
  cases ra with
  | cons h t =>
   cases t
   obtain ⟨a,vs,rfl,l,z,r⟩:=h.lst
   refine ⟨a,vs,rfl,.inl l,?_⟩
   rw [← r.length]
   exact k H _ (cK.refl H) (iB (v:=.int zs.length) rfl)
 ·rename_i zs
  cases e
  cases ra with
  | cons h t =>
   cases t
   obtain ⟨a,vs,rfl,l,z,r⟩:=h.tup
   refine ⟨a,vs,rfl,.inr l,?_⟩
   rw [← r.length]
   exact k H _ (cK.refl H) (iB (v:=.int zs.length) rfl)
 ·cases e
def aQ:List PV→Option PV
 | [.int i]=>some (.int (if i < 0 then -i else i))
 | _=>none
theorem vN:CaR K (fun xs H Q=>∃ i,xs=[.int i]∧Q (.int (if i < 0 then -i else i)) H) aQ:=fun {p S H as c xs Q} s ra e k=>by
 unfold aQ at e
 split at e
 ·rename_i i
  cases e
  cases ra with
  | cons h t =>
   cases t
   cases h.int
   exact ⟨i,rfl,k H _ (cK.refl H) (iB (v:=.int _) rfl)⟩
 ·cases e
def aN:List PV→Option PV
 | [.lst xs]=>some (.tup xs)
 | [.tup xs]=>some (.tup xs)
 | _=>none
theorem kC:CaR K (fun xs H Q=>∃ p ys,xs=[.ref p]∧((SqL K H p ys∧∀ l,H l=none→Q (.ref l) (upd H l (.tup ys)))∨(SqT K H p ys∧Q (.ref p) H))) aN:=fun {p S H as c xs Q} s ra e k=>by
 unfold aN at e
 split at e
 ·rename_i zs
  cases e
  cases ra with
  | cons h t =>
   cases t
   obtain ⟨a,vs,rfl,l,z,r⟩:=h.lst
   exact ⟨a,vs,rfl,.inl ⟨l,fun t ht=>k _ _ (eW ht) (lN s r z ht)⟩⟩
 ·rename_i zs
  cases e
  cases ra with
  | cons h t =>
   cases t
   obtain ⟨a,vs,rfl,l,z,r⟩:=h.tup
   refine ⟨a,vs,rfl,.inr ⟨l,k H _ (cK.refl H) ?_⟩⟩
   unfold Rep
   exact ⟨a,vs,rfl,l,z,r⟩
 ·cases e
def aO:List PV→Option PV
 | [.lst xs]=>some (.lst xs)
 | [.tup xs]=>some (.lst xs)
 | _=>none
theorem adY:CaR K (fun xs H Q=>∃ p ys,xs=[.ref p]∧(SqL K H p ys∨SqT K H p ys)∧∀ l,H l=none→Q (.ref l) (upd H l (.lst ys))) aO:=fun {p S H as c xs Q} s ra e k=>by
 unfold aO at e
 split at e
 ·rename_i zs
  cases e
  cases ra with
  | cons h t =>
   cases t
   obtain ⟨a,vs,rfl,l,z,r⟩:=h.lst
   exact ⟨a,vs,rfl,.inl l,fun t ht=>k _ _ (eW ht) (kF s r z ht)⟩
 ·rename_i zs
  cases e
  cases ra with
  | cons h t =>
   cases t
   obtain ⟨a,vs,rfl,l,z,r⟩:=h.tup
   exact ⟨a,vs,rfl,.inr l,fun t ht=>k _ _ (eW ht) (kF s r z ht)⟩
 ·cases e
def eE:List PV→Option PV
 | [.int i]=>some (.int i)
 | [.bl b]=>some (.int (if b then 1 else 0))
 | _=>none
theorem wD:CaR K (fun xs H Q=>(∃ i,xs=[.int i]∧Q (.int i) H)∨∃ k,xs=[.bl k]∧Q (.int (if k then 1 else 0)) H) eE:=fun {p S H as c xs Q} s ra e k=>by
 unfold eE at e
 split at e
 ·rename_i i
  cases e
  cases ra with
  | cons h t =>
   cases t
   cases h.int
   exact .inl ⟨i,rfl,k H _ (cK.refl H) (iB (v:=.int _) rfl)⟩
 ·rename_i i
  cases e
  cases ra with
  | cons h t =>
   cases t
   cases h.bl
   exact .inr ⟨i,rfl,k H _ (cK.refl H) (iB (v:=.int _) rfl)⟩
 ·cases e
end
end
end L2.Pp
namespace L2.Pp
open PySem PySem.Spec PyProof.Rows Bn
section
variable {K:PySem.W.Frag} {cl:Str→Addr} {E:XK} {X:Cx} {a b c e l tg:Expr} {es:List Expr} {m ma mb:ME} {ms:MA} {pos:Pos} {p q:Ph} {H H':Hp} {S:Sto}
theorem Sim.push (s:Sim K p S H) {D:Addr} {ps:List PV} {vs:List V} (h:H D=none) (l:vs.length≤sizeLine) (r:aJ K p.c H ps vs) :
  let q:Ph:=⟨p.f++[D],fun a=>p.w a∨a=D,fun a=>p.c a∨a=D⟩
  bC p H q (upd H D (.lst vs))∧Sim K q (S++[.lst ps]) (upd H D (.lst vs)):=by
 intro q
 obtain ⟨st0,sm0⟩:=s.res (D:=D) (o:=.lst vs) h trivial
 have nf0:D ∉ p.f:=fun z=>s.notin h (s.wc D (s.sub D z))
 refine ⟨⟨st0.wc,st0.mu,⟨[D],rfl⟩,st0.mw,st0.mono,fun a x n=>?_,st0.nw,st0.nc,st0.keep⟩,?_,by simp [q,s.len],fun a x=>?_,sm0.wc,sm0.mu,fun k a o e1 e2=>?_⟩
 ·rcases List.mem_append.mp x with z | z
  ·exact absurd z n
  ·have:a=D:=by simpa using z
   rw [this]
   exact h
 ·show (p.f++[D]).Nodup
  rw [List.nodup_append]
  refine ⟨s.nd,by simp,fun a ha b hb z=>?_⟩
  have:b=D:=by simpa using hb
  exact nf0 (this ▸ z ▸ ha)
 ·rcases List.mem_append.mp x with z | z
  ·exact .inl (s.sub a z)
  ·exact .inr (by simpa using z)
 ·by_cases hk:k < S.length
  ·have e1':p.f[k]?=some a:=by
    have e1:(p.f++[D])[k]?=some a:=e1
    rwa [List.getElem?_append_left (by rw [s.len]; exact hk)] at e1
   rw [List.getElem?_append_left hk] at e2
   refine (s.obj k a o e1' e2).mono (fun vs e=>by rw [bQ (dY e h)]; exact e) (fun b w f=>⟨⟨.inl w,fun m=>?_⟩,fun vs e=>by rw [bQ (dY e h)]; exact e⟩) fun _ _ r=>st0.reps r
   rcases List.mem_append.mp m with z | z
   ·exact f z
   ·have:b=D:=by simpa using z
    exact s.notin h (this ▸ s.wc b w)
  ·have hk':k=S.length:=by
    have:=(List.getElem?_eq_some_iff.mp e2).1
    simp at this
    omega
   subst hk'
   rw [List.getElem?_append_right (Nat.le_refl _),Nat.sub_self] at e2
   have e1:(p.f++[D])[S.length]?=some a:=e1
   rw [← s.len,List.getElem?_append_right (Nat.le_refl _),Nat.sub_self] at e1
   cases e1
   cases e2
   exact ⟨vs,eL,l,st0.reps r⟩
theorem Sim.write (s:Sim K p S H) {D:Addr} {k:Nat} {ps:List PV} {vs:List V} (h:p.f[k]?=some D) (hk:k < S.length) (l:vs.length≤sizeLine) (r:aJ K p.c H ps vs) :
  bC p H p (upd H D (.lst vs))∧Sim K p (S.set k (.lst ps)) (upd H D (.lst vs)):=by
 have w:p.w D:=s.sub D (List.mem_of_getElem? h)
 have st:bC p H p (upd H D (.lst vs)):=⟨s.wc,s.mu,List.prefix_rfl,fun _ h=>h,fun _ h=>h,fun _ h g=>absurd h g,fun _ h g=>absurd h g,fun _ h g=>absurd h g,fun a u e nw=>by
  rw [bQ (fun z:a=D=>nw (by rw [z]; exact w))]
  exact e⟩
 refine ⟨st,s.nd,by rw [List.length_set]; exact s.len,s.sub,s.wc,fun a x=>?_,fun j a o e1 e2=>?_⟩
 ·by_cases z:a=D
  ·rw [z,eL]
   exact ⟨_,rfl,trivial⟩
  ·rw [bQ z]
   exact s.mu a x
 ·by_cases hj:k=j
  ·subst hj
   rw [h] at e1
   cases e1
   rw [List.getElem?_set_self hk] at e2
   cases e2
   exact ⟨vs,eL,l,st.reps r⟩
  ·rw [List.getElem?_set_ne hj] at e2
   have ne:a≠D:=fun q=>hj (oP s.nd h (q ▸ e1))
   exact (s.obj j a o e1 e2).mono (fun vs e=>by rw [bQ ne]; exact e) (fun b w f=>⟨⟨w,f⟩,fun vs e=>by rw [bQ (fun z:b=D=>f (z ▸ List.mem_of_getElem? h))]; exact e⟩) fun _ _ r=>st.reps r
def lU (xs:List AV) (S:Sto):Res AV:=match iP xs with
 | some vs=>if vs.length≤16777216 then .ok (.ref S.length) (S++[.lst vs]) else .fail
 | none=>.fail
def fN (ms:MA):ME:=fun ρ S=>(ms ρ S).bind lU
theorem mV (h:PAp K cl E X es ms):PEp K cl E X (.List es pos) (fN ms):=by
 intro hK
 subst hK
 refine (adI (h rfl)).imp fun σ H Q ⟨p,S,ρ,s,e,h⟩=>?_
 refine bR s e h fun q H1 as xs S1 st s1 e1 r1 h1=>?_
 unfold lU at h1
 split at h1
 ·rename_i vs hv
  split at h1
  ·rename_i hl
   have r:=rR hv r1
   rw [r.length,← gH] at hl
   refine ⟨hl,fun t ht=>?_⟩
   obtain ⟨st2,sm2⟩:=s1.push ht hl r
   exact h1 _ _ (.ref t) st2 sm2 ⟨t,by show (q.f++[t])[S1.length]?=some t; rw [← s1.len,List.getElem?_append_right (Nat.le_refl _),Nat.sub_self]; rfl,rfl⟩
  ·exact h1.elim
 ·exact h1.elim
def wL (xs:List AV) (S:Sto):Res AV:=match (eN S xs).bind aO with
 | some (.lst vs)=>.ok (.ref S.length) (S++[.lst vs])
 | _=>.fail
def nS (ms:MA):ME:=fun ρ S=>(ms ρ S).bind wL
theorem ac9 {x:Str} {p:Pos} (hx:x="list") (hg:Gl X "list") (hm:X.mg "list"=none) (ha:PAp K cl E X [e] ms) (he:starEach [e] X.env=[(false,eval e X.env)]:=by rfl):PEp K cl E X (.Call (.Name x p) [e] [] pos) (nS ms):=by
 intro hK
 subst hK hx
 refine PE.imp (yK wY hg hm (by decide +kernel) (ha rfl) (by decide) (by decide) he rfl) fun σ H Q ⟨p,S,ρ,s,ev,h⟩=>?_
 refine bR s ev h fun q H1 as xs S1 st s1 e1 r1 h1=>?_
 unfold wL at h1
 cases z:eN S1 as with
 | none=>rw [z] at h1; exact h1.elim
 | some us =>
  rw [z] at h1
  have rr:=oQ s1 r1 z
  have fin:∀ (vs:List PV) (ws:List V) (a:Addr),aJ X.K q.c H1 vs ws→ws.length≤sizeLine→bI X.K cl (bL X.K) q H1 (.ok (.ref S1.length) (S1++[.lst vs])) Q E→∀ l,H1 l=none→Q (.ref l) (upd H1 l (.lst ws)):=fun vs ws a r hl k t ht=>by
   obtain ⟨st2,sm2⟩:=s1.push ht hl r
   exact k _ _ (.ref t) st2 sm2 ⟨t,by show (q.f++[t])[S1.length]?=some t; rw [← s1.len,List.getElem?_append_right (Nat.le_refl _),Nat.sub_self]; rfl,rfl⟩
  cases rr with
  | nil=>exact h1.elim
  | cons h t =>
   rename_i u x ut xt
   cases t with
   | cons _ _=>cases u <;> exact h1.elim
   | nil =>
    cases u with
    | lst vs =>
     obtain ⟨a,ws,rfl,l,z,r⟩:=h.lst
     exact ⟨a,ws,rfl,.inl l,fin vs ws a r z h1⟩
    | tup vs =>
     obtain ⟨a,ws,rfl,l,z,r⟩:=h.tup
     exact ⟨a,ws,rfl,.inr l,fin vs ws a r z h1⟩
    | _=>exact h1.elim
def iS (k:Nat) (ys:List AV) (S:Sto):Res AV:=match ys with
 | [.pv y]=>match S[k]? with
  | some (.lst xs)=>if xs.length < 16777216 then .ok (.pv .non) (S.set k (.lst (xs++[y]))) else .fail
  | _=>.fail
 | _=>.fail
def eC {α:Type} (k:AV) (S:Sto) (f:Nat→Res α):Res α:=match k with
 | .ref k=>(match S[k]? with
  | some (.dic _ _)=>.fail
  | some (.dol _ _)=>.fail
  | _=>f k)
 | _=>.fail
theorem sY {α:Type} (k:Nat) (S:Sto) (f:Nat→Res α):eC (.ref k) S f=.fail∨(eC (.ref k) S f=f k∧(∀ n l,S[k]?≠some (.dic n l))∧∀ n l,S[k]?≠some (.dol n l)):=by
 have e:eC (.ref k) S f=(match S[k]? with
  | some (.dic _ _)=>.fail
  | some (.dol _ _)=>.fail
  | _=>f k):=rfl
 rw [e]
 cases S[k]? with
 | none=>exact .inr ⟨rfl,fun _ _ z=>(nomatch z),fun _ _ z=>(nomatch z)⟩
 | some o =>
  cases o with
  | dic n l=>exact .inl rfl
  | dol n l=>exact .inl rfl
  | lst xs=>exact .inr ⟨rfl,fun _ _ z=>(nomatch z),fun _ _ z=>(nomatch z)⟩
  | lol xs=>exact .inr ⟨rfl,fun _ _ z=>(nomatch z),fun _ _ z=>(nomatch z)⟩
def eI (m:ME) (ms:MA):ME:=fun ρ S=>(m ρ S).bind fun k S1=>eC k S1 fun k=>(ms ρ S1).bind fun ys S2=>iS k ys S2
theorem abC {k:Nat} {x:V} (s:Sim K p S H) (r:bL K p H (.ref k) x) (n1:∀ n l,S[k]?≠some (.dic n l)) (n2:∀ n l,S[k]?≠some (.dol n l)):tyV K "list" x H:=by
 obtain ⟨a,e,rfl⟩:=r
 have hk:k < S.length:=by
  have:=(List.getElem?_eq_some_iff.mp e).1
  rw [← s.len]
  exact this
 have z:=s.obj k a S[k] e (List.getElem?_eq_getElem hk)
 cases y:S[k] with
 | lst xs =>
  rw [y] at z
  obtain ⟨vs,h,_⟩:=z
  exact .inl ⟨rfl,vs,SqL.of h⟩
 | lol xss =>
  rw [y] at z
  obtain ⟨bs,h,_⟩:=z
  exact .inl ⟨rfl,_,SqL.of h⟩
 | dic n l=>exact absurd (by rw [List.getElem?_eq_getElem hk,y]) (n1 n l)
 | dol n l=>exact absurd (by rw [List.getElem?_eq_getElem hk,y]) (n2 n l)
theorem kZ {apos cpos:Pos} (ho:PEp K cl E X a m) (ha:PAp K cl E X [e] ms) (hbase:attributeBase a "append" X.env (eval a X.env)=eval a X.env:=by rfl)
  (hfew:((backTo cpos (starEach [e] X.env)).all (fun x=>!x.1) && (backToKw cpos (keywordEach [] X.env)).all (fun x=>x.1.isSome) && decide (([e]:List Expr).length+([]:List Keyword).length+(if ([]:List Keyword).isEmpty then 0 else 1) < 30))=true:=by rfl)
  (hline:(apos.endLine == cpos.line)=true:=by rfl) (hs:starEach [e] X.env=[(false,eval e X.env)]:=by rfl):PEp K cl E X (.Call (.Attribute a "append" apos) [e] [] cpos) (eI m ms):=by
 intro hK
 subst hK
 refine PE.imp (afQ PySem.F.plainAttrs_list PySem.F.slot_list_append PySem.F.type_list_append oH (ho rfl) (ha rfl) hbase hfew hline hs rfl) fun σ H Q ⟨p,S,ρ,s,ev,h⟩=>?_
 refine bR s ev h fun q H1 k x S1 st s1 e1 r1 h1=>?_
 cases k with
 | pv v=>exact h1.elim
 | ref k =>
  have h1:bI X.K cl (bL X.K) q H1 (eC (.ref k) S1 fun k=>(ms ρ S1).bind fun ys S2=>iS k ys S2) Q E:=h1
  rcases sY k S1 (fun k=>(ms ρ S1).bind fun ys S2=>iS k ys S2) with z | ⟨z,n1,n2⟩
  ·rw [z] at h1
   exact h1.elim
  rw [z] at h1
  refine ⟨abC s1 r1 n1 n2,bR s1 e1 h1 fun q2 H2 ys xs S2 st2 s2 e2 r2 h2=>?_⟩
  obtain ⟨a,ea,rfl⟩:=st2.repA r1
  unfold iS at h2
  split at h2
  ·rename_i y
   cases r2 with
   | cons r3 r4 =>
    cases r4
    rename_i x
    cases z:S2[k]? with
    | none=>rw [z] at h2; exact h2.elim
    | some o =>
     cases o with
     | lol _=>simp only [z] at h2; exact h2.elim
     | dic _ _=>simp only [z] at h2; exact h2.elim
     | dol _ _=>simp only [z] at h2; exact h2.elim
     | lst zs =>
      simp only [z] at h2
      obtain ⟨vs,h3,l3,r4⟩:=s2.obj k a _ ea z
      split at h2
      ·rename_i hl
       rw [r4.length] at hl
       have hz:=gH
       refine ⟨a,vs,x,rfl,rfl,h3,by omega,?_⟩
       obtain ⟨st3,sm3⟩:=s2.write ea (List.getElem?_eq_some_iff.mp z).1 (ps:=zs++[y]) (vs:=vs++[x]) (by rw [List.length_append,List.length_singleton]; omega) (r4.append (.cons r3 .nil))
       exact h2 _ _ .non st3 sm3 (by show Rep X.K q2.c (upd H2 a (.lst (vs++[x]))) .non .non; unfold Rep; rfl)
      ·exact h2.elim
  ·exact h2.elim
def kP (k:Nat) (ys:List AV) (S:Sto):Res AV:=match ys with
 | [.pv (.int i)]=>if -9223372036854775808≤i∧i < 9223372036854775808 then (match S[k]? with
  | some (.lst xs)=>match seqIndex? i xs.length with
   | some j=>match xs[j]? with
    | some v=>.ok (.pv v) (S.set k (.lst (xs.eraseIdx j)))
    | none=>.fail
   | none=>.fail
  | _=>.fail) else .fail
 | _=>.fail
def mF (m:ME) (ms:MA):ME:=fun ρ S=>(m ρ S).bind fun k S1=>eC k S1 fun k=>(ms ρ S1).bind fun ys S2=>kP k ys S2
theorem agh {apos cpos:Pos} (ho:PEp K cl E X a m) (ha:PAp K cl E X [e] ms) (hbase:attributeBase a "pop" X.env (eval a X.env)=eval a X.env:=by rfl)
  (hfew:((backTo cpos (starEach [e] X.env)).all (fun x=>!x.1) && (backToKw cpos (keywordEach [] X.env)).all (fun x=>x.1.isSome) && decide (([e]:List Expr).length+([]:List Keyword).length+(if ([]:List Keyword).isEmpty then 0 else 1) < 30))=true:=by rfl)
  (hline:(apos.endLine == cpos.line)=true:=by rfl) (hs:starEach [e] X.env=[(false,eval e X.env)]:=by rfl):PEp K cl E X (.Call (.Attribute a "pop" apos) [e] [] cpos) (mF m ms):=by
 intro hK
 subst hK
 refine PE.imp (afQ PySem.F.plainAttrs_list PySem.F.slot_list_pop PySem.F.type_list_pop acX (ho rfl) (ha rfl) hbase hfew hline hs rfl) fun σ H Q ⟨p,S,ρ,s,ev,h⟩=>?_
 refine bR s ev h fun q H1 k x S1 st s1 e1 r1 h1=>?_
 cases k with
 | pv v=>exact h1.elim
 | ref k =>
  have h1:bI X.K cl (bL X.K) q H1 (eC (.ref k) S1 fun k=>(ms ρ S1).bind fun ys S2=>kP k ys S2) Q E:=h1
  rcases sY k S1 (fun k=>(ms ρ S1).bind fun ys S2=>kP k ys S2) with z | ⟨z,n1,n2⟩
  ·rw [z] at h1
   exact h1.elim
  rw [z] at h1
  refine ⟨abC s1 r1 n1 n2,bR s1 e1 h1 fun q2 H2 ys xs S2 st2 s2 e2 r2 h2=>?_⟩
  obtain ⟨a,ea,rfl⟩:=st2.repA r1
  unfold kP at h2
  split at h2
  ·rename_i i
   cases r2 with
   | cons r3 r4 =>
    cases r4
    rename_i x
    have ex:x=.int i:=(show dL X.K q2 H2 (.int i) x from .inl r3).int
    subst ex
    split at h2
    ·rename_i hi
     cases z:S2[k]? with
     | none=>rw [z] at h2; exact h2.elim
     | some o =>
      cases o with
      | lol _=>simp only [z] at h2; exact h2.elim
      | dic _ _=>simp only [z] at h2; exact h2.elim
      | dol _ _=>simp only [z] at h2; exact h2.elim
      | lst zs =>
       simp only [z] at h2
       obtain ⟨vs,h3,l3,r4⟩:=s2.obj k a _ ea z
       cases y:seqIndex? i zs.length with
       | none=>simp only [y] at h2; exact h2.elim
       | some j =>
        simp only [y] at h2
        cases yv:zs[j]? with
        | none=>simp only [yv] at h2; exact h2.elim
        | some v =>
         simp only [yv] at h2
         obtain ⟨u,eu,ru⟩:=r4.get yv
         refine ⟨a,vs,i,j,u,rfl,rfl,h3,hi.1,hi.2,by rw [← r4.length]; exact y,eu,?_⟩
         obtain ⟨st3,sm3⟩:=s2.write ea (List.getElem?_eq_some_iff.mp z).1 (ps:=zs.eraseIdx j) (vs:=vs.eraseIdx j) (Nat.le_trans (sI vs j) l3) (r4.eraseIdx j)
         exact h2 _ _ u st3 sm3 (st3.rep ru)
    ·exact h2.elim
  ·exact h2.elim
def jR (k:Nat) (i:AV) (v:AV) (S:Sto):Res Unit:=match i,v with
 | .pv (.int i),.pv v=>match S[k]? with
  | some (.lst xs)=>match ixN xs.length i with
   | some j=>.ok () (S.set k (.lst (xs.set j v)))
   | none=>.fail
  | _=>.fail
 | _,_=>.fail
def gM (mo mi mv:ME):MS:=fun ρ S=>bN.of (mv ρ S) fun v S1=>bN.of (mo ρ S1) fun k S2=>bN.of (mi ρ S2) fun i S3=>bN.of (eC k S3 fun k=>jR k i v S3) fun _ S4=>.nx ρ S4
theorem rZ {o i v:Expr} {mo mi mv:ME} {tpos:Pos} (hv:PEp K cl E X v mv) (ho:PEp K cl E X o mo) (hi:PEp K cl E X i mi)
  (ha:∀ v,assign (.Subscript o i tpos) X.env v=(do
   let ov ← holding [v] (eval o X.env)
   let iv ← holding [v,ov] (eval i X.env)
   standAt tpos
   holding [v,ov,iv] (setItem ov iv v)
   release [v,ov,iv] []):=by intro _; rfl)
  (hs:swapsWithSole [.Subscript o i tpos] v pos.line X.env=pure false:=by rfl) (hw:swappedStores [.Subscript o i tpos] v X.env=pure none:=by rfl)
  (h1:(assignEach [.Subscript o i tpos] X.env).map (·.2)=[assign (.Subscript o i tpos) X.env]:=by rfl):PSp K cl E X (.Assign [.Subscript o i tpos] v pos) (gM mo mi mv):=by
 intro hK
 subst hK
 refine PS.imp (uF (hv rfl) (adv (ho rfl) (hi rfl) acr ha) hs hw h1) fun D σ H ⟨p,S,ρ,s,ev,h⟩=>?_
 refine fT s ev h fun q H1 v x S1 st s1 e1 r1 h1=>?_
 refine fT s1 e1 h1 fun q2 H2 k y S2 st2 s2 e2 r2 h2=>?_
 refine fT s2 e2 h2 fun q3 H3 i z S3 st3 s3 e3 r3 h3=>?_
 cases k with
 | pv _=>exact h3.elim
 | ref k =>
  obtain ⟨a,ea,rfl⟩:=st3.repA r2
  have rv:=st3.repA (st2.repA r1)
  have h3:cS X.K cl q3 H3 (bN.of (eC (.ref k) S3 fun k=>jR k i v S3) fun _ S4=>.nx ρ S4) D E:=h3
  rcases sY k S3 (fun k=>jR k i v S3) with z0 | ⟨z0,_,_⟩
  ·rw [z0] at h3
   exact h3.elim
  rw [z0] at h3
  unfold jR at h3
  split at h3
  ·rename_i ii vv _
   have ez:z=.int ii:=(show dL X.K q3 H3 (.int ii) z from .inl r3).int
   subst ez
   cases w:S3[k]? with
   | none=>rw [w] at h3; exact h3.elim
   | some o =>
    cases o with
    | lol _=>simp only [w] at h3; exact h3.elim
    | dic _ _=>simp only [w] at h3; exact h3.elim
    | dol _ _=>simp only [w] at h3; exact h3.elim
    | lst zs =>
     simp only [w] at h3
     obtain ⟨vs,hh,ll,rr⟩:=s3.obj k a _ ea w
     cases y:ixN zs.length ii with
     | none=>simp only [y] at h3; exact h3.elim
     | some j =>
      simp only [y] at h3
      refine ⟨a,vs,ii,j,rfl,rfl,hh,by rw [← rr.length]; exact y,?_⟩
      obtain ⟨st4,sm4⟩:=s3.write ea (List.getElem?_eq_some_iff.mp w).1 (ps:=zs.set j vv) (vs:=vs.set j x) (by rw [List.length_set]; exact ll) (aJ.set rv j rr)
      exact h3 _ _ _ st4 sm4 (st4.repE e3)
  ·exact h3.elim
def fD:List PV→List PV→List PV
 | x :: xs,y :: ys=>.tup [x,y] :: fD xs ys
 | _,_=>[]
theorem sZ:∀ (xs ys:List PV),(fD xs ys).length=min xs.length ys.length
 | [],ys=>by cases ys <;> simp [fD]
 | x :: xs,[]=>by simp [fD]
 | x :: xs,y :: ys=>by
  unfold fD
  rw [List.length_cons,sZ xs ys,List.length_cons,List.length_cons]
  omega
theorem aaG:∀ {xs ys:List PV} {i:Nat} {v:PV},(fD xs ys)[i]?=some v→∃ x y,xs[i]?=some x∧ys[i]?=some y∧v=.tup [x,y]
 | [],ys,i,v,e=>by cases ys <;> simp [fD] at e
 | x :: xs,[],i,v,e=>by simp [fD] at e
 | x :: xs,y :: ys,0,v,e=>by
  unfold fD at e
  simp at e
  exact ⟨x,y,rfl,rfl,e.symm⟩
 | x :: xs,y :: ys,i+1,v,e=>by
  unfold fD at e
  obtain ⟨a,b,h1,h2,h3⟩:=aaG (xs:=xs) (ys:=ys) (i:=i) (v:=v) (by simpa using e)
  exact ⟨a,b,by simpa using h1,by simpa using h2,h3⟩
def qI:List AV→Sto→Res (List PV × Gd)
 | [a,b],S=>match cN a S with
  | .ok xs _=>match cN b S with
   | .ok ys _=>.ok (fD xs.1 ys.1,xs.2++ys.2) S
   | _=>.fail
  | _=>.fail
 | _,_=>.fail
def nX (ms:MA):MI:=fun ρ S=>(ms ρ S).bind qI
theorem zX {a:AV} {x:V} {xs:List PV × Gd} {S':Sto} (s:Sim K p S H) (r:bL K p H a x) (e:cN a S=.ok xs S'):∃ f ad vs,x=.ref ad∧SqF f K H ad vs∧xs.1.length≤sizeLine∧∀ q H1 S1,bC p H q H1→Sim K q S1 H1→gOk xs.2 S1→∃ vs,SqF f K H1 ad vs∧aJ K q.c H1 xs.1 vs:=by
 cases a with
 | ref j =>
  obtain ⟨a,e1,rfl⟩:=r
  unfold cN at e
  dsimp only at e
  cases z:S[j]? with
  | none=>rw [z] at e; cases e
  | some o =>
   cases o with
   | lol _=>rw [z] at e; cases e
   | dic _ _=>rw [z] at e; cases e
   | dol _ _=>rw [z] at e; cases e
   | lst ys =>
    rw [z] at e
    cases e
    obtain ⟨vs,h1,l1,r1⟩:=s.obj j a _ e1 z
    refine ⟨false,a,vs,rfl,SqL.of h1,by rw [r1.length]; exact l1,fun q H1 S1 st sm g=>?_⟩
    obtain ⟨ws,h2,l2,r2⟩:=sm.obj j a _ (st.at_ e1) (g (j,ys) List.mem_cons_self)
    exact ⟨ws,SqL.of h2,r2⟩
 | pv v =>
  cases v with
  | lst ys =>
   cases e
   have r:Rep K p.c H (.lst ys) x:=r
   unfold Rep at r
   obtain ⟨a,vs,rfl,l,z,r⟩:=r
   exact ⟨false,a,vs,rfl,l.sq,by rw [r.length]; exact z,fun q H1 S1 st sm g=>⟨vs,(st.lat l).sq,st.reps r⟩⟩
  | tup ys =>
   cases e
   have r:Rep K p.c H (.tup ys) x:=r
   unfold Rep at r
   obtain ⟨a,vs,rfl,l,z,r⟩:=r
   exact ⟨true,a,vs,rfl,l,by rw [r.length]; exact z,fun q H1 S1 st sm g=>⟨vs,st.tup l,st.reps r⟩⟩
  | _=>cases e
theorem abx {elts:List Expr} {x1:Nat} {tp p:Pos} (hg:Gl X "zip") (hm:X.mg "zip"=none) (hl:PAp K cl E X [a,b] ms) (hs:starEach [a,b] X.env=[(false,eval a X.env),(false,eval b X.env)]:=by rfl) (hs2:starEach [b] X.env=[(false,eval b X.env)]:=by rfl) :
  PIp K cl E X (.Tuple elts x1 tp) (.Call (.Name "zip" p) [a,b] [] pos) (nX ms):=by
 intro hK
 subst hK
 refine PI.imp (afx hg hm (hl rfl) hs hs2) fun σ H R ⟨p,S,ρ,s,ev,h⟩=>?_
 refine bR s ev h fun q H' as xs S' stp sm ev r k=>?_
 unfold qI at k
 split at k
 ·rename_i u v
  cases r with
  | cons r1 r2 =>
   cases r2 with
   | cons r2 r3 =>
    cases r3
    split at k
    ·rename_i xs1 S1 hx
     split at k
     ·rename_i ys1 S2 hy
      obtain ⟨f1,a1,vs1,rfl,q1,z1,st1⟩:=zX sm r1 hx
      obtain ⟨f2,a2,vs2,rfl,q2,z2,st2⟩:=zX sm r2 hy
      refine ⟨f1,a1,f2,a2,vs1,vs2,rfl,q1,q2,bI.ret (R:=dM X.K) k sm ?_⟩
      refine ⟨by rw [sZ]; omega,fun q3 H3 S3 st3 sm3 g3=>?_⟩
      obtain ⟨ws1,w1,rr1⟩:=st1 q3 H3 S3 st3 sm3 fun g hg=>g3 g (List.mem_append_left _ hg)
      obtain ⟨ws2,w2,rr2⟩:=st2 q3 H3 S3 st3 sm3 fun g hg=>g3 g (List.mem_append_right _ hg)
      refine ⟨fun i v e=>?_,?_⟩
      ·obtain ⟨x,y,ex,ey,rfl⟩:=aaG e
       obtain ⟨x',ex',rx⟩:=rr1.get ex
       obtain ⟨y',ey',ry⟩:=rr2.get ey
       refine ⟨⟨ws1,ws2,x',y',w1,w2,ex',ey'⟩,fun z H4 hz=>?_⟩
       obtain ⟨t,x2,y2,ht,rfl,rfl,g1,g2⟩:=hz
       have e1:=(g1 ws1 w1).symm.trans ex'
       have e2:=(g2 ws2 w2).symm.trans ey'
       cases e1
       cases e2
       refine ⟨eW ht,lN sm3 (.cons rx (.cons ry .nil)) (by show 2≤sizeLine; decide) ht⟩
      ·refine ⟨ws1,ws2,w1,w2,?_⟩
       show (fD xs1.1 ys1.1).length=_∨_
       rw [sZ,rr1.length,rr2.length]
       omega
     ·exact k.elim
    ·exact k.elim
 ·exact k.elim
def fX:Nat→List PV→List PV
 | _,[]=>[]
 | n,x :: xs=>.tup [.int n,x] :: fX (n+1) xs
theorem sE:∀ (n:Nat) (xs:List PV),(fX n xs).length=xs.length
 | _,[]=>rfl
 | n,x :: xs=>by
  unfold fX
  rw [List.length_cons,sE (n+1) xs,List.length_cons]
theorem zE:∀ {n:Nat} {xs:List PV} {i:Nat} {v:PV},(fX n xs)[i]?=some v→∃ x,xs[i]?=some x∧v=.tup [.int ((n+i:Nat):Int),x]
 | n,[],i,v,e=>by simp [fX] at e
 | n,x :: xs,0,v,e=>by
  unfold fX at e
  simp at e
  exact ⟨x,rfl,e.symm⟩
 | n,x :: xs,i+1,v,e=>by
  unfold fX at e
  obtain ⟨y,h1,h2⟩:=zE (n:=n+1) (xs:=xs) (i:=i) (v:=v) (by simpa using e)
  refine ⟨y,by simpa using h1,?_⟩
  rw [h2,show n+1+i=n+(i+1) by omega]
def uS:List AV→Sto→Res (List PV × Gd)
 | [.pv (.lst xs)],S=>.ok (fX 0 xs,[]) S
 | [.ref k],S=>match cN (.ref k) S with
  | .ok xs _=>.ok (fX 0 xs.1,xs.2) S
  | _=>.fail
 | _,_=>.fail
def wA (ms:MA):MI:=fun ρ S=>(ms ρ S).bind uS
theorem adU {xs:List PV} {G:Gd} {a:Addr} (z:xs.length≤sizeLine) (st1:∀ q H1 S1,bC p H q H1→Sim K q S1 H1→gOk G S1→∃ vs,SqL K H1 a vs∧aJ K q.c H1 xs vs):dM K p H (fX 0 xs,G) (Ite K a):=by
 refine ⟨by rw [sE]; exact z,fun q3 H3 S3 st3 sm3 g3=>?_⟩
 obtain ⟨ws1,w1,rr1⟩:=st1 q3 H3 S3 st3 sm3 g3
 refine ⟨fun i v e=>?_,?_⟩
 ·obtain ⟨x,ex,rfl⟩:=zE e
  obtain ⟨x',ex',rx⟩:=rr1.get ex
  refine ⟨⟨ws1,x',w1,ex'⟩,fun z H4 hz=>?_⟩
  obtain ⟨t,y2,ht,rfl,rfl,g1⟩:=hz
  have e1:=(g1 ws1 w1).symm.trans ex'
  cases e1
  refine ⟨eW ht,lN sm3 (.cons ?_ (.cons rx .nil)) (by show 2≤sizeLine; decide) ht⟩
  rw [Nat.zero_add]
  exact iB (v:=.int _) rfl
 ·refine ⟨ws1,w1,?_⟩
  show _≤(fX 0 xs).length
  rw [sE,rr1.length]
  exact Nat.le_refl _
theorem acZ {elts:List Expr} {x1:Nat} {tp p:Pos} (hg:Gl X "enumerate") (hm:X.mg "enumerate"=none) (hl:PAp K cl E X [l] ms) (hs:starEach [l] X.env=[(false,eval l X.env)]:=by rfl) :
  PIp K cl E X (.Tuple elts x1 tp) (.Call (.Name "enumerate" p) [l] [] pos) (wA ms):=by
 intro hK
 subst hK
 refine PI.imp (aeS hg hm (hl rfl) hs) fun σ H R ⟨p,S,ρ,s,ev,h⟩=>?_
 refine bR s ev h fun q H' as xs S' stp sm ev r k=>?_
 unfold uS at k
 split at k
 ·rename_i ys
  cases r with
  | cons r1 r2 =>
   cases r2
   rename_i x
   have r1:Rep X.K q.c H' (.lst ys) x:=r1
   unfold Rep at r1
   obtain ⟨a,vs,rfl,l,z,r⟩:=r1
   exact ⟨a,rfl,⟨vs,l.sq⟩,bI.ret (R:=dM X.K) k sm (adU (by rw [r.length]; exact z) fun q H1 S1 st sm g=>⟨vs,(st.lat l).sq,st.reps r⟩)⟩
 ·rename_i j
  cases r with
  | cons r1 r2 =>
   cases r2
   split at k
   ·rename_i xs1 S1 hx
    obtain ⟨a,e1,rfl⟩:=r1
    cases z:S'[j]? with
    | none=>unfold cN at hx; simp only [z] at hx; cases hx
    | some o =>
     cases o with
     | lol _=>unfold cN at hx; simp only [z] at hx; cases hx
     | dic _ _=>unfold cN at hx; simp only [z] at hx; cases hx
     | dol _ _=>unfold cN at hx; simp only [z] at hx; cases hx
     | lst ys =>
      unfold cN at hx
      simp only [z] at hx
      cases hx
      obtain ⟨vs,h1,l1,r1⟩:=sm.obj j a _ e1 z
      refine ⟨a,rfl,⟨vs,SqL.of h1⟩,bI.ret (R:=dM X.K) k sm (adU (by rw [r1.length]; exact l1) fun q H1 S1 st sm g=>?_)⟩
      obtain ⟨ws,h2,l2,r2⟩:=sm.obj j a _ (st.at_ e1) (g (j,ys) List.mem_cons_self)
      exact ⟨ws,SqL.of h2,r2⟩
   ·exact k.elim
 ·exact k.elim
end
end L2.Pp
namespace L2.Pp
open PySem PySem.Spec PyProof.Rows Bn
theorem hu8 {A:Around} {k:Nat} (hr:dJ k A):A.units+8 < cLine:=by
 have:=hr.units
 omega
section
variable {K:PySem.W.Frag} {cl:Str→Addr} {E:XK} {X:Cx} {a b c e l tg:Expr} {es:List Expr} {m ma mb:ME} {ms:MA} {pos:Pos} {p q:Ph} {H H':Hp} {S:Sto}
def pY (K:PySem.W.Frag):Sp:=fun vs H Q _=>∃ (a:Addr) (ns:List Int),vs=[.ref a]∧SqL K H a (ns.map V.int)∧ns.length≤63∧∀ H',Q (.bl true) H'
theorem aeJ {f:FM} (ht:∀ ns:List Int,ns.length≤63→∃ S,f [.pv (.lst (ns.map .int))] []=.ok (.pv (.bl true)) S) {vs:List V} {H:Hp} {Q:VK} {E:XK} (h:pY K vs H Q E):cF K cl f vs H Q E:=by
 obtain ⟨a,ns,rfl,hS,hl,hQ⟩:=h
 obtain ⟨S,e⟩:=ht ns hl
 have rs:∀ (ns:List Int),aJ K (fun _=>False) H (ns.map .int) (ns.map V.int):=fun ns=>by
  induction ns with
  | nil=>exact .nil
  | cons n ns ih=>exact .cons (by unfold Rep; rfl) ih
 refine ⟨⟨[],fun _=>False,fun _=>False⟩,[],[.pv (.lst (ns.map .int))],⟨List.nodup_nil,rfl,(fun _ h=>absurd h (List.not_mem_nil)),(fun _ h=>h),(fun _ h=>h.elim),(fun k a o e=>by simp at e)⟩,.cons ?_ .nil,?_⟩
 ·show Rep K (fun _=>False) H (.lst (ns.map .int)) (.ref a)
  unfold Rep
  refine ⟨a,_,rfl,?_,?_,rs ns⟩
  ·rcases hS with (h | h) | h
   ·exact .inl ⟨h,fun z=>z⟩
   ·exact .inr (.inl h)
   ·exact .inr (.inr h)
  ·rw [List.length_map,gH]
   omega
 ·rw [e]
  intro q H' x st sm r
  have r:Rep K q.c H' (.bl true) x:=r
  unfold Rep at r
  rw [r]
  exact hQ H'
end
end L2.Pp
namespace L2.Pp
open PySem PySem.Spec PyProof.Rows Bn
section
variable {K:PySem.W.Frag} {cl:Str→Addr} {E:XK} {X:Cx} {e:Expr} {es:List Expr} {ms:MA} {p q:Ph} {H H':Hp} {S:Sto}
variable {k:Nat} {f:Addr} {fd:FuncData} {ps:List Str} {g:FM} {dvs:List V} {ds:List Value} {dv:List PV} {x:Str} {pp pos pos1 pos2 pos3 pc:Pos} {c n:Str} {i nn:Nat} {b₀:Stmt} {body:List Stmt} {newId:String} {up:Rho→Rho}
end
end L2.Pp
namespace L2
open PySem PySem.Spec PyProof.Rows Bn
section
variable {X:Cx} {k:Nat} {f:Addr} {fd:FuncData} {ps:List Str} {sp:Sp} {dvs:List V} {ds:List Value} {x:Str} {p pos pos1 pos2 pos3 pc:Pos} {e:Expr} {es:List Expr} {t:TA} {c n:Str} {C:Addr} {i:Nat} {b₀:Stmt} {body:List Stmt} {newId:String}
end
end L2
namespace L2.Pp
open PySem PySem.Spec PyProof.Rows Bn
section
variable {K:PySem.W.Frag} {cl:Str→Addr} {E:XK} {X:Cx} {e:Expr} {es:List Expr} {ms:MA} {p q:Ph} {H H':Hp} {S:Sto}
variable {k:Nat} {f:Addr} {fd:FuncData} {ps:List Str} {g:FM} {dvs:List V} {ds:List Value} {dv:List PV} {x:Str} {pp pos pos1 pos2 pos3 pc:Pos} {c n:Str} {i nn:Nat} {b₀:Stmt} {body:List Stmt} {newId:String} {up:Rho→Rho}
end
end L2.Pp
namespace L2.Pp
open PySem
section
variable {prog:Program} {w:World} {A:Around} {E:Value→Shared→Prop} {s:Shared}
end
end L2.Pp
namespace L2
open PySem PyProof.Rows
end L2
namespace L2.Pp
open PySem
end L2.Pp
namespace L2
open PySem PySem.Spec PyProof.Rows Bn
section
variable {X:Cx}
theorem xF (is:List Int):∀ j,j≤is.length→preSum (fun i=>is.getD i 0) j=(is.take j).sum
 | 0,_=>by simp [preSum]
 | j+1,h=>by
  have hj:j < is.length:=h
  rw [preSum,xF is j (by omega),List.take_add_one,List.getElem?_eq_getElem hj,Option.toList_some,List.sum_append,List.sum_singleton]
  simp only [List.getD,List.getElem?_eq_getElem hj,Option.getD_some]
theorem sC (hc:X.calm=true):gW X (.builtin "sum") (fun xs H Q=>∃ (a:Addr) (is:List Int),xs=[.ref a]∧SqL X.K H a (is.map V.int)∧Q (.int is.sum) H):=by
 intro pins s σ H xs us Q I r h
 obtain ⟨a,is,rfl,hq,q⟩:=h
 obtain ⟨u,rfl,ru⟩:=iT r
 cases ru
 obtain ⟨its,rv,pl,hz⟩:=I.list hq
 have hl:is.length=its.length:=by
  have:=rv.length
  rwa [List.length_map] at this
 refine call_sum_walkG (wpAny_pyIter_list pl.isList ?_)
 have ha:a < s.heap.objs.size:=by
  obtain ⟨o,ho,_⟩:=pl.isList
  exact Heap.lt_size ho
 refine ⟨_,_,_,_,_,_,fun i=>is.getD i 0,rfl,Walks.list (prog:=X.prog) (w:=X.w) (A:=X.A.in1) (show X.A.in1.handled=none from I.ok.hd hc) s.heap.objs.size a (Nat.ne_of_lt ha) its.toArray,⟨⟨_,Heap.get?_push_size _ rfl,rfl,rfl⟩,Heap.IsList.at pl.isList fun o e=>Heap.get?_push_of_some _ e⟩,fun b hb=>?_,fun i v hv=>?_,fun h' tk t' kp=>?_⟩
 ·have hb':b=s.heap.objs.size∨b=a:=by simpa using hb
  rw [Heap.size_push]
  rcases hb' with e | e <;> rw [e]
  ·exact Nat.lt_succ_self _
  ·exact Nat.lt_succ_of_lt ha
 ·have hv':its[i]?=some v:=by simpa using hv
  have hi:i < is.length:=by
   have:=(List.getElem?_eq_some_iff.mp hv').1
   omega
  obtain ⟨u,hu,ru⟩:=rv.get (i:=i) (x:=.int is[i]) (by rw [List.getElem?_map,List.getElem?_eq_getElem hi]; rfl)
  rw [hv'] at hu
  cases hu
  obtain ⟨t,ht⟩:=(show ∃ t,v=Value.int is[i] t from ru)
  exact ⟨t,by rw [ht]; simp [List.getD,hi]⟩
 ·have e:preSum (fun i=>is.getD i 0) its.toArray.size=is.sum:=by
   rw [List.size_toArray,← hl,xF is _ (Nat.le_refl _),List.take_length]
  show EP X pins σ Q (.int (preSum (fun i=>is.getD i 0) its.toArray.size) t') _
  rw [e]
  have I1:Inv X pins σ H { s with heap:=s.heap.push { cls:=.type "list_iterator",data:=.fields #[.ref a,.int 0 0] },toks:=s.toks }:=I.kept fun b o z=>Heap.get?_push_of_some _ z
  have fp:dQ X pins H s.heap.objs.size:=I.fpOk (Nat.le_refl _) (I.hok.fresh (Nat.le_refl _))
  obtain ⟨f0,f1,f2,f3,f4,f5⟩:=fp
  exact ⟨.int is.sum,H,I1.turned (fun b o hb z=>kp b o (by simpa using hb) z) f0 f1 f3 f4 f5,⟨t',rfl⟩,q⟩
theorem abF (is:List Int):(List.range is.length).any (fun i=>is.getD i 0 != 0)=is.any (· != 0):=by
 rw [Bool.eq_iff_iff,List.any_eq_true,List.any_eq_true]
 constructor
 ·rintro ⟨i,hi,z⟩
  have hi':i < is.length:=by simpa using hi
  exact ⟨is[i],List.getElem_mem hi',by simpa [List.getD,hi'] using z⟩
 ·rintro ⟨b,hb,z⟩
  obtain ⟨i,hi,rfl⟩:=List.mem_iff_getElem.mp hb
  exact ⟨i,by simpa using hi,by simpa [List.getD,hi] using z⟩
end
end L2
namespace L2.Pp
open PySem PySem.Spec PyProof.Rows Bn
section
variable {K:PySem.W.Frag} {cl:Str→Addr} {E:XK} {X:Cx}
def gO:List PV→Option (List Int)
 | []=>some []
 | .int b :: r=>match gO r with
  | some bs=>some (b :: bs)
  | none=>none
 | _ :: _=>none
theorem oS {c:Addr→Prop} {H:Hp}:∀ {xs:List PV} {bs:List Int} {vs:List V},gO xs=some bs→aJ K c H xs vs→vs=bs.map V.int
 | [],bs,vs,e,r=>by
  cases e
  unfold aJ at r
  exact r
 | .int b :: xs,bs,vs,e,r=>by
  unfold gO at e
  split at e
  ·rename_i cs h
   cases e
   unfold aJ at r
   obtain ⟨v,w,rfl,r1,r2⟩:=r
   unfold Rep at r1
   rw [r1,oS h r2]
   rfl
  ·cases e
 | .non :: _,_,_,e,_=>by cases e
 | .bl _ :: _,_,_,e,_=>by cases e
 | .str _ :: _,_,_,e,_=>by cases e
 | .tup _ :: _,_,_,e,_=>by cases e
 | .lst _ :: _,_,_,e,_=>by cases e
def iH:List PV→Option PV
 | [.lst xs]=>(gO xs).map fun bs=>.int bs.sum
 | _=>none
theorem vV:CaR K (fun xs H Q=>∃ (a:Addr) (is:List Int),xs=[.ref a]∧SqL K H a (is.map V.int)∧Q (.int is.sum) H) iH:=fun {p S H as c xs Q} s ra e k=>by
 unfold iH at e
 split at e
 ·rename_i zs
  cases y:gO zs with
  | none=>rw [y] at e; cases e
  | some bs =>
   rw [y] at e
   cases e
   cases ra with
   | cons h t =>
    cases t
    obtain ⟨a,vs,rfl,l,z,r⟩:=h.lst
    rw [oS y r] at l
    exact ⟨a,bs,rfl,l,k H _ (cK.refl H) (iB (v:=.int _) rfl)⟩
 ·cases e
theorem aby (l:Addr) (items:Array Value) (n:Nat) (dd:Option Addr) (sl:Array (Option Value)) (x:Int) (u:Tok) (hc0:¬(!Builtin.List.listFitsIndex x)=true) (hc1:¬items.size*x.toNat > (2 ^ 63 - 1) / 8) (hc2:¬Builtin.List.listTooLong (items.size*x.toNat)=true) :
  Meets (Builtin.«list.__mul__» ⟨[.ref l,.int x u],[]⟩) (fun _ R s=>s.heap.get? l=some { cls:=.type "list",dict:=dd,data:=.seq items n,slots:=sl }∧R (.ok (.ret (Value.ref s.heap.objs.size))) { s with heap:=s.heap.push { cls:=Value.type "list",data:=Data.seq (List.foldl (fun x1 x2=>x1++x2) #[] (List.replicate (if items.isEmpty=true then 0 else x.toNat) items)) },toks:=s.toks }) :=
 .of_wp fun prog w A R s h=>by
  obtain ⟨hp,g,d,tk,os⟩:=s; obtain ⟨hl,h⟩:=h
  have hsz:=AutoListH.joined_fits hc2
  wp_walk; refine wpAny_ite_false (decide_eq_false (Nat.not_lt.mpr hsz)) ?_; wp_walk; exact ⟨_,rfl,h⟩
theorem abl (a:Int) (t:Tok) (l:Addr) (items:Array Value) (n:Nat) (dd:Option Addr) (sl:Array (Option Value)) :
  Meets (Builtin.«int.__rmul__» ⟨[.int a t,.ref l],[]⟩) (fun _ R s=>s.heap.get? l=some { cls:=.type "list",dict:=dd,data:=.seq items n,slots:=sl }∧R (.ok (.ret Value.notImplemented)) s) :=
 .of_wp fun prog w A R s h=>by obtain ⟨hp,g,d,tk,os⟩:=s; obtain ⟨hl,h⟩:=h; wp_walk; exact ⟨_,rfl,h⟩
def agm (K:PySem.W.Frag):R2:=fun x y H Q=>∃ l k xs,x=.ref l∧y=.int k∧SqL K H l xs∧-(2 ^ 63)≤k∧k < 2 ^ 63∧xs.length*k.toNat≤sizeLine ∧
 ∀ p,H p=none→Q (.ref p) (upd H p (.lst (List.replicate k.toNat xs).flatten))
theorem ab1:OpR X (binaryOp .Mult) (agm X.K):=by
 intro pins s σ H x y v u Q I rx ry h
 obtain ⟨l,k,xs,rfl,rfl,hx,h1,h2,hz,q⟩:=h
 cases rx
 obtain ⟨t,rfl⟩:=ry
 obtain ⟨its,r,p1,_⟩:=I.list hx
 obtain ⟨⟨cls,dd,data,sl⟩,n,e,hc,_,hd⟩:=p1
 simp only at hc hd
 subst hc hd
 have hl:=r.length
 have hlen:its.toArray.size*k.toNat≤sizeLine:=by rw [List.size_toArray,← hl]; exact hz
 have hcap:¬ its.toArray.size*k.toNat > (2 ^ 63 - 1) / 8:=by
  have:(sizeLine:Nat)≤(2 ^ 63 - 1) / 8:=by decide
  omega
 have hfit:¬ (!Builtin.List.listFitsIndex k)=true:=by
  rw [fitsIndex_both h1 h2]
  exact Bool.false_ne_true
 have hlong:¬ Builtin.List.listTooLong (its.toArray.size*k.toNat)=true:=by
  rw [acx hlen]
  exact Bool.false_ne_true
 have hnew:List.foldl (fun x1 x2=>x1++x2) #[] (List.replicate (if its.toArray.isEmpty=true then 0 else k.toNat) its.toArray)=(List.replicate k.toNat its).flatten.toArray:=by
  have f0:∀ m:Nat,List.foldl (fun x1 x2=>x1++x2) #[] (List.replicate m its.toArray)=(List.replicate m its).flatten.toArray:=fun m=>by
   have:=yM its m []
   rw [List.nil_append] at this
   exact this
  rw [f0]
  cases its with
  | nil=>simp
  | cons a r'=>rw [if_neg (by simp)]
 refine wpAny_binaryOp_repeat_ref (T:="list") (U:="int") (by decide) ⟨_,e,rfl⟩ (fun s'=>typeIs_int s' k t) noFill_list_mul F.fills_int_mul F.slot_int_rmul repeat_list F.slot_int_index.lookup
  (call_meets F.slot_int_rmul (typeIs_int s k t) F.entry_int_rmul (F.args_int_rmul_2 _ _) (abl k t l its.toArray n dd sl)
   ⟨e,rfl,⟨_,e,rfl⟩,call_meets F.slot_list_mul ⟨_,e,rfl⟩ F.entry_list_mul (F.args_list_mul_2 _ _) (aby l its.toArray n dd sl k t hfit hcap hlong) ⟨e,?_⟩⟩)
 rw [hnew]
 exact ⟨.ref _,_,I.lnew (t':=s.toks) (r.rep k.toNat) (by rw [uA,Nat.mul_comm]; exact hz),rfl,q _ I.fresh⟩
def wR (xs:List PV) (k:Int):List PV:=(List.replicate k.toNat xs).flatten
def wJ (n:Nat) (k:Int):Prop:=-(2 ^ 63)≤k∧k < 2 ^ 63∧n*k.toNat≤16777216
open Classical in
noncomputable def mH:PV→PV→Option PV
 | .lst xs,.int k=>if wJ xs.length k then some (.lst (wR xs k)) else none
 | _,_=>none
open Classical in
theorem tT {xs:List PV} {k:Int}:mH (.lst xs) (.int k)=if wJ xs.length k then some (.lst (wR xs k)) else none:=rfl
theorem aJ.rep {c:Addr→Prop} {H:Hp} {xs:List PV} {vs:List V} (r:aJ K c H xs vs):∀ n:Nat,aJ K c H (List.replicate n xs).flatten (List.replicate n vs).flatten
 | 0=>aJ.nil
 | n+1=>by
  rw [List.replicate_succ,List.replicate_succ,List.flatten_cons,List.flatten_cons]
  exact r.append (aJ.rep r n)
theorem ahu:OpS K (agm K) mH:=fun {p S H a b c x y Q} s ra rb e k=>by
 cases a with
 | lst xs =>
  cases b with
  | int j =>
   rw [tT] at e
   split at e
   ·rename_i hl
    cases e
    obtain ⟨a1,vs,rfl,l1,z1,r1⟩:=ra.lst
    have hz:vs.length*j.toNat≤sizeLine:=by rw [← r1.length,gH]; exact hl.2.2
    exact ⟨a1,j,vs,rfl,rb.int,l1,hl.1,hl.2.1,hz,fun t ht=>k _ _ (eW ht) (kF s (aJ.rep r1 _) (by rw [uA,Nat.mul_comm]; exact hz) ht)⟩
   ·cases e
  | _=>cases e
 | _=>cases e
end
end L2.Pp
namespace L2.Pp
open PySem PySem.Spec PyProof.Rows Bn
section
variable {K:PySem.W.Frag} {cl:Str→Addr} {E:XK} {X:Cx} {p q:Ph} {H H':Hp} {S:Sto}
variable {sc:Scope} {own:List Str} {cap:List (Nat × Str)} {elt target iter:Expr} {pos:Pos} {mi:MI} {g:GM} {me:ME}
end
section
variable {K:PySem.W.Frag} {cl:Str→Addr} {E:XK} {X:Cx} {e:Expr} {m:ME} {pos p2:Pos}
end
end L2.Pp
namespace L2.Pp
open PySem PySem.Spec PyProof.Rows Bn
section
variable {K:PySem.W.Frag} {cl:Str→Addr} {E:XK} {X:Cx}
end
end L2.Pp
namespace L2
open PySem PySem.Spec PyProof.Rows Bn
open PySem.W (KasT kas_sort kas_ask KatLex KatGo KatTups kat_run kat_kind kat_lt kat_one kas_item kat_snds)
def jI {α:Type} (lt:Nat→Nat→Bool):KasT α→α
 | .ret a=>a
 | .ask i j k=>jI lt (k (lt i j))
def fH {α:Type} (n:Nat):KasT α→Bool
 | .ret _=>true
 | .ask i j k=>decide (i < n) && decide (j < n) && fH n (k true) && fH n (k false)
theorem aaD {α:Type} {cmp:Nat→Nat→(Bool→Shared→Prop)→Shared→Prop} {lt:Nat→Nat→Bool} {n:Nat} {s:Shared} (hc:∀ i j (C:Bool→Shared→Prop),i < n→j < n→C (lt i j) s→cmp i j C s):∀ (t:KasT α) (Q:α→Shared→Prop),fH n t=true→Q (jI lt t) s→t.kasWp cmp Q s
 | .ret a,Q,_,h=>h
 | .ask i j k,Q,ok,h=>by
  unfold fH at ok
  simp only [Bool.and_eq_true,decide_eq_true_eq] at ok
  obtain ⟨⟨⟨hi,hj⟩,h1⟩,h2⟩:=ok
  refine hc i j _ hi hj (aaD hc (k (lt i j)) Q ?_ h)
  cases lt i j
  ·exact h2
  ·exact h1
def lW (h:Heap) (v:Value) (us:List Int):Prop:=∃ a o its n,v=.ref a∧h.get? a=some o∧o.cls=.type "tuple"∧o.data=.seq (List.toArray its) n∧aX (us.map V.int) its
section
variable {prog:Program} {w:World} {A:Around} {E:Value→Shared→Prop} {s:Shared}
theorem ab9 {Q:Bool→Shared→Prop}:∀ (us vs:List Int) (its jts:List Value) (i:Nat) (fin:Bool),aX (us.map V.int) its→aX (vs.map V.int) jts→fin=decide (us.length < vs.length)→Q (HT.lexLt us vs) s→KatLex prog w A true fin Q (its.zip jts) i s
 | [],vs,its,jts,i,fin,h1,h2,hf,hQ=>by
  cases h1
  cases vs with
  | nil =>
   subst hf
   exact PySem.W.kat_nil hQ
  | cons v vs =>
   have e:fin=true:=by rw [hf]; simp
   subst e
   exact PySem.W.kat_nil hQ
 | u :: us,[],its,jts,i,fin,h1,h2,hf,hQ=>by
  cases h2
  have e:fin=false:=by rw [hf]; simp
  subst e
  rw [List.zip_nil_right]
  exact PySem.W.kat_nil hQ
 | u :: us,v :: vs,its,jts,i,fin,h1,h2,hf,hQ=>by
  cases h1 with
  | cons r1 t1 =>
   cases h2 with
   | cons r2 t2 =>
    obtain ⟨k1,rfl⟩:=r1
    obtain ⟨k2,rfl⟩:=r2
    rw [List.zip_cons_cons]
    refine PySem.W.kat_cons (wpAny_eqBool_int ?_)
    rw [HT.lexLt_cons] at hQ
    by_cases e:u=v
    ·rw [if_pos e] at hQ
     have b:(u == v)=true:=by simpa using e
     rw [b]
     exact PySem.W.kat_yes (ab9 us vs _ _ (i+1) fin t1 t2 (by rw [hf]; simp) hQ)
    ·rw [if_neg e] at hQ
     have b:(u == v)=false:=by simpa using e
     rw [b]
     refine PySem.W.kat_no ?_
     by_cases hi:i=0
     ·subst hi
      exact oneLt_int hQ
     ·have b2:(true && i == 0)=false:=by simpa using hi
      rw [b2]
      exact kat_one _ _ (PySem.P.lt_int hQ)
theorem af1 {x y:Value} {us vs:List Int} {Q:Bool→Shared→Prop} (hx:lW s.heap x us) (hy:lW s.heap y vs) (h:Q (HT.lexLt us vs) s):wpAny (model prog w) A (keyLt' (tuples' true) x y) Q E s:=by
 obtain ⟨a,o,its,n,rfl,ho,hc,hd,r⟩:=hx
 obtain ⟨b,o2,jts,k,rfl,ho2,hc2,hd2,r2⟩:=hy
 refine kat_lt ho hd ho2 hd2 ?_
 have l1:=r.length
 have l2:=r2.length
 rw [List.length_map] at l1 l2
 refine ab9 us vs its jts 0 _ r r2 ?_ h
 rw [List.size_toArray,List.size_toArray,l1,l2]
theorem xL:∀ (vs:List Value) (uss:List (List Int)),vs.length=uss.length→(∀ i,i < vs.length→lW s.heap (vs.getD i Value.none) (uss.getD i [])∧uss.getD i []≠[])→∃ fs,KatTups s.heap vs fs∧fs.length=vs.length∧∀ v∈fs,∃ i t,v=.int i t
 | [],uss,_,_=>⟨[],trivial,rfl,fun _ h=>absurd h List.not_mem_nil⟩
 | v :: vs,[],hl,_=>by cases hl
 | v :: vs,us :: uss,hl,h=>by
  obtain ⟨fs,k,l,q⟩:=xL vs uss (by simpa using hl) fun i hi=>by
   have:=h (i+1) (by simp; omega)
   simpa using this
  obtain ⟨⟨a,o,its,n,e,ho,hc,hd,r⟩,ne⟩:=h 0 (by simp)
  have e:v=.ref a:=e
  subst e
  cases us with
  | nil=>exact absurd rfl ne
  | cons u us =>
   have r:aX (V.int u :: us.map V.int) its:=r
   cases r with
   | cons r1 t1 =>
    obtain ⟨t,rfl⟩:=r1
    refine ⟨.int u t :: fs,KatTups.cons ho hc hd (by simp) k,by simp [l],fun x hx=>?_⟩
    rcases List.mem_cons.mp hx with rfl | hx
    ·exact ⟨u,t,rfl⟩
    ·exact q x hx
def cC (uss:List (List Int)):List Nat:=(jI (fun i j=>HT.lexLt (uss.getD i []) (uss.getD j [])) (kas_sort uss.length)).toList
theorem aai {a:Addr} {vs:List Value} {uss:List (List Int)} {n:Nat} {P:PySem.Fin→Shared→Prop} (ho:s.heap.get? a=some (seqObj "list" vs.toArray n)) (hl:vs.length=uss.length) (h2:2≤vs.length) (h64:vs.length < 64) (ok:fH uss.length (kas_sort uss.length)=true)
  (tu:∀ i,i < vs.length→lW s.heap (vs.getD i Value.none) (uss.getD i [])∧uss.getD i []≠[])
  (h:P (.done (.ret .none)) { s with heap:=sortedHeap s.heap a vs (List.toArray ((cC uss).map fun i=>vs.getD i Value.none)) }) :
  wpAny (model prog w) A (Builtin.«list.sort» ⟨[.ref a],[]⟩) P E s:=by
 have ha:a < s.heap.objs.size:=Heap.lt_size ho
 obtain ⟨e1,ho1⟩:∃ e1,(s.heap.update a (Obj.mapSeq fun _=>(#[]:Array Value))).get? a=some (seqObj "list" #[] e1):=⟨_,get?_update_seq ho fun _=>#[]⟩
 have kp:∀ b o,b≠a→s.heap.get? b=some o→(((s.heap.update a (Obj.mapSeq fun _=>(#[]:Array Value))).push (seqObj "tuple" vs.toArray 0)).push (seqObj "list" #[] 0)).get? b=some o:=fun b o hb e =>
  Heap.get?_push_of_some _ (Heap.get?_push_of_some _ ((Heap.get?_update_ne _ _ _ _ hb).trans e))
 have tu2:∀ i,i < vs.length→lW (((s.heap.update a (Obj.mapSeq fun _=>(#[]:Array Value))).push (seqObj "tuple" vs.toArray 0)).push (seqObj "list" #[] 0)) (vs.getD i Value.none) (uss.getD i [])∧uss.getD i []≠[]:=fun i hi=>by
  obtain ⟨⟨b,o,its,m,e,hb,hc,hd,r⟩,ne⟩:=tu i hi
  refine ⟨⟨b,o,its,m,e,kp b o (fun z=>?_) hb,hc,hd,r⟩,ne⟩
  subst z
  rw [ho] at hb
  cases hb
  have hc:Value.type "list"=Value.type "tuple":=hc
  injection hc with hc
  exact absurd hc (by decide)
 have na:(((s.heap.update a (Obj.mapSeq fun _=>(#[]:Array Value))).push (seqObj "tuple" vs.toArray 0)).push (seqObj "list" #[] 0)).get? a=some (seqObj "list" #[] e1):=Heap.get?_push_of_some _ (Heap.get?_push_of_some _ ho1)
 rw [list_sort_plain]
 refine wpAny_bind (listItems_at ho rfl ?_)
 refine wpAny_bind (listUpdate_at ho rfl ?_ (by rw [List.size_toArray,sizeLine_eq]; omega) (Nat.zero_le _))
 refine wpAny_bind (seqEpoch_at ho1 rfl ?_)
 refine wpAny_bind (wpAny_newTuple ?_ (by show vs.length≤_; rw [sizeLine_eq]; omega))
 refine wpAny_bind (wpAny_newList ?_ (Nat.zero_le _))
 refine wpAny_holding ?_
 show wpAny (model prog w) A _ P E { s with heap:=((s.heap.update a (Obj.mapSeq fun _=>(#[]:Array Value))).push (seqObj "tuple" vs.toArray 0)).push (seqObj "list" #[] 0) }
 dsimp only
 have hn2:¬ vs.toArray.size < 2:=by rw [List.size_toArray]; omega
 rw [if_neg hn2,if_neg hn2]
 obtain ⟨fs,kt,lf,qf⟩:=xL (s:={ s with heap:=((s.heap.update a (Obj.mapSeq fun _=>(#[]:Array Value))).push (seqObj "tuple" vs.toArray 0)).push (seqObj "list" #[] 0) }) vs uss hl tu2
 refine wpAny_bind (kat_kind (T:=.type "int") kt (by omega) (fun v hv=>?_) rfl ?_)
 ·obtain ⟨i,t,rfl⟩:=qf v hv
  exact .now
 have bt:(Value.type "int" != Value.type "tuple")=true:=by decide
 rw [bt]
 refine wpAny_bind (wpAny_mono (kat_run (Q:=fun st' s'=>∃ p:Array Nat,p.size=vs.length∧arrOf st'=p.map (kas_item (vs.toArray.zip vs.toArray))∧failedOf st'=none∧p.toList=cC uss∧s'={ s with heap:=((s.heap.update a (Obj.mapSeq fun _=>(#[]:Array Value))).push (seqObj "tuple" vs.toArray 0)).push (seqObj "list" #[] 0) })
  (G:=fun p s'=>p.toList=cC uss∧s'={ s with heap:=((s.heap.update a (Obj.mapSeq fun _=>(#[]:Array Value))).push (seqObj "tuple" vs.toArray 0)).push (seqObj "list" #[] 0) })
  rfl h2 h64 (fun p' st' s' a1 a2 a3 a4=>⟨p',a1,a2,a3,a4⟩) ?_) ?_ fun _ _ e=>e)
 ·rw [hl]
  refine aaD (lt:=fun i j=>HT.lexLt (uss.getD i []) (uss.getD j [])) (n:=uss.length) (fun i j C hi hj hC=>?_) _ _ ok ⟨rfl,rfl⟩
  exact af1 (tu2 i (by omega)).1 (tu2 j (by omega)).1 hC
 rintro ⟨⟨⟩,st'⟩ s' ⟨p,hp,har,hf,hpl,rfl⟩
 dsimp only
 have hout:=kat_snds rfl har
 have hsz:(List.toArray (p.toList.map fun i=>vs.getD i Value.none)).size=vs.length:=by rw [List.size_toArray,List.length_map,Array.length_toList,hp]
 rw [hout]
 refine wpAny_bind (seqEpoch_at na rfl ?_)
 refine wpAny_bind (listUpdate_at na rfl ?_ (Nat.zero_le _) (Nat.le_trans (Nat.le_of_eq hsz) (by rw [sizeLine_eq]; omega)))
 rw [hf]
 simp only [bne_self_eq_false,Bool.false_eq_true,if_false]
 refine wpAny_pure ?_
 rw [hpl]
 exact h
theorem abi {l:Addr} {o:Obj} {T:String} {vs:List Value} {uss:List (List Int)} {n:Nat} {Q:Value→Shared→Prop} (hT:T="list"∨T="tuple") (ho:s.heap.get? l=some o) (hc:o.cls=.type T) (hd:o.data=.seq vs.toArray n) (hl:vs.length=uss.length) (h2:2≤vs.length) (h64:vs.length < 64) (ok:fH uss.length (kas_sort uss.length)=true)
  (tu:∀ i,i < vs.length→lW s.heap (vs.getD i Value.none) (uss.getD i [])∧uss.getD i []≠[])
  (h:∀ (h1 h':Heap) (c:Nat),(∀ b o',s.heap.get? b=some o'→h1.get? b=some o')→(∀ b o',h1.get? b=some o'→h'.get? b=some o')→h'.get? h1.objs.size=some (seqObj "list" (List.toArray ((cC uss).map fun i=>vs.getD i Value.none)) c)→Q (.ref h1.objs.size) { s with heap:=h' }) :
  wpAny (model prog w) A (call (.builtin "sorted") [.ref l]) Q E s:=by
 refine PySem.Calls.call_function_entry kind_sorted plain_sorted entry_sorted (args_sorted1 _) ?_
 unfold Builtin.«sorted»
 refine wpAny_bind (m:=checkCount "sorted" 1 1 _) (wpAny_pure ?_)
 refine wpAny_bind (wpAny_collect_seq l hT ho hc hd (fun h1 k1=>?_) (by rw [List.size_toArray,sizeLine_eq]; omega))
 refine wpAny_bind (wpAny_newList ?_ (by rw [sizeLine_eq]; simp; omega))
 have hoL:(h1.push (seqObj "list" vs.toArray 0)).get? h1.objs.size=some (seqObj "list" vs.toArray 0):=Heap.get?_push_size _ rfl
 show wpAny _ _ _ _ _ { s with heap:=h1.push (seqObj "list" vs.toArray 0) }
 refine wpAny_bind (wpAny_holding (wpAny_call_entry slot_list_sort ⟨_,hoL,rfl⟩ entry_list_sort ?body (args_list_sort _)))
 case body =>
  refine aai (s:={ s with heap:=h1.push (seqObj "list" vs.toArray 0) }) hoL hl h2 h64 ok (fun i hi=>?_) ⟨_,rfl,wpAny_pure ⟨_,rfl,?_⟩⟩
  ·obtain ⟨⟨b,o,its,m,e,hb,hc,hd,r⟩,ne⟩:=tu i hi
   exact ⟨⟨b,o,its,m,e,Heap.get?_push_of_some _ (k1 b o hb),hc,hd,r⟩,ne⟩
  ·obtain ⟨e1,ho1⟩:∃ e1,((h1.push (seqObj "list" vs.toArray 0)).update h1.objs.size (Obj.mapSeq fun _=>(#[]:Array Value))).get? h1.objs.size=some (seqObj "list" #[] e1):=⟨_,get?_update_seq hoL fun _=>#[]⟩
   have ho2:=Heap.get?_push_of_some (seqObj "list" #[] 0) (Heap.get?_push_of_some (seqObj "tuple" vs.toArray 0) ho1)
   obtain ⟨e2,ho3⟩:∃ e2,(sortedHeap (h1.push (seqObj "list" vs.toArray 0)) h1.objs.size vs (List.toArray ((cC uss).map fun i=>vs.getD i Value.none))).get? h1.objs.size=some (seqObj "list" (List.toArray ((cC uss).map fun i=>vs.getD i Value.none)) e2):=⟨_,get?_update_seq ho2 fun _=>List.toArray ((cC uss).map fun i=>vs.getD i Value.none)⟩
   refine h h1 _ e2 k1 (fun b o' hb1=>?_) ho3
   have hne:b≠h1.objs.size:=Nat.ne_of_lt (Heap.lt_size hb1)
   exact (Heap.get?_update_ne _ _ _ _ hne).trans (Heap.get?_push_of_some _ (Heap.get?_push_of_some _ ((Heap.get?_update_ne _ _ _ _ hne).trans (Heap.get?_push_of_some _ hb1))))
end
def wC (K:PySem.W.Frag) (H:Hp) (ts:List V) (uss:List (List Int)):Prop:=ts.length=uss.length∧∀ i t,ts[i]?=some t→∃ a,t=.ref a∧SqT K H a ((uss.getD i []).map V.int)∧uss.getD i []≠[]
theorem aaY {X:Cx}:gW X (.builtin "sorted") (fun xs H Q=>∃ (a:Addr) (ts:List V) (uss:List (List Int)),xs=[.ref a]∧(SqL X.K H a ts∨SqT X.K H a ts)∧wC X.K H ts uss∧2≤ts.length∧ts.length < 64∧fH uss.length (kas_sort uss.length)=true∧(cC uss).length≤64 ∧
  ∀ l,H l=none→Q (.ref l) (upd H l (.lst ((cC uss).map fun i=>ts.getD i .non)))):=by
 intro pins s σ H xs us Q I r h
 obtain ⟨a,ts,uss,rfl,hq,⟨hl,ht⟩,h2,h64,ok,hpl,q⟩:=h
 obtain ⟨u,rfl,ru⟩:=iT r
 cases ru
 have go:∀ (its:List Value) (T:String) (o:Obj) (n:Nat),aX ts its→(T="list"∨T="tuple")→s.heap.get? a=some o→o.cls=.type T→o.data=.seq its.toArray n→ts.length≤sizeLine →
   wpAny (model X.prog X.w) X.A (call (.builtin "sorted") [.ref a]) (EP X pins σ Q) X.xe s:=fun its T o n rv hT ho hc hd hz=>by
  have hlen:=rv.length
  refine abi (uss:=uss) hT ho hc hd (by omega) (by omega) (by omega) ok (fun i hi=>?_) fun h1 h' c k1 k2 e=>?_
  ·have hi':i < ts.length:=by omega
   obtain ⟨b,e1,sq,ne⟩:=ht i ts[i] (List.getElem?_eq_getElem hi')
   obtain ⟨v,e2,rel⟩:=rv.get (List.getElem?_eq_getElem hi')
   rw [e1] at rel
   cases rel
   obtain ⟨jts,rj,⟨o2,ho2,hc2,m,hd2⟩,_⟩:=I.tuple sq
   refine ⟨⟨b,o2,jts,m,?_,ho2,hc2,hd2,rj⟩,ne⟩
   rw [List.getD,e2]
   rfl
  ·have I1:Inv X pins σ H { s with heap:=h1,toks:=s.toks }:=I.kept k1
   have hz2:((cC uss).map fun i=>ts.getD i .non).length≤sizeLine:=by
    rw [List.length_map,sizeLine_eq]
    omega
   have rel:∀ ps:List Nat,aX (ps.map fun i=>ts.getD i .non) (ps.map fun i=>its.getD i Value.none):=fun ps=>by
    induction ps with
    | nil=>exact .nil
    | cons i ps ih =>
     refine .cons ?_ ih
     by_cases hi:i < ts.length
     ·obtain ⟨v,e2,rr⟩:=rv.get (List.getElem?_eq_getElem hi)
      have q1:ts.getD i .non=ts[i]:=by simp [List.getD,hi]
      have q2:its.getD i Value.none=v:=by simp [List.getD,e2]
      show bH (ts.getD i .non) (its.getD i Value.none)
      rw [q1,q2]
      exact rr
     ·have q1:ts.getD i .non=.non:=by simp [List.getD,hi]
      have q2:its.getD i Value.none=Value.none:=by simp [List.getD,show its.length≤i by omega]
      show bH (ts.getD i .non) (its.getD i Value.none)
      rw [q1,q2]
      rfl
   refine ⟨.ref h1.objs.size,_,I1.laid (t':=s.toks) (o:=.lst ((cC uss).map fun i=>ts.getD i .non)) k2 (Nat.le_refl _) ?_,rfl,q _ (I1.hok.fresh (Nat.le_refl _))⟩
   exact ⟨hz2,_,c,rel _,e⟩
 rcases hq with hq | hq
 ·obtain ⟨its,rv,pl,hz⟩:=I.list hq
  obtain ⟨o,ho,hc,n,hd⟩:=pl.isList
  exact go its "list" o n rv (.inl rfl) ho hc hd hz
 ·obtain ⟨its,rv,⟨o,ho,hc,n,hd⟩,hz⟩:=I.tuple hq
  exact go its "tuple" o n rv (.inr rfl) ho hc hd hz
end L2
namespace L2.Pp
open PySem PySem.Spec PyProof.Rows Bn
open PySem.W (kas_sort)
section
variable {K:PySem.W.Frag}
def jN:List PV→Option (List (List Int))
 | []=>some []
 | .tup us :: r=>match gO us,jN r with
  | some is,some uss=>some (is :: uss)
  | _,_=>none
 | _ :: _=>none
theorem zZ:∀ {xs:List PV} {uss:List (List Int)},jN xs=some uss→xs.length=uss.length
 | [],uss,e=>by cases e; rfl
 | .tup us :: r,uss,e=>by
  unfold jN at e
  split at e
  ·rename_i is uss' h1 h2
   cases e
   rw [List.length_cons,List.length_cons,zZ h2]
  ·cases e
 | .non :: _,_,e=>by cases e
 | .bl _ :: _,_,e=>by cases e
 | .int _ :: _,_,e=>by cases e
 | .str _ :: _,_,e=>by cases e
 | .lst _ :: _,_,e=>by cases e
theorem abL {c:Addr→Prop} {H:Hp}:∀ {xs:List PV} {uss:List (List Int)} {vs:List V},jN xs=some uss→aJ K c H xs vs→∀ i t,vs[i]?=some t→∃ a,t=.ref a∧SqT K H a ((uss.getD i []).map V.int)
 | [],uss,vs,e,r,i,t,h=>by
  unfold aJ at r
  subst r
  simp at h
 | .tup us :: r,uss,vs,e,rr,i,t,h=>by
  unfold jN at e
  split at e
  ·rename_i is uss' h1 h2
   cases e
   unfold aJ at rr
   obtain ⟨v,w,rfl,r1,r2⟩:=rr
   cases i with
   | zero =>
    cases h
    unfold Rep at r1
    obtain ⟨a,ws,rfl,sq,_,r3⟩:=r1
    rw [oS h1 r3] at sq
    exact ⟨a,rfl,sq⟩
   | succ i =>
    have:=abL h2 r2 i t (by simpa using h)
    simpa using this
  ·cases e
 | .non :: _,_,_,e,_,_,_,_=>by cases e
 | .bl _ :: _,_,_,e,_,_,_,_=>by cases e
 | .int _ :: _,_,_,e,_,_,_,_=>by cases e
 | .str _ :: _,_,_,e,_,_,_,_=>by cases e
 | .lst _ :: _,_,_,e,_,_,_,_=>by cases e
def vX (uss:List (List Int)):Prop:=2≤uss.length∧uss.length < 64∧fH uss.length (kas_sort uss.length)=true∧(cC uss).length≤64∧∀ us∈uss,us≠[]
def vM (xs:List PV) (uss:List (List Int)):List PV:=(cC uss).map fun i=>xs.getD i .non
open Classical in
noncomputable def lY (xs:List PV):Option PV:=match jN xs with
 | some uss=>if vX uss then some (.lst (vM xs uss)) else none
 | none=>none
noncomputable def pE:List PV→Option PV
 | [.lst xs]=>lY xs
 | [.tup xs]=>lY xs
 | _=>none
theorem zF {c:Addr→Prop} {H:Hp} {xs:List PV} {vs:List V} (r:aJ K c H xs vs):∀ ps:List Nat,aJ K c H (ps.map fun i=>xs.getD i .non) (ps.map fun i=>vs.getD i .non)
 | []=>.nil
 | i :: ps=>by
  refine .cons ?_ (zF r ps)
  by_cases hi:i < xs.length
  ·obtain ⟨v,e1,e2⟩:=r.get (List.getElem?_eq_getElem hi)
   have q1:xs.getD i .non=xs[i]:=by simp [List.getD,hi]
   have q2:vs.getD i .non=v:=by simp [List.getD,e1]
   show Rep K c H (xs.getD i .non) (vs.getD i .non)
   rw [q1,q2]
   exact e2
  ·have hl:=r.length
   have q1:xs.getD i .non=.non:=by simp [List.getD,hi]
   have q2:vs.getD i .non=.non:=by simp [List.getD,show vs.length≤i by omega]
   show Rep K c H (xs.getD i .non) (vs.getD i .non)
   rw [q1,q2]
   unfold Rep
   rfl
theorem agr:CaR K (fun xs H Q=>∃ (a:Addr) (ts:List V) (uss:List (List Int)),xs=[.ref a]∧(SqL K H a ts∨SqT K H a ts)∧wC K H ts uss∧2≤ts.length∧ts.length < 64∧fH uss.length (kas_sort uss.length)=true∧(cC uss).length≤64 ∧
  ∀ l,H l=none→Q (.ref l) (upd H l (.lst ((cC uss).map fun i=>ts.getD i .non)))) pE:=fun {p S H as c xs Q} s ra e k=>by
 have key:∀ (zs:List PV) (a:Addr) (vs:List V),lY zs=some c→(SqL K H a vs∨SqT K H a vs)→aJ K p.c H zs vs→∃ (a':Addr) (ts:List V) (uss:List (List Int)),[V.ref a]=[.ref a']∧(SqL K H a' ts∨SqT K H a' ts)∧wC K H ts uss∧2≤ts.length∧ts.length < 64∧fH uss.length (kas_sort uss.length)=true∧(cC uss).length≤64 ∧
   ∀ l,H l=none→Q (.ref l) (upd H l (.lst ((cC uss).map fun i=>ts.getD i .non))):=fun zs a vs e sq r=>by
  unfold lY at e
  split at e
  ·rename_i uss hu
   split at e
   ·rename_i hc
    cases e
    obtain ⟨c1,c2,c3,c4,c5⟩:=hc
    have l1:=zZ hu
    have l2:=r.length
    refine ⟨a,vs,uss,rfl,sq,⟨by omega,fun i t h=>?_⟩,by omega,by omega,c3,c4,fun l hl=>?_⟩
    ·obtain ⟨b,e1,e2⟩:=abL hu r i t h
     have hi:i < uss.length:=by
      have:=(List.getElem?_eq_some_iff.mp h).1
      omega
     refine ⟨b,e1,e2,?_⟩
     rw [List.getD,List.getElem?_eq_getElem hi]
     exact c5 _ (List.getElem_mem hi)
    ·refine k _ _ (eW hl) (kF s (zF r _) ?_ hl)
     rw [List.length_map,gH]
     omega
   ·cases e
  ·cases e
 unfold pE at e
 split at e
 ·rename_i zs
  cases ra with
  | cons h t =>
   cases t
   obtain ⟨a,vs,rfl,l,z,r⟩:=h.lst
   exact key zs a vs e (.inl l) r
 ·rename_i zs
  cases ra with
  | cons h t =>
   cases t
   obtain ⟨a,vs,rfl,l,z,r⟩:=h.tup
   exact key zs a vs e (.inr l) r
 ·cases e
end
end L2.Pp
namespace L2
open PySem.W (KasT kas_sort)
theorem xY {α:Type} {lt lt':Nat→Nat→Bool} {n:Nat} (h:∀ i j,i < n→j < n→lt i j=lt' i j):∀ t:KasT α,fH n t=true→jI lt t=jI lt' t
 | .ret a,_=>rfl
 | .ask i j k,ok=>by
  unfold fH at ok
  simp only [Bool.and_eq_true,decide_eq_true_eq] at ok
  obtain ⟨⟨⟨hi,hj⟩,h1⟩,h2⟩:=ok
  show jI lt (k (lt i j))=jI lt' (k (lt' i j))
  rw [← h i j hi hj]
  refine xY h (k (lt i j)) ?_
  cases lt i j
  ·exact h2
  ·exact h1
theorem iM:∀ u:List Int,HT.lexLt u u=false
 | []=>rfl
 | x :: u=>by rw [HT.lexLt_cons,if_pos rfl,iM u]
theorem tG:∀ u v:List Int,u=v∨HT.lexLt u v=true∨HT.lexLt v u=true
 | [],[]=>.inl rfl
 | [],_ :: _=>.inr (.inl rfl)
 | _ :: _,[]=>.inr (.inr rfl)
 | x :: u,y :: v=>by
  rw [HT.lexLt_cons,HT.lexLt_cons]
  by_cases h:x=y
  ·subst h
   rw [if_pos rfl,if_pos rfl]
   rcases tG u v with h | h | h
   ·exact .inl (by rw [h])
   ·exact .inr (.inl h)
   ·exact .inr (.inr h)
  ·rw [if_neg h,if_neg (fun z=>h z.symm)]
   by_cases q:x < y
   ·exact .inr (.inl (by simpa using q))
   ·exact .inr (.inr (by simp; omega))
theorem oJ:∀ u v w:List Int,HT.lexLt u v=true→HT.lexLt v w=true→HT.lexLt u w=true
 | [],[],_,h,_=>by cases h
 | [],_ :: _,[],_,h=>by cases h
 | [],_ :: _,_ :: _,_,_=>rfl
 | _ :: _,[],_,h,_=>by cases h
 | _ :: _,_ :: _,[],_,h=>by cases h
 | x :: u,y :: v,z :: w,h1,h2=>by
  rw [HT.lexLt_cons] at h1 h2 ⊢
  by_cases e1:x=y
  ·subst e1
   rw [if_pos rfl] at h1
   by_cases e2:x=z
   ·rw [if_pos e2] at h2 ⊢
    exact oJ u v w h1 h2
   ·rw [if_neg e2] at h2 ⊢
    exact h2
  ·rw [if_neg e1] at h1
   have h1:x < y:=by simpa using h1
   by_cases e2:y=z
   ·subst e2
    rw [if_neg e1]
    simpa using h1
   ·rw [if_neg e2] at h2
    have h2:y < z:=by simpa using h2
    rw [if_neg (by omega)]
    simp
    omega
theorem acF {u v:List Int} (h:HT.lexLt u v=true):HT.lexLt v u=false:=by
 cases q:HT.lexLt v u with
 | false=>rfl
 | true =>
  have:=oJ u v u h q
  rw [iM] at this
  cases this
theorem adp {u v:List Int} (h:HT.lexLt u v=false) (g:HT.lexLt v u=false):u=v:=by
 rcases tG u v with e | e | e
 ·exact e
 ·rw [h] at e; cases e
 ·rw [g] at e; cases e
def r3 (a b c d e f:Bool):Bool:=(!(a && b) || c) && (!(d && e) || f)
def okT (b:Nat→Nat→Bool) (n:Nat):Bool:=(List.range n).all fun i=>!(b i i) && (List.range n).all fun j=>!(b i j && b j i) && (List.range n).all fun k=>(!(b i j && b j k) || b i k) && (b i j || b j k || !(b i k))
def qJ (b:Nat→Nat→Bool) (n:Nat) (ps:List (List Nat)):Bool:=let p:=(jI b (kas_sort n)).toList
 ps.contains p && (List.range n).all fun i=>(List.range n).all fun j=>!(decide (i < j)) || !(b (p.getD j 0) (p.getD i 0))
def nH:List (List Nat):=[[0,1,2],[0,2,1],[1,0,2],[1,2,0],[2,0,1],[2,1,0]]
def nG:List (List Nat):=[[0,1,2,3],[0,1,3,2],[0,2,1,3],[0,2,3,1],[0,3,1,2],[0,3,2,1],[1,0,2,3],[1,0,3,2],[1,2,0,3],[1,2,3,0],[1,3,0,2],[1,3,2,0],
 [2,0,1,3],[2,0,3,1],[2,1,0,3],[2,1,3,0],[2,3,0,1],[2,3,1,0],[3,0,1,2],[3,0,2,1],[3,1,0,2],[3,1,2,0],[3,2,0,1],[3,2,1,0]]
def mt3 (b01 b02 b10 b12 b20 b21:Bool) (i j:Nat):Bool:=match i,j with
 | 0,1=>b01 | 0,2=>b02 | 1,0=>b10 | 1,2=>b12 | 2,0=>b20 | 2,1=>b21 | _,_=>false
def mt4 (b01 b02 b03 b10 b12 b13 b20 b21 b23 b30 b31 b32:Bool) (i j:Nat):Bool:=match i,j with
 | 0,1=>b01 | 0,2=>b02 | 0,3=>b03 | 1,0=>b10 | 1,2=>b12 | 1,3=>b13 | 2,0=>b20 | 2,1=>b21 | 2,3=>b23 | 3,0=>b30 | 3,1=>b31 | 3,2=>b32 | _,_=>false
theorem afe:fH 3 (kas_sort 3)=true:=by decide +kernel
theorem afH:fH 4 (kas_sort 4)=true:=by decide +kernel
theorem ahX:∀ b01 b02 b10 b12 b20 b21:Bool,okT (mt3 b01 b02 b10 b12 b20 b21) 3=true→qJ (mt3 b01 b02 b10 b12 b20 b21) 3 nH=true:=by decide +kernel
theorem ah9:∀ b01 b02 b03 b10 b12 b13 b20 b21 b23 b30 b31 b32:Bool,okT (mt4 b01 b02 b03 b10 b12 b13 b20 b21 b23 b30 b31 b32) 4=true→qJ (mt4 b01 b02 b03 b10 b12 b13 b20 b21 b23 b30 b31 b32) 4 nG=true:=by decide +kernel
theorem adx {b:Nat→Nat→Bool} {n:Nat} {uss:List (List Int)} (h:∀ i j,i < n→j < n→b i j=HT.lexLt (uss.getD i []) (uss.getD j [])):okT b n=true:=by
 unfold okT
 simp only [List.all_eq_true,List.mem_range,Bool.and_eq_true,Bool.not_eq_true',Bool.or_eq_true,Bool.and_eq_false_imp]
 intro i hi
 refine ⟨by rw [h i i hi hi,iM],fun j hj=>⟨fun q=>?_,fun k hk=>⟨?_,?_⟩⟩⟩
 ·rw [h i j hi hj] at q
  rw [h j i hj hi,acF q]
 ·rw [h i j hi hj,h j k hj hk,h i k hi hk]
  cases q1:HT.lexLt (uss.getD i []) (uss.getD j []) with
  | false=>exact .inl fun z=>by cases z
  | true =>
   cases q2:HT.lexLt (uss.getD j []) (uss.getD k []) with
   | false=>exact .inl fun _=>rfl
   | true=>exact .inr (oJ _ _ _ q1 q2)
 ·rw [h i j hi hj,h j k hj hk,h i k hi hk]
  cases q1:HT.lexLt (uss.getD i []) (uss.getD j []) with
  | true=>exact .inl (.inl rfl)
  | false =>
   cases q2:HT.lexLt (uss.getD j []) (uss.getD k []) with
   | true=>exact .inl (.inr rfl)
   | false =>
    refine .inr ?_
    cases q3:HT.lexLt (uss.getD i []) (uss.getD k []) with
    | false=>rfl
    | true =>
     rcases tG (uss.getD i []) (uss.getD j []) with e | e | e
     ·rw [e] at q3; rw [q2] at q3; cases q3
     ·rw [q1] at e; cases e
     ·have:=oJ _ _ _ e q3
      rw [q2] at this
      cases this
end L2
namespace L2
open PySem.W (KasT kas_sort)
def cZ (uss:List (List Int)):List (List Int):=(cC uss).map fun i=>uss.getD i []
def leU (u v:List Int):Prop:=HT.lexLt v u=false
theorem yH {uss:List (List Int)} {n:Nat} {ps:List (List Nat)} (hl:uss.length=n) (ok:fH n (kas_sort n)=true) {b:Nat→Nat→Bool} (hb:∀ i j,i < n→j < n→b i j=HT.lexLt (uss.getD i []) (uss.getD j [])) (good:qJ b n ps=true) (hp:∀ p∈ps,p.Perm (List.range n)) :
  cC uss∈ps∧(cC uss).Perm (List.range n)∧(cZ uss).Pairwise leU:=by
 have e:cC uss=(jI b (kas_sort n)).toList:=by
  unfold cC
  rw [hl]
  exact congrArg Array.toList (xY (n:=n) (fun i j hi hj=>(hb i j hi hj).symm) _ ok)
 unfold qJ at good
 simp only [Bool.and_eq_true,List.all_eq_true,List.mem_range] at good
 rw [← e] at good
 obtain ⟨g1,g2⟩:=good
 have m:cC uss∈ps:=by simpa using g1
 have pm:=hp _ m
 refine ⟨m,pm,?_⟩
 have ln:(cC uss).length=n:=by rw [pm.length_eq,List.length_range]
 unfold cZ
 rw [List.pairwise_iff_getElem]
 intro i j hi hj hij
 rw [List.length_map] at hi hj
 have q:=g2 i (by omega) j (by omega)
 have pi:(cC uss).getD i 0=(cC uss)[i]:=by simp [List.getD,hi]
 have pj:(cC uss).getD j 0=(cC uss)[j]:=by simp [List.getD,hj]
 rw [pi,pj] at q
 have li:(cC uss)[i] < n:=by
  have:=pm.subset (List.getElem_mem hi)
  simpa using this
 have lj:(cC uss)[j] < n:=by
  have:=pm.subset (List.getElem_mem hj)
  simpa using this
 rw [hb _ _ lj li] at q
 simp only [List.getElem_map]
 unfold leU
 have d:decide (i < j)=true:=by simpa using hij
 rw [d] at q
 simpa using q
theorem acE:∀ p∈nH,p.Perm (List.range 3):=by decide
theorem acC:∀ p∈nG,p.Perm (List.range 4):=by decide
theorem tR {uss:List (List Int)} (h:uss.length=3):cC uss∈nH∧(cC uss).Perm (List.range 3)∧(cZ uss).Pairwise leU:=by
 match uss,h with
 | [u0,u1,u2],_ =>
  have hb:∀ i j,i < 3→j < 3→mt3 (HT.lexLt u0 u1) (HT.lexLt u0 u2) (HT.lexLt u1 u0) (HT.lexLt u1 u2) (HT.lexLt u2 u0) (HT.lexLt u2 u1) i j=HT.lexLt (([u0,u1,u2]:List (List Int)).getD i []) (([u0,u1,u2]:List (List Int)).getD j []):=fun i j hi hj=>by
   match i,j,hi,hj with
   | 0,0,_,_=>exact (iM u0).symm
   | 0,1,_,_=>rfl
   | 0,2,_,_=>rfl
   | 1,0,_,_=>rfl
   | 1,1,_,_=>exact (iM u1).symm
   | 1,2,_,_=>rfl
   | 2,0,_,_=>rfl
   | 2,1,_,_=>rfl
   | 2,2,_,_=>exact (iM u2).symm
  exact yH rfl afe hb (ahX _ _ _ _ _ _ (adx hb)) acE
theorem tH {uss:List (List Int)} (h:uss.length=4):cC uss∈nG∧(cC uss).Perm (List.range 4)∧(cZ uss).Pairwise leU:=by
 match uss,h with
 | [u0,u1,u2,u3],_ =>
  have hb:∀ i j,i < 4→j < 4→mt4 (HT.lexLt u0 u1) (HT.lexLt u0 u2) (HT.lexLt u0 u3) (HT.lexLt u1 u0) (HT.lexLt u1 u2) (HT.lexLt u1 u3) (HT.lexLt u2 u0) (HT.lexLt u2 u1) (HT.lexLt u2 u3) (HT.lexLt u3 u0) (HT.lexLt u3 u1) (HT.lexLt u3 u2) i j=HT.lexLt (([u0,u1,u2,u3]:List (List Int)).getD i []) (([u0,u1,u2,u3]:List (List Int)).getD j []):=fun i j hi hj=>by
   match i,j,hi,hj with
   | 0,0,_,_=>exact (iM u0).symm
   | 0,1,_,_=>rfl
   | 0,2,_,_=>rfl
   | 0,3,_,_=>rfl
   | 1,0,_,_=>rfl
   | 1,1,_,_=>exact (iM u1).symm
   | 1,2,_,_=>rfl
   | 1,3,_,_=>rfl
   | 2,0,_,_=>rfl
   | 2,1,_,_=>rfl
   | 2,2,_,_=>exact (iM u2).symm
   | 2,3,_,_=>rfl
   | 3,0,_,_=>rfl
   | 3,1,_,_=>rfl
   | 3,2,_,_=>rfl
   | 3,3,_,_=>exact (iM u3).symm
  exact yH rfl afH hb (ah9 _ _ _ _ _ _ _ _ _ _ _ _ (adx hb)) acC
theorem mM {uss:List (List Int)} (h:uss.length=3∨uss.length=4):(cZ uss).Perm uss∧(cZ uss).Pairwise leU:=by
 have key:∀ n,uss.length=n→(cC uss).Perm (List.range n)→(cZ uss).Perm uss:=fun n hn hp=>by
  have e:(List.range n).map (fun i=>uss.getD i [])=uss:=by
   refine List.ext_getElem (by simp [hn]) fun i h1 h2=>?_
   have hi:i < uss.length:=h2
   simp [List.getD,hi]
  have:=hp.map (fun i=>uss.getD i [])
  rw [e] at this
  exact this
 rcases h with h | h
 ·obtain ⟨_,hp,hs⟩:=tR h
  exact ⟨key 3 h hp,hs⟩
 ·obtain ⟨_,hp,hs⟩:=tH h
  exact ⟨key 4 h hp,hs⟩
theorem aak {A B:List (List Int)} (hp:A.Perm B) (ha:A.Pairwise leU) (hb:B.Pairwise leU):A=B :=
 hp.eq_of_pairwise (fun u v _ _ h g=>adp g h) ha hb
theorem aaj {A B:List (List Int)} (hp:A.Perm B) (h:B.length=3∨B.length=4):cZ A=cZ B:=by
 obtain ⟨p1,s1⟩:=mM (uss:=A) (by rw [hp.length_eq]; exact h)
 obtain ⟨p2,s2⟩:=mM h
 exact aak (p1.trans (hp.trans p2.symm)) s1 s2
end L2
namespace L2
open PySem PySem.Spec PyProof.Rows Bn
theorem ad4 {X:Cx} {sc1 sc:Scope} {own1 own:List Str} {cap1 cap:List (Nat × Str)} {C:Addr} {s₀:Shared} {H₀:Hp} {ex:List Addr} (so:Scope) (hso:X.env.scope=so) (hk:so.kind=.function) (kind:sc.kind=.function) (names:∀ y∈sc.names,y.2=.local→sc.names.lookup y.1=some .local)
  (nocell:∀ y∈sc.names,y.2≠.cell) (free:∀ y∈sc.names,y.2=.free→sc1.names.lookup y.1=some .free∧so.names.lookup y.1=some .cell) (at':∀ p∈cap,(bB own1 cap1)[p.1]?=some p.2) (hcap:∀ p∈cap,sc.names.lookup p.2=some .free) :
  fW (cT X sc1 (bB own1 cap1) C s₀ H₀ ex) sc own cap :=
 ⟨kind,names,nocell,fun y hy e=>by
  obtain ⟨f1,f2⟩:=free y hy e
  exact mL (env:=X.env) (by rw [hso]; exact hk) f1 (by show X.env.scope.names.lookup y.1=_; rw [hso]; exact f2),at',hcap⟩
end L2
namespace L2
open PySem PySem.Spec PyProof.Rows Bn
section
variable {M:Model} {A:Around} {E:Value→Shared→Prop} {s:Shared}
theorem aao {scope:Scope} {globals:Addr} {closure:List (Str × Addr)} {qual:Str} {outer:Env} {Q:Env→Shared→Prop}
  (hQ:Q (newEnv scope s.heap.objs.size globals (cellsFrom (s.heap.objs.size+1) scope.names closure) qual none .none (some outer) builtinsNs) { s with heap:=pushCells (s.heap.push { cls:=.type "dict",data:=.dict #[] }) scope.names }) :
  wpAny M A (newFunctionEnv scope globals closure [] qual none .none (some outer)) Q E s:=by
 simp only [newFunctionEnv,Option.isSome_some,if_true]
 refine wpAny_bind (wpAny_alloc ?_)
 refine wpAny_bind (wpAny_layCells _ (fun name kind cells=>by cases hkc:kind == NameKind.cell <;> simp [hkc]) _ _ _ _ ?_)
 rw [show ({ s with heap:=s.heap.push { cls:=.type "dict",data:=.dict #[] } }:Shared).heap.objs.size=s.heap.objs.size+1 from Heap.size_push ..]
 refine wpAny_bind ?_
 rw [List.forIn_nil]
 exact wpAny_pure (wpAny_pure hQ)
end
end L2
namespace L2
open PySem PySem.Spec PyProof.Rows Bn
theorem uT:∀ (names:List (Str × NameKind)) (n:Nat) (acc:List (Str × Addr)),(∀ x y c,acc.lookup x=some c→acc.lookup y=some c→x=y)→(∀ x c,acc.lookup x=some c→c < n) →
  ∀ x y c,(cellsFrom n names acc).lookup x=some c→(cellsFrom n names acc).lookup y=some c→x=y
 | [],n,acc,hi,_,x,y,c,e1,e2=>hi x y c e1 e2
 | (name,kind) :: r,n,acc,hi,hb,x,y,c,e1,e2=>by
  unfold cellsFrom at e1 e2
  by_cases k:(kind == NameKind.cell)=true
  ·rw [if_pos k] at e1 e2
   refine uT r (n+1) _ (fun x y c e1 e2=>?_) (fun x c e=>?_) x y c e1 e2
   ·rw [List.lookup_cons] at e1 e2
    cases wx:x == name with
    | true =>
     cases wy:y == name with
     | true=>rw [beq_iff_eq.mp wx,beq_iff_eq.mp wy]
     | false =>
      rw [wx] at e1
      rw [wy] at e2
      cases e1
      exact absurd (hb y _ e2) (Nat.lt_irrefl _)
    | false =>
     cases wy:y == name with
     | true =>
      rw [wx] at e1
      rw [wy] at e2
      cases e2
      exact absurd (hb x _ e1) (Nat.lt_irrefl _)
     | false =>
      rw [wx] at e1
      rw [wy] at e2
      exact hi x y c e1 e2
   ·rw [List.lookup_cons] at e
    cases wx:x == name with
    | true =>
     rw [wx] at e
     cases e
     exact Nat.lt_succ_self _
    | false =>
     rw [wx] at e
     exact Nat.lt_succ_of_lt (hb x c e)
  ·rw [if_neg k] at e1 e2
   exact uT r n acc hi hb x y c e1 e2
theorem nK {n0:Nat}:∀ (names:List (Str × NameKind)) (n:Nat) (acc:List (Str × Addr)) (x:Str),((∃ c,acc.lookup x=some c∧n0≤c)∨(x,NameKind.cell)∈names)→n0≤n→∃ c,(cellsFrom n names acc).lookup x=some c∧n0≤c
 | [],n,acc,x,h,hn=>by
  rcases h with h | h
  ·exact h
  ·cases h
 | (name,kind) :: r,n,acc,x,h,hn=>by
  unfold cellsFrom
  by_cases k:(kind == NameKind.cell)=true
  ·rw [if_pos k]
   refine nK r (n+1) _ x ?_ (Nat.le_succ_of_le hn)
   cases w:x == name with
   | true=>exact .inl ⟨n,by rw [List.lookup_cons,w],hn⟩
   | false =>
    rcases h with ⟨c,h,z⟩ | h
    ·exact .inl ⟨c,by rw [List.lookup_cons,w]; exact h,z⟩
    ·rcases List.mem_cons.mp h with z | z
     ·cases z
      simp at w
     ·exact .inr z
  ·rw [if_neg k]
   refine nK r n acc x ?_ hn
   rcases h with h | h
   ·exact .inl h
   ·rcases List.mem_cons.mp h with z | z
    ·cases z
     simp at k
    ·exact .inr z
theorem tU {n0:Nat}:∀ (names:List (Str × NameKind)) (n:Nat) (acc:List (Str × Addr)) (x:Str) (c:Addr),n0≤n→(cellsFrom n names acc).lookup x=some c→n0≤c∨acc.lookup x=some c
 | [],n,acc,x,c,hn,e=>.inr e
 | (name,kind) :: r,n,acc,x,c,hn,e=>by
  unfold cellsFrom at e
  by_cases k:(kind == NameKind.cell)=true
  ·rw [if_pos k] at e
   rcases tU r (n+1) _ x c (Nat.le_succ_of_le hn) e with z | z
   ·exact .inl z
   ·rw [List.lookup_cons] at z
    cases w:x == name with
    | true =>
     rw [w] at z
     cases z
     exact .inl hn
    | false =>
     rw [w] at z
     exact .inr z
  ·rw [if_neg k] at e
   exact tU r n acc x c hn e
theorem pP:∀ (names:List (Str × NameKind)) (n:Nat) (acc:List (Str × Addr)) (x:Str),(x,NameKind.cell) ∉ names→(cellsFrom n names acc).lookup x=acc.lookup x
 | [],n,acc,x,h=>rfl
 | (name,kind) :: r,n,acc,x,h=>by
  unfold cellsFrom
  have hr:(x,NameKind.cell) ∉ r:=fun z=>h (List.mem_cons_of_mem _ z)
  by_cases k:(kind == NameKind.cell)=true
  ·rw [if_pos k,pP r _ _ x hr,List.lookup_cons]
   cases w:x == name with
   | true =>
    refine absurd ?_ h
    have e1:x=name:=by simpa using w
    have e2:kind=.cell:=by simpa using k
    rw [e1,e2]
    exact List.mem_cons_self
   | false=>rfl
  ·rw [if_neg k,pP r _ _ x hr]
theorem tV:∀ (names:List (Str × NameKind)) (h:Heap) (acc:List (Str × Addr)),(∀ x c,acc.lookup x=some c→∃ v,h.IsCell c v)→∀ x c,(cellsFrom h.objs.size names acc).lookup x=some c→∃ v,(pushCells h names).IsCell c v
 | [],h,acc,hc,x,c,e=>hc x c e
 | (name,kind) :: r,h,acc,hc,x,c,e=>by
  unfold cellsFrom at e
  unfold pushCells
  by_cases k:(kind == NameKind.cell)=true
  ·rw [if_pos k] at e ⊢
   rw [← Heap.size_push h { cls:=.type "cell",data:=.cell none }] at e
   refine tV r _ _ (fun y c e=>?_) x c e
   rw [List.lookup_cons] at e
   cases w:y == name with
   | true =>
    rw [w] at e
    cases e
    exact ⟨none,_,Heap.get?_push_size _ rfl,rfl⟩
   | false =>
    rw [w] at e
    obtain ⟨v,z⟩:=hc y c e
    exact ⟨v,z.keeps fun b o e=>Heap.get?_push_of_some _ e⟩
  ·rw [if_neg k] at e ⊢
   exact tV r h acc hc x c e
theorem xJ {env:Env}:∀ {names:List (Str × NameKind)} {x:Str},
  (let l:=(names.map fun (n,k)=>if (k == NameKind.free && env.scope.kind == .function && env.kindOf n == some .cell) then (n,NameKind.cell) else (n,k)).lookup x; l=some .cell∨l=some .free)→(x,NameKind.free)∈names∨(x,NameKind.cell)∈names
 | [],x,h=>by
  rcases h with h | h <;> cases h
 | (n,k) :: r,x,h=>by
  dsimp only at h
  rw [List.map_cons] at h
  have ih:=@xJ env r x
  by_cases c:(k == NameKind.free && env.scope.kind == .function && env.kindOf n == some .cell)=true
  ·have kf:k=.free:=by
    simp only [Bool.and_eq_true,beq_iff_eq] at c
    exact c.1.1
   dsimp only at h
   rw [if_pos c,List.lookup_cons] at h
   cases w:x == n with
   | true =>
    have hx:x=n:=by simpa using w
    rw [hx,← kf]
    exact .inl List.mem_cons_self
   | false =>
    rw [w] at h
    exact (ih h).imp (List.mem_cons_of_mem _) (List.mem_cons_of_mem _)
  ·dsimp only at h
   rw [if_neg c,List.lookup_cons] at h
   cases w:x == n with
   | true =>
    rw [w] at h
    have hx:x=n:=by simpa using w
    rcases h with h | h
    ·have kf:k=.cell:=Option.some.inj h
     rw [hx,← kf]
     exact .inr List.mem_cons_self
    ·have kf:k=.free:=Option.some.inj h
     rw [hx,← kf]
     exact .inl List.mem_cons_self
   | false =>
    rw [w] at h
    exact (ih h).imp (List.mem_cons_of_mem _) (List.mem_cons_of_mem _)
theorem xK {env:Env}:∀ {names:List (Str × NameKind)} {x:Str},names.lookup x=some .cell →
  (names.map fun (n,k)=>if (k == NameKind.free && env.scope.kind == .function && env.kindOf n == some .cell) then (n,NameKind.cell) else (n,k)).lookup x=some .cell
 | [],x,h=>by cases h
 | (n,k) :: r,x,h=>by
  rw [List.map_cons]
  dsimp only
  rw [List.lookup_cons] at h
  cases w:x == n with
  | true =>
   rw [w] at h
   have kf:k=.cell:=Option.some.inj h
   subst kf
   rw [if_neg (by rw [show (NameKind.cell == NameKind.free)=false from rfl]; simp),List.lookup_cons,w]
  | false =>
   rw [w] at h
   have ih:=@xK env r x h
   by_cases c:(k == NameKind.free && env.scope.kind == .function && env.kindOf n == some .cell)=true
   ·rw [if_pos c,List.lookup_cons,w]
    exact ih
   ·rw [if_neg c,List.lookup_cons,w]
    exact ih
def fU (X:Cx) (sc:Scope) (N:List Str) (C:Addr) (s₀:Shared) (H₀:Hp) (ex:List Addr):Cx where
 prog:=X.prog
 w:=X.w
 K:=X.K
 mg:=X.mg
 base:=X.base
 A:=X.A
 N:=N
 s₀:=s₀
 H₀:=H₀
 env:=compEnvC sc (cellsFrom (C+1) sc.names (eH X.env sc.names [])) C X.env
 outer:=X.stack
 stack:=X.stack
 ex:=ex
 fn:=fun x=>sc.names.lookup x == some .cell
 calm:=X.calm
 pn:=[]
 xe:=fun _ _=>False
structure kH (X:Cx) (sc:Scope) (own:List Str) (cap:List (Nat × Str)):Prop where
 kind:sc.kind=.function
 names:∀ y∈sc.names,y.2=.local→sc.names.lookup y.1=some .local
 cells:∀ y∈sc.names,y.2=.cell→sc.names.lookup y.1=some .cell
 free:∀ y∈sc.names,y.2=.free→X.env.kindOf y.1=some .cell
 at':∀ p∈cap,X.N[p.1]?=some p.2
 cap:∀ p∈cap,sc.names.lookup p.2=some .free
section
variable {X:Cx} {sc:Scope} {own:List Str} {cap:List (Nat × Str)} {pins:List (Addr × Obj)} {σ:St} {H:Hp} {s:Shared} {elt target iter:Expr} {pos pos':Pos} {wi:TI} {g:TG} {te:TE} {Q:VK}
theorem kH.has (k:kH X sc own cap) (ok:X.Ok):∀ p∈sc.names,p.2=.free→∃ c,X.env.cells.lookup p.1=some c:=fun p hp e=>ok.has p.1 (.inl (k.free p hp e))
theorem Inv.cmpC (k:kH X sc own cap) {h4:Heap} {fp:List Addr} {t':Nat} (I:Inv X pins σ H s) (hf:∀ b∈fp,dQ X pins H b) (hlt:∀ b∈fp,b < s.heap.objs.size)
  (e4:h4=pushCells (s.heap.push { cls:=.type "dict",data:=.dict #[] }) sc.names):Inv (fU X sc (bB own cap) s.heap.objs.size s H fp) [] (fL own cap σ) H { s with heap:=h4,toks:=t' }:=by
 have kp:∀ b o,s.heap.get? b=some o→h4.get? b=some o:=fun b o e=>by
  rw [e4]
  exact pushCells_keeps _ _ b o (Heap.get?_push_of_some _ e)
 have hns:h4.Ns s.heap.objs.size (fun _=>none):=by
  rw [e4]
  exact (Heap.Ns.new ..).keeps fun b o e=>pushCells_keeps _ _ b o e
 have hcl:∀ y c,(eH X.env sc.names []).lookup y=some c→X.env.cells.lookup y=some c:=fun y c e=>by
  rcases oG sc.names [] (k.has I.ok) y c e with z | z
  ·cases z
  ·exact z
 have clt:∀ y c,X.env.cells.lookup y=some c→c < s.heap.objs.size:=fun y c e=>by
  obtain ⟨v,o,ho,_⟩:=I.cell y c e
  exact Heap.lt_size ho
 have hfr:∀ y c,(cellsFrom (s.heap.objs.size+1) sc.names (eH X.env sc.names [])).lookup y=some c→s.heap.objs.size < c∨X.env.cells.lookup y=some c:=fun y c e =>
  (tU (n0:=s.heap.objs.size+1) sc.names _ _ y c (Nat.le_refl _) e).imp (fun z=>z) (hcl y c)
 have nst:∀ b∈fp,b ∉ frs X.stack:=fun b hb z=>by
  rcases List.mem_cons.mp (I.stkSub b z) with e | e
  ·exact (hf b hb).2.1 e
  ·exact (hf b hb).2.2.1 e
 refine ⟨⟨I.ok.mod,k.kind,I.ok.glob,I.ok.blt,Nat.le_refl _,fun x y c h1 h2=>?_,fun x hx=>?_,fun x c hfn e=>?_,I.ok.hd,I.ok.frames,.inl rfl,fun b hb=>⟨Nat.ne_of_lt (hlt b hb),fun x c e=>?_⟩,
  I.bs,Nat.le_trans I.ok.bsz I.sz,fun b o e hb=>?_,nst,I.stack,I.stkFree⟩,rfl,I.bare,Un.kept kp,⟨_,hns,fun i x v h1 h2 h3=>?_⟩,fun x c e=>?_,I.hok.fresh (Nat.le_refl _),fun x c e=>?_,fun p hp=>absurd (show p∈([]:List (Addr × Obj)) from hp) (by simp),I.hok.kept kp,?_⟩
 ·exact uT sc.names _ _ (fun x y c h1 h2=>I.ok.inj x y c (hcl x c h1) (hcl y c h2)) (fun x c e=>Nat.lt_succ_of_lt (clt x c (hcl x c e))) x y c h1 h2
 ·rcases xJ hx with z | z
  ·by_cases m:(x,NameKind.cell)∈sc.names
   ·obtain ⟨c,e,_⟩:=nK (n0:=0) sc.names (s.heap.objs.size+1) (eH X.env sc.names []) x (.inr m) (Nat.zero_le _)
    exact ⟨c,e⟩
   ·obtain ⟨c,e⟩:=kY (env:=X.env) sc.names [] x (.inr z)
    exact ⟨c,(pP sc.names _ _ x m).trans e⟩
  ·obtain ⟨c,e,_⟩:=nK (n0:=0) sc.names (s.heap.objs.size+1) (eH X.env sc.names []) x (.inr z) (Nat.zero_le _)
   exact ⟨c,e⟩
 ·have hm:(x,NameKind.cell)∈sc.names:=PySem.mem_of_lookup (by simpa [fU] using hfn)
  obtain ⟨c',e',hc'⟩:=nK (n0:=s.heap.objs.size) sc.names (s.heap.objs.size+1) (eH X.env sc.names []) x (.inr hm) (Nat.le_succ _)
  have:=e'.symm.trans e
  cases this
  exact hc'
 ·rcases hfr x c e with z | z
  ·exact Nat.ne_of_gt (Nat.lt_trans (hlt b hb) z)
  ·exact (hf b hb).2.2.2.2.1 x c z
 ·rcases (hf b hb).2.2.2.1 with z | z
  ·exact I.ok.noex b o e z
  ·exact absurd (Nat.lt_of_lt_of_le (Heap.lt_size (I.ok.bs b o e).1) z) (Nat.lt_irrefl _)
 ·have hN:(bB own cap)[i]?=some x:=h1
  unfold bB at hN
  unfold fL at h2
  by_cases hi:i < own.length
  ·rw [List.getElem?_append_left (by simpa using hi),List.getElem?_map] at h2
   cases e:own[i]? with
   | none=>rw [e] at h2; cases h2
   | some z=>rw [e] at h2; cases h2
  ·rw [List.getElem?_append_right (by simpa using hi),List.getElem?_map,List.length_map] at h2
   rw [List.getElem?_append_right (by omega),List.getElem?_map] at hN
   cases e:cap[i - own.length]? with
   | none=>rw [e] at h2; cases h2
   | some p =>
    rw [e] at h2 hN
    have hp:p∈cap:=List.mem_of_getElem? e
    have hx:p.2=x:=Option.some.inj hN
    have hv:(σ[p.1]?).join=some v:=Option.some.inj h2
    have hv':σ[p.1]?=some (some v):=by
     cases e2:σ[p.1]? with
     | none=>rw [e2] at hv; cases hv
     | some z=>rw [e2] at hv; exact congrArg some hv
    have fr:=k.cap p hp
    have nc:(p.2,NameKind.cell) ∉ sc.names:=fun z=>by
     have:=k.cells _ z rfl
     rw [fr] at this
     cases this
    have kc:X.env.kindOf p.2=some .cell:=k.free (p.2,.free) (PySem.mem_of_lookup fr) rfl
    obtain ⟨m0,_,hl⟩:=I.loc
    obtain ⟨u,ru,lk⟩:=hl p.1 p.2 v (k.at' p hp) hv' (.inr (.inl kc))
    refine ⟨u,ru,?_⟩
    rcases lk with ⟨k1,_⟩ | ⟨_,c,ec,cell⟩
    ·rw [kc] at k1
     cases k1
    ·rw [← hx]
     obtain ⟨c',ec'⟩:=kY (env:=X.env) sc.names [] p.2 (.inr (PySem.mem_of_lookup fr))
     have:=(hcl _ _ ec').symm.trans ec
     cases this
     obtain ⟨o,ho,hd⟩:=cell
     exact .inr ⟨.inl (mL I.ok.kind fr kc),c,(pP sc.names _ _ p.2 nc).trans ec',o,kp c o ho,hd⟩
 ·show ∃ v,h4.IsCell c v
  rw [e4]
  refine tV sc.names _ (eH X.env sc.names []) (fun y c e=>?_) x c (by rw [Heap.size_push]; exact e)
  obtain ⟨v,z⟩:=I.cell y c (hcl y c e)
  exact ⟨v,z.keeps fun b o e=>Heap.get?_push_of_some _ e⟩
 ·rcases hfr x c e with z | z
  ·exact I.hok.fresh (Nat.le_of_lt z)
  ·exact I.freeC x c z
 ·unfold fL
  show _=(bB own cap).length
  unfold bB
  rw [List.length_append,List.length_append,List.length_map,List.length_map,List.length_map]
theorem Inv.uncmpC {s3 s':Shared} {H3 H':Hp} {N:List Str} {σ':St} {C:Addr} {fp:List Addr} {pl:List (Addr × Obj)} (I:Inv X pins σ H s) (hf:∀ b∈fp,dQ X pins H b) (u:Un (frs X.stack) fp H H3 s.heap s3.heap) (os:s3.os=s.os)
  (J:Inv (fU X sc N C s3 H3 fp) pl σ' H' s'):Inv X pins σ H' s':=by
 have os':s'.os=s.os:=(show s'.os=s3.os from J.os).trans os
 refine I.call' (ch:=fp) os' (u.trans J.base) J.hok J.bare fun b hb=>?_
 obtain ⟨_,f1,_,f3,f4,f5⟩:=hf b hb
 exact ⟨f3,f1,f4,f5⟩
theorem aa5 {use:Option (Value→Sem Unit)} {Qf:Value→Shared→Prop} (k:kH X sc own cap) (hi:PI X target iter wi) (hc:X.calm=true)
  (hg:∀ C s₀ H₀ ex,PG (fU X sc (bB own cap) C s₀ H₀ ex) target g) (he:∀ C s₀ H₀ ex,PE (fU X sc (bB own cap) C s₀ H₀ ex) elt te) (I:Inv X pins σ H s) (h:nU own cap wi g te σ H Q)
  (fin:∀ D C s' H' m,Inv X pins σ H' s'→dQ X pins H' C→s'.heap.Ns C m→Q (.ref D) H'→compPost (model X.prog X.w) X.A X.xe use Qf (.ref D) C (.ok .next) s')
  (hs:∀ x,foldedSetIterable iter X.env x=pure x) :
  wpAny (model X.prog X.w) X.A (comprehension (.ListComp elt [⟨target,iter,[],0⟩] sc pos) sc X.env pos' (newList []) false (eval iter X.env) use) Qf X.xe s:=by
 refine wpAny_comprehension_free (use:=use) rfl hs (uB (k.has I.ok)) k.kind k.names ?_
 refine thn (hi pins s σ H _ I h) fun v s1 h1=>thn h1 fun itv s2 h2=>?_
 obtain ⟨it,fp,tn,J,H2,e,I2,T,st2,f2,hW⟩:=h2
 subst e
 refine wpAny_newObj_type (aao ?_)
 have hsz:(s2.heap.push { cls:=.type "list",data:=.seq ([]:List Value).toArray }).objs.size=s2.heap.objs.size+1:=Heap.size_push ..
 have I3:Inv X pins σ (upd H2 s2.heap.objs.size (.lst [])) { s2 with heap:=s2.heap.push { cls:=.type "list",data:=.seq ([]:List Value).toArray },toks:=s2.toks }:=I2.lnew (ys:=[]) (its:=[]) .nil (Nat.zero_le _)
 have hD:H2 s2.heap.objs.size=none:=I2.fresh
 have ltf:∀ b∈fp,b < s2.heap.objs.size:=fun b hb=>by
  obtain ⟨o,ho,_⟩:=T.obj _ _ st2 b hb
  exact Heap.lt_size ho
 have f3:∀ b∈fp,dQ X pins (upd H2 s2.heap.objs.size (.lst [])) b:=fun b hb=>⟨by rw [bQ (Nat.ne_of_lt (ltf b hb))]; exact (f2 b hb).1,(f2 b hb).2⟩
 have un:Un (frs X.stack) fp H2 (upd H2 s2.heap.objs.size (.lst [])) s2.heap (s2.heap.push { cls:=.type "list",data:=.seq ([]:List Value).toArray }):=Un.laid (fun b u q=>Heap.get?_push_of_some _ q) (Nat.le_refl _) hD
 have kp:∀ b o,(s2.heap.push { cls:=.type "list",data:=.seq ([]:List Value).toArray }).get? b=some o→(pushCells ((s2.heap.push { cls:=.type "list",data:=.seq ([]:List Value).toArray }).push { cls:=.type "dict",data:=.dict #[] }) sc.names).get? b=some o:=fun b o q=>pushCells_keeps _ _ b o (Heap.get?_push_of_some _ q)
 have J0:=I3.cmpC (t':=s2.toks) k f3 (fun b hb=>Nat.lt_of_lt_of_le (ltf b hb) (by rw [Heap.size_push]; exact Nat.le_succ _)) rfl
 have stat:∀ {H':Hp},(∀ b∈fp,H' b=none)→∀ b∈fp,dQ (fU X sc (bB own cap) (s2.heap.push { cls:=.type "list",data:=.seq ([]:List Value).toArray }).objs.size { s2 with heap:=s2.heap.push { cls:=.type "list",data:=.seq ([]:List Value).toArray },toks:=s2.toks } (upd H2 s2.heap.objs.size (.lst [])) fp) [] H' b:=fun hn b hb =>
  ⟨hn b hb,(J0.ok.exf b hb).1,J0.ok.exfs b hb,.inl hb,(J0.ok.exf b hb).2,fun p hp=>absurd (show p∈([]:List (Addr × Obj)) from hp) (by simp)⟩
 have st4:tn 0 (pushCells ((s2.heap.push { cls:=.type "list",data:=.seq ([]:List Value).toArray }).push { cls:=.type "dict",data:=.dict #[] }) sc.names):=T.keep _ _ _ st2 fun b hb o q=>kp b o (Heap.get?_push_of_some _ q)
 have fr0:∀ b∈fp,(upd H2 s2.heap.objs.size (.lst [])) b=none:=fun b hb=>(f3 b hb).1
 have loop:codeAny (model X.prog X.w) X.A (.compLoop (.ListComp elt [⟨target,iter,[],0⟩] sc pos) 0 (.ref it) (.ref s2.heap.objs.size) (compEnvC sc (cellsFrom ((s2.heap.push { cls:=.type "list",data:=.seq ([]:List Value).toArray }).objs.size+1) sc.names (eH X.env sc.names [])) (s2.heap.push { cls:=.type "list",data:=.seq ([]:List Value).toArray }).objs.size X.env))
   (compPost (model X.prog X.w) X.A X.xe use Qf (.ref s2.heap.objs.size) (s2.heap.push { cls:=.type "list",data:=.seq ([]:List Value).toArray }).objs.size) { s2 with heap:=(pushCells ((s2.heap.push { cls:=.type "list",data:=.seq ([]:List Value).toArray }).push { cls:=.type "dict",data:=.dict #[] }) sc.names),toks:=s2.toks }:=by
  obtain ⟨W,⟨m0,w0⟩,turn⟩:=hW s2.heap.objs.size hD
  refine yC (fun n s'=>∃ i σ' H' ys,Inv (fU X sc (bB own cap) (s2.heap.push { cls:=.type "list",data:=.seq ([]:List Value).toArray }).objs.size { s2 with heap:=s2.heap.push { cls:=.type "list",data:=.seq ([]:List Value).toArray },toks:=s2.toks } (upd H2 s2.heap.objs.size (.lst [])) fp) [] σ' H' s'∧tn i s'.heap∧(∀ b∈fp,H' b=none)∧W i n σ' H' ys) ?_ m0
   ⟨0,_,_,[],J0,st4,fr0,w0⟩
  rintro n s5 ⟨i,σ5,H5,ys,I5,st5,fr5,w5⟩
  obtain ⟨hD5,w5⟩:=turn i n σ5 H5 ys w5
  rcases w5 with ⟨stop,qn⟩ | ⟨go,hlt,step⟩
  ·refine thn (T.done (fU X sc (bB own cap) (s2.heap.push { cls:=.type "list",data:=.seq ([]:List Value).toArray }).objs.size { s2 with heap:=s2.heap.push { cls:=.type "list",data:=.seq ([]:List Value).toArray },toks:=s2.toks } (upd H2 s2.heap.objs.size (.lst [])) fp) rfl rfl rfl hc i [] s5 σ5 H5 _ I5 (stat fr5) st5 stop) fun r s6 ⟨hr,I6⟩=>?_
   subst hr
   obtain ⟨m,hn,_⟩:=id I6.loc
   exact fin _ _ s6 H5 m (I2.uncmpC (s3:={ s2 with heap:=s2.heap.push { cls:=.type "list",data:=.seq ([]:List Value).toArray },toks:=s2.toks }) f2 un rfl I6) (I3.fpOk (Nat.le_refl _) I6.free) hn qn
  ·refine thn (T.item (fU X sc (bB own cap) (s2.heap.push { cls:=.type "list",data:=.seq ([]:List Value).toArray }).objs.size { s2 with heap:=s2.heap.push { cls:=.type "list",data:=.seq ([]:List Value).toArray },toks:=s2.toks } (upd H2 s2.heap.objs.size (.lst [])) fp) rfl rfl rfl hc i [] s5 σ5 H5 _ I5 (stat fr5) st5 go) fun r s6 ⟨u,hr,h6⟩=>?_
   subst hr
   refine thn h6 fun _ s7 ⟨x,H7,I7,r7,y7,st7,fr7⟩=>?_
   have I7':=I7.pinned (stat fr7) (T.obj _ _ st7)
   refine thn (hg _ _ _ _ _ s7 σ5 H7 x u _ I7' r7 (step x H7 y7)) fun _ s8 ⟨σ8,H8,I8,q8⟩=>?_
   refine thn (he _ _ _ _ _ s8 σ8 H8 _ I8 q8) fun v9 s9 ⟨y,H9,I9,r9,hD9,m',hm,w9⟩=>?_
   refine thn (oH _ s9 σ8 H9 (.ref s2.heap.objs.size) [y] (.ref s2.heap.objs.size) [v9] (fun _ H'=>H'=upd H9 s2.heap.objs.size (.lst (ys++[y]))) I9 rfl (.cons r9 .nil) ⟨_,ys,y,rfl,rfl,hD9,hlt,rfl⟩) fun _ s10 ⟨_,H10,I10,_,q10⟩=>?_
   subst q10
   refine ⟨m',hm,i+1,σ8,_,_,I10.unpinned,T.keep _ _ _ st7 fun b hb o q=>(I10.pin (b,o) (List.mem_append_right _ (List.mem_append_right _ (iI hb q)))).1,fun b hb=>?_,w9⟩
   obtain ⟨o,q,d⟩:=T.obj _ _ st7 b hb
   exact (I10.pin (b,o) (List.mem_append_right _ (List.mem_append_right _ (iI hb q)))).2.1
 exact codeAny_compStart_list loop (T.self _ 0 _ _ _ st4 loop)
theorem aeC {X:Cx} {sc:Scope} {own:List Str} {cap:List (Nat × Str)} (so:Scope) (N:List Str) (hso:X.env.scope=so) (hN:X.N=N) (kind:sc.kind=.function) (names:∀ y∈sc.names,y.2=.local→sc.names.lookup y.1=some .local)
  (cells:∀ y∈sc.names,y.2=.cell→sc.names.lookup y.1=some .cell) (free:∀ y∈sc.names,y.2=.free→so.names.lookup y.1=some .cell) (at':∀ p∈cap,N[p.1]?=some p.2) (hcap:∀ p∈cap,sc.names.lookup p.2=some .free):kH X sc own cap :=
 ⟨kind,names,cells,fun y hy e=>by show X.env.scope.names.lookup y.1=_; rw [hso]; exact free y hy e,fun p hp=>by rw [hN]; exact at' p hp,hcap⟩
theorem ad5 {X:Cx} {sc1 sc:Scope} {own1 own:List Str} {cap1 cap:List (Nat × Str)} {C:Addr} {s₀:Shared} {H₀:Hp} {ex:List Addr} (so:Scope) (hso:X.env.scope=so) (hk:so.kind=.function) (kind:sc.kind=.function) (names:∀ y∈sc.names,y.2=.local→sc.names.lookup y.1=some .local)
  (nocell:∀ y∈sc.names,y.2≠.cell) (free:∀ y∈sc.names,y.2=.free→sc1.names.lookup y.1=some .cell∨(sc1.names.lookup y.1=some .free∧so.names.lookup y.1=some .cell)) (at':∀ p∈cap,(bB own1 cap1)[p.1]?=some p.2) (hcap:∀ p∈cap,sc.names.lookup p.2=some .free) :
  fW (fU X sc1 (bB own1 cap1) C s₀ H₀ ex) sc own cap :=
 ⟨kind,names,nocell,fun y hy e=>by
  rcases free y hy e with f | ⟨f1,f2⟩
  ·exact xK (env:=X.env) f
  ·exact mL (env:=X.env) (by rw [hso]; exact hk) f1 (by show X.env.scope.names.lookup y.1=_; rw [hso]; exact f2),at',hcap⟩
end
end L2
namespace L2.Pp
open PySem PySem.Spec PyProof.Rows Bn
section
variable {K:PySem.W.Frag} {cl:Str→Addr} {E:XK} {X:Cx} {p q:Ph} {H H':Hp} {S:Sto}
variable {sc:Scope} {own:List Str} {cap:List (Nat × Str)} {elt target iter:Expr} {pos:Pos} {mi:MI} {g:GM} {me:ME}
end
end L2.Pp
namespace L2.Pp
open PySem PySem.Spec PyProof.Rows Bn
section
variable {K:PySem.W.Frag} {cl:Str→Addr} {E:XK} {X:Cx} {a e:Expr} {m:ME} {ms:MA} {pos:Pos} {p q:Ph} {H H':Hp} {S:Sto}
theorem Sim.pushO (s:Sim K p S H) {D:Addr} {o:SO} {ho:HO} (h:H D=none) (mo:Mb ho) (ob:kQ K ⟨p.f++[D],fun a=>p.w a∨a=D,fun a=>p.c a∨a=D⟩ (upd H D ho) D o) :
  let q:Ph:=⟨p.f++[D],fun a=>p.w a∨a=D,fun a=>p.c a∨a=D⟩
  bC p H q (upd H D ho)∧Sim K q (S++[o]) (upd H D ho):=by
 intro q
 obtain ⟨st0,sm0⟩:=s.res (D:=D) (o:=ho) h mo
 have nf0:D ∉ p.f:=fun z=>s.notin h (s.wc D (s.sub D z))
 refine ⟨⟨st0.wc,st0.mu,⟨[D],rfl⟩,st0.mw,st0.mono,fun a x n=>?_,st0.nw,st0.nc,st0.keep⟩,?_,by simp [q,s.len],fun a x=>?_,sm0.wc,sm0.mu,fun k a u e1 e2=>?_⟩
 ·rcases List.mem_append.mp x with z | z
  ·exact absurd z n
  ·have:a=D:=by simpa using z
   rw [this]
   exact h
 ·show (p.f++[D]).Nodup
  rw [List.nodup_append]
  refine ⟨s.nd,by simp,fun a ha b hb z=>?_⟩
  have:b=D:=by simpa using hb
  exact nf0 (this ▸ z ▸ ha)
 ·rcases List.mem_append.mp x with z | z
  ·exact .inl (s.sub a z)
  ·exact .inr (by simpa using z)
 ·by_cases hk:k < S.length
  ·have e1':p.f[k]?=some a:=by
    have e1:(p.f++[D])[k]?=some a:=e1
    rwa [List.getElem?_append_left (by rw [s.len]; exact hk)] at e1
   rw [List.getElem?_append_left hk] at e2
   refine (s.obj k a u e1' e2).mono (fun vs e=>by rw [bQ (dY e h)]; exact e) (fun b w f=>⟨⟨.inl w,fun m=>?_⟩,fun vs e=>by rw [bQ (dY e h)]; exact e⟩) fun _ _ r=>st0.reps r
   rcases List.mem_append.mp m with z | z
   ·exact f z
   ·have:b=D:=by simpa using z
    exact s.notin h (this ▸ s.wc b w)
  ·have hk':k=S.length:=by
    have:=(List.getElem?_eq_some_iff.mp e2).1
    simp at this
    omega
   subst hk'
   rw [List.getElem?_append_right (Nat.le_refl _),Nat.sub_self] at e2
   have e1:(p.f++[D])[S.length]?=some a:=e1
   rw [← s.len,List.getElem?_append_right (Nat.le_refl _),Nat.sub_self] at e1
   cases e1
   cases e2
   exact ob
def ahJ (k:Nat) (ys:List AV) (S:Sto):Res AV:=match (eN S ys).bind aO,S[k]? with
 | some (.lst vs),some (.lol xss)=>if xss.length < 16777216 then .ok (.pv .non) (S.set k (.lol (xss++[vs]))) else .fail
 | _,_=>.fail
def afJ (m:ME) (ms:MA):ME:=fun ρ S=>(m ρ S).bind fun k S1=>eC k S1 fun k=>(ms ρ S1).bind fun ys S2=>ahJ k ys S2
end
section
variable {P:Program} {w:World} {K:PySem.W.Frag} {mg:Str→Option Value} {base:Heap} {cl:Str→Addr}
end
end L2.Pp
namespace L2.Pp
open PySem PySem.Spec PyProof.Rows Bn
end L2.Pp
namespace L2.Pp
open PySem PySem.Spec PyProof.Rows Bn
def Cal (P:Program) (w:World) (K:PySem.W.Frag) (mg:Str→Option Value) (base:Heap) (cl:Str→Addr) (x:Str) (k:Nat) (ps:List Str) (g:FM):Prop:=∃ (a:Addr) (d:FuncData),bS P w K mg base CX0 k a d ps (cF K cl g)∧gX K d ps []∧PySem.W.keepIn K (.ref a)=true∧mg x=some (.ref a)
section
variable {cl:Str→Addr} {E:XK} {X:Cx} {e:Expr} {es:List Expr} {ms:MA} {pos p:Pos} {k k0:Nat} {ps:List Str} {g:FM} {x:Str}
theorem bM (C:Cal X.prog X.w X.K X.mg X.base cl x k ps g) (hr:dJ k0 X.A) (hk:k≤k0) (hg:Gl X x) (ha:PAp X.K cl E X (e :: es) ms) (hdb:(x == ("__debug__":Str))=false:=by decide) (he:starEach (e :: es) X.env=(false,eval e X.env) :: starEach es X.env:=by rfl) (hpl:(backTo pos (starEach es X.env)).any (·.1)=false:=by rfl) :
  PEp X.K cl E X (.Call (.Name x p) (e :: es) [] pos) (aL g [] ms):=by
 obtain ⟨a,d,G,b,kk,n⟩:=C
 exact acY G (hr.mono hk) hg n kk b .nil Dv.nil ha hdb he hpl
theorem ahz (C:Cal X.prog X.w X.K X.mg X.base cl x k ps g) (hr:dJ k0 X.A) (hk:k≤k0) (hg:Gl X x) (ha:PAp X.K cl E X (e :: es) ms) (hdb:(x == ("__debug__":Str))=false:=by decide) (he:starEach (e :: es) X.env=(false,eval e X.env) :: starEach es X.env:=by rfl) (hpl:(backTo pos (starEach es X.env)).any (·.1)=false:=by rfl) :
  PEp X.K cl E X (.Call (.Name x p) (e :: es) [] pos) (nE g [] ms):=by
 obtain ⟨a,d,G,b,kk,n⟩:=C
 exact acT G (hr.mono hk) hg n kk b .nil Dv.nil ha hdb he hpl
end
end L2.Pp
namespace L2.Pp
open PySem PySem.Spec PyProof.Rows Bn
section
variable {X:Cx}
end
section
variable {K:PySem.W.Frag} {cl:Str→Addr} {E:XK} {X:Cx} {e:Expr} {m:ME} {pos:Pos}
end
end L2.Pp
namespace L2.Pp
open PySem PySem.Spec PyProof.Rows Bn
section
variable {K:PySem.W.Frag} {cl:Str→Addr} {E:XK} {X:Cx}
variable {a e:Expr} {m:ME} {ms:MA} {pos:Pos}
end
end L2.Pp
namespace L2.Pp
open PySem PySem.Spec PyProof.Rows Bn
section
variable {K:PySem.W.Frag} {cl:Str→Addr} {E:XK} {X:Cx}
end
end L2.Pp
namespace L2.Pp
open PySem PySem.Spec PyProof.Rows Bn
section
variable {K:PySem.W.Frag} {cl:Str→Addr} {E:XK} {X:Cx}
def GlT (K:PySem.W.Frag) (mg:Str→Option Value) (x:Str) (pv:PV):Prop:=∃ (u:Value) (v:V),mg x=some u∧bH v u∧∀ c H,Rep K c H pv v
theorem abP {x:Str} {pv:PV} {pos:Pos} (hg:Gl X x) (hm:GlT K X.mg x pv) (hd:(x == ("__debug__":Str))=false:=by decide):PEp K cl E X (.Name x pos) (mC pv):=fun _=>by
 obtain ⟨u,v,hm,r,hr⟩:=hm
 exact (ad3 hg hm r hd).imp fun σ H Q ⟨p,S,ρ,s,e,h⟩=>bI.ret (R:=bL K) (x:=v) h s (hr p.c H)
theorem jA:∀ c H,aJ K c H [] []:=fun c H=>by
 unfold aJ
 rfl
theorem dI {p:PV} {ps:List PV} {v:V} {vs:List V} (h:∀ c H,Rep K c H p v) (t:∀ c H,aJ K c H ps vs):∀ c H,aJ K c H (p :: ps) (v :: vs):=fun c H=>by
 unfold aJ
 exact ⟨v,vs,rfl,h c H,t c H⟩
theorem eM {i:Int}:∀ c H,Rep K c H (.int i) (.int i):=fun c H=>by
 unfold Rep
 rfl
theorem iZ {a:Addr} {od:Option Addr} {its:Array Value} {n:Nat} {sl:Array (Option Value)} {xs:List PV} {vs:List V} (l:K.lookup a=some ⟨.type "tuple",od,.seq its n,sl⟩) (hs:its.size≤sizeLine) (hv:aX vs its.toList) (hl:vs.length≤sizeLine) (t:∀ c H,aJ K c H xs vs):∀ c H,Rep K c H (.tup xs) (.ref a):=fun c H=>by
 unfold Rep
 exact ⟨a,vs,rfl,.inr ⟨_,its,n,l,rfl,rfl,hs,hv⟩,hl,t c H⟩
end
end L2.Pp
namespace L2.Pp
open PySem PySem.Spec PyProof.Rows Bn
section
variable {K:PySem.W.Frag} {cl:Str→Addr} {E:XK} {X:Cx}
end
end L2.Pp
namespace L2.Pp
open PySem PySem.Spec PyProof.Rows Bn
section
variable {K:PySem.W.Frag} {cl:Str→Addr} {E:XK} {X:Cx}
variable {a e:Expr} {m:ME} {ms:MA} {pos:Pos}
end
end L2.Pp
namespace L2.Pp
open PySem PySem.Spec PyProof.Rows Bn
section
variable {M:Model} {A:Around} {E:Value→Shared→Prop} {s:Shared} {env:Env}
end
section
variable {prog:Program} {w:World} {A:Around} {R:Result→Shared→Prop} {s:Shared}
end
end L2.Pp
namespace L2
open PySem PySem.Spec PyProof.Rows Bn
section
variable {X:Cx} {pins:List (Addr × Obj)} {σ:St} {H H':Hp} {s s':Shared}
end
end L2
namespace L2
open PySem PySem.Spec PyProof.Rows Bn L2.Pp
section
variable {P:Program} {w:World} {K:PySem.W.Frag} {mg:Str→Option Value} {base:Heap} {N:List Str} {qual:Str} {scope:Scope} {f:Addr} {cd:Value} {A:Around} {outer:List Env} {s₀:Shared} {H₀:Hp} {E:XK}
end
end L2
namespace L2
open PySem PySem.Spec PyProof.Rows Bn L2.Pp
section
variable {P:Program} {w:World} {K:PySem.W.Frag} {mg:Str→Option Value} {base:Heap} {N:List Str} {qual:Str} {scope:Scope} {f:Addr} {cd:Value} {A:Around} {outer:List Env} {s₀:Shared} {H₀:Hp} {E:XK}
variable {sc:Scope} {own:List Str} {cap:List (Nat × Str)} {pins:List (Addr × Obj)} {σ:St} {H:Hp} {s:Shared} {elt target iter:Expr} {pos pos':Pos} {wi:TI} {g:TG} {te:TE} {Q:VK}
end
end L2
namespace L2.Pp
open PySem PySem.Spec PyProof.Rows Bn
section
variable {K:PySem.W.Frag} {cl:Str→Addr} {E:XK} {X:Cx} {p q:Ph} {H H':Hp} {S:Sto}
variable {sc:Scope} {own:List Str} {cap:List (Nat × Str)} {elt target iter:Expr} {pos:Pos} {mi:MI} {g:GM} {me:ME}
end
section
variable {P:Program} {w:World} {K:PySem.W.Frag} {mg:Str→Option Value} {base:Heap} {N:List Str} {qual:Str} {scope:Scope} {f:Addr} {cd:Value} {A:Around} {outer:List Env} {s₀:Shared} {H₀:Hp} {E:XK} {cl:Str→Addr}
variable {sc:Scope} {own:List Str} {cap:List (Nat × Str)} {elt target iter:Expr} {pos:Pos} {mi:MI} {g:GM} {me:ME} {wi:TI} {tg:TG} {te:TE}
end
section
variable {K:PySem.W.Frag} {cl:Str→Addr} {E:XK} {X:Cx} {e:Expr} {es:List Expr} {ms:MA} {pos p:Pos} {k n:Nat} {f:Addr} {fd:FuncData} {ps:List Str} {g:FM} {x:Str} {dvs:List V} {ds:List Value} {dv:List PV}
end
end L2.Pp
namespace L2.Pp
open PySem PySem.Spec PyProof.Rows Bn
section
variable {K:PySem.W.Frag} {cl:Str→Addr} {E:XK} {X:Cx}
end
end L2.Pp
namespace L2.Pp
open PySem PySem.Spec PyProof.Rows Bn
section
variable {K:PySem.W.Frag} {cl:Str→Addr} {E:XK} {X:Cx} {a b e:Expr} {m:ME} {ms:MA} {pos:Pos}
end
end L2.Pp
namespace L2
open PySem PySem.Spec PyProof.Rows Bn
section
variable {X:Cx} {k:Nat} {f:Addr} {fd:FuncData} {ps:List Str} {sp:Sp} {dvs:List V} {ds:List Value} {x:Str} {p pos pos1 pos2 pos3 pc:Pos} {e a:Expr} {es:List Expr} {t:TA} {ta:TE} {te:XK→TE} {c n:Str} {C:Addr} {i:Nat} {b₀:Stmt} {body:List Stmt} {newId:String}
end
end L2
namespace L2.Pp
open PySem PySem.Spec PyProof.Rows Bn
section
variable {K:PySem.W.Frag} {cl:Str→Addr} {E:XK} {X:Cx} {a b c e:Expr} {m mc:ME} {ms:MA} {pos:Pos} {tg:Expr} {ma mb:ME}
end
end L2.Pp
namespace L2.Pp
open PySem PySem.Spec PyProof.Rows Bn
section
variable {K:PySem.W.Frag} {cl:Str→Addr} {E:XK} {X:Cx} {e a:Expr} {es:List Expr} {ms:MA} {ma me:ME} {p q:Ph} {H H':Hp} {S:Sto}
variable {k:Nat} {f:Addr} {fd:FuncData} {ps:List Str} {g:FM} {dvs:List V} {ds:List Value} {dv:List PV} {x:Str} {pp pos pos1 pos2 pos3 pc:Pos} {c n:Str} {i nn:Nat} {b₀:Stmt} {body:List Stmt} {newId:String} {up:Rho→Rho}
variable (K cl X)
variable {K cl X}
end
end L2.Pp
namespace L2.Pp
open PySem PySem.Spec PyProof.Rows Bn
section
variable {K:PySem.W.Frag} {cl:Str→Addr} {E:XK} {X:Cx} {a b:Expr} {ma mb:ME} {pos:Pos}
end
end L2.Pp
namespace L2
open PySem PySem.Spec PyProof.Rows Bn
section
variable {X:Cx} {k:Nat} {p pos pos1 pos2 pos3 pc:Pos} {e:Expr} {te:XK→TE} {c:Str} {C:Addr} {b₀:Stmt} {body:List Stmt} {newId:String}
end
end L2
namespace L2.Pp
open PySem PySem.Spec PyProof.Rows Bn
section
variable {K:PySem.W.Frag} {cl:Str→Addr} {E:XK} {X:Cx} {a b e:Expr} {m me:ME} {ms:MA} {pos pos1 pos2 pos3 pc:Pos} {c:Str} {nn:Nat} {b₀:Stmt} {body:List Stmt} {newId:String} {up:Rho→Rho}
end
end L2.Pp
namespace L2.Pp
open PySem PySem.Spec PyProof.Rows Bn
section
variable {M:Model} {A:Around} {E:Value→Shared→Prop} {s:Shared} {env:Env}
end
end L2.Pp
namespace L2
open PySem PySem.Spec PyProof.Rows Bn L2.Pp
section
variable {P:Program} {w:World} {K:PySem.W.Frag} {mg:Str→Option Value} {base:Heap} {N:List Str} {qual:Str} {scope:Scope} {f:Addr} {cd:Value} {A:Around} {outer:List Env} {s₀:Shared} {H₀:Hp} {E:XK}
variable {sc:Scope} {own:List Str} {cap:List (Nat × Str)} {pins:List (Addr × Obj)} {σ:St} {H:Hp} {s:Shared} {elt target iter:Expr} {pos pos':Pos} {wi:TI} {g:TG} {te:TE} {Q:VK}
end
end L2
namespace L2.Pp
open PySem PySem.Spec PyProof.Rows Bn
section
variable {P:Program} {w:World} {K:PySem.W.Frag} {mg:Str→Option Value} {base:Heap} {N:List Str} {qual:Str} {scope:Scope} {f:Addr} {cd:Value} {A:Around} {outer:List Env} {s₀:Shared} {H₀:Hp} {E:XK} {cl:Str→Addr}
variable {sc:Scope} {own:List Str} {cap:List (Nat × Str)} {elt target iter:Expr} {pos:Pos} {mi:MI} {g:GM} {me:ME}
end
end L2.Pp
namespace L2.Pp
open PySem PySem.Spec PyProof.Rows Bn
section
variable {K:PySem.W.Frag}
end
end L2.Pp
namespace L2.Pp
open PySem PySem.Spec PyProof.Rows Bn
section
variable {K:PySem.W.Frag} {X:Cx}
end
end L2.Pp
namespace L2
open PySem PySem.Spec PyProof.Rows Bn
def qK (J:It) (g:TG) (tc:TT) (te:TE) (σ₀:St) (H1:Hp) (D:Addr) (Q:VK):Prop :=
 ∃ W:Nat→Nat→St→Hp→List V→Prop,(∃ m,W 0 m σ₀ (upd H1 D (.lst [])) [])∧∀ i m σ H ys,W i m σ H ys→H D=some (.lst ys) ∧
  ((J.stop i H∧Q (.ref D) H)∨(J.go i H∧ys.length < sizeLine∧∀ x H2,J.yld i H x H2→g x σ H2 fun σ3 H3=>tc σ3 H3 fun b HA=>if b=true then te σ3 HA fun y H4=>H4 D=some (.lst ys)∧∃ m',m' < m∧W (i+1) m' σ3 (upd H4 D (.lst (ys++[y]))) (ys++[y]) else ∃ m',m' < m∧W (i+1) m' σ3 HA ys))
def adM (own:List Str) (cap:List (Nat × Str)) (wi:TI) (g:TG) (tc:TT) (te:TE):TE:=fun σ H Q=>wi σ H fun J H1=>∀ D,H1 D=none→qK J g tc te (fL own cap σ) H1 D Q
section
variable {prog:Program} {w:World} {A:Around} {R:Result→Shared→Prop} {s:Shared}
theorem aa1 {elt target iter cnd:Expr} {sc:Scope} {pos:Pos} {it acc:Value} {env:Env} (I:Nat→Shared→Prop)
  (turn:∀ n s,I n s→wpAny (model prog w) A (pyNext it) (fun r s1=>match r with
   | none=>R (.ok .next) s1
   | some v=>wpAny (model prog w) A (letOwnedTupleGo target it v) (fun _ s2=>wpAny (model prog w) A (assign target env v) (fun _ s3=>wpAny (model prog w) A (isTrue cnd env (eval cnd env)) (fun b sA=>if b=true then wpAny (model prog w) A (eval elt env)
     (fun x s4=>wpAny (model prog w) A (call (.builtin "list.append") [acc,x]) (fun _ s5=>∃ m,m < n∧I m s5) (fun _ _=>False) s4) (fun _ _=>False) sA else ∃ m,m < n∧I m sA) (fun _ _=>False) s3) (fun _ _=>False) s2) (fun _ _=>False) s1) (fun _ _=>False) s)
  (n:Nat) (h:I n s):codeAny (model prog w) A (.compLoop (.ListComp elt [⟨target,iter,[cnd],0⟩] sc pos) 0 it acc env) R s:=by
 refine codeAny_loop rfl I (fun n s hI=>?_) n h
 show wpAny _ _ ((compTurn (.ListComp elt [⟨target,iter,[cnd],0⟩] sc pos) 0 it acc env).onRaise (fun x=>do noteFrame x env; theTreesLotGoes x)) _ _ s
 refine wpAny_noted ?_
 rw [compTurn_list]
 refine wpAny_bind (wpAny_standAt (wpAny_bind ?_))
 refine wpAny_mono (turn n s hI) (fun r s1 h1=>?_) fun _ _ z=>z.elim
 cases r with
 | none=>exact wpAny_pure h1
 | some v =>
  refine wpAny_bind (wpAny_mono h1 (fun _ s2 h2=>?_) fun _ _ z=>z.elim)
  refine wpAny_bind (wpAny_mono h2 (fun _ s3 h3=>?_) fun _ _ z=>z.elim)
  refine wpAny_bind (wpAny_tests_one (wpAny_mono h3 (fun ok sA hA=>?_) fun _ _ z=>z.elim))
  cases ok with
  | true =>
   rw [if_pos rfl] at hA ⊢
   refine wpAny_bind (wpAny_bind (wpAny_mono hA (fun x s4 h4=>?_) fun _ _ z=>z.elim))
   refine wpAny_bind (wpAny_mono h4 (fun _ s5 h5=>?_) fun _ _ z=>z.elim)
   exact wpAny_pure (wpAny_pure ⟨rfl,h5⟩)
  | false =>
   rw [if_neg Bool.false_ne_true] at hA ⊢
   exact wpAny_bind (wpAny_pure (wpAny_pure ⟨rfl,hA⟩))
end
section
variable {X:Cx} {sc:Scope} {own:List Str} {cap:List (Nat × Str)} {pins:List (Addr × Obj)} {σ:St} {H:Hp} {s:Shared} {elt target iter cnd:Expr} {pos pos':Pos} {wi:TI} {g:TG} {tc:TT} {te:TE} {Q:VK}
theorem aaV {use:Option (Value→Sem Unit)} {Qf:Value→Shared→Prop} (k:fW X sc own cap) (hi:PI X target iter wi) (hc:X.calm=true)
  (hg:∀ C s₀ H₀ ex,PG (cT X sc (bB own cap) C s₀ H₀ ex) target g) (ht:∀ C s₀ H₀ ex,PT (cT X sc (bB own cap) C s₀ H₀ ex) cnd tc) (he:∀ C s₀ H₀ ex,PE (cT X sc (bB own cap) C s₀ H₀ ex) elt te) (I:Inv X pins σ H s) (h:adM own cap wi g tc te σ H Q)
  (fin:∀ D C s' H' m,Inv X pins σ H' s'→dQ X pins H' C→s'.heap.Ns C m→Q (.ref D) H'→compPost (model X.prog X.w) X.A X.xe use Qf (.ref D) C (.ok .next) s')
  (hs:∀ x,foldedSetIterable iter X.env x=pure x) :
  wpAny (model X.prog X.w) X.A (comprehension (.ListComp elt [⟨target,iter,[cnd],0⟩] sc pos) sc X.env pos' (newList []) false (eval iter X.env) use) Qf X.xe s:=by
 refine wpAny_comprehension_free (use:=use) rfl hs (uB (k.has I.ok)) k.kind k.names ?_
 refine thn (hi pins s σ H _ I h) fun v s1 h1=>thn h1 fun itv s2 h2=>?_
 obtain ⟨it,fp,tn,J,H2,e,I2,T,st2,f2,hW⟩:=h2
 subst e
 refine wpAny_newObj_type (wpAny_newFunctionEnv k.nocell (fun y hy=>nomatch hy) (fun h4 hns hsb=>?_) k.kind)
 have I3:Inv X pins σ (upd H2 s2.heap.objs.size (.lst [])) { s2 with heap:=s2.heap.push { cls:=.type "list",data:=.seq ([]:List Value).toArray },toks:=s2.toks }:=I2.lnew (ys:=[]) (its:=[]) .nil (Nat.zero_le _)
 have hD:H2 s2.heap.objs.size=none:=I2.fresh
 have ltf:∀ b∈fp,b < s2.heap.objs.size:=fun b hb=>by
  obtain ⟨o,ho,_⟩:=T.obj _ _ st2 b hb
  exact Heap.lt_size ho
 have f3:∀ b∈fp,dQ X pins (upd H2 s2.heap.objs.size (.lst [])) b:=fun b hb=>⟨by rw [bQ (Nat.ne_of_lt (ltf b hb))]; exact (f2 b hb).1,(f2 b hb).2⟩
 have un:Un (frs X.stack) fp H2 (upd H2 s2.heap.objs.size (.lst [])) s2.heap (s2.heap.push { cls:=.type "list",data:=.seq ([]:List Value).toArray }):=Un.laid (fun b u q=>Heap.get?_push_of_some _ q) (Nat.le_refl _) hD
 have kp:∀ b o,(s2.heap.push { cls:=.type "list",data:=.seq ([]:List Value).toArray }).get? b=some o→h4.get? b=some o:=fun b o q=>hsb.extBut b o (Nat.ne_of_lt (Heap.lt_size q)) (Heap.get?_push_of_some _ q)
 have J0:=I3.cmp (t':=s2.toks+([]:List (Str × Value)).length) k f3 (fun b hb=>Nat.lt_of_lt_of_le (ltf b hb) (by rw [Heap.size_push]; exact Nat.le_succ _)) hns kp
 have stat:∀ {H':Hp},(∀ b∈fp,H' b=none)→∀ b∈fp,dQ (cT X sc (bB own cap) (s2.heap.push { cls:=.type "list",data:=.seq ([]:List Value).toArray }).objs.size { s2 with heap:=s2.heap.push { cls:=.type "list",data:=.seq ([]:List Value).toArray },toks:=s2.toks } (upd H2 s2.heap.objs.size (.lst [])) fp) [] H' b:=fun hn b hb =>
  ⟨hn b hb,(J0.ok.exf b hb).1,J0.ok.exfs b hb,.inl hb,(J0.ok.exf b hb).2,fun p hp=>absurd (show p∈([]:List (Addr × Obj)) from hp) (by simp)⟩
 have st4:tn 0 h4:=T.keep _ _ _ st2 fun b hb o q=>kp b o (Heap.get?_push_of_some _ q)
 have fr0:∀ b∈fp,(upd H2 s2.heap.objs.size (.lst [])) b=none:=fun b hb=>(f3 b hb).1
 have loop:codeAny (model X.prog X.w) X.A (.compLoop (.ListComp elt [⟨target,iter,[cnd],0⟩] sc pos) 0 (.ref it) (.ref s2.heap.objs.size) (compEnvC sc (eH X.env sc.names []) (s2.heap.push { cls:=.type "list",data:=.seq ([]:List Value).toArray }).objs.size X.env))
   (compPost (model X.prog X.w) X.A X.xe use Qf (.ref s2.heap.objs.size) (s2.heap.push { cls:=.type "list",data:=.seq ([]:List Value).toArray }).objs.size) { s2 with heap:=h4,toks:=s2.toks+([]:List (Str × Value)).length }:=by
  obtain ⟨W,⟨m0,w0⟩,turn⟩:=hW s2.heap.objs.size hD
  refine aa1 (fun n s'=>∃ i σ' H' ys,Inv (cT X sc (bB own cap) (s2.heap.push { cls:=.type "list",data:=.seq ([]:List Value).toArray }).objs.size { s2 with heap:=s2.heap.push { cls:=.type "list",data:=.seq ([]:List Value).toArray },toks:=s2.toks } (upd H2 s2.heap.objs.size (.lst [])) fp) [] σ' H' s'∧tn i s'.heap∧(∀ b∈fp,H' b=none)∧W i n σ' H' ys) ?_ m0
   ⟨0,_,_,[],J0,st4,fr0,w0⟩
  rintro n s5 ⟨i,σ5,H5,ys,I5,st5,fr5,w5⟩
  obtain ⟨hD5,w5⟩:=turn i n σ5 H5 ys w5
  rcases w5 with ⟨stop,qn⟩ | ⟨go,hlt,step⟩
  ·refine thn (T.done (cT X sc (bB own cap) (s2.heap.push { cls:=.type "list",data:=.seq ([]:List Value).toArray }).objs.size { s2 with heap:=s2.heap.push { cls:=.type "list",data:=.seq ([]:List Value).toArray },toks:=s2.toks } (upd H2 s2.heap.objs.size (.lst [])) fp) rfl rfl rfl hc i [] s5 σ5 H5 _ I5 (stat fr5) st5 stop) fun r s6 ⟨hr,I6⟩=>?_
   subst hr
   obtain ⟨m,hn,_⟩:=id I6.loc
   exact fin _ _ s6 H5 m (I2.uncmp (s3:={ s2 with heap:=s2.heap.push { cls:=.type "list",data:=.seq ([]:List Value).toArray },toks:=s2.toks }) f2 un rfl I6) (I3.fpOk (Nat.le_refl _) I6.free) hn qn
  ·refine thn (T.item (cT X sc (bB own cap) (s2.heap.push { cls:=.type "list",data:=.seq ([]:List Value).toArray }).objs.size { s2 with heap:=s2.heap.push { cls:=.type "list",data:=.seq ([]:List Value).toArray },toks:=s2.toks } (upd H2 s2.heap.objs.size (.lst [])) fp) rfl rfl rfl hc i [] s5 σ5 H5 _ I5 (stat fr5) st5 go) fun r s6 ⟨u,hr,h6⟩=>?_
   subst hr
   refine thn h6 fun _ s7 ⟨x,H7,I7,r7,y7,st7,fr7⟩=>?_
   have I7':=I7.pinned (stat fr7) (T.obj _ _ st7)
   refine thn (hg _ _ _ _ _ s7 σ5 H7 x u _ I7' r7 (step x H7 y7)) fun _ s8 ⟨σ8,H8,I8,q8⟩=>?_
   refine thn (ht _ _ _ _ _ s8 σ8 H8 _ I8 q8) fun bb sA ⟨HA,IA,qA⟩=>?_
   cases bb with
   | true =>
    rw [if_pos rfl]
    rw [if_pos rfl] at qA
    refine thn (he _ _ _ _ _ sA σ8 HA _ IA qA) fun v9 s9 ⟨y,H9,I9,r9,hD9,m',hm,w9⟩=>?_
    refine thn (oH _ s9 σ8 H9 (.ref s2.heap.objs.size) [y] (.ref s2.heap.objs.size) [v9] (fun _ H'=>H'=upd H9 s2.heap.objs.size (.lst (ys++[y]))) I9 rfl (.cons r9 .nil) ⟨_,ys,y,rfl,rfl,hD9,hlt,rfl⟩) fun _ s10 ⟨_,H10,I10,_,q10⟩=>?_
    subst q10
    refine ⟨m',hm,i+1,σ8,_,_,I10.unpinned,T.keep _ _ _ st7 fun b hb o q=>(I10.pin (b,o) (List.mem_append_right _ (List.mem_append_right _ (iI hb q)))).1,fun b hb=>?_,w9⟩
    obtain ⟨o,q,d⟩:=T.obj _ _ st7 b hb
    exact (I10.pin (b,o) (List.mem_append_right _ (List.mem_append_right _ (iI hb q)))).2.1
   | false =>
    rw [if_neg Bool.false_ne_true]
    rw [if_neg Bool.false_ne_true] at qA
    obtain ⟨m',hm,w9⟩:=qA
    refine ⟨m',hm,i+1,σ8,_,_,IA.unpinned,T.keep _ _ _ st7 fun b hb o q=>(IA.pin (b,o) (List.mem_append_right _ (List.mem_append_right _ (iI hb q)))).1,fun b hb=>?_,w9⟩
    obtain ⟨o,q,d⟩:=T.obj _ _ st7 b hb
    exact (IA.pin (b,o) (List.mem_append_right _ (List.mem_append_right _ (iI hb q)))).2.1
 exact codeAny_compStart_list loop (T.self _ 0 _ _ _ st4 loop)
theorem ado (k:fW X sc own cap) (hi:PI X target iter wi) (hc:X.calm=true)
  (hg:∀ C s₀ H₀ ex,PG (cT X sc (bB own cap) C s₀ H₀ ex) target g) (ht:∀ C s₀ H₀ ex,PT (cT X sc (bB own cap) C s₀ H₀ ex) cnd tc) (he:∀ C s₀ H₀ ex,PE (cT X sc (bB own cap) C s₀ H₀ ex) elt te)
  (hs:∀ x,foldedSetIterable iter X.env x=pure x:=by intro _; rfl):PE X (.ListComp elt [⟨target,iter,[cnd],0⟩] sc pos) (adM own cap wi g tc te):=by
 intro pins s σ H Q I h
 rw [eval_ListComp]
 refine aaV (use:=none) k hi hc hg ht he I h (fun D C s' H' m I' fC hn q=>?_) hs
 refine ⟨m,hn,fun h' sb=>⟨.ref D,H',?_,rfl,q⟩⟩
 obtain ⟨f0,f1,f2,f3,f4,f5⟩:=fC
 exact I'.turned (t':=s'.toks) (fun b o hb e=>(sb.2 b hb).trans e) f0 f1 f3 f4 f5
end
end L2
namespace L2.Pp
open PySem PySem.Spec PyProof.Rows Bn
open Classical in
noncomputable def dC (G:Gd) (g:GM) (mc:MT) (me:ME):List PV→Rho→Sto→Res (List PV)
 | [],_,S=>if gOk G S then .ok [] S else .fail
 | x :: r,ρ,S=>if gOk G S then (match g x ρ with
  | none=>.fail
  | some ρ1=>match mc ρ1 S with
   | .ok true S0=>(match me ρ1 S0 with
    | .ok (.pv y) S1=>match dC G g mc me r ρ1 S1 with
     | .ok ys S2=>.ok (y :: ys) S2
     | _=>.fail
    | _=>.fail)
   | .ok false S0=>dC G g mc me r ρ1 S0
   | _=>.fail) else .fail
theorem aba {g:GM} {mc:MT} {me:ME} {ρ:Rho} {S:Sto}:dC [] g mc me [] ρ S=.ok [] S:=by
 unfold dC
 rw [if_pos (lI S)]
theorem aap {g:GM} {mc:MT} {me:ME} {x:PV} {r:List PV} {ρ:Rho} {S:Sto}:dC [] g mc me (x :: r) ρ S=(match g x ρ with
  | none=>.fail
  | some ρ1=>match mc ρ1 S with
   | .ok true S0=>(match me ρ1 S0 with
    | .ok (.pv y) S1=>match dC [] g mc me r ρ1 S1 with
     | .ok ys S2=>.ok (y :: ys) S2
     | _=>.fail
    | _=>.fail)
   | .ok false S0=>dC [] g mc me r ρ1 S0
   | _=>.fail):=by
 rw [dC,if_pos (lI S)]
noncomputable def lO (own:List Str) (cap:List (Nat × Str)) (mi:MI) (g:GM) (mc:MT) (me:ME):ME:=fun ρ S=>(mi ρ S).bind fun xs S1=>(dC xs.2 g mc me xs.1 (cD own cap ρ) S1).bind fun ys S2=>.ok (.pv (.lst ys)) S2
theorem wZ {G:Gd} {g:GM} {mc:MT} {me:ME}:∀ (xs:List PV) (ρ:Rho) (S:Sto) (n:Str) (S':Sto),dC G g mc me xs ρ S≠.exc n S'
 | [],_,_,_,_,e=>by
  unfold dC at e
  split at e <;> cases e
 | x :: r,ρ,S,n,S',e=>by
  unfold dC at e
  split at e
  ·split at e
   ·cases e
   ·split at e
    ·split at e
     ·split at e <;> cases e
     ·cases e
    ·exact wZ r _ _ _ _ e
    ·cases e
  ·cases e
theorem sO {G:Gd} {g:GM} {mc:MT} {me:ME} {xs zs:List PV} {ρ:Rho} {S S':Sto} (e:dC G g mc me xs ρ S=.ok zs S'):gOk G S:=by
 cases xs with
 | nil =>
  unfold dC at e
  split at e
  ·assumption
  ·cases e
 | cons x r =>
  unfold dC at e
  split at e
  ·assumption
  ·cases e
theorem acK {J:It} {g:TG} {tc:TT} {te:TE} {σ₀:St} {H1:Hp} {D:Addr} {Q:VK} (n:Nat) (hn:n≤sizeLine) (Pv:Nat→St→Hp→List V→Prop) (h0:Pv 0 σ₀ (upd H1 D (.lst [])) [])
  (hl:∀ i σ H ys,Pv i σ H ys→ys.length≤i∧H D=some (.lst ys)) (hgo:∀ i σ H ys,i < n→Pv i σ H ys→J.go i H)
  (hs:∀ i σ H ys x H2,i < n→Pv i σ H ys→J.yld i H x H2→g x σ H2 fun σ3 H3=>tc σ3 H3 fun b HA=>if b=true then te σ3 HA fun y H4=>H4 D=some (.lst ys)∧∃ m',m' < n - i∧(m'=n - (i+1)∧i+1≤n∧Pv (i+1) σ3 (upd H4 D (.lst (ys++[y]))) (ys++[y])) else ∃ m',m' < n - i∧(m'=n - (i+1)∧i+1≤n∧Pv (i+1) σ3 HA ys))
  (hd:∀ σ H ys,Pv n σ H ys→J.stop n H∧Q (.ref D) H):qK J g tc te σ₀ H1 D Q:=by
 refine ⟨fun i m σ H ys=>m=n - i∧i≤n∧Pv i σ H ys,⟨n,rfl,Nat.zero_le _,h0⟩,?_⟩
 rintro i m σ H ys ⟨rfl,hi,p⟩
 obtain ⟨l1,l2⟩:=hl i σ H ys p
 refine ⟨l2,?_⟩
 by_cases hlt:i < n
 ·exact .inr ⟨hgo i σ H ys hlt p,by omega,fun x H2 y=>hs i σ H ys x H2 hlt p y⟩
 ·have e:i=n:=by omega
  subst e
  exact .inl (hd σ H ys p)
theorem n1 {n i:Nat} {P:Prop} (h:i < n) (p:P):∃ m',m' < n - i∧(m'=n - (i+1)∧i+1≤n∧P):=⟨n - (i+1),by omega,rfl,h,p⟩
section
variable {K:PySem.W.Frag} {cl:Str→Addr} {E:XK} {X:Cx} {p q:Ph} {H H':Hp} {S:Sto} {sc:Scope} {own:List Str} {cap:List (Nat × Str)} {elt target iter cnd:Expr} {pos:Pos} {mi:MI} {g:GM} {mc:MT} {me:ME}
theorem aa7 {σ:St} {ρ:Rho} {xs zs:List PV} {G:Gd} {J:It} {Q:VK} {D:Addr} {S2:Sto} (sm:Sim K p S H) (ev:cL K p H ρ σ) (it:dM K p H (xs,G) J) (z:dC G g mc me xs (cD own cap ρ) S=.ok zs S2) (hD:H D=none)
  (k:∀ q H' vs,bC p H q H'→Sim K q S2 H'→Sim K (q.hold D) S2 H'→q.w D→D ∉ q.f→H' D=some (.lst vs)→vs.length≤sizeLine→aJ K q.c H' zs vs→Q (.ref D) H') :
  qK J (gP K g) (tP K cl E0 RB mc) (tP K cl E0 (bL K) me) (fL own cap σ) H D Q:=by
 obtain ⟨st0,sm0⟩:=sm.res (D:=D) (o:=.lst []) hD trivial
 have sh0:=sm.resHold (D:=D) (o:=.lst []) hD trivial
 have nf0:D ∉ p.f:=fun h=>sm.notin hD (sm.wc D (sm.sub D h))
 refine acK xs.length it.1 (fun i σ1 H1 ys=>ys.length≤i∧i≤xs.length∧H1 D=some (.lst ys)∧∃ p1 S1 ρ1 us ws,(Sim K p1 S1 H1∧Sim K (p1.hold D) S1 H1)∧bC p H p1 H1∧p1.w D∧D ∉ p1.f∧cL K p1 H1 ρ1 σ1∧dM K p1 H1 (xs,G) J∧gOk G S1∧aJ K p1.c H1 us ys∧zs=us++ws∧dC G g mc me (xs.drop i) ρ1 S1=.ok ws S2) ?_ ?_ ?_ ?_ ?_
 ·refine ⟨Nat.le_refl _,Nat.zero_le _,eL,p.res D,S,cD own cap ρ,[],zs,⟨sm0,sh0⟩,st0,.inr rfl,nf0,aax (st0.repE ev),it.step st0,?_,.nil,rfl,by simpa using z⟩
  exact sO z
 ·rintro i σ1 H1 ys ⟨h1,_,h2,_⟩
  exact ⟨h1,h2⟩
 ·rintro i σ1 H1 ys hi ⟨_,_,_,p1,S1,ρ1,us,ws,⟨sm1,sh1⟩,st1,w1,f1,ev1,it1,g1,_⟩
  exact ((it1.2 p1 H1 S1 sm1.step sm1 g1).1 i xs[i] (List.getElem?_eq_getElem hi)).1
 ·rintro i σ1 H1 ys x H2 hi ⟨hl,_,hH,p1,S1,ρ1,us,ws,⟨sm1,sh1⟩,st1,w1,f1,ev1,it1,g1,r1,e1,c1⟩ hy
  obtain ⟨same,rx⟩:=((it1.2 p1 H1 S1 sm1.step sm1 g1).1 i xs[i] (List.getElem?_eq_getElem hi)).2 x H2 hy
  rw [List.drop_eq_getElem_cons hi] at c1
  unfold dC at c1
  rw [if_pos g1] at c1
  split at c1
  ·cases c1
  ·rename_i ρ2 gz
   have st2:=sm1.same same
   have sm2:=sm1.ofSame same
   have smh:=sh1.ofSame same
   have hD2:H2 D=some (.lst ys):=same _ _ hH
   have go:∀ (q:Ph) (H4:Hp) (S3:Sto) (σ3:St),cL K p1 H2 ρ2 σ3→bC (p1.hold D) H2 q H4→Sim K q S3 H4→H4 D=some (.lst ys)∧∃ q2:Ph,bC p1 H1 q2 H4∧Sim K q2 S3 H4∧Sim K (q2.hold D) S3 H4∧q2.w D∧D ∉ q2.f∧cL K q2 H4 ρ2 σ3∧q2.c=q.c:=fun q H4 S3 σ3 ev3 st4 sm4=>by
    have hD4:H4 D=some (.lst ys):=st4.keep D _ hD2 fun z=>z.2 rfl
    have fq:D ∉ q.f:=fun h=>by
     have:=st4.nf D h f1
     rw [hD2] at this
     cases this
    have stU:=bC.unhold w1 st4 sm2
    have nq:¬ q.w D:=fun z=>by
     have:=st4.nw D z fun y=>y.2 rfl
     rw [hD2] at this
     cases this
    have smU:Sim K ⟨q.f,fun a=>q.w a∨a=D,q.c⟩ S3 H4:=⟨sm4.nd,sm4.len,fun a h=>.inl (sm4.sub a h),fun a h=>h.elim (sm4.wc a) fun z=>z ▸ st4.mono D (sm2.wc D w1),sm4.mu,fun k a o e1 e2 =>
     (sm4.obj k a o e1 e2).mono (fun _ e=>e) (fun b w f=>⟨⟨.inl w,f⟩,fun _ e=>e⟩) fun _ _ r=>r⟩
    have shU:Sim K (Ph.hold ⟨q.f,fun a=>q.w a∨a=D,q.c⟩ D) S3 H4:=⟨sm4.nd,sm4.len,fun a h=>⟨.inl (sm4.sub a h),fun z=>nq (z ▸ sm4.sub a h)⟩,fun a h=>smU.wc a h.1,sm4.mu,fun k a o e1 e2 =>
     (sm4.obj k a o e1 e2).mono (fun _ e=>e) (fun b w f=>⟨⟨⟨.inl w,fun z=>nq (z ▸ w)⟩,f⟩,fun _ e=>e⟩) fun _ _ r=>r⟩
    exact ⟨hD4,_,st2.trans stU,smU,shU,.inr rfl,fq,stU.repE ev3,rfl⟩
   split at c1
   ·rename_i SA mz
    split at c1
    ·rename_i y S3 ez
     split at c1
     ·rename_i vs S4 cz
      cases c1
      refine ⟨p1,S1,ρ1,xs[i],ρ2,sm2,st2.repE ev1,rx,gz,fun σ3 ev3=>⟨p1.hold D,S1,ρ2,smh,⟨ev3.len,ev3.at_⟩,?_⟩⟩
      rw [mz]
      intro q HA b stA smA rb
      cases rb
      rw [if_pos rfl]
      refine ⟨q,SA,ρ2,smA,stA.repE (p:=p1.hold D) ⟨ev3.len,ev3.at_⟩,?_⟩
      rw [ez]
      intro q4 H4 y' st4 sm4 ry
      obtain ⟨hD4,q2,stQ,smQ,shQ,wQ,fQ,evQ,cQ⟩:=go q4 H4 S3 σ3 ev3 (stA.trans st4) sm4
      obtain ⟨stG,smG,shG⟩:=smQ.grow (ys:=ys) (D:=D) (o:=.lst (ys++[y'])) shQ wQ fQ trivial
      have stB:=stQ.trans stG
      have ry:Rep K q4.c H4 y y':=ry
      rw [← cQ] at ry
      refine ⟨hD4,n1 hi ⟨by rw [List.length_append]; exact Nat.succ_le_succ hl,hi,eL,q2,S3,ρ2,us++[y],vs,⟨smG,shG⟩,st1.trans stB,wQ,fQ,stG.repE evQ,it1.step stB,sO cz,?_,by rw [e1,List.append_assoc]; rfl,cz⟩⟩
      exact (stB.reps r1).append (.cons (stG.rep ry) .nil)
     ·cases c1
    ·cases c1
   ·rename_i SA mz
    refine ⟨p1,S1,ρ1,xs[i],ρ2,sm2,st2.repE ev1,rx,gz,fun σ3 ev3=>⟨p1.hold D,S1,ρ2,smh,⟨ev3.len,ev3.at_⟩,?_⟩⟩
    rw [mz]
    intro q HA b stA smA rb
    cases rb
    rw [if_neg Bool.false_ne_true]
    obtain ⟨hD4,q2,stQ,smQ,shQ,wQ,fQ,evQ,cQ⟩:=go q HA SA σ3 ev3 stA smA
    exact n1 hi ⟨Nat.le_succ_of_le hl,hi,hD4,q2,SA,ρ2,us,ws,⟨smQ,shQ⟩,st1.trans stQ,wQ,fQ,evQ,it1.step stQ,sO c1,stQ.reps r1,e1,c1⟩
   ·cases c1
 ·rintro σ1 H1 ys ⟨hl,_,hH,p1,S1,ρ1,us,ws,⟨sm1,sh1⟩,st1,w1,f1,ev1,it1,g1,r1,e1,c1⟩
  rw [List.drop_length] at c1
  unfold dC at c1
  rw [if_pos g1] at c1
  cases c1
  refine ⟨(it1.2 p1 H1 _ sm1.step sm1 g1).2,?_⟩
  rw [List.append_nil] at e1
  subst e1
  exact k p1 H1 ys st1 sm1 sh1 w1 f1 hH (Nat.le_trans hl it.1) r1
theorem aa0 {σ:St} {ρ:Rho} {xs:List PV × Gd} {J:It} {Q:VK} {D:Addr} (sm:Sim K p S H) (ev:cL K p H ρ σ) (it:dM K p H xs J) (k:bI K cl (bL K) p H ((dC xs.2 g mc me xs.1 (cD own cap ρ) S).bind fun ys S2=>.ok (.pv (.lst ys)) S2) Q E) (hD:H D=none) :
  qK J (gP K g) (tP K cl E0 RB mc) (tP K cl E0 (bL K) me) (fL own cap σ) H D Q:=by
 cases z:dC xs.2 g mc me xs.1 (cD own cap ρ) S with
 | fail=>rw [z] at k; exact k.elim
 | exc n S'=>exact absurd z (wZ _ _ _ _ _)
 | ok zs S2 =>
  rw [z] at k
  have k:∀ q H' x,bC p H q H'→Sim K q S2 H'→Rep K q.c H' (.lst zs) x→Q x H':=k
  refine aa7 sm ev it z hD fun q H' vs st1 sm1 sh1 w1 f1 hH l1 r1=>?_
  refine k (q.less D) H' (.ref D) (st1.toLess hD) sh1.toLess ?_
  unfold Rep
  exact ⟨D,vs,rfl,.inl ⟨hH,fun z=>z.2 rfl⟩,l1,kU (fun a h=>h.1) r1⟩
theorem aaN (k:fW X sc own cap) (hi:PIp K cl E X target iter mi) (hc:X.calm=true) (hg:∀ C s₀ H₀ ex,PGp K (cT X sc (bB own cap) C s₀ H₀ ex) target g) (ht:∀ C s₀ H₀ ex,PTp K cl E0 (cT X sc (bB own cap) C s₀ H₀ ex) cnd mc) (he:∀ C s₀ H₀ ex,PEp K cl E0 (cT X sc (bB own cap) C s₀ H₀ ex) elt me)
  (hs:∀ x,foldedSetIterable iter X.env x=pure x:=by intro _; rfl):PEp K cl E X (.ListComp elt [⟨target,iter,[cnd],0⟩] sc pos) (lO own cap mi g mc me):=by
 intro hK
 refine PE.imp (ado k (hi hK) hc (fun C s₀ H₀ ex=>hg C s₀ H₀ ex hK) (fun C s₀ H₀ ex=>ht C s₀ H₀ ex hK) (fun C s₀ H₀ ex=>he C s₀ H₀ ex hK) hs) fun σ H Q ⟨p,S,ρ,s,ev,h⟩=>?_
 exact bR s ev h fun q H' xs J S' stp sm ev it kk D hD=>aa0 sm ev it kk hD
end
end L2.Pp
namespace L2
open PySem PySem.Spec PyProof.Rows Bn
open L2.Pp
section
variable {X:Cx} {pins:List (Addr × Obj)} {σ:St} {H:Hp} {s:Shared} {c:Addr→Prop} {a b:Addr} {n:Bool} {k:eD n} {ks:List PV} {us:List Value}
theorem yP:∀ {l:List Int} {vs:List V},aJ X.K c H (l.map PV.int) vs→vs=l.map V.int
 | [],vs,h=>by
  unfold List.map aJ at h
  exact h
 | i :: l,vs,h=>by
  rw [List.map_cons] at h
  unfold aJ at h
  obtain ⟨v,r,rfl,h1,h2⟩:=h
  unfold Rep at h1
  rw [h1,yP h2]
  rfl
theorem ab8 (I:Inv X pins σ H s) {l:List Int} (r:Rep X.K c H (.tup (l.map PV.int)) (.ref b)):TpI s.heap l b:=by
 unfold Rep at r
 obtain ⟨a,vs,e,sq,_,r⟩:=r
 cases e
 obtain ⟨its,rv,⟨o,ho,hc,m,hd⟩,_⟩:=I.tuple sq
 rw [yP r] at rv
 exact ⟨o,its.toArray,m,ho,hc,hd,by simpa using rv⟩
theorem xR (I:Inv X pins σ H s):∀ {l:List (List Int)} {vs:List V} {its:List Value},aJ X.K c H (l.map fun r:List Int=>PV.tup (r.map PV.int)) vs→aX vs its→Paired (fun k v=>∃ b,v=Value.ref b∧TpI s.heap k b) l its
 | [],vs,its,h,rv=>by
  unfold List.map aJ at h
  subst h
  cases rv
  exact .nil
 | i :: l,vs,its,h,rv=>by
  rw [List.map_cons] at h
  unfold aJ at h
  obtain ⟨v,r,rfl,h1,h2⟩:=h
  cases rv with
  | cons e t =>
   have h1':=h1
   unfold Rep at h1'
   obtain ⟨a,ws,rfl,_⟩:=h1'
   cases e
   exact .cons ⟨_,rfl,ab8 I h1⟩ (xR I h2 t)
theorem vC (I:Inv X pins σ H s):∀ {n:Bool} {k:eD n} {b:Addr},Rep X.K c H (cG n k) (.ref b)→(iQ X.prog X.w n).is s.heap k b
 | false,k,b,r=>TpI.key (ab8 I r)
 | true,k,b,r=>by
  have r:Rep X.K c H (.tup (List.map (fun r:List Int=>PV.tup (r.map PV.int)) k)) (.ref b):=r
  unfold Rep at r
  obtain ⟨a,vs,e,sq,_,r⟩:=r
  cases e
  obtain ⟨its,rv,⟨o,ho,hc,m,hd⟩,_⟩:=I.tuple sq
  exact ⟨o,its.toArray,m,ho,hc,hd,by simpa using xR I r rv⟩
theorem sX:∀ {l m:List Int},l.map PV.int=m.map PV.int→l=m
 | [],[],_=>rfl
 | [],_ :: _,h=>by cases h
 | _ :: _,[],h=>by cases h
 | i :: l,j :: m,h=>by
  rw [List.map_cons,List.map_cons] at h
  injection h with h1 h2
  injection h1 with h1
  rw [h1,sX h2]
theorem lD:∀ {n:Bool} {k k':eD n},cG n k=cG n k'→k=k'
 | false,k,k',h=>by
  unfold cG at h
  injection h with h
  exact sX h
 | true,k,k',h=>by
  unfold cG at h
  injection h with h
  have go:∀ {l m:List (List Int)},l.map (fun r:List Int=>PV.tup (r.map PV.int))=m.map (fun r:List Int=>PV.tup (r.map PV.int))→l=m:=by
   intro l
   induction l with
   | nil =>
    intro m h
    cases m with
    | nil=>rfl
    | cons _ _=>cases h
   | cons x l ih =>
    intro m h
    cases m with
    | nil=>cases h
    | cons y m =>
     rw [List.map_cons,List.map_cons] at h
     injection h with h1 h2
     injection h1 with h1
     rw [sX h1,ih h2]
  exact go h
theorem pJ:∀ {ps:List PV} {vs:List V} {i:Nat} {v:V},aJ X.K c H ps vs→vs[i]?=some v→∃ p,ps[i]?=some p∧Rep X.K c H p v:=fun {ps vs i v} r e=>by
 have hi:i < ps.length:=by
  rw [r.length]
  exact (List.getElem?_eq_some_iff.mp e).1
 obtain ⟨u,e1,e2⟩:=r.get (List.getElem?_eq_getElem hi)
 rw [e] at e1
 cases e1
 exact ⟨_,List.getElem?_eq_getElem hi,e2⟩
theorem nM {es:Array DictEntry} {ep:Nat} (I:Inv X pins σ H s) (h:H a=some (dO a es ep)):s.heap.get? a=some (oD es ep):=(I.hok a _ h).1
theorem ac8 {es:Array DictEntry} {ep:Nat}:(oD es ep).ExactDict:=⟨rfl,rfl,rfl⟩
theorem adB (I:Inv X pins σ H s) {xs:List (eD n × Addr × Value)} {ep:Nat} (h:H a=some (dO a (xs.map (enK n)).toArray ep)) (nd:(xs.map (·.1)).Nodup) (r:aJ X.K c H (xs.map fun x=>cG n x.1) (xs.map fun x=>V.ref x.2.1)) :
  s.heap.DictOfH (iQ X.prog X.w n) a xs:=by
 refine ⟨_,_,ep,nM I h,ac8,rfl,?_,fun x hx=>?_,nd⟩
 ·have:enK n=entryOfKey (iQ X.prog X.w n):=by
   funext x
   unfold enK entryOfKey
   rw [xO]
  simp [this]
 ·obtain ⟨i,hi,e⟩:=List.mem_iff_getElem.mp hx
  obtain ⟨p,e1,e2⟩:=pJ (i:=i) (v:=.ref x.2.1) r (by rw [List.getElem?_map,List.getElem?_eq_getElem hi,e]; rfl)
  rw [List.getElem?_map,List.getElem?_eq_getElem hi,e] at e1
  cases e1
  exact vC I e2
theorem zI {xs:List (eD n × Addr × Value)} (nd:(xs.map (·.1)).Nodup) :
  (∃ (i:Nat) (p:Addr × Value),xs[i]?=some (k,p)∧atKey xs k=some p)∨((∀ i:Nat,(xs.map fun x=>cG n x.1)[i]?≠some (cG n k))∧atKey xs k=none):=by
 by_cases h:∃ (i:Nat) (p:Addr × Value),xs[i]?=some (k,p)
 ·obtain ⟨i,p,h⟩:=h
  exact .inl ⟨i,p,h,atKey_of_get nd h⟩
 ·refine .inr ⟨fun i e=>?_,atKey_none_of_get fun j p e=>h ⟨j,p,e⟩⟩
  rw [List.getElem?_map] at e
  cases z:xs[i]? with
  | none=>rw [z] at e; cases e
  | some x =>
   rw [z] at e
   have e:cG n x.1=cG n k:=Option.some.inj e
   exact h ⟨i,x.2,by rw [z,← lD e]⟩
def DGt (K:PySem.W.Frag) (H:Hp) (a b:Addr) (vs:List V) (Q:V→Prop) (N:Prop):Prop :=
 ∃ (c:Addr→Prop) (n:Bool) (k:eD n) (ks:List PV) (us:List Value),DAt K c H a n ks us∧aX vs us∧Rep K c H (cG n k) (.ref b)∧(∀ (i:Nat) (v:V),ks[i]?=some (cG n k)→vs[i]?=some v→Q v)∧((∀ i:Nat,ks[i]?≠some (cG n k))→N)
theorem ab6 (I:Inv X pins σ H s) {vs:List V} {Q:V→Prop} {N:Prop} (g:DGt X.K H a b vs Q N):∃ (n:Bool) (k:eD n) (xs:List (eD n × Addr × Value)),(a == sysModules)=false∧s.heap.DictOfH (iQ X.prog X.w n) a xs∧(iQ X.prog X.w n).is s.heap k b ∧
  ((∃ p v,atKey xs k=some p∧bH v p.2∧Q v)∨(atKey xs k=none∧N)):=by
 obtain ⟨c,n,k,ks,us,⟨xs,ep,e,z,l,nd,rfl,r,rfl⟩,rv,rk,q1,q2⟩:=g
 refine ⟨n,k,xs,z,adB I e nd r,vC I rk,?_⟩
 rcases zI (k:=k) nd with ⟨i,p,hx,ha⟩ | ⟨hn,ha⟩
 ·have hi:=(List.getElem?_eq_some_iff.mp hx).1
  have hv:i < vs.length:=by
   rw [rv.length,List.length_map]
   exact hi
  obtain ⟨u,e1,e2⟩:=rv.get (List.getElem?_eq_getElem hv)
  rw [List.getElem?_map,hx] at e1
  cases e1
  exact .inl ⟨p,_,ha,e2,q1 i _ (by rw [List.getElem?_map,hx]; rfl) (List.getElem?_eq_getElem hv)⟩
 ·exact .inr ⟨ha,q2 hn⟩
def afk (K:PySem.W.Frag):V→List V→Hp→VK→Prop:=fun x xs H Q=>∃ a b z vs,x=.ref a∧xs=[.ref b,z]∧DGt K H a b vs (fun v=>Q v H) (Q z H)
theorem acU (hu:X.A.units+2 < cLine):MtR X "dict.get" (afk X.K):=by
 intro pins s σ H x xs v us Q I rx rv h
 obtain ⟨a,b,z,vs,rfl,rfl,g⟩:=h
 cases rx
 obtain ⟨u1,u2,rfl,r1,r2⟩:=rv.two
 cases r1
 obtain ⟨n,k,xs,hd,dd,hk,o⟩:=ab6 I g
 refine call_meetsIn PySem.F.slot_dict_get dd.typeIs PySem.F.entry_dict_get (PySem.F.args_dict_get_3 _ _ _) (meetsH_dict_get_default (iQ X.prog X.w n) a b hd u2) ⟨rT hu n,k,xs,hk,dd,?_⟩
 rcases o with ⟨p,v,e,rv,q⟩ | ⟨e,q⟩
 ·rw [e]
  exact ⟨v,H,I.tok _,rv,q⟩
 ·rw [e]
  exact ⟨z,H,I.tok _,r2,q⟩
def aij (K:PySem.W.Frag):R2:=fun x y H Q=>∃ a b vs,x=.ref a∧y=.ref b∧DGt K H a b vs (fun v=>Q v H) False
theorem ae3 (hu:X.A.units+2 < cLine):IxR X (aij X.K):=by
 intro value slice pins s σ H x y v u Q I rx ry h hs
 obtain ⟨a,b,vs,rfl,rfl,g⟩:=h
 cases rx
 cases ry
 obtain ⟨n,k,xs,hd,dd,hk,o⟩:=ab6 I g
 rcases o with ⟨p,v,e,rv,q⟩ | ⟨e,q⟩
 ·unfold subscriptTail
  refine wpAny_bind ?_
  rw [getitemInPython_of_ne dd.typeIs.not_modules]
  refine wpAny_bind (wpAny_specialOf dd.typeIs PySem.F.slot_dict_getitem.lookup ?_)
  have fin:wpAny (model X.prog X.w) X.A (subscripted slice false (.ref a) (.ref b)) (fun r s₃=>wpAny (model X.prog X.w) X.A (letTemporaryGo value (.ref a) r >>= fun _=>pure r) (EP X pins σ Q) X.xe s₃) X.xe s:=by
   rw [hs]
   exact wpAny_operating (wpAny_getItem_heap (rT hu n) hk dd e (wpAny_bind (wpAny_letTemporaryGo (wpAny_pure ⟨v,H,I.tok _,rv,q⟩))))
  first
   | exact wpAny_pure (wpAny_bind fin)
   | exact wpAny_bind (wpAny_pure (wpAny_bind fin))
   | exact wpAny_bind fin
 ·exact q.elim
def DRw (H:Hp) (a:Addr) (n:Bool) (ks:List PV) (rs:List V) (us:List Value):Prop :=
 ∃ (xs:List (eD n × Addr × Value)) (ep:Nat),H a=some (dO a (xs.map (enK n)).toArray ep)∧(a == sysModules)=false∧xs.length≤sizeLine∧(xs.map (·.1)).Nodup∧ks=xs.map (fun x=>cG n x.1)∧rs=xs.map (fun x=>V.ref x.2.1)∧us=xs.map (·.2.2)
theorem adW {K:PySem.W.Frag} (d:DAt K c H a n ks us):∃ rs,DRw H a n ks rs us∧aJ K c H ks rs:=by
 obtain ⟨xs,ep,e,z,l,nd,ek,r,eu⟩:=d
 exact ⟨_,⟨xs,ep,e,z,l,nd,ek,rfl,eu⟩,r⟩
theorem DRw.at_ {K:PySem.W.Frag} {rs:List V} (d:DRw H a n ks rs us) (r:aJ K c H ks rs):DAt K c H a n ks us:=by
 obtain ⟨xs,ep,e,z,l,nd,ek,er,eu⟩:=d
 subst er
 exact ⟨xs,ep,e,z,l,nd,ek,r,eu⟩
def DPt (H:Hp) (a:Addr) (n:Bool) (ks:List PV) (rs:List V) (us:List Value) (k:eD n) (b:Addr) (u:Value) (H':Hp):Prop :=
 ∃ es ep,H'=upd H a (dO a es ep)∧((∃ i:Nat,ks[i]?=some (cG n k)∧DRw H' a n ks rs (us.set i u))∨((∀ i:Nat,ks[i]?≠some (cG n k))∧DRw H' a n (ks++[cG n k]) (rs++[.ref b]) (us++[u])))
theorem acM {xs:List (eD n × Addr × Value)} {i:Nat} {p:Addr × Value} {u:Value} (nd:(xs.map (·.1)).Nodup) (hx:xs[i]?=some (k,p)):(xs.map (putAt k u)).map (·.2.2)=(xs.map (·.2.2)).set i u:=by
 refine List.ext_getElem? fun j=>?_
 have hi:=(List.getElem?_eq_some_iff.mp hx).1
 rw [List.getElem?_set,List.length_map,List.getElem?_map,List.getElem?_map,List.getElem?_map]
 by_cases h:i=j
 ·subst h
  rw [if_pos rfl,if_pos hi,hx]
  simp [putAt]
 ·rw [if_neg h]
  cases z:xs[j]? with
  | none=>rfl
  | some x =>
   have:x.1≠k:=fun e=>h (idxH_unique nd (p:=p) (q:=x.2) hx (by rw [z,← e]))
   simp [putAt,this]
theorem ade {xs:List (eD n × Addr × Value)} {u:Value}:(xs.map (putAt k u)).map (fun x=>V.ref x.2.1)=xs.map (fun x=>V.ref x.2.1):=by
 rw [List.map_map]
 refine List.map_congr_left fun x _=>?_
 simp only [Function.comp_apply,putAt]
 split <;> rfl
theorem acy {xs:List (eD n × Addr × Value)} {u:Value}:(xs.map (putAt k u)).map (fun x=>cG n x.1)=xs.map (fun x=>cG n x.1):=by
 rw [List.map_map]
 refine List.map_congr_left fun x _=>?_
 simp only [Function.comp_apply,putAt]
 split <;> rfl
def agK (K:PySem.W.Frag):qY:=fun o i v H Q=>∃ (a b:Addr) (c:Addr→Prop) (n:Bool) (k:eD n) (ks:List PV) (rs:List V) (us:List Value),o=.ref a∧i=.ref b∧DRw H a n ks rs us∧aJ K c H ks rs∧Rep K c H (cG n k) (.ref b)∧us.length < sizeLine ∧
 ∀ u H',bH v u→DPt H a n ks rs us k b u H'→Q H'
theorem ac7 (hu:X.A.units+2 < cLine):wK X (agK X.K):=by
 intro pins s σ H o i v ov iv u Q I ro ri rv h
 obtain ⟨a,b,c,n,k,ks,rs,us,rfl,rfl,d,r,rk,hl,q⟩:=h
 cases ro
 cases ri
 obtain ⟨xs,ep,e,z,l,nd,rfl,rfl,rfl⟩:=d
 have dd:=adB I e nd r
 rw [List.length_map] at hl
 refine wpAny_setItem_heap (hsz:=l) (rT hu n) (vC I rk) dd fun h' dd' hs=>?_
 obtain ⟨ob,es,ep',ho,hex,hd,he,_,hnd⟩:=dd'
 have eob:ob=oD es ep':=by
  obtain ⟨e1,e2,e3⟩:=hex
  cases ob
  simp only at e1 e2 e3 hd
  subst e1 e2 e3 hd
  rfl
 subst eob
 have een:enK n=entryOfKey (iQ X.prog X.w n):=by
  funext x
  unfold enK entryOfKey
  rw [xO]
 have ees:es=((storedH xs k b u).map (enK n)).toArray:=by
  rw [een,← he]
 have I':Inv X pins σ (upd H a (dO a es ep')) { s with heap:=h',toks:=s.toks+(iQ X.prog X.w n).draws k } :=
  I.write (x:=a) (e:=a) (by rw [e]; exact trivial) (.inl rfl) (fun b' q' hb z'=>(hs.2 b' hb).trans z') ⟨_,ho⟩ ⟨ho,⟨_,ho⟩,fun h1 h2 p kk=>kk _ p⟩
 refine ⟨_,I',q u _ rv ⟨es,ep',rfl,?_⟩⟩
 have hat:(upd H a (dO a es ep')) a=some (dO a ((storedH xs k b u).map (enK n)).toArray ep'):=by rw [eL,ees]
 rcases zI (k:=k) nd with ⟨i,p,hx,ha⟩ | ⟨hn,ha⟩
 ·refine .inl ⟨i,by rw [List.getElem?_map,hx]; rfl,storedH xs k b u,ep',hat,z,?_,hnd,?_,?_,?_⟩
  ·rw [storedH_old ha,List.length_map]
   exact l
  ·rw [storedH_old ha,acy]
  ·rw [storedH_old ha,ade]
  ·rw [storedH_old ha,acM nd hx]
 ·refine .inr ⟨hn,storedH xs k b u,ep',hat,z,?_,hnd,?_,?_,?_⟩
  ·rw [storedH_new ha,List.length_append]
   exact hl
  ·rw [storedH_new ha,List.map_append] <;> rfl
  ·rw [storedH_new ha,List.map_append] <;> rfl
  ·rw [storedH_new ha,List.map_append] <;> rfl
def wH (x:V) (H:Hp):Prop:=∃ a es ep,x=.ref a∧H a=some (dO a es ep)
theorem afR {o e:Expr} {es:List Expr} {to:TE} {t:TA} {name:Str} {apos cpos:Pos} {id:String} {r:V→List V→Hp→VK→Prop} (slot:Slot "dict" name id) (hty:typeOf (.builtin id)=pure (.type "method_descriptor")) (hm:MtR X id r) (ho:PE X o to) (ha:PA X (e :: es) t)
  (hbase:attributeBase o name X.env (eval o X.env)=eval o X.env:=by rfl)
  (hfew:((backTo cpos (starEach (e :: es) X.env)).all (fun x=>!x.1) && (backToKw cpos (keywordEach [] X.env)).all (fun x=>x.1.isSome)
   && decide ((e :: es).length+([]:List Keyword).length+(if ([]:List Keyword).isEmpty then 0 else 1) < 30))=true:=by rfl)
  (hline:(apos.endLine == cpos.line)=true:=by rfl) (hs:starEach (e :: es) X.env=(false,eval e X.env) :: starEach es X.env:=by rfl) (hplain:(backTo cpos (starEach es X.env)).any (·.1)=false:=by rfl) :
  PE X (.Call (.Attribute o name apos) (e :: es) [] cpos) (fun σ H Q=>to σ H fun x H1=>wH x H1∧t σ H1 fun xs H2=>r x xs H2 Q):=by
 intro pins s σ H Q I h
 refine wpAny_Call_method_late hbase hfew hline rfl (thn (ho pins s σ H _ I h) fun v s1 ⟨x,H1,I1,r1,⟨a,ds,ep,ex,hH⟩,q1⟩=>?_)
 subst ex
 cases r1
 have hg:=nM I1 hH
 refine ⟨"dict",id,PySem.F.plainAttrs_dict,slot,hty,⟨_,hg,rfl⟩,fun b eb=>?_,?_⟩
 ·cases eb
  exact ⟨_,hg,rfl⟩
 have hA:=ha cpos pins s1 σ H1 _ I1 q1
 rw [hs] at hA ⊢
 refine Calls.callWith_builtin (by show (false || (backTo cpos (starEach es X.env)).any (·.1))=false; rw [hplain] <;> rfl) (Calls.evalArgs_plain ?_)
 exact thn hA fun us s2 ⟨vs,H2,I2,r2,q2⟩=>hm pins s2 σ H2 (.ref a) vs (.ref a) us Q I2 rfl r2 q2
theorem aeW (I:Inv X pins σ H s):sysModules < s.heap.objs.size:=by
 have h:mainGlobals < s.heap.objs.size:=(I.mod.glob.keeps I.bk).lt
 exact Nat.lt_trans (by decide) h
theorem adh {pos:Pos}:PE X (.Dict [] [] pos) (fun _ H Q=>∀ p,H p=none→(p == sysModules)=false→Q (.ref p) (upd H p (dO p #[] 0))):=fun pins s σ H Q I h =>
 wpAny_Dict_empty ⟨.ref s.heap.objs.size,_,I.laid (a:=s.heap.objs.size) (o:=dO s.heap.objs.size #[] 0) (t':=s.toks) (fun _ _ q=>Heap.get?_push_of_some _ q) (Nat.le_refl _) ⟨Heap.get?_push_size _ rfl,⟨_,Heap.get?_push_size _ rfl⟩,fun h1 h2 p kk=>kk _ p⟩,rfl,
  h _ (I.hok.fresh (Nat.le_refl _)) (beq_eq_false_iff_ne.mpr (Ne.symm (Nat.ne_of_lt (aeW I))))⟩
end
end L2
namespace L2.Pp
noncomputable section
open PySem PySem.Spec PyProof.Rows Bn
open Classical in
def dIx {α:Type} (kvs:List (PV × α)) (k:PV):Option Nat:=kvs.findIdx? fun kv=>decide (kv.1=k)
def gC {α:Type} (kvs:List (PV × α)) (k:PV):Option α:=match dIx kvs k with
 | some i=>kvs[i]?.map (·.2)
 | none=>none
def hU {α:Type} (kvs:List (PV × α)) (k:PV) (v:α):List (PV × α):=match dIx kvs k with
 | some i=>kvs.set i (k,v)
 | none=>kvs++[(k,v)]
def qW (n:Bool) (k:PV):Prop:=∃ k',k=cG n k'
theorem jL {α:Type} {kvs:List (PV × α)} {k:PV} {i:Nat} (h:dIx kvs k=some i):∃ v,kvs[i]?=some (k,v):=by
 unfold dIx at h
 obtain ⟨hi,e,_⟩:=List.findIdx?_eq_some_iff_getElem.mp h
 have e:kvs[i].1=k:=by simpa using e
 refine ⟨kvs[i].2,?_⟩
 rw [List.getElem?_eq_getElem hi]
 congr 1
 exact Prod.ext e rfl
theorem sU {α:Type} {kvs:List (PV × α)} {k:PV} (h:dIx kvs k=none) (i:Nat):(kvs.map (·.1))[i]?≠some k:=by
 unfold dIx at h
 rw [List.findIdx?_eq_none_iff] at h
 intro e
 rw [List.getElem?_map] at e
 cases z:kvs[i]? with
 | none=>rw [z] at e; cases e
 | some x =>
  rw [z] at e
  have:=h x (List.mem_of_getElem? z)
  have e:x.1=k:=Option.some.inj e
  simp [e] at this
theorem vE {α:Type} {kvs:List (PV × α)} {k:PV} {i:Nat} (h:(kvs.map (·.1))[i]?=some k):∃ j,dIx kvs k=some j:=by
 cases z:dIx kvs k with
 | some j=>exact ⟨j,rfl⟩
 | none=>exact absurd h (sU z i)
def qL (n:Bool):ME:=fun _ S=>.ok (.ref S.length) (S++[.dic n []])
open Classical in
def lV (d k:AV) (S:Sto) (z:Option AV):Res AV:=match d,k with
 | .ref j,.pv k=>match S[j]? with
  | some (.dic n kvs)=>if qW n k then (match gC kvs k,z with
   | some v,_=>.ok (.pv v) S
   | none,some z=>.ok z S
   | none,none=>.fail) else .fail
  | _=>.fail
 | _,_=>.fail
def ah7 (md mk:ME):ME:=fun ρ S=>(md ρ S).bind fun d S1=>(mk ρ S1).bind fun k S2=>lV d k S2 none
def pZ {α:Type} (d:AV) (S:Sto) (f:Res α):Res α:=match d with
 | .ref j=>(match S[j]? with
  | some (.dic _ _)=>f
  | _=>.fail)
 | _=>.fail
def qD (md:ME) (ms:MA):ME:=fun ρ S=>(md ρ S).bind fun d S1=>pZ d S1 ((ms ρ S1).bind fun ks S2=>match ks with
 | [k,z]=>lV d k S2 (some z)
 | _=>.fail)
open Classical in
def nN (d k v:AV) (S:Sto):Res AV:=match d,k,v with
 | .ref j,.pv k,.pv v=>match S[j]? with
  | some (.dic n kvs)=>if qW n k∧kvs.length < 16777216 then .ok (.pv .non) (S.set j (.dic n (hU kvs k v))) else .fail
  | _=>.fail
 | _,_,_=>.fail
def qH (md mk mv:ME):MS:=fun ρ S=>bN.of (mv ρ S) fun v S1=>bN.of (md ρ S1) fun d S2=>bN.of (mk ρ S2) fun k S3=>bN.of (nN d k v S3) fun _ S4=>.nx ρ S4
section
variable {K:PySem.W.Frag} {cl:Str→Addr} {E:XK} {X:Cx} {p q:Ph} {H H':Hp} {S:Sto} {a b e o i v:Expr} {es:List Expr} {m md mk mv:ME} {ms:MA} {pos:Pos}
theorem aeH (n:Bool):PEp K cl E X (.Dict [] [] pos) (qL n):=by
 intro hK
 subst hK
 refine PE.imp adh fun σ H Q ⟨p,S,ρ,s,ev,h⟩ t ht hs=>?_
 have ob:kQ X.K ⟨p.f++[t],fun a=>p.w a∨a=t,fun a=>p.c a∨a=t⟩ (upd H t (dO t #[] 0)) t (.dic n []) :=
  ⟨[],[],⟨[],0,eL,hs,Nat.zero_le _,List.nodup_nil,rfl,.nil,rfl⟩,.nil,.nil⟩
 obtain ⟨st,sm⟩:=s.pushO ht (show Mb (dO t #[] 0) from trivial) ob
 exact h _ _ (.ref t) st sm ⟨t,by show (p.f++[t])[S.length]?=some t; rw [← s.len,List.getElem?_append_right (Nat.le_refl _),Nat.sub_self]; rfl,rfl⟩
theorem adG (s:Sim K p S H) {j:Nat} {a:Addr} {n:Bool} {kvs:List (PV × PV)} {k:PV} {y:V} {Q:V→Prop} {N:Prop} (ej:p.f[j]?=some a) (z:S[j]?=some (.dic n kvs)) (hk:qW n k) (ry:Rep K p.c H k y)
  (q:∀ v x,gC kvs k=some v→Rep K p.c H v x→Q x) (qn:gC kvs k=none→N):∃ b vs,y=.ref b∧DGt K H a b vs Q N:=by
 obtain ⟨k',rfl⟩:=hk
 obtain ⟨us,vs,d,rv,r⟩:=s.obj j a _ ej z
 have ey:∃ b,y=.ref b:=by
  cases n with
  | false =>
   have ry:Rep K p.c H (.tup (List.map PV.int k')) y:=ry
   unfold Rep at ry
   obtain ⟨b,_,e,_⟩:=ry
   exact ⟨b,e⟩
  | true =>
   have ry:Rep K p.c H (.tup (List.map (fun r:List Int=>PV.tup (r.map PV.int)) k')) y:=ry
   unfold Rep at ry
   obtain ⟨b,_,e,_⟩:=ry
   exact ⟨b,e⟩
 obtain ⟨b,rfl⟩:=ey
 have nd:∀ i j:Nat,(kvs.map (·.1))[i]?=some (cG n k')→(kvs.map (·.1))[j]?=some (cG n k')→i=j:=by
  obtain ⟨xs,ep,_,_,_,nd,ek,_⟩:=d
  intro i j h1 h2
  rw [ek,List.getElem?_map] at h1 h2
  cases z1:xs[i]? with
  | none=>rw [z1] at h1; cases h1
  | some x =>
   cases z2:xs[j]? with
   | none=>rw [z2] at h2; cases h2
   | some y =>
    rw [z1] at h1
    rw [z2] at h2
    have e1:=lD (Option.some.inj h1)
    have e2:=lD (Option.some.inj h2)
    have e1:x.1=k':=e1
    have e2:y.1=k':=e2
    exact idxH_unique nd (p:=x.2) (q:=y.2) (k:=k') (by rw [z1,← e1]) (by rw [z2,← e2])
 refine ⟨b,vs,rfl,p.c,n,k',_,us,d,rv,ry,fun i x h1 h2=>?_,fun hn=>qn ?_⟩
 ·obtain ⟨j',hj⟩:=vE h1
  obtain ⟨v,hv⟩:=jL hj
  have ei:j'=i:=nd j' i (by rw [List.getElem?_map,hv]; rfl) h1
  subst ei
  obtain ⟨x',e1,e2⟩:=r.get (i:=j') (p:=v) (by rw [List.getElem?_map,hv]; rfl)
  rw [h2] at e1
  cases e1
  exact q v x (by unfold gC; rw [hj]; simp [hv]) e2
 ·cases z:dIx kvs (cG n k') with
  | none=>unfold gC; rw [z]
  | some i =>
   obtain ⟨v,hv⟩:=jL z
   exact absurd (by rw [List.getElem?_map,hv]; rfl) (hn i)
theorem yW {d k:AV} {z:Option AV} {x y:V} {Q:VK} (s:Sim K p S H) (rd:bL K p H d x) (rk:bL K p H k y) (h:bI K cl (bL K) p H (lV d k S z) Q E) :
  ∃ a b vs,x=.ref a∧y=.ref b∧DGt K H a b vs (fun v=>Q v H) (∃ w,z=some w∧∀ u,bL K p H w u→Q u H):=by
 cases d with
 | pv _=>cases k <;> exact h.elim
 | ref j =>
  cases k with
  | ref _=>exact h.elim
  | pv k =>
   obtain ⟨a,ej,rfl⟩:=rd
   unfold lV at h
   dsimp only at h
   split at h
   ·rename_i n kvs hS
    split at h
    ·rename_i hk
     obtain ⟨b,vs,e,g⟩:=adG (y:=y) (Q:=fun v=>Q v H) (N:=∃ w,z=some w∧∀ u,bL K p H w u→Q u H) s ej hS hk rk (fun v x e r=>by
      rw [e] at h
      exact bI.ret (R:=bL K) (a:=.pv v) h s r) (fun e=>by
      rw [e] at h
      cases z with
      | none=>exact h.elim
      | some w=>exact ⟨w,rfl,fun u r=>bI.ret (R:=bL K) h s r⟩)
     exact ⟨a,b,vs,rfl,e,g⟩
    ·exact h.elim
   ·exact h.elim
theorem abV {a b:Addr} {vs:List V} {Q Q':V→Prop} {N N':Prop} (g:DGt K H a b vs Q N) (f:∀ v,Q v→Q' v) (f':N→N'):DGt K H a b vs Q' N':=by
 obtain ⟨c,n,k,ks,us,d,rv,rk,q1,q2⟩:=g
 exact ⟨c,n,k,ks,us,d,rv,rk,fun i v h1 h2=>f v (q1 i v h1 h2),fun h=>f' (q2 h)⟩
theorem ahP (hu:X.A.units+8 < cLine) (ha:PEp K cl E X a md) (hb:PEp K cl E X b mk) (hs:tN b:=by intro _ _; rfl):PEp K cl E X (.Subscript a b pos) (ah7 md mk):=by
 intro hK
 subst hK
 refine PE.imp (afW (ae3 (by omega)) (ha rfl) (hb rfl) hs) fun σ H Q ⟨p,S,ρ,s,ev,h⟩=>?_
 refine bR s ev h fun q H1 d x S1 st s1 e1 r1 h1=>bR s1 e1 h1 fun q2 H2 k y S2 st2 s2 e2 r2 h2=>?_
 obtain ⟨a,b,vs,ex,ey,g⟩:=yW s2 (st2.repA r1) r2 h2
 exact ⟨a,b,vs,ex,ey,abV g (fun _ h=>h) fun ⟨w,e,_⟩=>nomatch e⟩
theorem abJ {α β:Type} {R:Ph→Hp→α→β→Prop} {d:AV} {x:V} {f:Res α} {Q:β→Hp→Prop} (s:Sim K p S H) (rd:bL K p H d x) (h:bI K cl R p H (pZ d S f) Q E):wH x H∧bI K cl R p H f Q E:=by
 cases d with
 | pv _=>exact h.elim
 | ref j =>
  obtain ⟨a,ej,rfl⟩:=rd
  unfold pZ at h
  dsimp only at h
  split at h
  ·rename_i n kvs hS
   obtain ⟨us,vs,⟨xs,ep,e,_⟩,_⟩:=s.obj j a _ ej hS
   exact ⟨⟨a,_,_,rfl,e⟩,h⟩
  ·exact h.elim
theorem aeU {apos cpos:Pos} {f:Expr} (hu:X.A.units+8 < cLine) (ho:PEp K cl E X o md) (ha:PAp K cl E X [e,f] ms) (hbase:attributeBase o "get" X.env (eval o X.env)=eval o X.env:=by rfl)
  (hfew:((backTo cpos (starEach [e,f] X.env)).all (fun x=>!x.1) && (backToKw cpos (keywordEach [] X.env)).all (fun x=>x.1.isSome) && decide (([e,f]:List Expr).length+([]:List Keyword).length+(if ([]:List Keyword).isEmpty then 0 else 1) < 30))=true:=by rfl)
  (hline:(apos.endLine == cpos.line)=true:=by rfl) (hs:starEach [e,f] X.env=(false,eval e X.env) :: starEach [f] X.env:=by rfl) (hplain:(backTo cpos (starEach [f] X.env)).any (·.1)=false:=by rfl):PEp K cl E X (.Call (.Attribute o "get" apos) [e,f] [] cpos) (qD md ms):=by
 intro hK
 subst hK
 refine PE.imp (afR PySem.F.slot_dict_get PySem.F.type_dict_get (acU (by omega)) (ho rfl) (ha rfl) hbase hfew hline hs hplain) fun σ H Q ⟨p,S,ρ,s,ev,h⟩=>?_
 refine bR s ev h fun q H1 d x S1 st s1 e1 r1 h1=>?_
 obtain ⟨hd,h1⟩:=abJ s1 r1 h1
 refine ⟨hd,bR s1 e1 h1 fun q2 H2 ks ys S2 st2 s2 e2 r2 h2=>?_⟩
 match ks,ys,r2 with
 | [],_,.nil=>exact h2.elim
 | [_],_,.cons _ .nil=>exact h2.elim
 | [k,z],_,.cons (b:=y) r3 (.cons (b:=w) r4 .nil) =>
  obtain ⟨a,b,vs,ex,ey,g⟩:=yW s2 (st2.repA r1) r3 h2
  exact ⟨a,b,w,vs,ex,by rw [ey],abV g (fun _ h=>h) fun ⟨w',e,q'⟩=>by cases e; exact q' w r4⟩
 | _ :: _ :: _ :: _,_,.cons _ (.cons _ (.cons _ _))=>exact h2.elim
theorem Sim.writeO (s:Sim K p S H) {D:Addr} {k:Nat} {o:SO} {ho:HO} (h:p.f[k]?=some D) (hk:k < S.length) (mo:Mb ho) (ob:bC p H p (upd H D ho)→kQ K p (upd H D ho) D o):bC p H p (upd H D ho)∧Sim K p (S.set k o) (upd H D ho):=by
 have w:p.w D:=s.sub D (List.mem_of_getElem? h)
 have st:bC p H p (upd H D ho):=⟨s.wc,s.mu,List.prefix_rfl,fun _ h=>h,fun _ h=>h,fun _ h g=>absurd h g,fun _ h g=>absurd h g,fun _ h g=>absurd h g,fun a u e nw=>by
  rw [bQ (fun z:a=D=>nw (by rw [z]; exact w))]
  exact e⟩
 refine ⟨st,s.nd,by rw [List.length_set]; exact s.len,s.sub,s.wc,fun a x=>?_,fun j a u e1 e2=>?_⟩
 ·by_cases z:a=D
  ·rw [z,eL]
   exact ⟨ho,rfl,mo⟩
  ·rw [bQ z]
   exact s.mu a x
 ·by_cases hj:k=j
  ·subst hj
   rw [List.getElem?_set_self hk] at e2
   cases e2
   rw [h] at e1
   cases e1
   exact ob st
  ·rw [List.getElem?_set_ne hj] at e2
   have ne:a≠D:=fun z=>hj (oP s.nd h (by rw [z] at e1; exact e1))
   exact (s.obj j a u e1 e2).mono (fun vs e=>by rw [bQ ne]; exact e) (fun b w f=>⟨⟨w,f⟩,fun vs e=>by rw [bQ (fun z:b=D=>f (z ▸ List.mem_of_getElem? h))]; exact e⟩) fun _ _ r=>st.reps r
theorem aX.setI {vs:List V} {us:List Value} {x:V} {u:Value} (r:aX vs us) (rx:bH x u):∀ i,aX (vs.set i x) (us.set i u):=fun i=>r.set rx i
theorem aeG {tpos:Pos} (hu:X.A.units+8 < cLine) (hv:PEp K cl E X v mv) (ho:PEp K cl E X o md) (hi:PEp K cl E X i mk)
  (ha:∀ v,assign (.Subscript o i tpos) X.env v=(do
   let ov ← holding [v] (eval o X.env)
   let iv ← holding [v,ov] (eval i X.env)
   standAt tpos
   holding [v,ov,iv] (setItem ov iv v)
   release [v,ov,iv] []):=by intro _; rfl)
  (hs:swapsWithSole [.Subscript o i tpos] v pos.line X.env=pure false:=by rfl) (hw:swappedStores [.Subscript o i tpos] v X.env=pure none:=by rfl)
  (h1:(assignEach [.Subscript o i tpos] X.env).map (·.2)=[assign (.Subscript o i tpos) X.env]:=by rfl):PSp K cl E X (.Assign [.Subscript o i tpos] v pos) (qH md mk mv):=by
 intro hK
 subst hK
 refine PS.imp (uF (hv rfl) (adv (ho rfl) (hi rfl) (ac7 (by omega)) ha) hs hw h1) fun D σ H ⟨p,S,ρ,s,ev,h⟩=>?_
 refine fT s ev h fun q H1 v x S1 st s1 e1 r1 h1=>?_
 refine fT s1 e1 h1 fun q2 H2 d y S2 st2 s2 e2 r2 h2=>?_
 refine fT s2 e2 h2 fun q3 H3 k z S3 st3 s3 e3 r3 h3=>?_
 have r2:=st3.repA r2
 have r1:=st3.repA (st2.repA r1)
 cases d with
 | pv _=>cases k <;> cases v <;> exact h3.elim
 | ref j =>
  cases k with
  | ref _=>cases v <;> exact h3.elim
  | pv k =>
   cases v with
   | ref _=>exact h3.elim
   | pv v =>
    obtain ⟨a,ej,rfl⟩:=r2
    have h3:cS X.K cl q3 H3 (bN.of (nN (.ref j) (.pv k) (.pv v) S3) fun _ S4=>.nx ρ S4) D E:=h3
    unfold nN at h3
    dsimp only at h3
    cases hS:S3[j]? with
    | none=>simp only [hS] at h3; exact h3.elim
    | some o =>
     cases o with
     | lst _=>simp only [hS] at h3; exact h3.elim
     | lol _=>simp only [hS] at h3; exact h3.elim
     | dol _ _=>simp only [hS] at h3; exact h3.elim
     | dic n kvs =>
      simp only [hS] at h3
      by_cases hc:qW n k∧kvs.length < 16777216
      ·rw [if_pos hc] at h3
       obtain ⟨⟨k',rfl⟩,hl⟩:=hc
       obtain ⟨us,vs,d,rv,r⟩:=s3.obj j a _ ej hS
       have rk:Rep X.K q3.c H3 (cG n k') z:=r3
       have ez:∃ b,z=.ref b:=by
        obtain ⟨b,_,e,_⟩:=adG (Q:=fun _=>True) (N:=True) s3 ej hS ⟨k',rfl⟩ rk (fun _ _ _ _=>trivial) fun _=>trivial
        exact ⟨b,e⟩
       obtain ⟨b,rfl⟩:=ez
       obtain ⟨rs,dw,rr⟩:=adW d
       have lu:us.length=kvs.length:=by
        rw [← rv.length,← r.length,List.length_map]
       refine ⟨a,b,q3.c,n,k',_,rs,us,rfl,rfl,dw,rr,rk,by rw [lu,gH]; exact hl,fun u H' ru hp=>?_⟩
       obtain ⟨es,ep,rfl,hp⟩:=hp
       have hj:=(List.getElem?_eq_some_iff.mp hS).1
       obtain ⟨st4,sm4⟩:=s3.writeO (o:=.dic n (hU kvs (cG n k') v)) ej hj (show Mb (dO a es ep) from trivial) fun st4=>by
        rcases hp with ⟨i,hi,dw'⟩ | ⟨hn,dw'⟩
        ·obtain ⟨i',hi'⟩:=vE hi
         obtain ⟨w,hw'⟩:=jL hi'
         have ei:i'=i:=by
          obtain ⟨xs,_,_,_,_,nd,ek,_⟩:=dw
          have g1:(kvs.map (·.1))[i']?=some (cG n k'):=by rw [List.getElem?_map,hw']; rfl
          rw [ek,List.getElem?_map] at g1 hi
          cases z1:xs[i']? with
          | none=>rw [z1] at g1; cases g1
          | some x1 =>
           cases z2:xs[i]? with
           | none=>rw [z2] at hi; cases hi
           | some x2 =>
            rw [z1] at g1
            rw [z2] at hi
            have e1:x1.1=k':=lD (Option.some.inj g1)
            have e2:x2.1=k':=lD (Option.some.inj hi)
            exact idxH_unique nd (p:=x1.2) (q:=x2.2) (k:=k') (by rw [z1,← e1]) (by rw [z2,← e2])
         subst ei
         have ek:hU kvs (cG n k') v=kvs.set i' (cG n k',v):=by unfold hU; rw [hi']
         refine ⟨us.set i' u,vs.set i' x,?_,aX.setI rv ru i',?_⟩
         ·rw [ek]
          have e1:(kvs.set i' (cG n k',v)).map (·.1)=kvs.map (·.1):=by
           rw [List.map_set]
           refine List.ext_getElem? fun t=>?_
           rw [List.getElem?_set]
           split
           ·rename_i ht
            subst ht
            rw [if_pos (by rw [List.length_map]; exact (List.getElem?_eq_some_iff.mp hw').1),List.getElem?_map,hw']
            rfl
           ·rfl
          rw [e1]
          exact dw'.at_ (st4.reps rr)
         ·rw [ek,List.map_set]
          exact aJ.set (st4.rep r1) i' (st4.reps r)
        ·have ei:dIx kvs (cG n k')=none:=by
          cases z0:dIx kvs (cG n k') with
          | none=>rfl
          | some i =>
           obtain ⟨w,hw'⟩:=jL z0
           exact absurd (by rw [List.getElem?_map,hw']; rfl) (hn i)
         have ek:hU kvs (cG n k') v=kvs++[(cG n k',v)]:=by unfold hU; rw [ei]
         refine ⟨us++[u],vs++[x],?_,aX.append rv (.cons ru .nil),?_⟩
         ·rw [ek,List.map_append]
          exact dw'.at_ ((st4.reps rr).append (.cons (st4.rep rk) .nil))
         ·rw [ek,List.map_append]
          exact (st4.reps r).append (.cons (st4.rep r1) .nil)
       exact h3 _ _ _ st4 sm4 (st4.repE e3)
      ·rw [if_neg hc] at h3
       exact h3.elim
end
end
end L2.Pp
namespace L2
open PySem PySem.Spec PyProof.Rows Bn
open L2.Pp
section
variable {prog:Program} {w:World} {A:Around} {E:Value→Shared→Prop} {s:Shared} {it d i ep:Nat} {es:Array DictEntry}
theorem abm {h:i < es.size}:(if (i:Int) < 0 then none else es[(i:Int).toNat]?)=some es[i]:=by
 rw [if_neg (by omega),Int.toNat_natCast,Array.getElem?_eq_getElem h]
theorem abI {h:¬ i < es.size}:(if (i:Int) < 0 then none else es[(i:Int).toNat]?)=none:=by
 rw [if_neg (by omega),Int.toNat_natCast,Array.getElem?_eq_none (by omega)]
theorem adQ {Q:Option Value→Shared→Prop} {h1:Heap} (hh:A.handled=none) (sb:Heap.ExtBut it s.heap h1) (q:∀ h',Heap.ExtBut it s.heap h'→Q none { s with heap:=h' }) :
  wpAny (model prog w) A.in1 (newExc (.type "StopIteration") [] >>= raiseNew (α:=PySem.Fin)) (fun _ _=>False) (fun e s'=>wpAny (model prog w) A (isInstance e (.type "StopIteration")) (fun b s2=>b=true∧Q none s2) E s') { s with heap:=h1 }:=by
 refine wpAny_bind ?_
 simp only [newExc,newTuple]
 refine wpAny_bind (wpAny_newObj_type ?_ (by size_fits))
 refine wpAny_bind (m:=firstArgMember _ _) (wpAny_of_eq (a:=Value.none) (by first | rfl | (simp only [firstArgMember]; rfl)) ?_)
 refine wpAny_newObj_type ?_ (by size_fits)
 simp only [raiseNew]
 refine wpAny_bind (wpAny_handled ?_)
 rw [show A.in1.handled=none from hh]
 refine wpAny_bind (wpAny_pure (wpAny_throw ?_))
 exact wpAny_isInstance (T:="StopIteration") (b:=true) ⟨_,Heap.get?_push_size _ rfl,rfl⟩ isSubtype_stop ⟨rfl,q _ ((sb.push _).push _)⟩
theorem ad0 {Q:PySem.Fin→Shared→Prop} {E':Value→Shared→Prop} (hit:s.heap.IsKeyIter it d i es.size ep) (hd:s.heap.get? d=some (oD es ep))
  (q1:∀ h:i < es.size,∀ h',h'.IsKeyIter it d (i+1) es.size ep→Heap.SameBut it s.heap h'→Q (.done (.ret es[i].key)) { s with heap:=h' })
  (q2:¬ i < es.size→∀ h',Heap.SameBut it s.heap h'→wpAny (model prog w) A.in1 (newExc (.type "StopIteration") [] >>= raiseNew (α:=PySem.Fin)) Q E' { s with heap:=h' }) :
  wpAny (model prog w) A.in1 (Builtin.«dict_keyiterator.__next__» ⟨[.ref it],[]⟩) Q E' s:=by
 obtain ⟨o,ho,hc,hf⟩:=id hit
 have nm:∀ {s':Shared} {R:Nat→Shared→Prop},s'.TypeIs (.ref it) "dict_keyiterator"→R 0 s'→wpAny (model prog w) A.in1 (do let t ← typeNameOfWhole (.ref it); pure (if Builtin.Dict_items.ownsTuple t then 2 else 0)) R E' s':=fun hT r =>
  wpAny_bind (wpAny_typeNameOfWhole_keyiter hT (wpAny_pure (by rw [show Builtin.Dict_items.ownsTuple "dict_keyiterator"=false by decide]; exact r)))
 refine wpAny_bind (wpAny_pure (wpAny_bind (wpAny_bind (nm hit.typeIs (wpAny_bind (wpAny_fieldsOf ho hf ?_))))))
 show wpAny _ _ (if (Value.ref d == Value.none)=true then _ else _) _ _ s
 rw [if_neg (show ¬ ((Value.ref d == Value.none)=true) from Bool.false_ne_true)]
 refine wpAny_bind (wpAny_pure (wpAny_bind (wpAny_dictEntries hd rfl ?_)))
 rw [if_neg (by simp)]
 refine wpAny_bind (wpAny_pure (wpAny_bind (wpAny_dictEpoch hd rfl ?_)))
 rw [if_neg (by simp)]
 refine wpAny_pure ?_
 by_cases h:i < es.size
 ·simp only [abm (h:=h)]
  refine wpAny_bind (nm hit.typeIs (wpAny_bind (wpAny_isOneOf_keyiter hit.typeIs ?_)))
  show wpAny _ _ (setField (.ref it) 1 (rawInt ((i:Int)+1)) >>= _) _ _ s
  refine wpAny_bind (wpAny_setField ho hf (by simp) ?_)
  have hit':(s.heap.update it (Obj.mapFields (·.setIfInBounds 1 (rawInt ((i:Int)+1))))).IsKeyIter it d (i+1) es.size ep :=
   ⟨_,Heap.get?_update_self _ ho (Obj.isFreed_of_fields (Obj.data_mapFields hf _)),(Obj.cls_mapFields ..).trans hc,by rw [Obj.data_mapFields hf]; simp [rawInt]⟩
  have tt:Shared.TypeIs { s with heap:=s.heap.update it (Obj.mapFields (·.setIfInBounds 1 (rawInt ((i:Int)+1)))) } (.ref it) "dict_keyiterator":=hit'.typeIs
  exact wpAny_bind (wpAny_holding (wpAny_bind (wpAny_isOneOf_keyiter tt (wpAny_pure (wpAny_pure (q1 h _ hit' (Heap.SameBut.update ..)))))))
 ·simp only [abI (h:=h)]
  refine wpAny_bind (nm hit.typeIs ?_)
  exact wpAny_bind (wpAny_setField ho hf (by simp) (q2 h _ (Heap.SameBut.update ..)))
theorem aci {Q:PySem.Fin→Shared→Prop} {E':Value→Shared→Prop} (hit:s.heap.IsValIter it d i es.size ep) (hd:s.heap.get? d=some (oD es ep))
  (q1:∀ h:i < es.size,∀ h',h'.IsValIter it d (i+1) es.size ep→Heap.SameBut it s.heap h'→Q (.done (.ret es[i].val)) { s with heap:=h' })
  (q2:¬ i < es.size→∀ h',Heap.SameBut it s.heap h'→wpAny (model prog w) A.in1 (newExc (.type "StopIteration") [] >>= raiseNew (α:=PySem.Fin)) Q E' { s with heap:=h' }) :
  wpAny (model prog w) A.in1 (Builtin.«dict_valueiterator.__next__» ⟨[.ref it],[]⟩) Q E' s:=by
 obtain ⟨o,ho,hc,hf⟩:=id hit
 have nm:∀ {s':Shared} {R:Nat→Shared→Prop},s'.TypeIs (.ref it) "dict_valueiterator"→R 0 s'→wpAny (model prog w) A.in1 (do let t ← typeNameOfWhole (.ref it); pure (if Builtin.Dict_items.ownsTuple t then 2 else 0)) R E' s':=fun hT r =>
  wpAny_bind (wpAny_typeNameOfWhole_valiter hT (wpAny_pure (by rw [show Builtin.Dict_items.ownsTuple "dict_valueiterator"=false by decide]; exact r)))
 refine wpAny_bind (wpAny_pure (wpAny_bind (wpAny_bind (nm hit.typeIs (wpAny_bind (wpAny_fieldsOf ho hf ?_))))))
 show wpAny _ _ (if (Value.ref d == Value.none)=true then _ else _) _ _ s
 rw [if_neg (show ¬ ((Value.ref d == Value.none)=true) from Bool.false_ne_true)]
 refine wpAny_bind (wpAny_pure (wpAny_bind (wpAny_dictEntries hd rfl ?_)))
 rw [if_neg (by simp)]
 refine wpAny_bind (wpAny_pure (wpAny_bind (wpAny_dictEpoch hd rfl ?_)))
 rw [if_neg (by simp)]
 refine wpAny_pure ?_
 by_cases h:i < es.size
 ·simp only [abm (h:=h)]
  refine wpAny_bind (nm hit.typeIs (wpAny_bind (wpAny_isOneOf_valiter hit.typeIs ?_)))
  show wpAny _ _ (setField (.ref it) 1 (rawInt ((i:Int)+1)) >>= _) _ _ s
  refine wpAny_bind (wpAny_setField ho hf (by simp) ?_)
  have hit':(s.heap.update it (Obj.mapFields (·.setIfInBounds 1 (rawInt ((i:Int)+1))))).IsValIter it d (i+1) es.size ep :=
   ⟨_,Heap.get?_update_self _ ho (Obj.isFreed_of_fields (Obj.data_mapFields hf _)),(Obj.cls_mapFields ..).trans hc,by rw [Obj.data_mapFields hf]; simp [rawInt]⟩
  have tt:Shared.TypeIs { s with heap:=s.heap.update it (Obj.mapFields (·.setIfInBounds 1 (rawInt ((i:Int)+1)))) } (.ref it) "dict_valueiterator":=hit'.typeIs
  exact wpAny_bind (wpAny_holding (wpAny_bind (wpAny_isOneOf_valiter tt (wpAny_bind (wpAny_isOneOf_valiter tt (wpAny_pure (wpAny_pure (q1 h _ hit' (Heap.SameBut.update ..)))))))))
 ·simp only [abI (h:=h)]
  refine wpAny_bind (nm hit.typeIs ?_)
  exact wpAny_bind (wpAny_setField ho hf (by simp) (q2 h _ (Heap.SameBut.update ..)))
theorem ahR {Q:Option Value→Shared→Prop} (hh:A.handled=none) (hit:s.heap.IsKeyIter it d i es.size ep) (hd:s.heap.get? d=some (oD es ep)) (h:¬ i < es.size)
  (q:∀ h',Heap.ExtBut it s.heap h'→Q none { s with heap:=h' }):wpAny (model prog w) A (pyNext (.ref it)) Q E s:=by
 unfold pyNext
 exact wpAny_bind (wpAny_attempt (wpAny_callSpecial?_slot (name:=Str.ofString "__next__") hit.typeIs F.slot_dict_keyiterator_next (wpAny_call_entry F.slot_dict_keyiterator_next hit.typeIs F.entry_dict_keyiterator_next
  (ad0 hit hd (fun n=>absurd n h) fun _ h' sb=>wpAny_mono (adQ (E:=E) hh sb.extBut q) (fun _ _ z=>z.elim) fun e s2 z=>wpAny_bind (thn z fun b s3 ⟨hb,q3⟩=>by subst hb; exact wpAny_pure q3)) (F.args_dict_keyiterator_next_1 _))))
theorem aeb {Q:Option Value→Shared→Prop} (hit:s.heap.IsValIter it d i es.size ep) (hd:s.heap.get? d=some (oD es ep)) (h:i < es.size)
  (q:∀ h',h'.IsValIter it d (i+1) es.size ep→Heap.SameBut it s.heap h'→Q (some es[i].val) { s with heap:=h' }):wpAny (model prog w) A (pyNext (.ref it)) Q E s:=by
 unfold pyNext
 exact wpAny_bind (wpAny_attempt (wpAny_callSpecial?_slot (name:=Str.ofString "__next__") hit.typeIs F.slot_dict_valueiterator_next (wpAny_call_entry F.slot_dict_valueiterator_next hit.typeIs F.entry_dict_valueiterator_next
  (aci hit hd (fun _ h' a b=>⟨_,rfl,wpAny_pure (q h' a b)⟩) fun n=>absurd h n) (F.args_dict_valueiterator_next_1 _))))
theorem afS {Q:Option Value→Shared→Prop} (hh:A.handled=none) (hit:s.heap.IsValIter it d i es.size ep) (hd:s.heap.get? d=some (oD es ep)) (h:¬ i < es.size)
  (q:∀ h',Heap.ExtBut it s.heap h'→Q none { s with heap:=h' }):wpAny (model prog w) A (pyNext (.ref it)) Q E s:=by
 unfold pyNext
 exact wpAny_bind (wpAny_attempt (wpAny_callSpecial?_slot (name:=Str.ofString "__next__") hit.typeIs F.slot_dict_valueiterator_next (wpAny_call_entry F.slot_dict_valueiterator_next hit.typeIs F.entry_dict_valueiterator_next
  (aci hit hd (fun n=>absurd n h) fun _ h' sb=>wpAny_mono (adQ (E:=E) hh sb.extBut q) (fun _ _ z=>z.elim) fun e s2 z=>wpAny_bind (thn z fun b s3 ⟨hb,q3⟩=>by subst hb; exact wpAny_pure q3)) (F.args_dict_valueiterator_next_1 _))))
theorem acI (hh:A.handled=none) (I d:Addr) (hne:d≠I) (es:Array DictEntry) (ep:Nat) :
  Walks prog w A I [I,d] [I] es.size (fun i v=>∃ h:i < es.size,v=es[i].val) (fun i h=>h.IsValIter I d i es.size ep∧h.get? d=some (oD es ep)) where
 sub:=fun b hb=>by simp at hb; simp [hb]
 frame:=fun _ _ _ st hk=>⟨st.1.at fun o e=>hk I (by simp) o e,hk d (by simp) _ st.2⟩
 item:=fun i s Q E hi st hQ=>aeb st.1 st.2 hi fun h' hit' sb=>hQ _ h' s.toks ⟨hi,rfl⟩ ⟨hit',(sb.2 d hne).trans st.2⟩ fun b o hb e=>sb.extBut b o (fun z=>hb (by simp [z])) e
 done:=fun s Q E st hQ=>afS hh st.1 st.2 (Nat.lt_irrefl _) fun h' eb=>hQ h' s.toks fun b o hb e=>eb b o (fun z=>hb (by simp [z])) e
 self:=fun _ _ _ _ st hQ=>wpAny_pyIter_valiter st.1 hQ
end
section
variable {X:Cx}
def vwO (v a:Addr):HO:=.ext fun h=>h.get? v=some { cls:=.type "dict_values",data:=.fields #[.ref a] }
theorem abM:MtR X "dict.values" (fun x xs H Q=>∃ a es ep,x=.ref a∧xs=[]∧(a == sysModules)=false∧H a=some (dO a es ep)∧∀ v,H v=none→Q (.ref v) (upd H v (vwO v a))):=by
 intro pins s σ H x xs v us Q I rx rv h
 obtain ⟨a,es,ep,rfl,rfl,ns,hH,q⟩:=h
 cases rx
 cases rv
 have hd:=nM I hH
 have hT:s.TypeIs (.ref a) "dict":=⟨_,hd,rfl⟩
 refine wpAny_call_entry F.slot_dict_values hT F.entry_dict_values ?_ (F.args_dict_values_1 _)
 refine wpAny_bind (wpAny_bind (wpAny_notOrdered_dict hT (wpAny_pure ?_)))
 show wpAny _ _ (Builtin.Dict.showsAll a >>= _) _ _ s
 unfold Builtin.Dict.showsAll
 rw [if_neg (by rw [ns]; exact Bool.false_ne_true)]
 refine wpAny_bind (wpAny_pure (wpAny_bind (wpAny_newObj_type (wpAny_pure ⟨_,rfl,?_⟩))))
 exact ⟨.ref s.heap.objs.size,_,I.laid (t':=s.toks) (o:=vwO s.heap.objs.size a) (fun _ _ e=>Heap.get?_push_of_some _ e) (Nat.le_refl _) ⟨Heap.get?_push_size _ rfl,⟨_,Heap.get?_push_size _ rfl⟩,fun h1 h2 p kk=>kk _ p⟩,rfl,q _ (I.hok.fresh (Nat.le_refl _))⟩
end
end L2
namespace L2
open PySem PySem.Spec PyProof.Rows Bn
open L2.Pp
section
variable {prog:Program} {w:World} {A:Around} {E:Value→Shared→Prop} {s:Shared} {v d ep:Nat} {es:Array DictEntry}
theorem afI {Q:Value→Shared→Prop} (hv:s.heap.get? v=some { cls:=.type "dict_values",data:=.fields #[.ref d] }) (hd:s.heap.get? d=some (oD es ep))
  (q:Q (.ref s.heap.objs.size) { s with heap:=s.heap.push { cls:=.type "dict_valueiterator",data:=.fields #[.ref d,.int 0 0,.int es.size 0,.int ep 0] } }):wpAny (model prog w) A (pyIter (.ref v)) Q E s:=by
 have hT:s.TypeIs (.ref v) "dict_values":=⟨_,hv,rfl⟩
 refine wpAny_pyIter_slot hT F.slot_dict_values_iter (wpAny_call_entry F.slot_dict_values_iter hT F.entry_dict_values_iter ?_ (F.args_dict_values_iter_1 _))
 unfold Builtin.«dict_values.__iter__» Builtin.Dict_items.dictOf Builtin.Dict_items.newIterator
 refine wpAny_bind (wpAny_pure (wpAny_bind (wpAny_bind (wpAny_field hv rfl (x:=.ref d) rfl (wpAny_pure (wpAny_bind ?_))))))
 refine wpAny_bind (wpAny_dictEntries hd rfl (wpAny_bind (wpAny_dictEpoch hd rfl ?_)))
 simp only [show Builtin.Dict_items.ownsTuple "dict_valueiterator"=false by decide,Bool.false_eq_true,if_false]
 exact wpAny_newObj_type (wpAny_pure ⟨_,rfl,"dict_valueiterator",_,⟨_,Heap.get?_push_size _ rfl,rfl⟩,F.slot_dict_valueiterator_next.lookup,q⟩)
end
section
variable {X:Cx}
theorem abg (hc:X.calm=true):gW X (.builtin "any") (fun xs H Q=>∃ (v a:Addr) (n:Bool) (ks:List PV) (rs:List V) (us:List Value) (is:List Int),xs=[.ref v]∧H v=some (vwO v a)∧DRw H a n ks rs us∧aX (is.map V.int) us∧Q (.bl (is.any (· != 0))) H):=by
 intro pins s σ H xs us Q I r h
 obtain ⟨v,a,n,ks,rs,us',is,rfl,hv,d,rv,q⟩:=h
 obtain ⟨u,rfl,ru⟩:=iT r
 cases ru
 obtain ⟨ys,ep,e,z,l,nd,rfl,rfl,rfl⟩:=d
 have hd:=nM I e
 have hl:is.length=ys.length:=by
  have:=rv.length
  rwa [List.length_map,List.length_map] at this
 have hw:s.heap.get? v=some { cls:=.type "dict_values",data:=.fields #[.ref a] }:=(I.hok v _ hv).1
 have hsz:(ys.map (enK n)).toArray.size=is.length:=by simp [hl]
 refine call_any_walk (afI hw hd ⟨_,_,_,_,_,_,fun i=>is.getD i 0 != 0,rfl,acI (show X.A.in1.handled=none from I.ok.hd hc) s.heap.objs.size a (Nat.ne_of_lt (Heap.lt_size hd)) _ ep,⟨⟨_,Heap.get?_push_size _ rfl,rfl,rfl⟩,Heap.get?_push_of_some _ hd⟩,fun i x s' Q' E' hx hQ=>?_,fun h' tk kp=>?_⟩)
 ·obtain ⟨hi,ex⟩:=hx
  have hi':i < is.length:=by rw [← hsz]; exact hi
  obtain ⟨y,ey,ry⟩:=rv.get (i:=i) (x:=.int is[i]) (by rw [List.getElem?_map,List.getElem?_eq_getElem hi']; rfl)
  have eq:x=y:=by
   rw [ex]
   rw [List.getElem?_map,List.getElem?_eq_getElem (by omega)] at ey
   have ey:=Option.some.inj ey
   rw [← ey]
   simp [enK]
  subst eq
  obtain ⟨t,rfl⟩:=ry
  have e1:is.getD i 0=is[i]:=by simp [List.getD,hi']
  have hQ':Q' (is.getD i 0 != 0) s':=hQ
  rw [e1] at hQ'
  exact PySem.P.truthy_int hQ'
 ·show EP X pins σ Q (.bool ((List.range (ys.map (enK n)).toArray.size).any fun i=>is.getD i 0 != 0)) _
  rw [hsz,abF]
  have I1:Inv X pins σ H { s with heap:=s.heap.push { cls:=.type "dict_valueiterator",data:=.fields #[.ref a,.int 0 0,.int (ys.map (enK n)).toArray.size 0,.int ep 0] },toks:=s.toks }:=I.kept fun b o z=>Heap.get?_push_of_some _ z
  obtain ⟨f0,f1,f2,f3,f4,f5⟩:=I.fpOk (Nat.le_refl s.heap.objs.size) (I.hok.fresh (Nat.le_refl _))
  exact ⟨.bl (is.any (· != 0)),H,I1.turned (fun b o hb z=>kp b o (by simpa using hb) z) f0 f1 f3 f4 f5,rfl,q⟩
theorem aea {o:Expr} {to:TE} {name:Str} {apos cpos:Pos} {id:String} {r:V→List V→Hp→VK→Prop} (slot:Slot "dict" name id) (hty:typeOf (.builtin id)=pure (.type "method_descriptor")) (hm:MtR X id r) (ho:PE X o to)
  (hbase:attributeBase o name X.env (eval o X.env)=eval o X.env:=by rfl) (hline:(apos.endLine == cpos.line)=true:=by rfl):PE X (.Call (.Attribute o name apos) [] [] cpos) (fun σ H Q=>to σ H fun x H1=>wH x H1∧r x [] H1 Q):=by
 intro pins s σ H Q I h
 refine wpAny_Call_method0_late hbase hline (thn (ho pins s σ H _ I h) fun v s1 ⟨x,H1,I1,r1,⟨a,ds,ep,ex,hH⟩,q1⟩=>?_)
 subst ex
 cases r1
 have hg:=nM I1 hH
 refine ⟨"dict",id,PySem.F.plainAttrs_dict,slot,hty,⟨_,hg,rfl⟩,fun b eb=>?_,Calls.callWith_builtin rfl (PySem.evalArgs_none (hm pins s1 σ H1 (.ref a) [] (.ref a) [] Q I1 rfl .nil q1))⟩
 cases eb
 exact ⟨_,hg,rfl⟩
end
end L2
namespace L2.Pp
open PySem PySem.Spec PyProof.Rows Bn
def ahM (d:AV) (S:Sto):Res AV:=match d with
 | .ref j=>(match S[j]? with
  | some (.dic _ kvs)=>.ok (.pv (.lst (kvs.map (·.1)))) S
  | _=>.fail)
 | _=>.fail
def nO (d:AV) (S:Sto):Res AV:=match d with
 | .ref j=>(match S[j]? with
  | some (.dic _ kvs)=>(match gO (kvs.map (·.2)) with
   | some is=>.ok (.pv (.bl (is.any (· != 0)))) S
   | none=>.fail)
  | _=>.fail)
 | _=>.fail
def qF (m:ME):ME:=fun ρ S=>(m ρ S).bind fun d S1=>nO d S1
section
variable {K:PySem.W.Frag} {cl:Str→Addr} {E:XK} {X:Cx} {p q:Ph} {H H':Hp} {S:Sto} {a b e o i v:Expr} {es:List Expr} {m md mk mv:ME} {ms:MA} {pos:Pos}
theorem aeq {x:Str} {px apos cpos:Pos} (hc:X.calm=true) (hg:Gl X x) (hm:X.mg x=none) (hv:bootBuiltins x=some (.builtin "any")) (ho:PEp K cl E X o m) (hbase:attributeBase o "values" X.env (eval o X.env)=eval o X.env:=by rfl) (hline:(apos.endLine == cpos.line)=true:=by rfl)
  (hn:x≠"__name__":=by decide) (hdb:(x == ("__debug__":Str))=false:=by decide)
  (he:starEach [.Call (.Attribute o "values" apos) [] [] cpos] X.env=(false,eval (.Call (.Attribute o "values" apos) [] [] cpos) X.env) :: starEach [] X.env:=by rfl) (hpl:(backTo pos (starEach [] X.env)).any (·.1)=false:=by rfl) :
  PEp K cl E X (.Call (.Name x px) [.Call (.Attribute o "values" apos) [] [] cpos] [] pos) (qF m):=by
 intro hK
 subst hK
 refine PE.imp (aaL (abg hc) hg hm hv (abB (aea PySem.F.slot_dict_values PySem.F.type_dict_values abM (ho rfl) hbase hline) adz he) hn hdb he hpl) fun σ H Q ⟨p,S,ρ,s,ev,h⟩=>?_
 refine bR s ev h fun q H1 d x S1 st s1 e1 r1 h1=>?_
 cases d with
 | pv _=>exact h1.elim
 | ref j =>
  obtain ⟨a,ej,rfl⟩:=r1
  have h1:bI X.K cl (bL X.K) q H1 (nO (.ref j) S1) Q E:=h1
  unfold nO at h1
  dsimp only at h1
  split at h1
  ·rename_i n kvs hS
   split at h1
   ·rename_i is hi
    obtain ⟨us,vs,d,rv,r⟩:=s1.obj j a _ ej hS
    obtain ⟨rs,dw,rr⟩:=adW d
    obtain ⟨ys,ep,ey,ns,lz,nd,ek,er,eu⟩:=dw
    refine ⟨⟨a,_,_,rfl,ey⟩,a,_,_,rfl,rfl,ns,ey,fun v hv=>⟨v,a,n,_,rs,us,is,rfl,eL,⟨ys,ep,by rw [bQ (dY ey hv)]; exact ey,ns,lz,nd,ek,er,eu⟩,?_,?_⟩⟩
    ·rw [← oS hi r]
     exact rv
    ·exact bI.same (R:=bL X.K) h1 s1 (eW hv) (x:=.bl (is.any (· != 0))) (by unfold bL Rep; rfl)
   ·exact h1.elim
  ·exact h1.elim
end
end L2.Pp
namespace L2
open PySem PySem.Spec PyProof.Rows Bn
section
variable {X:Cx}
def rIs (n:Bool):R2:=fun x y H Q=>∃ a b,x=.bl a∧y=.bl b∧Q (.bl ((a == b) != n)) H
theorem ahq:OpR X (compareOp .Is) (rIs false):=by
 intro pins s σ H x y v u Q I rx ry h
 obtain ⟨a,b,rfl,rfl,q⟩:=h
 cases rx
 cases ry
 exact wpAny_bind (wpAny_isSame_plain rfl (wpAny_pure ⟨.bl (a == b),H,I,by cases a <;> cases b <;> rfl,by simpa using q⟩))
theorem pG:OpR X (compareOp .IsNot) (rIs true):=by
 intro pins s σ H x y v u Q I rx ry h
 obtain ⟨a,b,rfl,rfl,q⟩:=h
 cases rx
 cases ry
 exact wpAny_bind (wpAny_isSame_plain rfl (wpAny_pure ⟨.bl (!(a == b)),H,I,by cases a <;> cases b <;> rfl,by cases a <;> cases b <;> simpa using q⟩))
end
section
variable {X:Cx} {sc:Scope} {own:List Str} {cap:List (Nat × Str)} {pins:List (Addr × Obj)} {σ:St} {H:Hp} {s:Shared} {elt target iter:Expr} {pos pos':Pos} {wi:TI} {g:TG} {te:TE} {Q:VK}
theorem acN {i:Nat} {x:Str} {py spos:Pos} (hN:X.N.Nodup) (hx:X.N[i]?=some x) (hl:Loc X.env.scope x) (k:kH X sc own cap) (hi:PI X target iter wi) (hc:X.calm=true)
  (hg:∀ C s₀ H₀ ex,PG (fU X sc (bB own cap) C s₀ H₀ ex) target g) (he:∀ C s₀ H₀ ex,PE (fU X sc (bB own cap) C s₀ H₀ ex) elt te)
  (hs:∀ x,foldedSetIterable iter X.env x=pure x:=by intro _; rfl) (hsw:swapsWith (.ListComp elt [⟨target,iter,[],0⟩] sc pos) (some (.Name x py)) spos.line X.env=pure true:=by rfl)
  (hf:X.fn x=true∨X.env.scope.names.lookup x=some .local:=by first | exact .inl rfl | exact .inr rfl | assumption) :
  PS X (.Assign [.Name x py] (.ListComp elt [⟨target,iter,[],0⟩] sc pos) spos) (rB (nU own cap wi g te) (qC i)):=by
 intro pins s σ H D I h
 rw [exec_Assign_Name_used _ _ _ _ hsw]
 refine wpAny_bind (wpAny_standAt (wpAny_bind ?_))
 show wpAny _ X.A (comprehension (.ListComp elt [⟨target,iter,[],0⟩] sc pos) sc X.env _ (newList []) false (eval iter X.env) (some (assign (.Name x py) X.env)) >>= fun _=>pure ()) _ _ s
 refine wpAny_bind (thn (aa5 (use:=some (assign (.Name x py) X.env)) (Qf:=fun _ s'=>SP X pins D .next s') k hi hc hg he I h (fun B C s' H' m I' fC hn q=>?_) hs) fun _ s' hq=>wpAny_pure (wpAny_pure hq))
 show wpAny _ _ (assign (.Name x py) X.env (.ref B)) _ _ s'
 obtain ⟨o,es,ep,ho,hd,r⟩:=hn
 obtain ⟨f0,f1,f2,f3,f4,f5⟩:=fC
 have I'':Inv X (pins++[(C,o)]) σ H' s':=I'.pins_of fun p hp=>(List.mem_append.mp hp).elim (fun z=>I'.pin p (List.mem_append_right _ z)) fun z=>by
  have e:p=(C,o):=by simpa using z
  subst e
  exact ⟨ho,f0,f1,f2,fun v z=>by rw [hd] at z; cases z⟩
 refine wpAny_assign_Name (lH I'' hN hx hl (v:=.ref B) rfl (fun s2 I2=>?_) hf)
 have pC:=I2.pin (C,o) (by simp)
 refine ⟨m,⟨o,es,ep,pC.1,hd,r⟩,fun h' sb=>⟨_,H',?_,q⟩⟩
 exact (I2.unpinned).turned (t':=s2.toks) (fun b o hb e=>(sb.2 b hb).trans e) f0 f1 f3 f4 f5
end
end L2
namespace L2.Pp
open PySem PySem.Spec PyProof.Rows Bn
def fIs (n:Bool):PV→PV→Option PV
 | .bl a,.bl b=>some (.bl ((a == b) != n))
 | _,_=>none
mutual
def noL:PV→Bool
 | .lst _=>false
 | .tup xs=>qU xs
 | _=>true
def qU:List PV→Bool
 | []=>true
 | x :: r=>noL x && qU r
end
def gK (f:FM) (ms:MA):ME:=fun ρ S=>(ms ρ S).bind fun xs S1=>match eN S1 xs with
 | some vs=>(match f (vs.map .pv) [] with
  | .ok (.pv v) _=>if noL v=true then .ok (.pv v) S1 else .fail
  | _=>.fail)
 | none=>.fail
noncomputable def pX (ma mb:ME):ME:=fun ρ S=>(ma ρ S).bind fun x S1=>(mb ρ S1).bind fun y S2=>match (rd S2 x).bind fun u=>(rd S2 y).bind fun v=>mH u v with
 | some (.lst zs)=>.ok (.ref S2.length) (S2++[.lst zs])
 | _=>.fail
section
variable {K:PySem.W.Frag} {cl:Str→Addr} {E:XK} {X:Cx} {p q:Ph} {H H':Hp} {S:Sto} {a b e o i v:Expr} {es:List Expr} {m ma mb md mk mv:ME} {ms:MA} {pos:Pos}
theorem nZ (n:Bool):OpS K (rIs n) (fIs n):=fun {p S H a b c x y Q} s ra rb e k=>by
 cases a with
 | bl a =>
  cases b with
  | bl b =>
   cases e
   exact ⟨a,b,ra.bl,rb.bl,k H _ (cK.refl H) (by unfold Rep; rfl)⟩
  | _=>cases e
 | _=>cases e
mutual
theorem abO {c c':Addr→Prop}:∀ {v:PV} {x:V},Rep K c H v x→noL v=true→Rep K c' H v x
 | .non,_,h,_=>by unfold Rep at h ⊢; exact h
 | .bl _,_,h,_=>by unfold Rep at h ⊢; exact h
 | .int _,_,h,_=>by unfold Rep at h ⊢; exact h
 | .str _,_,h,_=>by unfold Rep at h ⊢; exact h
 | .lst _,_,_,n=>by unfold noL at n; cases n
 | .tup xs,_,h,n=>by
  unfold noL at n
  unfold Rep at h ⊢
  obtain ⟨a,vs,e,t,z,r⟩:=h
  exact ⟨a,vs,e,t,z,zM r n⟩
theorem zM {c c':Addr→Prop}:∀ {v:List PV} {x:List V},aJ K c H v x→qU v=true→aJ K c' H v x
 | [],_,h,_=>by unfold aJ at h ⊢; exact h
 | p :: ps,_,h,n=>by
  unfold qU at n
  unfold aJ at h ⊢
  obtain ⟨v,r,e,h1,h2⟩:=h
  have n:=Bool.and_eq_true_iff.mp n
  exact ⟨v,r,e,abO h1 n.1,zM h2 n.2⟩
end
def Ph.none:Ph:=⟨[],fun _=>False,fun _=>False⟩
theorem acv:Sim K Ph.none [] H:=⟨List.nodup_nil,rfl,fun _ h=>(nomatch h),fun _ h=>h,fun _ h=>h.elim,fun k a o e=>(nomatch e)⟩
theorem xT:∀ {vs:List PV} {xs:List V},wE K p H vs xs→eU K Ph.none H (vs.map .pv) xs
 | _,_,.nil=>.nil
 | _,_,.cons h t=>by
  refine .cons ?_ (xT t)
  show Rep K (fun _=>False) H _ _
  rcases h with h | ⟨xs,a,vs,rfl,rfl,h,z,r⟩
  ·exact xX (fun _ h=>h.elim) h
  ·unfold Rep
   exact ⟨a,vs,rfl,.inl ⟨h,fun z=>z⟩,z,kU (fun _ h=>h.elim) r⟩
theorem nP {g:FM} {k k0:Nat} {ps:List Str} {x:Str} {px:Pos} (C:Cal X.prog X.w X.K X.mg X.base cl x k ps g) (hr:dJ k0 X.A) (hk:k≤k0) (hg:Gl X x) (ha:PAp X.K cl E X (e :: es) ms) (hdb:(x == ("__debug__":Str))=false:=by decide) (he:starEach (e :: es) X.env=(false,eval e X.env) :: starEach es X.env:=by rfl) (hpl:(backTo pos (starEach es X.env)).any (·.1)=false:=by rfl) :
  PEp X.K cl E X (.Call (.Name x px) (e :: es) [] pos) (gK g ms):=by
 obtain ⟨a,d,G,b,kk,n⟩:=C
 intro hK
 refine PE.imp (tW G (hr.mono hk) hg n kk b .nil vJ (ha rfl) hdb he hpl) fun σ H Q ⟨p,S,ρ,s,ev,h⟩=>?_
 refine bR s ev h fun q H1 as xs S1 st sm ev r k=>?_
 cases z:eN S1 as with
 | none=>simp only [z] at k; exact k.elim
 | some vs =>
  simp only [z] at k
  have rr:=xT (oQ sm r z)
  have e0:xs++([]:List V)=xs:=List.append_nil xs
  refine ⟨Ph.none,[],vs.map .pv,acv,by first | exact rr | (rw [e0]; exact rr),?_⟩
  cases y:g (vs.map .pv) [] with
  | fail=>simp only [y] at k; exact k.elim
  | exc n S'=>simp only [y] at k; exact k.elim
  | ok w S' =>
   cases w with
   | ref j=>simp only [y] at k; exact k.elim
   | pv w =>
    simp only [y] at k
    by_cases hn:noL w=true
    ·rw [if_pos hn] at k
     intro q' H' x' st' sm' r'
     have same:cK H1 H':=fun a o e=>st'.keep a o e fun z=>z
     exact bI.same (R:=bL X.K) k sm same (abO r' hn)
    ·rw [if_neg hn] at k
     exact k.elim
theorem aej (ha:PEp K cl E X a ma) (hb:PEp K cl E X b mb):PEp K cl E X (.BinOp a .Mult b pos) (pX ma mb):=by
 intro hK
 subst hK
 refine PE.imp (afz ab1 (ha rfl) (hb rfl)) fun σ H Q ⟨p,S,ρ,s,e,h⟩=>?_
 refine bR s e h fun q H1 x u S1 st s1 e1 r1 h1=>bR s1 e1 h1 fun q2 H2 y w S2 st2 s2 e2 r2 h2=>?_
 have r1:=st2.repA r1
 cases z1:rd S2 x with
 | none=>simp only [z1] at h2; exact h2.elim
 | some vx =>
  cases z2:rd S2 y with
  | none=>simp only [z1,z2] at h2; exact h2.elim
  | some vy =>
   simp only [z1,z2,Option.bind_some] at h2
   cases vx with
   | lst xs =>
    cases vy with
    | int j =>
     rw [tT] at h2
     by_cases hl:wJ xs.length j
     ·rw [if_pos hl] at h2
      obtain ⟨a1,vs,rfl,l1,zz,rr⟩:=(kL s2 r1 z1).lst
      have hz:vs.length*j.toNat≤sizeLine:=by rw [← rr.length,gH]; exact hl.2.2
      refine ⟨a1,j,vs,rfl,(kL s2 r2 z2).int,l1,hl.1,hl.2.1,hz,fun t ht=>?_⟩
      obtain ⟨st3,sm3⟩:=s2.push ht (by rw [uA,Nat.mul_comm]; exact hz) (aJ.rep rr j.toNat)
      exact h2 _ _ (.ref t) st3 sm3 ⟨t,by show (q2.f++[t])[S2.length]?=some t; rw [← s2.len,List.getElem?_append_right (Nat.le_refl _),Nat.sub_self]; rfl,rfl⟩
     ·rw [if_neg hl] at h2
      exact h2.elim
    | _=>exact h2.elim
   | _=>cases vy <;> exact h2.elim
variable {sc:Scope} {own:List Str} {cap:List (Nat × Str)} {elt target iter:Expr} {mi:MI} {g:GM} {me:ME}
theorem acm {i:Nat} {x:Str} {py spos:Pos} (hN:X.N.Nodup) (hx:X.N[i]?=some x) (hl:Loc X.env.scope x) (k:kH X sc own cap) (hi:PIp K cl E X target iter mi) (hc:X.calm=true) (hg:∀ C s₀ H₀ ex,PGp K (fU X sc (bB own cap) C s₀ H₀ ex) target g) (he:∀ C s₀ H₀ ex,PEp K cl E0 (fU X sc (bB own cap) C s₀ H₀ ex) elt me)
  (hs:∀ x,foldedSetIterable iter X.env x=pure x:=by intro _; rfl) (hsw:swapsWith (.ListComp elt [⟨target,iter,[],0⟩] sc pos) (some (.Name x py)) spos.line X.env=pure true:=by rfl)
  (hf:X.fn x=true∨X.env.scope.names.lookup x=some .local:=by first | exact .inl rfl | exact .inr rfl | assumption) :
  PSp K cl E X (.Assign [.Name x py] (.ListComp elt [⟨target,iter,[],0⟩] sc pos) spos) (aM i (bF own cap mi g me)):=by
 intro hK
 refine PS.imp (acN hN hx hl k (hi hK) hc (fun C s₀ H₀ ex=>hg C s₀ H₀ ex hK) (fun C s₀ H₀ ex=>he C s₀ H₀ ex hK) hs hsw hf) fun D σ H ⟨p,S,ρ,s,ev,h⟩=>?_
 have h2:tP K cl E (bL K) (bF own cap mi g me) σ H fun y H1=>D.nx (σ.set i (some y)) H1:=by
  refine ⟨p,S,ρ,s,ev,?_⟩
  unfold aM at h
  cases z:bF own cap mi g me ρ S with
  | ok v S1 =>
   rw [z] at h
   exact fun q H' y st sm r=>h q H' _ st sm ((st.repE ev).set r i)
  | exc n S1=>rw [z] at h; exact h
  | fail=>rw [z] at h; exact h
 obtain ⟨p,S,ρ,s,ev,h⟩:=h2
 exact bR s ev h fun q H' xs J S' stp sm ev it kk B hB=>sD sm ev it kk hB
end
end L2.Pp
namespace L2.Pp
open PySem
theorem gJ:bootBuiltins "len"=some (.builtin "len"):=by decide +kernel
theorem uY:bootBuiltins "abs"=some (.builtin "abs"):=by decide +kernel
theorem agp:bootBuiltins "any"=some (.builtin "any"):=by decide +kernel
theorem uQ:bootBuiltins "sum"=some (.builtin "sum"):=by decide +kernel
theorem ab0:bootBuiltins "sorted"=some (.builtin "sorted"):=by decide +kernel
theorem uZ:bootBuiltins "int"=some (.type "int"):=by decide +kernel
theorem aez:bootBuiltins "list"=some (.type "list"):=by decide +kernel
theorem jZ:bootBuiltins "tuple"=some (.type "tuple"):=by decide +kernel
end L2.Pp
set_option Elab.async false
set_option maxRecDepth 100000
set_option maxHeartbeats 4000000
namespace Sc
noncomputable section
open PySem L2 Bn L2.Pp
abbrev vG:Stmt:=top 1
abbrev sF:Stmt:=top 2
abbrev oM:Stmt:=top 3
abbrev mK:Stmt:=top 4
abbrev oA:Stmt:=top 6
abbrev sW:Stmt:=top 7
abbrev mU:Stmt:=top 11
abbrev oC:Stmt:=top 13
abbrev pD:Stmt:=top 14
abbrev rM:Stmt:=top 15
abbrev uP:Stmt:=top 16
abbrev vA:Stmt:=top 18
abbrev tQ:Stmt:=top 19
abbrev vD:Stmt:=top 20
abbrev oR:Stmt:=top 21
abbrev oK:Stmt:=top 22
abbrev pS:Stmt:=top 23
abbrev sQ:Stmt:=top 24
abbrev pW:Stmt:=top 25
abbrev uE:Stmt:=top 26
abbrev pR:Stmt:=top 27
abbrev rO:Stmt:=top 28
abbrev pT:Stmt:=top 29
abbrev sM:Stmt:=top 30
abbrev tY:Stmt:=top 31
abbrev rH:Stmt:=top 32
abbrev nL:Stmt:=top 33
abbrev pF:Stmt:=top 34
abbrev gU:Stmt:=top 35
def uH:MS:=(aK (sIf (bK (aC fGt (aA 0) (mC (.int 0)))) (bP (mC (.int 1))) dA)
 (aK (sIf (bK (aC fLt (aA 0) (mC (.int 0)))) (bP (mUn cU (mC (.int 1)))) dA)
 (bP (mC (.int 0)))))
def lS:FM:=fnM 1 1 uH
def rV:MS:=(aK (kI (bK (aC fNe (aA 1) (mC (.int 0)))) (aK (aM 2 (aC cE (aA 0) (aA 1)))
 (aK (aM 0 (aA 1))
 (aM 1 (aA 2)))))
 (bP (mR aQ (aB (aA 0) aD))))
def kX:FM:=fnM 2 3 rV
def sH:MS:=(aK (aM 1 (mC (.int 0)))
 (aK (bU (mIt (aA 0)) (gN 2) (aM 1 (aL kX [] (aB (aA 1) (aB (aA 2) aD)))))
 (bP (bF ["number"] [(1,"common")] (mIt (aA 0)) (gN 0) (aC fB (aA 0) (aA 1))))))
def mP:FM:=fnM 1 3 sH
def rJ:MS:=(aK (aM 1 (aC fIx (lO ["number"] [] (mIt (aA 0)) (gN 0) (bK (aC fNe (aA 0) (mC (.int 0)))) (aA 0)) (mC (.int 0))))
 (bP (mR aN (aB (bF ["number"] [(1,"first")] (mIt (aL mP [] (aB (aA 0) aD))) (gN 0) (aC aZ (aL lS [] (aB (aA 1) aD)) (aA 0))) aD))))
def iV:FM:=fnM 1 2 rJ
def rF:MS:=(bP (bF ["near","far"] [(0,"start"),(1,"end")] (nX (aB (mSl (aA 0) mO0 (mO1 (mUn cU (mC (.int 1))))) (aB (mSl (aA 1) mO0 (mO1 (mUn cU (mC (.int 1))))) aD))) (gT 2 (bT (gN 0) (bT (gN 1) dD))) (aC dR (aC aZ (aA 1) (aC fIx (aA 2) (mUn cU (mC (.int 1))))) (aC aZ (aA 0) (aC fIx (aA 3) (mUn cU (mC (.int 1))))))))
def hV:FM:=fnM 2 2 rF
def oX:MS:=(aK (aM 1 (aC fIx (aA 0) (mC (.int 0))))
 (aK (sIf (bK (aC fEq (mR dB (aB (aA 0) aD)) (mC (.int 1)))) (bP (mN cA (aB (mUn cU (aC fIx (aA 1) (mC (.int 1)))) (aB (aC fIx (aA 1) (mC (.int 0))) aD)))) dA)
 (aK (aM 2 (aC fIx (aA 0) (mC (.int 1))))
 (bP (mN cA (aB (aC dR (aC aZ (aC fIx (aA 1) (mC (.int 1))) (aC fIx (aA 2) (mC (.int 2)))) (aC aZ (aC fIx (aA 1) (mC (.int 2))) (aC fIx (aA 2) (mC (.int 1))))) (aB (aC dR (aC aZ (aC fIx (aA 1) (mC (.int 2))) (aC fIx (aA 2) (mC (.int 0)))) (aC aZ (aC fIx (aA 1) (mC (.int 0))) (aC fIx (aA 2) (mC (.int 2))))) (aB (aC dR (aC aZ (aC fIx (aA 1) (mC (.int 0))) (aC fIx (aA 2) (mC (.int 1)))) (aC aZ (aC fIx (aA 1) (mC (.int 1))) (aC fIx (aA 2) (mC (.int 0))))) aD))))))))
def jY:FM:=fnM 1 3 oX
def uC:MS:=(aK (aM 1 (mIf (bK (aC fEq (mR dB (aB (aA 0) aD)) (mC (.int 3)))) (mC (.tup [.tup [.int 0,.int 1],.tup [.int 1,.int 2],.tup [.int 2,.int 0]])) (mC (.tup [.tup [.int 1,.int 2,.int 3],.tup [.int 0,.int 3,.int 2],.tup [.int 0,.int 1,.int 3],.tup [.int 0,.int 2,.int 1]]))))
 (bP (bF ["wall"] [(0,"piece")] (mIt (aA 1)) (gN 0) (mR aN (aB (bF ["k"] [(1,"piece")] (mIt (aA 0)) (gN 0) (aC fIx (aA 1) (aA 0))) aD)))))
def lK:FM:=fnM 1 2 uC
def oB:MS:=(bP (aL iV [] (aB (aL jY [] (aB (bF ["p"] [(0,"wall")] (mIt (mSl (aA 0) (mO1 (mC (.int 1))) mO0)) (gN 0) (aL hV [] (aB (aC fIx (aA 1) (mC (.int 0))) (aB (aA 0) aD)))) aD)) aD)))
def iX:FM:=fnM 1 1 oB
def tZ:MS:=(aK (sIf (bK (aC fEq (mR dB (aB (aA 0) aD)) (mC (.int 2)))) (bP (mN cA (aB (aA 0) aD))) dA)
 (bP (bF ["k"] [(0,"wall")] (bJ (aB (mR dB (aB (aA 0) aD)) aD)) (gN 0) (mN dH (aB (aC fIx (aA 1) (aC dR (aA 0) (mC (.int 1)))) (aB (aC fIx (aA 1) (aA 0)) aD))))))
def lM:FM:=fnM 1 1 tZ
def rS:MS:=(aK (aM 3 (aL iX [] (aB (aA 1) aD)))
 (bU (mIt (aL lM [] (aB (aA 1) aD))) (gT 2 (bT (gN 4) (bT (gN 5) dD))) (aK (aM 6 (aL iV [] (aB (aL hV [] (aB (aA 4) (aB (aA 5) aD))) aD)))
 (bU (mIt (mN dH (aB (mN dH (aB (aA 4) (aB (aA 2) aD))) (aB (mN dH (aB (aA 5) (aB (mUn cU (aA 2)) aD))) aD)))) (gT 2 (bT (gN 7) (bT (gN 8) dD))) (aK (aM 9 (mN dH (aB (aA 3) (aB (aA 6) (aB (aA 7) aD)))))
 (qH (aA 0) (aA 9) (aC aI (qD (aA 0) (aB (aA 9) (aB (mC (.int 0)) aD))) (aA 8))))))))
def kW:FM:=fnM 3 10 rS
def vF:MS:=(aK (aM 2 (qL true))
 (aK (bU (mIt (mN dH (aB (mN dH (aB (aA 0) (aB (mC (.int 1)) aD))) (aB (mN dH (aB (aA 1) (aB (mUn cU (mC (.int 1))) aD))) aD)))) (gT 2 (bT (gN 3) (bT (gN 4) dD))) (bU (mIt (aA 3)) (gN 5) (bU (mIt (aL lK [] (aB (aA 5) aD))) (gN 6) (eB (aL kW [] (aB (aA 2) (aB (aA 6) (aB (aA 4) aD))))))))
 (bP (mUn mI (qF (aA 2))))))
def fI:FM:=fnM 2 7 vF
def uV:MS:=(aK (aM 1 (fN aD))
 (aK (bU (wA (aB (mSl (aA 0) mO0 (mO1 (mC (.int 63)))) aD)) (gT 2 (bT (gN 2) (bT (gN 3) dD))) (sIf (bK (aC fGe (aA 3) (aC gZ (mC (.int 10)) (mC (.int 18))))) (eB (eI (aA 1) (aB (aC dR (aA 3) (aC gZ (mC (.int 10)) (mC (.int 18)))) aD))) (aK (aM 4 (aC cE (aC aZ (aC aI (aC aI (aC aI (aA 3) (aC aZ (aC aZ (mC (.int 7)) (aA 2)) (aA 2))) (aC aZ (mC (.int 13)) (aA 2))) (mC (.int 5))) (mC (.int 48271))) (mC (.int 2147483647))))
 (aK (aM 5 (aC cE (aC aZ (aC aI (aC aI (aC aI (aA 3) (aC aZ (aC aZ (mC (.int 11)) (aA 2)) (aA 2))) (aC aZ (mC (.int 17)) (aA 2))) (mC (.int 3))) (mC (.int 40692))) (mC (.int 2147483399))))
 (aK (aM 6 (aC cE (aC aZ (aC aI (aC aI (aC aI (aA 3) (aC aZ (aC aZ (mC (.int 5)) (aA 2)) (aA 2))) (aC aZ (mC (.int 29)) (aA 2))) (mC (.int 8))) (mC (.int 39373))) (mC (.int 2147483587))))
 (aK (aM 4 (aC cE (aC aZ (aA 4) (mC (.int 52021))) (mC (.int 1000000007))))
 (aK (aM 5 (aC cE (aC aZ (aA 5) (mC (.int 30011))) (mC (.int 998244353))))
 (aK (aM 6 (aC cE (aC aZ (aA 6) (mC (.int 45989))) (mC (.int 1000000009))))
 (eB (eI (aA 1) (aB (aC aI (aC aZ (aC aI (aC aZ (aA 4) (mC (.int 998244353))) (aA 5)) (mC (.int 1000000009))) (aA 6)) aD)))))))))))
 (bP (aA 1))))
def kM:FM:=fnM 1 7 uV
def pH:MS:=(aK (kI (kS (bK (aC fGt (mR dB (aB (aA 0) aD)) (mC (.int 0)))) (bK (aC fEq (aC fIx (aA 0) (mC (.int 0))) (mC (.int 0))))) (eB (mF (aA 0) (aB (mC (.int 0)) aD))))
 (aK (sIf (bK (aC fEq (mR dB (aB (aA 0) aD)) (mC (.int 0)))) (bP (mC (.int 0))) dA)
 (aK (aM 2 (aC cE (aC fIx (aA 0) (mC (.int 0))) (aA 1)))
 (aK (gM (aA 0) (mC (.int 0)) (aC fB (aC fIx (aA 0) (mC (.int 0))) (aA 1)))
 (bP (aA 2))))))
def cV:FM:=fnM 2 3 pH
def uI:MS:=(aK (aM 0 (mR aQ (aB (aA 0) aD)))
 (aK (aM 1 (mR aQ (aB (aA 1) aD)))
 (aK (kI (bK (aC fGt (aA 1) (mC (.int 0)))) (qV 0 1 (aB (aA 1) (aB (aC cE (aA 0) (aA 1)) aD))))
 (bP (aA 0)))))
def lP:FM:=fnM 2 2 uI
def sB:MS:=(aK (aM 1 (mC (.int 0)))
 (aK (bU (mIt (aA 0)) (gN 2) (aM 1 (aL lP [] (aB (aA 1) (aB (aA 2) aD)))))
 (aK (sIf (bK (aC fEq (aA 1) (mC (.int 0)))) (bP (mR aN (aB (aA 0) aD))) dA)
 (bP (mR aN (aB (bF ["_law_number"] [(1,"_law_by")] (mIt (aA 0)) (gN 0) (aC fB (aA 0) (aA 1))) aD))))))
def jW:FM:=fnM 1 3 sB
def sJ:MS:=(aK (aM 3 (bF ["_law_k"] [(2,"_law_way"),(1,"_law_q"),(0,"_law_p")] (bJ (aB (aC dR (mR dB (aB (aA 0) aD)) (mC (.int 1))) aD)) (gN 0) (aC aI (aC aZ (aC aZ (aA 1) (aC fIx (aA 3) (aA 0))) (aC fIx (aA 2) (mUn cU (mC (.int 1))))) (aC aZ (aC fIx (aA 2) (aA 0)) (aC fIx (aA 3) (mUn cU (mC (.int 1))))))))
 (bP (aL jW [] (aB (aC aI (aA 3) (mN cA (aB (aC aZ (aC fIx (aA 0) (mUn cU (mC (.int 1)))) (aC fIx (aA 1) (mUn cU (mC (.int 1))))) aD))) aD))))
def jJ:FM:=fnM 3 4 sJ
def uW:MS:=(bP (bF ["_law_k"] [(1,"_law_q"),(0,"_law_p")] (bJ (aB (aC dR (mR dB (aB (aA 0) aD)) (mC (.int 1))) aD)) (gN 0) (aC dR (aC aZ (aC fIx (aA 1) (aA 0)) (aC fIx (aA 2) (mUn cU (mC (.int 1))))) (aC aZ (aC fIx (aA 2) (aA 0)) (aC fIx (aA 1) (mUn cU (mC (.int 1))))))))
def kJ:FM:=fnM 2 2 uW
def oW:MS:=(aK (aM 2 (aC dR (aC aZ (aC fIx (aA 0) (mC (.int 1))) (aC fIx (aA 1) (mC (.int 2)))) (aC aZ (aC fIx (aA 0) (mC (.int 2))) (aC fIx (aA 1) (mC (.int 1))))))
 (aK (aM 3 (aC dR (aC aZ (aC fIx (aA 0) (mC (.int 2))) (aC fIx (aA 1) (mC (.int 0)))) (aC aZ (aC fIx (aA 0) (mC (.int 0))) (aC fIx (aA 1) (mC (.int 2))))))
 (aK (aM 4 (aC dR (aC aZ (aC fIx (aA 0) (mC (.int 0))) (aC fIx (aA 1) (mC (.int 1)))) (aC aZ (aC fIx (aA 0) (mC (.int 1))) (aC fIx (aA 1) (mC (.int 0))))))
 (bP (mN cA (aB (aA 2) (aB (aA 3) (aB (aA 4) aD))))))))
def jX:FM:=fnM 2 5 oW
def uK:MS:=(bP (mR iH (aB (bF ["_law_one","_law_other"] [] (nX (aB (aA 0) (aB (aA 1) aD))) (gT 2 (bT (gN 0) (bT (gN 1) dD))) (aC aZ (aA 0) (aA 1))) aD)))
def nJ:FM:=fnM 2 2 uK
def lJ:MS:=(aK (sIf (bK (aC fEq (mR dB (aB (aA 0) aD)) (mC (.int 2)))) (bP (aC dR (aC aZ (aC fIx (aC fIx (aA 0) (mC (.int 0))) (mC (.int 0))) (aC fIx (aC fIx (aA 0) (mC (.int 1))) (mC (.int 1)))) (aC aZ (aC fIx (aC fIx (aA 0) (mC (.int 0))) (mC (.int 1))) (aC fIx (aC fIx (aA 0) (mC (.int 1))) (mC (.int 0)))))) dA)
 (bP (aL nJ [] (aB (aL jX [] (aB (aC fIx (aA 0) (mC (.int 0))) (aB (aC fIx (aA 0) (mC (.int 1))) aD))) (aB (aC fIx (aA 0) (mC (.int 2))) aD)))))
def eX:FM:=fnM 1 1 lJ
def pM:MS:=(bP (aL eX [] (aB (bF ["_law_p"] [(0,"_law_points")] (mIt (mSl (aA 0) (mO1 (mC (.int 1))) mO0)) (gN 0) (aL kJ [] (aB (aC fIx (aA 1) (mC (.int 0))) (aB (aA 0) aD)))) aD)))
def jP:FM:=fnM 1 1 pM
def oF:MS:=(aK (aM 1 (mR pE (aB (aA 0) aD)))
 (aK (sIf (bK (aC fLt (aL jP [] (aB (aA 1) aD)) (mC (.int 0)))) (aM 1 (aC aI (mSl (aA 1) mO0 (mO1 (mUn cU (mC (.int 2))))) (mN cA (aB (aC fIx (aA 1) (mUn cU (mC (.int 1)))) (aB (aC fIx (aA 1) (mUn cU (mC (.int 2)))) aD))))) dA)
 (bP (mR aN (aB (aA 1) aD)))))
def dZ:FM:=fnM 1 2 oF
def uO:MS:=(aK (aM 2 (aL cV [] (aB (aA 0) (aB (mC (.int 4)) aD))))
 (aK (aM 3 (aC fIx (mN cA (aB (mC (.int 0)) (aB (mC (.int 3)) (aB (mC (.int 9)) (aB (aC gZ (mC (.int 10)) (mC (.int 12))) aD))))) (aA 2)))
 (aK (aM 4 (aC aI (mC (.int 1)) (aC aZ (aL cV [] (aB (aA 0) (aB (mC (.int 9)) aD))) (aC fB (aA 2) (mC (.int 2))))))
 (aK (aM 5 (bF ["_law_k"] [(3,"_law_wide"),(0,"_law_row_here")] (bJ (aB (aA 1) aD)) (gN 0) (aC dR (aL cV [] (aB (aA 2) (aB (aC aI (aC aZ (mC (.int 2)) (aA 1)) (mC (.int 1))) aD))) (aA 1))))
 (bP (aL jW [] (aB (aC aI (aA 5) (mN cA (aB (aA 4) aD))) aD)))))))
def eG:FM:=fnM 2 6 uO
def oI:MS:=(aK (sIf (bK (aC fEq (aL cV [] (aB (aA 0) (aB (mC (.int 2)) aD))) (mC (.int 1)))) (bP (mR aN (aB (aA 1) aD))) dA)
 (bP (mR aO (aB (aA 1) aD))))
def iY:FM:=fnM 2 2 oI
def pL:MS:=(aK (aM 3 (aA 0))
 (aK (bU (bJ (aB (mR dB (aB (aA 1) aD)) aD)) (gN 4) (sIf (bK (aC fEq (aC fIx (aA 2) (aA 4)) (mC (.int 1)))) (aM 3 (aL jJ [] (aB (aA 3) (aB (aC fIx (aA 1) (aA 4)) (aB (mC (.int 1)) aD))))) dA))
 (bP (aA 3))))
def cR:FM:=fnM 3 5 pL
def rG:MS:=(aK (aM 2 (aL cR [] (aB (aA 0) (aB (aA 1) (aB (mN cA (aB (mC (.int 1)) (aB (mC (.int 0)) aD))) aD)))))
 (aK (aM 3 (aL cR [] (aB (aA 0) (aB (aA 1) (aB (mN cA (aB (mC (.int 0)) (aB (mC (.int 1)) aD))) aD)))))
 (aK (aM 4 (aL cR [] (aB (aA 0) (aB (aA 1) (aB (mN cA (aB (mC (.int 1)) (aB (mC (.int 1)) aD))) aD)))))
 (bP (mN dH (aB (mN cA (aB (aL dZ [] (aB (mN cA (aB (aA 0) (aB (aA 2) (aB (aA 4) aD)))) aD)) (aB (aL dZ [] (aB (mN cA (aB (aA 0) (aB (aA 3) (aB (aA 4) aD)))) aD)) aD))) (aB (mN cA (aB (aL dZ [] (aB (mN cA (aB (aA 0) (aB (aA 2) (aB (aA 3) aD)))) aD)) (aB (aL dZ [] (aB (mN cA (aB (aA 2) (aB (aA 3) (aB (aA 4) aD)))) aD)) aD))) aD)))))))
def iU:FM:=fnM 2 5 rG
def uJ:MS:=(aK (aM 2 (fN aD))
 (aK (bU (bJ (aB (mC (.int 3)) aD)) (gN 3) (bU (bJ (aB (mC (.int 3)) aD)) (gN 4) (sIf (bK (aC fNe (aA 3) (aA 4))) (aK (aM 5 (bF ["_law_k"] [(3,"_law_i")] (bJ (aB (mC (.int 3)) aD)) (gN 0) (mR eE (aB (aC fEq (aA 0) (aA 1)) aD))))
 (aK (aM 6 (bF ["_law_k"] [(3,"_law_i"),(4,"_law_j")] (bJ (aB (mC (.int 3)) aD)) (gN 0) (mR eE (aB (nV (aC fEq (aA 0) (aA 1)) (aC fEq (aA 0) (aA 2))) aD))))
 (aK (aM 7 (mN cA (aB (aA 0) (aB (aL cR [] (aB (aA 0) (aB (aA 1) (aB (aA 5) aD)))) (aB (aL cR [] (aB (aA 0) (aB (aA 1) (aB (aA 6) aD)))) aD)))))
 (eB (eI (aA 2) (aB (aL dZ [] (aB (aC aI (aA 7) (mN cA (aB (aL cR [] (aB (aA 0) (aB (aA 1) (aB (mN cA (aB (mC (.int 1)) (aB (mC (.int 1)) (aB (mC (.int 1)) aD)))) aD)))) aD))) aD)) aD)))))) dA)))
 (bP (aA 2))))
def jD:FM:=fnM 2 8 uJ
def tX:MS:=(aK (aM 3 (fN aD))
 (aK (bU (bJ (aB (mC (.int 8)) aD)) (gN 4) (eB (eI (aA 3) (aB (mN cA (aB (aC cE (aA 4) (mC (.int 2))) (aB (aC cE (aC fB (aA 4) (mC (.int 2))) (mC (.int 2))) (aB (aC fB (aA 4) (mC (.int 4))) aD)))) aD))))
 (aK (aM 5 (fN (aB (aL dZ [] (aB (lO ["_law_at"] [(0,"_law_o"),(1,"_law_ways"),(2,"_law_odd")] (mIt (aA 3)) (gN 0) (bK (aC fEq (aC cE (mR iH (aB (aA 0) aD)) (mC (.int 2))) (aA 3))) (aL cR [] (aB (aA 1) (aB (aA 2) (aB (aA 0) aD))))) aD)) aD)))
 (aK (bU (mIt (aA 3)) (gN 6) (sIf (bK (aC fNe (aC cE (mR iH (aB (aA 6) aD)) (mC (.int 2))) (aA 2))) (aK (aM 7 (fN (aB (aL cR [] (aB (aA 0) (aB (aA 1) (aB (aA 6) aD)))) aD)))
 (aK (bU (bJ (aB (mC (.int 3)) aD)) (gN 4) (aK (aM 8 (nS (aB (aA 6) aD)))
 (aK (gM (aA 8) (aA 4) (aC dR (mC (.int 1)) (aC fIx (aA 8) (aA 4))))
 (eB (eI (aA 7) (aB (aL cR [] (aB (aA 0) (aB (aA 1) (aB (aA 8) aD)))) aD))))))
 (eB (eI (aA 5) (aB (aL dZ [] (aB (aA 7) aD)) aD))))) dA))
 (bP (aA 5))))))
def jC:FM:=fnM 3 9 tX
def vO:MS:=(aK (aM 1 (nE kM [] (aB (aA 0) aD)))
 (aK (aM 2 (aC aI (mC (.int 2)) (aL cV [] (aB (aA 1) (aB (mC (.int 2)) aD)))))
 (aK (aM 3 (aL eG [] (aB (aA 1) (aB (aA 2) aD))))
 (aK (aM 4 (bF ["_law_k"] [(1,"_law_row_here"),(2,"_law_dims")] (bJ (aB (aA 2) aD)) (gN 0) (aL eG [] (aB (aA 1) (aB (aA 2) aD)))))
 (aK (sIf (bK (aC fEq (aL eX [] (aB (aA 4) aD)) (mC (.int 0)))) (aM 4 (bF ["_law_k"] [(2,"_law_dims")] (bJ (aB (aA 2) aD)) (gN 0) (mR aN (aB (aC aI (bF ["_law_m"] [(0,"_law_k")] (bJ (aB (aA 1) aD)) (gN 0) (mR eE (aB (aC fEq (aA 0) (aA 1)) aD))) (mN cA (aB (aC aI (mC (.int 1)) (aA 0)) aD))) aD)))) dA)
 (aK (sIf (bK (aC fEq (aA 2) (mC (.int 2)))) (kR (gT 2 (bT (gN 5) (bT (gN 6) dD))) (aL iU [] (aB (aA 3) (aB (aA 4) aD)))) (aK (aM 5 (aL jD [] (aB (aA 3) (aB (aA 4) aD))))
 (aM 6 (aL jC [] (aB (aA 3) (aB (aA 4) (aB (aL cV [] (aB (aA 1) (aB (mC (.int 2)) aD))) aD)))))))
 (aK (aM 7 (aC aI (mC (.int 1)) (aL cV [] (aB (aA 1) (aB (mC (.int 3)) aD)))))
 (aK (aM 8 (aC mH (aA 5) (aA 7)))
 (aK (aM 9 (pX (aA 6) (aA 7)))
 (aK (sIf (mOr (bK (aC (fIs true) (gK fI (aB (aL iY [] (aB (aA 1) (aB (aA 8) aD))) (aB (aA 9) aD))) (mC (.bl true)))) (bK (aC (fIs true) (gK fI (aB (aA 9) (aB (aL iY [] (aB (aA 1) (aB (aA 8) aD))) aD))) (mC (.bl true))))) (bP (mC (.bl false))) dA)
 (aK (sIf (mOr (bK (aC (fIs true) (gK fI (aB (mN dH aD) (aB (aA 9) aD))) (mC (.bl false)))) (bK (aC (fIs true) (gK fI (aB (mN dH aD) (aB (mN dH aD) aD))) (mC (.bl true))))) (bP (mC (.bl false))) dA)
 (aK (aM 10 (aL cV [] (aB (aA 1) (aB (mR dB (aB (aA 9) aD)) aD))))
 (aK (gM (aA 9) (aA 10) (aC fIx (aA 5) (aL cV [] (aB (aA 1) (aB (mR dB (aB (aA 5) aD)) aD)))))
 (bP (aC (fIs false) (gK fI (aB (aA 8) (aB (aA 9) aD))) (mC (.bl false)))))))))))))))))
def vR:FM:=fnM 1 11 vO
theorem scM {N ps:List Str} {sc:Scope} (a:sc.kind=.function:=by rfl) (b:sc.isCoroutine=false:=by rfl) (c:sc.isGenerator=false:=by rfl) (d:N.Nodup:=by decide +kernel) (e:N.take ps.length=ps:=by rfl) (f:∀ x∈ps,sc.names.lookup x=some .local∨sc.names.lookup x=some .cell:=by decide +kernel) (g:∀ y∈sc.names,y.2≠.free:=by decide +kernel):cJ N ps sc:=⟨a,b,c,d,e,f,g⟩
theorem bd1 {K:PySem.W.Frag} {x:Str} {st:Stmt} {f:Addr} {fd:FuncData} {p0:Str} (F:Fun K x x st f fd) (h:∀ (kV doc pm:Value) (an:Option Addr) (cdv ct u0:Value),bindArgs (PySem.W.fnOf x x (iC st) (fZ st) (bE st) .none kV doc pm an cdv ct) ⟨[u0],[]⟩=pure ([p0].zip [u0])):gX K fd [p0] []:=F.binds fun _ _ _ _ _ _ us hl=>match us,hl with | [_],_=>h _ _ _ _ _ _ _
theorem bd2 {K:PySem.W.Frag} {x:Str} {st:Stmt} {f:Addr} {fd:FuncData} {p0 p1:Str} (F:Fun K x x st f fd) (h:∀ (kV doc pm:Value) (an:Option Addr) (cdv ct u0 u1:Value),bindArgs (PySem.W.fnOf x x (iC st) (fZ st) (bE st) .none kV doc pm an cdv ct) ⟨[u0,u1],[]⟩=pure ([p0,p1].zip [u0,u1])):gX K fd [p0,p1] []:=F.binds fun _ _ _ _ _ _ us hl=>match us,hl with | [_,_],_=>h _ _ _ _ _ _ _ _
theorem bd3 {K:PySem.W.Frag} {x:Str} {st:Stmt} {f:Addr} {fd:FuncData} {p0 p1 p2:Str} (F:Fun K x x st f fd) (h:∀ (kV doc pm:Value) (an:Option Addr) (cdv ct u0 u1 u2:Value),bindArgs (PySem.W.fnOf x x (iC st) (fZ st) (bE st) .none kV doc pm an cdv ct) ⟨[u0,u1,u2],[]⟩=pure ([p0,p1,p2].zip [u0,u1,u2])):gX K fd [p0,p1,p2] []:=F.binds fun _ _ _ _ _ _ us hl=>match us,hl with | [_,_,_],_=>h _ _ _ _ _ _ _ _ _
section
variable {P:Program} {w:World} {K:PySem.W.Frag} {mg:Str→Option Value} {base:Heap} {cl:Str→Addr}
theorem abU:cJ ["number"] ["number"] (bE vG):=scM
theorem ae0 {f:Addr} {fd:FuncData} (F:Fun K "sign" "sign" vG f fd)
  : bS P w K mg base CX0 1 f fd ["number"] (cF K cl lS):=by
 have nd:=abU.nd
 refine okP (np:=1) (n:=1) F abU (by decide) (by decide) (b:=uH) (k:=0) fun cdv A outer s H E hr=>?_
 exact (bA (eR (dE vQ wG (aE 0) aG (cO _)) (bG (cB aG)) fF)
   (bA (eR (dE afB ahN (aE 0) aG (cO _)) (bG (cB (eT eS eV aG))) fF)
   (bG (cB aG))))
theorem yB:cJ ["one","other","rest"] ["one","other"] (bE sF):=scM
theorem aa4 {f:Addr} {fd:FuncData} (F:Fun K "divisor" "divisor" sF f fd)
  (m_abs:mg "abs"=none)
  : bS P w K mg base CX0 1 f fd ["one","other"] (cF K cl kX):=by
 have nd:=yB.nd
 refine okP (np:=2) (n:=3) F yB (by decide) (by decide) (b:=rV) (k:=0) fun cdv A outer s H E hr=>?_
 exact (bA (sG PassesOwn.never (dE (pQ (hu8 hr)) qM (aE 1) aG (cO _)) (bA (bO (i:=2) nd rfl (Or.inl rfl) (aP gA gB (aE 0) (aE 1)))
   (bA (bO (i:=0) nd rfl (Or.inl rfl) (aE 1))
   (bG (bO (i:=1) nd rfl (Or.inl rfl) (aE 2))))))
   (bG (cB (eK tE vN rfl m_abs uY (aF (aE 0) aH)))))
theorem xG:cJ ["numbers","common","number"] ["numbers"] (bE oM):=scM
theorem aaX {f:Addr} {fd:FuncData} (F:Fun K "reduced" "reduced" oM f fd)
  (C_divisor:Cal P w K mg base cl "divisor" 1 ["one","other"] kX)
  : bS P w K mg base CX0 2 f fd ["numbers"] (cF K cl mP):=by
 have nd:=xG.nd
 refine okP (np:=1) (n:=3) F xG (by decide) (by decide) (b:=sH) (k:=1) fun cdv A outer s H E hr=>?_
 exact (bA (bO (i:=1) nd rfl (Or.inr rfl) aG)
   (bA (fS PassesOwn.never rfl (eP (aE 0)) (bX (i:=2) nd rfl (Or.inl rfl)) (bG (bO (i:=1) nd rfl (Or.inr rfl) (bM C_divisor hr (by decide) rfl (aF (aE 1) (aF (aE 2) aH))))))
   (bG (cB (gI (own:=["number"]) (cap:=[(1,"common")]) (eQ (bE oM) ["numbers","common","number"] rfl rfl rfl (by decide +kernel) (by decide +kernel) (by decide +kernel) (by decide +kernel) (by decide +kernel)) (eP (aE 0)) rfl (fun _ _ _ _=>(bX (i:=0) (show (bB ["number"] [(1,"common")]).Nodup by decide +kernel) rfl (Or.inl rfl) (Or.inr rfl))) (fun _ _ _ _=>(aP lC lQ (aE 0) (aE 1))))))))
theorem wU:cJ ["numbers","first"] ["numbers"] (bE mK):=scM
theorem aah {f:Addr} {fd:FuncData} (F:Fun K "lowest_way" "lowest_way" mK f fd)
  (C_reduced:Cal P w K mg base cl "reduced" 2 ["numbers"] mP)
  (C_sign:Cal P w K mg base cl "sign" 1 ["number"] lS)
  (m_tuple:mg "tuple"=none)
  : bS P w K mg base CX0 3 f fd ["numbers"] (cF K cl iV):=by
 have nd:=wU.nd
 refine okP (np:=1) (n:=2) F wU (by decide) (by decide) (b:=rJ) (k:=2) fun cdv A outer s H E hr=>?_
 exact (bA (bO (i:=1) nd rfl (Or.inr rfl) (bD (aaN (own:=["number"]) (cap:=[]) (eQ (bE mK) ["numbers","first"] rfl rfl rfl (by decide +kernel) (by decide +kernel) (by decide +kernel) (by decide +kernel) (by decide +kernel)) (eP (aE 0)) rfl (fun _ _ _ _=>(bX (i:=0) (show (bB ["number"] []).Nodup by decide +kernel) rfl (Or.inl rfl) (Or.inr rfl))) (fun _ _ _ _=>(dE (pQ (hu8 hr)) qM (aE 0) aG (cO _))) (fun _ _ _ _=>(aE 0))) aG))
   (bG (cB (iA jV kC rfl m_tuple jZ (aF (gI (own:=["number"]) (cap:=[(1,"first")]) (eQ (bE mK) ["numbers","first"] rfl rfl rfl (by decide +kernel) (by decide +kernel) (by decide +kernel) (by decide +kernel) (by decide +kernel)) (eP (bM C_reduced hr (by decide) rfl (aF (aE 0) aH))) rfl (fun _ _ _ _=>(bX (i:=0) (show (bB ["number"] [(1,"first")]).Nodup by decide +kernel) rfl (Or.inl rfl) (Or.inr rfl))) (fun _ _ _ _=>(aP bV bW (bM C_sign hr (by decide) rfl (aF (aE 1) aH)) (aE 0)))) aH)))))
theorem wS:cJ ["start","end"] ["start","end"] (bE oA):=scM
theorem aad {f:Addr} {fd:FuncData} (F:Fun K "whole_arrow" "whole_arrow" oA f fd)
  (m_zip:mg "zip"=none)
  : bS P w K mg base CX0 1 f fd ["start","end"] (cF K cl hV):=by
 have nd:=wS.nd
 refine okP (np:=2) (n:=2) F wS (by decide) (by decide) (b:=rF) (k:=0) fun cdv A outer s H E hr=>?_
 exact (bG (cB (gI (own:=["near","far"]) (cap:=[(0,"start"),(1,"end")]) (eQ (bE oA) ["start","end"] rfl rfl rfl (by decide +kernel) (by decide +kernel) (by decide +kernel) (by decide +kernel) (by decide +kernel)) (abx rfl m_zip (aF (mD (aE 0) lE (lF (eT eS eV aG))) (aF (mD (aE 1) lE (lF (eT eS eV aG))) aH))) rfl (fun _ _ _ _=>(kD rfl (fR (bX (i:=0) (show (bB ["near","far"] [(0,"start"),(1,"end")]).Nodup by decide +kernel) rfl (Or.inl rfl) (Or.inr rfl)) (fR (bX (i:=1) (show (bB ["near","far"] [(0,"start"),(1,"end")]).Nodup by decide +kernel) rfl (Or.inl rfl) (Or.inr rfl)) kB)))) (fun _ _ _ _=>(aP fG fM (aP bV bW (aE 1) (bD (aE 2) (eT eS eV aG))) (aP bV bW (aE 0) (bD (aE 3) (eT eS eV aG))))))))
theorem yG:cJ ["arrows","u","v"] ["arrows"] (bE sW):=scM
theorem abT {f:Addr} {fd:FuncData} (F:Fun K "normal" "normal" sW f fd)
  (m_len:mg "len"=none)
  : bS P w K mg base CX0 1 f fd ["arrows"] (cF K cl jY):=by
 have nd:=yG.nd
 refine okP (np:=1) (n:=3) F yG (by decide) (by decide) (b:=oX) (k:=0) fun cdv A outer s H E hr=>?_
 exact (bA (bO (i:=1) nd rfl (Or.inl rfl) (bD (aE 0) aG))
   (bA (eR (dE (fA (hu8 hr)) fE (eK gG gS rfl m_len gJ (aF (aE 0) aH)) aG (cO _)) (bG (cB (dS (aF (eT eS eV (bD (aE 1) aG)) (aF (bD (aE 1) aG) aH))))) fF)
   (bA (bO (i:=2) nd rfl (Or.inl rfl) (bD (aE 0) aG))
   (bG (cB (dS (aF (aP fG fM (aP bV bW (bD (aE 1) aG) (bD (aE 2) aG)) (aP bV bW (bD (aE 1) aG) (bD (aE 2) aG))) (aF (aP fG fM (aP bV bW (bD (aE 1) aG) (bD (aE 2) aG)) (aP bV bW (bD (aE 1) aG) (bD (aE 2) aG))) (aF (aP fG fM (aP bV bW (bD (aE 1) aG) (bD (aE 2) aG)) (aP bV bW (bD (aE 1) aG) (bD (aE 2) aG))) aH)))))))))
theorem aaQ:cJ ["piece","order"] ["piece"] (bE mU):=scM
theorem acS {f:Addr} {fd:FuncData} (F:Fun K "walls" "walls" mU f fd)
  (m_len:mg "len"=none)
  (m_tuple:mg "tuple"=none)
  (gt_FLAT_WALLS:GlT K mg "FLAT_WALLS" (.tup [.tup [.int 0,.int 1],.tup [.int 1,.int 2],.tup [.int 2,.int 0]]))
  (gt_SPACE_WALLS:GlT K mg "SPACE_WALLS" (.tup [.tup [.int 1,.int 2,.int 3],.tup [.int 0,.int 3,.int 2],.tup [.int 0,.int 1,.int 3],.tup [.int 0,.int 2,.int 1]]))
  : bS P w K mg base CX0 1 f fd ["piece"] (cF K cl lK):=by
 have nd:=aaQ.nd
 refine okP (np:=1) (n:=2) F aaQ (by decide) (by decide) (b:=uC) (k:=0) fun cdv A outer s H E hr=>?_
 exact (bA (bO (i:=1) nd rfl (Or.inl rfl) (ahs (dE (fA (hu8 hr)) fE (eK gG gS rfl m_len gJ (aF (aE 0) aH)) aG (cO _)) (abP rfl gt_FLAT_WALLS) (abP rfl gt_SPACE_WALLS)))
   (bG (cB (gI (own:=["wall"]) (cap:=[(0,"piece")]) (eQ (bE mU) ["piece","order"] rfl rfl rfl (by decide +kernel) (by decide +kernel) (by decide +kernel) (by decide +kernel) (by decide +kernel)) (eP (aE 1)) rfl (fun _ _ _ _=>(bX (i:=0) (show (bB ["wall"] [(0,"piece")]).Nodup by decide +kernel) rfl (Or.inl rfl) (Or.inr rfl))) (fun _ _ _ _=>(iA jV kC rfl m_tuple jZ (aF (gI (own:=["k"]) (cap:=[(1,"piece")]) (ad4 (bE mU) rfl rfl rfl (by decide +kernel) (by decide +kernel) (by decide +kernel) (by decide +kernel) (by decide +kernel)) (eP (aE 0)) rfl (fun _ _ _ _=>(bX (i:=0) (show (bB ["k"] [(1,"piece")]).Nodup by decide +kernel) rfl (Or.inl rfl) (Or.inr rfl))) (fun _ _ _ _=>(bD (aE 1) (aE 0)))) aH)))))))
theorem xA:cJ ["wall"] ["wall"] (bE oC):=scM
theorem aal {f:Addr} {fd:FuncData} (F:Fun K "plane_way" "plane_way" oC f fd)
  (C_lowest_way:Cal P w K mg base cl "lowest_way" 3 ["numbers"] iV)
  (C_normal:Cal P w K mg base cl "normal" 1 ["arrows"] jY)
  (C_whole_arrow:Cal P w K mg base cl "whole_arrow" 1 ["start","end"] hV)
  : bS P w K mg base CX0 4 f fd ["wall"] (cF K cl iX):=by
 have nd:=xA.nd
 refine okP (np:=1) (n:=1) F xA (by decide) (by decide) (b:=oB) (k:=3) fun cdv A outer s H E hr=>?_
 exact (bG (cB (bM C_lowest_way hr (by decide) rfl (aF (bM C_normal hr (by decide) rfl (aF (gI (own:=["p"]) (cap:=[(0,"wall")]) (eQ (bE oC) ["wall"] rfl rfl rfl (by decide +kernel) (by decide +kernel) (by decide +kernel) (by decide +kernel) (by decide +kernel)) (eP (mD (aE 0) (lF aG) lE)) rfl (fun _ _ _ _=>(bX (i:=0) (show (bB ["p"] [(0,"wall")]).Nodup by decide +kernel) rfl (Or.inl rfl) (Or.inr rfl))) (fun _ _ _ _=>(bM C_whole_arrow hr (by decide) rfl (aF (bD (aE 1) aG) (aF (aE 0) aH))))) aH)) aH))))
theorem aaA:cJ ["wall"] ["wall"] (bE pD):=scM
theorem adc {f:Addr} {fd:FuncData} (F:Fun K "sides" "sides" pD f fd)
  (m_len:mg "len"=none)
  (m_range:mg "range"=none)
  : bS P w K mg base CX0 1 f fd ["wall"] (cF K cl lM):=by
 have nd:=aaA.nd
 refine okP (np:=1) (n:=1) F aaA (by decide) (by decide) (b:=tZ) (k:=0) fun cdv A outer s H E hr=>?_
 exact (bA (eR (dE (fA (hu8 hr)) fE (eK gG gS rfl m_len gJ (aF (aE 0) aH)) aG (cO _)) (bG (cB (dS (aF (aE 0) aH)))) fF)
   (bG (cB (gI (own:=["k"]) (cap:=[(0,"wall")]) (eQ (bE pD) ["wall"] rfl rfl rfl (by decide +kernel) (by decide +kernel) (by decide +kernel) (by decide +kernel) (by decide +kernel)) (fP rfl m_range (aF (eK gG gS rfl m_len gJ (aF (aE 0) aH)) aH)) rfl (fun _ _ _ _=>(bX (i:=0) (show (bB ["k"] [(0,"wall")]).Nodup by decide +kernel) rfl (Or.inl rfl) (Or.inr rfl))) (fun _ _ _ _=>(gR (aF (bD (aE 1) (aP fG fM (aE 0) aG)) (aF (bD (aE 1) (aE 0)) aH))))))))
theorem xE:cJ ["marks","wall","number","plane","start","end","line","p","mark","key"] ["marks","wall","number"] (bE rM):=scM
theorem aaq {f:Addr} {fd:FuncData} (F:Fun K "put_wall" "put_wall" rM f fd)
  (C_plane_way:Cal P w K mg base cl "plane_way" 4 ["wall"] iX)
  (C_sides:Cal P w K mg base cl "sides" 1 ["wall"] lM)
  (C_lowest_way:Cal P w K mg base cl "lowest_way" 3 ["numbers"] iV)
  (C_whole_arrow:Cal P w K mg base cl "whole_arrow" 1 ["start","end"] hV)
  : bS P w K mg base CX0 5 f fd ["marks","wall","number"] (cF K cl kW):=by
 have nd:=xE.nd
 refine okP (np:=3) (n:=10) F xE (by decide) (by decide) (b:=rS) (k:=4) fun cdv A outer s H E hr=>?_
 exact (bA (bO (i:=3) nd rfl (Or.inl rfl) (bM C_plane_way hr (by decide) rfl (aF (aE 1) aH)))
   (bG (fS PassesOwn.never rfl (eP (bM C_sides hr (by decide) rfl (aF (aE 1) aH))) (kD rfl (fR (bX (i:=4) nd rfl (Or.inl rfl)) (fR (bX (i:=5) nd rfl (Or.inl rfl)) kB))) (bA (bO (i:=6) nd rfl (Or.inl rfl) (bM C_lowest_way hr (by decide) rfl (aF (bM C_whole_arrow hr (by decide) rfl (aF (aE 4) (aF (aE 5) aH))) aH)))
   (bG (fS PassesOwn.never rfl (eP (gR (aF (gR (aF (aE 4) (aF (aE 2) aH))) (aF (gR (aF (aE 5) (aF (eT eS eV (aE 2)) aH))) aH)))) (kD rfl (fR (bX (i:=7) nd rfl (Or.inl rfl)) (fR (bX (i:=8) nd rfl (Or.inl rfl)) kB))) (bA (bO (i:=9) nd rfl (Or.inl rfl) (gR (aF (aE 3) (aF (aE 6) (aF (aE 7) aH)))))
   (bG (aeG (hu8 hr) (aP dN dP (aeU (hu8 hr) (aE 0) (aF (aE 9) (aF aG aH))) (aE 8)) (aE 0) (aE 9))))))))))
theorem abz:cJ ["one","other","marks","heap","number","piece","wall"] ["one","other"] (bE uP):=scM
theorem ad2 {f:Addr} {fd:FuncData} (F:Fun K "same" "same" uP f fd)
  (C_walls:Cal P w K mg base cl "walls" 1 ["piece"] lK)
  (C_put_wall:Cal P w K mg base cl "put_wall" 5 ["marks","wall","number"] kW)
  (m_any:mg "any"=none)
  : bS P w K mg base CX0 6 f fd ["one","other"] (cF K cl fI):=by
 have nd:=abz.nd
 refine okP (np:=2) (n:=7) F abz (by decide) (by decide) (b:=vF) (k:=5) fun cdv A outer s H E hr=>?_
 exact (bA (bO (i:=2) nd rfl (Or.inl rfl) (aeH true))
   (bA (fS PassesOwn.never rfl (eP (gR (aF (gR (aF (aE 0) (aF aG aH))) (aF (gR (aF (aE 1) (aF (eT eS eV aG) aH))) aH)))) (kD rfl (fR (bX (i:=3) nd rfl (Or.inl rfl)) (fR (bX (i:=4) nd rfl (Or.inl rfl)) kB))) (bG (fS PassesOwn.never rfl (eP (aE 3)) (bX (i:=5) nd rfl (Or.inl rfl)) (bG (fS PassesOwn.never rfl (eP (bM C_walls hr (by decide) rfl (aF (aE 5) aH))) (bX (i:=6) nd rfl (Or.inl rfl)) (bG (jK (bM C_put_wall hr (by decide) rfl (aF (aE 2) (aF (aE 6) (aF (aE 4) aH)))))))))))
   (bG (cB (agy (aeq rfl rfl m_any agp (aE 2)))))))
theorem abw:cJ ["_law_script","_law_row_here","_law_k","_law_cell","_law_one","_law_two","_law_three"] ["_law_script"] (bE vA):=scM
theorem aeA {f:Addr} {fd:FuncData} (F:Fun K "_law_row" "_law_row" vA f fd)
  (m_enumerate:mg "enumerate"=none)
  : bS P w K mg base CX0 1 f fd ["_law_script"] (cF K cl kM):=by
 have nd:=abw.nd
 refine okP (np:=1) (n:=7) F abw (by decide) (by decide) (b:=uV) (k:=0) fun cdv A outer s H E hr=>?_
 exact (bA (bO (i:=1) nd rfl (Or.inl rfl) (mV aH))
   (bA (fS PassesOwn.never rfl (acZ rfl m_enumerate (aF (mD (aE 0) lE (lF aG)) aH)) (kD rfl (fR (bX (i:=2) nd rfl (Or.inl rfl)) (fR (bX (i:=3) nd rfl (Or.inl rfl)) kB))) (bG (eR (dE ag5 ahW (aE 3) (aP uU vK aG aG) (cO _)) (bG (jK (kZ (aE 1) (aF (aP fG fM (aE 3) (aP uU vK aG aG)) aH)))) (bA (bO (i:=4) nd rfl (Or.inl rfl) (aP gA gB (aP bV bW (aP dN dP (aP dN dP (aP dN dP (aE 3) (aP bV bW (aP bV bW aG (aE 2)) (aE 2))) (aP bV bW aG (aE 2))) aG) aG) aG))
   (bA (bO (i:=5) nd rfl (Or.inl rfl) (aP gA gB (aP bV bW (aP dN dP (aP dN dP (aP dN dP (aE 3) (aP bV bW (aP bV bW aG (aE 2)) (aE 2))) (aP bV bW aG (aE 2))) aG) aG) aG))
   (bA (bO (i:=6) nd rfl (Or.inl rfl) (aP gA gB (aP bV bW (aP dN dP (aP dN dP (aP dN dP (aE 3) (aP bV bW (aP bV bW aG (aE 2)) (aE 2))) (aP bV bW aG (aE 2))) aG) aG) aG))
   (bA (bO (i:=4) nd rfl (Or.inl rfl) (aP gA gB (aP bV bW (aE 4) aG) aG))
   (bA (bO (i:=5) nd rfl (Or.inl rfl) (aP gA gB (aP bV bW (aE 5) aG) aG))
   (bA (bO (i:=6) nd rfl (Or.inl rfl) (aP gA gB (aP bV bW (aE 6) aG) aG))
   (bG (jK (kZ (aE 1) (aF (aP dN dP (aP bV bW (aP dN dP (aP bV bW (aE 4) aG) (aE 5)) aG) (aE 6)) aH)))))))))))))
   (bG (cB (aE 1)))))
theorem aaF:cJ ["_law_row_here","_law_many","_law_found"] ["_law_row_here","_law_many"] (bE tQ):=scM
theorem ac1 {f:Addr} {fd:FuncData} (F:Fun K "_law_take" "_law_take" tQ f fd)
  (m_len:mg "len"=none)
  : bS P w K mg base CX0 1 f fd ["_law_row_here","_law_many"] (cF K cl cV):=by
 have nd:=aaF.nd
 refine okP (np:=2) (n:=3) F aaF (by decide) (by decide) (b:=pH) (k:=0) fun cdv A outer s H E hr=>?_
 exact (bA (sG PassesOwn.never (PWp.pt (aep (dE vQ wG (eK gG gS rfl m_len gJ (aF (aE 0) aH)) aG (cO _)) (adl (dE (fA (hu8 hr)) fE (bD (aE 0) aG) aG (cO _))))) (bG (jK (agh (aE 0) (aF aG aH)))))
   (bA (eR (dE (fA (hu8 hr)) fE (eK gG gS rfl m_len gJ (aF (aE 0) aH)) aG (cO _)) (bG (cB aG)) fF)
   (bA (bO (i:=2) nd rfl (Or.inl rfl) (aP gA gB (bD (aE 0) aG) (aE 1)))
   (bA (rZ (aP lC lQ (bD (aE 0) aG) (aE 1)) (aE 0) aG)
   (bG (cB (aE 2)))))))
theorem abQ:cJ ["_law_one","_law_other"] ["_law_one","_law_other"] (bE vD):=scM
theorem aev {f:Addr} {fd:FuncData} (F:Fun K "_law_gcd" "_law_gcd" vD f fd)
  (m_abs:mg "abs"=none)
  : bS P w K mg base CX0 1 f fd ["_law_one","_law_other"] (cF K cl lP):=by
 have nd:=abQ.nd
 refine okP (np:=2) (n:=2) F abQ (by decide) (by decide) (b:=uI) (k:=0) fun cdv A outer s H E hr=>?_
 exact (bA (bO (i:=0) nd rfl (Or.inl rfl) (eK tE vN rfl m_abs uY (aF (aE 0) aH)))
   (bA (bO (i:=1) nd rfl (Or.inl rfl) (eK tE vN rfl m_abs uY (aF (aE 1) aH)))
   (bA (sG PassesOwn.never (dE vQ wG (aE 1) aG (cO _)) (bG (ae8 (i:=0) (j:=1) rfl nd rfl rfl (by decide) rfl rfl (aF (aE 1) (aF (aP gA gB (aE 0) (aE 1)) aH)) rfl)))
   (bG (cB (aE 0))))))
theorem xV:cJ ["_law_numbers","_law_by","_law_number"] ["_law_numbers"] (bE oR):=scM
theorem abc {f:Addr} {fd:FuncData} (F:Fun K "_law_lowest" "_law_lowest" oR f fd)
  (C_wgcd:Cal P w K mg base cl "_law_gcd" 1 ["_law_one","_law_other"] lP)
  (m_tuple:mg "tuple"=none)
  : bS P w K mg base CX0 2 f fd ["_law_numbers"] (cF K cl jW):=by
 have nd:=xV.nd
 refine okP (np:=1) (n:=3) F xV (by decide) (by decide) (b:=sB) (k:=1) fun cdv A outer s H E hr=>?_
 exact (bA (bO (i:=1) nd rfl (Or.inr rfl) aG)
   (bA (fS PassesOwn.never rfl (eP (aE 0)) (bX (i:=2) nd rfl (Or.inl rfl)) (bG (bO (i:=1) nd rfl (Or.inr rfl) (bM C_wgcd hr (by decide) rfl (aF (aE 1) (aF (aE 2) aH))))))
   (bA (eR (dE (fA (hu8 hr)) fE (aE 1) aG (cO _)) (bG (cB (iA jV kC rfl m_tuple jZ (aF (aE 0) aH)))) fF)
   (bG (cB (iA jV kC rfl m_tuple jZ (aF (gI (own:=["_law_number"]) (cap:=[(1,"_law_by")]) (eQ (bE oR) ["_law_numbers","_law_by","_law_number"] rfl rfl rfl (by decide +kernel) (by decide +kernel) (by decide +kernel) (by decide +kernel) (by decide +kernel)) (eP (aE 0)) rfl (fun _ _ _ _=>(bX (i:=0) (show (bB ["_law_number"] [(1,"_law_by")]).Nodup by decide +kernel) rfl (Or.inl rfl) (Or.inr rfl))) (fun _ _ _ _=>(aP lC lQ (aE 0) (aE 1)))) aH)))))))
theorem xZ:cJ ["_law_p","_law_q","_law_way","_law_far_here"] ["_law_p","_law_q","_law_way"] (bE oK):=scM
theorem aa6 {f:Addr} {fd:FuncData} (F:Fun K "_law_joined" "_law_joined" oK f fd)
  (C_wlowest:Cal P w K mg base cl "_law_lowest" 2 ["_law_numbers"] jW)
  (m_len:mg "len"=none)
  (m_range:mg "range"=none)
  : bS P w K mg base CX0 3 f fd ["_law_p","_law_q","_law_way"] (cF K cl jJ):=by
 have nd:=xZ.nd
 refine okP (np:=3) (n:=4) F xZ (by decide) (by decide) (b:=sJ) (k:=2) fun cdv A outer s H E hr=>?_
 exact (bA (mQ (i:=3) (own:=["_law_k"]) (cap:=[(2,"_law_way"),(1,"_law_q"),(0,"_law_p")]) nd rfl (Or.inl rfl) (eQ (bE oK) ["_law_p","_law_q","_law_way","_law_far_here"] rfl rfl rfl (by decide +kernel) (by decide +kernel) (by decide +kernel) (by decide +kernel) (by decide +kernel)) (fP rfl m_range (aF (aP fG fM (eK gG gS rfl m_len gJ (aF (aE 0) aH)) aG) aH)) rfl (fun _ _ _ _=>(bX (i:=0) (show (bB ["_law_k"] [(2,"_law_way"),(1,"_law_q"),(0,"_law_p")]).Nodup by decide +kernel) rfl (Or.inl rfl) (Or.inr rfl))) (fun _ _ _ _=>(aP dN dP (aP bV bW (aP bV bW (aE 1) (bD (aE 3) (aE 0))) (bD (aE 2) (eT eS eV aG))) (aP bV bW (bD (aE 2) (aE 0)) (bD (aE 3) (eT eS eV aG))))))
   (bG (cB (bM C_wlowest hr (by decide) rfl (aF (aP dN dP (aE 3) (dS (aF (aP bV bW (bD (aE 0) (eT eS eV aG)) (bD (aE 1) (eT eS eV aG))) aH))) aH)))))
theorem abK:cJ ["_law_p","_law_q"] ["_law_p","_law_q"] (bE pS):=scM
theorem aeL {f:Addr} {fd:FuncData} (F:Fun K "_law_gap" "_law_gap" pS f fd)
  (m_len:mg "len"=none)
  (m_range:mg "range"=none)
  : bS P w K mg base CX0 1 f fd ["_law_p","_law_q"] (cF K cl kJ):=by
 have nd:=abK.nd
 refine okP (np:=2) (n:=2) F abK (by decide) (by decide) (b:=uW) (k:=0) fun cdv A outer s H E hr=>?_
 exact (bG (cB (gI (own:=["_law_k"]) (cap:=[(1,"_law_q"),(0,"_law_p")]) (eQ (bE pS) ["_law_p","_law_q"] rfl rfl rfl (by decide +kernel) (by decide +kernel) (by decide +kernel) (by decide +kernel) (by decide +kernel)) (fP rfl m_range (aF (aP fG fM (eK gG gS rfl m_len gJ (aF (aE 0) aH)) aG) aH)) rfl (fun _ _ _ _=>(bX (i:=0) (show (bB ["_law_k"] [(1,"_law_q"),(0,"_law_p")]).Nodup by decide +kernel) rfl (Or.inl rfl) (Or.inr rfl))) (fun _ _ _ _=>(aP fG fM (aP bV bW (bD (aE 1) (aE 0)) (bD (aE 2) (eT eS eV aG))) (aP bV bW (bD (aE 2) (aE 0)) (bD (aE 1) (eT eS eV aG))))))))
theorem yO:cJ ["_law_u","_law_v","_law_x","_law_y","_law_z"] ["_law_u","_law_v"] (bE sQ):=scM
theorem acb {f:Addr} {fd:FuncData} (F:Fun K "_law_cross" "_law_cross" sQ f fd)
  : bS P w K mg base CX0 1 f fd ["_law_u","_law_v"] (cF K cl jX):=by
 have nd:=yO.nd
 refine okP (np:=2) (n:=5) F yO (by decide) (by decide) (b:=oW) (k:=0) fun cdv A outer s H E hr=>?_
 exact (bA (bO (i:=2) nd rfl (Or.inl rfl) (aP fG fM (aP bV bW (bD (aE 0) aG) (bD (aE 1) aG)) (aP bV bW (bD (aE 0) aG) (bD (aE 1) aG))))
   (bA (bO (i:=3) nd rfl (Or.inl rfl) (aP fG fM (aP bV bW (bD (aE 0) aG) (bD (aE 1) aG)) (aP bV bW (bD (aE 0) aG) (bD (aE 1) aG))))
   (bA (bO (i:=4) nd rfl (Or.inl rfl) (aP fG fM (aP bV bW (bD (aE 0) aG) (bD (aE 1) aG)) (aP bV bW (bD (aE 0) aG) (bD (aE 1) aG))))
   (bG (cB (dS (aF (aE 2) (aF (aE 3) (aF (aE 4) aH)))))))))
theorem abv:cJ ["_law_u","_law_v"] ["_law_u","_law_v"] (bE pW):=scM
theorem aen {f:Addr} {fd:FuncData} (F:Fun K "_law_dot" "_law_dot" pW f fd)
  (m_sum:mg "sum"=none)
  (m_zip:mg "zip"=none)
  : bS P w K mg base CX0 1 f fd ["_law_u","_law_v"] (cF K cl nJ):=by
 have nd:=abv.nd
 refine okP (np:=2) (n:=2) F abv (by decide) (by decide) (b:=uK) (k:=0) fun cdv A outer s H E hr=>?_
 exact (bG (cB (eK (sC rfl) vV rfl m_sum uQ (aF (gI (own:=["_law_one","_law_other"]) (cap:=[]) (eQ (bE pW) ["_law_u","_law_v"] rfl rfl rfl (by decide +kernel) (by decide +kernel) (by decide +kernel) (by decide +kernel) (by decide +kernel)) (abx rfl m_zip (aF (aE 0) (aF (aE 1) aH))) rfl (fun _ _ _ _=>(kD rfl (fR (bX (i:=0) (show (bB ["_law_one","_law_other"] []).Nodup by decide +kernel) rfl (Or.inl rfl) (Or.inr rfl)) (fR (bX (i:=1) (show (bB ["_law_one","_law_other"] []).Nodup by decide +kernel) rfl (Or.inl rfl) (Or.inr rfl)) kB)))) (fun _ _ _ _=>(aP bV bW (aE 0) (aE 1)))) aH))))
theorem aaE:cJ ["_law_ways"] ["_law_ways"] (bE uE):=scM
theorem ac0 {f:Addr} {fd:FuncData} (F:Fun K "_law_turn" "_law_turn" uE f fd)
  (C_wdot:Cal P w K mg base cl "_law_dot" 1 ["_law_u","_law_v"] nJ)
  (C_wcross:Cal P w K mg base cl "_law_cross" 1 ["_law_u","_law_v"] jX)
  (m_len:mg "len"=none)
  : bS P w K mg base CX0 2 f fd ["_law_ways"] (cF K cl eX):=by
 have nd:=aaE.nd
 refine okP (np:=1) (n:=1) F aaE (by decide) (by decide) (b:=lJ) (k:=1) fun cdv A outer s H E hr=>?_
 exact (bA (eR (dE (fA (hu8 hr)) fE (eK gG gS rfl m_len gJ (aF (aE 0) aH)) aG (cO _)) (bG (cB (aP fG fM (aP bV bW (bD (bD (aE 0) aG) aG) (bD (bD (aE 0) aG) aG)) (aP bV bW (bD (bD (aE 0) aG) aG) (bD (bD (aE 0) aG) aG))))) fF)
   (bG (cB (bM C_wdot hr (by decide) rfl (aF (bM C_wcross hr (by decide) rfl (aF (bD (aE 0) aG) (aF (bD (aE 0) aG) aH))) (aF (bD (aE 0) aG) aH))))))
theorem acg:cJ ["_law_points"] ["_law_points"] (bE pR):=scM
theorem aeQ {f:Addr} {fd:FuncData} (F:Fun K "_law_det" "_law_det" pR f fd)
  (C_wturn:Cal P w K mg base cl "_law_turn" 2 ["_law_ways"] eX)
  (C_wgap:Cal P w K mg base cl "_law_gap" 1 ["_law_p","_law_q"] kJ)
  : bS P w K mg base CX0 3 f fd ["_law_points"] (cF K cl jP):=by
 have nd:=acg.nd
 refine okP (np:=1) (n:=1) F acg (by decide) (by decide) (b:=pM) (k:=2) fun cdv A outer s H E hr=>?_
 exact (bG (cB (bM C_wturn hr (by decide) rfl (aF (gI (own:=["_law_p"]) (cap:=[(0,"_law_points")]) (eQ (bE pR) ["_law_points"] rfl rfl rfl (by decide +kernel) (by decide +kernel) (by decide +kernel) (by decide +kernel) (by decide +kernel)) (eP (mD (aE 0) (lF aG) lE)) rfl (fun _ _ _ _=>(bX (i:=0) (show (bB ["_law_p"] [(0,"_law_points")]).Nodup by decide +kernel) rfl (Or.inl rfl) (Or.inr rfl))) (fun _ _ _ _=>(bM C_wgap hr (by decide) rfl (aF (bD (aE 1) aG) (aF (aE 0) aH))))) aH))))
theorem xC:cJ ["_law_points","_law_told"] ["_law_points"] (bE rO):=scM
theorem aar {f:Addr} {fd:FuncData} (F:Fun K "_law_simplex" "_law_simplex" rO f fd)
  (C_wdet:Cal P w K mg base cl "_law_det" 3 ["_law_points"] jP)
  (m_sorted:mg "sorted"=none)
  (m_tuple:mg "tuple"=none)
  : bS P w K mg base CX0 4 f fd ["_law_points"] (cF K cl dZ):=by
 have nd:=xC.nd
 refine okP (np:=1) (n:=2) F xC (by decide) (by decide) (b:=oF) (k:=3) fun cdv A outer s H E hr=>?_
 exact (bA (bO (i:=1) nd rfl (Or.inl rfl) (eK aaY agr rfl m_sorted ab0 (aF (aE 0) aH)))
   (bA (eR (dE afB ahN (bM C_wdet hr (by decide) rfl (aF (aE 1) aH)) aG (cO _)) (bG (bO (i:=1) nd rfl (Or.inl rfl) (aP dN dP (mD (aE 1) lE (lF (eT eS eV aG))) (dS (aF (bD (aE 1) (eT eS eV aG)) (aF (bD (aE 1) (eT eS eV aG)) aH)))))) fF)
   (bG (cB (iA jV kC rfl m_tuple jZ (aF (aE 1) aH))))))
theorem abE:cJ ["_law_row_here","_law_dims","_law_kind","_law_wide","_law_under","_law_far_here"] ["_law_row_here","_law_dims"] (bE pT):=scM
theorem aeN {f:Addr} {fd:FuncData} (F:Fun K "_law_far" "_law_far" pT f fd)
  (C_wtake:Cal P w K mg base cl "_law_take" 1 ["_law_row_here","_law_many"] cV)
  (C_wlowest:Cal P w K mg base cl "_law_lowest" 2 ["_law_numbers"] jW)
  (m_range:mg "range"=none)
  : bS P w K mg base CX0 3 f fd ["_law_row_here","_law_dims"] (cF K cl eG):=by
 have nd:=abE.nd
 refine okP (np:=2) (n:=6) F abE (by decide) (by decide) (b:=uO) (k:=2) fun cdv A outer s H E hr=>?_
 exact (bA (bO (i:=2) nd rfl (Or.inl rfl) (bM C_wtake hr (by decide) rfl (aF (aE 0) (aF aG aH))))
   (bA (bO (i:=3) nd rfl (Or.inr rfl) (bD (dS (aF aG (aF aG (aF aG (aF (aP uU vK aG aG) aH))))) (aE 2)))
   (bA (bO (i:=4) nd rfl (Or.inl rfl) (aP dN dP aG (aP bV bW (bM C_wtake hr (by decide) rfl (aF (aE 0) (aF aG aH))) (aP lC lQ (aE 2) aG))))
   (bA (mQ (i:=5) (own:=["_law_k"]) (cap:=[(3,"_law_wide"),(0,"_law_row_here")]) nd rfl (Or.inl rfl) (eQ (bE pT) ["_law_row_here","_law_dims","_law_kind","_law_wide","_law_under","_law_far_here"] rfl rfl rfl (by decide +kernel) (by decide +kernel) (by decide +kernel) (by decide +kernel) (by decide +kernel)) (fP rfl m_range (aF (aE 1) aH)) rfl (fun _ _ _ _=>(bX (i:=0) (show (bB ["_law_k"] [(3,"_law_wide"),(0,"_law_row_here")]).Nodup by decide +kernel) rfl (Or.inl rfl) (Or.inr rfl))) (fun _ _ _ _=>(aP fG fM (bM C_wtake hr (by decide) rfl (aF (aE 2) (aF (aP dN dP (aP bV bW aG (aE 1)) aG) aH))) (aE 1))))
   (bG (cB (bM C_wlowest hr (by decide) rfl (aF (aP dN dP (aE 5) (dS (aF (aE 4) aH))) aH))))))))
theorem xI:cJ ["_law_row_here","_law_rows"] ["_law_row_here","_law_rows"] (bE sM):=scM
theorem abd {f:Addr} {fd:FuncData} (F:Fun K "_law_handed" "_law_handed" sM f fd)
  (C_wtake:Cal P w K mg base cl "_law_take" 1 ["_law_row_here","_law_many"] cV)
  (m_list:mg "list"=none)
  (m_tuple:mg "tuple"=none)
  : bS P w K mg base CX0 2 f fd ["_law_row_here","_law_rows"] (cF K cl iY):=by
 have nd:=xI.nd
 refine okP (np:=2) (n:=2) F xI (by decide) (by decide) (b:=oI) (k:=1) fun cdv A outer s H E hr=>?_
 exact (bA (eR (dE (fA (hu8 hr)) fE (bM C_wtake hr (by decide) rfl (aF (aE 0) (aF aG aH))) aG (cO _)) (bG (cB (iA jV kC rfl m_tuple jZ (aF (aE 1) aH)))) fF)
   (bG (cB (iA wY adY rfl m_list aez (aF (aE 1) aH)))))
theorem aaP:cJ ["_law_o","_law_ways","_law_at","_law_p","_law_k"] ["_law_o","_law_ways","_law_at"] (bE tY):=scM
theorem ada {f:Addr} {fd:FuncData} (F:Fun K "_law_node" "_law_node" tY f fd)
  (C_wjoined:Cal P w K mg base cl "_law_joined" 3 ["_law_p","_law_q","_law_way"] jJ)
  (m_len:mg "len"=none)
  (m_range:mg "range"=none)
  : bS P w K mg base CX0 4 f fd ["_law_o","_law_ways","_law_at"] (cF K cl cR):=by
 have nd:=aaP.nd
 refine okP (np:=3) (n:=5) F aaP (by decide) (by decide) (b:=pL) (k:=3) fun cdv A outer s H E hr=>?_
 exact (bA (bO (i:=3) nd rfl (Or.inl rfl) (aE 0))
   (bA (fS PassesOwn.never rfl (fP rfl m_range (aF (eK gG gS rfl m_len gJ (aF (aE 1) aH)) aH)) (bX (i:=4) nd rfl (Or.inl rfl)) (bG (eR (dE (fA (hu8 hr)) fE (bD (aE 2) (aE 4)) aG (cO _)) (bG (bO (i:=3) nd rfl (Or.inl rfl) (bM C_wjoined hr (by decide) rfl (aF (aE 3) (aF (bD (aE 1) (aE 4)) (aF aG aH)))))) fF)))
   (bG (cB (aE 3)))))
theorem wT:cJ ["_law_o","_law_ways","_law_a","_law_b","_law_c"] ["_law_o","_law_ways"] (bE rH):=scM
theorem aaf {f:Addr} {fd:FuncData} (F:Fun K "_law_flat_hands" "_law_flat_hands" rH f fd)
  (C_wnode:Cal P w K mg base cl "_law_node" 4 ["_law_o","_law_ways","_law_at"] cR)
  (C_wsimplex:Cal P w K mg base cl "_law_simplex" 4 ["_law_points"] dZ)
  : bS P w K mg base CX0 5 f fd ["_law_o","_law_ways"] (cF K cl iU):=by
 have nd:=wT.nd
 refine okP (np:=2) (n:=5) F wT (by decide) (by decide) (b:=rG) (k:=4) fun cdv A outer s H E hr=>?_
 exact (bA (bO (i:=2) nd rfl (Or.inl rfl) (bM C_wnode hr (by decide) rfl (aF (aE 0) (aF (aE 1) (aF (dS (aF aG (aF aG aH))) aH)))))
   (bA (bO (i:=3) nd rfl (Or.inl rfl) (bM C_wnode hr (by decide) rfl (aF (aE 0) (aF (aE 1) (aF (dS (aF aG (aF aG aH))) aH)))))
   (bA (bO (i:=4) nd rfl (Or.inl rfl) (bM C_wnode hr (by decide) rfl (aF (aE 0) (aF (aE 1) (aF (dS (aF aG (aF aG aH))) aH)))))
   (bG (cB (gR (aF (dS (aF (bM C_wsimplex hr (by decide) rfl (aF (dS (aF (aE 0) (aF (aE 2) (aF (aE 4) aH)))) aH)) (aF (bM C_wsimplex hr (by decide) rfl (aF (dS (aF (aE 0) (aF (aE 3) (aF (aE 4) aH)))) aH)) aH))) (aF (dS (aF (bM C_wsimplex hr (by decide) rfl (aF (dS (aF (aE 0) (aF (aE 2) (aF (aE 3) aH)))) aH)) (aF (bM C_wsimplex hr (by decide) rfl (aF (dS (aF (aE 2) (aF (aE 3) (aF (aE 4) aH)))) aH)) aH))) aH))))))))
theorem abX:cJ ["_law_o","_law_ways","_law_found","_law_i","_law_j","_law_first","_law_second","_law_four"] ["_law_o","_law_ways"] (bE nL):=scM
theorem aeD {f:Addr} {fd:FuncData} (F:Fun K "_law_six" "_law_six" nL f fd)
  (C_wnode:Cal P w K mg base cl "_law_node" 4 ["_law_o","_law_ways","_law_at"] cR)
  (C_wsimplex:Cal P w K mg base cl "_law_simplex" 4 ["_law_points"] dZ)
  (m_int:mg "int"=none)
  (m_range:mg "range"=none)
  : bS P w K mg base CX0 5 f fd ["_law_o","_law_ways"] (cF K cl jD):=by
 have nd:=abX.nd
 refine okP (np:=2) (n:=8) F abX (by decide) (by decide) (b:=uJ) (k:=4) fun cdv A outer s H E hr=>?_
 exact (bA (bO (i:=2) nd rfl (Or.inl rfl) (mV aH))
   (bA (fS PassesOwn.never rfl (fP rfl m_range (aF aG aH)) (bX (i:=3) nd rfl (Or.inr rfl)) (bG (fS PassesOwn.never rfl (fP rfl m_range (aF aG aH)) (bX (i:=4) nd rfl (Or.inr rfl)) (bG (eR (dE (pQ (hu8 hr)) qM (aE 3) (aE 4) (cO _)) (bA (mQ (i:=5) (own:=["_law_k"]) (cap:=[(3,"_law_i")]) nd rfl (Or.inl rfl) (eQ (bE nL) ["_law_o","_law_ways","_law_found","_law_i","_law_j","_law_first","_law_second","_law_four"] rfl rfl rfl (by decide +kernel) (by decide +kernel) (by decide +kernel) (by decide +kernel) (by decide +kernel)) (fP rfl m_range (aF aG aH)) rfl (fun _ _ _ _=>(bX (i:=0) (show (bB ["_law_k"] [(3,"_law_i")]).Nodup by decide +kernel) rfl (Or.inl rfl) (Or.inr rfl))) (fun _ _ _ _=>(iA rW wD rfl m_int uZ (aF (nB (fA (hu8 hr)) fE (aE 0) (aE 1) (cO _)) aH))))
   (bA (mQ (i:=6) (own:=["_law_k"]) (cap:=[(3,"_law_i"),(4,"_law_j")]) nd rfl (Or.inl rfl) (eQ (bE nL) ["_law_o","_law_ways","_law_found","_law_i","_law_j","_law_first","_law_second","_law_four"] rfl rfl rfl (by decide +kernel) (by decide +kernel) (by decide +kernel) (by decide +kernel) (by decide +kernel)) (fP rfl m_range (aF aG aH)) rfl (fun _ _ _ _=>(bX (i:=0) (show (bB ["_law_k"] [(3,"_law_i"),(4,"_law_j")]).Nodup by decide +kernel) rfl (Or.inl rfl) (Or.inr rfl))) (fun _ _ _ _=>(iA rW wD rfl m_int uZ (aF (ahy (nB (fA (hu8 hr)) fE (aE 0) (aE 1) (cO _)) (afA (nB (fA (hu8 hr)) fE (aE 0) (aE 2) (cO _)))) aH))))
   (bA (bO (i:=7) nd rfl (Or.inl rfl) (dS (aF (aE 0) (aF (bM C_wnode hr (by decide) rfl (aF (aE 0) (aF (aE 1) (aF (aE 5) aH)))) (aF (bM C_wnode hr (by decide) rfl (aF (aE 0) (aF (aE 1) (aF (aE 6) aH)))) aH)))))
   (bG (jK (kZ (aE 2) (aF (bM C_wsimplex hr (by decide) rfl (aF (aP dN dP (aE 7) (dS (aF (bM C_wnode hr (by decide) rfl (aF (aE 0) (aF (aE 1) (aF (dS (aF aG (aF aG (aF aG aH)))) aH)))) aH))) aH)) aH))))))) fF)))))
   (bG (cB (aE 2)))))
theorem aaI:cJ ["_law_o","_law_ways","_law_odd","_law_all_nodes","_law_k","_law_found","_law_at","_law_four","_law_near"] ["_law_o","_law_ways","_law_odd"] (bE pF):=scM
theorem acz {f:Addr} {fd:FuncData} (F:Fun K "_law_five" "_law_five" pF f fd)
  (C_wsimplex:Cal P w K mg base cl "_law_simplex" 4 ["_law_points"] dZ)
  (C_wnode:Cal P w K mg base cl "_law_node" 4 ["_law_o","_law_ways","_law_at"] cR)
  (m_list:mg "list"=none)
  (m_range:mg "range"=none)
  (m_sum:mg "sum"=none)
  : bS P w K mg base CX0 5 f fd ["_law_o","_law_ways","_law_odd"] (cF K cl jC):=by
 have nd:=aaI.nd
 refine okP (np:=3) (n:=9) F aaI (by decide) (by decide) (b:=tX) (k:=4) fun cdv A outer s H E hr=>?_
 exact (bA (bO (i:=3) nd rfl (Or.inl rfl) (mV aH))
   (bA (fS PassesOwn.never rfl (fP rfl m_range (aF aG aH)) (bX (i:=4) nd rfl (Or.inl rfl)) (bG (jK (kZ (aE 3) (aF (dS (aF (aP gA gB (aE 4) aG) (aF (aP gA gB (aP lC lQ (aE 4) aG) aG) (aF (aP lC lQ (aE 4) aG) aH)))) aH)))))
   (bA (bO (i:=5) nd rfl (Or.inl rfl) (mV (aF (bM C_wsimplex hr (by decide) rfl (aF (aaN (own:=["_law_at"]) (cap:=[(0,"_law_o"),(1,"_law_ways"),(2,"_law_odd")]) (eQ (bE pF) ["_law_o","_law_ways","_law_odd","_law_all_nodes","_law_k","_law_found","_law_at","_law_four","_law_near"] rfl rfl rfl (by decide +kernel) (by decide +kernel) (by decide +kernel) (by decide +kernel) (by decide +kernel)) (eP (aE 3)) rfl (fun _ _ _ _=>(bX (i:=0) (show (bB ["_law_at"] [(0,"_law_o"),(1,"_law_ways"),(2,"_law_odd")]).Nodup by decide +kernel) rfl (Or.inl rfl) (Or.inr rfl))) (fun _ _ _ _=>(dE (fA (hu8 hr)) fE (aP gA gB (eK (sC rfl) vV rfl m_sum uQ (aF (aE 0) aH)) aG) (aE 3) (cO _))) (fun _ _ _ _=>(bM C_wnode hr (by decide) rfl (aF (aE 1) (aF (aE 2) (aF (aE 0) aH)))))) aH)) aH)))
   (bA (fS PassesOwn.never rfl (eP (aE 3)) (bX (i:=6) nd rfl (Or.inl rfl)) (bG (eR (dE (pQ (hu8 hr)) qM (aP gA gB (eK (sC rfl) vV rfl m_sum uQ (aF (aE 6) aH)) aG) (aE 2) (cO _)) (bA (bO (i:=7) nd rfl (Or.inl rfl) (mV (aF (bM C_wnode hr (by decide) rfl (aF (aE 0) (aF (aE 1) (aF (aE 6) aH)))) aH)))
   (bA (fS PassesOwn.never rfl (fP rfl m_range (aF aG aH)) (bX (i:=4) nd rfl (Or.inl rfl)) (bA (bO (i:=8) nd rfl (Or.inl rfl) (ac9 rfl rfl m_list (aF (aE 6) aH)))
   (bA (rZ (aP fG fM aG (bD (aE 8) (aE 4))) (aE 8) (aE 4))
   (bG (jK (kZ (aE 7) (aF (bM C_wnode hr (by decide) rfl (aF (aE 0) (aF (aE 1) (aF (aE 8) aH)))) aH)))))))
   (bG (jK (kZ (aE 5) (aF (bM C_wsimplex hr (by decide) rfl (aF (aE 7) aH)) aH)))))) fF)))
   (bG (cB (aE 5)))))))
theorem adJ:cJ ["_law_script","_law_row_here","_law_dims","_law_o","_law_ways","_law_one","_law_other","_law_many","_law_left","_law_right","_law_at"] ["_law_script"] (bE gU):=scM
theorem age {f:Addr} {fd:FuncData} (F:Fun K "law" "law" gU f fd)
  (C_wrow:Cal P w K mg base cl "_law_row" 1 ["_law_script"] kM)
  (C_wtake:Cal P w K mg base cl "_law_take" 1 ["_law_row_here","_law_many"] cV)
  (C_wfar:Cal P w K mg base cl "_law_far" 3 ["_law_row_here","_law_dims"] eG)
  (C_wturn:Cal P w K mg base cl "_law_turn" 2 ["_law_ways"] eX)
  (C_wflat_hands:Cal P w K mg base cl "_law_flat_hands" 5 ["_law_o","_law_ways"] iU)
  (C_wsix:Cal P w K mg base cl "_law_six" 5 ["_law_o","_law_ways"] jD)
  (C_wfive:Cal P w K mg base cl "_law_five" 5 ["_law_o","_law_ways","_law_odd"] jC)
  (C_same:Cal P w K mg base cl "same" 6 ["one","other"] fI)
  (C_whanded:Cal P w K mg base cl "_law_handed" 2 ["_law_row_here","_law_rows"] iY)
  (m_int:mg "int"=none)
  (m_len:mg "len"=none)
  (m_range:mg "range"=none)
  (m_tuple:mg "tuple"=none)
  : bS P w K mg base CX0 7 f fd ["_law_script"] (cF K cl vR):=by
 have nd:=adJ.nd
 refine okP (np:=1) (n:=11) F adJ (by decide) (by decide) (b:=vO) (k:=6) fun cdv A outer s H E hr=>?_
 exact (bA (bO (i:=1) nd rfl (Or.inr rfl) (ahz C_wrow hr (by decide) rfl (aF (aE 0) aH)))
   (bA (bO (i:=2) nd rfl (Or.inr rfl) (aP dN dP aG (bM C_wtake hr (by decide) rfl (aF (aE 1) (aF aG aH)))))
   (bA (bO (i:=3) nd rfl (Or.inl rfl) (bM C_wfar hr (by decide) rfl (aF (aE 1) (aF (aE 2) aH))))
   (bA (mQ (i:=4) (own:=["_law_k"]) (cap:=[(1,"_law_row_here"),(2,"_law_dims")]) nd rfl (Or.inl rfl) (eQ (bE gU) ["_law_script","_law_row_here","_law_dims","_law_o","_law_ways","_law_one","_law_other","_law_many","_law_left","_law_right","_law_at"] rfl rfl rfl (by decide +kernel) (by decide +kernel) (by decide +kernel) (by decide +kernel) (by decide +kernel)) (fP rfl m_range (aF (aE 2) aH)) rfl (fun _ _ _ _=>(bX (i:=0) (show (bB ["_law_k"] [(1,"_law_row_here"),(2,"_law_dims")]).Nodup by decide +kernel) rfl (Or.inl rfl) (Or.inr rfl))) (fun _ _ _ _=>(bM C_wfar hr (by decide) rfl (aF (aE 1) (aF (aE 2) aH)))))
   (bA (eR (dE (fA (hu8 hr)) fE (bM C_wturn hr (by decide) rfl (aF (aE 4) aH)) aG (cO _)) (bG (acm (i:=4) (own:=["_law_k"]) (cap:=[(2,"_law_dims")]) nd rfl (Or.inl rfl) (aeC (bE gU) ["_law_script","_law_row_here","_law_dims","_law_o","_law_ways","_law_one","_law_other","_law_many","_law_left","_law_right","_law_at"] rfl rfl rfl (by decide +kernel) (by decide +kernel) (by decide +kernel) (by decide +kernel) (by decide +kernel)) (fP rfl m_range (aF (aE 2) aH)) rfl (fun _ _ _ _=>(bX (i:=0) (show (bB ["_law_k"] [(2,"_law_dims")]).Nodup by decide +kernel) rfl (Or.inr rfl) (Or.inl rfl))) (fun _ _ _ _=>(iA jV kC rfl m_tuple jZ (aF (aP dN dP (gI (own:=["_law_m"]) (cap:=[(0,"_law_k")]) (ad5 (bE gU) rfl rfl rfl (by decide +kernel) (by decide +kernel) (by decide +kernel) (by decide +kernel) (by decide +kernel)) (fP rfl m_range (aF (aE 1) aH)) rfl (fun _ _ _ _=>(bX (i:=0) (show (bB ["_law_m"] [(0,"_law_k")]).Nodup by decide +kernel) rfl (Or.inl rfl) (Or.inr rfl))) (fun _ _ _ _=>(iA rW wD rfl m_int uZ (aF (nB (fA (hu8 hr)) fE (aE 0) (aE 1) (cO _)) aH)))) (dS (aF (aP dN dP aG (aE 0)) aH))) aH))))) fF)
   (bA (eR (dE (fA (hu8 hr)) fE (aE 2) aG (cO _)) (bG (ad9 (bM C_wflat_hands hr (by decide) rfl (aF (aE 3) (aF (aE 4) aH))) (kD rfl (fR (bX (i:=5) nd rfl (Or.inl rfl)) (fR (bX (i:=6) nd rfl (Or.inl rfl)) kB))))) (bA (bO (i:=5) nd rfl (Or.inl rfl) (bM C_wsix hr (by decide) rfl (aF (aE 3) (aF (aE 4) aH))))
   (bG (bO (i:=6) nd rfl (Or.inl rfl) (bM C_wfive hr (by decide) rfl (aF (aE 3) (aF (aE 4) (aF (bM C_wtake hr (by decide) rfl (aF (aE 1) (aF aG aH))) aH))))))))
   (bA (bO (i:=7) nd rfl (Or.inl rfl) (aP dN dP aG (bM C_wtake hr (by decide) rfl (aF (aE 1) (aF aG aH)))))
   (bA (bO (i:=8) nd rfl (Or.inl rfl) (aP ab1 ahu (aE 5) (aE 7)))
   (bA (bO (i:=9) nd rfl (Or.inl rfl) (aej (aE 6) (aE 7)))
   (bA (eR (PWp.pt (adu (dE pG (nZ true) (nP C_same hr (by decide) rfl (aF (bM C_whanded hr (by decide) rfl (aF (aE 1) (aF (aE 8) aH))) (aF (aE 9) aH))) kO (cO _)) (acl (dE pG (nZ true) (nP C_same hr (by decide) rfl (aF (aE 9) (aF (bM C_whanded hr (by decide) rfl (aF (aE 1) (aF (aE 8) aH))) aH))) kO (cO _))))) (bG (cB kO)) fF)
   (bA (eR (PWp.pt (adu (dE pG (nZ true) (nP C_same hr (by decide) rfl (aF (gR aH) (aF (aE 9) aH))) kO (cO _)) (acl (dE pG (nZ true) (nP C_same hr (by decide) rfl (aF (gR aH) (aF (gR aH) aH))) kO (cO _))))) (bG (cB kO)) fF)
   (bA (bO (i:=10) nd rfl (Or.inl rfl) (bM C_wtake hr (by decide) rfl (aF (aE 1) (aF (eK gG gS rfl m_len gJ (aF (aE 9) aH)) aH))))
   (bA (rZ (bD (aE 5) (bM C_wtake hr (by decide) rfl (aF (aE 1) (aF (eK gG gS rfl m_len gJ (aF (aE 5) aH)) aH)))) (aE 9) (aE 10))
   (bG (cB (nB ahq (nZ false) (nP C_same hr (by decide) rfl (aF (aE 8) (aF (aE 9) aH))) kO (cO _)))))))))))))))))
end
def EC:=And.intro @iO.eq_1 (And.intro @aK.eq_1 (And.intro @sIf.eq_1 (And.intro @bK.eq_1 (And.intro @ah0.eq_1 (And.intro @kS.eq_1 (And.intro @mOr.eq_1 (And.intro @agM.eq_1 (And.intro @nV.eq_1 (And.intro @mIf.eq_1 (And.intro @aC.eq_1 (And.intro @mUn.eq_1 (And.intro @mR.eq_1 (And.intro @mN.eq_1 (And.intro @aB.eq_1 (And.intro @aA.eq_1 (And.intro @mC.eq_1 (And.intro @aD.eq_1 (And.intro @Res.bind.eq_1 (And.intro @Res.bind.eq_2 (And.intro @Res.bind.eq_3 (And.intro @nT.eq_1 (And.intro @iF.eq_1 (And.intro @jS.eq_1 (And.intro @vY.eq_1 (And.intro @eN.eq_1 (And.intro @eN.eq_2 (And.intro @rd.eq_1 (And.intro @rd.eq_2 (And.intro @iP.eq_1 (And.intro @iP.eq_2 (And.intro @iP.eq_3 (And.intro @okO.eq_1 (And.intro @okO.eq_2 (And.intro @dB.eq_1 (And.intro @dB.eq_2 (And.intro @dB.eq_3 (And.intro @dH.eq_1 (And.intro @cA.eq_1 (And.intro @cU.eq_1 (And.intro @cU.eq_2 (And.intro @mI.eq_1 (And.intro @mI.eq_2 (And.intro @tst.eq_1 (And.intro @tst.eq_2 (And.intro @bN.of.eq_1 (And.intro @bN.of.eq_2 (And.intro @bN.of.eq_3 (And.intro @bP.eq_1 (And.intro @ahi.eq_1 (And.intro @dA.eq_1 (And.intro @eB.eq_1 (And.intro @aM.eq_1 (And.intro @iD.eq_1 (And.intro @iD.eq_2 (And.intro @iD.eq_3 (And.intro @iD.eq_4 (And.intro @jQ.eq_1 (And.intro @jQ.eq_2 (And.intro @aL.eq_1 (And.intro @agX.eq_1 (@nE.eq_1)))))))))))))))))))))))))))))))))))))))))))))))))))))))))))))
theorem zP (S:Sto) (k:Nat) (o:SO):(S.set k o).take S.length=S.set k o:=List.take_of_length_le (by simp)
def Row (S:Sto) (k:Nat) (ns:List Int):Prop:=S[k]?=some (.lst (ns.map .int))
theorem Row.lt {S:Sto} {k:Nat} {ns:List Int} (h:Row S k ns):k < S.length:=(List.getElem?_eq_some_iff.mp h).1
theorem Row.set {S:Sto} {k:Nat} {ns:List Int} (h:Row S k ns) (ms:List Int):Row (S.set k (.lst (ms.map .int))) k ms:=List.getElem?_set_self h.lt
theorem xH {r:Rho} {k:Nat} {m:AV}:∀ (ns:List Int) (S:Sto),Row S k ns→∃ n ns',cM (kS (bK (aC fGt (mR dB (aB (aA 0) aD)) (mC (.int 0)))) (bK (aC fEq (aC fIx (aA 0) (mC (.int 0))) (mC (.int 0))))) (eB (mF (aA 0) (aB (mC (.int 0)) aD))) n (some (.ref k) :: some m :: r) S=.nx (some (.ref k) :: some m :: r) (S.set k (.lst (ns'.map .int)))∧ns'.length≤ns.length∧(ns'=[]∨∃ i t,ns'=i :: t∧i≠0)
 | [],S,h=>by
  refine ⟨1,[],?_,Nat.le_refl _,.inl rfl⟩
  have h':S[k]?=some (.lst []):=h
  have e:S.set k (.lst (([]:List Int).map .int))=S:=List.ext_getElem? fun i=>by
   by_cases q:k=i
   ·subst q; rw [List.getElem?_set_self h.lt,h']; rfl
   ·rw [List.getElem?_set_ne q]
  rw [e]
  simp [cM,kS,bK,aC,mR,aB,aA,mC,aD,Res.bind,jS,eN,rd,h',okO,dB,iF,fGt,i2,tst,bN.of]
 | i :: t,S,h=>by
  have h':S[k]?=some (.lst (.int i :: t.map .int)):=h
  by_cases hi:i=0
  ·subst hi
   have hr:Row (S.set k (.lst (t.map .int))) k t:=h.set t
   obtain ⟨n,ns',e,l,q⟩:=xH (r:=r) (m:=m) t _ hr
   refine ⟨n+1,ns',?_,by simp; omega,q⟩
   rw [List.set_set] at e
   rw [← e]
   have hl:(0:Int) < (t.length:Int)+1:=by omega
   simp [cM,kS,bK,aC,mR,aB,aA,mC,aD,Res.bind,jS,eN,rd,h',okO,dB,iF,fGt,i2,tst,bN.of,fIx,atI,ixN,fEq,eqN,eB,mF,eC,kP,seqIndex?,hl]
  ·refine ⟨1,i :: t,?_,Nat.le_refl _,.inr ⟨i,t,rfl,hi⟩⟩
   have e:S.set k (.lst ((i :: t).map .int))=S:=List.ext_getElem? fun j=>by
    by_cases q:k=j
    ·subst q; rw [List.getElem?_set_self h.lt,h']; rfl
    ·rw [List.getElem?_set_ne q]
   rw [e]
   have hl:(0:Int) < (t.length:Int)+1:=by omega
   simp [cM,kS,bK,aC,mR,aB,aA,mC,aD,Res.bind,jS,eN,rd,h',okO,dB,iF,fGt,i2,tst,bN.of,fIx,atI,ixN,fEq,eqN,hl,hi]
theorem iJ {S:Sto} {k:Nat} {ns:List Int} {m:Int} (h:Row S k ns) (hm:0 < m) (b:Bd 8000 m):∃ (v:Int) (ns':List Int),cV [.ref k,.pv (.int m)] S=.ok (.pv (.int v)) (S.set k (.lst (ns'.map .int)))∧0≤v∧v < m∧ns'.length≤ns.length:=by
 obtain ⟨n,ns',e,l,q⟩:=xH (r:=[none]) (m:=.pv (.int m)) ns S h
 have hr:=h.set ns'
 have hl1:(S.set k (.lst (ns'.map .int))).length=S.length:=by simp
 have hss:∀ x,(S.set k (.lst (ns'.map .int))).set k x=S.set k x:=fun x=>List.set_set ..
 generalize hS1:S.set k (.lst (ns'.map .int))=S1 at e hr hl1 hss
 have w:=rX e (by simp)
 rcases q with rfl | ⟨i,t,rfl,hi⟩
 ·refine ⟨0,[],?_,Int.le_refl 0,hm,Nat.zero_le _⟩
  rw [hS1]
  have hr':S1[k]?=some (.lst []):=hr
  have tk:List.take S.length S1=S1:=List.take_of_length_le (by omega)
  unfold cV fnM pH
  simp [iO,aK,w,sIf,bK,aC,mR,aB,aA,mC,aD,Res.bind,jS,eN,rd,hr',okO,dB,iF,fEq,eqN,tst,bN.of,bP,iD,jQ,tk]
 ·have hr':S1[k]?=some (.lst (.int i :: t.map .int)):=hr
  refine ⟨i.fmod m,i.fdiv m :: t,?_,Int.fmod_nonneg_of_pos i hm,Int.fmod_lt_of_pos i hm,l⟩
  rw [← hss]
  have tk:∀ x,List.take S.length (S1.set k x)=S1.set k x:=fun x=>List.take_of_length_le (by simp; omega)
  have hl:¬ ((t.length:Int)+1=0):=by omega
  have hq:lX i m:=⟨by omega,b⟩
  have hm0:m≠0:=by omega
  unfold cV fnM pH
  simp [iO,aK,w,sIf,bK,aC,mR,aB,aA,mC,aD,Res.bind,jS,eN,rd,hr',okO,dB,iF,fEq,eqN,tst,bN.of,bP,iD,jQ,tk,dA,hl,aM,cE,fB,i2,cI,fIx,atI,ixN,hm0,hq,gM,eC,jR]
theorem aV (i j:Int):fGt (.int i) (.int j)=some (.bl (decide (j < i))):=rfl
theorem aT (i j:Int):fLt (.int i) (.int j)=some (.bl (decide (i < j))):=rfl
theorem aS (i j:Int):fGe (.int i) (.int j)=some (.bl (decide (j≤i))):=rfl
theorem aU (i j:Int):fLe (.int i) (.int j)=some (.bl (decide (i≤j))):=rfl
theorem aW (i j:Int):dR (.int i) (.int j)=some (.int (i - j)):=rfl
theorem jM {i j:Int} (h:lT i j):aZ (.int i) (.int j)=some (.int (i*j)):=by
 simp [aZ,i2,cI,h]
theorem oV {i j:Int} (h:lX i j):fB (.int i) (.int j)=some (.int (i.fdiv j)):=by
 simp [fB,i2,cI,h]
theorem fY {i j:Int} (h:j≠0):cE (.int i) (.int j)=some (.int (i.fmod j)):=by
 simp [cE,i2,cI,h]
theorem pK {i j:Int} (h:qQ i j):gZ (.int i) (.int j)=some (.int (i ^ j.toNat)):=by
 simp [gZ,i2,cI,h]
theorem aeV (n:Int) (S:Sto):lS [.pv (.int n)] S=.ok (.pv (.int (sg n))) S:=by
 unfold lS fnM uH sg
 by_cases h1:0 < n
 ·simp [iO,aK,sIf,bK,aC,aA,mC,Res.bind,iF,rd,okO,fGt,i2,tst,bN.of,bP,iD,jQ,h1]
 ·by_cases h2:n < 0
  ·simp [iO,aK,sIf,bK,aC,aA,mC,Res.bind,iF,rd,okO,fGt,fLt,i2,tst,bN.of,bP,iD,jQ,h1,h2,dA,mUn,nT,cU]
  ·simp [iO,aK,sIf,bK,aC,aA,mC,Res.bind,iF,rd,okO,fGt,fLt,i2,tst,bN.of,bP,iD,jQ,h1,h2,dA,mUn,nT,cU]
theorem wV (S:Sto):∀ (m:Nat) (a b:Int) (x:Option AV),b.natAbs≤m→∃ (n:Nat) (g:Int) (x':Option AV),cM (bK (aC fNe (aA 1) (mC (.int 0)))) (aK (aM 2 (aC cE (aA 0) (aA 1))) (aK (aM 0 (aA 1)) (aM 1 (aA 2)))) n [some (.pv (.int a)),some (.pv (.int b)),x] S=.nx [some (.pv (.int g)),some (.pv (.int 0)),x'] S∧g.natAbs=Int.gcd a b
 | 0,a,b,x,h=>by
  have hb:b=0:=by omega
  subst hb
  refine ⟨1,a,x,?_,by simp⟩
  simp [EC,cM,aQ,aN,aO,fIx,atI,ixN,fEq,fNe,eqN,aV,aT,aS,aU,aI,aW,frz,aR]
 | m+1,a,b,x,h=>by
  by_cases hb:b=0
  ·subst hb
   refine ⟨1,a,x,?_,by simp⟩
   simp [EC,cM,aQ,aN,aO,fIx,atI,ixN,fEq,fNe,eqN,aV,aT,aS,aU,aI,aW,frz,aR]
  ·have hl:=zG a hb
   obtain ⟨n,g,x',e,q⟩:=wV S m b (a.fmod b) (some (.pv (.int (a.fmod b)))) (by omega)
   refine ⟨n+1,g,x',?_,by rw [q,zQ]⟩
   rw [← e]
   simp [EC,cM,aQ,aN,aO,fIx,atI,ixN,fEq,fNe,eqN,aV,aT,aS,aU,aI,aW,frz,aR,fY hb,hb]
theorem aa2 (a b:Int) (S:Sto):kX [.pv (.int a),.pv (.int b)] S=.ok (.pv (.int (Int.gcd a b:Nat))) S:=by
 obtain ⟨n,g,x',e,q⟩:=wV S b.natAbs a b none (Nat.le_refl _)
 have w:=rX e (by simp)
 unfold kX fnM rV
 have hg:(if g < 0 then -g else g)=((Int.gcd a b:Nat):Int):=by rw [← q]; exact uL g
 simp [EC,aQ,aN,aO,fIx,atI,ixN,fEq,fNe,eqN,aV,aT,aS,aU,aI,aW,frz,aR,w,hg]
theorem yY (S:Sto):∀ (m:Nat) (a b:Int),0≤a→0≤b→b.natAbs≤m→∃ (n:Nat),cM (bK (aC fGt (aA 1) (mC (.int 0)))) (qV 0 1 (aB (aA 1) (aB (aC cE (aA 0) (aA 1)) aD))) n [some (.pv (.int a)),some (.pv (.int b))] S=.nx [some (.pv (.int (Int.gcd a b:Nat))),some (.pv (.int 0))] S
 | 0,a,b,ha,hb,h=>by
  have hb:b=0:=by omega
  subst hb
  have ea:((Int.gcd a 0:Nat):Int)=a:=by simp; omega
  refine ⟨1,?_⟩
  rw [ea]
  simp [EC,cM,aQ,aN,aO,fIx,atI,ixN,fEq,fNe,eqN,aV,aT,aS,aU,aI,aW,frz,aR]
 | m+1,a,b,ha,hb,h=>by
  by_cases h0:b=0
  ·subst h0
   have ea:((Int.gcd a 0:Nat):Int)=a:=by simp; omega
   refine ⟨1,?_⟩
   rw [ea]
   simp [EC,cM,aQ,aN,aO,fIx,atI,ixN,fEq,fNe,eqN,aV,aT,aS,aU,aI,aW,frz,aR]
  ·have hl:=zG a h0
   have hp:0 < b:=by omega
   obtain ⟨n,e⟩:=yY S m b (a.fmod b) hb (Int.fmod_nonneg_of_pos a hp) (by omega)
   refine ⟨n+1,?_⟩
   rw [← zQ,← e]
   simp [EC,cM,aQ,aN,aO,fIx,atI,ixN,fEq,fNe,eqN,aV,aT,aS,aU,aI,aW,frz,aR,fY h0,hp,qV]
theorem agz (a b:Int) (S:Sto):lP [.pv (.int a),.pv (.int b)] S=.ok (.pv (.int (Int.gcd a b:Nat))) S:=by
 have ha:0≤(if a < 0 then -a else a):=by split <;> omega
 have hb:0≤(if b < 0 then -b else b):=by split <;> omega
 obtain ⟨n,e⟩:=yY S _ _ _ ha hb (Nat.le_refl _)
 have w:=rX e (by simp)
 have eg:Int.gcd (if a < 0 then -a else a) (if b < 0 then -b else b)=Int.gcd a b:=by
  rw [uL,uL]
  simp [Int.gcd]
 rw [eg] at w
 unfold lP fnM uI
 simp [EC,aQ,aN,aO,fIx,atI,ixN,fEq,fNe,eqN,aV,aT,aS,aU,aI,aW,frz,aR,w]
theorem zL (S:Sto) (v2:Option AV):∀ (ns:List Int) (g:Int) (a:AV),∃ v',bZ [] (gN 2) (aM 1 (aL lP [] (aB (aA 1) (aB (aA 2) aD)))) (ns.map .int) [some a,some (.pv (.int g)),v2] S=.nx [some a,some (.pv (.int (gl ns g))),v'] S
 | [],g,a=>⟨v2,eO⟩
 | n :: ns,g,a=>by
  obtain ⟨v',e⟩:=zL S (some (.pv (.int n))) ns (Int.gcd g n:Nat) a
  refine ⟨v',?_⟩
  show bZ [] _ _ (.int n :: ns.map .int) _ S=_
  rw [eJ]
  simp [EC,gN,aQ,aN,aO,fIx,atI,ixN,fEq,fNe,eqN,aV,aT,aS,aU,aI,aW,frz,aR,agz]
  exact e
theorem sT (S:Sto) (g:Int) (hg:g≠0) (b:Bd 8000 g):∀ (ns:List Int) (x:Option AV),bY [] (gN 0) (aC fB (aA 0) (aA 1)) (ns.map .int) [x,some (.pv (.int g))] S=.ok ((ns.map fun n=>n.fdiv g).map .int) S
 | [],x=>eA
 | n :: ns,x=>by
  have ih:=sT S g hg b ns (some (.pv (.int n)))
  show bY [] _ _ (.int n :: ns.map .int) _ S=_
  rw [eF]
  simp [EC,gN,aQ,aN,aO,fIx,atI,ixN,fEq,fNe,eqN,aV,aT,aS,aU,aI,aW,frz,aR,oV (show lX n g from ⟨hg,b⟩),ih]
theorem zB (ns:List Int) (S:Sto) (hb:∀ n∈ns,Bd 8000 n):jW [.pv (.lst (ns.map .int))] S=.ok (.pv (.tup ((low ns).map .int))) S:=by
 obtain ⟨v',e⟩:=zL S none ns 0 (.pv (.lst (ns.map .int)))
 unfold jW fnM sB
 by_cases h:gl ns 0=0
 ·have el:low ns=ns:=by unfold low; rw [if_pos h]
  simp [EC,aQ,aN,aO,fIx,atI,ixN,fEq,fNe,eqN,aV,aT,aS,aU,aI,aW,frz,aR,bU,mIt,cN,e,h,el]
 ·have el:low ns=ns.map fun n=>n.fdiv (gl ns 0):=by
   unfold low
   rw [if_neg h]
   exact List.map_congr_left fun n hn=>(Int.fdiv_eq_ediv_of_dvd ((gL ns 0).2 n hn)).symm
  have bg:Bd 8000 (gl ns 0):=vU (Bd.of (n:=0) (by simp) (Nat.two_pow_pos 8000)) hb
  have ec:=sT S (gl ns 0) h bg ns none
  simp [EC,aQ,aN,aO,fIx,atI,ixN,fEq,fNe,eqN,aV,aT,aS,aU,aI,aW,frz,aR,bU,mIt,cN,e,h,el,bF,cD,ec]
theorem jE (i:Int) {j:Int} (h1:-(2 ^ 64) < j) (h2:j < 2 ^ 64):aZ (.int i) (.int j)=some (.int (i*j)):=jM (.inl (.inr ⟨h1,h2⟩))
theorem p18:gZ (.int 10) (.int 18)=some (.int 1000000000000000000):=pK (i:=10) (j:=18) ⟨by decide,by decide,by decide⟩
theorem tF {k:Nat} {a:AV}:∀ (cs:List Int) (n:Nat) (acc:List Int) (S:Sto) (v2 v3 v4 v5 v6:Option AV),Row S k acc→acc.length+cs.length≤63→n+cs.length≤63→∃ (acc':List Int) (w2 w3 w4 w5 w6:Option AV),bZ [] (gT 2 (bT (gN 2) (bT (gN 3) dD))) ((sIf (bK (aC fGe (aA 3) (aC gZ (mC (.int 10)) (mC (.int 18))))) (eB (eI (aA 1) (aB (aC dR (aA 3) (aC gZ (mC (.int 10)) (mC (.int 18)))) aD))) (aK (aM 4 (aC cE (aC aZ (aC aI (aC aI (aC aI (aA 3) (aC aZ (aC aZ (mC (.int 7)) (aA 2)) (aA 2))) (aC aZ (mC (.int 13)) (aA 2))) (mC (.int 5))) (mC (.int 48271))) (mC (.int 2147483647))))
 (aK (aM 5 (aC cE (aC aZ (aC aI (aC aI (aC aI (aA 3) (aC aZ (aC aZ (mC (.int 11)) (aA 2)) (aA 2))) (aC aZ (mC (.int 17)) (aA 2))) (mC (.int 3))) (mC (.int 40692))) (mC (.int 2147483399))))
 (aK (aM 6 (aC cE (aC aZ (aC aI (aC aI (aC aI (aA 3) (aC aZ (aC aZ (mC (.int 5)) (aA 2)) (aA 2))) (aC aZ (mC (.int 29)) (aA 2))) (mC (.int 8))) (mC (.int 39373))) (mC (.int 2147483587))))
 (aK (aM 4 (aC cE (aC aZ (aA 4) (mC (.int 52021))) (mC (.int 1000000007))))
 (aK (aM 5 (aC cE (aC aZ (aA 5) (mC (.int 30011))) (mC (.int 998244353))))
 (aK (aM 6 (aC cE (aC aZ (aA 6) (mC (.int 45989))) (mC (.int 1000000009))))
 (eB (eI (aA 1) (aB (aC aI (aC aZ (aC aI (aC aZ (aA 4) (mC (.int 998244353))) (aA 5)) (mC (.int 1000000009))) (aA 6)) aD))))))))))) (fX n (cs.map .int)) [some a,some (.ref k),v2,v3,v4,v5,v6] S=.nx [some a,some (.ref k),w2,w3,w4,w5,w6] (S.set k (.lst (acc'.map .int)))∧acc'.length≤63
 | [],n,acc,S,v2,v3,v4,v5,v6,h,hl,_=>by
  refine ⟨acc,v2,v3,v4,v5,v6,?_,by simpa using hl⟩
  have e:S.set k (.lst (acc.map .int))=S:=List.ext_getElem? fun j=>by
   by_cases q:k=j
   ·subst q; rw [List.getElem?_set_self h.lt]; exact h.symm
   ·rw [List.getElem?_set_ne q]
  rw [e]
  exact eO
 | x :: cs,n,acc,S,v2,v3,v4,v5,v6,h,hl,hn=>by
  simp only [List.length_cons] at hl hn
  have h':S[k]?=some (.lst (acc.map .int)):=h
  have hlen:acc.length < 16777216:=by omega
  have hk1:-(2 ^ 64) < (n:Int):=by omega
  have hk2:(n:Int) < 2 ^ 64:=by omega
  by_cases c:(1000000000000000000:Int)≤x
  ·obtain ⟨acc',w2,w3,w4,w5,w6,e,q⟩:=tF (k:=k) (a:=a) cs (n+1) (acc++[x - 1000000000000000000]) (S.set k (.lst ((acc++[x - 1000000000000000000]).map .int))) (some (.pv (.int n))) (some (.pv (.int x))) v4 v5 v6 (h.set _) (by simp; omega) (by omega)
   refine ⟨acc',w2,w3,w4,w5,w6,?_,q⟩
   rw [List.set_set] at e
   rw [← e]
   show bZ [] _ _ (.tup [.int n,.int x] :: fX (n+1) (cs.map .int)) _ S=_
   rw [eJ]
   simp [EC,gT,bT,dD,gN,aQ,aN,aO,fIx,atI,ixN,fEq,fNe,eqN,aV,aT,aS,aU,aI,aW,frz,aR,p18,c,eI,eC,iS,h',hlen]
  ·obtain ⟨acc',w2,w3,w4,w5,w6,e,q⟩:=tF (k:=k) (a:=a) cs (n+1) (acc++[((((x+7*n*n+13*n+5)*48271).fmod 2147483647*52021).fmod 1000000007*998244353+(((x+11*n*n+17*n+3)*40692).fmod 2147483399*30011).fmod 998244353)*1000000009+(((x+5*n*n+29*n+8)*39373).fmod 2147483587*45989).fmod 1000000009]) (S.set k (.lst ((acc++[((((x+7*n*n+13*n+5)*48271).fmod 2147483647*52021).fmod 1000000007*998244353+(((x+11*n*n+17*n+3)*40692).fmod 2147483399*30011).fmod 998244353)*1000000009+(((x+5*n*n+29*n+8)*39373).fmod 2147483587*45989).fmod 1000000009]).map .int))) (some (.pv (.int n))) (some (.pv (.int x))) (some (.pv (.int ((((x+7*n*n+13*n+5)*48271).fmod 2147483647*52021).fmod 1000000007)))) (some (.pv (.int ((((x+11*n*n+17*n+3)*40692).fmod 2147483399*30011).fmod 998244353)))) (some (.pv (.int ((((x+5*n*n+29*n+8)*39373).fmod 2147483587*45989).fmod 1000000009)))) (h.set _) (by simp; omega) (by omega)
   refine ⟨acc',w2,w3,w4,w5,w6,?_,q⟩
   rw [List.set_set] at e
   rw [← e]
   show bZ [] _ _ (.tup [.int n,.int x] :: fX (n+1) (cs.map .int)) _ S=_
   rw [eJ]
   simp [EC,gT,bT,dD,gN,aQ,aN,aO,fIx,atI,ixN,fEq,fNe,eqN,aV,aT,aS,aU,aI,aW,frz,aR,p18,c,eI,eC,iS,h',hlen,jE _ hk1 hk2,jE _ (show -(2 ^ 64) < (48271:Int) by decide) (by decide),jE _ (show -(2 ^ 64) < (40692:Int) by decide) (by decide),jE _ (show -(2 ^ 64) < (39373:Int) by decide) (by decide),jE _ (show -(2 ^ 64) < (52021:Int) by decide) (by decide),jE _ (show -(2 ^ 64) < (30011:Int) by decide) (by decide),jE _ (show -(2 ^ 64) < (45989:Int) by decide) (by decide),jE _ (show -(2 ^ 64) < (998244353:Int) by decide) (by decide),jE _ (show -(2 ^ 64) < (1000000009:Int) by decide) (by decide),fY (show (2147483647:Int)≠0 by decide),fY (show (2147483399:Int)≠0 by decide),fY (show (2147483587:Int)≠0 by decide),fY (show (1000000007:Int)≠0 by decide),fY (show (998244353:Int)≠0 by decide),fY (show (1000000009:Int)≠0 by decide)]
theorem ago (ns:List Int) (S:Sto) (h:ns.length≤63):∃ ms:List Int,kM [.pv (.lst (ns.map .int))] S=.ok (.ref S.length) (S++[.lst (ms.map .int)])∧ms.length≤63:=by
 have hr:Row (S++[.lst []]) S.length []:=by unfold Row; simp
 obtain ⟨ms,w2,w3,w4,w5,w6,e,q⟩:=tF (a:=.pv (.lst (ns.map .int))) ns 0 [] (S++[.lst []]) none none none none none hr (by simpa using h) (by simpa using h)
 have ec:hJ (ns.map .int) none (some 63)=ns.map .int:=by
  unfold hJ
  have e1:HT.sIx (ns.map PV.int).length 0 none=0:=rfl
  have e2:HT.sIx (ns.map PV.int).length (ns.map PV.int).length (some 63)=(ns.map PV.int).length:=by
   have:=HT.sIx_nat (ns.map PV.int).length (ns.map PV.int).length 63
   rw [show ((63:Nat):Int)=63 from rfl] at this
   rw [this,List.length_map]
   omega
  rw [e1,e2,List.drop_zero,Nat.sub_zero,List.take_length]
 refine ⟨ms,?_,q⟩
 have es:(S++[SO.lst []]).set S.length (.lst (ms.map .int))=S++[.lst (ms.map .int)]:=by simp
 rw [es] at e
 unfold kM fnM uV
 simp [EC,aQ,aN,aO,fIx,atI,ixN,fEq,fNe,eqN,aV,aT,aS,aU,aI,aW,frz,aR,bU,fN,lU,wA,mSl,mO0,mO1,iE,fSl,uS,ec,e]
theorem aei {L:List Int} (h:gl L 0≠0):(low L).map (gl L 0*·)=L:=by
 unfold low
 rw [if_neg h,List.map_map]
 conv=>rhs; rw [← List.map_id L]
 refine List.map_congr_left fun n hn=>?_
 show gl L 0*(n / gl L 0)=n
 exact Int.mul_ediv_cancel' ((gL L 0).2 n hn)
theorem aaJ (S:Sto) (v2:Option AV):∀ (ns:List Int) (g:Int) (a:AV),∃ v',bZ [] (gN 2) (aM 1 (aL kX [] (aB (aA 1) (aB (aA 2) aD)))) (ns.map .int) [some a,some (.pv (.int g)),v2] S=.nx [some a,some (.pv (.int (gl ns g))),v'] S
 | [],g,a=>⟨v2,eO⟩
 | n :: ns,g,a=>by
  obtain ⟨v',e⟩:=aaJ S (some (.pv (.int n))) ns (Int.gcd g n:Nat) a
  refine ⟨v',?_⟩
  show bZ [] _ _ (.int n :: ns.map .int) _ S=_
  rw [eJ]
  simp [EC,gN,aQ,aN,aO,fIx,atI,ixN,fEq,fNe,eqN,aV,aT,aS,aU,aI,aW,frz,aR,aa2]
  exact e
theorem aaT (ns:List Int) (S:Sto) (hb:∀ n∈ns,Bd 8000 n) (h:gl ns 0≠0):mP [.pv (.lst (ns.map .int))] S=.ok (.pv (.lst ((low ns).map .int))) S:=by
 obtain ⟨v',e⟩:=aaJ S none ns 0 (.pv (.lst (ns.map .int)))
 have el:low ns=ns.map fun n=>n.fdiv (gl ns 0):=by
  unfold low
  rw [if_neg h]
  exact List.map_congr_left fun n hn=>(Int.fdiv_eq_ediv_of_dvd ((gL ns 0).2 n hn)).symm
 have bg:Bd 8000 (gl ns 0):=vU (Bd.of (n:=0) (by simp) (Nat.two_pow_pos 8000)) hb
 have ec:=sT S (gl ns 0) h bg ns none
 unfold mP fnM sH
 simp [EC,aQ,aN,aO,fIx,atI,ixN,fEq,fNe,eqN,aV,aT,aS,aU,aI,aW,frz,aR,bU,mIt,cN,e,h,el,bF,cD,ec]
theorem aaM (S:Sto) (b:Int):∀ (ns:List Int) (x:Option AV),bY [] (gN 0) (aC aZ (aL lS [] (aB (aA 1) aD)) (aA 0)) (ns.map .int) [x,some (.pv (.int b))] S=.ok ((ns.map (sg b*·)).map .int) S
 | [],x=>eA
 | n :: ns,x=>by
  have ih:=aaM S b ns (some (.pv (.int n)))
  have hm:aZ (.int (sg b)) (.int n)=some (.int (sg b*n)):=jM (.inl (.inl (acw b)))
  show bY [] _ _ (.int n :: ns.map .int) _ S=_
  rw [eF]
  simp [EC,gN,aQ,aN,aO,fIx,atI,ixN,fEq,fNe,eqN,aV,aT,aS,aU,aI,aW,frz,aR,aeV,hm,ih]
theorem acP (zs:List Int) (z:Int):hJ ((zs++[z]).map .int) none (some (-1))=zs.map .int:=by
 unfold hJ
 have e1:HT.sIx ((zs++[z]).map PV.int).length 0 none=0:=rfl
 have e2:HT.sIx ((zs++[z]).map PV.int).length ((zs++[z]).map PV.int).length (some (-1))=zs.length:=by
  rw [List.length_map,List.length_append]
  exact aaK zs.length _
 rw [e1,e2]
 simp
theorem abp (zs:List Int) (z:Int):¬ (HT.sIx ((zs++[z]).map PV.int).length 0 none=0∧HT.sIx ((zs++[z]).map PV.int).length ((zs++[z]).map PV.int).length (some (-1))=((zs++[z]).map PV.int).length):=by
 rintro ⟨_,e⟩
 have e2:HT.sIx ((zs++[z]).map PV.int).length ((zs++[z]).map PV.int).length (some (-1))=zs.length:=by
  rw [List.length_map,List.length_append]
  exact aaK zs.length _
 rw [e2,List.length_map,List.length_append] at e
 simp at e
theorem zV (zs:List Int) (z:Int):fSl (.tup ((zs++[z]).map .int)) none (some (-1))=some (.tup (zs.map .int)):=by
 unfold fSl
 dsimp only
 rw [if_neg (abp zs z),acP]
theorem lG (zs:List Int) (z:Int):fIx (.tup ((zs++[z]).map .int)) (.int (-1))=some (.int z):=by
 show atI ((zs++[z]).map PV.int) (-1)=_
 rw [List.map_append]
 exact adm _ _
theorem sm8 {m:Int} (h0:0≤m) (h:m < 1024):Bd 8000 m:=Bd.of (n:=1023) (by omega) (Nat.lt_of_lt_of_le (show 1023 < 2 ^ 10 by decide) (Nat.pow_le_pow_right (by decide) (by decide)))
theorem dF (n:Nat) (a b:Int):eqN n (.int a) (.int b)=some (a == b):=by cases n <;> rfl
theorem mB {a b:Int} (h:Bd 2000 a) (g:Bd 2000 b):aZ (.int a) (.int b)=some (.int (a*b)):=jM (.inr ⟨h.mono (by decide),g.mono (by decide)⟩)
structure Pt (n:Nat) (xs:List Int) (w:Int):Prop where
 len:xs.length=n
 pos:0 < w
 low:low (xs++[w])=xs++[w]
 bx:∀ x∈xs,Bd 300 x
 bw:Bd 300 w
def mv (way:Int) (xs:List Int) (w:Int) (ys:List Int) (v:Int):List Int:=if way=1 then low (sm xs w ys v++[w*v]) else low (sm ys v (xs.map (- ·)) w++[v*w])
theorem pN (zs:List Int) (z:Int) (j:Nat) (h:j < zs.length):fIx (.tup ((zs++[z]).map .int)) (.int (j:Nat))=some (.int (zs.getD j 0)):=by
 show atI ((zs++[z]).map PV.int) (j:Int)=_
 refine mT ?_
 rw [List.getElem?_map,List.getElem?_append_left h,List.getElem?_eq_getElem h]
 simp [List.getD,h]
theorem ab4 (S:Sto) (PL QL:List PV) (xs ys:List Int) (w v way:Int) (hp:fIx (.tup PL) (.int (-1))=some (.int w)) (hq:fIx (.tup QL) (.int (-1))=some (.int v)) (hpj:∀ j:Nat,j < xs.length→fIx (.tup PL) (.int (j:Nat))=some (.int (xs.getD j 0))) (hqj:∀ j:Nat,j < xs.length→fIx (.tup QL) (.int (j:Nat))=some (.int (ys.getD j 0)))
  (hway:way=1∨way=-1) (bw:Bd 1000 w) (bv:Bd 1000 v) (hx:∀ j,Bd 1000 (xs.getD j 0)) (hy:∀ j,Bd 1000 (ys.getD j 0)):∀ (js:List Nat) (x:Option AV),(∀ j∈js,j < xs.length) →
  bY [] (gN 0) (aC aI (aC aZ (aC aZ (aA 1) (aC fIx (aA 3) (aA 0))) (aC fIx (aA 2) (mUn cU (mC (.int 1))))) (aC aZ (aC fIx (aA 2) (aA 0)) (aC fIx (aA 3) (mUn cU (mC (.int 1)))))) (js.map fun j=>.int (0+(j:Nat))) [x,some (.pv (.int way)),some (.pv (.tup QL)),some (.pv (.tup PL))] S=.ok ((js.map fun j=>way*xs.getD j 0*v+ys.getD j 0*w).map .int) S
 | [],x,_=>eA
 | j :: js,x,h=>by
  have ih:=ab4 S PL QL xs ys w v way hp hq hpj hqj hway bw bv hx hy js (some (.pv (.int (0+(j:Nat))))) fun i hi=>h i (List.mem_cons_of_mem _ hi)
  have e1:=hpj j (h j List.mem_cons_self)
  have e2:=hqj j (h j List.mem_cons_self)
  have b1:Bd 2 way:=by rcases hway with rfl | rfl <;> exact Bd.of (n:=1) (by decide) (by decide)
  have m0:=mB (b1.mono (show 2≤2000 by decide)) ((hx j).mono (show 1000≤2000 by decide))
  have m1:=mB ((b1.mul (hx j)).mono (show 2+1000≤2000 by decide)) (bv.mono (show 1000≤2000 by decide))
  have m2:=mB ((hy j).mono (show 1000≤2000 by decide)) (bw.mono (show 1000≤2000 by decide))
  show bY [] _ _ (.int (0+(j:Nat)) :: js.map fun j=>.int (0+(j:Nat))) _ S=_
  rw [eF]
  simp only [Int.zero_add] at ih ⊢
  generalize hX:xs.getD j 0=X at e1 m0 m1
  generalize hY:ys.getD j 0=Y at e2 m2
  simp [EC,gN,aQ,aN,aO,fEq,fNe,dF,aV,aT,aS,aU,aI,aW,frz,aR,e1,e2,hp,hq,m0,m1,m2,ih]
  simp only [List.getD_eq_getElem?_getD] at hX hY
  rw [hX,hY]
theorem pI {xs:List Int} {k:Nat} (h:∀ x∈xs,Bd k x) (j:Nat):Bd k (xs.getD j 0):=by
 by_cases hj:j < xs.length
 ·have e:xs.getD j 0=xs[j]:=by simp [List.getD,hj]
  rw [e]
  exact h _ (List.getElem_mem hj)
 ·have e:xs.getD j 0=0:=by simp [List.getD,hj]
  rw [e]
  exact Bd.of (n:=0) (by decide) (Nat.two_pow_pos k)
theorem zA {xs ys:List Int} (hl:xs.length=ys.length) (f:Int→Int→Int):(List.range xs.length).map (fun j=>f (xs.getD j 0) (ys.getD j 0))=List.zipWith f xs ys:=by
 refine List.ext_getElem (by simp [hl]) fun i h1 h2=>?_
 have hi:i < xs.length:=by simpa using h1
 have hj:i < ys.length:=by omega
 simp [List.getD,hi,hj]
theorem ab5 {xs ys:List Int} {w v way:Int} (S:Sto) (hl:xs.length=ys.length) (h9:xs.length≤9) (hway:way=1∨way=-1) (hx:∀ x∈xs,Bd 1000 x) (hy:∀ y∈ys,Bd 1000 y) (bw:Bd 1000 w) (bv:Bd 1000 v) :
  jJ [.pv (.tup ((xs++[w]).map .int)),.pv (.tup ((ys++[v]).map .int)),.pv (.int way)] S=.ok (.pv (.tup ((low (List.zipWith (fun x y=>way*x*v+y*w) xs ys++[w*v])).map .int))) S:=by
 have ip:=lG xs w
 have iq:=lG ys v
 have ec:=ab4 S _ _ xs ys w v way ip iq (fun j h=>pN xs w j h) (fun j h=>pN ys v j (by omega)) hway bw bv (pI hx) (pI hy) (List.range xs.length) none fun j hj=>by simpa using hj
 have er:(List.range xs.length).map (fun j=>way*xs.getD j 0*v+ys.getD j 0*w)=List.zipWith (fun x y=>way*x*v+y*w) xs ys:=zA hl fun x y=>way*x*v+y*w
 rw [er] at ec
 have mm:=mB (bw.mono (show 1000≤2000 by decide)) (bv.mono (show 1000≤2000 by decide))
 have b1:Bd 2 way:=by rcases hway with rfl | rfl <;> exact Bd.of (n:=1) (by decide) (by decide)
 have el:=zB (List.zipWith (fun x y=>way*x*v+y*w) xs ys++[w*v]) S (fun n hn=>by
  rcases List.mem_append.mp hn with z | z
  ·obtain ⟨i,hi,e⟩:=List.getElem_of_mem z
   rw [List.getElem_zipWith] at e
   rw [← e]
   exact ((((b1.mul (hx _ (List.getElem_mem _))).mul bv).mono (show 2+1000+1000≤3000 by decide)).add (((hy _ (List.getElem_mem _)).mul bw).mono (show 1000+1000≤3000 by decide))).mono (by decide)
  ·have:n=w*v:=by simpa using z
   rw [this]
   exact (bw.mul bv).mono (by decide))
 have hlen:((xs++[w]).map PV.int).length=xs.length+1:=by simp
 have hz:xs.length+1≤16777216:=by omega
 have hr:fO [.pv (.int (((xs.length+1:Nat):Int) - 1))] S=.ok ((List.range xs.length).map fun j=>.int (0+(j:Nat)),[]) S:=by
  unfold fO
  dsimp only
  rw [if_pos ⟨by omega,by omega⟩]
  have:(((xs.length+1:Nat):Int) - 1).toNat=xs.length:=by omega
  rw [this]
  rfl
 have hzl:(List.zipWith (fun x y=>way*x*v+y*w) xs ys).length+1≤16777216:=by rw [List.length_zipWith]; omega
 simp only [List.map_append,List.map_cons,List.map_nil] at el
 generalize hZ:(List.zipWith (fun x y=>way*x*v+y*w) xs ys).map PV.int=ZL at ec el
 have hzl2:ZL.length+1≤16777216:=by rw [← hZ,List.length_map]; exact hzl
 generalize (List.range xs.length).map (fun j=>PV.int (0+(j:Nat)))=RL at ec hr
 generalize hP:(xs++[w]).map PV.int=PL at ip ec hlen
 generalize (ys++[v]).map PV.int=QL at iq ec
 unfold jJ fnM sJ
 have hr2:=hr
 rw [← hlen] at hr2
 simp [EC,aQ,aN,aO,fEq,fNe,dF,aV,aT,aS,aU,aI,aW,frz,aR,bF,bJ,hr2,cD,ec,ip,iq,mm,hzl2,el]
theorem aaw {k:Nat} {W:Int} (W0:0≤W) (W1:W≤1000000000000):∀ (is:List PV) (S:Sto) (ns:List Int) (x:Option AV),Row S k ns→∃ (xs ns':List Int),bY [] (gN 0) (aC dR (aL cV [] (aB (aA 2) (aB (aC aI (aC aZ (mC (.int 2)) (aA 1)) (mC (.int 1))) aD))) (aA 1)) is [x,some (.pv (.int W)),some (.ref k)] S=.ok (xs.map .int) (S.set k (.lst (ns'.map .int)))∧xs.length=is.length∧∀ n∈xs,Bd 50 n
 | [],S,ns,x,h=>by
  refine ⟨[],ns,?_,rfl,fun _ h=>absurd h List.not_mem_nil⟩
  have e:S.set k (.lst (ns.map .int))=S:=List.ext_getElem? fun j=>by
   by_cases q:k=j
   ·subst q; rw [List.getElem?_set_self h.lt]; exact h.symm
   ·rw [List.getElem?_set_ne q]
  rw [e]
  exact eA
 | i :: is,S,ns,x,h=>by
  obtain ⟨t,n1,e1,t0,t1,_⟩:=iJ (m:=2*W+1) h (by omega) ((Bd.of (k:=50) (n:=2000000000001) (by omega) (by decide)).mono (by decide))
  obtain ⟨xs,n2,e2,l2,b2⟩:=aaw W0 W1 is _ n1 (some (.pv i)) (h.set n1)
  rw [List.set_set] at e2
  have m2:aZ (.int 2) (.int W)=some (.int (2*W)):=jM (.inl (.inl ⟨by decide,by decide⟩))
  refine ⟨(t - W) :: xs,n2,?_,by simp [l2],fun n hn=>?_⟩
  ·rw [eF]
   generalize S.set k (.lst (n1.map .int))=S1 at e1 e2
   simp [EC,gN,aQ,aN,aO,fIx,atI,ixN,fEq,fNe,eqN,aV,aT,aS,aU,aI,aW,frz,aR,m2,e1,e2]
  ·rcases List.mem_cons.mp hn with rfl | hn
   ·exact Bd.of (n:=1000000000000) (by omega) (by decide)
   ·exact b2 n hn
theorem ahx {v:Int} (h0:0≤v) (h1:v < 4):∃ M:Int,fIx (.lst [.int 0,.int 3,.int 9,.int 1000000000000]) (.int v)=some (.int M)∧0≤M∧M≤1000000000000:=by
 have c:v=0∨v=1∨v=2∨v=3:=by omega
 rcases c with rfl | rfl | rfl | rfl
 ·exact ⟨0,rfl,by decide,by decide⟩
 ·exact ⟨3,rfl,by decide,by decide⟩
 ·exact ⟨9,rfl,by decide,by decide⟩
 ·exact ⟨1000000000000,rfl,by decide,by decide⟩
theorem p12:gZ (.int 10) (.int 12)=some (.int 1000000000000):=pK (i:=10) (j:=12) ⟨by decide,by decide,by decide⟩
theorem ag2 {v:Int} (h0:0≤v) (h1:v < 4):0≤v.fdiv 2∧v.fdiv 2≤1:=by
 have c:v=0∨v=1∨v=2∨v=3:=by omega
 rcases c with rfl | rfl | rfl | rfl <;> decide
theorem afC {n k:Nat} {L:List Int} {b:Int} (hb:0 < b) (hl:L.length=n) (hk:k≤300) (hL:∀ x∈L,Bd k x) (bb:Bd k b):∃ (zs:List Int) (z:Int),low (L++[b])=zs++[z]∧Pt n zs z∧(∀ x∈zs,Bd k x)∧Bd k z:=by
 obtain ⟨zs,z,g,e,hg,hz,_,_,hzl⟩:=uR L hb
 have hbd:=ady (k:=k) (ns:=L++[b]) fun m hm=>by
  rcases List.mem_append.mp hm with y | y
  ·exact hL m y
  ·have:m=b:=by simpa using y
   rw [this]; exact bb
 have hlow:=abt L hb
 rw [e] at hbd hlow
 have b1:∀ x∈zs,Bd k x:=fun x hx=>hbd x (List.mem_append_left _ hx)
 have b2:Bd k z:=hbd z (kA zs z)
 exact ⟨zs,z,e,⟨hzl.trans hl,hz,hlow,fun x hx=>(b1 x hx).mono hk,b2.mono hk⟩,b1,b2⟩
theorem adL {S:Sto} {k:Nat} {ns:List Int} (n:Nat) (hn:n=2∨n=3) (h:Row S k ns):∃ (xs:List Int) (w:Int) (ns':List Int),eG [.ref k,.pv (.int n)] S=.ok (.pv (.tup ((xs++[w]).map .int))) (S.set k (.lst (ns'.map .int)))∧Pt n xs w∧(∀ x∈xs,Bd 100 x)∧Bd 100 w:=by
 obtain ⟨c,n1,e1,c0,c1,_⟩:=iJ (m:=4) h (by decide) (sm8 (by decide) (by decide))
 obtain ⟨M,em,M0,M1⟩:=ahx c0 c1
 obtain ⟨t,n2,e2,t0,t1,_⟩:=iJ (m:=9) (h.set n1) (by decide) (sm8 (by decide) (by decide))
 rw [List.set_set] at e2
 obtain ⟨xs,n3,e3,l3,b3⟩:=aaw M0 M1 (fV 0 n) _ n2 none (h.set n2)
 rw [List.set_set] at e3
 have hc:=ag2 c0 c1
 have mt:aZ (.int t) (.int (c.fdiv 2))=some (.int (t*c.fdiv 2)):=jM (.inl (.inl ⟨by omega,by omega⟩))
 have qt:fB (.int c) (.int 2)=some (.int (c.fdiv 2)):=oV ⟨by decide,sm8 (by decide) (by decide)⟩
 have hm:0≤t*c.fdiv 2∧t*c.fdiv 2≤8:=by
  have c2:c.fdiv 2=0∨c.fdiv 2=1:=by omega
  rcases c2 with z | z <;> rw [z] <;> omega
 have lx:xs.length=n:=by rw [l3]; unfold fV; simp
 generalize t*c.fdiv 2=tc at mt hm
 obtain ⟨zs,z,ez,P,b1,b2⟩:=afC (n:=n) (k:=100) (L:=xs) (b:=1+tc) (by omega) lx (by decide) (fun x hx=>(b3 x hx).mono (by decide)) (Bd.of (n:=9) (by omega) (by decide))
 have el:=zB (xs++[1+tc]) (S.set k (.lst (n3.map .int))) (fun m hm=>by
  rcases List.mem_append.mp hm with y | y
  ·exact (b3 m y).mono (by decide)
  ·have:m=1+tc:=by simpa using y
   rw [this]
   exact (Bd.of (k:=4) (n:=9) (by omega) (by decide)).mono (by decide))
 rw [ez] at el
 refine ⟨zs,z,n3,?_,P,b1,b2⟩
 have tk3:=zP S k (.lst (n3.map .int))
 have hz:xs.length+1≤16777216:=by omega
 generalize S.set k (.lst (n1.map .int))=S1 at e1 e2
 generalize S.set k (.lst (n2.map .int))=S2 at e2 e3
 generalize S.set k (.lst (n3.map .int))=S3 at e3 el tk3
 have hr:fO [.pv (.int (n:Int))] S2=.ok (fV 0 n,[]) S2:=by
  unfold fO
  dsimp only
  rw [if_pos ⟨by omega,by omega⟩]
  rfl
 conv at el=>lhs; rw [List.map_append]
 simp only [List.map_cons,List.map_nil] at el
 generalize (zs++[z]).map PV.int=ZL at el
 unfold eG fnM uO
 simp [EC,aQ,aN,aO,fEq,fNe,dF,aV,aT,aS,aU,aI,aW,frz,aR,p12,e1,em,e2,mt,qt,bF,bJ,hr,cD,e3,hz,el,tk3]
theorem yD {way:Int} (h:way=1∨way=-1) (xs:List Int) (w:Int) (ys:List Int) (v:Int):low (List.zipWith (fun x y=>way*x*v+y*w) xs ys++[w*v])=mv way xs w ys v:=by
 unfold mv
 rcases h with rfl | rfl
 ·rw [if_pos rfl,abb]
 ·rw [if_neg (by decide),aav,Int.mul_comm w v]
structure Pq (n k:Nat) (xs:List Int) (w:Int):Prop where
 len:xs.length=n
 pos:0 < w
 low:low (xs++[w])=xs++[w]
 bx:∀ x∈xs,Bd k x
 bw:Bd k w
def Vl (n:Nat) (xs:List Int) (w:Int) (N:Nat→Int) (D:Int):Prop:=∀ j,j < n→xs.getD j 0*D=N j*w
theorem Vl.self (n:Nat) (xs:List Int) (w:Int):Vl n xs w (fun j=>xs.getD j 0) w:=fun _ _=>rfl
theorem agl {a b c:Int} (h:0 < c) (e:a*c=b*c):a=b:=Int.eq_of_mul_eq_mul_right (by omega) e
theorem ael {xs ys:List Int} {f:Int→Int→Int} {j:Nat} (h1:j < xs.length) (h2:j < ys.length):(List.zipWith f xs ys).getD j 0=f (xs.getD j 0) (ys.getD j 0):=by
 have:j < (List.zipWith f xs ys).length:=by rw [List.length_zipWith]; omega
 simp only [List.getD,List.getElem?_eq_getElem this,List.getElem?_eq_getElem h1,List.getElem?_eq_getElem h2,Option.getD_some,List.getElem_zipWith]
theorem agW {n k l:Nat} {way:Int} {xs ys:List Int} {w v:Int} (hway:way=1∨way=-1) (P:Pq n k xs w) (Q:Pq n l ys v):∃ (zs:List Int) (z:Int),mv way xs w ys v=zs++[z]∧Pq n (k+l+1) zs z ∧
  ∀ (N M:Nat→Int) (D E:Int),Vl n xs w N D→Vl n ys v M E→0 < D→0 < E→Vl n zs z (fun j=>way*N j*E+M j*D) (D*E):=by
 rw [← yD hway]
 have hb:=Int.mul_pos P.pos Q.pos
 have hl:(List.zipWith (fun x y=>way*x*v+y*w) xs ys).length=n:=by rw [List.length_zipWith,P.len,Q.len]; omega
 obtain ⟨zs,z,g,e,hg,hz,g1,g2,hzl⟩:=uR (List.zipWith (fun x y=>way*x*v+y*w) xs ys) hb
 have hlow:=abt (List.zipWith (fun x y=>way*x*v+y*w) xs ys) hb
 have hbd:=ady (k:=k+l+1) (ns:=List.zipWith (fun x y=>way*x*v+y*w) xs ys++[w*v]) fun m hm=>by
  rcases List.mem_append.mp hm with y | y
  ·obtain ⟨i,hi,e⟩:=List.getElem_of_mem y
   rw [List.getElem_zipWith] at e
   rw [← e]
   have b1:=(P.bx _ (List.getElem_mem (l:=xs) (n:=i) (by rw [List.length_zipWith] at hi; omega))).mul Q.bw
   have b2:=(Q.bx _ (List.getElem_mem (l:=ys) (n:=i) (by rw [List.length_zipWith] at hi; omega))).mul P.bw
   have b3:Bd (k+l) (way*xs[i]'(by rw [List.length_zipWith] at hi; omega)*v):=by
    rcases hway with rfl | rfl
    ·rw [Int.one_mul]; exact b1
    ·have:(-1:Int)*xs[i]'(by rw [List.length_zipWith] at hi; omega)*v=-(xs[i]'(by rw [List.length_zipWith] at hi; omega)*v):=by rw [Int.neg_mul,Int.one_mul,Int.neg_mul]
     rw [this]; exact b1.neg
   exact b3.add (b2.mono (by omega))
  ·have:m=w*v:=by simpa using y
   rw [this]
   exact (P.bw.mul Q.bw).mono (by omega)
 rw [e] at hbd hlow
 refine ⟨zs,z,e,⟨hzl.trans hl,hz,hlow,fun x hx=>hbd x (List.mem_append_left _ hx),hbd z (kA zs z)⟩,fun N M D E a b hD hE j hj=>?_⟩
 have h1:(List.zipWith (fun x y=>way*x*v+y*w) xs ys).getD j 0=g*zs.getD j 0:=by
  rw [g1]
  have:j < zs.length:=by rw [hzl,hl]; exact hj
  simp [List.getD,this]
 rw [ael (by rw [P.len]; exact hj) (by rw [Q.len]; exact hj)] at h1
 have a1:=a j hj
 have b1:=b j hj
 generalize xs.getD j 0=X at a1 h1
 generalize ys.getD j 0=Y at b1 h1
 generalize zs.getD j 0=Z at h1 ⊢
 show Z*(D*E)=(way*N j*E+M j*D)*z
 generalize N j=A at *
 generalize M j=B at *
 refine agl (c:=g*(w*v)) (Int.mul_pos hg hb) ?_
 have p1:=P.pos
 have p2:=Q.pos
 have k1:(way*X*v+Y*w)*(D*E)=(way*A*E+B*D)*(w*v):=by grind
 have k2:Z*(D*E)*(g*(w*v))=(way*X*v+Y*w)*(D*E)*(w*v):=by rw [h1]; grind
 rw [k2,k1,g2]
 grind
theorem Pt.pq {n k:Nat} {xs:List Int} {w:Int} (P:Pt n xs w) (b:∀ x∈xs,Bd k x) (bw:Bd k w):Pq n k xs w:=⟨P.len,P.pos,P.low,b,bw⟩
theorem Pq.mono {n k l:Nat} {xs:List Int} {w:Int} (P:Pq n k xs w) (h:k≤l):Pq n l xs w:=⟨P.len,P.pos,P.low,fun x hx=>(P.bx x hx).mono h,P.bw.mono h⟩
theorem aek {n k l:Nat} {way:Int} {xs ys:List Int} {w v:Int} (S:Sto) (hn:n=2∨n=3) (hway:way=1∨way=-1) (P:Pq n k xs w) (Q:Pq n l ys v) (hk:k≤1000) (hl:l≤1000):jJ [.pv (.tup ((xs++[w]).map .int)),.pv (.tup ((ys++[v]).map .int)),.pv (.int way)] S=.ok (.pv (.tup ((mv way xs w ys v).map .int))) S:=by
 have e:=ab5 (way:=way) S (P.len.trans Q.len.symm) (by rw [P.len]; omega) hway (fun x hx=>(P.bx x hx).mono hk) (fun x hx=>(Q.bx x hx).mono hl) (P.bw.mono hk) (Q.bw.mono hl)
 rw [yD hway] at e
 exact e
theorem rP:∀ is:List Int,gO (is.map .int)=some is
 | []=>rfl
 | i :: is=>by
  have ih:=rP is
  show (match gO (is.map .int) with | some bs=>some (i :: bs) | none=>none)=_
  rw [ih]
theorem oN (is:List Int):iH [.lst (is.map .int)]=some (.int is.sum):=by
 simp only [iH,rP,Option.map_some]
def wa (xs:List Int) (w:Int) (ys:List Int) (v:Int):List Int:=List.zipWith (fun x y=>y*w - x*v) xs ys
theorem abq (S:Sto) (PL QL:List PV) (w v:Int) (hp:fIx (.tup PL) (.int (-1))=some (.int w)) (hq:fIx (.tup QL) (.int (-1))=some (.int v)) (bw:Bd 2000 w) (bv:Bd 2000 v):∀ (xs ys:List Int) (x y:Option AV),xs.length=ys.length→(∀ x∈xs,Bd 2000 x)→(∀ y∈ys,Bd 2000 y) →
  bY [] (gT 2 (bT (gN 0) (bT (gN 1) dD))) (aC dR (aC aZ (aA 1) (aC fIx (aA 2) (mUn cU (mC (.int 1))))) (aC aZ (aA 0) (aC fIx (aA 3) (mUn cU (mC (.int 1)))))) (fD (xs.map .int) (ys.map .int)) [x,y,some (.pv (.tup PL)),some (.pv (.tup QL))] S=.ok ((wa xs w ys v).map .int) S
 | [],ys,x,y,hl,_,_=>by
  have:ys=[]:=List.length_eq_zero_iff.mp hl.symm
  subst this
  exact eA
 | a :: xs,[],x,y,hl,_,_=>by cases hl
 | a :: xs,b :: ys,x,y,hl,hx,hy=>by
  have ih:=abq S PL QL w v hp hq bw bv xs ys (some (.pv (.int a))) (some (.pv (.int b))) (by simpa using hl) (fun m hm=>hx m (List.mem_cons_of_mem _ hm)) (fun m hm=>hy m (List.mem_cons_of_mem _ hm))
  have m1:=mB (hx a List.mem_cons_self) bv
  have m2:=mB (hy b List.mem_cons_self) bw
  show bY [] _ _ (.tup [.int a,.int b] :: fD (xs.map .int) (ys.map .int)) _ S=_
  rw [eF]
  simp [gT,bT,dD,gN,EC,aQ,aN,aO,fEq,fNe,dF,aV,aT,aS,aU,aI,aW,frz,aR,hp,hq,m1,m2,ih,wa]
theorem aaz {xs ys:List Int} {w v:Int} (S:Sto) (hl:xs.length=ys.length) (hx:∀ x∈xs,Bd 2000 x) (hy:∀ y∈ys,Bd 2000 y) (bw:Bd 2000 w) (bv:Bd 2000 v) :
  hV [.pv (.tup ((xs++[w]).map .int)),.pv (.tup ((ys++[v]).map .int))] S=.ok (.pv (.lst ((wa xs w ys v).map .int))) S:=by
 have ip:=lG xs w
 have iq:=lG ys v
 have sp:=zV xs w
 have sq:=zV ys v
 have ec:=abq S _ _ w v ip iq bw bv xs ys none none hl hx hy
 generalize (xs++[w]).map PV.int=PL at ip sp ec
 generalize (ys++[v]).map PV.int=QL at iq sq ec
 unfold hV fnM rF
 simp [EC,aQ,aN,aO,fEq,fNe,dF,aV,aT,aS,aU,aI,aW,frz,aR,bF,nX,qI,cN,mSl,mO0,mO1,iE,sp,sq,cD,ec]
theorem zK (S:Sto):∀ (us vs:List Int) (x y:Option AV),(∀ x∈us,Bd 100000 x)→(∀ y∈vs,Bd 100000 y) →
  bY [] (gT 2 (bT (gN 0) (bT (gN 1) dD))) (aC aZ (aA 0) (aA 1)) (fD (us.map .int) (vs.map .int)) [x,y] S=.ok ((List.zipWith (·*·) us vs).map .int) S
 | [],vs,x,y,_,_=>by
  show bY [] _ _ [] _ S=_
  exact eA
 | a :: us,[],x,y,_,_=>by
  show bY [] _ _ [] _ S=_
  exact eA
 | a :: us,b :: vs,x,y,hx,hy=>by
  have ih:=zK S us vs (some (.pv (.int a))) (some (.pv (.int b))) (fun m hm=>hx m (List.mem_cons_of_mem _ hm)) (fun m hm=>hy m (List.mem_cons_of_mem _ hm))
  have m1:aZ (.int a) (.int b)=some (.int (a*b)):=jM (.inr ⟨(hx a List.mem_cons_self).mono (by decide),(hy b List.mem_cons_self).mono (by decide)⟩)
  show bY [] _ _ (.tup [.int a,.int b] :: fD (us.map .int) (vs.map .int)) _ S=_
  rw [eF]
  simp [gT,bT,dD,gN,EC,aQ,aN,aO,fEq,fNe,dF,aV,aT,aS,aU,aI,aW,frz,aR,m1,ih]
def dt (us vs:List Int):Int:=(List.zipWith (·*·) us vs).sum
def Sq (A:PV) (us:List Int):Prop:=A=.lst (us.map .int)∨A=.tup (us.map .int)
theorem abS {A B:PV} {us vs:List Int} (S:Sto) (hA:Sq A us) (hB:Sq B vs) (hx:∀ x∈us,Bd 100000 x) (hy:∀ y∈vs,Bd 100000 y):nJ [.pv A,.pv B] S=.ok (.pv (.int (dt us vs))) S:=by
 have ec:=zK S us vs none none hx hy
 have es:=oN (List.zipWith (·*·) us vs)
 unfold dt
 generalize (List.zipWith (·*·) us vs).map PV.int=ZL at ec es
 generalize (List.zipWith (·*·) us vs).sum=Z at es
 unfold nJ fnM uK
 rcases hA with rfl | rfl <;> rcases hB with rfl | rfl <;>
  (generalize us.map PV.int=UL at ec ⊢; generalize vs.map PV.int=VL at ec ⊢; simp [EC,aQ,aN,aO,fEq,fNe,dF,aV,aT,aS,aU,aI,aW,frz,aR,bF,nX,qI,cN,cD,ec,es])
theorem mBB {k l:Nat} {a b:Int} (h:Bd k a) (g:Bd l b) (hk:k≤1000000:=by decide) (hl:l≤1000000:=by decide):aZ (.int a) (.int b)=some (.int (a*b)):=jM (.inr ⟨h.mono hk,g.mono hl⟩)
theorem ad1 (a b:Int) (S:Sto):jY [.pv (.lst [.lst [.int a,.int b]])] S=.ok (.pv (.lst [.int (-b),.int a])) S:=by
 unfold jY fnM oX
 simp [EC,aQ,aN,aO,fIx,atI,ixN,fEq,fNe,eqN,aV,aT,aS,aU,aI,aW,frz,aR]
theorem aed {a b c d e f:Int} (S:Sto) (ha:Bd 10000 a) (hb:Bd 10000 b) (hc:Bd 10000 c) (hd:Bd 10000 d) (he:Bd 10000 e) (hf:Bd 10000 f):jY [.pv (.lst [.lst [.int a,.int b,.int c],.lst [.int d,.int e,.int f]])] S=.ok (.pv (.lst [.int (b*f - c*e),.int (c*d - a*f),.int (a*e - b*d)])) S:=by
 have m1:=mBB hb hf
 have m2:=mBB hc he
 have m3:=mBB hc hd
 have m4:=mBB ha hf
 have m5:=mBB ha he
 have m6:=mBB hb hd
 unfold jY fnM oX
 simp [EC,aQ,aN,aO,fIx,atI,ixN,fEq,fNe,eqN,aV,aT,aS,aU,aI,aW,frz,aR,m1,m2,m3,m4,m5,m6]
theorem acA {A B:PV} {a b c d e f:Int} (S:Sto) (hA:Sq A [a,b,c]) (hB:Sq B [d,e,f]) (ha:Bd 10000 a) (hb:Bd 10000 b) (hc:Bd 10000 c) (hd:Bd 10000 d) (he:Bd 10000 e) (hf:Bd 10000 f):jX [.pv A,.pv B] S=.ok (.pv (.lst [.int (b*f - c*e),.int (c*d - a*f),.int (a*e - b*d)])) S:=by
 have m1:=mBB hb hf
 have m2:=mBB hc he
 have m3:=mBB hc hd
 have m4:=mBB ha hf
 have m5:=mBB ha he
 have m6:=mBB hb hd
 unfold jX fnM oW
 rcases hA with rfl | rfl <;> rcases hB with rfl | rfl <;> simp [EC,aQ,aN,aO,fIx,atI,ixN,fEq,fNe,eqN,aV,aT,aS,aU,aI,aW,frz,aR,m1,m2,m3,m4,m5,m6]
structure P2 (x y w:Int):Prop where
 bx:Bd 1000 x
 by_:Bd 1000 y
 bw:Bd 1000 w
 pos:0 < w
structure P3 (x y z w:Int):Prop where
 bx:Bd 1000 x
 by_:Bd 1000 y
 bz:Bd 1000 z
 bw:Bd 1000 w
 pos:0 < w
abbrev v2 (x y w:Int):PV:=.tup [.int x,.int y,.int w]
abbrev v3 (x y z w:Int):PV:=.tup [.int x,.int y,.int z,.int w]
def Sv (A:PV) (L:List PV):Prop:=A=.lst L∨A=.tup L
theorem ahK (p:PV) (L:List PV):hJ (p :: L) (some 1) none=L:=by
 unfold hJ
 have e1:HT.sIx (p :: L).length 0 (some 1)=1:=by
  rw [show (some (1:Int))=some ((1:Nat):Int) from rfl,HT.sIx_nat,List.length_cons]
  omega
 rw [e1]
 show ((p :: L).drop 1).take ((p :: L).length - 1)=L
 simp
theorem af0 (p:PV) (L:List PV):fSl (.lst (p :: L)) (some 1) none=some (.lst L):=by
 unfold fSl
 dsimp only
 rw [ahK]
theorem qG (p:PV) (L:List PV):fSl (.tup (p :: L)) (some 1) none=some (.tup L):=by
 unfold fSl
 dsimp only
 have e1:HT.sIx (p :: L).length 0 (some 1)=1:=by
  rw [show (some (1:Int))=some ((1:Nat):Int) from rfl,HT.sIx_nat,List.length_cons]
  omega
 rw [if_neg (by rw [e1]; simp),ahK]
theorem adP {x0 y0 w0 x1 y1 w1:Int} (S:Sto) (p:P2 x0 y0 w0) (q:P2 x1 y1 w1):hV [.pv (v2 x0 y0 w0),.pv (v2 x1 y1 w1)] S=.ok (.pv (.lst [.int (x1*w0 - x0*w1),.int (y1*w0 - y0*w1)])) S:=by
 have e:=aaz (xs:=[x0,y0]) (ys:=[x1,y1]) (w:=w0) (v:=w1) S rfl (by simp; exact ⟨p.bx.mono (by decide),p.by_.mono (by decide)⟩) (by simp; exact ⟨q.bx.mono (by decide),q.by_.mono (by decide)⟩) (p.bw.mono (by decide)) (q.bw.mono (by decide))
 exact e
theorem vB {x0 y0 z0 w0 x1 y1 z1 w1:Int} (S:Sto) (p:P3 x0 y0 z0 w0) (q:P3 x1 y1 z1 w1):hV [.pv (v3 x0 y0 z0 w0),.pv (v3 x1 y1 z1 w1)] S=.ok (.pv (.lst [.int (x1*w0 - x0*w1),.int (y1*w0 - y0*w1),.int (z1*w0 - z0*w1)])) S:=by
 have e:=aaz (xs:=[x0,y0,z0]) (ys:=[x1,y1,z1]) (w:=w0) (v:=w1) S rfl (by simp; exact ⟨p.bx.mono (by decide),p.by_.mono (by decide),p.bz.mono (by decide)⟩) (by simp; exact ⟨q.bx.mono (by decide),q.by_.mono (by decide),q.bz.mono (by decide)⟩) (p.bw.mono (by decide)) (q.bw.mono (by decide))
 exact e
theorem sb {x0 w0 x1 w1:Int} (a:Bd 1000 x0) (b:Bd 1000 w0) (c:Bd 1000 x1) (d:Bd 1000 w1):Bd 2001 (x1*w0 - x0*w1):=((c.mul b).mono (show 1000+1000≤2000 by decide)).sub ((a.mul d).mono (show 1000+1000≤2000 by decide))
theorem cb {a b c d:Int} (h1:Bd 2001 a) (h2:Bd 2001 b) (h3:Bd 2001 c) (h4:Bd 2001 d):Bd 4003 (a*b - c*d):=((h1.mul h2).mono (show 2001+2001≤4002 by decide)).sub ((h3.mul h4).mono (show 2001+2001≤4002 by decide))
def D2 (x0 y0 w0 x1 y1 w1 x2 y2 w2:Int):Int:=w0*(x1*y2 - y1*x2) - w1*(x0*y2 - y0*x2)+w2*(x0*y1 - y0*x1)
def D3 (x0 y0 z0 w0 x1 y1 z1 w1 x2 y2 z2 w2 x3 y3 z3 w3:Int):Int :=
 w0*((y1*z2 - z1*y2)*x3+(z1*x2 - x1*z2)*y3+(x1*y2 - y1*x2)*z3) - w1*((y0*z2 - z0*y2)*x3+(z0*x2 - x0*z2)*y3+(x0*y2 - y0*x2)*z3)
 + w2*((y0*z1 - z0*y1)*x3+(z0*x1 - x0*z1)*y3+(x0*y1 - y0*x1)*z3) - w3*((y0*z1 - z0*y1)*x2+(z0*x1 - x0*z1)*y2+(x0*y1 - y0*x1)*z2)
theorem ahn (x0 y0 z0 w0 x1 y1 z1 w1 x2 y2 z2 w2 x3 y3 z3 w3:Int):dt [(y1*w0 - y0*w1)*(z2*w0 - z0*w2) - (z1*w0 - z0*w1)*(y2*w0 - y0*w2),(z1*w0 - z0*w1)*(x2*w0 - x0*w2) - (x1*w0 - x0*w1)*(z2*w0 - z0*w2),(x1*w0 - x0*w1)*(y2*w0 - y0*w2) - (y1*w0 - y0*w1)*(x2*w0 - x0*w2)] [x3*w0 - x0*w3,y3*w0 - y0*w3,z3*w0 - z0*w3]=w0*w0*D3 x0 y0 z0 w0 x1 y1 z1 w1 x2 y2 z2 w2 x3 y3 z3 w3:=by
 simp only [dt,D3,List.zipWith_cons_cons,List.zipWith_nil_left,List.sum_cons,List.sum_nil]
 grind
theorem kG {w d:Int} (h:0 < w):sg (w*d)=sg d:=by
 unfold sg
 by_cases h1:0 < d
 ·rw [if_pos (Int.mul_pos h h1),if_pos h1]
 ·by_cases h2:d < 0
  ·have:w*d < 0:=Int.mul_neg_of_pos_of_neg h h2
   rw [if_neg (by omega),if_pos this,if_neg h1,if_pos h2]
  ·have:d=0:=by omega
   subst this
   rw [Int.mul_zero]
theorem ad8 {G:Gd} {g:GM} {mb:MS} {x:PV} {r:List PV} {ρ:Rho} {S:Sto} (h:gOk G S):bZ G g mb (x :: r) ρ S=(match g x ρ with
  | none=>.fail
  | some ρ1=>match mb ρ1 S with
   | .nx ρ2 S2=>bZ G g mb r ρ2 S2
   | .ct ρ2 S2=>bZ G g mb r ρ2 S2
   | .bk ρ2 S2=>.nx ρ2 S2
   | .rt v S2=>.rt v S2
   | .exc n S2=>.exc n S2
   | .fail=>.fail):=by
 rw [bZ,if_pos h]
 all_goals (cases g x ρ with
 | none=>rfl
 | some ρ1=>cases mb ρ1 S <;> rfl)
theorem acB {G:Gd} {g:GM} {mb:MS} {ρ:Rho} {S:Sto} (h:gOk G S):bZ G g mb [] ρ S=.nx ρ S:=by
 rw [bZ,if_pos h]
def Gp (n k:Nat) (v:PV):Prop:=∃ xs w,v=.tup ((xs++[w]).map .int)∧Pq n k xs w
theorem Gp.two {v:PV} (h:Gp 2 1000 v):∃ x y w,v=v2 x y w∧P2 x y w:=by
 obtain ⟨xs,w,rfl,P⟩:=h
 match xs,P.len with
 | [x,y],_=>exact ⟨x,y,w,rfl,P.bx x (by simp),P.bx y (by simp),P.bw,P.pos⟩
theorem Gp.three {v:PV} (h:Gp 3 1000 v):∃ x y z w,v=v3 x y z w∧P3 x y z w:=by
 obtain ⟨xs,w,rfl,P⟩:=h
 match xs,P.len with
 | [x,y,z],_=>exact ⟨x,y,z,w,rfl,P.bx x (by simp),P.bx y (by simp),P.bx z (by simp),P.bw,P.pos⟩
theorem aaO (S:Sto) (PL QL:List PV) (xs ys:List Int) (w v:Int) (hp:fIx (.tup PL) (.int (-1))=some (.int w)) (hq:fIx (.tup QL) (.int (-1))=some (.int v)) (hpj:∀ j:Nat,j < xs.length→fIx (.tup PL) (.int (j:Nat))=some (.int (xs.getD j 0))) (hqj:∀ j:Nat,j < xs.length→fIx (.tup QL) (.int (j:Nat))=some (.int (ys.getD j 0)))
  (bw:Bd 1000 w) (bv:Bd 1000 v) (hx:∀ j,Bd 1000 (xs.getD j 0)) (hy:∀ j,Bd 1000 (ys.getD j 0)):∀ (js:List Nat) (x:Option AV),(∀ j∈js,j < xs.length) →
  bY [] (gN 0) (aC dR (aC aZ (aC fIx (aA 1) (aA 0)) (aC fIx (aA 2) (mUn cU (mC (.int 1))))) (aC aZ (aC fIx (aA 2) (aA 0)) (aC fIx (aA 1) (mUn cU (mC (.int 1)))))) (js.map fun j=>.int (0+(j:Nat))) [x,some (.pv (.tup QL)),some (.pv (.tup PL))] S=.ok ((js.map fun j=>ys.getD j 0*w - xs.getD j 0*v).map .int) S
 | [],x,_=>eA
 | j :: js,x,h=>by
  have ih:=aaO S PL QL xs ys w v hp hq hpj hqj bw bv hx hy js (some (.pv (.int (0+(j:Nat))))) fun i hi=>h i (List.mem_cons_of_mem _ hi)
  have e1:=hpj j (h j List.mem_cons_self)
  have e2:=hqj j (h j List.mem_cons_self)
  have m1:=mB ((hx j).mono (show 1000≤2000 by decide)) (bv.mono (show 1000≤2000 by decide))
  have m2:=mB ((hy j).mono (show 1000≤2000 by decide)) (bw.mono (show 1000≤2000 by decide))
  show bY [] _ _ (.int (0+(j:Nat)) :: js.map fun j=>.int (0+(j:Nat))) _ S=_
  rw [eF]
  simp only [Int.zero_add] at ih ⊢
  generalize hX:xs.getD j 0=X at e1 m1
  generalize hY:ys.getD j 0=Y at e2 m2
  simp [gN,EC,aQ,aN,aO,fEq,fNe,dF,aV,aT,aS,aU,aI,aW,frz,aR,e1,e2,hp,hq,m1,m2,ih]
  simp only [List.getD_eq_getElem?_getD] at hX hY
  rw [hX,hY]
theorem adT {xs ys:List Int} {w v:Int} (S:Sto) (hl:xs.length=ys.length) (h9:xs.length≤9) (hx:∀ x∈xs,Bd 1000 x) (hy:∀ y∈ys,Bd 1000 y) (bw:Bd 1000 w) (bv:Bd 1000 v) :
  kJ [.pv (.tup ((xs++[w]).map .int)),.pv (.tup ((ys++[v]).map .int))] S=.ok (.pv (.lst ((wa xs w ys v).map .int))) S:=by
 have ip:=lG xs w
 have iq:=lG ys v
 have ec:=aaO S _ _ xs ys w v ip iq (fun j h=>pN xs w j h) (fun j h=>pN ys v j (by omega)) bw bv (pI hx) (pI hy) (List.range xs.length) none fun j hj=>by simpa using hj
 have er:(List.range xs.length).map (fun j=>ys.getD j 0*w - xs.getD j 0*v)=wa xs w ys v:=zA hl fun x y=>y*w - x*v
 rw [er] at ec
 have hlen:((xs++[w]).map PV.int).length=xs.length+1:=by simp
 have hr:fO [.pv (.int (((xs.length+1:Nat):Int) - 1))] S=.ok ((List.range xs.length).map fun j=>.int (0+(j:Nat)),[]) S:=by
  unfold fO
  dsimp only
  rw [if_pos ⟨by omega,by omega⟩]
  have:(((xs.length+1:Nat):Int) - 1).toNat=xs.length:=by omega
  rw [this]
  rfl
 generalize (wa xs w ys v).map PV.int=ZL at ec
 generalize (List.range xs.length).map (fun j=>PV.int (0+(j:Nat)))=RL at ec hr
 generalize hP:(xs++[w]).map PV.int=PL at ip ec hlen
 generalize (ys++[v]).map PV.int=QL at iq ec
 unfold kJ fnM uW
 have hr2:=hr
 rw [← hlen] at hr2
 simp [EC,aQ,aN,aO,fEq,fNe,dF,aV,aT,aS,aU,aI,aW,frz,aR,bF,bJ,hr2,cD,ec]
theorem ahE {x0 y0 w0 x1 y1 w1:Int} (S:Sto) (p:P2 x0 y0 w0) (q:P2 x1 y1 w1):kJ [.pv (v2 x0 y0 w0),.pv (v2 x1 y1 w1)] S=.ok (.pv (.lst [.int (x1*w0 - x0*w1),.int (y1*w0 - y0*w1)])) S:=by
 have e:=adT (xs:=[x0,y0]) (ys:=[x1,y1]) (w:=w0) (v:=w1) S rfl (by simp) (by simp; exact ⟨p.bx,p.by_⟩) (by simp; exact ⟨q.bx,q.by_⟩) p.bw q.bw
 exact e
theorem wO {x0 y0 z0 w0 x1 y1 z1 w1:Int} (S:Sto) (p:P3 x0 y0 z0 w0) (q:P3 x1 y1 z1 w1):kJ [.pv (v3 x0 y0 z0 w0),.pv (v3 x1 y1 z1 w1)] S=.ok (.pv (.lst [.int (x1*w0 - x0*w1),.int (y1*w0 - y0*w1),.int (z1*w0 - z0*w1)])) S:=by
 have e:=adT (xs:=[x0,y0,z0]) (ys:=[x1,y1,z1]) (w:=w0) (v:=w1) S rfl (by simp) (by simp; exact ⟨p.bx,p.by_,p.bz⟩) (by simp; exact ⟨q.bx,q.by_,q.bz⟩) p.bw q.bw
 exact e
theorem adi {A:PV} {x0 y0 w0 x1 y1 w1 x2 y2 w2:Int} (S:Sto) (hA:Sv A [v2 x0 y0 w0,v2 x1 y1 w1,v2 x2 y2 w2]) (p:P2 x0 y0 w0) (q:P2 x1 y1 w1) (r:P2 x2 y2 w2):jP [.pv A] S=.ok (.pv (.int (w0*D2 x0 y0 w0 x1 y1 w1 x2 y2 w2))) S:=by
 have a1:=ahE S p q
 have a2:=ahE S p r
 have bu:=sb p.bx p.bw q.bx q.bw
 have bv:=sb p.by_ p.bw q.by_ q.bw
 have bu2:=sb p.bx p.bw r.bx r.bw
 have bv2:=sb p.by_ p.bw r.by_ r.bw
 have id:(x1*w0 - x0*w1)*(y2*w0 - y0*w2) - (y1*w0 - y0*w1)*(x2*w0 - x0*w2)=w0*D2 x0 y0 w0 x1 y1 w1 x2 y2 w2:=by
  unfold D2
  grind
 generalize w0*D2 x0 y0 w0 x1 y1 w1 x2 y2 w2=D at *
 generalize x1*w0 - x0*w1=U0 at *
 generalize y1*w0 - y0*w1=U1 at *
 generalize x2*w0 - x0*w2=V0 at *
 generalize y2*w0 - y0*w2=V1 at *
 have m1:=mBB bu bv2
 have m2:=mBB bv bu2
 generalize v2 x0 y0 w0=P at *
 generalize v2 x1 y1 w1=Q at *
 generalize v2 x2 y2 w2=R at *
 have et:eX [.pv (.lst [.lst [.int U0,.int U1],.lst [.int V0,.int V1]])] S=.ok (.pv (.int D)) S:=by
  unfold eX fnM lJ
  simp [EC,aQ,aN,aO,fIx,atI,ixN,fEq,fNe,eqN,aV,aT,aS,aU,aI,aW,frz,aR,m1,m2,id]
 unfold jP fnM pM
 rcases hA with rfl | rfl
 ·have s1:=af0 P [Q,R]
  simp [EC,aQ,aN,aO,fIx,atI,ixN,fEq,fNe,eqN,aV,aT,aS,aU,aI,aW,frz,aR,bF,mIt,cN,mSl,mO0,mO1,iE,s1,cD,eF,eA,gN,a1,a2,et]
 ·have s1:=qG P [Q,R]
  simp [EC,aQ,aN,aO,fIx,atI,ixN,fEq,fNe,eqN,aV,aT,aS,aU,aI,aW,frz,aR,bF,mIt,cN,mSl,mO0,mO1,iE,s1,cD,eF,eA,gN,a1,a2,et]
theorem adb {A:PV} {x0 y0 z0 w0 x1 y1 z1 w1 x2 y2 z2 w2 x3 y3 z3 w3:Int} (S:Sto) (hA:Sv A [v3 x0 y0 z0 w0,v3 x1 y1 z1 w1,v3 x2 y2 z2 w2,v3 x3 y3 z3 w3]) (p:P3 x0 y0 z0 w0) (q:P3 x1 y1 z1 w1) (r:P3 x2 y2 z2 w2) (s:P3 x3 y3 z3 w3):jP [.pv A] S=.ok (.pv (.int (w0*w0*D3 x0 y0 z0 w0 x1 y1 z1 w1 x2 y2 z2 w2 x3 y3 z3 w3))) S:=by
 have a1:=wO S p q
 have a2:=wO S p r
 have a3:=wO S p s
 have b1:=sb p.bx p.bw q.bx q.bw
 have b2:=sb p.by_ p.bw q.by_ q.bw
 have b3:=sb p.bz p.bw q.bz q.bw
 have b4:=sb p.bx p.bw r.bx r.bw
 have b5:=sb p.by_ p.bw r.by_ r.bw
 have b6:=sb p.bz p.bw r.bz r.bw
 have b7:=sb p.bx p.bw s.bx s.bw
 have b8:=sb p.by_ p.bw s.by_ s.bw
 have b9:=sb p.bz p.bw s.bz s.bw
 have id:=ahn x0 y0 z0 w0 x1 y1 z1 w1 x2 y2 z2 w2 x3 y3 z3 w3
 generalize w0*w0*D3 x0 y0 z0 w0 x1 y1 z1 w1 x2 y2 z2 w2 x3 y3 z3 w3=D at *
 generalize x1*w0 - x0*w1=U0 at *
 generalize y1*w0 - y0*w1=U1 at *
 generalize z1*w0 - z0*w1=U2 at *
 generalize x2*w0 - x0*w2=V0 at *
 generalize y2*w0 - y0*w2=V1 at *
 generalize z2*w0 - z0*w2=V2 at *
 generalize x3*w0 - x0*w3=T0 at *
 generalize y3*w0 - y0*w3=T1 at *
 generalize z3*w0 - z0*w3=T2 at *
 have h:∀ {a:Int},Bd 2001 a→Bd 10000 a:=fun h=>h.mono (by decide)
 have h4:∀ {a:Int},Bd 4003 a→Bd 100000 a:=fun h=>h.mono (by decide)
 have h2:∀ {a:Int},Bd 2001 a→Bd 100000 a:=fun h=>h.mono (by decide)
 have en:=acA (A:=.lst [.int U0,.int U1,.int U2]) (B:=.lst [.int V0,.int V1,.int V2]) S (.inl rfl) (.inl rfl) (h b1) (h b2) (h b3) (h b4) (h b5) (h b6)
 have c1:=cb b2 b6 b3 b5
 have c2:=cb b3 b4 b1 b6
 have c3:=cb b1 b5 b2 b4
 have ed:=abS (A:=.lst [.int (U1*V2 - U2*V1),.int (U2*V0 - U0*V2),.int (U0*V1 - U1*V0)]) (B:=.lst [.int T0,.int T1,.int T2]) (us:=[U1*V2 - U2*V1,U2*V0 - U0*V2,U0*V1 - U1*V0]) (vs:=[T0,T1,T2]) S (.inl rfl) (.inl rfl) (by simp; exact ⟨h4 c1,h4 c2,h4 c3⟩) (by simp; exact ⟨h2 b7,h2 b8,h2 b9⟩)
 rw [id] at ed
 generalize U1*V2 - U2*V1=N0 at *
 generalize U2*V0 - U0*V2=N1 at *
 generalize U0*V1 - U1*V0=N2 at *
 generalize v3 x0 y0 z0 w0=P at *
 generalize v3 x1 y1 z1 w1=Q at *
 generalize v3 x2 y2 z2 w2=R at *
 generalize v3 x3 y3 z3 w3=T at *
 have et:eX [.pv (.lst [.lst [.int U0,.int U1,.int U2],.lst [.int V0,.int V1,.int V2],.lst [.int T0,.int T1,.int T2]])] S=.ok (.pv (.int D)) S:=by
  unfold eX fnM lJ
  simp [EC,aQ,aN,aO,fIx,atI,ixN,fEq,fNe,eqN,aV,aT,aS,aU,aI,aW,frz,aR,en,ed]
 unfold jP fnM pM
 rcases hA with rfl | rfl
 ·have s1:=af0 P [Q,R,T]
  simp [EC,aQ,aN,aO,fIx,atI,ixN,fEq,fNe,eqN,aV,aT,aS,aU,aI,aW,frz,aR,bF,mIt,cN,mSl,mO0,mO1,iE,s1,cD,eF,eA,gN,a1,a2,a3,et]
 ·have s1:=qG P [Q,R,T]
  simp [EC,aQ,aN,aO,fIx,atI,ixN,fEq,fNe,eqN,aV,aT,aS,aU,aI,aW,frz,aR,bF,mIt,cN,mSl,mO0,mO1,iE,s1,cD,eF,eA,gN,a1,a2,a3,et]
theorem sK {n k:Nat} (hn:n=2∨n=3):∀ (is:List PV) (S:Sto) (ns:List Int) (x:Option AV),Row S k ns→∃ (ps:List PV) (ns':List Int),bY [] (gN 0) (aL eG [] (aB (aA 1) (aB (aA 2) aD))) is [x,some (.ref k),some (.pv (.int n))] S=.ok ps (S.set k (.lst (ns'.map .int)))∧ps.length=is.length∧∀ v∈ps,Gp n 100 v
 | [],S,ns,x,h=>by
  refine ⟨[],ns,?_,rfl,fun _ h=>absurd h List.not_mem_nil⟩
  have e:S.set k (.lst (ns.map .int))=S:=List.ext_getElem? fun j=>by
   by_cases q:k=j
   ·subst q; rw [List.getElem?_set_self h.lt]; exact h.symm
   ·rw [List.getElem?_set_ne q]
  rw [e]
  exact eA
 | i :: is,S,ns,x,h=>by
  obtain ⟨xs,w,n1,e1,P,b1,b2⟩:=adL n hn h
  obtain ⟨ps,n2,e2,l2,g2⟩:=sK hn is _ n1 (some (.pv i)) (h.set n1)
  rw [List.set_set] at e2
  refine ⟨.tup ((xs++[w]).map .int) :: ps,n2,?_,by simp [l2],fun v hv=>?_⟩
  ·rw [eF]
   generalize S.set k (.lst (n1.map .int))=S1 at e1 e2
   generalize (xs++[w]).map PV.int=XL at e1
   simp [gN,EC,aQ,aN,aO,fIx,atI,ixN,fEq,fNe,eqN,aV,aT,aS,aU,aI,aW,frz,aR,e1,e2]
  ·rcases List.mem_cons.mp hv with rfl | hv
   ·exact ⟨xs,w,rfl,P.pq b1 b2⟩
   ·exact g2 v hv
theorem ahG {S:Sto} {k:Nat} {ns:List Int} (n:Nat) (hn:n=2∨n=3) (h:Row S k ns):∃ (v:PV) (ns':List Int),eG [.ref k,.pv (.int n)] S=.ok (.pv v) (S.set k (.lst (ns'.map .int)))∧Gp n 100 v:=by
 obtain ⟨xs,w,n1,e1,P,b1,b2⟩:=adL n hn h
 exact ⟨_,n1,e1,xs,w,rfl,P.pq b1 b2⟩
theorem aet (ns:List Int):∃ g:Int,0 < g∧ns=(low ns).map (g*·):=by
 by_cases h:gl ns 0=0
 ·refine ⟨1,by decide,?_⟩
  unfold low
  rw [if_pos h]
  simp
 ·have:=vP ns 0 (Int.le_refl 0)
  exact ⟨gl ns 0,by omega,(aei h).symm⟩
theorem adk (ns:List Int):low (ns.map (- ·))=(low ns).map (- ·):=by
 have e:gl (ns.map (- ·)) 0=gl ns 0:=by
  rw [← ad7 ns]
  exact congrArg (fun l=>gl l 0) (List.map_congr_left fun x _=>by omega)
 unfold low
 rw [e]
 split
 ·rfl
 ·rw [List.map_map,List.map_map]
  refine List.map_congr_left fun x hx=>?_
  exact Int.neg_ediv_of_dvd ((gL ns 0).2 x hx)
theorem aaH {S:Sto} {k:Nat} {ns:List Int} {L:List PV} (h:Row S k ns):∃ (A:PV) (ns':List Int),iY [.ref k,.pv (.lst L)] S=.ok (.pv A) (S.set k (.lst (ns'.map .int)))∧Sv A L:=by
 obtain ⟨t,n1,e1,t0,t1,_⟩:=iJ (m:=2) h (by decide) (sm8 (by decide) (by decide))
 have tk:=zP S k (.lst (n1.map .int))
 generalize hS:S.set k (.lst (n1.map .int))=S1 at e1 tk
 by_cases ht:t=1
 ·subst ht
  refine ⟨.tup L,n1,?_,.inr rfl⟩
  rw [hS]
  unfold iY fnM oI
  simp [EC,aQ,aN,aO,fIx,atI,ixN,fEq,fNe,eqN,aV,aT,aS,aU,aI,aW,frz,aR,e1,tk]
 ·refine ⟨.lst L,n1,?_,.inl rfl⟩
  rw [hS]
  unfold iY fnM oI
  simp [EC,aQ,aN,aO,fIx,atI,ixN,fEq,fNe,eqN,aV,aT,aS,aU,aI,aW,frz,aR,e1,tk,ht]
def B2 (x0 y0 w0 x1 y1 w1:Int):List Int:=[-(y1*w0 - y0*w1),x1*w0 - x0*w1,x0*y1 - y0*x1]
theorem ain (a b c x y z w:Int):dt [a,b,c] [x,y,z,w]=a*x+b*y+c*z:=by
 simp only [dt,List.zipWith_cons_cons,List.zipWith_nil_left,List.sum_cons,List.sum_nil]
 grind
structure R2 (x y w X Y D:Int):Prop where
 pos:0 < w
 dos:0 < D
 ex:x*D=X*w
 ey:y*D=Y*w
theorem Pq.p2 {k:Nat} {x y w:Int} (P:Pq 2 k [x,y] w) (h:k≤1000):P2 x y w:=⟨(P.bx x (by simp)).mono h,(P.bx y (by simp)).mono h,P.bw.mono h,P.pos⟩
theorem Pq.p3 {k:Nat} {x y z w:Int} (P:Pq 3 k [x,y,z] w) (h:k≤1000):P3 x y z w:=⟨(P.bx x (by simp)).mono h,(P.bx y (by simp)).mono h,(P.bx z (by simp)).mono h,P.bw.mono h,P.pos⟩
def sgP:List PV→Int
 | [.tup [.int x0,.int y0,.int w0],.tup [.int x1,.int y1,.int w1],.tup [.int x2,.int y2,.int w2]]=>sg (D2 x0 y0 w0 x1 y1 w1 x2 y2 w2)
 | [.tup [.int x0,.int y0,.int z0,.int w0],.tup [.int x1,.int y1,.int z1,.int w1],.tup [.int x2,.int y2,.int z2,.int w2],.tup [.int x3,.int y3,.int z3,.int w3]]=>sg (D3 x0 y0 z0 w0 x1 y1 z1 w1 x2 y2 z2 w2 x3 y3 z3 w3)
 | _=>0
theorem afP (D:Int):sg (-D)=- sg D:=by
 unfold sg
 split <;> split <;> (try split) <;> (try split) <;> omega
abbrev tv (us:List Int):PV:=.tup (us.map .int)
def Gu (n k:Nat) (us:List Int):Prop:=∃ xs w,us=xs++[w]∧Pq n k xs w
theorem Gu.gp {n k:Nat} {us:List Int} (h:Gu n k us):Gp n k (tv us):=by
 obtain ⟨xs,w,rfl,P⟩:=h
 exact ⟨xs,w,rfl,P⟩
theorem Gu.ne {n k:Nat} {us:List Int} (h:Gu n k us):us≠[]:=by
 obtain ⟨xs,w,rfl,P⟩:=h
 simp
theorem gps {n k:Nat} {uss:List (List Int)} (h:∀ us∈uss,Gu n k us):∀ v∈uss.map tv,Gp n k v:=fun v hv=>by
 obtain ⟨us,hu,rfl⟩:=List.mem_map.mp hv
 exact (h us hu).gp
theorem yA:∀ uss:List (List Int),jN (uss.map tv)=some uss
 | []=>rfl
 | us :: uss=>by
  have ih:=yA uss
  show (match gO (us.map .int),jN (uss.map tv) with | some is,some uss=>some (is :: uss) | _,_=>none)=_
  rw [ih,rP]
theorem zH {uss:List (List Int)} {n:Nat} (hl:uss.length=n) (hp:(cC uss).Perm (List.range n)):vM (uss.map tv) uss=(cZ uss).map tv:=by
 unfold vM cZ
 rw [List.map_map]
 refine List.map_congr_left fun i hi=>?_
 have h:i < uss.length:=by
  have:=hp.subset hi
  rw [hl]
  simpa using this
 simp [List.getD,h]
theorem abe {A:PV} {uss:List (List Int)} (hl:uss.length=3∨uss.length=4) (hA:Sv A (uss.map tv)) (hne:∀ us∈uss,us≠[]):pE [A]=some (.lst ((cZ uss).map tv)):=by
 have e:lY (uss.map tv)=some (.lst ((cZ uss).map tv)):=by
  unfold lY
  rw [yA]
  dsimp only
  rcases hl with h | h
  ·obtain ⟨_,hp,_⟩:=tR h
   rw [if_pos (show vX uss from ⟨by omega,by omega,by rw [h]; exact afe,by rw [hp.length_eq]; simp,hne⟩),zH h hp]
  ·obtain ⟨_,hp,_⟩:=tH h
   rw [if_pos (show vX uss from ⟨by omega,by omega,by rw [h]; exact afH,by rw [hp.length_eq]; simp,hne⟩),zH h hp]
 rcases hA with rfl | rfl
 ·exact e
 ·exact e
def swl {α:Type}:List α→List α
 | [a,b,c]=>[a,c,b]
 | [a,b,c,d]=>[a,b,d,c]
 | l=>l
theorem aeI {α β:Type} (f:α→β) (l:List α):(swl l).map f=swl (l.map f):=by
 unfold swl
 split
 ·rfl
 ·rfl
 ·rename_i h1 h2
  split
  ·rename_i e
   match l,e with
   | [a,b,c],_=>exact absurd rfl (h1 a b c)
  ·rename_i e
   match l,e with
   | [a,b,c,d],_=>exact absurd rfl (h2 a b c d)
  ·rfl
theorem adf {α:Type} (l:List α):(swl l).Perm l:=by
 unfold swl
 split
 ·exact .cons _ (.swap _ _ _)
 ·exact .cons _ (.cons _ (.swap _ _ _))
 ·exact .refl _
def dU:List (List Int)→Int
 | [[x0,y0,w0],[x1,y1,w1],[x2,y2,w2]]=>D2 x0 y0 w0 x1 y1 w1 x2 y2 w2
 | [[x0,y0,z0,w0],[x1,y1,z1,w1],[x2,y2,z2,w2],[x3,y3,z3,w3]]=>D3 x0 y0 z0 w0 x1 y1 z1 w1 x2 y2 z2 w2 x3 y3 z3 w3
 | _=>0
theorem Gu.two {k:Nat} {us:List Int} (h:Gu 2 k us) (hk:k≤1000):∃ x y w,us=[x,y,w]∧P2 x y w:=by
 obtain ⟨xs,w,rfl,P⟩:=h
 match xs,P.len,P with
 | [x,y],_,P=>exact ⟨x,y,w,rfl,P.p2 hk⟩
theorem Gu.three {k:Nat} {us:List Int} (h:Gu 3 k us) (hk:k≤1000):∃ x y z w,us=[x,y,z,w]∧P3 x y z w:=by
 obtain ⟨xs,w,rfl,P⟩:=h
 match xs,P.len,P with
 | [x,y,z],_,P=>exact ⟨x,y,z,w,rfl,P.p3 hk⟩
theorem afV {n k:Nat} (hn:n=2∨n=3) (hk:k≤1000) {uss:List (List Int)} (hl:uss.length=n+1) (hg:∀ us∈uss,Gu n k us):sgP (uss.map tv)=sg (dU uss):=by
 rcases hn with rfl | rfl
 ·match uss,hl with
  | [a,b,c],_ =>
   obtain ⟨x0,y0,w0,rfl,_⟩:=(hg a (by simp)).two hk
   obtain ⟨x1,y1,w1,rfl,_⟩:=(hg b (by simp)).two hk
   obtain ⟨x2,y2,w2,rfl,_⟩:=(hg c (by simp)).two hk
   rfl
 ·match uss,hl with
  | [a,b,c,d],_ =>
   obtain ⟨x0,y0,z0,w0,rfl,_⟩:=(hg a (by simp)).three hk
   obtain ⟨x1,y1,z1,w1,rfl,_⟩:=(hg b (by simp)).three hk
   obtain ⟨x2,y2,z2,w2,rfl,_⟩:=(hg c (by simp)).three hk
   obtain ⟨x3,y3,z3,w3,rfl,_⟩:=(hg d (by simp)).three hk
   rfl
theorem afo {x0 y0 w0 x1 y1 w1 x2 y2 w2:Int} {p:List Nat} (hp:p∈nH):dU (p.map fun i=>([[x0,y0,w0],[x1,y1,w1],[x2,y2,w2]]:List (List Int)).getD i [])=dU [[x0,y0,w0],[x1,y1,w1],[x2,y2,w2]]∨dU (p.map fun i=>([[x0,y0,w0],[x1,y1,w1],[x2,y2,w2]]:List (List Int)).getD i [])=- dU [[x0,y0,w0],[x1,y1,w1],[x2,y2,w2]]:=by
 have hp:p=[0,1,2]∨p=[0,2,1]∨p=[1,0,2]∨p=[1,2,0]∨p=[2,0,1]∨p=[2,1,0]:=by simpa [nH] using hp
 rcases hp with rfl | rfl | rfl | rfl | rfl | rfl
 ·left
  show D2 x0 y0 w0 x1 y1 w1 x2 y2 w2=D2 x0 y0 w0 x1 y1 w1 x2 y2 w2
  unfold D2
  grind
 ·right
  show D2 x0 y0 w0 x2 y2 w2 x1 y1 w1=-(D2 x0 y0 w0 x1 y1 w1 x2 y2 w2)
  unfold D2
  grind
 ·right
  show D2 x1 y1 w1 x0 y0 w0 x2 y2 w2=-(D2 x0 y0 w0 x1 y1 w1 x2 y2 w2)
  unfold D2
  grind
 ·left
  show D2 x1 y1 w1 x2 y2 w2 x0 y0 w0=D2 x0 y0 w0 x1 y1 w1 x2 y2 w2
  unfold D2
  grind
 ·left
  show D2 x2 y2 w2 x0 y0 w0 x1 y1 w1=D2 x0 y0 w0 x1 y1 w1 x2 y2 w2
  unfold D2
  grind
 ·right
  show D2 x2 y2 w2 x1 y1 w1 x0 y0 w0=-(D2 x0 y0 w0 x1 y1 w1 x2 y2 w2)
  unfold D2
  grind
theorem agC {x0 y0 z0 w0 x1 y1 z1 w1 x2 y2 z2 w2 x3 y3 z3 w3:Int} {p:List Nat} (hp:p∈nG):dU (p.map fun i=>([[x0,y0,z0,w0],[x1,y1,z1,w1],[x2,y2,z2,w2],[x3,y3,z3,w3]]:List (List Int)).getD i [])=dU [[x0,y0,z0,w0],[x1,y1,z1,w1],[x2,y2,z2,w2],[x3,y3,z3,w3]]∨dU (p.map fun i=>([[x0,y0,z0,w0],[x1,y1,z1,w1],[x2,y2,z2,w2],[x3,y3,z3,w3]]:List (List Int)).getD i [])=- dU [[x0,y0,z0,w0],[x1,y1,z1,w1],[x2,y2,z2,w2],[x3,y3,z3,w3]]:=by
 have hp:p=[0,1,2,3]∨p=[0,1,3,2]∨p=[0,2,1,3]∨p=[0,2,3,1]∨p=[0,3,1,2]∨p=[0,3,2,1]∨p=[1,0,2,3]∨p=[1,0,3,2]∨p=[1,2,0,3]∨p=[1,2,3,0]∨p=[1,3,0,2]∨p=[1,3,2,0]∨p=[2,0,1,3]∨p=[2,0,3,1]∨p=[2,1,0,3]∨p=[2,1,3,0]∨p=[2,3,0,1]∨p=[2,3,1,0]∨p=[3,0,1,2]∨p=[3,0,2,1]∨p=[3,1,0,2]∨p=[3,1,2,0]∨p=[3,2,0,1]∨p=[3,2,1,0]:=by simpa [nG] using hp
 rcases hp with rfl | rfl | rfl | rfl | rfl | rfl | rfl | rfl | rfl | rfl | rfl | rfl | rfl | rfl | rfl | rfl | rfl | rfl | rfl | rfl | rfl | rfl | rfl | rfl
 ·left
  show D3 x0 y0 z0 w0 x1 y1 z1 w1 x2 y2 z2 w2 x3 y3 z3 w3=D3 x0 y0 z0 w0 x1 y1 z1 w1 x2 y2 z2 w2 x3 y3 z3 w3
  unfold D3
  grind
 ·right
  show D3 x0 y0 z0 w0 x1 y1 z1 w1 x3 y3 z3 w3 x2 y2 z2 w2=-(D3 x0 y0 z0 w0 x1 y1 z1 w1 x2 y2 z2 w2 x3 y3 z3 w3)
  unfold D3
  grind
 ·right
  show D3 x0 y0 z0 w0 x2 y2 z2 w2 x1 y1 z1 w1 x3 y3 z3 w3=-(D3 x0 y0 z0 w0 x1 y1 z1 w1 x2 y2 z2 w2 x3 y3 z3 w3)
  unfold D3
  grind
 ·left
  show D3 x0 y0 z0 w0 x2 y2 z2 w2 x3 y3 z3 w3 x1 y1 z1 w1=D3 x0 y0 z0 w0 x1 y1 z1 w1 x2 y2 z2 w2 x3 y3 z3 w3
  unfold D3
  grind
 ·left
  show D3 x0 y0 z0 w0 x3 y3 z3 w3 x1 y1 z1 w1 x2 y2 z2 w2=D3 x0 y0 z0 w0 x1 y1 z1 w1 x2 y2 z2 w2 x3 y3 z3 w3
  unfold D3
  grind
 ·right
  show D3 x0 y0 z0 w0 x3 y3 z3 w3 x2 y2 z2 w2 x1 y1 z1 w1=-(D3 x0 y0 z0 w0 x1 y1 z1 w1 x2 y2 z2 w2 x3 y3 z3 w3)
  unfold D3
  grind
 ·right
  show D3 x1 y1 z1 w1 x0 y0 z0 w0 x2 y2 z2 w2 x3 y3 z3 w3=-(D3 x0 y0 z0 w0 x1 y1 z1 w1 x2 y2 z2 w2 x3 y3 z3 w3)
  unfold D3
  grind
 ·left
  show D3 x1 y1 z1 w1 x0 y0 z0 w0 x3 y3 z3 w3 x2 y2 z2 w2=D3 x0 y0 z0 w0 x1 y1 z1 w1 x2 y2 z2 w2 x3 y3 z3 w3
  unfold D3
  grind
 ·left
  show D3 x1 y1 z1 w1 x2 y2 z2 w2 x0 y0 z0 w0 x3 y3 z3 w3=D3 x0 y0 z0 w0 x1 y1 z1 w1 x2 y2 z2 w2 x3 y3 z3 w3
  unfold D3
  grind
 ·right
  show D3 x1 y1 z1 w1 x2 y2 z2 w2 x3 y3 z3 w3 x0 y0 z0 w0=-(D3 x0 y0 z0 w0 x1 y1 z1 w1 x2 y2 z2 w2 x3 y3 z3 w3)
  unfold D3
  grind
 ·right
  show D3 x1 y1 z1 w1 x3 y3 z3 w3 x0 y0 z0 w0 x2 y2 z2 w2=-(D3 x0 y0 z0 w0 x1 y1 z1 w1 x2 y2 z2 w2 x3 y3 z3 w3)
  unfold D3
  grind
 ·left
  show D3 x1 y1 z1 w1 x3 y3 z3 w3 x2 y2 z2 w2 x0 y0 z0 w0=D3 x0 y0 z0 w0 x1 y1 z1 w1 x2 y2 z2 w2 x3 y3 z3 w3
  unfold D3
  grind
 ·left
  show D3 x2 y2 z2 w2 x0 y0 z0 w0 x1 y1 z1 w1 x3 y3 z3 w3=D3 x0 y0 z0 w0 x1 y1 z1 w1 x2 y2 z2 w2 x3 y3 z3 w3
  unfold D3
  grind
 ·right
  show D3 x2 y2 z2 w2 x0 y0 z0 w0 x3 y3 z3 w3 x1 y1 z1 w1=-(D3 x0 y0 z0 w0 x1 y1 z1 w1 x2 y2 z2 w2 x3 y3 z3 w3)
  unfold D3
  grind
 ·right
  show D3 x2 y2 z2 w2 x1 y1 z1 w1 x0 y0 z0 w0 x3 y3 z3 w3=-(D3 x0 y0 z0 w0 x1 y1 z1 w1 x2 y2 z2 w2 x3 y3 z3 w3)
  unfold D3
  grind
 ·left
  show D3 x2 y2 z2 w2 x1 y1 z1 w1 x3 y3 z3 w3 x0 y0 z0 w0=D3 x0 y0 z0 w0 x1 y1 z1 w1 x2 y2 z2 w2 x3 y3 z3 w3
  unfold D3
  grind
 ·left
  show D3 x2 y2 z2 w2 x3 y3 z3 w3 x0 y0 z0 w0 x1 y1 z1 w1=D3 x0 y0 z0 w0 x1 y1 z1 w1 x2 y2 z2 w2 x3 y3 z3 w3
  unfold D3
  grind
 ·right
  show D3 x2 y2 z2 w2 x3 y3 z3 w3 x1 y1 z1 w1 x0 y0 z0 w0=-(D3 x0 y0 z0 w0 x1 y1 z1 w1 x2 y2 z2 w2 x3 y3 z3 w3)
  unfold D3
  grind
 ·right
  show D3 x3 y3 z3 w3 x0 y0 z0 w0 x1 y1 z1 w1 x2 y2 z2 w2=-(D3 x0 y0 z0 w0 x1 y1 z1 w1 x2 y2 z2 w2 x3 y3 z3 w3)
  unfold D3
  grind
 ·left
  show D3 x3 y3 z3 w3 x0 y0 z0 w0 x2 y2 z2 w2 x1 y1 z1 w1=D3 x0 y0 z0 w0 x1 y1 z1 w1 x2 y2 z2 w2 x3 y3 z3 w3
  unfold D3
  grind
 ·left
  show D3 x3 y3 z3 w3 x1 y1 z1 w1 x0 y0 z0 w0 x2 y2 z2 w2=D3 x0 y0 z0 w0 x1 y1 z1 w1 x2 y2 z2 w2 x3 y3 z3 w3
  unfold D3
  grind
 ·right
  show D3 x3 y3 z3 w3 x1 y1 z1 w1 x2 y2 z2 w2 x0 y0 z0 w0=-(D3 x0 y0 z0 w0 x1 y1 z1 w1 x2 y2 z2 w2 x3 y3 z3 w3)
  unfold D3
  grind
 ·right
  show D3 x3 y3 z3 w3 x2 y2 z2 w2 x0 y0 z0 w0 x1 y1 z1 w1=-(D3 x0 y0 z0 w0 x1 y1 z1 w1 x2 y2 z2 w2 x3 y3 z3 w3)
  unfold D3
  grind
 ·left
  show D3 x3 y3 z3 w3 x2 y2 z2 w2 x1 y1 z1 w1 x0 y0 z0 w0=D3 x0 y0 z0 w0 x1 y1 z1 w1 x2 y2 z2 w2 x3 y3 z3 w3
  unfold D3
  grind
theorem aeg {n k:Nat} (hn:n=2∨n=3) (hk:k≤1000) {uss:List (List Int)} (hl:uss.length=n+1) (hg:∀ us∈uss,Gu n k us):dU (cZ uss)=dU uss∨dU (cZ uss)=- dU uss:=by
 rcases hn with rfl | rfl
 ·obtain ⟨m,hp,_⟩:=tR hl
  unfold cZ
  generalize cC uss=p at *
  match uss,hl with
  | [a,b,c],_ =>
   obtain ⟨x0,y0,w0,rfl,_⟩:=(hg a (by simp)).two hk
   obtain ⟨x1,y1,w1,rfl,_⟩:=(hg b (by simp)).two hk
   obtain ⟨x2,y2,w2,rfl,_⟩:=(hg c (by simp)).two hk
   exact afo m
 ·obtain ⟨m,hp,_⟩:=tH hl
  unfold cZ
  generalize cC uss=p at *
  match uss,hl with
  | [a,b,c,d],_ =>
   obtain ⟨x0,y0,z0,w0,rfl,_⟩:=(hg a (by simp)).three hk
   obtain ⟨x1,y1,z1,w1,rfl,_⟩:=(hg b (by simp)).three hk
   obtain ⟨x2,y2,z2,w2,rfl,_⟩:=(hg c (by simp)).three hk
   obtain ⟨x3,y3,z3,w3,rfl,_⟩:=(hg d (by simp)).three hk
   exact agC m
theorem lZ {n:Nat} (hn:n=2∨n=3) {uss:List (List Int)} (hl:uss.length=n+1):uss.length=3∨uss.length=4:=by
 rcases hn with rfl | rfl
 ·exact .inl hl
 ·exact .inr hl
theorem aeK {n:Nat} (hn:n=2∨n=3) {A:PV} {L:List PV} (S:Sto) (hl:L.length=n+1) (hg:∀ v∈L,Gp n 1000 v) (hA:Sv A L):∃ d:Int,jP [.pv A] S=.ok (.pv (.int d)) S∧sg d=sgP L:=by
 rcases hn with rfl | rfl
 ·match L,hl with
  | [P,Q,R],_ =>
   obtain ⟨x0,y0,w0,rfl,p⟩:=(hg P (by simp)).two
   obtain ⟨x1,y1,w1,rfl,q⟩:=(hg Q (by simp)).two
   obtain ⟨x2,y2,w2,rfl,r⟩:=(hg R (by simp)).two
   exact ⟨_,adi S hA p q r,kG p.pos⟩
 ·match L,hl with
  | [P,Q,R,T],_ =>
   obtain ⟨x0,y0,z0,w0,rfl,p⟩:=(hg P (by simp)).three
   obtain ⟨x1,y1,z1,w1,rfl,q⟩:=(hg Q (by simp)).three
   obtain ⟨x2,y2,z2,w2,rfl,r⟩:=(hg R (by simp)).three
   obtain ⟨x3,y3,z3,w3,rfl,s⟩:=(hg T (by simp)).three
   exact ⟨_,adb S hA p q r s,kG (Int.mul_pos p.pos p.pos)⟩
def cnr (uss:List (List Int)):List (List Int):=if sgP ((cZ uss).map tv) < 0 then swl (cZ uss) else cZ uss
theorem agR {n:Nat} (hn:n=2∨n=3) {L:List PV} (hl:L.length=n+1):∃ a b M,fSl (.lst L) none (some (-2))=some (.lst M)∧fIx (.lst L) (.int (-1))=some a∧fIx (.lst L) (.int (-2))=some b∧aI (.lst M) (.lst [a,b])=some (.lst (swl L)):=by
 rcases hn with rfl | rfl
 ·match L,hl with
  | [P,Q,R],_=>exact ⟨R,Q,[P],rfl,rfl,rfl,rfl⟩
 ·match L,hl with
  | [P,Q,R,T],_=>exact ⟨T,R,[P,Q],rfl,rfl,rfl,rfl⟩
theorem mS {uss:List (List Int)} (h:uss.length=3∨uss.length=4):(cnr uss).Perm uss:=by
 obtain ⟨pm,_⟩:=mM h
 unfold cnr
 split
 ·exact (adf _).trans pm
 ·exact pm
theorem aeT {uss:List (List Int)} (h:uss.length=3∨uss.length=4):cnr (cnr uss)=cnr uss:=by
 have e:=aaj (mS h) h
 unfold cnr at e ⊢
 rw [e]
theorem afh {S:Sto} {k j:Nat} {xs:List PV} {v:PV} (hS:S[k]?=some (.lst xs)) (hv:xs[j]?=some v) (hj:j < 1000):kP k [.pv (.int (j:Int))] S=.ok (.pv v) (S.set k (.lst (xs.eraseIdx j))):=by
 have hl:=(List.getElem?_eq_some_iff.mp hv).1
 have e:seqIndex? (j:Int) xs.length=some j:=by
  unfold seqIndex?
  have h1:¬ ((j:Int) < 0):=by omega
  have h2:(decide (0≤(j:Int)) && decide ((j:Int) < (xs.length:Int)))=true:=by
   simp only [Bool.and_eq_true,decide_eq_true_eq]
   omega
  simp only [h1,if_false]
  rw [if_pos h2,Int.toNat_natCast]
 unfold kP
 dsimp only
 rw [if_pos ⟨by omega,by omega⟩,hS]
 dsimp only
 rw [e]
 dsimp only
 rw [hv]
theorem Gu.mono {n k l:Nat} {us:List Int} (h:Gu n k us) (hl:k≤l):Gu n l us:=by
 obtain ⟨xs,w,e,P⟩:=h
 exact ⟨xs,w,e,P.mono hl⟩
theorem lL {d:Int}:sg d=0↔d=0:=by
 unfold sg
 split
 ·omega
 ·split <;> omega
theorem agb {d:Int}:sg d < 0↔d < 0:=by
 unfold sg
 split
 ·omega
 ·split <;> omega
theorem afL {n k:Nat} (hn:n=2∨n=3) (hk:k≤1000) {uss:List (List Int)} (hl:uss.length=n+1) (hg:∀ us∈uss,Gu n k us):dU (swl uss)=- dU uss:=by
 rcases hn with rfl | rfl
 ·match uss,hl with
  | [a,b,c],_ =>
   obtain ⟨x0,y0,w0,rfl,_⟩:=(hg a (by simp)).two hk
   obtain ⟨x1,y1,w1,rfl,_⟩:=(hg b (by simp)).two hk
   obtain ⟨x2,y2,w2,rfl,_⟩:=(hg c (by simp)).two hk
   show D2 x0 y0 w0 x2 y2 w2 x1 y1 w1=-(D2 x0 y0 w0 x1 y1 w1 x2 y2 w2)
   unfold D2
   grind
 ·match uss,hl with
  | [a,b,c,d],_ =>
   obtain ⟨x0,y0,z0,w0,rfl,_⟩:=(hg a (by simp)).three hk
   obtain ⟨x1,y1,z1,w1,rfl,_⟩:=(hg b (by simp)).three hk
   obtain ⟨x2,y2,z2,w2,rfl,_⟩:=(hg c (by simp)).three hk
   obtain ⟨x3,y3,z3,w3,rfl,_⟩:=(hg d (by simp)).three hk
   show D3 x0 y0 z0 w0 x1 y1 z1 w1 x3 y3 z3 w3 x2 y2 z2 w2=-(D3 x0 y0 z0 w0 x1 y1 z1 w1 x2 y2 z2 w2 x3 y3 z3 w3)
   unfold D3
   grind
theorem adN {n k:Nat} (hn:n=2∨n=3) (hk:k≤1000) {uss:List (List Int)} (hl:uss.length=n+1) (hg:∀ us∈uss,Gu n k us):dU (cnr uss)=((dU uss).natAbs:Int):=by
 have hp:=(mM (lZ hn hl)).1
 have gs:∀ us∈cZ uss,Gu n k us:=fun us hu=>hg us (hp.subset hu)
 have ls:(cZ uss).length=n+1:=by rw [hp.length_eq,hl]
 have e:=aeg hn hk hl hg
 have s:=afL hn hk ls gs
 have q:=afV hn hk ls gs
 unfold cnr
 split
 ·rename_i h
  rw [q,agb] at h
  rw [s]
  omega
 ·rename_i h
  rw [q,agb] at h
  omega
structure Sx (n k:Nat) (uss:List (List Int)):Prop where
 len:uss.length=n+1
 gu:∀ us∈uss,Gu n k us
 nz:dU uss≠0
 cn:cnr uss=uss
abbrev px (uss:List (List Int)):PV:=.tup (uss.map tv)
theorem agq {n k:Nat} (hn:n=2∨n=3) (hk:k≤1000) {uss:List (List Int)} (hl:uss.length=n+1) (hg:∀ us∈uss,Gu n k us) (nz:dU uss≠0):Sx n k (cnr uss):=by
 have hp:=mS (lZ hn hl)
 refine ⟨by rw [hp.length_eq,hl],fun us hu=>hg us (hp.subset hu),?_,aeT (lZ hn hl)⟩
 rw [adN hn hk hl hg]
 omega
def ahT (n:Nat) (A C:Nat→Int) (E:Int) (us us':List Int):Prop:=∃ xs w xs' w',us=xs++[w]∧us'=xs'++[w']∧xs.length=n∧xs'.length=n∧0 < w∧0 < w'∧∀ j,j < n→xs'.getD j 0*(E*w)=(A j*xs.getD j 0+C j*w)*w'
def mvU (way:Int) (f us:List Int):List Int:=mv way us.dropLast (us.getLastD 0) f.dropLast (f.getLastD 0)
theorem adR (way:Int) (xs:List Int) (w:Int) (ys:List Int) (v:Int):mvU way (ys++[v]) (xs++[w])=mv way xs w ys v:=by
 unfold mvU
 simp
theorem vH {n k l:Nat} {way:Int} {us f:List Int} (hway:way=1∨way=-1) (h:Gu n k us) (g:Gu n l f):Gu n (k+l+1) (mvU way f us)∧ahT n (fun _=>way*f.getLastD 0) (fun j=>f.getD j 0) (f.getLastD 0) us (mvU way f us):=by
 obtain ⟨xs,w,rfl,P⟩:=h
 obtain ⟨ys,v,rfl,Q⟩:=g
 rw [adR]
 obtain ⟨zs,z,e,Z,hv⟩:=agW hway P Q
 rw [e]
 refine ⟨⟨zs,z,rfl,Z⟩,xs,w,zs,z,rfl,rfl,P.len,Z.len,P.pos,Z.pos,fun j hj=>?_⟩
 have a:=hv _ _ _ _ (Vl.self n xs w) (Vl.self n ys v) P.pos Q.pos j hj
 rw [show (ys++[v]).getLastD 0=v by simp]
 have eg:(ys++[v]).getD j 0=ys.getD j 0:=by
  have:j < ys.length:=by rw [Q.len]; exact hj
  simp [List.getD,List.getElem?_append_left this]
 dsimp only at a ⊢
 rw [eg]
 generalize ys.getD j 0=y at a ⊢
 generalize xs.getD j 0=x at a ⊢
 generalize zs.getD j 0=t at a ⊢
 rw [Int.mul_comm v w,a]
 grind
theorem ae2 {n k l:Nat} {way:Int} {us f:List Int} (S:Sto) (hn:n=2∨n=3) (hway:way=1∨way=-1) (h:Gu n k us) (g:Gu n l f) (hk:k≤1000) (hl:l≤1000):jJ [.pv (tv us),.pv (tv f),.pv (.int way)] S=.ok (.pv (tv (mvU way f us))) S:=by
 obtain ⟨xs,w,rfl,P⟩:=h
 obtain ⟨ys,v,rfl,Q⟩:=g
 rw [adR]
 exact aek S hn hway P Q hk hl
theorem Gu.lastpos {n k:Nat} {f:List Int} (h:Gu n k f):0 < f.getLastD 0:=by
 obtain ⟨xs,w,rfl,P⟩:=h
 rw [show (xs++[w]).getLastD 0=w by simp]
 exact P.pos
theorem mk {k l:Nat} {a b:Int} (h:Bd k a) (g:Bd l b) (hk:k≤100000) (hl:l≤100000):aZ (.int a) (.int b)=some (.int (a*b)):=jM (.inr ⟨h.mono (by omega),g.mono (by omega)⟩)
def pl (u v:Int × Int):Int × Int:=((fr (u.1*v.2+v.1*u.2) (u.2*v.2)).getD 0 0,(fr (u.1*v.2+v.1*u.2) (u.2*v.2)).getD 1 0)
abbrev li (xs:List Int):List PV:=xs.map .int
theorem yL {α β:Type} (f:α→β):∀ (R:List α) (j:Nat),(R.map f).eraseIdx j=(R.eraseIdx j).map f
 | [],j=>by simp
 | a :: R,0=>by simp
 | a :: R,j+1=>by simp [yL f R j]
theorem ix3:∀ v < 3,ixN 3 ((v:Nat):Int)=some v:=by decide
abbrev kB1:MS:=(aK (gM (aA 2) (mF (aA 1) (aB (aL cV [] (aB (aA 0) (aB (mR dB (aB (aA 1) aD)) aD))) aD)) (mC (.int 1)))
 (eB (afJ (aA 3) (aB (aA 2) aD))))
theorem vT (ns:List Int) (hl:List PV) (R C:List Int) (L:List (List Int)) (x4 x5:Option AV) (hR0:0 < R.length) (hR3:R.length≤3) (hv:∀ v∈R,0≤v∧v < 3) (hC:C.length=3) (hL:L.length≤9) :
  ∃ (j v:Nat) (ns':List Int),j < R.length∧R[j]?=some (v:Int)∧kB1 [some (.ref 0),some (.ref 2),some (.ref 3),some (.ref 4),x4,x5] [.lst (li ns),.lst hl,.lst (li R),.lst (li C),.lol (L.map li)]
   = .nx [some (.ref 0),some (.ref 2),some (.ref 3),some (.ref 4),x4,x5] [.lst (li ns'),.lst hl,.lst (li (R.eraseIdx j)),.lst (li (C.set v 1)),.lol ((L++[C.set v 1]).map li)]:=by
 have hr:Row [.lst (li ns),.lst hl,.lst (li R),.lst (li C),.lol (L.map li)] 0 ns:=rfl
 obtain ⟨t,n1,e1,t0,t1,_⟩:=iJ (m:=(R.length:Int)) hr (by omega) (sm8 (by omega) (by omega))
 simp only [List.set_cons_zero] at e1
 obtain ⟨j,rfl⟩:∃ j:Nat,t=(j:Int):=⟨t.toNat,by omega⟩
 have hj:j < R.length:=by omega
 obtain ⟨v,ev⟩:∃ v:Nat,R[j]=(v:Int):=⟨R[j].toNat,by have:=hv _ (List.getElem_mem hj); omega⟩
 have hv3:v < 3:=by have:=hv _ (List.getElem_mem hj); omega
 have hq:R[j]?=some (v:Int):=by rw [List.getElem?_eq_getElem hj,ev]
 have ep:=afh (S:=[.lst (li n1),.lst hl,.lst (li R),.lst (li C),.lol (L.map li)]) (k:=2) (j:=j) (xs:=li R) (v:=.int v) rfl (by rw [List.getElem?_map,hq]; rfl) (by omega)
 simp only [List.set_cons_succ,List.set_cons_zero] at ep
 have er:(li R).eraseIdx j=li (R.eraseIdx j):=yL _ _ _
 rw [er] at ep
 have ei:ixN (li C).length (v:Int)=some v:=by
  rw [List.length_map,hC]
  exact ix3 v hv3
 have ec:(li C).set v (.int 1)=li (C.set v 1):=by simp [li,List.map_set]
 refine ⟨j,v,n1,hj,hq,?_⟩
 have e1':cV [.ref 0,.pv (.int ((li R).length:Int))] [.lst (li ns),.lst hl,.lst (li R),.lst (li C),.lol (L.map li)]=.ok (.pv (.int (j:Int))) [.lst (li n1),.lst hl,.lst (li R),.lst (li C),.lol (L.map li)]:=by
  rw [List.length_map]
  exact e1
 have el:(L++[C.set v 1]).map li=L.map li++[li (C.set v 1)]:=by simp
 rw [el]
 have lz:(L.map li).length < 16777216:=by rw [List.length_map]; omega
 generalize L.map li=LL at *
 generalize li (C.set v 1)=CS at *
 generalize li C=CL at *
 generalize li (R.eraseIdx j)=RE at *
 generalize li R=RL at *
 generalize (j:Int)=J at *
 generalize li ns=NL at *
 generalize li n1=NL1 at *
 unfold kB1
 simp [EC,aQ,aN,aO,fEq,fNe,dF,aV,aT,aS,aU,aI,aW,frz,aR,gM,jR,mF,afJ,ahJ,eC,e1',ep,ei,ec,lz]
def k6:List (List (List Int)):=[[[0,0,0],[1,0,0],[1,1,0],[1,1,1]],[[0,0,0],[1,0,0],[1,0,1],[1,1,1]],[[0,0,0],[0,1,0],[1,1,0],[1,1,1]],[[0,0,0],[0,1,0],[0,1,1],[1,1,1]],[[0,0,0],[0,0,1],[1,0,1],[1,1,1]],[[0,0,0],[0,0,1],[0,1,1],[1,1,1]]]
theorem aif {R:List Int} {j v:Nat} {a b c:Int} (h:R=[a,b,c]) (hj:j < R.length) (e:R[j]?=some (v:Int)):(j=0∧(v:Int)=a)∨(j=1∧(v:Int)=b)∨(j=2∧(v:Int)=c):=by
 subst h
 match j,hj,e with
 | 0,_,e=>simp at e; exact .inl ⟨rfl,e.symm⟩
 | 1,_,e=>simp at e; exact .inr (.inl ⟨rfl,e.symm⟩)
 | 2,_,e=>simp at e; exact .inr (.inr ⟨rfl,e.symm⟩)
theorem aic {R:List Int} {j v:Nat} {a b:Int} (h:R=[a,b]) (hj:j < R.length) (e:R[j]?=some (v:Int)):(j=0∧(v:Int)=a)∨(j=1∧(v:Int)=b):=by
 subst h
 match j,hj,e with
 | 0,_,e=>simp at e; exact .inl ⟨rfl,e.symm⟩
 | 1,_,e=>simp at e; exact .inr ⟨rfl,e.symm⟩
theorem ah3 {R:List Int} {j v:Nat} {a:Int} (h:R=[a]) (hj:j < R.length) (e:R[j]?=some (v:Int)):j=0∧(v:Int)=a:=by
 subst h
 match j,hj,e with
 | 0,_,e=>simp at e; exact ⟨rfl,e.symm⟩
theorem k3 (ns:List Int) (hl:List PV) (R C:List Int) (A:List (List Int)) (a b c:Nat) (x4 x5:Option AV) (hR:R=[(c:Int)]) (hc:c < 3) (hC:C.length=3) (hA:A.length≤9) (ks:List (List (List Int))) (hk:A++[C.set c 1]∈ks) :
  ∃ (xss:List (List Int)) (ns':List Int) (C':List Int),xss∈ks∧bZ [] (gN 4) kB1 [.int 2] [some (.ref 0),some (.ref 2),some (.ref 3),some (.ref 4),x4,x5] [.lst (li ns),.lst hl,.lst (li R),.lst (li C),.lol (A.map li)]
   = .nx [some (.ref 0),some (.ref 2),some (.ref 3),some (.ref 4),some (.pv (.int 2)),x5] [.lst (li ns'),.lst hl,.lst [],.lst (li C'),.lol (xss.map li)]:=by
 obtain ⟨j,v,n1,hj,e,h⟩:=vT ns hl R C A (some (.pv (.int 2))) x5 (by rw [hR]; simp) (by rw [hR]; simp) (by rw [hR]; simp; omega) hC hA
 obtain ⟨rfl,ev⟩:=ah3 hR hj e
 have:v=c:=by omega
 subst this
 subst hR
 refine ⟨_,n1,C.set v 1,hk,?_⟩
 rw [eJ]
 simp only [gN,List.set_cons_succ,List.set_cons_zero]
 rw [h]
 exact eO
theorem k2 (ns:List Int) (hl:List PV) (R C:List Int) (A:List (List Int)) (b c:Nat) (x4 x5:Option AV) (hR:R=[(b:Int),(c:Int)]) (hb:b < 3) (hc:c < 3) (hC:C.length=3) (hA:A.length≤8) (ks:List (List (List Int))) (h1:A++[C.set b 1]++[(C.set b 1).set c 1]∈ks) (h2:A++[C.set c 1]++[(C.set c 1).set b 1]∈ks) :
  ∃ (xss:List (List Int)) (ns':List Int) (C':List Int),xss∈ks∧bZ [] (gN 4) kB1 [.int 1,.int 2] [some (.ref 0),some (.ref 2),some (.ref 3),some (.ref 4),x4,x5] [.lst (li ns),.lst hl,.lst (li R),.lst (li C),.lol (A.map li)]
   = .nx [some (.ref 0),some (.ref 2),some (.ref 3),some (.ref 4),some (.pv (.int 2)),x5] [.lst (li ns'),.lst hl,.lst [],.lst (li C'),.lol (xss.map li)]:=by
 obtain ⟨j,v,n1,hj,e,h⟩:=vT ns hl R C A (some (.pv (.int 1))) x5 (by rw [hR]; simp) (by rw [hR]; simp) (by rw [hR]; simp; omega) hC (by omega)
 rw [eJ]
 simp only [gN,List.set_cons_succ,List.set_cons_zero]
 rw [h]
 rcases aic hR hj e with ⟨rfl,ev⟩ | ⟨rfl,ev⟩
 ·have:v=b:=by omega
  subst this
  subst hR
  exact k3 n1 hl _ (C.set v 1) _ 0 0 c _ x5 rfl hc (by rw [List.length_set]; exact hC) (by simp; omega) ks h1
 ·have:v=c:=by omega
  subst this
  subst hR
  exact k3 n1 hl _ (C.set v 1) _ 0 0 b _ x5 rfl hb (by rw [List.length_set]; exact hC) (by simp; omega) ks h2
theorem k1 (ns:List Int) (hl:List PV) (x4 x5:Option AV) :
  ∃ (xss:List (List Int)) (ns':List Int) (C':List Int),xss∈k6∧bZ [] (gN 4) kB1 [.int 0,.int 1,.int 2] [some (.ref 0),some (.ref 2),some (.ref 3),some (.ref 4),x4,x5] [.lst (li ns),.lst hl,.lst (li [0,1,2]),.lst (li [0,0,0]),.lol ([[0,0,0]].map li)]
   = .nx [some (.ref 0),some (.ref 2),some (.ref 3),some (.ref 4),some (.pv (.int 2)),x5] [.lst (li ns'),.lst hl,.lst [],.lst (li C'),.lol (xss.map li)]:=by
 obtain ⟨j,v,n1,hj,e,h⟩:=vT ns hl [0,1,2] [0,0,0] [[0,0,0]] (some (.pv (.int 0))) x5 (by decide) (by decide) (by decide) rfl (by decide)
 rw [eJ]
 simp only [gN,List.set_cons_succ,List.set_cons_zero]
 rw [h]
 rcases aif rfl hj e with ⟨rfl,ev⟩ | ⟨rfl,ev⟩ | ⟨rfl,ev⟩
 ·have:v=0:=by omega
  subst this
  exact k2 n1 hl _ [1,0,0] _ 1 2 _ x5 rfl (by decide) (by decide) rfl (by decide) k6 (by decide) (by decide)
 ·have:v=1:=by omega
  subst this
  exact k2 n1 hl _ [0,1,0] _ 0 2 _ x5 rfl (by decide) (by decide) rfl (by decide) k6 (by decide) (by decide)
 ·have:v=2:=by omega
  subst this
  exact k2 n1 hl _ [0,0,1] _ 0 1 _ x5 rfl (by decide) (by decide) rfl (by decide) k6 (by decide) (by decide)
theorem rgn (S:Sto) {n:Nat} (h:n≤9):fO [.pv (.int (n:Int))] S=.ok (fV 0 n,[]) S:=by
 have e:fO [.pv (.int (n:Int))] S=@ite _ ((n:Int)≤16777216∧-16777216≤(n:Int)) (Classical.propDecidable _) (.ok (fV 0 (n:Int).toNat,[]) S) .fail:=rfl
 rw [e,if_pos ⟨by omega,by omega⟩,Int.toNat_natCast]
theorem p9:gZ (.int 10) (.int 9)=some (.int 1000000000):=pK (i:=10) (j:=9) ⟨by decide,by decide,by decide⟩
theorem p6:gZ (.int 10) (.int 6)=some (.int 1000000):=pK (i:=10) (j:=6) ⟨by decide,by decide,by decide⟩
theorem st3 {v:Int} (h0:0≤v) (h1:v < 3):∃ M N:Int,fIx (.lst [.int 1,.int 7,.int 1000000000]) (.int v)=some (.int M)∧fIx (.lst [.int 1,.int 7,.int 1000000]) (.int v)=some (.int N)∧0 < M∧M≤1000000000∧0 < N∧N≤1000000:=by
 have:v=0∨v=1∨v=2:=by omega
 rcases this with rfl | rfl | rfl
 ·exact ⟨1,1,rfl,rfl,by decide,by decide,by decide,by decide⟩
 ·exact ⟨7,7,rfl,rfl,by decide,by decide,by decide,by decide⟩
 ·exact ⟨1000000000,1000000,rfl,rfl,by decide,by decide,by decide,by decide⟩
def bd (p:List Nat):List Nat:=if p.head?=some 45 then p.tail else p
def kE (k:List (List Int)):PV:=.tup (k.map fun r:List Int=>PV.tup (r.map PV.int))
theorem afr {k l:List (List Int)} (h:kE k=kE l):k=l:=lD (n:=true) h
abbrev Con:Type:=List (List Int) × Int
def dG:List Con→List (List Int)→Int
 | [],_=>0
 | c :: C,k=>(if c.1=k then c.2 else 0)+dG C k
theorem mO (C D:List Con) (k:List (List Int)):dG (C++D) k=dG C k+dG D k:=by
 induction C with
 | nil=>simp [dG]
 | cons c C ih=>simp [dG,ih]; omega
def ahQ:Option PV→Int
 | some (.int i)=>i
 | _=>0
def jT (kvs:List (PV × PV)) (c:Con):List (PV × PV):=hU kvs (kE c.1) (.int (ahQ (gC kvs (kE c.1))+c.2))
def tab (kvs:List (PV × PV)) (C:List Con):List (PV × PV):=C.foldl jT kvs
theorem tM (kvs:List (PV × PV)) (C D:List Con):tab (tab kvs C) D=tab kvs (C++D):=by
 unfold tab
 rw [List.foldl_append]
theorem adS {kvs:List (PV × PV)} (nd:(kvs.map (·.1)).Nodup) {i j:Nat} {k v w:PV} (h1:kvs[i]?=some (k,v)) (h2:kvs[j]?=some (k,w)):i=j:=by
 have e1:(kvs.map (·.1))[i]?=some k:=by rw [List.getElem?_map,h1]; rfl
 have e2:(kvs.map (·.1))[j]?=some k:=by rw [List.getElem?_map,h2]; rfl
 exact (List.getElem?_inj (List.getElem?_eq_some_iff.mp e1).1 nd).mp (e1.trans e2.symm)
theorem tD {kvs:List (PV × PV)} (nd:(kvs.map (·.1)).Nodup) {k v:PV} (h:(k,v)∈kvs):gC kvs k=some v:=by
 obtain ⟨i,hi⟩:=List.mem_iff_getElem?.mp h
 obtain ⟨j,hj⟩:=vE (kvs:=kvs) (k:=k) (i:=i) (by rw [List.getElem?_map,hi]; rfl)
 obtain ⟨w,hw⟩:=jL hj
 have e:=adS nd hw hi
 subst e
 unfold gC
 rw [hj]
 simp [hi]
theorem abG {kvs:List (PV × PV)} {k:PV} (h:∀ v,(k,v) ∉ kvs):gC kvs k=none:=by
 unfold gC
 cases z:dIx kvs k with
 | none=>rfl
 | some i =>
  obtain ⟨v,hv⟩:=jL z
  exact absurd (List.mem_of_getElem? hv) (h v)
theorem acL {kvs:List (PV × PV)} (nd:(kvs.map (·.1)).Nodup) {k v:PV} (x:PV × PV):x∈hU kvs k v↔(x=(k,v))∨(x.1≠k∧x∈kvs):=by
 unfold hU
 cases z:dIx kvs k with
 | none =>
  dsimp only
  rw [List.mem_append,List.mem_singleton]
  constructor
  ·rintro (h | h)
   ·refine .inr ⟨fun e=>?_,h⟩
    obtain ⟨i,hi⟩:=List.mem_iff_getElem?.mp h
    exact sU z i (by rw [List.getElem?_map,hi,← e]; rfl)
   ·exact .inl h
  ·rintro (h | h)
   ·exact .inr h
   ·exact .inl h.2
 | some i =>
  dsimp only
  obtain ⟨w,hw⟩:=jL z
  have hi:=(List.getElem?_eq_some_iff.mp hw).1
  constructor
  ·intro h
   obtain ⟨j,hj⟩:=List.mem_iff_getElem?.mp h
   rw [List.getElem?_set] at hj
   by_cases e:i=j
   ·subst e
    rw [if_pos rfl,if_pos hi] at hj
    exact .inl (Option.some.inj hj).symm
   ·rw [if_neg e] at hj
    refine .inr ⟨fun ek=>e (adS nd hw (w:=x.2) (by rw [hj,← ek])),List.mem_of_getElem? hj⟩
  ·rintro (h | ⟨h1,h2⟩)
   ·rw [h]
    exact List.mem_of_getElem? (List.getElem?_set_self hi)
   ·obtain ⟨j,hj⟩:=List.mem_iff_getElem?.mp h2
    have e:i≠j:=fun e=>by
     subst e
     rw [hw] at hj
     cases hj
     exact h1 rfl
    exact List.mem_of_getElem? (i:=j) (by rw [List.getElem?_set_ne e]; exact hj)
theorem aer {kvs:List (PV × PV)} (nd:(kvs.map (·.1)).Nodup) {k v:PV}:((hU kvs k v).map (·.1)).Nodup∧(hU kvs k v).length≤kvs.length+1:=by
 unfold hU
 cases z:dIx kvs k with
 | none =>
  dsimp only
  refine ⟨?_,by rw [List.length_append]; exact Nat.le_refl _⟩
  rw [List.map_append,List.nodup_append]
  refine ⟨nd,by simp,fun a ha b hb=>?_⟩
  have hb:b=k:=by simpa using hb
  rintro rfl
  subst hb
  obtain ⟨i,hi⟩:=List.mem_iff_getElem?.mp ha
  exact sU z i hi
 | some i =>
  dsimp only
  obtain ⟨w,hw⟩:=jL z
  refine ⟨?_,by rw [List.length_set]; exact Nat.le_succ _⟩
  have e:(kvs.set i (k,v)).map (·.1)=kvs.map (·.1):=by
   rw [List.map_set]
   refine List.ext_getElem? fun t=>?_
   rw [List.getElem?_set]
   split
   ·rename_i ht
    subst ht
    rw [if_pos (by rw [List.length_map]; exact (List.getElem?_eq_some_iff.mp hw).1),List.getElem?_map,hw]
    rfl
   ·rfl
  rw [e]
  exact nd
structure Tb (kvs:List (PV × PV)) (C:List Con):Prop where
 int:∀ x∈kvs,∃ k i,x=(kE k,.int i)
 nd:(kvs.map (·.1)).Nodup
 val:∀ k,(kE k,PV.int (dG C k))∈kvs∨((∀ v,(kE k,v) ∉ kvs)∧dG C k=0)
 len:kvs.length≤C.length
theorem Tb.nil:Tb [] []:=⟨fun _ h=>absurd h List.not_mem_nil,List.nodup_nil,fun k=>.inr ⟨fun _ h=>absurd h List.not_mem_nil,rfl⟩,Nat.le_refl _⟩
theorem Tb.get {kvs:List (PV × PV)} {C:List Con} (h:Tb kvs C) (k:List (List Int)):gC kvs (kE k)=some (.int (dG C k))∨(gC kvs (kE k)=none∧dG C k=0):=by
 rcases h.val k with e | ⟨e,z⟩
 ·exact .inl (tD h.nd e)
 ·exact .inr ⟨abG e,z⟩
theorem Tb.vint {kvs:List (PV × PV)} {C:List Con} (h:Tb kvs C) (k:List (List Int)):ahQ (gC kvs (kE k))=dG C k:=by
 rcases h.get k with e | ⟨e,z⟩
 ·rw [e]; rfl
 ·rw [e,z]; rfl
theorem Tb.add {kvs:List (PV × PV)} {C:List Con} (h:Tb kvs C) (c:Con):Tb (jT kvs c) (C++[c]):=by
 have hm:=fun x=>acL h.nd (k:=kE c.1) (v:=.int (dG C c.1+c.2)) x
 have en:=aer h.nd (k:=kE c.1) (v:=.int (dG C c.1+c.2))
 unfold jT
 rw [h.vint]
 have sm:∀ k,dG (C++[c]) k=dG C k+if c.1=k then c.2 else 0:=fun k=>by rw [mO]; simp [dG]
 refine ⟨fun x hx=>?_,en.1,fun k=>?_,by rw [List.length_append]; exact Nat.le_trans en.2 (Nat.succ_le_succ h.len)⟩
 ·rcases (hm x).mp hx with e | ⟨_,e⟩
  ·exact ⟨_,_,e⟩
  ·exact h.int x e
 ·rw [sm]
  by_cases e:c.1=k
  ·subst e
   rw [if_pos rfl]
   exact .inl ((hm _).mpr (.inl rfl))
  ·rw [if_neg e,Int.add_zero]
   have ne:kE k≠kE c.1:=fun z=>e (afr z).symm
   rcases h.val k with g | ⟨g,z⟩
   ·exact .inl ((hm _).mpr (.inr ⟨ne,g⟩))
   ·refine .inr ⟨fun v hv=>?_,z⟩
    rcases (hm _).mp hv with q | ⟨_,q⟩
    ·exact ne (congrArg Prod.fst q)
    ·exact g v q
theorem Tb.adds {kvs:List (PV × PV)} {C:List Con} (h:Tb kvs C):∀ D:List Con,Tb (tab kvs D) (C++D)
 | []=>by rw [List.append_nil]; exact h
 | c :: D=>by
  have:=(h.add c).adds D
  rw [List.append_assoc] at this
  exact this
theorem yX:∀ {L:List (PV × PV)},(∀ x∈L,∃ k i,x=(kE k,.int i))→∃ is,gO (L.map (·.2))=some is∧∀ b:Int,b∈is↔∃ k,(kE k,PV.int b)∈L
 | [],_=>⟨[],rfl,fun b=>by simp⟩
 | x :: L,h=>by
  obtain ⟨is,e,g⟩:=yX (L:=L) fun y hy=>h y (List.mem_cons_of_mem _ hy)
  obtain ⟨k,i,rfl⟩:=h x List.mem_cons_self
  refine ⟨i :: is,by rw [List.map_cons]; show (match gO (L.map (·.2)) with | some bs=>some (i :: bs) | none=>none)=_; rw [e],fun b=>?_⟩
  rw [List.mem_cons,g]
  constructor
  ·rintro (rfl | ⟨k',h'⟩)
   ·exact ⟨k,List.mem_cons_self⟩
   ·exact ⟨k',List.mem_cons_of_mem _ h'⟩
  ·rintro ⟨k',h'⟩
   rcases List.mem_cons.mp h' with q | q
   ·have q2:=congrArg Prod.snd q
    injection q2 with q2
    exact .inl q2
   ·exact .inr ⟨k',q⟩
theorem agg {kvs:List (PV × PV)} {C:List Con} (h:Tb kvs C):∃ b,nO (.ref 0) [.dic true kvs]=.ok (.pv (.bl b)) [.dic true kvs]∧(b=false↔∀ k,dG C k=0):=by
 obtain ⟨is,e,g⟩:=yX h.int
 refine ⟨is.any (· != 0),by unfold nO; simp [e],?_⟩
 rw [List.any_eq_false]
 constructor
 ·intro z k
  rcases h.val k with m | ⟨_,m⟩
  ·have:=z _ ((g _).mpr ⟨k,m⟩)
   simpa using this
  ·exact m
 ·intro z b hb
  obtain ⟨k,hk⟩:=(g b).mp hb
  rcases h.val k with m | ⟨m,_⟩
  ·have e1:=tD h.nd m
   have e2:=tD h.nd hk
   rw [e1] at e2
   have e3:dG C k=b:=by injection e2 with e2; injection e2
   rw [← e3,z k]
   simp
  ·exact absurd hk (m _)
theorem acq {kvs:List (PV × PV)} {C:List Con} (h:Tb kvs C) (k:List (List Int)):lV (.ref 0) (.pv (kE k)) [.dic true kvs] (some (.pv (.int 0)))=.ok (.pv (.int (dG C k))) [.dic true kvs]:=by
 unfold lV
 simp only [List.getElem?_cons_zero]
 rw [if_pos ⟨k,rfl⟩]
 rcases h.get k with e | ⟨e,z⟩
 ·rw [e]
 ·rw [e,z]
theorem act {kvs:List (PV × PV)} {C:List Con} (h:Tb kvs C) (hl:C.length≤100000) (k:List (List Int)) (m:Int):nN (.ref 0) (.pv (kE k)) (.pv (.int (dG C k+m))) [.dic true kvs]=.ok (.pv .non) [.dic true (jT kvs (k,m))]:=by
 unfold nN jT
 simp only [List.getElem?_cons_zero]
 have:=h.len
 rw [if_pos ⟨⟨k,rfl⟩,by omega⟩,h.vint]
 rfl
def fsg:List Int→Int
 | []=>0
 | n :: r=>if n=0 then fsg r else sg n
def aY (ns:List Int):List Int:=(low ns).map (fsg ns*·)
theorem yS (S:Sto):∀ (ns:List Int) (x:Option AV),dC [] (gN 0) (bK (aC fNe (aA 0) (mC (.int 0)))) (aA 0) (ns.map .int) [x] S=.ok ((ns.filter (fun x=>!decide (x=0))).map .int) S
 | [],x=>aba
 | n :: ns,x=>by
  have ih:=yS S ns (some (.pv (.int n)))
  show dC [] _ _ _ (.int n :: ns.map .int) _ S=_
  rw [aap]
  by_cases h:n=0
  ·subst h
   simp [gN,EC,aQ,aN,aO,fIx,atI,ixN,fEq,fNe,eqN,aV,aT,aS,aU,aI,aW,frz,aR,ih]
  ·have hb:(!n == 0)=true:=by simpa using h
   simp [gN,EC,aQ,aN,aO,fIx,atI,ixN,fEq,fNe,eqN,aV,aT,aS,aU,aI,aW,frz,aR,hb,ih,h]
theorem zD:∀ {ns:List Int},(∃ n∈ns,n≠0)→∃ m L,ns.filter (fun x=>!decide (x=0))=m :: L∧sg m=fsg ns
 | [],h=>by
  obtain ⟨n,h,_⟩:=h
  cases h
 | n :: ns,h=>by
  by_cases e:n=0
  ·subst e
   obtain ⟨m,L,e1,e2⟩:=zD (ns:=ns) (by
    obtain ⟨k,hk,nk⟩:=h
    rcases List.mem_cons.mp hk with rfl | hk
    ·exact absurd rfl nk
    ·exact ⟨k,hk,nk⟩)
   exact ⟨m,L,by simpa using e1,by rw [e2]; simp [fsg]⟩
  ·exact ⟨n,ns.filter (fun x=>!decide (x=0)),by simp [e],by simp [fsg,e]⟩
theorem agQ {ns:List Int} (h:∃ n∈ns,n≠0):gl ns 0≠0:=fun e=>by
 obtain ⟨n,hn,z⟩:=h
 obtain ⟨m,hm⟩:=(gL ns 0).2 n hn
 rw [e] at hm
 exact z (by rw [hm,Int.zero_mul])
theorem uD (ns:List Int) (S:Sto) (hb:∀ n∈ns,Bd 8000 n) (nz:∃ n∈ns,n≠0):iV [.pv (.lst (ns.map .int))] S=.ok (.pv (tv (aY ns))) S:=by
 obtain ⟨m,L,e1,e2⟩:=zD nz
 have ef:=yS S ns none
 rw [e1] at ef
 have er:=aaT ns S hb (agQ nz)
 have ec:=aaM S m (low ns) none
 rw [e2] at ec
 have i0:fIx (.lst ((m :: L).map .int)) (.int 0)=some (.int m):=mT (j:=0) rfl
 unfold iV fnM rJ aY
 generalize (m :: L).map PV.int=ML at *
 simp [EC,aQ,aN,aO,fEq,fNe,dF,aV,aT,aS,aU,aI,aW,frz,aR,lO,mIt,cN,cD,ef,i0,er,bF,ec]
theorem lB {ns:List Int}:aY (ns.map (- ·))=aY ns:=by
 unfold aY
 have hf:∀ l:List Int,fsg (l.map (- ·))=- fsg l:=fun l=>by
  induction l with
  | nil=>rfl
  | cons n l ih =>
   rw [List.map_cons]
   unfold fsg
   by_cases h:n=0
   ·subst h
    simpa using ih
   ·rw [if_neg h,if_neg (by omega),afP]
 rw [adk,hf,List.map_map]
 refine List.map_congr_left fun n _=>?_
 simp [Int.neg_mul_neg]
def arr:List Int→List Int→List Int
 | [x0,y0,w0],[x1,y1,w1]=>[x1*w0 - x0*w1,y1*w0 - y0*w1]
 | [x0,y0,z0,w0],[x1,y1,z1,w1]=>[x1*w0 - x0*w1,y1*w0 - y0*w1,z1*w0 - z0*w1]
 | _,_=>[]
def crs:List Int→List Int→List Int
 | [a,b,c],[d,e,f]=>[b*f - c*e,c*d - a*f,a*e - b*d]
 | _,_=>[]
def nrm:List (List Int)→List Int
 | [p,q]=>(match arr p q with
  | [a,b]=>[-b,a]
  | _=>[])
 | [p,q,r]=>crs (arr p q) (arr p r)
 | _=>[]
def sd (pi s e:List Int) (n:Int):List Con:=[([pi,aY (arr s e),s],n),([pi,aY (arr s e),e],-n)]
def sdU:List (List Int)→List (List Int × List Int)
 | [p,q]=>[(p,q)]
 | [a,b,c]=>[(c,a),(a,b),(b,c)]
 | _=>[]
def cW (w:List (List Int)) (n:Int):List Con:=(sdU w).flatMap fun x=>sd (aY (nrm w)) x.1 x.2 n
structure Ar (s e:List Int):Prop where
 eq:∀ S,hV [.pv (tv s),.pv (tv e)] S=.ok (.pv (.lst ((arr s e).map .int))) S
 bd:∀ n∈arr s e,Bd 8000 n
 nz:∃ n∈arr s e,n≠0
theorem Ar.way {s e:List Int} (h:Ar s e) (S:Sto):iV [.pv (.lst ((arr s e).map .int))] S=.ok (.pv (tv (aY (arr s e)))) S:=uD _ S h.bd h.nz
def mkB:MS:=(aK (aM 9 (mN dH (aB (aA 3) (aB (aA 6) (aB (aA 7) aD)))))
 (qH (aA 0) (aA 9) (aC aI (qD (aA 0) (aB (aA 9) (aB (mC (.int 0)) aD))) (aA 8))))
theorem afy {kvs:List (PV × PV)} {C:List Con} (h:Tb kvs C) (hl:C.length≤100000) (pi d p:List Int) (m:Int) (w1 w2 s4 s5 x9:Option AV) :
  mkB [some (.ref 0),w1,w2,some (.pv (tv pi)),s4,s5,some (.pv (tv d)),some (.pv (tv p)),some (.pv (.int m)),x9] [.dic true kvs]=.nx [some (.ref 0),w1,w2,some (.pv (tv pi)),s4,s5,some (.pv (tv d)),some (.pv (tv p)),some (.pv (.int m)),some (.pv (kE [pi,d,p]))] [.dic true (jT kvs ([pi,d,p],m))]:=by
 have ek:PV.tup [tv pi,tv d,tv p]=kE [pi,d,p]:=rfl
 have e1:=acq h [pi,d,p]
 have e2:=act h hl [pi,d,p] m
 unfold mkB
 generalize tv pi=T1 at *
 generalize tv d=T2 at *
 generalize tv p=T3 at *
 simp [EC,aQ,aN,aO,fIx,atI,ixN,fEq,fNe,eqN,aV,aT,aS,aU,aI,aW,frz,aR,qD,pZ,qH,ek,e1,e2]
def sdB:MS:=(aK (aM 6 (aL iV [] (aB (aL hV [] (aB (aA 4) (aB (aA 5) aD))) aD)))
 (bU (mIt (mN dH (aB (mN dH (aB (aA 4) (aB (aA 2) aD))) (aB (mN dH (aB (aA 5) (aB (mUn cU (aA 2)) aD))) aD)))) (gT 2 (bT (gN 7) (bT (gN 8) dD))) mkB))
theorem ahg {kvs:List (PV × PV)} {C:List Con} (h:Tb kvs C) (hl:C.length≤90000) {s e:List Int} (a:Ar s e) (pi:List Int) (n:Int) (w1 x6 x7 x8 x9:Option AV) :
  ∃ y6 y7 y8 y9,sdB [some (.ref 0),w1,some (.pv (.int n)),some (.pv (tv pi)),some (.pv (tv s)),some (.pv (tv e)),x6,x7,x8,x9] [.dic true kvs]=.nx [some (.ref 0),w1,some (.pv (.int n)),some (.pv (tv pi)),some (.pv (tv s)),some (.pv (tv e)),y6,y7,y8,y9] [.dic true (tab kvs (sd pi s e n))]:=by
 have h2:=h.add ([pi,aY (arr s e),s],n)
 have e1:=afy h (by omega) pi (aY (arr s e)) s n w1 (some (.pv (.int n))) (some (.pv (tv s))) (some (.pv (tv e))) x9
 have e2:=afy h2 (by rw [List.length_append]; simp; omega) pi (aY (arr s e)) e (-n) w1 (some (.pv (.int n))) (some (.pv (tv s))) (some (.pv (tv e))) (some (.pv (kE [pi,aY (arr s e),s])))
 have ea:=a.eq [.dic true kvs]
 have ew:=a.way [.dic true kvs]
 have et:tab kvs (sd pi s e n)=jT (jT kvs ([pi,aY (arr s e),s],n)) ([pi,aY (arr s e),e],-n):=rfl
 rw [et]
 refine ⟨some (.pv (tv (aY (arr s e)))),some (.pv (tv e)),some (.pv (.int (-n))),some (.pv (kE [pi,aY (arr s e),e])),?_⟩
 unfold sdB
 generalize tv s=T1 at *
 generalize tv e=T2 at *
 generalize tv (aY (arr s e))=T3 at *
 generalize tv pi=T4 at *
 generalize (arr s e).map PV.int=T5 at *
 simp [EC,aQ,aN,aO,fIx,atI,ixN,fEq,fNe,eqN,aV,aT,aS,aU,aI,aW,frz,aR,ea,ew,bU,mIt,cN,eJ,eO,gT,bT,dD,gN,e1,e2]
structure Wl (w:List (List Int)):Prop where
 ln:w.length=2∨w.length=3
 ar:∀ x∈sdU w,Ar x.1 x.2
 pl:∀ S,iX [.pv (.tup (w.map tv))] S=.ok (.pv (tv (aY (nrm w)))) S
theorem acR {w:List (List Int)} (h:w.length=2∨w.length=3) (S:Sto):lM [.pv (.tup (w.map tv))] S=.ok (.pv (.lst ((sdU w).map fun x=>.tup [tv x.1,tv x.2]))) S:=by
 have rg:fO [.pv (.int 3)] S=.ok ([.int 0,.int 1,.int 2],[]) S:=by
  unfold fO
  dsimp only
  rw [if_pos (by decide)]
  rfl
 unfold lM fnM tZ
 rcases h with h | h
 ·match w,h with
  | [a,b],_ =>
   generalize hA:tv a=TA
   generalize hB:tv b=TB
   simp [EC,aQ,aN,aO,fIx,atI,ixN,fEq,fNe,eqN,aV,aT,aS,aU,aI,aW,frz,aR,sdU,hA,hB]
 ·match w,h with
  | [a,b,c],_ =>
   generalize hA:tv a=TA
   generalize hB:tv b=TB
   generalize hC:tv c=TC
   simp [EC,aQ,aN,aO,fIx,atI,ixN,fEq,fNe,eqN,aV,aT,aS,aU,aI,aW,frz,aR,sdU,hA,hB,hC,bF,cD,bJ,rg,eF,eA,gN]
def pwB:MS:=(aK (aM 3 (aL iX [] (aB (aA 1) aD)))
 (bU (mIt (aL lM [] (aB (aA 1) aD))) (gT 2 (bT (gN 4) (bT (gN 5) dD))) sdB))
theorem xQ {kvs0:List (PV × PV)} {C:List Con} (pi:List Int) (n:Int) (w1:Option AV):∀ (L:List (List Int × List Int)) (kvs:List (PV × PV)) (D:List Con),Tb kvs (C++D)→(C++D).length+2*L.length≤90000→(∀ x∈L,Ar x.1 x.2)→∀ x4 x5 x6 x7 x8 x9,
  ∃ y4 y5 y6 y7 y8 y9,bZ [] (gT 2 (bT (gN 4) (bT (gN 5) dD))) sdB (L.map fun x=>.tup [tv x.1,tv x.2]) [some (.ref 0),w1,some (.pv (.int n)),some (.pv (tv pi)),x4,x5,x6,x7,x8,x9] [.dic true kvs]=.nx [some (.ref 0),w1,some (.pv (.int n)),some (.pv (tv pi)),y4,y5,y6,y7,y8,y9] [.dic true (tab kvs (L.flatMap fun x=>sd pi x.1 x.2 n))]
 | [],kvs,D,h,hl,ha,x4,x5,x6,x7,x8,x9=>⟨x4,x5,x6,x7,x8,x9,eO⟩
 | x :: L,kvs,D,h,hl,ha,x4,x5,x6,x7,x8,x9=>by
  rw [List.length_cons] at hl
  obtain ⟨z6,z7,z8,z9,e⟩:=ahg h (by omega) (ha x List.mem_cons_self) pi n w1 x6 x7 x8 x9
  have h2:=h.adds (sd pi x.1 x.2 n)
  rw [List.append_assoc] at h2
  obtain ⟨y4,y5,y6,y7,y8,y9,e2⟩:=xQ (kvs0:=kvs0) pi n w1 L _ _ h2 (by
   rw [← List.append_assoc,List.length_append]
   have:(sd pi x.1 x.2 n).length=2:=rfl
   omega) (fun y hy=>ha y (List.mem_cons_of_mem _ hy)) (some (.pv (tv x.1))) (some (.pv (tv x.2))) z6 z7 z8 z9
  refine ⟨y4,y5,y6,y7,y8,y9,?_⟩
  rw [tM] at e2
  rw [List.map_cons,eJ,List.flatMap_cons]
  simp [gT,bT,dD,gN,e,e2]
theorem aex {kvs:List (PV × PV)} {C:List Con} (h:Tb kvs C) (hl:C.length≤80000) {w:List (List Int)} (hw:Wl w) (n:Int):kW [.ref 0,.pv (.tup (w.map tv)),.pv (.int n)] [.dic true kvs]=.ok (.pv .non) [.dic true (tab kvs (cW w n))]:=by
 have l3:(sdU w).length≤3:=by
  rcases hw.ln with e | e
  ·match w,e with
   | [a,b],_=>simp [sdU]
  ·match w,e with
   | [a,b,c],_=>simp [sdU]
 obtain ⟨y4,y5,y6,y7,y8,y9,e⟩:=xQ (kvs0:=kvs) (C:=C) (aY (nrm w)) n (some (.pv (.tup (w.map tv)))) (sdU w) kvs [] (by rw [List.append_nil]; exact h) (by rw [List.append_nil]; omega) hw.ar none none none none none none
 have e1:=hw.pl [.dic true kvs]
 have e2:=acR hw.ln [.dic true kvs]
 have hb:rS=pwB:=rfl
 unfold kW fnM cW
 rw [hb]
 unfold pwB
 generalize PV.tup (w.map tv)=T1 at *
 generalize (sdU w).map (fun x=>PV.tup [tv x.1,tv x.2])=T2 at *
 generalize tv (aY (nrm w))=T3 at *
 simp [EC,aQ,aN,aO,fIx,atI,ixN,fEq,fNe,eqN,aV,aT,aS,aU,aI,aW,frz,aR,e1,e2,bU,mIt,cN,e]
def eY:List (List Int)→List (List (List Int))
 | [a,b,c]=>[[a,b],[b,c],[c,a]]
 | [a,b,c,d]=>[[b,c,d],[a,d,c],[a,b,d],[a,c,b]]
 | _=>[]
def cP (uss:List (List Int)) (n:Int):List Con:=(eY uss).flatMap fun w=>cW w n
def cH (hs:List (List (List Int))) (n:Int):List Con:=hs.flatMap fun uss=>cP uss n
structure Pc (uss:List (List Int)):Prop where
 ln:uss.length=3∨uss.length=4
 wl:∀ w∈eY uss,Wl w
theorem acG {uss:List (List Int)} (h:uss.length=3∨uss.length=4) (S:Sto):lK [.pv (px uss)] S=.ok (.pv (.lst ((eY uss).map fun w=>.tup (w.map tv)))) S:=by
 unfold lK fnM uC
 rcases h with h | h
 ·match uss,h with
  | [a,b,c],_ =>
   generalize hA:tv a=TA
   generalize hB:tv b=TB
   generalize hC:tv c=TC
   simp [EC,aQ,aN,aO,fIx,atI,ixN,fEq,fNe,eqN,aV,aT,aS,aU,aI,aW,frz,aR,eY,hA,hB,hC,bF,cD,mIt,cN,eF,eA,gN]
 ·match uss,h with
  | [a,b,c,d],_ =>
   generalize hA:tv a=TA
   generalize hB:tv b=TB
   generalize hC:tv c=TC
   generalize hD:tv d=TD
   simp [EC,aQ,aN,aO,fIx,atI,ixN,fEq,fNe,eqN,aV,aT,aS,aU,aI,aW,frz,aR,eY,hA,hB,hC,hD,bF,cD,mIt,cN,eF,eA,gN]
theorem jO (w:List (List Int)) (n:Int):(cW w n).length≤6:=by
 unfold cW sdU
 split <;> simp [sd]
theorem adK (uss:List (List Int)) (n:Int):(cP uss n).length≤24:=by
 unfold cP eY
 split
 ·rename_i a b c
  have h1:=jO [a,b] n
  have h2:=jO [b,c] n
  have h3:=jO [c,a] n
  simp only [List.flatMap_cons,List.flatMap_nil,List.length_append,List.length_nil]
  omega
 ·rename_i a b c d
  have h1:=jO [b,c,d] n
  have h2:=jO [a,d,c] n
  have h3:=jO [a,b,d] n
  have h4:=jO [a,c,b] n
  simp only [List.flatMap_cons,List.flatMap_nil,List.length_append,List.length_nil]
  omega
 ·simp
def wlB:MS:=(eB (aL kW [] (aB (aA 2) (aB (aA 6) (aB (aA 4) aD)))))
def pcB:MS:=(bU (mIt (aL lK [] (aB (aA 5) aD))) (gN 6) wlB)
def hpB:MS:=(bU (mIt (aA 3)) (gN 5) pcB)
def smB:MS:=(aK (aM 2 (qL true))
 (aK (bU (mIt (mN dH (aB (mN dH (aB (aA 0) (aB (mC (.int 1)) aD))) (aB (mN dH (aB (aA 1) (aB (mUn cU (mC (.int 1))) aD))) aD)))) (gT 2 (bT (gN 3) (bT (gN 4) dD))) hpB)
 (bP (mUn mI (qF (aA 2))))))
theorem xP {C:List Con} (n:Int) (a0 a1 a3 a5:Option AV):∀ (L:List (List (List Int))) (kvs:List (PV × PV)) (D:List Con),Tb kvs (C++D)→(C++D).length+6*L.length≤80000→(∀ w∈L,Wl w)→∀ x6,
  ∃ y6,bZ [] (gN 6) wlB (L.map fun w=>.tup (w.map tv)) [a0,a1,some (.ref 0),a3,some (.pv (.int n)),a5,x6] [.dic true kvs]=.nx [a0,a1,some (.ref 0),a3,some (.pv (.int n)),a5,y6] [.dic true (tab kvs (L.flatMap fun w=>cW w n))]
 | [],kvs,D,h,hl,ha,x6=>⟨x6,eO⟩
 | w :: L,kvs,D,h,hl,ha,x6=>by
  rw [List.length_cons] at hl
  have e:=aex h (by omega) (ha w List.mem_cons_self) n
  have h2:=h.adds (cW w n)
  rw [List.append_assoc] at h2
  obtain ⟨y6,e2⟩:=xP n a0 a1 a3 a5 L _ _ h2 (by
   rw [← List.append_assoc,List.length_append]
   have:=jO w n
   omega) (fun y hy=>ha y (List.mem_cons_of_mem _ hy)) (some (.pv (.tup (w.map tv))))
  refine ⟨y6,?_⟩
  rw [tM] at e2
  rw [List.map_cons,eJ,List.flatMap_cons]
  generalize PV.tup (w.map tv)=T1 at *
  have e3:wlB [a0,a1,some (.ref 0),a3,some (.pv (.int n)),a5,some (.pv T1)] [.dic true kvs]=.nx [a0,a1,some (.ref 0),a3,some (.pv (.int n)),a5,some (.pv T1)] [.dic true (tab kvs (cW w n))]:=by
   unfold wlB
   simp [EC,aQ,aN,aO,fIx,atI,ixN,fEq,fNe,eqN,aV,aT,aS,aU,aI,aW,frz,aR,e]
  simp [gN,e3,e2]
theorem zN {C:List Con} (n:Int) (a0 a1 a3:Option AV):∀ (L:List (List (List Int))) (kvs:List (PV × PV)) (D:List Con),Tb kvs (C++D)→(C++D).length+24*L.length≤70000→(∀ u∈L,Pc u)→∀ x5 x6,
  ∃ y5 y6,bZ [] (gN 5) pcB (L.map px) [a0,a1,some (.ref 0),a3,some (.pv (.int n)),x5,x6] [.dic true kvs]=.nx [a0,a1,some (.ref 0),a3,some (.pv (.int n)),y5,y6] [.dic true (tab kvs (cH L n))]
 | [],kvs,D,h,hl,ha,x5,x6=>⟨x5,x6,eO⟩
 | u :: L,kvs,D,h,hl,ha,x5,x6=>by
  rw [List.length_cons] at hl
  have hp:=ha u List.mem_cons_self
  have lw:(eY u).length≤4:=by
   rcases hp.ln with e | e
   ·match u,e with
    | [a,b,c],_=>simp [eY]
   ·match u,e with
    | [a,b,c,d],_=>simp [eY]
  obtain ⟨z6,e⟩:=xP (C:=C) n a0 a1 a3 (some (.pv (px u))) (eY u) kvs D h (by omega) hp.wl x6
  have e1:=acG hp.ln [.dic true kvs]
  have h2:=h.adds (cP u n)
  rw [List.append_assoc] at h2
  obtain ⟨y5,y6,e2⟩:=zN n a0 a1 a3 L _ _ h2 (by
   rw [← List.append_assoc,List.length_append]
   have:=adK u n
   omega) (fun y hy=>ha y (List.mem_cons_of_mem _ hy)) (some (.pv (px u))) z6
  refine ⟨y5,y6,?_⟩
  rw [tM] at e2
  have ec:cH (u :: L) n=cP u n++cH L n:=List.flatMap_cons
  rw [List.map_cons,eJ,ec]
  have e0:(eY u).flatMap (fun w=>cW w n)=cP u n:=rfl
  rw [e0] at e
  generalize (eY u).map (fun w=>PV.tup (w.map tv))=T2 at *
  generalize px u=T1 at *
  have e3:pcB [a0,a1,some (.ref 0),a3,some (.pv (.int n)),some (.pv T1),x6] [.dic true kvs]=.nx [a0,a1,some (.ref 0),a3,some (.pv (.int n)),some (.pv T1),z6] [.dic true (tab kvs (cP u n))]:=by
   unfold pcB
   simp [EC,aQ,aN,aO,fIx,atI,ixN,fEq,fNe,eqN,aV,aT,aS,aU,aI,aW,frz,aR,bU,mIt,cN,e1,e]
  simp [gN,e3,e2]
theorem agf {C:List Con} {n:Int} {a0 a1 x5 x6:Option AV} {A:PV} {hs:List (List (List Int))} {kvs:List (PV × PV)} (h:Tb kvs C) (hl:C.length+24*hs.length≤70000) (ha:∀ u∈hs,Pc u) (hA:Sv A (hs.map px)) :
  ∃ y5 y6,hpB [a0,a1,some (.ref 0),some (.pv A),some (.pv (.int n)),x5,x6] [.dic true kvs]=.nx [a0,a1,some (.ref 0),some (.pv A),some (.pv (.int n)),y5,y6] [.dic true (tab kvs (cH hs n))]:=by
 obtain ⟨y5,y6,e⟩:=zN (C:=C) n a0 a1 (some (.pv A)) hs kvs [] (by rw [List.append_nil]; exact h) (by rw [List.append_nil]; exact hl) ha x5 x6
 refine ⟨y5,y6,?_⟩
 unfold hpB
 rcases hA with rfl | rfl <;> simp [EC,aQ,aN,aO,fIx,atI,ixN,fEq,fNe,eqN,aV,aT,aS,aU,aI,aW,frz,aR,bU,mIt,cN,e]
theorem aey {A B:PV} {hs gs:List (List (List Int))} (hA:Sv A (hs.map px)) (hB:Sv B (gs.map px)) (h:∀ u∈hs,Pc u) (g:∀ u∈gs,Pc u) (lh:hs.length≤1000) (lg:gs.length≤1000) :
  ∃ b,fI [.pv A,.pv B] []=.ok (.pv (.bl b)) []∧(b=true↔∀ k,dG (cH hs 1++cH gs (-1)) k=0):=by
 have h0:=Tb.nil
 have cl:∀ (hs:List (List (List Int))) (n:Int),(cH hs n).length≤24*hs.length:=fun hs n=>by
  induction hs with
  | nil=>simp [cH]
  | cons u hs ih =>
   have e:cH (u :: hs) n=cP u n++cH hs n:=List.flatMap_cons
   rw [e,List.length_append,List.length_cons]
   have:=adK u n
   omega
 obtain ⟨y5,y6,e1⟩:=agf (n:=1) (a0:=some (.pv A)) (a1:=some (.pv B)) (x5:=none) (x6:=none) h0 (by simp; omega) h hA
 have h1:=h0.adds (cH hs 1)
 rw [List.nil_append] at h1
 have l1:=cl hs 1
 obtain ⟨z5,z6,e2⟩:=agf (n:=-1) (a0:=some (.pv A)) (a1:=some (.pv B)) (x5:=y5) (x6:=y6) h1 (by omega) g hB
 have h2:=h1.adds (cH gs (-1))
 obtain ⟨b,e3,eb⟩:=agg h2
 refine ⟨!b,?_,by rw [← eb]; cases b <;> simp⟩
 have hb:vF=smB:=rfl
 unfold fI fnM
 rw [hb]
 unfold smB
 simp [EC,aQ,aN,aO,fIx,atI,ixN,fEq,fNe,eqN,aV,aT,aS,aU,aI,aW,frz,aR,qL,bU,mIt,cN,eJ,eO,gT,bT,dD,gN,e1,e2,qF,e3]
theorem ar2 {x0 y0 w0 x1 y1 w1:Int} (p:P2 x0 y0 w0) (q:P2 x1 y1 w1) (nz:¬ (x1*w0 - x0*w1=0∧y1*w0 - y0*w1=0)):Ar [x0,y0,w0] [x1,y1,w1]:=by
 refine ⟨fun S=>adP S p q,fun n hn=>?_,?_⟩
 ·have hn:n=x1*w0 - x0*w1∨n=y1*w0 - y0*w1:=by simpa [arr] using hn
  rcases hn with rfl | rfl
  ·exact (sb p.bx p.bw q.bx q.bw).mono (by decide)
  ·exact (sb p.by_ p.bw q.by_ q.bw).mono (by decide)
 ·by_cases h:x1*w0 - x0*w1=0
  ·exact ⟨_,by simp [arr],fun h2=>nz ⟨h,h2⟩⟩
  ·exact ⟨_,by simp [arr],h⟩
theorem ar3 {x0 y0 z0 w0 x1 y1 z1 w1:Int} (p:P3 x0 y0 z0 w0) (q:P3 x1 y1 z1 w1) (nz:¬ (x1*w0 - x0*w1=0∧y1*w0 - y0*w1=0∧z1*w0 - z0*w1=0)):Ar [x0,y0,z0,w0] [x1,y1,z1,w1]:=by
 refine ⟨fun S=>vB S p q,fun n hn=>?_,?_⟩
 ·have hn:n=x1*w0 - x0*w1∨n=y1*w0 - y0*w1∨n=z1*w0 - z0*w1:=by simpa [arr] using hn
  rcases hn with rfl | rfl | rfl
  ·exact (sb p.bx p.bw q.bx q.bw).mono (by decide)
  ·exact (sb p.by_ p.bw q.by_ q.bw).mono (by decide)
  ·exact (sb p.bz p.bw q.bz q.bw).mono (by decide)
 ·by_cases h:x1*w0 - x0*w1=0
  ·by_cases h1:y1*w0 - y0*w1=0
   ·exact ⟨_,by simp [arr],fun h2=>nz ⟨h,h1,h2⟩⟩
   ·exact ⟨y1*w0 - y0*w1,by simp [arr],h1⟩
  ·exact ⟨x1*w0 - x0*w1,by simp [arr],h⟩
theorem wl2 {x0 y0 w0 x1 y1 w1:Int} (p:P2 x0 y0 w0) (q:P2 x1 y1 w1) (nz:¬ (x1*w0 - x0*w1=0∧y1*w0 - y0*w1=0)):Wl [[x0,y0,w0],[x1,y1,w1]]:=by
 have a:=ar2 p q nz
 refine ⟨.inl rfl,fun x hx=>?_,fun S=>?_⟩
 ·have hx:x=([x0,y0,w0],[x1,y1,w1]):=by simpa [sdU] using hx
  subst hx
  exact a
 ·have e1:=adP S p q
  have e2:=ad1 (x1*w0 - x0*w1) (y1*w0 - y0*w1) S
  have e3:=uD (nrm [[x0,y0,w0],[x1,y1,w1]]) S (fun n hn=>by
   have hn:n=-(y1*w0 - y0*w1)∨n=x1*w0 - x0*w1:=by simpa [nrm,arr] using hn
   rcases hn with rfl | rfl
   ·exact ((sb p.by_ p.bw q.by_ q.bw).neg).mono (by decide)
   ·exact (sb p.bx p.bw q.bx q.bw).mono (by decide)) (by
   by_cases h:x1*w0 - x0*w1=0
   ·exact ⟨-(y1*w0 - y0*w1),by simp [nrm,arr],fun h2=>nz ⟨h,by omega⟩⟩
   ·exact ⟨x1*w0 - x0*w1,by simp [nrm,arr],h⟩)
  have e4:(nrm [[x0,y0,w0],[x1,y1,w1]]).map PV.int=[.int (-(y1*w0 - y0*w1)),.int (x1*w0 - x0*w1)]:=rfl
  rw [e4] at e3
  have i0:fIx (.tup [v2 x0 y0 w0,v2 x1 y1 w1]) (.int 0)=some (v2 x0 y0 w0):=mT (j:=0) rfl
  have sl:=qG (v2 x0 y0 w0) [v2 x1 y1 w1]
  show iX [.pv (.tup [v2 x0 y0 w0,v2 x1 y1 w1])] S=_
  generalize tv (aY (nrm [[x0,y0,w0],[x1,y1,w1]]))=R at *
  generalize x1*w0 - x0*w1=u at *
  generalize y1*w0 - y0*w1=v at *
  generalize v2 x0 y0 w0=A at *
  generalize v2 x1 y1 w1=B at *
  unfold iX fnM oB
  simp [EC,aQ,aN,aO,fEq,fNe,dF,aV,aT,aS,aU,aI,aW,frz,aR,bF,cD,mIt,mSl,mO0,mO1,iE,sl,cN,eF,eA,gN,i0,e1,e2,e3]
theorem wl3 {x0 y0 z0 w0 x1 y1 z1 w1 x2 y2 z2 w2:Int} (p:P3 x0 y0 z0 w0) (q:P3 x1 y1 z1 w1) (r:P3 x2 y2 z2 w2) (nz:∃ n∈nrm [[x0,y0,z0,w0],[x1,y1,z1,w1],[x2,y2,z2,w2]],n≠0):Wl [[x0,y0,z0,w0],[x1,y1,z1,w1],[x2,y2,z2,w2]]:=by
 have hn:nrm [[x0,y0,z0,w0],[x1,y1,z1,w1],[x2,y2,z2,w2]]=[(y1*w0 - y0*w1)*(z2*w0 - z0*w2) - (z1*w0 - z0*w1)*(y2*w0 - y0*w2),(z1*w0 - z0*w1)*(x2*w0 - x0*w2) - (x1*w0 - x0*w1)*(z2*w0 - z0*w2),(x1*w0 - x0*w1)*(y2*w0 - y0*w2) - (y1*w0 - y0*w1)*(x2*w0 - x0*w2)]:=rfl
 rw [hn] at nz
 have q0:=p.pos
 have q1:=q.pos
 have q2:=r.pos
 have n01:¬ (x1*w0 - x0*w1=0∧y1*w0 - y0*w1=0∧z1*w0 - z0*w1=0):=fun ⟨h1,h2,h3⟩=>by
  obtain ⟨n,hm,h⟩:=nz
  rw [h1,h2,h3] at hm
  simp at hm
  exact h hm
 have n20:¬ (x0*w2 - x2*w0=0∧y0*w2 - y2*w0=0∧z0*w2 - z2*w0=0):=fun ⟨h1,h2,h3⟩=>by
  obtain ⟨n,hm,h⟩:=nz
  rw [show x2*w0 - x0*w2=0 by omega,show y2*w0 - y0*w2=0 by omega,show z2*w0 - z0*w2=0 by omega] at hm
  simp at hm
  exact h hm
 have n12:¬ (x2*w1 - x1*w2=0∧y2*w1 - y1*w2=0∧z2*w1 - z1*w2=0):=fun ⟨h1,h2,h3⟩=>by
  obtain ⟨n,hm,h⟩:=nz
  have g:w1*n=0:=by
   simp only [List.mem_cons,List.not_mem_nil,or_false] at hm
   rcases hm with rfl | rfl | rfl <;> grind
  rcases Int.mul_eq_zero.mp g with g | g
  ·omega
  ·exact h g
 refine ⟨.inr rfl,fun x hx=>?_,fun S=>?_⟩
 ·have hx:x=([x2,y2,z2,w2],[x0,y0,z0,w0])∨x=([x0,y0,z0,w0],[x1,y1,z1,w1])∨x=([x1,y1,z1,w1],[x2,y2,z2,w2]):=by simpa [sdU] using hx
  rcases hx with rfl | rfl | rfl
  ·exact ar3 r p n20
  ·exact ar3 p q n01
  ·exact ar3 q r n12
 ·have e1:=vB S p q
  have e2:=vB S p r
  have b1:=sb p.bx p.bw q.bx q.bw
  have b2:=sb p.by_ p.bw q.by_ q.bw
  have b3:=sb p.bz p.bw q.bz q.bw
  have b4:=sb p.bx p.bw r.bx r.bw
  have b5:=sb p.by_ p.bw r.by_ r.bw
  have b6:=sb p.bz p.bw r.bz r.bw
  have m:(2001:Nat)≤10000:=by decide
  have e3:=aed S (b1.mono m) (b2.mono m) (b3.mono m) (b4.mono m) (b5.mono m) (b6.mono m)
  have e4:=uD (nrm [[x0,y0,z0,w0],[x1,y1,z1,w1],[x2,y2,z2,w2]]) S (fun n hm=>by
   rw [hn] at hm
   simp only [List.mem_cons,List.not_mem_nil,or_false] at hm
   rcases hm with rfl | rfl | rfl
   ·exact (cb b2 b6 b3 b5).mono (by decide)
   ·exact (cb b3 b4 b1 b6).mono (by decide)
   ·exact (cb b1 b5 b2 b4).mono (by decide)) (by rw [hn]; exact nz)
  generalize tv (aY (nrm [[x0,y0,z0,w0],[x1,y1,z1,w1],[x2,y2,z2,w2]]))=R at *
  rw [hn] at e4
  have i0:fIx (.tup [v3 x0 y0 z0 w0,v3 x1 y1 z1 w1,v3 x2 y2 z2 w2]) (.int 0)=some (v3 x0 y0 z0 w0):=mT (j:=0) rfl
  have sl:=qG (v3 x0 y0 z0 w0) [v3 x1 y1 z1 w1,v3 x2 y2 z2 w2]
  show iX [.pv (.tup [v3 x0 y0 z0 w0,v3 x1 y1 z1 w1,v3 x2 y2 z2 w2])] S=_
  clear nz hn n01 n12 n20 b1 b2 b3 b4 b5 b6
  generalize x1*w0 - x0*w1=u1 at *
  generalize y1*w0 - y0*w1=u2 at *
  generalize z1*w0 - z0*w1=u3 at *
  generalize x2*w0 - x0*w2=v1 at *
  generalize y2*w0 - y0*w2=v2 at *
  generalize z2*w0 - z0*w2=v3 at *
  generalize L2.Pp.PV.tup [.int x0,.int y0,.int z0,.int w0]=A at *
  generalize L2.Pp.PV.tup [.int x1,.int y1,.int z1,.int w1]=B at *
  generalize L2.Pp.PV.tup [.int x2,.int y2,.int z2,.int w2]=T at *
  generalize u2*v3 - u3*v2=k1 at *
  generalize u3*v1 - u1*v3=k2 at *
  generalize u1*v2 - u2*v1=k3 at *
  simp only [List.map_cons,List.map_nil] at e4
  unfold iX fnM oB
  simp [EC,aQ,aN,aO,fEq,fNe,dF,aV,aT,aS,aU,aI,aW,frz,aR,bF,cD,mIt,mSl,mO0,mO1,iE,sl,cN,eF,eA,gN,i0,e1,e2,e3,e4]
theorem pU {x0 y0 z0 w0 x1 y1 z1 w1 x2 y2 z2 w2 x3 y3 z3 w3:Int} (p0:0 < w0) (d:D3 x0 y0 z0 w0 x1 y1 z1 w1 x2 y2 z2 w2 x3 y3 z3 w3≠0):∃ n∈nrm [[x0,y0,z0,w0],[x1,y1,z1,w1],[x2,y2,z2,w2]],n≠0:=by
 apply Decidable.byContradiction
 intro h
 have hz:∀ n∈nrm [[x0,y0,z0,w0],[x1,y1,z1,w1],[x2,y2,z2,w2]],n=0:=fun n hn=>Decidable.byContradiction fun c=>h ⟨n,hn,c⟩
 have h1:(y1*w0 - y0*w1)*(z2*w0 - z0*w2) - (z1*w0 - z0*w1)*(y2*w0 - y0*w2)=0:=hz _ (by simp [nrm,crs,arr])
 have h2:(z1*w0 - z0*w1)*(x2*w0 - x0*w2) - (x1*w0 - x0*w1)*(z2*w0 - z0*w2)=0:=hz _ (by simp [nrm,crs,arr])
 have h3:(x1*w0 - x0*w1)*(y2*w0 - y0*w2) - (y1*w0 - y0*w1)*(x2*w0 - x0*w2)=0:=hz _ (by simp [nrm,crs,arr])
 have e:w0*w0*D3 x0 y0 z0 w0 x1 y1 z1 w1 x2 y2 z2 w2 x3 y3 z3 w3=((y1*w0 - y0*w1)*(z2*w0 - z0*w2) - (z1*w0 - z0*w1)*(y2*w0 - y0*w2))*(x3*w0 - x0*w3)+((z1*w0 - z0*w1)*(x2*w0 - x0*w2) - (x1*w0 - x0*w1)*(z2*w0 - z0*w2))*(y3*w0 - y0*w3)+((x1*w0 - x0*w1)*(y2*w0 - y0*w2) - (y1*w0 - y0*w1)*(x2*w0 - x0*w2))*(z3*w0 - z0*w3):=by
  unfold D3
  grind
 rw [h1,h2,h3,Int.zero_mul,Int.zero_mul,Int.zero_mul] at e
 rcases Int.mul_eq_zero.mp e with g | g
 ·rcases Int.mul_eq_zero.mp g with g | g <;> omega
 ·exact d g
theorem aib (x0 y0 z0 w0 x1 y1 z1 w1 x2 y2 z2 w2 x3 y3 z3 w3:Int):D3 x1 y1 z1 w1 x2 y2 z2 w2 x3 y3 z3 w3 x0 y0 z0 w0=- D3 x0 y0 z0 w0 x1 y1 z1 w1 x2 y2 z2 w2 x3 y3 z3 w3:=by
 unfold D3
 grind
theorem aig (x0 y0 z0 w0 x1 y1 z1 w1 x2 y2 z2 w2 x3 y3 z3 w3:Int):D3 x0 y0 z0 w0 x3 y3 z3 w3 x2 y2 z2 w2 x1 y1 z1 w1=- D3 x0 y0 z0 w0 x1 y1 z1 w1 x2 y2 z2 w2 x3 y3 z3 w3:=by
 unfold D3
 grind
theorem aik (x0 y0 z0 w0 x1 y1 z1 w1 x2 y2 z2 w2 x3 y3 z3 w3:Int):D3 x0 y0 z0 w0 x1 y1 z1 w1 x3 y3 z3 w3 x2 y2 z2 w2=- D3 x0 y0 z0 w0 x1 y1 z1 w1 x2 y2 z2 w2 x3 y3 z3 w3:=by
 unfold D3
 grind
theorem ail (x0 y0 z0 w0 x1 y1 z1 w1 x2 y2 z2 w2 x3 y3 z3 w3:Int):D3 x0 y0 z0 w0 x2 y2 z2 w2 x1 y1 z1 w1 x3 y3 z3 w3=- D3 x0 y0 z0 w0 x1 y1 z1 w1 x2 y2 z2 w2 x3 y3 z3 w3:=by
 unfold D3
 grind
theorem ahm {n k:Nat} (hn:n=2∨n=3) (hk:k≤1000) {uss:List (List Int)} (hl:uss.length=n+1) (hg:∀ us∈uss,Gu n k us) (nz:dU uss≠0):Pc uss:=by
 rcases hn with rfl | rfl
 ·match uss,hl with
  | [a,b,c],_ =>
   obtain ⟨x0,y0,w0,rfl,p0⟩:=(hg a (by simp)).two hk
   obtain ⟨x1,y1,w1,rfl,p1⟩:=(hg b (by simp)).two hk
   obtain ⟨x2,y2,w2,rfl,p2⟩:=(hg c (by simp)).two hk
   have nz:D2 x0 y0 w0 x1 y1 w1 x2 y2 w2≠0:=nz
   have q0:=p0.pos
   have q1:=p1.pos
   have q2:=p2.pos
   refine ⟨.inl rfl,fun w hw=>?_⟩
   have hw:w=[[x0,y0,w0],[x1,y1,w1]]∨w=[[x1,y1,w1],[x2,y2,w2]]∨w=[[x2,y2,w2],[x0,y0,w0]]:=by simpa [eY] using hw
   have key:∀ {u D:Int},0 < u→u*D=0→D=0:=fun hu h=>by
    rcases Int.mul_eq_zero.mp h with g | g
    ·omega
    ·exact g
   rcases hw with rfl | rfl | rfl
   ·refine wl2 p0 p1 fun ⟨h1,h2⟩=>nz (key q0 ?_)
    have e:w0*D2 x0 y0 w0 x1 y1 w1 x2 y2 w2=(x1*w0 - x0*w1)*(y2*w0 - y0*w2) - (y1*w0 - y0*w1)*(x2*w0 - x0*w2):=by unfold D2; grind
    rw [e,h1,h2,Int.zero_mul,Int.zero_mul,Int.sub_zero]
   ·refine wl2 p1 p2 fun ⟨h1,h2⟩=>nz (key q1 ?_)
    have e:w1*D2 x0 y0 w0 x1 y1 w1 x2 y2 w2=(x2*w1 - x1*w2)*(y0*w1 - y1*w0) - (y2*w1 - y1*w2)*(x0*w1 - x1*w0):=by unfold D2; grind
    rw [e,h1,h2,Int.zero_mul,Int.zero_mul,Int.sub_zero]
   ·refine wl2 p2 p0 fun ⟨h1,h2⟩=>nz (key q2 ?_)
    have e:w2*D2 x0 y0 w0 x1 y1 w1 x2 y2 w2=(x0*w2 - x2*w0)*(y1*w2 - y2*w1) - (y0*w2 - y2*w0)*(x1*w2 - x2*w1):=by unfold D2; grind
    rw [e,h1,h2,Int.zero_mul,Int.zero_mul,Int.sub_zero]
 ·match uss,hl with
  | [a,b,c,d],_ =>
   obtain ⟨x0,y0,z0,w0,rfl,p0⟩:=(hg a (by simp)).three hk
   obtain ⟨x1,y1,z1,w1,rfl,p1⟩:=(hg b (by simp)).three hk
   obtain ⟨x2,y2,z2,w2,rfl,p2⟩:=(hg c (by simp)).three hk
   obtain ⟨x3,y3,z3,w3,rfl,p3⟩:=(hg d (by simp)).three hk
   have nz:D3 x0 y0 z0 w0 x1 y1 z1 w1 x2 y2 z2 w2 x3 y3 z3 w3≠0:=nz
   refine ⟨.inr rfl,fun w hw=>?_⟩
   have hw:w=[[x1,y1,z1,w1],[x2,y2,z2,w2],[x3,y3,z3,w3]]∨w=[[x0,y0,z0,w0],[x3,y3,z3,w3],[x2,y2,z2,w2]]∨w=[[x0,y0,z0,w0],[x1,y1,z1,w1],[x3,y3,z3,w3]]∨w=[[x0,y0,z0,w0],[x2,y2,z2,w2],[x1,y1,z1,w1]]:=by simpa [eY] using hw
   rcases hw with rfl | rfl | rfl | rfl
   ·exact wl3 p1 p2 p3 (pU p1.pos (x3:=x0) (y3:=y0) (z3:=z0) (w3:=w0) (by rw [aib]; omega))
   ·exact wl3 p0 p3 p2 (pU p0.pos (x3:=x1) (y3:=y1) (z3:=z1) (w3:=w1) (by rw [aig]; omega))
   ·exact wl3 p0 p1 p3 (pU p0.pos (x3:=x2) (y3:=y2) (z3:=z2) (w3:=w2) (by rw [aik]; omega))
   ·exact wl3 p0 p2 p1 (pU p0.pos (x3:=x3) (y3:=y3) (z3:=z3) (w3:=w3) (by rw [ail]; omega))
theorem ahj {k:Int} (h:k≠0):sg k*sg k=1:=by
 unfold sg; (repeat' split) <;> omega
theorem zW {k:Int} (hk:0 < k) (l:List Int):aY (l.map (k*·))=aY l:=by
 by_cases z:gl l 0=0
 ·have e:l.map (k*·)=l:=by
   have h:=tO z
   clear z
   induction l with
   | nil=>rfl
   | cons n l ih=>rw [List.map_cons,ih fun m hm=>h m (List.mem_cons_of_mem _ hm),h n (List.mem_cons_self ..),Int.mul_zero]
  rw [e]
 ·have hf:∀ l:List Int,fsg (l.map (k*·))=fsg l:=fun l=>by
   induction l with
   | nil=>rfl
   | cons n l ih =>
    rw [List.map_cons]
    unfold fsg
    by_cases h:n=0
    ·subst h
     simpa using ih
    ·rw [if_neg h,if_neg (Int.mul_ne_zero (by omega) h),kG hk]
  unfold aY
  rw [sN hk l z,hf]
theorem aaC {k:Int} (hk:k≠0) (l:List Int):aY (l.map (k*·))=aY l:=by
 by_cases h:0 < k
 ·exact zW h l
 ·have e:l.map (k*·)=(l.map ((-k)*·)).map (- ·):=by
   rw [List.map_map]
   refine List.map_congr_left fun n _=>?_
   show k*n=-(-k*n)
   rw [Int.neg_mul,Int.neg_neg]
  rw [e,lB,zW (by omega) l]
theorem sV {u v:List Int} {a b:Int} (ha:a≠0) (hb:b≠0) (h:u.map (a*·)=v.map (b*·)):aY u=aY v:=by
 rw [← aaC ha,h,aaC hb]
theorem oU (ns:List Int):∃ g:Int,ns=(aY ns).map (g*·):=by
 by_cases z:gl ns 0=0
 ·have h:=tO z
  refine ⟨0,?_⟩
  have hl:(aY ns).length=ns.length:=by unfold aY; rw [List.length_map,aeP]
  generalize aY ns=D at hl
  clear z
  induction ns generalizing D with
  | nil=>cases D with
   | nil=>rfl
   | cons a D=>simp at hl
  | cons n ns ih =>
   cases D with
   | nil=>simp at hl
   | cons a D =>
    rw [List.map_cons,← ih (fun m hm=>h m (List.mem_cons_of_mem _ hm)) D (by simpa using hl),h n (List.mem_cons_self ..),Int.zero_mul]
 ·obtain ⟨g,_,e⟩:=aet ns
  have hf:fsg ns*fsg ns=1:=by
   have:∀ l:List Int,gl l 0≠0→fsg l*fsg l=1:=fun l=>by
    induction l with
    | nil=>intro h; exact absurd rfl h
    | cons n l ih =>
     intro h
     unfold fsg
     by_cases e:n=0
     ·subst e
      rw [if_pos rfl]
      exact ih (by simpa [gl] using h)
     ·rw [if_neg e]
      exact ahj e
   exact this ns z
  refine ⟨g*fsg ns,?_⟩
  unfold aY
  rw [List.map_map]
  refine e.trans ?_
  refine List.map_congr_left fun n _=>?_
  show g*n=g*fsg ns*(fsg ns*n)
  grind
theorem sS {a b c d e f:Int} (h:aY [a,b,c]=aY [d,e,f]):b*f=c*e∧c*d=a*f∧a*e=b*d:=by
 obtain ⟨g,hg⟩:=oU [a,b,c]
 obtain ⟨i,hi⟩:=oU [d,e,f]
 rw [← h] at hi
 match hD:aY [a,b,c],hg,hi with
 | [x,y,z],hg,hi =>
  simp at hg hi
  obtain ⟨h1,h2,h3⟩:=hg
  obtain ⟨h4,h5,h6⟩:=hi
  subst h1 h2 h3 h4 h5 h6
  refine ⟨?_,?_,?_⟩ <;> grind
 | [],hg,hi=>simp at hg
 | [_],hg,hi=>simp at hg
 | [_,_],hg,hi=>simp at hg
 | _ :: _ :: _ :: _ :: _,hg,hi=>simp at hg
theorem ack {a b d e:Int} (h:aY [a,b]=aY [d,e]):a*e=b*d:=by
 obtain ⟨g,hg⟩:=oU [a,b]
 obtain ⟨i,hi⟩:=oU [d,e]
 rw [← h] at hi
 match hD:aY [a,b],hg,hi with
 | [x,y],hg,hi =>
  simp at hg hi
  obtain ⟨h1,h2⟩:=hg
  obtain ⟨h4,h5⟩:=hi
  subst h1 h2 h4 h5
  grind
 | [],hg,hi=>simp at hg
 | [_],hg,hi=>simp at hg
 | _ :: _ :: _ :: _,hg,hi=>simp at hg
def tk (pi d p:List Int) (k:List (List Int)):Int:=if [pi,d,p]=k then 1 else 0
def Ed (pi s e:List Int) (k:List (List Int)):Int:=tk pi (aY (arr s e)) s k - tk pi (aY (arr s e)) e k
theorem afl (pi s e:List Int) (n:Int) (k:List (List Int)):dG (sd pi s e n) k=n*Ed pi s e k:=by
 unfold sd Ed tk
 simp only [dG]
 split <;> split <;> simp <;> omega
def W2 (p q:List Int) (k:List (List Int)):Int:=Ed (aY (nrm [p,q])) p q k
def W3 (p q r:List Int) (k:List (List Int)):Int:=Ed (aY (nrm [p,q,r])) r p k+Ed (aY (nrm [p,q,r])) p q k+Ed (aY (nrm [p,q,r])) q r k
def PS (uss:List (List Int)) (k:List (List Int)):Int:=match uss with
 | [a,b,c]=>W2 a b k+W2 b c k+W2 c a k
 | [a,b,c,d]=>W3 b c d k+W3 a d c k+W3 a b d k+W3 a c b k
 | _=>0
theorem ag8 {uss:List (List Int)} (h:uss.length=3∨uss.length=4) (n:Int) (k:List (List Int)):dG (cP uss n) k=n*PS uss k:=by
 rcases h with h | h
 ·match uss,h with
  | [a,b,c],_ =>
   simp only [cP,eY,cW,sdU,List.flatMap_cons,List.flatMap_nil,List.append_nil,mO,afl,PS,W2]
   generalize Ed _ a b k=A
   generalize Ed _ b c k=B
   generalize Ed _ c a k=C
   grind
 ·match uss,h with
  | [a,b,c,d],_ =>
   simp only [cP,eY,cW,sdU,List.flatMap_cons,List.flatMap_nil,List.append_nil,mO,afl,PS,W3,Int.mul_add]
   omega
def Pw (n:Nat) (us:List Int):Prop:=∃ xs w,us=xs++[w]∧xs.length=n∧0 < w
theorem Pw.two {us:List Int} (h:Pw 2 us):∃ x y w,us=[x,y,w]∧0 < w:=by
 obtain ⟨xs,w,rfl,l,p⟩:=h
 match xs,l with
 | [x,y],_=>exact ⟨x,y,w,rfl,p⟩
theorem Pw.three {us:List Int} (h:Pw 3 us):∃ x y z w,us=[x,y,z,w]∧0 < w:=by
 obtain ⟨xs,w,rfl,l,p⟩:=h
 match xs,l with
 | [x,y,z],_=>exact ⟨x,y,z,w,rfl,p⟩
theorem Gu.pt {n k:Nat} {us:List Int} (h:Gu n k us):Pw n us:=by
 obtain ⟨xs,w,e,P⟩:=h
 exact ⟨xs,w,e,P.len,P.pos⟩
theorem oZ {n:Nat} (hn:n=2∨n=3) {p q:List Int} (hp:Pw n p) (hq:Pw n q):arr q p=(arr p q).map (- ·):=by
 rcases hn with rfl | rfl
 ·obtain ⟨x0,y0,w0,rfl,_⟩:=hp.two
  obtain ⟨x1,y1,w1,rfl,_⟩:=hq.two
  simp [arr,Int.neg_sub]
 ·obtain ⟨x0,y0,z0,w0,rfl,_⟩:=hp.three
  obtain ⟨x1,y1,z1,w1,rfl,_⟩:=hq.three
  simp [arr,Int.neg_sub]
theorem iL {n:Nat} (hn:n=2∨n=3) {p q:List Int} (hp:Pw n p) (hq:Pw n q) (pi:List Int) (k:List (List Int)):Ed pi q p k=- Ed pi p q k:=by
 unfold Ed
 rw [oZ hn hp hq,lB]
 omega
theorem jB {p q:List Int} (hp:Pw 2 p) (hq:Pw 2 q) (k:List (List Int)):W2 q p k=- W2 p q k:=by
 have e:nrm [q,p]=(nrm [p,q]).map (- ·):=by
  obtain ⟨x0,y0,w0,rfl,_⟩:=hp.two
  obtain ⟨x1,y1,w1,rfl,_⟩:=hq.two
  simp [nrm,arr,Int.neg_sub]
 unfold W2
 rw [e,lB,iL (.inl rfl) hp hq]
theorem l3 {a b c d e f:Int} (h:a=d) (g:b=e) (i:c=f):[a,b,c]=[d,e,f]:=by rw [h,g,i]
theorem ahh {p q r:List Int} (hp:Pw 3 p) (hq:Pw 3 q) (hr:Pw 3 r):aY (nrm [q,p,r])=aY (nrm [p,q,r]):=by
 obtain ⟨x0,y0,z0,w0,rfl,p0⟩:=hp.three
 obtain ⟨x1,y1,z1,w1,rfl,p1⟩:=hq.three
 obtain ⟨x2,y2,z2,w2,rfl,p2⟩:=hr.three
 refine sV (a:=w0) (b:=- w1) (by omega) (by omega) ?_
 simp only [nrm,arr,crs,List.map_cons,List.map_nil]
 refine l3 ?_ ?_ ?_ <;> grind
theorem agv {p q r:List Int} (hp:Pw 3 p) (hq:Pw 3 q) (hr:Pw 3 r):aY (nrm [p,r,q])=aY (nrm [p,q,r]):=by
 obtain ⟨x0,y0,z0,w0,rfl,p0⟩:=hp.three
 obtain ⟨x1,y1,z1,w1,rfl,p1⟩:=hq.three
 obtain ⟨x2,y2,z2,w2,rfl,p2⟩:=hr.three
 refine sV (a:=1) (b:=- 1) (by omega) (by omega) ?_
 simp only [nrm,arr,crs,List.map_cons,List.map_nil]
 refine l3 ?_ ?_ ?_ <;> grind
theorem iG {p q r:List Int} (hp:Pw 3 p) (hq:Pw 3 q) (hr:Pw 3 r) (k:List (List Int)):W3 q p r k=- W3 p q r k:=by
 unfold W3
 rw [ahh hp hq hr,iL (.inr rfl) hq hr,iL (.inr rfl) hp hq,iL (.inr rfl) hr hp]
 omega
theorem gD {p q r:List Int} (hp:Pw 3 p) (hq:Pw 3 q) (hr:Pw 3 r) (k:List (List Int)):W3 p r q k=- W3 p q r k:=by
 unfold W3
 rw [agv hp hq hr,iL (.inr rfl) hq hr,iL (.inr rfl) hp hq,iL (.inr rfl) hr hp]
 omega
def Sgn (A B:List (List Int)):Prop:=∃ s:Int,(s=1∨s=-1)∧dU B=s*dU A∧∀ k,PS B k=s*PS A k
theorem Sgn.trans {A B C:List (List Int)} (h:Sgn A B) (g:Sgn B C):Sgn A C:=by
 obtain ⟨s,hs,e1,e2⟩:=h
 obtain ⟨t,ht,e3,e4⟩:=g
 refine ⟨t*s,?_,by rw [e3,e1,Int.mul_assoc],fun k=>by rw [e4,e2,Int.mul_assoc]⟩
 rcases hs with rfl | rfl <;> rcases ht with rfl | rfl <;> simp
theorem aeY {n:Nat} (hn:n=2∨n=3) {pre l:List (List Int)} {x y:List Int} (hl:(pre++y :: x :: l).length=n+1) (hp:∀ u∈pre++y :: x :: l,Pw n u):Sgn (pre++y :: x :: l) (pre++x :: y :: l):=by
 refine ⟨-1,.inr rfl,?_⟩
 have hx:=hp x (by simp)
 have hy:=hp y (by simp)
 rcases hn with rfl | rfl
 ·match pre,l,hl with
  | [],[c],_ =>
   have hc:=hp c (by simp)
   refine ⟨?_,fun k=>?_⟩
   ·obtain ⟨x0,y0,w0,rfl,_⟩:=hx.two
    obtain ⟨x1,y1,w1,rfl,_⟩:=hy.two
    obtain ⟨x2,y2,w2,rfl,_⟩:=hc.two
    simp only [dU,D2,List.nil_append]
    grind
   ·have h1:=jB hx hy k
    have h2:=jB hx hc k
    have h3:=jB hy hc k
    simp only [PS,List.nil_append]
    omega
  | [c],[],_ =>
   have hc:=hp c (by simp)
   refine ⟨?_,fun k=>?_⟩
   ·obtain ⟨x0,y0,w0,rfl,_⟩:=hx.two
    obtain ⟨x1,y1,w1,rfl,_⟩:=hy.two
    obtain ⟨x2,y2,w2,rfl,_⟩:=hc.two
    simp only [dU,D2,List.nil_append,List.cons_append]
    grind
   ·have h1:=jB hx hy k
    have h2:=jB hx hc k
    have h3:=jB hy hc k
    simp only [PS,List.nil_append,List.cons_append]
    omega
  | [],[],h=>simp at h
  | [],_ :: _ :: _,h=>simp at h
  | _ :: _ :: _,_,h=>simp at h; omega
  | [_],_ :: _,h=>simp at h
 ·have tri:∀ {c d:List Int},Pw 3 c→Pw 3 d→∀ k,(W3 x y c k=- W3 y x c k∧W3 x y d k=- W3 y x d k)∧(W3 c x y k=- W3 c y x k∧W3 d x y k=- W3 d y x k)∧(W3 x c y k=- W3 y c x k∧W3 x d y k=- W3 y d x k)∧(W3 x c d k=- W3 x d c k∧W3 y c d k=- W3 y d c k∧W3 c x d k=- W3 x c d k∧W3 c y d k=- W3 y c d k∧W3 x d c k=- W3 d x c k∧W3 y d c k=- W3 d y c k∧W3 c d x k=- W3 c x d k∧W3 c d y k=- W3 c y d k∧W3 d c x k=- W3 d x c k∧W3 d c y k=- W3 d y c k)∧(W3 x c y k=- W3 x y c k∧W3 c y x k=- W3 y c x k∧W3 c x y k=- W3 x c y k∧W3 y c x k=- W3 y x c k∧W3 x d y k=- W3 x y d k∧W3 d y x k=- W3 y d x k∧W3 d x y k=- W3 x d y k∧W3 y d x k=- W3 y x d k):=fun {c d} hc hd k=>by
   have a1:=iG hy hx hc k
   have a2:=iG hy hx hd k
   have b1:=gD hc hy hx k
   have b2:=gD hd hy hx k
   have c1:=gD hx hy hc k
   have c2:=iG hx hc hy k
   have c3:=iG hy hc hx k
   have c4:=gD hy hx hc k
   have d1:=gD hx hy hd k
   have d2:=iG hx hd hy k
   have d3:=iG hy hd hx k
   have d4:=gD hy hx hd k
   have e1:=gD hx hd hc k
   have e2:=gD hy hd hc k
   have e3:=iG hx hc hd k
   have e4:=iG hy hc hd k
   have e5:=iG hd hx hc k
   have e6:=iG hd hy hc k
   have e7:=gD hc hx hd k
   have e8:=gD hc hy hd k
   have e9:=gD hd hx hc k
   have e0:=gD hd hy hc k
   omega
  match pre,l,hl with
  | [],[c,d],_ =>
   have hc:=hp c (by simp)
   have hd:=hp d (by simp)
   refine ⟨?_,fun k=>?_⟩
   ·obtain ⟨x0,y0,z0,w0,rfl,_⟩:=hx.three
    obtain ⟨x1,y1,z1,w1,rfl,_⟩:=hy.three
    obtain ⟨x2,y2,z2,w2,rfl,_⟩:=hc.three
    obtain ⟨x3,y3,z3,w3,rfl,_⟩:=hd.three
    simp only [dU,D3,List.nil_append]
    grind
   ·have t:=tri hc hd k
    simp only [PS,List.nil_append]
    omega
  | [c],[d],_ =>
   have hc:=hp c (by simp)
   have hd:=hp d (by simp)
   refine ⟨?_,fun k=>?_⟩
   ·obtain ⟨x0,y0,z0,w0,rfl,_⟩:=hx.three
    obtain ⟨x1,y1,z1,w1,rfl,_⟩:=hy.three
    obtain ⟨x2,y2,z2,w2,rfl,_⟩:=hc.three
    obtain ⟨x3,y3,z3,w3,rfl,_⟩:=hd.three
    simp only [dU,D3,List.nil_append,List.cons_append]
    grind
   ·have t:=tri hc hd k
    simp only [PS,List.nil_append,List.cons_append]
    omega
  | [c,d],[],_ =>
   have hc:=hp c (by simp)
   have hd:=hp d (by simp)
   refine ⟨?_,fun k=>?_⟩
   ·obtain ⟨x0,y0,z0,w0,rfl,_⟩:=hx.three
    obtain ⟨x1,y1,z1,w1,rfl,_⟩:=hy.three
    obtain ⟨x2,y2,z2,w2,rfl,_⟩:=hc.three
    obtain ⟨x3,y3,z3,w3,rfl,_⟩:=hd.three
    simp only [dU,D3,List.nil_append,List.cons_append]
    grind
   ·have t:=tri hc hd k
    simp only [PS,List.nil_append,List.cons_append]
    omega
  | [],[],h=>simp at h
  | [],[_],h=>simp at h
  | [],_ :: _ :: _ :: _,h=>simp at h
  | [_],[],h=>simp at h
  | [_],_ :: _ :: _,h=>simp at h
  | [_,_],_ :: _,h=>simp at h
  | _ :: _ :: _ :: _,_,h=>simp at h; omega
theorem abn {n:Nat} (hn:n=2∨n=3) {A B:List (List Int)} (h:A.Perm B):∀ pre:List (List Int),(pre++A).length=n+1→(∀ u∈pre++A,Pw n u)→Sgn (pre++A) (pre++B):=by
 induction h with
 | nil=>exact fun pre _ _=>⟨1,.inl rfl,(Int.one_mul _).symm,fun k=>(Int.one_mul _).symm⟩
 | cons x _ ih =>
  intro pre hl hp
  have:=ih (pre++[x]) (by simpa using hl) (by simpa using hp)
  simpa using this
 | swap x y l=>exact fun pre hl hp=>aeY hn hl hp
 | trans h1 h2 ih1 ih2 =>
  intro pre hl hp
  have e:∀ u,u∈pre++_↔u∈pre++_:=fun u=>(h1.append_left pre).mem_iff
  exact (ih1 pre hl hp).trans (ih2 pre (by rw [← (h1.append_left pre).length_eq]; exact hl) fun u hu=>hp u ((e u).mpr hu))
theorem adC {n k:Nat} (hn:n=2∨n=3) (hk:k≤1000) {uss:List (List Int)} (hl:uss.length=n+1) (hg:∀ us∈uss,Gu n k us) (nz:dU uss≠0) (kk:List (List Int)):PS (cnr uss) kk=sg (dU uss)*PS uss kk:=by
 obtain ⟨s,hs,e1,e2⟩:=abn hn (mS (lZ hn hl)).symm [] hl fun u hu=>(hg u hu).pt
 simp only [List.nil_append] at e1 e2
 rw [adN hn hk hl hg] at e1
 rw [e2]
 congr 1
 unfold sg
 rcases hs with rfl | rfl <;> (repeat' split) <;> omega
theorem dW {pi s e:List Int} {a b v:List Int} (h1:s≠v) (h2:e≠v):Ed pi s e [a,b,v]=0:=by
 unfold Ed tk
 rw [if_neg (by simp [h1]),if_neg (by simp [h2])]
 rfl
theorem agZ {uss:List (List Int)} {a b v:List Int} (h:∀ u∈uss,u≠v):PS uss [a,b,v]=0:=by
 unfold PS
 split
 ·rename_i p q r
  have h1:=h p (by simp)
  have h2:=h q (by simp)
  have h3:=h r (by simp)
  simp only [W2]
  rw [dW h1 h2,dW h2 h3,dW h3 h1]
  rfl
 ·rename_i p q r s
  have h1:=h p (by simp)
  have h2:=h q (by simp)
  have h3:=h r (by simp)
  have h4:=h s (by simp)
  simp only [W3]
  rw [dW h1 h2,dW h2 h3,dW h3 h1,dW h2 h1,dW h3 h2,dW h1 h3,dW h4 h1,dW h4 h2,dW h4 h3,dW h1 h4,dW h2 h4,dW h3 h4]
  rfl
 ·rfl
theorem adA {pi s e v:List Int} (h1:e≠s) (hv:v=s):Ed pi s e [pi,aY (arr s e),v]=1:=by
 subst hv
 unfold Ed tk
 rw [if_pos rfl,if_neg (by simp [h1])]
 rfl
theorem nI {pi pj s e d v:List Int} (h:aY (arr s e)≠d):Ed pi s e [pj,d,v]=0:=by
 unfold Ed tk
 rw [if_neg (by simp [h]),if_neg (by simp [h])]
 rfl
theorem ahl {pi pj s e d v:List Int} (h:pi≠pj):Ed pi s e [pj,d,v]=0:=by
 unfold Ed tk
 rw [if_neg (by simp [h]),if_neg (by simp [h])]
 rfl
theorem ahf {u1 u2 u3 v1 v2 v3 q1 q2 q3:Int} (h1:v2*u3=v3*u2) (h2:v3*u1=v1*u3) (h3:v1*u2=v2*u1):(u2*v3 - u3*v2)*q1+(u3*v1 - u1*v3)*q2+(u1*v2 - u2*v1)*q3=0:=by
 have e1:u2*v3 - u3*v2=0:=by grind
 have e2:u3*v1 - u1*v3=0:=by grind
 have e3:u1*v2 - u2*v1=0:=by grind
 rw [e1,e2,e3]
 simp
theorem agL {u1 u2 u3 v1 v2 v3 q1 q2 q3:Int} (h1:q2*u3=q3*u2) (h2:q3*u1=q1*u3) (h3:q1*u2=q2*u1):(u2*v3 - u3*v2)*q1+(u3*v1 - u1*v3)*q2+(u1*v2 - u2*v1)*q3=0:=by
 have e:(u2*v3 - u3*v2)*q1+(u3*v1 - u1*v3)*q2+(u1*v2 - u2*v1)*q3=v1*(q2*u3 - q3*u2)*-1*-1+v2*(q3*u1 - q1*u3)+v3*(q1*u2 - q2*u1):=by grind
 rw [e,h1,h2,h3]
 simp
theorem ahw {u1 u2 u3 v1 v2 v3 q1 q2 q3:Int} (h1:(u3*q1 - u1*q3)*(u1*v2 - u2*v1)=(u1*q2 - u2*q1)*(u3*v1 - u1*v3)) (h2:(u1*q2 - u2*q1)*(u2*v3 - u3*v2)=(u2*q3 - u3*q2)*(u1*v2 - u2*v1)) (h3:(u2*q3 - u3*q2)*(u3*v1 - u1*v3)=(u3*q1 - u1*q3)*(u2*v3 - u3*v2)):(u2*v3 - u3*v2)*q1+(u3*v1 - u1*v3)*q2+(u1*v2 - u2*v1)*q3=0:=by
 have e1:u1*((u2*v3 - u3*v2)*q1+(u3*v1 - u1*v3)*q2+(u1*v2 - u2*v1)*q3)=0:=by grind
 have e2:u2*((u2*v3 - u3*v2)*q1+(u3*v1 - u1*v3)*q2+(u1*v2 - u2*v1)*q3)=0:=by grind
 have e3:u3*((u2*v3 - u3*v2)*q1+(u3*v1 - u1*v3)*q2+(u1*v2 - u2*v1)*q3)=0:=by grind
 generalize hd:(u2*v3 - u3*v2)*q1+(u3*v1 - u1*v3)*q2+(u1*v2 - u2*v1)*q3=d at *
 rcases Int.mul_eq_zero.mp e1 with g1 | g1
 ·rcases Int.mul_eq_zero.mp e2 with g2 | g2
  ·rcases Int.mul_eq_zero.mp e3 with g3 | g3
   ·rw [← hd,g1,g2,g3]
    simp
   ·exact g3
  ·exact g2
 ·exact g1
theorem aec {a b c:List Int} (ha:Pw 2 a) (hb:Pw 2 b) (hc:Pw 2 c) (nz:dU [a,b,c]≠0):∃ x y,PS [a,b,c] [x,y,a]≠0:=by
 have hs:aY (arr a c)≠aY (arr a b):=fun h=>by
  obtain ⟨x0,y0,w0,rfl,p0⟩:=ha.two
  obtain ⟨x1,y1,w1,rfl,p1⟩:=hb.two
  obtain ⟨x2,y2,w2,rfl,p2⟩:=hc.two
  have:=ack h
  have e:w0*D2 x0 y0 w0 x1 y1 w1 x2 y2 w2=0:=by unfold D2; grind
  rcases Int.mul_eq_zero.mp e with g | g
  ·omega
  ·exact nz g
 have ab:b≠a:=fun e=>by
  subst e
  obtain ⟨x1,y1,w1,rfl,p1⟩:=hb.two
  obtain ⟨x2,y2,w2,rfl,p2⟩:=hc.two
  refine nz ?_
  show D2 _ _ _ _ _ _ _ _ _=0
  unfold D2
  grind
 have ac:c≠a:=fun e=>by
  subst e
  obtain ⟨x1,y1,w1,rfl,p1⟩:=hb.two
  obtain ⟨x2,y2,w2,rfl,p2⟩:=hc.two
  refine nz ?_
  show D2 _ _ _ _ _ _ _ _ _=0
  unfold D2
  grind
 refine ⟨aY (nrm [a,b]),aY (arr a b),?_⟩
 simp only [PS,W2]
 rw [adA ab rfl,dW ab ac,nI (s:=c) (e:=a) (by rw [oZ (.inl rfl) ha hc,lB]; exact hs)]
 decide
theorem aeF {a b c d:List Int} (ha:Pw 3 a) (hb:Pw 3 b) (hc:Pw 3 c) (hd:Pw 3 d) (nz:dU [a,b,c,d]≠0):∃ x y,PS [a,b,c,d] [x,y,a]≠0:=by
 have hs:aY (arr a c)≠aY (arr a b)∧aY (arr a d)≠aY (arr a b)∧aY (nrm [a,b,d])≠aY (nrm [a,b,c])∧b≠a∧c≠a∧d≠a:=by
  obtain ⟨x0,y0,z0,w0,rfl,p0⟩:=ha.three
  obtain ⟨x1,y1,z1,w1,rfl,p1⟩:=hb.three
  obtain ⟨x2,y2,z2,w2,rfl,p2⟩:=hc.three
  obtain ⟨x3,y3,z3,w3,rfl,p3⟩:=hd.three
  have e:w0*w0*D3 x0 y0 z0 w0 x1 y1 z1 w1 x2 y2 z2 w2 x3 y3 z3 w3=((y1*w0 - y0*w1)*(z2*w0 - z0*w2) - (z1*w0 - z0*w1)*(y2*w0 - y0*w2))*(x3*w0 - x0*w3)+((z1*w0 - z0*w1)*(x2*w0 - x0*w2) - (x1*w0 - x0*w1)*(z2*w0 - z0*w2))*(y3*w0 - y0*w3)+((x1*w0 - x0*w1)*(y2*w0 - y0*w2) - (y1*w0 - y0*w1)*(x2*w0 - x0*w2))*(z3*w0 - z0*w3):=by
   unfold D3
   grind
  have nz2:w0*w0*D3 x0 y0 z0 w0 x1 y1 z1 w1 x2 y2 z2 w2 x3 y3 z3 w3≠0:=Int.mul_ne_zero (Int.mul_ne_zero (by omega) (by omega)) nz
  rw [e] at nz2
  clear e nz
  simp only [arr,nrm,crs]
  generalize hu1:x1*w0 - x0*w1=u1 at *
  generalize hu2:y1*w0 - y0*w1=u2 at *
  generalize hu3:z1*w0 - z0*w1=u3 at *
  generalize hv1:x2*w0 - x0*w2=v1 at *
  generalize hv2:y2*w0 - y0*w2=v2 at *
  generalize hv3:z2*w0 - z0*w2=v3 at *
  generalize hq1:x3*w0 - x0*w3=q1 at *
  generalize hq2:y3*w0 - y0*w3=q2 at *
  generalize hq3:z3*w0 - z0*w3=q3 at *
  refine ⟨fun h=>nz2 ?_,fun h=>nz2 ?_,fun h=>nz2 ?_,fun h=>nz2 ?_,fun h=>nz2 ?_,fun h=>nz2 ?_⟩
  ·obtain ⟨h1,h2,h3⟩:=sS h
   exact ahf h1 h2 h3
  ·obtain ⟨h1,h2,h3⟩:=sS h
   exact agL h1 h2 h3
  ·obtain ⟨h1,h2,h3⟩:=sS h
   exact ahw h1 h2 h3
  ·simp at h
   obtain ⟨rfl,rfl,rfl,rfl⟩:=h
   have:u1=0:=by omega
   have:u2=0:=by omega
   have:u3=0:=by omega
   subst u1 u2 u3
   grind
  ·simp at h
   obtain ⟨rfl,rfl,rfl,rfl⟩:=h
   have:v1=0:=by omega
   have:v2=0:=by omega
   have:v3=0:=by omega
   subst v1 v2 v3
   grind
  ·simp at h
   obtain ⟨rfl,rfl,rfl,rfl⟩:=h
   have:q1=0:=by omega
   have:q2=0:=by omega
   have:q3=0:=by omega
   subst q1 q2 q3
   grind
 obtain ⟨h1,h2,h3,ab,ac,ad⟩:=hs
 have s1:aY (arr c a)≠aY (arr a b):=by rw [oZ (.inr rfl) ha hc,lB]; exact h1
 have s2:aY (arr d a)≠aY (arr a b):=by rw [oZ (.inr rfl) ha hd,lB]; exact h2
 have e1:aY (nrm [a,c,b])=aY (nrm [a,b,c]):=agv ha hb hc
 refine ⟨aY (nrm [a,b,c]),aY (arr a b),?_⟩
 simp only [PS,W3]
 rw [e1,iL (.inr rfl) ha hb (aY (nrm [a,b,c])),adA ab rfl,dW ab ac,dW ac ad,dW ad ab,nI s1,nI h2,dW ad ac,nI s2,ahl h3,dW ab ad,nI h1,dW ac ab]
 decide
theorem afD {n:Nat} (hn:n=2∨n=3) {uss:List (List Int)} (hl:uss.length=n+1) (hp:∀ u∈uss,Pw n u) (nz:dU uss≠0) {v:List Int} (hv:v∈uss):∃ x y,PS uss [x,y,v]≠0:=by
 have pm:=List.perm_cons_erase hv
 obtain ⟨s,hs,e1,e2⟩:=abn hn pm [] hl hp
 simp only [List.nil_append] at e1 e2
 have nz':dU (v :: uss.erase v)≠0:=by
  rw [e1]
  exact Int.mul_ne_zero (by omega) nz
 have hl':(v :: uss.erase v).length=n+1:=by rw [← pm.length_eq]; exact hl
 have hp':∀ u∈v :: uss.erase v,Pw n u:=fun u hu=>hp u (pm.mem_iff.mpr hu)
 have key:∃ x y,PS (v :: uss.erase v) [x,y,v]≠0:=by
  generalize uss.erase v=L at *
  rcases hn with rfl | rfl
  ·match L,hl' with
   | [b,c],_=>exact aec (hp' v (by simp)) (hp' b (by simp)) (hp' c (by simp)) nz'
  ·match L,hl' with
   | [b,c,d],_=>exact aeF (hp' v (by simp)) (hp' b (by simp)) (hp' c (by simp)) (hp' d (by simp)) nz'
 obtain ⟨x,y,h⟩:=key
 refine ⟨x,y,fun h0=>h ?_⟩
 rw [e2,h0,Int.mul_zero]
theorem ahH {W:Nat→Nat→Nat→Int} (h1:∀ i j l,W j i l=- W i j l) (h2:∀ i j l,W i l j=- W i j l) (i j l:Nat):W i l j=- W i j l∧W j i l=- W i j l∧W j l i=W i j l∧W l i j=W i j l∧W l j i=- W i j l:=by
 have a:=h1 i j l
 have b:=h2 i j l
 have c:=h2 j i l
 have d:=h1 i l j
 have e:=h1 j l i
 omega
def P4 (W:Nat→Nat→Nat→Int) (a b c d:Nat):Int:=W b c d+W a d c+W a b d+W a c b
theorem ag6 {W:Nat→Nat→Nat→Int} (h1:∀ i j l,W j i l=- W i j l) (h2:∀ i j l,W i l j=- W i j l) (hf:∀ p q r s,(p,q,r,s)∈[(0,2,6,4),(1,3,7,5),(0,1,5,4),(2,3,7,6),(0,1,3,2),(4,5,7,6)]→W p q r+W p r s=W q r s+W q s p):1*P4 W 0 1 3 7+(-1)*P4 W 0 1 5 7+(-1)*P4 W 0 2 3 7+1*P4 W 0 2 6 7+1*P4 W 0 4 5 7+(-1)*P4 W 0 4 6 7=1*P4 W 1 2 4 7+1*P4 W 0 1 2 4+1*P4 W 3 2 1 7+1*P4 W 5 4 7 1+1*P4 W 6 7 4 2:=by
 have T:=ahH h1 h2
 have p0:P4 W 0 1 3 7=0+W 1 3 7 - W 0 3 7+W 0 1 7 - W 0 1 3:=by
  have t1:=T 0 3 7
  have t3:=T 0 1 3
  unfold P4
  omega
 have p1:P4 W 0 1 5 7=0+W 1 5 7 - W 0 5 7+W 0 1 7 - W 0 1 5:=by
  have t1:=T 0 5 7
  have t3:=T 0 1 5
  unfold P4
  omega
 have p2:P4 W 0 2 3 7=0+W 2 3 7 - W 0 3 7+W 0 2 7 - W 0 2 3:=by
  have t1:=T 0 3 7
  have t3:=T 0 2 3
  unfold P4
  omega
 have p3:P4 W 0 2 6 7=0+W 2 6 7 - W 0 6 7+W 0 2 7 - W 0 2 6:=by
  have t1:=T 0 6 7
  have t3:=T 0 2 6
  unfold P4
  omega
 have p4:P4 W 0 4 5 7=0+W 4 5 7 - W 0 5 7+W 0 4 7 - W 0 4 5:=by
  have t1:=T 0 5 7
  have t3:=T 0 4 5
  unfold P4
  omega
 have p5:P4 W 0 4 6 7=0+W 4 6 7 - W 0 6 7+W 0 4 7 - W 0 4 6:=by
  have t1:=T 0 6 7
  have t3:=T 0 4 6
  unfold P4
  omega
 have p6:P4 W 1 2 4 7=0+W 2 4 7 - W 1 4 7+W 1 2 7 - W 1 2 4:=by
  have t1:=T 1 4 7
  have t3:=T 1 2 4
  unfold P4
  omega
 have p7:P4 W 0 1 2 4=0+W 1 2 4 - W 0 2 4+W 0 1 4 - W 0 1 2:=by
  have t1:=T 0 2 4
  have t3:=T 0 1 2
  unfold P4
  omega
 have p8:P4 W 3 2 1 7=0 - W 1 2 7+W 1 3 7 - W 2 3 7+W 1 2 3:=by
  have t0:=T 1 2 7
  have t1:=T 1 3 7
  have t2:=T 2 3 7
  have t3:=T 1 2 3
  unfold P4
  omega
 have p9:P4 W 5 4 7 1=0+W 1 4 7 - W 1 5 7 - W 1 4 5+W 4 5 7:=by
  have t0:=T 1 4 7
  have t1:=T 1 5 7
  have t2:=T 1 4 5
  have t3:=T 4 5 7
  unfold P4
  omega
 have p10:P4 W 6 7 4 2=0 - W 2 4 7+W 2 4 6+W 2 6 7 - W 4 6 7:=by
  have t0:=T 2 4 7
  have t1:=T 2 4 6
  have t2:=T 2 6 7
  have t3:=T 4 6 7
  unfold P4
  omega
 have f0:0+W 0 2 6 - W 0 4 6+W 2 4 6 - W 0 2 4=0:=by
  have t:=hf 0 2 6 4 (by simp)
  have t1:=T 0 4 6
  have t2:=T 2 4 6
  have t3:=T 0 2 4
  omega
 have f1:0+W 1 3 7 - W 1 5 7+W 3 5 7 - W 1 3 5=0:=by
  have t:=hf 1 3 7 5 (by simp)
  have t1:=T 1 5 7
  have t2:=T 3 5 7
  have t3:=T 1 3 5
  omega
 have f2:0+W 0 1 5 - W 0 4 5+W 1 4 5 - W 0 1 4=0:=by
  have t:=hf 0 1 5 4 (by simp)
  have t1:=T 0 4 5
  have t2:=T 1 4 5
  have t3:=T 0 1 4
  omega
 have f3:0+W 2 3 7 - W 2 6 7+W 3 6 7 - W 2 3 6=0:=by
  have t:=hf 2 3 7 6 (by simp)
  have t1:=T 2 6 7
  have t2:=T 3 6 7
  have t3:=T 2 3 6
  omega
 have f4:0+W 0 1 3 - W 0 2 3+W 1 2 3 - W 0 1 2=0:=by
  have t:=hf 0 1 3 2 (by simp)
  have t1:=T 0 2 3
  have t2:=T 1 2 3
  have t3:=T 0 1 2
  omega
 have f5:0+W 4 5 7 - W 4 6 7+W 5 6 7 - W 4 5 6=0:=by
  have t:=hf 4 5 7 6 (by simp)
  have t1:=T 4 6 7
  have t2:=T 5 6 7
  have t3:=T 4 5 6
  omega
 clear T h1 h2 hf
 omega
theorem ahv {W:Nat→Nat→Nat→Int} (h1:∀ i j l,W j i l=- W i j l) (h2:∀ i j l,W i l j=- W i j l) (hf:∀ p q r s,(p,q,r,s)∈[(0,2,6,4),(1,3,7,5),(0,1,5,4),(2,3,7,6),(0,1,3,2),(4,5,7,6)]→W p q r+W p r s=W q r s+W q s p):1*P4 W 0 1 3 7+(-1)*P4 W 0 1 5 7+(-1)*P4 W 0 2 3 7+1*P4 W 0 2 6 7+1*P4 W 0 4 5 7+(-1)*P4 W 0 4 6 7=(-1)*P4 W 0 3 5 6+(-1)*P4 W 1 0 3 5+(-1)*P4 W 2 3 0 6+(-1)*P4 W 4 5 6 0+(-1)*P4 W 7 6 5 3:=by
 have T:=ahH h1 h2
 have p0:P4 W 0 1 3 7=0+W 1 3 7 - W 0 3 7+W 0 1 7 - W 0 1 3:=by
  have t1:=T 0 3 7
  have t3:=T 0 1 3
  unfold P4
  omega
 have p1:P4 W 0 1 5 7=0+W 1 5 7 - W 0 5 7+W 0 1 7 - W 0 1 5:=by
  have t1:=T 0 5 7
  have t3:=T 0 1 5
  unfold P4
  omega
 have p2:P4 W 0 2 3 7=0+W 2 3 7 - W 0 3 7+W 0 2 7 - W 0 2 3:=by
  have t1:=T 0 3 7
  have t3:=T 0 2 3
  unfold P4
  omega
 have p3:P4 W 0 2 6 7=0+W 2 6 7 - W 0 6 7+W 0 2 7 - W 0 2 6:=by
  have t1:=T 0 6 7
  have t3:=T 0 2 6
  unfold P4
  omega
 have p4:P4 W 0 4 5 7=0+W 4 5 7 - W 0 5 7+W 0 4 7 - W 0 4 5:=by
  have t1:=T 0 5 7
  have t3:=T 0 4 5
  unfold P4
  omega
 have p5:P4 W 0 4 6 7=0+W 4 6 7 - W 0 6 7+W 0 4 7 - W 0 4 6:=by
  have t1:=T 0 6 7
  have t3:=T 0 4 6
  unfold P4
  omega
 have p6:P4 W 0 3 5 6=0+W 3 5 6 - W 0 5 6+W 0 3 6 - W 0 3 5:=by
  have t1:=T 0 5 6
  have t3:=T 0 3 5
  unfold P4
  omega
 have p7:P4 W 1 0 3 5=0+W 0 3 5 - W 1 3 5 - W 0 1 5+W 0 1 3:=by
  have t1:=T 1 3 5
  have t2:=T 0 1 5
  have t3:=T 0 1 3
  unfold P4
  omega
 have p8:P4 W 2 3 0 6=0 - W 0 3 6+W 0 2 6+W 2 3 6 - W 0 2 3:=by
  have t0:=T 0 3 6
  have t1:=T 0 2 6
  have t3:=T 0 2 3
  unfold P4
  omega
 have p9:P4 W 4 5 6 0=0+W 0 5 6 - W 0 4 6+W 0 4 5 - W 4 5 6:=by
  have t0:=T 0 5 6
  have t1:=T 0 4 6
  have t2:=T 0 4 5
  have t3:=T 4 5 6
  unfold P4
  omega
 have p10:P4 W 7 6 5 3=0 - W 3 5 6+W 3 5 7 - W 3 6 7+W 5 6 7:=by
  have t0:=T 3 5 6
  have t1:=T 3 5 7
  have t2:=T 3 6 7
  have t3:=T 5 6 7
  unfold P4
  omega
 have f0:0+W 0 2 6 - W 0 4 6+W 2 4 6 - W 0 2 4=0:=by
  have t:=hf 0 2 6 4 (by simp)
  have t1:=T 0 4 6
  have t2:=T 2 4 6
  have t3:=T 0 2 4
  omega
 have f1:0+W 1 3 7 - W 1 5 7+W 3 5 7 - W 1 3 5=0:=by
  have t:=hf 1 3 7 5 (by simp)
  have t1:=T 1 5 7
  have t2:=T 3 5 7
  have t3:=T 1 3 5
  omega
 have f2:0+W 0 1 5 - W 0 4 5+W 1 4 5 - W 0 1 4=0:=by
  have t:=hf 0 1 5 4 (by simp)
  have t1:=T 0 4 5
  have t2:=T 1 4 5
  have t3:=T 0 1 4
  omega
 have f3:0+W 2 3 7 - W 2 6 7+W 3 6 7 - W 2 3 6=0:=by
  have t:=hf 2 3 7 6 (by simp)
  have t1:=T 2 6 7
  have t2:=T 3 6 7
  have t3:=T 2 3 6
  omega
 have f4:0+W 0 1 3 - W 0 2 3+W 1 2 3 - W 0 1 2=0:=by
  have t:=hf 0 1 3 2 (by simp)
  have t1:=T 0 2 3
  have t2:=T 1 2 3
  have t3:=T 0 1 2
  omega
 have f5:0+W 4 5 7 - W 4 6 7+W 5 6 7 - W 4 5 6=0:=by
  have t:=hf 4 5 7 6 (by simp)
  have t1:=T 4 6 7
  have t2:=T 5 6 7
  have t3:=T 4 5 6
  omega
 clear T h1 h2 hf
 omega
theorem abY (k n:Int):sg (k*n)=sg k*sg n:=by
 rcases Int.lt_trichotomy k 0 with h | h | h <;> rcases Int.lt_trichotomy n 0 with g | g | g
 ·have:=Int.mul_pos_of_neg_of_neg h g; unfold sg; (repeat' split) <;> omega
 ·subst g; simp [sg]
 ·have:=Int.mul_neg_of_neg_of_pos h g; unfold sg; (repeat' split) <;> omega
 ·subst h; simp [sg]
 ·subst h; simp [sg]
 ·subst h; simp [sg]
 ·have:=Int.mul_neg_of_pos_of_neg h g; unfold sg; (repeat' split) <;> omega
 ·subst g; simp [sg]
 ·have:=Int.mul_pos h g; unfold sg; (repeat' split) <;> omega
def At3 (M a b c:Int) (p:List Int):Prop:=∃ x y z w,p=[x,y,z,w]∧0 < w∧x*M=a*w∧y*M=b*w∧z*M=c*w
theorem At3.pw {M a b c:Int} {p:List Int} (h:At3 M a b c p):Pw 3 p:=by
 obtain ⟨x,y,z,w,rfl,p,_⟩:=h
 exact ⟨[x,y,z],w,rfl,rfl,p⟩
theorem At3.inj {M a b c a' b' c':Int} {p:List Int} (h:At3 M a b c p) (g:At3 M a' b' c' p):a=a'∧b=b'∧c=c':=by
 obtain ⟨x,y,z,w,rfl,p,h1,h2,h3⟩:=h
 obtain ⟨x',y',z',w',e,p',g1,g2,g3⟩:=g
 simp at e
 obtain ⟨rfl,rfl,rfl,rfl⟩:=e
 have n:w≠0:=by omega
 exact ⟨Int.eq_of_mul_eq_mul_right n (h1.symm.trans g1),Int.eq_of_mul_eq_mul_right n (h2.symm.trans g2),Int.eq_of_mul_eq_mul_right n (h3.symm.trans g3)⟩
def d3 (u1 u2 u3 v1 v2 v3 q1 q2 q3:Int):Int:=(u2*v3 - u3*v2)*q1+(u3*v1 - u1*v3)*q2+(u1*v2 - u2*v1)*q3
theorem gY {M x0 w0 a0 x1 w1 a1:Int} (h0:x0*M=a0*w0) (h1:x1*M=a1*w1):M*(x1*w0 - x0*w1)=w0*w1*(a1 - a0):=by grind
theorem wN {M w0 w1 w2 p q r s p' q' r' s':Int} (h1:M*p=w0*w1*p') (h2:M*q=w0*w2*q') (h3:M*r=w0*w1*r') (h4:M*s=w0*w2*s'):M*M*(p*q - r*s)=w0*w0*(w1*w2)*(p'*q' - r'*s'):=by
 have e:M*M*(p*q - r*s)=(M*p)*(M*q) - (M*r)*(M*s):=by grind
 rw [e,h1,h2,h3,h4]
 grind
theorem lR {M a0 b0 c0 a1 b1 c1 a2 b2 c2:Int} {p q r:List Int} (hM:0 < M) (h0:At3 M a0 b0 c0 p) (h1:At3 M a1 b1 c1 q) (h2:At3 M a2 b2 c2 r):aY (nrm [p,q,r])=aY [(b1 - b0)*(c2 - c0) - (c1 - c0)*(b2 - b0),(c1 - c0)*(a2 - a0) - (a1 - a0)*(c2 - c0),(a1 - a0)*(b2 - b0) - (b1 - b0)*(a2 - a0)]:=by
 obtain ⟨x0,y0,z0,w0,rfl,p0,i0,j0,k0⟩:=h0
 obtain ⟨x1,y1,z1,w1,rfl,p1,i1,j1,k1⟩:=h1
 obtain ⟨x2,y2,z2,w2,rfl,p2,i2,j2,k2⟩:=h2
 refine sV (a:=M*M) (b:=w0*w0*(w1*w2)) (Int.mul_ne_zero (by omega) (by omega)) (Int.mul_ne_zero (Int.mul_ne_zero (by omega) (by omega)) (Int.mul_ne_zero (by omega) (by omega))) ?_
 simp only [nrm,arr,crs,List.map_cons,List.map_nil]
 refine l3 (wN (gY j0 j1) (gY k0 k2) (gY k0 k1) (gY j0 j2)) (wN (gY k0 k1) (gY i0 i2) (gY i0 i1) (gY k0 k2)) (wN (gY i0 i1) (gY j0 j2) (gY j0 j1) (gY i0 i2))
theorem ahU {M a0 b0 c0 a1 b1 c1 a2 b2 c2 a3 b3 c3:Int} {p q r s:List Int} (hM:0 < M) (h0:At3 M a0 b0 c0 p) (h1:At3 M a1 b1 c1 q) (h2:At3 M a2 b2 c2 r) (h3:At3 M a3 b3 c3 s) (e1:a3=a0+a2 - a1) (e2:b3=b0+b2 - b1) (e3:c3=c0+c2 - c1) (k:List (List Int)):W3 p q r k+W3 p r s k=W3 q r s k+W3 q s p k:=by
 subst e1 e2 e3
 have f1:aY (nrm [p,r,s])=aY (nrm [p,q,r]):=by
  rw [lR hM h0 h1 h2,lR hM h0 h2 h3]
  congr 1
  refine l3 ?_ ?_ ?_ <;> grind
 have f2:aY (nrm [q,r,s])=aY (nrm [p,q,r]):=by
  rw [lR hM h0 h1 h2,lR hM h1 h2 h3]
  congr 1
  refine l3 ?_ ?_ ?_ <;> grind
 have f3:aY (nrm [q,s,p])=aY (nrm [p,q,r]):=by
  rw [lR hM h0 h1 h2,lR hM h1 h3 h0]
  congr 1
  refine l3 ?_ ?_ ?_ <;> grind
 unfold W3
 rw [f1,f2,f3]
 have g1:=iL (.inr rfl) h0.pw h2.pw (aY (nrm [p,q,r])) k
 have g2:=iL (.inr rfl) h1.pw h3.pw (aY (nrm [p,q,r])) k
 omega
theorem ah1 (M a0 b0 c0 a1 b1 c1 a2 b2 c2 a3 b3 c3:Int):D3 a0 b0 c0 M a1 b1 c1 M a2 b2 c2 M a3 b3 c3 M=M*d3 (a1 - a0) (b1 - b0) (c1 - c0) (a2 - a0) (b2 - b0) (c2 - c0) (a3 - a0) (b3 - b0) (c3 - c0):=by
 unfold D3 d3
 grind
theorem ahZ (M x0 y0 z0 w0 x1 y1 z1 w1 x2 y2 z2 w2 x3 y3 z3 w3:Int):M*M*M*M*D3 x0 y0 z0 w0 x1 y1 z1 w1 x2 y2 z2 w2 x3 y3 z3 w3=D3 (x0*M) (y0*M) (z0*M) (w0*M) (x1*M) (y1*M) (z1*M) (w1*M) (x2*M) (y2*M) (z2*M) (w2*M) (x3*M) (y3*M) (z3*M) (w3*M):=by
 unfold D3
 grind
theorem aii (M a0 b0 c0 w0 a1 b1 c1 w1 a2 b2 c2 w2 a3 b3 c3 w3:Int):D3 (a0*w0) (b0*w0) (c0*w0) (w0*M) (a1*w1) (b1*w1) (c1*w1) (w1*M) (a2*w2) (b2*w2) (c2*w2) (w2*M) (a3*w3) (b3*w3) (c3*w3) (w3*M)=w0*w1*w2*w3*D3 a0 b0 c0 M a1 b1 c1 M a2 b2 c2 M a3 b3 c3 M:=by
 unfold D3
 grind
theorem agP {M a0 b0 c0 a1 b1 c1 a2 b2 c2 a3 b3 c3:Int} {p q r s:List Int} (hM:0 < M) (h0:At3 M a0 b0 c0 p) (h1:At3 M a1 b1 c1 q) (h2:At3 M a2 b2 c2 r) (h3:At3 M a3 b3 c3 s):sg (dU [p,q,r,s])=sg (d3 (a1 - a0) (b1 - b0) (c1 - c0) (a2 - a0) (b2 - b0) (c2 - c0) (a3 - a0) (b3 - b0) (c3 - c0)):=by
 obtain ⟨x0,y0,z0,w0,rfl,p0,i0,j0,k0⟩:=h0
 obtain ⟨x1,y1,z1,w1,rfl,p1,i1,j1,k1⟩:=h1
 obtain ⟨x2,y2,z2,w2,rfl,p2,i2,j2,k2⟩:=h2
 obtain ⟨x3,y3,z3,w3,rfl,p3,i3,j3,k3⟩:=h3
 show sg (D3 _ _ _ _ _ _ _ _ _ _ _ _ _ _ _ _)=_
 have e:=ahZ M x0 y0 z0 w0 x1 y1 z1 w1 x2 y2 z2 w2 x3 y3 z3 w3
 rw [i0,j0,k0,i1,j1,k1,i2,j2,k2,i3,j3,k3,aii,ah1,← Int.mul_assoc] at e
 rw [← kG (Int.mul_pos (Int.mul_pos (Int.mul_pos hM hM) hM) hM),e]
 exact kG (Int.mul_pos (Int.mul_pos (Int.mul_pos (Int.mul_pos p0 p1) p2) p3) hM)
def bt (i:Nat):Int × Int × Int:=((i % 2:Nat),(i / 2 % 2:Nat),(i / 4 % 2:Nat))
def co (a u v t:Int) (i:Nat):Int:=a+(bt i).1*u+(bt i).2.1*v+(bt i).2.2*t
theorem agc (e1 e2 e3 f1 f2 f3 g1 g2 g3 u1 u2 u3 v1 v2 v3 t1 t2 t3:Int):d3 (e1*u1+e2*v1+e3*t1) (e1*u2+e2*v2+e3*t2) (e1*u3+e2*v3+e3*t3) (f1*u1+f2*v1+f3*t1) (f1*u2+f2*v2+f3*t2) (f1*u3+f2*v3+f3*t3) (g1*u1+g2*v1+g3*t1) (g1*u2+g2*v2+g3*t2) (g1*u3+g2*v3+g3*t3)=d3 e1 e2 e3 f1 f2 f3 g1 g2 g3*d3 u1 u2 u3 v1 v2 v3 t1 t2 t3:=by
 unfold d3
 grind
structure Q3 where
 (M a1 a2 a3 u1 u2 u3 v1 v2 v3 t1 t2 t3:Int)
def Q3.d (q:Q3):Int:=d3 q.u1 q.u2 q.u3 q.v1 q.v2 q.v3 q.t1 q.t2 q.t3
structure Bx3 (nd:Nat→List Int) (q:Q3):Prop where
 M0:0 < q.M
 nz:q.d≠0
 nat:∀ i,At3 q.M (co q.a1 q.u1 q.v1 q.t1 i) (co q.a2 q.u2 q.v2 q.t2 i) (co q.a3 q.u3 q.v3 q.t3 i) (nd i)
 gu:∀ i,Gu 3 900 (nd i)
def cI (i j l m:Nat):Int:=d3 ((bt j).1 - (bt i).1) ((bt j).2.1 - (bt i).2.1) ((bt j).2.2 - (bt i).2.2) ((bt l).1 - (bt i).1) ((bt l).2.1 - (bt i).2.1) ((bt l).2.2 - (bt i).2.2) ((bt m).1 - (bt i).1) ((bt m).2.1 - (bt i).2.1) ((bt m).2.2 - (bt i).2.2)
theorem kK (a u v t:Int) (i j:Nat):co a u v t j - co a u v t i=((bt j).1 - (bt i).1)*u+((bt j).2.1 - (bt i).2.1)*v+((bt j).2.2 - (bt i).2.2)*t:=by
 unfold co
 grind
theorem Bx3.sgn {nd:Nat→List Int} {q:Q3} (B:Bx3 nd q) (i j l m:Nat):sg (dU [nd i,nd j,nd l,nd m])=sg (cI i j l m)*sg q.d:=by
 rw [agP B.M0 (B.nat i) (B.nat j) (B.nat l) (B.nat m),← abY]
 simp only [kK]
 rw [agc]
 rfl
theorem ahV {e1 e2 e3 u1 u2 u3 v1 v2 v3 t1 t2 t3:Int} (nz:d3 u1 u2 u3 v1 v2 v3 t1 t2 t3≠0) (h1:e1*u1+e2*v1+e3*t1=0) (h2:e1*u2+e2*v2+e3*t2=0) (h3:e1*u3+e2*v3+e3*t3=0):e1=0∧e2=0∧e3=0:=by
 have g1:e1*d3 u1 u2 u3 v1 v2 v3 t1 t2 t3=(e1*u1+e2*v1+e3*t1)*(v2*t3 - v3*t2)+(e1*u2+e2*v2+e3*t2)*(v3*t1 - v1*t3)+(e1*u3+e2*v3+e3*t3)*(v1*t2 - v2*t1):=by unfold d3; grind
 have g2:e2*d3 u1 u2 u3 v1 v2 v3 t1 t2 t3=(e1*u1+e2*v1+e3*t1)*(t2*u3 - t3*u2)+(e1*u2+e2*v2+e3*t2)*(t3*u1 - t1*u3)+(e1*u3+e2*v3+e3*t3)*(t1*u2 - t2*u1):=by unfold d3; grind
 have g3:e3*d3 u1 u2 u3 v1 v2 v3 t1 t2 t3=(e1*u1+e2*v1+e3*t1)*(u2*v3 - u3*v2)+(e1*u2+e2*v2+e3*t2)*(u3*v1 - u1*v3)+(e1*u3+e2*v3+e3*t3)*(u1*v2 - u2*v1):=by unfold d3; grind
 rw [h1,h2,h3] at g1 g2 g3
 simp only [Int.zero_mul,Int.add_zero] at g1 g2 g3
 exact ⟨(Int.mul_eq_zero.mp g1).resolve_right nz,(Int.mul_eq_zero.mp g2).resolve_right nz,(Int.mul_eq_zero.mp g3).resolve_right nz⟩
theorem Bx3.inj {nd:Nat→List Int} {q:Q3} (B:Bx3 nd q) {i j:Nat} (h:nd i=nd j):bt i=bt j:=by
 have h1:=B.nat i
 rw [h] at h1
 obtain ⟨e1,e2,e3⟩:=h1.inj (B.nat j)
 have f1:=kK q.a1 q.u1 q.v1 q.t1 j i
 have f2:=kK q.a2 q.u2 q.v2 q.t2 j i
 have f3:=kK q.a3 q.u3 q.v3 q.t3 j i
 rw [e1,Int.sub_self] at f1
 rw [e2,Int.sub_self] at f2
 rw [e3,Int.sub_self] at f3
 obtain ⟨k1,k2,k3⟩:=ahV B.nz f1.symm f2.symm f3.symm
 exact Prod.ext (by omega) (Prod.ext (by omega) (by omega))
def HS:List (List (List Int))→List (List Int)→Int
 | [],_=>0
 | u :: hs,k=>PS u k+HS hs k
theorem vZ {n:Int} {k:List (List Int)}:∀ {hs:List (List (List Int))},(∀ u∈hs,u.length=3∨u.length=4)→dG (cH hs n) k=n*HS hs k
 | [],_=>by simp [cH,dG,HS]
 | u :: hs,h=>by
  have ih:=vZ (n:=n) (k:=k) (hs:=hs) fun v hv=>h v (List.mem_cons_of_mem _ hv)
  unfold cH at ih ⊢
  rw [List.flatMap_cons,mO,ih,ag8 (h u List.mem_cons_self),HS,Int.mul_add]
def nW (nd:Nat→List Int) (k:List (List Int)) (i j l:Nat):Int:=W3 (nd i) (nd j) (nd l) k
def sx4 (nd:Nat→List Int) (p:Nat × Nat × Nat × Nat):List (List Int):=cnr [nd p.1,nd p.2.1,nd p.2.2.1,nd p.2.2.2]
theorem Bx3.ps {nd:Nat→List Int} {q:Q3} (B:Bx3 nd q) {i j l m:Nat} (h:cI i j l m≠0) (k:List (List Int)):PS (sx4 nd (i,j,l,m)) k=sg (cI i j l m)*sg q.d*P4 (nW nd k) i j l m:=by
 have hg:∀ us∈[nd i,nd j,nd l,nd m],Gu 3 900 us:=fun us hu=>by
  simp only [List.mem_cons,List.not_mem_nil,or_false] at hu
  rcases hu with rfl | rfl | rfl | rfl <;> exact B.gu _
 have e:=B.sgn i j l m
 have nz:dU [nd i,nd j,nd l,nd m]≠0:=fun z=>by
  rw [z] at e
  have e2:sg (cI i j l m)*sg q.d=0:=e.symm
  rcases Int.mul_eq_zero.mp e2 with g | g
  ·exact h (lL.mp g)
  ·exact B.nz (lL.mp g)
 show PS (cnr [nd i,nd j,nd l,nd m]) k=_
 rw [adC (.inr rfl) (by decide) rfl hg nz,e]
 rfl
theorem Bx3.dn {nd:Nat→List Int} {q:Q3} (B:Bx3 nd q) {i j l m:Nat} (h:cI i j l m≠0):Sx 3 900 (sx4 nd (i,j,l,m)):=by
 have hg:∀ us∈[nd i,nd j,nd l,nd m],Gu 3 900 us:=fun us hu=>by
  simp only [List.mem_cons,List.not_mem_nil,or_false] at hu
  rcases hu with rfl | rfl | rfl | rfl <;> exact B.gu _
 refine agq (.inr rfl) (by decide) rfl hg fun z=>?_
 have e:=B.sgn i j l m
 rw [z] at e
 have e2:sg (cI i j l m)*sg q.d=0:=e.symm
 rcases Int.mul_eq_zero.mp e2 with g | g
 ·exact h (lL.mp g)
 ·exact B.nz (lL.mp g)
def ix6:List (Nat × Nat × Nat × Nat):=[(0,1,3,7),(0,1,5,7),(0,2,3,7),(0,2,6,7),(0,4,5,7),(0,4,6,7)]
def ix5 (o:Int):List (Nat × Nat × Nat × Nat):=if o=1 then [(1,2,4,7),(0,1,2,4),(3,2,1,7),(5,4,7,1),(6,7,4,2)] else [(0,3,5,6),(1,0,3,5),(2,3,0,6),(4,5,6,0),(7,6,5,3)]
theorem Bx3.six_five {nd:Nat→List Int} {q:Q3} (B:Bx3 nd q) (o:Int) (k:List (List Int)):HS (ix6.map (sx4 nd)) k=HS ((ix5 o).map (sx4 nd)) k:=by
 have h1:∀ i j l,nW nd k j i l=- nW nd k i j l:=fun i j l=>iG (B.nat i).pw (B.nat j).pw (B.nat l).pw k
 have h2:∀ i j l,nW nd k i l j=- nW nd k i j l:=fun i j l=>gD (B.nat i).pw (B.nat j).pw (B.nat l).pw k
 have hf:∀ p q r s,(p,q,r,s)∈[(0,2,6,4),(1,3,7,5),(0,1,5,4),(2,3,7,6),(0,1,3,2),(4,5,7,6)]→nW nd k p q r+nW nd k p r s=nW nd k q r s+nW nd k q s p:=fun i j l m h=>by
  refine ahU B.M0 (B.nat i) (B.nat j) (B.nat l) (B.nat m) ?_ ?_ ?_ k <;> (simp only [List.mem_cons,List.not_mem_nil,or_false,Prod.mk.injEq] at h; rcases h with ⟨rfl,rfl,rfl,rfl⟩ | ⟨rfl,rfl,rfl,rfl⟩ | ⟨rfl,rfl,rfl,rfl⟩ | ⟨rfl,rfl,rfl,rfl⟩ | ⟨rfl,rfl,rfl,rfl⟩ | ⟨rfl,rfl,rfl,rfl⟩ <;> simp [co,bt] <;> omega)
 have six:HS (ix6.map (sx4 nd)) k=sg q.d*(1*P4 (nW nd k) 0 1 3 7+(-1)*P4 (nW nd k) 0 1 5 7+(-1)*P4 (nW nd k) 0 2 3 7+1*P4 (nW nd k) 0 2 6 7+1*P4 (nW nd k) 0 4 5 7+(-1)*P4 (nW nd k) 0 4 6 7):=by
  simp only [ix6,List.map_cons,List.map_nil,HS]
  rw [B.ps (by decide),B.ps (by decide),B.ps (by decide),B.ps (by decide),B.ps (by decide),B.ps (by decide)]
  rw [show sg (cI 0 1 3 7)=1 by decide,show sg (cI 0 1 5 7)=-1 by decide,show sg (cI 0 2 3 7)=-1 by decide,show sg (cI 0 2 6 7)=1 by decide,show sg (cI 0 4 5 7)=1 by decide,show sg (cI 0 4 6 7)=-1 by decide]
  grind
 rw [six]
 unfold ix5
 split
 ·rw [ag6 h1 h2 hf]
  simp only [List.map_cons,List.map_nil,HS]
  rw [B.ps (by decide),B.ps (by decide),B.ps (by decide),B.ps (by decide),B.ps (by decide)]
  rw [show sg (cI 1 2 4 7)=1 by decide,show sg (cI 0 1 2 4)=1 by decide,show sg (cI 3 2 1 7)=1 by decide,show sg (cI 5 4 7 1)=1 by decide,show sg (cI 6 7 4 2)=1 by decide]
  grind
 ·rw [ahv h1 h2 hf]
  simp only [List.map_cons,List.map_nil,HS]
  rw [B.ps (by decide),B.ps (by decide),B.ps (by decide),B.ps (by decide),B.ps (by decide)]
  rw [show sg (cI 0 3 5 6)=-1 by decide,show sg (cI 1 0 3 5)=-1 by decide,show sg (cI 2 3 0 6)=-1 by decide,show sg (cI 4 5 6 0)=-1 by decide,show sg (cI 7 6 5 3)=-1 by decide]
  grind
def At2 (M a b:Int) (p:List Int):Prop:=∃ x y w,p=[x,y,w]∧0 < w∧x*M=a*w∧y*M=b*w
theorem At2.pw {M a b:Int} {p:List Int} (h:At2 M a b p):Pw 2 p:=by
 obtain ⟨x,y,w,rfl,p,_⟩:=h
 exact ⟨[x,y],w,rfl,rfl,p⟩
theorem At2.inj {M a b a' b':Int} {p:List Int} (h:At2 M a b p) (g:At2 M a' b' p):a=a'∧b=b':=by
 obtain ⟨x,y,w,rfl,p,h1,h2⟩:=h
 obtain ⟨x',y',w',e,p',g1,g2⟩:=g
 simp at e
 obtain ⟨rfl,rfl,rfl⟩:=e
 have n:w≠0:=by omega
 exact ⟨Int.eq_of_mul_eq_mul_right n (h1.symm.trans g1),Int.eq_of_mul_eq_mul_right n (h2.symm.trans g2)⟩
def d2 (u1 u2 v1 v2:Int):Int:=u1*v2 - u2*v1
theorem aiw (M a0 b0 a1 b1 a2 b2:Int):D2 a0 b0 M a1 b1 M a2 b2 M=M*d2 (a1 - a0) (b1 - b0) (a2 - a0) (b2 - b0):=by
 unfold D2 d2
 grind
theorem aiB (M x0 y0 w0 x1 y1 w1 x2 y2 w2:Int):M*M*M*D2 x0 y0 w0 x1 y1 w1 x2 y2 w2=D2 (x0*M) (y0*M) (w0*M) (x1*M) (y1*M) (w1*M) (x2*M) (y2*M) (w2*M):=by
 unfold D2
 grind
theorem aiv (M a0 b0 w0 a1 b1 w1 a2 b2 w2:Int):D2 (a0*w0) (b0*w0) (w0*M) (a1*w1) (b1*w1) (w1*M) (a2*w2) (b2*w2) (w2*M)=w0*w1*w2*D2 a0 b0 M a1 b1 M a2 b2 M:=by
 unfold D2
 grind
theorem agH {M a0 b0 a1 b1 a2 b2:Int} {p q r:List Int} (hM:0 < M) (h0:At2 M a0 b0 p) (h1:At2 M a1 b1 q) (h2:At2 M a2 b2 r):sg (dU [p,q,r])=sg (d2 (a1 - a0) (b1 - b0) (a2 - a0) (b2 - b0)):=by
 obtain ⟨x0,y0,w0,rfl,p0,i0,j0⟩:=h0
 obtain ⟨x1,y1,w1,rfl,p1,i1,j1⟩:=h1
 obtain ⟨x2,y2,w2,rfl,p2,i2,j2⟩:=h2
 show sg (D2 _ _ _ _ _ _ _ _ _)=_
 have e:=aiB M x0 y0 w0 x1 y1 w1 x2 y2 w2
 rw [i0,j0,i1,j1,i2,j2,aiv,aiw,← Int.mul_assoc] at e
 rw [← kG (Int.mul_pos (Int.mul_pos hM hM) hM),e]
 exact kG (Int.mul_pos (Int.mul_pos (Int.mul_pos p0 p1) p2) hM)
structure Q2 where
 (M a1 a2 u1 u2 v1 v2:Int)
def Q2.d (q:Q2):Int:=d2 q.u1 q.u2 q.v1 q.v2
structure Bx2 (nd:Nat→List Int) (q:Q2):Prop where
 M0:0 < q.M
 nz:q.d≠0
 nat:∀ i,At2 q.M (co q.a1 q.u1 q.v1 0 i) (co q.a2 q.u2 q.v2 0 i) (nd i)
 gu:∀ i,Gu 2 900 (nd i)
def cI2 (i j l:Nat):Int:=d2 ((bt j).1 - (bt i).1) ((bt j).2.1 - (bt i).2.1) ((bt l).1 - (bt i).1) ((bt l).2.1 - (bt i).2.1)
theorem afm (e1 e2 f1 f2 e3 f3 u1 u2 v1 v2:Int):d2 (e1*u1+e2*v1+e3*0) (e1*u2+e2*v2+e3*0) (f1*u1+f2*v1+f3*0) (f1*u2+f2*v2+f3*0)=d2 e1 e2 f1 f2*d2 u1 u2 v1 v2:=by
 unfold d2
 grind
theorem Bx2.sgn {nd:Nat→List Int} {q:Q2} (B:Bx2 nd q) (i j l:Nat):sg (dU [nd i,nd j,nd l])=sg (cI2 i j l)*sg q.d:=by
 rw [agH B.M0 (B.nat i) (B.nat j) (B.nat l),← abY]
 simp only [kK]
 rw [afm]
 rfl
theorem aiC {e1 e2 e3 u1 u2 v1 v2:Int} (nz:d2 u1 u2 v1 v2≠0) (h1:e1*u1+e2*v1+e3*0=0) (h2:e1*u2+e2*v2+e3*0=0):e1=0∧e2=0:=by
 have g1:e1*d2 u1 u2 v1 v2=(e1*u1+e2*v1+e3*0)*v2 - (e1*u2+e2*v2+e3*0)*v1:=by unfold d2; grind
 have g2:e2*d2 u1 u2 v1 v2=(e1*u2+e2*v2+e3*0)*u1 - (e1*u1+e2*v1+e3*0)*u2:=by unfold d2; grind
 rw [h1,h2] at g1 g2
 simp only [Int.zero_mul,Int.sub_zero] at g1 g2
 exact ⟨(Int.mul_eq_zero.mp g1).resolve_right nz,(Int.mul_eq_zero.mp g2).resolve_right nz⟩
theorem Bx2.inj {nd:Nat→List Int} {q:Q2} (B:Bx2 nd q) {i j:Nat} (h:nd i=nd j):(bt i).1=(bt j).1∧(bt i).2.1=(bt j).2.1:=by
 have h1:=B.nat i
 rw [h] at h1
 obtain ⟨e1,e2⟩:=h1.inj (B.nat j)
 have f1:=kK q.a1 q.u1 q.v1 0 j i
 have f2:=kK q.a2 q.u2 q.v2 0 j i
 rw [e1,Int.sub_self] at f1
 rw [e2,Int.sub_self] at f2
 obtain ⟨k1,k2⟩:=aiC B.nz f1.symm f2.symm
 exact ⟨by omega,by omega⟩
def sx3 (nd:Nat→List Int) (p:Nat × Nat × Nat):List (List Int):=cnr [nd p.1,nd p.2.1,nd p.2.2]
theorem Bx2.ps {nd:Nat→List Int} {q:Q2} (B:Bx2 nd q) {i j l:Nat} (h:cI2 i j l≠0) (k:List (List Int)):PS (sx3 nd (i,j,l)) k=sg (cI2 i j l)*sg q.d*(W2 (nd i) (nd j) k+W2 (nd j) (nd l) k+W2 (nd l) (nd i) k)∧Sx 2 900 (sx3 nd (i,j,l)):=by
 have hg:∀ us∈[nd i,nd j,nd l],Gu 2 900 us:=fun us hu=>by
  simp only [List.mem_cons,List.not_mem_nil,or_false] at hu
  rcases hu with rfl | rfl | rfl <;> exact B.gu _
 have e:=B.sgn i j l
 have nz:dU [nd i,nd j,nd l]≠0:=fun z=>by
  rw [z] at e
  have e2:sg (cI2 i j l)*sg q.d=0:=e.symm
  rcases Int.mul_eq_zero.mp e2 with g | g
  ·exact h (lL.mp g)
  ·exact B.nz (lL.mp g)
 refine ⟨?_,agq (.inl rfl) (by decide) rfl hg nz⟩
 show PS (cnr [nd i,nd j,nd l]) k=_
 rw [adC (.inl rfl) (by decide) rfl hg nz,e]
 rfl
theorem agB (hs gs:List (List (List Int))) (k:List (List Int)):HS (hs++gs) k=HS hs k+HS gs k:=by
 induction hs with
 | nil=>simp [HS]
 | cons u hs ih=>simp [HS,ih]; omega
theorem uG (hs:List (List (List Int))) (k:List (List Int)):∀ m:Nat,HS (List.flatten (List.replicate m hs)) k=m*HS hs k
 | 0=>by simp [HS]
 | m+1=>by
  rw [List.replicate_succ,List.flatten_cons,agB,uG hs k m]
  grind
theorem adD {k:List (List Int)} {u v:List (List Int)}:∀ {hs:List (List (List Int))} {i:Nat},hs[i]?=some v→HS (hs.set i u) k=HS hs k - PS v k+PS u k
 | [],i,h=>by simp at h
 | w :: hs,0,h=>by
  simp at h
  subst h
  simp only [List.set_cons_zero,HS]
  omega
 | w :: hs,i+1,h=>by
  have ih:=adD (k:=k) (u:=u) (hs:=hs) (i:=i) (by simpa using h)
  simp only [List.set_cons_succ,HS,ih]
  omega
theorem iR {uss:List (List Int)} {a b v:List Int} (h:v ∉ uss):PS uss [a,b,v]=0:=agZ fun w hw e=>h (by rw [← e]; exact hw)
structure Cor (n:Nat) (one other:List (List (List Int))):Prop where
 s1:∀ u∈one,Sx n 900 u
 s2:∀ u∈other,Sx n 900 u
 l1:one.length≤6
 l2:other.length≤6
 p1:0 < one.length
 p2:0 < other.length
 eq:∀ k,HS one k=HS other k
 ne:∀ l∈one,∀ r∈other,∃ v,v∈l∧v ∉ r
 lone:∃ k,HS other k≠0
theorem Sx.yes {n k:Nat} (hn:n=2∨n=3) {u:List (List Int)} (h:Sx n k u) {v:List Int} (hv:v∈u):∃ x y,PS u [x,y,v]≠0:=afD hn h.len (fun w hw=>(h.gu w hw).pt) h.nz hv
theorem Bx3.dnp {nd:Nat→List Int} {q:Q3} (B:Bx3 nd q) {p:Nat × Nat × Nat × Nat} (h:cI p.1 p.2.1 p.2.2.1 p.2.2.2≠0):Sx 3 900 (sx4 nd p):=B.dn h
theorem af4:∀ p∈ix6,cI p.1 p.2.1 p.2.2.1 p.2.2.2≠0:=by decide +kernel
theorem afZ {o:Int}:∀ p∈ix5 o,cI p.1 p.2.1 p.2.2.1 p.2.2.2≠0:=by
 unfold ix5
 split <;> decide +kernel
theorem agD {o:Int}:∀ r∈ix5 o,(bt 0≠bt r.1∧bt 0≠bt r.2.1∧bt 0≠bt r.2.2.1∧bt 0≠bt r.2.2.2)∨(bt 7≠bt r.1∧bt 7≠bt r.2.1∧bt 7≠bt r.2.2.1∧bt 7≠bt r.2.2.2):=by
 unfold ix5
 split <;> decide +kernel
theorem Bx3.cor {nd:Nat→List Int} {q:Q3} (B:Bx3 nd q) (o:Int):Cor 3 (ix6.map (sx4 nd)) ((ix5 o).map (sx4 nd)):=by
 have s1:∀ u∈ix6.map (sx4 nd),Sx 3 900 u:=fun u hu=>by
  obtain ⟨p,hp,rfl⟩:=List.mem_map.mp hu
  exact B.dnp (af4 p hp)
 have s2:∀ u∈(ix5 o).map (sx4 nd),Sx 3 900 u:=fun u hu=>by
  obtain ⟨p,hp,rfl⟩:=List.mem_map.mp hu
  exact B.dnp (afZ p hp)
 have mem:∀ (v:List Int) (p:Nat × Nat × Nat × Nat),v∈sx4 nd p↔v=nd p.1∨v=nd p.2.1∨v=nd p.2.2.1∨v=nd p.2.2.2:=fun v p=>by
  rw [sx4,(mS (.inr rfl)).mem_iff]
  simp
 have no:∀ (i:Nat) (p:Nat × Nat × Nat × Nat),(bt i≠bt p.1∧bt i≠bt p.2.1∧bt i≠bt p.2.2.1∧bt i≠bt p.2.2.2)→nd i ∉ sx4 nd p:=fun i p h g=>by
  rw [mem] at g
  rcases g with g | g | g | g
  ·exact h.1 (B.inj g)
  ·exact h.2.1 (B.inj g)
  ·exact h.2.2.1 (B.inj g)
  ·exact h.2.2.2 (B.inj g)
 refine ⟨s1,s2,by simp [ix6],by unfold ix5; split <;> simp,by simp [ix6],by unfold ix5; split <;> simp,fun k=>B.six_five o k,fun l hl r hr=>?_,?_⟩
 ·obtain ⟨p,hp,rfl⟩:=List.mem_map.mp hl
  obtain ⟨r,hq,rfl⟩:=List.mem_map.mp hr
  have e:p.1=0∧p.2.2.2=7:=by
   have:∀ p∈ix6,p.1=0∧p.2.2.2=7:=by decide
   exact this _ hp
  have h0:nd 0∈sx4 nd p:=(mem _ _).mpr (.inl (by rw [e.1]))
  have h7:nd 7∈sx4 nd p:=(mem _ _).mpr (.inr (.inr (.inr (by rw [e.2]))))
  have key:=agD r hq
  rcases key with key | key
  ·exact ⟨_,h0,no 0 r key⟩
  ·exact ⟨_,h7,no 7 r key⟩
 ·unfold ix5 at s2 ⊢
  split
  ·rename_i ho
   rw [if_pos ho] at s2
   obtain ⟨x,y,h⟩:=(s2 (sx4 nd (0,1,2,4)) (by simp)).yes (.inr rfl) ((mem (nd 0) _).mpr (.inl rfl))
   refine ⟨[x,y,nd 0],fun z=>h ?_⟩
   ·simp only [List.map_cons,List.map_nil,HS] at z
    rw [iR (no 0 ((1,2,4,7)) (by decide)),iR (no 0 ((3,2,1,7)) (by decide)),iR (no 0 ((5,4,7,1)) (by decide)),iR (no 0 ((6,7,4,2)) (by decide))] at z
    omega
  ·rename_i ho
   rw [if_neg ho] at s2
   obtain ⟨x,y,h⟩:=(s2 (sx4 nd (7,6,5,3)) (by simp)).yes (.inr rfl) ((mem (nd 7) _).mpr (.inl rfl))
   refine ⟨[x,y,nd 7],fun z=>h ?_⟩
   ·simp only [List.map_cons,List.map_nil,HS] at z
    rw [iR (no 7 ((0,3,5,6)) (by decide)),iR (no 7 ((1,0,3,5)) (by decide)),iR (no 7 ((2,3,0,6)) (by decide)),iR (no 7 ((4,5,6,0)) (by decide))] at z
    omega
theorem Bx2.cor {nd:Nat→List Int} {q:Q2} (B:Bx2 nd q):Cor 2 ([(0,1,3),(0,2,3)].map (sx3 nd)) ([(0,1,2),(1,2,3)].map (sx3 nd)):=by
 have mem:∀ (v:List Int) (p:Nat × Nat × Nat),v∈sx3 nd p↔v=nd p.1∨v=nd p.2.1∨v=nd p.2.2:=fun v p=>by
  rw [sx3,(mS (.inl rfl)).mem_iff]
  simp
 have no:∀ (i:Nat) (p:Nat × Nat × Nat),(¬ ((bt i).1=(bt p.1).1∧(bt i).2.1=(bt p.1).2.1)∧¬ ((bt i).1=(bt p.2.1).1∧(bt i).2.1=(bt p.2.1).2.1)∧¬ ((bt i).1=(bt p.2.2).1∧(bt i).2.1=(bt p.2.2).2.1))→nd i ∉ sx3 nd p:=fun i p h g=>by
  rw [mem] at g
  rcases g with g | g | g
  ·exact h.1 (B.inj g)
  ·exact h.2.1 (B.inj g)
  ·exact h.2.2 (B.inj g)
 have h1:=fun k=>B.ps (i:=0) (j:=1) (l:=3) (by decide) k
 have h2:=fun k=>B.ps (i:=0) (j:=2) (l:=3) (by decide) k
 have h3:=fun k=>B.ps (i:=0) (j:=1) (l:=2) (by decide) k
 have h4:=fun k=>B.ps (i:=1) (j:=2) (l:=3) (by decide) k
 refine ⟨fun u hu=>?_,fun u hu=>?_,by simp,by simp,by simp,by simp,fun k=>?_,fun l hl r hr=>?_,?_⟩
 ·simp only [List.map_cons,List.map_nil,List.mem_cons,List.not_mem_nil,or_false] at hu
  rcases hu with rfl | rfl
  ·exact (h1 []).2
  ·exact (h2 []).2
 ·simp only [List.map_cons,List.map_nil,List.mem_cons,List.not_mem_nil,or_false] at hu
  rcases hu with rfl | rfl
  ·exact (h3 []).2
  ·exact (h4 []).2
 ·simp only [List.map_cons,List.map_nil,HS]
  rw [(h1 k).1,(h2 k).1,(h3 k).1,(h4 k).1,show sg (cI2 0 1 3)=1 by decide,show sg (cI2 0 2 3)=-1 by decide,show sg (cI2 0 1 2)=1 by decide,show sg (cI2 1 2 3)=-1 by decide]
  rw [jB (B.nat 0).pw (B.nat 3).pw,jB (B.nat 0).pw (B.nat 2).pw,jB (B.nat 1).pw (B.nat 3).pw]
  grind
 ·have h0:nd 0∈l:=by
   simp only [List.map_cons,List.map_nil,List.mem_cons,List.not_mem_nil,or_false] at hl
   rcases hl with rfl | rfl <;> exact (mem _ _).mpr (.inl rfl)
  have h7:nd 3∈l:=by
   simp only [List.map_cons,List.map_nil,List.mem_cons,List.not_mem_nil,or_false] at hl
   rcases hl with rfl | rfl <;> exact (mem _ _).mpr (.inr (.inr rfl))
  simp only [List.map_cons,List.map_nil,List.mem_cons,List.not_mem_nil,or_false] at hr
  rcases hr with rfl | rfl
  ·exact ⟨_,h7,no 3 _ (by decide)⟩
  ·exact ⟨_,h0,no 0 _ (by decide)⟩
 ·obtain ⟨x,y,h⟩:=((h3 []).2).yes (.inl rfl) ((mem (nd 0) _).mpr (.inl rfl))
  refine ⟨[x,y,nd 0],fun z=>h ?_⟩
  ·simp only [List.map_cons,List.map_nil,HS] at z
   rw [iR (no 0 ((1,2,3)) (by decide))] at z
   omega
theorem mv2 {k l:Nat} {x y w a b e:Int} (h:Gu 2 k [x,y,w]) (g:Gu 2 l [a,b,e]):∃ p q t,mvU 1 [a,b,e] [x,y,w]=[p,q,t]∧0 < t∧p*(e*w)=(e*x+a*w)*t∧q*(e*w)=(e*y+b*w)*t:=by
 obtain ⟨xs,v,xs',t,e1,e2,l1,l2,_,p2,h⟩:=(vH (way:=1) (.inl rfl) h g).2
 match xs,l1,xs',l2,h,e1,e2 with
 | [x1,y1],_,[p,q],_,h,e1,e2 =>
  have e1:[x,y,w]=[x1,y1,v]:=e1
  cases e1
  have h0:=h 0 (by decide)
  have h1:=h 1 (by decide)
  simp only [List.getD_cons_zero,List.getD_cons_succ,Int.one_mul] at h0 h1
  have ge:[a,b,e].getLastD 0=e:=rfl
  rw [ge] at h0 h1
  exact ⟨p,q,t,e2,p2,h0,h1⟩
theorem mv3 {k l:Nat} {x y z w a b c e:Int} (h:Gu 3 k [x,y,z,w]) (g:Gu 3 l [a,b,c,e]):∃ p q r t,mvU 1 [a,b,c,e] [x,y,z,w]=[p,q,r,t]∧0 < t∧p*(e*w)=(e*x+a*w)*t∧q*(e*w)=(e*y+b*w)*t∧r*(e*w)=(e*z+c*w)*t:=by
 obtain ⟨xs,v,xs',t,e1,e2,l1,l2,_,p2,h⟩:=(vH (way:=1) (.inl rfl) h g).2
 match xs,l1,xs',l2,h,e1,e2 with
 | [x1,y1,z1],_,[p,q,r],_,h,e1,e2 =>
  have e1:[x,y,z,w]=[x1,y1,z1,v]:=e1
  cases e1
  have h0:=h 0 (by decide)
  have h1:=h 1 (by decide)
  have h2:=h 2 (by decide)
  simp only [List.getD_cons_zero,List.getD_cons_succ,Int.one_mul] at h0 h1 h2
  have ge:[a,b,c,e].getLastD 0=e:=rfl
  rw [ge] at h0 h1 h2
  exact ⟨p,q,r,t,e2,p2,h0,h1,h2⟩
theorem gF (S:Sto):fO [.pv (.int 2)] S=.ok ([.int 0,.int 1],[]) S∧fO [.pv (.int 3)] S=.ok ([.int 0,.int 1,.int 2],[]) S∧fO [.pv (.int 8)] S=.ok ([.int 0,.int 1,.int 2,.int 3,.int 4,.int 5,.int 6,.int 7],[]) S:=by
 exact ⟨rgn S (n:=2) (by decide),rgn S (n:=3) (by decide),rgn S (n:=8) (by decide)⟩
def mvI (b:Int) (f us:List Int):List Int:=if b=1 then mvU 1 f us else us
theorem eZ {n k l:Nat} {b:Int} {us f:List Int} (h:Gu n k us) (g:Gu n l f):Gu n (k+l+1) (mvI b f us):=by
 unfold mvI
 split
 ·exact (vH (way:=1) (.inl rfl) h g).1
 ·exact h.mono (by omega)
def ndB:MS:=(sIf (bK (aC fEq (aC fIx (aA 2) (aA 4)) (mC (.int 1)))) (aM 3 (aL jJ [] (aB (aA 3) (aB (aC fIx (aA 1) (aA 4)) (aB (mC (.int 1)) aD))))) dA)
theorem nQ {n k l:Nat} (hn:n=2∨n=3) {us f:List Int} {j b:Int} {WV AT:PV} {a:AV} {S:Sto} {r:List PV} {x0 x4:Option AV} (ha:rd S a=some AT) (hb:fIx AT (.int j)=some (.int b)) (hw:fIx WV (.int j)=some (tv f)) (h:Gu n k us) (g:Gu n l f) (hk:k≤1000) (hl:l≤1000):bZ [] (gN 4) ndB (.int j :: r) [x0,some (.pv WV),some a,some (.pv (tv us)),x4] S=bZ [] (gN 4) ndB r [x0,some (.pv WV),some a,some (.pv (tv (mvI b f us))),some (.pv (.int j))] S:=by
 have e:=ae2 (way:=1) S hn (.inl rfl) h g hk hl
 rw [eJ]
 unfold ndB mvI
 by_cases h1:b=1
 ·subst h1
  rw [if_pos rfl]
  generalize tv (mvU 1 f us)=T1 at *
  generalize tv us=T2 at *
  generalize tv f=T3 at *
  simp [gN,EC,aQ,aN,aO,fEq,fNe,dF,aV,aT,aS,aU,aI,aW,frz,aR,ha,hb,hw,e]
 ·rw [if_neg h1]
  generalize tv us=T2 at *
  generalize tv f=T3 at *
  simp [gN,EC,aQ,aN,aO,fEq,fNe,dF,aV,aT,aS,aU,aI,aW,frz,aR,ha,hb,hw,h1]
def nd3 (o f g h:List Int) (b:Int × Int × Int):List Int:=mvI b.2.2 h (mvI b.2.1 g (mvI b.1 f o))
def nd2 (o f g:List Int) (b:Int × Int × Int):List Int:=mvI b.2.1 g (mvI b.1 f o)
theorem afT {o f g h:List Int} {b1 b2 b3:Int} {a:AV} {S:Sto} (ho:Gu 3 100 o) (hf:Gu 3 100 f) (hg:Gu 3 100 g) (hh:Gu 3 100 h) (ha:rd S a=some (.lst [.int b1,.int b2,.int b3])):cR [.pv (tv o),.pv (.lst [tv f,tv g,tv h]),a] S=.ok (.pv (tv (nd3 o f g h (b1,b2,b3)))) S:=by
 have s1:=nQ (.inr rfl) (WV:=.lst [tv f,tv g,tv h]) (S:=S) (r:=[.int 1,.int 2]) (x0:=some (.pv (tv o))) (x4:=none) ha (j:=0) (b:=b1) rfl rfl ho hf (by decide) (by decide)
 have h1:=eZ (b:=b1) ho hf
 have s2:=nQ (.inr rfl) (WV:=.lst [tv f,tv g,tv h]) (S:=S) (r:=[.int 2]) (x0:=some (.pv (tv o))) (x4:=some (.pv (.int 0))) ha (j:=1) (b:=b2) rfl rfl h1 hg (by decide) (by decide)
 have h2:=eZ (b:=b2) h1 hg
 have s3:=nQ (.inr rfl) (WV:=.lst [tv f,tv g,tv h]) (S:=S) (r:=[]) (x0:=some (.pv (tv o))) (x4:=some (.pv (.int 1))) ha (j:=2) (b:=b3) rfl rfl h2 hh (by decide) (by decide)
 rw [s2,s3,eO] at s1
 have hb:pL=(aK (aM 3 (aA 0))
 (aK (bU (bJ (aB (mR dB (aB (aA 1) aD)) aD)) (gN 4) ndB)
 (bP (aA 3)))):=rfl
 have r3:=(gF S).2.1
 show _=Res.ok (AV.pv (tv (mvI b3 h (mvI b2 g (mvI b1 f o))))) S
 unfold cR fnM
 rw [hb]
 generalize ndB=LB at *
 generalize tv (mvI b3 h (mvI b2 g (mvI b1 f o)))=T at *
 generalize tv o=T0 at *
 generalize tv f=T1 at *
 generalize tv g=T2 at *
 generalize tv h=T3 at *
 simp [EC,aQ,aN,aO,fIx,atI,ixN,fEq,fNe,eqN,aV,aT,aS,aU,aI,aW,frz,aR,bU,bJ,r3,s1]
theorem vL {o f g:List Int} {b1 b2:Int} {a:AV} {S:Sto} (ho:Gu 2 100 o) (hf:Gu 2 100 f) (hg:Gu 2 100 g) (ha:rd S a=some (.lst [.int b1,.int b2])):cR [.pv (tv o),.pv (.lst [tv f,tv g]),a] S=.ok (.pv (tv (nd2 o f g (b1,b2,0)))) S:=by
 have s1:=nQ (.inl rfl) (WV:=.lst [tv f,tv g]) (S:=S) (r:=[.int 1]) (x0:=some (.pv (tv o))) (x4:=none) ha (j:=0) (b:=b1) rfl rfl ho hf (by decide) (by decide)
 have h1:=eZ (b:=b1) ho hf
 have s2:=nQ (.inl rfl) (WV:=.lst [tv f,tv g]) (S:=S) (r:=[]) (x0:=some (.pv (tv o))) (x4:=some (.pv (.int 0))) ha (j:=1) (b:=b2) rfl rfl h1 hg (by decide) (by decide)
 rw [s2,eO] at s1
 have hb:pL=(aK (aM 3 (aA 0))
 (aK (bU (bJ (aB (mR dB (aB (aA 1) aD)) aD)) (gN 4) ndB)
 (bP (aA 3)))):=rfl
 have r3:=(gF S).1
 show _=Res.ok (AV.pv (tv (mvI b2 g (mvI b1 f o)))) S
 unfold cR fnM
 rw [hb]
 generalize ndB=LB at *
 generalize tv (mvI b2 g (mvI b1 f o))=T at *
 generalize tv o=T0 at *
 generalize tv f=T1 at *
 generalize tv g=T2 at *
 simp [EC,aQ,aN,aO,fIx,atI,ixN,fEq,fNe,eqN,aV,aT,aS,aU,aI,aW,frz,aR,bU,bJ,r3,s1]
theorem At3.mv {k l:Nat} {M a b c f1 f2 f3 e g:Int} {us:List Int} (h:At3 M a b c us) (hu:Gu 3 k us) (hf:Gu 3 l [f1,f2,f3,e]) (he:M=e*g) (d:Int) (hd:d=0∨d=1):At3 M (a+d*(g*f1)) (b+d*(g*f2)) (c+d*(g*f3)) (mvI d [f1,f2,f3,e] us):=by
 rcases hd with rfl | rfl
 ·simpa [mvI] using h
 ·obtain ⟨x,y,z,w,rfl,p,h1,h2,h3⟩:=h
  obtain ⟨p',q',r',t,e1,t0,g1,g2,g3⟩:=mv3 hu hf
  have e0:0 < e:=hf.lastpos
  have key:∀ {x a f p:Int},x*M=a*w→p*(e*w)=(e*x+f*w)*t→p*M=(a+1*(g*f))*t:=fun {x a f p} i j=>by
   have n:e*w≠0:=Int.mul_ne_zero (by omega) (by omega)
   refine Int.eq_of_mul_eq_mul_left n ?_
   have q1:e*w*(p*M)=(p*(e*w))*M:=by grind
   rw [q1,j]
   have q2:(e*x+f*w)*t*M=e*t*(x*M)+f*w*t*M:=by grind
   rw [q2,i,he]
   grind
  exact ⟨p',q',r',t,by rw [mvI,if_pos rfl]; exact e1,t0,key h1 g1,key h2 g2,key h3 g3⟩
theorem At2.mv {k l:Nat} {M a b f1 f2 e g:Int} {us:List Int} (h:At2 M a b us) (hu:Gu 2 k us) (hf:Gu 2 l [f1,f2,e]) (he:M=e*g) (d:Int) (hd:d=0∨d=1):At2 M (a+d*(g*f1)) (b+d*(g*f2)) (mvI d [f1,f2,e] us):=by
 rcases hd with rfl | rfl
 ·simpa [mvI] using h
 ·obtain ⟨x,y,w,rfl,p,h1,h2⟩:=h
  obtain ⟨p',q',t,e1,t0,g1,g2⟩:=mv2 hu hf
  have e0:0 < e:=hf.lastpos
  have key:∀ {x a f p:Int},x*M=a*w→p*(e*w)=(e*x+f*w)*t→p*M=(a+1*(g*f))*t:=fun {x a f p} i j=>by
   have n:e*w≠0:=Int.mul_ne_zero (by omega) (by omega)
   refine Int.eq_of_mul_eq_mul_left n ?_
   have q1:e*w*(p*M)=(p*(e*w))*M:=by grind
   rw [q1,j]
   have q2:(e*x+f*w)*t*M=e*t*(x*M)+f*w*t*M:=by grind
   rw [q2,i,he]
   grind
  exact ⟨p',q',t,by rw [mvI,if_pos rfl]; exact e1,t0,key h1 g1,key h2 g2⟩
theorem ahC (i:Nat):((bt i).1=0∨(bt i).1=1)∧((bt i).2.1=0∨(bt i).2.1=1)∧((bt i).2.2=0∨(bt i).2.2=1):=by
 unfold bt
 dsimp only
 omega
theorem afF {o f g h:List Int} (ho:Gu 3 100 o) (hf:Gu 3 100 f) (hg:Gu 3 100 g) (hh:Gu 3 100 h) {a1 a2 a3 a4 b1 b2 b3 b4 c1 c2 c3 c4:Int} (ef:f=[a1,a2,a3,a4]) (eg:g=[b1,b2,b3,b4]) (eh:h=[c1,c2,c3,c4]) (nz:d3 a1 a2 a3 b1 b2 b3 c1 c2 c3≠0):∃ q,Bx3 (fun i=>nd3 o f g h (bt i)) q:=by
 subst ef eg eh
 have e1:0 < a4:=hf.lastpos
 have e2:0 < b4:=hg.lastpos
 have e3:0 < c4:=hh.lastpos
 obtain ⟨x,y,z,w,rfl,P⟩:=ho.three (by decide)
 have w0:=P.pos
 refine ⟨⟨w*a4*b4*c4,x*a4*b4*c4,y*a4*b4*c4,z*a4*b4*c4,w*b4*c4*a1,w*b4*c4*a2,w*b4*c4*a3,w*a4*c4*b1,w*a4*c4*b2,w*a4*c4*b3,w*a4*b4*c1,w*a4*b4*c2,w*a4*b4*c3⟩,Int.mul_pos (Int.mul_pos (Int.mul_pos w0 e1) e2) e3,?_,fun i=>?_,fun i=>?_⟩
 ·have e:d3 (w*b4*c4*a1) (w*b4*c4*a2) (w*b4*c4*a3) (w*a4*c4*b1) (w*a4*c4*b2) (w*a4*c4*b3) (w*a4*b4*c1) (w*a4*b4*c2) (w*a4*b4*c3)=(w*b4*c4)*(w*a4*c4)*(w*a4*b4)*d3 a1 a2 a3 b1 b2 b3 c1 c2 c3:=by
   unfold d3
   grind
  show d3 _ _ _ _ _ _ _ _ _≠0
  rw [e]
  refine Int.mul_ne_zero (Int.mul_ne_zero (Int.mul_ne_zero ?_ ?_) ?_) nz <;> refine Int.mul_ne_zero (Int.mul_ne_zero ?_ ?_) ?_ <;> omega
 ·have h0:At3 (w*a4*b4*c4) (x*a4*b4*c4) (y*a4*b4*c4) (z*a4*b4*c4) [x,y,z,w]:=⟨x,y,z,w,rfl,w0,by grind,by grind,by grind⟩
  obtain ⟨i1,i2,i3⟩:=ahC i
  have h1:=h0.mv ho hf (g:=w*b4*c4) (by grind) _ i1
  have k1:=eZ (b:=(bt i).1) ho hf
  have h2:=h1.mv k1 hg (g:=w*a4*c4) (by grind) _ i2
  have k2:=eZ (b:=(bt i).2.1) k1 hg
  exact h2.mv k2 hh (g:=w*a4*b4) (by grind) _ i3
 ·exact (eZ (b:=(bt i).2.2) (eZ (b:=(bt i).2.1) (eZ (b:=(bt i).1) ho hf) hg) hh).mono (by decide)
theorem afj {o f g:List Int} (ho:Gu 2 100 o) (hf:Gu 2 100 f) (hg:Gu 2 100 g) {a1 a2 a4 b1 b2 b4:Int} (ef:f=[a1,a2,a4]) (eg:g=[b1,b2,b4]) (nz:d2 a1 a2 b1 b2≠0):∃ q,Bx2 (fun i=>nd2 o f g (bt i)) q:=by
 subst ef eg
 have e1:0 < a4:=hf.lastpos
 have e2:0 < b4:=hg.lastpos
 obtain ⟨x,y,w,rfl,P⟩:=ho.two (by decide)
 have w0:=P.pos
 refine ⟨⟨w*a4*b4,x*a4*b4,y*a4*b4,w*b4*a1,w*b4*a2,w*a4*b1,w*a4*b2⟩,Int.mul_pos (Int.mul_pos w0 e1) e2,?_,fun i=>?_,fun i=>?_⟩
 ·have e:d2 (w*b4*a1) (w*b4*a2) (w*a4*b1) (w*a4*b2)=(w*b4)*(w*a4)*d2 a1 a2 b1 b2:=by
   unfold d2
   grind
  show d2 _ _ _ _≠0
  rw [e]
  refine Int.mul_ne_zero (Int.mul_ne_zero ?_ ?_) nz <;> refine Int.mul_ne_zero ?_ ?_ <;> omega
 ·have h0:At2 (w*a4*b4) (x*a4*b4) (y*a4*b4) [x,y,w]:=⟨x,y,w,rfl,w0,by grind,by grind⟩
  obtain ⟨i1,i2,_⟩:=ahC i
  have h1:=h0.mv ho hf (g:=w*b4) (by grind) _ i1
  have k1:=eZ (b:=(bt i).1) ho hf
  have h2:=h1.mv k1 hg (g:=w*a4) (by grind) _ i2
  simpa [co,nd2] using h2
 ·exact (eZ (b:=(bt i).2.1) (eZ (b:=(bt i).1) ho hf) hg).mono (by decide)
def nn2 (o f g:List Int) (i:Nat):List Int:=nd2 o f g (bt i)
def nn3 (o f g h:List Int) (i:Nat):List Int:=nd3 o f g h (bt i)
theorem af6 {o f g:List Int} (ho:Gu 2 100 o) (hf:Gu 2 100 f) (hg:Gu 2 100 g) (i:Nat):Gu 2 1000 (nn2 o f g i):=(eZ (b:=(bt i).2.1) (eZ (b:=(bt i).1) ho hf) hg).mono (by decide)
theorem agx {o f g h:List Int} (ho:Gu 3 100 o) (hf:Gu 3 100 f) (hg:Gu 3 100 g) (hh:Gu 3 100 h) (i:Nat):Gu 3 1000 (nn3 o f g h i):=(eZ (b:=(bt i).2.2) (eZ (b:=(bt i).2.1) (eZ (b:=(bt i).1) ho hf) hg) hh).mono (by decide)
theorem xB {n:Nat} (hn:n=2∨n=3) {A:PV} {a:AV} {uss:List (List Int)} (S:Sto) (ha:rd S a=some A) (hl:uss.length=n+1) (hg:∀ us∈uss,Gu n 1000 us) (hA:Sv A (uss.map tv)):dZ [a] S=.ok (.pv (.tup ((cnr uss).map tv))) S:=by
 have h34:uss.length=3∨uss.length=4:=by omega
 have e1:=abe h34 hA fun us hu=>(hg us hu).ne
 obtain ⟨pm,_⟩:=mM h34
 have hl2:((cZ uss).map tv).length=n+1:=by rw [List.length_map,pm.length_eq]; exact hl
 have hg2:∀ v∈(cZ uss).map tv,Gp n 1000 v:=gps fun us hu=>hg us (pm.subset hu)
 obtain ⟨d,e2,hd⟩:=aeK (A:=.lst ((cZ uss).map tv)) hn S hl2 hg2 (.inl rfl)
 obtain ⟨a1,b1,M,t1,t2,t3,t4⟩:=agR hn hl2
 unfold cnr
 have hlt:d < 0↔sgP ((cZ uss).map tv) < 0:=by
  rw [← hd]
  unfold sg
  split
  ·omega
  ·split <;> omega
 by_cases h:d < 0
 ·rw [if_pos (hlt.mp h),aeI]
  generalize (cZ uss).map tv=L at *
  unfold dZ fnM oF
  simp [EC,aQ,aN,aO,fEq,fNe,dF,aV,aT,aS,aU,frz,aR,ha,e1,e2,h,mSl,mO0,mO1,iE,t1,t2,t3,t4]
 ·rw [if_neg (fun z=>h (hlt.mpr z))]
  generalize (cZ uss).map tv=L at *
  unfold dZ fnM oF
  simp [EC,aQ,aN,aO,fEq,fNe,dF,aV,aT,aS,aU,frz,aR,ha,e1,e2,h]
theorem qB {o f g:List Int} (ho:Gu 2 100 o) (hf:Gu 2 100 f) (hg:Gu 2 100 g) (i j l:Nat) (S:Sto):dZ [.pv (.lst [tv (nn2 o f g i),tv (nn2 o f g j),tv (nn2 o f g l)])] S=.ok (.pv (px (sx3 (nn2 o f g) (i,j,l)))) S:=
 xB (uss:=[nn2 o f g i,nn2 o f g j,nn2 o f g l]) (.inl rfl) S rfl rfl (fun us hu=>by
  simp only [List.mem_cons,List.not_mem_nil,or_false] at hu
  rcases hu with rfl | rfl | rfl <;> exact af6 ho hf hg _) (.inl rfl)
theorem adH {o f g h:List Int} (ho:Gu 3 100 o) (hf:Gu 3 100 f) (hg:Gu 3 100 g) (hh:Gu 3 100 h) (i j l m:Nat) {a:AV} (S:Sto) (ha:rd S a=some (.lst [tv (nn3 o f g h i),tv (nn3 o f g h j),tv (nn3 o f g h l),tv (nn3 o f g h m)])):dZ [a] S=.ok (.pv (px (sx4 (nn3 o f g h) (i,j,l,m)))) S:=
 xB (uss:=[nn3 o f g h i,nn3 o f g h j,nn3 o f g h l,nn3 o f g h m]) (.inr rfl) S ha rfl (fun us hu=>by
  simp only [List.mem_cons,List.not_mem_nil,or_false] at hu
  rcases hu with rfl | rfl | rfl | rfl <;> exact agx ho hf hg hh _) (.inl rfl)
theorem agj {o f g h:List Int} (ho:Gu 3 100 o) (hf:Gu 3 100 f) (hg:Gu 3 100 g) (hh:Gu 3 100 h) (i j l m:Nat) (S:Sto):dZ [.pv (.lst [tv (nn3 o f g h i),tv (nn3 o f g h j),tv (nn3 o f g h l),tv (nn3 o f g h m)])] S=.ok (.pv (px (sx4 (nn3 o f g h) (i,j,l,m)))) S:=adH ho hf hg hh i j l m S rfl
theorem ac3 {o f g:List Int} (ho:Gu 2 100 o) (hf:Gu 2 100 f) (hg:Gu 2 100 g) (S:Sto):iU [.pv (tv o),.pv (.lst [tv f,tv g])] S=.ok (.pv (.tup [.lst (([(0,1,3),(0,2,3)].map (sx3 (nn2 o f g))).map px),.lst (([(0,1,2),(1,2,3)].map (sx3 (nn2 o f g))).map px)])) S:=by
 have n1:cR [.pv (tv o),.pv (.lst [tv f,tv g]),.pv (.lst [.int 1,.int 0])] S=.ok (.pv (tv (nn2 o f g 1))) S:=vL ho hf hg rfl
 have n2:cR [.pv (tv o),.pv (.lst [tv f,tv g]),.pv (.lst [.int 0,.int 1])] S=.ok (.pv (tv (nn2 o f g 2))) S:=vL ho hf hg rfl
 have n3:cR [.pv (tv o),.pv (.lst [tv f,tv g]),.pv (.lst [.int 1,.int 1])] S=.ok (.pv (tv (nn2 o f g 3))) S:=vL ho hf hg rfl
 have e0:nn2 o f g 0=o:=by simp [nn2,nd2,bt,mvI]
 have s1:=qB ho hf hg 0 1 3 S
 have s2:=qB ho hf hg 0 2 3 S
 have s3:=qB ho hf hg 0 1 2 S
 have s4:=qB ho hf hg 1 2 3 S
 simp only [e0] at s1 s2 s3
 unfold iU fnM rG
 simp only [List.map_cons,List.map_nil]
 generalize px (sx3 (nn2 o f g) (0,1,3))=X1 at *
 generalize px (sx3 (nn2 o f g) (0,2,3))=X2 at *
 generalize px (sx3 (nn2 o f g) (0,1,2))=X3 at *
 generalize px (sx3 (nn2 o f g) (1,2,3))=X4 at *
 generalize tv (nn2 o f g 1)=T1 at *
 generalize tv (nn2 o f g 2)=T2 at *
 generalize tv (nn2 o f g 3)=T3 at *
 generalize tv o=T4 at *
 generalize tv f=T5 at *
 generalize tv g=T6 at *
 simp [EC,aQ,aN,aO,fIx,atI,ixN,fEq,fNe,eqN,aV,aT,aS,aU,aI,aW,frz,aR,n1,n2,n3,s1,s2,s3,s4]
def bl (i:Nat):List Int:=[(bt i).1,(bt i).2.1,(bt i).2.2]
theorem mW {o f g h:List Int} (ho:Gu 3 100 o) (hf:Gu 3 100 f) (hg:Gu 3 100 g) (hh:Gu 3 100 h) (i:Nat) {a:AV} {S:Sto} (ha:rd S a=some (.lst ((bl i).map .int))):cR [.pv (tv o),.pv (.lst [tv f,tv g,tv h]),a] S=.ok (.pv (tv (nn3 o f g h i))) S:=afT ho hf hg hh ha
def s6I:MS:=(sIf (bK (aC fNe (aA 3) (aA 4))) (aK (aM 5 (bF ["_law_k"] [(3,"_law_i")] (bJ (aB (mC (.int 3)) aD)) (gN 0) (mR eE (aB (aC fEq (aA 0) (aA 1)) aD))))
 (aK (aM 6 (bF ["_law_k"] [(3,"_law_i"),(4,"_law_j")] (bJ (aB (mC (.int 3)) aD)) (gN 0) (mR eE (aB (nV (aC fEq (aA 0) (aA 1)) (aC fEq (aA 0) (aA 2))) aD))))
 (aK (aM 7 (mN cA (aB (aA 0) (aB (aL cR [] (aB (aA 0) (aB (aA 1) (aB (aA 5) aD)))) (aB (aL cR [] (aB (aA 0) (aB (aA 1) (aB (aA 6) aD)))) aD)))))
 (eB (eI (aA 2) (aB (aL dZ [] (aB (aC aI (aA 7) (mN cA (aB (aL cR [] (aB (aA 0) (aB (aA 1) (aB (mN cA (aB (mC (.int 1)) (aB (mC (.int 1)) (aB (mC (.int 1)) aD)))) aD)))) aD))) aD)) aD)))))) dA)
def s6O:MS:=(bU (bJ (aB (mC (.int 3)) aD)) (gN 4) s6I)
theorem agN (S:Sto) {i j:Int} {p q:Nat} (h:(i,j,p,q)∈[(0,1,1,3),(0,2,1,5),(1,0,2,3),(1,2,2,6),(2,0,4,5),(2,1,4,6)]):i≠j∧bY [] (gN 0) ((mR eE (aB (aC fEq (aA 0) (aA 1)) aD))) [.int 0,.int 1,.int 2] [none,some (.pv (.int i))] S=.ok ((bl p).map .int) S∧bY [] (gN 0) ((mR eE (aB (nV (aC fEq (aA 0) (aA 1)) (aC fEq (aA 0) (aA 2))) aD))) [.int 0,.int 1,.int 2] [none,some (.pv (.int i)),some (.pv (.int j))] S=.ok ((bl q).map .int) S:=by
 simp only [List.mem_cons,List.not_mem_nil,or_false,Prod.mk.injEq] at h
 rcases h with ⟨rfl,rfl,rfl,rfl⟩ | ⟨rfl,rfl,rfl,rfl⟩ | ⟨rfl,rfl,rfl,rfl⟩ | ⟨rfl,rfl,rfl,rfl⟩ | ⟨rfl,rfl,rfl,rfl⟩ | ⟨rfl,rfl,rfl,rfl⟩ <;> refine ⟨by decide,?_,?_⟩ <;> simp [eF,eA,gN,EC,aQ,aN,aO,fIx,atI,ixN,fEq,fNe,eqN,aV,aT,aS,aU,aI,aW,frz,aR,eE,bl,bt]
theorem lA {o f g h:List Int} (ho:Gu 3 100 o) (hf:Gu 3 100 f) (hg:Gu 3 100 g) (hh:Gu 3 100 h) {R:SO} {F:List PV} (hF:F.length≤100) {i j:Int} {p q:Nat} (hij:(i,j,p,q)∈[(0,1,1,3),(0,2,1,5),(1,0,2,3),(1,2,2,6),(2,0,4,5),(2,1,4,6)]) (x5 x6 x7:Option AV):∃ y5 y6 y7,s6I [some (.pv (tv o)),some (.pv (.lst [tv f,tv g,tv h])),some (.ref 1),some (.pv (.int i)),some (.pv (.int j)),x5,x6,x7] [R,.lst F]=.nx [some (.pv (tv o)),some (.pv (.lst [tv f,tv g,tv h])),some (.ref 1),some (.pv (.int i)),some (.pv (.int j)),y5,y6,y7] [R,.lst (F++[px (sx4 (nn3 o f g h) (0,p,q,7))])]:=by
 obtain ⟨ne,c1,c2⟩:=agN [R,.lst F] hij
 have n1:=mW ho hf hg hh p (a:=.pv (.lst ((bl p).map .int))) (S:=[R,.lst F]) rfl
 have n2:=mW ho hf hg hh q (a:=.pv (.lst ((bl q).map .int))) (S:=[R,.lst F]) rfl
 have n3:cR [.pv (tv o),.pv (.lst [tv f,tv g,tv h]),.pv (.lst [.int 1,.int 1,.int 1])] [R,.lst F]=.ok (.pv (tv (nn3 o f g h 7))) [R,.lst F]:=afT ho hf hg hh rfl
 have e0:nn3 o f g h 0=o:=by simp [nn3,nd3,bt,mvI]
 have s1:=agj ho hf hg hh 0 p q 7 [R,.lst F]
 rw [e0] at s1
 have r3:=(gF [R,.lst F]).2.1
 have lz:F.length < 16777216:=by omega
 refine ⟨some (.pv (.lst ((bl p).map .int))),some (.pv (.lst ((bl q).map .int))),some (.pv (.lst [tv o,tv (nn3 o f g h p),tv (nn3 o f g h q)])),?_⟩
 unfold s6I
 generalize (bl p).map PV.int=B1 at *
 generalize (bl q).map PV.int=B2 at *
 generalize px (sx4 (nn3 o f g h) (0,p,q,7))=X1 at *
 generalize tv (nn3 o f g h p)=T1 at *
 generalize tv (nn3 o f g h q)=T2 at *
 generalize tv (nn3 o f g h 7)=T3 at *
 generalize tv o=T4 at *
 generalize tv f=T5 at *
 generalize tv g=T6 at *
 generalize tv h=T7 at *
 simp [EC,aQ,aN,aO,fIx,atI,ixN,fEq,fNe,eqN,aV,aT,aS,aU,aI,aW,frz,aR,bF,bJ,r3,cD,ne,c1,c2,n1,n2,n3,s1,eI,eC,iS,lz]
theorem sP {S:Sto} {a b c:Option AV} {i:Int} (x5 x6 x7:Option AV):s6I [a,b,c,some (.pv (.int i)),some (.pv (.int i)),x5,x6,x7] S=.nx [a,b,c,some (.pv (.int i)),some (.pv (.int i)),x5,x6,x7] S:=by
 unfold s6I
 simp [EC,aQ,aN,aO,fIx,atI,ixN,fEq,fNe,eqN,aV,aT,aS,aU,aI,aW,frz,aR]
theorem tK {o f g h:List Int} (ho:Gu 3 100 o) (hf:Gu 3 100 f) (hg:Gu 3 100 g) (hh:Gu 3 100 h) {R:SO} {F:List PV} (hF:F.length≤90) {i:Int} {p q1 q2:Nat} (hi:(i,p,q1,q2)∈[(0,1,3,5),(1,2,3,6),(2,4,5,6)]) (x4 x5 x6 x7:Option AV):∃ y4 y5 y6 y7,s6O [some (.pv (tv o)),some (.pv (.lst [tv f,tv g,tv h])),some (.ref 1),some (.pv (.int i)),x4,x5,x6,x7] [R,.lst F]=.nx [some (.pv (tv o)),some (.pv (.lst [tv f,tv g,tv h])),some (.ref 1),some (.pv (.int i)),y4,y5,y6,y7] [R,.lst (F++[px (sx4 (nn3 o f g h) (0,p,q1,7)),px (sx4 (nn3 o f g h) (0,p,q2,7))])]:=by
 have r3:=(gF [R,.lst F]).2.1
 simp only [List.mem_cons,List.not_mem_nil,or_false,Prod.mk.injEq] at hi
 have hF2:∀ x:PV,(F++[x]).length≤100:=fun x=>by simp; omega
 rcases hi with ⟨rfl,rfl,rfl,rfl⟩ | ⟨rfl,rfl,rfl,rfl⟩ | ⟨rfl,rfl,rfl,rfl⟩
 ·obtain ⟨a5,a6,a7,e1⟩:=lA ho hf hg hh (R:=R) (F:=F) (by omega) (i:=0) (j:=1) (p:=1) (q:=3) (by simp) x5 x6 x7
  obtain ⟨b5,b6,b7,e2⟩:=lA ho hf hg hh (R:=R) (hF2 (px (sx4 (nn3 o f g h) (0,1,3,7)))) (i:=0) (j:=2) (p:=1) (q:=5) (by simp) a5 a6 a7
  refine ⟨some (.pv (.int 2)),b5,b6,b7,?_⟩
  unfold s6O
  simp only [bU,bJ,aB,mC,aD,Res.bind,r3,bN.of,eJ,eO,gN,List.length_cons,List.set_cons_succ,List.set_cons_zero,sP,e1,e2,List.append_assoc,List.cons_append,List.nil_append]
 ·obtain ⟨a5,a6,a7,e1⟩:=lA ho hf hg hh (R:=R) (F:=F) (by omega) (i:=1) (j:=0) (p:=2) (q:=3) (by simp) x5 x6 x7
  obtain ⟨b5,b6,b7,e2⟩:=lA ho hf hg hh (R:=R) (hF2 (px (sx4 (nn3 o f g h) (0,2,3,7)))) (i:=1) (j:=2) (p:=2) (q:=6) (by simp) a5 a6 a7
  refine ⟨some (.pv (.int 2)),b5,b6,b7,?_⟩
  unfold s6O
  simp only [bU,bJ,aB,mC,aD,Res.bind,r3,bN.of,eJ,eO,gN,List.length_cons,List.set_cons_succ,List.set_cons_zero,sP,e1,e2,List.append_assoc,List.cons_append,List.nil_append]
 ·obtain ⟨a5,a6,a7,e1⟩:=lA ho hf hg hh (R:=R) (F:=F) (by omega) (i:=2) (j:=0) (p:=4) (q:=5) (by simp) x5 x6 x7
  obtain ⟨b5,b6,b7,e2⟩:=lA ho hf hg hh (R:=R) (hF2 (px (sx4 (nn3 o f g h) (0,4,5,7)))) (i:=2) (j:=1) (p:=4) (q:=6) (by simp) a5 a6 a7
  refine ⟨some (.pv (.int 2)),b5,b6,b7,?_⟩
  unfold s6O
  simp only [bU,bJ,aB,mC,aD,Res.bind,r3,bN.of,eJ,eO,gN,List.length_cons,List.set_cons_succ,List.set_cons_zero,sP,e1,e2,List.append_assoc,List.cons_append,List.nil_append]
theorem afs {o f g h:List Int} (ho:Gu 3 100 o) (hf:Gu 3 100 f) (hg:Gu 3 100 g) (hh:Gu 3 100 h) (R:SO):jD [.pv (tv o),.pv (.lst [tv f,tv g,tv h])] [R]=.ok (.ref 1) [R,.lst ((ix6.map (sx4 (nn3 o f g h))).map px)]:=by
 obtain ⟨a4,a5,a6,a7,e1⟩:=tK ho hf hg hh (R:=R) (F:=[]) (by decide) (i:=0) (p:=1) (q1:=3) (q2:=5) (by simp) none none none none
 obtain ⟨b4,b5,b6,b7,e2⟩:=tK ho hf hg hh (R:=R) (F:=[px (sx4 (nn3 o f g h) (0,1,3,7)),px (sx4 (nn3 o f g h) (0,1,5,7))]) (by simp) (i:=1) (p:=2) (q1:=3) (q2:=6) (by simp) a4 a5 a6 a7
 obtain ⟨c4,c5,c6,c7,e3⟩:=tK ho hf hg hh (R:=R) (F:=[px (sx4 (nn3 o f g h) (0,1,3,7)),px (sx4 (nn3 o f g h) (0,1,5,7)),px (sx4 (nn3 o f g h) (0,2,3,7)),px (sx4 (nn3 o f g h) (0,2,6,7))]) (by simp) (i:=2) (p:=4) (q1:=5) (q2:=6) (by simp) b4 b5 b6 b7
 simp only [List.nil_append,List.cons_append] at e1 e2 e3
 have r3:=(gF [R,.lst []]).2.1
 have hb:uJ=(aK (aM 2 (fN aD))
 (aK (bU (bJ (aB (mC (.int 3)) aD)) (gN 3) s6O)
 (bP (aA 2)))):=rfl
 unfold jD fnM
 rw [hb]
 show _=Res.ok (AV.ref 1) [R,.lst [px (sx4 (nn3 o f g h) (0,1,3,7)),px (sx4 (nn3 o f g h) (0,1,5,7)),px (sx4 (nn3 o f g h) (0,2,3,7)),px (sx4 (nn3 o f g h) (0,2,6,7)),px (sx4 (nn3 o f g h) (0,4,5,7)),px (sx4 (nn3 o f g h) (0,4,6,7))]]
 generalize px (sx4 (nn3 o f g h) (0,1,3,7))=X1 at *
 generalize px (sx4 (nn3 o f g h) (0,1,5,7))=X2 at *
 generalize px (sx4 (nn3 o f g h) (0,2,3,7))=X3 at *
 generalize px (sx4 (nn3 o f g h) (0,2,6,7))=X4 at *
 generalize px (sx4 (nn3 o f g h) (0,4,5,7))=X5 at *
 generalize px (sx4 (nn3 o f g h) (0,4,6,7))=X6 at *
 generalize s6O=LB at *
 generalize tv o=T4 at *
 generalize tv f=T5 at *
 generalize tv g=T6 at *
 generalize tv h=T7 at *
 simp [EC,aQ,aN,aO,fIx,atI,ixN,fEq,fNe,eqN,aV,aT,aS,aU,aI,aW,frz,aR,fN,lU,bU,bJ,r3,eJ,eO,gN,e1,e2,e3]
def s5A:MS:=(eB (eI (aA 3) (aB (mN cA (aB (aC cE (aA 4) (mC (.int 2))) (aB (aC cE (aC fB (aA 4) (mC (.int 2))) (mC (.int 2))) (aB (aC fB (aA 4) (mC (.int 4))) aD)))) aD)))
def s5K:MS:=(aK (aM 8 (nS (aB (aA 6) aD)))
 (aK (gM (aA 8) (aA 4) (aC dR (mC (.int 1)) (aC fIx (aA 8) (aA 4))))
 (eB (eI (aA 7) (aB (aL cR [] (aB (aA 0) (aB (aA 1) (aB (aA 8) aD)))) aD)))))
def s5O:MS:=(sIf (bK (aC fNe (aC cE (mR iH (aB (aA 6) aD)) (mC (.int 2))) (aA 2))) (aK (aM 7 (fN (aB (aL cR [] (aB (aA 0) (aB (aA 1) (aB (aA 6) aD)))) aD)))
 (aK (bU (bJ (aB (mC (.int 3)) aD)) (gN 4) s5K)
 (eB (eI (aA 5) (aB (aL dZ [] (aB (aA 7) aD)) aD))))) dA)
theorem ahe:∀ i:Nat,i < 8→[(i:Int).fmod 2,((i:Int).fdiv 2).fmod 2,(i:Int).fdiv 4]=bl i:=by
 have h:∀ i∈List.range 8,[((i:Nat):Int).fmod 2,((i:Int).fdiv 2).fmod 2,(i:Int).fdiv 4]=bl i:=by decide +kernel
 exact fun i hi=>h i (List.mem_range.mpr hi)
theorem adX {R:SO} {L:List PV} (hL:L.length≤100) {a b c:Option AV} {i:Nat} (hi:i < 8) (x5 x6 x7 x8:Option AV):s5A [a,b,c,some (.ref 1),some (.pv (.int i)),x5,x6,x7,x8] [R,.lst L]=.nx [a,b,c,some (.ref 1),some (.pv (.int i)),x5,x6,x7,x8] [R,.lst (L++[.lst ((bl i).map .int)])]:=by
 have lz:L.length < 16777216:=by omega
 have b2:Bd 8000 2:=(Bd.of (n:=2) (by decide) (by decide):Bd 2 2).mono (by decide)
 have b4:Bd 8000 4:=(Bd.of (n:=4) (by decide) (by decide):Bd 4 4).mono (by decide)
 have q1:cE (.int (i:Int)) (.int 2)=some (.int ((i:Int).fmod 2)):=fY (by decide)
 have q2:fB (.int (i:Int)) (.int 2)=some (.int ((i:Int).fdiv 2)):=oV ⟨by decide,b2⟩
 have q3:cE (.int ((i:Int).fdiv 2)) (.int 2)=some (.int (((i:Int).fdiv 2).fmod 2)):=fY (by decide)
 have q4:fB (.int (i:Int)) (.int 4)=some (.int ((i:Int).fdiv 4)):=oV ⟨by decide,b4⟩
 rw [← ahe i hi]
 unfold s5A
 simp [EC,aQ,aN,aO,fIx,atI,ixN,fEq,fNe,eqN,aV,aT,aS,aU,aI,aW,frz,aR,q1,q2,q3,q4,eI,eC,iS,lz]
def fJ (is:List Nat):List PV:=is.map fun i=>.lst ((bl i).map .int)
theorem abH {R:SO} {a b c:Option AV} (x5 x6 x7 x8:Option AV):∀ (is:List Nat) (L:List PV) (x4:Option AV),(∀ i∈is,i < 8)→L.length+is.length≤100→∃ y4,bZ [] (gN 4) s5A (is.map fun i=>.int ((i:Nat):Int)) [a,b,c,some (.ref 1),x4,x5,x6,x7,x8] [R,.lst L]=.nx [a,b,c,some (.ref 1),y4,x5,x6,x7,x8] [R,.lst (L++fJ is)]
 | [],L,x4,_,_=>⟨x4,by rw [List.map_nil,eO]; simp [fJ]⟩
 | i :: is,L,x4,hi,hL=>by
  have hL:L.length+(is.length+1)≤100:=hL
  have e:=adX (R:=R) (L:=L) (by omega) (a:=a) (b:=b) (c:=c) (hi i List.mem_cons_self) x5 x6 x7 x8
  obtain ⟨y4,ih⟩:=abH (R:=R) (a:=a) (b:=b) (c:=c) x5 x6 x7 x8 is (L++[.lst ((bl i).map .int)]) (some (.pv (.int i))) (fun j hj=>hi j (List.mem_cons_of_mem _ hj)) (by simp; omega)
  refine ⟨y4,?_⟩
  rw [List.map_cons,eJ]
  simp only [gN,List.set_cons_succ,List.set_cons_zero,e,ih]
  simp [fJ]
def odd (od:Int) (i:Nat):Bool:=(bl i).sum.fmod 2 == od
theorem zO {o f g h:List Int} (ho:Gu 3 100 o) (hf:Gu 3 100 f) (hg:Gu 3 100 g) (hh:Gu 3 100 h) {G:Gd} {S:Sto} (hG:gOk G S) (od:Int):∀ (is:List Nat) (x:Option AV),dC G (gN 0) ((bK (aC fEq (aC cE (mR iH (aB (aA 0) aD)) (mC (.int 2))) (aA 3)))) ((aL cR [] (aB (aA 1) (aB (aA 2) (aB (aA 0) aD))))) (fJ is) [x,some (.pv (tv o)),some (.pv (.lst [tv f,tv g,tv h])),some (.pv (.int od))] S=.ok ((is.filter (odd od)).map fun i=>tv (nn3 o f g h i)) S
 | [],x=>by
  unfold fJ
  rw [List.map_nil,dC,if_pos hG]
  rfl
 | i :: is,x=>by
  have ih:=zO ho hf hg hh hG od is (some (.pv (.lst ((bl i).map .int))))
  have n1:=mW ho hf hg hh i (a:=.pv (.lst ((bl i).map .int))) (S:=S) rfl
  have q1:=oN (bl i)
  have q2:cE (.int (bl i).sum) (.int 2)=some (.int ((bl i).sum.fmod 2)):=fY (by decide)
  show dC G _ _ _ (.lst ((bl i).map .int) :: fJ is) _ S=_
  rw [dC,if_pos hG]
  by_cases c:odd od i=true
  ·rw [List.filter_cons_of_pos c,List.map_cons]
   have c':((bl i).sum.fmod 2 == od)=true:=c
   generalize (bl i).map PV.int=B1 at *
   generalize (bl i).sum=B2 at *
   generalize tv (nn3 o f g h i)=T1 at *
   generalize tv o=T4 at *
   generalize tv f=T5 at *
   generalize tv g=T6 at *
   generalize tv h=T7 at *
   simp [gN,EC,aQ,aN,aO,fIx,atI,ixN,fEq,fNe,eqN,aV,aT,aS,aU,aI,aW,frz,aR,q1,q2,c',n1,ih]
  ·have c0:((bl i).sum.fmod 2 == od)=false:=by simpa [odd] using c
   rw [List.filter_cons_of_neg c]
   generalize (bl i).map PV.int=B1 at *
   generalize (bl i).sum=B2 at *
   generalize tv o=T4 at *
   generalize tv f=T5 at *
   generalize tv g=T6 at *
   generalize tv h=T7 at *
   simp [gN,EC,aQ,aN,aO,fIx,atI,ixN,fEq,fNe,eqN,aV,aT,aS,aU,aI,aW,frz,aR,q1,q2,c0,ih]
structure Fv (S:Sto) (R:SO) (AN F:List PV):Prop where
 h0:S[0]?=some R
 h1:S[1]?=some (.lst AN)
 h2:S[2]?=some (.lst F)
theorem gx {S:Sto} {x y:SO} {i:Nat} (h:S[i]?=some y):(S++[x])[i]?=some y:=by
 rw [List.getElem?_append_left (List.getElem?_eq_some_iff.mp h).1]
 exact h
theorem gs {S:Sto} {x y:SO} {i j:Nat} (h:S[i]?=some y) (n:j≠i):(S.set j x)[i]?=some y:=by
 rw [List.getElem?_set_ne n]
 exact h
theorem Fv.app {S:Sto} {R:SO} {AN F:List PV} (h:Fv S R AN F) (x:SO):Fv (S++[x]) R AN F:=⟨gx h.h0,gx h.h1,gx h.h2⟩
theorem Fv.set {S:Sto} {R:SO} {AN F:List PV} (h:Fv S R AN F) {c:Nat} (hc:3≤c) (x:SO):Fv (S.set c x) R AN F:=⟨gs h.h0 (by omega),gs h.h1 (by omega),gs h.h2 (by omega)⟩
theorem Fv.len {S:Sto} {R:SO} {AN F:List PV} (h:Fv S R AN F):3≤S.length:=(List.getElem?_eq_some_iff.mp h.h2).1
def fl (i j:Nat):Nat:=if (bl i).getD j 0=1 then i - 2 ^ j else i+2 ^ j
theorem ag1:∀ i,i < 8→∀ j,j < 3→(bl i).set j (1 - (bl i).getD j 0)=bl (fl i j):=by
 have h:∀ i∈List.range 8,∀ j∈List.range 3,(bl i).set j (1 - (bl i).getD j 0)=bl (fl i j):=by decide +kernel
 exact fun i hi j hj=>h i (List.mem_range.mpr hi) j (List.mem_range.mpr hj)
theorem ahB (i j:Nat) (h:j < 3):fIx (.lst ((bl i).map .int)) (.int j)=some (.int ((bl i).getD j 0)):=by
 have:j=0∨j=1∨j=2:=by omega
 rcases this with rfl | rfl | rfl <;> rfl
theorem uM {o f g h:List Int} (ho:Gu 3 100 o) (hf:Gu 3 100 f) (hg:Gu 3 100 g) (hh:Gu 3 100 h) {R:SO} {AN F fs:List PV} {S:Sto} {c:Nat} (v:Fv S R AN F) (hc:S[c]?=some (.lst fs)) (c3:3≤c) (hl:fs.length≤100) {i j:Nat} (hi:i < 8) (hj:j < 3) (x2 x3 x5 x8:Option AV):∃ y8 S',s5K [some (.pv (tv o)),some (.pv (.lst [tv f,tv g,tv h])),x2,x3,some (.pv (.int j)),x5,some (.pv (.lst ((bl i).map .int))),some (.ref c),x8] S=.nx [some (.pv (tv o)),some (.pv (.lst [tv f,tv g,tv h])),x2,x3,some (.pv (.int j)),x5,some (.pv (.lst ((bl i).map .int))),some (.ref c),y8] S'∧Fv S' R AN F∧S'[c]?=some (.lst (fs++[tv (nn3 o f g h (fl i j))])):=by
 have cl:c < S.length:=(List.getElem?_eq_some_iff.mp hc).1
 have g1:(S++[SO.lst ((bl i).map .int)])[S.length]?=some (.lst ((bl i).map .int)):=List.getElem?_concat_length
 have es:((bl i).map PV.int).set j (.int (1 - (bl i).getD j 0))=(bl (fl i j)).map PV.int:=by rw [← List.map_set,ag1 i hi j hj]
 have ix:=ahB i j hj
 have hx:ixN ((bl i).map PV.int).length (j:Int)=some j:=by
  have:j=0∨j=1∨j=2:=by omega
  rcases this with rfl | rfl | rfl <;> rfl
 have g2:((S++[SO.lst ((bl i).map .int)]).set S.length (.lst ((bl (fl i j)).map .int)))[S.length]?=some (.lst ((bl (fl i j)).map .int)):=List.getElem?_set_self (by simp)
 have g3:((S++[SO.lst ((bl i).map .int)]).set S.length (.lst ((bl (fl i j)).map .int)))[c]?=some (.lst fs):=gs (gx hc) (by omega)
 have n1:=mW ho hf hg hh (fl i j) (a:=.ref S.length) (S:=(S++[SO.lst ((bl i).map .int)]).set S.length (.lst ((bl (fl i j)).map .int))) (by simp only [rd]; rw [g2])
 have lz:fs.length < 16777216:=by omega
 have v2:=(v.app (.lst ((bl i).map .int))).set v.len (.lst ((bl (fl i j)).map .int))
 refine ⟨some (.ref S.length),((S++[SO.lst ((bl i).map .int)]).set S.length (.lst ((bl (fl i j)).map .int))).set c (.lst (fs++[tv (nn3 o f g h (fl i j))])),?_,v2.set c3 _,List.getElem?_set_self (by simp; omega)⟩
 unfold s5K
 have ll:((bl i).map PV.int).length≤16777216:=by simp [bl]
 generalize (bl (fl i j)).map PV.int=B2 at *
 generalize (bl i).getD j 0=bb at *
 generalize (bl i).map PV.int=B1 at *
 have e1:aO [.lst B1]=some (.lst B1):=by simp [aO]
 generalize tv (nn3 o f g h (fl i j))=T1 at *
 generalize tv o=T4 at *
 generalize tv f=T5 at *
 generalize tv g=T6 at *
 generalize tv h=T7 at *
 have st1:(aM 8 (nS (aB (aA 6) aD))) [some (.pv T4),some (.pv (.lst [T5,T6,T7])),x2,x3,some (.pv (.int j)),x5,some (.pv (.lst B1)),some (.ref c),x8] S=.nx [some (.pv T4),some (.pv (.lst [T5,T6,T7])),x2,x3,some (.pv (.int j)),x5,some (.pv (.lst B1)),some (.ref c),some (.ref S.length)] (S++[.lst B1]):=by
  simp [EC,aQ,aN,aO,fEq,fNe,dF,aV,aT,aS,aU,aI,aW,frz,aR,nS,wL,e1]
 generalize S++[SO.lst B1]=S1 at *
 have st2:(gM (aA 8) (aA 4) (aC dR (mC (.int 1)) (aC fIx (aA 8) (aA 4)))) [some (.pv T4),some (.pv (.lst [T5,T6,T7])),x2,x3,some (.pv (.int j)),x5,some (.pv (.lst B1)),some (.ref c),some (.ref S.length)] S1=.nx [some (.pv T4),some (.pv (.lst [T5,T6,T7])),x2,x3,some (.pv (.int j)),x5,some (.pv (.lst B1)),some (.ref c),some (.ref S.length)] (S1.set S.length (.lst B2)):=by
  simp [EC,aQ,aN,aO,fEq,fNe,dF,aV,aT,aS,aU,aI,aW,frz,aR,gM,jR,eC,g1,ix,hx,es]
 generalize S1.set S.length (.lst B2)=S2 at *
 rw [aK,st1]
 dsimp only
 rw [aK,st2]
 simp [EC,aQ,aN,aO,fEq,fNe,dF,aV,aT,aS,aU,aI,aW,frz,aR,n1,eI,eC,iS,g3,lz]
theorem af5 {o f g h:List Int} (ho:Gu 3 100 o) (hf:Gu 3 100 f) (hg:Gu 3 100 g) (hh:Gu 3 100 h) {R:SO} {AN F:List PV} {S:Sto} (v:Fv S R AN F) (hF:F.length≤90) {i:Nat} (hi:i < 8) {od:Int} (hd:odd od i=false) (x3 x4 x7 x8:Option AV):∃ y4 y7 y8 S',s5O [some (.pv (tv o)),some (.pv (.lst [tv f,tv g,tv h])),some (.pv (.int od)),x3,x4,some (.ref 2),some (.pv (.lst ((bl i).map .int))),x7,x8] S=.nx [some (.pv (tv o)),some (.pv (.lst [tv f,tv g,tv h])),some (.pv (.int od)),x3,y4,some (.ref 2),some (.pv (.lst ((bl i).map .int))),y7,y8] S'∧Fv S' R AN (F++[px (sx4 (nn3 o f g h) (i,fl i 0,fl i 1,fl i 2))]):=by
 have n1:=mW ho hf hg hh i (a:=.pv (.lst ((bl i).map .int))) (S:=S) rfl
 have v1:=v.app (.lst [tv (nn3 o f g h i)])
 have c1:(S++[SO.lst [tv (nn3 o f g h i)]])[S.length]?=some (.lst [tv (nn3 o f g h i)]):=List.getElem?_concat_length
 obtain ⟨a8,S2,e2,v2,c2⟩:=uM ho hf hg hh v1 c1 v.len (by simp) hi (j:=0) (by decide) (some (.pv (.int od))) x3 (some (.ref 2)) x8
 obtain ⟨b8,S3,e3,v3,c3⟩:=uM ho hf hg hh v2 c2 v.len (by simp) hi (j:=1) (by decide) (some (.pv (.int od))) x3 (some (.ref 2)) a8
 obtain ⟨d8,S4,e4,v4,c4⟩:=uM ho hf hg hh v3 c3 v.len (by simp) hi (j:=2) (by decide) (some (.pv (.int od))) x3 (some (.ref 2)) b8
 simp only [List.cons_append,List.nil_append] at c2 c3 c4
 have s1:=adH ho hf hg hh i (fl i 0) (fl i 1) (fl i 2) (a:=.ref S.length) S4 (by simp only [rd]; rw [c4])
 have q1:=oN (bl i)
 have q2:cE (.int (bl i).sum) (.int 2)=some (.int ((bl i).sum.fmod 2)):=fY (by decide)
 have q3:((bl i).sum.fmod 2 == od)=false:=hd
 have lz:F.length < 16777216:=by omega
 have r3:=(gF (S++[SO.lst [tv (nn3 o f g h i)]])).2.1
 have h2:=v4.h2
 refine ⟨some (.pv (.int 2)),some (.ref S.length),d8,S4.set 2 (.lst (F++[px (sx4 (nn3 o f g h) (i,fl i 0,fl i 1,fl i 2))])),?_,⟨gs v4.h0 (by decide),gs v4.h1 (by decide),List.getElem?_set_self v4.len⟩⟩
 unfold s5O
 clear v v1 v2 v3 v4 c1 c2 c3 c4
 simp only [Int.ofNat_eq_natCast,show ((0:Nat):Int)=0 from rfl,show ((1:Nat):Int)=1 from rfl,show ((2:Nat):Int)=2 from rfl] at e2 e3 e4
 generalize (bl i).map PV.int=B1 at *
 generalize (bl i).sum=B2 at *
 generalize px (sx4 (nn3 o f g h) (i,fl i 0,fl i 1,fl i 2))=X at *
 generalize tv (nn3 o f g h i)=T1 at *
 generalize tv o=T4 at *
 generalize tv f=T5 at *
 generalize tv g=T6 at *
 generalize tv h=T7 at *
 generalize s5K=LB at *
 have st1:(aM 7 (fN (aB (aL cR [] (aB (aA 0) (aB (aA 1) (aB (aA 6) aD)))) aD))) [some (.pv T4),some (.pv (.lst [T5,T6,T7])),some (.pv (.int od)),x3,x4,some (.ref 2),some (.pv (.lst B1)),x7,x8] S=.nx [some (.pv T4),some (.pv (.lst [T5,T6,T7])),some (.pv (.int od)),x3,x4,some (.ref 2),some (.pv (.lst B1)),some (.ref S.length),x8] (S++[.lst [T1]]):=by
  simp [EC,aQ,aN,aO,fEq,fNe,dF,aV,aT,aS,aU,aI,aW,frz,aR,fN,lU,n1]
 generalize S++[SO.lst [T1]]=S1 at *
 have st2:(bU (bJ (aB (mC (.int 3)) aD)) (gN 4) LB) [some (.pv T4),some (.pv (.lst [T5,T6,T7])),some (.pv (.int od)),x3,x4,some (.ref 2),some (.pv (.lst B1)),some (.ref S.length),x8] S1=.nx [some (.pv T4),some (.pv (.lst [T5,T6,T7])),some (.pv (.int od)),x3,some (.pv (.int 2)),some (.ref 2),some (.pv (.lst B1)),some (.ref S.length),d8] S4:=by
  simp [EC,aQ,aN,aO,fEq,fNe,dF,aV,aT,aS,aU,aI,aW,frz,aR,bU,bJ,r3,eJ,eO,gN,e2,e3,e4]
 have st3:(eB (eI (aA 5) (aB (aL dZ [] (aB (aA 7) aD)) aD))) [some (.pv T4),some (.pv (.lst [T5,T6,T7])),some (.pv (.int od)),x3,some (.pv (.int 2)),some (.ref 2),some (.pv (.lst B1)),some (.ref S.length),d8] S4=.nx [some (.pv T4),some (.pv (.lst [T5,T6,T7])),some (.pv (.int od)),x3,some (.pv (.int 2)),some (.ref 2),some (.pv (.lst B1)),some (.ref S.length),d8] (S4.set 2 (.lst (F++[X]))):=by
  simp [EC,aQ,aN,aO,fEq,fNe,dF,aV,aT,aS,aU,aI,aW,frz,aR,s1,eI,eC,iS,h2,lz]
 have tt:(bK (aC fNe (aC cE (mR iH (aB (aA 6) aD)) (mC (.int 2))) (aA 2))) [some (.pv T4),some (.pv (.lst [T5,T6,T7])),some (.pv (.int od)),x3,x4,some (.ref 2),some (.pv (.lst B1)),x7,x8] S=.ok true S:=by
  simp [EC,aQ,aN,aO,fEq,fNe,dF,aV,aT,aS,aU,aI,aW,frz,aR,q1,q2,q3]
 rw [sIf,tt]
 show aK _ _ _ S=_
 rw [aK,st1]
 dsimp only
 rw [aK,st2]
 exact st3
theorem afO {i:Nat} {od:Int} (hd:odd od i=true) {S:Sto} (a b x3 x4 x5 x7 x8:Option AV):s5O [a,b,some (.pv (.int od)),x3,x4,x5,some (.pv (.lst ((bl i).map .int))),x7,x8] S=.nx [a,b,some (.pv (.int od)),x3,x4,x5,some (.pv (.lst ((bl i).map .int))),x7,x8] S:=by
 have q1:=oN (bl i)
 have q2:cE (.int (bl i).sum) (.int 2)=some (.int ((bl i).sum.fmod 2)):=fY (by decide)
 have q3:((bl i).sum.fmod 2 == od)=true:=hd
 unfold s5O
 generalize (bl i).map PV.int=B1 at *
 generalize (bl i).sum=B2 at *
 simp [EC,aQ,aN,aO,fEq,fNe,dF,aV,aT,aS,aU,aI,aW,frz,aR,q1,q2,q3]
theorem uN {o f g h:List Int} (ho:Gu 3 100 o) (hf:Gu 3 100 f) (hg:Gu 3 100 g) (hh:Gu 3 100 h) {R:SO} {AN:List PV} (od:Int) (x3:Option AV):∀ (is:List Nat) (F:List PV) (S:Sto) (x4 x6 x7 x8:Option AV),Fv S R AN F→F.length+is.length≤90→(∀ i∈is,i < 8)→∃ y4 y6 y7 y8 S',bZ [(1,AN)] (gN 6) s5O (fJ is) [some (.pv (tv o)),some (.pv (.lst [tv f,tv g,tv h])),some (.pv (.int od)),x3,x4,some (.ref 2),x6,x7,x8] S=.nx [some (.pv (tv o)),some (.pv (.lst [tv f,tv g,tv h])),some (.pv (.int od)),x3,y4,some (.ref 2),y6,y7,y8] S'∧Fv S' R AN (F++((is.filter fun i=>!odd od i).map fun i=>px (sx4 (nn3 o f g h) (i,fl i 0,fl i 1,fl i 2))))
 | [],F,S,x4,x6,x7,x8,v,_,_=>by
  refine ⟨x4,x6,x7,x8,S,?_,by simpa using v⟩
  unfold fJ
  rw [List.map_nil,acB fun z hz=>by
   simp at hz
   subst hz
   exact v.h1]
 | i :: is,F,S,x4,x6,x7,x8,v,hF,hi=>by
  have hF:F.length+(is.length+1)≤90:=hF
  have hG:gOk [(1,AN)] S:=fun z hz=>by
   simp at hz
   subst hz
   exact v.h1
  show ∃ y4 y6 y7 y8 S',bZ _ _ _ (.lst ((bl i).map .int) :: fJ is) _ S=_∧_
  rw [ad8 hG]
  simp only [gN,List.set_cons_succ,List.set_cons_zero]
  by_cases c:odd od i=true
  ·obtain ⟨y4,y6,y7,y8,S',e,v'⟩:=uN ho hf hg hh (R:=R) (AN:=AN) od x3 is F S x4 (some (.pv (.lst ((bl i).map .int)))) x7 x8 v (by omega) fun j hj=>hi j (List.mem_cons_of_mem _ hj)
   rw [afO c]
   refine ⟨y4,y6,y7,y8,S',e,?_⟩
   rw [List.filter_cons_of_neg (by simp [c])]
   exact v'
  ·have c0:odd od i=false:=by simpa using c
   obtain ⟨a4,a7,a8,S1,e1,v1⟩:=af5 ho hf hg hh v (by omega) (hi i List.mem_cons_self) c0 x3 x4 x7 x8
   obtain ⟨y4,y6,y7,y8,S',e,v'⟩:=uN ho hf hg hh (R:=R) (AN:=AN) od x3 is _ S1 a4 (some (.pv (.lst ((bl i).map .int)))) a7 a8 v1 (by simp; omega) fun j hj=>hi j (List.mem_cons_of_mem _ hj)
   rw [e1]
   refine ⟨y4,y6,y7,y8,S',e,?_⟩
   rw [List.filter_cons_of_pos (by simp [c0])]
   simpa using v'
theorem abh (nd:Nat→List Int) {od:Int} (h:od=0∨od=1):(∃ a b c d,(List.range 8).filter (odd od)=[a,b,c,d]∧sx4 nd (a,b,c,d) :: (((List.range 8).filter fun i=>!odd od i).map fun i=>sx4 nd (i,fl i 0,fl i 1,fl i 2))=(ix5 od).map (sx4 nd)):=by
 rcases h with rfl | rfl
 ·refine ⟨0,3,5,6,by decide +kernel,?_⟩
  have e:(List.range 8).filter (fun i=>!odd 0 i)=[1,2,4,7]:=by decide +kernel
  have e2:[1,2,4,7].map (fun i=>(i,fl i 0,fl i 1,fl i 2))=[(1,0,3,5),(2,3,0,6),(4,5,6,0),(7,6,5,3)]:=by decide +kernel
  rw [e,show (fun i=>sx4 nd (i,fl i 0,fl i 1,fl i 2))=sx4 nd ∘ (fun i=>(i,fl i 0,fl i 1,fl i 2)) from rfl,← List.map_map,e2]
  rfl
 ·refine ⟨1,2,4,7,by decide +kernel,?_⟩
  have e:(List.range 8).filter (fun i=>!odd 1 i)=[0,3,5,6]:=by decide +kernel
  have e2:[0,3,5,6].map (fun i=>(i,fl i 0,fl i 1,fl i 2))=[(0,1,2,4),(3,2,1,7),(5,4,7,1),(6,7,4,2)]:=by decide +kernel
  rw [e,show (fun i=>sx4 nd (i,fl i 0,fl i 1,fl i 2))=sx4 nd ∘ (fun i=>(i,fl i 0,fl i 1,fl i 2)) from rfl,← List.map_map,e2]
  rfl
theorem aeE {o f g h:List Int} (ho:Gu 3 100 o) (hf:Gu 3 100 f) (hg:Gu 3 100 g) (hh:Gu 3 100 h) (R:SO) {od:Int} (h01:od=0∨od=1):jC [.pv (tv o),.pv (.lst [tv f,tv g,tv h]),.pv (.int od)] [R]=.ok (.ref 1) [R,.lst (((ix5 od).map (sx4 (nn3 o f g h))).map px)]:=by
 obtain ⟨a,b,c,d,ef,el⟩:=abh (nn3 o f g h) h01
 obtain ⟨y4,e1⟩:=abH (R:=R) (a:=some (.pv (tv o))) (b:=some (.pv (.lst [tv f,tv g,tv h]))) (c:=some (.pv (.int od))) none none none none (List.range 8) [] none (by simp) (by simp)
 rw [List.nil_append] at e1
 have hG:gOk [(1,fJ (List.range 8))] [R,.lst (fJ (List.range 8))]:=fun z hz=>by
  simp at hz
  subst hz
  rfl
 have e2:=zO ho hf hg hh hG od (List.range 8) none
 rw [ef] at e2
 have s1:=agj ho hf hg hh a b c d [R,.lst (fJ (List.range 8))]
 obtain ⟨z4,z6,z7,z8,S',e3,v⟩:=uN ho hf hg hh (R:=R) (AN:=fJ (List.range 8)) od (some (.ref 1)) (List.range 8) [px (sx4 (nn3 o f g h) (a,b,c,d))] [R,.lst (fJ (List.range 8)),.lst [px (sx4 (nn3 o f g h) (a,b,c,d))]] y4 none none none ⟨rfl,rfl,rfl⟩ (by simp) (by simp)
 have hv:[px (sx4 (nn3 o f g h) (a,b,c,d))]++(((List.range 8).filter fun i=>!odd od i).map fun i=>px (sx4 (nn3 o f g h) (i,fl i 0,fl i 1,fl i 2)))=((ix5 od).map (sx4 (nn3 o f g h))).map px:=by
  rw [← el,List.map_cons,List.map_map]
  rfl
 rw [hv] at v
 have r8:=(gF [R,.lst []]).2.2
 have er:[PV.int 0,.int 1,.int 2,.int 3,.int 4,.int 5,.int 6,.int 7]=(List.range 8).map fun i=>.int ((i:Nat):Int):=rfl
 rw [er] at r8
 have tk:S'.take 1=[R]:=by
  have h0:=v.h0
  match S',h0 with
  | x :: _,h0=>simp at h0; subst h0; rfl
 have hb:tX=(aK (aM 3 (fN aD))
 (aK (bU (bJ (aB (mC (.int 8)) aD)) (gN 4) s5A)
 (aK (aM 5 (fN (aB (aL dZ [] (aB (lO ["_law_at"] [(0,"_law_o"),(1,"_law_ways"),(2,"_law_odd")] (mIt (aA 3)) (gN 0) (bK (aC fEq (aC cE (mR iH (aB (aA 0) aD)) (mC (.int 2))) (aA 3))) (aL cR [] (aB (aA 1) (aB (aA 2) (aB (aA 0) aD))))) aD)) aD)))
 (aK (bU (mIt (aA 3)) (gN 6) s5O)
 (bP (aA 5)))))):=rfl
 have h2:=v.h2
 unfold jC fnM
 rw [hb]
 simp only [List.map_cons,List.map_nil] at e2
 clear v hv el ef hG er
 generalize ((ix5 od).map (sx4 (nn3 o f g h))).map px=XL at *
 generalize px (sx4 (nn3 o f g h) (a,b,c,d))=X at *
 generalize tv (nn3 o f g h a)=T0 at *
 generalize tv (nn3 o f g h b)=T1 at *
 generalize tv (nn3 o f g h c)=T2 at *
 generalize tv (nn3 o f g h d)=T3 at *
 generalize tv o=T4 at *
 generalize tv f=T5 at *
 generalize tv g=T6 at *
 generalize tv h=T7 at *
 generalize (List.range 8).map (fun i=>PV.int ((i:Nat):Int))=IL at *
 generalize fJ (List.range 8)=NL at *
 generalize s5O=LB at *
 generalize s5A=LA at *
 simp [EC,aQ,aN,aO,fIx,atI,ixN,fEq,fNe,eqN,aV,aT,aS,aU,aI,aW,frz,aR,fN,lU,bU,bJ,r8,e1,lO,mIt,cN,cD,e2,s1,e3,h2,tk]
theorem afG {a b e a' b' e':Int} (S:Sto) (ha:Bd 1000 a) (hb:Bd 1000 b) (ha':Bd 1000 a') (hb':Bd 1000 b'):eX [.pv (.lst [v2 a b e,v2 a' b' e'])] S=.ok (.pv (.int (d2 a b a' b'))) S:=by
 have m1:=mBB ha hb'
 have m2:=mBB hb ha'
 unfold d2
 unfold eX fnM lJ
 simp [EC,aQ,aN,aO,fIx,atI,ixN,fEq,fNe,eqN,aV,aT,aS,aU,aI,aW,frz,aR,m1,m2]
theorem afd {a b c e a' b' c' e' a'' b'' c'' e'':Int} (S:Sto) (p:P3 a b c e) (q:P3 a' b' c' e') (r:P3 a'' b'' c'' e''):eX [.pv (.lst [v3 a b c e,v3 a' b' c' e',v3 a'' b'' c'' e''])] S=.ok (.pv (.int (d3 a b c a' b' c' a'' b'' c''))) S:=by
 have m1:=mBB p.by_ q.bz
 have m2:=mBB p.bz q.by_
 have m3:=mBB p.bz q.bx
 have m4:=mBB p.bx q.bz
 have m5:=mBB p.bx q.by_
 have m6:=mBB p.by_ q.bx
 have e1:jX [.pv (v3 a b c e),.pv (v3 a' b' c' e')] S=.ok (.pv (.lst [.int (b*c' - c*b'),.int (c*a' - a*c'),.int (a*b' - b*a')])) S:=by
  unfold jX fnM oW
  simp [EC,aQ,aN,aO,fIx,atI,ixN,fEq,fNe,eqN,aV,aT,aS,aU,aI,aW,frz,aR,m1,m2,m3,m4,m5,m6]
 have mm:∀ {x y z t:Int},Bd 1000 x→Bd 1000 y→Bd 1000 z→Bd 1000 t→Bd 100000 (x*y - z*t):=fun p q r s=>(((p.mul q).mono (show 1000+1000≤3000 by decide)).sub ((r.mul s).mono (show 1000+1000≤3000 by decide))).mono (by decide)
 have e2:=abS (A:=.lst ([b*c' - c*b',c*a' - a*c',a*b' - b*a'].map .int)) (B:=.tup ([a'',b'',c'',e''].map .int)) S (.inl rfl) (.inr rfl) (by
  simp
  exact ⟨mm p.by_ q.bz p.bz q.by_,mm p.bz q.bx p.bx q.bz,mm p.bx q.by_ p.by_ q.bx⟩) (by
  simp
  exact ⟨r.bx.mono (by decide),r.by_.mono (by decide),r.bz.mono (by decide),r.bw.mono (by decide)⟩)
 rw [ain] at e2
 simp only [List.map_cons,List.map_nil] at e2
 show _=Res.ok (AV.pv (.int ((b*c' - c*b')*a''+(c*a' - a*c')*b''+(a*b' - b*a')*c''))) S
 generalize (b*c' - c*b')*a''+(c*a' - a*c')*b''+(a*b' - b*a')*c''=D at *
 generalize b*c' - c*b'=U at *
 generalize c*a' - a*c'=V at *
 generalize a*b' - b*a'=Q at *
 unfold eX fnM lJ
 simp [EC,aQ,aN,aO,fIx,atI,ixN,fEq,fNe,eqN,aV,aT,aS,aU,aI,aW,frz,aR,e1,e2]
theorem mX {n:Nat} (hn:n=2∨n=3) {A B:PV} {hs gs:List (List (List Int))} (hA:Sv A (hs.map px)) (hB:Sv B (gs.map px)) (h:∀ u∈hs,Sx n 900 u) (g:∀ u∈gs,Sx n 900 u) (lh:hs.length≤1000) (lg:gs.length≤1000) {t:Bool} (ht:t=true↔∀ k,HS hs k=HS gs k):fI [.pv A,.pv B] []=.ok (.pv (.bl t)) []:=by
 have pc:∀ u,Sx n 900 u→Pc u:=fun u s=>ahm hn (by decide) s.len s.gu s.nz
 obtain ⟨b,e,hb⟩:=aey hA hB (fun u hu=>pc u (h u hu)) (fun u hu=>pc u (g u hu)) lh lg
 have eb:b=t:=by
  rw [Bool.eq_iff_iff,hb,ht]
  refine forall_congr' fun k=>?_
  rw [mO,vZ fun u hu=>lZ hn (h u hu).len,vZ fun u hu=>lZ hn (g u hu).len]
  omega
 rw [e,eb]
def tB:MS:=(aK (aM 7 (aC aI (mC (.int 1)) (aL cV [] (aB (aA 1) (aB (mC (.int 3)) aD)))))
 (aK (aM 8 (aC mH (aA 5) (aA 7)))
 (aK (aM 9 (pX (aA 6) (aA 7)))
 (aK (sIf (mOr (bK (aC (fIs true) (gK fI (aB (aL iY [] (aB (aA 1) (aB (aA 8) aD))) (aB (aA 9) aD))) (mC (.bl true)))) (bK (aC (fIs true) (gK fI (aB (aA 9) (aB (aL iY [] (aB (aA 1) (aB (aA 8) aD))) aD))) (mC (.bl true))))) (bP (mC (.bl false))) dA)
 (aK (sIf (mOr (bK (aC (fIs true) (gK fI (aB (mN dH aD) (aB (aA 9) aD))) (mC (.bl false)))) (bK (aC (fIs true) (gK fI (aB (mN dH aD) (aB (mN dH aD) aD))) (mC (.bl true))))) (bP (mC (.bl false))) dA)
 (aK (aM 10 (aL cV [] (aB (aA 1) (aB (mR dB (aB (aA 9) aD)) aD))))
 (aK (gM (aA 9) (aA 10) (aC fIx (aA 5) (aL cV [] (aB (aA 1) (aB (mR dB (aB (aA 5) aD)) aD)))))
 (bP (aC (fIs false) (gK fI (aB (aA 8) (aB (aA 9) aD))) (mC (.bl false)))))))))))
theorem adO (hs:List (List (List Int))) {m:Int} (h0:0≤m) (h1:m≤3) (hl:hs.length≤6):mH (.lst (hs.map px)) (.int m)=some (.lst ((List.replicate m.toNat hs).flatten.map px)):=by
 rw [tT,if_pos ⟨by omega,by omega,by
  rw [List.length_map]
  have:hs.length*m.toNat≤6*3:=Nat.mul_le_mul hl (by omega)
  omega⟩,wR,List.map_flatten,List.map_replicate]
theorem acf (hs:List (List (List Int))) {m:Nat} (h1:m≤3) (hl:hs.length≤6):(List.replicate m hs).flatten.length≤18∧(0 < m→0 < hs.length→0 < (List.replicate m hs).flatten.length):=by
 rw [List.length_flatten,List.map_replicate,List.sum_replicate_nat]
 exact ⟨Nat.mul_le_mul h1 hl,fun a b=>Nat.mul_pos a b⟩
theorem tI {hs:List (List (List Int))} {m:Nat} {u:List (List Int)} (h:u∈(List.replicate m hs).flatten):u∈hs:=by
 obtain ⟨l,hl,hu⟩:=List.mem_flatten.mp h
 rw [List.eq_of_mem_replicate hl] at hu
 exact hu
theorem abo {n:Nat} (hn:n=2∨n=3) {one other:List (List (List Int))} (C:Cor n one other) (ns:List Int) (x0 x2 x3 x4:Option AV):∃ S',tB [x0,some (.ref 0),x2,x3,x4,some (.pv (.lst (one.map px))),some (.pv (.lst (other.map px))),none,none,none,none] [.lst (ns.map .int)]=.rt (.pv (.bl true)) S':=by
 have hr:∀ (k:List Int) (T:Sto),Row (.lst (k.map .int) :: T) 0 k:=fun _ _=>rfl
 obtain ⟨m,n1,e1,m0,m1,_⟩:=iJ (m:=3) (hr ns []) (by decide) (sm8 (by decide) (by decide))
 simp only [List.set_cons_zero] at e1
 have r1:=adO one (m:=1+m) (by omega) (by omega) C.l1
 have r2:=adO other (m:=1+m) (by omega) (by omega) C.l2
 have mt:(1+m).toNat≤3∧0 < (1+m).toNat:=by omega
 obtain ⟨ll,_⟩:=acf one mt.1 C.l1
 obtain ⟨lr,pr⟩:=acf other mt.1 C.l2
 have pr:=pr mt.2 C.p2
 have sL:∀ u∈(List.replicate (1+m).toNat one).flatten,Sx n 900 u:=fun u hu=>C.s1 u (tI hu)
 have sR:∀ u∈(List.replicate (1+m).toNat other).flatten,Sx n 900 u:=fun u hu=>C.s2 u (tI hu)
 have mR:∀ u∈(List.replicate (1+m).toNat other).flatten,u∈other:=fun u hu=>tI hu
 have hL:=fun k=>uG one k (1+m).toNat
 have hR:=fun k=>uG other k (1+m).toNat
 have eLR:∀ k,HS (List.replicate (1+m).toNat one).flatten k=HS (List.replicate (1+m).toNat other).flatten k:=fun k=>by rw [hL,hR,C.eq]
 have nR:¬ ∀ k,HS [] k=HS (List.replicate (1+m).toNat other).flatten k:=fun h=>by
  obtain ⟨k,hk⟩:=C.lone
  have:=h k
  rw [hR] at this
  have z:(((1+m).toNat:Nat):Int)*HS other k=0:=this.symm
  rcases Int.mul_eq_zero.mp z with g | g
  ·omega
  ·exact hk g
 clear hL hR mt
 generalize (List.replicate (1+m).toNat one).flatten=left at *
 generalize (List.replicate (1+m).toNat other).flatten=right at *
 obtain ⟨A,n2,e2,hA⟩:=aaH (L:=left.map px) (hr n1 [.lst (right.map px)])
 obtain ⟨A2,n3,e3,hA2⟩:=aaH (L:=left.map px) (hr n2 [.lst (right.map px)])
 simp only [List.set_cons_zero] at e2 e3
 have b8:∀ {j:Int},0≤j→j≤100→Bd 8000 j:=fun h0 h1=>sm8 h0 (by omega)
 have pr':(0:Int) < ((right.map px).length:Int):=by rw [List.length_map]; omega
 obtain ⟨a,n4,e4,a0,a1,_⟩:=iJ (m:=((right.map px).length:Int)) (hr n3 [.lst (right.map px)]) pr' (b8 (by omega) (by rw [List.length_map]; omega))
 have po':(0:Int) < ((one.map px).length:Int):=by rw [List.length_map]; have:=C.p1; omega
 obtain ⟨j,n5,e5,j0,j1,_⟩:=iJ (m:=((one.map px).length:Int)) (hr n4 [.lst (right.map px)]) po' (b8 (by omega) (by rw [List.length_map]; have:=C.l1; omega))
 simp only [List.set_cons_zero] at e4 e5
 obtain ⟨jn,rfl⟩:∃ jn:Nat,j=jn:=⟨j.toNat,by omega⟩
 obtain ⟨an,rfl⟩:∃ an:Nat,a=an:=⟨a.toNat,by omega⟩
 rw [List.length_map] at j1 a1
 have jl:jn < one.length:=by omega
 have al:an < right.length:=by omega
 have ix:fIx (.lst (one.map px)) (.int (jn:Int))=some (px one[jn]):=mT (by rw [List.getElem?_map,List.getElem?_eq_getElem jl]; rfl)
 have hx:ixN (right.map px).length (an:Int)=some an:=by
  unfold ixN
  rw [if_pos (by omega),if_pos (by rw [List.length_map]; omega)]
  simp
 have es:(right.map px).set an (px one[jn])=(right.set an one[jn]).map px:=by rw [List.map_set]
 have s1:=mX hn (t:=true) hA (B:=.lst (right.map px)) (.inl rfl) sL sR (by omega) (by omega) (by simpa using eLR)
 have s2:=mX hn (t:=true) (A:=.lst (right.map px)) (.inl rfl) hA2 sR sL (by omega) (by omega) (by simpa using fun k=>(eLR k).symm)
 have s3:=mX hn (t:=false) (A:=.tup []) (hs:=[]) (B:=.lst (right.map px)) (.inr rfl) (.inl rfl) (by simp) sR (by simp) (by omega) (by simpa using nR)
 have s4:=mX hn (t:=true) (A:=.tup []) (hs:=[]) (B:=.tup []) (gs:=[]) (.inr rfl) (.inr rfl) (by simp) (by simp) (by simp) (by simp) (by simp)
 have s5:=mX hn (t:=false) (A:=.lst (left.map px)) (B:=.lst ((right.set an one[jn]).map px)) (.inl rfl) (.inl rfl) sL (fun u hu=>by
  rcases List.mem_or_eq_of_mem_set hu with h | h
  ·exact sR u h
  ·exact h ▸ C.s1 _ (List.getElem_mem jl)) (by omega) (by rw [List.length_set]; omega) (by
  refine ⟨fun h=>(by cases h),fun h=>?_⟩
  obtain ⟨v,v1,v2⟩:=C.ne one[jn] (List.getElem_mem jl) right[an] (mR _ (List.getElem_mem al))
  obtain ⟨x,y,hy⟩:=(C.s1 one[jn] (List.getElem_mem jl)).yes hn v1
  have:=h [x,y,v]
  rw [adD (List.getElem?_eq_getElem al),eLR,iR (uss:=right[an]) v2] at this
  omega)
 rw [← es] at s5
 refine ⟨[.lst (n5.map .int),.lst ((right.map px).set an (px one[jn]))],?_⟩
 unfold tB
 clear hA hA2 sL sR mR eLR nR es lr ll
 generalize px one[jn]=X at *
 generalize one.map px=OL at *
 generalize other.map px=TL at *
 generalize left.map px=LL at *
 generalize right.map px=RL at *
 simp [EC,aQ,aN,aO,fEq,fNe,dF,aV,aT,aS,aU,aI,aW,frz,aR,e1,r1,r2,pX,gK,e2,e3,s1,s2,s3,s4,fIs,noL,e4,e5,gM,jR,eC,ix,hx,s5]
def wB:MS:=(aK (aM 3 (aL eG [] (aB (aA 1) (aB (aA 2) aD))))
 (aK (aM 4 (bF ["_law_k"] [(1,"_law_row_here"),(2,"_law_dims")] (bJ (aB (aA 2) aD)) (gN 0) (aL eG [] (aB (aA 1) (aB (aA 2) aD)))))
 (aK (sIf (bK (aC fEq (aL eX [] (aB (aA 4) aD)) (mC (.int 0)))) (aM 4 (bF ["_law_k"] [(2,"_law_dims")] (bJ (aB (aA 2) aD)) (gN 0) (mR aN (aB (aC aI (bF ["_law_m"] [(0,"_law_k")] (bJ (aB (aA 1) aD)) (gN 0) (mR eE (aB (aC fEq (aA 0) (aA 1)) aD))) (mN cA (aB (aC aI (mC (.int 1)) (aA 0)) aD))) aD)))) dA)
 (aK (sIf (bK (aC fEq (aA 2) (mC (.int 2)))) (kR (gT 2 (bT (gN 5) (bT (gN 6) dD))) (aL iU [] (aB (aA 3) (aB (aA 4) aD)))) (aK (aM 5 (aL jD [] (aB (aA 3) (aB (aA 4) aD))))
 (aM 6 (aL jC [] (aB (aA 3) (aB (aA 4) (aB (aL cV [] (aB (aA 1) (aB (mC (.int 2)) aD))) aD)))))))
 tB))))
theorem kN {n k:Nat} {v:PV} (h:Gp n k v):∃ us,v=tv us∧Gu n k us:=by
 obtain ⟨xs,w,e,P⟩:=h
 exact ⟨xs++[w],e,xs,w,rfl,P⟩
theorem aiA (S:Sto):bY [] (gN 0) ((mR aN (aB (aC aI (bF ["_law_m"] [(0,"_law_k")] (bJ (aB (aA 1) aD)) (gN 0) (mR eE (aB (aC fEq (aA 0) (aA 1)) aD))) (mN cA (aB (aC aI (mC (.int 1)) (aA 0)) aD))) aD))) [.int 0,.int 1] [none,some (.pv (.int 2))] S=.ok [tv [1,0,1],tv [0,1,2]] S:=by
 have r:=(gF S).1
 simp [EC,aQ,aN,aO,fIx,atI,ixN,fEq,fNe,eqN,aV,aT,aS,aU,aI,aW,frz,aR,eF,eA,gN,bF,cD,bJ,r,eE]
theorem aie (S:Sto):bY [] (gN 0) ((mR aN (aB (aC aI (bF ["_law_m"] [(0,"_law_k")] (bJ (aB (aA 1) aD)) (gN 0) (mR eE (aB (aC fEq (aA 0) (aA 1)) aD))) (mN cA (aB (aC aI (mC (.int 1)) (aA 0)) aD))) aD))) [.int 0,.int 1,.int 2] [none,some (.pv (.int 3))] S=.ok [tv [1,0,0,1],tv [0,1,0,2],tv [0,0,1,3]] S:=by
 have r:=(gF S).2.1
 simp [EC,aQ,aN,aO,fIx,atI,ixN,fEq,fNe,eqN,aV,aT,aS,aU,aI,aW,frz,aR,eF,eA,gN,bF,cD,bJ,r,eE]
theorem nF {n:Nat} {xs:List Int} {w:Int} (hl:xs.length=n) (hw:0 < w) (hlow:low (xs++[w])=xs++[w]) (hb:∀ x∈xs,Bd 100 x) (bw:Bd 100 w):Gu n 100 (xs++[w]):=⟨xs,w,rfl,hl,hw,hlow,hb,bw⟩
theorem bd4 {j:Int} (h:j.natAbs≤4):Bd 100 j:=(Bd.of (n:=4) h (by decide):Bd 4 j).mono (by decide)
theorem aho (ms:List Int) (x0:Option AV):∃ S',wB [x0,some (.ref 0),some (.pv (.int 2)),none,none,none,none,none,none,none,none] [.lst (ms.map .int)]=.rt (.pv (.bl true)) S':=by
 have hr:∀ (k:List Int) (T:Sto),Row (.lst (k.map .int) :: T) 0 k:=fun _ _=>rfl
 obtain ⟨v,n1,e1,G⟩:=ahG 2 (.inl rfl) (hr ms [])
 obtain ⟨o,rfl,ho⟩:=kN G
 obtain ⟨ps,n2,e2,l2,g2⟩:=sK (n:=2) (.inl rfl) [.int 0,.int 1] [.lst (n1.map .int)] n1 none (hr n1 [])
 simp only [List.set_cons_zero] at e1 e2
 match ps,l2 with
 | [p,q],_ =>
  obtain ⟨f,rfl,hf⟩:=kN (g2 p (by simp))
  obtain ⟨g,rfl,hg⟩:=kN (g2 q (by simp))
  have r:=(gF [.lst (n1.map .int)]).1
  have key:∃ f' g':List Int,Gu 2 100 f'∧Gu 2 100 g'∧(∃ a b e a' b' e',f'=[a,b,e]∧g'=[a',b',e']∧d2 a b a' b'≠0)∧(sIf (bK (aC fEq (aL eX [] (aB (aA 4) aD)) (mC (.int 0)))) (aM 4 (bF ["_law_k"] [(2,"_law_dims")] (bJ (aB (aA 2) aD)) (gN 0) ((mR aN (aB (aC aI (bF ["_law_m"] [(0,"_law_k")] (bJ (aB (aA 1) aD)) (gN 0) (mR eE (aB (aC fEq (aA 0) (aA 1)) aD))) (mN cA (aB (aC aI (mC (.int 1)) (aA 0)) aD))) aD))))) dA) [x0,some (.ref 0),some (.pv (.int 2)),some (.pv (tv o)),some (.pv (.lst [tv f,tv g])),none,none,none,none,none,none] [.lst (n2.map .int)]=.nx [x0,some (.ref 0),some (.pv (.int 2)),some (.pv (tv o)),some (.pv (.lst [tv f',tv g'])),none,none,none,none,none,none] [.lst (n2.map .int)]:=by
   obtain ⟨a,b,e,rfl,P⟩:=hf.two (by decide)
   obtain ⟨a',b',e',rfl,Q⟩:=hg.two (by decide)
   have t:=afG (e:=e) (e':=e') [.lst (n2.map .int)] P.bx P.by_ Q.bx Q.by_
   by_cases z:d2 a b a' b'=0
   ·refine ⟨[1,0,1],[0,1,2],nF (xs:=[1,0]) rfl (by decide) (by decide +kernel) (fun x hx=>bd4 (by simp at hx; omega)) (bd4 (by decide)),nF (xs:=[0,1]) rfl (by decide) (by decide +kernel) (fun x hx=>bd4 (by simp at hx; omega)) (bd4 (by decide)),⟨1,0,1,0,1,2,rfl,rfl,by decide⟩,?_⟩
    have r2:=aiA [.lst (n2.map .int)]
    have rr:=(gF [.lst (n2.map .int)]).1
    rw [z] at t
    generalize tv [1,0,1]=U1 at *
    generalize tv [0,1,2]=U2 at *
    show sIf _ _ _ [x0,some (.ref 0),some (.pv (.int 2)),some (.pv (tv o)),some (.pv (.lst [v2 a b e,v2 a' b' e'])),none,none,none,none,none,none] _=_
    generalize v2 a b e=V1 at *
    generalize v2 a' b' e'=V2 at *
    generalize (mR aN (aB (aC aI (bF ["_law_m"] [(0,"_law_k")] (bJ (aB (aA 1) aD)) (gN 0) (mR eE (aB (aC fEq (aA 0) (aA 1)) aD))) (mN cA (aB (aC aI (mC (.int 1)) (aA 0)) aD))) aD))=RB at *
    simp [EC,aQ,aN,aO,fIx,atI,ixN,fEq,fNe,eqN,aV,aT,aS,aU,aI,aW,frz,aR,t,bF,cD,bJ,rr,r2]
   ·refine ⟨[a,b,e],[a',b',e'],hf,hg,⟨a,b,e,a',b',e',rfl,rfl,z⟩,?_⟩
    show sIf _ _ _ [x0,some (.ref 0),some (.pv (.int 2)),some (.pv (tv o)),some (.pv (.lst [v2 a b e,v2 a' b' e'])),none,none,none,none,none,none] _=bN.nx [x0,some (.ref 0),some (.pv (.int 2)),some (.pv (tv o)),some (.pv (.lst [v2 a b e,v2 a' b' e'])),none,none,none,none,none,none] _
    generalize v2 a b e=V1 at *
    generalize v2 a' b' e'=V2 at *
    generalize (mR aN (aB (aC aI (bF ["_law_m"] [(0,"_law_k")] (bJ (aB (aA 1) aD)) (gN 0) (mR eE (aB (aC fEq (aA 0) (aA 1)) aD))) (mN cA (aB (aC aI (mC (.int 1)) (aA 0)) aD))) aD))=RB at *
    simp [EC,aQ,aN,aO,fIx,atI,ixN,fEq,fNe,eqN,aV,aT,aS,aU,aI,aW,frz,aR,t,z]
  obtain ⟨f',g',hf',hg',⟨a,b,e,a',b',e',ef,eg,nz⟩,est⟩:=key
  obtain ⟨q,B⟩:=afj ho hf' hg' ef eg nz
  have eh:=ac3 ho hf' hg' [.lst (n2.map .int)]
  obtain ⟨S',et⟩:=abo (.inl rfl) B.cor n2 x0 (some (.pv (.int 2))) (some (.pv (tv o))) (some (.pv (.lst [tv f',tv g'])))
  refine ⟨S',?_⟩
  have et:tB [x0,some (.ref 0),some (.pv (.int 2)),some (.pv (tv o)),some (.pv (.lst [tv f',tv g'])),some (.pv (.lst (([(0,1,3),(0,2,3)].map (sx3 (nn2 o f' g'))).map px))),some (.pv (.lst (([(0,1,2),(1,2,3)].map (sx3 (nn2 o f' g'))).map px))),none,none,none,none] [.lst (n2.map .int)]=.rt (.pv (.bl true)) S':=et
  clear B ho hf hg hf' hg' ef eg nz G g2
  unfold wB
  generalize ([(0,1,3),(0,2,3)].map (sx3 (nn2 o f' g'))).map px=H1 at *
  generalize ([(0,1,2),(1,2,3)].map (sx3 (nn2 o f' g'))).map px=H2 at *
  generalize tv o=T1 at *
  generalize tv f=T2 at *
  generalize tv g=T3 at *
  generalize tv f'=T4 at *
  generalize tv g'=T5 at *
  generalize tB=TT at *
  have s1:(aM 3 (aL eG [] (aB (aA 1) (aB (aA 2) aD)))) [x0,some (.ref 0),some (.pv (.int 2)),none,none,none,none,none,none,none,none] [.lst (ms.map .int)]=.nx [x0,some (.ref 0),some (.pv (.int 2)),some (.pv T1),none,none,none,none,none,none,none] [.lst (n1.map .int)]:=by
   have e1:eG [.ref 0,.pv (.int 2)] [.lst (ms.map .int)]=.ok (.pv T1) [.lst (n1.map .int)]:=e1
   simp [EC,aQ,aN,aO,fIx,atI,ixN,fEq,fNe,eqN,aV,aT,aS,aU,aI,aW,frz,aR,e1]
  have s2:(aM 4 (bF ["_law_k"] [(1,"_law_row_here"),(2,"_law_dims")] (bJ (aB (aA 2) aD)) (gN 0) (aL eG [] (aB (aA 1) (aB (aA 2) aD))))) [x0,some (.ref 0),some (.pv (.int 2)),some (.pv T1),none,none,none,none,none,none,none] [.lst (n1.map .int)]=.nx [x0,some (.ref 0),some (.pv (.int 2)),some (.pv T1),some (.pv (.lst [T2,T3])),none,none,none,none,none,none] [.lst (n2.map .int)]:=by
   have e2:bY [] (gN 0) (aL eG [] (aB (aA 1) (aB (aA 2) aD))) [.int 0,.int 1] [none,some (.ref 0),some (.pv (.int 2))] [.lst (n1.map .int)]=.ok [T2,T3] [.lst (n2.map .int)]:=e2
   generalize (aL eG [] (aB (aA 1) (aB (aA 2) aD)))=FB at *
   simp [EC,aQ,aN,aO,fIx,atI,ixN,fEq,fNe,eqN,aV,aT,aS,aU,aI,aW,frz,aR,bF,cD,bJ,r,e2]
  have s3:(sIf (bK (aC fEq (aA 2) (mC (.int 2)))) (kR (gT 2 (bT (gN 5) (bT (gN 6) dD))) (aL iU [] (aB (aA 3) (aB (aA 4) aD)))) ((aK (aM 5 (aL jD [] (aB (aA 3) (aB (aA 4) aD))))
 (aM 6 (aL jC [] (aB (aA 3) (aB (aA 4) (aB (aL cV [] (aB (aA 1) (aB (mC (.int 2)) aD))) aD)))))))) [x0,some (.ref 0),some (.pv (.int 2)),some (.pv T1),some (.pv (.lst [T4,T5])),none,none,none,none,none,none] [.lst (n2.map .int)]=.nx [x0,some (.ref 0),some (.pv (.int 2)),some (.pv T1),some (.pv (.lst [T4,T5])),some (.pv (.lst H1)),some (.pv (.lst H2)),none,none,none,none] [.lst (n2.map .int)]:=by
   generalize (aK (aM 5 (aL jD [] (aB (aA 3) (aB (aA 4) aD))))
 (aM 6 (aL jC [] (aB (aA 3) (aB (aA 4) (aB (aL cV [] (aB (aA 1) (aB (mC (.int 2)) aD))) aD))))))=SB at *
   simp [EC,aQ,aN,aO,fIx,atI,ixN,fEq,fNe,eqN,aV,aT,aS,aU,aI,aW,frz,aR,kR,gT,bT,dD,gN,eh]
  rw [aK,s1]
  dsimp only
  rw [aK,s2]
  dsimp only
  rw [aK,est]
  dsimp only
  rw [aK,s3]
  exact et
theorem ag4 (ms:List Int) (x0:Option AV):∃ S',wB [x0,some (.ref 0),some (.pv (.int 3)),none,none,none,none,none,none,none,none] [.lst (ms.map .int)]=.rt (.pv (.bl true)) S':=by
 have hr:∀ (k:List Int) (T:Sto),Row (.lst (k.map .int) :: T) 0 k:=fun _ _=>rfl
 obtain ⟨v,n1,e1,G⟩:=ahG 3 (.inr rfl) (hr ms [])
 obtain ⟨o,rfl,ho⟩:=kN G
 obtain ⟨ps,n2,e2,l2,g2⟩:=sK (n:=3) (.inr rfl) [.int 0,.int 1,.int 2] [.lst (n1.map .int)] n1 none (hr n1 [])
 simp only [List.set_cons_zero] at e1 e2
 match ps,l2 with
 | [p,q,w],_ =>
  obtain ⟨f,rfl,hf⟩:=kN (g2 p (by simp))
  obtain ⟨g,rfl,hg⟩:=kN (g2 q (by simp))
  obtain ⟨h,rfl,hh⟩:=kN (g2 w (by simp))
  have r:=(gF [.lst (n1.map .int)]).2.1
  have key:∃ f' g' h':List Int,Gu 3 100 f'∧Gu 3 100 g'∧Gu 3 100 h'∧(∃ a b c e a' b' c' e' a'' b'' c'' e'',f'=[a,b,c,e]∧g'=[a',b',c',e']∧h'=[a'',b'',c'',e'']∧d3 a b c a' b' c' a'' b'' c''≠0)∧(sIf (bK (aC fEq (aL eX [] (aB (aA 4) aD)) (mC (.int 0)))) (aM 4 (bF ["_law_k"] [(2,"_law_dims")] (bJ (aB (aA 2) aD)) (gN 0) ((mR aN (aB (aC aI (bF ["_law_m"] [(0,"_law_k")] (bJ (aB (aA 1) aD)) (gN 0) (mR eE (aB (aC fEq (aA 0) (aA 1)) aD))) (mN cA (aB (aC aI (mC (.int 1)) (aA 0)) aD))) aD))))) dA) [x0,some (.ref 0),some (.pv (.int 3)),some (.pv (tv o)),some (.pv (.lst [tv f,tv g,tv h])),none,none,none,none,none,none] [.lst (n2.map .int)]=.nx [x0,some (.ref 0),some (.pv (.int 3)),some (.pv (tv o)),some (.pv (.lst [tv f',tv g',tv h'])),none,none,none,none,none,none] [.lst (n2.map .int)]:=by
   obtain ⟨a,b,c,e,rfl,P⟩:=hf.three (by decide)
   obtain ⟨a',b',c',e',rfl,Q⟩:=hg.three (by decide)
   obtain ⟨a'',b'',c'',e'',rfl,R⟩:=hh.three (by decide)
   have t:=afd [.lst (n2.map .int)] P Q R
   by_cases z:d3 a b c a' b' c' a'' b'' c''=0
   ·refine ⟨[1,0,0,1],[0,1,0,2],[0,0,1,3],nF (xs:=[1,0,0]) rfl (by decide) (by decide +kernel) (fun x hx=>bd4 (by simp at hx; omega)) (bd4 (by decide)),nF (xs:=[0,1,0]) rfl (by decide) (by decide +kernel) (fun x hx=>bd4 (by simp at hx; omega)) (bd4 (by decide)),nF (xs:=[0,0,1]) rfl (by decide) (by decide +kernel) (fun x hx=>bd4 (by simp at hx; omega)) (bd4 (by decide)),⟨1,0,0,1,0,1,0,2,0,0,1,3,rfl,rfl,rfl,by decide⟩,?_⟩
    have r2:=aie [.lst (n2.map .int)]
    have rr:=(gF [.lst (n2.map .int)]).2.1
    rw [z] at t
    generalize tv [1,0,0,1]=U1 at *
    generalize tv [0,1,0,2]=U2 at *
    generalize tv [0,0,1,3]=U3 at *
    show sIf _ _ _ [x0,some (.ref 0),some (.pv (.int 3)),some (.pv (tv o)),some (.pv (.lst [v3 a b c e,v3 a' b' c' e',v3 a'' b'' c'' e''])),none,none,none,none,none,none] _=_
    generalize v3 a b c e=V1 at *
    generalize v3 a' b' c' e'=V2 at *
    generalize v3 a'' b'' c'' e''=V3 at *
    generalize (mR aN (aB (aC aI (bF ["_law_m"] [(0,"_law_k")] (bJ (aB (aA 1) aD)) (gN 0) (mR eE (aB (aC fEq (aA 0) (aA 1)) aD))) (mN cA (aB (aC aI (mC (.int 1)) (aA 0)) aD))) aD))=RB at *
    simp [EC,aQ,aN,aO,fIx,atI,ixN,fEq,fNe,eqN,aV,aT,aS,aU,aI,aW,frz,aR,t,bF,cD,bJ,rr,r2]
   ·refine ⟨[a,b,c,e],[a',b',c',e'],[a'',b'',c'',e''],hf,hg,hh,⟨a,b,c,e,a',b',c',e',a'',b'',c'',e'',rfl,rfl,rfl,z⟩,?_⟩
    show sIf _ _ _ [x0,some (.ref 0),some (.pv (.int 3)),some (.pv (tv o)),some (.pv (.lst [v3 a b c e,v3 a' b' c' e',v3 a'' b'' c'' e''])),none,none,none,none,none,none] _=bN.nx [x0,some (.ref 0),some (.pv (.int 3)),some (.pv (tv o)),some (.pv (.lst [v3 a b c e,v3 a' b' c' e',v3 a'' b'' c'' e''])),none,none,none,none,none,none] _
    generalize v3 a b c e=V1 at *
    generalize v3 a' b' c' e'=V2 at *
    generalize v3 a'' b'' c'' e''=V3 at *
    generalize (mR aN (aB (aC aI (bF ["_law_m"] [(0,"_law_k")] (bJ (aB (aA 1) aD)) (gN 0) (mR eE (aB (aC fEq (aA 0) (aA 1)) aD))) (mN cA (aB (aC aI (mC (.int 1)) (aA 0)) aD))) aD))=RB at *
    simp [EC,aQ,aN,aO,fIx,atI,ixN,fEq,fNe,eqN,aV,aT,aS,aU,aI,aW,frz,aR,t,z]
  obtain ⟨f',g',h',hf',hg',hh',⟨a,b,c,e,a',b',c',e',a'',b'',c'',e'',ef,eg,eh,nz⟩,est⟩:=key
  obtain ⟨q,B⟩:=afF ho hf' hg' hh' ef eg eh nz
  have e6:=afs ho hf' hg' hh' (.lst (n2.map .int))
  obtain ⟨od,n3,e3,o0,o1,_⟩:=iJ (m:=2) (hr n2 []) (by decide) (sm8 (by decide) (by decide))
  simp only [List.set_cons_zero] at e3
  have e5:=aeE ho hf' hg' hh' (.lst (n3.map .int)) (od:=od) (by omega)
  obtain ⟨S',et⟩:=abo (.inr rfl) (B.cor od) n3 x0 (some (.pv (.int 3))) (some (.pv (tv o))) (some (.pv (.lst [tv f',tv g',tv h'])))
  refine ⟨S',?_⟩
  have et:tB [x0,some (.ref 0),some (.pv (.int 3)),some (.pv (tv o)),some (.pv (.lst [tv f',tv g',tv h'])),some (.pv (.lst ((ix6.map (sx4 (nn3 o f' g' h'))).map px))),some (.pv (.lst (((ix5 od).map (sx4 (nn3 o f' g' h'))).map px))),none,none,none,none] [.lst (n3.map .int)]=.rt (.pv (.bl true)) S':=et
  clear B ho hf hg hh hf' hg' hh' ef eg eh nz G g2
  unfold wB
  generalize (ix6.map (sx4 (nn3 o f' g' h'))).map px=H1 at *
  generalize ((ix5 od).map (sx4 (nn3 o f' g' h'))).map px=H2 at *
  generalize tv o=T1 at *
  generalize tv f=T2 at *
  generalize tv g=T3 at *
  generalize tv h=T6 at *
  generalize tv f'=T4 at *
  generalize tv g'=T5 at *
  generalize tv h'=T7 at *
  generalize tB=TT at *
  have s1:(aM 3 (aL eG [] (aB (aA 1) (aB (aA 2) aD)))) [x0,some (.ref 0),some (.pv (.int 3)),none,none,none,none,none,none,none,none] [.lst (ms.map .int)]=.nx [x0,some (.ref 0),some (.pv (.int 3)),some (.pv T1),none,none,none,none,none,none,none] [.lst (n1.map .int)]:=by
   have e1:eG [.ref 0,.pv (.int 3)] [.lst (ms.map .int)]=.ok (.pv T1) [.lst (n1.map .int)]:=e1
   simp [EC,aQ,aN,aO,fIx,atI,ixN,fEq,fNe,eqN,aV,aT,aS,aU,aI,aW,frz,aR,e1]
  have s2:(aM 4 (bF ["_law_k"] [(1,"_law_row_here"),(2,"_law_dims")] (bJ (aB (aA 2) aD)) (gN 0) (aL eG [] (aB (aA 1) (aB (aA 2) aD))))) [x0,some (.ref 0),some (.pv (.int 3)),some (.pv T1),none,none,none,none,none,none,none] [.lst (n1.map .int)]=.nx [x0,some (.ref 0),some (.pv (.int 3)),some (.pv T1),some (.pv (.lst [T2,T3,T6])),none,none,none,none,none,none] [.lst (n2.map .int)]:=by
   have e2:bY [] (gN 0) (aL eG [] (aB (aA 1) (aB (aA 2) aD))) [.int 0,.int 1,.int 2] [none,some (.ref 0),some (.pv (.int 3))] [.lst (n1.map .int)]=.ok [T2,T3,T6] [.lst (n2.map .int)]:=e2
   generalize (aL eG [] (aB (aA 1) (aB (aA 2) aD)))=FB at *
   simp [EC,aQ,aN,aO,fIx,atI,ixN,fEq,fNe,eqN,aV,aT,aS,aU,aI,aW,frz,aR,bF,cD,bJ,r,e2]
  have s3:(sIf (bK (aC fEq (aA 2) (mC (.int 2)))) (kR (gT 2 (bT (gN 5) (bT (gN 6) dD))) (aL iU [] (aB (aA 3) (aB (aA 4) aD)))) ((aK (aM 5 (aL jD [] (aB (aA 3) (aB (aA 4) aD))))
 (aM 6 (aL jC [] (aB (aA 3) (aB (aA 4) (aB (aL cV [] (aB (aA 1) (aB (mC (.int 2)) aD))) aD)))))))) [x0,some (.ref 0),some (.pv (.int 3)),some (.pv T1),some (.pv (.lst [T4,T5,T7])),none,none,none,none,none,none] [.lst (n2.map .int)]=.nx [x0,some (.ref 0),some (.pv (.int 3)),some (.pv T1),some (.pv (.lst [T4,T5,T7])),some (.pv (.lst H1)),some (.pv (.lst H2)),none,none,none,none] [.lst (n3.map .int)]:=by
   generalize (kR (gT 2 (bT (gN 5) (bT (gN 6) dD))) (aL iU [] (aB (aA 3) (aB (aA 4) aD))))=SB at *
   simp [EC,aQ,aN,aO,fIx,atI,ixN,fEq,fNe,eqN,aV,aT,aS,aU,aI,aW,frz,aR,e6,e3,e5]
  rw [aK,s1]
  dsimp only
  rw [aK,s2]
  dsimp only
  rw [aK,est]
  dsimp only
  rw [aK,s3]
  exact et
theorem acO (ns:List Int) (h:ns.length≤63):∃ S,vR [.pv (.lst (ns.map .int))] []=.ok (.pv (.bl true)) S:=by
 obtain ⟨ms,e0,_⟩:=ago ns [] h
 have e0:kM [.pv (.lst (ns.map .int))] []=.ok (.ref 0) [.lst (ms.map .int)]:=e0
 obtain ⟨d,n1,e1,d0,d1,_⟩:=iJ (m:=2) (show Row [.lst (ms.map .int)] 0 ms from rfl) (by decide) (sm8 (by decide) (by decide))
 have e1:cV [.ref 0,.pv (.int 2)] [.lst (ms.map .int)]=.ok (.pv (.int d)) [.lst (n1.map .int)]:=e1
 have hb:vO=(aK (aM 1 (nE kM [] (aB (aA 0) aD)))
 (aK (aM 2 (aC aI (mC (.int 2)) (aL cV [] (aB (aA 1) (aB (mC (.int 2)) aD)))))
 wB)):=rfl
 refine ⟨[],?_⟩
 unfold vR fnM
 rw [hb]
 have:d=0∨d=1:=by omega
 rcases this with rfl | rfl
 ·obtain ⟨S',ew⟩:=aho n1 (some (.pv (.lst (ns.map .int))))
  generalize ns.map PV.int=NL at *
  generalize wB=WB at *
  simp [EC,aQ,aN,aO,fIx,atI,ixN,fEq,fNe,eqN,aV,aT,aS,aU,aI,aW,frz,aR,e0,e1,ew]
 ·obtain ⟨S',ew⟩:=ag4 n1 (some (.pv (.lst (ns.map .int))))
  generalize ns.map PV.int=NL at *
  generalize wB=WB at *
  simp [EC,aQ,aN,aO,fIx,atI,ixN,fEq,fNe,eqN,aV,aT,aS,aU,aI,aW,frz,aR,e0,e1,ew]
def HF (K:PySem.W.Frag) (x:Str) (st:Stmt):Prop:=∃ (f:Addr) (fd:FuncData),PySem.W.nsIn K mainGlobals x=some (some (.ref f))∧Fun K x x st f fd
theorem cX {K:PySem.W.Frag} {x:Str} {st:Stmt} {h:Heap} {mg:Str→Option Value} (X:K.In h) (G:h.Ns mainGlobals mg) (q:HF K x st):∃ f fd,Fun K x x st f fd∧PySem.W.keepIn K (.ref f)=true∧mg x=some (.ref f):=by
 obtain ⟨f,fd,a,F⟩:=q
 exact ⟨f,fd,F,F.kp,PySem.W.mg_of X G a⟩
theorem hF_of {K:PySem.W.Frag} {x:Str} {st:Stmt} {f:Addr} {oc:Value} {od an:Option Addr} {osl:Array (Option Value)} {kV doc pm cdv ct:Value} (a:PySem.W.nsIn K mainGlobals x=some (some (.ref f))) (l:K.lookup f=some ⟨oc,od,.func (PySem.W.fnOf x x (iC st) (fZ st) (bE st) .none kV doc pm an cdv ct),osl⟩)
  (c:PySem.W.codeIn K cdv x=true) (k:PySem.W.keepIn K (.ref f)=true):HF K x st:=⟨_,_,a,adw l c k⟩
theorem cY {P:Program} {w:World} {K:PySem.W.Frag} {mg:Str→Option Value} {base:Heap} {cl:Str→Addr} {x:Str} {k:Nat} {ps:List Str} {g:FM} {a:Addr} {d:FuncData} (G:bS P w K mg base CX0 k a d ps (cF K cl g)) (b:gX K d ps []) (kp:PySem.W.keepIn K (.ref a)=true) (n:mg x=some (.ref a)):Cal P w K mg base cl x k ps g:=⟨_,_,G,b,kp,n⟩
theorem all_mk {l:PySem.W.OpenLaw} {w:World} {K:PySem.W.Frag} {h:Heap} {mg:Str→Option Value} {fa:Addr} (X:K.In h) (G:h.Ns mainGlobals mg) (hfa:mg "law"=some (.ref fa))
  (h18:HF K "_law_row" vA)
  (h19:HF K "_law_take" tQ)
  (h20:HF K "_law_gcd" vD)
  (h21:HF K "_law_lowest" oR)
  (h29:HF K "_law_far" pT)
  (h25:HF K "_law_dot" pW)
  (h24:HF K "_law_cross" sQ)
  (h26:HF K "_law_turn" uE)
  (h22:HF K "_law_joined" oK)
  (h31:HF K "_law_node" tY)
  (h23:HF K "_law_gap" pS)
  (h27:HF K "_law_det" pR)
  (h28:HF K "_law_simplex" rO)
  (h32:HF K "_law_flat_hands" rH)
  (h33:HF K "_law_six" nL)
  (h34:HF K "_law_five" pF)
  (h11:HF K "walls" mU)
  (h2:HF K "divisor" sF)
  (h3:HF K "reduced" oM)
  (h1:HF K "sign" vG)
  (h4:HF K "lowest_way" mK)
  (h7:HF K "normal" sW)
  (h6:HF K "whole_arrow" oA)
  (h13:HF K "plane_way" oC)
  (h14:HF K "sides" pD)
  (h15:HF K "put_wall" rM)
  (h16:HF K "same" uP)
  (h30:HF K "_law_handed" sM)
  {f35:Addr} {od35 an35:Option Addr} {sl35:Array (Option Value)} {oc35 kV35 dc35 pm35 cd35 ct35:Value}
  (a35:PySem.W.nsIn K mainGlobals "law"=some (some (.ref f35))) (l35:K.lookup f35=some ⟨oc35,od35,.func (PySem.W.fnOf "law" "law" (iC gU) (fZ gU) (bE gU) .none kV35 dc35 pm35 an35 cd35 ct35),sl35⟩) (c35:PySem.W.codeIn K cd35 "law"=true) (k35:PySem.W.keepIn K (.ref f35)=true)
  (z1:PySem.W.nsIn K mainGlobals "abs"=some none)
  (z2:PySem.W.nsIn K mainGlobals "any"=some none)
  (z3:PySem.W.nsIn K mainGlobals "enumerate"=some none)
  (z4:PySem.W.nsIn K mainGlobals "int"=some none)
  (z5:PySem.W.nsIn K mainGlobals "len"=some none)
  (z6:PySem.W.nsIn K mainGlobals "list"=some none)
  (z7:PySem.W.nsIn K mainGlobals "range"=some none)
  (z8:PySem.W.nsIn K mainGlobals "sorted"=some none)
  (z9:PySem.W.nsIn K mainGlobals "sum"=some none)
  (z10:PySem.W.nsIn K mainGlobals "tuple"=some none)
  (z11:PySem.W.nsIn K mainGlobals "zip"=some none)
  {gk1:Tok}
  {gk2:Tok}
  {GA2:Addr} {gd2:Option Addr} {gn2:Nat} {gs2:Array (Option Value)}
  {gk3:Tok}
  {gk4:Tok}
  {GA3:Addr} {gd3:Option Addr} {gn3:Nat} {gs3:Array (Option Value)}
  {gk5:Tok}
  {gk6:Tok}
  {GA4:Addr} {gd4:Option Addr} {gn4:Nat} {gs4:Array (Option Value)}
  {GA1:Addr} {gd1:Option Addr} {gn1:Nat} {gs1:Array (Option Value)}
  {gk7:Tok}
  {gk8:Tok}
  {gk9:Tok}
  {GA6:Addr} {gd6:Option Addr} {gn6:Nat} {gs6:Array (Option Value)}
  {gk10:Tok}
  {gk11:Tok}
  {gk12:Tok}
  {GA7:Addr} {gd7:Option Addr} {gn7:Nat} {gs7:Array (Option Value)}
  {gk13:Tok}
  {gk14:Tok}
  {gk15:Tok}
  {GA8:Addr} {gd8:Option Addr} {gn8:Nat} {gs8:Array (Option Value)}
  {gk16:Tok}
  {gk17:Tok}
  {gk18:Tok}
  {GA9:Addr} {gd9:Option Addr} {gn9:Nat} {gs9:Array (Option Value)}
  {GA5:Addr} {gd5:Option Addr} {gn5:Nat} {gs5:Array (Option Value)}
  (v1:PySem.W.nsIn K mainGlobals "FLAT_WALLS"=some (some (.ref GA1)))
  (v2:PySem.W.nsIn K mainGlobals "SPACE_WALLS"=some (some (.ref GA5)))
  (vl1:K.lookup GA1=some ⟨.type "tuple",gd1,.seq #[.ref GA2,.ref GA3,.ref GA4] gn1,gs1⟩)
  (vl2:K.lookup GA2=some ⟨.type "tuple",gd2,.seq #[.int 0 gk1,.int 1 gk2] gn2,gs2⟩)
  (vl3:K.lookup GA3=some ⟨.type "tuple",gd3,.seq #[.int 1 gk3,.int 2 gk4] gn3,gs3⟩)
  (vl4:K.lookup GA4=some ⟨.type "tuple",gd4,.seq #[.int 2 gk5,.int 0 gk6] gn4,gs4⟩)
  (vl5:K.lookup GA5=some ⟨.type "tuple",gd5,.seq #[.ref GA6,.ref GA7,.ref GA8,.ref GA9] gn5,gs5⟩)
  (vl6:K.lookup GA6=some ⟨.type "tuple",gd6,.seq #[.int 1 gk7,.int 2 gk8,.int 3 gk9] gn6,gs6⟩)
  (vl7:K.lookup GA7=some ⟨.type "tuple",gd7,.seq #[.int 0 gk10,.int 3 gk11,.int 2 gk12] gn7,gs7⟩)
  (vl8:K.lookup GA8=some ⟨.type "tuple",gd8,.seq #[.int 0 gk13,.int 1 gk14,.int 3 gk15] gn8,gs8⟩)
  (vl9:K.lookup GA9=some ⟨.type "tuple",gd9,.seq #[.int 0 gk16,.int 2 gk17,.int 1 gk18] gn9,gs9⟩)
  : ∃ fd:FuncData,(∀ (s:Shared) (v:Value),BindsTo s fd ⟨[v],[]⟩ [("_law_script",v)])∧∀ base:Heap,K.In base→base.Ns mainGlobals mg→bS l.prog w K mg base CX0 7 fa fd ["_law_script"] (pY K):=by
 let cl:Str→Addr:=fun n=> 0
 have e:=hfa.symm.trans (PySem.W.mg_of X G a35)
 cases e
 obtain ⟨f18,d18,F18,k18,n18⟩:=cX X G h18
 obtain ⟨f19,d19,F19,k19,n19⟩:=cX X G h19
 obtain ⟨f20,d20,F20,k20,n20⟩:=cX X G h20
 obtain ⟨f21,d21,F21,k21,n21⟩:=cX X G h21
 obtain ⟨f29,d29,F29,k29,n29⟩:=cX X G h29
 obtain ⟨f25,d25,F25,k25,n25⟩:=cX X G h25
 obtain ⟨f24,d24,F24,k24,n24⟩:=cX X G h24
 obtain ⟨f26,d26,F26,k26,n26⟩:=cX X G h26
 obtain ⟨f22,d22,F22,k22,n22⟩:=cX X G h22
 obtain ⟨f31,d31,F31,k31,n31⟩:=cX X G h31
 obtain ⟨f23,d23,F23,k23,n23⟩:=cX X G h23
 obtain ⟨f27,d27,F27,k27,n27⟩:=cX X G h27
 obtain ⟨f28,d28,F28,k28,n28⟩:=cX X G h28
 obtain ⟨f32,d32,F32,k32,n32⟩:=cX X G h32
 obtain ⟨f33,d33,F33,k33,n33⟩:=cX X G h33
 obtain ⟨f34,d34,F34,k34,n34⟩:=cX X G h34
 obtain ⟨f11,d11,F11,k11,n11⟩:=cX X G h11
 obtain ⟨f2,d2,F2,k2,n2⟩:=cX X G h2
 obtain ⟨f3,d3,F3,k3,n3⟩:=cX X G h3
 obtain ⟨f1,d1,F1,k1,n1⟩:=cX X G h1
 obtain ⟨f4,d4,F4,k4,n4⟩:=cX X G h4
 obtain ⟨f7,d7,F7,k7,n7⟩:=cX X G h7
 obtain ⟨f6,d6,F6,k6,n6⟩:=cX X G h6
 obtain ⟨f13,d13,F13,k13,n13⟩:=cX X G h13
 obtain ⟨f14,d14,F14,k14,n14⟩:=cX X G h14
 obtain ⟨f15,d15,F15,k15,n15⟩:=cX X G h15
 obtain ⟨f16,d16,F16,k16,n16⟩:=cX X G h16
 obtain ⟨f30,d30,F30,k30,n30⟩:=cX X G h30
 have F35:=adw (st:=gU) l35 c35 k35
 have m_abs:=PySem.W.mg_none_of X G z1
 have m_any:=PySem.W.mg_none_of X G z2
 have m_enumerate:=PySem.W.mg_none_of X G z3
 have m_int:=PySem.W.mg_none_of X G z4
 have m_len:=PySem.W.mg_none_of X G z5
 have m_list:=PySem.W.mg_none_of X G z6
 have m_range:=PySem.W.mg_none_of X G z7
 have m_sorted:=PySem.W.mg_none_of X G z8
 have m_sum:=PySem.W.mg_none_of X G z9
 have m_tuple:=PySem.W.mg_none_of X G z10
 have m_zip:=PySem.W.mg_none_of X G z11
 have gt_FLAT_WALLS:GlT K mg "FLAT_WALLS" (.tup [.tup [.int 0,.int 1],.tup [.int 1,.int 2],.tup [.int 2,.int 0]]):=⟨_,.ref GA1,PySem.W.mg_of X G v1,rfl,(iZ (vs:=[.ref GA2,.ref GA3,.ref GA4]) vl1 (by show 3≤PySem.sizeLine; decide) (.cons rfl (.cons rfl (.cons rfl .nil))) (by show 3≤PySem.sizeLine; decide) (dI (iZ (vs:=[.int 0,.int 1]) vl2 (by show 2≤PySem.sizeLine; decide) (.cons ⟨_,rfl⟩ (.cons ⟨_,rfl⟩ .nil)) (by show 2≤PySem.sizeLine; decide) (dI eM (dI eM jA))) (dI (iZ (vs:=[.int 1,.int 2]) vl3 (by show 2≤PySem.sizeLine; decide) (.cons ⟨_,rfl⟩ (.cons ⟨_,rfl⟩ .nil)) (by show 2≤PySem.sizeLine; decide) (dI eM (dI eM jA))) (dI (iZ (vs:=[.int 2,.int 0]) vl4 (by show 2≤PySem.sizeLine; decide) (.cons ⟨_,rfl⟩ (.cons ⟨_,rfl⟩ .nil)) (by show 2≤PySem.sizeLine; decide) (dI eM (dI eM jA))) jA))))⟩
 have gt_SPACE_WALLS:GlT K mg "SPACE_WALLS" (.tup [.tup [.int 1,.int 2,.int 3],.tup [.int 0,.int 3,.int 2],.tup [.int 0,.int 1,.int 3],.tup [.int 0,.int 2,.int 1]]):=⟨_,.ref GA5,PySem.W.mg_of X G v2,rfl,(iZ (vs:=[.ref GA6,.ref GA7,.ref GA8,.ref GA9]) vl5 (by show 4≤PySem.sizeLine; decide) (.cons rfl (.cons rfl (.cons rfl (.cons rfl .nil)))) (by show 4≤PySem.sizeLine; decide) (dI (iZ (vs:=[.int 1,.int 2,.int 3]) vl6 (by show 3≤PySem.sizeLine; decide) (.cons ⟨_,rfl⟩ (.cons ⟨_,rfl⟩ (.cons ⟨_,rfl⟩ .nil))) (by show 3≤PySem.sizeLine; decide) (dI eM (dI eM (dI eM jA)))) (dI (iZ (vs:=[.int 0,.int 3,.int 2]) vl7 (by show 3≤PySem.sizeLine; decide) (.cons ⟨_,rfl⟩ (.cons ⟨_,rfl⟩ (.cons ⟨_,rfl⟩ .nil))) (by show 3≤PySem.sizeLine; decide) (dI eM (dI eM (dI eM jA)))) (dI (iZ (vs:=[.int 0,.int 1,.int 3]) vl8 (by show 3≤PySem.sizeLine; decide) (.cons ⟨_,rfl⟩ (.cons ⟨_,rfl⟩ (.cons ⟨_,rfl⟩ .nil))) (by show 3≤PySem.sizeLine; decide) (dI eM (dI eM (dI eM jA)))) (dI (iZ (vs:=[.int 0,.int 2,.int 1]) vl9 (by show 3≤PySem.sizeLine; decide) (.cons ⟨_,rfl⟩ (.cons ⟨_,rfl⟩ (.cons ⟨_,rfl⟩ .nil))) (by show 3≤PySem.sizeLine; decide) (dI eM (dI eM (dI eM jA)))) jA)))))⟩
 have n35:=PySem.W.mg_of X G a35
 refine ⟨PySem.W.fnOf "law" "law" (iC gU) (fZ gU) (bE gU) .none kV35 dc35 pm35 an35 cd35 ct35,fun s v=>.of_eq rfl,fun base _ _=>?_⟩
 have G18:=aeA (P:=l.prog) (w:=w) (mg:=mg) (base:=base) (cl:=cl) F18 m_enumerate
 have C18:=cY G18 (bd1 F18 fun _ _ _ _ _ _ _=>rfl) k18 n18
 have G19:=ac1 (P:=l.prog) (w:=w) (mg:=mg) (base:=base) (cl:=cl) F19 m_len
 have C19:=cY G19 (bd2 F19 fun _ _ _ _ _ _ _ _=>rfl) k19 n19
 have G20:=aev (P:=l.prog) (w:=w) (mg:=mg) (base:=base) (cl:=cl) F20 m_abs
 have C20:=cY G20 (bd2 F20 fun _ _ _ _ _ _ _ _=>rfl) k20 n20
 have G21:=abc F21 C20 m_tuple
 have C21:=cY G21 (bd1 F21 fun _ _ _ _ _ _ _=>rfl) k21 n21
 have G29:=aeN F29 C19 C21 m_range
 have C29:=cY G29 (bd2 F29 fun _ _ _ _ _ _ _ _=>rfl) k29 n29
 have G25:=aen (P:=l.prog) (w:=w) (mg:=mg) (base:=base) (cl:=cl) F25 m_sum m_zip
 have C25:=cY G25 (bd2 F25 fun _ _ _ _ _ _ _ _=>rfl) k25 n25
 have G24:=acb (P:=l.prog) (w:=w) (mg:=mg) (base:=base) (cl:=cl) F24
 have C24:=cY G24 (bd2 F24 fun _ _ _ _ _ _ _ _=>rfl) k24 n24
 have G26:=ac0 F26 C25 C24 m_len
 have C26:=cY G26 (bd1 F26 fun _ _ _ _ _ _ _=>rfl) k26 n26
 have G22:=aa6 F22 C21 m_len m_range
 have C22:=cY G22 (bd3 F22 fun _ _ _ _ _ _ _ _ _=>rfl) k22 n22
 have G31:=ada F31 C22 m_len m_range
 have C31:=cY G31 (bd3 F31 fun _ _ _ _ _ _ _ _ _=>rfl) k31 n31
 have G23:=aeL (P:=l.prog) (w:=w) (mg:=mg) (base:=base) (cl:=cl) F23 m_len m_range
 have C23:=cY G23 (bd2 F23 fun _ _ _ _ _ _ _ _=>rfl) k23 n23
 have G27:=aeQ F27 C26 C23
 have C27:=cY G27 (bd1 F27 fun _ _ _ _ _ _ _=>rfl) k27 n27
 have G28:=aar F28 C27 m_sorted m_tuple
 have C28:=cY G28 (bd1 F28 fun _ _ _ _ _ _ _=>rfl) k28 n28
 have G32:=aaf F32 C31 C28
 have C32:=cY G32 (bd2 F32 fun _ _ _ _ _ _ _ _=>rfl) k32 n32
 have G33:=aeD F33 C31 C28 m_int m_range
 have C33:=cY G33 (bd2 F33 fun _ _ _ _ _ _ _ _=>rfl) k33 n33
 have G34:=acz F34 C28 C31 m_list m_range m_sum
 have C34:=cY G34 (bd3 F34 fun _ _ _ _ _ _ _ _ _=>rfl) k34 n34
 have G11:=acS (P:=l.prog) (w:=w) (mg:=mg) (base:=base) (cl:=cl) F11 m_len m_tuple gt_FLAT_WALLS gt_SPACE_WALLS
 have C11:=cY G11 (bd1 F11 fun _ _ _ _ _ _ _=>rfl) k11 n11
 have G2:=aa4 (P:=l.prog) (w:=w) (mg:=mg) (base:=base) (cl:=cl) F2 m_abs
 have C2:=cY G2 (bd2 F2 fun _ _ _ _ _ _ _ _=>rfl) k2 n2
 have G3:=aaX F3 C2
 have C3:=cY G3 (bd1 F3 fun _ _ _ _ _ _ _=>rfl) k3 n3
 have G1:=ae0 (P:=l.prog) (w:=w) (mg:=mg) (base:=base) (cl:=cl) F1
 have C1:=cY G1 (bd1 F1 fun _ _ _ _ _ _ _=>rfl) k1 n1
 have G4:=aah F4 C3 C1 m_tuple
 have C4:=cY G4 (bd1 F4 fun _ _ _ _ _ _ _=>rfl) k4 n4
 have G7:=abT (P:=l.prog) (w:=w) (mg:=mg) (base:=base) (cl:=cl) F7 m_len
 have C7:=cY G7 (bd1 F7 fun _ _ _ _ _ _ _=>rfl) k7 n7
 have G6:=aad (P:=l.prog) (w:=w) (mg:=mg) (base:=base) (cl:=cl) F6 m_zip
 have C6:=cY G6 (bd2 F6 fun _ _ _ _ _ _ _ _=>rfl) k6 n6
 have G13:=aal F13 C4 C7 C6
 have C13:=cY G13 (bd1 F13 fun _ _ _ _ _ _ _=>rfl) k13 n13
 have G14:=adc (P:=l.prog) (w:=w) (mg:=mg) (base:=base) (cl:=cl) F14 m_len m_range
 have C14:=cY G14 (bd1 F14 fun _ _ _ _ _ _ _=>rfl) k14 n14
 have G15:=aaq F15 C13 C14 C4 C6
 have C15:=cY G15 (bd3 F15 fun _ _ _ _ _ _ _ _ _=>rfl) k15 n15
 have G16:=ad2 F16 C11 C15 m_any
 have C16:=cY G16 (bd2 F16 fun _ _ _ _ _ _ _ _=>rfl) k16 n16
 have G30:=abd F30 C19 m_list m_tuple
 have C30:=cY G30 (bd2 F30 fun _ _ _ _ _ _ _ _=>rfl) k30 n30
 exact (age (P:=l.prog) (w:=w) (mg:=mg) (base:=base) (cl:=cl) F35 C18 C19 C29 C26 C32 C33 C34 C16 C30 m_int m_len m_range m_tuple).imp fun vs H Q E h=>aeJ acO h
theorem walk {l:PySem.W.OpenLaw} {q:Program} {loose:List Str} {XP:(Str→Option Value)→Heap→Prop} {YP:World→Heap→Prop} {d:DefRec} {K:Params→PySem.W.Frag} (hn:l.most=some 63) (hdf:d.params.defaults=[])
  (hY:∀ (w:World) (h:Heap),YP w h→(K w.params).In h)
  (F:∀ (w:World) (mg:Str→Option Value) (fa:Addr) (h:Heap),(K w.params).In h→h.Ns mainGlobals mg→mg d.name=some (.ref fa) →
   ∃ fd:FuncData,(∀ (s:Shared) (u:Value),BindsTo s fd ⟨[u],[]⟩ [("_law_script",u)])∧∀ base:Heap,(K w.params).In base→base.Ns mainGlobals mg→bS l.prog w (K w.params) mg base CX0 7 fa fd ["_law_script"] (pY (K w.params))) :
  PySem.W.WalkO q loose XP YP l.row.toRowW d [] (fun f vs=>PySem.call f vs) :=
 L2.walk_of (n:=63) (k:=7) (x:="_law_script") (CX:=fun _=>CX0) (sp:=fun w=>pY (K w.params)) hn (by decide) hdf ⟨rfl,by decide,by decide⟩ hY F (fun _ _ a ns hl _ hS=>⟨a,ns,rfl,hS,hl,fun _=>rfl⟩) fun _ _ _ _ _ z=>z
end
end Sc
open PySem PySem.W PyProof.Rows
set_option maxRecDepth 100000 in
set_option maxHeartbeats 0 in
theorem PySem.Challenge.cw_scissorhall_k13_same_otherwise_holds : PySem.Challenge.rw_scissorhall_k13_same_otherwise.Holds := by
 w_on; o_law
 refine holds_open (q:=Sc.VW) (loose:=[]) (Xt:=fun s=>xlAt Sc.VW [] s && recOk (RowW.records (OpenRow.toRowW (OpenLaw.row PySem.Challenge.rw_scissorhall_k13_same_otherwise))) s) (XP:=XL Sc.VW []) (Yf:=Hook.obs (kHook Sc.KK Sc.KA Sc.KE)) (Ya:=Hook.val (kHook Sc.KK Sc.KA Sc.KE)) (YP:=Hook.says (kHook Sc.KK Sc.KA Sc.KE)) (N:=1996) Sc.left (Hook.of (kHook Sc.KK Sc.KA Sc.KE)) (Hook.keeps (kHook Sc.KK Sc.KA Sc.KE)) (fun s e=>xl_of s (Bool.and_eq_true_iff.mp e).1) XL.keeps (by rfl) (by rfl) (by rfl) (fun s e=>recFacts_of (Bool.and_eq_true_iff.mp e).2) (by rfl) (by first | assumption | decide +kernel) (by decide +kernel) ⟨rfl,rfl,rfl,rfl,rfl,by decide +kernel⟩ ?hw ?hc
 case hw=>w_witness2
 k_fill
 refine Sc.walk (l:=PySem.Challenge.rw_scissorhall_k13_same_otherwise) rfl rfl (fun w h Y=>PySem.W.kIn_of Y) ?F
 case F =>
  intro w mg fa h KX G hmg
  refine' Sc.all_mk KX G hmg (Sc.hF_of ?a18 ?l18 ?c18 ?k18) (Sc.hF_of ?a19 ?l19 ?c19 ?k19) (Sc.hF_of ?a20 ?l20 ?c20 ?k20) (Sc.hF_of ?a21 ?l21 ?c21 ?k21) (Sc.hF_of ?a29 ?l29 ?c29 ?k29) (Sc.hF_of ?a25 ?l25 ?c25 ?k25) (Sc.hF_of ?a24 ?l24 ?c24 ?k24) (Sc.hF_of ?a26 ?l26 ?c26 ?k26) (Sc.hF_of ?a22 ?l22 ?c22 ?k22) (Sc.hF_of ?a31 ?l31 ?c31 ?k31) (Sc.hF_of ?a23 ?l23 ?c23 ?k23) (Sc.hF_of ?a27 ?l27 ?c27 ?k27) (Sc.hF_of ?a28 ?l28 ?c28 ?k28) (Sc.hF_of ?a32 ?l32 ?c32 ?k32) (Sc.hF_of ?a33 ?l33 ?c33 ?k33) (Sc.hF_of ?a34 ?l34 ?c34 ?k34) (Sc.hF_of ?a11 ?l11 ?c11 ?k11) (Sc.hF_of ?a2 ?l2 ?c2 ?k2) (Sc.hF_of ?a3 ?l3 ?c3 ?k3) (Sc.hF_of ?a1 ?l1 ?c1 ?k1) (Sc.hF_of ?a4 ?l4 ?c4 ?k4) (Sc.hF_of ?a7 ?l7 ?c7 ?k7) (Sc.hF_of ?a6 ?l6 ?c6 ?k6) (Sc.hF_of ?a13 ?l13 ?c13 ?k13) (Sc.hF_of ?a14 ?l14 ?c14 ?k14) (Sc.hF_of ?a15 ?l15 ?c15 ?k15) (Sc.hF_of ?a16 ?l16 ?c16 ?k16) (Sc.hF_of ?a30 ?l30 ?c30 ?k30) ?a35 ?l35 ?c35 ?k35 ?z1 ?z2 ?z3 ?z4 ?z5 ?z6 ?z7 ?z8 ?z9 ?z10 ?z11 ?v1 ?v2 ?vl1 ?vl2 ?vl3 ?vl4 ?vl5 ?vl6 ?vl7 ?vl8 ?vl9
  (case a18 | l18 | c18 | k18 | a19 | l19 | c19 | k19 | a20 | l20 | c20 | k20 | a21 | l21 | c21 | k21 | a29 | l29 | c29 | k29 | a25 | l25 | c25 | k25 | a24 | l24 | c24 | k24 | a26 | l26 | c26 | k26 | a22 | l22 | c22 | k22 | a31 | l31 | c31 | k31 | a23 | l23 | c23 | k23 | a27 | l27 | c27 | k27 | a28 | l28 | c28 | k28 | a32 | l32 | c32 | k32 | a33 | l33 | c33 | k33 | a34 | l34 | c34 | k34 | a11 | l11 | c11 | k11 | a2 | l2 | c2 | k2 | a3 | l3 | c3 | k3 | a1 | l1 | c1 | k1 | a4 | l4 | c4 | k4 | a7 | l7 | c7 | k7 | a6 | l6 | c6 | k6 | a13 | l13 | c13 | k13 | a14 | l14 | c14 | k14 | a15 | l15 | c15 | k15 | a16 | l16 | c16 | k16 | a30 | l30 | c30 | k30 | a35 | l35 | c35 | k35 | z1 | z2 | z3 | z4 | z5 | z6 | z7 | z8 | z9 | z10 | z11 | v1 | v2 | vl1 | vl2 | vl3 | vl4 | vl5 | vl6 | vl7 | vl8 | vl9=>k_is)
#print axioms PySem.Challenge.cw_scissorhall_k13_same_otherwise_holds
