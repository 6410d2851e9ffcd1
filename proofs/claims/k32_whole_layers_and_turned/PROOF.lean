import PyProof.Rows.All
import KE.KFromBytes
import KE.KIsAll
import PyProof.EqAt
import PyProof.EqKinds
import PyProof.TupleCall
import PyProof.ZipIter
import PyProof.Draws
import PyProof.CompFree
import PyProof.NeKinds
import PyProof.NsDelKeeps
import PyProof.ExcArgsOwn
import PyProof.ExcAttrAll.ValueError
import KE.KSortTup
import PyProof.DictRoadsH
import Wide.Seal
import KE.KIntText
import PyProof.FitsReplace
import PyProof.StrWalks
import PyProof.CompMap
import KE.KDictList
import PySem.Challenge.RW_scissorhall_k32_whole_layers_and_turned
set_option Elab.async false
set_option compiler.extract_closed false
set_option bootstrap.genMatcherCode false
set_option maxRecDepth 100000
set_option maxHeartbeats 0
open Array renaming length_toList->jp,toList->um,replicate->wz,append_assoc->yb
open Bool renaming and_eq_true->iu,false_ne_true->lh,not_eq_true'->a7,and_eq_true_iff->k8
open Classical renaming propDecidable->qo
open False renaming elim->jq
open ForInStep renaming yield->zk
open Int renaming mul_pos->ao,gcd->ce,mul_comm->cw,ne_of_gt->fk,le_of_lt->gw,zero_sub->ig,one_mul->ij,eq_of_mul_eq_mul_right->jn,neg_mul->ki,mul_ne_zero->kj,fmod_add_mul_fdiv->ku,mul_ediv_cancel_left->mf,mul_le_mul_of_nonneg_left->ng,mul_one->oa,fdiv_eq_ediv_of_dvd->oo,toNat_natCast->qi,le_refl->ql,zero_add->qm,fmod_nonneg_of_pos->qp,natAbs_mul->rm,mul_neg->rp,mul_zero->se,fmod_lt_of_pos->tj,zero_mul->tw,gcd_zero_left->vw,mul_sub->vz,pos_of_mul_pos_left->wd,mul_nonneg->xu,natAbs_neg->za,emod_nonneg->zc,natCast_nonneg->zd,gcd_mul_left->ze,gcd_dvd_left->zf,gcd_dvd_right->zg,mul_neg_of_pos_of_neg->zh,fdiv_eq_ediv_of_nonneg->zi,natCast_mul->j3,eq_one_of_dvd_one->j4,mul_nonpos_of_nonpos_of_nonneg->j8
open List renaming length_map->ak,size_toArray->au,getElem?_eq_getElem->av,range->ax,map_cons->az,mem_cons_of_mem->bh,length_append->bn,zipWith->bo,mem_cons_self->cf,mem_cons->ci,mem_map->cj,getElem?_eq_some_iff->ck,map_nil->cq,map_map->cu,mem_append->cv,getD->cy,set_cons_zero->da,length_cons->db,getElem?_map->di,lookup_cons->dj,getD_eq_getElem?_getD->dm,set_cons_succ->dr,getElem?_append_left->du,getElem?_append_right->dy,mem_of_getElem?->dz,not_mem_nil->ee,getElem_mem->eh,getElem?_set_self->fe,length_set->fh,getElem?_set_ne->ft,mem_append_right->fu,map_append->gi,map_congr_left->il,length_zipWith->iy,all_eq_true->jc,length_range->jf,nil_append->jh,filterMap_cons->jk,append_nil->jl,length_singleton->ju,length_take->jz,prefix_rfl->kb,mem_append_left->kd,getElem_of_mem->kn,append_assoc->ko,set_set->kq,cons_append->kr,nodup_cons->lq,toArray->mj,sum_cons->my,mem_range->nr,length_eq_zero_iff->ow,ext_getElem?->ox,append_inj'->oy,mem_singleton->oz,length->qh,getElem_zipWith->qq,replicate->qz,map_id->sf,getElem?_eq_none->sv,getElem?_take->sw,nodup_append->sy,getElem?_zipWith->td,sum_nil->tq,flatMap_cons->tx,mem_filterMap->uq,of_mem_zip->uz,length_drop->vh,forIn_cons->we,forIn_nil->wk,drop_eq_getElem_cons->wo,drop_length->wq,take_length->ww,getElem_map->xf,ext_getElem->xh,length_pos_iff->xj,take_of_length_le->xn,zipWith_cons_cons->xo,zipWith_nil_left->xp,count_cons->xq,map_reverse->xv,mem_filter->yc,getElem?_replicate->yn,length_replicate->yo,zipIdx_cons->zu,zipIdx_nil->zw,getElem_toArray->c8,sum_append->g9,getElem?_eq_none_iff->i4,map_inj_right->i6,set_getElem_self->i8,min?_eq_some_iff->j0,eq_nil_of_length_eq_zero->j1,max?_eq_some_iff->j2,perm_middle->j5,mem_flatMap->j6,getElem_range->j7,mem_reverse->k7
open List.Perm renaming swap->tz
open List.cons renaming injEq->j9
open Nat renaming le_refl->ar,lt_of_lt_of_le->df,ne_of_lt->dq,le_trans->dw,zero_le->iz,sub_self->jb,lt_irrefl->jd,ne_of_gt->nv,le_of_lt->ph,le_succ->qk,lt_of_le_of_lt->rn,two_pow_pos->tm,le_of_eq->vt,lt_succ_self->wr,lt_succ_of_lt->wv,pow_le_pow_right->yz,eq_zero_or_pos->zb,exists_eq_add_of_le->c7,le_succ_of_le->i5,min_eq_left->i7
open Ne renaming symm->je
open Option renaming getD_none->yw,getD_some->i3
open Option.some renaming inj->cg
open Or renaming inl->gr,inr->gv
open Prod renaming ext->jo
open Prod.mk renaming inj->xy
open PyProof.Rows renaming AllBare->ji,IntsAre->oj,callWith_type1->qd,slot_tuple_getitem->rh,assignInOrder_cons->uo,Subscript_->vj,get?_update_seq->xb,subscriptTail_builtinR->yr
open PyProof.Rows.IsTup renaming new->qx
open PySem renaming Shared->aa,Expr->ag,wpAny_bind->ah,Pos->ai,World->aj,Around->al,Env->ay,wpAny_pure->bf,FuncData->bj,IsPair->dk,NameKind->gh,IsZip->ia,wpAny_field->ib,mem_of_lookup->jr,Draws->jv,wpAny_mono->jw,wpAny_newObj_type->jx,Keyword->jy,CmpOp->ke,sizeLine_eq->kg,IsPart->kh,wpAny_seqItems->km,Paired->ky,Model->kz,wpAny_holding->lc,wpAny_passesOwn->lg,Params->ni,wpAny_rule->nu,BindsTo->oh,wpAny_call_entry->oi,wpAny_setField_rec->oq,wpAny_truthy_bool->pr,Operator->qa,PassesOwn->qc,Result->qg,wpAny_callSpecial?_slot->qj,wpAny_execs_nil->qv,wpAny_standAt->qw,codeAny_mono->qy,concat_meets->re,wpAny_letGo->sj,wpAny_onRaise->sr,numAt_eq->tf,wpAny_Name->ul,wpAny_Call_Name_kw->uw,noFill_tuple_add->va,seq_tuple_add->vb,seqIndex_of->vk,seqIndex_neg->vm,slot_list_getitem->vn,call_meets->vo,call->vq,wpAny_setField->wg,wpAny_of_eq->wj,wpAny_updateSeq_pair->wm,wpAny_pyIter_list->wn,pushCells_keeps->xi,Within->ya,wpAny_loadName_local->ye,wpAny_loadName_cell->yf,wpAny_isTrue_Compare1->yh,wpAny_getItem_list_slice->yx,wpAny_comprehension_free->zl,codeAny_compStart_list->zm,wpAny_pyIter_tuple->a6
open PySem.Builtin.Int renaming intBits->zj
open PySem.Builtin.List renaming listTooLong->rl
open PySem.Builtin.Slice renaming slicePlaces->rf,sliceAdjust->vg,sliceApplied->yp
open PySem.Builtin.SmallTypes renaming nextOf->kl,ownedTupleIsFree->sk,ownedTupleHandOut->zx
open PySem.Builtin.Tuple renaming tupleExact->rk,tupleHashOf->a8
open PySem.Calls renaming Name_function_global->yg,evalArgs_plain->yy
open PySem.Challenge renaming pw_scissorhall_k32_whole_layers_and_turned->nh,rw_scissorhall_k32_whole_layers_and_turned->pf
open PySem.F renaming slot_tuple_iterator_next->si,slot_zip_next->su,slot_tuple_add->vd,entry_tuple_add->ve,args_tuple_add_2->vf,slot_list_append->vp,plainAttrs_list->wu,entry_tuple_iterator_next->zn,args_tuple_iterator_next_1->zo,entry_zip_next->zy,args_zip_next_1->a5,type_list_append->g8,slot_list_iadd->i9
open PySem.Heap renaming get?_push_of_some->aw,lt_size->bi,get?_push_size->dh,size_push->jm,SameBut->lb,get?_update_ne->xc,get?_update_self->yt,get?_update_other->yu
open PySem.Heap.IsSliceOf renaming new->yq
open PySem.Heap.SameBut renaming update->zq
open PySem.NameKind renaming cell->fj,free->gj
open PySem.Obj renaming mapSeq->ie,data_mapFields->zt
open PySem.PassesOwn renaming never->xk,leaving->xl
open PySem.SeqAt renaming EqAt->ot,RcAt->ou
open PySem.SeqAt.EqAt renaming same->wt,of_refs->f6
open PySem.SeqAt.RcAt renaming none_none->d4,bool_bool->d5,int_int->d6,str_str->d7,tuples->d8,lists->f7,lists_lengths->g7
open PySem.Str renaming ofString->de
open PySem.Value renaming none->cx,ref->ik,type->nj,int->qu,str->uf,bool->ug
open PySem.W renaming Frag->ae,nsIn->dg,fnOf->dn,keepIn->fg,mg_none_of->io,kia_one->ir,excIn->ja,kas_sort->jg,codeIn->jt,mg_of->mq,kitOne->og,OpenLaw->om,kHook->qr,instObj->uh,methodObj->ui,hideAll->uj,hideAll_get->uk,lookIn->ur,findIn->uu,kitx_list->uv,kat_nil->xa,xlAt->xw,recOk->xx,of_hideAll->yd,plainGet->yi,specialIn->yj,kitx_tuple->yk,kitx_dict->yl,cellsFrom_some->ym
open PySem.W.Hook renaming obs->ua,val->ub
open PySem.W.OpenLaw renaming row->ue,wellSaid->l5
open PySem.W.OpenRow renaming toRowW->ud
open PySem.W.RowW renaming records->uc
open Sum renaming inl->kw,inr->kx
open True renaming intro->qe
abbrev AA:=List Int
abbrev AB:=List AA
abbrev AC:=List AB
abbrev AD:=List PySem.Value
abbrev AE:=Option PySem.Value
abbrev AF:=Option PySem.Addr
abbrev AG:=Option Int
namespace L2
open PySem
def fW(s:Stmt):Arguments:=match s with
 |.FunctionDef _ a _ _ _ _ _ _ _ _=>a
 |_=>{posonlyargs:=[],args:=[],vararg:=none,kwonlyargs:=[],kw_defaults:=[],kwarg:=none,defaults:=[]}
def eC(s:Stmt):List Stmt:=match s with
 |.FunctionDef _ _ b _ _ _ _ _ _ _=>b
 |_=>[]
def cC(s:Stmt):Scope:=match s with
 |.FunctionDef _ _ _ _ _ _ sc _ _ _=>sc
 |_=>{kind:=.function,names:=[],isGenerator:=false,isCoroutine:=false}
end L2
namespace Sc
noncomputable section
open PySem L2
def aZ(i:Nat):Stmt:=nh.main.body.getD i (.Pass ⟨0,0,0,0⟩)
abbrev vs(s:String)(t:Nat):Value:=.str (de s) t
abbrev vi(i:Int):Value:=.int i 0
abbrev vr(a:Nat):Value:=.ref a
abbrev fo(n:String)(i:Nat)(dV dc pm cd ct:Value):Obj:=⟨.type "function",none,.func (dn (de n) (de n) (fW (aZ i)) (eC (aZ i)) (cC (aZ i)) dV .none dc pm none cd ct),#[]⟩
abbrev fc(l:AD):Obj:=⟨.type "code",none,.fields l.toArray,#[]⟩
abbrev Uo(n:String)(t l a r g:Nat)(x:AD):Obj:=fc (vs n t::vs n (t+1)::vs "/claim/cut.py" (t+2)::vi l::vi a::vi 0::vi 0::vi 3::vr r:: .bool true::vi g::vr (r+1):: .none::x)
abbrev fI(n:String)(t l a r g u:Nat):Obj:=Uo n t l a r g [vr (r+2),vr (r+3),vr (r+4),vi u,vi l,vs "/claim/cut.py" (u+1)]
abbrev eZ(n:String)(t l a r g:Nat):Obj:=Uo n t l a r g [.none,.none,vr (r+2),vi (t+3),vi l,vs "/claim/cut.py" (t+4)]
abbrev fd(P:ni)(n:Nat)(l:List (String×Nat×Value)):Obj:=⟨.type "dict",none,.dict (l.map λe=>⟨PyData.keyHash P (de e.1),.str (de e.1) e.2.1,e.2.2⟩).toArray n,#[]⟩
abbrev vLq:Value:=vs "law_scissorhall_k32_whole_layers_and_turned" 442
abbrev fzq (n:String)(i:Nat)(m:Value)(r:Nat):Obj:=fo n i .none .none m (vr r) .none
abbrev v0q:Value:=vs "scissorhall.points" 297
abbrev v1q:Value:=vs "scissorhall.folds" 402
abbrev v2q:Value:=vs "scissorhall.lowest" 255
noncomputable def KK(P:ni):ae:=
 (nat_lit 3,fd P 63 [("__name__",165,vs "law_scissorhall_k32_whole_layers_and_turned" 442),("__doc__",166,.none),("__package__",167,.none),("__loader__",168,(.builtin "__main__.__loader__#opaque")),("__spec__",169,.none),("__annotations__",170,vr 6),("__builtins__",171,vr 4),("__file__",173,vs "/claim/cut.py" 172),("__cached__",174,.none),("HallError",206,vr 24),("NoNumber",222,vr 37),("NoPoint",238,vr 49),("OnSide",254,vr 61),("sign",263,vr 70),("divisor",272,vr 77),("reduced",278,vr 82),("fraction",288,vr 90),("divided",296,vr 97),("point",305,vr 103),("measures",311,vr 108),("point_at",317,vr 113),("added",323,vr 118),("lessened",331,vr 125),("turned",337,vr 130),("whole_arrow",343,vr 135),("dot",349,vr 140),("normal",358,vr 147),("determinant",364,vr 152),("side",371,vr 159),("replaced",382,vr 166),("standing",388,vr 171),("count_at",401,vr 178),("in_steps",409,vr 183),("folded",415,vr 188),("in_first_cell",421,vr 193),("spots_over",427,vr 198),("layers",441,vr 205),("_law_row",456,vr 212),("_law_take",465,vr 219),("_law_gcd",473,vr 226),("_law_lowest",479,vr 231),("_law_whole",486,vr 238),("_law_frac",494,vr 245),("_law_joined",500,vr 250),("_law_gap",506,vr 255),("_law_cross",517,vr 262),("_law_dot",523,vr 267),("_law_turn",530,vr 274),("_law_det",536,vr 279),("_law_simplex",544,vr 286),("_law_gone",550,vr 291),("_law_raw",556,vr 296),("_law_raw_turn",562,vr 301),("_law_kuhn",574,vr 308),("_law_raw_heap",586,vr 315),("_law_raw_bulk",592,vr 320),("_law_far",598,vr 325),("_law_stretch",609,vr 332),("_law_spot",615,vr 337),("_law_laid",621,vr 342),("_law_handed",629,vr 349),("_law_over",640,vr 356),("law",661,vr 363)])::
 (nat_lit 23,fd P 3 [("__module__",196,vs "scissorhall.errors" 187),("__firstlineno__",200,(.int 2 199)),("__static_attributes__",201,vr 22),("__weakref__",203,vr 25),("__doc__",204,.none)])::
 (nat_lit 24,⟨(.type "type"),none,.cls {name:="HallError",bases:=[(.type "ValueError")],mro:=[vr 24,(.type "ValueError"),(.type "Exception"),(.type "BaseException"),(.type "object")],ns:=23,qualname:="HallError",hasDict:=true,subclasses:=[vr 37,vr 49,vr 61]},#[some (vr 15),none,some (vs "HallError" 189),some (vs "HallError" 197),some (.builtin "ValueError.__new__"),some (.bool true)]⟩)::
 (nat_lit 36,fd P 2 [("__module__",214,vs "scissorhall.errors" 187),("__firstlineno__",218,(.int 4 217)),("__static_attributes__",219,vr 35),("__doc__",220,.none)])::
 (nat_lit 37,⟨(.type "type"),none,.cls {name:="NoNumber",bases:=[vr 24],mro:=[vr 37,vr 24,(.type "ValueError"),(.type "Exception"),(.type "BaseException"),(.type "object")],ns:=36,qualname:="NoNumber",hasDict:=true,subclasses:=[]},#[some (vr 28),none,some (vs "NoNumber" 207),some (vs "NoNumber" 215),some (.builtin "ValueError.__new__"),some (.bool true)]⟩)::
 (nat_lit 48,fd P 2 [("__module__",230,vs "scissorhall.errors" 187),("__firstlineno__",234,(.int 6 233)),("__static_attributes__",235,vr 47),("__doc__",236,.none)])::
 (nat_lit 49,⟨(.type "type"),none,.cls {name:="NoPoint",bases:=[vr 24],mro:=[vr 49,vr 24,(.type "ValueError"),(.type "Exception"),(.type "BaseException"),(.type "object")],ns:=48,qualname:="NoPoint",hasDict:=true,subclasses:=[]},#[some (vr 40),none,some (vs "NoPoint" 223),some (vs "NoPoint" 231),some (.builtin "ValueError.__new__"),some (.bool true)]⟩)::
 (nat_lit 60,fd P 2 [("__module__",246,vs "scissorhall.errors" 187),("__firstlineno__",250,(.int 8 249)),("__static_attributes__",251,vr 59),("__doc__",252,.none)])::
 (nat_lit 61,⟨(.type "type"),none,.cls {name:="OnSide",bases:=[vr 24],mro:=[vr 61,vr 24,(.type "ValueError"),(.type "Exception"),(.type "BaseException"),(.type "object")],ns:=60,qualname:="OnSide",hasDict:=true,subclasses:=[]},#[some (vr 52),none,some (vs "OnSide" 239),some (vs "OnSide" 247),some (.builtin "ValueError.__new__"),some (.bool true)]⟩)::
 (nat_lit 69,fI "sign" 257 11 1 64 181 261)::
 (nat_lit 70,fzq "sign" 6 v2q 69)::
 (nat_lit 76,fI "divisor" 264 17 2 71 181 270)::
 (nat_lit 77,fzq "divisor" 7 v2q 76)::
 (nat_lit 81,eZ "reduced" 273 23 1 78 181)::
 (nat_lit 82,fzq "reduced" 8 v2q 81)::
 (nat_lit 83,⟨.type "tuple",none,.seq #[(.int 1 279)] 0,#[]⟩)::
 (nat_lit 89,fI "fraction" 280 28 2 84 181 286)::
 (nat_lit 90,fo "fraction" 9 (vr 83) .none v2q (vr 89) .none)::
 (nat_lit 96,fI "divided" 289 33 2 91 181 294)::
 (nat_lit 97,fzq "divided" 10 v2q 96)::
 (nat_lit 98,⟨.type "tuple",none,.seq #[(.int 1 299)] 0,#[]⟩)::
 (nat_lit 102,eZ "point" 300 36 2 99 181)::
 (nat_lit 103,fo "point" 12 (vr 98) .none v0q (vr 102) .none)::
 (nat_lit 107,eZ "measures" 306 40 1 104 181)::
 (nat_lit 108,fzq "measures" 13 v0q 107)::
 (nat_lit 112,eZ "point_at" 312 42 1 109 181)::
 (nat_lit 113,fzq "point_at" 14 v0q 112)::
 (nat_lit 117,eZ "added" 318 47 2 114 181)::
 (nat_lit 118,fzq "added" 15 v0q 117)::
 (nat_lit 124,fI "lessened" 324 50 2 119 181 329)::
 (nat_lit 125,fzq "lessened" 16 v0q 124)::
 (nat_lit 129,eZ "turned" 332 52 1 126 181)::
 (nat_lit 130,fzq "turned" 17 v0q 129)::
 (nat_lit 134,eZ "whole_arrow" 338 54 2 131 181)::
 (nat_lit 135,fzq "whole_arrow" 18 v0q 134)::
 (nat_lit 139,eZ "dot" 344 56 2 136 181)::
 (nat_lit 140,fzq "dot" 19 v0q 139)::
 (nat_lit 146,fI "normal" 350 58 1 141 181 356)::
 (nat_lit 147,fzq "normal" 20 v0q 146)::
 (nat_lit 151,eZ "determinant" 359 64 1 148 181)::
 (nat_lit 152,fzq "determinant" 21 v0q 151)::
 (nat_lit 158,fI "side" 365 67 1 153 181 369)::
 (nat_lit 159,fzq "side" 22 v0q 158)::
 (nat_lit 165,fI "replaced" 374 70 3 160 181 380)::
 (nat_lit 166,fzq "replaced" 24 (vs "scissorhall.simplexes" 372) 165)::
 (nat_lit 170,eZ "standing" 383 72 2 167 181)::
 (nat_lit 171,fzq "standing" 25 (vs "scissorhall.simplexes" 372) 170)::
 (nat_lit 177,fI "count_at" 391 75 2 172 181 399)::
 (nat_lit 178,fzq "count_at" 27 (vs "scissorhall.heaps" 389) 177)::
 (nat_lit 182,eZ "in_steps" 404 85 2 179 181)::
 (nat_lit 183,fzq "in_steps" 29 v1q 182)::
 (nat_lit 187,eZ "folded" 410 87 2 184 181)::
 (nat_lit 188,fzq "folded" 30 v1q 187)::
 (nat_lit 192,eZ "in_first_cell" 416 89 1 189 181)::
 (nat_lit 193,fzq "in_first_cell" 31 v1q 192)::
 (nat_lit 197,eZ "spots_over" 422 91 2 194 181)::
 (nat_lit 198,fzq "spots_over" 32 v1q 197)::
 (nat_lit 204,fI "layers" 428 100 3 199 181 439)::
 (nat_lit 205,fzq "layers" 33 v1q 204)::
 (nat_lit 211,fI "_law_row" 444 109 1 206 181 454)::
 (nat_lit 212,fzq "_law_row" 35 vLq 211)::
 (nat_lit 218,fI "_law_take" 457 123 2 213 181 463)::
 (nat_lit 219,fzq "_law_take" 36 vLq 218)::
 (nat_lit 225,fI "_law_gcd" 466 131 2 220 181 471)::
 (nat_lit 226,fzq "_law_gcd" 37 vLq 225)::
 (nat_lit 230,eZ "_law_lowest" 474 137 1 227 181)::
 (nat_lit 231,fzq "_law_lowest" 38 vLq 230)::
 (nat_lit 237,fI "_law_whole" 480 144 1 232 181 484)::
 (nat_lit 238,fzq "_law_whole" 39 vLq 237)::
 (nat_lit 244,fI "_law_frac" 487 146 2 239 181 492)::
 (nat_lit 245,fzq "_law_frac" 40 vLq 244)::
 (nat_lit 249,eZ "_law_joined" 495 150 3 246 181)::
 (nat_lit 250,fzq "_law_joined" 41 vLq 249)::
 (nat_lit 254,eZ "_law_gap" 501 153 2 251 181)::
 (nat_lit 255,fzq "_law_gap" 42 vLq 254)::
 (nat_lit 261,fI "_law_cross" 507 155 2 256 181 515)::
 (nat_lit 262,fzq "_law_cross" 43 vLq 261)::
 (nat_lit 266,eZ "_law_dot" 518 160 2 263 181)::
 (nat_lit 267,fzq "_law_dot" 44 vLq 266)::
 (nat_lit 273,fI "_law_turn" 524 162 1 268 181 528)::
 (nat_lit 274,fzq "_law_turn" 45 vLq 273)::
 (nat_lit 278,eZ "_law_det" 531 166 1 275 181)::
 (nat_lit 279,fzq "_law_det" 46 vLq 278)::
 (nat_lit 285,fI "_law_simplex" 537 168 1 280 181 542)::
 (nat_lit 286,fzq "_law_simplex" 47 vLq 285)::
 (nat_lit 290,eZ "_law_gone" 545 173 3 287 181)::
 (nat_lit 291,fzq "_law_gone" 48 vLq 290)::
 (nat_lit 295,eZ "_law_raw" 551 175 3 292 181)::
 (nat_lit 296,fzq "_law_raw" 49 vLq 295)::
 (nat_lit 300,eZ "_law_raw_turn" 557 182 1 297 181)::
 (nat_lit 301,fzq "_law_raw_turn" 50 vLq 300)::
 (nat_lit 307,fI "_law_kuhn" 563 184 1 302 181 572)::
 (nat_lit 308,fzq "_law_kuhn" 51 vLq 307)::
 (nat_lit 314,fI "_law_raw_heap" 575 196 3 309 181 584)::
 (nat_lit 315,fzq "_law_raw_heap" 52 vLq 314)::
 (nat_lit 319,eZ "_law_raw_bulk" 587 209 1 316 181)::
 (nat_lit 320,fzq "_law_raw_bulk" 53 vLq 319)::
 (nat_lit 324,eZ "_law_far" 593 211 2 321 181)::
 (nat_lit 325,fzq "_law_far" 54 vLq 324)::
 (nat_lit 331,fI "_law_stretch" 599 217 2 326 181 607)::
 (nat_lit 332,fzq "_law_stretch" 55 vLq 331)::
 (nat_lit 336,eZ "_law_spot" 610 223 2 333 181)::
 (nat_lit 337,fzq "_law_spot" 56 vLq 336)::
 (nat_lit 341,eZ "_law_laid" 616 229 3 338 181)::
 (nat_lit 342,fzq "_law_laid" 57 vLq 341)::
 (nat_lit 348,fI "_law_handed" 622 235 2 343 181 627)::
 (nat_lit 349,fzq "_law_handed" 58 vLq 348)::
 (nat_lit 355,fI "_law_over" 630 239 2 350 181 638)::
 (nat_lit 356,fzq "_law_over" 59 vLq 355)::
 (nat_lit 362,fI "law" 641 245 1 357 181 659)::
 (nat_lit 363,fzq "law" 60 vLq 362)::[]
def KA:List Nat:=[3,23,24,36,37,48,49,60,61,69,70,76,77,81,82,83,89,90,96,97,98,102,103,107,108,112,113,117,118,124,125,129,130,134,135,139,140,146,147,151,152,158,159,165,166,170,171,177,178,182,183,187,188,192,193,197,198,204,205,211,212,218,219,225,226,230,231,237,238,244,245,249,250,254,255,261,262,266,267,273,274,278,279,285,286,290,291,295,296,300,301,307,308,314,315,319,320,324,325,331,332,336,337,341,342,348,349,355,356,362,363]
def VW:Program:={nh with main:={nh.main with body:=[aZ 1,aZ 2,aZ 3,aZ 4,aZ 6,aZ 7,aZ 8,aZ 10,aZ 13,aZ 14,aZ 15,aZ 16,aZ 17,aZ 18,aZ 19,aZ 20,aZ 21,aZ 22,aZ 24,aZ 25,aZ 27,aZ 29,aZ 30,aZ 31,aZ 32,aZ 33,aZ 35,aZ 36,aZ 37,aZ 38,aZ 39,aZ 40,aZ 41,aZ 42,aZ 43,aZ 44,aZ 45,aZ 46,aZ 47,aZ 48,aZ 49,aZ 50,aZ 51,aZ 52,aZ 53,aZ 54,aZ 55,aZ 56,aZ 57,aZ 58,aZ 59,aZ 60]}}
theorem KE:∀P,KA=(KK P).map (·.1):=λ_=>by kernel_rfl
theorem wsaid:l5 pf=true:=by kernel_rfl
open PySem.W PyProof.Rows PySem.Spec
abbrev RN(w:aj):=openEnds treeTable nh w 4792
abbrev LW:=looseW VW [de "fraction",de "point"]
theorem Z4:∀w,(RN w).map (λs=>ua (qr KK KA KE) s)=some (ub (qr KK KA KE) w):=by
 intro w
 kernel_rfl
theorem R8:∀w,(RN w).map (λs=>seen ((recsOf VW).map (·.name)) (ownsOf VW) [] {s with gens:=#[]})=some (expectedOf VW):=by
 intro w
 kernel_rfl
theorem Z6:∀w,(RN w).map (λs=>s.heap.bltView)=some (bltViewBooted):=by
 intro w
 kernel_rfl
theorem aad:∀w,(RN w).map (λs=>s.heap.keysOk LW ((recsOf VW).map (·.name)) ((litsOf VW).map (·.1)) ((clssOf VW LW).map (·.name)))=some (true):=by
 intro w
 kernel_rfl
theorem aam:∀w,(RN w).map (λs=>s.heap.accountedOkI (importedModules nh.main.body)&&(s.heap.isNs mainGlobals&&s.heap.isNs builtinsNs&&tablesOk VW s.heap)&&((λs=>xw VW [] s&&xx (uc (ud (ue pf))) s) s&&(s.gens.size==0)))=some (true):=by
 intro w
 kernel_rfl
theorem Y7:∀w,(RN w).map (λs=>tabsOk VW s)=some (true):=by
 intro w
 kernel_rfl
theorem aae:∀w,(RN w).map (λs=>(pinSeenD VW (drecsOf VW) s,plainSeenD VW [de "fraction",de "point"] s,clsSeenW VW [de "fraction",de "point"] s))=some (pinGoodD (drecsOf VW),plainGoodD VW [de "fraction",de "point"],clsGoodW VW [de "fraction",de "point"]):=by
 intro w
 kernel_rfl
theorem U5:∀w,(RN w).map (λs=>plainSeenE VW LW s)=some (plainGoodE VW LW):=by
 intro w
 kernel_rfl
theorem X7:∀w,(RN w).map (λs=>wideSeen VW s)=some (wideGood VW):=by
 intro w
 kernel_rfl
theorem bz{k a n m t x g:Bool}(h:k=true)(h2:(a&&(n&&m&&t)&&(x&&g))=true):(k&&a&&n&&m&&t&&x&&g)=true:=by
 revert h h2
 cases k<;>cases a<;>cases n<;>cases m<;>cases t<;>cases x<;>cases g<;>decide
theorem aaR{A B C P Q R T V Y:Type}{o:Option aa}{y:Y}{G:aa->Y}{k a n m t x g f:aa->Bool}{b:aa->B}{c:aa->C}{p:aa->P}{q:aa->Q}{r:aa->R}{u:aa->T}{v:aa->V}{b':B}{c':C}{p':P}{q':Q}{r':R}{u':T}{v':V}(hA:o.map G=some y)(hB:o.map b=some b')(hC:o.map c=some c')(hD:o.map k=some true)(hE:o.map (λs=>a s&&(n s&&m s&&t s)&&(x s&&g s))=some true)(hF:o.map f=some true)
  (hG:o.map (λs=>(p s,q s,r s))=some (p',q',r'))(hH:o.map u=some u')(hI:o.map v=some v'):o.map (λs=>((b s,c s,(k s&&a s&&n s&&m s&&t s&&x s&&g s),f s,p s,u s,q s,v s,r s),G s))=some ((b',c',true,true,p',u',q',v',r'),y):=by
 cases o with
 |none=>cases hA
 |some s=>
  have G1:=xy (cg hG);have G2:=xy G1.2;exact congrArg some (jo (jo (cg hB) (jo (cg hC) (jo (bz (cg hD) (cg hE)) (jo (cg hF) (jo G1.1 (jo (cg hH) (jo G2.1 (jo (cg hI) G2.2)))))))) (cg hA))
theorem left:LeftO nh VW [de "fraction",de "point"] (λs=>xw VW [] s&&xx (uc (ud (ue pf))) s) (ua (qr KK KA KE)) (ub (qr KK KA KE)) 4792:=λw=>aaR (A:=Nat) (Z4 w) (R8 w) (Z6 w) (aad w) (aam w) (Y7 w) (aae w) (U5 w) (X7 w)
end
end Sc
set_option maxHeartbeats 200000
set_option Elab.async false
set_option compiler.extract_closed false
set_option bootstrap.genMatcherCode false
set_option linter.all false
set_option maxRecDepth 100000
namespace L2
open PySem PySem.Spec PyProof.Rows
abbrev gG:=Sum Int Str
def Pn:gG->Value->Bool
 |.inl k,v=>Value.isInt k v
 |.inr x,v=>Value.isStrOf x v
def aaY(w:aj):gG->Int
 |.inl k=>hashInt k
 |.inr x=>hashStr w x
theorem kU:∀{k:gG}{v:Value},Pn k v=true->(∃i t,k=kw i/\v=qu i t)\/(∃x t,k=kx x/\v=uf x t)
 |.inl i,v,h=>by
  obtain⟨t,e⟩:=Value.isInt_shape (k:=i) (v:=v) h;exact .inl ⟨i,t,rfl,e⟩
 |.inr x,v,h=>by
  obtain⟨t,e⟩:=Value.isStrOf_shape (x:=x) (v:=v) h;exact .inr ⟨x,t,rfl,e⟩
theorem K7(a b:Int):decide ((kw a:gG)=kw b)=(a==b):=by
 by_cases e:a=b
 .subst e;simp
 .have h:¬(kw a:gG)=kw b:=λq=>e (Sum.inl.inj q)
  rw[decide_eq_false h];exact(beq_eq_false_iff_ne.mpr e).symm
theorem O2(a b:Str):decide ((kx a:gG)=kx b)=decide (a=b):=by
 by_cases e:a=b
 .subst e;simp
 .have h:¬(kx a:gG)=kx b:=λq=>e (Sum.inr.inj q)
  rw[decide_eq_false h,decide_eq_false e]
theorem G0(a:Int)(b:Str):decide ((kw a:gG)=kx b)=false:=decide_eq_false (λq=>nomatch q)
theorem K6(a:Str)(b:Int):decide ((kx a:gG)=kw b)=false:=decide_eq_false (λq=>nomatch q)
def Pi(prog:Program)(w:aj):PySem.KeyKind prog w gG where
 is:=Pn
 hash:=aaY w
 inj:=λv a b ha hb=>by
  rcases kU ha with⟨i,t,rfl,rfl⟩|⟨x,t,rfl,rfl⟩
  .rcases kU hb with⟨j,u,rfl,e⟩|⟨y,u,rfl,e⟩
   .injection e with e1 _;rw[e1]
   .exact nomatch e
  .rcases kU hb with⟨j,u,rfl,e⟩|⟨y,u,rfl,e⟩
   .exact nomatch e
   .injection e with e1 _;rw[e1]
 byValue:=λk v h=>by
  rcases kU h with⟨i,t,rfl,rfl⟩|⟨x,t,rfl,rfl⟩<;>rfl
 pyHash:=λhv h=>by
  rcases kU hv with⟨i,t,rfl,rfl⟩|⟨x,t,rfl,rfl⟩
  .exact wpAny_pyHash_int h
  .exact wpAny_pyHash_str h
 eqBool:=λhu hv h=>by
  rcases kU hu with⟨i,t,rfl,rfl⟩|⟨x,t,rfl,rfl⟩
  .rcases kU hv with⟨j,u,rfl,rfl⟩|⟨y,u,rfl,rfl⟩
   .rw[K7]at h;exact wpAny_eqBool_int h
   .rw[G0]at h;exact SeqAt.EqAt.int_str i t y u _ _ _ _ h
  .rcases kU hv with⟨j,u,rfl,rfl⟩|⟨y,u,rfl,rfl⟩
   .rw[K6]at h;exact SeqAt.EqAt.str_int x t j u _ _ _ _ h
   .rw[O2]at h;exact wpAny_eqBool_str h
 «strs»:=λk x t v h=>by
  rcases kU h with⟨i,u,rfl,e⟩|⟨y,u,rfl,e⟩
  .exact nomatch e
  .injection e with e1 _
   subst e1;cases v<;>rfl
inductive V where
 |non |bl (b:Bool) |int (i:Int) |str (x:Str) |byt (b:Array UInt8) |flt (b:UInt64) |ref (a:Addr) |ty (n:String)
 deriving DecidableEq
def bW:V->Value->Prop
 |.non,u=>u=cx
 |.bl b,u=>u=ug b
 |.int i,u=>∃t,u=qu i t
 |.str x,u=>∃t,u=uf x t
 |.byt b,u=>∃t,u=Value.bytes b t
 |.flt b,u=>∃t,u=Value.float b t
 |.ref a,u=>u=ik a
 |.ty n,u=>u=nj n
abbrev bC:List V->AD->Prop:=ky bW
theorem bC.length{xs:List V}{us:AD}(r:bC xs us):xs.length=us.length:=Paired.length r
theorem bC.get:∀{xs:List V}{us:AD}{i:Nat}{x:V},bC xs us->xs[i]?=some x->∃u,us[i]?=some u/\bW x u
 |_,_,_,_,.nil,e=>by simp at e
 |_,_,0,_,.cons r _,e=>by simp at e;subst e;exact⟨_,rfl,r⟩
 |_,_,i+1,x,.cons _ t,e=>by
  obtain⟨u,h1,h2⟩:=bC.get (i:=i) (x:=x) t (by simpa using e);exact⟨u,by simpa using h1,h2⟩
theorem bC.set{x:V}{u:Value}(r:bW x u):∀{xs:List V}{us:AD}(i:Nat),bC xs us->bC (xs.set i x) (us.set i u)
 |_,_,_,.nil=>.nil
 |_,_,0,.cons _ t=>.cons r t
 |_,_,i+1,.cons q t=>.cons q (bC.set r i t)
theorem bC.append:∀{xs ys:List V}{us ws:AD},bC xs us->bC ys ws->bC (xs++ys) (us++ws)
 |_,_,_,_,.nil,s=>s
 |_,_,_,_,.cons r t,s=>.cons r (bC.append t s)
theorem bC.take:∀{xs:List V}{us:AD}(n:Nat),bC xs us->bC (xs.take n) (us.take n)
 |_,_,0,_=>.nil
 |_,_,_+1,.nil=>.nil
 |_,_,n+1,.cons r t=>.cons r (bC.take n t)
theorem bC.drop:∀{xs:List V}{us:AD}(n:Nat),bC xs us->bC (xs.drop n) (us.drop n)
 |_,_,0,r=>r
 |_,_,_+1,.nil=>.nil
 |_,_,n+1,.cons _ t=>bC.drop n t
def Db:Option V->AE->Prop
 |some v,some u=>bW v u
 |none,none=>True
 |_,_=>False
def KV{κ:Type}:List (κ×V)->List (κ×Value)->Prop:=ky λ(p:κ×V) (q:κ×Value)=>p.1=q.1/\bW p.2 q.2
def kV:gG->V
 |.inl i=>.int i
 |.inr x=>.str x
inductive HO where
 /--a list -/
 |lst (xs:List V)
 /--a tuple (never changes) -/
 |tup (xs:List V)
 /--a dict whose keys are ints and texts;one whose keys are tuples of ints and texts (the empty one is both) -/
 |dK (kvs:List (gG×V)) |dT (kvs:List (List gG×V))
 /--a set of ints:its members,its size -/
 |set (S:Int->Bool) (n:Nat)
 /--an instance of the class at C,its dict at dx,its attributes -/
 |ins (C dx:Addr) (fs:List (Str×V))
 /--the dict of the instance at x -/
 |own (x:Addr)
 /--the dict of an exception -/
 |xd (fs:List (Str×V))
 /--a bound method,f of x -/
 |met (f x:Addr)
 /--a range object lo,lo+1,.. below hi -/
 |rng (lo hi:Int)
 /--a thing that is known to the object (the script;a dict while a loop walks it):read,never written while it is so -/
 |frz (o:Obj) (u:HO)
 /--a code object's table -/
 |tbl (ps:Array Value)
 /--any other thing,by what is true of its one object (a def of one's own:SetO a S n:=HO.ext λh=>..) -/
 |ext (φ:Heap->Prop)
abbrev Hp:=Addr->Option HO
def bA(H:Hp)(a:Addr)(o:HO):Hp:=λb=>if b=a then some o else H b
theorem fS{H:Hp}{a:Addr}{o:HO}:bA H a o a=some o:=by unfold bA;rw[if_pos rfl]
theorem bV{H:Hp}{a b:Addr}{o:HO}(h:b≠a):bA H a o b=H b:=by unfold bA;rw[if_neg h]
theorem fR{H:Hp}{a b:Addr}{o:HO}(h:H a=some o)(h':H b=none):a≠b:=by
 intro e;subst e;rw[h]at h';cases h'
section
variable(P:Program)(w:aj)
def fK(H:Hp)(h:Heap)(a:Addr):HO->Prop
 |.lst xs=>xs.length<=sizeLine/\∃(its:AD)(n:Nat),bC xs its/\h.get? a=some {cls:=.type "list",data:=.seq its.toArray n}
 |.tup xs=>(xs.length<=sizeLine/\∃o,h.get? a=some o/\o.dict=none)/\∃its:AD,bC xs its/\IsTup h a its.toArray
 |.dK kvs=>kvs.length<=sizeLine/\(a==sysModules)=false/\∃vs,KV kvs vs/\h.DictOf (Pi P w) a vs
 |.dT kvs=>kvs.length<=sizeLine/\(a==sysModules)=false/\∃xs:List (List gG×Addr×Value),
   ky (λ(p:List gG×V) (q:List gG×Addr×Value)=>p.1=q.1/\H q.2.1=some (.tup (p.1.map kV))/\bW p.2 q.2.2) kvs xs/\
   ∃o es ep,h.get? a=some o/\o.ExactDict/\o.data=.dict es ep/\es.toList=xs.map (entryOfKey (tupleKind (Pi P w)))/\(xs.map (·.1)).Nodup
 |.set S n=>h.SetOf (intKind P w) a S n
 |.ins C dx fs=>H dx=some (.own a)/\fs.length<=1000/\dx≠a/\h.get? a=some (uh C dx)/\
   ∃mA,h.Ns1 dx mA/\(∀f,Db (fs.lookup f) (mA f))/\ya mA (fs.map (·.1))
 |.own _=>∃o,h.get? a=some o
 |.xd fs=>∃mA,h.Ns1 a mA/\∀f,Db (fs.lookup f) (mA f)
 |.rng lo hi=>∃t u v,h.get? a=some {cls:=.type "range",data:=.fields #[.int lo t,.int hi u,.int 1 v]}
 |.frz o u=>h.get? a=some o/\fK H h a u
 |.tbl ps=>h.get? a=some {cls:=.none,data:=.fields ps}
 |.met f x=>h.get? a=some (ui (.ref f) (.ref x))
 |.ext φ=>φ h/\(∃o,h.get? a=some o)/\∀h1 h2:Heap,φ h1->(∀o,h1.get? a=some o->h2.get? a=some o)->φ h2
def eX(H:Hp)(h:Heap):Prop:=∀a o,H a=some o->fK P w H h a o
end
section
variable{P:Program}{w:aj}{H H':Hp}{h h':Heap}{a:Addr}{o:HO}
theorem fK.lt(x:fK P w H h a o):a<h.objs.size:=by
 cases o with
 |lst xs=>obtain⟨_,_,_,_,e⟩:=x;exact bi e
 |tup xs=>obtain⟨_,_,_,p⟩:=x;exact p.lt
 |dK kvs=>obtain⟨_,_,_,_,o,_,_,e,_⟩:=x;exact bi e
 |dT kvs=>obtain⟨_,_,_,_,o,_,_,e,_⟩:=x;exact bi e
 |set S n=>obtain⟨o,_,_,_,e,_⟩:=x;exact bi e
 |ins C dx fs=>obtain⟨_,_,_,e,_⟩:=x;exact bi e
 |own y=>obtain⟨_,e⟩:=x;exact bi e
 |xd fs=>obtain⟨_,⟨_,_,_,e,_⟩,_⟩:=x;exact bi e
 |rng lo hi=>obtain⟨_,_,_,e⟩:=x;exact bi e
 |frz ob u=>obtain⟨e,_⟩:=x;exact bi e
 |tbl ps=>exact bi (show h.get? a=some _ from x)
 |met f y=>exact bi (show h.get? a=some _ from x)
 |ext φ=>obtain⟨_,⟨_,e⟩,_⟩:=x;exact bi e
theorem Paired.mapP{α β:Type}{F G:α->β->Prop}:∀{l₁:List α}{l₂:List β},ky F l₁ l₂->(∀a b,F a b->G a b)->ky G l₁ l₂
 |_,_,.nil,_=>.nil
 |_,_,.cons r t,f=>.cons (f _ _ r) (Paired.mapP t f)
theorem fK.stay(x:fK P w H h a o)(k:∀b u,(b=a\/H b=some (.own a))->h.get? b=some u->h'.get? b=some u)
  (ho:∀b,H b=some (.own a)->H' b=some (.own a))(ht:∀b xs,H b=some (.tup xs)->H' b=some (.tup xs)):fK P w H' h' a o:=by
 induction o with
 |lst xs=>obtain⟨z,its,n,r,e⟩:=x;exact⟨z,its,n,r,k _ _ (.inl rfl) e⟩
 |tup xs=>obtain⟨⟨z,o9,e9,d9⟩,its,r,ob,e,c⟩:=x;exact⟨⟨z,o9,k _ _ (.inl rfl) e9,d9⟩,its,r,ob,k _ _ (.inl rfl) e,c⟩
 |dK kvs=>obtain⟨z,y,vs,r,ob,es,ep,e,c⟩:=x;exact⟨z,y,vs,r,ob,es,ep,k _ _ (.inl rfl) e,c⟩
 |dT kvs=>
  obtain⟨z,y,xs,r,ob,es,ep,e,c⟩:=x;exact⟨z,y,xs,Paired.mapP r λp q z=>⟨z.1,ht _ _ z.2.1,z.2.2⟩,ob,es,ep,k _ _ (.inl rfl) e,c⟩
 |set S n=>obtain⟨ob,es,ep,t,e,c⟩:=x;exact⟨ob,es,ep,t,k _ _ (.inl rfl) e,c⟩
 |ins C dx fs=>
  obtain⟨d,z,ne,e,mA,⟨od,es,ep,e2,c⟩,r⟩:=x;exact⟨ho _ d,z,ne,k _ _ (.inl rfl) e,mA,⟨od,es,ep,k _ _ (.inr d) e2,c⟩,r⟩
 |own y=>obtain⟨ob,e⟩:=x;exact⟨ob,k _ _ (.inl rfl) e⟩
 |xd fs=>obtain⟨mA,⟨od,es,ep,e,c⟩,r⟩:=x;exact⟨mA,⟨od,es,ep,k _ _ (.inl rfl) e,c⟩,r⟩
 |rng lo hi=>obtain⟨t,u,v,e⟩:=x;exact⟨t,u,v,k _ _ (.inl rfl) e⟩
 |frz ob u ih=>obtain⟨e,q⟩:=x;exact⟨k _ _ (.inl rfl) e,ih q⟩
 |tbl ps=>
  have e:h.get? a=some {cls:=.none,data:=.fields ps}:=x;show h'.get? a=some {cls:=.none,data:=.fields ps};exact k a _ (.inl rfl) e
 |met f y=>
  have e:h.get? a=some (ui (.ref f) (.ref y)):=x;show h'.get? a=some (ui (.ref f) (.ref y));exact k a _ (.inl rfl) e
 |ext φ=>obtain⟨p,⟨o,e⟩,st⟩:=x;exact⟨st _ _ p λo q=>k _ _ (.inl rfl) q,⟨o,k _ _ (.inl rfl) e⟩,st⟩
theorem eX.lt(x:eX P w H h)(e:H a=some o):a<h.objs.size:=(x a o e).lt
theorem eX.fresh(x:eX P w H h)(e:h.objs.size<=a):H a=none:=by
 cases q:H a with
 |none=>rfl
 |some u=>exact absurd (df (x.lt q) e) (jd _)
theorem eX.kept(x:eX P w H h)(k:∀b u,h.get? b=some u->h'.get? b=some u):eX P w H h':=λa o e=>
 (x a o e).stay (λb u _ q=>k b u q) (λ_ q=>q) λ_ _ q=>q
theorem eX.laid(x:eX P w H h)(k:∀b u,h.get? b=some u->h'.get? b=some u)(hp:h.objs.size<=a)(new:fK P w (bA H a o) h' a o):eX P w (bA H a o) h':=λb u e=>by
 have hn:=x.fresh hp
 by_cases hb:b=a
 .subst hb;rw[fS]at e;cases e;exact new
 .rw[bV hb]at e
  exact(x b u e).stay (λc v _ q=>k c v q) (λc q=>by rw[bV (fR q hn)];exact q) λc xs q=>by rw[bV (fR q hn)];exact q
end
def Rd(H:Hp)(a:Addr)(u:HO):Prop:=H a=some u\/∃o,H a=some (.frz o u)
theorem Rd.ok{P:Program}{w:aj}{H:Hp}{h:Heap}{a:Addr}{u:HO}(r:Rd H a u)(x:eX P w H h):fK P w H h a u:=by
 rcases r with r |⟨o,r⟩
 .exact x a u r
 .obtain⟨_,q⟩:=x a _ r
  exact q
def vW:Option HO->Prop
 |some (.lst _)=>True
 |some (.dK _)=>True
 |some (.dT _)=>True
 |some (.set _ _)=>True
 |some (.ins _ _ _)=>True
 |some (.ext _)=>True
 |_=>False
section
variable{P:Program}{w:aj}{H:Hp}{h h':Heap}{x e:Addr}{o':HO}
theorem eX.write(ok:eX P w H h)(mu:vW (H x))(he:e=x\/H e=some (.own x))(k:∀b u,b≠e->h.get? b=some u->h'.get? b=some u)(heo:∃u,h'.get? e=some u)
  (new:fK P w (bA H x o') h' x o'):eX P w (bA H x o') h':=λb u q=>by
 have nown:∀c y,H c=some (.own y)->c≠x:=λc y r z=>by subst z;rw[r]at mu;exact mu
 have ntup:∀c xs,H c=some (.tup xs)->c≠x:=λc xs r z=>by subst z;rw[r]at mu;exact mu
 by_cases hb:b=x
 .subst hb;rw[fS]at q;cases q;exact new
 .rw[bV hb]at q
  by_cases hbe:b=e
  .have q':H b=some (.own x):=by
    rcases he with z |z
    .exact absurd (hbe.trans z) hb
    .rw[hbe];exact z
   rw[q]at q';cases q';obtain⟨v,hv⟩:=heo;exact⟨v,by rw[hbe];exact hv⟩
  .refine(ok b u q).stay (λc v hc r=>k c v ?_ r) (λc r=>by rw[bV (nown c b r)];exact r) λc xs r=>by rw[bV (ntup c xs r)];exact r
   rcases hc with rfl |hc
   .exact hbe
   .rintro rfl
    rcases he with z |z
    .exact nown c b hc z
    .rw[hc]at z;cases z;exact hb rfl
end
structure Un(fs ex:List Addr)(H H':Hp)(h h':Heap):Prop where
 keep:∀b o,h.get? b=some o->H b=none->b∉fs->b∉ex->h'.get? b=some o
 slot:∀b o,h.get? b=some o->H b=none->b∈fs->b∉ex->∃sl,h'.get? b=some {o with slots:=sl}
 free:∀b o,h.get? b=some o->H b=none->b∉ex->H' b=none
 there:∀b o,h.get? b=some o->b∉ex->∃o',h'.get? b=some o'
 tups:∀b xs,H b=some (.tup xs)->H' b=some (.tup xs)
 frzs:∀b o u,H b=some (.frz o u)->H' b=some (.frz o u)
 tbls:∀b ps,H b=some (.tbl ps)->∃more,H' b=some (.tbl (ps++more))
section
variable{fs fs' ex ex':List Addr}{H H1 H2:Hp}{h h1 h2 h':Heap}{a x e:Addr}{o:HO}
theorem Un.any(u:Un fs ex H H1 h h1){b:Addr}{ob:Obj}(q:h.get? b=some ob)(n:H b=none)(hx:b∉ex):∃sl,h1.get? b=some {ob with slots:=sl}:=by
 by_cases hb:b∈fs
 .exact u.slot b ob q n hb hx
 .exact⟨ob.slots,u.keep b ob q n hb hx⟩
theorem Un.trans(a:Un fs ex H H1 h h1)(b:Un fs ex H1 H2 h1 h2):Un fs ex H H2 h h2 where
 keep:=λc ob q n hc hx=>b.keep c ob (a.keep c ob q n hc hx) (a.free c ob q n hx) hc hx
 slot:=λc ob q n hc hx=>by
  obtain⟨sl,e1⟩:=a.slot c ob q n hc hx;obtain⟨sl',e2⟩:=b.slot c _ e1 (a.free c ob q n hx) hc hx;exact⟨sl',e2⟩
 free:=λc ob q n hx=>by
  obtain⟨o',e1⟩:=a.there c ob q hx;exact b.free c o' e1 (a.free c ob q n hx) hx
 there:=λc ob q hx=>by
  obtain⟨o',e1⟩:=a.there c ob q hx;exact b.there c o' e1 hx
 tups:=λc xs q=>b.tups c xs (a.tups c xs q)
 frzs:=λc ob xs q=>b.frzs c ob xs (a.frzs c ob xs q)
 tbls:=λc ps q=>by
  obtain⟨m1,e1⟩:=a.tbls c ps q;obtain⟨m2,e2⟩:=b.tbls c _ e1;exact⟨m1++m2,by rw[e2,yb]⟩
theorem Un.kept(k:∀b u,h.get? b=some u->h'.get? b=some u):Un fs ex H H h h':=
 ⟨λb ob q _ _ _=>k b ob q,λb ob q _ _ _=>⟨ob.slots,k b ob q⟩,λ_ _ _ n _=>n,λb ob q _=>⟨ob,k b ob q⟩,λ_ _ q=>q,λ_ _ _ q=>q,λ_ ps q=>⟨#[],by rw[q];simp⟩⟩
theorem Un.refl:Un fs ex H H h h:=Un.kept λ_ _ q=>q
theorem Un.laid(k:∀b u,h.get? b=some u->h'.get? b=some u)(hp:h.objs.size<=a)(hn:H a=none):Un fs ex H (bA H a o) h h' where
 keep:=λb u q _ _ _=>k b u q
 slot:=λb u q _ _ _=>⟨u.slots,k b u q⟩
 free:=λb u q n _=>by rw[bV (dq (df (bi q) hp))];exact n
 there:=λb u q _=>⟨u,k b u q⟩
 tups:=λb xs q=>by rw[bV (fR q hn)];exact q
 frzs:=λb u xs q=>by rw[bV (fR q hn)];exact q
 tbls:=λb ps q=>⟨#[],by rw[bV (fR q hn),q];simp⟩
theorem Un.write(mu:vW (H x))(he:e=x\/H e=some (.own x))(k:∀b u,b≠e->h.get? b=some u->h'.get? b=some u)(heo:∃u,h'.get? e=some u):Un fs ex H (bA H x o) h h':=by
 have hx:∀b,H b=none->b≠x:=λb n z=>by subst z;rw[n]at mu;exact mu
 have hb:∀b,H b=none->b≠e:=λb n z=>by
  subst z;rcases he with r |r
  .exact hx b n r
  .rw[n]at r;cases r
 have hm:∀b u,H b=some u->¬vW (some u)->b≠x:=λb u q nm z=>by subst z;rw[q]at mu;exact nm mu
 refine⟨λb u q n _ _=>k b u (hb b n) q,λb u q n _ _=>⟨u.slots,k b u (hb b n) q⟩,λb u q n _=>by rw[bV (hx b n)];exact n,λb u q _=>?_,
  λb xs q=>by rw[bV (hm b _ q λz=>z)];exact q,λb u xs q=>by rw[bV (hm b _ q λz=>z)];exact q,λb ps q=>⟨#[],by rw[bV (hm b _ q λz=>z),q];simp⟩⟩
 by_cases hbe:b=e
 .subst hbe;exact heo
 .exact⟨u,k b u hbe q⟩
end
def vT(h:Heap)(H:Hp):List Addr:=(ax h.objs.size).filter λa=>(H a).isSome
def lI(h:Heap)(H:Hp):Heap:=uj h (vT h H)
theorem Hs(h:Heap)(H:Hp):(lI h H).objs.size=h.objs.size:=PySem.W.hideAll_size _ _
theorem Yv{h:Heap}{H:Hp}{b:Addr}{o:Obj}(e:h.get? b=some o)(n:H b=none):(lI h H).get? b=some o:=
 uk _ e λhm=>by
  have q:(H b).isSome=true:=(yc.mp hm).2;rw[n]at q;simp at q
theorem Dy{h:Heap}{H:Hp}{b:Addr}{o:Obj}(e:(lI h H).get? b=some o):h.get? b=some o/\H b=none:=by
 have e':h.get? b=some o:=yd (vT h H) e;refine⟨e',?_⟩;cases q:H b with
 |none=>rfl
 |some x=>
  have hm:b∈vT h H:=yc.mpr ⟨nr.mpr (bi e'),by simp[q]⟩;have z:(lI h H).get? b=none:=PySem.W.hideAll_none (vT h H) hm;rw[z]at e;cases e
def Vz(g h:Heap)(L:Addr):List (Addr×Obj):=(ax h.objs.size).filterMap λa=>if a=L\/(g.get? a).isSome=true then none else(h.get? a).map λo=>(a,o)
def gA(g h:Heap)(L d:Addr):List (Addr×Obj):=(Vz g h L).filter λp=>decide (p.1≠d)
structure Mod(K:ae)(mg:Str->AE)(base:Heap):Prop where
 kin:K.In base
 glob:base.Ns mainGlobals mg
 blt:∃mb,base.Ns builtinsNs mb/\∀x:Str,x≠"__name__"->mb x=bootBuiltins x
 nolimit:base.NoLimit
structure Cx where
 prog:Program
 w:aj
 K:ae
 mg:Str->AE
 base:Heap
 A:al
 N:List Str
 AN:aa
 AO:Hp
 env:ay
 outer:List ay
 stack:List ay
 ex:List Addr
 fn:Str->Bool
 calm:Bool
 pn:List (Addr×Obj)
 xe:Value->aa->Prop
def dM(l:List ay):List Addr:=l.filterMap (·.frame)
abbrev Cx.fs(X:Cx):List Addr:=dM X.outer
def mV(sc:Scope)(x:Str):Prop:=sc.names.lookup x=some .local\/sc.names.lookup x=some .cell\/sc.names.lookup x=some .free
def jU(sc:Scope)(x:Str):Prop:=sc.names.lookup x=some .local\/sc.names.lookup x=some .cell
def aa5(env:ay)(h:Heap)(m:Str->AE)(x:Str)(u:Value):Prop:=
 (env.kindOf x=some .local/\m x=some u)\/((env.kindOf x=some .cell\/env.kindOf x=some .free)/\∃c,env.cells.lookup x=some c/\h.IsCell c (some u))
structure Cx.Ok(X:Cx):Prop where
 mod:Mod X.K X.mg X.base
 kind:X.env.scope.kind=.function
 glob:X.env.globals=mainGlobals
 blt:X.env.builtins=builtinsNs
 above:X.AN.heap.objs.size<=X.env.locals
 inj:∀x y c,X.env.cells.lookup x=some c->X.env.cells.lookup y=some c->x=y
 has:∀x,(X.env.kindOf x=some .cell\/X.env.kindOf x=some .free)->∃c,X.env.cells.lookup x=some c
 cab:∀x c,X.fn x=true->X.env.cells.lookup x=some c->X.AN.heap.objs.size<=c
 hd:X.calm=true->X.A.handled=none
 frames:X.A.frames=some X.stack
 stk:X.stack=X.outer\/(X.stack=X.env::X.outer/\X.env.frame=some X.env.locals)
 exf:∀b∈X.ex,b≠X.env.locals/\∀x c,X.env.cells.lookup x=some c->c≠b
 bs:∀b o,X.base.get? b=some o->X.AN.heap.get? b=some o/\X.AO b=none
 bsz:X.base.objs.size<=X.AN.heap.objs.size
 noex:∀b o,X.base.get? b=some o->b∉X.ex
 exfs:∀b∈X.ex,b∉X.fs
 funs:X.AN.heap.FunFrames X.base X.outer
 frf:∀b∈X.fs,X.AO b=none
structure aH(X:Cx)(AM:List (Addr×Obj))(σ:List (Option V))(H:Hp)(s:aa):Prop where
 ok:X.Ok
 os:s.os=X.AN.os
 bare:ji s.gens
 base:Un X.fs X.ex X.AO H X.AN.heap s.heap
 loc:∃m,s.heap.Ns X.env.locals m/\∀(i:Nat)(x:Str)(v:V),X.N[i]?=some x->σ[i]?=some (some v)->mV X.env.scope x->∃u,bW v u/\aa5 X.env s.heap m x u
 cell:∀x c,X.env.cells.lookup x=some c->∃v,s.heap.IsCell c v
 free:H X.env.locals=none
 freeC:∀x c,X.env.cells.lookup x=some c->H c=none
 pin:∀p∈X.pn++AM,s.heap.get? p.1=some p.2/\H p.1=none/\p.1≠X.env.locals/\p.1∉X.fs/\∀v,p.2.data≠.cell v
 hok:eX X.prog X.w H s.heap
 len:σ.length=X.N.length
section
variable{X:Cx}{AM:List (Addr×Obj)}{σ:List (Option V)}{H H':Hp}{s:aa}{h':Heap}
theorem Cx.Ok.nofr(ok:X.Ok){b:Addr}{o:Obj}(e:X.base.get? b=some o):b∉X.fs:=λhb=>by
 have:=(ok.funs.mem hb).1;rw[e]at this;cases this
theorem aH.bs(I:aH X AM σ H s):∀b o,X.base.get? b=some o->s.heap.get? b=some o/\H b=none:=λb o e=>
 ⟨I.base.keep b o (I.ok.bs b o e).1 (I.ok.bs b o e).2 (I.ok.nofr e) (I.ok.noex b o e),I.base.free b o (I.ok.bs b o e).1 (I.ok.bs b o e).2 (I.ok.noex b o e)⟩
theorem aH.bk(I:aH X AM σ H s):∀b o,X.base.get? b=some o->s.heap.get? b=some o:=λb o e=>(I.bs b o e).1
theorem aH.mod(I:aH X AM σ H s):Mod X.K X.mg X.base:=I.ok.mod
theorem aH.kIn(I:aH X AM σ H s):X.K.In s.heap:=I.ok.mod.kin.keeps I.bk
theorem aH.lt(I:aH X AM σ H s):X.env.locals<s.heap.objs.size:=let⟨_,hn,_⟩:=I.loc;hn.lt
theorem aH.sz(I:aH X AM σ H s):X.AN.heap.objs.size<=s.heap.objs.size:=dw I.ok.above (ph I.lt)
theorem aH.nofs(I:aH X AM σ H s){a:Addr}(h:s.heap.objs.size<=a):a∉X.fs:=λhb=>by
 obtain⟨_,o,ho,_⟩:=I.ok.funs.mem hb;exact absurd (df (bi ho) (dw I.sz h)) (jd _)
theorem aH.cne(I:aH X AM σ H s):∀x c,X.env.cells.lookup x=some c->c≠X.env.locals:=λx c e z=>by
 obtain⟨v,o,ho,hd⟩:=I.cell x c e;obtain⟨m,⟨o',es,ep,ho',hd',_⟩,_⟩:=I.loc;rw[z,ho']at ho;cases ho;rw[hd']at hd;cases hd
theorem aH.funs(I:aH X AM σ H s):s.heap.FunFrames X.base X.outer:=by
 have all:∀(l:List ay),(∀b∈dM l,b∈X.fs)->X.AN.heap.FunFrames X.base l->s.heap.FunFrames X.base l:=by
  intro l
  induction l with
  |nil=>intro _ _;trivial
  |cons env r ih=>
   intro hs hl;obtain⟨hk,⟨L,o,hf,hn,ho,hd⟩,hr⟩:=hl;have hL:L∈X.fs:=hs L (by unfold dM;rw[jk,hf];exact cf);obtain⟨sl,e⟩:=I.base.slot L o ho (I.ok.frf L hL) hL λz=>I.ok.exfs L z hL;exact⟨hk,⟨L,_,hf,hn,e,hd⟩,ih (λb hb=>hs b (by unfold dM;rw[jk,hf];exact bh _ hb)) hr⟩
 exact all X.outer (λ_ hb=>hb) I.ok.funs
theorem aH.stack(I:aH X AM σ H s):s.heap.FunFrames X.base X.stack:=by
 rcases I.ok.stk with e |⟨e,hf⟩
 .rw[e];exact I.funs
 .rw[e]
  obtain⟨m,hn,_⟩:=I.loc;refine .cons (by rw[I.ok.kind];decide) hf hn ?_ I.funs;exact Heap.get?_none_of_le (dw I.ok.bsz I.ok.above)
theorem aH.stkSub(I:aH X AM σ H s):∀b∈dM X.stack,b∈X.env.locals::X.fs:=λb hb=>by
 rcases I.ok.stk with e |⟨e,hf⟩
 .rw[e]at hb;exact bh _ hb
 .rw[e]at hb
  unfold dM at hb;rw[jk,hf]at hb;exact hb
theorem aH.stkFree(I:aH X AM σ H s):∀b∈dM X.stack,H b=none:=λb hb=>by
 rcases ci.mp (I.stkSub b hb)with e |hb
 .rw[e];exact I.free
 .obtain⟨_,o,ho,_⟩:=I.ok.funs.mem hb
  exact I.base.free b o ho (I.ok.frf b hb) λz=>I.ok.exfs b z hb
theorem aH.step{g':Array GenState}{t':Nat}{d':Drawn}{ch:List Addr}(I:aH X AM σ H s)
  (hch:∀b∈ch,(b∈X.ex\/X.AN.heap.objs.size<=b)/\b≠X.env.locals/\(∀x c,X.env.cells.lookup x=some c->c≠b)/\∀p∈X.pn++AM,p.1≠b)
  (keep:∀b o,b≠X.env.locals->b∉X.fs->b∉ch->s.heap.get? b=some o->H b=none->h'.get? b=some o)
  (slot:∀b o,b≠X.env.locals->b∈X.fs->b∉ch->s.heap.get? b=some o->H b=none->∃sl,h'.get? b=some {o with slots:=sl})(free:∀b o,b∉ch->s.heap.get? b=some o->H b=none->H' b=none)
  (there:∀b o,b∉ch->s.heap.get? b=some o->∃o',h'.get? b=some o')
  (tups:∀b xs,H b=some (.tup xs)->H' b=some (.tup xs))(frzs:∀b o u,H b=some (.frz o u)->H' b=some (.frz o u))(tbls:∀b ps,H b=some (.tbl ps)->∃more,H' b=some (.tbl (ps++more)))
  (ns:∀m,s.heap.Ns X.env.locals m->h'.Ns X.env.locals m)(hok:eX X.prog X.w H' h')(hg:ji g'):
  aH X AM σ H' {s with heap:=h',gens:=g',drawn:=d',toks:=t'}:=by
 have neL:∀b o,X.AN.heap.get? b=some o->b≠X.env.locals:=λb o e=>dq (df (bi e) I.ok.above);have neC:∀b o,X.AN.heap.get? b=some o->b∉X.ex->b∉ch:=λb o e hx hb=>by
  rcases(hch b hb).1 with z |z
  .exact hx z
  .exact absurd (df (bi e) z) (jd _)
 have cellK:∀x c,X.env.cells.lookup x=some c->∀v,s.heap.IsCell c v->h'.IsCell c v:=λx c e v ⟨o,ho,hd⟩=>by
  have nch:c∉ch:=λz=>(hch c z).2.2.1 x c e rfl
  by_cases hc:c∈X.fs
  .obtain⟨sl,q⟩:=slot c o (I.cne x c e) hc nch ho (I.freeC x c e)
   exact⟨_,q,hd⟩
  .exact⟨o,keep c o (I.cne x c e) hc nch ho (I.freeC x c e),hd⟩
 refine⟨I.ok,I.os,hg,⟨λb o e n hb hx=>?_,λb o e n hb hx=>?_,λb o e n hx=>?_,λb o e hx=>?_,λb xs e=>tups b xs (I.base.tups b xs e),λb o xs e=>frzs b o xs (I.base.frzs b o xs e),λb ps e=>?_⟩,?_,λx c e=>?_,?_,λx c e=>?_,λp hp=>?_,hok,I.len⟩
 .exact keep b o (neL b o e) hb (neC b o e hx) (I.base.keep b o e n hb hx) (I.base.free b o e n hx)
 .obtain⟨sl,e1⟩:=I.base.slot b o e n hb hx
  obtain⟨sl',e2⟩:=slot b _ (neL b o e) hb (neC b o e hx) e1 (I.base.free b o e n hx);exact⟨sl',e2⟩
 .obtain⟨o',e1⟩:=I.base.there b o e hx
  exact free b o' (neC b o e hx) e1 (I.base.free b o e n hx)
 .obtain⟨o',e1⟩:=I.base.there b o e hx
  exact there b o' (neC b o e hx) e1
 .obtain⟨m1,e1⟩:=I.base.tbls b ps e
  obtain⟨m2,e2⟩:=tbls b _ e1;exact⟨m1++m2,by rw[e2,yb]⟩
 .obtain⟨m,hn,hl⟩:=I.loc
  refine⟨m,ns m hn,λi x v e1 e2 e3=>?_⟩;obtain⟨u,r,l⟩:=hl i x v e1 e2 e3;refine⟨u,r,?_⟩;rcases l with l |⟨k,c,e,z⟩
  .exact .inl l
  .exact .inr ⟨k,c,e,cellK x c e _ z⟩
 .obtain⟨v,z⟩:=I.cell x c e
  exact⟨v,cellK x c e v z⟩
 .obtain⟨m,⟨o,_,_,ho,_⟩,_⟩:=I.loc
  exact free _ o (λz=>(hch _ z).2.1 rfl) ho I.free
 .obtain⟨v,o,ho,hd⟩:=I.cell x c e
  exact free c o (λz=>(hch c z).2.2.1 x c e rfl) ho (I.freeC x c e)
 .obtain⟨e,n,ne,nf,d⟩:=I.pin p hp
  have nch:p.1∉ch:=λz=>(hch p.1 z).2.2.2 p hp rfl;exact⟨keep p.1 p.2 ne nf nch e n,free p.1 p.2 nch e n,ne,nf,d⟩
theorem aH.un{t':Nat}(I:aH X AM σ H s)(u:Un X.fs [] H H' s.heap h')(hok:eX X.prog X.w H' h'):aH X AM σ H' {s with heap:=h',toks:=t'}:=by
 obtain⟨m,⟨o,es,ep,ho,r⟩,_⟩:=id I.loc;obtain⟨sl,hL⟩:=u.any ho I.free (by simp);exact I.step (g':=s.gens) (d':=s.drawn) (ch:=[]) (λ_ z=>nomatch z) (λb o _ hb _ e n=>u.keep b o e n hb (by simp)) (λb o _ hb _ e n=>u.slot b o e n hb (by simp)) (λb o _ e n=>u.free b o e n (by simp)) (λb o _ e=>u.there b o e (by simp)) u.tups u.frzs u.tbls (λm' hm=>by
  obtain⟨o',es',ep',ho',r'⟩:=hm;rw[ho]at ho';cases ho';exact⟨_,es',ep',hL,r'⟩) hok I.bare
theorem aH.call{g':Array GenState}{t':Nat}{d':Drawn}{ch:List Addr}(I:aH X AM σ H s)(u:Un (dM X.stack) ch H H' s.heap h')(hok:eX X.prog X.w H' h')(hg:ji g')
  (hch:∀b∈ch,(b∈X.ex\/X.AN.heap.objs.size<=b)/\b≠X.env.locals/\(∀x c,X.env.cells.lookup x=some c->c≠b)/\∀p∈X.pn++AM,p.1≠b):
  aH X AM σ H' {s with heap:=h',gens:=g',drawn:=d',toks:=t'}:=by
 obtain⟨m,⟨o,es,ep,ho,r⟩,_⟩:=id I.loc;obtain⟨sl,hL⟩:=u.any ho I.free λz=>(hch _ z).2.1 rfl;exact I.step (ch:=ch) hch (λb o hL hb hc e n=>u.keep b o e n (λz=>(ci.mp (I.stkSub b z)).elim hL hb) hc) (λb o _ _ hc e n=>u.any e n hc) (λb o hc e n=>u.free b o e n hc) (λb o hc e=>u.there b o e hc) u.tups u.frzs u.tbls (λm' hm=>by
  obtain⟨o',es',ep',ho',r'⟩:=hm;rw[ho]at ho';cases ho';exact⟨_,es',ep',hL,r'⟩) hok hg
theorem aH.turned{t':Nat}{it:Addr}(I:aH X AM σ H s)(k:∀b o,b≠it->s.heap.get? b=some o->h'.get? b=some o)(hn:H it=none)(hL:it≠X.env.locals)
  (h1:it∈X.ex\/X.AN.heap.objs.size<=it)(h2:∀x c,X.env.cells.lookup x=some c->c≠it)(h3:∀p∈X.pn++AM,p.1≠it):aH X AM σ H {s with heap:=h',toks:=t'}:=by
 have nit:∀b u,H b=some u->b≠it:=λb u e z=>by rw[z,hn]at e;cases e
 refine I.step (g':=s.gens) (d':=s.drawn) (ch:=[it]) (λb hb=>?_) (λb o _ _ hc e _=>k b o (λz=>hc (by simp[z])) e) (λb o _ _ hc e _=>⟨o.slots,k b o (λz=>hc (by simp[z])) e⟩) (λ_ _ _ _ n=>n)
  (λb o hc e=>⟨o,k b o (λz=>hc (by simp[z])) e⟩) (λ_ _ e=>e) (λ_ _ _ e=>e) (λb ps e=>⟨#[],by rw[e];simp⟩) (λm hm=>?_) (λb u e=>?_) I.bare
 .have e:b=it:=by simpa using hb
  subst e;exact⟨h1,hL,h2,h3⟩
 .obtain⟨o,es,ep,ho,r⟩:=hm
  exact⟨o,es,ep,k _ o (je hL) ho,r⟩
 .refine(I.hok b u e).stay (λc v hc q=>k c v ?_ q) (λ_ q=>q) λ_ _ q=>q
  rcases hc with z |z
  .rw[z];exact nit b u e
  .exact nit c _ z
theorem aH.tok(I:aH X AM σ H s)(t:Nat):aH X AM σ H {s with toks:=t}:=I.un (h':=s.heap) (t':=t) Un.refl I.hok
theorem aH.kept{t':Nat}(I:aH X AM σ H s)(k:∀b u,s.heap.get? b=some u->h'.get? b=some u):aH X AM σ H {s with heap:=h',toks:=t'}:=I.un (Un.kept k) (I.hok.kept k)
theorem aH.laid{a:Addr}{o:HO}{t':Nat}(I:aH X AM σ H s)(k:∀b u,s.heap.get? b=some u->h'.get? b=some u)(hp:s.heap.objs.size<=a)(new:fK X.prog X.w (bA H a o) h' a o):
  aH X AM σ (bA H a o) {s with heap:=h',toks:=t'}:=I.un (Un.laid k hp (I.hok.fresh hp)) (I.hok.laid k hp new)
theorem aH.write{x e:Addr}{o:HO}{t':Nat}(I:aH X AM σ H s)(mu:vW (H x))(he:e=x\/H e=some (.own x))(k:∀b u,b≠e->s.heap.get? b=some u->h'.get? b=some u)(heo:∃u,h'.get? e=some u)
  (new:fK X.prog X.w (bA H x o) h' x o):aH X AM σ (bA H x o) {s with heap:=h',toks:=t'}:=I.un (Un.write mu he k heo) (I.hok.write mu he k heo new)
theorem aH.pins_of{pins':List (Addr×Obj)}(I:aH X AM σ H s)(h:∀p∈pins',s.heap.get? p.1=some p.2/\H p.1=none/\p.1≠X.env.locals/\p.1∉X.fs/\∀v,p.2.data≠.cell v):aH X pins' σ H s:=
 ⟨I.ok,I.os,I.bare,I.base,I.loc,I.cell,I.free,I.freeC,λp hp=>(cv.mp hp).elim (λz=>I.pin p (kd _ z)) (h p),I.hok,I.len⟩
theorem Eg{N:List Str}(hN:N.Nodup){i j:Nat}{x:Str}(a:N[i]?=some x)(b:N[j]?=some x):i=j:=by
 obtain⟨h1,e1⟩:=ck.mp a;obtain⟨h2,e2⟩:=ck.mp b;exact(List.getElem_inj hN).mp (e1.trans e2.symm)
theorem Ds{M:kz}{A:al}{E:Value->aa->Prop}{i:Nat}{x:Str}{v:V}{u:Value}{Q:Unit->aa->Prop}(I:aH X AM σ H s)(hN:X.N.Nodup)(hi:X.N[i]?=some x)(hx:jU X.env.scope x)(r:bW v u)
  (h:∀s',aH X AM (σ.set i (some v)) H s'->(∃a,lb a s.heap s'.heap/\(a=X.env.locals\/X.env.cells.lookup x=some a))->Q () s')(hf:X.fn x=true\/X.env.scope.names.lookup x=some .local:=by first |exact .inl rfl |exact .inr rfl |assumption):wpAny M A (storeName X.env x u) Q E s:=by
 obtain⟨m,hn,hl⟩:=id I.loc;have hcls:(X.env.scope.kind== .class||(X.env.scope.kind== .module&&X.env.locals !=X.env.globals))=false:=by rw[I.ok.kind];rfl
 have hiσ:i<σ.length:=by rw[I.len];exact(ck.mp hi).1
 have cne:=I.cne;have tracked:∀{a:Addr}{h':Heap},(∃o,s.heap.get? a=some o/\H a=none)->lb a s.heap h'->eX X.prog X.w H h':=λ{a h'} ha hs b ob e=>by
  obtain⟨_,_,hfree⟩:=ha;refine(I.hok b ob e).stay (λc w' hc q=>(hs.2 c ?_).trans q) (λ_ q=>q) λ_ _ q=>q
  rintro rfl
  rcases hc with rfl |hc
  .rw[hfree]at e;cases e
  .rw[hfree]at hc;cases hc
 rcases hx with hk |hk
 .refine wpAny_storeName_local hk hn (λh' hn' hs=>?_) hcls
  obtain⟨oL,_,_,hoL,_⟩:=id hn;refine h _ ⟨I.ok,I.os,I.bare,⟨λb o e n hb hx=>?_,λb o e n hb hx=>?_,I.base.free,λb o e hx=>?_,I.base.tups,I.base.frzs,I.base.tbls⟩,⟨_,hn',λj y v' e1 e2 e3=>?_⟩,λy c e=>?_,I.free,I.freeC,λp hp=>?_,tracked ⟨oL,hoL,I.free⟩ hs,by simpa using I.len⟩ ⟨_,hs,.inl rfl⟩
  .exact(hs.2 b (dq (df (bi e) I.ok.above))).trans (I.base.keep b o e n hb hx)
  .obtain⟨sl,e1⟩:=I.base.slot b o e n hb hx
   exact⟨sl,(hs.2 b (dq (df (bi e) I.ok.above))).trans e1⟩
  .obtain⟨o',e1⟩:=I.base.there b o e hx
   exact⟨o',(hs.2 b (dq (df (bi e) I.ok.above))).trans e1⟩
  .by_cases hj:j=i
   .subst hj
    rw[hi]at e1;cases e1;rw[fe hiσ]at e2;cases e2;exact⟨u,r,.inl ⟨hk,by simp⟩⟩
   .rw[ft (je hj)]at e2
    obtain⟨u',r',q⟩:=hl j y v' e1 e2 e3;refine⟨u',r',?_⟩;rcases q with⟨k,e⟩|⟨k,c,e,z⟩
    .refine .inl ⟨k,?_⟩
     have:y≠x:=λe=>hj (Eg hN e1 (e▸hi));simp[this,e]
    .exact .inr ⟨k,c,e,z.sameBut hs (cne y c e)⟩
  .obtain⟨w',z⟩:=I.cell y c e
   exact⟨w',z.sameBut hs (cne y c e)⟩
  .obtain⟨e,n,ne,nf,d⟩:=I.pin p hp
   exact⟨(hs.2 p.1 ne).trans e,n,ne,nf,d⟩
 .have hfn:X.fn x=true:=by
   rcases hf with z |z
   .exact z
   .rw[z]at hk;cases hk
  obtain⟨c,hc⟩:=I.ok.has x (.inl hk);obtain⟨w',z⟩:=I.cell x c hc;refine wpAny_storeName_cell I.ok.kind hk hc z (λh' hc' hs=>?_);obtain⟨oc,hoc,hocd⟩:=id z;refine h {s with heap:=h'} ⟨I.ok,I.os,I.bare,⟨λb o e n hb hx=>?_,λb o e n hb hx=>?_,I.base.free,λb o e hx=>?_,I.base.tups,I.base.frzs,I.base.tbls⟩,⟨m,hn.sameBut hs (je (cne x c hc)),λj y v' e1 e2 e3=>?_⟩,λy c' e=>?_,I.free,I.freeC,λp hp=>?_,tracked ⟨oc,hoc,I.freeC x c hc⟩ hs,by simpa using I.len⟩ ⟨c,hs,.inr hc⟩
  .exact(hs.2 b (dq (df (bi e) (I.ok.cab x c hfn hc)))).trans (I.base.keep b o e n hb hx)
  .obtain⟨sl,e1⟩:=I.base.slot b o e n hb hx
   exact⟨sl,(hs.2 b (dq (df (bi e) (I.ok.cab x c hfn hc)))).trans e1⟩
  .obtain⟨o',e1⟩:=I.base.there b o e hx
   exact⟨o',(hs.2 b (dq (df (bi e) (I.ok.cab x c hfn hc)))).trans e1⟩
  .by_cases hj:j=i
   .subst hj
    rw[hi]at e1;cases e1;rw[fe hiσ]at e2;cases e2;exact⟨u,r,.inr ⟨.inl hk,c,hc,hc'⟩⟩
   .rw[ft (je hj)]at e2
    obtain⟨u',r',q⟩:=hl j y v' e1 e2 e3;refine⟨u',r',?_⟩;rcases q with q |⟨k,c',e,z'⟩
    .exact .inl q
    .refine .inr ⟨k,c',e,z'.sameBut hs ?_⟩
     rintro rfl
     exact hj (Eg hN e1 (I.ok.inj _ _ _ e hc▸hi))
  .by_cases hcc:c'=c
   .subst hcc;exact⟨_,hc'⟩
   .obtain⟨w2,z2⟩:=I.cell y c' e
    exact⟨w2,z2.sameBut hs hcc⟩
  .obtain⟨e,n,ne,nf,d⟩:=I.pin p hp
   refine⟨(hs.2 p.1 ?_).trans e,n,ne,nf,d⟩;intro q;rw[q,hoc]at e;have q':oc=p.2:=cg e;exact d w' (by rw[<-q'];exact hocd)
theorem oX{M:kz}{A:al}{E:Value->aa->Prop}{i:Nat}{x:Str}{v:V}{u:Value}{Q:Unit->aa->Prop}(I:aH X AM σ H s)(hN:X.N.Nodup)(hi:X.N[i]?=some x)(hx:jU X.env.scope x)(r:bW v u)
  (h:∀s',aH X AM (σ.set i (some v)) H s'->Q () s')(hf:X.fn x=true\/X.env.scope.names.lookup x=some .local:=by first |exact .inl rfl |exact .inr rfl |assumption):wpAny M A (storeName X.env x u) Q E s:=
 Ds I hN hi hx r (λs' I' _=>h s' I') hf
theorem aH.call'{s':aa}{ch:List Addr}(I:aH X AM σ H s)(ho:s'.os=s.os)(u:Un (dM X.stack) ch H H' s.heap s'.heap)(hok:eX X.prog X.w H' s'.heap)(hg:ji s'.gens)
  (hch:∀b∈ch,(b∈X.ex\/X.AN.heap.objs.size<=b)/\b≠X.env.locals/\(∀x c,X.env.cells.lookup x=some c->c≠b)/\∀p∈X.pn++AM,p.1≠b):aH X AM σ H' s':=by
 obtain⟨h',g',d',t',o'⟩:=s';have e:o'=s.os:=ho;subst e;exact I.call (g':=g') (t':=t') (d':=d') u hok hg hch
end
abbrev XK:=Value->AF->Hp->Prop
abbrev St:=List (Option V)
abbrev VK:=V->Hp->Prop
abbrev TE:=St->Hp->VK->Prop
abbrev TT:=St->Hp->(Bool->Hp->Prop)->Prop
abbrev TA:=St->Hp->(List V->Hp->Prop)->Prop
structure lD where
 nx:St->Hp->Prop
 rt:VK
 bk:St->Hp->Prop:=λ_ _=>False
 ct:St->Hp->Prop:=λ_ _=>False
abbrev TS:=lD->St->Hp->Prop
def EP(X:Cx)(AM:List (Addr×Obj))(σ:St)(Q:VK)(u:Value)(s':aa):Prop:=∃v H',aH X AM σ H' s'/\bW v u/\Q v H'
def TP(X:Cx)(AM:List (Addr×Obj))(σ:St)(Q:Bool->Hp->Prop)(b:Bool)(s':aa):Prop:=∃H',aH X AM σ H' s'/\Q b H'
def AP(X:Cx)(AM:List (Addr×Obj))(σ:St)(Q:List V->Hp->Prop)(us:AD)(s':aa):Prop:=∃vs H',aH X AM σ H' s'/\bC vs us/\Q vs H'
def SP(X:Cx)(AM:List (Addr×Obj))(D:lD)(f:Flow)(s':aa):Prop:=
 match f with
 |.next=>∃σ' H',aH X AM σ' H' s'/\D.nx σ' H'
 |.brk=>∃σ' H',aH X AM σ' H' s'/\D.bk σ' H'
 |.cont=>∃σ' H',aH X AM σ' H' s'/\D.ct σ' H'
 |.ret u=>∃v σ' H',aH X AM σ' H' s'/\bW v u/\D.rt v H'
def PE(X:Cx)(e:ag)(t:TE):Prop:=
 ∀(AM:List (Addr×Obj))(s:aa)(σ:St)(H:Hp)(Q:VK),aH X AM σ H s->t σ H Q->wpAny (model X.prog X.w) X.A (eval e X.env) (EP X AM σ Q) X.xe s
def PT(X:Cx)(e:ag)(t:TT):Prop:=
 ∀(AM:List (Addr×Obj))(s:aa)(σ:St)(H:Hp)(Q:Bool->Hp->Prop),aH X AM σ H s->t σ H Q->wpAny (model X.prog X.w) X.A (isTrue e X.env (eval e X.env)) (TP X AM σ Q) X.xe s
def PW(X:Cx)(e:ag)(t:TT):Prop:=
 ∀(whole:Sem Value)(AM:List (Addr×Obj))(s:aa)(σ:St)(H:Hp)(Q:Bool->Hp->Prop),aH X AM σ H s->t σ H Q->wpAny (model X.prog X.w) X.A (isTrue e X.env whole) (TP X AM σ Q) X.xe s
theorem PW.pt{X:Cx}{e:ag}{t:TT}(h:PW X e t):PT X e t:=h _
def PA(X:Cx)(es:List ag)(t:TA):Prop:=
 ∀(pos:ai)(AM:List (Addr×Obj))(s:aa)(σ:St)(H:Hp)(Q:List V->Hp->Prop),aH X AM σ H s->t σ H Q->wpAny (model X.prog X.w) X.A (spliced (backTo pos (starEach es X.env))) (AP X AM σ Q) X.xe s
def PS(X:Cx)(st:Stmt)(t:TS):Prop:=
 ∀(AM:List (Addr×Obj))(s:aa)(σ:St)(H:Hp)(D:lD),aH X AM σ H s->t D σ H->wpAny (model X.prog X.w) X.A (exec st X.env) (SP X AM D) X.xe s
def fQ(X:Cx)(st:List Stmt)(t:TS):Prop:=
 ∀(AM:List (Addr×Obj))(s:aa)(σ:St)(H:Hp)(D:lD),aH X AM σ H s->t D σ H->wpAny (model X.prog X.w) X.A (execs st X.env) (SP X AM D) X.xe s
theorem bG{α:Type}{t:Sem α}{Q Q':α->aa->Prop}{M:kz}{A:al}{E:Value->aa->Prop}{s:aa}(h:wpAny M A t Q E s)(hQ:∀a s,Q a s->Q' a s):wpAny M A t Q' E s:=jw h hQ λ_ _ x=>x
section
variable{X:Cx}
theorem bin{a b:ag}{ta tb:TE}(ha:PE X a ta)(hb:PE X b tb){AM:List (Addr×Obj)}{s:aa}{σ:St}{H:Hp}{R:V->V->Hp->Prop}(I:aH X AM σ H s)(h:ta σ H λx H1=>tb σ H1 λy H2=>R x y H2)
  {α:Type}{Q:α->aa->Prop}{f:Value->Value->Sem α}
  (hf:∀v u s2 x y H2,aH X AM σ H2 s2->bW x v->bW y u->R x y H2->wpAny (model X.prog X.w) X.A (f v u) Q X.xe s2):
  wpAny (model X.prog X.w) X.A (eval a X.env) (λv AQ=>wpAny (model X.prog X.w) X.A (eval b X.env) (λu AT=>wpAny (model X.prog X.w) X.A (f v u) Q X.xe AT) X.xe AQ) X.xe s:=by
 refine bG (ha AM s σ H _ I h) ?_
 rintro v s1 ⟨x,H1,I1,r1,q1⟩
 refine bG (hb AM s1 σ H1 _ I1 q1) ?_
 rintro u s2 ⟨y,H2,I2,r2,q2⟩
 exact hf v u s2 x y H2 I2 r1 r2 q2
def Wn(i:Nat):TE:=λσ H Q=>∃v,σ[i]?=some (some v)/\Q v H
def tC(v:V):TE:=λ_ H Q=>Q v H
theorem nH{i:Nat}{x:Str}{pos:ai}(hN:X.N[i]?=some x)(hv:mV X.env.scope x)(hd:(x==("__debug__":Str))=false:=by decide)(hcd:(x==("__classdict__":Str))=false:=by decide):PE X (.Name x pos) (Wn i):=by
 intro AM s σ H Q I h;obtain⟨v,e,h⟩:=h;obtain⟨m,hn,hl⟩:=I.loc;obtain⟨u,r,l⟩:=hl i x v hN e hv;have fin:EP X AM σ Q u s:=⟨v,H,I,r,h⟩;rcases l with⟨hk,hm⟩|⟨hk,c,hc,hcell⟩
 .exact ul (ye I.ok.kind hk hn hm fin) hd
 .rcases hk with hk |hk
  .exact ul (yf I.ok.kind hk hc hcell fin) hd
  .exact ul (wpAny_loadName_free I.ok.kind hk hc hcell fin hcd) hd
theorem uK{i j pos}:PE X (.Constant (.int i) j pos) (tC (.int i)):=λ_ _ _ H _ I h=>wpAny_Constant_int ⟨.int i,H,I.tok _,⟨_,rfl⟩,h⟩
theorem aal{b j pos}:PE X (.Constant (.bool b) j pos) (tC (.bl b)):=λ_ _ _ H _ I h=>Constant_bool ⟨.bl b,H,I,rfl,h⟩
theorem M5{x j pos}:PE X (.Constant (.str x) j pos) (tC (.str x)):=λ_ _ _ H _ I h=>Calls.Constant_str ⟨.str x,H,I.tok _,⟨_,rfl⟩,h⟩
def Gl(X:Cx)(x:Str):Prop:=X.env.kindOf x=some .globalImplicit
theorem Pj{E:Value->aa->Prop}{AM:List (Addr×Obj)}{s:aa}{σ:St}{H:Hp}{x:Str}{u:Value}{pos:ai}{Q:Value->aa->Prop}(I:aH X AM σ H s)(hg:Gl X x)(hm:X.mg x=some u)(h:Q u s)
  (hd:(x==("__debug__":Str))=false:=by decide):wpAny (model X.prog X.w) X.A (eval (.Name x pos) X.env) Q E s:=
 yg I.ok.kind hg (Calls.loadGlobal_global (by rw[I.ok.glob];exact I.mod.glob.keeps I.bk) hm h) hd
theorem nJ{E:Value->aa->Prop}{AM:List (Addr×Obj)}{s:aa}{σ:St}{H:Hp}{x:Str}{u:Value}{pos:ai}{Q:Value->aa->Prop}(I:aH X AM σ H s)(hg:Gl X x)(hm:X.mg x=none)(hv:bootBuiltins x=some u)(h:Q u s)
  (hn:x≠"__name__":=by decide)(hd:(x==("__debug__":Str))=false:=by decide):wpAny (model X.prog X.w) X.A (eval (.Name x pos) X.env) Q E s:=by
 obtain⟨mb,h1,h2⟩:=I.mod.blt;exact yg I.ok.kind hg (Calls.loadGlobal_builtin (by rw[I.ok.glob];exact I.mod.glob.keeps I.bk) hm (by rw[I.ok.blt];exact h1.keeps I.bk) ((h2 x hn).trans hv) h) hd
theorem Ky{x:Str}{v:V}{u:Value}{pos:ai}(hg:Gl X x)(hm:X.mg x=none)(hv:bootBuiltins x=some u)(r:bW v u)(hn:x≠"__name__":=by decide)(hd:(x==("__debug__":Str))=false:=by decide):PE X (.Name x pos) (tC v):=
 λ_ _ _ H _ I h=>nJ I hg hm hv ⟨v,H,I,r,h⟩ hn hd
variable{a b:ag}{ta tb:TE}{pos:ai}
def PC(X:Cx)(op:ke)(a b:ag)(t:TE):Prop:=
 ∀(AM:List (Addr×Obj))(s:aa)(σ:St)(H:Hp)(Q:VK),aH X AM σ H s->t σ H Q->
  wpAny (model X.prog X.w) X.A (eval a X.env) (λv AQ=>wpAny (model X.prog X.w) X.A (eval b X.env) (λu AT=>wpAny (model X.prog X.w) X.A (compareOp op v u) (EP X AM σ Q) X.xe AT) X.xe AQ) X.xe s
theorem Zu(b:ag){op:ke}(h:op≠.In)(h2:op≠.NotIn):behindInMarks op b=false:=by
 have e1:(op==CmpOp.In)=false:=by cases op<;>first |rfl |exact absurd rfl h
 have e2:(op==CmpOp.NotIn)=false:=by cases op<;>first |rfl |exact absurd rfl h2
 cases b<;>simp[behindInMarks,e1,e2]
def tB(t:TE):TT:=λσ H Q=>t σ H λx H1=>∃c,x=.bl c/\Q c H1
theorem aau{op:ke}{t:TE}(h:PC X op a b t)(h1:behindInMarks op b=false:=by first |exact Zu _ (by decide) (by decide) |rfl):PT X (.Compare a [op] [b] pos) (tB t):=by
 intro AM s σ H Q I hw;refine yh (bG (h AM s σ H _ I hw) λv s1 h1=>bG h1 λu s2 h2=>bG h2 λc s3 hq=>?_) h1;rcases hq with⟨x,H1,I1,r1,q1⟩;obtain⟨d,rfl,q⟩:=q1;cases r1;exact pr ⟨H1,I1,q⟩
theorem N3{e:ag}{t:TE}(h:PE X e t)(he:∀whole,isTrue e X.env whole=(do let v <-whole;standAt e.pos;holding [v] (truthy v)):=by intro _;rfl):PT X e (tB t):=by
 intro AM s σ H Q I hw;refine isTrue_plain (bG (h AM s σ H _ I hw) λv s1 hq=>?_) (he _);rcases hq with⟨x,H1,I1,r1,q1⟩;obtain⟨d,rfl,q⟩:=q1;cases r1;exact pr ⟨H1,I1,q⟩
variable{tA tB':TT}{gA:List ag}
def aaW(t u:TT):TT:=λσ H Q=>t σ H λc H1=>if c=true then u σ H1 Q else Q false H1
def tOr(t u:TT):TT:=λσ H Q=>t σ H λc H1=>if c=true then Q true H1 else u σ H1 Q
def aaE(t:TT):TT:=λσ H Q=>t σ H λc H1=>Q (!c) H1
theorem Ax(ha:PT X a tA):PW X (.BoolOp .And [a] pos) tA:=by
 intro wh AM s σ H Q I h;refine isTrue_and (bG (ha AM s σ H Q I h) λc s1 e=>?_);cases c with
 |true=>exact isTrue_and_nil e
 |false=>exact e
theorem L6(ha:PT X a tA):PW X (.BoolOp .Or [a] pos) tA:=by
 intro wh AM s σ H Q I h;refine isTrue_or (bG (ha AM s σ H Q I h) λc s1 e=>?_);cases c with
 |false=>exact isTrue_or_nil e
 |true=>exact e
theorem O4(ha:PT X a tA)(hb:PW X (.BoolOp .And (b::gA) pos) tB'):PW X (.BoolOp .And (a::b::gA) pos) (aaW tA tB'):=by
 intro wh AM s σ H Q I h;refine isTrue_and (bG (ha AM s σ H _ I h) λc s1 hq=>?_);rcases hq with⟨H1,I1,q1⟩;cases c with
 |true=>exact hb wh AM s1 σ H1 Q I1 q1
 |false=>exact⟨H1,I1,q1⟩
theorem W6(ha:PT X a tA)(hb:PW X (.BoolOp .Or (b::gA) pos) tB'):PW X (.BoolOp .Or (a::b::gA) pos) (tOr tA tB'):=by
 intro wh AM s σ H Q I h;refine isTrue_or (bG (ha AM s σ H _ I h) λc s1 hq=>?_);rcases hq with⟨H1,I1,q1⟩;cases c with
 |true=>exact⟨H1,I1,q1⟩
 |false=>exact hb wh AM s1 σ H1 Q I1 q1
theorem G4(ha:PT X a tA):PT X (.UnaryOp .Not a pos) (aaE tA):=by
 intro AM s σ H Q I h;exact isTrue_not (ha AM s σ H (λc H1=>Q (!c) H1) I h)
def S8(ta tb:TE):TE:=λσ H Q=>ta σ H λx H1=>∃c,x=.bl c/\if c=true then tb σ H1 Q else Q (.bl false) H1
def T8(ta:TE):TE:=λσ H Q=>ta σ H λx H1=>∃c,x=.bl c/\Q (.bl (!c)) H1
theorem J5(ha:PE X a ta)(hb:PE X (.BoolOp .And (b::gA) pos) tb):PE X (.BoolOp .And (a::b::gA) pos) (S8 ta tb):=by
 intro AM s σ H Q I h;refine BoolOp_and (bG (ha AM s σ H _ I h) λv s1 hq=>?_);rcases hq with⟨x,H1,I1,r1,q1⟩;obtain⟨c,rfl,q1⟩:=q1;cases r1;refine pr ?_;cases c with
 |true=>exact hb AM s1 σ H1 Q I1 q1
 |false=>exact⟨.bl false,H1,I1,rfl,q1⟩
theorem G3(ha:PE X a ta):PE X (.UnaryOp .Not a pos) (T8 ta):=by
 intro AM s σ H Q I h;refine UnaryOp_ (bG (ha AM s σ H _ I h) λv s1 hq=>?_);rcases hq with⟨x,H1,I1,r1,q1⟩;obtain⟨c,rfl,q1⟩:=q1;cases r1;exact not_of (pr ⟨.bl (!c),H1,I1,rfl,q1⟩)
end
def bT(K:ae)(H:Hp)(a:Addr)(xs:List V):Prop:=
 Rd H a (.lst xs)\/
  ∃(o:Obj)(its:Array Value)(n:Nat),K.lookup a=some o/\o.cls=.type "list"/\o.dict=none/\o.data=.seq its n/\its.size<=sizeLine/\bC xs its.toList
def dA(K:ae)(H:Hp)(a:Addr)(xs:List V):Prop:=
 Rd H a (.tup xs)\/
  ∃(o:Obj)(its:Array Value)(n:Nat),K.lookup a=some o/\(o.cls=.type "tuple"/\o.dict=none)/\o.data=.seq its n/\its.size<=sizeLine/\bC xs its.toList
def aaU:Value->Option V
 |.none=>some .non
 |.bool b=>some (.bl b)
 |.int i _=>some (.int i)
 |.str x _=>some (.str x)
 |.bytes b _=>some (.byt b)
 |.float b _=>some (.flt b)
 |.ref a=>some (.ref a)
 |.type n=>some (.ty n)
 |_=>none
theorem bW.abs{x:V}{u:Value}(r:bW x u):aaU u=some x:=by
 cases x with
 |non=>cases r;rfl
 |bl _=>cases r;rfl
 |int _=>obtain⟨t,rfl⟩:=r;rfl
 |str _=>obtain⟨t,rfl⟩:=r;rfl
 |byt _=>obtain⟨t,rfl⟩:=r;rfl
 |flt _=>obtain⟨t,rfl⟩:=r;rfl
 |ref _=>cases r;rfl
 |ty _=>cases r;rfl
theorem bW.inj{x y:V}{u:Value}(r:bW x u)(q:bW y u):x=y:=cg (r.abs.symm.trans q.abs)
theorem bC.inj:∀{xs ys:List V}{us:AD},bC xs us->bC ys us->xs=ys
 |_,_,_,.nil,.nil=>rfl
 |_,_,_,.cons r t,.cons r' t'=>by rw[r.inj r',bC.inj t t']
section
variable{X:Cx}{AM:List (Addr×Obj)}{σ:St}{H:Hp}{s:aa}{a:Addr}{xs ys:List V}
theorem bT.of{K:ae}(h:H a=some (.lst xs)):bT K H a xs:=.inl (.inl h)
theorem dA.of{K:ae}(h:H a=some (.tup xs)):dA K H a xs:=.inl (.inl h)
theorem aH.list(I:aH X AM σ H s)(h:bT X.K H a xs):∃its:AD,bC xs its/\PlainL s.heap a its.toArray/\xs.length<=sizeLine:=by
 rcases h with h |⟨o,its,n,hk,hc,hd,hs,hz,r⟩
 .obtain⟨z,its,n,r,e⟩:=h.ok I.hok
  exact⟨its,r,⟨_,n,e,rfl,rfl,rfl⟩,z⟩
 .refine⟨its.toList,r,⟨o,n,I.kIn a o hk,hc,hd,by simpa using hs⟩,?_⟩
  have e:=r.length;simp only[jp]at e;omega
theorem aH.tuple(I:aH X AM σ H s)(h:dA X.K H a xs):∃its:AD,bC xs its/\IsTup s.heap a its.toArray/\xs.length<=sizeLine:=by
 rcases h with h |⟨o,its,n,hk,hc,hs,hz,r⟩
 .obtain⟨z,its,r,p⟩:=h.ok I.hok
  exact⟨its,r,p,z.1⟩
 .refine⟨its.toList,r,⟨o,I.kIn a o hk,hc.1,n,by simpa using hs⟩,?_⟩
  have e:=r.length;simp only[jp]at e;omega
theorem aH.list_inj(I:aH X AM σ H s)(h:bT X.K H a xs)(h':bT X.K H a ys):xs=ys:=by
 obtain⟨its,r,⟨o,n,e,_,_,d⟩,_⟩:=I.list h;obtain⟨its',r',⟨o',n',e',_,_,d'⟩,_⟩:=I.list h';rw[e]at e';cases e';rw[d]at d';injection d' with d1 _;have:its=its':=by simpa using congrArg um d1
 subst this;exact r.inj r'
theorem aH.tuple_inj(I:aH X AM σ H s)(h:dA X.K H a xs)(h':dA X.K H a ys):xs=ys:=by
 obtain⟨its,r,⟨o,e,_,n,d⟩,_⟩:=I.tuple h;obtain⟨its',r',⟨o',e',_,n',d'⟩,_⟩:=I.tuple h';rw[e]at e';cases e';rw[d]at d';injection d' with d1 _;have:its=its':=by simpa using congrArg um d1
 subst this;exact r.inj r'
end
abbrev Cx.wish(X:Cx)(E:Value->aa->Prop):Cx:={X with xe:=E}
abbrev Cx.nox(X:Cx):Cx:=X.wish λ_ _=>False
theorem Cx.Ok.wish{X:Cx}(ok:X.Ok)(E:Value->aa->Prop):(X.wish E).Ok:=
 ⟨ok.mod,ok.kind,ok.glob,ok.blt,ok.above,ok.inj,ok.has,ok.cab,ok.hd,ok.frames,ok.stk,ok.exf,ok.bs,ok.bsz,ok.noex,ok.exfs,ok.funs,ok.frf⟩
theorem Cx.Ok.unwish{X:Cx}{E:Value->aa->Prop}(ok:(X.wish E).Ok):X.Ok:=
 ⟨ok.mod,ok.kind,ok.glob,ok.blt,ok.above,ok.inj,ok.has,ok.cab,ok.hd,ok.frames,ok.stk,ok.exf,ok.bs,ok.bsz,ok.noex,ok.exfs,ok.funs,ok.frf⟩
section
variable{X:Cx}{AM:List (Addr×Obj)}{σ:St}{H:Hp}{s:aa}{E:Value->aa->Prop}
theorem aH.wish(I:aH X AM σ H s)(E:Value->aa->Prop):aH (X.wish E) AM σ H s:=⟨I.ok.wish E,I.os,I.bare,I.base,I.loc,I.cell,I.free,I.freeC,I.pin,I.hok,I.len⟩
theorem aH.unwish(I:aH (X.wish E) AM σ H s):aH X AM σ H s:=⟨I.ok.unwish,I.os,I.bare,I.base,I.loc,I.cell,I.free,I.freeC,I.pin,I.hok,I.len⟩
theorem SP.unwish{D:lD}{f:Flow}{s':aa}(h:SP (X.wish E) AM D f s'):SP X AM D f s':=by
 cases f with
 |next=>obtain⟨σ',H',I,q⟩:=h;exact⟨σ',H',I.unwish,q⟩
 |brk=>obtain⟨σ',H',I,q⟩:=h;exact⟨σ',H',I.unwish,q⟩
 |cont=>obtain⟨σ',H',I,q⟩:=h;exact⟨σ',H',I.unwish,q⟩
 |ret u=>obtain⟨v,σ',H',I,r,q⟩:=h;exact⟨v,σ',H',I.unwish,r,q⟩
theorem fQ.nox{st:List Stmt}{t:TS}(h:fQ X.nox st t):fQ X st t:=λAM s σ H D I hw=>
 jw (h AM s σ H D (I.wish _) hw) (λ_ _ q=>q.unwish) λ_ _ z=>jq z
end
section
variable{X:Cx}{st:Stmt}{gA:List Stmt}{t u:TS}{e:ag}{te:TE}{pos:ai}
def U3:TS:=λD σ H=>D.nx σ H
def aaz(t u:TS):TS:=λD σ H=>t {D with nx:=u D} σ H
theorem B9:fQ X [] U3:=λ_ _ σ H _ I h=>qv ⟨σ,H,I,h⟩
theorem Hv(h1:PS X st t)(h2:fQ X gA u):fQ X (st::gA) (aaz t u):=by
 intro AM s σ H D I h;refine wpAny_execs_cons (bG (h1 AM s σ H {D with nx:=u D} I h) λf s1 q=>?_);cases f with
 |next=>
  obtain⟨σ',H',I',q⟩:=q;exact h2 AM s1 σ' H' D I' q
 |ret v=>exact q
 |brk=>exact q
 |cont=>exact q
theorem Hi(h1:PS X st t):fQ X [st] t:=by
 intro AM s σ H D I h;refine wpAny_execs_cons (bG (h1 AM s σ H D I h) λf s1 q=>?_);cases f with
 |next=>exact qv q
 |ret v=>exact q
 |brk=>exact q
 |cont=>exact q
theorem aH.quiet{AM:List (Addr×Obj)}{σ:St}{H:Hp}{s:aa}(I:aH X AM σ H s):interactive X.env=false:=by simp[interactive,I.ok.kind]
def Y8(te:TE):TS:=λD σ H=>te σ H λ_ H1=>D.nx σ H1
theorem B5(he:PE X e te)(hs:swapsWith e none pos.line X.env=pure false:=by rfl):PS X (.Expr e pos) (Y8 te):=by
 intro AM s σ H D I h;exact wpAny_Expr_any (bG (he AM s σ H _ I h) λv s1 ⟨x,H1,I1,r1,q1⟩=>⟨σ,H1,I1,q1⟩) I.quiet hs
def aa0(te:TE):TS:=λD σ H=>te σ H D.rt
theorem J9(he:PE X e te):PS X (.Return (some e) pos) (aa0 te):=by
 intro AM s σ H D I h;exact wpAny_Return_some (bG (he AM s σ H _ I h) λv s1 ⟨x,H1,I1,r1,q1⟩=>⟨x,σ,H1,I1,r1,q1⟩)
def aaM(c:TT)(t u:TS):TS:=λD σ H=>c σ H λb H1=>if b=true then t D σ H1 else u D σ H1
theorem V8{c:ag}{a b:List Stmt}{tc:TT}(hc:PT X c tc)(ha:fQ X a t)(hb:fQ X b u):PS X (.If c a b pos) (aaM tc t u):=by
 intro AM s σ H D I h;refine wpAny_If (bG (hc AM s σ H _ I h) λd s1 hq=>?_);rcases hq with⟨H1,I1,q1⟩;cases d with
 |true=>exact ha AM s1 σ H1 D I1 q1
 |false=>exact hb AM s1 σ H1 D I1 q1
end
abbrev TG:=V->St->Hp->(St->Hp->Prop)->Prop
abbrev lN:=List V->St->Hp->(St->Hp->Prop)->Prop
def PG(X:Cx)(target:ag)(t:TG):Prop:=
 ∀(AM:List (Addr×Obj))(s:aa)(σ:St)(H:Hp)(v:V)(u:Value)(Q:St->Hp->Prop),aH X AM σ H s->bW v u->t v σ H Q->
  wpAny (model X.prog X.w) X.A (assign target X.env u) (λ_ s'=>∃σ' H',aH X AM σ' H' s'/\Q σ' H') X.xe s
def kS(X:Cx)(ts:List ag)(t:lN):Prop:=
 ∀(AM:List (Addr×Obj))(s:aa)(σ:St)(H:Hp)(vs:List V)(us:AD)(Q:St->Hp->Prop),aH X AM σ H s->bC vs us->t vs σ H Q->
  wpAny (model X.prog X.w) X.A (assignInOrder ((assignEach ts X.env).map (·.2)) us) (λ_ s'=>∃σ' H',aH X AM σ' H' s'/\Q σ' H') X.xe s
abbrev Ib:=V->V->V->Hp->(Hp->Prop)->Prop
def Fo(X:Cx)(t:Ib):Prop:=
 ∀(AM:List (Addr×Obj))(s:aa)(σ:St)(H:Hp)(o i v:V)(ov iv u:Value)(Q:Hp->Prop),aH X AM σ H s->bW o ov->bW i iv->bW v u->t o i v H Q->
  wpAny (model X.prog X.w) X.A (setItem ov iv u) (λ_ s'=>∃H',aH X AM σ H' s'/\Q H') X.xe s
abbrev sH:=V->V->Hp->VK->Prop
def PIp(X:Cx)(op:qa)(t:sH):Prop:=
 ∀(AM:List (Addr×Obj))(s:aa)(σ:St)(H:Hp)(x y:V)(v u:Value)(Q:VK),aH X AM σ H s->bW x v->bW y u->t x y H Q->
  wpAny (model X.prog X.w) X.A (inplaceOp op v u) (EP X AM σ Q) X.xe s
section
variable{X:Cx}{pos:ai}
def Fa(i:Nat):TG:=λv σ H Q=>Q (σ.set i (some v)) H
theorem Qj{i:Nat}{x:Str}(hN:X.N.Nodup)(hi:X.N[i]?=some x)(hx:jU X.env.scope x)(hf:X.fn x=true\/X.env.scope.names.lookup x=some .local:=by first |exact .inl rfl |exact .inr rfl |assumption):PG X (.Name x pos) (Fa i):=by
 intro AM s σ H v u Q I r h;exact wpAny_assign_Name (oX I hN hi hx r (λs' I'=>⟨_,H,I',h⟩) hf)
def aaH:lN:=λvs σ H Q=>vs=[]/\Q σ H
def Y6(t:TG)(u:lN):lN:=λvs σ H Q=>∃v r,vs=v::r/\t v σ H λσ' H'=>u r σ' H' Q
theorem Zy:kS X [] aaH:=by
 intro AM s σ H vs us Q I r h;obtain⟨e,h⟩:=h;subst e;cases r;exact assignInOrder_nil ⟨σ,H,I,h⟩
theorem Yu{e:ag}{es:List ag}{t:TG}{u:lN}(h1:PG X e t)(h2:kS X es u)
  (hs:(assignEach (e::es) X.env).map (·.2)=assign e X.env::(assignEach es X.env).map (·.2):=by rfl):kS X (e::es) (Y6 t u):=by
 intro AM s σ H vs us Q I r h;obtain⟨v,vr,e1,h⟩:=h;subst e1;cases r with
 |cons r rr=>
  rw[hs];refine uo (bG (h1 AM s σ H _ _ _ I r h) λ_ s1 hq=>?_);rcases hq with⟨σ1,H1,I1,q1⟩;exact h2 AM s1 σ1 H1 _ _ Q I1 rr q1
def aay(K:ae)(n:Nat)(t:lN):TG:=λv σ H Q=>∃a xs,v=.ref a/\dA K H a xs/\xs.length=n/\t xs σ H Q
theorem M9{es:List ag}{k:Nat}{t:lN}{n:Nat}(hc:X.calm=true)(h:kS X es t)
  (hn:(assignEach es X.env).length=n:=by rfl)(hst:(assignEach es X.env).findIdx? (·.1)=none:=by rfl):PG X (.Tuple es k pos) (aay X.K n t):=by
 intro AM s σ H v u Q I r hw;obtain⟨a,xs,e1,hq,hl,hw⟩:=hw;subst e1;cases r;obtain⟨its,rv,ht,hz⟩:=I.tuple hq;refine assign_Tuple_tuple (I.ok.hd hc) ht (by simp[hn,<-hl,rv.length]) hst λh' hx=>?_;have I1:aH X AM σ H {s with heap:=h'}:=I.kept (t':=s.toks) λb o e=>hx b o (dq (bi e)) e;exact h AM _ σ H xs _ Q I1 (by simpa using rv) hw
def aa3(to ti:TE)(t:Ib):TG:=λv σ H Q=>to σ H λo H1=>ti σ H1 λi H2=>t o i v H2 λH3=>Q σ H3
theorem Pk{o i:ag}{to ti:TE}{t:Ib}(ho:PE X o to)(hi:PE X i ti)(hs:Fo X t)
  (ha:∀v,assign (.Subscript o i pos) X.env v=(do
   let ov <-holding [v] (eval o X.env)
   let iv <-holding [v,ov] (eval i X.env)
   standAt pos
   holding [v,ov,iv] (setItem ov iv v)
   release [v,ov,iv] []):=by intro _;rfl):PG X (.Subscript o i pos) (aa3 to ti t):=by
 intro AM s σ H v u Q I r h;rw[ha];refine ah (lc (bG (ho AM s σ H _ I h) λov s1 hq=>?_));rcases hq with⟨x,H1,I1,r1,q1⟩;refine ah (lc (bG (hi AM s1 σ H1 _ I1 q1) λiv s2 hq=>?_));rcases hq with⟨y,H2,I2,r2,q2⟩;refine ah (qw (ah (lc (bG (hs AM s2 σ H2 x y v ov iv u _ I2 r1 r2 r q2) λ_ s3 hq=>?_))));rcases hq with⟨H3,I3,q3⟩;exact wpAny_release ⟨σ,H3,I3,q3⟩
def Eb(te:TE)(g:TG):TS:=λD σ H=>te σ H λx H1=>g x σ H1 D.nx
theorem Uk{tg e:ag}{te:TE}{g:TG}(he:PE X e te)(hg:PG X tg g)(hs:swapsWithSole [tg] e pos.line X.env=pure false:=by rfl)(hw:swappedStores [tg] e X.env=pure none:=by rfl)
  (h1:(assignEach [tg] X.env).map (·.2)=[assign tg X.env]:=by rfl):PS X (.Assign [tg] e pos) (Eb te g):=by
 intro AM s σ H D I h;refine wpAny_Assign_stores (bG (he AM s σ H _ I h) λv s1 hq=>?_) hs hw;rcases hq with⟨x,H1,I1,r1,q1⟩;rw[h1];exact bG (hg AM s1 σ H1 x v _ I1 r1 q1) λ_ s2 q=>q
theorem K8{i:Nat}{x:Str}{e:ag}{te:TE}{pos':ai}(hN:X.N.Nodup)(hi:X.N[i]?=some x)(hx:jU X.env.scope x)(he:PE X e te)(hs:swapsWith e (some (.Name x pos')) pos.line X.env=pure false:=by rfl)(hf:X.fn x=true\/X.env.scope.names.lookup x=some .local:=by first |exact .inl rfl |exact .inr rfl |assumption):
  PS X (.Assign [.Name x pos'] e pos) (Eb te (Fa i)):=by
 intro AM s σ H D I h;refine wpAny_Assign_Name (bG (he AM s σ H _ I h) λv s1 hq=>?_) hs;rcases hq with⟨y,H1,I1,r1,q1⟩;exact oX I1 hN hi hx r1 (λs2 I2=>⟨_,H1,I2,q1⟩) hf
def aaN(i j:Nat)(ta:TA):TS:=λD σ H=>ta σ H λvs H1=>∃v w,vs=[v,w]/\D.nx ((σ.set i (some v)).set j (some w)) H1
theorem G8{i j:Nat}{x y:Str}{a b:ag}{ta:TA}{px py pt:ai}{kt k2 pt2}(hc:X.calm=true)(hN:X.N.Nodup)(hi:X.N[i]?=some x)(hj:X.N[j]?=some y)(hij:i≠j)
  (hx:X.env.scope.names.lookup x=some .local)(hy:X.env.scope.names.lookup y=some .local)(ha:PA X [a,b] ta)
  (hw:swappedStores [.Tuple [.Name x px,.Name y py] kt pt] (.Tuple [a,b] k2 pt2) X.env=pure (some [x,y]))
  (hs:swapsWithSole [.Tuple [.Name x px,.Name y py] kt pt] (.Tuple [a,b] k2 pt2) pos.line X.env=pure false:=by rfl):
  PS X (.Assign [.Tuple [.Name x px,.Name y py] kt pt] (.Tuple [a,b] k2 pt2) pos) (aaN i j ta):=by
 intro AM s σ H D I h;rw[exec_Assign_arm];refine ah (qw ?_);rw[hs];refine ah (bf ?_);rw[if_neg (by decide)];refine ah (Tuple_ (bG (ha _ AM s σ H _ I h) λus s1 hq=>?_));rcases hq with⟨vs,H1,I1,r1,q1⟩;obtain⟨v,w,e1,q1⟩:=q1;subst e1;obtain⟨u1,u2,rfl,rv,rw'⟩:∃u1 u2,us=[u1,u2]/\bW v u1/\bW w u2:=by
  cases r1 with
  |cons p q=>
   cases q with
   |cons p' q'=>
    cases q';exact⟨_,_,rfl,p,p'⟩
 refine jx ?_ (by show 2<=sizeLine;decide);have I2:aH X AM σ H1 {s1 with heap:=s1.heap.push {cls:=.type "tuple",data:=.seq [u1,u2].toArray}}:=I1.kept (t':=s1.toks) λb o e=>aw _ e;rw[hw];refine ah (bf ?_);show wpAny (model X.prog X.w) X.A (do rule "assign.swapped-stores";let items <-unpackItems (.ref s1.heap.objs.size) 2 none;assignInOrder [λv=>bindName X.env y v,λv=>bindName X.env x v] items.reverse;pure Flow.next) _ _ _
 refine ah (nu (ah (unpackItems_tuple (items:=#[u1,u2]) (I.ok.hd hc) (qx s1.heap _) λh' hx'=>?_)));have I3:=I2.kept (h':=h') (t':=s1.toks) λb o e=>hx' b o (dq (bi e)) e;show wpAny _ _ (assignInOrder [λv=>bindName X.env y v,λv=>bindName X.env x v] [u2,u1] >>= λ_=>pure Flow.next) _ _ _
 refine ah (uo (wpAny_bindName (oX I3 hN hj (.inl hy) rw' (λs2 I4=>?_) (.inr hy))));refine uo (wpAny_bindName (oX I4 hN hi (.inl hx) rv (λs3 I5=>assignInOrder_nil (bf ?_)) (.inr hx)));rw[List.set_comm _ _ (je hij)]at I5;exact⟨_,H1,I5,q1⟩
def aa6(i:Nat)(te:TE)(ti:sH):TS:=λD σ H=>∃x,σ[i]?=some (some x)/\te σ H λy H1=>ti x y H1 λz H2=>D.nx (σ.set i (some z)) H2
theorem Dl{i:Nat}{x:Str}{e:ag}{te:TE}{op:qa}{ti:sH}{pos':ai}(hN:X.N.Nodup)(hi:X.N[i]?=some x)(hx:jU X.env.scope x)(he:PE X e te)(ho:PIp X op ti)(hf:X.fn x=true\/X.env.scope.names.lookup x=some .local:=by first |exact .inl rfl |exact .inr rfl |assumption):
  PS X (.AugAssign (.Name x pos') op e pos) (aa6 i te ti):=by
 intro AM s σ H D I h;obtain⟨v,e1,h⟩:=h;obtain⟨m,hn,hl⟩:=I.loc;have vis:mV X.env.scope x:=by rcases hx with k |k;exact .inl k;exact .inr (.inl k)
 obtain⟨u,r,l⟩:=hl i x v hi e1 vis;refine wpAny_AugAssign_Name ?_;have go:wpAny (model X.prog X.w) X.A (eval e X.env) (λw AT=>wpAny (model X.prog X.w) X.A (inplaceOp op u w) (λr s₃=>wpAny (model X.prog X.w) X.A (storeName X.env x r) (λ_=>SP X AM D .next) X.xe s₃) X.xe AT) X.xe s:=by
  refine bG (he AM s σ H _ I h) ?_
  rintro w s1 ⟨y,H1,I1,r1,q1⟩
  refine bG (ho AM s1 σ H1 v y u w _ I1 r r1 q1) ?_
  rintro z s2 ⟨zv,H2,I2,r2,q2⟩
  exact oX I2 hN hi hx r2 (λs3 I3=>⟨_,H2,I3,q2⟩) hf
 rcases l with⟨hk,hm⟩|⟨hk,c,hc,hcell⟩
 .exact ye I.ok.kind hk hn hm go
 .rcases hk with hk |hk
  .exact yf I.ok.kind hk hc hcell go
  .rcases hx with k |k
   .have:X.env.scope.names.lookup x=some .free:=hk
    rw[k]at this;cases this
   .have:X.env.scope.names.lookup x=some .free:=hk
    rw[k]at this;cases this
def Vb(f:Int->Int->Int):sH:=λx y H Q=>∃i j,x=.int i/\y=.int j/\Q (.int (f i j)) H
theorem O3:PIp X .Add (Vb λi j=>i+j):=by
 intro AM s σ H x y v u Q I r1 r2 h;obtain⟨i,j,e1,e2,q⟩:=h;subst e1;subst e2;obtain⟨t,rfl⟩:=r1;obtain⟨t',rfl⟩:=r2;exact iadd_int ⟨.int _,H,I.tok _,⟨_,rfl⟩,q⟩
theorem I0:PIp X .Sub (Vb λi j=>i-j):=by
 intro AM s σ H x y v u Q I r1 r2 h;obtain⟨i,j,e1,e2,q⟩:=h;subst e1;subst e2;obtain⟨t,rfl⟩:=r1;obtain⟨t',rfl⟩:=r2;exact isub_int ⟨.int _,H,I.tok _,⟨_,rfl⟩,q⟩
end
section
variable{X:Cx}{pos:ai}
def K0(c:TT)(tb:TS):TS:=λD σ H=>∃W:Nat->St->Hp->Prop,(∃m,W m σ H)/\∀m σ H,W m σ H->
 c σ H λb H1=>if b=true then ∃N:St->Hp->Prop,(∀σ' H',N σ' H'->∃m',m'<m/\W m' σ' H')/\tb {D with nx:=N,ct:=N,bk:=D.nx} σ H1 else D.nx σ H1
theorem Av{c:ag}{body:List Stmt}{tc:TT}{tb:TS}(hp:qc (model X.prog X.w) X.A X.env X.xe)(hc:PT X c tc)(hb:fQ X body tb):PS X (.While c body [] pos) (K0 tc tb):=by
 intro AM s σ H D I h;obtain⟨W,⟨m0,w0⟩,turn⟩:=h;refine wpAny_While (codeAny_whileLoop (λn s'=>∃σ' H',aH X AM σ' H' s'/\W n σ' H') ?_ m0 ⟨σ,H,I,w0⟩)
 rintro n s1 ⟨σ1,H1,I1,w1⟩
 refine lg hp (bG (hc AM s1 σ1 H1 _ I1 (turn n σ1 H1 w1)) λb s2 hq=>?_);rcases hq with⟨H2,I2,q2⟩;cases b with
 |true=>
  obtain⟨N,hN,q2⟩:=q2;rw[if_pos rfl];refine lg hp (bG (hb AM s2 σ1 H2 _ I2 q2) λf s3 q3=>?_);cases f with
  |next=>
   obtain⟨σ3,H3,I3,n3⟩:=q3;obtain⟨m',hm,w3⟩:=hN σ3 H3 n3;exact⟨m',hm,σ3,H3,I3,w3⟩
  |cont=>
   obtain⟨σ3,H3,I3,n3⟩:=q3;obtain⟨m',hm,w3⟩:=hN σ3 H3 n3;exact⟨m',hm,σ3,H3,I3,w3⟩
  |brk=>exact q3
  |ret v=>exact q3
 |false=>
  rw[if_neg lh];exact qv ⟨σ1,H2,I2,q2⟩
end
structure It where
 go:Nat->Hp->Prop
 yld:Nat->Hp->V->Hp->Prop
 stop:Nat->Hp->Prop
def fU(X:Cx)(AM:List (Addr×Obj))(H:Hp)(b:Addr):Prop:=
 H b=none/\b≠X.env.locals/\b∉X.fs/\(b∈X.ex\/X.AN.heap.objs.size<=b)/\(∀x c,X.env.cells.lookup x=some c->c≠b)/\∀p∈X.pn++AM,p.1≠b
theorem aH.fpOk{X:Cx}{AM:List (Addr×Obj)}{σ:St}{H H':Hp}{s:aa}{b:Addr}(I:aH X AM σ H s)(hb:s.heap.objs.size<=b)(hn:H' b=none):fU X AM H' b:=by
 refine⟨hn,nv (df I.lt hb),I.nofs hb,.inr (dw I.sz hb),λx c e z=>?_,λp hp z=>?_⟩
 .obtain⟨v,q⟩:=I.cell x c e
  exact absurd (df q.lt (by rw[z];exact hb)) (jd _)
 .exact absurd (df (bi (I.pin p hp).1) (by rw[z];exact hb)) (jd _)
structure qD(P:Program)(w:aj)(K:ae)(tg:ag)(J:It)(fp:List Addr)(it:Addr)(tn:Nat->Heap->Prop):Prop where
 mem:it∈fp
 obj:∀i h,tn i h->∀b∈fp,∃o,h.get? b=some o/\∀v,o.data≠.cell v
 keep:∀i h h',tn i h->(∀b∈fp,∀o,h.get? b=some o->h'.get? b=some o)->tn i h'
 item:∀(X:Cx),X.prog=P->X.w=w->X.K=K->X.calm=true->∀(i:Nat)(AM:List (Addr×Obj))(s:aa)(σ:St)(H:Hp)(E:Value->aa->Prop),aH X AM σ H s->(∀b∈fp,fU X AM H b)->tn i s.heap->J.go i H->
  wpAny (model P w) X.A (pyNext (.ref it)) (λr s1=>∃u,r=some u/\
   wpAny (model P w) X.A (letOwnedTupleGo tg (.ref it) u) (λ_ s2=>∃x H',aH X AM σ H' s2/\bW x u/\J.yld i H x H'/\tn (i+1) s2.heap/\∀b∈fp,H' b=none) E s1) E s
 done:∀(X:Cx),X.prog=P->X.w=w->X.K=K->X.calm=true->∀(i:Nat)(AM:List (Addr×Obj))(s:aa)(σ:St)(H:Hp)(E:Value->aa->Prop),aH X AM σ H s->(∀b∈fp,fU X AM H b)->tn i s.heap->J.stop i H->
  wpAny (model P w) X.A (pyNext (.ref it)) (λr s1=>r=none/\aH X AM σ H s1) E s
 self:∀(A:al)(i:Nat)(s:aa)(Q:Value->aa->Prop)(E:Value->aa->Prop),tn i s.heap->Q (.ref it) s->wpAny (model P w) A (pyIter (.ref it)) Q E s
abbrev TI:=St->Hp->(It->Hp->Prop)->Prop
def Qo(X:Cx)(AM:List (Addr×Obj))(σ:St)(tg:ag)(R:It->Hp->Prop)(itv:Value)(s2:aa):Prop:=
 ∃(it:Addr)(fp:List Addr)(tn:Nat->Heap->Prop)(J:It)(H':Hp),itv=.ref it/\aH X AM σ H' s2/\qD X.prog X.w X.K tg J fp it tn/\tn 0 s2.heap/\(∀b∈fp,fU X AM H' b)/\R J H'
def PI(X:Cx)(tg iter:ag)(wi:TI):Prop:=
 ∀(AM:List (Addr×Obj))(s:aa)(σ:St)(H:Hp)(R:It->Hp->Prop),aH X AM σ H s->wi σ H R->
  wpAny (model X.prog X.w) X.A (eval iter X.env) (λv s1=>wpAny (model X.prog X.w) X.A (pyIter v) (Qo X AM σ tg R) X.xe s1) X.xe s
theorem Ha {M : kz} {A : al} {E : Value → aa → Prop} {s : aa} {tg : ag} {it : Addr} {u : Value} {o : Obj} {n : String} {vs : Array Value} {Q : Unit → aa → Prop} (ho : s.heap.get? it = some o) (hc : o.cls = .type n) (hd : o.data = .fields vs)
    (hn : ["enumerate", "zip", "dict_itemiterator", "dict_reverseitemiterator", "odict_iterator", "itertools.zip_longest", "itertools.pairwise"].contains n = false) (hQ : Q () s) : wpAny M A (letOwnedTupleGo tg (.ref it) u) Q E s := by
  unfold letOwnedTupleGo;cases tg <;> first
    | exact bf hQ
    | (cases u <;> first
        | exact bf hQ
        | (refine ah (wpAny_load ho ?_)
           rw [hc, hd];show wpAny M A (if (["enumerate", "zip", "dict_itemiterator", "dict_reverseitemiterator", "odict_iterator", "itertools.zip_longest", "itertools.pairwise"].contains n && vs[0]? == some (rawInt _)) = true then _ else _) Q E s;rw [if_neg (by intro h; rw [hn, Bool.false_and] at h; cases h)];exact bf hQ))
def vV(K:ae)(a:Addr):It:=
 ⟨λi H=>∃xs x,bT K H a xs/\xs[i]?=some x,λi H x H'=>H'=H/\∀xs,bT K H a xs->xs[i]?=some x,λi H=>∃xs,bT K H a xs/\xs.length<=i⟩
def Ub(K:ae)(a:Addr):It:=
 ⟨λi H=>∃xs x,dA K H a xs/\xs[i]?=some x,λi H x H'=>H'=H/\∀xs,dA K H a xs->xs[i]?=some x,λi H=>∃xs,dA K H a xs/\xs.length<=i⟩
def sE(lo:Int)(n:Nat):It:=⟨λi _=>i<n,λi H x H'=>H'=H/\x=.int (lo+i),λi _=>n<=i⟩
theorem Js{P:Program}{w:aj}{K:ae}{tg:ag}(a it:Addr):qD P w K tg (vV K a) [it] it (λi h=>h.IsListIter it a i) where
 mem:=by simp
 obj:=λi h st b hb=>by
  have e:b=it:=by simpa using hb
  subst e;obtain⟨o,e,c,d⟩:=st;exact⟨o,e,λv z=>by rw[d]at z;cases z⟩
 keep:=λi h h' st k=>st.at λo e=>k it (by simp) o e
 item:=by
  intro X hP hw hK hc i AM s σ H E I hf st hg;subst hP hw hK;obtain⟨xs,x,hq,hx⟩:=hg;obtain⟨its,rv,p,hz⟩:=I.list hq;obtain⟨u,hu,ru⟩:=rv.get hx;obtain⟨f0,f1,f2,f3,f4,f5⟩:=hf it (by simp);refine wpAny_pyNext_list_item st p.isList (x:=u) (by simpa using hu) λh' st' sb=>?_;have I1:aH X AM σ H {s with heap:=h'}:=I.turned (t':=s.toks) (λb o hb e=>(sb.2 b hb).trans e) f0 f1 f3 f4 f5;obtain⟨o,e,c,d⟩:=id st';exact⟨u,rfl,Ha (s:={s with heap:=h'}) e c d (by decide) ⟨x,H,I1,ru,⟨rfl,λys hy=>by rw[I.list_inj hy hq];exact hx⟩,st',λb hb=>(hf b hb).1⟩⟩
 done:=by
  intro X hP hw hK hc i AM s σ H E I hf st hg;subst hP hw hK;obtain⟨xs,hq,hx⟩:=hg;obtain⟨its,rv,p,hz⟩:=I.list hq;obtain⟨f0,f1,f2,f3,f4,f5⟩:=hf it (by simp);have hl:=rv.length;exact wpAny_pyNext_list_end (I.ok.hd hc) st p.isList (by simp;omega) λh' eb=>⟨rfl,I.turned (t':=s.toks) (λb o hb e=>eb b o hb e) f0 f1 f3 f4 f5⟩
 self:=λ_ _ _ _ _ st h=>wpAny_pyIter_listiter st h
theorem Zq{P:Program}{w:aj}{K:ae}{tg:ag}(a it:Addr):qD P w K tg (Ub K a) [it] it (λi h=>h.IsTupleIter it a i) where
 mem:=by simp
 obj:=λi h st b hb=>by
  have e:b=it:=by simpa using hb
  subst e;obtain⟨o,e,c,d⟩:=st;exact⟨o,e,λv z=>by rw[d]at z;cases z⟩
 keep:=λi h h' st k=>st.at λo e=>k it (by simp) o e
 item:=by
  intro X hP hw hK hc i AM s σ H E I hf st hg;subst hP hw hK;obtain⟨xs,x,hq,hx⟩:=hg;obtain⟨its,rv,p,hz⟩:=I.tuple hq;obtain⟨u,hu,ru⟩:=rv.get hx;obtain⟨f0,f1,f2,f3,f4,f5⟩:=hf it (by simp);refine wpAny_pyNext_tuple_item st (show s.heap.IsTuple a its.toArray from p) (x:=u) (by simpa using hu) λh' st' sb=>?_;have I1:aH X AM σ H {s with heap:=h'}:=I.turned (t':=s.toks) (λb o hb e=>(sb.2 b hb).trans e) f0 f1 f3 f4 f5;obtain⟨o,e,c,d⟩:=id st';exact⟨u,rfl,Ha (s:={s with heap:=h'}) e c d (by decide) ⟨x,H,I1,ru,⟨rfl,λys hy=>by rw[I.tuple_inj hy hq];exact hx⟩,st',λb hb=>(hf b hb).1⟩⟩
 done:=by
  intro X hP hw hK hc i AM s σ H E I hf st hg;subst hP hw hK;obtain⟨xs,hq,hx⟩:=hg;obtain⟨its,rv,p,hz⟩:=I.tuple hq;obtain⟨f0,f1,f2,f3,f4,f5⟩:=hf it (by simp);have hl:=rv.length;exact wpAny_pyNext_tuple_end (I.ok.hd hc) st (show s.heap.IsTuple a its.toArray from p) (by simp;omega) λh' eb=>⟨rfl,I.turned (t':=s.toks) (λb o hb e=>eb b o hb e) f0 f1 f3 f4 f5⟩
 self:=λ_ _ _ _ _ st h=>wpAny_pyIter_tupleiter st h
theorem Mr{P:Program}{w:aj}{K:ae}{tg:ag}(it:Addr)(lo:Int)(n:Nat):qD P w K tg (sE lo n) [it] it (λi h=>IsRangeIter h it (lo+(i:Nat)*1) ((n:Int)-(i:Nat)) 1) where
 mem:=by simp
 obj:=λi h st b hb=>by
  have e:b=it:=by simpa using hb
  subst e;exact⟨_,st,λv z=>by
   have z':Data.fields _=Data.cell v:=z;cases z'⟩
 keep:=λi h h' st k=>k it (by simp) _ st
 item:=by
  intro X hP hw hK hc i AM s σ H E I hf st hg;subst hP hw hK;obtain⟨f0,f1,f2,f3,f4,f5⟩:=hf it (by simp);have W:=Walks.range (prog:=X.prog) (w:=X.w) (I.ok.hd hc) it lo 1 n;refine W.item i s _ _ hg st λv h' tk hv st' kk=>?_;obtain⟨t,rfl⟩:=hv;have I1:aH X AM σ H {s with heap:=h',toks:=tk}:=I.turned (λb o hb e=>kk b o (by simpa using hb) e) f0 f1 f3 f4 f5;refine⟨_,rfl,Ha (s:={s with heap:=h',toks:=tk}) (n:="range_iterator") st' rfl rfl (by decide) ⟨.int (lo+i),H,I1,⟨t,?_⟩,⟨rfl,rfl⟩,st',λb hb=>(hf b hb).1⟩⟩;rw[oa]
 done:=by
  intro X hP hw hK hc i AM s σ H E I hf st hg;subst hP hw hK;obtain⟨f0,f1,f2,f3,f4,f5⟩:=hf it (by simp);exact wpAny_pyNext_range_end (I.ok.hd hc) st (by have:n<=i:=hg;omega) λh' eb=>⟨rfl,I.turned (t':=s.toks) (λb o hb e=>eb b o hb e) f0 f1 f3 f4 f5⟩
 self:=λ_ _ _ _ _ st h=>wpAny_pyIter_rangeiter st h
section
variable{X:Cx}{tg:ag}
theorem Xh{AM:List (Addr×Obj)}{σ:St}{H:Hp}{s:aa}{R:It->Hp->Prop}{E:Value->aa->Prop}{lo hi:Int}{t u v:Tok}{tk:Nat}(I:aH X AM σ H s)(h1:-(2^62)<=lo)(h2:lo<2^62)(h3:-(2^62)<=hi)(h4:hi<2^62)
  (q:R (sE lo (hi-lo).toNat) H):wpAny (model X.prog X.w) X.A (pyIter (.ref s.heap.objs.size)) (Qo X AM σ tg R) E {s with heap:=s.heap.push {cls:=.type "range",data:=.fields #[.int lo t,.int hi u,.int 1 v]},toks:=tk}:=by
 refine wpAny_pyIter_range (IsRange.new ..) (small_one h1 h2 h3 h4) ?_;have I1:aH X AM σ H {s with heap:=s.heap.push {cls:=.type "range",data:=.fields #[.int lo t,.int hi u,.int 1 v]},toks:=tk}:=I.kept λb o e=>aw _ e;refine⟨(s.heap.push {cls:=.type "range",data:=.fields #[.int lo t,.int hi u,.int 1 v]}).objs.size,[(s.heap.push {cls:=.type "range",data:=.fields #[.int lo t,.int hi u,.int 1 v]}).objs.size],_,_,H,rfl,
  I1.kept (t':=tk) λb o e=>aw _ e,Mr _ lo (hi-lo).toNat,?_,λb hb=>?_,q⟩
 .have e1:lo+((0:Nat):Int)*1=lo:=by simp
  have e2:(((hi-lo).toNat:Nat):Int)-((0:Nat):Int)=Builtin.Range.rangeSize lo hi 1:=by rw[rangeSize_one];split<;>omega
  show IsRangeIter _ _ (lo+((0:Nat):Int)*1) ((((hi-lo).toNat:Nat):Int)-((0:Nat):Int)) 1;rw[e1,e2];exact dh _ rfl
 .have e:b=(s.heap.push {cls:=.type "range",data:=.fields #[.int lo t,.int hi u,.int 1 v]}).objs.size:=by simpa using hb
  subst e;exact I1.fpOk (ar _) (I1.hok.fresh (ar _))
def aan(ta:TA):TI:=λσ H R=>ta σ H λvs H1=>∃j:Int,vs=[.int j]/\-(2^62)<=j/\j<2^62/\R (sE 0 j.toNat) H1
def W4(ta:TA):TI:=λσ H R=>ta σ H λvs H1=>∃i j:Int,vs=[.int i,.int j]/\(-(2^62)<=i/\i<2^62/\-(2^62)<=j/\j<2^62)/\R (sE i (j-i).toNat) H1
theorem Vs{a:ag}{ta:TA}{p pos:ai}(hg:Gl X "range")(hm:X.mg "range"=none)(ha:PA X [a] ta)(hs:starEach [a] X.env=[(false,eval a X.env)]:=by rfl):PI X tg (.Call (.Name "range" p) [a] [] pos) (aan ta):=by
 intro AM s σ H R I h;refine Call_ (nJ I hg hm boot_range (qd (bG (ha pos AM s σ H _ I h) λus s1 hq=>?_) hs rfl));rcases hq with⟨vs,H1,I1,r1,q1⟩;obtain⟨j,e,q1,q2,q⟩:=q1;subst e;cases r1 with
 |cons r rr=>
  cases rr;obtain⟨t,rfl⟩:=r;exact call_range_1 (Xh I1 (by omega) (by omega) q1 q2 (by simpa using q))
theorem Qt{a b:ag}{ta:TA}{p pos:ai}(hg:Gl X "range")(hm:X.mg "range"=none)(ha:PA X [a,b] ta)(hs:starEach [a,b] X.env=[(false,eval a X.env),(false,eval b X.env)]:=by rfl)(hs2:starEach [b] X.env=[(false,eval b X.env)]:=by rfl):
  PI X tg (.Call (.Name "range" p) [a,b] [] pos) (W4 ta):=by
 intro AM s σ H R I h;refine Call_ (nJ I hg hm boot_range (qd (bG (ha pos AM s σ H _ I h) λus s1 hq=>?_) (by rw[hs,hs2]) (by rw[hs2];rfl)));rcases hq with⟨vs,H1,I1,r1,q1⟩;obtain⟨i,j,e,⟨q1,q2,q3,q4⟩,q⟩:=q1;subst e;cases r1 with
 |cons r rr=>
  cases rr with
  |cons r' rr=>
   cases rr;obtain⟨t,rfl⟩:=r;obtain⟨t',rfl⟩:=r';exact call_range_2 (Xh I1 q1 q2 q3 q4 q)
def aaA(wi:TI)(g:TG)(tb:TS):TS:=λD σ H=>wi σ H λJ H1=>∃W:Nat->Nat->St->Hp->Prop,(∃m,W 0 m σ H1)/\∀i m σ H,W i m σ H->
 (J.stop i H/\D.nx σ H)\/(J.go i H/\∃N:St->Hp->Prop,(∀σ' H',N σ' H'->∃m',m'<m/\W (i+1) m' σ' H')/\∀x H',J.yld i H x H'->g x σ H' λσ2 H2=>tb {D with nx:=N,ct:=N,bk:=D.nx} σ2 H2)
def uE(fp:List Addr)(h:Heap):List (Addr×Obj):=fp.filterMap λb=>(h.get? b).map λo=>(b,o)
theorem oN{fp:List Addr}{h:Heap}{b:Addr}{o:Obj}(hb:b∈fp)(e:h.get? b=some o):(b,o)∈uE fp h:=uq.mpr ⟨b,hb,by rw[e];rfl⟩
theorem Mt{fp:List Addr}{h:Heap}{p:Addr×Obj}(hp:p∈uE fp h):p.1∈fp/\h.get? p.1=some p.2:=by
 obtain⟨b,hb,e⟩:=uq.mp hp;cases q:h.get? b with
 |none=>rw[q]at e;cases e
 |some o=>
  rw[q]at e;have e':(b,o)=p:=cg e;subst e';exact⟨hb,q⟩
theorem aH.pinned{AM:List (Addr×Obj)}{σ:St}{H:Hp}{s:aa}{fp:List Addr}(I:aH X AM σ H s)(hf:∀b∈fp,fU X AM H b)(ho:∀b∈fp,∃o,s.heap.get? b=some o/\∀v,o.data≠.cell v):aH X (AM++uE fp s.heap) σ H s:=
 I.pins_of λp hp=>(cv.mp hp).elim (λz=>I.pin p (fu _ z)) λz=>by
  obtain⟨hb,e⟩:=Mt z;obtain⟨f0,f1,f2,_⟩:=hf p.1 hb;obtain⟨o,e',d⟩:=ho p.1 hb;rw[e]at e';cases e';exact⟨e,f0,f1,f2,d⟩
theorem aH.unpinned{AM pl:List (Addr×Obj)}{σ:St}{H:Hp}{s:aa}(I:aH X (AM++pl) σ H s):aH X AM σ H s:=I.pins_of λp hp=>I.pin p (fu _ (kd _ hp))
theorem Hl{iter:ag}{body:List Stmt}{wi:TI}{g:TG}{tb:TS}{pos:ai}(hp:qc (model X.prog X.w) X.A X.env X.xe)(hc:X.calm=true)(hi:PI X tg iter wi)(hg:PG X tg g)(hb:fQ X body tb)
  (hs:∀x,foldedSetIterable iter X.env x=pure x:=by intro _;rfl):PS X (.For tg iter body [] pos) (aaA wi g tb):=by
 intro AM s σ H D I h;refine wpAny_For (bG (hi AM s σ H _ I h) λv s1 h1=>bG h1 λitv s2 h2=>?_) hs;obtain⟨it,fp,tn,J,H2,e,I2,T,st2,f2,W,⟨m0,w0⟩,turn⟩:=h2;subst e
 --what stays true of the iterator's objects through the loop
 have stat:∀{H':Hp},(∀b∈fp,H' b=none)->∀b∈fp,fU X AM H' b:=λhn b hb=>⟨hn b hb,(f2 b hb).2⟩;refine codeAny_forLoop_any (λn s'=>∃i σ' H',aH X AM σ' H' s'/\tn i s'.heap/\(∀b∈fp,H' b=none)/\W i n σ' H') ?_ m0 ⟨0,σ,H2,I2,st2,λb hb=>(f2 b hb).1,w0⟩
 rintro n s3 ⟨i,σ3,H3,I3,dX,fr3,w3⟩
 rcases turn i n σ3 H3 w3 with⟨stop,qn⟩|⟨go,N,hN,step⟩
 .refine lg hp (bG (T.done X rfl rfl rfl hc i AM s3 σ3 H3 X.xe I3 (stat fr3) dX stop) λr s4 hq=>?_)
  rcases hq with⟨hr,I4⟩;subst hr;exact qv ⟨σ3,H3,I4,qn⟩
 .refine lg hp (bG (T.item X rfl rfl rfl hc i AM s3 σ3 H3 X.xe I3 (stat fr3) dX go) λr s4 hq=>?_)
  rcases hq with⟨u,hr,h4⟩;subst hr;refine lg hp (bG h4 λ_ s5 hq=>?_);rcases hq with⟨x,H5,I5,r5,y5,st5,fr5⟩;have I5':=I5.pinned (stat fr5) (T.obj _ _ st5);refine lg hp (bG (hg _ s5 σ3 H5 x u _ I5' r5 (step x H5 y5)) λ_ s6 hq=>?_);rcases hq with⟨σ6,H6,I6,q6⟩;refine lg hp (bG (hb _ s6 σ6 H6 _ I6 q6) λf s7 q7=>?_);have again:∀{σ7:St}{H7:Hp},aH X (AM++uE fp s5.heap) σ7 H7 s7->N σ7 H7->∃m,m<n/\∃i σ' H',aH X AM σ' H' s7/\tn i s7.heap/\(∀b∈fp,H' b=none)/\W i m σ' H':=λ{σ7 H7} I7 n7=>by
   obtain⟨m',hm,w7⟩:=hN σ7 H7 n7;refine⟨m',hm,i+1,σ7,H7,I7.unpinned,T.keep _ _ _ st5 λb hb o e=>(I7.pin (b,o) (fu _ (fu _ (oN hb e)))).1,λb hb=>?_,w7⟩;obtain⟨o,e,d⟩:=T.obj _ _ st5 b hb;exact(I7.pin (b,o) (fu _ (fu _ (oN hb e)))).2.1
  cases f with
  |next=>obtain⟨σ7,H7,I7,n7⟩:=q7;exact again I7 n7
  |cont=>obtain⟨σ7,H7,I7,n7⟩:=q7;exact again I7 n7
  |brk=>obtain⟨σ7,H7,I7,q7⟩:=q7;exact⟨σ7,H7,I7.unpinned,q7⟩
  |ret v=>obtain⟨x7,σ7,H7,I7,r7,q7⟩:=q7;exact⟨x7,σ7,H7,I7.unpinned,r7,q7⟩
end
abbrev R2:=V->V->Hp->VK->Prop
def eB(X:Cx)(f:Value->Value->Sem Value)(r:R2):Prop:=
 ∀(AM:List (Addr×Obj))(s:aa)(σ:St)(H:Hp)(x y:V)(v u:Value)(Q:VK),aH X AM σ H s->bW x v->bW y u->r x y H Q->
  wpAny (model X.prog X.w) X.A (f v u) (EP X AM σ Q) X.xe s
def vU(X:Cx)(f:Value->Sem Value)(r:V->Hp->VK->Prop):Prop:=
 ∀(AM:List (Addr×Obj))(s:aa)(σ:St)(H:Hp)(x:V)(v:Value)(Q:VK),aH X AM σ H s->bW x v->r x H Q->
  wpAny (model X.prog X.w) X.A (f v) (EP X AM σ Q) X.xe s
def iK(X:Cx)(f:Value)(r:List V->Hp->VK->Prop):Prop:=
 ∀(AM:List (Addr×Obj))(s:aa)(σ:St)(H:Hp)(xs:List V)(us:AD)(Q:VK),aH X AM σ H s->bC xs us->r xs H Q->
  wpAny (model X.prog X.w) X.A (call f us) (EP X AM σ Q) X.xe s
def wB(r:R2)(ta tb:TE):TE:=λσ H Q=>ta σ H λx H1=>tb σ H1 λy H2=>r x y H2 Q
def tUn(r:V->Hp->VK->Prop)(ta:TE):TE:=λσ H Q=>ta σ H λx H1=>r x H1 Q
def rI(C:Int->Int->Prop)(g:Int->Int->V):R2:=λx y H Q=>∃i j,x=.int i/\y=.int j/\C i j/\Q (g i j) H
def jA(g:Int->Int->V):R2:=λx y H Q=>∃i j,x=.int i/\y=.int j/\Q (g i j) H
def rU(g:Int->V):V->Hp->VK->Prop:=λx H Q=>∃i,x=.int i/\Q (g i) H
section
variable{X:Cx}{a b c:ag}{ta tb tc:TE}{pos:ai}
theorem Jb(ha:PE X a ta)(hb:PE X b tb){AM:List (Addr×Obj)}{s:aa}{σ:St}{H:Hp}{R:V->V->Hp->Prop}(I:aH X AM σ H s)
  (h:ta σ H λx H1=>tb σ H1 λy H2=>R x y H2){Q:Value->aa->Prop}{f:Value->Value->Sem Value}
  (hf:∀v u s2 x y H2,aH X AM σ H2 s2->bW x v->bW y u->R x y H2->wpAny (model X.prog X.w) X.A (f v u) Q X.xe s2):
  wpAny (model X.prog X.w) X.A (eval a X.env) (λv AQ=>wpAny (model X.prog X.w) X.A (eval b X.env) (λu AT=>wpAny (model X.prog X.w) X.A (f v u) Q X.xe AT) X.xe AQ) X.xe s:=by
 refine bG (ha AM s σ H _ I h) ?_
 rintro v s1 ⟨x,H1,I1,r1,q1⟩
 refine bG (hb AM s1 σ H1 _ I1 q1) ?_
 rintro u s2 ⟨y,H2,I2,r2,q2⟩
 exact hf v u s2 x y H2 I2 r1 r2 q2
theorem Nm{op:qa}{r:R2}(ho:eB X (binaryOp op) r)(ha:PE X a ta)(hb:PE X b tb):PE X (.BinOp a op b pos) (wB r ta tb):=by
 intro AM s σ H Q I h;exact wpAny_BinOp (Jb ha hb I h λv u s2 x y H2 I2 rx ry q=>ho AM s2 σ H2 x y v u Q I2 rx ry q)
theorem Cn{op:UnaryOp}{r:V->Hp->VK->Prop}(ho:vU X (unaryOp op) r)(ha:PE X a ta):PE X (.UnaryOp op a pos) (tUn r ta):=by
 intro AM s σ H Q I h;exact UnaryOp_ (bG (ha AM s σ H _ I h) λv s1 ⟨x,H1,I1,r1,q1⟩=>ho AM s1 σ H1 x v Q I1 r1 q1)
theorem wA{f:Value->Value->Sem Value}{C:Int->Int->Prop}{g:Int->Int->Int}
  (rule:∀(i j:Int)(t u:Tok)(s:aa)(Q:Value->aa->Prop)(E:Value->aa->Prop),C i j->Q (.int (g i j) s.toks) {s with toks:=s.toks+1}->wpAny (model X.prog X.w) X.A (f (.int i t) (.int j u)) Q E s):
  eB X f (rI C λi j=>.int (g i j)):=by
 intro AM s σ H x y v u Q I rx ry h;obtain⟨i,j,rfl,rfl,hc,q⟩:=h;obtain⟨t,rfl⟩:=rx;obtain⟨t',rfl⟩:=ry;exact rule i j t t' s _ _ hc ⟨.int (g i j),H,I.tok _,⟨_,rfl⟩,q⟩
theorem Bo{f:Value->Value->Sem Value}{g:Int->Int->Int}
  (rule:∀(i j:Int)(t u:Tok)(s:aa)(Q:Value->aa->Prop)(E:Value->aa->Prop),Q (.int (g i j) s.toks) {s with toks:=s.toks+1}->wpAny (model X.prog X.w) X.A (f (.int i t) (.int j u)) Q E s):
  eB X f (jA λi j=>.int (g i j)):=by
 intro AM s σ H x y v u Q I rx ry h;obtain⟨i,j,rfl,rfl,q⟩:=h;obtain⟨t,rfl⟩:=rx;obtain⟨t',rfl⟩:=ry;exact rule i j t t' s _ _ ⟨.int (g i j),H,I.tok _,⟨_,rfl⟩,q⟩
theorem Gb{f:Value->Value->Sem Value}{g:Int->Int->Bool}
  (rule:∀(i j:Int)(t u:Tok)(s:aa)(Q:Value->aa->Prop)(E:Value->aa->Prop),Q (.bool (g i j)) s->wpAny (model X.prog X.w) X.A (f (.int i t) (.int j u)) Q E s):
  eB X f (jA λi j=>.bl (g i j)):=by
 intro AM s σ H x y v u Q I rx ry h;obtain⟨i,j,rfl,rfl,q⟩:=h;obtain⟨t,rfl⟩:=rx;obtain⟨t',rfl⟩:=ry;exact rule i j t t' s _ _ ⟨.bl (g i j),H,I,rfl,q⟩
def vJ(i j:Int):Prop:=0<=j/\j<=1000000/\i.natAbs<2^64
def Xa(i j:Int):Prop:=(-(2^64)<i/\i<2^64)\/(-(2^64)<j/\j<2^64)
theorem Xa.ok{i j:Int}(h:Xa i j):IntMulOk i j:=by
 rcases h with⟨h1,h2⟩|⟨h1,h2⟩
 .exact .of_left (intBits_le_64 h1 h2)
 .exact .of_right (intBits_le_64 h1 h2)
theorem M6:eB X (binaryOp .Add) (jA λi j=>.int (i+j)):=Bo λ_ _ _ _ _ _ _ q=>add_int q
theorem Ol:eB X (binaryOp .Sub) (jA λi j=>.int (i-j)):=Bo λ_ _ _ _ _ _ _ q=>sub_int q
theorem Ry:eB X (binaryOp .Mod) (rI (λ_ j=>j≠0) λi j=>.int (i.fmod j)):=wA λ_ _ _ _ _ _ _ hc q=>mod_int' hc q
theorem Q5:eB X (binaryOp .Pow) (rI vJ λi j=>.int (i^j.toNat)):=wA λ_ _ _ _ _ _ _ hc q=>pow_int_small hc.1 hc.2.1 hc.2.2 q
theorem unI{f:Value->Sem Value}{g:Int->Int}
  (rule:∀(i:Int)(t:Tok)(s:aa)(Q:Value->aa->Prop)(E:Value->aa->Prop),Q (.int (g i) s.toks) {s with toks:=s.toks+1}->wpAny (model X.prog X.w) X.A (f (.int i t)) Q E s):
  vU X f (rU λi=>.int (g i)):=by
 intro AM s σ H x v Q I rx h;obtain⟨i,rfl,q⟩:=h;obtain⟨t,rfl⟩:=rx;exact rule i t s _ _ ⟨.int (g i),H,I.tok _,⟨_,rfl⟩,q⟩
theorem Jk:vU X (unaryOp .USub) (rU λi=>.int (-i)):=unI λ_ _ _ _ _ q=>neg_int q
end
section
variable{X:Cx}{a b c:ag}{ta tb tc:TE}{pos:ai}
theorem Mn:eB X (compareOp .Lt) (jA λi j=>.bl (decide (i<j))):=Gb λ_ _ _ _ _ _ _ q=>lt_int q
theorem Im:eB X (compareOp .Gt) (jA λi j=>.bl (decide (j<i))):=Gb λ_ _ _ _ _ _ _ q=>gt_int q
theorem Jm:eB X (compareOp .GtE) (jA λi j=>.bl (decide (j<=i))):=Gb λ_ _ _ _ _ _ _ q=>ge_int q
theorem eB.or{f:Value->Value->Sem Value}{r r':R2}(h:eB X f r)(h':eB X f r'):eB X f (λx y H Q=>r x y H Q\/r' x y H Q):=by
 intro AM s σ H x y v u Q I rx ry q;rcases q with q |q
 .exact h AM s σ H x y v u Q I rx ry q
 .exact h' AM s σ H x y v u Q I rx ry q
theorem kN(b:ag){op:ke}(h:op≠.In:=by decide)(h2:op≠.NotIn:=by decide):behindInMarks op b=false:=by
 have e1:(op==CmpOp.In)=false:=by cases op<;>first |rfl |exact absurd rfl h
 have e2:(op==CmpOp.NotIn)=false:=by cases op<;>first |rfl |exact absurd rfl h2
 cases b<;>simp[behindInMarks,e1,e2]
theorem Ez{op:ke}{r:R2}(ho:eB X (compareOp op) r)(ha:PE X a ta)(hb:PE X b tb)(hm:behindInMarks op b=false):PE X (.Compare a [op] [b] pos) (wB r ta tb):=by
 intro AM s σ H Q I h;exact wpAny_Compare1 (Jb ha hb I h λv u s2 x y H2 I2 rx ry q=>ho AM s2 σ H2 x y v u Q I2 rx ry q) hm
def Z9(t:TE):TT:=λσ H Q=>t σ H λx H'=>∃k,x=.bl k/\Q k H'
theorem Pz{op:ke}{r:R2}(ho:eB X (compareOp op) r)(ha:PE X a ta)(hb:PE X b tb)(hm:behindInMarks op b=false):PT X (.Compare a [op] [b] pos) (Z9 (wB r ta tb)):=by
 intro AM s σ H Q I h;refine yh (bG (ha AM s σ H _ I h) λv s1 ⟨x,H1,I1,r1,q1⟩=>bG (hb AM s1 σ H1 _ I1 q1) λu s2 ⟨y,H2,I2,r2,q2⟩=>
  bG (ho AM s2 σ H2 x y v u _ I2 r1 r2 q2) λc s3 ⟨z,H3,I3,r3,k,e,q3⟩=>?_) hm
 subst e;cases r3;exact pr ⟨H3,I3,q3⟩
theorem rH:(sizeLine:Nat)<2^63:=by rw[kg];decide
theorem kD{x:V}{us:AD}(r:bC [x] us):∃u,us=[u]/\bW x u:=by
 cases r with
 |cons r1 r2=>cases r2;exact⟨_,rfl,r1⟩
theorem Qm{x y:V}{us:AD}(r:bC [x,y] us):∃u w',us=[u,w']/\bW x u/\bW y w':=by
 cases r with
 |cons r1 r2=>
  cases r2 with
  |cons r3 r4=>cases r4;exact⟨_,_,rfl,r1,r3⟩
theorem Su:iK X (.builtin "abs") (λxs H Q=>∃i,xs=[.int i]/\Q (.int (if i<0 then-i else i)) H):=by
 intro AM s σ H xs us Q I r h;obtain⟨i,rfl,q⟩:=h;obtain⟨u,rfl,t,rfl⟩:=kD r;exact call_abs_int λu tk=>⟨.int (if i<0 then-i else i),H,I.tok _,⟨_,rfl⟩,q⟩
theorem Ys:iK X (.type "int") (λxs H Q=>(∃i,xs=[.int i]/\Q (.int i) H)\/∃k,xs=[.bl k]/\Q (.int (if k then 1 else 0)) H):=by
 intro AM s σ H xs us Q I r h;rcases h with⟨i,rfl,q⟩|⟨k,rfl,q⟩
 .obtain⟨u,rfl,t,rfl⟩:=kD r
  exact call_int_int ⟨.int i,H,I,⟨_,rfl⟩,q⟩
 .obtain⟨u,rfl,r1⟩:=kD r
  cases r1;exact call_int_bool ⟨.int (if k then 1 else 0),H,I.tok _,⟨_,rfl⟩,q⟩
end
structure Hb(h:Heap)(x dx C:Addr)(mA:Str->AE):Prop where
 obj:h.get? x=some (uh C dx)
 ns:h.Ns1 dx mA
 ne:dx≠x
theorem Rt{h:Heap}{dx:Addr}{mA:Str->AE}(n:h.Ns1 dx mA):∃od,h.get? dx=some od/\∀name,ur name od=some (mA name):=by
 obtain⟨o,es,ep,ho,hd,hk,_,hm⟩:=n;refine⟨o,ho,λname=>?_⟩;have e:=hm name;unfold nsFind findBy at e;rw[<-Array.find?_toList]at e;unfold ur;rw[hd];dsimp only;split
 .rename_i y q
  rw[q]at e;exact congrArg some e
 .rename_i q
  rw[q]at e;have a:es.toList.any (·.refKey)=false:=by
   rw[List.any_eq_false];intro y hy;obtain⟨z,t,hkey⟩:=hk y (Array.mem_toList_iff.mp hy);simp[DictEntry.refKey,hkey]
  have a':¬es.toList.any (·.refKey)=true:=by rw[a];exact lh
  rw[if_neg a'];exact congrArg some e
theorem Hb.look{h:Heap}{x dx C:Addr}{mA:Str->AE}(I:Hb h x dx C mA):∃od,PySem.W.InstAt h x (uh C dx) C (some od)/\∀name,ur name od=some (mA name):=
 let⟨od,ho,hl⟩:=Rt I.ns
 ⟨od,⟨I.obj,rfl,rfl,ho⟩,hl⟩
section
variable{prog:Program}{w:aj}{A:al}{E:Value->aa->Prop}{s:aa}{K:ae}{x dx C f:Addr}{mA:Str->AE}{name:Str}{v:Value}
end
section
variable{P:Program}{w:aj}{H H':Hp}{h h':Heap}{a C dx:Addr}{fs fs':List (Str×V)}
theorem Py(hok:eX P w H h)(e:H a=some (.ins C dx fs)):∃mA,Hb h a dx C mA/\(∀f,Db (fs.lookup f) (mA f))/\ya mA (fs.map (·.1))/\fs.length<=1000/\H dx=some (.own a):=by
 obtain⟨d,z,ne,ob,mA,n,r,q⟩:=(show fK P w H h a (.ins C dx fs) from hok a _ e);exact⟨mA,⟨ob,n,ne⟩,r,q,z,d⟩
end
structure Kb(K:ae)(C:Addr):Prop where
 pg:yi K C Str.empty=true
 hd:PySem.W.hasDictIn K C=true
 po:PySem.W.plainOver K C=true
 sa:uu K (.ref C) "__setattr__"=some (some (.builtin "object.__setattr__"))
theorem Kb.get{K:ae}{C:Addr}(c:Kb K C)(f:Str):yi K C f=true:=c.pg
structure Rb(K:ae)(C:Addr)(f:Str)(v:V)(u:Value):Prop where
 at_:uu K (.ref C) f=some (some u)
 rel:bW v u
 get:yj K u "__get__"=some none
 cp:PySem.W.copiedNames.contains f=false
section
variable{X:Cx}{AM:List (Addr×Obj)}{σ:St}{H:Hp}{s:aa}{a C dx:Addr}{fs:List (Str×V)}{f:Str}{v:V}{A:al}{E:Value->aa->Prop}
end
section
variable{X:Cx}{o e value:ag}{f:Str}{pos pos' tpos:ai}{ta tv:TE}
end
section
variable{X:Cx}{AM:List (Addr×Obj)}{σ:St}{H:Hp}{s:aa}{A:al}{E:Value->aa->Prop}{Q:Value->aa->Prop}{c:Value}{b:Bool}
inductive iZ(K:ae)(H:Hp):V->Value->Prop where
 |non:iZ K H .non (.type "NoneType")
 |bl (x:Bool):iZ K H (.bl x) (.type "bool")
 |int (i:Int):iZ K H (.int i) (.type "int")
 |str (x:Str):iZ K H (.str x) (.type "str")
 |flt (x:UInt64):iZ K H (.flt x) (.type "float")
 |lst {a:Addr} {xs:List V} (e:H a=some (.lst xs)):iZ K H (.ref a) (.type "list")
 |frz {a:Addr} {o:Obj} {xs:List V} (e:H a=some (.frz o (.lst xs))):iZ K H (.ref a) (.type "list")
 |tup {a:Addr} {xs:List V} (e:H a=some (.tup xs)):iZ K H (.ref a) (.type "tuple")
 |dK {a:Addr} {kvs:List (gG×V)} (e:H a=some (.dK kvs)):iZ K H (.ref a) (.type "dict")
 |dT {a:Addr} {kvs:List (List gG×V)} (e:H a=some (.dT kvs)):iZ K H (.ref a) (.type "dict")
 |ins {a C dx:Addr} {fs:List (Str×V)} (e:H a=some (.ins C dx fs)) (cl:Kb K C) (ha:uu K (.ref C) "__class__"=some (some (.builtin "object.__class__")))
   (hn:yj K (.builtin "object.__class__") "__get__"=some (some (.builtin "getset_descriptor.__get__"))) (htk:PySem.W.takesIn K (.builtin "object.__class__")=some true)
   (hm:PySem.W.mroIn K C (.type "object")=some true):iZ K H (.ref a) (.ref C)
theorem Dt{x:V}{u t:Value}(I:aH X AM σ H s)(rx:bW x u)(ty:iZ X.K H x t)(e:og X.K t c=some b)(h:∀tk,Q (.bool b) {s with toks:=tk}):
  wpAny (model X.prog X.w) A (call (.builtin "isinstance") [u,c]) Q E s:=by
 cases ty with
 |non=>cases(show u=cx from rx);exact ir PySem.W.kitx_none I.kIn qe e (λz=>nomatch z) h
 |bl y=>cases(show u=ug y from rx);exact ir PySem.W.kitx_bool I.kIn qe e (λz=>nomatch z) h
 |int i=>obtain⟨t,q⟩:=(show ∃t,u=qu i t from rx);cases q;exact ir PySem.W.kitx_int I.kIn qe e (λz=>nomatch z) h
 |str y=>obtain⟨t,q⟩:=(show ∃t,u=uf y t from rx);cases q;exact ir PySem.W.kitx_str I.kIn qe e (λz=>nomatch z) h
 |flt y=>obtain⟨t,q⟩:=(show ∃t,u=Value.float y t from rx);cases q;exact ir PySem.W.kitx_float I.kIn qe e (λz=>nomatch z) h
 |@lst a xs ea=>
  cases(show u=ik a from rx);obtain⟨_,_,n,_,h1⟩:=(show fK X.prog X.w H s.heap a (.lst xs) from I.hok a _ ea);exact ir uv I.kIn ⟨_,h1,rfl⟩ e (λz=>nomatch z) h
 |@frz a ob xs ea=>
  cases(show u=ik a from rx);obtain⟨_,_,_,n,_,h1⟩:=(show fK X.prog X.w H s.heap a (.frz ob (.lst xs)) from I.hok a _ ea);exact ir uv I.kIn ⟨_,h1,rfl⟩ e (λz=>nomatch z) h
 |@tup a xs ea=>
  cases(show u=ik a from rx);obtain⟨_,_,_,p⟩:=(show fK X.prog X.w H s.heap a (.tup xs) from I.hok a _ ea);obtain⟨o,h1,h2,_⟩:=p;exact ir yk I.kIn ⟨o,h1,h2⟩ e (λz=>nomatch z) h
 |@dK a kvs ea=>
  cases(show u=ik a from rx);obtain⟨_,_,vs,_,p⟩:=(show fK X.prog X.w H s.heap a (.dK kvs) from I.hok a _ ea);obtain⟨o,es,ep,h1,h2,_⟩:=p;exact ir yl I.kIn ⟨o,h1,h2.1⟩ e (λz=>nomatch z) h
 |@dT a kvs ea=>
  cases(show u=ik a from rx);obtain⟨_,_,xs,_,o,es,ep,h1,h2,_⟩:=(show fK X.prog X.w H s.heap a (.dT kvs) from I.hok a _ ea);exact ir yl I.kIn ⟨o,h1,h2.1⟩ e (λz=>nomatch z) h
 |@ins a C dx fs ea cl ha hn htk hm=>
  cases(show u=ik a from rx);obtain⟨mA,O,_⟩:=Py I.hok ea;obtain⟨od,J,_⟩:=O.look;exact ir (PySem.W.kitx_own (cl.get _) cl.hd ha hn htk hm) I.kIn J e (λz=>nomatch z) h
end
structure dI(k:Nat)(A:al):Prop where
 hd:A.handled=none
 dp:A.depth+3*k+5<recursionLimit
 un:A.units+16*k+200<cLine
theorem dI.mono{j k:Nat}{A:al}(r:dI k A)(h:j<=k):dI j A:=⟨r.hd,by have:=r.dp;omega,by have:=r.un;omega⟩
theorem dI.deeper{k:Nat}{A:al}(r:dI (k+1) A)(env:ay):dI k (A.deeper env):=
 ⟨r.hd,by have:=r.dp;show A.depth+1+3*k+5<_;omega,by have:=r.un;show A.units+3+16*k+200<_;omega⟩
theorem dI.depth{k:Nat}{A:al}(r:dI k A):A.depth<recursionLimit:=by have:=r.dp;omega
theorem dI.units{k:Nat}{A:al}(r:dI k A):A.units+64<cLine:=by have:=r.un;omega
def aav:TA:=λ_ H Q=>Q [] H
def aar(ta:TE)(tr:TA):TA:=λσ H Q=>ta σ H λx H1=>tr σ H1 λxs H2=>Q (x::xs) H2
section
variable{X:Cx}{e:ag}{es:List ag}{te:TE}{t:TA}{pos:ai}
theorem rF:PA X [] aav:=λ_ _ _ _ H Q I h=>Calls.spliced_nil ⟨[],H,I,.nil,h⟩
theorem pA(ha:PE X e te)(hr:PA X es t)(hs:starEach (e::es) X.env=(false,eval e X.env)::starEach es X.env:=by rfl):PA X (e::es) (aar te t):=by
 intro pos AM s σ H Q I h;rw[hs];show wpAny _ _ (spliced ((false,eval e X.env)::backTo pos (starEach es X.env))) _ _ s;refine Calls.spliced_cons (bG (ha AM s σ H _ I h) λu s1 hq=>?_);rcases hq with⟨x,H1,I1,r1,q1⟩;exact bG (hr pos AM s1 σ H1 _ I1 q1) λus s2 ⟨xs,H2,I2,r2,q2⟩=>⟨x::xs,H2,I2,.cons r1 r2,q2⟩
def aa2(t:TA):TE:=λσ H Q=>t σ H λxs H1=>xs.length<=sizeLine/\∀p,H1 p=none->Q (.ref p) (bA H1 p (.tup xs))
def aaB(t:TA):TE:=λσ H Q=>t σ H λxs H1=>xs.length<=sizeLine/\∀p,H1 p=none->Q (.ref p) (bA H1 p (.lst xs))
theorem O5{x1}(h:PA X es t):PE X (.Tuple es x1 pos) (aa2 t):=by
 intro AM s σ H Q I hq;refine wpAny_Tuple_spliced (bG (h pos AM s σ H _ I hq) λus s1 ⟨xs,H1,I1,r,z,q⟩=>⟨by rw[<-r.length];exact z,?_⟩);have hf:H1 s1.heap.objs.size=none:=I1.hok.fresh (ar _);refine⟨.ref s1.heap.objs.size,bA H1 s1.heap.objs.size (.tup xs),I1.laid (t':=s1.toks) (λb u e=>aw _ e) (ar _) ?_,rfl,q _ hf⟩;exact⟨⟨z,_,dh _ rfl,rfl⟩,us,r,⟨_,dh _ rfl,rfl,_,rfl⟩⟩
theorem zV(h:PA X es t):PE X (.List es pos) (aaB t):=by
 intro AM s σ H Q I hq;refine wpAny_List_spliced (bG (h pos AM s σ H _ I hq) λus s1 ⟨xs,H1,I1,r,z,q⟩=>⟨by rw[<-r.length];exact z,?_⟩);have hf:H1 s1.heap.objs.size=none:=I1.hok.fresh (ar _);refine⟨.ref s1.heap.objs.size,bA H1 s1.heap.objs.size (.lst xs),I1.laid (t':=s1.toks) (λb u e=>aw _ e) (ar _) ?_,rfl,q _ hf⟩;exact⟨z,us,0,r,dh _ rfl⟩
end
abbrev Sp:=List V->Hp->VK->XK->Prop
abbrev iQ:=List ay->Hp->aa->XK->Value->aa->Prop
structure vI(P:Program)(w:aj)(K:ae)(mg:Str->AE)(base:Heap)(A:al)(outer:List ay)(s:aa)(H:Hp):Prop where
 frames:A.frames=some outer
 mod:Mod K mg base
 bs:∀b o,base.get? b=some o->s.heap.get? b=some o/\H b=none
 bsz:base.objs.size<=s.heap.objs.size
 funs:s.heap.FunFrames base outer
 frf:∀b∈dM outer,H b=none
 hok:eX P w H s.heap
 bare:ji s.gens
def CE(outer:List ay)(P:Program)(w:aj)(H:Hp)(s:aa)(Q:VK)(u:Value)(s':aa):Prop:=
 ∃v H',s'.os=s.os/\ji s'.gens/\Un (dM outer) [] H H' s.heap s'.heap/\eX P w H' s'.heap/\bW v u/\Q v H'
def CR(CX:iQ)(outer:List ay)(P:Program)(w:aj)(H:Hp)(s:aa)(Q:VK)(E:XK)(r:qg)(s':aa):Prop:=
 match r with
 |.ok (.ret u)=>CE outer P w H s Q u s'
 |.ok _=>False
 |.error e=>CX outer H s E e s'
structure eA(P:Program)(w:aj)(K:ae)(mg:Str->AE)(base:Heap)(CX:iQ)(k:Nat)(f:Addr)(fd:bj)(ps:List Str)(sp:Sp):Prop where
 len:∀vs H Q E,sp vs H Q E->vs.length=ps.length
 run:∀(A:al)(outer:List ay)(s:aa)(H:Hp)(args:Args)(us:AD)(vs:List V)(Q:VK)(E:XK),dI k A->vI P w K mg base A outer s H->oh s fd args (ps.zip us)->bC vs us->sp vs H Q E->
  codeAny (model P w) A (.call (.ref f) args) (CR CX outer P w H s Q E) s
theorem eA.imp{P:Program}{w:aj}{K:ae}{mg:Str->AE}{base:Heap}{CX:iQ}{k:Nat}{f:Addr}{fd:bj}{ps:List Str}{sp sp':Sp}(F:eA P w K mg base CX k f fd ps sp)
  (h:∀vs H Q E,sp' vs H Q E->sp vs H Q E):eA P w K mg base CX k f fd ps sp':=
 ⟨λvs H Q E q=>F.len vs H Q E (h _ _ _ _ q),λA outer s H args us vs Q E hr he hb hv hs=>F.run A outer s H args us vs Q E hr he hb hv (h _ _ _ _ hs)⟩
section
variable{X:Cx}{AM:List (Addr×Obj)}{σ:St}{H:Hp}{s s':aa}
theorem aH.env0(I:aH X AM σ H s):vI X.prog X.w X.K X.mg X.base X.A X.stack s H:=
 ⟨I.ok.frames,I.ok.mod,I.bs,dw I.ok.bsz I.sz,I.stack,I.stkFree,I.hok,I.bare⟩
theorem aH.after{Q:VK}{u:Value}(I:aH X AM σ H s)(h:CE X.stack X.prog X.w H s Q u s'):EP X AM σ Q u s':=by
 obtain⟨v,H',os,bare,un,hok,r,q⟩:=h;obtain⟨hh,g,d,t,os'⟩:=s';obtain rfl:os'=s.os:=os;exact⟨v,H',I.call (h':=hh) (g':=g) (d':=d) (t':=t) (ch:=[]) un hok bare (λb z=>absurd z (by simp)),r,q⟩
end
def aaq(sp:Sp)(dvs:List V)(E:XK)(t:TA):TE:=λσ H Q=>t σ H λvs H1=>sp (vs++dvs) H1 Q E
def iM(K:ae)(fd:bj)(ps:List Str)(ds:AD):Prop:=
 ∀(s:aa)(us:AD),K.In s.heap->(us++ds).length=ps.length->oh s fd ⟨us,[]⟩ (ps.zip (us++ds))
theorem iM.all{K:ae}{fd:bj}{ps:List Str}(h:∀us:AD,us.length=ps.length->bindArgs fd ⟨us,[]⟩=pure (ps.zip us)):iM K fd ps []:=λs us _ hl=>by
 rw[jl]at hl⊢;exact .of_eq (h us hl)
def uI(CX:iQ)(X:Cx)(E:XK):Prop:=∀(AM:List (Addr×Obj))(σ:St)(H:Hp)(s:aa)(e:Value)(s':aa),aH X AM σ H s->CX X.stack H s E e s'->X.xe e s'
section
variable{X:Cx}{CX:iQ}{k:Nat}{f C:Addr}{fd:bj}{ps:List Str}{sp:Sp}{dvs:List V}{ds:AD}{E:XK}{x m:Str}{p pos apos:ai}{e o:ag}{es:List ag}{ta:TE}{t:TA}
theorem J2{AM:List (Addr×Obj)}{σ:St}{H:Hp}{s:aa}{Q:VK}{us:AD}{vs:List V}(F:eA X.prog X.w X.K X.mg X.base CX k f fd ps sp)(hr:dI k X.A)(hb:iM X.K fd ps ds)(hd:bC dvs ds)(hx:uI CX X E)
  (I:aH X AM σ H s)(r:bC vs us)(h:sp (vs++dvs) H Q E):wpAny (model X.prog X.w) X.A (call (.ref f) us) (EP X AM σ Q) X.xe s:=by
 have r2:bC (vs++dvs) (us++ds):=r.append hd;have hl:(us++ds).length=ps.length:=by rw[<-r2.length];exact F.len _ _ _ _ h
 refine wpAny_call (qy (F.run X.A X.stack s H ⟨us,[]⟩ (us++ds) (vs++dvs) Q E hr I.env0 (hb s us I.kIn hl) r2 h) λr s' hq=>?_);cases r with
 |error e=>exact hx AM σ H s e s' I hq
 |ok fl=>
  cases fl with
  |ret u=>exact I.after hq
  |next=>exact jq hq
  |brk=>exact jq hq
  |cont=>exact jq hq
theorem uA(F:eA X.prog X.w X.K X.mg X.base CX k f fd ps sp)(hr:dI k X.A)(hg:Gl X x)(hm:X.mg x=some (.ref f))(hk:fg X.K (.ref f)=true)(hb:iM X.K fd ps ds)(hd:bC dvs ds)(hx:uI CX X E)
  (ha:PA X (e::es) t)(hdb:(x==("__debug__":Str))=false:=by decide)(he:starEach (e::es) X.env=(false,eval e X.env)::starEach es X.env:=by rfl)(hpl:(backTo pos (starEach es X.env)).any (·.1)=false:=by rfl):
  PE X (.Call (.Name x p) (e::es) [] pos) (aaq sp dvs E t):=by
 intro AM s σ H Q I h;refine uw (Pj I hg hm ?_ hdb);refine PySem.W.callWith_K (h₀:=X.base) I.ok.mod.kin hk (bG (ha pos AM s σ H _ I h) λus s1 ⟨vs,H1,I1,r,q⟩=>⟨I1.kIn,?_⟩) he hpl;exact J2 F hr hb hd hx I1 r q
end
section
variable{X:Cx}{CX:iQ}{k:Nat}{f C:Addr}{fd:bj}{ps ks:List Str}{sp:Sp}{E:XK}{x m:Str}{p pos apos kpos:ai}{e o:ag}{es:List ag}{kws:List jy}{te ta:TE}{t tk:TA}{nm:Option Str}
variable{g:AD->AD->AD}{gV:List V->List V->List V}
end
structure gZ(N P:List Str)(sc:Scope):Prop where
 kind:sc.kind=.function
 co:sc.isCoroutine=false
 gen:sc.isGenerator=false
 nd:N.Nodup
 pre:N.take P.length=P
 par:∀x∈P,sc.names.lookup x=some .local\/sc.names.lookup x=some .cell
 nofree:∀y∈sc.names,y.2≠.free
theorem Kf{kindOf:Str->Option gh}{x:Str}:∀{binds:List (Str×Value)}{m:Str->AE},(∀v,(x,v)∉binds)->bindL kindOf binds m x=m x
 |[],_,_=>rfl
 |(n,v)::r,m,h=>by
  unfold bindL;rw[Kf λw hw=>h w (bh _ hw)];split
  .have:x≠n:=by rintro rfl;exact h v cf
   simp[this]
  .rfl
theorem Cf{kindOf:Str->Option gh}{x:Str}:∀{binds:List (Str×Value)}{m:Str->AE},(∀v,(x,v)∉binds)->bindC kindOf binds m x=m x
 |[],_,_=>rfl
 |(n,v)::r,m,h=>by
  unfold bindC;rw[Cf λw hw=>h w (bh _ hw)];split
  .rfl
  .have:x≠n:=by rintro rfl;exact h v cf
   simp[this]
theorem Pe{kindOf:Str->Option gh}{x:Str}{v:Value}:∀{P:List Str}{vs:AD}{i:Nat}{m:Str->AE},P.Nodup->P[i]?=some x->vs[i]?=some v->kindOf x=some .local->
  bindL kindOf (P.zip vs) m x=some v
 |[],_,_,_,_,h,_,_=>by simp at h
 |_::_,[],_,_,_,_,h,_=>by simp at h
 |p::P,w::vs,0,m,nd,h1,h2,hk=>by
  simp at h1 h2;subst h1;subst h2;show bindL kindOf ((p,w)::P.zip vs) m p=_;unfold bindL;rw[Kf λv hv=>(lq.mp nd).1 (uz hv).1,if_pos hk];simp
 |p::P,w::vs,i+1,m,nd,h1,h2,hk=>by
  show bindL kindOf ((p,w)::P.zip vs) m x=_;unfold bindL;exact Pe (i:=i) (lq.mp nd).2 (by simpa using h1) (by simpa using h2) hk
theorem Ge{kindOf:Str->Option gh}{x:Str}{v:Value}:∀{P:List Str}{vs:AD}{i:Nat}{m:Str->AE},P.Nodup->P[i]?=some x->vs[i]?=some v->kindOf x≠some .local->
  bindC kindOf (P.zip vs) m x=some v
 |[],_,_,_,_,h,_,_=>by simp at h
 |_::_,[],_,_,_,_,h,_=>by simp at h
 |p::P,w::vs,0,m,nd,h1,h2,hk=>by
  simp at h1 h2;subst h1;subst h2;show bindC kindOf ((p,w)::P.zip vs) m p=_;unfold bindC;rw[Cf λv hv=>(lq.mp nd).1 (uz hv).1,if_neg hk];simp
 |p::P,w::vs,i+1,m,nd,h1,h2,hk=>by
  show bindC kindOf ((p,w)::P.zip vs) m x=_;unfold bindC;exact Ge (i:=i) (lq.mp nd).2 (by simpa using h1) (by simpa using h2) hk
def start(N:List Str)(vs:List V):St:=vs.map some++qz (N.length-vs.length) none
def cM(CX:iQ)(P:Program)(w:aj)(K:ae)(mg:Str->AE)(base:Heap)(N:List Str)(qual:Str)(scope:Scope)(f:Addr)(cd:Value)(A:al)(outer:List ay)(s:aa)(H:Hp)(E:XK):Cx where
 prog:=P
 w:=w
 K:=K
 mg:=mg
 base:=base
 A:=A.deeper (envOfC qual scope s.heap.objs.size f cd)
 N:=N
 AN:=s
 AO:=H
 env:=envOfC qual scope s.heap.objs.size f cd
 outer:=outer
 stack:=envOfC qual scope s.heap.objs.size f cd::outer
 ex:=[]
 calm:=true
 fn:=λ_=>true
 pn:=[]
 xe:=λe s'=>wpAny (model P w) (A.deeper (envOfC qual scope s.heap.objs.size f cd)) (leaving (envOfC qual scope s.heap.objs.size f cd) e) (λ_ s''=>CX outer H s E e s'') (λe' s''=>CX outer H s E e' s'') s'
theorem Ng{sc:Scope}{n:Nat}{x:Str}(h:sc.names.lookup x=some .cell):∃c,(cellsFrom n sc.names []).lookup x=some c:=by
 have q:=ym sc.names n [] (.inl h);exact Option.isSome_iff_exists.mp q
theorem Zs{CX:iQ}{P:Program}{w:aj}{K:ae}{mg:Str->AE}{base:Heap}{N ps:List Str}{qual:Str}{scope:Scope}{f:Addr}{cd:Value}{A:al}{outer:List ay}{s s1:aa}{H:Hp}{E:XK}{us:AD}{vs:List V}
  (S:gZ N ps scope)(hd:A.handled=none)(e0:vI P w K mg base A outer s H)(hl:vs.length=ps.length)(r:bC vs us)
  (x:InCallC s s.heap.objs.size (bindL (envOfC qual scope s.heap.objs.size f cd).kindOf (ps.zip us) λ_=>none) (cellsFrom (s.heap.objs.size+1) scope.names []) (bindC (envOfC qual scope s.heap.objs.size f cd).kindOf (ps.zip us) λ_=>none) s1):
  aH (cM CX P w K mg base N qual scope f cd A outer s H E) [] (start N vs) H s1:=by
 have hpl:ps.length<=N.length:=by have:=congrArg qh S.pre;rw[jz]at this;omega
 obtain⟨h1,tk,rfl,hk⟩:=x.done;have noA:∀b:Addr,b∉(cM CX P w K mg base N qual scope f cd A outer s H E).ex:=λb z=>absurd (show b∈([]:List Addr) from z) (by simp);refine⟨⟨e0.mod,S.kind,rfl,rfl,ar _,λy z c h1 h2=>?_,λy hy=>?_,λy c _ h=>?_,λ_=>hd,Around.frames_deeper e0.frames,.inr ⟨rfl,rfl⟩,λb z=>absurd z (noA b),e0.bs,e0.bsz,λb _ _=>noA b,λb z=>absurd z (noA b),e0.funs,e0.frf⟩,
  rfl,e0.bare,Un.kept hk,⟨_,x.toInCall.ns,λi y v h1 h2 h3=>?_⟩,λy c h=>⟨_,x.cell y c h⟩,e0.hok.fresh (ar _),λy c h=>?_,λp hp=>absurd (show p∈([]:List (Addr×Obj)) from hp) (by simp),e0.hok.kept hk,?_⟩
 .exact name_of_addr x.apart (jr h1) (jr h2)
 .have hy:scope.names.lookup y=some .cell\/scope.names.lookup y=some .free:=hy
  rcases hy with hy |hy
  .exact Ng hy
  .exact absurd rfl (S.nofree _ (jr hy))
 .exact ph (x.above y c (jr h))
 .have hi:i<vs.length:=by
   unfold start at h2
   by_cases hi:i<vs.length
   .exact hi
   .rw[dy (by simpa using hi)]at h2
    rw[yn]at h2;split at h2<;>cases h2
  have ha:vs[i]?=some v:=by
   unfold start at h2;rw[du (by simpa using hi),di]at h2;cases e:vs[i]? with
   |none=>rw[e]at h2;cases h2
   |some a=>rw[e]at h2;cases h2;rfl
  obtain⟨u,hu,rv⟩:=r.get ha;have hp:ps[i]?=some y:=by
   rw[<-S.pre,List.getElem?_take_of_lt (by omega)];exact h1
  have ndP:ps.Nodup:=by rw[<-S.pre];exact S.nd.sublist (List.take_sublist _ _)
  refine⟨u,rv,?_⟩;rcases S.par y (dz hp)with k |k
  .exact .inl ⟨k,Pe ndP hp hu k⟩
  .obtain⟨c,e⟩:=Ng (n:=s.heap.objs.size+1) k
   refine .inr ⟨.inl k,c,e,?_⟩;have q:=x.cell y c e;rw[Ge ndP hp hu (by show scope.names.lookup y≠_;rw[k];decide)]at q;exact q
 .exact e0.hok.fresh (ph (x.above y c (jr h)))
 .unfold start
  show _=N.length;rw[bn,ak,yo];omega
theorem Sa{CX:iQ}{P:Program}{w:aj}{K:ae}{mg:Str->AE}{base:Heap}{k:Nat}{f:Addr}{name qual:Str}{params:Arguments}{body:List Stmt}{scope:Scope}{dV kV doc pm cdv ct oc:Value}{an od:AF}
  {osl:Array AE}{N ps:List Str}{sp:Sp}(lk:K.lookup f=some ⟨oc,od,.func (dn name qual params body scope dV kV doc pm an cdv ct),osl⟩)(hcd:jt K cdv qual=true)(S:gZ N ps scope)
  (len:∀vs H Q E,sp vs H Q E->vs.length=ps.length)
  (hbody:∀(A:al)(outer:List ay)(s:aa)(H:Hp)(vs:List V)(Q:VK)(E:XK),dI k (A.deeper (envOfC qual scope s.heap.objs.size f cdv))->sp vs H Q E->
   ∃t,fQ (cM CX P w K mg base N qual scope f cdv A outer s H E) body t/\t {nx:=λ_ H'=>Q .non H',rt:=Q} (start N vs) H):
  eA P w K mg base CX (k+1) f (dn name qual params body scope dV kV doc pm an cdv ct) ps sp:=by
 refine⟨len,λA outer s H args us vs Q E hr e0 hb r hsp=>?_⟩;have hl:=len _ _ _ _ hsp;have KX:K.In s.heap:=e0.mod.kin.keeps λb o e=>(e0.bs b o e).1;have lim:s.heap.NoLimit:=e0.mod.nolimit.keeps λb o e=>(e0.bs b o e).1;have hkind:∀y∈ps.zip us,scope.names.lookup y.1=some .local\/(scope.names.lookup y.1=some .cell/\((cellsFrom (s.heap.objs.size+1) scope.names []).lookup y.1).isSome=true):=λ⟨n,v⟩ hy=>by
  rcases S.par n (uz hy).1 with q |q
  .exact .inl q
  .exact .inr ⟨q,ym _ _ _ (.inl q)⟩
 refine codeAny_call_function hr.depth (KX _ _ lk) rfl S.co S.gen rfl (PySem.W.codeRec_of KX hcd) (hb _ _ _ _ ?_);refine wpAny_newFunctionEnv_cells S.kind hkind λenv he s1 x=>?_;subst he;refine⟨lim.keeps x.toInCall.keep,codeAny_func ?_⟩;obtain⟨t,ht,hq⟩:=hbody A outer s H vs Q E (hr.deeper _) hsp;have I:aH (cM CX P w K mg base N qual scope f cdv A outer s H E) [] (start N vs) H s1:=Zs S hr.hd e0 hl r x;refine jw (ht [] s1 (start N vs) H _ I hq) (λfl s' hs=>?_) λe s' hs=>hs;have fin:∀{σ':St}{H':Hp}{v:V}{u:Value},aH (cM CX P w K mg base N qual scope f cdv A outer s H E) [] σ' H' s'->bW v u->Q v H'->CE outer P w H s Q u s':=
  λ{σ' H' v u} J rv q=>⟨v,H',J.os,J.bare,J.base,J.hok,rv,q⟩
 cases fl with
 |ret u=>
  obtain⟨v,σ',H',J,rv,q⟩:=hs;exact fin J rv q
 |next=>
  obtain⟨σ',H',J,q⟩:=hs;exact fin (v:=V.non) (u:=cx) J rfl q
 |brk=>
  obtain⟨_,_,_,q⟩:=hs;exact jq q
 |cont=>
  obtain⟨_,_,_,q⟩:=hs;exact jq q
section
variable{X:Cx}{x:Str}{p pos:ai}{e:ag}{es:List ag}{t:TA}{id T:String}{r:List V->Hp->VK->Prop}
def Wo(r:List V->Hp->VK->Prop)(t:TA):TE:=λσ H Q=>t σ H λvs H1=>r vs H1 Q
theorem Uh(hc:iK X (.builtin id) r)(hg:Gl X x)(hm:X.mg x=none)(hv:bootBuiltins x=some (.builtin id))(ha:PA X (e::es) t)(hn:x≠"__name__":=by decide)(hdb:(x==("__debug__":Str))=false:=by decide)
  (he:starEach (e::es) X.env=(false,eval e X.env)::starEach es X.env:=by rfl)(hpl:(backTo pos (starEach es X.env)).any (·.1)=false:=by rfl):PE X (.Call (.Name x p) (e::es) [] pos) (Wo r t):=by
 intro AM s σ H Q I h;refine uw (nJ I hg hm hv ?_ hn hdb);exact PyProof.Rows.callWith_builtin1 (bG (ha pos AM s σ H _ I h) λus s1 ⟨vs,H1,I1,r1,q1⟩=>hc AM s1 σ H1 vs us Q I1 r1 q1) he hpl
theorem xK(hc:iK X (.type T) r)(hg:Gl X x)(hm:X.mg x=none)(hv:bootBuiltins x=some (.type T))(ha:PA X (e::es) t)(hn:x≠"__name__":=by decide)(hdb:(x==("__debug__":Str))=false:=by decide)
  (he:starEach (e::es) X.env=(false,eval e X.env)::starEach es X.env:=by rfl)(hpl:(backTo pos (starEach es X.env)).any (·.1)=false:=by rfl):PE X (.Call (.Name x p) (e::es) [] pos) (Wo r t):=by
 intro AM s σ H Q I h;refine uw (nJ I hg hm hv ?_ hn hdb);exact qd (bG (ha pos AM s σ H _ I h) λus s1 ⟨vs,H1,I1,r1,q1⟩=>hc AM s1 σ H1 vs us Q I1 r1 q1) he hpl
end
end L2
namespace HT
open PySem PyProof.Rows
def lexLt:AA->AA->Bool
 |[],[]=>false
 |[],_::_=>true
 |_::_,[]=>false
 |x::xs,y::ys=>if x=y then lexLt xs ys else decide (x<y)
theorem lexLt_cons(x y:Int)(xs ys:AA):lexLt (x::xs) (y::ys)=if x=y then lexLt xs ys else decide (x<y):=rfl
section
open PySem.SeqAt
open PySem.AutoSeq1 (wpAny_loadPart')
open PySem.MeetsSeq PySem.MeetsSeq2 PySem.MeetsSeq3
end
section
variable{prog:Program}{w:aj}{A:al}{E:Value->aa->Prop}{s:aa}
theorem cat_tup{t b:Addr}{vs ws:AD}{Q:Value->aa->Prop}(ht:IsTup s.heap t vs.toArray)(hb:IsTup s.heap b ws.toArray)(hv:vs≠[])
  (h1:ws=[]->Q (.ref t) s)(h2:ws≠[]->Q (.ref s.heap.objs.size) {s with heap:=s.heap.push {cls:=.type "tuple",data:=.seq (vs++ws).toArray}})
  (hsz:vs.length+ws.length<=sizeLine):wpAny (model prog w) A (binaryOp .Add (.ref t) (.ref b)) Q E s:=by
 obtain⟨⟨cls,dd,data,sl⟩,ho,hc,n,hd⟩:=id ht;obtain⟨⟨cls2,dd2,data2,sl2⟩,ho2,hc2,n2,hd2⟩:=id hb;simp only at hc hd hc2 hd2;subst hc hd hc2 hd2;have e:vs.toArray++ws.toArray=(vs++ws).toArray:=by simp
 by_cases hw:ws=[]
 .exact re ⟨_,ho,rfl⟩ ⟨_,ho2,rfl⟩ va vb vd ve (vf _ _)
   (tuple_addW1 t b vs.toArray ws.toArray n n2 dd dd2 sl sl2 (by simpa using hv) (by simp[hw])) ⟨ho,ho2,h1 hw⟩
 .refine re ⟨_,ho,rfl⟩ ⟨_,ho2,rfl⟩ va vb vd ve (vf _ _)
   (tuple_addW2 t b vs.toArray ws.toArray n n2 dd dd2 sl sl2 (by simpa using hv) (by simpa using hw) (by rw[au,au];exact hsz)) ⟨ho,ho2,?_⟩
  rw[e];exact h2 hw
def sIx(n d:Nat):AG->Nat
 |none=>d
 |some v=>if v<0 then(v+(n:Int)).toNat else min v.toNat n
theorem sIx_nat(n d k:Nat):sIx n d (some (k:Int))=min k n:=by
 show(if(k:Int)<0 then((k:Int)+(n:Int)).toNat else min (k:Int).toNat n)=min k n;rw[if_neg (by omega),qi]
theorem O9(n d:Nat)(hd:d<=n)(o:AG):sIx n d o<=n:=by
 cases o with
 |none=>exact hd
 |some v=>
  show(if v<0 then(v+(n:Int)).toNat else min v.toNat n)<=n
  by_cases hv:v<0
  .rw[if_pos hv];omega
  .rw[if_neg hv];exact Nat.min_le_right _ _
theorem Cj(v:Int)(n d:Nat):(if v<0 then max (v+(n:Int)) 0 else min v (n:Int))=((sIx n d (some v):Nat):Int):=by
 show(if v<0 then max (v+(n:Int)) 0 else min v (n:Int))=(((if v<0 then(v+(n:Int)).toNat else min v.toNat n):Nat):Int)
 by_cases hv:v<0
 .simp only[if_pos hv];omega
 .simp only[if_neg hv];omega
theorem Ir(lo hi:AG)(n:Nat):vg lo hi 1 (n:Int)=(((sIx n 0 lo:Nat):Int),((sIx n n hi:Nat):Int)):=by
 have h1:¬((1:Int)<0):=by omega
 unfold vg;simp only[h1,if_false];refine jo ?_ ?_
 .cases lo with
  |none=>rfl
  |some v=>exact Cj v n 0
 .cases hi with
  |none=>rfl
  |some v=>exact Cj v n n
theorem Lr(i j:Nat):rf (i:Int) (j:Int) 1=j-i:=by
 unfold rf;have h1:(1:Int)>0:=by omega
 simp only[h1,if_true,Int.ediv_one];split<;>omega
theorem Td{v:Value}{o:AG}{Q:AG->aa->Prop}(p:kh v o)(h:Q o s):wpAny (model prog w) A (Builtin.Slice.slicePartIndex v) Q E s:=by
 cases p with
 |none=>exact slicePart_none h
 |int i t=>exact slicePart_int h
theorem Zo{sl:Addr}{vl vu:Value}{lo hi:AG}{n:Nat}{Q:Int×Int×Nat->aa->Prop}(hs:s.heap.IsSliceOf sl vl vu .none)(pl:kh vl lo)(pu:kh vu hi)
  (h:Q (((sIx n 0 lo:Nat):Int),1,sIx n n hi-sIx n 0 lo) s):wpAny (model prog w) A (yp (.ref sl) (pure (n:Int))) Q E s:=by
 obtain⟨os,hos,hcs,hds⟩:=id hs;unfold yp Builtin.Slice.sliceFields;refine ah (ah (ib hos hds (x:=vl) rfl (ah (ib hos hds (x:=vu) rfl (ah (ib hos hds (x:=.none) rfl (bf ?_)))))));refine ah (slicePart_none ?_);show wpAny _ _ (if((1:Int)==0)=true then _ else _) _ _ s;rw[if_neg (by decide)];refine ah (Td pl (ah (Td pu (ah (bf ?_)))));show wpAny _ _ (match vg lo hi 1 (n:Int)with |(lo,hi)=>pure (lo,(1:Int),rf lo hi 1)) _ _ s
 rw[Ir lo hi n];show wpAny _ _ (pure (((sIx n 0 lo:Nat):Int),(1:Int),rf ((sIx n 0 lo:Nat):Int) ((sIx n n hi:Nat):Int) 1)) _ _ s;rw[Lr];exact bf h
theorem Cv(xs:Array Value)(i k:Nat):((ax k).filterMap λ(m:Nat)=>xs[((i:Int)+(m:Int)*1).toNat]?).toArray=((xs.toList.drop i).take k).toArray:=by
 have e:(λ(m:Nat)=>xs[((i:Int)+(m:Int)*1).toNat]?)=λm=>xs[i+m]?:=by
  funext m
  have:((i:Int)+(m:Int)*1).toNat=i+m:=by omega
  rw[this]
 rw[e];have:=pick_run xs i k;rw[List.filterMap_map]at this;have e2:((λx=>xs[x]?)∘λx=>i+x)=λm=>xs[i+m]?:=rfl;rw[e2]at this;rw[this]
theorem getItem_tuple_cut{t sl:Addr}{items:Array Value}{vl vu:Value}{lo hi:AG}{Q:Value->aa->Prop}(ht:IsTup s.heap t items)(hs:s.heap.IsSliceOf sl vl vu .none)(pl:kh vl lo)(pu:kh vu hi)
  (hw:¬(sIx items.size 0 lo=0/\sIx items.size items.size hi=items.size))
  (h:Q (.ref s.heap.objs.size) {s with heap:=s.heap.push {cls:=.type "tuple",data:=.seq ((items.toList.drop (sIx items.size 0 lo)).take (sIx items.size items.size hi-sIx items.size 0 lo)).toArray}})
  (hsz:items.size<=sizeLine):wpAny (model prog w) A (getItem (.ref t) (.ref sl)) Q E s:=by
 have htake:sizeOk (.seq ((items.toList.drop (sIx items.size 0 lo)).take (sIx items.size items.size hi-sIx items.size 0 lo)).toArray):=by
  show((items.toList.drop (sIx items.size 0 lo)).take (sIx items.size items.size hi-sIx items.size 0 lo)).toArray.size<=sizeLine;rw[au,jz,vh,jp];omega
 have hj:sIx items.size items.size hi<=items.size:=O9 _ _ (ar _) hi;obtain⟨os,hos,hcs,hds⟩:=id hs;have hTs:s.TypeIs (.ref sl) "slice":=⟨os,hos,hcs⟩;unfold getItem
 try with_reducible refine lc ?_
 first |refine ah (bf ?_) |skip
 refine ah (wpAny_sequenceKey ht.typeIs (by decide) ?_);refine ah (qj (name:=de "__getitem__") ht.typeIs rh
  (oi rh ht.typeIs entry_tuple_getitem ?_ (args_tuple_getitem _ _)))
 show wpAny _ _ (Builtin.Tuple.tupleItemsOf (.ref t) >>= _) _ _ s;refine ah (tupleItemsOf_ ht ?_);refine ah (wpAny_typeOf hTs ?_);rw[if_pos (by decide)];refine ah (Zo hs pl pu ?_);have hno:¬((((sIx items.size 0 lo:Nat):Int)==0&&(1:Int)==1&&(sIx items.size items.size hi-sIx items.size 0 lo)==items.size)=true):=by
  intro q;rw[iu,iu]at q;have q1:((sIx items.size 0 lo:Nat):Int)=0:=eq_of_beq q.1.1;have q2:sIx items.size items.size hi-sIx items.size 0 lo=items.size:=eq_of_beq q.2;exact hw ⟨by omega,by omega⟩
 show wpAny _ _ (if(((sIx items.size 0 lo:Nat):Int)==0&&(1:Int)==1&&(sIx items.size items.size hi-sIx items.size 0 lo)==items.size)=true then _ else _) _ _ s;rw[if_neg hno,Cv]
 first
  |exact ah (m:=rk _) (jx (bf ⟨_,rfl,bf h⟩) htake)
  |exact ah (m:=rk _) (jx (ah (bf (bf ⟨_,rfl,bf h⟩))) htake)
  |exact ah (ah (m:=rk _) (jx (bf (bf ⟨_,rfl,bf h⟩)) htake))
  |exact ah (ah (m:=rk _) (jx (bf ⟨_,rfl,bf h⟩) htake))
end
end HT
namespace L2
open PySem PySem.Spec PyProof.Rows
abbrev TO:=St->Hp->(AG->Hp->Prop)->Prop
def PO(X:Cx)(e:Option ag)(t:TO):Prop:=
 ∀(AM:List (Addr×Obj))(s:aa)(σ:St)(H:Hp)(Q:AG->Hp->Prop),aH X AM σ H s->t σ H Q->
  wpAny (model X.prog X.w) X.A (evalPart e X.env) (λu s'=>∃o H',aH X AM σ H' s'/\kh u o/\Q o H') X.xe s
def Uy:TO:=λ_ H Q=>Q none H
def R9(t:TE):TO:=λσ H Q=>t σ H λx H1=>∃i,x=.int i/\Q (some i) H1
section
variable{X:Cx}{e:ag}{te:TE}{lo hi:Option ag}{tl th:TO}{pos p2:ai}
theorem C0:PO X none Uy:=by
 intro AM s σ H Q I h;rw[evalPart_none];exact bf ⟨none,H,I,.none,h⟩
theorem zE(h:PE X e te):PO X (some e) (R9 te):=by
 intro AM s σ H Q I hw;rw[evalPart_some];refine bG (h AM s σ H _ I hw) ?_
 rintro u s1 ⟨x,H1,I1,r1,q1⟩
 obtain⟨i,rfl,q⟩:=q1;obtain⟨t,rfl⟩:=r1;exact⟨some i,H1,I1,.int i t,q⟩
def mW(X:Cx)(r:V->AG->AG->Hp->VK->Prop):Prop:=
 ∀(AM:List (Addr×Obj))(s:aa)(σ:St)(H:Hp)(x:V)(v vl vu:Value)(lo hi:AG)(sl:Addr)(Q:VK),aH X AM σ H s->bW x v->s.heap.IsSliceOf sl vl vu .none->kh vl lo->kh vu hi->r x lo hi H Q->
  ∃T id,typeLookup (.type T) "__getitem__"=pure (some (.builtin id))/\s.TypeIs v T/\wpAny (model X.prog X.w) X.A (getItem v (.ref sl)) (EP X AM σ Q) X.xe s
theorem mW.or{r r':V->AG->AG->Hp->VK->Prop}(h:mW X r)(h':mW X r'):mW X (λx lo hi H Q=>r x lo hi H Q\/r' x lo hi H Q):=by
 intro AM s σ H x v vl vu lo hi sl Q I rx hs pl pu q;rcases q with q |q
 .exact h AM s σ H x v vl vu lo hi sl Q I rx hs pl pu q
 .exact h' AM s σ H x v vl vu lo hi sl Q I rx hs pl pu q
def tSl(r:V->AG->AG->Hp->VK->Prop)(te:TE)(tl th:TO):TE:=λσ H Q=>te σ H λx H1=>tl σ H1 λl H2=>th σ H2 λu H3=>r x l u H3 Q
theorem Uu{r:V->AG->AG->Hp->VK->Prop}(hr:mW X r)(he:PE X e te)(hl:PO X lo tl)(hu:PO X hi th):PE X (.Subscript e (.Slice lo hi none p2) pos) (tSl r te tl th):=by
 intro AM s σ H Q I h;refine vj (bG (he AM s σ H _ I h) λv s1 hq=>?_);rcases hq with⟨x,H1,I1,r1,q1⟩;refine wpAny_Slice (bG (hl AM s1 σ H1 _ I1 q1) λvl s2 ⟨l,H2,I2,pl,q2⟩=>bG (hu AM s2 σ H2 _ I2 q2) λvu s3 hq=>?_);rcases hq with⟨u,H3,I3,pu,q3⟩;rw[evalPart_none];refine bf ?_;have I4:aH X AM σ H3 {s3 with heap:=s3.heap.push {cls:=.type "slice",data:=.fields #[vl,vu,.none]}}:=I3.kept (t':=s3.toks) λb ob q=>aw _ q;obtain⟨T,id,hT,ht,hg⟩:=hr AM {s3 with heap:=s3.heap.push {cls:=.type "slice",data:=.fields #[vl,vu,.none]}} σ H3 x v vl vu l u s3.heap.objs.size Q I4 r1 (yq ..) pl pu q3;show wpAny (model X.prog X.w) X.A (subscriptTail e (.Slice lo hi none p2) v (.ref s3.heap.objs.size)) (EP X AM σ Q) X.xe {s3 with heap:=s3.heap.push {cls:=.type "slice",data:=.fields #[vl,vu,.none]}};exact tail_any (ops:=[.ref s3.heap.objs.size,v]) ht hT hg (by with_unfolding_all rfl)
def mM(xs:List V)(lo hi:AG):List V:=(xs.drop (HT.sIx xs.length 0 lo)).take (HT.sIx xs.length xs.length hi-HT.sIx xs.length 0 lo)
theorem sO(xs:List V)(lo hi:AG):(mM xs lo hi).length<=xs.length:=by
 unfold mM;rw[jz,vh];omega
def aaw(K:ae):V->AG->AG->Hp->VK->Prop:=λx lo hi H Q=>∃a xs,x=.ref a/\dA K H a xs/\
 ¬(HT.sIx xs.length 0 lo=0/\HT.sIx xs.length xs.length hi=xs.length)/\∀p,H p=none->Q (.ref p) (bA H p (.tup (mM xs lo hi)))
theorem H0:mW X (aaw X.K):=by
 intro AM s σ H x v vl vu lo hi sl Q I rx hs pl pu h;obtain⟨a,xs,rfl,hx,hw,q⟩:=h;cases rx;obtain⟨its,r,ht,hz⟩:=I.tuple hx;have hlen:its.toArray.size=xs.length:=by rw[au];exact r.length.symm
 refine⟨"tuple",_,rh.lookup,ht.typeIs,?_⟩;refine HT.getItem_tuple_cut ht hs pl pu (by rw[hlen];exact hw) ?_ (by rw[hlen];exact hz);rw[hlen];refine⟨.ref s.heap.objs.size,_,I.laid (t':=s.toks) (o:=.tup (mM xs lo hi)) (λb ob q=>aw _ q) (ar _) ?_,rfl,q _ (I.hok.fresh (ar _))⟩;exact⟨⟨dw (sO xs lo hi) hz,_,dh _ rfl,rfl⟩,_,(r.drop (HT.sIx xs.length 0 lo)).take (HT.sIx xs.length xs.length hi-HT.sIx xs.length 0 lo),qx _ _⟩
def Ga(K:ae):R2:=λx y H Q=>∃a b xs ys,x=.ref a/\y=.ref b/\dA K H a xs/\dA K H b ys/\xs≠[]/\xs.length+ys.length<=sizeLine/\
 (ys=[]->Q (.ref a) H)/\(ys≠[]->∀p,H p=none->Q (.ref p) (bA H p (.tup (xs++ys))))
theorem bC.nil_iff{xs:List V}{us:AD}(r:bC xs us):us=[]↔xs=[]:=by
 cases r with
 |nil=>simp
 |cons _ _=>simp
theorem Ej:eB X (binaryOp .Add) (Ga X.K):=by
 intro AM s σ H x y v u Q I rx ry h;obtain⟨a,b,xs,ys,rfl,rfl,ha,hb,hx,hz,q1,q2⟩:=h;cases rx;cases ry;obtain⟨its,r1,p1,_⟩:=I.tuple ha;obtain⟨its2,r2,p2,_⟩:=I.tuple hb;refine HT.cat_tup p1 p2 (λz=>hx (r1.nil_iff.mp z)) (λz=>⟨.ref a,H,I,rfl,q1 (r2.nil_iff.mp z)⟩) (λz=>?_) (by rw[<-r1.length,<-r2.length];exact hz);refine⟨.ref s.heap.objs.size,_,I.laid (t':=s.toks) (o:=.tup (xs++ys)) (λb ob q=>aw _ q) (ar _) ?_,rfl,q2 (λw=>z (r2.nil_iff.mpr w)) _ (I.hok.fresh (ar _))⟩;exact⟨⟨by rw[bn];exact hz,_,dh _ rfl,rfl⟩,_,r1.append r2,qx _ _⟩
end
def aW(n:Nat)(i:Int):Option Nat:=if 0<=i then(if i<n then some i.toNat else none)else if-(n:Int)<=i then some (i+n).toNat else none
def aV{α:Type}(xs:List α)(i:Int):Option α:=(aW xs.length i).bind λj=>xs[j]?
theorem Ji{n:Nat}{i:Int}{j:Nat}(h:aW n i=some j):seqIndex? i n=some j/\j<n/\-(n:Int)<=i/\i<n:=by
 unfold aW at h
 by_cases h0:0<=i
 .rw[if_pos h0]at h
  by_cases h1:i<n
  .rw[if_pos h1]at h
   have e:i.toNat=j:=cg h;exact⟨by rw[vk h0 h1,e],by omega,by omega,h1⟩
  .rw[if_neg h1]at h;cases h
 .rw[if_neg h0]at h
  by_cases h1:-(n:Int)<=i
  .rw[if_pos h1]at h
   have e:(i+n).toNat=j:=cg h;exact⟨by rw[vm (by omega) h1,e],by omega,h1,by omega⟩
  .rw[if_neg h1]at h;cases h
theorem yP{α:Type}{xs:List α}{i:Int}{v:α}(h:aV xs i=some v):∃j,seqIndex? i xs.length=some j/\xs[j]?=some v/\j<xs.length/\-(xs.length:Int)<=i/\i<xs.length:=by
 unfold aV at h;cases e:aW xs.length i with
 |none=>rw[e]at h;cases h
 |some j=>
  rw[e]at h;obtain⟨h1,h2,h3,h4⟩:=Ji e;exact⟨j,h1,h,h2,h3,h4⟩
theorem lV{α:Type}{xs:List α}{j:Nat}{v:α}(h:xs[j]?=some v):aV xs (j:Int)=some v:=by
 have hj:j<xs.length:=(ck.mp h).1;have e:aW xs.length (j:Int)=some j:=by
  unfold aW;rw[if_pos (by omega),if_pos (by omega)];simp
 unfold aV;rw[e];exact h
theorem Mw{α:Type}(xs:List α)(v:α):aV (xs++[v]) (-1)=some v:=by
 have hl:(xs++[v]).length=xs.length+1:=by simp
 have e:aW (xs++[v]).length (-1)=some xs.length:=by
  unfold aW;rw[hl,if_neg (by decide),if_pos (by omega)];congr 1;omega
 unfold aV;rw[e];show(xs++[v])[xs.length]?=some v;simp
def yX(b:ag):Prop:=∀o i,subscripted b false o i=operate [o,i] (getItem o i)
def lP(X:Cx)(r:R2):Prop:=
 ∀(value slice:ag)(AM:List (Addr×Obj))(s:aa)(σ:St)(H:Hp)(x y:V)(v u:Value)(Q:VK),aH X AM σ H s->bW x v->bW y u->r x y H Q->
  subscripted slice false v u=operate [v,u] (getItem v u)->wpAny (model X.prog X.w) X.A (subscriptTail value slice v u) (EP X AM σ Q) X.xe s
def MtR(X:Cx)(id:String)(r:V->List V->Hp->VK->Prop):Prop:=
 ∀(AM:List (Addr×Obj))(s:aa)(σ:St)(H:Hp)(x:V)(xs:List V)(v:Value)(us:AD)(Q:VK),aH X AM σ H s->bW x v->bC xs us->r x xs H Q->
  wpAny (model X.prog X.w) X.A (call (.builtin id) (v::us)) (EP X AM σ Q) X.xe s
section
variable{X:Cx}{a b:ag}{ta tb:TE}{pos:ai}
theorem lP.or{r r':R2}(h:lP X r)(h':lP X r'):lP X (λx y H Q=>r x y H Q\/r' x y H Q):=by
 intro value slice AM s σ H x y v u Q I rx ry q hs;rcases q with q |q
 .exact h value slice AM s σ H x y v u Q I rx ry q hs
 .exact h' value slice AM s σ H x y v u Q I rx ry q hs
theorem Xm{r:R2}(hr:lP X r)(ha:PE X a ta)(hb:PE X b tb)(hs:yX b):PE X (.Subscript a b pos) (wB r ta tb):=by
 intro AM s σ H Q I h;exact vj (Jb ha hb I h λv u s2 x y H2 I2 rx ry q=>hr a b AM s2 σ H2 x y v u Q I2 rx ry q (hs _ _))
def Yn(K:ae):R2:=λx y H Q=>∃p xs i v,x=.ref p/\y=.int i/\bT K H p xs/\aV xs i=some v/\Q v H
def Go(K:ae):R2:=λx y H Q=>∃p xs i v,x=.ref p/\y=.int i/\dA K H p xs/\aV xs i=some v/\Q v H
def Vn:R2:=λx y H Q=>∃z i c,x=.str z/\y=.int i/\z.length<=sizeLine/\aV z.cps.toList i=some c/\Q (.str ⟨#[c]⟩) H
theorem Ux:lP X (Yn X.K):=by
 intro value slice AM s σ H x y v u Q I rx ry h hs;obtain⟨p,xs,i,z,rfl,rfl,hq,he,q⟩:=h;cases rx;obtain⟨t,rfl⟩:=ry;obtain⟨its,r,pl,hz⟩:=I.list hq;obtain⟨j,h1,h2,h3,h4,h5⟩:=yP he;obtain⟨w,ew,rw'⟩:=r.get h2;have hl:=r.length;have hn:=rH;have fin:EP X AM σ Q w s:=⟨z,H,I,rw',q⟩
 by_cases h0:0<=i
 .have hj:i.toNat=j:=by
   rw[vk h0 h5]at h1;exact cg h1
  exact item_listR pl.isList h0 (by omega) (by rw[hj];simpa using ew) fin hs
 .have hj:(i+(its.toArray.size:Int)).toNat=j:=by
   rw[vm (by omega) h4]at h1;rw[au,<-hl];exact cg h1
  exact yr (x:=w) pl.isList.typeIs vn.lookup
   (wpAny_getItem_list_neg (Q:=λr s'=>r=w/\EP X AM σ Q r s') pl.isList (by omega) (by rw[au]<;>omega) (by omega) (by rw[hj];simpa using ew) ⟨rfl,fin⟩) hs
theorem F8:lP X (Go X.K):=by
 intro value slice AM s σ H x y v u Q I rx ry h hs;obtain⟨p,xs,i,z,rfl,rfl,hq,he,q⟩:=h;cases rx;obtain⟨t,rfl⟩:=ry;obtain⟨its,r,pl,hz⟩:=I.tuple hq;obtain⟨j,h1,h2,h3,h4,h5⟩:=yP he;obtain⟨w,ew,rw'⟩:=r.get h2;have hl:=r.length;have hn:=rH;have fin:EP X AM σ Q w s:=⟨z,H,I,rw',q⟩;exact yr (x:=w) pl.typeIs rh.lookup
  (getItem_tuple (j:=j) (Q:=λr s'=>r=w/\EP X AM σ Q r s') pl (by omega) (by omega) (by rw[au,<-hl];exact h1) (by simpa using ew) ⟨rfl,fin⟩) hs
theorem N8:lP X Vn:=by
 intro value slice AM s σ H x y v u Q I rx ry h hs;obtain⟨z,i,c,rfl,rfl,hz,he,q⟩:=h;obtain⟨t,rfl⟩:=rx;obtain⟨t',rfl⟩:=ry;obtain⟨j,h1,h2,h3,h4,h5⟩:=yP he;have hl:z.cps.toList.length=z.length:=by simp[Str.length]
 rw[hl]at h1 h4 h5;have hn:=rH;exact tail_any (typeIs_str s z t) slot_str_getitem.lookup (getItem_str (c:=c) (by
  have e1:decide (i< -(2^63:Int))=false:=decide_eq_false (by omega);have e2:decide (i>=2^63)=false:=decide_eq_false (by omega);rw[e1,e2,Bool.or_false]) (by rw[h1];simpa using h2) ⟨.str ⟨#[c]⟩,H,I.tok _,⟨_,rfl⟩,q⟩) hs
def Ro(K:ae):R2:=λx y H Q=>Yn K x y H Q\/Go K x y H Q\/Vn x y H Q
theorem Gk:lP X (Ro X.K):=Ux.or (F8.or N8)
theorem Vq(its:AD)(n j:Nat)(u:Value):ie (·.setIfInBounds j u) {cls:=.type "list",data:=.seq its.toArray n}={cls:=.type "list",data:=.seq (its.set j u).toArray n}:=by
 simp[ie]
theorem aH.lst{AM:List (Addr×Obj)}{σ:St}{H:Hp}{s:aa}{p:Addr}{xs:List V}(I:aH X AM σ H s)(h:H p=some (.lst xs)):
  ∃(its:AD)(n:Nat),bC xs its/\s.heap.get? p=some {cls:=.type "list",data:=.seq its.toArray n}/\xs.length<=sizeLine:=by
 obtain⟨z,its,n,r,e⟩:=I.hok p _ h;exact⟨its,n,r,e,z⟩
theorem aH.lstUpd{AM:List (Addr×Obj)}{σ:St}{H:Hp}{s:aa}{p:Addr}{xs ys:List V}{its its':AD}{n n':Nat}{f:Obj->Obj}(I:aH X AM σ H s)(h:H p=some (.lst xs))
  (ho:s.heap.get? p=some {cls:=.type "list",data:=.seq its.toArray n})(hf:f {cls:=.type "list",data:=.seq its.toArray n}={cls:=.type "list",data:=.seq its'.toArray n'})(r:bC ys its')(hz:ys.length<=sizeLine)(t:Nat):
  aH X AM σ (bA H p (.lst ys)) {s with heap:=s.heap.update p f,toks:=t}:=by
 have e:(s.heap.update p f).get? p=some {cls:=.type "list",data:=.seq its'.toArray n'}:=by
  rw[yt f ho (by rw[hf]<;>rfl),hf]
 refine I.write (x:=p) (e:=p) (by rw[h];trivial) (.inl rfl) (λb u hb q=>(yu _ _ (je hb)).trans q) ⟨_,e⟩ ?_;exact⟨hz,its',n',r,e⟩
def Z8:V->V->V->Hp->(Hp->Prop)->Prop:=λo i v H Q=>∃p xs k j,o=.ref p/\i=.int k/\H p=some (.lst xs)/\aW xs.length k=some j/\Q (bA H p (.lst (xs.set j v)))
theorem Kh:Fo X Z8:=by
 intro AM s σ H o i v ov iv u Q I ro ri rv h;obtain⟨p,xs,k,j,rfl,rfl,hp,hj,q⟩:=h;cases ro;obtain⟨t,rfl⟩:=ri;obtain⟨its,n,r,ho,hz⟩:=I.lst hp;obtain⟨h1,h2,h3,h4⟩:=Ji hj;have hl:=r.length;have hn:=rH;have I':aH X AM σ (bA H p (.lst (xs.set j v))) {s with heap:=s.heap.update p (ie (·.setIfInBounds j u))}:=
  I.lstUpd hp ho (Vq its n j u) (r.set rv j) (by rw[fh];exact hz) s.toks
 by_cases h0:0<=k
 .have hk:k.toNat=j:=by
   rw[vk h0 h4]at h1;exact cg h1
  exact PySem.W.ki_setAt ho h0 (by omega) (by rw[au,<-hl];exact h4) (by rw[hk];exact⟨_,I',q⟩)
 .have hk:(k+(its.toArray.size:Int)).toNat=j:=by
   rw[vm (by omega) h3]at h1;rw[au,<-hl];exact cg h1
  exact PySem.W.ki_setBack ho (by omega) (by rw[au,<-hl];exact h3) (by omega) (by rw[hk];exact⟨_,I',q⟩)
theorem Up(lo hi:AG)(n:Nat):(sliceBounds lo hi none n).1=((HT.sIx n 0 lo:Nat):Int)/\(sliceBounds lo hi none n).2.1=((HT.sIx n n hi:Nat):Int)/\(sliceBounds lo hi none n).2.2=1:=by
 refine⟨?_,?_,rfl⟩
 .cases lo with
  |none=>simp[sliceBounds,HT.sIx]
  |some i=>
   simp only[sliceBounds,HT.sIx,yw,show(1:Int)>0 by decide,if_true]
   by_cases h:i<0
   .simp only[h,if_true]<;>omega
   .simp only[h,if_false]<;>omega
 .cases hi with
  |none=>simp[sliceBounds,HT.sIx]
  |some i=>
   simp only[sliceBounds,HT.sIx,yw,show(1:Int)>0 by decide,if_true]
   by_cases h:i<0
   .simp only[h,if_true]<;>omega
   .simp only[h,if_false]<;>omega
theorem Np(its:AD)(lo hi:AG):slicePick its.toArray lo hi none=((its.drop (HT.sIx its.length 0 lo)).take (HT.sIx its.length its.length hi-HT.sIx its.length 0 lo)).toArray:=by
 obtain⟨h1,h2,h3⟩:=Up lo hi its.toArray.size;unfold slicePick;rw[h1,h2,h3];simp only[sliceRange_one,pick_run,au]<;>rfl
def aa4(K:ae):V->AG->AG->Hp->VK->Prop:=λx lo hi H Q=>∃a xs,x=.ref a/\bT K H a xs/\∀p,H p=none->Q (.ref p) (bA H p (.lst (mM xs lo hi)))
theorem Rz:mW X (aa4 X.K):=by
 intro AM s σ H x v vl vu lo hi sl Q I rx hs pl pu h;obtain⟨a,xs,rfl,hx,q⟩:=h;cases rx;obtain⟨its,r,ht,hz⟩:=I.list hx;have hlen:=r.length;refine⟨"list",_,vn.lookup,ht.isList.typeIs,?_⟩;refine yx ht.isList hs pl pu .none (by simp) ?_ (by rw[au]<;>omega);rw[Np,<-hlen];refine⟨.ref s.heap.objs.size,_,I.laid (t':=s.toks) (o:=.lst (mM xs lo hi)) (λb ob q=>aw _ q) (ar _) ?_,rfl,q _ (I.hok.fresh (ar _))⟩;exact⟨dw (sO xs lo hi) hz,_,0,(r.drop (HT.sIx xs.length 0 lo)).take (HT.sIx xs.length xs.length hi-HT.sIx xs.length 0 lo),dh _ rfl⟩
theorem Tp:iK X (.builtin "len") (λxs H Q=>∃p ys,xs=[.ref p]/\(bT X.K H p ys\/dA X.K H p ys)/\Q (.int ys.length) H):=by
 intro AM s σ H xs us Q I r h;obtain⟨p,ys,rfl,hq,q⟩:=h;obtain⟨u,rfl,rx⟩:=kD r;cases rx;have hn:=rH;rcases hq with hq |hq
 .obtain⟨its,r',pl,hz⟩:=I.list hq
  have hlen:=r'.length;exact Calls.call_len_list pl.isList (by simp only[au]<;>omega) ⟨.int ys.length,H,I.tok _,⟨s.toks+1,by rw[au,hlen]⟩,q⟩
 .obtain⟨its,r',pl,hz⟩:=I.tuple hq
  have hlen:=r'.length;exact len_tuple pl (by simp only[au]<;>omega) ⟨.int ys.length,H,I.tok _,⟨s.toks+1,by rw[au,hlen]⟩,q⟩
theorem wF:iK X (.type "list") (λxs H Q=>∃p ys,xs=[.ref p]/\(bT X.K H p ys\/dA X.K H p ys)/\∀l,H l=none->Q (.ref l) (bA H l (.lst ys))):=by
 intro AM s σ H xs us Q I r h;obtain⟨p,ys,rfl,hq,q⟩:=h;obtain⟨u,rfl,rx⟩:=kD r;cases rx;have fin:∀(its:AD),bC ys its->ys.length<=sizeLine->∀(h':Heap)(c':Nat),(∀b o',s.heap.get? b=some o'->h'.get? b=some o')->
   h'.get? s.heap.objs.size=some {cls:=.type "list",dict:=none,data:=.seq its.toArray c',slots:=#[]}->EP X AM σ Q (.ref s.heap.objs.size) {s with heap:=h'}:=λits r' hz h' c' kp e=>
  ⟨.ref s.heap.objs.size,_,I.laid (t':=s.toks) kp (ar _) (show fK X.prog X.w _ h' _ (.lst ys) from⟨hz,its,c',r',e⟩),rfl,q _ (I.hok.fresh (ar _))⟩
 rcases hq with hq |hq
 .obtain⟨its,r',pl,hz⟩:=I.list hq
  have hlen:=r'.length;obtain⟨o,ho,hc,n,hd⟩:=pl.isList;exact call_list_seq p (.inl rfl) ho hc hd (λh' c' kp e=>fin its r' hz h' c' kp e) (by simp only[au]<;>omega)
 .obtain⟨its,r',pl,hz⟩:=I.tuple hq
  have hlen:=r'.length;obtain⟨o,ho,hc,n,hd⟩:=pl;exact call_list_seq p (.inr rfl) ho hc hd (λh' c' kp e=>fin its r' hz h' c' kp e) (by simp only[au]<;>omega)
theorem Lp:iK X (.type "tuple") (λxs H Q=>∃p ys,xs=[.ref p]/\((bT X.K H p ys/\∀l,H l=none->Q (.ref l) (bA H l (.tup ys)))\/(dA X.K H p ys/\Q (.ref p) H))):=by
 intro AM s σ H xs us Q I r h;obtain⟨p,ys,rfl,h⟩:=h;obtain⟨u,rfl,rx⟩:=kD r;cases rx;rcases h with⟨hq,q⟩|⟨hq,q⟩
 .obtain⟨its,r',pl,hz⟩:=I.list hq
  have hlen:=r'.length;refine call_tuple_list pl.isList (λh' kp=>?_) (by simp only[au]<;>omega);have I1:aH X AM σ H {s with heap:=h'}:=I.kept (t':=s.toks) kp;have I2:aH X AM σ (bA H h'.objs.size (.tup ys)) {s with heap:=h'.push {cls:=.type "tuple",data:=.seq its.toArray}}:=
   I1.laid (t':=s.toks) (λb o e=>aw _ e) (ar _) (show fK X.prog X.w _ _ _ (.tup ys) from⟨⟨hz,_,dh _ rfl,rfl⟩,its,r',qx _ _⟩)
  exact⟨.ref h'.objs.size,_,I2,rfl,q _ (I1.hok.fresh (ar _))⟩
 .obtain⟨its,r',pl,hz⟩:=I.tuple hq
  exact call_tuple_same pl ⟨.ref p,H,I,rfl,q⟩
def Lb(K:ae)(T:String)(x:V)(H:Hp):Prop:=match x with
 |.str _=>T="str"
 |.int _=>T="int"
 |.ref p=>(T="list"/\∃xs,bT K H p xs)\/(T="tuple"/\∃o,K.lookup p=some o/\o.cls=.type "tuple"/\o.dict=none)\/
   (T="dict"/\((∃kvs,H p=some (.dK kvs))\/∃kvs,H p=some (.dT kvs)))\/(T="set"/\∃S n,H p=some (.set S n))
 |_=>False
theorem N5{AM:List (Addr×Obj)}{σ:St}{H:Hp}{s:aa}{T:String}{x:V}{v:Value}(I:aH X AM σ H s)(r:bW x v)(ty:Lb X.K T x H):
  s.TypeIs v T/\∀a,v=.ref a->∃ob,s.heap.get? a=some ob/\ob.dict=none:=by
 cases x with
 |str z=>
  obtain⟨t,rfl⟩:=r;cases(show T="str" from ty);exact⟨typeIs_str s z t,λ_ e=>nomatch e⟩
 |int i=>
  obtain⟨t,rfl⟩:=r;cases(show T="int" from ty);exact⟨typeIs_int s i t,λ_ e=>nomatch e⟩
 |ref p=>
  cases r;rcases ty with⟨rfl,xs,hq⟩|⟨rfl,o,hk,hc,hd⟩|⟨rfl,hk⟩|⟨rfl,S,n,hk⟩
  .obtain⟨its,_,pl,_⟩:=I.list hq
   refine⟨pl.isList.typeIs,λa e=>?_⟩;cases e;obtain⟨o,n,e,c,hd,_⟩:=pl;exact⟨o,e,hd⟩
  .refine⟨⟨o,I.kIn p o hk,hc⟩,λa e=>?_⟩
   cases e;exact⟨o,I.kIn _ o hk,hd⟩
  .have z:∃o,s.heap.get? p=some o/\o.ExactDict:=by
    rcases hk with⟨kvs,hk⟩|⟨kvs,hk⟩
    .obtain⟨_,_,_,_,o,_,_,e,ex,_⟩:=I.hok p _ hk
     exact⟨o,e,ex⟩
    .obtain⟨_,_,_,_,o,_,_,e,ex,_⟩:=I.hok p _ hk
     exact⟨o,e,ex⟩
   obtain⟨o,e,ex⟩:=z;refine⟨⟨o,e,ex.1⟩,λa e2=>?_⟩;cases e2;exact⟨o,e,ex.2.1⟩
  .obtain⟨o,_,_,_,e,ex,_⟩:=I.hok p _ hk
   refine⟨⟨o,e,ex.1⟩,λa e2=>?_⟩;cases e2;exact⟨o,e,ex.2.1⟩
 |_=>exact jq ty
def tBM(K:ae)(T:String)(r:V->List V->Hp->VK->Prop)(to:TE)(t:TA):TE:=λσ H Q=>to σ H λx H1=>Lb K T x H1/\t σ H1 λxs H2=>r x xs H2 Q
variable{o e:ag}{es:List ag}{to:TE}{t:TA}{name:Str}{apos cpos:ai}{T id:String}{r:V->List V->Hp->VK->Prop}
theorem Ua(pa:PlainAttrs T)(slot:Slot T name id)(hty:typeOf (.builtin id)=pure (.type "method_descriptor"))(hm:MtR X id r)(ho:PE X o to)(ha:PA X (e::es) t)
  (hbase:attributeBase o name X.env (eval o X.env)=eval o X.env:=by rfl)
  (hfew:((backTo cpos (starEach (e::es) X.env)).all (λx=>!x.1)&&(backToKw cpos (keywordEach [] X.env)).all (λx=>x.1.isSome)
   &&decide ((e::es).length+([]:List jy).length+(if([]:List jy).isEmpty then 0 else 1)<30))=true:=by rfl)
  (hline:(apos.endLine==cpos.line)=true:=by rfl)(hs:starEach (e::es) X.env=(false,eval e X.env)::starEach es X.env:=by rfl)(hplain:(backTo cpos (starEach es X.env)).any (·.1)=false:=by rfl):
  PE X (.Call (.Attribute o name apos) (e::es) [] cpos) (tBM X.K T r to t):=by
 intro AM s σ H Q I h;refine wpAny_Call_method_late hbase hfew hline rfl (bG (ho AM s σ H _ I h) λv s1 hq=>?_);rcases hq with⟨x,H1,I1,r1,ty,q1⟩;obtain⟨h1,h2⟩:=N5 I1 r1 ty;refine⟨T,id,pa,slot,hty,h1,h2,?_⟩;have hA:=ha cpos AM s1 σ H1 _ I1 q1;rw[hs]at hA⊢;refine Calls.callWith_builtin (by show(false||(backTo cpos (starEach es X.env)).any (·.1))=false;rw[hplain]<;>rfl) (yy ?_);exact bG hA λus s2 ⟨vs,H2,I2,r2,q2⟩=>hm AM s2 σ H2 x vs v us Q I2 r1 r2 q2
end
def Vo(X:Cx)(id:String)(r:V->List V->Hp->VK->Prop):Prop:=
 ∀(AM:List (Addr×Obj))(s:aa)(σ:St)(H:Hp)(x:V)(xs:List V)(v:Value)(us:AD)(Q:VK),aH X AM σ H s->bW x v->bC xs us->r x xs H Q->
  wpAny (model X.prog X.w) X.A (call (.builtin id) (v::us)) (EP X AM σ Q) X.xe s
theorem bC.one:∀{x:V}{us:AD},bC [x] us->∃u,us=[u]/\bW x u:=by
 rintro _ _ (_ |⟨r,_ |_⟩)
 exact⟨_,rfl,r⟩
theorem bC.eraseIdx:∀{xs:List V}{us:AD}(i:Nat),bC xs us->bC (xs.eraseIdx i) (us.eraseIdx i)
 |_,_,_,.nil=>.nil
 |_,_,0,.cons _ t=>t
 |_,_,i+1,.cons r t=>.cons r (bC.eraseIdx i t)
theorem xC{α:Type}:∀(l:List α)(i:Nat),(l.eraseIdx i).length<=l.length
 |[],_=>ar _
 |_::_,0=>qk _
 |_::r,i+1=>Nat.succ_le_succ (xC r i)
section
variable{X:Cx}{AM:List (Addr×Obj)}{σ:St}{H:Hp}{s:aa}{l b:Addr}{xs ys zs:List V}
theorem aH.lset{its its':AD}{n:Nat}{f:Array Value->Array Value}{t':Nat}(I:aH X AM σ H s)(hH:H l=some (.lst xs))
  (e:s.heap.get? l=some {cls:=.type "list",data:=.seq its.toArray n})(hf:f its.toArray=its'.toArray)(hv:bC ys its')(hz:ys.length<=sizeLine):
  aH X AM σ (bA H l (.lst ys)) {s with heap:=s.heap.update l (ie f),toks:=t'}:=by
 have q:=PySem.IsL.update e f;rw[hf]at q;refine I.write (x:=l) (e:=l) (by rw[hH];exact trivial) (.inl rfl) (λb' u hb hu=>(yu s.heap (ie f) (je hb)).trans hu) ⟨_,q⟩ ?_;exact⟨hz,its',_,hv,q⟩
theorem aH.lnew{its:AD}{t':Nat}(I:aH X AM σ H s)(hv:bC ys its)(hz:ys.length<=sizeLine):
  aH X AM σ (bA H s.heap.objs.size (.lst ys)) {s with heap:=s.heap.push {cls:=.type "list",data:=.seq its.toArray},toks:=t'}:=
 I.laid (λ_ _ q=>aw _ q) (ar _) ⟨hz,its,0,hv,dh _ rfl⟩
theorem aH.fresh(I:aH X AM σ H s):H s.heap.objs.size=none:=I.hok.fresh (ar _)
theorem aH.lstM(I:aH X AM σ H s)(hH:H l=some (.lst xs)):xs.length<=sizeLine/\∃(its:AD)(n:Nat),bC xs its/\xs.length=its.length/\s.heap.get? l=some {cls:=.type "list",data:=.seq its.toArray n}:=by
 obtain⟨z,its,n,r,e⟩:=I.hok l _ hH;exact⟨z,its,n,r,r.length,e⟩
theorem Lv{n:Nat}(h:n<=sizeLine):rl n=false:=by
 unfold rl;exact decide_eq_false (by omega)
end
section
variable{X:Cx}
def Kz:V->List V->Hp->VK->Prop:=λx vs H Q=>∃l xs y,x=.ref l/\vs=[y]/\H l=some (.lst xs)/\xs.length<sizeLine/\Q .non (bA H l (.lst (xs++[y])))
theorem tH:Vo X "list.append" Kz:=by
 intro AM s σ H x vs v us Q I rx rv h;obtain⟨l,xs,y,rfl,rfl,hH,hz,q⟩:=h;cases rx;obtain⟨u,rfl,ru⟩:=rv.one;obtain⟨z,its,n,r,hl,e⟩:=I.lstM hH;refine vo vp ⟨_,e,rfl⟩ F.entry_list_append (F.args_list_append_2 _ _) (PySem.list_append l its.toArray n u (by rw[au];omega)) ⟨e,?_⟩;refine⟨.non,_,I.lset (its':=its++[u]) hH e (by simp) (r.append (.cons ru .nil)) ?_,rfl,q⟩;rw[bn,ju];omega
def P7:V->List V->Hp->VK->Prop:=λx vs H Q=>∃l xs i k y,x=.ref l/\vs=[.int i]/\H l=some (.lst xs)/\-(2^63)<=i/\i<2^63/\seqIndex? i xs.length=some k/\xs[k]?=some y/\Q y (bA H l (.lst (xs.eraseIdx k)))
theorem Mv:Vo X "list.pop" P7:=by
 intro AM s σ H x vs v us Q I rx rv h;obtain⟨l,xs,i,k,y,rfl,rfl,hH,h1,h2,hk,hy,q⟩:=h;cases rx;obtain⟨u,rfl,ru⟩:=rv.one;obtain⟨t,rfl⟩:=ru;obtain⟨z,its,n,r,hl,e⟩:=I.lstM hH;obtain⟨w,hw,rw'⟩:=r.get hy;refine vo F.slot_list_pop ⟨_,e,rfl⟩ F.entry_list_pop (F.args_list_pop_2 _ _)
  (MeetsSeq.list_pop_at l its.toArray n i t k w (fitsIndex_both h1 h2) (by rw[au,<-hl];exact hk) (by rw[<-Array.getElem?_toList];exact hw) (by rw[au];omega)) ⟨e,?_⟩
 refine⟨y,_,I.lset (its':=its.eraseIdx k) hH e ?_ (r.eraseIdx k) ?_,rw',q⟩
 .show its.toArray.eraseIdxIfInBounds k=(its.eraseIdx k).toArray
  rw[List.eraseIdxIfInBounds_toArray]
 .have:=xC xs k
  omega
end
section
variable{prog:Program}{w:aj}{A:al}{E:Value->aa->Prop}{s:aa}
end
section
variable{X:Cx}
end
end L2
namespace Att
open PySem PySem.W PySem.Calls PyProof.Rows
theorem Cp{P:ni}{h:Heap}:∀(ns:AA)(vs:AD),WellAll P h vs (ns.map WData.int)->oj vs ns:=by
 intro ns
 induction ns with
 |nil=>
  intro vs w;rw[cq]at w;cases w;exact .nil
 |cons n ns ih=>
  intro vs w;rw[az]at w;cases w with
  |cons a b=>
   cases a;exact .cons _ _ (ih _ b)
theorem Is{l:om}{n:Nat}(hn:l.most=some n){P:ni}{h:Heap}{args:List WData}{vals:AD}
  (hpre:l.row.toRowW.claim.pre args=true)(hwl:WellAll P h vals args):
  ∃a vs ns,vals=[ik a]/\args=[WData.list (ns.map WData.int)]/\h.get? a=some {cls:=.type "list",data:=.seq vs.toArray}/\oj vs ns/\ns.length<=n:=by
 have hsh:WShape.hasAll [] args [.list .int]=true:=(pre_splitW hpre).1;have hc:l.pre.holds [] {args:=args}=true:=(pre_splitW hpre).2;obtain⟨d,r,rfl,h1,h2⟩:=hasAllW_cons hsh;obtain rfl:=hasAllW_nil h2;obtain⟨xs,rfl,h3⟩:=hasW_list h1;obtain⟨ns,rfl⟩:=items_int h3;have hlen:ns.length<=n:=by
  unfold OpenLaw.pre at hc;have h4:(WTm.not (.lt (.lit (.int (n:Int))) (.len (.arg 0)))).holds [] {args:=[.list (ns.map .int)]}=true:=by
   have h4:=(holds_andW hc).1;rw[hn]at h4;exact h4
  have h5:=condW_of h4 (w_not (w_lt w_lit (w_len_list (w_arg rfl))));rw[ak]at h5;refine Nat.le_of_not_lt λq=>?_;have q':(n:Int)<((ns.length:Nat):Int):=by omega
  first
   |(rw[decide_eq_true q']at h5;exact absurd h5 (by decide))
   |(simp at h5;omega)
 cases hwl with
 |cons w1 w2=>
  cases w2;cases w1 with
  |list ho hall=>exact⟨_,_,ns,rfl,rfl,ho,Cp ns _ hall,hlen⟩
theorem Nt(l:om)(args:List WData):l.row.toRowW.claim.post args (.bool true) args=true:=
 postW_of (r:=l.row.toRowW) (X:=(true==true))
  (show WShape.has [] (.bool true) .bool=true by first |rfl |decide |simp[WShape.has,WShape.arms,WShape.armsAll])
  (show(WTm.eq .res (.lit (.bool true))).value [] {args:=args,res:=some (.bool true),after:=args}=some (.bool (true==true)) from w_eq_bool (w_res rfl) w_lit) rfl
theorem attach_call{l:om}{n:Nat}{q:Program}{loose:List Str}{XP:(Str->AE)->Heap->Prop}{YP:aj->Heap->Prop}{d:DefRec}
  (hn:l.most=some n)(hdf:d.params.defaults=[])
  (call:∀(w:aj)(AN AQ:aa)(mg mb:Str->AE)(fa:Addr)(o:Obj)(pm cd doc:Value)(a:Addr)(vs:AD)(ns:AA),
   Ground q loose [] XP w AN mg mb AQ.heap->YP w AQ.heap->
   AQ.heap.get? fa=some o->o.data=.func (docDef d.name d.params d.body d.scope pm cd doc)->AQ.heap.CodeRec cd d.name->mg d.name=some (.ref fa)->
   AQ.heap.get? a=some {cls:=.type "list",data:=.seq vs.toArray}->oj vs ns->ns.length<=n->AQ.gens=#[]->
   codeAny (model l.prog w) callerA (.call (.ref fa) ⟨[.ref a],[]⟩) (λr s'=>r=.ok (.ret (.bool true))/\OldK AQ.heap s'.heap/\s'.os=AQ.os/\ji s'.gens) AQ):
  WalkO q loose XP YP l.row.toRowW d [] (λf vs=>vq f vs):=by
 intro w AN AQ mg mb G Y fa o pm cd doc dV kV ho hd hcd hD hmg hg args vals as hpre hlay hrd hwl hlo;obtain rfl:dV=.none:=Dflts.none hD hdf;obtain rfl:kV=.none:=Dflts.noKw hD;obtain⟨a,vs,ns,rfl,rfl,hobj,hints,hlen⟩:=Is hn hpre hwl;refine enter_call (qy (call w AN AQ mg mb fa o pm cd doc a vs ns G Y ho (fd_plain hd) hcd hmg hobj hints hlen hg) λr s' hq=>?_);obtain⟨rfl,h2,h3,h4⟩:=hq;exact⟨.inl ⟨.bool true,.bool true,[],rfl,λ_=>rfl,.bool true,Nt l _,λ_=>⟨List.Pairwise.nil,λ_ hm=>(nomatch hm)⟩⟩,h2,h3,h4⟩
section
variable{prog:Program}{w:aj}{A:al}{E:Value->aa->Prop}{s:aa}{K:Frag}
end
end Att
namespace L2
open PySem PySem.Spec PyProof.Rows
theorem Xe:∀{vs:AD}{ns:AA},oj vs ns->bC (ns.map V.int) vs
 |_,_,.nil=>.nil
 |_,_,.cons n t h=>.cons ⟨t,rfl⟩ (Xe h)
def Za(H:Hp):Prop:=∀b,H b=none\/∃o xs,H b=some (.frz o (.lst xs))
theorem Aw{P:Program}{w:aj}{K:ae}{mg mb:Str->AE}{CX:iQ}{k:Nat}{fa a:Addr}{fd:bj}{x:Str}{sp:Sp}{AQ:aa}{vs:AD}{ns:AA}
  (KX:K.In AQ.heap)(hns:AQ.heap.Ns mainGlobals mg)(hb:AQ.heap.Ns builtinsNs mb)(hbb:∀x:Str,x≠"__name__"->mb x=bootBuiltins x)(hlim:AQ.heap.NoLimit)(hg:AQ.gens=#[])
  (ha:AQ.heap.get? a=some {cls:=.type "list",data:=.seq vs.toArray})(hi:oj vs ns)(hl:ns.length<=sizeLine)(hr:dI k callerA)
  (F:∀base:Heap,K.In base->base.Ns mainGlobals mg->eA P w K mg base CX k fa fd [x] sp)(hbind:∀(s:aa)(u:Value),oh s fd ⟨[u],[]⟩ [(x,u)])
  (hsp:∀H:Hp,Za H->bT K H a (ns.map V.int)->sp [.ref a] H (λv _=>v=.bl true) λ_ _ _=>False)
  (hCX:∀H e s',CX [] H AQ (λ_ _ _=>False) e s'->False):
  codeAny (model P w) callerA (.call (.ref fa) ⟨[.ref a],[]⟩) (λr s'=>r=.ok (.ret (.bool true))/\OldK AQ.heap s'.heap/\s'.os=AQ.os/\ji s'.gens) AQ:=by
 have rv:=Xe hi;have lenV:=hi.length
 --from an abstract heap in which nothing but the script may be tracked
 have core:∀H:Hp,Za H->bT K H a (ns.map V.int)->eX P w H AQ.heap->(∀b,H b≠none->b=a)->(H a≠none->K.lookup a=none)->
   codeAny (model P w) callerA (.call (.ref fa) ⟨[.ref a],[]⟩) (λr s'=>r=.ok (.ret (.bool true))/\OldK AQ.heap s'.heap/\s'.os=AQ.os/\ji s'.gens) AQ:=by
  intro H hO hS hok hA hK;have base_of:∀{b:Addr}{o:Obj},AQ.heap.get? b=some o->H b=none->(lI AQ.heap H).get? b=some o:=λe n=>Yv e n;have noA:∀{b:Addr}{o:Obj}{es:Array DictEntry}{ep:Nat},AQ.heap.get? b=some o->o.data=.dict es ep->H b=none:=λ{b o es ep} e d=>by
   cases q:H b with
   |none=>rfl
   |some u=>
    have e':b=a:=hA b (by rw[q];simp);subst e';rw[ha]at e;cases e;have d':Data.seq vs.toArray _=Data.dict es ep:=d;cases d'
  have nsK:∀{b:Addr}{m:Str->AE},AQ.heap.Ns b m->(lI AQ.heap H).Ns b m:=λ{b m} ⟨o,es,ep,e,d,r⟩=>⟨o,es,ep,base_of e (noA e d),d,r⟩;have hKb:K.In (lI AQ.heap H):=λb o e=>base_of (KX b o e) (by
   cases q:H b with
   |none=>rfl
   |some u=>
    have e':b=a:=hA b (by rw[q];simp);subst e';rw[hK (by rw[q];simp)]at e;cases e)
  have hM:Mod K mg (lI AQ.heap H):=⟨hKb,nsK hns,⟨mb,nsK hb,hbb⟩,let⟨mc,h1,h2⟩:=hlim;⟨mc,nsK h1,h2⟩⟩;have e0:vI P w K mg (lI AQ.heap H) callerA [] AQ H:=⟨rfl,hM,λb o e=>Dy e,vt (Hs _ _),trivial,λb hb=>absurd (show b∈([]:List Addr) from hb) (by simp),hok,.of_eq hg⟩;refine qy ((F _ hKb (nsK hns)).run callerA [] AQ H ⟨[.ref a],[]⟩ [.ref a] [.ref a] _ _ hr e0 (hbind AQ (.ref a)) (.cons rfl .nil) (hsp H hO hS)) λr s' h=>?_;cases r with
  |error e=>exact(hCX H e s' h).elim
  |ok fl=>
   cases fl with
   |next=>exact jq h
   |brk=>exact jq h
   |cont=>exact jq h
   |ret u=>
    obtain⟨v,H',os,bare,un,hok',r',q⟩:=h;have q':v=.bl true:=q;subst q';obtain rfl:u=ug true:=r';refine⟨rfl,OldK.of_keep λb o e=>?_,os,bare⟩;cases q:H b with
    |none=>exact un.keep b o e q (by intro z;exact absurd (show b∈([]:List Addr) from z) (by simp)) (by simp)
    |some u=>
     rcases hO b with z |⟨ob,xs,z⟩
     .rw[q]at z;cases z
     .have z2:=un.frzs b ob _ z
      obtain⟨e1,_⟩:=hok b _ z;obtain⟨e2,_⟩:=hok' b _ z2;rw[e]at e1;cases e1;exact e2
 cases hk:K.lookup a with
 |some o=>
  --the script is one of the module's own objects
  have e:=KX a o hk;rw[ha]at e;cases e;refine core (λ_=>none) (λ_=>.inl rfl) (.inr ⟨_,vs.toArray,_,hk,rfl,rfl,rfl,by rw[au,lenV];exact hl,by simpa using rv⟩) (λb u z=>by have z':(none:Option HO)=some u:=z;cases z') (λb z=>absurd rfl z) λz=>absurd rfl z
 |none=>
  refine core (λb=>if b=a then some (.frz {cls:=.type "list",data:=.seq vs.toArray} (.lst (ns.map V.int)))else none) (λb=>?_) (.inl (.inr ⟨{cls:=.type "list",data:=.seq vs.toArray},if_pos rfl⟩)) (λb u z=>?_) (λb z=>?_) λ_=>hk
  .by_cases hb:b=a
   .exact .inr ⟨_,_,if_pos hb⟩
   .exact .inl (if_neg hb)
  .by_cases hb:b=a
   .have z':=(if_pos hb).symm.trans z
    cases z';subst hb;exact⟨ha,by rw[ak];exact hl,vs,_,rv,ha⟩
   .have z':=(if_neg hb).symm.trans z
    cases z'
  .by_cases hb:b=a
   .exact hb
   .exact absurd (if_neg hb) z
theorem walk_of{l:om}{n k:Nat}{q:Program}{loose:List Str}{XP:(Str->AE)->Heap->Prop}{YP:aj->Heap->Prop}{d:DefRec}{K:ni->ae}{CX:aj->iQ}{sp:aj->Sp}{x:Str}
  (hn:l.most=some n)(hn2:n<=sizeLine)(hdf:d.params.defaults=[])(hr:dI k callerA)
  (hY:∀(w:aj)(h:Heap),YP w h->(K w.params).In h)
  (F:∀(w:aj)(mg:Str->AE)(fa:Addr)(h:Heap),(K w.params).In h->h.Ns mainGlobals mg->mg d.name=some (.ref fa)->
   ∃fd:bj,(∀(s:aa)(u:Value),oh s fd ⟨[u],[]⟩ [(x,u)])/\
    ∀base:Heap,(K w.params).In base->base.Ns mainGlobals mg->eA l.prog w (K w.params) mg base (CX w) k fa fd [x] (sp w))
  (hsp:∀(w:aj)(H:Hp)(a:Addr)(ns:AA),ns.length<=n->Za H->bT (K w.params) H a (ns.map V.int)->sp w [.ref a] H (λv _=>v=.bl true) λ_ _ _=>False)
  (hCX:∀(w:aj)(H:Hp)(s:aa)(e:Value)(s':aa),CX w [] H s (λ_ _ _=>False) e s'->False):
  PySem.W.WalkO q loose XP YP l.row.toRowW d [] (λf vs=>vq f vs):=by
 refine Att.attach_call hn hdf λw AN AQ mg mb fa o pm cd doc a vs ns G Y ho hd hcd hmg hobj hints hlen hg=>?_;have KX:=hY w _ Y;obtain⟨fd,hb,hF⟩:=F w mg fa _ KX G.T.g hmg;exact Aw KX G.T.g G.T.b G.T.builtins G.T.nolimit hg hobj hints (dw hlen hn2) hr hF hb (λH hO hS=>hsp w H a ns hlen hO hS) λH e s'=>hCX w H AQ e s'
abbrev fB:iQ:=λ_ _ _ _ _ _=>False
abbrev E0:XK:=λ_ _ _=>False
theorem Pa{X:Cx}:uI fB X E0:=λ_ _ _ _ _ _ _ h=>h.elim
structure iG(K:ae)(x qual:Str)(st:Stmt)(f:Addr)(fd:bj):Prop where
 ex:∃(oc:Value)(od:AF)(kV doc pm:Value)(an:AF)(cdv ct:Value)(osl:Array AE),
  fd=dn x qual (fW st) (eC st) (cC st) .none kV doc pm an cdv ct/\K.lookup f=some ⟨oc,od,.func fd,osl⟩/\jt K cdv qual=true
 kp:fg K (.ref f)=true
section
variable{P:Program}{w:aj}{K:ae}{mg:Str->AE}{base:Heap}
theorem iG.ok{x qual:Str}{st:Stmt}{f:Addr}{fd:bj}{N ps:List Str}{k:Nat}{sp:Sp}(F:iG K x qual st f fd)(S:gZ N ps (cC st))(len:∀vs H Q E,sp vs H Q E->vs.length=ps.length)
  (hbody:∀(cdv:Value)(A:al)(outer:List ay)(s:aa)(H:Hp)(vs:List V)(Q:VK)(E:XK),dI k (A.deeper (envOfC qual (cC st) s.heap.objs.size f cdv))->sp vs H Q E->
   ∃t,fQ (cM fB P w K mg base N qual (cC st) f cdv A outer s H E).nox (eC st) t/\t {nx:=λ_ H'=>Q .non H',rt:=Q} (start N vs) H):eA P w K mg base fB (k+1) f fd ps sp:=by
 obtain⟨oc,od,kV,doc,pm,an,cdv,ct,osl,rfl,lk,hcd⟩:=F.ex;refine Sa lk hcd S len λA outer s H vs Q E hr hsp=>?_;obtain⟨t,h,q⟩:=hbody cdv A outer s H vs Q E hr hsp;exact⟨t,h.nox,q⟩
theorem iG.binds{x qual:Str}{st:Stmt}{f:Addr}{fd:bj}{ps:List Str}(F:iG K x qual st f fd)
  (h:∀(kV doc pm:Value)(an:AF)(cdv ct:Value)(us:AD),us.length=ps.length->bindArgs (dn x qual (fW st) (eC st) (cC st) .none kV doc pm an cdv ct) ⟨us,[]⟩=pure (ps.zip us)):iM K fd ps []:=by
 obtain⟨oc,od,kV,doc,pm,an,cdv,ct,osl,rfl,lk,hcd⟩:=F.ex;exact .all (h kV doc pm an cdv ct)
theorem Ek{x qual:Str}{st:Stmt}{f:Addr}{oc:Value}{od an:AF}{osl:Array AE}{kV doc pm cdv ct:Value}(l:K.lookup f=some ⟨oc,od,.func (dn x qual (fW st) (eC st) (cC st) .none kV doc pm an cdv ct),osl⟩)
  (c:jt K cdv qual=true)(k:fg K (.ref f)=true):iG K x qual st f (dn x qual (fW st) (eC st) (cC st) .none kV doc pm an cdv ct):=⟨⟨oc,od,kV,doc,pm,an,cdv,ct,osl,rfl,l,c⟩,k⟩
end
section
variable{X:Cx}
theorem pv(i:Nat){x:Str}{pos:ai}(hN:X.N[i]?=some x:=by rfl)(hv:mV X.env.scope x:=by first |exact gr rfl |exact gv (gr rfl) |exact gv (gv rfl))(hd:(x==("__debug__":Str))=false:=by decide)
  (hcd:(x==("__classdict__":Str))=false:=by decide):PE X (.Name x pos) (Wn i):=nH hN hv hd hcd
end
def dH(H H':Hp):Prop:=∀b o,H b=some o->H' b=some o
theorem dH.refl(H:Hp):dH H H:=λ_ _ h=>h
end L2
namespace Bn
def Bd(k:Nat)(i:Int):Prop:=i.natAbs<2^k
theorem Bd.mono{j k:Nat}{i:Int}(h:Bd j i)(l:j<=k):Bd k i:=df h (yz (by decide) l)
theorem Bd.mul{j k:Nat}{a b:Int}(h:Bd j a)(g:Bd k b):Bd (j+k) (a*b):=by
 unfold Bd at *;rw[rm,Nat.pow_add];exact Nat.mul_lt_mul'' h g
theorem Bd.add{k:Nat}{a b:Int}(h:Bd k a)(g:Bd k b):Bd (k+1) (a+b):=by
 unfold Bd at *;rw[Nat.pow_succ];have:=Int.natAbs_add_le a b;omega
theorem Bd.neg{k:Nat}{a:Int}(h:Bd k a):Bd k (-a):=by
 unfold Bd at *;rw[za];exact h
theorem Bd.sub{k:Nat}{a b:Int}(h:Bd k a)(g:Bd k b):Bd (k+1) (a-b):=by
 rw[Int.sub_eq_add_neg];exact h.add g.neg
theorem Bd.le{k:Nat}{a b:Int}(h:Bd k b)(l:a.natAbs<=b.natAbs):Bd k a:=rn l h
theorem Bd.of{k n:Nat}{a:Int}(l:a.natAbs<=n)(h:n<2^k):Bd k a:=rn l h
theorem Bd.log{k:Nat}{a:Int}(h:Bd k a)(hk:0<k):a.natAbs.log2<k:=by
 rcases zb a.natAbs with z |z
 .rw[z]
  exact rn (vt (by decide)) hk
 .exact(Nat.log2_lt (nv z)).mpr h
theorem Ke(a:Int){b:Int}(h:b≠0):(a.fmod b).natAbs<b.natAbs:=by
 rw[Int.fmod_eq_emod];have h1:=zc a h;have h2:a%b<(b.natAbs:Int):=Int.emod_lt a h
 by_cases c:0<=b\/b∣a
 .rw[if_pos c]
  omega
 .rw[if_neg c]
  have hb:b<0:=by omega
  have h3:a%b≠0:=λz=>c (.inr (Int.dvd_of_emod_eq_zero z));have h4:b.natAbs=(-b).toNat:=by omega
  omega
theorem Lg(a b:Int):ce b (a.fmod b)=ce a b:=by
 rw[Int.fmod_def,cw,Int.gcd_sub_mul_right_right,Int.gcd_comm]
theorem zR(x:Int):(if x<0 then-x else x)=(x.natAbs:Int):=by
 split<;>omega
def gl:AA->Int->Int
 |[],g=>g
 |n::r,g=>gl r (ce g n:Nat)
def low(ns:AA):AA:=if gl ns 0=0 then ns else ns.map (· /gl ns 0)
theorem uR:∀(ns:AA)(g:Int),0<=g->0<=gl ns g
 |[],_,h=>h
 |_::r,_,_=>uR r _ (zd _)
theorem Sk(k:Int):∀(ns:AA)(g:Int),0<=g->gl (ns.map (k*·)) ((k.natAbs:Int)*g)=(k.natAbs:Int)*gl ns g
 |[],_,_=>rfl
 |n::r,g,h=>by
  show gl (r.map (k*·)) ((ce ((k.natAbs:Int)*g) (k*n):Nat):Int)=(k.natAbs:Int)*gl r _;have e:((ce ((k.natAbs:Int)*g) (k*n):Nat):Int)=(k.natAbs:Int)*((ce g n:Nat):Int):=by
   rcases Int.natAbs_eq k with q |q
   .rw[<-q,ze]
    have:(k.natAbs:Int)=k:=q.symm
    push_cast
    rw[this]
   .have e2:k*n=(k.natAbs:Int)*(-n):=by rw[rp,<-ki,<-q]
    rw[e2,ze,Int.gcd_neg]
    push_cast
    simp
  rw[e];exact Sk k r _ (zd _)
theorem yG(k:Int)(ns:AA):gl (ns.map (k*·)) 0=(k.natAbs:Int)*gl ns 0:=by
 have:=Sk k ns 0 (ql 0)
 rwa[se]at this
theorem sV{k:Int}(h:0<k)(ns:AA):gl ns 0≠0->low (ns.map (k*·))=low ns:=λz=>by
 have hk:(k.natAbs:Int)=k:=by omega
 have e:=yG k ns;rw[hk]at e;have nz:k*gl ns 0≠0:=kj (by omega) z;unfold low;rw[e,if_neg nz,if_neg z,cu];refine il λn _=>?_;show k*n/(k*gl ns 0)=n/gl ns 0;exact Int.mul_ediv_mul_of_pos _ _ h
theorem jM:∀(ns:AA)(g:Int),gl ns g∣g/\∀n∈ns,gl ns g∣n
 |[],g=>⟨Int.dvd_refl g,λ_ h=>nomatch h⟩
 |m::r,g=>by
  obtain⟨h1,h2⟩:=jM r ((ce g m:Nat):Int);refine⟨Int.dvd_trans h1 (zf ..),λn hn=>?_⟩;rcases ci.mp hn with q |q
  .subst q
   exact Int.dvd_trans h1 (zg ..)
  .exact h2 n q
theorem A9{ns:AA}(h:gl ns 0=0):∀n∈ns,n=0:=λn hn=>by
 have:=(jM ns 0).2 n hn;rw[h]at this;exact Int.zero_dvd.mp this
theorem mI{ns:AA}{n:Int}(hn:n∈ns)(h:n≠0):gl ns 0≠0:=λz=>h (A9 z n hn)
theorem rL{ns:AA}{n:Int}(hn:n∈ns)(h:n≠0):0<gl ns 0:=by
 have h1:=uR ns 0 (ql 0);have h2:=mI hn h;omega
theorem rJ{ns:AA}{n:Int}(hn:n∈ns)(h:n≠0):low ns=ns.map (· /gl ns 0):=by
 unfold low;rw[if_neg (mI hn h)]
theorem Bd.gcd{k:Nat}{a b:Int}(h:Bd k a)(g:Bd k b):Bd k (ce a b:Nat):=by
 unfold Bd at *;rw[Int.natAbs_natCast];rcases zb a.natAbs with z |z
 .have:a=0:=by omega
  subst this;rw[vw];exact g
 .exact rn (Nat.gcd_le_left _ z) h
theorem uV{k:Nat}:∀{ns:AA}{g:Int},Bd k g->(∀n∈ns,Bd k n)->Bd k (gl ns g)
 |[],_,h,_=>h
 |n::r,g,h,hn=>by
  show Bd k (gl r _);exact uV (ns:=r) (h.gcd (hn n cf)) λm hm=>hn m (bh _ hm)
theorem uN{k:Nat}{ns:AA}(h:∀n∈ns,Bd k n):∀n∈low ns,Bd k n:=λn hn=>by
 unfold low at hn
 by_cases c:gl ns 0=0
 .rw[if_pos c]at hn
  exact h n hn
 .rw[if_neg c]at hn
  obtain⟨m,hm,rfl⟩:=cj.mp hn;refine(h m hm).le ?_;have d:=(jM ns 0).2 m hm;obtain⟨q,e⟩:=d;rw[e,mf _ c,rm];exact Nat.le_mul_of_pos_left _ (by omega)
def fr(t b:Int):AA:=if b<0 then low [0-t,0-b] else low [t,b]
theorem kF(a b:Int):b∈[a,b]:=bh _ cf
theorem J6{t b:Int}(h:b≠0):fr (-t) (-b)=fr t b:=by
 unfold fr
 by_cases c:b<0
 .have c':¬(-b<0):=by omega
  rw[if_pos c,if_neg c',ig,ig]
 .have c':-b<0:=by omega
  rw[if_neg c,if_pos c',Int.sub_neg,Int.sub_neg,qm,qm]
theorem sM{k t b:Int}(hk:0<k)(h:b≠0):fr (k*t) (k*b)=fr t b:=by
 unfold fr;have e1:([k*t,k*b]:AA)=[t,b].map (k*·):=rfl;have e2:([0-k*t,0-k*b]:AA)=[0-t,0-b].map (k*·):=by
  show _=[k*(0-t),k*(0-b)];rw[vz,vz,se]
 by_cases c:b<0
 .rw[if_pos c,if_pos (zh hk c),e2]
  exact sV hk _ (mI (kF _ _) (by omega))
 .have c':¬(k*b<0):=by
   have:0<k*b:=ao hk (by omega);omega
  rw[if_neg c,if_neg c',e1];exact sV hk _ (mI (kF _ _) h)
theorem Sh{k t b:Int}(hk:k≠0)(h:b≠0):fr (k*t) (k*b)=fr t b:=by
 by_cases c:0<k
 .exact sM c h
 .have c':0< -k:=by omega
  have hb:k*b≠0:=kj hk h;rw[<-J6 hb,<-ki,<-ki];exact sM c' h
theorem Wh{t b t' b':Int}(h:b≠0)(h':b'≠0)(e:t*b'=t'*b):fr t b=fr t' b':=by
 rw[<-Sh h' h,<-Sh (k:=b) h h',cw b' t,e,cw t' b,cw b' b]
theorem Ma{t b:Int}(h:b≠0):∃p q:Int,fr t b=[p,q]/\0<q/\p*b=t*q:=by
 have go:∀{t b:Int},0<b->∃p q:Int,low [t,b]=[p,q]/\0<q/\p*b=t*q:=λ{t b} hb=>by
  have nz:b≠0:=by omega
  have gp:=rL (kF t b) nz;refine⟨t/gl [t,b] 0,b/gl [t,b] 0,rJ (kF t b) nz,?_,?_⟩
  .obtain⟨m,e⟩:=(jM [t,b] 0).2 b (kF t b)
   have:b/gl [t,b] 0=m:=by
    conv=>lhs;lhs;rw[e]
    exact mf _ (by omega)
   rw[this];have hm:0<m*gl [t,b] 0:=by rw[cw,<-e];exact hb
   exact wd hm gp
  .obtain⟨m,e⟩:=(jM [t,b] 0).2 b (kF t b)
   obtain⟨n,f⟩:=(jM [t,b] 0).2 t cf;have e1:b/gl [t,b] 0=m:=by
    conv=>lhs;lhs;rw[e]
    exact mf _ (by omega)
   have e2:t/gl [t,b] 0=n:=by
    conv=>lhs;lhs;rw[f]
    exact mf _ (by omega)
   rw[e1,e2]
   conv=>lhs;rhs;rw[e]
   conv=>rhs;lhs;rw[f]
   rw[Int.mul_left_comm,Int.mul_assoc]
 unfold fr
 by_cases c:b<0
 .rw[if_pos c]
  obtain⟨p,q,e1,e2,e3⟩:=go (t:=0-t) (b:=0-b) (by omega);refine⟨p,q,e1,e2,?_⟩;rw[ig,ig,rp,ki]at e3;omega
 .rw[if_neg c]
  exact go (by omega)
def sg(n:Int):Int:=if 0<n then 1 else if n<0 then-1 else 0
theorem Sg{b:Int}(h:b≠0):(0<b/\sg b=1)\/(b<0/\sg b=-1):=by
 unfold sg
 by_cases c:0<b
 .exact .inl ⟨c,if_pos c⟩
 .have d:b<0:=by omega
  exact .inr ⟨d,by rw[if_neg c,if_pos d]⟩
theorem Uw(b:Int):-(2^64)<sg b/\sg b<2^64:=by
 unfold sg;split
 .decide
 .split<;>decide
theorem uO(t b:Int):gl [t,b] 0=(ce t b:Nat):=by
 show((ce ((ce 0 t:Nat):Int) b:Nat):Int)=_;rw[vw];congr 1
theorem mX{g n:Int}(h:g≠0):(g*n).fdiv g=n:=by
 rw[oo ⟨n,rfl⟩,mf _ h]
theorem Ec{g n:Int}(h:g≠0):(g*n).fdiv (-1*g)=-n:=by
 have e:g*n=(-1*g)*(-n):=by
  rw[ki,ij,Int.neg_mul_neg]
 rw[e];exact mX (by omega)
theorem Xs{t b:Int}(h:b≠0):[t.fdiv (sg b*(ce t b:Nat)),b.fdiv (sg b*(ce t b:Nat))]=fr t b:=by
 have gp:=rL (kF t b) h;rw[uO]at gp;have gn:((ce t b:Nat):Int)≠0:=by omega
 obtain⟨n,en⟩:=zf (a:=t) (b:=b);obtain⟨m,em⟩:=zg (a:=t) (b:=b);have ht:t=((ce t b:Nat):Int)*n:=en;have hb:b=((ce t b:Nat):Int)*m:=em;generalize hg:((ce t b:Nat):Int)=g at *;rcases Sg h with⟨c,s⟩|⟨c,s⟩
 .rw[s,ij]
  have e1:fr t b=[t/g,b/g]:=by
   unfold fr;rw[if_neg (by omega),rJ (kF t b) h,uO,hg];rfl
  have e2:t.fdiv g=t/g:=oo ⟨n,ht⟩;have e3:b.fdiv g=b/g:=oo ⟨m,hb⟩;rw[e1,e2,e3]
 .rw[s]
  have e1:fr t b=[(0-t)/g,(0-b)/g]:=by
   unfold fr;rw[if_pos c,rJ (kF (0-t) (0-b)) (by omega),uO,ig,ig,Int.neg_gcd,Int.gcd_neg,hg];rfl
  have e2:t.fdiv (-1*g)=-n:=by
   conv=>lhs;lhs;rw[ht]
   exact Ec gn
  have e3:b.fdiv (-1*g)=-m:=by
   conv=>lhs;lhs;rw[hb]
   exact Ec gn
  have e4:(0-t)/g=-n:=by
   rw[ht,ig,<-rp,mf _ gn]
  have e5:(0-b)/g=-m:=by
   rw[hb,ig,<-rp,mf _ gn]
  rw[e1,e2,e3,e4,e5]
theorem Fj(n:Int):∀(l:AA)(g:Int),gl (l++[n]) g=(ce (gl l g) n:Nat)
 |[],g=>rfl
 |m::r,g=>Fj n r _
theorem R7{k:Nat}{t b p q:Int}(ht:Bd k t)(hb:Bd k b)(e:fr t b=[p,q]):Bd k p/\Bd k q:=by
 have go:∀{x y:Int},Bd k x->Bd k y->low [x,y]=[p,q]->Bd k p/\Bd k q:=λ{x y} hx hy e=>by
  have h:=uN (k:=k) (ns:=[x,y]) λn hn=>by
   rcases ci.mp hn with z |z
   .rw[z];exact hx
   .have z':n=y:=by simpa using z
    rw[z'];exact hy
  rw[e]at h;exact⟨h p cf,h q (kF _ _)⟩
 unfold fr at e;split at e
 .exact go (by rw[ig];exact ht.neg) (by rw[ig];exact hb.neg) e
 .exact go ht hb e
theorem xW{k m:Int}(hk:0<k)(hm:0<m){A B:AA}(hA:gl A 0≠0)(e:A.map (k*·)=B.map (m*·)):low A=low B:=by
 have hB:gl B 0≠0:=λz=>by
  have h:=yG k A;rw[e,yG m B,z,se]at h;have:(k.natAbs:Int)*gl A 0≠0:=kj (by omega) hA;exact this h.symm
 rw[<-sV hk A hA,e,sV hm B hB]
theorem Mk(b:Int):∀(ns:AA)(g:Int),gl ns (ce g b:Nat)=(ce (gl ns g) b:Nat)
 |[],_=>rfl
 |n::r,g=>by
  show gl r ((ce ((ce g b:Nat):Int) n:Nat):Int)=((ce (gl r _) b:Nat):Int);rw[<-Mk b r,Int.gcd_assoc,Int.gcd_comm b n,<-Int.gcd_assoc]
theorem yW{ns:AA}{b:Int}(hb:0<b):gl (ns++[b]) 0=gl ns b:=by
 rw[Fj,<-Mk,vw];congr 1;omega
theorem jH(ns:AA)(b:Int):b∈ns++[b]:=fu _ cf
theorem L3{ns:AA}{b:Int}(hb:0<b):low (ns++[b])=(ns.map λn=>n.fdiv (gl ns b))++[b.fdiv (gl ns b)]/\0<gl ns b:=by
 have gp:=rL (jH ns b) (by omega);rw[yW hb]at gp;refine⟨?_,gp⟩;rw[rJ (jH ns b) (by omega),yW hb,gi];have e:∀n:Int,n/gl ns b=n.fdiv (gl ns b):=λn=>(zi n (gw gp)).symm;simp only[e,az,cq]
theorem uD(ns:AA){b:Int}(hb:0<b):∃(zs:AA)(z g:Int),low (ns++[b])=zs++[z]/\0<g/\0<z/\ns=zs.map (g*·)/\b=g*z/\zs.length=ns.length:=by
 obtain⟨e,gp⟩:=L3 (ns:=ns) hb;have dv:=jM (ns++[b]) 0;rw[yW hb]at dv;have ex:∀n∈ns++[b],gl ns b*n.fdiv (gl ns b)=n:=λn hn=>by
  obtain⟨q,e⟩:=dv.2 n hn
  conv=>lhs;rhs;rw[e]
  rw[mX (by omega)];exact e.symm
 refine⟨_,_,gl ns b,e,gp,?_,?_,(ex b (jH ns b)).symm,ak _⟩
 .have h:=ex b (jH ns b)
  have:0<b.fdiv (gl ns b)*gl ns b:=by rw[cw,h];exact hb
  exact wd this gp
 .rw[cu]
  conv=>lhs;rw[<-sf ns]
  refine il λn hn=>?_;exact(ex n (kd _ hn)).symm
theorem zD(ns:AA){b:Int}(hb:0<b):low (low (ns++[b]))=low (ns++[b]):=by
 obtain⟨zs,z,g,e,hg,hz,e1,e2,_⟩:=uD ns hb;rw[e];refine xW (k:=g) (m:=1) hg (by decide) (mI (jH zs z) (by omega)) ?_ |>.trans e;rw[gi,<-e1];show ns++[g*z]=(ns++[b]).map (1*·);rw[<-e2]
 conv=>lhs;rw[<-sf (ns++[b])]
 refine il λn _=>?_;exact(ij n).symm
def sm(xs:AA)(w:Int)(ys:AA)(v:Int):AA:=bo (λx y=>x*v+y*w) xs ys
theorem Km{xs ys:AA}{f g:Int->Int->Int}(h:∀x y,f x y=g x y):bo f xs ys=bo g xs ys:=by
 have:f=g:=funext λx=>funext λy=>h x y;rw[this]
theorem Cr(xs:AA)(w:Int)(ys:AA)(v:Int):bo (λx y=>1*x*v+y*w) xs ys=sm xs w ys v:=Km λx y=>by rw[ij]
theorem Aq(xs:AA)(w:Int)(ys:AA)(v:Int):bo (λy x=>-1*y*w+x*v) ys xs=sm xs w (ys.map (- ·)) v:=by
 unfold sm;rw[List.zipWith_map_right,List.zipWith_comm];refine Km λx y=>?_;rw[ki,ij];exact Int.add_comm _ _
theorem N4{xs ys:AA}{w v:Int}(h:xs.length=ys.length):(sm xs w ys v).length=xs.length:=by
 unfold sm;rw[iy];omega
end Bn
namespace L2
open PySem PySem.Spec PyProof.Rows Bn
section
variable{X:Cx}
theorem Ak{k:Nat}{i:Int}(h:Bd k i):zj i<=k:=by
 unfold zj;split
 .exact iz _
 .rename_i c
  have z:i.natAbs≠0:=by
   intro q;have:i=0:=by omega
   subst this;exact c rfl
  have:=(Nat.log2_lt z).mpr h;omega
def nU(_ j:Int):Prop:=j≠0/\Bd 8000 j
theorem Tv:eB X (binaryOp .FloorDiv) (rI nU λi j=>.int (i.fdiv j)):=
 wA λ_ _ _ _ _ _ _ hc q=>floordiv_int hc.1 q (.inl (PyProof.noPylong_of_log2 (Nat.lt_trans (hc.2.log (by decide)) (by decide))))
theorem PS.imp{st:Stmt}{t t':TS}(h:PS X st t)(i:∀D σ H,t' D σ H->t D σ H):PS X st t':=λAM s σ H D I q=>h AM s σ H D I (i D σ H q)
theorem fQ.imp{st:List Stmt}{t t':TS}(h:fQ X st t)(i:∀D σ H,t' D σ H->t D σ H):fQ X st t':=λAM s σ H D I q=>h AM s σ H D I (i D σ H q)
theorem PE.imp{e:ag}{t t':TE}(h:PE X e t)(i:∀σ H Q,t' σ H Q->t σ H Q):PE X e t':=λAM s σ H Q I q=>h AM s σ H Q I (i σ H Q q)
theorem PT.imp{e:ag}{t t':TT}(h:PT X e t)(i:∀σ H Q,t' σ H Q->t σ H Q):PT X e t':=λAM s σ H Q I q=>h AM s σ H Q I (i σ H Q q)
theorem aH.turnedNew{AM:List (Addr×Obj)}{σ:St}{H:Hp}{s:aa}{h':Heap}{t':Nat}{ch:List Addr}{a:Addr}{o:HO}(I:aH X AM σ H s)(hf:∀b∈ch,fU X AM H b)
  (k:∀b u,b∉ch->s.heap.get? b=some u->h'.get? b=some u)(hp:s.heap.objs.size<=a)(new:fK X.prog X.w (bA H a o) h' a o):
  aH X AM σ (bA H a o) {s with heap:=h',toks:=t'}:=by
 have hn:H a=none:=I.hok.fresh hp;have nch:∀b u,H b=some u->b∉ch:=λb u e z=>by
  rw[(hf b z).1]at e;cases e
 have nea:∀b u,H b=some u->b≠a:=λb u e=>fR e hn;refine I.step (g':=s.gens) (d':=s.drawn) (ch:=ch) (λb hb=>?_) (λb u _ _ hc e _=>k b u hc e) (λb u _ _ hc e _=>⟨u.slots,k b u hc e⟩) (λb u _ e n=>?_)
  (λb u hc e=>⟨u,k b u hc e⟩) (λb xs e=>?_) (λb u v e=>?_) (λb ps e=>⟨#[],?_⟩) (λm hm=>?_) (λb u e=>?_) I.bare
 .obtain⟨_,f1,_,f3,f4,f5⟩:=hf b hb
  exact⟨f3,f1,f4,f5⟩
 .rw[bV (dq (df (bi e) hp))]
  exact n
 .rw[bV (nea b _ e)]
  exact e
 .rw[bV (nea b _ e)]
  exact e
 .rw[bV (nea b _ e),e]
  simp
 .obtain⟨ob,es,ep,ho,r⟩:=hm
  exact⟨ob,es,ep,k _ ob (λz=>(hf _ z).2.1 rfl) ho,r⟩
 .by_cases hb:b=a
  .subst hb
   rw[fS]at e;cases e;exact new
  .rw[bV hb]at e
   refine(I.hok b u e).stay (λc v hc q=>k c v ?_ q) (λc q=>?_) λc xs q=>?_
   .rcases hc with z |z
    .rw[z]
     exact nch b u e
    .exact nch c _ z
   .rw[bV (nea c _ q)]
    exact q
   .rw[bV (nea c _ q)]
    exact q
theorem aH.turnedL{AM:List (Addr×Obj)}{σ:St}{H:Hp}{s:aa}{h':Heap}{t':Nat}{ch:List Addr}(I:aH X AM σ H s)(hf:∀b∈ch,fU X AM H b)
  (k:∀b u,b∉ch->s.heap.get? b=some u->h'.get? b=some u):aH X AM σ H {s with heap:=h',toks:=t'}:=by
 have nch:∀b u,H b=some u->b∉ch:=λb u e z=>by
  rw[(hf b z).1]at e;cases e
 refine I.step (g':=s.gens) (d':=s.drawn) (ch:=ch) (λb hb=>?_) (λb u _ _ hc e _=>k b u hc e) (λb u _ _ hc e _=>⟨u.slots,k b u hc e⟩) (λb u _ e n=>n)
  (λb u hc e=>⟨u,k b u hc e⟩) (λb xs e=>e) (λb u v e=>e) (λb ps e=>⟨#[],?_⟩) (λm hm=>?_) (λb u e=>?_) I.bare
 .obtain⟨_,f1,_,f3,f4,f5⟩:=hf b hb
  exact⟨f3,f1,f4,f5⟩
 .rw[e]
  simp
 .obtain⟨ob,es,ep,ho,r⟩:=hm
  exact⟨ob,es,ep,k _ ob (λz=>(hf _ z).2.1 rfl) ho,r⟩
 .refine(I.hok b u e).stay (λc v hc q=>k c v ?_ q) (λc q=>q) λc xs q=>q
  rcases hc with z |z
  .rw[z]
   exact nch b u e
  .exact nch c _ z
end
def Tb (K : ae) (a : Addr) : It :=
  ⟨λi H => ∃ xs x, bT K H a xs ∧ xs[i]? = some x,
   λi H x H' => ∃ p y, H p = none ∧ x = .ref p ∧ H' = bA H p (.tup [.int i, y]) ∧ ∀ xs, bT K H a xs → xs[i]? = some y,
   λi H => ∃ xs, bT K H a xs ∧ xs.length ≤ i⟩
theorem Ot{P:Program}{w:aj}{K:ae}{elts:List ag}{x1:Nat}{tp:ai}(a e it:Addr)(hne:e≠it):
  qD P w K (.Tuple elts x1 tp) (Tb K a) [e,it] e (λi h=>(∃old,IsEnum h e it (i:Int) old)/\h.IsListIter it a i) where
 mem:=by simp
 obj:=λi h st b hb=>by
  obtain⟨⟨old,q⟩,o,e1,c,d⟩:=st;rcases ci.mp hb with z |z
  .subst z
   exact⟨_,q,λv z=>nomatch z⟩
  .have z':b=it:=by simpa using z
   subst z';exact⟨o,e1,λv z=>by rw[d]at z;cases z⟩
 keep:=λi h h' st k=>⟨let⟨old,q⟩:=st.1;⟨old,k e (by simp) _ q⟩,st.2.at λo q=>k it (by simp) o q⟩
 item:=by
  intro X hP hw hK hc i AM s σ H E I hf st hg;subst hP hw hK;obtain⟨xs,x,hq,hx⟩:=hg;obtain⟨its,rv,pl,hz⟩:=I.list hq;obtain⟨u,hu,ru⟩:=rv.get hx;obtain⟨⟨old,he⟩,hit⟩:=st;refine wpAny_pyNext_enum_item he hit pl.isList (x:=u) (by simpa using hu) hne λh1 ho1 hit1 ht1 hs1 hk1=>⟨_,rfl,?_⟩;have lt1:e<s.heap.objs.size:=bi he;refine wpAny_letOwnedTupleGo_enum (s:={s with heap:=h1,toks:=s.toks+1}) ho1 λh2 he2 sb2=>?_;have ht2:h2.get? s.heap.objs.size=some {cls:=.type "tuple",data:=.seq #[.int i s.toks,u]}:=(sb2.2 _ (nv lt1)).trans ht1;have I2:aH X AM σ (bA H s.heap.objs.size (.tup [.int i,x])) {s with heap:=h2,toks:=s.toks+1}:=
   I.turnedNew hf (λb o hb q=>(sb2.2 b (λz=>hb (by simp[z]))).trans (hk1 b o (λz=>hb (by simp[z])) (λz=>hb (by simp[z])) q)) (ar _)
    ⟨⟨by show 2<=sizeLine;decide,_,ht2,rfl⟩,[.int i s.toks,u],.cons ⟨_,rfl⟩ (.cons ru .nil),⟨_,ht2,rfl,_,rfl⟩⟩
  refine⟨.ref s.heap.objs.size,_,I2,rfl,⟨_,x,I.hok.fresh (ar _),rfl,rfl,λys hy=>by rw[I.list_inj hy hq];exact hx⟩,⟨⟨_,by simpa using he2⟩,hit1.at λo q=>(sb2.2 it hne.symm).trans q⟩,λb hb=>?_⟩;have hb':=(hf b hb).1;have lt:b≠s.heap.objs.size:=by
   rcases ci.mp hb with z |z
   .subst z
    exact dq lt1
   .have z':b=it:=by simpa using z
    subst z';obtain⟨o,q,_⟩:=hit;exact dq (bi q)
  rw[bV lt];exact hb'
 done:=by
  intro X hP hw hK hc i AM s σ H E I hf st hg;subst hP hw hK;obtain⟨xs,hq,hx⟩:=hg;obtain⟨its,rv,pl,hz⟩:=I.list hq;obtain⟨⟨old,he⟩,hit⟩:=st;have hl:=rv.length;exact wpAny_pyNext_enum_end (I.ok.hd hc) he hit pl.isList (by simp;omega) λh' eb=>⟨rfl,I.turnedL (t':=s.toks) hf λb o hb q=>eb b o (λz=>hb (by simp[z])) q⟩
 self:=λ_ _ _ _ _ st h=>let⟨_,q⟩:=st.1;wpAny_pyIter_enum q h
section
variable{X:Cx}{elts:List ag}{x1:Nat}{tp:ai}
def R6(K:ae)(tl:TA):TI:=λσ H R=>tl σ H λvs H1=>∃a,vs=[.ref a]/\(∃xs,bT K H1 a xs)/\R (Tb K a) H1
theorem Gx{l:ag}{tl:TA}{p pos:ai}(hg:Gl X "enumerate")(hm:X.mg "enumerate"=none)(hl:PA X [l] tl)(hs:starEach [l] X.env=[(false,eval l X.env)]:=by rfl):
  PI X (.Tuple elts x1 tp) (.Call (.Name "enumerate" p) [l] [] pos) (R6 X.K tl):=by
 intro AM s σ H R I h;refine Call_ (nJ I hg hm boot_enumerate (qd (bG (hl pos AM s σ H _ I h) λus s1 hq=>?_) hs rfl));rcases hq with⟨vs,H1,I1,r1,q1⟩;obtain⟨a,rfl,⟨xs,hq⟩,q⟩:=q1;obtain⟨u,rfl,ru⟩:=kD r1;cases ru;obtain⟨its,rv,pl,hz⟩:=I1.list hq;refine call_enumerate_list pl.isList λh' he hit hsz k=>?_;have I2:aH X AM σ H1 {s1 with heap:=h'}:=I1.kept (t':=s1.toks) k;refine wpAny_pyIter_enum (s:={s1 with heap:=h'}) he ?_;refine⟨s1.heap.objs.size+1,[s1.heap.objs.size+1,s1.heap.objs.size],_,_,H1,rfl,I2,Ot a _ _ (Nat.succ_ne_self _),⟨⟨_,he⟩,hit⟩,λb hb=>?_,q⟩;have hb':s1.heap.objs.size<=b:=by
  rcases ci.mp hb with z |z
  .rw[z]
   exact qk _
  .have z':b=s1.heap.objs.size:=by simpa using z
   rw[z'];exact ar _
 exact I1.fpOk hb' (I1.hok.fresh hb')
end
def fY(env:ay):List (Str×gh)->List (Str×Addr)->List (Str×Addr)
 |[],acc=>acc
 |p::r,acc=>if(p.2== .free)=true then fY env r ((p.1,(env.cells.lookup p.1).getD 0)::acc)else fY env r acc
theorem Yi{sc:Scope}{env:ay}(h:∀p∈sc.names,p.2=.free->∃c,env.cells.lookup p.1=some c):closureFor sc env=pure (fY env sc.names []):=by
 unfold closureFor;have go:∀(l:List (Str×gh))(acc:List (Str×Addr)),(∀p∈l,p.2=.free->∃c,env.cells.lookup p.1=some c)->
   (forIn l acc (λx r=>if(x.2==gj)=true then do let a <-cellOf env x.1;pure (zk ((x.1,a)::r))else pure (zk r)):Sem _)=pure (fY env l acc):=by
  intro l
  induction l with
  |nil=>intro acc _;rfl
  |cons p r ih=>
   intro acc hp;rw[we];have hr:=λacc'=>ih acc' λq hq=>hp q (bh _ hq)
   by_cases c:(p.2==gj)=true
   .obtain⟨a,ea⟩:=hp p cf (by simpa using c)
    have e1:cellOf env p.1=pure a:=by unfold cellOf;rw[ea]
    rw[if_pos c,e1];simp only[pure_bind];rw[hr];show _=pure (if(p.2== .free)=true then _ else _);rw[if_pos c,ea];rfl
   .rw[if_neg c]
    simp only[pure_bind];rw[hr];show _=pure (if(p.2== .free)=true then _ else _);rw[if_neg c]
 have e:=go sc.names [] h;show(forIn sc.names [] _ >>= λr=>pure r)=_;rw[bind_pure];exact e
theorem sR{env:ay}:∀(l:List (Str×gh))(acc:List (Str×Addr)),(∀p∈l,p.2=.free->∃c,env.cells.lookup p.1=some c)->
  ∀y c,(fY env l acc).lookup y=some c->acc.lookup y=some c\/env.cells.lookup y=some c
 |[],acc,_,y,c,e=>.inl e
 |p::r,acc,h,y,c,e=>by
  have hr:∀q∈r,q.2=.free->∃c,env.cells.lookup q.1=some c:=λq hq=>h q (bh _ hq);unfold fY at e
  by_cases k:(p.2==gj)=true
  .rw[if_pos k]at e
   obtain⟨a,ea⟩:=h p cf (by simpa using k);rcases sR r _ hr y c e with z |z
   .rw[dj]at z
    cases w:y==p.1 with
    |true=>
     rw[w,ea]at z;have hy:y=p.1:=by simpa using w
     rw[hy,ea];exact .inr z
    |false=>
     rw[w]at z;exact .inl z
   .exact .inr z
  .rw[if_neg k]at e
   exact sR r acc hr y c e
theorem oS{env:ay}:∀(l:List (Str×gh))(acc:List (Str×Addr))(y:Str),((∃c,acc.lookup y=some c)\/(y,gj)∈l)->∃c,(fY env l acc).lookup y=some c
 |[],acc,y,h=>by
  rcases h with h |h
  .exact h
  .cases h
 |p::r,acc,y,h=>by
  unfold fY
  by_cases k:(p.2==gj)=true
  .rw[if_pos k]
   refine oS r _ y ?_;cases w:y==p.1 with
   |true=>exact .inl ⟨_,by rw[dj,w]⟩
   |false=>
    rcases h with⟨c,h⟩|h
    .exact .inl ⟨c,by rw[dj,w];exact h⟩
    .rcases ci.mp h with z |z
     .rw[<-z]at w
      simp at w
     .exact .inr z
  .rw[if_neg k]
   refine oS r _ y ?_;rcases h with h |h
   .exact .inl h
   .rcases ci.mp h with z |z
    .rw[<-z]at k
     simp at k
    .exact .inr z
theorem Lc{env:ay}:∀{names:List (Str×gh)}{x:Str},(∀y∈names,y.2≠.cell)->
  (let l:=(names.map λ(n,k)=>if(k==gj&&env.scope.kind== .function&&env.kindOf n==some .cell)then(n,fj)else(n,k)).lookup x;l=some .cell\/l=some .free)->(x,gj)∈names
 |[],x,_,h=>by
  rcases h with h |h<;>cases h
 |(n,k)::r,x,hc,h=>by
  dsimp only at h;rw[az]at h;have ih:=@Lc env r x λy hy=>hc y (bh _ hy);have nk:k≠.cell:=hc (n,k) cf
  by_cases c:(k==gj&&env.scope.kind== .function&&env.kindOf n==some .cell)=true
  .have kf:k=.free:=by
    simp only[iu,beq_iff_eq]at c;exact c.1.1
   dsimp only at h;rw[if_pos c,dj]at h;cases w:x==n with
   |true=>
    have hx:x=n:=by simpa using w
    rw[hx,<-kf];exact cf
   |false=>
    rw[w]at h;exact bh _ (ih h)
  .dsimp only at h
   rw[if_neg c,dj]at h;cases w:x==n with
   |true=>
    rw[w]at h;have hx:x=n:=by simpa using w
    have kf:k=.free:=by
     rcases h with h |h
     .exact absurd (cg h) nk
     .exact cg h
    rw[hx,<-kf];exact cf
   |false=>
    rw[w]at h;exact bh _ (ih h)
def gD(X:Cx)(sc:Scope)(N:List Str)(C:Addr)(AN:aa)(AO:Hp)(ex:List Addr):Cx where
 prog:=X.prog
 w:=X.w
 K:=X.K
 mg:=X.mg
 base:=X.base
 A:=X.A
 N:=N
 AN:=AN
 AO:=AO
 env:=compEnvC sc (fY X.env sc.names []) C X.env
 outer:=X.stack
 stack:=X.stack
 ex:=ex
 fn:=λ_=>false
 calm:=X.calm
 pn:=[]
 xe:=λ_ _=>False
def jO(own:List Str)(cap:List (Nat×Str))(σ:St):St:=own.map (λ_=>none)++cap.map λp=>(σ[p.1]?).join
def cS(own:List Str)(cap:List (Nat×Str)):List Str:=own++cap.map (·.2)
def vM(J:It)(g:TG)(te:TE)(AR:St)(H1:Hp)(D:Addr)(Q:VK):Prop:=
 ∃W:Nat->Nat->St->Hp->List V->Prop,(∃m,W 0 m AR (bA H1 D (.lst [])) [])/\∀i m σ H ys,W i m σ H ys->H D=some (.lst ys)/\
  ((J.stop i H/\Q (.ref D) H)\/(J.go i H/\ys.length<sizeLine/\∀x H2,J.yld i H x H2->g x σ H2 λσ3 H3=>te σ3 H3 λy H4=>H4 D=some (.lst ys)/\∃m',m'<m/\W (i+1) m' σ3 (bA H4 D (.lst (ys++[y]))) (ys++[y])))
def rO(own:List Str)(cap:List (Nat×Str))(wi:TI)(g:TG)(te:TE):TE:=λσ H Q=>wi σ H λJ H1=>∀D,H1 D=none->vM J g te (jO own cap σ) H1 D Q
def Nx(n:Nat)(Pv:Nat->St->Hp->List V->Prop)(D:Addr)(i:Nat)(ys:List V)(σ:St)(y:V)(H:Hp):Prop:=
 H D=some (.lst ys)/\∃m,m<n-i/\(m=n-(i+1)/\i+1<=n/\Pv (i+1) σ (bA H D (.lst (ys++[y]))) (ys++[y]))
theorem R5{n:Nat}{Pv:Nat->St->Hp->List V->Prop}{D:Addr}{i:Nat}{ys:List V}{σ:St}{y:V}{H:Hp}(h:i<n)(hD:H D=some (.lst ys))(p:Pv (i+1) σ (bA H D (.lst (ys++[y]))) (ys++[y])):Nx n Pv D i ys σ y H:=
 ⟨hD,n-(i+1),by omega,rfl,h,p⟩
theorem Nz{J:It}{g:TG}{te:TE}{AR:St}{H1:Hp}{D:Addr}{Q:VK}(n:Nat)(hn:n<=sizeLine)(Pv:Nat->St->Hp->List V->Prop)(h0:Pv 0 AR (bA H1 D (.lst [])) [])
  (hl:∀i σ H ys,Pv i σ H ys->ys.length=i/\H D=some (.lst ys))(hgo:∀i σ H ys,i<n->Pv i σ H ys->J.go i H)
  (hs:∀i σ H ys x H2,i<n->Pv i σ H ys->J.yld i H x H2->g x σ H2 λσ3 H3=>te σ3 H3 λy H4=>Nx n Pv D i ys σ3 y H4)
  (hd:∀σ H ys,Pv n σ H ys->J.stop n H/\Q (.ref D) H):vM J g te AR H1 D Q:=by
 refine⟨λi m σ H ys=>m=n-i/\i<=n/\Pv i σ H ys,⟨n,rfl,iz _,h0⟩,?_⟩
 rintro i m σ H ys ⟨rfl,hi,p⟩
 obtain⟨l1,l2⟩:=hl i σ H ys p;refine⟨l2,?_⟩
 by_cases hlt:i<n
 .exact .inr ⟨hgo i σ H ys hlt p,by omega,λx H2 y=>hs i σ H ys x H2 hlt p y⟩
 .have e:i=n:=by omega
  subst e;exact .inl (hd σ H ys p)
section
variable{prog:Program}{w:aj}{A:al}{R:qg->aa->Prop}{s:aa}
theorem Ie{elt target iter:ag}{sc:Scope}{pos:ai}{it acc:Value}{env:ay}(I:Nat->aa->Prop)
  (turn:∀n s,I n s->wpAny (model prog w) A (pyNext it) (λr s1=>match r with
   |none=>R (.ok .next) s1
   |some v=>wpAny (model prog w) A (letOwnedTupleGo target it v) (λ_ s2=>wpAny (model prog w) A (assign target env v) (λ_ s3=>wpAny (model prog w) A (eval elt env)
     (λx s4=>wpAny (model prog w) A (call (.builtin "list.append") [acc,x]) (λ_ s5=>∃m,m<n/\I m s5) (λ_ _=>False) s4) (λ_ _=>False) s3) (λ_ _=>False) s2) (λ_ _=>False) s1) (λ_ _=>False) s)
  (n:Nat)(h:I n s):codeAny (model prog w) A (.compLoop (.ListComp elt [⟨target,iter,[],0⟩] sc pos) 0 it acc env) R s:=by
 refine codeAny_loop rfl I (λn s hI=>?_) n h;show wpAny _ _ ((compTurn (.ListComp elt [⟨target,iter,[],0⟩] sc pos) 0 it acc env).onRaise (λx=>do noteFrame x env;theTreesLotGoes x)) _ _ s;refine wpAny_noted ?_;rw[compTurn_list1];refine ah (qw (ah ?_));refine jw (turn n s hI) (λr s1 h1=>?_) λ_ _ z=>z.elim;cases r with
 |none=>exact bf h1
 |some v=>
  refine ah (jw h1 (λ_ s2 h2=>?_) λ_ _ z=>z.elim);refine ah (jw h2 (λ_ s3 h3=>?_) λ_ _ z=>z.elim);refine ah (ah (jw h3 (λx s4 h4=>?_) λ_ _ z=>z.elim));refine ah (jw h4 (λ_ s5 h5=>?_) λ_ _ z=>z.elim);exact bf (bf ⟨rfl,h5⟩)
end
structure iB(X:Cx)(sc:Scope)(own:List Str)(cap:List (Nat×Str)):Prop where
 kind:sc.kind=.function
 names:∀y∈sc.names,y.2=.local->sc.names.lookup y.1=some .local
 nocell:∀y∈sc.names,y.2≠.cell
 free:∀y∈sc.names,y.2=.free->X.env.kindOf y.1=some .cell
 at':∀p∈cap,X.N[p.1]?=some p.2
 cap:∀p∈cap,sc.names.lookup p.2=some .free
section
variable{X:Cx}{sc:Scope}{own:List Str}{cap:List (Nat×Str)}{AM:List (Addr×Obj)}{σ:St}{H:Hp}{s:aa}
theorem iB.has(k:iB X sc own cap)(ok:X.Ok):∀p∈sc.names,p.2=.free->∃c,X.env.cells.lookup p.1=some c:=λp hp e=>ok.has p.1 (.inl (k.free p hp e))
theorem qL{env:ay}:∀{names:List (Str×gh)}{x:Str},env.scope.kind=.function->names.lookup x=some .free->env.kindOf x=some .cell->
  (names.map λ(n,k)=>if(k==gj&&env.scope.kind== .function&&env.kindOf n==some .cell)then(n,fj)else(n,k)).lookup x=some .cell
 |[],x,_,h,_=>by cases h
 |(n,k)::r,x,hk,h,hx=>by
  rw[az];dsimp only;rw[dj]at h;cases w:x==n with
  |true=>
   rw[w]at h;have e:x=n:=by simpa using w
   have kf:k=.free:=cg h;have c:(k==gj&&env.scope.kind== .function&&env.kindOf n==some .cell)=true:=by
    rw[kf,hk,<-e,hx];decide
   rw[if_pos c,dj,w]
  |false=>
   rw[w]at h;have ih:=@qL env r x hk h hx
   by_cases c:(k==gj&&env.scope.kind== .function&&env.kindOf n==some .cell)=true
   .rw[if_pos c,dj,w]
    exact ih
   .rw[if_neg c,dj,w]
    exact ih
theorem aH.cmp(k:iB X sc own cap){h4:Heap}{fp:List Addr}{m:Str->AE}{t':Nat}(I:aH X AM σ H s)(hf:∀b∈fp,fU X AM H b)(hlt:∀b∈fp,b<s.heap.objs.size)(hns:h4.Ns s.heap.objs.size m)
  (kp:∀b o,s.heap.get? b=some o->h4.get? b=some o):aH (gD X sc (cS own cap) s.heap.objs.size s H fp) [] (jO own cap σ) H {s with heap:=h4,toks:=t'}:=by
 have hcl:∀y c,(fY X.env sc.names []).lookup y=some c->X.env.cells.lookup y=some c:=λy c e=>by
  rcases sR sc.names [] (k.has I.ok) y c e with z |z
  .cases z
  .exact z
 have nst:∀b∈fp,b∉dM X.stack:=λb hb z=>by
  rcases ci.mp (I.stkSub b z)with e |e
  .exact(hf b hb).2.1 e
  .exact(hf b hb).2.2.1 e
 refine⟨⟨I.ok.mod,k.kind,I.ok.glob,I.ok.blt,ar _,λx y c h1 h2=>I.ok.inj x y c (hcl x c h1) (hcl y c h2),λx hx=>?_,λx c e=>(nomatch e),I.ok.hd,I.ok.frames,.inl rfl,λb hb=>⟨dq (hlt b hb),λx c e=>(hf b hb).2.2.2.2.1 x c (hcl x c e)⟩,
  I.bs,dw I.ok.bsz I.sz,λb o e hb=>?_,nst,I.stack,I.stkFree⟩,rfl,I.bare,Un.kept kp,⟨m,hns,λi x v h1 h2 h3=>?_⟩,λx c e=>?_,I.hok.fresh (ar _),λx c e=>I.freeC x c (hcl x c e),λp hp=>absurd (show p∈([]:List (Addr×Obj)) from hp) (by simp),I.hok.kept kp,?_⟩
 .exact oS sc.names [] x (.inr (Lc k.nocell hx))
 .rcases(hf b hb).2.2.2.1 with z |z
  .exact I.ok.noex b o e z
  .exact absurd (df (bi (I.ok.bs b o e).1) z) (jd _)
 .have hN:(cS own cap)[i]?=some x:=h1
  unfold cS at hN;unfold jO at h2
  by_cases hi:i<own.length
  .rw[du (by simpa using hi),di]at h2
   cases e:own[i]? with
   |none=>rw[e]at h2;cases h2
   |some z=>rw[e]at h2;cases h2
  .rw[dy (by simpa using hi),di,ak]at h2
   rw[dy (by omega),di]at hN;cases e:cap[i-own.length]? with
   |none=>rw[e]at h2;cases h2
   |some p=>
    rw[e]at h2 hN;have hp:p∈cap:=dz e;have hx:p.2=x:=cg hN;have hv:(σ[p.1]?).join=some v:=cg h2;have hv':σ[p.1]?=some (some v):=by
     cases e2:σ[p.1]? with
     |none=>rw[e2]at hv;cases hv
     |some z=>rw[e2]at hv;exact congrArg some hv
    have fr:=k.cap p hp;have kc:X.env.kindOf p.2=some .cell:=k.free (p.2,.free) (jr fr) rfl;obtain⟨m0,_,hl⟩:=I.loc;obtain⟨u,ru,lk⟩:=hl p.1 p.2 v (k.at' p hp) hv' (.inr (.inl kc));refine⟨u,ru,?_⟩;rcases lk with⟨k1,_⟩|⟨_,c,ec,cell⟩
    .rw[kc]at k1
     cases k1
    .rw[<-hx]
     obtain⟨c',ec'⟩:=oS (env:=X.env) sc.names [] p.2 (.inr (jr fr));have:=(hcl _ _ ec').symm.trans ec;cases this;obtain⟨o,ho,hd⟩:=cell;exact .inr ⟨.inl (qL I.ok.kind fr kc),c,ec',o,kp c o ho,hd⟩
 .obtain⟨v,o,ho,hd⟩:=I.cell x c (hcl x c e)
  exact⟨v,o,kp c o ho,hd⟩
 .unfold jO
  show _=(cS own cap).length;unfold cS;rw[bn,bn,ak,ak,ak]
theorem aH.uncmp{s3 s':aa}{H3 H':Hp}{N:List Str}{σ':St}{C:Addr}{fp:List Addr}{pl:List (Addr×Obj)}(I:aH X AM σ H s)(hf:∀b∈fp,fU X AM H b)(u:Un (dM X.stack) fp H H3 s.heap s3.heap)(os:s3.os=s.os)
  (J:aH (gD X sc N C s3 H3 fp) pl σ' H' s'):aH X AM σ H' s':=by
 have os':s'.os=s.os:=(show s'.os=s3.os from J.os).trans os;refine I.call' (ch:=fp) os' (u.trans J.base) J.hok J.bare λb hb=>?_;obtain⟨_,f1,_,f3,f4,f5⟩:=hf b hb;exact⟨f3,f1,f4,f5⟩
end
section
variable{X:Cx}{sc:Scope}{own:List Str}{cap:List (Nat×Str)}{AM:List (Addr×Obj)}{σ:St}{H:Hp}{s:aa}{elt target iter:ag}{pos pos':ai}{wi:TI}{g:TG}{te:TE}{Q:VK}
theorem Ef{use:Option (Value->Sem Unit)}{Qf:Value->aa->Prop}(k:iB X sc own cap)(hi:PI X target iter wi)(hc:X.calm=true)
  (hg:∀C AN AO ex,PG (gD X sc (cS own cap) C AN AO ex) target g)(he:∀C AN AO ex,PE (gD X sc (cS own cap) C AN AO ex) elt te)(I:aH X AM σ H s)(h:rO own cap wi g te σ H Q)
  (fin:∀D C s' H' m,aH X AM σ H' s'->fU X AM H' C->s'.heap.Ns C m->Q (.ref D) H'->compPost (model X.prog X.w) X.A X.xe use Qf (.ref D) C (.ok .next) s')
  (hs:∀x,foldedSetIterable iter X.env x=pure x):
  wpAny (model X.prog X.w) X.A (comprehension (.ListComp elt [⟨target,iter,[],0⟩] sc pos) sc X.env pos' (newList []) false (eval iter X.env) use) Qf X.xe s:=by
 refine zl (use:=use) rfl hs (Yi (k.has I.ok)) k.kind k.names ?_;refine bG (hi AM s σ H _ I h) λv s1 h1=>bG h1 λitv s2 h2=>?_;obtain⟨it,fp,tn,J,H2,e,I2,T,st2,f2,hW⟩:=h2;subst e;refine jx (wpAny_newFunctionEnv k.nocell (λy hy=>nomatch hy) (λh4 hns hsb=>?_) k.kind);have I3:aH X AM σ (bA H2 s2.heap.objs.size (.lst [])) {s2 with heap:=s2.heap.push {cls:=.type "list",data:=.seq ([]:AD).toArray},toks:=s2.toks}:=I2.lnew (ys:=[]) (its:=[]) .nil (iz _);have hD:H2 s2.heap.objs.size=none:=I2.fresh;have ltf:∀b∈fp,b<s2.heap.objs.size:=λb hb=>by
  obtain⟨o,ho,_⟩:=T.obj _ _ st2 b hb;exact bi ho
 have f3:∀b∈fp,fU X AM (bA H2 s2.heap.objs.size (.lst [])) b:=λb hb=>⟨by rw[bV (dq (ltf b hb))];exact(f2 b hb).1,(f2 b hb).2⟩;have un:Un (dM X.stack) fp H2 (bA H2 s2.heap.objs.size (.lst [])) s2.heap (s2.heap.push {cls:=.type "list",data:=.seq ([]:AD).toArray}):=Un.laid (λb u q=>aw _ q) (ar _) hD;have kp:∀b o,(s2.heap.push {cls:=.type "list",data:=.seq ([]:AD).toArray}).get? b=some o->h4.get? b=some o:=λb o q=>hsb.extBut b o (dq (bi q)) (aw _ q);have J0:=I3.cmp (t':=s2.toks+([]:List (Str×Value)).length) k f3 (λb hb=>df (ltf b hb) (by rw[jm];exact qk _)) hns kp;have stat:∀{H':Hp},(∀b∈fp,H' b=none)->∀b∈fp,fU (gD X sc (cS own cap) (s2.heap.push {cls:=.type "list",data:=.seq ([]:AD).toArray}).objs.size {s2 with heap:=s2.heap.push {cls:=.type "list",data:=.seq ([]:AD).toArray},toks:=s2.toks} (bA H2 s2.heap.objs.size (.lst [])) fp) [] H' b:=λhn b hb=>
  ⟨hn b hb,(J0.ok.exf b hb).1,J0.ok.exfs b hb,.inl hb,(J0.ok.exf b hb).2,λp hp=>absurd (show p∈([]:List (Addr×Obj)) from hp) (by simp)⟩
 have st4:tn 0 h4:=T.keep _ _ _ st2 λb hb o q=>kp b o (aw _ q);have fr0:∀b∈fp,(bA H2 s2.heap.objs.size (.lst [])) b=none:=λb hb=>(f3 b hb).1;have loop:codeAny (model X.prog X.w) X.A (.compLoop (.ListComp elt [⟨target,iter,[],0⟩] sc pos) 0 (.ref it) (.ref s2.heap.objs.size) (compEnvC sc (fY X.env sc.names []) (s2.heap.push {cls:=.type "list",data:=.seq ([]:AD).toArray}).objs.size X.env))
   (compPost (model X.prog X.w) X.A X.xe use Qf (.ref s2.heap.objs.size) (s2.heap.push {cls:=.type "list",data:=.seq ([]:AD).toArray}).objs.size) {s2 with heap:=h4,toks:=s2.toks+([]:List (Str×Value)).length}:=by
  obtain⟨W,⟨m0,w0⟩,turn⟩:=hW s2.heap.objs.size hD;refine Ie (λn s'=>∃i σ' H' ys,aH (gD X sc (cS own cap) (s2.heap.push {cls:=.type "list",data:=.seq ([]:AD).toArray}).objs.size {s2 with heap:=s2.heap.push {cls:=.type "list",data:=.seq ([]:AD).toArray},toks:=s2.toks} (bA H2 s2.heap.objs.size (.lst [])) fp) [] σ' H' s'/\tn i s'.heap/\(∀b∈fp,H' b=none)/\W i n σ' H' ys) ?_ m0
   ⟨0,_,_,[],J0,st4,fr0,w0⟩
  rintro n s5 ⟨i,σ5,H5,ys,I5,st5,fr5,w5⟩
  obtain⟨hD5,w5⟩:=turn i n σ5 H5 ys w5;rcases w5 with⟨stop,qn⟩|⟨go,hlt,step⟩
  .refine bG (T.done (gD X sc (cS own cap) (s2.heap.push {cls:=.type "list",data:=.seq ([]:AD).toArray}).objs.size {s2 with heap:=s2.heap.push {cls:=.type "list",data:=.seq ([]:AD).toArray},toks:=s2.toks} (bA H2 s2.heap.objs.size (.lst [])) fp) rfl rfl rfl hc i [] s5 σ5 H5 _ I5 (stat fr5) st5 stop) ?_
   rintro r s6 ⟨hr,I6⟩
   subst hr;obtain⟨m,hn,_⟩:=id I6.loc;exact fin _ _ s6 H5 m (I2.uncmp (s3:={s2 with heap:=s2.heap.push {cls:=.type "list",data:=.seq ([]:AD).toArray},toks:=s2.toks}) f2 un rfl I6) (I3.fpOk (ar _) I6.free) hn qn
  .refine bG (T.item (gD X sc (cS own cap) (s2.heap.push {cls:=.type "list",data:=.seq ([]:AD).toArray}).objs.size {s2 with heap:=s2.heap.push {cls:=.type "list",data:=.seq ([]:AD).toArray},toks:=s2.toks} (bA H2 s2.heap.objs.size (.lst [])) fp) rfl rfl rfl hc i [] s5 σ5 H5 _ I5 (stat fr5) st5 go) ?_
   rintro r s6 ⟨u,hr,h6⟩
   subst hr;refine bG h6 ?_
   rintro _ s7 ⟨x,H7,I7,r7,y7,st7,fr7⟩
   have I7':=I7.pinned (stat fr7) (T.obj _ _ st7);refine bG (hg _ _ _ _ _ s7 σ5 H7 x u _ I7' r7 (step x H7 y7)) ?_
   rintro _ s8 ⟨σ8,H8,I8,q8⟩
   refine bG (he _ _ _ _ _ s8 σ8 H8 _ I8 q8) ?_
   rintro v9 s9 ⟨y,H9,I9,r9,hD9,m',hm,w9⟩
   refine bG (tH _ s9 σ8 H9 (.ref s2.heap.objs.size) [y] (.ref s2.heap.objs.size) [v9] (λ_ H'=>H'=bA H9 s2.heap.objs.size (.lst (ys++[y]))) I9 rfl (.cons r9 .nil) ⟨_,ys,y,rfl,rfl,hD9,hlt,rfl⟩) ?_
   rintro _ s10 ⟨_,H10,I10,_,q10⟩
   subst q10;refine⟨m',hm,i+1,σ8,_,_,I10.unpinned,T.keep _ _ _ st7 λb hb o q=>(I10.pin (b,o) (fu _ (fu _ (oN hb q)))).1,λb hb=>?_,w9⟩;obtain⟨o,q,d⟩:=T.obj _ _ st7 b hb;exact(I10.pin (b,o) (fu _ (fu _ (oN hb q)))).2.1
 exact zm loop (T.self _ 0 _ _ _ st4 loop)
theorem Tx(k:iB X sc own cap)(hi:PI X target iter wi)(hc:X.calm=true)
  (hg:∀C AN AO ex,PG (gD X sc (cS own cap) C AN AO ex) target g)(he:∀C AN AO ex,PE (gD X sc (cS own cap) C AN AO ex) elt te)
  (hs:∀x,foldedSetIterable iter X.env x=pure x:=by intro _;rfl):PE X (.ListComp elt [⟨target,iter,[],0⟩] sc pos) (rO own cap wi g te):=by
 intro AM s σ H Q I h;rw[eval_ListComp];refine Ef (use:=none) k hi hc hg he I h (λD C s' H' m I' fC hn q=>?_) hs;refine⟨m,hn,λh' sb=>⟨.ref D,H',?_,rfl,q⟩⟩;obtain⟨f0,f1,f2,f3,f4,f5⟩:=fC;exact I'.turned (t':=s'.toks) (λb o hb e=>(sb.2 b hb).trans e) f0 f1 f3 f4 f5
theorem B6{i:Nat}{x:Str}{py spos:ai}(hN:X.N.Nodup)(hx:X.N[i]?=some x)(hl:jU X.env.scope x)(k:iB X sc own cap)(hi:PI X target iter wi)(hc:X.calm=true)
  (hg:∀C AN AO ex,PG (gD X sc (cS own cap) C AN AO ex) target g)(he:∀C AN AO ex,PE (gD X sc (cS own cap) C AN AO ex) elt te)
  (hs:∀x,foldedSetIterable iter X.env x=pure x:=by intro _;rfl)(hsw:swapsWith (.ListComp elt [⟨target,iter,[],0⟩] sc pos) (some (.Name x py)) spos.line X.env=pure true:=by rfl)
  (hf:X.fn x=true\/X.env.scope.names.lookup x=some .local:=by first |exact .inl rfl |exact .inr rfl |assumption):
  PS X (.Assign [.Name x py] (.ListComp elt [⟨target,iter,[],0⟩] sc pos) spos) (Eb (rO own cap wi g te) (Fa i)):=by
 intro AM s σ H D I h;rw[exec_Assign_Name_used _ _ _ _ hsw];refine ah (qw (ah ?_));show wpAny _ X.A (comprehension (.ListComp elt [⟨target,iter,[],0⟩] sc pos) sc X.env _ (newList []) false (eval iter X.env) (some (assign (.Name x py) X.env)) >>= λ_=>pure ()) _ _ s;refine ah (bG (Ef (use:=some (assign (.Name x py) X.env)) (Qf:=λ_ s'=>SP X AM D .next s') k hi hc hg he I h (λB C s' H' m I' fC hn q=>?_) hs) λ_ s' hq=>bf (bf hq))
 show wpAny _ _ (assign (.Name x py) X.env (.ref B)) _ _ s';obtain⟨o,es,ep,ho,hd,r⟩:=hn;obtain⟨f0,f1,f2,f3,f4,f5⟩:=fC;have I'':aH X (AM++[(C,o)]) σ H' s':=I'.pins_of λp hp=>(cv.mp hp).elim (λz=>I'.pin p (fu _ z)) λz=>by
  have e:p=(C,o):=by simpa using z
  subst e;exact⟨ho,f0,f1,f2,λv z=>by rw[hd]at z;cases z⟩
 refine wpAny_assign_Name (oX I'' hN hx hl (v:=.ref B) rfl (λs2 I2=>?_) hf);have pC:=I2.pin (C,o) (by simp);refine⟨m,⟨o,es,ep,pC.1,hd,r⟩,λh' sb=>⟨_,H',?_,q⟩⟩;exact(I2.unpinned).turned (t':=s2.toks) (λb o hb e=>(sb.2 b hb).trans e) f0 f1 f3 f4 f5
end
section
variable{X:Cx}
end
section
variable{prog:Program}{w:aj}{A:al}{E:Value->aa->Prop}{s:aa}
theorem Uq{it t:Addr}{i:Nat}{items:Array Value}{x:Value}{Q:Value->aa->Prop}(git:s.heap.IsTupleIter it t i)(gt:s.heap.IsTuple t items)(gx:items[i]?=some x)
  (gQ:∀h',h'.IsTupleIter it t (i+1)->lb it s.heap h'->Q x {s with heap:=h'}):wpAny (model prog w) A (kl (.ref it)) Q E s:=by
 obtain⟨o,go,gc,gd⟩:=id git;obtain⟨ol,gol,_,nl,gdl⟩:=gt;unfold kl;refine ah (qj (name:=de "__next__") git.typeIs si (oi si git.typeIs zn ?_ (zo _)));show wpAny _ _ (field (.ref it) 0 >>= _) _ _ s;refine ah (ib go gd (x:=.ref t) rfl ?_);show wpAny _ _ (if(ik t==cx)=true then _ else _) _ _ s;rw[if_neg (show ¬((ik t==cx)=true) from lh)];show wpAny _ _ (field (.ref it) 1 >>= _) _ _ s;refine ah (ib go gd (x:=.int i 0) rfl ?_);show wpAny _ _ (seqItems? (.ref t) >>= _) _ _ s;refine ah (km gol gdl ?_);simp only[qi,gx];refine ah (wg go gd (by simp) (bf ⟨_,rfl,bf (gQ _ ?_ (zq ..))⟩));refine⟨_,yt _ go (Obj.isFreed_of_fields (zt gd _)),(Obj.cls_mapFields ..).trans gc,?_⟩;rw[zt gd];simp[rawInt]
theorem Fp{it t:Addr}{i:Nat}{items:Array Value}{Q:Value->aa->Prop}(hh:A.handled=none)(git:s.heap.IsTupleIter it t i)(gt:s.heap.IsTuple t items)(gx:items[i]?=none)
  (gE:∀h' e,Heap.ExtBut it s.heap h'->(∃o,h'.get? e=some o/\o.cls=.type "StopIteration")->E (.ref e) {s with heap:=h'}):wpAny (model prog w) A (kl (.ref it)) Q E s:=by
 obtain⟨o,go,gc,gd⟩:=id git;obtain⟨ol,gol,_,nl,gdl⟩:=gt;unfold kl;refine ah (qj (name:=de "__next__") git.typeIs si (oi si git.typeIs zn ?_ (zo _)));show wpAny _ _ (field (.ref it) 0 >>= _) _ _ s;refine ah (ib go gd (x:=.ref t) rfl ?_);show wpAny _ _ (if(ik t==cx)=true then _ else _) _ _ s;rw[if_neg (show ¬((ik t==cx)=true) from lh)];show wpAny _ _ (field (.ref it) 1 >>= _) _ _ s;refine ah (ib go gd (x:=.int i 0) rfl ?_);show wpAny _ _ (seqItems? (.ref t) >>= _) _ _ s;refine ah (km gol gdl ?_);simp only[qi,gx]
 first
  |refine ah (nu (ah (wg go gd (by simp) (ah (sj ?_)))))
  |refine ah (nu (ah (wg go gd (by simp) ?_)))
 show wpAny _ _ (newExc (.type "StopIteration") [] >>= _) _ _ _;refine ah ?_;simp only[newExc,newTuple];refine ah (jx ?_ (by size_fits));refine ah (m:=firstArgMember _ _) (wj (a:=cx) (by first |rfl |(simp only[firstArgMember];rfl)) ?_)
 refine jx ?_ (by size_fits);simp only[raiseNew];refine ah (wpAny_handled ?_)
 first
  |rw[show A.in1.handled=none from hh]
  |rw[hh]
 refine ah (bf (wpAny_throw ?_));exact gE _ _ (((zq ..).extBut.push _).push _) ⟨_,dh _ rfl,rfl⟩
end
theorem Ww{prog:Program}{w:aj}{A:al}(hh:A.handled=none)(it t:Addr)(hne:t≠it)(items:Array Value):
  jv prog w A it [it,t] items.size (λi v=>items[i]?=some v) (λi h=>h.IsTupleIter it t i/\h.IsTuple t items) where
 live:=λ_ _ st=>let⟨o,ho,_⟩:=st.1;⟨o,ho⟩
 frame:=λ_ _ _ st hk=>⟨let⟨o,ho,r⟩:=st.1;⟨o,hk it (by simp) o ho,r⟩,let⟨o,ho,r⟩:=st.2;⟨o,hk t (by simp) o ho,r⟩⟩
 item:=λi s Q E hi st hQ=>by
  refine Uq st.1 st.2 (x:=items[i]) (by simp[hi]) λh' hit' hs'=>?_;exact hQ _ h' s.toks (by simp[hi]) ⟨hit',st.2.extBut hs'.extBut hne⟩ hs'
 done:=λs Q E st hE=>Fp hh st.1 st.2 (by simp) hE
structure sF(z TI TO i1 i2:Addr)(fp1 fp2:List Addr):Prop where
 tiz:TI≠z
 toz:TO≠z
 tito:TI≠TO
 ti1:TI≠i1
 ti2:TI≠i2
 z1:z∉fp1
 z2:z∉fp2
 to1:TO∉fp1
 to2:TO∉fp2
 i12:i1∉fp2
 i21:i2∉fp1
 m1:i1∈fp1
 m2:i2∈fp2
section
variable{prog:Program}{w:aj}{A:al}{E:Value->aa->Prop}{s:aa}{z TI TO i1 i2:Addr}{fp1 fp2:List Addr}{n1 n2 i:Nat}{P1 P2:Nat->Value->Prop}{S1 S2:Nat->Heap->Prop}{a b:Value}
theorem Bt{Q:Value->aa->Prop}(D1:jv prog w A i1 fp1 n1 P1 S1)(D2:jv prog w A i2 fp2 n2 P2 S2)(ap:sF z TI TO i1 i2 fp1 fp2)(gz:ia s.heap z TI TO .none)(gTI:dk s.heap TI (.ref i1) (.ref i2))(gTO:dk s.heap TO a b)
  (g1:S1 i s.heap)(g2:S2 i s.heap)(l1:i<n1)(l2:i<n2)
  (gQ:∀h' tk x y,P1 i x->P2 i y->ia h' z TI TO (rawInt s.heap.objs.size)->dk h' TO x y->S1 (i+1) h'->S2 (i+1) h'->dk h' s.heap.objs.size x y->
   (∀c o,c≠z->c≠TO->c≠i1->c≠i2->s.heap.get? c=some o->h'.get? c=some o)->Q (.ref s.heap.objs.size) {s with heap:=h',toks:=tk}):
  wpAny (model prog w) A (Builtin.«zip.__next__» ⟨[.ref z],[]⟩) (λfin s'=>∃v,fin=.done (.ret v)/\Q v s') E s:=by
 have nz1:i1≠z:=λq=>ap.z1 (q▸ap.m1);have nz2:i2≠z:=λq=>ap.z2 (q▸ap.m2);have nt1:TO≠i1:=λq=>ap.to1 (q▸ap.m1);have nt2:TO≠i2:=λq=>ap.to2 (q▸ap.m2);show wpAny _ _ (field (.ref z) 2 >>= _) _ _ _;refine ah (ib gz rfl (x:=.bool false) rfl ?_);show wpAny _ _ (field (.ref z) 3 >>= _) _ _ _;refine ah (ib gz rfl (x:=.ref TI) rfl ?_);refine ah (km gTI rfl ?_);show wpAny _ _ (sk (.ref z) >>= _) _ _ _;refine ah ?_;unfold sk;refine ah (ib gz rfl (x:=.none) rfl (bf ?_));simp only[if_true];refine ah (nu ?_);refine ah (ib gz rfl (x:=.ref TO) rfl ?_);refine ah (oq gz (by simp) λh1 gz1 s1=>?_)
 replace gz1:ia h1 z TI TO .ellipsis:=gz1
 refine ah ?_;simp only[zu,zw,we,wk];refine ah (ah (sr ?_));show wpAny _ _ (kl (.ref i1) >>= _) _ _ _;refine ah (D1.item i _ _ _ l1 (D1.frame _ _ _ g1 λc hc o q=>s1.extBut c o (λe=>ap.z1 (e▸hc)) q) λx h2 tk2 px g1' s2=>bf ?_);have gTO2:dk h2 TO a b:=s2.extBut _ _ nt1 (s1.extBut _ _ ap.toz gTO);refine ah (km gTO2 rfl ?_);refine ah (wm (s:={s with heap:=h2,toks:=tk2}) gTO2 λh3 gTO3 s3=>?_)
 replace gTO3:dk h3 TO x b:=gTO3
 replace s3:lb TO h2 h3:=s3
 refine ah (sj (bf ?_));refine ah (ah (sr ?_));show wpAny _ _ (kl (.ref i2) >>= _) _ _ _;have g2':S2 i h3:=D2.frame _ _ _ g2 λc hc o q=>s3.extBut c o (λe=>ap.to2 (e▸hc)) (s2.extBut c o (λe=>ap.i12 (e▸hc)) (s1.extBut c o (λe=>ap.z2 (e▸hc)) q));refine ah (D2.item i _ _ _ l2 g2' λy h4 tk4 py g2'' s4=>bf ?_)
 replace s4:lb i2 h3 h4:=s4
 have gTO4:dk h4 TO x b:=s4.extBut _ _ nt2 gTO3;refine ah (km gTO4 rfl ?_);refine ah (wm (s:={s with heap:=h4,toks:=tk4}) gTO4 λh5 gTO5 s5=>?_)
 replace gTO5:dk h5 TO x y:=gTO5
 replace s5:lb TO h4 h5:=s5
 refine ah (sj (bf (bf ?_)));refine ah (km gTO5 rfl ?_);refine ah (wpAny_newTuple ?_);have hsz:h5.objs.size=s.heap.objs.size:=by rw[s5.1,s4.1,s3.1,s2.1,s1.1]
 have gz5:ia h5 z TI TO .ellipsis:=s5.extBut _ _ ap.toz.symm (s4.extBut _ _ nz2.symm (s3.extBut _ _ ap.toz.symm (s2.extBut _ _ nz1.symm gz1)));have k5:∀c o,c≠z->c≠TO->c≠i1->c≠i2->s.heap.get? c=some o->h5.get? c=some o:=λc o c1 c2 c3 c4 q=>s5.extBut _ _ c2 (s4.extBut _ _ c4 (s3.extBut _ _ c2 (s2.extBut _ _ c3 (s1.extBut _ _ c1 q))));have g15:S1 (i+1) h5:=D1.frame _ _ _ g1' λc hc o q=>s5.extBut c o (λe=>ap.to1 (e▸hc)) (s4.extBut c o (λe=>ap.i21 (e▸hc)) (s3.extBut c o (λe=>ap.to1 (e▸hc)) q));have g25:S2 (i+1) h5:=D2.frame _ _ _ g2'' λc hc o q=>s5.extBut c o (λe=>ap.to2 (e▸hc)) q;have zlt:z<h5.objs.size:=bi gz5;show wpAny _ _ (zx (.ref z) (.ref h5.objs.size) >>= _) _ _ _;refine ah ?_;unfold zx;have gz6:ia (h5.push {cls:=.type "tuple",data:=.seq #[x,y]}) z TI TO .ellipsis:=aw _ gz5;refine ah (oq gz6 (by simp) λh7 gz7 s7=>?_)
 replace gz7:ia h7 z TI TO (rawInt h5.objs.size):=gz7
 refine oq gz7 (by simp) λh8 gz8 s8=>?_
 replace gz8:ia h8 z TI TO (rawInt h5.objs.size):=gz8
 have up:∀c o,c≠z->h5.get? c=some o->h8.get? c=some o:=λc o c1 q=>s8.extBut _ _ c1 (s7.extBut _ _ c1 (aw _ q));have gT8:dk h8 h5.objs.size x y:=s8.extBut _ _ (nv zlt) (s7.extBut _ _ (nv zlt) (dh _ rfl));rw[hsz]at gz8 gT8;refine bf ⟨_,rfl,?_⟩;show Q (.ref h5.objs.size) _;rw[hsz];exact gQ h8 _ x y px py gz8 (up _ _ ap.toz gTO5) (D1.frame _ _ _ g15 λc hc o q=>up c o (λe=>ap.z1 (e▸hc)) q) (D2.frame _ _ _ g25 λc hc o q=>up c o (λe=>ap.z2 (e▸hc)) q) gT8 λc o c1 c2 c3 c4 q=>up c o c1 (k5 c o c1 c2 c3 c4 q)
theorem Ft{Q:Fin->aa->Prop}(D1:jv prog w A i1 fp1 n1 P1 S1)(D2:jv prog w A i2 fp2 n2 P2 S2)(ap:sF z TI TO i1 i2 fp1 fp2)(gz:ia s.heap z TI TO .none)(gTI:dk s.heap TI (.ref i1) (.ref i2))(gTO:dk s.heap TO a b)
  (g1:S1 i s.heap)(g2:S2 i s.heap)(fin:i=n1\/(i<n1/\i=n2))
  (gE:∀h' tk e,(∀c o,c≠z->c≠TO->c≠i1->c≠i2->s.heap.get? c=some o->h'.get? c=some o)->(∃o,h'.get? e=some o/\o.cls=.type "StopIteration")->E (.ref e) {s with heap:=h',toks:=tk}):
  wpAny (model prog w) A (Builtin.«zip.__next__» ⟨[.ref z],[]⟩) Q E s:=by
 have nz1:i1≠z:=λq=>ap.z1 (q▸ap.m1);have nz2:i2≠z:=λq=>ap.z2 (q▸ap.m2);have nt1:TO≠i1:=λq=>ap.to1 (q▸ap.m1);have nt2:TO≠i2:=λq=>ap.to2 (q▸ap.m2);show wpAny _ _ (field (.ref z) 2 >>= _) _ _ _;refine ah (ib gz rfl (x:=.bool false) rfl ?_);show wpAny _ _ (field (.ref z) 3 >>= _) _ _ _;refine ah (ib gz rfl (x:=.ref TI) rfl ?_);refine ah (km gTI rfl ?_);show wpAny _ _ (sk (.ref z) >>= _) _ _ _;refine ah ?_;unfold sk;refine ah (ib gz rfl (x:=.none) rfl (bf ?_));simp only[if_true];refine ah (nu ?_);refine ah (ib gz rfl (x:=.ref TO) rfl ?_);refine ah (oq gz (by simp) λh1 gz1 s1=>?_)
 replace gz1:ia h1 z TI TO .ellipsis:=gz1
 refine ah ?_;simp only[zu,zw,we,wk];refine ah (ah (sr ?_));show wpAny _ _ (kl (.ref i1) >>= _) _ _ _;have g1':S1 i h1:=D1.frame _ _ _ g1 λc hc o q=>s1.extBut c o (λe=>ap.z1 (e▸hc)) q;rcases fin with e1 |⟨l1,e2⟩
 .subst e1
  refine ah (D1.done _ _ _ g1' λh2 e s2 he=>?_);obtain⟨oe,hoe,hce⟩:=he;have gz2:ia h2 z TI TO .ellipsis:=s2 _ _ nz1.symm gz1;have hez:e≠z:=λq=>by
   subst q;rw[gz2]at hoe;cases hoe;simp at hce
  refine oq (s:={s with heap:=h2}) gz2 (by simp) λh3 _ s3=>?_;exact gE h3 _ e (λc o c1 _ c3 _ q=>s3.extBut _ _ c1 (s2 _ _ c3 (s1.extBut _ _ c1 q))) ⟨oe,s3.extBut _ _ hez hoe,hce⟩
 .subst e2
  refine ah (D1.item i _ _ _ l1 g1' λx h2 tk2 px g1'' s2=>bf ?_);have gTO2:dk h2 TO a b:=s2.extBut _ _ nt1 (s1.extBut _ _ ap.toz gTO);refine ah (km gTO2 rfl ?_);refine ah (wm (s:={s with heap:=h2,toks:=tk2}) gTO2 λh3 gTO3 s3=>?_)
  replace s3:lb TO h2 h3:=s3
  refine ah (sj (bf ?_));refine ah (ah (sr ?_));show wpAny _ _ (kl (.ref i2) >>= _) _ _ _;have g2':S2 i h3:=D2.frame _ _ _ g2 λc hc o q=>s3.extBut c o (λe=>ap.to2 (e▸hc)) (s2.extBut c o (λe=>ap.i12 (e▸hc)) (s1.extBut c o (λe=>ap.z2 (e▸hc)) q));refine ah (D2.done _ _ _ g2' λh4 e s4 he=>?_)
  replace s4:Heap.ExtBut i2 h3 h4:=s4
  obtain⟨oe,hoe,hce⟩:=he;have gz4:ia h4 z TI TO .ellipsis:=s4 _ _ nz2.symm (s3.extBut _ _ ap.toz.symm (s2.extBut _ _ nz1.symm gz1));have hez:e≠z:=λq=>by
   subst q;rw[gz4]at hoe;cases hoe;simp at hce
  refine oq (s:={s with heap:=h4,toks:=tk2}) gz4 (by simp) λh5 _ s5=>?_;exact gE h5 _ e (λc o c1 c2 c3 c4 q=>s5.extBut _ _ c1 (s4 _ _ c4 (s3.extBut _ _ c2 (s2.extBut _ _ c3 (s1.extBut _ _ c1 q))))) ⟨oe,s5.extBut _ _ hez hoe,hce⟩
theorem Xp{Q:AE->aa->Prop}(D1:jv prog w A.in1 i1 fp1 n1 P1 S1)(D2:jv prog w A.in1 i2 fp2 n2 P2 S2)(ap:sF z TI TO i1 i2 fp1 fp2)(gz:ia s.heap z TI TO .none)(gTI:dk s.heap TI (.ref i1) (.ref i2))(gTO:dk s.heap TO a b)
  (g1:S1 i s.heap)(g2:S2 i s.heap)(l1:i<n1)(l2:i<n2)
  (gQ:∀h' tk x y,P1 i x->P2 i y->ia h' z TI TO (rawInt s.heap.objs.size)->dk h' TO x y->S1 (i+1) h'->S2 (i+1) h'->dk h' s.heap.objs.size x y->
   (∀c o,c≠z->c≠TO->c≠i1->c≠i2->s.heap.get? c=some o->h'.get? c=some o)->Q (some (.ref s.heap.objs.size)) {s with heap:=h',toks:=tk}):
  wpAny (model prog w) A (pyNext (.ref z)) Q E s:=by
 have gT:s.TypeIs (.ref z) "zip":=⟨_,gz,rfl⟩;unfold pyNext;refine ah (wpAny_attempt (qj (name:=de "__next__") gT su (oi su gT zy ?_ (a5 _))));exact Bt D1 D2 ap gz gTI gTO g1 g2 l1 l2 λh' tk x y p1 p2 e1 e2 e3 e4 e5 e6=>bf (gQ h' tk x y p1 p2 e1 e2 e3 e4 e5 e6)
theorem Bp{Q:AE->aa->Prop}(D1:jv prog w A.in1 i1 fp1 n1 P1 S1)(D2:jv prog w A.in1 i2 fp2 n2 P2 S2)(ap:sF z TI TO i1 i2 fp1 fp2)(gz:ia s.heap z TI TO .none)(gTI:dk s.heap TI (.ref i1) (.ref i2))(gTO:dk s.heap TO a b)
  (g1:S1 i s.heap)(g2:S2 i s.heap)(fin:i=n1\/(i<n1/\i=n2))
  (gQ:∀h' tk,(∀c o,c≠z->c≠TO->c≠i1->c≠i2->s.heap.get? c=some o->h'.get? c=some o)->Q none {s with heap:=h',toks:=tk}):wpAny (model prog w) A (pyNext (.ref z)) Q E s:=by
 have gT:s.TypeIs (.ref z) "zip":=⟨_,gz,rfl⟩;unfold pyNext;refine ah (wpAny_attempt (qj (name:=de "__next__") gT su (oi su gT zy ?_ (a5 _))));refine Ft D1 D2 ap gz gTI gTO g1 g2 fin λh' tk e hk he=>?_;obtain⟨o,ho,hc⟩:=he;refine ah (wpAny_isInstance (T:="StopIteration") (b:=true) ⟨o,ho,hc⟩ isSubtype_stop ?_);exact bf (gQ _ _ hk)
end
abbrev vF(h:Heap)(o1:Obj):Heap:=h.push o1
abbrev vC(h:Heap)(o1 o2:Obj):Heap:=(vF h o1).push o2
abbrev vN(h:Heap)(o1 o2:Obj):Heap:=(vC h o1 o2).push {cls:=.type "tuple",data:=.seq #[.ref h.objs.size,.ref (vF h o1).objs.size]}
abbrev vO(h:Heap)(o1 o2:Obj):Heap:=(vN h o1 o2).push {cls:=.type "tuple",data:=.seq #[.none,.none]}
abbrev pZ(h:Heap)(o1 o2:Obj):Heap:=(vO h o1 o2).push {cls:=.type "zip",data:=.fields #[.none,.bool false,.bool false,.ref (vC h o1 o2).objs.size,.ref (vN h o1 o2).objs.size]}
def rZ(l:Addr)(o:Obj)(G:Heap->Prop):Prop:=
 ∀(prog:Program)(w:aj)(A:al)(E:Value->aa->Prop)(s:aa)(Q:Value->aa->Prop),G s.heap->Q (.ref s.heap.objs.size) {s with heap:=s.heap.push o}->wpAny (model prog w) A (pyIter (.ref l)) Q E s
theorem Ht(l1 l2:Addr)(o1 o2:Obj)(G1 G2:Heap->Prop)(p1:rZ l1 o1 G1)(p2:rZ l2 o2 G2)(k2:∀h,G2 h->G2 (h.push o1)):
  Meets (Builtin.«zip.__new__» ⟨[.type "zip",.ref l1,.ref l2],[]⟩) (λ_ R s=>G1 s.heap/\G2 s.heap/\R (.ok (.ret (.ref (vO s.heap o1 o2).objs.size))) {s with heap:=pZ s.heap o1 o2}):=
 .of_wp λprog w A R s h=>by
  obtain⟨hp,g,d,tk,os⟩:=s;obtain⟨g1,g2,h⟩:=h;have hsub:=sub_zip;have q1:=λ(A':al) (E':Value->aa->Prop) (Q':Value->aa->Prop)=>p1 prog w A' E' ⟨hp,g,d,tk,os⟩ Q' g1;have q2:=λ(A':al) (E':Value->aa->Prop) (Q':Value->aa->Prop)=>p2 prog w A' E' ⟨hp.push o1,g,d,tk,os⟩ Q' (k2 _ g2)
  wp_walk using q1 _ _ _,q2 _ _ _
  exact⟨_,rfl,h⟩
theorem Rp{prog:Program}{w:aj}{A:al}{E:Value->aa->Prop}{s:aa}{l1 l2:Addr}{o1 o2:Obj}{G1 G2:Heap->Prop}{Q:Value->aa->Prop}(p1:rZ l1 o1 G1)(p2:rZ l2 o2 G2)(k2:∀h,G2 h->G2 (h.push o1))(g1:G1 s.heap)(g2:G2 s.heap)
  (f1:o1.isFreed=false)(f2:o2.isFreed=false)
  (h:∀h',ia h' (s.heap.objs.size+4) (s.heap.objs.size+2) (s.heap.objs.size+3) .none->dk h' (s.heap.objs.size+2) (.ref s.heap.objs.size) (.ref (s.heap.objs.size+1))->dk h' (s.heap.objs.size+3) .none .none->
   h'.get? s.heap.objs.size=some o1->h'.get? (s.heap.objs.size+1)=some o2->(∀c o,s.heap.get? c=some o->h'.get? c=some o)->Q (.ref (s.heap.objs.size+4)) {s with heap:=h'}):
  wpAny (model prog w) A (call (.type "zip") [.ref l1,.ref l2]) Q E s:=by
 refine callType_new F.called_zip (by decide) (F.typeCall_zip_2 _ _) (F.newCall_zip_2 _ _) (λobj=>F.args_object_init_3 obj _ _) F.entry_zip_new (Ht l1 l2 o1 o2 G1 G2 p1 p2 k2) ⟨g1,g2,?_⟩;have e1:(vF s.heap o1).objs.size=s.heap.objs.size+1:=jm ..;have e2:(vC s.heap o1 o2).objs.size=s.heap.objs.size+2:=by rw[jm,e1]
 have e3:(vN s.heap o1 o2).objs.size=s.heap.objs.size+3:=by rw[jm,e2]
 have e4:(vO s.heap o1 o2).objs.size=s.heap.objs.size+4:=by rw[jm,e3]
 have r5:(pZ s.heap o1 o2).get? (vO s.heap o1 o2).objs.size=some _:=dh _ rfl;have r4:(pZ s.heap o1 o2).get? (vN s.heap o1 o2).objs.size=some _:=aw _ (dh _ rfl);have r3:(pZ s.heap o1 o2).get? (vC s.heap o1 o2).objs.size=some _:=aw _ (aw _ (dh _ rfl));have r2:(pZ s.heap o1 o2).get? (vF s.heap o1).objs.size=some o2:=aw _ (aw _ (aw _ (dh _ f2)));have r1:(pZ s.heap o1 o2).get? s.heap.objs.size=some o1:=aw _ (aw _ (aw _ (aw _ (dh _ f1))));show _/\_;rw[e2,e3,e4]at r5;rw[e1,e2]at r3;rw[e3]at r4;rw[e1]at r2;rw[e4];exact⟨⟨_,r5,rfl⟩,h _ r5 r3 r4 r1 r2 λc o q=>aw _ (aw _ (aw _ (aw _ (aw _ q))))⟩
def iR(f:Bool)(K:ae)(H:Hp)(a:Addr)(xs:List V):Prop:=match f with
 |true=>dA K H a xs
 |false=>bT K H a xs
def lM(f:Bool)(it a:Addr)(i:Nat)(h:Heap):Prop:=match f with
 |true=>h.IsTupleIter it a i
 |false=>h.IsListIter it a i
def pX(f:Bool)(a:Addr)(items:Array Value)(h:Heap):Prop:=match f with
 |true=>h.IsTuple a items
 |false=>h.IsList a items
def Xb(f:Bool)(a:Addr):Obj:=match f with
 |true=>{cls:=.type "tuple_iterator",data:=.fields #[.ref a,.int 0 0]}
 |false=>{cls:=.type "list_iterator",data:=.fields #[.ref a,.int 0 0]}
section
variable{X:Cx}{AM:List (Addr×Obj)}{σ:St}{H:Hp}{s:aa}{a:Addr}{xs ys:List V}{f:Bool}
theorem aH.seqF(I:aH X AM σ H s)(h:iR f X.K H a xs):∃its:AD,bC xs its/\pX f a its.toArray s.heap/\xs.length<=sizeLine:=by
 cases f with
 |true=>
  obtain⟨its,r,p,z⟩:=I.tuple h;exact⟨its,r,p,z⟩
 |false=>
  obtain⟨its,r,p,z⟩:=I.list h;exact⟨its,r,p.isList,z⟩
theorem aH.seqF_inj(I:aH X AM σ H s)(h:iR f X.K H a xs)(h':iR f X.K H a ys):xs=ys:=by
 cases f with
 |true=>exact I.tuple_inj h h'
 |false=>exact I.list_inj h h'
theorem aH.apart{b:Addr}(I:aH X AM σ H s)(fb:fU X AM H b)(h:iR f X.K H a xs):a≠b:=by
 have viaK:∀{o:Obj},X.K.lookup a=some o->a≠b:=λ{o} q e=>by
  have hb:X.base.get? b=some o:=e▸I.ok.mod.kin a o q;rcases fb.2.2.2.1 with z |z
  .exact I.ok.noex b o hb z
  .exact absurd (df (bi (I.ok.bs b o hb).1) z) (jd _)
 cases f with
 |true=>
  rcases h with(h |⟨o,h⟩) |⟨o,_,_,q,_⟩
  .exact fR h fb.1
  .exact fR h fb.1
  .exact viaK q
 |false=>
  rcases h with(h |⟨o,h⟩) |⟨o,_,_,q,_⟩
  .exact fR h fb.1
  .exact fR h fb.1
  .exact viaK q
end
theorem uJ{prog:Program}{w:aj}{A:al}(f:Bool)(hh:A.handled=none)(it a:Addr)(hne:a≠it)(items:Array Value):
  jv prog w A it [it,a] items.size (λi v=>items[i]?=some v) (λi h=>lM f it a i h/\pX f a items h):=by
 cases f with
 |true=>exact Ww hh it a hne items
 |false=>exact Draws.list hh it a hne items
theorem Jn(f:Bool)(a:Addr)(items:Array Value):rZ a (Xb f a) (pX f a items):=by
 cases f with
 |true=>exact λprog w A E s Q g q=>a6 g q
 |false=>exact λprog w A E s Q g q=>wn g q
theorem lM.keep{f:Bool}{it a:Addr}{i:Nat}{h h':Heap}(x:lM f it a i h)(k:∀o,h.get? it=some o->h'.get? it=some o):lM f it a i h':=by
 cases f with
 |true=>obtain⟨o,e,r⟩:=x;exact⟨o,k o e,r⟩
 |false=>obtain⟨o,e,r⟩:=x;exact⟨o,k o e,r⟩
theorem pX.keep{f:Bool}{a:Addr}{items:Array Value}{h h':Heap}(x:pX f a items h)(k:∀o,h.get? a=some o->h'.get? a=some o):pX f a items h':=by
 cases f with
 |true=>obtain⟨o,e,r⟩:=x;exact⟨o,k o e,r⟩
 |false=>obtain⟨o,e,r⟩:=x;exact⟨o,k o e,r⟩
theorem lM.obj{f:Bool}{it a:Addr}{i:Nat}{h:Heap}(x:lM f it a i h):∃o,h.get? it=some o/\∀v,o.data≠.cell v:=by
 cases f with
 |true=>obtain⟨o,e,_,d⟩:=x;exact⟨o,e,λv z=>by rw[d]at z;cases z⟩
 |false=>obtain⟨o,e,_,d⟩:=x;exact⟨o,e,λv z=>by rw[d]at z;cases z⟩
theorem Re(f:Bool)(a it:Addr){h:Heap}(e:h.get? it=some (Xb f a)):lM f it a 0 h:=by
 cases f with
 |true=>exact⟨_,e,rfl,rfl⟩
 |false=>exact⟨_,e,rfl,rfl⟩
theorem Tg(f:Bool)(a:Addr):(Xb f a).isFreed=false:=by cases f<;>rfl
def To (K : ae) (f1 : Bool) (a : Addr) (f2 : Bool) (b : Addr) : It :=
  ⟨λi H => ∃ xs ys x y, iR f1 K H a xs ∧ iR f2 K H b ys ∧ xs[i]? = some x ∧ ys[i]? = some y,
   λi H v H' => ∃ p x y, H p = none ∧ v = .ref p ∧ H' = bA H p (.tup [x, y]) ∧ (∀ xs, iR f1 K H a xs → xs[i]? = some x) ∧ ∀ ys, iR f2 K H b ys → ys[i]? = some y,
   λi H => ∃ xs ys, iR f1 K H a xs ∧ iR f2 K H b ys ∧ (i = xs.length ∨ (i < xs.length ∧ i = ys.length))⟩
structure vG(z TI TO i1 i2:Addr):Prop where
 tiz:TI≠z
 toz:TO≠z
 i1z:i1≠z
 i2z:i2≠z
 tito:TI≠TO
 ti1:TI≠i1
 ti2:TI≠i2
 to1:TO≠i1
 to2:TO≠i2
 i12:i1≠i2
theorem vG.ap{z TI TO i1 i2 a b:Addr}(r:vG z TI TO i1 i2)(h:∀c∈[z,TI,TO,i1,i2],a≠c)(g:∀c∈[z,TI,TO,i1,i2],b≠c):sF z TI TO i1 i2 [i1,a] [i2,b] where
 tiz:=r.tiz
 toz:=r.toz
 tito:=r.tito
 ti1:=r.ti1
 ti2:=r.ti2
 z1:=λq=>by simp at q;rcases q with q |q;exact r.i1z q.symm;exact h z (by simp) q.symm
 z2:=λq=>by simp at q;rcases q with q |q;exact r.i2z q.symm;exact g z (by simp) q.symm
 to1:=λq=>by simp at q;rcases q with q |q;exact r.to1 q;exact h TO (by simp) q.symm
 to2:=λq=>by simp at q;rcases q with q |q;exact r.to2 q;exact g TO (by simp) q.symm
 i12:=λq=>by simp at q;rcases q with q |q;exact r.i12 q;exact g i1 (by simp) q.symm
 i21:=λq=>by simp at q;rcases q with q |q;exact r.i12 q.symm;exact h i2 (by simp) q.symm
 m1:=by simp
 m2:=by simp
theorem Ru{P:Program}{w:aj}{K:ae}{elts:List ag}{x1:Nat}{tp:ai}(f1 f2:Bool)(a b z TI TO i1 i2:Addr)(zr:vG z TI TO i1 i2):
  qD P w K (.Tuple elts x1 tp) (To K f1 a f2 b) [z,TI,TO,i1,i2] z (λi h=>ia h z TI TO .none/\dk h TI (.ref i1) (.ref i2)/\(∃u v,dk h TO u v)/\lM f1 i1 a i h/\lM f2 i2 b i h) where
 mem:=by simp
 obj:=λi h st c hc=>by
  obtain⟨e1,e2,⟨u,v,e3⟩,e4,e5⟩:=st;simp at hc;rcases hc with q |q |q |q |q
  .subst q
   exact⟨_,e1,λv z=>nomatch z⟩
  .subst q
   exact⟨_,e2,λv z=>nomatch z⟩
  .subst q
   exact⟨_,e3,λv z=>nomatch z⟩
  .subst q
   exact e4.obj
  .subst q
   exact e5.obj
 keep:=λi h h' st k=>by
  obtain⟨e1,e2,⟨u,v,e3⟩,e4,e5⟩:=st;exact⟨k z (by simp) _ e1,k TI (by simp) _ e2,⟨u,v,k TO (by simp) _ e3⟩,e4.keep λo q=>k i1 (by simp) o q,e5.keep λo q=>k i2 (by simp) o q⟩
 item:=by
  intro X hP hw hK hc i AM s σ H E I hf st hg;subst hP hw hK;obtain⟨xs,ys,x,y,hx,hy,ex,ey⟩:=hg;obtain⟨its,r1,p1,_⟩:=I.seqF hx;obtain⟨jts,r2,p2,_⟩:=I.seqF hy;obtain⟨ux,gx,rx⟩:=r1.get ex;obtain⟨uy,gy,ry⟩:=r2.get ey;obtain⟨e1,e2,⟨u,v,e3⟩,e4,e5⟩:=st;have na:∀c∈[z,TI,TO,i1,i2],a≠c:=λc hc=>I.apart (hf c hc) hx;have nb:∀c∈[z,TI,TO,i1,i2],b≠c:=λc hc=>I.apart (hf c hc) hy;have hd:X.A.in1.handled=none:=I.ok.hd hc;have D1:=uJ (prog:=X.prog) (w:=X.w) f1 hd i1 a (na i1 (by simp)) its.toArray;have D2:=uJ (prog:=X.prog) (w:=X.w) f2 hd i2 b (nb i2 (by simp)) jts.toArray;refine Xp D1 D2 (zr.ap na nb) e1 e2 e3 ⟨e4,p1⟩ ⟨e5,p2⟩ (ck.mp gx).1 (ck.mp gy).1 λh1 tk vx vy px py q1 q2 q3 q4 q5 k1=>⟨_,rfl,?_⟩;have ex':vx=ux:=by
   have:its[i]?=some vx:=by simpa using px
   rw[gx]at this;exact(cg this).symm
  have ey':vy=uy:=by
   have:jts[i]?=some vy:=by simpa using py
   rw[gy]at this;exact(cg this).symm
  subst ex' ey';have lt:∀c∈[z,TI,TO,i1,i2],c≠s.heap.objs.size:=λc hc=>by
   have:∃o,s.heap.get? c=some o:=by
    simp at hc;rcases hc with q |q |q |q |q
    .exact⟨_,q▸e1⟩
    .exact⟨_,q▸e2⟩
    .exact⟨_,q▸e3⟩
    .obtain⟨o,ho,_⟩:=e4.obj
     exact⟨o,q▸ho⟩
    .obtain⟨o,ho,_⟩:=e5.obj
     exact⟨o,q▸ho⟩
   obtain⟨o,ho⟩:=this;exact dq (bi ho)
  refine wpAny_letOwnedTupleGo_zip (s:={s with heap:=h1,toks:=tk}) q1 λh2 z2 sb2=>?_;have t2:h2.get? s.heap.objs.size=some {cls:=.type "tuple",data:=.seq #[vx,vy]}:=(sb2.2 _ (lt z (by simp)).symm).trans q5;have I2:aH X AM σ (bA H s.heap.objs.size (.tup [x,y])) {s with heap:=h2,toks:=tk}:=
   I.turnedNew hf (λc o hc q=>(sb2.2 c (λe=>hc (by simp[e]))).trans (k1 c o (λe=>hc (by simp[e])) (λe=>hc (by simp[e])) (λe=>hc (by simp[e])) (λe=>hc (by simp[e])) q)) (ar _)
    ⟨⟨by show 2<=sizeLine;decide,_,t2,rfl⟩,[vx,vy],.cons rx (.cons ry .nil),⟨_,t2,rfl,_,rfl⟩⟩
  refine⟨.ref s.heap.objs.size,_,I2,rfl,⟨_,x,y,I.hok.fresh (ar _),rfl,rfl,λzs hz=>by rw[I.seqF_inj hz hx];exact ex,λzs hz=>by rw[I.seqF_inj hz hy];exact ey⟩,
   ⟨z2,(sb2.2 _ zr.tiz).trans (k1 _ _ zr.tiz zr.tito zr.ti1 zr.ti2 e2),⟨_,_,(sb2.2 _ zr.toz).trans q2⟩,q3.1.keep λo q=>(sb2.2 _ zr.i1z).trans q,q4.1.keep λo q=>(sb2.2 _ zr.i2z).trans q⟩,λc hc=>?_⟩
  rw[bV (lt c hc)];exact(hf c hc).1
 done:=by
  intro X hP hw hK hc i AM s σ H E I hf st hg;subst hP hw hK;obtain⟨xs,ys,hx,hy,fin⟩:=hg;obtain⟨its,r1,p1,_⟩:=I.seqF hx;obtain⟨jts,r2,p2,_⟩:=I.seqF hy;have l1:=r1.length;have l2:=r2.length;obtain⟨e1,e2,⟨u,v,e3⟩,e4,e5⟩:=st;have na:∀c∈[z,TI,TO,i1,i2],a≠c:=λc hc=>I.apart (hf c hc) hx;have nb:∀c∈[z,TI,TO,i1,i2],b≠c:=λc hc=>I.apart (hf c hc) hy;have hd:X.A.in1.handled=none:=I.ok.hd hc;have D1:=uJ (prog:=X.prog) (w:=X.w) f1 hd i1 a (na i1 (by simp)) its.toArray;have D2:=uJ (prog:=X.prog) (w:=X.w) f2 hd i2 b (nb i2 (by simp)) jts.toArray;refine Bp D1 D2 (zr.ap na nb) e1 e2 e3 ⟨e4,p1⟩ ⟨e5,p2⟩ (by rw[au,au,<-l1,<-l2];exact fin) λh' tk k=>⟨rfl,?_⟩;exact I.turnedL hf λc o hc q=>k c o (λe=>hc (by simp[e])) (λe=>hc (by simp[e])) (λe=>hc (by simp[e])) (λe=>hc (by simp[e])) q
 self:=λ_ _ _ _ _ st h=>wpAny_pyIter_zip st.1 h
section
variable{X:Cx}{elts:List ag}{x1:Nat}{tp:ai}
def aaZ(K:ae)(tl:TA):TI:=λσ H R=>tl σ H λvs H1=>∃f1 a f2 b xs ys,vs=[.ref a,.ref b]/\iR f1 K H1 a xs/\iR f2 K H1 b ys/\R (To K f1 a f2 b) H1
theorem P4{l r:ag}{tl:TA}{p pos:ai}(hg:Gl X "zip")(hm:X.mg "zip"=none)(hl:PA X [l,r] tl)(hs:starEach [l,r] X.env=[(false,eval l X.env),(false,eval r X.env)]:=by rfl)(hs2:starEach [r] X.env=[(false,eval r X.env)]:=by rfl):
  PI X (.Tuple elts x1 tp) (.Call (.Name "zip" p) [l,r] [] pos) (aaZ X.K tl):=by
 intro AM s σ H R I h;refine Call_ (nJ I hg hm boot_zip (qd (bG (hl pos AM s σ H _ I h) λus s1 hq=>?_) (by rw[hs,hs2]) (by rw[hs2];rfl)));rcases hq with⟨vs,H1,I1,r1,q1⟩;obtain⟨f1,a,f2,b,xs,ys,rfl,hx,hy,q⟩:=q1;obtain⟨u,v,rfl,ru,rv⟩:=Qm r1;cases ru;cases rv;obtain⟨its,_,p1,_⟩:=I1.seqF hx;obtain⟨jts,_,p2,_⟩:=I1.seqF hy;refine Rp (Jn f1 a its.toArray) (Jn f2 b jts.toArray) (λh g=>g.keep λo z=>aw _ z) p1 p2 (Tg _ _) (Tg _ _) λh' e1 e2 e3 e4 e5 k=>?_;refine wpAny_pyIter_zip (s:={s1 with heap:=h'}) e1 ?_;have zr:vG (s1.heap.objs.size+4) (s1.heap.objs.size+2) (s1.heap.objs.size+3) s1.heap.objs.size (s1.heap.objs.size+1):=by
  generalize s1.heap.objs.size=n;have g:∀i j:Nat,i≠j->((n:Nat)+i:Nat)≠n+j:=λi j h=>by omega
  exact⟨g 2 4 (by decide),g 3 4 (by decide),g 0 4 (by decide),g 1 4 (by decide),g 2 3 (by decide),g 2 0 (by decide),g 2 1 (by decide),g 3 0 (by decide),g 3 1 (by decide),g 0 1 (by decide)⟩
 refine⟨_,[s1.heap.objs.size+4,s1.heap.objs.size+2,s1.heap.objs.size+3,s1.heap.objs.size,s1.heap.objs.size+1],_,_,H1,rfl,I1.kept (t':=s1.toks) k,Ru f1 f2 a b _ _ _ _ _ zr,⟨e1,e2,⟨_,_,e3⟩,Re f1 a _ e4,Re f2 b _ e5⟩,λc hc=>?_,q⟩;have hb:s1.heap.objs.size<=c:=by
  simp only[ci,ee,or_false]at hc;rcases hc with q |q |q |q |q
  all_goals rw[q]
  all_goals first |exact ar _ |exact Nat.le_add_right _ _
 exact I1.fpOk hb (I1.hok.fresh hb)
end
theorem L4(K:ae):og K (.type "int") (.type "bool")=some false:=by
 unfold og PySem.W.kitCls;rw[if_neg (by decide)];show(if PySem.W.kitMeta "bool"=true then PySem.W.subIn K (.type "int") (.type "bool")else none)=some false;rw[if_pos (by decide+kernel)];show(fastBuiltinMro "int").map (·.contains (.type "bool"))=some false;decide+kernel
structure lH(K:ae)(x qual:Str)(st:Stmt)(f:Addr)(fd:bj)(ds:Array Value):Prop where
 ex:∃(oc:Value)(od:AF)(T:Addr)(oT:Obj)(n:Nat)(kV doc pm:Value)(an:AF)(cdv ct:Value)(osl:Array AE),
  fd=dn x qual (fW st) (eC st) (cC st) (.ref T) kV doc pm an cdv ct/\K.lookup f=some ⟨oc,od,.func fd,osl⟩/\jt K cdv qual=true/\K.lookup T=some oT/\oT.data=.seq ds n
 kp:fg K (.ref f)=true
section
variable{P:Program}{w:aj}{K:ae}{mg:Str->AE}{base:Heap}
theorem lH.binds{x qual:Str}{st:Stmt}{f:Addr}{fd:bj}{ds:Array Value}{ps:List Str}{dd:AD}(F:lH K x qual st f fd ds)
  (h:∀(T:Addr)(kV doc pm:Value)(an:AF)(cdv ct:Value)(us:AD),(us++dd).length=ps.length->
   ∃k,bindArgs (dn x qual (fW st) (eC st) (cC st) (.ref T) kV doc pm an cdv ct) ⟨us,[]⟩=seqItems? (.ref T) >>= k/\k (some ds)=pure (ps.zip (us++dd))):iM K fd ps dd:=by
 obtain⟨oc,od,T,oT,n,kV,doc,pm,an,cdv,ct,osl,rfl,lk,hcd,lT,hT⟩:=F.ex;intro s us hK hl;obtain⟨k,h1,h2⟩:=h T kV doc pm an cdv ct us hl;exact PySem.W.binds_K hK rfl lT hT h1 h2
theorem Vi{x qual:Str}{st:Stmt}{f T:Addr}{oT:Obj}{n:Nat}{ds:Array Value}{oc:Value}{od an:AF}{osl:Array AE}{kV doc pm cdv ct:Value}(l:K.lookup f=some ⟨oc,od,.func (dn x qual (fW st) (eC st) (cC st) (.ref T) kV doc pm an cdv ct),osl⟩)
  (c:jt K cdv qual=true)(k:fg K (.ref f)=true)(lT:K.lookup T=some oT)(hT:oT.data=.seq ds n):lH K x qual st f (dn x qual (fW st) (eC st) (cC st) (.ref T) kV doc pm an cdv ct) ds:=
 ⟨⟨oc,od,T,oT,n,kV,doc,pm,an,cdv,ct,osl,rfl,l,c,lT,hT⟩,k⟩
end
theorem Wl{X:Cx}{sc:Scope}{own:List Str}{cap:List (Nat×Str)}(so:Scope)(N:List Str)(hso:X.env.scope=so)(hN:X.N=N)(kind:sc.kind=.function)(names:∀y∈sc.names,y.2=.local->sc.names.lookup y.1=some .local)
  (nocell:∀y∈sc.names,y.2≠.cell)(free:∀y∈sc.names,y.2=.free->so.names.lookup y.1=some .cell)(at':∀p∈cap,N[p.1]?=some p.2)(hcap:∀p∈cap,sc.names.lookup p.2=some .free):iB X sc own cap:=
 ⟨kind,names,nocell,λy hy e=>by show X.env.scope.names.lookup y.1=_;rw[hso];exact free y hy e,λp hp=>by rw[hN];exact at' p hp,hcap⟩
theorem yK(n d:Nat):HT.sIx (n+1) d (some (-1))=n:=by
 unfold HT.sIx;simp;omega
section
variable{X:Cx}
end
theorem fK.has{P:Program}{w:aj}{H:Hp}{h:Heap}{a:Addr}{o:HO}(x:fK P w H h a o):∃u,h.get? a=some u:=by
 cases o with
 |lst xs=>obtain⟨_,_,_,_,e⟩:=x;exact⟨_,e⟩
 |tup xs=>obtain⟨_,_,_,u,e,_⟩:=x;exact⟨u,e⟩
 |dK kvs=>obtain⟨_,_,_,_,o,_,_,e,_⟩:=x;exact⟨_,e⟩
 |dT kvs=>obtain⟨_,_,_,_,o,_,_,e,_⟩:=x;exact⟨_,e⟩
 |set S n=>obtain⟨o,_,_,_,e,_⟩:=x;exact⟨_,e⟩
 |ins C dx fs=>obtain⟨_,_,_,e,_⟩:=x;exact⟨_,e⟩
 |own y=>exact x
 |xd fs=>obtain⟨_,⟨_,_,_,e,_⟩,_⟩:=x;exact⟨_,e⟩
 |rng lo hi=>obtain⟨_,_,_,e⟩:=x;exact⟨_,e⟩
 |frz ob u=>obtain⟨e,_⟩:=x;exact⟨_,e⟩
 |tbl ps=>exact⟨_,show h.get? a=some _ from x⟩
 |met f y=>exact⟨_,show h.get? a=some _ from x⟩
 |ext φ=>exact x.2.1
abbrev kA:AD:=[.type "ValueError",.type "Exception",.type "BaseException",.type "object"]
theorem Ey{K:ae}{h:Heap}{C:Addr}{bmB:AD}{newId:String}(X:K.In h)(q:ja K C bmB newId=true):
  ∃bm N nm qn bs hdct sn sub ab col dd k0 k1 k2 k3 k5 mN,h.get? C=some (excClassObj nm qn C N bs bm hdct sn sub ab col dd k0 k1 k2 k3 k5 newId)/\h.Ns N mN/\mN "__init__"=none/\OwnTail h bmB bm:=by
 unfold ja at q;split at q
 .rename_i dd cd sl ho
  split at q
  .rename_i C' bm k0 k1 k2 k3 n k5 hm hs
   simp only[iu,beq_iff_eq,a7]at q;obtain⟨⟨⟨⟨⟨z1,z2⟩,hdel⟩,ht⟩,hok⟩,hni⟩:=q;subst z1 z2;obtain⟨nm,bs,mro,ns,qn,hd,sn,sub,ab,col,del⟩:=cd;dsimp only at hm hdel hok hni;subst hm hdel;have hsl:sl=#[k0,k1,k2,k3,some (.builtin n),k5]:=by
    obtain⟨l⟩:=sl;simp only at hs;rw[hs]
   subst hsl;refine⟨bm,ns,nm,qn,bs,hd,sn,sub,ab,col,dd,k0,k1,k2,k3,k5,_,X _ _ ho,.of_isNs (PySem.W.isNs_of_in X hok),PySem.W.nsMap_none_of_in X hok hni,PySem.W.tail_of_in X ht⟩
  .cases q
 .cases q
def dG(P:Program)(w:aj):iQ:=λouter H s E e s'=>∃(x C t:Addr)(B:Heap)(H':Hp),e=.ref x/\s'.os=s.os/\ji s'.gens/\Un (dM outer) [] H H' s.heap s'.heap/\eX P w H' s'.heap/\
 Heap.FlyingW B outer x (.ref C) (.ref t) s'.heap/\(∀b o,s'.heap.get? b=some o->(∃u,H' b=some u)\/(∃o',s.heap.get? b=some o'/\b∉dM outer)->B.get? b=some o)/\E (.ref C) none H'
theorem Uv{P:Program}{w:aj}{K:ae}{mg:Str->AE}{base:Heap}{N:List Str}{qual:Str}{scope:Scope}{f:Addr}{cd:Value}{A:al}{outer:List ay}{AN:aa}{AO:Hp}{E:XK}
  {x:Str}{C:Addr}{txt:Str}{j:Nat}{np p1 cpos pos:ai}(hg:Gl (cM (dG P w) P w K mg base N qual scope f cd A outer AN AO E) x)(hm:mg x=some (.ref C))(hx:ja K C kA "ValueError.__new__"=true)
  (hd:(x==("__debug__":Str))=false:=by decide):
  PS (cM (dG P w) P w K mg base N qual scope f cd A outer AN AO E) (.Raise (some (.Call (.Name x np) [.Constant (.str txt) j p1] [] cpos)) none pos) (λ_ _ H=>E (.ref C) none H):=by
 intro AM s σ H D I h;obtain⟨bm,Nn,nm,qn,bs,hdct,sn,sub,ab,col,dd,k0,k1,k2,k3,k5,mN,hC,hN,hni,T⟩:=Ey I.ok.mod.kin hx;refine wpAny_Raise_call_subT (C:=C) (nm:=nm) (q:=qn) (N:=Nn) (bs:=bs) (bm:=bm) (hdct:=hdct) (sn:=sn) (sub:=sub) (ab:=ab) (col:=col) (dd:=dd) (k0:=k0) (k1:=k1) (k2:=k2) (k3:=k3) (k5:=k5)
  PySem.F.excBase_ValueError (mN:=mN) (T.hasType (by decide)) (I.ok.hd rfl) rfl hni (Pj I hg hm ⟨rfl,?_⟩ hd)
 refine yy (bG ((pA M5 rF) cpos AM s σ H (λvs H1=>vs=[.str txt]/\H1=H) I ⟨rfl,rfl⟩) λus s2 q2=>?_);obtain⟨vs,H2,I2,r2,rfl,rfl⟩:=q2;have l2:=r2.length;refine⟨rfl,by rw[<-l2];show 1<=sizeLine;decide,I2.bk _ _ hC,hN.keeps I2.bk,T.keeps I2.bk,λh' e made=>?_⟩
 --the frame is left
 have stk:(cM (dG P w) P w K mg base N qual scope f cd A outer AN AO E).stack=envOfC qual scope AN.heap.objs.size f cd::outer:=rfl;have nfr:∀{b u},H2 b=some u->b∉dM (envOfC qual scope AN.heap.objs.size f cd::outer):=λ{b u} q z=>by
  rw[I2.stkFree b z]at q;cases q
 have nL:∀{b o},AN.heap.get? b=some o->b∉dM outer->b∉dM (envOfC qual scope AN.heap.objs.size f cd::outer):=λ{b o} q z y=>by
  rcases ci.mp (I2.stkSub b y)with g |g
  .exact absurd (df (bi q) I2.ok.above) (by rw[g];exact jd _)
  .exact z g
 refine wpAny_leaves_madeW (base:=uj s2.heap (dM (envOfC qual scope AN.heap.objs.size f cd::outer))) (h:=s2.heap) (s:={s2 with heap:=h'}) I2.ok.frames rfl (λb o q=>yd _ q)
  (PySem.W.funFrames_hide I2.stack λenv he b hb=>uq.mpr ⟨env,he,hb⟩) made λh'' t fl tup nb ups=>?_
 have keepB:∀b o,s2.heap.get? b=some o->b∉dM (envOfC qual scope AN.heap.objs.size f cd::outer)->h''.get? b=some o:=λb o q z=>fl.1 b o (uk _ q z);have upS:∀b o,s2.heap.get? b=some o->(∀vs,o.data≠.fields vs)->∃sl,h''.get? b=some {o with slots:=sl}:=λb o q z=>ups b o (made.keeps b o q) z;refine⟨e,C,t,_,H2,rfl,I2.os,I2.bare,⟨λb o q n hb _=>?_,λb o q n hb _=>?_,λb o q n _=>I2.base.free b o q n (by intro z;cases z),λb o q _=>?_,I2.base.tups,I2.base.frzs,I2.base.tbls⟩,λb u q=>?_,fl,λb o q z=>?_,h⟩
 .exact keepB b o (I2.base.keep b o q n hb (by intro z;cases z)) (nL q hb)
 .obtain⟨sl,g⟩:=I2.base.slot b o q n hb (by intro z;cases z)
  obtain⟨_,o',ho',hd'⟩:=I2.ok.funs.mem hb;have eo:o'=o:=by
   have ho2:AN.heap.get? b=some o':=ho';rw[q]at ho2;exact(cg ho2).symm
  subst eo;obtain⟨sl',g'⟩:=upS b _ g hd';exact⟨sl',g'⟩
 .obtain⟨o',g⟩:=I2.base.there b o q (by intro z;cases z)
  by_cases c:b∈dM (envOfC qual scope AN.heap.objs.size f cd::outer)
  .obtain⟨_,o2,ho2,hd2⟩:=I2.stack.mem c
   obtain⟨sl,g'⟩:=upS b o2 ho2 hd2;exact⟨_,g'⟩
  .exact⟨o',keepB b o' g c⟩
 .refine(I2.hok b u q).stay (λc v hc g=>keepB c v g ?_) (λ_ g=>g) λ_ _ g=>g
  rcases hc with z |z
  .rw[z]
   exact nfr q
  .exact nfr z
 .have go:∀{o2},s2.heap.get? b=some o2->b∉dM (envOfC qual scope AN.heap.objs.size f cd::outer)->(uj s2.heap (dM (envOfC qual scope AN.heap.objs.size f cd::outer))).get? b=some o:=λ{o2} g n=>by
   have:=keepB b o2 g n;have q':h''.get? b=some o:=q;rw[q']at this;cases this;exact uk _ g n
  rcases z with⟨u,z⟩|⟨o',z,nz⟩
  .obtain⟨o2,g⟩:=(I2.hok b u z).has
   exact go g (nfr z)
  .obtain⟨o2,g⟩:=I2.base.there b o' z (by intro z;cases z)
   exact go g (nL z nz)
section
variable{X:Cx}{AM:List (Addr×Obj)}{σ:St}{H H':Hp}{s s':aa}
theorem aH.flown{B h5:Heap}(I:aH X AM σ H s)(os:s'.os=s.os)(bare:ji s'.gens)(un:Un (dM X.stack) [] H H' s.heap s'.heap)(hok:eX X.prog X.w H' s'.heap)
  (cov:∀b o,s'.heap.get? b=some o->(∃u,H' b=some u)\/(∃o',s.heap.get? b=some o'/\b∉dM X.stack)->B.get? b=some o)(fr:∀b∈dM X.stack,H' b=none)
  (st:B.StaysIn h5)(up:s'.heap.UpToSlots h5):aH X AM σ H' {s' with heap:=h5}:=by
 have nofr:∀{b u},H' b=some u->b∉dM X.stack:=λ{b u} q z=>by
  rw[fr b z]at q;cases q
 have frame:∀b∈dM X.stack,∃o sl,s.heap.get? b=some o/\H b=none/\h5.get? b=some {o with slots:=sl}:=λb hb=>by
  obtain⟨_,o,ho,hd⟩:=I.stack.mem hb;have hn:=I.stkFree b hb;obtain⟨sl,g⟩:=un.slot b o ho hn hb (by intro z;cases z);obtain⟨sl',g'⟩:=up b _ g hd;exact⟨o,sl',ho,hn,g'⟩
 refine I.call' (s':={s' with heap:=h5}) (ch:=[]) os ⟨λb o q n hb _=>?_,λb o q n hb _=>?_,un.free,λb o q _=>?_,un.tups,un.frzs,un.tbls⟩ (λb u q=>?_) bare λb z=>nomatch z
 .exact st b o (cov b o (un.keep b o q n hb (by intro z;cases z)) (.inr ⟨o,q,hb⟩))
 .obtain⟨o',sl,g1,_,g2⟩:=frame b hb
  rw[q]at g1;cases g1;exact⟨sl,g2⟩
 .by_cases c:b∈dM X.stack
  .obtain⟨o',sl,_,_,g2⟩:=frame b c
   exact⟨_,g2⟩
  .obtain⟨o',g⟩:=un.there b o q (by intro z;cases z)
   exact⟨o',st b o' (cov b o' g (.inr ⟨o,q,c⟩))⟩
 .refine(hok b u q).stay (λc v hc g=>st c v (cov c v g (.inl ?_))) (λ_ g=>g) λ_ _ g=>g
  rcases hc with z |z
  .exact⟨u,by rw[z];exact q⟩
  .exact⟨_,z⟩
end
section
variable{X:Cx}{k:Nat}{f:Addr}{fd:bj}{ps:List Str}{sp:Sp}{dvs:List V}{ds:AD}{E:XK}{x:Str}{p pos:ai}{e:ag}{es:List ag}{t:TA}
end
section
variable{P:Program}{w:aj}{K:ae}{mg:Str->AE}{base:Heap}{CX:iQ}
theorem iG.okX{x qual:Str}{st:Stmt}{f:Addr}{fd:bj}{N ps:List Str}{k:Nat}{sp:Sp}(F:iG K x qual st f fd)(S:gZ N ps (cC st))(len:∀vs H Q E,sp vs H Q E->vs.length=ps.length)
  (hbody:∀(cdv:Value)(A:al)(outer:List ay)(s:aa)(H:Hp)(vs:List V)(Q:VK)(E:XK),dI k (A.deeper (envOfC qual (cC st) s.heap.objs.size f cdv))->sp vs H Q E->
   ∃t,fQ (cM CX P w K mg base N qual (cC st) f cdv A outer s H E) (eC st) t/\t {nx:=λ_ H'=>Q .non H',rt:=Q} (start N vs) H):eA P w K mg base CX (k+1) f fd ps sp:=by
 obtain⟨oc,od,kV,doc,pm,an,cdv,ct,osl,rfl,lk,hcd⟩:=F.ex;exact Sa lk hcd S len λA outer s H vs Q E hr hsp=>hbody cdv A outer s H vs Q E hr hsp
theorem lH.okX{x qual:Str}{st:Stmt}{f:Addr}{fd:bj}{ds:Array Value}{N ps:List Str}{k:Nat}{sp:Sp}(F:lH K x qual st f fd ds)(S:gZ N ps (cC st))(len:∀vs H Q E,sp vs H Q E->vs.length=ps.length)
  (hbody:∀(cdv:Value)(A:al)(outer:List ay)(s:aa)(H:Hp)(vs:List V)(Q:VK)(E:XK),dI k (A.deeper (envOfC qual (cC st) s.heap.objs.size f cdv))->sp vs H Q E->
   ∃t,fQ (cM CX P w K mg base N qual (cC st) f cdv A outer s H E) (eC st) t/\t {nx:=λ_ H'=>Q .non H',rt:=Q} (start N vs) H):eA P w K mg base CX (k+1) f fd ps sp:=by
 obtain⟨oc,od,T,oT,n,kV,doc,pm,an,cdv,ct,osl,rfl,lk,hcd,_,_⟩:=F.ex;exact Sa lk hcd S len λA outer s H vs Q E hr hsp=>hbody cdv A outer s H vs Q E hr hsp
end
theorem T5{P:Program}{w:aj}{K:ae}{mg:Str->AE}{base:Heap}{N:List Str}{qual:Str}{scope:Scope}{f:Addr}{cd:Value}{A:al}{outer:List ay}{AN:aa}{AO:Hp}{E:XK}:
  uI (dG P w) (cM (dG P w) P w K mg base N qual scope f cd A outer AN AO E) E:=by
 intro AM σ H s e s' I c;obtain⟨x,C,t,B,H',rfl,os,bare,un,hok,fl,cov,hE⟩:=c;have fr:∀b∈dM (cM (dG P w) P w K mg base N qual scope f cd A outer AN AO E).stack,H' b=none:=λb hb=>by
  obtain⟨_,o,ho,hd⟩:=I.stack.mem hb;exact un.free b o ho (I.stkFree b hb) (by intro z;cases z)
 have nL:∀{b o},AN.heap.get? b=some o->b∉dM outer->b∉dM (envOfC qual scope AN.heap.objs.size f cd::outer):=λ{b o} q z y=>by
  rcases ci.mp (I.stkSub b y)with g |g
  .exact absurd (df (bi q) I.ok.above) (by rw[g];exact jd _)
  .exact z g
 refine wpAny_leaves_onW (base:=B) I.ok.frames rfl fl λh' fl' up=>?_;have I5:=I.flown os bare un hok cov fr fl'.1 up;refine⟨x,C,t,B,H',rfl,os.trans I.os,bare,I5.base,I5.hok,fl',λb o q z=>?_,hE⟩;have go:∀{o2},B.get? b=some o2->B.get? b=some o:=λ{o2} g=>by
  have:=fl'.1 b o2 g;have q':h'.get? b=some o:=q;rw[q']at this;cases this;exact g
 rcases z with⟨u,z⟩|⟨o',z,nz⟩
 .obtain⟨o2,g⟩:=(hok b u z).has
  exact go (cov b o2 g (.inl ⟨u,z⟩))
 .obtain⟨o2,g⟩:=I.base.there b o' z (by intro z;cases z)
  obtain⟨o3,g3⟩:=un.there b o2 g (by intro z;cases z);exact go (cov b o3 g3 (.inr ⟨o2,g,nL z nz⟩))
section
variable{X:Cx}{AM:List (Addr×Obj)}{σ:St}{H:Hp}{s:aa}
end
section
variable{X:Cx}{AM:List (Addr×Obj)}{σ:St}{H:Hp}{s:aa}
end
section
variable{X:Cx}{k:Nat}{f:Addr}{fd:bj}{ps:List Str}{sp:Sp}{dvs:List V}{ds:AD}{x:Str}{p pos pos1 pos2 pos3 pc:ai}{e:ag}{es:List ag}{t:TA}{c n:Str}{C:Addr}{i:Nat}{AS:Stmt}{body:List Stmt}{newId:String}
end
open PySem.W PySem.Calls PySem.Builtin PySem.Builtin.Getset_descriptor
section
variable{prog:Program}{w:aj}{A:al}{E:Value->aa->Prop}{s:aa}{K:ae}{x D:Addr}{B:String}{R:qg->aa->Prop}
end
section
variable{X:Cx}{y D:Addr}{oe:Obj}
end
def hF(l:AA):Int:=reduceHash (a8 (l.map hashInt))
def hN(l:AB):Int:=reduceHash (a8 (l.map hF))
section
variable{prog:Program}{w:aj}{A:al}{E:Value->aa->Prop}{s:aa}{h h':Heap}{a b d:Addr}
end
def qA:Bool->Type
 |false=>AA
 |true=>AB
instance decK:(n:Bool)->DecidableEq (qA n)
 |false=>inferInstanceAs (DecidableEq AA)
 |true=>inferInstanceAs (DecidableEq AB)
def R1:(n:Bool)->qA n->Int
 |false=>hF
 |true=>hN
end L2
namespace L2.Pp
open PySem PySem.Spec PyProof.Rows Bn
section
inductive PV where
 |non |bl (b:Bool) |int (i:Int) |str (x:Str) |tup (xs:List PV) |lst (xs:List PV)
abbrev AH:=List PV
abbrev AI:=Option PV
inductive SO where
 |lst (xs:AH)
 |lol (xss:List AH)
 |dic (n:Bool) (kvs:List (PV×PV))
 |dol (n:Bool) (kvs:List (PV×AH))
abbrev aG:=List SO
inductive AV where
 |pv (v:PV) |ref (k:Nat)
abbrev AJ:=Option AV
abbrev AK:=List AV
abbrev bR:=List AJ
inductive bO(α:Type) where
 |ok (a:α) (S:aG) |exc (n:Str) (S:aG) |fail
def bO.bind{α β:Type}(r:bO α)(k:α->aG->bO β):bO β:=match r with
 |.ok a S=>k a S
 |.exc n S=>.exc n S
 |.fail=>.fail
inductive cF where
 |nx (ρ:bR) (S:aG) |rt (v:AV) (S:aG) |bk (ρ:bR) (S:aG) |ct (ρ:bR) (S:aG) |exc (n:Str) (S:aG) |fail
def jT(K:ae)(c:Addr->Prop)(H:Hp)(a:Addr)(vs:List V):Prop:=
 (H a=some (.lst vs)/\¬c a)\/(∃o,H a=some (.frz o (.lst vs)))\/
  ∃(o:Obj)(its:Array Value)(n:Nat),K.lookup a=some o/\o.cls=.type "list"/\o.dict=none/\o.data=.seq its n/\its.size<=sizeLine/\bC vs its.toList
theorem jT.sq{K:ae}{c:Addr->Prop}{H:Hp}{a:Addr}{vs:List V}(h:jT K c H a vs):bT K H a vs:=by
 rcases h with h |h |h
 .exact .inl (.inl h.1)
 .exact .inl (.inr h)
 .exact .inr h
mutual
def aU(K:ae)(c:Addr->Prop)(H:Hp):PV->V->Prop
 |.non,x=>x=.non
 |.bl b,x=>x=.bl b
 |.int i,x=>x=.int i
 |.str s,x=>x=.str s
 |.tup xs,x=>∃a vs,x=.ref a/\dA K H a vs/\vs.length<=sizeLine/\aQ K c H xs vs
 |.lst xs,x=>∃a vs,x=.ref a/\jT K c H a vs/\vs.length<=sizeLine/\aQ K c H xs vs
def aQ(K:ae)(c:Addr->Prop)(H:Hp):AH->List V->Prop
 |[],vs=>vs=[]
 |p::ps,vs=>∃v r,vs=v::r/\aU K c H p v/\aQ K c H ps r
end
section
variable{K:ae}{c c':Addr->Prop}{H H':Hp}
mutual
theorem aU.mono(hT:∀a vs,dA K H a vs->dA K H' a vs)(hL:∀a vs,jT K c H a vs->jT K c' H' a vs):∀(v:PV)(x:V),aU K c H v x->aU K c' H' v x
 |.non,x,h=>h
 |.bl b,x,h=>h
 |.int i,x,h=>h
 |.str s,x,h=>h
 |.tup xs,x,h=>by
  unfold aU at h⊢;obtain⟨a,vs,e,t,z,r⟩:=h;exact⟨a,vs,e,hT a vs t,z,aQ.mono hT hL xs vs r⟩
 |.lst xs,x,h=>by
  unfold aU at h⊢;obtain⟨a,vs,e,t,z,r⟩:=h;exact⟨a,vs,e,hL a vs t,z,aQ.mono hT hL xs vs r⟩
theorem aQ.mono(hT:∀a vs,dA K H a vs->dA K H' a vs)(hL:∀a vs,jT K c H a vs->jT K c' H' a vs):∀(v:AH)(x:List V),aQ K c H v x->aQ K c' H' v x
 |[],vs,h=>by
  unfold aQ at h⊢;exact h
 |p::ps,vs,h=>by
  unfold aQ at h⊢;obtain⟨v,r,e,h1,h2⟩:=h;exact⟨v,r,e,aU.mono hT hL p v h1,aQ.mono hT hL ps r h2⟩
end
theorem aQ.length:∀{xs:AH}{vs:List V},aQ K c H xs vs->xs.length=vs.length
 |[],vs,h=>by
  unfold aQ at h;rw[h];rfl
 |p::ps,vs,h=>by
  unfold aQ at h;obtain⟨v,r,rfl,_,h2⟩:=h;rw[db,db,aQ.length h2]
theorem aQ.get:∀{xs:AH}{vs:List V}{i:Nat}{p:PV},aQ K c H xs vs->xs[i]?=some p->∃v,vs[i]?=some v/\aU K c H p v
 |[],vs,i,p,h,e=>by simp at e
 |q::ps,vs,0,p,h,e=>by
  unfold aQ at h;obtain⟨v,r,rfl,h1,_⟩:=h;simp at e;subst e;exact⟨v,rfl,h1⟩
 |q::ps,vs,i+1,p,h,e=>by
  unfold aQ at h;obtain⟨v,r,rfl,_,h2⟩:=h;obtain⟨u,e1,e2⟩:=aQ.get (i:=i) h2 (by simpa using e);exact⟨u,by simpa using e1,e2⟩
theorem aQ.nil:aQ K c H [] []:=by
 unfold aQ;rfl
theorem aQ.cons{p:PV}{v:V}{ps:AH}{vs:List V}(h:aU K c H p v)(t:aQ K c H ps vs):aQ K c H (p::ps) (v::vs):=by
 unfold aQ;exact⟨v,vs,rfl,h,t⟩
theorem aQ.append:∀{xs ys:AH}{vs ws:List V},aQ K c H xs vs->aQ K c H ys ws->aQ K c H (xs++ys) (vs++ws)
 |[],ys,vs,ws,h,g=>by
  unfold aQ at h;subst h;exact g
 |p::ps,ys,vs,ws,h,g=>by
  unfold aQ at h;obtain⟨v,r,rfl,h1,h2⟩:=h;exact .cons h1 (h2.append g)
theorem aQ.drop:∀{xs:AH}{vs:List V}(n:Nat),aQ K c H xs vs->aQ K c H (xs.drop n) (vs.drop n)
 |xs,vs,0,h=>by simpa using h
 |[],vs,n+1,h=>by
  unfold aQ at h;subst h;simpa using aQ.nil
 |p::ps,vs,n+1,h=>by
  unfold aQ at h;obtain⟨v,r,rfl,_,h2⟩:=h;simpa using h2.drop n
theorem aQ.take:∀{xs:AH}{vs:List V}(n:Nat),aQ K c H xs vs->aQ K c H (xs.take n) (vs.take n)
 |xs,vs,0,h=>by simpa using aQ.nil
 |[],vs,n+1,h=>by
  unfold aQ at h;subst h;simpa using aQ.nil
 |p::ps,vs,n+1,h=>by
  unfold aQ at h;obtain⟨v,r,rfl,h1,h2⟩:=h;simpa using aQ.cons h1 (h2.take n)
theorem aQ.eraseIdx:∀{xs:AH}{vs:List V}(n:Nat),aQ K c H xs vs->aQ K c H (xs.eraseIdx n) (vs.eraseIdx n)
 |[],vs,n,h=>by
  unfold aQ at h;subst h;simpa using aQ.nil
 |p::ps,vs,0,h=>by
  unfold aQ at h;obtain⟨v,r,rfl,h1,h2⟩:=h;simpa using h2
 |p::ps,vs,n+1,h=>by
  unfold aQ at h;obtain⟨v,r,rfl,h1,h2⟩:=h;simpa using aQ.cons h1 (h2.eraseIdx n)
theorem aQ.set{p:PV}{v:V}(g:aU K c H p v):∀{xs:AH}{vs:List V}(n:Nat),aQ K c H xs vs->aQ K c H (xs.set n p) (vs.set n v)
 |[],vs,n,h=>by
  unfold aQ at h;subst h;simpa using aQ.nil
 |q::ps,vs,0,h=>by
  unfold aQ at h;obtain⟨v,r,rfl,h1,h2⟩:=h;simpa using aQ.cons g h2
 |q::ps,vs,n+1,h=>by
  unfold aQ at h;obtain⟨v,r,rfl,h1,h2⟩:=h;simpa using aQ.cons h1 (aQ.set g n h2)
end
structure Ph where
 f:List Addr
 w:Addr->Prop
 c:Addr->Prop
def uW(K:ae)(c:Addr->Prop)(H:Hp)(xss:List AH)(bs:List Addr):Prop:=
 xss.length=bs.length/\∀(i:Nat)(xs:AH)(b:Addr),xss[i]?=some xs->bs[i]?=some b->∃vs,H b=some (.lst vs)/\vs.length<=sizeLine/\aQ K c H xs vs
def aaD:(n:Bool)->qA n->PV
 |false,l=>.tup (List.map PV.int l)
 |true,l=>.tup (List.map (λr:AA=>PV.tup (r.map PV.int)) l)
def oD(es:Array DictEntry)(ep:Nat):Obj:={cls:=.type "dict",data:=.dict es ep}
def dO(a:Addr)(es:Array DictEntry)(ep:Nat):HO:=.ext λh=>h.get? a=some (oD es ep)
def enK(n:Bool)(x:qA n×Addr×Value):DictEntry:=⟨R1 n x.1,.ref x.2.1,x.2.2⟩
def sK(K:ae)(c:Addr->Prop)(H:Hp)(a:Addr)(n:Bool)(ks:AH)(us:AD):Prop:=
 ∃(xs:List (qA n×Addr×Value))(ep:Nat),H a=some (dO a (xs.map (enK n)).toArray ep)/\(a==sysModules)=false/\xs.length<=sizeLine/\(xs.map (·.1)).Nodup/\ks=xs.map (λx=>aaD n x.1)/\aQ K c H ks (xs.map λx=>V.ref x.2.1)/\us=xs.map (·.2.2)
def qB(K:ae)(p:Ph)(H:Hp)(a:Addr):SO->Prop
 |.lst xs=>∃vs,H a=some (.lst vs)/\vs.length<=sizeLine/\aQ K p.c H xs vs
 |.lol xss=>∃bs:List Addr,H a=some (.lst (bs.map V.ref))/\bs.length<=sizeLine/\bs.Nodup/\(∀b∈bs,p.w b/\b∉p.f)/\uW K p.c H xss bs
 |.dic n kvs=>∃us vs,sK K p.c H a n (kvs.map (·.1)) us/\bC vs us/\aQ K p.c H (kvs.map (·.2)) vs
 |.dol n kvs=>∃bs:List Addr,sK K p.c H a n (kvs.map (·.1)) (bs.map ik)/\bs.Nodup/\(∀b∈bs,p.w b/\b∉p.f)/\uW K p.c H (kvs.map (·.2)) bs
theorem sK.mono{K:ae}{c c':Addr->Prop}{H H':Hp}{a:Addr}{n:Bool}{ks:AH}{us:AD}(h:sK K c H a n ks us)(ha:∀o,H a=some o->H' a=some o)(hR:∀xs vs,aQ K c H xs vs->aQ K c' H' xs vs):sK K c' H' a n ks us:=by
 obtain⟨xs,ep,e,z,l,nd,ek,r,eu⟩:=h;exact⟨xs,ep,ha _ e,z,l,nd,ek,hR _ _ r,eu⟩
theorem qB.mono{K:ae}{p p':Ph}{H H':Hp}{a:Addr}{o:SO}(h:qB K p H a o)(ha:∀o,H a=some o->H' a=some o)
  (hb:∀b,p.w b->b∉p.f->(p'.w b/\b∉p'.f)/\∀vs,H b=some (.lst vs)->H' b=some (.lst vs))(hR:∀xs vs,aQ K p.c H xs vs->aQ K p'.c H' xs vs):qB K p' H' a o:=by
 have lol:∀{xss:List AH}{bs:List Addr},(∀b∈bs,p.w b/\b∉p.f)->uW K p.c H xss bs->uW K p'.c H' xss bs:=λwf ⟨z,at_⟩=>⟨z,λi xs b e1 e2=>by
  obtain⟨vs,g1,g2,g3⟩:=at_ i xs b e1 e2;have m:=wf b (dz e2);exact⟨vs,(hb b m.1 m.2).2 vs g1,g2,hR xs vs g3⟩⟩
 cases o with
 |lst xs=>
  obtain⟨vs,e,l,r⟩:=h;exact⟨vs,ha _ e,l,hR xs vs r⟩
 |lol xss=>
  obtain⟨bs,e,l,nd,wf,z⟩:=h;exact⟨bs,ha _ e,l,nd,λb m=>(hb b (wf b m).1 (wf b m).2).1,lol wf z⟩
 |dic n kvs=>
  obtain⟨us,vs,d,v,r⟩:=h;exact⟨us,vs,d.mono ha hR,v,hR _ _ r⟩
 |dol n kvs=>
  obtain⟨bs,d,nd,wf,z⟩:=h;exact⟨bs,d.mono ha hR,nd,λb m=>(hb b (wf b m).1 (wf b m).2).1,lol wf z⟩
def Mb:HO->Prop
 |.lst _=>True
 |.dK _=>True
 |.dT _=>True
 |.ins _ _ _=>True
 |.ext _=>True
 |_=>False
structure aX(K:ae)(p:Ph)(S:aG)(H:Hp):Prop where
 nd:p.f.Nodup
 len:p.f.length=S.length
 sub:∀a∈p.f,p.w a
 wc:∀a,p.w a->p.c a
 mu:∀a,p.c a->∃o,H a=some o/\Mb o
 obj:∀(k:Nat)(a:Addr)(o:SO),p.f[k]?=some a->S[k]?=some o->qB K p H a o
structure bP(p:Ph)(H:Hp)(q:Ph)(H':Hp):Prop where
 wc:∀a,p.w a->p.c a
 mu:∀a,p.c a->∃o,H a=some o/\Mb o
 pre:p.f <+:q.f
 mw:∀a,p.w a->q.w a
 mono:∀a,p.c a->q.c a
 nf:∀a∈q.f,a∉p.f->H a=none
 nw:∀a,q.w a->¬p.w a->H a=none
 nc:∀a,q.c a->¬p.c a->H a=none
 keep:∀a o,H a=some o->¬p.w a->H' a=some o
def cU(K:ae)(p:Ph)(H:Hp):AV->V->Prop
 |.pv v,x=>aU K p.c H v x
 |.ref k,x=>∃a,p.f[k]?=some a/\x=.ref a
abbrev fX(K:ae)(p:Ph)(H:Hp):AK->List V->Prop:=ky (cU K p H)
structure dR(K:ae)(p:Ph)(H:Hp)(ρ:bR)(σ:St):Prop where
 len:ρ.length=σ.length
 at_:∀(i:Nat)(v:AV),ρ[i]?=some (some v)->∃x,σ[i]?=some (some x)/\cU K p H v x
section
variable{K:ae}{p q r:Ph}{H H' H'':Hp}{S:aG}
theorem aX.step(s:aX K p S H):bP p H p H:=⟨s.wc,s.mu,kb,λ_ h=>h,λ_ h=>h,λ_ h g=>absurd h g,λ_ h g=>absurd h g,λ_ h g=>absurd h g,λ_ _ h _=>h⟩
theorem bP.trans(a:bP p H q H')(b:bP q H' r H''):bP p H r H'':=by
 have back:∀x,H' x=none->¬p.w x->H x=none:=λx h n=>by
  cases e:H x with
  |none=>rfl
  |some o=>rw[a.keep x o e n]at h;cases h
 refine⟨a.wc,a.mu,a.pre.trans b.pre,λx h=>b.mw x (a.mw x h),λx h=>b.mono x (a.mono x h),λx h n=>?_,λx h n=>?_,λx h n=>?_,λx o e n=>?_⟩
 .by_cases m:x∈q.f
  .exact a.nf x m n
  .have hn:=b.nf x h m
   refine back x hn λz=>?_;obtain⟨o,ho,_⟩:=b.mu x (a.mono x (a.wc x z));rw[hn]at ho;cases ho
 .by_cases m:q.w x
  .exact a.nw x m n
  .exact back x (b.nw x h m) n
 .by_cases m:q.c x
  .exact a.nc x m n
  .exact back x (b.nc x h m) λz=>n (a.wc x z)
 .refine b.keep x o (a.keep x o e n) λz=>?_
  rw[a.nw x z n]at e;cases e
theorem bP.tup(s:bP p H q H'){a:Addr}{vs:List V}(h:dA K H a vs):dA K H' a vs:=by
 have go:∀o,H a=some o->¬Mb o->H' a=some o:=λo e n=>s.keep a o e λz=>by
  obtain⟨u,e',m⟩:=s.mu a (s.wc a z);rw[e]at e';cases e';exact n m
 rcases h with(h |⟨o,h⟩) |h
 .exact .inl (.inl (go _ h (λz=>z)))
 .exact .inl (.inr ⟨o,go _ h (λz=>z)⟩)
 .exact .inr h
theorem bP.lat(s:bP p H q H'){a:Addr}{vs:List V}(h:jT K p.c H a vs):jT K q.c H' a vs:=by
 rcases h with⟨h,n⟩|⟨o,h⟩|h
 .refine .inl ⟨s.keep a _ h λz=>n (s.wc a z),λz=>?_⟩
  rw[s.nc a z n]at h;cases h
 .refine .inr (.inl ⟨o,s.keep a _ h λz=>?_⟩)
  obtain⟨u,e',m⟩:=s.mu a (s.wc a z);rw[h]at e';cases e';exact m
 .exact .inr (.inr h)
theorem bP.rep(s:bP p H q H'){v:PV}{x:V}(h:aU K p.c H v x):aU K q.c H' v x:=aU.mono (λ_ _=>s.tup) (λ_ _=>s.lat) v x h
theorem bP.reps(s:bP p H q H'){v:AH}{x:List V}(h:aQ K p.c H v x):aQ K q.c H' v x:=aQ.mono (λ_ _=>s.tup) (λ_ _=>s.lat) v x h
theorem bP.at_(s:bP p H q H'){k:Nat}{a:Addr}(h:p.f[k]?=some a):q.f[k]?=some a:=by
 obtain⟨t,e⟩:=s.pre;rw[<-e,du (by
  have:=ck.mp h;exact this.1)]
 exact h
theorem bP.repA(s:bP p H q H'){v:AV}{x:V}(h:cU K p H v x):cU K q H' v x:=by
 cases v with
 |pv v=>exact s.rep h
 |ref k=>
  obtain⟨a,e,f⟩:=h;exact⟨a,s.at_ e,f⟩
theorem bP.repE(s:bP p H q H'){ρ:bR}{σ:St}(h:dR K p H ρ σ):dR K q H' ρ σ:=
 ⟨h.len,λi v e=>let⟨x,e1,e2⟩:=h.at_ i v e;⟨x,e1,s.repA e2⟩⟩
theorem aX.same(s:aX K p S H)(h:dH H H'):bP p H p H':=⟨s.wc,s.mu,kb,λ_ h=>h,λ_ h=>h,λ_ h g=>absurd h g,λ_ h g=>absurd h g,λ_ h g=>absurd h g,λa o e _=>h a o e⟩
theorem aX.ofSame(s:aX K p S H)(h:dH H H'):aX K p S H':=
 ⟨s.nd,s.len,s.sub,s.wc,λa m=>let⟨o,e,m⟩:=s.mu a m;⟨o,h a o e,m⟩,λk a o e1 e2=>by
  exact(s.obj k a o e1 e2).mono (λvs e=>h _ _ e) (λb w f=>⟨⟨w,f⟩,λvs e=>h _ _ e⟩) λxs vs=>(s.same h).reps⟩
theorem gM{a:Addr}{o:HO}(h:H a=none):dH H (bA H a o):=λb u e=>by
 rw[bV (fR e h)];exact e
end
section
variable{α β γ δ:Type}
def cE(K:ae)(cl:Str->Addr)(R:Ph->Hp->α->β->Prop)(p:Ph)(H:Hp)(r:bO α)(Q:β->Hp->Prop)(E:XK):Prop:=match r with
 |.ok a S=>∀q H' x,bP p H q H'->aX K q S H'->R q H' a x->Q x H'
 |.exc n S=>∀q H',bP p H q H'->aX K q S H'->E (.ref (cl n)) none H'
 |.fail=>False
def eG(K:ae)(cl:Str->Addr)(p:Ph)(H:Hp)(r:cF)(D:lD)(E:XK):Prop:=match r with
 |.nx ρ S=>∀q H' σ,bP p H q H'->aX K q S H'->dR K q H' ρ σ->D.nx σ H'
 |.bk ρ S=>∀q H' σ,bP p H q H'->aX K q S H'->dR K q H' ρ σ->D.bk σ H'
 |.ct ρ S=>∀q H' σ,bP p H q H'->aX K q S H'->dR K q H' ρ σ->D.ct σ H'
 |.rt v S=>∀q H' x,bP p H q H'->aX K q S H'->cU K q H' v x->D.rt x H'
 |.exc n S=>∀q H',bP p H q H'->aX K q S H'->E (.ref (cl n)) none H'
 |.fail=>False
variable{K:ae}{cl:Str->Addr}{p q:Ph}{H H':Hp}{S:aG}{E:XK}{R:Ph->Hp->α->β->Prop}{R':Ph->Hp->γ->δ->Prop}
theorem cE.mono{r:bO α}{Q:β->Hp->Prop}(h:cE K cl R p H r Q E)(s:bP p H q H'):cE K cl R q H' r Q E:=by
 cases r with
 |ok a S=>exact λq' H'' x s'=>h q' H'' x (s.trans s')
 |exc n S=>exact λq' H'' s'=>h q' H'' (s.trans s')
 |fail=>exact h
theorem eG.mono{r:cF}{D:lD}(h:eG K cl p H r D E)(s:bP p H q H'):eG K cl q H' r D E:=by
 cases r with
 |nx ρ S=>exact λq' H'' x s'=>h q' H'' x (s.trans s')
 |bk ρ S=>exact λq' H'' x s'=>h q' H'' x (s.trans s')
 |ct ρ S=>exact λq' H'' x s'=>h q' H'' x (s.trans s')
 |rt v S=>exact λq' H'' x s'=>h q' H'' x (s.trans s')
 |exc n S=>exact λq' H'' s'=>h q' H'' (s.trans s')
 |fail=>exact h
theorem cE.ret{a:α}{x:β}{Q:β->Hp->Prop}(h:cE K cl R p H (.ok a S) Q E)(s:aX K p S H)(r:R p H a x):Q x H:=h p H x s.step s r
theorem cE.same{a:α}{x:β}{Q:β->Hp->Prop}(h:cE K cl R p H (.ok a S) Q E)(s:aX K p S H)(e:dH H H')(r:R p H' a x):Q x H':=h p H' x (s.same e) (s.ofSame e) r
def tP(K:ae)(cl:Str->Addr)(E:XK)(R:Ph->Hp->α->β->Prop)(m:bR->aG->bO α)(σ:St)(H:Hp)(Q:β->Hp->Prop):Prop:=
 ∃p S ρ,aX K p S H/\dR K p H ρ σ/\cE K cl R p H (m ρ S) Q E
def tS(K:ae)(cl:Str->Addr)(E:XK)(m:bR->aG->cF):TS:=λD σ H=>
 ∃p S ρ,aX K p S H/\dR K p H ρ σ/\eG K cl p H (m ρ S) D E
theorem cG{m:bR->aG->bO α}{k:α->aG->bO γ}{ρ:bR}{σ:St}{Q:δ->Hp->Prop}{T:β->Hp->Prop}(s:aX K p S H)(e:dR K p H ρ σ)(h:cE K cl R' p H ((m ρ S).bind k) Q E)
  (g:∀q H' a b S',bP p H q H'->aX K q S' H'->dR K q H' ρ σ->R q H' a b->cE K cl R' q H' (k a S') Q E->T b H'):tP K cl E R m σ H T:=by
 refine⟨p,S,ρ,s,e,?_⟩;cases z:m ρ S with
 |ok a S1=>
  rw[z]at h;exact λq H' b st sm r=>g q H' a b S1 st sm (st.repE e) r (cE.mono (r:=k a S1) h st)
 |exc n S1=>
  rw[z]at h;exact h
 |fail=>
  rw[z]at h;exact h
def cF.of{α:Type}(r:bO α)(k:α->aG->cF):cF:=match r with
 |.ok a S=>k a S
 |.exc n S=>.exc n S
 |.fail=>.fail
theorem jJ{m:bR->aG->bO α}{k:α->aG->cF}{ρ:bR}{σ:St}{D:lD}{T:β->Hp->Prop}(s:aX K p S H)(e:dR K p H ρ σ)(h:eG K cl p H (cF.of (m ρ S) k) D E)
  (g:∀q H' a b S',bP p H q H'->aX K q S' H'->dR K q H' ρ σ->R q H' a b->eG K cl q H' (k a S') D E->T b H'):tP K cl E R m σ H T:=by
 refine⟨p,S,ρ,s,e,?_⟩;cases z:m ρ S with
 |ok a S1=>
  rw[z]at h;exact λq H' b st sm r=>g q H' a b S1 st sm (st.repE e) r (eG.mono (r:=k a S1) h st)
 |exc n S1=>
  rw[z]at h;exact h
 |fail=>
  rw[z]at h;exact h
end
end
abbrev RB:Ph->Hp->Bool->Bool->Prop:=λ_ _ a b=>a=b
abbrev ME:=bR->aG->bO AV
abbrev MT:=bR->aG->bO Bool
abbrev MA:=bR->aG->bO AK
abbrev MS:=bR->aG->cF
section
variable(K:ae)(cl:Str->Addr)(E:XK)(X:Cx)
def aY(e:ag)(m:ME):Prop:=X.K=K->PE X e (tP K cl E (cU K) m)
def fV(e:ag)(m:MT):Prop:=X.K=K->PT X e (tP K cl E RB m)
def jC(e:ag)(m:MT):Prop:=X.K=K->PW X e (tP K cl E RB m)
def eU(es:List ag)(m:MA):Prop:=X.K=K->PA X es (tP K cl E (fX K) m)
def eO(st:Stmt)(m:MS):Prop:=X.K=K->PS X st (tS K cl E m)
def fT(st:List Stmt)(m:MS):Prop:=X.K=K->fQ X st (tS K cl E m)
end
theorem PA.imp{X:Cx}{es:List ag}{t t':TA}(h:PA X es t)(i:∀σ H Q,t' σ H Q->t σ H Q):PA X es t':=λpos AM s σ H Q I q=>h pos AM s σ H Q I (i σ H Q q)
theorem PW.imp{X:Cx}{e:ag}{t t':TT}(h:PW X e t)(i:∀σ H Q,t' σ H Q->t σ H Q):PW X e t':=λwh AM s σ H Q I q=>h wh AM s σ H Q I (i σ H Q q)
def aA(i:Nat):ME:=λρ S=>match ρ[i]? with
 |some (some v)=>.ok v S
 |_=>.fail
def mC(v:PV):ME:=λ_ S=>.ok (.pv v) S
def rd(S:aG):AV->AI
 |.pv v=>some v
 |.ref k=>match S[k]? with
  |some (.lst xs)=>some (.lst xs)
  |_=>none
def gS(S:aG):AK->Option AH
 |[]=>some []
 |a::r=>match rd S a with
  |some v=>match gS S r with
   |some vs=>some (v::vs)
   |none=>none
  |none=>none
def gW(o:AI)(S:aG):bO AV:=match o with
 |some r=>.ok (.pv r) S
 |none=>.fail
def rR(f:PV->AI)(a:AV)(S:aG):bO AV:=gW ((rd S a).bind f) S
def kB(f:PV->PV->AI)(a b:AV)(S:aG):bO AV:=gW ((rd S a).bind λx=>(rd S b).bind λy=>f x y) S
def bH(f:PV->AI)(ma:ME):ME:=λρ S=>(ma ρ S).bind λx S1=>rR f x S1
def aC(f:PV->PV->AI)(ma mb:ME):ME:=λρ S=>(ma ρ S).bind λx S1=>(mb ρ S1).bind λy S2=>kB f x y S2
def aD:MA:=λ_ S=>.ok [] S
def aB(ma:ME)(mr:MA):MA:=λρ S=>(ma ρ S).bind λx S1=>(mr ρ S1).bind λxs S2=>.ok (x::xs) S2
def mG:AK->Option AH
 |[]=>some []
 |.pv v::r=>match mG r with
  |some vs=>some (v::vs)
  |none=>none
 |.ref _::_=>none
def Ka(f:AH->AI)(xs:AK)(S:aG):bO AV:=gW ((mG xs).bind f) S
def mF(f:AH->AI)(xs:AK)(S:aG):bO AV:=gW ((gS S xs).bind f) S
def mR(f:AH->AI)(ma:MA):ME:=λρ S=>(ma ρ S).bind λxs S1=>mF f xs S1
def mN(f:AH->AI)(ma:MA):ME:=λρ S=>(ma ρ S).bind λxs S1=>Ka f xs S1
def fM(vs:AH):AI:=if vs.length<=16777216 then some (.tup vs)else none
def fF(vs:AH):AI:=if vs.length<=16777216 then some (.lst vs)else none
def kH:AV->aG->bO Bool
 |.pv (.bl b),S=>.ok b S
 |_,_=>.fail
def bI(m:ME):MT:=λρ S=>(m ρ S).bind kH
def nX(m:MT):MT:=λρ S=>(m ρ S).bind λb S1=>.ok (!b) S1
def iW(m n:MT):MT:=λρ S=>(m ρ S).bind λb S1=>if b=true then n ρ S1 else .ok false S1
def kT(m n:MT):MT:=λρ S=>(m ρ S).bind λb S1=>if b=true then .ok true S1 else n ρ S1
def vB(m n:ME):ME:=λρ S=>(m ρ S).bind λx S1=>match x with
 |.pv (.bl true)=>n ρ S1
 |.pv (.bl false)=>.ok (.pv (.bl false)) S1
 |_=>.fail
def aaL(m n:ME):ME:=λρ S=>(m ρ S).bind λx S1=>match x with
 |.pv (.bl false)=>n ρ S1
 |.pv (.bl true)=>.ok (.pv (.bl true)) S1
 |_=>.fail
def rX:PV->AI
 |.bl b=>some (.bl (!b))
 |_=>none
def mIf(c:MT)(a b:ME):ME:=λρ S=>(c ρ S).bind λt S1=>if t=true then a ρ S1 else b ρ S1
section
variable{K:ae}{cl:Str->Addr}{E:XK}{X:Cx}{a b c e:ag}{es:List ag}{ma mb mc m:ME}{mt nt:MT}{ms:MA}{pos:ai}
theorem J8(i:Nat){x:Str}(hN:X.N[i]?=some x:=by rfl)(hv:mV X.env.scope x:=by first |exact gr rfl |exact gv (gr rfl) |exact gv (gv rfl))(hd:(x==("__debug__":Str))=false:=by decide)
  (hcd:(x==("__classdict__":Str))=false:=by decide):aY K cl E X (.Name x pos) (aA i):=λ_=>(nH hN hv hd hcd).imp λσ H Q ⟨p,S,ρ,s,e,h⟩=>by
 unfold aA at h;cases z:ρ[i]? with
 |none=>rw[z]at h;exact h.elim
 |some o=>
  cases o with
  |none=>rw[z]at h;exact h.elim
  |some v=>
   rw[z]at h;obtain⟨x,e1,e2⟩:=e.at_ i v z;exact⟨x,e1,cE.ret h s e2⟩
theorem D8{i:Int}{j}:aY K cl E X (.Constant (.int i) j pos) (mC (.int i)):=λ_=>uK.imp λσ H Q ⟨p,S,ρ,s,e,h⟩=>cE.ret (R:=cU K) (x:=.int i) h s (by show aU K p.c H (.int i) (.int i);unfold aU;rfl)
theorem V7{i:Bool}{j}:aY K cl E X (.Constant (.bool i) j pos) (mC (.bl i)):=λ_=>aal.imp λσ H Q ⟨p,S,ρ,s,e,h⟩=>cE.ret (R:=cU K) (x:=.bl i) h s (by show aU K p.c H (.bl i) (.bl i);unfold aU;rfl)
def eM(K:ae)(p:Ph)(H:Hp)(v:PV)(x:V):Prop:=aU K p.c H v x\/∃xs a vs,v=.lst xs/\x=.ref a/\H a=some (.lst vs)/\vs.length<=sizeLine/\aQ K p.c H xs vs
theorem eM.int{p:Ph}{H:Hp}{i:Int}{x:V}(h:eM K p H (.int i) x):x=.int i:=by
 rcases h with h |⟨_,_,_,e,_⟩
 .unfold aU at h;exact h
 .cases e
theorem eM.bl{p:Ph}{H:Hp}{i:Bool}{x:V}(h:eM K p H (.bl i) x):x=.bl i:=by
 rcases h with h |⟨_,_,_,e,_⟩
 .unfold aU at h;exact h
 .cases e
theorem eM.str{p:Ph}{H:Hp}{i:Str}{x:V}(h:eM K p H (.str i) x):x=.str i:=by
 rcases h with h |⟨_,_,_,e,_⟩
 .unfold aU at h;exact h
 .cases e
theorem eM.non{p:Ph}{H:Hp}{x:V}(h:eM K p H .non x):x=.non:=by
 rcases h with h |⟨_,_,_,e,_⟩
 .unfold aU at h;exact h
 .cases e
theorem eM.tup{p:Ph}{H:Hp}{xs:AH}{x:V}(h:eM K p H (.tup xs) x):∃a vs,x=.ref a/\dA K H a vs/\vs.length<=sizeLine/\aQ K p.c H xs vs:=by
 rcases h with h |⟨_,_,_,e,_⟩
 .unfold aU at h;exact h
 .cases e
theorem eM.lst{p:Ph}{H:Hp}{xs:AH}{x:V}(h:eM K p H (.lst xs) x):∃a vs,x=.ref a/\bT K H a vs/\vs.length<=sizeLine/\aQ K p.c H xs vs:=by
 rcases h with h |⟨ys,a,vs,e,e2,h,z,r⟩
 .unfold aU at h
  obtain⟨a,vs,e,l,z,r⟩:=h;exact⟨a,vs,e,l.sq,z,r⟩
 .cases e
  exact⟨a,vs,e2,bT.of h,z,r⟩
theorem pO{p:Ph}{S:aG}{H:Hp}{a:AV}{v:PV}{x:V}(s:aX K p S H)(r:cU K p H a x)(e:rd S a=some v):eM K p H v x:=by
 cases a with
 |pv u=>cases e;exact .inl r
 |ref k=>
  obtain⟨a,e1,rfl⟩:=r;unfold rd at e;cases z:S[k]? with
  |none=>simp only[z]at e;cases e
  |some o=>
   cases o with
   |lst xs=>
    simp only[z]at e;cases e;obtain⟨vs,h,l,r⟩:=s.obj k a _ e1 z;exact .inr ⟨xs,a,vs,rfl,rfl,h,l,r⟩
   |lol _=>simp only[z]at e;cases e
   |dic _ _=>simp only[z]at e;cases e
   |dol _ _=>simp only[z]at e;cases e
abbrev Lm(K:ae)(p:Ph)(H:Hp):AH->List V->Prop:=ky (eM K p H)
theorem xH{p:Ph}{S:aG}{H:Hp}(s:aX K p S H):∀{as:AK}{vs:AH}{xs:List V},fX K p H as xs->gS S as=some vs->Lm K p H vs xs
 |[],vs,_,.nil,e=>by
  cases e;exact .nil
 |a::r,vs,_,.cons h t,e=>by
  unfold gS at e;cases z:rd S a with
  |none=>simp only[z]at e;cases e
  |some v=>
   simp only[z]at e;cases y:gS S r with
   |none=>simp only[y]at e;cases e
   |some us=>
    simp only[y]at e;cases e;exact .cons (pO s h z) (xH s t y)
def gB(K:ae)(r:R2)(f:PV->PV->AI):Prop:=∀{p:Ph}{S:aG}{H:Hp}{a b c:PV}{x y:V}{Q:VK},aX K p S H->eM K p H a x->eM K p H b y->f a b=some c->
 (∀H' z,dH H H'->aU K p.c H' c z->Q z H')->r x y H Q
def wC(K:ae)(r:V->Hp->VK->Prop)(f:PV->AI):Prop:=∀{p:Ph}{S:aG}{H:Hp}{a c:PV}{x:V}{Q:VK},aX K p S H->eM K p H a x->f a=some c->
 (∀H' z,dH H H'->aU K p.c H' c z->Q z H')->r x H Q
def CaS(K:ae)(r:List V->Hp->VK->Prop)(f:AH->AI):Prop:=∀{p:Ph}{S:aG}{H:Hp}{as:AH}{c:PV}{xs:List V}{Q:VK},aX K p S H->aQ K p.c H as xs->f as=some c->
 (∀H' z,dH H H'->aU K p.c H' c z->Q z H')->r xs H Q
def jR(K:ae)(r:List V->Hp->VK->Prop)(f:AH->AI):Prop:=∀{p:Ph}{S:aG}{H:Hp}{as:AH}{c:PV}{xs:List V}{Q:VK},aX K p S H->Lm K p H as xs->f as=some c->
 (∀H' z,dH H H'->aU K p.c H' c z->Q z H')->r xs H Q
theorem pJ{p:Ph}{S:aG}{H:Hp}{o:AI}{Q:VK}(s:aX K p S H)(h:cE K cl (cU K) p H (gW o S) Q E):∃c,o=some c/\∀H' z,dH H H'->aU K p.c H' c z->Q z H':=by
 cases o with
 |none=>exact h.elim
 |some c=>exact⟨c,rfl,λH' z sm rz=>cE.same (R:=cU K) h s sm rz⟩
theorem sX{r:R2}{f:PV->PV->AI}(hf:gB K r f){p:Ph}{S:aG}{H:Hp}{a b:AV}{x y:V}{Q:VK}(s:aX K p S H)(ra:cU K p H a x)(rb:cU K p H b y)(h:cE K cl (cU K) p H (kB f a b S) Q E):r x y H Q:=by
 obtain⟨c,e,k⟩:=pJ s h;cases z:rd S a with
 |none=>rw[z]at e;cases e
 |some v=>
  cases y:rd S b with
  |none=>rw[z,y]at e;cases e
  |some w=>
   rw[z,y]at e;exact hf s (pO s ra z) (pO s rb y) e k
theorem xF{r:V->Hp->VK->Prop}{f:PV->AI}(hf:wC K r f){p:Ph}{S:aG}{H:Hp}{a:AV}{x:V}{Q:VK}(s:aX K p S H)(ra:cU K p H a x)(h:cE K cl (cU K) p H (rR f a S) Q E):r x H Q:=by
 obtain⟨c,e,k⟩:=pJ s h;cases z:rd S a with
 |none=>rw[z]at e;cases e
 |some v=>
  rw[z]at e;exact hf s (pO s ra z) e k
theorem Bf{r:List V->Hp->VK->Prop}{f:AH->AI}(hf:jR K r f){p:Ph}{S:aG}{H:Hp}{as:AK}{xs:List V}{Q:VK}(s:aX K p S H)(ra:fX K p H as xs)(h:cE K cl (cU K) p H (mF f as S) Q E):r xs H Q:=by
 obtain⟨c,e,k⟩:=pJ s h;cases z:gS S as with
 |none=>rw[z]at e;cases e
 |some v=>
  rw[z]at e;exact hf s (xH s ra z) e k
theorem xB{p:Ph}{H:Hp}:∀{as:AK}{vs:AH}{xs:List V},mG as=some vs->fX K p H as xs->aQ K p.c H vs xs
 |[],vs,_,e,.nil=>by
  cases e;exact .nil
 |.pv v::r,vs,_,e,.cons h t=>by
  unfold mG at e;cases z:mG r with
  |none=>simp only[z]at e;cases e
  |some us=>
   simp only[z]at e;cases e;exact .cons h (xB z t)
 |.ref k::r,vs,_,e,.cons h t=>by
  cases e
theorem Oe{r:List V->Hp->VK->Prop}{f:AH->AI}(hf:CaS K r f){p:Ph}{S:aG}{H:Hp}{as:AK}{xs:List V}{Q:VK}(s:aX K p S H)(ra:fX K p H as xs)(h:cE K cl (cU K) p H (Ka f as S) Q E):r xs H Q:=by
 obtain⟨c,e,k⟩:=pJ s h;cases z:mG as with
 |none=>rw[z]at e;cases e
 |some v=>
  rw[z]at e;exact hf s (xB z ra) e k
theorem nV{op:qa}{r:R2}{f:PV->PV->AI}(ho:eB X (binaryOp op) r)(hf:gB X.K r f)(ha:aY K cl E X a ma)(hb:aY K cl E X b mb):aY K cl E X (.BinOp a op b pos) (aC f ma mb):=by
 intro hK;subst hK;refine(Nm ho (ha rfl) (hb rfl)).imp ?_
 rintro σ H Q ⟨p,S,ρ,s,e,h⟩
 exact cG s e h λq H1 a x S1 st s1 e1 r1 h1=>cG s1 e1 h1 λq2 H2 b y S2 st2 s2 e2 r2 h2=>sX hf s2 (st2.repA r1) r2 h2
theorem S6{op:UnaryOp}{r:V->Hp->VK->Prop}{f:PV->AI}(ho:vU X (unaryOp op) r)(hf:wC X.K r f)(ha:aY K cl E X a ma):aY K cl E X (.UnaryOp op a pos) (bH f ma):=by
 intro hK;subst hK;refine(Cn ho (ha rfl)).imp ?_
 rintro σ H Q ⟨p,S,ρ,s,e,h⟩
 exact cG s e h λq H1 a x S1 st s1 e1 r1 h1=>xF hf s1 r1 h1
theorem rN{op:ke}{r:R2}{f:PV->PV->AI}(ho:eB X (compareOp op) r)(hf:gB X.K r f)(ha:aY K cl E X a ma)(hb:aY K cl E X b mb)(hm:behindInMarks op b=false):aY K cl E X (.Compare a [op] [b] pos) (aC f ma mb):=by
 intro hK;subst hK;refine(Ez ho (ha rfl) (hb rfl) hm).imp ?_
 rintro σ H Q ⟨p,S,ρ,s,e,h⟩
 exact cG s e h λq H1 a x S1 st s1 e1 r1 h1=>cG s1 e1 h1 λq2 H2 b y S2 st2 s2 e2 r2 h2=>sX hf s2 (st2.repA r1) r2 h2
theorem Dn{p:Ph}{H:Hp}{v:AV}{x:V}(r:cU K p H v x){b:Bool}(e:v=.pv (.bl b)):x=.bl b:=by
 subst e;unfold cU aU at r;exact r
theorem Vh{p:Ph}{S:aG}{H:Hp}{v:AV}{x:V}{Q:Bool->Hp->Prop}(s:aX K p S H)(r:cU K p H v x)
  (h:cE K cl RB p H (kH v S) Q E):∃k,x=.bl k/\Q k H:=by
 cases v with
 |ref k=>exact h.elim
 |pv v=>
  cases v with
  |bl b=>exact⟨b,Dn r rfl,cE.ret (R:=RB) h s rfl⟩
  |_=>exact h.elim
theorem qX{op:ke}{r:R2}{f:PV->PV->AI}(ho:eB X (compareOp op) r)(hf:gB X.K r f)(ha:aY K cl E X a ma)(hb:aY K cl E X b mb)(hm:behindInMarks op b=false):fV K cl E X (.Compare a [op] [b] pos) (bI (aC f ma mb)):=by
 intro hK;subst hK;refine(Pz ho (ha rfl) (hb rfl) hm).imp ?_
 rintro σ H Q ⟨p,S,ρ,s,e,h⟩
 have z:tP X.K cl E (cU X.K) (aC f ma mb) σ H λx H'=>∃k,x=.bl k/\Q k H':=cG s e h λq H1 a x S1 st s1 e1 r1 h1=>Vh s1 r1 h1;obtain⟨p',S',ρ',s',e',h'⟩:=z;exact cG s' e' h' λq H1 a x S1 st s1 e1 r1 h1=>cG s1 e1 h1 λq2 H2 b y S2 st2 s2 e2 r2 h2=>sX hf s2 (st2.repA r1) r2 h2
theorem A4(ha:aY K cl E X a ma)(he:∀whole,isTrue a X.env whole=(do let v <-whole;standAt a.pos;holding [v] (truthy v)):=by intro _;rfl):fV K cl E X a (bI ma):=by
 intro hK;subst hK;refine(N3 (ha rfl) he).imp ?_
 rintro σ H Q ⟨p,S,ρ,s,e,h⟩
 exact cG s e h λq H1 a x S1 st s1 e1 r1 h1=>Vh s1 r1 h1
theorem C4(ha:fV K cl E X a mt):fV K cl E X (.UnaryOp .Not a pos) (nX mt):=by
 intro hK;subst hK;refine(G4 (ha rfl)).imp ?_
 rintro σ H Q ⟨p,S,ρ,s,e,h⟩
 exact cG s e h λq H1 a x S1 st s1 e1 r1 h1=>by
  cases r1;exact cE.ret (R:=RB) h1 s1 rfl
theorem Fw(ha:fV K cl E X a mt):jC K cl E X (.BoolOp .And [a] pos) mt:=λhK=>Ax (ha hK)
theorem Fx(ha:fV K cl E X a mt):jC K cl E X (.BoolOp .Or [a] pos) mt:=λhK=>L6 (ha hK)
theorem jC.pt(h:jC K cl E X a mt):fV K cl E X a mt:=λhK=>PW.pt (h hK)
theorem Dx{gA:List ag}(ha:fV K cl E X a mt)(hb:jC K cl E X (.BoolOp .And (b::gA) pos) nt):jC K cl E X (.BoolOp .And (a::b::gA) pos) (iW mt nt):=by
 intro hK;subst hK;refine PW.imp (O4 (ha rfl) (hb rfl)) ?_
 rintro σ H Q ⟨p,S,ρ,s,e,h⟩
 refine cG s e h λq H1 a x S1 st s1 e1 r1 h1=>?_;cases r1;cases a with
 |true=>exact⟨q,S1,ρ,s1,e1,h1⟩
 |false=>exact cE.ret (R:=RB) h1 s1 rfl
theorem Q0{gA:List ag}(ha:fV K cl E X a mt)(hb:jC K cl E X (.BoolOp .Or (b::gA) pos) nt):jC K cl E X (.BoolOp .Or (a::b::gA) pos) (kT mt nt):=by
 intro hK;subst hK;refine PW.imp (W6 (ha rfl) (hb rfl)) ?_
 rintro σ H Q ⟨p,S,ρ,s,e,h⟩
 refine cG s e h λq H1 a x S1 st s1 e1 r1 h1=>?_;cases r1;cases a with
 |true=>exact cE.ret (R:=RB) h1 s1 rfl
 |false=>exact⟨q,S1,ρ,s1,e1,h1⟩
theorem E5{gA:List ag}(ha:aY K cl E X a ma)(hb:aY K cl E X (.BoolOp .And (b::gA) pos) mb):aY K cl E X (.BoolOp .And (a::b::gA) pos) (vB ma mb):=by
 intro hK;subst hK;refine(J5 (ha rfl) (hb rfl)).imp ?_
 rintro σ H Q ⟨p,S,ρ,s,e,h⟩
 refine cG s e h λq H1 a x S1 st s1 e1 r1 h1=>?_;cases a with
 |ref k=>exact h1.elim
 |pv v=>
  cases v with
  |bl b=>
   refine⟨b,Dn r1 rfl,?_⟩;cases b with
   |true=>exact⟨q,S1,ρ,s1,e1,h1⟩
   |false=>exact cE.ret (R:=cU X.K) h1 s1 (by show aU X.K q.c H1 _ _;unfold aU;rfl)
  |_=>exact h1.elim
theorem E4(ha:aY K cl E X a ma):aY K cl E X (.UnaryOp .Not a pos) (bH rX ma):=by
 intro hK;subst hK;refine(G3 (ha rfl)).imp ?_
 rintro σ H Q ⟨p,S,ρ,s,e,h⟩
 refine cG s e h λq H1 a x S1 st s1 e1 r1 h1=>?_;refine xF (r:=λx H Q=>∃c,x=.bl c/\Q (.bl (!c)) H) (f:=rX) (λ{p S H a c x Q} s r e k=>?_) s1 r1 h1;cases a with
 |bl b=>
  cases e;exact⟨b,r.bl,k H _ (dH.refl H) (by unfold aU;rfl)⟩
 |_=>cases e
theorem Yx:eU K cl E X [] aD:=λ_=>(PA.imp rF λσ H Q ⟨p,S,ρ,s,e,h⟩=>cE.ret (R:=fX K) h s .nil)
theorem Vu(ha:aY K cl E X e m)(hr:eU K cl E X es ms)(hs:starEach (e::es) X.env=(false,eval e X.env)::starEach es X.env:=by rfl):eU K cl E X (e::es) (aB m ms):=by
 intro hK;subst hK;refine PA.imp (pA (ha rfl) (hr rfl) hs) ?_
 rintro σ H Q ⟨p,S,ρ,s,e,h⟩
 exact cG s e h λq H1 a x S1 st s1 e1 r1 h1=>cG s1 e1 h1 λq2 H2 b y S2 st2 s2 e2 r2 h2=>cE.ret (R:=fX X.K) h2 s2 (.cons (st2.repA r1) r2)
theorem nE{p:Ph}{S:aG}{H:Hp}{vs:AH}{xs:List V}{t:Addr}(s:aX K p S H)(r:aQ K p.c H vs xs)(z:xs.length<=sizeLine)(ht:H t=none):aU K p.c (bA H t (.tup xs)) (.tup vs) (.ref t):=by
 unfold aU;exact⟨t,xs,rfl,dA.of fS,z,(s.same (gM ht)).reps r⟩
theorem nG{p:Ph}{S:aG}{H:Hp}{vs:AH}{xs:List V}{t:Addr}(s:aX K p S H)(r:aQ K p.c H vs xs)(z:xs.length<=sizeLine)(ht:H t=none):aU K p.c (bA H t (.lst xs)) (.lst vs) (.ref t):=by
 unfold aU;refine⟨t,xs,rfl,.inl ⟨fS,λc=>?_⟩,z,(s.same (gM ht)).reps r⟩;obtain⟨o,e,_⟩:=s.mu t c;rw[ht]at e;cases e
theorem iS:sizeLine=16777216:=kg
theorem O1{x1}(h:eU K cl E X es ms):aY K cl E X (.Tuple es x1 pos) (mN fM ms):=by
 intro hK;subst hK;refine(O5 (h rfl)).imp ?_
 rintro σ H Q ⟨p,S,ρ,s,e,h⟩
 refine cG s e h λq H1 as xs S1 st s1 e1 r1 h1=>?_;refine Oe (r:=λxs H Q=>xs.length<=sizeLine/\∀t,H t=none->Q (.ref t) (bA H t (.tup xs))) (f:=fM) (λ{p S H as c xs Q} s r e k=>?_) s1 r1 h1;unfold fM at e;split at e
 .rename_i hl
  cases e;rw[r.length,<-iS]at hl;exact⟨hl,λt ht=>k _ _ (gM ht) (nE s r hl ht)⟩
 .cases e
theorem F4(h:eU K cl E X es ms):aY K cl E X (.List es pos) (mN fF ms):=by
 intro hK;subst hK;refine(zV (h rfl)).imp ?_
 rintro σ H Q ⟨p,S,ρ,s,e,h⟩
 refine cG s e h λq H1 as xs S1 st s1 e1 r1 h1=>?_;refine Oe (r:=λxs H Q=>xs.length<=sizeLine/\∀t,H t=none->Q (.ref t) (bA H t (.lst xs))) (f:=fF) (λ{p S H as c xs Q} s r e k=>?_) s1 r1 h1;unfold fF at e;split at e
 .rename_i hl
  cases e;rw[r.length,<-iS]at hl;exact⟨hl,λt ht=>k _ _ (gM ht) (nG s r hl ht)⟩
 .cases e
end
noncomputable section
open PySem PySem.Spec PyProof.Rows Bn
def eK:MS:=λρ S=>.nx ρ S
def aI(a b:MS):MS:=λρ S=>match a ρ S with
 |.nx ρ1 S1=>b ρ1 S1
 |r=>r
def dQ(m:ME):MS:=λρ S=>cF.of (m ρ S) λ_ S1=>.nx ρ S1
def bF(m:ME):MS:=λρ S=>cF.of (m ρ S) λv S1=>.rt v S1
def U7:MS:=λ_ S=>.rt (.pv .non) S
def cX(c:MT)(a b:MS):MS:=λρ S=>cF.of (c ρ S) λt S1=>if t=true then a ρ S1 else b ρ S1
def aT(i:Nat)(m:ME):MS:=λρ S=>cF.of (m ρ S) λv S1=>.nx (ρ.set i (some v)) S1
def rY(i j:Nat)(m:MA):MS:=λρ S=>cF.of (m ρ S) λvs S1=>match vs with
 |[v,w]=>.nx ((ρ.set i (some v)).set j (some w)) S1
 |_=>.fail
abbrev GM:=PV->bR->Option bR
abbrev mU:=AH->bR->Option bR
def gN(i:Nat):GM:=λv ρ=>some (ρ.set i (some (.pv v)))
def eJ:mU:=λvs ρ=>match vs with
 |[]=>some ρ
 |_=>none
def cQ(g:GM)(gs:mU):mU:=λvs ρ=>match vs with
 |[]=>none
 |v::r=>match g v ρ with
  |some ρ1=>gs r ρ1
  |none=>none
def gT(n:Nat)(gs:mU):GM:=λv ρ=>match v with
 |.tup vs=>if vs.length=n then gs vs ρ else none
 |_=>none
abbrev Gd:=List (Nat×AH)
def fP(G:Gd)(S:aG):Prop:=∀g∈G,S[g.1]?=some (.lst g.2)
theorem gY(S:aG):fP [] S:=λ_ h=>nomatch h
abbrev MI:=bR->aG->bO (AH×Gd)
open Classical in
def cJ(G:Gd)(g:GM)(mb:MS):AH->bR->aG->cF
 |[],ρ,S=>if fP G S then .nx ρ S else .fail
 |x::r,ρ,S=>if fP G S then(match g x ρ with
  |none=>.fail
  |some ρ1=>match mb ρ1 S with
   |.nx ρ2 S2=>cJ G g mb r ρ2 S2
   |.ct ρ2 S2=>cJ G g mb r ρ2 S2
   |.bk ρ2 S2=>.nx ρ2 S2
   |.rt v S2=>.rt v S2
   |.exc n S2=>.exc n S2
   |.fail=>.fail)else .fail
def bK(mi:MI)(g:GM)(mb:MS):MS:=λρ S=>cF.of (mi ρ S) λxs S1=>cJ xs.2 g mb xs.1 ρ S1
theorem fE{g:GM}{mb:MS}{ρ:bR}{S:aG}:cJ [] g mb [] ρ S=.nx ρ S:=by
 unfold cJ;rw[if_pos (gY S)]
theorem dY{g:GM}{mb:MS}{x:PV}{r:AH}{ρ:bR}{S:aG}:cJ [] g mb (x::r) ρ S=(match g x ρ with
  |none=>.fail
  |some ρ1=>match mb ρ1 S with
   |.nx ρ2 S2=>cJ [] g mb r ρ2 S2
   |.ct ρ2 S2=>cJ [] g mb r ρ2 S2
   |.bk ρ2 S2=>.nx ρ2 S2
   |.rt v S2=>.rt v S2
   |.exc n S2=>.exc n S2
   |.fail=>.fail):=by
 rw[cJ,if_pos (gY S)]
def dZ(c:MT)(mb:MS):Nat->bR->aG->cF
 |0,_,_=>.fail
 |n+1,ρ,S=>cF.of (c ρ S) λt S1=>if t=true then(match mb ρ S1 with
   |.nx ρ2 S2=>dZ c mb n ρ2 S2
   |.ct ρ2 S2=>dZ c mb n ρ2 S2
   |.bk ρ2 S2=>.nx ρ2 S2
   |.rt v S2=>.rt v S2
   |.exc n S2=>.exc n S2
   |.fail=>.fail)else .nx ρ S1
open Classical in
def lZ(c:MT)(mb:MS):MS:=λρ S=>if h:∃n,dZ c mb n ρ S≠.fail then dZ c mb h.choose ρ S else .fail
theorem cF.of_ok{α:Type}{r:bO α}{k k':α->aG->cF}(h:∀a S,k a S≠.fail->k' a S=k a S)(n:cF.of r k≠.fail):cF.of r k'=cF.of r k:=by
 cases r with
 |ok a S=>exact h a S n
 |exc=>rfl
 |fail=>rfl
theorem wL{c:MT}{mb:MS}:∀{n:Nat}{ρ:bR}{S:aG},dZ c mb n ρ S≠.fail->dZ c mb (n+1) ρ S=dZ c mb n ρ S
 |0,_,_,h=>absurd rfl h
 |n+1,ρ,S,h=>by
  unfold dZ at h;rw[dZ]
  conv=>rhs;rw[dZ]
  refine cF.of_ok (λt S1 h1=>?_) h
  by_cases ht:t=true
  .simp only[if_pos ht]at h1⊢
   cases z:mb ρ S1 with
   |nx ρ2 S2=>rw[z]at h1;exact wL h1
   |ct ρ2 S2=>rw[z]at h1;exact wL h1
   |_=>rfl
  .simp only[if_neg ht]at h1⊢
theorem wW{c:MT}{mb:MS}{n:Nat}{ρ:bR}{S:aG}(h:dZ c mb n ρ S≠.fail):∀k,dZ c mb (n+k) ρ S=dZ c mb n ρ S
 |0=>rfl
 |k+1=>by
  have ih:=wW h k;rw[<-Nat.add_assoc,wL (by rw[ih];exact h),ih]
theorem xN{c:MT}{mb:MS}{n:Nat}{ρ:bR}{S:aG}{r:cF}(e:dZ c mb n ρ S=r)(h:r≠.fail):lZ c mb ρ S=r:=by
 have h':∃n,dZ c mb n ρ S≠.fail:=⟨n,by rw[e];exact h⟩;unfold lZ;rw[dif_pos h'];have e2:=h'.choose_spec;rcases Nat.le_total n h'.choose with l |l
 .obtain⟨k,q⟩:=c7 l
  rw[q,wW (by rw[e];exact h),e]
 .obtain⟨k,q⟩:=c7 l
  have z:=wW e2 k;rw[<-q,e]at z;exact z.symm
section
variable{K:ae}{cl:Str->Addr}{E:XK}{X:Cx}{a b c e tg:ag}{es:List ag}{m:ME}{mt:MT}{ms:MA}{b1 b2:MS}{st:Stmt}{sts sts':List Stmt}{pos:ai}
theorem dR.set{p:Ph}{H:Hp}{ρ:bR}{σ:St}{v:AV}{x:V}(h:dR K p H ρ σ)(r:cU K p H v x)(i:Nat):dR K p H (ρ.set i (some v)) (σ.set i (some x)):=by
 refine⟨by rw[fh,fh,h.len],λj u e=>?_⟩
 by_cases q:i=j
 .subst q
  by_cases l:i<ρ.length
  .rw[fe l]at e
   cases e;exact⟨x,fe (by rw[<-h.len];exact l),r⟩
  .rw[sv (by rw[fh];omega)]at e
   cases e
 .rw[ft q]at e⊢
  exact h.at_ j u e
theorem Tw:fT K cl E X [] eK:=λ_=>fQ.imp B9 λD σ H ⟨p,S,ρ,s,e,h⟩=>h p H σ s.step s e
theorem eG.nxD{p:Ph}{H:Hp}{ρ:bR}{S:aG}{D:lD}(h:eG K cl p H (.nx ρ S) D E){σ:St}(s:aX K p S H)(e:dR K p H ρ σ):D.nx σ H:=h p H σ s.step s e
theorem Jt(h1:eO K cl E X st b1)(h2:fT K cl E X sts b2):fT K cl E X (st::sts) (aI b1 b2):=by
 intro hK;subst hK;refine fQ.imp (Hv (h1 rfl) (h2 rfl)) λD σ H ⟨p,S,ρ,s,e,h⟩=>⟨p,S,ρ,s,e,?_⟩;unfold aI at h;cases z:b1 ρ S with
 |nx ρ1 S1=>
  rw[z]at h;exact λq H' σ' stp sm ev=>⟨q,S1,ρ1,sm,ev,eG.mono (r:=b2 ρ1 S1) h stp⟩
 |bk ρ1 S1=>rw[z]at h;exact h
 |ct ρ1 S1=>rw[z]at h;exact h
 |rt v S1=>rw[z]at h;exact h
 |exc n S1=>rw[z]at h;exact h
 |fail=>rw[z]at h;exact h
theorem Xw(h1:eO K cl E X st b1):fT K cl E X [st] b1:=λhK=>Hi (h1 hK)
theorem Wt(he:aY K cl E X e m)(hs:swapsWith e none pos.line X.env=pure false:=by rfl):eO K cl E X (.Expr e pos) (dQ m):=by
 intro hK;subst hK;refine PS.imp (B5 (he rfl) hs) ?_
 rintro D σ H ⟨p,S,ρ,s,e,h⟩
 exact jJ s e h λq H' a b S' stp sm ev r k=>eG.nxD k sm ev
theorem Lz(he:aY K cl E X e m):eO K cl E X (.Return (some e) pos) (bF m):=by
 intro hK;subst hK;refine PS.imp (J9 (he rfl)) ?_
 rintro D σ H ⟨p,S,ρ,s,e,h⟩
 exact jJ s e h λq H' a b S' stp sm ev r k=>k q H' b sm.step sm r
theorem D9(hc:fV K cl E X c mt)(ha:fT K cl E X sts b1)(hb:fT K cl E X sts' b2):eO K cl E X (.If c sts sts' pos) (cX mt b1 b2):=by
 intro hK;subst hK;refine PS.imp (V8 (hc rfl) (ha rfl) (hb rfl)) ?_
 rintro D σ H ⟨p,S,ρ,s,e,h⟩
 refine jJ s e h λq H' a b S' stp sm ev r k=>?_;cases r;cases a with
 |true=>exact⟨q,S',ρ,sm,ev,k⟩
 |false=>exact⟨q,S',ρ,sm,ev,k⟩
theorem Ri{i:Nat}{x:Str}{pos':ai}(hN:X.N.Nodup)(hi:X.N[i]?=some x)(hx:jU X.env.scope x)(he:aY K cl E X e m)(hs:swapsWith e (some (.Name x pos')) pos.line X.env=pure false:=by rfl)
  (hf:X.fn x=true\/X.env.scope.names.lookup x=some .local:=by first |exact .inl rfl |exact .inr rfl |assumption):eO K cl E X (.Assign [.Name x pos'] e pos) (aT i m):=by
 intro hK;subst hK;refine PS.imp (K8 hN hi hx (he rfl) hs hf) ?_
 rintro D σ H ⟨p,S,ρ,s,e,h⟩
 exact jJ s e h λq H' a b S' stp sm ev r k=>eG.nxD k sm (ev.set r i)
theorem B4{i j:Nat}{x y:Str}{px py pt:ai}{kt k2 pt2}(hc:X.calm=true)(hN:X.N.Nodup)(hi:X.N[i]?=some x)(hj:X.N[j]?=some y)(hij:i≠j)
  (hx:X.env.scope.names.lookup x=some .local)(hy:X.env.scope.names.lookup y=some .local)(ha:eU K cl E X [a,b] ms)
  (hw:swappedStores [.Tuple [.Name x px,.Name y py] kt pt] (.Tuple [a,b] k2 pt2) X.env=pure (some [x,y]))
  (hs:swapsWithSole [.Tuple [.Name x px,.Name y py] kt pt] (.Tuple [a,b] k2 pt2) pos.line X.env=pure false:=by rfl):
  eO K cl E X (.Assign [.Tuple [.Name x px,.Name y py] kt pt] (.Tuple [a,b] k2 pt2) pos) (rY i j ms):=by
 intro hK;subst hK;refine PS.imp (G8 hc hN hi hj hij hx hy (ha rfl) hw hs) ?_
 rintro D σ H ⟨p,S,ρ,s,e,h⟩
 refine jJ s e h λq H' vs xs S' stp sm ev r k=>?_;cases r with
 |nil=>exact k.elim
 |cons r1 rr=>
  cases rr with
  |nil=>exact k.elim
  |cons r2 rs=>
   cases rs with
   |nil=>exact⟨_,_,rfl,eG.nxD k sm ((ev.set r1 i).set r2 j)⟩
   |cons _ _=>exact k.elim
def gP(K:ae)(g:GM):TG:=λx σ H Q=>∃p S ρ v ρ',aX K p S H/\dR K p H ρ σ/\aU K p.c H v x/\g v ρ=some ρ'/\∀σ',dR K p H ρ' σ'->Q σ' H
def gPs(K:ae)(g:mU):lN:=λxs σ H Q=>∃p S ρ vs ρ',aX K p S H/\dR K p H ρ σ/\aQ K p.c H vs xs/\g vs ρ=some ρ'/\∀σ',dR K p H ρ' σ'->Q σ' H
variable(K X)
def lO(tg:ag)(g:GM):Prop:=X.K=K->PG X tg (gP K g)
def qC(ts:List ag)(g:mU):Prop:=X.K=K->kS X ts (gPs K g)
variable{K X}
theorem PG.imp{tg:ag}{t t':TG}(h:PG X tg t)(i:∀x σ H Q,t' x σ H Q->t x σ H Q):PG X tg t':=λAM s σ H v u Q I r q=>h AM s σ H v u Q I r (i v σ H Q q)
theorem kS.imp{ts:List ag}{t t':lN}(h:kS X ts t)(i:∀x σ H Q,t' x σ H Q->t x σ H Q):kS X ts t':=λAM s σ H v u Q I r q=>h AM s σ H v u Q I r (i v σ H Q q)
theorem Jw{i:Nat}{x:Str}(hN:X.N.Nodup)(hi:X.N[i]?=some x)(hx:jU X.env.scope x)(hf:X.fn x=true\/X.env.scope.names.lookup x=some .local:=by first |exact .inl rfl |exact .inr rfl |assumption):lO K X (.Name x pos) (gN i):=
 λ_=>PG.imp (Qj hN hi hx hf) λx σ H Q ⟨p,S,ρ,v,ρ',s,ev,r,g,k⟩=>by
  cases g;exact k _ (ev.set (v:=.pv v) r i)
theorem Cw:qC K X [] eJ:=λ_=>kS.imp Zy λxs σ H Q ⟨p,S,ρ,vs,ρ',s,ev,r,g,k⟩=>by
 cases vs with
 |nil=>
  cases g;unfold aQ at r;exact⟨r,k _ ev⟩
 |cons _ _=>cases g
theorem Us{g:GM}{gs:mU}(h1:lO K X e g)(h2:qC K X es gs)(hs:(assignEach (e::es) X.env).map (·.2)=assign e X.env::(assignEach es X.env).map (·.2):=by rfl):qC K X (e::es) (cQ g gs):=by
 intro hK;subst hK;refine kS.imp (Yu (h1 rfl) (h2 rfl) hs) ?_
 rintro xs σ H Q ⟨p,S,ρ,vs,ρ',s,ev,r,g1,k⟩
 cases vs with
 |nil=>cases g1
 |cons v vr=>
  unfold aQ at r;obtain⟨x,xr,rfl,r1,r2⟩:=r;unfold cQ at g1;cases z:g v ρ with
  |none=>simp only[z]at g1;cases g1
  |some ρ1=>
   simp only[z]at g1;exact⟨x,xr,rfl,p,S,ρ,v,ρ1,s,ev,r1,z,λσ' ev'=>⟨p,S,ρ1,vr,ρ',s,ev',r2,g1,k⟩⟩
theorem A8{k:Nat}{gs:mU}{n:Nat}(hc:X.calm=true)(h:qC K X es gs)(hn:(assignEach es X.env).length=n:=by rfl)(hst:(assignEach es X.env).findIdx? (·.1)=none:=by rfl):lO K X (.Tuple es k pos) (gT n gs):=by
 intro hK;subst hK;refine PG.imp (M9 hc (h rfl) hn hst) ?_
 rintro x σ H Q ⟨p,S,ρ,v,ρ',s,ev,r,g1,k⟩
 cases v with
 |tup vs=>
  unfold aU at r;obtain⟨a,xs,rfl,t,z,r⟩:=r;unfold gT at g1;dsimp only at g1;split at g1
  .rename_i hl
   exact⟨a,xs,rfl,t,r.length.symm.trans hl,p,S,ρ,vs,ρ',s,ev,r,g1,k⟩
  .cases g1
 |_=>cases g1
def fO(K:ae)(p:Ph)(H:Hp)(xs:AH×Gd)(J:It):Prop:=xs.1.length<=sizeLine/\∀q H1 S1,bP p H q H1->aX K q S1 H1->fP xs.2 S1->
 (∀(i:Nat)(v:PV),xs.1[i]?=some v->J.go i H1/\∀x H2,J.yld i H1 x H2->dH H1 H2/\aU K q.c H2 v x)/\J.stop xs.1.length H1
theorem fO.step{p q:Ph}{H H':Hp}{xs:AH×Gd}{J:It}(h:fO K p H xs J)(s:bP p H q H'):fO K q H' xs J:=⟨h.1,λr H1 S1 t=>h.2 r H1 S1 (s.trans t)⟩
variable(K cl E X)
def PIp(tg iter:ag)(m:MI):Prop:=X.K=K->PI X tg iter (tP K cl E (fO K) m)
variable{K cl E X}
theorem PI.imp{tg iter:ag}{t t':TI}(h:PI X tg iter t)(i:∀σ H Q,t' σ H Q->t σ H Q):PI X tg iter t':=λAM s σ H R I q=>h AM s σ H R I (i σ H R q)
def aaO(K:ae)(tl:TE):TI:=λσ H R=>tl σ H λx H1=>∃a,x=.ref a/\(((∃xs,bT K H1 a xs)/\R (vV K a) H1)\/((∃xs,dA K H1 a xs)/\R (Ub K a) H1))
theorem Qk{l:ag}{tl:TE}(hl:PE X l tl):PI X tg l (aaO X.K tl):=by
 intro AM s σ H R I h;refine bG (hl AM s σ H _ I h) ?_
 rintro v s1 ⟨x,H1,I1,r1,q1⟩
 obtain⟨a,e,q⟩:=q1;subst e;cases r1;rcases q with⟨⟨xs,hq⟩,q⟩|⟨⟨xs,hq⟩,q⟩
 .obtain⟨its,rv,p,hz⟩:=I1.list hq
  refine wn p.isList ?_;refine⟨s1.heap.objs.size,[s1.heap.objs.size],_,_,H1,rfl,I1.kept (t':=s1.toks) λb o e=>aw _ e,Js a _,⟨_,dh _ rfl,rfl,rfl⟩,λb hb=>?_,q⟩;have e:b=s1.heap.objs.size:=by simpa using hb
  subst e;exact I1.fpOk (ar _) (I1.hok.fresh (ar _))
 .obtain⟨its,rv,p,hz⟩:=I1.tuple hq
  refine a6 (show s1.heap.IsTuple a its.toArray from p) ?_;refine⟨s1.heap.objs.size,[s1.heap.objs.size],_,_,H1,rfl,I1.kept (t':=s1.toks) λb o e=>aw _ e,Zq a _,⟨_,dh _ rfl,rfl,rfl⟩,λb hb=>?_,q⟩;have e:b=s1.heap.objs.size:=by simpa using hb
  subst e;exact I1.fpOk (ar _) (I1.hok.fresh (ar _))
def bS:AV->aG->bO (AH×Gd)
 |.pv (.lst xs),S=>.ok (xs,[]) S
 |.pv (.tup xs),S=>.ok (xs,[]) S
 |.ref k,S=>match S[k]? with
  |some (.lst xs)=>.ok (xs,[(k,xs)]) S
  |_=>.fail
 |_,_=>.fail
def bD(m:ME):MI:=λρ S=>(m ρ S).bind bS
theorem O7{p:Ph}{H:Hp}{xs:AH}{a:Addr}{vs:List V}(l:jT K p.c H a vs)(z:vs.length<=sizeLine)(r:aQ K p.c H xs vs):fO K p H (xs,[]) (vV K a):=by
 refine⟨by rw[r.length];exact z,λq H1 S1 st _ _=>⟨λi v e=>?_,?_⟩⟩
 .have l1:=(st.lat l).sq
  obtain⟨x,e1,r1⟩:=(st.reps r).get e;refine⟨⟨vs,x,l1,e1⟩,λy H2 hy=>?_⟩;obtain⟨rfl,hy⟩:=hy;have:=(hy vs l1).symm.trans e1;cases this;exact⟨dH.refl _,r1⟩
 .exact⟨vs,(st.lat l).sq,by rw[r.length];exact ar _⟩
theorem O8{p:Ph}{H:Hp}{xs:AH}{a:Addr}{vs:List V}(l:dA K H a vs)(z:vs.length<=sizeLine)(r:aQ K p.c H xs vs):fO K p H (xs,[]) (Ub K a):=by
 refine⟨by rw[r.length];exact z,λq H1 S1 st _ _=>⟨λi v e=>?_,?_⟩⟩
 .have l1:=st.tup l
  obtain⟨x,e1,r1⟩:=(st.reps r).get e;refine⟨⟨vs,x,l1,e1⟩,λy H2 hy=>?_⟩;obtain⟨rfl,hy⟩:=hy;have:=(hy vs l1).symm.trans e1;cases this;exact⟨dH.refl _,r1⟩
 .exact⟨vs,st.tup l,by rw[r.length];exact ar _⟩
theorem G5{p:Ph}{H:Hp}{xs:AH}{a:Addr}{k:Nat}{n:xs.length<=sizeLine}(hf:p.f[k]?=some a):fO K p H (xs,[(k,xs)]) (vV K a):=by
 refine⟨n,λq H1 S1 st sm g=>?_⟩;have e0:S1[k]?=some (.lst xs):=g (k,xs) cf;obtain⟨vs,h1,l1,r1⟩:=sm.obj k a _ (st.at_ hf) e0;refine⟨λi v e=>?_,?_⟩
 .obtain⟨x,e1,r2⟩:=r1.get e
  refine⟨⟨vs,x,bT.of h1,e1⟩,λy H2 hy=>?_⟩;obtain⟨rfl,hy⟩:=hy;have:=(hy vs (bT.of h1)).symm.trans e1;cases this;exact⟨dH.refl _,r2⟩
 .exact⟨vs,bT.of h1,by rw[r1.length];exact ar _⟩
theorem Wy(h:aY K cl E X e m):PIp K cl E X tg e (bD m):=by
 intro hK;subst hK;refine PI.imp (Qk (h rfl)) ?_
 rintro σ H R ⟨p,S,ρ,s,ev,h⟩
 refine cG s ev h λq H' v x S' stp sm ev r k=>?_;cases v with
 |ref j=>
  obtain⟨a,e,rfl⟩:=r;unfold bS at k;dsimp only at k;cases z:S'[j]? with
  |none=>rw[z]at k;exact k.elim
  |some o=>
   cases o with
   |lst xs=>
    rw[z]at k;obtain⟨vs,h1,l1,r1⟩:=sm.obj j a _ e z;exact⟨a,rfl,.inl ⟨⟨vs,bT.of h1⟩,cE.ret (R:=fO X.K) k sm (G5 (n:=by rw[r1.length];exact l1) e)⟩⟩
   |lol _=>rw[z]at k;exact k.elim
   |dic _ _=>rw[z]at k;exact k.elim
   |dol _ _=>rw[z]at k;exact k.elim
 |pv v=>
  cases v with
  |lst xs=>
   have r:aU X.K q.c H' (.lst xs) x:=r;unfold aU at r;obtain⟨a,vs,rfl,l,z,r⟩:=r;exact⟨a,rfl,.inl ⟨⟨vs,l.sq⟩,cE.ret (R:=fO X.K) k sm (O7 l z r)⟩⟩
  |tup xs=>
   have r:aU X.K q.c H' (.tup xs) x:=r;unfold aU at r;obtain⟨a,vs,rfl,l,z,r⟩:=r;exact⟨a,rfl,.inr ⟨⟨vs,l⟩,cE.ret (R:=fO X.K) k sm (O8 l z r)⟩⟩
  |_=>exact k.elim
def cR(lo:Int)(n:Nat):AH:=(ax n).map λi=>.int (lo+(i:Nat))
def iY:AK->aG->bO (AH×Gd)
 |[.pv (.int j)],S1=>@ite _ (j<=16777216/\-16777216<=j) (qo _) (.ok (cR 0 j.toNat,[]) S1) .fail
 |_,_=>.fail
def cZ(ms:MA):MI:=λρ S=>(ms ρ S).bind iY
def rW:AK->aG->bO (AH×Gd)
 |[.pv (.int i),.pv (.int j)],S1=>@ite _ ((-4611686018427387904<=i/\i<4611686018427387904/\-4611686018427387904<=j/\j<4611686018427387904)/\j-i<=16777216) (qo _) (.ok (cR i (j-i).toNat,[]) S1) .fail
 |_,_=>.fail
def jZ(ms:MA):MI:=λρ S=>(ms ρ S).bind rW
theorem El{p:Ph}{H:Hp}{lo:Int}{n:Nat}(h:n<=sizeLine):fO K p H (cR lo n,[]) (sE lo n):=by
 have hl:(cR lo n).length=n:=by unfold cR;rw[ak,jf]
 refine⟨by show(cR lo n).length<=_;rw[hl];exact h,λq H1 S1 st _ _=>⟨λi v e=>?_,?_⟩⟩
 .have hi:i<n:=by
   have:=(ck.mp (show(cR lo n)[i]?=some v from e)).1;omega
  refine⟨hi,λx H2 hy=>?_⟩;obtain⟨rfl,rfl⟩:=hy;have e:(cR lo n)[i]?=some v:=e;unfold cR at e;rw[di,List.getElem?_range hi]at e;cases e;refine⟨dH.refl _,?_⟩;unfold aU;rfl
 .show n<=(cR lo n).length
  rw[hl];exact ar n
theorem Gr{p:ai}(hg:Gl X "range")(hm:X.mg "range"=none)(ha:eU K cl E X [a] ms)(hs:starEach [a] X.env=[(false,eval a X.env)]:=by rfl):PIp K cl E X tg (.Call (.Name "range" p) [a] [] pos) (cZ ms):=by
 intro hK;subst hK;refine PI.imp (Vs hg hm (ha rfl) hs) ?_
 rintro σ H R ⟨p,S,ρ,s,ev,h⟩
 refine cG s ev h λq H' vs xs S' stp sm ev r k=>?_;unfold iY at k;split at k
 .rename_i j
  cases r with
  |cons r1 r2=>
   cases r2;rename_i x;have e:x=.int j:=by
    have r1:aU X.K q.c H' (.int j) x:=r1;unfold aU at r1;exact r1
   subst e;split at k
   .rename_i hj
    have hz:=iS;exact⟨j,rfl,by omega,by omega,cE.ret (R:=fO X.K) k sm (El (by omega))⟩
   .exact k.elim
 .exact k.elim
theorem Kr{p:ai}(hg:Gl X "range")(hm:X.mg "range"=none)(ha:eU K cl E X [a,b] ms)(hs:starEach [a,b] X.env=[(false,eval a X.env),(false,eval b X.env)]:=by rfl)(hs2:starEach [b] X.env=[(false,eval b X.env)]:=by rfl):PIp K cl E X tg (.Call (.Name "range" p) [a,b] [] pos) (jZ ms):=by
 intro hK;subst hK;refine PI.imp (Qt hg hm (ha rfl) hs hs2) ?_
 rintro σ H R ⟨p,S,ρ,s,ev,h⟩
 refine cG s ev h λq H' vs xs S' stp sm ev r k=>?_;unfold rW at k;split at k
 .rename_i i j
  cases r with
  |cons r1 r2=>
   cases r2 with
   |cons r2 r3=>
    cases r3;rename_i x y;have e:x=.int i:=by
     have r1:aU X.K q.c H' (.int i) x:=r1;unfold aU at r1;exact r1
    have e2:y=.int j:=by
     have r1:aU X.K q.c H' (.int j) y:=r2;unfold aU at r1;exact r1
    subst e e2;split at k
    .rename_i hj
     have hz:=iS;exact⟨i,j,rfl,by omega,cE.ret (R:=fO X.K) k sm (El (by omega))⟩
    .exact k.elim
 .exact k.elim
theorem Gy{mi:MI}{g:GM}(hp:qc (model X.prog X.w) X.A X.env X.xe)(hc:X.calm=true)(hi:PIp K cl E X tg e mi)(hg:lO K X tg g)(hb:fT K cl E X sts b1)
  (hs:∀x,foldedSetIterable e X.env x=pure x:=by intro _;rfl):eO K cl E X (.For tg e sts [] pos) (bK mi g b1):=by
 intro hK;subst hK;refine PS.imp (Hl hp hc (hi rfl) (hg rfl) (hb rfl) hs) ?_
 rintro D σ H ⟨p,S,ρ,s,ev,h⟩
 refine jJ s ev h λq H' xg J S' stp sm ev it k=>?_;obtain⟨xs,G⟩:=xg;refine⟨λi n σ H=>n=xs.length-i/\i<=xs.length/\∃p S ρ,aX X.K p S H/\dR X.K p H ρ σ/\fO X.K p H (xs,G) J/\eG X.K cl p H (cJ G g b1 (xs.drop i) ρ S) D E,⟨xs.length,by simp,iz _,q,S',ρ,sm,ev,it,by simpa using k⟩,?_⟩
 rintro i n σ1 H1 ⟨rfl,hi,p1,S1,ρ1,sm1,ev1,it1,k1⟩
 by_cases hlt:i<xs.length
 .have hx:xs[i]?=some xs[i]:=av hlt
  rw[wo hlt]at k1;unfold cJ at k1;split at k1
  .rename_i gk
   obtain⟨g1,y1⟩:=(it1.2 p1 H1 S1 sm1.step sm1 gk).1 i _ hx;cases z:g xs[i] ρ1 with
   |none=>simp only[z]at k1;exact k1.elim
   |some ρ2=>
    simp only[z]at k1;refine .inr ⟨g1,λσ' H'=>i+1<=xs.length/\∃p S ρ,aX X.K p S H'/\dR X.K p H' ρ σ'/\fO X.K p H' (xs,G) J/\eG X.K cl p H' (cJ G g b1 (xs.drop (i+1)) ρ S) D E,λσ' H' hN=>⟨xs.length-(i+1),by omega,rfl,hN⟩,λx H2 hy=>?_⟩;obtain⟨same,rx⟩:=y1 x H2 hy;have st2:=sm1.same same;have sm2:=sm1.ofSame same;refine⟨p1,S1,ρ1,xs[i],ρ2,sm2,st2.repE ev1,rx,z,λσ3 ev3=>⟨p1,S1,ρ2,sm2,ev3,?_⟩⟩;have it2:=it1.step st2;cases y:b1 ρ2 S1 with
    |nx ρ4 S4=>
     rw[y]at k1;exact λq5 H5 σ5 st5 sm5 ev5=>⟨hlt,q5,S4,ρ4,sm5,ev5,it2.step st5,eG.mono (r:=cJ G g b1 (xs.drop (i+1)) ρ4 S4) k1 (st2.trans st5)⟩
    |ct ρ4 S4=>
     rw[y]at k1;exact λq5 H5 σ5 st5 sm5 ev5=>⟨hlt,q5,S4,ρ4,sm5,ev5,it2.step st5,eG.mono (r:=cJ G g b1 (xs.drop (i+1)) ρ4 S4) k1 (st2.trans st5)⟩
    |bk ρ4 S4=>rw[y]at k1;exact eG.mono (r:=.nx ρ4 S4) k1 st2
    |rt v S4=>rw[y]at k1;exact eG.mono (r:=.rt v S4) k1 st2
    |exc v S4=>rw[y]at k1;exact eG.mono (r:=.exc v S4) k1 st2
    |fail=>rw[y]at k1;exact k1.elim
  .exact k1.elim
 .have e:i=xs.length:=by omega
  subst e;rw[wq]at k1;unfold cJ at k1;split at k1
  .rename_i gk
   exact .inl ⟨(it1.2 p1 H1 S1 sm1.step sm1 gk).2,eG.nxD k1 sm1 ev1⟩
  .exact k1.elim
theorem Ms(hp:qc (model X.prog X.w) X.A X.env X.xe)(hc:fV K cl E X c mt)(hb:fT K cl E X sts b1):eO K cl E X (.While c sts [] pos) (lZ mt b1):=by
 intro hK;subst hK;refine PS.imp (Av hp (hc rfl) (hb rfl)) ?_
 rintro D σ H ⟨p,S,ρ,s,ev,h⟩
 unfold lZ at h;split at h
 .rename_i hh
  refine⟨λn σ H=>∃p S ρ,aX X.K p S H/\dR X.K p H ρ σ/\eG X.K cl p H (dZ mt b1 n ρ S) D E,⟨_,p,S,ρ,s,ev,h⟩,?_⟩
  rintro n σ1 H1 ⟨p1,S1,ρ1,sm1,ev1,k1⟩
  cases n with
  |zero=>exact k1.elim
  |succ n=>
   unfold dZ at k1;refine jJ sm1 ev1 k1 λq H2 t t' S2 stp sm2 ev2 r k2=>?_;cases r;cases t with
   |true=>
    rw[if_pos rfl]at k2⊢;refine⟨λσ' H'=>∃p S ρ,aX X.K p S H'/\dR X.K p H' ρ σ'/\eG X.K cl p H' (dZ mt b1 n ρ S) D E,λσ' H' hN=>⟨n,wr n,hN⟩,q,S2,ρ1,sm2,ev2,?_⟩;cases y:b1 ρ1 S2 with
    |nx ρ4 S4=>
     rw[y]at k2;exact λq5 H5 σ5 st5 sm5 ev5=>⟨q5,S4,ρ4,sm5,ev5,eG.mono (r:=dZ mt b1 n ρ4 S4) k2 st5⟩
    |ct ρ4 S4=>
     rw[y]at k2;exact λq5 H5 σ5 st5 sm5 ev5=>⟨q5,S4,ρ4,sm5,ev5,eG.mono (r:=dZ mt b1 n ρ4 S4) k2 st5⟩
    |bk ρ4 S4=>rw[y]at k2;exact k2
    |rt v S4=>rw[y]at k2;exact k2
    |exc v S4=>rw[y]at k2;exact k2
    |fail=>rw[y]at k2;exact k2.elim
   |false=>
    rw[if_neg lh]at k2⊢;exact eG.nxD k2 sm2 ev2
 .exact h.elim
end
end
def gO(n:Nat)(xs:AK):bR:=xs.map some++qz (n-xs.length) none
def kC(n:Nat):AV->aG->bO AV
 |.pv v,S=>.ok (.pv v) (S.take n)
 |.ref k,S=>if k<n then .ok (.ref k) (S.take n)else match S[k]? with
  |some (.lst xs)=>.ok (.ref n) (S.take n++[.lst xs])
  |some (.dic b kvs)=>.ok (.ref n) (S.take n++[.dic b kvs])
  |_=>.fail
def frz(n:Nat):bO AV->bO AV
 |.ok (.ref k) S=>if k<n then .ok (.ref k) S else match S[k]? with
  |some (.lst xs)=>.ok (.pv (.lst xs)) (S.take n)
  |_=>.fail
 |r=>r
def lY(n:Nat):cF->bO AV
 |.rt v S=>kC n v S
 |.nx _ S=>.ok (.pv .non) (S.take n)
 |.exc e S=>.exc e (S.take n)
 |_=>.fail
def aR(np n:Nat)(b:MS)(xs:AK)(S:aG):bO AV:=if xs.length=np then lY S.length (b (gO n xs) S)else .fail
def iV{α:Type}:bO α->bO α
 |.ok a S=>.ok a S
 |_=>.fail
abbrev FM:=AK->aG->bO AV
def fL(f:FM)(ds:AH)(ms:MA):ME:=λρ S=>(ms ρ S).bind λxs S1=>frz S1.length (f (xs++ds.map .pv) S1)
def aP(f:FM)(ds:AH)(ms:MA):ME:=λρ S=>(ms ρ S).bind λxs S1=>frz S1.length (iV (f (xs++ds.map .pv) S1))
def pP(f:FM)(ds:AH)(ms:MA):ME:=λρ S=>(ms ρ S).bind λxs S1=>iV (f (xs++ds.map .pv) S1)
def jW(K:ae)(cl:Str->Addr)(f:FM):Sp:=λvs H Q E=>∃p S xs,aX K p S H/\fX K p H xs vs/\cE K cl (cU K) p H (f xs S) Q E
def kE(K:ae)(cl:Str->Addr)(f:FM):Sp:=λvs H Q _=>jW K cl f vs H Q E0
section
variable{K:ae}{cl:Str->Addr}{p q:Ph}{H H':Hp}{S S':aG}
theorem Jd{c c':Addr->Prop}(h:∀a,c a->c' a){a:Addr}{vs:List V}(l:jT K c' H a vs):jT K c H a vs:=by
 rcases l with⟨l,n⟩|l |l
 .exact .inl ⟨l,λz=>n (h a z)⟩
 .exact .inr (.inl l)
 .exact .inr (.inr l)
theorem qN{c c':Addr->Prop}(h:∀a,c a->c' a){ps:AH}{vs:List V}(r:aQ K c' H ps vs):aQ K c H ps vs:=aQ.mono (λ_ _ t=>t) (λ_ _ l=>Jd h l) ps vs r
theorem Yq{c c':Addr->Prop}(h:∀a,c a->c' a){v:PV}{x:V}(r:aU K c' H v x):aU K c H v x:=aU.mono (λ_ _ t=>t) (λ_ _ l=>Jd h l) v x r
theorem Yp{f g:List Addr}(h:f <+:g):g.take f.length=f:=by
 obtain⟨t,e⟩:=h;rw[<-e,List.take_left]
theorem qS{α:Type}:∀{l:List α}{i j:Nat}{a:α},l.Nodup->l[i]?=some a->l[j]?=some a->i=j
 |[],i,j,a,_,e,_=>by simp at e
 |b::l,0,0,a,_,_,_=>rfl
 |b::l,0,j+1,a,n,e,f=>by
  simp at e f;subst e;exact absurd (dz f) (lq.mp n).1
 |b::l,i+1,0,a,n,e,f=>by
  simp at e f;subst f;exact absurd (dz e) (lq.mp n).1
 |b::l,i+1,j+1,a,n,e,f=>by
  exact congrArg (·+1) (qS (l:=l) (a:=a) (lq.mp n).2 (by simpa using e) (by simpa using f))
theorem aX.cutX(D:Addr->Prop)(s:aX K p S H)(st:bP p H q H')(s':aX K q S' H')(hD:∀b,D b->H b=none)(hq:(∀b,D b->b∈q.f)\/∀k o,S'[k]?=some o->k<S.length->∃xs,o=.lst xs):
  let r:Ph:=⟨p.f,λb=>q.w b/\¬D b,λb=>q.c b/\¬D b⟩
  bP p H r H'/\aX K r (S'.take S.length) H':=by
 intro r;have nD:∀a,p.c a->¬D a:=λa c d=>by
  obtain⟨o,ho,_⟩:=s.mu a c;rw[hD a d]at ho;cases ho
 have le:S.length<=S'.length:=by
  have:=st.pre.length_le;rw[<-s.len,<-s'.len];exact this
 refine⟨⟨s.wc,s.mu,kb,λa h=>⟨st.mw a h,nD a (s.wc a h)⟩,λa h=>⟨st.mono a h,nD a h⟩,λ_ h g=>absurd h g,λa h=>st.nw a h.1,λa h=>st.nc a h.1,st.keep⟩,s.nd,by rw[s.len,jz];omega,λa h=>⟨st.mw a (s.sub a h),nD a (s.wc a (s.sub a h))⟩,λa h=>⟨s'.wc a h.1,h.2⟩,λa h=>s'.mu a h.1,λk a o e1 e2=>?_⟩;have hk:k<S.length:=by
  have:=(ck.mp e1).1;rw[<-s.len];exact this
 have e2':S'[k]?=some o:=by
  rw[sw,if_pos hk]at e2;exact e2
 have z:=s'.obj k a o (st.at_ e1) e2';have shr:∀xs vs,aQ K q.c H' xs vs->aQ K r.c H' xs vs:=λxs vs=>qN (λb h=>h.1);have sub:∀b,b∉q.f->b∉p.f:=λb n h=>n (st.pre.subset h);rcases hq with hq |hq
 .exact z.mono (λ_ e=>e) (λb w f=>⟨⟨⟨w,λd=>f (hq b d)⟩,sub b f⟩,λ_ e=>e⟩) shr
 .obtain⟨xs,rfl⟩:=hq k o e2' hk
  obtain⟨vs,e,l,g⟩:=z;exact⟨vs,e,l,shr xs vs g⟩
theorem aX.cut(s:aX K p S H)(st:bP p H q H')(s':aX K q S' H'):bP p H ⟨p.f,λb=>q.w b/\¬False,λb=>q.c b/\¬False⟩ H'/\aX K ⟨p.f,λb=>q.w b/\¬False,λb=>q.c b/\¬False⟩ (S'.take S.length) H':=
 s.cutX (λ_=>False) st s' (λ_ h=>h.elim) (.inl λ_ h=>h.elim)
theorem xP(s:aX K p S H)(st:bP p H q H')(sm:aX K q S' H'){k:Nat}{a:Addr}(e:q.f[k]?=some a)(hk:¬k<S.length):a∉p.f/\H a=none/\¬p.c a:=by
 have na:a∉p.f:=λhm=>by
  obtain⟨j,hj,ej⟩:=kn hm;have e2:q.f[j]?=some a:=st.at_ (by rw[av hj,ej]);have hjk:j=k:=qS sm.nd e2 e;rw[s.len]at hj;omega
 have hn:=st.nf a (dz e) na;refine⟨na,hn,λc=>?_⟩;obtain⟨o,ho,_⟩:=s.mu a c;rw[hn]at ho;cases ho
theorem yI{r:bO AV}{Q:VK}{E:XK}(s:aX K p S H)(h:cE K cl (cU K) p H (frz S.length r) Q E):cE K cl (cU K) p H r Q E:=by
 cases r with
 |exc n S1=>exact h
 |fail=>exact h
 |ok v S1=>
  cases v with
  |pv v=>exact h
  |ref k=>
   have h:cE K cl (cU K) p H (if k<S.length then .ok (.ref k) S1 else match S1[k]? with
    |some (.lst xs)=>.ok (.pv (.lst xs)) (S1.take S.length)
    |_=>.fail) Q E:=h
   split at h
   .exact h
   .rename_i hk
    cases z:S1[k]? with
    |none=>rw[z]at h;exact h.elim
    |some o=>
     cases o with
     |lol _=>rw[z]at h;exact h.elim
     |dic _ _=>rw[z]at h;exact h.elim
     |dol _ _=>rw[z]at h;exact h.elim
     |lst xs=>
      rw[z]at h;intro q H' x st sm r;obtain⟨a,e,rfl⟩:=r;obtain⟨na,hn,nc⟩:=xP s st sm e hk;obtain⟨st1,sm1⟩:=s.cutX (λb=>b=a) st sm (λb d=>d▸hn) (.inl λb d=>d▸dz e);obtain⟨vs,h1,l,r⟩:=sm.obj k a _ e z;refine h _ H' (.ref a) st1 sm1 ?_;show aU K (λb=>q.c b/\¬b=a) H' (.lst xs) (.ref a);unfold aU;exact⟨a,vs,rfl,.inl ⟨h1,λd=>d.2 rfl⟩,l,qN (λb h=>h.1) r⟩
theorem wO{r:cF}{Q:VK}{E:XK}(s:aX K p S H)(h:cE K cl (cU K) p H (lY S.length r) Q E):eG K cl p H r {nx:=λ_ H'=>Q .non H',rt:=Q} E:=by
 cases r with
 |nx ρ S1=>
  intro q H' σ st sm ev;obtain⟨st1,sm1⟩:=s.cut st sm;exact h _ H' .non st1 sm1 (by show aU K (λb=>q.c b/\¬False) H' .non .non;unfold aU;rfl)
 |exc n S1=>
  intro q H' st sm;obtain⟨st1,sm1⟩:=s.cut st sm;exact h _ H' st1 sm1
 |rt v S1=>
  intro q H' x st sm r;obtain⟨st1,sm1⟩:=s.cut st sm;cases v with
  |pv v=>exact h _ H' x st1 sm1 (show aU K (λb=>q.c b/\¬False) H' v x from Yq (λb h=>h.1) r)
  |ref k=>
   obtain⟨a,e,rfl⟩:=r;have h:cE K cl (cU K) p H (if k<S.length then .ok (.ref k) (S1.take S.length)else match S1[k]? with
    |some (.lst xs)=>.ok (.ref S.length) (S1.take S.length++[.lst xs])
    |some (.dic b kvs)=>.ok (.ref S.length) (S1.take S.length++[.dic b kvs])
    |_=>.fail) Q E:=h
   split at h
   .rename_i hk
    refine h _ H' (.ref a) st1 sm1 ⟨a,?_,rfl⟩;show p.f[k]?=some a;have hf:=Yp st.pre;rw[<-hf,sw,if_pos (by rw[s.len];exact hk)];exact e
   .rename_i hk
    have fin:∀o,S1[k]?=some o->cE K cl (cU K) p H (.ok (.ref S.length) (S1.take S.length++[o])) Q E->Q (.ref a) H':=λo z h=>by
     obtain⟨na,hn,nc⟩:=xP s st sm e hk;have l1:(S1.take S.length).length=S.length:=by rw[<-sm1.len,<-s.len]
     have ma:a∈q.f:=dz e;refine h ⟨p.f++[a],q.w,q.c⟩ H' (.ref a) ⟨s.wc,s.mu,⟨[a],rfl⟩,st.mw,st.mono,λb hb n=>?_,st.nw,st.nc,st.keep⟩ ⟨?_,?_,λb hb=>?_,sm.wc,sm.mu,λj b o e1 e2=>?_⟩ ⟨a,?_,rfl⟩
     .rcases cv.mp hb with z |z
      .exact absurd z n
      .have:b=a:=by simpa using z
       rw[this];exact hn
     .show(p.f++[a]).Nodup
      rw[sy];refine⟨s.nd,by simp,λb hb c hc z=>?_⟩;have:c=a:=by simpa using hc
      exact na (this▸z▸hb)
     .show(p.f++[a]).length=_
      rw[bn,bn,l1,s.len];rfl
     .rcases cv.mp hb with z |z
      .exact st.mw b (s.sub b z)
      .have:b=a:=by simpa using z
       rw[this];exact sm.sub a ma
     .by_cases hj:j<S.length
      .have e1':p.f[j]?=some b:=by
        have e1:(p.f++[a])[j]?=some b:=e1
        rwa[du (by rw[s.len];exact hj)]at e1
       rw[du (by rw[l1];exact hj),sw,if_pos hj]at e2;refine(sm.obj j b o (st.at_ e1') e2).mono (λ_ e=>e) (λc w f=>⟨⟨w,λm=>?_⟩,λ_ e=>e⟩) λ_ _ r=>r;rcases cv.mp m with z |z
       .exact f (st.pre.subset z)
       .have:c=a:=by simpa using z
        exact f (this▸ma)
      .have hj':j=S.length:=by
        have:=(ck.mp e2).1;rw[bn,l1]at this;simp at this;omega
       subst hj';rw[dy (by rw[l1];exact ar _),l1,jb]at e2;have e1:(p.f++[a])[S.length]?=some b:=e1;rw[<-s.len,dy (ar _),jb]at e1;cases e1;cases e2;refine(sm.obj k a _ e z).mono (λ_ e=>e) (λc w f=>⟨⟨w,λm=>?_⟩,λ_ e=>e⟩) λ_ _ r=>r;rcases cv.mp m with z |z
       .exact f (st.pre.subset z)
       .have:c=a:=by simpa using z
        exact f (this▸ma)
     .show(p.f++[a])[S.length]?=some a
      rw[<-s.len,dy (ar _),jb];rfl
    split at h
    .rename_i z
     exact fin _ z h
    .rename_i z
     exact fin _ z h
    .exact h.elim
 |bk ρ S1=>exact h.elim
 |ct ρ S1=>exact h.elim
 |fail=>exact h.elim
theorem sU{N:List Str}{xs:AK}{vs:List V}(r:fX K p H xs vs):dR K p H (gO N.length xs) (L2.start N vs):=by
 have go:∀{xs:AK}{vs:List V},fX K p H xs vs->xs.length=vs.length:=λ{xs vs} r=>by
  induction r with
  |nil=>rfl
  |cons _ _ ih=>rw[db,db,ih]
 have get:∀{xs:AK}{vs:List V},fX K p H xs vs->∀(i:Nat)(v:AV),xs[i]?=some v->∃x,vs[i]?=some x/\cU K p H v x:=λ{xs vs} r=>by
  induction r with
  |nil=>intro i v e;simp at e
  |cons h _ ih=>
   intro i v e;cases i with
   |zero=>
    simp at e;subst e;exact⟨_,rfl,h⟩
   |succ i=>simpa using ih i v (by simpa using e)
 have hl:=go r;refine⟨by unfold gO L2.start;simp[hl],λi v e=>?_⟩;unfold gO at e;unfold L2.start
 by_cases hi:i<xs.length
 .rw[du (by simpa using hi),di]at e
  cases z:xs[i]? with
  |none=>rw[z]at e;cases e
  |some u=>
   rw[z]at e;cases e;obtain⟨x,e1,e2⟩:=get r i v z;refine⟨x,?_,e2⟩;rw[du (by rw[ak,<-hl];exact hi),di,e1];rfl
 .rw[dy (by rw[ak];omega),yn]at e
  split at e
  .cases e
  .cases e
end
section
variable{P:Program}{w:aj}{K:ae}{mg:Str->AE}{base:Heap}{cl:Str->Addr}
theorem Hf{K:ae}{p:Ph}{H:Hp}{xs:AK}{vs:List V}(h:fX K p H xs vs):xs.length=vs.length:=by
 induction h with
 |nil=>rfl
 |cons _ _ ih=>rw[db,db,ih]
theorem zL{np n:Nat}{b:MS}{vs:List V}{H:Hp}{Q:VK}{E:XK}(h:jW K cl (aR np n b) vs H Q E):vs.length=np:=by
 obtain⟨p,S,xs,sm,ra,h⟩:=h;unfold aR at h;split at h
 .rename_i e
  rw[<-Hf ra,e]
 .exact h.elim
theorem Yo{x qual:Str}{st:Stmt}{f:Addr}{fd:bj}{N ps:List Str}{k np n:Nat}{b:MS}(F:iG K x qual st f fd)(S:gZ N ps (cC st))(hnp:ps.length=np)(hn:N.length=n)
  (hb:∀(cdv:Value)(A:al)(outer:List ay)(s:aa)(H:Hp)(E:XK),dI k (A.deeper (envOfC qual (cC st) s.heap.objs.size f cdv))->fT K cl E0 (cM fB P w K mg base N qual (cC st) f cdv A outer s H E).nox (eC st) b):
  eA P w K mg base fB (k+1) f fd ps (kE K cl (aR np n b)):=by
 subst hnp hn;refine F.ok S (λvs H Q E h=>zL h) λcdv A outer s H vs Q E hr h=>⟨_,hb cdv A outer s H E hr rfl,?_⟩;obtain⟨p,S,xs,sm,ra,h⟩:=h;unfold aR at h;split at h
 .exact⟨p,S,_,sm,sU ra,wO sm h⟩
 .exact h.elim
theorem okX{x qual:Str}{st:Stmt}{f:Addr}{fd:bj}{N ps:List Str}{k np n:Nat}{b:MS}(F:iG K x qual st f fd)(S:gZ N ps (cC st))(hnp:ps.length=np)(hn:N.length=n)
  (hb:∀(cdv:Value)(A:al)(outer:List ay)(s:aa)(H:Hp)(E:XK),dI k (A.deeper (envOfC qual (cC st) s.heap.objs.size f cdv))->fT K cl E (cM (dG P w) P w K mg base N qual (cC st) f cdv A outer s H E) (eC st) b):
  eA P w K mg base (dG P w) (k+1) f fd ps (jW K cl (aR np n b)):=by
 subst hnp hn;refine F.okX S (λvs H Q E h=>zL h) λcdv A outer s H vs Q E hr h=>⟨_,hb cdv A outer s H E hr rfl,?_⟩;obtain⟨p,S,xs,sm,ra,h⟩:=h;unfold aR at h;split at h
 .exact⟨p,S,_,sm,sU ra,wO sm h⟩
 .exact h.elim
theorem aaC{x qual:Str}{st:Stmt}{f:Addr}{fd:bj}{ds:Array Value}{N ps:List Str}{k np n:Nat}{b:MS}(F:lH K x qual st f fd ds)(S:gZ N ps (cC st))(hnp:ps.length=np)(hn:N.length=n)
  (hb:∀(cdv:Value)(A:al)(outer:List ay)(s:aa)(H:Hp)(E:XK),dI k (A.deeper (envOfC qual (cC st) s.heap.objs.size f cdv))->fT K cl E (cM (dG P w) P w K mg base N qual (cC st) f cdv A outer s H E) (eC st) b):
  eA P w K mg base (dG P w) (k+1) f fd ps (jW K cl (aR np n b)):=by
 subst hnp hn;refine F.okX S (λvs H Q E h=>zL h) λcdv A outer s H vs Q E hr h=>⟨_,hb cdv A outer s H E hr rfl,?_⟩;obtain⟨p,S,xs,sm,ra,h⟩:=h;unfold aR at h;split at h
 .exact⟨p,S,_,sm,sU ra,wO sm h⟩
 .exact h.elim
theorem x0{f:Addr}{fd:bj}{ps:List Str}{k:Nat}{g:FM}(F:eA P w K mg base (dG P w) k f fd ps (jW K cl g)):eA P w K mg base fB k f fd ps (kE K cl g):=
 ⟨λvs H Q E h=>F.len vs H Q E0 h,λA outer s H args us vs Q E hr e0 hb hv h=>qy (F.run A outer s H args us vs Q E0 hr e0 hb hv h) λr s' hq=>by
  cases r with
  |error e=>
   obtain⟨_,_,_,_,_,_,_,_,_,_,_,_,z⟩:=hq;exact z
  |ok fl=>
   cases fl with
   |ret u=>exact hq
   |next=>exact hq
   |brk=>exact hq
   |cont=>exact hq⟩
end
section
variable{K:ae}{cl:Str->Addr}{E:XK}{X:Cx}{e:ag}{es:List ag}{ms:MA}{pos p:ai}{k n:Nat}{f:Addr}{fd:bj}{ps:List Str}{g:FM}{x:Str}{dvs:List V}{ds:AD}{dv:AH}
theorem sN{p:Ph}{H:Hp}{xs ys:AK}{vs ws:List V}(h:fX K p H xs vs)(g:fX K p H ys ws):fX K p H (xs++ys) (vs++ws):=by
 induction h with
 |nil=>exact g
 |cons h _ ih=>exact .cons h ih
def Dv(dv:AH)(dvs:List V):Prop:=∀K p H,fX K p H (dv.map .pv) dvs
theorem Dv.nil:Dv [] []:=λ_ _ _=>.nil
theorem A5(F:eA X.prog X.w X.K X.mg X.base fB k f fd ps (kE K cl g))(hr:dI k X.A)(hg:Gl X x)(hm:X.mg x=some (.ref f))(hk:fg X.K (.ref f)=true)(hb:iM X.K fd ps ds)(hd:bC dvs ds)(hv:Dv dv dvs)
  (ha:eU K cl E0 X (e::es) ms)(hdb:(x==("__debug__":Str))=false:=by decide)(he:starEach (e::es) X.env=(false,eval e X.env)::starEach es X.env:=by rfl)(hpl:(backTo pos (starEach es X.env)).any (·.1)=false:=by rfl):
  aY K cl E0 X (.Call (.Name x p) (e::es) [] pos) (fL g dv ms):=by
 intro hK;refine PE.imp (uA F hr hg hm hk hb hd Pa (ha hK) hdb he hpl) ?_
 rintro σ H Q ⟨p,S,ρ,s,ev,h⟩
 exact cG s ev h λq H' as xs S' stp sm ev r k=>⟨q,S',_,sm,sN r (hv K q H'),yI sm k⟩
theorem Ae{α β:Type}{R:Ph->Hp->α->β->Prop}{p:Ph}{H:Hp}{r:bO α}{Q:β->Hp->Prop}(h:cE K cl R p H (iV r) Q E):cE K cl R p H r Q E0:=by
 cases r with
 |ok a S=>exact h
 |exc n S=>exact h.elim
 |fail=>exact h.elim
theorem Wv(F:eA X.prog X.w X.K X.mg X.base fB k f fd ps (kE K cl g))(hr:dI k X.A)(hg:Gl X x)(hm:X.mg x=some (.ref f))(hk:fg X.K (.ref f)=true)(hb:iM X.K fd ps ds)(hd:bC dvs ds)(hv:Dv dv dvs)
  (ha:eU K cl E X (e::es) ms)(hdb:(x==("__debug__":Str))=false:=by decide)(he:starEach (e::es) X.env=(false,eval e X.env)::starEach es X.env:=by rfl)(hpl:(backTo pos (starEach es X.env)).any (·.1)=false:=by rfl):
  aY K cl E X (.Call (.Name x p) (e::es) [] pos) (aP g dv ms):=by
 intro hK;refine PE.imp (uA F hr hg hm hk hb hd Pa (ha hK) hdb he hpl) ?_
 rintro σ H Q ⟨p,S,ρ,s,ev,h⟩
 exact cG s ev h λq H' as xs S' stp sm ev r k=>⟨q,S',_,sm,sN r (hv K q H'),Ae (yI sm k)⟩
theorem Lw(F:eA X.prog X.w X.K X.mg X.base fB k f fd ps (kE K cl g))(hr:dI k X.A)(hg:Gl X x)(hm:X.mg x=some (.ref f))(hk:fg X.K (.ref f)=true)(hb:iM X.K fd ps ds)(hd:bC dvs ds)(hv:Dv dv dvs)
  (ha:eU K cl E X (e::es) ms)(hdb:(x==("__debug__":Str))=false:=by decide)(he:starEach (e::es) X.env=(false,eval e X.env)::starEach es X.env:=by rfl)(hpl:(backTo pos (starEach es X.env)).any (·.1)=false:=by rfl):
  aY K cl E X (.Call (.Name x p) (e::es) [] pos) (pP g dv ms):=by
 intro hK;refine PE.imp (uA F hr hg hm hk hb hd Pa (ha hK) hdb he hpl) ?_
 rintro σ H Q ⟨p,S,ρ,s,ev,h⟩
 exact cG s ev h λq H' as xs S' stp sm ev r k=>⟨q,S',_,sm,sN r (hv K q H'),Ae k⟩
theorem Xu{P:Program}{w:aj}{mg:Str->AE}{base:Heap}{N:List Str}{qual:Str}{scope:Scope}{fo:Addr}{cd:Value}{A:al}{outer:List ay}{AN:aa}{AO:Hp}
  (F:eA P w K mg base (dG P w) k f fd ps (jW K cl g))(hr:dI k (cM (dG P w) P w K mg base N qual scope fo cd A outer AN AO E).A)(hg:Gl (cM (dG P w) P w K mg base N qual scope fo cd A outer AN AO E) x)(hm:mg x=some (.ref f))(hk:fg K (.ref f)=true)(hb:iM K fd ps ds)(hd:bC dvs ds)(hv:Dv dv dvs)
  (ha:eU K cl E (cM (dG P w) P w K mg base N qual scope fo cd A outer AN AO E) (e::es) ms)(hdb:(x==("__debug__":Str))=false:=by decide)
  (he:starEach (e::es) (cM (dG P w) P w K mg base N qual scope fo cd A outer AN AO E).env=(false,eval e (cM (dG P w) P w K mg base N qual scope fo cd A outer AN AO E).env)::starEach es (cM (dG P w) P w K mg base N qual scope fo cd A outer AN AO E).env:=by rfl)
  (hpl:(backTo pos (starEach es (cM (dG P w) P w K mg base N qual scope fo cd A outer AN AO E).env)).any (·.1)=false:=by rfl):
  aY K cl E (cM (dG P w) P w K mg base N qual scope fo cd A outer AN AO E) (.Call (.Name x p) (e::es) [] pos) (fL g dv ms):=by
 intro hK;refine PE.imp (uA F hr hg hm hk hb hd T5 (ha hK) hdb he hpl) ?_
 rintro σ H Q ⟨p,S,ρ,s,ev,h⟩
 exact cG s ev h λq H' as xs S' stp sm ev r k=>⟨q,S',_,sm,sN r (hv K q H'),yI sm k⟩
def nO(n:Str):MS:=λ_ S=>.exc n S
theorem Rs{P:Program}{w:aj}{mg:Str->AE}{base:Heap}{N:List Str}{qual:Str}{scope:Scope}{f:Addr}{cd:Value}{A:al}{outer:List ay}{AN:aa}{AO:Hp}
  {txt:Str}{j:Nat}{np p1 cpos:ai}(hg:Gl (cM (dG P w) P w K mg base N qual scope f cd A outer AN AO E) x)(hm:mg x=some (.ref (cl x)))(hx:ja K (cl x) kA "ValueError.__new__"=true)
  (hd:(x==("__debug__":Str))=false:=by decide):
  eO K cl E (cM (dG P w) P w K mg base N qual scope f cd A outer AN AO E) (.Raise (some (.Call (.Name x np) [.Constant (.str txt) j p1] [] cpos)) none pos) (nO x):=
 λ_=>PS.imp (Uv hg hm hx hd) λD σ H ⟨p,S,ρ,s,ev,h⟩=>h p H s.step s
end
def cD(own:List Str)(cap:List (Nat×Str))(ρ:bR):bR:=own.map (λ_=>none)++cap.map λp=>(ρ[p.1]?).join
open Classical in
noncomputable def bZ(G:Gd)(g:GM)(me:ME):AH->bR->aG->bO AH
 |[],_,S=>if fP G S then .ok [] S else .fail
 |x::r,ρ,S=>if fP G S then(match g x ρ with
  |none=>.fail
  |some ρ1=>match me ρ1 S with
   |.ok (.pv y) S1=>match bZ G g me r ρ1 S1 with
    |.ok ys S2=>.ok (y::ys) S2
    |_=>.fail
   |_=>.fail)else .fail
theorem dP{g:GM}{me:ME}{ρ:bR}{S:aG}:bZ [] g me [] ρ S=.ok [] S:=by
 unfold bZ;rw[if_pos (gY S)]
theorem dS{g:GM}{me:ME}{x:PV}{r:AH}{ρ:bR}{S:aG}:bZ [] g me (x::r) ρ S=(match g x ρ with
  |none=>.fail
  |some ρ1=>match me ρ1 S with
   |.ok (.pv y) S1=>match bZ [] g me r ρ1 S1 with
    |.ok ys S2=>.ok (y::ys) S2
    |_=>.fail
   |_=>.fail):=by
 rw[bZ,if_pos (gY S)]
noncomputable def bB(own:List Str)(cap:List (Nat×Str))(mi:MI)(g:GM)(me:ME):ME:=λρ S=>(mi ρ S).bind λxs S1=>(bZ xs.2 g me xs.1 (cD own cap ρ) S1).bind λys S2=>.ok (.pv (.lst ys)) S2
theorem Lq{G:Gd}{g:GM}{me:ME}:∀(xs:AH)(ρ:bR)(S:aG)(n:Str)(S':aG),bZ G g me xs ρ S≠.exc n S'
 |[],_,_,_,_,e=>by
  unfold bZ at e;split at e<;>cases e
 |x::r,ρ,S,n,S',e=>by
  unfold bZ at e;split at e
  .split at e
   .cases e
   .split at e
    .split at e
     .cases e
     .cases e
    .cases e
  .cases e
theorem Nh{G:Gd}{g:GM}{me:ME}{xs zs:AH}{ρ:bR}{S S':aG}(e:bZ G g me xs ρ S=.ok zs S'):fP G S:=by
 cases xs with
 |nil=>
  unfold bZ at e;split at e
  .assumption
  .cases e
 |cons x r=>
  unfold bZ at e;split at e
  .assumption
  .cases e
section
variable{K:ae}{cl:Str->Addr}{E:XK}{X:Cx}{p q:Ph}{H H':Hp}{S:aG}
theorem Wu{ρ:bR}{σ:St}{own:List Str}{cap:List (Nat×Str)}(h:dR K p H ρ σ):dR K p H (cD own cap ρ) (jO own cap σ):=by
 refine⟨by unfold cD jO;simp,λi v e=>?_⟩;unfold cD at e;unfold jO
 by_cases hi:i<own.length
 .rw[du (by simpa using hi),di,av hi]at e
  cases e
 .rw[dy (by rw[ak];omega),di,ak]at e⊢
  cases z:cap[i-own.length]? with
  |none=>rw[z]at e;cases e
  |some c=>
   rw[z]at e;have e:(ρ[c.1]?).join=some v:=cg e;have e':ρ[c.1]?=some (some v):=by
    cases y:ρ[c.1]? with
    |none=>rw[y]at e;cases e
    |some o=>rw[y]at e;exact congrArg some e
   obtain⟨x,e1,e2⟩:=h.at_ c.1 v e';refine⟨x,?_,e2⟩;show some ((σ[c.1]?).join)=some (some x);rw[e1];rfl
def Ph.res(p:Ph)(D:Addr):Ph:=⟨p.f,λa=>p.w a\/a=D,λa=>p.c a\/a=D⟩
def Ph.hold(p:Ph)(D:Addr):Ph:=⟨p.f,λa=>p.w a/\a≠D,p.c⟩
def Ph.less(p:Ph)(D:Addr):Ph:=⟨p.f,λa=>p.w a/\a≠D,λa=>p.c a/\a≠D⟩
theorem aX.notin(s:aX K p S H){D:Addr}(h:H D=none):¬p.c D:=λc=>by
 obtain⟨o,e,_⟩:=s.mu D c;rw[h]at e;cases e
theorem aX.res(s:aX K p S H){D:Addr}{o:HO}(h:H D=none)(mo:Mb o):bP p H (p.res D) (bA H D o)/\aX K (p.res D) S (bA H D o):=by
 have st:bP p H (p.res D) (bA H D o):=⟨s.wc,s.mu,kb,λa h=>.inl h,λa h=>.inl h,λa h g=>absurd h g,λa x n=>x.elim (λz=>absurd z n) (λz=>by rw[z];exact h),λa x n=>x.elim (λz=>absurd z n) (λz=>by rw[z];exact h),λa u e _=>by
  rw[bV (fR e h)];exact e⟩
 refine⟨st,s.nd,s.len,λa h=>.inl (s.sub a h),λa x=>x.elim (λz=>.inl (s.wc a z)) .inr,λa x=>?_,λk a u e1 e2=>?_⟩
 .by_cases z:a=D
  .rw[z,fS]
   exact⟨o,rfl,mo⟩
  .rw[bV z]
   exact s.mu a (x.elim id λy=>absurd y z)
 .exact(s.obj k a u e1 e2).mono (λvs e=>by rw[bV (fR e h)];exact e) (λb w f=>⟨⟨.inl w,f⟩,λvs e=>by rw[bV (fR e h)];exact e⟩) λ_ _ r=>st.reps r
theorem aX.resHold(s:aX K p S H){D:Addr}{o:HO}(h:H D=none)(mo:Mb o):aX K ((p.res D).hold D) S (bA H D o):=by
 obtain⟨st,sm⟩:=s.res (o:=o) h mo;have ne:∀a,p.w a->a≠D:=λa w z=>s.notin h (z▸s.wc a w);refine⟨sm.nd,sm.len,λa m=>⟨sm.sub a m,ne a (s.sub a m)⟩,λa x=>sm.wc a x.1,sm.mu,λk a u e1 e2=>?_⟩;exact(s.obj k a u e1 e2).mono (λvs e=>by rw[bV (fR e h)];exact e) (λb w f=>⟨⟨⟨.inl w,ne b w⟩,f⟩,λvs e=>by rw[bV (fR e h)];exact e⟩) λ_ _ r=>st.reps r
theorem bP.unhold{D:Addr}(h:p.w D)(st:bP (p.hold D) H q H')(s:aX K p S H):bP p H ⟨q.f,λa=>q.w a\/a=D,q.c⟩ H':=
 ⟨s.wc,s.mu,st.pre,λa x=>by
  by_cases z:a=D
  .exact .inr z
  .exact .inl (st.mw a ⟨x,z⟩),st.mono,st.nf,λa x n=>by
  rcases x with x |x
  .exact st.nw a x λz=>n z.1
  .exact absurd (x▸h) n,st.nc,λa o e n=>st.keep a o e λz=>n z.1⟩
theorem aX.grow{D:Addr}{ys:List V}{o:HO}(s:aX K p S H)(sh:aX K (p.hold D) S H)(w:p.w D)(n:D∉p.f)(mo:Mb o):bP p H p (bA H D o)/\aX K p S (bA H D o)/\aX K (p.hold D) S (bA H D o):=by
 have st:bP p H p (bA H D o):=⟨s.wc,s.mu,kb,λ_ h=>h,λ_ h=>h,λ_ h g=>absurd h g,λ_ h g=>absurd h g,λ_ h g=>absurd h g,λa u e nw=>by
  rw[bV (λz:a=D=>nw (by rw[z];exact w))];exact e⟩
 have hm:∀a,p.c a->∃u,bA H D o a=some u/\Mb u:=λa x=>by
  by_cases z:a=D
  .rw[z,fS]
   exact⟨o,rfl,mo⟩
  .rw[bV z]
   exact s.mu a x
 refine⟨st,⟨s.nd,s.len,s.sub,s.wc,hm,λk a u e1 e2=>?_⟩,⟨sh.nd,sh.len,sh.sub,sh.wc,hm,λk a u e1 e2=>?_⟩⟩
 .have ne:a≠D:=λz=>n (z▸dz e1)
  exact(sh.obj k a u e1 e2).mono (λvs e=>by rw[bV ne];exact e) (λb w f=>⟨⟨w.1,f⟩,λvs e=>by rw[bV w.2];exact e⟩) λ_ _ r=>st.reps r
 .have ne:a≠D:=λz=>n (z▸dz e1)
  exact(sh.obj k a u e1 e2).mono (λvs e=>by rw[bV ne];exact e) (λb w f=>⟨⟨w,f⟩,λvs e=>by rw[bV w.2];exact e⟩) λ_ _ r=>st.reps r
theorem aX.toLess{D:Addr}(s:aX K (p.hold D) S H):aX K (p.less D) S H:=
 ⟨s.nd,s.len,s.sub,λa h=>⟨s.wc a h,h.2⟩,λa h=>s.mu a h.1,λk a o e1 e2=>
  (s.obj k a o e1 e2).mono (λ_ e=>e) (λb w f=>⟨⟨w,f⟩,λ_ e=>e⟩) λ_ _ r=>qN (λa h=>h.1) r⟩
theorem bP.toLess{D:Addr}(st:bP p H q H')(h:H D=none):bP p H (q.less D) H':=by
 have nD:∀a,p.c a->a≠D:=λa c z=>by
  obtain⟨o,e,_⟩:=st.mu a c;rw[z,h]at e;cases e
 exact⟨st.wc,st.mu,st.pre,λa x=>⟨st.mw a x,nD a (st.wc a x)⟩,λa x=>⟨st.mono a x,nD a x⟩,st.nf,λa x=>st.nw a x.1,λa x=>st.nc a x.1,st.keep⟩
variable{sc:Scope}{own:List Str}{cap:List (Nat×Str)}{elt target iter:ag}{pos:ai}{mi:MI}{g:GM}{me:ME}
theorem Yr{σ:St}{ρ:bR}{xs zs:AH}{G:Gd}{J:It}{Q:VK}{D:Addr}{S2:aG}(sm:aX K p S H)(ev:dR K p H ρ σ)(it:fO K p H (xs,G) J)(z:bZ G g me xs (cD own cap ρ) S=.ok zs S2)(hD:H D=none)
  (k:∀q H' vs,bP p H q H'->aX K q S2 H'->aX K (q.hold D) S2 H'->q.w D->D∉q.f->H' D=some (.lst vs)->vs.length<=sizeLine->aQ K q.c H' zs vs->Q (.ref D) H'):
  vM J (gP K g) (tP K cl E0 (cU K) me) (jO own cap σ) H D Q:=by
 obtain⟨st0,sm0⟩:=sm.res (D:=D) (o:=.lst []) hD trivial;have sh0:=sm.resHold (D:=D) (o:=.lst []) hD trivial;have nf0:D∉p.f:=λh=>sm.notin hD (sm.wc D (sm.sub D h));refine Nz xs.length it.1 (λi σ1 H1 ys=>ys.length=i/\i<=xs.length/\H1 D=some (.lst ys)/\∃p1 S1 ρ1 us ws,(aX K p1 S1 H1/\aX K (p1.hold D) S1 H1)/\bP p H p1 H1/\p1.w D/\D∉p1.f/\dR K p1 H1 ρ1 σ1/\fO K p1 H1 (xs,G) J/\fP G S1/\aQ K p1.c H1 us ys/\zs=us++ws/\bZ G g me (xs.drop i) ρ1 S1=.ok ws S2) ?_ ?_ ?_ ?_ ?_
 .refine⟨rfl,iz _,fS,p.res D,S,cD own cap ρ,[],zs,⟨sm0,sh0⟩,st0,.inr rfl,nf0,Wu (st0.repE ev),it.step st0,?_,.nil,rfl,by simpa using z⟩
  exact Nh z
 .rintro i σ1 H1 ys ⟨h1,_,h2,_⟩
  exact⟨h1,h2⟩
 .rintro i σ1 H1 ys hi ⟨_,_,_,p1,S1,ρ1,us,ws,⟨sm1,sh1⟩,st1,w1,f1,ev1,it1,g1,_⟩
  exact((it1.2 p1 H1 S1 sm1.step sm1 g1).1 i xs[i] (av hi)).1
 .rintro i σ1 H1 ys x H2 hi ⟨hl,_,hH,p1,S1,ρ1,us,ws,⟨sm1,sh1⟩,st1,w1,f1,ev1,it1,g1,r1,e1,c1⟩ hy
  obtain⟨same,rx⟩:=((it1.2 p1 H1 S1 sm1.step sm1 g1).1 i xs[i] (av hi)).2 x H2 hy;rw[wo hi]at c1;unfold bZ at c1;rw[if_pos g1]at c1;split at c1
  .cases c1
  .rename_i ρ2 gz
   split at c1
   .rename_i y S3 mz
    split at c1
    .rename_i vs S4 cz
     cases c1;have st2:=sm1.same same;have sm2:=sm1.ofSame same;have smh:=sh1.ofSame same;have stS:bP p H p1 H2:=st1.trans st2;refine⟨p1,S1,ρ1,xs[i],ρ2,sm2,st2.repE ev1,rx,gz,λσ3 ev3=>⟨p1.hold D,S1,ρ2,smh,⟨ev3.len,ev3.at_⟩,?_⟩⟩;rw[mz];intro q H4 y' st4 sm4 ry;have hD2:H2 D=some (.lst ys):=same _ _ hH;have hD4:H4 D=some (.lst ys):=st4.keep D _ hD2 λz=>z.2 rfl;have fq:D∉q.f:=λh=>by
      have:=st4.nf D h f1;rw[hD2]at this;cases this
     have stU:=bP.unhold w1 st4 sm2;have nq:¬q.w D:=λz=>by
      have:=st4.nw D z λy=>y.2 rfl;rw[hD2]at this;cases this
     have smU:aX K ⟨q.f,λa=>q.w a\/a=D,q.c⟩ S3 H4:=⟨sm4.nd,sm4.len,λa h=>.inl (sm4.sub a h),λa h=>h.elim (sm4.wc a) λz=>z▸st4.mono D (sm2.wc D w1),sm4.mu,λk a o e1 e2=>
      (sm4.obj k a o e1 e2).mono (λ_ e=>e) (λb w f=>⟨⟨.inl w,f⟩,λ_ e=>e⟩) λ_ _ r=>r⟩
     have shU:aX K (Ph.hold ⟨q.f,λa=>q.w a\/a=D,q.c⟩ D) S3 H4:=⟨sm4.nd,sm4.len,λa h=>⟨.inl (sm4.sub a h),λz=>nq (z▸sm4.sub a h)⟩,λa h=>smU.wc a h.1,sm4.mu,λk a o e1 e2=>
      (sm4.obj k a o e1 e2).mono (λ_ e=>e) (λb w f=>⟨⟨⟨.inl w,λz=>nq (z▸w)⟩,f⟩,λ_ e=>e⟩) λ_ _ r=>r⟩
     obtain⟨stG,smG,shG⟩:=smU.grow (ys:=ys) (D:=D) (o:=.lst (ys++[y'])) shU (.inr rfl) fq trivial;have stA:=st2.trans (stU.trans stG);refine R5 hi hD4 ⟨by rw[bn,hl];rfl,hi,fS,_,S3,ρ2,us++[y],vs,⟨smG,shG⟩,st1.trans stA,.inr rfl,fq,stG.repE (stU.repE ev3),it1.step stA,Nh cz,?_,by rw[e1,ko];rfl,cz⟩;exact(stA.reps r1).append (.cons (stG.rep ry) .nil)
    .cases c1
   .cases c1
 .rintro σ1 H1 ys ⟨hl,_,hH,p1,S1,ρ1,us,ws,⟨sm1,sh1⟩,st1,w1,f1,ev1,it1,g1,r1,e1,c1⟩
  rw[wq]at c1;unfold bZ at c1;rw[if_pos g1]at c1;cases c1;refine⟨(it1.2 p1 H1 _ sm1.step sm1 g1).2,?_⟩;rw[jl]at e1;subst e1;exact k p1 H1 ys st1 sm1 sh1 w1 f1 hH (by rw[hl];exact it.1) r1
theorem xM{σ:St}{ρ:bR}{xs:AH×Gd}{J:It}{Q:VK}{D:Addr}(sm:aX K p S H)(ev:dR K p H ρ σ)(it:fO K p H xs J)(k:cE K cl (cU K) p H ((bZ xs.2 g me xs.1 (cD own cap ρ) S).bind λys S2=>.ok (.pv (.lst ys)) S2) Q E)(hD:H D=none):
  vM J (gP K g) (tP K cl E0 (cU K) me) (jO own cap σ) H D Q:=by
 cases z:bZ xs.2 g me xs.1 (cD own cap ρ) S with
 |fail=>rw[z]at k;exact k.elim
 |exc n S'=>exact absurd z (Lq _ _ _ _ _)
 |ok zs S2=>
  rw[z]at k;have k:∀q H' x,bP p H q H'->aX K q S2 H'->aU K q.c H' (.lst zs) x->Q x H':=k;refine Yr sm ev it z hD λq H' vs st1 sm1 sh1 w1 f1 hH l1 r1=>?_;refine k (q.less D) H' (.ref D) (st1.toLess hD) sh1.toLess ?_;unfold aU;exact⟨D,vs,rfl,.inl ⟨hH,λz=>z.2 rfl⟩,l1,qN (λa h=>h.1) r1⟩
theorem Cz(k:iB X sc own cap)(hi:PIp K cl E X target iter mi)(hc:X.calm=true)(hg:∀C AN AO ex,lO K (gD X sc (cS own cap) C AN AO ex) target g)(he:∀C AN AO ex,aY K cl E0 (gD X sc (cS own cap) C AN AO ex) elt me)
  (hs:∀x,foldedSetIterable iter X.env x=pure x:=by intro _;rfl):aY K cl E X (.ListComp elt [⟨target,iter,[],0⟩] sc pos) (bB own cap mi g me):=by
 intro hK;refine PE.imp (Tx k (hi hK) hc (λC AN AO ex=>hg C AN AO ex hK) (λC AN AO ex=>he C AN AO ex hK) hs) ?_
 rintro σ H Q ⟨p,S,ρ,s,ev,h⟩
 exact cG s ev h λq H' xs J S' stp sm ev it kk D hD=>xM sm ev it kk hD
theorem Hu{i:Nat}{x:Str}{py spos:ai}(hN:X.N.Nodup)(hx:X.N[i]?=some x)(hl:jU X.env.scope x)(k:iB X sc own cap)(hi:PIp K cl E X target iter mi)(hc:X.calm=true)(hg:∀C AN AO ex,lO K (gD X sc (cS own cap) C AN AO ex) target g)(he:∀C AN AO ex,aY K cl E0 (gD X sc (cS own cap) C AN AO ex) elt me)
  (hs:∀x,foldedSetIterable iter X.env x=pure x:=by intro _;rfl)(hsw:swapsWith (.ListComp elt [⟨target,iter,[],0⟩] sc pos) (some (.Name x py)) spos.line X.env=pure true:=by rfl)
  (hf:X.fn x=true\/X.env.scope.names.lookup x=some .local:=by first |exact .inl rfl |exact .inr rfl |assumption):
  eO K cl E X (.Assign [.Name x py] (.ListComp elt [⟨target,iter,[],0⟩] sc pos) spos) (aT i (bB own cap mi g me)):=by
 intro hK;refine PS.imp (B6 hN hx hl k (hi hK) hc (λC AN AO ex=>hg C AN AO ex hK) (λC AN AO ex=>he C AN AO ex hK) hs hsw hf) ?_
 rintro D σ H ⟨p,S,ρ,s,ev,h⟩
 have h2:tP K cl E (cU K) (bB own cap mi g me) σ H λy H1=>D.nx (σ.set i (some y)) H1:=by
  refine⟨p,S,ρ,s,ev,?_⟩;unfold aT at h;cases z:bB own cap mi g me ρ S with
  |ok v S1=>
   rw[z]at h;exact λq H' y st sm r=>h q H' _ st sm ((st.repE ev).set r i)
  |exc n S1=>rw[z]at h;exact h
  |fail=>rw[z]at h;exact h
 obtain⟨p,S,ρ,s,ev,h⟩:=h2;exact cG s ev h λq H' xs J S' stp sm ev it kk B hB=>xM sm ev it kk hB
end
def kO:List (Option Bool)->Option (List Bool)
 |[]=>some []
 |some b::r=>match kO r with
  |some bs=>some (b::bs)
  |none=>none
 |none::_=>none
theorem Od:∀{l:List (Option Bool)}{bs:List Bool},kO l=some bs->bs.length=l.length
 |[],_,e=>by cases e;rfl
 |some b::r,bs,e=>by
  unfold kO at e;split at e
  .rename_i cs h
   cases e;rw[db,db,Od h]
  .cases e
 |none::r,_,e=>by cases e
theorem xA:∀{l:List (Option Bool)}{bs:List Bool}{i:Nat}{o:Option Bool},kO l=some bs->l[i]?=some o->∃b,o=some b/\bs[i]?=some b
 |[],_,i,o,_,h=>by simp at h
 |some b::r,bs,i,o,e,h=>by
  unfold kO at e;split at e
  .rename_i cs h'
   cases e;cases i with
   |zero=>
    simp at h;exact⟨b,h.symm,rfl⟩
   |succ i=>simpa using xA h' (by simpa using h)
  .cases e
 |none::r,_,_,_,e,_=>by cases e
def aO:Nat->PV->PV->Option Bool
 |_,.non,.non=>some true
 |_,.bl a,.bl b=>some (a==b)
 |_,.int a,.int b=>some (a==b)
 |_,.str a,.str b=>some (a==b)
 |n+1,.tup xs,.tup ys=>match kO (bo (aO n) xs ys)with
  |some bs=>some (bs.all id&&xs.length==ys.length)
  |none=>none
 |n+1,.lst xs,.lst ys=>if xs.length=ys.length then(match kO (bo (aO n) xs ys)with
  |some bs=>some (bs.all id)
  |none=>none)else some false
 |_,_,_=>none
theorem tD(bs:List Bool):((ax bs.length).all λj=>bs.getD j true)=bs.all id:=by
 rw[Bool.eq_iff_iff,jc,jc];constructor
 .intro h b hb
  obtain⟨j,hj,e⟩:=kn hb;have:=h j (by simpa using hj);simpa[cy,hj,e]using this
 .intro h j hj
  have hj:j<bs.length:=by simpa using hj
  have:=h bs[j] (eh hj);simpa[cy,hj]using this
section
variable{X:Cx}{AM:List (Addr×Obj)}{σ:St}{H:Hp}{s:aa}{c:Addr->Prop}
theorem tI{n:Nat}{xs ys:AH}{vs ws:List V}{its jts:AD}{bs:List Bool}{A:al}
  (ih:∀(v w:PV)(x y:V)(u u':Value)(b:Bool),aU X.K c H v x->aU X.K c H w y->bW x u->bW y u'->aO n v w=some b->ot A s u u' b)
  (r1:aQ X.K c H xs vs)(r2:aQ X.K c H ys ws)(q1:bC vs its)(q2:bC ws jts)(e:kO (bo (aO n) xs ys)=some bs):
  ∀j(h1:j<its.toArray.size)(h2:j<jts.toArray.size),ot A s its.toArray[j] jts.toArray[j] (bs.getD j true):=λj h1 h2=>by
 have l1:=r1.length.trans q1.length;have l2:=r2.length.trans q2.length;have g1:j<xs.length:=by rw[l1];simpa using h1
 have g2:j<ys.length:=by rw[l2];simpa using h2
 obtain⟨x,ex,rx⟩:=r1.get (av g1);obtain⟨y,ey,ry⟩:=r2.get (av g2);obtain⟨u,eu,ru⟩:=q1.get ex;obtain⟨u',eu',ru'⟩:=q2.get ey;have hz:(bo (aO n) xs ys)[j]?=some (aO n xs[j] ys[j]):=by
  rw[td,av g1,av g2]
 obtain⟨b,eb,eb'⟩:=xA e hz;have e1:its.toArray[j]=u:=by
  rw[c8];rw[av (by simpa using h1)]at eu;exact cg eu
 have e2:jts.toArray[j]=u':=by
  rw[c8];rw[av (by simpa using h2)]at eu';exact cg eu'
 rw[e1,e2];have e3:bs.getD j true=b:=by simp[cy,eb']
 rw[e3];exact ih _ _ _ _ _ _ _ rx ry ru ru' eb
theorem qY{n:Nat}{xs ys:AH}{bs:List Bool}(e:kO (bo (aO n) xs ys)=some bs):bs.length=min xs.length ys.length:=by
 rw[Od e,iy]
theorem We(n:Nat)(v w:PV)(x:V)(b:Bool)(nt:∀xs,v≠.tup xs)(nl:∀xs,v≠.lst xs)(h:aU X.K c H v x)(g:aU X.K c H w x)(e:aO n v w=some b):b=true:=by
 cases v with
 |tup xs=>exact absurd rfl (nt xs)
 |lst xs=>exact absurd rfl (nl xs)
 |non=>
  cases w<;>first |(unfold aO at e;simp at e;done) |skip
  unfold aO at e;cases e;rfl
 |bl i=>
  cases w<;>first |(unfold aO at e;simp at e;done) |skip
  unfold aU at h g;subst h;injection g with g';subst g';unfold aO at e;cases e;exact beq_self_eq_true _
 |int i=>
  cases w<;>first |(unfold aO at e;simp at e;done) |skip
  unfold aU at h g;subst h;injection g with g';subst g';unfold aO at e;cases e;exact beq_self_eq_true _
 |str i=>
  cases w<;>first |(unfold aO at e;simp at e;done) |skip
  unfold aU at h g;subst h;injection g with g';subst g';unfold aO at e;cases e;exact beq_self_eq_true _
theorem Qh(I:aH X AM σ H s):∀(n:Nat)(v w:PV)(x:V)(b:Bool),aU X.K c H v x->aU X.K c H w x->aO n v w=some b->b=true:=by
 intro n
 induction n with
 |zero=>
  intro v w x b h g e;cases v with
  |tup xs=>unfold aO at e;simp at e
  |lst xs=>unfold aO at e;simp at e
  |_=>exact We 0 _ w x b (by intro _ z;cases z) (by intro _ z;cases z) h g e
 |succ n ih=>
  have items:∀(xs ys:AH)(vs:List V)(bs:List Bool),aQ X.K c H xs vs->aQ X.K c H ys vs->kO (bo (aO n) xs ys)=some bs->bs.all id=true/\xs.length=ys.length:=λxs ys vs bs r1 r2 e=>by
   have ll:=r1.length.trans r2.length.symm;refine⟨?_,ll⟩;rw[jc];intro b hb;obtain⟨j,hj,ej⟩:=kn hb;have hj':=hj;rw[qY e]at hj';have g1:j<xs.length:=by omega
   have g2:j<ys.length:=by omega
   obtain⟨x,ex,rx⟩:=r1.get (av g1);obtain⟨y,ey,ry⟩:=r2.get (av g2);have:=ex.symm.trans ey;cases this;have hz:(bo (aO n) xs ys)[j]?=some (aO n xs[j] ys[j]):=by
    rw[td,av g1,av g2]
   obtain⟨b',eb,eb'⟩:=xA e hz;rw[av hj,ej]at eb';cases eb';exact ih _ _ _ _ rx ry eb
  intro v w x b h g e;cases v with
  |tup xs=>
   cases w with
   |tup ys=>
    unfold aU at h g;obtain⟨a,vs,rfl,t1,_,r1⟩:=h;obtain⟨a',ws,e1,t2,_,r2⟩:=g;cases e1;have:=I.tuple_inj t1 t2;subst this;unfold aO at e;split at e
    .rename_i bs hb
     obtain⟨z1,z2⟩:=items xs ys vs bs r1 r2 hb;rw[z1,z2,beq_self_eq_true]at e;cases e;rfl
    .cases e
   |_=>unfold aO at e;simp at e
  |lst xs=>
   cases w with
   |lst ys=>
    unfold aU at h g;obtain⟨a,vs,rfl,t1,_,r1⟩:=h;obtain⟨a',ws,e1,t2,_,r2⟩:=g;cases e1;have:=I.list_inj t1.sq t2.sq;subst this;unfold aO at e;rw[if_pos (r1.length.trans r2.length.symm)]at e;split at e
    .rename_i bs hb
     obtain⟨z1,z2⟩:=items xs ys vs bs r1 r2 hb;rw[z1]at e;cases e;rfl
    .cases e
   |_=>unfold aO at e;simp at e
  |_=>exact We (n+1) _ w x b (by intro _ z;cases z) (by intro _ z;cases z) h g e
theorem Xk(I:aH X AM σ H s):∀(n:Nat)(v w:PV)(x y:V)(u u':Value)(b:Bool)(A:al),A.units+n<cLine->aU X.K c H v x->aU X.K c H w y->bW x u->bW y u'->aO n v w=some b->ou A s u u' b/\ot A s u u' b:=by
 have flat:∀(n:Nat)(v w:PV)(x y:V)(u u':Value)(b:Bool)(A:al),(∀xs,v≠.tup xs)->(∀xs,v≠.lst xs)->aU X.K c H v x->aU X.K c H w y->bW x u->bW y u'->aO n v w=some b->ou A s u u' b/\ot A s u u' b:=by
  intro n v w x y u u' b A nt nl h g r r' e;cases v with
  |tup xs=>exact absurd rfl (nt xs)
  |lst xs=>exact absurd rfl (nl xs)
  |non=>
   cases w<;>first |(unfold aO at e;simp at e;done) |skip
   unfold aU at h g;subst h g;cases r;cases r';unfold aO at e;cases e;exact⟨d4,wt _⟩
  |bl i=>
   cases w<;>first |(unfold aO at e;simp at e;done) |skip
   unfold aU at h g;subst h g;cases r;cases r';unfold aO at e;cases e;exact⟨d5 _ _,SeqAt.EqAt.bool_bool _ _⟩
  |int i=>
   cases w<;>first |(unfold aO at e;simp at e;done) |skip
   unfold aU at h g;subst h g;obtain⟨t,rfl⟩:=r;obtain⟨t',rfl⟩:=r';unfold aO at e;cases e;exact⟨d6 _ _ _ _,SeqAt.EqAt.int_int _ _ _ _⟩
  |str i=>
   cases w<;>first |(unfold aO at e;simp at e;done) |skip
   unfold aU at h g;subst h g;obtain⟨t,rfl⟩:=r;obtain⟨t',rfl⟩:=r';unfold aO at e;cases e;exact⟨d7 _ _ _ _,SeqAt.EqAt.str_str _ _ _ _⟩
 have main:∀(n:Nat)(v w:PV)(x y:V)(u u':Value)(b:Bool)(A:al),A.units+n<cLine->aU X.K c H v x->aU X.K c H w y->bW x u->bW y u'->aO n v w=some b->ou A s u u' b/\ot A s u u' b:=by
  intro n
  induction n with
  |zero=>
   intro v w x y u u' b A hu h g r r' e;cases v with
   |tup xs=>unfold aO at e;simp at e
   |lst xs=>unfold aO at e;simp at e
   |_=>exact flat 0 _ w x y u u' b A (by intro _ z;cases z) (by intro _ z;cases z) h g r r' e
  |succ n ih=>
   intro v w x y u u' b A hu h g r r' e;have hin:A.in1.units+n<cLine:=by show A.units+1+n<cLine;omega
   cases v with
   |tup xs=>
    cases w with
    |tup ys=>
     have hs:x=y->b=true:=λz=>Qh I (n+1) _ _ x b h (z▸g) e;unfold aU at h g;obtain⟨a,vs,rfl,t1,_,r1⟩:=h;obtain⟨a',ws,rfl,t2,_,r2⟩:=g;cases r;cases r';obtain⟨its,q1,p1,_⟩:=I.tuple t1;obtain⟨jts,q2,p2,_⟩:=I.tuple t2;unfold aO at e;split at e
     .rename_i bs hb
      cases e;have z:=d8 (A:=A) (s:=s) (e:=λj=>bs.getD j true) (show s.heap.IsTuple a its.toArray from p1) (show s.heap.IsTuple a' jts.toArray from p2) (by omega)
       (tI (A:=A.in1) (λv w x y u u' b h1 h2 h3 h4 h5=>(ih v w x y u u' b A.in1 hin h1 h2 h3 h4 h5).2) r1 r2 q1 q2 hb)
      have l1:=r1.length.trans q1.length;have l2:=r2.length.trans q2.length;rw[au,au,<-l1,<-l2,<-qY hb,tD]at z;refine⟨z,?_⟩
      by_cases ha:a=a'
      .subst ha
       rw[hs rfl];exact wt _
      .exact f6 ha z
     .cases e
    |_=>unfold aO at e;simp at e
   |lst xs=>
    cases w with
    |lst ys=>
     have hs:x=y->b=true:=λz=>Qh I (n+1) _ _ x b h (z▸g) e;unfold aU at h g;obtain⟨a,vs,rfl,t1,_,r1⟩:=h;obtain⟨a',ws,rfl,t2,_,r2⟩:=g;cases r;cases r';obtain⟨its,q1,p1,_⟩:=I.list t1.sq;obtain⟨jts,q2,p2,_⟩:=I.list t2.sq;have l1:=r1.length.trans q1.length;have l2:=r2.length.trans q2.length;have fin:ou A s (.ref a) (.ref a') b->ou A s (.ref a) (.ref a') b/\ot A s (.ref a) (.ref a') b:=λz=>by
      refine⟨z,?_⟩
      by_cases ha:a=a'
      .subst ha
       rw[hs rfl];exact wt _
      .exact f6 ha z
     unfold aO at e;split at e
     .rename_i hl
      split at e
      .rename_i bs hb
       cases e;have z:=f7 (A:=A) (s:=s) (e:=λj=>bs.getD j true) p1.isList p2.isList (by rw[au,au];omega) (by omega)
        (tI (A:=A.in1) (λv w x y u u' b h1 h2 h3 h4 h5=>(ih v w x y u u' b A.in1 hin h1 h2 h3 h4 h5).2) r1 r2 q1 q2 hb)
       have hm:its.length=bs.length:=by rw[qY hb];omega
       rw[au,hm,tD]at z;exact fin z
      .cases e
     .rename_i hl
      cases e;exact fin (g7 p1.isList p2.isList (by rw[au,au];simp;omega) (by omega))
    |_=>unfold aO at e;simp at e
   |_=>exact flat (n+1) _ w x y u u' b A (by intro _ z;cases z) (by intro _ z;cases z) h g r r' e
 exact main
end
noncomputable section
open PySem PySem.Spec PyProof.Rows Bn
section
variable{X:Cx}
theorem Hn{AM:List (Addr×Obj)}{σ:St}{H:Hp}{s:aa}(I:aH X AM σ H s){p:Ph}{v w:PV}{x y:V}{u u':Value}{b:Bool}{A:al}(hu:A.units+8<cLine)(h:eM X.K p H v x)(g:eM X.K p H w y)(r:bW x u)(r':bW y u')(e:aO 8 v w=some b):
  ou A s u u' b/\SeqAt.RcNeAt A s u u' (!b):=by
 have hin:A.in1.units+7<cLine:=by show A.units+1+7<cLine;omega
 cases v with
 |non=>
  cases w<;>first |(unfold aO at e;simp at e;done) |skip
  have h:=h.non;have g:=g.non;subst h g;cases r;cases r';unfold aO at e;cases e;exact⟨d4,SeqAt.RcNeAt.none_none⟩
 |bl i=>
  cases w<;>first |(unfold aO at e;simp at e;done) |skip
  have h:=h.bl;have g:=g.bl;subst h g;cases r;cases r';unfold aO at e;cases e;exact⟨d5 _ _,SeqAt.RcNeAt.bool_bool _ _⟩
 |int i=>
  cases w<;>first |(unfold aO at e;simp at e;done) |skip
  have h:=h.int;have g:=g.int;subst h g;obtain⟨t,rfl⟩:=r;obtain⟨t',rfl⟩:=r';unfold aO at e;cases e;exact⟨d6 _ _ _ _,SeqAt.RcNeAt.int_int _ _ _ _⟩
 |str i=>
  cases w<;>first |(unfold aO at e;simp at e;done) |skip
  have h:=h.str;have g:=g.str;subst h g;obtain⟨t,rfl⟩:=r;obtain⟨t',rfl⟩:=r';unfold aO at e;cases e;exact⟨d7 _ _ _ _,SeqAt.RcNeAt.str_str _ _ _ _⟩
 |tup xs=>
  cases w with
  |tup ys=>
   obtain⟨a,vs,rfl,t1,_,r1⟩:=h.tup;obtain⟨a',ws,rfl,t2,_,r2⟩:=g.tup;cases r;cases r';obtain⟨its,q1,p1,_⟩:=I.tuple t1;obtain⟨jts,q2,p2,_⟩:=I.tuple t2;unfold aO at e;split at e
   .rename_i bs hb
    cases e;have it:=tI (s:=s) (A:=A.in1) (λv w x y u u' b h1 h2 h3 h4 h5=>(Xk I 7 v w x y u u' b A.in1 hin h1 h2 h3 h4 h5).2) r1 r2 q1 q2 hb;have z:=d8 (A:=A) (s:=s) (e:=λj=>bs.getD j true) (show s.heap.IsTuple a its.toArray from p1) (show s.heap.IsTuple a' jts.toArray from p2) (by omega) it;have z':=SeqAt.RcNeAt.tuples (A:=A) (s:=s) (e:=λj=>bs.getD j true) (show s.heap.IsTuple a its.toArray from p1) (show s.heap.IsTuple a' jts.toArray from p2) (by omega) it;have l1:=r1.length.trans q1.length;have l2:=r2.length.trans q2.length;rw[au,au,<-l1,<-l2,<-qY hb,tD]at z z';exact⟨z,z'⟩
   .cases e
  |_=>unfold aO at e;simp at e
 |lst xs=>
  cases w with
  |lst ys=>
   obtain⟨a,vs,rfl,t1,_,r1⟩:=h.lst;obtain⟨a',ws,rfl,t2,_,r2⟩:=g.lst;cases r;cases r';obtain⟨its,q1,p1,_⟩:=I.list t1;obtain⟨jts,q2,p2,_⟩:=I.list t2;have l1:=r1.length.trans q1.length;have l2:=r2.length.trans q2.length;unfold aO at e;split at e
   .rename_i hl
    split at e
    .rename_i bs hb
     cases e;have it:=tI (s:=s) (A:=A.in1) (λv w x y u u' b h1 h2 h3 h4 h5=>(Xk I 7 v w x y u u' b A.in1 hin h1 h2 h3 h4 h5).2) r1 r2 q1 q2 hb;have z:=f7 (A:=A) (s:=s) (e:=λj=>bs.getD j true) p1.isList p2.isList (by rw[au,au];omega) (by omega) it;have z':=SeqAt.RcNeAt.lists (A:=A) (s:=s) (e:=λj=>bs.getD j true) p1.isList p2.isList (by rw[au,au];omega) (by omega) it;have hm:its.length=bs.length:=by rw[qY hb];omega
     rw[au,hm,tD]at z z';exact⟨z,z'⟩
    .cases e
   .rename_i hl
    cases e;exact⟨g7 p1.isList p2.isList (by rw[au,au];simp;omega) (by omega),SeqAt.RcNeAt.lists_lengths p1.isList p2.isList (by rw[au,au];simp;omega) (by omega)⟩
  |_=>unfold aO at e;simp at e
def vK(K:ae)(neg:Bool):R2:=λx y H Q=>∃p v w b,eM K p H v x/\eM K p H w y/\aO 8 v w=some b/\Q (.bl (if neg then !b else b)) H
theorem Hk(hu:X.A.units+8<cLine):eB X (compareOp .Eq) (vK X.K false):=by
 intro AM s σ H x y v u Q I rx ry h;obtain⟨p,a,b,k,h1,h2,e,q⟩:=h;exact(Hn I hu h1 h2 rx ry e).1 X.prog X.w X.xe _ ⟨.bl k,H,I,rfl,q⟩
theorem Kk(hu:X.A.units+8<cLine):eB X (compareOp .NotEq) (vK X.K true):=by
 intro AM s σ H x y v u Q I rx ry h;obtain⟨p,a,b,k,h1,h2,e,q⟩:=h;exact(Hn I hu h1 h2 rx ry e).2 X.prog X.w X.xe _ ⟨.bl (!k),H,I,rfl,q⟩
def dL(a b:PV):AI:=(aO 8 a b).map .bl
def iI(a b:PV):AI:=(aO 8 a b).map λk=>.bl (!k)
theorem Ao{K:ae}:gB K (vK K false) dL:=λ{p S H a b c x y Q} s ra rb e k=>by
 unfold dL at e;cases z:aO 8 a b with
 |none=>rw[z]at e;cases e
 |some t=>
  rw[z]at e;cases e;exact⟨p,a,b,t,ra,rb,z,k H _ (dH.refl H) (by unfold aU;rfl)⟩
theorem Eo{K:ae}:gB K (vK K true) iI:=λ{p S H a b c x y Q} s ra rb e k=>by
 unfold iI at e;cases z:aO 8 a b with
 |none=>rw[z]at e;cases e
 |some t=>
  rw[z]at e;cases e;exact⟨p,a,b,t,ra,rb,z,k H _ (dH.refl H) (by unfold aU;rfl)⟩
def i2(f:Int->Int->AI):PV->PV->AI
 |.int a,.int b=>f a b
 |_,_=>none
open Classical in
def cI(C:Int->Int->Prop)(g:Int->Int->PV)(a b:Int):AI:=if C a b then some (g a b)else none
def vS:PV->V
 |.int i=>.int i
 |.bl b=>.bl b
 |.str s=>.str s
 |_=>.non
def Ca:PV->Bool
 |.int _=>true
 |.bl _=>true
 |.str _=>true
 |.non=>true
 |_=>false
theorem gX{K:ae}{c:Addr->Prop}{H:Hp}{v:PV}(h:Ca v=true):aU K c H v (vS v):=by
 cases v with
 |tup _=>cases h
 |lst _=>cases h
 |_=>unfold aU vS;rfl
theorem vL{K:ae}{C:Int->Int->Prop}{g:Int->Int->PV}{h:Int->Int->V}(fl:∀i j,Ca (g i j)=true/\vS (g i j)=h i j):gB K (rI C h) (i2 (cI C g)):=λ{p S H a b c x y Q} s ra rb e k=>by
 cases a with
 |int i=>
  cases b with
  |int j=>
   unfold i2 cI at e;dsimp only at e;split at e
   .rename_i hc
    cases e;refine⟨i,j,ra.int,rb.int,hc,?_⟩;rw[<-(fl i j).2];exact k H _ (dH.refl H) (gX (fl i j).1)
   .cases e
  |_=>cases e
 |_=>cases e
theorem vH{K:ae}{g:Int->Int->PV}{h:Int->Int->V}(fl:∀i j,Ca (g i j)=true/\vS (g i j)=h i j):gB K (jA h) (i2 λi j=>some (g i j)):=λ{p S H a b c x y Q} s ra rb e k=>by
 cases a with
 |int i=>
  cases b with
  |int j=>
   cases e;refine⟨i,j,ra.int,rb.int,?_⟩;rw[<-(fl i j).2];exact k H _ (dH.refl H) (gX (fl i j).1)
  |_=>cases e
 |_=>cases e
def nW(i j:Int):Prop:=Xa i j\/(Bd 1000000 i/\Bd 1000000 j)
theorem nW.ok{i j:Int}(h:nW i j):IntMulOk i j:=by
 rcases h with h |h
 .exact h.ok
 have h1:=Ak h.1;have h2:=Ak h.2;unfold IntMulOk Builtin.Int.intTooBig bitsLine;intro c;simp only[iu,decide_eq_true_eq]at c;have:=c.2;omega
theorem Qz:eB X (binaryOp .Mult) (rI nW λi j=>.int (i*j)):=wA λ_ _ _ _ _ _ _ hc q=>mul_int q hc.ok
def aS:=i2 (cI nW λi j=>.int (i*j))
def eE:=i2 (cI nU λi j=>.int (i.fdiv j))
def fH:=i2 (cI (λ_ j=>j≠0) λi j=>.int (i.fmod j))
def gJ:=i2 (cI vJ λi j=>.int (i^j.toNat))
def dW:=i2 λi j=>some (.int (i-j))
def lJ:=i2 λi j=>some (.bl (decide (i<j)))
def fLe:=i2 λi j=>some (.bl (decide (i<=j)))
def fJ:=i2 λi j=>some (.bl (decide (j<i)))
def qI:=i2 λi j=>some (.bl (decide (j<=i)))
theorem aaa{K:ae}:gB K (rI nW λi j=>.int (i*j)) aS:=vL λ_ _=>⟨rfl,rfl⟩
theorem K3{K:ae}:gB K (rI nU λi j=>.int (i.fdiv j)) eE:=vL λ_ _=>⟨rfl,rfl⟩
theorem V6{K:ae}:gB K (rI (λ_ j=>j≠0) λi j=>.int (i.fmod j)) fH:=vL λ_ _=>⟨rfl,rfl⟩
theorem R0{K:ae}:gB K (rI vJ λi j=>.int (i^j.toNat)) gJ:=vL λ_ _=>⟨rfl,rfl⟩
theorem Z7{K:ae}:gB K (jA λi j=>.int (i-j)) dW:=vH λ_ _=>⟨rfl,rfl⟩
theorem Ko{K:ae}:gB K (jA λi j=>.bl (decide (i<j))) lJ:=vH λ_ _=>⟨rfl,rfl⟩
theorem Qn{K:ae}:gB K (jA λi j=>.bl (decide (j<i))) fJ:=vH λ_ _=>⟨rfl,rfl⟩
theorem Do{K:ae}:gB K (jA λi j=>.bl (decide (j<=i))) qI:=vH λ_ _=>⟨rfl,rfl⟩
def bQ:PV->AI
 |.int i=>some (.int (-i))
 |_=>none
theorem aaj{K:ae}:wC K (rU λi=>.int (-i)) bQ:=λ{p S H a c x Q} s ra e k=>by
 cases a with
 |int i=>
  cases e;exact⟨i,ra.int,k H _ (dH.refl H) (gX (v:=.int (-i)) rfl)⟩
 |_=>cases e
def Sm(K:ae):R2:=λx y H Q=>∃l b xs zs,x=.ref l/\y=.ref b/\bT K H l xs/\bT K H b zs/\xs.length+zs.length<=sizeLine/\∀p,H p=none->Q (.ref p) (bA H p (.lst (xs++zs)))
theorem Oz:eB X (binaryOp .Add) (Sm X.K):=by
 intro AM s σ H x y v u Q I rx ry h;obtain⟨l,b,xs,zs,rfl,rfl,hx,hy,hz,q⟩:=h;cases rx;cases ry;obtain⟨its,r1,p1,_⟩:=I.list hx;obtain⟨jts,r2,p2,_⟩:=I.list hy;obtain⟨⟨cls,dd,data,sl⟩,n,ho,hc,_,hd⟩:=p1;obtain⟨⟨cls2,dd2,data2,sl2⟩,n2,ho2,hc2,_,hd2⟩:=p2;simp only at hc hd hc2 hd2;subst hc hd hc2 hd2;have e:its.toArray++jts.toArray=(its++jts).toArray:=by simp
 have l1:=r1.length;have l2:=r2.length;refine re ⟨_,ho,rfl⟩ ⟨_,ho2,rfl⟩ noFill_list_add seq_list_add PySem.F.slot_list_add PySem.F.entry_list_add (PySem.F.args_list_add_2 _ _) (list_addW l b its.toArray jts.toArray n n2 dd dd2 sl sl2 (by rw[au,au];omega)) ⟨ho,ho2,?_⟩;rw[e];exact⟨.ref _,_,I.lnew (t':=s.toks) (r1.append r2) (by rw[bn];omega),rfl,q _ I.fresh⟩
def aF:PV->PV->AI
 |.int a,.int b=>some (.int (a+b))
 |.lst xs,.lst ys=>if xs.length+ys.length<=16777216 then some (.lst (xs++ys))else none
 |.tup xs,.tup ys=>if xs.length≠0/\ys.length≠0/\xs.length+ys.length<=16777216 then some (.tup (xs++ys))else none
 |_,_=>none
def Um(K:ae):R2:=λx y H Q=>(jA λi j=>.int (i+j)) x y H Q\/Sm K x y H Q\/Ga K x y H Q
theorem Oy:eB X (binaryOp .Add) (Um X.K):=eB.or M6 (eB.or Oz Ej)
theorem W7{K:ae}:gB K (Um K) aF:=λ{p S H a b c x y Q} s ra rb e k=>by
 cases a with
 |int i=>
  cases b with
  |int j=>
   cases e;exact .inl ⟨i,j,ra.int,rb.int,k H _ (dH.refl H) (gX (v:=.int (i+j)) rfl)⟩
  |_=>cases e
 |lst xs=>
  cases b with
  |lst ys=>
   have e:(if xs.length+ys.length<=16777216 then some (PV.lst (xs++ys))else none)=some c:=e;split at e
   .rename_i hl
    cases e;obtain⟨a1,vs,rfl,l1,z1,r1⟩:=ra.lst;obtain⟨a2,ws,rfl,l2,z2,r2⟩:=rb.lst;have hz:vs.length+ws.length<=sizeLine:=by rw[<-r1.length,<-r2.length,iS];exact hl
    exact .inr (.inl ⟨a1,a2,vs,ws,rfl,rfl,l1,l2,hz,λt ht=>k _ _ (gM ht) (nG s (r1.append r2) (by rw[bn];exact hz) ht)⟩)
   .cases e
  |_=>cases e
 |tup xs=>
  cases b with
  |tup ys=>
   have e:(if xs.length≠0/\ys.length≠0/\xs.length+ys.length<=16777216 then some (PV.tup (xs++ys))else none)=some c:=e;split at e
   .rename_i hl
    cases e;obtain⟨a1,vs,rfl,l1,z1,r1⟩:=ra.tup;obtain⟨a2,ws,rfl,l2,z2,r2⟩:=rb.tup;have hz:vs.length+ws.length<=sizeLine:=by rw[<-r1.length,<-r2.length,iS];exact hl.2.2
    refine .inr (.inr ⟨a1,a2,vs,ws,rfl,rfl,l1,l2,λq=>hl.1 (by rw[r1.length,q];rfl),hz,λq=>absurd (show ys.length=0 by rw[r2.length,q];rfl) hl.2.1,λ_ t ht=>k _ _ (gM ht) (nE s (r1.append r2) (by rw[bn];exact hz) ht)⟩)
   .cases e
  |_=>cases e
 |_=>cases e
end
section
variable{K:ae}{cl:Str->Addr}{E:XK}{X:Cx}{a b e:ag}{es:List ag}{ma mb m:ME}{ms:MA}{pos p2:ai}
def aE:PV->PV->AI
 |.lst xs,.int i=>aV xs i
 |.tup xs,.int i=>aV xs i
 |_,_=>none
theorem yQ{c:Addr->Prop}{H:Hp}{xs:AH}{vs:List V}{i:Int}{v:PV}(r:aQ K c H xs vs)(e:aV xs i=some v):∃x,aV vs i=some x/\aU K c H v x:=by
 unfold aV at e⊢;rw[<-r.length];cases z:aW xs.length i with
 |none=>rw[z]at e;cases e
 |some j=>
  rw[z]at e;exact r.get e
theorem aax:gB K (Ro K) aE:=λ{p S H a b c x y Q} s ra rb e k=>by
 cases b with
 |int i=>
  cases a with
  |lst xs=>
   obtain⟨a1,vs,rfl,l1,z1,r1⟩:=ra.lst;obtain⟨x,e1,r2⟩:=yQ r1 e;exact .inl ⟨a1,vs,i,x,rfl,rb.int,l1,e1,k H x (dH.refl H) r2⟩
  |tup xs=>
   obtain⟨a1,vs,rfl,l1,z1,r1⟩:=ra.tup;obtain⟨x,e1,r2⟩:=yQ r1 e;exact .inr (.inl ⟨a1,vs,i,x,rfl,rb.int,l1,e1,k H x (dH.refl H) r2⟩)
  |_=>cases e
 |_=>cases a<;>cases e
theorem X8(ha:aY K cl E X a ma)(hb:aY K cl E X b mb)(hs:yX b:=by intro _ _;rfl):aY K cl E X (.Subscript a b pos) (aC aE ma mb):=by
 intro hK;subst hK;refine(Xm Gk (ha rfl) (hb rfl) hs).imp ?_
 rintro σ H Q ⟨p,S,ρ,s,e,h⟩
 exact cG s e h λq H1 a x S1 st s1 e1 r1 h1=>cG s1 e1 h1 λq2 H2 b y S2 st2 s2 e2 r2 h2=>sX aax s2 (st2.repA r1) r2 h2
abbrev MO:=bR->aG->bO AG
def cO:MO:=λ_ S=>.ok none S
def fN:AV->aG->bO AG
 |.pv (.int i),S=>.ok (some i) S
 |_,_=>.fail
def dD(m:ME):MO:=λρ S=>(m ρ S).bind fN
abbrev RO:Ph->Hp->AG->AG->Prop:=λ_ _ a b=>a=b
variable(K cl E X)
def mO(e:Option ag)(m:MO):Prop:=X.K=K->PO X e (tP K cl E RO m)
variable{K cl E X}
theorem PO.imp{e:Option ag}{t t':TO}(h:PO X e t)(i:∀σ H Q,t' σ H Q->t σ H Q):PO X e t':=λAM s σ H Q I q=>h AM s σ H Q I (i σ H Q q)
theorem Vw:mO K cl E X none cO:=λ_=>PO.imp C0 λσ H Q ⟨p,S,ρ,s,e,h⟩=>cE.ret (R:=RO) h s rfl
theorem Ut(h:aY K cl E X e m):mO K cl E X (some e) (dD m):=by
 intro hK;subst hK;refine PO.imp (zE (h rfl)) ?_
 rintro σ H Q ⟨p,S,ρ,s,e,h⟩
 refine cG s e h λq H1 a x S1 st s1 e1 r1 h1=>?_;unfold fN at h1;split at h1
 .rename_i i
  exact⟨i,(show eM X.K q H1 (.int i) x from .inl r1).int,cE.ret (R:=RO) h1 s1 rfl⟩
 .exact h1.elim
def iX(xs:AH)(lo hi:AG):AH:=(xs.drop (HT.sIx xs.length 0 lo)).take (HT.sIx xs.length xs.length hi-HT.sIx xs.length 0 lo)
def iF(v:PV)(lo hi:AG):AI:=match v with
 |.lst xs=>some (.lst (iX xs lo hi))
 |.tup xs=>if HT.sIx xs.length 0 lo=0/\HT.sIx xs.length xs.length hi=xs.length then none else some (.tup (iX xs lo hi))
 |_=>none
def dC(m:ME)(ml mh:MO):ME:=λρ S=>(m ρ S).bind λv S1=>(ml ρ S1).bind λlo S2=>(mh ρ S2).bind λhi S3=>gW ((rd S3 v).bind λx=>iF x lo hi) S3
theorem Bh{c:Addr->Prop}{H:Hp}{xs:AH}{vs:List V}{lo hi:AG}(r:aQ K c H xs vs):aQ K c H (iX xs lo hi) (mM vs lo hi):=by
 unfold iX mM;rw[<-r.length];exact(r.drop _).take _
theorem Y5{lo hi:Option ag}{ml mh:MO}(he:aY K cl E X e m)(hl:mO K cl E X lo ml)(hu:mO K cl E X hi mh):aY K cl E X (.Subscript e (.Slice lo hi none p2) pos) (dC m ml mh):=by
 intro hK;subst hK;refine(Uu (mW.or Rz H0) (he rfl) (hl rfl) (hu rfl)).imp ?_
 rintro σ H Q ⟨p,S,ρ,s,e,h⟩
 refine cG s e h λq H1 a x S1 st s1 e1 r1 h1=>cG s1 e1 h1 λq2 H2 lo lo' S2 st2 s2 e2 r2 h2=>cG s2 e2 h2 λq3 H3 hi hi' S3 dX s3 e3 r3 h3=>?_;cases r2;cases r3;have ra:=dX.repA (st2.repA r1);obtain⟨c,ec,k⟩:=pJ s3 h3;cases z:rd S3 a with
 |none=>rw[z]at ec;cases ec
 |some v=>
  rw[z]at ec;have rv:=pO s3 ra z;cases v with
  |lst xs=>
   have ec:some (PV.lst (iX xs lo hi))=some c:=ec;cases ec;obtain⟨a1,vs,rfl,l1,z1,r1⟩:=rv.lst;exact .inl ⟨a1,vs,rfl,l1,λt ht=>k _ _ (gM ht) (nG s3 (Bh r1) (dw (sO vs lo hi) z1) ht)⟩
  |tup xs=>
   obtain⟨a1,vs,rfl,l1,z1,r1⟩:=rv.tup;have ec:(if HT.sIx xs.length 0 lo=0/\HT.sIx xs.length xs.length hi=xs.length then none else some (PV.tup (iX xs lo hi)))=some c:=ec;split at ec
   .cases ec
   .rename_i hw
    cases ec;rw[r1.length]at hw;exact .inr ⟨a1,vs,rfl,l1,hw,λt ht=>k _ _ (gM ht) (nE s3 (Bh r1) (dw (sO vs lo hi) z1) ht)⟩
  |_=>cases ec
theorem oZ{id:String}{r:List V->Hp->VK->Prop}{f:AH->AI}{x:Str}{p:ai}(hc:iK X (.builtin id) r)(hf:jR X.K r f)(hg:Gl X x)(hm:X.mg x=none)(hv:bootBuiltins x=some (.builtin id))(ha:eU K cl E X (e::es) ms)(hn:x≠"__name__":=by decide)(hdb:(x==("__debug__":Str))=false:=by decide)
  (he:starEach (e::es) X.env=(false,eval e X.env)::starEach es X.env:=by rfl)(hpl:(backTo pos (starEach es X.env)).any (·.1)=false:=by rfl):aY K cl E X (.Call (.Name x p) (e::es) [] pos) (mR f ms):=by
 intro hK;subst hK;refine PE.imp (Uh hc hg hm hv (ha rfl) hn hdb he hpl) ?_
 rintro σ H Q ⟨p,S,ρ,s,ev,h⟩
 exact cG s ev h λq H' as xs S' stp sm ev r k=>Bf hf sm r k
theorem xO{T:String}{r:List V->Hp->VK->Prop}{f:AH->AI}{x:Str}{p:ai}(hc:iK X (.type T) r)(hf:jR X.K r f)(hg:Gl X x)(hm:X.mg x=none)(hv:bootBuiltins x=some (.type T))(ha:eU K cl E X (e::es) ms)(hn:x≠"__name__":=by decide)(hdb:(x==("__debug__":Str))=false:=by decide)
  (he:starEach (e::es) X.env=(false,eval e X.env)::starEach es X.env:=by rfl)(hpl:(backTo pos (starEach es X.env)).any (·.1)=false:=by rfl):aY K cl E X (.Call (.Name x p) (e::es) [] pos) (mR f ms):=by
 intro hK;subst hK;refine PE.imp (xK hc hg hm hv (ha rfl) hn hdb he hpl) ?_
 rintro σ H Q ⟨p,S,ρ,s,ev,h⟩
 exact cG s ev h λq H' as xs S' stp sm ev r k=>Bf hf sm r k
def eQ:AH->AI
 |[.lst xs]=>some (.int xs.length)
 |[.tup xs]=>some (.int xs.length)
 |_=>none
theorem S7:jR K (λxs H Q=>∃p ys,xs=[.ref p]/\(bT K H p ys\/dA K H p ys)/\Q (.int ys.length) H) eQ:=λ{p S H as c xs Q} s ra e k=>by
 unfold eQ at e;split at e
 .rename_i zs
  cases e;cases ra with
  |cons h t=>
   cases t;obtain⟨a,vs,rfl,l,z,r⟩:=h.lst;refine⟨a,vs,rfl,.inl l,?_⟩;rw[<-r.length];exact k H _ (dH.refl H) (gX (v:=.int zs.length) rfl)
 .rename_i zs
  cases e;cases ra with
  |cons h t=>
   cases t;obtain⟨a,vs,rfl,l,z,r⟩:=h.tup;refine⟨a,vs,rfl,.inr l,?_⟩;rw[<-r.length];exact k H _ (dH.refl H) (gX (v:=.int zs.length) rfl)
 .cases e
def kR:AH->AI
 |[.int i]=>some (.int (if i<0 then-i else i))
 |_=>none
theorem W8:jR K (λxs H Q=>∃i,xs=[.int i]/\Q (.int (if i<0 then-i else i)) H) kR:=λ{p S H as c xs Q} s ra e k=>by
 unfold kR at e;split at e
 .rename_i i
  cases e;cases ra with
  |cons h t=>
   cases t;cases h.int;exact⟨i,rfl,k H _ (dH.refl H) (gX (v:=.int _) rfl)⟩
 .cases e
def gC:AH->AI
 |[.lst xs]=>some (.tup xs)
 |[.tup xs]=>some (.tup xs)
 |_=>none
theorem Jx:jR K (λxs H Q=>∃p ys,xs=[.ref p]/\((bT K H p ys/\∀l,H l=none->Q (.ref l) (bA H l (.tup ys)))\/(dA K H p ys/\Q (.ref p) H))) gC:=λ{p S H as c xs Q} s ra e k=>by
 unfold gC at e;split at e
 .rename_i zs
  cases e;cases ra with
  |cons h t=>
   cases t;obtain⟨a,vs,rfl,l,z,r⟩:=h.lst;exact⟨a,vs,rfl,.inl ⟨l,λt ht=>k _ _ (gM ht) (nE s r z ht)⟩⟩
 .rename_i zs
  cases e;cases ra with
  |cons h t=>
   cases t;obtain⟨a,vs,rfl,l,z,r⟩:=h.tup;refine⟨a,vs,rfl,.inr ⟨l,k H _ (dH.refl H) ?_⟩⟩;unfold aU;exact⟨a,vs,rfl,l,z,r⟩
 .cases e
def kZ:AH->AI
 |[.lst xs]=>some (.lst xs)
 |[.tup xs]=>some (.lst xs)
 |_=>none
theorem Zz:jR K (λxs H Q=>∃p ys,xs=[.ref p]/\(bT K H p ys\/dA K H p ys)/\∀l,H l=none->Q (.ref l) (bA H l (.lst ys))) kZ:=λ{p S H as c xs Q} s ra e k=>by
 unfold kZ at e;split at e
 .rename_i zs
  cases e;cases ra with
  |cons h t=>
   cases t;obtain⟨a,vs,rfl,l,z,r⟩:=h.lst;exact⟨a,vs,rfl,.inl l,λt ht=>k _ _ (gM ht) (nG s r z ht)⟩
 .rename_i zs
  cases e;cases ra with
  |cons h t=>
   cases t;obtain⟨a,vs,rfl,l,z,r⟩:=h.tup;exact⟨a,vs,rfl,.inr l,λt ht=>k _ _ (gM ht) (nG s r z ht)⟩
 .cases e
def iO:AH->AI
 |[.int i]=>some (.int i)
 |[.bl b]=>some (.int (if b then 1 else 0))
 |_=>none
theorem X9:jR K (λxs H Q=>(∃i,xs=[.int i]/\Q (.int i) H)\/∃k,xs=[.bl k]/\Q (.int (if k then 1 else 0)) H) iO:=λ{p S H as c xs Q} s ra e k=>by
 unfold iO at e;split at e
 .rename_i i
  cases e;cases ra with
  |cons h t=>
   cases t;cases h.int;exact .inl ⟨i,rfl,k H _ (dH.refl H) (gX (v:=.int _) rfl)⟩
 .rename_i i
  cases e;cases ra with
  |cons h t=>
   cases t;cases h.bl;exact .inr ⟨i,rfl,k H _ (dH.refl H) (gX (v:=.int _) rfl)⟩
 .cases e
end
end
section
variable{K:ae}{cl:Str->Addr}{E:XK}{X:Cx}{a b c e l tg:ag}{es:List ag}{m ma mb:ME}{ms:MA}{pos:ai}{p q:Ph}{H H':Hp}{S:aG}
theorem aX.push(s:aX K p S H){D:Addr}{ps:AH}{vs:List V}(h:H D=none)(l:vs.length<=sizeLine)(r:aQ K p.c H ps vs):
  let q:Ph:=⟨p.f++[D],λa=>p.w a\/a=D,λa=>p.c a\/a=D⟩
  bP p H q (bA H D (.lst vs))/\aX K q (S++[.lst ps]) (bA H D (.lst vs)):=by
 intro q;obtain⟨st0,sm0⟩:=s.res (D:=D) (o:=.lst vs) h trivial;have nf0:D∉p.f:=λz=>s.notin h (s.wc D (s.sub D z));refine⟨⟨st0.wc,st0.mu,⟨[D],rfl⟩,st0.mw,st0.mono,λa x n=>?_,st0.nw,st0.nc,st0.keep⟩,?_,by simp[q,s.len],λa x=>?_,sm0.wc,sm0.mu,λk a o e1 e2=>?_⟩
 .rcases cv.mp x with z |z
  .exact absurd z n
  .have:a=D:=by simpa using z
   rw[this];exact h
 .show(p.f++[D]).Nodup
  rw[sy];refine⟨s.nd,by simp,λa ha b hb z=>?_⟩;have:b=D:=by simpa using hb
  exact nf0 (this▸z▸ha)
 .rcases cv.mp x with z |z
  .exact .inl (s.sub a z)
  .exact .inr (by simpa using z)
 .by_cases hk:k<S.length
  .have e1':p.f[k]?=some a:=by
    have e1:(p.f++[D])[k]?=some a:=e1
    rwa[du (by rw[s.len];exact hk)]at e1
   rw[du hk]at e2;refine(s.obj k a o e1' e2).mono (λvs e=>by rw[bV (fR e h)];exact e) (λb w f=>⟨⟨.inl w,λm=>?_⟩,λvs e=>by rw[bV (fR e h)];exact e⟩) λ_ _ r=>st0.reps r;rcases cv.mp m with z |z
   .exact f z
   .have:b=D:=by simpa using z
    exact s.notin h (this▸s.wc b w)
  .have hk':k=S.length:=by
    have:=(ck.mp e2).1;simp at this;omega
   subst hk';rw[dy (ar _),jb]at e2;have e1:(p.f++[D])[S.length]?=some a:=e1;rw[<-s.len,dy (ar _),jb]at e1;cases e1;cases e2;exact⟨vs,fS,l,st0.reps r⟩
theorem aX.write(s:aX K p S H){D:Addr}{k:Nat}{ps:AH}{vs:List V}(h:p.f[k]?=some D)(hk:k<S.length)(l:vs.length<=sizeLine)(r:aQ K p.c H ps vs):
  bP p H p (bA H D (.lst vs))/\aX K p (S.set k (.lst ps)) (bA H D (.lst vs)):=by
 have w:p.w D:=s.sub D (dz h);have st:bP p H p (bA H D (.lst vs)):=⟨s.wc,s.mu,kb,λ_ h=>h,λ_ h=>h,λ_ h g=>absurd h g,λ_ h g=>absurd h g,λ_ h g=>absurd h g,λa u e nw=>by
  rw[bV (λz:a=D=>nw (by rw[z];exact w))];exact e⟩
 refine⟨st,s.nd,by rw[fh];exact s.len,s.sub,s.wc,λa x=>?_,λj a o e1 e2=>?_⟩
 .by_cases z:a=D
  .rw[z,fS]
   exact⟨_,rfl,trivial⟩
  .rw[bV z]
   exact s.mu a x
 .by_cases hj:k=j
  .subst hj
   rw[h]at e1;cases e1;rw[fe hk]at e2;cases e2;exact⟨vs,fS,l,st.reps r⟩
  .rw[ft hj]at e2
   have ne:a≠D:=λq=>hj (qS s.nd h (q▸e1));exact(s.obj j a o e1 e2).mono (λvs e=>by rw[bV ne];exact e) (λb w f=>⟨⟨w,f⟩,λvs e=>by rw[bV (λz:b=D=>f (z▸dz h))];exact e⟩) λ_ _ r=>st.reps r
def jP(xs:AK)(S:aG):bO AV:=match mG xs with
 |some vs=>if vs.length<=16777216 then .ok (.ref S.length) (S++[.lst vs])else .fail
 |none=>.fail
def eI(ms:MA):ME:=λρ S=>(ms ρ S).bind jP
theorem Dz(h:eU K cl E X es ms):aY K cl E X (.List es pos) (eI ms):=by
 intro hK;subst hK;refine(zV (h rfl)).imp ?_
 rintro σ H Q ⟨p,S,ρ,s,e,h⟩
 refine cG s e h λq H1 as xs S1 st s1 e1 r1 h1=>?_;unfold jP at h1;split at h1
 .rename_i vs hv
  split at h1
  .rename_i hl
   have r:=xB hv r1;rw[r.length,<-iS]at hl;refine⟨hl,λt ht=>?_⟩;obtain⟨st2,sm2⟩:=s1.push ht hl r;exact h1 _ _ (.ref t) st2 sm2 ⟨t,by show(q.f++[t])[S1.length]?=some t;rw[<-s1.len,dy (ar _),jb];rfl,rfl⟩
  .exact h1.elim
 .exact h1.elim
def gU(k:Nat)(ys:AK)(S:aG):bO AV:=match ys with
 |[.pv y]=>match S[k]? with
  |some (.lst xs)=>if xs.length<16777216 then .ok (.pv .non) (S.set k (.lst (xs++[y])))else .fail
  |_=>.fail
 |_=>.fail
def eW{α:Type}(k:AV)(S:aG)(f:Nat->bO α):bO α:=match k with
 |.ref k=>(match S[k]? with
  |some (.dic _ _)=>.fail
  |some (.dol _ _)=>.fail
  |_=>f k)
 |_=>.fail
theorem tN{α:Type}(k:Nat)(S:aG)(f:Nat->bO α):eW (.ref k) S f=.fail\/(eW (.ref k) S f=f k/\(∀n l,S[k]?≠some (.dic n l))/\∀n l,S[k]?≠some (.dol n l)):=by
 have e:eW (.ref k) S f=(match S[k]? with
  |some (.dic _ _)=>.fail
  |some (.dol _ _)=>.fail
  |_=>f k):=rfl
 rw[e];cases S[k]? with
 |none=>exact .inr ⟨rfl,λ_ _ z=>(nomatch z),λ_ _ z=>(nomatch z)⟩
 |some o=>
  cases o with
  |dic n l=>exact .inl rfl
  |dol n l=>exact .inl rfl
  |lst xs=>exact .inr ⟨rfl,λ_ _ z=>(nomatch z),λ_ _ z=>(nomatch z)⟩
  |lol xs=>exact .inr ⟨rfl,λ_ _ z=>(nomatch z),λ_ _ z=>(nomatch z)⟩
def dB(m:ME)(ms:MA):ME:=λρ S=>(m ρ S).bind λk S1=>eW k S1 λk=>(ms ρ S1).bind λys S2=>gU k ys S2
theorem zA{k:Nat}{x:V}(s:aX K p S H)(r:cU K p H (.ref k) x)(n1:∀n l,S[k]?≠some (.dic n l))(n2:∀n l,S[k]?≠some (.dol n l)):Lb K "list" x H:=by
 obtain⟨a,e,rfl⟩:=r;have hk:k<S.length:=by
  have:=(ck.mp e).1;rw[<-s.len];exact this
 have z:=s.obj k a S[k] e (av hk);cases y:S[k]with
 |lst xs=>
  rw[y]at z;obtain⟨vs,h,_⟩:=z;exact .inl ⟨rfl,vs,bT.of h⟩
 |lol xss=>
  rw[y]at z;obtain⟨bs,h,_⟩:=z;exact .inl ⟨rfl,_,bT.of h⟩
 |dic n l=>exact absurd (by rw[av hk,y]) (n1 n l)
 |dol n l=>exact absurd (by rw[av hk,y]) (n2 n l)
theorem Fs{apos cpos:ai}(ho:aY K cl E X a m)(ha:eU K cl E X [e] ms)(hbase:attributeBase a "append" X.env (eval a X.env)=eval a X.env:=by rfl)
  (hfew:((backTo cpos (starEach [e] X.env)).all (λx=>!x.1)&&(backToKw cpos (keywordEach [] X.env)).all (λx=>x.1.isSome)&&decide (([e]:List ag).length+([]:List jy).length+(if([]:List jy).isEmpty then 0 else 1)<30))=true:=by rfl)
  (hline:(apos.endLine==cpos.line)=true:=by rfl)(hs:starEach [e] X.env=[(false,eval e X.env)]:=by rfl):aY K cl E X (.Call (.Attribute a "append" apos) [e] [] cpos) (dB m ms):=by
 intro hK;subst hK;refine PE.imp (Ua wu vp g8 tH (ho rfl) (ha rfl) hbase hfew hline hs rfl) ?_
 rintro σ H Q ⟨p,S,ρ,s,ev,h⟩
 refine cG s ev h λq H1 k x S1 st s1 e1 r1 h1=>?_;cases k with
 |pv v=>exact h1.elim
 |ref k=>
  have h1:cE X.K cl (cU X.K) q H1 (eW (.ref k) S1 λk=>(ms ρ S1).bind λys S2=>gU k ys S2) Q E:=h1;rcases tN k S1 (λk=>(ms ρ S1).bind λys S2=>gU k ys S2)with z |⟨z,n1,n2⟩
  .rw[z]at h1
   exact h1.elim
  rw[z]at h1;refine⟨zA s1 r1 n1 n2,cG s1 e1 h1 λq2 H2 ys xs S2 st2 s2 e2 r2 h2=>?_⟩;obtain⟨a,ea,rfl⟩:=st2.repA r1;unfold gU at h2;split at h2
  .rename_i y
   cases r2 with
   |cons r3 r4=>
    cases r4;rename_i x;cases z:S2[k]? with
    |none=>rw[z]at h2;exact h2.elim
    |some o=>
     cases o with
     |lol _=>simp only[z]at h2;exact h2.elim
     |dic _ _=>simp only[z]at h2;exact h2.elim
     |dol _ _=>simp only[z]at h2;exact h2.elim
     |lst zs=>
      simp only[z]at h2;obtain⟨vs,h3,l3,r4⟩:=s2.obj k a _ ea z;split at h2
      .rename_i hl
       rw[r4.length]at hl;have hz:=iS;refine⟨a,vs,x,rfl,rfl,h3,by omega,?_⟩;obtain⟨dX,sm3⟩:=s2.write ea (ck.mp z).1 (ps:=zs++[y]) (vs:=vs++[x]) (by rw[bn,ju];omega) (r4.append (.cons r3 .nil));exact h2 _ _ .non dX sm3 (by show aU X.K q2.c (bA H2 a (.lst (vs++[x]))) .non .non;unfold aU;rfl)
      .exact h2.elim
  .exact h2.elim
def nS(k:Nat)(ys:AK)(S:aG):bO AV:=match ys with
 |[.pv (.int i)]=>if-9223372036854775808<=i/\i<9223372036854775808 then(match S[k]? with
  |some (.lst xs)=>match seqIndex? i xs.length with
   |some j=>match xs[j]? with
    |some v=>.ok (.pv v) (S.set k (.lst (xs.eraseIdx j)))
    |none=>.fail
   |none=>.fail
  |_=>.fail)else .fail
 |_=>.fail
def mJ(m:ME)(ms:MA):ME:=λρ S=>(m ρ S).bind λk S1=>eW k S1 λk=>(ms ρ S1).bind λys S2=>nS k ys S2
theorem G6{apos cpos:ai}(ho:aY K cl E X a m)(ha:eU K cl E X [e] ms)(hbase:attributeBase a "pop" X.env (eval a X.env)=eval a X.env:=by rfl)
  (hfew:((backTo cpos (starEach [e] X.env)).all (λx=>!x.1)&&(backToKw cpos (keywordEach [] X.env)).all (λx=>x.1.isSome)&&decide (([e]:List ag).length+([]:List jy).length+(if([]:List jy).isEmpty then 0 else 1)<30))=true:=by rfl)
  (hline:(apos.endLine==cpos.line)=true:=by rfl)(hs:starEach [e] X.env=[(false,eval e X.env)]:=by rfl):aY K cl E X (.Call (.Attribute a "pop" apos) [e] [] cpos) (mJ m ms):=by
 intro hK;subst hK;refine PE.imp (Ua wu PySem.F.slot_list_pop PySem.F.type_list_pop Mv (ho rfl) (ha rfl) hbase hfew hline hs rfl) ?_
 rintro σ H Q ⟨p,S,ρ,s,ev,h⟩
 refine cG s ev h λq H1 k x S1 st s1 e1 r1 h1=>?_;cases k with
 |pv v=>exact h1.elim
 |ref k=>
  have h1:cE X.K cl (cU X.K) q H1 (eW (.ref k) S1 λk=>(ms ρ S1).bind λys S2=>nS k ys S2) Q E:=h1;rcases tN k S1 (λk=>(ms ρ S1).bind λys S2=>nS k ys S2)with z |⟨z,n1,n2⟩
  .rw[z]at h1
   exact h1.elim
  rw[z]at h1;refine⟨zA s1 r1 n1 n2,cG s1 e1 h1 λq2 H2 ys xs S2 st2 s2 e2 r2 h2=>?_⟩;obtain⟨a,ea,rfl⟩:=st2.repA r1;unfold nS at h2;split at h2
  .rename_i i
   cases r2 with
   |cons r3 r4=>
    cases r4;rename_i x;have ex:x=.int i:=(show eM X.K q2 H2 (.int i) x from .inl r3).int;subst ex;split at h2
    .rename_i hi
     cases z:S2[k]? with
     |none=>rw[z]at h2;exact h2.elim
     |some o=>
      cases o with
      |lol _=>simp only[z]at h2;exact h2.elim
      |dic _ _=>simp only[z]at h2;exact h2.elim
      |dol _ _=>simp only[z]at h2;exact h2.elim
      |lst zs=>
       simp only[z]at h2;obtain⟨vs,h3,l3,r4⟩:=s2.obj k a _ ea z;cases y:seqIndex? i zs.length with
       |none=>simp only[y]at h2;exact h2.elim
       |some j=>
        simp only[y]at h2;cases yv:zs[j]? with
        |none=>simp only[yv]at h2;exact h2.elim
        |some v=>
         simp only[yv]at h2;obtain⟨u,eu,ru⟩:=r4.get yv;refine⟨a,vs,i,j,u,rfl,rfl,h3,hi.1,hi.2,by rw[<-r4.length];exact y,eu,?_⟩;obtain⟨dX,sm3⟩:=s2.write ea (ck.mp z).1 (ps:=zs.eraseIdx j) (vs:=vs.eraseIdx j) (dw (xC vs j) l3) (r4.eraseIdx j);exact h2 _ _ u dX sm3 (dX.rep ru)
    .exact h2.elim
  .exact h2.elim
def pQ(k:Nat)(i:AV)(v:AV)(S:aG):bO Unit:=match i,v with
 |.pv (.int i),.pv v=>match S[k]? with
  |some (.lst xs)=>match aW xs.length i with
   |some j=>.ok () (S.set k (.lst (xs.set j v)))
   |none=>.fail
  |_=>.fail
 |_,_=>.fail
def nN(mo mi mv:ME):MS:=λρ S=>cF.of (mv ρ S) λv S1=>cF.of (mo ρ S1) λk S2=>cF.of (mi ρ S2) λi S3=>cF.of (eW k S3 λk=>pQ k i v S3) λ_ S4=>.nx ρ S4
theorem Ct{o i v:ag}{mo mi mv:ME}{tpos:ai}(hv:aY K cl E X v mv)(ho:aY K cl E X o mo)(hi:aY K cl E X i mi)
  (ha:∀v,assign (.Subscript o i tpos) X.env v=(do
   let ov <-holding [v] (eval o X.env)
   let iv <-holding [v,ov] (eval i X.env)
   standAt tpos
   holding [v,ov,iv] (setItem ov iv v)
   release [v,ov,iv] []):=by intro _;rfl)
  (hs:swapsWithSole [.Subscript o i tpos] v pos.line X.env=pure false:=by rfl)(hw:swappedStores [.Subscript o i tpos] v X.env=pure none:=by rfl)
  (h1:(assignEach [.Subscript o i tpos] X.env).map (·.2)=[assign (.Subscript o i tpos) X.env]:=by rfl):eO K cl E X (.Assign [.Subscript o i tpos] v pos) (nN mo mi mv):=by
 intro hK;subst hK;refine PS.imp (Uk (hv rfl) (Pk (ho rfl) (hi rfl) Kh ha) hs hw h1) ?_
 rintro D σ H ⟨p,S,ρ,s,ev,h⟩
 refine jJ s ev h λq H1 v x S1 st s1 e1 r1 h1=>?_;refine jJ s1 e1 h1 λq2 H2 k y S2 st2 s2 e2 r2 h2=>?_;refine jJ s2 e2 h2 λq3 H3 i z S3 dX s3 e3 r3 h3=>?_;cases k with
 |pv _=>exact h3.elim
 |ref k=>
  obtain⟨a,ea,rfl⟩:=dX.repA r2;have rv:=dX.repA (st2.repA r1);have h3:eG X.K cl q3 H3 (cF.of (eW (.ref k) S3 λk=>pQ k i v S3) λ_ S4=>.nx ρ S4) D E:=h3;rcases tN k S3 (λk=>pQ k i v S3)with z0 |⟨z0,_,_⟩
  .rw[z0]at h3
   exact h3.elim
  rw[z0]at h3;unfold pQ at h3;split at h3
  .rename_i ii vv _
   have ez:z=.int ii:=(show eM X.K q3 H3 (.int ii) z from .inl r3).int;subst ez;cases w:S3[k]? with
   |none=>rw[w]at h3;exact h3.elim
   |some o=>
    cases o with
    |lol _=>simp only[w]at h3;exact h3.elim
    |dic _ _=>simp only[w]at h3;exact h3.elim
    |dol _ _=>simp only[w]at h3;exact h3.elim
    |lst zs=>
     simp only[w]at h3;obtain⟨vs,hh,ll,rr⟩:=s3.obj k a _ ea w;cases y:aW zs.length ii with
     |none=>simp only[y]at h3;exact h3.elim
     |some j=>
      simp only[y]at h3;refine⟨a,vs,ii,j,rfl,rfl,hh,by rw[<-rr.length];exact y,?_⟩;obtain⟨st4,sm4⟩:=s3.write ea (ck.mp w).1 (ps:=zs.set j vv) (vs:=vs.set j x) (by rw[fh];exact ll) (aQ.set rv j rr);exact h3 _ _ _ st4 sm4 (st4.repE e3)
  .exact h3.elim
def eN:AH->AH->AH
 |x::xs,y::ys=>.tup [x,y]::eN xs ys
 |_,_=>[]
theorem yE:∀(xs ys:AH),(eN xs ys).length=min xs.length ys.length
 |[],ys=>by cases ys<;>simp[eN]
 |x::xs,[]=>by simp[eN]
 |x::xs,y::ys=>by
  unfold eN;rw[db,yE xs ys,db,db];omega
theorem Ch:∀{xs ys:AH}{i:Nat}{v:PV},(eN xs ys)[i]?=some v->∃x y,xs[i]?=some x/\ys[i]?=some y/\v=.tup [x,y]
 |[],ys,i,v,e=>by cases ys<;>simp[eN]at e
 |x::xs,[],i,v,e=>by simp[eN]at e
 |x::xs,y::ys,0,v,e=>by
  unfold eN at e;simp at e;exact⟨x,y,rfl,rfl,e.symm⟩
 |x::xs,y::ys,i+1,v,e=>by
  unfold eN at e;obtain⟨a,b,h1,h2,h3⟩:=Ch (xs:=xs) (ys:=ys) (i:=i) (v:=v) (by simpa using e);exact⟨a,b,by simpa using h1,by simpa using h2,h3⟩
def gI:AK->aG->bO (AH×Gd)
 |[a,b],S=>match bS a S with
  |.ok xs _=>match bS b S with
   |.ok ys _=>.ok (eN xs.1 ys.1,xs.2++ys.2) S
   |_=>.fail
  |_=>.fail
 |_,_=>.fail
def fG(ms:MA):MI:=λρ S=>(ms ρ S).bind gI
theorem Wf{a:AV}{x:V}{xs:AH×Gd}{S':aG}(s:aX K p S H)(r:cU K p H a x)(e:bS a S=.ok xs S'):∃f ad vs,x=.ref ad/\iR f K H ad vs/\xs.1.length<=sizeLine/\∀q H1 S1,bP p H q H1->aX K q S1 H1->fP xs.2 S1->∃vs,iR f K H1 ad vs/\aQ K q.c H1 xs.1 vs:=by
 cases a with
 |ref j=>
  obtain⟨a,e1,rfl⟩:=r;unfold bS at e;dsimp only at e;cases z:S[j]? with
  |none=>rw[z]at e;cases e
  |some o=>
   cases o with
   |lol _=>rw[z]at e;cases e
   |dic _ _=>rw[z]at e;cases e
   |dol _ _=>rw[z]at e;cases e
   |lst ys=>
    rw[z]at e;cases e;obtain⟨vs,h1,l1,r1⟩:=s.obj j a _ e1 z;refine⟨false,a,vs,rfl,bT.of h1,by rw[r1.length];exact l1,λq H1 S1 st sm g=>?_⟩;obtain⟨ws,h2,l2,r2⟩:=sm.obj j a _ (st.at_ e1) (g (j,ys) cf);exact⟨ws,bT.of h2,r2⟩
 |pv v=>
  cases v with
  |lst ys=>
   cases e;have r:aU K p.c H (.lst ys) x:=r;unfold aU at r;obtain⟨a,vs,rfl,l,z,r⟩:=r;exact⟨false,a,vs,rfl,l.sq,by rw[r.length];exact z,λq H1 S1 st sm g=>⟨vs,(st.lat l).sq,st.reps r⟩⟩
  |tup ys=>
   cases e;have r:aU K p.c H (.tup ys) x:=r;unfold aU at r;obtain⟨a,vs,rfl,l,z,r⟩:=r;exact⟨true,a,vs,rfl,l,by rw[r.length];exact z,λq H1 S1 st sm g=>⟨vs,st.tup l,st.reps r⟩⟩
  |_=>cases e
theorem Xy{elts:List ag}{x1:Nat}{tp p:ai}(hg:Gl X "zip")(hm:X.mg "zip"=none)(hl:eU K cl E X [a,b] ms)(hs:starEach [a,b] X.env=[(false,eval a X.env),(false,eval b X.env)]:=by rfl)(hs2:starEach [b] X.env=[(false,eval b X.env)]:=by rfl):
  PIp K cl E X (.Tuple elts x1 tp) (.Call (.Name "zip" p) [a,b] [] pos) (fG ms):=by
 intro hK;subst hK;refine PI.imp (P4 hg hm (hl rfl) hs hs2) ?_
 rintro σ H R ⟨p,S,ρ,s,ev,h⟩
 refine cG s ev h λq H' as xs S' stp sm ev r k=>?_;unfold gI at k;split at k
 .rename_i u v
  cases r with
  |cons r1 r2=>
   cases r2 with
   |cons r2 r3=>
    cases r3;split at k
    .rename_i xs1 S1 hx
     split at k
     .rename_i ys1 S2 hy
      obtain⟨f1,a1,vs1,rfl,q1,z1,st1⟩:=Wf sm r1 hx;obtain⟨f2,a2,vs2,rfl,q2,z2,st2⟩:=Wf sm r2 hy;refine⟨f1,a1,f2,a2,vs1,vs2,rfl,q1,q2,cE.ret (R:=fO X.K) k sm ?_⟩;refine⟨by rw[yE];omega,λq3 H3 S3 dX sm3 g3=>?_⟩;obtain⟨ws1,w1,rr1⟩:=st1 q3 H3 S3 dX sm3 λg hg=>g3 g (kd _ hg);obtain⟨ws2,w2,rr2⟩:=st2 q3 H3 S3 dX sm3 λg hg=>g3 g (fu _ hg);refine⟨λi v e=>?_,?_⟩
      .obtain⟨x,y,ex,ey,rfl⟩:=Ch e
       obtain⟨x',ex',rx⟩:=rr1.get ex;obtain⟨y',ey',ry⟩:=rr2.get ey;refine⟨⟨ws1,ws2,x',y',w1,w2,ex',ey'⟩,λz H4 hz=>?_⟩;obtain⟨t,x2,y2,ht,rfl,rfl,g1,g2⟩:=hz;have e1:=(g1 ws1 w1).symm.trans ex';have e2:=(g2 ws2 w2).symm.trans ey';cases e1;cases e2;refine⟨gM ht,nE sm3 (.cons rx (.cons ry .nil)) (by show 2<=sizeLine;decide) ht⟩
      .refine⟨ws1,ws2,w1,w2,?_⟩
       show(eN xs1.1 ys1.1).length=_\/_;rw[yE,rr1.length,rr2.length];omega
     .exact k.elim
    .exact k.elim
 .exact k.elim
def iJ:Nat->AH->AH
 |_,[]=>[]
 |n,x::xs=>.tup [.int n,x]::iJ (n+1) xs
theorem xQ:∀(n:Nat)(xs:AH),(iJ n xs).length=xs.length
 |_,[]=>rfl
 |n,x::xs=>by
  unfold iJ;rw[db,xQ (n+1) xs,db]
theorem Me:∀{n:Nat}{xs:AH}{i:Nat}{v:PV},(iJ n xs)[i]?=some v->∃x,xs[i]?=some x/\v=.tup [.int ((n+i:Nat):Int),x]
 |n,[],i,v,e=>by simp[iJ]at e
 |n,x::xs,0,v,e=>by
  unfold iJ at e;simp at e;exact⟨x,rfl,e.symm⟩
 |n,x::xs,i+1,v,e=>by
  unfold iJ at e;obtain⟨y,h1,h2⟩:=Me (n:=n+1) (xs:=xs) (i:=i) (v:=v) (by simpa using e);refine⟨y,by simpa using h1,?_⟩;rw[h2,show n+1+i=n+(i+1) by omega]
def zX:AK->aG->bO (AH×Gd)
 |[.pv (.lst xs)],S=>.ok (iJ 0 xs,[]) S
 |[.ref k],S=>match bS (.ref k) S with
  |.ok xs _=>.ok (iJ 0 xs.1,xs.2) S
  |_=>.fail
 |_,_=>.fail
def uX(ms:MA):MI:=λρ S=>(ms ρ S).bind zX
theorem Al{xs:AH}{G:Gd}{a:Addr}(z:xs.length<=sizeLine)(st1:∀q H1 S1,bP p H q H1->aX K q S1 H1->fP G S1->∃vs,bT K H1 a vs/\aQ K q.c H1 xs vs):fO K p H (iJ 0 xs,G) (Tb K a):=by
 refine⟨by rw[xQ];exact z,λq3 H3 S3 dX sm3 g3=>?_⟩;obtain⟨ws1,w1,rr1⟩:=st1 q3 H3 S3 dX sm3 g3;refine⟨λi v e=>?_,?_⟩
 .obtain⟨x,ex,rfl⟩:=Me e
  obtain⟨x',ex',rx⟩:=rr1.get ex;refine⟨⟨ws1,x',w1,ex'⟩,λz H4 hz=>?_⟩;obtain⟨t,y2,ht,rfl,rfl,g1⟩:=hz;have e1:=(g1 ws1 w1).symm.trans ex';cases e1;refine⟨gM ht,nE sm3 (.cons ?_ (.cons rx .nil)) (by show 2<=sizeLine;decide) ht⟩;rw[Nat.zero_add];exact gX (v:=.int _) rfl
 .refine⟨ws1,w1,?_⟩
  show _<=(iJ 0 xs).length;rw[xQ,rr1.length];exact ar _
theorem Gw{elts:List ag}{x1:Nat}{tp p:ai}(hg:Gl X "enumerate")(hm:X.mg "enumerate"=none)(hl:eU K cl E X [l] ms)(hs:starEach [l] X.env=[(false,eval l X.env)]:=by rfl):
  PIp K cl E X (.Tuple elts x1 tp) (.Call (.Name "enumerate" p) [l] [] pos) (uX ms):=by
 intro hK;subst hK;refine PI.imp (Gx hg hm (hl rfl) hs) ?_
 rintro σ H R ⟨p,S,ρ,s,ev,h⟩
 refine cG s ev h λq H' as xs S' stp sm ev r k=>?_;unfold zX at k;split at k
 .rename_i ys
  cases r with
  |cons r1 r2=>
   cases r2;rename_i x;have r1:aU X.K q.c H' (.lst ys) x:=r1;unfold aU at r1;obtain⟨a,vs,rfl,l,z,r⟩:=r1;exact⟨a,rfl,⟨vs,l.sq⟩,cE.ret (R:=fO X.K) k sm (Al (by rw[r.length];exact z) λq H1 S1 st sm g=>⟨vs,(st.lat l).sq,st.reps r⟩)⟩
 .rename_i j
  cases r with
  |cons r1 r2=>
   cases r2;split at k
   .rename_i xs1 S1 hx
    obtain⟨a,e1,rfl⟩:=r1;cases z:S'[j]? with
    |none=>unfold bS at hx;simp only[z]at hx;cases hx
    |some o=>
     cases o with
     |lol _=>unfold bS at hx;simp only[z]at hx;cases hx
     |dic _ _=>unfold bS at hx;simp only[z]at hx;cases hx
     |dol _ _=>unfold bS at hx;simp only[z]at hx;cases hx
     |lst ys=>
      unfold bS at hx;simp only[z]at hx;cases hx;obtain⟨vs,h1,l1,r1⟩:=sm.obj j a _ e1 z;refine⟨a,rfl,⟨vs,bT.of h1⟩,cE.ret (R:=fO X.K) k sm (Al (by rw[r1.length];exact l1) λq H1 S1 st sm g=>?_)⟩;obtain⟨ws,h2,l2,r2⟩:=sm.obj j a _ (st.at_ e1) (g (j,ys) cf);exact⟨ws,bT.of h2,r2⟩
   .exact k.elim
 .exact k.elim
end
theorem vQ{A:al}{k:Nat}(hr:dI k A):A.units+8<cLine:=by
 have:=hr.units;omega
section
variable{K:ae}{cl:Str->Addr}{E:XK}{X:Cx}{a b c e l tg:ag}{es:List ag}{m ma mb:ME}{ms:MA}{pos:ai}{p q:Ph}{H H':Hp}{S:aG}
def jQ(n:String):PV->AI
 |.int _=>if n="int" then some (.bl true)else if n="bool" then some (.bl false)else none
 |.tup _=>if n="tuple" then some (.bl true)else none
 |.lst _=>if n="list" then some (.bl true)else none
 |.str _=>if n="str" then some (.bl true)else none
 |.bl _=>if n="bool" then some (.bl true)else none
 |_=>none
theorem qT(K:ae)(n:String):og K (.type n) (.type n)=some true:=by
 unfold og;rw[if_pos (beq_self_eq_true _)]
def Co(K:ae)(n:String):V->Hp->VK->Prop:=λx H Q=>(∃t b,iZ K H x t/\og K t (.type n)=some b/\Q (.bl b) H)\/(n="tuple"/\∃a xs,x=.ref a/\dA K H a xs/\Q (.bl true) H)\/(n="list"/\∃a xs,x=.ref a/\bT K H a xs/\Q (.bl true) H)
theorem Cs(n:String):iK X (.builtin "isinstance") (λxs H Q=>∃x,xs=[x,.ty n]/\Co X.K n x H Q):=by
 intro AM s σ H xs us Q I r h;obtain⟨x,rfl,h⟩:=h;obtain⟨u,c,rfl,rx,rc⟩:=Qm r;cases(show c=nj n from rc);rcases h with⟨t,b,ty,e,q⟩|⟨rfl,a,xs,rfl,t,q⟩|⟨rfl,a,xs,rfl,t,q⟩
 .exact Dt I rx ty e λtk=>⟨.bl b,H,I.tok tk,rfl,q⟩
 .cases rx
  obtain⟨its,_,⟨o,h1,h2,_⟩,_⟩:=I.tuple t;exact ir yk I.kIn ⟨o,h1,h2⟩ (qT X.K "tuple") (λz=>nomatch z) λtk=>⟨.bl true,H,I.tok tk,rfl,q⟩
 .cases rx
  obtain⟨its,_,pl,_⟩:=I.list t;obtain⟨o,h1,h2,_⟩:=pl.isList;exact ir uv I.kIn ⟨o,h1,h2⟩ (qT X.K "list") (λz=>nomatch z) λtk=>⟨.bl true,H,I.tok tk,rfl,q⟩
theorem Z5(n:String):wC K (Co K n) (jQ n):=λ{p S H a c x Q} s ra e k=>by
 have fin:∀b,c=.bl b->Q (.bl b) H:=λb h=>by
  subst h;exact k H _ (dH.refl H) (by unfold aU;rfl)
 cases a with
 |int i=>
  cases ra.int;unfold jQ at e;dsimp only at e;split at e
  .rename_i hn
   cases e;subst hn;exact .inl ⟨_,true,.int i,qT K _,fin _ rfl⟩
  .split at e
   .rename_i hn
    cases e;subst hn;exact .inl ⟨_,false,.int i,L4 K,fin _ rfl⟩
   .cases e
 |bl i=>
  cases ra.bl;unfold jQ at e;dsimp only at e;split at e
  .rename_i hn
   cases e;subst hn;exact .inl ⟨_,true,.bl i,qT K _,fin _ rfl⟩
  .cases e
 |str i=>
  cases ra.str;unfold jQ at e;dsimp only at e;split at e
  .rename_i hn
   cases e;subst hn;exact .inl ⟨_,true,.str i,qT K _,fin _ rfl⟩
  .cases e
 |tup xs=>
  obtain⟨a,vs,rfl,t,_,_⟩:=ra.tup;unfold jQ at e;dsimp only at e;split at e
  .rename_i hn
   cases e;exact .inr (.inl ⟨hn,a,vs,rfl,t,fin _ rfl⟩)
  .cases e
 |lst xs=>
  obtain⟨a,vs,rfl,t,_,_⟩:=ra.lst;unfold jQ at e;dsimp only at e;split at e
  .rename_i hn
   cases e;exact .inr (.inr ⟨hn,a,vs,rfl,t,fin _ rfl⟩)
  .cases e
 |non=>cases e
theorem Tl{n:String}{t:Str}{p p2:ai}(hg:Gl X "isinstance")(hm:X.mg "isinstance"=none)(hgt:Gl X t)(hmt:X.mg t=none)(hv:bootBuiltins t=some (.type n))(ha:aY K cl E X a m)
  (htn:t≠"__name__":=by decide)(htd:(t==("__debug__":Str))=false:=by decide)
  (he:starEach [a,.Name t p2] X.env=(false,eval a X.env)::starEach [.Name t p2] X.env:=by rfl)(he2:starEach [.Name t p2] X.env=[(false,eval (.Name t p2) X.env)]:=by rfl)(hpl:(backTo pos (starEach [.Name t p2] X.env)).any (·.1)=false:=by rfl):
  aY K cl E X (.Call (.Name "isinstance" p) [a,.Name t p2] [] pos) (bH (jQ n) m):=by
 intro hK;subst hK;refine PE.imp (Uh (Cs n) hg hm PyProof.Rows.boot_isinstance (pA (ha rfl) (pA (Ky hgt hmt hv (v:=.ty n) rfl htn htd) rF he2) he) (by decide) (by decide) he hpl) ?_
 rintro σ H Q ⟨p,S,ρ,s,ev,h⟩
 exact cG s ev h λq H' as x S' stp sm ev r k=>⟨x,rfl,xF (Z5 n) sm r k⟩
def vD(f:Int->Int->Int)(i:Nat)(ρ:bR)(v:AV)(S:aG):cF:=match ρ[i]? with
 |some (some (.pv (.int x)))=>match v with
  |.pv (.int y)=>.nx (ρ.set i (some (.pv (.int (f x y))))) S
  |_=>.fail
 |_=>.fail
def kQ(f:Int->Int->Int)(i:Nat)(m:ME):MS:=λρ S=>match ρ[i]? with
 |some (some (.pv (.int _)))=>cF.of (m ρ S) (vD f i ρ)
 |_=>.fail
theorem Jg{i:Nat}{x:Str}{op:qa}{f:Int->Int->Int}{pos':ai}(hN:X.N.Nodup)(hi:X.N[i]?=some x)(hx:jU X.env.scope x)(he:aY K cl E X e m)(ho:L2.PIp X op (Vb f))
  (hf:X.fn x=true\/X.env.scope.names.lookup x=some .local:=by first |exact .inl rfl |exact .inr rfl |assumption):eO K cl E X (.AugAssign (.Name x pos') op e pos) (kQ f i m):=by
 intro hK;subst hK;refine PS.imp (Dl hN hi hx (he rfl) ho hf) ?_
 rintro D σ H ⟨p,S,ρ,s,ev,h⟩
 unfold kQ at h;split at h
 .rename_i x0 hx0
  obtain⟨v,e1,r1⟩:=ev.at_ i _ hx0;refine⟨v,e1,jJ s ev h λq H' a b S' stp sm ev' r k=>?_⟩;have ev2:v=.int x0:=(show eM X.K p H (.int x0) v from .inl r1).int;unfold vD at k;rw[hx0]at k;dsimp only at k;split at k
  .rename_i y0
   have eb:b=.int y0:=(show eM X.K q H' (.int y0) b from .inl r).int;exact⟨x0,y0,ev2,eb,eG.nxD k sm (ev'.set (v:=.pv (.int (f x0 y0))) (x:=.int (f x0 y0)) (by show aU X.K q.c H' _ _;unfold aU;rfl) i)⟩
  .exact k.elim
 .exact h.elim
def uS(K:ae):Sp:=λvs H Q _=>∃(a:Addr)(ns:AA),vs=[.ref a]/\bT K H a (ns.map V.int)/\ns.length<=63/\∀H',Q (.bl true) H'
theorem Ox{f:FM}(ht:∀ns:AA,ns.length<=63->∃S,f [.pv (.lst (ns.map .int))] []=.ok (.pv (.bl true)) S){vs:List V}{H:Hp}{Q:VK}{E:XK}(h:uS K vs H Q E):kE K cl f vs H Q E:=by
 obtain⟨a,ns,rfl,hS,hl,hQ⟩:=h;obtain⟨S,e⟩:=ht ns hl;have rs:∀(ns:AA),aQ K (λ_=>False) H (ns.map .int) (ns.map V.int):=λns=>by
  induction ns with
  |nil=>exact .nil
  |cons n ns ih=>exact .cons (by unfold aU;rfl) ih
 refine⟨⟨[],λ_=>False,λ_=>False⟩,[],[.pv (.lst (ns.map .int))],⟨List.nodup_nil,rfl,(λ_ h=>absurd h (ee)),(λ_ h=>h),(λ_ h=>h.elim),(λk a o e=>by simp at e)⟩,.cons ?_ .nil,?_⟩
 .show aU K (λ_=>False) H (.lst (ns.map .int)) (.ref a)
  unfold aU;refine⟨a,_,rfl,?_,?_,rs ns⟩
  .rcases hS with(h |h) |h
   .exact .inl ⟨h,λz=>z⟩
   .exact .inr (.inl h)
   .exact .inr (.inr h)
  .rw[ak,iS]
   omega
 .rw[e]
  intro q H' x st sm r;have r:aU K q.c H' (.bl true) x:=r;unfold aU at r;rw[r];exact hQ H'
end
section
variable{K:ae}{cl:Str->Addr}{E:XK}{X:Cx}{e:ag}{es:List ag}{ms:MA}{p q:Ph}{H H':Hp}{S:aG}
theorem dR.forget{ρ:bR}{σ:St}(h:dR K p H ρ σ)(i:Nat)(x:Option V):dR K p H (ρ.set i none) (σ.set i x):=by
 refine⟨by rw[fh,fh,h.len],λj u e=>?_⟩
 by_cases q:i=j
 .subst q
  by_cases l:i<ρ.length
  .rw[fe l]at e
   cases e
  .rw[sv (by rw[fh];omega)]at e
   cases e
 .rw[ft q]at e⊢
  exact h.at_ j u e
variable{k:Nat}{f:Addr}{fd:bj}{ps:List Str}{g:FM}{dvs:List V}{ds:AD}{dv:AH}{x:Str}{pp pos pos1 pos2 pos3 pc:ai}{c n:Str}{i nn:Nat}{AS:Stmt}{body:List Stmt}{newId:String}{up:bR->bR}
end
end L2.Pp
namespace L2
open PySem PySem.Spec PyProof.Rows Bn
section
variable{X:Cx}{k:Nat}{f:Addr}{fd:bj}{ps:List Str}{sp:Sp}{dvs:List V}{ds:AD}{x:Str}{p pos pos1 pos2 pos3 pc:ai}{e:ag}{es:List ag}{t:TA}{c n:Str}{C:Addr}{i:Nat}{AS:Stmt}{body:List Stmt}{newId:String}
end
end L2
namespace L2.Pp
open PySem PySem.Spec PyProof.Rows Bn
section
variable{K:ae}{cl:Str->Addr}{E:XK}{X:Cx}{e:ag}{es:List ag}{ms:MA}{p q:Ph}{H H':Hp}{S:aG}
variable{k:Nat}{f:Addr}{fd:bj}{ps:List Str}{g:FM}{dvs:List V}{ds:AD}{dv:AH}{x:Str}{pp pos pos1 pos2 pos3 pc:ai}{c n:Str}{i nn:Nat}{AS:Stmt}{body:List Stmt}{newId:String}{up:bR->bR}
end
section
variable{prog:Program}{w:aj}{A:al}{E:Value->aa->Prop}{s:aa}
end
end L2.Pp
namespace L2
open PySem PyProof.Rows
end L2
namespace L2.Pp
open PySem
end L2.Pp
namespace L2
open PySem PySem.Spec PyProof.Rows Bn
section
variable{X:Cx}
theorem Tc(is:AA):∀j,j<=is.length->preSum (λi=>is.getD i 0) j=(is.take j).sum
 |0,_=>by simp[preSum]
 |j+1,h=>by
  have hj:j<is.length:=h;rw[preSum,Tc is j (by omega),List.take_add_one,av hj,Option.toList_some,g9,List.sum_singleton];simp only[cy,av hj,i3]
theorem Os(hc:X.calm=true):iK X (.builtin "sum") (λxs H Q=>∃(a:Addr)(is:AA),xs=[.ref a]/\bT X.K H a (is.map V.int)/\Q (.int is.sum) H):=by
 intro AM s σ H xs us Q I r h;obtain⟨a,is,rfl,hq,q⟩:=h;obtain⟨u,rfl,ru⟩:=kD r;cases ru;obtain⟨its,rv,pl,hz⟩:=I.list hq;have hl:is.length=its.length:=by
  have:=rv.length
  rwa[ak]at this
 refine call_sum_walkG (wn pl.isList ?_);have ha:a<s.heap.objs.size:=by
  obtain⟨o,ho,_⟩:=pl.isList;exact bi ho
 refine⟨_,_,_,_,_,_,λi=>is.getD i 0,rfl,Walks.list (prog:=X.prog) (w:=X.w) (A:=X.A.in1) (show X.A.in1.handled=none from I.ok.hd hc) s.heap.objs.size a (dq ha) its.toArray,⟨⟨_,dh _ rfl,rfl,rfl⟩,Heap.IsList.at pl.isList λo e=>aw _ e⟩,λb hb=>?_,λi v hv=>?_,λh' tk t' kp=>?_⟩
 .have hb':b=s.heap.objs.size\/b=a:=by simpa using hb
  rw[jm];rcases hb' with e |e<;>rw[e]
  .exact wr _
  .exact wv ha
 .have hv':its[i]?=some v:=by simpa using hv
  have hi:i<is.length:=by
   have:=(ck.mp hv').1;omega
  obtain⟨u,hu,ru⟩:=rv.get (i:=i) (x:=.int is[i]) (by rw[di,av hi];rfl);rw[hv']at hu;cases hu;obtain⟨t,ht⟩:=(show ∃t,v=qu is[i] t from ru);exact⟨t,by rw[ht];simp[cy,hi]⟩
 .have e:preSum (λi=>is.getD i 0) its.toArray.size=is.sum:=by
   rw[au,<-hl,Tc is _ (ar _),ww]
  show EP X AM σ Q (.int (preSum (λi=>is.getD i 0) its.toArray.size) t') _;rw[e];have I1:aH X AM σ H {s with heap:=s.heap.push {cls:=.type "list_iterator",data:=.fields #[.ref a,.int 0 0]},toks:=s.toks}:=I.kept λb o z=>aw _ z;have fp:fU X AM H s.heap.objs.size:=I.fpOk (ar _) (I.hok.fresh (ar _));obtain⟨f0,f1,f2,f3,f4,f5⟩:=fp;exact⟨.int is.sum,H,I1.turned (λb o hb z=>kp b o (by simpa using hb) z) f0 f1 f3 f4 f5,⟨t',rfl⟩,q⟩
end
end L2
namespace L2.Pp
open PySem PySem.Spec PyProof.Rows Bn
section
variable{K:ae}{cl:Str->Addr}{E:XK}{X:Cx}
def gR:AH->Option AA
 |[]=>some []
 |.int b::r=>match gR r with
  |some bs=>some (b::bs)
  |none=>none
 |_::_=>none
theorem qR{c:Addr->Prop}{H:Hp}:∀{xs:AH}{bs:AA}{vs:List V},gR xs=some bs->aQ K c H xs vs->vs=bs.map V.int
 |[],bs,vs,e,r=>by
  cases e;unfold aQ at r;exact r
 |.int b::xs,bs,vs,e,r=>by
  unfold gR at e;split at e
  .rename_i cs h
   cases e;unfold aQ at r;obtain⟨v,w,rfl,r1,r2⟩:=r;unfold aU at r1;rw[r1,qR h r2];rfl
  .cases e
 |.non::_,_,_,e,_=>by cases e
 |.bl _::_,_,_,e,_=>by cases e
 |.str _::_,_,_,e,_=>by cases e
 |.tup _::_,_,_,e,_=>by cases e
 |.lst _::_,_,_,e,_=>by cases e
def mL:AH->AI
 |[.lst xs]=>(gR xs).map λbs=>.int bs.sum
 |_=>none
theorem aak:jR K (λxs H Q=>∃(a:Addr)(is:AA),xs=[.ref a]/\bT K H a (is.map V.int)/\Q (.int is.sum) H) mL:=λ{p S H as c xs Q} s ra e k=>by
 unfold mL at e;split at e
 .rename_i zs
  cases y:gR zs with
  |none=>rw[y]at e;cases e
  |some bs=>
   rw[y]at e;cases e;cases ra with
   |cons h t=>
    cases t;obtain⟨a,vs,rfl,l,z,r⟩:=h.lst;rw[qR y r]at l;exact⟨a,bs,rfl,l,k H _ (dH.refl H) (gX (v:=.int _) rfl)⟩
 .cases e
end
section
variable{K:ae}{cl:Str->Addr}{E:XK}{X:Cx}{p q:Ph}{H H':Hp}{S:aG}
variable{sc:Scope}{own:List Str}{cap:List (Nat×Str)}{elt target iter:ag}{pos:ai}{mi:MI}{g:GM}{me:ME}
end
def iA{α:Type}(xs:List α)(lo hi:AG)(st:Int):List α:=
 (sliceRange (sliceBounds lo hi (some st) xs.length).1 (sliceBounds lo hi (some st) xs.length).2.1 (sliceBounds lo hi (some st) xs.length).2.2).filterMap (xs[·]?)
theorem Rc(its:AD)(lo hi:AG)(st:Int):slicePick its.toArray lo hi (some st)=(iA its lo hi st).toArray:=by
 unfold slicePick iA;rw[au];simp only[List.getElem?_toArray]
theorem Mf{α β:Type}{R:α->β->Prop}:∀{xs:List α}{ys:List β}(ks:List Nat),xs.length=ys.length->(ks.filterMap (xs[·]?)).length=(ks.filterMap (ys[·]?)).length
 |xs,ys,[],_=>rfl
 |xs,ys,k::ks,h=>by
  have ih:=Mf (R:=R) (xs:=xs) (ys:=ys) ks h
  by_cases hk:k<xs.length
  .have hk2:k<ys.length:=by omega
   rw[jk,jk,av hk,av hk2];simp[ih]
  .rw[jk,jk,sv (by omega),sv (by omega)]
   exact ih
theorem Dg{α:Type}(xs:List α)(lo hi:AG)(st:Int):(iA xs lo hi st).length<=xs.length:=by
 have e:=slicePick_size_le (wz xs.length cx) lo hi (some st);have e2:(iA xs lo hi st).length=(slicePick (wz xs.length cx) lo hi (some st)).size:=by
  have:=Rc (qz xs.length cx) lo hi st;rw[show wz xs.length cx=(qz xs.length cx).toArray by simp,this,au];unfold iA;rw[yo];exact Mf (R:=λ_ _=>True) _ (by simp)
 rw[e2];simpa using e
section
variable{K:ae}{cl:Str->Addr}{E:XK}{X:Cx}{e:ag}{m:ME}{pos p2:ai}
theorem bC.at_{xs:List V}{us:AD}(r:bC xs us):∀{k:Nat}{x:V},xs[k]?=some x->∃u,us[k]?=some u/\bW x u:=λ{k x} h=>by
 obtain⟨u,e1,e2⟩:=r.get h;exact⟨u,e1,e2⟩
theorem bC.pick{xs:List V}{us:AD}(r:bC xs us):∀ks:List Nat,bC (ks.filterMap (xs[·]?)) (ks.filterMap (us[·]?))
 |[]=>.nil
 |k::ks=>by
  have ih:=bC.pick r ks;rw[jk,jk];cases h:xs[k]? with
  |none=>
   have:us[k]?=none:=by
    rw[i4]at h⊢;rw[<-r.length];exact h
   rw[this];exact ih
  |some x=>
   obtain⟨u,e1,e2⟩:=bC.at_ r h;rw[e1];exact .cons e2 ih
theorem aQ.pick{c:Addr->Prop}{H:Hp}{xs:AH}{us:List V}(r:aQ K c H xs us):∀ks:List Nat,aQ K c H (ks.filterMap (xs[·]?)) (ks.filterMap (us[·]?))
 |[]=>.nil
 |k::ks=>by
  have ih:=aQ.pick r ks;rw[jk,jk];cases h:xs[k]? with
  |none=>
   have:us[k]?=none:=by
    rw[i4]at h⊢;rw[<-r.length];exact h
   rw[this];exact ih
  |some x=>
   obtain⟨u,e1,e2⟩:=r.get h;rw[e1];exact .cons e2 ih
def Rn(v:PV)(lo hi:AG)(st:Int):AI:=match v with
 |.lst xs=>some (.lst (iA xs lo hi st))
 |_=>none
def sA(m:ME)(ml mh:MO)(st:Int):ME:=λρ S=>(m ρ S).bind λv S1=>(ml ρ S1).bind λlo S2=>(mh ρ S2).bind λhi S3=>gW ((rd S3 v).bind λx=>Rn x lo hi st) S3
def aaJ(K:ae)(st:Int)(te:TE)(tl th:TO):TE:=λσ H Q=>te σ H λx H1=>tl σ H1 λl H2=>th σ H2 λu H3=>∃a xs,x=.ref a/\bT K H3 a xs/\∀p,H3 p=none->Q (.ref p) (bA H3 p (.lst (iA xs l u st)))
theorem Ps{lo hi:Option ag}{es:ag}{te:TE}{tl th:TO}{st:Int}(h0:st≠0)(he:PE X e te)(hl:PO X lo tl)(hu:PO X hi th)(hst:PO X (some es) λ_ H Q=>Q (some st) H):PE X (.Subscript e (.Slice lo hi (some es) p2) pos) (aaJ X.K st te tl th):=by
 intro AM s σ H Q I h;refine vj (bG (he AM s σ H _ I h) λv s1 hq=>?_);rcases hq with⟨x,H1,I1,r1,q1⟩;refine wpAny_Slice (bG (hl AM s1 σ H1 _ I1 q1) λvl s2 ⟨l,H2,I2,pl,q2⟩=>bG (hu AM s2 σ H2 _ I2 q2) λvu s3 hq=>?_);rcases hq with⟨u,H3,I3,pu,q3⟩;refine bG (hst AM s3 σ H3 (λo H'=>o=some st/\H'=H3) I3 ⟨rfl,rfl⟩) ?_
 rintro vs s4 ⟨o,H4,I4,ps,eo,eH⟩
 subst eo eH;obtain⟨a,xs,rfl,hx,q⟩:=q3;cases r1;have I5:aH X AM σ H4 {s4 with heap:=s4.heap.push {cls:=.type "slice",data:=.fields #[vl,vu,vs]}}:=I4.kept (t':=s4.toks) λb ob q=>aw _ q;obtain⟨its,r,ht,hz⟩:=I5.list hx;have hlen:=r.length;have hg:wpAny (model X.prog X.w) X.A (getItem (.ref a) (.ref s4.heap.objs.size)) (EP X AM σ Q) X.xe {s4 with heap:=s4.heap.push {cls:=.type "slice",data:=.fields #[vl,vu,vs]}}:=by
  refine yx ht.isList (yq ..) pl pu ps (by simpa using h0) ?_ (by rw[au]<;>omega);rw[Rc];refine⟨.ref _,_,I5.laid (t':=s4.toks) (o:=.lst (iA xs l u st)) (λb ob q=>aw _ q) (ar _) ?_,rfl,q _ (I5.hok.fresh (ar _))⟩;refine⟨dw (Dg xs l u st) hz,_,0,?_,dh _ rfl⟩;unfold iA;rw[hlen];exact bC.pick r _
 show wpAny (model X.prog X.w) X.A (subscriptTail e (.Slice lo hi (some es) p2) (.ref a) (.ref s4.heap.objs.size)) (EP X AM σ Q) X.xe {s4 with heap:=s4.heap.push {cls:=.type "slice",data:=.fields #[vl,vu,vs]}};exact tail_any (ops:=[.ref a,.ref s4.heap.objs.size]) (T:="list") ht.isList.typeIs vn.lookup hg (by with_unfolding_all rfl)
theorem Ik{lo hi:Option ag}{es:ag}{ml mh:MO}{st:Int}(he:aY K cl E X e m)(hl:mO K cl E X lo ml)(hu:mO K cl E X hi mh)(hst:PO X (some es) λ_ H Q=>Q (some st) H)(h0:st≠0):aY K cl E X (.Subscript e (.Slice lo hi (some es) p2) pos) (sA m ml mh st):=by
 intro hK;subst hK;refine(Ps h0 (he rfl) (hl rfl) (hu rfl) hst).imp ?_
 rintro σ H Q ⟨p,S,ρ,s,e,h⟩
 refine cG s e h λq H1 a x S1 st s1 e1 r1 h1=>cG s1 e1 h1 λq2 H2 lo lo' S2 st2 s2 e2 r2 h2=>cG s2 e2 h2 λq3 H3 hi hi' S3 dX s3 e3 r3 h3=>?_;cases r2;cases r3;have ra:=dX.repA (st2.repA r1);obtain⟨c,ec,k⟩:=pJ s3 h3;cases z:rd S3 a with
 |none=>rw[z]at ec;cases ec
 |some v=>
  rw[z]at ec;have rv:=pO s3 ra z;cases v with
  |lst xs=>
   have ec:some (PV.lst (iA xs lo hi _))=some c:=ec;cases ec;obtain⟨a1,vs,rfl,l1,z1,r1⟩:=rv.lst;refine⟨a1,vs,rfl,l1,λt ht=>k _ _ (gM ht) (nG s3 ?_ (dw (Dg vs lo hi _) z1) ht)⟩;unfold iA;rw[r1.length];exact aQ.pick r1 _
  |_=>cases ec
theorem D6{j:Nat}{p1 p2:ai}:PO X (some (.UnaryOp .USub (.Constant (.int 1) j p1) p2)) λ_ H Q=>Q (some (-1)) H:=by
 intro AM s σ H Q I h;exact(zE (Cn Jk uK)) AM s σ H Q I ⟨1,rfl,-1,rfl,h⟩
theorem J4{i:Int}{j:Nat}{p1:ai}:PO X (some (.Constant (.int i) j p1)) λ_ H Q=>Q (some i) H:=by
 intro AM s σ H Q I h;exact(zE uK) AM s σ H Q I ⟨i,rfl,h⟩
end
section
variable{K:ae}{cl:Str->Addr}{E:XK}{X:Cx}
end
end L2.Pp
namespace L2
open PySem PySem.Spec PyProof.Rows Bn
open PySem.W (KasT kas_sort kas_ask KatLex KatGo KatTups kat_run kat_kind kat_lt kat_one kas_item kat_snds)
def lF{α:Type}(lt:Nat->Nat->Bool):KasT α->α
 |.ret a=>a
 |.ask i j k=>lF lt (k (lt i j))
def hU{α:Type}(n:Nat):KasT α->Bool
 |.ret _=>true
 |.ask i j k=>decide (i<n)&&decide (j<n)&&hU n (k true)&&hU n (k false)
theorem Wg{α:Type}{cmp:Nat->Nat->(Bool->aa->Prop)->aa->Prop}{lt:Nat->Nat->Bool}{n:Nat}{s:aa}(hc:∀i j(C:Bool->aa->Prop),i<n->j<n->C (lt i j) s->cmp i j C s):∀(t:KasT α)(Q:α->aa->Prop),hU n t=true->Q (lF lt t) s->t.kasWp cmp Q s
 |.ret a,Q,_,h=>h
 |.ask i j k,Q,ok,h=>by
  unfold hU at ok;simp only[iu,decide_eq_true_eq]at ok;obtain⟨⟨⟨hi,hj⟩,h1⟩,h2⟩:=ok;refine hc i j _ hi hj (Wg hc (k (lt i j)) Q ?_ h);cases lt i j
  .exact h2
  .exact h1
def pW(h:Heap)(v:Value)(us:AA):Prop:=∃a o its n,v=.ref a/\h.get? a=some o/\o.cls=.type "tuple"/\o.data=.seq (mj its) n/\bC (us.map V.int) its
section
variable{prog:Program}{w:aj}{A:al}{E:Value->aa->Prop}{s:aa}
theorem Ki{Q:Bool->aa->Prop}:∀(us vs:AA)(its jts:AD)(i:Nat)(fin:Bool),bC (us.map V.int) its->bC (vs.map V.int) jts->fin=decide (us.length<vs.length)->Q (HT.lexLt us vs) s->KatLex prog w A true fin Q (its.zip jts) i s
 |[],vs,its,jts,i,fin,h1,h2,hf,hQ=>by
  cases h1;cases vs with
  |nil=>
   subst hf;exact xa hQ
  |cons v vs=>
   have e:fin=true:=by rw[hf];simp
   subst e;exact xa hQ
 |u::us,[],its,jts,i,fin,h1,h2,hf,hQ=>by
  cases h2;have e:fin=false:=by rw[hf];simp
  subst e;rw[List.zip_nil_right];exact xa hQ
 |u::us,v::vs,its,jts,i,fin,h1,h2,hf,hQ=>by
  cases h1 with
  |cons r1 t1=>
   cases h2 with
   |cons r2 t2=>
    obtain⟨k1,rfl⟩:=r1;obtain⟨k2,rfl⟩:=r2;rw[List.zip_cons_cons];refine PySem.W.kat_cons (wpAny_eqBool_int ?_);rw[HT.lexLt_cons]at hQ
    by_cases e:u=v
    .rw[if_pos e]at hQ
     have b:(u==v)=true:=by simpa using e
     rw[b];exact PySem.W.kat_yes (Ki us vs _ _ (i+1) fin t1 t2 (by rw[hf];simp) hQ)
    .rw[if_neg e]at hQ
     have b:(u==v)=false:=by simpa using e
     rw[b];refine PySem.W.kat_no ?_
     by_cases hi:i=0
     .subst hi
      exact oneLt_int hQ
     .have b2:(true&&i==0)=false:=by simpa using hi
      rw[b2];exact kat_one _ _ (PySem.P.lt_int hQ)
theorem Q1{x y:Value}{us vs:AA}{Q:Bool->aa->Prop}(hx:pW s.heap x us)(hy:pW s.heap y vs)(h:Q (HT.lexLt us vs) s):wpAny (model prog w) A (keyLt' (tuples' true) x y) Q E s:=by
 obtain⟨a,o,its,n,rfl,ho,hc,hd,r⟩:=hx;obtain⟨b,o2,jts,k,rfl,ho2,hc2,hd2,r2⟩:=hy;refine kat_lt ho hd ho2 hd2 ?_;have l1:=r.length;have l2:=r2.length;rw[ak]at l1 l2;refine Ki us vs its jts 0 _ r r2 ?_ h;rw[au,au,l1,l2]
theorem Kd:∀(vs:AD)(uss:AB),vs.length=uss.length->(∀i,i<vs.length->pW s.heap (vs.getD i cx) (uss.getD i [])/\uss.getD i []≠[])->∃fs,KatTups s.heap vs fs/\fs.length=vs.length/\∀v∈fs,∃i t,v=.int i t
 |[],uss,_,_=>⟨[],trivial,rfl,λ_ h=>absurd h ee⟩
 |v::vs,[],hl,_=>by cases hl
 |v::vs,us::uss,hl,h=>by
  obtain⟨fs,k,l,q⟩:=Kd vs uss (by simpa using hl) λi hi=>by
   have:=h (i+1) (by simp;omega);simpa using this
  obtain⟨⟨a,o,its,n,e,ho,hc,hd,r⟩,ne⟩:=h 0 (by simp);have e:v=.ref a:=e;subst e;cases us with
  |nil=>exact absurd rfl ne
  |cons u us=>
   have r:bC (V.int u::us.map V.int) its:=r;cases r with
   |cons r1 t1=>
    obtain⟨t,rfl⟩:=r1;refine⟨.int u t::fs,KatTups.cons ho hc hd (by simp) k,by simp[l],λx hx=>?_⟩;rcases ci.mp hx with rfl |hx
    .exact⟨u,t,rfl⟩
    .exact q x hx
def dJ(uss:AB):List Nat:=(lF (λi j=>HT.lexLt (uss.getD i []) (uss.getD j [])) (jg uss.length)).toList
theorem Ip{a:Addr}{vs:AD}{uss:AB}{n:Nat}{P:PySem.Fin->aa->Prop}(ho:s.heap.get? a=some (seqObj "list" vs.toArray n))(hl:vs.length=uss.length)(h2:2<=vs.length)(h64:vs.length<64)(ok:hU uss.length (jg uss.length)=true)
  (tu:∀i,i<vs.length->pW s.heap (vs.getD i cx) (uss.getD i [])/\uss.getD i []≠[])
  (h:P (.done (.ret .none)) {s with heap:=sortedHeap s.heap a vs (mj ((dJ uss).map λi=>vs.getD i cx))}):
  wpAny (model prog w) A (Builtin.«list.sort» ⟨[.ref a],[]⟩) P E s:=by
 have ha:a<s.heap.objs.size:=bi ho;obtain⟨e1,ho1⟩:∃e1,(s.heap.update a (ie λ_=>(#[]:Array Value))).get? a=some (seqObj "list" #[] e1):=⟨_,xb ho λ_=>#[]⟩;have kp:∀b o,b≠a->s.heap.get? b=some o->(((s.heap.update a (ie λ_=>(#[]:Array Value))).push (seqObj "tuple" vs.toArray 0)).push (seqObj "list" #[] 0)).get? b=some o:=λb o hb e=>
  aw _ (aw _ ((xc _ _ _ _ hb).trans e))
 have tu2:∀i,i<vs.length->pW (((s.heap.update a (ie λ_=>(#[]:Array Value))).push (seqObj "tuple" vs.toArray 0)).push (seqObj "list" #[] 0)) (vs.getD i cx) (uss.getD i [])/\uss.getD i []≠[]:=λi hi=>by
  obtain⟨⟨b,o,its,m,e,hb,hc,hd,r⟩,ne⟩:=tu i hi;refine⟨⟨b,o,its,m,e,kp b o (λz=>?_) hb,hc,hd,r⟩,ne⟩;subst z;rw[ho]at hb;cases hb;have hc:nj "list"=nj "tuple":=hc;injection hc with hc;exact absurd hc (by decide)
 have na:(((s.heap.update a (ie λ_=>(#[]:Array Value))).push (seqObj "tuple" vs.toArray 0)).push (seqObj "list" #[] 0)).get? a=some (seqObj "list" #[] e1):=aw _ (aw _ ho1);rw[list_sort_plain];refine ah (listItems_at ho rfl ?_);refine ah (listUpdate_at ho rfl ?_ (by rw[au,kg];omega) (iz _));refine ah (seqEpoch_at ho1 rfl ?_);refine ah (wpAny_newTuple ?_ (by show vs.length<=_;rw[kg];omega));refine ah (wpAny_newList ?_ (iz _));refine lc ?_;show wpAny (model prog w) A _ P E {s with heap:=((s.heap.update a (ie λ_=>(#[]:Array Value))).push (seqObj "tuple" vs.toArray 0)).push (seqObj "list" #[] 0)};dsimp only;have hn2:¬vs.toArray.size<2:=by rw[au];omega
 rw[if_neg hn2,if_neg hn2];obtain⟨fs,kt,lf,qf⟩:=Kd (s:={s with heap:=((s.heap.update a (ie λ_=>(#[]:Array Value))).push (seqObj "tuple" vs.toArray 0)).push (seqObj "list" #[] 0)}) vs uss hl tu2;refine ah (kat_kind (T:=.type "int") kt (by omega) (λv hv=>?_) rfl ?_)
 .obtain⟨i,t,rfl⟩:=qf v hv
  exact .now
 have bt:(nj "int" !=nj "tuple")=true:=by decide
 rw[bt];refine ah (jw (kat_run (Q:=λst' s'=>∃p:Array Nat,p.size=vs.length/\arrOf st'=p.map (kas_item (vs.toArray.zip vs.toArray))/\failedOf st'=none/\p.toList=dJ uss/\s'={s with heap:=((s.heap.update a (ie λ_=>(#[]:Array Value))).push (seqObj "tuple" vs.toArray 0)).push (seqObj "list" #[] 0)})
  (G:=λp s'=>p.toList=dJ uss/\s'={s with heap:=((s.heap.update a (ie λ_=>(#[]:Array Value))).push (seqObj "tuple" vs.toArray 0)).push (seqObj "list" #[] 0)})
  rfl h2 h64 (λp' st' s' a1 a2 a3 a4=>⟨p',a1,a2,a3,a4⟩) ?_) ?_ λ_ _ e=>e)
 .rw[hl]
  refine Wg (lt:=λi j=>HT.lexLt (uss.getD i []) (uss.getD j [])) (n:=uss.length) (λi j C hi hj hC=>?_) _ _ ok ⟨rfl,rfl⟩;exact Q1 (tu2 i (by omega)).1 (tu2 j (by omega)).1 hC
 rintro⟨⟨⟩,st'⟩ s' ⟨p,hp,har,hf,hpl,rfl⟩
 dsimp only;have hout:=kat_snds rfl har;have hsz:(mj (p.toList.map λi=>vs.getD i cx)).size=vs.length:=by rw[au,ak,jp,hp]
 rw[hout];refine ah (seqEpoch_at na rfl ?_);refine ah (listUpdate_at na rfl ?_ (iz _) (dw (vt hsz) (by rw[kg];omega)));rw[hf];simp only[bne_self_eq_false,Bool.false_eq_true,if_false];refine bf ?_;rw[hpl];exact h
theorem Xq{l:Addr}{o:Obj}{T:String}{vs:AD}{uss:AB}{n:Nat}{Q:Value->aa->Prop}(hT:T="list"\/T="tuple")(ho:s.heap.get? l=some o)(hc:o.cls=.type T)(hd:o.data=.seq vs.toArray n)(hl:vs.length=uss.length)(h2:2<=vs.length)(h64:vs.length<64)(ok:hU uss.length (jg uss.length)=true)
  (tu:∀i,i<vs.length->pW s.heap (vs.getD i cx) (uss.getD i [])/\uss.getD i []≠[])
  (h:∀(h1 h':Heap)(c:Nat),(∀b o',s.heap.get? b=some o'->h1.get? b=some o')->(∀b o',h1.get? b=some o'->h'.get? b=some o')->h'.get? h1.objs.size=some (seqObj "list" (mj ((dJ uss).map λi=>vs.getD i cx)) c)->Q (.ref h1.objs.size) {s with heap:=h'}):
  wpAny (model prog w) A (call (.builtin "sorted") [.ref l]) Q E s:=by
 refine PySem.Calls.call_function_entry kind_sorted plain_sorted entry_sorted (args_sorted1 _) ?_;unfold Builtin.«sorted»;refine ah (m:=checkCount "sorted" 1 1 _) (bf ?_);refine ah (wpAny_collect_seq l hT ho hc hd (λh1 k1=>?_) (by rw[au,kg];omega));refine ah (wpAny_newList ?_ (by rw[kg];simp;omega));have hoL:(h1.push (seqObj "list" vs.toArray 0)).get? h1.objs.size=some (seqObj "list" vs.toArray 0):=dh _ rfl;show wpAny _ _ _ _ _ {s with heap:=h1.push (seqObj "list" vs.toArray 0)};refine ah (lc (oi slot_list_sort ⟨_,hoL,rfl⟩ entry_list_sort ?body (args_list_sort _)))
 case body=>
  refine Ip (s:={s with heap:=h1.push (seqObj "list" vs.toArray 0)}) hoL hl h2 h64 ok (λi hi=>?_) ⟨_,rfl,bf ⟨_,rfl,?_⟩⟩
  .obtain⟨⟨b,o,its,m,e,hb,hc,hd,r⟩,ne⟩:=tu i hi
   exact⟨⟨b,o,its,m,e,aw _ (k1 b o hb),hc,hd,r⟩,ne⟩
  .obtain⟨e1,ho1⟩:∃e1,((h1.push (seqObj "list" vs.toArray 0)).update h1.objs.size (ie λ_=>(#[]:Array Value))).get? h1.objs.size=some (seqObj "list" #[] e1):=⟨_,xb hoL λ_=>#[]⟩
   have ho2:=aw (seqObj "list" #[] 0) (aw (seqObj "tuple" vs.toArray 0) ho1);obtain⟨e2,ho3⟩:∃e2,(sortedHeap (h1.push (seqObj "list" vs.toArray 0)) h1.objs.size vs (mj ((dJ uss).map λi=>vs.getD i cx))).get? h1.objs.size=some (seqObj "list" (mj ((dJ uss).map λi=>vs.getD i cx)) e2):=⟨_,xb ho2 λ_=>mj ((dJ uss).map λi=>vs.getD i cx)⟩;refine h h1 _ e2 k1 (λb o' hb1=>?_) ho3;have hne:b≠h1.objs.size:=dq (bi hb1);exact(xc _ _ _ _ hne).trans (aw _ (aw _ ((xc _ _ _ _ hne).trans (aw _ hb1))))
end
def Ia(K:ae)(H:Hp)(ts:List V)(uss:AB):Prop:=ts.length=uss.length/\∀i t,ts[i]?=some t->∃a,t=.ref a/\dA K H a ((uss.getD i []).map V.int)/\uss.getD i []≠[]
theorem Vr{X:Cx}:iK X (.builtin "sorted") (λxs H Q=>∃(a:Addr)(ts:List V)(uss:AB),xs=[.ref a]/\(bT X.K H a ts\/dA X.K H a ts)/\Ia X.K H ts uss/\2<=ts.length/\ts.length<64/\hU uss.length (jg uss.length)=true/\(dJ uss).length<=64/\
  ∀l,H l=none->Q (.ref l) (bA H l (.lst ((dJ uss).map λi=>ts.getD i .non)))):=by
 intro AM s σ H xs us Q I r h;obtain⟨a,ts,uss,rfl,hq,⟨hl,ht⟩,h2,h64,ok,hpl,q⟩:=h;obtain⟨u,rfl,ru⟩:=kD r;cases ru;have go:∀(its:AD)(T:String)(o:Obj)(n:Nat),bC ts its->(T="list"\/T="tuple")->s.heap.get? a=some o->o.cls=.type T->o.data=.seq its.toArray n->ts.length<=sizeLine->
   wpAny (model X.prog X.w) X.A (call (.builtin "sorted") [.ref a]) (EP X AM σ Q) X.xe s:=λits T o n rv hT ho hc hd hz=>by
  have hlen:=rv.length;refine Xq (uss:=uss) hT ho hc hd (by omega) (by omega) (by omega) ok (λi hi=>?_) λh1 h' c k1 k2 e=>?_
  .have hi':i<ts.length:=by omega
   obtain⟨b,e1,sq,ne⟩:=ht i ts[i] (av hi');obtain⟨v,e2,rel⟩:=rv.get (av hi');rw[e1]at rel;cases rel;obtain⟨jts,rj,⟨o2,ho2,hc2,m,hd2⟩,_⟩:=I.tuple sq;refine⟨⟨b,o2,jts,m,?_,ho2,hc2,hd2,rj⟩,ne⟩;rw[cy,e2];rfl
  .have I1:aH X AM σ H {s with heap:=h1,toks:=s.toks}:=I.kept k1
   have hz2:((dJ uss).map λi=>ts.getD i .non).length<=sizeLine:=by
    rw[ak,kg];omega
   have rel:∀ps:List Nat,bC (ps.map λi=>ts.getD i .non) (ps.map λi=>its.getD i cx):=λps=>by
    induction ps with
    |nil=>exact .nil
    |cons i ps ih=>
     refine .cons ?_ ih
     by_cases hi:i<ts.length
     .obtain⟨v,e2,rr⟩:=rv.get (av hi)
      have q1:ts.getD i .non=ts[i]:=by simp[cy,hi]
      have q2:its.getD i cx=v:=by simp[cy,e2]
      show bW (ts.getD i .non) (its.getD i cx);rw[q1,q2];exact rr
     .have q1:ts.getD i .non=.non:=by simp[cy,hi]
      have q2:its.getD i cx=cx:=by simp[cy,show its.length<=i by omega]
      show bW (ts.getD i .non) (its.getD i cx);rw[q1,q2];rfl
   refine⟨.ref h1.objs.size,_,I1.laid (t':=s.toks) (o:=.lst ((dJ uss).map λi=>ts.getD i .non)) k2 (ar _) ?_,rfl,q _ (I1.hok.fresh (ar _))⟩;exact⟨hz2,_,c,rel _,e⟩
 rcases hq with hq |hq
 .obtain⟨its,rv,pl,hz⟩:=I.list hq
  obtain⟨o,ho,hc,n,hd⟩:=pl.isList;exact go its "list" o n rv (.inl rfl) ho hc hd hz
 .obtain⟨its,rv,⟨o,ho,hc,n,hd⟩,hz⟩:=I.tuple hq
  exact go its "tuple" o n rv (.inr rfl) ho hc hd hz
end L2
namespace L2.Pp
open PySem PySem.Spec PyProof.Rows Bn
open PySem.W (kas_sort)
section
variable{K:ae}
def mE:AH->Option AB
 |[]=>some []
 |.tup us::r=>match gR us,mE r with
  |some is,some uss=>some (is::uss)
  |_,_=>none
 |_::_=>none
theorem Yg:∀{xs:AH}{uss:AB},mE xs=some uss->xs.length=uss.length
 |[],uss,e=>by cases e;rfl
 |.tup us::r,uss,e=>by
  unfold mE at e;split at e
  .rename_i is uss' h1 h2
   cases e;rw[db,db,Yg h2]
  .cases e
 |.non::_,_,e=>by cases e
 |.bl _::_,_,e=>by cases e
 |.int _::_,_,e=>by cases e
 |.str _::_,_,e=>by cases e
 |.lst _::_,_,e=>by cases e
theorem Ei{c:Addr->Prop}{H:Hp}:∀{xs:AH}{uss:AB}{vs:List V},mE xs=some uss->aQ K c H xs vs->∀i t,vs[i]?=some t->∃a,t=.ref a/\dA K H a ((uss.getD i []).map V.int)
 |[],uss,vs,e,r,i,t,h=>by
  unfold aQ at r;subst r;simp at h
 |.tup us::r,uss,vs,e,rr,i,t,h=>by
  unfold mE at e;split at e
  .rename_i is uss' h1 h2
   cases e;unfold aQ at rr;obtain⟨v,w,rfl,r1,r2⟩:=rr;cases i with
   |zero=>
    cases h;unfold aU at r1;obtain⟨a,ws,rfl,sq,_,r3⟩:=r1;rw[qR h1 r3]at sq;exact⟨a,rfl,sq⟩
   |succ i=>
    have:=Ei h2 r2 i t (by simpa using h);simpa using this
  .cases e
 |.non::_,_,_,e,_,_,_,_=>by cases e
 |.bl _::_,_,_,e,_,_,_,_=>by cases e
 |.int _::_,_,_,e,_,_,_,_=>by cases e
 |.str _::_,_,_,e,_,_,_,_=>by cases e
 |.lst _::_,_,_,e,_,_,_,_=>by cases e
def Ja(uss:AB):Prop:=2<=uss.length/\uss.length<64/\hU uss.length (jg uss.length)=true/\(dJ uss).length<=64/\∀us∈uss,us≠[]
def Da(xs:AH)(uss:AB):AH:=(dJ uss).map λi=>xs.getD i .non
open Classical in
noncomputable def pS(xs:AH):AI:=match mE xs with
 |some uss=>if Ja uss then some (.lst (Da xs uss))else none
 |none=>none
noncomputable def qU:AH->AI
 |[.lst xs]=>pS xs
 |[.tup xs]=>pS xs
 |_=>none
theorem Tf{c:Addr->Prop}{H:Hp}{xs:AH}{vs:List V}(r:aQ K c H xs vs):∀ps:List Nat,aQ K c H (ps.map λi=>xs.getD i .non) (ps.map λi=>vs.getD i .non)
 |[]=>.nil
 |i::ps=>by
  refine .cons ?_ (Tf r ps)
  by_cases hi:i<xs.length
  .obtain⟨v,e1,e2⟩:=r.get (av hi)
   have q1:xs.getD i .non=xs[i]:=by simp[cy,hi]
   have q2:vs.getD i .non=v:=by simp[cy,e1]
   show aU K c H (xs.getD i .non) (vs.getD i .non);rw[q1,q2];exact e2
  .have hl:=r.length
   have q1:xs.getD i .non=.non:=by simp[cy,hi]
   have q2:vs.getD i .non=.non:=by simp[cy,show vs.length<=i by omega]
   show aU K c H (xs.getD i .non) (vs.getD i .non);rw[q1,q2];unfold aU;rfl
theorem P8:jR K (λxs H Q=>∃(a:Addr)(ts:List V)(uss:AB),xs=[.ref a]/\(bT K H a ts\/dA K H a ts)/\Ia K H ts uss/\2<=ts.length/\ts.length<64/\hU uss.length (jg uss.length)=true/\(dJ uss).length<=64/\
  ∀l,H l=none->Q (.ref l) (bA H l (.lst ((dJ uss).map λi=>ts.getD i .non)))) qU:=λ{p S H as c xs Q} s ra e k=>by
 have key:∀(zs:AH)(a:Addr)(vs:List V),pS zs=some c->(bT K H a vs\/dA K H a vs)->aQ K p.c H zs vs->∃(a':Addr)(ts:List V)(uss:AB),[V.ref a]=[.ref a']/\(bT K H a' ts\/dA K H a' ts)/\Ia K H ts uss/\2<=ts.length/\ts.length<64/\hU uss.length (jg uss.length)=true/\(dJ uss).length<=64/\
   ∀l,H l=none->Q (.ref l) (bA H l (.lst ((dJ uss).map λi=>ts.getD i .non))):=λzs a vs e sq r=>by
  unfold pS at e;split at e
  .rename_i uss hu
   split at e
   .rename_i hc
    cases e;obtain⟨c1,c2,c3,c4,c5⟩:=hc;have l1:=Yg hu;have l2:=r.length;refine⟨a,vs,uss,rfl,sq,⟨by omega,λi t h=>?_⟩,by omega,by omega,c3,c4,λl hl=>?_⟩
    .obtain⟨b,e1,e2⟩:=Ei hu r i t h
     have hi:i<uss.length:=by
      have:=(ck.mp h).1;omega
     refine⟨b,e1,e2,?_⟩;rw[cy,av hi];exact c5 _ (eh hi)
    .refine k _ _ (gM hl) (nG s (Tf r _) ?_ hl)
     rw[ak,iS];omega
   .cases e
  .cases e
 unfold qU at e;split at e
 .rename_i zs
  cases ra with
  |cons h t=>
   cases t;obtain⟨a,vs,rfl,l,z,r⟩:=h.lst;exact key zs a vs e (.inl l) r
 .rename_i zs
  cases ra with
  |cons h t=>
   cases t;obtain⟨a,vs,rfl,l,z,r⟩:=h.tup;exact key zs a vs e (.inr l) r
 .cases e
end
end L2.Pp
namespace L2
section
open PySem.W (KasT kas_sort)
theorem Be{α:Type}{lt lt':Nat->Nat->Bool}{n:Nat}(h:∀i j,i<n->j<n->lt i j=lt' i j):∀t:KasT α,hU n t=true->lF lt t=lF lt' t
 |.ret a,_=>rfl
 |.ask i j k,ok=>by
  unfold hU at ok;simp only[iu,decide_eq_true_eq]at ok;obtain⟨⟨⟨hi,hj⟩,h1⟩,h2⟩:=ok;show lF lt (k (lt i j))=lF lt' (k (lt' i j));rw[<-h i j hi hj];refine Be h (k (lt i j)) ?_;cases lt i j
  .exact h2
  .exact h1
theorem kK:∀u:AA,HT.lexLt u u=false
 |[]=>rfl
 |x::u=>by rw[HT.lexLt_cons,if_pos rfl,kK u]
theorem yM:∀u v:AA,u=v\/HT.lexLt u v=true\/HT.lexLt v u=true
 |[],[]=>.inl rfl
 |[],_::_=>.inr (.inl rfl)
 |_::_,[]=>.inr (.inr rfl)
 |x::u,y::v=>by
  rw[HT.lexLt_cons,HT.lexLt_cons]
  by_cases h:x=y
  .subst h
   rw[if_pos rfl,if_pos rfl];rcases yM u v with h |h |h
   .exact .inl (by rw[h])
   .exact .inr (.inl h)
   .exact .inr (.inr h)
  .rw[if_neg h,if_neg (λz=>h z.symm)]
   by_cases q:x<y
   .exact .inr (.inl (by simpa using q))
   .exact .inr (.inr (by simp;omega))
theorem sY:∀u v w:AA,HT.lexLt u v=true->HT.lexLt v w=true->HT.lexLt u w=true
 |[],[],_,h,_=>by cases h
 |[],_::_,[],_,h=>by cases h
 |[],_::_,_::_,_,_=>rfl
 |_::_,[],_,h,_=>by cases h
 |_::_,_::_,[],_,h=>by cases h
 |x::u,y::v,z::w,h1,h2=>by
  rw[HT.lexLt_cons]at h1 h2⊢
  by_cases e1:x=y
  .subst e1
   rw[if_pos rfl]at h1
   by_cases e2:x=z
   .rw[if_pos e2]at h2⊢
    exact sY u v w h1 h2
   .rw[if_neg e2]at h2⊢
    exact h2
  .rw[if_neg e1]at h1
   have h1:x<y:=by simpa using h1
   by_cases e2:y=z
   .subst e2
    rw[if_neg e1];simpa using h1
   .rw[if_neg e2]at h2
    have h2:y<z:=by simpa using h2
    rw[if_neg (by omega)];simp;omega
theorem Hw{u v:AA}(h:HT.lexLt u v=true):HT.lexLt v u=false:=by
 cases q:HT.lexLt v u with
 |false=>rfl
 |true=>
  have:=sY u v u h q;rw[kK]at this;cases this
theorem Pu{u v:AA}(h:HT.lexLt u v=false)(g:HT.lexLt v u=false):u=v:=by
 rcases yM u v with e |e |e
 .exact e
 .rw[h]at e;cases e
 .rw[g]at e;cases e
def r3(a b c d e f:Bool):Bool:=(!(a&&b)||c)&&(!(d&&e)||f)
def vX(b:Nat->Nat->Bool)(n:Nat):Bool:=(ax n).all λi=>!(b i i)&&(ax n).all λj=>!(b i j&&b j i)&&(ax n).all λk=>(!(b i j&&b j k)||b i k)&&(b i j||b j k|| !(b i k))
def uY(b:Nat->Nat->Bool)(n:Nat)(ps:List (List Nat)):Bool:=let p:=(lF b (jg n)).toList
 ps.contains p&&(ax n).all λi=>(ax n).all λj=>!(decide (i<j))|| !(b (p.getD j 0) (p.getD i 0))
def zG:List (List Nat):=[[0,1,2],[0,2,1],[1,0,2],[1,2,0],[2,0,1],[2,1,0]]
def zS:List (List Nat):=[[0,1,2,3],[0,1,3,2],[0,2,1,3],[0,2,3,1],[0,3,1,2],[0,3,2,1],[1,0,2,3],[1,0,3,2],[1,2,0,3],[1,2,3,0],[1,3,0,2],[1,3,2,0],
 [2,0,1,3],[2,0,3,1],[2,1,0,3],[2,1,3,0],[2,3,0,1],[2,3,1,0],[3,0,1,2],[3,0,2,1],[3,1,0,2],[3,1,2,0],[3,2,0,1],[3,2,1,0]]
def Pb(b01 b02 b10 b12 b20 b21:Bool)(i j:Nat):Bool:=match i,j with
 |0,1=>b01 |0,2=>b02 |1,0=>b10 |1,2=>b12 |2,0=>b20 |2,1=>b21 |_,_=>false
def Qb(b01 b02 b03 b10 b12 b13 b20 b21 b23 b30 b31 b32:Bool)(i j:Nat):Bool:=match i,j with
 |0,1=>b01 |0,2=>b02 |0,3=>b03 |1,0=>b10 |1,2=>b12 |1,3=>b13 |2,0=>b20 |2,1=>b21 |2,3=>b23 |3,0=>b30 |3,1=>b31 |3,2=>b32 |_,_=>false
theorem Vm:hU 3 (jg 3)=true:=by decide+kernel
theorem Dm:hU 4 (jg 4)=true:=by decide+kernel
theorem aaI:∀b01 b02 b10 b12 b20 b21:Bool,vX (Pb b01 b02 b10 b12 b20 b21) 3=true->uY (Pb b01 b02 b10 b12 b20 b21) 3 zG=true:=by decide+kernel
theorem aaX:∀b01 b02 b03 b10 b12 b13 b20 b21 b23 b30 b31 b32:Bool,vX (Qb b01 b02 b03 b10 b12 b13 b20 b21 b23 b30 b31 b32) 4=true->uY (Qb b01 b02 b03 b10 b12 b13 b20 b21 b23 b30 b31 b32) 4 zS=true:=by decide+kernel
theorem Yk{b:Nat->Nat->Bool}{n:Nat}{uss:AB}(h:∀i j,i<n->j<n->b i j=HT.lexLt (uss.getD i []) (uss.getD j [])):vX b n=true:=by
 unfold vX;simp only[jc,nr,iu,a7,Bool.or_eq_true,Bool.and_eq_false_imp];intro i hi;refine⟨by rw[h i i hi hi,kK],λj hj=>⟨λq=>?_,λk hk=>⟨?_,?_⟩⟩⟩
 .rw[h i j hi hj]at q
  rw[h j i hj hi,Hw q]
 .rw[h i j hi hj,h j k hj hk,h i k hi hk]
  cases q1:HT.lexLt (uss.getD i []) (uss.getD j [])with
  |false=>exact .inl λz=>by cases z
  |true=>
   cases q2:HT.lexLt (uss.getD j []) (uss.getD k [])with
   |false=>exact .inl λ_=>rfl
   |true=>exact .inr (sY _ _ _ q1 q2)
 .rw[h i j hi hj,h j k hj hk,h i k hi hk]
  cases q1:HT.lexLt (uss.getD i []) (uss.getD j [])with
  |true=>exact .inl (.inl rfl)
  |false=>
   cases q2:HT.lexLt (uss.getD j []) (uss.getD k [])with
   |true=>exact .inl (.inr rfl)
   |false=>
    refine .inr ?_;cases q3:HT.lexLt (uss.getD i []) (uss.getD k [])with
    |false=>rfl
    |true=>
     rcases yM (uss.getD i []) (uss.getD j [])with e |e |e
     .rw[e]at q3;rw[q2]at q3;cases q3
     .rw[q1]at e;cases e
     .have:=sY _ _ _ e q3
      rw[q2]at this;cases this
end
section
open PySem.W (KasT kas_sort)
def eV(uss:AB):AB:=(dJ uss).map λi=>uss.getD i []
def oC(u v:AA):Prop:=HT.lexLt v u=false
theorem Jf{uss:AB}{n:Nat}{ps:List (List Nat)}(hl:uss.length=n)(ok:hU n (jg n)=true){b:Nat->Nat->Bool}(hb:∀i j,i<n->j<n->b i j=HT.lexLt (uss.getD i []) (uss.getD j []))(good:uY b n ps=true)(hp:∀p∈ps,p.Perm (ax n)):
  dJ uss∈ps/\(dJ uss).Perm (ax n)/\(eV uss).Pairwise oC:=by
 have e:dJ uss=(lF b (jg n)).toList:=by
  unfold dJ;rw[hl];exact congrArg um (Be (n:=n) (λi j hi hj=>(hb i j hi hj).symm) _ ok)
 unfold uY at good;simp only[iu,jc,nr]at good;rw[<-e]at good;obtain⟨g1,g2⟩:=good;have m:dJ uss∈ps:=by simpa using g1
 have pm:=hp _ m;refine⟨m,pm,?_⟩;have ln:(dJ uss).length=n:=by rw[pm.length_eq,jf]
 unfold eV;rw[List.pairwise_iff_getElem];intro i j hi hj hij;rw[ak]at hi hj;have q:=g2 i (by omega) j (by omega);have pi:(dJ uss).getD i 0=(dJ uss)[i]:=by simp[cy,hi]
 have pj:(dJ uss).getD j 0=(dJ uss)[j]:=by simp[cy,hj]
 rw[pi,pj]at q;have li:(dJ uss)[i]<n:=by
  have:=pm.subset (eh hi);simpa using this
 have lj:(dJ uss)[j]<n:=by
  have:=pm.subset (eh hj);simpa using this
 rw[hb _ _ lj li]at q;simp only[xf];unfold oC;have d:decide (i<j)=true:=by simpa using hij
 rw[d]at q;simpa using q
theorem Nv:∀p∈zG,p.Perm (ax 3):=by decide
theorem Ov:∀p∈zS,p.Perm (ax 4):=by decide
theorem Ti{uss:AB}(h:uss.length=3):dJ uss∈zG/\(dJ uss).Perm (ax 3)/\(eV uss).Pairwise oC:=by
 match uss,h with
 |[u0,u1,u2],_=>
  have hb:∀i j,i<3->j<3->Pb (HT.lexLt u0 u1) (HT.lexLt u0 u2) (HT.lexLt u1 u0) (HT.lexLt u1 u2) (HT.lexLt u2 u0) (HT.lexLt u2 u1) i j=HT.lexLt (([u0,u1,u2]:AB).getD i []) (([u0,u1,u2]:AB).getD j []):=λi j hi hj=>by
   match i,j,hi,hj with
   |0,0,_,_=>exact(kK u0).symm
   |0,1,_,_=>rfl
   |0,2,_,_=>rfl
   |1,0,_,_=>rfl
   |1,1,_,_=>exact(kK u1).symm
   |1,2,_,_=>rfl
   |2,0,_,_=>rfl
   |2,1,_,_=>rfl
   |2,2,_,_=>exact(kK u2).symm
  exact Jf rfl Vm hb (aaI _ _ _ _ _ _ (Yk hb)) Nv
theorem Yj{uss:AB}(h:uss.length=4):dJ uss∈zS/\(dJ uss).Perm (ax 4)/\(eV uss).Pairwise oC:=by
 match uss,h with
 |[u0,u1,u2,u3],_=>
  have hb:∀i j,i<4->j<4->Qb (HT.lexLt u0 u1) (HT.lexLt u0 u2) (HT.lexLt u0 u3) (HT.lexLt u1 u0) (HT.lexLt u1 u2) (HT.lexLt u1 u3) (HT.lexLt u2 u0) (HT.lexLt u2 u1) (HT.lexLt u2 u3) (HT.lexLt u3 u0) (HT.lexLt u3 u1) (HT.lexLt u3 u2) i j=HT.lexLt (([u0,u1,u2,u3]:AB).getD i []) (([u0,u1,u2,u3]:AB).getD j []):=λi j hi hj=>by
   match i,j,hi,hj with
   |0,0,_,_=>exact(kK u0).symm
   |0,1,_,_=>rfl
   |0,2,_,_=>rfl
   |0,3,_,_=>rfl
   |1,0,_,_=>rfl
   |1,1,_,_=>exact(kK u1).symm
   |1,2,_,_=>rfl
   |1,3,_,_=>rfl
   |2,0,_,_=>rfl
   |2,1,_,_=>rfl
   |2,2,_,_=>exact(kK u2).symm
   |2,3,_,_=>rfl
   |3,0,_,_=>rfl
   |3,1,_,_=>rfl
   |3,2,_,_=>rfl
   |3,3,_,_=>exact(kK u3).symm
  exact Jf rfl Dm hb (aaX _ _ _ _ _ _ _ _ _ _ _ _ (Yk hb)) Ov
theorem oO{uss:AB}(h:uss.length=3\/uss.length=4):(eV uss).Perm uss/\(eV uss).Pairwise oC:=by
 have key:∀n,uss.length=n->(dJ uss).Perm (ax n)->(eV uss).Perm uss:=λn hn hp=>by
  have e:(ax n).map (λi=>uss.getD i [])=uss:=by
   refine xh (by simp[hn]) λi h1 h2=>?_;have hi:i<uss.length:=h2;simp[cy,hi]
  have:=hp.map (λi=>uss.getD i []);rw[e]at this;exact this
 rcases h with h |h
 .obtain⟨_,hp,hs⟩:=Ti h
  exact⟨key 3 h hp,hs⟩
 .obtain⟨_,hp,hs⟩:=Yj h
  exact⟨key 4 h hp,hs⟩
theorem Kp{A B:AB}(hp:A.Perm B)(ha:A.Pairwise oC)(hb:B.Pairwise oC):A=B:=
 hp.eq_of_pairwise (λu v _ _ h g=>Pu g h) ha hb
theorem Mp{A B:AB}(hp:A.Perm B)(h:B.length=3\/B.length=4):eV A=eV B:=by
 obtain⟨p1,s1⟩:=oO (uss:=A) (by rw[hp.length_eq];exact h);obtain⟨p2,s2⟩:=oO h;exact Kp (p1.trans (hp.trans p2.symm)) s1 s2
end
open PySem PySem.Spec PyProof.Rows Bn
theorem Hz{X:Cx}{sc1 sc:Scope}{own1 own:List Str}{cap1 cap:List (Nat×Str)}{C:Addr}{AN:aa}{AO:Hp}{ex:List Addr}(so:Scope)(hso:X.env.scope=so)(hk:so.kind=.function)(kind:sc.kind=.function)(names:∀y∈sc.names,y.2=.local->sc.names.lookup y.1=some .local)
  (nocell:∀y∈sc.names,y.2≠.cell)(free:∀y∈sc.names,y.2=.free->sc1.names.lookup y.1=some .free/\so.names.lookup y.1=some .cell)(at':∀p∈cap,(cS own1 cap1)[p.1]?=some p.2)(hcap:∀p∈cap,sc.names.lookup p.2=some .free):
  iB (gD X sc1 (cS own1 cap1) C AN AO ex) sc own cap:=
 ⟨kind,names,nocell,λy hy e=>by
  obtain⟨f1,f2⟩:=free y hy e;exact qL (env:=X.env) (by rw[hso];exact hk) f1 (by show X.env.scope.names.lookup y.1=_;rw[hso];exact f2),at',hcap⟩
section
variable{M:kz}{A:al}{E:Value->aa->Prop}{s:aa}
theorem Vp{scope:Scope}{globals:Addr}{closure:List (Str×Addr)}{qual:Str}{outer:ay}{Q:ay->aa->Prop}
  (hQ:Q (newEnv scope s.heap.objs.size globals (cellsFrom (s.heap.objs.size+1) scope.names closure) qual none .none (some outer) builtinsNs) {s with heap:=pushCells (s.heap.push {cls:=.type "dict",data:=.dict #[]}) scope.names}):
  wpAny M A (newFunctionEnv scope globals closure [] qual none .none (some outer)) Q E s:=by
 simp only[newFunctionEnv,Option.isSome_some,if_true];refine ah (wpAny_alloc ?_);refine ah (wpAny_layCells _ (λname kind cells=>by cases hkc:kind==fj<;>simp[hkc]) _ _ _ _ ?_);rw[show({s with heap:=s.heap.push {cls:=.type "dict",data:=.dict #[]}}:aa).heap.objs.size=s.heap.objs.size+1 from jm ..];refine ah ?_;rw[wk];exact bf (bf hQ)
end
theorem zN:∀(names:List (Str×gh))(n:Nat)(acc:List (Str×Addr)),(∀x y c,acc.lookup x=some c->acc.lookup y=some c->x=y)->(∀x c,acc.lookup x=some c->c<n)->
  ∀x y c,(cellsFrom n names acc).lookup x=some c->(cellsFrom n names acc).lookup y=some c->x=y
 |[],n,acc,hi,_,x,y,c,e1,e2=>hi x y c e1 e2
 |(name,kind)::r,n,acc,hi,hb,x,y,c,e1,e2=>by
  unfold cellsFrom at e1 e2
  by_cases k:(kind==fj)=true
  .rw[if_pos k]at e1 e2
   refine zN r (n+1) _ (λx y c e1 e2=>?_) (λx c e=>?_) x y c e1 e2
   .rw[dj]at e1 e2
    cases wx:x==name with
    |true=>
     cases wy:y==name with
     |true=>rw[beq_iff_eq.mp wx,beq_iff_eq.mp wy]
     |false=>
      rw[wx]at e1;rw[wy]at e2;cases e1;exact absurd (hb y _ e2) (jd _)
    |false=>
     cases wy:y==name with
     |true=>
      rw[wx]at e1;rw[wy]at e2;cases e2;exact absurd (hb x _ e1) (jd _)
     |false=>
      rw[wx]at e1;rw[wy]at e2;exact hi x y c e1 e2
   .rw[dj]at e
    cases wx:x==name with
    |true=>
     rw[wx]at e;cases e;exact wr _
    |false=>
     rw[wx]at e;exact wv (hb x c e)
  .rw[if_neg k]at e1 e2
   exact zN r n acc hi hb x y c e1 e2
theorem rG{n0:Nat}:∀(names:List (Str×gh))(n:Nat)(acc:List (Str×Addr))(x:Str),((∃c,acc.lookup x=some c/\n0<=c)\/(x,fj)∈names)->n0<=n->∃c,(cellsFrom n names acc).lookup x=some c/\n0<=c
 |[],n,acc,x,h,hn=>by
  rcases h with h |h
  .exact h
  .cases h
 |(name,kind)::r,n,acc,x,h,hn=>by
  unfold cellsFrom
  by_cases k:(kind==fj)=true
  .rw[if_pos k]
   refine rG r (n+1) _ x ?_ (i5 hn);cases w:x==name with
   |true=>exact .inl ⟨n,by rw[dj,w],hn⟩
   |false=>
    rcases h with⟨c,h,z⟩|h
    .exact .inl ⟨c,by rw[dj,w];exact h,z⟩
    .rcases ci.mp h with z |z
     .cases z
      simp at w
     .exact .inr z
  .rw[if_neg k]
   refine rG r n acc x ?_ hn;rcases h with h |h
   .exact .inl h
   .rcases ci.mp h with z |z
    .cases z
     simp at k
    .exact .inr z
theorem yN{n0:Nat}:∀(names:List (Str×gh))(n:Nat)(acc:List (Str×Addr))(x:Str)(c:Addr),n0<=n->(cellsFrom n names acc).lookup x=some c->n0<=c\/acc.lookup x=some c
 |[],n,acc,x,c,hn,e=>.inr e
 |(name,kind)::r,n,acc,x,c,hn,e=>by
  unfold cellsFrom at e
  by_cases k:(kind==fj)=true
  .rw[if_pos k]at e
   rcases yN r (n+1) _ x c (i5 hn) e with z |z
   .exact .inl z
   .rw[dj]at z
    cases w:x==name with
    |true=>
     rw[w]at z;cases z;exact .inl hn
    |false=>
     rw[w]at z;exact .inr z
  .rw[if_neg k]at e
   exact yN r n acc x c hn e
theorem uF:∀(names:List (Str×gh))(n:Nat)(acc:List (Str×Addr))(x:Str),(x,fj)∉names->(cellsFrom n names acc).lookup x=acc.lookup x
 |[],n,acc,x,h=>rfl
 |(name,kind)::r,n,acc,x,h=>by
  unfold cellsFrom;have hr:(x,fj)∉r:=λz=>h (bh _ z)
  by_cases k:(kind==fj)=true
  .rw[if_pos k,uF r _ _ x hr,dj]
   cases w:x==name with
   |true=>
    refine absurd ?_ h;have e1:x=name:=by simpa using w
    have e2:kind=.cell:=by simpa using k
    rw[e1,e2];exact cf
   |false=>rfl
  .rw[if_neg k,uF r _ _ x hr]
theorem zC:∀(names:List (Str×gh))(h:Heap)(acc:List (Str×Addr)),(∀x c,acc.lookup x=some c->∃v,h.IsCell c v)->∀x c,(cellsFrom h.objs.size names acc).lookup x=some c->∃v,(pushCells h names).IsCell c v
 |[],h,acc,hc,x,c,e=>hc x c e
 |(name,kind)::r,h,acc,hc,x,c,e=>by
  unfold cellsFrom at e;unfold pushCells
  by_cases k:(kind==fj)=true
  .rw[if_pos k]at e⊢
   rw[<-jm h {cls:=.type "cell",data:=.cell none}]at e;refine zC r _ _ (λy c e=>?_) x c e;rw[dj]at e;cases w:y==name with
   |true=>
    rw[w]at e;cases e;exact⟨none,_,dh _ rfl,rfl⟩
   |false=>
    rw[w]at e;obtain⟨v,z⟩:=hc y c e;exact⟨v,z.keeps λb o e=>aw _ e⟩
  .rw[if_neg k]at e⊢
   exact zC r h acc hc x c e
theorem Nd{env:ay}:∀{names:List (Str×gh)}{x:Str},
  (let l:=(names.map λ(n,k)=>if(k==gj&&env.scope.kind== .function&&env.kindOf n==some .cell)then(n,fj)else(n,k)).lookup x;l=some .cell\/l=some .free)->(x,gj)∈names\/(x,fj)∈names
 |[],x,h=>by
  rcases h with h |h<;>cases h
 |(n,k)::r,x,h=>by
  dsimp only at h;rw[az]at h;have ih:=@Nd env r x
  by_cases c:(k==gj&&env.scope.kind== .function&&env.kindOf n==some .cell)=true
  .have kf:k=.free:=by
    simp only[iu,beq_iff_eq]at c;exact c.1.1
   dsimp only at h;rw[if_pos c,dj]at h;cases w:x==n with
   |true=>
    have hx:x=n:=by simpa using w
    rw[hx,<-kf];exact .inl cf
   |false=>
    rw[w]at h;exact(ih h).imp (bh _) (bh _)
  .dsimp only at h
   rw[if_neg c,dj]at h;cases w:x==n with
   |true=>
    rw[w]at h;have hx:x=n:=by simpa using w
    rcases h with h |h
    .have kf:k=.cell:=cg h
     rw[hx,<-kf];exact .inr cf
    .have kf:k=.free:=cg h
     rw[hx,<-kf];exact .inl cf
   |false=>
    rw[w]at h;exact(ih h).imp (bh _) (bh _)
theorem Qd{env:ay}:∀{names:List (Str×gh)}{x:Str},names.lookup x=some .cell->
  (names.map λ(n,k)=>if(k==gj&&env.scope.kind== .function&&env.kindOf n==some .cell)then(n,fj)else(n,k)).lookup x=some .cell
 |[],x,h=>by cases h
 |(n,k)::r,x,h=>by
  rw[az];dsimp only;rw[dj]at h;cases w:x==n with
  |true=>
   rw[w]at h;have kf:k=.cell:=cg h;subst kf;rw[if_neg (by rw[show(fj==gj)=false from rfl];simp),dj,w]
  |false=>
   rw[w]at h;have ih:=@Qd env r x h
   by_cases c:(k==gj&&env.scope.kind== .function&&env.kindOf n==some .cell)=true
   .rw[if_pos c,dj,w]
    exact ih
   .rw[if_neg c,dj,w]
    exact ih
def hJ(X:Cx)(sc:Scope)(N:List Str)(C:Addr)(AN:aa)(AO:Hp)(ex:List Addr):Cx where
 prog:=X.prog
 w:=X.w
 K:=X.K
 mg:=X.mg
 base:=X.base
 A:=X.A
 N:=N
 AN:=AN
 AO:=AO
 env:=compEnvC sc (cellsFrom (C+1) sc.names (fY X.env sc.names [])) C X.env
 outer:=X.stack
 stack:=X.stack
 ex:=ex
 fn:=λx=>sc.names.lookup x==some .cell
 calm:=X.calm
 pn:=[]
 xe:=λ_ _=>False
structure lW(X:Cx)(sc:Scope)(own:List Str)(cap:List (Nat×Str)):Prop where
 kind:sc.kind=.function
 names:∀y∈sc.names,y.2=.local->sc.names.lookup y.1=some .local
 cells:∀y∈sc.names,y.2=.cell->sc.names.lookup y.1=some .cell
 free:∀y∈sc.names,y.2=.free->X.env.kindOf y.1=some .cell
 at':∀p∈cap,X.N[p.1]?=some p.2
 cap:∀p∈cap,sc.names.lookup p.2=some .free
section
variable{X:Cx}{sc:Scope}{own:List Str}{cap:List (Nat×Str)}{AM:List (Addr×Obj)}{σ:St}{H:Hp}{s:aa}{elt target iter:ag}{pos pos':ai}{wi:TI}{g:TG}{te:TE}{Q:VK}
theorem lW.has(k:lW X sc own cap)(ok:X.Ok):∀p∈sc.names,p.2=.free->∃c,X.env.cells.lookup p.1=some c:=λp hp e=>ok.has p.1 (.inl (k.free p hp e))
theorem aH.cmpC(k:lW X sc own cap){h4:Heap}{fp:List Addr}{t':Nat}(I:aH X AM σ H s)(hf:∀b∈fp,fU X AM H b)(hlt:∀b∈fp,b<s.heap.objs.size)
  (e4:h4=pushCells (s.heap.push {cls:=.type "dict",data:=.dict #[]}) sc.names):aH (hJ X sc (cS own cap) s.heap.objs.size s H fp) [] (jO own cap σ) H {s with heap:=h4,toks:=t'}:=by
 have kp:∀b o,s.heap.get? b=some o->h4.get? b=some o:=λb o e=>by
  rw[e4];exact xi _ _ b o (aw _ e)
 have hns:h4.Ns s.heap.objs.size (λ_=>none):=by
  rw[e4];exact(Heap.Ns.new ..).keeps λb o e=>xi _ _ b o e
 have hcl:∀y c,(fY X.env sc.names []).lookup y=some c->X.env.cells.lookup y=some c:=λy c e=>by
  rcases sR sc.names [] (k.has I.ok) y c e with z |z
  .cases z
  .exact z
 have clt:∀y c,X.env.cells.lookup y=some c->c<s.heap.objs.size:=λy c e=>by
  obtain⟨v,o,ho,_⟩:=I.cell y c e;exact bi ho
 have hfr:∀y c,(cellsFrom (s.heap.objs.size+1) sc.names (fY X.env sc.names [])).lookup y=some c->s.heap.objs.size<c\/X.env.cells.lookup y=some c:=λy c e=>
  (yN (n0:=s.heap.objs.size+1) sc.names _ _ y c (ar _) e).imp (λz=>z) (hcl y c)
 have nst:∀b∈fp,b∉dM X.stack:=λb hb z=>by
  rcases ci.mp (I.stkSub b z)with e |e
  .exact(hf b hb).2.1 e
  .exact(hf b hb).2.2.1 e
 refine⟨⟨I.ok.mod,k.kind,I.ok.glob,I.ok.blt,ar _,λx y c h1 h2=>?_,λx hx=>?_,λx c hfn e=>?_,I.ok.hd,I.ok.frames,.inl rfl,λb hb=>⟨dq (hlt b hb),λx c e=>?_⟩,
  I.bs,dw I.ok.bsz I.sz,λb o e hb=>?_,nst,I.stack,I.stkFree⟩,rfl,I.bare,Un.kept kp,⟨_,hns,λi x v h1 h2 h3=>?_⟩,λx c e=>?_,I.hok.fresh (ar _),λx c e=>?_,λp hp=>absurd (show p∈([]:List (Addr×Obj)) from hp) (by simp),I.hok.kept kp,?_⟩
 .exact zN sc.names _ _ (λx y c h1 h2=>I.ok.inj x y c (hcl x c h1) (hcl y c h2)) (λx c e=>wv (clt x c (hcl x c e))) x y c h1 h2
 .rcases Nd hx with z |z
  .by_cases m:(x,fj)∈sc.names
   .obtain⟨c,e,_⟩:=rG (n0:=0) sc.names (s.heap.objs.size+1) (fY X.env sc.names []) x (.inr m) (iz _)
    exact⟨c,e⟩
   .obtain⟨c,e⟩:=oS (env:=X.env) sc.names [] x (.inr z)
    exact⟨c,(uF sc.names _ _ x m).trans e⟩
  .obtain⟨c,e,_⟩:=rG (n0:=0) sc.names (s.heap.objs.size+1) (fY X.env sc.names []) x (.inr z) (iz _)
   exact⟨c,e⟩
 .have hm:(x,fj)∈sc.names:=jr (by simpa[hJ]using hfn)
  obtain⟨c',e',hc'⟩:=rG (n0:=s.heap.objs.size) sc.names (s.heap.objs.size+1) (fY X.env sc.names []) x (.inr hm) (qk _);have:=e'.symm.trans e;cases this;exact hc'
 .rcases hfr x c e with z |z
  .exact nv (Nat.lt_trans (hlt b hb) z)
  .exact(hf b hb).2.2.2.2.1 x c z
 .rcases(hf b hb).2.2.2.1 with z |z
  .exact I.ok.noex b o e z
  .exact absurd (df (bi (I.ok.bs b o e).1) z) (jd _)
 .have hN:(cS own cap)[i]?=some x:=h1
  unfold cS at hN;unfold jO at h2
  by_cases hi:i<own.length
  .rw[du (by simpa using hi),di]at h2
   cases e:own[i]? with
   |none=>rw[e]at h2;cases h2
   |some z=>rw[e]at h2;cases h2
  .rw[dy (by simpa using hi),di,ak]at h2
   rw[dy (by omega),di]at hN;cases e:cap[i-own.length]? with
   |none=>rw[e]at h2;cases h2
   |some p=>
    rw[e]at h2 hN;have hp:p∈cap:=dz e;have hx:p.2=x:=cg hN;have hv:(σ[p.1]?).join=some v:=cg h2;have hv':σ[p.1]?=some (some v):=by
     cases e2:σ[p.1]? with
     |none=>rw[e2]at hv;cases hv
     |some z=>rw[e2]at hv;exact congrArg some hv
    have fr:=k.cap p hp;have nc:(p.2,fj)∉sc.names:=λz=>by
     have:=k.cells _ z rfl;rw[fr]at this;cases this
    have kc:X.env.kindOf p.2=some .cell:=k.free (p.2,.free) (jr fr) rfl;obtain⟨m0,_,hl⟩:=I.loc;obtain⟨u,ru,lk⟩:=hl p.1 p.2 v (k.at' p hp) hv' (.inr (.inl kc));refine⟨u,ru,?_⟩;rcases lk with⟨k1,_⟩|⟨_,c,ec,cell⟩
    .rw[kc]at k1
     cases k1
    .rw[<-hx]
     obtain⟨c',ec'⟩:=oS (env:=X.env) sc.names [] p.2 (.inr (jr fr));have:=(hcl _ _ ec').symm.trans ec;cases this;obtain⟨o,ho,hd⟩:=cell;exact .inr ⟨.inl (qL I.ok.kind fr kc),c,(uF sc.names _ _ p.2 nc).trans ec',o,kp c o ho,hd⟩
 .show ∃v,h4.IsCell c v
  rw[e4];refine zC sc.names _ (fY X.env sc.names []) (λy c e=>?_) x c (by rw[jm];exact e);obtain⟨v,z⟩:=I.cell y c (hcl y c e);exact⟨v,z.keeps λb o e=>aw _ e⟩
 .rcases hfr x c e with z |z
  .exact I.hok.fresh (ph z)
  .exact I.freeC x c z
 .unfold jO
  show _=(cS own cap).length;unfold cS;rw[bn,bn,ak,ak,ak]
theorem aH.uncmpC{s3 s':aa}{H3 H':Hp}{N:List Str}{σ':St}{C:Addr}{fp:List Addr}{pl:List (Addr×Obj)}(I:aH X AM σ H s)(hf:∀b∈fp,fU X AM H b)(u:Un (dM X.stack) fp H H3 s.heap s3.heap)(os:s3.os=s.os)
  (J:aH (hJ X sc N C s3 H3 fp) pl σ' H' s'):aH X AM σ H' s':=by
 have os':s'.os=s.os:=(show s'.os=s3.os from J.os).trans os;refine I.call' (ch:=fp) os' (u.trans J.base) J.hok J.bare λb hb=>?_;obtain⟨_,f1,_,f3,f4,f5⟩:=hf b hb;exact⟨f3,f1,f4,f5⟩
theorem Wq{use:Option (Value->Sem Unit)}{Qf:Value->aa->Prop}(k:lW X sc own cap)(hi:PI X target iter wi)(hc:X.calm=true)
  (hg:∀C AN AO ex,PG (hJ X sc (cS own cap) C AN AO ex) target g)(he:∀C AN AO ex,PE (hJ X sc (cS own cap) C AN AO ex) elt te)(I:aH X AM σ H s)(h:rO own cap wi g te σ H Q)
  (fin:∀D C s' H' m,aH X AM σ H' s'->fU X AM H' C->s'.heap.Ns C m->Q (.ref D) H'->compPost (model X.prog X.w) X.A X.xe use Qf (.ref D) C (.ok .next) s')
  (hs:∀x,foldedSetIterable iter X.env x=pure x):
  wpAny (model X.prog X.w) X.A (comprehension (.ListComp elt [⟨target,iter,[],0⟩] sc pos) sc X.env pos' (newList []) false (eval iter X.env) use) Qf X.xe s:=by
 refine zl (use:=use) rfl hs (Yi (k.has I.ok)) k.kind k.names ?_;refine bG (hi AM s σ H _ I h) λv s1 h1=>bG h1 λitv s2 h2=>?_;obtain⟨it,fp,tn,J,H2,e,I2,T,st2,f2,hW⟩:=h2;subst e;refine jx (Vp ?_);have hsz:(s2.heap.push {cls:=.type "list",data:=.seq ([]:AD).toArray}).objs.size=s2.heap.objs.size+1:=jm ..;have I3:aH X AM σ (bA H2 s2.heap.objs.size (.lst [])) {s2 with heap:=s2.heap.push {cls:=.type "list",data:=.seq ([]:AD).toArray},toks:=s2.toks}:=I2.lnew (ys:=[]) (its:=[]) .nil (iz _);have hD:H2 s2.heap.objs.size=none:=I2.fresh;have ltf:∀b∈fp,b<s2.heap.objs.size:=λb hb=>by
  obtain⟨o,ho,_⟩:=T.obj _ _ st2 b hb;exact bi ho
 have f3:∀b∈fp,fU X AM (bA H2 s2.heap.objs.size (.lst [])) b:=λb hb=>⟨by rw[bV (dq (ltf b hb))];exact(f2 b hb).1,(f2 b hb).2⟩;have un:Un (dM X.stack) fp H2 (bA H2 s2.heap.objs.size (.lst [])) s2.heap (s2.heap.push {cls:=.type "list",data:=.seq ([]:AD).toArray}):=Un.laid (λb u q=>aw _ q) (ar _) hD;have kp:∀b o,(s2.heap.push {cls:=.type "list",data:=.seq ([]:AD).toArray}).get? b=some o->(pushCells ((s2.heap.push {cls:=.type "list",data:=.seq ([]:AD).toArray}).push {cls:=.type "dict",data:=.dict #[]}) sc.names).get? b=some o:=λb o q=>xi _ _ b o (aw _ q);have J0:=I3.cmpC (t':=s2.toks) k f3 (λb hb=>df (ltf b hb) (by rw[jm];exact qk _)) rfl;have stat:∀{H':Hp},(∀b∈fp,H' b=none)->∀b∈fp,fU (hJ X sc (cS own cap) (s2.heap.push {cls:=.type "list",data:=.seq ([]:AD).toArray}).objs.size {s2 with heap:=s2.heap.push {cls:=.type "list",data:=.seq ([]:AD).toArray},toks:=s2.toks} (bA H2 s2.heap.objs.size (.lst [])) fp) [] H' b:=λhn b hb=>
  ⟨hn b hb,(J0.ok.exf b hb).1,J0.ok.exfs b hb,.inl hb,(J0.ok.exf b hb).2,λp hp=>absurd (show p∈([]:List (Addr×Obj)) from hp) (by simp)⟩
 have st4:tn 0 (pushCells ((s2.heap.push {cls:=.type "list",data:=.seq ([]:AD).toArray}).push {cls:=.type "dict",data:=.dict #[]}) sc.names):=T.keep _ _ _ st2 λb hb o q=>kp b o (aw _ q);have fr0:∀b∈fp,(bA H2 s2.heap.objs.size (.lst [])) b=none:=λb hb=>(f3 b hb).1;have loop:codeAny (model X.prog X.w) X.A (.compLoop (.ListComp elt [⟨target,iter,[],0⟩] sc pos) 0 (.ref it) (.ref s2.heap.objs.size) (compEnvC sc (cellsFrom ((s2.heap.push {cls:=.type "list",data:=.seq ([]:AD).toArray}).objs.size+1) sc.names (fY X.env sc.names [])) (s2.heap.push {cls:=.type "list",data:=.seq ([]:AD).toArray}).objs.size X.env))
   (compPost (model X.prog X.w) X.A X.xe use Qf (.ref s2.heap.objs.size) (s2.heap.push {cls:=.type "list",data:=.seq ([]:AD).toArray}).objs.size) {s2 with heap:=(pushCells ((s2.heap.push {cls:=.type "list",data:=.seq ([]:AD).toArray}).push {cls:=.type "dict",data:=.dict #[]}) sc.names),toks:=s2.toks}:=by
  obtain⟨W,⟨m0,w0⟩,turn⟩:=hW s2.heap.objs.size hD;refine Ie (λn s'=>∃i σ' H' ys,aH (hJ X sc (cS own cap) (s2.heap.push {cls:=.type "list",data:=.seq ([]:AD).toArray}).objs.size {s2 with heap:=s2.heap.push {cls:=.type "list",data:=.seq ([]:AD).toArray},toks:=s2.toks} (bA H2 s2.heap.objs.size (.lst [])) fp) [] σ' H' s'/\tn i s'.heap/\(∀b∈fp,H' b=none)/\W i n σ' H' ys) ?_ m0
   ⟨0,_,_,[],J0,st4,fr0,w0⟩
  rintro n s5 ⟨i,σ5,H5,ys,I5,st5,fr5,w5⟩
  obtain⟨hD5,w5⟩:=turn i n σ5 H5 ys w5;rcases w5 with⟨stop,qn⟩|⟨go,hlt,step⟩
  .refine bG (T.done (hJ X sc (cS own cap) (s2.heap.push {cls:=.type "list",data:=.seq ([]:AD).toArray}).objs.size {s2 with heap:=s2.heap.push {cls:=.type "list",data:=.seq ([]:AD).toArray},toks:=s2.toks} (bA H2 s2.heap.objs.size (.lst [])) fp) rfl rfl rfl hc i [] s5 σ5 H5 _ I5 (stat fr5) st5 stop) ?_
   rintro r s6 ⟨hr,I6⟩
   subst hr;obtain⟨m,hn,_⟩:=id I6.loc;exact fin _ _ s6 H5 m (I2.uncmpC (s3:={s2 with heap:=s2.heap.push {cls:=.type "list",data:=.seq ([]:AD).toArray},toks:=s2.toks}) f2 un rfl I6) (I3.fpOk (ar _) I6.free) hn qn
  .refine bG (T.item (hJ X sc (cS own cap) (s2.heap.push {cls:=.type "list",data:=.seq ([]:AD).toArray}).objs.size {s2 with heap:=s2.heap.push {cls:=.type "list",data:=.seq ([]:AD).toArray},toks:=s2.toks} (bA H2 s2.heap.objs.size (.lst [])) fp) rfl rfl rfl hc i [] s5 σ5 H5 _ I5 (stat fr5) st5 go) ?_
   rintro r s6 ⟨u,hr,h6⟩
   subst hr;refine bG h6 ?_
   rintro _ s7 ⟨x,H7,I7,r7,y7,st7,fr7⟩
   have I7':=I7.pinned (stat fr7) (T.obj _ _ st7);refine bG (hg _ _ _ _ _ s7 σ5 H7 x u _ I7' r7 (step x H7 y7)) ?_
   rintro _ s8 ⟨σ8,H8,I8,q8⟩
   refine bG (he _ _ _ _ _ s8 σ8 H8 _ I8 q8) ?_
   rintro v9 s9 ⟨y,H9,I9,r9,hD9,m',hm,w9⟩
   refine bG (tH _ s9 σ8 H9 (.ref s2.heap.objs.size) [y] (.ref s2.heap.objs.size) [v9] (λ_ H'=>H'=bA H9 s2.heap.objs.size (.lst (ys++[y]))) I9 rfl (.cons r9 .nil) ⟨_,ys,y,rfl,rfl,hD9,hlt,rfl⟩) ?_
   rintro _ s10 ⟨_,H10,I10,_,q10⟩
   subst q10;refine⟨m',hm,i+1,σ8,_,_,I10.unpinned,T.keep _ _ _ st7 λb hb o q=>(I10.pin (b,o) (fu _ (fu _ (oN hb q)))).1,λb hb=>?_,w9⟩;obtain⟨o,q,d⟩:=T.obj _ _ st7 b hb;exact(I10.pin (b,o) (fu _ (fu _ (oN hb q)))).2.1
 exact zm loop (T.self _ 0 _ _ _ st4 loop)
theorem Ew(k:lW X sc own cap)(hi:PI X target iter wi)(hc:X.calm=true)
  (hg:∀C AN AO ex,PG (hJ X sc (cS own cap) C AN AO ex) target g)(he:∀C AN AO ex,PE (hJ X sc (cS own cap) C AN AO ex) elt te)
  (hs:∀x,foldedSetIterable iter X.env x=pure x:=by intro _;rfl):PE X (.ListComp elt [⟨target,iter,[],0⟩] sc pos) (rO own cap wi g te):=by
 intro AM s σ H Q I h;rw[eval_ListComp];refine Wq (use:=none) k hi hc hg he I h (λD C s' H' m I' fC hn q=>?_) hs;refine⟨m,hn,λh' sb=>⟨.ref D,H',?_,rfl,q⟩⟩;obtain⟨f0,f1,f2,f3,f4,f5⟩:=fC;exact I'.turned (t':=s'.toks) (λb o hb e=>(sb.2 b hb).trans e) f0 f1 f3 f4 f5
theorem D4{X:Cx}{sc:Scope}{own:List Str}{cap:List (Nat×Str)}(so:Scope)(N:List Str)(hso:X.env.scope=so)(hN:X.N=N)(kind:sc.kind=.function)(names:∀y∈sc.names,y.2=.local->sc.names.lookup y.1=some .local)
  (cells:∀y∈sc.names,y.2=.cell->sc.names.lookup y.1=some .cell)(free:∀y∈sc.names,y.2=.free->so.names.lookup y.1=some .cell)(at':∀p∈cap,N[p.1]?=some p.2)(hcap:∀p∈cap,sc.names.lookup p.2=some .free):lW X sc own cap:=
 ⟨kind,names,cells,λy hy e=>by show X.env.scope.names.lookup y.1=_;rw[hso];exact free y hy e,λp hp=>by rw[hN];exact at' p hp,hcap⟩
theorem B7{X:Cx}{sc1 sc:Scope}{own1 own:List Str}{cap1 cap:List (Nat×Str)}{C:Addr}{AN:aa}{AO:Hp}{ex:List Addr}(so:Scope)(hso:X.env.scope=so)(hk:so.kind=.function)(kind:sc.kind=.function)(names:∀y∈sc.names,y.2=.local->sc.names.lookup y.1=some .local)
  (nocell:∀y∈sc.names,y.2≠.cell)(free:∀y∈sc.names,y.2=.free->sc1.names.lookup y.1=some .cell\/(sc1.names.lookup y.1=some .free/\so.names.lookup y.1=some .cell))(at':∀p∈cap,(cS own1 cap1)[p.1]?=some p.2)(hcap:∀p∈cap,sc.names.lookup p.2=some .free):
  iB (hJ X sc1 (cS own1 cap1) C AN AO ex) sc own cap:=
 ⟨kind,names,nocell,λy hy e=>by
  rcases free y hy e with f |⟨f1,f2⟩
  .exact Qd (env:=X.env) f
  .exact qL (env:=X.env) (by rw[hso];exact hk) f1 (by show X.env.scope.names.lookup y.1=_;rw[hso];exact f2),at',hcap⟩
end
end L2
namespace L2.Pp
open PySem PySem.Spec PyProof.Rows Bn
section
variable{K:ae}{cl:Str->Addr}{E:XK}{X:Cx}{p q:Ph}{H H':Hp}{S:aG}
variable{sc:Scope}{own:List Str}{cap:List (Nat×Str)}{elt target iter:ag}{pos:ai}{mi:MI}{g:GM}{me:ME}
theorem Du(k:lW X sc own cap)(hi:PIp K cl E X target iter mi)(hc:X.calm=true)(hg:∀C AN AO ex,lO K (hJ X sc (cS own cap) C AN AO ex) target g)(he:∀C AN AO ex,aY K cl E0 (hJ X sc (cS own cap) C AN AO ex) elt me)
  (hs:∀x,foldedSetIterable iter X.env x=pure x:=by intro _;rfl):aY K cl E X (.ListComp elt [⟨target,iter,[],0⟩] sc pos) (bB own cap mi g me):=by
 intro hK;refine PE.imp (Ew k (hi hK) hc (λC AN AO ex=>hg C AN AO ex hK) (λC AN AO ex=>he C AN AO ex hK) hs) ?_
 rintro σ H Q ⟨p,S,ρ,s,ev,h⟩
 exact cG s ev h λq H' xs J S' stp sm ev it kk D hD=>xM sm ev it kk hD
end
noncomputable section
open PySem PySem.Spec PyProof.Rows Bn
def vZ(k:Nat)(S:aG):Prop:=∀(j:Nat)(o:SO),S[j]?=some o->j≠k->∃xs,o=.lst xs
def Pl(S:aG):Prop:=∀(j:Nat)(o:SO),S[j]?=some o->∃xs,o=.lst xs
section
variable{K:ae}{cl:Str->Addr}{E:XK}{X:Cx}{a e:ag}{m:ME}{ms:MA}{pos:ai}{p q:Ph}{H H':Hp}{S:aG}
theorem aX.pushO(s:aX K p S H){D:Addr}{o:SO}{ho:HO}(h:H D=none)(mo:Mb ho)(ob:qB K ⟨p.f++[D],λa=>p.w a\/a=D,λa=>p.c a\/a=D⟩ (bA H D ho) D o):
  let q:Ph:=⟨p.f++[D],λa=>p.w a\/a=D,λa=>p.c a\/a=D⟩
  bP p H q (bA H D ho)/\aX K q (S++[o]) (bA H D ho):=by
 intro q;obtain⟨st0,sm0⟩:=s.res (D:=D) (o:=ho) h mo;have nf0:D∉p.f:=λz=>s.notin h (s.wc D (s.sub D z));refine⟨⟨st0.wc,st0.mu,⟨[D],rfl⟩,st0.mw,st0.mono,λa x n=>?_,st0.nw,st0.nc,st0.keep⟩,?_,by simp[q,s.len],λa x=>?_,sm0.wc,sm0.mu,λk a u e1 e2=>?_⟩
 .rcases cv.mp x with z |z
  .exact absurd z n
  .have:a=D:=by simpa using z
   rw[this];exact h
 .show(p.f++[D]).Nodup
  rw[sy];refine⟨s.nd,by simp,λa ha b hb z=>?_⟩;have:b=D:=by simpa using hb
  exact nf0 (this▸z▸ha)
 .rcases cv.mp x with z |z
  .exact .inl (s.sub a z)
  .exact .inr (by simpa using z)
 .by_cases hk:k<S.length
  .have e1':p.f[k]?=some a:=by
    have e1:(p.f++[D])[k]?=some a:=e1
    rwa[du (by rw[s.len];exact hk)]at e1
   rw[du hk]at e2;refine(s.obj k a u e1' e2).mono (λvs e=>by rw[bV (fR e h)];exact e) (λb w f=>⟨⟨.inl w,λm=>?_⟩,λvs e=>by rw[bV (fR e h)];exact e⟩) λ_ _ r=>st0.reps r;rcases cv.mp m with z |z
   .exact f z
   .have:b=D:=by simpa using z
    exact s.notin h (this▸s.wc b w)
  .have hk':k=S.length:=by
    have:=(ck.mp e2).1;simp at this;omega
   subst hk';rw[dy (ar _),jb]at e2;have e1:(p.f++[D])[S.length]?=some a:=e1;rw[<-s.len,dy (ar _),jb]at e1;cases e1;cases e2;exact ob
def Va(xs:AK)(S:aG):bO AV:=match(gS S xs).bind kZ with
 |some (.lst vs)=>.ok (.ref S.length) (S++[.lol [vs]])
 |_=>.fail
def rV(ms:MA):ME:=λρ S=>(ms ρ S).bind Va
theorem Gi{as:AK}{xs:List V}{vs:AH}(s:aX K p S H)(r:fX K p H as xs)(h:(gS S as).bind kZ=some (.lst vs)):
  ∃b ws,xs=[.ref b]/\(bT K H b ws\/dA K H b ws)/\ws.length<=sizeLine/\aQ K p.c H vs ws:=by
 cases z:gS S as with
 |none=>rw[z]at h;cases h
 |some us=>
  rw[z]at h;have rr:=xH s r z;cases rr with
  |nil=>cases h
  |cons g t=>
   rename_i u x ut xt;cases t with
   |cons _ _=>cases u<;>cases h
   |nil=>
    cases u with
    |lst ws=>
     cases h;obtain⟨a,ws,rfl,l,z,r⟩:=g.lst;exact⟨a,ws,rfl,.inl l,z,r⟩
    |tup ws=>
     cases h;obtain⟨a,ws,rfl,l,z,r⟩:=g.tup;exact⟨a,ws,rfl,.inr l,z,r⟩
    |_=>cases h
theorem J7{x:Str}{p lp:ai}(hx:x="list")(hg:Gl X "list")(hm:X.mg "list"=none)(ha:eU K cl E X [e] ms)(he:starEach [e] X.env=[(false,eval e X.env)]:=by rfl)
  (hs:starEach [.Call (.Name x p) [e] [] pos] X.env=[(false,eval (.Call (.Name x p) [e] [] pos) X.env)]:=by rfl):aY K cl E X (.List [.Call (.Name x p) [e] [] pos] lp) (rV ms):=by
 intro hK;subst hK hx;refine PE.imp (zV (pA (xK wF hg hm (by decide+kernel) (ha rfl) (by decide) (by decide) he rfl) rF hs)) ?_
 rintro σ H Q ⟨p,S,ρ,s,ev,h⟩
 refine cG s ev h λq H1 as xs S1 st s1 e1 r1 h1=>?_;unfold Va at h1;split at h1
 .rename_i vs hv
  obtain⟨b,ws,rfl,sq,hl,r⟩:=Gi s1 r1 hv;refine⟨b,ws,rfl,sq,λl hn=>⟨by show 1<=sizeLine;decide,λt ht=>?_⟩⟩;obtain⟨st2,sm2⟩:=s1.res (D:=l) (o:=.lst ws) hn trivial;have ne:l≠t:=λz=>by rw[<-z,fS]at ht;cases ht
  have nf:l∉q.f:=λz=>s1.notin hn (s1.wc l (s1.sub l z));have dX:=(sm2.res (D:=t) (o:=.lst [.ref l]) ht trivial).1;have ob:qB X.K ⟨(q.res l).f++[t],λa=>(q.res l).w a\/a=t,λa=>(q.res l).c a\/a=t⟩ (bA (bA H1 l (.lst ws)) t (.lst [.ref l])) t (.lol [vs]):=by
   refine⟨[l],fS,by show 1<=sizeLine;decide,by simp,λc hc=>?_,rfl,λi ys c e1 e2=>?_⟩
   .have:c=l:=by simpa using hc
    subst this;refine⟨.inl (.inr rfl),λm=>?_⟩;rcases cv.mp m with z |z
    .exact nf z
    .exact ne (by simpa using z)
   .cases i with
    |zero=>
     cases e1;cases e2;exact⟨ws,by rw[bV ne,fS],hl,dX.reps (st2.reps r)⟩
    |succ i=>simp at e1
  obtain⟨st4,sm4⟩:=sm2.pushO (D:=t) (ho:=.lst [.ref l]) ht trivial ob;exact h1 _ _ (.ref t) (st2.trans st4) sm4 ⟨t,by show(q.f++[t])[S1.length]?=some t;rw[<-s1.len,dy (ar _),jb];rfl,rfl⟩
 .exact h1.elim
def rT(k:Nat)(ys:AK)(S:aG):bO AV:=match(gS S ys).bind kZ,S[k]? with
 |some (.lst vs),some (.lol xss)=>if xss.length<16777216 then .ok (.pv .non) (S.set k (.lol (xss++[vs])))else .fail
 |_,_=>.fail
def rP(m:ME)(ms:MA):ME:=λρ S=>(m ρ S).bind λk S1=>eW k S1 λk=>(ms ρ S1).bind λys S2=>rT k ys S2
theorem aX.growL(s:aX K p S H){k:Nat}{D l:Addr}{xss:List AH}{bs:List Addr}{ys:AH}{ws:List V}(h:p.f[k]?=some D)(hS:S[k]?=some (.lol xss))(hn:H l=none)(hl:ws.length<=sizeLine)(r:aQ K p.c H ys ws)(hH:H D=some (.lst (bs.map V.ref)))(hz:bs.length<sizeLine):
  bP p H (p.res l) (bA (bA H l (.lst ws)) D (.lst ((bs++[l]).map V.ref)))/\aX K (p.res l) (S.set k (.lol (xss++[ys]))) (bA (bA H l (.lst ws)) D (.lst ((bs++[l]).map V.ref))):=by
 obtain⟨st2,sm2⟩:=s.res (D:=l) (o:=.lst ws) hn trivial;have hk:k<S.length:=(ck.mp hS).1;have mD:D∈p.f:=dz h;have w:(p.res l).w D:=.inl (s.sub D mD);have neD:D≠l:=λz=>by rw[z,hn]at hH;cases hH
 have nl:l∉p.f:=λz=>s.notin hn (s.wc l (s.sub l z));have dX:bP (p.res l) (bA H l (.lst ws)) (p.res l) (bA (bA H l (.lst ws)) D (.lst ((bs++[l]).map V.ref))):=⟨sm2.wc,sm2.mu,kb,λ_ h=>h,λ_ h=>h,λ_ h g=>absurd h g,λ_ h g=>absurd h g,λ_ h g=>absurd h g,λa u e nw=>by
  rw[bV (λz:a=D=>nw (by rw[z];exact w))];exact e⟩
 refine⟨st2.trans dX,sm2.nd,by rw[fh];exact sm2.len,sm2.sub,sm2.wc,λa x=>?_,λj a o e1 e2=>?_⟩
 .by_cases z:a=D
  .rw[z,fS]
   exact⟨_,rfl,trivial⟩
  .rw[bV z]
   exact sm2.mu a x
 .by_cases hj:k=j
  .subst hj
   have e1:p.f[k]?=some a:=e1;rw[h]at e1;cases e1;rw[fe hk]at e2;cases e2;obtain⟨cs,g1,g2,g3,g4,g5,g6⟩:=s.obj k D _ h hS;rw[hH]at g1;have ec:bs=cs:=by
    have:=congrArg (λo=>match o with |some (HO.lst v)=>v |_=>[]) g1
    have:bs.map V.ref=cs.map V.ref:=this;exact i6 (λx y h=>by cases h;rfl) |>.mp this
   subst ec;have nb:∀b∈bs,b≠l:=λb hb z=>s.notin hn (z▸s.wc b (g4 b hb).1);refine⟨bs++[l],fS,by rw[bn];exact hz,?_,λb hb=>?_,by rw[bn,bn,g5];rfl,λi xs b e1 e2=>?_⟩
   .rw[sy]
    exact⟨g3,by simp,λx hx y hy z=>nb x hx (by rw[z];simpa using hy)⟩
   .rcases cv.mp hb with z |z
    .exact⟨.inl (g4 b z).1,(g4 b z).2⟩
    .have:b=l:=by simpa using z
     subst this;exact⟨.inr rfl,nl⟩
   .by_cases hi:i<bs.length
    .rw[du hi]at e2
     rw[du (by rw[g5];exact hi)]at e1;obtain⟨vs,h1,h2,h3⟩:=g6 i xs b e1 e2;have hb:=g4 b (dz e2);exact⟨vs,by rw[bV (λz:b=D=>hb.2 (z▸mD)),bV (nb b (dz e2))];exact h1,h2,dX.reps (st2.reps h3)⟩
    .have hi':i=bs.length:=by
      have:=(ck.mp e2).1;rw[bn]at this;have:i<bs.length+1:=this;omega
     subst hi';rw[dy (ar _),jb]at e2;rw[<-g5,dy (ar _),jb]at e1;cases e1;cases e2;exact⟨ws,by rw[bV (je neD),fS],hl,dX.reps (st2.reps r)⟩
  .rw[ft hj]at e2
   have ne:a≠D:=λq=>hj (qS s.nd h (q▸e1));exact(sm2.obj j a o e1 e2).mono (λvs e=>by rw[bV ne];exact e) (λb w f=>⟨⟨w,f⟩,λvs e=>by rw[bV (λz:b=D=>f (z▸mD))];exact e⟩) λ_ _ r=>dX.reps r
theorem Mz{x:Str}{p apos cpos:ai}(hx:x="list")(hg:Gl X "list")(hm:X.mg "list"=none)(ho:aY K cl E X a m)(ha:eU K cl E X [e] ms)(hbase:attributeBase a "append" X.env (eval a X.env)=eval a X.env:=by rfl)
  (hfew:((backTo cpos (starEach [.Call (.Name x p) [e] [] pos] X.env)).all (λx=>!x.1)&&(backToKw cpos (keywordEach [] X.env)).all (λx=>x.1.isSome)&&decide (([.Call (.Name x p) [e] [] pos]:List ag).length+([]:List jy).length+(if([]:List jy).isEmpty then 0 else 1)<30))=true:=by rfl)
  (hline:(apos.endLine==cpos.line)=true:=by rfl)(he:starEach [e] X.env=[(false,eval e X.env)]:=by rfl)(hs:starEach [.Call (.Name x p) [e] [] pos] X.env=[(false,eval (.Call (.Name x p) [e] [] pos) X.env)]:=by rfl):
  aY K cl E X (.Call (.Attribute a "append" apos) [.Call (.Name x p) [e] [] pos] [] cpos) (rP m ms):=by
 intro hK;subst hK hx;refine PE.imp (Ua wu vp g8 tH (ho rfl) (pA (xK wF hg hm (by decide+kernel) (ha rfl) (by decide) (by decide) he rfl) rF hs) hbase hfew hline hs rfl) ?_
 rintro σ H Q ⟨p,S,ρ,s,ev,h⟩
 refine cG s ev h λq H1 k x S1 st s1 e1 r1 h1=>?_;cases k with
 |pv v=>exact h1.elim
 |ref k=>
  have h1:cE X.K cl (cU X.K) q H1 (eW (.ref k) S1 λk=>(ms ρ S1).bind λys S2=>rT k ys S2) Q E:=h1;rcases tN k S1 (λk=>(ms ρ S1).bind λys S2=>rT k ys S2)with z |⟨z,n1,n2⟩
  .rw[z]at h1
   exact h1.elim
  rw[z]at h1;refine⟨zA s1 r1 n1 n2,cG s1 e1 h1 λq2 H2 ys xs S2 st2 s2 e2 r2 h2=>?_⟩;obtain⟨a,ea,rfl⟩:=st2.repA r1;unfold rT at h2;split at h2
  .rename_i vs xss hv hS
   obtain⟨b,ws,rfl,sq,hl,r⟩:=Gi s2 r2 hv;split at h2
   .rename_i hz
    refine⟨b,ws,rfl,sq,λl hn=>?_⟩;obtain⟨bs,g1,g2,g3,g4,g5,g6⟩:=s2.obj k a _ ea hS;have hzz:=iS;have neA:a≠l:=λz=>by rw[z,hn]at g1;cases g1
    obtain⟨dX,sm3⟩:=s2.growL ea hS hn hl r g1 (by rw[<-g5];omega);refine⟨a,bs.map V.ref,.ref l,rfl,rfl,by rw[bV neA];exact g1,by rw[ak,<-g5];omega,?_⟩;have:=h2 _ _ .non dX sm3 (by show aU X.K (q2.res l).c (bA (bA H2 l (.lst ws)) a (.lst ((bs++[l]).map V.ref))) .non .non;exact gX (v:=.non) rfl);rw[gi]at this;exact this
   .exact h2.elim
  .exact h2.elim
def uZ(m:Int)(xs:AH):Option AH:=match aW xs.length m with
 |some j=>match xs[j]? with
  |some (.int v)=>some (xs.set j (.int (1-v)))
  |_=>none
 |none=>none
def pV(m:Int):List AH->Option (List AH)
 |[]=>some []
 |xs::r=>match uZ m xs,pV m r with
  |some y,some ys=>some (y::ys)
  |_,_=>none
theorem Of{m:Int}:∀{xss yss:List AH},pV m xss=some yss->xss.length=yss.length/\∀(i:Nat)(xs:AH),xss[i]?=some xs->∃ys:AH,yss[i]?=some ys/\uZ m xs=some ys
 |[],yss,e=>by
  cases e;exact⟨rfl,λi xs h=>by simp at h⟩
 |xs::r,yss,e=>by
  unfold pV at e;split at e
  .rename_i y ys h1 h2
   cases e;obtain⟨l,g⟩:=Of h2;refine⟨by rw[db,db,l],λi zs h=>?_⟩;cases i with
   |zero=>
    cases h;exact⟨y,rfl,h1⟩
   |succ i=>simpa using g i zs (by simpa using h)
  .cases e
open Classical in
def nR(ics ic im:Nat):MS:=λρ S=>match ρ[ics]?,ρ[im]? with
 |some (some (.ref k)),some (some (.pv (.int m)))=>match S[k]? with
  |some (.lol xss)=>if vZ k S/\ic<ρ.length then(match pV m xss with
   |some yss=>.nx (ρ.set ic none) (S.set k (.lol yss))
   |none=>.fail)else .fail
  |_=>.fail
 |_,_=>.fail
theorem aX.inner(s:aX K p S H){k i:Nat}{D b:Addr}{xss:List AH}{bs:List Addr}{ys:AH}{ws:List V}(h:p.f[k]?=some D)(hS:S[k]?=some (.lol xss))(pl:vZ k S)(hH:H D=some (.lst (bs.map V.ref)))(hb:bs[i]?=some b)(hl:ws.length<=sizeLine)(r:aQ K p.c H ys ws):
  bP p H p (bA H b (.lst ws))/\aX K p (S.set k (.lol (xss.set i ys))) (bA H b (.lst ws)):=by
 have hk:k<S.length:=(ck.mp hS).1;have mD:D∈p.f:=dz h;obtain⟨cs,g1,g2,g3,g4,g5,g6⟩:=s.obj k D _ h hS;rw[hH]at g1;have ec:bs=cs:=by
  have:=congrArg (λo=>match o with |some (HO.lst v)=>v |_=>[]) g1
  have:bs.map V.ref=cs.map V.ref:=this;exact i6 (λx y h=>by cases h;rfl) |>.mp this
 subst ec;have wb:=g4 b (dz hb);have st:bP p H p (bA H b (.lst ws)):=⟨s.wc,s.mu,kb,λ_ h=>h,λ_ h=>h,λ_ h g=>absurd h g,λ_ h g=>absurd h g,λ_ h g=>absurd h g,λa u e nw=>by
  rw[bV (λz:a=b=>nw (by rw[z];exact wb.1))];exact e⟩
 refine⟨st,s.nd,by rw[fh];exact s.len,s.sub,s.wc,λa x=>?_,λj a o e1 e2=>?_⟩
 .by_cases z:a=b
  .rw[z,fS]
   exact⟨_,rfl,trivial⟩
  .rw[bV z]
   exact s.mu a x
 .have ne:a≠b:=λz=>wb.2 (z▸dz e1)
  by_cases hj:k=j
  .subst hj
   rw[h]at e1;cases e1;rw[fe hk]at e2;cases e2;refine⟨bs,by rw[bV ne];exact hH,g2,g3,g4,by rw[fh];exact g5,λi' xs c e1 e2=>?_⟩
   by_cases hi:i=i'
   .subst hi
    rw[hb]at e2;cases e2;have hx:i<xss.length:=by
     rw[g5];exact(ck.mp hb).1
    rw[fe hx]at e1;cases e1;exact⟨ws,fS,hl,st.reps r⟩
   .rw[ft hi]at e1
    obtain⟨vs,h1,h2,h3⟩:=g6 i' xs c e1 e2;exact⟨vs,by rw[bV (λz:c=b=>hi (qS g3 hb (z▸e2)))];exact h1,h2,st.reps h3⟩
  .rw[ft hj]at e2
   obtain⟨xs,rfl⟩:=pl j o e2 (je hj);obtain⟨vs,e,l,g⟩:=s.obj j a _ e1 e2;exact⟨vs,by rw[bV ne];exact e,l,st.reps g⟩
theorem Sw{α:Type}{ys xs:List α}{i:Nat}{y:α}(l:xs.length=ys.length)(h:ys[i]?=some y):(ys.take i++xs.drop i).set i y=ys.take (i+1)++xs.drop (i+1):=by
 have hi:i<ys.length:=(ck.mp h).1;have hx:i<xs.length:=by omega
 have e:ys[i]=y:=(ck.mp h).2;rw[wo hx,List.set_append,if_neg (by rw[jz];omega),jz,i7 (ph hi),jb,da,List.take_succ_eq_append_getElem hi,e,ko];rfl
theorem Cg{α:Type}{l:List α}{i:Nat}{a b:α}:(l.set i a).set i b=l.set i b:=by simp
theorem Ix{ics ic im:Nat}{c cs mm:Str}{p1 p2 p3 p4 p5 p6 p7 p8 p9 apos:ai}{j:Nat}(hp:qc (model X.prog X.w) X.A X.env X.xe)(hc:X.calm=true)(hN:X.N.Nodup)(h1:X.N[ics]?=some cs)(h2:X.N[ic]?=some c)(h3:X.N[im]?=some mm)
  (v1:mV X.env.scope cs)(v2:jU X.env.scope c)(v3:mV X.env.scope mm)(ne1:ics≠ic)(ne2:im≠ic)
  (ha:∀v,assign (.Subscript (.Name c p3) (.Name mm p4) p5) X.env v=(do
   let ov <-holding [v] (eval (.Name c p3) X.env)
   let iv <-holding [v,ov] (eval (.Name mm p4) X.env)
   standAt p5
   holding [v,ov,iv] (setItem ov iv v)
   release [v,ov,iv] []):=by intro _;rfl)
  (hs:swapsWithSole [.Subscript (.Name c p3) (.Name mm p4) p5] (.BinOp (.Constant (.int 1) j p6) .Sub (.Subscript (.Name c p7) (.Name mm p8) p9) p2) apos.line X.env=pure false:=by rfl)(hw:swappedStores [.Subscript (.Name c p3) (.Name mm p4) p5] (.BinOp (.Constant (.int 1) j p6) .Sub (.Subscript (.Name c p7) (.Name mm p8) p9) p2) X.env=pure none:=by rfl)
  (ht:(assignEach [.Subscript (.Name c p3) (.Name mm p4) p5] X.env).map (·.2)=[assign (.Subscript (.Name c p3) (.Name mm p4) p5) X.env]:=by rfl)
  (hpl:yX (.Name mm p8):=by intro _ _;rfl)
  (d1:(cs==("__debug__":Str))=false:=by decide)(d2:(c==("__debug__":Str))=false:=by decide)(d3:(mm==("__debug__":Str))=false:=by decide)
  (k1:(cs==("__classdict__":Str))=false:=by decide)(k2:(c==("__classdict__":Str))=false:=by decide)(k3:(mm==("__classdict__":Str))=false:=by decide)
  (hf:X.fn c=true\/X.env.scope.names.lookup c=some .local:=by first |exact .inl rfl |exact .inr rfl |assumption)
  (hfs:∀x,foldedSetIterable (.Name cs p1) X.env x=pure x:=by intro _;rfl){cp:ai}:
  eO K cl E X (.For (.Name c cp) (.Name cs p1) [.Assign [.Subscript (.Name c p3) (.Name mm p4) p5] (.BinOp (.Constant (.int 1) j p6) .Sub (.Subscript (.Name c p7) (.Name mm p8) p9) p2) apos] [] pos) (nR ics ic im):=by
 intro hK;subst hK;have vc:mV X.env.scope c:=v2.elim .inl λz=>.inr (.inl z);refine PS.imp (Hl hp hc (Qk (nH h1 v1 d1 k1)) (Qj hN h2 v2 hf) (Hi (Uk (Nm Ol uK (Xm Gk (nH h2 vc d2 k2) (nH h3 v3 d3 k3) hpl)) (Pk (nH h2 vc d2 k2) (nH h3 v3 d3 k3) Kh ha) hs hw ht)) hfs) ?_
 rintro D σ H ⟨p,S,ρ,s,ev,h⟩
 unfold nR at h;split at h
 .rename_i k m q1 q2
  split at h
  .rename_i xss hS
   split at h
   .rename_i iP
    obtain⟨pl,hic⟩:=iP;split at h
    .rename_i yss hy
     obtain⟨x,ex,rx⟩:=ev.at_ ics _ q1;obtain⟨a,ea,rfl⟩:=rx;obtain⟨ll,fl⟩:=Of hy;have hk:k<S.length:=(ck.mp hS).1;obtain⟨bs0,b1,b2,b3,b4,b5,b6⟩:=s.obj k a _ ea hS;have plx:∀zss,vZ k (S.set k (.lol zss)):=λzss j o e n=>by
      rw[ft (je n)]at e;exact pl j o e n
     refine⟨.ref a,ex,a,rfl,.inl ⟨⟨_,bT.of b1⟩,λi n σ1 H1=>n=xss.length-i/\i<=xss.length/\∃p1,bP p H p1 H1/\aX X.K p1 (S.set k (.lol (yss.take i++xss.drop i))) H1/\dR X.K p1 H1 (ρ.set ic none) σ1,⟨_,rfl,iz _,p,s.step,?_,?_⟩,?_⟩⟩
     .have e0:S.set k (.lol xss)=S:=by
       obtain⟨g1,g2⟩:=ck.mp hS;rw[<-g2];exact i8 g1
      simpa[e0]using s
     .have:=ev.forget ic ((σ[ic]?).join)
      have e0:σ.set ic (σ[ic]?).join=σ:=by
       by_cases hi:ic<σ.length
       .rw[av hi]
        exact i8 hi
       .exact List.set_eq_of_length_le (by omega)
      rwa[e0]at this
     .rintro i n σ1 H1 ⟨rfl,hi,p1,st1,sm1,ev1⟩
      have e1:=st1.at_ ea;have hS1:(S.set k (.lol (yss.take i++xss.drop i)))[k]?=some (.lol (yss.take i++xss.drop i)):=fe hk;obtain⟨bs,c1,c2,c3,c4,c5,c6⟩:=sm1.obj k a _ e1 hS1;have lz:(yss.take i++xss.drop i).length=xss.length:=by
       rw[bn,jz,vh];omega
      by_cases hlt:i<xss.length
      .have hib:i<bs.length:=by omega
       obtain⟨ys,ey,fy⟩:=fl i _ (av hlt);have ez:(yss.take i++xss.drop i)[i]?=some xss[i]:=by
        rw[dy (by rw[jz];omega),jz,i7 (by omega),jb,List.getElem?_drop,Nat.add_zero];exact av hlt
       obtain⟨vs,g1,g2,g3⟩:=c6 i _ _ ez (av hib);unfold uZ at fy;split at fy
       .rename_i jj hj
        split at fy
        .rename_i v hv
         cases fy;obtain⟨u,eu,ru⟩:=g3.get hv;have:u=.int v:=by unfold aU at ru;exact ru
         subst this;obtain⟨xm,exm,rxm⟩:=ev1.at_ im (.pv (.int m)) (by rw[ft (je ne2)];exact q2);have:xm=.int m:=by
          have rxm:aU X.K p1.c H1 (.int m) xm:=rxm;unfold aU at rxm;exact rxm
         subst this;refine .inr ⟨⟨_,.ref bs[i],bT.of c1,by rw[di,av hib];rfl⟩,λσ' H'=>∃p2,bP p H p2 H'/\aX X.K p2 (S.set k (.lol (yss.take (i+1)++xss.drop (i+1)))) H'/\dR X.K p2 H' (ρ.set ic none) σ',λσ' H' hn=>⟨xss.length-(i+1),by omega,rfl,hlt,hn⟩,λx H2 hy=>?_⟩;obtain⟨rfl,hy⟩:=hy;have ey2:=hy _ (bT.of c1);rw[di,av hib]at ey2;cases ey2;have hic1:ic<σ1.length:=by
          rw[<-ev1.len,fh];exact hic
         have sc:(σ1.set ic (some (V.ref bs[i])))[ic]?=some (some (.ref bs[i])):=fe hic1;have sm':(σ1.set ic (some (V.ref bs[i])))[im]?=some (some (.int m)):=by rw[ft (je ne2)];exact exm
         have hj':aW vs.length m=some jj:=by rw[<-g3.length];exact hj
         have ha1:aV vs m=some (.int v):=by unfold aV;rw[hj'];exact eu
         obtain⟨st2,sm2⟩:=sm1.inner (ys:=xss[i].set jj (.int (1-v))) (ws:=vs.set jj (.int (1-v))) e1 hS1 (plx _) c1 (av hib) (by rw[fh];exact g2) (aQ.set (gX (v:=.int (1-v)) rfl) jj g3);rw[Cg,Sw ll ey]at sm2;have ev2:=(st2.repE ev1).forget ic (some (V.ref bs[i]));rw[Cg]at ev2;exact⟨_,sc,_,sm',.inl ⟨_,_,_,_,rfl,rfl,bT.of g1,ha1,1,v,rfl,rfl,_,sc,_,sm',_,_,_,_,rfl,rfl,g1,hj',p1,st1.trans st2,sm2,ev2⟩⟩
        .cases fy
       .cases fy
      .have e:i=xss.length:=by omega
       subst e;refine .inl ⟨⟨_,bT.of c1,by rw[ak];omega⟩,?_⟩;rw[wq,jl,ll,ww]at sm1;exact h p1 H1 σ1 st1 sm1 ev1
    .exact h.elim
   .exact h.elim
  .exact h.elim
 .exact h.elim
open Classical in
def uM(n:Nat):cF->bO AV
 |.rt (.ref k) S=>match S[k]? with
  |some (.lol xss)=>if ¬k<n/\Pl (S.take n)then .ok (.pv (.lst (xss.map .lst))) (S.take n)else .fail
  |_=>.fail
 |_=>.fail
open Classical in
def oA(np n:Nat)(b:MS)(xs:AK)(S:aG):bO AV:=if xs.length=np/\Pl S then uM S.length (b (gO n xs) S)else .fail
def Ph.only(p:Ph):Ph:=⟨p.f,λa=>a∈p.f,p.c⟩
theorem aX.only(s:aX K p S H)(pl:Pl S):aX K p.only S H:=
 ⟨s.nd,s.len,λ_ h=>h,λa h=>s.wc a (s.sub a h),s.mu,λk a o e1 e2=>by
  obtain⟨xs,rfl⟩:=pl k o e2;exact s.obj k a _ e1 e2⟩
theorem Tq{as:AK}{vs:List V}(h:fX K p H as vs):fX K p.only H as vs:=by
 induction h with
 |nil=>exact .nil
 |cons h _ ih=>
  refine .cons ?_ ih;rename_i v x _ _ _;cases v with
  |pv v=>exact h
  |ref k=>exact h
theorem Mq{r:cF}{Q:VK}{E:XK}(s:aX K p S H)(pl:Pl S)(h:cE K cl (cU K) p H (uM S.length r) Q E):eG K cl p.only H r {nx:=λ_ H'=>Q .non H',rt:=Q} E:=by
 cases r with
 |rt v S1=>
  cases v with
  |pv v=>exact h.elim
  |ref k=>
   unfold uM at h;dsimp only at h;split at h
   .rename_i xss hS
    split at h
    .rename_i hc
     obtain⟨hk,plt⟩:=hc
     rintro q H' x st sm ⟨a,e,rfl⟩
     have s1:=s.only pl;obtain⟨na,hn,nc⟩:=xP s1 st sm e hk;obtain⟨bs,g1,g2,g3,g4,g5,g6⟩:=sm.obj k a _ e hS;have fresh:∀b∈bs,H b=none:=λb hb=>st.nw b (g4 b hb).1 λm=>(g4 b hb).2 (st.pre.subset m);obtain⟨st1,sm1⟩:=s1.cutX (λb=>b=a\/b∈bs) st sm (λb d=>d.elim (λz=>z▸hn) (fresh b)) (.inr λj o e hj=>plt j o (by rw[sw,if_pos hj];exact e));refine h ⟨p.f,λb=>(q.w b/\¬(b=a\/b∈bs))\/p.w b,λb=>q.c b/\¬(b=a\/b∈bs)⟩ H' (.ref a) ⟨s.wc,s.mu,kb,λb h=>.inr h,st1.mono,λ_ h g=>absurd h g,λb h n=>?_,st1.nc,λb o e n=>st1.keep b o e λz=>n (s.sub b z)⟩
      ⟨s.nd,sm1.len,λb h=>.inr (s.sub b h),λb h=>h.elim (sm1.wc b) λz=>st1.mono b (s.wc b z),sm1.mu,λj b o e1 e2=>(sm1.obj j b o e1 e2).mono (λ_ e=>e) (λc w f=>⟨⟨.inl w,f⟩,λ_ e=>e⟩) λ_ _ r=>r⟩ ?_
     .rcases h with h |h
      .exact st1.nw b h λz=>n (s.sub b z)
      .exact absurd h n
     .show aU K (λb=>q.c b/\¬(b=a\/b∈bs)) H' (.lst (xss.map .lst)) (.ref a)
      unfold aU;refine⟨a,bs.map V.ref,rfl,.inl ⟨g1,λd=>d.2 (.inl rfl)⟩,by rw[ak];exact g2,?_⟩;have go:∀(yss:List AH)(cs:List Addr),yss.length=cs.length->(∀c∈cs,c∈bs)->(∀(i:Nat)(xs:AH)(b:Addr),yss[i]?=some xs->cs[i]?=some b->∃vs,H' b=some (.lst vs)/\vs.length<=sizeLine/\aQ K q.c H' xs vs)->aQ K (λb=>q.c b/\¬(b=a\/b∈bs)) H' (yss.map .lst) (cs.map V.ref):=by
       intro yss
       induction yss with
       |nil=>
        intro cs l _ _;have:cs=[]:=ow.mp l.symm;subst this;exact .nil
       |cons ys r ih=>
        intro cs l hm hh;cases cs with
        |nil=>cases l
        |cons c t=>
         obtain⟨vs,k1,k2,k3⟩:=hh 0 ys c rfl rfl;refine .cons ?_ (ih t (by simpa using l) (λc h=>hm c (bh _ h)) λi xs b e1 e2=>hh (i+1) xs b (by simpa using e1) (by simpa using e2));unfold aU;exact⟨c,vs,rfl,.inl ⟨k1,λd=>d.2 (.inr (hm c cf))⟩,k2,qN (λb h=>h.1) k3⟩
      exact go xss bs g5 (λ_ h=>h) g6
    .exact h.elim
   .exact h.elim
 |nx ρ S1=>exact h.elim
 |exc n S1=>exact h.elim
 |bk ρ S1=>exact h.elim
 |ct ρ S1=>exact h.elim
 |fail=>exact h.elim
end
section
variable{P:Program}{w:aj}{K:ae}{mg:Str->AE}{base:Heap}{cl:Str->Addr}
theorem Vy{np n:Nat}{b:MS}{vs:List V}{H:Hp}{Q:VK}{E:XK}(h:jW K cl (oA np n b) vs H Q E):vs.length=np:=by
 obtain⟨p,S,xs,sm,ra,h⟩:=h;unfold oA at h;split at h
 .rename_i e
  rw[<-Hf ra,e.1]
 .exact h.elim
theorem okL{x qual:Str}{st:Stmt}{f:Addr}{fd:bj}{N ps:List Str}{k np n:Nat}{b:MS}(F:iG K x qual st f fd)(S:gZ N ps (cC st))(hnp:ps.length=np)(hn:N.length=n)
  (hb:∀(cdv:Value)(A:al)(outer:List ay)(s:aa)(H:Hp)(E:XK),dI k (A.deeper (envOfC qual (cC st) s.heap.objs.size f cdv))->fT K cl E0 (cM fB P w K mg base N qual (cC st) f cdv A outer s H E).nox (eC st) b):
  eA P w K mg base fB (k+1) f fd ps (kE K cl (oA np n b)):=by
 subst hnp hn;refine F.ok S (λvs H Q E h=>Vy h) λcdv A outer s H vs Q E hr h=>⟨_,hb cdv A outer s H E hr rfl,?_⟩;obtain⟨p,S,xs,sm,ra,h⟩:=h;unfold oA at h;split at h
 .rename_i e
  exact⟨p.only,S,_,sm.only e.2,sU (Tq ra),Mq sm e.2 h⟩
 .exact h.elim
end
end
def Ob(P:Program)(w:aj)(K:ae)(mg:Str->AE)(base:Heap)(cl:Str->Addr)(x:Str)(k:Nat)(ps:List Str)(g:FM):Prop:=∃(a:Addr)(d:bj),eA P w K mg base fB k a d ps (kE K cl g)/\iM K d ps []/\fg K (.ref a)=true/\mg x=some (.ref a)
section
variable{cl:Str->Addr}{E:XK}{X:Cx}{e:ag}{es:List ag}{ms:MA}{pos p:ai}{k k0:Nat}{ps:List Str}{g:FM}{x:Str}
theorem S5(C:Ob X.prog X.w X.K X.mg X.base cl x k ps g)(hr:dI k0 X.A)(hk:k<=k0)(hg:Gl X x)(ha:eU X.K cl E X (e::es) ms)(hdb:(x==("__debug__":Str))=false:=by decide)(he:starEach (e::es) X.env=(false,eval e X.env)::starEach es X.env:=by rfl)(hpl:(backTo pos (starEach es X.env)).any (·.1)=false:=by rfl):
  aY X.K cl E X (.Call (.Name x p) (e::es) [] pos) (aP g [] ms):=by
 obtain⟨a,d,G,b,kk,n⟩:=C;exact Wv G (hr.mono hk) hg n kk b .nil Dv.nil ha hdb he hpl
theorem U4(C:Ob X.prog X.w X.K X.mg X.base cl x k ps g)(hr:dI k0 X.A)(hk:k<=k0)(hg:Gl X x)(ha:eU X.K cl E X (e::es) ms)(hdb:(x==("__debug__":Str))=false:=by decide)(he:starEach (e::es) X.env=(false,eval e X.env)::starEach es X.env:=by rfl)(hpl:(backTo pos (starEach es X.env)).any (·.1)=false:=by rfl):
  aY X.K cl E X (.Call (.Name x p) (e::es) [] pos) (pP g [] ms):=by
 obtain⟨a,d,G,b,kk,n⟩:=C;exact Lw G (hr.mono hk) hg n kk b .nil Dv.nil ha hdb he hpl
end
theorem Fr(l:Addr)(its:Array Value)(n:Nat)(b:Addr)(jts:Array Value)(k:Nat)(dd:AF)(sl:Array AE)(h0:¬(!its.isEmpty&&rl (its.size+jts.size))=true)(h1:its.size<=sizeLine)(h2:its.size+jts.size<=sizeLine+1):
  Meets (Builtin.«list.__iadd__» ⟨[.ref l,.ref b],[]⟩) (λ_ R s=>s.heap.get? l=some ⟨.type "list",none,.seq its n,#[]⟩/\s.heap.get? b=some ⟨.type "list",dd,.seq jts k,sl⟩/\R (.ok (.ret (ik l))) {s with heap:=s.heap.update l (ie λx=>x++jts),toks:=s.toks}):=
 .of_wp λprog w A R s h=>by
  obtain⟨hp,g,d,tk,os⟩:=s;obtain⟨hl,hb,h⟩:=h;have f1:=PySem.AutoSeq1.idx_int;have f2:=PySem.AutoSeq1.sub_tuple_tuple;have f3:=PySem.AutoSeq1.sub_list_list;have f4:=PySem.AutoSeq1.sub_tuple_list;have f5:=PySem.AutoSeq1.sub_list_tuple;have hz':(its++jts).size<=sizeLine+1:=by
   rw[Array.size_append];exact h2
  wp_walk using(wpAny_updateSeq hl rfl (hz:=h1) (_hz':=hz')),wpAny_loadPart' hl,wpAny_loadPart' hb
  exact⟨_,rfl,h⟩
section
variable{X:Cx}
def U9(K:ae):sH:=λx y H Q=>∃l b xs zs,x=.ref l/\y=.ref b/\H l=some (.lst xs)/\bT K H b zs/\xs.length+zs.length<=sizeLine/\Q (.ref l) (bA H l (.lst (xs++zs)))
theorem K9:L2.PIp X .Add (U9 X.K):=by
 intro AM s σ H x y v u Q I rx ry h;obtain⟨l,b,xs,zs,rfl,rfl,hx,hy,hz,q⟩:=h;cases rx;cases ry;obtain⟨z,its,n,r1,hl,e⟩:=I.lstM hx;obtain⟨jts,r2,p2,_⟩:=I.list hy;obtain⟨⟨cls2,dd2,data2,sl2⟩,n2,ho2,hc2,_,hd2⟩:=p2;simp only at hc2 hd2;subst hc2 hd2;have l1:=r1.length;have l2:=r2.length;have hsz:its.toArray.size+jts.toArray.size<=sizeLine:=by rw[au,au];omega
 have hlong:¬(!its.toArray.isEmpty&&rl (its.toArray.size+jts.toArray.size))=true:=by
  rw[Lv hsz,Bool.and_false];exact lh
 have ta:s.TypeIs (.ref l) "list":=⟨_,e,rfl⟩;have tb:s.TypeIs (.ref b) "list":=⟨_,ho2,rfl⟩;have hf:=i9.lookup;have hq:isSeqSlot (some (.builtin "list.__iadd__"))=true:=by decide+kernel
 have hfi:fillsInplaceSlot (.type "list") "add" (Operator.Add== .Add)=pure false:=by
  unfold fillsInplaceSlot;show(typeLookup (.type "list") (dunderI "add") >>= λfi=>pure (fi.isSome&& !isSeqSlot fi))=pure false;rw[hf,pure_bind,hq];rfl
 have hsi:seqSlot? (.type "list") (dunderI "add")=pure (some (.builtin "list.__iadd__")):=PySem.seqSlot_of hf hq;unfold inplaceOp;refine lc ?_;refine ah (wpAny_typeOf ta (ah (wj hfi ?_)));show wpAny _ _ (if false=true then _ else _) _ _ s;rw[if_neg lh];refine ah (wpAny_binaryOp1_none (nm:="add") ta tb noFill_list_add ?_);refine ah (wj hsi ?_);refine ah (nu ?_);refine vo i9 ⟨_,e,rfl⟩ PySem.F.entry_list_iadd (PySem.F.args_list_iadd_2 _ _) (Fr l its.toArray n b jts.toArray n2 dd2 sl2 hlong (by rw[au];omega) (by omega)) ⟨e,ho2,?_⟩;refine⟨.ref l,_,I.lset (its':=its++jts) hx e (by simp) (r1.append r2) ?_,rfl,q⟩;rw[bn];omega
end
section
variable{K:ae}{cl:Str->Addr}{E:XK}{X:Cx}{e:ag}{m:ME}{pos:ai}
def vE(k:Nat)(ρ:bR)(v:AV)(S:aG):cF:=match v with
 |.pv (.lst ys)=>match S[k]? with
  |some (.lst xs)=>if xs.length+ys.length<=16777216 then .nx ρ (S.set k (.lst (xs++ys)))else .fail
  |_=>.fail
 |_=>.fail
def nQ(i:Nat)(m:ME):MS:=λρ S=>match ρ[i]? with
 |some (some (.ref k))=>cF.of (m ρ S) (vE k ρ)
 |_=>.fail
theorem Jv{i:Nat}{x:Str}{pos':ai}(hN:X.N.Nodup)(hi:X.N[i]?=some x)(hx:jU X.env.scope x)(he:aY K cl E X e m)
  (hf:X.fn x=true\/X.env.scope.names.lookup x=some .local:=by first |exact .inl rfl |exact .inr rfl |assumption):eO K cl E X (.AugAssign (.Name x pos') .Add e pos) (nQ i m):=by
 intro hK;subst hK;refine PS.imp (Dl hN hi hx (he rfl) K9 hf) ?_
 rintro D σ H ⟨p,S,ρ,s,ev,h⟩
 unfold nQ at h;split at h
 .rename_i k hx0
  obtain⟨v,e1,r1⟩:=ev.at_ i _ hx0;refine⟨v,e1,jJ s ev h λq H' a b S' stp sm ev' r z=>?_⟩;obtain⟨D0,ea,rfl⟩:=stp.repA r1;unfold vE at z;split at z
  .rename_i ys
   obtain⟨b0,ws,rfl,sq,lw,rw0⟩:=(show eM X.K q H' (.lst ys) b from .inl r).lst;split at z
   .rename_i xs hS
    split at z
    .rename_i hl
     obtain⟨vs,h3,l3,r4⟩:=sm.obj k D0 _ ea hS;have hz:=iS;have n1:=r4.length;have n2:=rw0.length;obtain⟨dX,sm3⟩:=sm.write ea (ck.mp hS).1 (ps:=xs++ys) (vs:=vs++ws) (by rw[bn];omega) (r4.append rw0);refine⟨D0,b0,vs,ws,rfl,rfl,h3,sq,by omega,?_⟩;have es:σ.set i (some (.ref D0))=σ:=by
      refine ox λj=>?_
      by_cases hj:i=j
      .subst hj
       rw[fe (ck.mp e1).1,e1]
      .rw[ft hj]
     show D.nx (σ.set i (some (.ref D0))) _;rw[es];exact eG.nxD (z.mono dX) sm3 (dX.repE ev')
    .exact z.elim
   .exact z.elim
  .exact z.elim
 .exact h.elim
end
section
variable{K:ae}{cl:Str->Addr}{E:XK}{X:Cx}
theorem yV:∀{is:AA}{its:AD},bC (is.map V.int) its->oj its is
 |[],_,.nil=>.nil
 |_::_,_,.cons r t=>by
  obtain⟨tk,rfl⟩:=r;exact .cons _ tk (yV t)
theorem Wr(hc:X.calm=true):iK X (.builtin "min") (λxs H Q=>∃(a:Addr)(is:AA),xs=[.ref a]/\bT X.K H a (is.map V.int)/\is≠[]/\∀M,M∈is->(∀b∈is,M<=b)->Q (.int M) H):=by
 intro AM s σ H xs us Q I r h;obtain⟨a,is,rfl,hq,hne,q⟩:=h;obtain⟨u,rfl,ru⟩:=kD r;cases ru;obtain⟨its,rv,pl,hz⟩:=I.list hq;have hi:=yV rv;have hl:=pl.isList;obtain⟨xs,e⟩:=hi.allInts.items;have hns:is=xs.toList.map (·.1):=by rw[<-hi.numsOf,<-nums_intItems,<-e]
 have hsz:0<xs.size:=by
  have h3:0<is.length:=xj.mpr hne;rw[hns,ak,jp]at h3;exact h3
 rw[e]at hl;refine min_intList (I.ok.hd hc) hl hsz λv h' tk hv hk=>?_;obtain⟨t,rfl⟩:=intItems_at hv;obtain⟨h1,h2⟩:=argBest_lt (numAt xs) (xs.size-1);refine⟨.int _,H,I.kept (h':=h') (t':=tk) hk,⟨t,rfl⟩,q _ ?_ λa ha=>?_⟩
 .rw[hns,tf]
  exact getD_mem (by rw[ak,jp];omega)
 .rw[hns]at ha
  obtain⟨j,hj,rfl⟩:=mem_getD ha;rw[ak,jp]at hj;rw[<-tf];exact h2 j (by omega)
def mK:AH->AI
 |[.lst xs]=>(gR xs).bind λbs=>bs.min?.map .int
 |_=>none
theorem X6:jR K (λxs H Q=>∃(a:Addr)(is:AA),xs=[.ref a]/\bT K H a (is.map V.int)/\is≠[]/\∀M,M∈is->(∀b∈is,M<=b)->Q (.int M) H) mK:=λ{p S H as c xs Q} s ra e k=>by
 unfold mK at e;split at e
 .rename_i zs
  cases y:gR zs with
  |none=>rw[y]at e;cases e
  |some bs=>
   rw[y]at e;cases ra with
   |cons h t=>
    cases t;obtain⟨a,vs,rfl,l,z,r⟩:=h.lst;rw[qR y r]at l;have e:bs.min?.map PV.int=some c:=e;cases y2:bs.min? with
    |none=>rw[y2]at e;cases e
    |some m=>
     rw[y2]at e;cases e;refine⟨a,bs,rfl,l,λz=>?_,λM hM hle=>?_⟩
     .rw[z]at y2
      cases y2
     .have e2:bs.min?=some M:=j0.mpr ⟨hM,hle⟩
      rw[y2]at e2;cases e2;exact k H _ (dH.refl H) (gX (v:=.int _) rfl)
 .cases e
variable{a e:ag}{m:ME}{ms:MA}{pos:ai}
end
section
variable{K:ae}{cl:Str->Addr}{E:XK}{X:Cx}
def Xl(K:ae):R2:=λx y H Q=>∃a b ys,x=.ref a/\y=.ref b/\dA K H a []/\dA K H b ys/\Q (.ref b) H
theorem Ku:eB X (binaryOp .Add) (Xl X.K):=by
 intro AM s σ H x y v u Q I rx ry h;obtain⟨a,b,ys,rfl,rfl,ha,hb,q⟩:=h;cases rx;cases ry;obtain⟨its,r1,p1,_⟩:=I.tuple ha;obtain⟨jts,r2,p2,_⟩:=I.tuple hb;cases r1;obtain⟨⟨cls,dd,data,sl⟩,ho,hc,n,hd⟩:=p1;obtain⟨⟨cls2,dd2,data2,sl2⟩,ho2,hc2,n2,hd2⟩:=p2;simp only at hc hd hc2 hd2;subst hc hd hc2 hd2;exact re ⟨_,ho,rfl⟩ ⟨_,ho2,rfl⟩ va vb vd ve (vf _ _)
  (tuple_addW0 a b _ jts.toArray n n2 dd dd2 sl sl2 (by simp)) ⟨ho,ho2,⟨.ref b,H,I,rfl,q⟩⟩
def iN:PV->PV->AI
 |.tup xs,.tup ys=>if xs.length+ys.length<=16777216 then some (.tup (xs++ys))else none
 |_,_=>none
def Tm(K:ae):R2:=λx y H Q=>Xl K x y H Q\/Ga K x y H Q
theorem Az:eB X (binaryOp .Add) (Tm X.K):=eB.or Ku Ej
theorem eM.tupR{p:Ph}{H:Hp}{xs:AH}{x:V}(h:eM K p H (.tup xs) x):aU K p.c H (.tup xs) x:=by
 rcases h with h |⟨ys,a,vs,e,_⟩
 .exact h
 .cases e
theorem E8:gB K (Tm K) iN:=λ{p S H a b c x y Q} s ra rb e k=>by
 cases a with
 |tup xs=>
  cases b with
  |tup ys=>
   have e:(if xs.length+ys.length<=16777216 then some (PV.tup (xs++ys))else none)=some c:=e;split at e
   .rename_i hl
    cases e;have ra':=ra.tupR;have rb':=rb.tupR;obtain⟨a1,vs,rfl,l1,z1,r1⟩:=ra.tup;obtain⟨a2,ws,rfl,l2,z2,r2⟩:=rb.tup;have hz:vs.length+ws.length<=sizeLine:=by rw[<-r1.length,<-r2.length,iS];exact hl
    cases xs with
    |nil=>
     have hv:vs=[]:=j1 (by rw[<-r1.length];rfl);subst hv;exact .inl ⟨a1,a2,ws,rfl,rfl,l1,l2,k H _ (dH.refl H) rb'⟩
    |cons x0 xs=>
     refine .inr ⟨a1,a2,vs,ws,rfl,rfl,l1,l2,λq=>?_,hz,λq=>?_,λ_ t ht=>k _ _ (gM ht) (nE s (r1.append r2) (by rw[bn];exact hz) ht)⟩
     .have:=r1.length
      rw[q]at this;cases this
     .have hy:ys=[]:=by
       have:=r2.length;rw[q]at this;exact j1 this
      subst hy;have e0:x0::xs++[]=x0::xs:=jl _;refine k H _ (dH.refl H) ?_;rw[e0];exact ra'
   .cases e
  |_=>cases e
 |_=>cases e
end
section
variable{K:ae}{cl:Str->Addr}{E:XK}{X:Cx}
end
section
variable{K:ae}{cl:Str->Addr}{E:XK}{X:Cx}
theorem Zr(hc:X.calm=true):iK X (.builtin "max") (λxs H Q=>∃(a:Addr)(is:AA),xs=[.ref a]/\bT X.K H a (is.map V.int)/\is≠[]/\∀M,M∈is->(∀b∈is,b<=M)->Q (.int M) H):=by
 intro AM s σ H xs us Q I r h;obtain⟨a,is,rfl,hq,hne,q⟩:=h;obtain⟨u,rfl,ru⟩:=kD r;cases ru;obtain⟨its,rv,pl,hz⟩:=I.list hq;have hi:=yV rv;have hl:=pl.isList;obtain⟨xs,e⟩:=hi.allInts.items;have hns:is=xs.toList.map (·.1):=by rw[<-hi.numsOf,<-nums_intItems,<-e]
 have hsz:0<xs.size:=by
  have h3:0<is.length:=xj.mpr hne;rw[hns,ak,jp]at h3;exact h3
 rw[e]at hl;refine max_intList (I.ok.hd hc) hl hsz λv h' tk hv hk=>?_;obtain⟨t,rfl⟩:=intItems_at hv;obtain⟨h1,h2⟩:=argBest_gt (numAt xs) (xs.size-1);refine⟨.int _,H,I.kept (h':=h') (t':=tk) hk,⟨t,rfl⟩,q _ ?_ λa ha=>?_⟩
 .rw[hns,tf]
  exact getD_mem (by rw[ak,jp];omega)
 .rw[hns]at ha
  obtain⟨j,hj,rfl⟩:=mem_getD ha;rw[ak,jp]at hj;rw[<-tf];exact h2 j (by omega)
def pY:AH->AI
 |[.lst xs]=>(gR xs).bind λbs=>bs.max?.map .int
 |_=>none
theorem aag:jR K (λxs H Q=>∃(a:Addr)(is:AA),xs=[.ref a]/\bT K H a (is.map V.int)/\is≠[]/\∀M,M∈is->(∀b∈is,b<=M)->Q (.int M) H) pY:=λ{p S H as c xs Q} s ra e k=>by
 unfold pY at e;split at e
 .rename_i zs
  cases y:gR zs with
  |none=>rw[y]at e;cases e
  |some bs=>
   rw[y]at e;cases ra with
   |cons h t=>
    cases t;obtain⟨a,vs,rfl,l,z,r⟩:=h.lst;rw[qR y r]at l;have e:bs.max?.map PV.int=some c:=e;cases y2:bs.max? with
    |none=>rw[y2]at e;cases e
    |some m=>
     rw[y2]at e;cases e;refine⟨a,bs,rfl,l,λz=>?_,λM hM hle=>?_⟩
     .rw[z]at y2
      cases y2
     .have e2:bs.max?=some M:=j2.mpr ⟨hM,hle⟩
      rw[y2]at e2;cases e2;exact k H _ (dH.refl H) (gX (v:=.int _) rfl)
 .cases e
end
section
variable{K:ae}{cl:Str->Addr}{E:XK}{X:Cx}
variable{a e:ag}{m:ME}{ms:MA}{pos:ai}
end
section
variable{M:kz}{A:al}{E:Value->aa->Prop}{s:aa}{env:ay}
end
section
variable{prog:Program}{w:aj}{A:al}{R:qg->aa->Prop}{s:aa}
end
end L2.Pp
namespace L2
open PySem PySem.Spec PyProof.Rows Bn
section
variable{X:Cx}{AM:List (Addr×Obj)}{σ:St}{H H':Hp}{s s':aa}
end
open L2.Pp
section
variable{P:Program}{w:aj}{K:ae}{mg:Str->AE}{base:Heap}{N:List Str}{qual:Str}{scope:Scope}{f:Addr}{cd:Value}{A:al}{outer:List ay}{AN:aa}{AO:Hp}{E:XK}
end
section
variable{P:Program}{w:aj}{K:ae}{mg:Str->AE}{base:Heap}{N:List Str}{qual:Str}{scope:Scope}{f:Addr}{cd:Value}{A:al}{outer:List ay}{AN:aa}{AO:Hp}{E:XK}
variable{sc:Scope}{own:List Str}{cap:List (Nat×Str)}{AM:List (Addr×Obj)}{σ:St}{H:Hp}{s:aa}{elt target iter:ag}{pos pos':ai}{wi:TI}{g:TG}{te:TE}{Q:VK}
end
end L2
namespace L2.Pp
open PySem PySem.Spec PyProof.Rows Bn
section
variable{K:ae}{cl:Str->Addr}{E:XK}{X:Cx}{p q:Ph}{H H':Hp}{S:aG}
variable{sc:Scope}{own:List Str}{cap:List (Nat×Str)}{elt target iter:ag}{pos:ai}{mi:MI}{g:GM}{me:ME}
end
section
variable{P:Program}{w:aj}{K:ae}{mg:Str->AE}{base:Heap}{N:List Str}{qual:Str}{scope:Scope}{f:Addr}{cd:Value}{A:al}{outer:List ay}{AN:aa}{AO:Hp}{E:XK}{cl:Str->Addr}
variable{sc:Scope}{own:List Str}{cap:List (Nat×Str)}{elt target iter:ag}{pos:ai}{mi:MI}{g:GM}{me:ME}{wi:TI}{tg:TG}{te:TE}
end
section
variable{K:ae}{cl:Str->Addr}{E:XK}{X:Cx}{e:ag}{es:List ag}{ms:MA}{pos p:ai}{k n:Nat}{f:Addr}{fd:bj}{ps:List Str}{g:FM}{x:Str}{dvs:List V}{ds:AD}{dv:AH}
end
section
variable{K:ae}{cl:Str->Addr}{E:XK}{X:Cx}
end
section
variable{K:ae}{cl:Str->Addr}{E:XK}{X:Cx}{a b e:ag}{m:ME}{ms:MA}{pos:ai}
end
end L2.Pp
namespace L2
open PySem PySem.Spec PyProof.Rows Bn
section
variable{X:Cx}{k:Nat}{f:Addr}{fd:bj}{ps:List Str}{sp:Sp}{dvs:List V}{ds:AD}{x:Str}{p pos pos1 pos2 pos3 pc:ai}{e a:ag}{es:List ag}{t:TA}{ta:TE}{te:XK->TE}{c n:Str}{C:Addr}{i:Nat}{AS:Stmt}{body:List Stmt}{newId:String}
end
end L2
namespace L2.Pp
open PySem PySem.Spec PyProof.Rows Bn
section
variable{K:ae}{cl:Str->Addr}{E:XK}{X:Cx}{a b c e:ag}{m mc:ME}{ms:MA}{pos:ai}{tg:ag}{ma mb:ME}
end
section
variable{K:ae}{cl:Str->Addr}{E:XK}{X:Cx}{e a:ag}{es:List ag}{ms:MA}{ma me:ME}{p q:Ph}{H H':Hp}{S:aG}
variable{k:Nat}{f:Addr}{fd:bj}{ps:List Str}{g:FM}{dvs:List V}{ds:AD}{dv:AH}{x:Str}{pp pos pos1 pos2 pos3 pc:ai}{c n:Str}{i nn:Nat}{AS:Stmt}{body:List Stmt}{newId:String}{up:bR->bR}
variable(K cl X)
variable{K cl X}
end
section
variable{K:ae}{cl:Str->Addr}{E:XK}{X:Cx}{a b:ag}{ma mb:ME}{pos:ai}
end
end L2.Pp
namespace L2
open PySem PySem.Spec PyProof.Rows Bn
section
variable{X:Cx}{k:Nat}{p pos pos1 pos2 pos3 pc:ai}{e:ag}{te:XK->TE}{c:Str}{C:Addr}{AS:Stmt}{body:List Stmt}{newId:String}
end
end L2
namespace L2.Pp
open PySem PySem.Spec PyProof.Rows Bn
section
variable{K:ae}{cl:Str->Addr}{E:XK}{X:Cx}{a b e:ag}{m me:ME}{ms:MA}{pos pos1 pos2 pos3 pc:ai}{c:Str}{nn:Nat}{AS:Stmt}{body:List Stmt}{newId:String}{up:bR->bR}
end
section
variable{M:kz}{A:al}{E:Value->aa->Prop}{s:aa}{env:ay}
end
end L2.Pp
namespace L2
open PySem PySem.Spec PyProof.Rows Bn L2.Pp
section
variable{P:Program}{w:aj}{K:ae}{mg:Str->AE}{base:Heap}{N:List Str}{qual:Str}{scope:Scope}{f:Addr}{cd:Value}{A:al}{outer:List ay}{AN:aa}{AO:Hp}{E:XK}
variable{sc:Scope}{own:List Str}{cap:List (Nat×Str)}{AM:List (Addr×Obj)}{σ:St}{H:Hp}{s:aa}{elt target iter:ag}{pos pos':ai}{wi:TI}{g:TG}{te:TE}{Q:VK}
end
end L2
namespace L2.Pp
open PySem PySem.Spec PyProof.Rows Bn
section
variable{P:Program}{w:aj}{K:ae}{mg:Str->AE}{base:Heap}{N:List Str}{qual:Str}{scope:Scope}{f:Addr}{cd:Value}{A:al}{outer:List ay}{AN:aa}{AO:Hp}{E:XK}{cl:Str->Addr}
variable{sc:Scope}{own:List Str}{cap:List (Nat×Str)}{elt target iter:ag}{pos:ai}{mi:MI}{g:GM}{me:ME}
end
section
variable{K:ae}
end
section
variable{K:ae}{X:Cx}
end
end L2.Pp
namespace L2
open PySem PySem.Spec PyProof.Rows Bn
section
variable{prog:Program}{w:aj}{A:al}{R:qg->aa->Prop}{s:aa}
end
section
variable{X:Cx}{sc:Scope}{own:List Str}{cap:List (Nat×Str)}{AM:List (Addr×Obj)}{σ:St}{H:Hp}{s:aa}{elt target iter cnd:ag}{pos pos':ai}{wi:TI}{g:TG}{tc:TT}{te:TE}{Q:VK}
end
end L2
namespace L2.Pp
open PySem PySem.Spec PyProof.Rows Bn
theorem n1{n i:Nat}{P:Prop}(h:i<n)(p:P):∃m',m'<n-i/\(m'=n-(i+1)/\i+1<=n/\P):=⟨n-(i+1),by omega,rfl,h,p⟩
section
variable{K:ae}{cl:Str->Addr}{E:XK}{X:Cx}{p q:Ph}{H H':Hp}{S:aG}{sc:Scope}{own:List Str}{cap:List (Nat×Str)}{elt target iter cnd:ag}{pos:ai}{mi:MI}{g:GM}{mc:MT}{me:ME}
end
end L2.Pp
namespace L2
open PySem PySem.Spec PyProof.Rows Bn
open L2.Pp
section
variable{X:Cx}{AM:List (Addr×Obj)}{σ:St}{H:Hp}{s:aa}{c:Addr->Prop}{a b:Addr}{n:Bool}{k:qA n}{ks:AH}{us:AD}
theorem yQ:∀{ps:AH}{vs:List V}{i:Nat}{v:V},aQ X.K c H ps vs->vs[i]?=some v->∃p,ps[i]?=some p/\aU X.K c H p v:=λ{ps vs i v} r e=>by
 have hi:i<ps.length:=by
  rw[r.length];exact(ck.mp e).1
 obtain⟨u,e1,e2⟩:=r.get (av hi);rw[e]at e1;cases e1;exact⟨_,av hi,e2⟩
end
end L2
namespace L2.Pp
open PySem PySem.Spec PyProof.Rows Bn
section
variable{K:ae}{cl:Str->Addr}{E:XK}{X:Cx}{p q:Ph}{H H':Hp}{S:aG}{a b e o i v:ag}{es:List ag}{m md mk mv:ME}{ms:MA}{pos:ai}
end
end L2.Pp
namespace L2
open PySem PySem.Spec PyProof.Rows Bn L2.Pp
section
variable{prog:Program}{w:aj}{A:al}{E:Value->aa->Prop}{s:aa}{it d i ep:Nat}{es:Array DictEntry}
end
section
variable{X:Cx}
end
section
variable{prog:Program}{w:aj}{A:al}{E:Value->aa->Prop}{s:aa}{v d ep:Nat}{es:Array DictEntry}
end
section
variable{X:Cx}
end
end L2
namespace L2.Pp
open PySem PySem.Spec PyProof.Rows Bn
section
variable{K:ae}{cl:Str->Addr}{E:XK}{X:Cx}{p q:Ph}{H H':Hp}{S:aG}{a b e o i v:ag}{es:List ag}{m md mk mv:ME}{ms:MA}{pos:ai}
end
end L2.Pp
namespace L2
open PySem PySem.Spec PyProof.Rows Bn
section
variable{X:Cx}
end
section
variable{X:Cx}{sc:Scope}{own:List Str}{cap:List (Nat×Str)}{AM:List (Addr×Obj)}{σ:St}{H:Hp}{s:aa}{elt target iter:ag}{pos pos':ai}{wi:TI}{g:TG}{te:TE}{Q:VK}
end
end L2
namespace L2.Pp
open PySem PySem.Spec PyProof.Rows Bn
section
variable{K:ae}{cl:Str->Addr}{E:XK}{X:Cx}{p q:Ph}{H H':Hp}{S:aG}{a b e o i v:ag}{es:List ag}{m ma mb md mk mv:ME}{ms:MA}{pos:ai}
variable{sc:Scope}{own:List Str}{cap:List (Nat×Str)}{elt target iter:ag}{mi:MI}{g:GM}{me:ME}
end
section
variable{K:ae}{cl:Str->Addr}{E:XK}{X:Cx}{a b:ag}{ma mb:ME}{pos:ai}
end
section
variable{P:Program}{w:aj}{K:ae}{mg:Str->AE}{base:Heap}{cl:Str->Addr}{x qual:Str}{st:Stmt}{f:Addr}{fd:bj}{N ps:List Str}{k np n:Nat}{b:MS}
variable{so sc sc1:Scope}{own own1:List Str}{cap cap1:List (Nat×Str)}{cd:Value}{A:al}{outer:List ay}{s:aa}{H:Hp}{E:XK}{C:Addr}{AN:aa}{AO:Hp}{ex:List Addr}
theorem Ym(a:sc.kind=.function:=by rfl)(b:∀y∈sc.names,y.2=.local->sc.names.lookup y.1=some .local:=by decide+kernel)(c:∀y∈sc.names,y.2≠.cell:=by decide+kernel)(d:∀y∈sc.names,y.2=.free->so.names.lookup y.1=some .cell:=by decide+kernel)(e:∀p∈cap,N[p.1]?=some p.2:=by decide+kernel)(g:∀p∈cap,sc.names.lookup p.2=some .free:=by decide+kernel):iB (cM fB P w K mg base N qual so f cd A outer s H E).nox sc own cap:=Wl so N rfl rfl a b c d e g
theorem L9(a:sc.kind=.function:=by rfl)(b:∀y∈sc.names,y.2=.local->sc.names.lookup y.1=some .local:=by decide+kernel)(c:∀y∈sc.names,y.2=.cell->sc.names.lookup y.1=some .cell:=by decide+kernel)(d:∀y∈sc.names,y.2=.free->so.names.lookup y.1=some .cell:=by decide+kernel)(e:∀p∈cap,N[p.1]?=some p.2:=by decide+kernel)(g:∀p∈cap,sc.names.lookup p.2=some .free:=by decide+kernel):lW (cM fB P w K mg base N qual so f cd A outer s H E).nox sc own cap:=D4 so N rfl rfl a b c d e g
theorem Dk(a:sc.kind=.function:=by rfl)(b:∀y∈sc.names,y.2=.local->sc.names.lookup y.1=some .local:=by decide+kernel)(c:∀y∈sc.names,y.2≠.cell:=by decide+kernel)(d:∀y∈sc.names,y.2=.free->sc1.names.lookup y.1=some .free/\so.names.lookup y.1=some .cell:=by decide+kernel)(e:∀p∈cap,(cS own1 cap1)[p.1]?=some p.2:=by decide+kernel)(g:∀p∈cap,sc.names.lookup p.2=some .free:=by decide+kernel)(hk:so.kind=.function:=by rfl):iB (gD (cM fB P w K mg base N qual so f cd A outer s H E).nox sc1 (cS own1 cap1) C AN AO ex) sc own cap:=Hz so rfl hk a b c d e g
theorem Rk(a:sc.kind=.function:=by rfl)(b:∀y∈sc.names,y.2=.local->sc.names.lookup y.1=some .local:=by decide+kernel)(c:∀y∈sc.names,y.2≠.cell:=by decide+kernel)(d:∀y∈sc.names,y.2=.free->sc1.names.lookup y.1=some .cell\/(sc1.names.lookup y.1=some .free/\so.names.lookup y.1=some .cell):=by decide+kernel)(e:∀p∈cap,(cS own1 cap1)[p.1]?=some p.2:=by decide+kernel)(g:∀p∈cap,sc.names.lookup p.2=some .free:=by decide+kernel)(hk:so.kind=.function:=by rfl):iB (hJ (cM fB P w K mg base N qual so f cd A outer s H E).nox sc1 (cS own1 cap1) C AN AO ex) sc own cap:=B7 so rfl hk a b c d e g
theorem cH{N ps:List Str}{sc:Scope}(a:sc.kind=.function:=by rfl)(b:sc.isCoroutine=false:=by rfl)(c:sc.isGenerator=false:=by rfl)(d:N.Nodup:=by decide+kernel)(e:N.take ps.length=ps:=by rfl)(f:∀x∈ps,sc.names.lookup x=some .local\/sc.names.lookup x=some .cell:=by decide+kernel)(g:∀y∈sc.names,y.2≠.free:=by decide+kernel):gZ N ps sc:=⟨a,b,c,d,e,f,g⟩
def vP(P:Program)(w:aj)(K:ae)(mg:Str->AE)(base:Heap)(cl:Str->Addr)(x:Str)(k:Nat)(ps:List Str)(g:FM):Prop:=∃(a:Addr)(d:bj),eA P w K mg base (dG P w) k a d ps (jW K cl g)/\eA P w K mg base fB k a d ps (kE K cl g)/\iM K d ps []/\fg K (.ref a)=true/\mg x=some (.ref a)
theorem Cb{g:FM}{a:Addr}{d:bj}(G:eA P w K mg base (dG P w) k a d ps (jW K cl g))(b:iM K d ps [])(kp:fg K (.ref a)=true)(n:mg x=some (.ref a)):vP P w K mg base cl x k ps g:=⟨_,_,G,x0 G,b,kp,n⟩
theorem X5{X:Cx}{e:ag}{es:List ag}{ms:MA}{pos p:ai}{k0:Nat}{g:FM}(C:vP X.prog X.w X.K X.mg X.base cl x k ps g)(hr:dI k0 X.A)(hk:k<=k0)(hg:Gl X x)(ha:eU X.K cl E0 X (e::es) ms)(hdb:(x==("__debug__":Str))=false:=by decide)(he:starEach (e::es) X.env=(false,eval e X.env)::starEach es X.env:=by rfl)(hpl:(backTo pos (starEach es X.env)).any (·.1)=false:=by rfl):
  aY X.K cl E0 X (.Call (.Name x p) (e::es) [] pos) (fL g [] ms):=by
 obtain⟨a,d,_,G,b,kk,n⟩:=C;exact A5 G (hr.mono hk) hg n kk b .nil Dv.nil ha hdb he hpl
end
structure Bx where
 P:Program
 w:aj
 K:ae
 mg:Str->AE
 base:Heap
 cl:Str->Addr
abbrev cK(B:Bx)(x:Str)(k:Nat)(ps:List Str)(g:FM):Prop:=Ob B.P B.w B.K B.mg B.base B.cl x k ps g
abbrev sG(B:Bx)(x:Str)(k:Nat)(ps:List Str)(g:FM):Prop:=vP B.P B.w B.K B.mg B.base B.cl x k ps g
def HF(K:ae)(x:Str)(st:Stmt):Prop:=∃(f:Addr)(fd:bj),dg K mainGlobals x=some (some (.ref f))/\iG K x x st f fd
def XG(K:ae)(mg:Str->AE):Prop:=∃h:Heap,K.In h/\h.Ns mainGlobals mg
section
variable{B:Bx}{x:Str}{st:Stmt}{f:Addr}{fd:bj}{N ps:List Str}{k np n:Nat}{b:MS}
theorem zT(X:XG B.K B.mg)(q:HF B.K x st):∃f fd,iG B.K x x st f fd/\fg B.K (.ref f)=true/\B.mg x=some (.ref f):=by
 obtain⟨f,fd,a,F⟩:=q;obtain⟨h,X,G⟩:=X;exact⟨f,fd,F,F.kp,mq X G a⟩
theorem S0{K:ae}{oc:Value}{od an:AF}{osl:Array AE}{kV doc pm cdv ct:Value}(a:dg K mainGlobals x=some (some (.ref f)))(l:K.lookup f=some ⟨oc,od,.func (dn x x (fW st) (eC st) (cC st) .none kV doc pm an cdv ct),osl⟩)
  (c:jt K cdv x=true)(k:fg K (.ref f)=true):HF K x st:=⟨_,_,a,Ek l c k⟩
theorem Zb(F:iG B.K x x st f fd)(h:∀(kV doc pm:Value)(an:AF)(cdv ct:Value)(us:AD),us.length=ps.length->bindArgs (dn x x (fW st) (eC st) (cC st) .none kV doc pm an cdv ct) ⟨us,[]⟩=pure (ps.zip us)):iM B.K fd ps []:=F.binds λkV doc pm an cdv ct us hl=>h kV doc pm an cdv ct us hl
theorem cP(X:XG B.K B.mg)(q:HF B.K x st)(S:gZ N ps (cC st))(hb:N.Nodup->∀(f:Addr)(cdv:Value)(A:al)(outer:List ay)(s:aa)(H:Hp)(E:XK),dI k (A.deeper (envOfC x (cC st) s.heap.objs.size f cdv))->fT B.K B.cl E0 (cM fB B.P B.w B.K B.mg B.base N x (cC st) f cdv A outer s H E).nox (eC st) b)(hnp:ps.length=np:=by rfl)(hn:N.length=n:=by rfl)
  (h:∀(kV doc pm:Value)(an:AF)(cdv ct:Value)(us:AD),us.length=ps.length->bindArgs (dn x x (fW st) (eC st) (cC st) .none kV doc pm an cdv ct) ⟨us,[]⟩=pure (ps.zip us):=by intro _ _ _ _ _ _ us h;rcases us with _ |⟨_,_ |⟨_,_ |⟨_,_ |⟨_,_ |⟨_,_ |⟨_,_⟩⟩⟩⟩⟩⟩<;>first |(cases h;done) |rfl |(simp at h)):cK B x (k+1) ps (aR np n b):=by
 obtain⟨f,fd,F,kp,m⟩:=zT X q;exact⟨f,fd,Yo F S hnp hn λcdv A outer s H E hr=>hb S.nd f cdv A outer s H E hr,Zb F h,kp,m⟩
theorem mkL(X:XG B.K B.mg)(q:HF B.K x st)(S:gZ N ps (cC st))(hb:N.Nodup->∀(f:Addr)(cdv:Value)(A:al)(outer:List ay)(s:aa)(H:Hp)(E:XK),dI k (A.deeper (envOfC x (cC st) s.heap.objs.size f cdv))->fT B.K B.cl E0 (cM fB B.P B.w B.K B.mg B.base N x (cC st) f cdv A outer s H E).nox (eC st) b)(hnp:ps.length=np:=by rfl)(hn:N.length=n:=by rfl)
  (h:∀(kV doc pm:Value)(an:AF)(cdv ct:Value)(us:AD),us.length=ps.length->bindArgs (dn x x (fW st) (eC st) (cC st) .none kV doc pm an cdv ct) ⟨us,[]⟩=pure (ps.zip us):=by intro _ _ _ _ _ _ us h;rcases us with _ |⟨_,_ |⟨_,_ |⟨_,_ |⟨_,_ |⟨_,_ |⟨_,_⟩⟩⟩⟩⟩⟩<;>first |(cases h;done) |rfl |(simp at h)):cK B x (k+1) ps (oA np n b):=by
 obtain⟨f,fd,F,kp,m⟩:=zT X q;exact⟨f,fd,okL F S hnp hn λcdv A outer s H E hr=>hb S.nd f cdv A outer s H E hr,Zb F h,kp,m⟩
theorem Oo(X:XG B.K B.mg)(q:HF B.K x st)(S:gZ N ps (cC st))(hb:N.Nodup->∀(f:Addr)(cdv:Value)(A:al)(outer:List ay)(s:aa)(H:Hp)(E:XK),dI k (A.deeper (envOfC x (cC st) s.heap.objs.size f cdv))->fT B.K B.cl E (cM (dG B.P B.w) B.P B.w B.K B.mg B.base N x (cC st) f cdv A outer s H E) (eC st) b)(hnp:ps.length=np:=by rfl)(hn:N.length=n:=by rfl)
  (h:∀(kV doc pm:Value)(an:AF)(cdv ct:Value)(us:AD),us.length=ps.length->bindArgs (dn x x (fW st) (eC st) (cC st) .none kV doc pm an cdv ct) ⟨us,[]⟩=pure (ps.zip us):=by intro _ _ _ _ _ _ us h;rcases us with _ |⟨_,_ |⟨_,_ |⟨_,_ |⟨_,_ |⟨_,_ |⟨_,_⟩⟩⟩⟩⟩⟩<;>first |(cases h;done) |rfl |(simp at h)):sG B x (k+1) ps (aR np n b):=by
 obtain⟨f,fd,F,kp,m⟩:=zT X q;exact Cb (okX F S hnp hn λcdv A outer s H E hr=>hb S.nd f cdv A outer s H E hr) (Zb F h) kp m
theorem mkR(F:iG B.K x x st f fd)(S:gZ N ps (cC st))(hb:N.Nodup->∀(f:Addr)(cdv:Value)(A:al)(outer:List ay)(s:aa)(H:Hp)(E:XK),dI k (A.deeper (envOfC x (cC st) s.heap.objs.size f cdv))->fT B.K B.cl E0 (cM fB B.P B.w B.K B.mg B.base N x (cC st) f cdv A outer s H E).nox (eC st) b)(hnp:ps.length=np:=by rfl)(hn:N.length=n:=by rfl):eA B.P B.w B.K B.mg B.base fB (k+1) f fd ps (kE B.K B.cl (aR np n b)):=Yo F S hnp hn λcdv A outer s H E hr=>hb S.nd f cdv A outer s H E hr
theorem Xn{dsv:Array Value}(F:lH B.K x x st f fd dsv)(S:gZ N ps (cC st))(hb:N.Nodup->∀(f:Addr)(cdv:Value)(A:al)(outer:List ay)(s:aa)(H:Hp)(E:XK),dI k (A.deeper (envOfC x (cC st) s.heap.objs.size f cdv))->fT B.K B.cl E (cM (dG B.P B.w) B.P B.w B.K B.mg B.base N x (cC st) f cdv A outer s H E) (eC st) b)(hnp:ps.length=np:=by rfl)(hn:N.length=n:=by rfl):eA B.P B.w B.K B.mg B.base (dG B.P B.w) (k+1) f fd ps (jW B.K B.cl (aR np n b)):=aaC F S hnp hn λcdv A outer s H E hr=>hb S.nd f cdv A outer s H E hr
section
variable{X:Cx}{cl:Str->Addr}{E:XK}{e:ag}{es:List ag}{ms:MA}{pos p:ai}{k0:Nat}{g:FM}{dv:AH}
end
section
variable{P:Program}{w:aj}{K:ae}{mg:Str->AE}{base:Heap}{qual:Str}{so sc:Scope}{own:List Str}{cap:List (Nat×Str)}{cd:Value}{A:al}{outer:List ay}{s:aa}{H:Hp}{E:XK}
theorem Fk(a:sc.kind=.function:=by rfl)(b:∀y∈sc.names,y.2=.local->sc.names.lookup y.1=some .local:=by decide+kernel)(c:∀y∈sc.names,y.2≠.cell:=by decide+kernel)(d:∀y∈sc.names,y.2=.free->so.names.lookup y.1=some .cell:=by decide+kernel)(e:∀p∈cap,N[p.1]?=some p.2:=by decide+kernel)(g:∀p∈cap,sc.names.lookup p.2=some .free:=by decide+kernel):iB (cM (dG P w) P w K mg base N qual so f cd A outer s H E) sc own cap:=Wl so N rfl rfl a b c d e g
end
end
section
variable{P:Program}{w:aj}{K:ae}{mg:Str->AE}{base:Heap}{cl:Str->Addr}{E:XK}{x:Str}{k k0:Nat}{ps:List Str}{g:FM}{e:ag}{es:List ag}{ms:MA}{pos p:ai}
theorem T6{N:List Str}{qual:Str}{scope:Scope}{fo:Addr}{cd:Value}{A:al}{outer:List ay}{AN:aa}{AO:Hp}(C:vP P w K mg base cl x k ps g)(hr:dI k0 (cM (dG P w) P w K mg base N qual scope fo cd A outer AN AO E).A)(hk:k<=k0)(hg:Gl (cM (dG P w) P w K mg base N qual scope fo cd A outer AN AO E) x)
  (ha:eU K cl E (cM (dG P w) P w K mg base N qual scope fo cd A outer AN AO E) (e::es) ms)(hdb:(x==("__debug__":Str))=false:=by decide)
  (he:starEach (e::es) (cM (dG P w) P w K mg base N qual scope fo cd A outer AN AO E).env=(false,eval e (cM (dG P w) P w K mg base N qual scope fo cd A outer AN AO E).env)::starEach es (cM (dG P w) P w K mg base N qual scope fo cd A outer AN AO E).env:=by rfl)
  (hpl:(backTo pos (starEach es (cM (dG P w) P w K mg base N qual scope fo cd A outer AN AO E).env)).any (·.1)=false:=by rfl):
  aY K cl E (cM (dG P w) P w K mg base N qual scope fo cd A outer AN AO E) (.Call (.Name x p) (e::es) [] pos) (fL g [] ms):=by
 obtain⟨a,d,GX,_,b,kk,n⟩:=C;exact Xu GX (hr.mono hk) hg n kk b .nil Dv.nil ha hdb he hpl
end
end L2.Pp
namespace L2
open PySem PySem.Spec PySem.W PyProof.Rows Bn
section
variable{K:ae}{x D C:Addr}
end
section
variable{X:Cx}{p pos pos1 pos2 pos3 pos4 pc pd:ai}{e:ag}{te:XK->TE}{c1 c2 n:Str}{C1 C2:Addr}{i:Nat}{b₁ b₂:Stmt}{body1 body2:List Stmt}{newId1 newId2:String}
end
end L2
namespace L2.Pp
open PySem PySem.Spec PyProof.Rows Bn
section
variable{K:ae}{cl:Str->Addr}{E:XK}{X:Cx}{p pos pos1 pos2 pos3 pos4 pc pd:ai}{e:ag}{me:ME}{c1 c2 n:Str}{i nn:Nat}{b₁ b₂:Stmt}{body1 body2:List Stmt}{newId1 newId2:String}{up1 up2:bR->bR}
end
end L2.Pp
namespace L2
open PySem PySem.Spec PyProof.Rows Bn
section
open PySem.W (KasT kas_sort kas_asc kas_desc kas_rev kas_tail3 kas_descPart kas_count kas_place kas_bin)
section
variable{lt:Nat->Nat->Bool}{n:Nat}
end
section
variable{α:Type}{lt:α->α->Bool}
def ins(lt:α->α->Bool)(x:α):List α->List α
 |[]=>[x]
 |y::r=>if lt x y then x::y::r else y::ins lt x r
end
end
section
open PySem.W (KasT kas_sort kas_ask KatTups kat_run kat_kind kas_item kat_snds KdlSrc kdl_extend)
section
variable{prog:Program}{w:aj}{A:al}{E:Value->aa->Prop}{s:aa}
end
end
open L2.Pp
section
variable{X:Cx}{AM:List (Addr×Obj)}{σ:St}{H:Hp}{s:aa}
end
end L2
namespace L2.Pp
open PySem PySem.Spec PyProof.Rows Bn
section
variable{K:ae}
end
section
variable{K:ae}{cl:Str->Addr}{E:XK}{X:Cx}{p q:Ph}{H H':Hp}{S:aG}{a b e o i v:ag}{es:List ag}{m md mk mv:ME}{ms:MA}{pos:ai}
end
end L2.Pp
namespace L2
open PySem PySem.Spec PyProof.Rows Bn
open L2.Pp
section
variable{prog:Program}{w:aj}{K:Type}[DecidableEq K]{knd:HeapKind prog w K}{A:al}{E:Value->aa->Prop}{s:aa}{d a:Addr}{k:K}{xs:List (K×Addr×Value)}
end
section
variable{X:Cx}{AM:List (Addr×Obj)}{σ:St}{H:Hp}{s:aa}
end
end L2
namespace L2.Pp
open PySem PySem.Spec PyProof.Rows Bn
section
variable{K:ae}{cl:Str->Addr}{E:XK}{X:Cx}{p q:Ph}{H H':Hp}{S:aG}{e:ag}{es:List ag}{m md mk mv:ME}{ms:MA}{pos:ai}
end
section
variable{K:ae}{cl:Str->Addr}{E:XK}{X:Cx}{p q:Ph}{H H':Hp}{S:aG}{a b e o i v:ag}{es:List ag}{m md mk mv:ME}{ms:MA}{pos:ai}
end
end L2.Pp
namespace L2
end L2
namespace L2.Pp
open PySem PySem.Spec PyProof.Rows Bn
section
variable{K:ae}{cl:Str->Addr}{E:XK}{X:Cx}{a:ag}{m:ME}{pos:ai}
end
end L2.Pp
namespace L2
open PySem PySem.Spec PyProof.Rows Bn
open L2.Pp
open PySem.W (KatLex KatTups)
section
variable{prog:Program}{w:aj}{A:al}{E:Value->aa->Prop}{s:aa}
end
section
variable{X:Cx}{AM:List (Addr×Obj)}{σ:St}{H:Hp}{s:aa}
end
end L2
namespace L2.Pp
open PySem PySem.Spec PyProof.Rows Bn
section
variable{K:ae}
end
section
variable{K:ae}{cl:Str->Addr}{E:XK}{X:Cx}{e:ag}{ms:MA}{pos:ai}
end
section
variable{prog:Program}{w:aj}{A:al}{E:Value->aa->Prop}{s:aa}
end
section
open PySem.AutoSeq1 (wpAny_loadPart')
open PySem.MeetsSeq PySem.MeetsSeq2 PySem.MeetsSeq3 PySem.SeqRoads2
end
section
variable{K:ae}{cl:Str->Addr}{E:XK}{X:Cx}
variable{a e:ag}{m:ME}{ms:MA}{pos:ai}
end
section
variable{K:ae}{cl:Str->Addr}{E:XK}{X:Cx}
end
end L2.Pp
namespace L2
end L2
namespace L2.Pp
open PySem PySem.Spec PyProof.Rows Bn
section
variable{K:ae}{cl:Str->Addr}{E:XK}{X:Cx}{a:ag}{m:ME}{pos:ai}
end
theorem F6:bootBuiltins "len"=some (.builtin "len"):=by decide+kernel
theorem K5:bootBuiltins "abs"=some (.builtin "abs"):=by decide+kernel
theorem F3:bootBuiltins "sum"=some (.builtin "sum"):=by decide+kernel
theorem N6:bootBuiltins "min"=some (.builtin "min"):=by decide+kernel
theorem Q7:bootBuiltins "max"=some (.builtin "max"):=by decide+kernel
theorem Ks:bootBuiltins "sorted"=some (.builtin "sorted"):=by decide+kernel
theorem Rl:bootBuiltins "int"=some (.type "int"):=by decide+kernel
theorem Hx:bootBuiltins "bool"=some (.type "bool"):=by decide+kernel
theorem Kx:bootBuiltins "list"=some (.type "list"):=by decide+kernel
theorem Zt:bootBuiltins "tuple"=some (.type "tuple"):=by decide+kernel
end L2.Pp
set_option Elab.async false
set_option compiler.extract_closed false
set_option bootstrap.genMatcherCode false
set_option maxRecDepth 100000
set_option maxHeartbeats 4000000
namespace Sc
noncomputable section
open PySem L2 Bn L2.Pp
abbrev Ml:Stmt:=aZ 6
abbrev Uf:Stmt:=aZ 7
abbrev Te:Stmt:=aZ 8
abbrev qP:Stmt:=aZ 9
abbrev Rf:Stmt:=aZ 10
abbrev qW:Stmt:=aZ 12
abbrev Fd:Stmt:=aZ 13
abbrev Zd:Stmt:=aZ 14
abbrev Ui:Stmt:=aZ 15
abbrev Rg:Stmt:=aZ 17
abbrev Xd:Stmt:=aZ 16
abbrev Gc:Stmt:=aZ 18
abbrev Rm:Stmt:=aZ 19
abbrev Og:Stmt:=aZ 20
abbrev Fc:Stmt:=aZ 21
abbrev Nk:Stmt:=aZ 22
abbrev Ce:Stmt:=aZ 24
abbrev Vd:Stmt:=aZ 25
abbrev Hd:Stmt:=aZ 27
abbrev Wd:Stmt:=aZ 29
abbrev Fh:Stmt:=aZ 30
abbrev Bc:Stmt:=aZ 31
abbrev Kc:Stmt:=aZ 32
abbrev Ig:Stmt:=aZ 33
abbrev Ul:Stmt:=aZ 35
abbrev Dj:Stmt:=aZ 36
abbrev Zk:Stmt:=aZ 37
abbrev Se:Stmt:=aZ 38
abbrev Jh:Stmt:=aZ 39
abbrev Si:Stmt:=aZ 40
abbrev He:Stmt:=aZ 41
abbrev Il:Stmt:=aZ 42
abbrev Ih:Stmt:=aZ 43
abbrev Cl:Stmt:=aZ 44
abbrev Wj:Stmt:=aZ 45
abbrev Bk:Stmt:=aZ 46
abbrev De:Stmt:=aZ 47
abbrev Aj:Stmt:=aZ 48
abbrev Ad:Stmt:=aZ 50
abbrev Kl:Stmt:=aZ 49
abbrev Tj:Stmt:=aZ 51
abbrev Uc:Stmt:=aZ 52
abbrev Cd:Stmt:=aZ 53
abbrev Ll:Stmt:=aZ 54
abbrev Yd:Stmt:=aZ 55
abbrev Fi:Stmt:=aZ 56
abbrev Qi:Stmt:=aZ 57
abbrev Nf:Stmt:=aZ 58
abbrev Hj:Stmt:=aZ 59
abbrev mH:Stmt:=aZ 60
def zH:MS:=(aI (cX (bI (aC fJ (aA 0) (mC (.int 0)))) (bF (mC (.int 1))) eK)
 (aI (cX (bI (aC lJ (aA 0) (mC (.int 0)))) (bF (bH bQ (mC (.int 1)))) eK)
 (bF (mC (.int 0)))))
def nI:FM:=aR 1 1 zH
def xL:MS:=(aI (lZ (bI (aC iI (aA 1) (mC (.int 0)))) (aI (aT 2 (aC fH (aA 0) (aA 1)))
 (aI (aT 0 (aA 1))
 (aT 1 (aA 2)))))
 (bF (mR kR (aB (aA 0) aD))))
def oV:FM:=aR 2 3 xL
def xD:MS:=(aI (aT 1 (mC (.int 0)))
 (aI (bK (bD (aA 0)) (gN 2) (aT 1 (aP oV [] (aB (aA 1) (aB (aA 2) aD)))))
 (bF (bB ["number"] [(1,"common")] (bD (aA 0)) (gN 0) (aC eE (aA 0) (aA 1))))))
def tG:FM:=aR 1 3 xD
def wQ:MS:=(aI (cX (bI (aC dL (aA 1) (mC (.int 0)))) (nO "NoNumber") eK)
 (aI (aT 2 (aC aS (aP nI [] (aB (aA 1) aD)) (aP oV [] (aB (aA 0) (aB (aA 1) aD)))))
 (bF (mN fM (aB (aC eE (aA 0) (aA 2)) (aB (aC eE (aA 1) (aA 2)) aD))))))
def kW:FM:=aR 2 3 wQ
def xE:MS:=(bF (fL kW [] (aB (aC aS (aC aE (aA 0) (mC (.int 0))) (aC aE (aA 1) (mC (.int 1)))) (aB (aC aS (aC aE (aA 0) (mC (.int 1))) (aC aE (aA 1) (mC (.int 0)))) aD))))
def qQ:FM:=aR 2 2 xE
def yR:MS:=(aI (cX (bI (aC dL (aA 1) (mC (.int 0)))) (nO "NoPoint") eK)
 (bF (mR gC (aB (bB ["number"] [(1,"bottom")] (bD (aP tG [] (aB (aC aF (mR kZ (aB (aA 0) aD)) (mN fF (aB (aA 1) aD))) aD))) (gN 0) (aC aS (aP nI [] (aB (aA 1) aD)) (aA 0))) aD))))
def lU:FM:=aR 2 2 yR
def wS:MS:=(bF (mR gC (aB (bB ["number"] [(0,"p")] (bD (dC (aA 0) cO (dD (bH bQ (mC (.int 1)))))) (gN 0) (fL kW [] (aB (aA 0) (aB (aC aE (aA 1) (bH bQ (mC (.int 1)))) aD)))) aD)))
def sS:FM:=aR 1 1 wS
def sT:MS:=(aI (aT 1 (mC (.int 1)))
 (aI (bK (bD (aA 0)) (gN 2) (aT 1 (aC aS (aA 1) (aC aE (aA 2) (mC (.int 1))))))
 (bF (fL lU [] (aB (bB ["part"] [(1,"bottom")] (bD (aA 0)) (gN 0) (aC aS (aC aE (aA 0) (mC (.int 0))) (aC eE (aA 1) (aC aE (aA 0) (mC (.int 1)))))) (aB (aA 1) aD))))))
def mZ:FM:=aR 1 3 sT
def yZ:MS:=(aI (aT 2 (bB ["one","other"] [(1,"q"),(0,"p")] (fG (aB (dC (aA 0) cO (dD (bH bQ (mC (.int 1))))) (aB (dC (aA 1) cO (dD (bH bQ (mC (.int 1))))) aD))) (gT 2 (cQ (gN 0) (cQ (gN 1) eJ))) (aC aF (aC aS (aA 0) (aC aE (aA 2) (bH bQ (mC (.int 1))))) (aC aS (aA 1) (aC aE (aA 3) (bH bQ (mC (.int 1))))))))
 (bF (fL lU [] (aB (aA 2) (aB (aC aS (aC aE (aA 0) (bH bQ (mC (.int 1)))) (aC aE (aA 1) (bH bQ (mC (.int 1))))) aD)))))
def tR:FM:=aR 2 3 yZ
def yD:MS:=(bF (mR gC (aB (aC aF (bB ["number"] [] (bD (dC (aA 0) cO (dD (bH bQ (mC (.int 1)))))) (gN 0) (bH bQ (aA 0))) (mN fF (aB (aC aE (aA 0) (bH bQ (mC (.int 1)))) aD))) aD)))
def tK:FM:=aR 1 1 yD
def wZ:MS:=(bF (aP tR [] (aB (aA 0) (aB (aP tK [] (aB (aA 1) aD)) aD))))
def mY:FM:=aR 2 2 wZ
def wE:MS:=(bF (bB ["near","far"] [(0,"start"),(1,"end")] (fG (aB (dC (aA 0) cO (dD (bH bQ (mC (.int 1))))) (aB (dC (aA 1) cO (dD (bH bQ (mC (.int 1))))) aD))) (gT 2 (cQ (gN 0) (cQ (gN 1) eJ))) (aC dW (aC aS (aA 1) (aC aE (aA 2) (bH bQ (mC (.int 1))))) (aC aS (aA 0) (aC aE (aA 3) (bH bQ (mC (.int 1))))))))
def oH:FM:=aR 2 2 wE
def Ea:MS:=(bF (mR mL (aB (bB ["one","other"] [] (fG (aB (aA 0) (aB (aA 1) aD))) (gT 2 (cQ (gN 0) (cQ (gN 1) eJ))) (aC aS (aA 0) (aA 1))) aD)))
def vA:FM:=aR 2 2 Ea
def tQ:MS:=(aI (aT 1 (aC aE (aA 0) (mC (.int 0))))
 (aI (cX (bI (aC dL (mR eQ (aB (aA 0) aD)) (mC (.int 1)))) (bF (mN fF (aB (bH bQ (aC aE (aA 1) (mC (.int 1)))) (aB (aC aE (aA 1) (mC (.int 0))) aD)))) eK)
 (aI (aT 2 (aC aE (aA 0) (mC (.int 1))))
 (bF (mN fF (aB (aC dW (aC aS (aC aE (aA 1) (mC (.int 1))) (aC aE (aA 2) (mC (.int 2)))) (aC aS (aC aE (aA 1) (mC (.int 2))) (aC aE (aA 2) (mC (.int 1))))) (aB (aC dW (aC aS (aC aE (aA 1) (mC (.int 2))) (aC aE (aA 2) (mC (.int 0)))) (aC aS (aC aE (aA 1) (mC (.int 0))) (aC aE (aA 2) (mC (.int 2))))) (aB (aC dW (aC aS (aC aE (aA 1) (mC (.int 0))) (aC aE (aA 2) (mC (.int 1)))) (aC aS (aC aE (aA 1) (mC (.int 1))) (aC aE (aA 2) (mC (.int 0))))) aD))))))))
def oW:FM:=aR 1 3 tQ
def sL:MS:=(aI (aT 1 (bB ["p"] [(0,"points")] (bD (dC (aA 0) (dD (mC (.int 1))) cO)) (gN 0) (aP oH [] (aB (aC aE (aA 1) (mC (.int 0))) (aB (aA 0) aD)))))
 (bF (aP vA [] (aB (aP oW [] (aB (dC (aA 1) cO (dD (bH bQ (mC (.int 1))))) aD)) (aB (aC aE (aA 1) (bH bQ (mC (.int 1)))) aD)))))
def oG:FM:=aR 1 2 sL
def uP:MS:=(bF (aP nI [] (aB (aP oG [] (aB (aA 0) aD)) aD)))
def lX:FM:=aR 1 1 uP
def wV:MS:=(bF (aC iN (aC iN (dC (aA 0) cO (dD (aA 1))) (mN fM (aB (aA 2) aD))) (dC (aA 0) (dD (aC aF (aA 1) (mC (.int 1)))) cO)))
def oP:FM:=aR 3 3 wV
def wR:MS:=(bF (mR mK (aB (bB ["k"] [(0,"piece"),(1,"p")] (cZ (aB (mR eQ (aB (aA 0) aD)) aD)) (gN 0) (aP lX [] (aB (aP oP [] (aB (aA 1) (aB (aA 0) (aB (aA 2) aD)))) aD))) aD)))
def qO:FM:=aR 2 2 wR
def wX:MS:=(aI (aT 2 (mC (.int 0)))
 (aI (bK (bD (aA 0)) (gN 3) (aI (aT 4 (aP qO [] (aB (aA 3) (aB (aA 1) aD))))
 (aI (cX (bI (aC dL (aA 4) (mC (.int 0)))) (nO "OnSide") eK)
 (cX (bI (aC fJ (aA 4) (mC (.int 0)))) (kQ (λi j=>i+j) 2 (mC (.int 1))) eK))))
 (bF (aA 2))))
def oQ:FM:=aR 2 5 wX
def sQ:MS:=(bF (aP mZ [] (aB (bB ["one","step"] [] (fG (aB (aP sS [] (aB (aA 0) aD)) (aB (aA 1) aD))) (gT 2 (cQ (gN 0) (cQ (gN 1) eJ))) (aP qQ [] (aB (aA 0) (aB (aA 1) aD)))) aD)))
def jE:FM:=aR 2 2 sQ
def yJ:MS:=(bF (mR gC (aB (bB ["corner"] [(1,"grid"),(0,"piece")] (bD (aA 0)) (gN 0) (aP jE [] (aB (aP mY [] (aB (aA 0) (aB (aC aE (aA 2) (mC (.int 0))) aD))) (aB (aA 1) aD)))) aD)))
def oY:FM:=aR 2 2 yJ
def wD:MS:=(bF (mR gC (aB (aC aF (bB ["number"] [(0,"p")] (bD (dC (aA 0) cO (dD (bH bQ (mC (.int 1)))))) (gN 0) (aC fH (aA 0) (aC aE (aA 1) (bH bQ (mC (.int 1)))))) (mN fF (aB (aC aE (aA 0) (bH bQ (mC (.int 1)))) aD))) aD)))
def qJ:FM:=aR 1 1 wD
def wH:MS:=(aI (aT 2 (mN fF (aB (mN fM aD) aD)))
 (aI (bK (cZ (aB (aC dW (mR eQ (aB (aA 1) aD)) (mC (.int 1))) aD)) (gN 3) (aI (aT 4 (bB ["corner"] [(3,"k")] (bD (aA 0)) (gN 0) (aC aE (aA 0) (aA 1))))
 (aI (aT 5 (eI aD))
 (aI (bK (bD (aA 2)) (gN 6) (nQ 5 (bB ["cell"] [(6,"row"),(1,"p"),(3,"k")] (jZ (aB (mR mK (aB (aA 4) aD)) (aB (aC aF (mR pY (aB (aA 4) aD)) (mC (.int 1))) aD))) (gN 0) (aC iN (aA 1) (mN fM (aB (aC aF (aC aE (aA 2) (aA 3)) (aC aS (aA 0) (aC aE (aA 2) (bH bQ (mC (.int 1)))))) aD))))))
 (aT 2 (aA 5))))))
 (bF (bB ["row"] [(1,"p")] (bD (aA 2)) (gN 0) (aC iN (aA 0) (mN fM (aB (aC aE (aA 1) (bH bQ (mC (.int 1)))) aD)))))))
def oI:FM:=aR 2 7 wH
def xY:MS:=(aI (aT 3 (aP qJ [] (aB (aP jE [] (aB (aA 2) (aB (aA 1) aD))) aD)))
 (aI (aT 4 (mC (.int 0)))
 (aI (bK (bD (aA 0)) (gN 5) (aI (aT 6 (aP oY [] (aB (aA 5) (aB (aA 1) aD))))
 (bK (bD (aP oI [] (aB (aA 6) (aB (aA 3) aD)))) (gN 7) (kQ (λi j=>i+j) 4 (fL oQ [] (aB (mN fM (aB (aA 6) aD)) (aB (aA 7) aD)))))))
 (bF (aA 4)))))
def gH:FM:=aR 3 8 xY
def zZ:MS:=(aI (aT 1 (eI aD))
 (aI (bK (uX (aB (dC (aA 0) cO (dD (mC (.int 63)))) aD)) (gT 2 (cQ (gN 2) (cQ (gN 3) eJ))) (cX (bI (aC qI (aA 3) (aC gJ (mC (.int 10)) (mC (.int 18))))) (dQ (dB (aA 1) (aB (aC dW (aA 3) (aC gJ (mC (.int 10)) (mC (.int 18)))) aD))) (aI (aT 4 (aC fH (aC aS (aC aF (aC aF (aC aF (aA 3) (aC aS (aC aS (mC (.int 7)) (aA 2)) (aA 2))) (aC aS (mC (.int 13)) (aA 2))) (mC (.int 5))) (mC (.int 48271))) (mC (.int 2147483647))))
 (aI (aT 5 (aC fH (aC aS (aC aF (aC aF (aC aF (aA 3) (aC aS (aC aS (mC (.int 11)) (aA 2)) (aA 2))) (aC aS (mC (.int 17)) (aA 2))) (mC (.int 3))) (mC (.int 40692))) (mC (.int 2147483399))))
 (aI (aT 6 (aC fH (aC aS (aC aF (aC aF (aC aF (aA 3) (aC aS (aC aS (mC (.int 5)) (aA 2)) (aA 2))) (aC aS (mC (.int 29)) (aA 2))) (mC (.int 8))) (mC (.int 39373))) (mC (.int 2147483587))))
 (aI (aT 4 (aC fH (aC aS (aA 4) (mC (.int 52021))) (mC (.int 1000000007))))
 (aI (aT 5 (aC fH (aC aS (aA 5) (mC (.int 30011))) (mC (.int 998244353))))
 (aI (aT 6 (aC fH (aC aS (aA 6) (mC (.int 45989))) (mC (.int 1000000009))))
 (dQ (dB (aA 1) (aB (aC aF (aC aS (aC aF (aC aS (aA 4) (mC (.int 998244353))) (aA 5)) (mC (.int 1000000009))) (aA 6)) aD)))))))))))
 (bF (aA 1))))
def pM:FM:=aR 1 7 zZ
def tW:MS:=(aI (lZ (iW (bI (aC fJ (mR eQ (aB (aA 0) aD)) (mC (.int 0)))) (bI (aC dL (aC aE (aA 0) (mC (.int 0))) (mC (.int 0))))) (dQ (mJ (aA 0) (aB (mC (.int 0)) aD))))
 (aI (cX (bI (aC dL (mR eQ (aB (aA 0) aD)) (mC (.int 0)))) (bF (mC (.int 0))) eK)
 (aI (aT 2 (aC fH (aC aE (aA 0) (mC (.int 0))) (aA 1)))
 (aI (nN (aA 0) (mC (.int 0)) (aC eE (aC aE (aA 0) (mC (.int 0))) (aA 1)))
 (bF (aA 2))))))
def dE:FM:=aR 2 3 tW
def zU:MS:=(aI (aT 0 (mR kR (aB (aA 0) aD)))
 (aI (aT 1 (mR kR (aB (aA 1) aD)))
 (aI (lZ (bI (aC fJ (aA 1) (mC (.int 0)))) (rY 0 1 (aB (aA 1) (aB (aC fH (aA 0) (aA 1)) aD))))
 (bF (aA 0)))))
def rK:FM:=aR 2 2 zU
def tE:MS:=(aI (aT 1 (mC (.int 0)))
 (aI (bK (bD (aA 0)) (gN 2) (aT 1 (aP rK [] (aB (aA 1) (aB (aA 2) aD)))))
 (aI (cX (bI (aC dL (aA 1) (mC (.int 0)))) (bF (mR gC (aB (aA 0) aD))) eK)
 (bF (mR gC (aB (bB ["_law_number"] [(1,"_law_by")] (bD (aA 0)) (gN 0) (aC eE (aA 0) (aA 1))) aD))))))
def jF:FM:=aR 1 3 tE
def xS:MS:=(bF (vB (bH (jQ "int") (aA 0)) (bH rX (bH (jQ "bool") (aA 0)))))
def nA:FM:=aR 1 1 xS
def yY:MS:=(aI (cX (bI (aC lJ (aA 1) (mC (.int 0)))) (bF (aP jF [] (aB (mN fF (aB (aC dW (mC (.int 0)) (aA 0)) (aB (aC dW (mC (.int 0)) (aA 1)) aD))) aD))) eK)
 (bF (aP jF [] (aB (mN fF (aB (aA 0) (aB (aA 1) aD))) aD))))
def qV:FM:=aR 2 2 yY
def xI:MS:=(aI (aT 3 (bB ["_law_k"] [(2,"_law_way"),(1,"_law_q"),(0,"_law_p")] (cZ (aB (aC dW (mR eQ (aB (aA 0) aD)) (mC (.int 1))) aD)) (gN 0) (aC aF (aC aS (aC aS (aA 1) (aC aE (aA 3) (aA 0))) (aC aE (aA 2) (bH bQ (mC (.int 1))))) (aC aS (aC aE (aA 2) (aA 0)) (aC aE (aA 3) (bH bQ (mC (.int 1))))))))
 (bF (aP jF [] (aB (aC aF (aA 3) (mN fF (aB (aC aS (aC aE (aA 0) (bH bQ (mC (.int 1)))) (aC aE (aA 1) (bH bQ (mC (.int 1))))) aD))) aD))))
def kJ:FM:=aR 3 4 xI
def zJ:MS:=(bF (bB ["_law_k"] [(1,"_law_q"),(0,"_law_p")] (cZ (aB (aC dW (mR eQ (aB (aA 0) aD)) (mC (.int 1))) aD)) (gN 0) (aC dW (aC aS (aC aE (aA 1) (aA 0)) (aC aE (aA 2) (bH bQ (mC (.int 1))))) (aC aS (aC aE (aA 2) (aA 0)) (aC aE (aA 1) (bH bQ (mC (.int 1))))))))
def pL:FM:=aR 2 2 zJ
def yF:MS:=(aI (aT 2 (aC dW (aC aS (aC aE (aA 0) (mC (.int 1))) (aC aE (aA 1) (mC (.int 2)))) (aC aS (aC aE (aA 0) (mC (.int 2))) (aC aE (aA 1) (mC (.int 1))))))
 (aI (aT 3 (aC dW (aC aS (aC aE (aA 0) (mC (.int 2))) (aC aE (aA 1) (mC (.int 0)))) (aC aS (aC aE (aA 0) (mC (.int 0))) (aC aE (aA 1) (mC (.int 2))))))
 (aI (aT 4 (aC dW (aC aS (aC aE (aA 0) (mC (.int 0))) (aC aE (aA 1) (mC (.int 1)))) (aC aS (aC aE (aA 0) (mC (.int 1))) (aC aE (aA 1) (mC (.int 0))))))
 (bF (mN fF (aB (aA 2) (aB (aA 3) (aB (aA 4) aD))))))))
def tM:FM:=aR 2 5 yF
def zW:MS:=(bF (mR mL (aB (bB ["_law_one","_law_other"] [] (fG (aB (aA 0) (aB (aA 1) aD))) (gT 2 (cQ (gN 0) (cQ (gN 1) eJ))) (aC aS (aA 0) (aA 1))) aD)))
def uC:FM:=aR 2 2 zW
def nC:MS:=(aI (cX (bI (aC dL (mR eQ (aB (aA 0) aD)) (mC (.int 2)))) (bF (aC dW (aC aS (aC aE (aC aE (aA 0) (mC (.int 0))) (mC (.int 0))) (aC aE (aC aE (aA 0) (mC (.int 1))) (mC (.int 1)))) (aC aS (aC aE (aC aE (aA 0) (mC (.int 0))) (mC (.int 1))) (aC aE (aC aE (aA 0) (mC (.int 1))) (mC (.int 0)))))) eK)
 (bF (aP uC [] (aB (aP tM [] (aB (aC aE (aA 0) (mC (.int 0))) (aB (aC aE (aA 0) (mC (.int 1))) aD))) (aB (aC aE (aA 0) (mC (.int 2))) aD)))))
def iU:FM:=aR 1 1 nC
def uQ:MS:=(bF (aP iU [] (aB (bB ["_law_p"] [(0,"_law_points")] (bD (dC (aA 0) (dD (mC (.int 1))) cO)) (gN 0) (aP pL [] (aB (aC aE (aA 1) (mC (.int 0))) (aB (aA 0) aD)))) aD)))
def nM:FM:=aR 1 1 uQ
def sP:MS:=(aI (aT 1 (mR qU (aB (aA 0) aD)))
 (aI (cX (bI (aC lJ (aP nM [] (aB (aA 1) aD)) (mC (.int 0)))) (aT 1 (aC aF (dC (aA 1) cO (dD (bH bQ (mC (.int 2))))) (mN fF (aB (aC aE (aA 1) (bH bQ (mC (.int 1)))) (aB (aC aE (aA 1) (bH bQ (mC (.int 2)))) aD))))) eK)
 (bF (mR gC (aB (aA 1) aD)))))
def lQ:FM:=aR 1 2 sP
def yO:MS:=(bF (aP lQ [] (aB (bB ["_law_p"] [(2,"_law_far_here"),(1,"_law_way")] (bD (aA 0)) (gN 0) (aP kJ [] (aB (aA 0) (aB (aA 1) (aB (aA 2) aD))))) aD)))
def pI:FM:=aR 3 3 yO
def qM:MS:=(bF (aP iU [] (aB (bB ["_law_corner"] [(0,"_law_corners")] (bD (dC (aA 0) (dD (mC (.int 1))) cO)) (gN 0) (bB ["_law_b","_law_c"] [] (fG (aB (aC aE (aA 1) (mC (.int 0))) (aB (aA 0) aD))) (gT 2 (cQ (gN 0) (cQ (gN 1) eJ))) (aC dW (aA 1) (aA 0)))) aD)))
def jD:FM:=aR 1 1 qM
def zQ:MS:=(aI (aT 3 (eI aD))
 (aI (bK (cZ (aB (aC aF (aA 1) (mC (.int 1))) aD)) (gN 4) (dQ (dB (aA 3) (aB (bB ["_law_m"] [(0,"_law_row_here"),(2,"_law_wide")] (cZ (aB (aA 1) aD)) (gN 0) (aP dE [] (aB (aA 1) (aB (aC aF (aA 2) (mC (.int 1))) aD)))) aD))))
 (aI (cX (bI (aC iI (aP jD [] (aB (aA 3) aD)) (mC (.int 0)))) (bF (aA 3)) eK)
 (bF (bB ["_law_k"] [(1,"_law_dims")] (jZ (aB (bH bQ (mC (.int 1))) (aB (aA 1) aD))) (gN 0) (bB ["_law_m"] [(0,"_law_k")] (cZ (aB (aA 1) aD)) (gN 0) (mR iO (aB (aC dL (aA 0) (aA 1)) aD))))))))
def kM:FM:=aR 3 5 zQ
def tY:MS:=(aI (aT 1 (eI (aB (mC (.int 0)) (aB (mC (.int 1)) (aB (mC (.int 2)) aD)))))
 (aI (aT 2 (eI (aB (mC (.int 0)) (aB (mC (.int 0)) (aB (mC (.int 0)) aD)))))
 (aI (aT 3 (rV (aB (aA 2) aD)))
 (aI (bK (cZ (aB (mC (.int 3)) aD)) (gN 4) (aI (nN (aA 2) (mJ (aA 1) (aB (aP dE [] (aB (aA 0) (aB (mR eQ (aB (aA 1) aD)) aD))) aD)) (mC (.int 1)))
 (dQ (rP (aA 3) (aB (aA 2) aD)))))
 (aI (bK (cZ (aB (mC (.int 3)) aD)) (gN 5) (cX (bI (aC dL (aP dE [] (aB (aA 0) (aB (mC (.int 4)) aD))) (mC (.int 3)))) (nR 3 2 5) eK))
 (bF (aA 3)))))))
def pH:FM:=oA 1 6 tY
def wN:MS:=(aI (aT 3 (eI aD))
 (aI (bK (cZ (aB (aP dE [] (aB (aA 0) (aB (aC aF (aA 2) (mC (.int 1))) aD))) aD)) (gN 4) (aI (aT 5 (aP dE [] (aB (aA 0) (aB (mC (.int 6)) aD))))
 (cX (iW (bI (aC dL (aA 5) (mC (.int 5)))) (bI (aC fJ (mR eQ (aB (aA 3) aD)) (mC (.int 0))))) (dQ (dB (aA 3) (aB (aC aE (aA 3) (bH bQ (mC (.int 1)))) aD))) (cX (bI (aC dL (aA 1) (mC (.int 2)))) (dQ (dB (aA 3) (aB (aP kM [] (aB (aA 0) (aB (mC (.int 2)) (aB (aC aF (mC (.int 1)) (mR iO (aB (aC dL (aA 5) (mC (.int 4))) aD))) aD)))) aD))) (cX (bI (aC fJ (aA 5) (mC (.int 3)))) (dQ (dB (aA 3) (aB (aP kM [] (aB (aA 0) (aB (mC (.int 3)) (aB (mC (.int 1)) aD)))) aD))) (dQ (dB (aA 3) (aB (aP pH [] (aB (aA 0) aD)) aD))))))))
 (bF (aA 3))))
def oJ:FM:=aR 3 6 wN
def wK:MS:=(bF (mR mL (aB (bB ["_law_corners"] [] (bD (aA 0)) (gN 0) (mR kR (aB (aP jD [] (aB (aA 0) aD)) aD))) aD)))
def qK:FM:=aR 1 1 wK
def Aa:MS:=(aI (aT 2 (aP dE [] (aB (aA 0) (aB (mC (.int 4)) aD))))
 (aI (aT 3 (aC aE (mN fF (aB (mC (.int 0)) (aB (mC (.int 3)) (aB (mC (.int 9)) (aB (aC gJ (mC (.int 10)) (mC (.int 12))) aD))))) (aA 2)))
 (aI (aT 4 (aC aF (mC (.int 1)) (aC aS (aP dE [] (aB (aA 0) (aB (mC (.int 9)) aD))) (aC eE (aA 2) (mC (.int 2))))))
 (aI (aT 5 (bB ["_law_k"] [(3,"_law_wide"),(0,"_law_row_here")] (cZ (aB (aA 1) aD)) (gN 0) (aC dW (aP dE [] (aB (aA 2) (aB (aC aF (aC aS (mC (.int 2)) (aA 1)) (mC (.int 1))) aD))) (aA 1))))
 (bF (aP jF [] (aB (aC aF (aA 5) (mN fF (aB (aA 4) aD))) aD)))))))
def jL:FM:=aR 2 6 Aa
def wY:MS:=(aI (aT 2 (eI aD))
 (aI (bK (cZ (aB (aA 1) aD)) (gN 3) (aI (aT 4 (aP dE [] (aB (aA 0) (aB (mC (.int 3)) aD))))
 (dQ (dB (aA 2) (aB (aP qV [] (aB (aC aF (mC (.int 1)) (aP dE [] (aB (aA 0) (aB (aC aE (mN fF (aB (mC (.int 1)) (aB (mC (.int 7)) (aB (aC gJ (mC (.int 10)) (mC (.int 9))) aD)))) (aA 4)) aD)))) (aB (aC aF (mC (.int 1)) (aP dE [] (aB (aA 0) (aB (aC aE (mN fF (aB (mC (.int 1)) (aB (mC (.int 7)) (aB (aC gJ (mC (.int 10)) (mC (.int 6))) aD)))) (aA 4)) aD)))) aD))) aD)))))
 (bF (aA 2))))
def oM:FM:=aR 2 5 wY
def uB:MS:=(aI (aT 2 (mC (.int 1)))
 (aI (bK (bD (aA 1)) (gN 3) (aT 2 (aC aS (aA 2) (aC aE (aA 3) (mC (.int 1))))))
 (aI (aT 4 (bB ["_law_number","_law_part"] [(2,"_law_under")] (fG (aB (aA 0) (aB (aA 1) aD))) (gT 2 (cQ (gN 0) (cQ (gN 1) eJ))) (aC aS (aC aS (aA 0) (aC aE (aA 1) (mC (.int 0)))) (aC eE (aA 2) (aC aE (aA 1) (mC (.int 1)))))))
 (bF (aP jF [] (aB (aC aF (aA 4) (mN fF (aB (aA 2) aD))) aD))))))
def kL:FM:=aR 2 5 uB
def yS:MS:=(aI (aT 3 (eI aD))
 (aI (bK (bD (aA 1)) (gN 4) (aI (aT 5 (aP jL [] (aB (aA 0) (aB (mR eQ (aB (aA 2) aD)) aD))))
 (dQ (dB (aA 3) (aB (aP lQ [] (aB (bB ["_law_corner"] [(5,"_law_far_here"),(2,"_law_stretch_here")] (bD (aA 4)) (gN 0) (aP kJ [] (aB (aP kL [] (aB (aA 0) (aB (aA 2) aD))) (aB (aA 1) (aB (mC (.int 1)) aD))))) aD)) aD)))))
 (bF (aA 3))))
def nF:FM:=aR 3 6 yS
def sW:MS:=(aI (cX (bI (aC dL (aP dE [] (aB (aA 0) (aB (mC (.int 2)) aD))) (mC (.int 1)))) (bF (mR gC (aB (aA 1) aD))) eK)
 (bF (mR kZ (aB (aA 1) aD))))
def lR:FM:=aR 2 2 sW
def yL:MS:=(aI (aT 2 (eI aD))
 (aI (bK (bD (mN fM (aB (mC (.int 1009)) (aB (mC (.int 1013)) aD)))) (gN 3) (dQ (dB (aA 2) (aB (aC aF (aC aS (aC aF (mC (.int 1)) (aP dE [] (aB (aA 0) (aB (aC dW (aA 3) (mC (.int 1))) aD)))) (aC eE (aC aS (mC (.int 1009)) (mC (.int 1013))) (aA 3))) (aC aS (aC aS (aC dW (aP dE [] (aB (aA 0) (aB (mC (.int 9)) aD))) (mC (.int 4))) (mC (.int 1009))) (mC (.int 1013)))) aD))))
 (aI (aT 4 (aP kL [] (aB (aA 2) (aB (aA 1) aD))))
 (bF (aP jF [] (aB (aC aF (dC (aA 4) cO (dD (mC (.int 2)))) (mN fM (aB (aC aS (aC aS (aC aE (aA 4) (mC (.int 2))) (mC (.int 1009))) (mC (.int 1013))) aD))) aD))))))
def pK:FM:=aR 2 5 yL
def Ba:MS:=(aI (aT 1 (pP pM [] (aB (aA 0) aD)))
 (aI (aT 2 (aP oM [] (aB (aA 1) (aB (mC (.int 2)) aD))))
 (aI (aT 3 (aP oJ [] (aB (aA 1) (aB (mC (.int 2)) (aB (mC (.int 5)) aD)))))
 (aI (aT 4 (aP nF [] (aB (aA 1) (aB (aA 3) (aB (aA 2) aD)))))
 (aI (aT 5 (aP nF [] (aB (aA 1) (aB (sA (aA 3) cO cO (-1)) (aB (aA 2) aD)))))
 (aI (aT 6 (eI aD))
 (aI (bK (bD (aA 4)) (gN 7) (dQ (dB (aA 6) (aB (aP pI [] (aB (aA 7) (aB (bH bQ (mC (.int 1))) (aB (aP jL [] (aB (aA 1) (aB (mC (.int 2)) aD))) aD)))) aD))))
 (aI (aT 8 (mR gC (aB (aA 2) aD)))
 (aI (aT 9 (aP qK [] (aB (aA 3) aD)))
 (aI (bK (cZ (aB (mC (.int 3)) aD)) (gN 10) (aI (aT 11 (aP pK [] (aB (aA 1) (aB (aA 2) aD))))
 (aI (aT 12 (mN fM (aB (aC dW (mC (.int 0)) (aC aE (aA 11) (mC (.int 0)))) (aB (aC dW (mC (.int 0)) (aC aE (aA 11) (mC (.int 1)))) (aB (aC aE (aA 11) (mC (.int 2))) aD)))))
 (aI (aT 13 (fL gH [] (aB (aA 4) (aB (aA 8) (aB (aA 11) aD)))))
 (aI (aT 14 (fL gH [] (aB (aP lR [] (aB (aA 1) (aB (aA 4) aD))) (aB (aA 8) (aB (aA 12) aD)))))
 (aI (cX (kT (nX (bI (aP nA [] (aB (aA 13) aD)))) (kT (nX (bI (aP nA [] (aB (aA 14) aD)))) (bI (aC iI (aC aF (aA 13) (aA 14)) (aA 9))))) (bF (mC (.bl false))) eK)
 (cX (kT (bI (aC iI (fL gH [] (aB (aA 5) (aB (aA 8) (aB (aA 11) aD)))) (aA 13))) (bI (aC iI (fL gH [] (aB (mR gC (aB (aA 6) aD)) (aB (aA 8) (aB (aA 11) aD)))) (aA 14)))) (bF (mC (.bl false))) eK)))))))
 (bF (mC (.bl true)))))))))))))
def Ra:FM:=aR 1 15 Ba
abbrev tX(B:Bx):=cK B "sign" 1 ["number"] nI
abbrev wP(B:Bx):=cK B "divisor" 1 ["one","other"] oV
abbrev Pd(B:Bx):=cK B "reduced" 2 ["numbers"] tG
abbrev wI(B:Bx):=sG B "fraction" 2 ["top","bottom"] kW
abbrev Fe(B:Bx):=cK B "divided" 3 ["one","other"] qQ
abbrev yB(B:Bx):=sG B "point" 3 ["numbers","bottom"] lU
abbrev Qc(B:Bx):=cK B "measures" 3 ["p"] sS
abbrev Xc(B:Bx):=cK B "point_at" 4 ["parts"] mZ
abbrev Zg(B:Bx):=cK B "added" 4 ["p","q"] tR
abbrev Ze(B:Bx):=cK B "turned" 1 ["p"] tK
abbrev Nc(B:Bx):=cK B "lessened" 5 ["p","q"] mY
abbrev Dc(B:Bx):=cK B "whole_arrow" 1 ["start","end"] oH
abbrev Wk(B:Bx):=cK B "dot" 1 ["u","v"] vA
abbrev Ye(B:Bx):=cK B "normal" 1 ["arrows"] oW
abbrev Cc(B:Bx):=cK B "determinant" 2 ["points"] oG
abbrev Ij(B:Bx):=cK B "side" 3 ["points"] lX
abbrev Vc(B:Bx):=cK B "replaced" 1 ["row","place","value"] oP
abbrev Yc(B:Bx):=cK B "standing" 4 ["piece","p"] qO
abbrev Zc(B:Bx):=sG B "count_at" 5 ["heap","p"] oQ
abbrev wM(B:Bx):=cK B "in_steps" 5 ["p","grid"] jE
abbrev Lf(B:Bx):=cK B "folded" 6 ["piece","grid"] oY
abbrev Ac(B:Bx):=cK B "in_first_cell" 1 ["p"] qJ
abbrev Hc(B:Bx):=cK B "spots_over" 1 ["piece","p"] oI
abbrev Le(B:Bx):=sG B "layers" 7 ["heap","grid","p"] gH
abbrev Di(B:Bx):=cK B "_law_row" 1 ["_law_script"] pM
abbrev lS(B:Bx):=cK B "_law_take" 1 ["_law_row_here","_law_many"] dE
abbrev Kj(B:Bx):=cK B "_law_gcd" 1 ["_law_one","_law_other"] rK
abbrev oK(B:Bx):=cK B "_law_lowest" 2 ["_law_numbers"] jF
abbrev Ue(B:Bx):=cK B "_law_whole" 1 ["_law_number"] nA
abbrev Xf(B:Bx):=cK B "_law_frac" 3 ["_law_top","_law_bottom"] qV
abbrev wT(B:Bx):=cK B "_law_joined" 3 ["_law_p","_law_q","_law_way"] kJ
abbrev Ii(B:Bx):=cK B "_law_gap" 1 ["_law_p","_law_q"] pL
abbrev Df(B:Bx):=cK B "_law_cross" 1 ["_law_u","_law_v"] tM
abbrev Oi(B:Bx):=cK B "_law_dot" 1 ["_law_u","_law_v"] uC
abbrev xZ(B:Bx):=cK B "_law_turn" 2 ["_law_ways"] iU
abbrev Bj(B:Bx):=cK B "_law_det" 3 ["_law_points"] nM
abbrev wJ(B:Bx):=cK B "_law_simplex" 4 ["_law_points"] lQ
abbrev Zh(B:Bx):=cK B "_law_gone" 5 ["_law_points","_law_way","_law_far_here"] pI
abbrev wG(B:Bx):=cK B "_law_raw_turn" 3 ["_law_corners"] jD
abbrev Li(B:Bx):=cK B "_law_raw" 4 ["_law_row_here","_law_dims","_law_wide"] kM
abbrev Ag(B:Bx):=cK B "_law_kuhn" 2 ["_law_row_here"] pH
abbrev Jc(B:Bx):=cK B "_law_raw_heap" 5 ["_law_row_here","_law_dims","_law_many"] oJ
abbrev Mc(B:Bx):=cK B "_law_raw_bulk" 4 ["_law_heap"] qK
abbrev yT(B:Bx):=cK B "_law_far" 3 ["_law_row_here","_law_dims"] jL
abbrev Wc(B:Bx):=cK B "_law_stretch" 4 ["_law_row_here","_law_dims"] oM
abbrev xR(B:Bx):=cK B "_law_spot" 3 ["_law_corner","_law_stretch_here"] kL
abbrev Ug(B:Bx):=cK B "_law_laid" 5 ["_law_row_here","_law_heap","_law_stretch_here"] nF
abbrev Ld(B:Bx):=cK B "_law_handed" 2 ["_law_row_here","_law_rows"] lR
abbrev Lh(B:Bx):=cK B "_law_over" 4 ["_law_row_here","_law_stretch_here"] pK
structure Mg(mg:Str->AE):Prop where
 m_abs:mg "abs"=none
 m_bool:mg "bool"=none
 m_enumerate:mg "enumerate"=none
 m_int:mg "int"=none
 m_isinstance:mg "isinstance"=none
 m_len:mg "len"=none
 m_list:mg "list"=none
 m_max:mg "max"=none
 m_min:mg "min"=none
 m_range:mg "range"=none
 m_sorted:mg "sorted"=none
 m_sum:mg "sum"=none
 m_tuple:mg "tuple"=none
 m_zip:mg "zip"=none
set_option hygiene false
local macro_rules | `(tactic|trivial)=> `(tactic|(first
 |(with_reducible show eU _ _ _ _ _ aD);exact Yx
 |(with_reducible show eU _ _ _ _ _ (aB _ _));refine Vu ?_ ?_
 |(with_reducible show aY _ _ _ _ _ (aA _));exact J8 _
 |(with_reducible show aY _ _ _ _ _ (mC (.int _)));exact D8
 |(with_reducible show aY _ _ _ _ _ (mC (.bl _)));exact V7
 |(with_reducible show aY _ _ _ _ _ (bH bQ _));refine S6 Jk aaj ?_
 |(with_reducible show aY _ _ _ _ _ (bH rX _));refine E4 ?_
 |(with_reducible show aY _ _ _ _ _ (aC iN _ _));refine nV Az E8 ?_ ?_
 |(with_reducible show aY _ _ _ _ _ (aC aF _ _));refine nV Oy W7 ?_ ?_
 |(with_reducible show aY _ _ _ _ _ (aC dW _ _));refine nV Ol Z7 ?_ ?_
 |(with_reducible show aY _ _ _ _ _ (aC aS _ _));refine nV Qz aaa ?_ ?_
 |(with_reducible show aY _ _ _ _ _ (aC eE _ _));refine nV Tv K3 ?_ ?_
 |(with_reducible show aY _ _ _ _ _ (aC fH _ _));refine nV Ry V6 ?_ ?_
 |(with_reducible show aY _ _ _ _ _ (aC gJ _ _));refine nV Q5 R0 ?_ ?_
 |(with_reducible show aY _ _ _ _ _ (aC aE _ _));refine X8 ?_ ?_
 |(with_reducible show aY _ _ _ _ _ (aC dL _ _));refine rN (Hk (vQ hr)) Ao ?_ ?_ (kN _)
 |(with_reducible show aY _ _ _ _ _ (aC iI _ _));refine rN (Kk (vQ hr)) Eo ?_ ?_ (kN _)
 |(with_reducible show aY _ _ _ _ _ (aC lJ _ _));refine rN Mn Ko ?_ ?_ (kN _)
 |(with_reducible show aY _ _ _ _ _ (aC fJ _ _));refine rN Im Qn ?_ ?_ (kN _)
 |(with_reducible show aY _ _ _ _ _ (aC qI _ _));refine rN Jm Do ?_ ?_ (kN _)
 |(with_reducible show fV _ _ _ _ _ (bI (aC dL _ _)));refine qX (Hk (vQ hr)) Ao ?_ ?_ (kN _)
 |(with_reducible show fV _ _ _ _ _ (bI (aC iI _ _)));refine qX (Kk (vQ hr)) Eo ?_ ?_ (kN _)
 |(with_reducible show fV _ _ _ _ _ (bI (aC lJ _ _)));refine qX Mn Ko ?_ ?_ (kN _)
 |(with_reducible show fV _ _ _ _ _ (bI (aC fJ _ _)));refine qX Im Qn ?_ ?_ (kN _)
 |(with_reducible show fV _ _ _ _ _ (bI (aC qI _ _)));refine qX Jm Do ?_ ?_ (kN _)
 |(with_reducible show fV _ _ _ _ _ (bI _));refine A4 ?_
 |(with_reducible show fV _ _ _ _ _ (nX _));refine C4 ?_
 |(with_reducible show fV _ _ _ _ _ (iW _ _));refine jC.pt ?_
 |(with_reducible show fV _ _ _ _ _ (kT _ _));refine jC.pt ?_
 |(with_reducible show jC _ _ _ _ _ (iW _ _));refine Dx ?_ ?_
 |(with_reducible show jC _ _ _ _ _ (kT _ _));refine Q0 ?_ ?_
 |(with_reducible show jC _ _ _ _ _ _);(first |refine Fw ?_ |refine Fx ?_)
 |(with_reducible show aY _ _ _ _ _ (vB _ _));refine E5 ?_ ?_
 |(with_reducible show aY _ _ _ _ _ (mN fM _));refine O1 ?_
 |(with_reducible show aY _ _ _ _ _ (mN fF _));refine F4 ?_
 |(with_reducible show aY _ _ _ _ _ (eI _));refine Dz ?_
 |(with_reducible show aY _ _ _ _ _ (sA _ _ _ _));(first |refine Ik ?_ ?_ ?_ D6 (by decide) |refine Ik ?_ ?_ ?_ J4 (by decide))
 |(with_reducible show aY _ _ _ _ _ (dC _ _ _));refine Y5 ?_ ?_ ?_
 |(with_reducible show mO _ _ _ _ _ cO);exact Vw
 |(with_reducible show mO _ _ _ _ _ (dD _));refine Ut ?_
 |(with_reducible show aY _ _ _ _ _ (rP _ _));refine Mz rfl rfl m.m_list ?_ ?_
 |(with_reducible show aY _ _ _ _ _ (rV _));refine J7 rfl rfl m.m_list ?_
 |(with_reducible show aY _ _ _ _ _ (dB _ _));refine Fs ?_ ?_
 |(with_reducible show aY _ _ _ _ _ (mJ _ _));refine G6 ?_ ?_
 |(with_reducible show aY _ _ _ _ _ (fL _ [] _));(first |refine T6 (by assumption) hr (by decide) rfl ?_ |refine X5 (by assumption) hr (by decide) rfl ?_)
 |(with_reducible show aY _ _ _ _ _ (aP _ [] _));refine S5 (by assumption) hr (by decide) rfl ?_
 |(with_reducible show aY _ _ _ _ _ (pP _ [] _));refine U4 (by assumption) hr (by decide) rfl ?_
 |(with_reducible show aY _ _ _ _ _ (bH (jQ "int") _));refine Tl (n:="int") rfl m.m_isinstance rfl m.m_int Rl ?_
 |(with_reducible show aY _ _ _ _ _ (bH (jQ "bool") _));refine Tl (n:="bool") rfl m.m_isinstance rfl m.m_bool Hx ?_
 |(with_reducible show aY _ _ _ _ _ (mR eQ _));refine oZ Tp S7 rfl m.m_len F6 ?_
 |(with_reducible show aY _ _ _ _ _ (mR kR _));refine oZ Su W8 rfl m.m_abs K5 ?_
 |(with_reducible show aY _ _ _ _ _ (mR gC _));refine xO Lp Jx rfl m.m_tuple Zt ?_
 |(with_reducible show aY _ _ _ _ _ (mR kZ _));refine xO wF Zz rfl m.m_list Kx ?_
 |(with_reducible show aY _ _ _ _ _ (mR iO _));refine xO Ys X9 rfl m.m_int Rl ?_
 |(with_reducible show aY _ _ _ _ _ (mR mL _));refine oZ (Os rfl) aak rfl m.m_sum F3 ?_
 |(with_reducible show aY _ _ _ _ _ (mR qU _));refine oZ Vr P8 rfl m.m_sorted Ks ?_
 |(with_reducible show aY _ _ _ _ _ (mR mK _));refine oZ (Wr rfl) X6 rfl m.m_min N6 ?_
 |(with_reducible show aY _ _ _ _ _ (mR pY _));refine oZ (Zr rfl) aag rfl m.m_max Q7 ?_
 |(with_reducible show aY _ _ _ _ _ (bB _ _ _ _ _));(first |refine Cz (by first |exact Ym |exact Fk |exact Dk |exact Rk) ?_ rfl (λ_ _ _ _=> ?_) (λ_ _ _ _=> ?_) |refine Du L9 ?_ rfl (λ_ _ _ _=> ?_) (λ_ _ _ _=> ?_))
 |(with_reducible show PIp _ _ _ _ _ _ (fG _));refine Xy rfl m.m_zip ?_
 |(with_reducible show PIp _ _ _ _ _ _ (uX _));refine Gw rfl m.m_enumerate ?_
 |(with_reducible show PIp _ _ _ _ _ _ (cZ _));refine Gr rfl m.m_range ?_
 |(with_reducible show PIp _ _ _ _ _ _ (jZ _));refine Kr rfl m.m_range ?_
 |(with_reducible show PIp _ _ _ _ _ _ (bD _));refine Wy ?_
 |(with_reducible show lO _ _ _ (gN _));exact Jw (by first |exact nd |(show(cS _ _).Nodup;decide+kernel)) rfl (by first |exact gr rfl |exact gv rfl)
 |(with_reducible show lO _ _ _ (gT _ _));refine A8 rfl ?_
 |(with_reducible show qC _ _ _ eJ);exact Cw
 |(with_reducible show qC _ _ _ (cQ _ _));refine Us ?_ ?_
 |(with_reducible show fT _ _ _ _ _ eK);exact Tw
 |(with_reducible show fT _ _ _ _ _ (aI _ _));refine Jt ?_ ?_
 |(with_reducible show fT _ _ _ _ _ _);refine Xw ?_
 |(with_reducible show eO _ _ _ _ _ (bF _));refine Lz ?_
 |(with_reducible show eO _ _ _ _ _ (cX _ _ _));refine D9 ?_ ?_ ?_
 |(with_reducible show eO _ _ _ _ _ (dQ _));refine Wt ?_
 |(with_reducible show eO _ _ _ _ _ (nO _));exact Rs rfl (by assumption) (by assumption)
 |(with_reducible show eO _ _ _ _ _ (aT _ (bB _ _ _ _ _)));(first |refine Hu nd rfl (by first |exact gr rfl |exact gv rfl) (by first |exact Ym |exact Fk |exact Dk |exact Rk) ?_ rfl (λ_ _ _ _=> ?_) (λ_ _ _ _=> ?_) |refine Ri nd rfl (by first |exact gr rfl |exact gv rfl) ?_)
 |(with_reducible show eO _ _ _ _ _ (aT _ _));refine Ri nd rfl (by first |exact gr rfl |exact gv rfl) ?_
 |(with_reducible show eO _ _ _ _ _ (rY _ _ _));refine B4 rfl nd rfl rfl (by decide) rfl rfl ?_ rfl
 |(with_reducible show eO _ _ _ _ _ (nN _ _ _));refine Ct ?_ ?_ ?_
 |(with_reducible show eO _ _ _ _ _ (nQ _ _));refine Jv nd rfl (by first |exact gr rfl |exact gv rfl) ?_
 |(with_reducible show eO _ _ _ _ _ (kQ _ _ _));(first |refine Jg nd rfl (by first |exact gr rfl |exact gv rfl) ?_ O3 |refine Jg nd rfl (by first |exact gr rfl |exact gv rfl) ?_ I0)
 |(with_reducible show eO _ _ _ _ _ (lZ _ _));refine Ms (by first |exact xk |exact xl) ?_ ?_
 |(with_reducible show eO _ _ _ _ _ (nR _ _ _));exact Ix (by first |exact xk |exact xl) rfl nd rfl rfl rfl (by first |exact gr rfl |exact gv (gr rfl)) (by first |exact gr rfl |exact gv rfl) (by first |exact gr rfl |exact gv (gr rfl)) (by decide) (by decide)
 |(with_reducible show eO _ _ _ _ _ (bK _ _ _));refine Gy (by first |exact xk |exact xl) rfl ?_ ?_ ?_)<;>trivial)
set_option hygiene true
section
variable{B:Bx}(X:XG B.K B.mg)(m:Mg B.mg)
include X m
theorem Uz(h:HF B.K "sign" Ml):tX B:=cP (N:=["number"]) X h cH λnd _ _ _ _ _ _ _ hr=>by unfold zH;trivial
theorem Qr(h:HF B.K "divisor" Uf):wP B:=cP (N:=["one","other","rest"]) X h cH λnd _ _ _ _ _ _ _ hr=>by unfold xL;trivial
theorem Ar(h:HF B.K "reduced" Te)(C_divisor:wP B):Pd B:=cP (N:=["numbers","common","number"]) X h cH λnd _ _ _ _ _ _ _ hr=>by unfold xD;trivial
theorem Gq{f:Addr}{fd:bj}{dsv:Array Value}(F:lH B.K "fraction" "fraction" qP f fd dsv)(C_sign:tX B)(C_divisor:wP B)(q_NoNumber:B.mg "NoNumber"=some (.ref (B.cl "NoNumber")))(x_NoNumber:ja B.K (B.cl "NoNumber") kA "ValueError.__new__"=true):eA B.P B.w B.K B.mg B.base (dG B.P B.w) 2 f fd ["top","bottom"] (jW B.K B.cl kW):=Xn (N:=["top","bottom","common"]) F cH λnd _ _ _ _ _ _ _ hr=>by unfold wQ;trivial
theorem Nr(h:HF B.K "divided" Rf)(H_fraction:wI B):Fe B:=cP (N:=["one","other"]) X h cH λnd _ _ _ _ _ _ _ hr=>by unfold xE;trivial
theorem Vt{f:Addr}{fd:bj}{dsv:Array Value}(F:lH B.K "point" "point" qW f fd dsv)(C_reduced:Pd B)(C_sign:tX B)(q_NoPoint:B.mg "NoPoint"=some (.ref (B.cl "NoPoint")))(x_NoPoint:ja B.K (B.cl "NoPoint") kA "ValueError.__new__"=true):eA B.P B.w B.K B.mg B.base (dG B.P B.w) 3 f fd ["numbers","bottom"] (jW B.K B.cl lU):=Xn (N:=["numbers","bottom"]) F cH λnd _ _ _ _ _ _ _ hr=>by unfold yR;trivial
theorem Rq(h:HF B.K "measures" Fd)(H_fraction:wI B):Qc B:=cP (N:=["p"]) X h cH λnd _ _ _ _ _ _ _ hr=>by unfold wS;trivial
theorem Fq(h:HF B.K "point_at" Zd)(H_point:yB B):Xc B:=cP (N:=["parts","bottom","part"]) X h cH λnd _ _ _ _ _ _ _ hr=>by unfold sT;trivial
theorem Vv(h:HF B.K "added" Ui)(H_point:yB B):Zg B:=cP (N:=["p","q","numbers"]) X h cH λnd _ _ _ _ _ _ _ hr=>by unfold yZ;trivial
theorem Kt(h:HF B.K "turned" Rg):Ze B:=cP (N:=["p"]) X h cH λnd _ _ _ _ _ _ _ hr=>by unfold yD;trivial
theorem Oq(h:HF B.K "lessened" Xd)(C_added:Zg B)(C_turned:Ze B):Nc B:=cP (N:=["p","q"]) X h cH λnd _ _ _ _ _ _ _ hr=>by unfold wZ;trivial
theorem Dp(h:HF B.K "whole_arrow" Gc):Dc B:=cP (N:=["start","end"]) X h cH λnd _ _ _ _ _ _ _ hr=>by unfold wE;trivial
theorem F5(h:HF B.K "dot" Rm):Wk B:=cP (N:=["u","v"]) X h cH λnd _ _ _ _ _ _ _ hr=>by unfold Ea;trivial
theorem Xr(h:HF B.K "normal" Og):Ye B:=cP (N:=["arrows","u","v"]) X h cH λnd _ _ _ _ _ _ _ hr=>by unfold tQ;trivial
theorem Ep(h:HF B.K "determinant" Fc)(C_whole_arrow:Dc B)(C_dot:Wk B)(C_normal:Ye B):Cc B:=cP (N:=["points","rows"]) X h cH λnd _ _ _ _ _ _ _ hr=>by unfold sL;trivial
theorem Sy(h:HF B.K "side" Nk)(C_sign:tX B)(C_determinant:Cc B):Ij B:=cP (N:=["points"]) X h cH λnd _ _ _ _ _ _ _ hr=>by unfold uP;trivial
theorem Zp(h:HF B.K "replaced" Ce):Vc B:=cP (N:=["row","place","value"]) X h cH λnd _ _ _ _ _ _ _ hr=>by unfold wV;trivial
theorem Qq(h:HF B.K "standing" Vd)(C_side:Ij B)(C_replaced:Vc B):Yc B:=cP (N:=["piece","p"]) X h cH λnd _ _ _ _ _ _ _ hr=>by unfold wR;trivial
theorem Iq(h:HF B.K "count_at" Hd)(C_standing:Yc B)(q_OnSide:B.mg "OnSide"=some (.ref (B.cl "OnSide")))(x_OnSide:ja B.K (B.cl "OnSide") kA "ValueError.__new__"=true):Zc B:=Oo (N:=["heap","p","count","piece","stand"]) X h cH λnd _ _ _ _ _ _ _ hr=>by unfold wX;trivial
theorem Nq(h:HF B.K "in_steps" Wd)(C_point_at:Xc B)(C_measures:Qc B)(C_divided:Fe B):wM B:=cP (N:=["p","grid"]) X h cH λnd _ _ _ _ _ _ _ hr=>by unfold sQ;trivial
theorem Bs(h:HF B.K "folded" Fh)(C_in_steps:wM B)(C_lessened:Nc B):Lf B:=cP (N:=["piece","grid"]) X h cH λnd _ _ _ _ _ _ _ hr=>by unfold yJ;trivial
theorem Ap(h:HF B.K "in_first_cell" Bc):Ac B:=cP (N:=["p"]) X h cH λnd _ _ _ _ _ _ _ hr=>by unfold wD;trivial
theorem Jp(h:HF B.K "spots_over" Kc):Hc B:=cP (N:=["piece","p","rows","k","numbers","longer","row"]) X h cH λnd _ _ _ _ _ _ _ hr=>by unfold wH;trivial
theorem Tt(h:HF B.K "layers" Ig)(C_in_first_cell:Ac B)(C_in_steps:wM B)(C_folded:Lf B)(C_spots_over:Hc B)(H_count_at:Zc B):Le B:=Oo (N:=["heap","grid","p","near","count","piece","pushed","spot"]) X h cH λnd _ _ _ _ _ _ _ hr=>by unfold xY;trivial
theorem A3(h:HF B.K "_law_row" Ul):Di B:=cP (N:=["_law_script","_law_row_here","_law_k","_law_cell","_law_one","_law_two","_law_three"]) X h cH λnd _ _ _ _ _ _ _ hr=>by unfold zZ;trivial
theorem Yt(h:HF B.K "_law_take" Dj):lS B:=cP (N:=["_law_row_here","_law_many","_law_found"]) X h cH λnd _ _ _ _ _ _ _ hr=>by unfold tW;trivial
theorem Bz(h:HF B.K "_law_gcd" Zk):Kj B:=cP (N:=["_law_one","_law_other"]) X h cH λnd _ _ _ _ _ _ _ hr=>by unfold zU;trivial
theorem Sr(h:HF B.K "_law_lowest" Se)(C_wgcd:Kj B):oK B:=cP (N:=["_law_numbers","_law_by","_law_number"]) X h cH λnd _ _ _ _ _ _ _ hr=>by unfold tE;trivial
theorem Ws(h:HF B.K "_law_whole" Jh):Ue B:=cP (N:=["_law_number"]) X h cH λnd _ _ _ _ _ _ _ hr=>by unfold xS;trivial
theorem Bw(h:HF B.K "_law_frac" Si)(C_wlowest:oK B):Xf B:=cP (N:=["_law_top","_law_bottom"]) X h cH λnd _ _ _ _ _ _ _ hr=>by unfold yY;trivial
theorem Rr(h:HF B.K "_law_joined" He)(C_wlowest:oK B):wT B:=cP (N:=["_law_p","_law_q","_law_way","_law_far_here"]) X h cH λnd _ _ _ _ _ _ _ hr=>by unfold xI;trivial
theorem Yz(h:HF B.K "_law_gap" Il):Ii B:=cP (N:=["_law_p","_law_q"]) X h cH λnd _ _ _ _ _ _ _ hr=>by unfold zJ;trivial
theorem Ss(h:HF B.K "_law_cross" Ih):Df B:=cP (N:=["_law_u","_law_v","_law_x","_law_y","_law_z"]) X h cH λnd _ _ _ _ _ _ _ hr=>by unfold yF;trivial
theorem B8(h:HF B.K "_law_dot" Cl):Oi B:=cP (N:=["_law_u","_law_v"]) X h cH λnd _ _ _ _ _ _ _ hr=>by unfold zW;trivial
theorem Tu(h:HF B.K "_law_turn" Wj)(C_wdot:Oi B)(C_wcross:Df B):xZ B:=cP (N:=["_law_ways"]) X h cH λnd _ _ _ _ _ _ _ hr=>by unfold nC;trivial
theorem A7(h:HF B.K "_law_det" Bk)(C_wturn:xZ B)(C_wgap:Ii B):Bj B:=cP (N:=["_law_points"]) X h cH λnd _ _ _ _ _ _ _ hr=>by unfold uQ;trivial
theorem Cq(h:HF B.K "_law_simplex" De)(C_wdet:Bj B):wJ B:=cP (N:=["_law_points","_law_told"]) X h cH λnd _ _ _ _ _ _ _ hr=>by unfold sP;trivial
theorem Kv(h:HF B.K "_law_gone" Aj)(C_wsimplex:wJ B)(C_wjoined:wT B):Zh B:=cP (N:=["_law_points","_law_way","_law_far_here"]) X h cH λnd _ _ _ _ _ _ _ hr=>by unfold yO;trivial
theorem Wp(h:HF B.K "_law_raw_turn" Ad)(C_wturn:xZ B):wG B:=cP (N:=["_law_corners"]) X h cH λnd _ _ _ _ _ _ _ hr=>by unfold qM;trivial
theorem Zx(h:HF B.K "_law_raw" Kl)(C_wtake:lS B)(C_wraw_turn:wG B):Li B:=cP (N:=["_law_row_here","_law_dims","_law_wide","_law_corners","_law_k"]) X h cH λnd _ _ _ _ _ _ _ hr=>by unfold zQ;trivial
theorem Ev(h:HF B.K "_law_kuhn" Tj)(C_wtake:lS B):Ag B:=mkL (N:=["_law_row_here","_law_rest","_law_corner","_law_corners","_law_k","_law_m"]) X h cH λnd _ _ _ _ _ _ _ hr=>by unfold tY;trivial
theorem Qp(h:HF B.K "_law_raw_heap" Uc)(C_wtake:lS B)(C_wraw:Li B)(C_wkuhn:Ag B):Jc B:=cP (N:=["_law_row_here","_law_dims","_law_many","_law_heap","_law_k","_law_kind"]) X h cH λnd _ _ _ _ _ _ _ hr=>by unfold wN;trivial
theorem Op(h:HF B.K "_law_raw_bulk" Cd)(C_wraw_turn:wG B):Mc B:=cP (N:=["_law_heap"]) X h cH λnd _ _ _ _ _ _ _ hr=>by unfold wK;trivial
theorem C9(h:HF B.K "_law_far" Ll)(C_wtake:lS B)(C_wlowest:oK B):yT B:=cP (N:=["_law_row_here","_law_dims","_law_kind","_law_wide","_law_under","_law_far_here"]) X h cH λnd _ _ _ _ _ _ _ hr=>by unfold Aa;trivial
theorem Kq(h:HF B.K "_law_stretch" Yd)(C_wtake:lS B)(C_wfrac:Xf B):Wc B:=cP (N:=["_law_row_here","_law_dims","_law_told","_law_k","_law_kind"]) X h cH λnd _ _ _ _ _ _ _ hr=>by unfold wY;trivial
theorem Xv(h:HF B.K "_law_spot" Fi)(C_wlowest:oK B):xR B:=cP (N:=["_law_corner","_law_stretch_here","_law_under","_law_part","_law_far_here"]) X h cH λnd _ _ _ _ _ _ _ hr=>by unfold uB;trivial
theorem Gv(h:HF B.K "_law_laid" Qi)(C_wfar:yT B)(C_wsimplex:wJ B)(C_wjoined:wT B)(C_wspot:xR B):Ug B:=cP (N:=["_law_row_here","_law_heap","_law_stretch_here","_law_told","_law_corners","_law_far_here"]) X h cH λnd _ _ _ _ _ _ _ hr=>by unfold yS;trivial
theorem Er(h:HF B.K "_law_handed" Nf)(C_wtake:lS B):Ld B:=cP (N:=["_law_row_here","_law_rows"]) X h cH λnd _ _ _ _ _ _ _ hr=>by unfold sW;trivial
theorem Iw(h:HF B.K "_law_over" Hj)(C_wtake:lS B)(C_wspot:xR B)(C_wlowest:oK B):Lh B:=cP (N:=["_law_row_here","_law_stretch_here","_law_far_here","_law_prime","_law_there"]) X h cH λnd _ _ _ _ _ _ _ hr=>by unfold yL;trivial
theorem F7{f:Addr}{fd:bj}(F:iG B.K "law" "law" mH f fd)(C_wrow:Di B)(C_wstretch:Wc B)(C_wraw_heap:Jc B)(C_wlaid:Ug B)(C_wgone:Zh B)(C_wfar:yT B)(C_wraw_bulk:Mc B)(C_wover:Lh B)(H_layers:Le B)(C_whanded:Ld B)(C_wwhole:Ue B):eA B.P B.w B.K B.mg B.base fB 8 f fd ["_law_script"] (kE B.K B.cl Ra):=mkR (N:=["_law_script","_law_row_here","_law_stretch_here","_law_raw_here","_law_heap","_law_elsewhere","_law_about","_law_points","_law_grid","_law_twice","_law_k","_law_p","_law_mate","_law_one","_law_other"]) F cH λnd _ _ _ _ _ _ _ hr=>by unfold Ba;trivial
end
local macro_rules
 | `(tactic|simp! [$l,*] $[$loc:location]?)=>`(tactic|simp[gO,aI,cX,bI,nX,iW,kT,vB,aaL,mIf,aC,bH,mR,mN,aB,aA,mC,aD,bO.bind,rR,kB,mF,Ka,gS,rd,mG,gW,eQ,fM,fF,bQ,rX,kH,cF.of,bF,U7,eK,dQ,aT,lY,kC,aP,fL,pP,kR,gC,kZ,dL,iI,frz,iV,$l,*] $[$loc]?)
theorem Hh(S:aG)(k:Nat)(o:SO):(S.set k o).take S.length=S.set k o:=xn (by simp)
def eT(S:aG)(k:Nat)(ns:AA):Prop:=S[k]?=some (.lst (ns.map .int))
theorem eT.lt{S:aG}{k:Nat}{ns:AA}(h:eT S k ns):k<S.length:=(ck.mp h).1
theorem eT.set{S:aG}{k:Nat}{ns:AA}(h:eT S k ns)(ms:AA):eT (S.set k (.lst (ms.map .int))) k ms:=fe h.lt
theorem Sd{r:bR}{k:Nat}{m:AV}:∀(ns:AA)(S:aG),eT S k ns->∃n ns',dZ (iW (bI (aC fJ (mR eQ (aB (aA 0) aD)) (mC (.int 0)))) (bI (aC dL (aC aE (aA 0) (mC (.int 0))) (mC (.int 0))))) (dQ (mJ (aA 0) (aB (mC (.int 0)) aD))) n (some (.ref k)::some m::r) S=.nx (some (.ref k)::some m::r) (S.set k (.lst (ns'.map .int)))/\ns'.length<=ns.length/\(ns'=[]\/∃i t,ns'=i::t/\i≠0)
 |[],S,h=>by
  refine⟨1,[],?_,ar _,.inl rfl⟩;have h':S[k]?=some (.lst []):=h;have e:S.set k (.lst (([]:AA).map .int))=S:=ox λi=>by
   by_cases q:k=i
   .subst q;rw[fe h.lt,h'];rfl
   .rw[ft q]
  rw[e];simp[dZ,iW,bI,aC,mR,aB,aA,mC,aD,bO.bind,mF,gS,rd,h',gW,eQ,kB,fJ,i2,kH,cF.of]
 |i::t,S,h=>by
  have h':S[k]?=some (.lst (.int i::t.map .int)):=h
  by_cases hi:i=0
  .subst hi
   have hr:eT (S.set k (.lst (t.map .int))) k t:=h.set t;obtain⟨n,ns',e,l,q⟩:=Sd (r:=r) (m:=m) t _ hr;refine⟨n+1,ns',?_,by simp;omega,q⟩;rw[kq]at e;rw[<-e];have hl:(0:Int)<(t.length:Int)+1:=by omega
   simp[dZ,iW,bI,aC,mR,aB,aA,mC,aD,bO.bind,mF,gS,rd,h',gW,eQ,kB,fJ,i2,kH,cF.of,aE,aV,aW,dL,aO,dQ,mJ,eW,nS,seqIndex?,hl]
  .refine⟨1,i::t,?_,ar _,.inr ⟨i,t,rfl,hi⟩⟩
   have e:S.set k (.lst ((i::t).map .int))=S:=ox λj=>by
    by_cases q:k=j
    .subst q;rw[fe h.lt,h'];rfl
    .rw[ft q]
   rw[e];have hl:(0:Int)<(t.length:Int)+1:=by omega
   simp[dZ,iW,bI,aC,mR,aB,aA,mC,aD,bO.bind,mF,gS,rd,h',gW,eQ,kB,fJ,i2,kH,cF.of,aE,aV,aW,dL,aO,hl,hi]
theorem iT{S:aG}{k:Nat}{ns:AA}{m:Int}(h:eT S k ns)(hm:0<m)(b:Bd 8000 m):∃(v:Int)(ns':AA),dE [.ref k,.pv (.int m)] S=.ok (.pv (.int v)) (S.set k (.lst (ns'.map .int)))/\0<=v/\v<m/\ns'.length<=ns.length:=by
 obtain⟨n,ns',e,l,q⟩:=Sd (r:=[none]) (m:=.pv (.int m)) ns S h;have hr:=h.set ns';have hl1:(S.set k (.lst (ns'.map .int))).length=S.length:=by simp
 have hss:∀x,(S.set k (.lst (ns'.map .int))).set k x=S.set k x:=λx=>kq ..;generalize hS1:S.set k (.lst (ns'.map .int))=S1 at e hr hl1 hss;have w:=xN e (by simp);rcases q with rfl |⟨i,t,rfl,hi⟩
 .refine⟨0,[],?_,ql 0,hm,iz _⟩
  rw[hS1];have hr':S1[k]?=some (.lst []):=hr;have tk:List.take S.length S1=S1:=xn (by omega);unfold dE aR tW;simp[gO,aI,w,cX,bI,aC,mR,aB,aA,mC,aD,bO.bind,mF,gS,rd,hr',gW,eQ,kB,dL,aO,kH,cF.of,bF,lY,kC,tk]
 .have hr':S1[k]?=some (.lst (.int i::t.map .int)):=hr
  refine⟨i.fmod m,i.fdiv m::t,?_,qp i hm,tj i hm,l⟩;rw[<-hss];have tk:∀x,List.take S.length (S1.set k x)=S1.set k x:=λx=>xn (by simp;omega);have hl:¬((t.length:Int)+1=0):=by omega
  have hq:nU i m:=⟨by omega,b⟩;have hm0:m≠0:=by omega
  unfold dE aR tW;simp[gO,aI,w,cX,bI,aC,mR,aB,aA,mC,aD,bO.bind,mF,gS,rd,hr',gW,eQ,kB,dL,aO,kH,cF.of,bF,lY,kC,tk,eK,hl,aT,fH,eE,i2,cI,aE,aV,aW,hm0,hq,nN,eW,pQ]
theorem aK(i j:Int):fJ (.int i) (.int j)=some (.bl (decide (j<i))):=rfl
theorem aN(i j:Int):lJ (.int i) (.int j)=some (.bl (decide (i<j))):=rfl
theorem aL(i j:Int):qI (.int i) (.int j)=some (.bl (decide (j<=i))):=rfl
theorem aM(i j:Int):fLe (.int i) (.int j)=some (.bl (decide (i<=j))):=rfl
theorem aJ(i j:Int):dW (.int i) (.int j)=some (.int (i-j)):=rfl
theorem jY{i j:Int}(h:nW i j):aS (.int i) (.int j)=some (.int (i*j)):=by
 simp[aS,i2,cI,h]
theorem jI{i j:Int}(h:nU i j):eE (.int i) (.int j)=some (.int (i.fdiv j)):=by
 simp[eE,i2,cI,h]
theorem kY{i j:Int}(h:j≠0):fH (.int i) (.int j)=some (.int (i.fmod j)):=by
 simp[fH,i2,cI,h]
theorem tU{i j:Int}(h:vJ i j):gJ (.int i) (.int j)=some (.int (i^j.toNat)):=by
 simp[gJ,i2,cI,h]
theorem tZ(n:Int)(S:aG):nI [.pv (.int n)] S=.ok (.pv (.int (sg n))) S:=by
 unfold nI aR zH sg
 by_cases h1:0<n
 .simp[gO,aI,cX,bI,aC,aA,mC,bO.bind,kB,rd,gW,fJ,i2,kH,cF.of,bF,lY,kC,h1]
 .by_cases h2:n<0
  .simp[gO,aI,cX,bI,aC,aA,mC,bO.bind,kB,rd,gW,fJ,lJ,i2,kH,cF.of,bF,lY,kC,h1,h2,eK,bH,rR,bQ]
  .simp[gO,aI,cX,bI,aC,aA,mC,bO.bind,kB,rd,gW,fJ,lJ,i2,kH,cF.of,bF,lY,kC,h1,h2,eK,bH,rR,bQ]
theorem Ic(S:aG):∀(m:Nat)(a b:Int)(x:AJ),b.natAbs<=m->∃(n:Nat)(g:Int)(x':AJ),dZ (bI (aC iI (aA 1) (mC (.int 0)))) (aI (aT 2 (aC fH (aA 0) (aA 1))) (aI (aT 0 (aA 1)) (aT 1 (aA 2)))) n [some (.pv (.int a)),some (.pv (.int b)),x] S=.nx [some (.pv (.int g)),some (.pv (.int 0)),x'] S/\g.natAbs=ce a b
 |0,a,b,x,h=>by
  have hb:b=0:=by omega
  subst hb;refine⟨1,a,x,?_,by simp⟩;simp! [dZ,aE,aV,aW,aO,aK,aN,aL,aM,aF,aJ]
 |m+1,a,b,x,h=>by
  by_cases hb:b=0
  .subst hb
   refine⟨1,a,x,?_,by simp⟩;simp! [dZ,aE,aV,aW,aO,aK,aN,aL,aM,aF,aJ]
  .have hl:=Ke a hb
   obtain⟨n,g,x',e,q⟩:=Ic S m b (a.fmod b) (some (.pv (.int (a.fmod b)))) (by omega);refine⟨n+1,g,x',?_,by rw[q,Lg]⟩;rw[<-e];simp! [dZ,aE,aV,aW,aO,aK,aN,aL,aM,aF,aJ,kY hb,hb]
theorem Md(a b:Int)(S:aG):oV [.pv (.int a),.pv (.int b)] S=.ok (.pv (.int (ce a b:Nat))) S:=by
 obtain⟨n,g,x',e,q⟩:=Ic S b.natAbs a b none (ar _);have w:=xN e (by simp);unfold oV aR xL;have hg:(if g<0 then-g else g)=((ce a b:Nat):Int):=by rw[<-q];exact zR g
 simp! [aE,aV,aW,aO,aK,aN,aL,aM,aF,aJ,w,hg]
theorem Je(S:aG):∀(m:Nat)(a b:Int),0<=a->0<=b->b.natAbs<=m->∃(n:Nat),dZ (bI (aC fJ (aA 1) (mC (.int 0)))) (rY 0 1 (aB (aA 1) (aB (aC fH (aA 0) (aA 1)) aD))) n [some (.pv (.int a)),some (.pv (.int b))] S=.nx [some (.pv (.int (ce a b:Nat))),some (.pv (.int 0))] S
 |0,a,b,ha,hb,h=>by
  have hb:b=0:=by omega
  subst hb;have ea:((ce a 0:Nat):Int)=a:=by simp;omega
  refine⟨1,?_⟩;rw[ea];simp! [dZ,aE,aV,aW,aO,aK,aN,aL,aM,aF,aJ]
 |m+1,a,b,ha,hb,h=>by
  by_cases h0:b=0
  .subst h0
   have ea:((ce a 0:Nat):Int)=a:=by simp;omega
   refine⟨1,?_⟩;rw[ea];simp! [dZ,aE,aV,aW,aO,aK,aN,aL,aM,aF,aJ]
  .have hl:=Ke a h0
   have hp:0<b:=by omega
   obtain⟨n,e⟩:=Je S m b (a.fmod b) hb (qp a hp) (by omega);refine⟨n+1,?_⟩;rw[<-Lg,<-e];simp! [dZ,aE,aV,aW,aO,aK,aN,aL,aM,aF,aJ,kY h0,hp,rY]
theorem P5(a b:Int)(S:aG):rK [.pv (.int a),.pv (.int b)] S=.ok (.pv (.int (ce a b:Nat))) S:=by
 have ha:0<=(if a<0 then-a else a):=by split<;>omega
 have hb:0<=(if b<0 then-b else b):=by split<;>omega
 obtain⟨n,e⟩:=Je S _ _ _ ha hb (ar _);have w:=xN e (by simp);have eg:ce (if a<0 then-a else a) (if b<0 then-b else b)=ce a b:=by
  rw[zR,zR];simp[ce]
 rw[eg]at w;unfold rK aR zU;simp! [aE,aV,aW,aO,aK,aN,aL,aM,aF,aJ,w]
theorem xU(S:aG)(v2:AJ):∀(ns:AA)(g:Int)(a:AV),∃v',cJ [] (gN 2) (aT 1 (aP rK [] (aB (aA 1) (aB (aA 2) aD)))) (ns.map .int) [some a,some (.pv (.int g)),v2] S=.nx [some a,some (.pv (.int (gl ns g))),v'] S
 |[],g,a=>⟨v2,fE⟩
 |n::ns,g,a=>by
  obtain⟨v',e⟩:=xU S (some (.pv (.int n))) ns (ce g n:Nat) a;refine⟨v',?_⟩;show cJ [] _ _ (.int n::ns.map .int) _ S=_;rw[dY];simp! [gN,aE,aV,aW,aO,aK,aN,aL,aM,aF,aJ,P5];exact e
theorem tL(S:aG)(g:Int)(hg:g≠0)(b:Bd 8000 g):∀(ns:AA)(x:AJ),bZ [] (gN 0) (aC eE (aA 0) (aA 1)) (ns.map .int) [x,some (.pv (.int g))] S=.ok ((ns.map λn=>n.fdiv g).map .int) S
 |[],x=>dP
 |n::ns,x=>by
  have ih:=tL S g hg b ns (some (.pv (.int n)));show bZ [] _ _ (.int n::ns.map .int) _ S=_;rw[dS];simp! [gN,aE,aV,aW,aO,aK,aN,aL,aM,aF,aJ,jI (show nU n g from⟨hg,b⟩),ih]
theorem oU(ns:AA)(S:aG)(hb:∀n∈ns,Bd 8000 n):jF [.pv (.lst (ns.map .int))] S=.ok (.pv (.tup ((low ns).map .int))) S:=by
 obtain⟨v',e⟩:=xU S none ns 0 (.pv (.lst (ns.map .int)));unfold jF aR tE
 by_cases h:gl ns 0=0
 .have el:low ns=ns:=by unfold low;rw[if_pos h]
  simp! [aE,aV,aW,aO,aK,aN,aL,aM,aF,aJ,bK,bD,bS,e,h,el]
 .have el:low ns=ns.map λn=>n.fdiv (gl ns 0):=by
   unfold low;rw[if_neg h];exact il λn hn=>(oo ((jM ns 0).2 n hn)).symm
  have bg:Bd 8000 (gl ns 0):=uV (Bd.of (n:=0) (by simp) (tm 8000)) hb;have ec:=tL S (gl ns 0) h bg ns none;simp! [aE,aV,aW,aO,aK,aN,aL,aM,aF,aJ,bK,bD,bS,e,h,el,bB,cD,ec]
theorem Kg(n:Int)(S:aG):nA [.pv (.int n)] S=.ok (.pv (.bl true)) S:=by
 unfold nA aR xS;simp! [aE,aV,aW,aO,aK,aN,aL,aM,aF,aJ,jQ]
theorem lA(i:Int){j:Int}(h1:-(2^64)<j)(h2:j<2^64):aS (.int i) (.int j)=some (.int (i*j)):=jY (.inl (.inr ⟨h1,h2⟩))
theorem Po:gJ (.int 10) (.int 18)=some (.int 1000000000000000000):=tU (i:=10) (j:=18) ⟨by decide,by decide,by decide⟩
theorem xX{k:Nat}{a:AV}:∀(cs:AA)(n:Nat)(acc:AA)(S:aG)(v2 v3 v4 v5 v6:AJ),eT S k acc->acc.length+cs.length<=63->n+cs.length<=63->∃(acc':AA)(w2 w3 w4 w5 w6:AJ),cJ [] (gT 2 (cQ (gN 2) (cQ (gN 3) eJ))) ((cX (bI (aC qI (aA 3) (aC gJ (mC (.int 10)) (mC (.int 18))))) (dQ (dB (aA 1) (aB (aC dW (aA 3) (aC gJ (mC (.int 10)) (mC (.int 18)))) aD))) (aI (aT 4 (aC fH (aC aS (aC aF (aC aF (aC aF (aA 3) (aC aS (aC aS (mC (.int 7)) (aA 2)) (aA 2))) (aC aS (mC (.int 13)) (aA 2))) (mC (.int 5))) (mC (.int 48271))) (mC (.int 2147483647))))
 (aI (aT 5 (aC fH (aC aS (aC aF (aC aF (aC aF (aA 3) (aC aS (aC aS (mC (.int 11)) (aA 2)) (aA 2))) (aC aS (mC (.int 17)) (aA 2))) (mC (.int 3))) (mC (.int 40692))) (mC (.int 2147483399))))
 (aI (aT 6 (aC fH (aC aS (aC aF (aC aF (aC aF (aA 3) (aC aS (aC aS (mC (.int 5)) (aA 2)) (aA 2))) (aC aS (mC (.int 29)) (aA 2))) (mC (.int 8))) (mC (.int 39373))) (mC (.int 2147483587))))
 (aI (aT 4 (aC fH (aC aS (aA 4) (mC (.int 52021))) (mC (.int 1000000007))))
 (aI (aT 5 (aC fH (aC aS (aA 5) (mC (.int 30011))) (mC (.int 998244353))))
 (aI (aT 6 (aC fH (aC aS (aA 6) (mC (.int 45989))) (mC (.int 1000000009))))
 (dQ (dB (aA 1) (aB (aC aF (aC aS (aC aF (aC aS (aA 4) (mC (.int 998244353))) (aA 5)) (mC (.int 1000000009))) (aA 6)) aD))))))))))) (iJ n (cs.map .int)) [some a,some (.ref k),v2,v3,v4,v5,v6] S=.nx [some a,some (.ref k),w2,w3,w4,w5,w6] (S.set k (.lst (acc'.map .int)))/\acc'.length<=63
 |[],n,acc,S,v2,v3,v4,v5,v6,h,hl,_=>by
  refine⟨acc,v2,v3,v4,v5,v6,?_,by simpa using hl⟩;have e:S.set k (.lst (acc.map .int))=S:=ox λj=>by
   by_cases q:k=j
   .subst q;rw[fe h.lt];exact h.symm
   .rw[ft q]
  rw[e];exact fE
 |x::cs,n,acc,S,v2,v3,v4,v5,v6,h,hl,hn=>by
  simp only[db]at hl hn;have h':S[k]?=some (.lst (acc.map .int)):=h;have hlen:acc.length<16777216:=by omega
  have hk1:-(2^64)<(n:Int):=by omega
  have hk2:(n:Int)<2^64:=by omega
  by_cases c:(1000000000000000000:Int)<=x
  .obtain⟨acc',w2,w3,w4,w5,w6,e,q⟩:=xX (k:=k) (a:=a) cs (n+1) (acc++[x-1000000000000000000]) (S.set k (.lst ((acc++[x-1000000000000000000]).map .int))) (some (.pv (.int n))) (some (.pv (.int x))) v4 v5 v6 (h.set _) (by simp;omega) (by omega)
   refine⟨acc',w2,w3,w4,w5,w6,?_,q⟩;rw[kq]at e;rw[<-e];show cJ [] _ _ (.tup [.int n,.int x]::iJ (n+1) (cs.map .int)) _ S=_;rw[dY];simp! [gT,cQ,eJ,gN,aE,aV,aW,aO,aK,aN,aL,aM,aF,aJ,Po,c,dB,eW,gU,h',hlen]
  .obtain⟨acc',w2,w3,w4,w5,w6,e,q⟩:=xX (k:=k) (a:=a) cs (n+1) (acc++[((((x+7*n*n+13*n+5)*48271).fmod 2147483647*52021).fmod 1000000007*998244353+(((x+11*n*n+17*n+3)*40692).fmod 2147483399*30011).fmod 998244353)*1000000009+(((x+5*n*n+29*n+8)*39373).fmod 2147483587*45989).fmod 1000000009]) (S.set k (.lst ((acc++[((((x+7*n*n+13*n+5)*48271).fmod 2147483647*52021).fmod 1000000007*998244353+(((x+11*n*n+17*n+3)*40692).fmod 2147483399*30011).fmod 998244353)*1000000009+(((x+5*n*n+29*n+8)*39373).fmod 2147483587*45989).fmod 1000000009]).map .int))) (some (.pv (.int n))) (some (.pv (.int x))) (some (.pv (.int ((((x+7*n*n+13*n+5)*48271).fmod 2147483647*52021).fmod 1000000007)))) (some (.pv (.int ((((x+11*n*n+17*n+3)*40692).fmod 2147483399*30011).fmod 998244353)))) (some (.pv (.int ((((x+5*n*n+29*n+8)*39373).fmod 2147483587*45989).fmod 1000000009)))) (h.set _) (by simp;omega) (by omega)
   refine⟨acc',w2,w3,w4,w5,w6,?_,q⟩;rw[kq]at e;rw[<-e];show cJ [] _ _ (.tup [.int n,.int x]::iJ (n+1) (cs.map .int)) _ S=_;rw[dY];simp! [gT,cQ,eJ,gN,aE,aV,aW,aO,aK,aN,aL,aM,aF,aJ,Po,c,dB,eW,gU,h',hlen,lA _ hk1 hk2,lA _ (show-(2^64)<(48271:Int) by decide) (by decide),lA _ (show-(2^64)<(40692:Int) by decide) (by decide),lA _ (show-(2^64)<(39373:Int) by decide) (by decide),lA _ (show-(2^64)<(52021:Int) by decide) (by decide),lA _ (show-(2^64)<(30011:Int) by decide) (by decide),lA _ (show-(2^64)<(45989:Int) by decide) (by decide),lA _ (show-(2^64)<(998244353:Int) by decide) (by decide),lA _ (show-(2^64)<(1000000009:Int) by decide) (by decide),kY (show(2147483647:Int)≠0 by decide),kY (show(2147483399:Int)≠0 by decide),kY (show(2147483587:Int)≠0 by decide),kY (show(1000000007:Int)≠0 by decide),kY (show(998244353:Int)≠0 by decide),kY (show(1000000009:Int)≠0 by decide)]
theorem O0(ns:AA)(S:aG)(h:ns.length<=63):∃ms:AA,pM [.pv (.lst (ns.map .int))] S=.ok (.ref S.length) (S++[.lst (ms.map .int)])/\ms.length<=63:=by
 have hr:eT (S++[.lst []]) S.length []:=by unfold eT;simp
 obtain⟨ms,w2,w3,w4,w5,w6,e,q⟩:=xX (a:=.pv (.lst (ns.map .int))) ns 0 [] (S++[.lst []]) none none none none none hr (by simpa using h) (by simpa using h);have ec:iX (ns.map .int) none (some 63)=ns.map .int:=by
  unfold iX;have e1:HT.sIx (ns.map PV.int).length 0 none=0:=rfl;have e2:HT.sIx (ns.map PV.int).length (ns.map PV.int).length (some 63)=(ns.map PV.int).length:=by
   have:=HT.sIx_nat (ns.map PV.int).length (ns.map PV.int).length 63;rw[show((63:Nat):Int)=63 from rfl]at this;rw[this,ak];omega
  rw[e1,e2,List.drop_zero,Nat.sub_zero,ww]
 refine⟨ms,?_,q⟩;have es:(S++[SO.lst []]).set S.length (.lst (ms.map .int))=S++[.lst (ms.map .int)]:=by simp
 rw[es]at e;unfold pM aR zZ;simp! [aE,aV,aW,aO,aK,aN,aL,aM,aF,aJ,bK,eI,jP,uX,dC,cO,dD,fN,iF,zX,ec,e]
theorem Oj{L:AA}(h:gl L 0=1):low L=L:=by
 unfold low;rw[h,if_neg (by decide)]
 conv=>rhs;rw[<-sf L]
 exact il λn _=>Int.ediv_one n
def PT(L:AA)(b:Int):AA:=(low (L++[b])).map (sg b*·)
theorem aaP{L:AA}{b:Int}(hb:b≠0):gl (L++[b]) 0≠0:=mI (jH L b) hb
theorem Bm{L:AA}{b:Int}(hb:0<b):PT L b=low (L++[b]):=by
 unfold PT sg;rw[if_pos hb]
 conv=>rhs;rw[<-sf (low (L++[b]))]
 exact il λn _=>ij n
theorem Eh(S:aG)(v2:AJ):∀(ns:AA)(g:Int)(a:AV),∃v',cJ [] (gN 2) (aT 1 (aP oV [] (aB (aA 1) (aB (aA 2) aD)))) (ns.map .int) [some a,some (.pv (.int g)),v2] S=.nx [some a,some (.pv (.int (gl ns g))),v'] S
 |[],g,a=>⟨v2,fE⟩
 |n::ns,g,a=>by
  obtain⟨v',e⟩:=Eh S (some (.pv (.int n))) ns (ce g n:Nat) a;refine⟨v',?_⟩;show cJ [] _ _ (.int n::ns.map .int) _ S=_;rw[dY];simp! [gN,aE,aV,aW,aO,aK,aN,aL,aM,aF,aJ,Md];exact e
theorem Hr(ns:AA)(S:aG)(hb:∀n∈ns,Bd 8000 n)(h:gl ns 0≠0):tG [.pv (.lst (ns.map .int))] S=.ok (.pv (.lst ((low ns).map .int))) S:=by
 obtain⟨v',e⟩:=Eh S none ns 0 (.pv (.lst (ns.map .int)));have el:low ns=ns.map λn=>n.fdiv (gl ns 0):=by
  unfold low;rw[if_neg h];exact il λn hn=>(oo ((jM ns 0).2 n hn)).symm
 have bg:Bd 8000 (gl ns 0):=uV (Bd.of (n:=0) (by simp) (tm 8000)) hb;have ec:=tL S (gl ns 0) h bg ns none;unfold tG aR xD;simp! [aE,aV,aW,aO,aK,aN,aL,aM,aF,aJ,bK,bD,bS,e,h,el,bB,cD,ec]
theorem Ai(S:aG)(b:Int):∀(ns:AA)(x:AJ),bZ [] (gN 0) (aC aS (aP nI [] (aB (aA 1) aD)) (aA 0)) (ns.map .int) [x,some (.pv (.int b))] S=.ok ((ns.map (sg b*·)).map .int) S
 |[],x=>dP
 |n::ns,x=>by
  have ih:=Ai S b ns (some (.pv (.int n)));have hm:aS (.int (sg b)) (.int n)=some (.int (sg b*n)):=jY (.inl (.inl (Uw b)));show bZ [] _ _ (.int n::ns.map .int) _ S=_;rw[dS];simp! [gN,aE,aV,aW,aO,aK,aN,aL,aM,aF,aJ,tZ,hm,ih]
theorem Vg{w:PV}(L:AA)(b:Int)(S:aG)(hw:w=.lst (L.map .int)\/w=.tup (L.map .int))(hL:∀n∈L,Bd 8000 n)(bb:Bd 8000 b)(hb:b≠0)(hl:L.length<=100):lU [.pv w,.pv (.int b)] S=.ok (.pv (.tup ((PT L b).map .int))) S:=by
 have e1:=Hr (L++[b]) S (λn hn=>by
  rcases cv.mp hn with z |z
  .exact hL n z
  .have:n=b:=by simpa using z
   rw[this];exact bb) (aaP hb)
 have e2:=Ai S b (low (L++[b])) none;have hz:L.length+1<=16777216:=by omega
 simp only[gi,az,cq]at e1;unfold PT lU aR yR;rcases hw with rfl |rfl<;>simp! [aE,aV,aW,aO,aK,aN,aL,aM,aF,aJ,hb,hz,e1,bD,bS,bB,cD,e2]
theorem Yw(zs:AA)(z:Int):iX ((zs++[z]).map .int) none (some (-1))=zs.map .int:=by
 unfold iX;have e1:HT.sIx ((zs++[z]).map PV.int).length 0 none=0:=rfl;have e2:HT.sIx ((zs++[z]).map PV.int).length ((zs++[z]).map PV.int).length (some (-1))=zs.length:=by
  rw[ak,bn];exact yK zs.length _
 rw[e1,e2];simp
theorem Ts(zs:AA)(z:Int):¬(HT.sIx ((zs++[z]).map PV.int).length 0 none=0/\HT.sIx ((zs++[z]).map PV.int).length ((zs++[z]).map PV.int).length (some (-1))=((zs++[z]).map PV.int).length):=by
 rintro⟨_,e⟩
 have e2:HT.sIx ((zs++[z]).map PV.int).length ((zs++[z]).map PV.int).length (some (-1))=zs.length:=by
  rw[ak,bn];exact yK zs.length _
 rw[e2,ak,bn]at e;simp at e
theorem nB(zs:AA)(z:Int):iF (.tup ((zs++[z]).map .int)) none (some (-1))=some (.tup (zs.map .int)):=by
 unfold iF;dsimp only;rw[if_neg (Ts zs z),Yw]
theorem jG(zs:AA)(z:Int):aE (.tup ((zs++[z]).map .int)) (.int (-1))=some (.int z):=by
 show aV ((zs++[z]).map PV.int) (-1)=_;rw[gi];exact Mw _ _
theorem jV{m:Int}(h0:0<=m)(h:m<1024):Bd 8000 m:=Bd.of (n:=1023) (by omega) (df (show 1023<2^10 by decide) (yz (by decide) (by decide)))
theorem bJ(n:Nat)(a b:Int):aO n (.int a) (.int b)=some (a==b):=by cases n<;>rfl
theorem mB{a b:Int}(h:Bd 2000 a)(g:Bd 2000 b):aS (.int a) (.int b)=some (.int (a*b)):=jY (.inr ⟨h.mono (by decide),g.mono (by decide)⟩)
structure Pt(n:Nat)(xs:AA)(w:Int):Prop where
 len:xs.length=n
 pos:0<w
 low:low (xs++[w])=xs++[w]
 bx:∀x∈xs,Bd 300 x
 bw:Bd 300 w
theorem Gh(S:aG)(PL QL:AH)(w v:Int)(hp:aE (.tup PL) (.int (-1))=some (.int w))(hq:aE (.tup QL) (.int (-1))=some (.int v))(bw:Bd 2000 w)(bv:Bd 2000 v):∀(xs ys:AA)(x y:AJ),xs.length=ys.length->(∀x∈xs,Bd 2000 x)->(∀y∈ys,Bd 2000 y)->
  bZ [] (gT 2 (cQ (gN 0) (cQ (gN 1) eJ))) (aC aF (aC aS (aA 0) (aC aE (aA 2) (bH bQ (mC (.int 1))))) (aC aS (aA 1) (aC aE (aA 3) (bH bQ (mC (.int 1)))))) (eN (xs.map .int) (ys.map .int)) [x,y,some (.pv (.tup QL)),some (.pv (.tup PL))] S=.ok ((sm xs w ys v).map .int) S
 |[],ys,x,y,hl,_,_=>by
  have:ys=[]:=ow.mp hl.symm;subst this;exact dP
 |a::xs,[],x,y,hl,_,_=>by cases hl
 |a::xs,b::ys,x,y,hl,hx,hy=>by
  have ih:=Gh S PL QL w v hp hq bw bv xs ys (some (.pv (.int a))) (some (.pv (.int b))) (by simpa using hl) (λm hm=>hx m (bh _ hm)) (λm hm=>hy m (bh _ hm));have m1:=mB (hx a cf) bv;have m2:=mB (hy b cf) bw;show bZ [] _ _ (.tup [.int a,.int b]::eN (xs.map .int) (ys.map .int)) _ S=_;rw[dS];simp! [gT,cQ,eJ,gN,bJ,aK,aN,aL,aM,aF,aJ,hp,hq,m1,m2,ih,sm]
theorem aah{xs ys:AA}{w v:Int}{k:Nat}(hx:∀x∈xs,Bd k x)(hy:∀y∈ys,Bd k y)(hw:Bd k w)(hv:Bd k v):∀n∈sm xs w ys v,Bd (k+k+1) n:=λn hn=>by
 unfold sm at hn;obtain⟨i,hi,e⟩:=kn hn;rw[qq]at e;rw[<-e];exact((hx _ (eh _)).mul hv).add ((hy _ (eh _)).mul hw)
theorem Bu{xs ys:AA}{w v:Int}(S:aG)(hl:xs.length=ys.length)(h9:xs.length<=9)(hw:0<w)(hv:0<v)(hx:∀x∈xs,Bd 2000 x)(hy:∀y∈ys,Bd 2000 y)(bw:Bd 2000 w)(bv:Bd 2000 v):
  tR [.pv (.tup ((xs++[w]).map .int)),.pv (.tup ((ys++[v]).map .int))] S=.ok (.pv (.tup ((low (sm xs w ys v++[w*v])).map .int))) S:=by
 have ip:=jG xs w;have iq:=jG ys v;have sp:=nB xs w;have sq:=nB ys v;have ec:=Gh S _ _ w v ip iq bw bv xs ys none none hl hx hy;have mm:=mB bw bv;have hp:=ao hw hv;have ep:=Vg (w:=.lst ((sm xs w ys v).map .int)) (sm xs w ys v) (w*v) S (.inl rfl) (λn hn=>(aah hx hy bw bv n hn).mono (by decide)) ((bw.mul bv).mono (by decide)) (by omega) (by rw[N4 hl];omega);rw[Bm hp]at ep;generalize (xs++[w]).map PV.int=PL at ip sp ec;generalize (ys++[v]).map PV.int=QL at iq sq ec;unfold tR aR yZ;simp! [bJ,aK,aN,aL,aM,aF,aJ,bB,fG,gI,bS,dC,cO,dD,fN,sp,sq,cD,ec,ip,iq,mm,ep]
theorem Zf(S:aG):∀(ns:AA)(x:AJ),bZ [] (gN 0) (bH bQ (aA 0)) (ns.map .int) [x] S=.ok ((ns.map (- ·)).map .int) S
 |[],x=>dP
 |n::ns,x=>by
  have ih:=Zf S ns (some (.pv (.int n)));show bZ [] _ _ (.int n::ns.map .int) _ S=_;rw[dS];simp! [gN,aE,aV,aW,aO,aK,aN,aL,aM,aF,aJ,ih]
theorem As(xs:AA)(w:Int)(S:aG)(h9:xs.length<=9):tK [.pv (.tup ((xs++[w]).map .int))] S=.ok (.pv (.tup ((xs.map (- ·)++[w]).map .int))) S:=by
 have ip:=jG xs w;have sp:=nB xs w;have ec:=Zf S xs none;have hz:xs.length+1<=16777216:=by omega
 generalize (xs++[w]).map PV.int=PL at ip sp;unfold tK aR yD;simp! [bJ,aK,aN,aL,aM,aF,aJ,bB,bD,bS,dC,cO,dD,fN,sp,cD,ec,ip,hz]
theorem Jq{xs ys:AA}{w v:Int}(S:aG)(hl:xs.length=ys.length)(h9:xs.length<=9)(hw:0<w)(hv:0<v)(hx:∀x∈xs,Bd 2000 x)(hy:∀y∈ys,Bd 2000 y)(bw:Bd 2000 w)(bv:Bd 2000 v):
  mY [.pv (.tup ((xs++[w]).map .int)),.pv (.tup ((ys++[v]).map .int))] S=.ok (.pv (.tup ((low (sm xs w (ys.map (- ·)) v++[w*v])).map .int))) S:=by
 have e1:=As ys v S (by omega);have e2:=Bu (ys:=ys.map (- ·)) S (by rw[ak];exact hl) h9 hw hv hx (λn hn=>by
  obtain⟨m,hm,rfl⟩:=cj.mp hn;exact(hy m hm).neg) bw bv
 generalize (xs++[w]).map PV.int=PL at e2;generalize (ys++[v]).map PV.int=QL at e1;generalize (ys.map (- ·)++[v]).map PV.int=RL at e1 e2;unfold mY aR wZ;simp! [aE,aV,aW,aO,aK,aN,aL,aM,aF,aJ,e1,e2]
def mv(way:Int)(xs:AA)(w:Int)(ys:AA)(v:Int):AA:=if way=1 then low (sm xs w ys v++[w*v])else low (sm ys v (xs.map (- ·)) w++[v*w])
theorem uL(zs:AA)(z:Int)(j:Nat)(h:j<zs.length):aE (.tup ((zs++[z]).map .int)) (.int (j:Nat))=some (.int (zs.getD j 0)):=by
 show aV ((zs++[z]).map PV.int) (j:Int)=_;refine lV ?_;rw[di,du h,av h];simp[cy,h]
theorem Rj(S:aG)(PL QL:AH)(xs ys:AA)(w v way:Int)(hp:aE (.tup PL) (.int (-1))=some (.int w))(hq:aE (.tup QL) (.int (-1))=some (.int v))(hpj:∀j:Nat,j<xs.length->aE (.tup PL) (.int (j:Nat))=some (.int (xs.getD j 0)))(hqj:∀j:Nat,j<xs.length->aE (.tup QL) (.int (j:Nat))=some (.int (ys.getD j 0)))
  (hway:way=1\/way=-1)(bw:Bd 1000 w)(bv:Bd 1000 v)(hx:∀j,Bd 1000 (xs.getD j 0))(hy:∀j,Bd 1000 (ys.getD j 0)):∀(js:List Nat)(x:AJ),(∀j∈js,j<xs.length)->
  bZ [] (gN 0) (aC aF (aC aS (aC aS (aA 1) (aC aE (aA 3) (aA 0))) (aC aE (aA 2) (bH bQ (mC (.int 1))))) (aC aS (aC aE (aA 2) (aA 0)) (aC aE (aA 3) (bH bQ (mC (.int 1)))))) (js.map λj=>.int (0+(j:Nat))) [x,some (.pv (.int way)),some (.pv (.tup QL)),some (.pv (.tup PL))] S=.ok ((js.map λj=>way*xs.getD j 0*v+ys.getD j 0*w).map .int) S
 |[],x,_=>dP
 |j::js,x,h=>by
  have ih:=Rj S PL QL xs ys w v way hp hq hpj hqj hway bw bv hx hy js (some (.pv (.int (0+(j:Nat))))) λi hi=>h i (bh _ hi);have e1:=hpj j (h j cf);have e2:=hqj j (h j cf);have b1:Bd 2 way:=by rcases hway with rfl |rfl<;>exact Bd.of (n:=1) (by decide) (by decide)
  have m0:=mB (b1.mono (show 2<=2000 by decide)) ((hx j).mono (show 1000<=2000 by decide));have m1:=mB ((b1.mul (hx j)).mono (show 2+1000<=2000 by decide)) (bv.mono (show 1000<=2000 by decide));have m2:=mB ((hy j).mono (show 1000<=2000 by decide)) (bw.mono (show 1000<=2000 by decide));show bZ [] _ _ (.int (0+(j:Nat))::js.map λj=>.int (0+(j:Nat))) _ S=_;rw[dS];simp only[qm]at ih⊢;generalize hX:xs.getD j 0=X at e1 m0 m1;generalize hY:ys.getD j 0=Y at e2 m2;simp! [gN,bJ,aK,aN,aL,aM,aF,aJ,e1,e2,hp,hq,m0,m1,m2,ih];simp only[dm]at hX hY;rw[hX,hY]
theorem tV{xs:AA}{k:Nat}(h:∀x∈xs,Bd k x)(j:Nat):Bd k (xs.getD j 0):=by
 by_cases hj:j<xs.length
 .have e:xs.getD j 0=xs[j]:=by simp[cy,hj]
  rw[e];exact h _ (eh hj)
 .have e:xs.getD j 0=0:=by simp[cy,hj]
  rw[e];exact Bd.of (n:=0) (by decide) (tm k)
theorem Ve{xs ys:AA}(hl:xs.length=ys.length)(f:Int->Int->Int):(ax xs.length).map (λj=>f (xs.getD j 0) (ys.getD j 0))=bo f xs ys:=by
 refine xh (by simp[hl]) λi h1 h2=>?_;have hi:i<xs.length:=by simpa using h1
 have hj:i<ys.length:=by omega
 simp[cy,hi,hj]
theorem Es{xs ys:AA}{w v way:Int}(S:aG)(hl:xs.length=ys.length)(h9:xs.length<=9)(hway:way=1\/way=-1)(hx:∀x∈xs,Bd 1000 x)(hy:∀y∈ys,Bd 1000 y)(bw:Bd 1000 w)(bv:Bd 1000 v):
  kJ [.pv (.tup ((xs++[w]).map .int)),.pv (.tup ((ys++[v]).map .int)),.pv (.int way)] S=.ok (.pv (.tup ((low (bo (λx y=>way*x*v+y*w) xs ys++[w*v])).map .int))) S:=by
 have ip:=jG xs w;have iq:=jG ys v;have ec:=Rj S _ _ xs ys w v way ip iq (λj h=>uL xs w j h) (λj h=>uL ys v j (by omega)) hway bw bv (tV hx) (tV hy) (ax xs.length) none λj hj=>by simpa using hj
 have er:(ax xs.length).map (λj=>way*xs.getD j 0*v+ys.getD j 0*w)=bo (λx y=>way*x*v+y*w) xs ys:=Ve hl λx y=>way*x*v+y*w;rw[er]at ec;have mm:=mB (bw.mono (show 1000<=2000 by decide)) (bv.mono (show 1000<=2000 by decide));have b1:Bd 2 way:=by rcases hway with rfl |rfl<;>exact Bd.of (n:=1) (by decide) (by decide)
 have el:=oU (bo (λx y=>way*x*v+y*w) xs ys++[w*v]) S (λn hn=>by
  rcases cv.mp hn with z |z
  .obtain⟨i,hi,e⟩:=kn z
   rw[qq]at e;rw[<-e];exact((((b1.mul (hx _ (eh _))).mul bv).mono (show 2+1000+1000<=3000 by decide)).add (((hy _ (eh _)).mul bw).mono (show 1000+1000<=3000 by decide))).mono (by decide)
  .have:n=w*v:=by simpa using z
   rw[this];exact(bw.mul bv).mono (by decide))
 have hlen:((xs++[w]).map PV.int).length=xs.length+1:=by simp
 have hz:xs.length+1<=16777216:=by omega
 have hr:iY [.pv (.int (((xs.length+1:Nat):Int)-1))] S=.ok ((ax xs.length).map λj=>.int (0+(j:Nat)),[]) S:=by
  unfold iY;dsimp only;rw[if_pos ⟨by omega,by omega⟩];have:(((xs.length+1:Nat):Int)-1).toNat=xs.length:=by omega
  rw[this];rfl
 have hzl:(bo (λx y=>way*x*v+y*w) xs ys).length+1<=16777216:=by rw[iy];omega
 simp only[gi,az,cq]at el;generalize hZ:(bo (λx y=>way*x*v+y*w) xs ys).map PV.int=ZL at ec el;have hzl2:ZL.length+1<=16777216:=by rw[<-hZ,ak];exact hzl
 generalize (ax xs.length).map (λj=>PV.int (0+(j:Nat)))=RL at ec hr;generalize hP:(xs++[w]).map PV.int=PL at ip ec hlen;generalize (ys++[v]).map PV.int=QL at iq ec;unfold kJ aR xI;have hr2:=hr;rw[<-hlen]at hr2;simp! [bJ,aK,aN,aL,aM,aF,aJ,bB,cZ,hr2,cD,ec,ip,iq,mm,hzl2,el]
theorem Rh{k:Nat}{W:Int}(W0:0<=W)(W1:W<=1000000000000):∀(is:AH)(S:aG)(ns:AA)(x:AJ),eT S k ns->∃(xs ns':AA),bZ [] (gN 0) (aC dW (aP dE [] (aB (aA 2) (aB (aC aF (aC aS (mC (.int 2)) (aA 1)) (mC (.int 1))) aD))) (aA 1)) is [x,some (.pv (.int W)),some (.ref k)] S=.ok (xs.map .int) (S.set k (.lst (ns'.map .int)))/\xs.length=is.length/\∀n∈xs,Bd 50 n
 |[],S,ns,x,h=>by
  refine⟨[],ns,?_,rfl,λ_ h=>absurd h ee⟩;have e:S.set k (.lst (ns.map .int))=S:=ox λj=>by
   by_cases q:k=j
   .subst q;rw[fe h.lt];exact h.symm
   .rw[ft q]
  rw[e];exact dP
 |i::is,S,ns,x,h=>by
  obtain⟨t,n1,e1,t0,t1,_⟩:=iT (m:=2*W+1) h (by omega) ((Bd.of (k:=50) (n:=2000000000001) (by omega) (by decide)).mono (by decide));obtain⟨xs,n2,e2,l2,b2⟩:=Rh W0 W1 is _ n1 (some (.pv i)) (h.set n1);rw[kq]at e2;have m2:aS (.int 2) (.int W)=some (.int (2*W)):=jY (.inl (.inl ⟨by decide,by decide⟩));refine⟨(t-W)::xs,n2,?_,by simp[l2],λn hn=>?_⟩
  .rw[dS]
   generalize S.set k (.lst (n1.map .int))=S1 at e1 e2;simp! [gN,aE,aV,aW,aO,aK,aN,aL,aM,aF,aJ,m2,e1,e2]
  .rcases ci.mp hn with rfl |hn
   .exact Bd.of (n:=1000000000000) (by omega) (by decide)
   .exact b2 n hn
theorem R3{v:Int}(h0:0<=v)(h1:v<4):∃M:Int,aE (.lst [.int 0,.int 3,.int 9,.int 1000000000000]) (.int v)=some (.int M)/\0<=M/\M<=1000000000000:=by
 have c:v=0\/v=1\/v=2\/v=3:=by omega
 rcases c with rfl |rfl |rfl |rfl
 .exact⟨0,rfl,by decide,by decide⟩
 .exact⟨3,rfl,by decide,by decide⟩
 .exact⟨9,rfl,by decide,by decide⟩
 .exact⟨1000000000000,rfl,by decide,by decide⟩
theorem p12:gJ (.int 10) (.int 12)=some (.int 1000000000000):=tU (i:=10) (j:=12) ⟨by decide,by decide,by decide⟩
theorem Y4{v:Int}(h0:0<=v)(h1:v<4):0<=v.fdiv 2/\v.fdiv 2<=1:=by
 have c:v=0\/v=1\/v=2\/v=3:=by omega
 rcases c with rfl |rfl |rfl |rfl<;>decide
theorem E9{n k:Nat}{L:AA}{b:Int}(hb:0<b)(hl:L.length=n)(hk:k<=300)(hL:∀x∈L,Bd k x)(bb:Bd k b):∃(zs:AA)(z:Int),low (L++[b])=zs++[z]/\Pt n zs z/\(∀x∈zs,Bd k x)/\Bd k z:=by
 obtain⟨zs,z,g,e,hg,hz,_,_,hzl⟩:=uD L hb;have hbd:=uN (k:=k) (ns:=L++[b]) λm hm=>by
  rcases cv.mp hm with y |y
  .exact hL m y
  .have:m=b:=by simpa using y
   rw[this];exact bb
 have hlow:=zD L hb;rw[e]at hbd hlow;have b1:∀x∈zs,Bd k x:=λx hx=>hbd x (kd _ hx);have b2:Bd k z:=hbd z (jH zs z);exact⟨zs,z,e,⟨hzl.trans hl,hz,hlow,λx hx=>(b1 x hx).mono hk,b2.mono hk⟩,b1,b2⟩
theorem N9{S:aG}{k:Nat}{ns:AA}(n:Nat)(hn:n=2\/n=3)(h:eT S k ns):∃(xs:AA)(w:Int)(ns':AA),jL [.ref k,.pv (.int n)] S=.ok (.pv (.tup ((xs++[w]).map .int))) (S.set k (.lst (ns'.map .int)))/\Pt n xs w/\(∀x∈xs,Bd 100 x)/\Bd 100 w:=by
 obtain⟨c,n1,e1,c0,c1,_⟩:=iT (m:=4) h (by decide) (jV (by decide) (by decide));obtain⟨M,em,M0,M1⟩:=R3 c0 c1;obtain⟨t,n2,e2,t0,t1,_⟩:=iT (m:=9) (h.set n1) (by decide) (jV (by decide) (by decide));rw[kq]at e2;obtain⟨xs,n3,e3,l3,b3⟩:=Rh M0 M1 (cR 0 n) _ n2 none (h.set n2);rw[kq]at e3;have hc:=Y4 c0 c1;have mt:aS (.int t) (.int (c.fdiv 2))=some (.int (t*c.fdiv 2)):=jY (.inl (.inl ⟨by omega,by omega⟩));have qt:eE (.int c) (.int 2)=some (.int (c.fdiv 2)):=jI ⟨by decide,jV (by decide) (by decide)⟩;have hm:0<=t*c.fdiv 2/\t*c.fdiv 2<=8:=by
  have c2:c.fdiv 2=0\/c.fdiv 2=1:=by omega
  rcases c2 with z |z<;>rw[z]<;>omega
 have lx:xs.length=n:=by rw[l3];unfold cR;simp
 generalize t*c.fdiv 2=tc at mt hm;obtain⟨zs,z,ez,P,b1,b2⟩:=E9 (n:=n) (k:=100) (L:=xs) (b:=1+tc) (by omega) lx (by decide) (λx hx=>(b3 x hx).mono (by decide)) (Bd.of (n:=9) (by omega) (by decide));have el:=oU (xs++[1+tc]) (S.set k (.lst (n3.map .int))) (λm hm=>by
  rcases cv.mp hm with y |y
  .exact(b3 m y).mono (by decide)
  .have:m=1+tc:=by simpa using y
   rw[this];exact(Bd.of (k:=4) (n:=9) (by omega) (by decide)).mono (by decide))
 rw[ez]at el;refine⟨zs,z,n3,?_,P,b1,b2⟩;have tk3:=Hh S k (.lst (n3.map .int));have hz:xs.length+1<=16777216:=by omega
 generalize S.set k (.lst (n1.map .int))=S1 at e1 e2;generalize S.set k (.lst (n2.map .int))=S2 at e2 e3;generalize S.set k (.lst (n3.map .int))=S3 at e3 el tk3;have hr:iY [.pv (.int (n:Int))] S2=.ok (cR 0 n,[]) S2:=by
  unfold iY;dsimp only;rw[if_pos ⟨by omega,by omega⟩];rfl
 conv at el=>lhs;rw[gi]
 simp only[az,cq]at el;generalize (zs++[z]).map PV.int=ZL at el;unfold jL aR Aa;simp! [bJ,aK,aN,aL,aM,aF,aJ,p12,e1,em,e2,mt,qt,bB,cZ,hr,cD,e3,hz,el,tk3]
theorem Qe{way:Int}(h:way=1\/way=-1)(xs:AA)(w:Int)(ys:AA)(v:Int):low (bo (λx y=>way*x*v+y*w) xs ys++[w*v])=mv way xs w ys v:=by
 unfold mv;rcases h with rfl |rfl
 .rw[if_pos rfl,Cr]
 .rw[if_neg (by decide),Aq,cw w v]
structure Pq(n k:Nat)(xs:AA)(w:Int):Prop where
 len:xs.length=n
 pos:0<w
 low:low (xs++[w])=xs++[w]
 bx:∀x∈xs,Bd k x
 bw:Bd k w
def Vl(n:Nat)(xs:AA)(w:Int)(N:Nat->Int)(D:Int):Prop:=∀j,j<n->xs.getD j 0*D=N j*w
theorem Vl.self(n:Nat)(xs:AA)(w:Int):Vl n xs w (λj=>xs.getD j 0) w:=λ_ _=>rfl
theorem rE{a b c:Int}(h:0<c)(e:a*c=b*c):a=b:=jn (by omega) e
theorem Pq.same{n k k':Nat}{xs ys:AA}{w v:Int}(P:Pq n k xs w)(Q:Pq n k' ys v)(h:∀j,j<n->xs.getD j 0*v=ys.getD j 0*w):xs++[w]=ys++[v]:=by
 rw[<-P.low,<-Q.low];refine xW (k:=v) (m:=w) Q.pos P.pos (mI (jH xs w) (by have:=P.pos;omega)) ?_;rw[gi,gi];congr 1
 .refine xh (by simp[P.len,Q.len]) λj h1 h2=>?_
  have hj:j<n:=by rw[<-P.len];simpa using h1
  have e:=h j hj;have a1:xs.getD j 0=xs[j]'(by rw[P.len];exact hj):=by simp[cy,P.len,hj]
  have a2:ys.getD j 0=ys[j]'(by rw[Q.len];exact hj):=by simp[cy,Q.len,hj]
  rw[a1,a2]at e;rw[xf,xf];rw[cw v,cw w];exact e
 .simp only[az,cq]
  rw[cw]
theorem Pq.eq{n k k':Nat}{xs ys:AA}{w v:Int}{N M:Nat->Int}{D E:Int}(P:Pq n k xs w)(Q:Pq n k' ys v)(a:Vl n xs w N D)(b:Vl n ys v M E)(hD:0<D)(hE:0<E)(h:∀j,j<n->N j*E=M j*D):xs++[w]=ys++[v]:=by
 refine P.same Q λj hj=>?_;have e1:=a j hj;have e2:=b j hj;have e3:=h j hj;refine rE (c:=D*E) (ao hD hE) ?_;grind
theorem Wz{xs ys:AA}{f:Int->Int->Int}{j:Nat}(h1:j<xs.length)(h2:j<ys.length):(bo f xs ys).getD j 0=f (xs.getD j 0) (ys.getD j 0):=by
 have:j<(bo f xs ys).length:=by rw[iy];omega
 simp only[cy,av this,av h1,av h2,i3,qq]
theorem Wm{n k l:Nat}{way:Int}{xs ys:AA}{w v:Int}(hway:way=1\/way=-1)(P:Pq n k xs w)(Q:Pq n l ys v):∃(zs:AA)(z:Int),mv way xs w ys v=zs++[z]/\Pq n (k+l+1) zs z/\
  ∀(N M:Nat->Int)(D E:Int),Vl n xs w N D->Vl n ys v M E->0<D->0<E->Vl n zs z (λj=>way*N j*E+M j*D) (D*E):=by
 rw[<-Qe hway];have hb:=ao P.pos Q.pos;have hl:(bo (λx y=>way*x*v+y*w) xs ys).length=n:=by rw[iy,P.len,Q.len];omega
 obtain⟨zs,z,g,e,hg,hz,g1,g2,hzl⟩:=uD (bo (λx y=>way*x*v+y*w) xs ys) hb;have hlow:=zD (bo (λx y=>way*x*v+y*w) xs ys) hb;have hbd:=uN (k:=k+l+1) (ns:=bo (λx y=>way*x*v+y*w) xs ys++[w*v]) λm hm=>by
  rcases cv.mp hm with y |y
  .obtain⟨i,hi,e⟩:=kn y
   rw[qq]at e;rw[<-e];have b1:=(P.bx _ (eh (l:=xs) (n:=i) (by rw[iy]at hi;omega))).mul Q.bw;have b2:=(Q.bx _ (eh (l:=ys) (n:=i) (by rw[iy]at hi;omega))).mul P.bw;have b3:Bd (k+l) (way*xs[i]'(by rw[iy]at hi;omega)*v):=by
    rcases hway with rfl |rfl
    .rw[ij];exact b1
    .have:(-1:Int)*xs[i]'(by rw[iy]at hi;omega)*v=-(xs[i]'(by rw[iy]at hi;omega)*v):=by rw[ki,ij,ki]
     rw[this];exact b1.neg
   exact b3.add (b2.mono (by omega))
  .have:m=w*v:=by simpa using y
   rw[this];exact(P.bw.mul Q.bw).mono (by omega)
 rw[e]at hbd hlow;refine⟨zs,z,e,⟨hzl.trans hl,hz,hlow,λx hx=>hbd x (kd _ hx),hbd z (jH zs z)⟩,λN M D E a b hD hE j hj=>?_⟩;have h1:(bo (λx y=>way*x*v+y*w) xs ys).getD j 0=g*zs.getD j 0:=by
  rw[g1];have:j<zs.length:=by rw[hzl,hl];exact hj
  simp[cy,this]
 rw[Wz (by rw[P.len];exact hj) (by rw[Q.len];exact hj)]at h1;have a1:=a j hj;have b1:=b j hj;generalize xs.getD j 0=X at a1 h1;generalize ys.getD j 0=Y at b1 h1;generalize zs.getD j 0=Z at h1⊢;show Z*(D*E)=(way*N j*E+M j*D)*z;generalize M j=B,N j=A at *;refine rE (c:=g*(w*v)) (ao hg hb) ?_;have p1:=P.pos;have p2:=Q.pos;have k1:(way*X*v+Y*w)*(D*E)=(way*A*E+B*D)*(w*v):=by grind
 have k2:Z*(D*E)*(g*(w*v))=(way*X*v+Y*w)*(D*E)*(w*v):=by rw[h1];grind
 rw[k2,k1,g2];grind
theorem Pt.pq{n k:Nat}{xs:AA}{w:Int}(P:Pt n xs w)(b:∀x∈xs,Bd k x)(bw:Bd k w):Pq n k xs w:=⟨P.len,P.pos,P.low,b,bw⟩
theorem Pq.mono{n k l:Nat}{xs:AA}{w:Int}(P:Pq n k xs w)(h:k<=l):Pq n l xs w:=⟨P.len,P.pos,P.low,λx hx=>(P.bx x hx).mono h,P.bw.mono h⟩
theorem Qy{n k l:Nat}{way:Int}{xs ys:AA}{w v:Int}(S:aG)(hn:n=2\/n=3)(hway:way=1\/way=-1)(P:Pq n k xs w)(Q:Pq n l ys v)(hk:k<=1000)(hl:l<=1000):kJ [.pv (.tup ((xs++[w]).map .int)),.pv (.tup ((ys++[v]).map .int)),.pv (.int way)] S=.ok (.pv (.tup ((mv way xs w ys v).map .int))) S:=by
 have e:=Es (way:=way) S (P.len.trans Q.len.symm) (by rw[P.len];omega) hway (λx hx=>(P.bx x hx).mono hk) (λx hx=>(Q.bx x hx).mono hl) (P.bw.mono hk) (Q.bw.mono hl);rw[Qe hway]at e;exact e
theorem hrg(S:aG):iY [.pv (.int 3)] S=.ok ([.int 0,.int 1,.int 2],[]) S:=by
 have h:cR 0 (3:Int).toNat=[.int 0,.int 1,.int 2]:=rfl;rw[<-h];unfold iY;dsimp only;rw[if_pos ⟨by omega,by omega⟩]
theorem B3(t b:Int)(S:aG)(ht:Bd 8000 t)(hb:Bd 8000 b):qV [.pv (.int t),.pv (.int b)] S=.ok (.pv (.tup ((fr t b).map .int))) S:=by
 unfold qV aR yY fr;have e1:=oU [0-t,0-b] S (by
  intro n hn;rcases ci.mp hn with rfl |hn
  .rw[ig];exact ht.neg
  .have:n=0-b:=by simpa using hn
   rw[this,ig];exact hb.neg)
 have e2:=oU [t,b] S (by
  intro n hn;rcases ci.mp hn with rfl |hn
  .exact ht
  .have:n=b:=by simpa using hn
   rw[this];exact hb)
 by_cases h:b<0
 .simp only[az,cq,ig]at e1
  simp! [aE,aV,aW,aO,aK,aN,aL,aM,aF,aJ,h,e1]
 .simp only[az,cq]at e2
  simp! [aE,aV,aW,aO,aK,aN,aL,aM,aF,aJ,h,e2]
theorem Oc(t b:Int)(S:aG)(ht:Bd 7000 t)(hb:Bd 7000 b)(h:b≠0):kW [.pv (.int t),.pv (.int b)] S=.ok (.pv (.tup ((fr t b).map .int))) S:=by
 have gb:Bd 7000 ((ce t b:Nat):Int):=ht.gcd hb;have sb:Bd 2 (sg b):=by
  unfold sg;split
  .unfold Bd;simp
  .split<;>(unfold Bd;simp)
 have mb:nW (sg b) (ce t b:Nat):=.inr ⟨sb.mono (by decide),gb.mono (by decide)⟩;have nz:sg b*(ce t b:Nat)≠0:=by
  have gp:=rL (kF t b) h;rw[uO]at gp;rcases Sg h with⟨_,s⟩|⟨_,s⟩<;>rw[s]<;>omega
 have qb:∀x,nU x (sg b*(ce t b:Nat)):=λx=>⟨nz,(sb.mul gb).mono (by decide)⟩;rw[<-Xs h];unfold kW aR wQ;simp! [aE,aV,aW,aO,aK,aN,aL,aM,aF,aJ,h,tZ,Md,jY mb,jI (qb t),jI (qb b)]
theorem oR:∀is:AA,gR (is.map .int)=some is
 |[]=>rfl
 |i::is=>by
  have ih:=oR is;show(match gR (is.map .int)with |some bs=>some (i::bs) |none=>none)=_
  rw[ih]
theorem xG(is:AA):mL [.lst (is.map .int)]=some (.int is.sum):=by
 simp only[mL,oR,Option.map_some]
def wa(xs:AA)(w:Int)(ys:AA)(v:Int):AA:=bo (λx y=>y*w-x*v) xs ys
theorem Nj(S:aG)(PL QL:AH)(w v:Int)(hp:aE (.tup PL) (.int (-1))=some (.int w))(hq:aE (.tup QL) (.int (-1))=some (.int v))(bw:Bd 2000 w)(bv:Bd 2000 v):∀(xs ys:AA)(x y:AJ),xs.length=ys.length->(∀x∈xs,Bd 2000 x)->(∀y∈ys,Bd 2000 y)->
  bZ [] (gT 2 (cQ (gN 0) (cQ (gN 1) eJ))) (aC dW (aC aS (aA 1) (aC aE (aA 2) (bH bQ (mC (.int 1))))) (aC aS (aA 0) (aC aE (aA 3) (bH bQ (mC (.int 1)))))) (eN (xs.map .int) (ys.map .int)) [x,y,some (.pv (.tup PL)),some (.pv (.tup QL))] S=.ok ((wa xs w ys v).map .int) S
 |[],ys,x,y,hl,_,_=>by
  have:ys=[]:=ow.mp hl.symm;subst this;exact dP
 |a::xs,[],x,y,hl,_,_=>by cases hl
 |a::xs,b::ys,x,y,hl,hx,hy=>by
  have ih:=Nj S PL QL w v hp hq bw bv xs ys (some (.pv (.int a))) (some (.pv (.int b))) (by simpa using hl) (λm hm=>hx m (bh _ hm)) (λm hm=>hy m (bh _ hm));have m1:=mB (hx a cf) bv;have m2:=mB (hy b cf) bw;show bZ [] _ _ (.tup [.int a,.int b]::eN (xs.map .int) (ys.map .int)) _ S=_;rw[dS];simp! [gT,cQ,eJ,gN,bJ,aK,aN,aL,aM,aF,aJ,hp,hq,m1,m2,ih,wa]
theorem Bi{xs ys:AA}{w v:Int}(S:aG)(hl:xs.length=ys.length)(hx:∀x∈xs,Bd 2000 x)(hy:∀y∈ys,Bd 2000 y)(bw:Bd 2000 w)(bv:Bd 2000 v):
  oH [.pv (.tup ((xs++[w]).map .int)),.pv (.tup ((ys++[v]).map .int))] S=.ok (.pv (.lst ((wa xs w ys v).map .int))) S:=by
 have ip:=jG xs w;have iq:=jG ys v;have sp:=nB xs w;have sq:=nB ys v;have ec:=Nj S _ _ w v ip iq bw bv xs ys none none hl hx hy;generalize (xs++[w]).map PV.int=PL at ip sp ec;generalize (ys++[v]).map PV.int=QL at iq sq ec;unfold oH aR wE;simp! [bJ,aK,aN,aL,aM,aF,aJ,bB,fG,gI,bS,dC,cO,dD,fN,sp,sq,cD,ec]
theorem yH(S:aG):∀(us vs:AA)(x y:AJ),(∀x∈us,Bd 100000 x)->(∀y∈vs,Bd 100000 y)->
  bZ [] (gT 2 (cQ (gN 0) (cQ (gN 1) eJ))) (aC aS (aA 0) (aA 1)) (eN (us.map .int) (vs.map .int)) [x,y] S=.ok ((bo (·*·) us vs).map .int) S
 |[],vs,x,y,_,_=>by
  show bZ [] _ _ [] _ S=_;exact dP
 |a::us,[],x,y,_,_=>by
  show bZ [] _ _ [] _ S=_;exact dP
 |a::us,b::vs,x,y,hx,hy=>by
  have ih:=yH S us vs (some (.pv (.int a))) (some (.pv (.int b))) (λm hm=>hx m (bh _ hm)) (λm hm=>hy m (bh _ hm));have m1:aS (.int a) (.int b)=some (.int (a*b)):=jY (.inr ⟨(hx a cf).mono (by decide),(hy b cf).mono (by decide)⟩);show bZ [] _ _ (.tup [.int a,.int b]::eN (us.map .int) (vs.map .int)) _ S=_;rw[dS];simp! [gT,cQ,eJ,gN,bJ,aK,aN,aL,aM,aF,aJ,m1,ih]
def dt(us vs:AA):Int:=(bo (·*·) us vs).sum
def Sq(A:PV)(us:AA):Prop:=A=.lst (us.map .int)\/A=.tup (us.map .int)
theorem Yl{A B:PV}{us vs:AA}(S:aG)(hA:Sq A us)(hB:Sq B vs)(hx:∀x∈us,Bd 100000 x)(hy:∀y∈vs,Bd 100000 y):vA [.pv A,.pv B] S=.ok (.pv (.int (dt us vs))) S:=by
 have ec:=yH S us vs none none hx hy;have es:=xG (bo (·*·) us vs);unfold dt;generalize (bo (·*·) us vs).map PV.int=ZL at ec es;generalize (bo (·*·) us vs).sum=Z at es;unfold vA aR Ea;rcases hA with rfl |rfl<;>rcases hB with rfl |rfl<;>
  (generalize us.map PV.int=UL at ec⊢;generalize vs.map PV.int=VL at ec⊢;simp! [bJ,aK,aN,aL,aM,aF,aJ,bB,fG,gI,bS,cD,ec,es])
theorem Mj{A B:PV}{us vs:AA}(S:aG)(hA:Sq A us)(hB:Sq B vs)(hx:∀x∈us,Bd 100000 x)(hy:∀y∈vs,Bd 100000 y):uC [.pv A,.pv B] S=.ok (.pv (.int (dt us vs))) S:=by
 have ec:=yH S us vs none none hx hy;have es:=xG (bo (·*·) us vs);unfold dt;generalize (bo (·*·) us vs).map PV.int=ZL at ec es;generalize (bo (·*·) us vs).sum=Z at es;unfold uC aR zW;rcases hA with rfl |rfl<;>rcases hB with rfl |rfl<;>
  (generalize us.map PV.int=UL at ec⊢;generalize vs.map PV.int=VL at ec⊢;simp! [bJ,aK,aN,aL,aM,aF,aJ,bB,fG,gI,bS,cD,ec,es])
theorem dN{k l:Nat}{a b:Int}(h:Bd k a)(g:Bd l b)(hk:k<=1000000:=by decide)(hl:l<=1000000:=by decide):aS (.int a) (.int b)=some (.int (a*b)):=jY (.inr ⟨h.mono hk,g.mono hl⟩)
theorem Yy(a b:Int)(S:aG):oW [.pv (.lst [.lst [.int a,.int b]])] S=.ok (.pv (.lst [.int (-b),.int a])) S:=by
 unfold oW aR tQ;simp! [aE,aV,aW,aO,aK,aN,aL,aM,aF,aJ]
theorem Xz{a b c d e f:Int}(S:aG)(ha:Bd 10000 a)(hb:Bd 10000 b)(hc:Bd 10000 c)(hd:Bd 10000 d)(he:Bd 10000 e)(hf:Bd 10000 f):oW [.pv (.lst [.lst [.int a,.int b,.int c],.lst [.int d,.int e,.int f]])] S=.ok (.pv (.lst [.int (b*f-c*e),.int (c*d-a*f),.int (a*e-b*d)])) S:=by
 have m1:=dN hb hf;have m2:=dN hc he;have m3:=dN hc hd;have m4:=dN ha hf;have m5:=dN ha he;have m6:=dN hb hd;unfold oW aR tQ;simp! [aE,aV,aW,aO,aK,aN,aL,aM,aF,aJ,m1,m2,m3,m4,m5,m6]
theorem Dh{A B:PV}{a b c d e f:Int}(S:aG)(hA:A=.lst [.int a,.int b,.int c])(hB:B=.lst [.int d,.int e,.int f])(ha:Bd 10000 a)(hb:Bd 10000 b)(hc:Bd 10000 c)(hd:Bd 10000 d)(he:Bd 10000 e)(hf:Bd 10000 f):tM [.pv A,.pv B] S=.ok (.pv (.lst [.int (b*f-c*e),.int (c*d-a*f),.int (a*e-b*d)])) S:=by
 have m1:=dN hb hf;have m2:=dN hc he;have m3:=dN hc hd;have m4:=dN ha hf;have m5:=dN ha he;have m6:=dN hb hd;unfold tM aR yF;subst hA hB;simp! [aE,aV,aW,aO,aK,aN,aL,aM,aF,aJ,m1,m2,m3,m4,m5,m6]
structure P2(x y w:Int):Prop where
 bx:Bd 1000 x
 by_:Bd 1000 y
 bw:Bd 1000 w
 pos:0<w
structure P3(x y z w:Int):Prop where
 bx:Bd 1000 x
 by_:Bd 1000 y
 bz:Bd 1000 z
 bw:Bd 1000 w
 pos:0<w
abbrev v2(x y w:Int):PV:=.tup [.int x,.int y,.int w]
abbrev v3(x y z w:Int):PV:=.tup [.int x,.int y,.int z,.int w]
def Sv(A:PV)(L:AH):Prop:=A=.lst L\/A=.tup L
theorem Ho(p:PV)(L:AH):iX (p::L) (some 1) none=L:=by
 unfold iX;have e1:HT.sIx (p::L).length 0 (some 1)=1:=by
  rw[show(some (1:Int))=some ((1:Nat):Int) from rfl,HT.sIx_nat,db];omega
 rw[e1];show((p::L).drop 1).take ((p::L).length-1)=L;simp
theorem nP(p:PV)(L:AH):iF (.lst (p::L)) (some 1) none=some (.lst L):=by
 unfold iF;dsimp only;rw[Ho]
theorem uT(p:PV)(L:AH):iF (.tup (p::L)) (some 1) none=some (.tup L):=by
 unfold iF;dsimp only;have e1:HT.sIx (p::L).length 0 (some 1)=1:=by
  rw[show(some (1:Int))=some ((1:Nat):Int) from rfl,HT.sIx_nat,db];omega
 rw[if_neg (by rw[e1];simp),Ho]
theorem Nl(L:AH)(p:PV):iF (.lst (L++[p])) none (some (-1))=some (.lst L):=by
 unfold iF;dsimp only;unfold iX;have e1:HT.sIx (L++[p]).length (L++[p]).length (some (-1))=L.length:=by
  rw[bn];exact yK L.length _
 rw[e1];show some (PV.lst (((L++[p]).drop 0).take (L.length-0)))=_;simp
theorem Ck{x0 y0 w0 x1 y1 w1:Int}(S:aG)(p:P2 x0 y0 w0)(q:P2 x1 y1 w1):oH [.pv (v2 x0 y0 w0),.pv (v2 x1 y1 w1)] S=.ok (.pv (.lst [.int (x1*w0-x0*w1),.int (y1*w0-y0*w1)])) S:=by
 have e:=Bi (xs:=[x0,y0]) (ys:=[x1,y1]) (w:=w0) (v:=w1) S rfl (by simp;exact⟨p.bx.mono (by decide),p.by_.mono (by decide)⟩) (by simp;exact⟨q.bx.mono (by decide),q.by_.mono (by decide)⟩) (p.bw.mono (by decide)) (q.bw.mono (by decide));exact e
theorem zM{x0 y0 z0 w0 x1 y1 z1 w1:Int}(S:aG)(p:P3 x0 y0 z0 w0)(q:P3 x1 y1 z1 w1):oH [.pv (v3 x0 y0 z0 w0),.pv (v3 x1 y1 z1 w1)] S=.ok (.pv (.lst [.int (x1*w0-x0*w1),.int (y1*w0-y0*w1),.int (z1*w0-z0*w1)])) S:=by
 have e:=Bi (xs:=[x0,y0,z0]) (ys:=[x1,y1,z1]) (w:=w0) (v:=w1) S rfl (by simp;exact⟨p.bx.mono (by decide),p.by_.mono (by decide),p.bz.mono (by decide)⟩) (by simp;exact⟨q.bx.mono (by decide),q.by_.mono (by decide),q.bz.mono (by decide)⟩) (p.bw.mono (by decide)) (q.bw.mono (by decide));exact e
theorem sb{x0 w0 x1 w1:Int}(a:Bd 1000 x0)(b:Bd 1000 w0)(c:Bd 1000 x1)(d:Bd 1000 w1):Bd 2001 (x1*w0-x0*w1):=((c.mul b).mono (show 1000+1000<=2000 by decide)).sub ((a.mul d).mono (show 1000+1000<=2000 by decide))
theorem cb{a b c d:Int}(h1:Bd 2001 a)(h2:Bd 2001 b)(h3:Bd 2001 c)(h4:Bd 2001 d):Bd 4003 (a*b-c*d):=((h1.mul h2).mono (show 2001+2001<=4002 by decide)).sub ((h3.mul h4).mono (show 2001+2001<=4002 by decide))
def D2(x0 y0 w0 x1 y1 w1 x2 y2 w2:Int):Int:=w0*(x1*y2-y1*x2)-w1*(x0*y2-y0*x2)+w2*(x0*y1-y0*x1)
def D3(x0 y0 z0 w0 x1 y1 z1 w1 x2 y2 z2 w2 x3 y3 z3 w3:Int):Int:=
 w0*((y1*z2-z1*y2)*x3+(z1*x2-x1*z2)*y3+(x1*y2-y1*x2)*z3)-w1*((y0*z2-z0*y2)*x3+(z0*x2-x0*z2)*y3+(x0*y2-y0*x2)*z3)
 +w2*((y0*z1-z0*y1)*x3+(z0*x1-x0*z1)*y3+(x0*y1-y0*x1)*z3)-w3*((y0*z1-z0*y1)*x2+(z0*x1-x0*z1)*y2+(x0*y1-y0*x1)*z2)
theorem aas(x0 y0 w0 x1 y1 w1 x2 y2 w2:Int):dt [-(y1*w0-y0*w1),x1*w0-x0*w1] [x2*w0-x0*w2,y2*w0-y0*w2]=w0*D2 x0 y0 w0 x1 y1 w1 x2 y2 w2:=by
 simp only[dt,D2,xo,xp,my,tq];grind
theorem Kn(x0 y0 z0 w0 x1 y1 z1 w1 x2 y2 z2 w2 x3 y3 z3 w3:Int):dt [(y1*w0-y0*w1)*(z2*w0-z0*w2)-(z1*w0-z0*w1)*(y2*w0-y0*w2),(z1*w0-z0*w1)*(x2*w0-x0*w2)-(x1*w0-x0*w1)*(z2*w0-z0*w2),(x1*w0-x0*w1)*(y2*w0-y0*w2)-(y1*w0-y0*w1)*(x2*w0-x0*w2)] [x3*w0-x0*w3,y3*w0-y0*w3,z3*w0-z0*w3]=w0*w0*D3 x0 y0 z0 w0 x1 y1 z1 w1 x2 y2 z2 w2 x3 y3 z3 w3:=by
 simp only[dt,D3,xo,xp,my,tq];grind
theorem uH{w d:Int}(h:0<w):sg (w*d)=sg d:=by
 unfold sg
 by_cases h1:0<d
 .rw[if_pos (ao h h1),if_pos h1]
 .by_cases h2:d<0
  .have:w*d<0:=zh h h2
   rw[if_neg (by omega),if_pos this,if_neg h1,if_pos h2]
  .have:d=0:=by omega
   subst this;rw[se]
theorem Ny{A:PV}{x0 y0 w0 x1 y1 w1 x2 y2 w2:Int}(S:aG)(hA:Sv A [v2 x0 y0 w0,v2 x1 y1 w1,v2 x2 y2 w2])(p:P2 x0 y0 w0)(q:P2 x1 y1 w1)(r:P2 x2 y2 w2):oG [.pv A] S=.ok (.pv (.int (w0*D2 x0 y0 w0 x1 y1 w1 x2 y2 w2))) S:=by
 have a1:=Ck S p q;have a2:=Ck S p r;have bu:=sb p.bx p.bw q.bx q.bw;have bv:=sb p.by_ p.bw q.by_ q.bw;have bu2:=sb p.bx p.bw r.bx r.bw;have bv2:=sb p.by_ p.bw r.by_ r.bw;have id:=aas x0 y0 w0 x1 y1 w1 x2 y2 w2;generalize y2*w0-y0*w2=V1,x2*w0-x0*w2=V0,y1*w0-y0*w1=U1,x1*w0-x0*w1=U0,w0*D2 x0 y0 w0 x1 y1 w1 x2 y2 w2=D at *;have en:=Yy U0 U1 S;have ed:=Yl (A:=.lst [.int (-U1),.int U0]) (B:=.lst [.int V0,.int V1]) (us:=[-U1,U0]) (vs:=[V0,V1]) S (.inl rfl) (.inl rfl) (by simp;exact⟨bv.neg.mono (by decide),bu.mono (by decide)⟩) (by simp;exact⟨bu2.mono (by decide),bv2.mono (by decide)⟩);rw[id]at ed;have pre:=Nl [.lst [.int U0,.int U1]] (.lst [.int V0,.int V1]);simp only[kr,jh]at pre;generalize v2 x2 y2 w2=R,v2 x1 y1 w1=Q,v2 x0 y0 w0=P at *;unfold oG aR sL;rcases hA with rfl |rfl
 .have s1:=nP P [Q,R]
  simp! [aE,aV,aW,aO,aK,aN,aL,aM,aF,aJ,bB,bD,bS,dC,cO,dD,fN,s1,cD,dS,dP,gN,a1,a2,pre,en,ed]
 .have s1:=uT P [Q,R]
  simp! [aE,aV,aW,aO,aK,aN,aL,aM,aF,aJ,bB,bD,bS,dC,cO,dD,fN,s1,cD,dS,dP,gN,a1,a2,pre,en,ed]
theorem Ay{A:PV}{x0 y0 z0 w0 x1 y1 z1 w1 x2 y2 z2 w2 x3 y3 z3 w3:Int}(S:aG)(hA:Sv A [v3 x0 y0 z0 w0,v3 x1 y1 z1 w1,v3 x2 y2 z2 w2,v3 x3 y3 z3 w3])(p:P3 x0 y0 z0 w0)(q:P3 x1 y1 z1 w1)(r:P3 x2 y2 z2 w2)(s:P3 x3 y3 z3 w3):oG [.pv A] S=.ok (.pv (.int (w0*w0*D3 x0 y0 z0 w0 x1 y1 z1 w1 x2 y2 z2 w2 x3 y3 z3 w3))) S:=by
 have a1:=zM S p q;have a2:=zM S p r;have a3:=zM S p s;have b1:=sb p.bx p.bw q.bx q.bw;have b2:=sb p.by_ p.bw q.by_ q.bw;have b3:=sb p.bz p.bw q.bz q.bw;have b4:=sb p.bx p.bw r.bx r.bw;have b5:=sb p.by_ p.bw r.by_ r.bw;have b6:=sb p.bz p.bw r.bz r.bw;have b7:=sb p.bx p.bw s.bx s.bw;have b8:=sb p.by_ p.bw s.by_ s.bw;have b9:=sb p.bz p.bw s.bz s.bw;have id:=Kn x0 y0 z0 w0 x1 y1 z1 w1 x2 y2 z2 w2 x3 y3 z3 w3;generalize z3*w0-z0*w3=T2,y3*w0-y0*w3=T1,x3*w0-x0*w3=T0,z2*w0-z0*w2=V2,y2*w0-y0*w2=V1,x2*w0-x0*w2=V0,z1*w0-z0*w1=U2,y1*w0-y0*w1=U1,x1*w0-x0*w1=U0,w0*w0*D3 x0 y0 z0 w0 x1 y1 z1 w1 x2 y2 z2 w2 x3 y3 z3 w3=D at *;have h:∀{a:Int},Bd 2001 a->Bd 10000 a:=λh=>h.mono (by decide);have h4:∀{a:Int},Bd 4003 a->Bd 100000 a:=λh=>h.mono (by decide);have h2:∀{a:Int},Bd 2001 a->Bd 100000 a:=λh=>h.mono (by decide);have en:=Xz S (h b1) (h b2) (h b3) (h b4) (h b5) (h b6);have c1:=cb b2 b6 b3 b5;have c2:=cb b3 b4 b1 b6;have c3:=cb b1 b5 b2 b4;have ed:=Yl (A:=.lst [.int (U1*V2-U2*V1),.int (U2*V0-U0*V2),.int (U0*V1-U1*V0)]) (B:=.lst [.int T0,.int T1,.int T2]) (us:=[U1*V2-U2*V1,U2*V0-U0*V2,U0*V1-U1*V0]) (vs:=[T0,T1,T2]) S (.inl rfl) (.inl rfl) (by simp;exact⟨h4 c1,h4 c2,h4 c3⟩) (by simp;exact⟨h2 b7,h2 b8,h2 b9⟩);rw[id]at ed;generalize U0*V1-U1*V0=N2,U2*V0-U0*V2=N1,U1*V2-U2*V1=N0 at *;have pre:=Nl [.lst [.int U0,.int U1,.int U2],.lst [.int V0,.int V1,.int V2]] (.lst [.int T0,.int T1,.int T2]);simp only[kr,jh]at pre;generalize v3 x3 y3 z3 w3=T,v3 x2 y2 z2 w2=R,v3 x1 y1 z1 w1=Q,v3 x0 y0 z0 w0=P at *;unfold oG aR sL;rcases hA with rfl |rfl
 .have s1:=nP P [Q,R,T]
  simp! [aE,aV,aW,aO,aK,aN,aL,aM,aF,aJ,bB,bD,bS,dC,cO,dD,fN,s1,cD,dS,dP,gN,a1,a2,a3,pre,en,ed]
 .have s1:=uT P [Q,R,T]
  simp! [aE,aV,aW,aO,aK,aN,aL,aM,aF,aJ,bB,bD,bS,dC,cO,dD,fN,s1,cD,dS,dP,gN,a1,a2,a3,pre,en,ed]
theorem Nu{A:PV}{x0 y0 w0 x1 y1 w1 x2 y2 w2:Int}(S:aG)(hA:Sv A [v2 x0 y0 w0,v2 x1 y1 w1,v2 x2 y2 w2])(p:P2 x0 y0 w0)(q:P2 x1 y1 w1)(r:P2 x2 y2 w2):lX [.pv A] S=.ok (.pv (.int (sg (D2 x0 y0 w0 x1 y1 w1 x2 y2 w2)))) S:=by
 have e1:=Ny S hA p q r;have e2:=tZ (w0*D2 x0 y0 w0 x1 y1 w1 x2 y2 w2) S;rw[uH p.pos]at e2;unfold lX aR uP;simp! [aE,aV,aW,aO,aK,aN,aL,aM,aF,aJ,e1,e2]
theorem Eu{A:PV}{x0 y0 z0 w0 x1 y1 z1 w1 x2 y2 z2 w2 x3 y3 z3 w3:Int}(S:aG)(hA:Sv A [v3 x0 y0 z0 w0,v3 x1 y1 z1 w1,v3 x2 y2 z2 w2,v3 x3 y3 z3 w3])(p:P3 x0 y0 z0 w0)(q:P3 x1 y1 z1 w1)(r:P3 x2 y2 z2 w2)(s:P3 x3 y3 z3 w3):lX [.pv A] S=.ok (.pv (.int (sg (D3 x0 y0 z0 w0 x1 y1 z1 w1 x2 y2 z2 w2 x3 y3 z3 w3)))) S:=by
 have e1:=Ay S hA p q r s;have e2:=tZ (w0*w0*D3 x0 y0 z0 w0 x1 y1 z1 w1 x2 y2 z2 w2 x3 y3 z3 w3) S;rw[uH (ao p.pos p.pos)]at e2;unfold lX aR uP;simp! [aE,aV,aW,aO,aK,aN,aL,aM,aF,aJ,e1,e2]
def Gp(n k:Nat)(v:PV):Prop:=∃xs w,v=.tup ((xs++[w]).map .int)/\Pq n k xs w
theorem Gp.two{v:PV}(h:Gp 2 1000 v):∃x y w,v=v2 x y w/\P2 x y w:=by
 obtain⟨xs,w,rfl,P⟩:=h
 match xs,P.len with
 |[x,y],_=>exact⟨x,y,w,rfl,P.bx x (by simp),P.bx y (by simp),P.bw,P.pos⟩
theorem Gp.three{v:PV}(h:Gp 3 1000 v):∃x y z w,v=v3 x y z w/\P3 x y z w:=by
 obtain⟨xs,w,rfl,P⟩:=h
 match xs,P.len with
 |[x,y,z],_=>exact⟨x,y,z,w,rfl,P.bx x (by simp),P.bx y (by simp),P.bx z (by simp),P.bw,P.pos⟩
theorem Vf(S:aG)(PL QL:AH)(xs ys:AA)(w v:Int)(hp:aE (.tup PL) (.int (-1))=some (.int w))(hq:aE (.tup QL) (.int (-1))=some (.int v))(hpj:∀j:Nat,j<xs.length->aE (.tup PL) (.int (j:Nat))=some (.int (xs.getD j 0)))(hqj:∀j:Nat,j<xs.length->aE (.tup QL) (.int (j:Nat))=some (.int (ys.getD j 0)))
  (bw:Bd 1000 w)(bv:Bd 1000 v)(hx:∀j,Bd 1000 (xs.getD j 0))(hy:∀j,Bd 1000 (ys.getD j 0)):∀(js:List Nat)(x:AJ),(∀j∈js,j<xs.length)->
  bZ [] (gN 0) (aC dW (aC aS (aC aE (aA 1) (aA 0)) (aC aE (aA 2) (bH bQ (mC (.int 1))))) (aC aS (aC aE (aA 2) (aA 0)) (aC aE (aA 1) (bH bQ (mC (.int 1)))))) (js.map λj=>.int (0+(j:Nat))) [x,some (.pv (.tup QL)),some (.pv (.tup PL))] S=.ok ((js.map λj=>ys.getD j 0*w-xs.getD j 0*v).map .int) S
 |[],x,_=>dP
 |j::js,x,h=>by
  have ih:=Vf S PL QL xs ys w v hp hq hpj hqj bw bv hx hy js (some (.pv (.int (0+(j:Nat))))) λi hi=>h i (bh _ hi);have e1:=hpj j (h j cf);have e2:=hqj j (h j cf);have m1:=mB ((hx j).mono (show 1000<=2000 by decide)) (bv.mono (show 1000<=2000 by decide));have m2:=mB ((hy j).mono (show 1000<=2000 by decide)) (bw.mono (show 1000<=2000 by decide));show bZ [] _ _ (.int (0+(j:Nat))::js.map λj=>.int (0+(j:Nat))) _ S=_;rw[dS];simp only[qm]at ih⊢;generalize hX:xs.getD j 0=X at e1 m1;generalize hY:ys.getD j 0=Y at e2 m2;simp! [gN,bJ,aK,aN,aL,aM,aF,aJ,e1,e2,hp,hq,m1,m2,ih];simp only[dm]at hX hY;rw[hX,hY]
theorem Sl{xs ys:AA}{w v:Int}(S:aG)(hl:xs.length=ys.length)(h9:xs.length<=9)(hx:∀x∈xs,Bd 1000 x)(hy:∀y∈ys,Bd 1000 y)(bw:Bd 1000 w)(bv:Bd 1000 v):
  pL [.pv (.tup ((xs++[w]).map .int)),.pv (.tup ((ys++[v]).map .int))] S=.ok (.pv (.lst ((wa xs w ys v).map .int))) S:=by
 have ip:=jG xs w;have iq:=jG ys v;have ec:=Vf S _ _ xs ys w v ip iq (λj h=>uL xs w j h) (λj h=>uL ys v j (by omega)) bw bv (tV hx) (tV hy) (ax xs.length) none λj hj=>by simpa using hj
 have er:(ax xs.length).map (λj=>ys.getD j 0*w-xs.getD j 0*v)=wa xs w ys v:=Ve hl λx y=>y*w-x*v;rw[er]at ec;have hlen:((xs++[w]).map PV.int).length=xs.length+1:=by simp
 have hr:iY [.pv (.int (((xs.length+1:Nat):Int)-1))] S=.ok ((ax xs.length).map λj=>.int (0+(j:Nat)),[]) S:=by
  unfold iY;dsimp only;rw[if_pos ⟨by omega,by omega⟩];have:(((xs.length+1:Nat):Int)-1).toNat=xs.length:=by omega
  rw[this];rfl
 generalize (wa xs w ys v).map PV.int=ZL at ec;generalize (ax xs.length).map (λj=>PV.int (0+(j:Nat)))=RL at ec hr;generalize hP:(xs++[w]).map PV.int=PL at ip ec hlen;generalize (ys++[v]).map PV.int=QL at iq ec;unfold pL aR zJ;have hr2:=hr;rw[<-hlen]at hr2;simp! [bJ,aK,aN,aL,aM,aF,aJ,bB,cZ,hr2,cD,ec]
theorem Sn{x0 y0 w0 x1 y1 w1:Int}(S:aG)(p:P2 x0 y0 w0)(q:P2 x1 y1 w1):pL [.pv (v2 x0 y0 w0),.pv (v2 x1 y1 w1)] S=.ok (.pv (.lst [.int (x1*w0-x0*w1),.int (y1*w0-y0*w1)])) S:=by
 have e:=Sl (xs:=[x0,y0]) (ys:=[x1,y1]) (w:=w0) (v:=w1) S rfl (by simp) (by simp;exact⟨p.bx,p.by_⟩) (by simp;exact⟨q.bx,q.by_⟩) p.bw q.bw;exact e
theorem Bb{x0 y0 z0 w0 x1 y1 z1 w1:Int}(S:aG)(p:P3 x0 y0 z0 w0)(q:P3 x1 y1 z1 w1):pL [.pv (v3 x0 y0 z0 w0),.pv (v3 x1 y1 z1 w1)] S=.ok (.pv (.lst [.int (x1*w0-x0*w1),.int (y1*w0-y0*w1),.int (z1*w0-z0*w1)])) S:=by
 have e:=Sl (xs:=[x0,y0,z0]) (ys:=[x1,y1,z1]) (w:=w0) (v:=w1) S rfl (by simp) (by simp;exact⟨p.bx,p.by_,p.bz⟩) (by simp;exact⟨q.bx,q.by_,q.bz⟩) p.bw q.bw;exact e
theorem Iv{A:PV}{x0 y0 w0 x1 y1 w1 x2 y2 w2:Int}(S:aG)(hA:Sv A [v2 x0 y0 w0,v2 x1 y1 w1,v2 x2 y2 w2])(p:P2 x0 y0 w0)(q:P2 x1 y1 w1)(r:P2 x2 y2 w2):nM [.pv A] S=.ok (.pv (.int (w0*D2 x0 y0 w0 x1 y1 w1 x2 y2 w2))) S:=by
 have a1:=Sn S p q;have a2:=Sn S p r;have bu:=sb p.bx p.bw q.bx q.bw;have bv:=sb p.by_ p.bw q.by_ q.bw;have bu2:=sb p.bx p.bw r.bx r.bw;have bv2:=sb p.by_ p.bw r.by_ r.bw;have id:(x1*w0-x0*w1)*(y2*w0-y0*w2)-(y1*w0-y0*w1)*(x2*w0-x0*w2)=w0*D2 x0 y0 w0 x1 y1 w1 x2 y2 w2:=by
  unfold D2;grind
 generalize y2*w0-y0*w2=V1,x2*w0-x0*w2=V0,y1*w0-y0*w1=U1,x1*w0-x0*w1=U0,w0*D2 x0 y0 w0 x1 y1 w1 x2 y2 w2=D at *;have m1:=dN bu bv2;have m2:=dN bv bu2;generalize v2 x2 y2 w2=R,v2 x1 y1 w1=Q,v2 x0 y0 w0=P at *;have et:iU [.pv (.lst [.lst [.int U0,.int U1],.lst [.int V0,.int V1]])] S=.ok (.pv (.int D)) S:=by
  unfold iU aR nC;simp! [aE,aV,aW,aO,aK,aN,aL,aM,aF,aJ,m1,m2,id]
 unfold nM aR uQ;rcases hA with rfl |rfl
 .have s1:=nP P [Q,R]
  simp! [aE,aV,aW,aO,aK,aN,aL,aM,aF,aJ,bB,bD,bS,dC,cO,dD,fN,s1,cD,dS,dP,gN,a1,a2,et]
 .have s1:=uT P [Q,R]
  simp! [aE,aV,aW,aO,aK,aN,aL,aM,aF,aJ,bB,bD,bS,dC,cO,dD,fN,s1,cD,dS,dP,gN,a1,a2,et]
theorem Zv{A:PV}{x0 y0 z0 w0 x1 y1 z1 w1 x2 y2 z2 w2 x3 y3 z3 w3:Int}(S:aG)(hA:Sv A [v3 x0 y0 z0 w0,v3 x1 y1 z1 w1,v3 x2 y2 z2 w2,v3 x3 y3 z3 w3])(p:P3 x0 y0 z0 w0)(q:P3 x1 y1 z1 w1)(r:P3 x2 y2 z2 w2)(s:P3 x3 y3 z3 w3):nM [.pv A] S=.ok (.pv (.int (w0*w0*D3 x0 y0 z0 w0 x1 y1 z1 w1 x2 y2 z2 w2 x3 y3 z3 w3))) S:=by
 have a1:=Bb S p q;have a2:=Bb S p r;have a3:=Bb S p s;have b1:=sb p.bx p.bw q.bx q.bw;have b2:=sb p.by_ p.bw q.by_ q.bw;have b3:=sb p.bz p.bw q.bz q.bw;have b4:=sb p.bx p.bw r.bx r.bw;have b5:=sb p.by_ p.bw r.by_ r.bw;have b6:=sb p.bz p.bw r.bz r.bw;have b7:=sb p.bx p.bw s.bx s.bw;have b8:=sb p.by_ p.bw s.by_ s.bw;have b9:=sb p.bz p.bw s.bz s.bw;have id:=Kn x0 y0 z0 w0 x1 y1 z1 w1 x2 y2 z2 w2 x3 y3 z3 w3;generalize z3*w0-z0*w3=T2,y3*w0-y0*w3=T1,x3*w0-x0*w3=T0,z2*w0-z0*w2=V2,y2*w0-y0*w2=V1,x2*w0-x0*w2=V0,z1*w0-z0*w1=U2,y1*w0-y0*w1=U1,x1*w0-x0*w1=U0,w0*w0*D3 x0 y0 z0 w0 x1 y1 z1 w1 x2 y2 z2 w2 x3 y3 z3 w3=D at *;have h:∀{a:Int},Bd 2001 a->Bd 10000 a:=λh=>h.mono (by decide);have h4:∀{a:Int},Bd 4003 a->Bd 100000 a:=λh=>h.mono (by decide);have h2:∀{a:Int},Bd 2001 a->Bd 100000 a:=λh=>h.mono (by decide);have en:=Dh (A:=.lst [.int U0,.int U1,.int U2]) (B:=.lst [.int V0,.int V1,.int V2]) S rfl rfl (h b1) (h b2) (h b3) (h b4) (h b5) (h b6);have c1:=cb b2 b6 b3 b5;have c2:=cb b3 b4 b1 b6;have c3:=cb b1 b5 b2 b4;have ed:=Mj (A:=.lst [.int (U1*V2-U2*V1),.int (U2*V0-U0*V2),.int (U0*V1-U1*V0)]) (B:=.lst [.int T0,.int T1,.int T2]) (us:=[U1*V2-U2*V1,U2*V0-U0*V2,U0*V1-U1*V0]) (vs:=[T0,T1,T2]) S (.inl rfl) (.inl rfl) (by simp;exact⟨h4 c1,h4 c2,h4 c3⟩) (by simp;exact⟨h2 b7,h2 b8,h2 b9⟩);rw[id]at ed;generalize v3 x3 y3 z3 w3=T,v3 x2 y2 z2 w2=R,v3 x1 y1 z1 w1=Q,v3 x0 y0 z0 w0=P,U0*V1-U1*V0=N2,U2*V0-U0*V2=N1,U1*V2-U2*V1=N0 at *;have et:iU [.pv (.lst [.lst [.int U0,.int U1,.int U2],.lst [.int V0,.int V1,.int V2],.lst [.int T0,.int T1,.int T2]])] S=.ok (.pv (.int D)) S:=by
  unfold iU aR nC;simp! [aE,aV,aW,aO,aK,aN,aL,aM,aF,aJ,en,ed]
 unfold nM aR uQ;rcases hA with rfl |rfl
 .have s1:=nP P [Q,R,T]
  simp! [aE,aV,aW,aO,aK,aN,aL,aM,aF,aJ,bB,bD,bS,dC,cO,dD,fN,s1,cD,dS,dP,gN,a1,a2,a3,et]
 .have s1:=uT P [Q,R,T]
  simp! [aE,aV,aW,aO,aK,aN,aL,aM,aF,aJ,bB,bD,bS,dC,cO,dD,fN,s1,cD,dS,dP,gN,a1,a2,a3,et]
theorem Io{S:aG}{k:Nat}{ns:AA}(n:Nat)(hn:n=2\/n=3)(h:eT S k ns):∃(v:PV)(ns':AA),jL [.ref k,.pv (.int n)] S=.ok (.pv v) (S.set k (.lst (ns'.map .int)))/\Gp n 100 v:=by
 obtain⟨xs,w,n1,e1,P,b1,b2⟩:=N9 n hn h;exact⟨_,n1,e1,xs,w,rfl,P.pq b1 b2⟩
theorem Qw{S:aG}{k:Nat}{ns:AA}{L:AH}(h:eT S k ns):∃(A:PV)(ns':AA),lR [.ref k,.pv (.lst L)] S=.ok (.pv A) (S.set k (.lst (ns'.map .int)))/\Sv A L:=by
 obtain⟨t,n1,e1,t0,t1,_⟩:=iT (m:=2) h (by decide) (jV (by decide) (by decide));have tk:=Hh S k (.lst (n1.map .int));generalize hS:S.set k (.lst (n1.map .int))=S1 at e1 tk
 by_cases ht:t=1
 .subst ht
  refine⟨.tup L,n1,?_,.inr rfl⟩;rw[hS];unfold lR aR sW;simp! [aE,aV,aW,aO,aK,aN,aL,aM,aF,aJ,e1,tk]
 .refine⟨.lst L,n1,?_,.inl rfl⟩
  rw[hS];unfold lR aR sW;simp! [aE,aV,aW,aO,aK,aN,aL,aM,aF,aJ,e1,tk,ht]
def B2(x0 y0 w0 x1 y1 w1:Int):AA:=[-(y1*w0-y0*w1),x1*w0-x0*w1,x0*y1-y0*x1]
theorem Ly{G:Gd}{g:GM}{me:ME}{x:PV}{r:AH}{ρ:bR}{S:aG}(h:fP G S):bZ G g me (x::r) ρ S=(match g x ρ with
  |none=>.fail
  |some ρ1=>match me ρ1 S with
   |.ok (.pv y) S1=>match bZ G g me r ρ1 S1 with
    |.ok ys S2=>.ok (y::ys) S2
    |_=>.fail
   |_=>.fail):=by
 rw[bZ,if_pos h]
 all_goals rfl
theorem Iu{G:Gd}{g:GM}{me:ME}{ρ:bR}{S:aG}(h:fP G S):bZ G g me [] ρ S=.ok [] S:=by
 rw[bZ,if_pos h]
theorem Mh(a b c x0 y0 w0 x1 y1 w1 x2 y2 w2:Int):D2 (a*x0) (a*y0) (a*w0) (b*x1) (b*y1) (b*w1) (c*x2) (c*y2) (c*w2)=a*b*c*D2 x0 y0 w0 x1 y1 w1 x2 y2 w2:=by
 unfold D2;grind
theorem Yh(a b c d x0 y0 z0 w0 x1 y1 z1 w1 x2 y2 z2 w2 x3 y3 z3 w3:Int):D3 (a*x0) (a*y0) (a*z0) (a*w0) (b*x1) (b*y1) (b*z1) (b*w1) (c*x2) (c*y2) (c*z2) (c*w2) (d*x3) (d*y3) (d*z3) (d*w3)=a*b*c*d*D3 x0 y0 z0 w0 x1 y1 z1 w1 x2 y2 z2 w2 x3 y3 z3 w3:=by
 unfold D3;grind
structure R2(x y w X Y D:Int):Prop where
 pos:0<w
 dos:0<D
 ex:x*D=X*w
 ey:y*D=Y*w
theorem aao{n k l:Nat}{xs ys:AA}{w v:Int}(hn:n=2\/n=3)(P:Pq n k xs w)(Q:Pq n l ys v)(hk:k<=2000)(hl:l<=2000):∃(zs:AA)(z:Int),(∀S,mY [.pv (.tup ((xs++[w]).map .int)),.pv (.tup ((ys++[v]).map .int))] S=.ok (.pv (.tup ((zs++[z]).map .int))) S)/\Pq n (l+k+1) zs z/\∀j,j<n->zs.getD j 0*(w*v)=(xs.getD j 0*v-ys.getD j 0*w)*z:=by
 obtain⟨zs,z,e,R,vl⟩:=Wm (way:=-1) (.inr rfl) Q P;refine⟨zs,z,λS=>?_,R,λj hj=>?_⟩
 .have h:=Jq S (P.len.trans Q.len.symm) (by rw[P.len];omega) P.pos Q.pos (λx hx=>(P.bx x hx).mono hk) (λx hx=>(Q.bx x hx).mono hl) (P.bw.mono hk) (Q.bw.mono hl)
  have e2:mv (-1) ys v xs w=low (sm xs w (ys.map (- ·)) v++[w*v]):=if_neg (by decide);rw[<-e2,e]at h;exact h
 .have h:=vl _ _ _ _ (Vl.self n ys v) (Vl.self n xs w) Q.pos P.pos j hj
  dsimp only at h;have c:w*v=v*w:=cw w v;rw[c,h];congr 1;grind
theorem Pq.p2{k:Nat}{x y w:Int}(P:Pq 2 k [x,y] w)(h:k<=1000):P2 x y w:=⟨(P.bx x (by simp)).mono h,(P.bx y (by simp)).mono h,P.bw.mono h,P.pos⟩
theorem Pq.p3{k:Nat}{x y z w:Int}(P:Pq 3 k [x,y,z] w)(h:k<=1000):P3 x y z w:=⟨(P.bx x (by simp)).mono h,(P.bx y (by simp)).mono h,(P.bx z (by simp)).mono h,P.bw.mono h,P.pos⟩
def sC:AH->Int
 |[.tup [.int x0,.int y0,.int w0],.tup [.int x1,.int y1,.int w1],.tup [.int x2,.int y2,.int w2]]=>sg (D2 x0 y0 w0 x1 y1 w1 x2 y2 w2)
 |[.tup [.int x0,.int y0,.int z0,.int w0],.tup [.int x1,.int y1,.int z1,.int w1],.tup [.int x2,.int y2,.int z2,.int w2],.tup [.int x3,.int y3,.int z3,.int w3]]=>sg (D3 x0 y0 z0 w0 x1 y1 z1 w1 x2 y2 z2 w2 x3 y3 z3 w3)
 |_=>0
theorem Cy{n:Nat}(hn:n=2\/n=3){A:PV}{L:AH}(S:aG)(hl:L.length=n+1)(hg:∀v∈L,Gp n 1000 v)(hA:Sv A L):lX [.pv A] S=.ok (.pv (.int (sC L))) S:=by
 rcases hn with rfl |rfl
 .match L,hl with
  |[P,Q,R],_=>
   obtain⟨x0,y0,w0,rfl,p⟩:=(hg P (by simp)).two;obtain⟨x1,y1,w1,rfl,q⟩:=(hg Q (by simp)).two;obtain⟨x2,y2,w2,rfl,r⟩:=(hg R (by simp)).two;exact Nu S hA p q r
 .match L,hl with
  |[P,Q,R,T],_=>
   obtain⟨x0,y0,z0,w0,rfl,p⟩:=(hg P (by simp)).three;obtain⟨x1,y1,z1,w1,rfl,q⟩:=(hg Q (by simp)).three;obtain⟨x2,y2,z2,w2,rfl,r⟩:=(hg R (by simp)).three;obtain⟨x3,y3,z3,w3,rfl,s⟩:=(hg T (by simp)).three;exact Eu S hA p q r s
abbrev tv(us:AA):PV:=.tup (us.map .int)
def Gu(n k:Nat)(us:AA):Prop:=∃xs w,us=xs++[w]/\Pq n k xs w
theorem Gu.gp{n k:Nat}{us:AA}(h:Gu n k us):Gp n k (tv us):=by
 obtain⟨xs,w,rfl,P⟩:=h;exact⟨xs,w,rfl,P⟩
theorem Gu.ne{n k:Nat}{us:AA}(h:Gu n k us):us≠[]:=by
 obtain⟨xs,w,rfl,P⟩:=h;simp
theorem Mo{n k:Nat}{uss:AB}(h:∀us∈uss,Gu n k us):∀v∈uss.map tv,Gp n k v:=λv hv=>by
 obtain⟨us,hu,rfl⟩:=cj.mp hv;exact(h us hu).gp
theorem Ud:∀uss:AB,mE (uss.map tv)=some uss
 |[]=>rfl
 |us::uss=>by
  have ih:=Ud uss;show(match gR (us.map .int),mE (uss.map tv)with |some is,some uss=>some (is::uss) |_,_=>none)=_
  rw[ih,oR]
theorem Sf{uss:AB}{n:Nat}(hl:uss.length=n)(hp:(dJ uss).Perm (ax n)):Da (uss.map tv) uss=(eV uss).map tv:=by
 unfold Da eV;rw[cu];refine il λi hi=>?_;have h:i<uss.length:=by
  have:=hp.subset hi;rw[hl];simpa using this
 simp[cy,h]
theorem Dr{A:PV}{uss:AB}(hl:uss.length=3\/uss.length=4)(hA:Sv A (uss.map tv))(hne:∀us∈uss,us≠[]):qU [A]=some (.lst ((eV uss).map tv)):=by
 have e:pS (uss.map tv)=some (.lst ((eV uss).map tv)):=by
  unfold pS;rw[Ud];dsimp only;rcases hl with h |h
  .obtain⟨_,hp,_⟩:=Ti h
   rw[if_pos (show Ja uss from⟨by omega,by omega,by rw[h];exact Vm,by rw[hp.length_eq];simp,hne⟩),Sf h hp]
  .obtain⟨_,hp,_⟩:=Yj h
   rw[if_pos (show Ja uss from⟨by omega,by omega,by rw[h];exact Dm,by rw[hp.length_eq];simp,hne⟩),Sf h hp]
 rcases hA with rfl |rfl
 .exact e
 .exact e
def nZ{α:Type}:List α->List α
 |[a,b,c]=>[a,c,b]
 |[a,b,c,d]=>[a,b,d,c]
 |l=>l
theorem Vx{α β:Type}(f:α->β)(l:List α):(nZ l).map f=nZ (l.map f):=by
 rcases l with _ |⟨a,_ |⟨b,_ |⟨c,_ |⟨d,_ |⟨e,l⟩⟩⟩⟩⟩<;>rfl
theorem Ju{α:Type}(l:List α):(nZ l).Perm l:=by
 unfold nZ;split
 .exact .cons _ (.swap _ _ _)
 .exact .cons _ (.cons _ (.swap _ _ _))
 .exact .refl _
def dU:AB->Int
 |[[x0,y0,w0],[x1,y1,w1],[x2,y2,w2]]=>D2 x0 y0 w0 x1 y1 w1 x2 y2 w2
 |[[x0,y0,z0,w0],[x1,y1,z1,w1],[x2,y2,z2,w2],[x3,y3,z3,w3]]=>D3 x0 y0 z0 w0 x1 y1 z1 w1 x2 y2 z2 w2 x3 y3 z3 w3
 |_=>0
theorem Gu.two{k:Nat}{us:AA}(h:Gu 2 k us)(hk:k<=1000):∃x y w,us=[x,y,w]/\P2 x y w:=by
 obtain⟨xs,w,rfl,P⟩:=h
 match xs,P.len,P with
 |[x,y],_,P=>exact⟨x,y,w,rfl,P.p2 hk⟩
theorem Gu.three{k:Nat}{us:AA}(h:Gu 3 k us)(hk:k<=1000):∃x y z w,us=[x,y,z,w]/\P3 x y z w:=by
 obtain⟨xs,w,rfl,P⟩:=h
 match xs,P.len,P with
 |[x,y,z],_,P=>exact⟨x,y,z,w,rfl,P.p3 hk⟩
theorem Ql{n k:Nat}(hn:n=2\/n=3)(hk:k<=1000){uss:AB}(hl:uss.length=n+1)(hg:∀us∈uss,Gu n k us):sC (uss.map tv)=sg (dU uss):=by
 rcases hn with rfl |rfl
 .match uss,hl with
  |[a,b,c],_=>
   obtain⟨x0,y0,w0,rfl,_⟩:=(hg a (by simp)).two hk;obtain⟨x1,y1,w1,rfl,_⟩:=(hg b (by simp)).two hk;obtain⟨x2,y2,w2,rfl,_⟩:=(hg c (by simp)).two hk;rfl
 .match uss,hl with
  |[a,b,c,d],_=>
   obtain⟨x0,y0,z0,w0,rfl,_⟩:=(hg a (by simp)).three hk;obtain⟨x1,y1,z1,w1,rfl,_⟩:=(hg b (by simp)).three hk;obtain⟨x2,y2,z2,w2,rfl,_⟩:=(hg c (by simp)).three hk;obtain⟨x3,y3,z3,w3,rfl,_⟩:=(hg d (by simp)).three hk;rfl
def Pw(n:Nat)(us:AA):Prop:=∃xs w,us=xs++[w]/\xs.length=n/\0<w
theorem Pw.two{us:AA}(h:Pw 2 us):∃x y w,us=[x,y,w]/\0<w:=by
 obtain⟨xs,w,rfl,l,p⟩:=h
 match xs,l with
 |[x,y],_=>exact⟨x,y,w,rfl,p⟩
theorem Pw.three{us:AA}(h:Pw 3 us):∃x y z w,us=[x,y,z,w]/\0<w:=by
 obtain⟨xs,w,rfl,l,p⟩:=h
 match xs,l with
 |[x,y,z],_=>exact⟨x,y,z,w,rfl,p⟩
theorem Gu.pt{n k:Nat}{us:AA}(h:Gu n k us):Pw n us:=by
 obtain⟨xs,w,e,P⟩:=h;exact⟨xs,w,e,P.len,P.pos⟩
theorem dU2{x0 y0 w0 x1 y1 w1 x2 y2 w2:Int}:dU [[x0,y0,w0],[x1,y1,w1],[x2,y2,w2]]=D2 x0 y0 w0 x1 y1 w1 x2 y2 w2:=rfl
theorem dU3{x0 y0 z0 w0 x1 y1 z1 w1 x2 y2 z2 w2 x3 y3 z3 w3:Int}:dU [[x0,y0,z0,w0],[x1,y1,z1,w1],[x2,y2,z2,w2],[x3,y3,z3,w3]]=D3 x0 y0 z0 w0 x1 y1 z1 w1 x2 y2 z2 w2 x3 y3 z3 w3:=rfl
theorem My{n:Nat}(hn:n=2\/n=3){pre l:AB}{x y:AA}(hl:(pre++y::x::l).length=n+1)(hp:∀u∈pre++y::x::l,Pw n u):dU (pre++x::y::l)=-dU (pre++y::x::l):=by
 have hx:=hp x (by simp);have hy:=hp y (by simp);rcases hn with rfl |rfl
 .obtain⟨x0,y0,w0,rfl,_⟩:=hx.two
  obtain⟨x1,y1,w1,rfl,_⟩:=hy.two;have fin:∀c∈pre++l,∃x y w,c=[x,y,w]:=λc hc=>by
   obtain⟨x,y,w,e,_⟩:=(hp c (by simp at hc⊢;rcases hc with h |h<;>simp[h])).two;exact⟨x,y,w,e⟩
  match pre,l,hl,fin with
  |[],[c],_,fin |[c],[],_,fin=>
   obtain⟨x2,y2,w2,rfl⟩:=fin c (by simp);simp only[jh,kr,dU2,D2];grind
  |[],[],h,_=>simp at h
  |[],_::_::_,h,_=>simp at h
  |_::_::_,_,h,_=>simp at h;omega
  |[_],_::_,h,_=>simp at h
 .obtain⟨x0,y0,z0,w0,rfl,_⟩:=hx.three
  obtain⟨x1,y1,z1,w1,rfl,_⟩:=hy.three;have fin:∀c∈pre++l,∃x y z w,c=[x,y,z,w]:=λc hc=>by
   obtain⟨x,y,z,w,e,_⟩:=(hp c (by simp at hc⊢;rcases hc with h |h<;>simp[h])).three;exact⟨x,y,z,w,e⟩
  match pre,l,hl,fin with
  |[],[c,d],_,fin |[c],[d],_,fin |[c,d],[],_,fin=>
   obtain⟨x2,y2,z2,w2,rfl⟩:=fin c (by simp);obtain⟨x3,y3,z3,w3,rfl⟩:=fin d (by simp);simp only[jh,kr,dU3,D3];grind
  |[],[],h,_=>simp at h
  |[],[_],h,_=>simp at h
  |[],_::_::_::_,h,_=>simp at h
  |[_],[],h,_=>simp at h
  |[_],_::_::_,h,_=>simp at h
  |[_,_],_::_,h,_=>simp at h
  |_::_::_::_,_,h,_=>simp at h;omega
theorem Px{n:Nat}(hn:n=2\/n=3){A B:AB}(h:A.Perm B):∀pre:AB,(pre++A).length=n+1->(∀u∈pre++A,Pw n u)->dU (pre++B)=dU (pre++A)\/dU (pre++B)=-dU (pre++A):=by
 induction h with
 |nil=>exact λpre _ _=>.inl rfl
 |cons x _ ih=>
  intro pre hl hp;have:=ih (pre++[x]) (by simpa using hl) (by simpa using hp);simpa using this
 |swap x y l=>exact λpre hl hp=>.inr (My hn hl hp)
 |trans h1 h2 ih1 ih2=>
  intro pre hl hp;have q1:=ih1 pre hl hp;have q2:=ih2 pre (by rw[<-(h1.append_left pre).length_eq];exact hl) λu hu=>hp u ((h1.append_left pre).mem_iff.mpr hu);omega
theorem By{n k:Nat}(hn:n=2\/n=3)(hk:k<=1000){uss:AB}(hl:uss.length=n+1)(hg:∀us∈uss,Gu n k us):dU (eV uss)=dU uss\/dU (eV uss)=-dU uss:=
 Px hn (oO (by omega)).1.symm [] hl λu hu=>(hg u hu).pt
theorem rQ{n:Nat}(hn:n=2\/n=3){uss:AB}(hl:uss.length=n+1):uss.length=3\/uss.length=4:=by
 rcases hn with rfl |rfl
 .exact .inl hl
 .exact .inr hl
theorem Iz{n:Nat}(hn:n=2\/n=3){A:PV}{L:AH}(S:aG)(hl:L.length=n+1)(hg:∀v∈L,Gp n 1000 v)(hA:Sv A L):∃d:Int,nM [.pv A] S=.ok (.pv (.int d)) S/\sg d=sC L:=by
 rcases hn with rfl |rfl
 .match L,hl with
  |[P,Q,R],_=>
   obtain⟨x0,y0,w0,rfl,p⟩:=(hg P (by simp)).two;obtain⟨x1,y1,w1,rfl,q⟩:=(hg Q (by simp)).two;obtain⟨x2,y2,w2,rfl,r⟩:=(hg R (by simp)).two;exact⟨_,Iv S hA p q r,uH p.pos⟩
 .match L,hl with
  |[P,Q,R,T],_=>
   obtain⟨x0,y0,z0,w0,rfl,p⟩:=(hg P (by simp)).three;obtain⟨x1,y1,z1,w1,rfl,q⟩:=(hg Q (by simp)).three;obtain⟨x2,y2,z2,w2,rfl,r⟩:=(hg R (by simp)).three;obtain⟨x3,y3,z3,w3,rfl,s⟩:=(hg T (by simp)).three;exact⟨_,Zv S hA p q r s,uH (ao p.pos p.pos)⟩
def gK(uss:AB):AB:=if sC ((eV uss).map tv)<0 then nZ (eV uss)else eV uss
theorem V5{n:Nat}(hn:n=2\/n=3){L:AH}(hl:L.length=n+1):∃a b M,iF (.lst L) none (some (-2))=some (.lst M)/\aE (.lst L) (.int (-1))=some a/\aE (.lst L) (.int (-2))=some b/\aF (.lst M) (.lst [a,b])=some (.lst (nZ L)):=by
 rcases hn with rfl |rfl
 .match L,hl with
  |[P,Q,R],_=>exact⟨R,Q,[P],rfl,rfl,rfl,rfl⟩
 .match L,hl with
  |[P,Q,R,T],_=>exact⟨T,R,[P,Q],rfl,rfl,rfl,rfl⟩
theorem Hq{n:Nat}(hn:n=2\/n=3){A:PV}{a:AV}{uss:AB}(S:aG)(ha:rd S a=some A)(hl:uss.length=n+1)(hg:∀us∈uss,Gu n 1000 us)(hA:Sv A (uss.map tv)):lQ [a] S=.ok (.pv (.tup ((gK uss).map tv))) S:=by
 have h34:uss.length=3\/uss.length=4:=by omega
 have e1:=Dr h34 hA λus hu=>(hg us hu).ne;obtain⟨pm,_⟩:=oO h34;have hl2:((eV uss).map tv).length=n+1:=by rw[ak,pm.length_eq];exact hl
 have hg2:∀v∈(eV uss).map tv,Gp n 1000 v:=Mo λus hu=>hg us (pm.subset hu);obtain⟨d,e2,hd⟩:=Iz (A:=.lst ((eV uss).map tv)) hn S hl2 hg2 (.inl rfl);obtain⟨a1,b1,M,t1,t2,t3,t4⟩:=V5 hn hl2;unfold gK;have hlt:d<0↔sC ((eV uss).map tv)<0:=by
  rw[<-hd];unfold sg;split
  .omega
  .split<;>omega
 by_cases h:d<0
 .rw[if_pos (hlt.mp h),Vx]
  generalize (eV uss).map tv=L at *;unfold lQ aR sP;simp! [-rd,rd.eq_1,bJ,aK,aN,aL,aM,aJ,ha,e1,e2,h,dC,cO,dD,fN,t1,t2,t3,t4]
 .rw[if_neg (λz=>h (hlt.mpr z))]
  generalize (eV uss).map tv=L at *;unfold lQ aR sP;simp! [-rd,rd.eq_1,bJ,aK,aN,aL,aM,aJ,ha,e1,e2,h]
theorem Dd{n:Nat}(hn:n=2\/n=3){A:PV}{uss:AB}(S:aG)(hl:uss.length=n+1)(hg:∀us∈uss,Gu n 1000 us)(hA:Sv A (uss.map tv)):lQ [.pv A] S=.ok (.pv (.tup ((gK uss).map tv))) S:=Hq hn S rfl hl hg hA
theorem tJ{uss:AB}(h:uss.length=3\/uss.length=4):(gK uss).Perm uss:=by
 obtain⟨pm,_⟩:=oO h;unfold gK;split
 .exact(Ju _).trans pm
 .exact pm
theorem D7{uss:AB}(h:uss.length=3\/uss.length=4):gK (gK uss)=gK uss:=by
 have e:=Mp (tJ h) h;unfold gK at e⊢;rw[e]
theorem Q2{S:aG}{k j:Nat}{xs:AH}{v:PV}(hS:S[k]?=some (.lst xs))(hv:xs[j]?=some v)(hj:j<1000):nS k [.pv (.int (j:Int))] S=.ok (.pv v) (S.set k (.lst (xs.eraseIdx j))):=by
 have hl:=(ck.mp hv).1;have e:seqIndex? (j:Int) xs.length=some j:=by
  unfold seqIndex?;have h1:¬((j:Int)<0):=by omega
  have h2:(decide (0<=(j:Int))&&decide ((j:Int)<(xs.length:Int)))=true:=by
   simp only[iu,decide_eq_true_eq];omega
  simp only[h1,if_false];rw[if_pos h2,qi]
 unfold nS;dsimp only;rw[if_pos ⟨by omega,by omega⟩,hS];dsimp only;rw[e];dsimp only;rw[hv]
def wU:AB->Int
 |[]=>1
 |us::r=>us.getLastD 0*wU r
theorem Gu.mono{n k l:Nat}{us:AA}(h:Gu n k us)(hl:k<=l):Gu n l us:=by
 obtain⟨xs,w,e,P⟩:=h;exact⟨xs,w,e,P.mono hl⟩
theorem On{d:Int}:sg d<0↔d<0:=by
 unfold sg;split
 .omega
 .split<;>omega
theorem L5{n k:Nat}(hn:n=2\/n=3)(hk:k<=1000){uss:AB}(hl:uss.length=n+1)(hg:∀us∈uss,Gu n k us):dU (nZ uss)=-dU uss:=by
 rcases hn with rfl |rfl
 .match uss,hl with
  |[a,b,c],_=>
   obtain⟨x0,y0,w0,rfl,_⟩:=(hg a (by simp)).two hk;obtain⟨x1,y1,w1,rfl,_⟩:=(hg b (by simp)).two hk;obtain⟨x2,y2,w2,rfl,_⟩:=(hg c (by simp)).two hk;show D2 x0 y0 w0 x2 y2 w2 x1 y1 w1=-(D2 x0 y0 w0 x1 y1 w1 x2 y2 w2);unfold D2;grind
 .match uss,hl with
  |[a,b,c,d],_=>
   obtain⟨x0,y0,z0,w0,rfl,_⟩:=(hg a (by simp)).three hk;obtain⟨x1,y1,z1,w1,rfl,_⟩:=(hg b (by simp)).three hk;obtain⟨x2,y2,z2,w2,rfl,_⟩:=(hg c (by simp)).three hk;obtain⟨x3,y3,z3,w3,rfl,_⟩:=(hg d (by simp)).three hk;show D3 x0 y0 z0 w0 x1 y1 z1 w1 x3 y3 z3 w3 x2 y2 z2 w2=-(D3 x0 y0 z0 w0 x1 y1 z1 w1 x2 y2 z2 w2 x3 y3 z3 w3);unfold D3;grind
theorem zY{n k:Nat}(hn:n=2\/n=3)(hk:k<=1000){uss:AB}(hl:uss.length=n+1)(hg:∀us∈uss,Gu n k us):dU (gK uss)=((dU uss).natAbs:Int):=by
 have hp:=(oO (rQ hn hl)).1;have gs:∀us∈eV uss,Gu n k us:=λus hu=>hg us (hp.subset hu);have ls:(eV uss).length=n+1:=by rw[hp.length_eq,hl]
 have e:=By hn hk hl hg;have s:=L5 hn hk ls gs;have q:=Ql hn hk ls gs;unfold gK;split
 .rename_i h
  rw[q,On]at h;rw[s];omega
 .rename_i h
  rw[q,On]at h;omega
theorem pN{n k:Nat}:∀{uss:AB},(∀us∈uss,Gu n k us)->0<wU uss
 |[],_=>by decide
 |us::r,h=>by
  unfold wU;obtain⟨xs,w,rfl,P⟩:=h us cf;refine ao ?_ (pN λu hu=>h u (bh _ hu));rw[show(xs++[w]).getLastD 0=w by simp];exact P.pos
structure Sx(n k:Nat)(uss:AB):Prop where
 len:uss.length=n+1
 gu:∀us∈uss,Gu n k us
 nz:dU uss≠0
 cn:gK uss=uss
abbrev px(uss:AB):PV:=.tup (uss.map tv)
theorem Y9{n k:Nat}(hn:n=2\/n=3)(hk:k<=1000){uss:AB}(hl:uss.length=n+1)(hg:∀us∈uss,Gu n k us)(nz:dU uss≠0):Sx n k (gK uss):=by
 have hp:=tJ (rQ hn hl);refine⟨by rw[hp.length_eq,hl],λus hu=>hg us (hp.subset hu),?_,D7 (rQ hn hl)⟩;rw[zY hn hk hl hg];omega
def fZ(n:Nat)(A C:Nat->Int)(E:Int)(us us':AA):Prop:=∃xs w xs' w',us=xs++[w]/\us'=xs'++[w']/\xs.length=n/\xs'.length=n/\0<w/\0<w'/\∀j,j<n->xs'.getD j 0*(E*w)=(A j*xs.getD j 0+C j*w)*w'
theorem fZ.two{A C:Nat->Int}{E:Int}{us us':AA}(h:fZ 2 A C E us us'):∃x y w x' y' w',us=[x,y,w]/\us'=[x',y',w']/\x'*(E*w)=(A 0*x+C 0*w)*w'/\y'*(E*w)=(A 1*y+C 1*w)*w':=by
 obtain⟨xs,w,xs',w',rfl,rfl,l,l',_,_,h⟩:=h
 match xs,l,xs',l',h with
 |[x,y],_,[x',y'],_,h=>exact⟨x,y,w,x',y',w',rfl,rfl,h 0 (by decide),h 1 (by decide)⟩
theorem fZ.three{A C:Nat->Int}{E:Int}{us us':AA}(h:fZ 3 A C E us us'):∃x y z w x' y' z' w',us=[x,y,z,w]/\us'=[x',y',z',w']/\x'*(E*w)=(A 0*x+C 0*w)*w'/\y'*(E*w)=(A 1*y+C 1*w)*w'/\z'*(E*w)=(A 2*z+C 2*w)*w':=by
 obtain⟨xs,w,xs',w',rfl,rfl,l,l',_,_,h⟩:=h
 match xs,l,xs',l',h with
 |[x,y,z],_,[x',y',z'],_,h=>exact⟨x,y,z,w,x',y',z',w',rfl,rfl,h 0 (by decide),h 1 (by decide),h 2 (by decide)⟩
theorem W9(a b c d E x0 y0 w0 x1 y1 w1 x2 y2 w2:Int):D2 (a*x0+c*w0) (b*y0+d*w0) (E*w0) (a*x1+c*w1) (b*y1+d*w1) (E*w1) (a*x2+c*w2) (b*y2+d*w2) (E*w2)=a*b*E*D2 x0 y0 w0 x1 y1 w1 x2 y2 w2:=by
 unfold D2;grind
theorem aab(a b p c d e E x0 y0 z0 w0 x1 y1 z1 w1 x2 y2 z2 w2 x3 y3 z3 w3:Int):D3 (a*x0+c*w0) (b*y0+d*w0) (p*z0+e*w0) (E*w0) (a*x1+c*w1) (b*y1+d*w1) (p*z1+e*w1) (E*w1) (a*x2+c*w2) (b*y2+d*w2) (p*z2+e*w2) (E*w2) (a*x3+c*w3) (b*y3+d*w3) (p*z3+e*w3) (E*w3)=a*b*p*E*D3 x0 y0 z0 w0 x1 y1 z1 w1 x2 y2 z2 w2 x3 y3 z3 w3:=by
 unfold D3;grind
theorem cm(a b:Int){c:Int}(h:a*b=c):b*a=c:=by rw[cw];exact h
theorem Fb{A C:Nat->Int}{E:Int}{P Q R P' Q' R':AA}(h0:fZ 2 A C E P P')(h1:fZ 2 A C E Q Q')(h2:fZ 2 A C E R R'):dU [P',Q',R']*(E*E*E*wU [P,Q,R])=A 0*A 1*E*dU [P,Q,R]*wU [P',Q',R']:=by
 obtain⟨x0,y0,w0,X0,Y0,W0,rfl,rfl,p,q⟩:=h0.two;obtain⟨x1,y1,w1,X1,Y1,W1,rfl,rfl,p1,q1⟩:=h1.two;obtain⟨x2,y2,w2,X2,Y2,W2,rfl,rfl,p2,q2⟩:=h2.two;have e:=Mh (E*w0) (E*w1) (E*w2) X0 Y0 W0 X1 Y1 W1 X2 Y2 W2;have f:=Mh W0 W1 W2 (A 0*x0+C 0*w0) (A 1*y0+C 1*w0) (E*w0) (A 0*x1+C 0*w1) (A 1*y1+C 1*w1) (E*w1) (A 0*x2+C 0*w2) (A 1*y2+C 1*w2) (E*w2);rw[W9]at f;rw[cm _ _ p,cm _ _ q,cm _ _ p1,cm _ _ q1,cm _ _ p2,cm _ _ q2,cw _ W0,cw _ W0,cw _ W0,cw _ W1,cw _ W1,cw _ W1,cw _ W2,cw _ W2,cw _ W2]at e;have g:=e.symm.trans f;show D2 X0 Y0 W0 X1 Y1 W1 X2 Y2 W2*(E*E*E*(w0*(w1*(w2*1))))=A 0*A 1*E*D2 x0 y0 w0 x1 y1 w1 x2 y2 w2*(W0*(W1*(W2*1)));generalize D2 X0 Y0 W0 X1 Y1 W1 X2 Y2 W2=d at g⊢;generalize D2 x0 y0 w0 x1 y1 w1 x2 y2 w2=d' at g⊢;clear e f p q p1 q1 p2 q2 h0 h1 h2;grind
theorem Wa{A C:Nat->Int}{E:Int}{P Q R T P' Q' R' T':AA}(h0:fZ 3 A C E P P')(h1:fZ 3 A C E Q Q')(h2:fZ 3 A C E R R')(h3:fZ 3 A C E T T'):dU [P',Q',R',T']*(E*E*E*E*wU [P,Q,R,T])=A 0*A 1*A 2*E*dU [P,Q,R,T]*wU [P',Q',R',T']:=by
 obtain⟨x0,y0,z0,w0,X0,Y0,Z0,W0,rfl,rfl,p,q,r⟩:=h0.three;obtain⟨x1,y1,z1,w1,X1,Y1,Z1,W1,rfl,rfl,p1,q1,r1⟩:=h1.three;obtain⟨x2,y2,z2,w2,X2,Y2,Z2,W2,rfl,rfl,p2,q2,r2⟩:=h2.three;obtain⟨x3,y3,z3,w3,X3,Y3,Z3,W3,rfl,rfl,p3,q3,r3⟩:=h3.three;have e:=Yh (E*w0) (E*w1) (E*w2) (E*w3) X0 Y0 Z0 W0 X1 Y1 Z1 W1 X2 Y2 Z2 W2 X3 Y3 Z3 W3;have f:=Yh W0 W1 W2 W3 (A 0*x0+C 0*w0) (A 1*y0+C 1*w0) (A 2*z0+C 2*w0) (E*w0) (A 0*x1+C 0*w1) (A 1*y1+C 1*w1) (A 2*z1+C 2*w1) (E*w1) (A 0*x2+C 0*w2) (A 1*y2+C 1*w2) (A 2*z2+C 2*w2) (E*w2) (A 0*x3+C 0*w3) (A 1*y3+C 1*w3) (A 2*z3+C 2*w3) (E*w3);rw[aab]at f;rw[cm _ _ p,cm _ _ q,cm _ _ r,cm _ _ p1,cm _ _ q1,cm _ _ r1,cm _ _ p2,cm _ _ q2,cm _ _ r2,cm _ _ p3,cm _ _ q3,cm _ _ r3]at e;have cW:∀a W:Int,a*W=W*a:=cw;rw[cW _ W0,cW _ W0,cW _ W0,cW _ W0,cW _ W1,cW _ W1,cW _ W1,cW _ W1,cW _ W2,cW _ W2,cW _ W2,cW _ W2,cW _ W3,cW _ W3,cW _ W3,cW _ W3]at e;have g:=e.symm.trans f;show D3 X0 Y0 Z0 W0 X1 Y1 Z1 W1 X2 Y2 Z2 W2 X3 Y3 Z3 W3*(E*E*E*E*(w0*(w1*(w2*(w3*1)))))=A 0*A 1*A 2*E*D3 x0 y0 z0 w0 x1 y1 z1 w1 x2 y2 z2 w2 x3 y3 z3 w3*(W0*(W1*(W2*(W3*1))));generalize D3 X0 Y0 Z0 W0 X1 Y1 Z1 W1 X2 Y2 Z2 W2 X3 Y3 Z3 W3=d at g⊢;generalize D3 x0 y0 z0 w0 x1 y1 z1 w1 x2 y2 z2 w2 x3 y3 z3 w3=d' at g⊢;clear e f p q r p1 q1 r1 p2 q2 r2 p3 q3 r3 h0 h1 h2 h3 cW;grind
def cV(way:Int)(f us:AA):AA:=mv way us.dropLast (us.getLastD 0) f.dropLast (f.getLastD 0)
theorem Jl(way:Int)(xs:AA)(w:Int)(ys:AA)(v:Int):cV way (ys++[v]) (xs++[w])=mv way xs w ys v:=by
 unfold cV;simp
theorem jN{n k l:Nat}{way:Int}{us f:AA}(hway:way=1\/way=-1)(h:Gu n k us)(g:Gu n l f):Gu n (k+l+1) (cV way f us)/\fZ n (λ_=>way*f.getLastD 0) (λj=>f.getD j 0) (f.getLastD 0) us (cV way f us):=by
 obtain⟨xs,w,rfl,P⟩:=h;obtain⟨ys,v,rfl,Q⟩:=g;rw[Jl];obtain⟨zs,z,e,Z,hv⟩:=Wm hway P Q;rw[e];refine⟨⟨zs,z,rfl,Z⟩,xs,w,zs,z,rfl,rfl,P.len,Z.len,P.pos,Z.pos,λj hj=>?_⟩;have a:=hv _ _ _ _ (Vl.self n xs w) (Vl.self n ys v) P.pos Q.pos j hj;rw[show(ys++[v]).getLastD 0=v by simp];have eg:(ys++[v]).getD j 0=ys.getD j 0:=by
  have:j<ys.length:=by rw[Q.len];exact hj
  simp[cy,du this]
 dsimp only at a⊢;rw[eg];generalize ys.getD j 0=y at a⊢;generalize xs.getD j 0=x at a⊢;generalize zs.getD j 0=t at a⊢;rw[cw v w,a];grind
theorem Xj{n k l:Nat}{way:Int}{us f:AA}(S:aG)(hn:n=2\/n=3)(hway:way=1\/way=-1)(h:Gu n k us)(g:Gu n l f)(hk:k<=1000)(hl:l<=1000):kJ [.pv (tv us),.pv (tv f),.pv (.int way)] S=.ok (.pv (tv (cV way f us))) S:=by
 obtain⟨xs,w,rfl,P⟩:=h;obtain⟨ys,v,rfl,Q⟩:=g;rw[Jl];exact Qy S hn hway P Q hk hl
theorem Qs{a b w v:Int}(hw:0<w)(hv:0<v)(h:a*w=b*v\/a*w=-(b*v)):(a.natAbs:Int)*w=(b.natAbs:Int)*v:=by
 have e:(a*w).natAbs=(b*v).natAbs:=by
  rcases h with h |h
  .rw[h]
  .rw[h,za]
 rw[rm,rm]at e;have e1:((w.natAbs:Nat):Int)=w:=by omega
 have e2:((v.natAbs:Nat):Int)=v:=by omega
 have e3:((a.natAbs*w.natAbs:Nat):Int)=((b.natAbs*v.natAbs:Nat):Int):=by rw[e]
 rw[j3,j3,e1,e2]at e3;exact e3
theorem aaT{v d d' w w':Int}{way:Int}(hv:0<v)(hway:way=1\/way=-1)(h:d'*(v*v*v*w)=way*v*(way*v)*v*d*w'):d'*w=d*w':=by
 have e:(d'*w)*(v*v*v)=(d*w')*(v*v*v):=by rcases hway with rfl |rfl<;>grind
 exact rE (ao (ao hv hv) hv) e
theorem aaG{v d d' w w':Int}{way:Int}(hv:0<v)(hway:way=1\/way=-1)(h:d'*(v*v*v*v*w)=way*v*(way*v)*(way*v)*v*d*w'):d'*w=d*w'\/d'*w=-(d*w'):=by
 have p:=ao (ao (ao hv hv) hv) hv;rcases hway with rfl |rfl
 .left
  have e:(d'*w)*(v*v*v*v)=(d*w')*(v*v*v*v):=by grind
  exact rE p e
 .right
  have e:(d'*w)*(v*v*v*v)=(-(d*w'))*(v*v*v*v):=by grind
  exact rE p e
theorem rM{n k l:Nat}{way:Int}{f:AA}{uss:AB}(hway:way=1\/way=-1)(hg:∀us∈uss,Gu n k us)(g:Gu n l f):∀us∈uss.map (cV way f),Gu n (k+l+1) us:=λus hu=>by
 obtain⟨u,hm,rfl⟩:=cj.mp hu;exact(jN hway (hg u hm) g).1
theorem Gu.lastpos{n k:Nat}{f:AA}(h:Gu n k f):0<f.getLastD 0:=by
 obtain⟨xs,w,rfl,P⟩:=h;rw[show(xs++[w]).getLastD 0=w by simp];exact P.pos
theorem E3{n k l:Nat}(hn:n=2\/n=3){way:Int}{f:AA}{uss:AB}(hway:way=1\/way=-1)(hl:uss.length=n+1)(hg:∀us∈uss,Gu n k us)(g:Gu n l f):((dU (uss.map (cV way f))).natAbs:Int)*wU uss=((dU uss).natAbs:Int)*wU (uss.map (cV way f)):=by
 have hv:=g.lastpos;have p1:=pN hg;have p2:=pN (rM hway hg g);refine Qs p1 p2 ?_;rcases hn with rfl |rfl
 .match uss,hl,hg with
  |[a,b,c],_,hg=>
   have e:=Fb (jN hway (hg a (by simp)) g).2 (jN hway (hg b (by simp)) g).2 (jN hway (hg c (by simp)) g).2;exact .inl (aaT hv hway e)
 .match uss,hl,hg with
  |[a,b,c,d],_,hg=>
   have e:=Wa (jN hway (hg a (by simp)) g).2 (jN hway (hg b (by simp)) g).2 (jN hway (hg c (by simp)) g).2 (jN hway (hg d (by simp)) g).2;exact aaG hv hway e
theorem Om{n k l:Nat}(hn:n=2\/n=3){way:Int}{f:AA}{uss:AB}(hway:way=1\/way=-1)(hl:uss.length=n+1)(hg:∀us∈uss,Gu n k us)(g:Gu n l f)(h:dU uss≠0):dU (uss.map (cV way f))≠0:=λz=>by
 have e:=E3 hn hway hl hg g;rw[z]at e;have p2:=pN (rM hway hg g);have:((dU uss).natAbs:Int)*wU (uss.map (cV way f))≠0:=kj (by omega) (fk p2);exact this (by rw[<-e];simp)
theorem jX{G:Gd}{S:aG}(hG:fP G S){me:ME}{tail:bR}{α:Type}(A B:α->PV):∀(L:List α)(x:AJ),(∀v∈L,me (some (.pv (A v))::tail) S=.ok (.pv (B v)) S)->bZ G (gN 0) me (L.map A) (x::tail) S=.ok (L.map B) S
 |[],x,_=>Iu hG
 |v::L,x,h=>by
  have e:=h v cf;have e':=jX hG A B L (some (.pv (A v))) λu hu=>h u (bh _ hu);rw[az,Ly hG];simp[gN,e,e']
def Wb(way:Int)(f:AA)(uss:AB):AB:=gK (uss.map (cV way f))
theorem mk{k l:Nat}{a b:Int}(h:Bd k a)(g:Bd l b)(hk:k<=100000)(hl:l<=100000):aS (.int a) (.int b)=some (.int (a*b)):=jY (.inr ⟨h.mono (by omega),g.mono (by omega)⟩)
abbrev fv(u:Int×Int):PV:=.tup [.int u.1,.int u.2]
def pl(u v:Int×Int):Int×Int:=((fr (u.1*v.2+v.1*u.2) (u.2*v.2)).getD 0 0,(fr (u.1*v.2+v.1*u.2) (u.2*v.2)).getD 1 0)
theorem pR{L:AH}{lo hi:AG}{st:Int}{n:Nat}{is:List Nat}(hl:L.length=n)(h:sliceRange (sliceBounds lo hi (some st) n).1 (sliceBounds lo hi (some st) n).2.1 (sliceBounds lo hi (some st) n).2.2=is):iA L lo hi st=is.filterMap (L[·]?):=by
 unfold iA;rw[hl,h]
theorem Hy{n k l:Nat}(hn:n=2\/n=3){way:Int}{f:AA}(S:aG)(hway:way=1\/way=-1){uss:AB}(h:Sx n k uss)(g:Gu n l f)(hk:k+l+1<=1000):pI [.pv (px uss),.pv (.int way),.pv (tv f)] S=.ok (.pv (px (Wb way f uss))) S:=by
 have e1:bZ [] (gN 0) (aP kJ [] (aB (aA 0) (aB (aA 1) (aB (aA 2) aD)))) (uss.map tv) [none,some (.pv (tv f)),some (.pv (.int way))] S=.ok (uss.map (tv∘cV way f)) S:=by
  refine jX (gY S) tv (tv∘cV way f) uss none λus hu=>?_;have e:=Xj (way:=way) S hn hway (h.gu us hu) g (by omega) (by omega);simp! [aE,aV,aW,aO,aK,aN,aL,aM,aF,aJ,e]
 have e2:=Dd (uss:=uss.map (cV way f)) (A:=.lst ((uss.map (cV way f)).map tv)) hn S (by rw[ak];exact h.len) (λus hu=>(rM hway h.gu g us hu).mono hk) (.inl rfl);rw[cu]at e2;unfold pI aR yO;simp! [aE,aV,aW,aO,aK,aN,aL,aM,aF,aJ,bB,cD,bD,bS,e1,e2,Wb]
abbrev li(xs:AA):AH:=xs.map .int
abbrev lv(xs:AA):PV:=.lst (li xs)
abbrev bX(xss:AB):PV:=.lst (xss.map lv)
structure Rw(n:Nat)(xss:AB):Prop where
 len:xss.length=n+1
 l:∀xs∈xss,xs.length=n
 b:∀xs∈xss,∀x∈xs,0<=x/\x<=2
 nz:dU (xss.map (·++[1]))≠0
theorem Ff{α β:Type}(f:α->β):∀(R:List α)(j:Nat),(R.map f).eraseIdx j=(R.eraseIdx j).map f
 |[],j=>by simp
 |a::R,0=>by simp
 |a::R,j+1=>by simp[Ff f R j]
theorem ix3:∀v<3,aW 3 ((v:Nat):Int)=some v:=by decide
abbrev oE:MS:=(aI (nN (aA 2) (mJ (aA 1) (aB (aP dE [] (aB (aA 0) (aB (mR eQ (aB (aA 1) aD)) aD))) aD)) (mC (.int 1)))
 (dQ (rP (aA 3) (aB (aA 2) aD))))
abbrev qG:MS:=(cX (bI (aC dL (aP dE [] (aB (aA 0) (aB (mC (.int 4)) aD))) (mC (.int 3)))) (nR 3 2 5) eK)
theorem Qa(ns:AA)(hl:AH)(R C:AA)(L:AB)(x4 x5:AJ)(hR0:0<R.length)(hR3:R.length<=3)(hv:∀v∈R,0<=v/\v<3)(hC:C.length=3)(hL:L.length<=9):
  ∃(j v:Nat)(ns':AA),j<R.length/\R[j]?=some (v:Int)/\oE [some (.ref 0),some (.ref 2),some (.ref 3),some (.ref 4),x4,x5] [.lst (li ns),.lst hl,.lst (li R),.lst (li C),.lol (L.map li)]
   = .nx [some (.ref 0),some (.ref 2),some (.ref 3),some (.ref 4),x4,x5] [.lst (li ns'),.lst hl,.lst (li (R.eraseIdx j)),.lst (li (C.set v 1)),.lol ((L++[C.set v 1]).map li)]:=by
 have hr:eT [.lst (li ns),.lst hl,.lst (li R),.lst (li C),.lol (L.map li)] 0 ns:=rfl;obtain⟨t,n1,e1,t0,t1,_⟩:=iT (m:=(R.length:Int)) hr (by omega) (jV (by omega) (by omega));simp only[da]at e1;obtain⟨j,rfl⟩:∃j:Nat,t=(j:Int):=⟨t.toNat,by omega⟩;have hj:j<R.length:=by omega
 obtain⟨v,ev⟩:∃v:Nat,R[j]=(v:Int):=⟨R[j].toNat,by have:=hv _ (eh hj);omega⟩;have hv3:v<3:=by have:=hv _ (eh hj);omega
 have hq:R[j]?=some (v:Int):=by rw[av hj,ev]
 have ep:=Q2 (S:=[.lst (li n1),.lst hl,.lst (li R),.lst (li C),.lol (L.map li)]) (k:=2) (j:=j) (xs:=li R) (v:=.int v) rfl (by rw[di,hq];rfl) (by omega);simp only[dr,da]at ep;have er:(li R).eraseIdx j=li (R.eraseIdx j):=Ff _ _ _;rw[er]at ep;have ei:aW (li C).length (v:Int)=some v:=by
  rw[ak,hC];exact ix3 v hv3
 have ec:(li C).set v (.int 1)=li (C.set v 1):=by simp[li,List.map_set]
 refine⟨j,v,n1,hj,hq,?_⟩;have e1':dE [.ref 0,.pv (.int ((li R).length:Int))] [.lst (li ns),.lst hl,.lst (li R),.lst (li C),.lol (L.map li)]=.ok (.pv (.int (j:Int))) [.lst (li n1),.lst hl,.lst (li R),.lst (li C),.lol (L.map li)]:=by
  rw[ak];exact e1
 have el:(L++[C.set v 1]).map li=L.map li++[li (C.set v 1)]:=by simp
 rw[el];have lz:(L.map li).length<16777216:=by rw[ak];omega
 generalize li n1=NL1,li ns=NL,(j:Int)=J,li R=RL,li (R.eraseIdx j)=RE,li C=CL,li (C.set v 1)=CS,L.map li=LL at *;unfold oE;simp! [bJ,aK,aN,aL,aM,aF,aJ,nN,pQ,mJ,rP,rT,eW,e1',ep,ei,ec,lz]
def k6:AC:=[[[0,0,0],[1,0,0],[1,1,0],[1,1,1]],[[0,0,0],[1,0,0],[1,0,1],[1,1,1]],[[0,0,0],[0,1,0],[1,1,0],[1,1,1]],[[0,0,0],[0,1,0],[0,1,1],[1,1,1]],[[0,0,0],[0,0,1],[1,0,1],[1,1,1]],[[0,0,0],[0,0,1],[0,1,1],[1,1,1]]]
theorem aaF{R:AA}{j v:Nat}{a b c:Int}(h:R=[a,b,c])(hj:j<R.length)(e:R[j]?=some (v:Int)):(j=0/\(v:Int)=a)\/(j=1/\(v:Int)=b)\/(j=2/\(v:Int)=c):=by
 subst h
 match j,hj,e with
 |0,_,e=>simp at e;exact .inl ⟨rfl,e.symm⟩
 |1,_,e=>simp at e;exact .inr (.inl ⟨rfl,e.symm⟩)
 |2,_,e=>simp at e;exact .inr (.inr ⟨rfl,e.symm⟩)
theorem aaS{R:AA}{j v:Nat}{a b:Int}(h:R=[a,b])(hj:j<R.length)(e:R[j]?=some (v:Int)):(j=0/\(v:Int)=a)\/(j=1/\(v:Int)=b):=by
 subst h
 match j,hj,e with
 |0,_,e=>simp at e;exact .inl ⟨rfl,e.symm⟩
 |1,_,e=>simp at e;exact .inr ⟨rfl,e.symm⟩
theorem aaK{R:AA}{j v:Nat}{a:Int}(h:R=[a])(hj:j<R.length)(e:R[j]?=some (v:Int)):j=0/\(v:Int)=a:=by
 subst h
 match j,hj,e with
 |0,_,e=>simp at e;exact⟨rfl,e.symm⟩
theorem k3(ns:AA)(hl:AH)(R C:AA)(A:AB)(a b c:Nat)(x4 x5:AJ)(hR:R=[(c:Int)])(hc:c<3)(hC:C.length=3)(hA:A.length<=9)(ks:AC)(hk:A++[C.set c 1]∈ks):
  ∃(xss:AB)(ns':AA)(C':AA),xss∈ks/\cJ [] (gN 4) oE [.int 2] [some (.ref 0),some (.ref 2),some (.ref 3),some (.ref 4),x4,x5] [.lst (li ns),.lst hl,.lst (li R),.lst (li C),.lol (A.map li)]
   = .nx [some (.ref 0),some (.ref 2),some (.ref 3),some (.ref 4),some (.pv (.int 2)),x5] [.lst (li ns'),.lst hl,.lst [],.lst (li C'),.lol (xss.map li)]:=by
 obtain⟨j,v,n1,hj,e,h⟩:=Qa ns hl R C A (some (.pv (.int 2))) x5 (by rw[hR];simp) (by rw[hR];simp) (by rw[hR];simp;omega) hC hA;obtain⟨rfl,ev⟩:=aaK hR hj e;have:v=c:=by omega
 subst this;subst hR;refine⟨_,n1,C.set v 1,hk,?_⟩;rw[dY];simp only[gN,dr,da];rw[h];exact fE
theorem k2(ns:AA)(hl:AH)(R C:AA)(A:AB)(b c:Nat)(x4 x5:AJ)(hR:R=[(b:Int),(c:Int)])(hb:b<3)(hc:c<3)(hC:C.length=3)(hA:A.length<=8)(ks:AC)(h1:A++[C.set b 1]++[(C.set b 1).set c 1]∈ks)(h2:A++[C.set c 1]++[(C.set c 1).set b 1]∈ks):
  ∃(xss:AB)(ns':AA)(C':AA),xss∈ks/\cJ [] (gN 4) oE [.int 1,.int 2] [some (.ref 0),some (.ref 2),some (.ref 3),some (.ref 4),x4,x5] [.lst (li ns),.lst hl,.lst (li R),.lst (li C),.lol (A.map li)]
   = .nx [some (.ref 0),some (.ref 2),some (.ref 3),some (.ref 4),some (.pv (.int 2)),x5] [.lst (li ns'),.lst hl,.lst [],.lst (li C'),.lol (xss.map li)]:=by
 obtain⟨j,v,n1,hj,e,h⟩:=Qa ns hl R C A (some (.pv (.int 1))) x5 (by rw[hR];simp) (by rw[hR];simp) (by rw[hR];simp;omega) hC (by omega);rw[dY];simp only[gN,dr,da];rw[h];rcases aaS hR hj e with⟨rfl,ev⟩|⟨rfl,ev⟩
 .have:v=b:=by omega
  subst this;subst hR;exact k3 n1 hl _ (C.set v 1) _ 0 0 c _ x5 rfl hc (by rw[fh];exact hC) (by simp;omega) ks h1
 .have:v=c:=by omega
  subst this;subst hR;exact k3 n1 hl _ (C.set v 1) _ 0 0 b _ x5 rfl hb (by rw[fh];exact hC) (by simp;omega) ks h2
theorem k1(ns:AA)(hl:AH)(x4 x5:AJ):
  ∃(xss:AB)(ns':AA)(C':AA),xss∈k6/\cJ [] (gN 4) oE [.int 0,.int 1,.int 2] [some (.ref 0),some (.ref 2),some (.ref 3),some (.ref 4),x4,x5] [.lst (li ns),.lst hl,.lst (li [0,1,2]),.lst (li [0,0,0]),.lol ([[0,0,0]].map li)]
   = .nx [some (.ref 0),some (.ref 2),some (.ref 3),some (.ref 4),some (.pv (.int 2)),x5] [.lst (li ns'),.lst hl,.lst [],.lst (li C'),.lol (xss.map li)]:=by
 obtain⟨j,v,n1,hj,e,h⟩:=Qa ns hl [0,1,2] [0,0,0] [[0,0,0]] (some (.pv (.int 0))) x5 (by decide) (by decide) (by decide) rfl (by decide);rw[dY];simp only[gN,dr,da];rw[h];rcases aaF rfl hj e with⟨rfl,ev⟩|⟨rfl,ev⟩|⟨rfl,ev⟩
 .have:v=0:=by omega
  subst this;exact k2 n1 hl _ [1,0,0] _ 1 2 _ x5 rfl (by decide) (by decide) rfl (by decide) k6 (by decide) (by decide)
 .have:v=1:=by omega
  subst this;exact k2 n1 hl _ [0,1,0] _ 0 2 _ x5 rfl (by decide) (by decide) rfl (by decide) k6 (by decide) (by decide)
 .have:v=2:=by omega
  subst this;exact k2 n1 hl _ [0,0,1] _ 0 1 _ x5 rfl (by decide) (by decide) rfl (by decide) k6 (by decide) (by decide)
def qF(m:Nat)(xs:AA):AA:=xs.set m (1-xs.getD m 0)
theorem Nw{m:Nat}{xs:AA}(h:xs.length=3)(hm:m<3):uZ (m:Int) (li xs)=some (li (qF m xs)):=by
 match xs,h,m,hm with
 |[a,b,c],_,0,_=>rfl
 |[a,b,c],_,1,_=>rfl
 |[a,b,c],_,2,_=>rfl
theorem Hg{m:Nat}(hm:m<3):∀{L:AB},(∀xs∈L,xs.length=3)->pV (m:Int) (L.map li)=some ((L.map (qF m)).map li)
 |[],_=>rfl
 |xs::L,h=>by
  have e1:=Nw (h xs cf) hm;have e2:=Hg hm λys hy=>h ys (bh _ hy);simp only[az];unfold pV;rw[e1,e2]
theorem U8{a b c d:AH}{L:List AH}:vZ 4 [.lst a,.lst b,.lst c,.lst d,.lol L]:=λj o e n=>by
 match j,e with
 |0,e=>cases e;exact⟨_,rfl⟩
 |1,e=>cases e;exact⟨_,rfl⟩
 |2,e=>cases e;exact⟨_,rfl⟩
 |3,e=>cases e;exact⟨_,rfl⟩
 |4,e=>exact absurd rfl n
 |j+5,e=>simp at e
def kI(b:Bool)(m:Nat)(L:AB):AB:=if b then L.map (qF m)else L
theorem Na(m:Nat)(hm:m<3)(ns:AA)(a b c:AH)(L:AB)(hL:∀xs∈L,xs.length=3)(x2 x4:AJ):
  ∃(f:Bool)(ns':AA)(y2:AJ),qG [some (.ref 0),some (.ref 2),x2,some (.ref 4),x4,some (.pv (.int (m:Int)))] [.lst (li ns),.lst a,.lst b,.lst c,.lol (L.map li)]
   = .nx [some (.ref 0),some (.ref 2),y2,some (.ref 4),x4,some (.pv (.int (m:Int)))] [.lst (li ns'),.lst a,.lst b,.lst c,.lol ((kI f m L).map li)]:=by
 have hr:eT [.lst (li ns),.lst a,.lst b,.lst c,.lol (L.map li)] 0 ns:=rfl;obtain⟨t,n1,e1,t0,t1,_⟩:=iT (m:=4) hr (by decide) (jV (by decide) (by decide));simp only[da]at e1;have e1:dE [.ref 0,.pv (.int 4)] [.lst (li ns),.lst a,.lst b,.lst c,.lol (L.map li)]=.ok (.pv (.int t)) [.lst (li n1),.lst a,.lst b,.lst c,.lol (L.map li)]:=e1;have ef:=Hg hm hL
 by_cases h:t=3
 .refine⟨true,n1,none,?_⟩
  have hf:nR 3 2 5 [some (.ref 0),some (.ref 2),x2,some (.ref 4),x4,some (.pv (.int (m:Int)))] [.lst (li n1),.lst a,.lst b,.lst c,.lol (L.map li)]=.nx [some (.ref 0),some (.ref 2),none,some (.ref 4),x4,some (.pv (.int (m:Int)))] [.lst (li n1),.lst a,.lst b,.lst c,.lol ((L.map (qF m)).map li)]:=by
   unfold nR;dsimp only[List.getElem?_cons_succ,List.getElem?_cons_zero];rw[if_pos ⟨U8,by simp⟩,ef];rfl
  unfold qG;have:kI true m L=L.map (qF m):=rfl;rw[this];simp! [aE,aV,aW,aO,aK,aN,aL,aM,aF,aJ,e1,h,hf]
 .refine⟨false,n1,x2,?_⟩
  unfold qG;have:kI false m L=L:=rfl;rw[this];simp! [aE,aV,aW,aO,aK,aN,aL,aM,aF,aJ,e1,h]
theorem yU{b:Bool}{m:Nat}{L:AB}(h:∀xs∈L,xs.length=3):∀xs∈kI b m L,xs.length=3:=by
 unfold kI;split
 .intro xs hx
  obtain⟨ys,hy,rfl⟩:=cj.mp hx;unfold qF;rw[fh];exact h ys hy
 .exact h
def Yb(xss:AB):Bool:=decide (xss.length=4)&&xss.all (λxs=>decide (xs.length=3)&&xs.all λx=>decide (0<=x)&&decide (x<=2))&&decide (dU (xss.map (·++[1]))≠0)
theorem M3{xss:AB}(h:Yb xss=true):Rw 3 xss:=by
 unfold Yb at h;simp only[iu,decide_eq_true_eq,jc]at h;exact⟨h.1.1,λxs hx=>(h.1.2 xs hx).1,λxs hx x hh=>(h.1.2 xs hx).2 x hh,h.2⟩
theorem k48:∀xss∈k6,∀a b c:Bool,Yb (kI c 2 (kI b 1 (kI a 0 xss)))=true:=by decide+kernel
theorem Q6:∀xss∈k6,∀xs∈xss,xs.length=3:=by decide
theorem So{a b:AH}:Pl [.lst a,.lst b]:=λj o e=>by
 match j,e with
 |0,e=>cases e;exact⟨_,rfl⟩
 |1,e=>cases e;exact⟨_,rfl⟩
 |j+2,e=>simp at e
theorem Iy(ns:AA)(hl:AH):∃(xss:AB)(ns':AA),pH [.ref 0] [.lst (li ns),.lst hl]=.ok (.pv (bX xss)) [.lst (li ns'),.lst hl]/\Rw 3 xss:=by
 obtain⟨L,n1,C,hm,e1⟩:=k1 ns hl none none;have l0:=Q6 L hm;obtain⟨fa,n2,y2,e2⟩:=Na 0 (by decide) n1 hl [] (li C) L l0 (some (.ref 3)) (some (.pv (.int 2)));obtain⟨fb,n3,y3,e3⟩:=Na 1 (by decide) n2 hl [] (li C) _ (yU l0) y2 (some (.pv (.int 2)));obtain⟨fc,n4,y4,e4⟩:=Na 2 (by decide) n3 hl [] (li C) _ (yU (yU l0)) y3 (some (.pv (.int 2)));have c0:((0:Nat):Int)=0:=rfl;have c1:((1:Nat):Int)=1:=rfl;have c2:((2:Nat):Int)=2:=rfl;rw[c0]at e2;rw[c1]at e3;rw[c2]at e4;have hw:=k48 L hm fa fb fc;generalize kI fc 2 (kI fb 1 (kI fa 0 L))=X at hw e4;refine⟨X,n4,?_,M3 hw⟩;have ex:(X.map li).map PV.lst=X.map lv:=by rw[cu];rfl
 have e5:cJ [] (gN 5) qG [.int 0,.int 1,.int 2] [some (.ref 0),some (.ref 2),some (.ref 3),some (.ref 4),some (.pv (.int 2)),none] [.lst (li n1),.lst hl,.lst [],.lst (li C),.lol (L.map li)]
   = .nx [some (.ref 0),some (.ref 2),y4,some (.ref 4),some (.pv (.int 2)),some (.pv (.int 2))] [.lst (li n4),.lst hl,.lst [],.lst (li C),.lol (X.map li)]:=by
  rw[dY];simp only[gN,dr,da];rw[e2];dsimp only;rw[dY];simp only[gN,dr,da];rw[e3];dsimp only;rw[dY];simp only[gN,dr,da];rw[e4];exact fE
 unfold pH oA;rw[if_pos ⟨rfl,So⟩];have eb:tY (gO 6 [.ref 0]) [.lst (li ns),.lst hl]=.rt (.ref 4) [.lst (li n4),.lst hl,.lst [],.lst (li C),.lol (X.map li)]:=by
  simp only[li,az,cq]at e1;have hb:tY=(aI (aT 1 (eI (aB (mC (.int 0)) (aB (mC (.int 1)) (aB (mC (.int 2)) aD)))))
   (aI (aT 2 (eI (aB (mC (.int 0)) (aB (mC (.int 0)) (aB (mC (.int 0)) aD)))))
   (aI (aT 3 (rV (aB (aA 2) aD)))
   (aI (bK (cZ (aB (mC (.int 3)) aD)) (gN 4) oE)
   (aI (bK (cZ (aB (mC (.int 3)) aD)) (gN 5) qG)
   (bF (aA 3))))))):=rfl
  rw[hb];generalize oE=B1,qG=B2 at *;simp! [aE,aV,aW,aO,aK,aN,aL,aM,aF,aJ,eI,jP,rV,Va,bK,cZ,hrg,e1,e5]
 rw[eb];unfold uM;simp[So,ex]
theorem Et(L:AH)(p:PV)(h:L≠[]):∃v∈L,aE (.lst L) (.int (-1))=some v:=by
 have hl:0<L.length:=xj.mpr h;refine⟨L[L.length-1]'(by omega),eh _,?_⟩;show aV L (-1)=_;unfold aV;have e:aW L.length (-1)=some (L.length-1):=by
  unfold aW;rw[if_neg (by decide),if_pos (by omega)];congr 1;omega
 rw[e];exact av _
theorem lE{x:Int}(h:-1000<x)(g:x<1000):Bd 10 x:=by
 unfold Bd;have:x.natAbs<1000:=by omega
 omega
theorem mQ(S:aG){n:Nat}(h:n<=9):iY [.pv (.int (n:Int))] S=.ok (cR 0 n,[]) S:=by
 have e:iY [.pv (.int (n:Int))] S=@ite _ ((n:Int)<=16777216/\-16777216<=(n:Int)) (qo _) (.ok (cR 0 (n:Int).toNat,[]) S) .fail:=rfl;rw[e,if_pos ⟨by omega,by omega⟩,qi]
theorem Au{S:aG}{k:Nat}{ns:AA}(h:eT S k ns):S.set k (.lst (ns.map .int))=S:=ox λj=>by
 by_cases q:k=j
 .subst q
  rw[fe h.lt];exact h.symm
 .rw[ft q]
theorem Fg{k:Nat}{W:Int}(W0:0<=W)(W1:W<=2):∀(is:AH)(S:aG)(ns:AA)(x:AJ),eT S k ns->∃(xs ns':AA),bZ [] (gN 0) (aP dE [] (aB (aA 1) (aB (aC aF (aA 2) (mC (.int 1))) aD))) is [x,some (.ref k),some (.pv (.int W))] S=.ok (li xs) (S.set k (.lst (li ns')))/\xs.length=is.length/\∀n∈xs,0<=n/\n<=2
 |[],S,ns,x,h=>by
  refine⟨[],ns,?_,rfl,λ_ h=>absurd h ee⟩;rw[show S.set k (.lst (li ns))=S from Au h];exact dP
 |i::is,S,ns,x,h=>by
  obtain⟨t,n1,e1,t0,t1,_⟩:=iT (m:=W+1) h (by omega) (jV (by omega) (by omega));obtain⟨xs,n2,e2,l2,b2⟩:=Fg W0 W1 is _ n1 (some (.pv i)) (h.set n1);rw[kq]at e2;refine⟨t::xs,n2,?_,by simp[l2],λn hn=>?_⟩
  .rw[dS]
   generalize S.set k (.lst (n1.map .int))=S1 at e1 e2;simp! [gN,aE,aV,aW,aO,aK,aN,aL,aM,aF,aJ,e1,e2]
  .rcases ci.mp hn with rfl |hn
   .omega
   .exact b2 n hn
abbrev rB:MS:=(dQ (dB (aA 3) (aB (bB ["_law_m"] [(0,"_law_row_here"),(2,"_law_wide")] (cZ (aB (aA 1) aD)) (gN 0) (aP dE [] (aB (aA 1) (aB (aC aF (aA 2) (mC (.int 1))) aD)))) aD)))
theorem Oh{n:Nat}(hn:n<=9){W:Int}(W0:0<=W)(W1:W<=2)(hl:AH):∀(is:AH)(L:AB)(ns:AA)(x4:AJ),L.length+is.length<=99->∃(L':AB)(ns':AA)(y4:AJ),
  cJ [] (gN 4) rB is [some (.ref 0),some (.pv (.int (n:Int))),some (.pv (.int W)),some (.ref 2),x4] [.lst (li ns),.lst hl,.lst (L.map lv)]=.nx [some (.ref 0),some (.pv (.int (n:Int))),some (.pv (.int W)),some (.ref 2),y4] [.lst (li ns'),.lst hl,.lst ((L++L').map lv)]
   /\L'.length=is.length/\∀xs∈L',xs.length=n/\∀x∈xs,0<=x/\x<=2
 |[],L,ns,x4,h9=>⟨[],ns,x4,by rw[jl];exact fE,rfl,λ_ h=>absurd h ee⟩
 |i::is,L,ns,x4,h9=>by
  have hr:eT [.lst (li ns),.lst hl,.lst (L.map lv)] 0 ns:=rfl;obtain⟨xs,n1,e1,l1,b1⟩:=Fg W0 W1 (cR 0 n) _ ns none hr;simp only[da]at e1;have h9:L.length+(is.length+1)<=99:=h9;obtain⟨L',n2,y4,e2,l2,b2⟩:=Oh hn W0 W1 hl is (L++[xs]) n1 (some (.pv i)) (by rw[bn,ju];omega);refine⟨xs::L',n2,y4,?_,by simp[l2],λys hy=>?_⟩
  .rw[dY]
   have es:rB [some (.ref 0),some (.pv (.int (n:Int))),some (.pv (.int W)),some (.ref 2),some (.pv i)] [.lst (li ns),.lst hl,.lst (L.map lv)]=.nx [some (.ref 0),some (.pv (.int (n:Int))),some (.pv (.int W)),some (.ref 2),some (.pv i)] [.lst (li n1),.lst hl,.lst ((L++[xs]).map lv)]:=by
    have el:(L++[xs]).map lv=L.map lv++[lv xs]:=by simp
    rw[el];have lz:(L.map lv).length<16777216:=by rw[ak];omega
    have rg:=mQ [.lst (li ns),.lst hl,.lst (L.map lv)] hn;unfold rB;generalize (n:Int)=N,cR 0 n=IP,li ns=NL,L.map lv=LL at *;simp! [aE,aV,aW,aO,aK,aN,aL,aM,aF,aJ,dB,eW,gU,bB,cD,cZ,rg,e1,lz]
   simp only[gN,dr,da];rw[es];dsimp only;rw[e2,ko];rfl
  .rcases ci.mp hy with rfl |hy
   .exact⟨by rw[l1];unfold cR;simp,b1⟩
   .exact b2 ys hy
theorem P6{S:aG}{ti:Nat}{a b c d e f:Int}(h:S[ti]?=some (.lst [lv [a,b],lv [c,d],lv [e,f]]))(ha:0<=a/\a<=2)(hb:0<=b/\b<=2)(hc:0<=c/\c<=2)(hd:0<=d/\d<=2)(he:0<=e/\e<=2)(hf:0<=f/\f<=2):jD [.ref ti] S=.ok (.pv (.int (D2 a b 1 c d 1 e f 1))) S:=by
 have id:(c-a)*(f-b)-(d-b)*(e-a)=D2 a b 1 c d 1 e f 1:=by
  unfold D2;grind
 have b1:Bd 10 (c-a):=lE (by omega) (by omega);have b2:Bd 10 (d-b):=lE (by omega) (by omega);have b3:Bd 10 (e-a):=lE (by omega) (by omega);have b4:Bd 10 (f-b):=lE (by omega) (by omega);have m1:=dN b1 b4;have m2:=dN b2 b3;generalize D2 a b 1 c d 1 e f 1=D at *;have s1:=nP (lv [a,b]) [lv [c,d],lv [e,f]];have et:iU [.pv (.lst [.lst [.int (c-a),.int (d-b)],.lst [.int (e-a),.int (f-b)]])] S=.ok (.pv (.int D)) S:=by
  unfold iU aR nC;simp! [aE,aV,aW,aO,aK,aN,aL,aM,aF,aJ,m1,m2,id]
 unfold jD aR qM;simp only[lv,li,az,cq]at h s1;simp! [aE,aV,aW,aO,aK,aN,aL,aM,aF,aJ,bB,bD,bS,dC,cO,dD,fN,h,s1,cD,dS,dP,gN,gT,cQ,eJ,fG,gI,eN,et]
theorem Q4{S:aG}{ti:Nat}{x0 y0 z0 x1 y1 z1 x2 y2 z2 x3 y3 z3:Int}(h:S[ti]?=some (.lst [lv [x0,y0,z0],lv [x1,y1,z1],lv [x2,y2,z2],lv [x3,y3,z3]]))(hb:∀x∈[x0,y0,z0,x1,y1,z1,x2,y2,z2,x3,y3,z3],0<=x/\x<=2):jD [.ref ti] S=.ok (.pv (.int (D3 x0 y0 z0 1 x1 y1 z1 1 x2 y2 z2 1 x3 y3 z3 1))) S:=by
 have id:dt [(y1-y0)*(z2-z0)-(z1-z0)*(y2-y0),(z1-z0)*(x2-x0)-(x1-x0)*(z2-z0),(x1-x0)*(y2-y0)-(y1-y0)*(x2-x0)] [x3-x0,y3-y0,z3-z0]=D3 x0 y0 z0 1 x1 y1 z1 1 x2 y2 z2 1 x3 y3 z3 1:=by
  simp only[dt,D3,xo,xp,my,tq];grind
 simp only[ci,ee,or_false,forall_eq_or_imp,forall_eq]at hb;have q:∀{a b:Int},(0<=a/\a<=2)->(0<=b/\b<=2)->Bd 10 (a-b):=λh g=>lE (by omega) (by omega);obtain⟨hx0,hy0,hz0,hx1,hy1,hz1,hx2,hy2,hz2,hx3,hy3,hz3⟩:=hb;have b1:=q hx1 hx0;have b2:=q hy1 hy0;have b3:=q hz1 hz0;have b4:=q hx2 hx0;have b5:=q hy2 hy0;have b6:=q hz2 hz0;have b7:=q hx3 hx0;have b8:=q hy3 hy0;have b9:=q hz3 hz0;clear hx0 hy0 hz0 hx1 hy1 hz1 hx2 hy2 hz2 hx3 hy3 hz3 q;generalize D3 x0 y0 z0 1 x1 y1 z1 1 x2 y2 z2 1 x3 y3 z3 1=D at *;have s1:=nP (lv [x0,y0,z0]) [lv [x1,y1,z1],lv [x2,y2,z2],lv [x3,y3,z3]];have et:iU [.pv (.lst [.lst [.int (x1-x0),.int (y1-y0),.int (z1-z0)],.lst [.int (x2-x0),.int (y2-y0),.int (z2-z0)],.lst [.int (x3-x0),.int (y3-y0),.int (z3-z0)]])] S=.ok (.pv (.int D)) S:=by
  generalize z3-z0=T2,y3-y0=T1,x3-x0=T0,z2-z0=V2,y2-y0=V1,x2-x0=V0,z1-z0=U2,y1-y0=U1,x1-x0=U0 at *;have u:∀{a:Int},Bd 10 a->Bd 10000 a:=λh=>h.mono (by decide);have u2:∀{a:Int},Bd 10 a->Bd 100000 a:=λh=>h.mono (by decide);have cc:∀{a b c d:Int},Bd 10 a->Bd 10 b->Bd 10 c->Bd 10 d->Bd 100000 (a*b-c*d):=λh1 h2 h3 h4=>(((h1.mul h2).mono (show 10+10<=20 by decide)).sub ((h3.mul h4).mono (show 10+10<=20 by decide))).mono (by decide);have en:=Dh (A:=.lst [.int U0,.int U1,.int U2]) (B:=.lst [.int V0,.int V1,.int V2]) S rfl rfl (u b1) (u b2) (u b3) (u b4) (u b5) (u b6);have ed:=Mj (A:=.lst [.int (U1*V2-U2*V1),.int (U2*V0-U0*V2),.int (U0*V1-U1*V0)]) (B:=.lst [.int T0,.int T1,.int T2]) (us:=[U1*V2-U2*V1,U2*V0-U0*V2,U0*V1-U1*V0]) (vs:=[T0,T1,T2]) S (.inl rfl) (.inl rfl) (by simp;exact⟨cc b2 b6 b3 b5,cc b3 b4 b1 b6,cc b1 b5 b2 b4⟩) (by simp;exact⟨u2 b7,u2 b8,u2 b9⟩);rw[id]at ed;generalize U0*V1-U1*V0=N2,U2*V0-U0*V2=N1,U1*V2-U2*V1=N0 at *;unfold iU aR nC;simp! [aE,aV,aW,aO,aK,aN,aL,aM,aF,aJ,en,ed]
 unfold jD aR qM;simp only[lv,li,az,cq]at h s1;simp! [aE,aV,aW,aO,aK,aN,aL,aM,aF,aJ,bB,bD,bS,dC,cO,dD,fN,h,s1,cD,dS,dP,gN,gT,cQ,eJ,fG,gI,eN,et]
theorem S9{n:Nat}(hn:n=2\/n=3){S:aG}{ti:Nat}{L:AB}(h:S[ti]?=some (.lst (L.map lv)))(hl:L.length=n+1)(hb:∀xs∈L,xs.length=n/\∀x∈xs,0<=x/\x<=2):jD [.ref ti] S=.ok (.pv (.int (dU (L.map (·++[1]))))) S:=by
 rcases hn with rfl |rfl
 .match L,hl,hb,h with
  |[A,B,C],_,hb,h=>
   have ga:=hb A (by simp);have gb:=hb B (by simp);have gc:=hb C (by simp);clear hb
   match A,ga.1,B,gb.1,C,gc.1 with
   |[a,b],_,[c,d],_,[e,f],_=>exact P6 h (ga.2 a (by simp)) (ga.2 b (by simp)) (gb.2 c (by simp)) (gb.2 d (by simp)) (gc.2 e (by simp)) (gc.2 f (by simp))
 .match L,hl,hb,h with
  |[A,B,C,D],_,hb,h=>
   have ga:=hb A (by simp);have gb:=hb B (by simp);have gc:=hb C (by simp);have gd:=hb D (by simp);clear hb
   match A,ga.1,B,gb.1,C,gc.1,D,gd.1 with
   |[x0,y0,z0],_,[x1,y1,z1],_,[x2,y2,z2],_,[x3,y3,z3],_=>
    refine Q4 h λx hx=>?_;rw[show[x0,y0,z0,x1,y1,z1,x2,y2,z2,x3,y3,z3]=[x0,y0,z0]++([x1,y1,z1]++([x2,y2,z2]++[x3,y3,z3])) from rfl]at hx;rcases cv.mp hx with z |z
    .exact ga.2 x z
    .rcases cv.mp z with z |z
     .exact gb.2 x z
     .rcases cv.mp z with z |z
      .exact gc.2 x z
      .exact gd.2 x z
def qE(n:Nat):AB:=if n=2 then[[0,0],[1,0],[0,1]] else[[0,0,0],[1,0,0],[0,1,0],[0,0,1]]
theorem E7{n:Nat}(hn:n=2\/n=3):Rw n (qE n):=by
 rcases hn with rfl |rfl
 .exact⟨rfl,by decide,by decide,by decide⟩
 .exact⟨rfl,by decide,by decide,by decide⟩
theorem rgm(S:aG){n:Nat}(h:n<=9):rW [.pv (.int (-1)),.pv (.int (n:Int))] S=.ok (cR (-1) (n+1),[]) S:=by
 have e:rW [.pv (.int (-1)),.pv (.int (n:Int))] S=@ite _ ((-4611686018427387904<=(-1:Int)/\(-1:Int)<4611686018427387904/\-4611686018427387904<=(n:Int)/\(n:Int)<4611686018427387904)/\(n:Int)- -1<=16777216) (qo _) (.ok (cR (-1) ((n:Int)- -1).toNat,[]) S) .fail:=rfl;rw[e,if_pos ⟨⟨by decide,by decide,by omega,by omega⟩,by omega⟩];rw[show((n:Int)- -1).toNat=n+1 by omega]
theorem jB{α:Type}{a:α}{S:aG}:iV (.ok a S)=.ok a S:=rfl
theorem vR{n:Nat}{v:PV}{S:aG}:frz n (.ok (.pv v) S)=.ok (.pv v) S:=rfl
theorem Zw{n:Nat}(hn:n=2\/n=3)(S:aG)(x0 x2 x3 x4:AJ):bB ["_law_k"] [(1,"_law_dims")] (jZ (aB (bH bQ (mC (.int 1))) (aB (aA 1) aD))) (gN 0) (bB ["_law_m"] [(0,"_law_k")] (cZ (aB (aA 1) aD)) (gN 0) (mR iO (aB (aC dL (aA 0) (aA 1)) aD))) [x0,some (.pv (.int (n:Int))),x2,x3,x4] S=.ok (.pv (bX (qE n))) S:=by
 have r1:=λS=>mQ S (n:=n) (by omega);have r2:=λS=>rgm S (n:=n) (by omega);rcases hn with rfl |rfl
 .have c2:((2:Nat):Int)=2:=rfl
  rw[c2]at r1 r2⊢;have i1:cR 0 2=[.int 0,.int 1]:=rfl;have i2:cR (-1) (2+1)=[.int (-1),.int 0,.int 1]:=rfl;rw[i1]at r1;rw[i2]at r2;simp! [bB,cD,cZ,jZ,aE,aV,aW,aO,aK,aN,aL,aM,aF,aJ,r1,r2,dS,dP,gN,iO,qE]
 .have c2:((3:Nat):Int)=3:=rfl
  rw[c2]at r1 r2⊢;have i1:cR 0 3=[.int 0,.int 1,.int 2]:=rfl;have i2:cR (-1) (3+1)=[.int (-1),.int 0,.int 1,.int 2]:=rfl;rw[i1]at r1;rw[i2]at r2;simp! [bB,cD,cZ,jZ,aE,aV,aW,aO,aK,aN,aL,aM,aF,aJ,r1,r2,dS,dP,gN,iO,qE]
theorem Vk{n:Nat}(hn:n=2\/n=3){W:Int}(W0:0<=W)(W1:W<=2)(ns:AA)(hl:AH):∃(xss:AB)(ns':AA),frz 2 (iV (kM [.ref 0,.pv (.int (n:Int)),.pv (.int W)] [.lst (li ns),.lst hl]))=.ok (.pv (bX xss)) [.lst (li ns'),.lst hl]/\Rw n xss:=by
 obtain⟨L,n1,y4,e1,l1,b1⟩:=Oh (n:=n) (by omega) W0 W1 hl (cR 0 (n+1)) [] ns none (by unfold cR;simp;omega);have hi:(cR 0 (n+1)).length=n+1:=by unfold cR;simp
 rw[hi]at l1;simp only[jh,cq]at e1;have et:=S9 (ti:=2) (S:=[.lst (li n1),.lst hl,.lst (L.map lv)]) hn rfl l1 b1;have rg:=mQ [.lst (li ns),.lst hl,.lst []] (n:=n+1) (by omega);have cn:((n+1:Nat):Int)=(n:Int)+1:=by omega
 rw[cn]at rg;have ed:=Zw hn [.lst (li n1),.lst hl,.lst (L.map lv)] (some (.ref 0)) (some (.pv (.int W))) (some (.ref 2)) y4;have hb:zQ=(aI (aT 3 (eI aD))
  (aI (bK (cZ (aB (aC aF (aA 1) (mC (.int 1))) aD)) (gN 4) rB)
  (aI (cX (bI (aC iI (aP jD [] (aB (aA 3) aD)) (mC (.int 0)))) (bF (aA 3)) eK)
  (bF (bB ["_law_k"] [(1,"_law_dims")] (jZ (aB (bH bQ (mC (.int 1))) (aB (aA 1) aD))) (gN 0) (bB ["_law_m"] [(0,"_law_k")] (cZ (aB (aA 1) aD)) (gN 0) (mR iO (aB (aC dL (aA 0) (aA 1)) aD)))))))):=rfl
 generalize (bB ["_law_k"] [(1,"_law_dims")] (jZ (aB (bH bQ (mC (.int 1))) (aB (aA 1) aD))) (gN 0) (bB ["_law_m"] [(0,"_law_k")] (cZ (aB (aA 1) aD)) (gN 0) (mR iO (aB (aC dL (aA 0) (aA 1)) aD))))=CD at ed hb;generalize rB=RB at e1 hb
 by_cases hd:dU (L.map (·++[1]))=0
 .refine⟨qE n,n1,?_,E7 hn⟩
  rw[hd]at et;unfold kM aR;rw[hb];generalize (n:Int)=N,cR 0 (n+1)=IP,li n1=NL1,li ns=NL,L.map lv=LL,bX (qE n)=RV at *;simp! [aE,aV,aW,aO,aK,aN,aL,aM,aF,aJ,eI,jP,bK,cZ,rg,e1,et,ed]
 .refine⟨L,n1,?_,⟨l1,λxs hx=>(b1 xs hx).1,λxs hx x hh=>by have:=(b1 xs hx).2 x hh;omega,hd⟩⟩
  unfold kM aR;rw[hb];have hv:bX L=.lst (L.map lv):=rfl;rw[hv];generalize (n:Int)=N,cR 0 (n+1)=IP,li n1=NL1,li ns=NL,L.map lv=LL,dU (L.map (·++[1]))=d at *;simp! [aE,aV,aW,aO,aK,aN,aL,aM,aF,aJ,eI,jP,bK,cZ,rg,e1,et,hd]
abbrev hB:MS:=(aI (aT 5 (aP dE [] (aB (aA 0) (aB (mC (.int 6)) aD))))
 (cX (iW (bI (aC dL (aA 5) (mC (.int 5)))) (bI (aC fJ (mR eQ (aB (aA 3) aD)) (mC (.int 0))))) (dQ (dB (aA 3) (aB (aC aE (aA 3) (bH bQ (mC (.int 1)))) aD))) (cX (bI (aC dL (aA 1) (mC (.int 2)))) (dQ (dB (aA 3) (aB (aP kM [] (aB (aA 0) (aB (mC (.int 2)) (aB (aC aF (mC (.int 1)) (mR iO (aB (aC dL (aA 5) (mC (.int 4))) aD))) aD)))) aD))) (cX (bI (aC fJ (aA 5) (mC (.int 3)))) (dQ (dB (aA 3) (aB (aP kM [] (aB (aA 0) (aB (mC (.int 3)) (aB (mC (.int 1)) aD)))) aD))) (dQ (dB (aA 3) (aB (aP pH [] (aB (aA 0) aD)) aD)))))))
theorem V3{n:Nat}(hn:n=2\/n=3)(ns:AA)(hs:AC)(hw:∀xss∈hs,Rw n xss)(hl:hs.length<=99)(x2 x4 x5:AJ):∃(xss:AB)(ns':AA)(y5:AJ),hB [some (.ref 0),some (.pv (.int (n:Int))),x2,some (.ref 1),x4,x5] [.lst (li ns),.lst (hs.map bX)]=.nx [some (.ref 0),some (.pv (.int (n:Int))),x2,some (.ref 1),x4,y5] [.lst (li ns'),.lst ((hs++[xss]).map bX)]/\Rw n xss:=by
 have hr:eT [.lst (li ns),.lst (hs.map bX)] 0 ns:=rfl;obtain⟨t,n1,e1,t0,t1,_⟩:=iT (m:=6) hr (by decide) (jV (by decide) (by decide));simp only[da]at e1;have e1:dE [.ref 0,.pv (.int 6)] [.lst (li ns),.lst (hs.map bX)]=.ok (.pv (.int t)) [.lst (li n1),.lst (hs.map bX)]:=e1;have lz:(hs.map bX).length<16777216:=by rw[ak];omega
 have lz':hs.length<16777216:=by omega
 have el:∀xss,(hs++[xss]).map bX=hs.map bX++[bX xss]:=λxss=>by simp
 by_cases c1:t=5/\0<hs.length
 .obtain⟨v,hv,e2⟩:=Et (hs.map bX) .non (by
   intro z;have:=congrArg qh z;simp at this;rw[this]at c1;simp at c1)
  obtain⟨xss,hx,rfl⟩:=cj.mp hv;refine⟨xss,n1,some (.pv (.int t)),?_,hw xss hx⟩;rw[el];obtain⟨c1,c2⟩:=c1;subst c1;have c3:hs.map bX≠[]:=λz=>by
   have:=congrArg qh z;simp at this;rw[this]at c2;simp at c2
  generalize hs.map bX=HL,bX xss=RV at *;unfold hB;simp! [-frz,-iV,bJ,aK,aN,aL,aM,aF,aJ,e1,dB,eW,gU,e2,lz,c3]
 .have c1':t=5->hs.map bX=[]:=λz=>by
   have:hs.length=0:=by
    by_cases y:0<hs.length
    .exact absurd ⟨z,y⟩ c1
    .omega
   rw[ow.mp this];rfl
  have cA:∀(S:aG)(ρ:bR),ρ[5]?=some (some (.pv (.int t)))->ρ[3]?=some (some (.ref 1))->S[1]?=some (.lst (hs.map bX))->iW (bI (aC dL (aA 5) (mC (.int 5)))) (bI (aC fJ (mR eQ (aB (aA 3) aD)) (mC (.int 0)))) ρ S=.ok false S:=λS ρ h5 h3 hS=>by
   cases z:t==5 with
   |false=>simp! [-frz,-iV,bJ,aK,aN,aL,aM,aF,aJ,h5,z]
   |true=>
    rw[c1' (by simpa using z)]at hS;simp! [-frz,-iV,bJ,aK,aN,aL,aM,aF,aJ,h5,h3,hS,z]
  generalize hA:iW (bI (aC dL (aA 5) (mC (.int 5)))) (bI (aC fJ (mR eQ (aB (aA 3) aD)) (mC (.int 0))))=MA at cA;have hBe:hB=(aI (aT 5 (aP dE [] (aB (aA 0) (aB (mC (.int 6)) aD))))
   (cX MA (dQ (dB (aA 3) (aB (aC aE (aA 3) (bH bQ (mC (.int 1)))) aD))) (cX (bI (aC dL (aA 1) (mC (.int 2)))) (dQ (dB (aA 3) (aB (aP kM [] (aB (aA 0) (aB (mC (.int 2)) (aB (aC aF (mC (.int 1)) (mR iO (aB (aC dL (aA 5) (mC (.int 4))) aD))) aD)))) aD))) (cX (bI (aC fJ (aA 5) (mC (.int 3)))) (dQ (dB (aA 3) (aB (aP kM [] (aB (aA 0) (aB (mC (.int 3)) (aB (mC (.int 1)) aD)))) aD))) (dQ (dB (aA 3) (aB (aP pH [] (aB (aA 0) aD)) aD))))))):=by rw[<-hA]
  rw[hBe];rcases hn with rfl |rfl
  .obtain⟨xss,n2,e2,hw2⟩:=Vk (n:=2) (.inl rfl) (W:=1+(if t=4 then 1 else 0)) (by split<;>decide) (by split<;>decide) n1 (hs.map bX)
   refine⟨xss,n2,some (.pv (.int t)),?_,hw2⟩;rw[el];have c2:((2:Nat):Int)=2:=rfl;rw[c2]at e2⊢;have cA':=cA [.lst (li n1),.lst (hs.map bX)] [some (.ref 0),some (.pv (.int 2)),x2,some (.ref 1),x4,some (.pv (.int t))] rfl rfl rfl;generalize hs.map bX=HL,bX xss=RV at*
   by_cases z:t=4
   .subst z
    simp! [-frz,-iV,bJ,aK,aN,aL,aM,aF,aJ,e1,cA',dB,eW,gU,iO,jB,vR,lz]at e2⊢;simp[e2,lz,bO.bind,cF.of]
   .rw[if_neg z]at e2
    have z':(t==4)=false:=by simpa using z
    simp! [-frz,-iV,bJ,aK,aN,aL,aM,aF,aJ,e1,cA',dB,eW,gU,iO,jB,vR,lz,z']at e2⊢;simp[e2,lz,bO.bind,cF.of]
  .have c3:((3:Nat):Int)=3:=rfl
   rw[c3];have cA':=cA [.lst (li n1),.lst (hs.map bX)] [some (.ref 0),some (.pv (.int 3)),x2,some (.ref 1),x4,some (.pv (.int t))] rfl rfl rfl
   by_cases z:3<t
   .obtain⟨xss,n2,e2,hw2⟩:=Vk (n:=3) (.inr rfl) (W:=1) (by decide) (by decide) n1 (hs.map bX)
    refine⟨xss,n2,some (.pv (.int t)),?_,hw2⟩;rw[el];rw[c3]at e2;generalize hs.map bX=HL,bX xss=RV at *;simp! [-frz,-iV,bJ,aK,aN,aL,aM,aF,aJ,e1,cA',dB,eW,gU,jB,vR,z];simp[e2,lz,bO.bind,cF.of]
   .obtain⟨xss,n2,e2,hw2⟩:=Iy n1 (hs.map bX)
    refine⟨xss,n2,some (.pv (.int t)),?_,hw2⟩;rw[el];generalize hs.map bX=HL,bX xss=RV at *;simp! [-frz,-iV,bJ,aK,aN,aL,aM,aF,aJ,e1,cA',dB,eW,gU,jB,vR,z,e2,lz]
theorem Zm{n:Nat}(hn:n=2\/n=3)(x2:AJ):∀(is:AH)(hs:AC)(ns:AA)(x4 x5:AJ),(∀xss∈hs,Rw n xss)->hs.length+is.length<=99->∃(hs':AC)(ns':AA)(y4 y5:AJ),
  cJ [] (gN 4) hB is [some (.ref 0),some (.pv (.int (n:Int))),x2,some (.ref 1),x4,x5] [.lst (li ns),.lst (hs.map bX)]=.nx [some (.ref 0),some (.pv (.int (n:Int))),x2,some (.ref 1),y4,y5] [.lst (li ns'),.lst (hs'.map bX)]/\hs'.length=hs.length+is.length/\∀xss∈hs',Rw n xss
 |[],hs,ns,x4,x5,hw,_=>⟨hs,ns,x4,x5,fE,rfl,hw⟩
 |i::is,hs,ns,x4,x5,hw,h9=>by
  have h9:hs.length+(is.length+1)<=99:=h9;obtain⟨xss,n1,y5,e1,r1⟩:=V3 hn ns hs hw (by omega) x2 (some (.pv i)) x5;obtain⟨hs',n2,z4,z5,e2,l2,r2⟩:=Zm hn x2 is (hs++[xss]) n1 (some (.pv i)) y5 (λy hy=>by
   rcases cv.mp hy with z |z
   .exact hw y z
   .have:y=xss:=by simpa using z
    rw[this];exact r1) (by rw[bn,ju];omega)
  refine⟨hs',n2,z4,z5,?_,by rw[l2,bn,ju];show _=hs.length+(is.length+1);omega,r2⟩;rw[dY];simp only[gN,dr,da];rw[e1];exact e2
theorem Dq{n M:Nat}(hn:n=2\/n=3)(hM:M<=8)(ns:AA):∃(hs:AC)(ns':AA),oJ [.ref 0,.pv (.int (n:Int)),.pv (.int (M:Int))] [.lst (li ns)]=.ok (.ref 1) [.lst (li ns'),.lst (hs.map bX)]/\hs.length<=M/\∀xss∈hs,Rw n xss:=by
 have hr:eT [.lst (li ns),.lst []] 0 ns:=rfl;obtain⟨t,n1,e1,t0,t1,_⟩:=iT (m:=(M:Int)+1) hr (by omega) (jV (by omega) (by omega));simp only[da]at e1;have e1:dE [.ref 0,.pv (.int ((M:Int)+1))] [.lst (li ns),.lst []]=.ok (.pv (.int t)) [.lst (li n1),.lst []]:=e1;obtain⟨m,rfl⟩:∃m:Nat,t=(m:Int):=⟨t.toNat,by omega⟩;have rg:=mQ [.lst (li n1),.lst []] (n:=m) (by omega);have hi:(cR 0 m).length=m:=by unfold cR;simp
 obtain⟨hs,n2,y4,y5,e2,l2,r2⟩:=Zm hn (some (.pv (.int (M:Int)))) (cR 0 m) [] n1 none none (λ_ h=>absurd h ee) (by rw[hi];show 0+m<=99;omega);rw[hi]at l2;refine⟨hs,n2,?_,by rw[l2];show 0+m<=M;omega,r2⟩;simp only[cq]at e2;have hb:wN=(aI (aT 3 (eI aD))
  (aI (bK (cZ (aB (aP dE [] (aB (aA 0) (aB (aC aF (aA 2) (mC (.int 1))) aD))) aD)) (gN 4) hB)
  (bF (aA 3)))):=rfl
 unfold oJ aR;rw[hb];generalize (M:Int)=MM,(n:Int)=N,(m:Int)=mm,cR 0 m=IP,hs.map bX=HL,hB=HB at *;simp! [aE,aV,aW,aO,aK,aN,aL,aM,aF,aJ,eI,jP,bK,cZ,e1,rg,e2]
theorem nK{n k:Nat}{L:AA}{b:Int}(hb:0<b)(hl:L.length=n)(hL:∀x∈L,Bd k x)(bb:Bd k b):∃(zs:AA)(z:Int),low (L++[b])=zs++[z]/\Pq n k zs z/\∀j,j<n->zs.getD j 0*b=L.getD j 0*z:=by
 obtain⟨zs,z,g,e,hg,hz,g1,g2,hzl⟩:=uD L hb;have hlow:=zD L hb;have hbd:=uN (k:=k) (ns:=L++[b]) λm hm=>by
  rcases cv.mp hm with y |y
  .exact hL m y
  .have:m=b:=by simpa using y
   rw[this];exact bb
 rw[e]at hlow hbd;refine⟨zs,z,e,⟨hzl.trans hl,hz,hlow,λx hx=>hbd x (kd _ hx),hbd z (jH zs z)⟩,λj hj=>?_⟩;have hj':j<zs.length:=by omega
 have e1:L.getD j 0=g*zs.getD j 0:=by
  rw[g1];simp[cy,hj']
 rw[e1,g2];grind
structure Sp(u:Int×Int):Prop where
 p:0<u.1
 q:0<u.2
 bp:Bd 30 u.1
 bq:Bd 30 u.2
theorem p9:gJ (.int 10) (.int 9)=some (.int 1000000000):=tU (i:=10) (j:=9) ⟨by decide,by decide,by decide⟩
theorem p6:gJ (.int 10) (.int 6)=some (.int 1000000):=tU (i:=10) (j:=6) ⟨by decide,by decide,by decide⟩
theorem dX{v:Int}(h0:0<=v)(h1:v<3):∃M N:Int,aE (.lst [.int 1,.int 7,.int 1000000000]) (.int v)=some (.int M)/\aE (.lst [.int 1,.int 7,.int 1000000]) (.int v)=some (.int N)/\0<M/\M<=1000000000/\0<N/\N<=1000000:=by
 have:v=0\/v=1\/v=2:=by omega
 rcases this with rfl |rfl |rfl
 .exact⟨1,1,rfl,rfl,by decide,by decide,by decide,by decide⟩
 .exact⟨7,7,rfl,rfl,by decide,by decide,by decide,by decide⟩
 .exact⟨1000000000,1000000,rfl,rfl,by decide,by decide,by decide,by decide⟩
abbrev sB:MS:=(aI (aT 4 (aP dE [] (aB (aA 0) (aB (mC (.int 3)) aD))))
 (dQ (dB (aA 2) (aB (aP qV [] (aB (aC aF (mC (.int 1)) (aP dE [] (aB (aA 0) (aB (aC aE (mN fF (aB (mC (.int 1)) (aB (mC (.int 7)) (aB (aC gJ (mC (.int 10)) (mC (.int 9))) aD)))) (aA 4)) aD)))) (aB (aC aF (mC (.int 1)) (aP dE [] (aB (aA 0) (aB (aC aE (mN fF (aB (mC (.int 1)) (aB (mC (.int 7)) (aB (aC gJ (mC (.int 10)) (mC (.int 6))) aD)))) (aA 4)) aD)))) aD))) aD))))
theorem W5(ns:AA)(fs:List (Int×Int))(hl:fs.length<=9)(x1 x3 x4:AJ):∃(u:Int×Int)(ns':AA)(y4:AJ),sB [some (.ref 0),x1,some (.ref 1),x3,x4] [.lst (li ns),.lst (fs.map fv)]=.nx [some (.ref 0),x1,some (.ref 1),x3,y4] [.lst (li ns'),.lst ((fs++[u]).map fv)]/\Sp u:=by
 have hr:∀ms,eT [.lst (li ms),.lst (fs.map fv)] 0 ms:=λ_=>rfl;obtain⟨c,n1,e1,c0,c1,_⟩:=iT (m:=3) (hr ns) (by decide) (jV (by decide) (by decide));obtain⟨M,N,em,en,M0,M1,N0,N1⟩:=dX c0 c1;have bM:Bd 8000 M:=(Bd.of (k:=30) (n:=1000000000) (by omega) (by decide)).mono (by decide);have bN:Bd 8000 N:=(Bd.of (k:=30) (n:=1000000000) (by omega) (by decide)).mono (by decide);obtain⟨t,n2,e2,t0,t1,_⟩:=iT (m:=M) (hr n1) M0 bM;obtain⟨v,n3,e3,v0,v1,_⟩:=iT (m:=N) (hr n2) N0 bN;simp only[da]at e1 e2 e3;have bt:Bd 30 (1+t):=Bd.of (n:=1000000000) (by omega) (by decide);have bv:Bd 30 (1+v):=Bd.of (n:=1000000000) (by omega) (by decide);have nz:1+v≠0:=by omega
 have e4:=B3 (1+t) (1+v) [.lst (li n3),.lst (fs.map fv)] (bt.mono (by decide)) (bv.mono (by decide));obtain⟨p,q,ef,hq,hpq⟩:=Ma (t:=1+t) nz;obtain⟨b1,b2⟩:=R7 bt bv ef;have hp:0<p:=by
  have h1:0<(1+t)*q:=ao (by omega) hq;rw[<-hpq]at h1;exact wd h1 (by omega)
 rw[ef]at e4;simp only[az,cq]at e4;refine⟨(p,q),n3,some (.pv (.int c)),?_,⟨hp,hq,b1,b2⟩⟩;have el:(fs++[(p,q)]).map fv=fs.map fv++[.tup [.int p,.int q]]:=by simp
 rw[el];have lz:(fs.map fv).length<16777216:=by rw[ak];omega
 have e1:dE [.ref 0,.pv (.int 3)] [.lst (li ns),.lst (fs.map fv)]=.ok (.pv (.int c)) [.lst (li n1),.lst (fs.map fv)]:=e1;have e2:dE [.ref 0,.pv (.int M)] [.lst (li n1),.lst (fs.map fv)]=.ok (.pv (.int t)) [.lst (li n2),.lst (fs.map fv)]:=e2;have e3:dE [.ref 0,.pv (.int N)] [.lst (li n2),.lst (fs.map fv)]=.ok (.pv (.int v)) [.lst (li n3),.lst (fs.map fv)]:=e3;generalize fs.map fv=FL at *;unfold sB;simp! [bJ,aK,aN,aL,aM,aF,aJ,e1,p9,p6,em,en,e2,e3,e4,dB,eW,gU,lz]
theorem Mm(x1:AJ):∀(is:AH)(fs:List (Int×Int))(ns:AA)(x3 x4:AJ),(∀u∈fs,Sp u)->fs.length+is.length<=9->∃(fs':List (Int×Int))(ns':AA)(y3 y4:AJ),
  cJ [] (gN 3) sB is [some (.ref 0),x1,some (.ref 1),x3,x4] [.lst (li ns),.lst (fs.map fv)]=.nx [some (.ref 0),x1,some (.ref 1),y3,y4] [.lst (li ns'),.lst (fs'.map fv)]/\fs'.length=fs.length+is.length/\∀u∈fs',Sp u
 |[],fs,ns,x3,x4,hw,_=>⟨fs,ns,x3,x4,fE,rfl,hw⟩
 |i::is,fs,ns,x3,x4,hw,h9=>by
  have h9:fs.length+(is.length+1)<=9:=h9;obtain⟨u,n1,y4,e1,r1⟩:=W5 ns fs (by omega) x1 (some (.pv i)) x4;obtain⟨fs',n2,z3,z4,e2,l2,r2⟩:=Mm x1 is (fs++[u]) n1 (some (.pv i)) y4 (λy hy=>by
   rcases cv.mp hy with z |z
   .exact hw y z
   .have:y=u:=by simpa using z
    rw[this];exact r1) (by rw[bn,ju];omega)
  refine⟨fs',n2,z3,z4,?_,by rw[l2,bn,ju];show _=fs.length+(is.length+1);omega,r2⟩;rw[dY];simp only[gN,dr,da];rw[e1];exact e2
theorem Jr{n:Nat}(hn:n=2\/n=3)(ns:AA):∃(fs:List (Int×Int))(ns':AA),oM [.ref 0,.pv (.int (n:Int))] [.lst (li ns)]=.ok (.ref 1) [.lst (li ns'),.lst (fs.map fv)]/\fs.length=n/\∀u∈fs,Sp u:=by
 have hi:(cR 0 n).length=n:=by unfold cR;simp
 have rg:=mQ [.lst (li ns),.lst []] (n:=n) (by omega);obtain⟨fs,n2,y3,y4,e2,l2,r2⟩:=Mm (some (.pv (.int (n:Int)))) (cR 0 n) [] ns none none (λ_ h=>absurd h ee) (by rw[hi];show 0+n<=9;omega);rw[hi]at l2;refine⟨fs,n2,?_,by rw[l2];show 0+n=n;omega,r2⟩;simp only[cq]at e2;have hb:wY=(aI (aT 2 (eI aD)) (aI (bK (cZ (aB (aA 1) aD)) (gN 3) sB) (bF (aA 2)))):=rfl;unfold oM aR;rw[hb];generalize (n:Int)=N,cR 0 n=IP,fs.map fv=FL,sB=SB at *;simp! [aE,aV,aW,aO,aK,aN,aL,aM,aF,aJ,eI,jP,bK,cZ,rg,e2]
def dF:List (Int×Int)->AA->AA
 |[u,v],[a,b]=>low ([a*u.1*v.2,b*v.1*u.2]++[1*u.2*v.2])
 |[u,v,t],[a,b,c]=>low ([a*u.1*(v.2*t.2),b*v.1*(u.2*t.2),c*t.1*(u.2*v.2)]++[1*u.2*v.2*t.2])
 |_,_=>[]
def gF:List (Int×Int)->Nat->Int
 |[u,v],0=>u.1*v.2
 |[u,v],1=>v.1*u.2
 |[u,v,t],0=>u.1*(v.2*t.2)
 |[u,v,t],1=>v.1*(u.2*t.2)
 |[u,v,t],2=>t.1*(u.2*v.2)
 |_,_=>1
def fA:List (Int×Int)->Int
 |[u,v]=>1*u.2*v.2
 |[u,v,t]=>1*u.2*v.2*t.2
 |_=>1
theorem Cm{n k:Nat}(hk:k<=60)(hn:n=2\/n=3)(S:aG){fs:List (Int×Int)}{xs:AA}(hf:fs.length=n)(h:∀u∈fs,Sp u)(hx:xs.length=n)(hb:∀x∈xs,Bd k x){V:AV}(hV:V=.pv (lv xs)\/V=.pv (tv xs)\/∃i,V=.ref i/\S[i]?=some (.lst (li xs))):kL [V,.pv (.lst (fs.map fv))] S=.ok (.pv (tv (dF fs xs))) S/\Gu n (k+97) (dF fs xs)/\fZ n (gF fs) (λ_=>0) (fA fs) (xs++[1]) (dF fs xs):=by
 have o1:Bd 1 (1:Int):=by unfold Bd;decide
 rcases hn with rfl |rfl
 .match fs,hf,h,xs,hx,hb,hV with
  |[u,v],_,h,[a,b],_,hb,hV=>
   have hu:=h u (by simp);have hv:=h v (by simp);have ba:=hb a (by simp);have bb:=hb b (by simp);have m1:=mk o1 hu.bq (by omega) (by omega);have m2:=mk (o1.mul hu.bq) hv.bq (by omega) (by omega);have d1:(1*u.2*v.2).fdiv u.2=v.2:=by rw[ij];exact mX (by have:=hu.q;omega)
   have d2:(1*u.2*v.2).fdiv v.2=u.2:=by rw[ij,cw];exact mX (by have:=hv.q;omega)
   have q1:eE (.int (1*u.2*v.2)) (.int u.2)=some (.int v.2):=by
    have e:=jI (i:=1*u.2*v.2) (j:=u.2) ⟨by have:=hu.q;omega,hu.bq.mono (by omega)⟩;rw[d1]at e;exact e
   have q2:eE (.int (1*u.2*v.2)) (.int v.2)=some (.int u.2):=by
    have e:=jI (i:=1*u.2*v.2) (j:=v.2) ⟨by have:=hv.q;omega,hv.bq.mono (by omega)⟩;rw[d2]at e;exact e
   have m3:=mk ba hu.bp (by omega) (by omega);have m4:=mk (ba.mul hu.bp) hv.bq (by omega) (by omega);have m5:=mk bb hv.bp (by omega) (by omega);have m6:=mk (bb.mul hv.bp) hu.bq (by omega) (by omega);have pE:0<1*u.2*v.2:=ao (ao (by omega) hu.q) hv.q;have bL:∀x∈[a*u.1*v.2,b*v.1*u.2],Bd (k+97) x:=by
    simp;exact⟨((ba.mul hu.bp).mul hv.bq).mono (by omega),((bb.mul hv.bp).mul hu.bq).mono (by omega)⟩
   have bE:Bd (k+97) (1*u.2*v.2):=((o1.mul hu.bq).mul hv.bq).mono (by omega);obtain⟨zs,z,el,Z,rel⟩:=nK (n:=2) pE rfl bL bE;have ew:=oU ([a*u.1*v.2,b*v.1*u.2]++[1*u.2*v.2]) S (by
    intro x hx;rcases cv.mp hx with y |y
    .exact(bL x y).mono (by omega)
    .have:x=1*u.2*v.2:=by simpa using y
     rw[this];exact bE.mono (by omega))
   have es:dF [u,v] [a,b]=zs++[z]:=el;refine⟨?_,by rw[es];exact⟨zs,z,rfl,Z⟩,[a,b],1,zs,z,rfl,es,rfl,Z.len,by decide,Z.pos,λj hj=>?_⟩
   .rw[el]at ew
    rw[es];simp only[az,cq,kr,jh]at ew;generalize hQ:1*u.2*v.2=Q at *;generalize hA:a*u.1*v.2=A at *;generalize hB:b*v.1*u.2=B at *;unfold kL aR uB;simp only[lv,li,tv,az,cq]at hV⊢;generalize (zs++[z]).map PV.int=ZL at *;simp only[ij]at m1 m2 hQ;rcases hV with rfl |rfl |⟨i,rfl,hi⟩
    .simp! [aE,aV,aW,aO,aK,aN,aL,aM,aF,aJ,bK,bD,bS,dY,fE,gN,m1,m2,bB,cD,fG,gI,eN,dS,dP,gT,cQ,eJ,m3,m4,m5,m6,q1,q2,ew]
    .simp! [aE,aV,aW,aO,aK,aN,aL,aM,aF,aJ,bK,bD,bS,dY,fE,gN,m1,m2,bB,cD,fG,gI,eN,dS,dP,gT,cQ,eJ,m3,m4,m5,m6,q1,q2,ew]
    .simp! [aE,aV,aW,aO,aK,aN,aL,aM,aF,aJ,bK,bD,bS,dY,fE,gN,m1,m2,bB,cD,fG,gI,eN,dS,dP,gT,cQ,eJ,m3,m4,m5,m6,q1,q2,ew,hi,bZ,fP]
   .have r:=rel j hj
    match j,hj with
    |0,_=>
     have r:zs.getD 0 0*(1*u.2*v.2)=a*u.1*v.2*z:=r;show zs.getD 0 0*(1*u.2*v.2*1)=(u.1*v.2*a+0*1)*z;rw[oa,r];grind
    |1,_=>
     have r:zs.getD 1 0*(1*u.2*v.2)=b*v.1*u.2*z:=r;show zs.getD 1 0*(1*u.2*v.2*1)=(v.1*u.2*b+0*1)*z;rw[oa,r];grind
 .match fs,hf,h,xs,hx,hb,hV with
  |[u,v,t],_,h,[a,b,c],_,hb,hV=>
   have hu:=h u (by simp);have hv:=h v (by simp);have ht:=h t (by simp);have ba:=hb a (by simp);have bb:=hb b (by simp);have bc:=hb c (by simp);have m1:=mk o1 hu.bq (by omega) (by omega);have m2:=mk (o1.mul hu.bq) hv.bq (by omega) (by omega);have m2':=mk ((o1.mul hu.bq).mul hv.bq) ht.bq (by omega) (by omega);have d1:(1*u.2*v.2*t.2).fdiv u.2=v.2*t.2:=by rw[ij,Int.mul_assoc];exact mX (by have:=hu.q;omega)
   have d2:(1*u.2*v.2*t.2).fdiv v.2=u.2*t.2:=by rw[show 1*u.2*v.2*t.2=v.2*(u.2*t.2) by grind];exact mX (by have:=hv.q;omega)
   have d3:(1*u.2*v.2*t.2).fdiv t.2=u.2*v.2:=by rw[show 1*u.2*v.2*t.2=t.2*(u.2*v.2) by grind];exact mX (by have:=ht.q;omega)
   have q1:eE (.int (1*u.2*v.2*t.2)) (.int u.2)=some (.int (v.2*t.2)):=by
    have e:=jI (i:=1*u.2*v.2*t.2) (j:=u.2) ⟨by have:=hu.q;omega,hu.bq.mono (by omega)⟩;rw[d1]at e;exact e
   have q2:eE (.int (1*u.2*v.2*t.2)) (.int v.2)=some (.int (u.2*t.2)):=by
    have e:=jI (i:=1*u.2*v.2*t.2) (j:=v.2) ⟨by have:=hv.q;omega,hv.bq.mono (by omega)⟩;rw[d2]at e;exact e
   have q3:eE (.int (1*u.2*v.2*t.2)) (.int t.2)=some (.int (u.2*v.2)):=by
    have e:=jI (i:=1*u.2*v.2*t.2) (j:=t.2) ⟨by have:=ht.q;omega,ht.bq.mono (by omega)⟩;rw[d3]at e;exact e
   have m3:=mk ba hu.bp (by omega) (by omega);have m4:=mk (ba.mul hu.bp) (hv.bq.mul ht.bq) (by omega) (by omega);have m5:=mk bb hv.bp (by omega) (by omega);have m6:=mk (bb.mul hv.bp) (hu.bq.mul ht.bq) (by omega) (by omega);have m7:=mk bc ht.bp (by omega) (by omega);have m8:=mk (bc.mul ht.bp) (hu.bq.mul hv.bq) (by omega) (by omega);have pE:0<1*u.2*v.2*t.2:=ao (ao (ao (by omega) hu.q) hv.q) ht.q;have bL:∀x∈[a*u.1*(v.2*t.2),b*v.1*(u.2*t.2),c*t.1*(u.2*v.2)],Bd (k+97) x:=by
    simp;exact⟨((ba.mul hu.bp).mul (hv.bq.mul ht.bq)).mono (by omega),((bb.mul hv.bp).mul (hu.bq.mul ht.bq)).mono (by omega),((bc.mul ht.bp).mul (hu.bq.mul hv.bq)).mono (by omega)⟩
   have bE:Bd (k+97) (1*u.2*v.2*t.2):=(((o1.mul hu.bq).mul hv.bq).mul ht.bq).mono (by omega);obtain⟨zs,z,el,Z,rel⟩:=nK (n:=3) pE rfl bL bE;have ew:=oU ([a*u.1*(v.2*t.2),b*v.1*(u.2*t.2),c*t.1*(u.2*v.2)]++[1*u.2*v.2*t.2]) S (by
    intro x hx;rcases cv.mp hx with y |y
    .exact(bL x y).mono (by omega)
    .have:x=1*u.2*v.2*t.2:=by simpa using y
     rw[this];exact bE.mono (by omega))
   have es:dF [u,v,t] [a,b,c]=zs++[z]:=el;refine⟨?_,by rw[es];exact⟨zs,z,rfl,Z⟩,[a,b,c],1,zs,z,rfl,es,rfl,Z.len,by decide,Z.pos,λj hj=>?_⟩
   .rw[el]at ew
    rw[es];simp only[az,cq,kr,jh]at ew;generalize hQ:1*u.2*v.2*t.2=Q at *;generalize hA:a*u.1*(v.2*t.2)=A at *;generalize hB:b*v.1*(u.2*t.2)=B at *;generalize hC:c*t.1*(u.2*v.2)=C at *;unfold kL aR uB;simp only[lv,li,tv,az,cq]at hV⊢;generalize (zs++[z]).map PV.int=ZL at *;simp only[ij]at m1 m2 m2' hQ;rcases hV with rfl |rfl |⟨i,rfl,hi⟩
    .simp! [aE,aV,aW,aO,aK,aN,aL,aM,aF,aJ,bK,bD,bS,dY,fE,gN,m1,m2,m2',bB,cD,fG,gI,eN,dS,dP,gT,cQ,eJ,m3,m4,m5,m6,m7,m8,q1,q2,q3,ew]
    .simp! [aE,aV,aW,aO,aK,aN,aL,aM,aF,aJ,bK,bD,bS,dY,fE,gN,m1,m2,m2',bB,cD,fG,gI,eN,dS,dP,gT,cQ,eJ,m3,m4,m5,m6,m7,m8,q1,q2,q3,ew]
    .simp! [aE,aV,aW,aO,aK,aN,aL,aM,aF,aJ,bK,bD,bS,dY,fE,gN,m1,m2,m2',bB,cD,fG,gI,eN,dS,dP,gT,cQ,eJ,m3,m4,m5,m6,m7,m8,q1,q2,q3,ew,hi,bZ,fP]
   .have r:=rel j hj
    match j,hj with
    |0,_=>
     have r:zs.getD 0 0*(1*u.2*v.2*t.2)=a*u.1*(v.2*t.2)*z:=r;show zs.getD 0 0*(1*u.2*v.2*t.2*1)=(u.1*(v.2*t.2)*a+0*1)*z;rw[oa,r];grind
    |1,_=>
     have r:zs.getD 1 0*(1*u.2*v.2*t.2)=b*v.1*(u.2*t.2)*z:=r;show zs.getD 1 0*(1*u.2*v.2*t.2*1)=(v.1*(u.2*t.2)*b+0*1)*z;rw[oa,r];grind
    |2,_=>
     have r:zs.getD 2 0*(1*u.2*v.2*t.2)=c*t.1*(u.2*v.2)*z:=r;show zs.getD 2 0*(1*u.2*v.2*t.2*1)=(t.1*(u.2*v.2)*c+0*1)*z;rw[oa,r];grind
theorem rC{n:Nat}(hn:n=2\/n=3)(S:aG){fs:List (Int×Int)}{xs:AA}(hf:fs.length=n)(h:∀u∈fs,Sp u)(hx:xs.length=n)(hb:∀x∈xs,-8<x/\x<8):kL [.pv (lv xs),.pv (.lst (fs.map fv))] S=.ok (.pv (tv (dF fs xs))) S/\Gu n 100 (dF fs xs)/\fZ n (gF fs) (λ_=>0) (fA fs) (xs++[1]) (dF fs xs):=Cm (k:=3) (by decide) hn S hf h hx (λx hh=>Bd.of (n:=7) (by have:=hb x hh;omega) (by decide)) (.inl rfl)
theorem qZ{n:Nat}(hn:n=2\/n=3){fs:List (Int×Int)}(hf:fs.length=n)(h:∀u∈fs,Sp u):0<fA fs/\∀j,j<n->0<gF fs j:=by
 rcases hn with rfl |rfl
 .match fs,hf,h with
  |[u,v],_,h=>
   have hu:=h u (by simp);have hv:=h v (by simp);refine⟨ao (ao (by decide) hu.q) hv.q,λj hj=>?_⟩
   match j,hj with
   |0,_=>exact ao hu.p hv.q
   |1,_=>exact ao hv.p hu.q
 .match fs,hf,h with
  |[u,v,t],_,h=>
   have hu:=h u (by simp);have hv:=h v (by simp);have ht:=h t (by simp);refine⟨ao (ao (ao (by decide) hu.q) hv.q) ht.q,λj hj=>?_⟩
   match j,hj with
   |0,_=>exact ao hu.p (ao hv.q ht.q)
   |1,_=>exact ao hv.p (ao hu.q ht.q)
   |2,_=>exact ao ht.p (ao hu.q hv.q)
theorem Dw{n:Nat}(hn:n=2\/n=3){fs:List (Int×Int)}(hf:fs.length=n)(h:∀u∈fs,Sp u){xss:AB}(w:Rw n xss):dU (xss.map (dF fs))≠0:=λz=>by
 have af:∀xs∈xss,fZ n (gF fs) (λ_=>0) (fA fs) (xs++[1]) (dF fs xs):=λxs hx=>(rC hn [] hf h (w.l xs hx) (λy hy=>by have:=w.b xs hx y hy;omega)).2.2;have gu:∀us∈xss.map (dF fs),Gu n 100 us:=λus hu=>by
  obtain⟨xs,hx,rfl⟩:=cj.mp hu;exact(rC hn [] hf h (w.l xs hx) (λy hy=>by have:=w.b xs hx y hy;omega)).2.1
 have p2:=pN gu;obtain⟨pe,pa⟩:=qZ hn hf h;have nz:=w.nz;have wl:=w.len;clear w;rcases hn with rfl |rfl
 .match xss,wl,af,nz,p2,z with
  |[a,b,c],_,af,nz,p2,z=>
   have e:=Fb (af a (by simp)) (af b (by simp)) (af c (by simp));have z:dU [dF fs a,dF fs b,dF fs c]=0:=z;rw[z,tw]at e;exact kj (kj (fk (ao (ao (pa 0 (by decide)) (pa 1 (by decide))) pe)) nz) (fk p2) e.symm
 .match xss,wl,af,nz,p2,z with
  |[a,b,c,d],_,af,nz,p2,z=>
   have e:=Wa (af a (by simp)) (af b (by simp)) (af c (by simp)) (af d (by simp));have z:dU [dF fs a,dF fs b,dF fs c,dF fs d]=0:=z;rw[z,tw]at e;exact kj (kj (fk (ao (ao (ao (pa 0 (by decide)) (pa 1 (by decide))) (pa 2 (by decide))) pe)) nz) (fk p2) e.symm
abbrev lB:MS:=(aI (aT 5 (aP jL [] (aB (aA 0) (aB (mR eQ (aB (aA 2) aD)) aD))))
 (dQ (dB (aA 3) (aB (aP lQ [] (aB (bB ["_law_corner"] [(5,"_law_far_here"),(2,"_law_stretch_here")] (bD (aA 4)) (gN 0) (aP kJ [] (aB (aP kL [] (aB (aA 0) (aB (aA 2) aD))) (aB (aA 1) (aB (mC (.int 1)) aD))))) aD)) aD))))
theorem Fy{L:AA}{w:Int}(hw:0<w)(e:low (L++[w])=L++[w]):gl (L++[w]) 0=1:=by
 have hg:=rL (jH L w) (by omega);rw[rJ (jH L w) (by omega),gi]at e;have e2:=(oy e (by simp)).2;have e3:w/gl (L++[w]) 0=w:=by simpa using e2
 generalize gl (L++[w]) 0=g at *;have e4:=Int.mul_ediv_self_le (x:=w) (k:=g) (by omega);rw[e3]at e4
 by_cases h2:2<=g
 .have:=Int.mul_le_mul_of_nonneg_right h2 (show 0<=w by omega)
  omega
 .omega
def iP:AA->Int->Int
 |[],f=>f
 |s::L,f=>if s<0 then-1 else iP L (if s=0 then 0 else f)
def kG(uss:AB)(p:AA):AA:=(ax uss.length).map λj=>sg (dU (uss.set j p))
def bY(uss:AB)(p:AA):Int:=iP (kG uss p) 1
theorem sg3(d:Int):sg d=-1\/sg d=0\/sg d=1:=by
 unfold sg;split
 .exact .inr (.inr rfl)
 .split
  .exact .inl rfl
  .exact .inr (.inl rfl)
theorem Zj:∀(L:AA)(f:Int),(f=-1\/f=0\/f=1)->(∀s∈L,s=-1\/s=0\/s=1)->(f=-1->L.foldl min f=-1)/\(f≠-1->L.foldl min f=iP L f)
 |[],f,_,_=>⟨λh=>h,λ_=>rfl⟩
 |s::L,f,hf,h=>by
  have hs:=h s (by simp);have ih:=λf hf=>Zj L f hf λx hx=>h x (bh _ hx);refine⟨λz=>?_,λz=>?_⟩
  .show L.foldl min (min f s)=-1
   have e:min f s=-1:=by rcases hs with rfl |rfl |rfl<;>subst z<;>decide
   rw[e];exact(ih (-1) (.inl rfl)).1 rfl
  .show L.foldl min (min f s)=if s<0 then-1 else iP L (if s=0 then 0 else f)
   rcases hs with rfl |rfl |rfl
   .have e:min f (-1)=-1:=by rcases hf with rfl |rfl |rfl<;>decide
    rw[e,if_pos (by decide)];exact(ih (-1) (.inl rfl)).1 rfl
   .have e:min f 0=0:=by rcases hf with rfl |rfl |rfl<;>first |decide |exact absurd rfl z
    rw[e,if_neg (by decide),if_pos rfl];exact(ih 0 (.inr (.inl rfl))).2 (by decide)
   .have e:min f 1=f:=by rcases hf with rfl |rfl |rfl<;>decide
    rw[e,if_neg (by decide),if_neg (by decide)];exact(ih f hf).2 z
theorem Qx{L:AA}(hne:L≠[])(h:∀s∈L,s=-1\/s=0\/s=1):L.min?=some (iP L 1):=by
 match L,hne,h with
 |s::L,_,h=>
  have e:=(Zj (s::L) 1 (.inr (.inr rfl)) h).2 (by decide);have hs:=h s (by simp);have e1:min 1 s=s:=by rcases hs with rfl |rfl |rfl<;>decide
  have e2:(s::L).foldl min 1=L.foldl min s:=by
   show L.foldl min (min 1 s)=_;rw[e1]
  rw[<-e,e2];rfl
theorem Ab:∀(L:AA)(f:Int),(f=-1\/f=0\/f=1)->(iP L f=-1\/iP L f=0\/iP L f=1)
 |[],f,hf=>hf
 |s::L,f,hf=>by
  unfold iP;split
  .exact .inl rfl
  .split
   .exact Ab L 0 (.inr (.inl rfl))
   .exact Ab L f hf
theorem aaQ(uss:AB)(p:AA):bY uss p=-1\/bY uss p=0\/bY uss p=1:=Ab _ 1 (.inr (.inr rfl))
theorem N7{n k:Nat}{uss:AB}{p:AA}(h:∀us∈uss,Gu n k us)(g:Gu n k p)(j:Nat):∀us∈uss.set j p,Gu n k us:=λus hu=>by
 rcases List.mem_or_eq_of_mem_set hu with z |z
 .exact h us z
 .rw[z];exact g
theorem L8{n:Nat}(hn:n=2\/n=3){uss:AB}{p:AA}(hl:uss.length=n+1)(S:aG){j:Nat}(hj:j<n+1):oP [.pv (px uss),.pv (.int (j:Int)),.pv (tv p)] S=.ok (.pv (px (uss.set j p))) S:=by
 have go:∀(L M R:AH)(a b:AI),iF (px uss) none (some (j:Int))=some (.tup L)->iF (px uss) (some ((j:Int)+1)) none=some (.tup R)->L.length+1+R.length<=100->px (uss.set j p)=.tup (L++[tv p]++R)->oP [.pv (px uss),.pv (.int (j:Int)),.pv (tv p)] S=.ok (.pv (px (uss.set j p))) S:=λL M R a b h1 h2 hz h3=>by
  have t1:iN (.tup L) (.tup [tv p])=some (.tup (L++[tv p])):=by
   show(if L.length+1<=16777216 then some (PV.tup (L++[tv p]))else none)=_;rw[if_pos (by omega)]
  have t2:iN (.tup (L++[tv p])) (.tup R)=some (.tup (L++[tv p]++R)):=by
   show(if(L++[tv p]).length+R.length<=16777216 then some (PV.tup (L++[tv p]++R))else none)=_;rw[if_pos (by rw[bn,ju];omega)]
  rw[h3];generalize (j:Int)=J,tv p=T,px uss=P,L++[tv p]=U,L++[tv p]++R=V at *;unfold oP aR wV;simp! [aE,aV,aW,aO,aK,aN,aL,aM,aF,aJ,dC,cO,dD,fN,h1,h2,t1,t2]
 rcases hn with rfl |rfl
 .match uss,hl,j,hj with
  |[a,b,c],_,0,_=>exact go [] [] [tv b,tv c] none none rfl rfl (by simp) rfl
  |[a,b,c],_,1,_=>exact go [tv a] [] [tv c] none none rfl rfl (by simp) rfl
  |[a,b,c],_,2,_=>exact go [tv a,tv b] [] [] none none rfl rfl (by simp) rfl
 .match uss,hl,j,hj with
  |[a,b,c,d],_,0,_=>exact go [] [] [tv b,tv c,tv d] none none rfl rfl (by simp) rfl
  |[a,b,c,d],_,1,_=>exact go [tv a] [] [tv c,tv d] none none rfl rfl (by simp) rfl
  |[a,b,c,d],_,2,_=>exact go [tv a,tv b] [] [tv d] none none rfl rfl (by simp) rfl
  |[a,b,c,d],_,3,_=>exact go [tv a,tv b,tv c] [] [] none none rfl rfl (by simp) rfl
theorem Ci(m:Nat):cR 0 m=(ax m).map λj:Nat=>PV.int (j:Int):=by
 unfold cR;refine il λj _=>?_;simp
structure Wx(n k:Nat)(uss:AB):Prop where
 len:uss.length=n+1
 gu:∀us∈uss,Gu n k us
theorem Mu{n k:Nat}(hn:n=2\/n=3)(hk:k<=1000){uss:AB}{p:AA}(h:Wx n k uss)(g:Gu n 1000 p)(S:aG):qO [.pv (px uss),.pv (tv p)] S=.ok (.pv (.int (bY uss p))) S:=by
 have hl:=h.len;have hg:∀us∈uss,Gu n 1000 us:=λus hu=>(h.gu us hu).mono hk;have ec:bZ [] (gN 0) (aP lX [] (aB (aP oP [] (aB (aA 1) (aB (aA 0) (aB (aA 2) aD)))) aD)) ((ax (n+1)).map λj:Nat=>PV.int (j:Int)) [none,some (.pv (px uss)),some (.pv (tv p))] S=.ok ((ax (n+1)).map λj=>.int (sg (dU (uss.set j p)))) S:=by
  refine jX (gY S) (λj:Nat=>PV.int (j:Int)) (λj=>.int (sg (dU (uss.set j p)))) (ax (n+1)) none λj hj=>?_;have e1:=L8 hn (p:=p) hl S (j:=j) (by simpa using hj);have hl2:(uss.set j p).length=n+1:=by rw[fh];exact hl
  have hg2:=N7 hg g j;have e2:=Cy (A:=px (uss.set j p)) (L:=(uss.set j p).map tv) hn S (by rw[ak];exact hl2) (Mo hg2) (.inr rfl);rw[Ql hn (ar 1000) hl2 hg2]at e2;generalize (j:Int)=J,tv p=T,px uss=P0,px (uss.set j p)=P1 at *;simp! [aE,aV,aW,aO,aK,aN,aL,aM,aF,aJ,e1,e2]
 have rg:=mQ S (n:=n+1) (by omega);rw[Ci]at rg;have es:((ax (n+1)).map λj=>sg (dU (uss.set j p)))=kG uss p:=by
  unfold kG;rw[hl]
 have em:((ax (n+1)).map λj=>PV.int (sg (dU (uss.set j p))))=(kG uss p).map .int:=by
  rw[<-es,cu];rfl
 rw[em]at ec;have hm:mK [.lst ((kG uss p).map .int)]=some (.int (bY uss p)):=by
  show((gR ((kG uss p).map .int)).bind λbs=>bs.min?.map PV.int)=_;rw[oR];show(kG uss p).min?.map PV.int=_;rw[Qx (L:=kG uss p) (by
   unfold kG;rw[hl];intro z;have:=congrArg qh z;simp at this) (λs hs=>by
   unfold kG at hs;obtain⟨j,_,rfl⟩:=cj.mp hs;exact sg3 _)]
  rfl
 have ln:((uss.map tv).length:Int)=((n+1:Nat):Int):=by rw[ak,hl]
 have hp:px uss=.tup (uss.map tv):=rfl;rw[hp]at ec⊢;generalize ((n+1:Nat):Int)=N1,tv p=T,uss.map tv=UL,((ax (n+1)).map λj:Nat=>PV.int (j:Int))=RL,(kG uss p).map PV.int=SL at *;unfold qO aR wR;simp! [aE,aV,aW,aO,aK,aN,aL,aM,aF,aJ,ln,bB,cD,cZ,rg,ec,hm]
abbrev mP:MS:=(aI (aT 4 (aP qO [] (aB (aA 3) (aB (aA 1) aD))))
 (aI (cX (bI (aC dL (aA 4) (mC (.int 0)))) (nO "OnSide") eK)
 (cX (bI (aC fJ (aA 4) (mC (.int 0)))) (kQ (λi j=>i+j) 2 (mC (.int 1))) eK)))
theorem Lj{n k:Nat}(hn:n=2\/n=3)(hk:k<=1000){p:AA}(g:Gu n 1000 p)(S:aG)(x0:AJ):∀(hs:AC)(c:Int)(x3 x4:AJ),(∀uss∈hs,Wx n k uss)->
  ((∃uss∈hs,bY uss p=0)/\cJ [] (gN 3) mP (hs.map px) [x0,some (.pv (tv p)),some (.pv (.int c)),x3,x4] S=.exc "OnSide" S)\/
  ((∀uss∈hs,bY uss p≠0)/\∃y3 y4,cJ [] (gN 3) mP (hs.map px) [x0,some (.pv (tv p)),some (.pv (.int c)),x3,x4] S=.nx [x0,some (.pv (tv p)),some (.pv (.int (c+((hs.map λuss=>bY uss p).count 1:Nat)))),y3,y4] S)
 |[],c,x3,x4,_=>.inr ⟨λ_ h=>absurd h ee,x3,x4,by simp[fE]⟩
 |uss::hs,c,x3,x4,h=>by
  have e:=Mu hn hk (h uss (by simp)) g S;have s3:=aaQ uss p
  by_cases c0:bY uss p=0
  .left
   refine⟨⟨uss,by simp,c0⟩,?_⟩;rw[c0]at e;have st:mP [x0,some (.pv (tv p)),some (.pv (.int c)),some (.pv (px uss)),x4] S=.exc "OnSide" S:=by
    generalize tv p=T,px uss=P at *;unfold mP;simp! [aE,aV,aW,aO,aK,aN,aL,aM,aF,aJ,e,nO]
   rw[az,dY];simp only[gN,dr,da];rw[st]
  .have st:mP [x0,some (.pv (tv p)),some (.pv (.int c)),some (.pv (px uss)),x4] S=.nx [x0,some (.pv (tv p)),some (.pv (.int (c+if bY uss p=1 then 1 else 0))),some (.pv (px uss)),some (.pv (.int (bY uss p)))] S:=by
    generalize bY uss p=s,tv p=T,px uss=P at *;unfold mP;rcases s3 with rfl |rfl |rfl
    .simp! [aE,aV,aW,aO,aK,aN,aL,aM,aF,aJ,e]
    .exact absurd rfl c0
    .simp! [aE,aV,aW,aO,aK,aN,aL,aM,aF,aJ,e,kQ,vD]
   rcases Lj hn hk g S x0 hs (c+if bY uss p=1 then 1 else 0) (some (.pv (px uss))) (some (.pv (.int (bY uss p)))) (λy hy=>h y (bh _ hy))with⟨⟨y,hy,z⟩,ih⟩|⟨z,y3,y4,ih⟩
   .left
    refine⟨⟨y,bh _ hy,z⟩,?_⟩;rw[az,dY];simp only[gN,dr,da];rw[st];exact ih
   .right
    refine⟨λy hy=>?_,y3,y4,?_⟩
    .rcases ci.mp hy with rfl |hy
     .exact c0
     .exact z y hy
    .rw[az,dY]
     simp only[gN,dr,da];rw[st];have ec:c+(((uss::hs).map λuss=>bY uss p).count 1:Nat)=c+(if bY uss p=1 then 1 else 0)+((hs.map λuss=>bY uss p).count 1:Nat):=by
      rw[az,xq]
      by_cases c1:bY uss p=1
      .rw[c1]
       simp;omega
      .have:(bY uss p==1)=false:=by simpa using c1
       rw[this,if_neg c1];simp
     rw[ec];exact ih
theorem Qv{n k:Nat}(hn:n=2\/n=3)(hk:k<=1000){p:AA}(g:Gu n 1000 p)(S:aG){hs:AC}{A:PV}(hA:Sv A (hs.map px))(h:∀uss∈hs,Wx n k uss):
  ((∃uss∈hs,bY uss p=0)/\oQ [.pv A,.pv (tv p)] S=.exc "OnSide" S)\/((∀uss∈hs,bY uss p≠0)/\oQ [.pv A,.pv (tv p)] S=.ok (.pv (.int ((hs.map λuss=>bY uss p).count 1:Nat))) S):=by
 have L:=Lj hn hk g S (some (.pv A)) hs 0 none none h;have hb:wX=(aI (aT 2 (mC (.int 0)))
 (aI (bK (bD (aA 0)) (gN 3) mP)
 (bF (aA 2)))):=rfl
 have tk:S.take S.length=S:=by simp
 have z0:(0:Int)+((hs.map λuss=>bY uss p).count 1:Nat)=((hs.map λuss=>bY uss p).count 1:Nat):=by omega
 rw[z0]at L;unfold oQ aR;rw[hb];generalize tv p=T,(((hs.map λuss=>bY uss p).count 1:Nat):Int)=C,mP=CB1 at *;rcases L with⟨a,b⟩|⟨a,y3,y4,b⟩
 .left
  refine⟨a,?_⟩;rcases hA with rfl |rfl<;>(generalize hs.map px=HL at *;simp! [aE,aV,aW,aO,aK,aN,aL,aM,aF,aJ,bK,bD,bS,b])
 .right
  refine⟨a,?_⟩;rcases hA with rfl |rfl<;>(generalize hs.map px=HL at *;simp! [aE,aV,aW,aO,aK,aN,aL,aM,aF,aJ,bK,bD,bS,b])
def bd(p:List Nat):List Nat:=if p.head?=some 45 then p.tail else p
abbrev Rb:Type:=AB×Int
def aa7:AI->Int
 |some (.int i)=>i
 |_=>0
def No:AA->Int
 |[]=>0
 |n::r=>if n=0 then No r else sg n
def lG(ns:AA):AA:=(low ns).map (No ns*·)
def jS:AA->AA->AA
 |[x0,y0,w0],[x1,y1,w1]=>[x1*w0-x0*w1,y1*w0-y0*w1]
 |[x0,y0,z0,w0],[x1,y1,z1,w1]=>[x1*w0-x0*w1,y1*w0-y0*w1,z1*w0-z0*w1]
 |_,_=>[]
theorem aba{x0 y0 w0 x1 y1 w1:Int}:jS [x0,y0,w0] [x1,y1,w1]=[x1*w0-x0*w1,y1*w0-y0*w1]:=rfl
theorem aa9{x0 y0 z0 w0 x1 y1 z1 w1:Int}:jS [x0,y0,z0,w0] [x1,y1,z1,w1]=[x1*w0-x0*w1,y1*w0-y0*w1,z1*w0-z0*w1]:=rfl
def Sb:AA->AA->AA
 |[a,b,c],[d,e,f]=>[b*f-c*e,c*d-a*f,a*e-b*d]
 |_,_=>[]
theorem abb{a b c d e f:Int}:Sb [a,b,c] [d,e,f]=[b*f-c*e,c*d-a*f,a*e-b*d]:=rfl
def oB:AB->AA
 |[p,q]=>(match jS p q with
  |[a,b]=>[-b,a]
  |_=>[])
 |[p,q,r]=>Sb (jS p q) (jS p r)
 |_=>[]
theorem aa8{p q:AA}:oB [p,q]=(match jS p q with |[a,b]=>[-b,a] |_=>[]):=rfl
theorem abc{p q r:AA}:oB [p,q,r]=Sb (jS p q) (jS p r):=rfl
def sd(pi s e:AA)(n:Int):List Rb:=[([pi,lG (jS s e),s],n),([pi,lG (jS s e),e],-n)]
def sdU:AB->List (AA×AA)
 |[p,q]=>[(p,q)]
 |[a,b,c]=>[(c,a),(a,b),(b,c)]
 |_=>[]
def cW(w:AB)(n:Int):List Rb:=(sdU w).flatMap λx=>sd (lG (oB w)) x.1 x.2 n
def tk(pi d p:AA)(k:AB):Int:=if[pi,d,p]=k then 1 else 0
def Ed(pi s e:AA)(k:AB):Int:=tk pi (lG (jS s e)) s k-tk pi (lG (jS s e)) e k
def W2(p q:AA)(k:AB):Int:=Ed (lG (oB [p,q])) p q k
def W3(p q r:AA)(k:AB):Int:=Ed (lG (oB [p,q,r])) r p k+Ed (lG (oB [p,q,r])) p q k+Ed (lG (oB [p,q,r])) q r k
def PS(uss:AB)(k:AB):Int:=match uss with
 |[a,b,c]=>W2 a b k+W2 b c k+W2 c a k
 |[a,b,c,d]=>W3 b c d k+W3 a d c k+W3 a b d k+W3 a c b k
 |_=>0
theorem l3{a b c d e f:Int}(h:a=d)(g:b=e)(i:c=f):[a,b,c]=[d,e,f]:=by rw[h,g,i]
theorem sq{a b:MS}{ρ ρ':bR}{S S':aG}{r:cF}(h:a ρ S=.nx ρ' S')(g:b ρ' S'=r):aI a b ρ S=r:=by
 rw[aI,h];exact g
theorem La{np n:Nat}{b:MS}{xs:AK}{S S':aG}{v:AV}{r:bO AV}(hl:xs.length=np)(h:b (gO n xs) S=.rt v S')(hc:kC S.length v S'=r):aR np n b xs S=r:=by
 unfold aR;rw[if_pos hl,h];exact hc
theorem Ma{t b:Int}{k:Nat}(hb:0<b)(ht:Bd k t)(hbb:Bd k b):∃p q:Int,fr t b=[p,q]/\0<q/\Bd k p/\Bd k q/\fr p q=[p,q]:=by
 obtain⟨zs,z,e,Z,_⟩:=nK (n:=1) (L:=[t]) (b:=b) hb rfl (λx hx=>by
  have:x=t:=by simpa using hx
  rw[this];exact ht) hbb
 have el:=Z.len
 match zs,el,e,Z with
 |[p],_,e,Z=>
  have e:low [t,b]=[p,z]:=e;have f1:fr t b=low [t,b]:=if_neg (by omega);have zp:=Z.pos;have f2:fr p z=low [p,z]:=if_neg (by omega);refine⟨p,z,by rw[f1,e],Z.pos,Z.bx p (by simp),Z.bw,?_⟩;rw[f2];exact Z.low
def pT(w x:Int):Int:=(fr x w).getD 0 0
def pB(w x:Int):Int:=(fr x w).getD 1 0
theorem uU{k:Nat}{w x:Int}(hw:0<w)(bw:Bd k w)(bx:Bd k x):fr x w=[pT w x,pB w x]/\0<pB w x/\Bd k (pT w x)/\Bd k (pB w x)/\fr (pT w x) (pB w x)=[pT w x,pB w x]:=by
 obtain⟨p,q,e,a,b,c,d⟩:=Ma hw bx bw;have e1:pT w x=p:=by unfold pT;rw[e];rfl
 have e2:pB w x=q:=by unfold pB;rw[e];rfl
 rw[e1,e2];exact⟨e,a,b,c,d⟩
theorem P9{n k:Nat}(S:aG){xs:AA}{w:Int}(P:Pq n k xs w)(hk:k<=1000):sS [.pv (tv (xs++[w]))] S=.ok (.pv (.tup (xs.map λx=>.tup [.int (pT w x),.int (pB w x)]))) S:=by
 have e1:=nB xs w;have e2:=jG xs w;have e:bZ [] (gN 0) (fL kW [] (aB (aA 0) (aB (aC aE (aA 1) (bH bQ (mC (.int 1)))) aD))) (xs.map .int) [none,some (.pv (tv (xs++[w])))] S=.ok (xs.map λx=>.tup [.int (pT w x),.int (pB w x)]) S:=by
  refine jX (gY S) PV.int (λx=>.tup [.int (pT w x),.int (pB w x)]) xs none λx hx=>?_;have f:=Oc x w S ((P.bx x hx).mono (by omega)) (P.bw.mono (by omega)) (by have:=P.pos;omega);rw[(uU P.pos P.bw (P.bx x hx)).1]at f;simp only[az,cq]at f;show _=bO.ok (AV.pv (.tup [.int (pT w x),.int (pB w x)])) S;have e2:aE (tv (xs++[w])) (.int (-1))=some (.int w):=e2;generalize pB w x=q,pT w x=p,tv (xs++[w])=TV at *;simp! [bJ,aK,aN,aL,aM,aF,aJ,e2,f]
 have hb:wS=(bF (mR gC (aB (bB ["number"] [(0,"p")] (bD (dC (aA 0) cO (dD (bH bQ (mC (.int 1)))))) (gN 0) (fL kW [] (aB (aA 0) (aB (aC aE (aA 1) (bH bQ (mC (.int 1)))) aD)))) aD))):=rfl;unfold sS aR;rw[hb];have e1:iF (tv (xs++[w])) none (some (-1))=some (.tup (xs.map .int)):=e1;generalize (xs.map λx=>PV.tup [.int (pT w x),.int (pB w x)])=ML,tv (xs++[w])=TV,(fL kW [] (aB (aA 0) (aB (aC aE (aA 1) (bH bQ (mC (.int 1)))) aD)))=ME1 at *;simp! [bJ,aK,aN,aL,aM,aF,aJ,bB,cD,bD,bS,dC,cO,dD,fN,e1,e]
theorem rS{a b:Int}(hb:0<b)(bb:Bd 1000 b):eE (.int (a*b)) (.int b)=some (.int a):=by
 rw[jI (i:=a*b) (j:=b) ⟨by omega,bb.mono (by decide)⟩,zi _ (by omega),Int.mul_ediv_cancel _ (by omega)]
structure Fz(u:Int×Int):Prop where
 pos:0<u.2
 b1:Bd 300 u.1
 b2:Bd 300 u.2
abbrev fz(u:Int×Int):PV:=.tup [.int u.1,.int u.2]
def cT:List (Int×Int)->AA
 |[u,v]=>[u.1*v.2,v.1*u.2]
 |[u,v,t]=>[u.1*(v.2*t.2),v.1*(u.2*t.2),t.1*(u.2*v.2)]
 |_=>[]
def cB:List (Int×Int)->Int
 |[u,v]=>u.2*v.2
 |[u,v,t]=>u.2*v.2*t.2
 |_=>1
theorem b3{k l:Nat}{a b:Int}(h:Bd k a)(g:Bd l b)(hs:k+l<=1000):Bd 1000 (a*b):=(h.mul g).mono hs
theorem Gm{ab:List (Int×Int)}(hl:ab.length=2\/ab.length=3)(h:∀u∈ab,Fz u):0<cB ab/\Bd 1000 (cB ab)/\(cT ab).length=ab.length/\∀x∈cT ab,Bd 1000 x:=by
 match ab,hl,h with
 |[u,v],_,h=>
  have hu:=h u (by simp);have hv:=h v (by simp);refine⟨ao hu.pos hv.pos,b3 hu.b2 hv.b2 (by decide),rfl,λx hx=>?_⟩;have:x=u.1*v.2\/x=v.1*u.2:=by simpa[cT]using hx
  rcases this with rfl |rfl
  .exact b3 hu.b1 hv.b2 (by decide)
  .exact b3 hv.b1 hu.b2 (by decide)
 |[u,v,t],_,h=>
  have hu:=h u (by simp);have hv:=h v (by simp);have ht:=h t (by simp);refine⟨ao (ao hu.pos hv.pos) ht.pos,b3 (hu.b2.mul hv.b2) ht.b2 (by decide),rfl,λx hx=>?_⟩;have:x=u.1*(v.2*t.2)\/x=v.1*(u.2*t.2)\/x=t.1*(u.2*v.2):=by simpa[cT]using hx
  rcases this with rfl |rfl |rfl
  .exact b3 hu.b1 (hv.b2.mul ht.b2) (by decide)
  .exact b3 hv.b1 (hu.b2.mul ht.b2) (by decide)
  .exact b3 ht.b1 (hu.b2.mul hv.b2) (by decide)
theorem Bq(S:aG){ab:List (Int×Int)}(hl:ab.length=2\/ab.length=3)(h:∀u∈ab,Fz u):mZ [.pv (.lst (ab.map fz))] S=.ok (.pv (tv (low (cT ab++[cB ab])))) S:=by
 obtain⟨p0,pb,pl,px⟩:=Gm hl h;have ep:=Vg (w:=.lst ((cT ab).map .int)) (cT ab) (cB ab) S (.inl rfl) (λx hx=>(px x hx).mono (by decide)) (pb.mono (by decide)) (by omega) (by omega);rw[Bm p0]at ep
 match ab,hl,h,ep with
 |[u,v],_,h,ep=>
  have hu:=h u (by simp);have hv:=h v (by simp);obtain⟨a,b⟩:=u;obtain⟨c,d⟩:=v;have m1:aS (.int 1) (.int b)=some (.int b):=by rw[jY (.inl (.inl ⟨by decide,by decide⟩)),ij]
  have m2:aS (.int b) (.int d)=some (.int (b*d)):=dN hu.b2 hv.b2;have q1:eE (.int (b*d)) (.int b)=some (.int d):=by rw[cw];exact rS hu.pos (hu.b2.mono (by decide))
  have q2:eE (.int (b*d)) (.int d)=some (.int b):=rS hv.pos (hv.b2.mono (by decide));have m3:aS (.int a) (.int d)=some (.int (a*d)):=dN hu.b1 hv.b2;have m4:aS (.int c) (.int b)=some (.int (c*b)):=dN hv.b1 hu.b2;have ep:lU [.pv (.lst [.int (a*d),.int (c*b)]),.pv (.int (b*d))] S=.ok (.pv (tv (low ([a*d,c*b]++[b*d])))) S:=ep;show mZ [.pv (.lst [.tup [.int a,.int b],.tup [.int c,.int d]])] S=.ok (.pv (tv (low ([a*d,c*b]++[b*d])))) S;generalize tv (low ([a*d,c*b]++[b*d]))=R at *;unfold mZ aR sT;simp! [aE,aV,aW,aO,aK,aN,aL,aM,aF,aJ,bK,bD,bS,dY,fE,dS,dP,gN,m1,m2,bB,cD,q1,q2,m3,m4,ep]
 |[u,v,t],_,h,ep=>
  have hu:=h u (by simp);have hv:=h v (by simp);have ht:=h t (by simp);obtain⟨a,b⟩:=u;obtain⟨c,d⟩:=v;obtain⟨e,f⟩:=t;have m1:aS (.int 1) (.int b)=some (.int b):=by rw[jY (.inl (.inl ⟨by decide,by decide⟩)),ij]
  have m2:aS (.int b) (.int d)=some (.int (b*d)):=dN hu.b2 hv.b2;have m2':aS (.int (b*d)) (.int f)=some (.int (b*d*f)):=dN (hu.b2.mul hv.b2) ht.b2;have q1:eE (.int (b*d*f)) (.int b)=some (.int (d*f)):=by
   rw[show b*d*f=d*f*b by grind];exact rS hu.pos (hu.b2.mono (by decide))
  have q2:eE (.int (b*d*f)) (.int d)=some (.int (b*f)):=by
   rw[show b*d*f=b*f*d by grind];exact rS hv.pos (hv.b2.mono (by decide))
  have q3:eE (.int (b*d*f)) (.int f)=some (.int (b*d)):=rS ht.pos (ht.b2.mono (by decide));have m3:aS (.int a) (.int (d*f))=some (.int (a*(d*f))):=dN hu.b1 (hv.b2.mul ht.b2);have m4:aS (.int c) (.int (b*f))=some (.int (c*(b*f))):=dN hv.b1 (hu.b2.mul ht.b2);have m5:aS (.int e) (.int (b*d))=some (.int (e*(b*d))):=dN ht.b1 (hu.b2.mul hv.b2);have ep:lU [.pv (.lst [.int (a*(d*f)),.int (c*(b*f)),.int (e*(b*d))]),.pv (.int (b*d*f))] S=.ok (.pv (tv (low ([a*(d*f),c*(b*f),e*(b*d)]++[b*d*f])))) S:=ep;show mZ [.pv (.lst [.tup [.int a,.int b],.tup [.int c,.int d],.tup [.int e,.int f]])] S=.ok (.pv (tv (low ([a*(d*f),c*(b*f),e*(b*d)]++[b*d*f])))) S;generalize tv (low ([a*(d*f),c*(b*f),e*(b*d)]++[b*d*f]))=R at *;unfold mZ aR sT;simp! [aE,aV,aW,aO,aK,aN,aL,aM,aF,aJ,bK,bD,bS,dY,fE,dS,dP,gN,m1,m2,m2',bB,cD,q1,q2,q3,m3,m4,m5,ep]
theorem yC{k:Nat}{w x:Int}(hw:0<w)(bw:Bd k w)(bx:Bd k x):pT w x*w=x*pB w x:=by
 obtain⟨zs,z,e,Z,h⟩:=nK (n:=1) (L:=[x]) (b:=w) hw rfl (λy hy=>by
  have:y=x:=by simpa using hy
  rw[this];exact bx) bw
 have el:=Z.len
 match zs,el,e,h with
 |[p],_,e,h=>
  have e:low [x,w]=[p,z]:=e;have f1:fr x w=[p,z]:=by rw[<-e];exact if_neg (by omega)
  have h0:p*w=x*z:=h 0 (by decide);have e1:pT w x=p:=by unfold pT;rw[f1];rfl
  have e2:pB w x=z:=by unfold pB;rw[f1];rfl
  rw[e1,e2];exact h0
theorem Lu{n k:Nat}{xs:AA}{w:Int}(hn:n=2\/n=3)(P:Pq n k xs w)(hk:k<=300):(∀u∈xs.map (λx=>(pT w x,pB w x)),Fz u)/\low (cT (xs.map λx=>(pT w x,pB w x))++[cB (xs.map λx=>(pT w x,pB w x))])=xs++[w]:=by
 have jB:∀u∈xs.map (λx=>(pT w x,pB w x)),Fz u:=λu hu=>by
  obtain⟨x,hx,rfl⟩:=cj.mp hu;obtain⟨_,q0,b1,b2,_⟩:=uU P.pos P.bw (P.bx x hx);exact⟨q0,b1.mono hk,b2.mono hk⟩
 refine⟨jB,?_⟩;have cr:∀x∈xs,pT w x*w=x*pB w x:=λx hx=>yC P.pos P.bw (P.bx x hx);obtain⟨p0,pb,pl,px⟩:=Gm (ab:=xs.map λx=>(pT w x,pB w x)) (by rw[ak,P.len];exact hn) jB;obtain⟨zs,z,e,Z,h⟩:=nK (n:=n) p0 (by rw[pl,ak,P.len]) px pb;rw[e];refine Pq.eq Z P (N:=λj=>(cT (xs.map λx=>(pT w x,pB w x))).getD j 0) (D:=cB (xs.map λx=>(pT w x,pB w x))) h (Vl.self n xs w) p0 P.pos λj hj=>?_;have hl:=P.len;rcases hn with rfl |rfl
 .match xs,hl,cr with
  |[x,y],_,cr=>
   have c1:=cr x (by simp);have c2:=cr y (by simp);have:j=0\/j=1:=by omega
   rcases this with rfl |rfl
   .show pT w x*pB w y*w=x*(pB w x*pB w y)
    grind
   .show pT w y*pB w x*w=y*(pB w x*pB w y)
    grind
 .match xs,hl,cr with
  |[x,y,t],_,cr=>
   have c1:=cr x (by simp);have c2:=cr y (by simp);have c3:=cr t (by simp);have:j=0\/j=1\/j=2:=by omega
   rcases this with rfl |rfl |rfl
   .show pT w x*(pB w y*pB w t)*w=x*(pB w x*pB w y*pB w t)
    grind
   .show pT w y*(pB w x*pB w t)*w=y*(pB w x*pB w y*pB w t)
    grind
   .show pT w t*(pB w x*pB w y)*w=t*(pB w x*pB w y*pB w t)
    grind
theorem Wh{t b t' b':Int}(hb:0<b)(hb':0<b')(h:t*b'=t'*b):fr t b=fr t' b':=by
 have e1:fr (b'*t) (b'*b)=fr t b:=sM hb' (by omega);have e2:fr (b*t') (b*b')=fr t' b':=sM hb (by omega);rw[<-e1,<-e2,cw b' t,h,cw t' b,cw b' b]
theorem Ex{S:aG}{L Y:AH}{ρ:bR}{m:ME}(hρ:ρ[5]?=some (some (.ref S.length)))(hm:m ρ (S++[.lst L])=.ok (.pv (.lst Y)) (S++[.lst L]))(hz:L.length+Y.length<=1000):nQ 5 m ρ (S++[.lst L])=.nx ρ (S++[.lst (L++Y)]):=by
 unfold nQ;rw[hρ];dsimp only;rw[hm];have h2:L.length+Y.length<=16777216:=by omega
 show vE S.length ρ (.pv (.lst Y)) (S++[.lst L])=_;unfold vE;simp[h2]
theorem Ur(ns:AA)(S:aG)(hb:∀n∈ns,Bd 8000 n):jF [.pv (.tup (ns.map .int))] S=.ok (.pv (.tup ((low ns).map .int))) S:=by
 obtain⟨v',e⟩:=xU S none ns 0 (.pv (.tup (ns.map .int)));unfold jF aR tE
 by_cases h:gl ns 0=0
 .have el:low ns=ns:=by unfold low;rw[if_pos h]
  simp! [aE,aV,aW,aO,aK,aN,aL,aM,aF,aJ,bK,bD,bS,e,h,el]
 .have el:low ns=ns.map λn=>n.fdiv (gl ns 0):=by
   unfold low;rw[if_neg h];exact il λn hn=>(oo ((jM ns 0).2 n hn)).symm
  have bg:Bd 8000 (gl ns 0):=uV (Bd.of (n:=0) (by simp) (tm 8000)) hb;have ec:=tL S (gl ns 0) h bg ns none;simp! [aE,aV,aW,aO,aK,aN,aL,aM,aF,aJ,bK,bD,bS,e,h,el,bB,cD,ec]
theorem aaV{a b c d:Int}(S:aG)(ba:Bd 1000 a)(bb:Bd 1000 b)(bc:Bd 1000 c)(bd:Bd 1000 d)(b0:0<b)(c0:0<c):qQ [.pv (.tup [.int a,.int b]),.pv (.tup [.int c,.int d])] S=.ok (.pv (.tup ((fr (a*d) (b*c)).map .int))) S:=by
 have e:=Oc (a*d) (b*c) S ((ba.mul bd).mono (by decide)) ((bb.mul bc).mono (by decide)) (fk (ao b0 c0));unfold qQ aR xE;simp! [aE,aV,aW,aO,aK,aN,aL,aM,aF,aJ,dN ba bd,dN bb bc,e]
theorem rD{k:Nat}{x z:Int}{u a:Int×Int}(S:aG)(hz:0<z)(bz:Bd k z)(bx:Bd k x)(hk:k<=1000)(hu:Sp u)(ha:Fz a)(fa:fr a.1 a.2=[a.1,a.2])(hv:x*(a.2*u.2)=a.1*u.1*z):qQ [.pv (.tup [.int (pT z x),.int (pB z x)]),.pv (fv u)] S=.ok (.pv (fz a)) S:=by
 obtain⟨_,p0,b1,b2,_⟩:=uU hz bz bx;have pc:=yC hz bz bx;have e:=aaV S (b1.mono hk) (b2.mono hk) (hu.bp.mono (by decide)) (hu.bq.mono (by decide)) p0 hu.p (d:=u.2);have q:fr (pT z x*u.2) (pB z x*u.1)=fr a.1 a.2:=by
  refine Wh (ao p0 hu.p) ha.pos ?_;refine jn (fk hz) ?_
  calc pT z x*u.2*a.2*z=(pT z x*z)*(u.2*a.2):=by grind
   _=x*pB z x*(u.2*a.2):=by rw[pc]
   _=(x*(a.2*u.2))*pB z x:=by grind
   _=a.1*(pB z x*u.1)*z:=by rw[hv];grind
 rw[q,fa]at e;exact e
theorem xT{n k:Nat}(hn:n=2\/n=3){zs:AA}{z:Int}(P:Pq n k zs z)(hk:k<=1000){fs:List (Int×Int)}(hf:fs.length=n)(h:∀u∈fs,Sp u){ab:List (Int×Int)}(la:ab.length=n)(hab:∀u∈ab,Fz u/\fr u.1 u.2=[u.1,u.2])(hv:∀j,j<n->zs.getD j 0*((ab.getD j (0,1)).2*(fs.getD j (0,1)).2)=(ab.getD j (0,1)).1*(fs.getD j (0,1)).1*z)(S:aG):jE [.pv (tv (zs++[z])),.pv (.tup (fs.map fv))] S=.ok (.pv (tv (low (cT ab++[cB ab])))) S:=by
 have em:=P9 S P hk;have ea:=Bq S (ab:=ab) (by omega) (λu hu=>(hab u hu).1);have bz:=P.bw;have hz:=P.pos;rcases hn with rfl |rfl
 .match zs,P.len,fs,hf,ab,la with
  |[x,y],_,[u,v],_,[a,b],_=>
   have d0:=rD S hz bz (P.bx x (by simp)) hk (h u (by simp)) (hab a (by simp)).1 (hab a (by simp)).2 (hv 0 (by decide));have d1:=rD S hz bz (P.bx y (by simp)) hk (h v (by simp)) (hab b (by simp)).1 (hab b (by simp)).2 (hv 1 (by decide));simp only[az,cq]at em ea⊢;generalize fz b=A1,fz a=A0,fv v=F1,fv u=F0,PV.tup [.int (pT z y),.int (pB z y)]=M1,PV.tup [.int (pT z x),.int (pB z x)]=M0,tv ([x,y]++[z])=T,tv (low (cT [a,b]++[cB [a,b]]))=R at *;unfold jE aR sQ;simp! [aE,aV,aW,aO,aK,aN,aL,aM,aF,aJ,em,bB,cD,fG,gI,eN,bS,dS,dP,gT,cQ,eJ,gN,d0,d1,ea]
 .match zs,P.len,fs,hf,ab,la with
  |[x,y,t],_,[u,v,w],_,[a,b,c],_=>
   have d0:=rD S hz bz (P.bx x (by simp)) hk (h u (by simp)) (hab a (by simp)).1 (hab a (by simp)).2 (hv 0 (by decide));have d1:=rD S hz bz (P.bx y (by simp)) hk (h v (by simp)) (hab b (by simp)).1 (hab b (by simp)).2 (hv 1 (by decide));have d2:=rD S hz bz (P.bx t (by simp)) hk (h w (by simp)) (hab c (by simp)).1 (hab c (by simp)).2 (hv 2 (by decide));simp only[az,cq]at em ea⊢;generalize fz c=A2,fz b=A1,fz a=A0,fv w=F2,fv v=F1,fv u=F0,PV.tup [.int (pT z t),.int (pB z t)]=M2,PV.tup [.int (pT z y),.int (pB z y)]=M1,PV.tup [.int (pT z x),.int (pB z x)]=M0,tv ([x,y,t]++[z])=T,tv (low (cT [a,b,c]++[cB [a,b,c]]))=R at *;unfold jE aR sQ;simp! [aE,aV,aW,aO,aK,aN,aL,aM,aF,aJ,em,bB,cD,fG,gI,eN,bS,dS,dP,gT,cQ,eJ,gN,d0,d1,d2,ea]
theorem sZ{ds:AA}:low (ds++[1])=ds++[1]:=by
 refine Oj ?_;have h1:=(jM (ds++[1]) 0).2 1 (by simp);have h2:=uR (ds++[1]) 0 (ql 0);exact j4 h2 h1
theorem fr1(d:Int):fr d 1=[d,1]:=sZ (ds:=[d])
theorem Tk{d:Int}:∀(ns:AA)(g:Int),d∣g->(∀n∈ns,d∣n)->d∣gl ns g
 |[],g,h,_=>h
 |n::ns,g,h,k=>by
  unfold gl;exact Tk ns _ (Int.dvd_coe_gcd h (k n (by simp))) λm hm=>k m (bh _ hm)
theorem xJ{xs ys:AA}{w:Int}(hw:0<w)(e:low (xs++[w])=xs++[w])(hd:∀d:Int,d∣w->(∀y∈ys,d∣y)->∀x∈xs,d∣x):low (ys++[w])=ys++[w]:=by
 refine Oj ?_;have g1:=Fy hw e;have h2:=uR (ys++[w]) 0 (ql 0);have hk:=(jM (ys++[w]) 0).2;refine j4 h2 ?_;rw[<-g1];refine Tk _ _ (Int.dvd_zero _) λn hn=>?_;rcases cv.mp hn with z |z
 .exact hd _ (hk w (by simp)) (λy hy=>hk y (kd _ hy)) n z
 .rw[oz.mp z]
  exact hk w (by simp)
theorem Sz{n k:Nat}(hn:n<=9){xs:AA}{w:Int}(P:Pq n k xs w)(S:aG):qJ [.pv (tv (xs++[w]))] S=.ok (.pv (tv (xs.map (·.fmod w)++[w]))) S:=by
 have sI:=nB xs w;have iL:=jG xs w;have w0:w≠0:=fk P.pos;have ec:bZ [] (gN 0) (aC fH (aA 0) (aC aE (aA 1) (bH bQ (mC (.int 1))))) (xs.map PV.int) [none,some (.pv (.tup ((xs++[w]).map .int)))] S=.ok (xs.map λx=>.int (x.fmod w)) S:=by
  refine jX (gY S) PV.int (λx=>.int (x.fmod w)) xs none λx hx=>?_;have m:=kY (i:=x) w0;generalize (xs++[w]).map PV.int=T at *;simp! [bJ,aK,aN,aL,aM,aF,aJ,iL,m]
 have lz:(xs.map λx=>PV.int (x.fmod w)).length+1<=16777216:=by rw[ak,P.len];omega
 have er:tv (xs.map (·.fmod w)++[w])=.tup ((xs.map λx=>PV.int (x.fmod w))++[.int w]):=by
  show PV.tup _=_;rw[gi,cu];rfl
 have et:tv (xs++[w])=.tup ((xs++[w]).map .int):=rfl;rw[er,et];generalize xs.map PV.int=X,(xs++[w]).map PV.int=T,(xs.map λx=>PV.int (x.fmod w))=R at *;unfold qJ aR wD;simp! [bJ,aK,aN,aL,aM,aF,aJ,bB,cD,bD,bS,dC,cO,dD,fN,sI,iL,ec,lz]
theorem rA{n:Nat}(hn:n=2\/n=3){fs:List (Int×Int)}(hf:fs.length=n)(h:∀u∈fs,Sp u){f y:AA}(Gf:Gu n 310 f)(hy:y.length=n)(hb:∀x∈y,-8<x/\x<8):Gu n 411 (cV 1 f (dF fs y))/\fZ n (λj=>f.getLastD 0*gF fs j) (λj=>f.getD j 0*fA fs) (f.getLastD 0*fA fs) (y++[1]) (cV 1 f (dF fs y)):=by
 obtain⟨_,g1,a1⟩:=rC hn [] hf h hy hb;obtain⟨g2,a2⟩:=jN (way:=1) (.inl rfl) g1 Gf;refine⟨g2,?_⟩;obtain⟨xs,w,xs',w',e1,e2,l1,l2,p1,p2,k1⟩:=a1;obtain⟨zs,v,zs',v',e3,e4,l3,l4,p3,p4,k2⟩:=a2;have q:=e2.symm.trans e3;obtain⟨q1,q2⟩:=oy q rfl;subst q1;have q2:w'=v:=by simpa using q2
 subst q2;refine⟨xs,w,zs',v',e1,e4,l1,l4,p1,p4,λj hj=>?_⟩;have t1:=k1 j hj;have t2:=k2 j hj;refine jn (fk p2) ?_
 calc zs'.getD j 0*(f.getLastD 0*fA fs*w)*w'=(zs'.getD j 0*(f.getLastD 0*w'))*(fA fs*w):=by grind
  _=(1*f.getLastD 0*xs'.getD j 0+f.getD j 0*w')*v'*(fA fs*w):=by rw[t2]
  _=(f.getLastD 0*(xs'.getD j 0*(fA fs*w))+f.getD j 0*w'*(fA fs*w))*v':=by grind
  _=(f.getLastD 0*((gF fs j*xs.getD j 0+0*w)*w')+f.getD j 0*w'*(fA fs*w))*v':=by rw[t1]
  _=(f.getLastD 0*gF fs j*xs.getD j 0+f.getD j 0*fA fs*w)*v'*w':=by grind
theorem L0{A C E p q x0 x1 w0 w1 y0 y1 z zz:Int}(hE:0<E)(h0:0<w0)(h1:0<w1)(e0:x0*(E*1)=(A*y0+C*1)*w0)(e1:x1*(E*1)=(A*y1+C*1)*w1)(ep:A*q=E*p)(ed:zz*(w1*w0)=(x1*w0-x0*w1)*z):zz*(1*q)=(y1-y0)*p*z:=by
 have pw:=ao h1 h0;refine jn (fk (ao hE pw)) ?_;have a:zz*(1*q)*(E*(w1*w0))=((x1*(E*1))*w0-(x0*(E*1))*w1)*z*q:=by
  calc zz*(1*q)*(E*(w1*w0))=(zz*(w1*w0))*E*q:=by grind
   _=(x1*w0-x0*w1)*z*E*q:=by rw[ed]
   _=_:=by grind
 rw[a,e0,e1]
 calc ((A*y1+C*1)*w1*w0-(A*y0+C*1)*w0*w1)*z*q=(A*q)*(y1-y0)*z*(w1*w0):=by grind
  _=(E*p)*(y1-y0)*z*(w1*w0):=by rw[ep]
  _=_:=by grind
theorem Am{n:Nat}(hn:n=2\/n=3){fs:List (Int×Int)}(hf:fs.length=n)(F:Int){j:Nat}(hj:j<n):F*gF fs j*(fs.getD j (0,1)).2=F*fA fs*(fs.getD j (0,1)).1:=by
 rcases hn with rfl |rfl
 .match fs,hf,j,hj with
  |[u,v],_,0,_=>show F*(u.1*v.2)*u.2=F*(1*u.2*v.2)*u.1;grind
  |[u,v],_,1,_=>show F*(v.1*u.2)*v.2=F*(1*u.2*v.2)*v.1;grind
 .match fs,hf,j,hj with
  |[u,v,t],_,0,_=>show F*(u.1*(v.2*t.2))*u.2=F*(1*u.2*v.2*t.2)*u.1;grind
  |[u,v,t],_,1,_=>show F*(v.1*(u.2*t.2))*v.2=F*(1*u.2*v.2*t.2)*v.1;grind
  |[u,v,t],_,2,_=>show F*(t.1*(u.2*v.2))*t.2=F*(1*u.2*v.2*t.2)*t.1;grind
theorem yA{α β:Type}(g:α->β):∀{L:List β}{xs:List α},L.Perm (xs.map g)->∃ys:List α,ys.Perm xs/\L=ys.map g
 |[],xs,h=>by
  have e:xs=[]:=ow.mp (by have:=h.length_eq;simpa using this.symm);exact⟨[],by rw[e],rfl⟩
 |a::L,xs,h=>by
  have ha:a∈xs.map g:=h.mem_iff.mp (by simp);obtain⟨x,hx,rfl⟩:=cj.mp ha;obtain⟨s,t,rfl⟩:=List.append_of_mem hx;have h2:(g x::L).Perm (g x::(s++t).map g):=h.trans (by
   rw[gi,az,gi];exact j5)
  obtain⟨ys,p,e⟩:=yA g h2.cons_inv;exact⟨x::ys,(p.cons x).trans j5.symm,by rw[az,e]⟩
abbrev cY(fs:List (Int×Int))(f y:AA):AA:=cV 1 f (dF fs y)
def fD(y0 y:AA):AA:=bo (· - ·) y y0
theorem zO{n:Nat}{A C:Nat->Int}{E:Int}{y xs:AA}{w:Int}(h:fZ n A C E (y++[1]) (xs++[w])):∀j,j<n->xs.getD j 0*(E*1)=(A j*y.getD j 0+C j*1)*w:=by
 obtain⟨a,b,c,d,e1,e2,_,_,_,_,k⟩:=h;obtain⟨q1,q2⟩:=oy e1 rfl;obtain⟨q3,q4⟩:=oy e2 rfl;have q2:1=b:=by simpa using q2
 have q4:w=d:=by simpa using q4
 subst q1 q2 q3 q4;exact k
theorem Cu{n:Nat}(hn:n=2\/n=3){fs:List (Int×Int)}(hf:fs.length=n)(h:∀u∈fs,Sp u){f:AA}(Gf:Gu n 310 f){y0 y:AA}(l0:y0.length=n)(b0:∀x∈y0,0<=x/\x<=2)(l1:y.length=n)(b1:∀x∈y,0<=x/\x<=2):∃v,(∀S,mY [.pv (tv (cY fs f y)),.pv (tv (cY fs f y0))] S=.ok (.pv v) S)/\∀S,jE [.pv v,.pv (.tup (fs.map fv))] S=.ok (.pv (tv (fD y0 y++[1]))) S:=by
 obtain⟨g0,a0⟩:=rA hn hf h Gf l0 λx hx=>by have:=b0 x hx;omega
 obtain⟨g1,a1⟩:=rA hn hf h Gf l1 λx hx=>by have:=b1 x hx;omega
 unfold cY;obtain⟨x0,w0,e0,P0⟩:=g0;obtain⟨x1,w1,e1,P1⟩:=g1;rw[e0]at a0⊢;rw[e1]at a1⊢;have k0:=zO a0;have k1:=zO a1;obtain⟨zs,z,el,Q,hz⟩:=aao hn P1 P0 (by decide) (by decide);have E0:0<f.getLastD 0*fA fs:=by
  obtain⟨fx,fw,rfl,FP⟩:=Gf;have:(fx++[fw]).getLastD 0=fw:=by simp
  rw[this];exact ao FP.pos (qZ hn hf h).1
 have key:∀j,j<n->zs.getD j 0*(1*(fs.getD j (0,1)).2)=(y.getD j 0-y0.getD j 0)*(fs.getD j (0,1)).1*z:=λj hj=>L0 E0 P0.pos P1.pos (k0 j hj) (k1 j hj) (Am hn hf _ hj) (hz j hj);refine⟨_,el,λS=>?_⟩;have jB:∀{a b:Int},0<=a/\a<=2->0<=b/\b<=2->Fz (a-b,1)/\fr (a-b,(1:Int)).1 (a-b,(1:Int)).2=[(a-b,(1:Int)).1,(a-b,(1:Int)).2]:=λha hb=>⟨⟨by show(0:Int)<1;decide,(Bd.of (k:=7) (n:=4) (by show(_-_:Int).natAbs<=_;omega) (by decide)).mono (by decide),(show Bd 300 (1:Int) from(Bd.of (k:=7) (n:=1) (by decide) (by decide)).mono (by decide))⟩,fr1 _⟩;rcases hn with rfl |rfl
 .match y,l1,y0,l0,b1,b0,key with
  |[a,b],_,[c,d],_,b1,b0,key=>
   have e:=xT (.inl rfl) Q (by decide) hf h (ab:=[(a-c,1),(b-d,1)]) rfl (λu hu=>by
    simp only[ci,ee,or_false]at hu;rcases hu with rfl |rfl
    .exact jB (b1 a (by simp)) (b0 c (by simp))
    .exact jB (b1 b (by simp)) (b0 d (by simp))) (λj hj=>by
    match j,hj with
    |0,_=>exact key 0 (by decide)
    |1,_=>exact key 1 (by decide)) S
   have q:cT [(a-c,(1:Int)),(b-d,1)]++[cB [(a-c,(1:Int)),(b-d,1)]]=fD [c,d] [a,b]++[1]:=by simp[cT,cB,fD]
   rw[q,sZ]at e;exact e
 .match y,l1,y0,l0,b1,b0,key with
  |[a,b,t],_,[c,d,s],_,b1,b0,key=>
   have e:=xT (.inr rfl) Q (by decide) hf h (ab:=[(a-c,1),(b-d,1),(t-s,1)]) rfl (λu hu=>by
    simp only[ci,ee,or_false]at hu;rcases hu with rfl |rfl |rfl
    .exact jB (b1 a (by simp)) (b0 c (by simp))
    .exact jB (b1 b (by simp)) (b0 d (by simp))
    .exact jB (b1 t (by simp)) (b0 s (by simp))) (λj hj=>by
    match j,hj with
    |0,_=>exact key 0 (by decide)
    |1,_=>exact key 1 (by decide)
    |2,_=>exact key 2 (by decide)) S
   have q:cT [(a-c,(1:Int)),(b-d,1),(t-s,1)]++[cB [(a-c,(1:Int)),(b-d,1),(t-s,1)]]=fD [c,d,s] [a,b,t]++[1]:=by simp[cT,cB,fD]
   rw[q,sZ]at e;exact e
theorem Jz{n:Nat}(hn:n=2\/n=3){fs:List (Int×Int)}(hf:fs.length=n)(h:∀u∈fs,Sp u){f:AA}(Gf:Gu n 310 f){y0:AA}{ys:AB}(hy:∀y∈y0::ys,y.length=n/\∀x∈y,0<=x/\x<=2)(S:aG):oY [.pv (px ((y0::ys).map (cY fs f))),.pv (.tup (fs.map fv))] S=.ok (.pv (px ((y0::ys).map λy=>fD y0 y++[1]))) S:=by
 have i0:aE (px ((y0::ys).map (cY fs f))) (.int 0)=some (tv (cY fs f y0)):=lV (j:=0) rfl;have ec:bZ [] (gN 0) (aP jE [] (aB (aP mY [] (aB (aA 0) (aB (aC aE (aA 2) (mC (.int 0))) aD))) (aB (aA 1) aD))) ((y0::ys).map λy=>tv (cY fs f y)) [none,some (.pv (.tup (fs.map fv))),some (.pv (px ((y0::ys).map (cY fs f))))] S=.ok ((y0::ys).map λy=>tv (fD y0 y++[1])) S:=by
  refine jX (gY S) (λy=>tv (cY fs f y)) (λy=>tv (fD y0 y++[1])) (y0::ys) none λy hyy=>?_;obtain⟨v,e1,e2⟩:=Cu hn hf h Gf (hy y0 (by simp)).1 (hy y0 (by simp)).2 (hy y hyy).1 (hy y hyy).2;have e1:=e1 S;have e2:=e2 S;generalize PV.tup (fs.map fv)=G,tv (cY fs f y0)=T0,tv (cY fs f y)=T1,px ((y0::ys).map (cY fs f))=PX,tv (fD y0 y++[1])=R at *;simp! [bJ,aK,aN,aL,aM,aF,aJ,i0,e1,e2]
 have hp:px ((y0::ys).map (cY fs f))=.tup ((y0::ys).map λy=>tv (cY fs f y)):=by
  show PV.tup (((y0::ys).map (cY fs f)).map tv)=_;rw[cu];rfl
 have hq:px ((y0::ys).map λy=>fD y0 y++[1])=.tup ((y0::ys).map λy=>tv (fD y0 y++[1])):=by
  show PV.tup (((y0::ys).map λy=>fD y0 y++[1]).map tv)=_;rw[cu];rfl
 rw[hp]at ec i0⊢;rw[hq];generalize PV.tup (fs.map fv)=G,((y0::ys).map λy=>tv (fD y0 y++[1]))=R,((y0::ys).map λy=>tv (cY fs f y))=L at *;unfold oY aR yJ;simp! [bJ,aK,aN,aL,aM,aF,aJ,bB,cD,bD,bS,ec]
theorem Gs{G:Gd}{g:GM}{mb:MS}{ρ:bR}{S:aG}(h:fP G S):cJ G g mb [] ρ S=.nx ρ S:=by rw[cJ,if_pos h]
theorem Br{G:Gd}{g:GM}{mb:MS}{x:PV}{r:AH}{ρ ρ1 ρ2:bR}{S S2:aG}(h:fP G S)(hg:g x ρ=some ρ1)(hm:mb ρ1 S=.nx ρ2 S2):cJ G g mb (x::r) ρ S=cJ G g mb r ρ2 S2:=by
 rw[cJ,if_pos h,hg];dsimp only;rw[hm]
def cL(m M:Int):AA:=(ax (M+1-m).toNat).map λi:Nat=>m+(i:Int)
theorem J3(m M:Int):(cL m M).map PV.int=cR m (M+1-m).toNat:=by
 unfold cL cR;rw[cu];rfl
theorem kX{m M c:Int}:c∈cL m M↔m<=c/\c<=M:=by
 unfold cL;rw[cj];constructor
 .rintro⟨i,hi,rfl⟩
  have:=nr.mp hi;omega
 .rintro⟨a,b⟩
  exact⟨(c-m).toNat,nr.mpr (by omega),by omega⟩
def iC(x w:Int)(cs:AA)(rows:AB):AB:=rows.flatMap λr=>cs.map λc=>r++[x+c*w]
abbrev vY:MS:=(nQ 5 (bB ["cell"] [(6,"row"),(1,"p"),(3,"k")] (jZ (aB (mR mK (aB (aA 4) aD)) (aB (aC aF (mR pY (aB (aA 4) aD)) (mC (.int 1))) aD))) (gN 0) (aC iN (aA 1) (mN fM (aB (aC aF (aC aE (aA 2) (aA 3)) (aC aS (aA 0) (aC aE (aA 2) (bH bQ (mC (.int 1)))))) aD)))))
structure Nb(N:AA)(m M:Int):Prop where
 mn:mK [.lst (N.map .int)]=some (.int m)
 mx:pY [.lst (N.map .int)]=some (.int M)
 lo:-8<=m/\m<=M/\M<=8
 sp:M-m<=2
theorem Gz{S:aG}{L:AH}{q N r:AA}{k x w m M:Int}(ix:aE (tv q) (.int k)=some (.int x))(iw:aE (tv q) (.int (-1))=some (.int w))(bw:Bd 1000 w)(hN:Nb N m M)(hr:r.length<=9)(hL:L.length<=900)(x0 x2:AJ):vY [x0,some (.pv (tv q)),x2,some (.pv (.int k)),some (.pv (.lst (N.map .int))),some (.ref S.length),some (.pv (tv r))] (S++[.lst L])=.nx [x0,some (.pv (tv q)),x2,some (.pv (.int k)),some (.pv (.lst (N.map .int))),some (.ref S.length),some (.pv (tv r))] (S++[.lst (L++((cL m M).map λc=>r++[x+c*w]).map tv)]):=by
 have lo:=hN.lo;have lu:(cL m M).length<=17:=by unfold cL;rw[ak,jf];omega
 refine Ex rfl ?_ (by rw[ak,ak];omega);have ec:bZ [] (gN 0) (aC iN (aA 1) (mN fM (aB (aC aF (aC aE (aA 2) (aA 3)) (aC aS (aA 0) (aC aE (aA 2) (bH bQ (mC (.int 1)))))) aD))) ((cL m M).map PV.int) [none,some (.pv (tv r)),some (.pv (tv q)),some (.pv (.int k))] (S++[.lst L])=.ok ((cL m M).map λc=>tv (r++[x+c*w])) (S++[.lst L]):=by
  refine jX (gY _) PV.int (λc=>tv (r++[x+c*w])) (cL m M) none λc hc=>?_;have hc:=kX.mp hc;have mu:=dN (show Bd 7 c from Bd.of (n:=8) (by omega) (by decide)) bw;have ad:iN (tv r) (.tup [.int (x+c*w)])=some (tv (r++[x+c*w])):=by
   show(if(r.map PV.int).length+1<=16777216 then some (PV.tup (r.map PV.int++[.int (x+c*w)]))else none)=_;rw[if_pos (by rw[ak];omega)];show _=some (PV.tup ((r++[x+c*w]).map PV.int));rw[gi];rfl
  generalize S++[.lst L]=S1,tv r=T,tv q=Q,tv (r++[x+c*w])=R at *;simp! [bJ,aK,aN,aL,aM,aF,aJ,ix,iw,mu,ad]
 have rg:rW [.pv (.int m),.pv (.int (M+1))] (S++[.lst L])=.ok ((cL m M).map PV.int,[]) (S++[.lst L]):=by
  show @ite _ _ (qo _) _ _=_;rw[if_pos ⟨⟨by omega,by omega,by omega,by omega⟩,by omega⟩,J3]
 have mn:=hN.mn;have mx:=hN.mx;rw[cu];have el:((cL m M).map λc=>tv (r++[x+c*w]))=(cL m M).map (tv∘λc=>r++[x+c*w]):=rfl;rw[el]at ec;generalize S++[.lst L]=S1,tv r=T,tv q=Q,N.map PV.int=NL,(cL m M).map PV.int=UL,(cL m M).map (tv∘λc=>r++[x+c*w])=RL at *;simp! [bJ,aK,aN,aL,aM,aF,aJ,bB,cD,jZ,mn,mx,rg,ec]
theorem Jj{S:aG}{q N:AA}{k x w m M:Int}{G:Gd}(hG:∀T,fP G (S++[T]))(ix:aE (tv q) (.int k)=some (.int x))(iw:aE (tv q) (.int (-1))=some (.int w))(bw:Bd 1000 w)(hN:Nb N m M)(x0 x2:AJ):∀(rows L:AB)(x6:AJ),(∀r∈rows,r.length<=9)->L.length+17*rows.length<=900->∃y6,cJ G (gN 6) vY (rows.map tv) [x0,some (.pv (tv q)),x2,some (.pv (.int k)),some (.pv (.lst (N.map .int))),some (.ref S.length),x6] (S++[.lst (L.map tv)])=.nx [x0,some (.pv (tv q)),x2,some (.pv (.int k)),some (.pv (.lst (N.map .int))),some (.ref S.length),y6] (S++[.lst ((L++iC x w (cL m M) rows).map tv)])
 |[],L,x6,_,_=>⟨x6,by rw[show iC x w (cL m M) []=[] from rfl,jl];exact Gs (hG _)⟩
 |r::rows,L,x6,hr,hl=>by
  simp only[db]at hl;have e1:=Gz (S:=S) (L:=L.map tv) ix iw bw hN (hr r (by simp)) (by rw[ak];omega) x0 x2;have lo:=hN.lo;have lu:(cL m M).length<=17:=by unfold cL;rw[ak,jf];omega
  obtain⟨y6,e2⟩:=Jj hG ix iw bw hN x0 x2 rows (L++(cL m M).map λc=>r++[x+c*w]) (some (.pv (tv r))) (λt ht=>hr t (bh _ ht)) (by rw[bn,ak];omega);refine⟨y6,?_⟩;rw[az];rw[<-gi]at e1;rw[Br (hG _) (ρ1:=[x0,some (.pv (tv q)),x2,some (.pv (.int k)),some (.pv (.lst (N.map .int))),some (.ref S.length),some (.pv (tv r))]) rfl e1,e2,ko];rfl
abbrev sJ:MS:=(aI (aT 4 (bB ["corner"] [(3,"k")] (bD (aA 0)) (gN 0) (aC aE (aA 0) (aA 1)))) (aI (aT 5 (eI aD)) (aI (bK (bD (aA 2)) (gN 6) vY) (aT 2 (aA 5)))))
def Rv(V:AV)(rows:AB)(S:aG):Prop:=∃G,(bS V S=.ok (rows.map tv,G) S/\fP G S)/\∀T,bS V (S++[T])=.ok (rows.map tv,G) (S++[T])/\fP G (S++[T])
theorem M4(S:aG)(rows:AB):Rv (.ref S.length) rows (S++[.lst (rows.map tv)]):=by
 have go:∀R:aG,R[S.length]?=some (.lst (rows.map tv))->bS (.ref S.length) R=.ok (rows.map tv,[(S.length,rows.map tv)]) R/\fP [(S.length,rows.map tv)] R:=λR e=>by
  refine⟨?_,λg hg=>?_⟩
  .show(match R[S.length]? with |some (.lst xs)=>bO.ok (xs,[(S.length,xs)]) _ |_=>.fail)=_
   rw[e]
  .rw[oz.mp hg]
   exact e
 exact⟨_,go _ (by simp),λT=>go _ (by simp)⟩
theorem Ah(x w:Int)(cs:AA):∀rows:AB,(iC x w cs rows).length=rows.length*cs.length
 |[]=>by simp[iC]
 |r::rows=>by
  have:=Ah x w cs rows;unfold iC at this⊢;rw[tx,bn,this,ak,db,Nat.add_mul,Nat.one_mul,Nat.add_comm]
theorem Fv{x w:Int}{cs:AA}{rows:AB}{t:AA}:t∈iC x w cs rows↔∃r∈rows,∃c∈cs,t=r++[x+c*w]:=by
 unfold iC;simp only[j6,cj];constructor
 .rintro⟨r,hr,c,hc,rfl⟩
  exact⟨r,hr,c,hc,rfl⟩
 .rintro⟨r,hr,c,hc,rfl⟩
  exact⟨r,hr,c,hc,rfl⟩
theorem aa1{S:aG}{q:AA}{Y rows:AB}{V:AV}{k:Nat}{x w m M:Int}(hV:Rv V rows S)(hY:∀y∈Y,aE (tv y) (.int (k:Int))=some (.int (y.getD k 0)))(ix:aE (tv q) (.int (k:Int))=some (.int x))(iw:aE (tv q) (.int (-1))=some (.int w))(bw:Bd 1000 w)(hN:Nb (Y.map (·.getD k 0)) m M)(hr:∀r∈rows,r.length<=9)(hl:rows.length<=50)(x4 x5 x6:AJ):∃y6,sJ [some (.pv (px Y)),some (.pv (tv q)),some V,some (.pv (.int (k:Int))),x4,x5,x6] S=.nx [some (.pv (px Y)),some (.pv (tv q)),some (.ref S.length),some (.pv (.int (k:Int))),some (.pv (.lst ((Y.map (·.getD k 0)).map .int))),some (.ref S.length),y6] (S++[.lst ((iC x w (cL m M) rows).map tv)]):=by
 obtain⟨G,_,hG⟩:=hV;obtain⟨y6,e2⟩:=Jj (S:=S) (G:=G) (λT=>(hG T).2) ix iw bw hN (some (.pv (px Y))) (some V) rows [] x6 hr (by simp;omega);refine⟨y6,?_⟩;have ec:bZ [] (gN 0) (aC aE (aA 0) (aA 1)) (Y.map tv) [none,some (.pv (.int (k:Int)))] S=.ok (Y.map λy=>.int (y.getD k 0)) S:=by
  refine jX (gY S) tv (λy=>.int (y.getD k 0)) Y none λy hy=>?_;have e:=hY y hy;generalize (k:Int)=K,tv y=T at *;simp! [bJ,aK,aN,aL,aM,aF,aJ,e]
 have em:(Y.map λy=>PV.int (y.getD k 0))=(Y.map (·.getD k 0)).map .int:=by rw[cu];rfl
 rw[em]at ec;have g1:=(hG (.lst [])).1;have hp:px Y=.tup (Y.map tv):=rfl;rw[jh]at e2;rw[cq]at e2;rw[hp]at e2⊢;unfold sJ;clear hG hN hY ix iw;generalize (k:Int)=K,tv q=Q,(iC x w (cL m M) rows).map tv=EL,rows.map tv=RL,Y.map tv=YL,(Y.map (·.getD k 0)).map PV.int=NL,vY=SB at *;apply sq;simp! [bJ,aK,aN,aL,aM,aF,aJ,bB,cD,bD,bS,ec];exact⟨rfl,rfl⟩;apply sq;simp! [bJ,aK,aN,aL,aM,aF,aJ,eI,jP];exact⟨rfl,rfl⟩;refine sq (ρ':=[some (.pv (.tup YL)),some (.pv Q),some V,some (.pv (.int K)),some (.pv (.lst NL)),some (.ref S.length),y6]) (S':=S++[.lst EL]) ?_ ?_
 .simp! [bJ,aK,aN,aL,aM,aF,aJ,bK,bD,g1,e2]
 .simp! [bJ,aK,aN,aL,aM,aF,aJ]
def jK(q:AA)(w:Int)(m M:Nat->Int)(ks:List Nat)(rows:AB):AB:=ks.foldl (λrows k=>iC (q.getD k 0) w (cL (m k) (M k)) rows) rows
theorem Ln{q:AA}{Y:AB}{w:Int}{m M:Nat->Int}(iw:aE (tv q) (.int (-1))=some (.int w))(bw:Bd 1000 w):∀(ks:List Nat)(S:aG)(V:AV)(rows:AB)(b:Nat)(x3 x4 x5 x6:AJ),Rv V rows S->(∀k∈ks,(∀y∈Y,aE (tv y) (.int (k:Int))=some (.int (y.getD k 0)))/\aE (tv q) (.int (k:Int))=some (.int (q.getD k 0))/\Nb (Y.map (·.getD k 0)) (m k) (M k))->(∀r∈rows,r.length<=b)->b+ks.length<=9->rows.length*3^ks.length<=50->∃(T:aG)(V':AV)(y3 y4 y5 y6:AJ),cJ [] (gN 3) sJ (ks.map λk:Nat=>PV.int (k:Int)) [some (.pv (px Y)),some (.pv (tv q)),some V,x3,x4,x5,x6] S=.nx [some (.pv (px Y)),some (.pv (tv q)),some V',y3,y4,y5,y6] (S++T)/\Rv V' (jK q w m M ks rows) (S++T)/\(∀r∈jK q w m M ks rows,r.length<=b+ks.length)
 |[],S,V,rows,b,x3,x4,x5,x6,hV,_,hr,_,_=>⟨[],V,x3,x4,x5,x6,by rw[jl];exact fE,by rw[jl];exact hV,hr⟩
 |k::ks,S,V,rows,b,x3,x4,x5,x6,hV,hk,hr,hb,hl=>by
  obtain⟨a1,a2,a3⟩:=hk k (by simp);simp only[db]at hb;have p3:1<=3^ks.length:=Nat.one_le_pow _ _ (by decide);have hl2:rows.length*(3*3^ks.length)<=50:=by rw[db,Nat.pow_succ,Nat.mul_comm (3^ks.length) 3]at hl;exact hl
  have hl3:rows.length<=50:=dw (Nat.le_mul_of_pos_right _ (by omega)) hl2;obtain⟨y6,e1⟩:=aa1 hV a1 a2 iw bw a3 (λr h=>dw (hr r h) (by omega)) hl3 x4 x5 x6;have lu:(cL (m k) (M k)).length<=3:=by
   have:=a3.lo;have:=a3.sp;unfold cL;rw[ak,jf];omega
  obtain⟨T,V',z3,z4,z5,z6,e2,v2,l2⟩:=Ln iw bw ks (S++[.lst ((iC (q.getD k 0) w (cL (m k) (M k)) rows).map tv)]) (.ref S.length) (iC (q.getD k 0) w (cL (m k) (M k)) rows) (b+1) (some (.pv (.int (k:Int)))) _ _ y6 (M4 S _) (λj hj=>hk j (bh _ hj)) (λt ht=>by
   obtain⟨r,h1,c,_,rfl⟩:=Fv.mp ht;have:=hr r h1;simp;omega) (by omega) (by
   rw[Ah];refine dw ?_ hl2;rw[<-Nat.mul_assoc];exact Nat.mul_le_mul_right _ (Nat.mul_le_mul_left _ lu))
  refine⟨[.lst ((iC (q.getD k 0) w (cL (m k) (M k)) rows).map tv)]++T,V',z3,z4,z5,z6,?_,?_,?_⟩
  .rw[az,dY]
   simp only[gN,dr,da];rw[e1,<-ko];exact e2
  .rw[<-ko]
   exact v2
  .intro r h
   have:=l2 r h;simp only[db];omega
theorem Fu{n k:Nat}(hn:n=2\/n=3){xs:AA}{w:Int}(P:Pq n k xs w)(hk:k<=1000){Y:AB}{m M:Nat->Int}(hY:∀j,j<n->(∀y∈Y,aE (tv y) (.int (j:Int))=some (.int (y.getD j 0)))/\Nb (Y.map (·.getD j 0)) (m j) (M j))(S:aG):oI [.pv (px Y),.pv (tv (xs++[w]))] S=.ok (.pv (.lst (((jK (xs++[w]) w m M (ax n) [[]]).map (·++[w])).map tv))) S:=by
 have iL:=jG xs w;have hx:∀j,j<n->aE (tv (xs++[w])) (.int (j:Int))=some (.int ((xs++[w]).getD j 0)):=λj hj=>by
  have hl:j<(xs++[w]).length:=by rw[bn,P.len];simp;omega
  refine lV ?_;rw[di,dm,av hl];rfl
 have rv0:Rv (.pv (.lst [.tup []])) [[]] S:=⟨[],⟨rfl,gY _⟩,λT=>⟨rfl,gY _⟩⟩;obtain⟨T,V',y3,y4,y5,y6,e1,⟨G,⟨s1,s2⟩,_⟩,l1⟩:=Ln (q:=xs++[w]) (Y:=Y) (m:=m) (M:=M) iL (P.bw.mono hk) (ax n) S (.pv (.lst [.tup []])) [[]] 0 none none none none rv0 (λj hj=>by
  have hj:=nr.mp hj;exact⟨(hY j hj).1,hx j hj,(hY j hj).2⟩) (by simp) (by rw[jf];omega) (by rw[jf];rcases hn with rfl |rfl<;>decide)
 have ec:bZ G (gN 0) (aC iN (aA 0) (mN fM (aB (aC aE (aA 1) (bH bQ (mC (.int 1)))) aD))) ((jK (xs++[w]) w m M (ax n) [[]]).map tv) [none,some (.pv (.tup ((xs++[w]).map .int)))] (S++T)=.ok ((jK (xs++[w]) w m M (ax n) [[]]).map λr=>tv (r++[w])) (S++T):=by
  refine jX s2 tv (λr=>tv (r++[w])) _ none λr hr=>?_;have lr:=l1 r hr;rw[jf]at lr;have ad:iN (tv r) (.tup [.int w])=some (tv (r++[w])):=by
   show(if(r.map PV.int).length+1<=16777216 then some (PV.tup (r.map PV.int++[.int w]))else none)=_;rw[if_pos (by rw[ak];omega)];show _=some (PV.tup ((r++[w]).map PV.int));rw[gi];rfl
  generalize (xs++[w]).map PV.int=Q,tv r=T,tv (r++[w])=R at *;simp! [bJ,aK,aN,aL,aM,aF,aJ,iL,ad]
 have rg:=mQ S (n:=n) (by omega);rw[Ci]at rg;have ln:(((xs++[w]).map PV.int).length:Int)-1=(n:Int):=by
  rw[ak,bn,P.len];simp
 have hb:wH=(aI (aT 2 (mN fF (aB (mN fM aD) aD))) (aI (bK (cZ (aB (aC dW (mR eQ (aB (aA 1) aD)) (mC (.int 1))) aD)) (gN 3) sJ) (bF (bB ["row"] [(1,"p")] (bD (aA 2)) (gN 0) (aC iN (aA 0) (mN fM (aB (aC aE (aA 1) (bH bQ (mC (.int 1)))) aD))))))):=rfl;have et:tv (xs++[w])=.tup ((xs++[w]).map .int):=rfl;rw[et]at e1⊢;rw[cu];have eq2:((jK (xs++[w]) w m M (ax n) [[]]).map λr=>tv (r++[w]))=(jK (xs++[w]) w m M (ax n) [[]]).map (tv∘(·++[w])):=rfl;rw[eq2]at ec;clear hY hx rv0 l1;unfold oI;rw[hb];generalize (n:Int)=N,px Y=PY,(xs++[w]).map PV.int=Q,((ax n).map λj:Nat=>PV.int (j:Int))=KL,(jK (xs++[w]) w m M (ax n) [[]]).map tv=RL,(jK (xs++[w]) w m M (ax n) [[]]).map (tv∘(·++[w]))=RR,sJ=SK at *;apply La (v:=.pv (.lst RR)) (S':=S++T) rfl
 .apply sq;simp! [bJ,aK,aN,aL,aM,aF,aJ,gO];exact⟨rfl,rfl⟩
  refine sq (ρ':=[some (.pv PY),some (.pv (.tup Q)),some V',y3,y4,y5,y6]) (S':=S++T) ?_ ?_
  .simp! [bJ,aK,aN,aL,aM,aF,aJ,bK,cZ,ln,rg,e1]
  .simp! [bJ,aK,aN,aL,aM,aF,aJ,bB,cD,bD,s1,ec]
 .simp[kC]
def iH(N:AA):Int:=N.min?.getD 0
def iE(N:AA):Int:=N.max?.getD 0
theorem V4{N:AA}(h0:N≠[])(hb:∀x∈N,-8<=x/\x<=8)(hd:∀x∈N,∀y∈N,x-y<=2):Nb N (iH N) (iE N)/\(∀x∈N,iH N<=x/\x<=iE N):=by
 cases e1:N.min? with
 |none=>exact absurd (List.min?_eq_none_iff.mp e1) h0
 |some a=>
  cases e2:N.max? with
  |none=>exact absurd (List.max?_eq_none_iff.mp e2) h0
  |some b=>
   obtain⟨a1,a2⟩:=j0.mp e1;obtain⟨b1,b2⟩:=j2.mp e2;have k1:iH N=a:=by unfold iH;rw[e1];rfl
   have k2:iE N=b:=by unfold iE;rw[e2];rfl
   rw[k1,k2];refine⟨⟨?_,?_,⟨(hb a a1).1,a2 b b1,(hb b b1).2⟩,hd b b1 a a1⟩,λx hx=>⟨a2 x hx,b2 x hx⟩⟩
   .show(gR (N.map .int)).bind (λbs=>bs.min?.map PV.int)=_
    rw[oR];show N.min?.map PV.int=_;rw[e1];rfl
   .show(gR (N.map .int)).bind (λbs=>bs.max?.map PV.int)=_
    rw[oR];show N.max?.map PV.int=_;rw[e2];rfl
theorem Jy{n k:Nat}{xs:AA}{w:Int}(P:Pq n k xs w):Pq n k (xs.map (·.fmod w)) w:=by
 have w0:=P.pos;refine⟨by rw[ak,P.len],w0,xJ w0 P.low λd hd hy x hx=>?_,λy hy=>?_,P.bw⟩
 .have h1:=hy (x.fmod w) (cj.mpr ⟨x,hx,rfl⟩)
  have e:x=x.fmod w+w*x.fdiv w:=(ku x w).symm;rw[e];exact Int.dvd_add h1 (Int.dvd_mul_of_dvd_left hd)
 .obtain⟨x,_,rfl⟩:=cj.mp hy
  rw[Int.fmod_eq_emod_of_nonneg x (gw w0)];have h1:=zc x (fk w0);have h2:=Int.emod_lt_of_pos x w0;have bw:=P.bw;unfold Bd at bw⊢;omega
theorem aaf{n k:Nat}{xs:AA}{w:Int}(P:Pq n k xs w){zs:AA}(hl:zs.length=n)(hz:∀j,j<n->∃c:Int,-8<=c/\c<=8/\zs.getD j 0=xs.getD j 0+c*w):Pq n (k+5) zs w:=by
 have at_:∀{l:AA}{x:Int},x∈l->∃j,j<l.length/\l.getD j 0=x:=λ{l x} hx=>by
  obtain⟨j,hj,e⟩:=kn hx;exact⟨j,hj,by rw[dm,av hj];exact e⟩
 have mem_:∀{l:AA}{j:Nat},j<l.length->l.getD j 0∈l:=λ{l j} hj=>by
  rw[dm,av hj];exact eh hj
 refine⟨hl,P.pos,xJ P.pos P.low λd hd hy x hx=>?_,λz hz'=>?_,P.bw.mono (by omega)⟩
 .obtain⟨j,hj,rfl⟩:=at_ hx
  rw[P.len]at hj;obtain⟨c,_,_,e⟩:=hz j hj;have h1:=hy _ (mem_ (l:=zs) (j:=j) (by omega));rw[e]at h1;have:=Int.dvd_sub h1 (Int.dvd_mul_of_dvd_right (b:=c) hd)
  rwa[Int.add_sub_cancel]at this
 .obtain⟨j,hj,rfl⟩:=at_ hz'
  rw[hl]at hj;obtain⟨c,c1,c2,e⟩:=hz j hj;rw[e];have b1:=P.bx _ (mem_ (l:=xs) (j:=j) (by rw[P.len];exact hj));have b2:=(show Bd 4 c from Bd.of (n:=8) (by omega) (by decide)).mul P.bw;exact((b1.mono (show k<=k+4 by omega)).add (b2.mono (show 4+k<=k+4 by omega))).mono (by omega)
abbrev lK:MS:=(kQ (λi j=>i+j) 4 (fL oQ [] (aB (mN fM (aB (aA 6) aD)) (aB (aA 7) aD))))
theorem Wi{n:Nat}(hn:n=2\/n=3){Y:AB}(hY:Wx n 1000 Y)(S:aG)(x0 x1 x2 x3 x5:AJ):∀(Z:AB)(c:Int)(x7:AJ),(∀z∈Z,Gu n 1000 z)->
  ((∃z∈Z,bY Y z=0)/\cJ [] (gN 7) lK (Z.map tv) [x0,x1,x2,x3,some (.pv (.int c)),x5,some (.pv (px Y)),x7] S=.exc "OnSide" S)\/((∀z∈Z,bY Y z≠0)/\∃y7,cJ [] (gN 7) lK (Z.map tv) [x0,x1,x2,x3,some (.pv (.int c)),x5,some (.pv (px Y)),x7] S=.nx [x0,x1,x2,x3,some (.pv (.int (c+((Z.map λz=>bY Y z).count 1:Nat)))),x5,some (.pv (px Y)),y7] S)
 |[],c,x7,_=>.inr ⟨λ_ h=>absurd h ee,x7,by simp[fE]⟩
 |z::Z,c,x7,hz=>by
  have e:=Qv hn (k:=1000) (by decide) (hz z (by simp)) S (hs:=[Y]) (A:=.tup [px Y]) (.inr rfl) (λu hu=>by rw[oz.mp hu];exact hY);rw[az,dY];simp only[gN,dr,da];rcases e with⟨⟨u,hu,e0⟩,e⟩|⟨e0,e⟩
  .left
   rw[oz.mp hu]at e0;refine⟨⟨z,by simp,e0⟩,?_⟩;have st:lK [x0,x1,x2,x3,some (.pv (.int c)),x5,some (.pv (px Y)),some (.pv (tv z))] S=.exc "OnSide" S:=by
    generalize px Y=P,tv z=T at *;unfold lK;simp! [bJ,aK,aN,aL,aM,aF,aJ,kQ,e]
   rw[st]
  .have e0:=e0 Y (by simp)
   have st:lK [x0,x1,x2,x3,some (.pv (.int c)),x5,some (.pv (px Y)),some (.pv (tv z))] S=.nx [x0,x1,x2,x3,some (.pv (.int (c+(([Y].map λu=>bY u z).count 1:Nat)))),x5,some (.pv (px Y)),some (.pv (tv z))] S:=by
    generalize ((([Y].map λu=>bY u z).count 1:Nat):Int)=K,px Y=P,tv z=T at *;unfold lK;simp! [bJ,aK,aN,aL,aM,aF,aJ,kQ,vD,e]
   rw[st];have ek:((z::Z).map λz=>bY Y z).count 1=([Y].map λu=>bY u z).count 1+(Z.map λz=>bY Y z).count 1:=by
    rw[az,az,cq,xq,xq,List.count_nil];omega
   rcases Wi hn hY S x0 x1 x2 x3 x5 Z (c+(([Y].map λu=>bY u z).count 1:Nat)) (some (.pv (tv z))) (λy hy=>hz y (bh _ hy))with⟨⟨y,hy,q⟩,ih⟩|⟨q,y7,ih⟩
   .exact .inl ⟨⟨y,bh _ hy,q⟩,ih⟩
   .refine .inr ⟨λy hy=>?_,y7,?_⟩
    .rcases ci.mp hy with rfl |hy
     .exact e0
     .exact q y hy
    .dsimp only
     rw[ih,ek];have:c+((([Y].map λu=>bY u z).count 1:Nat):Int)+(((Z.map λz=>bY Y z).count 1:Nat):Int)=c+((([Y].map λu=>bY u z).count 1+(Z.map λz=>bY Y z).count 1:Nat):Int):=by omega
     rw[this]
structure Pc where
 f:AA
 a:AA
 r:AB
def Pc.ys(d:Pc):AB:=d.a::d.r
def Pc.Y(d:Pc):AB:=d.ys.map λy=>fD d.a y++[1]
def Pc.pv(fs:List (Int×Int))(d:Pc):PV:=px (d.ys.map (cY fs d.f))
structure Pg(n:Nat)(d:Pc):Prop where
 f:Gu n 310 d.f
 len:d.ys.length=n+1
 ok:∀y∈d.ys,y.length=n/\∀x∈y,0<=x/\x<=2
def Pc.sp(n:Nat)(q:AA)(w:Int)(d:Pc):AB:=(jK (q++[w]) w (λj=>iH (d.Y.map (·.getD j 0))) (λj=>iE (d.Y.map (·.getD j 0))) (ax n) [[]]).map (·++[w])
theorem Zl{n:Nat}{a y:AA}(ha:a.length=n)(hy:y.length=n){j:Nat}(hj:j<n):(fD a y++[1]).getD j 0=y.getD j 0-a.getD j 0/\(fD a y).length=n:=by
 have hl:(fD a y).length=n:=by unfold fD;rw[iy];omega
 refine⟨?_,hl⟩;rw[dm,du (by omega),dm,dm];unfold fD;rw[td,av (show j<y.length by omega),av (show j<a.length by omega)];rfl
theorem uG{l:AA}(h:∀x∈l,0<=x/\x<=2){j:Nat}(hj:j<l.length):0<=l.getD j 0/\l.getD j 0<=2:=by
 rw[dm,av hj];exact h _ (eh hj)
theorem Pg.nb{n:Nat}{d:Pc}(h:Pg n d){j:Nat}(hj:j<n):(∀y∈d.Y,aE (tv y) (.int (j:Int))=some (.int (y.getD j 0)))/\Nb (d.Y.map (·.getD j 0)) (iH (d.Y.map (·.getD j 0))) (iE (d.Y.map (·.getD j 0)))/\∀x∈d.Y.map (·.getD j 0),iH (d.Y.map (·.getD j 0))<=x/\x<=iE (d.Y.map (·.getD j 0)):=by
 have ha:=h.ok d.a (by simp[Pc.ys]);have hN:∀x∈d.Y.map (·.getD j 0),∃y∈d.ys,x=y.getD j 0-d.a.getD j 0:=λx hx=>by
  obtain⟨z,hz,rfl⟩:=cj.mp hx;obtain⟨y,hy,rfl⟩:=cj.mp hz;exact⟨y,hy,(Zl ha.1 (h.ok y hy).1 hj).1⟩
 have ba:=uG ha.2 (j:=j) (by omega);refine⟨λy hy=>?_,V4 ?_ (λx hx=>?_) (λx hx x' hx'=>?_)⟩
 .obtain⟨z,hz,rfl⟩:=cj.mp hy
  have hl:=(Zl ha.1 (h.ok z hz).1 hj).2;have hl:j<(fD d.a z++[1]).length:=by rw[bn,hl];simp;omega
  refine lV ?_;rw[di,dm,av hl];rfl
 .intro e
  have:=congrArg qh e;unfold Pc.Y at this;rw[ak,ak,h.len]at this;simp at this
 .obtain⟨y,hy,rfl⟩:=hN x hx
  have:=uG (h.ok y hy).2 (j:=j) (by have:=(h.ok y hy).1;omega);omega
 .obtain⟨y,hy,rfl⟩:=hN x hx
  obtain⟨y',hy',rfl⟩:=hN x' hx';have:=uG (h.ok y hy).2 (j:=j) (by have:=(h.ok y hy).1;omega);have:=uG (h.ok y' hy').2 (j:=j) (by have:=(h.ok y' hy').1;omega);omega
theorem Pg.wx{n:Nat}{d:Pc}(h:Pg n d):Wx n 7 d.Y:=by
 have ha:=h.ok d.a (by simp[Pc.ys]);refine⟨by unfold Pc.Y;rw[ak,h.len],λz hz=>?_⟩;obtain⟨y,hy,rfl⟩:=cj.mp hz;have hy':=h.ok y hy;have hl:(fD d.a y).length=n:=by unfold fD;rw[iy];omega
 refine⟨fD d.a y,1,rfl,hl,by decide,sZ,λx hx=>?_,Bd.of (n:=1) (by decide) (by decide)⟩;obtain⟨j,hj,rfl⟩:=kn hx;have b1:=hy'.2 _ (eh (show j<y.length by omega));have b2:=ha.2 _ (eh (show j<d.a.length by omega));have e:(fD d.a y)[j]'hj=y[j]'(by omega)-d.a[j]'(by omega):=qq ..;rw[e];exact Bd.of (n:=4) (by omega) (by decide)
def kP:AB->AB
 |[]=>[[]]
 |L::Ls=>L.flatMap λc=>(kP Ls).map (c:: ·)
theorem tO:∀{Ls:AB}{t:AA},t∈kP Ls↔t.length=Ls.length/\∀i,i<Ls.length->t.getD i 0∈Ls.getD i []
 |[],t=>by
  unfold kP;rw[oz];constructor
  .rintro rfl
   exact⟨rfl,λi hi=>absurd hi (Nat.not_lt_zero i)⟩
  .rintro⟨h,_⟩
   exact ow.mp h
 |L::Ls,t=>by
  unfold kP;rw[j6];constructor
  .rintro⟨c,hc,h⟩
   obtain⟨s,hs,rfl⟩:=cj.mp h;obtain⟨h1,h2⟩:=tO.mp hs;refine⟨by simp[h1],λi hi=>?_⟩;cases i with
   |zero=>simpa using hc
   |succ i=>simpa using h2 i (by simpa using hi)
  .rintro⟨h1,h2⟩
   match t,h1 with
   |c::s,h1=>
    refine⟨c,by simpa using h2 0 (by simp),cj.mpr ⟨s,tO.mpr ⟨by simpa using h1,λi hi=>?_⟩,rfl⟩⟩;simpa using h2 (i+1) (by simpa using hi)
theorem xV{α β:Type}{f g:α->List β}:∀{l:List α},(∀a∈l,f a=g a)->l.flatMap f=l.flatMap g
 |[],_=>rfl
 |a::l,h=>by rw[tx,tx,h a (by simp),xV λb hb=>h b (bh _ hb)]
theorem Af(q:AA)(w:Int)(m M:Nat->Int):∀(ks:List Nat)(rows:AB),jK q w m M ks rows=rows.flatMap λr=>(kP (ks.map λk=>cL (m k) (M k))).map λt=>r++bo (λk c=>q.getD k 0+c*w) ks t
 |[],rows=>by
  show rows=_;simp[kP]
 |k::ks,rows=>by
  show jK q w m M ks (iC (q.getD k 0) w (cL (m k) (M k)) rows)=_;rw[Af q w m M ks];unfold iC;rw[List.flatMap_assoc];refine xV λr _=>?_;rw[az,kP,List.flatMap_map,List.map_flatMap];refine xV λc _=>?_;rw[cu];refine il λs _=>?_;simp
def Pc.rs(n:Nat)(d:Pc):AB:=(ax n).map λj=>cL (iH (d.Y.map (·.getD j 0))) (iE (d.Y.map (·.getD j 0)))
def Xo(n:Nat)(q:AA)(w:Int)(t:AA):AA:=bo (λk c=>q.getD k 0+c*w) (ax n) t++[w]
theorem An(n:Nat)(q:AA)(w:Int)(d:Pc):d.sp n q w=(kP (d.rs n)).map (Xo n (q++[w]) w):=by
 unfold Pc.sp;rw[Af,tx,List.flatMap_nil,jl,cu];rfl
theorem O6{n:Nat}{q:AA}{w:Int}{t:AA}(hq:q.length=n)(ht:t.length=n):(bo (λk c=>(q++[w]).getD k 0+c*w) (ax n) t).length=n/\∀j,j<n->(bo (λk c=>(q++[w]).getD k 0+c*w) (ax n) t).getD j 0=q.getD j 0+t.getD j 0*w:=by
 refine⟨by rw[iy,jf];omega,λj hj=>?_⟩;rw[dm,td,av (show j<(ax n).length by rw[jf];exact hj),av (show j<t.length by omega),j7];show(q++[w]).getD j 0+t[j]*w=_;rw[dm,du (by omega),<-dm,dm (l:=t),av (show j<t.length by omega)];rfl
theorem aat{n k:Nat}{q:AA}{w:Int}(P:Pq n k q w)(hk:k<=900){d:Pc}(hd:Pg n d):∀z∈d.sp n q w,Gu n 1000 z:=λz hz=>by
 rw[An]at hz;obtain⟨t,ht,rfl⟩:=cj.mp hz;obtain⟨h1,h2⟩:=tO.mp ht;have hl:(d.rs n).length=n:=by unfold Pc.rs;rw[ak,jf]
 rw[hl]at h1 h2;obtain⟨l1,l2⟩:=O6 (w:=w) P.len h1;refine Gu.mono (k:=k+5) ⟨_,w,rfl,aaf P l1 λj hj=>?_⟩ (by omega);have h3:=h2 j hj;have e:(d.rs n).getD j []=cL (iH (d.Y.map (·.getD j 0))) (iE (d.Y.map (·.getD j 0))):=by
  unfold Pc.rs;rw[dm,di,av (show j<(ax n).length by rw[jf];exact hj),j7];rfl
 rw[e]at h3;have h4:=kX.mp h3;have h5:=(hd.nb hj).2.1.lo;exact⟨t.getD j 0,by omega,by omega,l2 j hj⟩
abbrev lL:MS:=(aI (aT 6 (aP oY [] (aB (aA 5) (aB (aA 1) aD)))) (bK (bD (aP oI [] (aB (aA 6) (aB (aA 3) aD)))) (gN 7) lK))
theorem Mx{n k:Nat}(hn:n=2\/n=3){fs:List (Int×Int)}(hf:fs.length=n)(h:∀u∈fs,Sp u){q:AA}{w:Int}(P:Pq n k q w)(hk:k<=900){d:Pc}(hd:Pg n d)(S:aG)(c:Int)(x0 x2 x6 x7:AJ):
  ((∃z∈d.sp n q w,bY d.Y z=0)/\lL [x0,some (.pv (.tup (fs.map fv))),x2,some (.pv (tv (q++[w]))),some (.pv (.int c)),some (.pv (d.pv fs)),x6,x7] S=.exc "OnSide" S)\/((∀z∈d.sp n q w,bY d.Y z≠0)/\∃y6 y7,lL [x0,some (.pv (.tup (fs.map fv))),x2,some (.pv (tv (q++[w]))),some (.pv (.int c)),some (.pv (d.pv fs)),x6,x7] S=.nx [x0,some (.pv (.tup (fs.map fv))),x2,some (.pv (tv (q++[w]))),some (.pv (.int (c+(((d.sp n q w).map λz=>bY d.Y z).count 1:Nat)))),some (.pv (d.pv fs)),y6,y7] S):=by
 have e1:oY [.pv (d.pv fs),.pv (.tup (fs.map fv))] S=.ok (.pv (px d.Y)) S:=Jz hn hf h hd.f hd.ok S;have e2:oI [.pv (px d.Y),.pv (tv (q++[w]))] S=.ok (.pv (.lst ((d.sp n q w).map tv))) S:=Fu hn P (by omega) (λj hj=>⟨(hd.nb hj).1,(hd.nb hj).2.1⟩) S;have wx:=hd.wx;have L:=Wi hn (Y:=d.Y) ⟨wx.len,λu hu=>(wx.gu u hu).mono (by decide)⟩ S x0 (some (.pv (.tup (fs.map fv)))) x2 (some (.pv (tv (q++[w])))) (some (.pv (d.pv fs))) (d.sp n q w) c x7 (aat P hk hd);generalize (((d.sp n q w).map λz=>bY d.Y z).count 1:Nat)=K at *;have st:∀r,cJ [] (gN 7) lK ((d.sp n q w).map tv) [x0,some (.pv (.tup (fs.map fv))),x2,some (.pv (tv (q++[w]))),some (.pv (.int c)),some (.pv (d.pv fs)),some (.pv (px d.Y)),x7] S=r->lL [x0,some (.pv (.tup (fs.map fv))),x2,some (.pv (tv (q++[w]))),some (.pv (.int c)),some (.pv (d.pv fs)),x6,x7] S=r:=λr hr=>by
  clear L wx;generalize tv (q++[w])=Q,PV.tup (fs.map fv)=G,d.pv fs=PD,px d.Y=PY,(d.sp n q w).map tv=ZL at *;unfold lL;generalize lK=LB at *;apply sq;simp! [bJ,aK,aN,aL,aM,aF,aJ,e1];exact⟨rfl,rfl⟩;simp! [bJ,aK,aN,aL,aM,aF,aJ,bK,bD,bS,e2,hr]
 rcases L with⟨a,b⟩|⟨a,y7,b⟩
 .exact .inl ⟨a,st _ b⟩
 .exact .inr ⟨a,_,y7,st _ b⟩
theorem Zi{n k:Nat}(hn:n=2\/n=3){fs:List (Int×Int)}(hf:fs.length=n)(h:∀u∈fs,Sp u){q:AA}{w:Int}(P:Pq n k q w)(hk:k<=900)(S:aG)(x0 x2:AJ):∀(ds:List Pc)(c:Int)(x5 x6 x7:AJ),(∀d∈ds,Pg n d)->
  ((∃d∈ds,∃z∈d.sp n q w,bY d.Y z=0)/\cJ [] (gN 5) lL (ds.map (Pc.pv fs)) [x0,some (.pv (.tup (fs.map fv))),x2,some (.pv (tv (q++[w]))),some (.pv (.int c)),x5,x6,x7] S=.exc "OnSide" S)\/((∀d∈ds,∀z∈d.sp n q w,bY d.Y z≠0)/\∃y5 y6 y7,cJ [] (gN 5) lL (ds.map (Pc.pv fs)) [x0,some (.pv (.tup (fs.map fv))),x2,some (.pv (tv (q++[w]))),some (.pv (.int c)),x5,x6,x7] S=.nx [x0,some (.pv (.tup (fs.map fv))),x2,some (.pv (tv (q++[w]))),some (.pv (.int (c+((ds.map λd=>((d.sp n q w).map λz=>bY d.Y z).count 1).sum:Nat)))),y5,y6,y7] S)
 |[],c,x5,x6,x7,_=>.inr ⟨λ_ h=>absurd h ee,x5,x6,x7,by simp[fE]⟩
 |d::ds,c,x5,x6,x7,hd=>by
  rw[az,dY];simp only[gN,dr,da];rcases Mx hn hf h P hk (hd d (by simp)) S c x0 x2 x6 x7 with⟨a,e⟩|⟨a,y6,y7,e⟩
  .rw[e]
   exact .inl ⟨⟨d,by simp,a⟩,rfl⟩
  .rw[e]
   dsimp only;rcases Zi hn hf h P hk S x0 x2 ds (c+(((d.sp n q w).map λz=>bY d.Y z).count 1:Nat)) (some (.pv (d.pv fs))) y6 y7 (λy hy=>hd y (bh _ hy))with⟨⟨b,hb,q⟩,ih⟩|⟨q',z5,z6,z7,ih⟩
   .exact .inl ⟨⟨b,bh _ hb,q⟩,ih⟩
   .refine .inr ⟨λy hy=>?_,z5,z6,z7,?_⟩
    .rcases ci.mp hy with rfl |hy
     .exact a
     .exact q' y hy
    .rw[ih,az,my]
     generalize (((d.sp n q w).map λz=>bY d.Y z).count 1:Nat)=K1;generalize ((ds.map λd=>((d.sp n q w).map λz=>bY d.Y z).count 1).sum:Nat)=K2;have:c+(K1:Int)+(K2:Int)=c+((K1+K2:Nat):Int):=by omega
     rw[this]
theorem At{n k:Nat}(hn:n=2\/n=3){fs:List (Int×Int)}(hf:fs.length=n)(h:∀u∈fs,Sp u){xs:AA}{w:Int}(P:Pq n k xs w)(hk:k<=900){th:PV}(S:aG)(eS:jE [.pv th,.pv (.tup (fs.map fv))] S=.ok (.pv (tv (xs++[w]))) S){A:PV}{ds:List Pc}(hA:Sv A (ds.map (Pc.pv fs)))(hd:∀d∈ds,Pg n d):
  ((∃d∈ds,∃z∈d.sp n (xs.map (·.fmod w)) w,bY d.Y z=0)/\gH [.pv A,.pv (.tup (fs.map fv)),.pv th] S=.exc "OnSide" S)\/((∀d∈ds,∀z∈d.sp n (xs.map (·.fmod w)) w,bY d.Y z≠0)/\gH [.pv A,.pv (.tup (fs.map fv)),.pv th] S=.ok (.pv (.int ((ds.map λd=>((d.sp n (xs.map (·.fmod w)) w).map λz=>bY d.Y z).count 1).sum:Nat))) S):=by
 have e1:=Sz (n:=n) (by omega) P S;have L:=Zi hn hf h (Jy P) hk S (some (.pv A)) (some (.pv th)) ds 0 none none none hd;have hb:xY=(aI (aT 3 (aP qJ [] (aB (aP jE [] (aB (aA 2) (aB (aA 1) aD))) aD))) (aI (aT 4 (mC (.int 0))) (aI (bK (bD (aA 0)) (gN 5) lL) (bF (aA 4))))):=rfl;have tk:S.take S.length=S:=by simp
 rw[qm]at L;generalize (((ds.map λd=>((d.sp n (xs.map (·.fmod w)) w).map λz=>bY d.Y z).count 1).sum:Nat):Int)=K at *;unfold gH aR;rw[hb];clear hb;rcases L with⟨a,e⟩|⟨a,y5,y6,y7,e⟩
 .refine .inl ⟨a,?_⟩
  clear a;generalize tv (xs++[w])=Q,tv (xs.map (·.fmod w)++[w])=NQ,PV.tup (fs.map fv)=G,ds.map (Pc.pv fs)=DL,lL=LB at *;rcases hA with rfl |rfl<;>simp! [bJ,aK,aN,aL,aM,aF,aJ,eS,e1,bK,bD,bS,e]
 .refine .inr ⟨a,?_⟩
  clear a;generalize tv (xs++[w])=Q,tv (xs.map (·.fmod w)++[w])=NQ,PV.tup (fs.map fv)=G,ds.map (Pc.pv fs)=DL,lL=LB at *;rcases hA with rfl |rfl<;>simp! [bJ,aK,aN,aL,aM,aF,aJ,eS,e1,bK,bD,bS,e]
theorem Ni{n:Nat}(hn:n=2\/n=3){fs:List (Int×Int)}(hf:fs.length=n)(h:∀u∈fs,Sp u){f:AA}(Gf:Gu n 310 f){ys:AB}(hl:ys.length=n+1)(hy:∀y∈ys,y.length=n/\∀x∈y,0<=x/\x<=2)(pos:0<dU (ys.map (cY fs f))):0<dU (ys.map (·++[1])):=by
 have af:∀y∈ys,Gu n 411 (cY fs f y)/\fZ n (λj=>f.getLastD 0*gF fs j) (λj=>f.getD j 0*fA fs) (f.getLastD 0*fA fs) (y++[1]) (cY fs f y):=λy hyy=>rA hn hf h Gf (hy y hyy).1 λx hx=>by have:=(hy y hyy).2 x hx;omega
 have p2:0<wU (ys.map (cY fs f)):=pN λu hu=>by
  obtain⟨y,hyy,rfl⟩:=cj.mp hu;exact(af y hyy).1
 obtain⟨pe,pa⟩:=qZ hn hf h;have F0:0<f.getLastD 0:=by
  obtain⟨fx,fw,rfl,FP⟩:=Gf;have:(fx++[fw]).getLastD 0=fw:=by simp
  rw[this];exact FP.pos
 have go:∀{a b c d:Int},0<a->0<b->0<c->0<d->∀x:Int,a*b=c*x*d->0<x:=λ{a b c d} h1 h2 h3 h4 x e=>by
  have h5:=ao h1 h2;rw[e]at h5
  by_cases h6:0<x
  .exact h6
  .have h7:c*x<=0:=Int.mul_nonpos_of_nonneg_of_nonpos (gw h3) (by omega)
   have h8:c*x*d<=0:=j8 h7 (gw h4);omega
 have w1:∀y:AA,(y++[1]).getLastD 0=1:=λy=>by simp
 have eF:=ao F0 pe;rcases hn with rfl |rfl
 .obtain⟨a,b,c,rfl⟩:∃a b c,ys=[a,b,c]:=by
   match ys,hl with
   |[a,b,c],_=>exact⟨_,_,_,rfl⟩
  have e:=Fb (af a (by simp)).2 (af b (by simp)).2 (af c (by simp)).2;have pw:0<wU [a++[1],b++[1],c++[1]]:=by simp only[wU,w1];decide
  exact go pos (ao (ao (ao eF eF) eF) pw) (ao (ao (ao F0 (pa 0 (by decide))) (ao F0 (pa 1 (by decide)))) eF) p2 _ e
 .obtain⟨a,b,c,d,rfl⟩:∃a b c d,ys=[a,b,c,d]:=by
   match ys,hl with
   |[a,b,c,d],_=>exact⟨_,_,_,_,rfl⟩
  have e:=Wa (af a (by simp)).2 (af b (by simp)).2 (af c (by simp)).2 (af d (by simp)).2;have pw:0<wU [a++[1],b++[1],c++[1],d++[1]]:=by simp only[wU,w1];decide
  exact go pos (ao (ao (ao (ao eF eF) eF) eF) pw) (ao (ao (ao (ao F0 (pa 0 (by decide))) (ao F0 (pa 1 (by decide)))) (ao F0 (pa 2 (by decide)))) eF) p2 _ e
structure Pl(n:Nat)(fs:List (Int×Int))(p:Pc×AB):Prop where
 gf:Gu n 100 p.1.f
 sx:Sx n 201 (p.1.ys.map (cY fs p.1.f))
 g:Pg n p.1
 pm:p.1.ys.Perm p.2
 ps:0<dU (p.1.ys.map (·++[1]))
 nz:dU (p.2.map (·++[1]))≠0
theorem aap{n:Nat}(hn:n=2\/n=3)(ns:AA){fs:List (Int×Int)}(hf:fs.length=n)(h:∀u∈fs,Sp u)(GL:AH)(hg:GL.length<=99){xss:AB}(w:Rw n xss)(x1 x5:AJ):∃(d:Pc)(ns':AA)(y5:AJ),lB [some (.ref 0),x1,some (.pv (.lst (fs.map fv))),some (.ref 1),some (.pv (bX xss)),x5] [.lst (li ns),.lst GL]=.nx [some (.ref 0),x1,some (.pv (.lst (fs.map fv))),some (.ref 1),some (.pv (bX xss)),y5] [.lst (li ns'),.lst (GL++[d.pv fs])]/\Pl n fs (d,xss):=by
 have hr:eT [.lst (li ns),.lst GL] 0 ns:=rfl;obtain⟨v,n1,e1,G⟩:=Io n hn hr;simp only[da]at e1;have e1:jL [.ref 0,.pv (.int (n:Int))] [.lst (li ns),.lst GL]=.ok (.pv v) [.lst (li n1),.lst GL]:=e1;obtain⟨ys,y,rfl,P⟩:=G;have Gf:Gu n 100 (ys++[y]):=⟨ys,y,rfl,P⟩;generalize ys++[y]=f at *;clear P y ys;have sp:=λS xs (hx:xs∈xss)=>rC hn S hf h (w.l xs hx) (λy hy=>by have:=w.b xs hx y hy;omega);have gu:∀us∈xss.map (dF fs),Gu n 100 us:=λus hu=>by
  obtain⟨xs,hx,rfl⟩:=cj.mp hu;exact(sp [] xs hx).2.1
 have hl:(xss.map (dF fs)).length=n+1:=by rw[ak];exact w.len
 have nz2:=Om hn (way:=1) (.inl rfl) hl gu Gf (Dw hn hf h w);have gu2:=rM (way:=1) (.inl rfl) gu Gf;have l2:((xss.map (dF fs)).map (cV 1 f)).length=n+1:=by rw[ak];exact hl
 have eL:(xss.map (dF fs)).map (cV 1 f)=xss.map (cY fs f):=by rw[cu];rfl
 have cp:=tJ (rQ hn l2);have cd:=zY hn (k:=100+100+1) (by decide) l2 gu2;have es:=Dd (uss:=(xss.map (dF fs)).map (cV 1 f)) (A:=.lst (((xss.map (dF fs)).map (cV 1 f)).map tv)) hn [.lst (li n1),.lst GL] l2 (λus hu=>(gu2 us hu).mono (by decide)) (.inl rfl);have S1:=Y9 hn (k:=100+100+1) (by decide) l2 gu2 nz2;rw[eL]at cp cd nz2 es S1;obtain⟨zs,pz,ez⟩:=yA (cY fs f) cp;obtain⟨a,r,rfl⟩:∃a r,zs=a::r:=by
  have:=pz.length_eq;rw[w.len]at this
  match zs,this with
  |a::r,_=>exact⟨a,r,rfl⟩
 have S2:Sx n 201 ((a::r).map (cY fs f)):=by rw[<-ez];exact S1
 have ok:∀y∈a::r,y.length=n/\∀x∈y,0<=x/\x<=2:=λy hy=>⟨w.l y (pz.mem_iff.mp hy),w.b y (pz.mem_iff.mp hy)⟩;have ln1:(a::r).length=n+1:=by rw[pz.length_eq];exact w.len
 have pos:0<dU ((a::r).map (cY fs f)):=by rw[<-ez,cd];omega
 refine⟨⟨f,a,r⟩,n1,some (.pv (tv f)),?_,⟨Gf,S2,⟨Gf.mono (by decide),ln1,ok⟩,pz,Ni hn hf h (Gf.mono (by decide)) ln1 ok pos,w.nz⟩⟩;have ep:(Pc.mk f a r).pv fs=.tup ((gK (xss.map (cY fs f))).map tv):=by rw[ez];rfl
 rw[ep];have lz:GL.length<16777216:=by omega
 have ln:((fs.map fv).length:Int)=(n:Int):=by rw[ak,hf]
 have ec:bZ [] (gN 0) (aP kJ [] (aB (aP kL [] (aB (aA 0) (aB (aA 2) aD))) (aB (aA 1) (aB (mC (.int 1)) aD)))) (xss.map lv) [none,some (.pv (tv f)),some (.pv (.lst (fs.map fv)))] [.lst (li n1),.lst GL]=.ok (xss.map λxs=>tv (cY fs f xs)) [.lst (li n1),.lst GL]:=by
  refine jX (gY _) lv (λxs=>tv (cY fs f xs)) xss none λxs hx=>?_;have a1:=(sp [.lst (li n1),.lst GL] xs hx).1;have a2:=Xj (way:=1) [.lst (li n1),.lst GL] hn (.inl rfl) (sp [] xs hx).2.1 Gf (by decide) (by decide);show _=bO.ok (AV.pv (tv (cV 1 f (dF fs xs)))) _;generalize fs.map fv=FL,tv f=T4,lv xs=T3,tv (dF fs xs)=T2,tv (cV 1 f (dF fs xs))=T1 at *;simp! [aE,aV,aW,aO,aK,aN,aL,aM,aF,aJ,a1,a2]
 have em:(xss.map (cY fs f)).map tv=xss.map λxs=>tv (cY fs f xs):=by rw[cu];rfl
 rw[em]at es;have hv:bX xss=.lst (xss.map lv):=rfl;rw[hv];clear S1 S2 ep ez cd cp pos ok pz nz2 gu2 l2 hl gu sp;generalize (n:Int)=N,fs.map fv=FL,xss.map lv=XL,(xss.map λxs=>tv (cY fs f xs))=TL,(gK (xss.map (cY fs f))).map tv=PX at *;have e1:jL [.ref 0,.pv (.int N)] [.lst (li ns),.lst GL]=.ok (.pv (tv f)) [.lst (li n1),.lst GL]:=e1;generalize tv f=TF at *;unfold lB;simp! [aE,aV,aW,aO,aK,aN,aL,aM,aF,aJ,ln,e1,dB,eW,gU,bB,cD,bD,bS,ec,es,lz]
theorem En{n:Nat}(hn:n=2\/n=3){fs:List (Int×Int)}(hf:fs.length=n)(h:∀u∈fs,Sp u)(x1:AJ):∀(hs:AC)(GL:AH)(ns:AA)(x4 x5:AJ),(∀xss∈hs,Rw n xss)->GL.length+hs.length<=99->∃(ps:List (Pc×AB))(ns':AA)(y4 y5:AJ),
  cJ [] (gN 4) lB (hs.map bX) [some (.ref 0),x1,some (.pv (.lst (fs.map fv))),some (.ref 1),x4,x5] [.lst (li ns),.lst GL]=.nx [some (.ref 0),x1,some (.pv (.lst (fs.map fv))),some (.ref 1),y4,y5] [.lst (li ns'),.lst (GL++ps.map λp=>p.1.pv fs)]/\ps.map (·.2)=hs/\∀p∈ps,Pl n fs p
 |[],GL,ns,x4,x5,_,_=>⟨[],ns,x4,x5,by rw[cq,cq,jl];exact fE,rfl,λ_ h=>absurd h ee⟩
 |xss::hs,GL,ns,x4,x5,hw,h9=>by
  have h9:GL.length+(hs.length+1)<=99:=h9;obtain⟨d,n1,y5,e1,r1⟩:=aap hn ns hf h GL (by omega) (hw xss cf) x1 x5;obtain⟨ps,n2,z4,z5,e2,l2,r2⟩:=En hn hf h x1 hs (GL++[d.pv fs]) n1 (some (.pv (bX xss))) y5 (λy hy=>hw y (bh _ hy)) (by rw[bn,ju];omega);refine⟨(d,xss)::ps,n2,z4,z5,?_,by rw[az,l2],λp hp=>?_⟩
  .rw[ko]at e2
   rw[az,dY];simp only[gN,dr,da];rw[e1];exact e2
  .rcases ci.mp hp with rfl |hp
   .exact r1
   .exact r2 p hp
theorem Mi{n:Nat}(hn:n=2\/n=3)(ns:AA){fs:List (Int×Int)}(hf:fs.length=n)(h:∀u∈fs,Sp u){hs:AC}(hw:∀xss∈hs,Rw n xss)(h9:hs.length<=90):∃(ps:List (Pc×AB))(ns':AA),nF [.ref 0,.pv (.lst (hs.map bX)),.pv (.lst (fs.map fv))] [.lst (li ns)]=.ok (.ref 1) [.lst (li ns'),.lst (ps.map λp=>p.1.pv fs)]/\ps.map (·.2)=hs/\∀p∈ps,Pl n fs p:=by
 obtain⟨ps,n2,y4,y5,e2,l2,r2⟩:=En hn hf h (some (.pv (.lst (hs.map bX)))) hs [] ns none none hw (by show 0+hs.length<=99;omega);refine⟨ps,n2,?_,l2,r2⟩;rw[jh]at e2;have hb:yS=(aI (aT 3 (eI aD)) (aI (bK (bD (aA 1)) (gN 4) lB) (bF (aA 3)))):=rfl;unfold nF aR;rw[hb];generalize fs.map fv=FL,hs.map bX=HL,(ps.map λp=>p.1.pv fs)=GL,lB=LB at *;simp! [aE,aV,aW,aO,aK,aN,aL,aM,aF,aJ,eI,jP,bK,bD,bS,e2]
def cI(u1 u2 v1 v2 f1 f2 f3:Int)(t:AA):Int:=if 0<=f2+(u1*v2-u2*v1+(v1-u1)*t.getD 1 0-(v2-u2)*t.getD 0 0)/\0<=f3+(t.getD 0 0*v2-t.getD 1 0*v1)/\0<=f1+(u1*t.getD 1 0-u2*t.getD 0 0)then 1 else-1
def cN(u1 u2 v1 v2 f1 f2 f3:Int):Nat:=((kP [cL (iH [0,u1,v1]) (iE [0,u1,v1]),cL (iH [0,u2,v2]) (iE [0,u2,v2])]).map (cI u1 u2 v1 v2 f1 f2 f3)).count 1
def mT(a b:Int):Int:=min a 0+min (-b) 0
def mS(a b:Int):Int:=max a 0+max (-b) 0-1
def Em(u1 u2 v1 v2 f1 f2 f3:Int):Bool:=decide (((cN u1 u2 v1 v2 f1 f2 f3:Nat):Int)+(cN u1 u2 v1 v2 (u1-u2-1-f1) (v1-u1-(v2-u2)-1-f2) (-v1- -v2-1-f3):Nat)=u1*v2-u2*v1)&&decide (cN (v1-u1) (v2-u2) (-u1) (-u2) f2 f3 f1=cN u1 u2 v1 v2 f1 f2 f3)&&decide (cN (-u1) (-u2) (-v1) (-v2) (-1-f1) (-1-f2) (-1-f3)=cN u1 u2 v1 v2 (u1-u2-1-f1) (v1-u1-(v2-u2)-1-f2) (-v1- -v2-1-f3))
def Jo:Bool:=(cL (-2) 2).all λu1=>(cL (-2) 2).all λu2=>(cL (-2) 2).all λv1=>(cL (-2) 2).all λv2=>if 0<u1*v2-u2*v1/\-2<=v1-u1/\v1-u1<=2/\-2<=v2-u2/\v2-u2<=2 then(cL (mT u1 u2) (mS u1 u2)).all λf1=>(cL (mT (v1-u1) (v2-u2)) (mS (v1-u1) (v2-u2))).all λf2=>(cL (-2) (-1)).all λs=>if mT (-v1) (-v2)<=s-f1-f2/\s-f1-f2<=mS (-v1) (-v2)then Em u1 u2 v1 v2 f1 f2 (s-f1-f2)else true else true
theorem Q9:Jo=true:=by decide+kernel
theorem D5{u1 u2 v1 v2 f1 f2 f3:Int}(h1:-2<=u1/\u1<=2)(h2:-2<=u2/\u2<=2)(h3:-2<=v1/\v1<=2)(h4:-2<=v2/\v2<=2)(hd:0<u1*v2-u2*v1)(h5:-2<=v1-u1/\v1-u1<=2)(h6:-2<=v2-u2/\v2-u2<=2)(k1:mT u1 u2<=f1/\f1<=mS u1 u2)(k2:mT (v1-u1) (v2-u2)<=f2/\f2<=mS (v1-u1) (v2-u2))(k3:mT (-v1) (-v2)<=f3/\f3<=mS (-v1) (-v2))(hs:f1+f2+f3=-1\/f1+f2+f3=-2):
  ((cN u1 u2 v1 v2 f1 f2 f3:Nat):Int)+(cN u1 u2 v1 v2 (u1-u2-1-f1) (v1-u1-(v2-u2)-1-f2) (-v1- -v2-1-f3):Nat)=u1*v2-u2*v1/\cN (v1-u1) (v2-u2) (-u1) (-u2) f2 f3 f1=cN u1 u2 v1 v2 f1 f2 f3/\cN (-u1) (-u2) (-v1) (-v2) (-1-f1) (-1-f2) (-1-f3)=cN u1 u2 v1 v2 (u1-u2-1-f1) (v1-u1-(v2-u2)-1-f2) (-v1- -v2-1-f3):=by
 have c:=Q9;unfold Jo at c;have c:=jc.mp (jc.mp (jc.mp (jc.mp c u1 (kX.mpr h1)) u2 (kX.mpr h2)) v1 (kX.mpr h3)) v2 (kX.mpr h4);rw[if_pos ⟨hd,h5.1,h5.2,h6.1,h6.2⟩]at c;have c:=jc.mp (jc.mp (jc.mp c f1 (kX.mpr k1)) f2 (kX.mpr k2)) (f1+f2+f3) (kX.mpr (by omega));have e:f1+f2+f3-f1-f2=f3:=by omega
 rw[e,if_pos k3]at c;unfold Em at c;simp only[iu,decide_eq_true_eq]at c;exact⟨c.1.1,c.1.2,c.2⟩
def Fl(x y w a b:Int):Int:=(a*y-b*x).fdiv w
structure Gn(x y w:Int):Prop where
 w0:0<w
 x0:0<x/\x<w
 y0:0<y/\y<w
 g:∀a b:Int,-2<=a->a<=2->-2<=b->b<=2->(a≠0\/b≠0)->¬w∣a*y-b*x
theorem nY{w g:Int}(w0:0<w)(h:¬w∣g):∃r,0<r/\r<w/\g=w*g.fdiv w+r:=by
 have f0:=qp g w0;have f1:=tj g w0;have fm:g.fmod w+w*g.fdiv w=g:=ku g w;refine⟨g.fmod w,?_,f1,by omega⟩
 by_cases c:g.fmod w=0
 .exact absurd ⟨g.fdiv w,by omega⟩ h
 .omega
theorem Hm{w g r f:Int}(w0:0<w)(r0:0<r)(r1:r<w)(e:g=w*f+r):g.fdiv w=f:=by
 have f0:=qp g w0;have f1:=tj g w0;have fm:g.fmod w+w*g.fdiv w=g:=ku g w;generalize g.fmod w=s,g.fdiv w=q at *;have e2:w*(q-f)=r-s:=by rw[vz];omega
 by_cases c:q-f=0
 .omega
 .exfalso
  rcases Int.lt_or_gt_of_ne c with h |h
  .have:=ng (show q-f<=-1 by omega) (gw w0)
   omega
  .have:=ng (show 1<=q-f by omega) (gw w0)
   omega
theorem Oa{w g:Int}(w0:0<w)(h:¬w∣g)(K:Int):sg (w*K+g)=if 0<=g.fdiv w+K then 1 else-1:=by
 obtain⟨r,r0,r1,e⟩:=nY w0 h;generalize g.fdiv w=f at *;have e2:w*K+g=w*(f+K)+r:=by rw[e,Int.mul_add];omega
 rw[e2];unfold sg
 by_cases c:0<=f+K
 .have:=xu (gw w0) c
  rw[if_pos c,if_pos (by omega)]
 .have:=ng (show f+K<=-1 by omega) (gw w0)
  rw[if_neg c,if_neg (by omega),if_pos (by omega)]
theorem zP{w g:Int}(w0:0<w)(h:¬w∣g):(-g).fdiv w=-1-g.fdiv w:=by
 obtain⟨r,r0,r1,e⟩:=nY w0 h;generalize g.fdiv w=f at *;exact Hm w0 (r:=w-r) (by omega) (by omega) (by rw[e];grind)
theorem Q8{w g:Int}(w0:0<w)(h:¬w∣g)(K:Int):(w*K+g).fdiv w=K+g.fdiv w:=by
 obtain⟨r,r0,r1,e⟩:=nY w0 h;generalize g.fdiv w=f at *;exact Hm w0 (r:=r) (by omega) (by omega) (by rw[e];grind)
theorem E6{w g:Int}(h:¬w∣g):¬w∣ -g:=λc=>h (by simpa using Int.dvd_neg.mpr c)
theorem Gn.mate{x y w:Int}(G:Gn x y w):Gn (w-x) (w-y) w:=by
 have hx:=G.x0;have hy:=G.y0;refine⟨G.w0,by omega,by omega,λa b a1 a2 b1 b2 ne c=>G.g a b a1 a2 b1 b2 ne ?_⟩;have e:a*y-b*x=w*(a-b)-(a*(w-y)-b*(w-x)):=by grind
 rw[e];exact Int.dvd_sub ⟨a-b,rfl⟩ c
theorem zB{x y w:Int}(G:Gn x y w){a b:Int}(ha:-2<=a/\a<=2)(hb:-2<=b/\b<=2)(ne:a≠0\/b≠0):Fl (w-x) (w-y) w a b=a-b-1-Fl x y w a b:=by
 have nd:=G.g a b ha.1 ha.2 hb.1 hb.2 ne;have e:a*(w-y)-b*(w-x)=w*(a-b)+-(a*y-b*x):=by grind
 unfold Fl;rw[e,Q8 G.w0 (E6 nd),zP G.w0 nd];omega
theorem zF{x y w:Int}(G:Gn x y w){a b:Int}(ha:-2<=a/\a<=2)(hb:-2<=b/\b<=2)(ne:a≠0\/b≠0):Fl x y w (-a) (-b)=-1-Fl x y w a b:=by
 have e:-a*y- -b*x=-(a*y-b*x):=by grind
 unfold Fl;rw[e,zP G.w0 (G.g a b ha.1 ha.2 hb.1 hb.2 ne)]
theorem M8{w g h k:Int}(w0:0<w)(n1:¬w∣g)(n2:¬w∣h)(n3:¬w∣k)(e:g+h+k=0):g.fdiv w+h.fdiv w+k.fdiv w=-1\/g.fdiv w+h.fdiv w+k.fdiv w=-2:=by
 obtain⟨r,r0,r1,e1⟩:=nY w0 n1;obtain⟨s,s0,s1,e2⟩:=nY w0 n2;obtain⟨t,t0,t1,e3⟩:=nY w0 n3;generalize k.fdiv w=f3,h.fdiv w=f2,g.fdiv w=f1 at *;have e4:w*(f1+f2+f3)=-(r+s+t):=by grind
 generalize f1+f2+f3=q at*
 by_cases c:q=-1\/q=-2
 .exact c
 .exfalso
  by_cases c2:-1<q
  .have:=xu (gw w0) (show 0<=q by omega)
   omega
  .have:=ng (show q<=-3 by omega) (gw w0)
   omega
theorem Zn{a y w:Int}(y0:0<y)(y1:y<w):min a 0*w<=a*y/\a*y<=max a 0*w:=by
 by_cases c:0<=a
 .have m1:min a 0=0:=by omega
  have m2:max a 0=a:=by omega
  rw[m1,m2,tw];exact⟨xu c (gw y0),ng (gw y1) c⟩
 .have m1:min a 0=a:=by omega
  have m2:max a 0=0:=by omega
  rw[m1,m2,tw];exact⟨Int.mul_le_mul_of_nonpos_left (by omega) (gw y1),j8 (by omega) (gw y0)⟩
theorem zK{x y w:Int}(G:Gn x y w){a b:Int}(ha:-2<=a/\a<=2)(hb:-2<=b/\b<=2)(ne:a≠0\/b≠0):mT a b<=Fl x y w a b/\Fl x y w a b<=mS a b:=by
 have nd:=G.g a b ha.1 ha.2 hb.1 hb.2 ne;obtain⟨r,r0,r1,e⟩:=nY G.w0 nd;obtain⟨p1,p2⟩:=Zn (a:=a) G.y0.1 G.y0.2;obtain⟨q1,q2⟩:=Zn (a:=-b) G.x0.1 G.x0.2;have w0:=G.w0;unfold Fl mT mS;have eb:-b*x=-(b*x):=by grind
 rw[eb]at q1 q2;generalize (a*y-b*x).fdiv w=f at *;have l1:(min a 0+min (-b) 0)*w<=w*f+r:=by rw[Int.add_mul];omega
 have l2:w*f+r<=(max a 0+max (-b) 0)*w:=by rw[Int.add_mul];omega
 generalize max a 0+max (-b) 0=h,min a 0+min (-b) 0=l at *;constructor
 .by_cases c:l<=f
  .exact c
  .have:=ng (show f<=l-1 by omega) (gw w0)
   have e:w*(l-1)=l*w-w:=by grind
   omega
 .by_cases c:f<=h-1
  .exact c
  .have:=ng (show h<=f by omega) (gw w0)
   have e:w*h=h*w:=cw _ _;omega
theorem V9(u1 u2 v1 v2 x y w s t:Int):D2 0 0 1 u1 u2 1 (x+s*w) (y+t*w) w=w*(u1*t-u2*s)+(u1*y-u2*x):=by
 unfold D2;grind
theorem U6(u1 u2 v1 v2 x y w s t:Int):D2 0 0 1 (x+s*w) (y+t*w) w v1 v2 1=w*(s*v2-t*v1)+(-v1*y- -v2*x):=by
 unfold D2;grind
theorem X4(u1 u2 v1 v2 x y w s t:Int):D2 (x+s*w) (y+t*w) w u1 u2 1 v1 v2 1=w*(u1*v2-u2*v1+(v1-u1)*t-(v2-u2)*s)+((v1-u1)*y-(v2-u2)*x):=by
 unfold D2;grind
theorem T7(a b c:Prop)[Decidable a][Decidable b][Decidable c]:iP [if a then 1 else-1,if b then 1 else-1,if c then 1 else-1] 1=if a/\b/\c then 1 else-1:=by
 by_cases ha:a<;>by_cases hb:b<;>by_cases hc:c<;>simp[iP,ha,hb,hc]
structure Tr(u1 u2 v1 v2:Int):Prop where
 h1:-2<=u1/\u1<=2
 h2:-2<=u2/\u2<=2
 h3:-2<=v1/\v1<=2
 h4:-2<=v2/\v2<=2
 hd:0<u1*v2-u2*v1
 h5:-2<=v1-u1/\v1-u1<=2
 h6:-2<=v2-u2/\v2-u2<=2
theorem Tr.ne{u1 u2 v1 v2:Int}(T:Tr u1 u2 v1 v2):(u1≠0\/u2≠0)/\(v1-u1≠0\/v2-u2≠0)/\(-v1≠0\/-v2≠0):=by
 have hd:=T.hd;refine⟨?_,?_,?_⟩
 .by_cases c:u1=0
  .by_cases c2:u2=0
   .rw[c,c2]at hd
    simp at hd
   .exact .inr c2
  .exact .inl c
 .by_cases c:v1-u1=0
  .by_cases c2:v2-u2=0
   .have e1:v1=u1:=by omega
    have e2:v2=u2:=by omega
    rw[e1,e2,cw]at hd;omega
   .exact .inr c2
  .exact .inl c
 .by_cases c:v1=0
  .by_cases c2:v2=0
   .rw[c,c2]at hd
    simp at hd
   .exact .inr (by omega)
  .exact .inl (by omega)
def nT(x y w u1 u2 v1 v2:Int):Nat:=cN u1 u2 v1 v2 (Fl x y w u1 u2) (Fl x y w (v1-u1) (v2-u2)) (Fl x y w (-v1) (-v2))
theorem G7{x y w:Int}(G:Gn x y w){u1 u2 v1 v2:Int}(T:Tr u1 u2 v1 v2)(s t:Int):bY [[0,0,1],[u1,u2,1],[v1,v2,1]] [x+s*w,y+t*w,w]=cI u1 u2 v1 v2 (Fl x y w u1 u2) (Fl x y w (v1-u1) (v2-u2)) (Fl x y w (-v1) (-v2)) [s,t]:=by
 obtain⟨n1,n2,n3⟩:=T.ne;have b1:=T.h1;have b2:=T.h2;have b3:=T.h3;have b4:=T.h4;have g1:=G.g u1 u2 b1.1 b1.2 b2.1 b2.2 n1;have g2:=G.g (v1-u1) (v2-u2) T.h5.1 T.h5.2 T.h6.1 T.h6.2 n2;have g3:=G.g (-v1) (-v2) (by omega) (by omega) (by omega) (by omega) n3;show iP [sg (D2 (x+s*w) (y+t*w) w u1 u2 1 v1 v2 1),sg (D2 0 0 1 (x+s*w) (y+t*w) w v1 v2 1),sg (D2 0 0 1 u1 u2 1 (x+s*w) (y+t*w) w)] 1=_;rw[X4,U6 u1 u2,V9 u1 u2 v1 v2,Oa G.w0 g2,Oa G.w0 g3,Oa G.w0 g1,T7];rfl
theorem aac(u1 u2 v1 v2 f1 f2 f3:Int)(t:AA):cI u1 u2 v1 v2 f1 f2 f3 t≠0:=by
 unfold cI;split<;>decide
theorem lC{x y w:Int}(G:Gn x y w){f:AA}{a1 a2 b1 b2 c1 c2:Int}(T:Tr (b1-a1) (b2-a2) (c1-a1) (c2-a2)):(∀z∈(Pc.mk f [a1,a2] [[b1,b2],[c1,c2]]).sp 2 [x,y] w,bY (Pc.mk f [a1,a2] [[b1,b2],[c1,c2]]).Y z≠0)/\(((Pc.mk f [a1,a2] [[b1,b2],[c1,c2]]).sp 2 [x,y] w).map λz=>bY (Pc.mk f [a1,a2] [[b1,b2],[c1,c2]]).Y z).count 1=nT x y w (b1-a1) (b2-a2) (c1-a1) (c2-a2):=by
 have eY:(Pc.mk f [a1,a2] [[b1,b2],[c1,c2]]).Y=[[0,0,1],[b1-a1,b2-a2,1],[c1-a1,c2-a2,1]]:=by
  simp[Pc.Y,Pc.ys,fD]
 have eR:(Pc.mk f [a1,a2] [[b1,b2],[c1,c2]]).rs 2=[cL (iH [0,b1-a1,c1-a1]) (iE [0,b1-a1,c1-a1]),cL (iH [0,b2-a2,c2-a2]) (iE [0,b2-a2,c2-a2])]:=by
  unfold Pc.rs;rw[eY];rfl
 rw[eY,An,eR];generalize c2-a2=v2,c1-a1=v1,b2-a2=u2,b1-a1=u1 at *;have e:∀t∈kP [cL (iH [0,u1,v1]) (iE [0,u1,v1]),cL (iH [0,u2,v2]) (iE [0,u2,v2])],bY [[0,0,1],[u1,u2,1],[v1,v2,1]] (Xo 2 ([x,y]++[w]) w t)=cI u1 u2 v1 v2 (Fl x y w u1 u2) (Fl x y w (v1-u1) (v2-u2)) (Fl x y w (-v1) (-v2)) t:=λt ht=>by
  obtain⟨h1,_⟩:=tO.mp ht;obtain⟨s,r,rfl⟩:∃s r,t=[s,r]:=by
   match t,h1 with
   |[s,r],_=>exact⟨_,_,rfl⟩
  exact G7 G T s r
 refine⟨λz hz=>?_,?_⟩
 .obtain⟨t,ht,rfl⟩:=cj.mp hz
  rw[e t ht];exact aac _ _ _ _ _ _ _ _
 .rw[cu]
  unfold nT cN;congr 1;exact il λt ht=>e t ht
theorem zI{x y w:Int}(G:Gn x y w){u1 u2 v1 v2:Int}(T:Tr u1 u2 v1 v2):((nT x y w u1 u2 v1 v2:Nat):Int)+(nT (w-x) (w-y) w u1 u2 v1 v2:Nat)=u1*v2-u2*v1/\nT x y w (v1-u1) (v2-u2) (-u1) (-u2)=nT x y w u1 u2 v1 v2/\nT x y w (-u1) (-u2) (-v1) (-v2)=nT (w-x) (w-y) w u1 u2 v1 v2:=by
 obtain⟨n1,n2,n3⟩:=T.ne;have b1:=T.h1;have b2:=T.h2;have b3:=T.h3;have b4:=T.h4;have m3:-2<=-v1/\-v1<=2:=by omega
 have m4:-2<=-v2/\-v2<=2:=by omega
 have hs:Fl x y w u1 u2+Fl x y w (v1-u1) (v2-u2)+Fl x y w (-v1) (-v2)=-1\/Fl x y w u1 u2+Fl x y w (v1-u1) (v2-u2)+Fl x y w (-v1) (-v2)=-2:=M8 G.w0 (G.g _ _ b1.1 b1.2 b2.1 b2.2 n1) (G.g _ _ T.h5.1 T.h5.2 T.h6.1 T.h6.2 n2) (G.g _ _ m3.1 m3.2 m4.1 m4.2 n3) (by grind);have c:=D5 b1 b2 b3 b4 T.hd T.h5 T.h6 (zK G b1 b2 n1) (zK G T.h5 T.h6 n2) (zK G m3 m4 n3) hs;unfold nT;rw[zB G b1 b2 n1,zB G T.h5 T.h6 n2,zB G m3 m4 n3];refine⟨c.1,?_,?_⟩
 .rw[<-c.2.1]
  have e1:-u1-(v1-u1)=-v1:=by omega
  have e2:-u2-(v2-u2)=-v2:=by omega
  rw[e1,e2,Int.neg_neg,Int.neg_neg]
 .rw[<-c.2.2,zF G b1 b2 n1]
  have e1:-v1- -u1=-(v1-u1):=by omega
  have e2:-v2- -u2=-(v2-u2):=by omega
  rw[e1,e2,zF G T.h5 T.h6 n2,zF G m3 m4 n3]
theorem Ta{α:Type}{b c b' c':α}(h:[b,c].Perm [b',c']):(b'=b/\c'=c)\/(b'=c/\c'=b):=by
 have hb:b'∈[b,c]:=h.mem_iff.mpr (by simp);have one:∀{p q:α},[p].Perm [q]->q=p:=λ{p q} k=>by
  have:q∈[p]:=k.mem_iff.mpr (by simp);simpa using this
 simp only[ci,ee,or_false]at hb;rcases hb with rfl |rfl
 .exact .inl ⟨rfl,one h.cons_inv⟩
 .exact .inr ⟨rfl,one ((tz _ _ _).trans h).cons_inv⟩
theorem Fm{α:Type}{a b c a' b' c':α}(h:[a,b,c].Perm [a',b',c']):(a'=a/\b'=b/\c'=c)\/(a'=a/\b'=c/\c'=b)\/(a'=b/\b'=a/\c'=c)\/(a'=b/\b'=c/\c'=a)\/(a'=c/\b'=a/\c'=b)\/(a'=c/\b'=b/\c'=a):=by
 have ha:a'∈[a,b,c]:=h.mem_iff.mpr (by simp);simp only[ci,ee,or_false]at ha;rcases ha with rfl |rfl |rfl
 .rcases Ta h.cons_inv with⟨h1,h2⟩|⟨h1,h2⟩
  .exact .inl ⟨rfl,h1,h2⟩
  .exact .inr (.inl ⟨rfl,h1,h2⟩)
 .rcases Ta ((tz _ _ _).trans h).cons_inv with⟨h1,h2⟩|⟨h1,h2⟩
  .exact .inr (.inr (.inl ⟨rfl,h1,h2⟩))
  .exact .inr (.inr (.inr (.inl ⟨rfl,h1,h2⟩)))
 .have k:[a',a,b].Perm [a,b,a']:=((tz _ _ _).trans ((tz _ _ _).cons _))
  rcases Ta (k.trans h).cons_inv with⟨h1,h2⟩|⟨h1,h2⟩
  .exact .inr (.inr (.inr (.inr (.inl ⟨rfl,h1,h2⟩))))
  .exact .inr (.inr (.inr (.inr (.inr ⟨rfl,h1,h2⟩))))
def eP(d:Pc)(x y w:Int):Nat:=((d.sp 2 [x,y] w).map λz=>bY d.Y z).count 1
theorem pG{d:Pc}(hd:Pg 2 d)(pD:0<dU (d.ys.map (·++[1]))):∃(f:AA)(a1 a2 b1 b2 c1 c2:Int),d=⟨f,[a1,a2],[[b1,b2],[c1,c2]]⟩/\Tr (b1-a1) (b2-a2) (c1-a1) (c2-a2)/\dU (d.ys.map (·++[1]))=(b1-a1)*(c2-a2)-(b2-a2)*(c1-a1):=by
 have l:=hd.len;have o:=hd.ok;obtain⟨f,a,r⟩:=d;have l:r.length=2:=by
  have l:(a::r).length=2+1:=l;simpa using l
 obtain⟨b,c,rfl⟩:∃b c,r=[b,c]:=by
  match r,l with
  |[b,c],_=>exact⟨_,_,rfl⟩
 have two:∀z∈[a,b,c],∃p q:Int,z=[p,q]/\(0<=p/\p<=2)/\(0<=q/\q<=2):=λz hz=>by
  have k:=o z hz
  match z,k.1,k.2 with
  |[p,q],_,k=>exact⟨p,q,rfl,k p (by simp),k q (by simp)⟩
 obtain⟨a1,a2,rfl,ha1,ha2⟩:=two a (by simp);obtain⟨b1,b2,rfl,hb1,hb2⟩:=two b (by simp);obtain⟨c1,c2,rfl,hc1,hc2⟩:=two c (by simp);have e:dU ((Pc.mk f [a1,a2] [[b1,b2],[c1,c2]]).ys.map (·++[1]))=(b1-a1)*(c2-a2)-(b2-a2)*(c1-a1):=by
  show D2 a1 a2 1 b1 b2 1 c1 c2 1=_;unfold D2;grind
 rw[e]at pD;exact⟨f,a1,a2,b1,b2,c1,c2,rfl,⟨by omega,by omega,by omega,by omega,pD,by omega,by omega⟩,e⟩
theorem J1{x y w:Int}(G:Gn x y w){d:Pc}(hd:Pg 2 d)(pD:0<dU (d.ys.map (·++[1]))):∀z∈d.sp 2 [x,y] w,bY d.Y z≠0:=by
 obtain⟨f,a1,a2,b1,b2,c1,c2,rfl,T,_⟩:=pG hd pD;exact(lC G T).1
theorem Ou{x y w:Int}(G:Gn x y w){d:Pc}(hd:Pg 2 d)(pD:0<dU (d.ys.map (·++[1]))):((eP d x y w:Nat):Int)+(eP d (w-x) (w-y) w:Nat)=dU (d.ys.map (·++[1])):=by
 obtain⟨f,a1,a2,b1,b2,c1,c2,rfl,T,e⟩:=pG hd pD;unfold eP;rw[e,(lC G T).2,(lC G.mate T).2];exact(zI G T).1
theorem Gj{x y w:Int}(G:Gn x y w){f f':AA}{a1 a2 b1 b2 c1 c2:Int}(T:Tr (b1-a1) (b2-a2) (c1-a1) (c2-a2))(T':Tr (c1-b1) (c2-b2) (a1-b1) (a2-b2)):eP ⟨f',[b1,b2],[[c1,c2],[a1,a2]]⟩ x y w=eP ⟨f,[a1,a2],[[b1,b2],[c1,c2]]⟩ x y w:=by
 have k:=(zI G T).2.1;unfold eP;rw[(lC G T).2,(lC G T').2,<-k];have e1:c1-a1-(b1-a1)=c1-b1:=by omega
 have e2:c2-a2-(b2-a2)=c2-b2:=by omega
 have e3:-(b1-a1)=a1-b1:=by omega
 have e4:-(b2-a2)=a2-b2:=by omega
 rw[e1,e2,e3,e4]
theorem Qg{x y w:Int}(G:Gn x y w){d d':Pc}(hd:Pg 2 d)(pD:0<dU (d.ys.map (·++[1])))(hd':Pg 2 d')(pD':0<dU (d'.ys.map (·++[1])))(hp:d.ys.Perm d'.ys):eP d' x y w=eP d x y w:=by
 obtain⟨f,a1,a2,b1,b2,c1,c2,rfl,T,_⟩:=pG hd pD;obtain⟨f',a1',a2',b1',b2',c1',c2',rfl,T',_⟩:=pG hd' pD';have hp:[[a1,a2],[b1,b2],[c1,c2]].Perm [[a1',a2'],[b1',b2'],[c1',c2']]:=hp;have t:=T.hd;have t':=T'.hd;have same:eP ⟨f',[a1,a2],[[b1,b2],[c1,c2]]⟩ x y w=eP ⟨f,[a1,a2],[[b1,b2],[c1,c2]]⟩ x y w:=by
  unfold eP;rw[(lC G T).2,(lC G T).2]
 rcases Fm hp with⟨h1,h2,h3⟩|⟨h1,h2,h3⟩|⟨h1,h2,h3⟩|⟨h1,h2,h3⟩|⟨h1,h2,h3⟩|⟨h1,h2,h3⟩<;>cases h1<;>cases h2<;>cases h3
 .exact same
 .exfalso
  have e:(c1-a1)*(b2-a2)-(c2-a2)*(b1-a1)=-((b1-a1)*(c2-a2)-(b2-a2)*(c1-a1)):=by grind
  omega
 .exfalso
  have e:(a1-b1)*(c2-b2)-(a2-b2)*(c1-b1)=-((b1-a1)*(c2-a2)-(b2-a2)*(c1-a1)):=by grind
  omega
 .exact Gj G T T'
 .exact(Gj G T' T).symm
 .exfalso
  have e:(b1-c1)*(a2-c2)-(b2-c2)*(a1-c1)=-((b1-a1)*(c2-a2)-(b2-a2)*(c1-a1)):=by grind
  omega
def iD(y:AA):AA:=y.map (2- ·)
theorem Bv{x y w:Int}(G:Gn x y w){d d':Pc}(hd:Pg 2 d)(pD:0<dU (d.ys.map (·++[1])))(hd':Pg 2 d')(pD':0<dU (d'.ys.map (·++[1])))(hp:d'.ys.Perm (d.ys.map iD)):eP d' x y w=eP d (w-x) (w-y) w:=by
 have Gf:=hd.f;have ok:=hd.ok;obtain⟨f,a1,a2,b1,b2,c1,c2,rfl,T,_⟩:=pG hd pD;have T2:Tr ((2-b1)-(2-a1)) ((2-b2)-(2-a2)) ((2-c1)-(2-a1)) ((2-c2)-(2-a2)):=by
  have h1:=T.h1;have h2:=T.h2;have h3:=T.h3;have h4:=T.h4;have h5:=T.h5;have h6:=T.h6;have hd:=T.hd;refine⟨by omega,by omega,by omega,by omega,?_,by omega,by omega⟩;have e:((2-b1)-(2-a1))*((2-c2)-(2-a2))-((2-b2)-(2-a2))*((2-c1)-(2-a1))=(b1-a1)*(c2-a2)-(b2-a2)*(c1-a1):=by grind
  omega
 have hp:d'.ys.Perm (Pc.mk f [2-a1,2-a2] [[2-b1,2-b2],[2-c1,2-c2]]).ys:=hp;have g2:Pg 2 (Pc.mk f [2-a1,2-a2] [[2-b1,2-b2],[2-c1,2-c2]]):=⟨Gf,rfl,λz hz=>hd'.ok z (hp.mem_iff.mpr hz)⟩;have p2:0<dU ((Pc.mk f [2-a1,2-a2] [[2-b1,2-b2],[2-c1,2-c2]]).ys.map (·++[1])):=by
  have e:dU ((Pc.mk f [2-a1,2-a2] [[2-b1,2-b2],[2-c1,2-c2]]).ys.map (·++[1]))=((2-b1)-(2-a1))*((2-c2)-(2-a2))-((2-b2)-(2-a2))*((2-c1)-(2-a1)):=by
   show D2 (2-a1) (2-a2) 1 (2-b1) (2-b2) 1 (2-c1) (2-c2) 1=_;unfold D2;grind
  rw[e];exact T2.hd
 rw[Qg G g2 p2 hd' pD' hp.symm];unfold eP;rw[(lC G T2).2,(lC G.mate T).2,<-(zI G T).2.2];have e1:2-b1-(2-a1)=-(b1-a1):=by omega
 have e2:2-b2-(2-a2)=-(b2-a2):=by omega
 have e3:2-c1-(2-a1)=-(c1-a1):=by omega
 have e4:2-c2-(2-a2)=-(c2-a2):=by omega
 rw[e1,e2,e3,e4]
theorem Lo{m:Int}(m0:0<m)(m1:m<=2000)(ns:AA)(R:aG):∃(v:Int)(ns':AA),dE [.ref 0,.pv (.int m)] (.lst (li ns)::R)=.ok (.pv (.int v)) (.lst (li ns')::R)/\0<=v/\v<m:=by
 obtain⟨t,n1,e1,t0,t1,_⟩:=iT (S:=.lst (li ns)::R) (m:=m) (show eT (.lst (li ns)::R) 0 ns from rfl) m0 ((Bd.of (k:=11) (n:=2000) (by omega) (by decide)).mono (by decide));exact⟨t,n1,e1,t0,t1⟩
theorem Ee{n k:Nat}(hn:n=2\/n=3){fs:List (Int×Int)}(hf:fs.length=n)(h:∀u∈fs,Sp u){th:AA}{v:Int}(R:Pq n k th v)(hk:k<=1000){zs:AA}{w:Int}(P:Pq n 60 zs w)(rel:∀j,j<n->th.getD j 0*(fA fs*w)=gF fs j*zs.getD j 0*v)(S:aG):jE [.pv (tv (th++[v])),.pv (.tup (fs.map fv))] S=.ok (.pv (tv (zs++[w]))) S:=by
 obtain⟨fz,rd⟩:=Lu hn P (by decide);have e:=xT hn R hk hf h (ab:=zs.map λx=>(pT w x,pB w x)) (by rw[ak,P.len]) (λu hu=>by
  refine⟨fz u hu,?_⟩;obtain⟨x,hx,rfl⟩:=cj.mp hu;exact(uU P.pos P.bw (P.bx x hx)).2.2.2.2) (λj hj=>by
  have hj2:j<zs.length:=by rw[P.len];exact hj
  have ea:(zs.map λx=>(pT w x,pB w x)).getD j (0,1)=(pT w (zs.getD j 0),pB w (zs.getD j 0)):=by
   rw[dm,di,dm,av hj2];rfl
  have bx:Bd 60 (zs.getD j 0):=by
   rw[dm,av hj2];exact P.bx _ (eh hj2)
  rw[ea];have c:=yC P.pos P.bw bx;have p:=Am hn hf 1 hj;have r:=rel j hj;have E0:=(qZ hn hf h).1;generalize fA fs=E,gF fs j=A,fs.getD j (0,1)=u,th.getD j 0=t,zs.getD j 0=x at *;show t*(pB w x*u.2)=pT w x*u.1*v;refine jn (fk (ao E0 P.pos)) ?_
  calc t*(pB w x*u.2)*(E*w)=(t*(E*w))*(pB w x*u.2):=by grind
   _=A*x*v*(pB w x*u.2):=by rw[r]
   _=(1*A*u.2)*(x*pB w x)*v:=by grind
   _=(1*E*u.1)*(pT w x*w)*v:=by rw[p,c]
   _=pT w x*u.1*v*(E*w):=by grind) S
 rw[rd]at e;exact e
theorem Bl{n k:Nat}{xs:AA}{w:Int}(P:Pq n k xs w):Pq n k (xs.map (-·)) w:=by
 refine⟨by rw[ak,P.len],P.pos,xJ P.pos P.low λd hd hy x hx=>?_,λy hy=>?_,P.bw⟩
 .have:=hy (-x) (cj.mpr ⟨x,hx,rfl⟩)
  simpa using Int.dvd_neg.mpr this
 .obtain⟨x,hx,rfl⟩:=cj.mp hy
  exact(P.bx x hx).neg
abbrev sD:MS:=(dQ (dB (aA 2) (aB (aC aF (aC aS (aC aF (mC (.int 1)) (aP dE [] (aB (aA 0) (aB (aC dW (aA 3) (mC (.int 1))) aD)))) (aC eE (aC aS (mC (.int 1009)) (mC (.int 1013))) (aA 3))) (aC aS (aC aS (aC dW (aP dE [] (aB (aA 0) (aB (mC (.int 9)) aD))) (mC (.int 4))) (mC (.int 1009))) (mC (.int 1013)))) aD)))
theorem Vj{p q:Int}(hp:2<=p/\p<=1019)(hq:0<=q/\q<=2000)(fd:eE (.int 1022117) (.int p)=some (.int q))(x1 x4:AJ)(ns:AA)(AL LL:AH)(hl:LL.length<=9):∃(t s:Int)(ns':AA),sD [some (.ref 0),x1,some (.ref 2),some (.pv (.int p)),x4] [.lst (li ns),.lst AL,.lst LL]=.nx [some (.ref 0),x1,some (.ref 2),some (.pv (.int p)),x4] [.lst (li ns'),.lst AL,.lst (LL++[.int ((1+t)*q+(s-4)*1009*1013)])]/\0<=t/\t<p-1/\0<=s/\s<9:=by
 obtain⟨t,n1,e1,t0,t1⟩:=Lo (m:=p-1) (by omega) (by omega) ns [.lst AL,.lst LL];obtain⟨s,n2,e2,s0,s1⟩:=Lo (m:=9) (by decide) (by decide) n1 [.lst AL,.lst LL];refine⟨t,s,n2,?_,t0,t1,s0,s1⟩;have m0:aS (.int 1009) (.int 1013)=some (.int 1022117):=dN (k:=11) (l:=11) (Bd.of (n:=2000) (by decide) (by decide)) (Bd.of (n:=2000) (by decide) (by decide));have m1:=dN (show Bd 11 (1+t) from Bd.of (n:=2000) (by omega) (by decide)) (show Bd 11 q from Bd.of (n:=2000) (by omega) (by decide));have m2:=dN (show Bd 11 (s-4) from Bd.of (n:=2000) (by omega) (by decide)) (show Bd 11 (1009:Int) from Bd.of (n:=2000) (by decide) (by decide));have m3:=dN (show Bd 22 ((s-4)*1009) from Bd.of (n:=10000) (by omega) (by decide)) (show Bd 11 (1013:Int) from Bd.of (n:=2000) (by decide) (by decide));have lz:LL.length<16777216:=by omega
 unfold sD;simp! [aE,aV,aW,aO,aK,aN,aL,aM,aF,aJ,e1,e2,fd,m0,m1,m2,m3,dB,eW,gU,lz]
theorem K4{a b A B K:Int}(a1:-2<=a)(a2:a<=2)(b1:-2<=b)(b2:b<=2)(ne:a≠0\/b≠0)(hA:1<=A/\A<=1008)(hB:1<=B/\B<=1012)(e:a*B*1009-b*A*1013=K*1022117):False:=by
 have ca:a=-2\/a=-1\/a=0\/a=1\/a=2:=by omega
 have cb:b=-2\/b=-1\/b=0\/b=1\/b=2:=by omega
 rcases ca with rfl |rfl |rfl |rfl |rfl<;>rcases cb with rfl |rfl |rfl |rfl |rfl<;>omega
theorem C5{fs:List (Int×Int)}(hf:fs.length=2)(h:∀u∈fs,Sp u)(ns:AA)(AL:AH):∃(th:AA)(v x y w:Int)(ns':AA),pK [.ref 0,.pv (.lst (fs.map fv))] [.lst (li ns),.lst AL]=.ok (.pv (tv (th++[v]))) [.lst (li ns'),.lst AL]/\Pq 2 220 th v/\Pq 2 60 [x,y] w/\(∀j,j<2->th.getD j 0*(fA fs*w)=gF fs j*[x,y].getD j 0*v)/\∀a b:Int,-2<=a->a<=2->-2<=b->b<=2->(a≠0\/b≠0)->¬w∣a*y-b*x:=by
 have d1:eE (.int 1022117) (.int 1009)=some (.int 1013):=jI (i:=1022117) (j:=1009) ⟨by decide,jV (by decide) (by decide)⟩;have d2:eE (.int 1022117) (.int 1013)=some (.int 1009):=jI (i:=1022117) (j:=1013) ⟨by decide,jV (by decide) (by decide)⟩;obtain⟨t1,s1,n1,e1,a1,a2,a3,a4⟩:=Vj (by decide) (by decide) d1 (some (.pv (.lst (fs.map fv)))) none ns AL [] (by decide);obtain⟨t2,s2,n2,e2,c1,c2,c3,c4⟩:=Vj (by decide) (by decide) d2 (some (.pv (.lst (fs.map fv)))) none n1 AL ([]++[.int ((1+t1)*1013+(s1-4)*1009*1013)]) (by simp);obtain⟨L1,hL1⟩:∃L,L=(1+t1)*1013+(s1-4)*1009*1013:=⟨_,rfl⟩;obtain⟨L2,hL2⟩:∃L,L=(1+t2)*1009+(s2-4)*1009*1013:=⟨_,rfl⟩;rw[<-hL1]at e1 e2;rw[<-hL2]at e2;simp only[jh,kr]at e1 e2;have b1:Bd 60 L1:=(Bd.of (k:=30) (n:=100000000) (by omega) (by decide)).mono (by decide);have b2:Bd 60 L2:=(Bd.of (k:=30) (n:=100000000) (by omega) (by decide)).mono (by decide);have bL:∀z∈[L1,L2],Bd 60 z:=λz hz=>by
  simp only[ci,ee,or_false]at hz;rcases hz with rfl |rfl
  .exact b1
  .exact b2
 obtain⟨e3,⟨ss,s,es,Q⟩,af⟩:=Cm (k:=60) (by decide) (.inl rfl) [.lst (li n2),.lst AL,.lst [.int L1,.int L2]] hf h (xs:=[L1,L2]) rfl bL (V:=.ref 2) (.inr (.inr ⟨2,rfl,rfl⟩));rw[es]at af e3;have ka:=zO af;have b9:Bd 11 (1009:Int):=Bd.of (n:=2000) (by decide) (by decide);have b3:Bd 11 (1013:Int):=Bd.of (n:=2000) (by decide) (by decide);have bU:Bd 60 (1022117:Int):=(Bd.of (k:=30) (n:=100000000) (by decide) (by decide)).mono (by decide);have m1:=dN Q.bw b9;have m2:=dN (Q.bw.mul b9) b3;have bw:=((Q.bw.mul b9).mul b3).mono (show 60+97+11+11<=220 by decide);have bss:∀z∈ss,Bd 220 z:=λz hz=>(Q.bx z hz).mono (by decide);have pU:0<s*1009*1013:=ao (ao Q.pos (by decide)) (by decide);obtain⟨th,v,el,R,rel⟩:=nK pU Q.len bss bw;obtain⟨xs,w,_,P,rex⟩:=nK (n:=2) (L:=[L1,L2]) (b:=1022117) (by decide) rfl bL bU;obtain⟨x,y,rfl⟩:∃x y,xs=[x,y]:=by
  match xs,P.len with
  |[x,y],_=>exact⟨_,_,rfl⟩
 refine⟨th,v,x,y,w,n2,?_,R,P,λj hj=>?_,λa b ha1 ha2 hb1 hb2 ne hw=>?_⟩
 .have e4:=Ur (ss++[s*1009*1013]) [.lst (li n2),.lst AL,.lst [.int L1,.int L2]] (λz hz=>by
   rcases cv.mp hz with q |q
   .exact(bss z q).mono (by decide)
   .rw[oz.mp q]
    exact bw.mono (by decide))
  rw[el,gi]at e4;have sl:iF (.tup ((ss++[s]).map .int)) none (some 2)=some (.tup (ss.map .int))/\aE (.tup ((ss++[s]).map .int)) (.int 2)=some (.int s)/\¬ss.map PV.int=[]/\(ss.map PV.int).length<=16777215:=by
   match ss,Q.len with
   |[p,q],_=>exact⟨rfl,lV (j:=2) rfl,by simp⟩
  obtain⟨s2',i2,z1,z2⟩:=sl;have hb:yL=(aI (aT 2 (eI aD)) (aI (bK (bD (mN fM (aB (mC (.int 1009)) (aB (mC (.int 1013)) aD)))) (gN 3) sD) (aI (aT 4 (aP kL [] (aB (aA 2) (aB (aA 1) aD)))) (bF (aP jF [] (aB (aC aF (dC (aA 4) cO (dD (mC (.int 2)))) (mN fM (aB (aC aS (aC aS (aC aE (aA 4) (mC (.int 2))) (mC (.int 1009))) (mC (.int 1013))) aD))) aD)))))):=rfl;have lp:cJ [] (gN 3) sD [.int 1009,.int 1013] [some (.ref 0),some (.pv (.lst (fs.map fv))),some (.ref 2),none,none] [.lst (li ns),.lst AL,.lst []]=.nx [some (.ref 0),some (.pv (.lst (fs.map fv))),some (.ref 2),some (.pv (.int 1013)),none] [.lst (li n2),.lst AL,.lst [.int L1,.int L2]]:=by
   rw[dY];simp only[gN,dr,da];rw[e1];dsimp only;rw[dY];simp only[gN,dr,da];rw[e2];exact fE
  have tvz:∀l:AA,tv l=.tup (l.map .int):=λ_=>rfl;rw[tvz]at e3⊢;clear ka af es rel rex bss bw e1 e2;generalize fs.map fv=FL,ss.map PV.int=S2,(ss++[s]).map PV.int=SS,(th++[v]).map PV.int=TH at *;simp only[az,cq]at e4;unfold pK;rw[hb];generalize sD=OB at *;apply La (v:=.pv (.tup TH)) (S':=[.lst (li n2),.lst AL,.lst [.int L1,.int L2]]) rfl
  .apply sq;simp! [aE,aV,aW,aO,aK,aN,aL,aM,aF,aJ,gO,eI,jP];exact⟨rfl,rfl⟩
   refine sq (ρ':=[some (.ref 0),some (.pv (.lst FL)),some (.ref 2),some (.pv (.int 1013)),none]) (S':=[.lst (li n2),.lst AL,.lst [.int L1,.int L2]]) ?_ ?_
   .simp! [aE,aV,aW,aO,aK,aN,aL,aM,aF,aJ,bK,bD,bS,lp]
   apply sq;simp! [aE,aV,aW,aO,aK,aN,aL,aM,aF,aJ,e3];exact⟨rfl,rfl⟩;simp! [bJ,aK,aN,aL,aM,aF,aJ,dC,cO,dD,fN,s2',i2,m1,m2,z1,z2,e4]
  .simp[kC]
 .have r1:=rel j hj
  have r2:=ka j hj;have r3:=rex j hj;generalize fA fs=E,gF fs j=A,[L1,L2].getD j 0=L,[x,y].getD j 0=X,ss.getD j 0=q,th.getD j 0=t at *;refine jn (fk pU) ?_
  calc t*(E*w)*(s*1009*1013)=(t*(s*1009*1013))*(E*w):=by grind
   _=q*v*(E*w):=by rw[r1]
   _=(q*(E*1))*(v*w):=by grind
   _=(A*L+0*1)*s*(v*w):=by rw[r2]
   _=A*(L*w)*(s*v):=by grind
   _=A*(X*1022117)*(s*v):=by rw[r3]
   _=A*X*v*(s*1009*1013):=by grind
 .obtain⟨K,hK⟩:=hw
  have r0:x*1022117=L1*w:=rex 0 (by decide);have r1:y*1022117=L2*w:=rex 1 (by decide);have w0:=P.pos;have e:a*L2-b*L1=K*1022117:=by
   refine jn (fk w0) ?_
   calc (a*L2-b*L1)*w=a*(L2*w)-b*(L1*w):=by grind
    _=a*(y*1022117)-b*(x*1022117):=by rw[r0,r1]
    _=(a*y-b*x)*1022117:=by grind
    _=w*K*1022117:=by rw[hK]
    _=K*1022117*w:=by grind
  refine K4 (A:=1+t1) (B:=1+t2) (K:=K-a*(s2-4)+b*(s1-4)) ha1 ha2 hb1 hb2 ne (by omega) (by omega) ?_;rw[hL1,hL2]at e;grind
theorem A6{m μ γ l lm g φ E A y f q κ t τ f2 φ2 r ρ:Int}(hγ:0<γ)(hl:0<lm)(hφ:0<φ)(hE:0<E)(hκ:0<κ)(hτ:0<τ)(h2:0<φ2)(e1:m*(γ*lm)=(-1*γ*l+g*lm)*μ)(e2:l*(φ*E*1)=(φ*A*y+f*E*1)*lm)(e4:q*(γ*φ)=(-1*γ*f+g*φ)*κ)(e5:t*(E*1)=(A*2+0*1)*τ)(e6:f2*(κ*τ)=(-1*κ*t+q*τ)*φ2)(e3:r*(φ2*E*1)=(φ2*A*(2-y)+f2*E*1)*ρ):m*ρ=r*μ:=by
 have a:m*(γ*φ*E)=(-1*γ*(φ*A*y+f*E)+g*φ*E)*μ:=by
  refine jn (fk hl) ?_
  calc m*(γ*φ*E)*lm=(m*(γ*lm))*(φ*E):=by grind
   _=(-1*γ*l+g*lm)*μ*(φ*E):=by rw[e1]
   _=(-1*γ*(l*(φ*E*1))+g*lm*(φ*E))*μ:=by grind
   _=(-1*γ*((φ*A*y+f*E*1)*lm)+g*lm*(φ*E))*μ:=by rw[e2]
   _=_:=by grind
 have b:f2*(γ*φ*E)=(-2*A*γ*φ+(-1*γ*f+g*φ)*E)*φ2:=by
  refine jn (fk (ao hκ hτ)) ?_
  calc f2*(γ*φ*E)*(κ*τ)=(f2*(κ*τ))*(γ*φ*E):=by grind
   _=(-1*κ*t+q*τ)*φ2*(γ*φ*E):=by rw[e6]
   _=(-1*κ*(t*(E*1))*(γ*φ)+(q*(γ*φ))*τ*E)*φ2:=by grind
   _=(-1*κ*((A*2+0*1)*τ)*(γ*φ)+((-1*γ*f+g*φ)*κ)*τ*E)*φ2:=by rw[e5,e4]
   _=_:=by grind
 have c:r*(γ*φ*E)=(-1*γ*(φ*A*y+f*E)+g*φ*E)*ρ:=by
  refine jn (fk h2) ?_
  calc r*(γ*φ*E)*φ2=(r*(φ2*E*1))*(γ*φ):=by grind
   _=(φ2*A*(2-y)+f2*E*1)*ρ*(γ*φ):=by rw[e3]
   _=(φ2*A*(2-y)*(γ*φ)+f2*(γ*φ*E))*ρ:=by grind
   _=(φ2*A*(2-y)*(γ*φ)+(-2*A*γ*φ+(-1*γ*f+g*φ)*E)*φ2)*ρ:=by rw[b]
   _=_:=by grind
 refine jn (fk (ao (ao hγ hφ) hE)) ?_
 calc m*ρ*(γ*φ*E)=(m*(γ*φ*E))*ρ:=by grind
  _=(-1*γ*(φ*A*y+f*E)+g*φ*E)*μ*ρ:=by rw[a]
  _=((-1*γ*(φ*A*y+f*E)+g*φ*E)*ρ)*μ:=by grind
  _=r*(γ*φ*E)*μ:=by rw[c]
  _=_:=by grind
theorem pF{n:Nat}{A C:Nat->Int}{E w v:Int}{xs zs:AA}(h:fZ n A C E (xs++[w]) (zs++[v])):∀j,j<n->zs.getD j 0*(E*w)=(A j*xs.getD j 0+C j*w)*v:=by
 obtain⟨a,b,c,d,e1,e2,_,_,_,_,k⟩:=h;obtain⟨q1,q2⟩:=oy e1 rfl;obtain⟨q3,q4⟩:=oy e2 rfl;have q2:w=b:=by simpa using q2
 have q4:v=d:=by simpa using q4
 subst q1 q2 q3 q4;exact k
theorem aai{k l:Nat}{as bs:AA}{a b:Int}(P:Pq 2 k as a)(Q:Pq 2 l bs b)(h:∀j,j<2->as.getD j 0*b=bs.getD j 0*a):as++[a]=bs++[b]:=by
 have a0:=P.pos;have b0:=Q.pos;have hl:low (as++[a])=low (bs++[b]):=by
  refine xW (k:=b) (m:=a) b0 a0 (mI (n:=a) (by simp) (by omega)) ?_
  match as,P.len,bs,Q.len,h with
  |[x,y],_,[z,t],_,h=>
   have k0:x*b=z*a:=h 0 (by decide);have k1:y*b=t*a:=h 1 (by decide);simp only[kr,jh,az,cq,j9,and_true];refine⟨?_,?_,?_⟩<;>grind
 rw[P.low,Q.low]at hl;exact hl
theorem Kw{fs:List (Int×Int)}(hf:fs.length=2)(h:∀u∈fs,Sp u){f g:AA}(Gf:Gu 2 100 f)(Gg:Gu 2 100 g):Gu 2 310 (cV (-1) (cV (-1) g f) (dF fs [2,2]))/\∀y:AA,y.length=2->(∀x∈y,0<=x/\x<=2)->cV (-1) g (cY fs f y)=cY fs (cV (-1) (cV (-1) g f) (dF fs [2,2])) (iD y):=by
 obtain⟨gq,aq⟩:=jN (way:=-1) (.inr rfl) Gf Gg;obtain⟨_,gt,at_⟩:=rC (.inl rfl) [] hf h (xs:=[2,2]) rfl (by decide);obtain⟨g2,a2⟩:=jN (way:=-1) (.inr rfl) gt gq;have G2:=g2.mono (show 100+(100+100+1)+1<=310 by decide);refine⟨G2,λy ly hy=>?_⟩;have lr:(iD y).length=2:=by unfold iD;rw[ak,ly]
 have br:∀x∈iD y,-8<x/\x<8:=λx hx=>by
  unfold iD at hx;obtain⟨z,hz,rfl⟩:=cj.mp hx;have:=hy z hz;omega
 obtain⟨g1,a1⟩:=rA (.inl rfl) hf h (Gf.mono (by decide)) ly λx hx=>by have:=hy x hx;omega
 obtain⟨g3,a3⟩:=rA (.inl rfl) hf h G2 lr br;obtain⟨gm,am⟩:=jN (way:=-1) (.inr rfl) g1 Gg;unfold cY;generalize dF fs [2,2]=t,cV (-1) g f=q,cV (-1) (cV (-1) g f) (dF fs [2,2])=f2,cV 1 (cV (-1) (cV (-1) g f) (dF fs [2,2])) (dF fs (iD y))=Rx,cV 1 f (dF fs y)=Lx,cV (-1) g (cV 1 f (dF fs y))=M at *;obtain⟨ms,m,rfl,Pm⟩:=gm;obtain⟨ls,l,rfl,Pl⟩:=g1;obtain⟨rs,r,rfl,Pr⟩:=g3;obtain⟨f2s,φ2,rfl,P2⟩:=G2;obtain⟨qs,κ,rfl,Pqq⟩:=gq;obtain⟨ts,τ,rfl,Pt⟩:=gt;obtain⟨ff,φ,rfl,Pf⟩:=Gf;obtain⟨gg,γ,rfl,Pgg⟩:=Gg;have ld:∀(xs:AA)(w:Int),(xs++[w]).getLastD 0=w:=λxs w=>by simp
 have gd:∀{xs:AA}{w:Int},xs.length=2->∀j,j<2->(xs++[w]).getD j 0=xs.getD j 0:=λ{xs w} hx j hj=>by
  rw[dm,du (by omega),<-dm]
 have em:=pF am;have el:=pF a1;have eq:=pF aq;have et:=pF at_;have e2:=pF a2;have er:=pF a3;refine aai Pm Pr λj hj=>?_;have em:=em j hj;have el:=el j hj;have eq:=eq j hj;have et:=et j hj;have e2:=e2 j hj;have er:=er j hj;have ry:(iD y).getD j 0=2-y.getD j 0:=by
  unfold iD;rw[dm,di,dm,av (show j<y.length by omega)];rfl
 have c2:([2,2]:AA).getD j 0=2:=by
  match j,hj with
  |0,_=>rfl
  |1,_=>rfl
 rw[ry]at er;rw[c2]at et;simp only[ld,gd Pgg.len j hj,gd Pf.len j hj,gd P2.len j hj,gd Pqq.len j hj]at em el eq et e2 er;exact A6 Pgg.pos Pl.pos Pf.pos (qZ (.inl rfl) hf h).1 Pqq.pos Pt.pos P2.pos em el eq et e2 er
theorem Tz{fs:List (Int×Int)}(hf:fs.length=2)(h:∀u∈fs,Sp u){p:Pc×AB}(hp:Pl 2 fs p){g:AA}(Gg:Gu 2 100 g)(S:aG):∃d:Pc,pI [.pv (p.1.pv fs),.pv (.int (-1)),.pv (tv g)] S=.ok (.pv (d.pv fs)) S/\Pg 2 d/\0<dU (d.ys.map (·++[1]))/\d.ys.Perm (p.1.ys.map iD):=by
 have e:=Hy (.inl rfl) (way:=-1) S (.inr rfl) hp.sx Gg (by decide);have nz:=Om (.inl rfl) (way:=-1) (.inr rfl) hp.sx.len hp.sx.gu Gg hp.sx.nz;have gu:=rM (way:=-1) (.inr rfl) hp.sx.gu Gg;have ll:((p.1.ys.map (cY fs p.1.f)).map (cV (-1) g)).length=2+1:=by rw[ak];exact hp.sx.len
 have cp:=tJ (rQ (.inl rfl) ll);have cd:=zY (.inl rfl) (k:=201+100+1) (by decide) ll gu;obtain⟨G2,tn⟩:=Kw hf h hp.gf Gg;unfold Wb at e;generalize cV (-1) (cV (-1) g p.1.f) (dF fs [2,2])=f2 at *;have eL:(p.1.ys.map (cY fs p.1.f)).map (cV (-1) g)=(p.1.ys.map iD).map (cY fs f2):=by
  rw[cu,cu];exact il λy hy=>tn y (hp.g.ok y hy).1 (hp.g.ok y hy).2
 rw[eL]at cp cd nz e;obtain⟨zs,pz,ez⟩:=yA (cY fs f2) cp;have lz:zs.length=2+1:=by rw[pz.length_eq,ak];exact hp.g.len
 obtain⟨a,r,rfl⟩:∃a r,zs=a::r:=by
  match zs,lz with
  |a::r,_=>exact⟨a,r,rfl⟩
 have ok:∀y∈a::r,y.length=2/\∀x∈y,0<=x/\x<=2:=λy hy=>by
  obtain⟨z,hz,rfl⟩:=cj.mp (pz.mem_iff.mp hy);have k:=hp.g.ok z hz;refine⟨by unfold iD;rw[ak];exact k.1,λx hx=>?_⟩;unfold iD at hx;obtain⟨t,ht,rfl⟩:=cj.mp hx;have:=k.2 t ht;omega
 have pos:0<dU ((a::r).map (cY fs f2)):=by rw[<-ez,cd];omega
 refine⟨⟨f2,a,r⟩,?_,⟨G2,lz,ok⟩,Ni (.inl rfl) hf h G2 lz ok pos,pz⟩;have ep:(Pc.mk f2 a r).pv fs=px (gK ((p.1.ys.map iD).map (cY fs f2))):=by rw[ez];rfl
 rw[ep];exact e
abbrev qH:MS:=(dQ (dB (aA 6) (aB (aP pI [] (aB (aA 7) (aB (bH bQ (mC (.int 1))) (aB (aP jL [] (aB (aA 1) (aB (mC (.int 2)) aD))) aD)))) aD)))
abbrev ra(x0 x2 x3 x4 x5 x7:AJ):bR:=[x0,some (.ref 0),x2,x3,x4,x5,some (.ref 1),x7,none,none,none,none,none,none,none]
structure Tn(q:(Pc×AB)×Pc):Prop where
 g:Pg 2 q.2
 ps:0<dU (q.2.ys.map (·++[1]))
 pm:q.2.ys.Perm (q.1.1.ys.map iD)
theorem Xi{fs:List (Int×Int)}(hf:fs.length=2)(h:∀u∈fs,Sp u)(x0 x2 x3 x4 x5:AJ):∀(ps:List (Pc×AB))(GL:AH)(ns:AA)(x7:AJ),(∀p∈ps,Pl 2 fs p)->GL.length+ps.length<=99->∃(qs:List ((Pc×AB)×Pc))(ns':AA)(y7:AJ),cJ [] (gN 7) qH (ps.map λp=>p.1.pv fs) (ra x0 x2 x3 x4 x5 x7) [.lst (li ns),.lst GL]=.nx (ra x0 x2 x3 x4 x5 y7) [.lst (li ns'),.lst (GL++qs.map λq=>q.2.pv fs)]/\qs.map (·.1)=ps/\∀q∈qs,Tn q
 |[],GL,ns,x7,_,_=>⟨[],ns,x7,by rw[cq,cq,jl];exact fE,rfl,λ_ h=>absurd h ee⟩
 |p::ps,GL,ns,x7,hp,hl=>by
  have hl:GL.length+(ps.length+1)<=99:=hl;obtain⟨v,n1,e1,G⟩:=Io 2 (.inl rfl) (show eT [.lst (li ns),.lst GL] 0 ns from rfl);have e1:jL [.ref 0,.pv (.int 2)] [.lst (li ns),.lst GL]=.ok (.pv v) [.lst (li n1),.lst GL]:=e1;obtain⟨gs,γ,rfl,P⟩:=G;have Gg:Gu 2 100 (gs++[γ]):=⟨gs,γ,rfl,P⟩;obtain⟨d,e2,g2,p2,m2⟩:=Tz hf h (hp p (by simp)) Gg [.lst (li n1),.lst GL];obtain⟨qs,n2,y7,e3,q3,t3⟩:=Xi hf h x0 x2 x3 x4 x5 ps (GL++[d.pv fs]) n1 (some (.pv (p.1.pv fs))) (λy hy=>hp y (bh _ hy)) (by rw[bn,ju];omega);refine⟨(p,d)::qs,n2,y7,?_,by rw[az,q3],λq hq=>?_⟩
  .rw[ko]at e3
   have e1:jL [.ref 0,.pv (.int 2)] [.lst (li ns),.lst GL]=.ok (.pv (tv (gs++[γ]))) [.lst (li n1),.lst GL]:=e1;have st:qH (ra x0 x2 x3 x4 x5 (some (.pv (p.1.pv fs)))) [.lst (li ns),.lst GL]=.nx (ra x0 x2 x3 x4 x5 (some (.pv (p.1.pv fs)))) [.lst (li n1),.lst (GL++[d.pv fs])]:=by
    have lz:GL.length<16777216:=by omega
    generalize tv (gs++[γ])=TG,d.pv fs=PD,p.1.pv fs=PP at *;unfold qH ra;simp! [aE,aV,aW,aO,aK,aN,aL,aM,aF,aJ,e1,e2,dB,eW,gU,lz]
   rw[az,dY];simp only[gN,ra,dr,da];unfold ra at st e3;rw[st];exact e3
  .rcases ci.mp hq with rfl |hq
   .exact⟨g2,p2,m2⟩
   .exact t3 q hq
theorem M7{S:aG}{a b c d e f:Int}(ha:0<=a/\a<=2)(hb:0<=b/\b<=2)(hc:0<=c/\c<=2)(hd:0<=d/\d<=2)(he:0<=e/\e<=2)(hf:0<=f/\f<=2):jD [.pv (bX [[a,b],[c,d],[e,f]])] S=.ok (.pv (.int (D2 a b 1 c d 1 e f 1))) S:=by
 have id:(c-a)*(f-b)-(d-b)*(e-a)=D2 a b 1 c d 1 e f 1:=by
  unfold D2;grind
 have b1:Bd 10 (c-a):=lE (by omega) (by omega);have b2:Bd 10 (d-b):=lE (by omega) (by omega);have b3:Bd 10 (e-a):=lE (by omega) (by omega);have b4:Bd 10 (f-b):=lE (by omega) (by omega);have m1:=dN b1 b4;have m2:=dN b2 b3;generalize D2 a b 1 c d 1 e f 1=D at *;have s1:=nP (lv [a,b]) [lv [c,d],lv [e,f]];have et:iU [.pv (.lst [.lst [.int (c-a),.int (d-b)],.lst [.int (e-a),.int (f-b)]])] S=.ok (.pv (.int D)) S:=by
  unfold iU aR nC;simp! [aE,aV,aW,aO,aK,aN,aL,aM,aF,aJ,m1,m2,id]
 have hv:bX [[a,b],[c,d],[e,f]]=.lst [lv [a,b],lv [c,d],lv [e,f]]:=rfl;rw[hv];unfold jD aR qM;simp only[lv,li,az,cq]at s1⊢;simp! [aE,aV,aW,aO,aK,aN,aL,aM,aF,aJ,bB,bD,bS,dC,cO,dD,fN,s1,cD,dS,dP,gN,gT,cQ,eJ,fG,gI,eN,et]
def gL(xss:AB):Int:=((dU (xss.map (·++[1]))).natAbs:Int)
theorem Sj{fs:List (Int×Int)}{p:Pc×AB}(hp:Pl 2 fs p):(∃a b c d e f:Int,p.2=[[a,b],[c,d],[e,f]]/\(0<=a/\a<=2)/\(0<=b/\b<=2)/\(0<=c/\c<=2)/\(0<=d/\d<=2)/\(0<=e/\e<=2)/\(0<=f/\f<=2))/\gL p.2=dU (p.1.ys.map (·++[1])):=by
 have l2:p.2.length=3:=by rw[<-hp.pm.length_eq];exact hp.g.len
 have ok:∀y∈p.2,y.length=2/\∀x∈y,0<=x/\x<=2:=λy hy=>hp.g.ok y (hp.pm.mem_iff.mpr hy);have pD:=hp.ps;have hm:=hp.pm;obtain⟨f,a1,a2,b1,b2,c1,c2,e,T,eD⟩:=pG hp.g hp.ps;rw[eD]at pD⊢;rw[e]at hm;have hm:[[a1,a2],[b1,b2],[c1,c2]].Perm p.2:=hm;generalize p.2=xss at *;obtain⟨A,B,C,rfl⟩:∃A B C,xss=[A,B,C]:=by
  match xss,l2 with
  |[A,B,C],_=>exact⟨_,_,_,rfl⟩
 have two:∀z∈[A,B,C],∃p q:Int,z=[p,q]/\(0<=p/\p<=2)/\(0<=q/\q<=2):=λz hz=>by
  have k:=ok z hz
  match z,k.1,k.2 with
  |[p,q],_,k=>exact⟨p,q,rfl,k p (by simp),k q (by simp)⟩
 obtain⟨p1,p2,rfl,h1,h2⟩:=two A (by simp);obtain⟨p3,p4,rfl,h3,h4⟩:=two B (by simp);obtain⟨p5,p6,rfl,h5,h6⟩:=two C (by simp);refine⟨⟨p1,p2,p3,p4,p5,p6,rfl,h1,h2,h3,h4,h5,h6⟩,?_⟩;have fin:∀{u v:Int},0<v->(u=v\/u=-v)->((u.natAbs:Nat):Int)=v:=λh k=>by omega
 refine fin pD ?_;show D2 p1 p2 1 p3 p4 1 p5 p6 1=_\/D2 p1 p2 1 p3 p4 1 p5 p6 1=_;unfold D2;rcases Fm hm with⟨k1,k2,k3⟩|⟨k1,k2,k3⟩|⟨k1,k2,k3⟩|⟨k1,k2,k3⟩|⟨k1,k2,k3⟩|⟨k1,k2,k3⟩<;>cases k1<;>cases k2<;>cases k3
 .left;grind
 .right;grind
 .right;grind
 .left;grind
 .left;grind
 .right;grind
theorem B0{fs:List (Int×Int)}{ps:List (Pc×AB)}(hp:∀p∈ps,Pl 2 fs p)(S:aG):qK [.pv (.lst ((ps.map (·.2)).map bX))] S=.ok (.pv (.int (ps.map λp=>gL p.2).sum)) S:=by
 have ec:bZ [] (gN 0) (mR kR (aB (aP jD [] (aB (aA 0) aD)) aD)) (ps.map λp=>bX p.2) [none] S=.ok (ps.map λp=>.int (gL p.2)) S:=by
  refine jX (gY S) (λp=>bX p.2) (λp=>.int (gL p.2)) ps none λp hpp=>?_;obtain⟨⟨a,b,c,d,e,f,e2,h1,h2,h3,h4,h5,h6⟩,_⟩:=Sj (hp p hpp);have r:=M7 (S:=S) h1 h2 h3 h4 h5 h6;have es:gL p.2=((D2 a b 1 c d 1 e f 1).natAbs:Int):=by rw[e2];rfl
  rw[es,e2];generalize D2 a b 1 c d 1 e f 1=Z,bX [[a,b],[c,d],[e,f]]=R at *;simp! [bJ,aK,aN,aL,aM,aF,aJ,r,kR];split<;>omega
 have em:(ps.map (·.2)).map bX=ps.map λp=>bX p.2:=by rw[cu];rfl
 have en:(ps.map λp=>PV.int (gL p.2))=(ps.map λp=>gL p.2).map .int:=by rw[cu];rfl
 have es:=xG (ps.map λp=>gL p.2);rw[en]at ec;rw[em];generalize (ps.map λp=>gL p.2).sum=Z,(ps.map λp=>bX p.2)=M,(ps.map λp=>gL p.2).map PV.int=L at *;unfold qK aR wK;simp! [bJ,aK,aN,aL,aM,aF,aJ,bB,cD,bD,bS,ec,es]
theorem Uj{fs:List (Int×Int)}{x y w:Int}(G:Gn x y w):∀ps:List (Pc×AB),(∀p∈ps,Pl 2 fs p)->(((ps.map λp=>eP p.1 x y w).sum:Nat):Int)+((ps.map λp=>eP p.1 (w-x) (w-y) w).sum:Nat)=(ps.map λp=>gL p.2).sum
 |[],_=>rfl
 |p::ps,h=>by
  have ih:=Uj G ps λq hq=>h q (bh _ hq);have hp:=h p (by simp);have k:=Ou G hp.g hp.ps;rw[<-(Sj hp).2]at k;simp only[az,my];omega
theorem Bg{fs:List (Int×Int)}{x y w:Int}(G:Gn x y w):∀(ps qs:List (Pc×AB)),(∀p∈ps,Pl 2 fs p)->(∀p∈qs,Pl 2 fs p)->qs.map (·.2)=ps.map (·.2)->(qs.map λp=>eP p.1 x y w)=ps.map λp=>eP p.1 x y w
 |[],[],_,_,_=>rfl
 |[],q::qs,_,_,e=>by cases e
 |p::ps,[],_,_,e=>by cases e
 |p::ps,q::qs,hp,hq,e=>by
  simp only[az,j9]at e;have h1:=hp p (by simp);have h2:=hq q (by simp);have k:=Qg G h1.g h1.ps h2.g h2.ps (h1.pm.trans (by rw[<-e.1];exact h2.pm.symm));rw[az,az,k,Bg G ps qs (λr hr=>hp r (bh _ hr)) (λr hr=>hq r (bh _ hr)) e.2]
theorem Xx(L:List Nat):L.reverse.sum=L.sum:=by
 induction L with
 |nil=>rfl
 |cons a L ih=>rw[List.reverse_cons,g9,ih,my,my,tq];omega
theorem Th{x w:Int}(w0:0<w)(h:¬w∣x):(-x).fmod w=w-x.fmod w:=by
 have f:=zP w0 h;have a:(-x).fmod w+w*(-x).fdiv w=-x:=ku _ w;have b:x.fmod w+w*x.fdiv w=x:=ku _ w;rw[f]at a;have e:w*(-1-x.fdiv w)=-w-w*x.fdiv w:=by grind
 omega
theorem R4{x y w:Int}(w0:0<w)(g:∀a b:Int,-2<=a->a<=2->-2<=b->b<=2->(a≠0\/b≠0)->¬w∣a*y-b*x):Gn (x.fmod w) (y.fmod w) w/\(-x).fmod w=w-x.fmod w/\(-y).fmod w=w-y.fmod w:=by
 have hx:x.fmod w+w*x.fdiv w=x:=ku _ w;have hy:y.fmod w+w*y.fdiv w=y:=ku _ w;have nx:¬w∣x:=λc=>g 0 1 (by decide) (by decide) (by decide) (by decide) (.inr (by decide)) (by simpa using c);have ny:¬w∣y:=λc=>g 1 0 (by decide) (by decide) (by decide) (by decide) (.inl (by decide)) (by simpa using c);have pos:∀{z:Int},¬w∣z->0<z.fmod w/\z.fmod w<w:=λ{z} h=>by
  have a:=qp z w0;have b:=tj z w0;have c:z.fmod w+w*z.fdiv w=z:=ku _ w;refine⟨?_,b⟩
  by_cases d:z.fmod w=0
  .exact absurd ⟨z.fdiv w,by omega⟩ h
  .omega
 refine⟨⟨w0,pos nx,pos ny,λa b a1 a2 b1 b2 ne c=>g a b a1 a2 b1 b2 ne ?_⟩,Th w0 nx,Th w0 ny⟩;have e:a*y-b*x=(a*y.fmod w-b*x.fmod w)+w*(a*y.fdiv w-b*x.fdiv w):=by
  conv=>lhs;rw[<-hx,<-hy]
  grind
 rw[e];exact Int.dvd_add c ⟨_,rfl⟩
theorem tT{fs:List (Int×Int)}(hf:fs.length=2)(h:∀u∈fs,Sp u){x y w x' y':Int}(P:Pq 2 60 [x,y] w)(ex:x.fmod w=x')(ey:y.fmod w=y')(G:Gn x' y' w){th:PV}(S:aG)(eS:jE [.pv th,.pv (.tup (fs.map fv))] S=.ok (.pv (tv ([x,y]++[w]))) S){A:PV}{ds:List Pc}(hA:Sv A (ds.map (Pc.pv fs)))(hd:∀d∈ds,Pg 2 d/\0<dU (d.ys.map (·++[1]))):gH [.pv A,.pv (.tup (fs.map fv)),.pv th] S=.ok (.pv (.int ((ds.map λd=>eP d x' y' w).sum:Nat))) S:=by
 have L:=At (.inl rfl) hf h P (by decide) S eS hA (λd hd'=>(hd d hd').1);have e:[x,y].map (·.fmod w)=[x',y']:=by rw[<-ex,<-ey];rfl
 rw[e]at L;rcases L with⟨⟨d,hd',z,hz,h0⟩,_⟩|⟨_,L⟩
 .exact absurd h0 (J1 G (hd d hd').1 (hd d hd').2 z hz)
 .exact L
abbrev oF:MS:=(aI (aT 11 (aP pK [] (aB (aA 1) (aB (aA 2) aD)))) (aI (aT 12 (mN fM (aB (aC dW (mC (.int 0)) (aC aE (aA 11) (mC (.int 0)))) (aB (aC dW (mC (.int 0)) (aC aE (aA 11) (mC (.int 1)))) (aB (aC aE (aA 11) (mC (.int 2))) aD))))) (aI (aT 13 (fL gH [] (aB (aA 4) (aB (aA 8) (aB (aA 11) aD))))) (aI (aT 14 (fL gH [] (aB (aP lR [] (aB (aA 1) (aB (aA 4) aD))) (aB (aA 8) (aB (aA 12) aD))))) (aI (cX (kT (nX (bI (aP nA [] (aB (aA 13) aD)))) (kT (nX (bI (aP nA [] (aB (aA 14) aD)))) (bI (aC iI (aC aF (aA 13) (aA 14)) (aA 9))))) (bF (mC (.bl false))) eK) (cX (kT (bI (aC iI (fL gH [] (aB (aA 5) (aB (aA 8) (aB (aA 11) aD)))) (aA 13))) (bI (aC iI (fL gH [] (aB (mR gC (aB (aA 6) aD)) (aB (aA 8) (aB (aA 11) aD)))) (aA 14)))) (bF (mC (.bl false))) eK))))))
abbrev rq(x0:AJ)(FL HL:AH)(E1 E2:PV)(x7:AJ)(Z:Int)(x10 x11 x12 x13 x14:AJ):bR:=[x0,some (.ref 0),some (.pv (.lst FL)),some (.pv (.lst HL)),some (.pv E1),some (.pv E2),some (.ref 1),x7,some (.pv (.tup FL)),some (.pv (.int Z)),x10,x11,x12,x13,x14]
theorem Q3{FL HL AL:AH}{E1 E2 A TP TM:PV}{p0 p1 p2 Z c1 c2:Int}{x0 x7 x10 x11 x12 x13 x14:AJ}{ns n1 n2:AA}(hP:TP=.tup [.int p0,.int p1,.int p2])(hM:TM=.tup [.int (0-p0),.int (0-p1),.int p2])(e1:pK [.ref 0,.pv (.lst FL)] [.lst (li ns),.lst AL]=.ok (.pv TP) [.lst (li n1),.lst AL])(e2:gH [.pv E1,.pv (.tup FL),.pv TP] [.lst (li n1),.lst AL]=.ok (.pv (.int c1)) [.lst (li n1),.lst AL])(e3:lR [.ref 0,.pv E1] [.lst (li n1),.lst AL]=.ok (.pv A) [.lst (li n2),.lst AL])(e4:gH [.pv A,.pv (.tup FL),.pv TM] [.lst (li n2),.lst AL]=.ok (.pv (.int c2)) [.lst (li n2),.lst AL])(hz:c1+c2=Z)(e5:gH [.pv E2,.pv (.tup FL),.pv TP] [.lst (li n2),.lst AL]=.ok (.pv (.int c1)) [.lst (li n2),.lst AL])(e6:gH [.pv (.tup AL),.pv (.tup FL),.pv TP] [.lst (li n2),.lst AL]=.ok (.pv (.int c2)) [.lst (li n2),.lst AL]):∃y11 y12 y13 y14,oF (rq x0 FL HL E1 E2 x7 Z x10 x11 x12 x13 x14) [.lst (li ns),.lst AL]=.nx (rq x0 FL HL E1 E2 x7 Z x10 y11 y12 y13 y14) [.lst (li n2),.lst AL]:=by
 refine⟨some (.pv TP),some (.pv TM),some (.pv (.int c1)),some (.pv (.int c2)),?_⟩;have w1:=Kg c1 [.lst (li n2),.lst AL];have w2:=Kg c2 [.lst (li n2),.lst AL];have i0:aE TP (.int 0)=some (.int p0):=by rw[hP];exact lV (j:=0) rfl
 have i1:aE TP (.int 1)=some (.int p1):=by rw[hP];exact lV (j:=1) rfl
 have i2:aE TP (.int 2)=some (.int p2):=by rw[hP];exact lV (j:=2) rfl
 unfold oF rq;clear hP;apply sq;simp! [bJ,aK,aN,aL,aM,aF,aJ,e1];exact⟨rfl,rfl⟩;refine sq (ρ':=[x0,some (.ref 0),some (.pv (.lst FL)),some (.pv (.lst HL)),some (.pv E1),some (.pv E2),some (.ref 1),x7,some (.pv (.tup FL)),some (.pv (.int Z)),x10,some (.pv TP),some (.pv TM),x13,x14]) (S':=[.lst (li n1),.lst AL]) (by rw[hM];simp! [bJ,aK,aN,aL,aM,aF,aJ,i0,i1,i2]) ?_;clear hM;apply sq;simp! [bJ,aK,aN,aL,aM,aF,aJ,e2];exact⟨rfl,rfl⟩;apply sq;simp! [bJ,aK,aN,aL,aM,aF,aJ,e3,e4];exact⟨rfl,rfl⟩;refine sq (ρ':=[x0,some (.ref 0),some (.pv (.lst FL)),some (.pv (.lst HL)),some (.pv E1),some (.pv E2),some (.ref 1),x7,some (.pv (.tup FL)),some (.pv (.int Z)),x10,some (.pv TP),some (.pv TM),some (.pv (.int c1)),some (.pv (.int c2))]) (S':=[.lst (li n2),.lst AL]) ?_ ?_
 .simp! [bJ,aK,aN,aL,aM,aF,aJ,w1,w2,hz]
 .simp! [bJ,aK,aN,aL,aM,aF,aJ,e5,e6]
theorem L7{fs:List (Int×Int)}(hf:fs.length=2)(h:∀u∈fs,Sp u){ps ps2:List (Pc×AB)}{qs:List ((Pc×AB)×Pc)}(hp:∀p∈ps,Pl 2 fs p)(hp2:∀p∈ps2,Pl 2 fs p)(e2:ps2.map (·.2)=(ps.map (·.2)).reverse)(eq:qs.map (·.1)=ps)(ht:∀q∈qs,Tn q)(HL:AH)(x0 x7 x10 x11 x12 x13 x14:AJ)(ns:AA):∃(ns':AA)(y11 y12 y13 y14:AJ),oF (rq x0 (fs.map fv) HL (.lst (ps.map λp=>p.1.pv fs)) (.lst (ps2.map λp=>p.1.pv fs)) x7 (ps.map λp=>gL p.2).sum x10 x11 x12 x13 x14) [.lst (li ns),.lst (qs.map λq=>q.2.pv fs)]=.nx (rq x0 (fs.map fv) HL (.lst (ps.map λp=>p.1.pv fs)) (.lst (ps2.map λp=>p.1.pv fs)) x7 (ps.map λp=>gL p.2).sum x10 y11 y12 y13 y14) [.lst (li ns'),.lst (qs.map λq=>q.2.pv fs)]:=by
 obtain⟨th,v,x,y,w,n1,e1,R,P,rel,gen⟩:=C5 hf h ns (qs.map λq=>q.2.pv fs);obtain⟨G,nx,ny⟩:=R4 P.pos gen;have R':=Bl R;have P':Pq 2 60 [-x,-y] w:=Bl P;obtain⟨p0,p1,rfl⟩:∃p0 p1,th=[p0,p1]:=by
  match th,R.len with
  |[a,b],_=>exact⟨_,_,rfl⟩
 have R':Pq 2 220 [-p0,-p1] v:=R';have rel':∀j,j<2->[-p0,-p1].getD j 0*(fA fs*w)=gF fs j*[-x,-y].getD j 0*v:=λj hj=>by
  have r:=rel j hj
  match j,hj,r with
  |0,_,r=>
   have r:p0*(fA fs*w)=gF fs 0*x*v:=r;show-p0*(fA fs*w)=gF fs 0*-x*v;grind
  |1,_,r=>
   have r:p1*(fA fs*w)=gF fs 1*y*v:=r;show-p1*(fA fs*w)=gF fs 1*-y*v;grind
 have s1:=λS=>Ee (.inl rfl) hf h R (by decide) P rel S;have s2:=λS=>Ee (.inl rfl) hf h R' (by decide) P' rel' S;have ed:∀l:List (Pc×AB),(l.map λp=>p.1.pv fs)=(l.map (·.1)).map (Pc.pv fs):=λl=>by rw[cu];rfl
 have good:∀{l:List (Pc×AB)},(∀p∈l,Pl 2 fs p)->∀d∈l.map (·.1),Pg 2 d/\0<dU (d.ys.map (·++[1])):=λ{l} hl d hd=>by
  obtain⟨p,hpp,rfl⟩:=cj.mp hd;exact⟨(hl p hpp).g,(hl p hpp).ps⟩
 obtain⟨A,n2,e3,hA⟩:=Qw (L:=ps.map λp=>p.1.pv fs) (show eT [.lst (li n1),.lst (qs.map λq=>q.2.pv fs)] 0 n1 from rfl);have e3:lR [.ref 0,.pv (.lst (ps.map λp=>p.1.pv fs))] [.lst (li n1),.lst (qs.map λq=>q.2.pv fs)]=.ok (.pv A) [.lst (li n2),.lst (qs.map λq=>q.2.pv fs)]:=e3;rw[ed]at hA;have c1:=tT hf h P rfl rfl G [.lst (li n1),.lst (qs.map λq=>q.2.pv fs)] (s1 _) (A:=.lst (ps.map λp=>p.1.pv fs)) (.inl (by rw[ed])) (good hp);have c2:=tT hf h P' nx ny G.mate [.lst (li n2),.lst (qs.map λq=>q.2.pv fs)] (s2 _) hA (good hp);have c3:=tT hf h P rfl rfl G [.lst (li n2),.lst (qs.map λq=>q.2.pv fs)] (s1 _) (A:=.lst (ps2.map λp=>p.1.pv fs)) (.inl (by rw[ed])) (good hp2);have c4:=tT hf h P rfl rfl G [.lst (li n2),.lst (qs.map λq=>q.2.pv fs)] (s1 _) (A:=.tup (qs.map λq=>q.2.pv fs)) (ds:=qs.map (·.2)) (.inr (by rw[cu];rfl)) (λd hd=>by
  obtain⟨q,hq,rfl⟩:=cj.mp hd;exact⟨(ht q hq).g,(ht q hq).ps⟩)
 have k3:((ps2.map (·.1)).map λd=>eP d (x.fmod w) (y.fmod w) w).sum=((ps.map (·.1)).map λd=>eP d (x.fmod w) (y.fmod w) w).sum:=by
  have k:=Bg G ps.reverse ps2 (λp hpp=>hp p (k7.mp hpp)) hp2 (by rw[e2,xv]);rw[cu,cu];show(ps2.map λp=>eP p.1 (x.fmod w) (y.fmod w) w).sum=(ps.map λp=>eP p.1 (x.fmod w) (y.fmod w) w).sum;rw[k,xv,Xx]
 have k4:((qs.map (·.2)).map λd=>eP d (x.fmod w) (y.fmod w) w).sum=((ps.map (·.1)).map λd=>eP d (w-x.fmod w) (w-y.fmod w) w).sum:=by
  rw[<-eq,cu,cu,cu];congr 1;refine il λq hq=>?_;have hq1:Pl 2 fs q.1:=hp q.1 (by rw[<-eq];exact cj.mpr ⟨q,hq,rfl⟩);exact Bv G hq1.g hq1.ps (ht q hq).g (ht q hq).ps (ht q hq).pm
 have k2:=Uj G ps hp;rw[k3]at c3;rw[k4]at c4;have k2:((((ps.map (·.1)).map λd=>eP d (x.fmod w) (y.fmod w) w).sum:Nat):Int)+(((ps.map (·.1)).map λd=>eP d (w-x.fmod w) (w-y.fmod w) w).sum:Nat)=(ps.map λp=>gL p.2).sum:=by
  rw[cu,cu];exact k2
 obtain⟨y11,y12,y13,y14,e⟩:=Q3 (x0:=x0) (x7:=x7) (x10:=x10) (x11:=x11) (x12:=x12) (x13:=x13) (x14:=x14) (HL:=HL) (TP:=tv ([p0,p1]++[v])) (TM:=tv ([-p0,-p1]++[v])) rfl (by rw[ig,ig];rfl) e1 c1 e3 c2 k2 c3 c4;exact⟨n2,y11,y12,y13,y14,e⟩
theorem Lk{fs:List (Int×Int)}(hf:fs.length=2)(h:∀u∈fs,Sp u){ps ps2:List (Pc×AB)}{qs:List ((Pc×AB)×Pc)}(hp:∀p∈ps,Pl 2 fs p)(hp2:∀p∈ps2,Pl 2 fs p)(e2:ps2.map (·.2)=(ps.map (·.2)).reverse)(eq:qs.map (·.1)=ps)(ht:∀q∈qs,Tn q)(HL:AH)(x0 x7:AJ):∀(is:AH)(x10 x11 x12 x13 x14:AJ)(ns:AA),∃(ns':AA)(y10 y11 y12 y13 y14:AJ),cJ [] (gN 10) oF is (rq x0 (fs.map fv) HL (.lst (ps.map λp=>p.1.pv fs)) (.lst (ps2.map λp=>p.1.pv fs)) x7 (ps.map λp=>gL p.2).sum x10 x11 x12 x13 x14) [.lst (li ns),.lst (qs.map λq=>q.2.pv fs)]=.nx (rq x0 (fs.map fv) HL (.lst (ps.map λp=>p.1.pv fs)) (.lst (ps2.map λp=>p.1.pv fs)) x7 (ps.map λp=>gL p.2).sum y10 y11 y12 y13 y14) [.lst (li ns'),.lst (qs.map λq=>q.2.pv fs)]
 |[],x10,x11,x12,x13,x14,ns=>⟨ns,x10,x11,x12,x13,x14,fE⟩
 |i::is,x10,x11,x12,x13,x14,ns=>by
  obtain⟨n1,y11,y12,y13,y14,e1⟩:=L7 hf h hp hp2 e2 eq ht HL x0 x7 (some (.pv i)) x11 x12 x13 x14 ns;obtain⟨n2,z10,z11,z12,z13,z14,e2⟩:=Lk hf h hp hp2 e2 eq ht HL x0 x7 is (some (.pv i)) y11 y12 y13 y14 n1;refine⟨n2,z10,z11,z12,z13,z14,?_⟩;rw[dY];simp only[gN,rq,dr,da];unfold rq at e1 e2;rw[e1];exact e2
theorem Qu{L:AH}(h:L.length<=5):iA L none none (-1)=L.reverse:=by
 match L,h with
 |[],_=>exact pR (n:=0) (is:=[]) rfl (by decide+kernel)
 |[a],_=>exact pR (n:=1) (is:=[0]) rfl (by decide+kernel)
 |[a,b],_=>exact pR (n:=2) (is:=[1,0]) rfl (by decide+kernel)
 |[a,b,c],_=>exact pR (n:=3) (is:=[2,1,0]) rfl (by decide+kernel)
 |[a,b,c,d],_=>exact pR (n:=4) (is:=[3,2,1,0]) rfl (by decide+kernel)
 |[a,b,c,d,e],_=>exact pR (n:=5) (is:=[4,3,2,1,0]) rfl (by decide+kernel)
theorem Ow(ns:AA)(h:ns.length<=63):∃S,Ra [.pv (.lst (ns.map .int))] []=.ok (.pv (.bl true)) S:=by
 obtain⟨ms,e0,_⟩:=O0 ns [] h;have e0:pM [.pv (.lst (ns.map .int))] []=.ok (.ref 0) [.lst (li ms)]:=e0;obtain⟨fs,n2,e2,l2,r2⟩:=Jr (n:=2) (.inl rfl) ms;have e2:oM [.ref 0,.pv (.int 2)] [.lst (li ms)]=.ok (.ref 1) [.lst (li n2),.lst (fs.map fv)]:=e2;obtain⟨hs,n3,e3,l3,w3⟩:=Dq (n:=2) (.inl rfl) (M:=5) (by decide) n2;have e3:oJ [.ref 0,.pv (.int 2),.pv (.int 5)] [.lst (li n2)]=.ok (.ref 1) [.lst (li n3),.lst (hs.map bX)]:=e3;obtain⟨ps,n4,e4,rfl,r4⟩:=Mi (.inl rfl) n3 l2 r2 w3 (by omega);obtain⟨ps2,n5,e5,q5,r5⟩:=Mi (.inl rfl) n4 l2 r2 (hs:=(ps.map (·.2)).reverse) (λx hx=>w3 x (k7.mp hx)) (by rw[List.length_reverse];omega);have pk:iA ((ps.map (·.2)).map bX) none none (-1)=((ps.map (·.2)).reverse).map bX:=by
  rw[Qu (by rw[ak];exact l3),xv]
 have lp:ps.length<=5:=by rw[ak]at l3;exact l3
 obtain⟨qs,n6,y7,e6,q6,t6⟩:=Xi l2 r2 (some (.pv (.lst (ns.map .int)))) (some (.pv (.lst (fs.map fv)))) (some (.pv (.lst ((ps.map (·.2)).map bX)))) (some (.pv (.lst (ps.map λp=>p.1.pv fs)))) (some (.pv (.lst (ps2.map λp=>p.1.pv fs)))) ps [] n5 none r4 (by simp;omega);rw[jh]at e6;have e7:=B0 r4 [.lst (li n6),.lst (qs.map λq=>q.2.pv fs)];obtain⟨n8,y10,y11,y12,y13,y14,e8⟩:=Lk l2 r2 r4 r5 q5 q6 t6 ((ps.map (·.2)).map bX) (some (.pv (.lst (ns.map .int)))) y7 [.int 0,.int 1,.int 2] none none none none none n6;have r3:iY [.pv (.int 3)] [.lst (li n6),.lst (qs.map λq=>q.2.pv fs)]=.ok ([.int 0,.int 1,.int 2],[]) [.lst (li n6),.lst (qs.map λq=>q.2.pv fs)]:=mQ _ (n:=3) (by decide);refine⟨[],?_⟩;clear w3 r4 r5 r2 t6 q6 q5 l2 l3 lp;generalize ns.map PV.int=NL,fs.map fv=FL,(ps.map λp=>gL p.2).sum=Z,(ps.map (·.2)).map bX=HL,((ps.map (·.2)).reverse).map bX=HR,(qs.map λq=>q.2.pv fs)=AL,(ps2.map λp=>p.1.pv fs)=E2,(ps.map λp=>p.1.pv fs)=E1 at *;unfold rq at e8;unfold ra at e6;have tA:(bK (bD (aA 4)) (gN 7) qH) [some (.pv (.lst NL)),some (.ref 0),some (.pv (.lst FL)),some (.pv (.lst HL)),some (.pv (.lst E1)),some (.pv (.lst E2)),some (.ref 1),none,none,none,none,none,none,none,none] [.lst (li n5),.lst []]=.nx [some (.pv (.lst NL)),some (.ref 0),some (.pv (.lst FL)),some (.pv (.lst HL)),some (.pv (.lst E1)),some (.pv (.lst E2)),some (.ref 1),y7,none,none,none,none,none,none,none] [.lst (li n6),.lst AL]:=by
  generalize qH=LB at *;simp! [bJ,aK,aN,aL,aM,aF,aJ,bK,bD,bS,e6]
 have tF:(bK (cZ (aB (mC (.int 3)) aD)) (gN 10) oF) [some (.pv (.lst NL)),some (.ref 0),some (.pv (.lst FL)),some (.pv (.lst HL)),some (.pv (.lst E1)),some (.pv (.lst E2)),some (.ref 1),y7,some (.pv (.tup FL)),some (.pv (.int Z)),none,none,none,none,none] [.lst (li n6),.lst AL]=.nx [some (.pv (.lst NL)),some (.ref 0),some (.pv (.lst FL)),some (.pv (.lst HL)),some (.pv (.lst E1)),some (.pv (.lst E2)),some (.ref 1),y7,some (.pv (.tup FL)),some (.pv (.int Z)),y10,y11,y12,y13,y14] [.lst (li n8),.lst AL]:=by
  generalize oF=LB at *;simp! [bJ,aK,aN,aL,aM,aF,aJ,bK,cZ,r3,e8]
 have hb:Ba=(aI (aT 1 (pP pM [] (aB (aA 0) aD))) (aI (aT 2 (aP oM [] (aB (aA 1) (aB (mC (.int 2)) aD)))) (aI (aT 3 (aP oJ [] (aB (aA 1) (aB (mC (.int 2)) (aB (mC (.int 5)) aD))))) (aI (aT 4 (aP nF [] (aB (aA 1) (aB (aA 3) (aB (aA 2) aD))))) (aI (aT 5 (aP nF [] (aB (aA 1) (aB (sA (aA 3) cO cO (-1)) (aB (aA 2) aD))))) (aI (aT 6 (eI aD)) (aI (bK (bD (aA 4)) (gN 7) qH) (aI (aT 8 (mR gC (aB (aA 2) aD))) (aI (aT 9 (aP qK [] (aB (aA 3) aD))) (aI (bK (cZ (aB (mC (.int 3)) aD)) (gN 10) oF) (bF (mC (.bl true))))))))))))):=rfl;unfold Ra;rw[hb];apply La rfl;apply sq;simp! [bJ,aK,aN,aL,aM,aF,aJ,gO,e0];exact⟨rfl,rfl⟩;apply sq;simp! [bJ,aK,aN,aL,aM,aF,aJ,e2];exact⟨rfl,rfl⟩;apply sq;simp! [bJ,aK,aN,aL,aM,aF,aJ,e3];exact⟨rfl,rfl⟩;apply sq;simp! [bJ,aK,aN,aL,aM,aF,aJ,e4];exact⟨rfl,rfl⟩;apply sq;simp! [bJ,aK,aN,aL,aM,aF,aJ,sA,Rn,cO,pk,e5];exact⟨rfl,rfl⟩;apply sq;simp! [bJ,aK,aN,aL,aM,aF,aJ,eI,jP];exact⟨rfl,rfl⟩;refine sq tA ?_;apply sq;simp! [bJ,aK,aN,aL,aM,aF,aJ];exact⟨rfl,rfl⟩;apply sq;simp! [bJ,aK,aN,aL,aM,aF,aJ,e7];exact⟨rfl,rfl⟩;refine sq tF ?_;simp! [bJ,aK,aN,aL,aM,aF,aJ];exact⟨rfl,rfl⟩;simp[kC]
theorem hF_k{K:ae}{x:Str}{st:Stmt}{f:Addr}{oc:Value}{od an:AF}{osl:Array AE}{kV doc pm cdv ct:Value}(a:dg K mainGlobals x=some (some (.ref f)):=by k_is)(l:K.lookup f=some ⟨oc,od,.func (dn x x (fW st) (eC st) (cC st) .none kV doc pm an cdv ct),osl⟩:=by k_is)(c:jt K cdv x=true:=by k_is)(k:fg K (.ref f)=true:=by k_is):HF K x st:=S0 a l c k
theorem all_mk{l:om}{w:aj}{K:ae}{h:Heap}{mg:Str->AE}{fa:Addr}(X:K.In h)(G:h.Ns mainGlobals mg)(hfa:mg "law"=some (.ref fa))
  (h35:HF K "_law_row" Ul)
  (h36:HF K "_law_take" Dj)
  (h37:HF K "_law_gcd" Zk)
  (h38:HF K "_law_lowest" Se)
  (h40:HF K "_law_frac" Si)
  (h55:HF K "_law_stretch" Yd)
  (h44:HF K "_law_dot" Cl)
  (h43:HF K "_law_cross" Ih)
  (h45:HF K "_law_turn" Wj)
  (h50:HF K "_law_raw_turn" Ad)
  (h49:HF K "_law_raw" Kl)
  (h51:HF K "_law_kuhn" Tj)
  (h52:HF K "_law_raw_heap" Uc)
  (h54:HF K "_law_far" Ll)
  (h42:HF K "_law_gap" Il)
  (h46:HF K "_law_det" Bk)
  (h47:HF K "_law_simplex" De)
  (h41:HF K "_law_joined" He)
  (h56:HF K "_law_spot" Fi)
  (h57:HF K "_law_laid" Qi)
  (h48:HF K "_law_gone" Aj)
  (h53:HF K "_law_raw_bulk" Cd)
  (h59:HF K "_law_over" Hj)
  (h31:HF K "in_first_cell" Bc)
  (h7:HF K "divisor" Uf)
  (h8:HF K "reduced" Te)
  (h6:HF K "sign" Ml)
  (h14:HF K "point_at" Zd)
  (h13:HF K "measures" Fd)
  (h10:HF K "divided" Rf)
  (h29:HF K "in_steps" Wd)
  (h15:HF K "added" Ui)
  (h17:HF K "turned" Rg)
  (h16:HF K "lessened" Xd)
  (h30:HF K "folded" Fh)
  (h32:HF K "spots_over" Kc)
  (h18:HF K "whole_arrow" Gc)
  (h19:HF K "dot" Rm)
  (h20:HF K "normal" Og)
  (h21:HF K "determinant" Fc)
  (h22:HF K "side" Nk)
  (h24:HF K "replaced" Ce)
  (h25:HF K "standing" Vd)
  (h27:HF K "count_at" Hd)
  (h33:HF K "layers" Ig)
  (h58:HF K "_law_handed" Nf)
  (h39:HF K "_law_whole" Jh)
  {f12:Addr}{od12 an12:AF}{sl12:Array AE}{oc12 kV12 dc12 pm12 cd12 ct12:Value}
  {T12:Addr}{tc12:Value}{td12:AF}{tl12:Array AE}{tn12:Nat}{tt12:Tok}
  (a12:dg K mainGlobals "point"=some (some (.ref f12)))(l12:K.lookup f12=some ⟨oc12,od12,.func (dn "point" "point" (fW qW) (eC qW) (cC qW) (.ref T12) kV12 dc12 pm12 an12 cd12 ct12),sl12⟩)(c12:jt K cd12 "point"=true)(k12:fg K (.ref f12)=true)
  (t12:K.lookup T12=some ⟨tc12,td12,.seq #[.int 1 tt12] tn12,tl12⟩)
  {f9:Addr}{od9 an9:AF}{sl9:Array AE}{oc9 kV9 dc9 pm9 cd9 ct9:Value}
  {T9:Addr}{tc9:Value}{td9:AF}{tl9:Array AE}{tn9:Nat}{tt9:Tok}
  (a9:dg K mainGlobals "fraction"=some (some (.ref f9)))(l9:K.lookup f9=some ⟨oc9,od9,.func (dn "fraction" "fraction" (fW qP) (eC qP) (cC qP) (.ref T9) kV9 dc9 pm9 an9 cd9 ct9),sl9⟩)(c9:jt K cd9 "fraction"=true)(k9:fg K (.ref f9)=true)
  (t9:K.lookup T9=some ⟨tc9,td9,.seq #[.int 1 tt9] tn9,tl9⟩)
  {f60:Addr}{od60 an60:AF}{sl60:Array AE}{oc60 kV60 dc60 pm60 cd60 ct60:Value}
  (a60:dg K mainGlobals "law"=some (some (.ref f60)))(l60:K.lookup f60=some ⟨oc60,od60,.func (dn "law" "law" (fW mH) (eC mH) (cC mH) .none kV60 dc60 pm60 an60 cd60 ct60),sl60⟩)(c60:jt K cd60 "law"=true)(k60:fg K (.ref f60)=true)
  (z1:dg K mainGlobals "abs"=some none)
  (z2:dg K mainGlobals "bool"=some none)
  (z3:dg K mainGlobals "enumerate"=some none)
  (z4:dg K mainGlobals "int"=some none)
  (z5:dg K mainGlobals "isinstance"=some none)
  (z6:dg K mainGlobals "len"=some none)
  (z7:dg K mainGlobals "list"=some none)
  (z8:dg K mainGlobals "max"=some none)
  (z9:dg K mainGlobals "min"=some none)
  (z10:dg K mainGlobals "range"=some none)
  (z11:dg K mainGlobals "sorted"=some none)
  (z12:dg K mainGlobals "sum"=some none)
  (z13:dg K mainGlobals "tuple"=some none)
  (z14:dg K mainGlobals "zip"=some none)
  {C1 C2 C3:Addr}
  (y1:dg K mainGlobals "NoNumber"=some (some (.ref C1)))(x1:ja K C1 kA "ValueError.__new__"=true)
  (y2:dg K mainGlobals "NoPoint"=some (some (.ref C2)))(x2:ja K C2 kA "ValueError.__new__"=true)
  (y3:dg K mainGlobals "OnSide"=some (some (.ref C3)))(x3:ja K C3 kA "ValueError.__new__"=true)
  :∃fd:bj,(∀(s:aa)(v:Value),oh s fd ⟨[v],[]⟩ [("_law_script",v)])/\∀base:Heap,K.In base->base.Ns mainGlobals mg->eA l.prog w K mg base fB 8 fa fd ["_law_script"] (uS K):=by
 let cl:Str->Addr:=λn=>if n="NoNumber" then C1 else if n="NoPoint" then C2 else if n="OnSide" then C3 else 0
 have e:=hfa.symm.trans (mq X G a60);cases e;have F12:=Vi (st:=qW) l12 c12 k12 t12 rfl;have b12:=F12.binds (ps:=["numbers","bottom"]) (dd:=[]) λ_ _ _ _ _ _ _ us hl=>match us,hl with |[_,_],_=>⟨_,rfl,rfl⟩
 have n12:=mq X G a12;have F9:=Vi (st:=qP) l9 c9 k9 t9 rfl;have b9:=F9.binds (ps:=["top","bottom"]) (dd:=[]) λ_ _ _ _ _ _ _ us hl=>match us,hl with |[_,_],_=>⟨_,rfl,rfl⟩
 have n9:=mq X G a9;have F60:=Ek (st:=mH) l60 c60 k60;have m:Mg mg:=⟨io X G z1,io X G z2,io X G z3,io X G z4,io X G z5,io X G z6,io X G z7,io X G z8,io X G z9,io X G z10,io X G z11,io X G z12,io X G z13,io X G z14⟩;refine⟨dn "law" "law" (fW mH) (eC mH) (cC mH) .none kV60 dc60 pm60 an60 cd60 ct60,λs v=>.of_eq rfl,λbase _ _=>?_⟩
 let B:Bx:=⟨l.prog,w,K,mg,base,cl⟩
 have Xg:XG B.K B.mg:=⟨h,X,G⟩;have m:Mg B.mg:=m;have q_NoNumber:B.mg "NoNumber"=some (.ref (B.cl "NoNumber")):=mq X G y1;have x_NoNumber:ja B.K (B.cl "NoNumber") kA "ValueError.__new__"=true:=x1;have q_NoPoint:B.mg "NoPoint"=some (.ref (B.cl "NoPoint")):=mq X G y2;have x_NoPoint:ja B.K (B.cl "NoPoint") kA "ValueError.__new__"=true:=x2;have q_OnSide:B.mg "OnSide"=some (.ref (B.cl "OnSide")):=mq X G y3;have x_OnSide:ja B.K (B.cl "OnSide") kA "ValueError.__new__"=true:=x3;have C35:=A3 Xg m h35;have C36:=Yt Xg m h36;have C37:=Bz Xg m h37;have C38:=Sr Xg m h38 C37;have C40:=Bw Xg m h40 C38;have C55:=Kq Xg m h55 C36 C40;have C44:=B8 Xg m h44;have C43:=Ss Xg m h43;have C45:=Tu Xg m h45 C44 C43;have C50:=Wp Xg m h50 C45;have C49:=Zx Xg m h49 C36 C50;have C51:=Ev Xg m h51 C36;have C52:=Qp Xg m h52 C36 C49 C51;have C54:=C9 Xg m h54 C36 C38;have C42:=Yz Xg m h42;have C46:=A7 Xg m h46 C45 C42;have C47:=Cq Xg m h47 C46;have C41:=Rr Xg m h41 C38;have C56:=Xv Xg m h56 C38;have C57:=Gv Xg m h57 C54 C47 C41 C56;have C48:=Kv Xg m h48 C47 C41;have C53:=Op Xg m h53 C50;have C59:=Iw Xg m h59 C36 C56 C38;have C31:=Ap Xg m h31;have C7:=Qr Xg m h7;have C8:=Ar Xg m h8 C7;have C6:=Uz Xg m h6;have G12:=Vt Xg m F12 C8 C6 q_NoPoint x_NoPoint;have H12:yB B:=Cb G12 b12 k12 n12;have C14:=Fq Xg m h14 H12;have G9:=Gq Xg m F9 C6 C7 q_NoNumber x_NoNumber;have H9:wI B:=Cb G9 b9 k9 n9;have C13:=Rq Xg m h13 H9;have C10:=Nr Xg m h10 H9;have C29:=Nq Xg m h29 C14 C13 C10;have C15:=Vv Xg m h15 H12;have C17:=Kt Xg m h17;have C16:=Oq Xg m h16 C15 C17;have C30:=Bs Xg m h30 C29 C16;have C32:=Jp Xg m h32;have C18:=Dp Xg m h18;have C19:=F5 Xg m h19;have C20:=Xr Xg m h20;have C21:=Ep Xg m h21 C18 C19 C20;have C22:=Sy Xg m h22 C6 C21;have C24:=Zp Xg m h24;have C25:=Qq Xg m h25 C22 C24;have H27:=Iq Xg m h27 C25 q_OnSide x_OnSide;have H33:=Tt Xg m h33 C31 C29 C30 C32 H27;have C58:=Er Xg m h58 C36;have C39:=Ws Xg m h39;exact(F7 Xg m F60 C35 C55 C52 C57 C48 C54 C53 C59 H33 C58 C39).imp λvs H Q E h=>Ox Ow h
theorem walk{l:om}{q:Program}{loose:List Str}{XP:(Str->AE)->Heap->Prop}{YP:aj->Heap->Prop}{d:DefRec}{K:ni->ae}(hn:l.most=some 63)(hdf:d.params.defaults=[])
  (hY:∀(w:aj)(h:Heap),YP w h->(K w.params).In h)
  (F:∀(w:aj)(mg:Str->AE)(fa:Addr)(h:Heap),(K w.params).In h->h.Ns mainGlobals mg->mg d.name=some (.ref fa)->
   ∃fd:bj,(∀(s:aa)(u:Value),oh s fd ⟨[u],[]⟩ [("_law_script",u)])/\∀base:Heap,(K w.params).In base->base.Ns mainGlobals mg->eA l.prog w (K w.params) mg base fB 8 fa fd ["_law_script"] (uS (K w.params))):
  PySem.W.WalkO q loose XP YP l.row.toRowW d [] (λf vs=>vq f vs):=
 L2.walk_of (n:=63) (k:=8) (x:="_law_script") (CX:=λ_=>fB) (sp:=λw=>uS (K w.params)) hn (by decide) hdf ⟨rfl,by decide,by decide⟩ hY F (λ_ _ a ns hl _ hS=>⟨a,ns,rfl,hS,hl,λ_=>rfl⟩) λ_ _ _ _ _ z=>z
end
end Sc
open PySem PySem.W PyProof.Rows
set_option maxRecDepth 100000 in
set_option maxHeartbeats 0 in
theorem PySem.Challenge.cw_scissorhall_k32_whole_layers_and_turned_holds : PySem.Challenge.rw_scissorhall_k32_whole_layers_and_turned.Holds := by
 w_on; refine holds_law Sc.wsaid λsaid=>?_
 refine holds_open (q:=Sc.VW) (loose:=[de "fraction",de "point"]) (Xt:=λs=>xlAt Sc.VW [] s && recOk (uc (ud (ue pf))) s) (XP:=XL Sc.VW []) (Yf:=ua (kHook Sc.KK Sc.KA Sc.KE)) (Ya:=ub (kHook Sc.KK Sc.KA Sc.KE)) (YP:=Hook.says (kHook Sc.KK Sc.KA Sc.KE)) (N:=4792) Sc.left (Hook.of (kHook Sc.KK Sc.KA Sc.KE)) (Hook.keeps (kHook Sc.KK Sc.KA Sc.KE)) (λs e=>xl_of s (k8.mp e).1) XL.keeps (by rfl) (by rfl) (by rfl) (λs e=>recFacts_of (k8.mp e).2) (by rfl) (by first | assumption | decide +kernel) (by decide +kernel) ⟨rfl,rfl,rfl,rfl,rfl,by decide +kernel⟩ ?hw ?hc
 case hw=>w_witness2
 k_fill
 refine Sc.walk (l:=pf) rfl rfl (λw h Y=>PySem.W.kIn_of Y) ?F
 case F =>
  intro w mg fa h KX G hmg;refine' Sc.all_mk KX G hmg Sc.hF_k Sc.hF_k Sc.hF_k Sc.hF_k Sc.hF_k Sc.hF_k Sc.hF_k Sc.hF_k Sc.hF_k Sc.hF_k Sc.hF_k Sc.hF_k Sc.hF_k Sc.hF_k Sc.hF_k Sc.hF_k Sc.hF_k Sc.hF_k Sc.hF_k Sc.hF_k Sc.hF_k Sc.hF_k Sc.hF_k Sc.hF_k Sc.hF_k Sc.hF_k Sc.hF_k Sc.hF_k Sc.hF_k Sc.hF_k Sc.hF_k Sc.hF_k Sc.hF_k Sc.hF_k Sc.hF_k Sc.hF_k Sc.hF_k Sc.hF_k Sc.hF_k Sc.hF_k Sc.hF_k Sc.hF_k Sc.hF_k Sc.hF_k Sc.hF_k Sc.hF_k Sc.hF_k ?a12 ?l12 ?c12 ?k12 ?t12 ?a9 ?l9 ?c9 ?k9 ?t9 ?a60 ?l60 ?c60 ?k60 ?z1 ?z2 ?z3 ?z4 ?z5 ?z6 ?z7 ?z8 ?z9 ?z10 ?z11 ?z12 ?z13 ?z14 ?y1 ?x1 ?y2 ?x2 ?y3 ?x3
  (case a12 | l12 | c12 | k12 | t12 | a9 | l9 | c9 | k9 | t9 | a60 | l60 | c60 | k60 | z1 | z2 | z3 | z4 | z5 | z6 | z7 | z8 | z9 | z10 | z11 | z12 | z13 | z14 | y1=>k_is)
  (case x1=>k_exc)
  (case y2=>k_is)
  (case x2=>k_exc)
  (case y3=>k_is)
  (case x3=>k_exc)
#print axioms PySem.Challenge.cw_scissorhall_k32_whole_layers_and_turned_holds
