import PyProof.Rows.All
import KE.KFromBytes
import KE.KIsAll
import PyProof.EqAt
import PyProof.EqKinds
import PyProof.TupleCall
import PyProof.ZipIter
import PyProof.Draws
import PyProof.CompFree
import PyProof.NeKinds
import PyProof.NsDelKeeps
import PyProof.ExcArgsOwn
import PyProof.ExcAttrAll.ValueError
import KE.KSortTup
import PyProof.DictRoadsH
import Wide.Seal
import KE.KIntText
import PyProof.FitsReplace
import PyProof.StrWalks
import PyProof.CompMap
import KE.KDictList
import PySem.Challenge.RW_scissorhall_k56_layers_agree
set_option Elab.async false
set_option compiler.extract_closed false
set_option bootstrap.genMatcherCode false
set_option maxRecDepth 100000
set_option maxHeartbeats 0
open Array renaming length_toList->jj,toList->vb,replicate->xi,append_assoc->yg
open Bool renaming and_eq_true->fh,false_ne_true->kw,or_eq_true->tw,false_eq_true->xc,eq_iff_iff->a6,not_eq_true'->g7,and_eq_true_iff->u7
open Classical renaming propDecidable->ql
open False renaming elim->ia
open ForInStep renaming yield->zx
open Int renaming mul_pos->aj,gcd->bf,mul_comm->cq,one_mul->dr,ne_of_gt->dw,le_of_lt->gr,zero_sub->im,eq_of_mul_eq_mul_right->io,mul_assoc->jp,neg_mul->ke,mul_ne_zero->kg,mul_ediv_cancel_left->kz,fmod_nonneg_of_pos->mq,mul_one->nv,zero_add->oj,fdiv_eq_ediv_of_dvd->om,fmod_lt_of_pos->ox,toNat_natCast->qg,le_refl->qj,natAbs_mul->si,mul_neg->sk,mul_zero->sr,pos_of_mul_pos_left->ss,fmod_eq_emod_of_nonneg->uf,mul_nonneg->ug,lt_trichotomy->uh,gcd_zero_left->wk,mul_neg_of_pos_of_neg->wm,fdiv_eq_ediv_of_nonneg->wn,natCast_mul->xo,add_sub_cancel->xw,natAbs_neg->zi,emod_nonneg->zl,natCast_nonneg->zn,gcd_mul_left->zo,gcd_dvd_left->zq,gcd_dvd_right->zt,neg_mul_neg->zu,eq_one_of_dvd_one->o7,fmod_add_mul_fdiv->p7,mul_nonpos_of_nonneg_of_nonpos->t6,mul_le_mul_of_nonneg_left->t8,gcd_mul_right->u4
open List renaming length_map->ak,size_toArray->ar,zipWith->au,getElem?_eq_getElem->av,range->aw,mem_cons_of_mem->ax,map_cons->az,mem_map->bj,mem_cons->bo,length_append->ca,mem_cons_self->ce,not_mem_nil->cf,map_map->cg,getD->ci,set_cons_zero->cj,map_nil->cn,length_cons->cu,getD_eq_getElem?_getD->cv,set_cons_succ->cw,getElem?_eq_some_iff->da,getElem_mem->di,mem_append->dj,getElem?_map->dk,lookup_cons->dm,mem_append_right->dz,map_congr_left->eh,map_append->fe,length_zipWith->fg,getElem?_append_left->fu,length_range->gh,nil_append->gi,getElem?_append_right->ib,mem_of_getElem?->ic,getElem?_set_self->ie,length_set->il,flatMap_cons->ir,all_eq_true->jb,filterMap_cons->je,getElem?_set_ne->jf,mem_append_left->ji,append_nil->jk,replicate->jm,append_assoc->jr,cons_append->jt,getElem_of_mem->jx,length->kb,sum_cons->kj,nodup_cons->ky,toArray->lc,set_set->mj,mem_range->ni,length_singleton->og,prefix_rfl->oq,min?_eq_some_iff->ow,mem_singleton->oy,mem_flatMap->oz,getElem?_zipWith->qm,ext_getElem?->qo,max?_eq_some_iff->qp,getElem_zipWith->qq,zipWith_cons_cons->qr,map_reverse->qv,mem_reverse->qw,length_take->rl,map_id->su,take_of_length_le->tm,sum_append->tq,ext_getElem->tx,length_eq_zero_iff->ub,zipWith_nil_left->uc,sum_nil->ud,append_inj'->ue,mem_filter->uv,mem_filterMap->ve,of_mem_zip->vj,getElem?_replicate->vk,forIn_cons->wo,forIn_nil->wt,getElem?_eq_none->wv,drop_eq_getElem_cons->ww,getElem?_take->xa,take->xf,getElem_map->xm,map_set->xp,count_cons->xq,min?_eq_none_iff->xt,max?_eq_none_iff->xu,getElem_range->xx,contains_iff_mem->ya,length_replicate->yw,length_drop->yy,zipIdx_cons->c8,zipIdx_nil->d4,drop_length->i3,nodup_append->i4,getElem_toArray->i5,drop_zero->j9,take_length->k7,getElem?_eq_none_iff->k8,length_pos_iff->l7,eq_nil_of_length_eq_zero->m9,mem_or_eq_of_mem_set->o6,perm_middle->o8,flatMap_map->q9,map_flatMap->t5,eq_of_mem_replicate->u5,length_reverse->u6
open List.Perm renaming swap->qu,refl->t7
open List.cons renaming injEq->xy
open Nat renaming le_refl->aq,lt_of_lt_of_le->de,ne_of_lt->df,le_trans->ee,lt_irrefl->iu,zero_le->ja,sub_self->lb,ne_of_gt->nu,le_succ->qi,le_of_lt->re,lt_of_le_of_lt->sj,two_pow_pos->ua,le_of_eq->wj,lt_succ_self->wz,lt_succ_of_lt->xh,pow_le_pow_right->zh,eq_zero_or_pos->zj,exists_eq_add_of_le->g9,le_succ_of_le->l5,not_lt_zero->p8
open Ne renaming symm->ko
open Option renaming getD_none->zd,getD_some->k4,map_some->o5
open Option.some renaming inj->cc
open Or renaming inr->fy,inl->gq
open Prod renaming ext->jh
open Prod.mk renaming inj->yd
open PyProof.Rows renaming AllBare->jd,IntsAre->oh,callWith_type1->qa,slot_tuple_getitem->rp,Constant_none->uz,assignInOrder_cons->vd,Subscript_->vw,get?_update_seq->xk,subscriptTail_builtinR->za,boot_isinstance->j8
open PyProof.Rows.IsTup renaming new->rf
open PySem renaming Shared->aa,Expr->ag,wpAny_bind->ah,Pos->ai,World->am,Around->ao,wpAny_pure->bh,Env->bi,FuncData->br,IsPair->dn,NameKind->fk,IsZip->gf,wpAny_field->gj,wpAny_mono->iy,wpAny_holding->iz,mem_of_lookup->jn,Draws->jq,wpAny_newObj_type->ju,sizeLine_eq->jw,CmpOp->jz,IsPart->kd,wpAny_seqItems->ki,Paired->kn,Model->kq,wpAny_truthy_bool->kr,wpAny_passesOwn->ku,Keyword->kx,Params->ng,wpAny_execs_nil->nj,wpAny_rule->nr,BindsTo->ny,wpAny_call_entry->oa,wpAny_setField_rec->oo,Operator->ph,wpAny_standAt->pr,Result->qd,codeAny_mono->qe,wpAny_callSpecial?_slot->qh,wpAny_pyIter_list->qk,PassesOwn->rh,wpAny_Call_Name_kw->rk,concat_meets->rm,wpAny_letGo->sy,wpAny_onRaise->tf,numAt_eq->tz,wpAny_Name->uw,wpAny_execs_cons->vc,noFill_tuple_add->vm,seq_tuple_add->vn,seqIndex_of->vz,seqIndex_neg->wb,slot_list_getitem->wd,call_meets->we,call->wg,wpAny_setField->wq,wpAny_of_eq->wr,wpAny_updateSeq_pair->wu,pushCells_keeps->xn,Within->yf,wpAny_loadName_local->yi,wpAny_loadName_cell->yj,wpAny_isTrue_Compare1->yl,wpAny_pyNext_list_item->ym,wpAny_pyNext_list_end->yn,wpAny_getItem_list_slice->ze,wpAny_comprehension_free->zy,codeAny_compStart_list->a5,wpAny_pyIter_tuple->f6
open PySem.Builtin.Int renaming intBits->zw
open PySem.Builtin.List renaming listTooLong->sf
open PySem.Builtin.Slice renaming slicePlaces->rn,sliceAdjust->vt,sliceApplied->yx
open PySem.Builtin.SmallTypes renaming nextOf->kh,ownedTupleIsFree->td,ownedTupleHandOut->d5
open PySem.Builtin.Tuple renaming tupleExact->se,tupleHashOf->g8
open PySem.Calls renaming Name_function_global->yk,evalArgs_plain->zf
open PySem.Challenge renaming pw_scissorhall_k56_layers_agree->my,rw_scissorhall_k56_layers_agree->pf
open PySem.F renaming slot_tuple_iterator_next->sv,slot_zip_next->tj,slot_tuple_add->vo,entry_tuple_add->vp,args_tuple_add_2->vq,slot_list_append->zg,entry_tuple_iterator_next->a7,args_tuple_iterator_next_1->a8,entry_zip_next->d6,args_zip_next_1->d7,plainAttrs_list->j7,slot_list_iadd->l6
open PySem.Heap renaming get?_push_of_some->ay,lt_size->bn,get?_push_size->dg,size_push->jg,SameBut->jy,ExtBut->sx,get?_update_ne->xl,get?_update_self->zb,get?_update_other->zc
open PySem.Heap.IsSliceOf renaming new->yz
open PySem.Heap.SameBut renaming update->c6
open PySem.NameKind renaming cell->fj,free->ft
open PySem.Obj renaming mapSeq->gm,data_mapFields->c7
open PySem.Paired renaming length->ye
open PySem.PassesOwn renaming never->o0,leaving->o4
open PySem.SeqAt renaming EqAt->ot,RcAt->ou
open PySem.SeqAt.EqAt renaming same->xb,of_refs->j4
open PySem.SeqAt.RcAt renaming none_none->i6,bool_bool->i7,int_int->i8,str_str->i9,tuples->j3,lists->j5,lists_lengths->j6
open PySem.Str renaming ofString->db
open PySem.Value renaming none->ck,ref->gw,type->nh,int->qy,bool->qz,str->uo
open PySem.W renaming Frag->ae,nsIn->dh,keepIn->dq,fnOf->dy,excIn->gg,mg_none_of->gv,kia_one->ig,kas_sort->jc,codeIn->jo,kitOne->ka,mg_of->mf,OpenLaw->oi,kHook->qx,instObj->uq,methodObj->ur,hideAll->ut,hideAll_get->uu,lookIn->vf,findIn->vg,kitx_list->vh,kat_nil->xj,xlAt->yb,recOk->yc,of_hideAll->yh,plainGet->yo,specialIn->yp,kitx_tuple->yq,kitx_dict->yr,callWith_K->yt,cellsFrom_some->yu,kitCls->f7,kitMeta->g5,subIn->g6
open PySem.W.Hook renaming obs->ui,val->uj
open PySem.W.OpenLaw renaming row->um,wellSaid->u8
open PySem.W.OpenRow renaming toRowW->ul
open PySem.W.RowW renaming records->uk
open Sum renaming inl->kl,inr->km
open True renaming intro->qc
abbrev AB:=List Int
abbrev AE:=List AB
abbrev AF:=List AE
abbrev AG:=List PySem.Value
abbrev AH:=Option PySem.Value
abbrev AI:=Option PySem.Addr
abbrev AJ:=Option Int
namespace L2
open PySem
def gJ(s:Stmt):Arguments:=match s with
 |.FunctionDef _ a _ _ _ _ _ _ _ _=>a
 |_=>{posonlyargs:=[],args:=[],vararg:=none,kwonlyargs:=[],kw_defaults:=[],kwarg:=none,defaults:=[]}
def fB(s:Stmt):List Stmt:=match s with
 |.FunctionDef _ _ b _ _ _ _ _ _ _=>b
 |_=>[]
def cV(s:Stmt):Scope:=match s with
 |.FunctionDef _ _ _ _ _ _ sc _ _ _=>sc
 |_=>{kind:=.function,names:=[],isGenerator:=false,isCoroutine:=false}
end L2
namespace Sc
noncomputable section
open PySem L2
def aV(i:Nat):Stmt:=my.main.body.getD i (.Pass ⟨0,0,0,0⟩)
abbrev vs(s:String)(t:Nat):Value:=.str (db s) t
abbrev vi(i:Int):Value:=.int i 0
abbrev vr(a:Nat):Value:=.ref a
abbrev fo(n:String)(i:Nat)(dV dc pm cd ct:Value):Obj:=⟨.type "function",none,.func (dy (db n) (db n) (gJ (aV i)) (fB (aV i)) (cV (aV i)) dV .none dc pm none cd ct),#[]⟩
abbrev fc(l:AG):Obj:=⟨.type "code",none,.fields l.toArray,#[]⟩
abbrev Nu(n:String)(t l a r g:Nat)(x:AG):Obj:=fc (vs n t::vs n (t+1)::vs "/claim/cut.py" (t+2)::vi l::vi a::vi 0::vi 0::vi 3::vr r:: .bool true::vi g::vr (r+1):: .none::x)
abbrev fA(n:String)(t l a r g u:Nat):Obj:=Nu n t l a r g [vr (r+2),vr (r+3),vr (r+4),vi u,vi l,vs "/claim/cut.py" (u+1)]
abbrev eX(n:String)(t l a r g:Nat):Obj:=Nu n t l a r g [.none,.none,vr (r+2),vi (t+3),vi l,vs "/claim/cut.py" (t+4)]
abbrev fd(P:ng)(n:Nat)(l:List (String×Nat×Value)):Obj:=⟨.type "dict",none,.dict (l.map λe=>⟨PyData.keyHash P (db e.1),.str (db e.1) e.2.1,e.2.2⟩).toArray n,#[]⟩
abbrev vLq:Value:=vs "law_scissorhall_k56_layers_agree" 456
abbrev fzq (n:String)(i:Nat)(m:Value)(r:Nat):Obj:=fo n i .none .none m (vr r) .none
abbrev v0q:Value:=vs "scissorhall.points" 305
abbrev v1q:Value:=vs "scissorhall.folds" 410
abbrev v2q:Value:=vs "scissorhall.lowest" 255
noncomputable def KK(P:ng):ae:=
 (nat_lit 3,fd P 72 [("__name__",165,vs "law_scissorhall_k56_layers_agree" 456),("__doc__",166,.none),("__package__",167,.none),("__loader__",168,(.builtin "__main__.__loader__#opaque")),("__spec__",169,.none),("__annotations__",170,vr 6),("__builtins__",171,vr 4),("__file__",173,vs "/claim/cut.py" 172),("__cached__",174,.none),("HallError",206,vr 24),("NoNumber",222,vr 37),("NoPoint",238,vr 49),("OnSide",254,vr 61),("sign",263,vr 70),("divisor",272,vr 77),("reduced",278,vr 82),("fraction",288,vr 90),("divided",296,vr 97),("shared",304,vr 104),("point",313,vr 110),("measures",319,vr 115),("point_at",325,vr 120),("added",331,vr 125),("lessened",339,vr 132),("turned",345,vr 137),("whole_arrow",351,vr 142),("dot",357,vr 147),("normal",366,vr 154),("determinant",372,vr 159),("side",379,vr 166),("replaced",390,vr 173),("standing",396,vr 178),("count_at",409,vr 185),("steps",417,vr 190),("in_steps",423,vr 195),("folded",429,vr 200),("in_first_cell",435,vr 205),("spots_over",441,vr 210),("layers",455,vr 217),("_law_row",470,vr 224),("_law_take",479,vr 231),("_law_gcd",487,vr 238),("_law_lowest",493,vr 243),("_law_whole",500,vr 250),("_law_frac",508,vr 257),("_law_sum",516,vr 264),("_law_times",524,vr 271),("_law_joined",530,vr 276),("_law_gap",536,vr 281),("_law_cross",547,vr 288),("_law_dot",553,vr 293),("_law_turn",560,vr 300),("_law_det",566,vr 305),("_law_simplex",574,vr 312),("_law_bulk",583,vr 319),("_law_heap_bulk",592,vr 326),("_law_raw",598,vr 331),("_law_raw_turn",604,vr 336),("_law_far",610,vr 341),("_law_stretch",621,vr 348),("_law_spot",627,vr 353),("_law_laid",633,vr 358),("_law_handed",641,vr 365),("_law_alike",647,vr 370),("_law_parted",653,vr 375),("_law_two_alike",667,vr 382),("_law_plain_kuhn",678,vr 389),("_law_over",688,vr 396),("_law_near",694,vr 401),("_law_cell_bulk",703,vr 408),("_law_flat_right",709,vr 413),("law",715,vr 418)])::
 (nat_lit 23,fd P 3 [("__module__",196,vs "scissorhall.errors" 187),("__firstlineno__",200,(.int 2 199)),("__static_attributes__",201,vr 22),("__weakref__",203,vr 25),("__doc__",204,.none)])::
 (nat_lit 24,⟨(.type "type"),none,.cls {name:="HallError",bases:=[(.type "ValueError")],mro:=[vr 24,(.type "ValueError"),(.type "Exception"),(.type "BaseException"),(.type "object")],ns:=23,qualname:="HallError",hasDict:=true,subclasses:=[vr 37,vr 49,vr 61]},#[some (vr 15),none,some (vs "HallError" 189),some (vs "HallError" 197),some (.builtin "ValueError.__new__"),some (.bool true)]⟩)::
 (nat_lit 36,fd P 2 [("__module__",214,vs "scissorhall.errors" 187),("__firstlineno__",218,(.int 4 217)),("__static_attributes__",219,vr 35),("__doc__",220,.none)])::
 (nat_lit 37,⟨(.type "type"),none,.cls {name:="NoNumber",bases:=[vr 24],mro:=[vr 37,vr 24,(.type "ValueError"),(.type "Exception"),(.type "BaseException"),(.type "object")],ns:=36,qualname:="NoNumber",hasDict:=true,subclasses:=[]},#[some (vr 28),none,some (vs "NoNumber" 207),some (vs "NoNumber" 215),some (.builtin "ValueError.__new__"),some (.bool true)]⟩)::
 (nat_lit 48,fd P 2 [("__module__",230,vs "scissorhall.errors" 187),("__firstlineno__",234,(.int 6 233)),("__static_attributes__",235,vr 47),("__doc__",236,.none)])::
 (nat_lit 49,⟨(.type "type"),none,.cls {name:="NoPoint",bases:=[vr 24],mro:=[vr 49,vr 24,(.type "ValueError"),(.type "Exception"),(.type "BaseException"),(.type "object")],ns:=48,qualname:="NoPoint",hasDict:=true,subclasses:=[]},#[some (vr 40),none,some (vs "NoPoint" 223),some (vs "NoPoint" 231),some (.builtin "ValueError.__new__"),some (.bool true)]⟩)::
 (nat_lit 60,fd P 2 [("__module__",246,vs "scissorhall.errors" 187),("__firstlineno__",250,(.int 8 249)),("__static_attributes__",251,vr 59),("__doc__",252,.none)])::
 (nat_lit 61,⟨(.type "type"),none,.cls {name:="OnSide",bases:=[vr 24],mro:=[vr 61,vr 24,(.type "ValueError"),(.type "Exception"),(.type "BaseException"),(.type "object")],ns:=60,qualname:="OnSide",hasDict:=true,subclasses:=[]},#[some (vr 52),none,some (vs "OnSide" 239),some (vs "OnSide" 247),some (.builtin "ValueError.__new__"),some (.bool true)]⟩)::
 (nat_lit 69,fA "sign" 257 11 1 64 181 261)::
 (nat_lit 70,fzq "sign" 6 v2q 69)::
 (nat_lit 76,fA "divisor" 264 17 2 71 181 270)::
 (nat_lit 77,fzq "divisor" 7 v2q 76)::
 (nat_lit 81,eX "reduced" 273 23 1 78 181)::
 (nat_lit 82,fzq "reduced" 8 v2q 81)::
 (nat_lit 83,⟨.type "tuple",none,.seq #[(.int 1 279)] 0,#[]⟩)::
 (nat_lit 89,fA "fraction" 280 28 2 84 181 286)::
 (nat_lit 90,fo "fraction" 9 (vr 83) .none v2q (vr 89) .none)::
 (nat_lit 96,fA "divided" 289 33 2 91 181 294)::
 (nat_lit 97,fzq "divided" 10 v2q 96)::
 (nat_lit 103,fA "shared" 297 35 2 98 181 302)::
 (nat_lit 104,fzq "shared" 11 v2q 103)::
 (nat_lit 105,⟨.type "tuple",none,.seq #[(.int 1 307)] 0,#[]⟩)::
 (nat_lit 109,eX "point" 308 38 2 106 181)::
 (nat_lit 110,fo "point" 13 (vr 105) .none v0q (vr 109) .none)::
 (nat_lit 114,eX "measures" 314 42 1 111 181)::
 (nat_lit 115,fzq "measures" 14 v0q 114)::
 (nat_lit 119,eX "point_at" 320 44 1 116 181)::
 (nat_lit 120,fzq "point_at" 15 v0q 119)::
 (nat_lit 124,eX "added" 326 49 2 121 181)::
 (nat_lit 125,fzq "added" 16 v0q 124)::
 (nat_lit 131,fA "lessened" 332 52 2 126 181 337)::
 (nat_lit 132,fzq "lessened" 17 v0q 131)::
 (nat_lit 136,eX "turned" 340 54 1 133 181)::
 (nat_lit 137,fzq "turned" 18 v0q 136)::
 (nat_lit 141,eX "whole_arrow" 346 56 2 138 181)::
 (nat_lit 142,fzq "whole_arrow" 19 v0q 141)::
 (nat_lit 146,eX "dot" 352 58 2 143 181)::
 (nat_lit 147,fzq "dot" 20 v0q 146)::
 (nat_lit 153,fA "normal" 358 60 1 148 181 364)::
 (nat_lit 154,fzq "normal" 21 v0q 153)::
 (nat_lit 158,eX "determinant" 367 66 1 155 181)::
 (nat_lit 159,fzq "determinant" 22 v0q 158)::
 (nat_lit 165,fA "side" 373 69 1 160 181 377)::
 (nat_lit 166,fzq "side" 23 v0q 165)::
 (nat_lit 172,fA "replaced" 382 72 3 167 181 388)::
 (nat_lit 173,fzq "replaced" 25 (vs "scissorhall.simplexes" 380) 172)::
 (nat_lit 177,eX "standing" 391 74 2 174 181)::
 (nat_lit 178,fzq "standing" 26 (vs "scissorhall.simplexes" 380) 177)::
 (nat_lit 184,fA "count_at" 399 77 2 179 181 407)::
 (nat_lit 185,fzq "count_at" 28 (vs "scissorhall.heaps" 397) 184)::
 (nat_lit 189,eX "steps" 412 87 1 186 181)::
 (nat_lit 190,fzq "steps" 30 v1q 189)::
 (nat_lit 194,eX "in_steps" 418 96 2 191 181)::
 (nat_lit 195,fzq "in_steps" 31 v1q 194)::
 (nat_lit 199,eX "folded" 424 98 2 196 181)::
 (nat_lit 200,fzq "folded" 32 v1q 199)::
 (nat_lit 204,eX "in_first_cell" 430 100 1 201 181)::
 (nat_lit 205,fzq "in_first_cell" 33 v1q 204)::
 (nat_lit 209,eX "spots_over" 436 102 2 206 181)::
 (nat_lit 210,fzq "spots_over" 34 v1q 209)::
 (nat_lit 216,fA "layers" 442 111 3 211 181 453)::
 (nat_lit 217,fzq "layers" 35 v1q 216)::
 (nat_lit 223,fA "_law_row" 458 120 1 218 181 468)::
 (nat_lit 224,fzq "_law_row" 37 vLq 223)::
 (nat_lit 230,fA "_law_take" 471 134 2 225 181 477)::
 (nat_lit 231,fzq "_law_take" 38 vLq 230)::
 (nat_lit 237,fA "_law_gcd" 480 142 2 232 181 485)::
 (nat_lit 238,fzq "_law_gcd" 39 vLq 237)::
 (nat_lit 242,eX "_law_lowest" 488 148 1 239 181)::
 (nat_lit 243,fzq "_law_lowest" 40 vLq 242)::
 (nat_lit 249,fA "_law_whole" 494 155 1 244 181 498)::
 (nat_lit 250,fzq "_law_whole" 41 vLq 249)::
 (nat_lit 256,fA "_law_frac" 501 157 2 251 181 506)::
 (nat_lit 257,fzq "_law_frac" 42 vLq 256)::
 (nat_lit 263,fA "_law_sum" 509 161 2 258 181 514)::
 (nat_lit 264,fzq "_law_sum" 43 vLq 263)::
 (nat_lit 270,fA "_law_times" 517 163 2 265 181 522)::
 (nat_lit 271,fzq "_law_times" 44 vLq 270)::
 (nat_lit 275,eX "_law_joined" 525 165 3 272 181)::
 (nat_lit 276,fzq "_law_joined" 45 vLq 275)::
 (nat_lit 280,eX "_law_gap" 531 168 2 277 181)::
 (nat_lit 281,fzq "_law_gap" 46 vLq 280)::
 (nat_lit 287,fA "_law_cross" 537 170 2 282 181 545)::
 (nat_lit 288,fzq "_law_cross" 47 vLq 287)::
 (nat_lit 292,eX "_law_dot" 548 175 2 289 181)::
 (nat_lit 293,fzq "_law_dot" 48 vLq 292)::
 (nat_lit 299,fA "_law_turn" 554 177 1 294 181 558)::
 (nat_lit 300,fzq "_law_turn" 49 vLq 299)::
 (nat_lit 304,eX "_law_det" 561 181 1 301 181)::
 (nat_lit 305,fzq "_law_det" 50 vLq 304)::
 (nat_lit 311,fA "_law_simplex" 567 183 1 306 181 572)::
 (nat_lit 312,fzq "_law_simplex" 51 vLq 311)::
 (nat_lit 318,fA "_law_bulk" 575 188 1 313 181 581)::
 (nat_lit 319,fzq "_law_bulk" 52 vLq 318)::
 (nat_lit 325,fA "_law_heap_bulk" 584 193 1 320 181 590)::
 (nat_lit 326,fzq "_law_heap_bulk" 53 vLq 325)::
 (nat_lit 330,eX "_law_raw" 593 198 3 327 181)::
 (nat_lit 331,fzq "_law_raw" 54 vLq 330)::
 (nat_lit 335,eX "_law_raw_turn" 599 205 1 332 181)::
 (nat_lit 336,fzq "_law_raw_turn" 55 vLq 335)::
 (nat_lit 340,eX "_law_far" 605 207 2 337 181)::
 (nat_lit 341,fzq "_law_far" 56 vLq 340)::
 (nat_lit 347,fA "_law_stretch" 611 213 2 342 181 619)::
 (nat_lit 348,fzq "_law_stretch" 57 vLq 347)::
 (nat_lit 352,eX "_law_spot" 622 219 2 349 181)::
 (nat_lit 353,fzq "_law_spot" 58 vLq 352)::
 (nat_lit 357,eX "_law_laid" 628 225 3 354 181)::
 (nat_lit 358,fzq "_law_laid" 59 vLq 357)::
 (nat_lit 364,fA "_law_handed" 634 231 2 359 181 639)::
 (nat_lit 365,fzq "_law_handed" 60 vLq 364)::
 (nat_lit 369,eX "_law_alike" 642 235 2 366 181)::
 (nat_lit 370,fzq "_law_alike" 61 vLq 369)::
 (nat_lit 374,eX "_law_parted" 648 241 1 371 181)::
 (nat_lit 375,fzq "_law_parted" 62 vLq 374)::
 (nat_lit 381,fA "_law_two_alike" 654 248 1 376 181 665)::
 (nat_lit 382,fzq "_law_two_alike" 63 vLq 381)::
 (nat_lit 388,fA "_law_plain_kuhn" 668 264 1 383 181 676)::
 (nat_lit 389,fzq "_law_plain_kuhn" 64 vLq 388)::
 (nat_lit 395,fA "_law_over" 679 272 3 390 181 686)::
 (nat_lit 396,fzq "_law_over" 65 vLq 395)::
 (nat_lit 400,eX "_law_near" 689 278 2 397 181)::
 (nat_lit 401,fzq "_law_near" 66 vLq 400)::
 (nat_lit 407,fA "_law_cell_bulk" 695 288 1 402 181 701)::
 (nat_lit 408,fzq "_law_cell_bulk" 67 vLq 407)::
 (nat_lit 412,eX "_law_flat_right" 704 293 5 409 181)::
 (nat_lit 413,fzq "_law_flat_right" 68 vLq 412)::
 (nat_lit 417,eX "law" 710 299 1 414 181)::
 (nat_lit 418,fzq "law" 69 vLq 417)::[]
def KA:List Nat:=[3,23,24,36,37,48,49,60,61,69,70,76,77,81,82,83,89,90,96,97,103,104,105,109,110,114,115,119,120,124,125,131,132,136,137,141,142,146,147,153,154,158,159,165,166,172,173,177,178,184,185,189,190,194,195,199,200,204,205,209,210,216,217,223,224,230,231,237,238,242,243,249,250,256,257,263,264,270,271,275,276,280,281,287,288,292,293,299,300,304,305,311,312,318,319,325,326,330,331,335,336,340,341,347,348,352,353,357,358,364,365,369,370,374,375,381,382,388,389,395,396,400,401,407,408,412,413,417,418]
def VW:Program:={my with main:={my.main with body:=[aV 1,aV 2,aV 3,aV 4,aV 6,aV 7,aV 8,aV 10,aV 11,aV 14,aV 15,aV 16,aV 17,aV 18,aV 19,aV 20,aV 21,aV 22,aV 23,aV 25,aV 26,aV 28,aV 30,aV 31,aV 32,aV 33,aV 34,aV 35,aV 37,aV 38,aV 39,aV 40,aV 41,aV 42,aV 43,aV 44,aV 45,aV 46,aV 47,aV 48,aV 49,aV 50,aV 51,aV 52,aV 53,aV 54,aV 55,aV 56,aV 57,aV 58,aV 59,aV 60,aV 61,aV 62,aV 63,aV 64,aV 65,aV 66,aV 67,aV 68,aV 69]}}
theorem KE:∀P,KA=(KK P).map (·.1):=λ_=>by kernel_rfl
theorem wsaid:u8 pf=true:=by kernel_rfl
open PySem.W PyProof.Rows PySem.Spec
abbrev RN(w:am):=openEnds treeTable my w 5280
abbrev LW:=looseW VW [db "fraction",db "point"]
theorem acG:∀w,(RN w).map (λs=>ui (qx KK KA KE) s)=some (uj (qx KK KA KE) w):=by
 intro w
 kernel_rfl
theorem acv:∀w,(RN w).map (λs=>seen ((recsOf VW).map (·.name)) (ownsOf VW) [] {s with gens:=#[]})=some (expectedOf VW):=by
 intro w
 kernel_rfl
theorem ac9:∀w,(RN w).map (λs=>s.heap.bltView)=some (bltViewBooted):=by
 intro w
 kernel_rfl
theorem acq:∀w,(RN w).map (λs=>s.heap.keysOk LW ((recsOf VW).map (·.name)) ((litsOf VW).map (·.1)) ((clssOf VW LW).map (·.name)))=some (true):=by
 intro w
 kernel_rfl
theorem ab9:∀w,(RN w).map (λs=>s.heap.accountedOkI (importedModules my.main.body)&&(s.heap.isNs mainGlobals&&s.heap.isNs builtinsNs&&tablesOk VW s.heap)&&((λs=>yb VW [] s&&yc (uk (ul (um pf))) s) s&&(s.gens.size==0)))=some (true):=by
 intro w
 kernel_rfl
theorem adb:∀w,(RN w).map (λs=>tabsOk VW s)=some (true):=by
 intro w
 kernel_rfl
theorem ac6:∀w,(RN w).map (λs=>(pinSeenD VW (drecsOf VW) s,plainSeenD VW [db "fraction",db "point"] s,clsSeenW VW [db "fraction",db "point"] s))=some (pinGoodD (drecsOf VW),plainGoodD VW [db "fraction",db "point"],clsGoodW VW [db "fraction",db "point"]):=by
 intro w
 kernel_rfl
theorem ade:∀w,(RN w).map (λs=>plainSeenE VW LW s)=some (plainGoodE VW LW):=by
 intro w
 kernel_rfl
theorem acr:∀w,(RN w).map (λs=>wideSeen VW s)=some (wideGood VW):=by
 intro w
 kernel_rfl
theorem bz{k a n m t x g:Bool}(h:k=true)(h2:(a&&(n&&m&&t)&&(x&&g))=true):(k&&a&&n&&m&&t&&x&&g)=true:=by
 revert h h2
 cases k<;>cases a<;>cases n<;>cases m<;>cases t<;>cases x<;>cases g<;>decide
theorem adK{A B C P Q R T V Y:Type}{o:Option aa}{y:Y}{G:aa->Y}{k a n m t x g f:aa->Bool}{b:aa->B}{c:aa->C}{p:aa->P}{q:aa->Q}{r:aa->R}{u:aa->T}{v:aa->V}{b':B}{c':C}{p':P}{q':Q}{r':R}{u':T}{v':V}(hA:o.map G=some y)(hB:o.map b=some b')(hC:o.map c=some c')(hD:o.map k=some true)(hE:o.map (λs=>a s&&(n s&&m s&&t s)&&(x s&&g s))=some true)(hF:o.map f=some true)
  (hG:o.map (λs=>(p s,q s,r s))=some (p',q',r'))(hH:o.map u=some u')(hI:o.map v=some v'):o.map (λs=>((b s,c s,(k s&&a s&&n s&&m s&&t s&&x s&&g s),f s,p s,u s,q s,v s,r s),G s))=some ((b',c',true,true,p',u',q',v',r'),y):=by
 cases o with
 |none=>cases hA
 |some s=>
  have G1:=yd (cc hG);have G2:=yd G1.2;exact congrArg some (jh (jh (cc hB) (jh (cc hC) (jh (bz (cc hD) (cc hE)) (jh (cc hF) (jh G1.1 (jh (cc hH) (jh G2.1 (jh (cc hI) G2.2)))))))) (cc hA))
theorem left:LeftO my VW [db "fraction",db "point"] (λs=>yb VW [] s&&yc (uk (ul (um pf))) s) (ui (qx KK KA KE)) (uj (qx KK KA KE)) 5280:=λw=>adK (A:=Nat) (acG w) (acv w) (ac9 w) (acq w) (ab9 w) (adb w) (ac6 w) (ade w) (acr w)
end
end Sc
set_option maxHeartbeats 200000
set_option Elab.async false
set_option compiler.extract_closed false
set_option bootstrap.genMatcherCode false
set_option linter.all false
set_option maxRecDepth 100000
namespace L2
open PySem PySem.Spec PyProof.Rows
abbrev gS:=Sum Int Str
def Vs:gS->Value->Bool
 |.inl k,v=>Value.isInt k v
 |.inr x,v=>Value.isStrOf x v
def adU(w:am):gS->Int
 |.inl k=>hashInt k
 |.inr x=>hashStr w x
theorem mE:∀{k:gS}{v:Value},Vs k v=true->(∃i t,k=kl i/\v=qy i t)\/(∃x t,k=km x/\v=uo x t)
 |.inl i,v,h=>by
  obtain⟨t,e⟩:=Value.isInt_shape (k:=i) (v:=v) h;exact .inl ⟨i,t,rfl,e⟩
 |.inr x,v,h=>by
  obtain⟨t,e⟩:=Value.isStrOf_shape (x:=x) (v:=v) h;exact .inr ⟨x,t,rfl,e⟩
theorem aa2(a b:Int):decide ((kl a:gS)=kl b)=(a==b):=by
 by_cases e:a=b
 .subst e;simp
 .have h:¬(kl a:gS)=kl b:=λq=>e (Sum.inl.inj q)
  rw[decide_eq_false h];exact(beq_eq_false_iff_ne.mpr e).symm
theorem abm(a b:Str):decide ((km a:gS)=km b)=decide (a=b):=by
 by_cases e:a=b
 .subst e;simp
 .have h:¬(km a:gS)=km b:=λq=>e (Sum.inr.inj q)
  rw[decide_eq_false h,decide_eq_false e]
theorem aby(a:Int)(b:Str):decide ((kl a:gS)=km b)=false:=decide_eq_false (λq=>nomatch q)
theorem abQ(a:Str)(b:Int):decide ((km a:gS)=kl b)=false:=decide_eq_false (λq=>nomatch q)
def Nc(prog:Program)(w:am):PySem.KeyKind prog w gS where
 is:=Vs
 hash:=adU w
 inj:=λv a b ha hb=>by
  rcases mE ha with⟨i,t,rfl,rfl⟩|⟨x,t,rfl,rfl⟩
  .rcases mE hb with⟨j,u,rfl,e⟩|⟨y,u,rfl,e⟩
   .injection e with e1 _;rw[e1]
   .exact nomatch e
  .rcases mE hb with⟨j,u,rfl,e⟩|⟨y,u,rfl,e⟩
   .exact nomatch e
   .injection e with e1 _;rw[e1]
 byValue:=λk v h=>by
  rcases mE h with⟨i,t,rfl,rfl⟩|⟨x,t,rfl,rfl⟩<;>rfl
 pyHash:=λhv h=>by
  rcases mE hv with⟨i,t,rfl,rfl⟩|⟨x,t,rfl,rfl⟩
  .exact wpAny_pyHash_int h
  .exact wpAny_pyHash_str h
 eqBool:=λhu hv h=>by
  rcases mE hu with⟨i,t,rfl,rfl⟩|⟨x,t,rfl,rfl⟩
  .rcases mE hv with⟨j,u,rfl,rfl⟩|⟨y,u,rfl,rfl⟩
   .rw[aa2]at h;exact wpAny_eqBool_int h
   .rw[aby]at h;exact SeqAt.EqAt.int_str i t y u _ _ _ _ h
  .rcases mE hv with⟨j,u,rfl,rfl⟩|⟨y,u,rfl,rfl⟩
   .rw[abQ]at h;exact SeqAt.EqAt.str_int x t j u _ _ _ _ h
   .rw[abm]at h;exact wpAny_eqBool_str h
 «strs»:=λk x t v h=>by
  rcases mE h with⟨i,u,rfl,e⟩|⟨y,u,rfl,e⟩
  .exact nomatch e
  .injection e with e1 _
   subst e1;cases v<;>rfl
inductive V where
 |non |bl (b:Bool) |int (i:Int) |str (x:Str) |byt (b:Array UInt8) |flt (b:UInt64) |ref (a:Addr) |ty (n:String)
 deriving DecidableEq
def cA:V->Value->Prop
 |.non,u=>u=ck
 |.bl b,u=>u=qz b
 |.int i,u=>∃t,u=qy i t
 |.str x,u=>∃t,u=uo x t
 |.byt b,u=>∃t,u=Value.bytes b t
 |.flt b,u=>∃t,u=Value.float b t
 |.ref a,u=>u=gw a
 |.ty n,u=>u=nh n
abbrev bI:List V->AG->Prop:=kn cA
theorem bI.length{xs:List V}{us:AG}(r:bI xs us):xs.length=us.length:=ye r
theorem bI.get:∀{xs:List V}{us:AG}{i:Nat}{x:V},bI xs us->xs[i]?=some x->∃u,us[i]?=some u/\cA x u
 |_,_,_,_,.nil,e=>by simp at e
 |_,_,0,_,.cons r _,e=>by simp at e;subst e;exact⟨_,rfl,r⟩
 |_,_,i+1,x,.cons _ t,e=>by
  obtain⟨u,h1,h2⟩:=bI.get (i:=i) (x:=x) t (by simpa using e);exact⟨u,by simpa using h1,h2⟩
theorem bI.set{x:V}{u:Value}(r:cA x u):∀{xs:List V}{us:AG}(i:Nat),bI xs us->bI (xs.set i x) (us.set i u)
 |_,_,_,.nil=>.nil
 |_,_,0,.cons _ t=>.cons r t
 |_,_,i+1,.cons q t=>.cons q (bI.set r i t)
theorem bI.append:∀{xs ys:List V}{us ws:AG},bI xs us->bI ys ws->bI (xs++ys) (us++ws)
 |_,_,_,_,.nil,s=>s
 |_,_,_,_,.cons r t,s=>.cons r (bI.append t s)
theorem bI.take:∀{xs:List V}{us:AG}(n:Nat),bI xs us->bI (xs.take n) (us.take n)
 |_,_,0,_=>.nil
 |_,_,_+1,.nil=>.nil
 |_,_,n+1,.cons r t=>.cons r (bI.take n t)
theorem bI.drop:∀{xs:List V}{us:AG}(n:Nat),bI xs us->bI (xs.drop n) (us.drop n)
 |_,_,0,r=>r
 |_,_,_+1,.nil=>.nil
 |_,_,n+1,.cons _ t=>bI.drop n t
def Le:Option V->AH->Prop
 |some v,some u=>cA v u
 |none,none=>True
 |_,_=>False
def KV{κ:Type}:List (κ×V)->List (κ×Value)->Prop:=kn λ(p:κ×V) (q:κ×Value)=>p.1=q.1/\cA p.2 q.2
def kV:gS->V
 |.inl i=>.int i
 |.inr x=>.str x
inductive HO where
 /--a list -/
 |lst (xs:List V)
 /--a tuple (never changes) -/
 |tup (xs:List V)
 /--a dict whose keys are ints and texts;one whose keys are tuples of ints and texts (the empty one is both) -/
 |dK (kvs:List (gS×V)) |dT (kvs:List (List gS×V))
 /--a set of ints:its members,its size -/
 |set (S:Int->Bool) (n:Nat)
 /--an instance of the class at C,its dict at dx,its attributes -/
 |ins (C dx:Addr) (fs:List (Str×V))
 /--the dict of the instance at x -/
 |own (x:Addr)
 /--the dict of an exception -/
 |xd (fs:List (Str×V))
 /--a bound method,f of x -/
 |met (f x:Addr)
 /--a range object lo,lo+1,.. below hi -/
 |rng (lo hi:Int)
 /--a thing that is known to the object (the script;a dict while a loop walks it):read,never written while it is so -/
 |frz (o:Obj) (u:HO)
 /--a code object's table -/
 |tbl (ps:Array Value)
 /--any other thing,by what is true of its one object (a def of one's own:SetO a S n:=HO.ext λh=>..) -/
 |ext (φ:Heap->Prop)
abbrev Hp:=Addr->Option HO
def bK(H:Hp)(a:Addr)(o:HO):Hp:=λb=>if b=a then some o else H b
theorem jG{H:Hp}{a:Addr}{o:HO}:bK H a o a=some o:=by unfold bK;rw[if_pos rfl]
theorem dD{H:Hp}{a b:Addr}{o:HO}(h:b≠a):bK H a o b=H b:=by unfold bK;rw[if_neg h]
theorem gI{H:Hp}{a b:Addr}{o:HO}(h:H a=some o)(h':H b=none):a≠b:=by
 intro e;subst e;rw[h]at h';cases h'
section
variable(P:Program)(w:am)
def fP(H:Hp)(h:Heap)(a:Addr):HO->Prop
 |.lst xs=>xs.length<=sizeLine/\∃(its:AG)(n:Nat),bI xs its/\h.get? a=some {cls:=.type "list",data:=.seq its.toArray n}
 |.tup xs=>(xs.length<=sizeLine/\∃o,h.get? a=some o/\o.dict=none)/\∃its:AG,bI xs its/\IsTup h a its.toArray
 |.dK kvs=>kvs.length<=sizeLine/\(a==sysModules)=false/\∃vs,KV kvs vs/\h.DictOf (Nc P w) a vs
 |.dT kvs=>kvs.length<=sizeLine/\(a==sysModules)=false/\∃xs:List (List gS×Addr×Value),
   kn (λ(p:List gS×V) (q:List gS×Addr×Value)=>p.1=q.1/\H q.2.1=some (.tup (p.1.map kV))/\cA p.2 q.2.2) kvs xs/\
   ∃o es ep,h.get? a=some o/\o.ExactDict/\o.data=.dict es ep/\es.toList=xs.map (entryOfKey (tupleKind (Nc P w)))/\(xs.map (·.1)).Nodup
 |.set S n=>h.SetOf (intKind P w) a S n
 |.ins C dx fs=>H dx=some (.own a)/\fs.length<=1000/\dx≠a/\h.get? a=some (uq C dx)/\
   ∃mA,h.Ns1 dx mA/\(∀f,Le (fs.lookup f) (mA f))/\yf mA (fs.map (·.1))
 |.own _=>∃o,h.get? a=some o
 |.xd fs=>∃mA,h.Ns1 a mA/\∀f,Le (fs.lookup f) (mA f)
 |.rng lo hi=>∃t u v,h.get? a=some {cls:=.type "range",data:=.fields #[.int lo t,.int hi u,.int 1 v]}
 |.frz o u=>h.get? a=some o/\fP H h a u
 |.tbl ps=>h.get? a=some {cls:=.none,data:=.fields ps}
 |.met f x=>h.get? a=some (ur (.ref f) (.ref x))
 |.ext φ=>φ h/\(∃o,h.get? a=some o)/\∀h1 h2:Heap,φ h1->(∀o,h1.get? a=some o->h2.get? a=some o)->φ h2
def fJ(H:Hp)(h:Heap):Prop:=∀a o,H a=some o->fP P w H h a o
end
section
variable{P:Program}{w:am}{H H':Hp}{h h':Heap}{a:Addr}{o:HO}
theorem fP.lt(x:fP P w H h a o):a<h.objs.size:=by
 cases o with
 |lst xs=>obtain⟨_,_,_,_,e⟩:=x;exact bn e
 |tup xs=>obtain⟨_,_,_,p⟩:=x;exact p.lt
 |dK kvs=>obtain⟨_,_,_,_,o,_,_,e,_⟩:=x;exact bn e
 |dT kvs=>obtain⟨_,_,_,_,o,_,_,e,_⟩:=x;exact bn e
 |set S n=>obtain⟨o,_,_,_,e,_⟩:=x;exact bn e
 |ins C dx fs=>obtain⟨_,_,_,e,_⟩:=x;exact bn e
 |own y=>obtain⟨_,e⟩:=x;exact bn e
 |xd fs=>obtain⟨_,⟨_,_,_,e,_⟩,_⟩:=x;exact bn e
 |rng lo hi=>obtain⟨_,_,_,e⟩:=x;exact bn e
 |frz ob u=>obtain⟨e,_⟩:=x;exact bn e
 |tbl ps=>exact bn (show h.get? a=some _ from x)
 |met f y=>exact bn (show h.get? a=some _ from x)
 |ext φ=>obtain⟨_,⟨_,e⟩,_⟩:=x;exact bn e
theorem Paired.mapP{α β:Type}{F G:α->β->Prop}:∀{l₁:List α}{l₂:List β},kn F l₁ l₂->(∀a b,F a b->G a b)->kn G l₁ l₂
 |_,_,.nil,_=>.nil
 |_,_,.cons r t,f=>.cons (f _ _ r) (Paired.mapP t f)
theorem fP.stay(x:fP P w H h a o)(k:∀b u,(b=a\/H b=some (.own a))->h.get? b=some u->h'.get? b=some u)
  (ho:∀b,H b=some (.own a)->H' b=some (.own a))(ht:∀b xs,H b=some (.tup xs)->H' b=some (.tup xs)):fP P w H' h' a o:=by
 induction o with
 |lst xs=>obtain⟨z,its,n,r,e⟩:=x;exact⟨z,its,n,r,k _ _ (.inl rfl) e⟩
 |tup xs=>obtain⟨⟨z,o9,e9,d9⟩,its,r,ob,e,c⟩:=x;exact⟨⟨z,o9,k _ _ (.inl rfl) e9,d9⟩,its,r,ob,k _ _ (.inl rfl) e,c⟩
 |dK kvs=>obtain⟨z,y,vs,r,ob,es,ep,e,c⟩:=x;exact⟨z,y,vs,r,ob,es,ep,k _ _ (.inl rfl) e,c⟩
 |dT kvs=>
  obtain⟨z,y,xs,r,ob,es,ep,e,c⟩:=x;exact⟨z,y,xs,Paired.mapP r λp q z=>⟨z.1,ht _ _ z.2.1,z.2.2⟩,ob,es,ep,k _ _ (.inl rfl) e,c⟩
 |set S n=>obtain⟨ob,es,ep,t,e,c⟩:=x;exact⟨ob,es,ep,t,k _ _ (.inl rfl) e,c⟩
 |ins C dx fs=>
  obtain⟨d,z,ne,e,mA,⟨od,es,ep,e2,c⟩,r⟩:=x;exact⟨ho _ d,z,ne,k _ _ (.inl rfl) e,mA,⟨od,es,ep,k _ _ (.inr d) e2,c⟩,r⟩
 |own y=>obtain⟨ob,e⟩:=x;exact⟨ob,k _ _ (.inl rfl) e⟩
 |xd fs=>obtain⟨mA,⟨od,es,ep,e,c⟩,r⟩:=x;exact⟨mA,⟨od,es,ep,k _ _ (.inl rfl) e,c⟩,r⟩
 |rng lo hi=>obtain⟨t,u,v,e⟩:=x;exact⟨t,u,v,k _ _ (.inl rfl) e⟩
 |frz ob u ih=>obtain⟨e,q⟩:=x;exact⟨k _ _ (.inl rfl) e,ih q⟩
 |tbl ps=>
  have e:h.get? a=some {cls:=.none,data:=.fields ps}:=x;show h'.get? a=some {cls:=.none,data:=.fields ps};exact k a _ (.inl rfl) e
 |met f y=>
  have e:h.get? a=some (ur (.ref f) (.ref y)):=x;show h'.get? a=some (ur (.ref f) (.ref y));exact k a _ (.inl rfl) e
 |ext φ=>obtain⟨p,⟨o,e⟩,st⟩:=x;exact⟨st _ _ p λo q=>k _ _ (.inl rfl) q,⟨o,k _ _ (.inl rfl) e⟩,st⟩
theorem fJ.lt(x:fJ P w H h)(e:H a=some o):a<h.objs.size:=(x a o e).lt
theorem fJ.fresh(x:fJ P w H h)(e:h.objs.size<=a):H a=none:=by
 cases q:H a with
 |none=>rfl
 |some u=>exact absurd (de (x.lt q) e) (iu _)
theorem fJ.kept(x:fJ P w H h)(k:∀b u,h.get? b=some u->h'.get? b=some u):fJ P w H h':=λa o e=>
 (x a o e).stay (λb u _ q=>k b u q) (λ_ q=>q) λ_ _ q=>q
theorem fJ.laid(x:fJ P w H h)(k:∀b u,h.get? b=some u->h'.get? b=some u)(hp:h.objs.size<=a)(new:fP P w (bK H a o) h' a o):fJ P w (bK H a o) h':=λb u e=>by
 have hn:=x.fresh hp
 by_cases hb:b=a
 .subst hb;rw[jG]at e;cases e;exact new
 .rw[dD hb]at e
  exact(x b u e).stay (λc v _ q=>k c v q) (λc q=>by rw[dD (gI q hn)];exact q) λc xs q=>by rw[dD (gI q hn)];exact q
end
def Rd(H:Hp)(a:Addr)(u:HO):Prop:=H a=some u\/∃o,H a=some (.frz o u)
theorem Rd.ok{P:Program}{w:am}{H:Hp}{h:Heap}{a:Addr}{u:HO}(r:Rd H a u)(x:fJ P w H h):fP P w H h a u:=by
 rcases r with r |⟨o,r⟩
 .exact x a u r
 .obtain⟨_,q⟩:=x a _ r
  exact q
def zA:Option HO->Prop
 |some (.lst _)=>True
 |some (.dK _)=>True
 |some (.dT _)=>True
 |some (.set _ _)=>True
 |some (.ins _ _ _)=>True
 |some (.ext _)=>True
 |_=>False
section
variable{P:Program}{w:am}{H:Hp}{h h':Heap}{x e:Addr}{o':HO}
theorem fJ.write(ok:fJ P w H h)(mu:zA (H x))(he:e=x\/H e=some (.own x))(k:∀b u,b≠e->h.get? b=some u->h'.get? b=some u)(heo:∃u,h'.get? e=some u)
  (new:fP P w (bK H x o') h' x o'):fJ P w (bK H x o') h':=λb u q=>by
 have nown:∀c y,H c=some (.own y)->c≠x:=λc y r z=>by subst z;rw[r]at mu;exact mu
 have ntup:∀c xs,H c=some (.tup xs)->c≠x:=λc xs r z=>by subst z;rw[r]at mu;exact mu
 by_cases hb:b=x
 .subst hb;rw[jG]at q;cases q;exact new
 .rw[dD hb]at q
  by_cases hbe:b=e
  .have q':H b=some (.own x):=by
    rcases he with z |z
    .exact absurd (hbe.trans z) hb
    .rw[hbe];exact z
   rw[q]at q';cases q';obtain⟨v,hv⟩:=heo;exact⟨v,by rw[hbe];exact hv⟩
  .refine(ok b u q).stay (λc v hc r=>k c v ?_ r) (λc r=>by rw[dD (nown c b r)];exact r) λc xs r=>by rw[dD (ntup c xs r)];exact r
   rcases hc with rfl |hc
   .exact hbe
   .rintro rfl
    rcases he with z |z
    .exact nown c b hc z
    .rw[hc]at z;cases z;exact hb rfl
end
structure Un(fs ex:List Addr)(H H':Hp)(h h':Heap):Prop where
 keep:∀b o,h.get? b=some o->H b=none->b∉fs->b∉ex->h'.get? b=some o
 slot:∀b o,h.get? b=some o->H b=none->b∈fs->b∉ex->∃sl,h'.get? b=some {o with slots:=sl}
 free:∀b o,h.get? b=some o->H b=none->b∉ex->H' b=none
 there:∀b o,h.get? b=some o->b∉ex->∃o',h'.get? b=some o'
 tups:∀b xs,H b=some (.tup xs)->H' b=some (.tup xs)
 frzs:∀b o u,H b=some (.frz o u)->H' b=some (.frz o u)
 tbls:∀b ps,H b=some (.tbl ps)->∃more,H' b=some (.tbl (ps++more))
section
variable{fs fs' ex ex':List Addr}{H H1 H2:Hp}{h h1 h2 h':Heap}{a x e:Addr}{o:HO}
theorem Un.any(u:Un fs ex H H1 h h1){b:Addr}{ob:Obj}(q:h.get? b=some ob)(n:H b=none)(hx:b∉ex):∃sl,h1.get? b=some {ob with slots:=sl}:=by
 by_cases hb:b∈fs
 .exact u.slot b ob q n hb hx
 .exact⟨ob.slots,u.keep b ob q n hb hx⟩
theorem Un.trans(a:Un fs ex H H1 h h1)(b:Un fs ex H1 H2 h1 h2):Un fs ex H H2 h h2 where
 keep:=λc ob q n hc hx=>b.keep c ob (a.keep c ob q n hc hx) (a.free c ob q n hx) hc hx
 slot:=λc ob q n hc hx=>by
  obtain⟨sl,e1⟩:=a.slot c ob q n hc hx;obtain⟨sl',e2⟩:=b.slot c _ e1 (a.free c ob q n hx) hc hx;exact⟨sl',e2⟩
 free:=λc ob q n hx=>by
  obtain⟨o',e1⟩:=a.there c ob q hx;exact b.free c o' e1 (a.free c ob q n hx) hx
 there:=λc ob q hx=>by
  obtain⟨o',e1⟩:=a.there c ob q hx;exact b.there c o' e1 hx
 tups:=λc xs q=>b.tups c xs (a.tups c xs q)
 frzs:=λc ob xs q=>b.frzs c ob xs (a.frzs c ob xs q)
 tbls:=λc ps q=>by
  obtain⟨m1,e1⟩:=a.tbls c ps q;obtain⟨m2,e2⟩:=b.tbls c _ e1;exact⟨m1++m2,by rw[e2,yg]⟩
theorem Un.kept(k:∀b u,h.get? b=some u->h'.get? b=some u):Un fs ex H H h h':=
 ⟨λb ob q _ _ _=>k b ob q,λb ob q _ _ _=>⟨ob.slots,k b ob q⟩,λ_ _ _ n _=>n,λb ob q _=>⟨ob,k b ob q⟩,λ_ _ q=>q,λ_ _ _ q=>q,λ_ ps q=>⟨#[],by rw[q];simp⟩⟩
theorem Un.refl:Un fs ex H H h h:=Un.kept λ_ _ q=>q
theorem Un.laid(k:∀b u,h.get? b=some u->h'.get? b=some u)(hp:h.objs.size<=a)(hn:H a=none):Un fs ex H (bK H a o) h h' where
 keep:=λb u q _ _ _=>k b u q
 slot:=λb u q _ _ _=>⟨u.slots,k b u q⟩
 free:=λb u q n _=>by rw[dD (df (de (bn q) hp))];exact n
 there:=λb u q _=>⟨u,k b u q⟩
 tups:=λb xs q=>by rw[dD (gI q hn)];exact q
 frzs:=λb u xs q=>by rw[dD (gI q hn)];exact q
 tbls:=λb ps q=>⟨#[],by rw[dD (gI q hn),q];simp⟩
theorem Un.write(mu:zA (H x))(he:e=x\/H e=some (.own x))(k:∀b u,b≠e->h.get? b=some u->h'.get? b=some u)(heo:∃u,h'.get? e=some u):Un fs ex H (bK H x o) h h':=by
 have hx:∀b,H b=none->b≠x:=λb n z=>by subst z;rw[n]at mu;exact mu
 have hb:∀b,H b=none->b≠e:=λb n z=>by
  subst z;rcases he with r |r
  .exact hx b n r
  .rw[n]at r;cases r
 have hm:∀b u,H b=some u->¬zA (some u)->b≠x:=λb u q nm z=>by subst z;rw[q]at mu;exact nm mu
 refine⟨λb u q n _ _=>k b u (hb b n) q,λb u q n _ _=>⟨u.slots,k b u (hb b n) q⟩,λb u q n _=>by rw[dD (hx b n)];exact n,λb u q _=>?_,
  λb xs q=>by rw[dD (hm b _ q λz=>z)];exact q,λb u xs q=>by rw[dD (hm b _ q λz=>z)];exact q,λb ps q=>⟨#[],by rw[dD (hm b _ q λz=>z),q];simp⟩⟩
 by_cases hbe:b=e
 .subst hbe;exact heo
 .exact⟨u,k b u hbe q⟩
end
def yW(h:Heap)(H:Hp):List Addr:=(aw h.objs.size).filter λa=>(H a).isSome
def mU(h:Heap)(H:Hp):Heap:=ut h (yW h H)
theorem Iy(h:Heap)(H:Hp):(mU h H).objs.size=h.objs.size:=PySem.W.hideAll_size _ _
theorem J3{h:Heap}{H:Hp}{b:Addr}{o:Obj}(e:h.get? b=some o)(n:H b=none):(mU h H).get? b=some o:=
 uu _ e λhm=>by
  have q:(H b).isSome=true:=(uv.mp hm).2;rw[n]at q;simp at q
theorem N8{h:Heap}{H:Hp}{b:Addr}{o:Obj}(e:(mU h H).get? b=some o):h.get? b=some o/\H b=none:=by
 have e':h.get? b=some o:=yh (yW h H) e;refine⟨e',?_⟩;cases q:H b with
 |none=>rfl
 |some x=>
  have hm:b∈yW h H:=uv.mpr ⟨ni.mpr (bn e'),by simp[q]⟩;have z:(mU h H).get? b=none:=PySem.W.hideAll_none (yW h H) hm;rw[z]at e;cases e
def Y5(g h:Heap)(L:Addr):List (Addr×Obj):=(aw h.objs.size).filterMap λa=>if a=L\/(g.get? a).isSome=true then none else(h.get? a).map λo=>(a,o)
def gD(g h:Heap)(L d:Addr):List (Addr×Obj):=(Y5 g h L).filter λp=>decide (p.1≠d)
structure Mod(K:ae)(mg:Str->AH)(base:Heap):Prop where
 kin:K.In base
 glob:base.Ns mainGlobals mg
 blt:∃mb,base.Ns builtinsNs mb/\∀x:Str,x≠"__name__"->mb x=bootBuiltins x
 nolimit:base.NoLimit
structure Cx where
 prog:Program
 w:am
 K:ae
 mg:Str->AH
 base:Heap
 A:ao
 N:List Str
 AQ:aa
 AR:Hp
 env:bi
 outer:List bi
 stack:List bi
 ex:List Addr
 fn:Str->Bool
 calm:Bool
 pn:List (Addr×Obj)
 xe:Value->aa->Prop
def dS(l:List bi):List Addr:=l.filterMap (·.frame)
abbrev Cx.fs(X:Cx):List Addr:=dS X.outer
def sE(sc:Scope)(x:Str):Prop:=sc.names.lookup x=some .local\/sc.names.lookup x=some .cell\/sc.names.lookup x=some .free
def jT(sc:Scope)(x:Str):Prop:=sc.names.lookup x=some .local\/sc.names.lookup x=some .cell
def adW(env:bi)(h:Heap)(m:Str->AH)(x:Str)(u:Value):Prop:=
 (env.kindOf x=some .local/\m x=some u)\/((env.kindOf x=some .cell\/env.kindOf x=some .free)/\∃c,env.cells.lookup x=some c/\h.IsCell c (some u))
structure Cx.Ok(X:Cx):Prop where
 mod:Mod X.K X.mg X.base
 kind:X.env.scope.kind=.function
 glob:X.env.globals=mainGlobals
 blt:X.env.builtins=builtinsNs
 above:X.AQ.heap.objs.size<=X.env.locals
 inj:∀x y c,X.env.cells.lookup x=some c->X.env.cells.lookup y=some c->x=y
 has:∀x,(X.env.kindOf x=some .cell\/X.env.kindOf x=some .free)->∃c,X.env.cells.lookup x=some c
 cab:∀x c,X.fn x=true->X.env.cells.lookup x=some c->X.AQ.heap.objs.size<=c
 hd:X.calm=true->X.A.handled=none
 frames:X.A.frames=some X.stack
 stk:X.stack=X.outer\/(X.stack=X.env::X.outer/\X.env.frame=some X.env.locals)
 exf:∀b∈X.ex,b≠X.env.locals/\∀x c,X.env.cells.lookup x=some c->c≠b
 bs:∀b o,X.base.get? b=some o->X.AQ.heap.get? b=some o/\X.AR b=none
 bsz:X.base.objs.size<=X.AQ.heap.objs.size
 noex:∀b o,X.base.get? b=some o->b∉X.ex
 exfs:∀b∈X.ex,b∉X.fs
 funs:X.AQ.heap.FunFrames X.base X.outer
 frf:∀b∈X.fs,X.AR b=none
structure aH(X:Cx)(AO:List (Addr×Obj))(σ:List (Option V))(H:Hp)(s:aa):Prop where
 ok:X.Ok
 os:s.os=X.AQ.os
 bare:jd s.gens
 base:Un X.fs X.ex X.AR H X.AQ.heap s.heap
 loc:∃m,s.heap.Ns X.env.locals m/\∀(i:Nat)(x:Str)(v:V),X.N[i]?=some x->σ[i]?=some (some v)->sE X.env.scope x->∃u,cA v u/\adW X.env s.heap m x u
 cell:∀x c,X.env.cells.lookup x=some c->∃v,s.heap.IsCell c v
 free:H X.env.locals=none
 freeC:∀x c,X.env.cells.lookup x=some c->H c=none
 pin:∀p∈X.pn++AO,s.heap.get? p.1=some p.2/\H p.1=none/\p.1≠X.env.locals/\p.1∉X.fs/\∀v,p.2.data≠.cell v
 hok:fJ X.prog X.w H s.heap
 len:σ.length=X.N.length
section
variable{X:Cx}{AO:List (Addr×Obj)}{σ:List (Option V)}{H H':Hp}{s:aa}{h':Heap}
theorem Cx.Ok.nofr(ok:X.Ok){b:Addr}{o:Obj}(e:X.base.get? b=some o):b∉X.fs:=λhb=>by
 have:=(ok.funs.mem hb).1;rw[e]at this;cases this
theorem aH.bs(I:aH X AO σ H s):∀b o,X.base.get? b=some o->s.heap.get? b=some o/\H b=none:=λb o e=>
 ⟨I.base.keep b o (I.ok.bs b o e).1 (I.ok.bs b o e).2 (I.ok.nofr e) (I.ok.noex b o e),I.base.free b o (I.ok.bs b o e).1 (I.ok.bs b o e).2 (I.ok.noex b o e)⟩
theorem aH.bk(I:aH X AO σ H s):∀b o,X.base.get? b=some o->s.heap.get? b=some o:=λb o e=>(I.bs b o e).1
theorem aH.mod(I:aH X AO σ H s):Mod X.K X.mg X.base:=I.ok.mod
theorem aH.kIn(I:aH X AO σ H s):X.K.In s.heap:=I.ok.mod.kin.keeps I.bk
theorem aH.lt(I:aH X AO σ H s):X.env.locals<s.heap.objs.size:=let⟨_,hn,_⟩:=I.loc;hn.lt
theorem aH.sz(I:aH X AO σ H s):X.AQ.heap.objs.size<=s.heap.objs.size:=ee I.ok.above (re I.lt)
theorem aH.nofs(I:aH X AO σ H s){a:Addr}(h:s.heap.objs.size<=a):a∉X.fs:=λhb=>by
 obtain⟨_,o,ho,_⟩:=I.ok.funs.mem hb;exact absurd (de (bn ho) (ee I.sz h)) (iu _)
theorem aH.cne(I:aH X AO σ H s):∀x c,X.env.cells.lookup x=some c->c≠X.env.locals:=λx c e z=>by
 obtain⟨v,o,ho,hd⟩:=I.cell x c e;obtain⟨m,⟨o',es,ep,ho',hd',_⟩,_⟩:=I.loc;rw[z,ho']at ho;cases ho;rw[hd']at hd;cases hd
theorem aH.funs(I:aH X AO σ H s):s.heap.FunFrames X.base X.outer:=by
 have all:∀(l:List bi),(∀b∈dS l,b∈X.fs)->X.AQ.heap.FunFrames X.base l->s.heap.FunFrames X.base l:=by
  intro l
  induction l with
  |nil=>intro _ _;trivial
  |cons env r ih=>
   intro hs hl;obtain⟨hk,⟨L,o,hf,hn,ho,hd⟩,hr⟩:=hl;have hL:L∈X.fs:=hs L (by unfold dS;rw[je,hf];exact ce);obtain⟨sl,e⟩:=I.base.slot L o ho (I.ok.frf L hL) hL λz=>I.ok.exfs L z hL;exact⟨hk,⟨L,_,hf,hn,e,hd⟩,ih (λb hb=>hs b (by unfold dS;rw[je,hf];exact ax _ hb)) hr⟩
 exact all X.outer (λ_ hb=>hb) I.ok.funs
theorem aH.stack(I:aH X AO σ H s):s.heap.FunFrames X.base X.stack:=by
 rcases I.ok.stk with e |⟨e,hf⟩
 .rw[e];exact I.funs
 .rw[e]
  obtain⟨m,hn,_⟩:=I.loc;refine .cons (by rw[I.ok.kind];decide) hf hn ?_ I.funs;exact Heap.get?_none_of_le (ee I.ok.bsz I.ok.above)
theorem aH.stkSub(I:aH X AO σ H s):∀b∈dS X.stack,b∈X.env.locals::X.fs:=λb hb=>by
 rcases I.ok.stk with e |⟨e,hf⟩
 .rw[e]at hb;exact ax _ hb
 .rw[e]at hb
  unfold dS at hb;rw[je,hf]at hb;exact hb
theorem aH.stkFree(I:aH X AO σ H s):∀b∈dS X.stack,H b=none:=λb hb=>by
 rcases bo.mp (I.stkSub b hb)with e |hb
 .rw[e];exact I.free
 .obtain⟨_,o,ho,_⟩:=I.ok.funs.mem hb
  exact I.base.free b o ho (I.ok.frf b hb) λz=>I.ok.exfs b z hb
theorem aH.step{g':Array GenState}{t':Nat}{d':Drawn}{ch:List Addr}(I:aH X AO σ H s)
  (hch:∀b∈ch,(b∈X.ex\/X.AQ.heap.objs.size<=b)/\b≠X.env.locals/\(∀x c,X.env.cells.lookup x=some c->c≠b)/\∀p∈X.pn++AO,p.1≠b)
  (keep:∀b o,b≠X.env.locals->b∉X.fs->b∉ch->s.heap.get? b=some o->H b=none->h'.get? b=some o)
  (slot:∀b o,b≠X.env.locals->b∈X.fs->b∉ch->s.heap.get? b=some o->H b=none->∃sl,h'.get? b=some {o with slots:=sl})(free:∀b o,b∉ch->s.heap.get? b=some o->H b=none->H' b=none)
  (there:∀b o,b∉ch->s.heap.get? b=some o->∃o',h'.get? b=some o')
  (tups:∀b xs,H b=some (.tup xs)->H' b=some (.tup xs))(frzs:∀b o u,H b=some (.frz o u)->H' b=some (.frz o u))(tbls:∀b ps,H b=some (.tbl ps)->∃more,H' b=some (.tbl (ps++more)))
  (ns:∀m,s.heap.Ns X.env.locals m->h'.Ns X.env.locals m)(hok:fJ X.prog X.w H' h')(hg:jd g'):
  aH X AO σ H' {s with heap:=h',gens:=g',drawn:=d',toks:=t'}:=by
 have neL:∀b o,X.AQ.heap.get? b=some o->b≠X.env.locals:=λb o e=>df (de (bn e) I.ok.above);have neC:∀b o,X.AQ.heap.get? b=some o->b∉X.ex->b∉ch:=λb o e hx hb=>by
  rcases(hch b hb).1 with z |z
  .exact hx z
  .exact absurd (de (bn e) z) (iu _)
 have cellK:∀x c,X.env.cells.lookup x=some c->∀v,s.heap.IsCell c v->h'.IsCell c v:=λx c e v ⟨o,ho,hd⟩=>by
  have nch:c∉ch:=λz=>(hch c z).2.2.1 x c e rfl
  by_cases hc:c∈X.fs
  .obtain⟨sl,q⟩:=slot c o (I.cne x c e) hc nch ho (I.freeC x c e)
   exact⟨_,q,hd⟩
  .exact⟨o,keep c o (I.cne x c e) hc nch ho (I.freeC x c e),hd⟩
 refine⟨I.ok,I.os,hg,⟨λb o e n hb hx=>?_,λb o e n hb hx=>?_,λb o e n hx=>?_,λb o e hx=>?_,λb xs e=>tups b xs (I.base.tups b xs e),λb o xs e=>frzs b o xs (I.base.frzs b o xs e),λb ps e=>?_⟩,?_,λx c e=>?_,?_,λx c e=>?_,λp hp=>?_,hok,I.len⟩
 .exact keep b o (neL b o e) hb (neC b o e hx) (I.base.keep b o e n hb hx) (I.base.free b o e n hx)
 .obtain⟨sl,e1⟩:=I.base.slot b o e n hb hx
  obtain⟨sl',e2⟩:=slot b _ (neL b o e) hb (neC b o e hx) e1 (I.base.free b o e n hx);exact⟨sl',e2⟩
 .obtain⟨o',e1⟩:=I.base.there b o e hx
  exact free b o' (neC b o e hx) e1 (I.base.free b o e n hx)
 .obtain⟨o',e1⟩:=I.base.there b o e hx
  exact there b o' (neC b o e hx) e1
 .obtain⟨m1,e1⟩:=I.base.tbls b ps e
  obtain⟨m2,e2⟩:=tbls b _ e1;exact⟨m1++m2,by rw[e2,yg]⟩
 .obtain⟨m,hn,hl⟩:=I.loc
  refine⟨m,ns m hn,λi x v e1 e2 e3=>?_⟩;obtain⟨u,r,l⟩:=hl i x v e1 e2 e3;refine⟨u,r,?_⟩;rcases l with l |⟨k,c,e,z⟩
  .exact .inl l
  .exact .inr ⟨k,c,e,cellK x c e _ z⟩
 .obtain⟨v,z⟩:=I.cell x c e
  exact⟨v,cellK x c e v z⟩
 .obtain⟨m,⟨o,_,_,ho,_⟩,_⟩:=I.loc
  exact free _ o (λz=>(hch _ z).2.1 rfl) ho I.free
 .obtain⟨v,o,ho,hd⟩:=I.cell x c e
  exact free c o (λz=>(hch c z).2.2.1 x c e rfl) ho (I.freeC x c e)
 .obtain⟨e,n,ne,nf,d⟩:=I.pin p hp
  have nch:p.1∉ch:=λz=>(hch p.1 z).2.2.2 p hp rfl;exact⟨keep p.1 p.2 ne nf nch e n,free p.1 p.2 nch e n,ne,nf,d⟩
theorem aH.un{t':Nat}(I:aH X AO σ H s)(u:Un X.fs [] H H' s.heap h')(hok:fJ X.prog X.w H' h'):aH X AO σ H' {s with heap:=h',toks:=t'}:=by
 obtain⟨m,⟨o,es,ep,ho,r⟩,_⟩:=id I.loc;obtain⟨sl,hL⟩:=u.any ho I.free (by simp);exact I.step (g':=s.gens) (d':=s.drawn) (ch:=[]) (λ_ z=>nomatch z) (λb o _ hb _ e n=>u.keep b o e n hb (by simp)) (λb o _ hb _ e n=>u.slot b o e n hb (by simp)) (λb o _ e n=>u.free b o e n (by simp)) (λb o _ e=>u.there b o e (by simp)) u.tups u.frzs u.tbls (λm' hm=>by
  obtain⟨o',es',ep',ho',r'⟩:=hm;rw[ho]at ho';cases ho';exact⟨_,es',ep',hL,r'⟩) hok I.bare
theorem aH.call{g':Array GenState}{t':Nat}{d':Drawn}{ch:List Addr}(I:aH X AO σ H s)(u:Un (dS X.stack) ch H H' s.heap h')(hok:fJ X.prog X.w H' h')(hg:jd g')
  (hch:∀b∈ch,(b∈X.ex\/X.AQ.heap.objs.size<=b)/\b≠X.env.locals/\(∀x c,X.env.cells.lookup x=some c->c≠b)/\∀p∈X.pn++AO,p.1≠b):
  aH X AO σ H' {s with heap:=h',gens:=g',drawn:=d',toks:=t'}:=by
 obtain⟨m,⟨o,es,ep,ho,r⟩,_⟩:=id I.loc;obtain⟨sl,hL⟩:=u.any ho I.free λz=>(hch _ z).2.1 rfl;exact I.step (ch:=ch) hch (λb o hL hb hc e n=>u.keep b o e n (λz=>(bo.mp (I.stkSub b z)).elim hL hb) hc) (λb o _ _ hc e n=>u.any e n hc) (λb o hc e n=>u.free b o e n hc) (λb o hc e=>u.there b o e hc) u.tups u.frzs u.tbls (λm' hm=>by
  obtain⟨o',es',ep',ho',r'⟩:=hm;rw[ho]at ho';cases ho';exact⟨_,es',ep',hL,r'⟩) hok hg
theorem aH.turned{t':Nat}{it:Addr}(I:aH X AO σ H s)(k:∀b o,b≠it->s.heap.get? b=some o->h'.get? b=some o)(hn:H it=none)(hL:it≠X.env.locals)
  (h1:it∈X.ex\/X.AQ.heap.objs.size<=it)(h2:∀x c,X.env.cells.lookup x=some c->c≠it)(h3:∀p∈X.pn++AO,p.1≠it):aH X AO σ H {s with heap:=h',toks:=t'}:=by
 have nit:∀b u,H b=some u->b≠it:=λb u e z=>by rw[z,hn]at e;cases e
 refine I.step (g':=s.gens) (d':=s.drawn) (ch:=[it]) (λb hb=>?_) (λb o _ _ hc e _=>k b o (λz=>hc (by simp[z])) e) (λb o _ _ hc e _=>⟨o.slots,k b o (λz=>hc (by simp[z])) e⟩) (λ_ _ _ _ n=>n)
  (λb o hc e=>⟨o,k b o (λz=>hc (by simp[z])) e⟩) (λ_ _ e=>e) (λ_ _ _ e=>e) (λb ps e=>⟨#[],by rw[e];simp⟩) (λm hm=>?_) (λb u e=>?_) I.bare
 .have e:b=it:=by simpa using hb
  subst e;exact⟨h1,hL,h2,h3⟩
 .obtain⟨o,es,ep,ho,r⟩:=hm
  exact⟨o,es,ep,k _ o (ko hL) ho,r⟩
 .refine(I.hok b u e).stay (λc v hc q=>k c v ?_ q) (λ_ q=>q) λ_ _ q=>q
  rcases hc with z |z
  .rw[z];exact nit b u e
  .exact nit c _ z
theorem aH.tok(I:aH X AO σ H s)(t:Nat):aH X AO σ H {s with toks:=t}:=I.un (h':=s.heap) (t':=t) Un.refl I.hok
theorem aH.kept{t':Nat}(I:aH X AO σ H s)(k:∀b u,s.heap.get? b=some u->h'.get? b=some u):aH X AO σ H {s with heap:=h',toks:=t'}:=I.un (Un.kept k) (I.hok.kept k)
theorem aH.laid{a:Addr}{o:HO}{t':Nat}(I:aH X AO σ H s)(k:∀b u,s.heap.get? b=some u->h'.get? b=some u)(hp:s.heap.objs.size<=a)(new:fP X.prog X.w (bK H a o) h' a o):
  aH X AO σ (bK H a o) {s with heap:=h',toks:=t'}:=I.un (Un.laid k hp (I.hok.fresh hp)) (I.hok.laid k hp new)
theorem aH.write{x e:Addr}{o:HO}{t':Nat}(I:aH X AO σ H s)(mu:zA (H x))(he:e=x\/H e=some (.own x))(k:∀b u,b≠e->s.heap.get? b=some u->h'.get? b=some u)(heo:∃u,h'.get? e=some u)
  (new:fP X.prog X.w (bK H x o) h' x o):aH X AO σ (bK H x o) {s with heap:=h',toks:=t'}:=I.un (Un.write mu he k heo) (I.hok.write mu he k heo new)
theorem aH.pins_of{pins':List (Addr×Obj)}(I:aH X AO σ H s)(h:∀p∈pins',s.heap.get? p.1=some p.2/\H p.1=none/\p.1≠X.env.locals/\p.1∉X.fs/\∀v,p.2.data≠.cell v):aH X pins' σ H s:=
 ⟨I.ok,I.os,I.bare,I.base,I.loc,I.cell,I.free,I.freeC,λp hp=>(dj.mp hp).elim (λz=>I.pin p (ji _ z)) (h p),I.hok,I.len⟩
theorem Bm{N:List Str}(hN:N.Nodup){i j:Nat}{x:Str}(a:N[i]?=some x)(b:N[j]?=some x):i=j:=by
 obtain⟨h1,e1⟩:=da.mp a;obtain⟨h2,e2⟩:=da.mp b;exact(List.getElem_inj hN).mp (e1.trans e2.symm)
theorem Pz{M:kq}{A:ao}{E:Value->aa->Prop}{i:Nat}{x:Str}{v:V}{u:Value}{Q:Unit->aa->Prop}(I:aH X AO σ H s)(hN:X.N.Nodup)(hi:X.N[i]?=some x)(hx:jT X.env.scope x)(r:cA v u)
  (h:∀s',aH X AO (σ.set i (some v)) H s'->(∃a,jy a s.heap s'.heap/\(a=X.env.locals\/X.env.cells.lookup x=some a))->Q () s')(hf:X.fn x=true\/X.env.scope.names.lookup x=some .local:=by first |exact .inl rfl |exact .inr rfl |assumption):wpAny M A (storeName X.env x u) Q E s:=by
 obtain⟨m,hn,hl⟩:=id I.loc;have hcls:(X.env.scope.kind== .class||(X.env.scope.kind== .module&&X.env.locals !=X.env.globals))=false:=by rw[I.ok.kind];rfl
 have hiσ:i<σ.length:=by rw[I.len];exact(da.mp hi).1
 have cne:=I.cne;have tracked:∀{a:Addr}{h':Heap},(∃o,s.heap.get? a=some o/\H a=none)->jy a s.heap h'->fJ X.prog X.w H h':=λ{a h'} ha hs b ob e=>by
  obtain⟨_,_,hfree⟩:=ha;refine(I.hok b ob e).stay (λc w' hc q=>(hs.2 c ?_).trans q) (λ_ q=>q) λ_ _ q=>q
  rintro rfl
  rcases hc with rfl |hc
  .rw[hfree]at e;cases e
  .rw[hfree]at hc;cases hc
 rcases hx with hk |hk
 .refine wpAny_storeName_local hk hn (λh' hn' hs=>?_) hcls
  obtain⟨oL,_,_,hoL,_⟩:=id hn;refine h _ ⟨I.ok,I.os,I.bare,⟨λb o e n hb hx=>?_,λb o e n hb hx=>?_,I.base.free,λb o e hx=>?_,I.base.tups,I.base.frzs,I.base.tbls⟩,⟨_,hn',λj y v' e1 e2 e3=>?_⟩,λy c e=>?_,I.free,I.freeC,λp hp=>?_,tracked ⟨oL,hoL,I.free⟩ hs,by simpa using I.len⟩ ⟨_,hs,.inl rfl⟩
  .exact(hs.2 b (df (de (bn e) I.ok.above))).trans (I.base.keep b o e n hb hx)
  .obtain⟨sl,e1⟩:=I.base.slot b o e n hb hx
   exact⟨sl,(hs.2 b (df (de (bn e) I.ok.above))).trans e1⟩
  .obtain⟨o',e1⟩:=I.base.there b o e hx
   exact⟨o',(hs.2 b (df (de (bn e) I.ok.above))).trans e1⟩
  .by_cases hj:j=i
   .subst hj
    rw[hi]at e1;cases e1;rw[ie hiσ]at e2;cases e2;exact⟨u,r,.inl ⟨hk,by simp⟩⟩
   .rw[jf (ko hj)]at e2
    obtain⟨u',r',q⟩:=hl j y v' e1 e2 e3;refine⟨u',r',?_⟩;rcases q with⟨k,e⟩|⟨k,c,e,z⟩
    .refine .inl ⟨k,?_⟩
     have:y≠x:=λe=>hj (Bm hN e1 (e▸hi));simp[this,e]
    .exact .inr ⟨k,c,e,z.sameBut hs (cne y c e)⟩
  .obtain⟨w',z⟩:=I.cell y c e
   exact⟨w',z.sameBut hs (cne y c e)⟩
  .obtain⟨e,n,ne,nf,d⟩:=I.pin p hp
   exact⟨(hs.2 p.1 ne).trans e,n,ne,nf,d⟩
 .have hfn:X.fn x=true:=by
   rcases hf with z |z
   .exact z
   .rw[z]at hk;cases hk
  obtain⟨c,hc⟩:=I.ok.has x (.inl hk);obtain⟨w',z⟩:=I.cell x c hc;refine wpAny_storeName_cell I.ok.kind hk hc z (λh' hc' hs=>?_);obtain⟨oc,hoc,hocd⟩:=id z;refine h {s with heap:=h'} ⟨I.ok,I.os,I.bare,⟨λb o e n hb hx=>?_,λb o e n hb hx=>?_,I.base.free,λb o e hx=>?_,I.base.tups,I.base.frzs,I.base.tbls⟩,⟨m,hn.sameBut hs (ko (cne x c hc)),λj y v' e1 e2 e3=>?_⟩,λy c' e=>?_,I.free,I.freeC,λp hp=>?_,tracked ⟨oc,hoc,I.freeC x c hc⟩ hs,by simpa using I.len⟩ ⟨c,hs,.inr hc⟩
  .exact(hs.2 b (df (de (bn e) (I.ok.cab x c hfn hc)))).trans (I.base.keep b o e n hb hx)
  .obtain⟨sl,e1⟩:=I.base.slot b o e n hb hx
   exact⟨sl,(hs.2 b (df (de (bn e) (I.ok.cab x c hfn hc)))).trans e1⟩
  .obtain⟨o',e1⟩:=I.base.there b o e hx
   exact⟨o',(hs.2 b (df (de (bn e) (I.ok.cab x c hfn hc)))).trans e1⟩
  .by_cases hj:j=i
   .subst hj
    rw[hi]at e1;cases e1;rw[ie hiσ]at e2;cases e2;exact⟨u,r,.inr ⟨.inl hk,c,hc,hc'⟩⟩
   .rw[jf (ko hj)]at e2
    obtain⟨u',r',q⟩:=hl j y v' e1 e2 e3;refine⟨u',r',?_⟩;rcases q with q |⟨k,c',e,z'⟩
    .exact .inl q
    .refine .inr ⟨k,c',e,z'.sameBut hs ?_⟩
     rintro rfl
     exact hj (Bm hN e1 (I.ok.inj _ _ _ e hc▸hi))
  .by_cases hcc:c'=c
   .subst hcc;exact⟨_,hc'⟩
   .obtain⟨w2,z2⟩:=I.cell y c' e
    exact⟨w2,z2.sameBut hs hcc⟩
  .obtain⟨e,n,ne,nf,d⟩:=I.pin p hp
   refine⟨(hs.2 p.1 ?_).trans e,n,ne,nf,d⟩;intro q;rw[q,hoc]at e;have q':oc=p.2:=cc e;exact d w' (by rw[<-q'];exact hocd)
theorem pG{M:kq}{A:ao}{E:Value->aa->Prop}{i:Nat}{x:Str}{v:V}{u:Value}{Q:Unit->aa->Prop}(I:aH X AO σ H s)(hN:X.N.Nodup)(hi:X.N[i]?=some x)(hx:jT X.env.scope x)(r:cA v u)
  (h:∀s',aH X AO (σ.set i (some v)) H s'->Q () s')(hf:X.fn x=true\/X.env.scope.names.lookup x=some .local:=by first |exact .inl rfl |exact .inr rfl |assumption):wpAny M A (storeName X.env x u) Q E s:=
 Pz I hN hi hx r (λs' I' _=>h s' I') hf
theorem aH.call'{s':aa}{ch:List Addr}(I:aH X AO σ H s)(ho:s'.os=s.os)(u:Un (dS X.stack) ch H H' s.heap s'.heap)(hok:fJ X.prog X.w H' s'.heap)(hg:jd s'.gens)
  (hch:∀b∈ch,(b∈X.ex\/X.AQ.heap.objs.size<=b)/\b≠X.env.locals/\(∀x c,X.env.cells.lookup x=some c->c≠b)/\∀p∈X.pn++AO,p.1≠b):aH X AO σ H' s':=by
 obtain⟨h',g',d',t',o'⟩:=s';have e:o'=s.os:=ho;subst e;exact I.call (g':=g') (t':=t') (d':=d') u hok hg hch
end
abbrev XK:=Value->AI->Hp->Prop
abbrev St:=List (Option V)
abbrev VK:=V->Hp->Prop
abbrev TE:=St->Hp->VK->Prop
abbrev TT:=St->Hp->(Bool->Hp->Prop)->Prop
abbrev TA:=St->Hp->(List V->Hp->Prop)->Prop
structure lQ where
 nx:St->Hp->Prop
 rt:VK
 bk:St->Hp->Prop:=λ_ _=>False
 ct:St->Hp->Prop:=λ_ _=>False
abbrev TS:=lQ->St->Hp->Prop
def EP(X:Cx)(AO:List (Addr×Obj))(σ:St)(Q:VK)(u:Value)(s':aa):Prop:=∃v H',aH X AO σ H' s'/\cA v u/\Q v H'
def TP(X:Cx)(AO:List (Addr×Obj))(σ:St)(Q:Bool->Hp->Prop)(b:Bool)(s':aa):Prop:=∃H',aH X AO σ H' s'/\Q b H'
def AP(X:Cx)(AO:List (Addr×Obj))(σ:St)(Q:List V->Hp->Prop)(us:AG)(s':aa):Prop:=∃vs H',aH X AO σ H' s'/\bI vs us/\Q vs H'
def SP(X:Cx)(AO:List (Addr×Obj))(D:lQ)(f:Flow)(s':aa):Prop:=
 match f with
 |.next=>∃σ' H',aH X AO σ' H' s'/\D.nx σ' H'
 |.brk=>∃σ' H',aH X AO σ' H' s'/\D.bk σ' H'
 |.cont=>∃σ' H',aH X AO σ' H' s'/\D.ct σ' H'
 |.ret u=>∃v σ' H',aH X AO σ' H' s'/\cA v u/\D.rt v H'
def PE(X:Cx)(e:ag)(t:TE):Prop:=
 ∀(AO:List (Addr×Obj))(s:aa)(σ:St)(H:Hp)(Q:VK),aH X AO σ H s->t σ H Q->wpAny (model X.prog X.w) X.A (eval e X.env) (EP X AO σ Q) X.xe s
def PT(X:Cx)(e:ag)(t:TT):Prop:=
 ∀(AO:List (Addr×Obj))(s:aa)(σ:St)(H:Hp)(Q:Bool->Hp->Prop),aH X AO σ H s->t σ H Q->wpAny (model X.prog X.w) X.A (isTrue e X.env (eval e X.env)) (TP X AO σ Q) X.xe s
def PW(X:Cx)(e:ag)(t:TT):Prop:=
 ∀(whole:Sem Value)(AO:List (Addr×Obj))(s:aa)(σ:St)(H:Hp)(Q:Bool->Hp->Prop),aH X AO σ H s->t σ H Q->wpAny (model X.prog X.w) X.A (isTrue e X.env whole) (TP X AO σ Q) X.xe s
theorem PW.pt{X:Cx}{e:ag}{t:TT}(h:PW X e t):PT X e t:=h _
def PA(X:Cx)(es:List ag)(t:TA):Prop:=
 ∀(pos:ai)(AO:List (Addr×Obj))(s:aa)(σ:St)(H:Hp)(Q:List V->Hp->Prop),aH X AO σ H s->t σ H Q->wpAny (model X.prog X.w) X.A (spliced (backTo pos (starEach es X.env))) (AP X AO σ Q) X.xe s
def PS(X:Cx)(st:Stmt)(t:TS):Prop:=
 ∀(AO:List (Addr×Obj))(s:aa)(σ:St)(H:Hp)(D:lQ),aH X AO σ H s->t D σ H->wpAny (model X.prog X.w) X.A (exec st X.env) (SP X AO D) X.xe s
def fF(X:Cx)(st:List Stmt)(t:TS):Prop:=
 ∀(AO:List (Addr×Obj))(s:aa)(σ:St)(H:Hp)(D:lQ),aH X AO σ H s->t D σ H->wpAny (model X.prog X.w) X.A (execs st X.env) (SP X AO D) X.xe s
theorem bO{α:Type}{t:Sem α}{Q Q':α->aa->Prop}{M:kq}{A:ao}{E:Value->aa->Prop}{s:aa}(h:wpAny M A t Q E s)(hQ:∀a s,Q a s->Q' a s):wpAny M A t Q' E s:=iy h hQ λ_ _ x=>x
section
variable{X:Cx}
theorem bin{a b:ag}{ta tb:TE}(ha:PE X a ta)(hb:PE X b tb){AO:List (Addr×Obj)}{s:aa}{σ:St}{H:Hp}{R:V->V->Hp->Prop}(I:aH X AO σ H s)(h:ta σ H λx H1=>tb σ H1 λy H2=>R x y H2)
  {α:Type}{Q:α->aa->Prop}{f:Value->Value->Sem α}
  (hf:∀v u s2 x y H2,aH X AO σ H2 s2->cA x v->cA y u->R x y H2->wpAny (model X.prog X.w) X.A (f v u) Q X.xe s2):
  wpAny (model X.prog X.w) X.A (eval a X.env) (λv AS=>wpAny (model X.prog X.w) X.A (eval b X.env) (λu AW=>wpAny (model X.prog X.w) X.A (f v u) Q X.xe AW) X.xe AS) X.xe s:=by
 refine bO (ha AO s σ H _ I h) ?_
 rintro v s1 ⟨x,H1,I1,r1,q1⟩
 refine bO (hb AO s1 σ H1 _ I1 q1) ?_
 rintro u s2 ⟨y,H2,I2,r2,q2⟩
 exact hf v u s2 x y H2 I2 r1 r2 q2
def Zs(i:Nat):TE:=λσ H Q=>∃v,σ[i]?=some (some v)/\Q v H
def tC(v:V):TE:=λ_ H Q=>Q v H
theorem Pd{i:Nat}{x:Str}{pos:ai}(hN:X.N[i]?=some x)(hv:sE X.env.scope x)(hd:(x==("__debug__":Str))=false:=by decide)(hcd:(x==("__classdict__":Str))=false:=by decide):PE X (.Name x pos) (Zs i):=by
 intro AO s σ H Q I h;obtain⟨v,e,h⟩:=h;obtain⟨m,hn,hl⟩:=I.loc;obtain⟨u,r,l⟩:=hl i x v hN e hv;have fin:EP X AO σ Q u s:=⟨v,H,I,r,h⟩;rcases l with⟨hk,hm⟩|⟨hk,c,hc,hcell⟩
 .exact uw (yi I.ok.kind hk hn hm fin) hd
 .rcases hk with hk |hk
  .exact uw (yj I.ok.kind hk hc hcell fin) hd
  .exact uw (wpAny_loadName_free I.ok.kind hk hc hcell fin hcd) hd
theorem Nd{i j pos}:PE X (.Constant (.int i) j pos) (tC (.int i)):=λ_ _ _ H _ I h=>wpAny_Constant_int ⟨.int i,H,I.tok _,⟨_,rfl⟩,h⟩
theorem adj{b j pos}:PE X (.Constant (.bool b) j pos) (tC (.bl b)):=λ_ _ _ H _ I h=>Constant_bool ⟨.bl b,H,I,rfl,h⟩
theorem abL{j pos}:PE X (.Constant .none j pos) (tC .non):=λ_ _ _ H _ I h=>uz ⟨.non,H,I,rfl,h⟩
theorem abD{x j pos}:PE X (.Constant (.str x) j pos) (tC (.str x)):=λ_ _ _ H _ I h=>Calls.Constant_str ⟨.str x,H,I.tok _,⟨_,rfl⟩,h⟩
def Gl(X:Cx)(x:Str):Prop:=X.env.kindOf x=some .globalImplicit
theorem wT{E:Value->aa->Prop}{AO:List (Addr×Obj)}{s:aa}{σ:St}{H:Hp}{x:Str}{u:Value}{pos:ai}{Q:Value->aa->Prop}(I:aH X AO σ H s)(hg:Gl X x)(hm:X.mg x=some u)(h:Q u s)
  (hd:(x==("__debug__":Str))=false:=by decide):wpAny (model X.prog X.w) X.A (eval (.Name x pos) X.env) Q E s:=
 yk I.ok.kind hg (Calls.loadGlobal_global (by rw[I.ok.glob];exact I.mod.glob.keeps I.bk) hm h) hd
theorem pN{E:Value->aa->Prop}{AO:List (Addr×Obj)}{s:aa}{σ:St}{H:Hp}{x:Str}{u:Value}{pos:ai}{Q:Value->aa->Prop}(I:aH X AO σ H s)(hg:Gl X x)(hm:X.mg x=none)(hv:bootBuiltins x=some u)(h:Q u s)
  (hn:x≠"__name__":=by decide)(hd:(x==("__debug__":Str))=false:=by decide):wpAny (model X.prog X.w) X.A (eval (.Name x pos) X.env) Q E s:=by
 obtain⟨mb,h1,h2⟩:=I.mod.blt;exact yk I.ok.kind hg (Calls.loadGlobal_builtin (by rw[I.ok.glob];exact I.mod.glob.keeps I.bk) hm (by rw[I.ok.blt];exact h1.keeps I.bk) ((h2 x hn).trans hv) h) hd
theorem Hn{x:Str}{v:V}{u:Value}{pos:ai}(hg:Gl X x)(hm:X.mg x=none)(hv:bootBuiltins x=some u)(r:cA v u)(hn:x≠"__name__":=by decide)(hd:(x==("__debug__":Str))=false:=by decide):PE X (.Name x pos) (tC v):=
 λ_ _ _ H _ I h=>pN I hg hm hv ⟨v,H,I,r,h⟩ hn hd
variable{a b:ag}{ta tb:TE}{pos:ai}
def PC(X:Cx)(op:jz)(a b:ag)(t:TE):Prop:=
 ∀(AO:List (Addr×Obj))(s:aa)(σ:St)(H:Hp)(Q:VK),aH X AO σ H s->t σ H Q->
  wpAny (model X.prog X.w) X.A (eval a X.env) (λv AS=>wpAny (model X.prog X.w) X.A (eval b X.env) (λu AW=>wpAny (model X.prog X.w) X.A (compareOp op v u) (EP X AO σ Q) X.xe AW) X.xe AS) X.xe s
theorem A4(b:ag){op:jz}(h:op≠.In)(h2:op≠.NotIn):behindInMarks op b=false:=by
 have e1:(op==CmpOp.In)=false:=by cases op<;>first |rfl |exact absurd rfl h
 have e2:(op==CmpOp.NotIn)=false:=by cases op<;>first |rfl |exact absurd rfl h2
 cases b<;>simp[behindInMarks,e1,e2]
def Ot(ta:TE):TE:=λσ H Q=>ta σ H λx H1=>Q (.bl (decide (x=.non))) H1
def Fr(ta:TE):TE:=λσ H Q=>ta σ H λx H1=>Q (.bl (!decide (x=.non))) H1
theorem cA.none_iff{x:V}{v:Value}(r:cA x v):(v==ck)=decide (x=.non):=by
 cases x with
 |non=>cases r;rfl
 |bl _=>cases r;rfl
 |int _=>obtain⟨t,rfl⟩:=r;rfl
 |str _=>obtain⟨t,rfl⟩:=r;rfl
 |byt _=>obtain⟨t,rfl⟩:=r;rfl
 |flt _=>obtain⟨t,rfl⟩:=r;rfl
 |ref _=>cases r;rfl
 |ty _=>cases r;rfl
theorem aaC{j pos'}(ha:PE X a ta):PC X .Is a (.Constant .none j pos') (Ot ta):=by
 intro AO s σ H Q I h;refine bO (ha AO s σ H _ I h) ?_
 rintro v s1 ⟨x,H1,I1,r1,q1⟩
 exact uz (is_none_gen ⟨.bl _,H1,I1,by rw[r1.none_iff];rfl,q1⟩)
theorem V9{j pos'}(ha:PE X a ta):PC X .IsNot a (.Constant .none j pos') (Fr ta):=by
 intro AO s σ H Q I h;refine bO (ha AO s σ H _ I h) ?_
 rintro v s1 ⟨x,H1,I1,r1,q1⟩
 exact uz (isnot_none_gen ⟨.bl _,H1,I1,by rw[r1.none_iff];rfl,q1⟩)
def tB(t:TE):TT:=λσ H Q=>t σ H λx H1=>∃c,x=.bl c/\Q c H1
theorem Kq{op:jz}{t:TE}(h:PC X op a b t)(h1:behindInMarks op b=false:=by first |exact A4 _ (by decide) (by decide) |rfl):PT X (.Compare a [op] [b] pos) (tB t):=by
 intro AO s σ H Q I hw;refine yl (bO (h AO s σ H _ I hw) λv s1 h1=>bO h1 λu s2 h2=>bO h2 λc s3 hq=>?_) h1;rcases hq with⟨x,H1,I1,r1,q1⟩;obtain⟨d,rfl,q⟩:=q1;cases r1;exact kr ⟨H1,I1,q⟩
theorem abY{e:ag}{t:TE}(h:PE X e t)(he:∀whole,isTrue e X.env whole=(do let v <-whole;standAt e.pos;holding [v] (truthy v)):=by intro _;rfl):PT X e (tB t):=by
 intro AO s σ H Q I hw;refine isTrue_plain (bO (h AO s σ H _ I hw) λv s1 hq=>?_) (he _);rcases hq with⟨x,H1,I1,r1,q1⟩;obtain⟨d,rfl,q⟩:=q1;cases r1;exact kr ⟨H1,I1,q⟩
variable{tA tB':TT}{gD:List ag}
def adB(t u:TT):TT:=λσ H Q=>t σ H λc H1=>if c=true then u σ H1 Q else Q false H1
def tOr(t u:TT):TT:=λσ H Q=>t σ H λc H1=>if c=true then Q true H1 else u σ H1 Q
def adE(t:TT):TT:=λσ H Q=>t σ H λc H1=>Q (!c) H1
theorem X5(ha:PT X a tA):PW X (.BoolOp .And [a] pos) tA:=by
 intro wh AO s σ H Q I h;refine isTrue_and (bO (ha AO s σ H Q I h) λc s1 e=>?_);cases c with
 |true=>exact isTrue_and_nil e
 |false=>exact e
theorem abk(ha:PT X a tA):PW X (.BoolOp .Or [a] pos) tA:=by
 intro wh AO s σ H Q I h;refine isTrue_or (bO (ha AO s σ H Q I h) λc s1 e=>?_);cases c with
 |false=>exact isTrue_or_nil e
 |true=>exact e
theorem abz(ha:PT X a tA)(hb:PW X (.BoolOp .And (b::gD) pos) tB'):PW X (.BoolOp .And (a::b::gD) pos) (adB tA tB'):=by
 intro wh AO s σ H Q I h;refine isTrue_and (bO (ha AO s σ H _ I h) λc s1 hq=>?_);rcases hq with⟨H1,I1,q1⟩;cases c with
 |true=>exact hb wh AO s1 σ H1 Q I1 q1
 |false=>exact⟨H1,I1,q1⟩
theorem acW(ha:PT X a tA)(hb:PW X (.BoolOp .Or (b::gD) pos) tB'):PW X (.BoolOp .Or (a::b::gD) pos) (tOr tA tB'):=by
 intro wh AO s σ H Q I h;refine isTrue_or (bO (ha AO s σ H _ I h) λc s1 hq=>?_);rcases hq with⟨H1,I1,q1⟩;cases c with
 |true=>exact⟨H1,I1,q1⟩
 |false=>exact hb wh AO s1 σ H1 Q I1 q1
theorem aaL(ha:PT X a tA):PT X (.UnaryOp .Not a pos) (adE tA):=by
 intro AO s σ H Q I h;exact isTrue_not (ha AO s σ H (λc H1=>Q (!c) H1) I h)
def acC(ta tb:TE):TE:=λσ H Q=>ta σ H λx H1=>∃c,x=.bl c/\if c=true then tb σ H1 Q else Q (.bl false) H1
def adn(ta:TE):TE:=λσ H Q=>ta σ H λx H1=>∃c,x=.bl c/\Q (.bl (!c)) H1
theorem abi(ha:PE X a ta)(hb:PE X (.BoolOp .And (b::gD) pos) tb):PE X (.BoolOp .And (a::b::gD) pos) (acC ta tb):=by
 intro AO s σ H Q I h;refine BoolOp_and (bO (ha AO s σ H _ I h) λv s1 hq=>?_);rcases hq with⟨x,H1,I1,r1,q1⟩;obtain⟨c,rfl,q1⟩:=q1;cases r1;refine kr ?_;cases c with
 |true=>exact hb AO s1 σ H1 Q I1 q1
 |false=>exact⟨.bl false,H1,I1,rfl,q1⟩
theorem aau(ha:PE X a ta):PE X (.UnaryOp .Not a pos) (adn ta):=by
 intro AO s σ H Q I h;refine UnaryOp_ (bO (ha AO s σ H _ I h) λv s1 hq=>?_);rcases hq with⟨x,H1,I1,r1,q1⟩;obtain⟨c,rfl,q1⟩:=q1;cases r1;exact not_of (kr ⟨.bl (!c),H1,I1,rfl,q1⟩)
def tIf(t:TT)(ta tb:TE):TE:=λσ H Q=>t σ H λc H1=>if c=true then ta σ H1 Q else tb σ H1 Q
theorem D5{c:ag}(hc:PT X c tA)(ha:PE X a ta)(hb:PE X b tb):PE X (.IfExp c a b pos) (tIf tA ta tb):=by
 intro AO s σ H Q I h;refine wpAny_IfExp (bO (hc AO s σ H _ I h) λd s1 hq=>?_);rcases hq with⟨H1,I1,q1⟩;cases d with
 |true=>exact ha AO s1 σ H1 Q I1 q1
 |false=>exact hb AO s1 σ H1 Q I1 q1
end
def cE(K:ae)(H:Hp)(a:Addr)(xs:List V):Prop:=
 Rd H a (.lst xs)\/
  ∃(o:Obj)(its:Array Value)(n:Nat),K.lookup a=some o/\o.cls=.type "list"/\o.dict=none/\o.data=.seq its n/\its.size<=sizeLine/\bI xs its.toList
def dJ(K:ae)(H:Hp)(a:Addr)(xs:List V):Prop:=
 Rd H a (.tup xs)\/
  ∃(o:Obj)(its:Array Value)(n:Nat),K.lookup a=some o/\(o.cls=.type "tuple"/\o.dict=none)/\o.data=.seq its n/\its.size<=sizeLine/\bI xs its.toList
def adT:Value->Option V
 |.none=>some .non
 |.bool b=>some (.bl b)
 |.int i _=>some (.int i)
 |.str x _=>some (.str x)
 |.bytes b _=>some (.byt b)
 |.float b _=>some (.flt b)
 |.ref a=>some (.ref a)
 |.type n=>some (.ty n)
 |_=>none
theorem cA.abs{x:V}{u:Value}(r:cA x u):adT u=some x:=by
 cases x with
 |non=>cases r;rfl
 |bl _=>cases r;rfl
 |int _=>obtain⟨t,rfl⟩:=r;rfl
 |str _=>obtain⟨t,rfl⟩:=r;rfl
 |byt _=>obtain⟨t,rfl⟩:=r;rfl
 |flt _=>obtain⟨t,rfl⟩:=r;rfl
 |ref _=>cases r;rfl
 |ty _=>cases r;rfl
theorem cA.inj{x y:V}{u:Value}(r:cA x u)(q:cA y u):x=y:=cc (r.abs.symm.trans q.abs)
theorem bI.inj:∀{xs ys:List V}{us:AG},bI xs us->bI ys us->xs=ys
 |_,_,_,.nil,.nil=>rfl
 |_,_,_,.cons r t,.cons r' t'=>by rw[r.inj r',bI.inj t t']
section
variable{X:Cx}{AO:List (Addr×Obj)}{σ:St}{H:Hp}{s:aa}{a:Addr}{xs ys:List V}
theorem cE.of{K:ae}(h:H a=some (.lst xs)):cE K H a xs:=.inl (.inl h)
theorem dJ.of{K:ae}(h:H a=some (.tup xs)):dJ K H a xs:=.inl (.inl h)
theorem aH.list(I:aH X AO σ H s)(h:cE X.K H a xs):∃its:AG,bI xs its/\PlainL s.heap a its.toArray/\xs.length<=sizeLine:=by
 rcases h with h |⟨o,its,n,hk,hc,hd,hs,hz,r⟩
 .obtain⟨z,its,n,r,e⟩:=h.ok I.hok
  exact⟨its,r,⟨_,n,e,rfl,rfl,rfl⟩,z⟩
 .refine⟨its.toList,r,⟨o,n,I.kIn a o hk,hc,hd,by simpa using hs⟩,?_⟩
  have e:=r.length;simp only[jj]at e;omega
theorem aH.tuple(I:aH X AO σ H s)(h:dJ X.K H a xs):∃its:AG,bI xs its/\IsTup s.heap a its.toArray/\xs.length<=sizeLine:=by
 rcases h with h |⟨o,its,n,hk,hc,hs,hz,r⟩
 .obtain⟨z,its,r,p⟩:=h.ok I.hok
  exact⟨its,r,p,z.1⟩
 .refine⟨its.toList,r,⟨o,I.kIn a o hk,hc.1,n,by simpa using hs⟩,?_⟩
  have e:=r.length;simp only[jj]at e;omega
theorem aH.list_inj(I:aH X AO σ H s)(h:cE X.K H a xs)(h':cE X.K H a ys):xs=ys:=by
 obtain⟨its,r,⟨o,n,e,_,_,d⟩,_⟩:=I.list h;obtain⟨its',r',⟨o',n',e',_,_,d'⟩,_⟩:=I.list h';rw[e]at e';cases e';rw[d]at d';injection d' with d1 _;have:its=its':=by simpa using congrArg vb d1
 subst this;exact r.inj r'
theorem aH.tuple_inj(I:aH X AO σ H s)(h:dJ X.K H a xs)(h':dJ X.K H a ys):xs=ys:=by
 obtain⟨its,r,⟨o,e,_,n,d⟩,_⟩:=I.tuple h;obtain⟨its',r',⟨o',e',_,n',d'⟩,_⟩:=I.tuple h';rw[e]at e';cases e';rw[d]at d';injection d' with d1 _;have:its=its':=by simpa using congrArg vb d1
 subst this;exact r.inj r'
end
abbrev Cx.wish(X:Cx)(E:Value->aa->Prop):Cx:={X with xe:=E}
abbrev Cx.nox(X:Cx):Cx:=X.wish λ_ _=>False
theorem Cx.Ok.wish{X:Cx}(ok:X.Ok)(E:Value->aa->Prop):(X.wish E).Ok:=
 ⟨ok.mod,ok.kind,ok.glob,ok.blt,ok.above,ok.inj,ok.has,ok.cab,ok.hd,ok.frames,ok.stk,ok.exf,ok.bs,ok.bsz,ok.noex,ok.exfs,ok.funs,ok.frf⟩
theorem Cx.Ok.unwish{X:Cx}{E:Value->aa->Prop}(ok:(X.wish E).Ok):X.Ok:=
 ⟨ok.mod,ok.kind,ok.glob,ok.blt,ok.above,ok.inj,ok.has,ok.cab,ok.hd,ok.frames,ok.stk,ok.exf,ok.bs,ok.bsz,ok.noex,ok.exfs,ok.funs,ok.frf⟩
section
variable{X:Cx}{AO:List (Addr×Obj)}{σ:St}{H:Hp}{s:aa}{E:Value->aa->Prop}
theorem aH.wish(I:aH X AO σ H s)(E:Value->aa->Prop):aH (X.wish E) AO σ H s:=⟨I.ok.wish E,I.os,I.bare,I.base,I.loc,I.cell,I.free,I.freeC,I.pin,I.hok,I.len⟩
theorem aH.unwish(I:aH (X.wish E) AO σ H s):aH X AO σ H s:=⟨I.ok.unwish,I.os,I.bare,I.base,I.loc,I.cell,I.free,I.freeC,I.pin,I.hok,I.len⟩
theorem SP.unwish{D:lQ}{f:Flow}{s':aa}(h:SP (X.wish E) AO D f s'):SP X AO D f s':=by
 cases f with
 |next=>obtain⟨σ',H',I,q⟩:=h;exact⟨σ',H',I.unwish,q⟩
 |brk=>obtain⟨σ',H',I,q⟩:=h;exact⟨σ',H',I.unwish,q⟩
 |cont=>obtain⟨σ',H',I,q⟩:=h;exact⟨σ',H',I.unwish,q⟩
 |ret u=>obtain⟨v,σ',H',I,r,q⟩:=h;exact⟨v,σ',H',I.unwish,r,q⟩
theorem fF.nox{st:List Stmt}{t:TS}(h:fF X.nox st t):fF X st t:=λAO s σ H D I hw=>
 iy (h AO s σ H D (I.wish _) hw) (λ_ _ q=>q.unwish) λ_ _ z=>ia z
end
section
variable{X:Cx}{st:Stmt}{gD:List Stmt}{t u:TS}{e:ag}{te:TE}{pos:ai}
def acy:TS:=λD σ H=>D.nx σ H
def ado(t u:TS):TS:=λD σ H=>t {D with nx:=u D} σ H
theorem X6:fF X [] acy:=λ_ _ σ H _ I h=>nj ⟨σ,H,I,h⟩
theorem Kk(h1:PS X st t)(h2:fF X gD u):fF X (st::gD) (ado t u):=by
 intro AO s σ H D I h;refine vc (bO (h1 AO s σ H {D with nx:=u D} I h) λf s1 q=>?_);cases f with
 |next=>
  obtain⟨σ',H',I',q⟩:=q;exact h2 AO s1 σ' H' D I' q
 |ret v=>exact q
 |brk=>exact q
 |cont=>exact q
theorem Oc(h1:PS X st t):fF X [st] t:=by
 intro AO s σ H D I h;refine vc (bO (h1 AO s σ H D I h) λf s1 q=>?_);cases f with
 |next=>exact nj q
 |ret v=>exact q
 |brk=>exact q
 |cont=>exact q
theorem aH.quiet{AO:List (Addr×Obj)}{σ:St}{H:Hp}{s:aa}(I:aH X AO σ H s):interactive X.env=false:=by simp[interactive,I.ok.kind]
def acL(te:TE):TS:=λD σ H=>te σ H λ_ H1=>D.nx σ H1
theorem O9(he:PE X e te)(hs:swapsWith e none pos.line X.env=pure false:=by rfl):PS X (.Expr e pos) (acL te):=by
 intro AO s σ H D I h;exact wpAny_Expr_any (bO (he AO s σ H _ I h) λv s1 ⟨x,H1,I1,r1,q1⟩=>⟨σ,H1,I1,q1⟩) I.quiet hs
def adz(te:TE):TS:=λD σ H=>te σ H D.rt
theorem Op(he:PE X e te):PS X (.Return (some e) pos) (adz te):=by
 intro AO s σ H D I h;exact wpAny_Return_some (bO (he AO s σ H _ I h) λv s1 ⟨x,H1,I1,r1,q1⟩=>⟨x,σ,H1,I1,r1,q1⟩)
def adM(c:TT)(t u:TS):TS:=λD σ H=>c σ H λb H1=>if b=true then t D σ H1 else u D σ H1
theorem acI{c:ag}{a b:List Stmt}{tc:TT}(hc:PT X c tc)(ha:fF X a t)(hb:fF X b u):PS X (.If c a b pos) (adM tc t u):=by
 intro AO s σ H D I h;refine wpAny_If (bO (hc AO s σ H _ I h) λd s1 hq=>?_);rcases hq with⟨H1,I1,q1⟩;cases d with
 |true=>exact ha AO s1 σ H1 D I1 q1
 |false=>exact hb AO s1 σ H1 D I1 q1
end
abbrev TG:=V->St->Hp->(St->Hp->Prop)->Prop
abbrev kU:=List V->St->Hp->(St->Hp->Prop)->Prop
def PG(X:Cx)(target:ag)(t:TG):Prop:=
 ∀(AO:List (Addr×Obj))(s:aa)(σ:St)(H:Hp)(v:V)(u:Value)(Q:St->Hp->Prop),aH X AO σ H s->cA v u->t v σ H Q->
  wpAny (model X.prog X.w) X.A (assign target X.env u) (λ_ s'=>∃σ' H',aH X AO σ' H' s'/\Q σ' H') X.xe s
def kW(X:Cx)(ts:List ag)(t:kU):Prop:=
 ∀(AO:List (Addr×Obj))(s:aa)(σ:St)(H:Hp)(vs:List V)(us:AG)(Q:St->Hp->Prop),aH X AO σ H s->bI vs us->t vs σ H Q->
  wpAny (model X.prog X.w) X.A (assignInOrder ((assignEach ts X.env).map (·.2)) us) (λ_ s'=>∃σ' H',aH X AO σ' H' s'/\Q σ' H') X.xe s
abbrev We:=V->V->V->Hp->(Hp->Prop)->Prop
def Xs(X:Cx)(t:We):Prop:=
 ∀(AO:List (Addr×Obj))(s:aa)(σ:St)(H:Hp)(o i v:V)(ov iv u:Value)(Q:Hp->Prop),aH X AO σ H s->cA o ov->cA i iv->cA v u->t o i v H Q->
  wpAny (model X.prog X.w) X.A (setItem ov iv u) (λ_ s'=>∃H',aH X AO σ H' s'/\Q H') X.xe s
abbrev uP:=V->V->Hp->VK->Prop
def PIp(X:Cx)(op:ph)(t:uP):Prop:=
 ∀(AO:List (Addr×Obj))(s:aa)(σ:St)(H:Hp)(x y:V)(v u:Value)(Q:VK),aH X AO σ H s->cA x v->cA y u->t x y H Q->
  wpAny (model X.prog X.w) X.A (inplaceOp op v u) (EP X AO σ Q) X.xe s
section
variable{X:Cx}{pos:ai}
def Fe(i:Nat):TG:=λv σ H Q=>Q (σ.set i (some v)) H
theorem W8{i:Nat}{x:Str}(hN:X.N.Nodup)(hi:X.N[i]?=some x)(hx:jT X.env.scope x)(hf:X.fn x=true\/X.env.scope.names.lookup x=some .local:=by first |exact .inl rfl |exact .inr rfl |assumption):PG X (.Name x pos) (Fe i):=by
 intro AO s σ H v u Q I r h;exact wpAny_assign_Name (pG I hN hi hx r (λs' I'=>⟨_,H,I',h⟩) hf)
def adY:kU:=λvs σ H Q=>vs=[]/\Q σ H
def acw(t:TG)(u:kU):kU:=λvs σ H Q=>∃v r,vs=v::r/\t v σ H λσ' H'=>u r σ' H' Q
theorem aal:kW X [] adY:=by
 intro AO s σ H vs us Q I r h;obtain⟨e,h⟩:=h;subst e;cases r;exact assignInOrder_nil ⟨σ,H,I,h⟩
theorem M3{e:ag}{es:List ag}{t:TG}{u:kU}(h1:PG X e t)(h2:kW X es u)
  (hs:(assignEach (e::es) X.env).map (·.2)=assign e X.env::(assignEach es X.env).map (·.2):=by rfl):kW X (e::es) (acw t u):=by
 intro AO s σ H vs us Q I r h;obtain⟨v,vr,e1,h⟩:=h;subst e1;cases r with
 |cons r rr=>
  rw[hs];refine vd (bO (h1 AO s σ H _ _ _ I r h) λ_ s1 hq=>?_);rcases hq with⟨σ1,H1,I1,q1⟩;exact h2 AO s1 σ1 H1 _ _ Q I1 rr q1
def adS(K:ae)(n:Nat)(t:kU):TG:=λv σ H Q=>∃a xs,v=.ref a/\dJ K H a xs/\xs.length=n/\t xs σ H Q
theorem aa5{es:List ag}{k:Nat}{t:kU}{n:Nat}(hc:X.calm=true)(h:kW X es t)
  (hn:(assignEach es X.env).length=n:=by rfl)(hst:(assignEach es X.env).findIdx? (·.1)=none:=by rfl):PG X (.Tuple es k pos) (adS X.K n t):=by
 intro AO s σ H v u Q I r hw;obtain⟨a,xs,e1,hq,hl,hw⟩:=hw;subst e1;cases r;obtain⟨its,rv,ht,hz⟩:=I.tuple hq;refine assign_Tuple_tuple (I.ok.hd hc) ht (by simp[hn,<-hl,rv.length]) hst λh' hx=>?_;have I1:aH X AO σ H {s with heap:=h'}:=I.kept (t':=s.toks) λb o e=>hx b o (df (bn e)) e;exact h AO _ σ H xs _ Q I1 (by simpa using rv) hw
def adQ(to ti:TE)(t:We):TG:=λv σ H Q=>to σ H λo H1=>ti σ H1 λi H2=>t o i v H2 λH3=>Q σ H3
theorem aaB{o i:ag}{to ti:TE}{t:We}(ho:PE X o to)(hi:PE X i ti)(hs:Xs X t)
  (ha:∀v,assign (.Subscript o i pos) X.env v=(do
   let ov <-holding [v] (eval o X.env)
   let iv <-holding [v,ov] (eval i X.env)
   standAt pos
   holding [v,ov,iv] (setItem ov iv v)
   release [v,ov,iv] []):=by intro _;rfl):PG X (.Subscript o i pos) (adQ to ti t):=by
 intro AO s σ H v u Q I r h;rw[ha];refine ah (iz (bO (ho AO s σ H _ I h) λov s1 hq=>?_));rcases hq with⟨x,H1,I1,r1,q1⟩;refine ah (iz (bO (hi AO s1 σ H1 _ I1 q1) λiv s2 hq=>?_));rcases hq with⟨y,H2,I2,r2,q2⟩;refine ah (pr (ah (iz (bO (hs AO s2 σ H2 x y v ov iv u _ I2 r1 r2 r q2) λ_ s3 hq=>?_))));rcases hq with⟨H3,I3,q3⟩;exact wpAny_release ⟨σ,H3,I3,q3⟩
def Pe(te:TE)(g:TG):TS:=λD σ H=>te σ H λx H1=>g x σ H1 D.nx
theorem Uc{tg e:ag}{te:TE}{g:TG}(he:PE X e te)(hg:PG X tg g)(hs:swapsWithSole [tg] e pos.line X.env=pure false:=by rfl)(hw:swappedStores [tg] e X.env=pure none:=by rfl)
  (h1:(assignEach [tg] X.env).map (·.2)=[assign tg X.env]:=by rfl):PS X (.Assign [tg] e pos) (Pe te g):=by
 intro AO s σ H D I h;refine wpAny_Assign_stores (bO (he AO s σ H _ I h) λv s1 hq=>?_) hs hw;rcases hq with⟨x,H1,I1,r1,q1⟩;rw[h1];exact bO (hg AO s1 σ H1 x v _ I1 r1 q1) λ_ s2 q=>q
theorem Qq{i:Nat}{x:Str}{e:ag}{te:TE}{pos':ai}(hN:X.N.Nodup)(hi:X.N[i]?=some x)(hx:jT X.env.scope x)(he:PE X e te)(hs:swapsWith e (some (.Name x pos')) pos.line X.env=pure false:=by rfl)(hf:X.fn x=true\/X.env.scope.names.lookup x=some .local:=by first |exact .inl rfl |exact .inr rfl |assumption):
  PS X (.Assign [.Name x pos'] e pos) (Pe te (Fe i)):=by
 intro AO s σ H D I h;refine wpAny_Assign_Name (bO (he AO s σ H _ I h) λv s1 hq=>?_) hs;rcases hq with⟨y,H1,I1,r1,q1⟩;exact pG I1 hN hi hx r1 (λs2 I2=>⟨_,H1,I2,q1⟩) hf
def ad0(i j:Nat)(ta:TA):TS:=λD σ H=>ta σ H λvs H1=>∃v w,vs=[v,w]/\D.nx ((σ.set i (some v)).set j (some w)) H1
theorem aa1{i j:Nat}{x y:Str}{a b:ag}{ta:TA}{px py pt:ai}{kt k2 pt2}(hc:X.calm=true)(hN:X.N.Nodup)(hi:X.N[i]?=some x)(hj:X.N[j]?=some y)(hij:i≠j)
  (hx:X.env.scope.names.lookup x=some .local)(hy:X.env.scope.names.lookup y=some .local)(ha:PA X [a,b] ta)
  (hw:swappedStores [.Tuple [.Name x px,.Name y py] kt pt] (.Tuple [a,b] k2 pt2) X.env=pure (some [x,y]))
  (hs:swapsWithSole [.Tuple [.Name x px,.Name y py] kt pt] (.Tuple [a,b] k2 pt2) pos.line X.env=pure false:=by rfl):
  PS X (.Assign [.Tuple [.Name x px,.Name y py] kt pt] (.Tuple [a,b] k2 pt2) pos) (ad0 i j ta):=by
 intro AO s σ H D I h;rw[exec_Assign_arm];refine ah (pr ?_);rw[hs];refine ah (bh ?_);rw[if_neg (by decide)];refine ah (Tuple_ (bO (ha _ AO s σ H _ I h) λus s1 hq=>?_));rcases hq with⟨vs,H1,I1,r1,q1⟩;obtain⟨v,w,e1,q1⟩:=q1;subst e1;obtain⟨u1,u2,rfl,rv,rw'⟩:∃u1 u2,us=[u1,u2]/\cA v u1/\cA w u2:=by
  cases r1 with
  |cons p q=>
   cases q with
   |cons p' q'=>
    cases q';exact⟨_,_,rfl,p,p'⟩
 refine ju ?_ (by show 2<=sizeLine;decide);have I2:aH X AO σ H1 {s1 with heap:=s1.heap.push {cls:=.type "tuple",data:=.seq [u1,u2].toArray}}:=I1.kept (t':=s1.toks) λb o e=>ay _ e;rw[hw];refine ah (bh ?_);show wpAny (model X.prog X.w) X.A (do rule "assign.swapped-stores";let items <-unpackItems (.ref s1.heap.objs.size) 2 none;assignInOrder [λv=>bindName X.env y v,λv=>bindName X.env x v] items.reverse;pure Flow.next) _ _ _
 refine ah (nr (ah (unpackItems_tuple (items:=#[u1,u2]) (I.ok.hd hc) (rf s1.heap _) λh' hx'=>?_)));have I3:=I2.kept (h':=h') (t':=s1.toks) λb o e=>hx' b o (df (bn e)) e;show wpAny _ _ (assignInOrder [λv=>bindName X.env y v,λv=>bindName X.env x v] [u2,u1] >>= λ_=>pure Flow.next) _ _ _
 refine ah (vd (wpAny_bindName (pG I3 hN hj (.inl hy) rw' (λs2 I4=>?_) (.inr hy))));refine vd (wpAny_bindName (pG I4 hN hi (.inl hx) rv (λs3 I5=>assignInOrder_nil (bh ?_)) (.inr hx)));rw[List.set_comm _ _ (ko hij)]at I5;exact⟨_,H1,I5,q1⟩
def ad3(i:Nat)(te:TE)(ti:uP):TS:=λD σ H=>∃x,σ[i]?=some (some x)/\te σ H λy H1=>ti x y H1 λz H2=>D.nx (σ.set i (some z)) H2
theorem Mp{i:Nat}{x:Str}{e:ag}{te:TE}{op:ph}{ti:uP}{pos':ai}(hN:X.N.Nodup)(hi:X.N[i]?=some x)(hx:jT X.env.scope x)(he:PE X e te)(ho:PIp X op ti)(hf:X.fn x=true\/X.env.scope.names.lookup x=some .local:=by first |exact .inl rfl |exact .inr rfl |assumption):
  PS X (.AugAssign (.Name x pos') op e pos) (ad3 i te ti):=by
 intro AO s σ H D I h;obtain⟨v,e1,h⟩:=h;obtain⟨m,hn,hl⟩:=I.loc;have vis:sE X.env.scope x:=by rcases hx with k |k;exact .inl k;exact .inr (.inl k)
 obtain⟨u,r,l⟩:=hl i x v hi e1 vis;refine wpAny_AugAssign_Name ?_;have go:wpAny (model X.prog X.w) X.A (eval e X.env) (λw AW=>wpAny (model X.prog X.w) X.A (inplaceOp op u w) (λr s₃=>wpAny (model X.prog X.w) X.A (storeName X.env x r) (λ_=>SP X AO D .next) X.xe s₃) X.xe AW) X.xe s:=by
  refine bO (he AO s σ H _ I h) ?_
  rintro w s1 ⟨y,H1,I1,r1,q1⟩
  refine bO (ho AO s1 σ H1 v y u w _ I1 r r1 q1) ?_
  rintro z s2 ⟨zv,H2,I2,r2,q2⟩
  exact pG I2 hN hi hx r2 (λs3 I3=>⟨_,H2,I3,q2⟩) hf
 rcases l with⟨hk,hm⟩|⟨hk,c,hc,hcell⟩
 .exact yi I.ok.kind hk hn hm go
 .rcases hk with hk |hk
  .exact yj I.ok.kind hk hc hcell go
  .rcases hx with k |k
   .have:X.env.scope.names.lookup x=some .free:=hk
    rw[k]at this;cases this
   .have:X.env.scope.names.lookup x=some .free:=hk
    rw[k]at this;cases this
def Jf(f:Int->Int->Int):uP:=λx y H Q=>∃i j,x=.int i/\y=.int j/\Q (.int (f i j)) H
theorem aaT:PIp X .Add (Jf λi j=>i+j):=by
 intro AO s σ H x y v u Q I r1 r2 h;obtain⟨i,j,e1,e2,q⟩:=h;subst e1;subst e2;obtain⟨t,rfl⟩:=r1;obtain⟨t',rfl⟩:=r2;exact iadd_int ⟨.int _,H,I.tok _,⟨_,rfl⟩,q⟩
theorem aaS:PIp X .Sub (Jf λi j=>i-j):=by
 intro AO s σ H x y v u Q I r1 r2 h;obtain⟨i,j,e1,e2,q⟩:=h;subst e1;subst e2;obtain⟨t,rfl⟩:=r1;obtain⟨t',rfl⟩:=r2;exact isub_int ⟨.int _,H,I.tok _,⟨_,rfl⟩,q⟩
end
section
variable{X:Cx}{pos:ai}
def aa3(c:TT)(tb:TS):TS:=λD σ H=>∃W:Nat->St->Hp->Prop,(∃m,W m σ H)/\∀m σ H,W m σ H->
 c σ H λb H1=>if b=true then ∃N:St->Hp->Prop,(∀σ' H',N σ' H'->∃m',m'<m/\W m' σ' H')/\tb {D with nx:=N,ct:=N,bk:=D.nx} σ H1 else D.nx σ H1
theorem E3{c:ag}{body:List Stmt}{tc:TT}{tb:TS}(hp:rh (model X.prog X.w) X.A X.env X.xe)(hc:PT X c tc)(hb:fF X body tb):PS X (.While c body [] pos) (aa3 tc tb):=by
 intro AO s σ H D I h;obtain⟨W,⟨m0,w0⟩,turn⟩:=h;refine wpAny_While (codeAny_whileLoop (λn s'=>∃σ' H',aH X AO σ' H' s'/\W n σ' H') ?_ m0 ⟨σ,H,I,w0⟩)
 rintro n s1 ⟨σ1,H1,I1,w1⟩
 refine ku hp (bO (hc AO s1 σ1 H1 _ I1 (turn n σ1 H1 w1)) λb s2 hq=>?_);rcases hq with⟨H2,I2,q2⟩;cases b with
 |true=>
  obtain⟨N,hN,q2⟩:=q2;rw[if_pos rfl];refine ku hp (bO (hb AO s2 σ1 H2 _ I2 q2) λf s3 q3=>?_);cases f with
  |next=>
   obtain⟨σ3,H3,I3,n3⟩:=q3;obtain⟨m',hm,w3⟩:=hN σ3 H3 n3;exact⟨m',hm,σ3,H3,I3,w3⟩
  |cont=>
   obtain⟨σ3,H3,I3,n3⟩:=q3;obtain⟨m',hm,w3⟩:=hN σ3 H3 n3;exact⟨m',hm,σ3,H3,I3,w3⟩
  |brk=>exact q3
  |ret v=>exact q3
 |false=>
  rw[if_neg kw];exact nj ⟨σ1,H2,I2,q2⟩
end
structure It where
 go:Nat->Hp->Prop
 yld:Nat->Hp->V->Hp->Prop
 stop:Nat->Hp->Prop
def fY(X:Cx)(AO:List (Addr×Obj))(H:Hp)(b:Addr):Prop:=
 H b=none/\b≠X.env.locals/\b∉X.fs/\(b∈X.ex\/X.AQ.heap.objs.size<=b)/\(∀x c,X.env.cells.lookup x=some c->c≠b)/\∀p∈X.pn++AO,p.1≠b
theorem aH.fpOk{X:Cx}{AO:List (Addr×Obj)}{σ:St}{H H':Hp}{s:aa}{b:Addr}(I:aH X AO σ H s)(hb:s.heap.objs.size<=b)(hn:H' b=none):fY X AO H' b:=by
 refine⟨hn,nu (de I.lt hb),I.nofs hb,.inr (ee I.sz hb),λx c e z=>?_,λp hp z=>?_⟩
 .obtain⟨v,q⟩:=I.cell x c e
  exact absurd (de q.lt (by rw[z];exact hb)) (iu _)
 .exact absurd (de (bn (I.pin p hp).1) (by rw[z];exact hb)) (iu _)
structure rS(P:Program)(w:am)(K:ae)(tg:ag)(J:It)(fp:List Addr)(it:Addr)(tn:Nat->Heap->Prop):Prop where
 mem:it∈fp
 obj:∀i h,tn i h->∀b∈fp,∃o,h.get? b=some o/\∀v,o.data≠.cell v
 keep:∀i h h',tn i h->(∀b∈fp,∀o,h.get? b=some o->h'.get? b=some o)->tn i h'
 item:∀(X:Cx),X.prog=P->X.w=w->X.K=K->X.calm=true->∀(i:Nat)(AO:List (Addr×Obj))(s:aa)(σ:St)(H:Hp)(E:Value->aa->Prop),aH X AO σ H s->(∀b∈fp,fY X AO H b)->tn i s.heap->J.go i H->
  wpAny (model P w) X.A (pyNext (.ref it)) (λr s1=>∃u,r=some u/\
   wpAny (model P w) X.A (letOwnedTupleGo tg (.ref it) u) (λ_ s2=>∃x H',aH X AO σ H' s2/\cA x u/\J.yld i H x H'/\tn (i+1) s2.heap/\∀b∈fp,H' b=none) E s1) E s
 done:∀(X:Cx),X.prog=P->X.w=w->X.K=K->X.calm=true->∀(i:Nat)(AO:List (Addr×Obj))(s:aa)(σ:St)(H:Hp)(E:Value->aa->Prop),aH X AO σ H s->(∀b∈fp,fY X AO H b)->tn i s.heap->J.stop i H->
  wpAny (model P w) X.A (pyNext (.ref it)) (λr s1=>r=none/\aH X AO σ H s1) E s
 self:∀(A:ao)(i:Nat)(s:aa)(Q:Value->aa->Prop)(E:Value->aa->Prop),tn i s.heap->Q (.ref it) s->wpAny (model P w) A (pyIter (.ref it)) Q E s
abbrev TI:=St->Hp->(It->Hp->Prop)->Prop
def Zt(X:Cx)(AO:List (Addr×Obj))(σ:St)(tg:ag)(R:It->Hp->Prop)(itv:Value)(s2:aa):Prop:=
 ∃(it:Addr)(fp:List Addr)(tn:Nat->Heap->Prop)(J:It)(H':Hp),itv=.ref it/\aH X AO σ H' s2/\rS X.prog X.w X.K tg J fp it tn/\tn 0 s2.heap/\(∀b∈fp,fY X AO H' b)/\R J H'
def PI(X:Cx)(tg iter:ag)(wi:TI):Prop:=
 ∀(AO:List (Addr×Obj))(s:aa)(σ:St)(H:Hp)(R:It->Hp->Prop),aH X AO σ H s->wi σ H R->
  wpAny (model X.prog X.w) X.A (eval iter X.env) (λv s1=>wpAny (model X.prog X.w) X.A (pyIter v) (Zt X AO σ tg R) X.xe s1) X.xe s
theorem De {M : kq} {A : ao} {E : Value → aa → Prop} {s : aa} {tg : ag} {it : Addr} {u : Value} {o : Obj} {n : String} {vs : Array Value} {Q : Unit → aa → Prop} (ho : s.heap.get? it = some o) (hc : o.cls = .type n) (hd : o.data = .fields vs)
    (hn : ["enumerate", "zip", "dict_itemiterator", "dict_reverseitemiterator", "odict_iterator", "itertools.zip_longest", "itertools.pairwise"].contains n = false) (hQ : Q () s) : wpAny M A (letOwnedTupleGo tg (.ref it) u) Q E s := by
  unfold letOwnedTupleGo;cases tg <;> first
    | exact bh hQ
    | (cases u <;> first
        | exact bh hQ
        | (refine ah (wpAny_load ho ?_)
           rw [hc, hd];show wpAny M A (if (["enumerate", "zip", "dict_itemiterator", "dict_reverseitemiterator", "odict_iterator", "itertools.zip_longest", "itertools.pairwise"].contains n && vs[0]? == some (rawInt _)) = true then _ else _) Q E s;rw [if_neg (by intro h; rw [hn, Bool.false_and] at h; cases h)];exact bh hQ))
def zE(K:ae)(a:Addr):It:=
 ⟨λi H=>∃xs x,cE K H a xs/\xs[i]?=some x,λi H x H'=>H'=H/\∀xs,cE K H a xs->xs[i]?=some x,λi H=>∃xs,cE K H a xs/\xs.length<=i⟩
def Mf(K:ae)(a:Addr):It:=
 ⟨λi H=>∃xs x,dJ K H a xs/\xs[i]?=some x,λi H x H'=>H'=H/\∀xs,dJ K H a xs->xs[i]?=some x,λi H=>∃xs,dJ K H a xs/\xs.length<=i⟩
def uR(lo:Int)(n:Nat):It:=⟨λi _=>i<n,λi H x H'=>H'=H/\x=.int (lo+i),λi _=>n<=i⟩
theorem Kz{P:Program}{w:am}{K:ae}{tg:ag}(a it:Addr):rS P w K tg (zE K a) [it] it (λi h=>h.IsListIter it a i) where
 mem:=by simp
 obj:=λi h st b hb=>by
  have e:b=it:=by simpa using hb
  subst e;obtain⟨o,e,c,d⟩:=st;exact⟨o,e,λv z=>by rw[d]at z;cases z⟩
 keep:=λi h h' st k=>st.at λo e=>k it (by simp) o e
 item:=by
  intro X hP hw hK hc i AO s σ H E I hf st hg;subst hP hw hK;obtain⟨xs,x,hq,hx⟩:=hg;obtain⟨its,rv,p,hz⟩:=I.list hq;obtain⟨u,hu,ru⟩:=rv.get hx;obtain⟨f0,f1,f2,f3,f4,f5⟩:=hf it (by simp);refine ym st p.isList (x:=u) (by simpa using hu) λh' st' sb=>?_;have I1:aH X AO σ H {s with heap:=h'}:=I.turned (t':=s.toks) (λb o hb e=>(sb.2 b hb).trans e) f0 f1 f3 f4 f5;obtain⟨o,e,c,d⟩:=id st';exact⟨u,rfl,De (s:={s with heap:=h'}) e c d (by decide) ⟨x,H,I1,ru,⟨rfl,λys hy=>by rw[I.list_inj hy hq];exact hx⟩,st',λb hb=>(hf b hb).1⟩⟩
 done:=by
  intro X hP hw hK hc i AO s σ H E I hf st hg;subst hP hw hK;obtain⟨xs,hq,hx⟩:=hg;obtain⟨its,rv,p,hz⟩:=I.list hq;obtain⟨f0,f1,f2,f3,f4,f5⟩:=hf it (by simp);have hl:=rv.length;exact yn (I.ok.hd hc) st p.isList (by simp;omega) λh' eb=>⟨rfl,I.turned (t':=s.toks) (λb o hb e=>eb b o hb e) f0 f1 f3 f4 f5⟩
 self:=λ_ _ _ _ _ st h=>wpAny_pyIter_listiter st h
theorem Px{P:Program}{w:am}{K:ae}{tg:ag}(a it:Addr):rS P w K tg (Mf K a) [it] it (λi h=>h.IsTupleIter it a i) where
 mem:=by simp
 obj:=λi h st b hb=>by
  have e:b=it:=by simpa using hb
  subst e;obtain⟨o,e,c,d⟩:=st;exact⟨o,e,λv z=>by rw[d]at z;cases z⟩
 keep:=λi h h' st k=>st.at λo e=>k it (by simp) o e
 item:=by
  intro X hP hw hK hc i AO s σ H E I hf st hg;subst hP hw hK;obtain⟨xs,x,hq,hx⟩:=hg;obtain⟨its,rv,p,hz⟩:=I.tuple hq;obtain⟨u,hu,ru⟩:=rv.get hx;obtain⟨f0,f1,f2,f3,f4,f5⟩:=hf it (by simp);refine wpAny_pyNext_tuple_item st (show s.heap.IsTuple a its.toArray from p) (x:=u) (by simpa using hu) λh' st' sb=>?_;have I1:aH X AO σ H {s with heap:=h'}:=I.turned (t':=s.toks) (λb o hb e=>(sb.2 b hb).trans e) f0 f1 f3 f4 f5;obtain⟨o,e,c,d⟩:=id st';exact⟨u,rfl,De (s:={s with heap:=h'}) e c d (by decide) ⟨x,H,I1,ru,⟨rfl,λys hy=>by rw[I.tuple_inj hy hq];exact hx⟩,st',λb hb=>(hf b hb).1⟩⟩
 done:=by
  intro X hP hw hK hc i AO s σ H E I hf st hg;subst hP hw hK;obtain⟨xs,hq,hx⟩:=hg;obtain⟨its,rv,p,hz⟩:=I.tuple hq;obtain⟨f0,f1,f2,f3,f4,f5⟩:=hf it (by simp);have hl:=rv.length;exact wpAny_pyNext_tuple_end (I.ok.hd hc) st (show s.heap.IsTuple a its.toArray from p) (by simp;omega) λh' eb=>⟨rfl,I.turned (t':=s.toks) (λb o hb e=>eb b o hb e) f0 f1 f3 f4 f5⟩
 self:=λ_ _ _ _ _ st h=>wpAny_pyIter_tupleiter st h
theorem Ix{P:Program}{w:am}{K:ae}{tg:ag}(it:Addr)(lo:Int)(n:Nat):rS P w K tg (uR lo n) [it] it (λi h=>IsRangeIter h it (lo+(i:Nat)*1) ((n:Int)-(i:Nat)) 1) where
 mem:=by simp
 obj:=λi h st b hb=>by
  have e:b=it:=by simpa using hb
  subst e;exact⟨_,st,λv z=>by
   have z':Data.fields _=Data.cell v:=z;cases z'⟩
 keep:=λi h h' st k=>k it (by simp) _ st
 item:=by
  intro X hP hw hK hc i AO s σ H E I hf st hg;subst hP hw hK;obtain⟨f0,f1,f2,f3,f4,f5⟩:=hf it (by simp);have W:=Walks.range (prog:=X.prog) (w:=X.w) (I.ok.hd hc) it lo 1 n;refine W.item i s _ _ hg st λv h' tk hv st' kk=>?_;obtain⟨t,rfl⟩:=hv;have I1:aH X AO σ H {s with heap:=h',toks:=tk}:=I.turned (λb o hb e=>kk b o (by simpa using hb) e) f0 f1 f3 f4 f5;refine⟨_,rfl,De (s:={s with heap:=h',toks:=tk}) (n:="range_iterator") st' rfl rfl (by decide) ⟨.int (lo+i),H,I1,⟨t,?_⟩,⟨rfl,rfl⟩,st',λb hb=>(hf b hb).1⟩⟩;rw[nv]
 done:=by
  intro X hP hw hK hc i AO s σ H E I hf st hg;subst hP hw hK;obtain⟨f0,f1,f2,f3,f4,f5⟩:=hf it (by simp);exact wpAny_pyNext_range_end (I.ok.hd hc) st (by have:n<=i:=hg;omega) λh' eb=>⟨rfl,I.turned (t':=s.toks) (λb o hb e=>eb b o hb e) f0 f1 f3 f4 f5⟩
 self:=λ_ _ _ _ _ st h=>wpAny_pyIter_rangeiter st h
section
variable{X:Cx}{tg:ag}
theorem Nl{AO:List (Addr×Obj)}{σ:St}{H:Hp}{s:aa}{R:It->Hp->Prop}{E:Value->aa->Prop}{lo hi:Int}{t u v:Tok}{tk:Nat}(I:aH X AO σ H s)(h1:-(2^62)<=lo)(h2:lo<2^62)(h3:-(2^62)<=hi)(h4:hi<2^62)
  (q:R (uR lo (hi-lo).toNat) H):wpAny (model X.prog X.w) X.A (pyIter (.ref s.heap.objs.size)) (Zt X AO σ tg R) E {s with heap:=s.heap.push {cls:=.type "range",data:=.fields #[.int lo t,.int hi u,.int 1 v]},toks:=tk}:=by
 refine wpAny_pyIter_range (IsRange.new ..) (small_one h1 h2 h3 h4) ?_;have I1:aH X AO σ H {s with heap:=s.heap.push {cls:=.type "range",data:=.fields #[.int lo t,.int hi u,.int 1 v]},toks:=tk}:=I.kept λb o e=>ay _ e;refine⟨(s.heap.push {cls:=.type "range",data:=.fields #[.int lo t,.int hi u,.int 1 v]}).objs.size,[(s.heap.push {cls:=.type "range",data:=.fields #[.int lo t,.int hi u,.int 1 v]}).objs.size],_,_,H,rfl,
  I1.kept (t':=tk) λb o e=>ay _ e,Ix _ lo (hi-lo).toNat,?_,λb hb=>?_,q⟩
 .have e1:lo+((0:Nat):Int)*1=lo:=by simp
  have e2:(((hi-lo).toNat:Nat):Int)-((0:Nat):Int)=Builtin.Range.rangeSize lo hi 1:=by rw[rangeSize_one];split<;>omega
  show IsRangeIter _ _ (lo+((0:Nat):Int)*1) ((((hi-lo).toNat:Nat):Int)-((0:Nat):Int)) 1;rw[e1,e2];exact dg _ rfl
 .have e:b=(s.heap.push {cls:=.type "range",data:=.fields #[.int lo t,.int hi u,.int 1 v]}).objs.size:=by simpa using hb
  subst e;exact I1.fpOk (aq _) (I1.hok.fresh (aq _))
def acl(ta:TA):TI:=λσ H R=>ta σ H λvs H1=>∃j:Int,vs=[.int j]/\-(2^62)<=j/\j<2^62/\R (uR 0 j.toNat) H1
def ab0(ta:TA):TI:=λσ H R=>ta σ H λvs H1=>∃i j:Int,vs=[.int i,.int j]/\(-(2^62)<=i/\i<2^62/\-(2^62)<=j/\j<2^62)/\R (uR i (j-i).toNat) H1
theorem Xy{a:ag}{ta:TA}{p pos:ai}(hg:Gl X "range")(hm:X.mg "range"=none)(ha:PA X [a] ta)(hs:starEach [a] X.env=[(false,eval a X.env)]:=by rfl):PI X tg (.Call (.Name "range" p) [a] [] pos) (acl ta):=by
 intro AO s σ H R I h;refine Call_ (pN I hg hm boot_range (qa (bO (ha pos AO s σ H _ I h) λus s1 hq=>?_) hs rfl));rcases hq with⟨vs,H1,I1,r1,q1⟩;obtain⟨j,e,q1,q2,q⟩:=q1;subst e;cases r1 with
 |cons r rr=>
  cases rr;obtain⟨t,rfl⟩:=r;exact call_range_1 (Nl I1 (by omega) (by omega) q1 q2 (by simpa using q))
theorem Dz{a b:ag}{ta:TA}{p pos:ai}(hg:Gl X "range")(hm:X.mg "range"=none)(ha:PA X [a,b] ta)(hs:starEach [a,b] X.env=[(false,eval a X.env),(false,eval b X.env)]:=by rfl)(hs2:starEach [b] X.env=[(false,eval b X.env)]:=by rfl):
  PI X tg (.Call (.Name "range" p) [a,b] [] pos) (ab0 ta):=by
 intro AO s σ H R I h;refine Call_ (pN I hg hm boot_range (qa (bO (ha pos AO s σ H _ I h) λus s1 hq=>?_) (by rw[hs,hs2]) (by rw[hs2];rfl)));rcases hq with⟨vs,H1,I1,r1,q1⟩;obtain⟨i,j,e,⟨q1,q2,q3,q4⟩,q⟩:=q1;subst e;cases r1 with
 |cons r rr=>
  cases rr with
  |cons r' rr=>
   cases rr;obtain⟨t,rfl⟩:=r;obtain⟨t',rfl⟩:=r';exact call_range_2 (Nl I1 q1 q2 q3 q4 q)
def adD(wi:TI)(g:TG)(tb:TS):TS:=λD σ H=>wi σ H λJ H1=>∃W:Nat->Nat->St->Hp->Prop,(∃m,W 0 m σ H1)/\∀i m σ H,W i m σ H->
 (J.stop i H/\D.nx σ H)\/(J.go i H/\∃N:St->Hp->Prop,(∀σ' H',N σ' H'->∃m',m'<m/\W (i+1) m' σ' H')/\∀x H',J.yld i H x H'->g x σ H' λσ2 H2=>tb {D with nx:=N,ct:=N,bk:=D.nx} σ2 H2)
def xI(fp:List Addr)(h:Heap):List (Addr×Obj):=fp.filterMap λb=>(h.get? b).map λo=>(b,o)
theorem qS{fp:List Addr}{h:Heap}{b:Addr}{o:Obj}(hb:b∈fp)(e:h.get? b=some o):(b,o)∈xI fp h:=ve.mpr ⟨b,hb,by rw[e];rfl⟩
theorem Wy{fp:List Addr}{h:Heap}{p:Addr×Obj}(hp:p∈xI fp h):p.1∈fp/\h.get? p.1=some p.2:=by
 obtain⟨b,hb,e⟩:=ve.mp hp;cases q:h.get? b with
 |none=>rw[q]at e;cases e
 |some o=>
  rw[q]at e;have e':(b,o)=p:=cc e;subst e';exact⟨hb,q⟩
theorem aH.pinned{AO:List (Addr×Obj)}{σ:St}{H:Hp}{s:aa}{fp:List Addr}(I:aH X AO σ H s)(hf:∀b∈fp,fY X AO H b)(ho:∀b∈fp,∃o,s.heap.get? b=some o/\∀v,o.data≠.cell v):aH X (AO++xI fp s.heap) σ H s:=
 I.pins_of λp hp=>(dj.mp hp).elim (λz=>I.pin p (dz _ z)) λz=>by
  obtain⟨hb,e⟩:=Wy z;obtain⟨f0,f1,f2,_⟩:=hf p.1 hb;obtain⟨o,e',d⟩:=ho p.1 hb;rw[e]at e';cases e';exact⟨e,f0,f1,f2,d⟩
theorem aH.unpinned{AO pl:List (Addr×Obj)}{σ:St}{H:Hp}{s:aa}(I:aH X (AO++pl) σ H s):aH X AO σ H s:=I.pins_of λp hp=>I.pin p (dz _ (ji _ hp))
theorem abF{iter:ag}{body:List Stmt}{wi:TI}{g:TG}{tb:TS}{pos:ai}(hp:rh (model X.prog X.w) X.A X.env X.xe)(hc:X.calm=true)(hi:PI X tg iter wi)(hg:PG X tg g)(hb:fF X body tb)
  (hs:∀x,foldedSetIterable iter X.env x=pure x:=by intro _;rfl):PS X (.For tg iter body [] pos) (adD wi g tb):=by
 intro AO s σ H D I h;refine wpAny_For (bO (hi AO s σ H _ I h) λv s1 h1=>bO h1 λitv s2 h2=>?_) hs;obtain⟨it,fp,tn,J,H2,e,I2,T,st2,f2,W,⟨m0,w0⟩,turn⟩:=h2;subst e
 --what stays true of the iterator's objects through the loop
 have stat:∀{H':Hp},(∀b∈fp,H' b=none)->∀b∈fp,fY X AO H' b:=λhn b hb=>⟨hn b hb,(f2 b hb).2⟩;refine codeAny_forLoop_any (λn s'=>∃i σ' H',aH X AO σ' H' s'/\tn i s'.heap/\(∀b∈fp,H' b=none)/\W i n σ' H') ?_ m0 ⟨0,σ,H2,I2,st2,λb hb=>(f2 b hb).1,w0⟩
 rintro n s3 ⟨i,σ3,H3,I3,fH,fr3,w3⟩
 rcases turn i n σ3 H3 w3 with⟨stop,qn⟩|⟨go,N,hN,step⟩
 .refine ku hp (bO (T.done X rfl rfl rfl hc i AO s3 σ3 H3 X.xe I3 (stat fr3) fH stop) λr s4 hq=>?_)
  rcases hq with⟨hr,I4⟩;subst hr;exact nj ⟨σ3,H3,I4,qn⟩
 .refine ku hp (bO (T.item X rfl rfl rfl hc i AO s3 σ3 H3 X.xe I3 (stat fr3) fH go) λr s4 hq=>?_)
  rcases hq with⟨u,hr,h4⟩;subst hr;refine ku hp (bO h4 λ_ s5 hq=>?_);rcases hq with⟨x,H5,I5,r5,y5,st5,fr5⟩;have I5':=I5.pinned (stat fr5) (T.obj _ _ st5);refine ku hp (bO (hg _ s5 σ3 H5 x u _ I5' r5 (step x H5 y5)) λ_ s6 hq=>?_);rcases hq with⟨σ6,H6,I6,q6⟩;refine ku hp (bO (hb _ s6 σ6 H6 _ I6 q6) λf s7 q7=>?_);have again:∀{σ7:St}{H7:Hp},aH X (AO++xI fp s5.heap) σ7 H7 s7->N σ7 H7->∃m,m<n/\∃i σ' H',aH X AO σ' H' s7/\tn i s7.heap/\(∀b∈fp,H' b=none)/\W i m σ' H':=λ{σ7 H7} I7 n7=>by
   obtain⟨m',hm,w7⟩:=hN σ7 H7 n7;refine⟨m',hm,i+1,σ7,H7,I7.unpinned,T.keep _ _ _ st5 λb hb o e=>(I7.pin (b,o) (dz _ (dz _ (qS hb e)))).1,λb hb=>?_,w7⟩;obtain⟨o,e,d⟩:=T.obj _ _ st5 b hb;exact(I7.pin (b,o) (dz _ (dz _ (qS hb e)))).2.1
  cases f with
  |next=>obtain⟨σ7,H7,I7,n7⟩:=q7;exact again I7 n7
  |cont=>obtain⟨σ7,H7,I7,n7⟩:=q7;exact again I7 n7
  |brk=>obtain⟨σ7,H7,I7,q7⟩:=q7;exact⟨σ7,H7,I7.unpinned,q7⟩
  |ret v=>obtain⟨x7,σ7,H7,I7,r7,q7⟩:=q7;exact⟨x7,σ7,H7,I7.unpinned,r7,q7⟩
end
abbrev R2:=V->V->Hp->VK->Prop
def eO(X:Cx)(f:Value->Value->Sem Value)(r:R2):Prop:=
 ∀(AO:List (Addr×Obj))(s:aa)(σ:St)(H:Hp)(x y:V)(v u:Value)(Q:VK),aH X AO σ H s->cA x v->cA y u->r x y H Q->
  wpAny (model X.prog X.w) X.A (f v u) (EP X AO σ Q) X.xe s
def yY(X:Cx)(f:Value->Sem Value)(r:V->Hp->VK->Prop):Prop:=
 ∀(AO:List (Addr×Obj))(s:aa)(σ:St)(H:Hp)(x:V)(v:Value)(Q:VK),aH X AO σ H s->cA x v->r x H Q->
  wpAny (model X.prog X.w) X.A (f v) (EP X AO σ Q) X.xe s
def iK(X:Cx)(f:Value)(r:List V->Hp->VK->Prop):Prop:=
 ∀(AO:List (Addr×Obj))(s:aa)(σ:St)(H:Hp)(xs:List V)(us:AG)(Q:VK),aH X AO σ H s->bI xs us->r xs H Q->
  wpAny (model X.prog X.w) X.A (call f us) (EP X AO σ Q) X.xe s
def adL(X:Cx)(r:V->Hp->(Bool->Hp->Prop)->Prop):Prop:=
 ∀(AO:List (Addr×Obj))(s:aa)(σ:St)(H:Hp)(x:V)(v:Value)(Q:Bool->Hp->Prop),aH X AO σ H s->cA x v->r x H Q->
  wpAny (model X.prog X.w) X.A (truthy v) (TP X AO σ Q) X.xe s
def yZ(r:R2)(ta tb:TE):TE:=λσ H Q=>ta σ H λx H1=>tb σ H1 λy H2=>r x y H2 Q
def tUn(r:V->Hp->VK->Prop)(ta:TE):TE:=λσ H Q=>ta σ H λx H1=>r x H1 Q
def rI(C:Int->Int->Prop)(g:Int->Int->V):R2:=λx y H Q=>∃i j,x=.int i/\y=.int j/\C i j/\Q (g i j) H
def jR(g:Int->Int->V):R2:=λx y H Q=>∃i j,x=.int i/\y=.int j/\Q (g i j) H
def rU(g:Int->V):V->Hp->VK->Prop:=λx H Q=>∃i,x=.int i/\Q (g i) H
section
variable{X:Cx}{a b c:ag}{ta tb tc:TE}{pos:ai}
theorem Ve(ha:PE X a ta)(hb:PE X b tb){AO:List (Addr×Obj)}{s:aa}{σ:St}{H:Hp}{R:V->V->Hp->Prop}(I:aH X AO σ H s)
  (h:ta σ H λx H1=>tb σ H1 λy H2=>R x y H2){Q:Value->aa->Prop}{f:Value->Value->Sem Value}
  (hf:∀v u s2 x y H2,aH X AO σ H2 s2->cA x v->cA y u->R x y H2->wpAny (model X.prog X.w) X.A (f v u) Q X.xe s2):
  wpAny (model X.prog X.w) X.A (eval a X.env) (λv AS=>wpAny (model X.prog X.w) X.A (eval b X.env) (λu AW=>wpAny (model X.prog X.w) X.A (f v u) Q X.xe AW) X.xe AS) X.xe s:=by
 refine bO (ha AO s σ H _ I h) ?_
 rintro v s1 ⟨x,H1,I1,r1,q1⟩
 refine bO (hb AO s1 σ H1 _ I1 q1) ?_
 rintro u s2 ⟨y,H2,I2,r2,q2⟩
 exact hf v u s2 x y H2 I2 r1 r2 q2
theorem Wr{op:ph}{r:R2}(ho:eO X (binaryOp op) r)(ha:PE X a ta)(hb:PE X b tb):PE X (.BinOp a op b pos) (yZ r ta tb):=by
 intro AO s σ H Q I h;exact wpAny_BinOp (Ve ha hb I h λv u s2 x y H2 I2 rx ry q=>ho AO s2 σ H2 x y v u Q I2 rx ry q)
theorem Kr{op:UnaryOp}{r:V->Hp->VK->Prop}(ho:yY X (unaryOp op) r)(ha:PE X a ta):PE X (.UnaryOp op a pos) (tUn r ta):=by
 intro AO s σ H Q I h;exact UnaryOp_ (bO (ha AO s σ H _ I h) λv s1 ⟨x,H1,I1,r1,q1⟩=>ho AO s1 σ H1 x v Q I1 r1 q1)
theorem yV{f:Value->Value->Sem Value}{C:Int->Int->Prop}{g:Int->Int->Int}
  (rule:∀(i j:Int)(t u:Tok)(s:aa)(Q:Value->aa->Prop)(E:Value->aa->Prop),C i j->Q (.int (g i j) s.toks) {s with toks:=s.toks+1}->wpAny (model X.prog X.w) X.A (f (.int i t) (.int j u)) Q E s):
  eO X f (rI C λi j=>.int (g i j)):=by
 intro AO s σ H x y v u Q I rx ry h;obtain⟨i,j,rfl,rfl,hc,q⟩:=h;obtain⟨t,rfl⟩:=rx;obtain⟨t',rfl⟩:=ry;exact rule i j t t' s _ _ hc ⟨.int (g i j),H,I.tok _,⟨_,rfl⟩,q⟩
theorem Ft{f:Value->Value->Sem Value}{g:Int->Int->Int}
  (rule:∀(i j:Int)(t u:Tok)(s:aa)(Q:Value->aa->Prop)(E:Value->aa->Prop),Q (.int (g i j) s.toks) {s with toks:=s.toks+1}->wpAny (model X.prog X.w) X.A (f (.int i t) (.int j u)) Q E s):
  eO X f (jR λi j=>.int (g i j)):=by
 intro AO s σ H x y v u Q I rx ry h;obtain⟨i,j,rfl,rfl,q⟩:=h;obtain⟨t,rfl⟩:=rx;obtain⟨t',rfl⟩:=ry;exact rule i j t t' s _ _ ⟨.int (g i j),H,I.tok _,⟨_,rfl⟩,q⟩
theorem Ue{f:Value->Value->Sem Value}{g:Int->Int->Bool}
  (rule:∀(i j:Int)(t u:Tok)(s:aa)(Q:Value->aa->Prop)(E:Value->aa->Prop),Q (.bool (g i j)) s->wpAny (model X.prog X.w) X.A (f (.int i t) (.int j u)) Q E s):
  eO X f (jR λi j=>.bl (g i j)):=by
 intro AO s σ H x y v u Q I rx ry h;obtain⟨i,j,rfl,rfl,q⟩:=h;obtain⟨t,rfl⟩:=rx;obtain⟨t',rfl⟩:=ry;exact rule i j t t' s _ _ ⟨.bl (g i j),H,I,rfl,q⟩
def yP(i j:Int):Prop:=0<=j/\j<=1000000/\i.natAbs<2^64
def Re(i j:Int):Prop:=(-(2^64)<i/\i<2^64)\/(-(2^64)<j/\j<2^64)
theorem Re.ok{i j:Int}(h:Re i j):IntMulOk i j:=by
 rcases h with⟨h1,h2⟩|⟨h1,h2⟩
 .exact .of_left (intBits_le_64 h1 h2)
 .exact .of_right (intBits_le_64 h1 h2)
theorem aaA:eO X (binaryOp .Add) (jR λi j=>.int (i+j)):=Ft λ_ _ _ _ _ _ _ q=>add_int q
theorem abC:eO X (binaryOp .Sub) (jR λi j=>.int (i-j)):=Ft λ_ _ _ _ _ _ _ q=>sub_int q
theorem Y7:eO X (binaryOp .Mod) (rI (λ_ j=>j≠0) λi j=>.int (i.fmod j)):=yV λ_ _ _ _ _ _ _ hc q=>mod_int' hc q
theorem abM:eO X (binaryOp .Pow) (rI yP λi j=>.int (i^j.toNat)):=yV λ_ _ _ _ _ _ _ hc q=>pow_int_small hc.1 hc.2.1 hc.2.2 q
theorem unI{f:Value->Sem Value}{g:Int->Int}
  (rule:∀(i:Int)(t:Tok)(s:aa)(Q:Value->aa->Prop)(E:Value->aa->Prop),Q (.int (g i) s.toks) {s with toks:=s.toks+1}->wpAny (model X.prog X.w) X.A (f (.int i t)) Q E s):
  yY X f (rU λi=>.int (g i)):=by
 intro AO s σ H x v Q I rx h;obtain⟨i,rfl,q⟩:=h;obtain⟨t,rfl⟩:=rx;exact rule i t s _ _ ⟨.int (g i),H,I.tok _,⟨_,rfl⟩,q⟩
theorem Dp:yY X (unaryOp .USub) (rU λi=>.int (-i)):=unI λ_ _ _ _ _ q=>neg_int q
end
section
variable{X:Cx}{a b c:ag}{ta tb tc:TE}{pos:ai}
theorem Hr:eO X (compareOp .Lt) (jR λi j=>.bl (decide (i<j))):=Ue λ_ _ _ _ _ _ _ q=>lt_int q
theorem Lr:eO X (compareOp .Gt) (jR λi j=>.bl (decide (j<i))):=Ue λ_ _ _ _ _ _ _ q=>gt_int q
theorem Jr:eO X (compareOp .GtE) (jR λi j=>.bl (decide (j<=i))):=Ue λ_ _ _ _ _ _ _ q=>ge_int q
theorem eO.or{f:Value->Value->Sem Value}{r r':R2}(h:eO X f r)(h':eO X f r'):eO X f (λx y H Q=>r x y H Q\/r' x y H Q):=by
 intro AO s σ H x y v u Q I rx ry q;rcases q with q |q
 .exact h AO s σ H x y v u Q I rx ry q
 .exact h' AO s σ H x y v u Q I rx ry q
theorem lI(b:ag){op:jz}(h:op≠.In:=by decide)(h2:op≠.NotIn:=by decide):behindInMarks op b=false:=by
 have e1:(op==CmpOp.In)=false:=by cases op<;>first |rfl |exact absurd rfl h
 have e2:(op==CmpOp.NotIn)=false:=by cases op<;>first |rfl |exact absurd rfl h2
 cases b<;>simp[behindInMarks,e1,e2]
theorem V5{op:jz}{r:R2}(ho:eO X (compareOp op) r)(ha:PE X a ta)(hb:PE X b tb)(hm:behindInMarks op b=false):PE X (.Compare a [op] [b] pos) (yZ r ta tb):=by
 intro AO s σ H Q I h;exact wpAny_Compare1 (Ve ha hb I h λv u s2 x y H2 I2 rx ry q=>ho AO s2 σ H2 x y v u Q I2 rx ry q) hm
def acR(t:TE):TT:=λσ H Q=>t σ H λx H'=>∃k,x=.bl k/\Q k H'
theorem U7{op:jz}{r:R2}(ho:eO X (compareOp op) r)(ha:PE X a ta)(hb:PE X b tb)(hm:behindInMarks op b=false):PT X (.Compare a [op] [b] pos) (acR (yZ r ta tb)):=by
 intro AO s σ H Q I h;refine yl (bO (ha AO s σ H _ I h) λv s1 ⟨x,H1,I1,r1,q1⟩=>bO (hb AO s1 σ H1 _ I1 q1) λu s2 ⟨y,H2,I2,r2,q2⟩=>
  bO (ho AO s2 σ H2 x y v u _ I2 r1 r2 q2) λc s3 ⟨z,H3,I3,r3,k,e,q3⟩=>?_) hm
 subst e;cases r3;exact kr ⟨H3,I3,q3⟩
def Ys(K:ae)(x:V)(H:Hp)(k:Bool):Prop:=
 match x with
 |.non=>k=false
 |.bl b=>k=b
 |.int i=>k=(i !=0)
 |.str y=>y.length<=sizeLine/\k=((y.length:Int) !=0)
 |.byt y=>y.size<=sizeLine/\k=((y.size:Int) !=0)
 |.ref p=>(∃xs,cE K H p xs/\k=!xs.isEmpty)\/(∃xs,dJ K H p xs/\k=!xs.isEmpty)\/∃kvs,H p=some (.dK kvs)/\k=!kvs.isEmpty
 |_=>False
theorem Xw{κ:Type}{kvs:List (κ×V)}{vs:List (κ×Value)}(r:KV kvs vs):(!vs.isEmpty)=!kvs.isEmpty:=by
 cases r<;>rfl
theorem Eh{xs:List V}{its:AG}(r:bI xs its):(!its.toArray.isEmpty)=!xs.isEmpty:=by
 cases r<;>simp
theorem rH:(sizeLine:Nat)<2^63:=by rw[jw];decide
theorem abp:adL X (λx H Q=>∃k,Ys X.K x H k/\Q k H):=by
 intro AO s σ H x v Q I rx h;obtain⟨k,e,q⟩:=h;have hl:=rH;have hs:sizeLine=16777216:=jw;cases x with
 |non=>
  cases rx;have e':k=false:=e;subst e';exact truthy_none ⟨H,I,q⟩
 |bl b=>
  cases rx;have e':k=b:=e;subst e';exact kr ⟨H,I,q⟩
 |int i=>
  obtain⟨t,rfl⟩:=rx;have e':k=(i !=0):=e;subst e';exact PySem.P.truthy_int ⟨H,I,q⟩
 |str y=>
  obtain⟨t,rfl⟩:=rx;obtain⟨hy,e'⟩:y.length<=sizeLine/\k=((y.length:Int) !=0):=e;subst e';exact PySem.P.truthy_str (by omega) ⟨H,I.tok _,q⟩
 |byt y=>
  obtain⟨t,rfl⟩:=rx;obtain⟨hy,e'⟩:y.size<=sizeLine/\k=((y.size:Int) !=0):=e;subst e';exact PySem.W.truthy_bytes (by omega) ⟨H,I.tok _,q⟩
 |ref p=>
  cases rx;have e':(∃xs,cE X.K H p xs/\k=!xs.isEmpty)\/(∃xs,dJ X.K H p xs/\k=!xs.isEmpty)\/∃kvs,H p=some (.dK kvs)/\k=!kvs.isEmpty:=e;rcases e' with⟨xs,hx,e'⟩|⟨xs,hx,e'⟩|⟨kvs,hx,e'⟩
  .subst e'
   obtain⟨its,r,pl,hz⟩:=I.list hx;have hlen:=r.length;exact wpAny_truthy_list pl.isList (by simp only[ar];omega) ⟨H,I.tok _,by rw[Eh r];exact q⟩
  .subst e'
   obtain⟨its,r,pl,hz⟩:=I.tuple hx;have hlen:=r.length;exact truthy_tuple pl (by simp only[ar];omega) ⟨H,I.tok _,by rw[Eh r];exact q⟩
  .subst e'
   obtain⟨hz,hS,vs,r,m⟩:kvs.length<=sizeLine/\(p==sysModules)=false/\∃vs,KV kvs vs/\s.heap.DictOf (Nc X.prog X.w) p vs:=I.hok p _ hx;have hlen:kvs.length=vs.length:=ye r;exact wpAny_truthy_dict hS m (by omega) ⟨H,I.tok _,by rw[Xw r];exact q⟩
 |_=>exact(show False from e).elim
theorem M4(ha:PE X a ta)(he:∀whole,isTrue a X.env whole=(do let v <-whole;standAt a.pos;holding [v] (truthy v))):
  PT X a (λσ H Q=>ta σ H λx H'=>∃k,Ys X.K x H' k/\Q k H'):=by
 intro AO s σ H Q I h;exact isTrue_plain (bO (ha AO s σ H _ I h) λv s1 ⟨x,H1,I1,r1,q1⟩=>abp AO s1 σ H1 x v Q I1 r1 q1) (he _)
theorem kD{x:V}{us:AG}(r:bI [x] us):∃u,us=[u]/\cA x u:=by
 cases r with
 |cons r1 r2=>cases r2;exact⟨_,rfl,r1⟩
theorem Mr{x y:V}{us:AG}(r:bI [x,y] us):∃u w',us=[u,w']/\cA x u/\cA y w':=by
 cases r with
 |cons r1 r2=>
  cases r2 with
  |cons r3 r4=>cases r4;exact⟨_,_,rfl,r1,r3⟩
theorem B8:iK X (.builtin "abs") (λxs H Q=>∃i,xs=[.int i]/\Q (.int (if i<0 then-i else i)) H):=by
 intro AO s σ H xs us Q I r h;obtain⟨i,rfl,q⟩:=h;obtain⟨u,rfl,t,rfl⟩:=kD r;exact call_abs_int λu tk=>⟨.int (if i<0 then-i else i),H,I.tok _,⟨_,rfl⟩,q⟩
theorem Ux:iK X (.type "int") (λxs H Q=>(∃i,xs=[.int i]/\Q (.int i) H)\/∃k,xs=[.bl k]/\Q (.int (if k then 1 else 0)) H):=by
 intro AO s σ H xs us Q I r h;rcases h with⟨i,rfl,q⟩|⟨k,rfl,q⟩
 .obtain⟨u,rfl,t,rfl⟩:=kD r
  exact call_int_int ⟨.int i,H,I,⟨_,rfl⟩,q⟩
 .obtain⟨u,rfl,r1⟩:=kD r
  cases r1;exact call_int_bool ⟨.int (if k then 1 else 0),H,I.tok _,⟨_,rfl⟩,q⟩
end
structure Xe(h:Heap)(x dx C:Addr)(mA:Str->AH):Prop where
 obj:h.get? x=some (uq C dx)
 ns:h.Ns1 dx mA
 ne:dx≠x
theorem Cz{h:Heap}{dx:Addr}{mA:Str->AH}(n:h.Ns1 dx mA):∃od,h.get? dx=some od/\∀name,vf name od=some (mA name):=by
 obtain⟨o,es,ep,ho,hd,hk,_,hm⟩:=n;refine⟨o,ho,λname=>?_⟩;have e:=hm name;unfold nsFind findBy at e;rw[<-Array.find?_toList]at e;unfold vf;rw[hd];dsimp only;split
 .rename_i y q
  rw[q]at e;exact congrArg some e
 .rename_i q
  rw[q]at e;have a:es.toList.any (·.refKey)=false:=by
   rw[List.any_eq_false];intro y hy;obtain⟨z,t,hkey⟩:=hk y (Array.mem_toList_iff.mp hy);simp[DictEntry.refKey,hkey]
  have a':¬es.toList.any (·.refKey)=true:=by rw[a];exact kw
  rw[if_neg a'];exact congrArg some e
theorem Xe.look{h:Heap}{x dx C:Addr}{mA:Str->AH}(I:Xe h x dx C mA):∃od,PySem.W.InstAt h x (uq C dx) C (some od)/\∀name,vf name od=some (mA name):=
 let⟨od,ho,hl⟩:=Cz I.ns
 ⟨od,⟨I.obj,rfl,rfl,ho⟩,hl⟩
section
variable{prog:Program}{w:am}{A:ao}{E:Value->aa->Prop}{s:aa}{K:ae}{x dx C f:Addr}{mA:Str->AH}{name:Str}{v:Value}
end
section
variable{P:Program}{w:am}{H H':Hp}{h h':Heap}{a C dx:Addr}{fs fs':List (Str×V)}
theorem R7(hok:fJ P w H h)(e:H a=some (.ins C dx fs)):∃mA,Xe h a dx C mA/\(∀f,Le (fs.lookup f) (mA f))/\yf mA (fs.map (·.1))/\fs.length<=1000/\H dx=some (.own a):=by
 obtain⟨d,z,ne,ob,mA,n,r,q⟩:=(show fP P w H h a (.ins C dx fs) from hok a _ e);exact⟨mA,⟨ob,n,ne⟩,r,q,z,d⟩
end
structure Pf(K:ae)(C:Addr):Prop where
 pg:yo K C Str.empty=true
 hd:PySem.W.hasDictIn K C=true
 po:PySem.W.plainOver K C=true
 sa:vg K (.ref C) "__setattr__"=some (some (.builtin "object.__setattr__"))
theorem Pf.get{K:ae}{C:Addr}(c:Pf K C)(f:Str):yo K C f=true:=c.pg
structure Kf(K:ae)(C:Addr)(f:Str)(v:V)(u:Value):Prop where
 at_:vg K (.ref C) f=some (some u)
 rel:cA v u
 get:yp K u "__get__"=some none
 cp:PySem.W.copiedNames.contains f=false
section
variable{X:Cx}{AO:List (Addr×Obj)}{σ:St}{H:Hp}{s:aa}{a C dx:Addr}{fs:List (Str×V)}{f:Str}{v:V}{A:ao}{E:Value->aa->Prop}
end
section
variable{X:Cx}{o e value:ag}{f:Str}{pos pos' tpos:ai}{ta tv:TE}
end
section
variable{X:Cx}{AO:List (Addr×Obj)}{σ:St}{H:Hp}{s:aa}{A:ao}{E:Value->aa->Prop}{Q:Value->aa->Prop}{c:Value}{b:Bool}
inductive jO(K:ae)(H:Hp):V->Value->Prop where
 |non:jO K H .non (.type "NoneType")
 |bl (x:Bool):jO K H (.bl x) (.type "bool")
 |int (i:Int):jO K H (.int i) (.type "int")
 |str (x:Str):jO K H (.str x) (.type "str")
 |flt (x:UInt64):jO K H (.flt x) (.type "float")
 |lst {a:Addr} {xs:List V} (e:H a=some (.lst xs)):jO K H (.ref a) (.type "list")
 |frz {a:Addr} {o:Obj} {xs:List V} (e:H a=some (.frz o (.lst xs))):jO K H (.ref a) (.type "list")
 |tup {a:Addr} {xs:List V} (e:H a=some (.tup xs)):jO K H (.ref a) (.type "tuple")
 |dK {a:Addr} {kvs:List (gS×V)} (e:H a=some (.dK kvs)):jO K H (.ref a) (.type "dict")
 |dT {a:Addr} {kvs:List (List gS×V)} (e:H a=some (.dT kvs)):jO K H (.ref a) (.type "dict")
 |ins {a C dx:Addr} {fs:List (Str×V)} (e:H a=some (.ins C dx fs)) (cl:Pf K C) (ha:vg K (.ref C) "__class__"=some (some (.builtin "object.__class__")))
   (hn:yp K (.builtin "object.__class__") "__get__"=some (some (.builtin "getset_descriptor.__get__"))) (htk:PySem.W.takesIn K (.builtin "object.__class__")=some true)
   (hm:PySem.W.mroIn K C (.type "object")=some true):jO K H (.ref a) (.ref C)
theorem My{x:V}{u t:Value}(I:aH X AO σ H s)(rx:cA x u)(ty:jO X.K H x t)(e:ka X.K t c=some b)(h:∀tk,Q (.bool b) {s with toks:=tk}):
  wpAny (model X.prog X.w) A (call (.builtin "isinstance") [u,c]) Q E s:=by
 cases ty with
 |non=>cases(show u=ck from rx);exact ig PySem.W.kitx_none I.kIn qc e (λz=>nomatch z) h
 |bl y=>cases(show u=qz y from rx);exact ig PySem.W.kitx_bool I.kIn qc e (λz=>nomatch z) h
 |int i=>obtain⟨t,q⟩:=(show ∃t,u=qy i t from rx);cases q;exact ig PySem.W.kitx_int I.kIn qc e (λz=>nomatch z) h
 |str y=>obtain⟨t,q⟩:=(show ∃t,u=uo y t from rx);cases q;exact ig PySem.W.kitx_str I.kIn qc e (λz=>nomatch z) h
 |flt y=>obtain⟨t,q⟩:=(show ∃t,u=Value.float y t from rx);cases q;exact ig PySem.W.kitx_float I.kIn qc e (λz=>nomatch z) h
 |@lst a xs ea=>
  cases(show u=gw a from rx);obtain⟨_,_,n,_,h1⟩:=(show fP X.prog X.w H s.heap a (.lst xs) from I.hok a _ ea);exact ig vh I.kIn ⟨_,h1,rfl⟩ e (λz=>nomatch z) h
 |@frz a ob xs ea=>
  cases(show u=gw a from rx);obtain⟨_,_,_,n,_,h1⟩:=(show fP X.prog X.w H s.heap a (.frz ob (.lst xs)) from I.hok a _ ea);exact ig vh I.kIn ⟨_,h1,rfl⟩ e (λz=>nomatch z) h
 |@tup a xs ea=>
  cases(show u=gw a from rx);obtain⟨_,_,_,p⟩:=(show fP X.prog X.w H s.heap a (.tup xs) from I.hok a _ ea);obtain⟨o,h1,h2,_⟩:=p;exact ig yq I.kIn ⟨o,h1,h2⟩ e (λz=>nomatch z) h
 |@dK a kvs ea=>
  cases(show u=gw a from rx);obtain⟨_,_,vs,_,p⟩:=(show fP X.prog X.w H s.heap a (.dK kvs) from I.hok a _ ea);obtain⟨o,es,ep,h1,h2,_⟩:=p;exact ig yr I.kIn ⟨o,h1,h2.1⟩ e (λz=>nomatch z) h
 |@dT a kvs ea=>
  cases(show u=gw a from rx);obtain⟨_,_,xs,_,o,es,ep,h1,h2,_⟩:=(show fP X.prog X.w H s.heap a (.dT kvs) from I.hok a _ ea);exact ig yr I.kIn ⟨o,h1,h2.1⟩ e (λz=>nomatch z) h
 |@ins a C dx fs ea cl ha hn htk hm=>
  cases(show u=gw a from rx);obtain⟨mA,O,_⟩:=R7 I.hok ea;obtain⟨od,J,_⟩:=O.look;exact ig (PySem.W.kitx_own (cl.get _) cl.hd ha hn htk hm) I.kIn J e (λz=>nomatch z) h
end
structure dQ(k:Nat)(A:ao):Prop where
 hd:A.handled=none
 dp:A.depth+3*k+5<recursionLimit
 un:A.units+16*k+200<cLine
theorem dQ.mono{j k:Nat}{A:ao}(r:dQ k A)(h:j<=k):dQ j A:=⟨r.hd,by have:=r.dp;omega,by have:=r.un;omega⟩
theorem dQ.deeper{k:Nat}{A:ao}(r:dQ (k+1) A)(env:bi):dQ k (A.deeper env):=
 ⟨r.hd,by have:=r.dp;show A.depth+1+3*k+5<_;omega,by have:=r.un;show A.units+3+16*k+200<_;omega⟩
theorem dQ.depth{k:Nat}{A:ao}(r:dQ k A):A.depth<recursionLimit:=by have:=r.dp;omega
theorem dQ.units{k:Nat}{A:ao}(r:dQ k A):A.units+64<cLine:=by have:=r.un;omega
def ads:TA:=λ_ H Q=>Q [] H
def acj(ta:TE)(tr:TA):TA:=λσ H Q=>ta σ H λx H1=>tr σ H1 λxs H2=>Q (x::xs) H2
section
variable{X:Cx}{e:ag}{es:List ag}{te:TE}{t:TA}{pos:ai}
theorem tT:PA X [] ads:=λ_ _ _ _ H Q I h=>Calls.spliced_nil ⟨[],H,I,.nil,h⟩
theorem nR(ha:PE X e te)(hr:PA X es t)(hs:starEach (e::es) X.env=(false,eval e X.env)::starEach es X.env:=by rfl):PA X (e::es) (acj te t):=by
 intro pos AO s σ H Q I h;rw[hs];show wpAny _ _ (spliced ((false,eval e X.env)::backTo pos (starEach es X.env))) _ _ s;refine Calls.spliced_cons (bO (ha AO s σ H _ I h) λu s1 hq=>?_);rcases hq with⟨x,H1,I1,r1,q1⟩;exact bO (hr pos AO s1 σ H1 _ I1 q1) λus s2 ⟨xs,H2,I2,r2,q2⟩=>⟨x::xs,H2,I2,.cons r1 r2,q2⟩
def adR(t:TA):TE:=λσ H Q=>t σ H λxs H1=>xs.length<=sizeLine/\∀p,H1 p=none->Q (.ref p) (bK H1 p (.tup xs))
def adw(t:TA):TE:=λσ H Q=>t σ H λxs H1=>xs.length<=sizeLine/\∀p,H1 p=none->Q (.ref p) (bK H1 p (.lst xs))
theorem Wq{x1}(h:PA X es t):PE X (.Tuple es x1 pos) (adR t):=by
 intro AO s σ H Q I hq;refine wpAny_Tuple_spliced (bO (h pos AO s σ H _ I hq) λus s1 ⟨xs,H1,I1,r,z,q⟩=>⟨by rw[<-r.length];exact z,?_⟩);have hf:H1 s1.heap.objs.size=none:=I1.hok.fresh (aq _);refine⟨.ref s1.heap.objs.size,bK H1 s1.heap.objs.size (.tup xs),I1.laid (t':=s1.toks) (λb u e=>ay _ e) (aq _) ?_,rfl,q _ hf⟩;exact⟨⟨z,_,dg _ rfl,rfl⟩,us,r,⟨_,dg _ rfl,rfl,_,rfl⟩⟩
theorem Bq(h:PA X es t):PE X (.List es pos) (adw t):=by
 intro AO s σ H Q I hq;refine wpAny_List_spliced (bO (h pos AO s σ H _ I hq) λus s1 ⟨xs,H1,I1,r,z,q⟩=>⟨by rw[<-r.length];exact z,?_⟩);have hf:H1 s1.heap.objs.size=none:=I1.hok.fresh (aq _);refine⟨.ref s1.heap.objs.size,bK H1 s1.heap.objs.size (.lst xs),I1.laid (t':=s1.toks) (λb u e=>ay _ e) (aq _) ?_,rfl,q _ hf⟩;exact⟨z,us,0,r,dg _ rfl⟩
end
abbrev Sp:=List V->Hp->VK->XK->Prop
abbrev jA:=List bi->Hp->aa->XK->Value->aa->Prop
structure yB(P:Program)(w:am)(K:ae)(mg:Str->AH)(base:Heap)(A:ao)(outer:List bi)(s:aa)(H:Hp):Prop where
 frames:A.frames=some outer
 mod:Mod K mg base
 bs:∀b o,base.get? b=some o->s.heap.get? b=some o/\H b=none
 bsz:base.objs.size<=s.heap.objs.size
 funs:s.heap.FunFrames base outer
 frf:∀b∈dS outer,H b=none
 hok:fJ P w H s.heap
 bare:jd s.gens
def CE(outer:List bi)(P:Program)(w:am)(H:Hp)(s:aa)(Q:VK)(u:Value)(s':aa):Prop:=
 ∃v H',s'.os=s.os/\jd s'.gens/\Un (dS outer) [] H H' s.heap s'.heap/\fJ P w H' s'.heap/\cA v u/\Q v H'
def CR(CX:jA)(outer:List bi)(P:Program)(w:am)(H:Hp)(s:aa)(Q:VK)(E:XK)(r:qd)(s':aa):Prop:=
 match r with
 |.ok (.ret u)=>CE outer P w H s Q u s'
 |.ok _=>False
 |.error e=>CX outer H s E e s'
structure eD(P:Program)(w:am)(K:ae)(mg:Str->AH)(base:Heap)(CX:jA)(k:Nat)(f:Addr)(fd:br)(ps:List Str)(sp:Sp):Prop where
 len:∀vs H Q E,sp vs H Q E->vs.length=ps.length
 run:∀(A:ao)(outer:List bi)(s:aa)(H:Hp)(args:Args)(us:AG)(vs:List V)(Q:VK)(E:XK),dQ k A->yB P w K mg base A outer s H->ny s fd args (ps.zip us)->bI vs us->sp vs H Q E->
  codeAny (model P w) A (.call (.ref f) args) (CR CX outer P w H s Q E) s
theorem eD.imp{P:Program}{w:am}{K:ae}{mg:Str->AH}{base:Heap}{CX:jA}{k:Nat}{f:Addr}{fd:br}{ps:List Str}{sp sp':Sp}(F:eD P w K mg base CX k f fd ps sp)
  (h:∀vs H Q E,sp' vs H Q E->sp vs H Q E):eD P w K mg base CX k f fd ps sp':=
 ⟨λvs H Q E q=>F.len vs H Q E (h _ _ _ _ q),λA outer s H args us vs Q E hr he hb hv hs=>F.run A outer s H args us vs Q E hr he hb hv (h _ _ _ _ hs)⟩
section
variable{X:Cx}{AO:List (Addr×Obj)}{σ:St}{H:Hp}{s s':aa}
theorem aH.env0(I:aH X AO σ H s):yB X.prog X.w X.K X.mg X.base X.A X.stack s H:=
 ⟨I.ok.frames,I.ok.mod,I.bs,ee I.ok.bsz I.sz,I.stack,I.stkFree,I.hok,I.bare⟩
theorem aH.after{Q:VK}{u:Value}(I:aH X AO σ H s)(h:CE X.stack X.prog X.w H s Q u s'):EP X AO σ Q u s':=by
 obtain⟨v,H',os,bare,un,hok,r,q⟩:=h;obtain⟨hh,g,d,t,os'⟩:=s';obtain rfl:os'=s.os:=os;exact⟨v,H',I.call (h':=hh) (g':=g) (d':=d) (t':=t) (ch:=[]) un hok bare (λb z=>absurd z (by simp)),r,q⟩
end
def ab8(sp:Sp)(dvs:List V)(E:XK)(t:TA):TE:=λσ H Q=>t σ H λvs H1=>sp (vs++dvs) H1 Q E
def gO(K:ae)(fd:br)(ps:List Str)(ds:AG):Prop:=
 ∀(s:aa)(us:AG),K.In s.heap->(us++ds).length=ps.length->ny s fd ⟨us,[]⟩ (ps.zip (us++ds))
theorem gO.all{K:ae}{fd:br}{ps:List Str}(h:∀us:AG,us.length=ps.length->bindArgs fd ⟨us,[]⟩=pure (ps.zip us)):gO K fd ps []:=λs us _ hl=>by
 rw[jk]at hl⊢;exact .of_eq (h us hl)
def xO(CX:jA)(X:Cx)(E:XK):Prop:=∀(AO:List (Addr×Obj))(σ:St)(H:Hp)(s:aa)(e:Value)(s':aa),aH X AO σ H s->CX X.stack H s E e s'->X.xe e s'
section
variable{X:Cx}{CX:jA}{k:Nat}{f C:Addr}{fd:br}{ps:List Str}{sp:Sp}{dvs:List V}{ds:AG}{E:XK}{x m:Str}{p pos apos:ai}{e o:ag}{es:List ag}{ta:TE}{t:TA}
theorem abP{AO:List (Addr×Obj)}{σ:St}{H:Hp}{s:aa}{Q:VK}{us:AG}{vs:List V}(F:eD X.prog X.w X.K X.mg X.base CX k f fd ps sp)(hr:dQ k X.A)(hb:gO X.K fd ps ds)(hd:bI dvs ds)(hx:xO CX X E)
  (I:aH X AO σ H s)(r:bI vs us)(h:sp (vs++dvs) H Q E):wpAny (model X.prog X.w) X.A (call (.ref f) us) (EP X AO σ Q) X.xe s:=by
 have r2:bI (vs++dvs) (us++ds):=r.append hd;have hl:(us++ds).length=ps.length:=by rw[<-r2.length];exact F.len _ _ _ _ h
 refine wpAny_call (qe (F.run X.A X.stack s H ⟨us,[]⟩ (us++ds) (vs++dvs) Q E hr I.env0 (hb s us I.kIn hl) r2 h) λr s' hq=>?_);cases r with
 |error e=>exact hx AO σ H s e s' I hq
 |ok fl=>
  cases fl with
  |ret u=>exact I.after hq
  |next=>exact ia hq
  |brk=>exact ia hq
  |cont=>exact ia hq
theorem wO(F:eD X.prog X.w X.K X.mg X.base CX k f fd ps sp)(hr:dQ k X.A)(hg:Gl X x)(hm:X.mg x=some (.ref f))(hk:dq X.K (.ref f)=true)(hb:gO X.K fd ps ds)(hd:bI dvs ds)(hx:xO CX X E)
  (ha:PA X (e::es) t)(hdb:(x==("__debug__":Str))=false:=by decide)(he:starEach (e::es) X.env=(false,eval e X.env)::starEach es X.env:=by rfl)(hpl:(backTo pos (starEach es X.env)).any (·.1)=false:=by rfl):
  PE X (.Call (.Name x p) (e::es) [] pos) (ab8 sp dvs E t):=by
 intro AO s σ H Q I h;refine rk (wT I hg hm ?_ hdb);refine yt (h₀:=X.base) I.ok.mod.kin hk (bO (ha pos AO s σ H _ I h) λus s1 ⟨vs,H1,I1,r,q⟩=>⟨I1.kIn,?_⟩) he hpl;exact abP F hr hb hd hx I1 r q
end
section
variable{X:Cx}{CX:jA}{k:Nat}{f C:Addr}{fd:br}{ps ks:List Str}{sp:Sp}{E:XK}{x m:Str}{p pos apos kpos:ai}{e o:ag}{es:List ag}{kws:List kx}{te ta:TE}{t tk:TA}{nm:Option Str}
variable{g:AG->AG->AG}{gV:List V->List V->List V}
end
structure jI(N P:List Str)(sc:Scope):Prop where
 kind:sc.kind=.function
 co:sc.isCoroutine=false
 gen:sc.isGenerator=false
 nd:N.Nodup
 pre:N.take P.length=P
 par:∀x∈P,sc.names.lookup x=some .local\/sc.names.lookup x=some .cell
 nofree:∀y∈sc.names,y.2≠.free
theorem Ui{kindOf:Str->Option fk}{x:Str}:∀{binds:List (Str×Value)}{m:Str->AH},(∀v,(x,v)∉binds)->bindL kindOf binds m x=m x
 |[],_,_=>rfl
 |(n,v)::r,m,h=>by
  unfold bindL;rw[Ui λw hw=>h w (ax _ hw)];split
  .have:x≠n:=by rintro rfl;exact h v ce
   simp[this]
  .rfl
theorem Uj{kindOf:Str->Option fk}{x:Str}:∀{binds:List (Str×Value)}{m:Str->AH},(∀v,(x,v)∉binds)->bindC kindOf binds m x=m x
 |[],_,_=>rfl
 |(n,v)::r,m,h=>by
  unfold bindC;rw[Uj λw hw=>h w (ax _ hw)];split
  .rfl
  .have:x≠n:=by rintro rfl;exact h v ce
   simp[this]
theorem Mj{kindOf:Str->Option fk}{x:Str}{v:Value}:∀{P:List Str}{vs:AG}{i:Nat}{m:Str->AH},P.Nodup->P[i]?=some x->vs[i]?=some v->kindOf x=some .local->
  bindL kindOf (P.zip vs) m x=some v
 |[],_,_,_,_,h,_,_=>by simp at h
 |_::_,[],_,_,_,_,h,_=>by simp at h
 |p::P,w::vs,0,m,nd,h1,h2,hk=>by
  simp at h1 h2;subst h1;subst h2;show bindL kindOf ((p,w)::P.zip vs) m p=_;unfold bindL;rw[Ui λv hv=>(ky.mp nd).1 (vj hv).1,if_pos hk];simp
 |p::P,w::vs,i+1,m,nd,h1,h2,hk=>by
  show bindL kindOf ((p,w)::P.zip vs) m x=_;unfold bindL;exact Mj (i:=i) (ky.mp nd).2 (by simpa using h1) (by simpa using h2) hk
theorem Pj{kindOf:Str->Option fk}{x:Str}{v:Value}:∀{P:List Str}{vs:AG}{i:Nat}{m:Str->AH},P.Nodup->P[i]?=some x->vs[i]?=some v->kindOf x≠some .local->
  bindC kindOf (P.zip vs) m x=some v
 |[],_,_,_,_,h,_,_=>by simp at h
 |_::_,[],_,_,_,_,h,_=>by simp at h
 |p::P,w::vs,0,m,nd,h1,h2,hk=>by
  simp at h1 h2;subst h1;subst h2;show bindC kindOf ((p,w)::P.zip vs) m p=_;unfold bindC;rw[Uj λv hv=>(ky.mp nd).1 (vj hv).1,if_neg hk];simp
 |p::P,w::vs,i+1,m,nd,h1,h2,hk=>by
  show bindC kindOf ((p,w)::P.zip vs) m x=_;unfold bindC;exact Pj (i:=i) (ky.mp nd).2 (by simpa using h1) (by simpa using h2) hk
def start(N:List Str)(vs:List V):St:=vs.map some++jm (N.length-vs.length) none
def dF(CX:jA)(P:Program)(w:am)(K:ae)(mg:Str->AH)(base:Heap)(N:List Str)(qual:Str)(scope:Scope)(f:Addr)(cd:Value)(A:ao)(outer:List bi)(s:aa)(H:Hp)(E:XK):Cx where
 prog:=P
 w:=w
 K:=K
 mg:=mg
 base:=base
 A:=A.deeper (envOfC qual scope s.heap.objs.size f cd)
 N:=N
 AQ:=s
 AR:=H
 env:=envOfC qual scope s.heap.objs.size f cd
 outer:=outer
 stack:=envOfC qual scope s.heap.objs.size f cd::outer
 ex:=[]
 calm:=true
 fn:=λ_=>true
 pn:=[]
 xe:=λe s'=>wpAny (model P w) (A.deeper (envOfC qual scope s.heap.objs.size f cd)) (leaving (envOfC qual scope s.heap.objs.size f cd) e) (λ_ s''=>CX outer H s E e s'') (λe' s''=>CX outer H s E e' s'') s'
theorem Am{sc:Scope}{n:Nat}{x:Str}(h:sc.names.lookup x=some .cell):∃c,(cellsFrom n sc.names []).lookup x=some c:=by
 have q:=yu sc.names n [] (.inl h);exact Option.isSome_iff_exists.mp q
theorem Oy{CX:jA}{P:Program}{w:am}{K:ae}{mg:Str->AH}{base:Heap}{N ps:List Str}{qual:Str}{scope:Scope}{f:Addr}{cd:Value}{A:ao}{outer:List bi}{s s1:aa}{H:Hp}{E:XK}{us:AG}{vs:List V}
  (S:jI N ps scope)(hd:A.handled=none)(e0:yB P w K mg base A outer s H)(hl:vs.length=ps.length)(r:bI vs us)
  (x:InCallC s s.heap.objs.size (bindL (envOfC qual scope s.heap.objs.size f cd).kindOf (ps.zip us) λ_=>none) (cellsFrom (s.heap.objs.size+1) scope.names []) (bindC (envOfC qual scope s.heap.objs.size f cd).kindOf (ps.zip us) λ_=>none) s1):
  aH (dF CX P w K mg base N qual scope f cd A outer s H E) [] (start N vs) H s1:=by
 have hpl:ps.length<=N.length:=by have:=congrArg kb S.pre;rw[rl]at this;omega
 obtain⟨h1,tk,rfl,hk⟩:=x.done;have noA:∀b:Addr,b∉(dF CX P w K mg base N qual scope f cd A outer s H E).ex:=λb z=>absurd (show b∈([]:List Addr) from z) (by simp);refine⟨⟨e0.mod,S.kind,rfl,rfl,aq _,λy z c h1 h2=>?_,λy hy=>?_,λy c _ h=>?_,λ_=>hd,Around.frames_deeper e0.frames,.inr ⟨rfl,rfl⟩,λb z=>absurd z (noA b),e0.bs,e0.bsz,λb _ _=>noA b,λb z=>absurd z (noA b),e0.funs,e0.frf⟩,
  rfl,e0.bare,Un.kept hk,⟨_,x.toInCall.ns,λi y v h1 h2 h3=>?_⟩,λy c h=>⟨_,x.cell y c h⟩,e0.hok.fresh (aq _),λy c h=>?_,λp hp=>absurd (show p∈([]:List (Addr×Obj)) from hp) (by simp),e0.hok.kept hk,?_⟩
 .exact name_of_addr x.apart (jn h1) (jn h2)
 .have hy:scope.names.lookup y=some .cell\/scope.names.lookup y=some .free:=hy
  rcases hy with hy |hy
  .exact Am hy
  .exact absurd rfl (S.nofree _ (jn hy))
 .exact re (x.above y c (jn h))
 .have hi:i<vs.length:=by
   unfold start at h2
   by_cases hi:i<vs.length
   .exact hi
   .rw[ib (by simpa using hi)]at h2
    rw[vk]at h2;split at h2<;>cases h2
  have ha:vs[i]?=some v:=by
   unfold start at h2;rw[fu (by simpa using hi),dk]at h2;cases e:vs[i]? with
   |none=>rw[e]at h2;cases h2
   |some a=>rw[e]at h2;cases h2;rfl
  obtain⟨u,hu,rv⟩:=r.get ha;have hp:ps[i]?=some y:=by
   rw[<-S.pre,List.getElem?_take_of_lt (by omega)];exact h1
  have ndP:ps.Nodup:=by rw[<-S.pre];exact S.nd.sublist (List.take_sublist _ _)
  refine⟨u,rv,?_⟩;rcases S.par y (ic hp)with k |k
  .exact .inl ⟨k,Mj ndP hp hu k⟩
  .obtain⟨c,e⟩:=Am (n:=s.heap.objs.size+1) k
   refine .inr ⟨.inl k,c,e,?_⟩;have q:=x.cell y c e;rw[Pj ndP hp hu (by show scope.names.lookup y≠_;rw[k];decide)]at q;exact q
 .exact e0.hok.fresh (re (x.above y c (jn h)))
 .unfold start
  show _=N.length;rw[ca,ak,yw];omega
theorem Be{CX:jA}{P:Program}{w:am}{K:ae}{mg:Str->AH}{base:Heap}{k:Nat}{f:Addr}{name qual:Str}{params:Arguments}{body:List Stmt}{scope:Scope}{dV kV doc pm cdv ct oc:Value}{an od:AI}
  {osl:Array AH}{N ps:List Str}{sp:Sp}(lk:K.lookup f=some ⟨oc,od,.func (dy name qual params body scope dV kV doc pm an cdv ct),osl⟩)(hcd:jo K cdv qual=true)(S:jI N ps scope)
  (len:∀vs H Q E,sp vs H Q E->vs.length=ps.length)
  (hbody:∀(A:ao)(outer:List bi)(s:aa)(H:Hp)(vs:List V)(Q:VK)(E:XK),dQ k (A.deeper (envOfC qual scope s.heap.objs.size f cdv))->sp vs H Q E->
   ∃t,fF (dF CX P w K mg base N qual scope f cdv A outer s H E) body t/\t {nx:=λ_ H'=>Q .non H',rt:=Q} (start N vs) H):
  eD P w K mg base CX (k+1) f (dy name qual params body scope dV kV doc pm an cdv ct) ps sp:=by
 refine⟨len,λA outer s H args us vs Q E hr e0 hb r hsp=>?_⟩;have hl:=len _ _ _ _ hsp;have KX:K.In s.heap:=e0.mod.kin.keeps λb o e=>(e0.bs b o e).1;have lim:s.heap.NoLimit:=e0.mod.nolimit.keeps λb o e=>(e0.bs b o e).1;have hkind:∀y∈ps.zip us,scope.names.lookup y.1=some .local\/(scope.names.lookup y.1=some .cell/\((cellsFrom (s.heap.objs.size+1) scope.names []).lookup y.1).isSome=true):=λ⟨n,v⟩ hy=>by
  rcases S.par n (vj hy).1 with q |q
  .exact .inl q
  .exact .inr ⟨q,yu _ _ _ (.inl q)⟩
 refine codeAny_call_function hr.depth (KX _ _ lk) rfl S.co S.gen rfl (PySem.W.codeRec_of KX hcd) (hb _ _ _ _ ?_);refine wpAny_newFunctionEnv_cells S.kind hkind λenv he s1 x=>?_;subst he;refine⟨lim.keeps x.toInCall.keep,codeAny_func ?_⟩;obtain⟨t,ht,hq⟩:=hbody A outer s H vs Q E (hr.deeper _) hsp;have I:aH (dF CX P w K mg base N qual scope f cdv A outer s H E) [] (start N vs) H s1:=Oy S hr.hd e0 hl r x;refine iy (ht [] s1 (start N vs) H _ I hq) (λfl s' hs=>?_) λe s' hs=>hs;have fin:∀{σ':St}{H':Hp}{v:V}{u:Value},aH (dF CX P w K mg base N qual scope f cdv A outer s H E) [] σ' H' s'->cA v u->Q v H'->CE outer P w H s Q u s':=
  λ{σ' H' v u} J rv q=>⟨v,H',J.os,J.bare,J.base,J.hok,rv,q⟩
 cases fl with
 |ret u=>
  obtain⟨v,σ',H',J,rv,q⟩:=hs;exact fin J rv q
 |next=>
  obtain⟨σ',H',J,q⟩:=hs;exact fin (v:=V.non) (u:=ck) J rfl q
 |brk=>
  obtain⟨_,_,_,q⟩:=hs;exact ia q
 |cont=>
  obtain⟨_,_,_,q⟩:=hs;exact ia q
section
variable{X:Cx}{x:Str}{p pos:ai}{e:ag}{es:List ag}{t:TA}{id T:String}{r:List V->Hp->VK->Prop}
def Mu(r:List V->Hp->VK->Prop)(t:TA):TE:=λσ H Q=>t σ H λvs H1=>r vs H1 Q
theorem Sb(hc:iK X (.builtin id) r)(hg:Gl X x)(hm:X.mg x=none)(hv:bootBuiltins x=some (.builtin id))(ha:PA X (e::es) t)(hn:x≠"__name__":=by decide)(hdb:(x==("__debug__":Str))=false:=by decide)
  (he:starEach (e::es) X.env=(false,eval e X.env)::starEach es X.env:=by rfl)(hpl:(backTo pos (starEach es X.env)).any (·.1)=false:=by rfl):PE X (.Call (.Name x p) (e::es) [] pos) (Mu r t):=by
 intro AO s σ H Q I h;refine rk (pN I hg hm hv ?_ hn hdb);exact PyProof.Rows.callWith_builtin1 (bO (ha pos AO s σ H _ I h) λus s1 ⟨vs,H1,I1,r1,q1⟩=>hc AO s1 σ H1 vs us Q I1 r1 q1) he hpl
theorem Sx(hc:iK X (.type T) r)(hg:Gl X x)(hm:X.mg x=none)(hv:bootBuiltins x=some (.type T))(ha:PA X (e::es) t)(hn:x≠"__name__":=by decide)(hdb:(x==("__debug__":Str))=false:=by decide)
  (he:starEach (e::es) X.env=(false,eval e X.env)::starEach es X.env:=by rfl)(hpl:(backTo pos (starEach es X.env)).any (·.1)=false:=by rfl):PE X (.Call (.Name x p) (e::es) [] pos) (Mu r t):=by
 intro AO s σ H Q I h;refine rk (pN I hg hm hv ?_ hn hdb);exact qa (bO (ha pos AO s σ H _ I h) λus s1 ⟨vs,H1,I1,r1,q1⟩=>hc AO s1 σ H1 vs us Q I1 r1 q1) he hpl
end
end L2
namespace HT
open PySem PyProof.Rows
def lexLt:AB->AB->Bool
 |[],[]=>false
 |[],_::_=>true
 |_::_,[]=>false
 |x::xs,y::ys=>if x=y then lexLt xs ys else decide (x<y)
theorem lexLt_cons(x y:Int)(xs ys:AB):lexLt (x::xs) (y::ys)=if x=y then lexLt xs ys else decide (x<y):=rfl
section
open PySem.SeqAt
open PySem.AutoSeq1 (wpAny_loadPart')
open PySem.MeetsSeq PySem.MeetsSeq2 PySem.MeetsSeq3
end
section
variable{prog:Program}{w:am}{A:ao}{E:Value->aa->Prop}{s:aa}
theorem cat_tup{t b:Addr}{vs ws:AG}{Q:Value->aa->Prop}(ht:IsTup s.heap t vs.toArray)(hb:IsTup s.heap b ws.toArray)(hv:vs≠[])
  (h1:ws=[]->Q (.ref t) s)(h2:ws≠[]->Q (.ref s.heap.objs.size) {s with heap:=s.heap.push {cls:=.type "tuple",data:=.seq (vs++ws).toArray}})
  (hsz:vs.length+ws.length<=sizeLine):wpAny (model prog w) A (binaryOp .Add (.ref t) (.ref b)) Q E s:=by
 obtain⟨⟨cls,dd,data,sl⟩,ho,hc,n,hd⟩:=id ht;obtain⟨⟨cls2,dd2,data2,sl2⟩,ho2,hc2,n2,hd2⟩:=id hb;simp only at hc hd hc2 hd2;subst hc hd hc2 hd2;have e:vs.toArray++ws.toArray=(vs++ws).toArray:=by simp
 by_cases hw:ws=[]
 .exact rm ⟨_,ho,rfl⟩ ⟨_,ho2,rfl⟩ vm vn vo vp (vq _ _)
   (tuple_addW1 t b vs.toArray ws.toArray n n2 dd dd2 sl sl2 (by simpa using hv) (by simp[hw])) ⟨ho,ho2,h1 hw⟩
 .refine rm ⟨_,ho,rfl⟩ ⟨_,ho2,rfl⟩ vm vn vo vp (vq _ _)
   (tuple_addW2 t b vs.toArray ws.toArray n n2 dd dd2 sl sl2 (by simpa using hv) (by simpa using hw) (by rw[ar,ar];exact hsz)) ⟨ho,ho2,?_⟩
  rw[e];exact h2 hw
def sIx(n d:Nat):AJ->Nat
 |none=>d
 |some v=>if v<0 then(v+(n:Int)).toNat else min v.toNat n
theorem sIx_nat(n d k:Nat):sIx n d (some (k:Int))=min k n:=by
 show(if(k:Int)<0 then((k:Int)+(n:Int)).toNat else min (k:Int).toNat n)=min k n;rw[if_neg (by omega),qg]
theorem abK(n d:Nat)(hd:d<=n)(o:AJ):sIx n d o<=n:=by
 cases o with
 |none=>exact hd
 |some v=>
  show(if v<0 then(v+(n:Int)).toNat else min v.toNat n)<=n
  by_cases hv:v<0
  .rw[if_pos hv];omega
  .rw[if_neg hv];exact Nat.min_le_right _ _
theorem Do(v:Int)(n d:Nat):(if v<0 then max (v+(n:Int)) 0 else min v (n:Int))=((sIx n d (some v):Nat):Int):=by
 show(if v<0 then max (v+(n:Int)) 0 else min v (n:Int))=(((if v<0 then(v+(n:Int)).toNat else min v.toNat n):Nat):Int)
 by_cases hv:v<0
 .simp only[if_pos hv];omega
 .simp only[if_neg hv];omega
theorem Gx(lo hi:AJ)(n:Nat):vt lo hi 1 (n:Int)=(((sIx n 0 lo:Nat):Int),((sIx n n hi:Nat):Int)):=by
 have h1:¬((1:Int)<0):=by omega
 unfold vt;simp only[h1,if_false];refine jh ?_ ?_
 .cases lo with
  |none=>rfl
  |some v=>exact Do v n 0
 .cases hi with
  |none=>rfl
  |some v=>exact Do v n n
theorem Jx(i j:Nat):rn (i:Int) (j:Int) 1=j-i:=by
 unfold rn;have h1:(1:Int)>0:=by omega
 simp only[h1,if_true,Int.ediv_one];split<;>omega
theorem Ai{v:Value}{o:AJ}{Q:AJ->aa->Prop}(p:kd v o)(h:Q o s):wpAny (model prog w) A (Builtin.Slice.slicePartIndex v) Q E s:=by
 cases p with
 |none=>exact slicePart_none h
 |int i t=>exact slicePart_int h
theorem Qu{sl:Addr}{vl vu:Value}{lo hi:AJ}{n:Nat}{Q:Int×Int×Nat->aa->Prop}(hs:s.heap.IsSliceOf sl vl vu .none)(pl:kd vl lo)(pu:kd vu hi)
  (h:Q (((sIx n 0 lo:Nat):Int),1,sIx n n hi-sIx n 0 lo) s):wpAny (model prog w) A (yx (.ref sl) (pure (n:Int))) Q E s:=by
 obtain⟨os,hos,hcs,hds⟩:=id hs;unfold yx Builtin.Slice.sliceFields;refine ah (ah (gj hos hds (x:=vl) rfl (ah (gj hos hds (x:=vu) rfl (ah (gj hos hds (x:=.none) rfl (bh ?_)))))));refine ah (slicePart_none ?_);show wpAny _ _ (if((1:Int)==0)=true then _ else _) _ _ s;rw[if_neg (by decide)];refine ah (Ai pl (ah (Ai pu (ah (bh ?_)))));show wpAny _ _ (match vt lo hi 1 (n:Int)with |(lo,hi)=>pure (lo,(1:Int),rn lo hi 1)) _ _ s
 rw[Gx lo hi n];show wpAny _ _ (pure (((sIx n 0 lo:Nat):Int),(1:Int),rn ((sIx n 0 lo:Nat):Int) ((sIx n n hi:Nat):Int) 1)) _ _ s;rw[Jx];exact bh h
theorem M5(xs:Array Value)(i k:Nat):((aw k).filterMap λ(m:Nat)=>xs[((i:Int)+(m:Int)*1).toNat]?).toArray=((xs.toList.drop i).take k).toArray:=by
 have e:(λ(m:Nat)=>xs[((i:Int)+(m:Int)*1).toNat]?)=λm=>xs[i+m]?:=by
  funext m
  have:((i:Int)+(m:Int)*1).toNat=i+m:=by omega
  rw[this]
 rw[e];have:=pick_run xs i k;rw[List.filterMap_map]at this;have e2:((λx=>xs[x]?)∘λx=>i+x)=λm=>xs[i+m]?:=rfl;rw[e2]at this;rw[this]
theorem getItem_tuple_cut{t sl:Addr}{items:Array Value}{vl vu:Value}{lo hi:AJ}{Q:Value->aa->Prop}(ht:IsTup s.heap t items)(hs:s.heap.IsSliceOf sl vl vu .none)(pl:kd vl lo)(pu:kd vu hi)
  (hw:¬(sIx items.size 0 lo=0/\sIx items.size items.size hi=items.size))
  (h:Q (.ref s.heap.objs.size) {s with heap:=s.heap.push {cls:=.type "tuple",data:=.seq ((items.toList.drop (sIx items.size 0 lo)).take (sIx items.size items.size hi-sIx items.size 0 lo)).toArray}})
  (hsz:items.size<=sizeLine):wpAny (model prog w) A (getItem (.ref t) (.ref sl)) Q E s:=by
 have htake:sizeOk (.seq ((items.toList.drop (sIx items.size 0 lo)).take (sIx items.size items.size hi-sIx items.size 0 lo)).toArray):=by
  show((items.toList.drop (sIx items.size 0 lo)).take (sIx items.size items.size hi-sIx items.size 0 lo)).toArray.size<=sizeLine;rw[ar,rl,yy,jj];omega
 have hj:sIx items.size items.size hi<=items.size:=abK _ _ (aq _) hi;obtain⟨os,hos,hcs,hds⟩:=id hs;have hTs:s.TypeIs (.ref sl) "slice":=⟨os,hos,hcs⟩;unfold getItem
 try with_reducible refine iz ?_
 first |refine ah (bh ?_) |skip
 refine ah (wpAny_sequenceKey ht.typeIs (by decide) ?_);refine ah (qh (name:=db "__getitem__") ht.typeIs rp
  (oa rp ht.typeIs entry_tuple_getitem ?_ (args_tuple_getitem _ _)))
 show wpAny _ _ (Builtin.Tuple.tupleItemsOf (.ref t) >>= _) _ _ s;refine ah (tupleItemsOf_ ht ?_);refine ah (wpAny_typeOf hTs ?_);rw[if_pos (by decide)];refine ah (Qu hs pl pu ?_);have hno:¬((((sIx items.size 0 lo:Nat):Int)==0&&(1:Int)==1&&(sIx items.size items.size hi-sIx items.size 0 lo)==items.size)=true):=by
  intro q;rw[fh,fh]at q;have q1:((sIx items.size 0 lo:Nat):Int)=0:=eq_of_beq q.1.1;have q2:sIx items.size items.size hi-sIx items.size 0 lo=items.size:=eq_of_beq q.2;exact hw ⟨by omega,by omega⟩
 show wpAny _ _ (if(((sIx items.size 0 lo:Nat):Int)==0&&(1:Int)==1&&(sIx items.size items.size hi-sIx items.size 0 lo)==items.size)=true then _ else _) _ _ s;rw[if_neg hno,M5]
 first
  |exact ah (m:=se _) (ju (bh ⟨_,rfl,bh h⟩) htake)
  |exact ah (m:=se _) (ju (ah (bh (bh ⟨_,rfl,bh h⟩))) htake)
  |exact ah (ah (m:=se _) (ju (bh (bh ⟨_,rfl,bh h⟩)) htake))
  |exact ah (ah (m:=se _) (ju (bh ⟨_,rfl,bh h⟩) htake))
end
end HT
namespace L2
open PySem PySem.Spec PyProof.Rows
abbrev TO:=St->Hp->(AJ->Hp->Prop)->Prop
def PO(X:Cx)(e:Option ag)(t:TO):Prop:=
 ∀(AO:List (Addr×Obj))(s:aa)(σ:St)(H:Hp)(Q:AJ->Hp->Prop),aH X AO σ H s->t σ H Q->
  wpAny (model X.prog X.w) X.A (evalPart e X.env) (λu s'=>∃o H',aH X AO σ H' s'/\kd u o/\Q o H') X.xe s
def aak:TO:=λ_ H Q=>Q none H
def acs(t:TE):TO:=λσ H Q=>t σ H λx H1=>∃i,x=.int i/\Q (some i) H1
section
variable{X:Cx}{e:ag}{te:TE}{lo hi:Option ag}{tl th:TO}{pos p2:ai}
theorem R9:PO X none aak:=by
 intro AO s σ H Q I h;rw[evalPart_none];exact bh ⟨none,H,I,.none,h⟩
theorem Dc(h:PE X e te):PO X (some e) (acs te):=by
 intro AO s σ H Q I hw;rw[evalPart_some];refine bO (h AO s σ H _ I hw) ?_
 rintro u s1 ⟨x,H1,I1,r1,q1⟩
 obtain⟨i,rfl,q⟩:=q1;obtain⟨t,rfl⟩:=r1;exact⟨some i,H1,I1,.int i t,q⟩
def oJ(X:Cx)(r:V->AJ->AJ->Hp->VK->Prop):Prop:=
 ∀(AO:List (Addr×Obj))(s:aa)(σ:St)(H:Hp)(x:V)(v vl vu:Value)(lo hi:AJ)(sl:Addr)(Q:VK),aH X AO σ H s->cA x v->s.heap.IsSliceOf sl vl vu .none->kd vl lo->kd vu hi->r x lo hi H Q->
  ∃T id,typeLookup (.type T) "__getitem__"=pure (some (.builtin id))/\s.TypeIs v T/\wpAny (model X.prog X.w) X.A (getItem v (.ref sl)) (EP X AO σ Q) X.xe s
theorem oJ.or{r r':V->AJ->AJ->Hp->VK->Prop}(h:oJ X r)(h':oJ X r'):oJ X (λx lo hi H Q=>r x lo hi H Q\/r' x lo hi H Q):=by
 intro AO s σ H x v vl vu lo hi sl Q I rx hs pl pu q;rcases q with q |q
 .exact h AO s σ H x v vl vu lo hi sl Q I rx hs pl pu q
 .exact h' AO s σ H x v vl vu lo hi sl Q I rx hs pl pu q
def tSl(r:V->AJ->AJ->Hp->VK->Prop)(te:TE)(tl th:TO):TE:=λσ H Q=>te σ H λx H1=>tl σ H1 λl H2=>th σ H2 λu H3=>r x l u H3 Q
theorem A5{r:V->AJ->AJ->Hp->VK->Prop}(hr:oJ X r)(he:PE X e te)(hl:PO X lo tl)(hu:PO X hi th):PE X (.Subscript e (.Slice lo hi none p2) pos) (tSl r te tl th):=by
 intro AO s σ H Q I h;refine vw (bO (he AO s σ H _ I h) λv s1 hq=>?_);rcases hq with⟨x,H1,I1,r1,q1⟩;refine wpAny_Slice (bO (hl AO s1 σ H1 _ I1 q1) λvl s2 ⟨l,H2,I2,pl,q2⟩=>bO (hu AO s2 σ H2 _ I2 q2) λvu s3 hq=>?_);rcases hq with⟨u,H3,I3,pu,q3⟩;rw[evalPart_none];refine bh ?_;have I4:aH X AO σ H3 {s3 with heap:=s3.heap.push {cls:=.type "slice",data:=.fields #[vl,vu,.none]}}:=I3.kept (t':=s3.toks) λb ob q=>ay _ q;obtain⟨T,id,hT,ht,hg⟩:=hr AO {s3 with heap:=s3.heap.push {cls:=.type "slice",data:=.fields #[vl,vu,.none]}} σ H3 x v vl vu l u s3.heap.objs.size Q I4 r1 (yz ..) pl pu q3;show wpAny (model X.prog X.w) X.A (subscriptTail e (.Slice lo hi none p2) v (.ref s3.heap.objs.size)) (EP X AO σ Q) X.xe {s3 with heap:=s3.heap.push {cls:=.type "slice",data:=.fields #[vl,vu,.none]}};exact tail_any (ops:=[.ref s3.heap.objs.size,v]) ht hT hg (by with_unfolding_all rfl)
def oG(xs:List V)(lo hi:AJ):List V:=(xs.drop (HT.sIx xs.length 0 lo)).take (HT.sIx xs.length xs.length hi-HT.sIx xs.length 0 lo)
theorem vI(xs:List V)(lo hi:AJ):(oG xs lo hi).length<=xs.length:=by
 unfold oG;rw[rl,yy];omega
def adu(K:ae):V->AJ->AJ->Hp->VK->Prop:=λx lo hi H Q=>∃a xs,x=.ref a/\dJ K H a xs/\
 ¬(HT.sIx xs.length 0 lo=0/\HT.sIx xs.length xs.length hi=xs.length)/\∀p,H p=none->Q (.ref p) (bK H p (.tup (oG xs lo hi)))
theorem aa6:oJ X (adu X.K):=by
 intro AO s σ H x v vl vu lo hi sl Q I rx hs pl pu h;obtain⟨a,xs,rfl,hx,hw,q⟩:=h;cases rx;obtain⟨its,r,ht,hz⟩:=I.tuple hx;have hlen:its.toArray.size=xs.length:=by rw[ar];exact r.length.symm
 refine⟨"tuple",_,rp.lookup,ht.typeIs,?_⟩;refine HT.getItem_tuple_cut ht hs pl pu (by rw[hlen];exact hw) ?_ (by rw[hlen];exact hz);rw[hlen];refine⟨.ref s.heap.objs.size,_,I.laid (t':=s.toks) (o:=.tup (oG xs lo hi)) (λb ob q=>ay _ q) (aq _) ?_,rfl,q _ (I.hok.fresh (aq _))⟩;exact⟨⟨ee (vI xs lo hi) hz,_,dg _ rfl,rfl⟩,_,(r.drop (HT.sIx xs.length 0 lo)).take (HT.sIx xs.length xs.length hi-HT.sIx xs.length 0 lo),rf _ _⟩
def Sd(K:ae):R2:=λx y H Q=>∃a b xs ys,x=.ref a/\y=.ref b/\dJ K H a xs/\dJ K H b ys/\xs≠[]/\xs.length+ys.length<=sizeLine/\
 (ys=[]->Q (.ref a) H)/\(ys≠[]->∀p,H p=none->Q (.ref p) (bK H p (.tup (xs++ys))))
theorem bI.nil_iff{xs:List V}{us:AG}(r:bI xs us):us=[]↔xs=[]:=by
 cases r with
 |nil=>simp
 |cons _ _=>simp
theorem Um:eO X (binaryOp .Add) (Sd X.K):=by
 intro AO s σ H x y v u Q I rx ry h;obtain⟨a,b,xs,ys,rfl,rfl,ha,hb,hx,hz,q1,q2⟩:=h;cases rx;cases ry;obtain⟨its,r1,p1,_⟩:=I.tuple ha;obtain⟨its2,r2,p2,_⟩:=I.tuple hb;refine HT.cat_tup p1 p2 (λz=>hx (r1.nil_iff.mp z)) (λz=>⟨.ref a,H,I,rfl,q1 (r2.nil_iff.mp z)⟩) (λz=>?_) (by rw[<-r1.length,<-r2.length];exact hz);refine⟨.ref s.heap.objs.size,_,I.laid (t':=s.toks) (o:=.tup (xs++ys)) (λb ob q=>ay _ q) (aq _) ?_,rfl,q2 (λw=>z (r2.nil_iff.mpr w)) _ (I.hok.fresh (aq _))⟩;exact⟨⟨by rw[ca];exact hz,_,dg _ rfl,rfl⟩,_,r1.append r2,rf _ _⟩
end
def bA(n:Nat)(i:Int):Option Nat:=if 0<=i then(if i<n then some i.toNat else none)else if-(n:Int)<=i then some (i+n).toNat else none
def aZ{α:Type}(xs:List α)(i:Int):Option α:=(bA xs.length i).bind λj=>xs[j]?
theorem Eo{n:Nat}{i:Int}{j:Nat}(h:bA n i=some j):seqIndex? i n=some j/\j<n/\-(n:Int)<=i/\i<n:=by
 unfold bA at h
 by_cases h0:0<=i
 .rw[if_pos h0]at h
  by_cases h1:i<n
  .rw[if_pos h1]at h
   have e:i.toNat=j:=cc h;exact⟨by rw[vz h0 h1,e],by omega,by omega,h1⟩
  .rw[if_neg h1]at h;cases h
 .rw[if_neg h0]at h
  by_cases h1:-(n:Int)<=i
  .rw[if_pos h1]at h
   have e:(i+n).toNat=j:=cc h;exact⟨by rw[wb (by omega) h1,e],by omega,h1,by omega⟩
  .rw[if_neg h1]at h;cases h
theorem Qc{α:Type}{xs:List α}{i:Int}{v:α}(h:aZ xs i=some v):∃j,seqIndex? i xs.length=some j/\xs[j]?=some v/\j<xs.length/\-(xs.length:Int)<=i/\i<xs.length:=by
 unfold aZ at h;cases e:bA xs.length i with
 |none=>rw[e]at h;cases h
 |some j=>
  rw[e]at h;obtain⟨h1,h2,h3,h4⟩:=Eo e;exact⟨j,h1,h,h2,h3,h4⟩
theorem jX{α:Type}{xs:List α}{j:Nat}{v:α}(h:xs[j]?=some v):aZ xs (j:Int)=some v:=by
 have hj:j<xs.length:=(da.mp h).1;have e:bA xs.length (j:Int)=some j:=by
  unfold bA;rw[if_pos (by omega),if_pos (by omega)];simp
 unfold aZ;rw[e];exact h
theorem M9{α:Type}(xs:List α)(v:α):aZ (xs++[v]) (-1)=some v:=by
 have hl:(xs++[v]).length=xs.length+1:=by simp
 have e:bA (xs++[v]).length (-1)=some xs.length:=by
  unfold bA;rw[hl,if_neg (by decide),if_pos (by omega)];congr 1;omega
 unfold aZ;rw[e];show(xs++[v])[xs.length]?=some v;simp
def Vn(b:ag):Prop:=∀o i,subscripted b false o i=operate [o,i] (getItem o i)
def nA(X:Cx)(r:R2):Prop:=
 ∀(value slice:ag)(AO:List (Addr×Obj))(s:aa)(σ:St)(H:Hp)(x y:V)(v u:Value)(Q:VK),aH X AO σ H s->cA x v->cA y u->r x y H Q->
  subscripted slice false v u=operate [v,u] (getItem v u)->wpAny (model X.prog X.w) X.A (subscriptTail value slice v u) (EP X AO σ Q) X.xe s
def MtR(X:Cx)(id:String)(r:V->List V->Hp->VK->Prop):Prop:=
 ∀(AO:List (Addr×Obj))(s:aa)(σ:St)(H:Hp)(x:V)(xs:List V)(v:Value)(us:AG)(Q:VK),aH X AO σ H s->cA x v->bI xs us->r x xs H Q->
  wpAny (model X.prog X.w) X.A (call (.builtin id) (v::us)) (EP X AO σ Q) X.xe s
section
variable{X:Cx}{a b:ag}{ta tb:TE}{pos:ai}
theorem nA.or{r r':R2}(h:nA X r)(h':nA X r'):nA X (λx y H Q=>r x y H Q\/r' x y H Q):=by
 intro value slice AO s σ H x y v u Q I rx ry q hs;rcases q with q |q
 .exact h value slice AO s σ H x y v u Q I rx ry q hs
 .exact h' value slice AO s σ H x y v u Q I rx ry q hs
theorem ab1{r:R2}(hr:nA X r)(ha:PE X a ta)(hb:PE X b tb)(hs:Vn b):PE X (.Subscript a b pos) (yZ r ta tb):=by
 intro AO s σ H Q I h;exact vw (Ve ha hb I h λv u s2 x y H2 I2 rx ry q=>hr a b AO s2 σ H2 x y v u Q I2 rx ry q (hs _ _))
def Ht(K:ae):R2:=λx y H Q=>∃p xs i v,x=.ref p/\y=.int i/\cE K H p xs/\aZ xs i=some v/\Q v H
def Rt(K:ae):R2:=λx y H Q=>∃p xs i v,x=.ref p/\y=.int i/\dJ K H p xs/\aZ xs i=some v/\Q v H
def Nt:R2:=λx y H Q=>∃z i c,x=.str z/\y=.int i/\z.length<=sizeLine/\aZ z.cps.toList i=some c/\Q (.str ⟨#[c]⟩) H
theorem R8:nA X (Ht X.K):=by
 intro value slice AO s σ H x y v u Q I rx ry h hs;obtain⟨p,xs,i,z,rfl,rfl,hq,he,q⟩:=h;cases rx;obtain⟨t,rfl⟩:=ry;obtain⟨its,r,pl,hz⟩:=I.list hq;obtain⟨j,h1,h2,h3,h4,h5⟩:=Qc he;obtain⟨w,ew,rw'⟩:=r.get h2;have hl:=r.length;have hn:=rH;have fin:EP X AO σ Q w s:=⟨z,H,I,rw',q⟩
 by_cases h0:0<=i
 .have hj:i.toNat=j:=by
   rw[vz h0 h5]at h1;exact cc h1
  exact item_listR pl.isList h0 (by omega) (by rw[hj];simpa using ew) fin hs
 .have hj:(i+(its.toArray.size:Int)).toNat=j:=by
   rw[wb (by omega) h4]at h1;rw[ar,<-hl];exact cc h1
  exact za (x:=w) pl.isList.typeIs wd.lookup
   (wpAny_getItem_list_neg (Q:=λr s'=>r=w/\EP X AO σ Q r s') pl.isList (by omega) (by rw[ar]<;>omega) (by omega) (by rw[hj];simpa using ew) ⟨rfl,fin⟩) hs
theorem abO:nA X (Rt X.K):=by
 intro value slice AO s σ H x y v u Q I rx ry h hs;obtain⟨p,xs,i,z,rfl,rfl,hq,he,q⟩:=h;cases rx;obtain⟨t,rfl⟩:=ry;obtain⟨its,r,pl,hz⟩:=I.tuple hq;obtain⟨j,h1,h2,h3,h4,h5⟩:=Qc he;obtain⟨w,ew,rw'⟩:=r.get h2;have hl:=r.length;have hn:=rH;have fin:EP X AO σ Q w s:=⟨z,H,I,rw',q⟩;exact za (x:=w) pl.typeIs rp.lookup
  (getItem_tuple (j:=j) (Q:=λr s'=>r=w/\EP X AO σ Q r s') pl (by omega) (by omega) (by rw[ar,<-hl];exact h1) (by simpa using ew) ⟨rfl,fin⟩) hs
theorem aaG:nA X Nt:=by
 intro value slice AO s σ H x y v u Q I rx ry h hs;obtain⟨z,i,c,rfl,rfl,hz,he,q⟩:=h;obtain⟨t,rfl⟩:=rx;obtain⟨t',rfl⟩:=ry;obtain⟨j,h1,h2,h3,h4,h5⟩:=Qc he;have hl:z.cps.toList.length=z.length:=by simp[Str.length]
 rw[hl]at h1 h4 h5;have hn:=rH;exact tail_any (typeIs_str s z t) slot_str_getitem.lookup (getItem_str (c:=c) (by
  have e1:decide (i< -(2^63:Int))=false:=decide_eq_false (by omega);have e2:decide (i>=2^63)=false:=decide_eq_false (by omega);rw[e1,e2,Bool.or_false]) (by rw[h1];simpa using h2) ⟨.str ⟨#[c]⟩,H,I.tok _,⟨_,rfl⟩,q⟩) hs
def Yt(K:ae):R2:=λx y H Q=>Ht K x y H Q\/Rt K x y H Q\/Nt x y H Q
theorem abX:nA X (Yt X.K):=R8.or (abO.or aaG)
theorem Mx(its:AG)(n j:Nat)(u:Value):gm (·.setIfInBounds j u) {cls:=.type "list",data:=.seq its.toArray n}={cls:=.type "list",data:=.seq (its.set j u).toArray n}:=by
 simp[gm]
theorem aH.lst{AO:List (Addr×Obj)}{σ:St}{H:Hp}{s:aa}{p:Addr}{xs:List V}(I:aH X AO σ H s)(h:H p=some (.lst xs)):
  ∃(its:AG)(n:Nat),bI xs its/\s.heap.get? p=some {cls:=.type "list",data:=.seq its.toArray n}/\xs.length<=sizeLine:=by
 obtain⟨z,its,n,r,e⟩:=I.hok p _ h;exact⟨its,n,r,e,z⟩
theorem aH.lstUpd{AO:List (Addr×Obj)}{σ:St}{H:Hp}{s:aa}{p:Addr}{xs ys:List V}{its its':AG}{n n':Nat}{f:Obj->Obj}(I:aH X AO σ H s)(h:H p=some (.lst xs))
  (ho:s.heap.get? p=some {cls:=.type "list",data:=.seq its.toArray n})(hf:f {cls:=.type "list",data:=.seq its.toArray n}={cls:=.type "list",data:=.seq its'.toArray n'})(r:bI ys its')(hz:ys.length<=sizeLine)(t:Nat):
  aH X AO σ (bK H p (.lst ys)) {s with heap:=s.heap.update p f,toks:=t}:=by
 have e:(s.heap.update p f).get? p=some {cls:=.type "list",data:=.seq its'.toArray n'}:=by
  rw[zb f ho (by rw[hf]<;>rfl),hf]
 refine I.write (x:=p) (e:=p) (by rw[h];trivial) (.inl rfl) (λb u hb q=>(zc _ _ (ko hb)).trans q) ⟨_,e⟩ ?_;exact⟨hz,its',n',r,e⟩
def ab2:V->V->V->Hp->(Hp->Prop)->Prop:=λo i v H Q=>∃p xs k j,o=.ref p/\i=.int k/\H p=some (.lst xs)/\bA xs.length k=some j/\Q (bK H p (.lst (xs.set j v)))
theorem F6:Xs X ab2:=by
 intro AO s σ H o i v ov iv u Q I ro ri rv h;obtain⟨p,xs,k,j,rfl,rfl,hp,hj,q⟩:=h;cases ro;obtain⟨t,rfl⟩:=ri;obtain⟨its,n,r,ho,hz⟩:=I.lst hp;obtain⟨h1,h2,h3,h4⟩:=Eo hj;have hl:=r.length;have hn:=rH;have I':aH X AO σ (bK H p (.lst (xs.set j v))) {s with heap:=s.heap.update p (gm (·.setIfInBounds j u))}:=
  I.lstUpd hp ho (Mx its n j u) (r.set rv j) (by rw[il];exact hz) s.toks
 by_cases h0:0<=k
 .have hk:k.toNat=j:=by
   rw[vz h0 h4]at h1;exact cc h1
  exact PySem.W.ki_setAt ho h0 (by omega) (by rw[ar,<-hl];exact h4) (by rw[hk];exact⟨_,I',q⟩)
 .have hk:(k+(its.toArray.size:Int)).toNat=j:=by
   rw[wb (by omega) h3]at h1;rw[ar,<-hl];exact cc h1
  exact PySem.W.ki_setBack ho (by omega) (by rw[ar,<-hl];exact h3) (by omega) (by rw[hk];exact⟨_,I',q⟩)
theorem Iv(lo hi:AJ)(n:Nat):(sliceBounds lo hi none n).1=((HT.sIx n 0 lo:Nat):Int)/\(sliceBounds lo hi none n).2.1=((HT.sIx n n hi:Nat):Int)/\(sliceBounds lo hi none n).2.2=1:=by
 refine⟨?_,?_,rfl⟩
 .cases lo with
  |none=>simp[sliceBounds,HT.sIx]
  |some i=>
   simp only[sliceBounds,HT.sIx,zd,show(1:Int)>0 by decide,if_true]
   by_cases h:i<0
   .simp only[h,if_true]<;>omega
   .simp only[h,if_false]<;>omega
 .cases hi with
  |none=>simp[sliceBounds,HT.sIx]
  |some i=>
   simp only[sliceBounds,HT.sIx,zd,show(1:Int)>0 by decide,if_true]
   by_cases h:i<0
   .simp only[h,if_true]<;>omega
   .simp only[h,if_false]<;>omega
theorem Yu(its:AG)(lo hi:AJ):slicePick its.toArray lo hi none=((its.drop (HT.sIx its.length 0 lo)).take (HT.sIx its.length its.length hi-HT.sIx its.length 0 lo)).toArray:=by
 obtain⟨h1,h2,h3⟩:=Iv lo hi its.toArray.size;unfold slicePick;rw[h1,h2,h3];simp only[sliceRange_one,pick_run,ar]<;>rfl
def adO(K:ae):V->AJ->AJ->Hp->VK->Prop:=λx lo hi H Q=>∃a xs,x=.ref a/\cE K H a xs/\∀p,H p=none->Q (.ref p) (bK H p (.lst (oG xs lo hi)))
theorem aat:oJ X (adO X.K):=by
 intro AO s σ H x v vl vu lo hi sl Q I rx hs pl pu h;obtain⟨a,xs,rfl,hx,q⟩:=h;cases rx;obtain⟨its,r,ht,hz⟩:=I.list hx;have hlen:=r.length;refine⟨"list",_,wd.lookup,ht.isList.typeIs,?_⟩;refine ze ht.isList hs pl pu .none (by simp) ?_ (by rw[ar]<;>omega);rw[Yu,<-hlen];refine⟨.ref s.heap.objs.size,_,I.laid (t':=s.toks) (o:=.lst (oG xs lo hi)) (λb ob q=>ay _ q) (aq _) ?_,rfl,q _ (I.hok.fresh (aq _))⟩;exact⟨ee (vI xs lo hi) hz,_,0,(r.drop (HT.sIx xs.length 0 lo)).take (HT.sIx xs.length xs.length hi-HT.sIx xs.length 0 lo),dg _ rfl⟩
theorem Jv:iK X (.builtin "len") (λxs H Q=>∃p ys,xs=[.ref p]/\(cE X.K H p ys\/dJ X.K H p ys)/\Q (.int ys.length) H):=by
 intro AO s σ H xs us Q I r h;obtain⟨p,ys,rfl,hq,q⟩:=h;obtain⟨u,rfl,rx⟩:=kD r;cases rx;have hn:=rH;rcases hq with hq |hq
 .obtain⟨its,r',pl,hz⟩:=I.list hq
  have hlen:=r'.length;exact Calls.call_len_list pl.isList (by simp only[ar]<;>omega) ⟨.int ys.length,H,I.tok _,⟨s.toks+1,by rw[ar,hlen]⟩,q⟩
 .obtain⟨its,r',pl,hz⟩:=I.tuple hq
  have hlen:=r'.length;exact len_tuple pl (by simp only[ar]<;>omega) ⟨.int ys.length,H,I.tok _,⟨s.toks+1,by rw[ar,hlen]⟩,q⟩
theorem Gv:iK X (.type "list") (λxs H Q=>∃p ys,xs=[.ref p]/\(cE X.K H p ys\/dJ X.K H p ys)/\∀l,H l=none->Q (.ref l) (bK H l (.lst ys))):=by
 intro AO s σ H xs us Q I r h;obtain⟨p,ys,rfl,hq,q⟩:=h;obtain⟨u,rfl,rx⟩:=kD r;cases rx;have fin:∀(its:AG),bI ys its->ys.length<=sizeLine->∀(h':Heap)(c':Nat),(∀b o',s.heap.get? b=some o'->h'.get? b=some o')->
   h'.get? s.heap.objs.size=some {cls:=.type "list",dict:=none,data:=.seq its.toArray c',slots:=#[]}->EP X AO σ Q (.ref s.heap.objs.size) {s with heap:=h'}:=λits r' hz h' c' kp e=>
  ⟨.ref s.heap.objs.size,_,I.laid (t':=s.toks) kp (aq _) (show fP X.prog X.w _ h' _ (.lst ys) from⟨hz,its,c',r',e⟩),rfl,q _ (I.hok.fresh (aq _))⟩
 rcases hq with hq |hq
 .obtain⟨its,r',pl,hz⟩:=I.list hq
  have hlen:=r'.length;obtain⟨o,ho,hc,n,hd⟩:=pl.isList;exact call_list_seq p (.inl rfl) ho hc hd (λh' c' kp e=>fin its r' hz h' c' kp e) (by simp only[ar]<;>omega)
 .obtain⟨its,r',pl,hz⟩:=I.tuple hq
  have hlen:=r'.length;obtain⟨o,ho,hc,n,hd⟩:=pl;exact call_list_seq p (.inr rfl) ho hc hd (λh' c' kp e=>fin its r' hz h' c' kp e) (by simp only[ar]<;>omega)
theorem Bv:iK X (.type "tuple") (λxs H Q=>∃p ys,xs=[.ref p]/\((cE X.K H p ys/\∀l,H l=none->Q (.ref l) (bK H l (.tup ys)))\/(dJ X.K H p ys/\Q (.ref p) H))):=by
 intro AO s σ H xs us Q I r h;obtain⟨p,ys,rfl,h⟩:=h;obtain⟨u,rfl,rx⟩:=kD r;cases rx;rcases h with⟨hq,q⟩|⟨hq,q⟩
 .obtain⟨its,r',pl,hz⟩:=I.list hq
  have hlen:=r'.length;refine call_tuple_list pl.isList (λh' kp=>?_) (by simp only[ar]<;>omega);have I1:aH X AO σ H {s with heap:=h'}:=I.kept (t':=s.toks) kp;have I2:aH X AO σ (bK H h'.objs.size (.tup ys)) {s with heap:=h'.push {cls:=.type "tuple",data:=.seq its.toArray}}:=
   I1.laid (t':=s.toks) (λb o e=>ay _ e) (aq _) (show fP X.prog X.w _ _ _ (.tup ys) from⟨⟨hz,_,dg _ rfl,rfl⟩,its,r',rf _ _⟩)
  exact⟨.ref h'.objs.size,_,I2,rfl,q _ (I1.hok.fresh (aq _))⟩
 .obtain⟨its,r',pl,hz⟩:=I.tuple hq
  exact call_tuple_same pl ⟨.ref p,H,I,rfl,q⟩
def Df(K:ae)(T:String)(x:V)(H:Hp):Prop:=match x with
 |.str _=>T="str"
 |.int _=>T="int"
 |.ref p=>(T="list"/\∃xs,cE K H p xs)\/(T="tuple"/\∃o,K.lookup p=some o/\o.cls=.type "tuple"/\o.dict=none)\/
   (T="dict"/\((∃kvs,H p=some (.dK kvs))\/∃kvs,H p=some (.dT kvs)))\/(T="set"/\∃S n,H p=some (.set S n))
 |_=>False
theorem abb{AO:List (Addr×Obj)}{σ:St}{H:Hp}{s:aa}{T:String}{x:V}{v:Value}(I:aH X AO σ H s)(r:cA x v)(ty:Df X.K T x H):
  s.TypeIs v T/\∀a,v=.ref a->∃ob,s.heap.get? a=some ob/\ob.dict=none:=by
 cases x with
 |str z=>
  obtain⟨t,rfl⟩:=r;cases(show T="str" from ty);exact⟨typeIs_str s z t,λ_ e=>nomatch e⟩
 |int i=>
  obtain⟨t,rfl⟩:=r;cases(show T="int" from ty);exact⟨typeIs_int s i t,λ_ e=>nomatch e⟩
 |ref p=>
  cases r;rcases ty with⟨rfl,xs,hq⟩|⟨rfl,o,hk,hc,hd⟩|⟨rfl,hk⟩|⟨rfl,S,n,hk⟩
  .obtain⟨its,_,pl,_⟩:=I.list hq
   refine⟨pl.isList.typeIs,λa e=>?_⟩;cases e;obtain⟨o,n,e,c,hd,_⟩:=pl;exact⟨o,e,hd⟩
  .refine⟨⟨o,I.kIn p o hk,hc⟩,λa e=>?_⟩
   cases e;exact⟨o,I.kIn _ o hk,hd⟩
  .have z:∃o,s.heap.get? p=some o/\o.ExactDict:=by
    rcases hk with⟨kvs,hk⟩|⟨kvs,hk⟩
    .obtain⟨_,_,_,_,o,_,_,e,ex,_⟩:=I.hok p _ hk
     exact⟨o,e,ex⟩
    .obtain⟨_,_,_,_,o,_,_,e,ex,_⟩:=I.hok p _ hk
     exact⟨o,e,ex⟩
   obtain⟨o,e,ex⟩:=z;refine⟨⟨o,e,ex.1⟩,λa e2=>?_⟩;cases e2;exact⟨o,e,ex.2.1⟩
  .obtain⟨o,_,_,_,e,ex,_⟩:=I.hok p _ hk
   refine⟨⟨o,e,ex.1⟩,λa e2=>?_⟩;cases e2;exact⟨o,e,ex.2.1⟩
 |_=>exact ia ty
def tBM(K:ae)(T:String)(r:V->List V->Hp->VK->Prop)(to:TE)(t:TA):TE:=λσ H Q=>to σ H λx H1=>Df K T x H1/\t σ H1 λxs H2=>r x xs H2 Q
variable{o e:ag}{es:List ag}{to:TE}{t:TA}{name:Str}{apos cpos:ai}{T id:String}{r:V->List V->Hp->VK->Prop}
theorem Ss(pa:PlainAttrs T)(slot:Slot T name id)(hty:typeOf (.builtin id)=pure (.type "method_descriptor"))(hm:MtR X id r)(ho:PE X o to)(ha:PA X (e::es) t)
  (hbase:attributeBase o name X.env (eval o X.env)=eval o X.env:=by rfl)
  (hfew:((backTo cpos (starEach (e::es) X.env)).all (λx=>!x.1)&&(backToKw cpos (keywordEach [] X.env)).all (λx=>x.1.isSome)
   &&decide ((e::es).length+([]:List kx).length+(if([]:List kx).isEmpty then 0 else 1)<30))=true:=by rfl)
  (hline:(apos.endLine==cpos.line)=true:=by rfl)(hs:starEach (e::es) X.env=(false,eval e X.env)::starEach es X.env:=by rfl)(hplain:(backTo cpos (starEach es X.env)).any (·.1)=false:=by rfl):
  PE X (.Call (.Attribute o name apos) (e::es) [] cpos) (tBM X.K T r to t):=by
 intro AO s σ H Q I h;refine wpAny_Call_method_late hbase hfew hline rfl (bO (ho AO s σ H _ I h) λv s1 hq=>?_);rcases hq with⟨x,H1,I1,r1,ty,q1⟩;obtain⟨h1,h2⟩:=abb I1 r1 ty;refine⟨T,id,pa,slot,hty,h1,h2,?_⟩;have hA:=ha cpos AO s1 σ H1 _ I1 q1;rw[hs]at hA⊢;refine Calls.callWith_builtin (by show(false||(backTo cpos (starEach es X.env)).any (·.1))=false;rw[hplain]<;>rfl) (zf ?_);exact bO hA λus s2 ⟨vs,H2,I2,r2,q2⟩=>hm AO s2 σ H2 x vs v us Q I2 r1 r2 q2
end
def Ku(X:Cx)(id:String)(r:V->List V->Hp->VK->Prop):Prop:=
 ∀(AO:List (Addr×Obj))(s:aa)(σ:St)(H:Hp)(x:V)(xs:List V)(v:Value)(us:AG)(Q:VK),aH X AO σ H s->cA x v->bI xs us->r x xs H Q->
  wpAny (model X.prog X.w) X.A (call (.builtin id) (v::us)) (EP X AO σ Q) X.xe s
theorem bI.one:∀{x:V}{us:AG},bI [x] us->∃u,us=[u]/\cA x u:=by
 rintro _ _ (_ |⟨r,_ |_⟩)
 exact⟨_,rfl,r⟩
theorem bI.eraseIdx:∀{xs:List V}{us:AG}(i:Nat),bI xs us->bI (xs.eraseIdx i) (us.eraseIdx i)
 |_,_,_,.nil=>.nil
 |_,_,0,.cons _ t=>t
 |_,_,i+1,.cons r t=>.cons r (bI.eraseIdx i t)
theorem Sa{α:Type}:∀(l:List α)(i:Nat),(l.eraseIdx i).length<=l.length
 |[],_=>aq _
 |_::_,0=>qi _
 |_::r,i+1=>Nat.succ_le_succ (Sa r i)
section
variable{X:Cx}{AO:List (Addr×Obj)}{σ:St}{H:Hp}{s:aa}{l b:Addr}{xs ys zs:List V}
theorem aH.lset{its its':AG}{n:Nat}{f:Array Value->Array Value}{t':Nat}(I:aH X AO σ H s)(hH:H l=some (.lst xs))
  (e:s.heap.get? l=some {cls:=.type "list",data:=.seq its.toArray n})(hf:f its.toArray=its'.toArray)(hv:bI ys its')(hz:ys.length<=sizeLine):
  aH X AO σ (bK H l (.lst ys)) {s with heap:=s.heap.update l (gm f),toks:=t'}:=by
 have q:=PySem.IsL.update e f;rw[hf]at q;refine I.write (x:=l) (e:=l) (by rw[hH];exact trivial) (.inl rfl) (λb' u hb hu=>(zc s.heap (gm f) (ko hb)).trans hu) ⟨_,q⟩ ?_;exact⟨hz,its',_,hv,q⟩
theorem aH.lnew{its:AG}{t':Nat}(I:aH X AO σ H s)(hv:bI ys its)(hz:ys.length<=sizeLine):
  aH X AO σ (bK H s.heap.objs.size (.lst ys)) {s with heap:=s.heap.push {cls:=.type "list",data:=.seq its.toArray},toks:=t'}:=
 I.laid (λ_ _ q=>ay _ q) (aq _) ⟨hz,its,0,hv,dg _ rfl⟩
theorem aH.fresh(I:aH X AO σ H s):H s.heap.objs.size=none:=I.hok.fresh (aq _)
theorem aH.lstM(I:aH X AO σ H s)(hH:H l=some (.lst xs)):xs.length<=sizeLine/\∃(its:AG)(n:Nat),bI xs its/\xs.length=its.length/\s.heap.get? l=some {cls:=.type "list",data:=.seq its.toArray n}:=by
 obtain⟨z,its,n,r,e⟩:=I.hok l _ hH;exact⟨z,its,n,r,r.length,e⟩
theorem K7{n:Nat}(h:n<=sizeLine):sf n=false:=by
 unfold sf;exact decide_eq_false (by omega)
end
section
variable{X:Cx}
def V7:V->List V->Hp->VK->Prop:=λx vs H Q=>∃l xs y,x=.ref l/\vs=[y]/\H l=some (.lst xs)/\xs.length<sizeLine/\Q .non (bK H l (.lst (xs++[y])))
theorem Wa:Ku X "list.append" V7:=by
 intro AO s σ H x vs v us Q I rx rv h;obtain⟨l,xs,y,rfl,rfl,hH,hz,q⟩:=h;cases rx;obtain⟨u,rfl,ru⟩:=rv.one;obtain⟨z,its,n,r,hl,e⟩:=I.lstM hH;refine we zg ⟨_,e,rfl⟩ F.entry_list_append (F.args_list_append_2 _ _) (PySem.list_append l its.toArray n u (by rw[ar];omega)) ⟨e,?_⟩;refine⟨.non,_,I.lset (its':=its++[u]) hH e (by simp) (r.append (.cons ru .nil)) ?_,rfl,q⟩;rw[ca,og];omega
def abU:V->List V->Hp->VK->Prop:=λx vs H Q=>∃l xs i k y,x=.ref l/\vs=[.int i]/\H l=some (.lst xs)/\-(2^63)<=i/\i<2^63/\seqIndex? i xs.length=some k/\xs[k]?=some y/\Q y (bK H l (.lst (xs.eraseIdx k)))
theorem A8:Ku X "list.pop" abU:=by
 intro AO s σ H x vs v us Q I rx rv h;obtain⟨l,xs,i,k,y,rfl,rfl,hH,h1,h2,hk,hy,q⟩:=h;cases rx;obtain⟨u,rfl,ru⟩:=rv.one;obtain⟨t,rfl⟩:=ru;obtain⟨z,its,n,r,hl,e⟩:=I.lstM hH;obtain⟨w,hw,rw'⟩:=r.get hy;refine we F.slot_list_pop ⟨_,e,rfl⟩ F.entry_list_pop (F.args_list_pop_2 _ _)
  (MeetsSeq.list_pop_at l its.toArray n i t k w (fitsIndex_both h1 h2) (by rw[ar,<-hl];exact hk) (by rw[<-Array.getElem?_toList];exact hw) (by rw[ar];omega)) ⟨e,?_⟩
 refine⟨y,_,I.lset (its':=its.eraseIdx k) hH e ?_ (r.eraseIdx k) ?_,rw',q⟩
 .show its.toArray.eraseIdxIfInBounds k=(its.eraseIdx k).toArray
  rw[List.eraseIdxIfInBounds_toArray]
 .have:=Sa xs k
  omega
end
section
variable{prog:Program}{w:am}{A:ao}{E:Value->aa->Prop}{s:aa}
end
section
variable{X:Cx}
end
end L2
namespace Att
open PySem PySem.W PySem.Calls PyProof.Rows
theorem Su{P:ng}{h:Heap}:∀(ns:AB)(vs:AG),WellAll P h vs (ns.map WData.int)->oh vs ns:=by
 intro ns
 induction ns with
 |nil=>
  intro vs w;rw[cn]at w;cases w;exact .nil
 |cons n ns ih=>
  intro vs w;rw[az]at w;cases w with
  |cons a b=>
   cases a;exact .cons _ _ (ih _ b)
theorem Tz{l:oi}{n:Nat}(hn:l.most=some n){P:ng}{h:Heap}{args:List WData}{lN:AG}
  (hpre:l.row.toRowW.claim.pre args=true)(hwl:WellAll P h lN args):
  ∃a vs ns,lN=[gw a]/\args=[WData.list (ns.map WData.int)]/\h.get? a=some {cls:=.type "list",data:=.seq vs.toArray}/\oh vs ns/\ns.length<=n:=by
 have hsh:WShape.hasAll [] args [.list .int]=true:=(pre_splitW hpre).1;have hc:l.pre.holds [] {args:=args}=true:=(pre_splitW hpre).2;obtain⟨d,r,rfl,h1,h2⟩:=hasAllW_cons hsh;obtain rfl:=hasAllW_nil h2;obtain⟨xs,rfl,h3⟩:=hasW_list h1;obtain⟨ns,rfl⟩:=items_int h3;have hlen:ns.length<=n:=by
  unfold OpenLaw.pre at hc;have h4:(WTm.not (.lt (.lit (.int (n:Int))) (.len (.arg 0)))).holds [] {args:=[.list (ns.map .int)]}=true:=by
   have h4:=(holds_andW hc).1;rw[hn]at h4;exact h4
  have h5:=condW_of h4 (w_not (w_lt w_lit (w_len_list (w_arg rfl))));rw[ak]at h5;refine Nat.le_of_not_lt λq=>?_;have q':(n:Int)<((ns.length:Nat):Int):=by omega
  first
   |(rw[decide_eq_true q']at h5;exact absurd h5 (by decide))
   |(simp at h5;omega)
 cases hwl with
 |cons w1 w2=>
  cases w2;cases w1 with
  |list ho hall=>exact⟨_,_,ns,rfl,rfl,ho,Su ns _ hall,hlen⟩
theorem Zx(l:oi)(args:List WData):l.row.toRowW.claim.post args (.bool true) args=true:=
 postW_of (r:=l.row.toRowW) (X:=(true==true))
  (show WShape.has [] (.bool true) .bool=true by first |rfl |decide |simp[WShape.has,WShape.arms,WShape.armsAll])
  (show(WTm.eq .res (.lit (.bool true))).value [] {args:=args,res:=some (.bool true),after:=args}=some (.bool (true==true)) from w_eq_bool (w_res rfl) w_lit) rfl
theorem attach_call{l:oi}{n:Nat}{q:Program}{loose:List Str}{XP:(Str->AH)->Heap->Prop}{YP:am->Heap->Prop}{d:DefRec}
  (hn:l.most=some n)(hdf:d.params.defaults=[])
  (call:∀(w:am)(AQ AS:aa)(mg mb:Str->AH)(fa:Addr)(o:Obj)(pm cd doc:Value)(a:Addr)(vs:AG)(ns:AB),
   Ground q loose [] XP w AQ mg mb AS.heap->YP w AS.heap->
   AS.heap.get? fa=some o->o.data=.func (docDef d.name d.params d.body d.scope pm cd doc)->AS.heap.CodeRec cd d.name->mg d.name=some (.ref fa)->
   AS.heap.get? a=some {cls:=.type "list",data:=.seq vs.toArray}->oh vs ns->ns.length<=n->AS.gens=#[]->
   codeAny (model l.prog w) callerA (.call (.ref fa) ⟨[.ref a],[]⟩) (λr s'=>r=.ok (.ret (.bool true))/\OldK AS.heap s'.heap/\s'.os=AS.os/\jd s'.gens) AS):
  WalkO q loose XP YP l.row.toRowW d [] (λf vs=>wg f vs):=by
 intro w AQ AS mg mb G Y fa o pm cd doc dV kV ho hd hcd hD hmg hg args lN as hpre hlay hrd hwl hlo;obtain rfl:dV=.none:=Dflts.none hD hdf;obtain rfl:kV=.none:=Dflts.noKw hD;obtain⟨a,vs,ns,rfl,rfl,hobj,hints,hlen⟩:=Tz hn hpre hwl;refine enter_call (qe (call w AQ AS mg mb fa o pm cd doc a vs ns G Y ho (fd_plain hd) hcd hmg hobj hints hlen hg) λr s' hq=>?_);obtain⟨rfl,h2,h3,h4⟩:=hq;exact⟨.inl ⟨.bool true,.bool true,[],rfl,λ_=>rfl,.bool true,Zx l _,λ_=>⟨List.Pairwise.nil,λ_ hm=>(nomatch hm)⟩⟩,h2,h3,h4⟩
section
variable{prog:Program}{w:am}{A:ao}{E:Value->aa->Prop}{s:aa}{K:Frag}
end
end Att
namespace L2
open PySem PySem.Spec PyProof.Rows
theorem Pi:∀{vs:AG}{ns:AB},oh vs ns->bI (ns.map V.int) vs
 |_,_,.nil=>.nil
 |_,_,.cons n t h=>.cons ⟨t,rfl⟩ (Pi h)
def Bf(H:Hp):Prop:=∀b,H b=none\/∃o xs,H b=some (.frz o (.lst xs))
theorem L8{P:Program}{w:am}{K:ae}{mg mb:Str->AH}{CX:jA}{k:Nat}{fa a:Addr}{fd:br}{x:Str}{sp:Sp}{AS:aa}{vs:AG}{ns:AB}
  (KX:K.In AS.heap)(hns:AS.heap.Ns mainGlobals mg)(hb:AS.heap.Ns builtinsNs mb)(hbb:∀x:Str,x≠"__name__"->mb x=bootBuiltins x)(hlim:AS.heap.NoLimit)(hg:AS.gens=#[])
  (ha:AS.heap.get? a=some {cls:=.type "list",data:=.seq vs.toArray})(hi:oh vs ns)(hl:ns.length<=sizeLine)(hr:dQ k callerA)
  (F:∀base:Heap,K.In base->base.Ns mainGlobals mg->eD P w K mg base CX k fa fd [x] sp)(hbind:∀(s:aa)(u:Value),ny s fd ⟨[u],[]⟩ [(x,u)])
  (hsp:∀H:Hp,Bf H->cE K H a (ns.map V.int)->sp [.ref a] H (λv _=>v=.bl true) λ_ _ _=>False)
  (hCX:∀H e s',CX [] H AS (λ_ _ _=>False) e s'->False):
  codeAny (model P w) callerA (.call (.ref fa) ⟨[.ref a],[]⟩) (λr s'=>r=.ok (.ret (.bool true))/\OldK AS.heap s'.heap/\s'.os=AS.os/\jd s'.gens) AS:=by
 have rv:=Pi hi;have lenV:=hi.length
 --from an abstract heap in which nothing but the script may be tracked
 have core:∀H:Hp,Bf H->cE K H a (ns.map V.int)->fJ P w H AS.heap->(∀b,H b≠none->b=a)->(H a≠none->K.lookup a=none)->
   codeAny (model P w) callerA (.call (.ref fa) ⟨[.ref a],[]⟩) (λr s'=>r=.ok (.ret (.bool true))/\OldK AS.heap s'.heap/\s'.os=AS.os/\jd s'.gens) AS:=by
  intro H hO hS hok hA hK;have base_of:∀{b:Addr}{o:Obj},AS.heap.get? b=some o->H b=none->(mU AS.heap H).get? b=some o:=λe n=>J3 e n;have noA:∀{b:Addr}{o:Obj}{es:Array DictEntry}{ep:Nat},AS.heap.get? b=some o->o.data=.dict es ep->H b=none:=λ{b o es ep} e d=>by
   cases q:H b with
   |none=>rfl
   |some u=>
    have e':b=a:=hA b (by rw[q];simp);subst e';rw[ha]at e;cases e;have d':Data.seq vs.toArray _=Data.dict es ep:=d;cases d'
  have nsK:∀{b:Addr}{m:Str->AH},AS.heap.Ns b m->(mU AS.heap H).Ns b m:=λ{b m} ⟨o,es,ep,e,d,r⟩=>⟨o,es,ep,base_of e (noA e d),d,r⟩;have hKb:K.In (mU AS.heap H):=λb o e=>base_of (KX b o e) (by
   cases q:H b with
   |none=>rfl
   |some u=>
    have e':b=a:=hA b (by rw[q];simp);subst e';rw[hK (by rw[q];simp)]at e;cases e)
  have hM:Mod K mg (mU AS.heap H):=⟨hKb,nsK hns,⟨mb,nsK hb,hbb⟩,let⟨mc,h1,h2⟩:=hlim;⟨mc,nsK h1,h2⟩⟩;have e0:yB P w K mg (mU AS.heap H) callerA [] AS H:=⟨rfl,hM,λb o e=>N8 e,wj (Iy _ _),trivial,λb hb=>absurd (show b∈([]:List Addr) from hb) (by simp),hok,.of_eq hg⟩;refine qe ((F _ hKb (nsK hns)).run callerA [] AS H ⟨[.ref a],[]⟩ [.ref a] [.ref a] _ _ hr e0 (hbind AS (.ref a)) (.cons rfl .nil) (hsp H hO hS)) λr s' h=>?_;cases r with
  |error e=>exact(hCX H e s' h).elim
  |ok fl=>
   cases fl with
   |next=>exact ia h
   |brk=>exact ia h
   |cont=>exact ia h
   |ret u=>
    obtain⟨v,H',os,bare,un,hok',r',q⟩:=h;have q':v=.bl true:=q;subst q';obtain rfl:u=qz true:=r';refine⟨rfl,OldK.of_keep λb o e=>?_,os,bare⟩;cases q:H b with
    |none=>exact un.keep b o e q (by intro z;exact absurd (show b∈([]:List Addr) from z) (by simp)) (by simp)
    |some u=>
     rcases hO b with z |⟨ob,xs,z⟩
     .rw[q]at z;cases z
     .have z2:=un.frzs b ob _ z
      obtain⟨e1,_⟩:=hok b _ z;obtain⟨e2,_⟩:=hok' b _ z2;rw[e]at e1;cases e1;exact e2
 cases hk:K.lookup a with
 |some o=>
  --the script is one of the module's own objects
  have e:=KX a o hk;rw[ha]at e;cases e;refine core (λ_=>none) (λ_=>.inl rfl) (.inr ⟨_,vs.toArray,_,hk,rfl,rfl,rfl,by rw[ar,lenV];exact hl,by simpa using rv⟩) (λb u z=>by have z':(none:Option HO)=some u:=z;cases z') (λb z=>absurd rfl z) λz=>absurd rfl z
 |none=>
  refine core (λb=>if b=a then some (.frz {cls:=.type "list",data:=.seq vs.toArray} (.lst (ns.map V.int)))else none) (λb=>?_) (.inl (.inr ⟨{cls:=.type "list",data:=.seq vs.toArray},if_pos rfl⟩)) (λb u z=>?_) (λb z=>?_) λ_=>hk
  .by_cases hb:b=a
   .exact .inr ⟨_,_,if_pos hb⟩
   .exact .inl (if_neg hb)
  .by_cases hb:b=a
   .have z':=(if_pos hb).symm.trans z
    cases z';subst hb;exact⟨ha,by rw[ak];exact hl,vs,_,rv,ha⟩
   .have z':=(if_neg hb).symm.trans z
    cases z'
  .by_cases hb:b=a
   .exact hb
   .exact absurd (if_neg hb) z
theorem walk_of{l:oi}{n k:Nat}{q:Program}{loose:List Str}{XP:(Str->AH)->Heap->Prop}{YP:am->Heap->Prop}{d:DefRec}{K:ng->ae}{CX:am->jA}{sp:am->Sp}{x:Str}
  (hn:l.most=some n)(hn2:n<=sizeLine)(hdf:d.params.defaults=[])(hr:dQ k callerA)
  (hY:∀(w:am)(h:Heap),YP w h->(K w.params).In h)
  (F:∀(w:am)(mg:Str->AH)(fa:Addr)(h:Heap),(K w.params).In h->h.Ns mainGlobals mg->mg d.name=some (.ref fa)->
   ∃fd:br,(∀(s:aa)(u:Value),ny s fd ⟨[u],[]⟩ [(x,u)])/\
    ∀base:Heap,(K w.params).In base->base.Ns mainGlobals mg->eD l.prog w (K w.params) mg base (CX w) k fa fd [x] (sp w))
  (hsp:∀(w:am)(H:Hp)(a:Addr)(ns:AB),ns.length<=n->Bf H->cE (K w.params) H a (ns.map V.int)->sp w [.ref a] H (λv _=>v=.bl true) λ_ _ _=>False)
  (hCX:∀(w:am)(H:Hp)(s:aa)(e:Value)(s':aa),CX w [] H s (λ_ _ _=>False) e s'->False):
  PySem.W.WalkO q loose XP YP l.row.toRowW d [] (λf vs=>wg f vs):=by
 refine Att.attach_call hn hdf λw AQ AS mg mb fa o pm cd doc a vs ns G Y ho hd hcd hmg hobj hints hlen hg=>?_;have KX:=hY w _ Y;obtain⟨fd,hb,hF⟩:=F w mg fa _ KX G.T.g hmg;exact L8 KX G.T.g G.T.b G.T.builtins G.T.nolimit hg hobj hints (ee hlen hn2) hr hF hb (λH hO hS=>hsp w H a ns hlen hO hS) λH e s'=>hCX w H AS e s'
abbrev fV:jA:=λ_ _ _ _ _ _=>False
abbrev E0:XK:=λ_ _ _=>False
theorem Ee{X:Cx}:xO fV X E0:=λ_ _ _ _ _ _ _ h=>h.elim
structure jB(K:ae)(x qual:Str)(st:Stmt)(f:Addr)(fd:br):Prop where
 ex:∃(oc:Value)(od:AI)(kV doc pm:Value)(an:AI)(cdv ct:Value)(osl:Array AH),
  fd=dy x qual (gJ st) (fB st) (cV st) .none kV doc pm an cdv ct/\K.lookup f=some ⟨oc,od,.func fd,osl⟩/\jo K cdv qual=true
 kp:dq K (.ref f)=true
section
variable{P:Program}{w:am}{K:ae}{mg:Str->AH}{base:Heap}
theorem jB.ok{x qual:Str}{st:Stmt}{f:Addr}{fd:br}{N ps:List Str}{k:Nat}{sp:Sp}(F:jB K x qual st f fd)(S:jI N ps (cV st))(len:∀vs H Q E,sp vs H Q E->vs.length=ps.length)
  (hbody:∀(cdv:Value)(A:ao)(outer:List bi)(s:aa)(H:Hp)(vs:List V)(Q:VK)(E:XK),dQ k (A.deeper (envOfC qual (cV st) s.heap.objs.size f cdv))->sp vs H Q E->
   ∃t,fF (dF fV P w K mg base N qual (cV st) f cdv A outer s H E).nox (fB st) t/\t {nx:=λ_ H'=>Q .non H',rt:=Q} (start N vs) H):eD P w K mg base fV (k+1) f fd ps sp:=by
 obtain⟨oc,od,kV,doc,pm,an,cdv,ct,osl,rfl,lk,hcd⟩:=F.ex;refine Be lk hcd S len λA outer s H vs Q E hr hsp=>?_;obtain⟨t,h,q⟩:=hbody cdv A outer s H vs Q E hr hsp;exact⟨t,h.nox,q⟩
theorem jB.binds{x qual:Str}{st:Stmt}{f:Addr}{fd:br}{ps:List Str}(F:jB K x qual st f fd)
  (h:∀(kV doc pm:Value)(an:AI)(cdv ct:Value)(us:AG),us.length=ps.length->bindArgs (dy x qual (gJ st) (fB st) (cV st) .none kV doc pm an cdv ct) ⟨us,[]⟩=pure (ps.zip us)):gO K fd ps []:=by
 obtain⟨oc,od,kV,doc,pm,an,cdv,ct,osl,rfl,lk,hcd⟩:=F.ex;exact .all (h kV doc pm an cdv ct)
theorem Wo{x qual:Str}{st:Stmt}{f:Addr}{oc:Value}{od an:AI}{osl:Array AH}{kV doc pm cdv ct:Value}(l:K.lookup f=some ⟨oc,od,.func (dy x qual (gJ st) (fB st) (cV st) .none kV doc pm an cdv ct),osl⟩)
  (c:jo K cdv qual=true)(k:dq K (.ref f)=true):jB K x qual st f (dy x qual (gJ st) (fB st) (cV st) .none kV doc pm an cdv ct):=⟨⟨oc,od,kV,doc,pm,an,cdv,ct,osl,rfl,l,c⟩,k⟩
end
section
variable{X:Cx}
theorem pv(i:Nat){x:Str}{pos:ai}(hN:X.N[i]?=some x:=by rfl)(hv:sE X.env.scope x:=by first |exact gq rfl |exact fy (gq rfl) |exact fy (fy rfl))(hd:(x==("__debug__":Str))=false:=by decide)
  (hcd:(x==("__classdict__":Str))=false:=by decide):PE X (.Name x pos) (Zs i):=Pd hN hv hd hcd
end
def dG(H H':Hp):Prop:=∀b o,H b=some o->H' b=some o
theorem dG.refl(H:Hp):dG H H:=λ_ _ h=>h
end L2
namespace Bn
def Bd(k:Nat)(i:Int):Prop:=i.natAbs<2^k
theorem Bd.mono{j k:Nat}{i:Int}(h:Bd j i)(l:j<=k):Bd k i:=de h (zh (by decide) l)
theorem Bd.mul{j k:Nat}{a b:Int}(h:Bd j a)(g:Bd k b):Bd (j+k) (a*b):=by
 unfold Bd at *;rw[si,Nat.pow_add];exact Nat.mul_lt_mul'' h g
theorem Bd.add{k:Nat}{a b:Int}(h:Bd k a)(g:Bd k b):Bd (k+1) (a+b):=by
 unfold Bd at *;rw[Nat.pow_succ];have:=Int.natAbs_add_le a b;omega
theorem Bd.neg{k:Nat}{a:Int}(h:Bd k a):Bd k (-a):=by
 unfold Bd at *;rw[zi];exact h
theorem Bd.sub{k:Nat}{a b:Int}(h:Bd k a)(g:Bd k b):Bd (k+1) (a-b):=by
 rw[Int.sub_eq_add_neg];exact h.add g.neg
theorem Bd.le{k:Nat}{a b:Int}(h:Bd k b)(l:a.natAbs<=b.natAbs):Bd k a:=sj l h
theorem Bd.of{k n:Nat}{a:Int}(l:a.natAbs<=n)(h:n<2^k):Bd k a:=sj l h
theorem Bd.log{k:Nat}{a:Int}(h:Bd k a)(hk:0<k):a.natAbs.log2<k:=by
 rcases zj a.natAbs with z |z
 .rw[z]
  exact sj (wj (by decide)) hk
 .exact(Nat.log2_lt (nu z)).mpr h
theorem Cj(a:Int){b:Int}(h:b≠0):(a.fmod b).natAbs<b.natAbs:=by
 rw[Int.fmod_eq_emod];have h1:=zl a h;have h2:a%b<(b.natAbs:Int):=Int.emod_lt a h
 by_cases c:0<=b\/b∣a
 .rw[if_pos c]
  omega
 .rw[if_neg c]
  have hb:b<0:=by omega
  have h3:a%b≠0:=λz=>c (.inr (Int.dvd_of_emod_eq_zero z));have h4:b.natAbs=(-b).toNat:=by omega
  omega
theorem Jl(a b:Int):bf b (a.fmod b)=bf a b:=by
 rw[Int.fmod_def,cq,Int.gcd_sub_mul_right_right,Int.gcd_comm]
theorem Kd(x:Int):(if x<0 then-x else x)=(x.natAbs:Int):=by
 split<;>omega
def gl:AB->Int->Int
 |[],g=>g
 |n::r,g=>gl r (bf g n:Nat)
def low(ns:AB):AB:=if gl ns 0=0 then ns else ns.map (· /gl ns 0)
theorem xY:∀(ns:AB)(g:Int),0<=g->0<=gl ns g
 |[],_,h=>h
 |_::r,_,_=>xY r _ (zn _)
theorem Cq(k:Int):∀(ns:AB)(g:Int),0<=g->gl (ns.map (k*·)) ((k.natAbs:Int)*g)=(k.natAbs:Int)*gl ns g
 |[],_,_=>rfl
 |n::r,g,h=>by
  show gl (r.map (k*·)) ((bf ((k.natAbs:Int)*g) (k*n):Nat):Int)=(k.natAbs:Int)*gl r _;have e:((bf ((k.natAbs:Int)*g) (k*n):Nat):Int)=(k.natAbs:Int)*((bf g n:Nat):Int):=by
   rcases Int.natAbs_eq k with q |q
   .rw[<-q,zo]
    have:(k.natAbs:Int)=k:=q.symm
    push_cast
    rw[this]
   .have e2:k*n=(k.natAbs:Int)*(-n):=by rw[sk,<-ke,<-q]
    rw[e2,zo,Int.gcd_neg]
    push_cast
    simp
  rw[e];exact Cq k r _ (zn _)
theorem Jb(k:Int)(ns:AB):gl (ns.map (k*·)) 0=(k.natAbs:Int)*gl ns 0:=by
 have:=Cq k ns 0 (qj 0)
 rwa[sr]at this
theorem vS{k:Int}(h:0<k)(ns:AB):gl ns 0≠0->low (ns.map (k*·))=low ns:=λz=>by
 have hk:(k.natAbs:Int)=k:=by omega
 have e:=Jb k ns;rw[hk]at e;have nz:k*gl ns 0≠0:=kg (by omega) z;unfold low;rw[e,if_neg nz,if_neg z,cg];refine eh λn _=>?_;show k*n/(k*gl ns 0)=n/gl ns 0;exact Int.mul_ediv_mul_of_pos _ _ h
theorem jZ:∀(ns:AB)(g:Int),gl ns g∣g/\∀n∈ns,gl ns g∣n
 |[],g=>⟨Int.dvd_refl g,λ_ h=>nomatch h⟩
 |m::r,g=>by
  obtain⟨h1,h2⟩:=jZ r ((bf g m:Nat):Int);refine⟨Int.dvd_trans h1 (zq ..),λn hn=>?_⟩;rcases bo.mp hn with q |q
  .subst q
   exact Int.dvd_trans h1 (zt ..)
  .exact h2 n q
theorem aam{ns:AB}(h:gl ns 0=0):∀n∈ns,n=0:=λn hn=>by
 have:=(jZ ns 0).2 n hn;rw[h]at this;exact Int.zero_dvd.mp this
theorem pV{ns:AB}{n:Int}(hn:n∈ns)(h:n≠0):gl ns 0≠0:=λz=>h (aam z n hn)
theorem tW{ns:AB}{n:Int}(hn:n∈ns)(h:n≠0):0<gl ns 0:=by
 have h1:=xY ns 0 (qj 0);have h2:=pV hn h;omega
theorem tU{ns:AB}{n:Int}(hn:n∈ns)(h:n≠0):low ns=ns.map (· /gl ns 0):=by
 unfold low;rw[if_neg (pV hn h)]
theorem Bd.gcd{k:Nat}{a b:Int}(h:Bd k a)(g:Bd k b):Bd k (bf a b:Nat):=by
 unfold Bd at *;rw[Int.natAbs_natCast];rcases zj a.natAbs with z |z
 .have:a=0:=by omega
  subst this;rw[wk];exact g
 .exact sj (Nat.gcd_le_left _ z) h
theorem xS{k:Nat}:∀{ns:AB}{g:Int},Bd k g->(∀n∈ns,Bd k n)->Bd k (gl ns g)
 |[],_,h,_=>h
 |n::r,g,h,hn=>by
  show Bd k (gl r _);exact xS (ns:=r) (h.gcd (hn n ce)) λm hm=>hn m (ax _ hm)
theorem xE{k:Nat}{ns:AB}(h:∀n∈ns,Bd k n):∀n∈low ns,Bd k n:=λn hn=>by
 unfold low at hn
 by_cases c:gl ns 0=0
 .rw[if_pos c]at hn
  exact h n hn
 .rw[if_neg c]at hn
  obtain⟨m,hm,rfl⟩:=bj.mp hn;refine(h m hm).le ?_;have d:=(jZ ns 0).2 m hm;obtain⟨q,e⟩:=d;rw[e,kz _ c,si];exact Nat.le_mul_of_pos_left _ (by omega)
def fr(t b:Int):AB:=if b<0 then low [0-t,0-b] else low [t,b]
theorem kR(a b:Int):b∈[a,b]:=ax _ ce
theorem abh{t b:Int}(h:b≠0):fr (-t) (-b)=fr t b:=by
 unfold fr
 by_cases c:b<0
 .have c':¬(-b<0):=by omega
  rw[if_pos c,if_neg c',im,im]
 .have c':-b<0:=by omega
  rw[if_neg c,if_pos c',Int.sub_neg,Int.sub_neg,oj,oj]
theorem vF{k t b:Int}(hk:0<k)(h:b≠0):fr (k*t) (k*b)=fr t b:=by
 unfold fr;have e1:([k*t,k*b]:AB)=[t,b].map (k*·):=rfl;have e2:([0-k*t,0-k*b]:AB)=[0-t,0-b].map (k*·):=by
  show _=[k*(0-t),k*(0-b)];rw[Int.mul_sub,Int.mul_sub,sr]
 by_cases c:b<0
 .rw[if_pos c,if_pos (wm hk c),e2]
  exact vS hk _ (pV (kR _ _) (by omega))
 .have c':¬(k*b<0):=by
   have:0<k*b:=aj hk (by omega);omega
  rw[if_neg c,if_neg c',e1];exact vS hk _ (pV (kR _ _) h)
theorem Ek{k t b:Int}(hk:k≠0)(h:b≠0):fr (k*t) (k*b)=fr t b:=by
 by_cases c:0<k
 .exact vF c h
 .have c':0< -k:=by omega
  have hb:k*b≠0:=kg hk h;rw[<-abh hb,<-ke,<-ke];exact vF c' h
theorem lC{t b t' b':Int}(h:b≠0)(h':b'≠0)(e:t*b'=t'*b):fr t b=fr t' b':=by
 rw[<-Ek h' h,<-Ek (k:=b) h h',cq b' t,e,cq t' b,cq b' b]
theorem Je{t b:Int}(h:b≠0):∃p q:Int,fr t b=[p,q]/\0<q/\p*b=t*q:=by
 have go:∀{t b:Int},0<b->∃p q:Int,low [t,b]=[p,q]/\0<q/\p*b=t*q:=λ{t b} hb=>by
  have nz:b≠0:=by omega
  have gp:=tW (kR t b) nz;refine⟨t/gl [t,b] 0,b/gl [t,b] 0,tU (kR t b) nz,?_,?_⟩
  .obtain⟨m,e⟩:=(jZ [t,b] 0).2 b (kR t b)
   have:b/gl [t,b] 0=m:=by
    conv=>lhs;lhs;rw[e]
    exact kz _ (by omega)
   rw[this];have hm:0<m*gl [t,b] 0:=by rw[cq,<-e];exact hb
   exact ss hm gp
  .obtain⟨m,e⟩:=(jZ [t,b] 0).2 b (kR t b)
   obtain⟨n,f⟩:=(jZ [t,b] 0).2 t ce;have e1:b/gl [t,b] 0=m:=by
    conv=>lhs;lhs;rw[e]
    exact kz _ (by omega)
   have e2:t/gl [t,b] 0=n:=by
    conv=>lhs;lhs;rw[f]
    exact kz _ (by omega)
   rw[e1,e2]
   conv=>lhs;rhs;rw[e]
   conv=>rhs;lhs;rw[f]
   rw[Int.mul_left_comm,jp]
 unfold fr
 by_cases c:b<0
 .rw[if_pos c]
  obtain⟨p,q,e1,e2,e3⟩:=go (t:=0-t) (b:=0-b) (by omega);refine⟨p,q,e1,e2,?_⟩;rw[im,im,sk,ke]at e3;omega
 .rw[if_neg c]
  exact go (by omega)
def sg(n:Int):Int:=if 0<n then 1 else if n<0 then-1 else 0
theorem Sk{b:Int}(h:b≠0):(0<b/\sg b=1)\/(b<0/\sg b=-1):=by
 unfold sg
 by_cases c:0<b
 .exact .inl ⟨c,if_pos c⟩
 .have d:b<0:=by omega
  exact .inr ⟨d,by rw[if_neg c,if_pos d]⟩
theorem E2(b:Int):-(2^64)<sg b/\sg b<2^64:=by
 unfold sg;split
 .decide
 .split<;>decide
theorem wX(t b:Int):gl [t,b] 0=(bf t b:Nat):=by
 show((bf ((bf 0 t:Nat):Int) b:Nat):Int)=_;rw[wk];congr 1
theorem nI{g n:Int}(h:g≠0):(g*n).fdiv g=n:=by
 rw[om ⟨n,rfl⟩,kz _ h]
theorem Zf{g n:Int}(h:g≠0):(g*n).fdiv (-1*g)=-n:=by
 have e:g*n=(-1*g)*(-n):=by
  rw[ke,dr,zu]
 rw[e];exact nI (by omega)
theorem Jz{t b:Int}(h:b≠0):[t.fdiv (sg b*(bf t b:Nat)),b.fdiv (sg b*(bf t b:Nat))]=fr t b:=by
 have gp:=tW (kR t b) h;rw[wX]at gp;have gn:((bf t b:Nat):Int)≠0:=by omega
 obtain⟨n,en⟩:=zq (a:=t) (b:=b);obtain⟨m,em⟩:=zt (a:=t) (b:=b);have ht:t=((bf t b:Nat):Int)*n:=en;have hb:b=((bf t b:Nat):Int)*m:=em;generalize hg:((bf t b:Nat):Int)=g at *;rcases Sk h with⟨c,s⟩|⟨c,s⟩
 .rw[s,dr]
  have e1:fr t b=[t/g,b/g]:=by
   unfold fr;rw[if_neg (by omega),tU (kR t b) h,wX,hg];rfl
  have e2:t.fdiv g=t/g:=om ⟨n,ht⟩;have e3:b.fdiv g=b/g:=om ⟨m,hb⟩;rw[e1,e2,e3]
 .rw[s]
  have e1:fr t b=[(0-t)/g,(0-b)/g]:=by
   unfold fr;rw[if_pos c,tU (kR (0-t) (0-b)) (by omega),wX,im,im,Int.neg_gcd,Int.gcd_neg,hg];rfl
  have e2:t.fdiv (-1*g)=-n:=by
   conv=>lhs;lhs;rw[ht]
   exact Zf gn
  have e3:b.fdiv (-1*g)=-m:=by
   conv=>lhs;lhs;rw[hb]
   exact Zf gn
  have e4:(0-t)/g=-n:=by
   rw[ht,im,<-sk,kz _ gn]
  have e5:(0-b)/g=-m:=by
   rw[hb,im,<-sk,kz _ gn]
  rw[e1,e2,e3,e4,e5]
theorem On(n:Int):∀(l:AB)(g:Int),gl (l++[n]) g=(bf (gl l g) n:Nat)
 |[],g=>rfl
 |m::r,g=>On n r _
theorem acu{k:Nat}{t b p q:Int}(ht:Bd k t)(hb:Bd k b)(e:fr t b=[p,q]):Bd k p/\Bd k q:=by
 have go:∀{x y:Int},Bd k x->Bd k y->low [x,y]=[p,q]->Bd k p/\Bd k q:=λ{x y} hx hy e=>by
  have h:=xE (k:=k) (ns:=[x,y]) λn hn=>by
   rcases bo.mp hn with z |z
   .rw[z];exact hx
   .have z':n=y:=by simpa using z
    rw[z'];exact hy
  rw[e]at h;exact⟨h p ce,h q (kR _ _)⟩
 unfold fr at e;split at e
 .exact go (by rw[im];exact ht.neg) (by rw[im];exact hb.neg) e
 .exact go ht hb e
theorem Lk{k m:Int}(hk:0<k)(hm:0<m){A B:AB}(hA:gl A 0≠0)(e:A.map (k*·)=B.map (m*·)):low A=low B:=by
 have hB:gl B 0≠0:=λz=>by
  have h:=Jb k A;rw[e,Jb m B,z,sr]at h;have:(k.natAbs:Int)*gl A 0≠0:=kg (by omega) hA;exact this h.symm
 rw[<-vS hk A hA,e,vS hm B hB]
theorem Jp(b:Int):∀(ns:AB)(g:Int),gl ns (bf g b:Nat)=(bf (gl ns g) b:Nat)
 |[],_=>rfl
 |n::r,g=>by
  show gl r ((bf ((bf g b:Nat):Int) n:Nat):Int)=((bf (gl r _) b:Nat):Int);rw[<-Jp b r,Int.gcd_assoc,Int.gcd_comm b n,<-Int.gcd_assoc]
theorem Mc{ns:AB}{b:Int}(hb:0<b):gl (ns++[b]) 0=gl ns b:=by
 rw[On,<-Jp,wk];congr 1;omega
theorem jW(ns:AB)(b:Int):b∈ns++[b]:=dz _ ce
theorem aaJ{ns:AB}{b:Int}(hb:0<b):low (ns++[b])=(ns.map λn=>n.fdiv (gl ns b))++[b.fdiv (gl ns b)]/\0<gl ns b:=by
 have gp:=tW (jW ns b) (by omega);rw[Mc hb]at gp;refine⟨?_,gp⟩;rw[tU (jW ns b) (by omega),Mc hb,fe];have e:∀n:Int,n/gl ns b=n.fdiv (gl ns b):=λn=>(wn n (gr gp)).symm;simp only[e,az,cn]
theorem xN(ns:AB){b:Int}(hb:0<b):∃(zs:AB)(z g:Int),low (ns++[b])=zs++[z]/\0<g/\0<z/\ns=zs.map (g*·)/\b=g*z/\zs.length=ns.length:=by
 obtain⟨e,gp⟩:=aaJ (ns:=ns) hb;have dv:=jZ (ns++[b]) 0;rw[Mc hb]at dv;have ex:∀n∈ns++[b],gl ns b*n.fdiv (gl ns b)=n:=λn hn=>by
  obtain⟨q,e⟩:=dv.2 n hn
  conv=>lhs;rhs;rw[e]
  rw[nI (by omega)];exact e.symm
 refine⟨_,_,gl ns b,e,gp,?_,?_,(ex b (jW ns b)).symm,ak _⟩
 .have h:=ex b (jW ns b)
  have:0<b.fdiv (gl ns b)*gl ns b:=by rw[cq,h];exact hb
  exact ss this gp
 .rw[cg]
  conv=>lhs;rw[<-su ns]
  refine eh λn hn=>?_;exact(ex n (ji _ hn)).symm
theorem wJ(ns:AB){b:Int}(hb:0<b):low (low (ns++[b]))=low (ns++[b]):=by
 obtain⟨zs,z,g,e,hg,hz,e1,e2,_⟩:=xN ns hb;rw[e];refine Lk (k:=g) (m:=1) hg (by decide) (pV (jW zs z) (by omega)) ?_ |>.trans e;rw[fe,<-e1];show ns++[g*z]=(ns++[b]).map (1*·);rw[<-e2]
 conv=>lhs;rw[<-su (ns++[b])]
 refine eh λn _=>?_;exact(dr n).symm
def sm(xs:AB)(w:Int)(ys:AB)(v:Int):AB:=au (λx y=>x*v+y*w) xs ys
theorem Tr{xs ys:AB}{f g:Int->Int->Int}(h:∀x y,f x y=g x y):au f xs ys=au g xs ys:=by
 have:f=g:=funext λx=>funext λy=>h x y;rw[this]
theorem Lx(xs:AB)(w:Int)(ys:AB)(v:Int):au (λx y=>1*x*v+y*w) xs ys=sm xs w ys v:=Tr λx y=>by rw[dr]
theorem Bw(xs:AB)(w:Int)(ys:AB)(v:Int):au (λy x=>-1*y*w+x*v) ys xs=sm xs w (ys.map (- ·)) v:=by
 unfold sm;rw[List.zipWith_map_right,List.zipWith_comm];refine Tr λx y=>?_;rw[ke,dr];exact Int.add_comm _ _
theorem aaW{xs ys:AB}{w v:Int}(h:xs.length=ys.length):(sm xs w ys v).length=xs.length:=by
 unfold sm;rw[fg];omega
end Bn
namespace L2
open PySem PySem.Spec PyProof.Rows Bn
section
variable{X:Cx}
theorem Mn{k:Nat}{i:Int}(h:Bd k i):zw i<=k:=by
 unfold zw;split
 .exact ja _
 .rename_i c
  have z:i.natAbs≠0:=by
   intro q;have:i=0:=by omega
   subst this;exact c rfl
  have:=(Nat.log2_lt z).mpr h;omega
def qC(_ j:Int):Prop:=j≠0/\Bd 8000 j
theorem E8:eO X (binaryOp .FloorDiv) (rI qC λi j=>.int (i.fdiv j)):=
 yV λ_ _ _ _ _ _ _ hc q=>floordiv_int hc.1 q (.inl (PyProof.noPylong_of_log2 (Nat.lt_trans (hc.2.log (by decide)) (by decide))))
theorem PS.imp{st:Stmt}{t t':TS}(h:PS X st t)(i:∀D σ H,t' D σ H->t D σ H):PS X st t':=λAO s σ H D I q=>h AO s σ H D I (i D σ H q)
theorem fF.imp{st:List Stmt}{t t':TS}(h:fF X st t)(i:∀D σ H,t' D σ H->t D σ H):fF X st t':=λAO s σ H D I q=>h AO s σ H D I (i D σ H q)
theorem PE.imp{e:ag}{t t':TE}(h:PE X e t)(i:∀σ H Q,t' σ H Q->t σ H Q):PE X e t':=λAO s σ H Q I q=>h AO s σ H Q I (i σ H Q q)
theorem PT.imp{e:ag}{t t':TT}(h:PT X e t)(i:∀σ H Q,t' σ H Q->t σ H Q):PT X e t':=λAO s σ H Q I q=>h AO s σ H Q I (i σ H Q q)
theorem aH.turnedNew{AO:List (Addr×Obj)}{σ:St}{H:Hp}{s:aa}{h':Heap}{t':Nat}{ch:List Addr}{a:Addr}{o:HO}(I:aH X AO σ H s)(hf:∀b∈ch,fY X AO H b)
  (k:∀b u,b∉ch->s.heap.get? b=some u->h'.get? b=some u)(hp:s.heap.objs.size<=a)(new:fP X.prog X.w (bK H a o) h' a o):
  aH X AO σ (bK H a o) {s with heap:=h',toks:=t'}:=by
 have hn:H a=none:=I.hok.fresh hp;have nch:∀b u,H b=some u->b∉ch:=λb u e z=>by
  rw[(hf b z).1]at e;cases e
 have nea:∀b u,H b=some u->b≠a:=λb u e=>gI e hn;refine I.step (g':=s.gens) (d':=s.drawn) (ch:=ch) (λb hb=>?_) (λb u _ _ hc e _=>k b u hc e) (λb u _ _ hc e _=>⟨u.slots,k b u hc e⟩) (λb u _ e n=>?_)
  (λb u hc e=>⟨u,k b u hc e⟩) (λb xs e=>?_) (λb u v e=>?_) (λb ps e=>⟨#[],?_⟩) (λm hm=>?_) (λb u e=>?_) I.bare
 .obtain⟨_,f1,_,f3,f4,f5⟩:=hf b hb
  exact⟨f3,f1,f4,f5⟩
 .rw[dD (df (de (bn e) hp))]
  exact n
 .rw[dD (nea b _ e)]
  exact e
 .rw[dD (nea b _ e)]
  exact e
 .rw[dD (nea b _ e),e]
  simp
 .obtain⟨ob,es,ep,ho,r⟩:=hm
  exact⟨ob,es,ep,k _ ob (λz=>(hf _ z).2.1 rfl) ho,r⟩
 .by_cases hb:b=a
  .subst hb
   rw[jG]at e;cases e;exact new
  .rw[dD hb]at e
   refine(I.hok b u e).stay (λc v hc q=>k c v ?_ q) (λc q=>?_) λc xs q=>?_
   .rcases hc with z |z
    .rw[z]
     exact nch b u e
    .exact nch c _ z
   .rw[dD (nea c _ q)]
    exact q
   .rw[dD (nea c _ q)]
    exact q
theorem aH.turnedL{AO:List (Addr×Obj)}{σ:St}{H:Hp}{s:aa}{h':Heap}{t':Nat}{ch:List Addr}(I:aH X AO σ H s)(hf:∀b∈ch,fY X AO H b)
  (k:∀b u,b∉ch->s.heap.get? b=some u->h'.get? b=some u):aH X AO σ H {s with heap:=h',toks:=t'}:=by
 have nch:∀b u,H b=some u->b∉ch:=λb u e z=>by
  rw[(hf b z).1]at e;cases e
 refine I.step (g':=s.gens) (d':=s.drawn) (ch:=ch) (λb hb=>?_) (λb u _ _ hc e _=>k b u hc e) (λb u _ _ hc e _=>⟨u.slots,k b u hc e⟩) (λb u _ e n=>n)
  (λb u hc e=>⟨u,k b u hc e⟩) (λb xs e=>e) (λb u v e=>e) (λb ps e=>⟨#[],?_⟩) (λm hm=>?_) (λb u e=>?_) I.bare
 .obtain⟨_,f1,_,f3,f4,f5⟩:=hf b hb
  exact⟨f3,f1,f4,f5⟩
 .rw[e]
  simp
 .obtain⟨ob,es,ep,ho,r⟩:=hm
  exact⟨ob,es,ep,k _ ob (λz=>(hf _ z).2.1 rfl) ho,r⟩
 .refine(I.hok b u e).stay (λc v hc q=>k c v ?_ q) (λc q=>q) λc xs q=>q
  rcases hc with z |z
  .rw[z]
   exact nch b u e
  .exact nch c _ z
end
def Of (K : ae) (a : Addr) : It :=
  ⟨λi H => ∃ xs x, cE K H a xs ∧ xs[i]? = some x,
   λi H x H' => ∃ p y, H p = none ∧ x = .ref p ∧ H' = bK H p (.tup [.int i, y]) ∧ ∀ xs, cE K H a xs → xs[i]? = some y,
   λi H => ∃ xs, cE K H a xs ∧ xs.length ≤ i⟩
theorem Ly{P:Program}{w:am}{K:ae}{elts:List ag}{x1:Nat}{tp:ai}(a e it:Addr)(hne:e≠it):
  rS P w K (.Tuple elts x1 tp) (Of K a) [e,it] e (λi h=>(∃old,IsEnum h e it (i:Int) old)/\h.IsListIter it a i) where
 mem:=by simp
 obj:=λi h st b hb=>by
  obtain⟨⟨old,q⟩,o,e1,c,d⟩:=st;rcases bo.mp hb with z |z
  .subst z
   exact⟨_,q,λv z=>nomatch z⟩
  .have z':b=it:=by simpa using z
   subst z';exact⟨o,e1,λv z=>by rw[d]at z;cases z⟩
 keep:=λi h h' st k=>⟨let⟨old,q⟩:=st.1;⟨old,k e (by simp) _ q⟩,st.2.at λo q=>k it (by simp) o q⟩
 item:=by
  intro X hP hw hK hc i AO s σ H E I hf st hg;subst hP hw hK;obtain⟨xs,x,hq,hx⟩:=hg;obtain⟨its,rv,pl,hz⟩:=I.list hq;obtain⟨u,hu,ru⟩:=rv.get hx;obtain⟨⟨old,he⟩,hit⟩:=st;refine wpAny_pyNext_enum_item he hit pl.isList (x:=u) (by simpa using hu) hne λh1 ho1 hit1 ht1 hs1 hk1=>⟨_,rfl,?_⟩;have lt1:e<s.heap.objs.size:=bn he;refine wpAny_letOwnedTupleGo_enum (s:={s with heap:=h1,toks:=s.toks+1}) ho1 λh2 he2 sb2=>?_;have ht2:h2.get? s.heap.objs.size=some {cls:=.type "tuple",data:=.seq #[.int i s.toks,u]}:=(sb2.2 _ (nu lt1)).trans ht1;have I2:aH X AO σ (bK H s.heap.objs.size (.tup [.int i,x])) {s with heap:=h2,toks:=s.toks+1}:=
   I.turnedNew hf (λb o hb q=>(sb2.2 b (λz=>hb (by simp[z]))).trans (hk1 b o (λz=>hb (by simp[z])) (λz=>hb (by simp[z])) q)) (aq _)
    ⟨⟨by show 2<=sizeLine;decide,_,ht2,rfl⟩,[.int i s.toks,u],.cons ⟨_,rfl⟩ (.cons ru .nil),⟨_,ht2,rfl,_,rfl⟩⟩
  refine⟨.ref s.heap.objs.size,_,I2,rfl,⟨_,x,I.hok.fresh (aq _),rfl,rfl,λys hy=>by rw[I.list_inj hy hq];exact hx⟩,⟨⟨_,by simpa using he2⟩,hit1.at λo q=>(sb2.2 it hne.symm).trans q⟩,λb hb=>?_⟩;have hb':=(hf b hb).1;have lt:b≠s.heap.objs.size:=by
   rcases bo.mp hb with z |z
   .subst z
    exact df lt1
   .have z':b=it:=by simpa using z
    subst z';obtain⟨o,q,_⟩:=hit;exact df (bn q)
  rw[dD lt];exact hb'
 done:=by
  intro X hP hw hK hc i AO s σ H E I hf st hg;subst hP hw hK;obtain⟨xs,hq,hx⟩:=hg;obtain⟨its,rv,pl,hz⟩:=I.list hq;obtain⟨⟨old,he⟩,hit⟩:=st;have hl:=rv.length;exact wpAny_pyNext_enum_end (I.ok.hd hc) he hit pl.isList (by simp;omega) λh' eb=>⟨rfl,I.turnedL (t':=s.toks) hf λb o hb q=>eb b o (λz=>hb (by simp[z])) q⟩
 self:=λ_ _ _ _ _ st h=>let⟨_,q⟩:=st.1;wpAny_pyIter_enum q h
section
variable{X:Cx}{elts:List ag}{x1:Nat}{tp:ai}
def acp(K:ae)(tl:TA):TI:=λσ H R=>tl σ H λvs H1=>∃a,vs=[.ref a]/\(∃xs,cE K H1 a xs)/\R (Of K a) H1
theorem S7{l:ag}{tl:TA}{p pos:ai}(hg:Gl X "enumerate")(hm:X.mg "enumerate"=none)(hl:PA X [l] tl)(hs:starEach [l] X.env=[(false,eval l X.env)]:=by rfl):
  PI X (.Tuple elts x1 tp) (.Call (.Name "enumerate" p) [l] [] pos) (acp X.K tl):=by
 intro AO s σ H R I h;refine Call_ (pN I hg hm boot_enumerate (qa (bO (hl pos AO s σ H _ I h) λus s1 hq=>?_) hs rfl));rcases hq with⟨vs,H1,I1,r1,q1⟩;obtain⟨a,rfl,⟨xs,hq⟩,q⟩:=q1;obtain⟨u,rfl,ru⟩:=kD r1;cases ru;obtain⟨its,rv,pl,hz⟩:=I1.list hq;refine call_enumerate_list pl.isList λh' he hit hsz k=>?_;have I2:aH X AO σ H1 {s1 with heap:=h'}:=I1.kept (t':=s1.toks) k;refine wpAny_pyIter_enum (s:={s1 with heap:=h'}) he ?_;refine⟨s1.heap.objs.size+1,[s1.heap.objs.size+1,s1.heap.objs.size],_,_,H1,rfl,I2,Ly a _ _ (Nat.succ_ne_self _),⟨⟨_,he⟩,hit⟩,λb hb=>?_,q⟩;have hb':s1.heap.objs.size<=b:=by
  rcases bo.mp hb with z |z
  .rw[z]
   exact qi _
  .have z':b=s1.heap.objs.size:=by simpa using z
   rw[z'];exact aq _
 exact I1.fpOk hb' (I1.hok.fresh hb')
end
def gB(env:bi):List (Str×fk)->List (Str×Addr)->List (Str×Addr)
 |[],acc=>acc
 |p::r,acc=>if(p.2== .free)=true then gB env r ((p.1,(env.cells.lookup p.1).getD 0)::acc)else gB env r acc
theorem Rm{sc:Scope}{env:bi}(h:∀p∈sc.names,p.2=.free->∃c,env.cells.lookup p.1=some c):closureFor sc env=pure (gB env sc.names []):=by
 unfold closureFor;have go:∀(l:List (Str×fk))(acc:List (Str×Addr)),(∀p∈l,p.2=.free->∃c,env.cells.lookup p.1=some c)->
   (forIn l acc (λx r=>if(x.2==ft)=true then do let a <-cellOf env x.1;pure (zx ((x.1,a)::r))else pure (zx r)):Sem _)=pure (gB env l acc):=by
  intro l
  induction l with
  |nil=>intro acc _;rfl
  |cons p r ih=>
   intro acc hp;rw[wo];have hr:=λacc'=>ih acc' λq hq=>hp q (ax _ hq)
   by_cases c:(p.2==ft)=true
   .obtain⟨a,ea⟩:=hp p ce (by simpa using c)
    have e1:cellOf env p.1=pure a:=by unfold cellOf;rw[ea]
    rw[if_pos c,e1];simp only[pure_bind];rw[hr];show _=pure (if(p.2== .free)=true then _ else _);rw[if_pos c,ea];rfl
   .rw[if_neg c]
    simp only[pure_bind];rw[hr];show _=pure (if(p.2== .free)=true then _ else _);rw[if_neg c]
 have e:=go sc.names [] h;show(forIn sc.names [] _ >>= λr=>pure r)=_;rw[bind_pure];exact e
theorem vJ{env:bi}:∀(l:List (Str×fk))(acc:List (Str×Addr)),(∀p∈l,p.2=.free->∃c,env.cells.lookup p.1=some c)->
  ∀y c,(gB env l acc).lookup y=some c->acc.lookup y=some c\/env.cells.lookup y=some c
 |[],acc,_,y,c,e=>.inl e
 |p::r,acc,h,y,c,e=>by
  have hr:∀q∈r,q.2=.free->∃c,env.cells.lookup q.1=some c:=λq hq=>h q (ax _ hq);unfold gB at e
  by_cases k:(p.2==ft)=true
  .rw[if_pos k]at e
   obtain⟨a,ea⟩:=h p ce (by simpa using k);rcases vJ r _ hr y c e with z |z
   .rw[dm]at z
    cases w:y==p.1 with
    |true=>
     rw[w,ea]at z;have hy:y=p.1:=by simpa using w
     rw[hy,ea];exact .inr z
    |false=>
     rw[w]at z;exact .inl z
   .exact .inr z
  .rw[if_neg k]at e
   exact vJ r acc hr y c e
theorem qX{env:bi}:∀(l:List (Str×fk))(acc:List (Str×Addr))(y:Str),((∃c,acc.lookup y=some c)\/(y,ft)∈l)->∃c,(gB env l acc).lookup y=some c
 |[],acc,y,h=>by
  rcases h with h |h
  .exact h
  .cases h
 |p::r,acc,y,h=>by
  unfold gB
  by_cases k:(p.2==ft)=true
  .rw[if_pos k]
   refine qX r _ y ?_;cases w:y==p.1 with
   |true=>exact .inl ⟨_,by rw[dm,w]⟩
   |false=>
    rcases h with⟨c,h⟩|h
    .exact .inl ⟨c,by rw[dm,w];exact h⟩
    .rcases bo.mp h with z |z
     .rw[<-z]at w
      simp at w
     .exact .inr z
  .rw[if_neg k]
   refine qX r _ y ?_;rcases h with h |h
   .exact .inl h
   .rcases bo.mp h with z |z
    .rw[<-z]at k
     simp at k
    .exact .inr z
theorem Lg{env:bi}:∀{names:List (Str×fk)}{x:Str},(∀y∈names,y.2≠.cell)->
  (let l:=(names.map λ(n,k)=>if(k==ft&&env.scope.kind== .function&&env.kindOf n==some .cell)then(n,fj)else(n,k)).lookup x;l=some .cell\/l=some .free)->(x,ft)∈names
 |[],x,_,h=>by
  rcases h with h |h<;>cases h
 |(n,k)::r,x,hc,h=>by
  dsimp only at h;rw[az]at h;have ih:=@Lg env r x λy hy=>hc y (ax _ hy);have nk:k≠.cell:=hc (n,k) ce
  by_cases c:(k==ft&&env.scope.kind== .function&&env.kindOf n==some .cell)=true
  .have kf:k=.free:=by
    simp only[fh,beq_iff_eq]at c;exact c.1.1
   dsimp only at h;rw[if_pos c,dm]at h;cases w:x==n with
   |true=>
    have hx:x=n:=by simpa using w
    rw[hx,<-kf];exact ce
   |false=>
    rw[w]at h;exact ax _ (ih h)
  .dsimp only at h
   rw[if_neg c,dm]at h;cases w:x==n with
   |true=>
    rw[w]at h;have hx:x=n:=by simpa using w
    have kf:k=.free:=by
     rcases h with h |h
     .exact absurd (cc h) nk
     .exact cc h
    rw[hx,<-kf];exact ce
   |false=>
    rw[w]at h;exact ax _ (ih h)
def gL(X:Cx)(sc:Scope)(N:List Str)(C:Addr)(AQ:aa)(AR:Hp)(ex:List Addr):Cx where
 prog:=X.prog
 w:=X.w
 K:=X.K
 mg:=X.mg
 base:=X.base
 A:=X.A
 N:=N
 AQ:=AQ
 AR:=AR
 env:=compEnvC sc (gB X.env sc.names []) C X.env
 outer:=X.stack
 stack:=X.stack
 ex:=ex
 fn:=λ_=>false
 calm:=X.calm
 pn:=[]
 xe:=λ_ _=>False
def kC(own:List Str)(cap:List (Nat×Str))(σ:St):St:=own.map (λ_=>none)++cap.map λp=>(σ[p.1]?).join
def dH(own:List Str)(cap:List (Nat×Str)):List Str:=own++cap.map (·.2)
def yO(J:It)(g:TG)(te:TE)(AT:St)(H1:Hp)(D:Addr)(Q:VK):Prop:=
 ∃W:Nat->Nat->St->Hp->List V->Prop,(∃m,W 0 m AT (bK H1 D (.lst [])) [])/\∀i m σ H ys,W i m σ H ys->H D=some (.lst ys)/\
  ((J.stop i H/\Q (.ref D) H)\/(J.go i H/\ys.length<sizeLine/\∀x H2,J.yld i H x H2->g x σ H2 λσ3 H3=>te σ3 H3 λy H4=>H4 D=some (.lst ys)/\∃m',m'<m/\W (i+1) m' σ3 (bK H4 D (.lst (ys++[y]))) (ys++[y])))
def uF(own:List Str)(cap:List (Nat×Str))(wi:TI)(g:TG)(te:TE):TE:=λσ H Q=>wi σ H λJ H1=>∀D,H1 D=none->yO J g te (kC own cap σ) H1 D Q
def Nx(n:Nat)(Pv:Nat->St->Hp->List V->Prop)(D:Addr)(i:Nat)(ys:List V)(σ:St)(y:V)(H:Hp):Prop:=
 H D=some (.lst ys)/\∃m,m<n-i/\(m=n-(i+1)/\i+1<=n/\Pv (i+1) σ (bK H D (.lst (ys++[y]))) (ys++[y]))
theorem adh{n:Nat}{Pv:Nat->St->Hp->List V->Prop}{D:Addr}{i:Nat}{ys:List V}{σ:St}{y:V}{H:Hp}(h:i<n)(hD:H D=some (.lst ys))(p:Pv (i+1) σ (bK H D (.lst (ys++[y]))) (ys++[y])):Nx n Pv D i ys σ y H:=
 ⟨hD,n-(i+1),by omega,rfl,h,p⟩
theorem W4{J:It}{g:TG}{te:TE}{AT:St}{H1:Hp}{D:Addr}{Q:VK}(n:Nat)(hn:n<=sizeLine)(Pv:Nat->St->Hp->List V->Prop)(h0:Pv 0 AT (bK H1 D (.lst [])) [])
  (hl:∀i σ H ys,Pv i σ H ys->ys.length=i/\H D=some (.lst ys))(hgo:∀i σ H ys,i<n->Pv i σ H ys->J.go i H)
  (hs:∀i σ H ys x H2,i<n->Pv i σ H ys->J.yld i H x H2->g x σ H2 λσ3 H3=>te σ3 H3 λy H4=>Nx n Pv D i ys σ3 y H4)
  (hd:∀σ H ys,Pv n σ H ys->J.stop n H/\Q (.ref D) H):yO J g te AT H1 D Q:=by
 refine⟨λi m σ H ys=>m=n-i/\i<=n/\Pv i σ H ys,⟨n,rfl,ja _,h0⟩,?_⟩
 rintro i m σ H ys ⟨rfl,hi,p⟩
 obtain⟨l1,l2⟩:=hl i σ H ys p;refine⟨l2,?_⟩
 by_cases hlt:i<n
 .exact .inr ⟨hgo i σ H ys hlt p,by omega,λx H2 y=>hs i σ H ys x H2 hlt p y⟩
 .have e:i=n:=by omega
  subst e;exact .inl (hd σ H ys p)
section
variable{prog:Program}{w:am}{A:ao}{R:qd->aa->Prop}{s:aa}
theorem Ri{elt target iter:ag}{sc:Scope}{pos:ai}{it acc:Value}{env:bi}(I:Nat->aa->Prop)
  (turn:∀n s,I n s->wpAny (model prog w) A (pyNext it) (λr s1=>match r with
   |none=>R (.ok .next) s1
   |some v=>wpAny (model prog w) A (letOwnedTupleGo target it v) (λ_ s2=>wpAny (model prog w) A (assign target env v) (λ_ s3=>wpAny (model prog w) A (eval elt env)
     (λx s4=>wpAny (model prog w) A (call (.builtin "list.append") [acc,x]) (λ_ s5=>∃m,m<n/\I m s5) (λ_ _=>False) s4) (λ_ _=>False) s3) (λ_ _=>False) s2) (λ_ _=>False) s1) (λ_ _=>False) s)
  (n:Nat)(h:I n s):codeAny (model prog w) A (.compLoop (.ListComp elt [⟨target,iter,[],0⟩] sc pos) 0 it acc env) R s:=by
 refine codeAny_loop rfl I (λn s hI=>?_) n h;show wpAny _ _ ((compTurn (.ListComp elt [⟨target,iter,[],0⟩] sc pos) 0 it acc env).onRaise (λx=>do noteFrame x env;theTreesLotGoes x)) _ _ s;refine wpAny_noted ?_;rw[compTurn_list1];refine ah (pr (ah ?_));refine iy (turn n s hI) (λr s1 h1=>?_) λ_ _ z=>z.elim;cases r with
 |none=>exact bh h1
 |some v=>
  refine ah (iy h1 (λ_ s2 h2=>?_) λ_ _ z=>z.elim);refine ah (iy h2 (λ_ s3 h3=>?_) λ_ _ z=>z.elim);refine ah (ah (iy h3 (λx s4 h4=>?_) λ_ _ z=>z.elim));refine ah (iy h4 (λ_ s5 h5=>?_) λ_ _ z=>z.elim);exact bh (bh ⟨rfl,h5⟩)
end
structure iM(X:Cx)(sc:Scope)(own:List Str)(cap:List (Nat×Str)):Prop where
 kind:sc.kind=.function
 names:∀y∈sc.names,y.2=.local->sc.names.lookup y.1=some .local
 nocell:∀y∈sc.names,y.2≠.cell
 free:∀y∈sc.names,y.2=.free->X.env.kindOf y.1=some .cell
 at':∀p∈cap,X.N[p.1]?=some p.2
 cap:∀p∈cap,sc.names.lookup p.2=some .free
section
variable{X:Cx}{sc:Scope}{own:List Str}{cap:List (Nat×Str)}{AO:List (Addr×Obj)}{σ:St}{H:Hp}{s:aa}
theorem iM.has(k:iM X sc own cap)(ok:X.Ok):∀p∈sc.names,p.2=.free->∃c,X.env.cells.lookup p.1=some c:=λp hp e=>ok.has p.1 (.inl (k.free p hp e))
theorem sQ{env:bi}:∀{names:List (Str×fk)}{x:Str},env.scope.kind=.function->names.lookup x=some .free->env.kindOf x=some .cell->
  (names.map λ(n,k)=>if(k==ft&&env.scope.kind== .function&&env.kindOf n==some .cell)then(n,fj)else(n,k)).lookup x=some .cell
 |[],x,_,h,_=>by cases h
 |(n,k)::r,x,hk,h,hx=>by
  rw[az];dsimp only;rw[dm]at h;cases w:x==n with
  |true=>
   rw[w]at h;have e:x=n:=by simpa using w
   have kf:k=.free:=cc h;have c:(k==ft&&env.scope.kind== .function&&env.kindOf n==some .cell)=true:=by
    rw[kf,hk,<-e,hx];decide
   rw[if_pos c,dm,w]
  |false=>
   rw[w]at h;have ih:=@sQ env r x hk h hx
   by_cases c:(k==ft&&env.scope.kind== .function&&env.kindOf n==some .cell)=true
   .rw[if_pos c,dm,w]
    exact ih
   .rw[if_neg c,dm,w]
    exact ih
theorem aH.cmp(k:iM X sc own cap){h4:Heap}{fp:List Addr}{m:Str->AH}{t':Nat}(I:aH X AO σ H s)(hf:∀b∈fp,fY X AO H b)(hlt:∀b∈fp,b<s.heap.objs.size)(hns:h4.Ns s.heap.objs.size m)
  (kp:∀b o,s.heap.get? b=some o->h4.get? b=some o):aH (gL X sc (dH own cap) s.heap.objs.size s H fp) [] (kC own cap σ) H {s with heap:=h4,toks:=t'}:=by
 have hcl:∀y c,(gB X.env sc.names []).lookup y=some c->X.env.cells.lookup y=some c:=λy c e=>by
  rcases vJ sc.names [] (k.has I.ok) y c e with z |z
  .cases z
  .exact z
 have nst:∀b∈fp,b∉dS X.stack:=λb hb z=>by
  rcases bo.mp (I.stkSub b z)with e |e
  .exact(hf b hb).2.1 e
  .exact(hf b hb).2.2.1 e
 refine⟨⟨I.ok.mod,k.kind,I.ok.glob,I.ok.blt,aq _,λx y c h1 h2=>I.ok.inj x y c (hcl x c h1) (hcl y c h2),λx hx=>?_,λx c e=>(nomatch e),I.ok.hd,I.ok.frames,.inl rfl,λb hb=>⟨df (hlt b hb),λx c e=>(hf b hb).2.2.2.2.1 x c (hcl x c e)⟩,
  I.bs,ee I.ok.bsz I.sz,λb o e hb=>?_,nst,I.stack,I.stkFree⟩,rfl,I.bare,Un.kept kp,⟨m,hns,λi x v h1 h2 h3=>?_⟩,λx c e=>?_,I.hok.fresh (aq _),λx c e=>I.freeC x c (hcl x c e),λp hp=>absurd (show p∈([]:List (Addr×Obj)) from hp) (by simp),I.hok.kept kp,?_⟩
 .exact qX sc.names [] x (.inr (Lg k.nocell hx))
 .rcases(hf b hb).2.2.2.1 with z |z
  .exact I.ok.noex b o e z
  .exact absurd (de (bn (I.ok.bs b o e).1) z) (iu _)
 .have hN:(dH own cap)[i]?=some x:=h1
  unfold dH at hN;unfold kC at h2
  by_cases hi:i<own.length
  .rw[fu (by simpa using hi),dk]at h2
   cases e:own[i]? with
   |none=>rw[e]at h2;cases h2
   |some z=>rw[e]at h2;cases h2
  .rw[ib (by simpa using hi),dk,ak]at h2
   rw[ib (by omega),dk]at hN;cases e:cap[i-own.length]? with
   |none=>rw[e]at h2;cases h2
   |some p=>
    rw[e]at h2 hN;have hp:p∈cap:=ic e;have hx:p.2=x:=cc hN;have hv:(σ[p.1]?).join=some v:=cc h2;have hv':σ[p.1]?=some (some v):=by
     cases e2:σ[p.1]? with
     |none=>rw[e2]at hv;cases hv
     |some z=>rw[e2]at hv;exact congrArg some hv
    have fr:=k.cap p hp;have kc:X.env.kindOf p.2=some .cell:=k.free (p.2,.free) (jn fr) rfl;obtain⟨m0,_,hl⟩:=I.loc;obtain⟨u,ru,lk⟩:=hl p.1 p.2 v (k.at' p hp) hv' (.inr (.inl kc));refine⟨u,ru,?_⟩;rcases lk with⟨k1,_⟩|⟨_,c,ec,cell⟩
    .rw[kc]at k1
     cases k1
    .rw[<-hx]
     obtain⟨c',ec'⟩:=qX (env:=X.env) sc.names [] p.2 (.inr (jn fr));have:=(hcl _ _ ec').symm.trans ec;cases this;obtain⟨o,ho,hd⟩:=cell;exact .inr ⟨.inl (sQ I.ok.kind fr kc),c,ec',o,kp c o ho,hd⟩
 .obtain⟨v,o,ho,hd⟩:=I.cell x c (hcl x c e)
  exact⟨v,o,kp c o ho,hd⟩
 .unfold kC
  show _=(dH own cap).length;unfold dH;rw[ca,ca,ak,ak,ak]
theorem aH.uncmp{s3 s':aa}{H3 H':Hp}{N:List Str}{σ':St}{C:Addr}{fp:List Addr}{pl:List (Addr×Obj)}(I:aH X AO σ H s)(hf:∀b∈fp,fY X AO H b)(u:Un (dS X.stack) fp H H3 s.heap s3.heap)(os:s3.os=s.os)
  (J:aH (gL X sc N C s3 H3 fp) pl σ' H' s'):aH X AO σ H' s':=by
 have os':s'.os=s.os:=(show s'.os=s3.os from J.os).trans os;refine I.call' (ch:=fp) os' (u.trans J.base) J.hok J.bare λb hb=>?_;obtain⟨_,f1,_,f3,f4,f5⟩:=hf b hb;exact⟨f3,f1,f4,f5⟩
end
section
variable{X:Cx}{sc:Scope}{own:List Str}{cap:List (Nat×Str)}{AO:List (Addr×Obj)}{σ:St}{H:Hp}{s:aa}{elt target iter:ag}{pos pos':ai}{wi:TI}{g:TG}{te:TE}{Q:VK}
theorem Zi{use:Option (Value->Sem Unit)}{Qf:Value->aa->Prop}(k:iM X sc own cap)(hi:PI X target iter wi)(hc:X.calm=true)
  (hg:∀C AQ AR ex,PG (gL X sc (dH own cap) C AQ AR ex) target g)(he:∀C AQ AR ex,PE (gL X sc (dH own cap) C AQ AR ex) elt te)(I:aH X AO σ H s)(h:uF own cap wi g te σ H Q)
  (fin:∀D C s' H' m,aH X AO σ H' s'->fY X AO H' C->s'.heap.Ns C m->Q (.ref D) H'->compPost (model X.prog X.w) X.A X.xe use Qf (.ref D) C (.ok .next) s')
  (hs:∀x,foldedSetIterable iter X.env x=pure x):
  wpAny (model X.prog X.w) X.A (comprehension (.ListComp elt [⟨target,iter,[],0⟩] sc pos) sc X.env pos' (newList []) false (eval iter X.env) use) Qf X.xe s:=by
 refine zy (use:=use) rfl hs (Rm (k.has I.ok)) k.kind k.names ?_;refine bO (hi AO s σ H _ I h) λv s1 h1=>bO h1 λitv s2 h2=>?_;obtain⟨it,fp,tn,J,H2,e,I2,T,st2,f2,hW⟩:=h2;subst e;refine ju (wpAny_newFunctionEnv k.nocell (λy hy=>nomatch hy) (λh4 hns hsb=>?_) k.kind);have I3:aH X AO σ (bK H2 s2.heap.objs.size (.lst [])) {s2 with heap:=s2.heap.push {cls:=.type "list",data:=.seq ([]:AG).toArray},toks:=s2.toks}:=I2.lnew (ys:=[]) (its:=[]) .nil (ja _);have hD:H2 s2.heap.objs.size=none:=I2.fresh;have ltf:∀b∈fp,b<s2.heap.objs.size:=λb hb=>by
  obtain⟨o,ho,_⟩:=T.obj _ _ st2 b hb;exact bn ho
 have f3:∀b∈fp,fY X AO (bK H2 s2.heap.objs.size (.lst [])) b:=λb hb=>⟨by rw[dD (df (ltf b hb))];exact(f2 b hb).1,(f2 b hb).2⟩;have un:Un (dS X.stack) fp H2 (bK H2 s2.heap.objs.size (.lst [])) s2.heap (s2.heap.push {cls:=.type "list",data:=.seq ([]:AG).toArray}):=Un.laid (λb u q=>ay _ q) (aq _) hD;have kp:∀b o,(s2.heap.push {cls:=.type "list",data:=.seq ([]:AG).toArray}).get? b=some o->h4.get? b=some o:=λb o q=>hsb.extBut b o (df (bn q)) (ay _ q);have J0:=I3.cmp (t':=s2.toks+([]:List (Str×Value)).length) k f3 (λb hb=>de (ltf b hb) (by rw[jg];exact qi _)) hns kp;have stat:∀{H':Hp},(∀b∈fp,H' b=none)->∀b∈fp,fY (gL X sc (dH own cap) (s2.heap.push {cls:=.type "list",data:=.seq ([]:AG).toArray}).objs.size {s2 with heap:=s2.heap.push {cls:=.type "list",data:=.seq ([]:AG).toArray},toks:=s2.toks} (bK H2 s2.heap.objs.size (.lst [])) fp) [] H' b:=λhn b hb=>
  ⟨hn b hb,(J0.ok.exf b hb).1,J0.ok.exfs b hb,.inl hb,(J0.ok.exf b hb).2,λp hp=>absurd (show p∈([]:List (Addr×Obj)) from hp) (by simp)⟩
 have st4:tn 0 h4:=T.keep _ _ _ st2 λb hb o q=>kp b o (ay _ q);have fr0:∀b∈fp,(bK H2 s2.heap.objs.size (.lst [])) b=none:=λb hb=>(f3 b hb).1;have loop:codeAny (model X.prog X.w) X.A (.compLoop (.ListComp elt [⟨target,iter,[],0⟩] sc pos) 0 (.ref it) (.ref s2.heap.objs.size) (compEnvC sc (gB X.env sc.names []) (s2.heap.push {cls:=.type "list",data:=.seq ([]:AG).toArray}).objs.size X.env))
   (compPost (model X.prog X.w) X.A X.xe use Qf (.ref s2.heap.objs.size) (s2.heap.push {cls:=.type "list",data:=.seq ([]:AG).toArray}).objs.size) {s2 with heap:=h4,toks:=s2.toks+([]:List (Str×Value)).length}:=by
  obtain⟨W,⟨m0,w0⟩,turn⟩:=hW s2.heap.objs.size hD;refine Ri (λn s'=>∃i σ' H' ys,aH (gL X sc (dH own cap) (s2.heap.push {cls:=.type "list",data:=.seq ([]:AG).toArray}).objs.size {s2 with heap:=s2.heap.push {cls:=.type "list",data:=.seq ([]:AG).toArray},toks:=s2.toks} (bK H2 s2.heap.objs.size (.lst [])) fp) [] σ' H' s'/\tn i s'.heap/\(∀b∈fp,H' b=none)/\W i n σ' H' ys) ?_ m0
   ⟨0,_,_,[],J0,st4,fr0,w0⟩
  rintro n s5 ⟨i,σ5,H5,ys,I5,st5,fr5,w5⟩
  obtain⟨hD5,w5⟩:=turn i n σ5 H5 ys w5;rcases w5 with⟨stop,qn⟩|⟨go,hlt,step⟩
  .refine bO (T.done (gL X sc (dH own cap) (s2.heap.push {cls:=.type "list",data:=.seq ([]:AG).toArray}).objs.size {s2 with heap:=s2.heap.push {cls:=.type "list",data:=.seq ([]:AG).toArray},toks:=s2.toks} (bK H2 s2.heap.objs.size (.lst [])) fp) rfl rfl rfl hc i [] s5 σ5 H5 _ I5 (stat fr5) st5 stop) ?_
   rintro r s6 ⟨hr,I6⟩
   subst hr;obtain⟨m,hn,_⟩:=id I6.loc;exact fin _ _ s6 H5 m (I2.uncmp (s3:={s2 with heap:=s2.heap.push {cls:=.type "list",data:=.seq ([]:AG).toArray},toks:=s2.toks}) f2 un rfl I6) (I3.fpOk (aq _) I6.free) hn qn
  .refine bO (T.item (gL X sc (dH own cap) (s2.heap.push {cls:=.type "list",data:=.seq ([]:AG).toArray}).objs.size {s2 with heap:=s2.heap.push {cls:=.type "list",data:=.seq ([]:AG).toArray},toks:=s2.toks} (bK H2 s2.heap.objs.size (.lst [])) fp) rfl rfl rfl hc i [] s5 σ5 H5 _ I5 (stat fr5) st5 go) ?_
   rintro r s6 ⟨u,hr,h6⟩
   subst hr;refine bO h6 ?_
   rintro _ s7 ⟨x,H7,I7,r7,y7,st7,fr7⟩
   have I7':=I7.pinned (stat fr7) (T.obj _ _ st7);refine bO (hg _ _ _ _ _ s7 σ5 H7 x u _ I7' r7 (step x H7 y7)) ?_
   rintro _ s8 ⟨σ8,H8,I8,q8⟩
   refine bO (he _ _ _ _ _ s8 σ8 H8 _ I8 q8) ?_
   rintro v9 s9 ⟨y,H9,I9,r9,hD9,m',hm,w9⟩
   refine bO (Wa _ s9 σ8 H9 (.ref s2.heap.objs.size) [y] (.ref s2.heap.objs.size) [v9] (λ_ H'=>H'=bK H9 s2.heap.objs.size (.lst (ys++[y]))) I9 rfl (.cons r9 .nil) ⟨_,ys,y,rfl,rfl,hD9,hlt,rfl⟩) ?_
   rintro _ s10 ⟨_,H10,I10,_,q10⟩
   subst q10;refine⟨m',hm,i+1,σ8,_,_,I10.unpinned,T.keep _ _ _ st7 λb hb o q=>(I10.pin (b,o) (dz _ (dz _ (qS hb q)))).1,λb hb=>?_,w9⟩;obtain⟨o,q,d⟩:=T.obj _ _ st7 b hb;exact(I10.pin (b,o) (dz _ (dz _ (qS hb q)))).2.1
 exact a5 loop (T.self _ 0 _ _ _ st4 loop)
theorem Q4(k:iM X sc own cap)(hi:PI X target iter wi)(hc:X.calm=true)
  (hg:∀C AQ AR ex,PG (gL X sc (dH own cap) C AQ AR ex) target g)(he:∀C AQ AR ex,PE (gL X sc (dH own cap) C AQ AR ex) elt te)
  (hs:∀x,foldedSetIterable iter X.env x=pure x:=by intro _;rfl):PE X (.ListComp elt [⟨target,iter,[],0⟩] sc pos) (uF own cap wi g te):=by
 intro AO s σ H Q I h;rw[eval_ListComp];refine Zi (use:=none) k hi hc hg he I h (λD C s' H' m I' fC hn q=>?_) hs;refine⟨m,hn,λh' sb=>⟨.ref D,H',?_,rfl,q⟩⟩;obtain⟨f0,f1,f2,f3,f4,f5⟩:=fC;exact I'.turned (t':=s'.toks) (λb o hb e=>(sb.2 b hb).trans e) f0 f1 f3 f4 f5
theorem O7{i:Nat}{x:Str}{py spos:ai}(hN:X.N.Nodup)(hx:X.N[i]?=some x)(hl:jT X.env.scope x)(k:iM X sc own cap)(hi:PI X target iter wi)(hc:X.calm=true)
  (hg:∀C AQ AR ex,PG (gL X sc (dH own cap) C AQ AR ex) target g)(he:∀C AQ AR ex,PE (gL X sc (dH own cap) C AQ AR ex) elt te)
  (hs:∀x,foldedSetIterable iter X.env x=pure x:=by intro _;rfl)(hsw:swapsWith (.ListComp elt [⟨target,iter,[],0⟩] sc pos) (some (.Name x py)) spos.line X.env=pure true:=by rfl)
  (hf:X.fn x=true\/X.env.scope.names.lookup x=some .local:=by first |exact .inl rfl |exact .inr rfl |assumption):
  PS X (.Assign [.Name x py] (.ListComp elt [⟨target,iter,[],0⟩] sc pos) spos) (Pe (uF own cap wi g te) (Fe i)):=by
 intro AO s σ H D I h;rw[exec_Assign_Name_used _ _ _ _ hsw];refine ah (pr (ah ?_));show wpAny _ X.A (comprehension (.ListComp elt [⟨target,iter,[],0⟩] sc pos) sc X.env _ (newList []) false (eval iter X.env) (some (assign (.Name x py) X.env)) >>= λ_=>pure ()) _ _ s;refine ah (bO (Zi (use:=some (assign (.Name x py) X.env)) (Qf:=λ_ s'=>SP X AO D .next s') k hi hc hg he I h (λB C s' H' m I' fC hn q=>?_) hs) λ_ s' hq=>bh (bh hq))
 show wpAny _ _ (assign (.Name x py) X.env (.ref B)) _ _ s';obtain⟨o,es,ep,ho,hd,r⟩:=hn;obtain⟨f0,f1,f2,f3,f4,f5⟩:=fC;have I'':aH X (AO++[(C,o)]) σ H' s':=I'.pins_of λp hp=>(dj.mp hp).elim (λz=>I'.pin p (dz _ z)) λz=>by
  have e:p=(C,o):=by simpa using z
  subst e;exact⟨ho,f0,f1,f2,λv z=>by rw[hd]at z;cases z⟩
 refine wpAny_assign_Name (pG I'' hN hx hl (v:=.ref B) rfl (λs2 I2=>?_) hf);have pC:=I2.pin (C,o) (by simp);refine⟨m,⟨o,es,ep,pC.1,hd,r⟩,λh' sb=>⟨_,H',?_,q⟩⟩;exact(I2.unpinned).turned (t':=s2.toks) (λb o hb e=>(sb.2 b hb).trans e) f0 f1 f3 f4 f5
end
section
variable{X:Cx}
theorem K8(hc:X.calm=true):iK X (.builtin "all") (λxs H Q=>∃(a:Addr)(bs:List Bool),xs=[.ref a]/\cE X.K H a (bs.map V.bl)/\Q (.bl (bs.all id)) H):=by
 intro AO s σ H xs us Q I r h;obtain⟨a,bs,rfl,hq,q⟩:=h;obtain⟨u,rfl,ru⟩:=kD r;cases ru;obtain⟨its,rv,pl,hz⟩:=I.list hq;have hl:bs.length=its.length:=by
  have:=rv.length
  rwa[ak]at this
 refine call_all_walk (qk pl.isList ?_);have ha:a<s.heap.objs.size:=by
  obtain⟨o,ho,_⟩:=pl.isList;exact bn ho
 refine⟨_,_,_,_,_,_,λi=>bs.getD i true,rfl,Walks.list (prog:=X.prog) (w:=X.w) (A:=X.A.in1) (show X.A.in1.handled=none from I.ok.hd hc) s.heap.objs.size a (df ha) its.toArray,⟨⟨_,dg _ rfl,rfl,rfl⟩,Heap.IsList.at pl.isList λo e=>ay _ e⟩,λi v s' Q' E' hv hQ=>?_,λh' tk kp=>?_⟩
 .have hv':its[i]?=some v:=by simpa using hv
  have hi:i<bs.length:=by
   have:=(da.mp hv').1;omega
  obtain⟨u,hu,ru⟩:=rv.get (i:=i) (x:=.bl bs[i]) (by rw[dk,av hi];rfl);rw[hv']at hu;cases hu;cases(show v=qz bs[i] from ru);have e:bs.getD i true=bs[i]:=by simp[ci,hi]
  have hQ':Q' (bs.getD i true) s':=hQ;rw[e]at hQ';exact kr hQ'
 .have e:(aw its.toArray.size).all (λi=>bs.getD i true)=bs.all id:=by
   rw[ar,<-hl,a6,jb,jb];constructor
   .intro z b hb
    obtain⟨i,hi,rfl⟩:=List.mem_iff_getElem.mp hb;have:=z i (by simpa using hi);simpa[ci,hi]using this
   .intro z i hi
    have hi':i<bs.length:=by simpa using hi
    have:=z bs[i] (di hi');simpa[ci,hi']using this
  show EP X AO σ Q (.bool ((aw its.toArray.size).all λi=>bs.getD i true)) _;rw[e];have I1:aH X AO σ H {s with heap:=s.heap.push {cls:=.type "list_iterator",data:=.fields #[.ref a,.int 0 0]},toks:=s.toks}:=I.kept λb o z=>ay _ z;have fp:fY X AO H s.heap.objs.size:=I.fpOk (aq _) (I.hok.fresh (aq _));obtain⟨f0,f1,f2,f3,f4,f5⟩:=fp;exact⟨.bl (bs.all id),H,I1.turned (λb o hb z=>kp b o (by simpa using hb) z) f0 f1 f3 f4 f5,rfl,q⟩
end
section
variable{prog:Program}{w:am}{A:ao}{E:Value->aa->Prop}{s:aa}
theorem Vw{it t:Addr}{i:Nat}{items:Array Value}{x:Value}{Q:Value->aa->Prop}(git:s.heap.IsTupleIter it t i)(gt:s.heap.IsTuple t items)(gx:items[i]?=some x)
  (gQ:∀h',h'.IsTupleIter it t (i+1)->jy it s.heap h'->Q x {s with heap:=h'}):wpAny (model prog w) A (kh (.ref it)) Q E s:=by
 obtain⟨o,go,gc,gd⟩:=id git;obtain⟨ol,gol,_,nl,gdl⟩:=gt;unfold kh;refine ah (qh (name:=db "__next__") git.typeIs sv (oa sv git.typeIs a7 ?_ (a8 _)));show wpAny _ _ (field (.ref it) 0 >>= _) _ _ s;refine ah (gj go gd (x:=.ref t) rfl ?_);show wpAny _ _ (if(gw t==ck)=true then _ else _) _ _ s;rw[if_neg (show ¬((gw t==ck)=true) from kw)];show wpAny _ _ (field (.ref it) 1 >>= _) _ _ s;refine ah (gj go gd (x:=.int i 0) rfl ?_);show wpAny _ _ (seqItems? (.ref t) >>= _) _ _ s;refine ah (ki gol gdl ?_);simp only[qg,gx];refine ah (wq go gd (by simp) (bh ⟨_,rfl,bh (gQ _ ?_ (c6 ..))⟩));refine⟨_,zb _ go (Obj.isFreed_of_fields (c7 gd _)),(Obj.cls_mapFields ..).trans gc,?_⟩;rw[c7 gd];simp[rawInt]
theorem Xu{it t:Addr}{i:Nat}{items:Array Value}{Q:Value->aa->Prop}(hh:A.handled=none)(git:s.heap.IsTupleIter it t i)(gt:s.heap.IsTuple t items)(gx:items[i]?=none)
  (gE:∀h' e,sx it s.heap h'->(∃o,h'.get? e=some o/\o.cls=.type "StopIteration")->E (.ref e) {s with heap:=h'}):wpAny (model prog w) A (kh (.ref it)) Q E s:=by
 obtain⟨o,go,gc,gd⟩:=id git;obtain⟨ol,gol,_,nl,gdl⟩:=gt;unfold kh;refine ah (qh (name:=db "__next__") git.typeIs sv (oa sv git.typeIs a7 ?_ (a8 _)));show wpAny _ _ (field (.ref it) 0 >>= _) _ _ s;refine ah (gj go gd (x:=.ref t) rfl ?_);show wpAny _ _ (if(gw t==ck)=true then _ else _) _ _ s;rw[if_neg (show ¬((gw t==ck)=true) from kw)];show wpAny _ _ (field (.ref it) 1 >>= _) _ _ s;refine ah (gj go gd (x:=.int i 0) rfl ?_);show wpAny _ _ (seqItems? (.ref t) >>= _) _ _ s;refine ah (ki gol gdl ?_);simp only[qg,gx]
 first
  |refine ah (nr (ah (wq go gd (by simp) (ah (sy ?_)))))
  |refine ah (nr (ah (wq go gd (by simp) ?_)))
 show wpAny _ _ (newExc (.type "StopIteration") [] >>= _) _ _ _;refine ah ?_;simp only[newExc,newTuple];refine ah (ju ?_ (by size_fits));refine ah (m:=firstArgMember _ _) (wr (a:=ck) (by first |rfl |(simp only[firstArgMember];rfl)) ?_)
 refine ju ?_ (by size_fits);simp only[raiseNew];refine ah (wpAny_handled ?_)
 first
  |rw[show A.in1.handled=none from hh]
  |rw[hh]
 refine ah (bh (wpAny_throw ?_));exact gE _ _ (((c6 ..).extBut.push _).push _) ⟨_,dg _ rfl,rfl⟩
end
theorem B7{prog:Program}{w:am}{A:ao}(hh:A.handled=none)(it t:Addr)(hne:t≠it)(items:Array Value):
  jq prog w A it [it,t] items.size (λi v=>items[i]?=some v) (λi h=>h.IsTupleIter it t i/\h.IsTuple t items) where
 live:=λ_ _ st=>let⟨o,ho,_⟩:=st.1;⟨o,ho⟩
 frame:=λ_ _ _ st hk=>⟨let⟨o,ho,r⟩:=st.1;⟨o,hk it (by simp) o ho,r⟩,let⟨o,ho,r⟩:=st.2;⟨o,hk t (by simp) o ho,r⟩⟩
 item:=λi s Q E hi st hQ=>by
  refine Vw st.1 st.2 (x:=items[i]) (by simp[hi]) λh' hit' hs'=>?_;exact hQ _ h' s.toks (by simp[hi]) ⟨hit',st.2.extBut hs'.extBut hne⟩ hs'
 done:=λs Q E st hE=>Xu hh st.1 st.2 (by simp) hE
structure uS(z TI TO i1 i2:Addr)(fp1 fp2:List Addr):Prop where
 tiz:TI≠z
 toz:TO≠z
 tito:TI≠TO
 ti1:TI≠i1
 ti2:TI≠i2
 z1:z∉fp1
 z2:z∉fp2
 to1:TO∉fp1
 to2:TO∉fp2
 i12:i1∉fp2
 i21:i2∉fp1
 m1:i1∈fp1
 m2:i2∈fp2
section
variable{prog:Program}{w:am}{A:ao}{E:Value->aa->Prop}{s:aa}{z TI TO i1 i2:Addr}{fp1 fp2:List Addr}{n1 n2 i:Nat}{P1 P2:Nat->Value->Prop}{S1 S2:Nat->Heap->Prop}{a b:Value}
theorem Hz{Q:Value->aa->Prop}(D1:jq prog w A i1 fp1 n1 P1 S1)(D2:jq prog w A i2 fp2 n2 P2 S2)(ap:uS z TI TO i1 i2 fp1 fp2)(gz:gf s.heap z TI TO .none)(gTI:dn s.heap TI (.ref i1) (.ref i2))(gTO:dn s.heap TO a b)
  (g1:S1 i s.heap)(g2:S2 i s.heap)(l1:i<n1)(l2:i<n2)
  (gQ:∀h' tk x y,P1 i x->P2 i y->gf h' z TI TO (rawInt s.heap.objs.size)->dn h' TO x y->S1 (i+1) h'->S2 (i+1) h'->dn h' s.heap.objs.size x y->
   (∀c o,c≠z->c≠TO->c≠i1->c≠i2->s.heap.get? c=some o->h'.get? c=some o)->Q (.ref s.heap.objs.size) {s with heap:=h',toks:=tk}):
  wpAny (model prog w) A (Builtin.«zip.__next__» ⟨[.ref z],[]⟩) (λfin s'=>∃v,fin=.done (.ret v)/\Q v s') E s:=by
 have nz1:i1≠z:=λq=>ap.z1 (q▸ap.m1);have nz2:i2≠z:=λq=>ap.z2 (q▸ap.m2);have nt1:TO≠i1:=λq=>ap.to1 (q▸ap.m1);have nt2:TO≠i2:=λq=>ap.to2 (q▸ap.m2);show wpAny _ _ (field (.ref z) 2 >>= _) _ _ _;refine ah (gj gz rfl (x:=.bool false) rfl ?_);show wpAny _ _ (field (.ref z) 3 >>= _) _ _ _;refine ah (gj gz rfl (x:=.ref TI) rfl ?_);refine ah (ki gTI rfl ?_);show wpAny _ _ (td (.ref z) >>= _) _ _ _;refine ah ?_;unfold td;refine ah (gj gz rfl (x:=.none) rfl (bh ?_));simp only[if_true];refine ah (nr ?_);refine ah (gj gz rfl (x:=.ref TO) rfl ?_);refine ah (oo gz (by simp) λh1 gz1 s1=>?_)
 replace gz1:gf h1 z TI TO .ellipsis:=gz1
 refine ah ?_;simp only[c8,d4,wo,wt];refine ah (ah (tf ?_));show wpAny _ _ (kh (.ref i1) >>= _) _ _ _;refine ah (D1.item i _ _ _ l1 (D1.frame _ _ _ g1 λc hc o q=>s1.extBut c o (λe=>ap.z1 (e▸hc)) q) λx h2 tk2 px g1' s2=>bh ?_);have gTO2:dn h2 TO a b:=s2.extBut _ _ nt1 (s1.extBut _ _ ap.toz gTO);refine ah (ki gTO2 rfl ?_);refine ah (wu (s:={s with heap:=h2,toks:=tk2}) gTO2 λh3 gTO3 s3=>?_)
 replace gTO3:dn h3 TO x b:=gTO3
 replace s3:jy TO h2 h3:=s3
 refine ah (sy (bh ?_));refine ah (ah (tf ?_));show wpAny _ _ (kh (.ref i2) >>= _) _ _ _;have g2':S2 i h3:=D2.frame _ _ _ g2 λc hc o q=>s3.extBut c o (λe=>ap.to2 (e▸hc)) (s2.extBut c o (λe=>ap.i12 (e▸hc)) (s1.extBut c o (λe=>ap.z2 (e▸hc)) q));refine ah (D2.item i _ _ _ l2 g2' λy h4 tk4 py g2'' s4=>bh ?_)
 replace s4:jy i2 h3 h4:=s4
 have gTO4:dn h4 TO x b:=s4.extBut _ _ nt2 gTO3;refine ah (ki gTO4 rfl ?_);refine ah (wu (s:={s with heap:=h4,toks:=tk4}) gTO4 λh5 gTO5 s5=>?_)
 replace gTO5:dn h5 TO x y:=gTO5
 replace s5:jy TO h4 h5:=s5
 refine ah (sy (bh (bh ?_)));refine ah (ki gTO5 rfl ?_);refine ah (wpAny_newTuple ?_);have hsz:h5.objs.size=s.heap.objs.size:=by rw[s5.1,s4.1,s3.1,s2.1,s1.1]
 have gz5:gf h5 z TI TO .ellipsis:=s5.extBut _ _ ap.toz.symm (s4.extBut _ _ nz2.symm (s3.extBut _ _ ap.toz.symm (s2.extBut _ _ nz1.symm gz1)));have k5:∀c o,c≠z->c≠TO->c≠i1->c≠i2->s.heap.get? c=some o->h5.get? c=some o:=λc o c1 c2 c3 c4 q=>s5.extBut _ _ c2 (s4.extBut _ _ c4 (s3.extBut _ _ c2 (s2.extBut _ _ c3 (s1.extBut _ _ c1 q))));have g15:S1 (i+1) h5:=D1.frame _ _ _ g1' λc hc o q=>s5.extBut c o (λe=>ap.to1 (e▸hc)) (s4.extBut c o (λe=>ap.i21 (e▸hc)) (s3.extBut c o (λe=>ap.to1 (e▸hc)) q));have g25:S2 (i+1) h5:=D2.frame _ _ _ g2'' λc hc o q=>s5.extBut c o (λe=>ap.to2 (e▸hc)) q;have zlt:z<h5.objs.size:=bn gz5;show wpAny _ _ (d5 (.ref z) (.ref h5.objs.size) >>= _) _ _ _;refine ah ?_;unfold d5;have gz6:gf (h5.push {cls:=.type "tuple",data:=.seq #[x,y]}) z TI TO .ellipsis:=ay _ gz5;refine ah (oo gz6 (by simp) λh7 gz7 s7=>?_)
 replace gz7:gf h7 z TI TO (rawInt h5.objs.size):=gz7
 refine oo gz7 (by simp) λh8 gz8 s8=>?_
 replace gz8:gf h8 z TI TO (rawInt h5.objs.size):=gz8
 have up:∀c o,c≠z->h5.get? c=some o->h8.get? c=some o:=λc o c1 q=>s8.extBut _ _ c1 (s7.extBut _ _ c1 (ay _ q));have gT8:dn h8 h5.objs.size x y:=s8.extBut _ _ (nu zlt) (s7.extBut _ _ (nu zlt) (dg _ rfl));rw[hsz]at gz8 gT8;refine bh ⟨_,rfl,?_⟩;show Q (.ref h5.objs.size) _;rw[hsz];exact gQ h8 _ x y px py gz8 (up _ _ ap.toz gTO5) (D1.frame _ _ _ g15 λc hc o q=>up c o (λe=>ap.z1 (e▸hc)) q) (D2.frame _ _ _ g25 λc hc o q=>up c o (λe=>ap.z2 (e▸hc)) q) gT8 λc o c1 c2 c3 c4 q=>up c o c1 (k5 c o c1 c2 c3 c4 q)
theorem Tx{Q:Fin->aa->Prop}(D1:jq prog w A i1 fp1 n1 P1 S1)(D2:jq prog w A i2 fp2 n2 P2 S2)(ap:uS z TI TO i1 i2 fp1 fp2)(gz:gf s.heap z TI TO .none)(gTI:dn s.heap TI (.ref i1) (.ref i2))(gTO:dn s.heap TO a b)
  (g1:S1 i s.heap)(g2:S2 i s.heap)(fin:i=n1\/(i<n1/\i=n2))
  (gE:∀h' tk e,(∀c o,c≠z->c≠TO->c≠i1->c≠i2->s.heap.get? c=some o->h'.get? c=some o)->(∃o,h'.get? e=some o/\o.cls=.type "StopIteration")->E (.ref e) {s with heap:=h',toks:=tk}):
  wpAny (model prog w) A (Builtin.«zip.__next__» ⟨[.ref z],[]⟩) Q E s:=by
 have nz1:i1≠z:=λq=>ap.z1 (q▸ap.m1);have nz2:i2≠z:=λq=>ap.z2 (q▸ap.m2);have nt1:TO≠i1:=λq=>ap.to1 (q▸ap.m1);have nt2:TO≠i2:=λq=>ap.to2 (q▸ap.m2);show wpAny _ _ (field (.ref z) 2 >>= _) _ _ _;refine ah (gj gz rfl (x:=.bool false) rfl ?_);show wpAny _ _ (field (.ref z) 3 >>= _) _ _ _;refine ah (gj gz rfl (x:=.ref TI) rfl ?_);refine ah (ki gTI rfl ?_);show wpAny _ _ (td (.ref z) >>= _) _ _ _;refine ah ?_;unfold td;refine ah (gj gz rfl (x:=.none) rfl (bh ?_));simp only[if_true];refine ah (nr ?_);refine ah (gj gz rfl (x:=.ref TO) rfl ?_);refine ah (oo gz (by simp) λh1 gz1 s1=>?_)
 replace gz1:gf h1 z TI TO .ellipsis:=gz1
 refine ah ?_;simp only[c8,d4,wo,wt];refine ah (ah (tf ?_));show wpAny _ _ (kh (.ref i1) >>= _) _ _ _;have g1':S1 i h1:=D1.frame _ _ _ g1 λc hc o q=>s1.extBut c o (λe=>ap.z1 (e▸hc)) q;rcases fin with e1 |⟨l1,e2⟩
 .subst e1
  refine ah (D1.done _ _ _ g1' λh2 e s2 he=>?_);obtain⟨oe,hoe,hce⟩:=he;have gz2:gf h2 z TI TO .ellipsis:=s2 _ _ nz1.symm gz1;have hez:e≠z:=λq=>by
   subst q;rw[gz2]at hoe;cases hoe;simp at hce
  refine oo (s:={s with heap:=h2}) gz2 (by simp) λh3 _ s3=>?_;exact gE h3 _ e (λc o c1 _ c3 _ q=>s3.extBut _ _ c1 (s2 _ _ c3 (s1.extBut _ _ c1 q))) ⟨oe,s3.extBut _ _ hez hoe,hce⟩
 .subst e2
  refine ah (D1.item i _ _ _ l1 g1' λx h2 tk2 px g1'' s2=>bh ?_);have gTO2:dn h2 TO a b:=s2.extBut _ _ nt1 (s1.extBut _ _ ap.toz gTO);refine ah (ki gTO2 rfl ?_);refine ah (wu (s:={s with heap:=h2,toks:=tk2}) gTO2 λh3 gTO3 s3=>?_)
  replace s3:jy TO h2 h3:=s3
  refine ah (sy (bh ?_));refine ah (ah (tf ?_));show wpAny _ _ (kh (.ref i2) >>= _) _ _ _;have g2':S2 i h3:=D2.frame _ _ _ g2 λc hc o q=>s3.extBut c o (λe=>ap.to2 (e▸hc)) (s2.extBut c o (λe=>ap.i12 (e▸hc)) (s1.extBut c o (λe=>ap.z2 (e▸hc)) q));refine ah (D2.done _ _ _ g2' λh4 e s4 he=>?_)
  replace s4:sx i2 h3 h4:=s4
  obtain⟨oe,hoe,hce⟩:=he;have gz4:gf h4 z TI TO .ellipsis:=s4 _ _ nz2.symm (s3.extBut _ _ ap.toz.symm (s2.extBut _ _ nz1.symm gz1));have hez:e≠z:=λq=>by
   subst q;rw[gz4]at hoe;cases hoe;simp at hce
  refine oo (s:={s with heap:=h4,toks:=tk2}) gz4 (by simp) λh5 _ s5=>?_;exact gE h5 _ e (λc o c1 c2 c3 c4 q=>s5.extBut _ _ c1 (s4 _ _ c4 (s3.extBut _ _ c2 (s2.extBut _ _ c3 (s1.extBut _ _ c1 q))))) ⟨oe,s5.extBut _ _ hez hoe,hce⟩
theorem Gw{Q:AH->aa->Prop}(D1:jq prog w A.in1 i1 fp1 n1 P1 S1)(D2:jq prog w A.in1 i2 fp2 n2 P2 S2)(ap:uS z TI TO i1 i2 fp1 fp2)(gz:gf s.heap z TI TO .none)(gTI:dn s.heap TI (.ref i1) (.ref i2))(gTO:dn s.heap TO a b)
  (g1:S1 i s.heap)(g2:S2 i s.heap)(l1:i<n1)(l2:i<n2)
  (gQ:∀h' tk x y,P1 i x->P2 i y->gf h' z TI TO (rawInt s.heap.objs.size)->dn h' TO x y->S1 (i+1) h'->S2 (i+1) h'->dn h' s.heap.objs.size x y->
   (∀c o,c≠z->c≠TO->c≠i1->c≠i2->s.heap.get? c=some o->h'.get? c=some o)->Q (some (.ref s.heap.objs.size)) {s with heap:=h',toks:=tk}):
  wpAny (model prog w) A (pyNext (.ref z)) Q E s:=by
 have gT:s.TypeIs (.ref z) "zip":=⟨_,gz,rfl⟩;unfold pyNext;refine ah (wpAny_attempt (qh (name:=db "__next__") gT tj (oa tj gT d6 ?_ (d7 _))));exact Hz D1 D2 ap gz gTI gTO g1 g2 l1 l2 λh' tk x y p1 p2 e1 e2 e3 e4 e5 e6=>bh (gQ h' tk x y p1 p2 e1 e2 e3 e4 e5 e6)
theorem Ru{Q:AH->aa->Prop}(D1:jq prog w A.in1 i1 fp1 n1 P1 S1)(D2:jq prog w A.in1 i2 fp2 n2 P2 S2)(ap:uS z TI TO i1 i2 fp1 fp2)(gz:gf s.heap z TI TO .none)(gTI:dn s.heap TI (.ref i1) (.ref i2))(gTO:dn s.heap TO a b)
  (g1:S1 i s.heap)(g2:S2 i s.heap)(fin:i=n1\/(i<n1/\i=n2))
  (gQ:∀h' tk,(∀c o,c≠z->c≠TO->c≠i1->c≠i2->s.heap.get? c=some o->h'.get? c=some o)->Q none {s with heap:=h',toks:=tk}):wpAny (model prog w) A (pyNext (.ref z)) Q E s:=by
 have gT:s.TypeIs (.ref z) "zip":=⟨_,gz,rfl⟩;unfold pyNext;refine ah (wpAny_attempt (qh (name:=db "__next__") gT tj (oa tj gT d6 ?_ (d7 _))));refine Tx D1 D2 ap gz gTI gTO g1 g2 fin λh' tk e hk he=>?_;obtain⟨o,ho,hc⟩:=he;refine ah (wpAny_isInstance (T:="StopIteration") (b:=true) ⟨o,ho,hc⟩ isSubtype_stop ?_);exact bh (gQ _ _ hk)
end
abbrev yI(h:Heap)(o1:Obj):Heap:=h.push o1
abbrev yQ(h:Heap)(o1 o2:Obj):Heap:=(yI h o1).push o2
abbrev yH(h:Heap)(o1 o2:Obj):Heap:=(yQ h o1 o2).push {cls:=.type "tuple",data:=.seq #[.ref h.objs.size,.ref (yI h o1).objs.size]}
abbrev yC(h:Heap)(o1 o2:Obj):Heap:=(yH h o1 o2).push {cls:=.type "tuple",data:=.seq #[.none,.none]}
abbrev rX(h:Heap)(o1 o2:Obj):Heap:=(yC h o1 o2).push {cls:=.type "zip",data:=.fields #[.none,.bool false,.bool false,.ref (yQ h o1 o2).objs.size,.ref (yH h o1 o2).objs.size]}
def uK(l:Addr)(o:Obj)(G:Heap->Prop):Prop:=
 ∀(prog:Program)(w:am)(A:ao)(E:Value->aa->Prop)(s:aa)(Q:Value->aa->Prop),G s.heap->Q (.ref s.heap.objs.size) {s with heap:=s.heap.push o}->wpAny (model prog w) A (pyIter (.ref l)) Q E s
theorem Nz(l1 l2:Addr)(o1 o2:Obj)(G1 G2:Heap->Prop)(p1:uK l1 o1 G1)(p2:uK l2 o2 G2)(k2:∀h,G2 h->G2 (h.push o1)):
  Meets (Builtin.«zip.__new__» ⟨[.type "zip",.ref l1,.ref l2],[]⟩) (λ_ R s=>G1 s.heap/\G2 s.heap/\R (.ok (.ret (.ref (yC s.heap o1 o2).objs.size))) {s with heap:=rX s.heap o1 o2}):=
 .of_wp λprog w A R s h=>by
  obtain⟨hp,g,d,tk,os⟩:=s;obtain⟨g1,g2,h⟩:=h;have hsub:=sub_zip;have q1:=λ(A':ao) (E':Value->aa->Prop) (Q':Value->aa->Prop)=>p1 prog w A' E' ⟨hp,g,d,tk,os⟩ Q' g1;have q2:=λ(A':ao) (E':Value->aa->Prop) (Q':Value->aa->Prop)=>p2 prog w A' E' ⟨hp.push o1,g,d,tk,os⟩ Q' (k2 _ g2)
  wp_walk using q1 _ _ _,q2 _ _ _
  exact⟨_,rfl,h⟩
theorem Kv{prog:Program}{w:am}{A:ao}{E:Value->aa->Prop}{s:aa}{l1 l2:Addr}{o1 o2:Obj}{G1 G2:Heap->Prop}{Q:Value->aa->Prop}(p1:uK l1 o1 G1)(p2:uK l2 o2 G2)(k2:∀h,G2 h->G2 (h.push o1))(g1:G1 s.heap)(g2:G2 s.heap)
  (f1:o1.isFreed=false)(f2:o2.isFreed=false)
  (h:∀h',gf h' (s.heap.objs.size+4) (s.heap.objs.size+2) (s.heap.objs.size+3) .none->dn h' (s.heap.objs.size+2) (.ref s.heap.objs.size) (.ref (s.heap.objs.size+1))->dn h' (s.heap.objs.size+3) .none .none->
   h'.get? s.heap.objs.size=some o1->h'.get? (s.heap.objs.size+1)=some o2->(∀c o,s.heap.get? c=some o->h'.get? c=some o)->Q (.ref (s.heap.objs.size+4)) {s with heap:=h'}):
  wpAny (model prog w) A (call (.type "zip") [.ref l1,.ref l2]) Q E s:=by
 refine callType_new F.called_zip (by decide) (F.typeCall_zip_2 _ _) (F.newCall_zip_2 _ _) (λobj=>F.args_object_init_3 obj _ _) F.entry_zip_new (Nz l1 l2 o1 o2 G1 G2 p1 p2 k2) ⟨g1,g2,?_⟩;have e1:(yI s.heap o1).objs.size=s.heap.objs.size+1:=jg ..;have e2:(yQ s.heap o1 o2).objs.size=s.heap.objs.size+2:=by rw[jg,e1]
 have e3:(yH s.heap o1 o2).objs.size=s.heap.objs.size+3:=by rw[jg,e2]
 have e4:(yC s.heap o1 o2).objs.size=s.heap.objs.size+4:=by rw[jg,e3]
 have r5:(rX s.heap o1 o2).get? (yC s.heap o1 o2).objs.size=some _:=dg _ rfl;have r4:(rX s.heap o1 o2).get? (yH s.heap o1 o2).objs.size=some _:=ay _ (dg _ rfl);have r3:(rX s.heap o1 o2).get? (yQ s.heap o1 o2).objs.size=some _:=ay _ (ay _ (dg _ rfl));have r2:(rX s.heap o1 o2).get? (yI s.heap o1).objs.size=some o2:=ay _ (ay _ (ay _ (dg _ f2)));have r1:(rX s.heap o1 o2).get? s.heap.objs.size=some o1:=ay _ (ay _ (ay _ (ay _ (dg _ f1))));show _/\_;rw[e2,e3,e4]at r5;rw[e1,e2]at r3;rw[e3]at r4;rw[e1]at r2;rw[e4];exact⟨⟨_,r5,rfl⟩,h _ r5 r3 r4 r1 r2 λc o q=>ay _ (ay _ (ay _ (ay _ (ay _ q))))⟩
def jD(f:Bool)(K:ae)(H:Hp)(a:Addr)(xs:List V):Prop:=match f with
 |true=>dJ K H a xs
 |false=>cE K H a xs
def nF(f:Bool)(it a:Addr)(i:Nat)(h:Heap):Prop:=match f with
 |true=>h.IsTupleIter it a i
 |false=>h.IsListIter it a i
def sC(f:Bool)(a:Addr)(items:Array Value)(h:Heap):Prop:=match f with
 |true=>h.IsTuple a items
 |false=>h.IsList a items
def Hf(f:Bool)(a:Addr):Obj:=match f with
 |true=>{cls:=.type "tuple_iterator",data:=.fields #[.ref a,.int 0 0]}
 |false=>{cls:=.type "list_iterator",data:=.fields #[.ref a,.int 0 0]}
section
variable{X:Cx}{AO:List (Addr×Obj)}{σ:St}{H:Hp}{s:aa}{a:Addr}{xs ys:List V}{f:Bool}
theorem aH.seqF(I:aH X AO σ H s)(h:jD f X.K H a xs):∃its:AG,bI xs its/\sC f a its.toArray s.heap/\xs.length<=sizeLine:=by
 cases f with
 |true=>
  obtain⟨its,r,p,z⟩:=I.tuple h;exact⟨its,r,p,z⟩
 |false=>
  obtain⟨its,r,p,z⟩:=I.list h;exact⟨its,r,p.isList,z⟩
theorem aH.seqF_inj(I:aH X AO σ H s)(h:jD f X.K H a xs)(h':jD f X.K H a ys):xs=ys:=by
 cases f with
 |true=>exact I.tuple_inj h h'
 |false=>exact I.list_inj h h'
theorem aH.apart{b:Addr}(I:aH X AO σ H s)(fb:fY X AO H b)(h:jD f X.K H a xs):a≠b:=by
 have viaK:∀{o:Obj},X.K.lookup a=some o->a≠b:=λ{o} q e=>by
  have hb:X.base.get? b=some o:=e▸I.ok.mod.kin a o q;rcases fb.2.2.2.1 with z |z
  .exact I.ok.noex b o hb z
  .exact absurd (de (bn (I.ok.bs b o hb).1) z) (iu _)
 cases f with
 |true=>
  rcases h with(h |⟨o,h⟩) |⟨o,_,_,q,_⟩
  .exact gI h fb.1
  .exact gI h fb.1
  .exact viaK q
 |false=>
  rcases h with(h |⟨o,h⟩) |⟨o,_,_,q,_⟩
  .exact gI h fb.1
  .exact gI h fb.1
  .exact viaK q
end
theorem wW{prog:Program}{w:am}{A:ao}(f:Bool)(hh:A.handled=none)(it a:Addr)(hne:a≠it)(items:Array Value):
  jq prog w A it [it,a] items.size (λi v=>items[i]?=some v) (λi h=>nF f it a i h/\sC f a items h):=by
 cases f with
 |true=>exact B7 hh it a hne items
 |false=>exact Draws.list hh it a hne items
theorem Er(f:Bool)(a:Addr)(items:Array Value):uK a (Hf f a) (sC f a items):=by
 cases f with
 |true=>exact λprog w A E s Q g q=>f6 g q
 |false=>exact λprog w A E s Q g q=>qk g q
theorem nF.keep{f:Bool}{it a:Addr}{i:Nat}{h h':Heap}(x:nF f it a i h)(k:∀o,h.get? it=some o->h'.get? it=some o):nF f it a i h':=by
 cases f with
 |true=>obtain⟨o,e,r⟩:=x;exact⟨o,k o e,r⟩
 |false=>obtain⟨o,e,r⟩:=x;exact⟨o,k o e,r⟩
theorem sC.keep{f:Bool}{a:Addr}{items:Array Value}{h h':Heap}(x:sC f a items h)(k:∀o,h.get? a=some o->h'.get? a=some o):sC f a items h':=by
 cases f with
 |true=>obtain⟨o,e,r⟩:=x;exact⟨o,k o e,r⟩
 |false=>obtain⟨o,e,r⟩:=x;exact⟨o,k o e,r⟩
theorem nF.obj{f:Bool}{it a:Addr}{i:Nat}{h:Heap}(x:nF f it a i h):∃o,h.get? it=some o/\∀v,o.data≠.cell v:=by
 cases f with
 |true=>obtain⟨o,e,_,d⟩:=x;exact⟨o,e,λv z=>by rw[d]at z;cases z⟩
 |false=>obtain⟨o,e,_,d⟩:=x;exact⟨o,e,λv z=>by rw[d]at z;cases z⟩
theorem Vi(f:Bool)(a it:Addr){h:Heap}(e:h.get? it=some (Hf f a)):nF f it a 0 h:=by
 cases f with
 |true=>exact⟨_,e,rfl,rfl⟩
 |false=>exact⟨_,e,rfl,rfl⟩
theorem Mk(f:Bool)(a:Addr):(Hf f a).isFreed=false:=by cases f<;>rfl
def Bu (K : ae) (f1 : Bool) (a : Addr) (f2 : Bool) (b : Addr) : It :=
  ⟨λi H => ∃ xs ys x y, jD f1 K H a xs ∧ jD f2 K H b ys ∧ xs[i]? = some x ∧ ys[i]? = some y,
   λi H v H' => ∃ p x y, H p = none ∧ v = .ref p ∧ H' = bK H p (.tup [x, y]) ∧ (∀ xs, jD f1 K H a xs → xs[i]? = some x) ∧ ∀ ys, jD f2 K H b ys → ys[i]? = some y,
   λi H => ∃ xs ys, jD f1 K H a xs ∧ jD f2 K H b ys ∧ (i = xs.length ∨ (i < xs.length ∧ i = ys.length))⟩
structure yA(z TI TO i1 i2:Addr):Prop where
 tiz:TI≠z
 toz:TO≠z
 i1z:i1≠z
 i2z:i2≠z
 tito:TI≠TO
 ti1:TI≠i1
 ti2:TI≠i2
 to1:TO≠i1
 to2:TO≠i2
 i12:i1≠i2
theorem yA.ap{z TI TO i1 i2 a b:Addr}(r:yA z TI TO i1 i2)(h:∀c∈[z,TI,TO,i1,i2],a≠c)(g:∀c∈[z,TI,TO,i1,i2],b≠c):uS z TI TO i1 i2 [i1,a] [i2,b] where
 tiz:=r.tiz
 toz:=r.toz
 tito:=r.tito
 ti1:=r.ti1
 ti2:=r.ti2
 z1:=λq=>by simp at q;rcases q with q |q;exact r.i1z q.symm;exact h z (by simp) q.symm
 z2:=λq=>by simp at q;rcases q with q |q;exact r.i2z q.symm;exact g z (by simp) q.symm
 to1:=λq=>by simp at q;rcases q with q |q;exact r.to1 q;exact h TO (by simp) q.symm
 to2:=λq=>by simp at q;rcases q with q |q;exact r.to2 q;exact g TO (by simp) q.symm
 i12:=λq=>by simp at q;rcases q with q |q;exact r.i12 q;exact g i1 (by simp) q.symm
 i21:=λq=>by simp at q;rcases q with q |q;exact r.i12 q.symm;exact h i2 (by simp) q.symm
 m1:=by simp
 m2:=by simp
theorem B5{P:Program}{w:am}{K:ae}{elts:List ag}{x1:Nat}{tp:ai}(f1 f2:Bool)(a b z TI TO i1 i2:Addr)(zr:yA z TI TO i1 i2):
  rS P w K (.Tuple elts x1 tp) (Bu K f1 a f2 b) [z,TI,TO,i1,i2] z (λi h=>gf h z TI TO .none/\dn h TI (.ref i1) (.ref i2)/\(∃u v,dn h TO u v)/\nF f1 i1 a i h/\nF f2 i2 b i h) where
 mem:=by simp
 obj:=λi h st c hc=>by
  obtain⟨e1,e2,⟨u,v,e3⟩,e4,e5⟩:=st;simp at hc;rcases hc with q |q |q |q |q
  .subst q
   exact⟨_,e1,λv z=>nomatch z⟩
  .subst q
   exact⟨_,e2,λv z=>nomatch z⟩
  .subst q
   exact⟨_,e3,λv z=>nomatch z⟩
  .subst q
   exact e4.obj
  .subst q
   exact e5.obj
 keep:=λi h h' st k=>by
  obtain⟨e1,e2,⟨u,v,e3⟩,e4,e5⟩:=st;exact⟨k z (by simp) _ e1,k TI (by simp) _ e2,⟨u,v,k TO (by simp) _ e3⟩,e4.keep λo q=>k i1 (by simp) o q,e5.keep λo q=>k i2 (by simp) o q⟩
 item:=by
  intro X hP hw hK hc i AO s σ H E I hf st hg;subst hP hw hK;obtain⟨xs,ys,x,y,hx,hy,ex,ey⟩:=hg;obtain⟨its,r1,p1,_⟩:=I.seqF hx;obtain⟨jts,r2,p2,_⟩:=I.seqF hy;obtain⟨ux,gx,rx⟩:=r1.get ex;obtain⟨uy,gy,ry⟩:=r2.get ey;obtain⟨e1,e2,⟨u,v,e3⟩,e4,e5⟩:=st;have na:∀c∈[z,TI,TO,i1,i2],a≠c:=λc hc=>I.apart (hf c hc) hx;have nb:∀c∈[z,TI,TO,i1,i2],b≠c:=λc hc=>I.apart (hf c hc) hy;have hd:X.A.in1.handled=none:=I.ok.hd hc;have D1:=wW (prog:=X.prog) (w:=X.w) f1 hd i1 a (na i1 (by simp)) its.toArray;have D2:=wW (prog:=X.prog) (w:=X.w) f2 hd i2 b (nb i2 (by simp)) jts.toArray;refine Gw D1 D2 (zr.ap na nb) e1 e2 e3 ⟨e4,p1⟩ ⟨e5,p2⟩ (da.mp gx).1 (da.mp gy).1 λh1 tk vx vy px py q1 q2 q3 q4 q5 k1=>⟨_,rfl,?_⟩;have ex':vx=ux:=by
   have:its[i]?=some vx:=by simpa using px
   rw[gx]at this;exact(cc this).symm
  have ey':vy=uy:=by
   have:jts[i]?=some vy:=by simpa using py
   rw[gy]at this;exact(cc this).symm
  subst ex' ey';have lt:∀c∈[z,TI,TO,i1,i2],c≠s.heap.objs.size:=λc hc=>by
   have:∃o,s.heap.get? c=some o:=by
    simp at hc;rcases hc with q |q |q |q |q
    .exact⟨_,q▸e1⟩
    .exact⟨_,q▸e2⟩
    .exact⟨_,q▸e3⟩
    .obtain⟨o,ho,_⟩:=e4.obj
     exact⟨o,q▸ho⟩
    .obtain⟨o,ho,_⟩:=e5.obj
     exact⟨o,q▸ho⟩
   obtain⟨o,ho⟩:=this;exact df (bn ho)
  refine wpAny_letOwnedTupleGo_zip (s:={s with heap:=h1,toks:=tk}) q1 λh2 z2 sb2=>?_;have t2:h2.get? s.heap.objs.size=some {cls:=.type "tuple",data:=.seq #[vx,vy]}:=(sb2.2 _ (lt z (by simp)).symm).trans q5;have I2:aH X AO σ (bK H s.heap.objs.size (.tup [x,y])) {s with heap:=h2,toks:=tk}:=
   I.turnedNew hf (λc o hc q=>(sb2.2 c (λe=>hc (by simp[e]))).trans (k1 c o (λe=>hc (by simp[e])) (λe=>hc (by simp[e])) (λe=>hc (by simp[e])) (λe=>hc (by simp[e])) q)) (aq _)
    ⟨⟨by show 2<=sizeLine;decide,_,t2,rfl⟩,[vx,vy],.cons rx (.cons ry .nil),⟨_,t2,rfl,_,rfl⟩⟩
  refine⟨.ref s.heap.objs.size,_,I2,rfl,⟨_,x,y,I.hok.fresh (aq _),rfl,rfl,λzs hz=>by rw[I.seqF_inj hz hx];exact ex,λzs hz=>by rw[I.seqF_inj hz hy];exact ey⟩,
   ⟨z2,(sb2.2 _ zr.tiz).trans (k1 _ _ zr.tiz zr.tito zr.ti1 zr.ti2 e2),⟨_,_,(sb2.2 _ zr.toz).trans q2⟩,q3.1.keep λo q=>(sb2.2 _ zr.i1z).trans q,q4.1.keep λo q=>(sb2.2 _ zr.i2z).trans q⟩,λc hc=>?_⟩
  rw[dD (lt c hc)];exact(hf c hc).1
 done:=by
  intro X hP hw hK hc i AO s σ H E I hf st hg;subst hP hw hK;obtain⟨xs,ys,hx,hy,fin⟩:=hg;obtain⟨its,r1,p1,_⟩:=I.seqF hx;obtain⟨jts,r2,p2,_⟩:=I.seqF hy;have l1:=r1.length;have l2:=r2.length;obtain⟨e1,e2,⟨u,v,e3⟩,e4,e5⟩:=st;have na:∀c∈[z,TI,TO,i1,i2],a≠c:=λc hc=>I.apart (hf c hc) hx;have nb:∀c∈[z,TI,TO,i1,i2],b≠c:=λc hc=>I.apart (hf c hc) hy;have hd:X.A.in1.handled=none:=I.ok.hd hc;have D1:=wW (prog:=X.prog) (w:=X.w) f1 hd i1 a (na i1 (by simp)) its.toArray;have D2:=wW (prog:=X.prog) (w:=X.w) f2 hd i2 b (nb i2 (by simp)) jts.toArray;refine Ru D1 D2 (zr.ap na nb) e1 e2 e3 ⟨e4,p1⟩ ⟨e5,p2⟩ (by rw[ar,ar,<-l1,<-l2];exact fin) λh' tk k=>⟨rfl,?_⟩;exact I.turnedL hf λc o hc q=>k c o (λe=>hc (by simp[e])) (λe=>hc (by simp[e])) (λe=>hc (by simp[e])) (λe=>hc (by simp[e])) q
 self:=λ_ _ _ _ _ st h=>wpAny_pyIter_zip st.1 h
section
variable{X:Cx}{elts:List ag}{x1:Nat}{tp:ai}
def adt(K:ae)(tl:TA):TI:=λσ H R=>tl σ H λvs H1=>∃f1 a f2 b xs ys,vs=[.ref a,.ref b]/\jD f1 K H1 a xs/\jD f2 K H1 b ys/\R (Bu K f1 a f2 b) H1
theorem abA{l r:ag}{tl:TA}{p pos:ai}(hg:Gl X "zip")(hm:X.mg "zip"=none)(hl:PA X [l,r] tl)(hs:starEach [l,r] X.env=[(false,eval l X.env),(false,eval r X.env)]:=by rfl)(hs2:starEach [r] X.env=[(false,eval r X.env)]:=by rfl):
  PI X (.Tuple elts x1 tp) (.Call (.Name "zip" p) [l,r] [] pos) (adt X.K tl):=by
 intro AO s σ H R I h;refine Call_ (pN I hg hm boot_zip (qa (bO (hl pos AO s σ H _ I h) λus s1 hq=>?_) (by rw[hs,hs2]) (by rw[hs2];rfl)));rcases hq with⟨vs,H1,I1,r1,q1⟩;obtain⟨f1,a,f2,b,xs,ys,rfl,hx,hy,q⟩:=q1;obtain⟨u,v,rfl,ru,rv⟩:=Mr r1;cases ru;cases rv;obtain⟨its,_,p1,_⟩:=I1.seqF hx;obtain⟨jts,_,p2,_⟩:=I1.seqF hy;refine Kv (Er f1 a its.toArray) (Er f2 b jts.toArray) (λh g=>g.keep λo z=>ay _ z) p1 p2 (Mk _ _) (Mk _ _) λh' e1 e2 e3 e4 e5 k=>?_;refine wpAny_pyIter_zip (s:={s1 with heap:=h'}) e1 ?_;have zr:yA (s1.heap.objs.size+4) (s1.heap.objs.size+2) (s1.heap.objs.size+3) s1.heap.objs.size (s1.heap.objs.size+1):=by
  generalize s1.heap.objs.size=n;have g:∀i j:Nat,i≠j->((n:Nat)+i:Nat)≠n+j:=λi j h=>by omega
  exact⟨g 2 4 (by decide),g 3 4 (by decide),g 0 4 (by decide),g 1 4 (by decide),g 2 3 (by decide),g 2 0 (by decide),g 2 1 (by decide),g 3 0 (by decide),g 3 1 (by decide),g 0 1 (by decide)⟩
 refine⟨_,[s1.heap.objs.size+4,s1.heap.objs.size+2,s1.heap.objs.size+3,s1.heap.objs.size,s1.heap.objs.size+1],_,_,H1,rfl,I1.kept (t':=s1.toks) k,B5 f1 f2 a b _ _ _ _ _ zr,⟨e1,e2,⟨_,_,e3⟩,Vi f1 a _ e4,Vi f2 b _ e5⟩,λc hc=>?_,q⟩;have hb:s1.heap.objs.size<=c:=by
  simp only[bo,cf,or_false]at hc;rcases hc with q |q |q |q |q
  all_goals rw[q]
  all_goals first |exact aq _ |exact Nat.le_add_right _ _
 exact I1.fpOk hb (I1.hok.fresh hb)
end
theorem aaK(K:ae):ka K (.type "int") (.type "bool")=some false:=by
 unfold ka f7;rw[if_neg (by decide)];show(if g5 "bool"=true then g6 K (.type "int") (.type "bool")else none)=some false;rw[if_pos (by decide+kernel)];show(fastBuiltinMro "int").map (·.contains (.type "bool"))=some false;decide+kernel
structure mT(K:ae)(x qual:Str)(st:Stmt)(f:Addr)(fd:br)(ds:Array Value):Prop where
 ex:∃(oc:Value)(od:AI)(T:Addr)(oT:Obj)(n:Nat)(kV doc pm:Value)(an:AI)(cdv ct:Value)(osl:Array AH),
  fd=dy x qual (gJ st) (fB st) (cV st) (.ref T) kV doc pm an cdv ct/\K.lookup f=some ⟨oc,od,.func fd,osl⟩/\jo K cdv qual=true/\K.lookup T=some oT/\oT.data=.seq ds n
 kp:dq K (.ref f)=true
section
variable{P:Program}{w:am}{K:ae}{mg:Str->AH}{base:Heap}
theorem mT.binds{x qual:Str}{st:Stmt}{f:Addr}{fd:br}{ds:Array Value}{ps:List Str}{dd:AG}(F:mT K x qual st f fd ds)
  (h:∀(T:Addr)(kV doc pm:Value)(an:AI)(cdv ct:Value)(us:AG),(us++dd).length=ps.length->
   ∃k,bindArgs (dy x qual (gJ st) (fB st) (cV st) (.ref T) kV doc pm an cdv ct) ⟨us,[]⟩=seqItems? (.ref T) >>= k/\k (some ds)=pure (ps.zip (us++dd))):gO K fd ps dd:=by
 obtain⟨oc,od,T,oT,n,kV,doc,pm,an,cdv,ct,osl,rfl,lk,hcd,lT,hT⟩:=F.ex;intro s us hK hl;obtain⟨k,h1,h2⟩:=h T kV doc pm an cdv ct us hl;exact PySem.W.binds_K hK rfl lT hT h1 h2
theorem Gm{x qual:Str}{st:Stmt}{f T:Addr}{oT:Obj}{n:Nat}{ds:Array Value}{oc:Value}{od an:AI}{osl:Array AH}{kV doc pm cdv ct:Value}(l:K.lookup f=some ⟨oc,od,.func (dy x qual (gJ st) (fB st) (cV st) (.ref T) kV doc pm an cdv ct),osl⟩)
  (c:jo K cdv qual=true)(k:dq K (.ref f)=true)(lT:K.lookup T=some oT)(hT:oT.data=.seq ds n):mT K x qual st f (dy x qual (gJ st) (fB st) (cV st) (.ref T) kV doc pm an cdv ct) ds:=
 ⟨⟨oc,od,T,oT,n,kV,doc,pm,an,cdv,ct,osl,rfl,l,c,lT,hT⟩,k⟩
end
theorem Ip{X:Cx}{sc:Scope}{own:List Str}{cap:List (Nat×Str)}(so:Scope)(N:List Str)(hso:X.env.scope=so)(hN:X.N=N)(kind:sc.kind=.function)(names:∀y∈sc.names,y.2=.local->sc.names.lookup y.1=some .local)
  (nocell:∀y∈sc.names,y.2≠.cell)(free:∀y∈sc.names,y.2=.free->so.names.lookup y.1=some .cell)(at':∀p∈cap,N[p.1]?=some p.2)(hcap:∀p∈cap,sc.names.lookup p.2=some .free):iM X sc own cap:=
 ⟨kind,names,nocell,λy hy e=>by show X.env.scope.names.lookup y.1=_;rw[hso];exact free y hy e,λp hp=>by rw[hN];exact at' p hp,hcap⟩
theorem Kb(n d:Nat):HT.sIx (n+1) d (some (-1))=n:=by
 unfold HT.sIx;simp;omega
section
variable{X:Cx}
end
theorem fP.has{P:Program}{w:am}{H:Hp}{h:Heap}{a:Addr}{o:HO}(x:fP P w H h a o):∃u,h.get? a=some u:=by
 cases o with
 |lst xs=>obtain⟨_,_,_,_,e⟩:=x;exact⟨_,e⟩
 |tup xs=>obtain⟨_,_,_,u,e,_⟩:=x;exact⟨u,e⟩
 |dK kvs=>obtain⟨_,_,_,_,o,_,_,e,_⟩:=x;exact⟨_,e⟩
 |dT kvs=>obtain⟨_,_,_,_,o,_,_,e,_⟩:=x;exact⟨_,e⟩
 |set S n=>obtain⟨o,_,_,_,e,_⟩:=x;exact⟨_,e⟩
 |ins C dx fs=>obtain⟨_,_,_,e,_⟩:=x;exact⟨_,e⟩
 |own y=>exact x
 |xd fs=>obtain⟨_,⟨_,_,_,e,_⟩,_⟩:=x;exact⟨_,e⟩
 |rng lo hi=>obtain⟨_,_,_,e⟩:=x;exact⟨_,e⟩
 |frz ob u=>obtain⟨e,_⟩:=x;exact⟨_,e⟩
 |tbl ps=>exact⟨_,show h.get? a=some _ from x⟩
 |met f y=>exact⟨_,show h.get? a=some _ from x⟩
 |ext φ=>exact x.2.1
abbrev iV:AG:=[.type "ValueError",.type "Exception",.type "BaseException",.type "object"]
theorem Zn{K:ae}{h:Heap}{C:Addr}{bmB:AG}{newId:String}(X:K.In h)(q:gg K C bmB newId=true):
  ∃bm N nm qn bs hdct sn sub ab col dd k0 k1 k2 k3 k5 mN,h.get? C=some (excClassObj nm qn C N bs bm hdct sn sub ab col dd k0 k1 k2 k3 k5 newId)/\h.Ns N mN/\mN "__init__"=none/\OwnTail h bmB bm:=by
 unfold gg at q;split at q
 .rename_i dd cd sl ho
  split at q
  .rename_i C' bm k0 k1 k2 k3 n k5 hm hs
   simp only[fh,beq_iff_eq,g7]at q;obtain⟨⟨⟨⟨⟨z1,z2⟩,hdel⟩,ht⟩,hok⟩,hni⟩:=q;subst z1 z2;obtain⟨nm,bs,mro,ns,qn,hd,sn,sub,ab,col,del⟩:=cd;dsimp only at hm hdel hok hni;subst hm hdel;have hsl:sl=#[k0,k1,k2,k3,some (.builtin n),k5]:=by
    obtain⟨l⟩:=sl;simp only at hs;rw[hs]
   subst hsl;refine⟨bm,ns,nm,qn,bs,hd,sn,sub,ab,col,dd,k0,k1,k2,k3,k5,_,X _ _ ho,.of_isNs (PySem.W.isNs_of_in X hok),PySem.W.nsMap_none_of_in X hok hni,PySem.W.tail_of_in X ht⟩
  .cases q
 .cases q
def dA(P:Program)(w:am):jA:=λouter H s E e s'=>∃(x C t:Addr)(B:Heap)(H':Hp),e=.ref x/\s'.os=s.os/\jd s'.gens/\Un (dS outer) [] H H' s.heap s'.heap/\fJ P w H' s'.heap/\
 Heap.FlyingW B outer x (.ref C) (.ref t) s'.heap/\(∀b o,s'.heap.get? b=some o->(∃u,H' b=some u)\/(∃o',s.heap.get? b=some o'/\b∉dS outer)->B.get? b=some o)/\E (.ref C) none H'
theorem J7{P:Program}{w:am}{K:ae}{mg:Str->AH}{base:Heap}{N:List Str}{qual:Str}{scope:Scope}{f:Addr}{cd:Value}{A:ao}{outer:List bi}{AQ:aa}{AR:Hp}{E:XK}
  {x:Str}{C:Addr}{txt:Str}{j:Nat}{np p1 cpos pos:ai}(hg:Gl (dF (dA P w) P w K mg base N qual scope f cd A outer AQ AR E) x)(hm:mg x=some (.ref C))(hx:gg K C iV "ValueError.__new__"=true)
  (hd:(x==("__debug__":Str))=false:=by decide):
  PS (dF (dA P w) P w K mg base N qual scope f cd A outer AQ AR E) (.Raise (some (.Call (.Name x np) [.Constant (.str txt) j p1] [] cpos)) none pos) (λ_ _ H=>E (.ref C) none H):=by
 intro AO s σ H D I h;obtain⟨bm,Nn,nm,qn,bs,hdct,sn,sub,ab,col,dd,k0,k1,k2,k3,k5,mN,hC,hN,hni,T⟩:=Zn I.ok.mod.kin hx;refine wpAny_Raise_call_subT (C:=C) (nm:=nm) (q:=qn) (N:=Nn) (bs:=bs) (bm:=bm) (hdct:=hdct) (sn:=sn) (sub:=sub) (ab:=ab) (col:=col) (dd:=dd) (k0:=k0) (k1:=k1) (k2:=k2) (k3:=k3) (k5:=k5)
  PySem.F.excBase_ValueError (mN:=mN) (T.hasType (by decide)) (I.ok.hd rfl) rfl hni (wT I hg hm ⟨rfl,?_⟩ hd)
 refine zf (bO ((nR abD tT) cpos AO s σ H (λvs H1=>vs=[.str txt]/\H1=H) I ⟨rfl,rfl⟩) λus s2 q2=>?_);obtain⟨vs,H2,I2,r2,rfl,rfl⟩:=q2;have l2:=r2.length;refine⟨rfl,by rw[<-l2];show 1<=sizeLine;decide,I2.bk _ _ hC,hN.keeps I2.bk,T.keeps I2.bk,λh' e made=>?_⟩
 --the frame is left
 have stk:(dF (dA P w) P w K mg base N qual scope f cd A outer AQ AR E).stack=envOfC qual scope AQ.heap.objs.size f cd::outer:=rfl;have nfr:∀{b u},H2 b=some u->b∉dS (envOfC qual scope AQ.heap.objs.size f cd::outer):=λ{b u} q z=>by
  rw[I2.stkFree b z]at q;cases q
 have nL:∀{b o},AQ.heap.get? b=some o->b∉dS outer->b∉dS (envOfC qual scope AQ.heap.objs.size f cd::outer):=λ{b o} q z y=>by
  rcases bo.mp (I2.stkSub b y)with g |g
  .exact absurd (de (bn q) I2.ok.above) (by rw[g];exact iu _)
  .exact z g
 refine wpAny_leaves_madeW (base:=ut s2.heap (dS (envOfC qual scope AQ.heap.objs.size f cd::outer))) (h:=s2.heap) (s:={s2 with heap:=h'}) I2.ok.frames rfl (λb o q=>yh _ q)
  (PySem.W.funFrames_hide I2.stack λenv he b hb=>ve.mpr ⟨env,he,hb⟩) made λh'' t fl tup nb ups=>?_
 have keepB:∀b o,s2.heap.get? b=some o->b∉dS (envOfC qual scope AQ.heap.objs.size f cd::outer)->h''.get? b=some o:=λb o q z=>fl.1 b o (uu _ q z);have upS:∀b o,s2.heap.get? b=some o->(∀vs,o.data≠.fields vs)->∃sl,h''.get? b=some {o with slots:=sl}:=λb o q z=>ups b o (made.keeps b o q) z;refine⟨e,C,t,_,H2,rfl,I2.os,I2.bare,⟨λb o q n hb _=>?_,λb o q n hb _=>?_,λb o q n _=>I2.base.free b o q n (by intro z;cases z),λb o q _=>?_,I2.base.tups,I2.base.frzs,I2.base.tbls⟩,λb u q=>?_,fl,λb o q z=>?_,h⟩
 .exact keepB b o (I2.base.keep b o q n hb (by intro z;cases z)) (nL q hb)
 .obtain⟨sl,g⟩:=I2.base.slot b o q n hb (by intro z;cases z)
  obtain⟨_,o',ho',hd'⟩:=I2.ok.funs.mem hb;have eo:o'=o:=by
   have ho2:AQ.heap.get? b=some o':=ho';rw[q]at ho2;exact(cc ho2).symm
  subst eo;obtain⟨sl',g'⟩:=upS b _ g hd';exact⟨sl',g'⟩
 .obtain⟨o',g⟩:=I2.base.there b o q (by intro z;cases z)
  by_cases c:b∈dS (envOfC qual scope AQ.heap.objs.size f cd::outer)
  .obtain⟨_,o2,ho2,hd2⟩:=I2.stack.mem c
   obtain⟨sl,g'⟩:=upS b o2 ho2 hd2;exact⟨_,g'⟩
  .exact⟨o',keepB b o' g c⟩
 .refine(I2.hok b u q).stay (λc v hc g=>keepB c v g ?_) (λ_ g=>g) λ_ _ g=>g
  rcases hc with z |z
  .rw[z]
   exact nfr q
  .exact nfr z
 .have go:∀{o2},s2.heap.get? b=some o2->b∉dS (envOfC qual scope AQ.heap.objs.size f cd::outer)->(ut s2.heap (dS (envOfC qual scope AQ.heap.objs.size f cd::outer))).get? b=some o:=λ{o2} g n=>by
   have:=keepB b o2 g n;have q':h''.get? b=some o:=q;rw[q']at this;cases this;exact uu _ g n
  rcases z with⟨u,z⟩|⟨o',z,nz⟩
  .obtain⟨o2,g⟩:=(I2.hok b u z).has
   exact go g (nfr z)
  .obtain⟨o2,g⟩:=I2.base.there b o' z (by intro z;cases z)
   exact go g (nL z nz)
section
variable{X:Cx}{AO:List (Addr×Obj)}{σ:St}{H H':Hp}{s s':aa}
theorem aH.flown{B h5:Heap}(I:aH X AO σ H s)(os:s'.os=s.os)(bare:jd s'.gens)(un:Un (dS X.stack) [] H H' s.heap s'.heap)(hok:fJ X.prog X.w H' s'.heap)
  (cov:∀b o,s'.heap.get? b=some o->(∃u,H' b=some u)\/(∃o',s.heap.get? b=some o'/\b∉dS X.stack)->B.get? b=some o)(fr:∀b∈dS X.stack,H' b=none)
  (st:B.StaysIn h5)(up:s'.heap.UpToSlots h5):aH X AO σ H' {s' with heap:=h5}:=by
 have nofr:∀{b u},H' b=some u->b∉dS X.stack:=λ{b u} q z=>by
  rw[fr b z]at q;cases q
 have frame:∀b∈dS X.stack,∃o sl,s.heap.get? b=some o/\H b=none/\h5.get? b=some {o with slots:=sl}:=λb hb=>by
  obtain⟨_,o,ho,hd⟩:=I.stack.mem hb;have hn:=I.stkFree b hb;obtain⟨sl,g⟩:=un.slot b o ho hn hb (by intro z;cases z);obtain⟨sl',g'⟩:=up b _ g hd;exact⟨o,sl',ho,hn,g'⟩
 refine I.call' (s':={s' with heap:=h5}) (ch:=[]) os ⟨λb o q n hb _=>?_,λb o q n hb _=>?_,un.free,λb o q _=>?_,un.tups,un.frzs,un.tbls⟩ (λb u q=>?_) bare λb z=>nomatch z
 .exact st b o (cov b o (un.keep b o q n hb (by intro z;cases z)) (.inr ⟨o,q,hb⟩))
 .obtain⟨o',sl,g1,_,g2⟩:=frame b hb
  rw[q]at g1;cases g1;exact⟨sl,g2⟩
 .by_cases c:b∈dS X.stack
  .obtain⟨o',sl,_,_,g2⟩:=frame b c
   exact⟨_,g2⟩
  .obtain⟨o',g⟩:=un.there b o q (by intro z;cases z)
   exact⟨o',st b o' (cov b o' g (.inr ⟨o,q,c⟩))⟩
 .refine(hok b u q).stay (λc v hc g=>st c v (cov c v g (.inl ?_))) (λ_ g=>g) λ_ _ g=>g
  rcases hc with z |z
  .exact⟨u,by rw[z];exact q⟩
  .exact⟨_,z⟩
end
section
variable{X:Cx}{k:Nat}{f:Addr}{fd:br}{ps:List Str}{sp:Sp}{dvs:List V}{ds:AG}{E:XK}{x:Str}{p pos:ai}{e:ag}{es:List ag}{t:TA}
theorem N5{AO:List (Addr×Obj)}{σ:St}{H:Hp}{s:aa}{Q:VK}{us:AG}{vs:List V}{Ex:Value->aa->Prop}(F:eD X.prog X.w X.K X.mg X.base (dA X.prog X.w) k f fd ps sp)(hr:dQ k X.A)(hb:gO X.K fd ps ds)(hd:bI dvs ds)
  (I:aH X AO σ H s)(r:bI vs us)(h:sp (vs++dvs) H Q E)(hx:∀e s',dA X.prog X.w X.stack H s E e s'->Ex e s'):wpAny (model X.prog X.w) X.A (call (.ref f) us) (EP X AO σ Q) Ex s:=by
 have r2:bI (vs++dvs) (us++ds):=r.append hd;have hl:(us++ds).length=ps.length:=by rw[<-r2.length];exact F.len _ _ _ _ h
 refine wpAny_call (qe (F.run X.A X.stack s H ⟨us,[]⟩ (us++ds) (vs++dvs) Q E hr I.env0 (hb s us I.kIn hl) r2 h) λrr s' hq=>?_);cases rr with
 |error e=>exact hx e s' hq
 |ok fl=>
  cases fl with
  |ret u=>exact I.after hq
  |next=>exact ia hq
  |brk=>exact ia hq
  |cont=>exact ia hq
theorem F3{AO:List (Addr×Obj)}{σ:St}{H:Hp}{s:aa}{Q:VK}{Ex:Value->aa->Prop}(hxe:X.xe=λ_ _=>False)(F:eD X.prog X.w X.K X.mg X.base (dA X.prog X.w) k f fd ps sp)(hr:dQ k X.A)(hg:Gl X x)(hm:X.mg x=some (.ref f))(hk:dq X.K (.ref f)=true)
  (hb:gO X.K fd ps ds)(hd:bI dvs ds)(ha:PA X (e::es) t)(I:aH X AO σ H s)(h:t σ H λvs H1=>sp (vs++dvs) H1 Q E)
  (hx:∀s1 H1 e s',aH X AO σ H1 s1->dA X.prog X.w X.stack H1 s1 E e s'->Ex e s')
  (hdb:(x==("__debug__":Str))=false:=by decide)(he:starEach (e::es) X.env=(false,eval e X.env)::starEach es X.env:=by rfl)(hpl:(backTo pos (starEach es X.env)).any (·.1)=false:=by rfl):
  wpAny (model X.prog X.w) X.A (eval (.Call (.Name x p) (e::es) [] pos) X.env) (EP X AO σ Q) Ex s:=by
 refine rk (wT I hg hm ?_ hdb);refine yt (h₀:=X.base) I.ok.mod.kin hk (iy (ha pos AO s σ H _ I h) (λus s1 q1=>?_) λ_ _ z=>?_) he hpl
 .obtain⟨vs,H1,I1,r,q⟩:=q1
  exact⟨I1.kIn,N5 F hr hb hd I1 r q λe s' c=>hx s1 H1 e s' I1 c⟩
 .rw[hxe]at z
  exact z.elim
end
section
variable{P:Program}{w:am}{K:ae}{mg:Str->AH}{base:Heap}{CX:jA}
theorem jB.okX{x qual:Str}{st:Stmt}{f:Addr}{fd:br}{N ps:List Str}{k:Nat}{sp:Sp}(F:jB K x qual st f fd)(S:jI N ps (cV st))(len:∀vs H Q E,sp vs H Q E->vs.length=ps.length)
  (hbody:∀(cdv:Value)(A:ao)(outer:List bi)(s:aa)(H:Hp)(vs:List V)(Q:VK)(E:XK),dQ k (A.deeper (envOfC qual (cV st) s.heap.objs.size f cdv))->sp vs H Q E->
   ∃t,fF (dF CX P w K mg base N qual (cV st) f cdv A outer s H E) (fB st) t/\t {nx:=λ_ H'=>Q .non H',rt:=Q} (start N vs) H):eD P w K mg base CX (k+1) f fd ps sp:=by
 obtain⟨oc,od,kV,doc,pm,an,cdv,ct,osl,rfl,lk,hcd⟩:=F.ex;exact Be lk hcd S len λA outer s H vs Q E hr hsp=>hbody cdv A outer s H vs Q E hr hsp
theorem mT.okX{x qual:Str}{st:Stmt}{f:Addr}{fd:br}{ds:Array Value}{N ps:List Str}{k:Nat}{sp:Sp}(F:mT K x qual st f fd ds)(S:jI N ps (cV st))(len:∀vs H Q E,sp vs H Q E->vs.length=ps.length)
  (hbody:∀(cdv:Value)(A:ao)(outer:List bi)(s:aa)(H:Hp)(vs:List V)(Q:VK)(E:XK),dQ k (A.deeper (envOfC qual (cV st) s.heap.objs.size f cdv))->sp vs H Q E->
   ∃t,fF (dF CX P w K mg base N qual (cV st) f cdv A outer s H E) (fB st) t/\t {nx:=λ_ H'=>Q .non H',rt:=Q} (start N vs) H):eD P w K mg base CX (k+1) f fd ps sp:=by
 obtain⟨oc,od,T,oT,n,kV,doc,pm,an,cdv,ct,osl,rfl,lk,hcd,_,_⟩:=F.ex;exact Be lk hcd S len λA outer s H vs Q E hr hsp=>hbody cdv A outer s H vs Q E hr hsp
end
theorem acD{P:Program}{w:am}{K:ae}{mg:Str->AH}{base:Heap}{N:List Str}{qual:Str}{scope:Scope}{f:Addr}{cd:Value}{A:ao}{outer:List bi}{AQ:aa}{AR:Hp}{E:XK}:
  xO (dA P w) (dF (dA P w) P w K mg base N qual scope f cd A outer AQ AR E) E:=by
 intro AO σ H s e s' I c;obtain⟨x,C,t,B,H',rfl,os,bare,un,hok,fl,cov,hE⟩:=c;have fr:∀b∈dS (dF (dA P w) P w K mg base N qual scope f cd A outer AQ AR E).stack,H' b=none:=λb hb=>by
  obtain⟨_,o,ho,hd⟩:=I.stack.mem hb;exact un.free b o ho (I.stkFree b hb) (by intro z;cases z)
 have nL:∀{b o},AQ.heap.get? b=some o->b∉dS outer->b∉dS (envOfC qual scope AQ.heap.objs.size f cd::outer):=λ{b o} q z y=>by
  rcases bo.mp (I.stkSub b y)with g |g
  .exact absurd (de (bn q) I.ok.above) (by rw[g];exact iu _)
  .exact z g
 refine wpAny_leaves_onW (base:=B) I.ok.frames rfl fl λh' fl' up=>?_;have I5:=I.flown os bare un hok cov fr fl'.1 up;refine⟨x,C,t,B,H',rfl,os.trans I.os,bare,I5.base,I5.hok,fl',λb o q z=>?_,hE⟩;have go:∀{o2},B.get? b=some o2->B.get? b=some o:=λ{o2} g=>by
  have:=fl'.1 b o2 g;have q':h'.get? b=some o:=q;rw[q']at this;cases this;exact g
 rcases z with⟨u,z⟩|⟨o',z,nz⟩
 .obtain⟨o2,g⟩:=(hok b u z).has
  exact go (cov b o2 g (.inl ⟨u,z⟩))
 .obtain⟨o2,g⟩:=I.base.there b o' z (by intro z;cases z)
  obtain⟨o3,g3⟩:=un.there b o2 g (by intro z;cases z);exact go (cov b o3 g3 (.inr ⟨o2,g,nL z nz⟩))
section
variable{X:Cx}{AO:List (Addr×Obj)}{σ:St}{H:Hp}{s:aa}
end
abbrev Cx.mk1(X:Cx)(x:Addr)(l:List (Addr×Obj)):Cx:={X with A:=X.A.mark (some (.ref x)),calm:=false,pn:=l++X.pn,xe:=λ_ _=>False}
section
variable{X:Cx}{AO:List (Addr×Obj)}{σ:St}{H:Hp}{s:aa}
theorem Cx.Ok.mk1(ok:X.Ok)(x:Addr)(l:List (Addr×Obj)):(X.mk1 x l).Ok:=
 ⟨ok.mod,ok.kind,ok.glob,ok.blt,ok.above,ok.inj,ok.has,ok.cab,λz=>(by cases z),ok.frames,ok.stk,ok.exf,ok.bs,ok.bsz,ok.noex,ok.exfs,ok.funs,ok.frf⟩
theorem aH.mk1(I:aH X AO σ H s)(x:Addr)(l:List (Addr×Obj))(h:∀p∈l,s.heap.get? p.1=some p.2/\H p.1=none/\p.1≠X.env.locals/\p.1∉X.fs/\∀v,p.2.data≠.cell v):aH (X.mk1 x l) AO σ H s:=
 ⟨I.ok.mk1 x l,I.os,I.bare,I.base,I.loc,I.cell,I.free,I.freeC,λp hp=>by
  rw[jr]at hp;exact(dj.mp hp).elim (h p) (I.pin p),I.hok,I.len⟩
theorem aH.unmk1{x:Addr}{l:List (Addr×Obj)}(ok:X.Ok)(I:aH (X.mk1 x l) AO σ H s):aH X AO σ H s:=
 ⟨ok,I.os,I.bare,I.base,I.loc,I.cell,I.free,I.freeC,λp hp=>I.pin p (by rw[jr];exact dz _ hp),I.hok,I.len⟩
end
theorem Lo{a b c:Heap}(h1:a.UpToSlots b)(h2:b.UpToSlots c):a.UpToSlots c:=λx o q d=>by
 obtain⟨sl,g⟩:=h1 x o q d;obtain⟨sl',g'⟩:=h2 x _ g d;exact⟨sl',g'⟩
section
variable{X:Cx}{k:Nat}{f:Addr}{fd:br}{ps:List Str}{sp:Sp}{dvs:List V}{ds:AG}{x:Str}{p pos pos1 pos2 pos3 pc:ai}{e:ag}{es:List ag}{t:TA}{c n:Str}{C:Addr}{i:Nat}{AU:Stmt}{body:List Stmt}{newId:String}
end
open PySem.W PySem.Calls PySem.Builtin PySem.Builtin.Getset_descriptor
section
variable{prog:Program}{w:am}{A:ao}{E:Value->aa->Prop}{s:aa}{K:ae}{x D:Addr}{B:String}{R:qd->aa->Prop}
end
section
variable{X:Cx}{y D:Addr}{oe:Obj}
end
def hF(l:AB):Int:=reduceHash (g8 (l.map hashInt))
def hN(l:AE):Int:=reduceHash (g8 (l.map hF))
section
variable{prog:Program}{w:am}{A:ao}{E:Value->aa->Prop}{s:aa}{h h':Heap}{a b d:Addr}
end
def rT:Bool->Type
 |false=>AB
 |true=>AE
instance decK:(n:Bool)->DecidableEq (rT n)
 |false=>inferInstanceAs (DecidableEq AB)
 |true=>inferInstanceAs (DecidableEq AE)
def acM:(n:Bool)->rT n->Int
 |false=>hF
 |true=>hN
end L2
namespace L2.Pp
open PySem PySem.Spec PyProof.Rows Bn
section
inductive PV where
 |non |bl (b:Bool) |int (i:Int) |str (x:Str) |tup (xs:List PV) |lst (xs:List PV)
abbrev AK:=List PV
abbrev AL:=Option PV
inductive SO where
 |lst (xs:AK)
 |lol (xss:List AK)
 |dic (n:Bool) (kvs:List (PV×PV))
 |dol (n:Bool) (kvs:List (PV×AK))
abbrev aG:=List SO
inductive AV where
 |pv (v:PV) |ref (k:Nat)
abbrev AM:=Option AV
abbrev AN:=List AV
abbrev bY:=List AM
inductive cD(α:Type) where
 |ok (a:α) (S:aG) |exc (n:Str) (S:aG) |fail
def cD.bind{α β:Type}(r:cD α)(k:α->aG->cD β):cD β:=match r with
 |.ok a S=>k a S
 |.exc n S=>.exc n S
 |.fail=>.fail
inductive cP where
 |nx (ρ:bY) (S:aG) |rt (v:AV) (S:aG) |bk (ρ:bY) (S:aG) |ct (ρ:bY) (S:aG) |exc (n:Str) (S:aG) |fail
def kL(K:ae)(c:Addr->Prop)(H:Hp)(a:Addr)(vs:List V):Prop:=
 (H a=some (.lst vs)/\¬c a)\/(∃o,H a=some (.frz o (.lst vs)))\/
  ∃(o:Obj)(its:Array Value)(n:Nat),K.lookup a=some o/\o.cls=.type "list"/\o.dict=none/\o.data=.seq its n/\its.size<=sizeLine/\bI vs its.toList
theorem kL.sq{K:ae}{c:Addr->Prop}{H:Hp}{a:Addr}{vs:List V}(h:kL K c H a vs):cE K H a vs:=by
 rcases h with h |h |h
 .exact .inl (.inl h.1)
 .exact .inl (.inr h)
 .exact .inr h
mutual
def aW(K:ae)(c:Addr->Prop)(H:Hp):PV->V->Prop
 |.non,x=>x=.non
 |.bl b,x=>x=.bl b
 |.int i,x=>x=.int i
 |.str s,x=>x=.str s
 |.tup xs,x=>∃a vs,x=.ref a/\dJ K H a vs/\vs.length<=sizeLine/\aU K c H xs vs
 |.lst xs,x=>∃a vs,x=.ref a/\kL K c H a vs/\vs.length<=sizeLine/\aU K c H xs vs
def aU(K:ae)(c:Addr->Prop)(H:Hp):AK->List V->Prop
 |[],vs=>vs=[]
 |p::ps,vs=>∃v r,vs=v::r/\aW K c H p v/\aU K c H ps r
end
section
variable{K:ae}{c c':Addr->Prop}{H H':Hp}
mutual
theorem aW.mono(hT:∀a vs,dJ K H a vs->dJ K H' a vs)(hL:∀a vs,kL K c H a vs->kL K c' H' a vs):∀(v:PV)(x:V),aW K c H v x->aW K c' H' v x
 |.non,x,h=>h
 |.bl b,x,h=>h
 |.int i,x,h=>h
 |.str s,x,h=>h
 |.tup xs,x,h=>by
  unfold aW at h⊢;obtain⟨a,vs,e,t,z,r⟩:=h;exact⟨a,vs,e,hT a vs t,z,aU.mono hT hL xs vs r⟩
 |.lst xs,x,h=>by
  unfold aW at h⊢;obtain⟨a,vs,e,t,z,r⟩:=h;exact⟨a,vs,e,hL a vs t,z,aU.mono hT hL xs vs r⟩
theorem aU.mono(hT:∀a vs,dJ K H a vs->dJ K H' a vs)(hL:∀a vs,kL K c H a vs->kL K c' H' a vs):∀(v:AK)(x:List V),aU K c H v x->aU K c' H' v x
 |[],vs,h=>by
  unfold aU at h⊢;exact h
 |p::ps,vs,h=>by
  unfold aU at h⊢;obtain⟨v,r,e,h1,h2⟩:=h;exact⟨v,r,e,aW.mono hT hL p v h1,aU.mono hT hL ps r h2⟩
end
theorem aU.length:∀{xs:AK}{vs:List V},aU K c H xs vs->xs.length=vs.length
 |[],vs,h=>by
  unfold aU at h;rw[h];rfl
 |p::ps,vs,h=>by
  unfold aU at h;obtain⟨v,r,rfl,_,h2⟩:=h;rw[cu,cu,aU.length h2]
theorem aU.get:∀{xs:AK}{vs:List V}{i:Nat}{p:PV},aU K c H xs vs->xs[i]?=some p->∃v,vs[i]?=some v/\aW K c H p v
 |[],vs,i,p,h,e=>by simp at e
 |q::ps,vs,0,p,h,e=>by
  unfold aU at h;obtain⟨v,r,rfl,h1,_⟩:=h;simp at e;subst e;exact⟨v,rfl,h1⟩
 |q::ps,vs,i+1,p,h,e=>by
  unfold aU at h;obtain⟨v,r,rfl,_,h2⟩:=h;obtain⟨u,e1,e2⟩:=aU.get (i:=i) h2 (by simpa using e);exact⟨u,by simpa using e1,e2⟩
theorem aU.nil:aU K c H [] []:=by
 unfold aU;rfl
theorem aU.cons{p:PV}{v:V}{ps:AK}{vs:List V}(h:aW K c H p v)(t:aU K c H ps vs):aU K c H (p::ps) (v::vs):=by
 unfold aU;exact⟨v,vs,rfl,h,t⟩
theorem aU.append:∀{xs ys:AK}{vs ws:List V},aU K c H xs vs->aU K c H ys ws->aU K c H (xs++ys) (vs++ws)
 |[],ys,vs,ws,h,g=>by
  unfold aU at h;subst h;exact g
 |p::ps,ys,vs,ws,h,g=>by
  unfold aU at h;obtain⟨v,r,rfl,h1,h2⟩:=h;exact .cons h1 (h2.append g)
theorem aU.drop:∀{xs:AK}{vs:List V}(n:Nat),aU K c H xs vs->aU K c H (xs.drop n) (vs.drop n)
 |xs,vs,0,h=>by simpa using h
 |[],vs,n+1,h=>by
  unfold aU at h;subst h;simpa using aU.nil
 |p::ps,vs,n+1,h=>by
  unfold aU at h;obtain⟨v,r,rfl,_,h2⟩:=h;simpa using h2.drop n
theorem aU.take:∀{xs:AK}{vs:List V}(n:Nat),aU K c H xs vs->aU K c H (xs.take n) (vs.take n)
 |xs,vs,0,h=>by simpa using aU.nil
 |[],vs,n+1,h=>by
  unfold aU at h;subst h;simpa using aU.nil
 |p::ps,vs,n+1,h=>by
  unfold aU at h;obtain⟨v,r,rfl,h1,h2⟩:=h;simpa using aU.cons h1 (h2.take n)
theorem aU.eraseIdx:∀{xs:AK}{vs:List V}(n:Nat),aU K c H xs vs->aU K c H (xs.eraseIdx n) (vs.eraseIdx n)
 |[],vs,n,h=>by
  unfold aU at h;subst h;simpa using aU.nil
 |p::ps,vs,0,h=>by
  unfold aU at h;obtain⟨v,r,rfl,h1,h2⟩:=h;simpa using h2
 |p::ps,vs,n+1,h=>by
  unfold aU at h;obtain⟨v,r,rfl,h1,h2⟩:=h;simpa using aU.cons h1 (h2.eraseIdx n)
theorem aU.set{p:PV}{v:V}(g:aW K c H p v):∀{xs:AK}{vs:List V}(n:Nat),aU K c H xs vs->aU K c H (xs.set n p) (vs.set n v)
 |[],vs,n,h=>by
  unfold aU at h;subst h;simpa using aU.nil
 |q::ps,vs,0,h=>by
  unfold aU at h;obtain⟨v,r,rfl,h1,h2⟩:=h;simpa using aU.cons g h2
 |q::ps,vs,n+1,h=>by
  unfold aU at h;obtain⟨v,r,rfl,h1,h2⟩:=h;simpa using aU.cons h1 (aU.set g n h2)
end
structure Ph where
 f:List Addr
 w:Addr->Prop
 c:Addr->Prop
def xU(K:ae)(c:Addr->Prop)(H:Hp)(xss:List AK)(bs:List Addr):Prop:=
 xss.length=bs.length/\∀(i:Nat)(xs:AK)(b:Addr),xss[i]?=some xs->bs[i]?=some b->∃vs,H b=some (.lst vs)/\vs.length<=sizeLine/\aU K c H xs vs
def adp:(n:Bool)->rT n->PV
 |false,l=>.tup (List.map PV.int l)
 |true,l=>.tup (List.map (λr:AB=>PV.tup (r.map PV.int)) l)
def oD(es:Array DictEntry)(ep:Nat):Obj:={cls:=.type "dict",data:=.dict es ep}
def dO(a:Addr)(es:Array DictEntry)(ep:Nat):HO:=.ext λh=>h.get? a=some (oD es ep)
def enK(n:Bool)(x:rT n×Addr×Value):DictEntry:=⟨acM n x.1,.ref x.2.1,x.2.2⟩
def uX(K:ae)(c:Addr->Prop)(H:Hp)(a:Addr)(n:Bool)(ks:AK)(us:AG):Prop:=
 ∃(xs:List (rT n×Addr×Value))(ep:Nat),H a=some (dO a (xs.map (enK n)).toArray ep)/\(a==sysModules)=false/\xs.length<=sizeLine/\(xs.map (·.1)).Nodup/\ks=xs.map (λx=>adp n x.1)/\aU K c H ks (xs.map λx=>V.ref x.2.1)/\us=xs.map (·.2.2)
def yK(K:ae)(p:Ph)(H:Hp)(a:Addr):SO->Prop
 |.lst xs=>∃vs,H a=some (.lst vs)/\vs.length<=sizeLine/\aU K p.c H xs vs
 |.lol xss=>∃bs:List Addr,H a=some (.lst (bs.map V.ref))/\bs.length<=sizeLine/\bs.Nodup/\(∀b∈bs,p.w b/\b∉p.f)/\xU K p.c H xss bs
 |.dic n kvs=>∃us vs,uX K p.c H a n (kvs.map (·.1)) us/\bI vs us/\aU K p.c H (kvs.map (·.2)) vs
 |.dol n kvs=>∃bs:List Addr,uX K p.c H a n (kvs.map (·.1)) (bs.map gw)/\bs.Nodup/\(∀b∈bs,p.w b/\b∉p.f)/\xU K p.c H (kvs.map (·.2)) bs
theorem uX.mono{K:ae}{c c':Addr->Prop}{H H':Hp}{a:Addr}{n:Bool}{ks:AK}{us:AG}(h:uX K c H a n ks us)(ha:∀o,H a=some o->H' a=some o)(hR:∀xs vs,aU K c H xs vs->aU K c' H' xs vs):uX K c' H' a n ks us:=by
 obtain⟨xs,ep,e,z,l,nd,ek,r,eu⟩:=h;exact⟨xs,ep,ha _ e,z,l,nd,ek,hR _ _ r,eu⟩
theorem yK.mono{K:ae}{p p':Ph}{H H':Hp}{a:Addr}{o:SO}(h:yK K p H a o)(ha:∀o,H a=some o->H' a=some o)
  (hb:∀b,p.w b->b∉p.f->(p'.w b/\b∉p'.f)/\∀vs,H b=some (.lst vs)->H' b=some (.lst vs))(hR:∀xs vs,aU K p.c H xs vs->aU K p'.c H' xs vs):yK K p' H' a o:=by
 have lol:∀{xss:List AK}{bs:List Addr},(∀b∈bs,p.w b/\b∉p.f)->xU K p.c H xss bs->xU K p'.c H' xss bs:=λwf ⟨z,at_⟩=>⟨z,λi xs b e1 e2=>by
  obtain⟨vs,g1,g2,g3⟩:=at_ i xs b e1 e2;have m:=wf b (ic e2);exact⟨vs,(hb b m.1 m.2).2 vs g1,g2,hR xs vs g3⟩⟩
 cases o with
 |lst xs=>
  obtain⟨vs,e,l,r⟩:=h;exact⟨vs,ha _ e,l,hR xs vs r⟩
 |lol xss=>
  obtain⟨bs,e,l,nd,wf,z⟩:=h;exact⟨bs,ha _ e,l,nd,λb m=>(hb b (wf b m).1 (wf b m).2).1,lol wf z⟩
 |dic n kvs=>
  obtain⟨us,vs,d,v,r⟩:=h;exact⟨us,vs,d.mono ha hR,v,hR _ _ r⟩
 |dol n kvs=>
  obtain⟨bs,d,nd,wf,z⟩:=h;exact⟨bs,d.mono ha hR,nd,λb m=>(hb b (wf b m).1 (wf b m).2).1,lol wf z⟩
def Mb:HO->Prop
 |.lst _=>True
 |.dK _=>True
 |.dT _=>True
 |.ins _ _ _=>True
 |.ext _=>True
 |_=>False
structure bF(K:ae)(p:Ph)(S:aG)(H:Hp):Prop where
 nd:p.f.Nodup
 len:p.f.length=S.length
 sub:∀a∈p.f,p.w a
 wc:∀a,p.w a->p.c a
 mu:∀a,p.c a->∃o,H a=some o/\Mb o
 obj:∀(k:Nat)(a:Addr)(o:SO),p.f[k]?=some a->S[k]?=some o->yK K p H a o
structure cG(p:Ph)(H:Hp)(q:Ph)(H':Hp):Prop where
 wc:∀a,p.w a->p.c a
 mu:∀a,p.c a->∃o,H a=some o/\Mb o
 pre:p.f <+:q.f
 mw:∀a,p.w a->q.w a
 mono:∀a,p.c a->q.c a
 nf:∀a∈q.f,a∉p.f->H a=none
 nw:∀a,q.w a->¬p.w a->H a=none
 nc:∀a,q.c a->¬p.c a->H a=none
 keep:∀a o,H a=some o->¬p.w a->H' a=some o
def cX(K:ae)(p:Ph)(H:Hp):AV->V->Prop
 |.pv v,x=>aW K p.c H v x
 |.ref k,x=>∃a,p.f[k]?=some a/\x=.ref a
abbrev iC(K:ae)(p:Ph)(H:Hp):AN->List V->Prop:=kn (cX K p H)
structure eM(K:ae)(p:Ph)(H:Hp)(ρ:bY)(σ:St):Prop where
 len:ρ.length=σ.length
 at_:∀(i:Nat)(v:AV),ρ[i]?=some (some v)->∃x,σ[i]?=some (some x)/\cX K p H v x
section
variable{K:ae}{p q r:Ph}{H H' H'':Hp}{S:aG}
theorem bF.step(s:bF K p S H):cG p H p H:=⟨s.wc,s.mu,oq,λ_ h=>h,λ_ h=>h,λ_ h g=>absurd h g,λ_ h g=>absurd h g,λ_ h g=>absurd h g,λ_ _ h _=>h⟩
theorem cG.trans(a:cG p H q H')(b:cG q H' r H''):cG p H r H'':=by
 have back:∀x,H' x=none->¬p.w x->H x=none:=λx h n=>by
  cases e:H x with
  |none=>rfl
  |some o=>rw[a.keep x o e n]at h;cases h
 refine⟨a.wc,a.mu,a.pre.trans b.pre,λx h=>b.mw x (a.mw x h),λx h=>b.mono x (a.mono x h),λx h n=>?_,λx h n=>?_,λx h n=>?_,λx o e n=>?_⟩
 .by_cases m:x∈q.f
  .exact a.nf x m n
  .have hn:=b.nf x h m
   refine back x hn λz=>?_;obtain⟨o,ho,_⟩:=b.mu x (a.mono x (a.wc x z));rw[hn]at ho;cases ho
 .by_cases m:q.w x
  .exact a.nw x m n
  .exact back x (b.nw x h m) n
 .by_cases m:q.c x
  .exact a.nc x m n
  .exact back x (b.nc x h m) λz=>n (a.wc x z)
 .refine b.keep x o (a.keep x o e n) λz=>?_
  rw[a.nw x z n]at e;cases e
theorem cG.tup(s:cG p H q H'){a:Addr}{vs:List V}(h:dJ K H a vs):dJ K H' a vs:=by
 have go:∀o,H a=some o->¬Mb o->H' a=some o:=λo e n=>s.keep a o e λz=>by
  obtain⟨u,e',m⟩:=s.mu a (s.wc a z);rw[e]at e';cases e';exact n m
 rcases h with(h |⟨o,h⟩) |h
 .exact .inl (.inl (go _ h (λz=>z)))
 .exact .inl (.inr ⟨o,go _ h (λz=>z)⟩)
 .exact .inr h
theorem cG.lat(s:cG p H q H'){a:Addr}{vs:List V}(h:kL K p.c H a vs):kL K q.c H' a vs:=by
 rcases h with⟨h,n⟩|⟨o,h⟩|h
 .refine .inl ⟨s.keep a _ h λz=>n (s.wc a z),λz=>?_⟩
  rw[s.nc a z n]at h;cases h
 .refine .inr (.inl ⟨o,s.keep a _ h λz=>?_⟩)
  obtain⟨u,e',m⟩:=s.mu a (s.wc a z);rw[h]at e';cases e';exact m
 .exact .inr (.inr h)
theorem cG.rep(s:cG p H q H'){v:PV}{x:V}(h:aW K p.c H v x):aW K q.c H' v x:=aW.mono (λ_ _=>s.tup) (λ_ _=>s.lat) v x h
theorem cG.reps(s:cG p H q H'){v:AK}{x:List V}(h:aU K p.c H v x):aU K q.c H' v x:=aU.mono (λ_ _=>s.tup) (λ_ _=>s.lat) v x h
theorem cG.at_(s:cG p H q H'){k:Nat}{a:Addr}(h:p.f[k]?=some a):q.f[k]?=some a:=by
 obtain⟨t,e⟩:=s.pre;rw[<-e,fu (by
  have:=da.mp h;exact this.1)]
 exact h
theorem cG.repA(s:cG p H q H'){v:AV}{x:V}(h:cX K p H v x):cX K q H' v x:=by
 cases v with
 |pv v=>exact s.rep h
 |ref k=>
  obtain⟨a,e,f⟩:=h;exact⟨a,s.at_ e,f⟩
theorem cG.repE(s:cG p H q H'){ρ:bY}{σ:St}(h:eM K p H ρ σ):eM K q H' ρ σ:=
 ⟨h.len,λi v e=>let⟨x,e1,e2⟩:=h.at_ i v e;⟨x,e1,s.repA e2⟩⟩
theorem bF.same(s:bF K p S H)(h:dG H H'):cG p H p H':=⟨s.wc,s.mu,oq,λ_ h=>h,λ_ h=>h,λ_ h g=>absurd h g,λ_ h g=>absurd h g,λ_ h g=>absurd h g,λa o e _=>h a o e⟩
theorem bF.ofSame(s:bF K p S H)(h:dG H H'):bF K p S H':=
 ⟨s.nd,s.len,s.sub,s.wc,λa m=>let⟨o,e,m⟩:=s.mu a m;⟨o,h a o e,m⟩,λk a o e1 e2=>by
  exact(s.obj k a o e1 e2).mono (λvs e=>h _ _ e) (λb w f=>⟨⟨w,f⟩,λvs e=>h _ _ e⟩) λxs vs=>(s.same h).reps⟩
theorem gX{a:Addr}{o:HO}(h:H a=none):dG H (bK H a o):=λb u e=>by
 rw[dD (gI e h)];exact e
end
section
variable{α β γ δ:Type}
def cL(K:ae)(cl:Str->Addr)(R:Ph->Hp->α->β->Prop)(p:Ph)(H:Hp)(r:cD α)(Q:β->Hp->Prop)(E:XK):Prop:=match r with
 |.ok a S=>∀q H' x,cG p H q H'->bF K q S H'->R q H' a x->Q x H'
 |.exc n S=>∀q H',cG p H q H'->bF K q S H'->E (.ref (cl n)) none H'
 |.fail=>False
def dR(K:ae)(cl:Str->Addr)(p:Ph)(H:Hp)(r:cP)(D:lQ)(E:XK):Prop:=match r with
 |.nx ρ S=>∀q H' σ,cG p H q H'->bF K q S H'->eM K q H' ρ σ->D.nx σ H'
 |.bk ρ S=>∀q H' σ,cG p H q H'->bF K q S H'->eM K q H' ρ σ->D.bk σ H'
 |.ct ρ S=>∀q H' σ,cG p H q H'->bF K q S H'->eM K q H' ρ σ->D.ct σ H'
 |.rt v S=>∀q H' x,cG p H q H'->bF K q S H'->cX K q H' v x->D.rt x H'
 |.exc n S=>∀q H',cG p H q H'->bF K q S H'->E (.ref (cl n)) none H'
 |.fail=>False
variable{K:ae}{cl:Str->Addr}{p q:Ph}{H H':Hp}{S:aG}{E:XK}{R:Ph->Hp->α->β->Prop}{R':Ph->Hp->γ->δ->Prop}
theorem cL.mono{r:cD α}{Q:β->Hp->Prop}(h:cL K cl R p H r Q E)(s:cG p H q H'):cL K cl R q H' r Q E:=by
 cases r with
 |ok a S=>exact λq' H'' x s'=>h q' H'' x (s.trans s')
 |exc n S=>exact λq' H'' s'=>h q' H'' (s.trans s')
 |fail=>exact h
theorem dR.mono{r:cP}{D:lQ}(h:dR K cl p H r D E)(s:cG p H q H'):dR K cl q H' r D E:=by
 cases r with
 |nx ρ S=>exact λq' H'' x s'=>h q' H'' x (s.trans s')
 |bk ρ S=>exact λq' H'' x s'=>h q' H'' x (s.trans s')
 |ct ρ S=>exact λq' H'' x s'=>h q' H'' x (s.trans s')
 |rt v S=>exact λq' H'' x s'=>h q' H'' x (s.trans s')
 |exc n S=>exact λq' H'' s'=>h q' H'' (s.trans s')
 |fail=>exact h
theorem cL.ret{a:α}{x:β}{Q:β->Hp->Prop}(h:cL K cl R p H (.ok a S) Q E)(s:bF K p S H)(r:R p H a x):Q x H:=h p H x s.step s r
theorem cL.same{a:α}{x:β}{Q:β->Hp->Prop}(h:cL K cl R p H (.ok a S) Q E)(s:bF K p S H)(e:dG H H')(r:R p H' a x):Q x H':=h p H' x (s.same e) (s.ofSame e) r
def tP(K:ae)(cl:Str->Addr)(E:XK)(R:Ph->Hp->α->β->Prop)(m:bY->aG->cD α)(σ:St)(H:Hp)(Q:β->Hp->Prop):Prop:=
 ∃p S ρ,bF K p S H/\eM K p H ρ σ/\cL K cl R p H (m ρ S) Q E
def tS(K:ae)(cl:Str->Addr)(E:XK)(m:bY->aG->cP):TS:=λD σ H=>
 ∃p S ρ,bF K p S H/\eM K p H ρ σ/\dR K cl p H (m ρ S) D E
theorem cK{m:bY->aG->cD α}{k:α->aG->cD γ}{ρ:bY}{σ:St}{Q:δ->Hp->Prop}{T:β->Hp->Prop}(s:bF K p S H)(e:eM K p H ρ σ)(h:cL K cl R' p H ((m ρ S).bind k) Q E)
  (g:∀q H' a b S',cG p H q H'->bF K q S' H'->eM K q H' ρ σ->R q H' a b->cL K cl R' q H' (k a S') Q E->T b H'):tP K cl E R m σ H T:=by
 refine⟨p,S,ρ,s,e,?_⟩;cases z:m ρ S with
 |ok a S1=>
  rw[z]at h;exact λq H' b st sm r=>g q H' a b S1 st sm (st.repE e) r (cL.mono (r:=k a S1) h st)
 |exc n S1=>
  rw[z]at h;exact h
 |fail=>
  rw[z]at h;exact h
def cP.of{α:Type}(r:cD α)(k:α->aG->cP):cP:=match r with
 |.ok a S=>k a S
 |.exc n S=>.exc n S
 |.fail=>.fail
theorem iT{m:bY->aG->cD α}{k:α->aG->cP}{ρ:bY}{σ:St}{D:lQ}{T:β->Hp->Prop}(s:bF K p S H)(e:eM K p H ρ σ)(h:dR K cl p H (cP.of (m ρ S) k) D E)
  (g:∀q H' a b S',cG p H q H'->bF K q S' H'->eM K q H' ρ σ->R q H' a b->dR K cl q H' (k a S') D E->T b H'):tP K cl E R m σ H T:=by
 refine⟨p,S,ρ,s,e,?_⟩;cases z:m ρ S with
 |ok a S1=>
  rw[z]at h;exact λq H' b st sm r=>g q H' a b S1 st sm (st.repE e) r (dR.mono (r:=k a S1) h st)
 |exc n S1=>
  rw[z]at h;exact h
 |fail=>
  rw[z]at h;exact h
end
end
abbrev RB:Ph->Hp->Bool->Bool->Prop:=λ_ _ a b=>a=b
abbrev ME:=bY->aG->cD AV
abbrev MT:=bY->aG->cD Bool
abbrev MA:=bY->aG->cD AN
abbrev MS:=bY->aG->cP
section
variable(K:ae)(cl:Str->Addr)(E:XK)(X:Cx)
def aX(e:ag)(m:ME):Prop:=X.K=K->PE X e (tP K cl E (cX K) m)
def fG(e:ag)(m:MT):Prop:=X.K=K->PT X e (tP K cl E RB m)
def jP(e:ag)(m:MT):Prop:=X.K=K->PW X e (tP K cl E RB m)
def fI(es:List ag)(m:MA):Prop:=X.K=K->PA X es (tP K cl E (iC K) m)
def eN(st:Stmt)(m:MS):Prop:=X.K=K->PS X st (tS K cl E m)
def fX(st:List Stmt)(m:MS):Prop:=X.K=K->fF X st (tS K cl E m)
end
theorem PA.imp{X:Cx}{es:List ag}{t t':TA}(h:PA X es t)(i:∀σ H Q,t' σ H Q->t σ H Q):PA X es t':=λpos AO s σ H Q I q=>h pos AO s σ H Q I (i σ H Q q)
theorem PW.imp{X:Cx}{e:ag}{t t':TT}(h:PW X e t)(i:∀σ H Q,t' σ H Q->t σ H Q):PW X e t':=λwh AO s σ H Q I q=>h wh AO s σ H Q I (i σ H Q q)
def aA(i:Nat):ME:=λρ S=>match ρ[i]? with
 |some (some v)=>.ok v S
 |_=>.fail
def mC(v:PV):ME:=λ_ S=>.ok (.pv v) S
def rd(S:aG):AV->AL
 |.pv v=>some v
 |.ref k=>match S[k]? with
  |some (.lst xs)=>some (.lst xs)
  |_=>none
def jK(S:aG):AN->Option AK
 |[]=>some []
 |a::r=>match rd S a with
  |some v=>match jK S r with
   |some vs=>some (v::vs)
   |none=>none
  |none=>none
def iG(o:AL)(S:aG):cD AV:=match o with
 |some r=>.ok (.pv r) S
 |none=>.fail
def uI(f:PV->AL)(a:AV)(S:aG):cD AV:=iG ((rd S a).bind f) S
def kO(f:PV->PV->AL)(a b:AV)(S:aG):cD AV:=iG ((rd S a).bind λx=>(rd S b).bind λy=>f x y) S
def bG(f:PV->AL)(ma:ME):ME:=λρ S=>(ma ρ S).bind λx S1=>uI f x S1
def aC(f:PV->PV->AL)(ma mb:ME):ME:=λρ S=>(ma ρ S).bind λx S1=>(mb ρ S1).bind λy S2=>kO f x y S2
def aD:MA:=λ_ S=>.ok [] S
def aB(ma:ME)(mr:MA):MA:=λρ S=>(ma ρ S).bind λx S1=>(mr ρ S1).bind λxs S2=>.ok (x::xs) S2
def oC:AN->Option AK
 |[]=>some []
 |.pv v::r=>match oC r with
  |some vs=>some (v::vs)
  |none=>none
 |.ref _::_=>none
def Td(f:AK->AL)(xs:AN)(S:aG):cD AV:=iG ((oC xs).bind f) S
def oB(f:AK->AL)(xs:AN)(S:aG):cD AV:=iG ((jK S xs).bind f) S
def mR(f:AK->AL)(ma:MA):ME:=λρ S=>(ma ρ S).bind λxs S1=>oB f xs S1
def mN(f:AK->AL)(ma:MA):ME:=λρ S=>(ma ρ S).bind λxs S1=>Td f xs S1
def dP(vs:AK):AL:=if vs.length<=16777216 then some (.tup vs)else none
def cN(vs:AK):AL:=if vs.length<=16777216 then some (.lst vs)else none
def kT:AV->aG->cD Bool
 |.pv (.bl b),S=>.ok b S
 |_,_=>.fail
def bT(m:ME):MT:=λρ S=>(m ρ S).bind kT
def lR(m:MT):MT:=λρ S=>(m ρ S).bind λb S1=>.ok (!b) S1
def gZ(m n:MT):MT:=λρ S=>(m ρ S).bind λb S1=>if b=true then n ρ S1 else .ok false S1
def oQ(m n:MT):MT:=λρ S=>(m ρ S).bind λb S1=>if b=true then .ok true S1 else n ρ S1
def oA(m n:ME):ME:=λρ S=>(m ρ S).bind λx S1=>match x with
 |.pv (.bl true)=>n ρ S1
 |.pv (.bl false)=>.ok (.pv (.bl false)) S1
 |_=>.fail
def adF(m n:ME):ME:=λρ S=>(m ρ S).bind λx S1=>match x with
 |.pv (.bl false)=>n ρ S1
 |.pv (.bl true)=>.ok (.pv (.bl true)) S1
 |_=>.fail
def uN:PV->AL
 |.bl b=>some (.bl (!b))
 |_=>none
def vD(c:MT)(a b:ME):ME:=λρ S=>(c ρ S).bind λt S1=>if t=true then a ρ S1 else b ρ S1
section
variable{K:ae}{cl:Str->Addr}{E:XK}{X:Cx}{a b c e:ag}{es:List ag}{ma mb mc m:ME}{mt nt:MT}{ms:MA}{pos:ai}
theorem uB(i:Nat){x:Str}(hN:X.N[i]?=some x:=by rfl)(hv:sE X.env.scope x:=by first |exact gq rfl |exact fy (gq rfl) |exact fy (fy rfl))(hd:(x==("__debug__":Str))=false:=by decide)
  (hcd:(x==("__classdict__":Str))=false:=by decide):aX K cl E X (.Name x pos) (aA i):=λ_=>(Pd hN hv hd hcd).imp λσ H Q ⟨p,S,ρ,s,e,h⟩=>by
 unfold aA at h;cases z:ρ[i]? with
 |none=>rw[z]at h;exact h.elim
 |some o=>
  cases o with
  |none=>rw[z]at h;exact h.elim
  |some v=>
   rw[z]at h;obtain⟨x,e1,e2⟩:=e.at_ i v z;exact⟨x,e1,cL.ret h s e2⟩
theorem abe{i:Int}{j}:aX K cl E X (.Constant (.int i) j pos) (mC (.int i)):=λ_=>Nd.imp λσ H Q ⟨p,S,ρ,s,e,h⟩=>cL.ret (R:=cX K) (x:=.int i) h s (by show aW K p.c H (.int i) (.int i);unfold aW;rfl)
theorem acK{i:Bool}{j}:aX K cl E X (.Constant (.bool i) j pos) (mC (.bl i)):=λ_=>adj.imp λσ H Q ⟨p,S,ρ,s,e,h⟩=>cL.ret (R:=cX K) (x:=.bl i) h s (by show aW K p.c H (.bl i) (.bl i);unfold aW;rfl)
def eT(K:ae)(p:Ph)(H:Hp)(v:PV)(x:V):Prop:=aW K p.c H v x\/∃xs a vs,v=.lst xs/\x=.ref a/\H a=some (.lst vs)/\vs.length<=sizeLine/\aU K p.c H xs vs
theorem eT.int{p:Ph}{H:Hp}{i:Int}{x:V}(h:eT K p H (.int i) x):x=.int i:=by
 rcases h with h |⟨_,_,_,e,_⟩
 .unfold aW at h;exact h
 .cases e
theorem eT.bl{p:Ph}{H:Hp}{i:Bool}{x:V}(h:eT K p H (.bl i) x):x=.bl i:=by
 rcases h with h |⟨_,_,_,e,_⟩
 .unfold aW at h;exact h
 .cases e
theorem eT.str{p:Ph}{H:Hp}{i:Str}{x:V}(h:eT K p H (.str i) x):x=.str i:=by
 rcases h with h |⟨_,_,_,e,_⟩
 .unfold aW at h;exact h
 .cases e
theorem eT.non{p:Ph}{H:Hp}{x:V}(h:eT K p H .non x):x=.non:=by
 rcases h with h |⟨_,_,_,e,_⟩
 .unfold aW at h;exact h
 .cases e
theorem eT.tup{p:Ph}{H:Hp}{xs:AK}{x:V}(h:eT K p H (.tup xs) x):∃a vs,x=.ref a/\dJ K H a vs/\vs.length<=sizeLine/\aU K p.c H xs vs:=by
 rcases h with h |⟨_,_,_,e,_⟩
 .unfold aW at h;exact h
 .cases e
theorem eT.lst{p:Ph}{H:Hp}{xs:AK}{x:V}(h:eT K p H (.lst xs) x):∃a vs,x=.ref a/\cE K H a vs/\vs.length<=sizeLine/\aU K p.c H xs vs:=by
 rcases h with h |⟨ys,a,vs,e,e2,h,z,r⟩
 .unfold aW at h
  obtain⟨a,vs,e,l,z,r⟩:=h;exact⟨a,vs,e,l.sq,z,r⟩
 .cases e
  exact⟨a,vs,e2,cE.of h,z,r⟩
theorem lH{p:Ph}{S:aG}{H:Hp}{a:AV}{v:PV}{x:V}(s:bF K p S H)(r:cX K p H a x)(e:rd S a=some v):eT K p H v x:=by
 cases a with
 |pv u=>cases e;exact .inl r
 |ref k=>
  obtain⟨a,e1,rfl⟩:=r;unfold rd at e;cases z:S[k]? with
  |none=>simp only[z]at e;cases e
  |some o=>
   cases o with
   |lst xs=>
    simp only[z]at e;cases e;obtain⟨vs,h,l,r⟩:=s.obj k a _ e1 z;exact .inr ⟨xs,a,vs,rfl,rfl,h,l,r⟩
   |lol _=>simp only[z]at e;cases e
   |dic _ _=>simp only[z]at e;cases e
   |dol _ _=>simp only[z]at e;cases e
abbrev Qr(K:ae)(p:Ph)(H:Hp):AK->List V->Prop:=kn (eT K p H)
theorem Qj{p:Ph}{S:aG}{H:Hp}(s:bF K p S H):∀{as:AN}{vs:AK}{xs:List V},iC K p H as xs->jK S as=some vs->Qr K p H vs xs
 |[],vs,_,.nil,e=>by
  cases e;exact .nil
 |a::r,vs,_,.cons h t,e=>by
  unfold jK at e;cases z:rd S a with
  |none=>simp only[z]at e;cases e
  |some v=>
   simp only[z]at e;cases y:jK S r with
   |none=>simp only[y]at e;cases e
   |some us=>
    simp only[y]at e;cases e;exact .cons (lH s h z) (Qj s t y)
def gH(K:ae)(r:R2)(f:PV->PV->AL):Prop:=∀{p:Ph}{S:aG}{H:Hp}{a b c:PV}{x y:V}{Q:VK},bF K p S H->eT K p H a x->eT K p H b y->f a b=some c->
 (∀H' z,dG H H'->aW K p.c H' c z->Q z H')->r x y H Q
def uQ(K:ae)(r:V->Hp->VK->Prop)(f:PV->AL):Prop:=∀{p:Ph}{S:aG}{H:Hp}{a c:PV}{x:V}{Q:VK},bF K p S H->eT K p H a x->f a=some c->
 (∀H' z,dG H H'->aW K p.c H' c z->Q z H')->r x H Q
def CaS(K:ae)(r:List V->Hp->VK->Prop)(f:AK->AL):Prop:=∀{p:Ph}{S:aG}{H:Hp}{as:AK}{c:PV}{xs:List V}{Q:VK},bF K p S H->aU K p.c H as xs->f as=some c->
 (∀H' z,dG H H'->aW K p.c H' c z->Q z H')->r xs H Q
def jQ(K:ae)(r:List V->Hp->VK->Prop)(f:AK->AL):Prop:=∀{p:Ph}{S:aG}{H:Hp}{as:AK}{c:PV}{xs:List V}{Q:VK},bF K p S H->Qr K p H as xs->f as=some c->
 (∀H' z,dG H H'->aW K p.c H' c z->Q z H')->r xs H Q
theorem rE{p:Ph}{S:aG}{H:Hp}{o:AL}{Q:VK}(s:bF K p S H)(h:cL K cl (cX K) p H (iG o S) Q E):∃c,o=some c/\∀H' z,dG H H'->aW K p.c H' c z->Q z H':=by
 cases o with
 |none=>exact h.elim
 |some c=>exact⟨c,rfl,λH' z sm rz=>cL.same (R:=cX K) h s sm rz⟩
theorem vV{r:R2}{f:PV->PV->AL}(hf:gH K r f){p:Ph}{S:aG}{H:Hp}{a b:AV}{x y:V}{Q:VK}(s:bF K p S H)(ra:cX K p H a x)(rb:cX K p H b y)(h:cL K cl (cX K) p H (kO f a b S) Q E):r x y H Q:=by
 obtain⟨c,e,k⟩:=rE s h;cases z:rd S a with
 |none=>rw[z]at e;cases e
 |some v=>
  cases y:rd S b with
  |none=>rw[z,y]at e;cases e
  |some w=>
   rw[z,y]at e;exact hf s (lH s ra z) (lH s rb y) e k
theorem qY{r:V->Hp->VK->Prop}{f:PV->AL}(hf:uQ K r f){p:Ph}{S:aG}{H:Hp}{a:AV}{x:V}{Q:VK}(s:bF K p S H)(ra:cX K p H a x)(h:cL K cl (cX K) p H (uI f a S) Q E):r x H Q:=by
 obtain⟨c,e,k⟩:=rE s h;cases z:rd S a with
 |none=>rw[z]at e;cases e
 |some v=>
  rw[z]at e;exact hf s (lH s ra z) e k
theorem Ii{r:List V->Hp->VK->Prop}{f:AK->AL}(hf:jQ K r f){p:Ph}{S:aG}{H:Hp}{as:AN}{xs:List V}{Q:VK}(s:bF K p S H)(ra:iC K p H as xs)(h:cL K cl (cX K) p H (oB f as S) Q E):r xs H Q:=by
 obtain⟨c,e,k⟩:=rE s h;cases z:jK S as with
 |none=>rw[z]at e;cases e
 |some v=>
  rw[z]at e;exact hf s (Qj s ra z) e k
theorem zZ{p:Ph}{H:Hp}:∀{as:AN}{vs:AK}{xs:List V},oC as=some vs->iC K p H as xs->aU K p.c H vs xs
 |[],vs,_,e,.nil=>by
  cases e;exact .nil
 |.pv v::r,vs,_,e,.cons h t=>by
  unfold oC at e;cases z:oC r with
  |none=>simp only[z]at e;cases e
  |some us=>
   simp only[z]at e;cases e;exact .cons h (zZ z t)
 |.ref k::r,vs,_,e,.cons h t=>by
  cases e
theorem Ki{r:List V->Hp->VK->Prop}{f:AK->AL}(hf:CaS K r f){p:Ph}{S:aG}{H:Hp}{as:AN}{xs:List V}{Q:VK}(s:bF K p S H)(ra:iC K p H as xs)(h:cL K cl (cX K) p H (Td f as S) Q E):r xs H Q:=by
 obtain⟨c,e,k⟩:=rE s h;cases z:oC as with
 |none=>rw[z]at e;cases e
 |some v=>
  rw[z]at e;exact hf s (zZ z ra) e k
theorem qA{op:ph}{r:R2}{f:PV->PV->AL}(ho:eO X (binaryOp op) r)(hf:gH X.K r f)(ha:aX K cl E X a ma)(hb:aX K cl E X b mb):aX K cl E X (.BinOp a op b pos) (aC f ma mb):=by
 intro hK;subst hK;refine(Wr ho (ha rfl) (hb rfl)).imp ?_
 rintro σ H Q ⟨p,S,ρ,s,e,h⟩
 exact cK s e h λq H1 a x S1 st s1 e1 r1 h1=>cK s1 e1 h1 λq2 H2 b y S2 st2 s2 e2 r2 h2=>vV hf s2 (st2.repA r1) r2 h2
theorem ab6{op:UnaryOp}{r:V->Hp->VK->Prop}{f:PV->AL}(ho:yY X (unaryOp op) r)(hf:uQ X.K r f)(ha:aX K cl E X a ma):aX K cl E X (.UnaryOp op a pos) (bG f ma):=by
 intro hK;subst hK;refine(Kr ho (ha rfl)).imp ?_
 rintro σ H Q ⟨p,S,ρ,s,e,h⟩
 exact cK s e h λq H1 a x S1 st s1 e1 r1 h1=>qY hf s1 r1 h1
theorem tR{op:jz}{r:R2}{f:PV->PV->AL}(ho:eO X (compareOp op) r)(hf:gH X.K r f)(ha:aX K cl E X a ma)(hb:aX K cl E X b mb)(hm:behindInMarks op b=false):aX K cl E X (.Compare a [op] [b] pos) (aC f ma mb):=by
 intro hK;subst hK;refine(V5 ho (ha rfl) (hb rfl) hm).imp ?_
 rintro σ H Q ⟨p,S,ρ,s,e,h⟩
 exact cK s e h λq H1 a x S1 st s1 e1 r1 h1=>cK s1 e1 h1 λq2 H2 b y S2 st2 s2 e2 r2 h2=>vV hf s2 (st2.repA r1) r2 h2
theorem Ur{p:Ph}{H:Hp}{v:AV}{x:V}(r:cX K p H v x){b:Bool}(e:v=.pv (.bl b)):x=.bl b:=by
 subst e;unfold cX aW at r;exact r
theorem wA{p:Ph}{S:aG}{H:Hp}{v:AV}{x:V}{Q:Bool->Hp->Prop}(s:bF K p S H)(r:cX K p H v x)
  (h:cL K cl RB p H (kT v S) Q E):∃k,x=.bl k/\Q k H:=by
 cases v with
 |ref k=>exact h.elim
 |pv v=>
  cases v with
  |bl b=>exact⟨b,Ur r rfl,cL.ret (R:=RB) h s rfl⟩
  |_=>exact h.elim
theorem tM{op:jz}{r:R2}{f:PV->PV->AL}(ho:eO X (compareOp op) r)(hf:gH X.K r f)(ha:aX K cl E X a ma)(hb:aX K cl E X b mb)(hm:behindInMarks op b=false):fG K cl E X (.Compare a [op] [b] pos) (bT (aC f ma mb)):=by
 intro hK;subst hK;refine(U7 ho (ha rfl) (hb rfl) hm).imp ?_
 rintro σ H Q ⟨p,S,ρ,s,e,h⟩
 have z:tP X.K cl E (cX X.K) (aC f ma mb) σ H λx H'=>∃k,x=.bl k/\Q k H':=cK s e h λq H1 a x S1 st s1 e1 r1 h1=>wA s1 r1 h1;obtain⟨p',S',ρ',s',e',h'⟩:=z;exact cK s' e' h' λq H1 a x S1 st s1 e1 r1 h1=>cK s1 e1 h1 λq2 H2 b y S2 st2 s2 e2 r2 h2=>vV hf s2 (st2.repA r1) r2 h2
theorem R0(ha:aX K cl E X a ma)(he:∀whole,isTrue a X.env whole=(do let v <-whole;standAt a.pos;holding [v] (truthy v)):=by intro _;rfl):fG K cl E X a (bT ma):=by
 intro hK;subst hK;refine(abY (ha rfl) he).imp ?_
 rintro σ H Q ⟨p,S,ρ,s,e,h⟩
 exact cK s e h λq H1 a x S1 st s1 e1 r1 h1=>wA s1 r1 h1
theorem U8(ha:fG K cl E X a mt):fG K cl E X (.UnaryOp .Not a pos) (lR mt):=by
 intro hK;subst hK;refine(aaL (ha rfl)).imp ?_
 rintro σ H Q ⟨p,S,ρ,s,e,h⟩
 exact cK s e h λq H1 a x S1 st s1 e1 r1 h1=>by
  cases r1;exact cL.ret (R:=RB) h1 s1 rfl
theorem N3(ha:fG K cl E X a mt):jP K cl E X (.BoolOp .And [a] pos) mt:=λhK=>X5 (ha hK)
theorem aae(ha:fG K cl E X a mt):jP K cl E X (.BoolOp .Or [a] pos) mt:=λhK=>abk (ha hK)
theorem jP.pt(h:jP K cl E X a mt):fG K cl E X a mt:=λhK=>PW.pt (h hK)
theorem U9{gD:List ag}(ha:fG K cl E X a mt)(hb:jP K cl E X (.BoolOp .And (b::gD) pos) nt):jP K cl E X (.BoolOp .And (a::b::gD) pos) (gZ mt nt):=by
 intro hK;subst hK;refine PW.imp (abz (ha rfl) (hb rfl)) ?_
 rintro σ H Q ⟨p,S,ρ,s,e,h⟩
 refine cK s e h λq H1 a x S1 st s1 e1 r1 h1=>?_;cases r1;cases a with
 |true=>exact⟨q,S1,ρ,s1,e1,h1⟩
 |false=>exact cL.ret (R:=RB) h1 s1 rfl
theorem abr{gD:List ag}(ha:fG K cl E X a mt)(hb:jP K cl E X (.BoolOp .Or (b::gD) pos) nt):jP K cl E X (.BoolOp .Or (a::b::gD) pos) (oQ mt nt):=by
 intro hK;subst hK;refine PW.imp (acW (ha rfl) (hb rfl)) ?_
 rintro σ H Q ⟨p,S,ρ,s,e,h⟩
 refine cK s e h λq H1 a x S1 st s1 e1 r1 h1=>?_;cases r1;cases a with
 |true=>exact cL.ret (R:=RB) h1 s1 rfl
 |false=>exact⟨q,S1,ρ,s1,e1,h1⟩
theorem abG{gD:List ag}(ha:aX K cl E X a ma)(hb:aX K cl E X (.BoolOp .And (b::gD) pos) mb):aX K cl E X (.BoolOp .And (a::b::gD) pos) (oA ma mb):=by
 intro hK;subst hK;refine(abi (ha rfl) (hb rfl)).imp ?_
 rintro σ H Q ⟨p,S,ρ,s,e,h⟩
 refine cK s e h λq H1 a x S1 st s1 e1 r1 h1=>?_;cases a with
 |ref k=>exact h1.elim
 |pv v=>
  cases v with
  |bl b=>
   refine⟨b,Ur r1 rfl,?_⟩;cases b with
   |true=>exact⟨q,S1,ρ,s1,e1,h1⟩
   |false=>exact cL.ret (R:=cX X.K) h1 s1 (by show aW X.K q.c H1 _ _;unfold aW;rfl)
  |_=>exact h1.elim
theorem abu(ha:aX K cl E X a ma):aX K cl E X (.UnaryOp .Not a pos) (bG uN ma):=by
 intro hK;subst hK;refine(aau (ha rfl)).imp ?_
 rintro σ H Q ⟨p,S,ρ,s,e,h⟩
 refine cK s e h λq H1 a x S1 st s1 e1 r1 h1=>?_;refine qY (r:=λx H Q=>∃c,x=.bl c/\Q (.bl (!c)) H) (f:=uN) (λ{p S H a c x Q} s r e k=>?_) s1 r1 h1;cases a with
 |bl b=>
  cases e;exact⟨b,r.bl,k H _ (dG.refl H) (by unfold aW;rfl)⟩
 |_=>cases e
theorem ab5(hc:fG K cl E X c mt)(ha:aX K cl E X a ma)(hb:aX K cl E X b mb):aX K cl E X (.IfExp c a b pos) (vD mt ma mb):=by
 intro hK;subst hK;refine(D5 (hc rfl) (ha rfl) (hb rfl)).imp ?_
 rintro σ H Q ⟨p,S,ρ,s,e,h⟩
 refine cK s e h λq H1 a x S1 st s1 e1 r1 h1=>?_;cases r1;cases a with
 |true=>exact⟨q,S1,ρ,s1,e1,h1⟩
 |false=>exact⟨q,S1,ρ,s1,e1,h1⟩
theorem Tn:fI K cl E X [] aD:=λ_=>(PA.imp tT λσ H Q ⟨p,S,ρ,s,e,h⟩=>cL.ret (R:=iC K) h s .nil)
theorem wI(ha:aX K cl E X e m)(hr:fI K cl E X es ms)(hs:starEach (e::es) X.env=(false,eval e X.env)::starEach es X.env:=by rfl):fI K cl E X (e::es) (aB m ms):=by
 intro hK;subst hK;refine PA.imp (nR (ha rfl) (hr rfl) hs) ?_
 rintro σ H Q ⟨p,S,ρ,s,e,h⟩
 exact cK s e h λq H1 a x S1 st s1 e1 r1 h1=>cK s1 e1 h1 λq2 H2 b y S2 st2 s2 e2 r2 h2=>cL.ret (R:=iC X.K) h2 s2 (.cons (st2.repA r1) r2)
theorem pK{p:Ph}{S:aG}{H:Hp}{vs:AK}{xs:List V}{t:Addr}(s:bF K p S H)(r:aU K p.c H vs xs)(z:xs.length<=sizeLine)(ht:H t=none):aW K p.c (bK H t (.tup xs)) (.tup vs) (.ref t):=by
 unfold aW;exact⟨t,xs,rfl,dJ.of jG,z,(s.same (gX ht)).reps r⟩
theorem pJ{p:Ph}{S:aG}{H:Hp}{vs:AK}{xs:List V}{t:Addr}(s:bF K p S H)(r:aU K p.c H vs xs)(z:xs.length<=sizeLine)(ht:H t=none):aW K p.c (bK H t (.lst xs)) (.lst vs) (.ref t):=by
 unfold aW;refine⟨t,xs,rfl,.inl ⟨jG,λc=>?_⟩,z,(s.same (gX ht)).reps r⟩;obtain⟨o,e,_⟩:=s.mu t c;rw[ht]at e;cases e
theorem jF:sizeLine=16777216:=jw
theorem abT{x1}(h:fI K cl E X es ms):aX K cl E X (.Tuple es x1 pos) (mN dP ms):=by
 intro hK;subst hK;refine(Wq (h rfl)).imp ?_
 rintro σ H Q ⟨p,S,ρ,s,e,h⟩
 refine cK s e h λq H1 as xs S1 st s1 e1 r1 h1=>?_;refine Ki (r:=λxs H Q=>xs.length<=sizeLine/\∀t,H t=none->Q (.ref t) (bK H t (.tup xs))) (f:=dP) (λ{p S H as c xs Q} s r e k=>?_) s1 r1 h1;unfold dP at e;split at e
 .rename_i hl
  cases e;rw[r.length,<-jF]at hl;exact⟨hl,λt ht=>k _ _ (gX ht) (pK s r hl ht)⟩
 .cases e
theorem aa0(h:fI K cl E X es ms):aX K cl E X (.List es pos) (mN cN ms):=by
 intro hK;subst hK;refine(Bq (h rfl)).imp ?_
 rintro σ H Q ⟨p,S,ρ,s,e,h⟩
 refine cK s e h λq H1 as xs S1 st s1 e1 r1 h1=>?_;refine Ki (r:=λxs H Q=>xs.length<=sizeLine/\∀t,H t=none->Q (.ref t) (bK H t (.lst xs))) (f:=cN) (λ{p S H as c xs Q} s r e k=>?_) s1 r1 h1;unfold cN at e;split at e
 .rename_i hl
  cases e;rw[r.length,<-jF]at hl;exact⟨hl,λt ht=>k _ _ (gX ht) (pJ s r hl ht)⟩
 .cases e
end
noncomputable section
open PySem PySem.Spec PyProof.Rows Bn
def dZ:MS:=λρ S=>.nx ρ S
def aI(a b:MS):MS:=λρ S=>match a ρ S with
 |.nx ρ1 S1=>b ρ1 S1
 |r=>r
def fK(m:ME):MS:=λρ S=>cP.of (m ρ S) λ_ S1=>.nx ρ S1
def bC(m:ME):MS:=λρ S=>cP.of (m ρ S) λv S1=>.rt v S1
def ab3:MS:=λ_ S=>.rt (.pv .non) S
def cZ(c:MT)(a b:MS):MS:=λρ S=>cP.of (c ρ S) λt S1=>if t=true then a ρ S1 else b ρ S1
def aQ(i:Nat)(m:ME):MS:=λρ S=>cP.of (m ρ S) λv S1=>.nx (ρ.set i (some v)) S1
def mW(i j:Nat)(m:MA):MS:=λρ S=>cP.of (m ρ S) λvs S1=>match vs with
 |[v,w]=>.nx ((ρ.set i (some v)).set j (some w)) S1
 |_=>.fail
abbrev GM:=PV->bY->Option bY
abbrev lV:=AK->bY->Option bY
def gN(i:Nat):GM:=λv ρ=>some (ρ.set i (some (.pv v)))
def cQ:lV:=λvs ρ=>match vs with
 |[]=>some ρ
 |_=>none
def bV(g:GM)(gs:lV):lV:=λvs ρ=>match vs with
 |[]=>none
 |v::r=>match g v ρ with
  |some ρ1=>gs r ρ1
  |none=>none
def gT(n:Nat)(gs:lV):GM:=λv ρ=>match v with
 |.tup vs=>if vs.length=n then gs vs ρ else none
 |_=>none
def sA(g:GM)(m:ME):MS:=λρ S=>cP.of (m ρ S) λv S1=>match v with
 |.pv v=>match g v ρ with
  |some ρ1=>.nx ρ1 S1
  |none=>.fail
 |_=>.fail
abbrev Gd:=List (Nat×AK)
def fS(G:Gd)(S:aG):Prop:=∀g∈G,S[g.1]?=some (.lst g.2)
theorem iU(S:aG):fS [] S:=λ_ h=>nomatch h
abbrev MI:=bY->aG->cD (AK×Gd)
open Classical in
def cM(G:Gd)(g:GM)(mb:MS):AK->bY->aG->cP
 |[],ρ,S=>if fS G S then .nx ρ S else .fail
 |x::r,ρ,S=>if fS G S then(match g x ρ with
  |none=>.fail
  |some ρ1=>match mb ρ1 S with
   |.nx ρ2 S2=>cM G g mb r ρ2 S2
   |.ct ρ2 S2=>cM G g mb r ρ2 S2
   |.bk ρ2 S2=>.nx ρ2 S2
   |.rt v S2=>.rt v S2
   |.exc n S2=>.exc n S2
   |.fail=>.fail)else .fail
def bR(mi:MI)(g:GM)(mb:MS):MS:=λρ S=>cP.of (mi ρ S) λxs S1=>cM xs.2 g mb xs.1 ρ S1
theorem eQ{g:GM}{mb:MS}{ρ:bY}{S:aG}:cM [] g mb [] ρ S=.nx ρ S:=by
 unfold cM;rw[if_pos (iU S)]
theorem dM{g:GM}{mb:MS}{x:PV}{r:AK}{ρ:bY}{S:aG}:cM [] g mb (x::r) ρ S=(match g x ρ with
  |none=>.fail
  |some ρ1=>match mb ρ1 S with
   |.nx ρ2 S2=>cM [] g mb r ρ2 S2
   |.ct ρ2 S2=>cM [] g mb r ρ2 S2
   |.bk ρ2 S2=>.nx ρ2 S2
   |.rt v S2=>.rt v S2
   |.exc n S2=>.exc n S2
   |.fail=>.fail):=by
 rw[cM,if_pos (iU S)]
def eK(c:MT)(mb:MS):Nat->bY->aG->cP
 |0,_,_=>.fail
 |n+1,ρ,S=>cP.of (c ρ S) λt S1=>if t=true then(match mb ρ S1 with
   |.nx ρ2 S2=>eK c mb n ρ2 S2
   |.ct ρ2 S2=>eK c mb n ρ2 S2
   |.bk ρ2 S2=>.nx ρ2 S2
   |.rt v S2=>.rt v S2
   |.exc n S2=>.exc n S2
   |.fail=>.fail)else .nx ρ S1
open Classical in
def nT(c:MT)(mb:MS):MS:=λρ S=>if h:∃n,eK c mb n ρ S≠.fail then eK c mb h.choose ρ S else .fail
theorem cP.of_ok{α:Type}{r:cD α}{k k':α->aG->cP}(h:∀a S,k a S≠.fail->k' a S=k a S)(n:cP.of r k≠.fail):cP.of r k'=cP.of r k:=by
 cases r with
 |ok a S=>exact h a S n
 |exc=>rfl
 |fail=>rfl
theorem zQ{c:MT}{mb:MS}:∀{n:Nat}{ρ:bY}{S:aG},eK c mb n ρ S≠.fail->eK c mb (n+1) ρ S=eK c mb n ρ S
 |0,_,_,h=>absurd rfl h
 |n+1,ρ,S,h=>by
  unfold eK at h;rw[eK]
  conv=>rhs;rw[eK]
  refine cP.of_ok (λt S1 h1=>?_) h
  by_cases ht:t=true
  .simp only[if_pos ht]at h1⊢
   cases z:mb ρ S1 with
   |nx ρ2 S2=>rw[z]at h1;exact zQ h1
   |ct ρ2 S2=>rw[z]at h1;exact zQ h1
   |_=>rfl
  .simp only[if_neg ht]at h1⊢
theorem Ea{c:MT}{mb:MS}{n:Nat}{ρ:bY}{S:aG}(h:eK c mb n ρ S≠.fail):∀k,eK c mb (n+k) ρ S=eK c mb n ρ S
 |0=>rfl
 |k+1=>by
  have ih:=Ea h k;rw[<-Nat.add_assoc,zQ (by rw[ih];exact h),ih]
theorem La{c:MT}{mb:MS}{n:Nat}{ρ:bY}{S:aG}{r:cP}(e:eK c mb n ρ S=r)(h:r≠.fail):nT c mb ρ S=r:=by
 have h':∃n,eK c mb n ρ S≠.fail:=⟨n,by rw[e];exact h⟩;unfold nT;rw[dif_pos h'];have e2:=h'.choose_spec;rcases Nat.le_total n h'.choose with l |l
 .obtain⟨k,q⟩:=g9 l
  rw[q,Ea (by rw[e];exact h),e]
 .obtain⟨k,q⟩:=g9 l
  have z:=Ea e2 k;rw[<-q,e]at z;exact z.symm
section
variable{K:ae}{cl:Str->Addr}{E:XK}{X:Cx}{a b c e tg:ag}{es:List ag}{m:ME}{mt:MT}{ms:MA}{b1 b2:MS}{st:Stmt}{sts sts':List Stmt}{pos:ai}
theorem eM.set{p:Ph}{H:Hp}{ρ:bY}{σ:St}{v:AV}{x:V}(h:eM K p H ρ σ)(r:cX K p H v x)(i:Nat):eM K p H (ρ.set i (some v)) (σ.set i (some x)):=by
 refine⟨by rw[il,il,h.len],λj u e=>?_⟩
 by_cases q:i=j
 .subst q
  by_cases l:i<ρ.length
  .rw[ie l]at e
   cases e;exact⟨x,ie (by rw[<-h.len];exact l),r⟩
  .rw[wv (by rw[il];omega)]at e
   cases e
 .rw[jf q]at e⊢
  exact h.at_ j u e
theorem J6:fX K cl E X [] dZ:=λ_=>fF.imp X6 λD σ H ⟨p,S,ρ,s,e,h⟩=>h p H σ s.step s e
theorem dR.nxD{p:Ph}{H:Hp}{ρ:bY}{S:aG}{D:lQ}(h:dR K cl p H (.nx ρ S) D E){σ:St}(s:bF K p S H)(e:eM K p H ρ σ):D.nx σ H:=h p H σ s.step s e
theorem Hj(h1:eN K cl E X st b1)(h2:fX K cl E X sts b2):fX K cl E X (st::sts) (aI b1 b2):=by
 intro hK;subst hK;refine fF.imp (Kk (h1 rfl) (h2 rfl)) λD σ H ⟨p,S,ρ,s,e,h⟩=>⟨p,S,ρ,s,e,?_⟩;unfold aI at h;cases z:b1 ρ S with
 |nx ρ1 S1=>
  rw[z]at h;exact λq H' σ' stp sm ev=>⟨q,S1,ρ1,sm,ev,dR.mono (r:=b2 ρ1 S1) h stp⟩
 |bk ρ1 S1=>rw[z]at h;exact h
 |ct ρ1 S1=>rw[z]at h;exact h
 |rt v S1=>rw[z]at h;exact h
 |exc n S1=>rw[z]at h;exact h
 |fail=>rw[z]at h;exact h
theorem Fl(h1:eN K cl E X st b1):fX K cl E X [st] b1:=λhK=>Oc (h1 hK)
theorem A6(he:aX K cl E X e m)(hs:swapsWith e none pos.line X.env=pure false:=by rfl):eN K cl E X (.Expr e pos) (fK m):=by
 intro hK;subst hK;refine PS.imp (O9 (he rfl) hs) ?_
 rintro D σ H ⟨p,S,ρ,s,e,h⟩
 exact iT s e h λq H' a b S' stp sm ev r k=>dR.nxD k sm ev
theorem An(he:aX K cl E X e m):eN K cl E X (.Return (some e) pos) (bC m):=by
 intro hK;subst hK;refine PS.imp (Op (he rfl)) ?_
 rintro D σ H ⟨p,S,ρ,s,e,h⟩
 exact iT s e h λq H' a b S' stp sm ev r k=>k q H' b sm.step sm r
theorem aaw(hc:fG K cl E X c mt)(ha:fX K cl E X sts b1)(hb:fX K cl E X sts' b2):eN K cl E X (.If c sts sts' pos) (cZ mt b1 b2):=by
 intro hK;subst hK;refine PS.imp (acI (hc rfl) (ha rfl) (hb rfl)) ?_
 rintro D σ H ⟨p,S,ρ,s,e,h⟩
 refine iT s e h λq H' a b S' stp sm ev r k=>?_;cases r;cases a with
 |true=>exact⟨q,S',ρ,sm,ev,k⟩
 |false=>exact⟨q,S',ρ,sm,ev,k⟩
theorem Hm{i:Nat}{x:Str}{pos':ai}(hN:X.N.Nodup)(hi:X.N[i]?=some x)(hx:jT X.env.scope x)(he:aX K cl E X e m)(hs:swapsWith e (some (.Name x pos')) pos.line X.env=pure false:=by rfl)
  (hf:X.fn x=true\/X.env.scope.names.lookup x=some .local:=by first |exact .inl rfl |exact .inr rfl |assumption):eN K cl E X (.Assign [.Name x pos'] e pos) (aQ i m):=by
 intro hK;subst hK;refine PS.imp (Qq hN hi hx (he rfl) hs hf) ?_
 rintro D σ H ⟨p,S,ρ,s,e,h⟩
 exact iT s e h λq H' a b S' stp sm ev r k=>dR.nxD k sm (ev.set r i)
theorem O2{i j:Nat}{x y:Str}{px py pt:ai}{kt k2 pt2}(hc:X.calm=true)(hN:X.N.Nodup)(hi:X.N[i]?=some x)(hj:X.N[j]?=some y)(hij:i≠j)
  (hx:X.env.scope.names.lookup x=some .local)(hy:X.env.scope.names.lookup y=some .local)(ha:fI K cl E X [a,b] ms)
  (hw:swappedStores [.Tuple [.Name x px,.Name y py] kt pt] (.Tuple [a,b] k2 pt2) X.env=pure (some [x,y]))
  (hs:swapsWithSole [.Tuple [.Name x px,.Name y py] kt pt] (.Tuple [a,b] k2 pt2) pos.line X.env=pure false:=by rfl):
  eN K cl E X (.Assign [.Tuple [.Name x px,.Name y py] kt pt] (.Tuple [a,b] k2 pt2) pos) (mW i j ms):=by
 intro hK;subst hK;refine PS.imp (aa1 hc hN hi hj hij hx hy (ha rfl) hw hs) ?_
 rintro D σ H ⟨p,S,ρ,s,e,h⟩
 refine iT s e h λq H' vs xs S' stp sm ev r k=>?_;cases r with
 |nil=>exact k.elim
 |cons r1 rr=>
  cases rr with
  |nil=>exact k.elim
  |cons r2 rs=>
   cases rs with
   |nil=>exact⟨_,_,rfl,dR.nxD k sm ((ev.set r1 i).set r2 j)⟩
   |cons _ _=>exact k.elim
def gP(K:ae)(g:GM):TG:=λx σ H Q=>∃p S ρ v ρ',bF K p S H/\eM K p H ρ σ/\aW K p.c H v x/\g v ρ=some ρ'/\∀σ',eM K p H ρ' σ'->Q σ' H
def gPs(K:ae)(g:lV):kU:=λxs σ H Q=>∃p S ρ vs ρ',bF K p S H/\eM K p H ρ σ/\aU K p.c H vs xs/\g vs ρ=some ρ'/\∀σ',eM K p H ρ' σ'->Q σ' H
variable(K X)
def lX(tg:ag)(g:GM):Prop:=X.K=K->PG X tg (gP K g)
def qE(ts:List ag)(g:lV):Prop:=X.K=K->kW X ts (gPs K g)
variable{K X}
theorem PG.imp{tg:ag}{t t':TG}(h:PG X tg t)(i:∀x σ H Q,t' x σ H Q->t x σ H Q):PG X tg t':=λAO s σ H v u Q I r q=>h AO s σ H v u Q I r (i v σ H Q q)
theorem kW.imp{ts:List ag}{t t':kU}(h:kW X ts t)(i:∀x σ H Q,t' x σ H Q->t x σ H Q):kW X ts t':=λAO s σ H v u Q I r q=>h AO s σ H v u Q I r (i v σ H Q q)
theorem J8{i:Nat}{x:Str}(hN:X.N.Nodup)(hi:X.N[i]?=some x)(hx:jT X.env.scope x)(hf:X.fn x=true\/X.env.scope.names.lookup x=some .local:=by first |exact .inl rfl |exact .inr rfl |assumption):lX K X (.Name x pos) (gN i):=
 λ_=>PG.imp (W8 hN hi hx hf) λx σ H Q ⟨p,S,ρ,v,ρ',s,ev,r,g,k⟩=>by
  cases g;exact k _ (ev.set (v:=.pv v) r i)
theorem B3:qE K X [] cQ:=λ_=>kW.imp aal λxs σ H Q ⟨p,S,ρ,vs,ρ',s,ev,r,g,k⟩=>by
 cases vs with
 |nil=>
  cases g;unfold aU at r;exact⟨r,k _ ev⟩
 |cons _ _=>cases g
theorem Fy{g:GM}{gs:lV}(h1:lX K X e g)(h2:qE K X es gs)(hs:(assignEach (e::es) X.env).map (·.2)=assign e X.env::(assignEach es X.env).map (·.2):=by rfl):qE K X (e::es) (bV g gs):=by
 intro hK;subst hK;refine kW.imp (M3 (h1 rfl) (h2 rfl) hs) ?_
 rintro xs σ H Q ⟨p,S,ρ,vs,ρ',s,ev,r,g1,k⟩
 cases vs with
 |nil=>cases g1
 |cons v vr=>
  unfold aU at r;obtain⟨x,xr,rfl,r1,r2⟩:=r;unfold bV at g1;cases z:g v ρ with
  |none=>simp only[z]at g1;cases g1
  |some ρ1=>
   simp only[z]at g1;exact⟨x,xr,rfl,p,S,ρ,v,ρ1,s,ev,r1,z,λσ' ev'=>⟨p,S,ρ1,vr,ρ',s,ev',r2,g1,k⟩⟩
theorem T8{k:Nat}{gs:lV}{n:Nat}(hc:X.calm=true)(h:qE K X es gs)(hn:(assignEach es X.env).length=n:=by rfl)(hst:(assignEach es X.env).findIdx? (·.1)=none:=by rfl):lX K X (.Tuple es k pos) (gT n gs):=by
 intro hK;subst hK;refine PG.imp (aa5 hc (h rfl) hn hst) ?_
 rintro x σ H Q ⟨p,S,ρ,v,ρ',s,ev,r,g1,k⟩
 cases v with
 |tup vs=>
  unfold aW at r;obtain⟨a,xs,rfl,t,z,r⟩:=r;unfold gT at g1;dsimp only at g1;split at g1
  .rename_i hl
   exact⟨a,xs,rfl,t,r.length.symm.trans hl,p,S,ρ,vs,ρ',s,ev,r,g1,k⟩
  .cases g1
 |_=>cases g1
theorem Y9{g:GM}(he:aX K cl E X e m)(hg:lX K X tg g)(hs:swapsWithSole [tg] e pos.line X.env=pure false:=by rfl)(hw:swappedStores [tg] e X.env=pure none:=by rfl)
  (h1:(assignEach [tg] X.env).map (·.2)=[assign tg X.env]:=by rfl):eN K cl E X (.Assign [tg] e pos) (sA g m):=by
 intro hK;subst hK;refine PS.imp (Uc (he rfl) (hg rfl) hs hw h1) ?_
 rintro D σ H ⟨p,S,ρ,s,e,h⟩
 refine iT s e h λq H' a b S' stp sm ev r k=>?_;cases a with
 |ref k'=>exact k.elim
 |pv v=>
  dsimp only at k;cases z:g v ρ with
  |none=>simp only[z]at k;exact k.elim
  |some ρ1=>
   simp only[z]at k;exact⟨q,S',ρ,v,ρ1,sm,ev,r,z,λσ' ev'=>dR.nxD k sm ev'⟩
def fU(K:ae)(p:Ph)(H:Hp)(xs:AK×Gd)(J:It):Prop:=xs.1.length<=sizeLine/\∀q H1 S1,cG p H q H1->bF K q S1 H1->fS xs.2 S1->
 (∀(i:Nat)(v:PV),xs.1[i]?=some v->J.go i H1/\∀x H2,J.yld i H1 x H2->dG H1 H2/\aW K q.c H2 v x)/\J.stop xs.1.length H1
theorem fU.step{p q:Ph}{H H':Hp}{xs:AK×Gd}{J:It}(h:fU K p H xs J)(s:cG p H q H'):fU K q H' xs J:=⟨h.1,λr H1 S1 t=>h.2 r H1 S1 (s.trans t)⟩
variable(K cl E X)
def PIp(tg iter:ag)(m:MI):Prop:=X.K=K->PI X tg iter (tP K cl E (fU K) m)
variable{K cl E X}
theorem PI.imp{tg iter:ag}{t t':TI}(h:PI X tg iter t)(i:∀σ H Q,t' σ H Q->t σ H Q):PI X tg iter t':=λAO s σ H R I q=>h AO s σ H R I (i σ H R q)
def adJ(K:ae)(tl:TE):TI:=λσ H R=>tl σ H λx H1=>∃a,x=.ref a/\(((∃xs,cE K H1 a xs)/\R (zE K a) H1)\/((∃xs,dJ K H1 a xs)/\R (Mf K a) H1))
theorem aaN{l:ag}{tl:TE}(hl:PE X l tl):PI X tg l (adJ X.K tl):=by
 intro AO s σ H R I h;refine bO (hl AO s σ H _ I h) ?_
 rintro v s1 ⟨x,H1,I1,r1,q1⟩
 obtain⟨a,e,q⟩:=q1;subst e;cases r1;rcases q with⟨⟨xs,hq⟩,q⟩|⟨⟨xs,hq⟩,q⟩
 .obtain⟨its,rv,p,hz⟩:=I1.list hq
  refine qk p.isList ?_;refine⟨s1.heap.objs.size,[s1.heap.objs.size],_,_,H1,rfl,I1.kept (t':=s1.toks) λb o e=>ay _ e,Kz a _,⟨_,dg _ rfl,rfl,rfl⟩,λb hb=>?_,q⟩;have e:b=s1.heap.objs.size:=by simpa using hb
  subst e;exact I1.fpOk (aq _) (I1.hok.fresh (aq _))
 .obtain⟨its,rv,p,hz⟩:=I1.tuple hq
  refine f6 (show s1.heap.IsTuple a its.toArray from p) ?_;refine⟨s1.heap.objs.size,[s1.heap.objs.size],_,_,H1,rfl,I1.kept (t':=s1.toks) λb o e=>ay _ e,Px a _,⟨_,dg _ rfl,rfl,rfl⟩,λb hb=>?_,q⟩;have e:b=s1.heap.objs.size:=by simpa using hb
  subst e;exact I1.fpOk (aq _) (I1.hok.fresh (aq _))
def bS:AV->aG->cD (AK×Gd)
 |.pv (.lst xs),S=>.ok (xs,[]) S
 |.pv (.tup xs),S=>.ok (xs,[]) S
 |.ref k,S=>match S[k]? with
  |some (.lst xs)=>.ok (xs,[(k,xs)]) S
  |_=>.fail
 |_,_=>.fail
def aY(m:ME):MI:=λρ S=>(m ρ S).bind bS
theorem abH{p:Ph}{H:Hp}{xs:AK}{a:Addr}{vs:List V}(l:kL K p.c H a vs)(z:vs.length<=sizeLine)(r:aU K p.c H xs vs):fU K p H (xs,[]) (zE K a):=by
 refine⟨by rw[r.length];exact z,λq H1 S1 st _ _=>⟨λi v e=>?_,?_⟩⟩
 .have l1:=(st.lat l).sq
  obtain⟨x,e1,r1⟩:=(st.reps r).get e;refine⟨⟨vs,x,l1,e1⟩,λy H2 hy=>?_⟩;obtain⟨rfl,hy⟩:=hy;have:=(hy vs l1).symm.trans e1;cases this;exact⟨dG.refl _,r1⟩
 .exact⟨vs,(st.lat l).sq,by rw[r.length];exact aq _⟩
theorem aaF{p:Ph}{H:Hp}{xs:AK}{a:Addr}{vs:List V}(l:dJ K H a vs)(z:vs.length<=sizeLine)(r:aU K p.c H xs vs):fU K p H (xs,[]) (Mf K a):=by
 refine⟨by rw[r.length];exact z,λq H1 S1 st _ _=>⟨λi v e=>?_,?_⟩⟩
 .have l1:=st.tup l
  obtain⟨x,e1,r1⟩:=(st.reps r).get e;refine⟨⟨vs,x,l1,e1⟩,λy H2 hy=>?_⟩;obtain⟨rfl,hy⟩:=hy;have:=(hy vs l1).symm.trans e1;cases this;exact⟨dG.refl _,r1⟩
 .exact⟨vs,st.tup l,by rw[r.length];exact aq _⟩
theorem aaH{p:Ph}{H:Hp}{xs:AK}{a:Addr}{k:Nat}{n:xs.length<=sizeLine}(hf:p.f[k]?=some a):fU K p H (xs,[(k,xs)]) (zE K a):=by
 refine⟨n,λq H1 S1 st sm g=>?_⟩;have e0:S1[k]?=some (.lst xs):=g (k,xs) ce;obtain⟨vs,h1,l1,r1⟩:=sm.obj k a _ (st.at_ hf) e0;refine⟨λi v e=>?_,?_⟩
 .obtain⟨x,e1,r2⟩:=r1.get e
  refine⟨⟨vs,x,cE.of h1,e1⟩,λy H2 hy=>?_⟩;obtain⟨rfl,hy⟩:=hy;have:=(hy vs (cE.of h1)).symm.trans e1;cases this;exact⟨dG.refl _,r2⟩
 .exact⟨vs,cE.of h1,by rw[r1.length];exact aq _⟩
theorem Q1(h:aX K cl E X e m):PIp K cl E X tg e (aY m):=by
 intro hK;subst hK;refine PI.imp (aaN (h rfl)) ?_
 rintro σ H R ⟨p,S,ρ,s,ev,h⟩
 refine cK s ev h λq H' v x S' stp sm ev r k=>?_;cases v with
 |ref j=>
  obtain⟨a,e,rfl⟩:=r;unfold bS at k;dsimp only at k;cases z:S'[j]? with
  |none=>rw[z]at k;exact k.elim
  |some o=>
   cases o with
   |lst xs=>
    rw[z]at k;obtain⟨vs,h1,l1,r1⟩:=sm.obj j a _ e z;exact⟨a,rfl,.inl ⟨⟨vs,cE.of h1⟩,cL.ret (R:=fU X.K) k sm (aaH (n:=by rw[r1.length];exact l1) e)⟩⟩
   |lol _=>rw[z]at k;exact k.elim
   |dic _ _=>rw[z]at k;exact k.elim
   |dol _ _=>rw[z]at k;exact k.elim
 |pv v=>
  cases v with
  |lst xs=>
   have r:aW X.K q.c H' (.lst xs) x:=r;unfold aW at r;obtain⟨a,vs,rfl,l,z,r⟩:=r;exact⟨a,rfl,.inl ⟨⟨vs,l.sq⟩,cL.ret (R:=fU X.K) k sm (abH l z r)⟩⟩
  |tup xs=>
   have r:aW X.K q.c H' (.tup xs) x:=r;unfold aW at r;obtain⟨a,vs,rfl,l,z,r⟩:=r;exact⟨a,rfl,.inr ⟨⟨vs,l⟩,cL.ret (R:=fU X.K) k sm (aaF l z r)⟩⟩
  |_=>exact k.elim
def eG(lo:Int)(n:Nat):AK:=(aw n).map λi=>.int (lo+(i:Nat))
def iE:AN->aG->cD (AK×Gd)
 |[.pv (.int j)],S1=>@ite _ (j<=16777216/\-16777216<=j) (ql _) (.ok (eG 0 j.toNat,[]) S1) .fail
 |_,_=>.fail
def dC(ms:MA):MI:=λρ S=>(ms ρ S).bind iE
def uO:AN->aG->cD (AK×Gd)
 |[.pv (.int i),.pv (.int j)],S1=>@ite _ ((-4611686018427387904<=i/\i<4611686018427387904/\-4611686018427387904<=j/\j<4611686018427387904)/\j-i<=16777216) (ql _) (.ok (eG i (j-i).toNat,[]) S1) .fail
 |_,_=>.fail
def jJ(ms:MA):MI:=λρ S=>(ms ρ S).bind uO
theorem Rq{p:Ph}{H:Hp}{lo:Int}{n:Nat}(h:n<=sizeLine):fU K p H (eG lo n,[]) (uR lo n):=by
 have hl:(eG lo n).length=n:=by unfold eG;rw[ak,gh]
 refine⟨by show(eG lo n).length<=_;rw[hl];exact h,λq H1 S1 st _ _=>⟨λi v e=>?_,?_⟩⟩
 .have hi:i<n:=by
   have:=(da.mp (show(eG lo n)[i]?=some v from e)).1;omega
  refine⟨hi,λx H2 hy=>?_⟩;obtain⟨rfl,rfl⟩:=hy;have e:(eG lo n)[i]?=some v:=e;unfold eG at e;rw[dk,List.getElem?_range hi]at e;cases e;refine⟨dG.refl _,?_⟩;unfold aW;rfl
 .show n<=(eG lo n).length
  rw[hl];exact aq n
theorem Kx{p:ai}(hg:Gl X "range")(hm:X.mg "range"=none)(ha:fI K cl E X [a] ms)(hs:starEach [a] X.env=[(false,eval a X.env)]:=by rfl):PIp K cl E X tg (.Call (.Name "range" p) [a] [] pos) (dC ms):=by
 intro hK;subst hK;refine PI.imp (Xy hg hm (ha rfl) hs) ?_
 rintro σ H R ⟨p,S,ρ,s,ev,h⟩
 refine cK s ev h λq H' vs xs S' stp sm ev r k=>?_;unfold iE at k;split at k
 .rename_i j
  cases r with
  |cons r1 r2=>
   cases r2;rename_i x;have e:x=.int j:=by
    have r1:aW X.K q.c H' (.int j) x:=r1;unfold aW at r1;exact r1
   subst e;split at k
   .rename_i hj
    have hz:=jF;exact⟨j,rfl,by omega,by omega,cL.ret (R:=fU X.K) k sm (Rq (by omega))⟩
   .exact k.elim
 .exact k.elim
theorem Mw{p:ai}(hg:Gl X "range")(hm:X.mg "range"=none)(ha:fI K cl E X [a,b] ms)(hs:starEach [a,b] X.env=[(false,eval a X.env),(false,eval b X.env)]:=by rfl)(hs2:starEach [b] X.env=[(false,eval b X.env)]:=by rfl):PIp K cl E X tg (.Call (.Name "range" p) [a,b] [] pos) (jJ ms):=by
 intro hK;subst hK;refine PI.imp (Dz hg hm (ha rfl) hs hs2) ?_
 rintro σ H R ⟨p,S,ρ,s,ev,h⟩
 refine cK s ev h λq H' vs xs S' stp sm ev r k=>?_;unfold uO at k;split at k
 .rename_i i j
  cases r with
  |cons r1 r2=>
   cases r2 with
   |cons r2 r3=>
    cases r3;rename_i x y;have e:x=.int i:=by
     have r1:aW X.K q.c H' (.int i) x:=r1;unfold aW at r1;exact r1
    have e2:y=.int j:=by
     have r1:aW X.K q.c H' (.int j) y:=r2;unfold aW at r1;exact r1
    subst e e2;split at k
    .rename_i hj
     have hz:=jF;exact⟨i,j,rfl,by omega,cL.ret (R:=fU X.K) k sm (Rq (by omega))⟩
    .exact k.elim
 .exact k.elim
theorem Z7{mi:MI}{g:GM}(hp:rh (model X.prog X.w) X.A X.env X.xe)(hc:X.calm=true)(hi:PIp K cl E X tg e mi)(hg:lX K X tg g)(hb:fX K cl E X sts b1)
  (hs:∀x,foldedSetIterable e X.env x=pure x:=by intro _;rfl):eN K cl E X (.For tg e sts [] pos) (bR mi g b1):=by
 intro hK;subst hK;refine PS.imp (abF hp hc (hi rfl) (hg rfl) (hb rfl) hs) ?_
 rintro D σ H ⟨p,S,ρ,s,ev,h⟩
 refine iT s ev h λq H' xg J S' stp sm ev it k=>?_;obtain⟨xs,G⟩:=xg;refine⟨λi n σ H=>n=xs.length-i/\i<=xs.length/\∃p S ρ,bF X.K p S H/\eM X.K p H ρ σ/\fU X.K p H (xs,G) J/\dR X.K cl p H (cM G g b1 (xs.drop i) ρ S) D E,⟨xs.length,by simp,ja _,q,S',ρ,sm,ev,it,by simpa using k⟩,?_⟩
 rintro i n σ1 H1 ⟨rfl,hi,p1,S1,ρ1,sm1,ev1,it1,k1⟩
 by_cases hlt:i<xs.length
 .have hx:xs[i]?=some xs[i]:=av hlt
  rw[ww hlt]at k1;unfold cM at k1;split at k1
  .rename_i gk
   obtain⟨g1,y1⟩:=(it1.2 p1 H1 S1 sm1.step sm1 gk).1 i _ hx;cases z:g xs[i] ρ1 with
   |none=>simp only[z]at k1;exact k1.elim
   |some ρ2=>
    simp only[z]at k1;refine .inr ⟨g1,λσ' H'=>i+1<=xs.length/\∃p S ρ,bF X.K p S H'/\eM X.K p H' ρ σ'/\fU X.K p H' (xs,G) J/\dR X.K cl p H' (cM G g b1 (xs.drop (i+1)) ρ S) D E,λσ' H' hN=>⟨xs.length-(i+1),by omega,rfl,hN⟩,λx H2 hy=>?_⟩;obtain⟨same,rx⟩:=y1 x H2 hy;have st2:=sm1.same same;have sm2:=sm1.ofSame same;refine⟨p1,S1,ρ1,xs[i],ρ2,sm2,st2.repE ev1,rx,z,λσ3 ev3=>⟨p1,S1,ρ2,sm2,ev3,?_⟩⟩;have it2:=it1.step st2;cases y:b1 ρ2 S1 with
    |nx ρ4 S4=>
     rw[y]at k1;exact λq5 H5 σ5 st5 sm5 ev5=>⟨hlt,q5,S4,ρ4,sm5,ev5,it2.step st5,dR.mono (r:=cM G g b1 (xs.drop (i+1)) ρ4 S4) k1 (st2.trans st5)⟩
    |ct ρ4 S4=>
     rw[y]at k1;exact λq5 H5 σ5 st5 sm5 ev5=>⟨hlt,q5,S4,ρ4,sm5,ev5,it2.step st5,dR.mono (r:=cM G g b1 (xs.drop (i+1)) ρ4 S4) k1 (st2.trans st5)⟩
    |bk ρ4 S4=>rw[y]at k1;exact dR.mono (r:=.nx ρ4 S4) k1 st2
    |rt v S4=>rw[y]at k1;exact dR.mono (r:=.rt v S4) k1 st2
    |exc v S4=>rw[y]at k1;exact dR.mono (r:=.exc v S4) k1 st2
    |fail=>rw[y]at k1;exact k1.elim
  .exact k1.elim
 .have e:i=xs.length:=by omega
  subst e;rw[i3]at k1;unfold cM at k1;split at k1
  .rename_i gk
   exact .inl ⟨(it1.2 p1 H1 S1 sm1.step sm1 gk).2,dR.nxD k1 sm1 ev1⟩
  .exact k1.elim
theorem Vy(hp:rh (model X.prog X.w) X.A X.env X.xe)(hc:fG K cl E X c mt)(hb:fX K cl E X sts b1):eN K cl E X (.While c sts [] pos) (nT mt b1):=by
 intro hK;subst hK;refine PS.imp (E3 hp (hc rfl) (hb rfl)) ?_
 rintro D σ H ⟨p,S,ρ,s,ev,h⟩
 unfold nT at h;split at h
 .rename_i hh
  refine⟨λn σ H=>∃p S ρ,bF X.K p S H/\eM X.K p H ρ σ/\dR X.K cl p H (eK mt b1 n ρ S) D E,⟨_,p,S,ρ,s,ev,h⟩,?_⟩
  rintro n σ1 H1 ⟨p1,S1,ρ1,sm1,ev1,k1⟩
  cases n with
  |zero=>exact k1.elim
  |succ n=>
   unfold eK at k1;refine iT sm1 ev1 k1 λq H2 t t' S2 stp sm2 ev2 r k2=>?_;cases r;cases t with
   |true=>
    rw[if_pos rfl]at k2⊢;refine⟨λσ' H'=>∃p S ρ,bF X.K p S H'/\eM X.K p H' ρ σ'/\dR X.K cl p H' (eK mt b1 n ρ S) D E,λσ' H' hN=>⟨n,wz n,hN⟩,q,S2,ρ1,sm2,ev2,?_⟩;cases y:b1 ρ1 S2 with
    |nx ρ4 S4=>
     rw[y]at k2;exact λq5 H5 σ5 st5 sm5 ev5=>⟨q5,S4,ρ4,sm5,ev5,dR.mono (r:=eK mt b1 n ρ4 S4) k2 st5⟩
    |ct ρ4 S4=>
     rw[y]at k2;exact λq5 H5 σ5 st5 sm5 ev5=>⟨q5,S4,ρ4,sm5,ev5,dR.mono (r:=eK mt b1 n ρ4 S4) k2 st5⟩
    |bk ρ4 S4=>rw[y]at k2;exact k2
    |rt v S4=>rw[y]at k2;exact k2
    |exc v S4=>rw[y]at k2;exact k2
    |fail=>rw[y]at k2;exact k2.elim
   |false=>
    rw[if_neg kw]at k2⊢;exact dR.nxD k2 sm2 ev2
 .exact h.elim
end
end
def fO(n:Nat)(xs:AN):bY:=xs.map some++jm (n-xs.length) none
def iD(n:Nat):AV->aG->cD AV
 |.pv v,S=>.ok (.pv v) (S.take n)
 |.ref k,S=>if k<n then .ok (.ref k) (S.take n)else match S[k]? with
  |some (.lst xs)=>.ok (.ref n) (S.take n++[.lst xs])
  |some (.dic b kvs)=>.ok (.ref n) (S.take n++[.dic b kvs])
  |_=>.fail
def frz(n:Nat):cD AV->cD AV
 |.ok (.ref k) S=>if k<n then .ok (.ref k) S else match S[k]? with
  |some (.lst xs)=>.ok (.pv (.lst xs)) (S.take n)
  |_=>.fail
 |r=>r
def kM(n:Nat):cP->cD AV
 |.rt v S=>iD n v S
 |.nx _ S=>.ok (.pv .non) (S.take n)
 |.exc e S=>.exc e (S.take n)
 |_=>.fail
def aR(np n:Nat)(b:MS)(xs:AN)(S:aG):cD AV:=if xs.length=np then kM S.length (b (fO n xs) S)else .fail
def kP{α:Type}:cD α->cD α
 |.ok a S=>.ok a S
 |_=>.fail
abbrev FM:=AN->aG->cD AV
def gM(f:FM)(ds:AK)(ms:MA):ME:=λρ S=>(ms ρ S).bind λxs S1=>frz S1.length (f (xs++ds.map .pv) S1)
def aO(f:FM)(ds:AK)(ms:MA):ME:=λρ S=>(ms ρ S).bind λxs S1=>frz S1.length (kP (f (xs++ds.map .pv) S1))
def rM(f:FM)(ds:AK)(ms:MA):ME:=λρ S=>(ms ρ S).bind λxs S1=>kP (f (xs++ds.map .pv) S1)
def kJ(K:ae)(cl:Str->Addr)(f:FM):Sp:=λvs H Q E=>∃p S xs,bF K p S H/\iC K p H xs vs/\cL K cl (cX K) p H (f xs S) Q E
def lO(K:ae)(cl:Str->Addr)(f:FM):Sp:=λvs H Q _=>kJ K cl f vs H Q E0
section
variable{K:ae}{cl:Str->Addr}{p q:Ph}{H H':Hp}{S S':aG}
theorem Di{c c':Addr->Prop}(h:∀a,c a->c' a){a:Addr}{vs:List V}(l:kL K c' H a vs):kL K c H a vs:=by
 rcases l with⟨l,n⟩|l |l
 .exact .inl ⟨l,λz=>n (h a z)⟩
 .exact .inr (.inl l)
 .exact .inr (.inr l)
theorem sP{c c':Addr->Prop}(h:∀a,c a->c' a){ps:AK}{vs:List V}(r:aU K c' H ps vs):aU K c H ps vs:=aU.mono (λ_ _ t=>t) (λ_ _ l=>Di h l) ps vs r
theorem Ei{c c':Addr->Prop}(h:∀a,c a->c' a){v:PV}{x:V}(r:aW K c' H v x):aW K c H v x:=aW.mono (λ_ _ t=>t) (λ_ _ l=>Di h l) v x r
theorem Kw{f g:List Addr}(h:f <+:g):g.take f.length=f:=by
 obtain⟨t,e⟩:=h;rw[<-e,List.take_left]
theorem Ma{α:Type}:∀{l:List α}{i j:Nat}{a:α},l.Nodup->l[i]?=some a->l[j]?=some a->i=j
 |[],i,j,a,_,e,_=>by simp at e
 |b::l,0,0,a,_,_,_=>rfl
 |b::l,0,j+1,a,n,e,f=>by
  simp at e f;subst e;exact absurd (ic f) (ky.mp n).1
 |b::l,i+1,0,a,n,e,f=>by
  simp at e f;subst f;exact absurd (ic e) (ky.mp n).1
 |b::l,i+1,j+1,a,n,e,f=>by
  exact congrArg (·+1) (Ma (l:=l) (a:=a) (ky.mp n).2 (by simpa using e) (by simpa using f))
theorem bF.cutX(D:Addr->Prop)(s:bF K p S H)(st:cG p H q H')(s':bF K q S' H')(hD:∀b,D b->H b=none)(hq:(∀b,D b->b∈q.f)\/∀k o,S'[k]?=some o->k<S.length->∃xs,o=.lst xs):
  let r:Ph:=⟨p.f,λb=>q.w b/\¬D b,λb=>q.c b/\¬D b⟩
  cG p H r H'/\bF K r (S'.take S.length) H':=by
 intro r;have nD:∀a,p.c a->¬D a:=λa c d=>by
  obtain⟨o,ho,_⟩:=s.mu a c;rw[hD a d]at ho;cases ho
 have le:S.length<=S'.length:=by
  have:=st.pre.length_le;rw[<-s.len,<-s'.len];exact this
 refine⟨⟨s.wc,s.mu,oq,λa h=>⟨st.mw a h,nD a (s.wc a h)⟩,λa h=>⟨st.mono a h,nD a h⟩,λ_ h g=>absurd h g,λa h=>st.nw a h.1,λa h=>st.nc a h.1,st.keep⟩,s.nd,by rw[s.len,rl];omega,λa h=>⟨st.mw a (s.sub a h),nD a (s.wc a (s.sub a h))⟩,λa h=>⟨s'.wc a h.1,h.2⟩,λa h=>s'.mu a h.1,λk a o e1 e2=>?_⟩;have hk:k<S.length:=by
  have:=(da.mp e1).1;rw[<-s.len];exact this
 have e2':S'[k]?=some o:=by
  rw[xa,if_pos hk]at e2;exact e2
 have z:=s'.obj k a o (st.at_ e1) e2';have shr:∀xs vs,aU K q.c H' xs vs->aU K r.c H' xs vs:=λxs vs=>sP (λb h=>h.1);have sub:∀b,b∉q.f->b∉p.f:=λb n h=>n (st.pre.subset h);rcases hq with hq |hq
 .exact z.mono (λ_ e=>e) (λb w f=>⟨⟨⟨w,λd=>f (hq b d)⟩,sub b f⟩,λ_ e=>e⟩) shr
 .obtain⟨xs,rfl⟩:=hq k o e2' hk
  obtain⟨vs,e,l,g⟩:=z;exact⟨vs,e,l,shr xs vs g⟩
theorem bF.cut(s:bF K p S H)(st:cG p H q H')(s':bF K q S' H'):cG p H ⟨p.f,λb=>q.w b/\¬False,λb=>q.c b/\¬False⟩ H'/\bF K ⟨p.f,λb=>q.w b/\¬False,λb=>q.c b/\¬False⟩ (S'.take S.length) H':=
 s.cutX (λ_=>False) st s' (λ_ h=>h.elim) (.inl λ_ h=>h.elim)
theorem Za(s:bF K p S H)(st:cG p H q H')(sm:bF K q S' H'){k:Nat}{a:Addr}(e:q.f[k]?=some a)(hk:¬k<S.length):a∉p.f/\H a=none/\¬p.c a:=by
 have na:a∉p.f:=λhm=>by
  obtain⟨j,hj,ej⟩:=jx hm;have e2:q.f[j]?=some a:=st.at_ (by rw[av hj,ej]);have hjk:j=k:=Ma sm.nd e2 e;rw[s.len]at hj;omega
 have hn:=st.nf a (ic e) na;refine⟨na,hn,λc=>?_⟩;obtain⟨o,ho,_⟩:=s.mu a c;rw[hn]at ho;cases ho
theorem wB{r:cD AV}{Q:VK}{E:XK}(s:bF K p S H)(h:cL K cl (cX K) p H (frz S.length r) Q E):cL K cl (cX K) p H r Q E:=by
 cases r with
 |exc n S1=>exact h
 |fail=>exact h
 |ok v S1=>
  cases v with
  |pv v=>exact h
  |ref k=>
   have h:cL K cl (cX K) p H (if k<S.length then .ok (.ref k) S1 else match S1[k]? with
    |some (.lst xs)=>.ok (.pv (.lst xs)) (S1.take S.length)
    |_=>.fail) Q E:=h
   split at h
   .exact h
   .rename_i hk
    cases z:S1[k]? with
    |none=>rw[z]at h;exact h.elim
    |some o=>
     cases o with
     |lol _=>rw[z]at h;exact h.elim
     |dic _ _=>rw[z]at h;exact h.elim
     |dol _ _=>rw[z]at h;exact h.elim
     |lst xs=>
      rw[z]at h;intro q H' x st sm r;obtain⟨a,e,rfl⟩:=r;obtain⟨na,hn,nc⟩:=Za s st sm e hk;obtain⟨st1,sm1⟩:=s.cutX (λb=>b=a) st sm (λb d=>d▸hn) (.inl λb d=>d▸ic e);obtain⟨vs,h1,l,r⟩:=sm.obj k a _ e z;refine h _ H' (.ref a) st1 sm1 ?_;show aW K (λb=>q.c b/\¬b=a) H' (.lst xs) (.ref a);unfold aW;exact⟨a,vs,rfl,.inl ⟨h1,λd=>d.2 rfl⟩,l,sP (λb h=>h.1) r⟩
theorem zW{r:cP}{Q:VK}{E:XK}(s:bF K p S H)(h:cL K cl (cX K) p H (kM S.length r) Q E):dR K cl p H r {nx:=λ_ H'=>Q .non H',rt:=Q} E:=by
 cases r with
 |nx ρ S1=>
  intro q H' σ st sm ev;obtain⟨st1,sm1⟩:=s.cut st sm;exact h _ H' .non st1 sm1 (by show aW K (λb=>q.c b/\¬False) H' .non .non;unfold aW;rfl)
 |exc n S1=>
  intro q H' st sm;obtain⟨st1,sm1⟩:=s.cut st sm;exact h _ H' st1 sm1
 |rt v S1=>
  intro q H' x st sm r;obtain⟨st1,sm1⟩:=s.cut st sm;cases v with
  |pv v=>exact h _ H' x st1 sm1 (show aW K (λb=>q.c b/\¬False) H' v x from Ei (λb h=>h.1) r)
  |ref k=>
   obtain⟨a,e,rfl⟩:=r;have h:cL K cl (cX K) p H (if k<S.length then .ok (.ref k) (S1.take S.length)else match S1[k]? with
    |some (.lst xs)=>.ok (.ref S.length) (S1.take S.length++[.lst xs])
    |some (.dic b kvs)=>.ok (.ref S.length) (S1.take S.length++[.dic b kvs])
    |_=>.fail) Q E:=h
   split at h
   .rename_i hk
    refine h _ H' (.ref a) st1 sm1 ⟨a,?_,rfl⟩;show p.f[k]?=some a;have hf:=Kw st.pre;rw[<-hf,xa,if_pos (by rw[s.len];exact hk)];exact e
   .rename_i hk
    have fin:∀o,S1[k]?=some o->cL K cl (cX K) p H (.ok (.ref S.length) (S1.take S.length++[o])) Q E->Q (.ref a) H':=λo z h=>by
     obtain⟨na,hn,nc⟩:=Za s st sm e hk;have l1:(S1.take S.length).length=S.length:=by rw[<-sm1.len,<-s.len]
     have ma:a∈q.f:=ic e;refine h ⟨p.f++[a],q.w,q.c⟩ H' (.ref a) ⟨s.wc,s.mu,⟨[a],rfl⟩,st.mw,st.mono,λb hb n=>?_,st.nw,st.nc,st.keep⟩ ⟨?_,?_,λb hb=>?_,sm.wc,sm.mu,λj b o e1 e2=>?_⟩ ⟨a,?_,rfl⟩
     .rcases dj.mp hb with z |z
      .exact absurd z n
      .have:b=a:=by simpa using z
       rw[this];exact hn
     .show(p.f++[a]).Nodup
      rw[i4];refine⟨s.nd,by simp,λb hb c hc z=>?_⟩;have:c=a:=by simpa using hc
      exact na (this▸z▸hb)
     .show(p.f++[a]).length=_
      rw[ca,ca,l1,s.len];rfl
     .rcases dj.mp hb with z |z
      .exact st.mw b (s.sub b z)
      .have:b=a:=by simpa using z
       rw[this];exact sm.sub a ma
     .by_cases hj:j<S.length
      .have e1':p.f[j]?=some b:=by
        have e1:(p.f++[a])[j]?=some b:=e1
        rwa[fu (by rw[s.len];exact hj)]at e1
       rw[fu (by rw[l1];exact hj),xa,if_pos hj]at e2;refine(sm.obj j b o (st.at_ e1') e2).mono (λ_ e=>e) (λc w f=>⟨⟨w,λm=>?_⟩,λ_ e=>e⟩) λ_ _ r=>r;rcases dj.mp m with z |z
       .exact f (st.pre.subset z)
       .have:c=a:=by simpa using z
        exact f (this▸ma)
      .have hj':j=S.length:=by
        have:=(da.mp e2).1;rw[ca,l1]at this;simp at this;omega
       subst hj';rw[ib (by rw[l1];exact aq _),l1,lb]at e2;have e1:(p.f++[a])[S.length]?=some b:=e1;rw[<-s.len,ib (aq _),lb]at e1;cases e1;cases e2;refine(sm.obj k a _ e z).mono (λ_ e=>e) (λc w f=>⟨⟨w,λm=>?_⟩,λ_ e=>e⟩) λ_ _ r=>r;rcases dj.mp m with z |z
       .exact f (st.pre.subset z)
       .have:c=a:=by simpa using z
        exact f (this▸ma)
     .show(p.f++[a])[S.length]?=some a
      rw[<-s.len,ib (aq _),lb];rfl
    split at h
    .rename_i z
     exact fin _ z h
    .rename_i z
     exact fin _ z h
    .exact h.elim
 |bk ρ S1=>exact h.elim
 |ct ρ S1=>exact h.elim
 |fail=>exact h.elim
theorem zU{N:List Str}{xs:AN}{vs:List V}(r:iC K p H xs vs):eM K p H (fO N.length xs) (L2.start N vs):=by
 have go:∀{xs:AN}{vs:List V},iC K p H xs vs->xs.length=vs.length:=λ{xs vs} r=>by
  induction r with
  |nil=>rfl
  |cons _ _ ih=>rw[cu,cu,ih]
 have get:∀{xs:AN}{vs:List V},iC K p H xs vs->∀(i:Nat)(v:AV),xs[i]?=some v->∃x,vs[i]?=some x/\cX K p H v x:=λ{xs vs} r=>by
  induction r with
  |nil=>intro i v e;simp at e
  |cons h _ ih=>
   intro i v e;cases i with
   |zero=>
    simp at e;subst e;exact⟨_,rfl,h⟩
   |succ i=>simpa using ih i v (by simpa using e)
 have hl:=go r;refine⟨by unfold fO L2.start;simp[hl],λi v e=>?_⟩;unfold fO at e;unfold L2.start
 by_cases hi:i<xs.length
 .rw[fu (by simpa using hi),dk]at e
  cases z:xs[i]? with
  |none=>rw[z]at e;cases e
  |some u=>
   rw[z]at e;cases e;obtain⟨x,e1,e2⟩:=get r i v z;refine⟨x,?_,e2⟩;rw[fu (by rw[ak,<-hl];exact hi),dk,e1];rfl
 .rw[ib (by rw[ak];omega),vk]at e
  split at e
  .cases e
  .cases e
end
section
variable{P:Program}{w:am}{K:ae}{mg:Str->AH}{base:Heap}{cl:Str->Addr}
theorem Qy{K:ae}{p:Ph}{H:Hp}{xs:AN}{vs:List V}(h:iC K p H xs vs):xs.length=vs.length:=by
 induction h with
 |nil=>rfl
 |cons _ _ ih=>rw[cu,cu,ih]
theorem Dd{np n:Nat}{b:MS}{vs:List V}{H:Hp}{Q:VK}{E:XK}(h:kJ K cl (aR np n b) vs H Q E):vs.length=np:=by
 obtain⟨p,S,xs,sm,ra,h⟩:=h;unfold aR at h;split at h
 .rename_i e
  rw[<-Qy ra,e]
 .exact h.elim
theorem Iu{x qual:Str}{st:Stmt}{f:Addr}{fd:br}{N ps:List Str}{k np n:Nat}{b:MS}(F:jB K x qual st f fd)(S:jI N ps (cV st))(hnp:ps.length=np)(hn:N.length=n)
  (hb:∀(cdv:Value)(A:ao)(outer:List bi)(s:aa)(H:Hp)(E:XK),dQ k (A.deeper (envOfC qual (cV st) s.heap.objs.size f cdv))->fX K cl E0 (dF fV P w K mg base N qual (cV st) f cdv A outer s H E).nox (fB st) b):
  eD P w K mg base fV (k+1) f fd ps (lO K cl (aR np n b)):=by
 subst hnp hn;refine F.ok S (λvs H Q E h=>Dd h) λcdv A outer s H vs Q E hr h=>⟨_,hb cdv A outer s H E hr rfl,?_⟩;obtain⟨p,S,xs,sm,ra,h⟩:=h;unfold aR at h;split at h
 .exact⟨p,S,_,sm,zU ra,zW sm h⟩
 .exact h.elim
theorem okX{x qual:Str}{st:Stmt}{f:Addr}{fd:br}{N ps:List Str}{k np n:Nat}{b:MS}(F:jB K x qual st f fd)(S:jI N ps (cV st))(hnp:ps.length=np)(hn:N.length=n)
  (hb:∀(cdv:Value)(A:ao)(outer:List bi)(s:aa)(H:Hp)(E:XK),dQ k (A.deeper (envOfC qual (cV st) s.heap.objs.size f cdv))->fX K cl E (dF (dA P w) P w K mg base N qual (cV st) f cdv A outer s H E) (fB st) b):
  eD P w K mg base (dA P w) (k+1) f fd ps (kJ K cl (aR np n b)):=by
 subst hnp hn;refine F.okX S (λvs H Q E h=>Dd h) λcdv A outer s H vs Q E hr h=>⟨_,hb cdv A outer s H E hr rfl,?_⟩;obtain⟨p,S,xs,sm,ra,h⟩:=h;unfold aR at h;split at h
 .exact⟨p,S,_,sm,zU ra,zW sm h⟩
 .exact h.elim
theorem adX{x qual:Str}{st:Stmt}{f:Addr}{fd:br}{ds:Array Value}{N ps:List Str}{k np n:Nat}{b:MS}(F:mT K x qual st f fd ds)(S:jI N ps (cV st))(hnp:ps.length=np)(hn:N.length=n)
  (hb:∀(cdv:Value)(A:ao)(outer:List bi)(s:aa)(H:Hp)(E:XK),dQ k (A.deeper (envOfC qual (cV st) s.heap.objs.size f cdv))->fX K cl E (dF (dA P w) P w K mg base N qual (cV st) f cdv A outer s H E) (fB st) b):
  eD P w K mg base (dA P w) (k+1) f fd ps (kJ K cl (aR np n b)):=by
 subst hnp hn;refine F.okX S (λvs H Q E h=>Dd h) λcdv A outer s H vs Q E hr h=>⟨_,hb cdv A outer s H E hr rfl,?_⟩;obtain⟨p,S,xs,sm,ra,h⟩:=h;unfold aR at h;split at h
 .exact⟨p,S,_,sm,zU ra,zW sm h⟩
 .exact h.elim
theorem x0{f:Addr}{fd:br}{ps:List Str}{k:Nat}{g:FM}(F:eD P w K mg base (dA P w) k f fd ps (kJ K cl g)):eD P w K mg base fV k f fd ps (lO K cl g):=
 ⟨λvs H Q E h=>F.len vs H Q E0 h,λA outer s H args us vs Q E hr e0 hb hv h=>qe (F.run A outer s H args us vs Q E0 hr e0 hb hv h) λr s' hq=>by
  cases r with
  |error e=>
   obtain⟨_,_,_,_,_,_,_,_,_,_,_,_,z⟩:=hq;exact z
  |ok fl=>
   cases fl with
   |ret u=>exact hq
   |next=>exact hq
   |brk=>exact hq
   |cont=>exact hq⟩
end
section
variable{K:ae}{cl:Str->Addr}{E:XK}{X:Cx}{e:ag}{es:List ag}{ms:MA}{pos p:ai}{k n:Nat}{f:Addr}{fd:br}{ps:List Str}{g:FM}{x:Str}{dvs:List V}{ds:AG}{dv:AK}
theorem sM{p:Ph}{H:Hp}{xs ys:AN}{vs ws:List V}(h:iC K p H xs vs)(g:iC K p H ys ws):iC K p H (xs++ys) (vs++ws):=by
 induction h with
 |nil=>exact g
 |cons h _ ih=>exact .cons h ih
def Dv(dv:AK)(dvs:List V):Prop:=∀K p H,iC K p H (dv.map .pv) dvs
theorem Dv.nil:Dv [] []:=λ_ _ _=>.nil
theorem aap(F:eD X.prog X.w X.K X.mg X.base fV k f fd ps (lO K cl g))(hr:dQ k X.A)(hg:Gl X x)(hm:X.mg x=some (.ref f))(hk:dq X.K (.ref f)=true)(hb:gO X.K fd ps ds)(hd:bI dvs ds)(hv:Dv dv dvs)
  (ha:fI K cl E0 X (e::es) ms)(hdb:(x==("__debug__":Str))=false:=by decide)(he:starEach (e::es) X.env=(false,eval e X.env)::starEach es X.env:=by rfl)(hpl:(backTo pos (starEach es X.env)).any (·.1)=false:=by rfl):
  aX K cl E0 X (.Call (.Name x p) (e::es) [] pos) (gM g dv ms):=by
 intro hK;refine PE.imp (wO F hr hg hm hk hb hd Ee (ha hK) hdb he hpl) ?_
 rintro σ H Q ⟨p,S,ρ,s,ev,h⟩
 exact cK s ev h λq H' as xs S' stp sm ev r k=>⟨q,S',_,sm,sM r (hv K q H'),wB sm k⟩
theorem Fi{α β:Type}{R:Ph->Hp->α->β->Prop}{p:Ph}{H:Hp}{r:cD α}{Q:β->Hp->Prop}(h:cL K cl R p H (kP r) Q E):cL K cl R p H r Q E0:=by
 cases r with
 |ok a S=>exact h
 |exc n S=>exact h.elim
 |fail=>exact h.elim
theorem J2(F:eD X.prog X.w X.K X.mg X.base fV k f fd ps (lO K cl g))(hr:dQ k X.A)(hg:Gl X x)(hm:X.mg x=some (.ref f))(hk:dq X.K (.ref f)=true)(hb:gO X.K fd ps ds)(hd:bI dvs ds)(hv:Dv dv dvs)
  (ha:fI K cl E X (e::es) ms)(hdb:(x==("__debug__":Str))=false:=by decide)(he:starEach (e::es) X.env=(false,eval e X.env)::starEach es X.env:=by rfl)(hpl:(backTo pos (starEach es X.env)).any (·.1)=false:=by rfl):
  aX K cl E X (.Call (.Name x p) (e::es) [] pos) (aO g dv ms):=by
 intro hK;refine PE.imp (wO F hr hg hm hk hb hd Ee (ha hK) hdb he hpl) ?_
 rintro σ H Q ⟨p,S,ρ,s,ev,h⟩
 exact cK s ev h λq H' as xs S' stp sm ev r k=>⟨q,S',_,sm,sM r (hv K q H'),Fi (wB sm k)⟩
theorem E6(F:eD X.prog X.w X.K X.mg X.base fV k f fd ps (lO K cl g))(hr:dQ k X.A)(hg:Gl X x)(hm:X.mg x=some (.ref f))(hk:dq X.K (.ref f)=true)(hb:gO X.K fd ps ds)(hd:bI dvs ds)(hv:Dv dv dvs)
  (ha:fI K cl E X (e::es) ms)(hdb:(x==("__debug__":Str))=false:=by decide)(he:starEach (e::es) X.env=(false,eval e X.env)::starEach es X.env:=by rfl)(hpl:(backTo pos (starEach es X.env)).any (·.1)=false:=by rfl):
  aX K cl E X (.Call (.Name x p) (e::es) [] pos) (rM g dv ms):=by
 intro hK;refine PE.imp (wO F hr hg hm hk hb hd Ee (ha hK) hdb he hpl) ?_
 rintro σ H Q ⟨p,S,ρ,s,ev,h⟩
 exact cK s ev h λq H' as xs S' stp sm ev r k=>⟨q,S',_,sm,sM r (hv K q H'),Fi k⟩
theorem F5{P:Program}{w:am}{mg:Str->AH}{base:Heap}{N:List Str}{qual:Str}{scope:Scope}{fo:Addr}{cd:Value}{A:ao}{outer:List bi}{AQ:aa}{AR:Hp}
  (F:eD P w K mg base (dA P w) k f fd ps (kJ K cl g))(hr:dQ k (dF (dA P w) P w K mg base N qual scope fo cd A outer AQ AR E).A)(hg:Gl (dF (dA P w) P w K mg base N qual scope fo cd A outer AQ AR E) x)(hm:mg x=some (.ref f))(hk:dq K (.ref f)=true)(hb:gO K fd ps ds)(hd:bI dvs ds)(hv:Dv dv dvs)
  (ha:fI K cl E (dF (dA P w) P w K mg base N qual scope fo cd A outer AQ AR E) (e::es) ms)(hdb:(x==("__debug__":Str))=false:=by decide)
  (he:starEach (e::es) (dF (dA P w) P w K mg base N qual scope fo cd A outer AQ AR E).env=(false,eval e (dF (dA P w) P w K mg base N qual scope fo cd A outer AQ AR E).env)::starEach es (dF (dA P w) P w K mg base N qual scope fo cd A outer AQ AR E).env:=by rfl)
  (hpl:(backTo pos (starEach es (dF (dA P w) P w K mg base N qual scope fo cd A outer AQ AR E).env)).any (·.1)=false:=by rfl):
  aX K cl E (dF (dA P w) P w K mg base N qual scope fo cd A outer AQ AR E) (.Call (.Name x p) (e::es) [] pos) (gM g dv ms):=by
 intro hK;refine PE.imp (wO F hr hg hm hk hb hd acD (ha hK) hdb he hpl) ?_
 rintro σ H Q ⟨p,S,ρ,s,ev,h⟩
 exact cK s ev h λq H' as xs S' stp sm ev r k=>⟨q,S',_,sm,sM r (hv K q H'),wB sm k⟩
def pP(n:Str):MS:=λ_ S=>.exc n S
theorem Lz{P:Program}{w:am}{mg:Str->AH}{base:Heap}{N:List Str}{qual:Str}{scope:Scope}{f:Addr}{cd:Value}{A:ao}{outer:List bi}{AQ:aa}{AR:Hp}
  {txt:Str}{j:Nat}{np p1 cpos:ai}(hg:Gl (dF (dA P w) P w K mg base N qual scope f cd A outer AQ AR E) x)(hm:mg x=some (.ref (cl x)))(hx:gg K (cl x) iV "ValueError.__new__"=true)
  (hd:(x==("__debug__":Str))=false:=by decide):
  eN K cl E (dF (dA P w) P w K mg base N qual scope f cd A outer AQ AR E) (.Raise (some (.Call (.Name x np) [.Constant (.str txt) j p1] [] cpos)) none pos) (pP x):=
 λ_=>PS.imp (J7 hg hm hx hd) λD σ H ⟨p,S,ρ,s,ev,h⟩=>h p H s.step s
end
def bZ(own:List Str)(cap:List (Nat×Str))(ρ:bY):bY:=own.map (λ_=>none)++cap.map λp=>(ρ[p.1]?).join
open Classical in
noncomputable def cF(G:Gd)(g:GM)(me:ME):AK->bY->aG->cD AK
 |[],_,S=>if fS G S then .ok [] S else .fail
 |x::r,ρ,S=>if fS G S then(match g x ρ with
  |none=>.fail
  |some ρ1=>match me ρ1 S with
   |.ok (.pv y) S1=>match cF G g me r ρ1 S1 with
    |.ok ys S2=>.ok (y::ys) S2
    |_=>.fail
   |_=>.fail)else .fail
theorem dB{g:GM}{me:ME}{ρ:bY}{S:aG}:cF [] g me [] ρ S=.ok [] S:=by
 unfold cF;rw[if_pos (iU S)]
theorem dE{g:GM}{me:ME}{x:PV}{r:AK}{ρ:bY}{S:aG}:cF [] g me (x::r) ρ S=(match g x ρ with
  |none=>.fail
  |some ρ1=>match me ρ1 S with
   |.ok (.pv y) S1=>match cF [] g me r ρ1 S1 with
    |.ok ys S2=>.ok (y::ys) S2
    |_=>.fail
   |_=>.fail):=by
 rw[cF,if_pos (iU S)]
noncomputable def aT(own:List Str)(cap:List (Nat×Str))(mi:MI)(g:GM)(me:ME):ME:=λρ S=>(mi ρ S).bind λxs S1=>(cF xs.2 g me xs.1 (bZ own cap ρ) S1).bind λys S2=>.ok (.pv (.lst ys)) S2
theorem Yv{G:Gd}{g:GM}{me:ME}:∀(xs:AK)(ρ:bY)(S:aG)(n:Str)(S':aG),cF G g me xs ρ S≠.exc n S'
 |[],_,_,_,_,e=>by
  unfold cF at e;split at e<;>cases e
 |x::r,ρ,S,n,S',e=>by
  unfold cF at e;split at e
  .split at e
   .cases e
   .split at e
    .split at e
     .cases e
     .cases e
    .cases e
  .cases e
theorem Ul{G:Gd}{g:GM}{me:ME}{xs zs:AK}{ρ:bY}{S S':aG}(e:cF G g me xs ρ S=.ok zs S'):fS G S:=by
 cases xs with
 |nil=>
  unfold cF at e;split at e
  .assumption
  .cases e
 |cons x r=>
  unfold cF at e;split at e
  .assumption
  .cases e
section
variable{K:ae}{cl:Str->Addr}{E:XK}{X:Cx}{p q:Ph}{H H':Hp}{S:aG}
theorem M6{ρ:bY}{σ:St}{own:List Str}{cap:List (Nat×Str)}(h:eM K p H ρ σ):eM K p H (bZ own cap ρ) (kC own cap σ):=by
 refine⟨by unfold bZ kC;simp,λi v e=>?_⟩;unfold bZ at e;unfold kC
 by_cases hi:i<own.length
 .rw[fu (by simpa using hi),dk,av hi]at e
  cases e
 .rw[ib (by rw[ak];omega),dk,ak]at e⊢
  cases z:cap[i-own.length]? with
  |none=>rw[z]at e;cases e
  |some c=>
   rw[z]at e;have e:(ρ[c.1]?).join=some v:=cc e;have e':ρ[c.1]?=some (some v):=by
    cases y:ρ[c.1]? with
    |none=>rw[y]at e;cases e
    |some o=>rw[y]at e;exact congrArg some e
   obtain⟨x,e1,e2⟩:=h.at_ c.1 v e';refine⟨x,?_,e2⟩;show some ((σ[c.1]?).join)=some (some x);rw[e1];rfl
def Ph.res(p:Ph)(D:Addr):Ph:=⟨p.f,λa=>p.w a\/a=D,λa=>p.c a\/a=D⟩
def Ph.hold(p:Ph)(D:Addr):Ph:=⟨p.f,λa=>p.w a/\a≠D,p.c⟩
def Ph.less(p:Ph)(D:Addr):Ph:=⟨p.f,λa=>p.w a/\a≠D,λa=>p.c a/\a≠D⟩
theorem bF.notin(s:bF K p S H){D:Addr}(h:H D=none):¬p.c D:=λc=>by
 obtain⟨o,e,_⟩:=s.mu D c;rw[h]at e;cases e
theorem bF.res(s:bF K p S H){D:Addr}{o:HO}(h:H D=none)(mo:Mb o):cG p H (p.res D) (bK H D o)/\bF K (p.res D) S (bK H D o):=by
 have st:cG p H (p.res D) (bK H D o):=⟨s.wc,s.mu,oq,λa h=>.inl h,λa h=>.inl h,λa h g=>absurd h g,λa x n=>x.elim (λz=>absurd z n) (λz=>by rw[z];exact h),λa x n=>x.elim (λz=>absurd z n) (λz=>by rw[z];exact h),λa u e _=>by
  rw[dD (gI e h)];exact e⟩
 refine⟨st,s.nd,s.len,λa h=>.inl (s.sub a h),λa x=>x.elim (λz=>.inl (s.wc a z)) .inr,λa x=>?_,λk a u e1 e2=>?_⟩
 .by_cases z:a=D
  .rw[z,jG]
   exact⟨o,rfl,mo⟩
  .rw[dD z]
   exact s.mu a (x.elim id λy=>absurd y z)
 .exact(s.obj k a u e1 e2).mono (λvs e=>by rw[dD (gI e h)];exact e) (λb w f=>⟨⟨.inl w,f⟩,λvs e=>by rw[dD (gI e h)];exact e⟩) λ_ _ r=>st.reps r
theorem bF.resHold(s:bF K p S H){D:Addr}{o:HO}(h:H D=none)(mo:Mb o):bF K ((p.res D).hold D) S (bK H D o):=by
 obtain⟨st,sm⟩:=s.res (o:=o) h mo;have ne:∀a,p.w a->a≠D:=λa w z=>s.notin h (z▸s.wc a w);refine⟨sm.nd,sm.len,λa m=>⟨sm.sub a m,ne a (s.sub a m)⟩,λa x=>sm.wc a x.1,sm.mu,λk a u e1 e2=>?_⟩;exact(s.obj k a u e1 e2).mono (λvs e=>by rw[dD (gI e h)];exact e) (λb w f=>⟨⟨⟨.inl w,ne b w⟩,f⟩,λvs e=>by rw[dD (gI e h)];exact e⟩) λ_ _ r=>st.reps r
theorem cG.unhold{D:Addr}(h:p.w D)(st:cG (p.hold D) H q H')(s:bF K p S H):cG p H ⟨q.f,λa=>q.w a\/a=D,q.c⟩ H':=
 ⟨s.wc,s.mu,st.pre,λa x=>by
  by_cases z:a=D
  .exact .inr z
  .exact .inl (st.mw a ⟨x,z⟩),st.mono,st.nf,λa x n=>by
  rcases x with x |x
  .exact st.nw a x λz=>n z.1
  .exact absurd (x▸h) n,st.nc,λa o e n=>st.keep a o e λz=>n z.1⟩
theorem bF.grow{D:Addr}{ys:List V}{o:HO}(s:bF K p S H)(sh:bF K (p.hold D) S H)(w:p.w D)(n:D∉p.f)(mo:Mb o):cG p H p (bK H D o)/\bF K p S (bK H D o)/\bF K (p.hold D) S (bK H D o):=by
 have st:cG p H p (bK H D o):=⟨s.wc,s.mu,oq,λ_ h=>h,λ_ h=>h,λ_ h g=>absurd h g,λ_ h g=>absurd h g,λ_ h g=>absurd h g,λa u e nw=>by
  rw[dD (λz:a=D=>nw (by rw[z];exact w))];exact e⟩
 have hm:∀a,p.c a->∃u,bK H D o a=some u/\Mb u:=λa x=>by
  by_cases z:a=D
  .rw[z,jG]
   exact⟨o,rfl,mo⟩
  .rw[dD z]
   exact s.mu a x
 refine⟨st,⟨s.nd,s.len,s.sub,s.wc,hm,λk a u e1 e2=>?_⟩,⟨sh.nd,sh.len,sh.sub,sh.wc,hm,λk a u e1 e2=>?_⟩⟩
 .have ne:a≠D:=λz=>n (z▸ic e1)
  exact(sh.obj k a u e1 e2).mono (λvs e=>by rw[dD ne];exact e) (λb w f=>⟨⟨w.1,f⟩,λvs e=>by rw[dD w.2];exact e⟩) λ_ _ r=>st.reps r
 .have ne:a≠D:=λz=>n (z▸ic e1)
  exact(sh.obj k a u e1 e2).mono (λvs e=>by rw[dD ne];exact e) (λb w f=>⟨⟨w,f⟩,λvs e=>by rw[dD w.2];exact e⟩) λ_ _ r=>st.reps r
theorem bF.toLess{D:Addr}(s:bF K (p.hold D) S H):bF K (p.less D) S H:=
 ⟨s.nd,s.len,s.sub,λa h=>⟨s.wc a h,h.2⟩,λa h=>s.mu a h.1,λk a o e1 e2=>
  (s.obj k a o e1 e2).mono (λ_ e=>e) (λb w f=>⟨⟨w,f⟩,λ_ e=>e⟩) λ_ _ r=>sP (λa h=>h.1) r⟩
theorem cG.toLess{D:Addr}(st:cG p H q H')(h:H D=none):cG p H (q.less D) H':=by
 have nD:∀a,p.c a->a≠D:=λa c z=>by
  obtain⟨o,e,_⟩:=st.mu a c;rw[z,h]at e;cases e
 exact⟨st.wc,st.mu,st.pre,λa x=>⟨st.mw a x,nD a (st.wc a x)⟩,λa x=>⟨st.mono a x,nD a x⟩,st.nf,λa x=>st.nw a x.1,λa x=>st.nc a x.1,st.keep⟩
variable{sc:Scope}{own:List Str}{cap:List (Nat×Str)}{elt target iter:ag}{pos:ai}{mi:MI}{g:GM}{me:ME}
theorem Ny{σ:St}{ρ:bY}{xs zs:AK}{G:Gd}{J:It}{Q:VK}{D:Addr}{S2:aG}(sm:bF K p S H)(ev:eM K p H ρ σ)(it:fU K p H (xs,G) J)(z:cF G g me xs (bZ own cap ρ) S=.ok zs S2)(hD:H D=none)
  (k:∀q H' vs,cG p H q H'->bF K q S2 H'->bF K (q.hold D) S2 H'->q.w D->D∉q.f->H' D=some (.lst vs)->vs.length<=sizeLine->aU K q.c H' zs vs->Q (.ref D) H'):
  yO J (gP K g) (tP K cl E0 (cX K) me) (kC own cap σ) H D Q:=by
 obtain⟨st0,sm0⟩:=sm.res (D:=D) (o:=.lst []) hD trivial;have sh0:=sm.resHold (D:=D) (o:=.lst []) hD trivial;have nf0:D∉p.f:=λh=>sm.notin hD (sm.wc D (sm.sub D h));refine W4 xs.length it.1 (λi σ1 H1 ys=>ys.length=i/\i<=xs.length/\H1 D=some (.lst ys)/\∃p1 S1 ρ1 us ws,(bF K p1 S1 H1/\bF K (p1.hold D) S1 H1)/\cG p H p1 H1/\p1.w D/\D∉p1.f/\eM K p1 H1 ρ1 σ1/\fU K p1 H1 (xs,G) J/\fS G S1/\aU K p1.c H1 us ys/\zs=us++ws/\cF G g me (xs.drop i) ρ1 S1=.ok ws S2) ?_ ?_ ?_ ?_ ?_
 .refine⟨rfl,ja _,jG,p.res D,S,bZ own cap ρ,[],zs,⟨sm0,sh0⟩,st0,.inr rfl,nf0,M6 (st0.repE ev),it.step st0,?_,.nil,rfl,by simpa using z⟩
  exact Ul z
 .rintro i σ1 H1 ys ⟨h1,_,h2,_⟩
  exact⟨h1,h2⟩
 .rintro i σ1 H1 ys hi ⟨_,_,_,p1,S1,ρ1,us,ws,⟨sm1,sh1⟩,st1,w1,f1,ev1,it1,g1,_⟩
  exact((it1.2 p1 H1 S1 sm1.step sm1 g1).1 i xs[i] (av hi)).1
 .rintro i σ1 H1 ys x H2 hi ⟨hl,_,hH,p1,S1,ρ1,us,ws,⟨sm1,sh1⟩,st1,w1,f1,ev1,it1,g1,r1,e1,c1⟩ hy
  obtain⟨same,rx⟩:=((it1.2 p1 H1 S1 sm1.step sm1 g1).1 i xs[i] (av hi)).2 x H2 hy;rw[ww hi]at c1;unfold cF at c1;rw[if_pos g1]at c1;split at c1
  .cases c1
  .rename_i ρ2 gz
   split at c1
   .rename_i y S3 mz
    split at c1
    .rename_i vs S4 cz
     cases c1;have st2:=sm1.same same;have sm2:=sm1.ofSame same;have smh:=sh1.ofSame same;have stS:cG p H p1 H2:=st1.trans st2;refine⟨p1,S1,ρ1,xs[i],ρ2,sm2,st2.repE ev1,rx,gz,λσ3 ev3=>⟨p1.hold D,S1,ρ2,smh,⟨ev3.len,ev3.at_⟩,?_⟩⟩;rw[mz];intro q H4 y' st4 sm4 ry;have hD2:H2 D=some (.lst ys):=same _ _ hH;have hD4:H4 D=some (.lst ys):=st4.keep D _ hD2 λz=>z.2 rfl;have fq:D∉q.f:=λh=>by
      have:=st4.nf D h f1;rw[hD2]at this;cases this
     have stU:=cG.unhold w1 st4 sm2;have nq:¬q.w D:=λz=>by
      have:=st4.nw D z λy=>y.2 rfl;rw[hD2]at this;cases this
     have smU:bF K ⟨q.f,λa=>q.w a\/a=D,q.c⟩ S3 H4:=⟨sm4.nd,sm4.len,λa h=>.inl (sm4.sub a h),λa h=>h.elim (sm4.wc a) λz=>z▸st4.mono D (sm2.wc D w1),sm4.mu,λk a o e1 e2=>
      (sm4.obj k a o e1 e2).mono (λ_ e=>e) (λb w f=>⟨⟨.inl w,f⟩,λ_ e=>e⟩) λ_ _ r=>r⟩
     have shU:bF K (Ph.hold ⟨q.f,λa=>q.w a\/a=D,q.c⟩ D) S3 H4:=⟨sm4.nd,sm4.len,λa h=>⟨.inl (sm4.sub a h),λz=>nq (z▸sm4.sub a h)⟩,λa h=>smU.wc a h.1,sm4.mu,λk a o e1 e2=>
      (sm4.obj k a o e1 e2).mono (λ_ e=>e) (λb w f=>⟨⟨⟨.inl w,λz=>nq (z▸w)⟩,f⟩,λ_ e=>e⟩) λ_ _ r=>r⟩
     obtain⟨stG,smG,shG⟩:=smU.grow (ys:=ys) (D:=D) (o:=.lst (ys++[y'])) shU (.inr rfl) fq trivial;have stA:=st2.trans (stU.trans stG);refine adh hi hD4 ⟨by rw[ca,hl];rfl,hi,jG,_,S3,ρ2,us++[y],vs,⟨smG,shG⟩,st1.trans stA,.inr rfl,fq,stG.repE (stU.repE ev3),it1.step stA,Ul cz,?_,by rw[e1,jr];rfl,cz⟩;exact(stA.reps r1).append (.cons (stG.rep ry) .nil)
    .cases c1
   .cases c1
 .rintro σ1 H1 ys ⟨hl,_,hH,p1,S1,ρ1,us,ws,⟨sm1,sh1⟩,st1,w1,f1,ev1,it1,g1,r1,e1,c1⟩
  rw[i3]at c1;unfold cF at c1;rw[if_pos g1]at c1;cases c1;refine⟨(it1.2 p1 H1 _ sm1.step sm1 g1).2,?_⟩;rw[jk]at e1;subst e1;exact k p1 H1 ys st1 sm1 sh1 w1 f1 hH (by rw[hl];exact it.1) r1
theorem Ra{σ:St}{ρ:bY}{xs:AK×Gd}{J:It}{Q:VK}{D:Addr}(sm:bF K p S H)(ev:eM K p H ρ σ)(it:fU K p H xs J)(k:cL K cl (cX K) p H ((cF xs.2 g me xs.1 (bZ own cap ρ) S).bind λys S2=>.ok (.pv (.lst ys)) S2) Q E)(hD:H D=none):
  yO J (gP K g) (tP K cl E0 (cX K) me) (kC own cap σ) H D Q:=by
 cases z:cF xs.2 g me xs.1 (bZ own cap ρ) S with
 |fail=>rw[z]at k;exact k.elim
 |exc n S'=>exact absurd z (Yv _ _ _ _ _)
 |ok zs S2=>
  rw[z]at k;have k:∀q H' x,cG p H q H'->bF K q S2 H'->aW K q.c H' (.lst zs) x->Q x H':=k;refine Ny sm ev it z hD λq H' vs st1 sm1 sh1 w1 f1 hH l1 r1=>?_;refine k (q.less D) H' (.ref D) (st1.toLess hD) sh1.toLess ?_;unfold aW;exact⟨D,vs,rfl,.inl ⟨hH,λz=>z.2 rfl⟩,l1,sP (λa h=>h.1) r1⟩
theorem Z5(k:iM X sc own cap)(hi:PIp K cl E X target iter mi)(hc:X.calm=true)(hg:∀C AQ AR ex,lX K (gL X sc (dH own cap) C AQ AR ex) target g)(he:∀C AQ AR ex,aX K cl E0 (gL X sc (dH own cap) C AQ AR ex) elt me)
  (hs:∀x,foldedSetIterable iter X.env x=pure x:=by intro _;rfl):aX K cl E X (.ListComp elt [⟨target,iter,[],0⟩] sc pos) (aT own cap mi g me):=by
 intro hK;refine PE.imp (Q4 k (hi hK) hc (λC AQ AR ex=>hg C AQ AR ex hK) (λC AQ AR ex=>he C AQ AR ex hK) hs) ?_
 rintro σ H Q ⟨p,S,ρ,s,ev,h⟩
 exact cK s ev h λq H' xs J S' stp sm ev it kk D hD=>Ra sm ev it kk hD
theorem K3{i:Nat}{x:Str}{py spos:ai}(hN:X.N.Nodup)(hx:X.N[i]?=some x)(hl:jT X.env.scope x)(k:iM X sc own cap)(hi:PIp K cl E X target iter mi)(hc:X.calm=true)(hg:∀C AQ AR ex,lX K (gL X sc (dH own cap) C AQ AR ex) target g)(he:∀C AQ AR ex,aX K cl E0 (gL X sc (dH own cap) C AQ AR ex) elt me)
  (hs:∀x,foldedSetIterable iter X.env x=pure x:=by intro _;rfl)(hsw:swapsWith (.ListComp elt [⟨target,iter,[],0⟩] sc pos) (some (.Name x py)) spos.line X.env=pure true:=by rfl)
  (hf:X.fn x=true\/X.env.scope.names.lookup x=some .local:=by first |exact .inl rfl |exact .inr rfl |assumption):
  eN K cl E X (.Assign [.Name x py] (.ListComp elt [⟨target,iter,[],0⟩] sc pos) spos) (aQ i (aT own cap mi g me)):=by
 intro hK;refine PS.imp (O7 hN hx hl k (hi hK) hc (λC AQ AR ex=>hg C AQ AR ex hK) (λC AQ AR ex=>he C AQ AR ex hK) hs hsw hf) ?_
 rintro D σ H ⟨p,S,ρ,s,ev,h⟩
 have h2:tP K cl E (cX K) (aT own cap mi g me) σ H λy H1=>D.nx (σ.set i (some y)) H1:=by
  refine⟨p,S,ρ,s,ev,?_⟩;unfold aQ at h;cases z:aT own cap mi g me ρ S with
  |ok v S1=>
   rw[z]at h;exact λq H' y st sm r=>h q H' _ st sm ((st.repE ev).set r i)
  |exc n S1=>rw[z]at h;exact h
  |fail=>rw[z]at h;exact h
 obtain⟨p,S,ρ,s,ev,h⟩:=h2;exact cK s ev h λq H' xs J S' stp sm ev it kk B hB=>Ra sm ev it kk hB
end
def kN:List (Option Bool)->Option (List Bool)
 |[]=>some []
 |some b::r=>match kN r with
  |some bs=>some (b::bs)
  |none=>none
 |none::_=>none
theorem Dh:∀{l:List (Option Bool)}{bs:List Bool},kN l=some bs->bs.length=l.length
 |[],_,e=>by cases e;rfl
 |some b::r,bs,e=>by
  unfold kN at e;split at e
  .rename_i cs h
   cases e;rw[cu,cu,Dh h]
  .cases e
 |none::r,_,e=>by cases e
theorem Ga:∀{l:List (Option Bool)}{bs:List Bool}{i:Nat}{o:Option Bool},kN l=some bs->l[i]?=some o->∃b,o=some b/\bs[i]?=some b
 |[],_,i,o,_,h=>by simp at h
 |some b::r,bs,i,o,e,h=>by
  unfold kN at e;split at e
  .rename_i cs h'
   cases e;cases i with
   |zero=>
    simp at h;exact⟨b,h.symm,rfl⟩
   |succ i=>simpa using Ga h' (by simpa using h)
  .cases e
 |none::r,_,_,_,e,_=>by cases e
def aP:Nat->PV->PV->Option Bool
 |_,.non,.non=>some true
 |_,.bl a,.bl b=>some (a==b)
 |_,.int a,.int b=>some (a==b)
 |_,.str a,.str b=>some (a==b)
 |n+1,.tup xs,.tup ys=>match kN (au (aP n) xs ys)with
  |some bs=>some (bs.all id&&xs.length==ys.length)
  |none=>none
 |n+1,.lst xs,.lst ys=>if xs.length=ys.length then(match kN (au (aP n) xs ys)with
  |some bs=>some (bs.all id)
  |none=>none)else some false
 |_,_,_=>none
theorem vY(bs:List Bool):((aw bs.length).all λj=>bs.getD j true)=bs.all id:=by
 rw[a6,jb,jb];constructor
 .intro h b hb
  obtain⟨j,hj,e⟩:=jx hb;have:=h j (by simpa using hj);simpa[ci,hj,e]using this
 .intro h j hj
  have hj:j<bs.length:=by simpa using hj
  have:=h bs[j] (di hj);simpa[ci,hj]using this
section
variable{X:Cx}{AO:List (Addr×Obj)}{σ:St}{H:Hp}{s:aa}{c:Addr->Prop}
theorem vZ{n:Nat}{xs ys:AK}{vs ws:List V}{its jts:AG}{bs:List Bool}{A:ao}
  (ih:∀(v w:PV)(x y:V)(u u':Value)(b:Bool),aW X.K c H v x->aW X.K c H w y->cA x u->cA y u'->aP n v w=some b->ot A s u u' b)
  (r1:aU X.K c H xs vs)(r2:aU X.K c H ys ws)(q1:bI vs its)(q2:bI ws jts)(e:kN (au (aP n) xs ys)=some bs):
  ∀j(h1:j<its.toArray.size)(h2:j<jts.toArray.size),ot A s its.toArray[j] jts.toArray[j] (bs.getD j true):=λj h1 h2=>by
 have l1:=r1.length.trans q1.length;have l2:=r2.length.trans q2.length;have g1:j<xs.length:=by rw[l1];simpa using h1
 have g2:j<ys.length:=by rw[l2];simpa using h2
 obtain⟨x,ex,rx⟩:=r1.get (av g1);obtain⟨y,ey,ry⟩:=r2.get (av g2);obtain⟨u,eu,ru⟩:=q1.get ex;obtain⟨u',eu',ru'⟩:=q2.get ey;have hz:(au (aP n) xs ys)[j]?=some (aP n xs[j] ys[j]):=by
  rw[qm,av g1,av g2]
 obtain⟨b,eb,eb'⟩:=Ga e hz;have e1:its.toArray[j]=u:=by
  rw[i5];rw[av (by simpa using h1)]at eu;exact cc eu
 have e2:jts.toArray[j]=u':=by
  rw[i5];rw[av (by simpa using h2)]at eu';exact cc eu'
 rw[e1,e2];have e3:bs.getD j true=b:=by simp[ci,eb']
 rw[e3];exact ih _ _ _ _ _ _ _ rx ry ru ru' eb
theorem tO{n:Nat}{xs ys:AK}{bs:List Bool}(e:kN (au (aP n) xs ys)=some bs):bs.length=min xs.length ys.length:=by
 rw[Dh e,fg]
theorem Gi(n:Nat)(v w:PV)(x:V)(b:Bool)(nt:∀xs,v≠.tup xs)(nl:∀xs,v≠.lst xs)(h:aW X.K c H v x)(g:aW X.K c H w x)(e:aP n v w=some b):b=true:=by
 cases v with
 |tup xs=>exact absurd rfl (nt xs)
 |lst xs=>exact absurd rfl (nl xs)
 |non=>
  cases w<;>first |(unfold aP at e;simp at e;done) |skip
  unfold aP at e;cases e;rfl
 |bl i=>
  cases w<;>first |(unfold aP at e;simp at e;done) |skip
  unfold aW at h g;subst h;injection g with g';subst g';unfold aP at e;cases e;exact beq_self_eq_true _
 |int i=>
  cases w<;>first |(unfold aP at e;simp at e;done) |skip
  unfold aW at h g;subst h;injection g with g';subst g';unfold aP at e;cases e;exact beq_self_eq_true _
 |str i=>
  cases w<;>first |(unfold aP at e;simp at e;done) |skip
  unfold aW at h g;subst h;injection g with g';subst g';unfold aP at e;cases e;exact beq_self_eq_true _
theorem Ak(I:aH X AO σ H s):∀(n:Nat)(v w:PV)(x:V)(b:Bool),aW X.K c H v x->aW X.K c H w x->aP n v w=some b->b=true:=by
 intro n
 induction n with
 |zero=>
  intro v w x b h g e;cases v with
  |tup xs=>unfold aP at e;simp at e
  |lst xs=>unfold aP at e;simp at e
  |_=>exact Gi 0 _ w x b (by intro _ z;cases z) (by intro _ z;cases z) h g e
 |succ n ih=>
  have items:∀(xs ys:AK)(vs:List V)(bs:List Bool),aU X.K c H xs vs->aU X.K c H ys vs->kN (au (aP n) xs ys)=some bs->bs.all id=true/\xs.length=ys.length:=λxs ys vs bs r1 r2 e=>by
   have ll:=r1.length.trans r2.length.symm;refine⟨?_,ll⟩;rw[jb];intro b hb;obtain⟨j,hj,ej⟩:=jx hb;have hj':=hj;rw[tO e]at hj';have g1:j<xs.length:=by omega
   have g2:j<ys.length:=by omega
   obtain⟨x,ex,rx⟩:=r1.get (av g1);obtain⟨y,ey,ry⟩:=r2.get (av g2);have:=ex.symm.trans ey;cases this;have hz:(au (aP n) xs ys)[j]?=some (aP n xs[j] ys[j]):=by
    rw[qm,av g1,av g2]
   obtain⟨b',eb,eb'⟩:=Ga e hz;rw[av hj,ej]at eb';cases eb';exact ih _ _ _ _ rx ry eb
  intro v w x b h g e;cases v with
  |tup xs=>
   cases w with
   |tup ys=>
    unfold aW at h g;obtain⟨a,vs,rfl,t1,_,r1⟩:=h;obtain⟨a',ws,e1,t2,_,r2⟩:=g;cases e1;have:=I.tuple_inj t1 t2;subst this;unfold aP at e;split at e
    .rename_i bs hb
     obtain⟨z1,z2⟩:=items xs ys vs bs r1 r2 hb;rw[z1,z2,beq_self_eq_true]at e;cases e;rfl
    .cases e
   |_=>unfold aP at e;simp at e
  |lst xs=>
   cases w with
   |lst ys=>
    unfold aW at h g;obtain⟨a,vs,rfl,t1,_,r1⟩:=h;obtain⟨a',ws,e1,t2,_,r2⟩:=g;cases e1;have:=I.list_inj t1.sq t2.sq;subst this;unfold aP at e;rw[if_pos (r1.length.trans r2.length.symm)]at e;split at e
    .rename_i bs hb
     obtain⟨z1,z2⟩:=items xs ys vs bs r1 r2 hb;rw[z1]at e;cases e;rfl
    .cases e
   |_=>unfold aP at e;simp at e
  |_=>exact Gi (n+1) _ w x b (by intro _ z;cases z) (by intro _ z;cases z) h g e
theorem Tq(I:aH X AO σ H s):∀(n:Nat)(v w:PV)(x y:V)(u u':Value)(b:Bool)(A:ao),A.units+n<cLine->aW X.K c H v x->aW X.K c H w y->cA x u->cA y u'->aP n v w=some b->ou A s u u' b/\ot A s u u' b:=by
 have flat:∀(n:Nat)(v w:PV)(x y:V)(u u':Value)(b:Bool)(A:ao),(∀xs,v≠.tup xs)->(∀xs,v≠.lst xs)->aW X.K c H v x->aW X.K c H w y->cA x u->cA y u'->aP n v w=some b->ou A s u u' b/\ot A s u u' b:=by
  intro n v w x y u u' b A nt nl h g r r' e;cases v with
  |tup xs=>exact absurd rfl (nt xs)
  |lst xs=>exact absurd rfl (nl xs)
  |non=>
   cases w<;>first |(unfold aP at e;simp at e;done) |skip
   unfold aW at h g;subst h g;cases r;cases r';unfold aP at e;cases e;exact⟨i6,xb _⟩
  |bl i=>
   cases w<;>first |(unfold aP at e;simp at e;done) |skip
   unfold aW at h g;subst h g;cases r;cases r';unfold aP at e;cases e;exact⟨i7 _ _,SeqAt.EqAt.bool_bool _ _⟩
  |int i=>
   cases w<;>first |(unfold aP at e;simp at e;done) |skip
   unfold aW at h g;subst h g;obtain⟨t,rfl⟩:=r;obtain⟨t',rfl⟩:=r';unfold aP at e;cases e;exact⟨i8 _ _ _ _,SeqAt.EqAt.int_int _ _ _ _⟩
  |str i=>
   cases w<;>first |(unfold aP at e;simp at e;done) |skip
   unfold aW at h g;subst h g;obtain⟨t,rfl⟩:=r;obtain⟨t',rfl⟩:=r';unfold aP at e;cases e;exact⟨i9 _ _ _ _,SeqAt.EqAt.str_str _ _ _ _⟩
 have main:∀(n:Nat)(v w:PV)(x y:V)(u u':Value)(b:Bool)(A:ao),A.units+n<cLine->aW X.K c H v x->aW X.K c H w y->cA x u->cA y u'->aP n v w=some b->ou A s u u' b/\ot A s u u' b:=by
  intro n
  induction n with
  |zero=>
   intro v w x y u u' b A hu h g r r' e;cases v with
   |tup xs=>unfold aP at e;simp at e
   |lst xs=>unfold aP at e;simp at e
   |_=>exact flat 0 _ w x y u u' b A (by intro _ z;cases z) (by intro _ z;cases z) h g r r' e
  |succ n ih=>
   intro v w x y u u' b A hu h g r r' e;have hin:A.in1.units+n<cLine:=by show A.units+1+n<cLine;omega
   cases v with
   |tup xs=>
    cases w with
    |tup ys=>
     have hs:x=y->b=true:=λz=>Ak I (n+1) _ _ x b h (z▸g) e;unfold aW at h g;obtain⟨a,vs,rfl,t1,_,r1⟩:=h;obtain⟨a',ws,rfl,t2,_,r2⟩:=g;cases r;cases r';obtain⟨its,q1,p1,_⟩:=I.tuple t1;obtain⟨jts,q2,p2,_⟩:=I.tuple t2;unfold aP at e;split at e
     .rename_i bs hb
      cases e;have z:=j3 (A:=A) (s:=s) (e:=λj=>bs.getD j true) (show s.heap.IsTuple a its.toArray from p1) (show s.heap.IsTuple a' jts.toArray from p2) (by omega)
       (vZ (A:=A.in1) (λv w x y u u' b h1 h2 h3 h4 h5=>(ih v w x y u u' b A.in1 hin h1 h2 h3 h4 h5).2) r1 r2 q1 q2 hb)
      have l1:=r1.length.trans q1.length;have l2:=r2.length.trans q2.length;rw[ar,ar,<-l1,<-l2,<-tO hb,vY]at z;refine⟨z,?_⟩
      by_cases ha:a=a'
      .subst ha
       rw[hs rfl];exact xb _
      .exact j4 ha z
     .cases e
    |_=>unfold aP at e;simp at e
   |lst xs=>
    cases w with
    |lst ys=>
     have hs:x=y->b=true:=λz=>Ak I (n+1) _ _ x b h (z▸g) e;unfold aW at h g;obtain⟨a,vs,rfl,t1,_,r1⟩:=h;obtain⟨a',ws,rfl,t2,_,r2⟩:=g;cases r;cases r';obtain⟨its,q1,p1,_⟩:=I.list t1.sq;obtain⟨jts,q2,p2,_⟩:=I.list t2.sq;have l1:=r1.length.trans q1.length;have l2:=r2.length.trans q2.length;have fin:ou A s (.ref a) (.ref a') b->ou A s (.ref a) (.ref a') b/\ot A s (.ref a) (.ref a') b:=λz=>by
      refine⟨z,?_⟩
      by_cases ha:a=a'
      .subst ha
       rw[hs rfl];exact xb _
      .exact j4 ha z
     unfold aP at e;split at e
     .rename_i hl
      split at e
      .rename_i bs hb
       cases e;have z:=j5 (A:=A) (s:=s) (e:=λj=>bs.getD j true) p1.isList p2.isList (by rw[ar,ar];omega) (by omega)
        (vZ (A:=A.in1) (λv w x y u u' b h1 h2 h3 h4 h5=>(ih v w x y u u' b A.in1 hin h1 h2 h3 h4 h5).2) r1 r2 q1 q2 hb)
       have hm:its.length=bs.length:=by rw[tO hb];omega
       rw[ar,hm,vY]at z;exact fin z
      .cases e
     .rename_i hl
      cases e;exact fin (j6 p1.isList p2.isList (by rw[ar,ar];simp;omega) (by omega))
    |_=>unfold aP at e;simp at e
   |_=>exact flat (n+1) _ w x y u u' b A (by intro _ z;cases z) (by intro _ z;cases z) h g r r' e
 exact main
end
noncomputable section
open PySem PySem.Spec PyProof.Rows Bn
section
variable{X:Cx}
theorem Es{AO:List (Addr×Obj)}{σ:St}{H:Hp}{s:aa}(I:aH X AO σ H s){p:Ph}{v w:PV}{x y:V}{u u':Value}{b:Bool}{A:ao}(hu:A.units+8<cLine)(h:eT X.K p H v x)(g:eT X.K p H w y)(r:cA x u)(r':cA y u')(e:aP 8 v w=some b):
  ou A s u u' b/\SeqAt.RcNeAt A s u u' (!b):=by
 have hin:A.in1.units+7<cLine:=by show A.units+1+7<cLine;omega
 cases v with
 |non=>
  cases w<;>first |(unfold aP at e;simp at e;done) |skip
  have h:=h.non;have g:=g.non;subst h g;cases r;cases r';unfold aP at e;cases e;exact⟨i6,SeqAt.RcNeAt.none_none⟩
 |bl i=>
  cases w<;>first |(unfold aP at e;simp at e;done) |skip
  have h:=h.bl;have g:=g.bl;subst h g;cases r;cases r';unfold aP at e;cases e;exact⟨i7 _ _,SeqAt.RcNeAt.bool_bool _ _⟩
 |int i=>
  cases w<;>first |(unfold aP at e;simp at e;done) |skip
  have h:=h.int;have g:=g.int;subst h g;obtain⟨t,rfl⟩:=r;obtain⟨t',rfl⟩:=r';unfold aP at e;cases e;exact⟨i8 _ _ _ _,SeqAt.RcNeAt.int_int _ _ _ _⟩
 |str i=>
  cases w<;>first |(unfold aP at e;simp at e;done) |skip
  have h:=h.str;have g:=g.str;subst h g;obtain⟨t,rfl⟩:=r;obtain⟨t',rfl⟩:=r';unfold aP at e;cases e;exact⟨i9 _ _ _ _,SeqAt.RcNeAt.str_str _ _ _ _⟩
 |tup xs=>
  cases w with
  |tup ys=>
   obtain⟨a,vs,rfl,t1,_,r1⟩:=h.tup;obtain⟨a',ws,rfl,t2,_,r2⟩:=g.tup;cases r;cases r';obtain⟨its,q1,p1,_⟩:=I.tuple t1;obtain⟨jts,q2,p2,_⟩:=I.tuple t2;unfold aP at e;split at e
   .rename_i bs hb
    cases e;have it:=vZ (s:=s) (A:=A.in1) (λv w x y u u' b h1 h2 h3 h4 h5=>(Tq I 7 v w x y u u' b A.in1 hin h1 h2 h3 h4 h5).2) r1 r2 q1 q2 hb;have z:=j3 (A:=A) (s:=s) (e:=λj=>bs.getD j true) (show s.heap.IsTuple a its.toArray from p1) (show s.heap.IsTuple a' jts.toArray from p2) (by omega) it;have z':=SeqAt.RcNeAt.tuples (A:=A) (s:=s) (e:=λj=>bs.getD j true) (show s.heap.IsTuple a its.toArray from p1) (show s.heap.IsTuple a' jts.toArray from p2) (by omega) it;have l1:=r1.length.trans q1.length;have l2:=r2.length.trans q2.length;rw[ar,ar,<-l1,<-l2,<-tO hb,vY]at z z';exact⟨z,z'⟩
   .cases e
  |_=>unfold aP at e;simp at e
 |lst xs=>
  cases w with
  |lst ys=>
   obtain⟨a,vs,rfl,t1,_,r1⟩:=h.lst;obtain⟨a',ws,rfl,t2,_,r2⟩:=g.lst;cases r;cases r';obtain⟨its,q1,p1,_⟩:=I.list t1;obtain⟨jts,q2,p2,_⟩:=I.list t2;have l1:=r1.length.trans q1.length;have l2:=r2.length.trans q2.length;unfold aP at e;split at e
   .rename_i hl
    split at e
    .rename_i bs hb
     cases e;have it:=vZ (s:=s) (A:=A.in1) (λv w x y u u' b h1 h2 h3 h4 h5=>(Tq I 7 v w x y u u' b A.in1 hin h1 h2 h3 h4 h5).2) r1 r2 q1 q2 hb;have z:=j5 (A:=A) (s:=s) (e:=λj=>bs.getD j true) p1.isList p2.isList (by rw[ar,ar];omega) (by omega) it;have z':=SeqAt.RcNeAt.lists (A:=A) (s:=s) (e:=λj=>bs.getD j true) p1.isList p2.isList (by rw[ar,ar];omega) (by omega) it;have hm:its.length=bs.length:=by rw[tO hb];omega
     rw[ar,hm,vY]at z z';exact⟨z,z'⟩
    .cases e
   .rename_i hl
    cases e;exact⟨j6 p1.isList p2.isList (by rw[ar,ar];simp;omega) (by omega),SeqAt.RcNeAt.lists_lengths p1.isList p2.isList (by rw[ar,ar];simp;omega) (by omega)⟩
  |_=>unfold aP at e;simp at e
def yG(K:ae)(neg:Bool):R2:=λx y H Q=>∃p v w b,eT K p H v x/\eT K p H w y/\aP 8 v w=some b/\Q (.bl (if neg then !b else b)) H
theorem Uq(hu:X.A.units+8<cLine):eO X (compareOp .Eq) (yG X.K false):=by
 intro AO s σ H x y v u Q I rx ry h;obtain⟨p,a,b,k,h1,h2,e,q⟩:=h;exact(Es I hu h1 h2 rx ry e).1 X.prog X.w X.xe _ ⟨.bl k,H,I,rfl,q⟩
theorem Qo(hu:X.A.units+8<cLine):eO X (compareOp .NotEq) (yG X.K true):=by
 intro AO s σ H x y v u Q I rx ry h;obtain⟨p,a,b,k,h1,h2,e,q⟩:=h;exact(Es I hu h1 h2 rx ry e).2 X.prog X.w X.xe _ ⟨.bl (!k),H,I,rfl,q⟩
def eB(a b:PV):AL:=(aP 8 a b).map .bl
def kG(a b:PV):AL:=(aP 8 a b).map λk=>.bl (!k)
theorem Wt{K:ae}:gH K (yG K false) eB:=λ{p S H a b c x y Q} s ra rb e k=>by
 unfold eB at e;cases z:aP 8 a b with
 |none=>rw[z]at e;cases e
 |some t=>
  rw[z]at e;cases e;exact⟨p,a,b,t,ra,rb,z,k H _ (dG.refl H) (by unfold aW;rfl)⟩
theorem Mt{K:ae}:gH K (yG K true) kG:=λ{p S H a b c x y Q} s ra rb e k=>by
 unfold kG at e;cases z:aP 8 a b with
 |none=>rw[z]at e;cases e
 |some t=>
  rw[z]at e;cases e;exact⟨p,a,b,t,ra,rb,z,k H _ (dG.refl H) (by unfold aW;rfl)⟩
def i2(f:Int->Int->AL):PV->PV->AL
 |.int a,.int b=>f a b
 |_,_=>none
open Classical in
def cI(C:Int->Int->Prop)(g:Int->Int->PV)(a b:Int):AL:=if C a b then some (g a b)else none
def yT:PV->V
 |.int i=>.int i
 |.bl b=>.bl b
 |.str s=>.str s
 |_=>.non
def Ie:PV->Bool
 |.int _=>true
 |.bl _=>true
 |.str _=>true
 |.non=>true
 |_=>false
theorem iR{K:ae}{c:Addr->Prop}{H:Hp}{v:PV}(h:Ie v=true):aW K c H v (yT v):=by
 cases v with
 |tup _=>cases h
 |lst _=>cases h
 |_=>unfold aW yT;rfl
theorem yN{K:ae}{C:Int->Int->Prop}{g:Int->Int->PV}{h:Int->Int->V}(fl:∀i j,Ie (g i j)=true/\yT (g i j)=h i j):gH K (rI C h) (i2 (cI C g)):=λ{p S H a b c x y Q} s ra rb e k=>by
 cases a with
 |int i=>
  cases b with
  |int j=>
   unfold i2 cI at e;dsimp only at e;split at e
   .rename_i hc
    cases e;refine⟨i,j,ra.int,rb.int,hc,?_⟩;rw[<-(fl i j).2];exact k H _ (dG.refl H) (iR (fl i j).1)
   .cases e
  |_=>cases e
 |_=>cases e
theorem yF{K:ae}{g:Int->Int->PV}{h:Int->Int->V}(fl:∀i j,Ie (g i j)=true/\yT (g i j)=h i j):gH K (jR h) (i2 λi j=>some (g i j)):=λ{p S H a b c x y Q} s ra rb e k=>by
 cases a with
 |int i=>
  cases b with
  |int j=>
   cases e;refine⟨i,j,ra.int,rb.int,?_⟩;rw[<-(fl i j).2];exact k H _ (dG.refl H) (iR (fl i j).1)
  |_=>cases e
 |_=>cases e
def qB(i j:Int):Prop:=Re i j\/(Bd 1000000 i/\Bd 1000000 j)
theorem qB.ok{i j:Int}(h:qB i j):IntMulOk i j:=by
 rcases h with h |h
 .exact h.ok
 have h1:=Mn h.1;have h2:=Mn h.2;unfold IntMulOk Builtin.Int.intTooBig bitsLine;intro c;simp only[fh,decide_eq_true_eq]at c;have:=c.2;omega
theorem aao:eO X (binaryOp .Mult) (rI qB λi j=>.int (i*j)):=yV λ_ _ _ _ _ _ _ hc q=>mul_int q hc.ok
def aS:=i2 (cI qB λi j=>.int (i*j))
def eI:=i2 (cI qC λi j=>.int (i.fdiv j))
def fN:=i2 (cI (λ_ j=>j≠0) λi j=>.int (i.fmod j))
def gY:=i2 (cI yP λi j=>.int (i^j.toNat))
def eV:=i2 λi j=>some (.int (i-j))
def jS:=i2 λi j=>some (.bl (decide (i<j)))
def fLe:=i2 λi j=>some (.bl (decide (i<=j)))
def hJ:=i2 λi j=>some (.bl (decide (j<i)))
def sG:=i2 λi j=>some (.bl (decide (j<=i)))
theorem acF{K:ae}:gH K (rI qB λi j=>.int (i*j)) aS:=yN λ_ _=>⟨rfl,rfl⟩
theorem abc{K:ae}:gH K (rI qC λi j=>.int (i.fdiv j)) eI:=yN λ_ _=>⟨rfl,rfl⟩
theorem ac1{K:ae}:gH K (rI (λ_ j=>j≠0) λi j=>.int (i.fmod j)) fN:=yN λ_ _=>⟨rfl,rfl⟩
theorem ab7{K:ae}:gH K (rI yP λi j=>.int (i^j.toNat)) gY:=yN λ_ _=>⟨rfl,rfl⟩
theorem ada{K:ae}:gH K (jR λi j=>.int (i-j)) eV:=yF λ_ _=>⟨rfl,rfl⟩
theorem Kt{K:ae}:gH K (jR λi j=>.bl (decide (i<j))) jS:=yF λ_ _=>⟨rfl,rfl⟩
theorem Jt{K:ae}:gH K (jR λi j=>.bl (decide (j<i))) hJ:=yF λ_ _=>⟨rfl,rfl⟩
theorem Dt{K:ae}:gH K (jR λi j=>.bl (decide (j<=i))) sG:=yF λ_ _=>⟨rfl,rfl⟩
def bX:PV->AL
 |.int i=>some (.int (-i))
 |_=>none
theorem acN{K:ae}:uQ K (rU λi=>.int (-i)) bX:=λ{p S H a c x Q} s ra e k=>by
 cases a with
 |int i=>
  cases e;exact⟨i,ra.int,k H _ (dG.refl H) (iR (v:=.int (-i)) rfl)⟩
 |_=>cases e
def Ts(K:ae):R2:=λx y H Q=>∃l b xs zs,x=.ref l/\y=.ref b/\cE K H l xs/\cE K H b zs/\xs.length+zs.length<=sizeLine/\∀p,H p=none->Q (.ref p) (bK H p (.lst (xs++zs)))
theorem N6:eO X (binaryOp .Add) (Ts X.K):=by
 intro AO s σ H x y v u Q I rx ry h;obtain⟨l,b,xs,zs,rfl,rfl,hx,hy,hz,q⟩:=h;cases rx;cases ry;obtain⟨its,r1,p1,_⟩:=I.list hx;obtain⟨jts,r2,p2,_⟩:=I.list hy;obtain⟨⟨cls,dd,data,sl⟩,n,ho,hc,_,hd⟩:=p1;obtain⟨⟨cls2,dd2,data2,sl2⟩,n2,ho2,hc2,_,hd2⟩:=p2;simp only at hc hd hc2 hd2;subst hc hd hc2 hd2;have e:its.toArray++jts.toArray=(its++jts).toArray:=by simp
 have l1:=r1.length;have l2:=r2.length;refine rm ⟨_,ho,rfl⟩ ⟨_,ho2,rfl⟩ noFill_list_add seq_list_add PySem.F.slot_list_add PySem.F.entry_list_add (PySem.F.args_list_add_2 _ _) (list_addW l b its.toArray jts.toArray n n2 dd dd2 sl sl2 (by rw[ar,ar];omega)) ⟨ho,ho2,?_⟩;rw[e];exact⟨.ref _,_,I.lnew (t':=s.toks) (r1.append r2) (by rw[ca];omega),rfl,q _ I.fresh⟩
def aF:PV->PV->AL
 |.int a,.int b=>some (.int (a+b))
 |.lst xs,.lst ys=>if xs.length+ys.length<=16777216 then some (.lst (xs++ys))else none
 |.tup xs,.tup ys=>if xs.length≠0/\ys.length≠0/\xs.length+ys.length<=16777216 then some (.tup (xs++ys))else none
 |_,_=>none
def Xr(K:ae):R2:=λx y H Q=>(jR λi j=>.int (i+j)) x y H Q\/Ts K x y H Q\/Sd K x y H Q
theorem Xn:eO X (binaryOp .Add) (Xr X.K):=eO.or aaA (eO.or N6 Um)
theorem acT{K:ae}:gH K (Xr K) aF:=λ{p S H a b c x y Q} s ra rb e k=>by
 cases a with
 |int i=>
  cases b with
  |int j=>
   cases e;exact .inl ⟨i,j,ra.int,rb.int,k H _ (dG.refl H) (iR (v:=.int (i+j)) rfl)⟩
  |_=>cases e
 |lst xs=>
  cases b with
  |lst ys=>
   have e:(if xs.length+ys.length<=16777216 then some (PV.lst (xs++ys))else none)=some c:=e;split at e
   .rename_i hl
    cases e;obtain⟨a1,vs,rfl,l1,z1,r1⟩:=ra.lst;obtain⟨a2,ws,rfl,l2,z2,r2⟩:=rb.lst;have hz:vs.length+ws.length<=sizeLine:=by rw[<-r1.length,<-r2.length,jF];exact hl
    exact .inr (.inl ⟨a1,a2,vs,ws,rfl,rfl,l1,l2,hz,λt ht=>k _ _ (gX ht) (pJ s (r1.append r2) (by rw[ca];exact hz) ht)⟩)
   .cases e
  |_=>cases e
 |tup xs=>
  cases b with
  |tup ys=>
   have e:(if xs.length≠0/\ys.length≠0/\xs.length+ys.length<=16777216 then some (PV.tup (xs++ys))else none)=some c:=e;split at e
   .rename_i hl
    cases e;obtain⟨a1,vs,rfl,l1,z1,r1⟩:=ra.tup;obtain⟨a2,ws,rfl,l2,z2,r2⟩:=rb.tup;have hz:vs.length+ws.length<=sizeLine:=by rw[<-r1.length,<-r2.length,jF];exact hl.2.2
    refine .inr (.inr ⟨a1,a2,vs,ws,rfl,rfl,l1,l2,λq=>hl.1 (by rw[r1.length,q];rfl),hz,λq=>absurd (show ys.length=0 by rw[r2.length,q];rfl) hl.2.1,λ_ t ht=>k _ _ (gX ht) (pK s (r1.append r2) (by rw[ca];exact hz) ht)⟩)
   .cases e
  |_=>cases e
 |_=>cases e
end
section
variable{K:ae}{cl:Str->Addr}{E:XK}{X:Cx}{a b e:ag}{es:List ag}{ma mb m:ME}{ms:MA}{pos p2:ai}
def aE:PV->PV->AL
 |.lst xs,.int i=>aZ xs i
 |.tup xs,.int i=>aZ xs i
 |_,_=>none
theorem Lc{c:Addr->Prop}{H:Hp}{xs:AK}{vs:List V}{i:Int}{v:PV}(r:aU K c H xs vs)(e:aZ xs i=some v):∃x,aZ vs i=some x/\aW K c H v x:=by
 unfold aZ at e⊢;rw[<-r.length];cases z:bA xs.length i with
 |none=>rw[z]at e;cases e
 |some j=>
  rw[z]at e;exact r.get e
theorem adr:gH K (Yt K) aE:=λ{p S H a b c x y Q} s ra rb e k=>by
 cases b with
 |int i=>
  cases a with
  |lst xs=>
   obtain⟨a1,vs,rfl,l1,z1,r1⟩:=ra.lst;obtain⟨x,e1,r2⟩:=Lc r1 e;exact .inl ⟨a1,vs,i,x,rfl,rb.int,l1,e1,k H x (dG.refl H) r2⟩
  |tup xs=>
   obtain⟨a1,vs,rfl,l1,z1,r1⟩:=ra.tup;obtain⟨x,e1,r2⟩:=Lc r1 e;exact .inr (.inl ⟨a1,vs,i,x,rfl,rb.int,l1,e1,k H x (dG.refl H) r2⟩)
  |_=>cases e
 |_=>cases a<;>cases e
theorem ac2(ha:aX K cl E X a ma)(hb:aX K cl E X b mb)(hs:Vn b:=by intro _ _;rfl):aX K cl E X (.Subscript a b pos) (aC aE ma mb):=by
 intro hK;subst hK;refine(ab1 abX (ha rfl) (hb rfl) hs).imp ?_
 rintro σ H Q ⟨p,S,ρ,s,e,h⟩
 exact cK s e h λq H1 a x S1 st s1 e1 r1 h1=>cK s1 e1 h1 λq2 H2 b y S2 st2 s2 e2 r2 h2=>vV adr s2 (st2.repA r1) r2 h2
abbrev MO:=bY->aG->cD AJ
def cO:MO:=λ_ S=>.ok none S
def fT:AV->aG->cD AJ
 |.pv (.int i),S=>.ok (some i) S
 |_,_=>.fail
def dI(m:ME):MO:=λρ S=>(m ρ S).bind fT
abbrev RO:Ph->Hp->AJ->AJ->Prop:=λ_ _ a b=>a=b
variable(K cl E X)
def oR(e:Option ag)(m:MO):Prop:=X.K=K->PO X e (tP K cl E RO m)
variable{K cl E X}
theorem PO.imp{e:Option ag}{t t':TO}(h:PO X e t)(i:∀σ H Q,t' σ H Q->t σ H Q):PO X e t':=λAO s σ H Q I q=>h AO s σ H Q I (i σ H Q q)
theorem B1:oR K cl E X none cO:=λ_=>PO.imp R9 λσ H Q ⟨p,S,ρ,s,e,h⟩=>cL.ret (R:=RO) h s rfl
theorem B4(h:aX K cl E X e m):oR K cl E X (some e) (dI m):=by
 intro hK;subst hK;refine PO.imp (Dc (h rfl)) ?_
 rintro σ H Q ⟨p,S,ρ,s,e,h⟩
 refine cK s e h λq H1 a x S1 st s1 e1 r1 h1=>?_;unfold fT at h1;split at h1
 .rename_i i
  exact⟨i,(show eT X.K q H1 (.int i) x from .inl r1).int,cL.ret (R:=RO) h1 s1 rfl⟩
 .exact h1.elim
def jM(xs:AK)(lo hi:AJ):AK:=(xs.drop (HT.sIx xs.length 0 lo)).take (HT.sIx xs.length xs.length hi-HT.sIx xs.length 0 lo)
def iA(v:PV)(lo hi:AJ):AL:=match v with
 |.lst xs=>some (.lst (jM xs lo hi))
 |.tup xs=>if HT.sIx xs.length 0 lo=0/\HT.sIx xs.length xs.length hi=xs.length then none else some (.tup (jM xs lo hi))
 |_=>none
def dL(m:ME)(ml mh:MO):ME:=λρ S=>(m ρ S).bind λv S1=>(ml ρ S1).bind λlo S2=>(mh ρ S2).bind λhi S3=>iG ((rd S3 v).bind λx=>iA x lo hi) S3
theorem Wl{c:Addr->Prop}{H:Hp}{xs:AK}{vs:List V}{lo hi:AJ}(r:aU K c H xs vs):aU K c H (jM xs lo hi) (oG vs lo hi):=by
 unfold jM oG;rw[<-r.length];exact(r.drop _).take _
theorem acU{lo hi:Option ag}{ml mh:MO}(he:aX K cl E X e m)(hl:oR K cl E X lo ml)(hu:oR K cl E X hi mh):aX K cl E X (.Subscript e (.Slice lo hi none p2) pos) (dL m ml mh):=by
 intro hK;subst hK;refine(A5 (oJ.or aat aa6) (he rfl) (hl rfl) (hu rfl)).imp ?_
 rintro σ H Q ⟨p,S,ρ,s,e,h⟩
 refine cK s e h λq H1 a x S1 st s1 e1 r1 h1=>cK s1 e1 h1 λq2 H2 lo lo' S2 st2 s2 e2 r2 h2=>cK s2 e2 h2 λq3 H3 hi hi' S3 fH s3 e3 r3 h3=>?_;cases r2;cases r3;have ra:=fH.repA (st2.repA r1);obtain⟨c,ec,k⟩:=rE s3 h3;cases z:rd S3 a with
 |none=>rw[z]at ec;cases ec
 |some v=>
  rw[z]at ec;have rv:=lH s3 ra z;cases v with
  |lst xs=>
   have ec:some (PV.lst (jM xs lo hi))=some c:=ec;cases ec;obtain⟨a1,vs,rfl,l1,z1,r1⟩:=rv.lst;exact .inl ⟨a1,vs,rfl,l1,λt ht=>k _ _ (gX ht) (pJ s3 (Wl r1) (ee (vI vs lo hi) z1) ht)⟩
  |tup xs=>
   obtain⟨a1,vs,rfl,l1,z1,r1⟩:=rv.tup;have ec:(if HT.sIx xs.length 0 lo=0/\HT.sIx xs.length xs.length hi=xs.length then none else some (PV.tup (jM xs lo hi)))=some c:=ec;split at ec
   .cases ec
   .rename_i hw
    cases ec;rw[r1.length]at hw;exact .inr ⟨a1,vs,rfl,l1,hw,λt ht=>k _ _ (gX ht) (pK s3 (Wl r1) (ee (vI vs lo hi) z1) ht)⟩
  |_=>cases ec
theorem pF{id:String}{r:List V->Hp->VK->Prop}{f:AK->AL}{x:Str}{p:ai}(hc:iK X (.builtin id) r)(hf:jQ X.K r f)(hg:Gl X x)(hm:X.mg x=none)(hv:bootBuiltins x=some (.builtin id))(ha:fI K cl E X (e::es) ms)(hn:x≠"__name__":=by decide)(hdb:(x==("__debug__":Str))=false:=by decide)
  (he:starEach (e::es) X.env=(false,eval e X.env)::starEach es X.env:=by rfl)(hpl:(backTo pos (starEach es X.env)).any (·.1)=false:=by rfl):aX K cl E X (.Call (.Name x p) (e::es) [] pos) (mR f ms):=by
 intro hK;subst hK;refine PE.imp (Sb hc hg hm hv (ha rfl) hn hdb he hpl) ?_
 rintro σ H Q ⟨p,S,ρ,s,ev,h⟩
 exact cK s ev h λq H' as xs S' stp sm ev r k=>Ii hf sm r k
theorem Ia{T:String}{r:List V->Hp->VK->Prop}{f:AK->AL}{x:Str}{p:ai}(hc:iK X (.type T) r)(hf:jQ X.K r f)(hg:Gl X x)(hm:X.mg x=none)(hv:bootBuiltins x=some (.type T))(ha:fI K cl E X (e::es) ms)(hn:x≠"__name__":=by decide)(hdb:(x==("__debug__":Str))=false:=by decide)
  (he:starEach (e::es) X.env=(false,eval e X.env)::starEach es X.env:=by rfl)(hpl:(backTo pos (starEach es X.env)).any (·.1)=false:=by rfl):aX K cl E X (.Call (.Name x p) (e::es) [] pos) (mR f ms):=by
 intro hK;subst hK;refine PE.imp (Sx hc hg hm hv (ha rfl) hn hdb he hpl) ?_
 rintro σ H Q ⟨p,S,ρ,s,ev,h⟩
 exact cK s ev h λq H' as xs S' stp sm ev r k=>Ii hf sm r k
def fE:AK->AL
 |[.lst xs]=>some (.int xs.length)
 |[.tup xs]=>some (.int xs.length)
 |_=>none
theorem acS:jQ K (λxs H Q=>∃p ys,xs=[.ref p]/\(cE K H p ys\/dJ K H p ys)/\Q (.int ys.length) H) fE:=λ{p S H as c xs Q} s ra e k=>by
 unfold fE at e;split at e
 .rename_i zs
  cases e;cases ra with
  |cons h t=>
   cases t;obtain⟨a,vs,rfl,l,z,r⟩:=h.lst;refine⟨a,vs,rfl,.inl l,?_⟩;rw[<-r.length];exact k H _ (dG.refl H) (iR (v:=.int zs.length) rfl)
 .rename_i zs
  cases e;cases ra with
  |cons h t=>
   cases t;obtain⟨a,vs,rfl,l,z,r⟩:=h.tup;refine⟨a,vs,rfl,.inr l,?_⟩;rw[<-r.length];exact k H _ (dG.refl H) (iR (v:=.int zs.length) rfl)
 .cases e
def lP:AK->AL
 |[.int i]=>some (.int (if i<0 then-i else i))
 |_=>none
theorem adg:jQ K (λxs H Q=>∃i,xs=[.int i]/\Q (.int (if i<0 then-i else i)) H) lP:=λ{p S H as c xs Q} s ra e k=>by
 unfold lP at e;split at e
 .rename_i i
  cases e;cases ra with
  |cons h t=>
   cases t;cases h.int;exact⟨i,rfl,k H _ (dG.refl H) (iR (v:=.int _) rfl)⟩
 .cases e
def fL:AK->AL
 |[.lst xs]=>some (.tup xs)
 |[.tup xs]=>some (.tup xs)
 |_=>none
theorem O1:jQ K (λxs H Q=>∃p ys,xs=[.ref p]/\((cE K H p ys/\∀l,H l=none->Q (.ref l) (bK H l (.tup ys)))\/(dJ K H p ys/\Q (.ref p) H))) fL:=λ{p S H as c xs Q} s ra e k=>by
 unfold fL at e;split at e
 .rename_i zs
  cases e;cases ra with
  |cons h t=>
   cases t;obtain⟨a,vs,rfl,l,z,r⟩:=h.lst;exact⟨a,vs,rfl,.inl ⟨l,λt ht=>k _ _ (gX ht) (pK s r z ht)⟩⟩
 .rename_i zs
  cases e;cases ra with
  |cons h t=>
   cases t;obtain⟨a,vs,rfl,l,z,r⟩:=h.tup;refine⟨a,vs,rfl,.inr ⟨l,k H _ (dG.refl H) ?_⟩⟩;unfold aW;exact⟨a,vs,rfl,l,z,r⟩
 .cases e
def kA:AK->AL
 |[.lst xs]=>some (.lst xs)
 |[.tup xs]=>some (.lst xs)
 |_=>none
theorem O0:jQ K (λxs H Q=>∃p ys,xs=[.ref p]/\(cE K H p ys\/dJ K H p ys)/\∀l,H l=none->Q (.ref l) (bK H l (.lst ys))) kA:=λ{p S H as c xs Q} s ra e k=>by
 unfold kA at e;split at e
 .rename_i zs
  cases e;cases ra with
  |cons h t=>
   cases t;obtain⟨a,vs,rfl,l,z,r⟩:=h.lst;exact⟨a,vs,rfl,.inl l,λt ht=>k _ _ (gX ht) (pJ s r z ht)⟩
 .rename_i zs
  cases e;cases ra with
  |cons h t=>
   cases t;obtain⟨a,vs,rfl,l,z,r⟩:=h.tup;exact⟨a,vs,rfl,.inr l,λt ht=>k _ _ (gX ht) (pJ s r z ht)⟩
 .cases e
def pX:AK->Option (List Bool)
 |[]=>some []
 |.bl b::r=>match pX r with
  |some bs=>some (b::bs)
  |none=>none
 |_::_=>none
def rW:AK->AL
 |[.lst xs]=>(pX xs).map λbs=>.bl (bs.all id)
 |_=>none
theorem Bl{c:Addr->Prop}{H:Hp}:∀{xs:AK}{bs:List Bool}{vs:List V},pX xs=some bs->aU K c H xs vs->vs=bs.map V.bl
 |[],bs,vs,e,r=>by
  cases e;unfold aU at r;exact r
 |.bl b::xs,bs,vs,e,r=>by
  unfold pX at e;split at e
  .rename_i cs h
   cases e;unfold aU at r;obtain⟨v,w,rfl,r1,r2⟩:=r;unfold aW at r1;rw[r1,Bl h r2];rfl
  .cases e
 |.non::_,_,_,e,_=>by cases e
 |.int _::_,_,_,e,_=>by cases e
 |.str _::_,_,_,e,_=>by cases e
 |.tup _::_,_,_,e,_=>by cases e
 |.lst _::_,_,_,e,_=>by cases e
theorem adi:jQ K (λxs H Q=>∃(a:Addr)(bs:List Bool),xs=[.ref a]/\cE K H a (bs.map V.bl)/\Q (.bl (bs.all id)) H) rW:=λ{p S H as c xs Q} s ra e k=>by
 unfold rW at e;split at e
 .rename_i zs
  cases y:pX zs with
  |none=>rw[y]at e;cases e
  |some bs=>
   rw[y]at e;cases e;cases ra with
   |cons h t=>
    cases t;obtain⟨a,vs,rfl,l,z,r⟩:=h.lst;rw[Bl y r]at l;exact⟨a,bs,rfl,l,k H _ (dG.refl H) (iR (v:=.bl _) rfl)⟩
 .cases e
def kQ:AK->AL
 |[.int i]=>some (.int i)
 |[.bl b]=>some (.int (if b then 1 else 0))
 |_=>none
theorem ac8:jQ K (λxs H Q=>(∃i,xs=[.int i]/\Q (.int i) H)\/∃k,xs=[.bl k]/\Q (.int (if k then 1 else 0)) H) kQ:=λ{p S H as c xs Q} s ra e k=>by
 unfold kQ at e;split at e
 .rename_i i
  cases e;cases ra with
  |cons h t=>
   cases t;cases h.int;exact .inl ⟨i,rfl,k H _ (dG.refl H) (iR (v:=.int _) rfl)⟩
 .rename_i i
  cases e;cases ra with
  |cons h t=>
   cases t;cases h.bl;exact .inr ⟨i,rfl,k H _ (dG.refl H) (iR (v:=.int _) rfl)⟩
 .cases e
end
end
section
variable{K:ae}{cl:Str->Addr}{E:XK}{X:Cx}{a b c e l tg:ag}{es:List ag}{m ma mb:ME}{ms:MA}{pos:ai}{p q:Ph}{H H':Hp}{S:aG}
theorem bF.push(s:bF K p S H){D:Addr}{ps:AK}{vs:List V}(h:H D=none)(l:vs.length<=sizeLine)(r:aU K p.c H ps vs):
  let q:Ph:=⟨p.f++[D],λa=>p.w a\/a=D,λa=>p.c a\/a=D⟩
  cG p H q (bK H D (.lst vs))/\bF K q (S++[.lst ps]) (bK H D (.lst vs)):=by
 intro q;obtain⟨st0,sm0⟩:=s.res (D:=D) (o:=.lst vs) h trivial;have nf0:D∉p.f:=λz=>s.notin h (s.wc D (s.sub D z));refine⟨⟨st0.wc,st0.mu,⟨[D],rfl⟩,st0.mw,st0.mono,λa x n=>?_,st0.nw,st0.nc,st0.keep⟩,?_,by simp[q,s.len],λa x=>?_,sm0.wc,sm0.mu,λk a o e1 e2=>?_⟩
 .rcases dj.mp x with z |z
  .exact absurd z n
  .have:a=D:=by simpa using z
   rw[this];exact h
 .show(p.f++[D]).Nodup
  rw[i4];refine⟨s.nd,by simp,λa ha b hb z=>?_⟩;have:b=D:=by simpa using hb
  exact nf0 (this▸z▸ha)
 .rcases dj.mp x with z |z
  .exact .inl (s.sub a z)
  .exact .inr (by simpa using z)
 .by_cases hk:k<S.length
  .have e1':p.f[k]?=some a:=by
    have e1:(p.f++[D])[k]?=some a:=e1
    rwa[fu (by rw[s.len];exact hk)]at e1
   rw[fu hk]at e2;refine(s.obj k a o e1' e2).mono (λvs e=>by rw[dD (gI e h)];exact e) (λb w f=>⟨⟨.inl w,λm=>?_⟩,λvs e=>by rw[dD (gI e h)];exact e⟩) λ_ _ r=>st0.reps r;rcases dj.mp m with z |z
   .exact f z
   .have:b=D:=by simpa using z
    exact s.notin h (this▸s.wc b w)
  .have hk':k=S.length:=by
    have:=(da.mp e2).1;simp at this;omega
   subst hk';rw[ib (aq _),lb]at e2;have e1:(p.f++[D])[S.length]?=some a:=e1;rw[<-s.len,ib (aq _),lb]at e1;cases e1;cases e2;exact⟨vs,jG,l,st0.reps r⟩
theorem bF.write(s:bF K p S H){D:Addr}{k:Nat}{ps:AK}{vs:List V}(h:p.f[k]?=some D)(hk:k<S.length)(l:vs.length<=sizeLine)(r:aU K p.c H ps vs):
  cG p H p (bK H D (.lst vs))/\bF K p (S.set k (.lst ps)) (bK H D (.lst vs)):=by
 have w:p.w D:=s.sub D (ic h);have st:cG p H p (bK H D (.lst vs)):=⟨s.wc,s.mu,oq,λ_ h=>h,λ_ h=>h,λ_ h g=>absurd h g,λ_ h g=>absurd h g,λ_ h g=>absurd h g,λa u e nw=>by
  rw[dD (λz:a=D=>nw (by rw[z];exact w))];exact e⟩
 refine⟨st,s.nd,by rw[il];exact s.len,s.sub,s.wc,λa x=>?_,λj a o e1 e2=>?_⟩
 .by_cases z:a=D
  .rw[z,jG]
   exact⟨_,rfl,trivial⟩
  .rw[dD z]
   exact s.mu a x
 .by_cases hj:k=j
  .subst hj
   rw[h]at e1;cases e1;rw[ie hk]at e2;cases e2;exact⟨vs,jG,l,st.reps r⟩
  .rw[jf hj]at e2
   have ne:a≠D:=λq=>hj (Ma s.nd h (q▸e1));exact(s.obj j a o e1 e2).mono (λvs e=>by rw[dD ne];exact e) (λb w f=>⟨⟨w,f⟩,λvs e=>by rw[dD (λz:b=D=>f (z▸ic h))];exact e⟩) λ_ _ r=>st.reps r
def iZ(xs:AN)(S:aG):cD AV:=match oC xs with
 |some vs=>if vs.length<=16777216 then .ok (.ref S.length) (S++[.lst vs])else .fail
 |none=>.fail
def eC(ms:MA):ME:=λρ S=>(ms ρ S).bind iZ
theorem R5(h:fI K cl E X es ms):aX K cl E X (.List es pos) (eC ms):=by
 intro hK;subst hK;refine(Bq (h rfl)).imp ?_
 rintro σ H Q ⟨p,S,ρ,s,e,h⟩
 refine cK s e h λq H1 as xs S1 st s1 e1 r1 h1=>?_;unfold iZ at h1;split at h1
 .rename_i vs hv
  split at h1
  .rename_i hl
   have r:=zZ hv r1;rw[r.length,<-jF]at hl;refine⟨hl,λt ht=>?_⟩;obtain⟨st2,sm2⟩:=s1.push ht hl r;exact h1 _ _ (.ref t) st2 sm2 ⟨t,by show(q.f++[t])[S1.length]?=some t;rw[<-s1.len,ib (aq _),lb];rfl,rfl⟩
  .exact h1.elim
 .exact h1.elim
def kE(k:Nat)(ys:AN)(S:aG):cD AV:=match ys with
 |[.pv y]=>match S[k]? with
  |some (.lst xs)=>if xs.length<16777216 then .ok (.pv .non) (S.set k (.lst (xs++[y])))else .fail
  |_=>.fail
 |_=>.fail
def fW{α:Type}(k:AV)(S:aG)(f:Nat->cD α):cD α:=match k with
 |.ref k=>(match S[k]? with
  |some (.dic _ _)=>.fail
  |some (.dol _ _)=>.fail
  |_=>f k)
 |_=>.fail
theorem Lb{α:Type}(k:Nat)(S:aG)(f:Nat->cD α):fW (.ref k) S f=.fail\/(fW (.ref k) S f=f k/\(∀n l,S[k]?≠some (.dic n l))/\∀n l,S[k]?≠some (.dol n l)):=by
 have e:fW (.ref k) S f=(match S[k]? with
  |some (.dic _ _)=>.fail
  |some (.dol _ _)=>.fail
  |_=>f k):=rfl
 rw[e];cases S[k]? with
 |none=>exact .inr ⟨rfl,λ_ _ z=>(nomatch z),λ_ _ z=>(nomatch z)⟩
 |some o=>
  cases o with
  |dic n l=>exact .inl rfl
  |dol n l=>exact .inl rfl
  |lst xs=>exact .inr ⟨rfl,λ_ _ z=>(nomatch z),λ_ _ z=>(nomatch z)⟩
  |lol xs=>exact .inr ⟨rfl,λ_ _ z=>(nomatch z),λ_ _ z=>(nomatch z)⟩
def fD(m:ME)(ms:MA):ME:=λρ S=>(m ρ S).bind λk S1=>fW k S1 λk=>(ms ρ S1).bind λys S2=>kE k ys S2
theorem Ym{k:Nat}{x:V}(s:bF K p S H)(r:cX K p H (.ref k) x)(n1:∀n l,S[k]?≠some (.dic n l))(n2:∀n l,S[k]?≠some (.dol n l)):Df K "list" x H:=by
 obtain⟨a,e,rfl⟩:=r;have hk:k<S.length:=by
  have:=(da.mp e).1;rw[<-s.len];exact this
 have z:=s.obj k a S[k] e (av hk);cases y:S[k]with
 |lst xs=>
  rw[y]at z;obtain⟨vs,h,_⟩:=z;exact .inl ⟨rfl,vs,cE.of h⟩
 |lol xss=>
  rw[y]at z;obtain⟨bs,h,_⟩:=z;exact .inl ⟨rfl,_,cE.of h⟩
 |dic n l=>exact absurd (by rw[av hk,y]) (n1 n l)
 |dol n l=>exact absurd (by rw[av hk,y]) (n2 n l)
theorem Ky{apos cpos:ai}(ho:aX K cl E X a m)(ha:fI K cl E X [e] ms)(hbase:attributeBase a "append" X.env (eval a X.env)=eval a X.env:=by rfl)
  (hfew:((backTo cpos (starEach [e] X.env)).all (λx=>!x.1)&&(backToKw cpos (keywordEach [] X.env)).all (λx=>x.1.isSome)&&decide (([e]:List ag).length+([]:List kx).length+(if([]:List kx).isEmpty then 0 else 1)<30))=true:=by rfl)
  (hline:(apos.endLine==cpos.line)=true:=by rfl)(hs:starEach [e] X.env=[(false,eval e X.env)]:=by rfl):aX K cl E X (.Call (.Attribute a "append" apos) [e] [] cpos) (fD m ms):=by
 intro hK;subst hK;refine PE.imp (Ss j7 zg PySem.F.type_list_append Wa (ho rfl) (ha rfl) hbase hfew hline hs rfl) ?_
 rintro σ H Q ⟨p,S,ρ,s,ev,h⟩
 refine cK s ev h λq H1 k x S1 st s1 e1 r1 h1=>?_;cases k with
 |pv v=>exact h1.elim
 |ref k=>
  have h1:cL X.K cl (cX X.K) q H1 (fW (.ref k) S1 λk=>(ms ρ S1).bind λys S2=>kE k ys S2) Q E:=h1;rcases Lb k S1 (λk=>(ms ρ S1).bind λys S2=>kE k ys S2)with z |⟨z,n1,n2⟩
  .rw[z]at h1
   exact h1.elim
  rw[z]at h1;refine⟨Ym s1 r1 n1 n2,cK s1 e1 h1 λq2 H2 ys xs S2 st2 s2 e2 r2 h2=>?_⟩;obtain⟨a,ea,rfl⟩:=st2.repA r1;unfold kE at h2;split at h2
  .rename_i y
   cases r2 with
   |cons r3 r4=>
    cases r4;rename_i x;cases z:S2[k]? with
    |none=>rw[z]at h2;exact h2.elim
    |some o=>
     cases o with
     |lol _=>simp only[z]at h2;exact h2.elim
     |dic _ _=>simp only[z]at h2;exact h2.elim
     |dol _ _=>simp only[z]at h2;exact h2.elim
     |lst zs=>
      simp only[z]at h2;obtain⟨vs,h3,l3,r4⟩:=s2.obj k a _ ea z;split at h2
      .rename_i hl
       rw[r4.length]at hl;have hz:=jF;refine⟨a,vs,x,rfl,rfl,h3,by omega,?_⟩;obtain⟨fH,sm3⟩:=s2.write ea (da.mp z).1 (ps:=zs++[y]) (vs:=vs++[x]) (by rw[ca,og];omega) (r4.append (.cons r3 .nil));exact h2 _ _ .non fH sm3 (by show aW X.K q2.c (bK H2 a (.lst (vs++[x]))) .non .non;unfold aW;rfl)
      .exact h2.elim
  .exact h2.elim
def pZ(k:Nat)(ys:AN)(S:aG):cD AV:=match ys with
 |[.pv (.int i)]=>if-9223372036854775808<=i/\i<9223372036854775808 then(match S[k]? with
  |some (.lst xs)=>match seqIndex? i xs.length with
   |some j=>match xs[j]? with
    |some v=>.ok (.pv v) (S.set k (.lst (xs.eraseIdx j)))
    |none=>.fail
   |none=>.fail
  |_=>.fail)else .fail
 |_=>.fail
def lM(m:ME)(ms:MA):ME:=λρ S=>(m ρ S).bind λk S1=>fW k S1 λk=>(ms ρ S1).bind λys S2=>pZ k ys S2
theorem abo{apos cpos:ai}(ho:aX K cl E X a m)(ha:fI K cl E X [e] ms)(hbase:attributeBase a "pop" X.env (eval a X.env)=eval a X.env:=by rfl)
  (hfew:((backTo cpos (starEach [e] X.env)).all (λx=>!x.1)&&(backToKw cpos (keywordEach [] X.env)).all (λx=>x.1.isSome)&&decide (([e]:List ag).length+([]:List kx).length+(if([]:List kx).isEmpty then 0 else 1)<30))=true:=by rfl)
  (hline:(apos.endLine==cpos.line)=true:=by rfl)(hs:starEach [e] X.env=[(false,eval e X.env)]:=by rfl):aX K cl E X (.Call (.Attribute a "pop" apos) [e] [] cpos) (lM m ms):=by
 intro hK;subst hK;refine PE.imp (Ss j7 PySem.F.slot_list_pop PySem.F.type_list_pop A8 (ho rfl) (ha rfl) hbase hfew hline hs rfl) ?_
 rintro σ H Q ⟨p,S,ρ,s,ev,h⟩
 refine cK s ev h λq H1 k x S1 st s1 e1 r1 h1=>?_;cases k with
 |pv v=>exact h1.elim
 |ref k=>
  have h1:cL X.K cl (cX X.K) q H1 (fW (.ref k) S1 λk=>(ms ρ S1).bind λys S2=>pZ k ys S2) Q E:=h1;rcases Lb k S1 (λk=>(ms ρ S1).bind λys S2=>pZ k ys S2)with z |⟨z,n1,n2⟩
  .rw[z]at h1
   exact h1.elim
  rw[z]at h1;refine⟨Ym s1 r1 n1 n2,cK s1 e1 h1 λq2 H2 ys xs S2 st2 s2 e2 r2 h2=>?_⟩;obtain⟨a,ea,rfl⟩:=st2.repA r1;unfold pZ at h2;split at h2
  .rename_i i
   cases r2 with
   |cons r3 r4=>
    cases r4;rename_i x;have ex:x=.int i:=(show eT X.K q2 H2 (.int i) x from .inl r3).int;subst ex;split at h2
    .rename_i hi
     cases z:S2[k]? with
     |none=>rw[z]at h2;exact h2.elim
     |some o=>
      cases o with
      |lol _=>simp only[z]at h2;exact h2.elim
      |dic _ _=>simp only[z]at h2;exact h2.elim
      |dol _ _=>simp only[z]at h2;exact h2.elim
      |lst zs=>
       simp only[z]at h2;obtain⟨vs,h3,l3,r4⟩:=s2.obj k a _ ea z;cases y:seqIndex? i zs.length with
       |none=>simp only[y]at h2;exact h2.elim
       |some j=>
        simp only[y]at h2;cases yv:zs[j]? with
        |none=>simp only[yv]at h2;exact h2.elim
        |some v=>
         simp only[yv]at h2;obtain⟨u,eu,ru⟩:=r4.get yv;refine⟨a,vs,i,j,u,rfl,rfl,h3,hi.1,hi.2,by rw[<-r4.length];exact y,eu,?_⟩;obtain⟨fH,sm3⟩:=s2.write ea (da.mp z).1 (ps:=zs.eraseIdx j) (vs:=vs.eraseIdx j) (ee (Sa vs j) l3) (r4.eraseIdx j);exact h2 _ _ u fH sm3 (fH.rep ru)
    .exact h2.elim
  .exact h2.elim
def pU(k:Nat)(i:AV)(v:AV)(S:aG):cD Unit:=match i,v with
 |.pv (.int i),.pv v=>match S[k]? with
  |some (.lst xs)=>match bA xs.length i with
   |some j=>.ok () (S.set k (.lst (xs.set j v)))
   |none=>.fail
  |_=>.fail
 |_,_=>.fail
def mK(mo mi mv:ME):MS:=λρ S=>cP.of (mv ρ S) λv S1=>cP.of (mo ρ S1) λk S2=>cP.of (mi ρ S2) λi S3=>cP.of (fW k S3 λk=>pU k i v S3) λ_ S4=>.nx ρ S4
theorem By{o i v:ag}{mo mi mv:ME}{tpos:ai}(hv:aX K cl E X v mv)(ho:aX K cl E X o mo)(hi:aX K cl E X i mi)
  (ha:∀v,assign (.Subscript o i tpos) X.env v=(do
   let ov <-holding [v] (eval o X.env)
   let iv <-holding [v,ov] (eval i X.env)
   standAt tpos
   holding [v,ov,iv] (setItem ov iv v)
   release [v,ov,iv] []):=by intro _;rfl)
  (hs:swapsWithSole [.Subscript o i tpos] v pos.line X.env=pure false:=by rfl)(hw:swappedStores [.Subscript o i tpos] v X.env=pure none:=by rfl)
  (h1:(assignEach [.Subscript o i tpos] X.env).map (·.2)=[assign (.Subscript o i tpos) X.env]:=by rfl):eN K cl E X (.Assign [.Subscript o i tpos] v pos) (mK mo mi mv):=by
 intro hK;subst hK;refine PS.imp (Uc (hv rfl) (aaB (ho rfl) (hi rfl) F6 ha) hs hw h1) ?_
 rintro D σ H ⟨p,S,ρ,s,ev,h⟩
 refine iT s ev h λq H1 v x S1 st s1 e1 r1 h1=>?_;refine iT s1 e1 h1 λq2 H2 k y S2 st2 s2 e2 r2 h2=>?_;refine iT s2 e2 h2 λq3 H3 i z S3 fH s3 e3 r3 h3=>?_;cases k with
 |pv _=>exact h3.elim
 |ref k=>
  obtain⟨a,ea,rfl⟩:=fH.repA r2;have rv:=fH.repA (st2.repA r1);have h3:dR X.K cl q3 H3 (cP.of (fW (.ref k) S3 λk=>pU k i v S3) λ_ S4=>.nx ρ S4) D E:=h3;rcases Lb k S3 (λk=>pU k i v S3)with z0 |⟨z0,_,_⟩
  .rw[z0]at h3
   exact h3.elim
  rw[z0]at h3;unfold pU at h3;split at h3
  .rename_i ii vv _
   have ez:z=.int ii:=(show eT X.K q3 H3 (.int ii) z from .inl r3).int;subst ez;cases w:S3[k]? with
   |none=>rw[w]at h3;exact h3.elim
   |some o=>
    cases o with
    |lol _=>simp only[w]at h3;exact h3.elim
    |dic _ _=>simp only[w]at h3;exact h3.elim
    |dol _ _=>simp only[w]at h3;exact h3.elim
    |lst zs=>
     simp only[w]at h3;obtain⟨vs,hh,ll,rr⟩:=s3.obj k a _ ea w;cases y:bA zs.length ii with
     |none=>simp only[y]at h3;exact h3.elim
     |some j=>
      simp only[y]at h3;refine⟨a,vs,ii,j,rfl,rfl,hh,by rw[<-rr.length];exact y,?_⟩;obtain⟨st4,sm4⟩:=s3.write ea (da.mp w).1 (ps:=zs.set j vv) (vs:=vs.set j x) (by rw[il];exact ll) (aU.set rv j rr);exact h3 _ _ _ st4 sm4 (st4.repE e3)
  .exact h3.elim
def dY:AK->AK->AK
 |x::xs,y::ys=>.tup [x,y]::dY xs ys
 |_,_=>[]
theorem Qb:∀(xs ys:AK),(dY xs ys).length=min xs.length ys.length
 |[],ys=>by cases ys<;>simp[dY]
 |x::xs,[]=>by simp[dY]
 |x::xs,y::ys=>by
  unfold dY;rw[cu,Qb xs ys,cu,cu];omega
theorem Zl:∀{xs ys:AK}{i:Nat}{v:PV},(dY xs ys)[i]?=some v->∃x y,xs[i]?=some x/\ys[i]?=some y/\v=.tup [x,y]
 |[],ys,i,v,e=>by cases ys<;>simp[dY]at e
 |x::xs,[],i,v,e=>by simp[dY]at e
 |x::xs,y::ys,0,v,e=>by
  unfold dY at e;simp at e;exact⟨x,y,rfl,rfl,e.symm⟩
 |x::xs,y::ys,i+1,v,e=>by
  unfold dY at e;obtain⟨a,b,h1,h2,h3⟩:=Zl (xs:=xs) (ys:=ys) (i:=i) (v:=v) (by simpa using e);exact⟨a,b,by simpa using h1,by simpa using h2,h3⟩
def fQ:AN->aG->cD (AK×Gd)
 |[a,b],S=>match bS a S with
  |.ok xs _=>match bS b S with
   |.ok ys _=>.ok (dY xs.1 ys.1,xs.2++ys.2) S
   |_=>.fail
  |_=>.fail
 |_,_=>.fail
def dX(ms:MA):MI:=λρ S=>(ms ρ S).bind fQ
theorem Gk{a:AV}{x:V}{xs:AK×Gd}{S':aG}(s:bF K p S H)(r:cX K p H a x)(e:bS a S=.ok xs S'):∃f ad vs,x=.ref ad/\jD f K H ad vs/\xs.1.length<=sizeLine/\∀q H1 S1,cG p H q H1->bF K q S1 H1->fS xs.2 S1->∃vs,jD f K H1 ad vs/\aU K q.c H1 xs.1 vs:=by
 cases a with
 |ref j=>
  obtain⟨a,e1,rfl⟩:=r;unfold bS at e;dsimp only at e;cases z:S[j]? with
  |none=>rw[z]at e;cases e
  |some o=>
   cases o with
   |lol _=>rw[z]at e;cases e
   |dic _ _=>rw[z]at e;cases e
   |dol _ _=>rw[z]at e;cases e
   |lst ys=>
    rw[z]at e;cases e;obtain⟨vs,h1,l1,r1⟩:=s.obj j a _ e1 z;refine⟨false,a,vs,rfl,cE.of h1,by rw[r1.length];exact l1,λq H1 S1 st sm g=>?_⟩;obtain⟨ws,h2,l2,r2⟩:=sm.obj j a _ (st.at_ e1) (g (j,ys) ce);exact⟨ws,cE.of h2,r2⟩
 |pv v=>
  cases v with
  |lst ys=>
   cases e;have r:aW K p.c H (.lst ys) x:=r;unfold aW at r;obtain⟨a,vs,rfl,l,z,r⟩:=r;exact⟨false,a,vs,rfl,l.sq,by rw[r.length];exact z,λq H1 S1 st sm g=>⟨vs,(st.lat l).sq,st.reps r⟩⟩
  |tup ys=>
   cases e;have r:aW K p.c H (.tup ys) x:=r;unfold aW at r;obtain⟨a,vs,rfl,l,z,r⟩:=r;exact⟨true,a,vs,rfl,l,by rw[r.length];exact z,λq H1 S1 st sm g=>⟨vs,st.tup l,st.reps r⟩⟩
  |_=>cases e
theorem T6{elts:List ag}{x1:Nat}{tp p:ai}(hg:Gl X "zip")(hm:X.mg "zip"=none)(hl:fI K cl E X [a,b] ms)(hs:starEach [a,b] X.env=[(false,eval a X.env),(false,eval b X.env)]:=by rfl)(hs2:starEach [b] X.env=[(false,eval b X.env)]:=by rfl):
  PIp K cl E X (.Tuple elts x1 tp) (.Call (.Name "zip" p) [a,b] [] pos) (dX ms):=by
 intro hK;subst hK;refine PI.imp (abA hg hm (hl rfl) hs hs2) ?_
 rintro σ H R ⟨p,S,ρ,s,ev,h⟩
 refine cK s ev h λq H' as xs S' stp sm ev r k=>?_;unfold fQ at k;split at k
 .rename_i u v
  cases r with
  |cons r1 r2=>
   cases r2 with
   |cons r2 r3=>
    cases r3;split at k
    .rename_i xs1 S1 hx
     split at k
     .rename_i ys1 S2 hy
      obtain⟨f1,a1,vs1,rfl,q1,z1,st1⟩:=Gk sm r1 hx;obtain⟨f2,a2,vs2,rfl,q2,z2,st2⟩:=Gk sm r2 hy;refine⟨f1,a1,f2,a2,vs1,vs2,rfl,q1,q2,cL.ret (R:=fU X.K) k sm ?_⟩;refine⟨by rw[Qb];omega,λq3 H3 S3 fH sm3 g3=>?_⟩;obtain⟨ws1,w1,rr1⟩:=st1 q3 H3 S3 fH sm3 λg hg=>g3 g (ji _ hg);obtain⟨ws2,w2,rr2⟩:=st2 q3 H3 S3 fH sm3 λg hg=>g3 g (dz _ hg);refine⟨λi v e=>?_,?_⟩
      .obtain⟨x,y,ex,ey,rfl⟩:=Zl e
       obtain⟨x',ex',rx⟩:=rr1.get ex;obtain⟨y',ey',ry⟩:=rr2.get ey;refine⟨⟨ws1,ws2,x',y',w1,w2,ex',ey'⟩,λz H4 hz=>?_⟩;obtain⟨t,x2,y2,ht,rfl,rfl,g1,g2⟩:=hz;have e1:=(g1 ws1 w1).symm.trans ex';have e2:=(g2 ws2 w2).symm.trans ey';cases e1;cases e2;refine⟨gX ht,pK sm3 (.cons rx (.cons ry .nil)) (by show 2<=sizeLine;decide) ht⟩
      .refine⟨ws1,ws2,w1,w2,?_⟩
       show(dY xs1.1 ys1.1).length=_\/_;rw[Qb,rr1.length,rr2.length];omega
     .exact k.elim
    .exact k.elim
 .exact k.elim
def iX:Nat->AK->AK
 |_,[]=>[]
 |n,x::xs=>.tup [.int n,x]::iX (n+1) xs
theorem Pa:∀(n:Nat)(xs:AK),(iX n xs).length=xs.length
 |_,[]=>rfl
 |n,x::xs=>by
  unfold iX;rw[cu,Pa (n+1) xs,cu]
theorem Gj:∀{n:Nat}{xs:AK}{i:Nat}{v:PV},(iX n xs)[i]?=some v->∃x,xs[i]?=some x/\v=.tup [.int ((n+i:Nat):Int),x]
 |n,[],i,v,e=>by simp[iX]at e
 |n,x::xs,0,v,e=>by
  unfold iX at e;simp at e;exact⟨x,rfl,e.symm⟩
 |n,x::xs,i+1,v,e=>by
  unfold iX at e;obtain⟨y,h1,h2⟩:=Gj (n:=n+1) (xs:=xs) (i:=i) (v:=v) (by simpa using e);refine⟨y,by simpa using h1,?_⟩;rw[h2,show n+1+i=n+(i+1) by omega]
def Hd:AN->aG->cD (AK×Gd)
 |[.pv (.lst xs)],S=>.ok (iX 0 xs,[]) S
 |[.ref k],S=>match bS (.ref k) S with
  |.ok xs _=>.ok (iX 0 xs.1,xs.2) S
  |_=>.fail
 |_,_=>.fail
def xZ(ms:MA):MI:=λρ S=>(ms ρ S).bind Hd
theorem Rp{xs:AK}{G:Gd}{a:Addr}(z:xs.length<=sizeLine)(st1:∀q H1 S1,cG p H q H1->bF K q S1 H1->fS G S1->∃vs,cE K H1 a vs/\aU K q.c H1 xs vs):fU K p H (iX 0 xs,G) (Of K a):=by
 refine⟨by rw[Pa];exact z,λq3 H3 S3 fH sm3 g3=>?_⟩;obtain⟨ws1,w1,rr1⟩:=st1 q3 H3 S3 fH sm3 g3;refine⟨λi v e=>?_,?_⟩
 .obtain⟨x,ex,rfl⟩:=Gj e
  obtain⟨x',ex',rx⟩:=rr1.get ex;refine⟨⟨ws1,x',w1,ex'⟩,λz H4 hz=>?_⟩;obtain⟨t,y2,ht,rfl,rfl,g1⟩:=hz;have e1:=(g1 ws1 w1).symm.trans ex';cases e1;refine⟨gX ht,pK sm3 (.cons ?_ (.cons rx .nil)) (by show 2<=sizeLine;decide) ht⟩;rw[Nat.zero_add];exact iR (v:=.int _) rfl
 .refine⟨ws1,w1,?_⟩
  show _<=(iX 0 xs).length;rw[Pa,rr1.length];exact aq _
theorem C0{elts:List ag}{x1:Nat}{tp p:ai}(hg:Gl X "enumerate")(hm:X.mg "enumerate"=none)(hl:fI K cl E X [l] ms)(hs:starEach [l] X.env=[(false,eval l X.env)]:=by rfl):
  PIp K cl E X (.Tuple elts x1 tp) (.Call (.Name "enumerate" p) [l] [] pos) (xZ ms):=by
 intro hK;subst hK;refine PI.imp (S7 hg hm (hl rfl) hs) ?_
 rintro σ H R ⟨p,S,ρ,s,ev,h⟩
 refine cK s ev h λq H' as xs S' stp sm ev r k=>?_;unfold Hd at k;split at k
 .rename_i ys
  cases r with
  |cons r1 r2=>
   cases r2;rename_i x;have r1:aW X.K q.c H' (.lst ys) x:=r1;unfold aW at r1;obtain⟨a,vs,rfl,l,z,r⟩:=r1;exact⟨a,rfl,⟨vs,l.sq⟩,cL.ret (R:=fU X.K) k sm (Rp (by rw[r.length];exact z) λq H1 S1 st sm g=>⟨vs,(st.lat l).sq,st.reps r⟩)⟩
 .rename_i j
  cases r with
  |cons r1 r2=>
   cases r2;split at k
   .rename_i xs1 S1 hx
    obtain⟨a,e1,rfl⟩:=r1;cases z:S'[j]? with
    |none=>unfold bS at hx;simp only[z]at hx;cases hx
    |some o=>
     cases o with
     |lol _=>unfold bS at hx;simp only[z]at hx;cases hx
     |dic _ _=>unfold bS at hx;simp only[z]at hx;cases hx
     |dol _ _=>unfold bS at hx;simp only[z]at hx;cases hx
     |lst ys=>
      unfold bS at hx;simp only[z]at hx;cases hx;obtain⟨vs,h1,l1,r1⟩:=sm.obj j a _ e1 z;refine⟨a,rfl,⟨vs,cE.of h1⟩,cL.ret (R:=fU X.K) k sm (Rp (by rw[r1.length];exact l1) λq H1 S1 st sm g=>?_)⟩;obtain⟨ws,h2,l2,r2⟩:=sm.obj j a _ (st.at_ e1) (g (j,ys) ce);exact⟨ws,cE.of h2,r2⟩
   .exact k.elim
 .exact k.elim
end
theorem yX{A:ao}{k:Nat}(hr:dQ k A):A.units+8<cLine:=by
 have:=hr.units;omega
section
variable{K:ae}{cl:Str->Addr}{E:XK}{X:Cx}{a b c e l tg:ag}{es:List ag}{m ma mb:ME}{ms:MA}{pos:ai}{p q:Ph}{H H':Hp}{S:aG}
def kF(n:String):PV->AL
 |.int _=>if n="int" then some (.bl true)else if n="bool" then some (.bl false)else none
 |.tup _=>if n="tuple" then some (.bl true)else none
 |.lst _=>if n="list" then some (.bl true)else none
 |.str _=>if n="str" then some (.bl true)else none
 |.bl _=>if n="bool" then some (.bl true)else none
 |_=>none
theorem tH(K:ae)(n:String):ka K (.type n) (.type n)=some true:=by
 unfold ka;rw[if_pos (beq_self_eq_true _)]
def Te(K:ae)(n:String):V->Hp->VK->Prop:=λx H Q=>(∃t b,jO K H x t/\ka K t (.type n)=some b/\Q (.bl b) H)\/(n="tuple"/\∃a xs,x=.ref a/\dJ K H a xs/\Q (.bl true) H)\/(n="list"/\∃a xs,x=.ref a/\cE K H a xs/\Q (.bl true) H)
theorem Jj(n:String):iK X (.builtin "isinstance") (λxs H Q=>∃x,xs=[x,.ty n]/\Te X.K n x H Q):=by
 intro AO s σ H xs us Q I r h;obtain⟨x,rfl,h⟩:=h;obtain⟨u,c,rfl,rx,rc⟩:=Mr r;cases(show c=nh n from rc);rcases h with⟨t,b,ty,e,q⟩|⟨rfl,a,xs,rfl,t,q⟩|⟨rfl,a,xs,rfl,t,q⟩
 .exact My I rx ty e λtk=>⟨.bl b,H,I.tok tk,rfl,q⟩
 .cases rx
  obtain⟨its,_,⟨o,h1,h2,_⟩,_⟩:=I.tuple t;exact ig yq I.kIn ⟨o,h1,h2⟩ (tH X.K "tuple") (λz=>nomatch z) λtk=>⟨.bl true,H,I.tok tk,rfl,q⟩
 .cases rx
  obtain⟨its,_,pl,_⟩:=I.list t;obtain⟨o,h1,h2,_⟩:=pl.isList;exact ig vh I.kIn ⟨o,h1,h2⟩ (tH X.K "list") (λz=>nomatch z) λtk=>⟨.bl true,H,I.tok tk,rfl,q⟩
theorem acm(n:String):uQ K (Te K n) (kF n):=λ{p S H a c x Q} s ra e k=>by
 have fin:∀b,c=.bl b->Q (.bl b) H:=λb h=>by
  subst h;exact k H _ (dG.refl H) (by unfold aW;rfl)
 cases a with
 |int i=>
  cases ra.int;unfold kF at e;dsimp only at e;split at e
  .rename_i hn
   cases e;subst hn;exact .inl ⟨_,true,.int i,tH K _,fin _ rfl⟩
  .split at e
   .rename_i hn
    cases e;subst hn;exact .inl ⟨_,false,.int i,aaK K,fin _ rfl⟩
   .cases e
 |bl i=>
  cases ra.bl;unfold kF at e;dsimp only at e;split at e
  .rename_i hn
   cases e;subst hn;exact .inl ⟨_,true,.bl i,tH K _,fin _ rfl⟩
  .cases e
 |str i=>
  cases ra.str;unfold kF at e;dsimp only at e;split at e
  .rename_i hn
   cases e;subst hn;exact .inl ⟨_,true,.str i,tH K _,fin _ rfl⟩
  .cases e
 |tup xs=>
  obtain⟨a,vs,rfl,t,_,_⟩:=ra.tup;unfold kF at e;dsimp only at e;split at e
  .rename_i hn
   cases e;exact .inr (.inl ⟨hn,a,vs,rfl,t,fin _ rfl⟩)
  .cases e
 |lst xs=>
  obtain⟨a,vs,rfl,t,_,_⟩:=ra.lst;unfold kF at e;dsimp only at e;split at e
  .rename_i hn
   cases e;exact .inr (.inr ⟨hn,a,vs,rfl,t,fin _ rfl⟩)
  .cases e
 |non=>cases e
theorem Ar{n:String}{t:Str}{p p2:ai}(hg:Gl X "isinstance")(hm:X.mg "isinstance"=none)(hgt:Gl X t)(hmt:X.mg t=none)(hv:bootBuiltins t=some (.type n))(ha:aX K cl E X a m)
  (htn:t≠"__name__":=by decide)(htd:(t==("__debug__":Str))=false:=by decide)
  (he:starEach [a,.Name t p2] X.env=(false,eval a X.env)::starEach [.Name t p2] X.env:=by rfl)(he2:starEach [.Name t p2] X.env=[(false,eval (.Name t p2) X.env)]:=by rfl)(hpl:(backTo pos (starEach [.Name t p2] X.env)).any (·.1)=false:=by rfl):
  aX K cl E X (.Call (.Name "isinstance" p) [a,.Name t p2] [] pos) (bG (kF n) m):=by
 intro hK;subst hK;refine PE.imp (Sb (Jj n) hg hm j8 (nR (ha rfl) (nR (Hn hgt hmt hv (v:=.ty n) rfl htn htd) tT he2) he) (by decide) (by decide) he hpl) ?_
 rintro σ H Q ⟨p,S,ρ,s,ev,h⟩
 exact cK s ev h λq H' as x S' stp sm ev r k=>⟨x,rfl,qY (acm n) sm r k⟩
def kS:PV->AL
 |.non=>some (.bl true)
 |_=>some (.bl false)
def yL(f:Int->Int->Int)(i:Nat)(ρ:bY)(v:AV)(S:aG):cP:=match ρ[i]? with
 |some (some (.pv (.int x)))=>match v with
  |.pv (.int y)=>.nx (ρ.set i (some (.pv (.int (f x y))))) S
  |_=>.fail
 |_=>.fail
def lJ(f:Int->Int->Int)(i:Nat)(m:ME):MS:=λρ S=>match ρ[i]? with
 |some (some (.pv (.int _)))=>cP.of (m ρ S) (yL f i ρ)
 |_=>.fail
theorem Hl{i:Nat}{x:Str}{op:ph}{f:Int->Int->Int}{pos':ai}(hN:X.N.Nodup)(hi:X.N[i]?=some x)(hx:jT X.env.scope x)(he:aX K cl E X e m)(ho:L2.PIp X op (Jf f))
  (hf:X.fn x=true\/X.env.scope.names.lookup x=some .local:=by first |exact .inl rfl |exact .inr rfl |assumption):eN K cl E X (.AugAssign (.Name x pos') op e pos) (lJ f i m):=by
 intro hK;subst hK;refine PS.imp (Mp hN hi hx (he rfl) ho hf) ?_
 rintro D σ H ⟨p,S,ρ,s,ev,h⟩
 unfold lJ at h;split at h
 .rename_i x0 hx0
  obtain⟨v,e1,r1⟩:=ev.at_ i _ hx0;refine⟨v,e1,iT s ev h λq H' a b S' stp sm ev' r k=>?_⟩;have ev2:v=.int x0:=(show eT X.K p H (.int x0) v from .inl r1).int;unfold yL at k;rw[hx0]at k;dsimp only at k;split at k
  .rename_i y0
   have eb:b=.int y0:=(show eT X.K q H' (.int y0) b from .inl r).int;exact⟨x0,y0,ev2,eb,dR.nxD k sm (ev'.set (v:=.pv (.int (f x0 y0))) (x:=.int (f x0 y0)) (by show aW X.K q.c H' _ _;unfold aW;rfl) i)⟩
  .exact k.elim
 .exact h.elim
def xT(K:ae):Sp:=λvs H Q _=>∃(a:Addr)(ns:AB),vs=[.ref a]/\cE K H a (ns.map V.int)/\ns.length<=63/\∀H',Q (.bl true) H'
theorem Q7{f:FM}(ht:∀ns:AB,ns.length<=63->∃S,f [.pv (.lst (ns.map .int))] []=.ok (.pv (.bl true)) S){vs:List V}{H:Hp}{Q:VK}{E:XK}(h:xT K vs H Q E):lO K cl f vs H Q E:=by
 obtain⟨a,ns,rfl,hS,hl,hQ⟩:=h;obtain⟨S,e⟩:=ht ns hl;have rs:∀(ns:AB),aU K (λ_=>False) H (ns.map .int) (ns.map V.int):=λns=>by
  induction ns with
  |nil=>exact .nil
  |cons n ns ih=>exact .cons (by unfold aW;rfl) ih
 refine⟨⟨[],λ_=>False,λ_=>False⟩,[],[.pv (.lst (ns.map .int))],⟨List.nodup_nil,rfl,(λ_ h=>absurd h (cf)),(λ_ h=>h),(λ_ h=>h.elim),(λk a o e=>by simp at e)⟩,.cons ?_ .nil,?_⟩
 .show aW K (λ_=>False) H (.lst (ns.map .int)) (.ref a)
  unfold aW;refine⟨a,_,rfl,?_,?_,rs ns⟩
  .rcases hS with(h |h) |h
   .exact .inl ⟨h,λz=>z⟩
   .exact .inr (.inl h)
   .exact .inr (.inr h)
  .rw[ak,jF]
   omega
 .rw[e]
  intro q H' x st sm r;have r:aW K q.c H' (.bl true) x:=r;unfold aW at r;rw[r];exact hQ H'
end
section
variable{K:ae}{cl:Str->Addr}{E:XK}{X:Cx}{e:ag}{es:List ag}{ms:MA}{p q:Ph}{H H':Hp}{S:aG}
variable{k:Nat}{f:Addr}{fd:br}{ps:List Str}{g:FM}{dvs:List V}{ds:AG}{dv:AK}{x:Str}{pp pos pos1 pos2 pos3 pc:ai}{c n:Str}{i nn:Nat}{AU:Stmt}{body:List Stmt}{newId:String}{up:bY->bY}
end
end L2.Pp
namespace L2
open PySem PySem.Spec PyProof.Rows Bn
section
variable{X:Cx}{k:Nat}{f:Addr}{fd:br}{ps:List Str}{sp:Sp}{dvs:List V}{ds:AG}{x:Str}{p pos pos1 pos2 pos3 pc:ai}{e:ag}{es:List ag}{t:TA}{c n:Str}{C:Addr}{i:Nat}{AU:Stmt}{body:List Stmt}{newId:String}
end
end L2
namespace L2.Pp
open PySem PySem.Spec PyProof.Rows Bn
section
variable{K:ae}{cl:Str->Addr}{E:XK}{X:Cx}{e:ag}{es:List ag}{ms:MA}{p q:Ph}{H H':Hp}{S:aG}
variable{k:Nat}{f:Addr}{fd:br}{ps:List Str}{g:FM}{dvs:List V}{ds:AG}{dv:AK}{x:Str}{pp pos pos1 pos2 pos3 pc:ai}{c n:Str}{i nn:Nat}{AU:Stmt}{body:List Stmt}{newId:String}{up:bY->bY}
end
section
variable{prog:Program}{w:am}{A:ao}{E:Value->aa->Prop}{s:aa}
theorem Ij{it t:Addr}{items:Array Value}(hne:t≠it):∀(n i:Nat)(s:aa)(Q:AG->aa->Prop),s.heap.IsListIter it t i->s.heap.IsList t items->i+n<=items.size->
  (∀h',Heap.IsListIter h' it t (i+n)->jy it s.heap h'->Q ((items.toList.drop i).take n) {s with heap:=h'})->wpAny (model prog w) A (draw (.ref it) n) Q E s
 |0,i,s,Q,hit,_,_,hQ=>by
  show wpAny _ _ (pure []) Q E s;exact bh (by simpa using hQ s.heap hit (Heap.SameBut.refl ..))
 |n+1,i,s,Q,hit,ht,hle,hQ=>by
  have hlt:i<items.size:=by omega
  show wpAny _ _ (pyNext (.ref it) >>= _) Q E s;refine ah (ym hit ht (x:=items[i]) (by simp[hlt]) λh₁ hit₁ hs₁=>?_);refine ah (iz (Ij hne n (i+1) _ _ hit₁ (ht.extBut hs₁.extBut hne) (by omega) λh₂ hit₂ hs₂=>bh ?_));have hd:items.toList.drop i=items[i]::items.toList.drop (i+1):=by simp[ww,hlt]
  have:=hQ h₂ (by rw[show i+(n+1)=i+1+n by omega];exact hit₂) (hs₁.trans hs₂);rw[hd,List.take_succ_cons]at this;exact this
theorem Ou{t:Addr}{items:Array Value}{Q:AG->aa->Prop}(hh:A.handled=none)(ht:s.heap.IsList t items)
  (hQ:∀h',sx s.heap.objs.size s.heap h'->Q items.toList {s with heap:=h'}):wpAny (model prog w) A (unpackItems (.ref t) items.size none) Q E s:=by
 have hlt:t≠s.heap.objs.size:=by obtain⟨o,ho,_⟩:=ht;exact df (bn ho)
 unfold unpackItems;refine ah ?_
 .unfold notIterableAtAll
  refine ah (wpAny_specialOf ht.typeIs slot_list_iter.lookup ?_);refine bh ?_;simp only[xc,if_false];refine ah (iz (qk ht ?_));refine ah (iz (Ij hlt items.size 0 _ _ ⟨_,dg _ rfl,rfl,rfl⟩ (ht.push _) (by omega) λh₁ hit₁ hs₁=>?_));have hall:xf items.size (List.drop 0 items.toList)=items.toList:=by
   rw[j9];exact tm (by simp)
  rw[hall];rw[if_neg (by simp)];have ht₁:Heap.IsList h₁ t items:=(ht.push _).extBut hs₁.extBut hlt;refine ah (iz (yn hh hit₁ ht₁ (by simp) λh₂ he₂=>?_));simp only[Option.isSome_none,xc,if_false];refine bh (hQ h₂ λb o hb e=>he₂ b o hb (hs₁.extBut b o hb (ay _ e)))
theorem unpack_list{t:Addr}{items:Array Value}{targets:List (Bool×(Value->Sem Unit))}{Q:Unit->aa->Prop}(hh:A.handled=none)(ht:s.heap.IsList t items)
  (hn:targets.length=items.size)(hstar:targets.findIdx? (·.1)=none)
  (h:∀h',sx s.heap.objs.size s.heap h'->wpAny (model prog w) A (assignInOrder (targets.map (·.2)) items.toList) Q E {s with heap:=h'}):
  wpAny (model prog w) A (unpack (.ref t) targets) Q E s:=by
 unfold unpack;rw[hn,hstar];exact ah (iz (Ou hh ht h))
end
end L2.Pp
namespace L2
open PySem PyProof.Rows
def gLs(K:ae)(n:Nat)(t:kU):TG:=λv σ H Q=>∃a xs,v=.ref a/\cE K H a xs/\xs.length=n/\t xs σ H Q
theorem abR{X:Cx}{pos:ai}{es:List ag}{k:Nat}{t:kU}{n:Nat}(hc:X.calm=true)(h:kW X es t)
  (hn:(assignEach es X.env).length=n:=by rfl)(hst:(assignEach es X.env).findIdx? (·.1)=none:=by rfl):PG X (.Tuple es k pos) (gLs X.K n t):=by
 intro AO s σ H v u Q I r hw;obtain⟨a,xs,e1,hq,hl,hw⟩:=hw;subst e1;cases r;obtain⟨its,rv,⟨o,m,e,c1,_,d⟩,hz⟩:=I.list hq;have ht:s.heap.IsList a its.toArray:=⟨o,e,c1,m,d⟩;rw[assign_Tuple];refine ah (pr (Pp.unpack_list (I.ok.hd hc) ht (by simp[hn,<-hl,rv.length]) hst λh' hx=>?_));have I1:aH X AO σ H {s with heap:=h'}:=I.kept (t':=s.toks) λb o e=>hx b o (df (bn e)) e;exact h AO _ σ H xs _ Q I1 (by simpa using rv) hw
end L2
namespace L2.Pp
open PySem
def xR(n:Nat)(gs:lV)(m:ME):MS:=λρ S=>cP.of (m ρ S) λv S1=>match rd S1 v with
 |some (.lst vs)=>if vs.length=n then(match gs vs ρ with
  |some ρ1=>.nx ρ1 S1
  |none=>.fail)else .fail
 |_=>.fail
theorem P6{K:ae}{cl:Str->Addr}{E:XK}{X:Cx}{e:ag}{m:ME}{es:List ag}{gs:lV}{n k:Nat}{pos tp:ai}(hc:X.calm=true)(he:aX K cl E X e m)(h:qE K X es gs)
  (hn:(assignEach es X.env).length=n:=by rfl)(hst:(assignEach es X.env).findIdx? (·.1)=none:=by rfl)
  (hs:swapsWithSole [.Tuple es k tp] e pos.line X.env=pure false:=by rfl)(hw:swappedStores [.Tuple es k tp] e X.env=pure none:=by rfl)
  (h1:(assignEach [.Tuple es k tp] X.env).map (·.2)=[assign (.Tuple es k tp) X.env]:=by rfl):eN K cl E X (.Assign [.Tuple es k tp] e pos) (xR n gs m):=by
 intro hK;subst hK;refine PS.imp (Uc (he rfl) (abR hc (h rfl) hn hst) hs hw h1) ?_
 rintro D σ H ⟨p,S,ρ,s,e,h⟩
 refine iT s e h λq H' a b S' stp sm ev r k=>?_;cases z:rd S' a with
 |none=>simp only[z]at k;exact k.elim
 |some v=>
  have rr:=lH sm r z;cases v with
  |lst vs=>
   simp only[z]at k;split at k
   .rename_i hl
    cases y:gs vs ρ with
    |none=>simp only[y]at k;exact k.elim
    |some ρ1=>
     simp only[y]at k;obtain⟨a',xs,rfl,sq,_,rs⟩:=eT.lst rr;exact⟨a',xs,rfl,sq,rs.length.symm.trans hl,q,S',ρ,vs,ρ1,sm,ev,rs,y,λσ' ev'=>dR.nxD k sm ev'⟩
   .exact k.elim
  |_=>simp only[z]at k;exact k.elim
end L2.Pp
namespace L2
open PySem PySem.Spec PyProof.Rows Bn
section
variable{X:Cx}
theorem Ug(is:AB):∀j,j<=is.length->preSum (λi=>is.getD i 0) j=(is.take j).sum
 |0,_=>by simp[preSum]
 |j+1,h=>by
  have hj:j<is.length:=h;rw[preSum,Ug is j (by omega),List.take_add_one,av hj,Option.toList_some,tq,List.sum_singleton];simp only[ci,av hj,k4]
theorem Yy(hc:X.calm=true):iK X (.builtin "sum") (λxs H Q=>∃(a:Addr)(is:AB),xs=[.ref a]/\cE X.K H a (is.map V.int)/\Q (.int is.sum) H):=by
 intro AO s σ H xs us Q I r h;obtain⟨a,is,rfl,hq,q⟩:=h;obtain⟨u,rfl,ru⟩:=kD r;cases ru;obtain⟨its,rv,pl,hz⟩:=I.list hq;have hl:is.length=its.length:=by
  have:=rv.length
  rwa[ak]at this
 refine call_sum_walkG (qk pl.isList ?_);have ha:a<s.heap.objs.size:=by
  obtain⟨o,ho,_⟩:=pl.isList;exact bn ho
 refine⟨_,_,_,_,_,_,λi=>is.getD i 0,rfl,Walks.list (prog:=X.prog) (w:=X.w) (A:=X.A.in1) (show X.A.in1.handled=none from I.ok.hd hc) s.heap.objs.size a (df ha) its.toArray,⟨⟨_,dg _ rfl,rfl,rfl⟩,Heap.IsList.at pl.isList λo e=>ay _ e⟩,λb hb=>?_,λi v hv=>?_,λh' tk t' kp=>?_⟩
 .have hb':b=s.heap.objs.size\/b=a:=by simpa using hb
  rw[jg];rcases hb' with e |e<;>rw[e]
  .exact wz _
  .exact xh ha
 .have hv':its[i]?=some v:=by simpa using hv
  have hi:i<is.length:=by
   have:=(da.mp hv').1;omega
  obtain⟨u,hu,ru⟩:=rv.get (i:=i) (x:=.int is[i]) (by rw[dk,av hi];rfl);rw[hv']at hu;cases hu;obtain⟨t,ht⟩:=(show ∃t,v=qy is[i] t from ru);exact⟨t,by rw[ht];simp[ci,hi]⟩
 .have e:preSum (λi=>is.getD i 0) its.toArray.size=is.sum:=by
   rw[ar,<-hl,Ug is _ (aq _),k7]
  show EP X AO σ Q (.int (preSum (λi=>is.getD i 0) its.toArray.size) t') _;rw[e];have I1:aH X AO σ H {s with heap:=s.heap.push {cls:=.type "list_iterator",data:=.fields #[.ref a,.int 0 0]},toks:=s.toks}:=I.kept λb o z=>ay _ z;have fp:fY X AO H s.heap.objs.size:=I.fpOk (aq _) (I.hok.fresh (aq _));obtain⟨f0,f1,f2,f3,f4,f5⟩:=fp;exact⟨.int is.sum,H,I1.turned (λb o hb z=>kp b o (by simpa using hb) z) f0 f1 f3 f4 f5,⟨t',rfl⟩,q⟩
end
end L2
namespace L2.Pp
open PySem PySem.Spec PyProof.Rows Bn
section
variable{K:ae}{cl:Str->Addr}{E:XK}{X:Cx}
def iB:AK->Option AB
 |[]=>some []
 |.int b::r=>match iB r with
  |some bs=>some (b::bs)
  |none=>none
 |_::_=>none
theorem sX{c:Addr->Prop}{H:Hp}:∀{xs:AK}{bs:AB}{vs:List V},iB xs=some bs->aU K c H xs vs->vs=bs.map V.int
 |[],bs,vs,e,r=>by
  cases e;unfold aU at r;exact r
 |.int b::xs,bs,vs,e,r=>by
  unfold iB at e;split at e
  .rename_i cs h
   cases e;unfold aU at r;obtain⟨v,w,rfl,r1,r2⟩:=r;unfold aW at r1;rw[r1,sX h r2];rfl
  .cases e
 |.non::_,_,_,e,_=>by cases e
 |.bl _::_,_,_,e,_=>by cases e
 |.str _::_,_,_,e,_=>by cases e
 |.tup _::_,_,_,e,_=>by cases e
 |.lst _::_,_,_,e,_=>by cases e
def qD:AK->AL
 |[.lst xs]=>(iB xs).map λbs=>.int bs.sum
 |_=>none
theorem acn:jQ K (λxs H Q=>∃(a:Addr)(is:AB),xs=[.ref a]/\cE K H a (is.map V.int)/\Q (.int is.sum) H) qD:=λ{p S H as c xs Q} s ra e k=>by
 unfold qD at e;split at e
 .rename_i zs
  cases y:iB zs with
  |none=>rw[y]at e;cases e
  |some bs=>
   rw[y]at e;cases e;cases ra with
   |cons h t=>
    cases t;obtain⟨a,vs,rfl,l,z,r⟩:=h.lst;rw[sX y r]at l;exact⟨a,bs,rfl,l,k H _ (dG.refl H) (iR (v:=.int _) rfl)⟩
 .cases e
end
section
variable{K:ae}{cl:Str->Addr}{E:XK}{X:Cx}{p q:Ph}{H H':Hp}{S:aG}
variable{sc:Scope}{own:List Str}{cap:List (Nat×Str)}{elt target iter:ag}{pos:ai}{mi:MI}{g:GM}{me:ME}
end
def iJ{α:Type}(xs:List α)(lo hi:AJ)(st:Int):List α:=
 (sliceRange (sliceBounds lo hi (some st) xs.length).1 (sliceBounds lo hi (some st) xs.length).2.1 (sliceBounds lo hi (some st) xs.length).2.2).filterMap (xs[·]?)
theorem Sg(its:AG)(lo hi:AJ)(st:Int):slicePick its.toArray lo hi (some st)=(iJ its lo hi st).toArray:=by
 unfold slicePick iJ;rw[ar];simp only[List.getElem?_toArray]
theorem Ej{α β:Type}{R:α->β->Prop}:∀{xs:List α}{ys:List β}(ks:List Nat),xs.length=ys.length->(ks.filterMap (xs[·]?)).length=(ks.filterMap (ys[·]?)).length
 |xs,ys,[],_=>rfl
 |xs,ys,k::ks,h=>by
  have ih:=Ej (R:=R) (xs:=xs) (ys:=ys) ks h
  by_cases hk:k<xs.length
  .have hk2:k<ys.length:=by omega
   rw[je,je,av hk,av hk2];simp[ih]
  .rw[je,je,wv (by omega),wv (by omega)]
   exact ih
theorem Rk{α:Type}(xs:List α)(lo hi:AJ)(st:Int):(iJ xs lo hi st).length<=xs.length:=by
 have e:=slicePick_size_le (xi xs.length ck) lo hi (some st);have e2:(iJ xs lo hi st).length=(slicePick (xi xs.length ck) lo hi (some st)).size:=by
  have:=Sg (jm xs.length ck) lo hi st;rw[show xi xs.length ck=(jm xs.length ck).toArray by simp,this,ar];unfold iJ;rw[yw];exact Ej (R:=λ_ _=>True) _ (by simp)
 rw[e2];simpa using e
section
variable{K:ae}{cl:Str->Addr}{E:XK}{X:Cx}{e:ag}{m:ME}{pos p2:ai}
theorem bI.at_{xs:List V}{us:AG}(r:bI xs us):∀{k:Nat}{x:V},xs[k]?=some x->∃u,us[k]?=some u/\cA x u:=λ{k x} h=>by
 obtain⟨u,e1,e2⟩:=r.get h;exact⟨u,e1,e2⟩
theorem bI.pick{xs:List V}{us:AG}(r:bI xs us):∀ks:List Nat,bI (ks.filterMap (xs[·]?)) (ks.filterMap (us[·]?))
 |[]=>.nil
 |k::ks=>by
  have ih:=bI.pick r ks;rw[je,je];cases h:xs[k]? with
  |none=>
   have:us[k]?=none:=by
    rw[k8]at h⊢;rw[<-r.length];exact h
   rw[this];exact ih
  |some x=>
   obtain⟨u,e1,e2⟩:=bI.at_ r h;rw[e1];exact .cons e2 ih
theorem aU.pick{c:Addr->Prop}{H:Hp}{xs:AK}{us:List V}(r:aU K c H xs us):∀ks:List Nat,aU K c H (ks.filterMap (xs[·]?)) (ks.filterMap (us[·]?))
 |[]=>.nil
 |k::ks=>by
  have ih:=aU.pick r ks;rw[je,je];cases h:xs[k]? with
  |none=>
   have:us[k]?=none:=by
    rw[k8]at h⊢;rw[<-r.length];exact h
   rw[this];exact ih
  |some x=>
   obtain⟨u,e1,e2⟩:=r.get h;rw[e1];exact .cons e2 ih
def Oe(v:PV)(lo hi:AJ)(st:Int):AL:=match v with
 |.lst xs=>some (.lst (iJ xs lo hi st))
 |_=>none
def oH(m:ME)(ml mh:MO)(st:Int):ME:=λρ S=>(m ρ S).bind λv S1=>(ml ρ S1).bind λlo S2=>(mh ρ S2).bind λhi S3=>iG ((rd S3 v).bind λx=>Oe x lo hi st) S3
def ad1(K:ae)(st:Int)(te:TE)(tl th:TO):TE:=λσ H Q=>te σ H λx H1=>tl σ H1 λl H2=>th σ H2 λu H3=>∃a xs,x=.ref a/\cE K H3 a xs/\∀p,H3 p=none->Q (.ref p) (bK H3 p (.lst (iJ xs l u st)))
theorem Mz{lo hi:Option ag}{es:ag}{te:TE}{tl th:TO}{st:Int}(h0:st≠0)(he:PE X e te)(hl:PO X lo tl)(hu:PO X hi th)(hst:PO X (some es) λ_ H Q=>Q (some st) H):PE X (.Subscript e (.Slice lo hi (some es) p2) pos) (ad1 X.K st te tl th):=by
 intro AO s σ H Q I h;refine vw (bO (he AO s σ H _ I h) λv s1 hq=>?_);rcases hq with⟨x,H1,I1,r1,q1⟩;refine wpAny_Slice (bO (hl AO s1 σ H1 _ I1 q1) λvl s2 ⟨l,H2,I2,pl,q2⟩=>bO (hu AO s2 σ H2 _ I2 q2) λvu s3 hq=>?_);rcases hq with⟨u,H3,I3,pu,q3⟩;refine bO (hst AO s3 σ H3 (λo H'=>o=some st/\H'=H3) I3 ⟨rfl,rfl⟩) ?_
 rintro vs s4 ⟨o,H4,I4,ps,eo,eH⟩
 subst eo eH;obtain⟨a,xs,rfl,hx,q⟩:=q3;cases r1;have I5:aH X AO σ H4 {s4 with heap:=s4.heap.push {cls:=.type "slice",data:=.fields #[vl,vu,vs]}}:=I4.kept (t':=s4.toks) λb ob q=>ay _ q;obtain⟨its,r,ht,hz⟩:=I5.list hx;have hlen:=r.length;have hg:wpAny (model X.prog X.w) X.A (getItem (.ref a) (.ref s4.heap.objs.size)) (EP X AO σ Q) X.xe {s4 with heap:=s4.heap.push {cls:=.type "slice",data:=.fields #[vl,vu,vs]}}:=by
  refine ze ht.isList (yz ..) pl pu ps (by simpa using h0) ?_ (by rw[ar]<;>omega);rw[Sg];refine⟨.ref _,_,I5.laid (t':=s4.toks) (o:=.lst (iJ xs l u st)) (λb ob q=>ay _ q) (aq _) ?_,rfl,q _ (I5.hok.fresh (aq _))⟩;refine⟨ee (Rk xs l u st) hz,_,0,?_,dg _ rfl⟩;unfold iJ;rw[hlen];exact bI.pick r _
 show wpAny (model X.prog X.w) X.A (subscriptTail e (.Slice lo hi (some es) p2) (.ref a) (.ref s4.heap.objs.size)) (EP X AO σ Q) X.xe {s4 with heap:=s4.heap.push {cls:=.type "slice",data:=.fields #[vl,vu,vs]}};exact tail_any (ops:=[.ref a,.ref s4.heap.objs.size]) (T:="list") ht.isList.typeIs wd.lookup hg (by with_unfolding_all rfl)
theorem Vp{lo hi:Option ag}{es:ag}{ml mh:MO}{st:Int}(he:aX K cl E X e m)(hl:oR K cl E X lo ml)(hu:oR K cl E X hi mh)(hst:PO X (some es) λ_ H Q=>Q (some st) H)(h0:st≠0):aX K cl E X (.Subscript e (.Slice lo hi (some es) p2) pos) (oH m ml mh st):=by
 intro hK;subst hK;refine(Mz h0 (he rfl) (hl rfl) (hu rfl) hst).imp ?_
 rintro σ H Q ⟨p,S,ρ,s,e,h⟩
 refine cK s e h λq H1 a x S1 st s1 e1 r1 h1=>cK s1 e1 h1 λq2 H2 lo lo' S2 st2 s2 e2 r2 h2=>cK s2 e2 h2 λq3 H3 hi hi' S3 fH s3 e3 r3 h3=>?_;cases r2;cases r3;have ra:=fH.repA (st2.repA r1);obtain⟨c,ec,k⟩:=rE s3 h3;cases z:rd S3 a with
 |none=>rw[z]at ec;cases ec
 |some v=>
  rw[z]at ec;have rv:=lH s3 ra z;cases v with
  |lst xs=>
   have ec:some (PV.lst (iJ xs lo hi _))=some c:=ec;cases ec;obtain⟨a1,vs,rfl,l1,z1,r1⟩:=rv.lst;refine⟨a1,vs,rfl,l1,λt ht=>k _ _ (gX ht) (pJ s3 ?_ (ee (Rk vs lo hi _) z1) ht)⟩;unfold iJ;rw[r1.length];exact aU.pick r1 _
  |_=>cases ec
theorem aan{j:Nat}{p1 p2:ai}:PO X (some (.UnaryOp .USub (.Constant (.int 1) j p1) p2)) λ_ H Q=>Q (some (-1)) H:=by
 intro AO s σ H Q I h;exact(Dc (Kr Dp Nd)) AO s σ H Q I ⟨1,rfl,-1,rfl,h⟩
theorem abf{i:Int}{j:Nat}{p1:ai}:PO X (some (.Constant (.int i) j p1)) λ_ H Q=>Q (some i) H:=by
 intro AO s σ H Q I h;exact(Dc Nd) AO s σ H Q I ⟨i,rfl,h⟩
end
section
variable{K:ae}{cl:Str->Addr}{E:XK}{X:Cx}
end
end L2.Pp
namespace L2
open PySem PySem.Spec PyProof.Rows Bn
open PySem.W (KasT kas_sort kas_ask KatLex KatGo KatTups kat_run kat_kind kat_lt kat_one kas_item kat_snds)
def mV{α:Type}(lt:Nat->Nat->Bool):KasT α->α
 |.ret a=>a
 |.ask i j k=>mV lt (k (lt i j))
def iI{α:Type}(n:Nat):KasT α->Bool
 |.ret _=>true
 |.ask i j k=>decide (i<n)&&decide (j<n)&&iI n (k true)&&iI n (k false)
theorem Hk{α:Type}{cmp:Nat->Nat->(Bool->aa->Prop)->aa->Prop}{lt:Nat->Nat->Bool}{n:Nat}{s:aa}(hc:∀i j(C:Bool->aa->Prop),i<n->j<n->C (lt i j) s->cmp i j C s):∀(t:KasT α)(Q:α->aa->Prop),iI n t=true->Q (mV lt t) s->t.kasWp cmp Q s
 |.ret a,Q,_,h=>h
 |.ask i j k,Q,ok,h=>by
  unfold iI at ok;simp only[fh,decide_eq_true_eq]at ok;obtain⟨⟨⟨hi,hj⟩,h1⟩,h2⟩:=ok;refine hc i j _ hi hj (Hk hc (k (lt i j)) Q ?_ h);cases lt i j
  .exact h2
  .exact h1
def rO(h:Heap)(v:Value)(us:AB):Prop:=∃a o its n,v=.ref a/\h.get? a=some o/\o.cls=.type "tuple"/\o.data=.seq (lc its) n/\bI (us.map V.int) its
section
variable{prog:Program}{w:am}{A:ao}{E:Value->aa->Prop}{s:aa}
theorem Wn{Q:Bool->aa->Prop}:∀(us vs:AB)(its jts:AG)(i:Nat)(fin:Bool),bI (us.map V.int) its->bI (vs.map V.int) jts->fin=decide (us.length<vs.length)->Q (HT.lexLt us vs) s->KatLex prog w A true fin Q (its.zip jts) i s
 |[],vs,its,jts,i,fin,h1,h2,hf,hQ=>by
  cases h1;cases vs with
  |nil=>
   subst hf;exact xj hQ
  |cons v vs=>
   have e:fin=true:=by rw[hf];simp
   subst e;exact xj hQ
 |u::us,[],its,jts,i,fin,h1,h2,hf,hQ=>by
  cases h2;have e:fin=false:=by rw[hf];simp
  subst e;rw[List.zip_nil_right];exact xj hQ
 |u::us,v::vs,its,jts,i,fin,h1,h2,hf,hQ=>by
  cases h1 with
  |cons r1 t1=>
   cases h2 with
   |cons r2 t2=>
    obtain⟨k1,rfl⟩:=r1;obtain⟨k2,rfl⟩:=r2;rw[List.zip_cons_cons];refine PySem.W.kat_cons (wpAny_eqBool_int ?_);rw[HT.lexLt_cons]at hQ
    by_cases e:u=v
    .rw[if_pos e]at hQ
     have b:(u==v)=true:=by simpa using e
     rw[b];exact PySem.W.kat_yes (Wn us vs _ _ (i+1) fin t1 t2 (by rw[hf];simp) hQ)
    .rw[if_neg e]at hQ
     have b:(u==v)=false:=by simpa using e
     rw[b];refine PySem.W.kat_no ?_
     by_cases hi:i=0
     .subst hi
      exact oneLt_int hQ
     .have b2:(true&&i==0)=false:=by simpa using hi
      rw[b2];exact kat_one _ _ (PySem.P.lt_int hQ)
theorem aaD{x y:Value}{us vs:AB}{Q:Bool->aa->Prop}(hx:rO s.heap x us)(hy:rO s.heap y vs)(h:Q (HT.lexLt us vs) s):wpAny (model prog w) A (keyLt' (tuples' true) x y) Q E s:=by
 obtain⟨a,o,its,n,rfl,ho,hc,hd,r⟩:=hx;obtain⟨b,o2,jts,k,rfl,ho2,hc2,hd2,r2⟩:=hy;refine kat_lt ho hd ho2 hd2 ?_;have l1:=r.length;have l2:=r2.length;rw[ak]at l1 l2;refine Wn us vs its jts 0 _ r r2 ?_ h;rw[ar,ar,l1,l2]
theorem Rh:∀(vs:AG)(uss:AE),vs.length=uss.length->(∀i,i<vs.length->rO s.heap (vs.getD i ck) (uss.getD i [])/\uss.getD i []≠[])->∃fs,KatTups s.heap vs fs/\fs.length=vs.length/\∀v∈fs,∃i t,v=.int i t
 |[],uss,_,_=>⟨[],trivial,rfl,λ_ h=>absurd h cf⟩
 |v::vs,[],hl,_=>by cases hl
 |v::vs,us::uss,hl,h=>by
  obtain⟨fs,k,l,q⟩:=Rh vs uss (by simpa using hl) λi hi=>by
   have:=h (i+1) (by simp;omega);simpa using this
  obtain⟨⟨a,o,its,n,e,ho,hc,hd,r⟩,ne⟩:=h 0 (by simp);have e:v=.ref a:=e;subst e;cases us with
  |nil=>exact absurd rfl ne
  |cons u us=>
   have r:bI (V.int u::us.map V.int) its:=r;cases r with
   |cons r1 t1=>
    obtain⟨t,rfl⟩:=r1;refine⟨.int u t::fs,KatTups.cons ho hc hd (by simp) k,by simp[l],λx hx=>?_⟩;rcases bo.mp hx with rfl |hx
    .exact⟨u,t,rfl⟩
    .exact q x hx
def dW(uss:AE):List Nat:=(mV (λi j=>HT.lexLt (uss.getD i []) (uss.getD j [])) (jc uss.length)).toList
theorem Ev{a:Addr}{vs:AG}{uss:AE}{n:Nat}{P:PySem.Fin->aa->Prop}(ho:s.heap.get? a=some (seqObj "list" vs.toArray n))(hl:vs.length=uss.length)(h2:2<=vs.length)(h64:vs.length<64)(ok:iI uss.length (jc uss.length)=true)
  (tu:∀i,i<vs.length->rO s.heap (vs.getD i ck) (uss.getD i [])/\uss.getD i []≠[])
  (h:P (.done (.ret .none)) {s with heap:=sortedHeap s.heap a vs (lc ((dW uss).map λi=>vs.getD i ck))}):
  wpAny (model prog w) A (Builtin.«list.sort» ⟨[.ref a],[]⟩) P E s:=by
 have ha:a<s.heap.objs.size:=bn ho;obtain⟨e1,ho1⟩:∃e1,(s.heap.update a (gm λ_=>(#[]:Array Value))).get? a=some (seqObj "list" #[] e1):=⟨_,xk ho λ_=>#[]⟩;have kp:∀b o,b≠a->s.heap.get? b=some o->(((s.heap.update a (gm λ_=>(#[]:Array Value))).push (seqObj "tuple" vs.toArray 0)).push (seqObj "list" #[] 0)).get? b=some o:=λb o hb e=>
  ay _ (ay _ ((xl _ _ _ _ hb).trans e))
 have tu2:∀i,i<vs.length->rO (((s.heap.update a (gm λ_=>(#[]:Array Value))).push (seqObj "tuple" vs.toArray 0)).push (seqObj "list" #[] 0)) (vs.getD i ck) (uss.getD i [])/\uss.getD i []≠[]:=λi hi=>by
  obtain⟨⟨b,o,its,m,e,hb,hc,hd,r⟩,ne⟩:=tu i hi;refine⟨⟨b,o,its,m,e,kp b o (λz=>?_) hb,hc,hd,r⟩,ne⟩;subst z;rw[ho]at hb;cases hb;have hc:nh "list"=nh "tuple":=hc;injection hc with hc;exact absurd hc (by decide)
 have na:(((s.heap.update a (gm λ_=>(#[]:Array Value))).push (seqObj "tuple" vs.toArray 0)).push (seqObj "list" #[] 0)).get? a=some (seqObj "list" #[] e1):=ay _ (ay _ ho1);rw[list_sort_plain];refine ah (listItems_at ho rfl ?_);refine ah (listUpdate_at ho rfl ?_ (by rw[ar,jw];omega) (ja _));refine ah (seqEpoch_at ho1 rfl ?_);refine ah (wpAny_newTuple ?_ (by show vs.length<=_;rw[jw];omega));refine ah (wpAny_newList ?_ (ja _));refine iz ?_;show wpAny (model prog w) A _ P E {s with heap:=((s.heap.update a (gm λ_=>(#[]:Array Value))).push (seqObj "tuple" vs.toArray 0)).push (seqObj "list" #[] 0)};dsimp only;have hn2:¬vs.toArray.size<2:=by rw[ar];omega
 rw[if_neg hn2,if_neg hn2];obtain⟨fs,kt,lf,qf⟩:=Rh (s:={s with heap:=((s.heap.update a (gm λ_=>(#[]:Array Value))).push (seqObj "tuple" vs.toArray 0)).push (seqObj "list" #[] 0)}) vs uss hl tu2;refine ah (kat_kind (T:=.type "int") kt (by omega) (λv hv=>?_) rfl ?_)
 .obtain⟨i,t,rfl⟩:=qf v hv
  exact .now
 have bt:(nh "int" !=nh "tuple")=true:=by decide
 rw[bt];refine ah (iy (kat_run (Q:=λst' s'=>∃p:Array Nat,p.size=vs.length/\arrOf st'=p.map (kas_item (vs.toArray.zip vs.toArray))/\failedOf st'=none/\p.toList=dW uss/\s'={s with heap:=((s.heap.update a (gm λ_=>(#[]:Array Value))).push (seqObj "tuple" vs.toArray 0)).push (seqObj "list" #[] 0)})
  (G:=λp s'=>p.toList=dW uss/\s'={s with heap:=((s.heap.update a (gm λ_=>(#[]:Array Value))).push (seqObj "tuple" vs.toArray 0)).push (seqObj "list" #[] 0)})
  rfl h2 h64 (λp' st' s' a1 a2 a3 a4=>⟨p',a1,a2,a3,a4⟩) ?_) ?_ λ_ _ e=>e)
 .rw[hl]
  refine Hk (lt:=λi j=>HT.lexLt (uss.getD i []) (uss.getD j [])) (n:=uss.length) (λi j C hi hj hC=>?_) _ _ ok ⟨rfl,rfl⟩;exact aaD (tu2 i (by omega)).1 (tu2 j (by omega)).1 hC
 rintro⟨⟨⟩,st'⟩ s' ⟨p,hp,har,hf,hpl,rfl⟩
 dsimp only;have hout:=kat_snds rfl har;have hsz:(lc (p.toList.map λi=>vs.getD i ck)).size=vs.length:=by rw[ar,ak,jj,hp]
 rw[hout];refine ah (seqEpoch_at na rfl ?_);refine ah (listUpdate_at na rfl ?_ (ja _) (ee (wj hsz) (by rw[jw];omega)));rw[hf];simp only[bne_self_eq_false,xc,if_false];refine bh ?_;rw[hpl];exact h
theorem Nw{l:Addr}{o:Obj}{T:String}{vs:AG}{uss:AE}{n:Nat}{Q:Value->aa->Prop}(hT:T="list"\/T="tuple")(ho:s.heap.get? l=some o)(hc:o.cls=.type T)(hd:o.data=.seq vs.toArray n)(hl:vs.length=uss.length)(h2:2<=vs.length)(h64:vs.length<64)(ok:iI uss.length (jc uss.length)=true)
  (tu:∀i,i<vs.length->rO s.heap (vs.getD i ck) (uss.getD i [])/\uss.getD i []≠[])
  (h:∀(h1 h':Heap)(c:Nat),(∀b o',s.heap.get? b=some o'->h1.get? b=some o')->(∀b o',h1.get? b=some o'->h'.get? b=some o')->h'.get? h1.objs.size=some (seqObj "list" (lc ((dW uss).map λi=>vs.getD i ck)) c)->Q (.ref h1.objs.size) {s with heap:=h'}):
  wpAny (model prog w) A (call (.builtin "sorted") [.ref l]) Q E s:=by
 refine PySem.Calls.call_function_entry kind_sorted plain_sorted entry_sorted (args_sorted1 _) ?_;unfold Builtin.«sorted»;refine ah (m:=checkCount "sorted" 1 1 _) (bh ?_);refine ah (wpAny_collect_seq l hT ho hc hd (λh1 k1=>?_) (by rw[ar,jw];omega));refine ah (wpAny_newList ?_ (by rw[jw];simp;omega));have hoL:(h1.push (seqObj "list" vs.toArray 0)).get? h1.objs.size=some (seqObj "list" vs.toArray 0):=dg _ rfl;show wpAny _ _ _ _ _ {s with heap:=h1.push (seqObj "list" vs.toArray 0)};refine ah (iz (oa slot_list_sort ⟨_,hoL,rfl⟩ entry_list_sort ?body (args_list_sort _)))
 case body=>
  refine Ev (s:={s with heap:=h1.push (seqObj "list" vs.toArray 0)}) hoL hl h2 h64 ok (λi hi=>?_) ⟨_,rfl,bh ⟨_,rfl,?_⟩⟩
  .obtain⟨⟨b,o,its,m,e,hb,hc,hd,r⟩,ne⟩:=tu i hi
   exact⟨⟨b,o,its,m,e,ay _ (k1 b o hb),hc,hd,r⟩,ne⟩
  .obtain⟨e1,ho1⟩:∃e1,((h1.push (seqObj "list" vs.toArray 0)).update h1.objs.size (gm λ_=>(#[]:Array Value))).get? h1.objs.size=some (seqObj "list" #[] e1):=⟨_,xk hoL λ_=>#[]⟩
   have ho2:=ay (seqObj "list" #[] 0) (ay (seqObj "tuple" vs.toArray 0) ho1);obtain⟨e2,ho3⟩:∃e2,(sortedHeap (h1.push (seqObj "list" vs.toArray 0)) h1.objs.size vs (lc ((dW uss).map λi=>vs.getD i ck))).get? h1.objs.size=some (seqObj "list" (lc ((dW uss).map λi=>vs.getD i ck)) e2):=⟨_,xk ho2 λ_=>lc ((dW uss).map λi=>vs.getD i ck)⟩;refine h h1 _ e2 k1 (λb o' hb1=>?_) ho3;have hne:b≠h1.objs.size:=df (bn hb1);exact(xl _ _ _ _ hne).trans (ay _ (ay _ ((xl _ _ _ _ hne).trans (ay _ hb1))))
end
def Xd(K:ae)(H:Hp)(ts:List V)(uss:AE):Prop:=ts.length=uss.length/\∀i t,ts[i]?=some t->∃a,t=.ref a/\dJ K H a ((uss.getD i []).map V.int)/\uss.getD i []≠[]
theorem Dx{X:Cx}:iK X (.builtin "sorted") (λxs H Q=>∃(a:Addr)(ts:List V)(uss:AE),xs=[.ref a]/\(cE X.K H a ts\/dJ X.K H a ts)/\Xd X.K H ts uss/\2<=ts.length/\ts.length<64/\iI uss.length (jc uss.length)=true/\(dW uss).length<=64/\
  ∀l,H l=none->Q (.ref l) (bK H l (.lst ((dW uss).map λi=>ts.getD i .non)))):=by
 intro AO s σ H xs us Q I r h;obtain⟨a,ts,uss,rfl,hq,⟨hl,ht⟩,h2,h64,ok,hpl,q⟩:=h;obtain⟨u,rfl,ru⟩:=kD r;cases ru;have go:∀(its:AG)(T:String)(o:Obj)(n:Nat),bI ts its->(T="list"\/T="tuple")->s.heap.get? a=some o->o.cls=.type T->o.data=.seq its.toArray n->ts.length<=sizeLine->
   wpAny (model X.prog X.w) X.A (call (.builtin "sorted") [.ref a]) (EP X AO σ Q) X.xe s:=λits T o n rv hT ho hc hd hz=>by
  have hlen:=rv.length;refine Nw (uss:=uss) hT ho hc hd (by omega) (by omega) (by omega) ok (λi hi=>?_) λh1 h' c k1 k2 e=>?_
  .have hi':i<ts.length:=by omega
   obtain⟨b,e1,sq,ne⟩:=ht i ts[i] (av hi');obtain⟨v,e2,rel⟩:=rv.get (av hi');rw[e1]at rel;cases rel;obtain⟨jts,rj,⟨o2,ho2,hc2,m,hd2⟩,_⟩:=I.tuple sq;refine⟨⟨b,o2,jts,m,?_,ho2,hc2,hd2,rj⟩,ne⟩;rw[ci,e2];rfl
  .have I1:aH X AO σ H {s with heap:=h1,toks:=s.toks}:=I.kept k1
   have hz2:((dW uss).map λi=>ts.getD i .non).length<=sizeLine:=by
    rw[ak,jw];omega
   have rel:∀ps:List Nat,bI (ps.map λi=>ts.getD i .non) (ps.map λi=>its.getD i ck):=λps=>by
    induction ps with
    |nil=>exact .nil
    |cons i ps ih=>
     refine .cons ?_ ih
     by_cases hi:i<ts.length
     .obtain⟨v,e2,rr⟩:=rv.get (av hi)
      have q1:ts.getD i .non=ts[i]:=by simp[ci,hi]
      have q2:its.getD i ck=v:=by simp[ci,e2]
      show cA (ts.getD i .non) (its.getD i ck);rw[q1,q2];exact rr
     .have q1:ts.getD i .non=.non:=by simp[ci,hi]
      have q2:its.getD i ck=ck:=by simp[ci,show its.length<=i by omega]
      show cA (ts.getD i .non) (its.getD i ck);rw[q1,q2];rfl
   refine⟨.ref h1.objs.size,_,I1.laid (t':=s.toks) (o:=.lst ((dW uss).map λi=>ts.getD i .non)) k2 (aq _) ?_,rfl,q _ (I1.hok.fresh (aq _))⟩;exact⟨hz2,_,c,rel _,e⟩
 rcases hq with hq |hq
 .obtain⟨its,rv,pl,hz⟩:=I.list hq
  obtain⟨o,ho,hc,n,hd⟩:=pl.isList;exact go its "list" o n rv (.inl rfl) ho hc hd hz
 .obtain⟨its,rv,⟨o,ho,hc,n,hd⟩,hz⟩:=I.tuple hq
  exact go its "tuple" o n rv (.inr rfl) ho hc hd hz
end L2
namespace L2.Pp
open PySem PySem.Spec PyProof.Rows Bn
open PySem.W (kas_sort)
section
variable{K:ae}
def nW:AK->Option AE
 |[]=>some []
 |.tup us::r=>match iB us,nW r with
  |some is,some uss=>some (is::uss)
  |_,_=>none
 |_::_=>none
theorem Rl:∀{xs:AK}{uss:AE},nW xs=some uss->xs.length=uss.length
 |[],uss,e=>by cases e;rfl
 |.tup us::r,uss,e=>by
  unfold nW at e;split at e
  .rename_i is uss' h1 h2
   cases e;rw[cu,cu,Rl h2]
  .cases e
 |.non::_,_,e=>by cases e
 |.bl _::_,_,e=>by cases e
 |.int _::_,_,e=>by cases e
 |.str _::_,_,e=>by cases e
 |.lst _::_,_,e=>by cases e
theorem Qm{c:Addr->Prop}{H:Hp}:∀{xs:AK}{uss:AE}{vs:List V},nW xs=some uss->aU K c H xs vs->∀i t,vs[i]?=some t->∃a,t=.ref a/\dJ K H a ((uss.getD i []).map V.int)
 |[],uss,vs,e,r,i,t,h=>by
  unfold aU at r;subst r;simp at h
 |.tup us::r,uss,vs,e,rr,i,t,h=>by
  unfold nW at e;split at e
  .rename_i is uss' h1 h2
   cases e;unfold aU at rr;obtain⟨v,w,rfl,r1,r2⟩:=rr;cases i with
   |zero=>
    cases h;unfold aW at r1;obtain⟨a,ws,rfl,sq,_,r3⟩:=r1;rw[sX h1 r3]at sq;exact⟨a,rfl,sq⟩
   |succ i=>
    have:=Qm h2 r2 i t (by simpa using h);simpa using this
  .cases e
 |.non::_,_,_,e,_,_,_,_=>by cases e
 |.bl _::_,_,_,e,_,_,_,_=>by cases e
 |.int _::_,_,_,e,_,_,_,_=>by cases e
 |.str _::_,_,_,e,_,_,_,_=>by cases e
 |.lst _::_,_,_,e,_,_,_,_=>by cases e
def Ae(uss:AE):Prop:=2<=uss.length/\uss.length<64/\iI uss.length (jc uss.length)=true/\(dW uss).length<=64/\∀us∈uss,us≠[]
def Ge(xs:AK)(uss:AE):AK:=(dW uss).map λi=>xs.getD i .non
open Classical in
noncomputable def rQ(xs:AK):AL:=match nW xs with
 |some uss=>if Ae uss then some (.lst (Ge xs uss))else none
 |none=>none
noncomputable def tJ:AK->AL
 |[.lst xs]=>rQ xs
 |[.tup xs]=>rQ xs
 |_=>none
theorem Wi{c:Addr->Prop}{H:Hp}{xs:AK}{vs:List V}(r:aU K c H xs vs):∀ps:List Nat,aU K c H (ps.map λi=>xs.getD i .non) (ps.map λi=>vs.getD i .non)
 |[]=>.nil
 |i::ps=>by
  refine .cons ?_ (Wi r ps)
  by_cases hi:i<xs.length
  .obtain⟨v,e1,e2⟩:=r.get (av hi)
   have q1:xs.getD i .non=xs[i]:=by simp[ci,hi]
   have q2:vs.getD i .non=v:=by simp[ci,e1]
   show aW K c H (xs.getD i .non) (vs.getD i .non);rw[q1,q2];exact e2
  .have hl:=r.length
   have q1:xs.getD i .non=.non:=by simp[ci,hi]
   have q2:vs.getD i .non=.non:=by simp[ci,show vs.length<=i by omega]
   show aW K c H (xs.getD i .non) (vs.getD i .non);rw[q1,q2];unfold aW;rfl
theorem aaQ:jQ K (λxs H Q=>∃(a:Addr)(ts:List V)(uss:AE),xs=[.ref a]/\(cE K H a ts\/dJ K H a ts)/\Xd K H ts uss/\2<=ts.length/\ts.length<64/\iI uss.length (jc uss.length)=true/\(dW uss).length<=64/\
  ∀l,H l=none->Q (.ref l) (bK H l (.lst ((dW uss).map λi=>ts.getD i .non)))) tJ:=λ{p S H as c xs Q} s ra e k=>by
 have key:∀(zs:AK)(a:Addr)(vs:List V),rQ zs=some c->(cE K H a vs\/dJ K H a vs)->aU K p.c H zs vs->∃(a':Addr)(ts:List V)(uss:AE),[V.ref a]=[.ref a']/\(cE K H a' ts\/dJ K H a' ts)/\Xd K H ts uss/\2<=ts.length/\ts.length<64/\iI uss.length (jc uss.length)=true/\(dW uss).length<=64/\
   ∀l,H l=none->Q (.ref l) (bK H l (.lst ((dW uss).map λi=>ts.getD i .non))):=λzs a vs e sq r=>by
  unfold rQ at e;split at e
  .rename_i uss hu
   split at e
   .rename_i hc
    cases e;obtain⟨c1,c2,c3,c4,c5⟩:=hc;have l1:=Rl hu;have l2:=r.length;refine⟨a,vs,uss,rfl,sq,⟨by omega,λi t h=>?_⟩,by omega,by omega,c3,c4,λl hl=>?_⟩
    .obtain⟨b,e1,e2⟩:=Qm hu r i t h
     have hi:i<uss.length:=by
      have:=(da.mp h).1;omega
     refine⟨b,e1,e2,?_⟩;rw[ci,av hi];exact c5 _ (di hi)
    .refine k _ _ (gX hl) (pJ s (Wi r _) ?_ hl)
     rw[ak,jF];omega
   .cases e
  .cases e
 unfold tJ at e;split at e
 .rename_i zs
  cases ra with
  |cons h t=>
   cases t;obtain⟨a,vs,rfl,l,z,r⟩:=h.lst;exact key zs a vs e (.inl l) r
 .rename_i zs
  cases ra with
  |cons h t=>
   cases t;obtain⟨a,vs,rfl,l,z,r⟩:=h.tup;exact key zs a vs e (.inr l) r
 .cases e
end
end L2.Pp
namespace L2
section
open PySem.W (KasT kas_sort)
theorem Gh{α:Type}{lt lt':Nat->Nat->Bool}{n:Nat}(h:∀i j,i<n->j<n->lt i j=lt' i j):∀t:KasT α,iI n t=true->mV lt t=mV lt' t
 |.ret a,_=>rfl
 |.ask i j k,ok=>by
  unfold iI at ok;simp only[fh,decide_eq_true_eq]at ok;obtain⟨⟨⟨hi,hj⟩,h1⟩,h2⟩:=ok;show mV lt (k (lt i j))=mV lt' (k (lt' i j));rw[<-h i j hi hj];refine Gh h (k (lt i j)) ?_;cases lt i j
  .exact h2
  .exact h1
theorem lG:∀u:AB,HT.lexLt u u=false
 |[]=>rfl
 |x::u=>by rw[HT.lexLt_cons,if_pos rfl,lG u]
theorem Gn:∀u v:AB,u=v\/HT.lexLt u v=true\/HT.lexLt v u=true
 |[],[]=>.inl rfl
 |[],_::_=>.inr (.inl rfl)
 |_::_,[]=>.inr (.inr rfl)
 |x::u,y::v=>by
  rw[HT.lexLt_cons,HT.lexLt_cons]
  by_cases h:x=y
  .subst h
   rw[if_pos rfl,if_pos rfl];rcases Gn u v with h |h |h
   .exact .inl (by rw[h])
   .exact .inr (.inl h)
   .exact .inr (.inr h)
  .rw[if_neg h,if_neg (λz=>h z.symm)]
   by_cases q:x<y
   .exact .inr (.inl (by simpa using q))
   .exact .inr (.inr (by simp;omega))
theorem vQ:∀u v w:AB,HT.lexLt u v=true->HT.lexLt v w=true->HT.lexLt u w=true
 |[],[],_,h,_=>by cases h
 |[],_::_,[],_,h=>by cases h
 |[],_::_,_::_,_,_=>rfl
 |_::_,[],_,h,_=>by cases h
 |_::_,_::_,[],_,h=>by cases h
 |x::u,y::v,z::w,h1,h2=>by
  rw[HT.lexLt_cons]at h1 h2⊢
  by_cases e1:x=y
  .subst e1
   rw[if_pos rfl]at h1
   by_cases e2:x=z
   .rw[if_pos e2]at h2⊢
    exact vQ u v w h1 h2
   .rw[if_neg e2]at h2⊢
    exact h2
  .rw[if_neg e1]at h1
   have h1:x<y:=by simpa using h1
   by_cases e2:y=z
   .subst e2
    rw[if_neg e1];simpa using h1
   .rw[if_neg e2]at h2
    have h2:y<z:=by simpa using h2
    rw[if_neg (by omega)];simp;omega
theorem K9{u v:AB}(h:HT.lexLt u v=true):HT.lexLt v u=false:=by
 cases q:HT.lexLt v u with
 |false=>rfl
 |true=>
  have:=vQ u v u h q;rw[lG]at this;cases this
def r3(a b c d e f:Bool):Bool:=(!(a&&b)||c)&&(!(d&&e)||f)
def zD(b:Nat->Nat->Bool)(n:Nat):Bool:=(aw n).all λi=>!(b i i)&&(aw n).all λj=>!(b i j&&b j i)&&(aw n).all λk=>(!(b i j&&b j k)||b i k)&&(b i j||b j k|| !(b i k))
def xP(b:Nat->Nat->Bool)(n:Nat)(ps:List (List Nat)):Bool:=let p:=(mV b (jc n)).toList
 ps.contains p&&(aw n).all λi=>(aw n).all λj=>!(decide (i<j))|| !(b (p.getD j 0) (p.getD i 0))
def Xc:List (List Nat):=[[0,1,2],[0,2,1],[1,0,2],[1,2,0],[2,0,1],[2,1,0]]
def Yc:List (List Nat):=[[0,1,2,3],[0,1,3,2],[0,2,1,3],[0,2,3,1],[0,3,1,2],[0,3,2,1],[1,0,2,3],[1,0,3,2],[1,2,0,3],[1,2,3,0],[1,3,0,2],[1,3,2,0],
 [2,0,1,3],[2,0,3,1],[2,1,0,3],[2,1,3,0],[2,3,0,1],[2,3,1,0],[3,0,1,2],[3,0,2,1],[3,1,0,2],[3,1,2,0],[3,2,0,1],[3,2,1,0]]
def Nf(b01 b02 b10 b12 b20 b21:Bool)(i j:Nat):Bool:=match i,j with
 |0,1=>b01 |0,2=>b02 |1,0=>b10 |1,2=>b12 |2,0=>b20 |2,1=>b21 |_,_=>false
def oP(b01 b02 b03 b10 b12 b13 b20 b21 b23 b30 b31 b32:Bool)(i j:Nat):Bool:=match i,j with
 |0,1=>b01 |0,2=>b02 |0,3=>b03 |1,0=>b10 |1,2=>b12 |1,3=>b13 |2,0=>b20 |2,1=>b21 |2,3=>b23 |3,0=>b30 |3,1=>b31 |3,2=>b32 |_,_=>false
theorem Hs:iI 3 (jc 3)=true:=by decide+kernel
theorem Rr:iI 4 (jc 4)=true:=by decide+kernel
theorem adN:∀b01 b02 b10 b12 b20 b21:Bool,zD (Nf b01 b02 b10 b12 b20 b21) 3=true->xP (Nf b01 b02 b10 b12 b20 b21) 3 Xc=true:=by decide+kernel
theorem adv:∀b01 b02 b03 b10 b12 b13 b20 b21 b23 b30 b31 b32:Bool,zD (oP b01 b02 b03 b10 b12 b13 b20 b21 b23 b30 b31 b32) 4=true->xP (oP b01 b02 b03 b10 b12 b13 b20 b21 b23 b30 b31 b32) 4 Yc=true:=by decide+kernel
theorem Iq{b:Nat->Nat->Bool}{n:Nat}{uss:AE}(h:∀i j,i<n->j<n->b i j=HT.lexLt (uss.getD i []) (uss.getD j [])):zD b n=true:=by
 unfold zD;simp only[jb,ni,fh,g7,tw,Bool.and_eq_false_imp];intro i hi;refine⟨by rw[h i i hi hi,lG],λj hj=>⟨λq=>?_,λk hk=>⟨?_,?_⟩⟩⟩
 .rw[h i j hi hj]at q
  rw[h j i hj hi,K9 q]
 .rw[h i j hi hj,h j k hj hk,h i k hi hk]
  cases q1:HT.lexLt (uss.getD i []) (uss.getD j [])with
  |false=>exact .inl λz=>by cases z
  |true=>
   cases q2:HT.lexLt (uss.getD j []) (uss.getD k [])with
   |false=>exact .inl λ_=>rfl
   |true=>exact .inr (vQ _ _ _ q1 q2)
 .rw[h i j hi hj,h j k hj hk,h i k hi hk]
  cases q1:HT.lexLt (uss.getD i []) (uss.getD j [])with
  |true=>exact .inl (.inl rfl)
  |false=>
   cases q2:HT.lexLt (uss.getD j []) (uss.getD k [])with
   |true=>exact .inl (.inr rfl)
   |false=>
    refine .inr ?_;cases q3:HT.lexLt (uss.getD i []) (uss.getD k [])with
    |false=>rfl
    |true=>
     rcases Gn (uss.getD i []) (uss.getD j [])with e |e |e
     .rw[e]at q3;rw[q2]at q3;cases q3
     .rw[q1]at e;cases e
     .have:=vQ _ _ _ e q3
      rw[q2]at this;cases this
end
section
open PySem.W (KasT kas_sort)
def fM(uss:AE):AE:=(dW uss).map λi=>uss.getD i []
def uY(u v:AB):Prop:=HT.lexLt v u=false
theorem Oj{uss:AE}{n:Nat}{ps:List (List Nat)}(hl:uss.length=n)(ok:iI n (jc n)=true){b:Nat->Nat->Bool}(hb:∀i j,i<n->j<n->b i j=HT.lexLt (uss.getD i []) (uss.getD j []))(good:xP b n ps=true)(hp:∀p∈ps,p.Perm (aw n)):
  dW uss∈ps/\(dW uss).Perm (aw n)/\(fM uss).Pairwise uY:=by
 have e:dW uss=(mV b (jc n)).toList:=by
  unfold dW;rw[hl];exact congrArg vb (Gh (n:=n) (λi j hi hj=>(hb i j hi hj).symm) _ ok)
 unfold xP at good;simp only[fh,jb,ni]at good;rw[<-e]at good;obtain⟨g1,g2⟩:=good;have m:dW uss∈ps:=by simpa using g1
 have pm:=hp _ m;refine⟨m,pm,?_⟩;have ln:(dW uss).length=n:=by rw[pm.length_eq,gh]
 unfold fM;rw[List.pairwise_iff_getElem];intro i j hi hj hij;rw[ak]at hi hj;have q:=g2 i (by omega) j (by omega);have pi:(dW uss).getD i 0=(dW uss)[i]:=by simp[ci,hi]
 have pj:(dW uss).getD j 0=(dW uss)[j]:=by simp[ci,hj]
 rw[pi,pj]at q;have li:(dW uss)[i]<n:=by
  have:=pm.subset (di hi);simpa using this
 have lj:(dW uss)[j]<n:=by
  have:=pm.subset (di hj);simpa using this
 rw[hb _ _ lj li]at q;simp only[xm];unfold uY;have d:decide (i<j)=true:=by simpa using hij
 rw[d]at q;simpa using q
theorem M7:∀p∈Xc,p.Perm (aw 3):=by decide
theorem B0:∀p∈Yc,p.Perm (aw 4):=by decide
theorem Xm{uss:AE}(h:uss.length=3):dW uss∈Xc/\(dW uss).Perm (aw 3)/\(fM uss).Pairwise uY:=by
 match uss,h with
 |[u0,u1,u2],_=>
  have hb:∀i j,i<3->j<3->Nf (HT.lexLt u0 u1) (HT.lexLt u0 u2) (HT.lexLt u1 u0) (HT.lexLt u1 u2) (HT.lexLt u2 u0) (HT.lexLt u2 u1) i j=HT.lexLt (([u0,u1,u2]:AE).getD i []) (([u0,u1,u2]:AE).getD j []):=λi j hi hj=>by
   match i,j,hi,hj with
   |0,0,_,_=>exact(lG u0).symm
   |0,1,_,_=>rfl
   |0,2,_,_=>rfl
   |1,0,_,_=>rfl
   |1,1,_,_=>exact(lG u1).symm
   |1,2,_,_=>rfl
   |2,0,_,_=>rfl
   |2,1,_,_=>rfl
   |2,2,_,_=>exact(lG u2).symm
  exact Oj rfl Hs hb (adN _ _ _ _ _ _ (Iq hb)) M7
theorem Jn{uss:AE}(h:uss.length=4):dW uss∈Yc/\(dW uss).Perm (aw 4)/\(fM uss).Pairwise uY:=by
 match uss,h with
 |[u0,u1,u2,u3],_=>
  have hb:∀i j,i<4->j<4->oP (HT.lexLt u0 u1) (HT.lexLt u0 u2) (HT.lexLt u0 u3) (HT.lexLt u1 u0) (HT.lexLt u1 u2) (HT.lexLt u1 u3) (HT.lexLt u2 u0) (HT.lexLt u2 u1) (HT.lexLt u2 u3) (HT.lexLt u3 u0) (HT.lexLt u3 u1) (HT.lexLt u3 u2) i j=HT.lexLt (([u0,u1,u2,u3]:AE).getD i []) (([u0,u1,u2,u3]:AE).getD j []):=λi j hi hj=>by
   match i,j,hi,hj with
   |0,0,_,_=>exact(lG u0).symm
   |0,1,_,_=>rfl
   |0,2,_,_=>rfl
   |0,3,_,_=>rfl
   |1,0,_,_=>rfl
   |1,1,_,_=>exact(lG u1).symm
   |1,2,_,_=>rfl
   |1,3,_,_=>rfl
   |2,0,_,_=>rfl
   |2,1,_,_=>rfl
   |2,2,_,_=>exact(lG u2).symm
   |2,3,_,_=>rfl
   |3,0,_,_=>rfl
   |3,1,_,_=>rfl
   |3,2,_,_=>rfl
   |3,3,_,_=>exact(lG u3).symm
  exact Oj rfl Rr hb (adv _ _ _ _ _ _ _ _ _ _ _ _ (Iq hb)) B0
theorem vL{uss:AE}(h:uss.length=3\/uss.length=4):(fM uss).Perm uss/\(fM uss).Pairwise uY:=by
 have key:∀n,uss.length=n->(dW uss).Perm (aw n)->(fM uss).Perm uss:=λn hn hp=>by
  have e:(aw n).map (λi=>uss.getD i [])=uss:=by
   refine tx (by simp[hn]) λi h1 h2=>?_;have hi:i<uss.length:=h2;simp[ci,hi]
  have:=hp.map (λi=>uss.getD i []);rw[e]at this;exact this
 rcases h with h |h
 .obtain⟨_,hp,hs⟩:=Xm h
  exact⟨key 3 h hp,hs⟩
 .obtain⟨_,hp,hs⟩:=Jn h
  exact⟨key 4 h hp,hs⟩
end
open PySem PySem.Spec PyProof.Rows Bn
theorem O8{X:Cx}{sc1 sc:Scope}{own1 own:List Str}{cap1 cap:List (Nat×Str)}{C:Addr}{AQ:aa}{AR:Hp}{ex:List Addr}(so:Scope)(hso:X.env.scope=so)(hk:so.kind=.function)(kind:sc.kind=.function)(names:∀y∈sc.names,y.2=.local->sc.names.lookup y.1=some .local)
  (nocell:∀y∈sc.names,y.2≠.cell)(free:∀y∈sc.names,y.2=.free->sc1.names.lookup y.1=some .free/\so.names.lookup y.1=some .cell)(at':∀p∈cap,(dH own1 cap1)[p.1]?=some p.2)(hcap:∀p∈cap,sc.names.lookup p.2=some .free):
  iM (gL X sc1 (dH own1 cap1) C AQ AR ex) sc own cap:=
 ⟨kind,names,nocell,λy hy e=>by
  obtain⟨f1,f2⟩:=free y hy e;exact sQ (env:=X.env) (by rw[hso];exact hk) f1 (by show X.env.scope.names.lookup y.1=_;rw[hso];exact f2),at',hcap⟩
section
variable{M:kq}{A:ao}{E:Value->aa->Prop}{s:aa}
theorem Lv{scope:Scope}{globals:Addr}{closure:List (Str×Addr)}{qual:Str}{outer:bi}{Q:bi->aa->Prop}
  (hQ:Q (newEnv scope s.heap.objs.size globals (cellsFrom (s.heap.objs.size+1) scope.names closure) qual none .none (some outer) builtinsNs) {s with heap:=pushCells (s.heap.push {cls:=.type "dict",data:=.dict #[]}) scope.names}):
  wpAny M A (newFunctionEnv scope globals closure [] qual none .none (some outer)) Q E s:=by
 simp only[newFunctionEnv,Option.isSome_some,if_true];refine ah (wpAny_alloc ?_);refine ah (wpAny_layCells _ (λname kind cells=>by cases hkc:kind==fj<;>simp[hkc]) _ _ _ _ ?_);rw[show({s with heap:=s.heap.push {cls:=.type "dict",data:=.dict #[]}}:aa).heap.objs.size=s.heap.objs.size+1 from jg ..];refine ah ?_;rw[wt];exact bh (bh hQ)
end
theorem Ad:∀(names:List (Str×fk))(n:Nat)(acc:List (Str×Addr)),(∀x y c,acc.lookup x=some c->acc.lookup y=some c->x=y)->(∀x c,acc.lookup x=some c->c<n)->
  ∀x y c,(cellsFrom n names acc).lookup x=some c->(cellsFrom n names acc).lookup y=some c->x=y
 |[],n,acc,hi,_,x,y,c,e1,e2=>hi x y c e1 e2
 |(name,kind)::r,n,acc,hi,hb,x,y,c,e1,e2=>by
  unfold cellsFrom at e1 e2
  by_cases k:(kind==fj)=true
  .rw[if_pos k]at e1 e2
   refine Ad r (n+1) _ (λx y c e1 e2=>?_) (λx c e=>?_) x y c e1 e2
   .rw[dm]at e1 e2
    cases wx:x==name with
    |true=>
     cases wy:y==name with
     |true=>rw[beq_iff_eq.mp wx,beq_iff_eq.mp wy]
     |false=>
      rw[wx]at e1;rw[wy]at e2;cases e1;exact absurd (hb y _ e2) (iu _)
    |false=>
     cases wy:y==name with
     |true=>
      rw[wx]at e1;rw[wy]at e2;cases e2;exact absurd (hb x _ e1) (iu _)
     |false=>
      rw[wx]at e1;rw[wy]at e2;exact hi x y c e1 e2
   .rw[dm]at e
    cases wx:x==name with
    |true=>
     rw[wx]at e;cases e;exact wz _
    |false=>
     rw[wx]at e;exact xh (hb x c e)
  .rw[if_neg k]at e1 e2
   exact Ad r n acc hi hb x y c e1 e2
theorem tZ{n0:Nat}:∀(names:List (Str×fk))(n:Nat)(acc:List (Str×Addr))(x:Str),((∃c,acc.lookup x=some c/\n0<=c)\/(x,fj)∈names)->n0<=n->∃c,(cellsFrom n names acc).lookup x=some c/\n0<=c
 |[],n,acc,x,h,hn=>by
  rcases h with h |h
  .exact h
  .cases h
 |(name,kind)::r,n,acc,x,h,hn=>by
  unfold cellsFrom
  by_cases k:(kind==fj)=true
  .rw[if_pos k]
   refine tZ r (n+1) _ x ?_ (l5 hn);cases w:x==name with
   |true=>exact .inl ⟨n,by rw[dm,w],hn⟩
   |false=>
    rcases h with⟨c,h,z⟩|h
    .exact .inl ⟨c,by rw[dm,w];exact h,z⟩
    .rcases bo.mp h with z |z
     .cases z
      simp at w
     .exact .inr z
  .rw[if_neg k]
   refine tZ r n acc x ?_ hn;rcases h with h |h
   .exact .inl h
   .rcases bo.mp h with z |z
    .cases z
     simp at k
    .exact .inr z
theorem Ic{n0:Nat}:∀(names:List (Str×fk))(n:Nat)(acc:List (Str×Addr))(x:Str)(c:Addr),n0<=n->(cellsFrom n names acc).lookup x=some c->n0<=c\/acc.lookup x=some c
 |[],n,acc,x,c,hn,e=>.inr e
 |(name,kind)::r,n,acc,x,c,hn,e=>by
  unfold cellsFrom at e
  by_cases k:(kind==fj)=true
  .rw[if_pos k]at e
   rcases Ic r (n+1) _ x c (l5 hn) e with z |z
   .exact .inl z
   .rw[dm]at z
    cases w:x==name with
    |true=>
     rw[w]at z;cases z;exact .inl hn
    |false=>
     rw[w]at z;exact .inr z
  .rw[if_neg k]at e
   exact Ic r n acc x c hn e
theorem wZ:∀(names:List (Str×fk))(n:Nat)(acc:List (Str×Addr))(x:Str),(x,fj)∉names->(cellsFrom n names acc).lookup x=acc.lookup x
 |[],n,acc,x,h=>rfl
 |(name,kind)::r,n,acc,x,h=>by
  unfold cellsFrom;have hr:(x,fj)∉r:=λz=>h (ax _ z)
  by_cases k:(kind==fj)=true
  .rw[if_pos k,wZ r _ _ x hr,dm]
   cases w:x==name with
   |true=>
    refine absurd ?_ h;have e1:x=name:=by simpa using w
    have e2:kind=.cell:=by simpa using k
    rw[e1,e2];exact ce
   |false=>rfl
  .rw[if_neg k,wZ r _ _ x hr]
theorem Gc:∀(names:List (Str×fk))(h:Heap)(acc:List (Str×Addr)),(∀x c,acc.lookup x=some c->∃v,h.IsCell c v)->∀x c,(cellsFrom h.objs.size names acc).lookup x=some c->∃v,(pushCells h names).IsCell c v
 |[],h,acc,hc,x,c,e=>hc x c e
 |(name,kind)::r,h,acc,hc,x,c,e=>by
  unfold cellsFrom at e;unfold pushCells
  by_cases k:(kind==fj)=true
  .rw[if_pos k]at e⊢
   rw[<-jg h {cls:=.type "cell",data:=.cell none}]at e;refine Gc r _ _ (λy c e=>?_) x c e;rw[dm]at e;cases w:y==name with
   |true=>
    rw[w]at e;cases e;exact⟨none,_,dg _ rfl,rfl⟩
   |false=>
    rw[w]at e;obtain⟨v,z⟩:=hc y c e;exact⟨v,z.keeps λb o e=>ay _ e⟩
  .rw[if_neg k]at e⊢
   exact Gc r h acc hc x c e
theorem Qh{env:bi}:∀{names:List (Str×fk)}{x:Str},
  (let l:=(names.map λ(n,k)=>if(k==ft&&env.scope.kind== .function&&env.kindOf n==some .cell)then(n,fj)else(n,k)).lookup x;l=some .cell\/l=some .free)->(x,ft)∈names\/(x,fj)∈names
 |[],x,h=>by
  rcases h with h |h<;>cases h
 |(n,k)::r,x,h=>by
  dsimp only at h;rw[az]at h;have ih:=@Qh env r x
  by_cases c:(k==ft&&env.scope.kind== .function&&env.kindOf n==some .cell)=true
  .have kf:k=.free:=by
    simp only[fh,beq_iff_eq]at c;exact c.1.1
   dsimp only at h;rw[if_pos c,dm]at h;cases w:x==n with
   |true=>
    have hx:x=n:=by simpa using w
    rw[hx,<-kf];exact .inl ce
   |false=>
    rw[w]at h;exact(ih h).imp (ax _) (ax _)
  .dsimp only at h
   rw[if_neg c,dm]at h;cases w:x==n with
   |true=>
    rw[w]at h;have hx:x=n:=by simpa using w
    rcases h with h |h
    .have kf:k=.cell:=cc h
     rw[hx,<-kf];exact .inr ce
    .have kf:k=.free:=cc h
     rw[hx,<-kf];exact .inl ce
   |false=>
    rw[w]at h;exact(ih h).imp (ax _) (ax _)
theorem Xh{env:bi}:∀{names:List (Str×fk)}{x:Str},names.lookup x=some .cell->
  (names.map λ(n,k)=>if(k==ft&&env.scope.kind== .function&&env.kindOf n==some .cell)then(n,fj)else(n,k)).lookup x=some .cell
 |[],x,h=>by cases h
 |(n,k)::r,x,h=>by
  rw[az];dsimp only;rw[dm]at h;cases w:x==n with
  |true=>
   rw[w]at h;have kf:k=.cell:=cc h;subst kf;rw[if_neg (by rw[show(fj==ft)=false from rfl];simp),dm,w]
  |false=>
   rw[w]at h;have ih:=@Xh env r x h
   by_cases c:(k==ft&&env.scope.kind== .function&&env.kindOf n==some .cell)=true
   .rw[if_pos c,dm,w]
    exact ih
   .rw[if_neg c,dm,w]
    exact ih
def iH(X:Cx)(sc:Scope)(N:List Str)(C:Addr)(AQ:aa)(AR:Hp)(ex:List Addr):Cx where
 prog:=X.prog
 w:=X.w
 K:=X.K
 mg:=X.mg
 base:=X.base
 A:=X.A
 N:=N
 AQ:=AQ
 AR:=AR
 env:=compEnvC sc (cellsFrom (C+1) sc.names (gB X.env sc.names [])) C X.env
 outer:=X.stack
 stack:=X.stack
 ex:=ex
 fn:=λx=>sc.names.lookup x==some .cell
 calm:=X.calm
 pn:=[]
 xe:=λ_ _=>False
structure nU(X:Cx)(sc:Scope)(own:List Str)(cap:List (Nat×Str)):Prop where
 kind:sc.kind=.function
 names:∀y∈sc.names,y.2=.local->sc.names.lookup y.1=some .local
 cells:∀y∈sc.names,y.2=.cell->sc.names.lookup y.1=some .cell
 free:∀y∈sc.names,y.2=.free->X.env.kindOf y.1=some .cell
 at':∀p∈cap,X.N[p.1]?=some p.2
 cap:∀p∈cap,sc.names.lookup p.2=some .free
section
variable{X:Cx}{sc:Scope}{own:List Str}{cap:List (Nat×Str)}{AO:List (Addr×Obj)}{σ:St}{H:Hp}{s:aa}{elt target iter:ag}{pos pos':ai}{wi:TI}{g:TG}{te:TE}{Q:VK}
theorem nU.has(k:nU X sc own cap)(ok:X.Ok):∀p∈sc.names,p.2=.free->∃c,X.env.cells.lookup p.1=some c:=λp hp e=>ok.has p.1 (.inl (k.free p hp e))
theorem aH.cmpC(k:nU X sc own cap){h4:Heap}{fp:List Addr}{t':Nat}(I:aH X AO σ H s)(hf:∀b∈fp,fY X AO H b)(hlt:∀b∈fp,b<s.heap.objs.size)
  (e4:h4=pushCells (s.heap.push {cls:=.type "dict",data:=.dict #[]}) sc.names):aH (iH X sc (dH own cap) s.heap.objs.size s H fp) [] (kC own cap σ) H {s with heap:=h4,toks:=t'}:=by
 have kp:∀b o,s.heap.get? b=some o->h4.get? b=some o:=λb o e=>by
  rw[e4];exact xn _ _ b o (ay _ e)
 have hns:h4.Ns s.heap.objs.size (λ_=>none):=by
  rw[e4];exact(Heap.Ns.new ..).keeps λb o e=>xn _ _ b o e
 have hcl:∀y c,(gB X.env sc.names []).lookup y=some c->X.env.cells.lookup y=some c:=λy c e=>by
  rcases vJ sc.names [] (k.has I.ok) y c e with z |z
  .cases z
  .exact z
 have clt:∀y c,X.env.cells.lookup y=some c->c<s.heap.objs.size:=λy c e=>by
  obtain⟨v,o,ho,_⟩:=I.cell y c e;exact bn ho
 have hfr:∀y c,(cellsFrom (s.heap.objs.size+1) sc.names (gB X.env sc.names [])).lookup y=some c->s.heap.objs.size<c\/X.env.cells.lookup y=some c:=λy c e=>
  (Ic (n0:=s.heap.objs.size+1) sc.names _ _ y c (aq _) e).imp (λz=>z) (hcl y c)
 have nst:∀b∈fp,b∉dS X.stack:=λb hb z=>by
  rcases bo.mp (I.stkSub b z)with e |e
  .exact(hf b hb).2.1 e
  .exact(hf b hb).2.2.1 e
 refine⟨⟨I.ok.mod,k.kind,I.ok.glob,I.ok.blt,aq _,λx y c h1 h2=>?_,λx hx=>?_,λx c hfn e=>?_,I.ok.hd,I.ok.frames,.inl rfl,λb hb=>⟨df (hlt b hb),λx c e=>?_⟩,
  I.bs,ee I.ok.bsz I.sz,λb o e hb=>?_,nst,I.stack,I.stkFree⟩,rfl,I.bare,Un.kept kp,⟨_,hns,λi x v h1 h2 h3=>?_⟩,λx c e=>?_,I.hok.fresh (aq _),λx c e=>?_,λp hp=>absurd (show p∈([]:List (Addr×Obj)) from hp) (by simp),I.hok.kept kp,?_⟩
 .exact Ad sc.names _ _ (λx y c h1 h2=>I.ok.inj x y c (hcl x c h1) (hcl y c h2)) (λx c e=>xh (clt x c (hcl x c e))) x y c h1 h2
 .rcases Qh hx with z |z
  .by_cases m:(x,fj)∈sc.names
   .obtain⟨c,e,_⟩:=tZ (n0:=0) sc.names (s.heap.objs.size+1) (gB X.env sc.names []) x (.inr m) (ja _)
    exact⟨c,e⟩
   .obtain⟨c,e⟩:=qX (env:=X.env) sc.names [] x (.inr z)
    exact⟨c,(wZ sc.names _ _ x m).trans e⟩
  .obtain⟨c,e,_⟩:=tZ (n0:=0) sc.names (s.heap.objs.size+1) (gB X.env sc.names []) x (.inr z) (ja _)
   exact⟨c,e⟩
 .have hm:(x,fj)∈sc.names:=jn (by simpa[iH]using hfn)
  obtain⟨c',e',hc'⟩:=tZ (n0:=s.heap.objs.size) sc.names (s.heap.objs.size+1) (gB X.env sc.names []) x (.inr hm) (qi _);have:=e'.symm.trans e;cases this;exact hc'
 .rcases hfr x c e with z |z
  .exact nu (Nat.lt_trans (hlt b hb) z)
  .exact(hf b hb).2.2.2.2.1 x c z
 .rcases(hf b hb).2.2.2.1 with z |z
  .exact I.ok.noex b o e z
  .exact absurd (de (bn (I.ok.bs b o e).1) z) (iu _)
 .have hN:(dH own cap)[i]?=some x:=h1
  unfold dH at hN;unfold kC at h2
  by_cases hi:i<own.length
  .rw[fu (by simpa using hi),dk]at h2
   cases e:own[i]? with
   |none=>rw[e]at h2;cases h2
   |some z=>rw[e]at h2;cases h2
  .rw[ib (by simpa using hi),dk,ak]at h2
   rw[ib (by omega),dk]at hN;cases e:cap[i-own.length]? with
   |none=>rw[e]at h2;cases h2
   |some p=>
    rw[e]at h2 hN;have hp:p∈cap:=ic e;have hx:p.2=x:=cc hN;have hv:(σ[p.1]?).join=some v:=cc h2;have hv':σ[p.1]?=some (some v):=by
     cases e2:σ[p.1]? with
     |none=>rw[e2]at hv;cases hv
     |some z=>rw[e2]at hv;exact congrArg some hv
    have fr:=k.cap p hp;have nc:(p.2,fj)∉sc.names:=λz=>by
     have:=k.cells _ z rfl;rw[fr]at this;cases this
    have kc:X.env.kindOf p.2=some .cell:=k.free (p.2,.free) (jn fr) rfl;obtain⟨m0,_,hl⟩:=I.loc;obtain⟨u,ru,lk⟩:=hl p.1 p.2 v (k.at' p hp) hv' (.inr (.inl kc));refine⟨u,ru,?_⟩;rcases lk with⟨k1,_⟩|⟨_,c,ec,cell⟩
    .rw[kc]at k1
     cases k1
    .rw[<-hx]
     obtain⟨c',ec'⟩:=qX (env:=X.env) sc.names [] p.2 (.inr (jn fr));have:=(hcl _ _ ec').symm.trans ec;cases this;obtain⟨o,ho,hd⟩:=cell;exact .inr ⟨.inl (sQ I.ok.kind fr kc),c,(wZ sc.names _ _ p.2 nc).trans ec',o,kp c o ho,hd⟩
 .show ∃v,h4.IsCell c v
  rw[e4];refine Gc sc.names _ (gB X.env sc.names []) (λy c e=>?_) x c (by rw[jg];exact e);obtain⟨v,z⟩:=I.cell y c (hcl y c e);exact⟨v,z.keeps λb o e=>ay _ e⟩
 .rcases hfr x c e with z |z
  .exact I.hok.fresh (re z)
  .exact I.freeC x c z
 .unfold kC
  show _=(dH own cap).length;unfold dH;rw[ca,ca,ak,ak,ak]
theorem aH.uncmpC{s3 s':aa}{H3 H':Hp}{N:List Str}{σ':St}{C:Addr}{fp:List Addr}{pl:List (Addr×Obj)}(I:aH X AO σ H s)(hf:∀b∈fp,fY X AO H b)(u:Un (dS X.stack) fp H H3 s.heap s3.heap)(os:s3.os=s.os)
  (J:aH (iH X sc N C s3 H3 fp) pl σ' H' s'):aH X AO σ H' s':=by
 have os':s'.os=s.os:=(show s'.os=s3.os from J.os).trans os;refine I.call' (ch:=fp) os' (u.trans J.base) J.hok J.bare λb hb=>?_;obtain⟨_,f1,_,f3,f4,f5⟩:=hf b hb;exact⟨f3,f1,f4,f5⟩
theorem Zw{use:Option (Value->Sem Unit)}{Qf:Value->aa->Prop}(k:nU X sc own cap)(hi:PI X target iter wi)(hc:X.calm=true)
  (hg:∀C AQ AR ex,PG (iH X sc (dH own cap) C AQ AR ex) target g)(he:∀C AQ AR ex,PE (iH X sc (dH own cap) C AQ AR ex) elt te)(I:aH X AO σ H s)(h:uF own cap wi g te σ H Q)
  (fin:∀D C s' H' m,aH X AO σ H' s'->fY X AO H' C->s'.heap.Ns C m->Q (.ref D) H'->compPost (model X.prog X.w) X.A X.xe use Qf (.ref D) C (.ok .next) s')
  (hs:∀x,foldedSetIterable iter X.env x=pure x):
  wpAny (model X.prog X.w) X.A (comprehension (.ListComp elt [⟨target,iter,[],0⟩] sc pos) sc X.env pos' (newList []) false (eval iter X.env) use) Qf X.xe s:=by
 refine zy (use:=use) rfl hs (Rm (k.has I.ok)) k.kind k.names ?_;refine bO (hi AO s σ H _ I h) λv s1 h1=>bO h1 λitv s2 h2=>?_;obtain⟨it,fp,tn,J,H2,e,I2,T,st2,f2,hW⟩:=h2;subst e;refine ju (Lv ?_);have hsz:(s2.heap.push {cls:=.type "list",data:=.seq ([]:AG).toArray}).objs.size=s2.heap.objs.size+1:=jg ..;have I3:aH X AO σ (bK H2 s2.heap.objs.size (.lst [])) {s2 with heap:=s2.heap.push {cls:=.type "list",data:=.seq ([]:AG).toArray},toks:=s2.toks}:=I2.lnew (ys:=[]) (its:=[]) .nil (ja _);have hD:H2 s2.heap.objs.size=none:=I2.fresh;have ltf:∀b∈fp,b<s2.heap.objs.size:=λb hb=>by
  obtain⟨o,ho,_⟩:=T.obj _ _ st2 b hb;exact bn ho
 have f3:∀b∈fp,fY X AO (bK H2 s2.heap.objs.size (.lst [])) b:=λb hb=>⟨by rw[dD (df (ltf b hb))];exact(f2 b hb).1,(f2 b hb).2⟩;have un:Un (dS X.stack) fp H2 (bK H2 s2.heap.objs.size (.lst [])) s2.heap (s2.heap.push {cls:=.type "list",data:=.seq ([]:AG).toArray}):=Un.laid (λb u q=>ay _ q) (aq _) hD;have kp:∀b o,(s2.heap.push {cls:=.type "list",data:=.seq ([]:AG).toArray}).get? b=some o->(pushCells ((s2.heap.push {cls:=.type "list",data:=.seq ([]:AG).toArray}).push {cls:=.type "dict",data:=.dict #[]}) sc.names).get? b=some o:=λb o q=>xn _ _ b o (ay _ q);have J0:=I3.cmpC (t':=s2.toks) k f3 (λb hb=>de (ltf b hb) (by rw[jg];exact qi _)) rfl;have stat:∀{H':Hp},(∀b∈fp,H' b=none)->∀b∈fp,fY (iH X sc (dH own cap) (s2.heap.push {cls:=.type "list",data:=.seq ([]:AG).toArray}).objs.size {s2 with heap:=s2.heap.push {cls:=.type "list",data:=.seq ([]:AG).toArray},toks:=s2.toks} (bK H2 s2.heap.objs.size (.lst [])) fp) [] H' b:=λhn b hb=>
  ⟨hn b hb,(J0.ok.exf b hb).1,J0.ok.exfs b hb,.inl hb,(J0.ok.exf b hb).2,λp hp=>absurd (show p∈([]:List (Addr×Obj)) from hp) (by simp)⟩
 have st4:tn 0 (pushCells ((s2.heap.push {cls:=.type "list",data:=.seq ([]:AG).toArray}).push {cls:=.type "dict",data:=.dict #[]}) sc.names):=T.keep _ _ _ st2 λb hb o q=>kp b o (ay _ q);have fr0:∀b∈fp,(bK H2 s2.heap.objs.size (.lst [])) b=none:=λb hb=>(f3 b hb).1;have loop:codeAny (model X.prog X.w) X.A (.compLoop (.ListComp elt [⟨target,iter,[],0⟩] sc pos) 0 (.ref it) (.ref s2.heap.objs.size) (compEnvC sc (cellsFrom ((s2.heap.push {cls:=.type "list",data:=.seq ([]:AG).toArray}).objs.size+1) sc.names (gB X.env sc.names [])) (s2.heap.push {cls:=.type "list",data:=.seq ([]:AG).toArray}).objs.size X.env))
   (compPost (model X.prog X.w) X.A X.xe use Qf (.ref s2.heap.objs.size) (s2.heap.push {cls:=.type "list",data:=.seq ([]:AG).toArray}).objs.size) {s2 with heap:=(pushCells ((s2.heap.push {cls:=.type "list",data:=.seq ([]:AG).toArray}).push {cls:=.type "dict",data:=.dict #[]}) sc.names),toks:=s2.toks}:=by
  obtain⟨W,⟨m0,w0⟩,turn⟩:=hW s2.heap.objs.size hD;refine Ri (λn s'=>∃i σ' H' ys,aH (iH X sc (dH own cap) (s2.heap.push {cls:=.type "list",data:=.seq ([]:AG).toArray}).objs.size {s2 with heap:=s2.heap.push {cls:=.type "list",data:=.seq ([]:AG).toArray},toks:=s2.toks} (bK H2 s2.heap.objs.size (.lst [])) fp) [] σ' H' s'/\tn i s'.heap/\(∀b∈fp,H' b=none)/\W i n σ' H' ys) ?_ m0
   ⟨0,_,_,[],J0,st4,fr0,w0⟩
  rintro n s5 ⟨i,σ5,H5,ys,I5,st5,fr5,w5⟩
  obtain⟨hD5,w5⟩:=turn i n σ5 H5 ys w5;rcases w5 with⟨stop,qn⟩|⟨go,hlt,step⟩
  .refine bO (T.done (iH X sc (dH own cap) (s2.heap.push {cls:=.type "list",data:=.seq ([]:AG).toArray}).objs.size {s2 with heap:=s2.heap.push {cls:=.type "list",data:=.seq ([]:AG).toArray},toks:=s2.toks} (bK H2 s2.heap.objs.size (.lst [])) fp) rfl rfl rfl hc i [] s5 σ5 H5 _ I5 (stat fr5) st5 stop) ?_
   rintro r s6 ⟨hr,I6⟩
   subst hr;obtain⟨m,hn,_⟩:=id I6.loc;exact fin _ _ s6 H5 m (I2.uncmpC (s3:={s2 with heap:=s2.heap.push {cls:=.type "list",data:=.seq ([]:AG).toArray},toks:=s2.toks}) f2 un rfl I6) (I3.fpOk (aq _) I6.free) hn qn
  .refine bO (T.item (iH X sc (dH own cap) (s2.heap.push {cls:=.type "list",data:=.seq ([]:AG).toArray}).objs.size {s2 with heap:=s2.heap.push {cls:=.type "list",data:=.seq ([]:AG).toArray},toks:=s2.toks} (bK H2 s2.heap.objs.size (.lst [])) fp) rfl rfl rfl hc i [] s5 σ5 H5 _ I5 (stat fr5) st5 go) ?_
   rintro r s6 ⟨u,hr,h6⟩
   subst hr;refine bO h6 ?_
   rintro _ s7 ⟨x,H7,I7,r7,y7,st7,fr7⟩
   have I7':=I7.pinned (stat fr7) (T.obj _ _ st7);refine bO (hg _ _ _ _ _ s7 σ5 H7 x u _ I7' r7 (step x H7 y7)) ?_
   rintro _ s8 ⟨σ8,H8,I8,q8⟩
   refine bO (he _ _ _ _ _ s8 σ8 H8 _ I8 q8) ?_
   rintro v9 s9 ⟨y,H9,I9,r9,hD9,m',hm,w9⟩
   refine bO (Wa _ s9 σ8 H9 (.ref s2.heap.objs.size) [y] (.ref s2.heap.objs.size) [v9] (λ_ H'=>H'=bK H9 s2.heap.objs.size (.lst (ys++[y]))) I9 rfl (.cons r9 .nil) ⟨_,ys,y,rfl,rfl,hD9,hlt,rfl⟩) ?_
   rintro _ s10 ⟨_,H10,I10,_,q10⟩
   subst q10;refine⟨m',hm,i+1,σ8,_,_,I10.unpinned,T.keep _ _ _ st7 λb hb o q=>(I10.pin (b,o) (dz _ (dz _ (qS hb q)))).1,λb hb=>?_,w9⟩;obtain⟨o,q,d⟩:=T.obj _ _ st7 b hb;exact(I10.pin (b,o) (dz _ (dz _ (qS hb q)))).2.1
 exact a5 loop (T.self _ 0 _ _ _ st4 loop)
theorem C4(k:nU X sc own cap)(hi:PI X target iter wi)(hc:X.calm=true)
  (hg:∀C AQ AR ex,PG (iH X sc (dH own cap) C AQ AR ex) target g)(he:∀C AQ AR ex,PE (iH X sc (dH own cap) C AQ AR ex) elt te)
  (hs:∀x,foldedSetIterable iter X.env x=pure x:=by intro _;rfl):PE X (.ListComp elt [⟨target,iter,[],0⟩] sc pos) (uF own cap wi g te):=by
 intro AO s σ H Q I h;rw[eval_ListComp];refine Zw (use:=none) k hi hc hg he I h (λD C s' H' m I' fC hn q=>?_) hs;refine⟨m,hn,λh' sb=>⟨.ref D,H',?_,rfl,q⟩⟩;obtain⟨f0,f1,f2,f3,f4,f5⟩:=fC;exact I'.turned (t':=s'.toks) (λb o hb e=>(sb.2 b hb).trans e) f0 f1 f3 f4 f5
theorem S5{X:Cx}{sc:Scope}{own:List Str}{cap:List (Nat×Str)}(so:Scope)(N:List Str)(hso:X.env.scope=so)(hN:X.N=N)(kind:sc.kind=.function)(names:∀y∈sc.names,y.2=.local->sc.names.lookup y.1=some .local)
  (cells:∀y∈sc.names,y.2=.cell->sc.names.lookup y.1=some .cell)(free:∀y∈sc.names,y.2=.free->so.names.lookup y.1=some .cell)(at':∀p∈cap,N[p.1]?=some p.2)(hcap:∀p∈cap,sc.names.lookup p.2=some .free):nU X sc own cap:=
 ⟨kind,names,cells,λy hy e=>by show X.env.scope.names.lookup y.1=_;rw[hso];exact free y hy e,λp hp=>by rw[hN];exact at' p hp,hcap⟩
theorem Q8{X:Cx}{sc1 sc:Scope}{own1 own:List Str}{cap1 cap:List (Nat×Str)}{C:Addr}{AQ:aa}{AR:Hp}{ex:List Addr}(so:Scope)(hso:X.env.scope=so)(hk:so.kind=.function)(kind:sc.kind=.function)(names:∀y∈sc.names,y.2=.local->sc.names.lookup y.1=some .local)
  (nocell:∀y∈sc.names,y.2≠.cell)(free:∀y∈sc.names,y.2=.free->sc1.names.lookup y.1=some .cell\/(sc1.names.lookup y.1=some .free/\so.names.lookup y.1=some .cell))(at':∀p∈cap,(dH own1 cap1)[p.1]?=some p.2)(hcap:∀p∈cap,sc.names.lookup p.2=some .free):
  iM (iH X sc1 (dH own1 cap1) C AQ AR ex) sc own cap:=
 ⟨kind,names,nocell,λy hy e=>by
  rcases free y hy e with f |⟨f1,f2⟩
  .exact Xh (env:=X.env) f
  .exact sQ (env:=X.env) (by rw[hso];exact hk) f1 (by show X.env.scope.names.lookup y.1=_;rw[hso];exact f2),at',hcap⟩
end
end L2
namespace L2.Pp
open PySem PySem.Spec PyProof.Rows Bn
section
variable{K:ae}{cl:Str->Addr}{E:XK}{X:Cx}{p q:Ph}{H H':Hp}{S:aG}
variable{sc:Scope}{own:List Str}{cap:List (Nat×Str)}{elt target iter:ag}{pos:ai}{mi:MI}{g:GM}{me:ME}
theorem C9(k:nU X sc own cap)(hi:PIp K cl E X target iter mi)(hc:X.calm=true)(hg:∀C AQ AR ex,lX K (iH X sc (dH own cap) C AQ AR ex) target g)(he:∀C AQ AR ex,aX K cl E0 (iH X sc (dH own cap) C AQ AR ex) elt me)
  (hs:∀x,foldedSetIterable iter X.env x=pure x:=by intro _;rfl):aX K cl E X (.ListComp elt [⟨target,iter,[],0⟩] sc pos) (aT own cap mi g me):=by
 intro hK;refine PE.imp (C4 k (hi hK) hc (λC AQ AR ex=>hg C AQ AR ex hK) (λC AQ AR ex=>he C AQ AR ex hK) hs) ?_
 rintro σ H Q ⟨p,S,ρ,s,ev,h⟩
 exact cK s ev h λq H' xs J S' stp sm ev it kk D hD=>Ra sm ev it kk hD
end
def Pl(S:aG):Prop:=∀(j:Nat)(o:SO),S[j]?=some o->∃xs,o=.lst xs
section
variable{K:ae}{cl:Str->Addr}{E:XK}{X:Cx}{a e:ag}{m:ME}{ms:MA}{pos:ai}{p q:Ph}{H H':Hp}{S:aG}
def Qt(k:Nat)(ys:AN)(S:aG):cD AV:=match(jK S ys).bind kA,S[k]? with
 |some (.lst vs),some (.lol xss)=>if xss.length<16777216 then .ok (.pv .non) (S.set k (.lol (xss++[vs])))else .fail
 |_,_=>.fail
def Js(m:ME)(ms:MA):ME:=λρ S=>(m ρ S).bind λk S1=>fW k S1 λk=>(ms ρ S1).bind λys S2=>Qt k ys S2
end
section
variable{P:Program}{w:am}{K:ae}{mg:Str->AH}{base:Heap}{cl:Str->Addr}
end
def rP(v:AV)(S:aG):cD Bool:=match rd S v with
 |some (.lst xs)=>.ok (!xs.isEmpty) S
 |some (.tup xs)=>.ok (!xs.isEmpty) S
 |some (.int i)=>.ok (i !=0) S
 |some (.bl b)=>.ok b S
 |_=>.fail
def oE(m:ME):MT:=λρ S=>(m ρ S).bind rP
theorem Jh{K:ae}{c:Addr->Prop}{H:Hp}{xs:AK}{vs:List V}(r:aU K c H xs vs):vs.isEmpty=xs.isEmpty:=by
 have:=r.length;cases xs<;>cases vs<;>simp_all
theorem Q5{K:ae}{cl:Str->Addr}{E:XK}{X:Cx}{a:ag}{ma:ME}(ha:aX K cl E X a ma)(he:∀whole,isTrue a X.env whole=(do let v <-whole;standAt a.pos;holding [v] (truthy v)):=by intro _;rfl):fG K cl E X a (oE ma):=by
 intro hK;subst hK;refine(M4 (ha rfl) he).imp ?_
 rintro σ H Q ⟨p,S,ρ,s,e,h⟩
 refine cK s e h λq H1 a x S1 st s1 e1 r1 h1=>?_;unfold rP at h1;cases z:rd S1 a with
 |none=>rw[z]at h1;exact h1.elim
 |some v=>
  rw[z]at h1;have rr:=lH s1 r1 z;cases v with
  |lst xs=>
   obtain⟨b,vs,rfl,l,_,r⟩:=rr.lst;exact⟨_,.inl ⟨vs,l,by rw[Jh r]⟩,cL.ret (R:=RB) h1 s1 rfl⟩
  |tup xs=>
   obtain⟨b,vs,rfl,l,_,r⟩:=rr.tup;exact⟨_,.inr (.inl ⟨vs,l,by rw[Jh r]⟩),cL.ret (R:=RB) h1 s1 rfl⟩
  |int i=>
   cases rr.int;exact⟨_,rfl,cL.ret (R:=RB) h1 s1 rfl⟩
  |bl i=>
   cases rr.bl;exact⟨_,rfl,cL.ret (R:=RB) h1 s1 rfl⟩
  |_=>exact h1.elim
def Lf(P:Program)(w:am)(K:ae)(mg:Str->AH)(base:Heap)(cl:Str->Addr)(x:Str)(k:Nat)(ps:List Str)(g:FM):Prop:=∃(a:Addr)(d:br),eD P w K mg base fV k a d ps (lO K cl g)/\gO K d ps []/\dq K (.ref a)=true/\mg x=some (.ref a)
section
variable{cl:Str->Addr}{E:XK}{X:Cx}{e:ag}{es:List ag}{ms:MA}{pos p:ai}{k k0:Nat}{ps:List Str}{g:FM}{x:Str}
theorem acZ(C:Lf X.prog X.w X.K X.mg X.base cl x k ps g)(hr:dQ k0 X.A)(hk:k<=k0)(hg:Gl X x)(ha:fI X.K cl E X (e::es) ms)(hdb:(x==("__debug__":Str))=false:=by decide)(he:starEach (e::es) X.env=(false,eval e X.env)::starEach es X.env:=by rfl)(hpl:(backTo pos (starEach es X.env)).any (·.1)=false:=by rfl):
  aX X.K cl E X (.Call (.Name x p) (e::es) [] pos) (aO g [] ms):=by
 obtain⟨a,d,G,b,kk,n⟩:=C;exact J2 G (hr.mono hk) hg n kk b .nil Dv.nil ha hdb he hpl
theorem ab4(C:Lf X.prog X.w X.K X.mg X.base cl x k ps g)(hr:dQ k0 X.A)(hk:k<=k0)(hg:Gl X x)(ha:fI X.K cl E X (e::es) ms)(hdb:(x==("__debug__":Str))=false:=by decide)(he:starEach (e::es) X.env=(false,eval e X.env)::starEach es X.env:=by rfl)(hpl:(backTo pos (starEach es X.env)).any (·.1)=false:=by rfl):
  aX X.K cl E X (.Call (.Name x p) (e::es) [] pos) (rM g [] ms):=by
 obtain⟨a,d,G,b,kk,n⟩:=C;exact E6 G (hr.mono hk) hg n kk b .nil Dv.nil ha hdb he hpl
end
theorem Fx(l:Addr)(its:Array Value)(n:Nat)(b:Addr)(jts:Array Value)(k:Nat)(dd:AI)(sl:Array AH)(h0:¬(!its.isEmpty&&sf (its.size+jts.size))=true)(h1:its.size<=sizeLine)(h2:its.size+jts.size<=sizeLine+1):
  Meets (Builtin.«list.__iadd__» ⟨[.ref l,.ref b],[]⟩) (λ_ R s=>s.heap.get? l=some ⟨.type "list",none,.seq its n,#[]⟩/\s.heap.get? b=some ⟨.type "list",dd,.seq jts k,sl⟩/\R (.ok (.ret (gw l))) {s with heap:=s.heap.update l (gm λx=>x++jts),toks:=s.toks}):=
 .of_wp λprog w A R s h=>by
  obtain⟨hp,g,d,tk,os⟩:=s;obtain⟨hl,hb,h⟩:=h;have f1:=PySem.AutoSeq1.idx_int;have f2:=PySem.AutoSeq1.sub_tuple_tuple;have f3:=PySem.AutoSeq1.sub_list_list;have f4:=PySem.AutoSeq1.sub_tuple_list;have f5:=PySem.AutoSeq1.sub_list_tuple;have hz':(its++jts).size<=sizeLine+1:=by
   rw[Array.size_append];exact h2
  wp_walk using(wpAny_updateSeq hl rfl (hz:=h1) (_hz':=hz')),wpAny_loadPart' hl,wpAny_loadPart' hb
  exact⟨_,rfl,h⟩
section
variable{X:Cx}
def ace(K:ae):uP:=λx y H Q=>∃l b xs zs,x=.ref l/\y=.ref b/\H l=some (.lst xs)/\cE K H b zs/\xs.length+zs.length<=sizeLine/\Q (.ref l) (bK H l (.lst (xs++zs)))
theorem aaO:L2.PIp X .Add (ace X.K):=by
 intro AO s σ H x y v u Q I rx ry h;obtain⟨l,b,xs,zs,rfl,rfl,hx,hy,hz,q⟩:=h;cases rx;cases ry;obtain⟨z,its,n,r1,hl,e⟩:=I.lstM hx;obtain⟨jts,r2,p2,_⟩:=I.list hy;obtain⟨⟨cls2,dd2,data2,sl2⟩,n2,ho2,hc2,_,hd2⟩:=p2;simp only at hc2 hd2;subst hc2 hd2;have l1:=r1.length;have l2:=r2.length;have hsz:its.toArray.size+jts.toArray.size<=sizeLine:=by rw[ar,ar];omega
 have hlong:¬(!its.toArray.isEmpty&&sf (its.toArray.size+jts.toArray.size))=true:=by
  rw[K7 hsz,Bool.and_false];exact kw
 have ta:s.TypeIs (.ref l) "list":=⟨_,e,rfl⟩;have tb:s.TypeIs (.ref b) "list":=⟨_,ho2,rfl⟩;have hf:=l6.lookup;have hq:isSeqSlot (some (.builtin "list.__iadd__"))=true:=by decide+kernel
 have hfi:fillsInplaceSlot (.type "list") "add" (Operator.Add== .Add)=pure false:=by
  unfold fillsInplaceSlot;show(typeLookup (.type "list") (dunderI "add") >>= λfi=>pure (fi.isSome&& !isSeqSlot fi))=pure false;rw[hf,pure_bind,hq];rfl
 have hsi:seqSlot? (.type "list") (dunderI "add")=pure (some (.builtin "list.__iadd__")):=PySem.seqSlot_of hf hq;unfold inplaceOp;refine iz ?_;refine ah (wpAny_typeOf ta (ah (wr hfi ?_)));show wpAny _ _ (if false=true then _ else _) _ _ s;rw[if_neg kw];refine ah (wpAny_binaryOp1_none (nm:="add") ta tb noFill_list_add ?_);refine ah (wr hsi ?_);refine ah (nr ?_);refine we l6 ⟨_,e,rfl⟩ PySem.F.entry_list_iadd (PySem.F.args_list_iadd_2 _ _) (Fx l its.toArray n b jts.toArray n2 dd2 sl2 hlong (by rw[ar];omega) (by omega)) ⟨e,ho2,?_⟩;refine⟨.ref l,_,I.lset (its':=its++jts) hx e (by simp) (r1.append r2) ?_,rfl,q⟩;rw[ca];omega
end
section
variable{K:ae}{cl:Str->Addr}{E:XK}{X:Cx}{e:ag}{m:ME}{pos:ai}
def yD(k:Nat)(ρ:bY)(v:AV)(S:aG):cP:=match v with
 |.pv (.lst ys)=>match S[k]? with
  |some (.lst xs)=>if xs.length+ys.length<=16777216 then .nx ρ (S.set k (.lst (xs++ys)))else .fail
  |_=>.fail
 |_=>.fail
def pW(i:Nat)(m:ME):MS:=λρ S=>match ρ[i]? with
 |some (some (.ref k))=>cP.of (m ρ S) (yD k ρ)
 |_=>.fail
theorem G4{i:Nat}{x:Str}{pos':ai}(hN:X.N.Nodup)(hi:X.N[i]?=some x)(hx:jT X.env.scope x)(he:aX K cl E X e m)
  (hf:X.fn x=true\/X.env.scope.names.lookup x=some .local:=by first |exact .inl rfl |exact .inr rfl |assumption):eN K cl E X (.AugAssign (.Name x pos') .Add e pos) (pW i m):=by
 intro hK;subst hK;refine PS.imp (Mp hN hi hx (he rfl) aaO hf) ?_
 rintro D σ H ⟨p,S,ρ,s,ev,h⟩
 unfold pW at h;split at h
 .rename_i k hx0
  obtain⟨v,e1,r1⟩:=ev.at_ i _ hx0;refine⟨v,e1,iT s ev h λq H' a b S' stp sm ev' r z=>?_⟩;obtain⟨D0,ea,rfl⟩:=stp.repA r1;unfold yD at z;split at z
  .rename_i ys
   obtain⟨b0,ws,rfl,sq,lw,rw0⟩:=(show eT X.K q H' (.lst ys) b from .inl r).lst;split at z
   .rename_i xs hS
    split at z
    .rename_i hl
     obtain⟨vs,h3,l3,r4⟩:=sm.obj k D0 _ ea hS;have hz:=jF;have n1:=r4.length;have n2:=rw0.length;obtain⟨fH,sm3⟩:=sm.write ea (da.mp hS).1 (ps:=xs++ys) (vs:=vs++ws) (by rw[ca];omega) (r4.append rw0);refine⟨D0,b0,vs,ws,rfl,rfl,h3,sq,by omega,?_⟩;have es:σ.set i (some (.ref D0))=σ:=by
      refine qo λj=>?_
      by_cases hj:i=j
      .subst hj
       rw[ie (da.mp e1).1,e1]
      .rw[jf hj]
     show D.nx (σ.set i (some (.ref D0))) _;rw[es];exact dR.nxD (z.mono fH) sm3 (fH.repE ev')
    .exact z.elim
   .exact z.elim
  .exact z.elim
 .exact h.elim
end
section
variable{K:ae}{cl:Str->Addr}{E:XK}{X:Cx}
theorem Wb:∀{is:AB}{its:AG},bI (is.map V.int) its->oh its is
 |[],_,.nil=>.nil
 |_::_,_,.cons r t=>by
  obtain⟨tk,rfl⟩:=r;exact .cons _ tk (Wb t)
theorem Oz(hc:X.calm=true):iK X (.builtin "min") (λxs H Q=>∃(a:Addr)(is:AB),xs=[.ref a]/\cE X.K H a (is.map V.int)/\is≠[]/\∀M,M∈is->(∀b∈is,M<=b)->Q (.int M) H):=by
 intro AO s σ H xs us Q I r h;obtain⟨a,is,rfl,hq,hne,q⟩:=h;obtain⟨u,rfl,ru⟩:=kD r;cases ru;obtain⟨its,rv,pl,hz⟩:=I.list hq;have hi:=Wb rv;have hl:=pl.isList;obtain⟨xs,e⟩:=hi.allInts.items;have hns:is=xs.toList.map (·.1):=by rw[<-hi.numsOf,<-nums_intItems,<-e]
 have hsz:0<xs.size:=by
  have h3:0<is.length:=l7.mpr hne;rw[hns,ak,jj]at h3;exact h3
 rw[e]at hl;refine min_intList (I.ok.hd hc) hl hsz λv h' tk hv hk=>?_;obtain⟨t,rfl⟩:=intItems_at hv;obtain⟨h1,h2⟩:=argBest_lt (numAt xs) (xs.size-1);refine⟨.int _,H,I.kept (h':=h') (t':=tk) hk,⟨t,rfl⟩,q _ ?_ λa ha=>?_⟩
 .rw[hns,tz]
  exact getD_mem (by rw[ak,jj];omega)
 .rw[hns]at ha
  obtain⟨j,hj,rfl⟩:=mem_getD ha;rw[ak,jj]at hj;rw[<-tz];exact h2 j (by omega)
def oF:AK->AL
 |[.lst xs]=>(iB xs).bind λbs=>bs.min?.map .int
 |_=>none
theorem acb:jQ K (λxs H Q=>∃(a:Addr)(is:AB),xs=[.ref a]/\cE K H a (is.map V.int)/\is≠[]/\∀M,M∈is->(∀b∈is,M<=b)->Q (.int M) H) oF:=λ{p S H as c xs Q} s ra e k=>by
 unfold oF at e;split at e
 .rename_i zs
  cases y:iB zs with
  |none=>rw[y]at e;cases e
  |some bs=>
   rw[y]at e;cases ra with
   |cons h t=>
    cases t;obtain⟨a,vs,rfl,l,z,r⟩:=h.lst;rw[sX y r]at l;have e:bs.min?.map PV.int=some c:=e;cases y2:bs.min? with
    |none=>rw[y2]at e;cases e
    |some m=>
     rw[y2]at e;cases e;refine⟨a,bs,rfl,l,λz=>?_,λM hM hle=>?_⟩
     .rw[z]at y2
      cases y2
     .have e2:bs.min?=some M:=ow.mpr ⟨hM,hle⟩
      rw[y2]at e2;cases e2;exact k H _ (dG.refl H) (iR (v:=.int _) rfl)
 .cases e
variable{a e:ag}{m:ME}{ms:MA}{pos:ai}
def iF:PV->AL
 |.non=>some (.bl false)
 |_=>some (.bl true)
theorem O4{σ:St}{H:Hp}{Q:VK}(z:tP X.K cl E (cX X.K) (bG iF m) σ H Q):Fr (tP X.K cl E (cX X.K) m) σ H Q:=by
 obtain⟨p,S,ρ,s,ev,h⟩:=z;refine cK s ev h λq H' as x S' stp sm ev r k=>?_;refine qY (r:=λx H Q=>Q (.bl (!decide (x=.non))) H) (f:=iF) (λ{p S H a c x Q} s ra e k=>?_) sm r k;have z:c=.bl (!decide (x=.non)):=by
  cases a with
  |non=>cases ra.non;cases e;rfl
  |int i=>cases ra.int;cases e;rfl
  |bl i=>cases ra.bl;cases e;rfl
  |str i=>cases ra.str;cases e;rfl
  |tup xs=>obtain⟨a,vs,rfl,_⟩:=ra.tup;cases e;rfl
  |lst xs=>obtain⟨a,vs,rfl,_⟩:=ra.lst;cases e;rfl
 subst z;exact k H _ (dG.refl H) (by unfold aW;rfl)
theorem aaz{j pos'}(ha:aX K cl E X a m):fG K cl E X (.Compare a [.IsNot] [.Constant .none j pos'] pos) (bT (bG iF m)):=by
 intro hK;subst hK;refine(Kq (V9 (ha rfl))).imp ?_
 rintro σ H Q ⟨p,S,ρ,s,e,h⟩
 have z:tP X.K cl E (cX X.K) (bG iF m) σ H λx H'=>∃k,x=.bl k/\Q k H':=cK s e h λq H1 a x S1 st s1 e1 r1 h1=>wA s1 r1 h1;exact O4 z
end
section
variable{K:ae}{cl:Str->Addr}{E:XK}{X:Cx}
def Ap(K:ae):R2:=λx y H Q=>∃a b ys,x=.ref a/\y=.ref b/\dJ K H a []/\dJ K H b ys/\Q (.ref b) H
theorem L5:eO X (binaryOp .Add) (Ap X.K):=by
 intro AO s σ H x y v u Q I rx ry h;obtain⟨a,b,ys,rfl,rfl,ha,hb,q⟩:=h;cases rx;cases ry;obtain⟨its,r1,p1,_⟩:=I.tuple ha;obtain⟨jts,r2,p2,_⟩:=I.tuple hb;cases r1;obtain⟨⟨cls,dd,data,sl⟩,ho,hc,n,hd⟩:=p1;obtain⟨⟨cls2,dd2,data2,sl2⟩,ho2,hc2,n2,hd2⟩:=p2;simp only at hc hd hc2 hd2;subst hc hd hc2 hd2;exact rm ⟨_,ho,rfl⟩ ⟨_,ho2,rfl⟩ vm vn vo vp (vq _ _)
  (tuple_addW0 a b _ jts.toArray n n2 dd dd2 sl sl2 (by simp)) ⟨ho,ho2,⟨.ref b,H,I,rfl,q⟩⟩
def iY:PV->PV->AL
 |.tup xs,.tup ys=>if xs.length+ys.length<=16777216 then some (.tup (xs++ys))else none
 |_,_=>none
def Pr(K:ae):R2:=λx y H Q=>Ap K x y H Q\/Sd K x y H Q
theorem P7:eO X (binaryOp .Add) (Pr X.K):=eO.or L5 Um
theorem eT.tupR{p:Ph}{H:Hp}{xs:AK}{x:V}(h:eT K p H (.tup xs) x):aW K p.c H (.tup xs) x:=by
 rcases h with h |⟨ys,a,vs,e,_⟩
 .exact h
 .cases e
theorem abB:gH K (Pr K) iY:=λ{p S H a b c x y Q} s ra rb e k=>by
 cases a with
 |tup xs=>
  cases b with
  |tup ys=>
   have e:(if xs.length+ys.length<=16777216 then some (PV.tup (xs++ys))else none)=some c:=e;split at e
   .rename_i hl
    cases e;have ra':=ra.tupR;have rb':=rb.tupR;obtain⟨a1,vs,rfl,l1,z1,r1⟩:=ra.tup;obtain⟨a2,ws,rfl,l2,z2,r2⟩:=rb.tup;have hz:vs.length+ws.length<=sizeLine:=by rw[<-r1.length,<-r2.length,jF];exact hl
    cases xs with
    |nil=>
     have hv:vs=[]:=m9 (by rw[<-r1.length];rfl);subst hv;exact .inl ⟨a1,a2,ws,rfl,rfl,l1,l2,k H _ (dG.refl H) rb'⟩
    |cons x0 xs=>
     refine .inr ⟨a1,a2,vs,ws,rfl,rfl,l1,l2,λq=>?_,hz,λq=>?_,λ_ t ht=>k _ _ (gX ht) (pK s (r1.append r2) (by rw[ca];exact hz) ht)⟩
     .have:=r1.length
      rw[q]at this;cases this
     .have hy:ys=[]:=by
       have:=r2.length;rw[q]at this;exact m9 this
      subst hy;have e0:x0::xs++[]=x0::xs:=jk _;refine k H _ (dG.refl H) ?_;rw[e0];exact ra'
   .cases e
  |_=>cases e
 |_=>cases e
end
section
variable{K:ae}{cl:Str->Addr}{E:XK}{X:Cx}
end
section
variable{K:ae}{cl:Str->Addr}{E:XK}{X:Cx}
theorem Gy(hc:X.calm=true):iK X (.builtin "max") (λxs H Q=>∃(a:Addr)(is:AB),xs=[.ref a]/\cE X.K H a (is.map V.int)/\is≠[]/\∀M,M∈is->(∀b∈is,b<=M)->Q (.int M) H):=by
 intro AO s σ H xs us Q I r h;obtain⟨a,is,rfl,hq,hne,q⟩:=h;obtain⟨u,rfl,ru⟩:=kD r;cases ru;obtain⟨its,rv,pl,hz⟩:=I.list hq;have hi:=Wb rv;have hl:=pl.isList;obtain⟨xs,e⟩:=hi.allInts.items;have hns:is=xs.toList.map (·.1):=by rw[<-hi.numsOf,<-nums_intItems,<-e]
 have hsz:0<xs.size:=by
  have h3:0<is.length:=l7.mpr hne;rw[hns,ak,jj]at h3;exact h3
 rw[e]at hl;refine max_intList (I.ok.hd hc) hl hsz λv h' tk hv hk=>?_;obtain⟨t,rfl⟩:=intItems_at hv;obtain⟨h1,h2⟩:=argBest_gt (numAt xs) (xs.size-1);refine⟨.int _,H,I.kept (h':=h') (t':=tk) hk,⟨t,rfl⟩,q _ ?_ λa ha=>?_⟩
 .rw[hns,tz]
  exact getD_mem (by rw[ak,jj];omega)
 .rw[hns]at ha
  obtain⟨j,hj,rfl⟩:=mem_getD ha;rw[ak,jj]at hj;rw[<-tz];exact h2 j (by omega)
def rV:AK->AL
 |[.lst xs]=>(iB xs).bind λbs=>bs.max?.map .int
 |_=>none
theorem acY:jQ K (λxs H Q=>∃(a:Addr)(is:AB),xs=[.ref a]/\cE K H a (is.map V.int)/\is≠[]/\∀M,M∈is->(∀b∈is,b<=M)->Q (.int M) H) rV:=λ{p S H as c xs Q} s ra e k=>by
 unfold rV at e;split at e
 .rename_i zs
  cases y:iB zs with
  |none=>rw[y]at e;cases e
  |some bs=>
   rw[y]at e;cases ra with
   |cons h t=>
    cases t;obtain⟨a,vs,rfl,l,z,r⟩:=h.lst;rw[sX y r]at l;have e:bs.max?.map PV.int=some c:=e;cases y2:bs.max? with
    |none=>rw[y2]at e;cases e
    |some m=>
     rw[y2]at e;cases e;refine⟨a,bs,rfl,l,λz=>?_,λM hM hle=>?_⟩
     .rw[z]at y2
      cases y2
     .have e2:bs.max?=some M:=qp.mpr ⟨hM,hle⟩
      rw[y2]at e2;cases e2;exact k H _ (dG.refl H) (iR (v:=.int _) rfl)
 .cases e
end
section
variable{K:ae}{cl:Str->Addr}{E:XK}{X:Cx}
variable{a e:ag}{m:ME}{ms:MA}{pos:ai}
end
section
variable{M:kq}{A:ao}{E:Value->aa->Prop}{s:aa}{env:bi}
end
section
variable{prog:Program}{w:am}{A:ao}{R:qd->aa->Prop}{s:aa}
end
end L2.Pp
namespace L2
open PySem PySem.Spec PyProof.Rows Bn
section
variable{X:Cx}{AO:List (Addr×Obj)}{σ:St}{H H':Hp}{s s':aa}
end
open L2.Pp
section
variable{P:Program}{w:am}{K:ae}{mg:Str->AH}{base:Heap}{N:List Str}{qual:Str}{scope:Scope}{f:Addr}{cd:Value}{A:ao}{outer:List bi}{AQ:aa}{AR:Hp}{E:XK}
end
section
variable{P:Program}{w:am}{K:ae}{mg:Str->AH}{base:Heap}{N:List Str}{qual:Str}{scope:Scope}{f:Addr}{cd:Value}{A:ao}{outer:List bi}{AQ:aa}{AR:Hp}{E:XK}
variable{sc:Scope}{own:List Str}{cap:List (Nat×Str)}{AO:List (Addr×Obj)}{σ:St}{H:Hp}{s:aa}{elt target iter:ag}{pos pos':ai}{wi:TI}{g:TG}{te:TE}{Q:VK}
end
end L2
namespace L2.Pp
open PySem PySem.Spec PyProof.Rows Bn
section
variable{K:ae}{cl:Str->Addr}{E:XK}{X:Cx}{p q:Ph}{H H':Hp}{S:aG}
variable{sc:Scope}{own:List Str}{cap:List (Nat×Str)}{elt target iter:ag}{pos:ai}{mi:MI}{g:GM}{me:ME}
end
section
variable{P:Program}{w:am}{K:ae}{mg:Str->AH}{base:Heap}{N:List Str}{qual:Str}{scope:Scope}{f:Addr}{cd:Value}{A:ao}{outer:List bi}{AQ:aa}{AR:Hp}{E:XK}{cl:Str->Addr}
variable{sc:Scope}{own:List Str}{cap:List (Nat×Str)}{elt target iter:ag}{pos:ai}{mi:MI}{g:GM}{me:ME}{wi:TI}{tg:TG}{te:TE}
end
section
variable{K:ae}{cl:Str->Addr}{E:XK}{X:Cx}{e:ag}{es:List ag}{ms:MA}{pos p:ai}{k n:Nat}{f:Addr}{fd:br}{ps:List Str}{g:FM}{x:Str}{dvs:List V}{ds:AG}{dv:AK}
end
section
variable{K:ae}{cl:Str->Addr}{E:XK}{X:Cx}
end
section
variable{K:ae}{cl:Str->Addr}{E:XK}{X:Cx}{a b e:ag}{m:ME}{ms:MA}{pos:ai}
end
end L2.Pp
namespace L2
open PySem PySem.Spec PyProof.Rows Bn
def qI(X:Cx)(e:ag)(te:XK->TE):Prop:=
 ∀(AO:List (Addr×Obj))(s:aa)(σ:St)(H:Hp)(Q:VK)(E:XK)(Ex:Value->aa->Prop),aH X AO σ H s->te E σ H Q->
  (∀s1 H1 e' s',aH X AO σ H1 s1->dA X.prog X.w X.stack H1 s1 E e' s'->Ex e' s')->wpAny (model X.prog X.w) X.A (eval e X.env) (EP X AO σ Q) Ex s
section
variable{X:Cx}{k:Nat}{f:Addr}{fd:br}{ps:List Str}{sp:Sp}{dvs:List V}{ds:AG}{x:Str}{p pos pos1 pos2 pos3 pc:ai}{e a:ag}{es:List ag}{t:TA}{ta:TE}{te:XK->TE}{c n:Str}{C:Addr}{i:Nat}{AU:Stmt}{body:List Stmt}{newId:String}
theorem L9(hxe:X.xe=λ_ _=>False)(F:eD X.prog X.w X.K X.mg X.base (dA X.prog X.w) k f fd ps sp)(hr:dQ k X.A)(hg:Gl X x)(hm:X.mg x=some (.ref f))(hkp:dq X.K (.ref f)=true)
  (hb:gO X.K fd ps ds)(hd:bI dvs ds)(ha:PA X (e::es) t)
  (hdb:(x==("__debug__":Str))=false:=by decide)(he:starEach (e::es) X.env=(false,eval e X.env)::starEach es X.env:=by rfl)(hpl:(backTo pos (starEach es X.env)).any (·.1)=false:=by rfl):
  qI X (.Call (.Name x p) (e::es) [] pos) (λE σ H Q=>t σ H λvs H1=>sp (vs++dvs) H1 Q E):=
 λAO s σ H Q E Ex I h hx=>F3 hxe F hr hg hm hkp hb hd ha I h hx hdb he hpl
end
end L2
namespace L2.Pp
open PySem PySem.Spec PyProof.Rows Bn
section
variable{K:ae}{cl:Str->Addr}{E:XK}{X:Cx}{a b c e:ag}{m mc:ME}{ms:MA}{pos:ai}{tg:ag}{ma mb:ME}
end
section
variable{K:ae}{cl:Str->Addr}{E:XK}{X:Cx}{e a:ag}{es:List ag}{ms:MA}{ma me:ME}{p q:Ph}{H H':Hp}{S:aG}
variable{k:Nat}{f:Addr}{fd:br}{ps:List Str}{g:FM}{dvs:List V}{ds:AG}{dv:AK}{x:Str}{pp pos pos1 pos2 pos3 pc:ai}{c n:Str}{i nn:Nat}{AU:Stmt}{body:List Stmt}{newId:String}{up:bY->bY}
variable(K cl X)
def Du(e:ag)(m:ME):Prop:=X.K=K->qI X e λE=>tP K cl E (cX K) m
variable{K cl X}
def tY(f:FM)(ds:AK)(ms:MA):ME:=λρ S=>(kP (ms ρ S)).bind λxs S1=>frz S1.length (f (xs++ds.map .pv) S1)
theorem qI.imp{te te':XK->TE}(h:qI X e te)(i:∀E σ H Q,te' E σ H Q->te E σ H Q):qI X e te':=λAO s σ H Q E Ex I q hx=>h AO s σ H Q E Ex I (i E σ H Q q) hx
theorem U5(hxe:X.xe=λ_ _=>False)(F:eD X.prog X.w X.K X.mg X.base (dA X.prog X.w) k f fd ps (kJ K cl g))(hr:dQ k X.A)(hg:Gl X x)(hm:X.mg x=some (.ref f))(hkp:dq X.K (.ref f)=true)
  (hb:gO X.K fd ps ds)(hd:bI dvs ds)(hv:Dv dv dvs)(ha:fI K cl E0 X (e::es) ms)
  (hdb:(x==("__debug__":Str))=false:=by decide)(he:starEach (e::es) X.env=(false,eval e X.env)::starEach es X.env:=by rfl)(hpl:(backTo pos (starEach es X.env)).any (·.1)=false:=by rfl):
  Du K cl X (.Call (.Name x pp) (e::es) [] pos) (tY g dv ms):=by
 intro hK;refine qI.imp (L9 hxe F hr hg hm hkp hb hd (ha hK) hdb he hpl) ?_
 rintro E σ H Q ⟨p,S,ρ,s,ev,h⟩
 refine⟨p,S,ρ,s,ev,?_⟩;unfold tY at h;cases z:ms ρ S with
 |ok xs S1=>
  rw[z]at h;intro q H1 vs st sm r;exact⟨q,S1,xs++dv.map .pv,sm,sM r (hv K q H1),wB sm (cL.mono h st)⟩
 |exc m S1=>rw[z]at h;exact h.elim
 |fail=>rw[z]at h;exact h.elim
def uD(me:ME)(c:Str)(nn j:Nat)(up:bY->bY):MS:=λρ S=>if ρ.length=nn then(match me ρ S with
 |.ok v S2=>.nx (ρ.set j (some v)) S2
 |.exc n S2=>if n=c then .nx (up ρ) S2 else .fail
 |.fail=>.fail)else .fail
end
section
variable{K:ae}{cl:Str->Addr}{E:XK}{X:Cx}{a b:ag}{ma mb:ME}{pos:ai}
theorem O6{m:ME}{σ:St}{H:Hp}{Q:VK}(z:tP X.K cl E (cX X.K) (bG kS m) σ H Q):Ot (tP X.K cl E (cX X.K) m) σ H Q:=by
 obtain⟨p,S,ρ,s,ev,h⟩:=z;refine cK s ev h λq H' as x S' stp sm ev r k=>?_;refine qY (r:=λx H Q=>Q (.bl (decide (x=.non))) H) (f:=kS) (λ{p S H a c x Q} s ra e k=>?_) sm r k;have z:c=.bl (decide (x=.non)):=by
  cases a with
  |non=>cases ra.non;cases e;rfl
  |int i=>cases ra.int;cases e;rfl
  |bl i=>cases ra.bl;cases e;rfl
  |str i=>cases ra.str;cases e;rfl
  |tup xs=>obtain⟨a,vs,rfl,_⟩:=ra.tup;cases e;rfl
  |lst xs=>obtain⟨a,vs,rfl,_⟩:=ra.lst;cases e;rfl
 subst z;exact k H _ (dG.refl H) (by unfold aW;rfl)
theorem aa8{m:ME}{j pos'}(ha:aX K cl E X a m):fG K cl E X (.Compare a [.Is] [.Constant .none j pos'] pos) (bT (bG kS m)):=by
 intro hK;subst hK;refine(Kq (aaC (ha rfl))).imp ?_
 rintro σ H Q ⟨p,S,ρ,s,e,h⟩
 have z:tP X.K cl E (cX X.K) (bG kS m) σ H λx H'=>∃k,x=.bl k/\Q k H':=cK s e h λq H1 a x S1 st s1 e1 r1 h1=>wA s1 r1 h1;exact O6 z
end
end L2.Pp
namespace L2
open PySem PySem.Spec PyProof.Rows Bn
section
variable{X:Cx}{k:Nat}{p pos pos1 pos2 pos3 pc:ai}{e:ag}{te:XK->TE}{c:Str}{C:Addr}{AU:Stmt}{body:List Stmt}{newId:String}
theorem Y8{jv:Nat}{xv:Str}{posv:ai}{ts:TS}(stk:X.stack=X.env::X.outer)(hN:X.N.Nodup)
  (hgc:Gl X c)(hmc:X.mg c=some (.ref C))(hxC:gg X.K C iV newId=true)(he:qI X e te)
  (hjv:X.N[jv]?=some xv)(hxv:jT X.env.scope xv)(hs:∀y,fF (X.mk1 y []) (AU::body) ts)
  (hsw:swapsWith e (some (.Name xv posv)) pos1.line X.env=pure false:=by rfl)
  (hfv:X.fn xv=true\/X.env.scope.names.lookup xv=some .local:=by first |exact .inl rfl |exact .inr rfl |assumption)
  (hfr:X.env.frame=some X.env.locals:=by rfl)
  (hdc:(c==("__debug__":Str))=false:=by decide):
  PS X (.Try [.Assign [.Name xv posv] e pos1] [.ExceptHandler (some (.Name c pc)) none (AU::body) pos2] [] [] pos3)
   (λD σ H=>te (λcls _ H2=>cls=.ref C/\ts D σ H2) σ H (λv H2=>D.nx (σ.set jv (some v)) H2)):=by
 intro AO s σ H D I h;refine wpAny_Try_except (vc (wpAny_Assign_Name (iy (he AO s σ H _ _ _ I h (λs1 H1 e' s' I1 cx=>?_)) (λv s1 q=>?_) λe' s1 z=>z) hsw));rotate_left
 .obtain⟨v,H1,I1,rv,q⟩:=q
  exact pG I1 hN hjv hxv rv (λs2 I2=>nj (nj ⟨_,H1,I2,q⟩)) hfv
 obtain⟨y,C',tt,B,H',rfl,os,bare,un,hok,fl,cov,hE⟩:=cx;obtain⟨hC',hts⟩:=hE;cases hC';rw[stk]at fl;have fr:∀b∈dS X.stack,H' b=none:=λb hb=>by
  obtain⟨_,o,ho,hd⟩:=I1.stack.mem hb;exact un.free b o ho (I1.stkFree b hb) (by intro z;cases z)
 have ff:X.A.frames=some (X.env::X.outer):=by rw[I.ok.frames,stk]
 refine wpAny_looks_onW (base:=B) ff hfr fl λh2 held up2=>?_;refine wpAny_landsW (base:=B) held λh3 fl3 up3=>?_;have up:=Lo up2 up3;have I3:=I1.flown os bare un hok cov fr fl3.1 up;refine wpAny_handleBy_cons ?_ (by intro z;cases z);refine codeAny_handlers_test (wT (X:=X.mk1 y []) (I3.mk1 y [] λp hp=>nomatch hp) hgc hmc ?_ hdc);obtain⟨bm,Nn,nm,qn,bs,hdct,sn,sub,ab,col,dd,k0,k1,k2,k3,k5,mN,hC,hNs,hni,T⟩:=Zn I.ok.mod.kin hxC;obtain⟨oe,vs,TT,oT,tts,hoe,⟨hcls,_⟩,hdat,_⟩:=fl3.2.2.2;refine wpAny_excMatches_sub_self (I3.bk _ _ hC) hoe hcls (T.hasType (by decide)) ?_;refine codeAny_handlers_suite (lands_againW (base:=B) fl3 λh4 fl4 up4=>?_);have I4:=I1.flown os bare un hok cov fr fl4.1 (Lo up up4);have I5:aH (X.mk1 y []) AO σ H' _:=I4.mk1 y [] λp hp=>nomatch hp;refine iy (hs y AO _ _ H' _ I5 hts) (λfl s7 q7=>?_) λ_ _ z=>ia z;cases fl with
 |next=>obtain⟨σ',H7,I7,q⟩:=q7;exact⟨_,_,I7.unmk1 I.ok,q⟩
 |brk=>obtain⟨σ',H7,I7,q⟩:=q7;exact⟨_,_,I7.unmk1 I.ok,q⟩
 |cont=>obtain⟨σ',H7,I7,q⟩:=q7;exact⟨_,_,I7.unmk1 I.ok,q⟩
 |ret u=>obtain⟨v,σ',H7,I7,r,q⟩:=q7;exact⟨v,_,_,I7.unmk1 I.ok,r,q⟩
end
end L2
namespace L2.Pp
open PySem PySem.Spec PyProof.Rows Bn
section
variable{K:ae}{cl:Str->Addr}{E:XK}{X:Cx}{a b e:ag}{m me:ME}{ms:MA}{pos pos1 pos2 pos3 pc:ai}{c:Str}{nn:Nat}{AU:Stmt}{body:List Stmt}{newId:String}{up:bY->bY}
theorem L3{jv:Nat}{xv:Str}{posv:ai}{ts:TS}(stk:X.stack=X.env::X.outer)(hN:X.N.Nodup)
  (hgc:Gl X c)(hmc:X.mg c=some (.ref (cl c)))(hxC:gg X.K (cl c) iV newId=true)(he:Du K cl X e me)
  (hjv:X.N[jv]?=some xv)(hxv:jT X.env.scope xv)(hs:∀y,fF (X.mk1 y []) (AU::body) ts)
  (hts:∀(D:lQ)(σ:St)(H:Hp)(p:Ph)(S:aG)(ρ:bY),bF K p S H->σ.length=nn->eM K p H ρ σ->(∀H' σ',dG H H'->eM K p H' (up ρ) σ'->D.nx σ' H')->ts D σ H)
  (hsw:swapsWith e (some (.Name xv posv)) pos1.line X.env=pure false:=by rfl)
  (hfv:X.fn xv=true\/X.env.scope.names.lookup xv=some .local:=by first |exact .inl rfl |exact .inr rfl |assumption)
  (hfr:X.env.frame=some X.env.locals:=by rfl)
  (hdc:(c==("__debug__":Str))=false:=by decide):
  eN K cl E0 X (.Try [.Assign [.Name xv posv] e pos1] [.ExceptHandler (some (.Name c pc)) none (AU::body) pos2] [] [] pos3) (uD me c nn jv up):=by
 intro hK;refine PS.imp (Y8 stk hN hgc hmc hxC (he hK) hjv hxv hs hsw hfv hfr hdc) ?_
 rintro D σ H ⟨p,S,ρ,s,ev,h⟩
 unfold uD at h;split at h
 .rename_i hl
  refine⟨p,S,ρ,s,ev,?_⟩;cases z:me ρ S with
  |ok v S2=>
   simp only[z]at h;intro q2 H2 y st2 sm2 r2;exact h q2 H2 _ st2 sm2 ((st2.repE ev).set r2 jv)
  |exc m S2=>
   simp only[z]at h;split at h
   .rename_i hm
    subst hm;intro q2 H2 st2 sm2;refine⟨rfl,hts D σ H2 q2 S2 ρ sm2 (by rw[<-ev.len];exact hl) (st2.repE ev) λH' σ' hs e'=>h q2 H' σ' (st2.trans (sm2.same hs)) (sm2.ofSame hs) e'⟩
   .exact h.elim
  |fail=>simp only[z]at h;exact h.elim
 .exact h.elim
end
section
variable{M:kq}{A:ao}{E:Value->aa->Prop}{s:aa}{env:bi}
end
end L2.Pp
namespace L2
open PySem PySem.Spec PyProof.Rows Bn L2.Pp
section
variable{P:Program}{w:am}{K:ae}{mg:Str->AH}{base:Heap}{N:List Str}{qual:Str}{scope:Scope}{f:Addr}{cd:Value}{A:ao}{outer:List bi}{AQ:aa}{AR:Hp}{E:XK}
variable{sc:Scope}{own:List Str}{cap:List (Nat×Str)}{AO:List (Addr×Obj)}{σ:St}{H:Hp}{s:aa}{elt target iter:ag}{pos pos':ai}{wi:TI}{g:TG}{te:TE}{Q:VK}
end
end L2
namespace L2.Pp
open PySem PySem.Spec PyProof.Rows Bn
section
variable{P:Program}{w:am}{K:ae}{mg:Str->AH}{base:Heap}{N:List Str}{qual:Str}{scope:Scope}{f:Addr}{cd:Value}{A:ao}{outer:List bi}{AQ:aa}{AR:Hp}{E:XK}{cl:Str->Addr}
variable{sc:Scope}{own:List Str}{cap:List (Nat×Str)}{elt target iter:ag}{pos:ai}{mi:MI}{g:GM}{me:ME}
end
section
variable{K:ae}
end
section
variable{K:ae}{X:Cx}
end
end L2.Pp
namespace L2
open PySem PySem.Spec PyProof.Rows Bn
section
variable{prog:Program}{w:am}{A:ao}{R:qd->aa->Prop}{s:aa}
end
section
variable{X:Cx}{sc:Scope}{own:List Str}{cap:List (Nat×Str)}{AO:List (Addr×Obj)}{σ:St}{H:Hp}{s:aa}{elt target iter cnd:ag}{pos pos':ai}{wi:TI}{g:TG}{tc:TT}{te:TE}{Q:VK}
end
end L2
namespace L2.Pp
open PySem PySem.Spec PyProof.Rows Bn
theorem n1{n i:Nat}{P:Prop}(h:i<n)(p:P):∃m',m'<n-i/\(m'=n-(i+1)/\i+1<=n/\P):=⟨n-(i+1),by omega,rfl,h,p⟩
section
variable{K:ae}{cl:Str->Addr}{E:XK}{X:Cx}{p q:Ph}{H H':Hp}{S:aG}{sc:Scope}{own:List Str}{cap:List (Nat×Str)}{elt target iter cnd:ag}{pos:ai}{mi:MI}{g:GM}{mc:MT}{me:ME}
end
end L2.Pp
namespace L2
open PySem PySem.Spec PyProof.Rows Bn
open L2.Pp
section
variable{X:Cx}{AO:List (Addr×Obj)}{σ:St}{H:Hp}{s:aa}{c:Addr->Prop}{a b:Addr}{n:Bool}{k:rT n}{ks:AK}{us:AG}
theorem Lc:∀{ps:AK}{vs:List V}{i:Nat}{v:V},aU X.K c H ps vs->vs[i]?=some v->∃p,ps[i]?=some p/\aW X.K c H p v:=λ{ps vs i v} r e=>by
 have hi:i<ps.length:=by
  rw[r.length];exact(da.mp e).1
 obtain⟨u,e1,e2⟩:=r.get (av hi);rw[e]at e1;cases e1;exact⟨_,av hi,e2⟩
end
end L2
namespace L2.Pp
open PySem PySem.Spec PyProof.Rows Bn
section
variable{K:ae}{cl:Str->Addr}{E:XK}{X:Cx}{p q:Ph}{H H':Hp}{S:aG}{a b e o i v:ag}{es:List ag}{m md mk mv:ME}{ms:MA}{pos:ai}
end
end L2.Pp
namespace L2
open PySem PySem.Spec PyProof.Rows Bn L2.Pp
section
variable{prog:Program}{w:am}{A:ao}{E:Value->aa->Prop}{s:aa}{it d i ep:Nat}{es:Array DictEntry}
end
section
variable{X:Cx}
end
section
variable{prog:Program}{w:am}{A:ao}{E:Value->aa->Prop}{s:aa}{v d ep:Nat}{es:Array DictEntry}
end
section
variable{X:Cx}
end
end L2
namespace L2.Pp
open PySem PySem.Spec PyProof.Rows Bn
section
variable{K:ae}{cl:Str->Addr}{E:XK}{X:Cx}{p q:Ph}{H H':Hp}{S:aG}{a b e o i v:ag}{es:List ag}{m md mk mv:ME}{ms:MA}{pos:ai}
end
end L2.Pp
namespace L2
open PySem PySem.Spec PyProof.Rows Bn
section
variable{X:Cx}
end
section
variable{X:Cx}{sc:Scope}{own:List Str}{cap:List (Nat×Str)}{AO:List (Addr×Obj)}{σ:St}{H:Hp}{s:aa}{elt target iter:ag}{pos pos':ai}{wi:TI}{g:TG}{te:TE}{Q:VK}
end
end L2
namespace L2.Pp
open PySem PySem.Spec PyProof.Rows Bn
section
variable{K:ae}{cl:Str->Addr}{E:XK}{X:Cx}{p q:Ph}{H H':Hp}{S:aG}{a b e o i v:ag}{es:List ag}{m ma mb md mk mv:ME}{ms:MA}{pos:ai}
variable{sc:Scope}{own:List Str}{cap:List (Nat×Str)}{elt target iter:ag}{mi:MI}{g:GM}{me:ME}
end
def iW(ma mb:ME):ME:=λρ S=>(ma ρ S).bind λx S1=>(mb ρ S1).bind λy S2=>match rd S2 x,rd S2 y with
 |some (.lst xs),some (.lst ys)=>if xs.length+ys.length<=16777216 then .ok (.ref S2.length) (S2++[.lst (xs++ys)])else .fail
 |_,_=>.fail
section
variable{K:ae}{cl:Str->Addr}{E:XK}{X:Cx}{a b:ag}{ma mb:ME}{pos:ai}
theorem N7(ha:aX K cl E X a ma)(hb:aX K cl E X b mb):aX K cl E X (.BinOp a .Add b pos) (iW ma mb):=by
 intro hK;subst hK;refine PE.imp (Wr Xn (ha rfl) (hb rfl)) ?_
 rintro σ H Q ⟨p,S,ρ,s,e,h⟩
 refine cK s e h λq H1 x u S1 st s1 e1 r1 h1=>cK s1 e1 h1 λq2 H2 y w S2 st2 s2 e2 r2 h2=>?_;have r1:=st2.repA r1;cases z1:rd S2 x with
 |none=>simp only[z1]at h2;exact h2.elim
 |some vx=>
  cases z2:rd S2 y with
  |none=>simp only[z1,z2]at h2;exact h2.elim
  |some vy=>
   simp only[z1,z2]at h2;cases vx with
   |lst xs=>
    cases vy with
    |lst ys=>
     dsimp only at h2
     by_cases hl:xs.length+ys.length<=16777216
     .rw[if_pos hl]at h2
      obtain⟨a1,vs,rfl,l1,_,rr⟩:=(lH s2 r1 z1).lst;obtain⟨a2,ws,rfl,l2,_,rw'⟩:=(lH s2 r2 z2).lst;have hz:vs.length+ws.length<=sizeLine:=by rw[<-rr.length,<-rw'.length,jF];exact hl
      refine .inr (.inl ⟨a1,a2,vs,ws,rfl,rfl,l1,l2,hz,λt ht=>?_⟩);obtain⟨fH,sm3⟩:=s2.push ht (by rw[ca];exact hz) (rr.append rw');exact h2 _ _ (.ref t) fH sm3 ⟨t,by show(q2.f++[t])[S2.length]?=some t;rw[<-s2.len,ib (aq _),lb];rfl,rfl⟩
     .rw[if_neg hl]at h2
      exact h2.elim
    |_=>exact h2.elim
   |_=>cases vy<;>exact h2.elim
end
section
variable{P:Program}{w:am}{K:ae}{mg:Str->AH}{base:Heap}{cl:Str->Addr}{x qual:Str}{st:Stmt}{f:Addr}{fd:br}{N ps:List Str}{k np n:Nat}{b:MS}
variable{so sc sc1:Scope}{own own1:List Str}{cap cap1:List (Nat×Str)}{cd:Value}{A:ao}{outer:List bi}{s:aa}{H:Hp}{E:XK}{C:Addr}{AQ:aa}{AR:Hp}{ex:List Addr}
theorem Sr(a:sc.kind=.function:=by rfl)(b:∀y∈sc.names,y.2=.local->sc.names.lookup y.1=some .local:=by decide+kernel)(c:∀y∈sc.names,y.2≠.cell:=by decide+kernel)(d:∀y∈sc.names,y.2=.free->so.names.lookup y.1=some .cell:=by decide+kernel)(e:∀p∈cap,N[p.1]?=some p.2:=by decide+kernel)(g:∀p∈cap,sc.names.lookup p.2=some .free:=by decide+kernel):iM (dF fV P w K mg base N qual so f cd A outer s H E).nox sc own cap:=Ip so N rfl rfl a b c d e g
theorem aa7(a:sc.kind=.function:=by rfl)(b:∀y∈sc.names,y.2=.local->sc.names.lookup y.1=some .local:=by decide+kernel)(c:∀y∈sc.names,y.2=.cell->sc.names.lookup y.1=some .cell:=by decide+kernel)(d:∀y∈sc.names,y.2=.free->so.names.lookup y.1=some .cell:=by decide+kernel)(e:∀p∈cap,N[p.1]?=some p.2:=by decide+kernel)(g:∀p∈cap,sc.names.lookup p.2=some .free:=by decide+kernel):nU (dF fV P w K mg base N qual so f cd A outer s H E).nox sc own cap:=S5 so N rfl rfl a b c d e g
theorem Kp(a:sc.kind=.function:=by rfl)(b:∀y∈sc.names,y.2=.local->sc.names.lookup y.1=some .local:=by decide+kernel)(c:∀y∈sc.names,y.2≠.cell:=by decide+kernel)(d:∀y∈sc.names,y.2=.free->sc1.names.lookup y.1=some .free/\so.names.lookup y.1=some .cell:=by decide+kernel)(e:∀p∈cap,(dH own1 cap1)[p.1]?=some p.2:=by decide+kernel)(g:∀p∈cap,sc.names.lookup p.2=some .free:=by decide+kernel)(hk:so.kind=.function:=by rfl):iM (gL (dF fV P w K mg base N qual so f cd A outer s H E).nox sc1 (dH own1 cap1) C AQ AR ex) sc own cap:=O8 so rfl hk a b c d e g
theorem Bp(a:sc.kind=.function:=by rfl)(b:∀y∈sc.names,y.2=.local->sc.names.lookup y.1=some .local:=by decide+kernel)(c:∀y∈sc.names,y.2≠.cell:=by decide+kernel)(d:∀y∈sc.names,y.2=.free->sc1.names.lookup y.1=some .cell\/(sc1.names.lookup y.1=some .free/\so.names.lookup y.1=some .cell):=by decide+kernel)(e:∀p∈cap,(dH own1 cap1)[p.1]?=some p.2:=by decide+kernel)(g:∀p∈cap,sc.names.lookup p.2=some .free:=by decide+kernel)(hk:so.kind=.function:=by rfl):iM (iH (dF fV P w K mg base N qual so f cd A outer s H E).nox sc1 (dH own1 cap1) C AQ AR ex) sc own cap:=Q8 so rfl hk a b c d e g
theorem cC{N ps:List Str}{sc:Scope}(a:sc.kind=.function:=by rfl)(b:sc.isCoroutine=false:=by rfl)(c:sc.isGenerator=false:=by rfl)(d:N.Nodup:=by decide+kernel)(e:N.take ps.length=ps:=by rfl)(f:∀x∈ps,sc.names.lookup x=some .local\/sc.names.lookup x=some .cell:=by decide+kernel)(g:∀y∈sc.names,y.2≠.free:=by decide+kernel):jI N ps sc:=⟨a,b,c,d,e,f,g⟩
def yM(P:Program)(w:am)(K:ae)(mg:Str->AH)(base:Heap)(cl:Str->Addr)(x:Str)(k:Nat)(ps:List Str)(g:FM):Prop:=∃(a:Addr)(d:br),eD P w K mg base (dA P w) k a d ps (kJ K cl g)/\eD P w K mg base fV k a d ps (lO K cl g)/\gO K d ps []/\dq K (.ref a)=true/\mg x=some (.ref a)
theorem Ye{g:FM}{a:Addr}{d:br}(G:eD P w K mg base (dA P w) k a d ps (kJ K cl g))(b:gO K d ps [])(kp:dq K (.ref a)=true)(n:mg x=some (.ref a)):yM P w K mg base cl x k ps g:=⟨_,_,G,x0 G,b,kp,n⟩
theorem adk{X:Cx}{e:ag}{es:List ag}{ms:MA}{pos p:ai}{k0:Nat}{g:FM}(C:yM X.prog X.w X.K X.mg X.base cl x k ps g)(hr:dQ k0 X.A)(hk:k<=k0)(hg:Gl X x)(ha:fI X.K cl E0 X (e::es) ms)(hdb:(x==("__debug__":Str))=false:=by decide)(he:starEach (e::es) X.env=(false,eval e X.env)::starEach es X.env:=by rfl)(hpl:(backTo pos (starEach es X.env)).any (·.1)=false:=by rfl):
  aX X.K cl E0 X (.Call (.Name x p) (e::es) [] pos) (gM g [] ms):=by
 obtain⟨a,d,_,G,b,kk,n⟩:=C;exact aap G (hr.mono hk) hg n kk b .nil Dv.nil ha hdb he hpl
end
structure Bx where
 P:Program
 w:am
 K:ae
 mg:Str->AH
 base:Heap
 cl:Str->Addr
abbrev cH(B:Bx)(x:Str)(k:Nat)(ps:List Str)(g:FM):Prop:=Lf B.P B.w B.K B.mg B.base B.cl x k ps g
abbrev uW(B:Bx)(x:Str)(k:Nat)(ps:List Str)(g:FM):Prop:=yM B.P B.w B.K B.mg B.base B.cl x k ps g
def HF(K:ae)(x:Str)(st:Stmt):Prop:=∃(f:Addr)(fd:br),dh K mainGlobals x=some (some (.ref f))/\jB K x x st f fd
def XG(K:ae)(mg:Str->AH):Prop:=∃h:Heap,K.In h/\h.Ns mainGlobals mg
section
variable{B:Bx}{x:Str}{st:Stmt}{f:Addr}{fd:br}{N ps:List Str}{k np n:Nat}{b:MS}
theorem Zo(X:XG B.K B.mg)(q:HF B.K x st):∃f fd,jB B.K x x st f fd/\dq B.K (.ref f)=true/\B.mg x=some (.ref f):=by
 obtain⟨f,fd,a,F⟩:=q;obtain⟨h,X,G⟩:=X;exact⟨f,fd,F,F.kp,mf X G a⟩
theorem ach{K:ae}{oc:Value}{od an:AI}{osl:Array AH}{kV doc pm cdv ct:Value}(a:dh K mainGlobals x=some (some (.ref f)))(l:K.lookup f=some ⟨oc,od,.func (dy x x (gJ st) (fB st) (cV st) .none kV doc pm an cdv ct),osl⟩)
  (c:jo K cdv x=true)(k:dq K (.ref f)=true):HF K x st:=⟨_,_,a,Wo l c k⟩
theorem Hu(F:jB B.K x x st f fd)(h:∀(kV doc pm:Value)(an:AI)(cdv ct:Value)(us:AG),us.length=ps.length->bindArgs (dy x x (gJ st) (fB st) (cV st) .none kV doc pm an cdv ct) ⟨us,[]⟩=pure (ps.zip us)):gO B.K fd ps []:=F.binds λkV doc pm an cdv ct us hl=>h kV doc pm an cdv ct us hl
theorem cJ(X:XG B.K B.mg)(q:HF B.K x st)(S:jI N ps (cV st))(hb:N.Nodup->∀(f:Addr)(cdv:Value)(A:ao)(outer:List bi)(s:aa)(H:Hp)(E:XK),dQ k (A.deeper (envOfC x (cV st) s.heap.objs.size f cdv))->fX B.K B.cl E0 (dF fV B.P B.w B.K B.mg B.base N x (cV st) f cdv A outer s H E).nox (fB st) b)(hnp:ps.length=np:=by rfl)(hn:N.length=n:=by rfl)
  (h:∀(kV doc pm:Value)(an:AI)(cdv ct:Value)(us:AG),us.length=ps.length->bindArgs (dy x x (gJ st) (fB st) (cV st) .none kV doc pm an cdv ct) ⟨us,[]⟩=pure (ps.zip us):=by intro _ _ _ _ _ _ us h;rcases us with _ |⟨_,_ |⟨_,_ |⟨_,_ |⟨_,_ |⟨_,_ |⟨_,_⟩⟩⟩⟩⟩⟩<;>first |(cases h;done) |rfl |(simp at h)):cH B x (k+1) ps (aR np n b):=by
 obtain⟨f,fd,F,kp,m⟩:=Zo X q;exact⟨f,fd,Iu F S hnp hn λcdv A outer s H E hr=>hb S.nd f cdv A outer s H E hr,Hu F h,kp,m⟩
theorem Lu(X:XG B.K B.mg)(q:HF B.K x st)(S:jI N ps (cV st))(hb:N.Nodup->∀(f:Addr)(cdv:Value)(A:ao)(outer:List bi)(s:aa)(H:Hp)(E:XK),dQ k (A.deeper (envOfC x (cV st) s.heap.objs.size f cdv))->fX B.K B.cl E (dF (dA B.P B.w) B.P B.w B.K B.mg B.base N x (cV st) f cdv A outer s H E) (fB st) b)(hnp:ps.length=np:=by rfl)(hn:N.length=n:=by rfl)
  (h:∀(kV doc pm:Value)(an:AI)(cdv ct:Value)(us:AG),us.length=ps.length->bindArgs (dy x x (gJ st) (fB st) (cV st) .none kV doc pm an cdv ct) ⟨us,[]⟩=pure (ps.zip us):=by intro _ _ _ _ _ _ us h;rcases us with _ |⟨_,_ |⟨_,_ |⟨_,_ |⟨_,_ |⟨_,_ |⟨_,_⟩⟩⟩⟩⟩⟩<;>first |(cases h;done) |rfl |(simp at h)):uW B x (k+1) ps (aR np n b):=by
 obtain⟨f,fd,F,kp,m⟩:=Zo X q;exact Ye (okX F S hnp hn λcdv A outer s H E hr=>hb S.nd f cdv A outer s H E hr) (Hu F h) kp m
theorem mkR(F:jB B.K x x st f fd)(S:jI N ps (cV st))(hb:N.Nodup->∀(f:Addr)(cdv:Value)(A:ao)(outer:List bi)(s:aa)(H:Hp)(E:XK),dQ k (A.deeper (envOfC x (cV st) s.heap.objs.size f cdv))->fX B.K B.cl E0 (dF fV B.P B.w B.K B.mg B.base N x (cV st) f cdv A outer s H E).nox (fB st) b)(hnp:ps.length=np:=by rfl)(hn:N.length=n:=by rfl):eD B.P B.w B.K B.mg B.base fV (k+1) f fd ps (lO B.K B.cl (aR np n b)):=Iu F S hnp hn λcdv A outer s H E hr=>hb S.nd f cdv A outer s H E hr
theorem Ut{dsv:Array Value}(F:mT B.K x x st f fd dsv)(S:jI N ps (cV st))(hb:N.Nodup->∀(f:Addr)(cdv:Value)(A:ao)(outer:List bi)(s:aa)(H:Hp)(E:XK),dQ k (A.deeper (envOfC x (cV st) s.heap.objs.size f cdv))->fX B.K B.cl E (dF (dA B.P B.w) B.P B.w B.K B.mg B.base N x (cV st) f cdv A outer s H E) (fB st) b)(hnp:ps.length=np:=by rfl)(hn:N.length=n:=by rfl):eD B.P B.w B.K B.mg B.base (dA B.P B.w) (k+1) f fd ps (kJ B.K B.cl (aR np n b)):=adX F S hnp hn λcdv A outer s H E hr=>hb S.nd f cdv A outer s H E hr
section
variable{X:Cx}{cl:Str->Addr}{E:XK}{e:ag}{es:List ag}{ms:MA}{pos p:ai}{k0:Nat}{g:FM}{dv:AK}
end
section
variable{P:Program}{w:am}{K:ae}{mg:Str->AH}{base:Heap}{qual:Str}{so sc:Scope}{own:List Str}{cap:List (Nat×Str)}{cd:Value}{A:ao}{outer:List bi}{s:aa}{H:Hp}{E:XK}
theorem Yp(a:sc.kind=.function:=by rfl)(b:∀y∈sc.names,y.2=.local->sc.names.lookup y.1=some .local:=by decide+kernel)(c:∀y∈sc.names,y.2≠.cell:=by decide+kernel)(d:∀y∈sc.names,y.2=.free->so.names.lookup y.1=some .cell:=by decide+kernel)(e:∀p∈cap,N[p.1]?=some p.2:=by decide+kernel)(g:∀p∈cap,sc.names.lookup p.2=some .free:=by decide+kernel):iM (dF (dA P w) P w K mg base N qual so f cd A outer s H E) sc own cap:=Ip so N rfl rfl a b c d e g
end
end
section
variable{P:Program}{w:am}{K:ae}{mg:Str->AH}{base:Heap}{cl:Str->Addr}{E:XK}{x:Str}{k k0:Nat}{ps:List Str}{g:FM}{e:ag}{es:List ag}{ms:MA}{pos p:ai}
theorem acd{N:List Str}{qual:Str}{scope:Scope}{fo:Addr}{cd:Value}{A:ao}{outer:List bi}{AQ:aa}{AR:Hp}(C:yM P w K mg base cl x k ps g)(hr:dQ k0 (dF (dA P w) P w K mg base N qual scope fo cd A outer AQ AR E).A)(hk:k<=k0)(hg:Gl (dF (dA P w) P w K mg base N qual scope fo cd A outer AQ AR E) x)
  (ha:fI K cl E (dF (dA P w) P w K mg base N qual scope fo cd A outer AQ AR E) (e::es) ms)(hdb:(x==("__debug__":Str))=false:=by decide)
  (he:starEach (e::es) (dF (dA P w) P w K mg base N qual scope fo cd A outer AQ AR E).env=(false,eval e (dF (dA P w) P w K mg base N qual scope fo cd A outer AQ AR E).env)::starEach es (dF (dA P w) P w K mg base N qual scope fo cd A outer AQ AR E).env:=by rfl)
  (hpl:(backTo pos (starEach es (dF (dA P w) P w K mg base N qual scope fo cd A outer AQ AR E).env)).any (·.1)=false:=by rfl):
  aX K cl E (dF (dA P w) P w K mg base N qual scope fo cd A outer AQ AR E) (.Call (.Name x p) (e::es) [] pos) (gM g [] ms):=by
 obtain⟨a,d,GX,_,b,kk,n⟩:=C;exact F5 GX (hr.mono hk) hg n kk b .nil Dv.nil ha hdb he hpl
end
end L2.Pp
namespace L2
open PySem PySem.Spec PySem.W PyProof.Rows Bn
section
variable{K:ae}{x D C:Addr}
end
section
variable{X:Cx}{p pos pos1 pos2 pos3 pos4 pc pd:ai}{e:ag}{te:XK->TE}{c1 c2 n:Str}{C1 C2:Addr}{i:Nat}{b₁ b₂:Stmt}{body1 body2:List Stmt}{newId1 newId2:String}
end
end L2
namespace L2.Pp
open PySem PySem.Spec PyProof.Rows Bn
section
variable{K:ae}{cl:Str->Addr}{E:XK}{X:Cx}{p pos pos1 pos2 pos3 pos4 pc pd:ai}{e:ag}{me:ME}{c1 c2 n:Str}{i nn:Nat}{b₁ b₂:Stmt}{body1 body2:List Stmt}{newId1 newId2:String}{up1 up2:bY->bY}
end
end L2.Pp
namespace L2
open PySem PySem.Spec PyProof.Rows Bn
section
open PySem.W (KasT kas_sort kas_asc kas_desc kas_rev kas_tail3 kas_descPart kas_count kas_place kas_bin)
section
variable{lt:Nat->Nat->Bool}{n:Nat}
end
section
variable{α:Type}{lt:α->α->Bool}
def ins(lt:α->α->Bool)(x:α):List α->List α
 |[]=>[x]
 |y::r=>if lt x y then x::y::r else y::ins lt x r
end
end
section
open PySem.W (KasT kas_sort kas_ask KatTups kat_run kat_kind kas_item kat_snds KdlSrc kdl_extend)
section
variable{prog:Program}{w:am}{A:ao}{E:Value->aa->Prop}{s:aa}
end
end
open L2.Pp
section
variable{X:Cx}{AO:List (Addr×Obj)}{σ:St}{H:Hp}{s:aa}
end
end L2
namespace L2.Pp
open PySem PySem.Spec PyProof.Rows Bn
section
variable{K:ae}
end
section
variable{K:ae}{cl:Str->Addr}{E:XK}{X:Cx}{p q:Ph}{H H':Hp}{S:aG}{a b e o i v:ag}{es:List ag}{m md mk mv:ME}{ms:MA}{pos:ai}
end
end L2.Pp
namespace L2
open PySem PySem.Spec PyProof.Rows Bn
open L2.Pp
section
variable{prog:Program}{w:am}{K:Type}[DecidableEq K]{knd:HeapKind prog w K}{A:ao}{E:Value->aa->Prop}{s:aa}{d a:Addr}{k:K}{xs:List (K×Addr×Value)}
end
section
variable{X:Cx}{AO:List (Addr×Obj)}{σ:St}{H:Hp}{s:aa}
end
end L2
namespace L2.Pp
open PySem PySem.Spec PyProof.Rows Bn
section
variable{K:ae}{cl:Str->Addr}{E:XK}{X:Cx}{p q:Ph}{H H':Hp}{S:aG}{e:ag}{es:List ag}{m md mk mv:ME}{ms:MA}{pos:ai}
end
section
variable{K:ae}{cl:Str->Addr}{E:XK}{X:Cx}{p q:Ph}{H H':Hp}{S:aG}{a b e o i v:ag}{es:List ag}{m md mk mv:ME}{ms:MA}{pos:ai}
end
theorem B6{K:ae}{cl:Str->Addr}{E:XK}{X:Cx}{st:List Stmt}:fX K cl E X st (λ_ _=>.fail):=λ_ AO s σ H D I ⟨_,_,_,_,_,h⟩=>h.elim
end L2.Pp
namespace L2
theorem aay(K:ae):ka K (.type "int") (.type "tuple")=some false:=by
 unfold ka f7;rw[if_neg (by decide)];show(if g5 "tuple"=true then g6 K (.type "int") (.type "tuple")else none)=some false;rw[if_pos (by decide+kernel)];show(PySem.fastBuiltinMro "int").map (·.contains (.type "tuple"))=some false;decide+kernel
end L2
namespace L2.Pp
open PySem PySem.Spec PyProof.Rows Bn
def pY:PV->AL
 |.int _=>some (.bl false)
 |.tup _=>some (.bl true)
 |_=>none
section
variable{K:ae}{cl:Str->Addr}{E:XK}{X:Cx}{a:ag}{m:ME}{pos:ai}
theorem aaI:uQ K (Te K "tuple") pY:=λ{p S H a c x Q} s ra e k=>by
 have fin:∀b,c=.bl b->Q (.bl b) H:=λb h=>by
  subst h;exact k H _ (dG.refl H) (by unfold aW;rfl)
 cases a with
 |int i=>
  cases ra.int;cases e;exact .inl ⟨_,false,.int i,aay K,fin _ rfl⟩
 |tup xs=>
  obtain⟨a,vs,rfl,t,_,_⟩:=ra.tup;cases e;exact .inr (.inl ⟨rfl,a,vs,rfl,t,fin _ rfl⟩)
 |_=>cases e
theorem W9{t:Str}{p p2:ai}(hg:Gl X "isinstance")(hm:X.mg "isinstance"=none)(hgt:Gl X t)(hmt:X.mg t=none)(hv:bootBuiltins t=some (.type "tuple"))(ha:aX K cl E X a m)
  (htn:t≠"__name__":=by decide)(htd:(t==("__debug__":Str))=false:=by decide)
  (he:starEach [a,.Name t p2] X.env=(false,eval a X.env)::starEach [.Name t p2] X.env:=by rfl)(he2:starEach [.Name t p2] X.env=[(false,eval (.Name t p2) X.env)]:=by rfl)(hpl:(backTo pos (starEach [.Name t p2] X.env)).any (·.1)=false:=by rfl):
  aX K cl E X (.Call (.Name "isinstance" p) [a,.Name t p2] [] pos) (bG pY m):=by
 intro hK;subst hK;refine PE.imp (Sb (Jj "tuple") hg hm j8 (nR (ha rfl) (nR (Hn hgt hmt hv (v:=.ty "tuple") rfl htn htd) tT he2) he) (by decide) (by decide) he hpl) ?_
 rintro σ H Q ⟨p,S,ρ,s,ev,h⟩
 exact cK s ev h λq H' as x S' stp sm ev r k=>⟨x,rfl,qY aaI sm r k⟩
end
end L2.Pp
namespace L2
open PySem PySem.Spec PyProof.Rows Bn
open L2.Pp
open PySem.W (KatLex KatTups)
section
variable{prog:Program}{w:am}{A:ao}{E:Value->aa->Prop}{s:aa}
end
section
variable{X:Cx}{AO:List (Addr×Obj)}{σ:St}{H:Hp}{s:aa}
end
end L2
namespace L2.Pp
open PySem PySem.Spec PyProof.Rows Bn
section
variable{K:ae}
end
section
variable{K:ae}{cl:Str->Addr}{E:XK}{X:Cx}{e:ag}{ms:MA}{pos:ai}
end
section
variable{prog:Program}{w:am}{A:ao}{E:Value->aa->Prop}{s:aa}
end
section
open PySem.AutoSeq1 (wpAny_loadPart')
open PySem.MeetsSeq PySem.MeetsSeq2 PySem.MeetsSeq3 PySem.SeqRoads2
end
section
variable{K:ae}{cl:Str->Addr}{E:XK}{X:Cx}
variable{a e:ag}{m:ME}{ms:MA}{pos:ai}
end
section
variable{K:ae}{cl:Str->Addr}{E:XK}{X:Cx}
end
end L2.Pp
namespace L2
end L2
namespace L2.Pp
open PySem PySem.Spec PyProof.Rows Bn
section
variable{K:ae}{cl:Str->Addr}{E:XK}{X:Cx}{a:ag}{m:ME}{pos:ai}
end
section
variable(K:ae)(cl:Str->Addr)(E:XK)(X:Cx)
def tS0(b:Nat->MS):TS:=λD σ H=>∃p0 H0 S0 p S ρ,bF K p0 S0 H0/\cG p0 H0 p H/\bF K p S H/\eM K p H ρ σ/\dR K cl p0 H0 (b S0.length ρ S) D E
def rZ(st:List Stmt)(b:Nat->MS):Prop:=X.K=K->fF X st (tS0 K cl E b)
end
def uL(b:Nat->MS):MS:=λρ S=>b S.length ρ S
def lK(a:MS)(b:Nat->MS):Nat->MS:=λn=>aI a (b n)
def sD(i:Nat)(me:ME):Nat->MS:=λn ρ S=>match ρ[i]? with
 |some (some (.ref k))=>cP.of (me ρ S) λv S2=>match v,S2[k]? with
  |.pv w,some (.lst xs)=>if n<=k then .rt (.pv (.tup [.lst xs,w])) (S2.take n)else .fail
  |_,_=>.fail
 |_=>.fail
section
variable{K:ae}{cl:Str->Addr}{E:XK}{X:Cx}{e:ag}{st:Stmt}{sts:List Stmt}{b1:MS}{b2:Nat->MS}{m:ME}{pos:ai}
theorem M8{b:Nat->MS}(h:rZ K cl E X sts b):fX K cl E X sts (uL b):=λhK=>fF.imp (h hK) λD σ H ⟨p,S,ρ,s,e,h⟩=>⟨p,H,S,p,S,ρ,s,s.step,s,e,h⟩
theorem Qz(h1:eN K cl E X st b1)(h2:rZ K cl E X sts b2):rZ K cl E X (st::sts) (lK b1 b2):=by
 intro hK;subst hK;refine fF.imp (Kk (h1 rfl) (h2 rfl)) λD σ H ⟨p0,H0,S0,p,S,ρ,s0,st0,s,e,h⟩=>⟨p,S,ρ,s,e,?_⟩;unfold lK aI at h;cases z:b1 ρ S with
 |nx ρ1 S1=>
  rw[z]at h;exact λq H' σ' stp sm ev=>⟨p0,H0,S0,q,S1,ρ1,s0,st0.trans stp,sm,ev,h⟩
 |bk ρ1 S1=>rw[z]at h;exact dR.mono (r:=.bk ρ1 S1) h st0
 |ct ρ1 S1=>rw[z]at h;exact dR.mono (r:=.ct ρ1 S1) h st0
 |rt v S1=>rw[z]at h;exact dR.mono (r:=.rt v S1) h st0
 |exc n S1=>rw[z]at h;exact dR.mono (r:=.exc n S1) h st0
 |fail=>rw[z]at h;exact h
theorem J4(i:Nat){x:Str}{x1:Nat}{p1 p2:ai}(he:aX K cl E X e m)(hN:X.N[i]?=some x:=by rfl)(hv:sE X.env.scope x:=by first |exact gq rfl |exact fy (gq rfl) |exact fy (fy rfl))(hd:(x==("__debug__":Str))=false:=by decide)
  (hcd:(x==("__classdict__":Str))=false:=by decide)(he1:starEach [.Name x p1,e] X.env=(false,eval (.Name x p1) X.env)::starEach [e] X.env:=by rfl)(he2:starEach [e] X.env=[(false,eval e X.env)]:=by rfl):rZ K cl E X [.Return (some (.Tuple [.Name x p1,e] x1 p2)) pos] (sD i m):=by
 intro hK;subst hK;refine fF.imp (Oc (Op (Wq (nR (Pd hN hv hd hcd) (nR (he rfl) tT he2) he1)))) ?_
 rintro D σ H ⟨p0,H0,S0,p,S,ρ,s0,st0,s,ev,h⟩
 unfold sD at h;split at h
 .rename_i k z
  obtain⟨y,e1,a,e2,rfl⟩:=ev.at_ i _ z;refine⟨.ref a,e1,p,S,ρ,s,ev,?_⟩;cases zm:m ρ S with
  |fail=>rw[zm]at h;exact h
  |exc n S2=>
   rw[zm]at h;exact λq H' stp sm=>h q H' (st0.trans stp) sm
  |ok v S2=>
   rw[zm]at h;dsimp only[cP.of]at h;intro q H1 y stp sm r;split at h
   .rename_i w xs zk
    split at h
    .rename_i hk
     refine⟨show 2<=sizeLine by decide,λt ht=>?_⟩;have sa:=gX (o:=.tup [.ref a,y]) ht;have st1:=(st0.trans stp).trans (sm.same sa);have sm1:=sm.ofSame sa;have ea:q.f[k]?=some a:=stp.at_ e2;obtain⟨na,hn,nc⟩:=Za s0 st1 sm1 ea (by omega);obtain⟨st2,sm2⟩:=s0.cutX (λb=>b=a) st1 sm1 (λb d=>d▸hn) (.inl λb d=>d▸ic ea);obtain⟨vs,h1,l,r1⟩:=sm1.obj k a _ ea zk;refine h _ _ (.ref t) st2 sm2 ?_;show aW X.K (λb=>q.c b/\¬b=a) _ (.tup [.lst xs,w]) (.ref t);unfold aW;refine⟨t,[.ref a,y],rfl,dJ.of jG,show 2<=sizeLine by decide,.cons ?_ (.cons ?_ .nil)⟩
     .unfold aW
      exact⟨a,vs,rfl,.inl ⟨h1,λd=>d.2 rfl⟩,l,sP (λb h=>h.1) r1⟩
     .exact Ei (λb h=>h.1) ((sm.same sa).rep r)
    .exact h.elim
   .exact h.elim
 .exact h.elim
end
theorem aaM:bootBuiltins "len"=some (.builtin "len"):=by decide+kernel
theorem aaY:bootBuiltins "abs"=some (.builtin "abs"):=by decide+kernel
theorem aax:bootBuiltins "all"=some (.builtin "all"):=by decide+kernel
theorem abl:bootBuiltins "sum"=some (.builtin "sum"):=by decide+kernel
theorem aaU:bootBuiltins "min"=some (.builtin "min"):=by decide+kernel
theorem aa4:bootBuiltins "max"=some (.builtin "max"):=by decide+kernel
theorem Bz:bootBuiltins "sorted"=some (.builtin "sorted"):=by decide+kernel
theorem Cp:bootBuiltins "int"=some (.type "int"):=by decide+kernel
theorem U3:bootBuiltins "bool"=some (.type "bool"):=by decide+kernel
theorem aaq:bootBuiltins "list"=some (.type "list"):=by decide+kernel
theorem Zk:bootBuiltins "tuple"=some (.type "tuple"):=by decide+kernel
end L2.Pp
set_option Elab.async false
set_option compiler.extract_closed false
set_option bootstrap.genMatcherCode false
set_option maxRecDepth 100000
set_option maxHeartbeats 4000000
namespace Sc
noncomputable section
open PySem L2 Bn L2.Pp
abbrev Ep:Stmt:=aV 6
abbrev Li:Stmt:=aV 7
abbrev Kj:Stmt:=aV 8
abbrev sT:Stmt:=aV 9
abbrev Bj:Stmt:=aV 10
abbrev El:Stmt:=aV 11
abbrev tL:Stmt:=aV 13
abbrev Uh:Stmt:=aV 14
abbrev Ih:Stmt:=aV 15
abbrev Fo:Stmt:=aV 16
abbrev Xk:Stmt:=aV 18
abbrev Sh:Stmt:=aV 17
abbrev Fg:Stmt:=aV 19
abbrev Qs:Stmt:=aV 20
abbrev Vj:Stmt:=aV 21
abbrev Ig:Stmt:=aV 22
abbrev Po:Stmt:=aV 23
abbrev Ci:Stmt:=aV 25
abbrev Vh:Stmt:=aV 26
abbrev Kh:Stmt:=aV 28
abbrev Rn:Stmt:=aV 30
abbrev Oh:Stmt:=aV 31
abbrev Xl:Stmt:=aV 32
abbrev Tf:Stmt:=aV 33
abbrev Qg:Stmt:=aV 34
abbrev Ql:Stmt:=aV 35
abbrev Wp:Stmt:=aV 37
abbrev Kn:Stmt:=aV 38
abbrev Mq:Stmt:=aV 39
abbrev Mi:Stmt:=aV 40
abbrev Cm:Stmt:=aV 41
abbrev Vm:Stmt:=aV 42
abbrev Aq:Stmt:=aV 43
abbrev Kl:Stmt:=aV 44
abbrev Dj:Stmt:=aV 45
abbrev Dq:Stmt:=aV 46
abbrev Dl:Stmt:=aV 47
abbrev Oo:Stmt:=aV 48
abbrev Om:Stmt:=aV 49
abbrev Ro:Stmt:=aV 50
abbrev Zh:Stmt:=aV 51
abbrev Co:Stmt:=aV 52
abbrev Jg:Stmt:=aV 53
abbrev Wg:Stmt:=aV 55
abbrev To:Stmt:=aV 54
abbrev Qp:Stmt:=aV 56
abbrev Mh:Stmt:=aV 57
abbrev Bo:Stmt:=aV 58
abbrev Qn:Stmt:=aV 59
abbrev Hi:Stmt:=aV 60
abbrev sZ:Stmt:=aV 61
abbrev Ni:Stmt:=aV 62
abbrev Kg:Stmt:=aV 63
abbrev Hg:Stmt:=aV 64
abbrev Km:Stmt:=aV 65
abbrev Io:Stmt:=aV 66
abbrev Ng:Stmt:=aV 67
abbrev Eg:Stmt:=aV 68
abbrev nZ:Stmt:=aV 69
def Rc:MS:=(aI (cZ (bT (aC hJ (aA 0) (mC (.int 0)))) (bC (mC (.int 1))) dZ)
 (aI (cZ (bT (aC jS (aA 0) (mC (.int 0)))) (bC (bG bX (mC (.int 1)))) dZ)
 (bC (mC (.int 0)))))
def pR:FM:=aR 1 1 Rc
def Qa:MS:=(aI (nT (bT (aC kG (aA 1) (mC (.int 0)))) (aI (aQ 2 (aC fN (aA 0) (aA 1)))
 (aI (aQ 0 (aA 1))
 (aQ 1 (aA 2)))))
 (bC (mR lP (aB (aA 0) aD))))
def pA:FM:=aR 2 3 Qa
def Ja:MS:=(aI (aQ 1 (mC (.int 0)))
 (aI (bR (aY (aA 0)) (gN 2) (aQ 1 (aO pA [] (aB (aA 1) (aB (aA 2) aD)))))
 (bC (aT ["number"] [(1,"common")] (aY (aA 0)) (gN 0) (aC eI (aA 0) (aA 1))))))
def vW:FM:=aR 1 3 Ja
def Aa:MS:=(aI (cZ (bT (aC eB (aA 1) (mC (.int 0)))) (pP "NoNumber") dZ)
 (aI (aQ 2 (aC aS (aO pR [] (aB (aA 1) aD)) (aO pA [] (aB (aA 0) (aB (aA 1) aD)))))
 (bC (mN dP (aB (aC eI (aA 0) (aA 2)) (aB (aC eI (aA 1) (aA 2)) aD))))))
def kX:FM:=aR 2 3 Aa
def Ua:MS:=(bC (gM kX [] (aB (aC aS (aC aE (aA 0) (mC (.int 0))) (aC aE (aA 1) (mC (.int 1)))) (aB (aC aS (aC aE (aA 0) (mC (.int 1))) (aC aE (aA 1) (mC (.int 0)))) aD))))
def sV:FM:=aR 2 2 Ua
def Vb:MS:=(bC (gM kX [] (aB (aO pA [] (aB (aC aS (aC aE (aA 0) (mC (.int 0))) (aC aE (aA 1) (mC (.int 1)))) (aB (aC aS (aC aE (aA 1) (mC (.int 0))) (aC aE (aA 0) (mC (.int 1)))) aD))) (aB (aC aS (aC aE (aA 0) (mC (.int 1))) (aC aE (aA 1) (mC (.int 1)))) aD))))
def tD:FM:=aR 2 2 Vb
def Xb:MS:=(aI (cZ (bT (aC eB (aA 1) (mC (.int 0)))) (pP "NoPoint") dZ)
 (bC (mR fL (aB (aT ["number"] [(1,"bottom")] (aY (aO vW [] (aB (aC aF (mR kA (aB (aA 0) aD)) (mN cN (aB (aA 1) aD))) aD))) (gN 0) (aC aS (aO pR [] (aB (aA 1) aD)) (aA 0))) aD))))
def nS:FM:=aR 2 2 Xb
def Ba:MS:=(bC (mR fL (aB (aT ["number"] [(0,"p")] (aY (dL (aA 0) cO (dI (bG bX (mC (.int 1)))))) (gN 0) (gM kX [] (aB (aA 0) (aB (aC aE (aA 1) (bG bX (mC (.int 1)))) aD)))) aD)))
def oV:FM:=aR 1 1 Ba
def vK:MS:=(aI (aQ 1 (mC (.int 1)))
 (aI (bR (aY (aA 0)) (gN 2) (aQ 1 (aC aS (aA 1) (aC aE (aA 2) (mC (.int 1))))))
 (bC (gM nS [] (aB (aT ["part"] [(1,"bottom")] (aY (aA 0)) (gN 0) (aC aS (aC aE (aA 0) (mC (.int 0))) (aC eI (aA 1) (aC aE (aA 0) (mC (.int 1)))))) (aB (aA 1) aD))))))
def oU:FM:=aR 1 3 vK
def Ac:MS:=(aI (aQ 2 (aT ["one","other"] [(1,"q"),(0,"p")] (dX (aB (dL (aA 0) cO (dI (bG bX (mC (.int 1))))) (aB (dL (aA 1) cO (dI (bG bX (mC (.int 1))))) aD))) (gT 2 (bV (gN 0) (bV (gN 1) cQ))) (aC aF (aC aS (aA 0) (aC aE (aA 2) (bG bX (mC (.int 1))))) (aC aS (aA 1) (aC aE (aA 3) (bG bX (mC (.int 1))))))))
 (bC (gM nS [] (aB (aA 2) (aB (aC aS (aC aE (aA 0) (bG bX (mC (.int 1)))) (aC aE (aA 1) (bG bX (mC (.int 1))))) aD)))))
def wR:FM:=aR 2 3 Ac
def Cb:MS:=(bC (mR fL (aB (aC aF (aT ["number"] [] (aY (dL (aA 0) cO (dI (bG bX (mC (.int 1)))))) (gN 0) (bG bX (aA 0))) (mN cN (aB (aC aE (aA 0) (bG bX (mC (.int 1)))) aD))) aD)))
def wH:FM:=aR 1 1 Cb
def Ca:MS:=(bC (aO wR [] (aB (aA 0) (aB (aO wH [] (aB (aA 1) aD)) aD))))
def kY:FM:=aR 2 2 Ca
def zG:MS:=(bC (aT ["near","far"] [(0,"start"),(1,"end")] (dX (aB (dL (aA 0) cO (dI (bG bX (mC (.int 1))))) (aB (dL (aA 1) cO (dI (bG bX (mC (.int 1))))) aD))) (gT 2 (bV (gN 0) (bV (gN 1) cQ))) (aC eV (aC aS (aA 1) (aC aE (aA 2) (bG bX (mC (.int 1))))) (aC aS (aA 0) (aC aE (aA 3) (bG bX (mC (.int 1))))))))
def qQ:FM:=aR 2 2 zG
def Ke:MS:=(bC (mR qD (aB (aT ["one","other"] [] (dX (aB (aA 0) (aB (aA 1) aD))) (gT 2 (bV (gN 0) (bV (gN 1) cQ))) (aC aS (aA 0) (aA 1))) aD)))
def xW:FM:=aR 2 2 Ke
def wD:MS:=(aI (aQ 1 (aC aE (aA 0) (mC (.int 0))))
 (aI (cZ (bT (aC eB (mR fE (aB (aA 0) aD)) (mC (.int 1)))) (bC (mN cN (aB (bG bX (aC aE (aA 1) (mC (.int 1)))) (aB (aC aE (aA 1) (mC (.int 0))) aD)))) dZ)
 (aI (aQ 2 (aC aE (aA 0) (mC (.int 1))))
 (bC (mN cN (aB (aC eV (aC aS (aC aE (aA 1) (mC (.int 1))) (aC aE (aA 2) (mC (.int 2)))) (aC aS (aC aE (aA 1) (mC (.int 2))) (aC aE (aA 2) (mC (.int 1))))) (aB (aC eV (aC aS (aC aE (aA 1) (mC (.int 2))) (aC aE (aA 2) (mC (.int 0)))) (aC aS (aC aE (aA 1) (mC (.int 0))) (aC aE (aA 2) (mC (.int 2))))) (aB (aC eV (aC aS (aC aE (aA 1) (mC (.int 0))) (aC aE (aA 2) (mC (.int 1)))) (aC aS (aC aE (aA 1) (mC (.int 1))) (aC aE (aA 2) (mC (.int 0))))) aD))))))))
def qZ:FM:=aR 1 3 wD
def vE:MS:=(aI (aQ 1 (aT ["p"] [(0,"points")] (aY (dL (aA 0) (dI (mC (.int 1))) cO)) (gN 0) (aO qQ [] (aB (aC aE (aA 1) (mC (.int 0))) (aB (aA 0) aD)))))
 (bC (aO xW [] (aB (aO qZ [] (aB (dL (aA 1) cO (dI (bG bX (mC (.int 1))))) aD)) (aB (aC aE (aA 1) (bG bX (mC (.int 1)))) aD)))))
def qP:FM:=aR 1 2 vE
def xA:MS:=(bC (aO pR [] (aB (aO qP [] (aB (aA 0) aD)) aD)))
def nY:FM:=aR 1 1 xA
def Ha:MS:=(bC (aC iY (aC iY (dL (aA 0) cO (dI (aA 1))) (mN dP (aB (aA 2) aD))) (dL (aA 0) (dI (aC aF (aA 1) (mC (.int 1)))) cO)))
def qU:FM:=aR 3 3 Ha
def zV:MS:=(bC (mR oF (aB (aT ["k"] [(0,"piece"),(1,"p")] (dC (aB (mR fE (aB (aA 0) aD)) aD)) (gN 0) (aO nY [] (aB (aO qU [] (aB (aA 1) (aB (aA 0) (aB (aA 2) aD)))) aD))) aD)))
def sU:FM:=aR 2 2 zV
def zT:MS:=(aI (aQ 2 (mC (.int 0)))
 (aI (bR (aY (aA 0)) (gN 3) (aI (aQ 4 (aO sU [] (aB (aA 3) (aB (aA 1) aD))))
 (aI (cZ (bT (aC eB (aA 4) (mC (.int 0)))) (pP "OnSide") dZ)
 (cZ (bT (aC hJ (aA 4) (mC (.int 0)))) (lJ (λi j=>i+j) 2 (mC (.int 1))) dZ))))
 (bC (aA 2))))
def qV:FM:=aR 2 5 zT
def wQ:MS:=(aI (aQ 1 (mN cN aD))
 (aI (bR (aY (aA 0)) (gN 2) (bR (aY (aA 2)) (gN 3) (bR (aY (dL (aA 3) (dI (mC (.int 1))) cO)) (gN 4) (aI (aQ 5 (aO oV [] (aB (aO kY [] (aB (aA 4) (aB (aC aE (aA 3) (mC (.int 0))) aD))) aD)))
 (aI (aQ 6 (vD (oE (aA 1)) (aA 1) (aT ["part"] [] (aY (aA 5)) (gN 0) (mN dP (aB (mC (.int 0)) (aB (mC (.int 1)) aD))))))
 (aQ 1 (aT ["one","part"] [] (dX (aB (aA 6) (aB (aA 5) aD))) (gT 2 (bV (gN 0) (bV (gN 1) cQ))) (aO tD [] (aB (aA 0) (aB (aA 1) aD))))))))))
 (bC (mR fL (aB (aA 1) aD)))))
def mJ:FM:=aR 1 7 wQ
def vP:MS:=(bC (aO oU [] (aB (aT ["one","step"] [] (dX (aB (aO oV [] (aB (aA 0) aD)) (aB (aA 1) aD))) (gT 2 (bV (gN 0) (bV (gN 1) cQ))) (aO sV [] (aB (aA 0) (aB (aA 1) aD)))) aD)))
def jU:FM:=aR 2 2 vP
def Ab:MS:=(bC (mR fL (aB (aT ["corner"] [(1,"grid"),(0,"piece")] (aY (aA 0)) (gN 0) (aO jU [] (aB (aO kY [] (aB (aA 0) (aB (aC aE (aA 2) (mC (.int 0))) aD))) (aB (aA 1) aD)))) aD)))
def rA:FM:=aR 2 2 Ab
def zF:MS:=(bC (mR fL (aB (aC aF (aT ["number"] [(0,"p")] (aY (dL (aA 0) cO (dI (bG bX (mC (.int 1)))))) (gN 0) (aC fN (aA 0) (aC aE (aA 1) (bG bX (mC (.int 1)))))) (mN cN (aB (aC aE (aA 0) (bG bX (mC (.int 1)))) aD))) aD)))
def sK:FM:=aR 1 1 zF
def zL:MS:=(aI (aQ 2 (mN cN (aB (mN dP aD) aD)))
 (aI (bR (dC (aB (aC eV (mR fE (aB (aA 1) aD)) (mC (.int 1))) aD)) (gN 3) (aI (aQ 4 (aT ["corner"] [(3,"k")] (aY (aA 0)) (gN 0) (aC aE (aA 0) (aA 1))))
 (aI (aQ 5 (eC aD))
 (aI (bR (aY (aA 2)) (gN 6) (pW 5 (aT ["cell"] [(6,"row"),(1,"p"),(3,"k")] (jJ (aB (mR oF (aB (aA 4) aD)) (aB (aC aF (mR rV (aB (aA 4) aD)) (mC (.int 1))) aD))) (gN 0) (aC iY (aA 1) (mN dP (aB (aC aF (aC aE (aA 2) (aA 3)) (aC aS (aA 0) (aC aE (aA 2) (bG bX (mC (.int 1)))))) aD))))))
 (aQ 2 (aA 5))))))
 (bC (aT ["row"] [(1,"p")] (aY (aA 2)) (gN 0) (aC iY (aA 0) (mN dP (aB (aC aE (aA 1) (bG bX (mC (.int 1)))) aD)))))))
def qR:FM:=aR 2 7 zL
def tG:MS:=(aI (aQ 3 (aO sK [] (aB (aO jU [] (aB (aA 2) (aB (aA 1) aD))) aD)))
 (aI (aQ 4 (mC (.int 0)))
 (aI (bR (aY (aA 0)) (gN 5) (aI (aQ 6 (aO rA [] (aB (aA 5) (aB (aA 1) aD))))
 (bR (aY (aO qR [] (aB (aA 6) (aB (aA 3) aD)))) (gN 7) (lJ (λi j=>i+j) 4 (gM qV [] (aB (mN dP (aB (aA 6) aD)) (aB (aA 7) aD)))))))
 (bC (aA 4)))))
def nM:FM:=aR 3 8 tG
def Od:MS:=(aI (aQ 1 (eC aD))
 (aI (bR (xZ (aB (dL (aA 0) cO (dI (mC (.int 63)))) aD)) (gT 2 (bV (gN 2) (bV (gN 3) cQ))) (cZ (bT (aC sG (aA 3) (aC gY (mC (.int 10)) (mC (.int 18))))) (fK (fD (aA 1) (aB (aC eV (aA 3) (aC gY (mC (.int 10)) (mC (.int 18)))) aD))) (aI (aQ 4 (aC fN (aC aS (aC aF (aC aF (aC aF (aA 3) (aC aS (aC aS (mC (.int 7)) (aA 2)) (aA 2))) (aC aS (mC (.int 13)) (aA 2))) (mC (.int 5))) (mC (.int 48271))) (mC (.int 2147483647))))
 (aI (aQ 5 (aC fN (aC aS (aC aF (aC aF (aC aF (aA 3) (aC aS (aC aS (mC (.int 11)) (aA 2)) (aA 2))) (aC aS (mC (.int 17)) (aA 2))) (mC (.int 3))) (mC (.int 40692))) (mC (.int 2147483399))))
 (aI (aQ 6 (aC fN (aC aS (aC aF (aC aF (aC aF (aA 3) (aC aS (aC aS (mC (.int 5)) (aA 2)) (aA 2))) (aC aS (mC (.int 29)) (aA 2))) (mC (.int 8))) (mC (.int 39373))) (mC (.int 2147483587))))
 (aI (aQ 4 (aC fN (aC aS (aA 4) (mC (.int 52021))) (mC (.int 1000000007))))
 (aI (aQ 5 (aC fN (aC aS (aA 5) (mC (.int 30011))) (mC (.int 998244353))))
 (aI (aQ 6 (aC fN (aC aS (aA 6) (mC (.int 45989))) (mC (.int 1000000009))))
 (fK (fD (aA 1) (aB (aC aF (aC aS (aC aF (aC aS (aA 4) (mC (.int 998244353))) (aA 5)) (mC (.int 1000000009))) (aA 6)) aD)))))))))))
 (bC (aA 1))))
def rJ:FM:=aR 1 7 Od
def wK:MS:=(aI (nT (gZ (bT (aC hJ (mR fE (aB (aA 0) aD)) (mC (.int 0)))) (bT (aC eB (aC aE (aA 0) (mC (.int 0))) (mC (.int 0))))) (fK (lM (aA 0) (aB (mC (.int 0)) aD))))
 (aI (cZ (bT (aC eB (mR fE (aB (aA 0) aD)) (mC (.int 0)))) (bC (mC (.int 0))) dZ)
 (aI (aQ 2 (aC fN (aC aE (aA 0) (mC (.int 0))) (aA 1)))
 (aI (mK (aA 0) (mC (.int 0)) (aC eI (aC aE (aA 0) (mC (.int 0))) (aA 1)))
 (bC (aA 2))))))
def dN:FM:=aR 2 3 wK
def Tc:MS:=(aI (aQ 0 (mR lP (aB (aA 0) aD)))
 (aI (aQ 1 (mR lP (aB (aA 1) aD)))
 (aI (nT (bT (aC hJ (aA 1) (mC (.int 0)))) (mW 0 1 (aB (aA 1) (aB (aC fN (aA 0) (aA 1)) aD))))
 (bC (aA 0)))))
def uC:FM:=aR 2 2 Tc
def vX:MS:=(aI (aQ 1 (mC (.int 0)))
 (aI (bR (aY (aA 0)) (gN 2) (aQ 1 (aO uC [] (aB (aA 1) (aB (aA 2) aD)))))
 (aI (cZ (bT (aC eB (aA 1) (mC (.int 0)))) (bC (mR fL (aB (aA 0) aD))) dZ)
 (bC (mR fL (aB (aT ["_law_number"] [(1,"_law_by")] (aY (aA 0)) (gN 0) (aC eI (aA 0) (aA 1))) aD))))))
def gA:FM:=aR 1 3 vX
def Gb:MS:=(bC (oA (bG (kF "int") (aA 0)) (bG uN (bG (kF "bool") (aA 0)))))
def pH:FM:=aR 1 1 Gb
def Cc:MS:=(aI (cZ (bT (aC jS (aA 1) (mC (.int 0)))) (bC (aO gA [] (aB (mN cN (aB (aC eV (mC (.int 0)) (aA 0)) (aB (aC eV (mC (.int 0)) (aA 1)) aD))) aD))) dZ)
 (bC (aO gA [] (aB (mN cN (aB (aA 0) (aB (aA 1) aD))) aD))))
def lF:FM:=aR 2 2 Cc
def Jd:MS:=(bC (aO lF [] (aB (aC aF (aC aS (aC aE (aA 0) (mC (.int 0))) (aC aE (aA 1) (mC (.int 1)))) (aC aS (aC aE (aA 1) (mC (.int 0))) (aC aE (aA 0) (mC (.int 1))))) (aB (aC aS (aC aE (aA 0) (mC (.int 1))) (aC aE (aA 1) (mC (.int 1)))) aD))))
def uA:FM:=aR 2 2 Jd
def Bb:MS:=(bC (aO lF [] (aB (aC aS (aC aE (aA 0) (mC (.int 0))) (aC aE (aA 1) (mC (.int 0)))) (aB (aC aS (aC aE (aA 0) (mC (.int 1))) (aC aE (aA 1) (mC (.int 1)))) aD))))
def lD:FM:=aR 2 2 Bb
def Na:MS:=(aI (aQ 3 (aT ["_law_k"] [(2,"_law_way"),(1,"_law_q"),(0,"_law_p")] (dC (aB (aC eV (mR fE (aB (aA 0) aD)) (mC (.int 1))) aD)) (gN 0) (aC aF (aC aS (aC aS (aA 1) (aC aE (aA 3) (aA 0))) (aC aE (aA 2) (bG bX (mC (.int 1))))) (aC aS (aC aE (aA 2) (aA 0)) (aC aE (aA 3) (bG bX (mC (.int 1))))))))
 (bC (aO gA [] (aB (aC aF (aA 3) (mN cN (aB (aC aS (aC aE (aA 0) (bG bX (mC (.int 1)))) (aC aE (aA 1) (bG bX (mC (.int 1))))) aD))) aD))))
def nJ:FM:=aR 3 4 Na
def Vc:MS:=(bC (aT ["_law_k"] [(1,"_law_q"),(0,"_law_p")] (dC (aB (aC eV (mR fE (aB (aA 0) aD)) (mC (.int 1))) aD)) (gN 0) (aC eV (aC aS (aC aE (aA 1) (aA 0)) (aC aE (aA 2) (bG bX (mC (.int 1))))) (aC aS (aC aE (aA 2) (aA 0)) (aC aE (aA 1) (bG bX (mC (.int 1))))))))
def rK:FM:=aR 2 2 Vc
def Tb:MS:=(aI (aQ 2 (aC eV (aC aS (aC aE (aA 0) (mC (.int 1))) (aC aE (aA 1) (mC (.int 2)))) (aC aS (aC aE (aA 0) (mC (.int 2))) (aC aE (aA 1) (mC (.int 1))))))
 (aI (aQ 3 (aC eV (aC aS (aC aE (aA 0) (mC (.int 2))) (aC aE (aA 1) (mC (.int 0)))) (aC aS (aC aE (aA 0) (mC (.int 0))) (aC aE (aA 1) (mC (.int 2))))))
 (aI (aQ 4 (aC eV (aC aS (aC aE (aA 0) (mC (.int 0))) (aC aE (aA 1) (mC (.int 1)))) (aC aS (aC aE (aA 0) (mC (.int 1))) (aC aE (aA 1) (mC (.int 0))))))
 (bC (mN cN (aB (aA 2) (aB (aA 3) (aB (aA 4) aD))))))))
def wE:FM:=aR 2 5 Tb
def Fd:MS:=(bC (mR qD (aB (aT ["_law_one","_law_other"] [] (dX (aB (aA 0) (aB (aA 1) aD))) (gT 2 (bV (gN 0) (bV (gN 1) cQ))) (aC aS (aA 0) (aA 1))) aD)))
def xK:FM:=aR 2 2 Fd
def tQ:MS:=(aI (cZ (bT (aC eB (mR fE (aB (aA 0) aD)) (mC (.int 2)))) (bC (aC eV (aC aS (aC aE (aC aE (aA 0) (mC (.int 0))) (mC (.int 0))) (aC aE (aC aE (aA 0) (mC (.int 1))) (mC (.int 1)))) (aC aS (aC aE (aC aE (aA 0) (mC (.int 0))) (mC (.int 1))) (aC aE (aC aE (aA 0) (mC (.int 1))) (mC (.int 0)))))) dZ)
 (bC (aO xK [] (aB (aO wE [] (aB (aC aE (aA 0) (mC (.int 0))) (aB (aC aE (aA 0) (mC (.int 1))) aD))) (aB (aC aE (aA 0) (mC (.int 2))) aD)))))
def mI:FM:=aR 1 1 tQ
def xL:MS:=(bC (aO mI [] (aB (aT ["_law_p"] [(0,"_law_points")] (aY (dL (aA 0) (dI (mC (.int 1))) cO)) (gN 0) (aO rK [] (aB (aC aE (aA 1) (mC (.int 0))) (aB (aA 0) aD)))) aD)))
def mM:FM:=aR 1 1 xL
def vO:MS:=(aI (aQ 1 (mR tJ (aB (aA 0) aD)))
 (aI (cZ (bT (aC jS (aO mM [] (aB (aA 1) aD)) (mC (.int 0)))) (aQ 1 (aC aF (dL (aA 1) cO (dI (bG bX (mC (.int 2))))) (mN cN (aB (aC aE (aA 1) (bG bX (mC (.int 1)))) (aB (aC aE (aA 1) (bG bX (mC (.int 2)))) aD))))) dZ)
 (bC (mR fL (aB (aA 1) aD)))))
def oX:FM:=aR 1 2 vO
def Yb:MS:=(aI (aQ 1 (mC (.int 1)))
 (aI (bR (aY (dL (aA 0) (dI (mC (.int 1))) cO)) (gN 2) (aQ 1 (aC aS (aC aS (aA 1) (aC aE (aC aE (aA 0) (mC (.int 0))) (bG bX (mC (.int 1))))) (aC aE (aA 2) (bG bX (mC (.int 1)))))))
 (bC (aO lF [] (aB (mR lP (aB (aO mM [] (aB (aA 0) aD)) aD)) (aB (aC aS (aA 1) (aC aE (mN cN (aB (mC (.int 2)) (aB (mC (.int 6)) aD))) (aC eV (mR fE (aB (aA 0) aD)) (mC (.int 3))))) aD))))))
def pI:FM:=aR 1 3 Yb
def zM:MS:=(aI (aQ 1 (mN dP (aB (mC (.int 0)) (aB (mC (.int 1)) aD))))
 (aI (bR (aY (aA 0)) (gN 2) (aQ 1 (aO uA [] (aB (aA 1) (aB (aO pI [] (aB (aA 2) aD)) aD)))))
 (bC (aA 1))))
def vG:FM:=aR 1 3 zM
def zO:MS:=(bC (aO mI [] (aB (aT ["_law_corner"] [(0,"_law_corners")] (aY (dL (aA 0) (dI (mC (.int 1))) cO)) (gN 0) (aT ["_law_b","_law_c"] [] (dX (aB (aC aE (aA 1) (mC (.int 0))) (aB (aA 0) aD))) (gT 2 (bV (gN 0) (bV (gN 1) cQ))) (aC eV (aA 1) (aA 0)))) aD)))
def sO:FM:=aR 1 1 zO
def xH:MS:=(aI (aQ 3 (eC aD))
 (aI (bR (dC (aB (aC aF (aA 1) (mC (.int 1))) aD)) (gN 4) (fK (fD (aA 3) (aB (aT ["_law_m"] [(0,"_law_row_here"),(2,"_law_wide")] (dC (aB (aA 1) aD)) (gN 0) (aO dN [] (aB (aA 1) (aB (aC aF (aA 2) (mC (.int 1))) aD)))) aD))))
 (aI (cZ (bT (aC kG (aO sO [] (aB (aA 3) aD)) (mC (.int 0)))) (bC (aA 3)) dZ)
 (bC (aT ["_law_k"] [(1,"_law_dims")] (jJ (aB (bG bX (mC (.int 1))) (aB (aA 1) aD))) (gN 0) (aT ["_law_m"] [(0,"_law_k")] (dC (aB (aA 1) aD)) (gN 0) (mR kQ (aB (aC eB (aA 0) (aA 1)) aD))))))))
def mO:FM:=aR 3 5 xH
def Ld:MS:=(aI (aQ 2 (aO dN [] (aB (aA 0) (aB (mC (.int 4)) aD))))
 (aI (aQ 3 (aC aE (mN cN (aB (mC (.int 0)) (aB (mC (.int 3)) (aB (mC (.int 9)) (aB (aC gY (mC (.int 10)) (mC (.int 12))) aD))))) (aA 2)))
 (aI (aQ 4 (aC aF (mC (.int 1)) (aC aS (aO dN [] (aB (aA 0) (aB (mC (.int 9)) aD))) (aC eI (aA 2) (mC (.int 2))))))
 (aI (aQ 5 (aT ["_law_k"] [(3,"_law_wide"),(0,"_law_row_here")] (dC (aB (aA 1) aD)) (gN 0) (aC eV (aO dN [] (aB (aA 2) (aB (aC aF (aC aS (mC (.int 2)) (aA 1)) (mC (.int 1))) aD))) (aA 1))))
 (bC (aO gA [] (aB (aC aF (aA 5) (mN cN (aB (aA 4) aD))) aD)))))))
def nV:FM:=aR 2 6 Ld
def zX:MS:=(aI (aQ 2 (eC aD))
 (aI (bR (dC (aB (aA 1) aD)) (gN 3) (aI (aQ 4 (aO dN [] (aB (aA 0) (aB (mC (.int 3)) aD))))
 (fK (fD (aA 2) (aB (aO lF [] (aB (aC aF (mC (.int 1)) (aO dN [] (aB (aA 0) (aB (aC aE (mN cN (aB (mC (.int 1)) (aB (mC (.int 7)) (aB (aC gY (mC (.int 10)) (mC (.int 9))) aD)))) (aA 4)) aD)))) (aB (aC aF (mC (.int 1)) (aO dN [] (aB (aA 0) (aB (aC aE (mN cN (aB (mC (.int 1)) (aB (mC (.int 7)) (aB (aC gY (mC (.int 10)) (mC (.int 6))) aD)))) (aA 4)) aD)))) aD))) aD)))))
 (bC (aA 2))))
def sR:FM:=aR 2 5 zX
def wV:MS:=(aI (aQ 2 (mC (.int 1)))
 (aI (bR (aY (aA 1)) (gN 3) (aQ 2 (aC aS (aA 2) (aC aE (aA 3) (mC (.int 1))))))
 (aI (aQ 4 (aT ["_law_number","_law_part"] [(2,"_law_under")] (dX (aB (aA 0) (aB (aA 1) aD))) (gT 2 (bV (gN 0) (bV (gN 1) cQ))) (aC aS (aC aS (aA 0) (aC aE (aA 1) (mC (.int 0)))) (aC eI (aA 2) (aC aE (aA 1) (mC (.int 1)))))))
 (bC (aO gA [] (aB (aC aF (aA 4) (mN cN (aB (aA 2) aD))) aD))))))
def nP:FM:=aR 2 5 wV
def Fc:MS:=(aI (aQ 3 (eC aD))
 (aI (bR (aY (aA 1)) (gN 4) (aI (aQ 5 (aO nV [] (aB (aA 0) (aB (mR fE (aB (aA 2) aD)) aD))))
 (fK (fD (aA 3) (aB (aO oX [] (aB (aT ["_law_corner"] [(5,"_law_far_here"),(2,"_law_stretch_here")] (aY (aA 4)) (gN 0) (aO nJ [] (aB (aO nP [] (aB (aA 0) (aB (aA 2) aD))) (aB (aA 1) (aB (mC (.int 1)) aD))))) aD)) aD)))))
 (bC (aA 3))))
def pL:FM:=aR 3 6 Fc
def vT:MS:=(aI (cZ (bT (aC eB (aO dN [] (aB (aA 0) (aB (mC (.int 2)) aD))) (mC (.int 1)))) (bC (mR fL (aB (aA 1) aD))) dZ)
 (bC (mR kA (aB (aA 1) aD))))
def oY:FM:=aR 2 2 vT
def mG(r:FM):MS:=(aI (cZ (bT (bG pY (aA 1))) (aI (cZ (oQ (lR (bT (bG pY (aA 0)))) (bT (aC kG (mR fE (aB (aA 0) aD)) (mR fE (aB (aA 1) aD))))) (bC (mC (.bl false))) dZ)
 (bC (mR rW (aB (aT ["_law_one","_law_other"] [] (dX (aB (aA 0) (aB (aA 1) aD))) (gT 2 (bV (gN 0) (bV (gN 1) cQ))) (aO r [] (aB (aA 0) (aB (aA 1) aD)))) aD)))) dZ)
 (bC (oA (aO pH [] (aB (aA 0) aD)) (aC eB (aA 0) (aA 1)))))
def Lh:FM:=aR 2 2 λ_ _=>.fail
def vM:FM:=aR 2 2 (mG Lh)
def Yh:FM:=aR 2 2 (mG vM)
def nN:FM:=aR 2 2 (mG Yh)
def Oa:MS:=(aI (xR 3 (bV (gN 1) (bV (gN 2) (bV (gN 3) cQ))) (aT ["_law_corner"] [] (aY (aA 0)) (gN 0) (aT ["_law_number"] [] (aY (aA 0)) (gN 0) (aC aS (mC (.int 2)) (aA 0)))))
 (aI (aQ 4 (aT ["_law_one","_law_other"] [] (dX (aB (aA 1) (aB (aA 2) aD))) (gT 2 (bV (gN 0) (bV (gN 1) cQ))) (aC eI (aC aF (aA 0) (aA 1)) (mC (.int 2)))))
 (aI (aQ 5 (aT ["_law_one","_law_other"] [] (dX (aB (aA 1) (aB (aA 3) aD))) (gT 2 (bV (gN 0) (bV (gN 1) cQ))) (aC eI (aC aF (aA 0) (aA 1)) (mC (.int 2)))))
 (aI (aQ 6 (aT ["_law_one","_law_other"] [] (dX (aB (aA 2) (aB (aA 3) aD))) (gT 2 (bV (gN 0) (bV (gN 1) cQ))) (aC eI (aC aF (aA 0) (aA 1)) (mC (.int 2)))))
 (aI (aQ 7 (mN cN (aB (mN cN (aB (aA 1) (aB (aA 4) (aB (aA 5) aD)))) (aB (mN cN (aB (aA 4) (aB (aA 2) (aB (aA 6) aD)))) (aB (mN cN (aB (aA 5) (aB (aA 6) (aB (aA 3) aD)))) (aB (mN cN (aB (aA 4) (aB (aA 6) (aB (aA 5) aD)))) aD))))))
 (bC (mN dP (aB (mN cN (aB (mN cN (aB (aA 1) (aB (aA 2) (aB (aA 3) aD)))) aD)) (aB (aA 7) aD)))))))))
def sY:FM:=aR 1 8 Oa
def zK:MS:=(uL (lK (aQ 1 (eC aD)) (lK (aQ 2 (eC aD)) (lK (bR (dC (aB (aC aF (mC (.int 1)) (aO dN [] (aB (aA 0) (aB (mC (.int 2)) aD)))) aD)) (gN 3) (aI (aQ 4 (aO mO [] (aB (aA 0) (aB (mC (.int 2)) (aB (mC (.int 1)) aD))))) (aI (aQ 5 (aO dN [] (aB (aA 0) (aB (mC (.int 4)) aD)))) (cZ (bT (aC jS (aA 5) (mC (.int 2)))) (aI (fK (fD (aA 1) (aB (aA 4) aD))) (fK (fD (aA 2) (aB (aA 4) aD)))) (aI (sA (gT 2 (bV (gN 6) (bV (gN 7) cQ))) (aO sY [] (aB (aA 4) aD))) (aI (cZ (bT (aC eB (aA 5) (mC (.int 2)))) (mW 6 7 (aB (aA 7) (aB (aA 6) aD))) dZ) (aI (aQ 1 (iW (aA 1) (aA 6))) (aQ 2 (iW (aA 2) (aA 7)))))))))) (sD 1 (oH (aA 2) cO cO (-1)))))))
def sN:FM:=aR 1 8 zK
def zI:MS:=(aI (aQ 1 (eC (aB (mC (.int 0)) (aB (mC (.int 1)) (aB (mC (.int 2)) aD)))))
 (aI (aQ 2 (eC (aB (mC (.int 0)) (aB (mC (.int 0)) (aB (mC (.int 0)) aD)))))
 (aI (aQ 3 (eC (aB (mR kA (aB (aA 2) aD)) aD)))
 (aI (bR (dC (aB (mC (.int 3)) aD)) (gN 4) (aI (mK (aA 2) (lM (aA 1) (aB (aO dN [] (aB (aA 0) (aB (mR fE (aB (aA 1) aD)) aD))) aD)) (mC (.int 1)))
 (fK (fD (aA 3) (aB (mR kA (aB (aA 2) aD)) aD)))))
 (bC (aA 3))))))
def nH:FM:=aR 1 5 zI
def Ec:MS:=(aI (uD (tY nM [] (aB (aA 0) (aB (aA 1) (aB (aA 2) aD)))) "OnSide" 4 3 (λρ=>(ρ.set 3 (some (.pv .non)))))
 (bC (aA 3)))
def jH:FM:=aR 3 4 Ec
def Jc:MS:=(aI (aQ 2 (aC aE (mN cN (aB (aC aF (mC (.int 1)) (aO dN [] (aB (aA 0) (aB (mC (.int 9)) aD)))) (aB (mC (.int 1009)) aD))) (aO dN [] (aB (aA 0) (aB (mC (.int 2)) aD)))))
 (aI (aQ 3 (eC aD))
 (aI (bR (aY (aA 1)) (gN 4) (aI (aQ 5 (aC eV (aO dN [] (aB (aA 0) (aB (aC aF (aC aS (aA 2) (mC (.int 8))) (mC (.int 1))) aD))) (aC aS (mC (.int 4)) (aA 2))))
 (fK (fD (aA 3) (aB (aO lD [] (aB (aA 4) (aB (aO lF [] (aB (aA 5) (aB (aA 2) aD))) aD))) aD)))))
 (aI (aQ 6 (mC (.int 1)))
 (aI (bR (aY (aA 3)) (gN 7) (aQ 6 (aC aS (aA 6) (aC aE (aA 7) (mC (.int 1))))))
 (bC (aO gA [] (aB (aC aF (aT ["_law_part"] [(6,"_law_bottom")] (aY (aA 3)) (gN 0) (aC aS (aC aE (aA 0) (mC (.int 0))) (aC eI (aA 1) (aC aE (aA 0) (mC (.int 1)))))) (mN cN (aB (aA 6) aD))) aD))))))))
def nQ:FM:=aR 2 8 Jc
def zJ:MS:=(aI (aQ 1 (mN dP (aB (mC (.int 1)) (aB (mC (.int 1)) aD))))
 (aI (bR (aY (aA 0)) (gN 2) (aQ 1 (aO lD [] (aB (aA 1) (aB (aA 2) aD)))))
 (bC (aA 1))))
def sL:FM:=aR 1 3 zJ
def zH:MS:=(aI (aQ 5 (aO jH [] (aB (aA 1) (aB (aA 2) (aB (mR fL (aB (aC aF (aT ["_law_number"] [] (aY (dL (aA 3) cO (dI (bG bX (mC (.int 1)))))) (gN 0) (aC eV (mC (.int 0)) (aA 0))) (mN cN (aB (aC aE (aA 3) (bG bX (mC (.int 1)))) aD))) aD)) aD)))))
 (aI (cZ (oQ (bT (bG kS (aA 4))) (bT (bG kS (aA 5)))) (bC (mC (.bl true))) dZ)
 (aI (aQ 6 (aO lD [] (aB (mN dP (aB (mC (.int 2)) (aB (mC (.int 1)) aD))) (aB (aO vG [] (aB (aA 1) aD)) aD))))
 (bC (oA (aO pH [] (aB (aA 5) aD)) (aC eB (aO lD [] (aB (mN dP (aB (aC aF (aA 4) (aA 5)) (aB (mC (.int 1)) aD))) (aB (aO sL [] (aB (aA 2) aD)) aD))) (aA 6)))))))
def oS:FM:=aR 5 7 zH
def Wd:MS:=(aI (aQ 1 (rM rJ [] (aB (aA 0) aD)))
 (aI (aQ 2 (aC aF (mC (.int 2)) (aO dN [] (aB (aA 1) (aB (mC (.int 2)) aD)))))
 (aI (cZ (bT (aC eB (aA 2) (mC (.int 2)))) (aQ 3 (aO sN [] (aB (aA 1) aD))) (aI (aQ 4 (aT ["_law_k"] [(1,"_law_row_here")] (dC (aB (aC aF (mC (.int 1)) (aO dN [] (aB (aA 1) (aB (mC (.int 3)) aD)))) aD)) (gN 0) (aO nH [] (aB (aA 1) aD))))
 (aQ 3 (mN dP (aB (aA 4) (aB (oH (aA 4) cO cO (-1)) aD))))))
 (aI (aQ 5 (aO sR [] (aB (aA 1) (aB (aA 2) aD))))
 (aI (aQ 6 (mN cN (aB (mR fL (aB (aO pL [] (aB (aA 1) (aB (aC aE (aA 3) (mC (.int 0))) (aB (aA 5) aD)))) aD)) (aB (mR fL (aB (aO pL [] (aB (aA 1) (aB (aC aE (aA 3) (mC (.int 1))) (aB (aA 5) aD)))) aD)) aD))))
 (aI (aQ 7 (aO mJ [] (aB (aO oY [] (aB (aA 1) (aB (aA 6) aD))) aD)))
 (aI (cZ (lR (bT (aO nN [] (aB (aA 7) (aB (mR fL (aB (aT ["_law_part"] [] (aY (aA 5)) (gN 0) (aO gA [] (aB (aA 0) aD))) aD)) aD))))) (bC (mC (.bl false))) dZ)
 (aI (bR (dC (aB (mC (.int 3)) aD)) (gN 8) (aI (aQ 9 (aO nQ [] (aB (aA 1) (aB (aA 7) aD))))
 (aI (aQ 10 (aT ["_law_heap"] [(7,"_law_grid"),(9,"_law_p")] (aY (aA 6)) (gN 0) (aO jH [] (aB (aA 0) (aB (aA 1) (aB (aA 2) aD))))))
 (aI (bR (aY (aA 10)) (gN 11) (cZ (gZ (bT (bG iF (aA 11))) (oQ (lR (bT (aO pH [] (aB (aA 11) aD)))) (bT (aC jS (aA 11) (mC (.int 0)))))) (bC (mC (.bl false))) dZ))
 (aI (cZ (gZ (bT (bG iF (aC aE (aA 10) (mC (.int 0))))) (gZ (bT (bG iF (aC aE (aA 10) (mC (.int 1))))) (bT (aC kG (aC aE (aA 10) (mC (.int 0))) (aC aE (aA 10) (mC (.int 1))))))) (bC (mC (.bl false))) dZ)
 (cZ (gZ (bT (aC eB (aA 2) (mC (.int 2)))) (lR (bT (aO oS [] (aB (aA 1) (aB (aC aE (aA 6) (mC (.int 0))) (aB (aA 7) (aB (aA 9) (aB (aC aE (aA 10) (mC (.int 0))) aD))))))))) (bC (mC (.bl false))) dZ))))))
 (bC (oA (aO nN [] (aB (aO mJ [] (aB (mN cN aD) aD)) (aB (mN dP aD) aD))) (aC eB (gM nM [] (aB (mN dP aD) (aB (aA 7) (aB (aO nQ [] (aB (aA 1) (aB (aA 7) aD))) aD)))) (mC (.int 0)))))))))))))
def Vd:FM:=aR 1 12 Wd
abbrev wS(B:Bx):=cH B "sign" 1 ["number"] pR
abbrev vN(B:Bx):=cH B "divisor" 1 ["one","other"] pA
abbrev Th(B:Bx):=cH B "reduced" 2 ["numbers"] vW
abbrev vH(B:Bx):=uW B "fraction" 2 ["top","bottom"] kX
abbrev Fh(B:Bx):=cH B "divided" 3 ["one","other"] sV
abbrev Oi(B:Bx):=cH B "shared" 3 ["one","other"] tD
abbrev Ub(B:Bx):=uW B "point" 3 ["numbers","bottom"] nS
abbrev zR(B:Bx):=cH B "measures" 3 ["p"] oV
abbrev Yg(B:Bx):=cH B "point_at" 4 ["parts"] oU
abbrev Il(B:Bx):=cH B "added" 4 ["p","q"] wR
abbrev Tj(B:Bx):=cH B "turned" 1 ["p"] wH
abbrev zN(B:Bx):=cH B "lessened" 5 ["p","q"] kY
abbrev Wf(B:Bx):=cH B "whole_arrow" 1 ["start","end"] qQ
abbrev Yq(B:Bx):=cH B "dot" 1 ["u","v"] xW
abbrev Ji(B:Bx):=cH B "normal" 1 ["arrows"] qZ
abbrev Xf(B:Bx):=cH B "determinant" 2 ["points"] qP
abbrev No(B:Bx):=cH B "side" 3 ["points"] nY
abbrev Tg(B:Bx):=cH B "replaced" 1 ["row","place","value"] qU
abbrev Ah(B:Bx):=cH B "standing" 4 ["piece","p"] sU
abbrev Vg(B:Bx):=uW B "count_at" 5 ["heap","p"] qV
abbrev Jk(B:Bx):=cH B "steps" 6 ["heaps"] mJ
abbrev zS(B:Bx):=cH B "in_steps" 5 ["p","grid"] jU
abbrev Qi(B:Bx):=cH B "folded" 6 ["piece","grid"] rA
abbrev Sf(B:Bx):=cH B "in_first_cell" 1 ["p"] sK
abbrev Dg(B:Bx):=cH B "spots_over" 1 ["piece","p"] qR
abbrev Ka(B:Bx):=uW B "layers" 7 ["heap","grid","p"] nM
abbrev Em(B:Bx):=cH B "_law_row" 1 ["_law_script"] rJ
abbrev mF(B:Bx):=cH B "_law_take" 1 ["_law_row_here","_law_many"] dN
abbrev Zm(B:Bx):=cH B "_law_gcd" 1 ["_law_one","_law_other"] uC
abbrev oW(B:Bx):=cH B "_law_lowest" 2 ["_law_numbers"] gA
abbrev qW(B:Bx):=cH B "_law_whole" 1 ["_law_number"] pH
abbrev rC(B:Bx):=cH B "_law_frac" 3 ["_law_top","_law_bottom"] lF
abbrev Ao(B:Bx):=cH B "_law_sum" 4 ["_law_one","_law_other"] uA
abbrev vU(B:Bx):=cH B "_law_times" 4 ["_law_one","_law_other"] lD
abbrev Wh(B:Bx):=cH B "_law_joined" 3 ["_law_p","_law_q","_law_way"] nJ
abbrev Pm(B:Bx):=cH B "_law_gap" 1 ["_law_p","_law_q"] rK
abbrev Lj(B:Bx):=cH B "_law_cross" 1 ["_law_u","_law_v"] wE
abbrev Ln(B:Bx):=cH B "_law_dot" 1 ["_law_u","_law_v"] xK
abbrev Ib(B:Bx):=cH B "_law_turn" 2 ["_law_ways"] mI
abbrev Kc(B:Bx):=cH B "_law_det" 3 ["_law_points"] mM
abbrev Rg(B:Bx):=cH B "_law_simplex" 4 ["_law_points"] oX
abbrev Ol(B:Bx):=cH B "_law_bulk" 4 ["_law_points"] pI
abbrev Cg(B:Bx):=cH B "_law_heap_bulk" 5 ["_law_heap"] vG
abbrev Og(B:Bx):=cH B "_law_raw_turn" 3 ["_law_corners"] sO
abbrev Jm(B:Bx):=cH B "_law_raw" 4 ["_law_row_here","_law_dims","_law_wide"] mO
abbrev En(B:Bx):=cH B "_law_far" 3 ["_law_row_here","_law_dims"] nV
abbrev Zg(B:Bx):=cH B "_law_stretch" 4 ["_law_row_here","_law_dims"] sR
abbrev Ik(B:Bx):=cH B "_law_spot" 3 ["_law_corner","_law_stretch_here"] nP
abbrev Fk(B:Bx):=cH B "_law_laid" 5 ["_law_row_here","_law_heap","_law_stretch_here"] pL
abbrev Nh(B:Bx):=cH B "_law_handed" 2 ["_law_row_here","_law_rows"] oY
abbrev Cy(B:Bx):=cH B "_law_alike" 4 ["_law_told","_law_due"] nN
abbrev Hh(B:Bx):=cH B "_law_parted" 1 ["_law_corners"] sY
abbrev Gg(B:Bx):=cH B "_law_two_alike" 5 ["_law_row_here"] sN
abbrev Vf(B:Bx):=cH B "_law_plain_kuhn" 2 ["_law_row_here"] nH
abbrev Hb(B:Bx):=cH B "_law_over" 8 ["_law_heap","_law_grid","_law_p"] jH
abbrev Bk(B:Bx):=cH B "_law_near" 5 ["_law_row_here","_law_grid"] nQ
abbrev Bg(B:Bx):=cH B "_law_cell_bulk" 5 ["_law_grid"] sL
abbrev Uf(B:Bx):=cH B "_law_flat_right" 9 ["_law_row_here","_law_heap","_law_grid","_law_p","_law_many"] oS
structure Mg(mg:Str->AH):Prop where
 m_abs:mg "abs"=none
 m_all:mg "all"=none
 m_bool:mg "bool"=none
 m_enumerate:mg "enumerate"=none
 m_int:mg "int"=none
 m_isinstance:mg "isinstance"=none
 m_len:mg "len"=none
 m_list:mg "list"=none
 m_max:mg "max"=none
 m_min:mg "min"=none
 m_range:mg "range"=none
 m_sorted:mg "sorted"=none
 m_sum:mg "sum"=none
 m_tuple:mg "tuple"=none
 m_zip:mg "zip"=none
set_option hygiene false
local macro_rules | `(tactic|trivial)=> `(tactic|(first
 |(with_reducible show aX _ _ _ _ _ (bG pY _));refine W9 rfl m.m_isinstance rfl m.m_tuple Zk ?_
 |(with_reducible show fI _ _ _ _ _ aD);exact Tn
 |(with_reducible show fI _ _ _ _ _ (aB _ _));refine wI ?_ ?_
 |(with_reducible show aX _ _ _ _ _ (aA _));exact uB _
 |(with_reducible show aX _ _ _ _ _ (mC (.int _)));exact abe
 |(with_reducible show aX _ _ _ _ _ (mC (.bl _)));exact acK
 |(with_reducible show aX _ _ _ _ _ (bG bX _));refine ab6 Dp acN ?_
 |(with_reducible show aX _ _ _ _ _ (bG uN _));refine abu ?_
 |(with_reducible show aX _ _ _ _ _ (iW _ _));refine N7 ?_ ?_
 |(with_reducible show aX _ _ _ _ _ (aC iY _ _));refine qA P7 abB ?_ ?_
 |(with_reducible show aX _ _ _ _ _ (aC aF _ _));refine qA Xn acT ?_ ?_
 |(with_reducible show aX _ _ _ _ _ (aC eV _ _));refine qA abC ada ?_ ?_
 |(with_reducible show aX _ _ _ _ _ (aC aS _ _));refine qA aao acF ?_ ?_
 |(with_reducible show aX _ _ _ _ _ (aC eI _ _));refine qA E8 abc ?_ ?_
 |(with_reducible show aX _ _ _ _ _ (aC fN _ _));refine qA Y7 ac1 ?_ ?_
 |(with_reducible show aX _ _ _ _ _ (aC gY _ _));refine qA abM ab7 ?_ ?_
 |(with_reducible show aX _ _ _ _ _ (aC aE _ _));refine ac2 ?_ ?_
 |(with_reducible show aX _ _ _ _ _ (aC eB _ _));refine tR (Uq (yX hr)) Wt ?_ ?_ (lI _)
 |(with_reducible show aX _ _ _ _ _ (aC kG _ _));refine tR (Qo (yX hr)) Mt ?_ ?_ (lI _)
 |(with_reducible show aX _ _ _ _ _ (aC jS _ _));refine tR Hr Kt ?_ ?_ (lI _)
 |(with_reducible show aX _ _ _ _ _ (aC hJ _ _));refine tR Lr Jt ?_ ?_ (lI _)
 |(with_reducible show aX _ _ _ _ _ (aC sG _ _));refine tR Jr Dt ?_ ?_ (lI _)
 |(with_reducible show fG _ _ _ _ _ (bT (aC eB _ _)));refine tM (Uq (yX hr)) Wt ?_ ?_ (lI _)
 |(with_reducible show fG _ _ _ _ _ (bT (aC kG _ _)));refine tM (Qo (yX hr)) Mt ?_ ?_ (lI _)
 |(with_reducible show fG _ _ _ _ _ (bT (aC jS _ _)));refine tM Hr Kt ?_ ?_ (lI _)
 |(with_reducible show fG _ _ _ _ _ (bT (aC hJ _ _)));refine tM Lr Jt ?_ ?_ (lI _)
 |(with_reducible show fG _ _ _ _ _ (bT (aC sG _ _)));refine tM Jr Dt ?_ ?_ (lI _)
 |(with_reducible show fG _ _ _ _ _ (bT (bG kS _)));refine aa8 ?_
 |(with_reducible show fG _ _ _ _ _ (bT (bG iF _)));refine aaz ?_
 |(with_reducible show fG _ _ _ _ _ (bT _));refine R0 ?_
 |(with_reducible show fG _ _ _ _ _ (oE _));refine Q5 ?_
 |(with_reducible show fG _ _ _ _ _ (lR _));refine U8 ?_
 |(with_reducible show fG _ _ _ _ _ (gZ _ _));refine jP.pt ?_
 |(with_reducible show fG _ _ _ _ _ (oQ _ _));refine jP.pt ?_
 |(with_reducible show jP _ _ _ _ _ (gZ _ _));refine U9 ?_ ?_
 |(with_reducible show jP _ _ _ _ _ (oQ _ _));refine abr ?_ ?_
 |(with_reducible show jP _ _ _ _ _ _);(first |refine N3 ?_ |refine aae ?_)
 |(with_reducible show aX _ _ _ _ _ (oA _ _));refine abG ?_ ?_
 |(with_reducible show aX _ _ _ _ _ (vD _ _ _));refine ab5 ?_ ?_ ?_
 |(with_reducible show aX _ _ _ _ _ (mN dP _));refine abT ?_
 |(with_reducible show aX _ _ _ _ _ (mN cN _));refine aa0 ?_
 |(with_reducible show aX _ _ _ _ _ (eC _));refine R5 ?_
 |(with_reducible show aX _ _ _ _ _ (oH _ _ _ _));(first |refine Vp ?_ ?_ ?_ aan (by decide) |refine Vp ?_ ?_ ?_ abf (by decide))
 |(with_reducible show aX _ _ _ _ _ (dL _ _ _));refine acU ?_ ?_ ?_
 |(with_reducible show oR _ _ _ _ _ cO);exact B1
 |(with_reducible show oR _ _ _ _ _ (dI _));refine B4 ?_
 |(with_reducible show aX _ _ _ _ _ (fD _ _));refine Ky ?_ ?_
 |(with_reducible show aX _ _ _ _ _ (lM _ _));refine abo ?_ ?_
 |(with_reducible show aX _ _ _ _ _ (gM _ [] _));(first |refine acd (by assumption) hr (by decide) rfl ?_ |refine adk (by assumption) hr (by decide) rfl ?_)
 |(with_reducible show aX _ _ _ _ _ (aO _ [] _));refine acZ (by assumption) hr (by decide) rfl ?_
 |(with_reducible show aX _ _ _ _ _ (rM _ [] _));refine ab4 (by assumption) hr (by decide) rfl ?_
 |(with_reducible show aX _ _ _ _ _ (bG (kF "int") _));refine Ar (n:="int") rfl m.m_isinstance rfl m.m_int Cp ?_
 |(with_reducible show aX _ _ _ _ _ (bG (kF "bool") _));refine Ar (n:="bool") rfl m.m_isinstance rfl m.m_bool U3 ?_
 |(with_reducible show aX _ _ _ _ _ (mR fE _));refine pF Jv acS rfl m.m_len aaM ?_
 |(with_reducible show aX _ _ _ _ _ (mR lP _));refine pF B8 adg rfl m.m_abs aaY ?_
 |(with_reducible show aX _ _ _ _ _ (mR rW _));refine pF (K8 rfl) adi rfl m.m_all aax ?_
 |(with_reducible show aX _ _ _ _ _ (mR fL _));refine Ia Bv O1 rfl m.m_tuple Zk ?_
 |(with_reducible show aX _ _ _ _ _ (mR kA _));refine Ia Gv O0 rfl m.m_list aaq ?_
 |(with_reducible show aX _ _ _ _ _ (mR kQ _));refine Ia Ux ac8 rfl m.m_int Cp ?_
 |(with_reducible show aX _ _ _ _ _ (mR qD _));refine pF (Yy rfl) acn rfl m.m_sum abl ?_
 |(with_reducible show aX _ _ _ _ _ (mR tJ _));refine pF Dx aaQ rfl m.m_sorted Bz ?_
 |(with_reducible show aX _ _ _ _ _ (mR oF _));refine pF (Oz rfl) acb rfl m.m_min aaU ?_
 |(with_reducible show aX _ _ _ _ _ (mR rV _));refine pF (Gy rfl) acY rfl m.m_max aa4 ?_
 |(with_reducible show aX _ _ _ _ _ (aT _ _ _ _ _));(first |refine Z5 (by first |exact Sr |exact Yp |exact Kp |exact Bp) ?_ rfl (λ_ _ _ _=> ?_) (λ_ _ _ _=> ?_) |refine C9 aa7 ?_ rfl (λ_ _ _ _=> ?_) (λ_ _ _ _=> ?_))
 |(with_reducible show PIp _ _ _ _ _ _ (dX _));refine T6 rfl m.m_zip ?_
 |(with_reducible show PIp _ _ _ _ _ _ (xZ _));refine C0 rfl m.m_enumerate ?_
 |(with_reducible show PIp _ _ _ _ _ _ (dC _));refine Kx rfl m.m_range ?_
 |(with_reducible show PIp _ _ _ _ _ _ (jJ _));refine Mw rfl m.m_range ?_
 |(with_reducible show PIp _ _ _ _ _ _ (aY _));refine Q1 ?_
 |(with_reducible show lX _ _ _ (gN _));exact J8 (by first |exact nd |(show(dH _ _).Nodup;decide+kernel)) rfl (by first |exact gq rfl |exact fy rfl)
 |(with_reducible show lX _ _ _ (gT _ _));refine T8 rfl ?_
 |(with_reducible show qE _ _ _ cQ);exact B3
 |(with_reducible show qE _ _ _ (bV _ _));refine Fy ?_ ?_
 |(with_reducible show fX _ _ _ _ _ (uL _));refine M8 ?_
 |(with_reducible show rZ _ _ _ _ _ (lK _ _));refine Qz ?_ ?_
 |(with_reducible show rZ _ _ _ _ _ (sD _ _));refine J4 _ ?_
 |(with_reducible show fX _ _ _ _ _ dZ);exact J6
 |(with_reducible show fX _ _ _ _ _ (aI _ _));refine Hj ?_ ?_
 |(with_reducible show fX _ _ _ _ _ _);refine Fl ?_
 |(with_reducible show eN _ _ _ _ _ (bC _));refine An ?_
 |(with_reducible show eN _ _ _ _ _ (cZ _ _ _));refine aaw ?_ ?_ ?_
 |(with_reducible show eN _ _ _ _ _ (fK _));refine A6 ?_
 |(with_reducible show eN _ _ _ _ _ (pP _));exact Lz rfl (by assumption) (by assumption)
 |(with_reducible show eN _ _ _ _ _ (aQ _ (aT _ _ _ _ _)));(first |refine K3 nd rfl (by first |exact gq rfl |exact fy rfl) (by first |exact Sr |exact Yp |exact Kp |exact Bp) ?_ rfl (λ_ _ _ _=> ?_) (λ_ _ _ _=> ?_) |refine Hm nd rfl (by first |exact gq rfl |exact fy rfl) ?_)
 |(with_reducible show eN _ _ _ _ _ (aQ _ _));refine Hm nd rfl (by first |exact gq rfl |exact fy rfl) ?_
 |(with_reducible show eN _ _ _ _ _ (mW _ _ _));refine O2 rfl nd rfl rfl (by decide) rfl rfl ?_ rfl
 |(with_reducible show eN _ _ _ _ _ (xR _ _ _));refine P6 rfl ?_ ?_
 |(with_reducible show eN _ _ _ _ _ (sA _ _));refine Y9 ?_ ?_
 |(with_reducible show eN _ _ _ _ _ (mK _ _ _));refine By ?_ ?_ ?_
 |(with_reducible show eN _ _ _ _ _ (pW _ _));refine G4 nd rfl (by first |exact gq rfl |exact fy rfl) ?_
 |(with_reducible show eN _ _ _ _ _ (lJ _ _ _));(first |refine Hl nd rfl (by first |exact gq rfl |exact fy rfl) ?_ aaT |refine Hl nd rfl (by first |exact gq rfl |exact fy rfl) ?_ aaS)
 |(with_reducible show eN _ _ _ _ _ (nT _ _));refine Vy (by first |exact o0 |exact o4) ?_ ?_
 |(with_reducible show eN _ _ _ _ _ (bR _ _ _));refine Z7 (by first |exact o0 |exact o4) rfl ?_ ?_ ?_)<;>trivial)
set_option hygiene true
section
variable{B:Bx}(X:XG B.K B.mg)(m:Mg B.mg)
include X m
theorem S6(h:HF B.K "sign" Ep):wS B:=cJ (N:=["number"]) X h cC λnd _ _ _ _ _ _ _ hr=>by unfold Rc;trivial
theorem Ox(h:HF B.K "divisor" Li):vN B:=cJ (N:=["one","other","rest"]) X h cC λnd _ _ _ _ _ _ _ hr=>by unfold Qa;trivial
theorem Uw(h:HF B.K "reduced" Kj)(C_divisor:vN B):Th B:=cJ (N:=["numbers","common","number"]) X h cC λnd _ _ _ _ _ _ _ hr=>by unfold Ja;trivial
theorem Vv{f:Addr}{fd:br}{dsv:Array Value}(F:mT B.K "fraction" "fraction" sT f fd dsv)(C_sign:wS B)(C_divisor:vN B)(q_NoNumber:B.mg "NoNumber"=some (.ref (B.cl "NoNumber")))(x_NoNumber:gg B.K (B.cl "NoNumber") iV "ValueError.__new__"=true):eD B.P B.w B.K B.mg B.base (dA B.P B.w) 2 f fd ["top","bottom"] (kJ B.K B.cl kX):=Ut (N:=["top","bottom","common"]) F cC λnd _ _ _ _ _ _ _ hr=>by unfold Aa;trivial
theorem Tw(h:HF B.K "divided" Bj)(H_fraction:vH B):Fh B:=cJ (N:=["one","other"]) X h cC λnd _ _ _ _ _ _ _ hr=>by unfold Ua;trivial
theorem Iz(h:HF B.K "shared" El)(H_fraction:vH B)(C_divisor:vN B):Oi B:=cJ (N:=["one","other"]) X h cC λnd _ _ _ _ _ _ _ hr=>by unfold Vb;trivial
theorem B9{f:Addr}{fd:br}{dsv:Array Value}(F:mT B.K "point" "point" tL f fd dsv)(C_reduced:Th B)(C_sign:wS B)(q_NoPoint:B.mg "NoPoint"=some (.ref (B.cl "NoPoint")))(x_NoPoint:gg B.K (B.cl "NoPoint") iV "ValueError.__new__"=true):eD B.P B.w B.K B.mg B.base (dA B.P B.w) 3 f fd ["numbers","bottom"] (kJ B.K B.cl nS):=Ut (N:=["numbers","bottom"]) F cC λnd _ _ _ _ _ _ _ hr=>by unfold Xb;trivial
theorem Jw(h:HF B.K "measures" Uh)(H_fraction:vH B):zR B:=cJ (N:=["p"]) X h cC λnd _ _ _ _ _ _ _ hr=>by unfold Ba;trivial
theorem Iw(h:HF B.K "point_at" Ih)(H_point:Ub B):Yg B:=cJ (N:=["parts","bottom","part"]) X h cC λnd _ _ _ _ _ _ _ hr=>by unfold vK;trivial
theorem Yz(h:HF B.K "added" Fo)(H_point:Ub B):Il B:=cJ (N:=["p","q","numbers"]) X h cC λnd _ _ _ _ _ _ _ hr=>by unfold Ac;trivial
theorem Sz(h:HF B.K "turned" Xk):Tj B:=cJ (N:=["p"]) X h cC λnd _ _ _ _ _ _ _ hr=>by unfold Cb;trivial
theorem Xv(h:HF B.K "lessened" Sh)(C_added:Il B)(C_turned:Tj B):zN B:=cJ (N:=["p","q"]) X h cC λnd _ _ _ _ _ _ _ hr=>by unfold Ca;trivial
theorem Uu(h:HF B.K "whole_arrow" Fg):Wf B:=cJ (N:=["start","end"]) X h cC λnd _ _ _ _ _ _ _ hr=>by unfold zG;trivial
theorem aav(h:HF B.K "dot" Qs):Yq B:=cJ (N:=["u","v"]) X h cC λnd _ _ _ _ _ _ _ hr=>by unfold Ke;trivial
theorem Py(h:HF B.K "normal" Vj):Ji B:=cJ (N:=["arrows","u","v"]) X h cC λnd _ _ _ _ _ _ _ hr=>by unfold wD;trivial
theorem Wu(h:HF B.K "determinant" Ig)(C_whole_arrow:Wf B)(C_dot:Yq B)(C_normal:Ji B):Xf B:=cJ (N:=["points","rows"]) X h cC λnd _ _ _ _ _ _ _ hr=>by unfold vE;trivial
theorem U4(h:HF B.K "side" Po)(C_sign:wS B)(C_determinant:Xf B):No B:=cJ (N:=["points"]) X h cC λnd _ _ _ _ _ _ _ hr=>by unfold xA;trivial
theorem Tv(h:HF B.K "replaced" Ci):Tg B:=cJ (N:=["row","place","value"]) X h cC λnd _ _ _ _ _ _ _ hr=>by unfold Ha;trivial
theorem Cw(h:HF B.K "standing" Vh)(C_side:No B)(C_replaced:Tg B):Ah B:=cJ (N:=["piece","p"]) X h cC λnd _ _ _ _ _ _ _ hr=>by unfold zV;trivial
theorem Uv(h:HF B.K "count_at" Kh)(C_standing:Ah B)(q_OnSide:B.mg "OnSide"=some (.ref (B.cl "OnSide")))(x_OnSide:gg B.K (B.cl "OnSide") iV "ValueError.__new__"=true):Vg B:=Lu (N:=["heap","p","count","piece","stand"]) X h cC λnd _ _ _ _ _ _ _ hr=>by unfold zT;trivial
theorem I0(h:HF B.K "steps" Rn)(C_measures:zR B)(C_lessened:zN B)(C_shared:Oi B):Jk B:=cJ (N:=["heaps","found","heap","piece","p","parts","known"]) X h cC λnd _ _ _ _ _ _ _ hr=>by unfold wQ;trivial
theorem Zv(h:HF B.K "in_steps" Oh)(C_point_at:Yg B)(C_measures:zR B)(C_divided:Fh B):zS B:=cJ (N:=["p","grid"]) X h cC λnd _ _ _ _ _ _ _ hr=>by unfold vP;trivial
theorem Ay(h:HF B.K "folded" Xl)(C_in_steps:zS B)(C_lessened:zN B):Qi B:=cJ (N:=["piece","grid"]) X h cC λnd _ _ _ _ _ _ _ hr=>by unfold Ab;trivial
theorem Pu(h:HF B.K "in_first_cell" Tf):Sf B:=cJ (N:=["p"]) X h cC λnd _ _ _ _ _ _ _ hr=>by unfold zF;trivial
theorem Fv(h:HF B.K "spots_over" Qg):Dg B:=cJ (N:=["piece","p","rows","k","numbers","longer","row"]) X h cC λnd _ _ _ _ _ _ _ hr=>by unfold zL;trivial
theorem Ry(h:HF B.K "layers" Ql)(C_in_first_cell:Sf B)(C_in_steps:zS B)(C_folded:Qi B)(C_spots_over:Dg B)(H_count_at:Vg B):Ka B:=Lu (N:=["heap","grid","p","near","count","piece","pushed","spot"]) X h cC λnd _ _ _ _ _ _ _ hr=>by unfold tG;trivial
theorem T7(h:HF B.K "_law_row" Wp):Em B:=cJ (N:=["_law_script","_law_row_here","_law_k","_law_cell","_law_one","_law_two","_law_three"]) X h cC λnd _ _ _ _ _ _ _ hr=>by unfold Od;trivial
theorem J9(h:HF B.K "_law_take" Kn):mF B:=cJ (N:=["_law_row_here","_law_many","_law_found"]) X h cC λnd _ _ _ _ _ _ _ hr=>by unfold wK;trivial
theorem W7(h:HF B.K "_law_gcd" Mq):Zm B:=cJ (N:=["_law_one","_law_other"]) X h cC λnd _ _ _ _ _ _ _ hr=>by unfold Tc;trivial
theorem Qx(h:HF B.K "_law_lowest" Mi)(C_wgcd:Zm B):oW B:=cJ (N:=["_law_numbers","_law_by","_law_number"]) X h cC λnd _ _ _ _ _ _ _ hr=>by unfold vX;trivial
theorem Ey(h:HF B.K "_law_whole" Cm):qW B:=cJ (N:=["_law_number"]) X h cC λnd _ _ _ _ _ _ _ hr=>by unfold Gb;trivial
theorem A9(h:HF B.K "_law_frac" Vm)(C_wlowest:oW B):rC B:=cJ (N:=["_law_top","_law_bottom"]) X h cC λnd _ _ _ _ _ _ _ hr=>by unfold Cc;trivial
theorem aac(h:HF B.K "_law_sum" Aq)(C_wfrac:rC B):Ao B:=cJ (N:=["_law_one","_law_other"]) X h cC λnd _ _ _ _ _ _ _ hr=>by unfold Jd;trivial
theorem Vz(h:HF B.K "_law_times" Kl)(C_wfrac:rC B):vU B:=cJ (N:=["_law_one","_law_other"]) X h cC λnd _ _ _ _ _ _ _ hr=>by unfold Bb;trivial
theorem Sw(h:HF B.K "_law_joined" Dj)(C_wlowest:oW B):Wh B:=cJ (N:=["_law_p","_law_q","_law_way","_law_far_here"]) X h cC λnd _ _ _ _ _ _ _ hr=>by unfold Na;trivial
theorem Q3(h:HF B.K "_law_gap" Dq):Pm B:=cJ (N:=["_law_p","_law_q"]) X h cC λnd _ _ _ _ _ _ _ hr=>by unfold Vc;trivial
theorem Jy(h:HF B.K "_law_cross" Dl):Lj B:=cJ (N:=["_law_u","_law_v","_law_x","_law_y","_law_z"]) X h cC λnd _ _ _ _ _ _ _ hr=>by unfold Tb;trivial
theorem Q9(h:HF B.K "_law_dot" Oo):Ln B:=cJ (N:=["_law_u","_law_v"]) X h cC λnd _ _ _ _ _ _ _ hr=>by unfold Fd;trivial
theorem Zz(h:HF B.K "_law_turn" Om)(C_wdot:Ln B)(C_wcross:Lj B):Ib B:=cJ (N:=["_law_ways"]) X h cC λnd _ _ _ _ _ _ _ hr=>by unfold tQ;trivial
theorem aaf(h:HF B.K "_law_det" Ro)(C_wturn:Ib B)(C_wgap:Pm B):Kc B:=cJ (N:=["_law_points"]) X h cC λnd _ _ _ _ _ _ _ hr=>by unfold xL;trivial
theorem Nv(h:HF B.K "_law_simplex" Zh)(C_wdet:Kc B):Rg B:=cJ (N:=["_law_points","_law_told"]) X h cC λnd _ _ _ _ _ _ _ hr=>by unfold vO;trivial
theorem K0(h:HF B.K "_law_bulk" Co)(C_wfrac:rC B)(C_wdet:Kc B):Ol B:=cJ (N:=["_law_points","_law_under","_law_p"]) X h cC λnd _ _ _ _ _ _ _ hr=>by unfold Yb;trivial
theorem Cv(h:HF B.K "_law_heap_bulk" Jg)(C_wsum:Ao B)(C_wbulk:Ol B):Cg B:=cJ (N:=["_law_heap","_law_told","_law_points"]) X h cC λnd _ _ _ _ _ _ _ hr=>by unfold zM;trivial
theorem Hv(h:HF B.K "_law_raw_turn" Wg)(C_wturn:Ib B):Og B:=cJ (N:=["_law_corners"]) X h cC λnd _ _ _ _ _ _ _ hr=>by unfold zO;trivial
theorem X4(h:HF B.K "_law_raw" To)(C_wtake:mF B)(C_wraw_turn:Og B):Jm B:=cJ (N:=["_law_row_here","_law_dims","_law_wide","_law_corners","_law_k"]) X h cC λnd _ _ _ _ _ _ _ hr=>by unfold xH;trivial
theorem S8(h:HF B.K "_law_far" Qp)(C_wtake:mF B)(C_wlowest:oW B):En B:=cJ (N:=["_law_row_here","_law_dims","_law_kind","_law_wide","_law_under","_law_far_here"]) X h cC λnd _ _ _ _ _ _ _ hr=>by unfold Ld;trivial
theorem Fw(h:HF B.K "_law_stretch" Mh)(C_wtake:mF B)(C_wfrac:rC B):Zg B:=cJ (N:=["_law_row_here","_law_dims","_law_told","_law_k","_law_kind"]) X h cC λnd _ _ _ _ _ _ _ hr=>by unfold zX;trivial
theorem J5(h:HF B.K "_law_spot" Bo)(C_wlowest:oW B):Ik B:=cJ (N:=["_law_corner","_law_stretch_here","_law_under","_law_part","_law_far_here"]) X h cC λnd _ _ _ _ _ _ _ hr=>by unfold wV;trivial
theorem L0(h:HF B.K "_law_laid" Qn)(C_wfar:En B)(C_wsimplex:Rg B)(C_wjoined:Wh B)(C_wspot:Ik B):Fk B:=cJ (N:=["_law_row_here","_law_heap","_law_stretch_here","_law_told","_law_corners","_law_far_here"]) X h cC λnd _ _ _ _ _ _ _ hr=>by unfold Fc;trivial
theorem Lw(h:HF B.K "_law_handed" Hi)(C_wtake:mF B):Nh B:=cJ (N:=["_law_row_here","_law_rows"]) X h cC λnd _ _ _ _ _ _ _ hr=>by unfold vT;trivial
theorem Qv(h:HF B.K "_law_alike" sZ):cH B "_law_alike" 1 ["_law_told","_law_due"] Lh:=cJ (N:=["_law_told","_law_due"]) X h cC (k:=0) λnd _ _ _ _ _ _ _ hr=>B6
theorem Mv(h:HF B.K "_law_alike" sZ)(C_wwhole:qW B):cH B "_law_alike" 2 ["_law_told","_law_due"] vM:=by have C_rec:=Qv X m h;exact cJ (N:=["_law_told","_law_due"]) (k:=1) X h cC λnd _ _ _ _ _ _ _ hr=>by unfold mG;trivial
theorem Dw(h:HF B.K "_law_alike" sZ)(C_wwhole:qW B):cH B "_law_alike" 3 ["_law_told","_law_due"] Yh:=by have C_rec:=Mv X m h C_wwhole;exact cJ (N:=["_law_told","_law_due"]) (k:=2) X h cC λnd _ _ _ _ _ _ _ hr=>by unfold mG;trivial
theorem Dy(h:HF B.K "_law_alike" sZ)(C_wwhole:qW B):cH B "_law_alike" 4 ["_law_told","_law_due"] nN:=by have C_rec:=Dw X m h C_wwhole;exact cJ (N:=["_law_told","_law_due"]) (k:=3) X h cC λnd _ _ _ _ _ _ _ hr=>by unfold mG;trivial
theorem Qw(h:HF B.K "_law_parted" Ni):Hh B:=cJ (N:=["_law_corners","_law_a","_law_b","_law_c","_law_ab","_law_ac","_law_bc","_law_four"]) X h cC λnd _ _ _ _ _ _ _ hr=>by unfold Oa;trivial
theorem Av(h:HF B.K "_law_two_alike" Kg)(C_wtake:mF B)(C_wraw:Jm B)(C_wparted:Hh B):Gg B:=cJ (N:=["_law_row_here","_law_one","_law_other","_law_k","_law_corners","_law_kind","_law_great","_law_four"]) X h cC λnd _ _ _ _ _ _ _ hr=>by unfold zK;trivial
theorem Vu(h:HF B.K "_law_plain_kuhn" Hg)(C_wtake:mF B):Vf B:=cJ (N:=["_law_row_here","_law_rest","_law_corner","_law_corners","_law_k"]) X h cC λnd _ _ _ _ _ _ _ hr=>by unfold zI;trivial
theorem E9(h:HF B.K "_law_over" Km)(H_layers:Ka B)(q_OnSide:B.mg "OnSide"=some (.ref (B.cl "OnSide")))(x_OnSide:gg B.K (B.cl "OnSide") iV "ValueError.__new__"=true):Hb B:=cJ (N:=["_law_heap","_law_grid","_law_p","_law_told"]) X h cC λnd _ _ _ _ _ _ _ hr=>by obtain⟨a_layers,d_layers,GX_layers,G_layers,tG,k_layers,n_layers⟩:=H_layers;exact(Hj (L3 (jv:=3) (nn:=4) (c:="OnSide") (up:=λρ=>(ρ.set 3 (some (.pv .non)))) rfl nd rfl q_OnSide x_OnSide (U5 rfl GX_layers (hr.mono (by decide)) rfl n_layers k_layers tG .nil Dv.nil (wI (uB 0) (wI (uB 1) (wI (uB 2) Tn)))) rfl (gq rfl) (λy=>(Oc (Qq (i:=3) nd rfl (gq rfl) abL))) (λD σ H p S ρ sm hl ev k=>by match σ,hl,ev with |[s0,s1,s2,s3],_,ev=>exact k _ _ (dG.refl _) (ev.set (v:=.pv .non) (x:=.non) (by show aW _ _ _ _ _;unfold aW;rfl) 3))) (Fl (An (uB 3))))
theorem E5(h:HF B.K "_law_near" Io)(C_wtake:mF B)(C_wtimes:vU B)(C_wfrac:rC B)(C_wlowest:oW B):Bk B:=cJ (N:=["_law_row_here","_law_grid","_law_under","_law_far_here","_law_step","_law_tops","_law_bottom","_law_part"]) X h cC λnd _ _ _ _ _ _ _ hr=>by unfold Jc;trivial
theorem Zu(h:HF B.K "_law_cell_bulk" Ng)(C_wtimes:vU B):Bg B:=cJ (N:=["_law_grid","_law_told","_law_step"]) X h cC λnd _ _ _ _ _ _ _ hr=>by unfold zJ;trivial
theorem Tu(h:HF B.K "_law_flat_right" Eg)(C_wover:Hb B)(C_wtimes:vU B)(C_wheap_bulk:Cg B)(C_wwhole:qW B)(C_wcell_bulk:Bg B):Uf B:=cJ (N:=["_law_row_here","_law_heap","_law_grid","_law_p","_law_many","_law_mate","_law_due"]) X h cC λnd _ _ _ _ _ _ _ hr=>by unfold zH;trivial
theorem abg{f:Addr}{fd:br}(F:jB B.K "law" "law" nZ f fd)(C_wrow:Em B)(C_wtake:mF B)(C_wtwo_alike:Gg B)(C_wplain_kuhn:Vf B)(C_wstretch:Zg B)(C_wlaid:Fk B)(C_steps:Jk B)(C_whanded:Nh B)(C_walike:Cy B)(C_wlowest:oW B)(C_wnear:Bk B)(C_wover:Hb B)(C_wwhole:qW B)(C_wflat_right:Uf B)(H_layers:Ka B):eD B.P B.w B.K B.mg B.base fV 10 f fd ["_law_script"] (lO B.K B.cl Vd):=mkR (N:=["_law_script","_law_row_here","_law_dims","_law_raw_here","_law_one","_law_stretch_here","_law_heaps","_law_grid","_law_k","_law_p","_law_found","_law_many"]) F cC λnd _ _ _ _ _ _ _ hr=>by unfold Wd;trivial
end
local macro_rules
 | `(tactic|simp! [$l,*] $[$loc:location]?)=>`(tactic|simp[fO,aI,cZ,bT,lR,gZ,oQ,oA,adF,vD,aC,bG,mR,mN,aB,aA,mC,aD,cD.bind,uI,kO,oB,Td,jK,rd,oC,iG,fE,dP,cN,bX,uN,kT,cP.of,bC,ab3,dZ,fK,aQ,kM,iD,aO,gM,rM,lP,fL,kA,eB,kG,frz,kP,$l,*] $[$loc]?)
theorem Tl(S:aG)(k:Nat)(o:SO):(S.set k o).take S.length=S.set k o:=tm (by simp)
def fZ(S:aG)(k:Nat)(ns:AB):Prop:=S[k]?=some (.lst (ns.map .int))
theorem fZ.lt{S:aG}{k:Nat}{ns:AB}(h:fZ S k ns):k<S.length:=(da.mp h).1
theorem fZ.set{S:aG}{k:Nat}{ns:AB}(h:fZ S k ns)(ms:AB):fZ (S.set k (.lst (ms.map .int))) k ms:=ie h.lt
theorem Bh{r:bY}{k:Nat}{m:AV}:∀(ns:AB)(S:aG),fZ S k ns->∃n ns',eK (gZ (bT (aC hJ (mR fE (aB (aA 0) aD)) (mC (.int 0)))) (bT (aC eB (aC aE (aA 0) (mC (.int 0))) (mC (.int 0))))) (fK (lM (aA 0) (aB (mC (.int 0)) aD))) n (some (.ref k)::some m::r) S=.nx (some (.ref k)::some m::r) (S.set k (.lst (ns'.map .int)))/\ns'.length<=ns.length/\(ns'=[]\/∃i t,ns'=i::t/\i≠0)
 |[],S,h=>by
  refine⟨1,[],?_,aq _,.inl rfl⟩;have h':S[k]?=some (.lst []):=h;have e:S.set k (.lst (([]:AB).map .int))=S:=qo λi=>by
   by_cases q:k=i
   .subst q;rw[ie h.lt,h'];rfl
   .rw[jf q]
  rw[e];simp[eK,gZ,bT,aC,mR,aB,aA,mC,aD,cD.bind,oB,jK,rd,h',iG,fE,kO,hJ,i2,kT,cP.of]
 |i::t,S,h=>by
  have h':S[k]?=some (.lst (.int i::t.map .int)):=h
  by_cases hi:i=0
  .subst hi
   have hr:fZ (S.set k (.lst (t.map .int))) k t:=h.set t;obtain⟨n,ns',e,l,q⟩:=Bh (r:=r) (m:=m) t _ hr;refine⟨n+1,ns',?_,by simp;omega,q⟩;rw[mj]at e;rw[<-e];have hl:(0:Int)<(t.length:Int)+1:=by omega
   simp[eK,gZ,bT,aC,mR,aB,aA,mC,aD,cD.bind,oB,jK,rd,h',iG,fE,kO,hJ,i2,kT,cP.of,aE,aZ,bA,eB,aP,fK,lM,fW,pZ,seqIndex?,hl]
  .refine⟨1,i::t,?_,aq _,.inr ⟨i,t,rfl,hi⟩⟩
   have e:S.set k (.lst ((i::t).map .int))=S:=qo λj=>by
    by_cases q:k=j
    .subst q;rw[ie h.lt,h'];rfl
    .rw[jf q]
   rw[e];have hl:(0:Int)<(t.length:Int)+1:=by omega
   simp[eK,gZ,bT,aC,mR,aB,aA,mC,aD,cD.bind,oB,jK,rd,h',iG,fE,kO,hJ,i2,kT,cP.of,aE,aZ,bA,eB,aP,hl,hi]
theorem lE{S:aG}{k:Nat}{ns:AB}{m:Int}(h:fZ S k ns)(hm:0<m)(b:Bd 8000 m):∃(v:Int)(ns':AB),dN [.ref k,.pv (.int m)] S=.ok (.pv (.int v)) (S.set k (.lst (ns'.map .int)))/\0<=v/\v<m/\ns'.length<=ns.length:=by
 obtain⟨n,ns',e,l,q⟩:=Bh (r:=[none]) (m:=.pv (.int m)) ns S h;have hr:=h.set ns';have hl1:(S.set k (.lst (ns'.map .int))).length=S.length:=by simp
 have hss:∀x,(S.set k (.lst (ns'.map .int))).set k x=S.set k x:=λx=>mj ..;generalize hS1:S.set k (.lst (ns'.map .int))=S1 at e hr hl1 hss;have w:=La e (by simp);rcases q with rfl |⟨i,t,rfl,hi⟩
 .refine⟨0,[],?_,qj 0,hm,ja _⟩
  rw[hS1];have hr':S1[k]?=some (.lst []):=hr;have tk:xf S.length S1=S1:=tm (by omega);unfold dN aR wK;simp[fO,aI,w,cZ,bT,aC,mR,aB,aA,mC,aD,cD.bind,oB,jK,rd,hr',iG,fE,kO,eB,aP,kT,cP.of,bC,kM,iD,tk]
 .have hr':S1[k]?=some (.lst (.int i::t.map .int)):=hr
  refine⟨i.fmod m,i.fdiv m::t,?_,mq i hm,ox i hm,l⟩;rw[<-hss];have tk:∀x,xf S.length (S1.set k x)=S1.set k x:=λx=>tm (by simp;omega);have hl:¬((t.length:Int)+1=0):=by omega
  have hq:qC i m:=⟨by omega,b⟩;have hm0:m≠0:=by omega
  unfold dN aR wK;simp[fO,aI,w,cZ,bT,aC,mR,aB,aA,mC,aD,cD.bind,oB,jK,rd,hr',iG,fE,kO,eB,aP,kT,cP.of,bC,kM,iD,tk,dZ,hl,aQ,fN,eI,i2,cI,aE,aZ,bA,hm0,hq,mK,fW,pU]
theorem aM(i j:Int):hJ (.int i) (.int j)=some (.bl (decide (j<i))):=rfl
theorem aN(i j:Int):jS (.int i) (.int j)=some (.bl (decide (i<j))):=rfl
theorem aK(i j:Int):sG (.int i) (.int j)=some (.bl (decide (j<=i))):=rfl
theorem aL(i j:Int):fLe (.int i) (.int j)=some (.bl (decide (i<=j))):=rfl
theorem aJ(i j:Int):eV (.int i) (.int j)=some (.int (i-j)):=rfl
theorem iS{i j:Int}(h:qB i j):aS (.int i) (.int j)=some (.int (i*j)):=by
 simp[aS,i2,cI,h]
theorem jV{i j:Int}(h:qC i j):eI (.int i) (.int j)=some (.int (i.fdiv j)):=by
 simp[eI,i2,cI,h]
theorem mH{i j:Int}(h:j≠0):fN (.int i) (.int j)=some (.int (i.fmod j)):=by
 simp[fN,i2,cI,h]
theorem wL{i j:Int}(h:yP i j):gY (.int i) (.int j)=some (.int (i^j.toNat)):=by
 simp[gY,i2,cI,h]
theorem wM(n:Int)(S:aG):pR [.pv (.int n)] S=.ok (.pv (.int (sg n))) S:=by
 unfold pR aR Rc sg
 by_cases h1:0<n
 .simp[fO,aI,cZ,bT,aC,aA,mC,cD.bind,kO,rd,iG,hJ,i2,kT,cP.of,bC,kM,iD,h1]
 .by_cases h2:n<0
  .simp[fO,aI,cZ,bT,aC,aA,mC,cD.bind,kO,rd,iG,hJ,jS,i2,kT,cP.of,bC,kM,iD,h1,h2,dZ,bG,uI,bX]
  .simp[fO,aI,cZ,bT,aC,aA,mC,cD.bind,kO,rd,iG,hJ,jS,i2,kT,cP.of,bC,kM,iD,h1,h2,dZ,bG,uI,bX]
theorem Ag(S:aG):∀(m:Nat)(a b:Int)(x:AM),b.natAbs<=m->∃(n:Nat)(g:Int)(x':AM),eK (bT (aC kG (aA 1) (mC (.int 0)))) (aI (aQ 2 (aC fN (aA 0) (aA 1))) (aI (aQ 0 (aA 1)) (aQ 1 (aA 2)))) n [some (.pv (.int a)),some (.pv (.int b)),x] S=.nx [some (.pv (.int g)),some (.pv (.int 0)),x'] S/\g.natAbs=bf a b
 |0,a,b,x,h=>by
  have hb:b=0:=by omega
  subst hb;refine⟨1,a,x,?_,by simp⟩;simp! [eK,aE,aZ,bA,aP,aM,aN,aK,aL,aF,aJ]
 |m+1,a,b,x,h=>by
  by_cases hb:b=0
  .subst hb
   refine⟨1,a,x,?_,by simp⟩;simp! [eK,aE,aZ,bA,aP,aM,aN,aK,aL,aF,aJ]
  .have hl:=Cj a hb
   obtain⟨n,g,x',e,q⟩:=Ag S m b (a.fmod b) (some (.pv (.int (a.fmod b)))) (by omega);refine⟨n+1,g,x',?_,by rw[q,Jl]⟩;rw[<-e];simp! [eK,aE,aZ,bA,aP,aM,aN,aK,aL,aF,aJ,mH hb,hb]
theorem Da(a b:Int)(S:aG):pA [.pv (.int a),.pv (.int b)] S=.ok (.pv (.int (bf a b:Nat))) S:=by
 obtain⟨n,g,x',e,q⟩:=Ag S b.natAbs a b none (aq _);have w:=La e (by simp);unfold pA aR Qa;have hg:(if g<0 then-g else g)=((bf a b:Nat):Int):=by rw[<-q];exact Kd g
 simp! [aE,aZ,bA,aP,aM,aN,aK,aL,aF,aJ,w,hg]
theorem Xi(S:aG):∀(m:Nat)(a b:Int),0<=a->0<=b->b.natAbs<=m->∃(n:Nat),eK (bT (aC hJ (aA 1) (mC (.int 0)))) (mW 0 1 (aB (aA 1) (aB (aC fN (aA 0) (aA 1)) aD))) n [some (.pv (.int a)),some (.pv (.int b))] S=.nx [some (.pv (.int (bf a b:Nat))),some (.pv (.int 0))] S
 |0,a,b,ha,hb,h=>by
  have hb:b=0:=by omega
  subst hb;have ea:((bf a 0:Nat):Int)=a:=by simp;omega
  refine⟨1,?_⟩;rw[ea];simp! [eK,aE,aZ,bA,aP,aM,aN,aK,aL,aF,aJ]
 |m+1,a,b,ha,hb,h=>by
  by_cases h0:b=0
  .subst h0
   have ea:((bf a 0:Nat):Int)=a:=by simp;omega
   refine⟨1,?_⟩;rw[ea];simp! [eK,aE,aZ,bA,aP,aM,aN,aK,aL,aF,aJ]
  .have hl:=Cj a h0
   have hp:0<b:=by omega
   obtain⟨n,e⟩:=Xi S m b (a.fmod b) hb (mq a hp) (by omega);refine⟨n+1,?_⟩;rw[<-Jl,<-e];simp! [eK,aE,aZ,bA,aP,aM,aN,aK,aL,aF,aJ,mH h0,hp,mW]
theorem abj(a b:Int)(S:aG):uC [.pv (.int a),.pv (.int b)] S=.ok (.pv (.int (bf a b:Nat))) S:=by
 have ha:0<=(if a<0 then-a else a):=by split<;>omega
 have hb:0<=(if b<0 then-b else b):=by split<;>omega
 obtain⟨n,e⟩:=Xi S _ _ _ ha hb (aq _);have w:=La e (by simp);have eg:bf (if a<0 then-a else a) (if b<0 then-b else b)=bf a b:=by
  rw[Kd,Kd];simp[bf]
 rw[eg]at w;unfold uC aR Tc;simp! [aE,aZ,bA,aP,aM,aN,aK,aL,aF,aJ,w]
theorem Fb(S:aG)(v2:AM):∀(ns:AB)(g:Int)(a:AV),∃v',cM [] (gN 2) (aQ 1 (aO uC [] (aB (aA 1) (aB (aA 2) aD)))) (ns.map .int) [some a,some (.pv (.int g)),v2] S=.nx [some a,some (.pv (.int (gl ns g))),v'] S
 |[],g,a=>⟨v2,eQ⟩
 |n::ns,g,a=>by
  obtain⟨v',e⟩:=Fb S (some (.pv (.int n))) ns (bf g n:Nat) a;refine⟨v',?_⟩;show cM [] _ _ (.int n::ns.map .int) _ S=_;rw[dM];simp! [gN,aE,aZ,bA,aP,aM,aN,aK,aL,aF,aJ,abj];exact e
theorem wC(S:aG)(g:Int)(hg:g≠0)(b:Bd 8000 g):∀(ns:AB)(x:AM),cF [] (gN 0) (aC eI (aA 0) (aA 1)) (ns.map .int) [x,some (.pv (.int g))] S=.ok ((ns.map λn=>n.fdiv g).map .int) S
 |[],x=>dB
 |n::ns,x=>by
  have ih:=wC S g hg b ns (some (.pv (.int n)));show cF [] _ _ (.int n::ns.map .int) _ S=_;rw[dE];simp! [gN,aE,aZ,bA,aP,aM,aN,aK,aL,aF,aJ,jV (show qC n g from⟨hg,b⟩),ih]
theorem oZ(ns:AB)(S:aG)(hb:∀n∈ns,Bd 8000 n):gA [.pv (.lst (ns.map .int))] S=.ok (.pv (.tup ((low ns).map .int))) S:=by
 obtain⟨v',e⟩:=Fb S none ns 0 (.pv (.lst (ns.map .int)));unfold gA aR vX
 by_cases h:gl ns 0=0
 .have el:low ns=ns:=by unfold low;rw[if_pos h]
  simp! [aE,aZ,bA,aP,aM,aN,aK,aL,aF,aJ,bR,aY,bS,e,h,el]
 .have el:low ns=ns.map λn=>n.fdiv (gl ns 0):=by
   unfold low;rw[if_neg h];exact eh λn hn=>(om ((jZ ns 0).2 n hn)).symm
  have bg:Bd 8000 (gl ns 0):=xS (Bd.of (n:=0) (by simp) (ua 8000)) hb;have ec:=wC S (gl ns 0) h bg ns none;simp! [aE,aZ,bA,aP,aM,aN,aK,aL,aF,aJ,bR,aY,bS,e,h,el,aT,bZ,ec]
theorem Pb(n:Int)(S:aG):pH [.pv (.int n)] S=.ok (.pv (.bl true)) S:=by
 unfold pH aR Gb;simp! [aE,aZ,bA,aP,aM,aN,aK,aL,aF,aJ,kF]
theorem mQ(i:Int){j:Int}(h1:-(2^64)<j)(h2:j<2^64):aS (.int i) (.int j)=some (.int (i*j)):=iS (.inl (.inr ⟨h1,h2⟩))
theorem Ju:gY (.int 10) (.int 18)=some (.int 1000000000000000000):=wL (i:=10) (j:=18) ⟨by decide,by decide,by decide⟩
theorem Rb{k:Nat}{a:AV}:∀(cs:AB)(n:Nat)(acc:AB)(S:aG)(v2 v3 v4 v5 v6:AM),fZ S k acc->acc.length+cs.length<=63->n+cs.length<=63->∃(acc':AB)(w2 w3 w4 w5 w6:AM),cM [] (gT 2 (bV (gN 2) (bV (gN 3) cQ))) ((cZ (bT (aC sG (aA 3) (aC gY (mC (.int 10)) (mC (.int 18))))) (fK (fD (aA 1) (aB (aC eV (aA 3) (aC gY (mC (.int 10)) (mC (.int 18)))) aD))) (aI (aQ 4 (aC fN (aC aS (aC aF (aC aF (aC aF (aA 3) (aC aS (aC aS (mC (.int 7)) (aA 2)) (aA 2))) (aC aS (mC (.int 13)) (aA 2))) (mC (.int 5))) (mC (.int 48271))) (mC (.int 2147483647))))
 (aI (aQ 5 (aC fN (aC aS (aC aF (aC aF (aC aF (aA 3) (aC aS (aC aS (mC (.int 11)) (aA 2)) (aA 2))) (aC aS (mC (.int 17)) (aA 2))) (mC (.int 3))) (mC (.int 40692))) (mC (.int 2147483399))))
 (aI (aQ 6 (aC fN (aC aS (aC aF (aC aF (aC aF (aA 3) (aC aS (aC aS (mC (.int 5)) (aA 2)) (aA 2))) (aC aS (mC (.int 29)) (aA 2))) (mC (.int 8))) (mC (.int 39373))) (mC (.int 2147483587))))
 (aI (aQ 4 (aC fN (aC aS (aA 4) (mC (.int 52021))) (mC (.int 1000000007))))
 (aI (aQ 5 (aC fN (aC aS (aA 5) (mC (.int 30011))) (mC (.int 998244353))))
 (aI (aQ 6 (aC fN (aC aS (aA 6) (mC (.int 45989))) (mC (.int 1000000009))))
 (fK (fD (aA 1) (aB (aC aF (aC aS (aC aF (aC aS (aA 4) (mC (.int 998244353))) (aA 5)) (mC (.int 1000000009))) (aA 6)) aD))))))))))) (iX n (cs.map .int)) [some a,some (.ref k),v2,v3,v4,v5,v6] S=.nx [some a,some (.ref k),w2,w3,w4,w5,w6] (S.set k (.lst (acc'.map .int)))/\acc'.length<=63
 |[],n,acc,S,v2,v3,v4,v5,v6,h,hl,_=>by
  refine⟨acc,v2,v3,v4,v5,v6,?_,by simpa using hl⟩;have e:S.set k (.lst (acc.map .int))=S:=qo λj=>by
   by_cases q:k=j
   .subst q;rw[ie h.lt];exact h.symm
   .rw[jf q]
  rw[e];exact eQ
 |x::cs,n,acc,S,v2,v3,v4,v5,v6,h,hl,hn=>by
  simp only[cu]at hl hn;have h':S[k]?=some (.lst (acc.map .int)):=h;have hlen:acc.length<16777216:=by omega
  have hk1:-(2^64)<(n:Int):=by omega
  have hk2:(n:Int)<2^64:=by omega
  by_cases c:(1000000000000000000:Int)<=x
  .obtain⟨acc',w2,w3,w4,w5,w6,e,q⟩:=Rb (k:=k) (a:=a) cs (n+1) (acc++[x-1000000000000000000]) (S.set k (.lst ((acc++[x-1000000000000000000]).map .int))) (some (.pv (.int n))) (some (.pv (.int x))) v4 v5 v6 (h.set _) (by simp;omega) (by omega)
   refine⟨acc',w2,w3,w4,w5,w6,?_,q⟩;rw[mj]at e;rw[<-e];show cM [] _ _ (.tup [.int n,.int x]::iX (n+1) (cs.map .int)) _ S=_;rw[dM];simp! [gT,bV,cQ,gN,aE,aZ,bA,aP,aM,aN,aK,aL,aF,aJ,Ju,c,fD,fW,kE,h',hlen]
  .obtain⟨acc',w2,w3,w4,w5,w6,e,q⟩:=Rb (k:=k) (a:=a) cs (n+1) (acc++[((((x+7*n*n+13*n+5)*48271).fmod 2147483647*52021).fmod 1000000007*998244353+(((x+11*n*n+17*n+3)*40692).fmod 2147483399*30011).fmod 998244353)*1000000009+(((x+5*n*n+29*n+8)*39373).fmod 2147483587*45989).fmod 1000000009]) (S.set k (.lst ((acc++[((((x+7*n*n+13*n+5)*48271).fmod 2147483647*52021).fmod 1000000007*998244353+(((x+11*n*n+17*n+3)*40692).fmod 2147483399*30011).fmod 998244353)*1000000009+(((x+5*n*n+29*n+8)*39373).fmod 2147483587*45989).fmod 1000000009]).map .int))) (some (.pv (.int n))) (some (.pv (.int x))) (some (.pv (.int ((((x+7*n*n+13*n+5)*48271).fmod 2147483647*52021).fmod 1000000007)))) (some (.pv (.int ((((x+11*n*n+17*n+3)*40692).fmod 2147483399*30011).fmod 998244353)))) (some (.pv (.int ((((x+5*n*n+29*n+8)*39373).fmod 2147483587*45989).fmod 1000000009)))) (h.set _) (by simp;omega) (by omega)
   refine⟨acc',w2,w3,w4,w5,w6,?_,q⟩;rw[mj]at e;rw[<-e];show cM [] _ _ (.tup [.int n,.int x]::iX (n+1) (cs.map .int)) _ S=_;rw[dM];simp! [gT,bV,cQ,gN,aE,aZ,bA,aP,aM,aN,aK,aL,aF,aJ,Ju,c,fD,fW,kE,h',hlen,mQ _ hk1 hk2,mQ _ (show-(2^64)<(48271:Int) by decide) (by decide),mQ _ (show-(2^64)<(40692:Int) by decide) (by decide),mQ _ (show-(2^64)<(39373:Int) by decide) (by decide),mQ _ (show-(2^64)<(52021:Int) by decide) (by decide),mQ _ (show-(2^64)<(30011:Int) by decide) (by decide),mQ _ (show-(2^64)<(45989:Int) by decide) (by decide),mQ _ (show-(2^64)<(998244353:Int) by decide) (by decide),mQ _ (show-(2^64)<(1000000009:Int) by decide) (by decide),mH (show(2147483647:Int)≠0 by decide),mH (show(2147483399:Int)≠0 by decide),mH (show(2147483587:Int)≠0 by decide),mH (show(1000000007:Int)≠0 by decide),mH (show(998244353:Int)≠0 by decide),mH (show(1000000009:Int)≠0 by decide)]
theorem abI(ns:AB)(S:aG)(h:ns.length<=63):∃ms:AB,rJ [.pv (.lst (ns.map .int))] S=.ok (.ref S.length) (S++[.lst (ms.map .int)])/\ms.length<=63:=by
 have hr:fZ (S++[.lst []]) S.length []:=by unfold fZ;simp
 obtain⟨ms,w2,w3,w4,w5,w6,e,q⟩:=Rb (a:=.pv (.lst (ns.map .int))) ns 0 [] (S++[.lst []]) none none none none none hr (by simpa using h) (by simpa using h);have ec:jM (ns.map .int) none (some 63)=ns.map .int:=by
  unfold jM;have e1:HT.sIx (ns.map PV.int).length 0 none=0:=rfl;have e2:HT.sIx (ns.map PV.int).length (ns.map PV.int).length (some 63)=(ns.map PV.int).length:=by
   have:=HT.sIx_nat (ns.map PV.int).length (ns.map PV.int).length 63;rw[show((63:Nat):Int)=63 from rfl]at this;rw[this,ak];omega
  rw[e1,e2,j9,Nat.sub_zero,k7]
 refine⟨ms,?_,q⟩;have es:(S++[SO.lst []]).set S.length (.lst (ms.map .int))=S++[.lst (ms.map .int)]:=by simp
 rw[es]at e;unfold rJ aR Od;simp! [aE,aZ,bA,aP,aM,aN,aK,aL,aF,aJ,bR,eC,iZ,xZ,dL,cO,dI,fT,iA,Hd,ec,e]
theorem Im{L:AB}(h:gl L 0=1):low L=L:=by
 unfold low;rw[h,if_neg (by decide)]
 conv=>rhs;rw[<-su L]
 exact eh λn _=>Int.ediv_one n
def PT(L:AB)(b:Int):AB:=(low (L++[b])).map (sg b*·)
theorem adH{L:AB}{b:Int}(hb:b≠0):gl (L++[b]) 0≠0:=pV (jW L b) hb
theorem Fp{L:AB}{b:Int}(hb:0<b):PT L b=low (L++[b]):=by
 unfold PT sg;rw[if_pos hb]
 conv=>rhs;rw[<-su (low (L++[b]))]
 exact eh λn _=>dr n
theorem Qk(S:aG)(v2:AM):∀(ns:AB)(g:Int)(a:AV),∃v',cM [] (gN 2) (aQ 1 (aO pA [] (aB (aA 1) (aB (aA 2) aD)))) (ns.map .int) [some a,some (.pv (.int g)),v2] S=.nx [some a,some (.pv (.int (gl ns g))),v'] S
 |[],g,a=>⟨v2,eQ⟩
 |n::ns,g,a=>by
  obtain⟨v',e⟩:=Qk S (some (.pv (.int n))) ns (bf g n:Nat) a;refine⟨v',?_⟩;show cM [] _ _ (.int n::ns.map .int) _ S=_;rw[dM];simp! [gN,aE,aZ,bA,aP,aM,aN,aK,aL,aF,aJ,Da];exact e
theorem Ww(ns:AB)(S:aG)(hb:∀n∈ns,Bd 8000 n)(h:gl ns 0≠0):vW [.pv (.lst (ns.map .int))] S=.ok (.pv (.lst ((low ns).map .int))) S:=by
 obtain⟨v',e⟩:=Qk S none ns 0 (.pv (.lst (ns.map .int)));have el:low ns=ns.map λn=>n.fdiv (gl ns 0):=by
  unfold low;rw[if_neg h];exact eh λn hn=>(om ((jZ ns 0).2 n hn)).symm
 have bg:Bd 8000 (gl ns 0):=xS (Bd.of (n:=0) (by simp) (ua 8000)) hb;have ec:=wC S (gl ns 0) h bg ns none;unfold vW aR Ja;simp! [aE,aZ,bA,aP,aM,aN,aK,aL,aF,aJ,bR,aY,bS,e,h,el,aT,bZ,ec]
theorem Nk(S:aG)(b:Int):∀(ns:AB)(x:AM),cF [] (gN 0) (aC aS (aO pR [] (aB (aA 1) aD)) (aA 0)) (ns.map .int) [x,some (.pv (.int b))] S=.ok ((ns.map (sg b*·)).map .int) S
 |[],x=>dB
 |n::ns,x=>by
  have ih:=Nk S b ns (some (.pv (.int n)));have hm:aS (.int (sg b)) (.int n)=some (.int (sg b*n)):=iS (.inl (.inl (E2 b)));show cF [] _ _ (.int n::ns.map .int) _ S=_;rw[dE];simp! [gN,aE,aZ,bA,aP,aM,aN,aK,aL,aF,aJ,wM,hm,ih]
theorem Zj{w:PV}(L:AB)(b:Int)(S:aG)(hw:w=.lst (L.map .int)\/w=.tup (L.map .int))(hL:∀n∈L,Bd 8000 n)(bb:Bd 8000 b)(hb:b≠0)(hl:L.length<=100):nS [.pv w,.pv (.int b)] S=.ok (.pv (.tup ((PT L b).map .int))) S:=by
 have e1:=Ww (L++[b]) S (λn hn=>by
  rcases dj.mp hn with z |z
  .exact hL n z
  .have:n=b:=by simpa using z
   rw[this];exact bb) (adH hb)
 have e2:=Nk S b (low (L++[b])) none;have hz:L.length+1<=16777216:=by omega
 simp only[fe,az,cn]at e1;unfold PT nS aR Xb;rcases hw with rfl |rfl<;>simp! [aE,aZ,bA,aP,aM,aN,aK,aL,aF,aJ,hb,hz,e1,aY,bS,aT,bZ,e2]
theorem J1(zs:AB)(z:Int):jM ((zs++[z]).map .int) none (some (-1))=zs.map .int:=by
 unfold jM;have e1:HT.sIx ((zs++[z]).map PV.int).length 0 none=0:=rfl;have e2:HT.sIx ((zs++[z]).map PV.int).length ((zs++[z]).map PV.int).length (some (-1))=zs.length:=by
  rw[ak,ca];exact Kb zs.length _
 rw[e1,e2];simp
theorem Ez(zs:AB)(z:Int):¬(HT.sIx ((zs++[z]).map PV.int).length 0 none=0/\HT.sIx ((zs++[z]).map PV.int).length ((zs++[z]).map PV.int).length (some (-1))=((zs++[z]).map PV.int).length):=by
 rintro⟨_,e⟩
 have e2:HT.sIx ((zs++[z]).map PV.int).length ((zs++[z]).map PV.int).length (some (-1))=zs.length:=by
  rw[ak,ca];exact Kb zs.length _
 rw[e2,ak,ca]at e;simp at e
theorem nO(zs:AB)(z:Int):iA (.tup ((zs++[z]).map .int)) none (some (-1))=some (.tup (zs.map .int)):=by
 unfold iA;dsimp only;rw[if_neg (Ez zs z),J1]
theorem iQ(zs:AB)(z:Int):aE (.tup ((zs++[z]).map .int)) (.int (-1))=some (.int z):=by
 show aZ ((zs++[z]).map PV.int) (-1)=_;rw[fe];exact M9 _ _
theorem oM{m:Int}(h0:0<=m)(h:m<1024):Bd 8000 m:=Bd.of (n:=1023) (by omega) (de (show 1023<2^10 by decide) (zh (by decide) (by decide)))
theorem bB(n:Nat)(a b:Int):aP n (.int a) (.int b)=some (a==b):=by cases n<;>rfl
theorem mB{a b:Int}(h:Bd 2000 a)(g:Bd 2000 b):aS (.int a) (.int b)=some (.int (a*b)):=iS (.inr ⟨h.mono (by decide),g.mono (by decide)⟩)
structure Pt(n:Nat)(xs:AB)(w:Int):Prop where
 len:xs.length=n
 pos:0<w
 low:low (xs++[w])=xs++[w]
 bx:∀x∈xs,Bd 300 x
 bw:Bd 300 w
theorem Uk(S:aG)(PL QL:AK)(w v:Int)(hp:aE (.tup PL) (.int (-1))=some (.int w))(hq:aE (.tup QL) (.int (-1))=some (.int v))(bw:Bd 2000 w)(bv:Bd 2000 v):∀(xs ys:AB)(x y:AM),xs.length=ys.length->(∀x∈xs,Bd 2000 x)->(∀y∈ys,Bd 2000 y)->
  cF [] (gT 2 (bV (gN 0) (bV (gN 1) cQ))) (aC aF (aC aS (aA 0) (aC aE (aA 2) (bG bX (mC (.int 1))))) (aC aS (aA 1) (aC aE (aA 3) (bG bX (mC (.int 1)))))) (dY (xs.map .int) (ys.map .int)) [x,y,some (.pv (.tup QL)),some (.pv (.tup PL))] S=.ok ((sm xs w ys v).map .int) S
 |[],ys,x,y,hl,_,_=>by
  have:ys=[]:=ub.mp hl.symm;subst this;exact dB
 |a::xs,[],x,y,hl,_,_=>by cases hl
 |a::xs,b::ys,x,y,hl,hx,hy=>by
  have ih:=Uk S PL QL w v hp hq bw bv xs ys (some (.pv (.int a))) (some (.pv (.int b))) (by simpa using hl) (λm hm=>hx m (ax _ hm)) (λm hm=>hy m (ax _ hm));have m1:=mB (hx a ce) bv;have m2:=mB (hy b ce) bw;show cF [] _ _ (.tup [.int a,.int b]::dY (xs.map .int) (ys.map .int)) _ S=_;rw[dE];simp! [gT,bV,cQ,gN,bB,aM,aN,aK,aL,aF,aJ,hp,hq,m1,m2,ih,sm]
theorem aci{xs ys:AB}{w v:Int}{k:Nat}(hx:∀x∈xs,Bd k x)(hy:∀y∈ys,Bd k y)(hw:Bd k w)(hv:Bd k v):∀n∈sm xs w ys v,Bd (k+k+1) n:=λn hn=>by
 unfold sm at hn;obtain⟨i,hi,e⟩:=jx hn;rw[qq]at e;rw[<-e];exact((hx _ (di _)).mul hv).add ((hy _ (di _)).mul hw)
theorem F7{xs ys:AB}{w v:Int}(S:aG)(hl:xs.length=ys.length)(h9:xs.length<=9)(hw:0<w)(hv:0<v)(hx:∀x∈xs,Bd 2000 x)(hy:∀y∈ys,Bd 2000 y)(bw:Bd 2000 w)(bv:Bd 2000 v):
  wR [.pv (.tup ((xs++[w]).map .int)),.pv (.tup ((ys++[v]).map .int))] S=.ok (.pv (.tup ((low (sm xs w ys v++[w*v])).map .int))) S:=by
 have ip:=iQ xs w;have iq:=iQ ys v;have sp:=nO xs w;have sq:=nO ys v;have ec:=Uk S _ _ w v ip iq bw bv xs ys none none hl hx hy;have mm:=mB bw bv;have hp:=aj hw hv;have ep:=Zj (w:=.lst ((sm xs w ys v).map .int)) (sm xs w ys v) (w*v) S (.inl rfl) (λn hn=>(aci hx hy bw bv n hn).mono (by decide)) ((bw.mul bv).mono (by decide)) (by omega) (by rw[aaW hl];omega);rw[Fp hp]at ep;generalize (xs++[w]).map PV.int=PL at ip sp ec;generalize (ys++[v]).map PV.int=QL at iq sq ec;unfold wR aR Ac;simp! [bB,aM,aN,aK,aL,aF,aJ,aT,dX,fQ,bS,dL,cO,dI,fT,sp,sq,bZ,ec,ip,iq,mm,ep]
theorem Al(S:aG):∀(ns:AB)(x:AM),cF [] (gN 0) (bG bX (aA 0)) (ns.map .int) [x] S=.ok ((ns.map (- ·)).map .int) S
 |[],x=>dB
 |n::ns,x=>by
  have ih:=Al S ns (some (.pv (.int n)));show cF [] _ _ (.int n::ns.map .int) _ S=_;rw[dE];simp! [gN,aE,aZ,bA,aP,aM,aN,aK,aL,aF,aJ,ih]
theorem Az(xs:AB)(w:Int)(S:aG)(h9:xs.length<=9):wH [.pv (.tup ((xs++[w]).map .int))] S=.ok (.pv (.tup ((xs.map (- ·)++[w]).map .int))) S:=by
 have ip:=iQ xs w;have sp:=nO xs w;have ec:=Al S xs none;have hz:xs.length+1<=16777216:=by omega
 generalize (xs++[w]).map PV.int=PL at ip sp;unfold wH aR Cb;simp! [bB,aM,aN,aK,aL,aF,aJ,aT,aY,bS,dL,cO,dI,fT,sp,bZ,ec,ip,hz]
theorem Hw{xs ys:AB}{w v:Int}(S:aG)(hl:xs.length=ys.length)(h9:xs.length<=9)(hw:0<w)(hv:0<v)(hx:∀x∈xs,Bd 2000 x)(hy:∀y∈ys,Bd 2000 y)(bw:Bd 2000 w)(bv:Bd 2000 v):
  kY [.pv (.tup ((xs++[w]).map .int)),.pv (.tup ((ys++[v]).map .int))] S=.ok (.pv (.tup ((low (sm xs w (ys.map (- ·)) v++[w*v])).map .int))) S:=by
 have e1:=Az ys v S (by omega);have e2:=F7 (ys:=ys.map (- ·)) S (by rw[ak];exact hl) h9 hw hv hx (λn hn=>by
  obtain⟨m,hm,rfl⟩:=bj.mp hn;exact(hy m hm).neg) bw bv
 generalize (xs++[w]).map PV.int=PL at e2;generalize (ys++[v]).map PV.int=QL at e1;generalize (ys.map (- ·)++[v]).map PV.int=RL at e1 e2;unfold kY aR Ca;simp! [aE,aZ,bA,aP,aM,aN,aK,aL,aF,aJ,e1,e2]
def mv(way:Int)(xs:AB)(w:Int)(ys:AB)(v:Int):AB:=if way=1 then low (sm xs w ys v++[w*v])else low (sm ys v (xs.map (- ·)) w++[v*w])
theorem xM(zs:AB)(z:Int)(j:Nat)(h:j<zs.length):aE (.tup ((zs++[z]).map .int)) (.int (j:Nat))=some (.int (zs.getD j 0)):=by
 show aZ ((zs++[z]).map PV.int) (j:Int)=_;refine jX ?_;rw[dk,fu h,av h];simp[ci,h]
theorem Ko(S:aG)(PL QL:AK)(xs ys:AB)(w v way:Int)(hp:aE (.tup PL) (.int (-1))=some (.int w))(hq:aE (.tup QL) (.int (-1))=some (.int v))(hpj:∀j:Nat,j<xs.length->aE (.tup PL) (.int (j:Nat))=some (.int (xs.getD j 0)))(hqj:∀j:Nat,j<xs.length->aE (.tup QL) (.int (j:Nat))=some (.int (ys.getD j 0)))
  (hway:way=1\/way=-1)(bw:Bd 1000 w)(bv:Bd 1000 v)(hx:∀j,Bd 1000 (xs.getD j 0))(hy:∀j,Bd 1000 (ys.getD j 0)):∀(js:List Nat)(x:AM),(∀j∈js,j<xs.length)->
  cF [] (gN 0) (aC aF (aC aS (aC aS (aA 1) (aC aE (aA 3) (aA 0))) (aC aE (aA 2) (bG bX (mC (.int 1))))) (aC aS (aC aE (aA 2) (aA 0)) (aC aE (aA 3) (bG bX (mC (.int 1)))))) (js.map λj=>.int (0+(j:Nat))) [x,some (.pv (.int way)),some (.pv (.tup QL)),some (.pv (.tup PL))] S=.ok ((js.map λj=>way*xs.getD j 0*v+ys.getD j 0*w).map .int) S
 |[],x,_=>dB
 |j::js,x,h=>by
  have ih:=Ko S PL QL xs ys w v way hp hq hpj hqj hway bw bv hx hy js (some (.pv (.int (0+(j:Nat))))) λi hi=>h i (ax _ hi);have e1:=hpj j (h j ce);have e2:=hqj j (h j ce);have b1:Bd 2 way:=by rcases hway with rfl |rfl<;>exact Bd.of (n:=1) (by decide) (by decide)
  have m0:=mB (b1.mono (show 2<=2000 by decide)) ((hx j).mono (show 1000<=2000 by decide));have m1:=mB ((b1.mul (hx j)).mono (show 2+1000<=2000 by decide)) (bv.mono (show 1000<=2000 by decide));have m2:=mB ((hy j).mono (show 1000<=2000 by decide)) (bw.mono (show 1000<=2000 by decide));show cF [] _ _ (.int (0+(j:Nat))::js.map λj=>.int (0+(j:Nat))) _ S=_;rw[dE];simp only[oj]at ih⊢;generalize hX:xs.getD j 0=X at e1 m0 m1;generalize hY:ys.getD j 0=Y at e2 m2;simp! [gN,bB,aM,aN,aK,aL,aF,aJ,e1,e2,hp,hq,m0,m1,m2,ih];simp only[cv]at hX hY;rw[hX,hY]
theorem wP{xs:AB}{k:Nat}(h:∀x∈xs,Bd k x)(j:Nat):Bd k (xs.getD j 0):=by
 by_cases hj:j<xs.length
 .have e:xs.getD j 0=xs[j]:=by simp[ci,hj]
  rw[e];exact h _ (di hj)
 .have e:xs.getD j 0=0:=by simp[ci,hj]
  rw[e];exact Bd.of (n:=0) (by decide) (ua k)
theorem Si{xs ys:AB}(hl:xs.length=ys.length)(f:Int->Int->Int):(aw xs.length).map (λj=>f (xs.getD j 0) (ys.getD j 0))=au f xs ys:=by
 refine tx (by simp[hl]) λi h1 h2=>?_;have hi:i<xs.length:=by simpa using h1
 have hj:i<ys.length:=by omega
 simp[ci,hi,hj]
theorem Hy{xs ys:AB}{w v way:Int}(S:aG)(hl:xs.length=ys.length)(h9:xs.length<=9)(hway:way=1\/way=-1)(hx:∀x∈xs,Bd 1000 x)(hy:∀y∈ys,Bd 1000 y)(bw:Bd 1000 w)(bv:Bd 1000 v):
  nJ [.pv (.tup ((xs++[w]).map .int)),.pv (.tup ((ys++[v]).map .int)),.pv (.int way)] S=.ok (.pv (.tup ((low (au (λx y=>way*x*v+y*w) xs ys++[w*v])).map .int))) S:=by
 have ip:=iQ xs w;have iq:=iQ ys v;have ec:=Ko S _ _ xs ys w v way ip iq (λj h=>xM xs w j h) (λj h=>xM ys v j (by omega)) hway bw bv (wP hx) (wP hy) (aw xs.length) none λj hj=>by simpa using hj
 have er:(aw xs.length).map (λj=>way*xs.getD j 0*v+ys.getD j 0*w)=au (λx y=>way*x*v+y*w) xs ys:=Si hl λx y=>way*x*v+y*w;rw[er]at ec;have mm:=mB (bw.mono (show 1000<=2000 by decide)) (bv.mono (show 1000<=2000 by decide));have b1:Bd 2 way:=by rcases hway with rfl |rfl<;>exact Bd.of (n:=1) (by decide) (by decide)
 have el:=oZ (au (λx y=>way*x*v+y*w) xs ys++[w*v]) S (λn hn=>by
  rcases dj.mp hn with z |z
  .obtain⟨i,hi,e⟩:=jx z
   rw[qq]at e;rw[<-e];exact((((b1.mul (hx _ (di _))).mul bv).mono (show 2+1000+1000<=3000 by decide)).add (((hy _ (di _)).mul bw).mono (show 1000+1000<=3000 by decide))).mono (by decide)
  .have:n=w*v:=by simpa using z
   rw[this];exact(bw.mul bv).mono (by decide))
 have hlen:((xs++[w]).map PV.int).length=xs.length+1:=by simp
 have hz:xs.length+1<=16777216:=by omega
 have hr:iE [.pv (.int (((xs.length+1:Nat):Int)-1))] S=.ok ((aw xs.length).map λj=>.int (0+(j:Nat)),[]) S:=by
  unfold iE;dsimp only;rw[if_pos ⟨by omega,by omega⟩];have:(((xs.length+1:Nat):Int)-1).toNat=xs.length:=by omega
  rw[this];rfl
 have hzl:(au (λx y=>way*x*v+y*w) xs ys).length+1<=16777216:=by rw[fg];omega
 simp only[fe,az,cn]at el;generalize hZ:(au (λx y=>way*x*v+y*w) xs ys).map PV.int=ZL at ec el;have hzl2:ZL.length+1<=16777216:=by rw[<-hZ,ak];exact hzl
 generalize (aw xs.length).map (λj=>PV.int (0+(j:Nat)))=RL at ec hr;generalize hP:(xs++[w]).map PV.int=PL at ip ec hlen;generalize (ys++[v]).map PV.int=QL at iq ec;unfold nJ aR Na;have hr2:=hr;rw[<-hlen]at hr2;simp! [bB,aM,aN,aK,aL,aF,aJ,aT,dC,hr2,bZ,ec,ip,iq,mm,hzl2,el]
theorem Ll{k:Nat}{W:Int}(W0:0<=W)(W1:W<=1000000000000):∀(is:AK)(S:aG)(ns:AB)(x:AM),fZ S k ns->∃(xs ns':AB),cF [] (gN 0) (aC eV (aO dN [] (aB (aA 2) (aB (aC aF (aC aS (mC (.int 2)) (aA 1)) (mC (.int 1))) aD))) (aA 1)) is [x,some (.pv (.int W)),some (.ref k)] S=.ok (xs.map .int) (S.set k (.lst (ns'.map .int)))/\xs.length=is.length/\∀n∈xs,Bd 50 n
 |[],S,ns,x,h=>by
  refine⟨[],ns,?_,rfl,λ_ h=>absurd h cf⟩;have e:S.set k (.lst (ns.map .int))=S:=qo λj=>by
   by_cases q:k=j
   .subst q;rw[ie h.lt];exact h.symm
   .rw[jf q]
  rw[e];exact dB
 |i::is,S,ns,x,h=>by
  obtain⟨t,n1,e1,t0,t1,_⟩:=lE (m:=2*W+1) h (by omega) ((Bd.of (k:=50) (n:=2000000000001) (by omega) (by decide)).mono (by decide));obtain⟨xs,n2,e2,l2,b2⟩:=Ll W0 W1 is _ n1 (some (.pv i)) (h.set n1);rw[mj]at e2;have m2:aS (.int 2) (.int W)=some (.int (2*W)):=iS (.inl (.inl ⟨by decide,by decide⟩));refine⟨(t-W)::xs,n2,?_,by simp[l2],λn hn=>?_⟩
  .rw[dE]
   generalize S.set k (.lst (n1.map .int))=S1 at e1 e2;simp! [gN,aE,aZ,bA,aP,aM,aN,aK,aL,aF,aJ,m2,e1,e2]
  .rcases bo.mp hn with rfl |hn
   .exact Bd.of (n:=1000000000000) (by omega) (by decide)
   .exact b2 n hn
theorem acO{v:Int}(h0:0<=v)(h1:v<4):∃M:Int,aE (.lst [.int 0,.int 3,.int 9,.int 1000000000000]) (.int v)=some (.int M)/\0<=M/\M<=1000000000000:=by
 have c:v=0\/v=1\/v=2\/v=3:=by omega
 rcases c with rfl |rfl |rfl |rfl
 .exact⟨0,rfl,by decide,by decide⟩
 .exact⟨3,rfl,by decide,by decide⟩
 .exact⟨9,rfl,by decide,by decide⟩
 .exact⟨1000000000000,rfl,by decide,by decide⟩
theorem p12:gY (.int 10) (.int 12)=some (.int 1000000000000):=wL (i:=10) (j:=12) ⟨by decide,by decide,by decide⟩
theorem ac4{v:Int}(h0:0<=v)(h1:v<4):0<=v.fdiv 2/\v.fdiv 2<=1:=by
 have c:v=0\/v=1\/v=2\/v=3:=by omega
 rcases c with rfl |rfl |rfl |rfl<;>decide
theorem abx{n k:Nat}{L:AB}{b:Int}(hb:0<b)(hl:L.length=n)(hk:k<=300)(hL:∀x∈L,Bd k x)(bb:Bd k b):∃(zs:AB)(z:Int),low (L++[b])=zs++[z]/\Pt n zs z/\(∀x∈zs,Bd k x)/\Bd k z:=by
 obtain⟨zs,z,g,e,hg,hz,_,_,hzl⟩:=xN L hb;have hbd:=xE (k:=k) (ns:=L++[b]) λm hm=>by
  rcases dj.mp hm with y |y
  .exact hL m y
  .have:m=b:=by simpa using y
   rw[this];exact bb
 have hlow:=wJ L hb;rw[e]at hbd hlow;have b1:∀x∈zs,Bd k x:=λx hx=>hbd x (ji _ hx);have b2:Bd k z:=hbd z (jW zs z);exact⟨zs,z,e,⟨hzl.trans hl,hz,hlow,λx hx=>(b1 x hx).mono hk,b2.mono hk⟩,b1,b2⟩
theorem abv{S:aG}{k:Nat}{ns:AB}(n:Nat)(hn:n=2\/n=3)(h:fZ S k ns):∃(xs:AB)(w:Int)(ns':AB),nV [.ref k,.pv (.int n)] S=.ok (.pv (.tup ((xs++[w]).map .int))) (S.set k (.lst (ns'.map .int)))/\Pt n xs w/\(∀x∈xs,Bd 100 x)/\Bd 100 w:=by
 obtain⟨c,n1,e1,c0,c1,_⟩:=lE (m:=4) h (by decide) (oM (by decide) (by decide));obtain⟨M,em,M0,M1⟩:=acO c0 c1;obtain⟨t,n2,e2,t0,t1,_⟩:=lE (m:=9) (h.set n1) (by decide) (oM (by decide) (by decide));rw[mj]at e2;obtain⟨xs,n3,e3,l3,b3⟩:=Ll M0 M1 (eG 0 n) _ n2 none (h.set n2);rw[mj]at e3;have hc:=ac4 c0 c1;have mt:aS (.int t) (.int (c.fdiv 2))=some (.int (t*c.fdiv 2)):=iS (.inl (.inl ⟨by omega,by omega⟩));have qt:eI (.int c) (.int 2)=some (.int (c.fdiv 2)):=jV ⟨by decide,oM (by decide) (by decide)⟩;have hm:0<=t*c.fdiv 2/\t*c.fdiv 2<=8:=by
  have c2:c.fdiv 2=0\/c.fdiv 2=1:=by omega
  rcases c2 with z |z<;>rw[z]<;>omega
 have lx:xs.length=n:=by rw[l3];unfold eG;simp
 generalize t*c.fdiv 2=tc at mt hm;obtain⟨zs,z,ez,P,b1,b2⟩:=abx (n:=n) (k:=100) (L:=xs) (b:=1+tc) (by omega) lx (by decide) (λx hx=>(b3 x hx).mono (by decide)) (Bd.of (n:=9) (by omega) (by decide));have el:=oZ (xs++[1+tc]) (S.set k (.lst (n3.map .int))) (λm hm=>by
  rcases dj.mp hm with y |y
  .exact(b3 m y).mono (by decide)
  .have:m=1+tc:=by simpa using y
   rw[this];exact(Bd.of (k:=4) (n:=9) (by omega) (by decide)).mono (by decide))
 rw[ez]at el;refine⟨zs,z,n3,?_,P,b1,b2⟩;have tk3:=Tl S k (.lst (n3.map .int));have hz:xs.length+1<=16777216:=by omega
 generalize S.set k (.lst (n1.map .int))=S1 at e1 e2;generalize S.set k (.lst (n2.map .int))=S2 at e2 e3;generalize S.set k (.lst (n3.map .int))=S3 at e3 el tk3;have hr:iE [.pv (.int (n:Int))] S2=.ok (eG 0 n,[]) S2:=by
  unfold iE;dsimp only;rw[if_pos ⟨by omega,by omega⟩];rfl
 conv at el=>lhs;rw[fe]
 simp only[az,cn]at el;generalize (zs++[z]).map PV.int=ZL at el;unfold nV aR Ld;simp! [bB,aM,aN,aK,aL,aF,aJ,p12,e1,em,e2,mt,qt,aT,dC,hr,bZ,e3,hz,el,tk3]
theorem Fj{way:Int}(h:way=1\/way=-1)(xs:AB)(w:Int)(ys:AB)(v:Int):low (au (λx y=>way*x*v+y*w) xs ys++[w*v])=mv way xs w ys v:=by
 unfold mv;rcases h with rfl |rfl
 .rw[if_pos rfl,Lx]
 .rw[if_neg (by decide),Bw,cq w v]
structure Pq(n k:Nat)(xs:AB)(w:Int):Prop where
 len:xs.length=n
 pos:0<w
 low:low (xs++[w])=xs++[w]
 bx:∀x∈xs,Bd k x
 bw:Bd k w
def Vl(n:Nat)(xs:AB)(w:Int)(N:Nat->Int)(D:Int):Prop:=∀j,j<n->xs.getD j 0*D=N j*w
theorem Vl.self(n:Nat)(xs:AB)(w:Int):Vl n xs w (λj=>xs.getD j 0) w:=λ_ _=>rfl
theorem tV{a b c:Int}(h:0<c)(e:a*c=b*c):a=b:=io (by omega) e
theorem Pq.same{n k k':Nat}{xs ys:AB}{w v:Int}(P:Pq n k xs w)(Q:Pq n k' ys v)(h:∀j,j<n->xs.getD j 0*v=ys.getD j 0*w):xs++[w]=ys++[v]:=by
 rw[<-P.low,<-Q.low];refine Lk (k:=v) (m:=w) Q.pos P.pos (pV (jW xs w) (by have:=P.pos;omega)) ?_;rw[fe,fe];congr 1
 .refine tx (by simp[P.len,Q.len]) λj h1 h2=>?_
  have hj:j<n:=by rw[<-P.len];simpa using h1
  have e:=h j hj;have a1:xs.getD j 0=xs[j]'(by rw[P.len];exact hj):=by simp[ci,P.len,hj]
  have a2:ys.getD j 0=ys[j]'(by rw[Q.len];exact hj):=by simp[ci,Q.len,hj]
  rw[a1,a2]at e;rw[xm,xm];rw[cq v,cq w];exact e
 .simp only[az,cn]
  rw[cq]
theorem Pq.eq{n k k':Nat}{xs ys:AB}{w v:Int}{N M:Nat->Int}{D E:Int}(P:Pq n k xs w)(Q:Pq n k' ys v)(a:Vl n xs w N D)(b:Vl n ys v M E)(hD:0<D)(hE:0<E)(h:∀j,j<n->N j*E=M j*D):xs++[w]=ys++[v]:=by
 refine P.same Q λj hj=>?_;have e1:=a j hj;have e2:=b j hj;have e3:=h j hj;refine tV (c:=D*E) (aj hD hE) ?_;grind
theorem aas{xs ys:AB}{f:Int->Int->Int}{j:Nat}(h1:j<xs.length)(h2:j<ys.length):(au f xs ys).getD j 0=f (xs.getD j 0) (ys.getD j 0):=by
 have:j<(au f xs ys).length:=by rw[fg];omega
 simp only[ci,av this,av h1,av h2,k4,qq]
theorem Ws{n k l:Nat}{way:Int}{xs ys:AB}{w v:Int}(hway:way=1\/way=-1)(P:Pq n k xs w)(Q:Pq n l ys v):∃(zs:AB)(z:Int),mv way xs w ys v=zs++[z]/\Pq n (k+l+1) zs z/\
  ∀(N M:Nat->Int)(D E:Int),Vl n xs w N D->Vl n ys v M E->0<D->0<E->Vl n zs z (λj=>way*N j*E+M j*D) (D*E):=by
 rw[<-Fj hway];have hb:=aj P.pos Q.pos;have hl:(au (λx y=>way*x*v+y*w) xs ys).length=n:=by rw[fg,P.len,Q.len];omega
 obtain⟨zs,z,g,e,hg,hz,g1,g2,hzl⟩:=xN (au (λx y=>way*x*v+y*w) xs ys) hb;have hlow:=wJ (au (λx y=>way*x*v+y*w) xs ys) hb;have hbd:=xE (k:=k+l+1) (ns:=au (λx y=>way*x*v+y*w) xs ys++[w*v]) λm hm=>by
  rcases dj.mp hm with y |y
  .obtain⟨i,hi,e⟩:=jx y
   rw[qq]at e;rw[<-e];have b1:=(P.bx _ (di (l:=xs) (n:=i) (by rw[fg]at hi;omega))).mul Q.bw;have b2:=(Q.bx _ (di (l:=ys) (n:=i) (by rw[fg]at hi;omega))).mul P.bw;have b3:Bd (k+l) (way*xs[i]'(by rw[fg]at hi;omega)*v):=by
    rcases hway with rfl |rfl
    .rw[dr];exact b1
    .have:(-1:Int)*xs[i]'(by rw[fg]at hi;omega)*v=-(xs[i]'(by rw[fg]at hi;omega)*v):=by rw[ke,dr,ke]
     rw[this];exact b1.neg
   exact b3.add (b2.mono (by omega))
  .have:m=w*v:=by simpa using y
   rw[this];exact(P.bw.mul Q.bw).mono (by omega)
 rw[e]at hbd hlow;refine⟨zs,z,e,⟨hzl.trans hl,hz,hlow,λx hx=>hbd x (ji _ hx),hbd z (jW zs z)⟩,λN M D E a b hD hE j hj=>?_⟩;have h1:(au (λx y=>way*x*v+y*w) xs ys).getD j 0=g*zs.getD j 0:=by
  rw[g1];have:j<zs.length:=by rw[hzl,hl];exact hj
  simp[ci,this]
 rw[aas (by rw[P.len];exact hj) (by rw[Q.len];exact hj)]at h1;have a1:=a j hj;have b1:=b j hj;generalize xs.getD j 0=X at a1 h1;generalize ys.getD j 0=Y at b1 h1;generalize zs.getD j 0=Z at h1⊢;show Z*(D*E)=(way*N j*E+M j*D)*z;generalize M j=B,N j=A at *;refine tV (c:=g*(w*v)) (aj hg hb) ?_;have p1:=P.pos;have p2:=Q.pos;have k1:(way*X*v+Y*w)*(D*E)=(way*A*E+B*D)*(w*v):=by grind
 have k2:Z*(D*E)*(g*(w*v))=(way*X*v+Y*w)*(D*E)*(w*v):=by rw[h1];grind
 rw[k2,k1,g2];grind
theorem Pt.pq{n k:Nat}{xs:AB}{w:Int}(P:Pt n xs w)(b:∀x∈xs,Bd k x)(bw:Bd k w):Pq n k xs w:=⟨P.len,P.pos,P.low,b,bw⟩
theorem Pq.mono{n k l:Nat}{xs:AB}{w:Int}(P:Pq n k xs w)(h:k<=l):Pq n l xs w:=⟨P.len,P.pos,P.low,λx hx=>(P.bx x hx).mono h,P.bw.mono h⟩
theorem P5{n k l:Nat}{way:Int}{xs ys:AB}{w v:Int}(S:aG)(hn:n=2\/n=3)(hway:way=1\/way=-1)(P:Pq n k xs w)(Q:Pq n l ys v)(hk:k<=1000)(hl:l<=1000):nJ [.pv (.tup ((xs++[w]).map .int)),.pv (.tup ((ys++[v]).map .int)),.pv (.int way)] S=.ok (.pv (.tup ((mv way xs w ys v).map .int))) S:=by
 have e:=Hy (way:=way) S (P.len.trans Q.len.symm) (by rw[P.len];omega) hway (λx hx=>(P.bx x hx).mono hk) (λx hx=>(Q.bx x hx).mono hl) (P.bw.mono hk) (Q.bw.mono hl);rw[Fj hway]at e;exact e
theorem tN(t b:Int)(S:aG)(ht:Bd 8000 t)(hb:Bd 8000 b):lF [.pv (.int t),.pv (.int b)] S=.ok (.pv (.tup ((fr t b).map .int))) S:=by
 unfold lF aR Cc fr;have e1:=oZ [0-t,0-b] S (by
  intro n hn;rcases bo.mp hn with rfl |hn
  .rw[im];exact ht.neg
  .have:n=0-b:=by simpa using hn
   rw[this,im];exact hb.neg)
 have e2:=oZ [t,b] S (by
  intro n hn;rcases bo.mp hn with rfl |hn
  .exact ht
  .have:n=b:=by simpa using hn
   rw[this];exact hb)
 by_cases h:b<0
 .simp only[az,cn,im]at e1
  simp! [aE,aZ,bA,aP,aM,aN,aK,aL,aF,aJ,h,e1]
 .simp only[az,cn]at e2
  simp! [aE,aZ,bA,aP,aM,aN,aK,aL,aF,aJ,h,e2]
theorem zP(t b:Int)(S:aG)(ht:Bd 7000 t)(hb:Bd 7000 b)(h:b≠0):kX [.pv (.int t),.pv (.int b)] S=.ok (.pv (.tup ((fr t b).map .int))) S:=by
 have gb:Bd 7000 ((bf t b:Nat):Int):=ht.gcd hb;have sb:Bd 2 (sg b):=by
  unfold sg;split
  .unfold Bd;simp
  .split<;>(unfold Bd;simp)
 have mb:qB (sg b) (bf t b:Nat):=.inr ⟨sb.mono (by decide),gb.mono (by decide)⟩;have nz:sg b*(bf t b:Nat)≠0:=by
  have gp:=tW (kR t b) h;rw[wX]at gp;rcases Sk h with⟨_,s⟩|⟨_,s⟩<;>rw[s]<;>omega
 have qb:∀x,qC x (sg b*(bf t b:Nat)):=λx=>⟨nz,(sb.mul gb).mono (by decide)⟩;rw[<-Jz h];unfold kX aR Aa;simp! [aE,aZ,bA,aP,aM,aN,aK,aL,aF,aJ,h,wM,Da,iS mb,jV (qb t),jV (qb b)]
theorem qT:∀is:AB,iB (is.map .int)=some is
 |[]=>rfl
 |i::is=>by
  have ih:=qT is;show(match iB (is.map .int)with |some bs=>some (i::bs) |none=>none)=_
  rw[ih]
theorem Rj(is:AB):qD [.lst (is.map .int)]=some (.int is.sum):=by
 simp only[qD,qT,o5]
def wa(xs:AB)(w:Int)(ys:AB)(v:Int):AB:=au (λx y=>y*w-x*v) xs ys
theorem Jo(S:aG)(PL QL:AK)(w v:Int)(hp:aE (.tup PL) (.int (-1))=some (.int w))(hq:aE (.tup QL) (.int (-1))=some (.int v))(bw:Bd 2000 w)(bv:Bd 2000 v):∀(xs ys:AB)(x y:AM),xs.length=ys.length->(∀x∈xs,Bd 2000 x)->(∀y∈ys,Bd 2000 y)->
  cF [] (gT 2 (bV (gN 0) (bV (gN 1) cQ))) (aC eV (aC aS (aA 1) (aC aE (aA 2) (bG bX (mC (.int 1))))) (aC aS (aA 0) (aC aE (aA 3) (bG bX (mC (.int 1)))))) (dY (xs.map .int) (ys.map .int)) [x,y,some (.pv (.tup PL)),some (.pv (.tup QL))] S=.ok ((wa xs w ys v).map .int) S
 |[],ys,x,y,hl,_,_=>by
  have:ys=[]:=ub.mp hl.symm;subst this;exact dB
 |a::xs,[],x,y,hl,_,_=>by cases hl
 |a::xs,b::ys,x,y,hl,hx,hy=>by
  have ih:=Jo S PL QL w v hp hq bw bv xs ys (some (.pv (.int a))) (some (.pv (.int b))) (by simpa using hl) (λm hm=>hx m (ax _ hm)) (λm hm=>hy m (ax _ hm));have m1:=mB (hx a ce) bv;have m2:=mB (hy b ce) bw;show cF [] _ _ (.tup [.int a,.int b]::dY (xs.map .int) (ys.map .int)) _ S=_;rw[dE];simp! [gT,bV,cQ,gN,bB,aM,aN,aK,aL,aF,aJ,hp,hq,m1,m2,ih,wa]
theorem Dk{xs ys:AB}{w v:Int}(S:aG)(hl:xs.length=ys.length)(hx:∀x∈xs,Bd 2000 x)(hy:∀y∈ys,Bd 2000 y)(bw:Bd 2000 w)(bv:Bd 2000 v):
  qQ [.pv (.tup ((xs++[w]).map .int)),.pv (.tup ((ys++[v]).map .int))] S=.ok (.pv (.lst ((wa xs w ys v).map .int))) S:=by
 have ip:=iQ xs w;have iq:=iQ ys v;have sp:=nO xs w;have sq:=nO ys v;have ec:=Jo S _ _ w v ip iq bw bv xs ys none none hl hx hy;generalize (xs++[w]).map PV.int=PL at ip sp ec;generalize (ys++[v]).map PV.int=QL at iq sq ec;unfold qQ aR zG;simp! [bB,aM,aN,aK,aL,aF,aJ,aT,dX,fQ,bS,dL,cO,dI,fT,sp,sq,bZ,ec]
theorem Eb(S:aG):∀(us vs:AB)(x y:AM),(∀x∈us,Bd 100000 x)->(∀y∈vs,Bd 100000 y)->
  cF [] (gT 2 (bV (gN 0) (bV (gN 1) cQ))) (aC aS (aA 0) (aA 1)) (dY (us.map .int) (vs.map .int)) [x,y] S=.ok ((au (·*·) us vs).map .int) S
 |[],vs,x,y,_,_=>by
  show cF [] _ _ [] _ S=_;exact dB
 |a::us,[],x,y,_,_=>by
  show cF [] _ _ [] _ S=_;exact dB
 |a::us,b::vs,x,y,hx,hy=>by
  have ih:=Eb S us vs (some (.pv (.int a))) (some (.pv (.int b))) (λm hm=>hx m (ax _ hm)) (λm hm=>hy m (ax _ hm));have m1:aS (.int a) (.int b)=some (.int (a*b)):=iS (.inr ⟨(hx a ce).mono (by decide),(hy b ce).mono (by decide)⟩);show cF [] _ _ (.tup [.int a,.int b]::dY (us.map .int) (vs.map .int)) _ S=_;rw[dE];simp! [gT,bV,cQ,gN,bB,aM,aN,aK,aL,aF,aJ,m1,ih]
def dt(us vs:AB):Int:=(au (·*·) us vs).sum
def Sq(A:PV)(us:AB):Prop:=A=.lst (us.map .int)\/A=.tup (us.map .int)
theorem Br{A B:PV}{us vs:AB}(S:aG)(hA:Sq A us)(hB:Sq B vs)(hx:∀x∈us,Bd 100000 x)(hy:∀y∈vs,Bd 100000 y):xW [.pv A,.pv B] S=.ok (.pv (.int (dt us vs))) S:=by
 have ec:=Eb S us vs none none hx hy;have es:=Rj (au (·*·) us vs);unfold dt;generalize (au (·*·) us vs).map PV.int=ZL at ec es;generalize (au (·*·) us vs).sum=Z at es;unfold xW aR Ke;rcases hA with rfl |rfl<;>rcases hB with rfl |rfl<;>
  (generalize us.map PV.int=UL at ec⊢;generalize vs.map PV.int=VL at ec⊢;simp! [bB,aM,aN,aK,aL,aF,aJ,aT,dX,fQ,bS,bZ,ec,es])
theorem Z4{A B:PV}{us vs:AB}(S:aG)(hA:Sq A us)(hB:Sq B vs)(hx:∀x∈us,Bd 100000 x)(hy:∀y∈vs,Bd 100000 y):xK [.pv A,.pv B] S=.ok (.pv (.int (dt us vs))) S:=by
 have ec:=Eb S us vs none none hx hy;have es:=Rj (au (·*·) us vs);unfold dt;generalize (au (·*·) us vs).map PV.int=ZL at ec es;generalize (au (·*·) us vs).sum=Z at es;unfold xK aR Fd;rcases hA with rfl |rfl<;>rcases hB with rfl |rfl<;>
  (generalize us.map PV.int=UL at ec⊢;generalize vs.map PV.int=VL at ec⊢;simp! [bB,aM,aN,aK,aL,aF,aJ,aT,dX,fQ,bS,bZ,ec,es])
theorem cU{k l:Nat}{a b:Int}(h:Bd k a)(g:Bd l b)(hk:k<=1000000:=by decide)(hl:l<=1000000:=by decide):aS (.int a) (.int b)=some (.int (a*b)):=iS (.inr ⟨h.mono hk,g.mono hl⟩)
theorem aah(a b:Int)(S:aG):qZ [.pv (.lst [.lst [.int a,.int b]])] S=.ok (.pv (.lst [.int (-b),.int a])) S:=by
 unfold qZ aR wD;simp! [aE,aZ,bA,aP,aM,aN,aK,aL,aF,aJ]
theorem O5{a b c d e f:Int}(S:aG)(ha:Bd 10000 a)(hb:Bd 10000 b)(hc:Bd 10000 c)(hd:Bd 10000 d)(he:Bd 10000 e)(hf:Bd 10000 f):qZ [.pv (.lst [.lst [.int a,.int b,.int c],.lst [.int d,.int e,.int f]])] S=.ok (.pv (.lst [.int (b*f-c*e),.int (c*d-a*f),.int (a*e-b*d)])) S:=by
 have m1:=cU hb hf;have m2:=cU hc he;have m3:=cU hc hd;have m4:=cU ha hf;have m5:=cU ha he;have m6:=cU hb hd;unfold qZ aR wD;simp! [aE,aZ,bA,aP,aM,aN,aK,aL,aF,aJ,m1,m2,m3,m4,m5,m6]
theorem Xz{A B:PV}{a b c d e f:Int}(S:aG)(hA:A=.lst [.int a,.int b,.int c])(hB:B=.lst [.int d,.int e,.int f])(ha:Bd 10000 a)(hb:Bd 10000 b)(hc:Bd 10000 c)(hd:Bd 10000 d)(he:Bd 10000 e)(hf:Bd 10000 f):wE [.pv A,.pv B] S=.ok (.pv (.lst [.int (b*f-c*e),.int (c*d-a*f),.int (a*e-b*d)])) S:=by
 have m1:=cU hb hf;have m2:=cU hc he;have m3:=cU hc hd;have m4:=cU ha hf;have m5:=cU ha he;have m6:=cU hb hd;unfold wE aR Tb;subst hA hB;simp! [aE,aZ,bA,aP,aM,aN,aK,aL,aF,aJ,m1,m2,m3,m4,m5,m6]
structure P2(x y w:Int):Prop where
 bx:Bd 1000 x
 by_:Bd 1000 y
 bw:Bd 1000 w
 pos:0<w
structure P3(x y z w:Int):Prop where
 bx:Bd 1000 x
 by_:Bd 1000 y
 bz:Bd 1000 z
 bw:Bd 1000 w
 pos:0<w
abbrev v2(x y w:Int):PV:=.tup [.int x,.int y,.int w]
abbrev v3(x y z w:Int):PV:=.tup [.int x,.int y,.int z,.int w]
def Sv(A:PV)(L:AK):Prop:=A=.lst L\/A=.tup L
theorem Vt(p:PV)(L:AK):jM (p::L) (some 1) none=L:=by
 unfold jM;have e1:HT.sIx (p::L).length 0 (some 1)=1:=by
  rw[show(some (1:Int))=some ((1:Nat):Int) from rfl,HT.sIx_nat,cu];omega
 rw[e1];show((p::L).drop 1).take ((p::L).length-1)=L;simp
theorem uE(p:PV)(L:AK):iA (.lst (p::L)) (some 1) none=some (.lst L):=by
 unfold iA;dsimp only;rw[Vt]
theorem xQ(p:PV)(L:AK):iA (.tup (p::L)) (some 1) none=some (.tup L):=by
 unfold iA;dsimp only;have e1:HT.sIx (p::L).length 0 (some 1)=1:=by
  rw[show(some (1:Int))=some ((1:Nat):Int) from rfl,HT.sIx_nat,cu];omega
 rw[if_neg (by rw[e1];simp),Vt]
theorem Jq(L:AK)(p:PV):iA (.lst (L++[p])) none (some (-1))=some (.lst L):=by
 unfold iA;dsimp only;unfold jM;have e1:HT.sIx (L++[p]).length (L++[p]).length (some (-1))=L.length:=by
  rw[ca];exact Kb L.length _
 rw[e1];show some (PV.lst (((L++[p]).drop 0).take (L.length-0)))=_;simp
theorem Up{x0 y0 w0 x1 y1 w1:Int}(S:aG)(p:P2 x0 y0 w0)(q:P2 x1 y1 w1):qQ [.pv (v2 x0 y0 w0),.pv (v2 x1 y1 w1)] S=.ok (.pv (.lst [.int (x1*w0-x0*w1),.int (y1*w0-y0*w1)])) S:=by
 have e:=Dk (xs:=[x0,y0]) (ys:=[x1,y1]) (w:=w0) (v:=w1) S rfl (by simp;exact⟨p.bx.mono (by decide),p.by_.mono (by decide)⟩) (by simp;exact⟨q.bx.mono (by decide),q.by_.mono (by decide)⟩) (p.bw.mono (by decide)) (q.bw.mono (by decide));exact e
theorem Cd{x0 y0 z0 w0 x1 y1 z1 w1:Int}(S:aG)(p:P3 x0 y0 z0 w0)(q:P3 x1 y1 z1 w1):qQ [.pv (v3 x0 y0 z0 w0),.pv (v3 x1 y1 z1 w1)] S=.ok (.pv (.lst [.int (x1*w0-x0*w1),.int (y1*w0-y0*w1),.int (z1*w0-z0*w1)])) S:=by
 have e:=Dk (xs:=[x0,y0,z0]) (ys:=[x1,y1,z1]) (w:=w0) (v:=w1) S rfl (by simp;exact⟨p.bx.mono (by decide),p.by_.mono (by decide),p.bz.mono (by decide)⟩) (by simp;exact⟨q.bx.mono (by decide),q.by_.mono (by decide),q.bz.mono (by decide)⟩) (p.bw.mono (by decide)) (q.bw.mono (by decide));exact e
theorem sb{x0 w0 x1 w1:Int}(a:Bd 1000 x0)(b:Bd 1000 w0)(c:Bd 1000 x1)(d:Bd 1000 w1):Bd 2001 (x1*w0-x0*w1):=((c.mul b).mono (show 1000+1000<=2000 by decide)).sub ((a.mul d).mono (show 1000+1000<=2000 by decide))
theorem cb{a b c d:Int}(h1:Bd 2001 a)(h2:Bd 2001 b)(h3:Bd 2001 c)(h4:Bd 2001 d):Bd 4003 (a*b-c*d):=((h1.mul h2).mono (show 2001+2001<=4002 by decide)).sub ((h3.mul h4).mono (show 2001+2001<=4002 by decide))
def D2(x0 y0 w0 x1 y1 w1 x2 y2 w2:Int):Int:=w0*(x1*y2-y1*x2)-w1*(x0*y2-y0*x2)+w2*(x0*y1-y0*x1)
def D3(x0 y0 z0 w0 x1 y1 z1 w1 x2 y2 z2 w2 x3 y3 z3 w3:Int):Int:=
 w0*((y1*z2-z1*y2)*x3+(z1*x2-x1*z2)*y3+(x1*y2-y1*x2)*z3)-w1*((y0*z2-z0*y2)*x3+(z0*x2-x0*z2)*y3+(x0*y2-y0*x2)*z3)
 +w2*((y0*z1-z0*y1)*x3+(z0*x1-x0*z1)*y3+(x0*y1-y0*x1)*z3)-w3*((y0*z1-z0*y1)*x2+(z0*x1-x0*z1)*y2+(x0*y1-y0*x1)*z2)
theorem acB(x0 y0 w0 x1 y1 w1 x2 y2 w2:Int):dt [-(y1*w0-y0*w1),x1*w0-x0*w1] [x2*w0-x0*w2,y2*w0-y0*w2]=w0*D2 x0 y0 w0 x1 y1 w1 x2 y2 w2:=by
 simp only[dt,D2,qr,uc,kj,ud];grind
theorem Cr(x0 y0 z0 w0 x1 y1 z1 w1 x2 y2 z2 w2 x3 y3 z3 w3:Int):dt [(y1*w0-y0*w1)*(z2*w0-z0*w2)-(z1*w0-z0*w1)*(y2*w0-y0*w2),(z1*w0-z0*w1)*(x2*w0-x0*w2)-(x1*w0-x0*w1)*(z2*w0-z0*w2),(x1*w0-x0*w1)*(y2*w0-y0*w2)-(y1*w0-y0*w1)*(x2*w0-x0*w2)] [x3*w0-x0*w3,y3*w0-y0*w3,z3*w0-z0*w3]=w0*w0*D3 x0 y0 z0 w0 x1 y1 z1 w1 x2 y2 z2 w2 x3 y3 z3 w3:=by
 simp only[dt,D3,qr,uc,kj,ud];grind
theorem xD{w d:Int}(h:0<w):sg (w*d)=sg d:=by
 unfold sg
 by_cases h1:0<d
 .rw[if_pos (aj h h1),if_pos h1]
 .by_cases h2:d<0
  .have:w*d<0:=wm h h2
   rw[if_neg (by omega),if_pos this,if_neg h1,if_pos h2]
  .have:d=0:=by omega
   subst this;rw[sr]
theorem aar{A:PV}{x0 y0 w0 x1 y1 w1 x2 y2 w2:Int}(S:aG)(hA:Sv A [v2 x0 y0 w0,v2 x1 y1 w1,v2 x2 y2 w2])(p:P2 x0 y0 w0)(q:P2 x1 y1 w1)(r:P2 x2 y2 w2):qP [.pv A] S=.ok (.pv (.int (w0*D2 x0 y0 w0 x1 y1 w1 x2 y2 w2))) S:=by
 have a1:=Up S p q;have a2:=Up S p r;have bu:=sb p.bx p.bw q.bx q.bw;have bv:=sb p.by_ p.bw q.by_ q.bw;have bu2:=sb p.bx p.bw r.bx r.bw;have bv2:=sb p.by_ p.bw r.by_ r.bw;have id:=acB x0 y0 w0 x1 y1 w1 x2 y2 w2;generalize y2*w0-y0*w2=V1,x2*w0-x0*w2=V0,y1*w0-y0*w1=U1,x1*w0-x0*w1=U0,w0*D2 x0 y0 w0 x1 y1 w1 x2 y2 w2=D at *;have en:=aah U0 U1 S;have ed:=Br (A:=.lst [.int (-U1),.int U0]) (B:=.lst [.int V0,.int V1]) (us:=[-U1,U0]) (vs:=[V0,V1]) S (.inl rfl) (.inl rfl) (by simp;exact⟨bv.neg.mono (by decide),bu.mono (by decide)⟩) (by simp;exact⟨bu2.mono (by decide),bv2.mono (by decide)⟩);rw[id]at ed;have pre:=Jq [.lst [.int U0,.int U1]] (.lst [.int V0,.int V1]);simp only[jt,gi]at pre;generalize v2 x2 y2 w2=R,v2 x1 y1 w1=Q,v2 x0 y0 w0=P at *;unfold qP aR vE;rcases hA with rfl |rfl
 .have s1:=uE P [Q,R]
  simp! [aE,aZ,bA,aP,aM,aN,aK,aL,aF,aJ,aT,aY,bS,dL,cO,dI,fT,s1,bZ,dE,dB,gN,a1,a2,pre,en,ed]
 .have s1:=xQ P [Q,R]
  simp! [aE,aZ,bA,aP,aM,aN,aK,aL,aF,aJ,aT,aY,bS,dL,cO,dI,fT,s1,bZ,dE,dB,gN,a1,a2,pre,en,ed]
theorem Z6{A:PV}{x0 y0 z0 w0 x1 y1 z1 w1 x2 y2 z2 w2 x3 y3 z3 w3:Int}(S:aG)(hA:Sv A [v3 x0 y0 z0 w0,v3 x1 y1 z1 w1,v3 x2 y2 z2 w2,v3 x3 y3 z3 w3])(p:P3 x0 y0 z0 w0)(q:P3 x1 y1 z1 w1)(r:P3 x2 y2 z2 w2)(s:P3 x3 y3 z3 w3):qP [.pv A] S=.ok (.pv (.int (w0*w0*D3 x0 y0 z0 w0 x1 y1 z1 w1 x2 y2 z2 w2 x3 y3 z3 w3))) S:=by
 have a1:=Cd S p q;have a2:=Cd S p r;have a3:=Cd S p s;have b1:=sb p.bx p.bw q.bx q.bw;have b2:=sb p.by_ p.bw q.by_ q.bw;have b3:=sb p.bz p.bw q.bz q.bw;have b4:=sb p.bx p.bw r.bx r.bw;have b5:=sb p.by_ p.bw r.by_ r.bw;have b6:=sb p.bz p.bw r.bz r.bw;have b7:=sb p.bx p.bw s.bx s.bw;have b8:=sb p.by_ p.bw s.by_ s.bw;have b9:=sb p.bz p.bw s.bz s.bw;have id:=Cr x0 y0 z0 w0 x1 y1 z1 w1 x2 y2 z2 w2 x3 y3 z3 w3;generalize z3*w0-z0*w3=T2,y3*w0-y0*w3=T1,x3*w0-x0*w3=T0,z2*w0-z0*w2=V2,y2*w0-y0*w2=V1,x2*w0-x0*w2=V0,z1*w0-z0*w1=U2,y1*w0-y0*w1=U1,x1*w0-x0*w1=U0,w0*w0*D3 x0 y0 z0 w0 x1 y1 z1 w1 x2 y2 z2 w2 x3 y3 z3 w3=D at *;have h:∀{a:Int},Bd 2001 a->Bd 10000 a:=λh=>h.mono (by decide);have h4:∀{a:Int},Bd 4003 a->Bd 100000 a:=λh=>h.mono (by decide);have h2:∀{a:Int},Bd 2001 a->Bd 100000 a:=λh=>h.mono (by decide);have en:=O5 S (h b1) (h b2) (h b3) (h b4) (h b5) (h b6);have c1:=cb b2 b6 b3 b5;have c2:=cb b3 b4 b1 b6;have c3:=cb b1 b5 b2 b4;have ed:=Br (A:=.lst [.int (U1*V2-U2*V1),.int (U2*V0-U0*V2),.int (U0*V1-U1*V0)]) (B:=.lst [.int T0,.int T1,.int T2]) (us:=[U1*V2-U2*V1,U2*V0-U0*V2,U0*V1-U1*V0]) (vs:=[T0,T1,T2]) S (.inl rfl) (.inl rfl) (by simp;exact⟨h4 c1,h4 c2,h4 c3⟩) (by simp;exact⟨h2 b7,h2 b8,h2 b9⟩);rw[id]at ed;generalize U0*V1-U1*V0=N2,U2*V0-U0*V2=N1,U1*V2-U2*V1=N0 at *;have pre:=Jq [.lst [.int U0,.int U1,.int U2],.lst [.int V0,.int V1,.int V2]] (.lst [.int T0,.int T1,.int T2]);simp only[jt,gi]at pre;generalize v3 x3 y3 z3 w3=T,v3 x2 y2 z2 w2=R,v3 x1 y1 z1 w1=Q,v3 x0 y0 z0 w0=P at *;unfold qP aR vE;rcases hA with rfl |rfl
 .have s1:=uE P [Q,R,T]
  simp! [aE,aZ,bA,aP,aM,aN,aK,aL,aF,aJ,aT,aY,bS,dL,cO,dI,fT,s1,bZ,dE,dB,gN,a1,a2,a3,pre,en,ed]
 .have s1:=xQ P [Q,R,T]
  simp! [aE,aZ,bA,aP,aM,aN,aK,aL,aF,aJ,aT,aY,bS,dL,cO,dI,fT,s1,bZ,dE,dB,gN,a1,a2,a3,pre,en,ed]
theorem D7{A:PV}{x0 y0 w0 x1 y1 w1 x2 y2 w2:Int}(S:aG)(hA:Sv A [v2 x0 y0 w0,v2 x1 y1 w1,v2 x2 y2 w2])(p:P2 x0 y0 w0)(q:P2 x1 y1 w1)(r:P2 x2 y2 w2):nY [.pv A] S=.ok (.pv (.int (sg (D2 x0 y0 w0 x1 y1 w1 x2 y2 w2)))) S:=by
 have e1:=aar S hA p q r;have e2:=wM (w0*D2 x0 y0 w0 x1 y1 w1 x2 y2 w2) S;rw[xD p.pos]at e2;unfold nY aR xA;simp! [aE,aZ,bA,aP,aM,aN,aK,aL,aF,aJ,e1,e2]
theorem F4{A:PV}{x0 y0 z0 w0 x1 y1 z1 w1 x2 y2 z2 w2 x3 y3 z3 w3:Int}(S:aG)(hA:Sv A [v3 x0 y0 z0 w0,v3 x1 y1 z1 w1,v3 x2 y2 z2 w2,v3 x3 y3 z3 w3])(p:P3 x0 y0 z0 w0)(q:P3 x1 y1 z1 w1)(r:P3 x2 y2 z2 w2)(s:P3 x3 y3 z3 w3):nY [.pv A] S=.ok (.pv (.int (sg (D3 x0 y0 z0 w0 x1 y1 z1 w1 x2 y2 z2 w2 x3 y3 z3 w3)))) S:=by
 have e1:=Z6 S hA p q r s;have e2:=wM (w0*w0*D3 x0 y0 z0 w0 x1 y1 z1 w1 x2 y2 z2 w2 x3 y3 z3 w3) S;rw[xD (aj p.pos p.pos)]at e2;unfold nY aR xA;simp! [aE,aZ,bA,aP,aM,aN,aK,aL,aF,aJ,e1,e2]
def Gp(n k:Nat)(v:PV):Prop:=∃xs w,v=.tup ((xs++[w]).map .int)/\Pq n k xs w
theorem Gp.two{v:PV}(h:Gp 2 1000 v):∃x y w,v=v2 x y w/\P2 x y w:=by
 obtain⟨xs,w,rfl,P⟩:=h
 match xs,P.len with
 |[x,y],_=>exact⟨x,y,w,rfl,P.bx x (by simp),P.bx y (by simp),P.bw,P.pos⟩
theorem Gp.three{v:PV}(h:Gp 3 1000 v):∃x y z w,v=v3 x y z w/\P3 x y z w:=by
 obtain⟨xs,w,rfl,P⟩:=h
 match xs,P.len with
 |[x,y,z],_=>exact⟨x,y,z,w,rfl,P.bx x (by simp),P.bx y (by simp),P.bx z (by simp),P.bw,P.pos⟩
theorem Vk(S:aG)(PL QL:AK)(xs ys:AB)(w v:Int)(hp:aE (.tup PL) (.int (-1))=some (.int w))(hq:aE (.tup QL) (.int (-1))=some (.int v))(hpj:∀j:Nat,j<xs.length->aE (.tup PL) (.int (j:Nat))=some (.int (xs.getD j 0)))(hqj:∀j:Nat,j<xs.length->aE (.tup QL) (.int (j:Nat))=some (.int (ys.getD j 0)))
  (bw:Bd 1000 w)(bv:Bd 1000 v)(hx:∀j,Bd 1000 (xs.getD j 0))(hy:∀j,Bd 1000 (ys.getD j 0)):∀(js:List Nat)(x:AM),(∀j∈js,j<xs.length)->
  cF [] (gN 0) (aC eV (aC aS (aC aE (aA 1) (aA 0)) (aC aE (aA 2) (bG bX (mC (.int 1))))) (aC aS (aC aE (aA 2) (aA 0)) (aC aE (aA 1) (bG bX (mC (.int 1)))))) (js.map λj=>.int (0+(j:Nat))) [x,some (.pv (.tup QL)),some (.pv (.tup PL))] S=.ok ((js.map λj=>ys.getD j 0*w-xs.getD j 0*v).map .int) S
 |[],x,_=>dB
 |j::js,x,h=>by
  have ih:=Vk S PL QL xs ys w v hp hq hpj hqj bw bv hx hy js (some (.pv (.int (0+(j:Nat))))) λi hi=>h i (ax _ hi);have e1:=hpj j (h j ce);have e2:=hqj j (h j ce);have m1:=mB ((hx j).mono (show 1000<=2000 by decide)) (bv.mono (show 1000<=2000 by decide));have m2:=mB ((hy j).mono (show 1000<=2000 by decide)) (bw.mono (show 1000<=2000 by decide));show cF [] _ _ (.int (0+(j:Nat))::js.map λj=>.int (0+(j:Nat))) _ S=_;rw[dE];simp only[oj]at ih⊢;generalize hX:xs.getD j 0=X at e1 m1;generalize hY:ys.getD j 0=Y at e2 m2;simp! [gN,bB,aM,aN,aK,aL,aF,aJ,e1,e2,hp,hq,m1,m2,ih];simp only[cv]at hX hY;rw[hX,hY]
theorem Nq{xs ys:AB}{w v:Int}(S:aG)(hl:xs.length=ys.length)(h9:xs.length<=9)(hx:∀x∈xs,Bd 1000 x)(hy:∀y∈ys,Bd 1000 y)(bw:Bd 1000 w)(bv:Bd 1000 v):
  rK [.pv (.tup ((xs++[w]).map .int)),.pv (.tup ((ys++[v]).map .int))] S=.ok (.pv (.lst ((wa xs w ys v).map .int))) S:=by
 have ip:=iQ xs w;have iq:=iQ ys v;have ec:=Vk S _ _ xs ys w v ip iq (λj h=>xM xs w j h) (λj h=>xM ys v j (by omega)) bw bv (wP hx) (wP hy) (aw xs.length) none λj hj=>by simpa using hj
 have er:(aw xs.length).map (λj=>ys.getD j 0*w-xs.getD j 0*v)=wa xs w ys v:=Si hl λx y=>y*w-x*v;rw[er]at ec;have hlen:((xs++[w]).map PV.int).length=xs.length+1:=by simp
 have hr:iE [.pv (.int (((xs.length+1:Nat):Int)-1))] S=.ok ((aw xs.length).map λj=>.int (0+(j:Nat)),[]) S:=by
  unfold iE;dsimp only;rw[if_pos ⟨by omega,by omega⟩];have:(((xs.length+1:Nat):Int)-1).toNat=xs.length:=by omega
  rw[this];rfl
 generalize (wa xs w ys v).map PV.int=ZL at ec;generalize (aw xs.length).map (λj=>PV.int (0+(j:Nat)))=RL at ec hr;generalize hP:(xs++[w]).map PV.int=PL at ip ec hlen;generalize (ys++[v]).map PV.int=QL at iq ec;unfold rK aR Vc;have hr2:=hr;rw[<-hlen]at hr2;simp! [bB,aM,aN,aK,aL,aF,aJ,aT,dC,hr2,bZ,ec]
theorem Ct{x0 y0 w0 x1 y1 w1:Int}(S:aG)(p:P2 x0 y0 w0)(q:P2 x1 y1 w1):rK [.pv (v2 x0 y0 w0),.pv (v2 x1 y1 w1)] S=.ok (.pv (.lst [.int (x1*w0-x0*w1),.int (y1*w0-y0*w1)])) S:=by
 have e:=Nq (xs:=[x0,y0]) (ys:=[x1,y1]) (w:=w0) (v:=w1) S rfl (by simp) (by simp;exact⟨p.bx,p.by_⟩) (by simp;exact⟨q.bx,q.by_⟩) p.bw q.bw;exact e
theorem Me{x0 y0 z0 w0 x1 y1 z1 w1:Int}(S:aG)(p:P3 x0 y0 z0 w0)(q:P3 x1 y1 z1 w1):rK [.pv (v3 x0 y0 z0 w0),.pv (v3 x1 y1 z1 w1)] S=.ok (.pv (.lst [.int (x1*w0-x0*w1),.int (y1*w0-y0*w1),.int (z1*w0-z0*w1)])) S:=by
 have e:=Nq (xs:=[x0,y0,z0]) (ys:=[x1,y1,z1]) (w:=w0) (v:=w1) S rfl (by simp) (by simp;exact⟨p.bx,p.by_,p.bz⟩) (by simp;exact⟨q.bx,q.by_,q.bz⟩) p.bw q.bw;exact e
theorem Xj{A:PV}{x0 y0 w0 x1 y1 w1 x2 y2 w2:Int}(S:aG)(hA:Sv A [v2 x0 y0 w0,v2 x1 y1 w1,v2 x2 y2 w2])(p:P2 x0 y0 w0)(q:P2 x1 y1 w1)(r:P2 x2 y2 w2):mM [.pv A] S=.ok (.pv (.int (w0*D2 x0 y0 w0 x1 y1 w1 x2 y2 w2))) S:=by
 have a1:=Ct S p q;have a2:=Ct S p r;have bu:=sb p.bx p.bw q.bx q.bw;have bv:=sb p.by_ p.bw q.by_ q.bw;have bu2:=sb p.bx p.bw r.bx r.bw;have bv2:=sb p.by_ p.bw r.by_ r.bw;have id:(x1*w0-x0*w1)*(y2*w0-y0*w2)-(y1*w0-y0*w1)*(x2*w0-x0*w2)=w0*D2 x0 y0 w0 x1 y1 w1 x2 y2 w2:=by
  unfold D2;grind
 generalize y2*w0-y0*w2=V1,x2*w0-x0*w2=V0,y1*w0-y0*w1=U1,x1*w0-x0*w1=U0,w0*D2 x0 y0 w0 x1 y1 w1 x2 y2 w2=D at *;have m1:=cU bu bv2;have m2:=cU bv bu2;generalize v2 x2 y2 w2=R,v2 x1 y1 w1=Q,v2 x0 y0 w0=P at *;have et:mI [.pv (.lst [.lst [.int U0,.int U1],.lst [.int V0,.int V1]])] S=.ok (.pv (.int D)) S:=by
  unfold mI aR tQ;simp! [aE,aZ,bA,aP,aM,aN,aK,aL,aF,aJ,m1,m2,id]
 unfold mM aR xL;rcases hA with rfl |rfl
 .have s1:=uE P [Q,R]
  simp! [aE,aZ,bA,aP,aM,aN,aK,aL,aF,aJ,aT,aY,bS,dL,cO,dI,fT,s1,bZ,dE,dB,gN,a1,a2,et]
 .have s1:=xQ P [Q,R]
  simp! [aE,aZ,bA,aP,aM,aN,aK,aL,aF,aJ,aT,aY,bS,dL,cO,dI,fT,s1,bZ,dE,dB,gN,a1,a2,et]
theorem Wz{A:PV}{x0 y0 z0 w0 x1 y1 z1 w1 x2 y2 z2 w2 x3 y3 z3 w3:Int}(S:aG)(hA:Sv A [v3 x0 y0 z0 w0,v3 x1 y1 z1 w1,v3 x2 y2 z2 w2,v3 x3 y3 z3 w3])(p:P3 x0 y0 z0 w0)(q:P3 x1 y1 z1 w1)(r:P3 x2 y2 z2 w2)(s:P3 x3 y3 z3 w3):mM [.pv A] S=.ok (.pv (.int (w0*w0*D3 x0 y0 z0 w0 x1 y1 z1 w1 x2 y2 z2 w2 x3 y3 z3 w3))) S:=by
 have a1:=Me S p q;have a2:=Me S p r;have a3:=Me S p s;have b1:=sb p.bx p.bw q.bx q.bw;have b2:=sb p.by_ p.bw q.by_ q.bw;have b3:=sb p.bz p.bw q.bz q.bw;have b4:=sb p.bx p.bw r.bx r.bw;have b5:=sb p.by_ p.bw r.by_ r.bw;have b6:=sb p.bz p.bw r.bz r.bw;have b7:=sb p.bx p.bw s.bx s.bw;have b8:=sb p.by_ p.bw s.by_ s.bw;have b9:=sb p.bz p.bw s.bz s.bw;have id:=Cr x0 y0 z0 w0 x1 y1 z1 w1 x2 y2 z2 w2 x3 y3 z3 w3;generalize z3*w0-z0*w3=T2,y3*w0-y0*w3=T1,x3*w0-x0*w3=T0,z2*w0-z0*w2=V2,y2*w0-y0*w2=V1,x2*w0-x0*w2=V0,z1*w0-z0*w1=U2,y1*w0-y0*w1=U1,x1*w0-x0*w1=U0,w0*w0*D3 x0 y0 z0 w0 x1 y1 z1 w1 x2 y2 z2 w2 x3 y3 z3 w3=D at *;have h:∀{a:Int},Bd 2001 a->Bd 10000 a:=λh=>h.mono (by decide);have h4:∀{a:Int},Bd 4003 a->Bd 100000 a:=λh=>h.mono (by decide);have h2:∀{a:Int},Bd 2001 a->Bd 100000 a:=λh=>h.mono (by decide);have en:=Xz (A:=.lst [.int U0,.int U1,.int U2]) (B:=.lst [.int V0,.int V1,.int V2]) S rfl rfl (h b1) (h b2) (h b3) (h b4) (h b5) (h b6);have c1:=cb b2 b6 b3 b5;have c2:=cb b3 b4 b1 b6;have c3:=cb b1 b5 b2 b4;have ed:=Z4 (A:=.lst [.int (U1*V2-U2*V1),.int (U2*V0-U0*V2),.int (U0*V1-U1*V0)]) (B:=.lst [.int T0,.int T1,.int T2]) (us:=[U1*V2-U2*V1,U2*V0-U0*V2,U0*V1-U1*V0]) (vs:=[T0,T1,T2]) S (.inl rfl) (.inl rfl) (by simp;exact⟨h4 c1,h4 c2,h4 c3⟩) (by simp;exact⟨h2 b7,h2 b8,h2 b9⟩);rw[id]at ed;generalize v3 x3 y3 z3 w3=T,v3 x2 y2 z2 w2=R,v3 x1 y1 z1 w1=Q,v3 x0 y0 z0 w0=P,U0*V1-U1*V0=N2,U2*V0-U0*V2=N1,U1*V2-U2*V1=N0 at *;have et:mI [.pv (.lst [.lst [.int U0,.int U1,.int U2],.lst [.int V0,.int V1,.int V2],.lst [.int T0,.int T1,.int T2]])] S=.ok (.pv (.int D)) S:=by
  unfold mI aR tQ;simp! [aE,aZ,bA,aP,aM,aN,aK,aL,aF,aJ,en,ed]
 unfold mM aR xL;rcases hA with rfl |rfl
 .have s1:=uE P [Q,R,T]
  simp! [aE,aZ,bA,aP,aM,aN,aK,aL,aF,aJ,aT,aY,bS,dL,cO,dI,fT,s1,bZ,dE,dB,gN,a1,a2,a3,et]
 .have s1:=xQ P [Q,R,T]
  simp! [aE,aZ,bA,aP,aM,aN,aK,aL,aF,aJ,aT,aY,bS,dL,cO,dI,fT,s1,bZ,dE,dB,gN,a1,a2,a3,et]
theorem adV{S:aG}{k:Nat}{ns:AB}(n:Nat)(hn:n=2\/n=3)(h:fZ S k ns):∃(v:PV)(ns':AB),nV [.ref k,.pv (.int n)] S=.ok (.pv v) (S.set k (.lst (ns'.map .int)))/\Gp n 100 v:=by
 obtain⟨xs,w,n1,e1,P,b1,b2⟩:=abv n hn h;exact⟨_,n1,e1,xs,w,rfl,P.pq b1 b2⟩
theorem D8{S:aG}{k:Nat}{ns:AB}{L:AK}(h:fZ S k ns):∃(A:PV)(ns':AB),oY [.ref k,.pv (.lst L)] S=.ok (.pv A) (S.set k (.lst (ns'.map .int)))/\Sv A L:=by
 obtain⟨t,n1,e1,t0,t1,_⟩:=lE (m:=2) h (by decide) (oM (by decide) (by decide));have tk:=Tl S k (.lst (n1.map .int));generalize hS:S.set k (.lst (n1.map .int))=S1 at e1 tk
 by_cases ht:t=1
 .subst ht
  refine⟨.tup L,n1,?_,.inr rfl⟩;rw[hS];unfold oY aR vT;simp! [aE,aZ,bA,aP,aM,aN,aK,aL,aF,aJ,e1,tk]
 .refine⟨.lst L,n1,?_,.inl rfl⟩
  rw[hS];unfold oY aR vT;simp! [aE,aZ,bA,aP,aM,aN,aK,aL,aF,aJ,e1,tk,ht]
theorem U6{G:Gd}{g:GM}{me:ME}{x:PV}{r:AK}{ρ:bY}{S:aG}(h:fS G S):cF G g me (x::r) ρ S=(match g x ρ with
  |none=>.fail
  |some ρ1=>match me ρ1 S with
   |.ok (.pv y) S1=>match cF G g me r ρ1 S1 with
    |.ok ys S2=>.ok (y::ys) S2
    |_=>.fail
   |_=>.fail):=by
 rw[cF,if_pos h]
 all_goals rfl
theorem G8{G:Gd}{g:GM}{me:ME}{ρ:bY}{S:aG}(h:fS G S):cF G g me [] ρ S=.ok [] S:=by
 rw[cF,if_pos h]
theorem Yk(a b c x0 y0 w0 x1 y1 w1 x2 y2 w2:Int):D2 (a*x0) (a*y0) (a*w0) (b*x1) (b*y1) (b*w1) (c*x2) (c*y2) (c*w2)=a*b*c*D2 x0 y0 w0 x1 y1 w1 x2 y2 w2:=by
 unfold D2;grind
theorem Ck(a b c d x0 y0 z0 w0 x1 y1 z1 w1 x2 y2 z2 w2 x3 y3 z3 w3:Int):D3 (a*x0) (a*y0) (a*z0) (a*w0) (b*x1) (b*y1) (b*z1) (b*w1) (c*x2) (c*y2) (c*z2) (c*w2) (d*x3) (d*y3) (d*z3) (d*w3)=a*b*c*d*D3 x0 y0 z0 w0 x1 y1 z1 w1 x2 y2 z2 w2 x3 y3 z3 w3:=by
 unfold D3;grind
structure R2(x y w X Y D:Int):Prop where
 pos:0<w
 dos:0<D
 ex:x*D=X*w
 ey:y*D=Y*w
theorem Bs{n k l:Nat}{xs ys:AB}{w v:Int}(hn:n=2\/n=3)(P:Pq n k xs w)(Q:Pq n l ys v)(hk:k<=2000)(hl:l<=2000):∃(zs:AB)(z:Int),(∀S,kY [.pv (.tup ((xs++[w]).map .int)),.pv (.tup ((ys++[v]).map .int))] S=.ok (.pv (.tup ((zs++[z]).map .int))) S)/\Pq n (l+k+1) zs z/\∀j,j<n->zs.getD j 0*(w*v)=(xs.getD j 0*v-ys.getD j 0*w)*z:=by
 obtain⟨zs,z,e,R,vl⟩:=Ws (way:=-1) (.inr rfl) Q P;refine⟨zs,z,λS=>?_,R,λj hj=>?_⟩
 .have h:=Hw S (P.len.trans Q.len.symm) (by rw[P.len];omega) P.pos Q.pos (λx hx=>(P.bx x hx).mono hk) (λx hx=>(Q.bx x hx).mono hl) (P.bw.mono hk) (Q.bw.mono hl)
  have e2:mv (-1) ys v xs w=low (sm xs w (ys.map (- ·)) v++[w*v]):=if_neg (by decide);rw[<-e2,e]at h;exact h
 .have h:=vl _ _ _ _ (Vl.self n ys v) (Vl.self n xs w) Q.pos P.pos j hj
  dsimp only at h;have c:w*v=v*w:=cq w v;rw[c,h];congr 1;grind
theorem Pq.p2{k:Nat}{x y w:Int}(P:Pq 2 k [x,y] w)(h:k<=1000):P2 x y w:=⟨(P.bx x (by simp)).mono h,(P.bx y (by simp)).mono h,P.bw.mono h,P.pos⟩
theorem Pq.p3{k:Nat}{x y z w:Int}(P:Pq 3 k [x,y,z] w)(h:k<=1000):P3 x y z w:=⟨(P.bx x (by simp)).mono h,(P.bx y (by simp)).mono h,(P.bx z (by simp)).mono h,P.bw.mono h,P.pos⟩
def vC:AK->Int
 |[.tup [.int x0,.int y0,.int w0],.tup [.int x1,.int y1,.int w1],.tup [.int x2,.int y2,.int w2]]=>sg (D2 x0 y0 w0 x1 y1 w1 x2 y2 w2)
 |[.tup [.int x0,.int y0,.int z0,.int w0],.tup [.int x1,.int y1,.int z1,.int w1],.tup [.int x2,.int y2,.int z2,.int w2],.tup [.int x3,.int y3,.int z3,.int w3]]=>sg (D3 x0 y0 z0 w0 x1 y1 z1 w1 x2 y2 z2 w2 x3 y3 z3 w3)
 |_=>0
theorem P8{n:Nat}(hn:n=2\/n=3){A:PV}{L:AK}(S:aG)(hl:L.length=n+1)(hg:∀v∈L,Gp n 1000 v)(hA:Sv A L):nY [.pv A] S=.ok (.pv (.int (vC L))) S:=by
 rcases hn with rfl |rfl
 .match L,hl with
  |[P,Q,R],_=>
   obtain⟨x0,y0,w0,rfl,p⟩:=(hg P (by simp)).two;obtain⟨x1,y1,w1,rfl,q⟩:=(hg Q (by simp)).two;obtain⟨x2,y2,w2,rfl,r⟩:=(hg R (by simp)).two;exact D7 S hA p q r
 .match L,hl with
  |[P,Q,R,T],_=>
   obtain⟨x0,y0,z0,w0,rfl,p⟩:=(hg P (by simp)).three;obtain⟨x1,y1,z1,w1,rfl,q⟩:=(hg Q (by simp)).three;obtain⟨x2,y2,z2,w2,rfl,r⟩:=(hg R (by simp)).three;obtain⟨x3,y3,z3,w3,rfl,s⟩:=(hg T (by simp)).three;exact F4 S hA p q r s
theorem Oq(D:Int):sg (-D)=-sg D:=by
 unfold sg;split<;>split<;>(try split)<;>(try split)<;>omega
abbrev tv(us:AB):PV:=.tup (us.map .int)
def Gu(n k:Nat)(us:AB):Prop:=∃xs w,us=xs++[w]/\Pq n k xs w
theorem Gu.gp{n k:Nat}{us:AB}(h:Gu n k us):Gp n k (tv us):=by
 obtain⟨xs,w,rfl,P⟩:=h;exact⟨xs,w,rfl,P⟩
theorem Gu.ne{n k:Nat}{us:AB}(h:Gu n k us):us≠[]:=by
 obtain⟨xs,w,rfl,P⟩:=h;simp
theorem Au{n k:Nat}{uss:AE}(h:∀us∈uss,Gu n k us):∀v∈uss.map tv,Gp n k v:=λv hv=>by
 obtain⟨us,hu,rfl⟩:=bj.mp hv;exact(h us hu).gp
theorem Ch:∀uss:AE,nW (uss.map tv)=some uss
 |[]=>rfl
 |us::uss=>by
  have ih:=Ch uss;show(match iB (us.map .int),nW (uss.map tv)with |some is,some uss=>some (is::uss) |_,_=>none)=_
  rw[ih,qT]
theorem Ti{uss:AE}{n:Nat}(hl:uss.length=n)(hp:(dW uss).Perm (aw n)):Ge (uss.map tv) uss=(fM uss).map tv:=by
 unfold Ge fM;rw[cg];refine eh λi hi=>?_;have h:i<uss.length:=by
  have:=hp.subset hi;rw[hl];simpa using this
 simp[ci,h]
theorem Ow{A:PV}{uss:AE}(hl:uss.length=3\/uss.length=4)(hA:Sv A (uss.map tv))(hne:∀us∈uss,us≠[]):tJ [A]=some (.lst ((fM uss).map tv)):=by
 have e:rQ (uss.map tv)=some (.lst ((fM uss).map tv)):=by
  unfold rQ;rw[Ch];dsimp only;rcases hl with h |h
  .obtain⟨_,hp,_⟩:=Xm h
   rw[if_pos (show Ae uss from⟨by omega,by omega,by rw[h];exact Hs,by rw[hp.length_eq];simp,hne⟩),Ti h hp]
  .obtain⟨_,hp,_⟩:=Jn h
   rw[if_pos (show Ae uss from⟨by omega,by omega,by rw[h];exact Rr,by rw[hp.length_eq];simp,hne⟩),Ti h hp]
 rcases hA with rfl |rfl
 .exact e
 .exact e
def qK{α:Type}:List α->List α
 |[a,b,c]=>[a,c,b]
 |[a,b,c,d]=>[a,b,d,c]
 |l=>l
theorem N4{α β:Type}(f:α->β)(l:List α):(qK l).map f=qK (l.map f):=by
 rcases l with _ |⟨a,_ |⟨b,_ |⟨c,_ |⟨d,_ |⟨e,l⟩⟩⟩⟩⟩<;>rfl
theorem A7{α:Type}(l:List α):(qK l).Perm l:=by
 unfold qK;split
 .exact .cons _ (.swap _ _ _)
 .exact .cons _ (.cons _ (.swap _ _ _))
 .exact .refl _
def dU:AE->Int
 |[[x0,y0,w0],[x1,y1,w1],[x2,y2,w2]]=>D2 x0 y0 w0 x1 y1 w1 x2 y2 w2
 |[[x0,y0,z0,w0],[x1,y1,z1,w1],[x2,y2,z2,w2],[x3,y3,z3,w3]]=>D3 x0 y0 z0 w0 x1 y1 z1 w1 x2 y2 z2 w2 x3 y3 z3 w3
 |_=>0
theorem Gu.two{k:Nat}{us:AB}(h:Gu 2 k us)(hk:k<=1000):∃x y w,us=[x,y,w]/\P2 x y w:=by
 obtain⟨xs,w,rfl,P⟩:=h
 match xs,P.len,P with
 |[x,y],_,P=>exact⟨x,y,w,rfl,P.p2 hk⟩
theorem Gu.three{k:Nat}{us:AB}(h:Gu 3 k us)(hk:k<=1000):∃x y z w,us=[x,y,z,w]/\P3 x y z w:=by
 obtain⟨xs,w,rfl,P⟩:=h
 match xs,P.len,P with
 |[x,y,z],_,P=>exact⟨x,y,z,w,rfl,P.p3 hk⟩
theorem Xo{n k:Nat}(hn:n=2\/n=3)(hk:k<=1000){uss:AE}(hl:uss.length=n+1)(hg:∀us∈uss,Gu n k us):vC (uss.map tv)=sg (dU uss):=by
 rcases hn with rfl |rfl
 .match uss,hl with
  |[a,b,c],_=>
   obtain⟨x0,y0,w0,rfl,_⟩:=(hg a (by simp)).two hk;obtain⟨x1,y1,w1,rfl,_⟩:=(hg b (by simp)).two hk;obtain⟨x2,y2,w2,rfl,_⟩:=(hg c (by simp)).two hk;rfl
 .match uss,hl with
  |[a,b,c,d],_=>
   obtain⟨x0,y0,z0,w0,rfl,_⟩:=(hg a (by simp)).three hk;obtain⟨x1,y1,z1,w1,rfl,_⟩:=(hg b (by simp)).three hk;obtain⟨x2,y2,z2,w2,rfl,_⟩:=(hg c (by simp)).three hk;obtain⟨x3,y3,z3,w3,rfl,_⟩:=(hg d (by simp)).three hk;rfl
def Pw(n:Nat)(us:AB):Prop:=∃xs w,us=xs++[w]/\xs.length=n/\0<w
theorem Pw.two{us:AB}(h:Pw 2 us):∃x y w,us=[x,y,w]/\0<w:=by
 obtain⟨xs,w,rfl,l,p⟩:=h
 match xs,l with
 |[x,y],_=>exact⟨x,y,w,rfl,p⟩
theorem Pw.three{us:AB}(h:Pw 3 us):∃x y z w,us=[x,y,z,w]/\0<w:=by
 obtain⟨xs,w,rfl,l,p⟩:=h
 match xs,l with
 |[x,y,z],_=>exact⟨x,y,z,w,rfl,p⟩
theorem Gu.pt{n k:Nat}{us:AB}(h:Gu n k us):Pw n us:=by
 obtain⟨xs,w,e,P⟩:=h;exact⟨xs,w,e,P.len,P.pos⟩
theorem dU2{x0 y0 w0 x1 y1 w1 x2 y2 w2:Int}:dU [[x0,y0,w0],[x1,y1,w1],[x2,y2,w2]]=D2 x0 y0 w0 x1 y1 w1 x2 y2 w2:=rfl
theorem dU3{x0 y0 z0 w0 x1 y1 z1 w1 x2 y2 z2 w2 x3 y3 z3 w3:Int}:dU [[x0,y0,z0,w0],[x1,y1,z1,w1],[x2,y2,z2,w2],[x3,y3,z3,w3]]=D3 x0 y0 z0 w0 x1 y1 z1 w1 x2 y2 z2 w2 x3 y3 z3 w3:=rfl
theorem Mo{n:Nat}(hn:n=2\/n=3){pre l:AE}{x y:AB}(hl:(pre++y::x::l).length=n+1)(hp:∀u∈pre++y::x::l,Pw n u):dU (pre++x::y::l)=-dU (pre++y::x::l):=by
 have hx:=hp x (by simp);have hy:=hp y (by simp);rcases hn with rfl |rfl
 .obtain⟨x0,y0,w0,rfl,_⟩:=hx.two
  obtain⟨x1,y1,w1,rfl,_⟩:=hy.two;have fin:∀c∈pre++l,∃x y w,c=[x,y,w]:=λc hc=>by
   obtain⟨x,y,w,e,_⟩:=(hp c (by simp at hc⊢;rcases hc with h |h<;>simp[h])).two;exact⟨x,y,w,e⟩
  match pre,l,hl,fin with
  |[],[c],_,fin |[c],[],_,fin=>
   obtain⟨x2,y2,w2,rfl⟩:=fin c (by simp);simp only[gi,jt,dU2,D2];grind
  |[],[],h,_=>simp at h
  |[],_::_::_,h,_=>simp at h
  |_::_::_,_,h,_=>simp at h;omega
  |[_],_::_,h,_=>simp at h
 .obtain⟨x0,y0,z0,w0,rfl,_⟩:=hx.three
  obtain⟨x1,y1,z1,w1,rfl,_⟩:=hy.three;have fin:∀c∈pre++l,∃x y z w,c=[x,y,z,w]:=λc hc=>by
   obtain⟨x,y,z,w,e,_⟩:=(hp c (by simp at hc⊢;rcases hc with h |h<;>simp[h])).three;exact⟨x,y,z,w,e⟩
  match pre,l,hl,fin with
  |[],[c,d],_,fin |[c],[d],_,fin |[c,d],[],_,fin=>
   obtain⟨x2,y2,z2,w2,rfl⟩:=fin c (by simp);obtain⟨x3,y3,z3,w3,rfl⟩:=fin d (by simp);simp only[gi,jt,dU3,D3];grind
  |[],[],h,_=>simp at h
  |[],[_],h,_=>simp at h
  |[],_::_::_::_,h,_=>simp at h
  |[_],[],h,_=>simp at h
  |[_],_::_::_,h,_=>simp at h
  |[_,_],_::_,h,_=>simp at h
  |_::_::_::_,_,h,_=>simp at h;omega
theorem V3{n:Nat}(hn:n=2\/n=3){A B:AE}(h:A.Perm B):∀pre:AE,(pre++A).length=n+1->(∀u∈pre++A,Pw n u)->dU (pre++B)=dU (pre++A)\/dU (pre++B)=-dU (pre++A):=by
 induction h with
 |nil=>exact λpre _ _=>.inl rfl
 |cons x _ ih=>
  intro pre hl hp;have:=ih (pre++[x]) (by simpa using hl) (by simpa using hp);simpa using this
 |swap x y l=>exact λpre hl hp=>.inr (Mo hn hl hp)
 |trans h1 h2 ih1 ih2=>
  intro pre hl hp;have q1:=ih1 pre hl hp;have q2:=ih2 pre (by rw[<-(h1.append_left pre).length_eq];exact hl) λu hu=>hp u ((h1.append_left pre).mem_iff.mpr hu);omega
theorem X7{n k:Nat}(hn:n=2\/n=3)(hk:k<=1000){uss:AE}(hl:uss.length=n+1)(hg:∀us∈uss,Gu n k us):dU (fM uss)=dU uss\/dU (fM uss)=-dU uss:=
 V3 hn (vL (by omega)).1.symm [] hl λu hu=>(hg u hu).pt
theorem Ks{n:Nat}(hn:n=2\/n=3){uss:AE}(hl:uss.length=n+1):uss.length=3\/uss.length=4:=by
 rcases hn with rfl |rfl
 .exact .inl hl
 .exact .inr hl
theorem R4{n:Nat}(hn:n=2\/n=3){A:PV}{L:AK}(S:aG)(hl:L.length=n+1)(hg:∀v∈L,Gp n 1000 v)(hA:Sv A L):∃d:Int,mM [.pv A] S=.ok (.pv (.int d)) S/\sg d=vC L:=by
 rcases hn with rfl |rfl
 .match L,hl with
  |[P,Q,R],_=>
   obtain⟨x0,y0,w0,rfl,p⟩:=(hg P (by simp)).two;obtain⟨x1,y1,w1,rfl,q⟩:=(hg Q (by simp)).two;obtain⟨x2,y2,w2,rfl,r⟩:=(hg R (by simp)).two;exact⟨_,Xj S hA p q r,xD p.pos⟩
 .match L,hl with
  |[P,Q,R,T],_=>
   obtain⟨x0,y0,z0,w0,rfl,p⟩:=(hg P (by simp)).three;obtain⟨x1,y1,z1,w1,rfl,q⟩:=(hg Q (by simp)).three;obtain⟨x2,y2,z2,w2,rfl,r⟩:=(hg R (by simp)).three;obtain⟨x3,y3,z3,w3,rfl,s⟩:=(hg T (by simp)).three;exact⟨_,Wz S hA p q r s,xD (aj p.pos p.pos)⟩
def nG(uss:AE):AE:=if vC ((fM uss).map tv)<0 then qK (fM uss)else fM uss
theorem adc{n:Nat}(hn:n=2\/n=3){L:AK}(hl:L.length=n+1):∃a b M,iA (.lst L) none (some (-2))=some (.lst M)/\aE (.lst L) (.int (-1))=some a/\aE (.lst L) (.int (-2))=some b/\aF (.lst M) (.lst [a,b])=some (.lst (qK L)):=by
 rcases hn with rfl |rfl
 .match L,hl with
  |[P,Q,R],_=>exact⟨R,Q,[P],rfl,rfl,rfl,rfl⟩
 .match L,hl with
  |[P,Q,R,T],_=>exact⟨T,R,[P,Q],rfl,rfl,rfl,rfl⟩
theorem Ew{n:Nat}(hn:n=2\/n=3){A:PV}{a:AV}{uss:AE}(S:aG)(ha:rd S a=some A)(hl:uss.length=n+1)(hg:∀us∈uss,Gu n 1000 us)(hA:Sv A (uss.map tv)):oX [a] S=.ok (.pv (.tup ((nG uss).map tv))) S:=by
 have h34:uss.length=3\/uss.length=4:=by omega
 have e1:=Ow h34 hA λus hu=>(hg us hu).ne;obtain⟨pm,_⟩:=vL h34;have hl2:((fM uss).map tv).length=n+1:=by rw[ak,pm.length_eq];exact hl
 have hg2:∀v∈(fM uss).map tv,Gp n 1000 v:=Au λus hu=>hg us (pm.subset hu);obtain⟨d,e2,hd⟩:=R4 (A:=.lst ((fM uss).map tv)) hn S hl2 hg2 (.inl rfl);obtain⟨a1,b1,M,t1,t2,t3,t4⟩:=adc hn hl2;unfold nG;have hlt:d<0↔vC ((fM uss).map tv)<0:=by
  rw[<-hd];unfold sg;split
  .omega
  .split<;>omega
 by_cases h:d<0
 .rw[if_pos (hlt.mp h),N4]
  generalize (fM uss).map tv=L at *;unfold oX aR vO;simp! [-rd,rd.eq_1,bB,aM,aN,aK,aL,aJ,ha,e1,e2,h,dL,cO,dI,fT,t1,t2,t3,t4]
 .rw[if_neg (λz=>h (hlt.mpr z))]
  generalize (fM uss).map tv=L at *;unfold oX aR vO;simp! [-rd,rd.eq_1,bB,aM,aN,aK,aL,aJ,ha,e1,e2,h]
theorem Aw{n:Nat}(hn:n=2\/n=3){A:PV}{uss:AE}(S:aG)(hl:uss.length=n+1)(hg:∀us∈uss,Gu n 1000 us)(hA:Sv A (uss.map tv)):oX [.pv A] S=.ok (.pv (.tup ((nG uss).map tv))) S:=Ew hn S rfl hl hg hA
theorem E1{uss:AE}(h:uss.length=3\/uss.length=4):(nG uss).Perm uss:=by
 obtain⟨pm,_⟩:=vL h;unfold nG;split
 .exact(A7 _).trans pm
 .exact pm
theorem Tp{S:aG}{k j:Nat}{xs:AK}{v:PV}(hS:S[k]?=some (.lst xs))(hv:xs[j]?=some v)(hj:j<1000):pZ k [.pv (.int (j:Int))] S=.ok (.pv v) (S.set k (.lst (xs.eraseIdx j))):=by
 have hl:=(da.mp hv).1;have e:seqIndex? (j:Int) xs.length=some j:=by
  unfold seqIndex?;have h1:¬((j:Int)<0):=by omega
  have h2:(decide (0<=(j:Int))&&decide ((j:Int)<(xs.length:Int)))=true:=by
   simp only[fh,decide_eq_true_eq];omega
  simp only[h1,if_false];rw[if_pos h2,qg]
 unfold pZ;dsimp only;rw[if_pos ⟨by omega,by omega⟩,hS];dsimp only;rw[e];dsimp only;rw[hv]
def wU:AE->Int
 |[]=>1
 |us::r=>us.getLastD 0*wU r
theorem Gu.mono{n k l:Nat}{us:AB}(h:Gu n k us)(hl:k<=l):Gu n l us:=by
 obtain⟨xs,w,e,P⟩:=h;exact⟨xs,w,e,P.mono hl⟩
theorem Ds{d:Int}:sg d<0↔d<0:=by
 unfold sg;split
 .omega
 .split<;>omega
theorem aaV{n k:Nat}(hn:n=2\/n=3)(hk:k<=1000){uss:AE}(hl:uss.length=n+1)(hg:∀us∈uss,Gu n k us):dU (qK uss)=-dU uss:=by
 rcases hn with rfl |rfl
 .match uss,hl with
  |[a,b,c],_=>
   obtain⟨x0,y0,w0,rfl,_⟩:=(hg a (by simp)).two hk;obtain⟨x1,y1,w1,rfl,_⟩:=(hg b (by simp)).two hk;obtain⟨x2,y2,w2,rfl,_⟩:=(hg c (by simp)).two hk;show D2 x0 y0 w0 x2 y2 w2 x1 y1 w1=-(D2 x0 y0 w0 x1 y1 w1 x2 y2 w2);unfold D2;grind
 .match uss,hl with
  |[a,b,c,d],_=>
   obtain⟨x0,y0,z0,w0,rfl,_⟩:=(hg a (by simp)).three hk;obtain⟨x1,y1,z1,w1,rfl,_⟩:=(hg b (by simp)).three hk;obtain⟨x2,y2,z2,w2,rfl,_⟩:=(hg c (by simp)).three hk;obtain⟨x3,y3,z3,w3,rfl,_⟩:=(hg d (by simp)).three hk;show D3 x0 y0 z0 w0 x1 y1 z1 w1 x3 y3 z3 w3 x2 y2 z2 w2=-(D3 x0 y0 z0 w0 x1 y1 z1 w1 x2 y2 z2 w2 x3 y3 z3 w3);unfold D3;grind
theorem aaX{n k:Nat}(hn:n=2\/n=3)(hk:k<=1000){uss:AE}(hl:uss.length=n+1)(hg:∀us∈uss,Gu n k us):dU (nG uss)=((dU uss).natAbs:Int):=by
 have hp:=(vL (Ks hn hl)).1;have gs:∀us∈fM uss,Gu n k us:=λus hu=>hg us (hp.subset hu);have ls:(fM uss).length=n+1:=by rw[hp.length_eq,hl]
 have e:=X7 hn hk hl hg;have s:=aaV hn hk ls gs;have q:=Xo hn hk ls gs;unfold nG;split
 .rename_i h
  rw[q,Ds]at h;rw[s];omega
 .rename_i h
  rw[q,Ds]at h;omega
theorem pQ{n k:Nat}:∀{uss:AE},(∀us∈uss,Gu n k us)->0<wU uss
 |[],_=>by decide
 |us::r,h=>by
  unfold wU;obtain⟨xs,w,rfl,P⟩:=h us ce;refine aj ?_ (pQ λu hu=>h u (ax _ hu));rw[show(xs++[w]).getLastD 0=w by simp];exact P.pos
abbrev px(uss:AE):PV:=.tup (uss.map tv)
def gC(n:Nat)(A C:Nat->Int)(E:Int)(us us':AB):Prop:=∃xs w xs' w',us=xs++[w]/\us'=xs'++[w']/\xs.length=n/\xs'.length=n/\0<w/\0<w'/\∀j,j<n->xs'.getD j 0*(E*w)=(A j*xs.getD j 0+C j*w)*w'
theorem gC.two{A C:Nat->Int}{E:Int}{us us':AB}(h:gC 2 A C E us us'):∃x y w x' y' w',us=[x,y,w]/\us'=[x',y',w']/\x'*(E*w)=(A 0*x+C 0*w)*w'/\y'*(E*w)=(A 1*y+C 1*w)*w':=by
 obtain⟨xs,w,xs',w',rfl,rfl,l,l',_,_,h⟩:=h
 match xs,l,xs',l',h with
 |[x,y],_,[x',y'],_,h=>exact⟨x,y,w,x',y',w',rfl,rfl,h 0 (by decide),h 1 (by decide)⟩
theorem gC.three{A C:Nat->Int}{E:Int}{us us':AB}(h:gC 3 A C E us us'):∃x y z w x' y' z' w',us=[x,y,z,w]/\us'=[x',y',z',w']/\x'*(E*w)=(A 0*x+C 0*w)*w'/\y'*(E*w)=(A 1*y+C 1*w)*w'/\z'*(E*w)=(A 2*z+C 2*w)*w':=by
 obtain⟨xs,w,xs',w',rfl,rfl,l,l',_,_,h⟩:=h
 match xs,l,xs',l',h with
 |[x,y,z],_,[x',y',z'],_,h=>exact⟨x,y,z,w,x',y',z',w',rfl,rfl,h 0 (by decide),h 1 (by decide),h 2 (by decide)⟩
theorem ac0(a b c d E x0 y0 w0 x1 y1 w1 x2 y2 w2:Int):D2 (a*x0+c*w0) (b*y0+d*w0) (E*w0) (a*x1+c*w1) (b*y1+d*w1) (E*w1) (a*x2+c*w2) (b*y2+d*w2) (E*w2)=a*b*E*D2 x0 y0 w0 x1 y1 w1 x2 y2 w2:=by
 unfold D2;grind
theorem aco(a b p c d e E x0 y0 z0 w0 x1 y1 z1 w1 x2 y2 z2 w2 x3 y3 z3 w3:Int):D3 (a*x0+c*w0) (b*y0+d*w0) (p*z0+e*w0) (E*w0) (a*x1+c*w1) (b*y1+d*w1) (p*z1+e*w1) (E*w1) (a*x2+c*w2) (b*y2+d*w2) (p*z2+e*w2) (E*w2) (a*x3+c*w3) (b*y3+d*w3) (p*z3+e*w3) (E*w3)=a*b*p*E*D3 x0 y0 z0 w0 x1 y1 z1 w1 x2 y2 z2 w2 x3 y3 z3 w3:=by
 unfold D3;grind
theorem cm(a b:Int){c:Int}(h:a*b=c):b*a=c:=by rw[cq];exact h
theorem yJ{A C:Nat->Int}{E:Int}{P Q R P' Q' R':AB}(h0:gC 2 A C E P P')(h1:gC 2 A C E Q Q')(h2:gC 2 A C E R R'):dU [P',Q',R']*(E*E*E*wU [P,Q,R])=A 0*A 1*E*dU [P,Q,R]*wU [P',Q',R']:=by
 obtain⟨x0,y0,w0,X0,Y0,W0,rfl,rfl,p,q⟩:=h0.two;obtain⟨x1,y1,w1,X1,Y1,W1,rfl,rfl,p1,q1⟩:=h1.two;obtain⟨x2,y2,w2,X2,Y2,W2,rfl,rfl,p2,q2⟩:=h2.two;have e:=Yk (E*w0) (E*w1) (E*w2) X0 Y0 W0 X1 Y1 W1 X2 Y2 W2;have f:=Yk W0 W1 W2 (A 0*x0+C 0*w0) (A 1*y0+C 1*w0) (E*w0) (A 0*x1+C 0*w1) (A 1*y1+C 1*w1) (E*w1) (A 0*x2+C 0*w2) (A 1*y2+C 1*w2) (E*w2);rw[ac0]at f;rw[cm _ _ p,cm _ _ q,cm _ _ p1,cm _ _ q1,cm _ _ p2,cm _ _ q2,cq _ W0,cq _ W0,cq _ W0,cq _ W1,cq _ W1,cq _ W1,cq _ W2,cq _ W2,cq _ W2]at e;have g:=e.symm.trans f;show D2 X0 Y0 W0 X1 Y1 W1 X2 Y2 W2*(E*E*E*(w0*(w1*(w2*1))))=A 0*A 1*E*D2 x0 y0 w0 x1 y1 w1 x2 y2 w2*(W0*(W1*(W2*1)));generalize D2 X0 Y0 W0 X1 Y1 W1 X2 Y2 W2=d at g⊢;generalize D2 x0 y0 w0 x1 y1 w1 x2 y2 w2=d' at g⊢;clear e f p q p1 q1 p2 q2 h0 h1 h2;grind
theorem Se{A C:Nat->Int}{E:Int}{P Q R T P' Q' R' T':AB}(h0:gC 3 A C E P P')(h1:gC 3 A C E Q Q')(h2:gC 3 A C E R R')(h3:gC 3 A C E T T'):dU [P',Q',R',T']*(E*E*E*E*wU [P,Q,R,T])=A 0*A 1*A 2*E*dU [P,Q,R,T]*wU [P',Q',R',T']:=by
 obtain⟨x0,y0,z0,w0,X0,Y0,Z0,W0,rfl,rfl,p,q,r⟩:=h0.three;obtain⟨x1,y1,z1,w1,X1,Y1,Z1,W1,rfl,rfl,p1,q1,r1⟩:=h1.three;obtain⟨x2,y2,z2,w2,X2,Y2,Z2,W2,rfl,rfl,p2,q2,r2⟩:=h2.three;obtain⟨x3,y3,z3,w3,X3,Y3,Z3,W3,rfl,rfl,p3,q3,r3⟩:=h3.three;have e:=Ck (E*w0) (E*w1) (E*w2) (E*w3) X0 Y0 Z0 W0 X1 Y1 Z1 W1 X2 Y2 Z2 W2 X3 Y3 Z3 W3;have f:=Ck W0 W1 W2 W3 (A 0*x0+C 0*w0) (A 1*y0+C 1*w0) (A 2*z0+C 2*w0) (E*w0) (A 0*x1+C 0*w1) (A 1*y1+C 1*w1) (A 2*z1+C 2*w1) (E*w1) (A 0*x2+C 0*w2) (A 1*y2+C 1*w2) (A 2*z2+C 2*w2) (E*w2) (A 0*x3+C 0*w3) (A 1*y3+C 1*w3) (A 2*z3+C 2*w3) (E*w3);rw[aco]at f;rw[cm _ _ p,cm _ _ q,cm _ _ r,cm _ _ p1,cm _ _ q1,cm _ _ r1,cm _ _ p2,cm _ _ q2,cm _ _ r2,cm _ _ p3,cm _ _ q3,cm _ _ r3]at e;have cW:∀a W:Int,a*W=W*a:=cq;rw[cW _ W0,cW _ W0,cW _ W0,cW _ W0,cW _ W1,cW _ W1,cW _ W1,cW _ W1,cW _ W2,cW _ W2,cW _ W2,cW _ W2,cW _ W3,cW _ W3,cW _ W3,cW _ W3]at e;have g:=e.symm.trans f;show D3 X0 Y0 Z0 W0 X1 Y1 Z1 W1 X2 Y2 Z2 W2 X3 Y3 Z3 W3*(E*E*E*E*(w0*(w1*(w2*(w3*1)))))=A 0*A 1*A 2*E*D3 x0 y0 z0 w0 x1 y1 z1 w1 x2 y2 z2 w2 x3 y3 z3 w3*(W0*(W1*(W2*(W3*1))));generalize D3 X0 Y0 Z0 W0 X1 Y1 Z1 W1 X2 Y2 Z2 W2 X3 Y3 Z3 W3=d at g⊢;generalize D3 x0 y0 z0 w0 x1 y1 z1 w1 x2 y2 z2 w2 x3 y3 z3 w3=d' at g⊢;clear e f p q r p1 q1 r1 p2 q2 r2 p3 q3 r3 h0 h1 h2 h3 cW;grind
def gG(way:Int)(f us:AB):AB:=mv way us.dropLast (us.getLastD 0) f.dropLast (f.getLastD 0)
theorem Np(way:Int)(xs:AB)(w:Int)(ys:AB)(v:Int):gG way (ys++[v]) (xs++[w])=mv way xs w ys v:=by
 unfold gG;simp
theorem mL{n k l:Nat}{way:Int}{us f:AB}(hway:way=1\/way=-1)(h:Gu n k us)(g:Gu n l f):Gu n (k+l+1) (gG way f us)/\gC n (λ_=>way*f.getLastD 0) (λj=>f.getD j 0) (f.getLastD 0) us (gG way f us):=by
 obtain⟨xs,w,rfl,P⟩:=h;obtain⟨ys,v,rfl,Q⟩:=g;rw[Np];obtain⟨zs,z,e,Z,hv⟩:=Ws hway P Q;rw[e];refine⟨⟨zs,z,rfl,Z⟩,xs,w,zs,z,rfl,rfl,P.len,Z.len,P.pos,Z.pos,λj hj=>?_⟩;have a:=hv _ _ _ _ (Vl.self n xs w) (Vl.self n ys v) P.pos Q.pos j hj;rw[show(ys++[v]).getLastD 0=v by simp];have eg:(ys++[v]).getD j 0=ys.getD j 0:=by
  have:j<ys.length:=by rw[Q.len];exact hj
  simp[ci,fu this]
 dsimp only at a⊢;rw[eg];generalize ys.getD j 0=y at a⊢;generalize xs.getD j 0=x at a⊢;generalize zs.getD j 0=t at a⊢;rw[cq v w,a];grind
theorem N9{n k l:Nat}{way:Int}{us f:AB}(S:aG)(hn:n=2\/n=3)(hway:way=1\/way=-1)(h:Gu n k us)(g:Gu n l f)(hk:k<=1000)(hl:l<=1000):nJ [.pv (tv us),.pv (tv f),.pv (.int way)] S=.ok (.pv (tv (gG way f us))) S:=by
 obtain⟨xs,w,rfl,P⟩:=h;obtain⟨ys,v,rfl,Q⟩:=g;rw[Np];exact P5 S hn hway P Q hk hl
theorem Sy{a b w v:Int}(hw:0<w)(hv:0<v)(h:a*w=b*v\/a*w=-(b*v)):(a.natAbs:Int)*w=(b.natAbs:Int)*v:=by
 have e:(a*w).natAbs=(b*v).natAbs:=by
  rcases h with h |h
  .rw[h]
  .rw[h,zi]
 rw[si,si]at e;have e1:((w.natAbs:Nat):Int)=w:=by omega
 have e2:((v.natAbs:Nat):Int)=v:=by omega
 have e3:((a.natAbs*w.natAbs:Nat):Int)=((b.natAbs*v.natAbs:Nat):Int):=by rw[e]
 rw[xo,xo,e1,e2]at e3;exact e3
theorem ad2{v d d' w w':Int}{way:Int}(hv:0<v)(hway:way=1\/way=-1)(h:d'*(v*v*v*w)=way*v*(way*v)*v*d*w'):d'*w=d*w':=by
 have e:(d'*w)*(v*v*v)=(d*w')*(v*v*v):=by rcases hway with rfl |rfl<;>grind
 exact tV (aj (aj hv hv) hv) e
theorem adP{v d d' w w':Int}{way:Int}(hv:0<v)(hway:way=1\/way=-1)(h:d'*(v*v*v*v*w)=way*v*(way*v)*(way*v)*v*d*w'):d'*w=d*w'\/d'*w=-(d*w'):=by
 have p:=aj (aj (aj hv hv) hv) hv;rcases hway with rfl |rfl
 .left
  have e:(d'*w)*(v*v*v*v)=(d*w')*(v*v*v*v):=by grind
  exact tV p e
 .right
  have e:(d'*w)*(v*v*v*v)=(-(d*w'))*(v*v*v*v):=by grind
  exact tV p e
theorem Wc{n k l:Nat}{way:Int}{f:AB}{uss:AE}(hway:way=1\/way=-1)(hg:∀us∈uss,Gu n k us)(g:Gu n l f):∀us∈uss.map (gG way f),Gu n (k+l+1) us:=λus hu=>by
 obtain⟨u,hm,rfl⟩:=bj.mp hu;exact(mL hway (hg u hm) g).1
theorem Gu.lastpos{n k:Nat}{f:AB}(h:Gu n k f):0<f.getLastD 0:=by
 obtain⟨xs,w,rfl,P⟩:=h;rw[show(xs++[w]).getLastD 0=w by simp];exact P.pos
theorem abS{n k l:Nat}(hn:n=2\/n=3){way:Int}{f:AB}{uss:AE}(hway:way=1\/way=-1)(hl:uss.length=n+1)(hg:∀us∈uss,Gu n k us)(g:Gu n l f):((dU (uss.map (gG way f))).natAbs:Int)*wU uss=((dU uss).natAbs:Int)*wU (uss.map (gG way f)):=by
 have hv:=g.lastpos;have p1:=pQ hg;have p2:=pQ (Wc hway hg g);refine Sy p1 p2 ?_;rcases hn with rfl |rfl
 .match uss,hl,hg with
  |[a,b,c],_,hg=>
   have e:=yJ (mL hway (hg a (by simp)) g).2 (mL hway (hg b (by simp)) g).2 (mL hway (hg c (by simp)) g).2;exact .inl (ad2 hv hway e)
 .match uss,hl,hg with
  |[a,b,c,d],_,hg=>
   have e:=Se (mL hway (hg a (by simp)) g).2 (mL hway (hg b (by simp)) g).2 (mL hway (hg c (by simp)) g).2 (mL hway (hg d (by simp)) g).2;exact adP hv hway e
theorem ac3{n k l:Nat}(hn:n=2\/n=3){way:Int}{f:AB}{uss:AE}(hway:way=1\/way=-1)(hl:uss.length=n+1)(hg:∀us∈uss,Gu n k us)(g:Gu n l f)(h:dU uss≠0):dU (uss.map (gG way f))≠0:=λz=>by
 have e:=abS hn hway hl hg g;rw[z]at e;have p2:=pQ (Wc hway hg g);have:((dU uss).natAbs:Int)*wU (uss.map (gG way f))≠0:=kg (by omega) (dw p2);exact this (by rw[<-e];simp)
theorem kZ{G:Gd}{S:aG}(hG:fS G S){me:ME}{tail:bY}{α:Type}(A B:α->PV):∀(L:List α)(x:AM),(∀v∈L,me (some (.pv (A v))::tail) S=.ok (.pv (B v)) S)->cF G (gN 0) me (L.map A) (x::tail) S=.ok (L.map B) S
 |[],x,_=>G8 hG
 |v::L,x,h=>by
  have e:=h v ce;have e':=kZ hG A B L (some (.pv (A v))) λu hu=>h u (ax _ hu);rw[az,U6 hG];simp[gN,e,e']
theorem acE{k:Nat}{x0 y0 w0 x1 y1 w1 x2 y2 w2:Int}(a0:Bd k x0)(b0:Bd k y0)(c0:Bd k w0)(a1:Bd k x1)(b1:Bd k y1)(c1:Bd k w1)(a2:Bd k x2)(b2:Bd k y2)(c2:Bd k w2):Bd (3*k+3) (D2 x0 y0 w0 x1 y1 w1 x2 y2 w2):=by
 have m:∀{a b:Int},Bd k a->Bd k b->Bd (2*k) (a*b):=λh g=>(h.mul g).mono (by omega);have s:∀{a b c d:Int},Bd k a->Bd k b->Bd k c->Bd k d->Bd (2*k+1) (a*b-c*d):=λh g i j=>(m h g).sub (m i j);have t:∀{w e:Int},Bd k w->Bd (2*k+1) e->Bd (3*k+1) (w*e):=λh g=>(h.mul g).mono (by omega);unfold D2;exact((t c0 (s a1 b2 b1 a2)).sub (t c1 (s a0 b2 b0 a2))).add ((t c2 (s a0 b1 b0 a1)).mono (by omega))
theorem Gu.two'{k:Nat}{us:AB}(h:Gu 2 k us):∃x y w,us=[x,y,w]/\0<w/\Bd k x/\Bd k y/\Bd k w:=by
 obtain⟨xs,w,rfl,P⟩:=h
 match xs,P.len,P with
 |[x,y],_,P=>exact⟨x,y,w,rfl,P.pos,P.bx x (by simp),P.bx y (by simp),P.bw⟩
theorem mk{k l:Nat}{a b:Int}(h:Bd k a)(g:Bd l b)(hk:k<=100000)(hl:l<=100000):aS (.int a) (.int b)=some (.int (a*b)):=iS (.inr ⟨h.mono (by omega),g.mono (by omega)⟩)
abbrev fv(u:Int×Int):PV:=.tup [.int u.1,.int u.2]
def pl(u v:Int×Int):Int×Int:=((fr (u.1*v.2+v.1*u.2) (u.2*v.2)).getD 0 0,(fr (u.1*v.2+v.1*u.2) (u.2*v.2)).getD 1 0)
theorem mP{L:AK}{lo hi:AJ}{st:Int}{n:Nat}{is:List Nat}(hl:L.length=n)(h:sliceRange (sliceBounds lo hi (some st) n).1 (sliceBounds lo hi (some st) n).2.1 (sliceBounds lo hi (some st) n).2.2=is):iJ L lo hi st=is.filterMap (L[·]?):=by
 unfold iJ;rw[hl,h]
theorem Rz:∀L:AK,rW [.lst (L.map λ_=>.bl true)]=some (.bl true):=λL=>by
 have e:pX (L.map λ_=>PV.bl true)=some (L.map λ_=>true):=by
  induction L with
  |nil=>rfl
  |cons v L ih=>
   show(match pX (L.map λ_=>PV.bl true)with |some bs=>some (true::bs) |none=>none)=_
   rw[ih];rfl
 simp only[rW,e,o5];simp
abbrev li(xs:AB):AK:=xs.map .int
abbrev lv(xs:AB):PV:=.lst (li xs)
abbrev bH(xss:AE):PV:=.lst (xss.map lv)
structure Rw(n:Nat)(xss:AE):Prop where
 len:xss.length=n+1
 l:∀xs∈xss,xs.length=n
 b:∀xs∈xss,∀x∈xs,0<=x/\x<=2
 nz:dU (xss.map (·++[1]))≠0
theorem Va{α β:Type}(f:α->β):∀(R:List α)(j:Nat),(R.map f).eraseIdx j=(R.eraseIdx j).map f
 |[],j=>by simp
 |a::R,0=>by simp
 |a::R,j+1=>by simp[Va f R j]
theorem Eu:∀v<3,bA 3 ((v:Nat):Int)=some v:=by decide
abbrev vA:MS:=(aI (mK (aA 2) (lM (aA 1) (aB (aO dN [] (aB (aA 0) (aB (mR fE (aB (aA 1) aD)) aD))) aD)) (mC (.int 1)))
 (fK (Js (aA 3) (aB (aA 2) aD))))
theorem Ud(ns:AB)(hl:AK)(R C:AB)(L:AE)(x4 x5:AM)(hR0:0<R.length)(hR3:R.length<=3)(hv:∀v∈R,0<=v/\v<3)(hC:C.length=3)(hL:L.length<=9):
  ∃(j v:Nat)(ns':AB),j<R.length/\R[j]?=some (v:Int)/\vA [some (.ref 0),some (.ref 2),some (.ref 3),some (.ref 4),x4,x5] [.lst (li ns),.lst hl,.lst (li R),.lst (li C),.lol (L.map li)]
   = .nx [some (.ref 0),some (.ref 2),some (.ref 3),some (.ref 4),x4,x5] [.lst (li ns'),.lst hl,.lst (li (R.eraseIdx j)),.lst (li (C.set v 1)),.lol ((L++[C.set v 1]).map li)]:=by
 have hr:fZ [.lst (li ns),.lst hl,.lst (li R),.lst (li C),.lol (L.map li)] 0 ns:=rfl;obtain⟨t,n1,e1,t0,t1,_⟩:=lE (m:=(R.length:Int)) hr (by omega) (oM (by omega) (by omega));simp only[cj]at e1;obtain⟨j,rfl⟩:∃j:Nat,t=(j:Int):=⟨t.toNat,by omega⟩;have hj:j<R.length:=by omega
 obtain⟨v,ev⟩:∃v:Nat,R[j]=(v:Int):=⟨R[j].toNat,by have:=hv _ (di hj);omega⟩;have hv3:v<3:=by have:=hv _ (di hj);omega
 have hq:R[j]?=some (v:Int):=by rw[av hj,ev]
 have ep:=Tp (S:=[.lst (li n1),.lst hl,.lst (li R),.lst (li C),.lol (L.map li)]) (k:=2) (j:=j) (xs:=li R) (v:=.int v) rfl (by rw[dk,hq];rfl) (by omega);simp only[cw,cj]at ep;have er:(li R).eraseIdx j=li (R.eraseIdx j):=Va _ _ _;rw[er]at ep;have ei:bA (li C).length (v:Int)=some v:=by
  rw[ak,hC];exact Eu v hv3
 have ec:(li C).set v (.int 1)=li (C.set v 1):=by simp[li,xp]
 refine⟨j,v,n1,hj,hq,?_⟩;have e1':dN [.ref 0,.pv (.int ((li R).length:Int))] [.lst (li ns),.lst hl,.lst (li R),.lst (li C),.lol (L.map li)]=.ok (.pv (.int (j:Int))) [.lst (li n1),.lst hl,.lst (li R),.lst (li C),.lol (L.map li)]:=by
  rw[ak];exact e1
 have el:(L++[C.set v 1]).map li=L.map li++[li (C.set v 1)]:=by simp
 rw[el];have lz:(L.map li).length<16777216:=by rw[ak];omega
 generalize li n1=NL1,li ns=NL,(j:Int)=J,li R=RL,li (R.eraseIdx j)=RE,li C=CL,li (C.set v 1)=CS,L.map li=LL at *;unfold vA;simp! [bB,aM,aN,aK,aL,aF,aJ,mK,pU,lM,Js,Qt,fW,e1',ep,ei,ec,lz]
def k6:AF:=[[[0,0,0],[1,0,0],[1,1,0],[1,1,1]],[[0,0,0],[1,0,0],[1,0,1],[1,1,1]],[[0,0,0],[0,1,0],[1,1,0],[1,1,1]],[[0,0,0],[0,1,0],[0,1,1],[1,1,1]],[[0,0,0],[0,0,1],[1,0,1],[1,1,1]],[[0,0,0],[0,0,1],[0,1,1],[1,1,1]]]
theorem Bt{R:AB}{j v:Nat}{a b c:Int}(h:R=[a,b,c])(hj:j<R.length)(e:R[j]?=some (v:Int)):(j=0/\(v:Int)=a)\/(j=1/\(v:Int)=b)\/(j=2/\(v:Int)=c):=by
 subst h
 match j,hj,e with
 |0,_,e=>simp at e;exact .inl ⟨rfl,e.symm⟩
 |1,_,e=>simp at e;exact .inr (.inl ⟨rfl,e.symm⟩)
 |2,_,e=>simp at e;exact .inr (.inr ⟨rfl,e.symm⟩)
theorem Et{R:AB}{j v:Nat}{a b:Int}(h:R=[a,b])(hj:j<R.length)(e:R[j]?=some (v:Int)):(j=0/\(v:Int)=a)\/(j=1/\(v:Int)=b):=by
 subst h
 match j,hj,e with
 |0,_,e=>simp at e;exact .inl ⟨rfl,e.symm⟩
 |1,_,e=>simp at e;exact .inr ⟨rfl,e.symm⟩
theorem Tt{R:AB}{j v:Nat}{a:Int}(h:R=[a])(hj:j<R.length)(e:R[j]?=some (v:Int)):j=0/\(v:Int)=a:=by
 subst h
 match j,hj,e with
 |0,_,e=>simp at e;exact⟨rfl,e.symm⟩
theorem k3(ns:AB)(hl:AK)(R C:AB)(A:AE)(a b c:Nat)(x4 x5:AM)(hR:R=[(c:Int)])(hc:c<3)(hC:C.length=3)(hA:A.length<=9)(ks:AF)(hk:A++[C.set c 1]∈ks):
  ∃(xss:AE)(ns':AB)(C':AB),xss∈ks/\cM [] (gN 4) vA [.int 2] [some (.ref 0),some (.ref 2),some (.ref 3),some (.ref 4),x4,x5] [.lst (li ns),.lst hl,.lst (li R),.lst (li C),.lol (A.map li)]
   = .nx [some (.ref 0),some (.ref 2),some (.ref 3),some (.ref 4),some (.pv (.int 2)),x5] [.lst (li ns'),.lst hl,.lst [],.lst (li C'),.lol (xss.map li)]:=by
 obtain⟨j,v,n1,hj,e,h⟩:=Ud ns hl R C A (some (.pv (.int 2))) x5 (by rw[hR];simp) (by rw[hR];simp) (by rw[hR];simp;omega) hC hA;obtain⟨rfl,ev⟩:=Tt hR hj e;have:v=c:=by omega
 subst this;subst hR;refine⟨_,n1,C.set v 1,hk,?_⟩;rw[dM];simp only[gN,cw,cj];rw[h];exact eQ
theorem k2(ns:AB)(hl:AK)(R C:AB)(A:AE)(b c:Nat)(x4 x5:AM)(hR:R=[(b:Int),(c:Int)])(hb:b<3)(hc:c<3)(hC:C.length=3)(hA:A.length<=8)(ks:AF)(h1:A++[C.set b 1]++[(C.set b 1).set c 1]∈ks)(h2:A++[C.set c 1]++[(C.set c 1).set b 1]∈ks):
  ∃(xss:AE)(ns':AB)(C':AB),xss∈ks/\cM [] (gN 4) vA [.int 1,.int 2] [some (.ref 0),some (.ref 2),some (.ref 3),some (.ref 4),x4,x5] [.lst (li ns),.lst hl,.lst (li R),.lst (li C),.lol (A.map li)]
   = .nx [some (.ref 0),some (.ref 2),some (.ref 3),some (.ref 4),some (.pv (.int 2)),x5] [.lst (li ns'),.lst hl,.lst [],.lst (li C'),.lol (xss.map li)]:=by
 obtain⟨j,v,n1,hj,e,h⟩:=Ud ns hl R C A (some (.pv (.int 1))) x5 (by rw[hR];simp) (by rw[hR];simp) (by rw[hR];simp;omega) hC (by omega);rw[dM];simp only[gN,cw,cj];rw[h];rcases Et hR hj e with⟨rfl,ev⟩|⟨rfl,ev⟩
 .have:v=b:=by omega
  subst this;subst hR;exact k3 n1 hl _ (C.set v 1) _ 0 0 c _ x5 rfl hc (by rw[il];exact hC) (by simp;omega) ks h1
 .have:v=c:=by omega
  subst this;subst hR;exact k3 n1 hl _ (C.set v 1) _ 0 0 b _ x5 rfl hb (by rw[il];exact hC) (by simp;omega) ks h2
theorem k1(ns:AB)(hl:AK)(x4 x5:AM):
  ∃(xss:AE)(ns':AB)(C':AB),xss∈k6/\cM [] (gN 4) vA [.int 0,.int 1,.int 2] [some (.ref 0),some (.ref 2),some (.ref 3),some (.ref 4),x4,x5] [.lst (li ns),.lst hl,.lst (li [0,1,2]),.lst (li [0,0,0]),.lol ([[0,0,0]].map li)]
   = .nx [some (.ref 0),some (.ref 2),some (.ref 3),some (.ref 4),some (.pv (.int 2)),x5] [.lst (li ns'),.lst hl,.lst [],.lst (li C'),.lol (xss.map li)]:=by
 obtain⟨j,v,n1,hj,e,h⟩:=Ud ns hl [0,1,2] [0,0,0] [[0,0,0]] (some (.pv (.int 0))) x5 (by decide) (by decide) (by decide) rfl (by decide);rw[dM];simp only[gN,cw,cj];rw[h];rcases Bt rfl hj e with⟨rfl,ev⟩|⟨rfl,ev⟩|⟨rfl,ev⟩
 .have:v=0:=by omega
  subst this;exact k2 n1 hl _ [1,0,0] _ 1 2 _ x5 rfl (by decide) (by decide) rfl (by decide) k6 (by decide) (by decide)
 .have:v=1:=by omega
  subst this;exact k2 n1 hl _ [0,1,0] _ 0 2 _ x5 rfl (by decide) (by decide) rfl (by decide) k6 (by decide) (by decide)
 .have:v=2:=by omega
  subst this;exact k2 n1 hl _ [0,0,1] _ 0 1 _ x5 rfl (by decide) (by decide) rfl (by decide) k6 (by decide) (by decide)
theorem yE{x:Int}(h:-1000<x)(g:x<1000):Bd 10 x:=by
 unfold Bd;have:x.natAbs<1000:=by omega
 omega
theorem lZ(S:aG){n:Nat}(h:n<=9):iE [.pv (.int (n:Int))] S=.ok (eG 0 n,[]) S:=by
 have e:iE [.pv (.int (n:Int))] S=@ite _ ((n:Int)<=16777216/\-16777216<=(n:Int)) (ql _) (.ok (eG 0 (n:Int).toNat,[]) S) .fail:=rfl;rw[e,if_pos ⟨by omega,by omega⟩,qg]
abbrev rB:MS:=(fK (fD (aA 3) (aB (aT ["_law_m"] [(0,"_law_row_here"),(2,"_law_wide")] (dC (aB (aA 1) aD)) (gN 0) (aO dN [] (aB (aA 1) (aB (aC aF (aA 2) (mC (.int 1))) aD)))) aD)))
def qL(n:Nat):AE:=if n=2 then[[0,0],[1,0],[0,1]] else[[0,0,0],[1,0,0],[0,1,0],[0,0,1]]
theorem rgm(S:aG){n:Nat}(h:n<=9):uO [.pv (.int (-1)),.pv (.int (n:Int))] S=.ok (eG (-1) (n+1),[]) S:=by
 have e:uO [.pv (.int (-1)),.pv (.int (n:Int))] S=@ite _ ((-4611686018427387904<=(-1:Int)/\(-1:Int)<4611686018427387904/\-4611686018427387904<=(n:Int)/\(n:Int)<4611686018427387904)/\(n:Int)- -1<=16777216) (ql _) (.ok (eG (-1) ((n:Int)- -1).toNat,[]) S) .fail:=rfl;rw[e,if_pos ⟨⟨by decide,by decide,by omega,by omega⟩,by omega⟩];rw[show((n:Int)- -1).toNat=n+1 by omega]
theorem nC{α:Type}{a:α}{S:aG}:kP (.ok a S)=.ok a S:=rfl
theorem P4{n:Nat}(hn:n=2\/n=3)(S:aG)(x0 x2 x3 x4:AM):aT ["_law_k"] [(1,"_law_dims")] (jJ (aB (bG bX (mC (.int 1))) (aB (aA 1) aD))) (gN 0) (aT ["_law_m"] [(0,"_law_k")] (dC (aB (aA 1) aD)) (gN 0) (mR kQ (aB (aC eB (aA 0) (aA 1)) aD))) [x0,some (.pv (.int (n:Int))),x2,x3,x4] S=.ok (.pv (bH (qL n))) S:=by
 have r1:=λS=>lZ S (n:=n) (by omega);have r2:=λS=>rgm S (n:=n) (by omega);rcases hn with rfl |rfl
 .have c2:((2:Nat):Int)=2:=rfl
  rw[c2]at r1 r2⊢;have i1:eG 0 2=[.int 0,.int 1]:=rfl;have i2:eG (-1) (2+1)=[.int (-1),.int 0,.int 1]:=rfl;rw[i1]at r1;rw[i2]at r2;simp! [aT,bZ,dC,jJ,aE,aZ,bA,aP,aM,aN,aK,aL,aF,aJ,r1,r2,dE,dB,gN,kQ,qL]
 .have c2:((3:Nat):Int)=3:=rfl
  rw[c2]at r1 r2⊢;have i1:eG 0 3=[.int 0,.int 1,.int 2]:=rfl;have i2:eG (-1) (3+1)=[.int (-1),.int 0,.int 1,.int 2]:=rfl;rw[i1]at r1;rw[i2]at r2;simp! [aT,bZ,dC,jJ,aE,aZ,bA,aP,aM,aN,aK,aL,aF,aJ,r1,r2,dE,dB,gN,kQ,qL]
theorem pO{n k:Nat}{L:AB}{b:Int}(hb:0<b)(hl:L.length=n)(hL:∀x∈L,Bd k x)(bb:Bd k b):∃(zs:AB)(z:Int),low (L++[b])=zs++[z]/\Pq n k zs z/\∀j,j<n->zs.getD j 0*b=L.getD j 0*z:=by
 obtain⟨zs,z,g,e,hg,hz,g1,g2,hzl⟩:=xN L hb;have hlow:=wJ L hb;have hbd:=xE (k:=k) (ns:=L++[b]) λm hm=>by
  rcases dj.mp hm with y |y
  .exact hL m y
  .have:m=b:=by simpa using y
   rw[this];exact bb
 rw[e]at hlow hbd;refine⟨zs,z,e,⟨hzl.trans hl,hz,hlow,λx hx=>hbd x (ji _ hx),hbd z (jW zs z)⟩,λj hj=>?_⟩;have hj':j<zs.length:=by omega
 have e1:L.getD j 0=g*zs.getD j 0:=by
  rw[g1];simp[ci,hj']
 rw[e1,g2];grind
structure Sp(u:Int×Int):Prop where
 p:0<u.1
 q:0<u.2
 bp:Bd 30 u.1
 bq:Bd 30 u.2
 lo:fr u.1 u.2=[u.1,u.2]
theorem p9:gY (.int 10) (.int 9)=some (.int 1000000000):=wL (i:=10) (j:=9) ⟨by decide,by decide,by decide⟩
theorem p6:gY (.int 10) (.int 6)=some (.int 1000000):=wL (i:=10) (j:=6) ⟨by decide,by decide,by decide⟩
theorem fH{v:Int}(h0:0<=v)(h1:v<3):∃M N:Int,aE (.lst [.int 1,.int 7,.int 1000000000]) (.int v)=some (.int M)/\aE (.lst [.int 1,.int 7,.int 1000000]) (.int v)=some (.int N)/\0<M/\M<=1000000000/\0<N/\N<=1000000:=by
 have:v=0\/v=1\/v=2:=by omega
 rcases this with rfl |rfl |rfl
 .exact⟨1,1,rfl,rfl,by decide,by decide,by decide,by decide⟩
 .exact⟨7,7,rfl,rfl,by decide,by decide,by decide,by decide⟩
 .exact⟨1000000000,1000000,rfl,rfl,by decide,by decide,by decide,by decide⟩
abbrev sB:MS:=(aI (aQ 4 (aO dN [] (aB (aA 0) (aB (mC (.int 3)) aD))))
 (fK (fD (aA 2) (aB (aO lF [] (aB (aC aF (mC (.int 1)) (aO dN [] (aB (aA 0) (aB (aC aE (mN cN (aB (mC (.int 1)) (aB (mC (.int 7)) (aB (aC gY (mC (.int 10)) (mC (.int 9))) aD)))) (aA 4)) aD)))) (aB (aC aF (mC (.int 1)) (aO dN [] (aB (aA 0) (aB (aC aE (mN cN (aB (mC (.int 1)) (aB (mC (.int 7)) (aB (aC gY (mC (.int 10)) (mC (.int 6))) aD)))) (aA 4)) aD)))) aD))) aD))))
theorem acV(ns:AB)(fs:List (Int×Int))(hl:fs.length<=9)(x1 x3 x4:AM):∃(u:Int×Int)(ns':AB)(y4:AM),sB [some (.ref 0),x1,some (.ref 1),x3,x4] [.lst (li ns),.lst (fs.map fv)]=.nx [some (.ref 0),x1,some (.ref 1),x3,y4] [.lst (li ns'),.lst ((fs++[u]).map fv)]/\Sp u:=by
 have hr:∀ms,fZ [.lst (li ms),.lst (fs.map fv)] 0 ms:=λ_=>rfl;obtain⟨c,n1,e1,c0,c1,_⟩:=lE (m:=3) (hr ns) (by decide) (oM (by decide) (by decide));obtain⟨M,N,em,en,M0,M1,N0,N1⟩:=fH c0 c1;have bM:Bd 8000 M:=(Bd.of (k:=30) (n:=1000000000) (by omega) (by decide)).mono (by decide);have bN:Bd 8000 N:=(Bd.of (k:=30) (n:=1000000000) (by omega) (by decide)).mono (by decide);obtain⟨t,n2,e2,t0,t1,_⟩:=lE (m:=M) (hr n1) M0 bM;obtain⟨v,n3,e3,v0,v1,_⟩:=lE (m:=N) (hr n2) N0 bN;simp only[cj]at e1 e2 e3;have bt:Bd 30 (1+t):=Bd.of (n:=1000000000) (by omega) (by decide);have bv:Bd 30 (1+v):=Bd.of (n:=1000000000) (by omega) (by decide);have nz:1+v≠0:=by omega
 have e4:=tN (1+t) (1+v) [.lst (li n3),.lst (fs.map fv)] (bt.mono (by decide)) (bv.mono (by decide));obtain⟨p,q,ef,hq,hpq⟩:=Je (t:=1+t) nz;obtain⟨b1,b2⟩:=acu bt bv ef;have hp:0<p:=by
  have h1:0<(1+t)*q:=aj (by omega) hq;rw[<-hpq]at h1;exact ss h1 (by omega)
 have lo:fr p q=[p,q]:=by
  have h1:=wJ [1+t] (b:=1+v) (by omega);have h2:low ([1+t]++[1+v])=[p,q]:=by
   have h3:=ef;unfold fr at h3;rw[if_neg (by omega)]at h3;exact h3
  rw[h2]at h1;unfold fr;rw[if_neg (by omega)];exact h1
 rw[ef]at e4;simp only[az,cn]at e4;refine⟨(p,q),n3,some (.pv (.int c)),?_,⟨hp,hq,b1,b2,lo⟩⟩;have el:(fs++[(p,q)]).map fv=fs.map fv++[.tup [.int p,.int q]]:=by simp
 rw[el];have lz:(fs.map fv).length<16777216:=by rw[ak];omega
 have e1:dN [.ref 0,.pv (.int 3)] [.lst (li ns),.lst (fs.map fv)]=.ok (.pv (.int c)) [.lst (li n1),.lst (fs.map fv)]:=e1;have e2:dN [.ref 0,.pv (.int M)] [.lst (li n1),.lst (fs.map fv)]=.ok (.pv (.int t)) [.lst (li n2),.lst (fs.map fv)]:=e2;have e3:dN [.ref 0,.pv (.int N)] [.lst (li n2),.lst (fs.map fv)]=.ok (.pv (.int v)) [.lst (li n3),.lst (fs.map fv)]:=e3;generalize fs.map fv=FL at *;unfold sB;simp! [bB,aM,aN,aK,aL,aF,aJ,e1,p9,p6,em,en,e2,e3,e4,fD,fW,kE,lz]
theorem Yr(x1:AM):∀(is:AK)(fs:List (Int×Int))(ns:AB)(x3 x4:AM),(∀u∈fs,Sp u)->fs.length+is.length<=9->∃(fs':List (Int×Int))(ns':AB)(y3 y4:AM),
  cM [] (gN 3) sB is [some (.ref 0),x1,some (.ref 1),x3,x4] [.lst (li ns),.lst (fs.map fv)]=.nx [some (.ref 0),x1,some (.ref 1),y3,y4] [.lst (li ns'),.lst (fs'.map fv)]/\fs'.length=fs.length+is.length/\∀u∈fs',Sp u
 |[],fs,ns,x3,x4,hw,_=>⟨fs,ns,x3,x4,eQ,rfl,hw⟩
 |i::is,fs,ns,x3,x4,hw,h9=>by
  have h9:fs.length+(is.length+1)<=9:=h9;obtain⟨u,n1,y4,e1,r1⟩:=acV ns fs (by omega) x1 (some (.pv i)) x4;obtain⟨fs',n2,z3,z4,e2,l2,r2⟩:=Yr x1 is (fs++[u]) n1 (some (.pv i)) y4 (λy hy=>by
   rcases dj.mp hy with z |z
   .exact hw y z
   .have:y=u:=by simpa using z
    rw[this];exact r1) (by rw[ca,og];omega)
  refine⟨fs',n2,z3,z4,?_,by rw[l2,ca,og];show _=fs.length+(is.length+1);omega,r2⟩;rw[dM];simp only[gN,cw,cj];rw[e1];exact e2
theorem Hx{n:Nat}(hn:n=2\/n=3)(ns:AB):∃(fs:List (Int×Int))(ns':AB),sR [.ref 0,.pv (.int (n:Int))] [.lst (li ns)]=.ok (.ref 1) [.lst (li ns'),.lst (fs.map fv)]/\fs.length=n/\∀u∈fs,Sp u:=by
 have hi:(eG 0 n).length=n:=by unfold eG;simp
 have rg:=lZ [.lst (li ns),.lst []] (n:=n) (by omega);obtain⟨fs,n2,y3,y4,e2,l2,r2⟩:=Yr (some (.pv (.int (n:Int)))) (eG 0 n) [] ns none none (λ_ h=>absurd h cf) (by rw[hi];show 0+n<=9;omega);rw[hi]at l2;refine⟨fs,n2,?_,by rw[l2];show 0+n=n;omega,r2⟩;simp only[cn]at e2;have hb:zX=(aI (aQ 2 (eC aD)) (aI (bR (dC (aB (aA 1) aD)) (gN 3) sB) (bC (aA 2)))):=rfl;unfold sR aR;rw[hb];generalize (n:Int)=N,eG 0 n=IP,fs.map fv=FL,sB=SB at *;simp! [aE,aZ,bA,aP,aM,aN,aK,aL,aF,aJ,eC,iZ,bR,dC,rg,e2]
def eZ:List (Int×Int)->AB->AB
 |[u,v],[a,b]=>low ([a*u.1*v.2,b*v.1*u.2]++[1*u.2*v.2])
 |[u,v,t],[a,b,c]=>low ([a*u.1*(v.2*t.2),b*v.1*(u.2*t.2),c*t.1*(u.2*v.2)]++[1*u.2*v.2*t.2])
 |_,_=>[]
def fR:List (Int×Int)->Nat->Int
 |[u,v],0=>u.1*v.2
 |[u,v],1=>v.1*u.2
 |[u,v,t],0=>u.1*(v.2*t.2)
 |[u,v,t],1=>v.1*(u.2*t.2)
 |[u,v,t],2=>t.1*(u.2*v.2)
 |_,_=>1
def eW:List (Int×Int)->Int
 |[u,v]=>1*u.2*v.2
 |[u,v,t]=>1*u.2*v.2*t.2
 |_=>1
theorem ac7{n k:Nat}(hk:k<=60)(hn:n=2\/n=3)(S:aG){fs:List (Int×Int)}{xs:AB}(hf:fs.length=n)(h:∀u∈fs,Sp u)(hx:xs.length=n)(hb:∀x∈xs,Bd k x){V:AV}(hV:V=.pv (lv xs)\/V=.pv (tv xs)\/∃i,V=.ref i/\S[i]?=some (.lst (li xs))):nP [V,.pv (.lst (fs.map fv))] S=.ok (.pv (tv (eZ fs xs))) S/\Gu n (k+97) (eZ fs xs)/\gC n (fR fs) (λ_=>0) (eW fs) (xs++[1]) (eZ fs xs):=by
 have o1:Bd 1 (1:Int):=by unfold Bd;decide
 rcases hn with rfl |rfl
 .match fs,hf,h,xs,hx,hb,hV with
  |[u,v],_,h,[a,b],_,hb,hV=>
   have hu:=h u (by simp);have hv:=h v (by simp);have ba:=hb a (by simp);have bb:=hb b (by simp);have m1:=mk o1 hu.bq (by omega) (by omega);have m2:=mk (o1.mul hu.bq) hv.bq (by omega) (by omega);have d1:(1*u.2*v.2).fdiv u.2=v.2:=by rw[dr];exact nI (by have:=hu.q;omega)
   have d2:(1*u.2*v.2).fdiv v.2=u.2:=by rw[dr,cq];exact nI (by have:=hv.q;omega)
   have q1:eI (.int (1*u.2*v.2)) (.int u.2)=some (.int v.2):=by
    have e:=jV (i:=1*u.2*v.2) (j:=u.2) ⟨by have:=hu.q;omega,hu.bq.mono (by omega)⟩;rw[d1]at e;exact e
   have q2:eI (.int (1*u.2*v.2)) (.int v.2)=some (.int u.2):=by
    have e:=jV (i:=1*u.2*v.2) (j:=v.2) ⟨by have:=hv.q;omega,hv.bq.mono (by omega)⟩;rw[d2]at e;exact e
   have m3:=mk ba hu.bp (by omega) (by omega);have m4:=mk (ba.mul hu.bp) hv.bq (by omega) (by omega);have m5:=mk bb hv.bp (by omega) (by omega);have m6:=mk (bb.mul hv.bp) hu.bq (by omega) (by omega);have pE:0<1*u.2*v.2:=aj (aj (by omega) hu.q) hv.q;have bL:∀x∈[a*u.1*v.2,b*v.1*u.2],Bd (k+97) x:=by
    simp;exact⟨((ba.mul hu.bp).mul hv.bq).mono (by omega),((bb.mul hv.bp).mul hu.bq).mono (by omega)⟩
   have bE:Bd (k+97) (1*u.2*v.2):=((o1.mul hu.bq).mul hv.bq).mono (by omega);obtain⟨zs,z,el,Z,rel⟩:=pO (n:=2) pE rfl bL bE;have ew:=oZ ([a*u.1*v.2,b*v.1*u.2]++[1*u.2*v.2]) S (by
    intro x hx;rcases dj.mp hx with y |y
    .exact(bL x y).mono (by omega)
    .have:x=1*u.2*v.2:=by simpa using y
     rw[this];exact bE.mono (by omega))
   have es:eZ [u,v] [a,b]=zs++[z]:=el;refine⟨?_,by rw[es];exact⟨zs,z,rfl,Z⟩,[a,b],1,zs,z,rfl,es,rfl,Z.len,by decide,Z.pos,λj hj=>?_⟩
   .rw[el]at ew
    rw[es];simp only[az,cn,jt,gi]at ew;generalize hQ:1*u.2*v.2=Q at *;generalize hA:a*u.1*v.2=A at *;generalize hB:b*v.1*u.2=B at *;unfold nP aR wV;simp only[lv,li,tv,az,cn]at hV⊢;generalize (zs++[z]).map PV.int=ZL at *;simp only[dr]at m1 m2 hQ;rcases hV with rfl |rfl |⟨i,rfl,hi⟩
    .simp! [aE,aZ,bA,aP,aM,aN,aK,aL,aF,aJ,bR,aY,bS,dM,eQ,gN,m1,m2,aT,bZ,dX,fQ,dY,dE,dB,gT,bV,cQ,m3,m4,m5,m6,q1,q2,ew]
    .simp! [aE,aZ,bA,aP,aM,aN,aK,aL,aF,aJ,bR,aY,bS,dM,eQ,gN,m1,m2,aT,bZ,dX,fQ,dY,dE,dB,gT,bV,cQ,m3,m4,m5,m6,q1,q2,ew]
    .simp! [aE,aZ,bA,aP,aM,aN,aK,aL,aF,aJ,bR,aY,bS,dM,eQ,gN,m1,m2,aT,bZ,dX,fQ,dY,dE,dB,gT,bV,cQ,m3,m4,m5,m6,q1,q2,ew,hi,cF,fS]
   .have r:=rel j hj
    match j,hj with
    |0,_=>
     have r:zs.getD 0 0*(1*u.2*v.2)=a*u.1*v.2*z:=r;show zs.getD 0 0*(1*u.2*v.2*1)=(u.1*v.2*a+0*1)*z;rw[nv,r];grind
    |1,_=>
     have r:zs.getD 1 0*(1*u.2*v.2)=b*v.1*u.2*z:=r;show zs.getD 1 0*(1*u.2*v.2*1)=(v.1*u.2*b+0*1)*z;rw[nv,r];grind
 .match fs,hf,h,xs,hx,hb,hV with
  |[u,v,t],_,h,[a,b,c],_,hb,hV=>
   have hu:=h u (by simp);have hv:=h v (by simp);have ht:=h t (by simp);have ba:=hb a (by simp);have bb:=hb b (by simp);have bc:=hb c (by simp);have m1:=mk o1 hu.bq (by omega) (by omega);have m2:=mk (o1.mul hu.bq) hv.bq (by omega) (by omega);have m2':=mk ((o1.mul hu.bq).mul hv.bq) ht.bq (by omega) (by omega);have d1:(1*u.2*v.2*t.2).fdiv u.2=v.2*t.2:=by rw[dr,jp];exact nI (by have:=hu.q;omega)
   have d2:(1*u.2*v.2*t.2).fdiv v.2=u.2*t.2:=by rw[show 1*u.2*v.2*t.2=v.2*(u.2*t.2) by grind];exact nI (by have:=hv.q;omega)
   have d3:(1*u.2*v.2*t.2).fdiv t.2=u.2*v.2:=by rw[show 1*u.2*v.2*t.2=t.2*(u.2*v.2) by grind];exact nI (by have:=ht.q;omega)
   have q1:eI (.int (1*u.2*v.2*t.2)) (.int u.2)=some (.int (v.2*t.2)):=by
    have e:=jV (i:=1*u.2*v.2*t.2) (j:=u.2) ⟨by have:=hu.q;omega,hu.bq.mono (by omega)⟩;rw[d1]at e;exact e
   have q2:eI (.int (1*u.2*v.2*t.2)) (.int v.2)=some (.int (u.2*t.2)):=by
    have e:=jV (i:=1*u.2*v.2*t.2) (j:=v.2) ⟨by have:=hv.q;omega,hv.bq.mono (by omega)⟩;rw[d2]at e;exact e
   have q3:eI (.int (1*u.2*v.2*t.2)) (.int t.2)=some (.int (u.2*v.2)):=by
    have e:=jV (i:=1*u.2*v.2*t.2) (j:=t.2) ⟨by have:=ht.q;omega,ht.bq.mono (by omega)⟩;rw[d3]at e;exact e
   have m3:=mk ba hu.bp (by omega) (by omega);have m4:=mk (ba.mul hu.bp) (hv.bq.mul ht.bq) (by omega) (by omega);have m5:=mk bb hv.bp (by omega) (by omega);have m6:=mk (bb.mul hv.bp) (hu.bq.mul ht.bq) (by omega) (by omega);have m7:=mk bc ht.bp (by omega) (by omega);have m8:=mk (bc.mul ht.bp) (hu.bq.mul hv.bq) (by omega) (by omega);have pE:0<1*u.2*v.2*t.2:=aj (aj (aj (by omega) hu.q) hv.q) ht.q;have bL:∀x∈[a*u.1*(v.2*t.2),b*v.1*(u.2*t.2),c*t.1*(u.2*v.2)],Bd (k+97) x:=by
    simp;exact⟨((ba.mul hu.bp).mul (hv.bq.mul ht.bq)).mono (by omega),((bb.mul hv.bp).mul (hu.bq.mul ht.bq)).mono (by omega),((bc.mul ht.bp).mul (hu.bq.mul hv.bq)).mono (by omega)⟩
   have bE:Bd (k+97) (1*u.2*v.2*t.2):=(((o1.mul hu.bq).mul hv.bq).mul ht.bq).mono (by omega);obtain⟨zs,z,el,Z,rel⟩:=pO (n:=3) pE rfl bL bE;have ew:=oZ ([a*u.1*(v.2*t.2),b*v.1*(u.2*t.2),c*t.1*(u.2*v.2)]++[1*u.2*v.2*t.2]) S (by
    intro x hx;rcases dj.mp hx with y |y
    .exact(bL x y).mono (by omega)
    .have:x=1*u.2*v.2*t.2:=by simpa using y
     rw[this];exact bE.mono (by omega))
   have es:eZ [u,v,t] [a,b,c]=zs++[z]:=el;refine⟨?_,by rw[es];exact⟨zs,z,rfl,Z⟩,[a,b,c],1,zs,z,rfl,es,rfl,Z.len,by decide,Z.pos,λj hj=>?_⟩
   .rw[el]at ew
    rw[es];simp only[az,cn,jt,gi]at ew;generalize hQ:1*u.2*v.2*t.2=Q at *;generalize hA:a*u.1*(v.2*t.2)=A at *;generalize hB:b*v.1*(u.2*t.2)=B at *;generalize hC:c*t.1*(u.2*v.2)=C at *;unfold nP aR wV;simp only[lv,li,tv,az,cn]at hV⊢;generalize (zs++[z]).map PV.int=ZL at *;simp only[dr]at m1 m2 m2' hQ;rcases hV with rfl |rfl |⟨i,rfl,hi⟩
    .simp! [aE,aZ,bA,aP,aM,aN,aK,aL,aF,aJ,bR,aY,bS,dM,eQ,gN,m1,m2,m2',aT,bZ,dX,fQ,dY,dE,dB,gT,bV,cQ,m3,m4,m5,m6,m7,m8,q1,q2,q3,ew]
    .simp! [aE,aZ,bA,aP,aM,aN,aK,aL,aF,aJ,bR,aY,bS,dM,eQ,gN,m1,m2,m2',aT,bZ,dX,fQ,dY,dE,dB,gT,bV,cQ,m3,m4,m5,m6,m7,m8,q1,q2,q3,ew]
    .simp! [aE,aZ,bA,aP,aM,aN,aK,aL,aF,aJ,bR,aY,bS,dM,eQ,gN,m1,m2,m2',aT,bZ,dX,fQ,dY,dE,dB,gT,bV,cQ,m3,m4,m5,m6,m7,m8,q1,q2,q3,ew,hi,cF,fS]
   .have r:=rel j hj
    match j,hj with
    |0,_=>
     have r:zs.getD 0 0*(1*u.2*v.2*t.2)=a*u.1*(v.2*t.2)*z:=r;show zs.getD 0 0*(1*u.2*v.2*t.2*1)=(u.1*(v.2*t.2)*a+0*1)*z;rw[nv,r];grind
    |1,_=>
     have r:zs.getD 1 0*(1*u.2*v.2*t.2)=b*v.1*(u.2*t.2)*z:=r;show zs.getD 1 0*(1*u.2*v.2*t.2*1)=(v.1*(u.2*t.2)*b+0*1)*z;rw[nv,r];grind
    |2,_=>
     have r:zs.getD 2 0*(1*u.2*v.2*t.2)=c*t.1*(u.2*v.2)*z:=r;show zs.getD 2 0*(1*u.2*v.2*t.2*1)=(t.1*(u.2*v.2)*c+0*1)*z;rw[nv,r];grind
theorem wN{n:Nat}(hn:n=2\/n=3)(S:aG){fs:List (Int×Int)}{xs:AB}(hf:fs.length=n)(h:∀u∈fs,Sp u)(hx:xs.length=n)(hb:∀x∈xs,-8<x/\x<8):nP [.pv (lv xs),.pv (.lst (fs.map fv))] S=.ok (.pv (tv (eZ fs xs))) S/\Gu n 100 (eZ fs xs)/\gC n (fR fs) (λ_=>0) (eW fs) (xs++[1]) (eZ fs xs):=ac7 (k:=3) (by decide) hn S hf h hx (λx hh=>Bd.of (n:=7) (by have:=hb x hh;omega) (by decide)) (.inl rfl)
theorem tK{n:Nat}(hn:n=2\/n=3){fs:List (Int×Int)}(hf:fs.length=n)(h:∀u∈fs,Sp u):0<eW fs/\∀j,j<n->0<fR fs j:=by
 rcases hn with rfl |rfl
 .match fs,hf,h with
  |[u,v],_,h=>
   have hu:=h u (by simp);have hv:=h v (by simp);refine⟨aj (aj (by decide) hu.q) hv.q,λj hj=>?_⟩
   match j,hj with
   |0,_=>exact aj hu.p hv.q
   |1,_=>exact aj hv.p hu.q
 .match fs,hf,h with
  |[u,v,t],_,h=>
   have hu:=h u (by simp);have hv:=h v (by simp);have ht:=h t (by simp);refine⟨aj (aj (aj (by decide) hu.q) hv.q) ht.q,λj hj=>?_⟩
   match j,hj with
   |0,_=>exact aj hu.p (aj hv.q ht.q)
   |1,_=>exact aj hv.p (aj hu.q ht.q)
   |2,_=>exact aj ht.p (aj hu.q hv.q)
theorem L4{n:Nat}(hn:n=2\/n=3){fs:List (Int×Int)}(hf:fs.length=n)(h:∀u∈fs,Sp u){xss:AE}(w:Rw n xss):dU (xss.map (eZ fs))≠0:=λz=>by
 have af:∀xs∈xss,gC n (fR fs) (λ_=>0) (eW fs) (xs++[1]) (eZ fs xs):=λxs hx=>(wN hn [] hf h (w.l xs hx) (λy hy=>by have:=w.b xs hx y hy;omega)).2.2;have gu:∀us∈xss.map (eZ fs),Gu n 100 us:=λus hu=>by
  obtain⟨xs,hx,rfl⟩:=bj.mp hu;exact(wN hn [] hf h (w.l xs hx) (λy hy=>by have:=w.b xs hx y hy;omega)).2.1
 have p2:=pQ gu;obtain⟨pe,pa⟩:=tK hn hf h;have nz:=w.nz;have wl:=w.len;clear w;rcases hn with rfl |rfl
 .match xss,wl,af,nz,p2,z with
  |[a,b,c],_,af,nz,p2,z=>
   have e:=yJ (af a (by simp)) (af b (by simp)) (af c (by simp));have z:dU [eZ fs a,eZ fs b,eZ fs c]=0:=z;rw[z,Int.zero_mul]at e;exact kg (kg (dw (aj (aj (pa 0 (by decide)) (pa 1 (by decide))) pe)) nz) (dw p2) e.symm
 .match xss,wl,af,nz,p2,z with
  |[a,b,c,d],_,af,nz,p2,z=>
   have e:=Se (af a (by simp)) (af b (by simp)) (af c (by simp)) (af d (by simp));have z:dU [eZ fs a,eZ fs b,eZ fs c,eZ fs d]=0:=z;rw[z,Int.zero_mul]at e;exact kg (kg (dw (aj (aj (aj (pa 0 (by decide)) (pa 1 (by decide))) (pa 2 (by decide))) pe)) nz) (dw p2) e.symm
abbrev lB:MS:=(aI (aQ 5 (aO nV [] (aB (aA 0) (aB (mR fE (aB (aA 2) aD)) aD))))
 (fK (fD (aA 3) (aB (aO oX [] (aB (aT ["_law_corner"] [(5,"_law_far_here"),(2,"_law_stretch_here")] (aY (aA 4)) (gN 0) (aO nJ [] (aB (aO nP [] (aB (aA 0) (aB (aA 2) aD))) (aB (aA 1) (aB (mC (.int 1)) aD))))) aD)) aD))))
theorem Af{L:AB}(h:gl L 0=1):low L=L:=by
 unfold low;rw[h,if_neg (by decide)];simp
theorem aai{L:AB}{w:Int}(hw:0<w)(e:low (L++[w])=L++[w]):gl (L++[w]) 0=1:=by
 have hg:=tW (jW L w) (by omega);rw[tU (jW L w) (by omega),fe]at e;have e2:=(ue e (by simp)).2;have e3:w/gl (L++[w]) 0=w:=by simpa using e2
 generalize gl (L++[w]) 0=g at *;have e4:=Int.mul_ediv_self_le (x:=w) (k:=g) (by omega);rw[e3]at e4
 by_cases h2:2<=g
 .have:=Int.mul_le_mul_of_nonneg_right h2 (show 0<=w by omega)
  omega
 .omega
def jE:AB->Int->Int
 |[],f=>f
 |s::L,f=>if s<0 then-1 else jE L (if s=0 then 0 else f)
def gF(uss:AE)(p:AB):AB:=(aw uss.length).map λj=>sg (dU (uss.set j p))
def bW(uss:AE)(p:AB):Int:=jE (gF uss p) 1
theorem yS(d:Int):sg d=-1\/sg d=0\/sg d=1:=by
 unfold sg;split
 .exact .inr (.inr rfl)
 .split
  .exact .inl rfl
  .exact .inr (.inl rfl)
theorem Wm:∀(L:AB)(f:Int),(f=-1\/f=0\/f=1)->(∀s∈L,s=-1\/s=0\/s=1)->(f=-1->L.foldl min f=-1)/\(f≠-1->L.foldl min f=jE L f)
 |[],f,_,_=>⟨λh=>h,λ_=>rfl⟩
 |s::L,f,hf,h=>by
  have hs:=h s (by simp);have ih:=λf hf=>Wm L f hf λx hx=>h x (ax _ hx);refine⟨λz=>?_,λz=>?_⟩
  .show L.foldl min (min f s)=-1
   have e:min f s=-1:=by rcases hs with rfl |rfl |rfl<;>subst z<;>decide
   rw[e];exact(ih (-1) (.inl rfl)).1 rfl
  .show L.foldl min (min f s)=if s<0 then-1 else jE L (if s=0 then 0 else f)
   rcases hs with rfl |rfl |rfl
   .have e:min f (-1)=-1:=by rcases hf with rfl |rfl |rfl<;>decide
    rw[e,if_pos (by decide)];exact(ih (-1) (.inl rfl)).1 rfl
   .have e:min f 0=0:=by rcases hf with rfl |rfl |rfl<;>first |decide |exact absurd rfl z
    rw[e,if_neg (by decide),if_pos rfl];exact(ih 0 (.inr (.inl rfl))).2 (by decide)
   .have e:min f 1=f:=by rcases hf with rfl |rfl |rfl<;>decide
    rw[e,if_neg (by decide),if_neg (by decide)];exact(ih f hf).2 z
theorem Bc{L:AB}(hne:L≠[])(h:∀s∈L,s=-1\/s=0\/s=1):L.min?=some (jE L 1):=by
 match L,hne,h with
 |s::L,_,h=>
  have e:=(Wm (s::L) 1 (.inr (.inr rfl)) h).2 (by decide);have hs:=h s (by simp);have e1:min 1 s=s:=by rcases hs with rfl |rfl |rfl<;>decide
  have e2:(s::L).foldl min 1=L.foldl min s:=by
   show L.foldl min (min 1 s)=_;rw[e1]
  rw[<-e,e2];rfl
theorem Ze:∀(L:AB)(f:Int),(f=-1\/f=0\/f=1)->(jE L f=-1\/jE L f=0\/jE L f=1)
 |[],f,hf=>hf
 |s::L,f,hf=>by
  unfold jE;split
  .exact .inl rfl
  .split
   .exact Ze L 0 (.inr (.inl rfl))
   .exact Ze L f hf
theorem adZ(uss:AE)(p:AB):bW uss p=-1\/bW uss p=0\/bW uss p=1:=Ze _ 1 (.inr (.inr rfl))
theorem abq{n k:Nat}{uss:AE}{p:AB}(h:∀us∈uss,Gu n k us)(g:Gu n k p)(j:Nat):∀us∈uss.set j p,Gu n k us:=λus hu=>by
 rcases o6 hu with z |z
 .exact h us z
 .rw[z];exact g
theorem abJ{n:Nat}(hn:n=2\/n=3){uss:AE}{p:AB}(hl:uss.length=n+1)(S:aG){j:Nat}(hj:j<n+1):qU [.pv (px uss),.pv (.int (j:Int)),.pv (tv p)] S=.ok (.pv (px (uss.set j p))) S:=by
 have go:∀(L M R:AK)(a b:AL),iA (px uss) none (some (j:Int))=some (.tup L)->iA (px uss) (some ((j:Int)+1)) none=some (.tup R)->L.length+1+R.length<=100->px (uss.set j p)=.tup (L++[tv p]++R)->qU [.pv (px uss),.pv (.int (j:Int)),.pv (tv p)] S=.ok (.pv (px (uss.set j p))) S:=λL M R a b h1 h2 hz h3=>by
  have t1:iY (.tup L) (.tup [tv p])=some (.tup (L++[tv p])):=by
   show(if L.length+1<=16777216 then some (PV.tup (L++[tv p]))else none)=_;rw[if_pos (by omega)]
  have t2:iY (.tup (L++[tv p])) (.tup R)=some (.tup (L++[tv p]++R)):=by
   show(if(L++[tv p]).length+R.length<=16777216 then some (PV.tup (L++[tv p]++R))else none)=_;rw[if_pos (by rw[ca,og];omega)]
  rw[h3];generalize (j:Int)=J,tv p=T,px uss=P,L++[tv p]=U,L++[tv p]++R=V at *;unfold qU aR Ha;simp! [aE,aZ,bA,aP,aM,aN,aK,aL,aF,aJ,dL,cO,dI,fT,h1,h2,t1,t2]
 rcases hn with rfl |rfl
 .match uss,hl,j,hj with
  |[a,b,c],_,0,_=>exact go [] [] [tv b,tv c] none none rfl rfl (by simp) rfl
  |[a,b,c],_,1,_=>exact go [tv a] [] [tv c] none none rfl rfl (by simp) rfl
  |[a,b,c],_,2,_=>exact go [tv a,tv b] [] [] none none rfl rfl (by simp) rfl
 .match uss,hl,j,hj with
  |[a,b,c,d],_,0,_=>exact go [] [] [tv b,tv c,tv d] none none rfl rfl (by simp) rfl
  |[a,b,c,d],_,1,_=>exact go [tv a] [] [tv c,tv d] none none rfl rfl (by simp) rfl
  |[a,b,c,d],_,2,_=>exact go [tv a,tv b] [] [tv d] none none rfl rfl (by simp) rfl
  |[a,b,c,d],_,3,_=>exact go [tv a,tv b,tv c] [] [] none none rfl rfl (by simp) rfl
theorem Dm(m:Nat):eG 0 m=(aw m).map λj:Nat=>PV.int (j:Int):=by
 unfold eG;refine eh λj _=>?_;simp
structure Wx(n k:Nat)(uss:AE):Prop where
 len:uss.length=n+1
 gu:∀us∈uss,Gu n k us
theorem D6{n k:Nat}(hn:n=2\/n=3)(hk:k<=1000){uss:AE}{p:AB}(h:Wx n k uss)(g:Gu n 1000 p)(S:aG):sU [.pv (px uss),.pv (tv p)] S=.ok (.pv (.int (bW uss p))) S:=by
 have hl:=h.len;have hg:∀us∈uss,Gu n 1000 us:=λus hu=>(h.gu us hu).mono hk;have ec:cF [] (gN 0) (aO nY [] (aB (aO qU [] (aB (aA 1) (aB (aA 0) (aB (aA 2) aD)))) aD)) ((aw (n+1)).map λj:Nat=>PV.int (j:Int)) [none,some (.pv (px uss)),some (.pv (tv p))] S=.ok ((aw (n+1)).map λj=>.int (sg (dU (uss.set j p)))) S:=by
  refine kZ (iU S) (λj:Nat=>PV.int (j:Int)) (λj=>.int (sg (dU (uss.set j p)))) (aw (n+1)) none λj hj=>?_;have e1:=abJ hn (p:=p) hl S (j:=j) (by simpa using hj);have hl2:(uss.set j p).length=n+1:=by rw[il];exact hl
  have hg2:=abq hg g j;have e2:=P8 (A:=px (uss.set j p)) (L:=(uss.set j p).map tv) hn S (by rw[ak];exact hl2) (Au hg2) (.inr rfl);rw[Xo hn (aq 1000) hl2 hg2]at e2;generalize (j:Int)=J,tv p=T,px uss=P0,px (uss.set j p)=P1 at *;simp! [aE,aZ,bA,aP,aM,aN,aK,aL,aF,aJ,e1,e2]
 have rg:=lZ S (n:=n+1) (by omega);rw[Dm]at rg;have es:((aw (n+1)).map λj=>sg (dU (uss.set j p)))=gF uss p:=by
  unfold gF;rw[hl]
 have em:((aw (n+1)).map λj=>PV.int (sg (dU (uss.set j p))))=(gF uss p).map .int:=by
  rw[<-es,cg];rfl
 rw[em]at ec;have hm:oF [.lst ((gF uss p).map .int)]=some (.int (bW uss p)):=by
  show((iB ((gF uss p).map .int)).bind λbs=>bs.min?.map PV.int)=_;rw[qT];show(gF uss p).min?.map PV.int=_;rw[Bc (L:=gF uss p) (by
   unfold gF;rw[hl];intro z;have:=congrArg kb z;simp at this) (λs hs=>by
   unfold gF at hs;obtain⟨j,_,rfl⟩:=bj.mp hs;exact yS _)]
  rfl
 have ln:((uss.map tv).length:Int)=((n+1:Nat):Int):=by rw[ak,hl]
 have hp:px uss=.tup (uss.map tv):=rfl;rw[hp]at ec⊢;generalize ((n+1:Nat):Int)=N1,tv p=T,uss.map tv=UL,((aw (n+1)).map λj:Nat=>PV.int (j:Int))=RL,(gF uss p).map PV.int=SL at *;unfold sU aR zV;simp! [aE,aZ,bA,aP,aM,aN,aK,aL,aF,aJ,ln,aT,bZ,dC,rg,ec,hm]
abbrev oK:MS:=(aI (aQ 4 (aO sU [] (aB (aA 3) (aB (aA 1) aD))))
 (aI (cZ (bT (aC eB (aA 4) (mC (.int 0)))) (pP "OnSide") dZ)
 (cZ (bT (aC hJ (aA 4) (mC (.int 0)))) (lJ (λi j=>i+j) 2 (mC (.int 1))) dZ)))
theorem Pn{n k:Nat}(hn:n=2\/n=3)(hk:k<=1000){p:AB}(g:Gu n 1000 p)(S:aG)(x0:AM):∀(hs:AF)(c:Int)(x3 x4:AM),(∀uss∈hs,Wx n k uss)->
  ((∃uss∈hs,bW uss p=0)/\cM [] (gN 3) oK (hs.map px) [x0,some (.pv (tv p)),some (.pv (.int c)),x3,x4] S=.exc "OnSide" S)\/
  ((∀uss∈hs,bW uss p≠0)/\∃y3 y4,cM [] (gN 3) oK (hs.map px) [x0,some (.pv (tv p)),some (.pv (.int c)),x3,x4] S=.nx [x0,some (.pv (tv p)),some (.pv (.int (c+((hs.map λuss=>bW uss p).count 1:Nat)))),y3,y4] S)
 |[],c,x3,x4,_=>.inr ⟨λ_ h=>absurd h cf,x3,x4,by simp[eQ]⟩
 |uss::hs,c,x3,x4,h=>by
  have e:=D6 hn hk (h uss (by simp)) g S;have s3:=adZ uss p
  by_cases c0:bW uss p=0
  .left
   refine⟨⟨uss,by simp,c0⟩,?_⟩;rw[c0]at e;have st:oK [x0,some (.pv (tv p)),some (.pv (.int c)),some (.pv (px uss)),x4] S=.exc "OnSide" S:=by
    generalize tv p=T,px uss=P at *;unfold oK;simp! [aE,aZ,bA,aP,aM,aN,aK,aL,aF,aJ,e,pP]
   rw[az,dM];simp only[gN,cw,cj];rw[st]
  .have st:oK [x0,some (.pv (tv p)),some (.pv (.int c)),some (.pv (px uss)),x4] S=.nx [x0,some (.pv (tv p)),some (.pv (.int (c+if bW uss p=1 then 1 else 0))),some (.pv (px uss)),some (.pv (.int (bW uss p)))] S:=by
    generalize bW uss p=s,tv p=T,px uss=P at *;unfold oK;rcases s3 with rfl |rfl |rfl
    .simp! [aE,aZ,bA,aP,aM,aN,aK,aL,aF,aJ,e]
    .exact absurd rfl c0
    .simp! [aE,aZ,bA,aP,aM,aN,aK,aL,aF,aJ,e,lJ,yL]
   rcases Pn hn hk g S x0 hs (c+if bW uss p=1 then 1 else 0) (some (.pv (px uss))) (some (.pv (.int (bW uss p)))) (λy hy=>h y (ax _ hy))with⟨⟨y,hy,z⟩,ih⟩|⟨z,y3,y4,ih⟩
   .left
    refine⟨⟨y,ax _ hy,z⟩,?_⟩;rw[az,dM];simp only[gN,cw,cj];rw[st];exact ih
   .right
    refine⟨λy hy=>?_,y3,y4,?_⟩
    .rcases bo.mp hy with rfl |hy
     .exact c0
     .exact z y hy
    .rw[az,dM]
     simp only[gN,cw,cj];rw[st];have ec:c+(((uss::hs).map λuss=>bW uss p).count 1:Nat)=c+(if bW uss p=1 then 1 else 0)+((hs.map λuss=>bW uss p).count 1:Nat):=by
      rw[az,xq]
      by_cases c1:bW uss p=1
      .rw[c1]
       simp;omega
      .have:(bW uss p==1)=false:=by simpa using c1
       rw[this,if_neg c1];simp
     rw[ec];exact ih
theorem K5{n k:Nat}(hn:n=2\/n=3)(hk:k<=1000){p:AB}(g:Gu n 1000 p)(S:aG){hs:AF}{A:PV}(hA:Sv A (hs.map px))(h:∀uss∈hs,Wx n k uss):
  ((∃uss∈hs,bW uss p=0)/\qV [.pv A,.pv (tv p)] S=.exc "OnSide" S)\/((∀uss∈hs,bW uss p≠0)/\qV [.pv A,.pv (tv p)] S=.ok (.pv (.int ((hs.map λuss=>bW uss p).count 1:Nat))) S):=by
 have L:=Pn hn hk g S (some (.pv A)) hs 0 none none h;have hb:zT=(aI (aQ 2 (mC (.int 0)))
 (aI (bR (aY (aA 0)) (gN 3) oK)
 (bC (aA 2)))):=rfl
 have tk:S.take S.length=S:=by simp
 have z0:(0:Int)+((hs.map λuss=>bW uss p).count 1:Nat)=((hs.map λuss=>bW uss p).count 1:Nat):=by omega
 rw[z0]at L;unfold qV aR;rw[hb];generalize tv p=T,(((hs.map λuss=>bW uss p).count 1:Nat):Int)=C,oK=CB1 at *;rcases L with⟨a,b⟩|⟨a,y3,y4,b⟩
 .left
  refine⟨a,?_⟩;rcases hA with rfl |rfl<;>(generalize hs.map px=HL at *;simp! [aE,aZ,bA,aP,aM,aN,aK,aL,aF,aJ,bR,aY,bS,b])
 .right
  refine⟨a,?_⟩;rcases hA with rfl |rfl<;>(generalize hs.map px=HL at *;simp! [aE,aZ,bA,aP,aM,aN,aK,aL,aF,aJ,bR,aY,bS,b])
def bd(p:List Nat):List Nat:=if p.head?=some 45 then p.tail else p
abbrev Kf:Type:=AE×Int
def ad8:AL->Int
 |some (.int i)=>i
 |_=>0
def Fu:AB->Int
 |[]=>0
 |n::r=>if n=0 then Fu r else sg n
def mS(ns:AB):AB:=(low ns).map (Fu ns*·)
def kI:AB->AB->AB
 |[x0,y0,w0],[x1,y1,w1]=>[x1*w0-x0*w1,y1*w0-y0*w1]
 |[x0,y0,z0,w0],[x1,y1,z1,w1]=>[x1*w0-x0*w1,y1*w0-y0*w1,z1*w0-z0*w1]
 |_,_=>[]
theorem ad6{x0 y0 w0 x1 y1 w1:Int}:kI [x0,y0,w0] [x1,y1,w1]=[x1*w0-x0*w1,y1*w0-y0*w1]:=rfl
theorem ad7{x0 y0 z0 w0 x1 y1 z1 w1:Int}:kI [x0,y0,z0,w0] [x1,y1,z1,w1]=[x1*w0-x0*w1,y1*w0-y0*w1,z1*w0-z0*w1]:=rfl
def Cf:AB->AB->AB
 |[a,b,c],[d,e,f]=>[b*f-c*e,c*d-a*f,a*e-b*d]
 |_,_=>[]
theorem ad5{a b c d e f:Int}:Cf [a,b,c] [d,e,f]=[b*f-c*e,c*d-a*f,a*e-b*d]:=rfl
def qO:AE->AB
 |[p,q]=>(match kI p q with
  |[a,b]=>[-b,a]
  |_=>[])
 |[p,q,r]=>Cf (kI p q) (kI p r)
 |_=>[]
theorem ad9{p q:AB}:qO [p,q]=(match kI p q with |[a,b]=>[-b,a] |_=>[]):=rfl
theorem ad4{p q r:AB}:qO [p,q,r]=Cf (kI p q) (kI p r):=rfl
def sd(pi s e:AB)(n:Int):List Kf:=[([pi,mS (kI s e),s],n),([pi,mS (kI s e),e],-n)]
def sdU:AE->List (AB×AB)
 |[p,q]=>[(p,q)]
 |[a,b,c]=>[(c,a),(a,b),(b,c)]
 |_=>[]
def cW(w:AE)(n:Int):List Kf:=(sdU w).flatMap λx=>sd (mS (qO w)) x.1 x.2 n
def tk(pi d p:AB)(k:AE):Int:=if[pi,d,p]=k then 1 else 0
def Ed(pi s e:AB)(k:AE):Int:=tk pi (mS (kI s e)) s k-tk pi (mS (kI s e)) e k
def W2(p q:AB)(k:AE):Int:=Ed (mS (qO [p,q])) p q k
def W3(p q r:AB)(k:AE):Int:=Ed (mS (qO [p,q,r])) r p k+Ed (mS (qO [p,q,r])) p q k+Ed (mS (qO [p,q,r])) q r k
def PS(uss:AE)(k:AE):Int:=match uss with
 |[a,b,c]=>W2 a b k+W2 b c k+W2 c a k
 |[a,b,c,d]=>W3 b c d k+W3 a d c k+W3 a b d k+W3 a c b k
 |_=>0
theorem l3{a b c d e f:Int}(h:a=d)(g:b=e)(i:c=f):[a,b,c]=[d,e,f]:=by rw[h,g,i]
theorem sq{a b:MS}{ρ ρ':bY}{S S':aG}{r:cP}(h:a ρ S=.nx ρ' S')(g:b ρ' S'=r):aI a b ρ S=r:=by
 rw[aI,h];exact g
theorem rN{np n:Nat}{b:MS}{xs:AN}{S S':aG}{v:AV}{r:cD AV}(hl:xs.length=np)(h:b (fO n xs) S=.rt v S')(hc:iD S.length v S'=r):aR np n b xs S=r:=by
 unfold aR;rw[if_pos hl,h];exact hc
theorem Je{t b:Int}{k:Nat}(hb:0<b)(ht:Bd k t)(hbb:Bd k b):∃p q:Int,fr t b=[p,q]/\0<q/\Bd k p/\Bd k q/\fr p q=[p,q]:=by
 obtain⟨zs,z,e,Z,_⟩:=pO (n:=1) (L:=[t]) (b:=b) hb rfl (λx hx=>by
  have:x=t:=by simpa using hx
  rw[this];exact ht) hbb
 have el:=Z.len
 match zs,el,e,Z with
 |[p],_,e,Z=>
  have e:low [t,b]=[p,z]:=e;have f1:fr t b=low [t,b]:=if_neg (by omega);have zp:=Z.pos;have f2:fr p z=low [p,z]:=if_neg (by omega);refine⟨p,z,by rw[f1,e],Z.pos,Z.bx p (by simp),Z.bw,?_⟩;rw[f2];exact Z.low
def pT(w x:Int):Int:=(fr x w).getD 0 0
def pB(w x:Int):Int:=(fr x w).getD 1 0
theorem lL{k:Nat}{w x:Int}(hw:0<w)(bw:Bd k w)(bx:Bd k x):fr x w=[pT w x,pB w x]/\0<pB w x/\Bd k (pT w x)/\Bd k (pB w x)/\fr (pT w x) (pB w x)=[pT w x,pB w x]:=by
 obtain⟨p,q,e,a,b,c,d⟩:=Je hw bx bw;have e1:pT w x=p:=by unfold pT;rw[e];rfl
 have e2:pB w x=q:=by unfold pB;rw[e];rfl
 rw[e1,e2];exact⟨e,a,b,c,d⟩
theorem Zp{n k:Nat}(S:aG){xs:AB}{w:Int}(P:Pq n k xs w)(hk:k<=1000):oV [.pv (tv (xs++[w]))] S=.ok (.pv (.tup (xs.map λx=>.tup [.int (pT w x),.int (pB w x)]))) S:=by
 have e1:=nO xs w;have e2:=iQ xs w;have e:cF [] (gN 0) (gM kX [] (aB (aA 0) (aB (aC aE (aA 1) (bG bX (mC (.int 1)))) aD))) (xs.map .int) [none,some (.pv (tv (xs++[w])))] S=.ok (xs.map λx=>.tup [.int (pT w x),.int (pB w x)]) S:=by
  refine kZ (iU S) PV.int (λx=>.tup [.int (pT w x),.int (pB w x)]) xs none λx hx=>?_;have f:=zP x w S ((P.bx x hx).mono (by omega)) (P.bw.mono (by omega)) (by have:=P.pos;omega);rw[(lL P.pos P.bw (P.bx x hx)).1]at f;simp only[az,cn]at f;show _=cD.ok (AV.pv (.tup [.int (pT w x),.int (pB w x)])) S;have e2:aE (tv (xs++[w])) (.int (-1))=some (.int w):=e2;generalize pB w x=q,pT w x=p,tv (xs++[w])=TV at *;simp! [bB,aM,aN,aK,aL,aF,aJ,e2,f]
 have hb:Ba=(bC (mR fL (aB (aT ["number"] [(0,"p")] (aY (dL (aA 0) cO (dI (bG bX (mC (.int 1)))))) (gN 0) (gM kX [] (aB (aA 0) (aB (aC aE (aA 1) (bG bX (mC (.int 1)))) aD)))) aD))):=rfl;unfold oV aR;rw[hb];have e1:iA (tv (xs++[w])) none (some (-1))=some (.tup (xs.map .int)):=e1;generalize (xs.map λx=>PV.tup [.int (pT w x),.int (pB w x)])=ML,tv (xs++[w])=TV,(gM kX [] (aB (aA 0) (aB (aC aE (aA 1) (bG bX (mC (.int 1)))) aD)))=ME1 at *;simp! [bB,aM,aN,aK,aL,aF,aJ,aT,bZ,aY,bS,dL,cO,dI,fT,e1,e]
theorem uG{a b:Int}(hb:0<b)(bb:Bd 1000 b):eI (.int (a*b)) (.int b)=some (.int a):=by
 rw[jV (i:=a*b) (j:=b) ⟨by omega,bb.mono (by decide)⟩,wn _ (by omega),Int.mul_ediv_cancel _ (by omega)]
structure Fz(u:Int×Int):Prop where
 pos:0<u.2
 b1:Bd 300 u.1
 b2:Bd 300 u.2
abbrev fz(u:Int×Int):PV:=.tup [.int u.1,.int u.2]
def cT:List (Int×Int)->AB
 |[u,v]=>[u.1*v.2,v.1*u.2]
 |[u,v,t]=>[u.1*(v.2*t.2),v.1*(u.2*t.2),t.1*(u.2*v.2)]
 |_=>[]
def cB:List (Int×Int)->Int
 |[u,v]=>u.2*v.2
 |[u,v,t]=>u.2*v.2*t.2
 |_=>1
theorem b3{k l:Nat}{a b:Int}(h:Bd k a)(g:Bd l b)(hs:k+l<=1000):Bd 1000 (a*b):=(h.mul g).mono hs
theorem Ms{ab:List (Int×Int)}(hl:ab.length=2\/ab.length=3)(h:∀u∈ab,Fz u):0<cB ab/\Bd 1000 (cB ab)/\(cT ab).length=ab.length/\∀x∈cT ab,Bd 1000 x:=by
 match ab,hl,h with
 |[u,v],_,h=>
  have hu:=h u (by simp);have hv:=h v (by simp);refine⟨aj hu.pos hv.pos,b3 hu.b2 hv.b2 (by decide),rfl,λx hx=>?_⟩;have:x=u.1*v.2\/x=v.1*u.2:=by simpa[cT]using hx
  rcases this with rfl |rfl
  .exact b3 hu.b1 hv.b2 (by decide)
  .exact b3 hv.b1 hu.b2 (by decide)
 |[u,v,t],_,h=>
  have hu:=h u (by simp);have hv:=h v (by simp);have ht:=h t (by simp);refine⟨aj (aj hu.pos hv.pos) ht.pos,b3 (hu.b2.mul hv.b2) ht.b2 (by decide),rfl,λx hx=>?_⟩;have:x=u.1*(v.2*t.2)\/x=v.1*(u.2*t.2)\/x=t.1*(u.2*v.2):=by simpa[cT]using hx
  rcases this with rfl |rfl |rfl
  .exact b3 hu.b1 (hv.b2.mul ht.b2) (by decide)
  .exact b3 hv.b1 (hu.b2.mul ht.b2) (by decide)
  .exact b3 ht.b1 (hu.b2.mul hv.b2) (by decide)
theorem Wv(S:aG){ab:List (Int×Int)}(hl:ab.length=2\/ab.length=3)(h:∀u∈ab,Fz u):oU [.pv (.lst (ab.map fz))] S=.ok (.pv (tv (low (cT ab++[cB ab])))) S:=by
 obtain⟨p0,pb,pl,px⟩:=Ms hl h;have ep:=Zj (w:=.lst ((cT ab).map .int)) (cT ab) (cB ab) S (.inl rfl) (λx hx=>(px x hx).mono (by decide)) (pb.mono (by decide)) (by omega) (by omega);rw[Fp p0]at ep
 match ab,hl,h,ep with
 |[u,v],_,h,ep=>
  have hu:=h u (by simp);have hv:=h v (by simp);obtain⟨a,b⟩:=u;obtain⟨c,d⟩:=v;have m1:aS (.int 1) (.int b)=some (.int b):=by rw[iS (.inl (.inl ⟨by decide,by decide⟩)),dr]
  have m2:aS (.int b) (.int d)=some (.int (b*d)):=cU hu.b2 hv.b2;have q1:eI (.int (b*d)) (.int b)=some (.int d):=by rw[cq];exact uG hu.pos (hu.b2.mono (by decide))
  have q2:eI (.int (b*d)) (.int d)=some (.int b):=uG hv.pos (hv.b2.mono (by decide));have m3:aS (.int a) (.int d)=some (.int (a*d)):=cU hu.b1 hv.b2;have m4:aS (.int c) (.int b)=some (.int (c*b)):=cU hv.b1 hu.b2;have ep:nS [.pv (.lst [.int (a*d),.int (c*b)]),.pv (.int (b*d))] S=.ok (.pv (tv (low ([a*d,c*b]++[b*d])))) S:=ep;show oU [.pv (.lst [.tup [.int a,.int b],.tup [.int c,.int d]])] S=.ok (.pv (tv (low ([a*d,c*b]++[b*d])))) S;generalize tv (low ([a*d,c*b]++[b*d]))=R at *;unfold oU aR vK;simp! [aE,aZ,bA,aP,aM,aN,aK,aL,aF,aJ,bR,aY,bS,dM,eQ,dE,dB,gN,m1,m2,aT,bZ,q1,q2,m3,m4,ep]
 |[u,v,t],_,h,ep=>
  have hu:=h u (by simp);have hv:=h v (by simp);have ht:=h t (by simp);obtain⟨a,b⟩:=u;obtain⟨c,d⟩:=v;obtain⟨e,f⟩:=t;have m1:aS (.int 1) (.int b)=some (.int b):=by rw[iS (.inl (.inl ⟨by decide,by decide⟩)),dr]
  have m2:aS (.int b) (.int d)=some (.int (b*d)):=cU hu.b2 hv.b2;have m2':aS (.int (b*d)) (.int f)=some (.int (b*d*f)):=cU (hu.b2.mul hv.b2) ht.b2;have q1:eI (.int (b*d*f)) (.int b)=some (.int (d*f)):=by
   rw[show b*d*f=d*f*b by grind];exact uG hu.pos (hu.b2.mono (by decide))
  have q2:eI (.int (b*d*f)) (.int d)=some (.int (b*f)):=by
   rw[show b*d*f=b*f*d by grind];exact uG hv.pos (hv.b2.mono (by decide))
  have q3:eI (.int (b*d*f)) (.int f)=some (.int (b*d)):=uG ht.pos (ht.b2.mono (by decide));have m3:aS (.int a) (.int (d*f))=some (.int (a*(d*f))):=cU hu.b1 (hv.b2.mul ht.b2);have m4:aS (.int c) (.int (b*f))=some (.int (c*(b*f))):=cU hv.b1 (hu.b2.mul ht.b2);have m5:aS (.int e) (.int (b*d))=some (.int (e*(b*d))):=cU ht.b1 (hu.b2.mul hv.b2);have ep:nS [.pv (.lst [.int (a*(d*f)),.int (c*(b*f)),.int (e*(b*d))]),.pv (.int (b*d*f))] S=.ok (.pv (tv (low ([a*(d*f),c*(b*f),e*(b*d)]++[b*d*f])))) S:=ep;show oU [.pv (.lst [.tup [.int a,.int b],.tup [.int c,.int d],.tup [.int e,.int f]])] S=.ok (.pv (tv (low ([a*(d*f),c*(b*f),e*(b*d)]++[b*d*f])))) S;generalize tv (low ([a*(d*f),c*(b*f),e*(b*d)]++[b*d*f]))=R at *;unfold oU aR vK;simp! [aE,aZ,bA,aP,aM,aN,aK,aL,aF,aJ,bR,aY,bS,dM,eQ,dE,dB,gN,m1,m2,m2',aT,bZ,q1,q2,q3,m3,m4,m5,ep]
theorem nK{k:Nat}{w x:Int}(hw:0<w)(bw:Bd k w)(bx:Bd k x):pT w x*w=x*pB w x:=by
 obtain⟨zs,z,e,Z,h⟩:=pO (n:=1) (L:=[x]) (b:=w) hw rfl (λy hy=>by
  have:y=x:=by simpa using hy
  rw[this];exact bx) bw
 have el:=Z.len
 match zs,el,e,h with
 |[p],_,e,h=>
  have e:low [x,w]=[p,z]:=e;have f1:fr x w=[p,z]:=by rw[<-e];exact if_neg (by omega)
  have h0:p*w=x*z:=h 0 (by decide);have e1:pT w x=p:=by unfold pT;rw[f1];rfl
  have e2:pB w x=z:=by unfold pB;rw[f1];rfl
  rw[e1,e2];exact h0
theorem K6{n k:Nat}{xs:AB}{w:Int}(hn:n=2\/n=3)(P:Pq n k xs w)(hk:k<=300):(∀u∈xs.map (λx=>(pT w x,pB w x)),Fz u)/\low (cT (xs.map λx=>(pT w x,pB w x))++[cB (xs.map λx=>(pT w x,pB w x))])=xs++[w]:=by
 have nC:∀u∈xs.map (λx=>(pT w x,pB w x)),Fz u:=λu hu=>by
  obtain⟨x,hx,rfl⟩:=bj.mp hu;obtain⟨_,q0,b1,b2,_⟩:=lL P.pos P.bw (P.bx x hx);exact⟨q0,b1.mono hk,b2.mono hk⟩
 refine⟨nC,?_⟩;have cr:∀x∈xs,pT w x*w=x*pB w x:=λx hx=>nK P.pos P.bw (P.bx x hx);obtain⟨p0,pb,pl,px⟩:=Ms (ab:=xs.map λx=>(pT w x,pB w x)) (by rw[ak,P.len];exact hn) nC;obtain⟨zs,z,e,Z,h⟩:=pO (n:=n) p0 (by rw[pl,ak,P.len]) px pb;rw[e];refine Pq.eq Z P (N:=λj=>(cT (xs.map λx=>(pT w x,pB w x))).getD j 0) (D:=cB (xs.map λx=>(pT w x,pB w x))) h (Vl.self n xs w) p0 P.pos λj hj=>?_;have hl:=P.len;rcases hn with rfl |rfl
 .match xs,hl,cr with
  |[x,y],_,cr=>
   have c1:=cr x (by simp);have c2:=cr y (by simp);have:j=0\/j=1:=by omega
   rcases this with rfl |rfl
   .show pT w x*pB w y*w=x*(pB w x*pB w y)
    grind
   .show pT w y*pB w x*w=y*(pB w x*pB w y)
    grind
 .match xs,hl,cr with
  |[x,y,t],_,cr=>
   have c1:=cr x (by simp);have c2:=cr y (by simp);have c3:=cr t (by simp);have:j=0\/j=1\/j=2:=by omega
   rcases this with rfl |rfl |rfl
   .show pT w x*(pB w y*pB w t)*w=x*(pB w x*pB w y*pB w t)
    grind
   .show pT w y*(pB w x*pB w t)*w=y*(pB w x*pB w y*pB w t)
    grind
   .show pT w t*(pB w x*pB w y)*w=t*(pB w x*pB w y*pB w t)
    grind
theorem lC{t b t' b':Int}(hb:0<b)(hb':0<b')(h:t*b'=t'*b):fr t b=fr t' b':=by
 have e1:fr (b'*t) (b'*b)=fr t b:=vF hb' (by omega);have e2:fr (b*t') (b*b')=fr t' b':=vF hb (by omega);rw[<-e1,<-e2,cq b' t,h,cq t' b,cq b' b]
def Fs(q:AB)(M:AE):AB:=(aw M.length).map λj=>sg (dU (M.set j q))*sg (dU M)
theorem gK(x y:Int):sg (-x)*sg (-y)=sg x*sg y:=by rw[Oq,Oq,zu]
theorem aaa{n:Nat}(hn:n=2\/n=3){q:AB}(hq:Pw n q){l1 l2:AE}(h:l1.Perm l2):∀pre:AE,(∀us∈pre++l1,Pw n us)->(pre++l1).length=n+1->(Fs q (pre++l1)).Perm (Fs q (pre++l2)):=by
 induction h with
 |nil=>intro pre _ _;exact .refl _
 |cons x _ ih=>
  intro pre h4 hl;have:=ih (pre++[x]) (by simpa using h4) (by simpa using hl);simpa using this
 |swap x y l=>
  intro pre h4 hl;have sw:∀(pre l:AE)(x y:AB),(pre++y::x::l).length=n+1->(∀u∈pre++y::x::l,Pw n u)->dU (pre++x::y::l)=-dU (pre++y::x::l):=λpre l x y=>Mo hn;have hx:=h4 x (by simp);have hy:=h4 y (by simp);have al:∀c∈pre++l,Pw n c:=λc hc=>h4 c (by simp at hc⊢;rcases hc with h |h<;>simp[h]);rcases hn with rfl |rfl
  .match pre,l,hl,al with
   |[],[c],_,al=>
    have hc:=al c (by simp);have e1:=sw [] [c] x y rfl (by simp[hx,hy,hc]);have e2:=sw [] [c] x q rfl (by simp[hx,hq,hc]);have e3:=sw [] [c] q y rfl (by simp[hy,hq,hc]);have e4:=sw [] [q] x y rfl (by simp[hx,hy,hq]);simp only[gi]at e1 e2 e3 e4;show([sg (dU [q,x,c])*sg (dU [y,x,c]),sg (dU [y,q,c])*sg (dU [y,x,c]),sg (dU [y,x,q])*sg (dU [y,x,c])]:AB).Perm [sg (dU [q,y,c])*sg (dU [x,y,c]),sg (dU [x,q,c])*sg (dU [x,y,c]),sg (dU [x,y,q])*sg (dU [x,y,c])];rw[e1,e2,e3,e4,gK,gK,gK];exact .swap _ _ _
   |[a],[],_,al=>
    have ha:=al a (by simp);have e1:=sw [a] [] x y rfl (by simp[hx,hy,ha]);have e2:=sw [a] [] x q rfl (by simp[hx,hq,ha]);have e3:=sw [a] [] q y rfl (by simp[hy,hq,ha]);have e4:=sw [q] [] x y rfl (by simp[hx,hy,hq]);simp only[jt,gi]at e1 e2 e3 e4;show([sg (dU [q,y,x])*sg (dU [a,y,x]),sg (dU [a,q,x])*sg (dU [a,y,x]),sg (dU [a,y,q])*sg (dU [a,y,x])]:AB).Perm [sg (dU [q,x,y])*sg (dU [a,x,y]),sg (dU [a,q,y])*sg (dU [a,x,y]),sg (dU [a,x,q])*sg (dU [a,x,y])];rw[e1,e2,e3,e4,gK,gK,gK];exact .cons _ (.swap _ _ _)
   |[],[],h,_=>simp at h
   |[],_::_::_,h,_=>simp at h
   |_::_::_,_,h,_=>simp at h;omega
   |[_],_::_,h,_=>simp at h
  .match pre,l,hl,al with
   |[],[c,d],_,al=>
    have hc:=al c (by simp);have hd:=al d (by simp);have e1:=sw [] [c,d] x y rfl (by simp[hx,hy,hc,hd]);have e2:=sw [] [c,d] x q rfl (by simp[hx,hq,hc,hd]);have e3:=sw [] [c,d] q y rfl (by simp[hy,hq,hc,hd]);have e4:=sw [] [q,d] x y rfl (by simp[hx,hy,hq,hd]);have e5:=sw [] [c,q] x y rfl (by simp[hx,hy,hq,hc]);simp only[gi]at e1 e2 e3 e4 e5;show([sg (dU [q,x,c,d])*sg (dU [y,x,c,d]),sg (dU [y,q,c,d])*sg (dU [y,x,c,d]),sg (dU [y,x,q,d])*sg (dU [y,x,c,d]),sg (dU [y,x,c,q])*sg (dU [y,x,c,d])]:AB).Perm [sg (dU [q,y,c,d])*sg (dU [x,y,c,d]),sg (dU [x,q,c,d])*sg (dU [x,y,c,d]),sg (dU [x,y,q,d])*sg (dU [x,y,c,d]),sg (dU [x,y,c,q])*sg (dU [x,y,c,d])];rw[e1,e2,e3,e4,e5,gK,gK,gK,gK];exact .swap _ _ _
   |[a],[d],_,al=>
    have ha:=al a (by simp);have hd:=al d (by simp);have e1:=sw [a] [d] x y rfl (by simp[hx,hy,ha,hd]);have e2:=sw [a] [d] x q rfl (by simp[hx,hq,ha,hd]);have e3:=sw [a] [d] q y rfl (by simp[hy,hq,ha,hd]);have e4:=sw [q] [d] x y rfl (by simp[hx,hy,hq,hd]);have e5:=sw [a] [q] x y rfl (by simp[hx,hy,hq,ha]);simp only[jt,gi]at e1 e2 e3 e4 e5;show([sg (dU [q,y,x,d])*sg (dU [a,y,x,d]),sg (dU [a,q,x,d])*sg (dU [a,y,x,d]),sg (dU [a,y,q,d])*sg (dU [a,y,x,d]),sg (dU [a,y,x,q])*sg (dU [a,y,x,d])]:AB).Perm [sg (dU [q,x,y,d])*sg (dU [a,x,y,d]),sg (dU [a,q,y,d])*sg (dU [a,x,y,d]),sg (dU [a,x,q,d])*sg (dU [a,x,y,d]),sg (dU [a,x,y,q])*sg (dU [a,x,y,d])];rw[e1,e2,e3,e4,e5,gK,gK,gK,gK];exact .cons _ (.swap _ _ _)
   |[a,b],[],_,al=>
    have ha:=al a (by simp);have hb:=al b (by simp);have e1:=sw [a,b] [] x y rfl (by simp[hx,hy,ha,hb]);have e2:=sw [a,b] [] x q rfl (by simp[hx,hq,ha,hb]);have e3:=sw [a,b] [] q y rfl (by simp[hy,hq,ha,hb]);have e4:=sw [q,b] [] x y rfl (by simp[hx,hy,hq,hb]);have e5:=sw [a,q] [] x y rfl (by simp[hx,hy,hq,ha]);simp only[jt,gi]at e1 e2 e3 e4 e5;show([sg (dU [q,b,y,x])*sg (dU [a,b,y,x]),sg (dU [a,q,y,x])*sg (dU [a,b,y,x]),sg (dU [a,b,q,x])*sg (dU [a,b,y,x]),sg (dU [a,b,y,q])*sg (dU [a,b,y,x])]:AB).Perm [sg (dU [q,b,x,y])*sg (dU [a,b,x,y]),sg (dU [a,q,x,y])*sg (dU [a,b,x,y]),sg (dU [a,b,q,y])*sg (dU [a,b,x,y]),sg (dU [a,b,x,q])*sg (dU [a,b,x,y])];rw[e1,e2,e3,e4,e5,gK,gK,gK,gK];exact .cons _ (.cons _ (.swap _ _ _))
   |[],[],h,_=>simp at h
   |[],[_],h,_=>simp at h
   |[],_::_::_::_,h,_=>simp at h
   |[_],[],h,_=>simp at h
   |[_],_::_::_,h,_=>simp at h
   |[_,_],_::_,h,_=>simp at h
   |_::_::_::_,_,h,_=>simp at h;omega
 |trans p1 p2 ih1 ih2=>
  intro pre h4 hl;refine(ih1 pre h4 hl).trans (ih2 pre (λus hu=>h4 us ((p1.append_left pre).mem_iff.mpr hu)) ?_);rw[<-(p1.append_left pre).length_eq];exact hl
theorem Fs3(q:AB)(M:AE):∀s∈Fs q M,s=-1\/s=0\/s=1:=λs hs=>by
 unfold Fs at hs;obtain⟨j,_,rfl⟩:=bj.mp hs;rcases yS (dU (M.set j q))with a |a |a<;>rcases yS (dU M)with b |b |b<;>rw[a,b]<;>decide
theorem sgf(x:Int):(0<x/\sg x=1)\/(x=0/\sg x=0)\/(x<0/\sg x=-1):=by
 unfold sg;split
 .omega
 .split<;>omega
theorem Gs{f:FM}{ms:MA}{ρ:bY}{S S1 S2:aG}{xs:AN}{v:AV}(h:ms ρ S=.ok xs S1)(g:frz S1.length (kP (f xs S1))=.ok v S2):aO f [] ms ρ S=.ok v S2:=by
 unfold aO;rw[h];show frz S1.length (kP (f (xs++[]) S1))=_;rw[jk];exact g
theorem V8{S:aG}{L Y:AK}{ρ:bY}{m:ME}(hρ:ρ[5]?=some (some (.ref S.length)))(hm:m ρ (S++[.lst L])=.ok (.pv (.lst Y)) (S++[.lst L]))(hz:L.length+Y.length<=1000):pW 5 m ρ (S++[.lst L])=.nx ρ (S++[.lst (L++Y)]):=by
 unfold pW;rw[hρ];dsimp only;rw[hm];have h2:L.length+Y.length<=16777216:=by omega
 show yD S.length ρ (.pv (.lst Y)) (S++[.lst L])=_;unfold yD;simp[h2]
theorem Yw(ns:AB)(S:aG)(hb:∀n∈ns,Bd 8000 n):gA [.pv (.tup (ns.map .int))] S=.ok (.pv (.tup ((low ns).map .int))) S:=by
 obtain⟨v',e⟩:=Fb S none ns 0 (.pv (.tup (ns.map .int)));unfold gA aR vX
 by_cases h:gl ns 0=0
 .have el:low ns=ns:=by unfold low;rw[if_pos h]
  simp! [aE,aZ,bA,aP,aM,aN,aK,aL,aF,aJ,bR,aY,bS,e,h,el]
 .have el:low ns=ns.map λn=>n.fdiv (gl ns 0):=by
   unfold low;rw[if_neg h];exact eh λn hn=>(om ((jZ ns 0).2 n hn)).symm
  have bg:Bd 8000 (gl ns 0):=xS (Bd.of (n:=0) (by simp) (ua 8000)) hb;have ec:=wC S (gl ns 0) h bg ns none;simp! [aE,aZ,bA,aP,aM,aN,aK,aL,aF,aJ,bR,aY,bS,e,h,el,aT,bZ,ec]
theorem ady{a b c d:Int}(S:aG)(ba:Bd 1000 a)(bb:Bd 1000 b)(bc:Bd 1000 c)(bd:Bd 1000 d)(b0:0<b)(c0:0<c):sV [.pv (.tup [.int a,.int b]),.pv (.tup [.int c,.int d])] S=.ok (.pv (.tup ((fr (a*d) (b*c)).map .int))) S:=by
 have e:=zP (a*d) (b*c) S ((ba.mul bd).mono (by decide)) ((bb.mul bc).mono (by decide)) (dw (aj b0 c0));unfold sV aR Ua;simp! [aE,aZ,bA,aP,aM,aN,aK,aL,aF,aJ,cU ba bd,cU bb bc,e]
theorem tI{k:Nat}{x z:Int}{u a:Int×Int}(S:aG)(hz:0<z)(bz:Bd k z)(bx:Bd k x)(hk:k<=1000)(hu:Sp u)(ha:Fz a)(fa:fr a.1 a.2=[a.1,a.2])(hv:x*(a.2*u.2)=a.1*u.1*z):sV [.pv (.tup [.int (pT z x),.int (pB z x)]),.pv (fv u)] S=.ok (.pv (fz a)) S:=by
 obtain⟨_,p0,b1,b2,_⟩:=lL hz bz bx;have pc:=nK hz bz bx;have e:=ady S (b1.mono hk) (b2.mono hk) (hu.bp.mono (by decide)) (hu.bq.mono (by decide)) p0 hu.p (d:=u.2);have q:fr (pT z x*u.2) (pB z x*u.1)=fr a.1 a.2:=by
  refine lC (aj p0 hu.p) ha.pos ?_;refine io (dw hz) ?_
  calc pT z x*u.2*a.2*z=(pT z x*z)*(u.2*a.2):=by grind
   _=x*pB z x*(u.2*a.2):=by rw[pc]
   _=(x*(a.2*u.2))*pB z x:=by grind
   _=a.1*(pB z x*u.1)*z:=by rw[hv];grind
 rw[q,fa]at e;exact e
theorem Db{n k:Nat}(hn:n=2\/n=3){zs:AB}{z:Int}(P:Pq n k zs z)(hk:k<=1000){fs:List (Int×Int)}(hf:fs.length=n)(h:∀u∈fs,Sp u){ab:List (Int×Int)}(la:ab.length=n)(hab:∀u∈ab,Fz u/\fr u.1 u.2=[u.1,u.2])(hv:∀j,j<n->zs.getD j 0*((ab.getD j (0,1)).2*(fs.getD j (0,1)).2)=(ab.getD j (0,1)).1*(fs.getD j (0,1)).1*z)(S:aG):jU [.pv (tv (zs++[z])),.pv (.tup (fs.map fv))] S=.ok (.pv (tv (low (cT ab++[cB ab])))) S:=by
 have em:=Zp S P hk;have ea:=Wv S (ab:=ab) (by omega) (λu hu=>(hab u hu).1);have bz:=P.bw;have hz:=P.pos;rcases hn with rfl |rfl
 .match zs,P.len,fs,hf,ab,la with
  |[x,y],_,[u,v],_,[a,b],_=>
   have d0:=tI S hz bz (P.bx x (by simp)) hk (h u (by simp)) (hab a (by simp)).1 (hab a (by simp)).2 (hv 0 (by decide));have d1:=tI S hz bz (P.bx y (by simp)) hk (h v (by simp)) (hab b (by simp)).1 (hab b (by simp)).2 (hv 1 (by decide));simp only[az,cn]at em ea⊢;generalize fz b=A1,fz a=A0,fv v=F1,fv u=F0,PV.tup [.int (pT z y),.int (pB z y)]=M1,PV.tup [.int (pT z x),.int (pB z x)]=M0,tv ([x,y]++[z])=T,tv (low (cT [a,b]++[cB [a,b]]))=R at *;unfold jU aR vP;simp! [aE,aZ,bA,aP,aM,aN,aK,aL,aF,aJ,em,aT,bZ,dX,fQ,dY,bS,dE,dB,gT,bV,cQ,gN,d0,d1,ea]
 .match zs,P.len,fs,hf,ab,la with
  |[x,y,t],_,[u,v,w],_,[a,b,c],_=>
   have d0:=tI S hz bz (P.bx x (by simp)) hk (h u (by simp)) (hab a (by simp)).1 (hab a (by simp)).2 (hv 0 (by decide));have d1:=tI S hz bz (P.bx y (by simp)) hk (h v (by simp)) (hab b (by simp)).1 (hab b (by simp)).2 (hv 1 (by decide));have d2:=tI S hz bz (P.bx t (by simp)) hk (h w (by simp)) (hab c (by simp)).1 (hab c (by simp)).2 (hv 2 (by decide));simp only[az,cn]at em ea⊢;generalize fz c=A2,fz b=A1,fz a=A0,fv w=F2,fv v=F1,fv u=F0,PV.tup [.int (pT z t),.int (pB z t)]=M2,PV.tup [.int (pT z y),.int (pB z y)]=M1,PV.tup [.int (pT z x),.int (pB z x)]=M0,tv ([x,y,t]++[z])=T,tv (low (cT [a,b,c]++[cB [a,b,c]]))=R at *;unfold jU aR vP;simp! [aE,aZ,bA,aP,aM,aN,aK,aL,aF,aJ,em,aT,bZ,dX,fQ,dY,bS,dE,dB,gT,bV,cQ,gN,d0,d1,d2,ea]
theorem sW{ds:AB}:low (ds++[1])=ds++[1]:=by
 refine Im ?_;have h1:=(jZ (ds++[1]) 0).2 1 (by simp);have h2:=xY (ds++[1]) 0 (qj 0);exact o7 h2 h1
theorem Rf(d:Int):fr d 1=[d,1]:=sW (ds:=[d])
theorem So{d:Int}:∀(ns:AB)(g:Int),d∣g->(∀n∈ns,d∣n)->d∣gl ns g
 |[],g,h,_=>h
 |n::ns,g,h,k=>by
  unfold gl;exact So ns _ (Int.dvd_coe_gcd h (k n (by simp))) λm hm=>k m (ax _ hm)
theorem Xa{xs ys:AB}{w:Int}(hw:0<w)(e:low (xs++[w])=xs++[w])(hd:∀d:Int,d∣w->(∀y∈ys,d∣y)->∀x∈xs,d∣x):low (ys++[w])=ys++[w]:=by
 refine Im ?_;have g1:=aai hw e;have h2:=xY (ys++[w]) 0 (qj 0);have hk:=(jZ (ys++[w]) 0).2;refine o7 h2 ?_;rw[<-g1];refine So _ _ (Int.dvd_zero _) λn hn=>?_;rcases dj.mp hn with z |z
 .exact hd _ (hk w (by simp)) (λy hy=>hk y (ji _ hy)) n z
 .rw[oy.mp z]
  exact hk w (by simp)
theorem Z8{n k:Nat}(hn:n<=9){xs:AB}{w:Int}(P:Pq n k xs w)(S:aG):sK [.pv (tv (xs++[w]))] S=.ok (.pv (tv (xs.map (·.fmod w)++[w]))) S:=by
 have sI:=nO xs w;have iL:=iQ xs w;have w0:w≠0:=dw P.pos;have ec:cF [] (gN 0) (aC fN (aA 0) (aC aE (aA 1) (bG bX (mC (.int 1))))) (xs.map PV.int) [none,some (.pv (.tup ((xs++[w]).map .int)))] S=.ok (xs.map λx=>.int (x.fmod w)) S:=by
  refine kZ (iU S) PV.int (λx=>.int (x.fmod w)) xs none λx hx=>?_;have m:=mH (i:=x) w0;generalize (xs++[w]).map PV.int=T at *;simp! [bB,aM,aN,aK,aL,aF,aJ,iL,m]
 have lz:(xs.map λx=>PV.int (x.fmod w)).length+1<=16777216:=by rw[ak,P.len];omega
 have er:tv (xs.map (·.fmod w)++[w])=.tup ((xs.map λx=>PV.int (x.fmod w))++[.int w]):=by
  show PV.tup _=_;rw[fe,cg];rfl
 have et:tv (xs++[w])=.tup ((xs++[w]).map .int):=rfl;rw[er,et];generalize xs.map PV.int=X,(xs++[w]).map PV.int=T,(xs.map λx=>PV.int (x.fmod w))=R at *;unfold sK aR zF;simp! [bB,aM,aN,aK,aL,aF,aJ,aT,bZ,aY,bS,dL,cO,dI,fT,sI,iL,ec,lz]
theorem rG{n:Nat}(hn:n=2\/n=3){fs:List (Int×Int)}(hf:fs.length=n)(h:∀u∈fs,Sp u){f y:AB}(Gf:Gu n 100 f)(hy:y.length=n)(hb:∀x∈y,-8<x/\x<8):Gu n 201 (gG 1 f (eZ fs y))/\gC n (λj=>f.getLastD 0*fR fs j) (λj=>f.getD j 0*eW fs) (f.getLastD 0*eW fs) (y++[1]) (gG 1 f (eZ fs y)):=by
 obtain⟨_,g1,a1⟩:=wN hn [] hf h hy hb;obtain⟨g2,a2⟩:=mL (way:=1) (.inl rfl) g1 Gf;refine⟨g2,?_⟩;obtain⟨xs,w,xs',w',e1,e2,l1,l2,p1,p2,k1⟩:=a1;obtain⟨zs,v,zs',v',e3,e4,l3,l4,p3,p4,k2⟩:=a2;have q:=e2.symm.trans e3;obtain⟨q1,q2⟩:=ue q rfl;subst q1;have q2:w'=v:=by simpa using q2
 subst q2;refine⟨xs,w,zs',v',e1,e4,l1,l4,p1,p4,λj hj=>?_⟩;have t1:=k1 j hj;have t2:=k2 j hj;refine io (dw p2) ?_
 calc zs'.getD j 0*(f.getLastD 0*eW fs*w)*w'=(zs'.getD j 0*(f.getLastD 0*w'))*(eW fs*w):=by grind
  _=(1*f.getLastD 0*xs'.getD j 0+f.getD j 0*w')*v'*(eW fs*w):=by rw[t2]
  _=(f.getLastD 0*(xs'.getD j 0*(eW fs*w))+f.getD j 0*w'*(eW fs*w))*v':=by grind
  _=(f.getLastD 0*((fR fs j*xs.getD j 0+0*w)*w')+f.getD j 0*w'*(eW fs*w))*v':=by rw[t1]
  _=(f.getLastD 0*fR fs j*xs.getD j 0+f.getD j 0*eW fs*w)*v'*w':=by grind
theorem Zq{A C E p q x0 x1 w0 w1 y0 y1 z zz:Int}(hE:0<E)(h0:0<w0)(h1:0<w1)(e0:x0*(E*1)=(A*y0+C*1)*w0)(e1:x1*(E*1)=(A*y1+C*1)*w1)(ep:A*q=E*p)(ed:zz*(w1*w0)=(x1*w0-x0*w1)*z):zz*(1*q)=(y1-y0)*p*z:=by
 have pw:=aj h1 h0;refine io (dw (aj hE pw)) ?_;have a:zz*(1*q)*(E*(w1*w0))=((x1*(E*1))*w0-(x0*(E*1))*w1)*z*q:=by
  calc zz*(1*q)*(E*(w1*w0))=(zz*(w1*w0))*E*q:=by grind
   _=(x1*w0-x0*w1)*z*E*q:=by rw[ed]
   _=_:=by grind
 rw[a,e0,e1]
 calc ((A*y1+C*1)*w1*w0-(A*y0+C*1)*w0*w1)*z*q=(A*q)*(y1-y0)*z*(w1*w0):=by grind
  _=(E*p)*(y1-y0)*z*(w1*w0):=by rw[ep]
  _=_:=by grind
theorem wY{n:Nat}(hn:n=2\/n=3){fs:List (Int×Int)}(hf:fs.length=n)(F:Int){j:Nat}(hj:j<n):F*fR fs j*(fs.getD j (0,1)).2=F*eW fs*(fs.getD j (0,1)).1:=by
 rcases hn with rfl |rfl
 .match fs,hf,j,hj with
  |[u,v],_,0,_=>show F*(u.1*v.2)*u.2=F*(1*u.2*v.2)*u.1;grind
  |[u,v],_,1,_=>show F*(v.1*u.2)*v.2=F*(1*u.2*v.2)*v.1;grind
 .match fs,hf,j,hj with
  |[u,v,t],_,0,_=>show F*(u.1*(v.2*t.2))*u.2=F*(1*u.2*v.2*t.2)*u.1;grind
  |[u,v,t],_,1,_=>show F*(v.1*(u.2*t.2))*v.2=F*(1*u.2*v.2*t.2)*v.1;grind
  |[u,v,t],_,2,_=>show F*(t.1*(u.2*v.2))*t.2=F*(1*u.2*v.2*t.2)*t.1;grind
theorem Wk{α β:Type}(g:α->β):∀{L:List β}{xs:List α},L.Perm (xs.map g)->∃ys:List α,ys.Perm xs/\L=ys.map g
 |[],xs,h=>by
  have e:xs=[]:=ub.mp (by have:=h.length_eq;simpa using this.symm);exact⟨[],by rw[e],rfl⟩
 |a::L,xs,h=>by
  have ha:a∈xs.map g:=h.mem_iff.mp (by simp);obtain⟨x,hx,rfl⟩:=bj.mp ha;obtain⟨s,t,rfl⟩:=List.append_of_mem hx;have h2:(g x::L).Perm (g x::(s++t).map g):=h.trans (by
   rw[fe,az,fe];exact o8)
  obtain⟨ys,p,e⟩:=Wk g h2.cons_inv;exact⟨x::ys,(p.cons x).trans o8.symm,by rw[az,e]⟩
abbrev bJ(fs:List (Int×Int))(f y:AB):AB:=gG 1 f (eZ fs y)
def cS(y0 y:AB):AB:=au (· - ·) y y0
theorem xG{n:Nat}{A C:Nat->Int}{E:Int}{y xs:AB}{w:Int}(h:gC n A C E (y++[1]) (xs++[w])):∀j,j<n->xs.getD j 0*(E*1)=(A j*y.getD j 0+C j*1)*w:=by
 obtain⟨a,b,c,d,e1,e2,_,_,_,_,k⟩:=h;obtain⟨q1,q2⟩:=ue e1 rfl;obtain⟨q3,q4⟩:=ue e2 rfl;have q2:1=b:=by simpa using q2
 have q4:w=d:=by simpa using q4
 subst q1 q2 q3 q4;exact k
theorem E4{n:Nat}(hn:n=2\/n=3){fs:List (Int×Int)}(hf:fs.length=n)(h:∀u∈fs,Sp u){f:AB}(Gf:Gu n 100 f){y0 y:AB}(l0:y0.length=n)(b0:∀x∈y0,0<=x/\x<=2)(l1:y.length=n)(b1:∀x∈y,0<=x/\x<=2):∃v,(∀S,kY [.pv (tv (bJ fs f y)),.pv (tv (bJ fs f y0))] S=.ok (.pv v) S)/\∀S,jU [.pv v,.pv (.tup (fs.map fv))] S=.ok (.pv (tv (cS y0 y++[1]))) S:=by
 obtain⟨g0,a0⟩:=rG hn hf h Gf l0 λx hx=>by have:=b0 x hx;omega
 obtain⟨g1,a1⟩:=rG hn hf h Gf l1 λx hx=>by have:=b1 x hx;omega
 unfold bJ;obtain⟨x0,w0,e0,P0⟩:=g0;obtain⟨x1,w1,e1,P1⟩:=g1;rw[e0]at a0⊢;rw[e1]at a1⊢;have k0:=xG a0;have k1:=xG a1;obtain⟨zs,z,el,Q,hz⟩:=Bs hn P1 P0 (by decide) (by decide);have E0:0<f.getLastD 0*eW fs:=by
  obtain⟨fx,fw,rfl,FP⟩:=Gf;have:(fx++[fw]).getLastD 0=fw:=by simp
  rw[this];exact aj FP.pos (tK hn hf h).1
 have key:∀j,j<n->zs.getD j 0*(1*(fs.getD j (0,1)).2)=(y.getD j 0-y0.getD j 0)*(fs.getD j (0,1)).1*z:=λj hj=>Zq E0 P0.pos P1.pos (k0 j hj) (k1 j hj) (wY hn hf _ hj) (hz j hj);refine⟨_,el,λS=>?_⟩;have nC:∀{a b:Int},0<=a/\a<=2->0<=b/\b<=2->Fz (a-b,1)/\fr (a-b,(1:Int)).1 (a-b,(1:Int)).2=[(a-b,(1:Int)).1,(a-b,(1:Int)).2]:=λha hb=>⟨⟨by show(0:Int)<1;decide,(Bd.of (k:=7) (n:=4) (by show(_-_:Int).natAbs<=_;omega) (by decide)).mono (by decide),(show Bd 300 (1:Int) from(Bd.of (k:=7) (n:=1) (by decide) (by decide)).mono (by decide))⟩,Rf _⟩;rcases hn with rfl |rfl
 .match y,l1,y0,l0,b1,b0,key with
  |[a,b],_,[c,d],_,b1,b0,key=>
   have e:=Db (.inl rfl) Q (by decide) hf h (ab:=[(a-c,1),(b-d,1)]) rfl (λu hu=>by
    simp only[bo,cf,or_false]at hu;rcases hu with rfl |rfl
    .exact nC (b1 a (by simp)) (b0 c (by simp))
    .exact nC (b1 b (by simp)) (b0 d (by simp))) (λj hj=>by
    match j,hj with
    |0,_=>exact key 0 (by decide)
    |1,_=>exact key 1 (by decide)) S
   have q:cT [(a-c,(1:Int)),(b-d,1)]++[cB [(a-c,(1:Int)),(b-d,1)]]=cS [c,d] [a,b]++[1]:=by simp[cT,cB,cS]
   rw[q,sW]at e;exact e
 .match y,l1,y0,l0,b1,b0,key with
  |[a,b,t],_,[c,d,s],_,b1,b0,key=>
   have e:=Db (.inr rfl) Q (by decide) hf h (ab:=[(a-c,1),(b-d,1),(t-s,1)]) rfl (λu hu=>by
    simp only[bo,cf,or_false]at hu;rcases hu with rfl |rfl |rfl
    .exact nC (b1 a (by simp)) (b0 c (by simp))
    .exact nC (b1 b (by simp)) (b0 d (by simp))
    .exact nC (b1 t (by simp)) (b0 s (by simp))) (λj hj=>by
    match j,hj with
    |0,_=>exact key 0 (by decide)
    |1,_=>exact key 1 (by decide)
    |2,_=>exact key 2 (by decide)) S
   have q:cT [(a-c,(1:Int)),(b-d,1),(t-s,1)]++[cB [(a-c,(1:Int)),(b-d,1),(t-s,1)]]=cS [c,d,s] [a,b,t]++[1]:=by simp[cT,cB,cS]
   rw[q,sW]at e;exact e
theorem aab{n:Nat}(hn:n=2\/n=3){fs:List (Int×Int)}(hf:fs.length=n)(h:∀u∈fs,Sp u){f:AB}(Gf:Gu n 100 f){y0:AB}{ys:AE}(hy:∀y∈y0::ys,y.length=n/\∀x∈y,0<=x/\x<=2)(S:aG):rA [.pv (px ((y0::ys).map (bJ fs f))),.pv (.tup (fs.map fv))] S=.ok (.pv (px ((y0::ys).map λy=>cS y0 y++[1]))) S:=by
 have i0:aE (px ((y0::ys).map (bJ fs f))) (.int 0)=some (tv (bJ fs f y0)):=jX (j:=0) rfl;have ec:cF [] (gN 0) (aO jU [] (aB (aO kY [] (aB (aA 0) (aB (aC aE (aA 2) (mC (.int 0))) aD))) (aB (aA 1) aD))) ((y0::ys).map λy=>tv (bJ fs f y)) [none,some (.pv (.tup (fs.map fv))),some (.pv (px ((y0::ys).map (bJ fs f))))] S=.ok ((y0::ys).map λy=>tv (cS y0 y++[1])) S:=by
  refine kZ (iU S) (λy=>tv (bJ fs f y)) (λy=>tv (cS y0 y++[1])) (y0::ys) none λy hyy=>?_;obtain⟨v,e1,e2⟩:=E4 hn hf h Gf (hy y0 (by simp)).1 (hy y0 (by simp)).2 (hy y hyy).1 (hy y hyy).2;have e1:=e1 S;have e2:=e2 S;generalize PV.tup (fs.map fv)=G,tv (bJ fs f y0)=T0,tv (bJ fs f y)=T1,px ((y0::ys).map (bJ fs f))=PX,tv (cS y0 y++[1])=R at *;simp! [bB,aM,aN,aK,aL,aF,aJ,i0,e1,e2]
 have hp:px ((y0::ys).map (bJ fs f))=.tup ((y0::ys).map λy=>tv (bJ fs f y)):=by
  show PV.tup (((y0::ys).map (bJ fs f)).map tv)=_;rw[cg];rfl
 have hq:px ((y0::ys).map λy=>cS y0 y++[1])=.tup ((y0::ys).map λy=>tv (cS y0 y++[1])):=by
  show PV.tup (((y0::ys).map λy=>cS y0 y++[1]).map tv)=_;rw[cg];rfl
 rw[hp]at ec i0⊢;rw[hq];generalize PV.tup (fs.map fv)=G,((y0::ys).map λy=>tv (cS y0 y++[1]))=R,((y0::ys).map λy=>tv (bJ fs f y))=L at *;unfold rA aR Ab;simp! [bB,aM,aN,aK,aL,aF,aJ,aT,bZ,aY,bS,ec]
theorem Yx{G:Gd}{g:GM}{mb:MS}{ρ:bY}{S:aG}(h:fS G S):cM G g mb [] ρ S=.nx ρ S:=by rw[cM,if_pos h]
theorem Rx{G:Gd}{g:GM}{mb:MS}{x:PV}{r:AK}{ρ ρ1 ρ2:bY}{S S2:aG}(h:fS G S)(hg:g x ρ=some ρ1)(hm:mb ρ1 S=.nx ρ2 S2):cM G g mb (x::r) ρ S=cM G g mb r ρ2 S2:=by
 rw[cM,if_pos h,hg];dsimp only;rw[hm]
def cY(m M:Int):AB:=(aw (M+1-m).toNat).map λi:Nat=>m+(i:Int)
theorem abN(m M:Int):(cY m M).map PV.int=eG m (M+1-m).toNat:=by
 unfold cY eG;rw[cg];rfl
theorem Ob{m M c:Int}:c∈cY m M↔m<=c/\c<=M:=by
 unfold cY;rw[bj];constructor
 .rintro⟨i,hi,rfl⟩
  have:=ni.mp hi;omega
 .rintro⟨a,b⟩
  exact⟨(c-m).toNat,ni.mpr (by omega),by omega⟩
def iO(x w:Int)(cs:AB)(rows:AE):AE:=rows.flatMap λr=>cs.map λc=>r++[x+c*w]
abbrev zC:MS:=(pW 5 (aT ["cell"] [(6,"row"),(1,"p"),(3,"k")] (jJ (aB (mR oF (aB (aA 4) aD)) (aB (aC aF (mR rV (aB (aA 4) aD)) (mC (.int 1))) aD))) (gN 0) (aC iY (aA 1) (mN dP (aB (aC aF (aC aE (aA 2) (aA 3)) (aC aS (aA 0) (aC aE (aA 2) (bG bX (mC (.int 1)))))) aD)))))
structure Nb(N:AB)(m M:Int):Prop where
 mn:oF [.lst (N.map .int)]=some (.int m)
 mx:rV [.lst (N.map .int)]=some (.int M)
 lo:-8<=m/\m<=M/\M<=8
 sp:M-m<=2
theorem Y6{S:aG}{L:AK}{q N r:AB}{k x w m M:Int}(ix:aE (tv q) (.int k)=some (.int x))(iw:aE (tv q) (.int (-1))=some (.int w))(bw:Bd 1000 w)(hN:Nb N m M)(hr:r.length<=9)(hL:L.length<=900)(x0 x2:AM):zC [x0,some (.pv (tv q)),x2,some (.pv (.int k)),some (.pv (.lst (N.map .int))),some (.ref S.length),some (.pv (tv r))] (S++[.lst L])=.nx [x0,some (.pv (tv q)),x2,some (.pv (.int k)),some (.pv (.lst (N.map .int))),some (.ref S.length),some (.pv (tv r))] (S++[.lst (L++((cY m M).map λc=>r++[x+c*w]).map tv)]):=by
 have lo:=hN.lo;have lu:(cY m M).length<=17:=by unfold cY;rw[ak,gh];omega
 refine V8 rfl ?_ (by rw[ak,ak];omega);have ec:cF [] (gN 0) (aC iY (aA 1) (mN dP (aB (aC aF (aC aE (aA 2) (aA 3)) (aC aS (aA 0) (aC aE (aA 2) (bG bX (mC (.int 1)))))) aD))) ((cY m M).map PV.int) [none,some (.pv (tv r)),some (.pv (tv q)),some (.pv (.int k))] (S++[.lst L])=.ok ((cY m M).map λc=>tv (r++[x+c*w])) (S++[.lst L]):=by
  refine kZ (iU _) PV.int (λc=>tv (r++[x+c*w])) (cY m M) none λc hc=>?_;have hc:=Ob.mp hc;have mu:=cU (show Bd 7 c from Bd.of (n:=8) (by omega) (by decide)) bw;have ad:iY (tv r) (.tup [.int (x+c*w)])=some (tv (r++[x+c*w])):=by
   show(if(r.map PV.int).length+1<=16777216 then some (PV.tup (r.map PV.int++[.int (x+c*w)]))else none)=_;rw[if_pos (by rw[ak];omega)];show _=some (PV.tup ((r++[x+c*w]).map PV.int));rw[fe];rfl
  generalize S++[.lst L]=S1,tv r=T,tv q=Q,tv (r++[x+c*w])=R at *;simp! [bB,aM,aN,aK,aL,aF,aJ,ix,iw,mu,ad]
 have rg:uO [.pv (.int m),.pv (.int (M+1))] (S++[.lst L])=.ok ((cY m M).map PV.int,[]) (S++[.lst L]):=by
  show @ite _ _ (ql _) _ _=_;rw[if_pos ⟨⟨by omega,by omega,by omega,by omega⟩,by omega⟩,abN]
 have mn:=hN.mn;have mx:=hN.mx;rw[cg];have el:((cY m M).map λc=>tv (r++[x+c*w]))=(cY m M).map (tv∘λc=>r++[x+c*w]):=rfl;rw[el]at ec;generalize S++[.lst L]=S1,tv r=T,tv q=Q,N.map PV.int=NL,(cY m M).map PV.int=UL,(cY m M).map (tv∘λc=>r++[x+c*w])=RL at *;simp! [bB,aM,aN,aK,aL,aF,aJ,aT,bZ,jJ,mn,mx,rg,ec]
theorem Cn{S:aG}{q N:AB}{k x w m M:Int}{G:Gd}(hG:∀T,fS G (S++[T]))(ix:aE (tv q) (.int k)=some (.int x))(iw:aE (tv q) (.int (-1))=some (.int w))(bw:Bd 1000 w)(hN:Nb N m M)(x0 x2:AM):∀(rows L:AE)(x6:AM),(∀r∈rows,r.length<=9)->L.length+17*rows.length<=900->∃y6,cM G (gN 6) zC (rows.map tv) [x0,some (.pv (tv q)),x2,some (.pv (.int k)),some (.pv (.lst (N.map .int))),some (.ref S.length),x6] (S++[.lst (L.map tv)])=.nx [x0,some (.pv (tv q)),x2,some (.pv (.int k)),some (.pv (.lst (N.map .int))),some (.ref S.length),y6] (S++[.lst ((L++iO x w (cY m M) rows).map tv)])
 |[],L,x6,_,_=>⟨x6,by rw[show iO x w (cY m M) []=[] from rfl,jk];exact Yx (hG _)⟩
 |r::rows,L,x6,hr,hl=>by
  simp only[cu]at hl;have e1:=Y6 (S:=S) (L:=L.map tv) ix iw bw hN (hr r (by simp)) (by rw[ak];omega) x0 x2;have lo:=hN.lo;have lu:(cY m M).length<=17:=by unfold cY;rw[ak,gh];omega
  obtain⟨y6,e2⟩:=Cn hG ix iw bw hN x0 x2 rows (L++(cY m M).map λc=>r++[x+c*w]) (some (.pv (tv r))) (λt ht=>hr t (ax _ ht)) (by rw[ca,ak];omega);refine⟨y6,?_⟩;rw[az];rw[<-fe]at e1;rw[Rx (hG _) (ρ1:=[x0,some (.pv (tv q)),x2,some (.pv (.int k)),some (.pv (.lst (N.map .int))),some (.ref S.length),some (.pv (tv r))]) rfl e1,e2,jr];rfl
abbrev uV:MS:=(aI (aQ 4 (aT ["corner"] [(3,"k")] (aY (aA 0)) (gN 0) (aC aE (aA 0) (aA 1)))) (aI (aQ 5 (eC aD)) (aI (bR (aY (aA 2)) (gN 6) zC) (aQ 2 (aA 5)))))
def Rv(V:AV)(rows:AE)(S:aG):Prop:=∃G,(bS V S=.ok (rows.map tv,G) S/\fS G S)/\∀T,bS V (S++[T])=.ok (rows.map tv,G) (S++[T])/\fS G (S++[T])
theorem abt(S:aG)(rows:AE):Rv (.ref S.length) rows (S++[.lst (rows.map tv)]):=by
 have go:∀R:aG,R[S.length]?=some (.lst (rows.map tv))->bS (.ref S.length) R=.ok (rows.map tv,[(S.length,rows.map tv)]) R/\fS [(S.length,rows.map tv)] R:=λR e=>by
  refine⟨?_,λg hg=>?_⟩
  .show(match R[S.length]? with |some (.lst xs)=>cD.ok (xs,[(S.length,xs)]) _ |_=>.fail)=_
   rw[e]
  .rw[oy.mp hg]
   exact e
 exact⟨_,go _ (by simp),λT=>go _ (by simp)⟩
theorem Yj(x w:Int)(cs:AB):∀rows:AE,(iO x w cs rows).length=rows.length*cs.length
 |[]=>by simp[iO]
 |r::rows=>by
  have:=Yj x w cs rows;unfold iO at this⊢;rw[ir,ca,this,ak,cu,Nat.add_mul,Nat.one_mul,Nat.add_comm]
theorem G6{x w:Int}{cs:AB}{rows:AE}{t:AB}:t∈iO x w cs rows↔∃r∈rows,∃c∈cs,t=r++[x+c*w]:=by
 unfold iO;simp only[oz,bj];constructor
 .rintro⟨r,hr,c,hc,rfl⟩
  exact⟨r,hr,c,hc,rfl⟩
 .rintro⟨r,hr,c,hc,rfl⟩
  exact⟨r,hr,c,hc,rfl⟩
theorem adx{S:aG}{q:AB}{Y rows:AE}{V:AV}{k:Nat}{x w m M:Int}(hV:Rv V rows S)(hY:∀y∈Y,aE (tv y) (.int (k:Int))=some (.int (y.getD k 0)))(ix:aE (tv q) (.int (k:Int))=some (.int x))(iw:aE (tv q) (.int (-1))=some (.int w))(bw:Bd 1000 w)(hN:Nb (Y.map (·.getD k 0)) m M)(hr:∀r∈rows,r.length<=9)(hl:rows.length<=50)(x4 x5 x6:AM):∃y6,uV [some (.pv (px Y)),some (.pv (tv q)),some V,some (.pv (.int (k:Int))),x4,x5,x6] S=.nx [some (.pv (px Y)),some (.pv (tv q)),some (.ref S.length),some (.pv (.int (k:Int))),some (.pv (.lst ((Y.map (·.getD k 0)).map .int))),some (.ref S.length),y6] (S++[.lst ((iO x w (cY m M) rows).map tv)]):=by
 obtain⟨G,_,hG⟩:=hV;obtain⟨y6,e2⟩:=Cn (S:=S) (G:=G) (λT=>(hG T).2) ix iw bw hN (some (.pv (px Y))) (some V) rows [] x6 hr (by simp;omega);refine⟨y6,?_⟩;have ec:cF [] (gN 0) (aC aE (aA 0) (aA 1)) (Y.map tv) [none,some (.pv (.int (k:Int)))] S=.ok (Y.map λy=>.int (y.getD k 0)) S:=by
  refine kZ (iU S) tv (λy=>.int (y.getD k 0)) Y none λy hy=>?_;have e:=hY y hy;generalize (k:Int)=K,tv y=T at *;simp! [bB,aM,aN,aK,aL,aF,aJ,e]
 have em:(Y.map λy=>PV.int (y.getD k 0))=(Y.map (·.getD k 0)).map .int:=by rw[cg];rfl
 rw[em]at ec;have g1:=(hG (.lst [])).1;have hp:px Y=.tup (Y.map tv):=rfl;rw[gi]at e2;rw[cn]at e2;rw[hp]at e2⊢;unfold uV;clear hG hN hY ix iw;generalize (k:Int)=K,tv q=Q,(iO x w (cY m M) rows).map tv=EL,rows.map tv=RL,Y.map tv=YL,(Y.map (·.getD k 0)).map PV.int=NL,zC=SB at *;apply sq;simp! [bB,aM,aN,aK,aL,aF,aJ,aT,bZ,aY,bS,ec];exact⟨rfl,rfl⟩;apply sq;simp! [bB,aM,aN,aK,aL,aF,aJ,eC,iZ];exact⟨rfl,rfl⟩;refine sq (ρ':=[some (.pv (.tup YL)),some (.pv Q),some V,some (.pv (.int K)),some (.pv (.lst NL)),some (.ref S.length),y6]) (S':=S++[.lst EL]) ?_ ?_
 .simp! [bB,aM,aN,aK,aL,aF,aJ,bR,aY,g1,e2]
 .simp! [bB,aM,aN,aK,aL,aF,aJ]
def kB(q:AB)(w:Int)(m M:Nat->Int)(ks:List Nat)(rows:AE):AE:=ks.foldl (λrows k=>iO (q.getD k 0) w (cY (m k) (M k)) rows) rows
theorem Ps{q:AB}{Y:AE}{w:Int}{m M:Nat->Int}(iw:aE (tv q) (.int (-1))=some (.int w))(bw:Bd 1000 w):∀(ks:List Nat)(S:aG)(V:AV)(rows:AE)(b:Nat)(x3 x4 x5 x6:AM),Rv V rows S->(∀k∈ks,(∀y∈Y,aE (tv y) (.int (k:Int))=some (.int (y.getD k 0)))/\aE (tv q) (.int (k:Int))=some (.int (q.getD k 0))/\Nb (Y.map (·.getD k 0)) (m k) (M k))->(∀r∈rows,r.length<=b)->b+ks.length<=9->rows.length*3^ks.length<=50->∃(T:aG)(V':AV)(y3 y4 y5 y6:AM),cM [] (gN 3) uV (ks.map λk:Nat=>PV.int (k:Int)) [some (.pv (px Y)),some (.pv (tv q)),some V,x3,x4,x5,x6] S=.nx [some (.pv (px Y)),some (.pv (tv q)),some V',y3,y4,y5,y6] (S++T)/\Rv V' (kB q w m M ks rows) (S++T)/\(∀r∈kB q w m M ks rows,r.length<=b+ks.length)
 |[],S,V,rows,b,x3,x4,x5,x6,hV,_,hr,_,_=>⟨[],V,x3,x4,x5,x6,by rw[jk];exact eQ,by rw[jk];exact hV,hr⟩
 |k::ks,S,V,rows,b,x3,x4,x5,x6,hV,hk,hr,hb,hl=>by
  obtain⟨a1,a2,a3⟩:=hk k (by simp);simp only[cu]at hb;have p3:1<=3^ks.length:=Nat.one_le_pow _ _ (by decide);have hl2:rows.length*(3*3^ks.length)<=50:=by rw[cu,Nat.pow_succ,Nat.mul_comm (3^ks.length) 3]at hl;exact hl
  have hl3:rows.length<=50:=ee (Nat.le_mul_of_pos_right _ (by omega)) hl2;obtain⟨y6,e1⟩:=adx hV a1 a2 iw bw a3 (λr h=>ee (hr r h) (by omega)) hl3 x4 x5 x6;have lu:(cY (m k) (M k)).length<=3:=by
   have:=a3.lo;have:=a3.sp;unfold cY;rw[ak,gh];omega
  obtain⟨T,V',z3,z4,z5,z6,e2,v2,l2⟩:=Ps iw bw ks (S++[.lst ((iO (q.getD k 0) w (cY (m k) (M k)) rows).map tv)]) (.ref S.length) (iO (q.getD k 0) w (cY (m k) (M k)) rows) (b+1) (some (.pv (.int (k:Int)))) _ _ y6 (abt S _) (λj hj=>hk j (ax _ hj)) (λt ht=>by
   obtain⟨r,h1,c,_,rfl⟩:=G6.mp ht;have:=hr r h1;simp;omega) (by omega) (by
   rw[Yj];refine ee ?_ hl2;rw[<-Nat.mul_assoc];exact Nat.mul_le_mul_right _ (Nat.mul_le_mul_left _ lu))
  refine⟨[.lst ((iO (q.getD k 0) w (cY (m k) (M k)) rows).map tv)]++T,V',z3,z4,z5,z6,?_,?_,?_⟩
  .rw[az,dM]
   simp only[gN,cw,cj];rw[e1,<-jr];exact e2
  .rw[<-jr]
   exact v2
  .intro r h
   have:=l2 r h;simp only[cu];omega
theorem L7{n k:Nat}(hn:n=2\/n=3){xs:AB}{w:Int}(P:Pq n k xs w)(hk:k<=1000){Y:AE}{m M:Nat->Int}(hY:∀j,j<n->(∀y∈Y,aE (tv y) (.int (j:Int))=some (.int (y.getD j 0)))/\Nb (Y.map (·.getD j 0)) (m j) (M j))(S:aG):qR [.pv (px Y),.pv (tv (xs++[w]))] S=.ok (.pv (.lst (((kB (xs++[w]) w m M (aw n) [[]]).map (·++[w])).map tv))) S:=by
 have iL:=iQ xs w;have hx:∀j,j<n->aE (tv (xs++[w])) (.int (j:Int))=some (.int ((xs++[w]).getD j 0)):=λj hj=>by
  have hl:j<(xs++[w]).length:=by rw[ca,P.len];simp;omega
  refine jX ?_;rw[dk,cv,av hl];rfl
 have rv0:Rv (.pv (.lst [.tup []])) [[]] S:=⟨[],⟨rfl,iU _⟩,λT=>⟨rfl,iU _⟩⟩;obtain⟨T,V',y3,y4,y5,y6,e1,⟨G,⟨s1,s2⟩,_⟩,l1⟩:=Ps (q:=xs++[w]) (Y:=Y) (m:=m) (M:=M) iL (P.bw.mono hk) (aw n) S (.pv (.lst [.tup []])) [[]] 0 none none none none rv0 (λj hj=>by
  have hj:=ni.mp hj;exact⟨(hY j hj).1,hx j hj,(hY j hj).2⟩) (by simp) (by rw[gh];omega) (by rw[gh];rcases hn with rfl |rfl<;>decide)
 have ec:cF G (gN 0) (aC iY (aA 0) (mN dP (aB (aC aE (aA 1) (bG bX (mC (.int 1)))) aD))) ((kB (xs++[w]) w m M (aw n) [[]]).map tv) [none,some (.pv (.tup ((xs++[w]).map .int)))] (S++T)=.ok ((kB (xs++[w]) w m M (aw n) [[]]).map λr=>tv (r++[w])) (S++T):=by
  refine kZ s2 tv (λr=>tv (r++[w])) _ none λr hr=>?_;have lr:=l1 r hr;rw[gh]at lr;have ad:iY (tv r) (.tup [.int w])=some (tv (r++[w])):=by
   show(if(r.map PV.int).length+1<=16777216 then some (PV.tup (r.map PV.int++[.int w]))else none)=_;rw[if_pos (by rw[ak];omega)];show _=some (PV.tup ((r++[w]).map PV.int));rw[fe];rfl
  generalize (xs++[w]).map PV.int=Q,tv r=T,tv (r++[w])=R at *;simp! [bB,aM,aN,aK,aL,aF,aJ,iL,ad]
 have rg:=lZ S (n:=n) (by omega);rw[Dm]at rg;have ln:(((xs++[w]).map PV.int).length:Int)-1=(n:Int):=by
  rw[ak,ca,P.len];simp
 have hb:zL=(aI (aQ 2 (mN cN (aB (mN dP aD) aD))) (aI (bR (dC (aB (aC eV (mR fE (aB (aA 1) aD)) (mC (.int 1))) aD)) (gN 3) uV) (bC (aT ["row"] [(1,"p")] (aY (aA 2)) (gN 0) (aC iY (aA 0) (mN dP (aB (aC aE (aA 1) (bG bX (mC (.int 1)))) aD))))))):=rfl;have et:tv (xs++[w])=.tup ((xs++[w]).map .int):=rfl;rw[et]at e1⊢;rw[cg];have eq2:((kB (xs++[w]) w m M (aw n) [[]]).map λr=>tv (r++[w]))=(kB (xs++[w]) w m M (aw n) [[]]).map (tv∘(·++[w])):=rfl;rw[eq2]at ec;clear hY hx rv0 l1;unfold qR;rw[hb];generalize (n:Int)=N,px Y=PY,(xs++[w]).map PV.int=Q,((aw n).map λj:Nat=>PV.int (j:Int))=KL,(kB (xs++[w]) w m M (aw n) [[]]).map tv=RL,(kB (xs++[w]) w m M (aw n) [[]]).map (tv∘(·++[w]))=RR,uV=SK at *;apply rN (v:=.pv (.lst RR)) (S':=S++T) rfl
 .apply sq;simp! [bB,aM,aN,aK,aL,aF,aJ,fO];exact⟨rfl,rfl⟩
  refine sq (ρ':=[some (.pv PY),some (.pv (.tup Q)),some V',y3,y4,y5,y6]) (S':=S++T) ?_ ?_
  .simp! [bB,aM,aN,aK,aL,aF,aJ,bR,dC,ln,rg,e1]
  .simp! [bB,aM,aN,aK,aL,aF,aJ,aT,bZ,aY,s1,ec]
 .simp[iD]
def gW(N:AB):Int:=N.min?.getD 0
def gU(N:AB):Int:=N.max?.getD 0
theorem acx{N:AB}(h0:N≠[])(hb:∀x∈N,-8<=x/\x<=8)(hd:∀x∈N,∀y∈N,x-y<=2):Nb N (gW N) (gU N)/\(∀x∈N,gW N<=x/\x<=gU N):=by
 cases e1:N.min? with
 |none=>exact absurd (xt.mp e1) h0
 |some a=>
  cases e2:N.max? with
  |none=>exact absurd (xu.mp e2) h0
  |some b=>
   obtain⟨a1,a2⟩:=ow.mp e1;obtain⟨b1,b2⟩:=qp.mp e2;have k1:gW N=a:=by unfold gW;rw[e1];rfl
   have k2:gU N=b:=by unfold gU;rw[e2];rfl
   rw[k1,k2];refine⟨⟨?_,?_,⟨(hb a a1).1,a2 b b1,(hb b b1).2⟩,hd b b1 a a1⟩,λx hx=>⟨a2 x hx,b2 x hx⟩⟩
   .show(iB (N.map .int)).bind (λbs=>bs.min?.map PV.int)=_
    rw[qT];show N.min?.map PV.int=_;rw[e1];rfl
   .show(iB (N.map .int)).bind (λbs=>bs.max?.map PV.int)=_
    rw[qT];show N.max?.map PV.int=_;rw[e2];rfl
theorem Hc{n k:Nat}{xs:AB}{w:Int}(P:Pq n k xs w):Pq n k (xs.map (·.fmod w)) w:=by
 have w0:=P.pos;refine⟨by rw[ak,P.len],w0,Xa w0 P.low λd hd hy x hx=>?_,λy hy=>?_,P.bw⟩
 .have h1:=hy (x.fmod w) (bj.mpr ⟨x,hx,rfl⟩)
  have e:x=x.fmod w+w*x.fdiv w:=(p7 x w).symm;rw[e];exact Int.dvd_add h1 (Int.dvd_mul_of_dvd_left hd)
 .obtain⟨x,_,rfl⟩:=bj.mp hy
  rw[uf x (gr w0)];have h1:=zl x (dw w0);have h2:=Int.emod_lt_of_pos x w0;have bw:=P.bw;unfold Bd at bw⊢;omega
theorem Zr{n k:Nat}{xs:AB}{w:Int}(P:Pq n k xs w){zs:AB}(hl:zs.length=n)(hz:∀j,j<n->∃c:Int,-8<=c/\c<=8/\zs.getD j 0=xs.getD j 0+c*w):Pq n (k+5) zs w:=by
 have at_:∀{l:AB}{x:Int},x∈l->∃j,j<l.length/\l.getD j 0=x:=λ{l x} hx=>by
  obtain⟨j,hj,e⟩:=jx hx;exact⟨j,hj,by rw[cv,av hj];exact e⟩
 have mem_:∀{l:AB}{j:Nat},j<l.length->l.getD j 0∈l:=λ{l j} hj=>by
  rw[cv,av hj];exact di hj
 refine⟨hl,P.pos,Xa P.pos P.low λd hd hy x hx=>?_,λz hz'=>?_,P.bw.mono (by omega)⟩
 .obtain⟨j,hj,rfl⟩:=at_ hx
  rw[P.len]at hj;obtain⟨c,_,_,e⟩:=hz j hj;have h1:=hy _ (mem_ (l:=zs) (j:=j) (by omega));rw[e]at h1;have:=Int.dvd_sub h1 (Int.dvd_mul_of_dvd_right (b:=c) hd)
  rwa[xw]at this
 .obtain⟨j,hj,rfl⟩:=at_ hz'
  rw[hl]at hj;obtain⟨c,c1,c2,e⟩:=hz j hj;rw[e];have b1:=P.bx _ (mem_ (l:=xs) (j:=j) (by rw[P.len];exact hj));have b2:=(show Bd 4 c from Bd.of (n:=8) (by omega) (by decide)).mul P.bw;exact((b1.mono (show k<=k+4 by omega)).add (b2.mono (show 4+k<=k+4 by omega))).mono (by omega)
abbrev mZ:MS:=(lJ (λi j=>i+j) 4 (gM qV [] (aB (mN dP (aB (aA 6) aD)) (aB (aA 7) aD))))
theorem Yn{n:Nat}(hn:n=2\/n=3){Y:AE}(hY:Wx n 1000 Y)(S:aG)(x0 x1 x2 x3 x5:AM):∀(Z:AE)(c:Int)(x7:AM),(∀z∈Z,Gu n 1000 z)->
  ((∃z∈Z,bW Y z=0)/\cM [] (gN 7) mZ (Z.map tv) [x0,x1,x2,x3,some (.pv (.int c)),x5,some (.pv (px Y)),x7] S=.exc "OnSide" S)\/((∀z∈Z,bW Y z≠0)/\∃y7,cM [] (gN 7) mZ (Z.map tv) [x0,x1,x2,x3,some (.pv (.int c)),x5,some (.pv (px Y)),x7] S=.nx [x0,x1,x2,x3,some (.pv (.int (c+((Z.map λz=>bW Y z).count 1:Nat)))),x5,some (.pv (px Y)),y7] S)
 |[],c,x7,_=>.inr ⟨λ_ h=>absurd h cf,x7,by simp[eQ]⟩
 |z::Z,c,x7,hz=>by
  have e:=K5 hn (k:=1000) (by decide) (hz z (by simp)) S (hs:=[Y]) (A:=.tup [px Y]) (.inr rfl) (λu hu=>by rw[oy.mp hu];exact hY);rw[az,dM];simp only[gN,cw,cj];rcases e with⟨⟨u,hu,e0⟩,e⟩|⟨e0,e⟩
  .left
   rw[oy.mp hu]at e0;refine⟨⟨z,by simp,e0⟩,?_⟩;have st:mZ [x0,x1,x2,x3,some (.pv (.int c)),x5,some (.pv (px Y)),some (.pv (tv z))] S=.exc "OnSide" S:=by
    generalize px Y=P,tv z=T at *;unfold mZ;simp! [bB,aM,aN,aK,aL,aF,aJ,lJ,e]
   rw[st]
  .have e0:=e0 Y (by simp)
   have st:mZ [x0,x1,x2,x3,some (.pv (.int c)),x5,some (.pv (px Y)),some (.pv (tv z))] S=.nx [x0,x1,x2,x3,some (.pv (.int (c+(([Y].map λu=>bW u z).count 1:Nat)))),x5,some (.pv (px Y)),some (.pv (tv z))] S:=by
    generalize ((([Y].map λu=>bW u z).count 1:Nat):Int)=K,px Y=P,tv z=T at *;unfold mZ;simp! [bB,aM,aN,aK,aL,aF,aJ,lJ,yL,e]
   rw[st];have ek:((z::Z).map λz=>bW Y z).count 1=([Y].map λu=>bW u z).count 1+(Z.map λz=>bW Y z).count 1:=by
    rw[az,az,cn,xq,xq,List.count_nil];omega
   rcases Yn hn hY S x0 x1 x2 x3 x5 Z (c+(([Y].map λu=>bW u z).count 1:Nat)) (some (.pv (tv z))) (λy hy=>hz y (ax _ hy))with⟨⟨y,hy,q⟩,ih⟩|⟨q,y7,ih⟩
   .exact .inl ⟨⟨y,ax _ hy,q⟩,ih⟩
   .refine .inr ⟨λy hy=>?_,y7,?_⟩
    .rcases bo.mp hy with rfl |hy
     .exact e0
     .exact q y hy
    .dsimp only
     rw[ih,ek];have:c+((([Y].map λu=>bW u z).count 1:Nat):Int)+(((Z.map λz=>bW Y z).count 1:Nat):Int)=c+((([Y].map λu=>bW u z).count 1+(Z.map λz=>bW Y z).count 1:Nat):Int):=by omega
     rw[this]
structure Pc where
 f:AB
 a:AB
 r:AE
def Pc.ys(d:Pc):AE:=d.a::d.r
def Pc.Y(d:Pc):AE:=d.ys.map λy=>cS d.a y++[1]
def Pc.pv(fs:List (Int×Int))(d:Pc):PV:=px (d.ys.map (bJ fs d.f))
structure Pg(n:Nat)(d:Pc):Prop where
 f:Gu n 100 d.f
 len:d.ys.length=n+1
 ok:∀y∈d.ys,y.length=n/\∀x∈y,0<=x/\x<=2
def Pc.sp(n:Nat)(q:AB)(w:Int)(d:Pc):AE:=(kB (q++[w]) w (λj=>gW (d.Y.map (·.getD j 0))) (λj=>gU (d.Y.map (·.getD j 0))) (aw n) [[]]).map (·++[w])
theorem xB{n:Nat}{a y:AB}(ha:a.length=n)(hy:y.length=n){j:Nat}(hj:j<n):(cS a y++[1]).getD j 0=y.getD j 0-a.getD j 0/\(cS a y).length=n:=by
 have hl:(cS a y).length=n:=by unfold cS;rw[fg];omega
 refine⟨?_,hl⟩;rw[cv,fu (by omega),cv,cv];unfold cS;rw[qm,av (show j<y.length by omega),av (show j<a.length by omega)];rfl
theorem pS{l:AB}(h:∀x∈l,0<=x/\x<=2){j:Nat}(hj:j<l.length):0<=l.getD j 0/\l.getD j 0<=2:=by
 rw[cv,av hj];exact h _ (di hj)
theorem Pg.nb{n:Nat}{d:Pc}(h:Pg n d){j:Nat}(hj:j<n):(∀y∈d.Y,aE (tv y) (.int (j:Int))=some (.int (y.getD j 0)))/\Nb (d.Y.map (·.getD j 0)) (gW (d.Y.map (·.getD j 0))) (gU (d.Y.map (·.getD j 0)))/\∀x∈d.Y.map (·.getD j 0),gW (d.Y.map (·.getD j 0))<=x/\x<=gU (d.Y.map (·.getD j 0)):=by
 have ha:=h.ok d.a (by simp[Pc.ys]);have hN:∀x∈d.Y.map (·.getD j 0),∃y∈d.ys,x=y.getD j 0-d.a.getD j 0:=λx hx=>by
  obtain⟨z,hz,rfl⟩:=bj.mp hx;obtain⟨y,hy,rfl⟩:=bj.mp hz;exact⟨y,hy,(xB ha.1 (h.ok y hy).1 hj).1⟩
 have ba:=pS ha.2 (j:=j) (by omega);refine⟨λy hy=>?_,acx ?_ (λx hx=>?_) (λx hx x' hx'=>?_)⟩
 .obtain⟨z,hz,rfl⟩:=bj.mp hy
  have hl:=(xB ha.1 (h.ok z hz).1 hj).2;have hl:j<(cS d.a z++[1]).length:=by rw[ca,hl];simp;omega
  refine jX ?_;rw[dk,cv,av hl];rfl
 .intro e
  have:=congrArg kb e;unfold Pc.Y at this;rw[ak,ak,h.len]at this;simp at this
 .obtain⟨y,hy,rfl⟩:=hN x hx
  have:=pS (h.ok y hy).2 (j:=j) (by have:=(h.ok y hy).1;omega);omega
 .obtain⟨y,hy,rfl⟩:=hN x hx
  obtain⟨y',hy',rfl⟩:=hN x' hx';have:=pS (h.ok y hy).2 (j:=j) (by have:=(h.ok y hy).1;omega);have:=pS (h.ok y' hy').2 (j:=j) (by have:=(h.ok y' hy').1;omega);omega
theorem Pg.wx{n:Nat}{d:Pc}(h:Pg n d):Wx n 7 d.Y:=by
 have ha:=h.ok d.a (by simp[Pc.ys]);refine⟨by unfold Pc.Y;rw[ak,h.len],λz hz=>?_⟩;obtain⟨y,hy,rfl⟩:=bj.mp hz;have hy':=h.ok y hy;have hl:(cS d.a y).length=n:=by unfold cS;rw[fg];omega
 refine⟨cS d.a y,1,rfl,hl,by decide,sW,λx hx=>?_,Bd.of (n:=1) (by decide) (by decide)⟩;obtain⟨j,hj,rfl⟩:=jx hx;have b1:=hy'.2 _ (di (show j<y.length by omega));have b2:=ha.2 _ (di (show j<d.a.length by omega));have e:(cS d.a y)[j]'hj=y[j]'(by omega)-d.a[j]'(by omega):=qq ..;rw[e];exact Bd.of (n:=4) (by omega) (by decide)
def jL:AE->AE
 |[]=>[[]]
 |L::Ls=>L.flatMap λc=>(jL Ls).map (c:: ·)
theorem rD:∀{Ls:AE}{t:AB},t∈jL Ls↔t.length=Ls.length/\∀i,i<Ls.length->t.getD i 0∈Ls.getD i []
 |[],t=>by
  unfold jL;rw[oy];constructor
  .rintro rfl
   exact⟨rfl,λi hi=>absurd hi (p8 i)⟩
  .rintro⟨h,_⟩
   exact ub.mp h
 |L::Ls,t=>by
  unfold jL;rw[oz];constructor
  .rintro⟨c,hc,h⟩
   obtain⟨s,hs,rfl⟩:=bj.mp h;obtain⟨h1,h2⟩:=rD.mp hs;refine⟨by simp[h1],λi hi=>?_⟩;cases i with
   |zero=>simpa using hc
   |succ i=>simpa using h2 i (by simpa using hi)
  .rintro⟨h1,h2⟩
   match t,h1 with
   |c::s,h1=>
    refine⟨c,by simpa using h2 0 (by simp),bj.mpr ⟨s,rD.mpr ⟨by simpa using h1,λi hi=>?_⟩,rfl⟩⟩;simpa using h2 (i+1) (by simpa using hi)
theorem wF{α β:Type}{f g:α->List β}:∀{l:List α},(∀a∈l,f a=g a)->l.flatMap f=l.flatMap g
 |[],_=>rfl
 |a::l,h=>by rw[ir,ir,h a (by simp),wF λb hb=>h b (ax _ hb)]
theorem Aj(q:AB)(w:Int)(m M:Nat->Int):∀(ks:List Nat)(rows:AE),kB q w m M ks rows=rows.flatMap λr=>(jL (ks.map λk=>cY (m k) (M k))).map λt=>r++au (λk c=>q.getD k 0+c*w) ks t
 |[],rows=>by
  show rows=_;simp[jL]
 |k::ks,rows=>by
  show kB q w m M ks (iO (q.getD k 0) w (cY (m k) (M k)) rows)=_;rw[Aj q w m M ks];unfold iO;rw[List.flatMap_assoc];refine wF λr _=>?_;rw[az,jL,q9,t5];refine wF λc _=>?_;rw[cg];refine eh λs _=>?_;simp
def Pc.rs(n:Nat)(d:Pc):AE:=(aw n).map λj=>cY (gW (d.Y.map (·.getD j 0))) (gU (d.Y.map (·.getD j 0)))
def oO(n:Nat)(q:AB)(w:Int)(t:AB):AB:=au (λk c=>q.getD k 0+c*w) (aw n) t++[w]
theorem uJ(n:Nat)(q:AB)(w:Int)(d:Pc):d.sp n q w=(jL (d.rs n)).map (oO n (q++[w]) w):=by
 unfold Pc.sp;rw[Aj,ir,List.flatMap_nil,jk,cg];rfl
theorem abn{n:Nat}{q:AB}{w:Int}{t:AB}(hq:q.length=n)(ht:t.length=n):(au (λk c=>(q++[w]).getD k 0+c*w) (aw n) t).length=n/\∀j,j<n->(au (λk c=>(q++[w]).getD k 0+c*w) (aw n) t).getD j 0=q.getD j 0+t.getD j 0*w:=by
 refine⟨by rw[fg,gh];omega,λj hj=>?_⟩;rw[cv,qm,av (show j<(aw n).length by rw[gh];exact hj),av (show j<t.length by omega),xx];show(q++[w]).getD j 0+t[j]*w=_;rw[cv,fu (by omega),<-cv,cv (l:=t),av (show j<t.length by omega)];rfl
theorem acH{n k:Nat}{q:AB}{w:Int}(P:Pq n k q w)(hk:k<=900){d:Pc}(hd:Pg n d):∀z∈d.sp n q w,Gu n 1000 z:=λz hz=>by
 rw[uJ]at hz;obtain⟨t,ht,rfl⟩:=bj.mp hz;obtain⟨h1,h2⟩:=rD.mp ht;have hl:(d.rs n).length=n:=by unfold Pc.rs;rw[ak,gh]
 rw[hl]at h1 h2;obtain⟨l1,l2⟩:=abn (w:=w) P.len h1;refine Gu.mono (k:=k+5) ⟨_,w,rfl,Zr P l1 λj hj=>?_⟩ (by omega);have h3:=h2 j hj;have e:(d.rs n).getD j []=cY (gW (d.Y.map (·.getD j 0))) (gU (d.Y.map (·.getD j 0))):=by
  unfold Pc.rs;rw[cv,dk,av (show j<(aw n).length by rw[gh];exact hj),xx];rfl
 rw[e]at h3;have h4:=Ob.mp h3;have h5:=(hd.nb hj).2.1.lo;exact⟨t.getD j 0,by omega,by omega,l2 j hj⟩
abbrev nE:MS:=(aI (aQ 6 (aO rA [] (aB (aA 5) (aB (aA 1) aD)))) (bR (aY (aO qR [] (aB (aA 6) (aB (aA 3) aD)))) (gN 7) mZ))
theorem P9{n k:Nat}(hn:n=2\/n=3){fs:List (Int×Int)}(hf:fs.length=n)(h:∀u∈fs,Sp u){q:AB}{w:Int}(P:Pq n k q w)(hk:k<=900){d:Pc}(hd:Pg n d)(S:aG)(c:Int)(x0 x2 x6 x7:AM):
  ((∃z∈d.sp n q w,bW d.Y z=0)/\nE [x0,some (.pv (.tup (fs.map fv))),x2,some (.pv (tv (q++[w]))),some (.pv (.int c)),some (.pv (d.pv fs)),x6,x7] S=.exc "OnSide" S)\/((∀z∈d.sp n q w,bW d.Y z≠0)/\∃y6 y7,nE [x0,some (.pv (.tup (fs.map fv))),x2,some (.pv (tv (q++[w]))),some (.pv (.int c)),some (.pv (d.pv fs)),x6,x7] S=.nx [x0,some (.pv (.tup (fs.map fv))),x2,some (.pv (tv (q++[w]))),some (.pv (.int (c+(((d.sp n q w).map λz=>bW d.Y z).count 1:Nat)))),some (.pv (d.pv fs)),y6,y7] S):=by
 have e1:rA [.pv (d.pv fs),.pv (.tup (fs.map fv))] S=.ok (.pv (px d.Y)) S:=aab hn hf h hd.f hd.ok S;have e2:qR [.pv (px d.Y),.pv (tv (q++[w]))] S=.ok (.pv (.lst ((d.sp n q w).map tv))) S:=L7 hn P (by omega) (λj hj=>⟨(hd.nb hj).1,(hd.nb hj).2.1⟩) S;have wx:=hd.wx;have L:=Yn hn (Y:=d.Y) ⟨wx.len,λu hu=>(wx.gu u hu).mono (by decide)⟩ S x0 (some (.pv (.tup (fs.map fv)))) x2 (some (.pv (tv (q++[w])))) (some (.pv (d.pv fs))) (d.sp n q w) c x7 (acH P hk hd);generalize (((d.sp n q w).map λz=>bW d.Y z).count 1:Nat)=K at *;have st:∀r,cM [] (gN 7) mZ ((d.sp n q w).map tv) [x0,some (.pv (.tup (fs.map fv))),x2,some (.pv (tv (q++[w]))),some (.pv (.int c)),some (.pv (d.pv fs)),some (.pv (px d.Y)),x7] S=r->nE [x0,some (.pv (.tup (fs.map fv))),x2,some (.pv (tv (q++[w]))),some (.pv (.int c)),some (.pv (d.pv fs)),x6,x7] S=r:=λr hr=>by
  clear L wx;generalize tv (q++[w])=Q,PV.tup (fs.map fv)=G,d.pv fs=PD,px d.Y=PY,(d.sp n q w).map tv=ZL at *;unfold nE;generalize mZ=LB at *;apply sq;simp! [bB,aM,aN,aK,aL,aF,aJ,e1];exact⟨rfl,rfl⟩;simp! [bB,aM,aN,aK,aL,aF,aJ,bR,aY,bS,e2,hr]
 rcases L with⟨a,b⟩|⟨a,y7,b⟩
 .exact .inl ⟨a,st _ b⟩
 .exact .inr ⟨a,_,y7,st _ b⟩
theorem Ho{n k:Nat}(hn:n=2\/n=3){fs:List (Int×Int)}(hf:fs.length=n)(h:∀u∈fs,Sp u){q:AB}{w:Int}(P:Pq n k q w)(hk:k<=900)(S:aG)(x0 x2:AM):∀(ds:List Pc)(c:Int)(x5 x6 x7:AM),(∀d∈ds,Pg n d)->
  ((∃d∈ds,∃z∈d.sp n q w,bW d.Y z=0)/\cM [] (gN 5) nE (ds.map (Pc.pv fs)) [x0,some (.pv (.tup (fs.map fv))),x2,some (.pv (tv (q++[w]))),some (.pv (.int c)),x5,x6,x7] S=.exc "OnSide" S)\/((∀d∈ds,∀z∈d.sp n q w,bW d.Y z≠0)/\∃y5 y6 y7,cM [] (gN 5) nE (ds.map (Pc.pv fs)) [x0,some (.pv (.tup (fs.map fv))),x2,some (.pv (tv (q++[w]))),some (.pv (.int c)),x5,x6,x7] S=.nx [x0,some (.pv (.tup (fs.map fv))),x2,some (.pv (tv (q++[w]))),some (.pv (.int (c+((ds.map λd=>((d.sp n q w).map λz=>bW d.Y z).count 1).sum:Nat)))),y5,y6,y7] S)
 |[],c,x5,x6,x7,_=>.inr ⟨λ_ h=>absurd h cf,x5,x6,x7,by simp[eQ]⟩
 |d::ds,c,x5,x6,x7,hd=>by
  rw[az,dM];simp only[gN,cw,cj];rcases P9 hn hf h P hk (hd d (by simp)) S c x0 x2 x6 x7 with⟨a,e⟩|⟨a,y6,y7,e⟩
  .rw[e]
   exact .inl ⟨⟨d,by simp,a⟩,rfl⟩
  .rw[e]
   dsimp only;rcases Ho hn hf h P hk S x0 x2 ds (c+(((d.sp n q w).map λz=>bW d.Y z).count 1:Nat)) (some (.pv (d.pv fs))) y6 y7 (λy hy=>hd y (ax _ hy))with⟨⟨b,hb,q⟩,ih⟩|⟨q',z5,z6,z7,ih⟩
   .exact .inl ⟨⟨b,ax _ hb,q⟩,ih⟩
   .refine .inr ⟨λy hy=>?_,z5,z6,z7,?_⟩
    .rcases bo.mp hy with rfl |hy
     .exact a
     .exact q' y hy
    .rw[ih,az,kj]
     generalize (((d.sp n q w).map λz=>bW d.Y z).count 1:Nat)=K1;generalize ((ds.map λd=>((d.sp n q w).map λz=>bW d.Y z).count 1).sum:Nat)=K2;have:c+(K1:Int)+(K2:Int)=c+((K1+K2:Nat):Int):=by omega
     rw[this]
theorem Yi{n k:Nat}(hn:n=2\/n=3){fs:List (Int×Int)}(hf:fs.length=n)(h:∀u∈fs,Sp u){xs:AB}{w:Int}(P:Pq n k xs w)(hk:k<=900){th:PV}(S:aG)(eS:jU [.pv th,.pv (.tup (fs.map fv))] S=.ok (.pv (tv (xs++[w]))) S){A:PV}{ds:List Pc}(hA:Sv A (ds.map (Pc.pv fs)))(hd:∀d∈ds,Pg n d):
  ((∃d∈ds,∃z∈d.sp n (xs.map (·.fmod w)) w,bW d.Y z=0)/\nM [.pv A,.pv (.tup (fs.map fv)),.pv th] S=.exc "OnSide" S)\/((∀d∈ds,∀z∈d.sp n (xs.map (·.fmod w)) w,bW d.Y z≠0)/\nM [.pv A,.pv (.tup (fs.map fv)),.pv th] S=.ok (.pv (.int ((ds.map λd=>((d.sp n (xs.map (·.fmod w)) w).map λz=>bW d.Y z).count 1).sum:Nat))) S):=by
 have e1:=Z8 (n:=n) (by omega) P S;have L:=Ho hn hf h (Hc P) hk S (some (.pv A)) (some (.pv th)) ds 0 none none none hd;have hb:tG=(aI (aQ 3 (aO sK [] (aB (aO jU [] (aB (aA 2) (aB (aA 1) aD))) aD))) (aI (aQ 4 (mC (.int 0))) (aI (bR (aY (aA 0)) (gN 5) nE) (bC (aA 4))))):=rfl;have tk:S.take S.length=S:=by simp
 rw[oj]at L;generalize (((ds.map λd=>((d.sp n (xs.map (·.fmod w)) w).map λz=>bW d.Y z).count 1).sum:Nat):Int)=K at *;unfold nM aR;rw[hb];clear hb;rcases L with⟨a,e⟩|⟨a,y5,y6,y7,e⟩
 .refine .inl ⟨a,?_⟩
  clear a;generalize tv (xs++[w])=Q,tv (xs.map (·.fmod w)++[w])=NQ,PV.tup (fs.map fv)=G,ds.map (Pc.pv fs)=DL,nE=LB at *;rcases hA with rfl |rfl<;>simp! [bB,aM,aN,aK,aL,aF,aJ,eS,e1,bR,aY,bS,e]
 .refine .inr ⟨a,?_⟩
  clear a;generalize tv (xs++[w])=Q,tv (xs.map (·.fmod w)++[w])=NQ,PV.tup (fs.map fv)=G,ds.map (Pc.pv fs)=DL,nE=LB at *;rcases hA with rfl |rfl<;>simp! [bB,aM,aN,aK,aL,aF,aJ,eS,e1,bR,aY,bS,e]
theorem Ir{d:Int}:(sg d<0↔d<0)/\(sg d=0↔d=0):=by
 rcases sgf d with⟨x,y⟩|⟨x,y⟩|⟨x,y⟩<;>omega
def iP:AB->AB->AB
 |[a,b],[x,y,w]=>[x+a*w,y+b*w,w]
 |[a,b,c],[x,y,z,w]=>[x+a*w,y+b*w,z+c*w,w]
 |_,z=>z
theorem act(a b x0 y0 w0 x1 y1 w1 x2 y2 w2:Int):D2 (x0+a*w0) (y0+b*w0) w0 (x1+a*w1) (y1+b*w1) w1 (x2+a*w2) (y2+b*w2) w2=D2 x0 y0 w0 x1 y1 w1 x2 y2 w2:=by
 unfold D2;grind
theorem acX(a b c x0 y0 z0 w0 x1 y1 z1 w1 x2 y2 z2 w2 x3 y3 z3 w3:Int):D3 (x0+a*w0) (y0+b*w0) (z0+c*w0) w0 (x1+a*w1) (y1+b*w1) (z1+c*w1) w1 (x2+a*w2) (y2+b*w2) (z2+c*w2) w2 (x3+a*w3) (y3+b*w3) (z3+c*w3) w3=D3 x0 y0 z0 w0 x1 y1 z1 w1 x2 y2 z2 w2 x3 y3 z3 w3:=by
 unfold D3;grind
theorem abV{n:Nat}(hn:n=2\/n=3){a:AB}(ha:a.length=n){M:AE}(hl:M.length=n+1)(hM:∀z∈M,z.length=n+1):dU (M.map (iP a))=dU M:=by
 rcases hn with rfl |rfl
 .match a,ha,M,hl with
  |[a,b],_,[p,q,r],_=>
   match p,hM p (by simp),q,hM q (by simp),r,hM r (by simp)with
   |[x0,y0,w0],_,[x1,y1,w1],_,[x2,y2,w2],_=>exact act a b x0 y0 w0 x1 y1 w1 x2 y2 w2
 .match a,ha,M,hl with
  |[a,b,c],_,[p,q,r,s],_=>
   match p,hM p (by simp),q,hM q (by simp),r,hM r (by simp),s,hM s (by simp)with
   |[x0,y0,z0,w0],_,[x1,y1,z1,w1],_,[x2,y2,z2,w2],_,[x3,y3,z3,w3],_=>exact acX a b c x0 y0 z0 w0 x1 y1 z1 w1 x2 y2 z2 w2 x3 y3 z3 w3
theorem adf{n:Nat}(hn:n=2\/n=3){d:Pc}(hd:Pg n d):d.Y.map (iP d.a)=d.ys.map (·++[1]):=by
 unfold Pc.Y;rw[cg];refine eh λy hy=>?_;have ha:=(hd.ok d.a (by simp[Pc.ys])).1;have hy:=(hd.ok y hy).1;show iP d.a (cS d.a y++[1])=y++[1];generalize d.a=a at *;rcases hn with rfl |rfl
 .match a,ha,y,hy with
  |[a,b],_,[c,e],_=>simp[iP,cS]
 .match a,ha,y,hy with
  |[a,b,g],_,[c,e,h],_=>simp[iP,cS]
theorem Y4{n:Nat}(hn:n=2\/n=3){a z:AB}(ha:a.length=n){M:AE}(hl:M.length=n+1)(hM:∀u∈M,u.length=n+1)(hz:z.length=n+1):gF (M.map (iP a)) (iP a z)=gF M z:=by
 unfold gF;rw[ak];refine eh λj _=>?_;rw[<-xp,abV hn ha (by rw[il,hl]) (λu hu=>by
  rcases o6 hu with h |h
  .exact hM u h
  .rw[h];exact hz)]
theorem Z9{n k:Nat}(hn:n=2\/n=3){L M:AE}{q:AB}(hp:M.Perm L)(hl:L.length=n+1)(hg:∀us∈L,Gu n k us)(hq:Gu n 1000 q)(pM:0<dU M):bW M q=jE (Fs q L) 1:=by
 have s1:sg (dU M)=1:=by
  unfold sg;rw[if_pos pM]
 have ef:Fs q M=gF M q:=by
  unfold Fs gF;rw[s1];simp
 have pm:(Fs q L).Perm (Fs q M):=aaa hn hq.pt hp.symm [] (λus hu=>(hg us (by simpa using hu)).pt) (by simpa using hl);rw[ef]at pm;have ne1:Fs q L≠[]:=λz=>by
  have:=congrArg kb z;unfold Fs at this;rw[ak,gh,hl]at this;cases this
 have m1:=Bc ne1 (Fs3 q L);have ne2:gF M q≠[]:=λz=>by
  rw[z]at pm;exact ne1 pm.eq_nil
 have m2:=Bc ne2 (λs hs=>by
  unfold gF at hs;obtain⟨j,_,rfl⟩:=bj.mp hs;exact yS _)
 have m3:(gF M q).min?=some (jE (Fs q L) 1):=by
  rw[ow]at m1⊢;exact⟨pm.mem_iff.mp m1.1,λb hb=>m1.2 b (pm.mem_iff.mpr hb)⟩
 rw[m2]at m3;exact cc m3
theorem X9{n:Nat}(hn:n=2\/n=3){fs:List (Int×Int)}(hf:fs.length=n)(h:∀u∈fs,Sp u){f:AB}(Gf:Gu n 100 f){ys:AE}(hl:ys.length=n+1)(hy:∀y∈ys,y.length=n/\∀x∈y,0<=x/\x<=2)(pos:0<dU (ys.map (bJ fs f))):0<dU (ys.map (·++[1])):=by
 have af:∀y∈ys,Gu n 201 (bJ fs f y)/\gC n (λj=>f.getLastD 0*fR fs j) (λj=>f.getD j 0*eW fs) (f.getLastD 0*eW fs) (y++[1]) (bJ fs f y):=λy hyy=>rG hn hf h Gf (hy y hyy).1 λx hx=>by have:=(hy y hyy).2 x hx;omega
 have p2:0<wU (ys.map (bJ fs f)):=pQ λu hu=>by
  obtain⟨y,hyy,rfl⟩:=bj.mp hu;exact(af y hyy).1
 obtain⟨pe,pa⟩:=tK hn hf h;have F0:0<f.getLastD 0:=by
  obtain⟨fx,fw,rfl,FP⟩:=Gf;have:(fx++[fw]).getLastD 0=fw:=by simp
  rw[this];exact FP.pos
 have go:∀{a b c d:Int},0<a->0<b->0<c->0<d->∀x:Int,a*b=c*x*d->0<x:=λ{a b c d} h1 h2 h3 h4 x e=>by
  have h5:=aj h1 h2;rw[e]at h5
  by_cases h6:0<x
  .exact h6
  .have h7:c*x<=0:=t6 (gr h3) (by omega)
   have h8:c*x*d<=0:=Int.mul_nonpos_of_nonpos_of_nonneg h7 (gr h4);omega
 have w1:∀y:AB,(y++[1]).getLastD 0=1:=λy=>by simp
 have eF:=aj F0 pe;rcases hn with rfl |rfl
 .obtain⟨a,b,c,rfl⟩:∃a b c,ys=[a,b,c]:=by
   match ys,hl with
   |[a,b,c],_=>exact⟨_,_,_,rfl⟩
  have e:=yJ (af a (by simp)).2 (af b (by simp)).2 (af c (by simp)).2;have pw:0<wU [a++[1],b++[1],c++[1]]:=by simp only[wU,w1];decide
  exact go pos (aj (aj (aj eF eF) eF) pw) (aj (aj (aj F0 (pa 0 (by decide))) (aj F0 (pa 1 (by decide)))) eF) p2 _ e
 .obtain⟨a,b,c,d,rfl⟩:∃a b c d,ys=[a,b,c,d]:=by
   match ys,hl with
   |[a,b,c,d],_=>exact⟨_,_,_,_,rfl⟩
  have e:=Se (af a (by simp)).2 (af b (by simp)).2 (af c (by simp)).2 (af d (by simp)).2;have pw:0<wU [a++[1],b++[1],c++[1],d++[1]]:=by simp only[wU,w1];decide
  exact go pos (aj (aj (aj (aj eF eF) eF) eF) pw) (aj (aj (aj (aj F0 (pa 0 (by decide))) (aj F0 (pa 1 (by decide)))) (aj F0 (pa 2 (by decide)))) eF) p2 _ e
theorem C5{n:Nat}{a b:AB}(ha:a.length=n)(hb:b.length=n)(h:∀j,j<n->a.getD j 0=b.getD j 0):a=b:=by
 refine tx (by omega) λj h1 h2=>?_;have:=h j (by omega);rw[cv,cv,av h1,av h2]at this;exact this
theorem Fq{N:AB}(h0:N≠[]):gW N∈N/\gU N∈N:=by
 cases e1:N.min? with
 |none=>exact absurd (xt.mp e1) h0
 |some a=>
  cases e2:N.max? with
  |none=>exact absurd (xu.mp e2) h0
  |some b=>
   have k1:gW N=a:=by unfold gW;rw[e1];rfl
   have k2:gU N=b:=by unfold gU;rw[e2];rfl
   rw[k1,k2];exact⟨(ow.mp e1).1,(qp.mp e2).1⟩
theorem Vr{f:Int->Int->Int}{a b:AB}{n:Nat}(ha:a.length=n)(hb:b.length=n){j:Nat}(hj:j<n):(au f a b).getD j 0=f (a.getD j 0) (b.getD j 0):=by
 rw[cv,qm,cv,cv,av (show j<a.length by omega),av (show j<b.length by omega)];rfl
structure Pl(n:Nat)(p:Pc×AE):Prop where
 g:Pg n p.1
 pm:p.1.ys.Perm p.2
 ps:0<dU (p.1.ys.map (·++[1]))
 nz:dU (p.2.map (·++[1]))≠0
theorem adl{n:Nat}(hn:n=2\/n=3)(ns:AB){fs:List (Int×Int)}(hf:fs.length=n)(h:∀u∈fs,Sp u)(GL:AK)(hg:GL.length<=99){xss:AE}(w:Rw n xss)(x1 x5:AM):∃(d:Pc)(ns':AB)(y5:AM),lB [some (.ref 0),x1,some (.pv (.lst (fs.map fv))),some (.ref 1),some (.pv (bH xss)),x5] [.lst (li ns),.lst GL]=.nx [some (.ref 0),x1,some (.pv (.lst (fs.map fv))),some (.ref 1),some (.pv (bH xss)),y5] [.lst (li ns'),.lst (GL++[d.pv fs])]/\Pl n (d,xss):=by
 have hr:fZ [.lst (li ns),.lst GL] 0 ns:=rfl;obtain⟨v,n1,e1,G⟩:=adV n hn hr;simp only[cj]at e1;have e1:nV [.ref 0,.pv (.int (n:Int))] [.lst (li ns),.lst GL]=.ok (.pv v) [.lst (li n1),.lst GL]:=e1;obtain⟨ys,y,rfl,P⟩:=G;have Gf:Gu n 100 (ys++[y]):=⟨ys,y,rfl,P⟩;generalize ys++[y]=f at *;clear P y ys;have sp:=λS xs (hx:xs∈xss)=>wN hn S hf h (w.l xs hx) (λy hy=>by have:=w.b xs hx y hy;omega);have gu:∀us∈xss.map (eZ fs),Gu n 100 us:=λus hu=>by
  obtain⟨xs,hx,rfl⟩:=bj.mp hu;exact(sp [] xs hx).2.1
 have hl:(xss.map (eZ fs)).length=n+1:=by rw[ak];exact w.len
 have nz2:=ac3 hn (way:=1) (.inl rfl) hl gu Gf (L4 hn hf h w);have gu2:=Wc (way:=1) (.inl rfl) gu Gf;have l2:((xss.map (eZ fs)).map (gG 1 f)).length=n+1:=by rw[ak];exact hl
 have eL:(xss.map (eZ fs)).map (gG 1 f)=xss.map (bJ fs f):=by rw[cg];rfl
 have cp:=E1 (Ks hn l2);have cd:=aaX hn (k:=100+100+1) (by decide) l2 gu2;have es:=Aw (uss:=(xss.map (eZ fs)).map (gG 1 f)) (A:=.lst (((xss.map (eZ fs)).map (gG 1 f)).map tv)) hn [.lst (li n1),.lst GL] l2 (λus hu=>(gu2 us hu).mono (by decide)) (.inl rfl);rw[eL]at cp cd nz2 es;obtain⟨zs,pz,ez⟩:=Wk (bJ fs f) cp;obtain⟨a,r,rfl⟩:∃a r,zs=a::r:=by
  have:=pz.length_eq;rw[w.len]at this
  match zs,this with
  |a::r,_=>exact⟨a,r,rfl⟩
 have ok:∀y∈a::r,y.length=n/\∀x∈y,0<=x/\x<=2:=λy hy=>⟨w.l y (pz.mem_iff.mp hy),w.b y (pz.mem_iff.mp hy)⟩;have ln1:(a::r).length=n+1:=by rw[pz.length_eq];exact w.len
 have pos:0<dU ((a::r).map (bJ fs f)):=by rw[<-ez,cd];omega
 refine⟨⟨f,a,r⟩,n1,some (.pv (tv f)),?_,⟨⟨Gf,ln1,ok⟩,pz,X9 hn hf h Gf ln1 ok pos,w.nz⟩⟩;have ep:(Pc.mk f a r).pv fs=.tup ((nG (xss.map (bJ fs f))).map tv):=by rw[ez];rfl
 rw[ep];have lz:GL.length<16777216:=by omega
 have ln:((fs.map fv).length:Int)=(n:Int):=by rw[ak,hf]
 have ec:cF [] (gN 0) (aO nJ [] (aB (aO nP [] (aB (aA 0) (aB (aA 2) aD))) (aB (aA 1) (aB (mC (.int 1)) aD)))) (xss.map lv) [none,some (.pv (tv f)),some (.pv (.lst (fs.map fv)))] [.lst (li n1),.lst GL]=.ok (xss.map λxs=>tv (bJ fs f xs)) [.lst (li n1),.lst GL]:=by
  refine kZ (iU _) lv (λxs=>tv (bJ fs f xs)) xss none λxs hx=>?_;have a1:=(sp [.lst (li n1),.lst GL] xs hx).1;have a2:=N9 (way:=1) [.lst (li n1),.lst GL] hn (.inl rfl) (sp [] xs hx).2.1 Gf (by decide) (by decide);show _=cD.ok (AV.pv (tv (gG 1 f (eZ fs xs)))) _;generalize fs.map fv=FL,tv f=T4,lv xs=T3,tv (eZ fs xs)=T2,tv (gG 1 f (eZ fs xs))=T1 at *;simp! [aE,aZ,bA,aP,aM,aN,aK,aL,aF,aJ,a1,a2]
 have em:(xss.map (bJ fs f)).map tv=xss.map λxs=>tv (bJ fs f xs):=by rw[cg];rfl
 rw[em]at es;have hv:bH xss=.lst (xss.map lv):=rfl;rw[hv];clear ep ez cd cp pos ok pz nz2 gu2 l2 hl gu sp;generalize (n:Int)=N,fs.map fv=FL,xss.map lv=XL,(xss.map λxs=>tv (bJ fs f xs))=TL,(nG (xss.map (bJ fs f))).map tv=PX at *;have e1:nV [.ref 0,.pv (.int N)] [.lst (li ns),.lst GL]=.ok (.pv (tv f)) [.lst (li n1),.lst GL]:=e1;generalize tv f=TF at *;unfold lB;simp! [aE,aZ,bA,aP,aM,aN,aK,aL,aF,aJ,ln,e1,fD,fW,kE,aT,bZ,aY,bS,ec,es,lz]
theorem Os{n:Nat}(hn:n=2\/n=3){fs:List (Int×Int)}(hf:fs.length=n)(h:∀u∈fs,Sp u)(x1:AM):∀(hs:AF)(GL:AK)(ns:AB)(x4 x5:AM),(∀xss∈hs,Rw n xss)->GL.length+hs.length<=99->∃(ps:List (Pc×AE))(ns':AB)(y4 y5:AM),
  cM [] (gN 4) lB (hs.map bH) [some (.ref 0),x1,some (.pv (.lst (fs.map fv))),some (.ref 1),x4,x5] [.lst (li ns),.lst GL]=.nx [some (.ref 0),x1,some (.pv (.lst (fs.map fv))),some (.ref 1),y4,y5] [.lst (li ns'),.lst (GL++ps.map λp=>p.1.pv fs)]/\ps.map (·.2)=hs/\∀p∈ps,Pl n p
 |[],GL,ns,x4,x5,_,_=>⟨[],ns,x4,x5,by rw[cn,cn,jk];exact eQ,rfl,λ_ h=>absurd h cf⟩
 |xss::hs,GL,ns,x4,x5,hw,h9=>by
  have h9:GL.length+(hs.length+1)<=99:=h9;obtain⟨d,n1,y5,e1,r1⟩:=adl hn ns hf h GL (by omega) (hw xss ce) x1 x5;obtain⟨ps,n2,z4,z5,e2,l2,r2⟩:=Os hn hf h x1 hs (GL++[d.pv fs]) n1 (some (.pv (bH xss))) y5 (λy hy=>hw y (ax _ hy)) (by rw[ca,og];omega);refine⟨(d,xss)::ps,n2,z4,z5,?_,by rw[az,l2],λp hp=>?_⟩
  .rw[jr]at e2
   rw[az,dM];simp only[gN,cw,cj];rw[e1];exact e2
  .rcases bo.mp hp with rfl |hp
   .exact r1
   .exact r2 p hp
theorem Go{n:Nat}(hn:n=2\/n=3)(ns:AB){fs:List (Int×Int)}(hf:fs.length=n)(h:∀u∈fs,Sp u){hs:AF}(hw:∀xss∈hs,Rw n xss)(h9:hs.length<=90):∃(ps:List (Pc×AE))(ns':AB),pL [.ref 0,.pv (.lst (hs.map bH)),.pv (.lst (fs.map fv))] [.lst (li ns)]=.ok (.ref 1) [.lst (li ns'),.lst (ps.map λp=>p.1.pv fs)]/\ps.map (·.2)=hs/\∀p∈ps,Pl n p:=by
 obtain⟨ps,n2,y4,y5,e2,l2,r2⟩:=Os hn hf h (some (.pv (.lst (hs.map bH)))) hs [] ns none none hw (by show 0+hs.length<=99;omega);refine⟨ps,n2,?_,l2,r2⟩;rw[gi]at e2;have hb:Fc=(aI (aQ 3 (eC aD)) (aI (bR (aY (aA 1)) (gN 4) lB) (bC (aA 3)))):=rfl;unfold pL aR;rw[hb];generalize fs.map fv=FL,hs.map bH=HL,(ps.map λp=>p.1.pv fs)=GL,lB=LB at *;simp! [aE,aZ,bA,aP,aM,aN,aK,aL,aF,aJ,eC,iZ,bR,aY,bS,e2]
theorem K4{N N':AB}{c:Int}(h0:N≠[])(h:∀x,x∈N'↔x-c∈N):gW N'=gW N+c/\gU N'=gU N+c:=by
 cases e1:N.min? with
 |none=>exact absurd (xt.mp e1) h0
 |some a=>
  cases e2:N.max? with
  |none=>exact absurd (xu.mp e2) h0
  |some b=>
   obtain⟨a1,a2⟩:=ow.mp e1;obtain⟨b1,b2⟩:=qp.mp e2;have f1:N'.min?=some (a+c):=ow.mpr ⟨(h _).mpr (by rw[xw];exact a1),λx hx=>by have:=a2 _ ((h x).mp hx);omega⟩;have f2:N'.max?=some (b+c):=qp.mpr ⟨(h _).mpr (by rw[xw];exact b1),λx hx=>by have:=b2 _ ((h x).mp hx);omega⟩;unfold gW gU;rw[e1,e2,f1,f2];exact⟨rfl,rfl⟩
theorem sS(m M c:Int):cY (m+c) (M+c)=(cY m M).map (·+c):=by
 unfold cY;rw[cg];have e:(M+c+1-(m+c)).toNat=(M+1-m).toNat:=by omega
 rw[e];exact eh λk _=>by show m+c+(k:Int)=m+k+c;omega
theorem Bi:∀(Ls:AE)(cs:AB),Ls.length=cs.length->jL (au (λL c=>L.map (·+c)) Ls cs)=(jL Ls).map λt=>au (·+·) t cs
 |[],[],_=>rfl
 |L::Ls,c::cs,h=>by
  rw[qr,jL,jL,Bi Ls cs (by simpa using h),q9,t5];refine wF λx _=>?_;rw[cg,cg];rfl
theorem Yo{n k:Nat}(hn:n=2\/n=3){d:Pc}(hd:Pg n d){L:AE}(hp:d.ys.Perm L)(pD:0<dU (d.ys.map (·++[1]))){z:AB}(lz:z.length=n+1)(gz:Gu n 1000 (iP d.a z)):bW d.Y z=jE (Fs (iP d.a z) (L.map (·++[1]))) 1:=by
 have ha:=(hd.ok d.a (by simp[Pc.ys])).1;have wx:=hd.wx;have lY:∀u∈d.Y,u.length=n+1:=λu hu=>by
  obtain⟨x,v,rfl,Q⟩:=wx.gu u hu;simp[Q.len]
 have e:bW d.Y z=bW (d.ys.map (·++[1])) (iP d.a z):=by
  unfold bW;rw[<-Y4 hn ha wx.len lY lz,adf hn hd]
 rw[e];refine Z9 hn (k:=7) (hp.map _) (by rw[ak,<-hp.length_eq,hd.len]) (λu hu=>?_) gz pD;obtain⟨y,hy,rfl⟩:=bj.mp hu;have hy:=hd.ok y (hp.mem_iff.mpr hy);exact⟨y,1,rfl,hy.1,by decide,sW,λx hx=>Bd.of (n:=2) (by have:=hy.2 x hx;omega) (by decide),Bd.of (n:=1) (by decide) (by decide)⟩
theorem adm{n:Nat}(hn:n=2\/n=3){a b q t:AB}{w:Int}(ha:a.length=n)(hb:b.length=n)(hq:q.length=n)(ht:t.length=n):iP b (oO n (q++[w]) w (au (·+·) t (au (· - ·) a b)))=iP a (oO n (q++[w]) w t):=by
 rcases hn with rfl |rfl
 .match a,ha,b,hb,q,hq,t,ht with
  |[a,b],_,[c,d],_,[x,y],_,[s,r],_=>
   show[x+(s+(a-c))*w+c*w,y+(r+(b-d))*w+d*w,w]=[x+s*w+a*w,y+r*w+b*w,w];simp only[xy,and_true];refine⟨?_,?_⟩<;>grind
 .match a,ha,b,hb,q,hq,t,ht with
  |[a,b,e],_,[c,d,f],_,[x,y,z],_,[s,r,v],_=>
   show[x+(s+(a-c))*w+c*w,y+(r+(b-d))*w+d*w,z+(v+(e-f))*w+f*w,w]=[x+s*w+a*w,y+r*w+b*w,z+v*w+e*w,w];simp only[xy,and_true];refine⟨?_,?_,?_⟩<;>grind
theorem Vq{n k:Nat}(hn:n=2\/n=3){q:AB}{w:Int}(P:Pq n k q w)(hk:k<=900){d d':Pc}(hd:Pg n d)(hd':Pg n d')(pD:0<dU (d.ys.map (·++[1])))(pD':0<dU (d'.ys.map (·++[1])))(hp:d'.ys.Perm d.ys):((d'.sp n q w).map λz=>bW d'.Y z)=(d.sp n q w).map λz=>bW d.Y z:=by
 have ha:=(hd.ok d.a (by simp[Pc.ys])).1;have hb:=(hd'.ok d'.a (by simp[Pc.ys])).1;have mem:∀{e:Pc},Pg n e->∀{j:Nat},j<n->∀x,x∈e.Y.map (·.getD j 0)↔∃y∈e.ys,x=y.getD j 0-e.a.getD j 0:=λ{e} he {j} hj x=>by
  have hae:=(he.ok e.a (by simp[Pc.ys])).1;constructor
  .intro hx
   obtain⟨z,hz,rfl⟩:=bj.mp hx;obtain⟨y,hy,rfl⟩:=bj.mp hz;exact⟨y,hy,(xB hae (he.ok y hy).1 hj).1⟩
  .rintro⟨y,hy,rfl⟩
   exact bj.mpr ⟨_,bj.mpr ⟨y,hy,rfl⟩,(xB hae (he.ok y hy).1 hj).1⟩
 have ms:∀j,j<n->gW (d'.Y.map (·.getD j 0))=gW (d.Y.map (·.getD j 0))+(d.a.getD j 0-d'.a.getD j 0)/\gU (d'.Y.map (·.getD j 0))=gU (d.Y.map (·.getD j 0))+(d.a.getD j 0-d'.a.getD j 0):=λj hj=>by
  refine K4 (λe=>?_) λx=>?_
  .have:=congrArg kb e
   unfold Pc.Y at this;rw[ak,ak,hd.len]at this;simp at this
  .rw[mem hd hj,mem hd' hj]
   constructor
   .rintro⟨y,hy,e⟩
    exact⟨y,hp.mem_iff.mp hy,by omega⟩
   .rintro⟨y,hy,e⟩
    exact⟨y,hp.mem_iff.mpr hy,by omega⟩
 have rs:d'.rs n=au (λL c=>L.map (·+c)) (d.rs n) (au (· - ·) d.a d'.a):=by
  unfold Pc.rs;generalize d.a=a at *;generalize d'.a=b at *;rcases hn with rfl |rfl
  .match a,ha,b,hb,ms with
   |[a1,a2],_,[b1,b2],_,ms=>
    show[cY _ _,cY _ _]=[(cY _ _).map _,(cY _ _).map _];rw[(ms 0 (by decide)).1,(ms 0 (by decide)).2,(ms 1 (by decide)).1,(ms 1 (by decide)).2,sS,sS];rfl
  .match a,ha,b,hb,ms with
   |[a1,a2,a3],_,[b1,b2,b3],_,ms=>
    show[cY _ _,cY _ _,cY _ _]=[(cY _ _).map _,(cY _ _).map _,(cY _ _).map _];rw[(ms 0 (by decide)).1,(ms 0 (by decide)).2,(ms 1 (by decide)).1,(ms 1 (by decide)).2,(ms 2 (by decide)).1,(ms 2 (by decide)).2,sS,sS,sS];rfl
 have lr:(d.rs n).length=n:=by unfold Pc.rs;rw[ak,gh]
 rw[uJ,uJ,rs,Bi _ _ (by rw[lr,fg];omega),cg,cg,cg];refine eh λt ht=>?_;obtain⟨t1,t2⟩:=rD.mp ht;rw[lr]at t1 t2;have eq:=adm (w:=w) hn ha hb P.len t1;have lz:∀s:AB,s.length=n->(oO n (q++[w]) w s).length=n+1:=λs hs=>by
  unfold oO;rw[ca,fg,gh,hs];simp
 have gz:Gu n 1000 (iP d.a (oO n (q++[w]) w t)):=by
  have bt:∀j,j<n->-8<=t.getD j 0+d.a.getD j 0/\t.getD j 0+d.a.getD j 0<=8:=λj hj=>by
   have h3:=t2 j hj;have e:(d.rs n).getD j []=cY (gW (d.Y.map (·.getD j 0))) (gU (d.Y.map (·.getD j 0))):=by
    unfold Pc.rs;rw[cv,dk,av (show j<(aw n).length by rw[gh];exact hj),xx];rfl
   rw[e]at h3;have h4:=Ob.mp h3;have h0:=pS (hd.ok d.a (by simp[Pc.ys])).2 (j:=j) (by omega);obtain⟨y1,q1,e1⟩:=(mem hd hj _).mp (Fq (by intro e;have:=congrArg kb e;unfold Pc.Y at this;rw[ak,ak,hd.len]at this;simp at this)).1;obtain⟨y2,q2,e2⟩:=(mem hd hj _).mp (Fq (by intro e;have:=congrArg kb e;unfold Pc.Y at this;rw[ak,ak,hd.len]at this;simp at this)).2;have b1:=pS (hd.ok y1 q1).2 (j:=j) (by have:=(hd.ok y1 q1).1;omega);have b2:=pS (hd.ok y2 q2).2 (j:=j) (by have:=(hd.ok y2 q2).1;omega);omega
  refine Gu.mono (k:=k+5) ?_ (by omega);have fin:∀zs:AB,zs.length=n->iP d.a (oO n (q++[w]) w t)=zs++[w]->(∀j,j<n->zs.getD j 0=q.getD j 0+(t.getD j 0+d.a.getD j 0)*w)->Gu n (k+5) (iP d.a (oO n (q++[w]) w t)):=λzs l e v=>⟨zs,w,e,Zr P l λj hj=>⟨_,(bt j hj).1,(bt j hj).2,v j hj⟩⟩;have lq:=P.len;clear bt eq rs ms mem;generalize d.a=a at *;rcases hn with rfl |rfl
  .match a,ha,q,lq,t,t1,fin with
   |[a,b],_,[x,y],_,[s,r],_,fin=>
    refine fin [x+s*w+a*w,y+r*w+b*w] rfl rfl λj hj=>?_
    match j,hj with
    |0,_=>show x+s*w+a*w=x+(s+a)*w;grind
    |1,_=>show y+r*w+b*w=y+(r+b)*w;grind
  .match a,ha,q,lq,t,t1,fin with
   |[a,b,c],_,[x,y,z],_,[s,r,v],_,fin=>
    refine fin [x+s*w+a*w,y+r*w+b*w,z+v*w+c*w] rfl rfl λj hj=>?_
    match j,hj with
    |0,_=>show x+s*w+a*w=x+(s+a)*w;grind
    |1,_=>show y+r*w+b*w=y+(r+b)*w;grind
    |2,_=>show z+v*w+c*w=z+(v+c)*w;grind
 have g2:=gz;rw[<-eq]at g2;have s1:=Yo (k:=7) hn hd' hp pD' (lz _ (by rw[fg,fg];omega)) g2;have s2:=Yo (k:=7) hn hd (t7 _) pD (lz _ t1) gz;rw[eq]at s1;exact s1.trans s2.symm
def d8:List (Int×Int):=[(1,0),(-1,0),(0,1),(0,-1),(1,1),(-1,-1),(1,-1),(-1,1)]
def oI(x y w a b c:Int):Prop:=∀e∈d8,∀K:Int,sg (w*K+(e.1*y-e.2*x))=sg (c*K+(e.1*b-e.2*a))
theorem Qd{p q:Int}(h1:0<p↔0<q)(h2:p<0↔q<0):sg p=sg q:=by
 unfold sg
 by_cases c:0<p
 .rw[if_pos c,if_pos (h1.mp c)]
 .rw[if_neg c,if_neg λz=>c (h1.mpr z)]
  by_cases d:p<0
  .rw[if_pos d,if_pos (h2.mp d)]
  .rw[if_neg d,if_neg λz=>d (h2.mpr z)]
theorem acP{w g c h m:Int}(w0:0<w)(c0:0<c)(g1:w*m<g)(g2:g<w*(m+1))(h1:c*m<h)(h2:h<c*(m+1))(K:Int):sg (w*K+g)=sg (c*K+h):=by
 have go:∀{v k:Int},0<v->v*m<k->k<v*(m+1)->(0<v*K+k↔0<=K+m)/\(v*K+k<0↔K+m<0):=λ{v k} v0 k1 k2=>by
  have e1:v*(m+1)=v*m+v:=by grind
  have e2:v*(K+m)=v*K+v*m:=by grind
  by_cases q:0<=K+m
  .have:=ug (gr v0) q
   exact⟨⟨λ_=>q,λ_=>by omega⟩,⟨λz=>by omega,λz=>by omega⟩⟩
  .have:=t8 (show K+m<=-1 by omega) (gr v0)
   exact⟨⟨λz=>by omega,λz=>by omega⟩,⟨λ_=>by omega,λ_=>by omega⟩⟩
 obtain⟨a1,a2⟩:=go w0 g1 g2;obtain⟨b1,b2⟩:=go c0 h1 h2;exact Qd (a1.trans b1.symm) (a2.trans b2.symm)
theorem aca{w g c h m:Int}(w0:0<w)(c0:0<c)(g1:g=w*m)(h1:h=c*m)(K:Int):sg (w*K+g)=sg (c*K+h):=by
 have e1:w*K+g=w*(K+m):=by rw[g1];grind
 have e2:c*K+h=c*(K+m):=by rw[h1];grind
 rw[e1,e2];have go:∀{v:Int},0<v->(0<v*(K+m)↔0<K+m)/\(v*(K+m)<0↔K+m<0):=λ{v} v0=>by
  refine⟨⟨λz=>?_,λz=>aj v0 z⟩,⟨λz=>?_,λz=>wm v0 z⟩⟩
  .by_cases q:0<K+m
   .exact q
   .have:=t6 (gr v0) (show K+m<=0 by omega)
    omega
  .by_cases q:K+m<0
   .exact q
   .have:=ug (gr v0) (show 0<=K+m by omega)
    omega
 exact Qd ((go w0).1.trans (go c0).1.symm) ((go w0).2.trans (go c0).2.symm)
def At(w g k:Int):Prop:=∃m,(k=2*m/\g=w*m)\/(k=2*m+1/\w*m<g/\g<w*(m+1))
theorem Cs{w g c h k:Int}(w0:0<w)(c0:0<c)(p:At w g k)(q:At c h k)(K:Int):sg (w*K+g)=sg (c*K+h):=by
 obtain⟨m,p⟩:=p;obtain⟨n,q⟩:=q;rcases p with⟨e,p⟩|⟨e,p1,p2⟩<;>rcases q with⟨f,q⟩|⟨f,q1,q2⟩
 .have:n=m:=by omega
  subst this;exact aca w0 c0 p q K
 .omega
 .omega
 .have:n=m:=by omega
  subst this;exact acP w0 c0 p1 p2 q1 q2 K
def reps:List (Int×Int):=[(0,0),(2,0),(0,2),(1,1),(3,3),(2,2),(1,3),(3,1),(1,2),(2,1),(2,3),(3,2)]
theorem Lq{w g k:Int}(h:At w g k):At w (-g) (-k):=by
 obtain⟨m,⟨e,h⟩|⟨e,h1,h2⟩⟩:=h
 .exact⟨-m,.inl ⟨by omega,by rw[h];grind⟩⟩
 .have e1:w*(m+1)=w*m+w:=by grind
  have e2:w*(-m-1)=-(w*m)-w:=by grind
  have e3:w*(-m-1+1)=-(w*m):=by grind
  exact⟨-m-1,.inr ⟨by omega,by omega,by omega⟩⟩
theorem aaZ{x y w a b k l r s:Int}(w0:0<w)(h1:At w y k)(g1:At 4 b k)(h2:At w x l)(g2:At 4 a l)(h3:At w (y-x) r)(g3:At 4 (b-a) r)(h4:At w (y+x) s)(g4:At 4 (b+a) s):oI x y w a b 4:=λe he K=>by
 have go:∀{g h k:Int},At w g k->At 4 h k->∀{p q:Int},(p=g/\q=h)\/(p=-g/\q=-h)->sg (w*K+p)=sg (4*K+q):=λ{g h k} u v {p q} c=>by
  rcases c with⟨rfl,rfl⟩|⟨rfl,rfl⟩
  .exact Cs w0 (by decide) u v K
  .exact Cs w0 (by decide) (Lq u) (Lq v) K
 unfold d8 at he;simp only[bo,cf,or_false]at he;rcases he with rfl |rfl |rfl |rfl |rfl |rfl |rfl |rfl
 .exact go h1 g1 (by dsimp only;omega)
 .exact go h1 g1 (by dsimp only;omega)
 .exact go h2 g2 (by dsimp only;omega)
 .exact go h2 g2 (by dsimp only;omega)
 .exact go h3 g3 (by dsimp only;omega)
 .exact go h3 g3 (by dsimp only;omega)
 .exact go h4 g4 (by dsimp only;omega)
 .exact go h4 g4 (by dsimp only;omega)
theorem Mm{x y w:Int}(x0:0<=x)(x1:x<w)(y0:0<=y)(y1:y<w):∃r∈reps,oI x y w r.1 r.2 4:=by
 have w0:0<w:=by omega
 have on:∀{v g:Int}(m:Int),g=v*m->At v g (2*m):=λm h=>⟨m,.inl ⟨rfl,h⟩⟩;have in_:∀{v g:Int}(m:Int),v*m<g->g<v*(m+1)->At v g (2*m+1):=λm h g=>⟨m,.inr ⟨rfl,h,g⟩⟩;have fin:∀{k l r s:Int}(a b:Int),(a,b)∈reps->At 4 b k->At 4 a l->At 4 (b-a) r->At 4 (b+a) s->At w y k->At w x l->At w (y-x) r->At w (y+x) s->∃r∈reps,oI x y w r.1 r.2 4:=λa b h g1 g2 g3 g4 h1 h2 h3 h4=>⟨(a,b),h,aaZ w0 h1 g1 h2 g2 h3 g3 h4 g4⟩
 by_cases cx:x=0
 .by_cases cy:y=0
  .exact fin 0 0 (by decide) (on (0) (by decide)) (on (0) (by decide)) (on (0) (by decide)) (on (0) (by decide)) (on (0) (by omega)) (on (0) (by omega)) (on (0) (by omega)) (on (0) (by omega))
  .exact fin 0 2 (by decide) (in_ (0) (by decide) (by decide)) (on (0) (by decide)) (in_ (0) (by decide) (by decide)) (in_ (0) (by decide) (by decide)) (in_ (0) (by omega) (by omega)) (on (0) (by omega)) (in_ (0) (by omega) (by omega)) (in_ (0) (by omega) (by omega))
 .by_cases cy:y=0
  .exact fin 2 0 (by decide) (on (0) (by decide)) (in_ (0) (by decide) (by decide)) (in_ (-1) (by decide) (by decide)) (in_ (0) (by decide) (by decide)) (on (0) (by omega)) (in_ (0) (by omega) (by omega)) (in_ (-1) (by omega) (by omega)) (in_ (0) (by omega) (by omega))
  .rcases uh x y with c |c |c
   .rcases uh (x+y) w with d |d |d
    .exact fin 1 2 (by decide) (in_ (0) (by decide) (by decide)) (in_ (0) (by decide) (by decide)) (in_ (0) (by decide) (by decide)) (in_ (0) (by decide) (by decide)) (in_ (0) (by omega) (by omega)) (in_ (0) (by omega) (by omega)) (in_ (0) (by omega) (by omega)) (in_ (0) (by omega) (by omega))
    .exact fin 1 3 (by decide) (in_ (0) (by decide) (by decide)) (in_ (0) (by decide) (by decide)) (in_ (0) (by decide) (by decide)) (on (1) (by decide)) (in_ (0) (by omega) (by omega)) (in_ (0) (by omega) (by omega)) (in_ (0) (by omega) (by omega)) (on (1) (by omega))
    .exact fin 2 3 (by decide) (in_ (0) (by decide) (by decide)) (in_ (0) (by decide) (by decide)) (in_ (0) (by decide) (by decide)) (in_ (1) (by decide) (by decide)) (in_ (0) (by omega) (by omega)) (in_ (0) (by omega) (by omega)) (in_ (0) (by omega) (by omega)) (in_ (1) (by omega) (by omega))
   .rcases uh (x+y) w with d |d |d
    .exact fin 1 1 (by decide) (in_ (0) (by decide) (by decide)) (in_ (0) (by decide) (by decide)) (on (0) (by decide)) (in_ (0) (by decide) (by decide)) (in_ (0) (by omega) (by omega)) (in_ (0) (by omega) (by omega)) (on (0) (by omega)) (in_ (0) (by omega) (by omega))
    .exact fin 2 2 (by decide) (in_ (0) (by decide) (by decide)) (in_ (0) (by decide) (by decide)) (on (0) (by decide)) (on (1) (by decide)) (in_ (0) (by omega) (by omega)) (in_ (0) (by omega) (by omega)) (on (0) (by omega)) (on (1) (by omega))
    .exact fin 3 3 (by decide) (in_ (0) (by decide) (by decide)) (in_ (0) (by decide) (by decide)) (on (0) (by decide)) (in_ (1) (by decide) (by decide)) (in_ (0) (by omega) (by omega)) (in_ (0) (by omega) (by omega)) (on (0) (by omega)) (in_ (1) (by omega) (by omega))
   .rcases uh (x+y) w with d |d |d
    .exact fin 2 1 (by decide) (in_ (0) (by decide) (by decide)) (in_ (0) (by decide) (by decide)) (in_ (-1) (by decide) (by decide)) (in_ (0) (by decide) (by decide)) (in_ (0) (by omega) (by omega)) (in_ (0) (by omega) (by omega)) (in_ (-1) (by omega) (by omega)) (in_ (0) (by omega) (by omega))
    .exact fin 3 1 (by decide) (in_ (0) (by decide) (by decide)) (in_ (0) (by decide) (by decide)) (in_ (-1) (by decide) (by decide)) (on (1) (by decide)) (in_ (0) (by omega) (by omega)) (in_ (0) (by omega) (by omega)) (in_ (-1) (by omega) (by omega)) (on (1) (by omega))
    .exact fin 3 2 (by decide) (in_ (0) (by decide) (by decide)) (in_ (0) (by decide) (by decide)) (in_ (-1) (by decide) (by decide)) (in_ (1) (by decide) (by decide)) (in_ (0) (by omega) (by omega)) (in_ (0) (by omega) (by omega)) (in_ (-1) (by omega) (by omega)) (in_ (1) (by omega) (by omega))
theorem Us(u1 u2 v1 v2 x y w s t:Int):D2 0 0 1 u1 u2 1 (x+s*w) (y+t*w) w=w*(u1*t-u2*s)+(u1*y-u2*x):=by
 unfold D2;grind
theorem Gr(u1 u2 v1 v2 x y w s t:Int):D2 0 0 1 (x+s*w) (y+t*w) w v1 v2 1=w*(s*v2-t*v1)+(-v1*y- -v2*x):=by
 unfold D2;grind
theorem Dr(u1 u2 v1 v2 x y w s t:Int):D2 (x+s*w) (y+t*w) w u1 u2 1 v1 v2 1=w*(u1*v2-u2*v1+(v1-u1)*t-(v2-u2)*s)+((v1-u1)*y-(v2-u2)*x):=by
 unfold D2;grind
structure Sm(u1 u2 v1 v2:Int):Prop where
 h1:(u1,u2)∈d8
 h2:(v1-u1,v2-u2)∈d8
 h3:(-v1,-v2)∈d8
def yU(u1 u2 v1 v2:Int):Bool:=d8.contains (u1,u2)&&d8.contains (v1-u1,v2-u2)&&d8.contains (-v1,-v2)
def uT:AE->Bool
 |[[a1,a2],[b1,b2],[c1,c2]]=>yU (b1-a1) (b2-a2) (c1-a1) (c2-a2)||(((b1-a1)/2*2==b1-a1)&&((b2-a2)/2*2==b2-a2)&&((c1-a1)/2*2==c1-a1)&&((c2-a2)/2*2==c2-a2)&&yU ((b1-a1)/2) ((b2-a2)/2) ((c1-a1)/2) ((c2-a2)/2))
 |_=>false
theorem Uo{u1 u2 v1 v2:Int}(h:yU u1 u2 v1 v2=true):Sm u1 u2 v1 v2:=by
 unfold yU at h;simp only[fh,ya]at h;exact⟨h.1.1,h.1.2,h.2⟩
theorem rL(z:Int):sg (2*z)=sg z:=Qd (by omega) (by omega)
theorem R3{x y w a b c:Int}(L:oI x y w a b c){u1 u2 v1 v2:Int}(h:Sm u1 u2 v1 v2\/∃p1 p2 q1 q2,Sm p1 p2 q1 q2/\u1=2*p1/\u2=2*p2/\v1=2*q1/\v2=2*q2)(s t:Int):bW [[0,0,1],[u1,u2,1],[v1,v2,1]] [x+s*w,y+t*w,w]=bW [[0,0,1],[u1,u2,1],[v1,v2,1]] [a+s*c,b+t*c,c]:=by
 show jE [sg (D2 (x+s*w) (y+t*w) w u1 u2 1 v1 v2 1),sg (D2 0 0 1 (x+s*w) (y+t*w) w v1 v2 1),sg (D2 0 0 1 u1 u2 1 (x+s*w) (y+t*w) w)] 1=jE [sg (D2 (a+s*c) (b+t*c) c u1 u2 1 v1 v2 1),sg (D2 0 0 1 (a+s*c) (b+t*c) c v1 v2 1),sg (D2 0 0 1 u1 u2 1 (a+s*c) (b+t*c) c)] 1;rw[Dr,Gr u1 u2,Us u1 u2 v1 v2,Dr,Gr u1 u2,Us u1 u2 v1 v2];rcases h with h |⟨p1,p2,q1,q2,h,rfl,rfl,rfl,rfl⟩
 .have k1:=L _ h.h1
  have k2:=L _ h.h2;have k3:=L _ h.h3;dsimp only at k1 k2 k3;rw[k1,k2,k3]
 .have k1:=L _ h.h1
  have k2:=L _ h.h2;have k3:=L _ h.h3;dsimp only at k1 k2 k3;have e0:∀x y w:Int,w*(2*p1*(2*q2)-2*p2*(2*q1)+(2*q1-2*p1)*t-(2*q2-2*p2)*s)+((2*q1-2*p1)*y-(2*q2-2*p2)*x)=2*(w*(2*(p1*q2)-2*(p2*q1)+(q1-p1)*t-(q2-p2)*s)+((q1-p1)*y-(q2-p2)*x)):=λx y w=>by grind
  have e1:∀x y w:Int,w*(s*(2*q2)-t*(2*q1))+(-(2*q1)*y- -(2*q2)*x)=2*(w*(s*q2-t*q1)+(-q1*y- -q2*x)):=λx y w=>by grind
  have e2:∀x y w:Int,w*(2*p1*t-2*p2*s)+(2*p1*y-2*p2*x)=2*(w*(p1*t-p2*s)+(p1*y-p2*x)):=λx y w=>by grind
  rw[e0,e0,e1,e1,e2,e2,rL,rL,rL,rL,rL,rL,k1,k2,k3]
def qN(f:AB)(ys:AE):Pc:=⟨f,ys.headD [],ys.tail⟩
def lN(d:Pc)(x y w:Int):AB:=(d.sp 2 [x,y] w).map λz=>bW d.Y z
theorem L6{ys:AE}(h:uT ys=true){x y w a b c:Int}(L:oI x y w a b c)(f:AB):lN (qN f ys) x y w=lN (qN f ys) a b c:=by
 unfold uT at h;split at h
 .rename_i a1 a2 b1 b2 c1 c2
  have hE:Sm (b1-a1) (b2-a2) (c1-a1) (c2-a2)\/∃p1 p2 q1 q2,Sm p1 p2 q1 q2/\b1-a1=2*p1/\b2-a2=2*p2/\c1-a1=2*q1/\c2-a2=2*q2:=by
   simp only[tw,fh,beq_iff_eq]at h;rcases h with h |⟨⟨⟨⟨e1,e2⟩,e3⟩,e4⟩,h⟩
   .exact .inl (Uo h)
   .exact .inr ⟨_,_,_,_,Uo h,by omega,by omega,by omega,by omega⟩
  have eY:(qN f [[a1,a2],[b1,b2],[c1,c2]]).Y=[[0,0,1],[b1-a1,b2-a2,1],[c1-a1,c2-a2,1]]:=by
   simp[qN,Pc.Y,Pc.ys,cS]
  unfold lN;rw[eY,uJ,uJ,cg,cg];refine eh λt ht=>?_;obtain⟨h1,_⟩:=rD.mp ht;have h1:t.length=2:=h1;obtain⟨s,r,rfl⟩:∃s r,t=[s,r]:=by
   match t,h1 with
   |[s,r],_=>exact⟨_,_,rfl⟩
  exact R3 L hE s r
 .cases h
def lS:AE->AE
 |[A,B,C]=>if 0<dU ([A,B,C].map (·++[1]))then[A,B,C] else[A,C,B]
 |R=>R
def vR(R:AE)(x y w:Int):AB:=lN (qN [] (lS R)) x y w
def jY:AF:=((jL [[0,1],[0,1],[0,1],[0,1],[0,1],[0,1]]).map λt=>[[t.getD 0 0,t.getD 1 0],[t.getD 2 0,t.getD 3 0],[t.getD 4 0,t.getD 5 0]]).filter λT=>dU (T.map (·++[1]))≠0
def iN(a b:AB):AB:=au (·+·) a b
def qH(a:AB):AB:=a.map (2*·)
def eR(T:AE):AE:=T.map qH
def eJ:AE->AF
 |[a,b,c]=>[[qH a,iN a b,iN a c],[iN a b,qH b,iN b c],[iN a c,iN b c,qH c],[iN a b,iN b c,iN a c]]
 |_=>[]
def oP(r:Int×Int):Int×Int:=((-r.1).fmod 4,(-r.2).fmod 4)
def qF(R:AE):Int:=((dU (R.map (·++[1]))).natAbs:Int)
def lW(R:AE)(r:Int×Int):Bool:=uT (lS R)&&((vR R r.1 r.2 4).contains 0||(vR R (oP r).1 (oP r).2 4).contains 0||(((vR R r.1 r.2 4).count 1:Int)+((vR R (oP r).1 (oP r).2 4).count 1:Nat)==qF R))
def Ef(T:AE)(r:Int×Int):Bool:=(vR (eR T) r.1 r.2 4).contains 0||(eJ T).any (λR=>(vR R r.1 r.2 4).contains 0)||((vR (eR T) r.1 r.2 4).count 1==((eJ T).map λR=>(vR R r.1 r.2 4).count 1).sum)
def mD(R:AE):Bool:=decide (R.length=3)&&R.all (λy=>decide (y.length=2)&&y.all λz=>decide (0<=z)&&decide (z<=2))&&decide (dU (R.map (·++[1]))≠0)
def adI:Bool:=jY.all λT=>mD T&&mD (eR T)&&(eJ T).all mD
theorem aag:adI=true:=by decide+kernel
def jN(r:Int×Int):Bool:=jY.all λT=>lW T r&&lW (eR T) r&&(eJ T).all (λR=>lW R r)&&Ef T r
theorem ck0:jN (0,0)=true:=by decide+kernel
theorem ck1:jN (2,0)=true:=by decide+kernel
theorem ck2:jN (0,2)=true:=by decide+kernel
theorem ck3:jN (1,1)=true:=by decide+kernel
theorem ck4:jN (3,3)=true:=by decide+kernel
theorem ck5:jN (2,2)=true:=by decide+kernel
theorem ck6:jN (1,3)=true:=by decide+kernel
theorem ck7:jN (3,1)=true:=by decide+kernel
theorem ck8:jN (1,2)=true:=by decide+kernel
theorem ck9:jN (2,1)=true:=by decide+kernel
theorem adC:jN (2,3)=true:=by decide+kernel
theorem adG:jN (3,2)=true:=by decide+kernel
theorem W6:∀r∈reps,jN r=true:=by
 intro r hr;unfold reps at hr;simp only[bo,cf,or_false]at hr;rcases hr with rfl |rfl |rfl |rfl |rfl |rfl |rfl |rfl |rfl |rfl |rfl |rfl
 .exact ck0
 .exact ck1
 .exact ck2
 .exact ck3
 .exact ck4
 .exact ck5
 .exact ck6
 .exact ck7
 .exact ck8
 .exact ck9
 .exact adC
 .exact adG
theorem G7{x y w a b:Int}(w0:0<w)(x0:0<=x)(x1:x<w)(y0:0<=y)(y1:y<w)(a0:0<=a)(a1:a<4)(b0:0<=b)(b1:b<4)(L:oI x y w a b 4):oI ((-x).fmod w) ((-y).fmod w) w ((-a).fmod 4) ((-b).fmod 4) 4:=by
 have one:∀{z v:Int},0<v->0<=z->z<v->∃i,(-z).fmod v=-z+v*i/\(z=0->i=0)/\(z≠0->i=1):=λ{z v} v0 z0 z1=>by
  have f0:=mq (-z) v0;have f1:=ox (-z) v0;have fm:(-z).fmod v+v*(-z).fdiv v=-z:=p7 _ v
  by_cases c:z=0
  .refine⟨0,?_,λ_=>rfl,λh=>absurd c h⟩
   subst c;simp
  .refine⟨1,?_,λh=>absurd h c,λ_=>rfl⟩
   have:(-z).fdiv v=-1:=by
    generalize (-z).fmod v=r,(-z).fdiv v=q at*
    by_cases c1:q=-1
    .exact c1
    .exfalso
     by_cases c2:-1<q
     .have:=ug (gr v0) (show 0<=q by omega)
      omega
     .have:=t8 (show q<=-2 by omega) (gr v0)
      omega
   rw[this]at fm;omega
 have z0:∀{p q:Int},sg p=sg q->(p=0↔q=0):=λ{p q} h=>by
  have:=(Ir (d:=p)).2;have:=(Ir (d:=q)).2;rw[h]at *;omega
 obtain⟨i,ei,i0,i1⟩:=one w0 x0 x1;obtain⟨j,ej,j0,j1⟩:=one w0 y0 y1;obtain⟨k,ek,k0,k1⟩:=one (v:=4) (by decide) a0 a1;obtain⟨l,el,l0,l1⟩:=one (v:=4) (by decide) b0 b1;have hx:x=0↔a=0:=by
  have h:=L (0,1) (by decide) 0;have:=z0 h;dsimp only at this;omega
 have hy:y=0↔b=0:=by
  have h:=L (1,0) (by decide) 0;have:=z0 h;dsimp only at this;omega
 have ik:i=k:=by
  by_cases c:x=0
  .rw[i0 c,k0 (hx.mp c)]
  .rw[i1 c,k1 λz=>c (hx.mpr z)]
 have jl:j=l:=by
  by_cases c:y=0
  .rw[j0 c,l0 (hy.mp c)]
  .rw[j1 c,l1 λz=>c (hy.mpr z)]
 intro e he K;have hn:(-e.1,-e.2)∈d8:=by
  unfold d8 at he⊢;simp only[bo,cf,or_false]at he;rcases he with rfl |rfl |rfl |rfl |rfl |rfl |rfl |rfl<;>decide
 have h:=L _ hn (K+e.1*j-e.2*i);dsimp only at h;rw[ei,ej,ek,el,<-ik,<-jl];have e1:w*K+(e.1*(-y+w*j)-e.2*(-x+w*i))=w*(K+e.1*j-e.2*i)+(-e.1*y- -e.2*x):=by grind
 have e2:4*K+(e.1*(-b+4*j)-e.2*(-a+4*i))=4*(K+e.1*j-e.2*i)+(-e.1*b- -e.2*a):=by grind
 rw[e1,e2];exact h
def jC(R:AE):Prop:=∃T∈jY,R=T\/R=eR T\/R∈eJ T
theorem Xq{T:AE}(h:T∈jY):(mD T=true/\mD (eR T)=true/\∀R∈eJ T,mD R=true)/\∀r∈reps,lW T r=true/\lW (eR T) r=true/\(∀R∈eJ T,lW R r=true)/\Ef T r=true:=by
 have c:=jb.mp aag T h;simp only[fh,jb]at c;refine⟨⟨c.1.1,c.1.2,c.2⟩,λr hr=>?_⟩;have c:=jb.mp (W6 r hr) T h;simp only[fh,jb]at c;exact⟨c.1.1.1,c.1.1.2,c.1.2,c.2⟩
theorem uH{R:AE}(h:jC R):mD R=true/\∀r∈reps,lW R r=true:=by
 obtain⟨T,hT,h⟩:=h;obtain⟨⟨c1,c2,c3⟩,c4⟩:=Xq hT;rcases h with rfl |rfl |h
 .exact⟨c1,λr hr=>(c4 r hr).1⟩
 .exact⟨c2,λr hr=>(c4 r hr).2.1⟩
 .exact⟨c3 R h,λr hr=>(c4 r hr).2.2.1 R h⟩
theorem acf{r:Int×Int}(h:r∈reps):(0<=r.1/\r.1<4)/\(0<=r.2/\r.2<4):=by
 revert r
 decide
theorem xF{R:AE}(h:uT (lS R)=true){x y w a b c:Int}(L:oI x y w a b c):vR R x y w=vR R a b c:=L6 h L []
theorem adq{R:AE}(h:jC R){x y w:Int}(x0:0<=x)(x1:x<w)(y0:0<=y)(y1:y<w)(n1:0∉vR R x y w)(n2:0∉vR R ((-x).fmod w) ((-y).fmod w) w):(((vR R x y w).count 1:Nat):Int)+((vR R ((-x).fmod w) ((-y).fmod w) w).count 1:Nat)=qF R:=by
 obtain⟨r,hr,L⟩:=Mm x0 x1 y0 y1;have b:=acf hr;have L2:=G7 (by omega) x0 x1 y0 y1 b.1.1 b.1.2 b.2.1 b.2.2 L;have k:=(uH h).2 r hr;unfold lW at k;simp only[fh,tw,ya,beq_iff_eq]at k;have e1:=xF k.1 L;have e2:=xF k.1 L2;rw[e1]at n1⊢;rw[e2]at n2⊢;rcases k.2 with(q |q) |q
 .exact absurd q n1
 .exact absurd q n2
 .exact q
theorem adA{T:AE}(h:T∈jY){x y w:Int}(x0:0<=x)(x1:x<w)(y0:0<=y)(y1:y<w)(n1:0∉vR (eR T) x y w)(n2:∀R∈eJ T,0∉vR R x y w):(vR (eR T) x y w).count 1=((eJ T).map λR=>(vR R x y w).count 1).sum:=by
 obtain⟨r,hr,L⟩:=Mm x0 x1 y0 y1;have ed:∀{R:AE},lW R r=true->uT (lS R)=true:=λ{R} k=>by
  unfold lW at k;simp only[fh]at k;exact k.1
 obtain⟨_,k1,k2,k⟩:=(Xq h).2 r hr;have e1:=xF (ed k1) L;have e2:∀R∈eJ T,vR R x y w=vR R r.1 r.2 4:=λR hR=>xF (ed (k2 R hR)) L;unfold Ef at k;simp only[tw,ya,beq_iff_eq,List.any_eq_true]at k;rw[e1]at n1⊢;have e3:((eJ T).map λR=>(vR R x y w).count 1)=(eJ T).map λR=>(vR R r.1 r.2 4).count 1:=eh λR hR=>by rw[e2 R hR]
 rw[e3];rcases k with(q |⟨R,hR,q⟩) |q
 .exact absurd q n1
 .exact absurd (by rw[e2 R hR];exact q) (n2 R hR)
 .exact q
theorem xC{R:AE}(h:mD R=true):Rw 2 R:=by
 unfold mD at h;simp only[fh,decide_eq_true_eq,jb]at h;exact⟨h.1.1,λy hy=>(h.1.2 y hy).1,λy hy x hx=>(h.1.2 y hy).2 x hx,h.2⟩
theorem O3{R:AE}(h:mD R=true):(lS R).Perm R/\0<dU ((lS R).map (·++[1]))/\∀f,(qN f (lS R)).ys=lS R:=by
 have w:=xC h;obtain⟨A,B,C,rfl⟩:∃A B C,R=[A,B,C]:=by
  match R,w.len with
  |[A,B,C],_=>exact⟨_,_,_,rfl⟩
 have two:∀z∈[A,B,C],∃p q:Int,z=[p,q]:=λz hz=>by
  have k:=w.l z hz
  match z,k with
  |[p,q],_=>exact⟨p,q,rfl⟩
 obtain⟨p1,p2,rfl⟩:=two A (by simp);obtain⟨p3,p4,rfl⟩:=two B (by simp);obtain⟨p5,p6,rfl⟩:=two C (by simp);have nz:=w.nz;have eP:lS [[p1,p2],[p3,p4],[p5,p6]]=if 0<dU ([[p1,p2],[p3,p4],[p5,p6]].map (·++[1]))then[[p1,p2],[p3,p4],[p5,p6]] else[[p1,p2],[p5,p6],[p3,p4]]:=rfl;rw[eP]
 by_cases c:0<dU ([[p1,p2],[p3,p4],[p5,p6]].map (·++[1]))
 .rw[if_pos c]
  exact⟨t7 _,c,λf=>rfl⟩
 .rw[if_neg c]
  refine⟨(qu _ _ _).cons _,?_,λf=>rfl⟩;show 0<D2 p1 p2 1 p5 p6 1 p3 p4 1;have c':¬0<D2 p1 p2 1 p3 p4 1 p5 p6 1:=c;have n':D2 p1 p2 1 p3 p4 1 p5 p6 1≠0:=nz;have e:D2 p1 p2 1 p5 p6 1 p3 p4 1=-D2 p1 p2 1 p3 p4 1 p5 p6 1:=by
   unfold D2;grind
  omega
theorem aba{k:Nat}{p:Pc×AE}(hp:Pl 2 p)(hR:jC p.2){x y w:Int}(P:Pq 2 k [x,y] w)(hk:k<=900):lN p.1 (x.fmod w) (y.fmod w) w=vR p.2 (x.fmod w) (y.fmod w) w:=by
 obtain⟨pm,ps,ey⟩:=O3 (uH hR).1;have w2:=xC (uH hR).1;have g2:Pg 2 (qN p.1.f (lS p.2)):=⟨hp.g.f,by rw[ey,pm.length_eq,w2.len],λy hy=>by
  rw[ey]at hy;have:=pm.mem_iff.mp hy;exact⟨w2.l y this,w2.b y this⟩⟩
 have e:=Vq (.inl rfl) (Hc P) hk g2 hp.g (by rw[ey];exact ps) hp.ps (by rw[ey];exact hp.pm.trans pm.symm);exact e
theorem mX{m:Int}(m0:0<m)(m1:m<=20000)(ns:AB)(R:aG):∃(v:Int)(ns':AB),dN [.ref 0,.pv (.int m)] (.lst (li ns)::R)=.ok (.pv (.int v)) (.lst (li ns')::R)/\0<=v/\v<m:=by
 obtain⟨t,n1,e1,t0,t1,_⟩:=lE (S:=.lst (li ns)::R) (m:=m) (show fZ (.lst (li ns)::R) 0 ns from rfl) m0 ((Bd.of (k:=15) (n:=20000) (by omega) (by decide)).mono (by decide));exact⟨t,n1,e1,t0,t1⟩
theorem Gz{a b c d e f:Int}(ha:0<=a/\a<=1)(hb:0<=b/\b<=1)(hc:0<=c/\c<=1)(hd:0<=d/\d<=1)(he:0<=e/\e<=1)(hf:0<=f/\f<=1)(nz:dU ([[a,b],[c,d],[e,f]].map (·++[1]))≠0):[[a,b],[c,d],[e,f]]∈jY:=by
 have z:∀{x:Int},0<=x/\x<=1->x=0\/x=1:=λh=>by omega
 revert nz
 rcases z ha with rfl |rfl<;>rcases z hb with rfl |rfl<;>rcases z hc with rfl |rfl<;>rcases z hd with rfl |rfl<;>rcases z he with rfl |rfl<;>rcases z hf with rfl |rfl<;>decide+kernel
theorem wG{T:AE}(h:T∈jY):∃a b c d e f:Int,T=[[a,b],[c,d],[e,f]]/\(0<=a/\a<=1)/\(0<=b/\b<=1)/\(0<=c/\c<=1)/\(0<=d/\d<=1)/\(0<=e/\e<=1)/\(0<=f/\f<=1):=by
 unfold jY at h;obtain⟨h,_⟩:=uv.mp h;obtain⟨t,ht,rfl⟩:=bj.mp h;obtain⟨_,k⟩:=rD.mp ht;have z:∀{x:Int},x∈([0,1]:AB)->0<=x/\x<=1:=λh=>by
  simp only[bo,cf,or_false]at h;omega
 exact⟨_,_,_,_,_,_,rfl,z (k 0 (by decide)),z (k 1 (by decide)),z (k 2 (by decide)),z (k 3 (by decide)),z (k 4 (by decide)),z (k 5 (by decide))⟩
theorem abW{S:aG}{k:Nat}{a b c d e f:Int}(h:S[k]?=some (.lst [lv [a,b],lv [c,d],lv [e,f]]))(ha:0<=a/\a<=1)(hb:0<=b/\b<=1)(hc:0<=c/\c<=1)(hd:0<=d/\d<=1)(he:0<=e/\e<=1)(hf:0<=f/\f<=1):sO [.ref k] S=.ok (.pv (.int (dU ([[a,b],[c,d],[e,f]].map (·++[1]))))) S:=by
 have id:(c-a)*(f-b)-(d-b)*(e-a)=dU ([[a,b],[c,d],[e,f]].map (·++[1])):=by
  show _=D2 a b 1 c d 1 e f 1;unfold D2;grind
 have b1:Bd 10 (c-a):=yE (by omega) (by omega);have b2:Bd 10 (d-b):=yE (by omega) (by omega);have b3:Bd 10 (e-a):=yE (by omega) (by omega);have b4:Bd 10 (f-b):=yE (by omega) (by omega);have m1:=cU b1 b4;have m2:=cU b2 b3;generalize dU ([[a,b],[c,d],[e,f]].map (·++[1]))=D at *;have s1:=uE (lv [a,b]) [lv [c,d],lv [e,f]];have et:mI [.pv (.lst [.lst [.int (c-a),.int (d-b)],.lst [.int (e-a),.int (f-b)]])] S=.ok (.pv (.int D)) S:=by
  unfold mI aR tQ;simp! [aE,aZ,bA,aP,aM,aN,aK,aL,aF,aJ,m1,m2,id]
 unfold sO aR zO;simp only[lv,li,az,cn]at h s1;simp! [aE,aZ,bA,aP,aM,aN,aK,aL,aF,aJ,aT,aY,bS,dL,cO,dI,fT,h,s1,bZ,dE,dB,gN,gT,bV,cQ,dX,fQ,dY,et]
theorem Ce(ns:AB)(R:aG)(LL:AK)(hl:LL.length<=9)(i:PV):∃(a b:Int)(ns':AB),rB [some (.ref 0),some (.pv (.int 2)),some (.pv (.int 1)),some (.ref (R.length+1)),some (.pv i)] (.lst (li ns)::(R++[.lst LL]))=.nx [some (.ref 0),some (.pv (.int 2)),some (.pv (.int 1)),some (.ref (R.length+1)),some (.pv i)] (.lst (li ns')::(R++[.lst (LL++[lv [a,b]])]))/\(0<=a/\a<=1)/\(0<=b/\b<=1):=by
 obtain⟨a,n1,e1,a0,a1⟩:=mX (m:=2) (by decide) (by decide) ns (R++[.lst LL]);obtain⟨b,n2,e2,b0,b1⟩:=mX (m:=2) (by decide) (by decide) n1 (R++[.lst LL]);refine⟨a,b,n2,?_,by omega,by omega⟩;have lz:LL.length<16777216:=by omega
 have g1:∀X:AK,(R++[SO.lst X])[R.length]?=some (.lst X):=λX=>by simp
 have g2:(R++[SO.lst LL]).set R.length (.lst (LL++[lv [a,b]]))=R++[.lst (LL++[lv [a,b]])]:=by simp
 have rg:iE [.pv (.int 2)] (.lst (li ns)::(R++[.lst LL]))=.ok ([.int 0,.int 1],[]) (.lst (li ns)::(R++[.lst LL])):=lZ _ (n:=2) (by decide);have hv:lv [a,b]=.lst [.int a,.int b]:=rfl;rw[hv]at g2⊢;unfold rB;simp! [aE,aZ,bA,aP,aM,aN,aK,aL,aF,aJ,fD,fW,kE,aT,bZ,dC,rg,dE,dB,gN,e1,e2,lz,g1,g2]
theorem X8(ns:AB)(R:aG):∃(T:AE)(ns':AB),frz (R.length+1) (kP (mO [.ref 0,.pv (.int 2),.pv (.int 1)] (.lst (li ns)::R)))=.ok (.pv (bH T)) (.lst (li ns')::R)/\T∈jY:=by
 obtain⟨a,b,n1,e1,ha,hb⟩:=Ce ns R [] (by decide) (.int 0);obtain⟨c,d,n2,e2,hc,hd⟩:=Ce n1 R ([]++[lv [a,b]]) (by simp) (.int 1);obtain⟨e,f,n3,e3,he,hf⟩:=Ce n2 R ([]++[lv [a,b]]++[lv [c,d]]) (by simp) (.int 2);simp only[gi,jt]at e1 e2 e3;have gk:(.lst (li n3)::(R++[SO.lst [lv [a,b],lv [c,d],lv [e,f]]]))[R.length+1]?=some (.lst [lv [a,b],lv [c,d],lv [e,f]]):=by simp
 have et:=abW gk ha hb hc hd he hf;have lp:cM [] (gN 4) rB [.int 0,.int 1,.int 2] [some (.ref 0),some (.pv (.int 2)),some (.pv (.int 1)),some (.ref (R.length+1)),none] (.lst (li ns)::(R++[.lst []]))=.nx [some (.ref 0),some (.pv (.int 2)),some (.pv (.int 1)),some (.ref (R.length+1)),some (.pv (.int 2))] (.lst (li n3)::(R++[.lst [lv [a,b],lv [c,d],lv [e,f]]])):=by
  rw[dM];simp only[gN,cw,cj];rw[e1];dsimp only;rw[dM];simp only[gN,cw,cj];rw[e2];dsimp only;rw[dM];simp only[gN,cw,cj];rw[e3];exact eQ
 have ed:=P4 (n:=2) (.inl rfl) (.lst (li n3)::(R++[.lst [lv [a,b],lv [c,d],lv [e,f]]])) (some (.ref 0)) (some (.pv (.int 1))) (some (.ref (R.length+1))) (some (.pv (.int 2)));have ed:aT ["_law_k"] [(1,"_law_dims")] (jJ (aB (bG bX (mC (.int 1))) (aB (aA 1) aD))) (gN 0) (aT ["_law_m"] [(0,"_law_k")] (dC (aB (aA 1) aD)) (gN 0) (mR kQ (aB (aC eB (aA 0) (aA 1)) aD))) [some (.ref 0),some (.pv (.int 2)),some (.pv (.int 1)),some (.ref (R.length+1)),some (.pv (.int 2))] (.lst (li n3)::(R++[.lst [lv [a,b],lv [c,d],lv [e,f]]]))=.ok (.pv (bH (qL 2))) (.lst (li n3)::(R++[.lst [lv [a,b],lv [c,d],lv [e,f]]])):=ed;have rg:iE [.pv (.int 3)] (.lst (li ns)::(R++[.lst []]))=.ok ([.int 0,.int 1,.int 2],[]) (.lst (li ns)::(R++[.lst []])):=lZ _ (n:=3) (by decide);have hb:xH=(aI (aQ 3 (eC aD))
  (aI (bR (dC (aB (aC aF (aA 1) (mC (.int 1))) aD)) (gN 4) rB)
  (aI (cZ (bT (aC kG (aO sO [] (aB (aA 3) aD)) (mC (.int 0)))) (bC (aA 3)) dZ)
  (bC (aT ["_law_k"] [(1,"_law_dims")] (jJ (aB (bG bX (mC (.int 1))) (aB (aA 1) aD))) (gN 0) (aT ["_law_m"] [(0,"_law_k")] (dC (aB (aA 1) aD)) (gN 0) (mR kQ (aB (aC eB (aA 0) (aA 1)) aD)))))))):=rfl
 have hb':∀r,(∀S1,S1=(.lst (li ns)::R:aG)->kM S1.length (xH (fO 5 [.ref 0,.pv (.int 2),.pv (.int 1)]) S1)=r)->mO [.ref 0,.pv (.int 2),.pv (.int 1)] (.lst (li ns)::R)=r:=λr h=>h _ rfl;have tk:∀x:SO,(x::(R++[SO.lst [lv [a,b],lv [c,d],lv [e,f]]])).take (R.length+1)=x::R:=λx=>by simp
 by_cases z:dU ([[a,b],[c,d],[e,f]].map (·++[1]))=0
 .refine⟨qL 2,n3,?_,by decide+kernel⟩
  rw[z]at et;rw[hb' (.ok (.pv (bH (qL 2))) (.lst (li n3)::R)) ?_]
  .rfl
  .rintro _ rfl
   rw[hb];generalize [lv [a,b],lv [c,d],lv [e,f]]=LL,bH (qL 2)=RV,rB=RB,(aT ["_law_k"] [(1,"_law_dims")] (jJ (aB (bG bX (mC (.int 1))) (aB (aA 1) aD))) (gN 0) (aT ["_law_m"] [(0,"_law_k")] (dC (aB (aA 1) aD)) (gN 0) (mR kQ (aB (aC eB (aA 0) (aA 1)) aD))))=CD at *;simp! [aE,aZ,bA,aP,aM,aN,aK,aL,aF,aJ,fO,eC,iZ,bR,dC,rg,lp,et,ed,kM,iD,tk]
 .refine⟨[[a,b],[c,d],[e,f]],n3,?_,Gz ha ‹0<=b/\b<=1› hc hd he hf z⟩
  have hv:bH [[a,b],[c,d],[e,f]]=.lst [lv [a,b],lv [c,d],lv [e,f]]:=rfl;rw[hv,hb' (.ok (.ref (R.length+1)) (.lst (li n3)::R++[.lst [lv [a,b],lv [c,d],lv [e,f]]])) ?_]
  .simp[kP,frz]
  .rintro _ rfl
   rw[hb];generalize [lv [a,b],lv [c,d],lv [e,f]]=LL,rB=RB,(aT ["_law_k"] [(1,"_law_dims")] (jJ (aB (bG bX (mC (.int 1))) (aB (aA 1) aD))) (gN 0) (aT ["_law_m"] [(0,"_law_k")] (dC (aB (aA 1) aD)) (gN 0) (mR kQ (aB (aC eB (aA 0) (aA 1)) aD))))=CD,dU ([[a,b],[c,d],[e,f]].map (·++[1]))=dd at *;simp! [aE,aZ,bA,aP,aM,aN,aK,aL,aF,aJ,fO,eC,iZ,bR,dC,rg,lp,et,z,kM,iD,tk]
theorem xV{V:PV}{xs:AN}{np n:Nat}{b:MS}{S:aG}(h1:xs.length=np)(h2:b (fO n xs) S=.rt (.pv V) S):aR np n b xs S=.ok (.pv V) S:=rN h1 h2 (by simp[iD])
theorem rR(p q:Int)(hp:0<=p/\p<=1)(hq:0<=q/\q<=1):eI (.int (2*p+2*q)) (.int 2)=some (.int (p+q)):=by
 have e:=jV (i:=2*p+2*q) (j:=2) ⟨by decide,oM (by decide) (by decide)⟩;have h:(2*p+2*q).fdiv 2=p+q:=by
  rw[wn _ (by decide)];omega
 rw[h]at e;exact e
theorem Uz{T:AE}(h:T∈jY)(S:aG):sY [.pv (bH T)] S=.ok (.pv (.tup [.lst [bH (eR T)],.lst ((eJ T).map bH)])) S:=by
 obtain⟨a,b,c,d,e,f,rfl,ha,hb,hc,hd,he,hf⟩:=wG h;have m:∀x:Int,aS (.int 2) (.int x)=some (.int (2*x)):=λx=>iS (.inl (.inl ⟨by decide,by decide⟩));have h1:=rR a c ha hc;have h2:=rR b d hb hd;have h3:=rR a e ha he;have h4:=rR b f hb hf;have h5:=rR c e hc he;have h6:=rR d f hd hf;have er:PV.tup [.lst [bH (eR [[a,b],[c,d],[e,f]])],.lst ((eJ [[a,b],[c,d],[e,f]]).map bH)]=.tup [.lst [.lst [.lst [.int (2*a),.int (2*b)],.lst [.int (2*c),.int (2*d)],.lst [.int (2*e),.int (2*f)]]],.lst [.lst [.lst [.int (2*a),.int (2*b)],.lst [.int (a+c),.int (b+d)],.lst [.int (a+e),.int (b+f)]],.lst [.lst [.int (a+c),.int (b+d)],.lst [.int (2*c),.int (2*d)],.lst [.int (c+e),.int (d+f)]],.lst [.lst [.int (a+e),.int (b+f)],.lst [.int (c+e),.int (d+f)],.lst [.int (2*e),.int (2*f)]],.lst [.lst [.int (a+c),.int (b+d)],.lst [.int (c+e),.int (d+f)],.lst [.int (a+e),.int (b+f)]]]]:=rfl;have ea:bH [[a,b],[c,d],[e,f]]=.lst [.lst [.int a,.int b],.lst [.int c,.int d],.lst [.int e,.int f]]:=rfl;rw[er,ea];unfold sY Oa;refine xV rfl ?_
 .apply sq;simp! [aE,aZ,bA,aP,aM,aN,aK,aL,aF,aJ,fO,xR,aT,bZ,aY,bS,dE,dB,gN,bV,cQ,m];exact⟨rfl,rfl⟩
  apply sq;simp! [aE,aZ,bA,aP,aM,aN,aK,aL,aF,aJ,aT,bZ,dX,fQ,dY,bS,dE,dB,gN,gT,bV,cQ,h1,h2];exact⟨rfl,rfl⟩;apply sq;simp! [aE,aZ,bA,aP,aM,aN,aK,aL,aF,aJ,aT,bZ,dX,fQ,dY,bS,dE,dB,gN,gT,bV,cQ,h3,h4];exact⟨rfl,rfl⟩;apply sq;simp! [aE,aZ,bA,aP,aM,aN,aK,aL,aF,aJ,aT,bZ,dX,fQ,dY,bS,dE,dB,gN,gT,bV,cQ,h5,h6];exact⟨rfl,rfl⟩;apply sq;simp! [aE,aZ,bA,aP,aM,aN,aK,aL,aF,aJ,cN];exact⟨rfl,rfl⟩;simp! [aE,aZ,bA,aP,aM,aN,aK,aL,aF,aJ,cN,dP]
def kK(g:AF×AF):Prop:=∃T∈jY,g=([T],[T])\/g=([eR T],eJ T)\/g=(eJ T,[eR T])
abbrev qM:MS:=(aI (aQ 4 (aO mO [] (aB (aA 0) (aB (mC (.int 2)) (aB (mC (.int 1)) aD))))) (aI (aQ 5 (aO dN [] (aB (aA 0) (aB (mC (.int 4)) aD)))) (cZ (bT (aC jS (aA 5) (mC (.int 2)))) (aI (fK (fD (aA 1) (aB (aA 4) aD))) (fK (fD (aA 2) (aB (aA 4) aD)))) (aI (sA (gT 2 (bV (gN 6) (bV (gN 7) cQ))) (aO sY [] (aB (aA 4) aD))) (aI (cZ (bT (aC eB (aA 5) (mC (.int 2)))) (mW 6 7 (aB (aA 7) (aB (aA 6) aD))) dZ) (aI (aQ 1 (iW (aA 1) (aA 6))) (aQ 2 (iW (aA 2) (aA 7)))))))))
theorem Q2{S:aG}{R:aG}{ns:AB}{i j:Nat}{A B:AK}(hS:S=.lst (li ns)::R)(hij:i≠j)(hi0:1<=i)(hj0:1<=j)(hi:S[i]?=some (.lst A))(hj:S[j]?=some (.lst B))(lA:A.length<=90)(lB:B.length<=90)(x3 x4 x5 x6 x7:AM):∃(g:AF×AF)(ns':AB)(R':aG)(i' j':Nat)(y4 y5 y6 y7:AM),kK g/\qM [some (.ref 0),some (.ref i),some (.ref j),x3,x4,x5,x6,x7] S=.nx [some (.ref 0),some (.ref i'),some (.ref j'),x3,y4,y5,y6,y7] (.lst (li ns')::R')/\i'≠j'/\1<=i'/\1<=j'/\(.lst (li ns')::R':aG)[i']?=some (.lst (A++g.1.map bH))/\(.lst (li ns')::R':aG)[j']?=some (.lst (B++g.2.map bH)):=by
 subst hS;obtain⟨T,n1,e1,hT⟩:=X8 ns R;obtain⟨t,n2,e2,t0,t1⟩:=mX (m:=4) (by decide) (by decide) n1 R;have c1:∀ρ:bY,ρ[0]?=some (some (.ref 0))->aO mO [] (aB (aA 0) (aB (mC (.int 2)) (aB (mC (.int 1)) aD))) ρ (.lst (li ns)::R)=.ok (.pv (bH T)) (.lst (li n1)::R):=λρ h=>by
  refine Gs (xs:=[.ref 0,.pv (.int 2),.pv (.int 1)]) (S1:=.lst (li ns)::R) (by simp! [bB,aM,aN,aK,aL,aF,aJ,h]) e1
 obtain⟨i,rfl⟩:∃k,i=k+1:=⟨i-1,by omega⟩;obtain⟨j,rfl⟩:∃k,j=k+1:=⟨j-1,by omega⟩;have hi:R[i]?=some (.lst A):=by simpa using hi
 have hj:R[j]?=some (.lst B):=by simpa using hj
 have li':i<R.length:=(da.mp hi).1;have lj':j<R.length:=(da.mp hj).1
 by_cases c:t<2
 .have s1:(R.set i (.lst (A++[bH T])))[j]?=some (.lst B):=by rw[jf (by omega)];exact hj
  refine⟨([T],[T]),n2,(R.set i (.lst (A++[bH T]))).set j (.lst (B++[bH T])),i+1,j+1,some (.pv (bH T)),some (.pv (.int t)),x6,x7,⟨T,hT,.inl rfl⟩,?_,hij,hi0,hj0,?_,?_⟩
  .have lz1:A.length<16777216:=by omega
   have lz2:B.length<16777216:=by omega
   have c1:=c1 [some (.ref 0),some (.ref (i+1)),some (.ref (j+1)),x3,x4,x5,x6,x7] rfl;generalize bH T=RT at *;unfold qM;generalize aO mO [] (aB (aA 0) (aB (mC (.int 2)) (aB (mC (.int 1)) aD)))=MR at *;apply sq;simp! [bB,aM,aN,aK,aL,aF,aJ,c1];exact⟨rfl,rfl⟩;apply sq;simp! [bB,aM,aN,aK,aL,aF,aJ,e2];exact⟨rfl,rfl⟩;simp! [bB,aM,aN,aK,aL,aF,aJ,c,fD,fW,kE,hi,hj,s1,lz1,lz2]
  .show((R.set i (.lst (A++[bH T]))).set j (.lst (B++[bH T])))[i]?=_
   rw[jf (by omega),ie li'];rfl
  .show((R.set i (.lst (A++[bH T]))).set j (.lst (B++[bH T])))[j]?=_
   rw[ie (by rw[il];exact lj')];rfl
 .have ep:=Uz hT (.lst (li n2)::R)
  have lf:(eJ T).length=4:=by
   obtain⟨a,b,c,d,e,f,rfl,_⟩:=wG hT;rfl
  have fin:∀(g:AF×AF),kK g->g.1.length<=4->g.2.length<=4->∀x6 x7:AM,(aI (aQ 1 (iW (aA 1) (aA 6))) (aQ 2 (iW (aA 2) (aA 7)))) [some (.ref 0),some (.ref (i+1)),some (.ref (j+1)),x3,some (.pv (bH T)),some (.pv (.int t)),some (.pv (.lst (g.1.map bH))),some (.pv (.lst (g.2.map bH)))] (.lst (li n2)::R)=.nx [some (.ref 0),some (.ref (R.length+1)),some (.ref (R.length+2)),x3,some (.pv (bH T)),some (.pv (.int t)),some (.pv (.lst (g.1.map bH))),some (.pv (.lst (g.2.map bH)))] (.lst (li n2)::(R++[.lst (A++g.1.map bH)]++[.lst (B++g.2.map bH)])):=λg _ l1 l2 x6 x7=>by
   have z1:A.length+(g.1.map bH).length<=16777216:=by rw[ak];omega
   have z2:B.length+(g.2.map bH).length<=16777216:=by rw[ak];omega
   have hj2:∀X:SO,(R++[X])[j]?=some (.lst B):=λX=>by rw[fu lj'];exact hj
   generalize bH T=RT,g.2.map bH=G2,g.1.map bH=G1 at *;apply sq;simp! [bB,aM,aN,aK,aL,aF,aJ,iW,hi,z1];exact⟨rfl,rfl⟩;simp! [bB,aM,aN,aK,aL,aF,aJ,iW,hj2,z2]
  have at1:∀X Y:AK,(.lst (li n2)::(R++[.lst X]++[.lst Y]):aG)[R.length+1]?=some (.lst X)/\(.lst (li n2)::(R++[.lst X]++[.lst Y]):aG)[R.length+2]?=some (.lst Y):=λX Y=>by
   simp
  have c1:=c1 [some (.ref 0),some (.ref (i+1)),some (.ref (j+1)),x3,x4,x5,x6,x7] rfl
  by_cases c2:t=2
  .subst c2
   have g0:kK (eJ T,[eR T]):=⟨T,hT,.inr (.inr rfl)⟩;have f0:=fin (eJ T,[eR T]) g0 (by rw[lf];decide) (by show 1<=4;decide) none none;refine⟨(eJ T,[eR T]),n2,_,R.length+1,R.length+2,some (.pv (bH T)),some (.pv (.int 2)),some (.pv (.lst ((eJ T).map bH))),some (.pv (.lst ([eR T].map bH))),g0,?_,by omega,by omega,by omega,(at1 _ _).1,(at1 _ _).2⟩;have e5:[eR T].map bH=[bH (eR T)]:=rfl;rw[e5]at f0⊢;generalize bH T=RT,bH (eR T)=GT,(eJ T).map bH=FT at *;unfold qM;generalize (aI (aQ 1 (iW (aA 1) (aA 6))) (aQ 2 (iW (aA 2) (aA 7))))=AA,aO mO [] (aB (aA 0) (aB (mC (.int 2)) (aB (mC (.int 1)) aD)))=MR at *;apply sq;simp! [bB,aM,aN,aK,aL,aF,aJ,c1];exact⟨rfl,rfl⟩;apply sq;simp! [bB,aM,aN,aK,aL,aF,aJ,e2];exact⟨rfl,rfl⟩;simp! [bB,aM,aN,aK,aL,aF,aJ,sA,ep,gT,bV,cQ,gN,mW,f0]
  .have g0:kK ([eR T],eJ T):=⟨T,hT,.inr (.inl rfl)⟩
   have f0:=fin ([eR T],eJ T) g0 (by show 1<=4;decide) (by rw[lf];decide) none none;refine⟨([eR T],eJ T),n2,_,R.length+1,R.length+2,some (.pv (bH T)),some (.pv (.int t)),some (.pv (.lst ([eR T].map bH))),some (.pv (.lst ((eJ T).map bH))),g0,?_,by omega,by omega,by omega,(at1 _ _).1,(at1 _ _).2⟩;have e5:[eR T].map bH=[bH (eR T)]:=rfl;rw[e5]at f0⊢;have c3:(t==2)=false:=by simpa using c2
   generalize bH T=RT,bH (eR T)=GT,(eJ T).map bH=FT at *;unfold qM;generalize (aI (aQ 1 (iW (aA 1) (aA 6))) (aQ 2 (iW (aA 2) (aA 7))))=AA,aO mO [] (aB (aA 0) (aB (mC (.int 2)) (aB (mC (.int 1)) aD)))=MR at *;apply sq;simp! [bB,aM,aN,aK,aL,aF,aJ,c1];exact⟨rfl,rfl⟩;apply sq;simp! [bB,aM,aN,aK,aL,aF,aJ,e2];exact⟨rfl,rfl⟩;simp! [bB,aM,aN,aK,aL,aF,aJ,c,c3,sA,ep,gT,bV,cQ,gN,mW,f0]
theorem rF{g:AF×AF}(h:kK g):g.1.length<=4/\g.2.length<=4/\∀R,R∈g.1\/R∈g.2->jC R:=by
 obtain⟨T,hT,h⟩:=h;have lf:(eJ T).length=4:=by
  obtain⟨a,b,c,d,e,f,rfl,_⟩:=wG hT;rfl
 have one:∀{R Q:AE},R∈[Q]->R=Q:=λh=>by simpa using h
 rcases h with rfl |rfl |rfl
 .refine⟨by show 1<=4;decide,by show 1<=4;decide,λR hR=>⟨T,hT,.inl ?_⟩⟩
  rcases hR with h |h<;>exact one h
 .refine⟨by show 1<=4;decide,by show(eJ T).length<=4;omega,λR hR=>⟨T,hT,.inr ?_⟩⟩
  rcases hR with h |h
  .exact .inl (one h)
  .exact .inr h
 .refine⟨by show(eJ T).length<=4;omega,by show 1<=4;decide,λR hR=>⟨T,hT,.inr ?_⟩⟩
  rcases hR with h |h
  .exact .inr h
  .exact .inl (one h)
theorem Sn:∀(is:AK)(R:aG)(ns:AB)(i j:Nat)(A B:AK)(x3 x4 x5 x6 x7:AM),i≠j->1<=i->1<=j->(.lst (li ns)::R:aG)[i]?=some (.lst A)->(.lst (li ns)::R:aG)[j]?=some (.lst B)->A.length+4*is.length<=80->B.length+4*is.length<=80->∃(gs:List (AF×AF))(ns':AB)(R':aG)(i' j':Nat)(y3 y4 y5 y6 y7:AM),(∀g∈gs,kK g)/\gs.length=is.length/\cM [] (gN 3) qM is [some (.ref 0),some (.ref i),some (.ref j),x3,x4,x5,x6,x7] (.lst (li ns)::R)=.nx [some (.ref 0),some (.ref i'),some (.ref j'),y3,y4,y5,y6,y7] (.lst (li ns')::R')/\1<=i'/\(.lst (li ns')::R':aG)[i']?=some (.lst (A++(gs.flatMap (·.1)).map bH))/\(.lst (li ns')::R':aG)[j']?=some (.lst (B++(gs.flatMap (·.2)).map bH))
 |[],R,ns,i,j,A,B,x3,x4,x5,x6,x7,_,i0,_,hi,hj,_,_=>⟨[],ns,R,i,j,x3,x4,x5,x6,x7,λ_ h=>absurd h cf,rfl,eQ,i0,by simpa using hi,by simpa using hj⟩
 |k::is,R,ns,i,j,A,B,x3,x4,x5,x6,x7,ij,i0,j0,hi,hj,lA,lB=>by
  simp only[cu]at lA lB;obtain⟨g,n1,R1,i1,j1,y4,y5,y6,y7,hg,e1,ij1,i01,j01,hi1,hj1⟩:=Q2 (S:=.lst (li ns)::R) rfl ij i0 j0 hi hj (by omega) (by omega) (some (.pv k)) x4 x5 x6 x7;obtain⟨l1,l2,_⟩:=rF hg;obtain⟨gs,n2,R2,i2,j2,z3,z4,z5,z6,z7,hgs,lg,e2,i02,hi2,hj2⟩:=Sn is R1 n1 i1 j1 _ _ (some (.pv k)) y4 y5 y6 y7 ij1 i01 j01 hi1 hj1 (by rw[ca,ak];omega) (by rw[ca,ak];omega);refine⟨g::gs,n2,R2,i2,j2,z3,z4,z5,z6,z7,λq hq=>?_,by rw[cu,cu,lg],?_,i02,?_,?_⟩
  .rcases bo.mp hq with rfl |hq
   .exact hg
   .exact hgs q hq
  .rw[dM]
   simp only[gN,cw,cj];rw[e1];exact e2
  .rw[ir,fe,<-jr]
   exact hi2
  .rw[ir,fe,<-jr]
   exact hj2
theorem Sl{L:AK}(h:L.length<=8):iJ L none none (-1)=L.reverse:=by
 match L,h with
 |[],_=>exact mP (n:=0) (is:=[]) rfl (by decide+kernel)
 |[a],_=>exact mP (n:=1) (is:=[0]) rfl (by decide+kernel)
 |[a,b],_=>exact mP (n:=2) (is:=[1,0]) rfl (by decide+kernel)
 |[a,b,c],_=>exact mP (n:=3) (is:=[2,1,0]) rfl (by decide+kernel)
 |[a,b,c,d],_=>exact mP (n:=4) (is:=[3,2,1,0]) rfl (by decide+kernel)
 |[a,b,c,d,e],_=>exact mP (n:=5) (is:=[4,3,2,1,0]) rfl (by decide+kernel)
 |[a,b,c,d,e,f],_=>exact mP (n:=6) (is:=[5,4,3,2,1,0]) rfl (by decide+kernel)
 |[a,b,c,d,e,f,g],_=>exact mP (n:=7) (is:=[6,5,4,3,2,1,0]) rfl (by decide+kernel)
 |[a,b,c,d,e,f,g,h],_=>exact mP (n:=8) (is:=[7,6,5,4,3,2,1,0]) rfl (by decide+kernel)
theorem Md{gs:List (AF×AF)}{f:AF×AF->AF}(h:∀g∈gs,(f g).length<=4):(gs.flatMap f).length<=4*gs.length:=by
 induction gs with
 |nil=>simp
 |cons g gs ih=>
  have:=ih λq hq=>h q (ax _ hq);have:=h g (by simp);rw[ir,ca,cu];omega
theorem F8(ns:AB):∃(gs:List (AF×AF))(ns':AB),sN [.ref 0] [.lst (li ns)]=.ok (.pv (.tup [.lst ((gs.flatMap (·.1)).map bH),.lst ((gs.flatMap (·.2)).reverse.map bH)])) [.lst (li ns')]/\1<=gs.length/\gs.length<=2/\∀g∈gs,kK g:=by
 obtain⟨t,n1,e1,t0,t1⟩:=mX (m:=2) (by decide) (by decide) ns [.lst [],.lst []];obtain⟨is,rg,l1,l2⟩:∃is:AK,iE [.pv (.int (1+t))] [.lst (li n1),.lst [],.lst []]=.ok (is,[]) [.lst (li n1),.lst [],.lst []]/\1<=is.length/\is.length<=2:=by
  obtain⟨k,ek,k1,k2⟩:∃k:Nat,1+t=(k:Int)/\1<=k/\k<=2:=⟨(1+t).toNat,by omega,by omega,by omega⟩;refine⟨eG 0 k,by rw[ek];exact lZ _ (by omega),?_,?_⟩<;>(unfold eG;simp;omega)
 obtain⟨gs,n2,R2,i2,j2,y3,y4,y5,y6,y7,hg,lg,e2,i02,hi2,hj2⟩:=Sn is [.lst [],.lst []] n1 1 2 [] [] none none none none none (by decide) (by decide) (by decide) rfl rfl (by simp;omega) (by simp;omega);rw[gi]at hi2 hj2;have l8:((gs.flatMap (·.2)).map bH).length<=8:=by
  have:=Md (f:=(·.2)) λg hgg=>(rF (hg g hgg)).2.1;rw[ak];omega
 have pk:=Sl l8;rw[<-qv]at pk;refine⟨gs,n2,?_,by omega,by omega,hg⟩;generalize (gs.flatMap (·.2)).map bH=G2,(gs.flatMap (·.2)).reverse.map bH=G3,(gs.flatMap (·.1)).map bH=G1 at *;have hb:zK=(uL (lK (aQ 1 (eC aD)) (lK (aQ 2 (eC aD)) (lK (bR (dC (aB (aC aF (mC (.int 1)) (aO dN [] (aB (aA 0) (aB (mC (.int 2)) aD)))) aD)) (gN 3) qM) (sD 1 (oH (aA 2) cO cO (-1))))))):=rfl;unfold sN;rw[hb];generalize qM=TB at *;obtain⟨i,rfl⟩:∃k,i2=k+1:=⟨i2-1,by omega⟩;have hi3:R2[i]?=some (.lst G1):=by simpa using hi2
 apply rN (v:=.pv (.tup [.lst G1,.lst G3])) (S':=[.lst (li n2)]) rfl
 .unfold uL lK
  apply sq;simp! [aE,aZ,bA,aP,aM,aN,aK,aL,aF,aJ,fO,eC,iZ];exact⟨rfl,rfl⟩;apply sq;simp! [aE,aZ,bA,aP,aM,aN,aK,aL,aF,aJ,eC,iZ];exact⟨rfl,rfl⟩;refine sq (ρ':=[some (.ref 0),some (.ref (i+1)),some (.ref j2),y3,y4,y5,y6,y7]) (S':=.lst (li n2)::R2) ?_ ?_
  .simp! [aE,aZ,bA,aP,aM,aN,aK,aL,aF,aJ,bR,dC,e1,rg,e2]
  .simp! [aE,aZ,bA,aP,aM,aN,aK,aL,aF,aJ,sD,oH,Oe,cO,hi3,hj2,pk]
 .simp[iD]
abbrev oN:MS:=(aI (mK (aA 2) (lM (aA 1) (aB (aO dN [] (aB (aA 0) (aB (mR fE (aB (aA 1) aD)) aD))) aD)) (mC (.int 1)))
 (fK (fD (aA 3) (aB (mR kA (aB (aA 2) aD)) aD))))
theorem Qe(ns:AB)(R C:AB)(L:AE)(x4:AM)(hR0:0<R.length)(hR3:R.length<=3)(hv:∀v∈R,0<=v/\v<3)(hC:C.length=3)(hL:L.length<=9):
  ∃(j v:Nat)(ns':AB),j<R.length/\R[j]?=some (v:Int)/\oN [some (.ref 0),some (.ref 1),some (.ref 2),some (.ref 3),x4] [.lst (li ns),.lst (li R),.lst (li C),.lst (L.map lv)]
   = .nx [some (.ref 0),some (.ref 1),some (.ref 2),some (.ref 3),x4] [.lst (li ns'),.lst (li (R.eraseIdx j)),.lst (li (C.set v 1)),.lst ((L++[C.set v 1]).map lv)]:=by
 have hr:fZ [.lst (li ns),.lst (li R),.lst (li C),.lst (L.map lv)] 0 ns:=rfl;obtain⟨t,n1,e1,t0,t1,_⟩:=lE (m:=(R.length:Int)) hr (by omega) (oM (by omega) (by omega));simp only[cj]at e1;obtain⟨j,rfl⟩:∃j:Nat,t=(j:Int):=⟨t.toNat,by omega⟩;have hj:j<R.length:=by omega
 obtain⟨v,ev⟩:∃v:Nat,R[j]=(v:Int):=⟨R[j].toNat,by have:=hv _ (di hj);omega⟩;have hv3:v<3:=by have:=hv _ (di hj);omega
 have hq:R[j]?=some (v:Int):=by rw[av hj,ev]
 have ep:=Tp (S:=[.lst (li n1),.lst (li R),.lst (li C),.lst (L.map lv)]) (k:=1) (j:=j) (xs:=li R) (v:=.int v) rfl (by rw[dk,hq];rfl) (by omega);simp only[cw,cj]at ep;have er:(li R).eraseIdx j=li (R.eraseIdx j):=Va _ _ _;rw[er]at ep;have ei:bA (li C).length (v:Int)=some v:=by
  rw[ak,hC];exact Eu v hv3
 have ec:(li C).set v (.int 1)=li (C.set v 1):=by simp[li,xp]
 refine⟨j,v,n1,hj,hq,?_⟩;have e1':dN [.ref 0,.pv (.int ((li R).length:Int))] [.lst (li ns),.lst (li R),.lst (li C),.lst (L.map lv)]=.ok (.pv (.int (j:Int))) [.lst (li n1),.lst (li R),.lst (li C),.lst (L.map lv)]:=by
  rw[ak];exact e1
 have el:(L++[C.set v 1]).map lv=L.map lv++[.lst (li (C.set v 1))]:=by simp
 rw[el];have lz:(L.map lv).length<16777216:=by rw[ak];omega
 generalize li n1=NL1,li ns=NL,(j:Int)=J,li R=RL,li (R.eraseIdx j)=RE,li C=CL,li (C.set v 1)=CS,L.map lv=LL at *;unfold oN;simp! [bB,aM,aN,aK,aL,aF,aJ,mK,pU,lM,fD,kE,fW,e1',ep,ei,ec,lz]
theorem Cu(ns:AB)(R C:AB)(A:AE)(a b c:Nat)(x4:AM)(hR:R=[(c:Int)])(hc:c<3)(hC:C.length=3)(hA:A.length<=9)(ks:AF)(hk:A++[C.set c 1]∈ks):
  ∃(xss:AE)(ns':AB)(C':AB),xss∈ks/\cM [] (gN 4) oN [.int 2] [some (.ref 0),some (.ref 1),some (.ref 2),some (.ref 3),x4] [.lst (li ns),.lst (li R),.lst (li C),.lst (A.map lv)]
   = .nx [some (.ref 0),some (.ref 1),some (.ref 2),some (.ref 3),some (.pv (.int 2))] [.lst (li ns'),.lst [],.lst (li C'),.lst (xss.map lv)]:=by
 obtain⟨j,v,n1,hj,e,h⟩:=Qe ns R C A (some (.pv (.int 2))) (by rw[hR];simp) (by rw[hR];simp) (by rw[hR];simp;omega) hC hA;obtain⟨rfl,ev⟩:=Tt hR hj e;have:v=c:=by omega
 subst this;subst hR;refine⟨_,n1,C.set v 1,hk,?_⟩;rw[dM];simp only[gN,cw,cj];rw[h];exact eQ
theorem Ff(ns:AB)(R C:AB)(A:AE)(b c:Nat)(x4:AM)(hR:R=[(b:Int),(c:Int)])(hb:b<3)(hc:c<3)(hC:C.length=3)(hA:A.length<=8)(ks:AF)(h1:A++[C.set b 1]++[(C.set b 1).set c 1]∈ks)(h2:A++[C.set c 1]++[(C.set c 1).set b 1]∈ks):
  ∃(xss:AE)(ns':AB)(C':AB),xss∈ks/\cM [] (gN 4) oN [.int 1,.int 2] [some (.ref 0),some (.ref 1),some (.ref 2),some (.ref 3),x4] [.lst (li ns),.lst (li R),.lst (li C),.lst (A.map lv)]
   = .nx [some (.ref 0),some (.ref 1),some (.ref 2),some (.ref 3),some (.pv (.int 2))] [.lst (li ns'),.lst [],.lst (li C'),.lst (xss.map lv)]:=by
 obtain⟨j,v,n1,hj,e,h⟩:=Qe ns R C A (some (.pv (.int 1))) (by rw[hR];simp) (by rw[hR];simp) (by rw[hR];simp;omega) hC (by omega);rw[dM];simp only[gN,cw,cj];rw[h];rcases Et hR hj e with⟨rfl,ev⟩|⟨rfl,ev⟩
 .have:v=b:=by omega
  subst this;subst hR;exact Cu n1 _ (C.set v 1) _ 0 0 c _ rfl hc (by rw[il];exact hC) (by simp;omega) ks h1
 .have:v=c:=by omega
  subst this;subst hR;exact Cu n1 _ (C.set v 1) _ 0 0 b _ rfl hb (by rw[il];exact hC) (by simp;omega) ks h2
theorem k1p(ns:AB)(x4:AM):
  ∃(xss:AE)(ns':AB)(C':AB),xss∈k6/\cM [] (gN 4) oN [.int 0,.int 1,.int 2] [some (.ref 0),some (.ref 1),some (.ref 2),some (.ref 3),x4] [.lst (li ns),.lst (li [0,1,2]),.lst (li [0,0,0]),.lst ([[0,0,0]].map lv)]
   = .nx [some (.ref 0),some (.ref 1),some (.ref 2),some (.ref 3),some (.pv (.int 2))] [.lst (li ns'),.lst [],.lst (li C'),.lst (xss.map lv)]:=by
 obtain⟨j,v,n1,hj,e,h⟩:=Qe ns [0,1,2] [0,0,0] [[0,0,0]] (some (.pv (.int 0))) (by decide) (by decide) (by decide) rfl (by decide);rw[dM];simp only[gN,cw,cj];rw[h];rcases Bt rfl hj e with⟨rfl,ev⟩|⟨rfl,ev⟩|⟨rfl,ev⟩
 .have:v=0:=by omega
  subst this;exact Ff n1 _ [1,0,0] _ 1 2 _ rfl (by decide) (by decide) rfl (by decide) k6 (by decide) (by decide)
 .have:v=1:=by omega
  subst this;exact Ff n1 _ [0,1,0] _ 0 2 _ rfl (by decide) (by decide) rfl (by decide) k6 (by decide) (by decide)
 .have:v=2:=by omega
  subst this;exact Ff n1 _ [0,0,1] _ 0 1 _ rfl (by decide) (by decide) rfl (by decide) k6 (by decide) (by decide)
theorem Rs:∀R∈k6,(R.length=4/\(∀y∈R,y.length=3/\∀x∈y,0<=x/\x<=1))/\dU (R.map (·++[1]))≠0:=by decide+kernel
theorem acA(ns:AB):∃(R:AE)(ns':AB),frz 1 (kP (nH [.ref 0] [.lst (li ns)]))=.ok (.pv (bH R)) [.lst (li ns')]/\R∈k6:=by
 obtain⟨xss,n1,C,hk,e⟩:=k1p ns none;refine⟨xss,n1,?_,hk⟩;have hb:zI=(aI (aQ 1 (eC (aB (mC (.int 0)) (aB (mC (.int 1)) (aB (mC (.int 2)) aD))))) (aI (aQ 2 (eC (aB (mC (.int 0)) (aB (mC (.int 0)) (aB (mC (.int 0)) aD))))) (aI (aQ 3 (eC (aB (mR kA (aB (aA 2) aD)) aD))) (aI (bR (dC (aB (mC (.int 3)) aD)) (gN 4) oN) (bC (aA 3)))))):=rfl;have hf:nH [.ref 0] [.lst (li ns)]=.ok (.ref 1) [.lst (li n1),.lst (xss.map lv)]:=by
  have rg:∀S,iE [.pv (.int 3)] S=.ok ([.int 0,.int 1,.int 2],[]) S:=λS=>lZ S (n:=3) (by decide);unfold nH;rw[hb];have e:cM [] (gN 4) oN [.int 0,.int 1,.int 2] [some (.ref 0),some (.ref 1),some (.ref 2),some (.ref 3),none] [.lst (li ns),.lst [.int 0,.int 1,.int 2],.lst [.int 0,.int 0,.int 0],.lst [.lst [.int 0,.int 0,.int 0]]]=.nx [some (.ref 0),some (.ref 1),some (.ref 2),some (.ref 3),some (.pv (.int 2))] [.lst (li n1),.lst [],.lst (li C),.lst (xss.map lv)]:=e;generalize oN=KB,li C=CL,li n1=N1,li ns=NL,xss.map lv=XL at *;apply rN (v:=.ref 3) (S':=[.lst N1,.lst [],.lst CL,.lst XL]) rfl
  .apply sq;simp! [aE,aZ,bA,aP,aM,aN,aK,aL,aF,aJ,fO,eC,iZ];exact⟨rfl,rfl⟩
   apply sq;simp! [aE,aZ,bA,aP,aM,aN,aK,aL,aF,aJ,eC,iZ];exact⟨rfl,rfl⟩;apply sq;simp! [aE,aZ,bA,aP,aM,aN,aK,aL,aF,aJ,eC,iZ,kA];exact⟨rfl,rfl⟩;refine sq (ρ':=[some (.ref 0),some (.ref 1),some (.ref 2),some (.ref 3),some (.pv (.int 2))]) (S':=[.lst N1,.lst [],.lst CL,.lst XL]) ?_ ?_
   .simp! [aE,aZ,bA,aP,aM,aN,aK,aL,aF,aJ,bR,dC,rg,e]
   .simp! [aE,aZ,bA,aP,aM,aN,aK,aL,aF,aJ]
  .simp[iD]
 rw[hf];rfl
theorem Yl:∀(is:AK)(ns:AB)(x:AM),∃(hs:AF)(ns':AB),cF [] (gN 0) (aO nH [] (aB (aA 1) aD)) is [x,some (.ref 0)] [.lst (li ns)]=.ok (hs.map bH) [.lst (li ns')]/\hs.length=is.length/\∀R∈hs,R∈k6
 |[],ns,x=>⟨[],ns,dB,rfl,λ_ h=>absurd h cf⟩
 |i::is,ns,x=>by
  obtain⟨R,n1,e1,hR⟩:=acA ns;obtain⟨hs,n2,e2,l2,h2⟩:=Yl is n1 (some (.pv i));refine⟨R::hs,n2,?_,by simp[l2],λQ hQ=>?_⟩
  .rw[dE]
   have c1:aO nH [] (aB (aA 1) aD) [some (.pv i),some (.ref 0)] [.lst (li ns)]=.ok (.pv (bH R)) [.lst (li n1)]:=Gs (xs:=[.ref 0]) (S1:=[.lst (li ns)]) (by simp! [bB,aM,aN,aK,aL,aF,aJ]) e1;simp only[gN,cj];rw[c1];dsimp only;rw[e2];rfl
  .rcases bo.mp hQ with rfl |hQ
   .exact hR
   .exact h2 Q hQ
def gz(m k:Int):Int:=((bf m k:Nat):Int)
def kH(fs:List (Int×Int))(ms:AB):AK:=au (λu m=>PV.tup ((fr (m*u.1) u.2).map .int)) fs ms
theorem tX{u:Int×Int}(hu:Sp u){m k:Int}(hm:0<=m/\m<=4)(hk:-2<=k/\k<=2)(S:aG):tD [.pv (.tup ((fr (m*u.1) u.2).map .int)),.pv (.tup ((fr (k*u.1) u.2).map .int))] S=.ok (.pv (.tup ((fr (gz m k*u.1) u.2).map .int))) S:=by
 have b1:Bd 40 (m*u.1):=((show Bd 7 m from Bd.of (n:=4) (by omega) (by decide)).mul hu.bp).mono (by decide);have b2:Bd 40 (k*u.1):=((show Bd 7 k from Bd.of (n:=4) (by omega) (by decide)).mul hu.bp).mono (by decide);have bq:Bd 40 u.2:=hu.bq.mono (by decide);obtain⟨e1,d0,n1,n2,_⟩:=lL hu.q bq b1;obtain⟨e2,f0,k1,k2,_⟩:=lL hu.q bq b2;have c1:=nK hu.q bq b1;have c2:=nK hu.q bq b2;rw[e1,e2];generalize pB u.2 (k*u.1)=e,pT u.2 (k*u.1)=t,pB u.2 (m*u.1)=d,pT u.2 (m*u.1)=n at *;have m1:=cU n1 k2;have m2:=cU k1 n2;have m3:=cU n2 k2;have hde:=aj d0 f0;have ed:=Da (n*e) (t*d) S;have ec:((bf (n*e) (t*d):Nat):Int)*u.2=gz m k*u.1*(d*e):=by
  have g1:bf (n*e*u.2) (t*d*u.2)=bf (n*e) (t*d)*u.2.natAbs:=u4 _ _ _;have g2:bf (m*(u.1*(d*e))) (k*(u.1*(d*e)))=bf m k*(u.1*(d*e)).natAbs:=u4 _ _ _;have i1:n*e*u.2=m*(u.1*(d*e)):=by clear m1 m2 m3 ed;grind
  have i2:t*d*u.2=k*(u.1*(d*e)):=by clear m1 m2 m3 ed;grind
  rw[i1,i2,g2]at g1;have p1:=aj hu.p hde;have q1:=hu.q;have z1:((u.2.natAbs:Nat):Int)=u.2:=by omega
  have z2:(((u.1*(d*e)).natAbs:Nat):Int)=u.1*(d*e):=by omega
  have g3:=congrArg (λx:Nat=>(x:Int)) g1;simp only[xo,z1,z2]at g3;unfold gz;rw[<-g3,jp]
 have bz:Bd 200 ((bf (n*e) (t*d):Nat):Int):=by
  by_cases z:t*d=0
  .have z2:bf (n*e) (t*d)=(n*e).natAbs:=by rw[z,Int.gcd_zero_right]
   rw[z2];have b:=(n1.mul k2).mono (show 40+40<=200 by decide);unfold Bd at b⊢;omega
  .have h1:Nat.gcd (n*e).natAbs (t*d).natAbs<=(t*d).natAbs:=Nat.le_of_dvd (by omega) (Nat.gcd_dvd_right _ _)
   have h2:bf (n*e) (t*d)=Nat.gcd (n*e).natAbs (t*d).natAbs:=rfl;have b:=(k1.mul n2).mono (show 40+40<=200 by decide);unfold Bd at b⊢;omega
 have ef:=zP ((bf (n*e) (t*d):Nat):Int) (d*e) S (bz.mono (by decide)) ((n2.mul k2).mono (by decide)) (dw hde);rw[lC hde hu.q ec]at ef;generalize (fr (gz m k*u.1) u.2).map PV.int=RL at *;have i0:aE (.tup [.int n,.int d]) (.int 0)=some (.int n):=rfl;have i1:aE (.tup [.int n,.int d]) (.int 1)=some (.int d):=rfl;have j0:aE (.tup [.int t,.int e]) (.int 0)=some (.int t):=rfl;have j1:aE (.tup [.int t,.int e]) (.int 1)=some (.int e):=rfl;simp only[az,cn];clear ec bz c1 c2 e1 e2;generalize d*e=DE,t*d=MD,n*e=NE,((bf (n*e) (t*d):Nat):Int)=GC at *;unfold tD aR Vb;simp! [bB,aM,aN,aK,aL,aF,aJ,i0,i1,j0,j1,m1,m2,m3,ed,ef]
theorem E7{n:Nat}(hn:n=2\/n=3){fs:List (Int×Int)}(hf:fs.length=n)(h:∀u∈fs,Sp u){f:AB}(Gf:Gu n 100 f){y0 y:AB}(l0:y0.length=n)(b0:∀x∈y0,0<=x/\x<=2)(l1:y.length=n)(b1:∀x∈y,0<=x/\x<=2):∃v,(∀S,kY [.pv (tv (bJ fs f y)),.pv (tv (bJ fs f y0))] S=.ok (.pv v) S)/\∀S,oV [.pv v] S=.ok (.pv (.tup (kH fs (cS y0 y)))) S:=by
 obtain⟨g0,a0⟩:=rG hn hf h Gf l0 λx hx=>by have:=b0 x hx;omega
 obtain⟨g1,a1⟩:=rG hn hf h Gf l1 λx hx=>by have:=b1 x hx;omega
 unfold bJ;obtain⟨x0,w0,e0,P0⟩:=g0;obtain⟨x1,w1,e1,P1⟩:=g1;rw[e0]at a0⊢;rw[e1]at a1⊢;have k0:=xG a0;have k1:=xG a1;obtain⟨zs,z,el,Q,hz⟩:=Bs hn P1 P0 (by decide) (by decide);have E0:0<f.getLastD 0*eW fs:=by
  obtain⟨fx,fw,rfl,FP⟩:=Gf;have:(fx++[fw]).getLastD 0=fw:=by simp
  rw[this];exact aj FP.pos (tK hn hf h).1
 have key:∀j,j<n->zs.getD j 0*(1*(fs.getD j (0,1)).2)=(y.getD j 0-y0.getD j 0)*(fs.getD j (0,1)).1*z:=λj hj=>Zq E0 P0.pos P1.pos (k0 j hj) (k1 j hj) (wY hn hf _ hj) (hz j hj);refine⟨_,el,λS=>?_⟩;have em:=Zp S Q (by decide);have one:∀{x t:Int}{u:Int×Int},Sp u->Bd (201+201+1) x->x*(1*u.2)=t*u.1*z->PV.tup [.int (pT z x),.int (pB z x)]=.tup ((fr (t*u.1) u.2).map .int):=λ{x t u} hu bx e=>by
  have q:=(lL Q.pos Q.bw bx).1;have c:=lC (t:=x) (b:=z) (t':=t*u.1) (b':=u.2) Q.pos hu.q (by rw[<-e];grind);rw[<-c,q];rfl
 have et:(.tup (zs.map λx=>.tup [.int (pT z x),.int (pB z x)]):PV)=.tup (kH fs (cS y0 y)):=by
  rcases hn with rfl |rfl
  .match zs,Q.len,Q.bx,fs,hf,h,y,l1,y0,l0,key with
   |[x,t],_,bx,[u,v],_,h,[a,b],_,[c,d],_,key=>
    have r0:=one (h u (by simp)) (bx x (by simp)) (key 0 (by decide));have r1:=one (h v (by simp)) (bx t (by simp)) (key 1 (by decide));show PV.tup [PV.tup [.int (pT z x),.int (pB z x)],PV.tup [.int (pT z t),.int (pB z t)]]=_;rw[r0,r1];rfl
  .match zs,Q.len,Q.bx,fs,hf,h,y,l1,y0,l0,key with
   |[x,t,s],_,bx,[u,v,w],_,h,[a,b,e],_,[c,d,g],_,key=>
    have r0:=one (h u (by simp)) (bx x (by simp)) (key 0 (by decide));have r1:=one (h v (by simp)) (bx t (by simp)) (key 1 (by decide));have r2:=one (h w (by simp)) (bx s (by simp)) (key 2 (by decide));show PV.tup [PV.tup [.int (pT z x),.int (pB z x)],PV.tup [.int (pT z t),.int (pB z t)],PV.tup [.int (pT z s),.int (pB z s)]]=_;rw[r0,r1,r2];rfl
 rw[et]at em;exact em
abbrev sJ:MS:=(aI (aQ 5 (aO oV [] (aB (aO kY [] (aB (aA 4) (aB (aC aE (aA 3) (mC (.int 0))) aD))) aD))) (aI (aQ 6 (vD (oE (aA 1)) (aA 1) (aT ["part"] [] (aY (aA 5)) (gN 0) (mN dP (aB (mC (.int 0)) (aB (mC (.int 1)) aD)))))) (aQ 1 (aT ["one","part"] [] (dX (aB (aA 6) (aB (aA 5) aD))) (gT 2 (bV (gN 0) (bV (gN 1) cQ))) (aO tD [] (aB (aA 0) (aB (aA 1) aD)))))))
def mY(n:Nat)(fs:List (Int×Int))(ms:AB)(F:AK):Prop:=ms.length=n/\(∀m∈ms,0<=m/\m<=4)/\((F=[]/\∀m∈ms,m=0)\/F=kH fs ms)
theorem uM{m k:Int}(hm:0<=m/\m<=4)(hk:-2<=k/\k<=2):0<=gz m k/\gz m k<=4:=by
 have a:m=0\/m=1\/m=2\/m=3\/m=4:=by omega
 have b:k=-2\/k=-1\/k=0\/k=1\/k=2:=by omega
 rcases a with rfl |rfl |rfl |rfl |rfl<;>rcases b with rfl |rfl |rfl |rfl |rfl<;>decide
theorem S9{n:Nat}(hn:n=2\/n=3){fs:List (Int×Int)}(hf:fs.length=n)(h:∀u∈fs,Sp u){f:AB}(Gf:Gu n 100 f){y0 y:AB}(l0:y0.length=n)(b0:∀x∈y0,0<=x/\x<=2)(l1:y.length=n)(b1:∀x∈y,0<=x/\x<=2){ms:AB}{F L:AK}(hF:mY n fs ms F)(hL:aE (.tup L) (.int 0)=some (tv (bJ fs f y0)))(S:aG)(x0 x2 x5 x6:AM):∃(F':AK)(y5 y6:AM),mY n fs (au gz ms (cS y0 y)) F'/\F'≠[]/\sJ [x0,some (.pv (.lst F)),x2,some (.pv (.tup L)),some (.pv (tv (bJ fs f y))),x5,x6] S=.nx [x0,some (.pv (.lst F')),x2,some (.pv (.tup L)),some (.pv (tv (bJ fs f y))),y5,y6] S:=by
 obtain⟨v,e1,e2⟩:=E7 hn hf h Gf l0 b0 l1 b1;have e1:=e1 S;have e2:=e2 S;obtain⟨lm,bm,hF⟩:=hF;have z0:∀{u:Int×Int},Sp u->fr (0*u.1) u.2=[0,1]:=λ{u} hu=>by
  rw[lC (t:=0*u.1) (b:=u.2) (t':=0) (b':=1) hu.q (by decide) (by simp)];exact Rf 0
 have bd:∀{p q:Int},0<=p/\p<=2->0<=q/\q<=2->-2<=p-q/\p-q<=2:=λh g=>by omega
 refine⟨kH fs (au gz ms (cS y0 y)),some (.pv (.tup (kH fs (cS y0 y)))),some (.pv (.lst (kH fs ms))),?_⟩;generalize tv (bJ fs f y0)=T0,tv (bJ fs f y)=TY at *;rcases hn with rfl |rfl
 .match fs,hf,h,ms,lm,bm,y,l1,b1,y0,l0,b0,hF,e2 with
  |[u,w],_,h,[m,k],_,bm,[a,b],_,b1,[c,d],_,b0,hF,e2=>
   have q0:=bd (b1 a (by simp)) (b0 c (by simp));have q1:=bd (b1 b (by simp)) (b0 d (by simp));have s0:=tX (h u (by simp)) (bm m (by simp)) q0 S;have s1:=tX (h w (by simp)) (bm k (by simp)) q1 S;refine⟨⟨rfl,?_,.inr rfl⟩,(by intro z;cases z),?_⟩
   .intro z hz
    simp only[cS,qr,uc,bo,cf,or_false]at hz;rcases hz with rfl |rfl
    .exact uM (bm m (by simp)) q0
    .exact uM (bm k (by simp)) q1
   .have r1:kH [u,w] (cS [c,d] [a,b])=[.tup ((fr ((a-c)*u.1) u.2).map .int),.tup ((fr ((b-d)*w.1) w.2).map .int)]:=rfl
    have r2:kH [u,w] [m,k]=[.tup ((fr (m*u.1) u.2).map .int),.tup ((fr (k*w.1) w.2).map .int)]:=rfl;have r3:kH [u,w] (au gz [m,k] (cS [c,d] [a,b]))=[.tup ((fr (gz m (a-c)*u.1) u.2).map .int),.tup ((fr (gz k (b-d)*w.1) w.2).map .int)]:=rfl;have hF:(F=[]/\PV.tup ((fr (m*u.1) u.2).map .int)=.tup [.int 0,.int 1]/\PV.tup ((fr (k*w.1) w.2).map .int)=.tup [.int 0,.int 1])\/F=[.tup ((fr (m*u.1) u.2).map .int),.tup ((fr (k*w.1) w.2).map .int)]:=by
     rcases hF with⟨e,z⟩|e
     .refine .inl ⟨e,?_,?_⟩
      .rw[z m (by simp),z0 (h u (by simp))];rfl
      .rw[z k (by simp),z0 (h w (by simp))];rfl
     .exact .inr e
    rw[r1,r2,r3];rw[r1]at e2;generalize PV.tup ((fr (gz k (b-d)*w.1) w.2).map .int)=G1,PV.tup ((fr (gz m (a-c)*u.1) u.2).map .int)=G0,PV.tup ((fr (k*w.1) w.2).map .int)=M1,PV.tup ((fr (m*u.1) u.2).map .int)=M0,PV.tup ((fr ((b-d)*w.1) w.2).map .int)=P1,PV.tup ((fr ((a-c)*u.1) u.2).map .int)=P0 at *;unfold sJ;rcases hF with⟨rfl,rfl,rfl⟩|rfl
    .simp! [bB,aM,aN,aK,aL,aF,aJ,hL,e1,e2,oE,rP,aT,bZ,aY,bS,dX,fQ,dY,dE,dB,gN,gT,bV,cQ,dP,s0,s1]
    .simp! [bB,aM,aN,aK,aL,aF,aJ,hL,e1,e2,oE,rP,aT,bZ,aY,bS,dX,fQ,dY,dE,dB,gN,gT,bV,cQ,dP,s0,s1]
 .match fs,hf,h,ms,lm,bm,y,l1,b1,y0,l0,b0,hF,e2 with
  |[u,w,t],_,h,[m,k,r],_,bm,[a,b,e],_,b1,[c,d,g],_,b0,hF,e2=>
   have q0:=bd (b1 a (by simp)) (b0 c (by simp));have q1:=bd (b1 b (by simp)) (b0 d (by simp));have q2:=bd (b1 e (by simp)) (b0 g (by simp));have s0:=tX (h u (by simp)) (bm m (by simp)) q0 S;have s1:=tX (h w (by simp)) (bm k (by simp)) q1 S;have s2:=tX (h t (by simp)) (bm r (by simp)) q2 S;refine⟨⟨rfl,?_,.inr rfl⟩,(by intro z;cases z),?_⟩
   .intro z hz
    simp only[cS,qr,uc,bo,cf,or_false]at hz;rcases hz with rfl |rfl |rfl
    .exact uM (bm m (by simp)) q0
    .exact uM (bm k (by simp)) q1
    .exact uM (bm r (by simp)) q2
   .have r1:kH [u,w,t] (cS [c,d,g] [a,b,e])=[.tup ((fr ((a-c)*u.1) u.2).map .int),.tup ((fr ((b-d)*w.1) w.2).map .int),.tup ((fr ((e-g)*t.1) t.2).map .int)]:=rfl
    have r2:kH [u,w,t] [m,k,r]=[.tup ((fr (m*u.1) u.2).map .int),.tup ((fr (k*w.1) w.2).map .int),.tup ((fr (r*t.1) t.2).map .int)]:=rfl;have r3:kH [u,w,t] (au gz [m,k,r] (cS [c,d,g] [a,b,e]))=[.tup ((fr (gz m (a-c)*u.1) u.2).map .int),.tup ((fr (gz k (b-d)*w.1) w.2).map .int),.tup ((fr (gz r (e-g)*t.1) t.2).map .int)]:=rfl;have hF:(F=[]/\PV.tup ((fr (m*u.1) u.2).map .int)=.tup [.int 0,.int 1]/\PV.tup ((fr (k*w.1) w.2).map .int)=.tup [.int 0,.int 1]/\PV.tup ((fr (r*t.1) t.2).map .int)=.tup [.int 0,.int 1])\/F=[.tup ((fr (m*u.1) u.2).map .int),.tup ((fr (k*w.1) w.2).map .int),.tup ((fr (r*t.1) t.2).map .int)]:=by
     rcases hF with⟨e,z⟩|e
     .refine .inl ⟨e,?_,?_,?_⟩
      .rw[z m (by simp),z0 (h u (by simp))];rfl
      .rw[z k (by simp),z0 (h w (by simp))];rfl
      .rw[z r (by simp),z0 (h t (by simp))];rfl
     .exact .inr e
    rw[r1,r2,r3];rw[r1]at e2;generalize PV.tup ((fr (gz r (e-g)*t.1) t.2).map .int)=G2,PV.tup ((fr (gz k (b-d)*w.1) w.2).map .int)=G1,PV.tup ((fr (gz m (a-c)*u.1) u.2).map .int)=G0,PV.tup ((fr (r*t.1) t.2).map .int)=M2,PV.tup ((fr (k*w.1) w.2).map .int)=M1,PV.tup ((fr (m*u.1) u.2).map .int)=M0,PV.tup ((fr ((e-g)*t.1) t.2).map .int)=P2,PV.tup ((fr ((b-d)*w.1) w.2).map .int)=P1,PV.tup ((fr ((a-c)*u.1) u.2).map .int)=P0 at *;unfold sJ;rcases hF with⟨rfl,rfl,rfl,rfl⟩|rfl
    .simp! [bB,aM,aN,aK,aL,aF,aJ,hL,e1,e2,oE,rP,aT,bZ,aY,bS,dX,fQ,dY,dE,dB,gN,gT,bV,cQ,dP,s0,s1,s2]
    .simp! [bB,aM,aN,aK,aL,aF,aJ,hL,e1,e2,oE,rP,aT,bZ,aY,bS,dX,fQ,dY,dE,dB,gN,gT,bV,cQ,dP,s0,s1,s2]
def nB(d:Pc)(ms:AB):AB:=d.r.foldl (λms y=>au gz ms (cS d.a y)) ms
theorem As{n:Nat}(hn:n=2\/n=3){fs:List (Int×Int)}(hf:fs.length=n)(h:∀u∈fs,Sp u){f:AB}(Gf:Gu n 100 f){y0:AB}(l0:y0.length=n)(b0:∀x∈y0,0<=x/\x<=2){L:AK}(hL:aE (.tup L) (.int 0)=some (tv (bJ fs f y0)))(S:aG)(x0 x2:AM):∀(ys:AE)(ms:AB)(F:AK)(x4 x5 x6:AM),(∀y∈ys,y.length=n/\∀x∈y,0<=x/\x<=2)->mY n fs ms F->∃(F':AK)(y4 y5 y6:AM),mY n fs (ys.foldl (λms y=>au gz ms (cS y0 y)) ms) F'/\cM [] (gN 4) sJ (ys.map λy=>tv (bJ fs f y)) [x0,some (.pv (.lst F)),x2,some (.pv (.tup L)),x4,x5,x6] S=.nx [x0,some (.pv (.lst F')),x2,some (.pv (.tup L)),y4,y5,y6] S
 |[],ms,F,x4,x5,x6,_,hF=>⟨F,x4,x5,x6,hF,eQ⟩
 |y::ys,ms,F,x4,x5,x6,hy,hF=>by
  obtain⟨F1,z5,z6,h1,_,e1⟩:=S9 hn hf h Gf l0 b0 (hy y (by simp)).1 (hy y (by simp)).2 hF hL S x0 x2 x5 x6;obtain⟨F2,y4,y5,y6,h2,e2⟩:=As hn hf h Gf l0 b0 hL S x0 x2 ys _ F1 (some (.pv (tv (bJ fs f y)))) z5 z6 (λz hz=>hy z (ax _ hz)) h1;refine⟨F2,y4,y5,y6,h2,?_⟩;rw[az,dM];simp only[gN,cw,cj];rw[e1];exact e2
abbrev sH:MS:=(bR (aY (dL (aA 3) (dI (mC (.int 1))) cO)) (gN 4) sJ)
theorem ack{n:Nat}(hn:n=2\/n=3){fs:List (Int×Int)}(hf:fs.length=n)(h:∀u∈fs,Sp u){d:Pc}(hd:Pg n d){ms:AB}{F:AK}(hF:mY n fs ms F)(S:aG)(x0 x2 x4 x5 x6:AM):∃(F':AK)(y4 y5 y6:AM),mY n fs (nB d ms) F'/\sH [x0,some (.pv (.lst F)),x2,some (.pv (d.pv fs)),x4,x5,x6] S=.nx [x0,some (.pv (.lst F')),x2,some (.pv (d.pv fs)),y4,y5,y6] S:=by
 obtain⟨f,a,r⟩:=d;have ha:=hd.ok a (by simp[Pc.ys]);have hp:(Pc.mk f a r).pv fs=.tup (tv (bJ fs f a)::r.map λy=>tv (bJ fs f y)):=by
  show PV.tup (((a::r).map (bJ fs f)).map tv)=_;rw[cg];rfl
 have hL:aE (.tup (tv (bJ fs f a)::r.map λy=>tv (bJ fs f y))) (.int 0)=some (tv (bJ fs f a)):=jX (j:=0) rfl;obtain⟨F',y4,y5,y6,h1,e⟩:=As hn hf h hd.f ha.1 ha.2 hL S x0 x2 r ms F x4 x5 x6 (λy hy=>hd.ok y (ax _ hy)) hF;refine⟨F',y4,y5,y6,h1,?_⟩;have lr:r.length=n:=by
  have l:(a::r).length=n+1:=hd.len;simpa using l
 have sl:iA (.tup (tv (bJ fs f a)::r.map λy=>tv (bJ fs f y))) (some 1) none=some (.tup (r.map λy=>tv (bJ fs f y))):=by
  rcases hn with rfl |rfl
  .match r,lr with
   |[p,q],_=>rfl
  .match r,lr with
   |[p,q,t],_=>rfl
 rw[hp];clear hp hL;generalize tv (bJ fs f a)=TA,(r.map λy=>tv (bJ fs f y))=RL at *;unfold sH;generalize sJ=SB at *;simp! [bB,aM,aN,aK,aL,aF,aJ,bR,aY,bS,dL,cO,dI,fT,sl,e]
theorem Zd{n:Nat}(hn:n=2\/n=3){fs:List (Int×Int)}(hf:fs.length=n)(h:∀u∈fs,Sp u)(S:aG)(x0 x2:AM):∀(ds:List Pc)(ms:AB)(F:AK)(x3 x4 x5 x6:AM),(∀d∈ds,Pg n d)->mY n fs ms F->∃(F':AK)(y3 y4 y5 y6:AM),mY n fs (ds.foldl (λms d=>nB d ms) ms) F'/\cM [] (gN 3) sH (ds.map (Pc.pv fs)) [x0,some (.pv (.lst F)),x2,x3,x4,x5,x6] S=.nx [x0,some (.pv (.lst F')),x2,y3,y4,y5,y6] S
 |[],ms,F,x3,x4,x5,x6,_,hF=>⟨F,x3,x4,x5,x6,hF,eQ⟩
 |d::ds,ms,F,x3,x4,x5,x6,hd,hF=>by
  obtain⟨F1,z4,z5,z6,h1,e1⟩:=ack hn hf h (hd d (by simp)) hF S x0 x2 x4 x5 x6;obtain⟨F2,y3,y4,y5,y6,h2,e2⟩:=Zd hn hf h S x0 x2 ds _ F1 (some (.pv (d.pv fs))) z4 z5 z6 (λz hz=>hd z (ax _ hz)) h1;refine⟨F2,y3,y4,y5,y6,h2,?_⟩;rw[az,dM];simp only[gN,cw,cj];rw[e1];exact e2
def nX(j:Nat)(d:Pc):Prop:=∃y∈d.r,(y.getD j 0-d.a.getD j 0).natAbs=1
theorem Gq{m k:Int}(h:m=1\/k.natAbs=1):gz m k=1:=by
 unfold gz;rcases h with rfl |h
 .simp[bf]
 .have:k=1\/k=-1:=by omega
  rcases this with rfl |rfl<;>simp[bf]
theorem acz{n:Nat}{ms a y:AB}(lm:ms.length=n)(la:a.length=n)(ly:y.length=n):(au gz ms (cS a y)).length=n/\∀j,j<n->(au gz ms (cS a y)).getD j 0=gz (ms.getD j 0) (y.getD j 0-a.getD j 0):=by
 have ld:(cS a y).length=n:=by unfold cS;rw[fg];omega
 refine⟨by rw[fg];omega,λj hj=>?_⟩;rw[Vr lm ld hj];unfold cS;rw[Vr ly la hj]
theorem Lp{n:Nat}{a:AB}(la:a.length=n){j:Nat}(hj:j<n):∀(ys:AE)(ms:AB),ms.length=n->(∀y∈ys,y.length=n)->(ys.foldl (λms y=>au gz ms (cS a y)) ms).length=n/\((ms.getD j 0=1\/∃y∈ys,(y.getD j 0-a.getD j 0).natAbs=1)->(ys.foldl (λms y=>au gz ms (cS a y)) ms).getD j 0=1)
 |[],ms,lm,_=>⟨lm,λh=>by
  rcases h with h |⟨_,h,_⟩
  .exact h
  .exact absurd h cf⟩
 |y::ys,ms,lm,hy=>by
  obtain⟨l1,e1⟩:=acz lm la (hy y (by simp));obtain⟨l2,e2⟩:=Lp la hj ys (au gz ms (cS a y)) l1 λz hz=>hy z (ax _ hz);refine⟨l2,λh=>e2 ?_⟩;rcases h with h |⟨z,hz,h⟩
  .exact .inl (by rw[e1 j hj];exact Gq (.inl h))
  .rcases bo.mp hz with rfl |hz
   .exact .inl (by rw[e1 j hj];exact Gq (.inr h))
   .exact .inr ⟨z,hz,h⟩
theorem Zc{n:Nat}{j:Nat}(hj:j<n):∀(ds:List Pc)(ms:AB),ms.length=n->(∀d∈ds,Pg n d)->(ds.foldl (λms d=>nB d ms) ms).length=n/\((ms.getD j 0=1\/∃d∈ds,nX j d)->(ds.foldl (λms d=>nB d ms) ms).getD j 0=1)
 |[],ms,lm,_=>⟨lm,λh=>by
  rcases h with h |⟨_,h,_⟩
  .exact h
  .exact absurd h cf⟩
 |d::ds,ms,lm,hd=>by
  have h0:=hd d (by simp);obtain⟨l1,e1⟩:=Lp (h0.ok d.a (by simp[Pc.ys])).1 hj d.r ms lm λy hy=>(h0.ok y (ax _ hy)).1;obtain⟨l2,e2⟩:=Zc hj ds (nB d ms) l1 λz hz=>hd z (ax _ hz);refine⟨l2,λh=>e2 ?_⟩;rcases h with h |⟨z,hz,h⟩
  .exact .inl (e1 (.inl h))
  .rcases bo.mp hz with rfl |hz
   .exact .inl (e1 (.inr h))
   .exact .inr ⟨z,hz,h⟩
abbrev sF:MS:=(bR (aY (aA 2)) (gN 3) sH)
theorem D9{n:Nat}(hn:n=2\/n=3){fs:List (Int×Int)}(hf:fs.length=n)(h:∀u∈fs,Sp u)(lo:∀u∈fs,fr u.1 u.2=[u.1,u.2]){d1 d2:List Pc}(h1:∀d∈d1,Pg n d)(h2:∀d∈d2,Pg n d)(ho:∀j,j<n->(∃d∈d1,nX j d)\/∃d∈d2,nX j d){A:PV}(hA:Sv A [.tup (d1.map (Pc.pv fs)),.tup (d2.map (Pc.pv fs))])(S:aG):mJ [.pv A] S=.ok (.pv (.tup (fs.map fv))) S:=by
 have f0:mY n fs (jm n 0) []:=⟨by simp,λm hm=>by rw[u5 hm];decide,.inl ⟨rfl,λm hm=>u5 hm⟩⟩;obtain⟨F1,y3,y4,y5,y6,q1,e1⟩:=Zd hn hf h S (some (.pv A)) (some (.pv (.tup (d1.map (Pc.pv fs))))) d1 _ _ none none none none h1 f0;obtain⟨F2,z3,z4,z5,z6,q2,e2⟩:=Zd hn hf h S (some (.pv A)) (some (.pv (.tup (d2.map (Pc.pv fs))))) d2 _ _ y3 y4 y5 y6 h2 q1;have one:d2.foldl (λms d=>nB d ms) (d1.foldl (λms d=>nB d ms) (jm n 0))=jm n 1:=by
  have l2:(d2.foldl (λms d=>nB d ms) (d1.foldl (λms d=>nB d ms) (jm n 0))).length=n:=q2.1;refine C5 l2 (by simp) λj hj=>?_;obtain⟨l1,k1⟩:=Zc hj d1 (jm n 0) (by simp) h1;obtain⟨_,k2⟩:=Zc hj d2 _ l1 h2;have r1:(jm n (1:Int)).getD j 0=1:=by
   rw[cv,vk,if_pos hj];rfl
  rw[r1];refine k2 ?_;rcases ho j hj with c |c
  .exact .inl (k1 (.inr c))
  .exact .inr c
 rw[one]at q2;have eF:F2=fs.map fv:=by
  rcases q2.2.2 with⟨_,z⟩|e
  .have:=z 1 (List.mem_replicate.mpr ⟨by omega,rfl⟩)
   cases this
  .rw[e]
   have g:∀u∈fs,PV.tup ((fr (1*u.1) u.2).map .int)=fv u:=λu hu=>by rw[dr,lo u hu];rfl
   rcases hn with rfl |rfl
   .match fs,hf,g with
    |[u,v],_,g=>
     show[_,_]=[fv u,fv v];rw[<-g u (by simp),<-g v (by simp)]
   .match fs,hf,g with
    |[u,v,w],_,g=>
     show[_,_,_]=[fv u,fv v,fv w];rw[<-g u (by simp),<-g v (by simp),<-g w (by simp)]
 subst eF;have hb:wQ=(aI (aQ 1 (mN cN aD)) (aI (bR (aY (aA 0)) (gN 2) sF) (bC (mR fL (aB (aA 1) aD))))):=rfl;clear one q1 q2 f0;have s1:∀x2:AM,sF [some (.pv A),some (.pv (.lst [])),some (.pv (.tup (d1.map (Pc.pv fs)))),none,none,none,none] S=.nx [some (.pv A),some (.pv (.lst F1)),some (.pv (.tup (d1.map (Pc.pv fs)))),y3,y4,y5,y6] S:=λ_=>by
  unfold sF;generalize sH=SB at *;simp! [bB,aM,aN,aK,aL,aF,aJ,bR,aY,bS,e1]
 have s2:sF [some (.pv A),some (.pv (.lst F1)),some (.pv (.tup (d2.map (Pc.pv fs)))),y3,y4,y5,y6] S=.nx [some (.pv A),some (.pv (.lst (fs.map fv))),some (.pv (.tup (d2.map (Pc.pv fs)))),z3,z4,z5,z6] S:=by
  unfold sF;generalize sH=SB at *;simp! [bB,aM,aN,aK,aL,aF,aJ,bR,aY,bS,e2]
 have s1:=s1 none;unfold mJ;rw[hb];clear e1 e2;generalize fs.map fv=FL,PV.tup (d2.map (Pc.pv fs))=D2,PV.tup (d1.map (Pc.pv fs))=D1,sF=SB at *;have lp:cM [] (gN 2) SB [D1,D2] [some (.pv A),some (.pv (.lst [])),none,none,none,none,none] S=.nx [some (.pv A),some (.pv (.lst FL)),some (.pv D2),z3,z4,z5,z6] S:=by
  rw[dM];simp only[gN,cw,cj];rw[s1];dsimp only;rw[dM];simp only[gN,cw,cj];rw[s2];exact eQ
 refine xV rfl ?_;apply sq;simp! [bB,aM,aN,aK,aL,aF,aJ,fO,cN];exact⟨rfl,rfl⟩;refine sq (ρ':=[some (.pv A),some (.pv (.lst FL)),some (.pv D2),z3,z4,z5,z6]) (S':=S) ?_ ?_
 .rcases hA with rfl |rfl<;>simp! [bB,aM,aN,aK,aL,aF,aJ,bR,aY,bS,lp]
 .simp! [bB,aM,aN,aK,aL,aF,aJ]
theorem zY{n k:Nat}(hn:n=2\/n=3){fs:List (Int×Int)}(hf:fs.length=n)(h:∀u∈fs,Sp u){th:AB}{v:Int}(R:Pq n k th v)(hk:k<=1000){zs:AB}{w:Int}(P:Pq n 60 zs w)(rel:∀j,j<n->th.getD j 0*(eW fs*w)=fR fs j*zs.getD j 0*v)(S:aG):jU [.pv (tv (th++[v])),.pv (.tup (fs.map fv))] S=.ok (.pv (tv (zs++[w]))) S:=by
 obtain⟨fz,rd⟩:=K6 hn P (by decide);have e:=Db hn R hk hf h (ab:=zs.map λx=>(pT w x,pB w x)) (by rw[ak,P.len]) (λu hu=>by
  refine⟨fz u hu,?_⟩;obtain⟨x,hx,rfl⟩:=bj.mp hu;exact(lL P.pos P.bw (P.bx x hx)).2.2.2.2) (λj hj=>by
  have hj2:j<zs.length:=by rw[P.len];exact hj
  have ea:(zs.map λx=>(pT w x,pB w x)).getD j (0,1)=(pT w (zs.getD j 0),pB w (zs.getD j 0)):=by
   rw[cv,dk,cv,av hj2];rfl
  have bx:Bd 60 (zs.getD j 0):=by
   rw[cv,av hj2];exact P.bx _ (di hj2)
  rw[ea];have c:=nK P.pos P.bw bx;have p:=wY hn hf 1 hj;have r:=rel j hj;have E0:=(tK hn hf h).1;generalize eW fs=E,fR fs j=A,fs.getD j (0,1)=u,th.getD j 0=t,zs.getD j 0=x at *;show t*(pB w x*u.2)=pT w x*u.1*v;refine io (dw (aj E0 P.pos)) ?_
  calc t*(pB w x*u.2)*(E*w)=(t*(E*w))*(pB w x*u.2):=by grind
   _=A*x*v*(pB w x*u.2):=by rw[r]
   _=(1*A*u.2)*(x*pB w x)*v:=by grind
   _=(1*E*u.1)*(pT w x*w)*v:=by rw[p,c]
   _=pT w x*u.1*v*(E*w):=by grind) S
 rw[rd]at e;exact e
theorem Hq{n k:Nat}{xs:AB}{w:Int}(P:Pq n k xs w):Pq n k (xs.map (-·)) w:=by
 refine⟨by rw[ak,P.len],P.pos,Xa P.pos P.low λd hd hy x hx=>?_,λy hy=>?_,P.bw⟩
 .have:=hy (-x) (bj.mpr ⟨x,hx,rfl⟩)
  simpa using Int.dvd_neg.mpr this
 .obtain⟨x,hx,rfl⟩:=bj.mp hy
  exact(P.bx x hx).neg
theorem aaE{n:Nat}(hn:n=2\/n=3){a:AB}{r:AE}(la:a.length=n)(lr:r.length=n)(ly:∀y∈r,y.length=n){j:Nat}(hj:j<n)(h:∀y∈r,y.getD j 0=a.getD j 0):dU ((a::r).map (·++[1]))=0:=by
 rcases hn with rfl |rfl
 .match a,la,r,lr,ly,h with
  |[a1,a2],_,[b,c],_,ly,h=>
   match b,ly b (by simp),c,ly c (by simp),h with
   |[b1,b2],_,[c1,c2],_,h=>
    have h1:=h [b1,b2] (by simp);have h2:=h [c1,c2] (by simp);show D2 a1 a2 1 b1 b2 1 c1 c2 1=0
    match j,hj with
    |0,_=>
     have h1:b1=a1:=h1;have h2:c1=a1:=h2;rw[h1,h2];unfold D2;grind
    |1,_=>
     have h1:b2=a2:=h1;have h2:c2=a2:=h2;rw[h1,h2];unfold D2;grind
 .match a,la,r,lr,ly,h with
  |[a1,a2,a3],_,[b,c,d],_,ly,h=>
   match b,ly b (by simp),c,ly c (by simp),d,ly d (by simp),h with
   |[b1,b2,b3],_,[c1,c2,c3],_,[d1,d2,d3],_,h=>
    have h1:=h [b1,b2,b3] (by simp);have h2:=h [c1,c2,c3] (by simp);have h3:=h [d1,d2,d3] (by simp);show D3 a1 a2 a3 1 b1 b2 b3 1 c1 c2 c3 1 d1 d2 d3 1=0
    match j,hj with
    |0,_=>
     have h1:b1=a1:=h1;have h2:c1=a1:=h2;have h3:d1=a1:=h3;rw[h1,h2,h3];unfold D3;grind
    |1,_=>
     have h1:b2=a2:=h1;have h2:c2=a2:=h2;have h3:d2=a2:=h3;rw[h1,h2,h3];unfold D3;grind
    |2,_=>
     have h1:b3=a3:=h1;have h2:c3=a3:=h2;have h3:d3=a3:=h3;rw[h1,h2,h3];unfold D3;grind
theorem Ta{n:Nat}(hn:n=2\/n=3){p:Pc×AE}(hp:Pl n p){j:Nat}(hj:j<n){t:Int}(ht:∀y∈p.2,y.getD j 0=t\/y.getD j 0=t+1):nX j p.1:=by
 by_cases c:nX j p.1
 .exact c
 .exfalso
  have g:=hp.g;have ps:=hp.ps;have pm:=hp.pm;obtain⟨⟨f,a,r⟩,R⟩:=p;have la:=(g.ok a (by simp[Pc.ys])).1;have lr:r.length=n:=by
   have l:(a::r).length=n+1:=g.len;simpa using l
  have va:=ht a (pm.mem_iff.mp (by simp[Pc.ys]));have z:=aaE hn la lr (λy hy=>(g.ok y (ax _ hy)).1) hj λy hy=>by
   have vy:=ht y (pm.mem_iff.mp (ax _ hy))
   by_cases q:(y.getD j 0-a.getD j 0).natAbs=1
   .exact absurd ⟨y,hy,q⟩ c
   .omega
  have ps:0<dU ((a::r).map (·++[1])):=ps;omega
theorem aaR{p:Pc×AE}(hp:Pl 3 p)(hR:p.2∈k6){j:Nat}(hj:j<3):nX j p.1:=by
 refine Ta (.inr rfl) hp hj (t:=0) λy hy=>?_;have k:=(Rs _ hR).1.2 y hy;have b:=k.2 (y.getD j 0) (by
  rw[cv,av (show j<y.length by omega)];exact di _)
 omega
theorem W5{g:AF×AF}(hg:kK g):∃R,(R∈g.1\/R∈g.2)/\∀j,j<2->∃t:Int,∀y∈R,y.getD j 0=t\/y.getD j 0=t+1:=by
 obtain⟨T,hT,h⟩:=hg;obtain⟨a,b,c,d,e,f,rfl,ha,hb,hc,hd,he,hf⟩:=wG hT;have big:∀j,j<2->∃t:Int,∀y∈([qH [a,b],iN [a,b] [c,d],iN [a,b] [e,f]]:AE),y.getD j 0=t\/y.getD j 0=t+1:=λj hj=>by
  match j,hj with
  |0,_=>
   refine⟨a,λy hy=>?_⟩;simp only[bo,cf,or_false]at hy;rcases hy with rfl |rfl |rfl
   .show 2*a=a\/2*a=a+1;omega
   .show a+c=a\/a+c=a+1;omega
   .show a+e=a\/a+e=a+1;omega
  |1,_=>
   refine⟨b,λy hy=>?_⟩;simp only[bo,cf,or_false]at hy;rcases hy with rfl |rfl |rfl
   .show 2*b=b\/2*b=b+1;omega
   .show b+d=b\/b+d=b+1;omega
   .show b+f=b\/b+f=b+1;omega
 rcases h with rfl |rfl |rfl
 .refine⟨[[a,b],[c,d],[e,f]],.inl (by simp),λj hj=>⟨0,λy hy=>?_⟩⟩
  simp only[bo,cf,or_false]at hy
  match j,hj with
  |0,_=>
   rcases hy with rfl |rfl |rfl
   .show a=0\/a=0+1;omega
   .show c=0\/c=0+1;omega
   .show e=0\/e=0+1;omega
  |1,_=>
   rcases hy with rfl |rfl |rfl
   .show b=0\/b=0+1;omega
   .show d=0\/d=0+1;omega
   .show f=0\/f=0+1;omega
 .exact⟨[qH [a,b],iN [a,b] [c,d],iN [a,b] [e,f]],.inr (by simp[eJ]),big⟩
 .exact⟨[qH [a,b],iN [a,b] [c,d],iN [a,b] [e,f]],.inl (by simp[eJ]),big⟩
theorem tE{a b c d:Int}(ba:Bd 500 a)(bb:Bd 500 b)(bc:Bd 500 c)(bd:Bd 500 d)(S:aG):lD [.pv (.tup [.int a,.int b]),.pv (.tup [.int c,.int d])] S=.ok (.pv (.tup ((fr (a*c) (b*d)).map .int))) S:=by
 have m1:=cU ba bc;have m2:=cU bb bd;have e:=tN (a*c) (b*d) S ((ba.mul bc).mono (by decide)) ((bb.mul bd).mono (by decide));have i0:aE (.tup [.int a,.int b]) (.int 0)=some (.int a):=rfl;have i1:aE (.tup [.int a,.int b]) (.int 1)=some (.int b):=rfl;have j0:aE (.tup [.int c,.int d]) (.int 0)=some (.int c):=rfl;have j1:aE (.tup [.int c,.int d]) (.int 1)=some (.int d):=rfl;generalize b*d=BD,a*c=AC,(fr (a*c) (b*d)).map PV.int=R at *;unfold lD aR Bb;simp! [bB,aM,aN,aK,aL,aF,aJ,i0,i1,j0,j1,m1,m2,e]
abbrev uU:MS:=(aI (aQ 5 (aC eV (aO dN [] (aB (aA 0) (aB (aC aF (aC aS (aA 2) (mC (.int 8))) (mC (.int 1))) aD))) (aC aS (mC (.int 4)) (aA 2)))) (fK (fD (aA 3) (aB (aO lD [] (aB (aA 4) (aB (aO lF [] (aB (aA 5) (aB (aA 2) aD))) aD))) aD))))
structure Nr(U:Int)(u:Int×Int)(t:Int)(p:Int×Int):Prop where
 t0:-(5*U)<=t/\t<=5*U
 q0:0<p.2
 bp:Bd 60 p.1
 bq:Bd 60 p.2
 e:p.1*(u.2*U)=u.1*t*p.2
theorem aad{U:Int}(U0:1<=U)(U1:U<=1009){u:Int×Int}(hu:Sp u)(ns:AB)(LL:AK)(hl:LL.length<=9)(x1 x5 x6 x7:AM):∃(t:Int)(p:Int×Int)(ns':AB),Nr U u t p/\uU [some (.ref 0),x1,some (.pv (.int U)),some (.ref 1),some (.pv (fv u)),x5,x6,x7] [.lst (li ns),.lst LL]=.nx [some (.ref 0),x1,some (.pv (.int U)),some (.ref 1),some (.pv (fv u)),some (.pv (.int t)),x6,x7] [.lst (li ns'),.lst (LL++[fv p])]:=by
 obtain⟨c,n1,e1,c0,c1⟩:=mX (m:=U*8+1) (by omega) (by omega) ns [.lst LL];have bU:Bd 20 U:=Bd.of (n:=1009) (by omega) (by decide);have bt:Bd 20 (c-4*U):=Bd.of (n:=20000) (by omega) (by decide);have m1:=cU bU (show Bd 20 (8:Int) from Bd.of (n:=8) (by decide) (by decide));have m2:=cU (show Bd 20 (4:Int) from Bd.of (n:=8) (by decide) (by decide)) bU;have ef:=tN (c-4*U) U [.lst (li n1),.lst LL] (bt.mono (by decide)) (bU.mono (by decide));obtain⟨f1,q1,b1,b2,_⟩:=lL (show 0<U by omega) bU bt;have x1c:=nK (show 0<U by omega) bU bt;rw[f1]at ef;generalize pT U (c-4*U)=t' at *;generalize pB U (c-4*U)=u' at *;have g1:Bd 60 (u.1*t'):=(hu.bp.mul b1).mono (by decide);have g2:Bd 60 (u.2*u'):=(hu.bq.mul b2).mono (by decide);have p2:0<u.2*u':=aj hu.q q1;have et:=tE (hu.bp.mono (by decide)) (hu.bq.mono (by decide)) (b1.mono (by decide)) (b2.mono (by decide)) [.lst (li n1),.lst LL];obtain⟨f2,q2,b3,b4,_⟩:=lL p2 g2 g1;have x2c:=nK p2 g2 g1;rw[f2]at et;generalize pB (u.2*u') (u.1*t')=b,pT (u.2*u') (u.1*t')=a at *;refine⟨c-4*U,(a,b),n1,⟨by omega,q2,b3,b4,?_⟩,?_⟩
 .show a*(u.2*U)=u.1*(c-4*U)*b
  refine io (dw q1) ?_;clear ef et m1 m2 e1;generalize c-4*U=t at*
  calc a*(u.2*U)*u'=(a*(u.2*u'))*U:=by grind
   _=u.1*t'*b*U:=by rw[x2c]
   _=u.1*b*(t'*U):=by grind
   _=u.1*b*(t*u'):=by rw[x1c]
   _=u.1*t*b*u':=by grind
 .have lz:LL.length<16777216:=by omega
  have hv:fv u=.tup [.int u.1,.int u.2]:=rfl;simp only[az,cn]at ef et;rw[<-hv]at et;show _=cP.nx _ [.lst (li n1),.lst (LL++[.tup [.int a,.int b]])];clear f1 f2 x1c x2c hv;generalize fv u=FU at *;unfold uU;apply sq;simp! [bB,aM,aN,aK,aL,aF,aJ,m1,m2,e1];exact⟨rfl,rfl⟩;simp! [bB,aM,aN,aK,aL,aF,aJ,ef,et,fD,fW,kE,lz]
theorem Fm{U:Int}(U0:1<=U)(U1:U<=1009)(x1:AM):∀(fs:List (Int×Int))(ps:List (Int×Int))(ns:AB)(x4 x5 x6 x7:AM),(∀u∈fs,Sp u)->ps.length+fs.length<=9->∃(ts:AB)(qs:List (Int×Int))(ns':AB)(y4 y5:AM),ts.length=fs.length/\qs.length=fs.length/\(∀j,j<fs.length->Nr U (fs.getD j (0,1)) (ts.getD j 0) (qs.getD j (0,1)))/\cM [] (gN 4) uU (fs.map fv) [some (.ref 0),x1,some (.pv (.int U)),some (.ref 1),x4,x5,x6,x7] [.lst (li ns),.lst (ps.map fv)]=.nx [some (.ref 0),x1,some (.pv (.int U)),some (.ref 1),y4,y5,x6,x7] [.lst (li ns'),.lst ((ps++qs).map fv)]
 |[],ps,ns,x4,x5,x6,x7,_,_=>⟨[],[],ns,x4,x5,rfl,rfl,λj hj=>absurd hj (p8 j),by rw[jk];exact eQ⟩
 |u::fs,ps,ns,x4,x5,x6,x7,h,hl=>by
  simp only[cu]at hl;obtain⟨t,p,n1,hN,e1⟩:=aad U0 U1 (h u (by simp)) ns (ps.map fv) (by rw[ak];omega) x1 x5 x6 x7;obtain⟨ts,qs,n2,y4,y5,l1,l2,hR,e2⟩:=Fm U0 U1 x1 fs (ps++[p]) n1 (some (.pv (fv u))) (some (.pv (.int t))) x6 x7 (λv hv=>h v (ax _ hv)) (by rw[ca];simp;omega);refine⟨t::ts,p::qs,n2,y4,y5,by simp[l1],by simp[l2],λj hj=>?_,?_⟩
  .cases j with
   |zero=>exact hN
   |succ j=>exact hR j (by simpa using hj)
  .have ep:(ps++[p]).map fv=ps.map fv++[fv p]:=by simp
   rw[ep]at e2;rw[az,dM];simp only[gN,cw,cj];rw[e1];dsimp only;rw[e2,jr];rfl
abbrev qJ:MS:=(aI (aQ 6 (mC (.int 1))) (aI (bR (aY (aA 3)) (gN 7) (aQ 6 (aC aS (aA 6) (aC aE (aA 7) (mC (.int 1)))))) (bC (aO gA [] (aB (aC aF (aT ["_law_part"] [(6,"_law_bottom")] (aY (aA 3)) (gN 0) (aC aS (aC aE (aA 0) (mC (.int 0))) (aC eI (aA 1) (aC aE (aA 0) (mC (.int 1)))))) (mN cN (aB (aA 6) aD))) aD)))))
theorem vB{b c:Int}(h:0<b)(bb:Bd 60 b):eI (.int (b*c)) (.int b)=some (.int c):=by
 have e:=jV (i:=b*c) (j:=b) ⟨by omega,bb.mono (by decide)⟩;rw[nI (by omega)]at e;exact e
theorem abw{n:Nat}(hn:n=2\/n=3){qs:List (Int×Int)}(hl:qs.length=n)(hq:∀p∈qs,0<p.2/\Bd 60 p.1/\Bd 60 p.2)(N:AK)(x0 x1 x2 x4 x5 x6 x7:AM):∃(th:AB)(v:Int),Pq n 300 th v/\(∀j,j<n->th.getD j 0*(qs.getD j (0,1)).2=(qs.getD j (0,1)).1*v)/\qJ [x0,x1,x2,some (.ref 1),x4,x5,x6,x7] [.lst N,.lst (qs.map fv)]=.rt (.pv (tv (th++[v]))) [.lst N,.lst (qs.map fv)]:=by
 have Af:∀{L:AB}{b:Int},L.length=n->0<b->(∀x∈L,Bd 300 x)->Bd 300 b->∃(th:AB)(v:Int),Pq n 300 th v/\(∀j,j<n->th.getD j 0*b=L.getD j 0*v)/\∀S,gA [.pv (.lst ((L++[b]).map .int))] S=.ok (.pv (tv (th++[v]))) S:=λ{L b} l b0 bL bb=>by
  obtain⟨th,v,e,R,rel⟩:=pO b0 l bL bb;refine⟨th,v,R,rel,λS=>?_⟩;rw[<-e];exact oZ (L++[b]) S λx hx=>by
   rcases dj.mp hx with y |y
   .exact(bL x y).mono (by decide)
   .rw[oy.mp y]
    exact bb.mono (by decide)
 have o1:∀b:Int,aS (.int 1) (.int b)=some (.int b):=λb=>by
  have:=iS (i:=1) (j:=b) (.inl (.inl ⟨by decide,by decide⟩));rw[dr]at this;exact this
 rcases hn with rfl |rfl
 .match qs,hl,hq with
  |[(a1,b1),(a2,b2)],_,hq=>
   obtain⟨p1,ba1,bb1⟩:=hq (a1,b1) (by simp);obtain⟨p2,ba2,bb2⟩:=hq (a2,b2) (by simp);dsimp only at p1 p2 ba1 ba2 bb1 bb2;obtain⟨th,v,R,rel,el⟩:=Af (L:=[a1*b2,a2*b1]) (b:=b1*b2) rfl (aj p1 p2) (λx hx=>by
    simp only[bo,cf,or_false]at hx;rcases hx with rfl |rfl
    .exact(ba1.mul bb2).mono (by decide)
    .exact(ba2.mul bb1).mono (by decide)) ((bb1.mul bb2).mono (by decide))
   refine⟨th,v,R,λj hj=>?_,?_⟩
   .have r:=rel j hj
    match j,hj with
    |0,_=>
     have r:th.getD 0 0*(b1*b2)=a1*b2*v:=r;show th.getD 0 0*b1=a1*v;exact io (dw p2) (by rw[jp,r];grind)
    |1,_=>
     have r:th.getD 1 0*(b1*b2)=a2*b1*v:=r;show th.getD 1 0*b2=a2*v;exact io (dw p1) (by rw[jp,cq b2 b1,r];grind)
   .have m2:=cU bb1 bb2
    have d1:=vB (c:=b2) p1 bb1;have d2:=vB (c:=b1) p2 bb2;rw[cq b2 b1]at d2;have m3:=cU ba1 bb2;have m4:=cU ba2 bb1;have el:=el [.lst N,.lst [fv (a1,b1),fv (a2,b2)]];have j1:∀a b:Int,aE (.tup [.int a,.int b]) (.int 1)=some (.int b):=λ_ _=>rfl;have j0:∀a b:Int,aE (.tup [.int a,.int b]) (.int 0)=some (.int a):=λ_ _=>rfl;show qJ _ [.lst N,.lst [.tup [.int a1,.int b1],.tup [.int a2,.int b2]]]=.rt _ [.lst N,.lst [.tup [.int a1,.int b1],.tup [.int a2,.int b2]]];have el:gA [.pv (.lst [.int (a1*b2),.int (a2*b1),.int (b1*b2)])] [.lst N,.lst [.tup [.int a1,.int b1],.tup [.int a2,.int b2]]]=.ok (.pv (tv (th++[v]))) [.lst N,.lst [.tup [.int a1,.int b1],.tup [.int a2,.int b2]]]:=el;clear rel;generalize a2*b1=A2,a1*b2=A1,b1*b2=B,tv (th++[v])=TT at *;unfold qJ;simp! [bB,aM,aN,aK,aL,aF,aJ,bR,aY,bS,cM,fS,gN,j0,j1,o1,m2,aT,bZ,cF,d1,d2,m3,m4,el]
 .match qs,hl,hq with
  |[(a1,b1),(a2,b2),(a3,b3)],_,hq=>
   obtain⟨p1,ba1,bb1⟩:=hq (a1,b1) (by simp);obtain⟨p2,ba2,bb2⟩:=hq (a2,b2) (by simp);obtain⟨p3,ba3,bb3⟩:=hq (a3,b3) (by simp);dsimp only at p1 p2 p3 ba1 ba2 ba3 bb1 bb2 bb3;have c12:=bb1.mul bb2;have c13:=bb1.mul bb3;have c23:=bb2.mul bb3;obtain⟨th,v,R,rel,el⟩:=Af (L:=[a1*(b2*b3),a2*(b1*b3),a3*(b1*b2)]) (b:=b1*b2*b3) rfl (aj (aj p1 p2) p3) (λx hx=>by
    simp only[bo,cf,or_false]at hx;rcases hx with rfl |rfl |rfl
    .exact(ba1.mul c23).mono (by decide)
    .exact(ba2.mul c13).mono (by decide)
    .exact(ba3.mul c12).mono (by decide)) ((c12.mul bb3).mono (by decide))
   have q23:=aj p2 p3;have q13:=aj p1 p3;have q12:=aj p1 p2;refine⟨th,v,R,λj hj=>?_,?_⟩
   .have r:=rel j hj
    match j,hj with
    |0,_=>
     have r:th.getD 0 0*(b1*b2*b3)=a1*(b2*b3)*v:=r;show th.getD 0 0*b1=a1*v;exact io (dw q23) (by rw[jp,<-jp b1,r];grind)
    |1,_=>
     have r:th.getD 1 0*(b1*b2*b3)=a2*(b1*b3)*v:=r;show th.getD 1 0*b2=a2*v;exact io (dw q13) (by
      have e:b2*(b1*b3)=b1*b2*b3:=by grind
      rw[jp,e,r];grind)
    |2,_=>
     have r:th.getD 2 0*(b1*b2*b3)=a3*(b1*b2)*v:=r;show th.getD 2 0*b3=a3*v;exact io (dw q12) (by
      have e:b3*(b1*b2)=b1*b2*b3:=by grind
      rw[jp,e,r];grind)
   .have m2:=cU bb1 bb2
    have m2':=cU c12 bb3;have d1:=vB (c:=b2*b3) p1 bb1;have d2:=vB (c:=b1*b3) p2 bb2;have d3:=vB (c:=b1*b2) p3 bb3;rw[show b1*(b2*b3)=b1*b2*b3 by grind]at d1;rw[show b2*(b1*b3)=b1*b2*b3 by grind]at d2;rw[show b3*(b1*b2)=b1*b2*b3 by grind]at d3;have m3:=cU ba1 c23;have m4:=cU ba2 c13;have m5:=cU ba3 c12;have el:=el [.lst N,.lst [fv (a1,b1),fv (a2,b2),fv (a3,b3)]];have j1:∀a b:Int,aE (.tup [.int a,.int b]) (.int 1)=some (.int b):=λ_ _=>rfl;have j0:∀a b:Int,aE (.tup [.int a,.int b]) (.int 0)=some (.int a):=λ_ _=>rfl;show qJ _ [.lst N,.lst [.tup [.int a1,.int b1],.tup [.int a2,.int b2],.tup [.int a3,.int b3]]]=.rt _ [.lst N,.lst [.tup [.int a1,.int b1],.tup [.int a2,.int b2],.tup [.int a3,.int b3]]];have el:gA [.pv (.lst [.int (a1*(b2*b3)),.int (a2*(b1*b3)),.int (a3*(b1*b2)),.int (b1*b2*b3)])] [.lst N,.lst [.tup [.int a1,.int b1],.tup [.int a2,.int b2],.tup [.int a3,.int b3]]]=.ok (.pv (tv (th++[v]))) [.lst N,.lst [.tup [.int a1,.int b1],.tup [.int a2,.int b2],.tup [.int a3,.int b3]]]:=el;clear rel;generalize b1*b2=B12,b1*b3=B13,b2*b3=B23,b1*b2*b3=B,a3*(b1*b2)=A3,a2*(b1*b3)=A2,a1*(b2*b3)=A1,tv (th++[v])=TT at *;unfold qJ;simp! [bB,aM,aN,aK,aL,aF,aJ,bR,aY,bS,cM,fS,gN,j0,j1,o1,m2,m2',aT,bZ,cF,d1,d2,d3,m3,m4,m5,el]
theorem T5{th v p q u1 u2 U t x w A E:Int}(q0:0<q)(h2:0<u2)(hU:0<U)(e1:th*q=p*v)(e2:p*(u2*U)=u1*t*q)(e3:x*U=t*w)(e4:1*A*u2=1*E*u1):th*(E*w)=A*x*v:=by
 refine io (dw (aj q0 (aj h2 hU))) ?_
 calc th*(E*w)*(q*(u2*U))=(th*q)*(u2*U)*(E*w):=by grind
  _=p*v*(u2*U)*(E*w):=by rw[e1]
  _=(p*(u2*U))*(v*E*w):=by grind
  _=u1*t*q*(v*E*w):=by rw[e2]
  _=(1*E*u1)*(t*w)*(q*v):=by grind
  _=(1*A*u2)*(x*U)*(q*v):=by rw[<-e4,<-e3]
  _=A*x*v*(q*(u2*U)):=by grind
theorem Lm{n:Nat}(hn:n=2\/n=3){fs:List (Int×Int)}(hf:fs.length=n)(h:∀u∈fs,Sp u)(ns:AB):∃(th:AB)(v:Int)(xs:AB)(w:Int)(ns':AB),nQ [.ref 0,.pv (.tup (fs.map fv))] [.lst (li ns)]=.ok (.pv (tv (th++[v]))) [.lst (li ns')]/\Pq n 300 th v/\Pq n 60 xs w/\∀j,j<n->th.getD j 0*(eW fs*w)=fR fs j*xs.getD j 0*v:=by
 obtain⟨t,n1,e1,t0,t1⟩:=mX (m:=9) (by decide) (by decide) ns [];obtain⟨c,n2,e2,c0,c1⟩:=mX (m:=2) (by decide) (by decide) n1 [];obtain⟨U,eU,U0,U1⟩:∃U:Int,aE (.lst [.int (1+t),.int 1009]) (.int c)=some (.int U)/\1<=U/\U<=1009:=by
  have:c=0\/c=1:=by omega
  rcases this with rfl |rfl
  .exact⟨1+t,rfl,by omega,by omega⟩
  .exact⟨1009,rfl,by decide,by decide⟩
 obtain⟨ts,qs,n3,y4,y5,l1,l2,hN,e3⟩:=Fm U0 U1 (some (.pv (.tup (fs.map fv)))) fs [] n2 none none none none h (by simp;omega);rw[gi,cn]at e3;rw[hf]at l1 l2 hN;have at_:∀{α:Type}{l:List α}{x d:α},x∈l->∃j,j<l.length/\l.getD j d=x:=λ{α l x d} hx=>by
  obtain⟨j,hj,e⟩:=jx hx;exact⟨j,hj,by rw[cv,av hj];exact e⟩
 obtain⟨th,v,R,r1,e4⟩:=abw hn l2 (λp hp=>by
  obtain⟨j,hj,rfl⟩:=at_ (d:=(0,1)) hp;have k:=hN j (by omega);exact⟨k.q0,k.bp,k.bq⟩) (li n3) (some (.ref 0)) (some (.pv (.tup (fs.map fv)))) (some (.pv (.int U))) y4 y5 none none
 obtain⟨xs,w,_,P,r3⟩:=pO (n:=n) (k:=60) (L:=ts) (b:=U) (by omega) l1 (λx hx=>by
  obtain⟨j,hj,rfl⟩:=at_ (d:=0) hx;have:=(hN j (by omega)).t0;exact(Bd.of (k:=15) (n:=10000) (by omega) (by decide)).mono (by decide)) ((Bd.of (k:=15) (n:=10000) (by omega) (by decide)).mono (by decide))
 refine⟨th,v,xs,w,n3,?_,R,P,λj hj=>?_⟩
 .have hb:Jc=(aI (aQ 2 (aC aE (mN cN (aB (aC aF (mC (.int 1)) (aO dN [] (aB (aA 0) (aB (mC (.int 9)) aD)))) (aB (mC (.int 1009)) aD))) (aO dN [] (aB (aA 0) (aB (mC (.int 2)) aD))))) (aI (aQ 3 (eC aD)) (aI (bR (aY (aA 1)) (gN 4) uU) qJ))):=rfl
  generalize qs.map fv=QL,fs.map fv=FL,tv (th++[v])=TT at *;unfold nQ;rw[hb];generalize qJ=NT,uU=NB at *;apply rN (v:=.pv TT) (S':=[.lst (li n3),.lst QL]) rfl
  .apply sq;simp! [bB,aM,aN,aK,aL,aF,aJ,fO,cN,e1,e2,eU];exact⟨rfl,rfl⟩
   apply sq;simp! [bB,aM,aN,aK,aL,aF,aJ,eC,iZ];exact⟨rfl,rfl⟩;refine sq (ρ':=[some (.ref 0),some (.pv (.tup FL)),some (.pv (.int U)),some (.ref 1),y4,y5,none,none]) (S':=[.lst (li n3),.lst QL]) ?_ e4;simp! [bB,aM,aN,aK,aL,aF,aJ,bR,aY,bS,e3]
  .simp[iD]
 .have k:=hN j hj
  have hu:Sp (fs.getD j (0,1)):=by
   rw[cv,av (show j<fs.length by omega)];exact h _ (di _)
  exact T5 k.q0 hu.q (by omega) (r1 j hj) k.e (r3 j hj) (wY hn hf 1 hj)
theorem Wj{n k:Nat}(hn:n=2\/n=3){fs:List (Int×Int)}(hf:fs.length=n)(h:∀u∈fs,Sp u){xs:AB}{w:Int}(P:Pq n k xs w)(hk:k<=900){th:PV}(S:aG)(eS:jU [.pv th,.pv (.tup (fs.map fv))] S=.ok (.pv (tv (xs++[w]))) S){ds:List Pc}(hd:∀d∈ds,Pg n d):
  ((∃d∈ds,∃z∈d.sp n (xs.map (·.fmod w)) w,bW d.Y z=0)/\jH [.pv (.tup (ds.map (Pc.pv fs))),.pv (.tup (fs.map fv)),.pv th] S=.ok (.pv .non) S)\/((∀d∈ds,∀z∈d.sp n (xs.map (·.fmod w)) w,bW d.Y z≠0)/\jH [.pv (.tup (ds.map (Pc.pv fs))),.pv (.tup (fs.map fv)),.pv th] S=.ok (.pv (.int ((ds.map λd=>((d.sp n (xs.map (·.fmod w)) w).map λz=>bW d.Y z).count 1).sum:Nat))) S):=by
 rcases Yi hn hf h P hk S eS (A:=.tup (ds.map (Pc.pv fs))) (.inr rfl) hd with⟨a,e⟩|⟨a,e⟩
 .refine .inl ⟨a,?_⟩
  unfold jH aR Ec;simp! [aE,aZ,bA,aP,aM,aN,aK,aL,aF,aJ,uD,tY,e]
 .refine .inr ⟨a,?_⟩
  generalize (((ds.map λd=>((d.sp n (xs.map (·.fmod w)) w).map λz=>bW d.Y z).count 1).sum:Nat):Int)=K at *;unfold jH aR Ec;simp! [aE,aZ,bA,aP,aM,aN,aK,aL,aF,aJ,uD,tY,e]
theorem ac5{A B C:AB}(ga:Gu 2 201 A)(gb:Gu 2 201 B)(gc:Gu 2 201 C)(nn:0<=dU [A,B,C]){N M:Int}(hM:0<M)(hc:dU [A,B,C]*M=2*N*wU [A,B,C])(S:aG):pI [.pv (px [A,B,C])] S=.ok (.pv (.tup ((fr N M).map .int))) S:=by
 obtain⟨x0,y0,w0,rfl,q0,a0,b0,c0⟩:=ga.two';obtain⟨x1,y1,w1,rfl,q1,a1,b1,c1⟩:=gb.two';obtain⟨x2,y2,w2,rfl,q2,a2,b2,c2⟩:=gc.two';have nn:0<=D2 x0 y0 w0 x1 y1 w1 x2 y2 w2:=nn;have hc:D2 x0 y0 w0 x1 y1 w1 x2 y2 w2*M=2*N*(w0*(w1*(w2*1))):=hc;have u:∀{x:Int},Bd 201 x->Bd 1000 x:=λh=>h.mono (by decide);have e:=Xj (A:=.tup [v2 x0 y0 w0,v2 x1 y1 w1,v2 x2 y2 w2]) S (.inr rfl) ⟨u a0,u b0,u c0,q0⟩ ⟨u a1,u b1,u c1,q1⟩ ⟨u a2,u b2,u c2,q2⟩;have bD:=acE a0 b0 c0 a1 b1 c1 a2 b2 c2;have o1:aS (.int 1) (.int w0)=some (.int w0):=by
  have:=iS (i:=1) (j:=w0) (.inl (.inl ⟨by decide,by decide⟩));rw[dr]at this;exact this
 have m2:=cU c0 c1;have m3:=cU (c0.mul c1) c0;have m4:=cU ((c0.mul c1).mul c0) c2;have b2':Bd 3 (2:Int):=by unfold Bd;decide
 have m5:=cU (((c0.mul c1).mul c0).mul c2) b2';have p5:0<w0*w1*w0*w2*2:=aj (aj (aj (aj q0 q1) q0) q2) (by decide);have f:=tN (w0*D2 x0 y0 w0 x1 y1 w1 x2 y2 w2) (w0*w1*w0*w2*2) S ((c0.mul bD).mono (by decide)) (((((c0.mul c1).mul c0).mul c2).mul b2').mono (by decide));rw[lC p5 hM (t':=N) (by
  calc w0*D2 x0 y0 w0 x1 y1 w1 x2 y2 w2*M=w0*(D2 x0 y0 w0 x1 y1 w1 x2 y2 w2*M):=by rw[jp]
   _=w0*(2*N*(w0*(w1*(w2*1)))):=by rw[hc]
   _=N*(w0*w1*w0*w2*2):=by grind)]at f
 have nb:¬w0*D2 x0 y0 w0 x1 y1 w1 x2 y2 w2<0:=by
  have:=ug (gr q0) nn;omega
 clear hc nn bD;generalize D2 x0 y0 w0 x1 y1 w1 x2 y2 w2=d at *;have ab:lP [.int (w0*d)]=some (.int (w0*d)):=by
  simp only[lP];rw[if_neg nb]
 have iw:∀x y w:Int,aE (.tup [.int x,.int y,.int w]) (.int (-1))=some (.int w):=λx y w=>iQ [x,y] w;have i0:aE (.tup [.tup [.int x0,.int y0,.int w0],.tup [.int x1,.int y1,.int w1],.tup [.int x2,.int y2,.int w2]]) (.int 0)=some (.tup [.int x0,.int y0,.int w0]):=jX (j:=0) rfl;have j0:aE (.lst [.int 2,.int 6]) (.int 0)=some (.int 2):=jX (j:=0) rfl;have sl:iA (.tup [.tup [.int x0,.int y0,.int w0],.tup [.int x1,.int y1,.int w1],.tup [.int x2,.int y2,.int w2]]) (some 1) none=some (.tup [.tup [.int x1,.int y1,.int w1],.tup [.int x2,.int y2,.int w2]]):=rfl;have e:mM [.pv (.tup [.tup [.int x0,.int y0,.int w0],.tup [.int x1,.int y1,.int w1],.tup [.int x2,.int y2,.int w2]])] S=.ok (.pv (.int (w0*d))) S:=e;show pI [.pv (.tup [.tup [.int x0,.int y0,.int w0],.tup [.int x1,.int y1,.int w1],.tup [.int x2,.int y2,.int w2]])] S=_;generalize w0*d=X,(fr N M).map PV.int=FR at *;unfold pI aR Yb;simp! [bB,aM,aN,aK,aL,aF,aJ,bR,aY,dL,dI,cO,fT,bS,sl,dM,eQ,gN,iw,i0,j0,cN,o1,m2,m3,m4,m5,e,ab,nb,f]
def PP:List (Int×Int)->Int
 |[u,v]=>u.1*v.1
 |_=>0
def QQ:List (Int×Int)->Int
 |[u,v]=>u.2*v.2
 |_=>1
theorem xX{fs:List (Int×Int)}(hf:fs.length=2)(h:∀u∈fs,Sp u):0<PP fs/\0<QQ fs/\Bd 60 (PP fs)/\Bd 60 (QQ fs)/\fR fs 0*fR fs 1=PP fs*QQ fs/\eW fs=QQ fs:=by
 match fs,hf,h with
 |[u,v],_,h=>
  have a:=h u (by simp);have b:=h v (by simp);refine⟨aj a.p b.p,aj a.q b.q,(a.bp.mul b.bp).mono (by decide),(a.bq.mul b.bq).mono (by decide),?_,?_⟩
  .show u.1*v.2*(v.1*u.2)=u.1*v.1*(u.2*v.2)
   grind
  .show 1*u.2*v.2=u.2*v.2
   grind
theorem V6{fs:List (Int×Int)}(hf:fs.length=2)(h:∀u∈fs,Sp u){p:Pc×AE}(hp:Pl 2 p)(S:aG):pI [.pv (p.1.pv fs)] S=.ok (.pv (.tup ((fr (dU (p.1.ys.map (·++[1]))*PP fs) (2*QQ fs)).map .int))) S:=by
 obtain⟨hP,hQ,_,_,eA,eE⟩:=xX hf h;have g:=hp.g;have ps:=hp.ps;obtain⟨⟨f,a,r⟩,R⟩:=p;have lr:r.length=2:=by
  have l:(a::r).length=2+1:=g.len;simpa using l
 obtain⟨b,c,rfl⟩:∃b c,r=[b,c]:=by
  match r,lr with
  |[b,c],_=>exact⟨_,_,rfl⟩
 have af:∀y∈[a,b,c],Gu 2 201 (bJ fs f y)/\gC 2 (λj=>f.getLastD 0*fR fs j) (λj=>f.getD j 0*eW fs) (f.getLastD 0*eW fs) (y++[1]) (bJ fs f y):=λy hy=>rG (.inl rfl) hf h g.f (g.ok y hy).1 λx hx=>by have:=(g.ok y hy).2 x hx;omega
 have e:=yJ (af a (by simp)).2 (af b (by simp)).2 (af c (by simp)).2;have w1:wU [a++[1],b++[1],c++[1]]=1:=by simp[wU]
 have ps:0<dU [a++[1],b++[1],c++[1]]:=ps;have F0:0<f.getLastD 0:=by
  obtain⟨fx,fw,rfl,FP⟩:=g.f;have:(fx++[fw]).getLastD 0=fw:=by simp
  rw[this];exact FP.pos
 have pw:0<wU [bJ fs f a,bJ fs f b,bJ fs f c]:=pQ λu hu=>by
  simp only[bo,cf,or_false]at hu;rcases hu with rfl |rfl |rfl
  .exact(af a (by simp)).1
  .exact(af b (by simp)).1
  .exact(af c (by simp)).1
 rw[w1,eE]at e;have key:dU [bJ fs f a,bJ fs f b,bJ fs f c]*QQ fs=dU [a++[1],b++[1],c++[1]]*PP fs*wU [bJ fs f a,bJ fs f b,bJ fs f c]:=by
  generalize QQ fs=Q,PP fs=P,fR fs 1=A1,fR fs 0=A0,wU [bJ fs f a,bJ fs f b,bJ fs f c]=W,dU [a++[1],b++[1],c++[1]]=d,dU [bJ fs f a,bJ fs f b,bJ fs f c]=D,f.getLastD 0=φ at *;refine io (dw (aj (aj (aj F0 F0) F0) (aj hQ hQ))) ?_
  calc D*Q*(φ*φ*φ*(Q*Q))=D*(φ*Q*(φ*Q)*(φ*Q)*1):=by grind
   _=φ*A0*(φ*A1)*(φ*Q)*d*W:=by rw[e]
   _=(A0*A1)*(φ*φ*φ)*Q*d*W:=by grind
   _=(P*Q)*(φ*φ*φ)*Q*d*W:=by rw[eA]
   _=d*P*W*(φ*φ*φ*(Q*Q)):=by grind
 refine ac5 (af a (by simp)).1 (af b (by simp)).1 (af c (by simp)).1 ?_ (aj (by decide) hQ) ?_ S
 .have h1:0<dU [bJ fs f a,bJ fs f b,bJ fs f c]*QQ fs:=by
   rw[key];exact aj (aj ps hP) pw
  exact gr (ss h1 hQ)
 .show dU [bJ fs f a,bJ fs f b,bJ fs f c]*(2*QQ fs)=2*(dU [a++[1],b++[1],c++[1]]*PP fs)*wU [bJ fs f a,bJ fs f b,bJ fs f c]
  calc dU [bJ fs f a,bJ fs f b,bJ fs f c]*(2*QQ fs)=2*(dU [bJ fs f a,bJ fs f b,bJ fs f c]*QQ fs):=by grind
   _=2*(dU [a++[1],b++[1],c++[1]]*PP fs*wU [bJ fs f a,bJ fs f b,bJ fs f c]):=by rw[key]
   _=_:=by grind
theorem uZ{k:Nat}{x w:Int}(hw:0<w)(bw:Bd k w)(bx:Bd k x):∃a b:Int,fr x w=[a,b]/\0<b/\Bd k a/\Bd k b/\a*w=x*b:=by
 obtain⟨e,p,b1,b2,_⟩:=lL hw bw bx;exact⟨_,_,e,p,b1,b2,nK hw bw bx⟩
theorem V4{N D P Q:Int}(hQ:0<Q)(bQ:Bd 62 Q)(bN:Bd 90 (N*P))(bD:Bd 90 (D*P))(S:aG):uA [.pv (.tup ((fr (N*P) Q).map .int)),.pv (.tup ((fr (D*P) Q).map .int))] S=.ok (.pv (.tup ((fr ((N+D)*P) Q).map .int))) S:=by
 obtain⟨a,b,e1,b0,ba,bb,c1⟩:=uZ hQ (bQ.mono (by decide)) bN;obtain⟨c,d,e2,d0,bc,bd,c2⟩:=uZ hQ (bQ.mono (by decide)) bD;rw[e1,e2];have m1:=cU ba bd;have m2:=cU bc bb;have m3:=cU bb bd;have f:=tN (a*d+c*b) (b*d) S (((ba.mul bd).add (bc.mul bb)).mono (by decide)) ((bb.mul bd).mono (by decide));rw[lC (aj b0 d0) hQ (t':=(N+D)*P) (by
  calc (a*d+c*b)*Q=(a*Q)*d+(c*Q)*b:=by grind
   _=N*P*b*d+D*P*d*b:=by rw[c1,c2]
   _=(N+D)*P*(b*d):=by grind)]at f
 have i0:∀p q:Int,aE (.tup [.int p,.int q]) (.int 0)=some (.int p):=λ_ _=>rfl;have i1:∀p q:Int,aE (.tup [.int p,.int q]) (.int 1)=some (.int q):=λ_ _=>rfl;simp only[az,cn];clear c1 c2 e1 e2;generalize b*d=BD,c*b=CB,a*d=AD,(fr ((N+D)*P) Q).map PV.int=R at *;unfold uA aR Jd;simp! [bB,aM,aN,aK,aL,aF,aJ,i0,i1,m1,m2,m3,f]
theorem Dn{fs:List (Int×Int)}(hf:fs.length=2)(h:∀u∈fs,Sp u)(S:aG)(x0:AM):∀(ps:List (Pc×AE))(N:Int)(x2:AM),(∀p∈ps,Pl 2 p/\dU (p.1.ys.map (·++[1]))<=8)->0<=N->N+8*ps.length<=1000->∃y2,cM [] (gN 2) (aQ 1 (aO uA [] (aB (aA 1) (aB (aO pI [] (aB (aA 2) aD)) aD)))) (ps.map λp=>p.1.pv fs) [x0,some (.pv (.tup ((fr (N*PP fs) (2*QQ fs)).map .int))),x2] S=.nx [x0,some (.pv (.tup ((fr ((N+(ps.map λp=>dU (p.1.ys.map (·++[1]))).sum)*PP fs) (2*QQ fs)).map .int))),y2] S
 |[],N,x2,_,_,_=>⟨x2,by rw[cn,cn,ud,Int.add_zero];exact eQ⟩
 |p::ps,N,x2,hp,h0,hl=>by
  obtain⟨p0,q0,bP,bQ,_,_⟩:=xX hf h;obtain⟨hp1,hd⟩:=hp p (by simp);have pos:=hp1.ps;simp only[cu]at hl;have e1:=V6 hf h hp1 S;have b2:Bd 62 (2*QQ fs):=((show Bd 2 (2:Int) by unfold Bd;decide).mul bQ).mono (by decide);have bN:Bd 90 (N*PP fs):=((show Bd 12 N from Bd.of (n:=1000) (by omega) (by decide)).mul bP).mono (by decide);have bD:Bd 90 (dU (p.1.ys.map (·++[1]))*PP fs):=((show Bd 12 (dU (p.1.ys.map (·++[1]))) from Bd.of (n:=1000) (by omega) (by decide)).mul bP).mono (by decide);have e2:=V4 (aj (by decide) q0) b2 bN bD S;obtain⟨y2,e3⟩:=Dn hf h S x0 ps (N+dU (p.1.ys.map (·++[1]))) (some (.pv (p.1.pv fs))) (λq hq=>hp q (ax _ hq)) (by omega) (by omega);refine⟨y2,?_⟩;rw[az,az,kj,<-Int.add_assoc,dM];simp only[gN,cw,cj];rw[<-e3];clear e3;generalize p.1.pv fs=G5,PV.tup ((fr (dU (p.1.ys.map (·++[1]))*PP fs) (2*QQ fs)).map .int)=G3,PV.tup ((fr ((N+dU (p.1.ys.map (·++[1])))*PP fs) (2*QQ fs)).map .int)=G2,PV.tup ((fr (N*PP fs) (2*QQ fs)).map .int)=G1 at *;simp! [bB,aM,aN,aK,aL,aF,aJ,e1,e2]
theorem Xx{fs:List (Int×Int)}(hf:fs.length=2)(h:∀u∈fs,Sp u){ps:List (Pc×AE)}(hp:∀p∈ps,Pl 2 p/\dU (p.1.ys.map (·++[1]))<=8)(hl:ps.length<=99)(S:aG):vG [.pv (.tup (ps.map λp=>p.1.pv fs))] S=.ok (.pv (.tup ((fr ((ps.map λp=>dU (p.1.ys.map (·++[1]))).sum*PP fs) (2*QQ fs)).map .int))) S:=by
 obtain⟨p0,q0,_⟩:=xX hf h;obtain⟨y2,e⟩:=Dn hf h S (some (.pv (.tup (ps.map λp=>p.1.pv fs)))) ps 0 none hp (by decide) (by omega);have z:PV.tup ((fr (0*PP fs) (2*QQ fs)).map .int)=.tup [.int 0,.int 1]:=by
  rw[lC (t:=0*PP fs) (b:=2*QQ fs) (t':=0) (b':=1) (aj (by decide) q0) (by decide) (by simp),Rf 0];rfl
 rw[z,oj]at e;generalize (ps.map λp=>p.1.pv fs)=G2,PV.tup ((fr ((ps.map λp=>dU (p.1.ys.map (·++[1]))).sum*PP fs) (2*QQ fs)).map .int)=G1 at *;unfold vG aR zM;simp! [bB,aM,aN,aK,aL,aF,aJ,dP,bR,aY,bS,e]
theorem Zy{fs:List (Int×Int)}(hf:fs.length=2)(h:∀u∈fs,Sp u)(S:aG):sL [.pv (.tup (fs.map fv))] S=.ok (.pv (.tup ((fr (PP fs) (QQ fs)).map .int))) S:=by
 match fs,hf,h with
 |[u,v],_,h=>
  have a:=h u (by simp);have b:=h v (by simp);have o1:Bd 500 (1:Int):=(show Bd 1 (1:Int) by unfold Bd;decide).mono (by decide);have e1:=tE o1 o1 (a.bp.mono (show 30<=500 by decide)) (a.bq.mono (show 30<=500 by decide)) S;rw[dr,dr,a.lo]at e1;have e2:=tE (a.bp.mono (show 30<=500 by decide)) (a.bq.mono (show 30<=500 by decide)) (b.bp.mono (show 30<=500 by decide)) (b.bq.mono (show 30<=500 by decide)) S;show sL [.pv (.tup [.tup [.int u.1,.int u.2],.tup [.int v.1,.int v.2]])] S=.ok (.pv (.tup ((fr (u.1*v.1) (u.2*v.2)).map .int))) S;generalize (fr (u.1*v.1) (u.2*v.2)).map PV.int=R at *;simp only[az,cn]at e1;unfold sL aR zJ;simp! [bB,aM,aN,aK,aL,aF,aJ,dP,bR,aY,bS,dM,eQ,gN,e1,e2]
theorem Yd{α:Type}{b c b' c':α}(h:[b,c].Perm [b',c']):(b'=b/\c'=c)\/(b'=c/\c'=b):=by
 have hb:b'∈[b,c]:=h.mem_iff.mpr (by simp);have one:∀{p q:α},[p].Perm [q]->q=p:=λ{p q} k=>by
  have:q∈[p]:=k.mem_iff.mpr (by simp);simpa using this
 simp only[bo,cf,or_false]at hb;rcases hb with rfl |rfl
 .exact .inl ⟨rfl,one h.cons_inv⟩
 .exact .inr ⟨rfl,one ((qu _ _ _).trans h).cons_inv⟩
theorem acJ{α:Type}{a b c a' b' c':α}(h:[a,b,c].Perm [a',b',c']):(a'=a/\b'=b/\c'=c)\/(a'=a/\b'=c/\c'=b)\/(a'=b/\b'=a/\c'=c)\/(a'=b/\b'=c/\c'=a)\/(a'=c/\b'=a/\c'=b)\/(a'=c/\b'=b/\c'=a):=by
 have ha:a'∈[a,b,c]:=h.mem_iff.mpr (by simp);simp only[bo,cf,or_false]at ha;rcases ha with rfl |rfl |rfl
 .rcases Yd h.cons_inv with⟨h1,h2⟩|⟨h1,h2⟩
  .exact .inl ⟨rfl,h1,h2⟩
  .exact .inr (.inl ⟨rfl,h1,h2⟩)
 .rcases Yd ((qu _ _ _).trans h).cons_inv with⟨h1,h2⟩|⟨h1,h2⟩
  .exact .inr (.inr (.inl ⟨rfl,h1,h2⟩))
  .exact .inr (.inr (.inr (.inl ⟨rfl,h1,h2⟩)))
 .have k:[a',a,b].Perm [a,b,a']:=((qu _ _ _).trans ((qu _ _ _).cons _))
  rcases Yd (k.trans h).cons_inv with⟨h1,h2⟩|⟨h1,h2⟩
  .exact .inr (.inr (.inr (.inr (.inl ⟨rfl,h1,h2⟩))))
  .exact .inr (.inr (.inr (.inr (.inr ⟨rfl,h1,h2⟩))))
theorem He{p:Pc×AE}(hp:Pl 2 p):qF p.2=dU (p.1.ys.map (·++[1])):=by
 have l2:p.2.length=3:=by rw[<-hp.pm.length_eq];exact hp.g.len
 have ok:∀y∈p.2,y.length=2:=λy hy=>(hp.g.ok y (hp.pm.mem_iff.mpr hy)).1;have ok2:∀y∈p.1.ys,y.length=2:=λy hy=>(hp.g.ok y hy).1;have pD:=hp.ps;have hm:=hp.pm;have l1:=hp.g.len;generalize p.1.ys=yss,p.2=xss at *;obtain⟨A,B,C,rfl⟩:∃A B C,xss=[A,B,C]:=by
  match xss,l2 with
  |[A,B,C],_=>exact⟨_,_,_,rfl⟩
 obtain⟨A',B',C',rfl⟩:∃A B C,yss=[A,B,C]:=by
  match yss,l1 with
  |[A,B,C],_=>exact⟨_,_,_,rfl⟩
 have two:∀z:AB,z.length=2->∃p q:Int,z=[p,q]:=λz k=>by
  match z,k with
  |[p,q],_=>exact⟨p,q,rfl⟩
 obtain⟨p1,p2,rfl⟩:=two A' (ok2 A' (by simp));obtain⟨p3,p4,rfl⟩:=two B' (ok2 B' (by simp));obtain⟨p5,p6,rfl⟩:=two C' (ok2 C' (by simp));have fin:∀{u v:Int},0<v->(u=v\/u=-v)->((u.natAbs:Nat):Int)=v:=λh k=>by omega
 refine fin pD ?_;clear pD l1 l2 ok ok2;rcases acJ hm with⟨k1,k2,k3⟩|⟨k1,k2,k3⟩|⟨k1,k2,k3⟩|⟨k1,k2,k3⟩|⟨k1,k2,k3⟩|⟨k1,k2,k3⟩<;>rw[k1,k2,k3]
 .left;rfl
 .right;show D2 p1 p2 1 p5 p6 1 p3 p4 1=-D2 p1 p2 1 p3 p4 1 p5 p6 1;unfold D2;grind
 .right;show D2 p3 p4 1 p1 p2 1 p5 p6 1=-D2 p1 p2 1 p3 p4 1 p5 p6 1;unfold D2;grind
 .left;show D2 p3 p4 1 p5 p6 1 p1 p2 1=D2 p1 p2 1 p3 p4 1 p5 p6 1;unfold D2;grind
 .left;show D2 p5 p6 1 p1 p2 1 p3 p4 1=D2 p1 p2 1 p3 p4 1 p5 p6 1;unfold D2;grind
 .right;show D2 p5 p6 1 p3 p4 1 p1 p2 1=-D2 p1 p2 1 p3 p4 1 p5 p6 1;unfold D2;grind
theorem xJ{x w:Int}(w0:0<w):(-(x.fmod w)).fmod w=(-x).fmod w:=by
 rw[uf _ (gr w0),uf _ (gr w0),uf _ (gr w0)];have e:-(x%w)=-x+w*(x/w):=by
  have:=Int.emod_add_mul_ediv x w;omega
 rw[e,Int.add_mul_emod_self_left]
structure Ov(n:Nat)(xs:AB)(w:Int):Prop where
 P:Pq n 60 xs w
def gR(n:Nat)(xs:AB)(w:Int)(d:Pc):Nat:=((d.sp n (xs.map (·.fmod w)) w).map λz=>bW d.Y z).count 1
def lU(n:Nat)(xs:AB)(w:Int)(d:Pc):Prop:=∀z∈d.sp n (xs.map (·.fmod w)) w,bW d.Y z≠0
theorem rY{x y w:Int}(o:Ov 2 [x,y] w){p:Pc×AE}(hp:Pl 2 p)(hR:jC p.2):gR 2 [x,y] w p.1=(vR p.2 (x.fmod w) (y.fmod w) w).count 1/\(lU 2 [x,y] w p.1->0∉vR p.2 (x.fmod w) (y.fmod w) w):=by
 have a:=aba hp hR o.P (by decide);refine⟨congrArg (·.count 1) a,λh c=>?_⟩;rw[<-a]at c;unfold lN at c;obtain⟨z,hz,e⟩:=bj.mp c;exact h z hz e
theorem Ml{x y w:Int}(o:Ov 2 [x,y] w)(o2:Ov 2 [-x,-y] w):∀ps:List (Pc×AE),(∀p∈ps,Pl 2 p/\jC p.2)->(∀p∈ps,lU 2 [x,y] w p.1)->(∀p∈ps,lU 2 [-x,-y] w p.1)->(((ps.map λp=>gR 2 [x,y] w p.1).sum:Nat):Int)+((ps.map λp=>gR 2 [-x,-y] w p.1).sum:Nat)=(ps.map λp=>dU (p.1.ys.map (·++[1]))).sum
 |[],_,_,_=>rfl
 |p::ps,h,n1,n2=>by
  have ih:=Ml o o2 ps (λq hq=>h q (ax _ hq)) (λq hq=>n1 q (ax _ hq)) (λq hq=>n2 q (ax _ hq));obtain⟨hp,hR⟩:=h p (by simp);have w0:=o.P.pos;obtain⟨a1,a2⟩:=rY o hp hR;obtain⟨b1,b2⟩:=rY o2 hp hR;have z1:=a2 (n1 p (by simp));have z2:=b2 (n2 p (by simp));have k:=adq hR (mq x w0) (ox x w0) (mq y w0) (ox y w0) z1 (by rw[xJ w0,xJ w0];exact z2);rw[xJ w0,xJ w0,He hp,<-a1,<-b1]at k;simp only[az,kj];omega
def cR(x y w:Int)(R:AE):Nat:=(vR R (x.fmod w) (y.fmod w) w).count 1
theorem R6{x y w:Int}(w0:0<w){g:AF×AF}(hg:kK g)(nz:∀R,R∈g.1\/R∈g.2->0∉vR R (x.fmod w) (y.fmod w) w):(g.1.map (cR x y w)).sum=(g.2.map (cR x y w)).sum:=by
 obtain⟨T,hT,h⟩:=hg;have q:=λn1 n2=>adA hT (mq x w0) (ox x w0) (mq y w0) (ox y w0) n1 n2;rcases h with rfl |rfl |rfl
 .rfl
 .have k:=q (nz _ (.inl (by simp))) λR hR=>nz R (.inr hR)
  show cR x y w (eR T)+0=_;exact k
 .have k:=q (nz _ (.inr (by simp))) λR hR=>nz R (.inl hR)
  show _=cR x y w (eR T)+0;exact k.symm
theorem Cl{x y w:Int}(w0:0<w):∀gs:List (AF×AF),(∀g∈gs,kK g)->(∀R,R∈gs.flatMap (·.1)\/R∈gs.flatMap (·.2)->0∉vR R (x.fmod w) (y.fmod w) w)->((gs.flatMap (·.1)).map (cR x y w)).sum=((gs.flatMap (·.2)).map (cR x y w)).sum
 |[],_,_=>rfl
 |g::gs,hg,nz=>by
  have ih:=Cl w0 gs (λq hq=>hg q (ax _ hq)) λR hR=>nz R (by
   rw[ir,ir];rcases hR with h |h
   .exact .inl (dz _ h)
   .exact .inr (dz _ h))
  have k:=R6 w0 (hg g (by simp)) λR hR=>nz R (by
   rw[ir,ir];rcases hR with h |h
   .exact .inl (ji _ h)
   .exact .inr (ji _ h))
  rw[ir,ir,fe,fe,tq,tq,ih,k]
theorem Nm(L:List Nat):L.reverse.sum=L.sum:=by
 induction L with
 |nil=>rfl
 |cons a L ih=>rw[List.reverse_cons,tq,ih,kj,kj,ud];omega
theorem Q6{x y w:Int}(o:Ov 2 [x,y] w){gs:List (AF×AF)}(hg:∀g∈gs,kK g){p1 p2:List (Pc×AE)}(h1:∀p∈p1,Pl 2 p/\jC p.2)(h2:∀p∈p2,Pl 2 p/\jC p.2)(e1:p1.map (·.2)=gs.flatMap (·.1))(e2:p2.map (·.2)=(gs.flatMap (·.2)).reverse)(n1:∀p∈p1,lU 2 [x,y] w p.1)(n2:∀p∈p2,lU 2 [x,y] w p.1):(p1.map λp=>gR 2 [x,y] w p.1).sum=(p2.map λp=>gR 2 [x,y] w p.1).sum:=by
 have c1:(p1.map λp=>gR 2 [x,y] w p.1)=(p1.map (·.2)).map (cR x y w):=by
  rw[cg];exact eh λp hp=>(rY o (h1 p hp).1 (h1 p hp).2).1
 have c2:(p2.map λp=>gR 2 [x,y] w p.1)=(p2.map (·.2)).map (cR x y w):=by
  rw[cg];exact eh λp hp=>(rY o (h2 p hp).1 (h2 p hp).2).1
 rw[c1,c2,e1,e2,qv,Nm];refine Cl o.P.pos gs hg λR hR=>?_;rcases hR with h |h
 .rw[<-e1]at h
  obtain⟨p,hp,rfl⟩:=bj.mp h;exact(rY o (h1 p hp).1 (h1 p hp).2).2 (n1 p hp)
 .rw[<-qw,<-e2]at h
  obtain⟨p,hp,rfl⟩:=bj.mp h;exact(rY o (h2 p hp).1 (h2 p hp).2).2 (n2 p hp)
theorem Sj{n:Nat}(hn:n=2\/n=3){xs:AB}{w:Int}(o:Ov n xs w):∀(ps qs:List (Pc×AE)),(∀p∈ps,Pl n p)->(∀p∈qs,Pl n p)->qs.map (·.2)=ps.map (·.2)->(qs.map λp=>gR n xs w p.1)=ps.map λp=>gR n xs w p.1
 |[],[],_,_,_=>rfl
 |[],q::qs,_,_,e=>by cases e
 |p::ps,[],_,_,e=>by cases e
 |p::ps,q::qs,hp,hq,e=>by
  simp only[az,xy]at e;have h1:=hp p (by simp);have h2:=hq q (by simp);have k:gR n xs w q.1=gR n xs w p.1:=congrArg (·.count 1) (Vq hn (Hc o.P) (by decide) h1.g h2.g h1.ps h2.ps (h2.pm.trans (by rw[e.1];exact h1.pm.symm)));rw[az,az,k,Sj hn o ps qs (λr hr=>hp r (ax _ hr)) (λr hr=>hq r (ax _ hr)) e.2]
theorem Nj{S:aG}{me:ME}{α:Type}(A B C:α->PV):∀(L:List α)(x y:AM),(∀v∈L,me [some (.pv (A v)),some (.pv (B v))] S=.ok (.pv (C v)) S)->cF [] (gT 2 (bV (gN 0) (bV (gN 1) cQ))) me (L.map λv=>.tup [A v,B v]) [x,y] S=.ok (L.map C) S
 |[],x,y,_=>dB
 |v::L,x,y,h=>by
  have e:=h v ce;have e':=Nj A B C L (some (.pv (A v))) (some (.pv (B v))) λu hu=>h u (ax _ hu);rw[az,dE];simp[gN,gT,bV,cQ,e,e']
theorem Tk:∀L:AK,dY L L=L.map λv=>PV.tup [v,v]
 |[]=>rfl
 |v::L=>by
  show PV.tup [v,v]::dY L L=_;rw[Tk L];rfl
theorem Fa{r:FM}(S:aG)(L:AK)(h:∀v∈L,r [.pv v,.pv v] S=.ok (.pv (.bl true)) S):aR 2 2 (mG r) [.pv (.tup L),.pv (.tup L)] S=.ok (.pv (.bl true)) S:=by
 have e1:cF [] (gT 2 (bV (gN 0) (bV (gN 1) cQ))) (aO r [] (aB (aA 0) (aB (aA 1) aD))) (L.map λv=>PV.tup [v,v]) [none,none] S=.ok (L.map λ_=>.bl true) S:=by
  refine Nj (λv=>v) (λv=>v) (λ_=>.bl true) L none none λv hv=>?_;simp! [aE,aZ,bA,aP,aM,aN,aK,aL,aF,aJ,h v hv]
 have e2:=Tk L;have e3:=Rz L;unfold aR mG;generalize (L.map λv=>PV.tup [v,v])=ZL,(aO r [] (aB (aA 0) (aB (aA 1) aD)))=ME1,(L.map λ_=>PV.bl true)=BL at *;simp! [bB,aM,aN,aK,aL,aF,aJ,pY,aT,bZ,dX,fQ,bS,e2,e1,e3]
theorem Uy(S:aG)(i:Int):vM [.pv (.int i),.pv (.int i)] S=.ok (.pv (.bl true)) S:=by
 have e:=Pb i S;unfold vM aR mG;simp! [bB,aM,aN,aK,aL,aF,aJ,pY,e]
theorem Ax(S:aG)(fs:List (Int×Int)):nN [.pv (.tup (fs.map fv)),.pv (.tup (fs.map fv))] S=.ok (.pv (.bl true)) S:=by
 refine Fa S _ λv hv=>?_;obtain⟨u,_,rfl⟩:=bj.mp hv;refine Fa S _ λv hv=>?_;simp only[bo,cf,or_false]at hv;rcases hv with rfl |rfl<;>exact Uy S _
theorem D4:∀T∈jY,qF T<=8/\qF (eR T)<=8/\∀R∈eJ T,qF R<=8:=by decide+kernel
theorem Xp{R:AE}(h:jC R):qF R<=8:=by
 obtain⟨T,hT,h⟩:=h;obtain⟨a,b,c⟩:=D4 T hT;rcases h with rfl |rfl |h
 .exact a
 .exact b
 .exact c R h
theorem aaP{N P Q:Int}(hQ:0<Q)(bQ:Bd 60 Q)(bN:Bd 90 (N*P))(S:aG):lD [.pv (.tup [.int 2,.int 1]),.pv (.tup ((fr (N*P) (2*Q)).map .int))] S=.ok (.pv (.tup ((fr (N*P) Q).map .int))) S:=by
 have b2:Bd 90 (2*Q):=((show Bd 2 (2:Int) by unfold Bd;decide).mul bQ).mono (by decide);obtain⟨a,b,e1,b0,ba,bb,c1⟩:=uZ (aj (by decide) hQ) b2 bN;have t2:Bd 500 (2:Int):=(show Bd 2 (2:Int) by unfold Bd;decide).mono (by decide);have t1:Bd 500 (1:Int):=(show Bd 1 (1:Int) by unfold Bd;decide).mono (by decide);have e:=tE t2 t1 (ba.mono (by decide)) (bb.mono (by decide)) S;rw[e1];rw[lC (aj (by decide) b0) hQ (t':=N*P) (by
  calc 2*a*Q=a*(2*Q):=by grind
   _=N*P*b:=c1
   _=N*P*(1*b):=by rw[dr])]at e
 exact e
theorem abd{M P Q:Int}(hQ:0<Q)(bQ:Bd 60 Q)(bP:Bd 60 P)(bM:Bd 20 M)(S:aG):lD [.pv (.tup [.int M,.int 1]),.pv (.tup ((fr P Q).map .int))] S=.ok (.pv (.tup ((fr (M*P) Q).map .int))) S:=by
 obtain⟨a,b,e1,b0,ba,bb,c1⟩:=uZ hQ bQ bP;have t1:Bd 500 (1:Int):=(show Bd 1 (1:Int) by unfold Bd;decide).mono (by decide);have e:=tE (bM.mono (by decide)) t1 (ba.mono (by decide)) (bb.mono (by decide)) S;rw[e1];rw[lC (aj (by decide) b0) hQ (t':=M*P) (by
  calc M*a*Q=M*(a*Q):=by grind
   _=M*(P*b):=by rw[c1]
   _=M*P*(1*b):=by grind)]at e
 exact e
theorem aaj{fs:List (Int×Int)}(hf:fs.length=2)(h:∀u∈fs,Sp u){ps:List (Pc×AE)}(hp:∀p∈ps,Pl 2 p/\jC p.2)(hl:ps.length<=99){th:AB}{v x y w:Int}(R:Pq 2 300 th v)(P:Pq 2 60 [x,y] w)(rel:∀j,j<2->th.getD j 0*(eW fs*w)=fR fs j*[x,y].getD j 0*v){m:PV}(hm:m=.non\/((∀p∈ps,lU 2 [x,y] w p.1)/\m=.int ((ps.map λp=>gR 2 [x,y] w p.1).sum:Nat)))(S:aG)(a0:AV):oS [a0,.pv (.tup (ps.map λp=>p.1.pv fs)),.pv (.tup (fs.map fv)),.pv (tv (th++[v])),.pv m] S=.ok (.pv (.bl true)) S:=by
 have o:Ov 2 [x,y] w:=⟨P⟩;have o2:Ov 2 [-x,-y] w:=⟨Hq P⟩;obtain⟨p0,p1,rfl⟩:∃p0 p1,th=[p0,p1]:=by
  match th,R.len with
  |[a,b],_=>exact⟨_,_,rfl⟩
 have R':Pq 2 300 [-p0,-p1] v:=Hq R;have rel':∀j,j<2->[-p0,-p1].getD j 0*(eW fs*w)=fR fs j*[-x,-y].getD j 0*v:=λj hj=>by
  have r:=rel j hj
  match j,hj,r with
  |0,_,r=>
   have r:p0*(eW fs*w)=fR fs 0*x*v:=r;show-p0*(eW fs*w)=fR fs 0*-x*v;grind
  |1,_,r=>
   have r:p1*(eW fs*w)=fR fs 1*y*v:=r;show-p1*(eW fs*w)=fR fs 1*-y*v;grind
 have sb:=zY (.inl rfl) hf h R' (by decide) o2.P rel' S;have ed:(ps.map λp=>p.1.pv fs)=(ps.map (·.1)).map (Pc.pv fs):=by rw[cg];rfl
 have ov:=Wj (.inl rfl) hf h o2.P (by decide) S sb (ds:=ps.map (·.1)) (λd hd=>by
  obtain⟨p,hpp,rfl⟩:=bj.mp hd;exact(hp p hpp).1.g)
 rw[<-ed]at ov;have hbk:=Xx hf h (λp hpp=>⟨(hp p hpp).1,by rw[<-He (hp p hpp).1];exact Xp (hp p hpp).2⟩) hl S;have cb:=Zy hf h S;obtain⟨P0,Q0,bP,bQ,_,_⟩:=xX hf h;have fs':=Ml o o2 ps hp;have nd:(((ps.map (·.1)).map λd=>((d.sp 2 ([-x,-y].map (·.fmod w)) w).map λz=>bW d.Y z).count 1).sum:Nat)=(ps.map λp=>gR 2 [-x,-y] w p.1).sum:=by
  rw[cg];rfl
 rw[nd]at ov;have nz2:(∀d∈ps.map (·.1),∀z∈d.sp 2 ([-x,-y].map (·.fmod w)) w,bW d.Y z≠0)->∀p∈ps,lU 2 [-x,-y] w p.1:=λk p hpp=>k p.1 (bj.mpr ⟨p,hpp,rfl⟩);have bs:∀L:List (Pc×AE),(∀p∈L,Pl 2 p/\jC p.2)->0<=(L.map λp=>dU (p.1.ys.map (·++[1]))).sum/\(L.map λp=>dU (p.1.ys.map (·++[1]))).sum<=8*L.length:=λL=>by
  induction L with
  |nil=>intro _;simp
  |cons q L ih=>
   intro k;have a:=ih λp hpp=>k p (ax _ hpp);have b:=(k q (by simp)).1.ps;have c:=Xp (k q (by simp)).2;rw[He (k q (by simp)).1]at c;rw[az,kj,cu];omega
 have bs:=bs ps hp;generalize (ps.map λp=>gR 2 [x,y] w p.1).sum=C1,(ps.map λp=>gR 2 [-x,-y] w p.1).sum=C2,(ps.map λp=>dU (p.1.ys.map (·++[1]))).sum=N at *;have bN:Bd 12 N:=Bd.of (n:=1000) (by omega) (by decide);have du:=aaP (N:=N) Q0 bQ ((bN.mul bP).mono (by decide)) S;have sl:iA (tv ([p0,p1]++[v])) none (some (-1))=some (.tup [.int p0,.int p1]):=nO [p0,p1] v;have iL:aE (tv ([p0,p1]++[v])) (.int (-1))=some (.int v):=iQ [p0,p1] v;have et:tv ([-p0,-p1]++[v])=.tup [.int (-p0),.int (-p1),.int v]:=rfl;rw[et]at ov;generalize tv ([p0,p1]++[v])=TP,PV.tup (ps.map λp=>p.1.pv fs)=HP,PV.tup (fs.map fv)=G at *;have s1:∀m2:PV,jH [.pv HP,.pv G,.pv (.tup [.int (-p0),.int (-p1),.int v])] S=.ok (.pv m2) S->(aQ 5 (aO jH [] (aB (aA 1) (aB (aA 2) (aB (mR fL (aB (aC aF (aT ["_law_number"] [] (aY (dL (aA 3) cO (dI (bG bX (mC (.int 1)))))) (gN 0) (aC eV (mC (.int 0)) (aA 0))) (mN cN (aB (aC aE (aA 3) (bG bX (mC (.int 1)))) aD))) aD)) aD))))) [some a0,some (.pv HP),some (.pv G),some (.pv TP),some (.pv m),none,none] S=.nx [some a0,some (.pv HP),some (.pv G),some (.pv TP),some (.pv m),some (.pv m2),none] S:=λm2 e=>by
  simp! [bB,aM,aN,aK,aL,aF,aJ,aT,bZ,aY,bS,dL,cO,dI,fT,sl,iL,dE,dB,gN,cN,e]
 unfold oS zH;refine xV rfl ?_;rcases ov with⟨_,e⟩|⟨nz,e⟩
 .refine sq (s1 _ e) ?_
  rcases hm with rfl |⟨_,rfl⟩
  .simp! [bB,aM,aN,aK,aL,aF,aJ,kS]
  .simp! [bB,aM,aN,aK,aL,aF,aJ,kS]
 .refine sq (s1 _ e) ?_
  rcases hm with rfl |⟨n1,rfl⟩
  .simp! [bB,aM,aN,aK,aL,aF,aJ,kS]
  .have k:=fs' n1 (nz2 nz)
   have lh:=abd (M:=N) Q0 bQ bP (bN.mono (by decide)) S;obtain⟨a,b,ef,_⟩:=uZ Q0 (bQ.mono (show 60<=90 by decide)) ((bN.mul bP).mono (show 12+60<=90 by decide));rw[ef]at du lh;simp only[az,cn]at du lh;have wh:=Pb (C2:Int) S;have eqv:aP 8 (.tup [.int a,.int b]) (.tup [.int a,.int b])=some true:=by simp[aP,kN]
   rw[<-k]at hbk du lh;generalize (C2:Int)=c2,(C1:Int)=c1,PV.tup [.int a,.int b]=RR,PV.tup ((fr (((C1:Int)+(C2:Int))*PP fs) (2*QQ fs)).map .int)=HB,PV.tup ((fr (PP fs) (QQ fs)).map .int)=CB at *;simp! [bB,aM,aN,aK,aL,aF,aJ,kS,dP,hbk,du,wh,cb,lh,eqv]
structure Pk(n:Nat)(h1 h2:AF):Prop where
 w1:∀R∈h1,Rw n R
 w2:∀R∈h2,Rw n R
 l1:h1.length<=8
 l2:h2.length<=8
 one:∀(p1 p2:List (Pc×AE)),(∀p∈p1,Pl n p)->(∀p∈p2,Pl n p)->p1.map (·.2)=h1->p2.map (·.2)=h2->∀j,j<n->(∃d∈p1.map (·.1),nX j d)\/∃d∈p2.map (·.1),nX j d
 eq:∀(p1 p2:List (Pc×AE)),(∀p∈p1,Pl n p)->(∀p∈p2,Pl n p)->p1.map (·.2)=h1->p2.map (·.2)=h2->∀(xs:AB)(w:Int),Ov n xs w->(∀p∈p1,lU n xs w p.1)->(∀p∈p2,lU n xs w p.1)->(p1.map λp=>gR n xs w p.1).sum=(p2.map λp=>gR n xs w p.1).sum
 flat:n=2->∀R∈h1,jC R
theorem Zb{ps:List (Pc×AE)}{hs:AF}(e:ps.map (·.2)=hs){R:AE}(h:R∈hs):∃p∈ps,p.2=R:=by
 rw[<-e]at h;exact bj.mp h
theorem acg{gs:List (AF×AF)}(hg:∀g∈gs,kK g)(g1:1<=gs.length)(g2:gs.length<=2):Pk 2 (gs.flatMap (·.1)) ((gs.flatMap (·.2)).reverse):=by
 have r1:∀R∈gs.flatMap (·.1),jC R:=λR hR=>by
  obtain⟨g,hgg,h⟩:=oz.mp hR;exact(rF (hg g hgg)).2.2 R (.inl h)
 have r2:∀R∈(gs.flatMap (·.2)).reverse,jC R:=λR hR=>by
  obtain⟨g,hgg,h⟩:=oz.mp (qw.mp hR);exact(rF (hg g hgg)).2.2 R (.inr h)
 have k1:=Md (f:=(·.1)) λg hgg=>(rF (hg g hgg)).1;have k2:=Md (f:=(·.2)) λg hgg=>(rF (hg g hgg)).2.1;refine⟨λR hR=>xC (uH (r1 R hR)).1,λR hR=>xC (uH (r2 R hR)).1,by omega,by rw[u6];omega,λp1 p2 h1 h2 e1 e2 j hj=>?_,λp1 p2 h1 h2 e1 e2 xs w o n1 n2=>?_,λ_=>r1⟩
 .obtain⟨g,gs',rfl⟩:∃g gs',gs=g::gs':=by
   match gs,g1 with
   |g::gs',_=>exact⟨_,_,rfl⟩
  obtain⟨R,hR,ht⟩:=W5 (hg g (by simp));obtain⟨t,ht⟩:=ht j hj;rcases hR with hR |hR
  .obtain⟨p,hp,rfl⟩:=Zb e1 (R:=R) (oz.mpr ⟨g,by simp,hR⟩)
   exact .inl ⟨p.1,bj.mpr ⟨p,hp,rfl⟩,Ta (.inl rfl) (h1 p hp) hj ht⟩
  .obtain⟨p,hp,rfl⟩:=Zb e2 (R:=R) (qw.mpr (oz.mpr ⟨g,by simp,hR⟩))
   exact .inr ⟨p.1,bj.mpr ⟨p,hp,rfl⟩,Ta (.inl rfl) (h2 p hp) hj ht⟩
 .obtain⟨x,y,rfl⟩:∃x y,xs=[x,y]:=by
   match xs,o.P.len with
   |[a,b],_=>exact⟨_,_,rfl⟩
  refine Q6 o hg (λp hp=>⟨h1 p hp,r1 p.2 ?_⟩) (λp hp=>⟨h2 p hp,r2 p.2 ?_⟩) e1 e2 n1 n2
  .rw[<-e1]
   exact bj.mpr ⟨p,hp,rfl⟩
  .rw[<-e2]
   exact bj.mpr ⟨p,hp,rfl⟩
theorem acQ{hs:AF}(hk:∀R∈hs,R∈k6)(g1:1<=hs.length)(g2:hs.length<=8):Pk 3 hs hs.reverse:=by
 have rw3:∀R∈k6,Rw 3 R:=λR hR=>by
  obtain⟨⟨a,b⟩,c⟩:=Rs R hR;exact⟨a,λy hy=>(b y hy).1,λy hy x hx=>by have:=(b y hy).2 x hx;omega,c⟩
 refine⟨λR hR=>rw3 R (hk R hR),λR hR=>rw3 R (hk R (qw.mp hR)),g2,by rw[u6];exact g2,λp1 p2 h1 h2 e1 e2 j hj=>?_,λp1 p2 h1 h2 e1 e2 xs w o n1 n2=>?_,λz=>nomatch z⟩
 .obtain⟨R,hs',rfl⟩:∃R hs',hs=R::hs':=by
   match hs,g1 with
   |R::hs',_=>exact⟨_,_,rfl⟩
  obtain⟨p,hp,e⟩:=Zb e1 (R:=R) (by simp);exact .inl ⟨p.1,bj.mpr ⟨p,hp,rfl⟩,aaR (h1 p hp) (by rw[e];exact hk R (by simp)) hj⟩
 .have k:=Sj (.inr rfl) o p1.reverse p2 (λp hp=>h1 p (qw.mp hp)) h2 (by rw[e2,qv,e1])
  rw[k,qv,Nm]
abbrev zB:MS:=(cZ (gZ (bT (bG iF (aA 11))) (oQ (lR (bT (aO pH [] (aB (aA 11) aD)))) (bT (aC jS (aA 11) (mC (.int 0)))))) (bC (mC (.bl false))) dZ)
abbrev qG:MS:=(aI (aQ 9 (aO nQ [] (aB (aA 1) (aB (aA 7) aD)))) (aI (aQ 10 (aT ["_law_heap"] [(7,"_law_grid"),(9,"_law_p")] (aY (aA 6)) (gN 0) (aO jH [] (aB (aA 0) (aB (aA 1) (aB (aA 2) aD)))))) (aI (bR (aY (aA 10)) (gN 11) zB) (aI (cZ (gZ (bT (bG iF (aC aE (aA 10) (mC (.int 0))))) (gZ (bT (bG iF (aC aE (aA 10) (mC (.int 1))))) (bT (aC kG (aC aE (aA 10) (mC (.int 0))) (aC aE (aA 10) (mC (.int 1))))))) (bC (mC (.bl false))) dZ) (cZ (gZ (bT (aC eB (aA 2) (mC (.int 2)))) (lR (bT (aO oS [] (aB (aA 1) (aB (aC aE (aA 6) (mC (.int 0))) (aB (aA 7) (aB (aA 9) (aB (aC aE (aA 10) (mC (.int 0))) aD))))))))) (bC (mC (.bl false))) dZ)))))
abbrev yR:MS:=(cZ (bT (aC eB (aA 2) (mC (.int 2)))) (aQ 3 (aO sN [] (aB (aA 1) aD))) (aI (aQ 4 (aT ["_law_k"] [(1,"_law_row_here")] (dC (aB (aC aF (mC (.int 1)) (aO dN [] (aB (aA 1) (aB (mC (.int 3)) aD)))) aD)) (gN 0) (aO nH [] (aB (aA 1) aD)))) (aQ 3 (mN dP (aB (aA 4) (aB (oH (aA 4) cO cO (-1)) aD))))))
abbrev rq(x0:AM)(N:Int)(x3 x4 x5:AM)(H1 H2:PV)(FL:AK)(x8 x9 x10 x11:AM):bY:=[x0,some (.ref 0),some (.pv (.int N)),x3,x4,x5,some (.pv (.lst [H1,H2])),some (.pv (.tup FL)),x8,x9,x10,x11]
theorem Tm{m:PV}(hm:m=.non\/∃c:Nat,m=.int c)(S:aG)(x0 x1 x2 x3 x4 x5 x6 x7 x8 x9 x10:AM):zB [x0,x1,x2,x3,x4,x5,x6,x7,x8,x9,x10,some (.pv m)] S=.nx [x0,x1,x2,x3,x4,x5,x6,x7,x8,x9,x10,some (.pv m)] S:=by
 unfold zB;rcases hm with rfl |⟨c,rfl⟩
 .simp! [bB,aM,aN,aK,aL,aF,aJ,iF]
 .have w:=Pb (c:Int) S
  have h:¬(c:Int)<0:=by omega
  generalize (c:Int)=C at *;simp! [bB,aM,aN,aK,aL,aF,aJ,iF,w,h]
theorem abE{FL:AK}{H1 H2 TP m1 m2:PV}{N:Int}{x0 x3 x4 x5 x8 x9 x10 x11:AM}{ns n1:AB}(e1:nQ [.ref 0,.pv (.tup FL)] [.lst (li ns)]=.ok (.pv TP) [.lst (li n1)])(o1:jH [.pv H1,.pv (.tup FL),.pv TP] [.lst (li n1)]=.ok (.pv m1) [.lst (li n1)])(o2:jH [.pv H2,.pv (.tup FL),.pv TP] [.lst (li n1)]=.ok (.pv m2) [.lst (li n1)])(h1:m1=.non\/∃c:Nat,m1=.int c)(h2:m2=.non\/∃c:Nat,m2=.int c)(he:m1=.non\/m2=.non\/m1=m2)(hN:N=2\/N=3)(hf:N=2->oS [.ref 0,.pv H1,.pv (.tup FL),.pv TP,.pv m1] [.lst (li n1)]=.ok (.pv (.bl true)) [.lst (li n1)]):∃y9 y10 y11,qG (rq x0 N x3 x4 x5 H1 H2 FL x8 x9 x10 x11) [.lst (li ns)]=.nx (rq x0 N x3 x4 x5 H1 H2 FL x8 y9 y10 y11) [.lst (li n1)]:=by
 refine⟨some (.pv TP),some (.pv (.lst [m1,m2])),some (.pv m2),?_⟩;have s1:=λx0 x1 x2 x3 x4 x5 x6 x7 x8 x9 x10=>Tm h1 [.lst (li n1)] x0 x1 x2 x3 x4 x5 x6 x7 x8 x9 x10;have s2:=λx0 x1 x2 x3 x4 x5 x6 x7 x8 x9 x10=>Tm h2 [.lst (li n1)] x0 x1 x2 x3 x4 x5 x6 x7 x8 x9 x10;have i0:aE (.lst [m1,m2]) (.int 0)=some m1:=jX (j:=0) rfl;have i1:aE (.lst [m1,m2]) (.int 1)=some m2:=jX (j:=1) rfl;have k0:aE (.lst [H1,H2]) (.int 0)=some H1:=jX (j:=0) rfl;unfold qG rq;generalize zB=MB at *;apply sq;simp! [bB,aM,aN,aK,aL,aF,aJ,e1];exact⟨rfl,rfl⟩;apply sq;simp! [bB,aM,aN,aK,aL,aF,aJ,aT,bZ,aY,bS,dE,dB,gN,o1,o2];exact⟨rfl,rfl⟩;refine sq (ρ':=[x0,some (.ref 0),some (.pv (.int N)),x3,x4,x5,some (.pv (.lst [H1,H2])),some (.pv (.tup FL)),x8,some (.pv TP),some (.pv (.lst [m1,m2])),some (.pv m2)]) (S':=[.lst (li n1)]) ?_ ?_
 .simp! [bB,aM,aN,aK,aL,aF,aJ,bR,aY,bS,dM,eQ,gN,s1,s2]
 clear s1 s2 e1 o1 o2;refine sq (ρ':=[x0,some (.ref 0),some (.pv (.int N)),x3,x4,x5,some (.pv (.lst [H1,H2])),some (.pv (.tup FL)),x8,some (.pv TP),some (.pv (.lst [m1,m2])),some (.pv m2)]) (S':=[.lst (li n1)]) ?_ ?_
 .rcases h1 with rfl |⟨c,rfl⟩
  .simp! [bB,aM,aN,aK,aL,aF,aJ,i0,iF]
  .rcases h2 with rfl |⟨d,rfl⟩
   .simp! [bB,aM,aN,aK,aL,aF,aJ,i0,i1,iF]
   .have e:c=d:=by
     rcases he with h |h |h
     .cases h
     .cases h
     .injection h with h
      omega
    subst e;generalize (c:Int)=C at *;simp! [bB,aM,aN,aK,aL,aF,aJ,i0,i1,iF,aP]
 .rcases hN with rfl |rfl
  .have hf:=hf rfl
   simp! [bB,aM,aN,aK,aL,aF,aJ,i0,k0,hf]
  .simp! [bB,aM,aN,aK,aL,aF,aJ]
theorem aa9{n:Nat}(hn:n=2\/n=3){fs:List (Int×Int)}(hf:fs.length=n)(h:∀u∈fs,Sp u){g1 g2:AF}(pk:Pk n g1 g2){p1 p2:List (Pc×AE)}(h1:∀p∈p1,Pl n p)(h2:∀p∈p2,Pl n p)(q1:p1.map (·.2)=g1)(q2:p2.map (·.2)=g2)(x0 x3 x4 x5 x8 x9 x10 x11:AM)(ns:AB):∃(ns':AB)(y9 y10 y11:AM),qG (rq x0 n x3 x4 x5 (.tup (p1.map λp=>p.1.pv fs)) (.tup (p2.map λp=>p.1.pv fs)) (fs.map fv) x8 x9 x10 x11) [.lst (li ns)]=.nx (rq x0 n x3 x4 x5 (.tup (p1.map λp=>p.1.pv fs)) (.tup (p2.map λp=>p.1.pv fs)) (fs.map fv) x8 y9 y10 y11) [.lst (li ns')]:=by
 obtain⟨th,v,xs,w,n1,e1,R,P,rel⟩:=Lm hn hf h ns;have o:Ov n xs w:=⟨P⟩;have sb:=zY hn hf h R (by decide) P rel [.lst (li n1)];have ed:∀l:List (Pc×AE),(l.map λp=>p.1.pv fs)=(l.map (·.1)).map (Pc.pv fs):=λl=>by rw[cg];rfl
 have val:∀l:List (Pc×AE),(∀p∈l,Pl n p)->∃m,jH [.pv (.tup (l.map λp=>p.1.pv fs)),.pv (.tup (fs.map fv)),.pv (tv (th++[v]))] [.lst (li n1)]=.ok (.pv m) [.lst (li n1)]/\(m=.non\/((∀p∈l,lU n xs w p.1)/\m=.int ((l.map λp=>gR n xs w p.1).sum:Nat))):=λl hl=>by
  rcases Wj hn hf h P (by decide) [.lst (li n1)] sb (ds:=l.map (·.1)) (λd hd=>by
   obtain⟨p,hpp,rfl⟩:=bj.mp hd;exact(hl p hpp).g)with⟨_,e⟩|⟨nz,e⟩
  .rw[<-ed]at e
   exact⟨_,e,.inl rfl⟩
  .rw[<-ed]at e
   refine⟨_,e,.inr ⟨λp hpp=>nz p.1 (bj.mpr ⟨p,hpp,rfl⟩),?_⟩⟩;rw[cg];rfl
 obtain⟨m1,a1,b1⟩:=val p1 h1;obtain⟨m2,a2,b2⟩:=val p2 h2;have l1:p1.length<=8:=by
  have:=congrArg kb q1;rw[ak]at this;have:=pk.l1;omega
 have fo':(n:Int)=2->oS [.ref 0,.pv (.tup (p1.map λp=>p.1.pv fs)),.pv (.tup (fs.map fv)),.pv (tv (th++[v])),.pv m1] [.lst (li n1)]=.ok (.pv (.bl true)) [.lst (li n1)]:=λz=>by
  have z:n=2:=by omega
  subst z;obtain⟨x,y,rfl⟩:∃x y,xs=[x,y]:=by
   match xs,P.len with
   |[a,b],_=>exact⟨_,_,rfl⟩
  exact aaj hf h (λp hpp=>⟨h1 p hpp,pk.flat rfl p.2 (by rw[<-q1];exact bj.mpr ⟨p,hpp,rfl⟩)⟩) (by omega) R P rel b1 [.lst (li n1)] (.ref 0)
 have he:m1=.non\/m2=.non\/m1=m2:=by
  rcases b1 with b1 |⟨z1,b1⟩
  .exact .inl b1
  .rcases b2 with b2 |⟨z2,b2⟩
   .exact .inr (.inl b2)
   .exact .inr (.inr (by rw[b1,b2,pk.eq p1 p2 h1 h2 q1 q2 xs w o z1 z2]))
 obtain⟨y9,y10,y11,e⟩:=abE (x0:=x0) (x3:=x3) (x4:=x4) (x5:=x5) (x8:=x8) (x9:=x9) (x10:=x10) (x11:=x11) (N:=(n:Int)) e1 a1 a2 (b1.imp id λz=>⟨_,z.2⟩) (b2.imp id λz=>⟨_,z.2⟩) he (by omega) fo';exact⟨n1,y9,y10,y11,e⟩
theorem Vo{n:Nat}(hn:n=2\/n=3){fs:List (Int×Int)}(hf:fs.length=n)(h:∀u∈fs,Sp u){g1 g2:AF}(pk:Pk n g1 g2){p1 p2:List (Pc×AE)}(h1:∀p∈p1,Pl n p)(h2:∀p∈p2,Pl n p)(q1:p1.map (·.2)=g1)(q2:p2.map (·.2)=g2)(x0 x3 x4 x5:AM):∀(is:AK)(x8 x9 x10 x11:AM)(ns:AB),∃(ns':AB)(y8 y9 y10 y11:AM),cM [] (gN 8) qG is (rq x0 n x3 x4 x5 (.tup (p1.map λp=>p.1.pv fs)) (.tup (p2.map λp=>p.1.pv fs)) (fs.map fv) x8 x9 x10 x11) [.lst (li ns)]=.nx (rq x0 n x3 x4 x5 (.tup (p1.map λp=>p.1.pv fs)) (.tup (p2.map λp=>p.1.pv fs)) (fs.map fv) y8 y9 y10 y11) [.lst (li ns')]
 |[],x8,x9,x10,x11,ns=>⟨ns,x8,x9,x10,x11,eQ⟩
 |i::is,x8,x9,x10,x11,ns=>by
  obtain⟨n1,y9,y10,y11,e1⟩:=aa9 hn hf h pk h1 h2 q1 q2 x0 x3 x4 x5 (some (.pv i)) x9 x10 x11 ns;obtain⟨n2,z8,z9,z10,z11,e2⟩:=Vo hn hf h pk h1 h2 q1 q2 x0 x3 x4 x5 is (some (.pv i)) y9 y10 y11 n1;refine⟨n2,z8,z9,z10,z11,?_⟩;rw[dM];simp only[gN,rq,cw,cj];unfold rq at e1 e2;rw[e1];exact e2
theorem abZ{n:Nat}(hn:n=2\/n=3)(ns:AB)(x0:AM):∃(g1 g2:AF)(ns':AB)(y4:AM),Pk n g1 g2/\yR [x0,some (.ref 0),some (.pv (.int (n:Int))),none,none,none,none,none,none,none,none,none] [.lst (li ns)]=.nx [x0,some (.ref 0),some (.pv (.int (n:Int))),some (.pv (.tup [.lst (g1.map bH),.lst (g2.map bH)])),y4,none,none,none,none,none,none,none] [.lst (li ns')]:=by
 rcases hn with rfl |rfl
 .obtain⟨gs,n1,e1,a,b,hg⟩:=F8 ns
  refine⟨_,_,n1,none,acg hg a b,?_⟩;generalize (gs.flatMap (·.2)).reverse.map bH=G2,(gs.flatMap (·.1)).map bH=G1 at *;unfold yR;show(cZ _ _ _) [x0,some (.ref 0),some (.pv (.int 2)),none,none,none,none,none,none,none,none,none] _=.nx [x0,some (.ref 0),some (.pv (.int 2)),_,none,none,none,none,none,none,none,none] _;simp! [bB,aM,aN,aK,aL,aF,aJ,e1]
 .obtain⟨t,n1,e1,t0,t1⟩:=mX (m:=3) (by decide) (by decide) ns []
  obtain⟨is,rg,l1,l2⟩:∃is:AK,iE [.pv (.int (1+t))] [.lst (li n1)]=.ok (is,[]) [.lst (li n1)]/\1<=is.length/\is.length<=3:=by
   obtain⟨k,ek,k1,k2⟩:∃k:Nat,1+t=(k:Int)/\1<=k/\k<=3:=⟨(1+t).toNat,by omega,by omega,by omega⟩;refine⟨eG 0 k,by rw[ek];exact lZ _ (by omega),?_,?_⟩<;>(unfold eG;simp;omega)
  obtain⟨hs,n2,e2,l3,hk⟩:=Yl is n1 none;have pk:iJ (hs.map bH) none none (-1)=hs.reverse.map bH:=by rw[Sl (by rw[ak];omega),qv]
  refine⟨_,_,n2,some (.pv (.lst (hs.map bH))),acQ hk (by omega) (by omega),?_⟩;generalize hs.map bH=G1,hs.reverse.map bH=G2 at *;unfold yR;show(cZ _ _ _) [x0,some (.ref 0),some (.pv (.int 3)),none,none,none,none,none,none,none,none,none] _=.nx [x0,some (.ref 0),some (.pv (.int 3)),_,_,none,none,none,none,none,none,none] _;simp! [bB,aM,aN,aK,aL,aF,aJ,aT,bZ,dC,e1,rg,e2,oH,Oe,cO,pk,dP]
theorem Vx(S:aG):mJ [.pv (.lst [])] S=.ok (.pv (.tup [])) S:=by
 unfold mJ wQ;refine xV rfl ?_;apply sq;simp! [bB,aM,aN,aK,aL,aF,aJ,fO,cN];exact⟨rfl,rfl⟩;apply sq;simp! [bB,aM,aN,aK,aL,aF,aJ,bR,aY,bS,eQ];exact⟨rfl,rfl⟩;simp! [bB,aM,aN,aK,aL,aF,aJ]
theorem B2(ns:AB)(h:ns.length<=63):∃S,Vd [.pv (.lst (ns.map .int))] []=.ok (.pv (.bl true)) S:=by
 obtain⟨ms,e0,_⟩:=abI ns [] h;have e0:rJ [.pv (.lst (ns.map .int))] []=.ok (.ref 0) [.lst (li ms)]:=e0;obtain⟨d,n1,e1,d0,d1⟩:=mX (m:=2) (by decide) (by decide) ms [];obtain⟨n,en,hn⟩:∃n:Nat,2+d=(n:Int)/\(n=2\/n=3):=⟨(2+d).toNat,by omega,by omega⟩;have a2:aF (.int 2) (.int d)=some (.int n):=by rw[aF,en]
 obtain⟨g1,g2,n2,y4,pk,e2⟩:=abZ hn n1 (some (.pv (.lst (ns.map .int))));obtain⟨fs,n3,e3,l3,r3⟩:=Hx hn n2;obtain⟨p1,n4,e4,q4,r4⟩:=Go hn n3 l3 r3 pk.w1 (by have:=pk.l1;omega);obtain⟨p2,n5,e5,q5,r5⟩:=Go hn n4 l3 r3 pk.w2 (by have:=pk.l2;omega);obtain⟨A,n6,e6,hA⟩:=D8 (L:=[.tup (p1.map λp=>p.1.pv fs),.tup (p2.map λp=>p.1.pv fs)]) (show fZ [.lst (li n5)] 0 n5 from rfl);have e6:oY [.ref 0,.pv (.lst [.tup (p1.map λp=>p.1.pv fs),.tup (p2.map λp=>p.1.pv fs)])] [.lst (li n5)]=.ok (.pv A) [.lst (li n6)]:=e6;have ed:∀l:List (Pc×AE),(l.map λp=>p.1.pv fs)=(l.map (·.1)).map (Pc.pv fs):=λl=>by rw[cg];rfl
 have good:∀{l:List (Pc×AE)},(∀p∈l,Pl n p)->∀d∈l.map (·.1),Pg n d:=λ{l} hl d hd=>by
  obtain⟨p,hpp,rfl⟩:=bj.mp hd;exact(hl p hpp).g
 have e7:=D9 hn l3 r3 (λu hu=>(r3 u hu).lo) (good r4) (good r5) (pk.one p1 p2 r4 r5 q4 q5) (A:=A) (by rw[<-ed,<-ed];exact hA) [.lst (li n6)];have e8:=Ax [.lst (li n6)] fs;have ec:cF [] (gN 0) (aO gA [] (aB (aA 0) aD)) (fs.map fv) [none] [.lst (li n6)]=.ok (fs.map fv) [.lst (li n6)]:=by
  refine kZ (iU _) fv fv fs none λu hu=>?_;have s:=r3 u hu;have k:=Yw [u.1,u.2] [.lst (li n6)] (λx hx=>by
   simp only[bo,cf,or_false]at hx;rcases hx with rfl |rfl
   .exact s.bp.mono (by decide)
   .exact s.bq.mono (by decide))
  have lw:low [u.1,u.2]=[u.1,u.2]:=by
   have k2:=s.lo;unfold fr at k2;rw[if_neg (by have:=s.q;omega)]at k2;exact k2
  rw[lw]at k;have k:gA [.pv (fv u)] [.lst (li n6)]=.ok (.pv (fv u)) [.lst (li n6)]:=k;generalize fv u=FU at *;simp! [bB,aM,aN,aK,aL,aF,aJ,k]
 obtain⟨n7,y8,y9,y10,y11,e9⟩:=Vo hn l3 r3 pk r4 r5 q4 q5 (some (.pv (.lst (ns.map .int)))) (some (.pv (.tup [.lst (g1.map bH),.lst (g2.map bH)]))) y4 (some (.pv (.lst (fs.map fv)))) [.int 0,.int 1,.int 2] none none none none n6;obtain⟨th,v,xs,w,n8,f1,R,P,rel⟩:=Lm hn l3 r3 n7;have sb:=zY hn l3 r3 R (by decide) P rel [.lst (li n8)];have f2:nM [.pv (.tup []),.pv (.tup (fs.map fv)),.pv (tv (th++[v]))] [.lst (li n8)]=.ok (.pv (.int 0)) [.lst (li n8)]:=by
  rcases Yi hn l3 r3 P (by decide) [.lst (li n8)] sb (A:=.tup []) (ds:=[]) (.inr rfl) (λ_ h=>absurd h cf)with⟨⟨_,h,_⟩,_⟩|⟨_,e⟩
  .exact absurd h cf
  .exact e
 have f3:=Vx [.lst (li n7)];have f4:nN [.pv (.tup []),.pv (.tup [])] [.lst (li n7)]=.ok (.pv (.bl true)) [.lst (li n7)]:=Fa _ [] λ_ h=>absurd h cf;have r0:iE [.pv (.int 3)] [.lst (li n6)]=.ok ([.int 0,.int 1,.int 2],[]) [.lst (li n6)]:=lZ [.lst (li n6)] (n:=3) (by decide);refine⟨[],?_⟩;clear pk r3 r4 r5 q4 q5 hA sb rel R P l3;have i0:aE (.tup [.lst (g1.map bH),.lst (g2.map bH)]) (.int 0)=some (.lst (g1.map bH)):=jX (j:=0) rfl;have i1:aE (.tup [.lst (g1.map bH),.lst (g2.map bH)]) (.int 1)=some (.lst (g2.map bH)):=jX (j:=1) rfl;generalize (p2.map λp=>p.1.pv fs)=L2,(p1.map λp=>p.1.pv fs)=L1,tv (th++[v])=TP at *;generalize hTT:PV.tup [.lst (g1.map bH),.lst (g2.map bH)]=TT at *;generalize (n:Int)=N,ns.map PV.int=NL,fs.map fv=FL,g2.map bH=G2,g1.map bH=G1 at *;unfold rq at e9;have tF:(bR (dC (aB (mC (.int 3)) aD)) (gN 8) qG) [some (.pv (.lst NL)),some (.ref 0),some (.pv (.int N)),some (.pv TT),y4,some (.pv (.lst FL)),some (.pv (.lst [.tup L1,.tup L2])),some (.pv (.tup FL)),none,none,none,none] [.lst (li n6)]=.nx [some (.pv (.lst NL)),some (.ref 0),some (.pv (.int N)),some (.pv TT),y4,some (.pv (.lst FL)),some (.pv (.lst [.tup L1,.tup L2])),some (.pv (.tup FL)),y8,y9,y10,y11] [.lst (li n7)]:=by
  generalize qG=LB at *;simp! [bB,aM,aN,aK,aL,aF,aJ,bR,dC,r0,e9]
 have hb:Wd=(aI (aQ 1 (rM rJ [] (aB (aA 0) aD))) (aI (aQ 2 (aC aF (mC (.int 2)) (aO dN [] (aB (aA 1) (aB (mC (.int 2)) aD))))) (aI yR (aI (aQ 5 (aO sR [] (aB (aA 1) (aB (aA 2) aD)))) (aI (aQ 6 (mN cN (aB (mR fL (aB (aO pL [] (aB (aA 1) (aB (aC aE (aA 3) (mC (.int 0))) (aB (aA 5) aD)))) aD)) (aB (mR fL (aB (aO pL [] (aB (aA 1) (aB (aC aE (aA 3) (mC (.int 1))) (aB (aA 5) aD)))) aD)) aD)))) (aI (aQ 7 (aO mJ [] (aB (aO oY [] (aB (aA 1) (aB (aA 6) aD))) aD))) (aI (cZ (lR (bT (aO nN [] (aB (aA 7) (aB (mR fL (aB (aT ["_law_part"] [] (aY (aA 5)) (gN 0) (aO gA [] (aB (aA 0) aD))) aD)) aD))))) (bC (mC (.bl false))) dZ) (aI (bR (dC (aB (mC (.int 3)) aD)) (gN 8) qG) (bC (oA (aO nN [] (aB (aO mJ [] (aB (mN cN aD) aD)) (aB (mN dP aD) aD))) (aC eB (gM nM [] (aB (mN dP aD) (aB (aA 7) (aB (aO nQ [] (aB (aA 1) (aB (aA 7) aD))) aD)))) (mC (.int 0))))))))))))):=rfl;unfold Vd;rw[hb];apply rN rfl;apply sq;simp! [bB,aM,aN,aK,aL,aF,aJ,fO,e0];exact⟨rfl,rfl⟩;apply sq;simp! [bB,aM,aN,aK,aL,aJ,e1,a2];exact⟨rfl,rfl⟩;refine sq e2 ?_;apply sq;simp! [bB,aM,aN,aK,aL,aF,aJ,e3];exact⟨rfl,rfl⟩;apply sq;simp! [bB,aM,aN,aK,aL,aF,aJ,i0,i1,e4,e5,cN];exact⟨rfl,rfl⟩;apply sq;simp! [bB,aM,aN,aK,aL,aF,aJ,e6,e7];exact⟨rfl,rfl⟩;apply sq;simp! [bB,aM,aN,aK,aL,aF,aJ,aT,bZ,aY,bS,ec,e8];exact⟨rfl,rfl⟩;refine sq tF ?_;simp! [bB,aM,aN,aK,aL,aF,aJ,cN,dP,f1,f2,f3,f4];exact⟨rfl,rfl⟩;simp[iD]
theorem hF_k{K:ae}{x:Str}{st:Stmt}{f:Addr}{oc:Value}{od an:AI}{osl:Array AH}{kV doc pm cdv ct:Value}(a:dh K mainGlobals x=some (some (.ref f)):=by k_is)(l:K.lookup f=some ⟨oc,od,.func (dy x x (gJ st) (fB st) (cV st) .none kV doc pm an cdv ct),osl⟩:=by k_is)(c:jo K cdv x=true:=by k_is)(k:dq K (.ref f)=true:=by k_is):HF K x st:=ach a l c k
theorem all_mk{l:oi}{w:am}{K:ae}{h:Heap}{mg:Str->AH}{fa:Addr}(X:K.In h)(G:h.Ns mainGlobals mg)(hfa:mg "law"=some (.ref fa))
  (h37:HF K "_law_row" Wp)
  (h38:HF K "_law_take" Kn)
  (h48:HF K "_law_dot" Oo)
  (h47:HF K "_law_cross" Dl)
  (h49:HF K "_law_turn" Om)
  (h55:HF K "_law_raw_turn" Wg)
  (h54:HF K "_law_raw" To)
  (h62:HF K "_law_parted" Ni)
  (h63:HF K "_law_two_alike" Kg)
  (h64:HF K "_law_plain_kuhn" Hg)
  (h39:HF K "_law_gcd" Mq)
  (h40:HF K "_law_lowest" Mi)
  (h42:HF K "_law_frac" Vm)
  (h57:HF K "_law_stretch" Mh)
  (h56:HF K "_law_far" Qp)
  (h46:HF K "_law_gap" Dq)
  (h50:HF K "_law_det" Ro)
  (h51:HF K "_law_simplex" Zh)
  (h45:HF K "_law_joined" Dj)
  (h58:HF K "_law_spot" Bo)
  (h59:HF K "_law_laid" Qn)
  (h6:HF K "sign" Ep)
  (h7:HF K "divisor" Li)
  (h14:HF K "measures" Uh)
  (h8:HF K "reduced" Kj)
  (h16:HF K "added" Fo)
  (h18:HF K "turned" Xk)
  (h17:HF K "lessened" Sh)
  (h11:HF K "shared" El)
  (h30:HF K "steps" Rn)
  (h60:HF K "_law_handed" Hi)
  (h41:HF K "_law_whole" Cm)
  (h61:HF K "_law_alike" sZ)
  (h44:HF K "_law_times" Kl)
  (h66:HF K "_law_near" Io)
  (h33:HF K "in_first_cell" Tf)
  (h15:HF K "point_at" Ih)
  (h10:HF K "divided" Bj)
  (h31:HF K "in_steps" Oh)
  (h32:HF K "folded" Xl)
  (h34:HF K "spots_over" Qg)
  (h19:HF K "whole_arrow" Fg)
  (h20:HF K "dot" Qs)
  (h21:HF K "normal" Vj)
  (h22:HF K "determinant" Ig)
  (h23:HF K "side" Po)
  (h25:HF K "replaced" Ci)
  (h26:HF K "standing" Vh)
  (h28:HF K "count_at" Kh)
  (h35:HF K "layers" Ql)
  (h65:HF K "_law_over" Km)
  (h43:HF K "_law_sum" Aq)
  (h52:HF K "_law_bulk" Co)
  (h53:HF K "_law_heap_bulk" Jg)
  (h67:HF K "_law_cell_bulk" Ng)
  (h68:HF K "_law_flat_right" Eg)
  {f9:Addr}{od9 an9:AI}{sl9:Array AH}{oc9 kV9 dc9 pm9 cd9 ct9:Value}
  {T9:Addr}{tc9:Value}{td9:AI}{tl9:Array AH}{tn9:Nat}{tt9:Tok}
  (a9:dh K mainGlobals "fraction"=some (some (.ref f9)))(l9:K.lookup f9=some ⟨oc9,od9,.func (dy "fraction" "fraction" (gJ sT) (fB sT) (cV sT) (.ref T9) kV9 dc9 pm9 an9 cd9 ct9),sl9⟩)(c9:jo K cd9 "fraction"=true)(k9:dq K (.ref f9)=true)
  (t9:K.lookup T9=some ⟨tc9,td9,.seq #[.int 1 tt9] tn9,tl9⟩)
  {f13:Addr}{od13 an13:AI}{sl13:Array AH}{oc13 kV13 dc13 pm13 cd13 ct13:Value}
  {T13:Addr}{tc13:Value}{td13:AI}{tl13:Array AH}{tn13:Nat}{tt13:Tok}
  (a13:dh K mainGlobals "point"=some (some (.ref f13)))(l13:K.lookup f13=some ⟨oc13,od13,.func (dy "point" "point" (gJ tL) (fB tL) (cV tL) (.ref T13) kV13 dc13 pm13 an13 cd13 ct13),sl13⟩)(c13:jo K cd13 "point"=true)(k13:dq K (.ref f13)=true)
  (t13:K.lookup T13=some ⟨tc13,td13,.seq #[.int 1 tt13] tn13,tl13⟩)
  {f69:Addr}{od69 an69:AI}{sl69:Array AH}{oc69 kV69 dc69 pm69 cd69 ct69:Value}
  (a69:dh K mainGlobals "law"=some (some (.ref f69)))(l69:K.lookup f69=some ⟨oc69,od69,.func (dy "law" "law" (gJ nZ) (fB nZ) (cV nZ) .none kV69 dc69 pm69 an69 cd69 ct69),sl69⟩)(c69:jo K cd69 "law"=true)(k69:dq K (.ref f69)=true)
  (z1:dh K mainGlobals "abs"=some none)
  (z2:dh K mainGlobals "all"=some none)
  (z3:dh K mainGlobals "bool"=some none)
  (z4:dh K mainGlobals "enumerate"=some none)
  (z5:dh K mainGlobals "int"=some none)
  (z6:dh K mainGlobals "isinstance"=some none)
  (z7:dh K mainGlobals "len"=some none)
  (z8:dh K mainGlobals "list"=some none)
  (z9:dh K mainGlobals "max"=some none)
  (z10:dh K mainGlobals "min"=some none)
  (z11:dh K mainGlobals "range"=some none)
  (z12:dh K mainGlobals "sorted"=some none)
  (z13:dh K mainGlobals "sum"=some none)
  (z14:dh K mainGlobals "tuple"=some none)
  (z15:dh K mainGlobals "zip"=some none)
  {C1 C2 C3:Addr}
  (y1:dh K mainGlobals "NoNumber"=some (some (.ref C1)))(x1:gg K C1 iV "ValueError.__new__"=true)
  (y2:dh K mainGlobals "NoPoint"=some (some (.ref C2)))(x2:gg K C2 iV "ValueError.__new__"=true)
  (y3:dh K mainGlobals "OnSide"=some (some (.ref C3)))(x3:gg K C3 iV "ValueError.__new__"=true)
  :∃fd:br,(∀(s:aa)(v:Value),ny s fd ⟨[v],[]⟩ [("_law_script",v)])/\∀base:Heap,K.In base->base.Ns mainGlobals mg->eD l.prog w K mg base fV 10 fa fd ["_law_script"] (xT K):=by
 let cl:Str->Addr:=λn=>if n="NoNumber" then C1 else if n="NoPoint" then C2 else if n="OnSide" then C3 else 0
 have e:=hfa.symm.trans (mf X G a69);cases e;have F9:=Gm (st:=sT) l9 c9 k9 t9 rfl;have b9:=F9.binds (ps:=["top","bottom"]) (dd:=[]) λ_ _ _ _ _ _ _ us hl=>match us,hl with |[_,_],_=>⟨_,rfl,rfl⟩
 have n9:=mf X G a9;have F13:=Gm (st:=tL) l13 c13 k13 t13 rfl;have b13:=F13.binds (ps:=["numbers","bottom"]) (dd:=[]) λ_ _ _ _ _ _ _ us hl=>match us,hl with |[_,_],_=>⟨_,rfl,rfl⟩
 have n13:=mf X G a13;have F69:=Wo (st:=nZ) l69 c69 k69;have m:Mg mg:=⟨gv X G z1,gv X G z2,gv X G z3,gv X G z4,gv X G z5,gv X G z6,gv X G z7,gv X G z8,gv X G z9,gv X G z10,gv X G z11,gv X G z12,gv X G z13,gv X G z14,gv X G z15⟩;refine⟨dy "law" "law" (gJ nZ) (fB nZ) (cV nZ) .none kV69 dc69 pm69 an69 cd69 ct69,λs v=>.of_eq rfl,λbase _ _=>?_⟩
 let B:Bx:=⟨l.prog,w,K,mg,base,cl⟩
 have Xg:XG B.K B.mg:=⟨h,X,G⟩;have m:Mg B.mg:=m;have q_NoNumber:B.mg "NoNumber"=some (.ref (B.cl "NoNumber")):=mf X G y1;have x_NoNumber:gg B.K (B.cl "NoNumber") iV "ValueError.__new__"=true:=x1;have q_NoPoint:B.mg "NoPoint"=some (.ref (B.cl "NoPoint")):=mf X G y2;have x_NoPoint:gg B.K (B.cl "NoPoint") iV "ValueError.__new__"=true:=x2;have q_OnSide:B.mg "OnSide"=some (.ref (B.cl "OnSide")):=mf X G y3;have x_OnSide:gg B.K (B.cl "OnSide") iV "ValueError.__new__"=true:=x3;have C37:=T7 Xg m h37;have C38:=J9 Xg m h38;have C48:=Q9 Xg m h48;have C47:=Jy Xg m h47;have C49:=Zz Xg m h49 C48 C47;have C55:=Hv Xg m h55 C49;have C54:=X4 Xg m h54 C38 C55;have C62:=Qw Xg m h62;have C63:=Av Xg m h63 C38 C54 C62;have C64:=Vu Xg m h64 C38;have C39:=W7 Xg m h39;have C40:=Qx Xg m h40 C39;have C42:=A9 Xg m h42 C40;have C57:=Fw Xg m h57 C38 C42;have C56:=S8 Xg m h56 C38 C40;have C46:=Q3 Xg m h46;have C50:=aaf Xg m h50 C49 C46;have C51:=Nv Xg m h51 C50;have C45:=Sw Xg m h45 C40;have C58:=J5 Xg m h58 C40;have C59:=L0 Xg m h59 C56 C51 C45 C58;have C6:=S6 Xg m h6;have C7:=Ox Xg m h7;have G9:=Vv Xg m F9 C6 C7 q_NoNumber x_NoNumber;have H9:vH B:=Ye G9 b9 k9 n9;have C14:=Jw Xg m h14 H9;have C8:=Uw Xg m h8 C7;have G13:=B9 Xg m F13 C8 C6 q_NoPoint x_NoPoint;have H13:Ub B:=Ye G13 b13 k13 n13;have C16:=Yz Xg m h16 H13;have C18:=Sz Xg m h18;have C17:=Xv Xg m h17 C16 C18;have C11:=Iz Xg m h11 H9 C7;have C30:=I0 Xg m h30 C14 C17 C11;have C60:=Lw Xg m h60 C38;have C41:=Ey Xg m h41;have C61:=Dy Xg m h61 C41;have C44:=Vz Xg m h44 C42;have C66:=E5 Xg m h66 C38 C44 C42 C40;have C33:=Pu Xg m h33;have C15:=Iw Xg m h15 H13;have C10:=Tw Xg m h10 H9;have C31:=Zv Xg m h31 C15 C14 C10;have C32:=Ay Xg m h32 C31 C17;have C34:=Fv Xg m h34;have C19:=Uu Xg m h19;have C20:=aav Xg m h20;have C21:=Py Xg m h21;have C22:=Wu Xg m h22 C19 C20 C21;have C23:=U4 Xg m h23 C6 C22;have C25:=Tv Xg m h25;have C26:=Cw Xg m h26 C23 C25;have H28:=Uv Xg m h28 C26 q_OnSide x_OnSide;have H35:=Ry Xg m h35 C33 C31 C32 C34 H28;have C65:=E9 Xg m h65 H35 q_OnSide x_OnSide;have C43:=aac Xg m h43 C42;have C52:=K0 Xg m h52 C42 C50;have C53:=Cv Xg m h53 C43 C52;have C67:=Zu Xg m h67 C44;have C68:=Tu Xg m h68 C65 C44 C53 C41 C67;exact(abg Xg m F69 C37 C38 C63 C64 C57 C59 C30 C60 C61 C40 C66 C65 C41 C68 H35).imp λvs H Q E h=>Q7 B2 h
theorem walk{l:oi}{q:Program}{loose:List Str}{XP:(Str->AH)->Heap->Prop}{YP:am->Heap->Prop}{d:DefRec}{K:ng->ae}(hn:l.most=some 63)(hdf:d.params.defaults=[])
  (hY:∀(w:am)(h:Heap),YP w h->(K w.params).In h)
  (F:∀(w:am)(mg:Str->AH)(fa:Addr)(h:Heap),(K w.params).In h->h.Ns mainGlobals mg->mg d.name=some (.ref fa)->
   ∃fd:br,(∀(s:aa)(u:Value),ny s fd ⟨[u],[]⟩ [("_law_script",u)])/\∀base:Heap,(K w.params).In base->base.Ns mainGlobals mg->eD l.prog w (K w.params) mg base fV 10 fa fd ["_law_script"] (xT (K w.params))):
  PySem.W.WalkO q loose XP YP l.row.toRowW d [] (λf vs=>wg f vs):=
 L2.walk_of (n:=63) (k:=10) (x:="_law_script") (CX:=λ_=>fV) (sp:=λw=>xT (K w.params)) hn (by decide) hdf ⟨rfl,by decide,by decide⟩ hY F (λ_ _ a ns hl _ hS=>⟨a,ns,rfl,hS,hl,λ_=>rfl⟩) λ_ _ _ _ _ z=>z
end
end Sc
open PySem PySem.W PyProof.Rows
set_option maxRecDepth 100000 in
set_option maxHeartbeats 0 in
theorem PySem.Challenge.cw_scissorhall_k56_layers_agree_holds : PySem.Challenge.rw_scissorhall_k56_layers_agree.Holds := by
 w_on; refine holds_law Sc.wsaid λsaid=>?_
 refine holds_open (q:=Sc.VW) (loose:=[db "fraction",db "point"]) (Xt:=λs=>xlAt Sc.VW [] s && recOk (uk (ul (um pf))) s) (XP:=XL Sc.VW []) (Yf:=ui (kHook Sc.KK Sc.KA Sc.KE)) (Ya:=uj (kHook Sc.KK Sc.KA Sc.KE)) (YP:=Hook.says (kHook Sc.KK Sc.KA Sc.KE)) (N:=5280) Sc.left (Hook.of (kHook Sc.KK Sc.KA Sc.KE)) (Hook.keeps (kHook Sc.KK Sc.KA Sc.KE)) (λs e=>xl_of s (u7.mp e).1) XL.keeps (by rfl) (by rfl) (by rfl) (λs e=>recFacts_of (u7.mp e).2) (by rfl) (by first | assumption | decide +kernel) (by decide +kernel) ⟨rfl,rfl,rfl,rfl,rfl,by decide +kernel⟩ ?hw ?hc
 case hw=>w_witness2
 k_fill
 refine Sc.walk (l:=pf) rfl rfl (λw h Y=>PySem.W.kIn_of Y) ?F
 case F =>
  intro w mg fa h KX G hmg;refine' Sc.all_mk KX G hmg Sc.hF_k Sc.hF_k Sc.hF_k Sc.hF_k Sc.hF_k Sc.hF_k Sc.hF_k Sc.hF_k Sc.hF_k Sc.hF_k Sc.hF_k Sc.hF_k Sc.hF_k Sc.hF_k Sc.hF_k Sc.hF_k Sc.hF_k Sc.hF_k Sc.hF_k Sc.hF_k Sc.hF_k Sc.hF_k Sc.hF_k Sc.hF_k Sc.hF_k Sc.hF_k Sc.hF_k Sc.hF_k Sc.hF_k Sc.hF_k Sc.hF_k Sc.hF_k Sc.hF_k Sc.hF_k Sc.hF_k Sc.hF_k Sc.hF_k Sc.hF_k Sc.hF_k Sc.hF_k Sc.hF_k Sc.hF_k Sc.hF_k Sc.hF_k Sc.hF_k Sc.hF_k Sc.hF_k Sc.hF_k Sc.hF_k Sc.hF_k Sc.hF_k Sc.hF_k Sc.hF_k Sc.hF_k Sc.hF_k Sc.hF_k ?a9 ?l9 ?c9 ?k9 ?t9 ?a13 ?l13 ?c13 ?k13 ?t13 ?a69 ?l69 ?c69 ?k69 ?z1 ?z2 ?z3 ?z4 ?z5 ?z6 ?z7 ?z8 ?z9 ?z10 ?z11 ?z12 ?z13 ?z14 ?z15 ?y1 ?x1 ?y2 ?x2 ?y3 ?x3
  (case a9 | l9 | c9 | k9 | t9 | a13 | l13 | c13 | k13 | t13 | a69 | l69 | c69 | k69 | z1 | z2 | z3 | z4 | z5 | z6 | z7 | z8 | z9 | z10 | z11 | z12 | z13 | z14 | z15 | y1=>k_is)
  (case x1=>k_exc)
  (case y2=>k_is)
  (case x2=>k_exc)
  (case y3=>k_is)
  (case x3=>k_exc)
#print axioms PySem.Challenge.cw_scissorhall_k56_layers_agree_holds
