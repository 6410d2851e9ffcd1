import PyProof.Rows.All
import KE.KFromBytes
import KE.KIsAll
import PyProof.EqAt
import PyProof.EqKinds
import PyProof.TupleCall
import PyProof.ZipIter
import PyProof.Draws
import PyProof.CompFree
import PyProof.NeKinds
import PyProof.NsDelKeeps
import PyProof.ExcArgsOwn
import PyProof.ExcAttrAll.ValueError
import KE.KSortTup
import PyProof.DictRoadsH
import Wide.Seal
import KE.KIntText
import PyProof.FitsReplace
import PyProof.StrWalks
import PyProof.CompMap
import KE.KDictList
import PySem.Challenge.RW_scissorhall_k45_wall_sums
set_option Elab.async false
set_option compiler.extract_closed false
set_option bootstrap.genMatcherCode false
set_option maxRecDepth 100000
set_option maxHeartbeats 0
open Array renaming length_toList->my,toList->uw,getElem?_toList->vt,replicate->xo,getElem?_eq_getElem->ya,append_assoc->yy,forIn_toList->j6
open Bool renaming false_ne_true->ir,and_eq_true->iy,eq_iff_iff->wr,false_eq_true->xq,and_eq_true_iff->yc,not_eq_true'->j4
open Classical renaming propDecidable->tm
open Decidable renaming byContradiction->u8
open False renaming elim->jm
open ForInStep renaming yield->wn
open Function renaming comp_apply->o7
open Int renaming gcd->bj,mul_pos->ca,mul_comm->dn,ne_of_gt->gm,mul_ne_zero->iz,zero_sub->ja,one_mul->je,neg_mul->jw,zero_mul->ke,toNat_natCast->lc,mul_ediv_cancel_left->lg,mul_one->ng,mul_zero->nv,natAbs_mul->oz,gcd_zero_left->pf,fdiv_eq_ediv_of_dvd->ph,mul_eq_zero->ql,mul_neg->rp,le_refl->rq,zero_add->se,gcd_dvd_left->we,gcd_dvd_right->wg,natAbs_natCast->wj,pos_of_mul_pos_left->wk,reduceLT->yj,natAbs_neg->a5,natCast_nonneg->a7,gcd_mul_left->a9,mul_neg_of_pos_of_neg->c7,neg_mul_neg->c9,fmod_nonneg_of_pos->t9,natCast_mul->u7
open List renaming length_map->am,size_toArray->ar,getElem?_eq_getElem->au,getElem?_map->av,map_cons->aw,mem_cons_self->ay,range->az,length_append->bi,mem_cons_of_mem->bn,getElem?_eq_some_iff->bo,getD->br,length_cons->cg,mem_cons->ci,mem_append->cj,zipWith->ck,mem_of_getElem?->cu,map_nil->cv,mem_append_right->da,map_append->df,getElem?_append_right->dg,map_congr_left->di,lookup_cons->dk,getElem?_set_self->dr,map_map->dy,mem_map->dz,set_cons_zero->ee,getElem?_set_ne->fe,getElem?_append_left->ff,length_set->fg,toArray->ia,filterMap_cons->ij,getElem_mem->iu,not_mem_nil->iw,ext_getElem?->jc,prefix_rfl->jg,set_cons_succ->jh,nodup_cons->jn,length_take->jt,length_singleton->jv,all_eq_true->jx,map->jz,length_zipWith->ka,nil_append->kd,getElem?_eq_none->ko,set_set->kq,mem_append_left->kw,append_nil->la,length_range->lq,nodup_append->mf,append_assoc->mj,nodup_nil->mn,mem_filter->mx,filterMap_map->ni,getElem_of_mem->qd,replicate->qu,length->qv,length_drop->qy,map_id->sf,forIn_cons->si,mem_iff_getElem->sk,ext_getElem->tf,drop_eq_getElem_cons->tq,drop_length->tw,getElem?_take->tx,getElem?_set->uc,map_set->ue,pairwise_cons->uf,take_of_length_le->uh,cons_append->uj,flatMap_cons->uk,mem_range->uu,mem_filterMap->va,of_mem_zip->vg,forIn_nil->wt,sum_cons->xh,take_length->xn,pairwise_iff_getElem->xv,length_eq_zero_iff->xz,mem_singleton->yd,getElem_zipWith->yh,range_succ_eq_map->yi,getElem?_cons_succ->yl,getElem?_cons_zero->ym,foldl_cons->yo,filter_cons->yq,getElem?_replicate->zj,length_replicate->zk,zipIdx_cons->f7,zipIdx_nil->f9,getElem?_zipWith->j8,getElem_toArray->j9,getElem?_eq_none_iff->l9,map_inj_right->o0,set_getElem_self->o3,getD_eq_getElem?_getD->u4,zipWith_cons_cons->u5,zipWith_nil_left->u6,filter_append->v7,foldl_append->v8,map_eq_nil_iff->w8,filter_eq_nil_iff->x6,length_filter_le->x8
open Nat renaming le_refl->aj,ne_of_lt->cr,zero_le->cy,lt_of_lt_of_le->de,le_trans->fh,sub_self->fx,lt_irrefl->ig,ne_of_gt->kj,le_succ->nj,lt_of_le_of_lt->nu,le_of_lt->om,le_of_eq->rm,pow_succ->rn,two_pow_pos->ui,pow_le_pow_right->vz,lt_trans->wm,lt_of_succ_lt->xf,add_assoc->xi,lt_succ_self->xj,lt_succ_of_lt->xl,le_succ_of_le->xw,min_eq_left->xy,mul_le_mul_right->yk,succ_le_succ->a0,eq_zero_or_pos->a6,exists_eq_add_of_le->j7
open Ne renaming symm->ik
open Option renaming getD_some->ua,map_some->ye,getD_none->zw
open Option.some renaming inj->ce
open Or renaming inr->dh,inl->du
open Prod renaming ext->qw
open PyProof.Rows renaming AllBare->jl,get?_update_seq->og,callWith_type1->ot,IntsAre->oy,listUpdate_at->qg,seqEpoch_at->qh,slot_tuple_getitem->qz,SortKind->ug,assignInOrder_cons->uz,Subscript_->vk,subscriptTail_builtinR->zt,boot_isinstance->l7
open PyProof.Rows.IsTup renaming new->qs
open PySem renaming Shared->aa,wpAny_bind->ae,Expr->ah,Pos->ai,wpAny_pure->ak,World->al,Around->aq,Env->bh,FuncData->cf,Tok->cw,IsPair->dl,wpAny_mono->fj,sizeLine->fm,Keyword->ft,NameKind->fu,IsZip->gh,sizeLine_eq->gv,wpAny_field->gw,Paired->ie,wpAny_newObj_type->io,wpAny_holding->ji,storedH_new->jk,mem_of_lookup->jo,wpAny_call_entry->jp,Draws->jq,wpAny_seqItems->jy,CmpOp->kh,wpAny_rule->ki,IsPart->km,Model->kx,wpAny_truthy_bool->ky,wpAny_passesOwn->kz,wpAny_callSpecial?_slot->ld,Params->mq,BindsTo->nh,wpAny_setField_rec->ny,wpAny_standAt->oo,PassesOwn->oq,Result->ow,codeAny_mono->ox,wpAny_setField->pk,Fin->qe,atKey_none_of_get->qi,idxH_unique->qj,wpAny_execs_nil->qq,Operator->qr,wpAny_pyIter_list->sj,wpAny_letGo->su,wpAny_of_eq->sv,wpAny_onRaise->sx,wpAny_attempt->sy,wpAny_newList->ub,storedH_old->ud,wpAny_Name->uv,wpAny_Call_Name_kw->vf,concat_meets->vh,seqIndex_of->vm,seqIndex_neg->vn,slot_list_getitem->vo,call_meets->vq,call->vw,wpAny_comprehension_free->wo,codeAny_compStart_list->wp,eval_ListComp->wq,wpAny_updateSeq_pair->wu,wpAny_newTuple->wv,wpAny_isInstance->wz,wpAny_collect_seq->xu,pushCells_keeps->xx,wpAny_dictEntries->yb,Within->yx,wpAny_loadName_local->za,wpAny_loadName_cell->zb,wpAny_isTrue_Compare1->zd,wpAny_getItem_list_slice->zx,wpAny_Call_method_late->zy,wpAny_newFunctionEnv->d6,wpAny_pyIter_tuple->i6,wpAny_isOneOf_keyiter->o9,wpAny_notOrdered_dict->r6
open PySem.Around renaming under_plainId->s0
open PySem.Builtin renaming sorted->n9
open PySem.Builtin.Dict renaming showsAll->r8
open PySem.Builtin.Dict_items renaming ownsTuple->o8
open PySem.Builtin.Int renaming intBits->d5
open PySem.Builtin.List renaming listTooLong->rh
open PySem.Builtin.Slice renaming slicePlaces->qx,sliceAdjust->vj,sliceApplied->zo
open PySem.Builtin.SmallTypes renaming nextOf->kn,ownedTupleIsFree->sw,ownedTupleHandOut->g7
open PySem.Builtin.Tuple renaming tupleExact->re,tupleHashOf->xa,tupleItemsOf->zp
open PySem.Calls renaming evalArgs_plain->vp,Name_function_global->zc,callWith_builtin->zz,call_function_entry->m9
open PySem.Challenge renaming pw_scissorhall_k45_wall_sums->qm,rw_scissorhall_k45_wall_sums->qo
open PySem.F renaming slot_dict_keyiterator_next->qk,slot_list_append->rl,slot_tuple_iterator_next->sr,slot_zip_next->td,plainAttrs_list->tz,type_list_append->xk,slot_tuple_add->zl,entry_tuple_add->zm,args_tuple_add_2->zn,entry_tuple_iterator_next->d7,args_tuple_iterator_next_1->d8,entry_zip_next->g8,args_zip_next_1->g9,slot_list_iadd->o4,entry_list_iadd->o5,slot_dict_get->o6,entry_dict_keyiterator_next->q0,args_dict_keyiterator_next_1->q9,slot_dict_iter->r0,plain_list_iadd->t5,slot_dict_setdefault->t7
open PySem.Heap renaming get?_push_of_some->ao,lt_size->ax,get?_push_size->cx,SameBut->il,size_push->jf,get?_update_ne->oh,ExtBut->pw,get?_update_self->rf,get?_update_other->zu
open PySem.Heap.IsSliceOf renaming new->zq
open PySem.Heap.SameBut renaming update->lh
open PySem.NameKind renaming cell->fk,free->fw
open PySem.Obj renaming mapSeq->dj,data_mapFields->ss,isFreed_of_fields->d9,cls_mapFields->f6,data_mapDictKeys->t6
open PySem.Paired renaming length->yw
open PySem.PassesOwn renaming never->yf,leaving->yg
open PySem.SeqAt renaming EqAt->jr,RcAt->oa
open PySem.SeqAt.EqAt renaming same->tj,of_refs->xc,int_int->j5
open PySem.SeqAt.RcAt renaming tuples->xb,none_none->k4,bool_bool->k7,int_int->k9,str_str->l4,lists->l5,lists_lengths->l6
open PySem.Str renaming ofString->ib
open PySem.Value renaming none->bf,ref->cq,type->kg,int->oj,bool->qp,str->ul
open PySem.W renaming Frag->ag,nsIn->dq,fnOf->eh,keepIn->fz,kia_one->ix,kas_sort->jb,mg_none_of->jd,codeIn->ju,KasT->kb,kitOne->kl,excIn->lm,OpenLaw->nr,mg_of->oi,instObj->um,methodObj->uo,hideAll->uq,hideAll_get->ur,lookIn->vb,findIn->vd,kitx_list->ve,kat_nil->xp,kHook->yu,of_hideAll->yz,plainGet->ze,specialIn->zf,kitx_tuple->zg,kitx_dict->zh,cellsFrom_some->zi,kitCls->i7,kitMeta->i8,subIn->i9
open PySem.W.OpenLaw renaming row->yt,wellSaid->x9
open PySem.W.OpenRow renaming toRowW->yr
open Rat renaming intCast_mul->yn,add_assoc->yp,intCast_inj->u9
open Sum renaming inl->kr,inr->ku
open True renaming intro->ou
abbrev AA:=List Int
abbrev AB:=List AA
abbrev AC:=List AB
abbrev AD:=List PySem.Value
abbrev AE:=Option PySem.Value
abbrev AF:=Option PySem.Addr
abbrev AG:=Option Int
namespace L2
open PySem
def gR(s:Stmt):Arguments:=match s with
 |.FunctionDef _ a _ _ _ _ _ _ _ _=>a
 |_=>{posonlyargs:=[],args:=[],vararg:=none,kwonlyargs:=[],kw_defaults:=[],kwarg:=none,defaults:=[]}
def eP(s:Stmt):List Stmt:=match s with
 |.FunctionDef _ _ b _ _ _ _ _ _ _=>b
 |_=>[]
def cR(s:Stmt):Scope:=match s with
 |.FunctionDef _ _ _ _ _ _ sc _ _ _=>sc
 |_=>{kind:=.function,names:=[],isGenerator:=false,isCoroutine:=false}
end L2
namespace Sc
noncomputable section
open PySem L2
def aY(i:Nat):Stmt:=qm.main.body.getD i (.Pass ⟨0,0,0,0⟩)
abbrev vs(s:String)(t:Nat):Value:=.str (ib s) t
abbrev vi(i:Int):Value:=.int i 0
abbrev vr(a:Nat):Value:=.ref a
abbrev fo(n:String)(i:Nat)(dV dc pm cd ct:Value):Obj:=⟨.type "function",none,.func (eh (ib n) (ib n) (gR (aY i)) (eP (aY i)) (cR (aY i)) dV .none dc pm none cd ct),#[]⟩
abbrev fc(l:AD):Obj:=⟨.type "code",none,.fields l.toArray,#[]⟩
abbrev Ms(n:String)(t l a r g:Nat)(x:AD):Obj:=fc (vs n t::vs n (t+1)::vs "/claim/cut.py" (t+2)::vi l::vi a::vi 0::vi 0::vi 3::vr r:: .bool true::vi g::vr (r+1):: .none::x)
abbrev eS(n:String)(t l a r g u:Nat):Obj:=Ms n t l a r g [vr (r+2),vr (r+3),vr (r+4),vi u,vi l,vs "/claim/cut.py" (u+1)]
abbrev fU(n:String)(t l a r g:Nat):Obj:=Ms n t l a r g [.none,.none,vr (r+2),vi (t+3),vi l,vs "/claim/cut.py" (t+4)]
abbrev fd(P:mq)(n:Nat)(l:List (String×Nat×Value)):Obj:=⟨.type "dict",none,.dict (l.map λe=>⟨PyData.keyHash P (ib e.1),.str (ib e.1) e.2.1,e.2.2⟩).toArray n,#[]⟩
abbrev vLq:Value:=vs "law_scissorhall_k45_wall_sums" 357
abbrev fzq (n:String)(i:Nat)(m:Value)(r:Nat):Obj:=fo n i .none .none m (vr r) .none
abbrev v0q:Value:=vs "scissorhall.lowest" 223
abbrev v1q:Value:=vs "scissorhall.sums" 322
noncomputable def KK(P:mq):ag:=
 (nat_lit 3,fd P 61 [("__name__",165,vs "law_scissorhall_k45_wall_sums" 357),("__doc__",166,.none),("__package__",167,.none),("__loader__",168,(.builtin "__main__.__loader__#opaque")),("__spec__",169,.none),("__annotations__",170,vr 6),("__builtins__",171,vr 4),("__file__",173,vs "/claim/cut.py" 172),("__cached__",174,.none),("HallError",206,vr 24),("NoNumber",222,vr 37),("sign",231,vr 46),("divisor",240,vr 53),("reduced",246,vr 58),("lowest_way",252,vr 63),("fraction",262,vr 71),("plus",270,vr 78),("total",276,vr 83),("whole_arrow",284,vr 88),("normal",293,vr 95),("FLAT_WALLS",302,vr 99),("SPACE_WALLS",315,vr 104),("walls",321,vr 109),("along",329,vr 114),("wall_share",335,vr 119),("summed",341,vr 124),("all_walls",350,vr 131),("wall_sums",356,vr 136),("_law_row",371,vr 143),("_law_take",380,vr 150),("_law_gcd",388,vr 157),("_law_lowest",394,vr 162),("_law_upward",400,vr 167),("_law_whole",407,vr 174),("_law_frac",415,vr 181),("_law_sum",423,vr 188),("_law_joined",429,vr 193),("_law_gap",435,vr 198),("_law_cross",446,vr 205),("_law_dot",452,vr 210),("_law_turn",459,vr 217),("_law_det",465,vr 222),("_law_simplex",473,vr 229),("_law_shuts",484,vr 236),("_law_raw",490,vr 241),("_law_raw_turn",496,vr 246),("_law_kuhn",508,vr 253),("_law_raw_heap",520,vr 260),("_law_far",526,vr 265),("_law_stretch",537,vr 272),("_law_spot",543,vr 277),("_law_laid",549,vr 282),("_law_handed",557,vr 289),("_law_way_of",567,vr 296),("_law_put_sum",576,vr 303),("_law_told_sums",582,vr 308),("_law_shut_share",594,vr 315),("_law_shut_table",606,vr 322),("_law_alike",612,vr 327),("_law_wide_far",620,vr 334),("law",630,vr 341)])::
 (nat_lit 23,fd P 3 [("__module__",196,vs "scissorhall.errors" 187),("__firstlineno__",200,(.int 2 199)),("__static_attributes__",201,vr 22),("__weakref__",203,vr 25),("__doc__",204,.none)])::
 (nat_lit 24,⟨(.type "type"),none,.cls {name:="HallError",bases:=[(.type "ValueError")],mro:=[vr 24,(.type "ValueError"),(.type "Exception"),(.type "BaseException"),(.type "object")],ns:=23,qualname:="HallError",hasDict:=true,subclasses:=[vr 37]},#[some (vr 15),none,some (vs "HallError" 189),some (vs "HallError" 197),some (.builtin "ValueError.__new__"),some (.bool true)]⟩)::
 (nat_lit 36,fd P 2 [("__module__",214,vs "scissorhall.errors" 187),("__firstlineno__",218,(.int 4 217)),("__static_attributes__",219,vr 35),("__doc__",220,.none)])::
 (nat_lit 37,⟨(.type "type"),none,.cls {name:="NoNumber",bases:=[vr 24],mro:=[vr 37,vr 24,(.type "ValueError"),(.type "Exception"),(.type "BaseException"),(.type "object")],ns:=36,qualname:="NoNumber",hasDict:=true,subclasses:=[]},#[some (vr 28),none,some (vs "NoNumber" 207),some (vs "NoNumber" 215),some (.builtin "ValueError.__new__"),some (.bool true)]⟩)::
 (nat_lit 45,eS "sign" 225 7 1 40 181 229)::
 (nat_lit 46,fzq "sign" 4 v0q 45)::
 (nat_lit 52,eS "divisor" 232 13 2 47 181 238)::
 (nat_lit 53,fzq "divisor" 5 v0q 52)::
 (nat_lit 57,fU "reduced" 241 19 1 54 181)::
 (nat_lit 58,fzq "reduced" 6 v0q 57)::
 (nat_lit 62,fU "lowest_way" 247 24 1 59 181)::
 (nat_lit 63,fzq "lowest_way" 7 v0q 62)::
 (nat_lit 64,⟨.type "tuple",none,.seq #[(.int 1 253)] 0,#[]⟩)::
 (nat_lit 70,eS "fraction" 254 27 2 65 181 260)::
 (nat_lit 71,fo "fraction" 8 (vr 64) .none v0q (vr 70) .none)::
 (nat_lit 77,eS "plus" 263 32 2 72 181 268)::
 (nat_lit 78,fzq "plus" 9 v0q 77)::
 (nat_lit 82,fU "total" 271 34 1 79 181)::
 (nat_lit 83,fzq "total" 10 v0q 82)::
 (nat_lit 87,fU "whole_arrow" 279 40 2 84 181)::
 (nat_lit 88,fzq "whole_arrow" 12 (vs "scissorhall.points" 277) 87)::
 (nat_lit 94,eS "normal" 285 42 1 89 181 291)::
 (nat_lit 95,fzq "normal" 13 (vs "scissorhall.points" 277) 94)::
 (nat_lit 96,⟨.type "tuple",none,.seq #[(.int 0 296),(.int 1 297)] 0,#[]⟩)::
 (nat_lit 97,⟨.type "tuple",none,.seq #[(.int 1 298),(.int 2 299)] 0,#[]⟩)::
 (nat_lit 98,⟨.type "tuple",none,.seq #[(.int 2 300),(.int 0 301)] 0,#[]⟩)::
 (nat_lit 99,⟨.type "tuple",none,.seq #[vr 96,vr 97,vr 98] 0,#[]⟩)::
 (nat_lit 100,⟨.type "tuple",none,.seq #[(.int 1 303),(.int 2 304),(.int 3 305)] 0,#[]⟩)::
 (nat_lit 101,⟨.type "tuple",none,.seq #[(.int 0 306),(.int 3 307),(.int 2 308)] 0,#[]⟩)::
 (nat_lit 102,⟨.type "tuple",none,.seq #[(.int 0 309),(.int 1 310),(.int 3 311)] 0,#[]⟩)::
 (nat_lit 103,⟨.type "tuple",none,.seq #[(.int 0 312),(.int 2 313),(.int 1 314)] 0,#[]⟩)::
 (nat_lit 104,⟨.type "tuple",none,.seq #[vr 100,vr 101,vr 102,vr 103] 0,#[]⟩)::
 (nat_lit 108,fU "walls" 316 51 1 105 181)::
 (nat_lit 109,fzq "walls" 17 (vs "scissorhall.simplexes" 294) 108)::
 (nat_lit 113,fU "along" 324 55 2 110 181)::
 (nat_lit 114,fzq "along" 19 v1q 113)::
 (nat_lit 118,fU "wall_share" 330 59 1 115 181)::
 (nat_lit 119,fzq "wall_share" 20 v1q 118)::
 (nat_lit 123,fU "summed" 336 63 1 120 181)::
 (nat_lit 124,fzq "summed" 21 v1q 123)::
 (nat_lit 130,eS "all_walls" 342 69 1 125 181 348)::
 (nat_lit 131,fzq "all_walls" 22 v1q 130)::
 (nat_lit 135,fU "wall_sums" 351 74 1 132 181)::
 (nat_lit 136,fzq "wall_sums" 23 v1q 135)::
 (nat_lit 142,eS "_law_row" 359 77 1 137 181 369)::
 (nat_lit 143,fzq "_law_row" 25 vLq 142)::
 (nat_lit 149,eS "_law_take" 372 91 2 144 181 378)::
 (nat_lit 150,fzq "_law_take" 26 vLq 149)::
 (nat_lit 156,eS "_law_gcd" 381 99 2 151 181 386)::
 (nat_lit 157,fzq "_law_gcd" 27 vLq 156)::
 (nat_lit 161,fU "_law_lowest" 389 105 1 158 181)::
 (nat_lit 162,fzq "_law_lowest" 28 vLq 161)::
 (nat_lit 166,fU "_law_upward" 395 112 1 163 181)::
 (nat_lit 167,fzq "_law_upward" 29 vLq 166)::
 (nat_lit 173,eS "_law_whole" 401 120 1 168 181 405)::
 (nat_lit 174,fzq "_law_whole" 30 vLq 173)::
 (nat_lit 180,eS "_law_frac" 408 122 2 175 181 413)::
 (nat_lit 181,fzq "_law_frac" 31 vLq 180)::
 (nat_lit 187,eS "_law_sum" 416 126 2 182 181 421)::
 (nat_lit 188,fzq "_law_sum" 32 vLq 187)::
 (nat_lit 192,fU "_law_joined" 424 128 3 189 181)::
 (nat_lit 193,fzq "_law_joined" 33 vLq 192)::
 (nat_lit 197,fU "_law_gap" 430 131 2 194 181)::
 (nat_lit 198,fzq "_law_gap" 34 vLq 197)::
 (nat_lit 204,eS "_law_cross" 436 133 2 199 181 444)::
 (nat_lit 205,fzq "_law_cross" 35 vLq 204)::
 (nat_lit 209,fU "_law_dot" 447 138 2 206 181)::
 (nat_lit 210,fzq "_law_dot" 36 vLq 209)::
 (nat_lit 216,eS "_law_turn" 453 140 1 211 181 457)::
 (nat_lit 217,fzq "_law_turn" 37 vLq 216)::
 (nat_lit 221,fU "_law_det" 460 144 1 218 181)::
 (nat_lit 222,fzq "_law_det" 38 vLq 221)::
 (nat_lit 228,eS "_law_simplex" 466 146 1 223 181 471)::
 (nat_lit 229,fzq "_law_simplex" 39 vLq 228)::
 (nat_lit 235,eS "_law_shuts" 474 151 1 230 181 482)::
 (nat_lit 236,fzq "_law_shuts" 40 vLq 235)::
 (nat_lit 240,fU "_law_raw" 485 154 3 237 181)::
 (nat_lit 241,fzq "_law_raw" 41 vLq 240)::
 (nat_lit 245,fU "_law_raw_turn" 491 161 1 242 181)::
 (nat_lit 246,fzq "_law_raw_turn" 42 vLq 245)::
 (nat_lit 252,eS "_law_kuhn" 497 163 1 247 181 506)::
 (nat_lit 253,fzq "_law_kuhn" 43 vLq 252)::
 (nat_lit 259,eS "_law_raw_heap" 509 175 3 254 181 518)::
 (nat_lit 260,fzq "_law_raw_heap" 44 vLq 259)::
 (nat_lit 264,fU "_law_far" 521 188 2 261 181)::
 (nat_lit 265,fzq "_law_far" 45 vLq 264)::
 (nat_lit 271,eS "_law_stretch" 527 194 2 266 181 535)::
 (nat_lit 272,fzq "_law_stretch" 46 vLq 271)::
 (nat_lit 276,fU "_law_spot" 538 200 2 273 181)::
 (nat_lit 277,fzq "_law_spot" 47 vLq 276)::
 (nat_lit 281,fU "_law_laid" 544 206 3 278 181)::
 (nat_lit 282,fzq "_law_laid" 48 vLq 281)::
 (nat_lit 288,eS "_law_handed" 550 212 2 283 181 555)::
 (nat_lit 289,fzq "_law_handed" 49 vLq 288)::
 (nat_lit 295,eS "_law_way_of" 558 216 1 290 181 565)::
 (nat_lit 296,fzq "_law_way_of" 50 vLq 295)::
 (nat_lit 302,eS "_law_put_sum" 568 222 3 297 181 574)::
 (nat_lit 303,fzq "_law_put_sum" 51 vLq 302)::
 (nat_lit 307,fU "_law_told_sums" 577 224 1 304 181)::
 (nat_lit 308,fzq "_law_told_sums" 52 vLq 307)::
 (nat_lit 314,eS "_law_shut_share" 583 226 1 309 181 592)::
 (nat_lit 315,fzq "_law_shut_share" 53 vLq 314)::
 (nat_lit 321,eS "_law_shut_table" 595 230 1 316 181 604)::
 (nat_lit 322,fzq "_law_shut_table" 54 vLq 321)::
 (nat_lit 326,fU "_law_alike" 607 237 2 323 181)::
 (nat_lit 327,fzq "_law_alike" 55 vLq 326)::
 (nat_lit 333,eS "_law_wide_far" 613 243 2 328 181 618)::
 (nat_lit 334,fzq "_law_wide_far" 56 vLq 333)::
 (nat_lit 340,eS "law" 621 247 1 335 181 628)::
 (nat_lit 341,fzq "law" 57 vLq 340)::[]
def KA:List Nat:=[3,23,24,36,37,45,46,52,53,57,58,62,63,64,70,71,77,78,82,83,87,88,94,95,96,97,98,99,100,101,102,103,104,108,109,113,114,118,119,123,124,130,131,135,136,142,143,149,150,156,157,161,162,166,167,173,174,180,181,187,188,192,193,197,198,204,205,209,210,216,217,221,222,228,229,235,236,240,241,245,246,252,253,259,260,264,265,271,272,276,277,281,282,288,289,295,296,302,303,307,308,314,315,321,322,326,327,333,334,340,341]
def VW:Program:={qm with main:={qm.main with body:=[aY 1,aY 2,aY 4,aY 5,aY 6,aY 7,aY 9,aY 10,aY 12,aY 13,aY 15,aY 16,aY 17,aY 19,aY 20,aY 21,aY 22,aY 23,aY 25,aY 26,aY 27,aY 28,aY 29,aY 30,aY 31,aY 32,aY 33,aY 34,aY 35,aY 36,aY 37,aY 38,aY 39,aY 40,aY 41,aY 42,aY 43,aY 44,aY 45,aY 46,aY 47,aY 48,aY 49,aY 50,aY 51,aY 52,aY 53,aY 54,aY 55,aY 56,aY 57]}}
theorem KE:∀P,KA=(KK P).map (·.1):=λ_=>by kernel_rfl
theorem wsaid:x9 qo=true:=by kernel_rfl
theorem left:PySem.W.LeftO qm VW [ib "fraction"] (λs=>PySem.W.xlAt VW [] s&&PySem.W.recOk (PySem.W.RowW.records (yr (yt qo))) s) (PySem.W.Hook.obs (yu KK KA KE)) (PySem.W.Hook.val (yu KK KA KE)) 3918:=by
 intro w
 kernel_rfl
end
end Sc
set_option maxHeartbeats 200000
set_option Elab.async false
set_option compiler.extract_closed false
set_option bootstrap.genMatcherCode false
set_option linter.all false
set_option maxRecDepth 100000
namespace L2
open PySem PySem.Spec PyProof.Rows
abbrev gL:=Sum Int Str
def Oq:gL->Value->Bool
 |.inl k,v=>Value.isInt k v
 |.inr x,v=>Value.isStrOf x v
def acr(w:al):gL->Int
 |.inl k=>hashInt k
 |.inr x=>hashStr w x
theorem lL:∀{k:gL}{v:Value},Oq k v=true->(∃i t,k=kr i/\v=oj i t)\/(∃x t,k=ku x/\v=ul x t)
 |.inl i,v,h=>by
  obtain⟨t,e⟩:=Value.isInt_shape (k:=i) (v:=v) h;exact .inl ⟨i,t,rfl,e⟩
 |.inr x,v,h=>by
  obtain⟨t,e⟩:=Value.isStrOf_shape (x:=x) (v:=v) h;exact .inr ⟨x,t,rfl,e⟩
theorem aaD(a b:Int):decide ((kr a:gL)=kr b)=(a==b):=by
 by_cases e:a=b
 .subst e;simp
 .have h:¬(kr a:gL)=kr b:=λq=>e (Sum.inl.inj q)
  rw[decide_eq_false h];exact(beq_eq_false_iff_ne.mpr e).symm
theorem aaa(a b:Str):decide ((ku a:gL)=ku b)=decide (a=b):=by
 by_cases e:a=b
 .subst e;simp
 .have h:¬(ku a:gL)=ku b:=λq=>e (Sum.inr.inj q)
  rw[decide_eq_false h,decide_eq_false e]
theorem aaP(a:Int)(b:Str):decide ((kr a:gL)=ku b)=false:=decide_eq_false (λq=>nomatch q)
theorem aao(a:Str)(b:Int):decide ((ku a:gL)=kr b)=false:=decide_eq_false (λq=>nomatch q)
def Wa(prog:Program)(w:al):PySem.KeyKind prog w gL where
 is:=Oq
 hash:=acr w
 inj:=λv a b ha hb=>by
  rcases lL ha with⟨i,t,rfl,rfl⟩|⟨x,t,rfl,rfl⟩
  .rcases lL hb with⟨j,u,rfl,e⟩|⟨y,u,rfl,e⟩
   .injection e with e1 _;rw[e1]
   .exact nomatch e
  .rcases lL hb with⟨j,u,rfl,e⟩|⟨y,u,rfl,e⟩
   .exact nomatch e
   .injection e with e1 _;rw[e1]
 byValue:=λk v h=>by
  rcases lL h with⟨i,t,rfl,rfl⟩|⟨x,t,rfl,rfl⟩<;>rfl
 pyHash:=λhv h=>by
  rcases lL hv with⟨i,t,rfl,rfl⟩|⟨x,t,rfl,rfl⟩
  .exact wpAny_pyHash_int h
  .exact wpAny_pyHash_str h
 eqBool:=λhu hv h=>by
  rcases lL hu with⟨i,t,rfl,rfl⟩|⟨x,t,rfl,rfl⟩
  .rcases lL hv with⟨j,u,rfl,rfl⟩|⟨y,u,rfl,rfl⟩
   .rw[aaD]at h;exact wpAny_eqBool_int h
   .rw[aaP]at h;exact SeqAt.EqAt.int_str i t y u _ _ _ _ h
  .rcases lL hv with⟨j,u,rfl,rfl⟩|⟨y,u,rfl,rfl⟩
   .rw[aao]at h;exact SeqAt.EqAt.str_int x t j u _ _ _ _ h
   .rw[aaa]at h;exact wpAny_eqBool_str h
 «strs»:=λk x t v h=>by
  rcases lL h with⟨i,u,rfl,e⟩|⟨y,u,rfl,e⟩
  .exact nomatch e
  .injection e with e1 _
   subst e1;cases v<;>rfl
inductive V where
 |non |bl (b:Bool) |int (i:Int) |str (x:Str) |byt (b:Array UInt8) |flt (b:UInt64) |ref (a:Addr) |ty (n:String)
 deriving DecidableEq
def bP:V->Value->Prop
 |.non,u=>u=bf
 |.bl b,u=>u=qp b
 |.int i,u=>∃t,u=oj i t
 |.str x,u=>∃t,u=ul x t
 |.byt b,u=>∃t,u=Value.bytes b t
 |.flt b,u=>∃t,u=Value.float b t
 |.ref a,u=>u=cq a
 |.ty n,u=>u=kg n
abbrev aX:List V->AD->Prop:=ie bP
theorem aX.length{xs:List V}{us:AD}(r:aX xs us):xs.length=us.length:=yw r
theorem aX.get:∀{xs:List V}{us:AD}{i:Nat}{x:V},aX xs us->xs[i]?=some x->∃u,us[i]?=some u/\bP x u
 |_,_,_,_,.nil,e=>by simp at e
 |_,_,0,_,.cons r _,e=>by simp at e;subst e;exact⟨_,rfl,r⟩
 |_,_,i+1,x,.cons _ t,e=>by
  obtain⟨u,h1,h2⟩:=aX.get (i:=i) (x:=x) t (by simpa using e);exact⟨u,by simpa using h1,h2⟩
theorem aX.set{x:V}{u:Value}(r:bP x u):∀{xs:List V}{us:AD}(i:Nat),aX xs us->aX (xs.set i x) (us.set i u)
 |_,_,_,.nil=>.nil
 |_,_,0,.cons _ t=>.cons r t
 |_,_,i+1,.cons q t=>.cons q (aX.set r i t)
theorem aX.append:∀{xs ys:List V}{us ws:AD},aX xs us->aX ys ws->aX (xs++ys) (us++ws)
 |_,_,_,_,.nil,s=>s
 |_,_,_,_,.cons r t,s=>.cons r (aX.append t s)
theorem aX.take:∀{xs:List V}{us:AD}(n:Nat),aX xs us->aX (xs.take n) (us.take n)
 |_,_,0,_=>.nil
 |_,_,_+1,.nil=>.nil
 |_,_,n+1,.cons r t=>.cons r (aX.take n t)
theorem aX.drop:∀{xs:List V}{us:AD}(n:Nat),aX xs us->aX (xs.drop n) (us.drop n)
 |_,_,0,r=>r
 |_,_,_+1,.nil=>.nil
 |_,_,n+1,.cons _ t=>aX.drop n t
def Xd:Option V->AE->Prop
 |some v,some u=>bP v u
 |none,none=>True
 |_,_=>False
def KV{κ:Type}:List (κ×V)->List (κ×Value)->Prop:=ie λ(p:κ×V) (q:κ×Value)=>p.1=q.1/\bP p.2 q.2
def kV:gL->V
 |.inl i=>.int i
 |.inr x=>.str x
inductive HO where
 /--a list -/
 |lst (xs:List V)
 /--a tuple (never changes) -/
 |tup (xs:List V)
 /--a dict whose keys are ints and texts;one whose keys are tuples of ints and texts (the empty one is both) -/
 |dK (kvs:List (gL×V)) |dT (kvs:List (List gL×V))
 /--a set of ints:its members,its size -/
 |set (S:Int->Bool) (n:Nat)
 /--an instance of the class at C,its dict at dx,its attributes -/
 |ins (C dx:Addr) (fs:List (Str×V))
 /--the dict of the instance at x -/
 |own (x:Addr)
 /--the dict of an exception -/
 |xd (fs:List (Str×V))
 /--a bound method,f of x -/
 |met (f x:Addr)
 /--a range object lo,lo+1,.. below hi -/
 |rng (lo hi:Int)
 /--a thing that is known to the object (the script;a dict while a loop walks it):read,never written while it is so -/
 |frz (o:Obj) (u:HO)
 /--a code object's table -/
 |tbl (ps:Array Value)
 /--any other thing,by what is true of its one object (a def of one's own:SetO a S n:=HO.ext λh=>..) -/
 |ext (φ:Heap->Prop)
abbrev Hp:=Addr->Option HO
def aK(H:Hp)(a:Addr)(o:HO):Hp:=λb=>if b=a then some o else H b
theorem dR{H:Hp}{a:Addr}{o:HO}:aK H a o a=some o:=by unfold aK;rw[if_pos rfl]
theorem bH{H:Hp}{a b:Addr}{o:HO}(h:b≠a):aK H a o b=H b:=by unfold aK;rw[if_neg h]
theorem fW{H:Hp}{a b:Addr}{o:HO}(h:H a=some o)(h':H b=none):a≠b:=by
 intro e;subst e;rw[h]at h';cases h'
section
variable(P:Program)(w:al)
def fJ(H:Hp)(h:Heap)(a:Addr):HO->Prop
 |.lst xs=>xs.length<=sizeLine/\∃(its:AD)(n:Nat),aX xs its/\h.get? a=some {cls:=.type "list",data:=.seq its.toArray n}
 |.tup xs=>xs.length<=sizeLine/\∃its:AD,aX xs its/\IsTup h a its.toArray
 |.dK kvs=>kvs.length<=sizeLine/\(a==sysModules)=false/\∃vs,KV kvs vs/\h.DictOf (Wa P w) a vs
 |.dT kvs=>kvs.length<=sizeLine/\(a==sysModules)=false/\∃xs:List (List gL×Addr×Value),
   ie (λ(p:List gL×V) (q:List gL×Addr×Value)=>p.1=q.1/\H q.2.1=some (.tup (p.1.map kV))/\bP p.2 q.2.2) kvs xs/\
   ∃o es ep,h.get? a=some o/\o.ExactDict/\o.data=.dict es ep/\es.toList=xs.map (entryOfKey (tupleKind (Wa P w)))/\(xs.map (·.1)).Nodup
 |.set S n=>h.SetOf (intKind P w) a S n
 |.ins C dx fs=>H dx=some (.own a)/\fs.length<=1000/\dx≠a/\h.get? a=some (um C dx)/\
   ∃mA,h.Ns1 dx mA/\(∀f,Xd (fs.lookup f) (mA f))/\yx mA (fs.map (·.1))
 |.own _=>∃o,h.get? a=some o
 |.xd fs=>∃mA,h.Ns1 a mA/\∀f,Xd (fs.lookup f) (mA f)
 |.rng lo hi=>∃t u v,h.get? a=some {cls:=.type "range",data:=.fields #[.int lo t,.int hi u,.int 1 v]}
 |.frz o u=>h.get? a=some o/\fJ H h a u
 |.tbl ps=>h.get? a=some {cls:=.none,data:=.fields ps}
 |.met f x=>h.get? a=some (uo (.ref f) (.ref x))
 |.ext φ=>φ h/\(∃o,h.get? a=some o)/\∀h1 h2:Heap,φ h1->(∀o,h1.get? a=some o->h2.get? a=some o)->φ h2
def eX(H:Hp)(h:Heap):Prop:=∀a o,H a=some o->fJ P w H h a o
end
section
variable{P:Program}{w:al}{H H':Hp}{h h':Heap}{a:Addr}{o:HO}
theorem fJ.lt(x:fJ P w H h a o):a<h.objs.size:=by
 cases o with
 |lst xs=>obtain⟨_,_,_,_,e⟩:=x;exact ax e
 |tup xs=>obtain⟨_,_,_,p⟩:=x;exact p.lt
 |dK kvs=>obtain⟨_,_,_,_,o,_,_,e,_⟩:=x;exact ax e
 |dT kvs=>obtain⟨_,_,_,_,o,_,_,e,_⟩:=x;exact ax e
 |set S n=>obtain⟨o,_,_,_,e,_⟩:=x;exact ax e
 |ins C dx fs=>obtain⟨_,_,_,e,_⟩:=x;exact ax e
 |own y=>obtain⟨_,e⟩:=x;exact ax e
 |xd fs=>obtain⟨_,⟨_,_,_,e,_⟩,_⟩:=x;exact ax e
 |rng lo hi=>obtain⟨_,_,_,e⟩:=x;exact ax e
 |frz ob u=>obtain⟨e,_⟩:=x;exact ax e
 |tbl ps=>exact ax (show h.get? a=some _ from x)
 |met f y=>exact ax (show h.get? a=some _ from x)
 |ext φ=>obtain⟨_,⟨_,e⟩,_⟩:=x;exact ax e
theorem Paired.mapP{α β:Type}{F G:α->β->Prop}:∀{l₁:List α}{l₂:List β},ie F l₁ l₂->(∀a b,F a b->G a b)->ie G l₁ l₂
 |_,_,.nil,_=>.nil
 |_,_,.cons r t,f=>.cons (f _ _ r) (Paired.mapP t f)
theorem fJ.stay(x:fJ P w H h a o)(k:∀b u,(b=a\/H b=some (.own a))->h.get? b=some u->h'.get? b=some u)
  (ho:∀b,H b=some (.own a)->H' b=some (.own a))(ht:∀b xs,H b=some (.tup xs)->H' b=some (.tup xs)):fJ P w H' h' a o:=by
 induction o with
 |lst xs=>obtain⟨z,its,n,r,e⟩:=x;exact⟨z,its,n,r,k _ _ (.inl rfl) e⟩
 |tup xs=>obtain⟨z,its,r,ob,e,c⟩:=x;exact⟨z,its,r,ob,k _ _ (.inl rfl) e,c⟩
 |dK kvs=>obtain⟨z,y,vs,r,ob,es,ep,e,c⟩:=x;exact⟨z,y,vs,r,ob,es,ep,k _ _ (.inl rfl) e,c⟩
 |dT kvs=>
  obtain⟨z,y,xs,r,ob,es,ep,e,c⟩:=x;exact⟨z,y,xs,Paired.mapP r λp q z=>⟨z.1,ht _ _ z.2.1,z.2.2⟩,ob,es,ep,k _ _ (.inl rfl) e,c⟩
 |set S n=>obtain⟨ob,es,ep,t,e,c⟩:=x;exact⟨ob,es,ep,t,k _ _ (.inl rfl) e,c⟩
 |ins C dx fs=>
  obtain⟨d,z,ne,e,mA,⟨od,es,ep,e2,c⟩,r⟩:=x;exact⟨ho _ d,z,ne,k _ _ (.inl rfl) e,mA,⟨od,es,ep,k _ _ (.inr d) e2,c⟩,r⟩
 |own y=>obtain⟨ob,e⟩:=x;exact⟨ob,k _ _ (.inl rfl) e⟩
 |xd fs=>obtain⟨mA,⟨od,es,ep,e,c⟩,r⟩:=x;exact⟨mA,⟨od,es,ep,k _ _ (.inl rfl) e,c⟩,r⟩
 |rng lo hi=>obtain⟨t,u,v,e⟩:=x;exact⟨t,u,v,k _ _ (.inl rfl) e⟩
 |frz ob u ih=>obtain⟨e,q⟩:=x;exact⟨k _ _ (.inl rfl) e,ih q⟩
 |tbl ps=>
  have e:h.get? a=some {cls:=.none,data:=.fields ps}:=x;show h'.get? a=some {cls:=.none,data:=.fields ps};exact k a _ (.inl rfl) e
 |met f y=>
  have e:h.get? a=some (uo (.ref f) (.ref y)):=x;show h'.get? a=some (uo (.ref f) (.ref y));exact k a _ (.inl rfl) e
 |ext φ=>obtain⟨p,⟨o,e⟩,st⟩:=x;exact⟨st _ _ p λo q=>k _ _ (.inl rfl) q,⟨o,k _ _ (.inl rfl) e⟩,st⟩
theorem eX.lt(x:eX P w H h)(e:H a=some o):a<h.objs.size:=(x a o e).lt
theorem eX.fresh(x:eX P w H h)(e:h.objs.size<=a):H a=none:=by
 cases q:H a with
 |none=>rfl
 |some u=>exact absurd (de (x.lt q) e) (ig _)
theorem eX.kept(x:eX P w H h)(k:∀b u,h.get? b=some u->h'.get? b=some u):eX P w H h':=λa o e=>
 (x a o e).stay (λb u _ q=>k b u q) (λ_ q=>q) λ_ _ q=>q
theorem eX.laid(x:eX P w H h)(k:∀b u,h.get? b=some u->h'.get? b=some u)(hp:h.objs.size<=a)(new:fJ P w (aK H a o) h' a o):eX P w (aK H a o) h':=λb u e=>by
 have hn:=x.fresh hp
 by_cases hb:b=a
 .subst hb;rw[dR]at e;cases e;exact new
 .rw[bH hb]at e
  exact(x b u e).stay (λc v _ q=>k c v q) (λc q=>by rw[bH (fW q hn)];exact q) λc xs q=>by rw[bH (fW q hn)];exact q
end
def Rd(H:Hp)(a:Addr)(u:HO):Prop:=H a=some u\/∃o,H a=some (.frz o u)
theorem Rd.ok{P:Program}{w:al}{H:Hp}{h:Heap}{a:Addr}{u:HO}(r:Rd H a u)(x:eX P w H h):fJ P w H h a u:=by
 rcases r with r |⟨o,r⟩
 .exact x a u r
 .obtain⟨_,q⟩:=x a _ r
  exact q
def xT:Option HO->Prop
 |some (.lst _)=>True
 |some (.dK _)=>True
 |some (.dT _)=>True
 |some (.set _ _)=>True
 |some (.ins _ _ _)=>True
 |some (.ext _)=>True
 |_=>False
section
variable{P:Program}{w:al}{H:Hp}{h h':Heap}{x e:Addr}{o':HO}
theorem eX.write(ok:eX P w H h)(mu:xT (H x))(he:e=x\/H e=some (.own x))(k:∀b u,b≠e->h.get? b=some u->h'.get? b=some u)(heo:∃u,h'.get? e=some u)
  (new:fJ P w (aK H x o') h' x o'):eX P w (aK H x o') h':=λb u q=>by
 have nown:∀c y,H c=some (.own y)->c≠x:=λc y r z=>by subst z;rw[r]at mu;exact mu
 have ntup:∀c xs,H c=some (.tup xs)->c≠x:=λc xs r z=>by subst z;rw[r]at mu;exact mu
 by_cases hb:b=x
 .subst hb;rw[dR]at q;cases q;exact new
 .rw[bH hb]at q
  by_cases hbe:b=e
  .have q':H b=some (.own x):=by
    rcases he with z |z
    .exact absurd (hbe.trans z) hb
    .rw[hbe];exact z
   rw[q]at q';cases q';obtain⟨v,hv⟩:=heo;exact⟨v,by rw[hbe];exact hv⟩
  .refine(ok b u q).stay (λc v hc r=>k c v ?_ r) (λc r=>by rw[bH (nown c b r)];exact r) λc xs r=>by rw[bH (ntup c xs r)];exact r
   rcases hc with rfl |hc
   .exact hbe
   .rintro rfl
    rcases he with z |z
    .exact nown c b hc z
    .rw[hc]at z;cases z;exact hb rfl
end
structure Un(fs ex:List Addr)(H H':Hp)(h h':Heap):Prop where
 keep:∀b o,h.get? b=some o->H b=none->b∉fs->b∉ex->h'.get? b=some o
 slot:∀b o,h.get? b=some o->H b=none->b∈fs->b∉ex->∃sl,h'.get? b=some {o with slots:=sl}
 free:∀b o,h.get? b=some o->H b=none->b∉ex->H' b=none
 there:∀b o,h.get? b=some o->b∉ex->∃o',h'.get? b=some o'
 tups:∀b xs,H b=some (.tup xs)->H' b=some (.tup xs)
 frzs:∀b o u,H b=some (.frz o u)->H' b=some (.frz o u)
 tbls:∀b ps,H b=some (.tbl ps)->∃more,H' b=some (.tbl (ps++more))
section
variable{fs fs' ex ex':List Addr}{H H1 H2:Hp}{h h1 h2 h':Heap}{a x e:Addr}{o:HO}
theorem Un.any(u:Un fs ex H H1 h h1){b:Addr}{ob:Obj}(q:h.get? b=some ob)(n:H b=none)(hx:b∉ex):∃sl,h1.get? b=some {ob with slots:=sl}:=by
 by_cases hb:b∈fs
 .exact u.slot b ob q n hb hx
 .exact⟨ob.slots,u.keep b ob q n hb hx⟩
theorem Un.trans(a:Un fs ex H H1 h h1)(b:Un fs ex H1 H2 h1 h2):Un fs ex H H2 h h2 where
 keep:=λc ob q n hc hx=>b.keep c ob (a.keep c ob q n hc hx) (a.free c ob q n hx) hc hx
 slot:=λc ob q n hc hx=>by
  obtain⟨sl,e1⟩:=a.slot c ob q n hc hx;obtain⟨sl',e2⟩:=b.slot c _ e1 (a.free c ob q n hx) hc hx;exact⟨sl',e2⟩
 free:=λc ob q n hx=>by
  obtain⟨o',e1⟩:=a.there c ob q hx;exact b.free c o' e1 (a.free c ob q n hx) hx
 there:=λc ob q hx=>by
  obtain⟨o',e1⟩:=a.there c ob q hx;exact b.there c o' e1 hx
 tups:=λc xs q=>b.tups c xs (a.tups c xs q)
 frzs:=λc ob xs q=>b.frzs c ob xs (a.frzs c ob xs q)
 tbls:=λc ps q=>by
  obtain⟨m1,e1⟩:=a.tbls c ps q;obtain⟨m2,e2⟩:=b.tbls c _ e1;exact⟨m1++m2,by rw[e2,yy]⟩
theorem Un.kept(k:∀b u,h.get? b=some u->h'.get? b=some u):Un fs ex H H h h':=
 ⟨λb ob q _ _ _=>k b ob q,λb ob q _ _ _=>⟨ob.slots,k b ob q⟩,λ_ _ _ n _=>n,λb ob q _=>⟨ob,k b ob q⟩,λ_ _ q=>q,λ_ _ _ q=>q,λ_ ps q=>⟨#[],by rw[q];simp⟩⟩
theorem Un.refl:Un fs ex H H h h:=Un.kept λ_ _ q=>q
theorem Un.laid(k:∀b u,h.get? b=some u->h'.get? b=some u)(hp:h.objs.size<=a)(hn:H a=none):Un fs ex H (aK H a o) h h' where
 keep:=λb u q _ _ _=>k b u q
 slot:=λb u q _ _ _=>⟨u.slots,k b u q⟩
 free:=λb u q n _=>by rw[bH (cr (de (ax q) hp))];exact n
 there:=λb u q _=>⟨u,k b u q⟩
 tups:=λb xs q=>by rw[bH (fW q hn)];exact q
 frzs:=λb u xs q=>by rw[bH (fW q hn)];exact q
 tbls:=λb ps q=>⟨#[],by rw[bH (fW q hn),q];simp⟩
theorem Un.write(mu:xT (H x))(he:e=x\/H e=some (.own x))(k:∀b u,b≠e->h.get? b=some u->h'.get? b=some u)(heo:∃u,h'.get? e=some u):Un fs ex H (aK H x o) h h':=by
 have hx:∀b,H b=none->b≠x:=λb n z=>by subst z;rw[n]at mu;exact mu
 have hb:∀b,H b=none->b≠e:=λb n z=>by
  subst z;rcases he with r |r
  .exact hx b n r
  .rw[n]at r;cases r
 have hm:∀b u,H b=some u->¬xT (some u)->b≠x:=λb u q nm z=>by subst z;rw[q]at mu;exact nm mu
 refine⟨λb u q n _ _=>k b u (hb b n) q,λb u q n _ _=>⟨u.slots,k b u (hb b n) q⟩,λb u q n _=>by rw[bH (hx b n)];exact n,λb u q _=>?_,
  λb xs q=>by rw[bH (hm b _ q λz=>z)];exact q,λb u xs q=>by rw[bH (hm b _ q λz=>z)];exact q,λb ps q=>⟨#[],by rw[bH (hm b _ q λz=>z),q];simp⟩⟩
 by_cases hbe:b=e
 .subst hbe;exact heo
 .exact⟨u,k b u hbe q⟩
end
def xR(h:Heap)(H:Hp):List Addr:=(az h.objs.size).filter λa=>(H a).isSome
def mE(h:Heap)(H:Hp):Heap:=uq h (xR h H)
theorem Ew(h:Heap)(H:Hp):(mE h H).objs.size=h.objs.size:=PySem.W.hideAll_size _ _
theorem Cy{h:Heap}{H:Hp}{b:Addr}{o:Obj}(e:h.get? b=some o)(n:H b=none):(mE h H).get? b=some o:=
 ur _ e λhm=>by
  have q:(H b).isSome=true:=(mx.mp hm).2;rw[n]at q;simp at q
theorem R6{h:Heap}{H:Hp}{b:Addr}{o:Obj}(e:(mE h H).get? b=some o):h.get? b=some o/\H b=none:=by
 have e':h.get? b=some o:=yz (xR h H) e;refine⟨e',?_⟩;cases q:H b with
 |none=>rfl
 |some x=>
  have hm:b∈xR h H:=mx.mpr ⟨uu.mpr (ax e'),by simp[q]⟩;have z:(mE h H).get? b=none:=PySem.W.hideAll_none (xR h H) hm;rw[z]at e;cases e
def U6(g h:Heap)(L:Addr):List (Addr×Obj):=(az h.objs.size).filterMap λa=>if a=L\/(g.get? a).isSome=true then none else(h.get? a).map λo=>(a,o)
def fR(g h:Heap)(L d:Addr):List (Addr×Obj):=(U6 g h L).filter λp=>decide (p.1≠d)
structure Mod(K:ag)(mg:Str->AE)(base:Heap):Prop where
 kin:K.In base
 glob:base.Ns mainGlobals mg
 blt:∃mb,base.Ns builtinsNs mb/\∀x:Str,x≠"__name__"->mb x=bootBuiltins x
 nolimit:base.NoLimit
structure Cx where
 prog:Program
 w:al
 K:ag
 mg:Str->AE
 base:Heap
 A:aq
 N:List Str
 AM:aa
 AN:Hp
 env:bh
 outer:List bh
 stack:List bh
 ex:List Addr
 fn:Str->Bool
 calm:Bool
 pn:List (Addr×Obj)
 xe:Value->aa->Prop
def eJ(l:List bh):List Addr:=l.filterMap (·.frame)
abbrev Cx.fs(X:Cx):List Addr:=eJ X.outer
def kG(sc:Scope)(x:Str):Prop:=sc.names.lookup x=some .local\/sc.names.lookup x=some .cell\/sc.names.lookup x=some .free
def kK(sc:Scope)(x:Str):Prop:=sc.names.lookup x=some .local\/sc.names.lookup x=some .cell
def acN(env:bh)(h:Heap)(m:Str->AE)(x:Str)(u:Value):Prop:=
 (env.kindOf x=some .local/\m x=some u)\/((env.kindOf x=some .cell\/env.kindOf x=some .free)/\∃c,env.cells.lookup x=some c/\h.IsCell c (some u))
structure Cx.Ok(X:Cx):Prop where
 mod:Mod X.K X.mg X.base
 kind:X.env.scope.kind=.function
 glob:X.env.globals=mainGlobals
 blt:X.env.builtins=builtinsNs
 above:X.AM.heap.objs.size<=X.env.locals
 inj:∀x y c,X.env.cells.lookup x=some c->X.env.cells.lookup y=some c->x=y
 has:∀x,(X.env.kindOf x=some .cell\/X.env.kindOf x=some .free)->∃c,X.env.cells.lookup x=some c
 cab:∀x c,X.fn x=true->X.env.cells.lookup x=some c->X.AM.heap.objs.size<=c
 hd:X.calm=true->X.A.handled=none
 frames:X.A.frames=some X.stack
 stk:X.stack=X.outer\/(X.stack=X.env::X.outer/\X.env.frame=some X.env.locals)
 exf:∀b∈X.ex,b≠X.env.locals/\∀x c,X.env.cells.lookup x=some c->c≠b
 bs:∀b o,X.base.get? b=some o->X.AM.heap.get? b=some o/\X.AN b=none
 bsz:X.base.objs.size<=X.AM.heap.objs.size
 noex:∀b o,X.base.get? b=some o->b∉X.ex
 exfs:∀b∈X.ex,b∉X.fs
 funs:X.AM.heap.FunFrames X.base X.outer
 frf:∀b∈X.fs,X.AN b=none
structure aF(X:Cx)(AL:List (Addr×Obj))(σ:List (Option V))(H:Hp)(s:aa):Prop where
 ok:X.Ok
 os:s.os=X.AM.os
 bare:jl s.gens
 base:Un X.fs X.ex X.AN H X.AM.heap s.heap
 loc:∃m,s.heap.Ns X.env.locals m/\∀(i:Nat)(x:Str)(v:V),X.N[i]?=some x->σ[i]?=some (some v)->kG X.env.scope x->∃u,bP v u/\acN X.env s.heap m x u
 cell:∀x c,X.env.cells.lookup x=some c->∃v,s.heap.IsCell c v
 free:H X.env.locals=none
 freeC:∀x c,X.env.cells.lookup x=some c->H c=none
 pin:∀p∈X.pn++AL,s.heap.get? p.1=some p.2/\H p.1=none/\p.1≠X.env.locals/\p.1∉X.fs/\∀v,p.2.data≠.cell v
 hok:eX X.prog X.w H s.heap
 len:σ.length=X.N.length
section
variable{X:Cx}{AL:List (Addr×Obj)}{σ:List (Option V)}{H H':Hp}{s:aa}{h':Heap}
theorem Cx.Ok.nofr(ok:X.Ok){b:Addr}{o:Obj}(e:X.base.get? b=some o):b∉X.fs:=λhb=>by
 have:=(ok.funs.mem hb).1;rw[e]at this;cases this
theorem aF.bs(I:aF X AL σ H s):∀b o,X.base.get? b=some o->s.heap.get? b=some o/\H b=none:=λb o e=>
 ⟨I.base.keep b o (I.ok.bs b o e).1 (I.ok.bs b o e).2 (I.ok.nofr e) (I.ok.noex b o e),I.base.free b o (I.ok.bs b o e).1 (I.ok.bs b o e).2 (I.ok.noex b o e)⟩
theorem aF.bk(I:aF X AL σ H s):∀b o,X.base.get? b=some o->s.heap.get? b=some o:=λb o e=>(I.bs b o e).1
theorem aF.mod(I:aF X AL σ H s):Mod X.K X.mg X.base:=I.ok.mod
theorem aF.kIn(I:aF X AL σ H s):X.K.In s.heap:=I.ok.mod.kin.keeps I.bk
theorem aF.lt(I:aF X AL σ H s):X.env.locals<s.heap.objs.size:=let⟨_,hn,_⟩:=I.loc;hn.lt
theorem aF.sz(I:aF X AL σ H s):X.AM.heap.objs.size<=s.heap.objs.size:=fh I.ok.above (om I.lt)
theorem aF.nofs(I:aF X AL σ H s){a:Addr}(h:s.heap.objs.size<=a):a∉X.fs:=λhb=>by
 obtain⟨_,o,ho,_⟩:=I.ok.funs.mem hb;exact absurd (de (ax ho) (fh I.sz h)) (ig _)
theorem aF.cne(I:aF X AL σ H s):∀x c,X.env.cells.lookup x=some c->c≠X.env.locals:=λx c e z=>by
 obtain⟨v,o,ho,hd⟩:=I.cell x c e;obtain⟨m,⟨o',es,ep,ho',hd',_⟩,_⟩:=I.loc;rw[z,ho']at ho;cases ho;rw[hd']at hd;cases hd
theorem aF.funs(I:aF X AL σ H s):s.heap.FunFrames X.base X.outer:=by
 have all:∀(l:List bh),(∀b∈eJ l,b∈X.fs)->X.AM.heap.FunFrames X.base l->s.heap.FunFrames X.base l:=by
  intro l
  induction l with
  |nil=>intro _ _;trivial
  |cons env r ih=>
   intro hs hl;obtain⟨hk,⟨L,o,hf,hn,ho,hd⟩,hr⟩:=hl;have hL:L∈X.fs:=hs L (by unfold eJ;rw[ij,hf];exact ay);obtain⟨sl,e⟩:=I.base.slot L o ho (I.ok.frf L hL) hL λz=>I.ok.exfs L z hL;exact⟨hk,⟨L,_,hf,hn,e,hd⟩,ih (λb hb=>hs b (by unfold eJ;rw[ij,hf];exact bn _ hb)) hr⟩
 exact all X.outer (λ_ hb=>hb) I.ok.funs
theorem aF.stack(I:aF X AL σ H s):s.heap.FunFrames X.base X.stack:=by
 rcases I.ok.stk with e |⟨e,hf⟩
 .rw[e];exact I.funs
 .rw[e]
  obtain⟨m,hn,_⟩:=I.loc;refine .cons (by rw[I.ok.kind];decide) hf hn ?_ I.funs;exact Heap.get?_none_of_le (fh I.ok.bsz I.ok.above)
theorem aF.stkSub(I:aF X AL σ H s):∀b∈eJ X.stack,b∈X.env.locals::X.fs:=λb hb=>by
 rcases I.ok.stk with e |⟨e,hf⟩
 .rw[e]at hb;exact bn _ hb
 .rw[e]at hb
  unfold eJ at hb;rw[ij,hf]at hb;exact hb
theorem aF.stkFree(I:aF X AL σ H s):∀b∈eJ X.stack,H b=none:=λb hb=>by
 rcases ci.mp (I.stkSub b hb)with e |hb
 .rw[e];exact I.free
 .obtain⟨_,o,ho,_⟩:=I.ok.funs.mem hb
  exact I.base.free b o ho (I.ok.frf b hb) λz=>I.ok.exfs b z hb
theorem aF.step{g':Array GenState}{t':Nat}{d':Drawn}{ch:List Addr}(I:aF X AL σ H s)
  (hch:∀b∈ch,(b∈X.ex\/X.AM.heap.objs.size<=b)/\b≠X.env.locals/\(∀x c,X.env.cells.lookup x=some c->c≠b)/\∀p∈X.pn++AL,p.1≠b)
  (keep:∀b o,b≠X.env.locals->b∉X.fs->b∉ch->s.heap.get? b=some o->H b=none->h'.get? b=some o)
  (slot:∀b o,b≠X.env.locals->b∈X.fs->b∉ch->s.heap.get? b=some o->H b=none->∃sl,h'.get? b=some {o with slots:=sl})(free:∀b o,b∉ch->s.heap.get? b=some o->H b=none->H' b=none)
  (there:∀b o,b∉ch->s.heap.get? b=some o->∃o',h'.get? b=some o')
  (tups:∀b xs,H b=some (.tup xs)->H' b=some (.tup xs))(frzs:∀b o u,H b=some (.frz o u)->H' b=some (.frz o u))(tbls:∀b ps,H b=some (.tbl ps)->∃more,H' b=some (.tbl (ps++more)))
  (ns:∀m,s.heap.Ns X.env.locals m->h'.Ns X.env.locals m)(hok:eX X.prog X.w H' h')(hg:jl g'):
  aF X AL σ H' {s with heap:=h',gens:=g',drawn:=d',toks:=t'}:=by
 have neL:∀b o,X.AM.heap.get? b=some o->b≠X.env.locals:=λb o e=>cr (de (ax e) I.ok.above);have neC:∀b o,X.AM.heap.get? b=some o->b∉X.ex->b∉ch:=λb o e hx hb=>by
  rcases(hch b hb).1 with z |z
  .exact hx z
  .exact absurd (de (ax e) z) (ig _)
 have cellK:∀x c,X.env.cells.lookup x=some c->∀v,s.heap.IsCell c v->h'.IsCell c v:=λx c e v ⟨o,ho,hd⟩=>by
  have nch:c∉ch:=λz=>(hch c z).2.2.1 x c e rfl
  by_cases hc:c∈X.fs
  .obtain⟨sl,q⟩:=slot c o (I.cne x c e) hc nch ho (I.freeC x c e)
   exact⟨_,q,hd⟩
  .exact⟨o,keep c o (I.cne x c e) hc nch ho (I.freeC x c e),hd⟩
 refine⟨I.ok,I.os,hg,⟨λb o e n hb hx=>?_,λb o e n hb hx=>?_,λb o e n hx=>?_,λb o e hx=>?_,λb xs e=>tups b xs (I.base.tups b xs e),λb o xs e=>frzs b o xs (I.base.frzs b o xs e),λb ps e=>?_⟩,?_,λx c e=>?_,?_,λx c e=>?_,λp hp=>?_,hok,I.len⟩
 .exact keep b o (neL b o e) hb (neC b o e hx) (I.base.keep b o e n hb hx) (I.base.free b o e n hx)
 .obtain⟨sl,e1⟩:=I.base.slot b o e n hb hx
  obtain⟨sl',e2⟩:=slot b _ (neL b o e) hb (neC b o e hx) e1 (I.base.free b o e n hx);exact⟨sl',e2⟩
 .obtain⟨o',e1⟩:=I.base.there b o e hx
  exact free b o' (neC b o e hx) e1 (I.base.free b o e n hx)
 .obtain⟨o',e1⟩:=I.base.there b o e hx
  exact there b o' (neC b o e hx) e1
 .obtain⟨m1,e1⟩:=I.base.tbls b ps e
  obtain⟨m2,e2⟩:=tbls b _ e1;exact⟨m1++m2,by rw[e2,yy]⟩
 .obtain⟨m,hn,hl⟩:=I.loc
  refine⟨m,ns m hn,λi x v e1 e2 e3=>?_⟩;obtain⟨u,r,l⟩:=hl i x v e1 e2 e3;refine⟨u,r,?_⟩;rcases l with l |⟨k,c,e,z⟩
  .exact .inl l
  .exact .inr ⟨k,c,e,cellK x c e _ z⟩
 .obtain⟨v,z⟩:=I.cell x c e
  exact⟨v,cellK x c e v z⟩
 .obtain⟨m,⟨o,_,_,ho,_⟩,_⟩:=I.loc
  exact free _ o (λz=>(hch _ z).2.1 rfl) ho I.free
 .obtain⟨v,o,ho,hd⟩:=I.cell x c e
  exact free c o (λz=>(hch c z).2.2.1 x c e rfl) ho (I.freeC x c e)
 .obtain⟨e,n,ne,nf,d⟩:=I.pin p hp
  have nch:p.1∉ch:=λz=>(hch p.1 z).2.2.2 p hp rfl;exact⟨keep p.1 p.2 ne nf nch e n,free p.1 p.2 nch e n,ne,nf,d⟩
theorem aF.un{t':Nat}(I:aF X AL σ H s)(u:Un X.fs [] H H' s.heap h')(hok:eX X.prog X.w H' h'):aF X AL σ H' {s with heap:=h',toks:=t'}:=by
 obtain⟨m,⟨o,es,ep,ho,r⟩,_⟩:=id I.loc;obtain⟨sl,hL⟩:=u.any ho I.free (by simp);exact I.step (g':=s.gens) (d':=s.drawn) (ch:=[]) (λ_ z=>nomatch z) (λb o _ hb _ e n=>u.keep b o e n hb (by simp)) (λb o _ hb _ e n=>u.slot b o e n hb (by simp)) (λb o _ e n=>u.free b o e n (by simp)) (λb o _ e=>u.there b o e (by simp)) u.tups u.frzs u.tbls (λm' hm=>by
  obtain⟨o',es',ep',ho',r'⟩:=hm;rw[ho]at ho';cases ho';exact⟨_,es',ep',hL,r'⟩) hok I.bare
theorem aF.call{g':Array GenState}{t':Nat}{d':Drawn}{ch:List Addr}(I:aF X AL σ H s)(u:Un (eJ X.stack) ch H H' s.heap h')(hok:eX X.prog X.w H' h')(hg:jl g')
  (hch:∀b∈ch,(b∈X.ex\/X.AM.heap.objs.size<=b)/\b≠X.env.locals/\(∀x c,X.env.cells.lookup x=some c->c≠b)/\∀p∈X.pn++AL,p.1≠b):
  aF X AL σ H' {s with heap:=h',gens:=g',drawn:=d',toks:=t'}:=by
 obtain⟨m,⟨o,es,ep,ho,r⟩,_⟩:=id I.loc;obtain⟨sl,hL⟩:=u.any ho I.free λz=>(hch _ z).2.1 rfl;exact I.step (ch:=ch) hch (λb o hL hb hc e n=>u.keep b o e n (λz=>(ci.mp (I.stkSub b z)).elim hL hb) hc) (λb o _ _ hc e n=>u.any e n hc) (λb o hc e n=>u.free b o e n hc) (λb o hc e=>u.there b o e hc) u.tups u.frzs u.tbls (λm' hm=>by
  obtain⟨o',es',ep',ho',r'⟩:=hm;rw[ho]at ho';cases ho';exact⟨_,es',ep',hL,r'⟩) hok hg
theorem aF.turned{t':Nat}{it:Addr}(I:aF X AL σ H s)(k:∀b o,b≠it->s.heap.get? b=some o->h'.get? b=some o)(hn:H it=none)(hL:it≠X.env.locals)
  (h1:it∈X.ex\/X.AM.heap.objs.size<=it)(h2:∀x c,X.env.cells.lookup x=some c->c≠it)(h3:∀p∈X.pn++AL,p.1≠it):aF X AL σ H {s with heap:=h',toks:=t'}:=by
 have nit:∀b u,H b=some u->b≠it:=λb u e z=>by rw[z,hn]at e;cases e
 refine I.step (g':=s.gens) (d':=s.drawn) (ch:=[it]) (λb hb=>?_) (λb o _ _ hc e _=>k b o (λz=>hc (by simp[z])) e) (λb o _ _ hc e _=>⟨o.slots,k b o (λz=>hc (by simp[z])) e⟩) (λ_ _ _ _ n=>n)
  (λb o hc e=>⟨o,k b o (λz=>hc (by simp[z])) e⟩) (λ_ _ e=>e) (λ_ _ _ e=>e) (λb ps e=>⟨#[],by rw[e];simp⟩) (λm hm=>?_) (λb u e=>?_) I.bare
 .have e:b=it:=by simpa using hb
  subst e;exact⟨h1,hL,h2,h3⟩
 .obtain⟨o,es,ep,ho,r⟩:=hm
  exact⟨o,es,ep,k _ o (ik hL) ho,r⟩
 .refine(I.hok b u e).stay (λc v hc q=>k c v ?_ q) (λ_ q=>q) λ_ _ q=>q
  rcases hc with z |z
  .rw[z];exact nit b u e
  .exact nit c _ z
theorem aF.tok(I:aF X AL σ H s)(t:Nat):aF X AL σ H {s with toks:=t}:=I.un (h':=s.heap) (t':=t) Un.refl I.hok
theorem aF.kept{t':Nat}(I:aF X AL σ H s)(k:∀b u,s.heap.get? b=some u->h'.get? b=some u):aF X AL σ H {s with heap:=h',toks:=t'}:=I.un (Un.kept k) (I.hok.kept k)
theorem aF.laid{a:Addr}{o:HO}{t':Nat}(I:aF X AL σ H s)(k:∀b u,s.heap.get? b=some u->h'.get? b=some u)(hp:s.heap.objs.size<=a)(new:fJ X.prog X.w (aK H a o) h' a o):
  aF X AL σ (aK H a o) {s with heap:=h',toks:=t'}:=I.un (Un.laid k hp (I.hok.fresh hp)) (I.hok.laid k hp new)
theorem aF.write{x e:Addr}{o:HO}{t':Nat}(I:aF X AL σ H s)(mu:xT (H x))(he:e=x\/H e=some (.own x))(k:∀b u,b≠e->s.heap.get? b=some u->h'.get? b=some u)(heo:∃u,h'.get? e=some u)
  (new:fJ X.prog X.w (aK H x o) h' x o):aF X AL σ (aK H x o) {s with heap:=h',toks:=t'}:=I.un (Un.write mu he k heo) (I.hok.write mu he k heo new)
theorem aF.pins_of{pins':List (Addr×Obj)}(I:aF X AL σ H s)(h:∀p∈pins',s.heap.get? p.1=some p.2/\H p.1=none/\p.1≠X.env.locals/\p.1∉X.fs/\∀v,p.2.data≠.cell v):aF X pins' σ H s:=
 ⟨I.ok,I.os,I.bare,I.base,I.loc,I.cell,I.free,I.freeC,λp hp=>(cj.mp hp).elim (λz=>I.pin p (kw _ z)) (h p),I.hok,I.len⟩
theorem Dk{N:List Str}(hN:N.Nodup){i j:Nat}{x:Str}(a:N[i]?=some x)(b:N[j]?=some x):i=j:=by
 obtain⟨h1,e1⟩:=bo.mp a;obtain⟨h2,e2⟩:=bo.mp b;exact(List.getElem_inj hN).mp (e1.trans e2.symm)
theorem Bw{M:kx}{A:aq}{E:Value->aa->Prop}{i:Nat}{x:Str}{v:V}{u:Value}{Q:Unit->aa->Prop}(I:aF X AL σ H s)(hN:X.N.Nodup)(hi:X.N[i]?=some x)(hx:kK X.env.scope x)(r:bP v u)
  (h:∀s',aF X AL (σ.set i (some v)) H s'->(∃a,il a s.heap s'.heap/\(a=X.env.locals\/X.env.cells.lookup x=some a))->Q () s')(hf:X.fn x=true\/X.env.scope.names.lookup x=some .local:=by first |exact .inl rfl |exact .inr rfl |assumption):wpAny M A (storeName X.env x u) Q E s:=by
 obtain⟨m,hn,hl⟩:=id I.loc;have hcls:(X.env.scope.kind== .class||(X.env.scope.kind== .module&&X.env.locals !=X.env.globals))=false:=by rw[I.ok.kind];rfl
 have hiσ:i<σ.length:=by rw[I.len];exact(bo.mp hi).1
 have cne:=I.cne;have tracked:∀{a:Addr}{h':Heap},(∃o,s.heap.get? a=some o/\H a=none)->il a s.heap h'->eX X.prog X.w H h':=λ{a h'} ha hs b ob e=>by
  obtain⟨_,_,hfree⟩:=ha;refine(I.hok b ob e).stay (λc w' hc q=>(hs.2 c ?_).trans q) (λ_ q=>q) λ_ _ q=>q
  rintro rfl
  rcases hc with rfl |hc
  .rw[hfree]at e;cases e
  .rw[hfree]at hc;cases hc
 rcases hx with hk |hk
 .refine wpAny_storeName_local hk hn (λh' hn' hs=>?_) hcls
  obtain⟨oL,_,_,hoL,_⟩:=id hn;refine h _ ⟨I.ok,I.os,I.bare,⟨λb o e n hb hx=>?_,λb o e n hb hx=>?_,I.base.free,λb o e hx=>?_,I.base.tups,I.base.frzs,I.base.tbls⟩,⟨_,hn',λj y v' e1 e2 e3=>?_⟩,λy c e=>?_,I.free,I.freeC,λp hp=>?_,tracked ⟨oL,hoL,I.free⟩ hs,by simpa using I.len⟩ ⟨_,hs,.inl rfl⟩
  .exact(hs.2 b (cr (de (ax e) I.ok.above))).trans (I.base.keep b o e n hb hx)
  .obtain⟨sl,e1⟩:=I.base.slot b o e n hb hx
   exact⟨sl,(hs.2 b (cr (de (ax e) I.ok.above))).trans e1⟩
  .obtain⟨o',e1⟩:=I.base.there b o e hx
   exact⟨o',(hs.2 b (cr (de (ax e) I.ok.above))).trans e1⟩
  .by_cases hj:j=i
   .subst hj
    rw[hi]at e1;cases e1;rw[dr hiσ]at e2;cases e2;exact⟨u,r,.inl ⟨hk,by simp⟩⟩
   .rw[fe (ik hj)]at e2
    obtain⟨u',r',q⟩:=hl j y v' e1 e2 e3;refine⟨u',r',?_⟩;rcases q with⟨k,e⟩|⟨k,c,e,z⟩
    .refine .inl ⟨k,?_⟩
     have:y≠x:=λe=>hj (Dk hN e1 (e▸hi));simp[this,e]
    .exact .inr ⟨k,c,e,z.sameBut hs (cne y c e)⟩
  .obtain⟨w',z⟩:=I.cell y c e
   exact⟨w',z.sameBut hs (cne y c e)⟩
  .obtain⟨e,n,ne,nf,d⟩:=I.pin p hp
   exact⟨(hs.2 p.1 ne).trans e,n,ne,nf,d⟩
 .have hfn:X.fn x=true:=by
   rcases hf with z |z
   .exact z
   .rw[z]at hk;cases hk
  obtain⟨c,hc⟩:=I.ok.has x (.inl hk);obtain⟨w',z⟩:=I.cell x c hc;refine wpAny_storeName_cell I.ok.kind hk hc z (λh' hc' hs=>?_);obtain⟨oc,hoc,hocd⟩:=id z;refine h {s with heap:=h'} ⟨I.ok,I.os,I.bare,⟨λb o e n hb hx=>?_,λb o e n hb hx=>?_,I.base.free,λb o e hx=>?_,I.base.tups,I.base.frzs,I.base.tbls⟩,⟨m,hn.sameBut hs (ik (cne x c hc)),λj y v' e1 e2 e3=>?_⟩,λy c' e=>?_,I.free,I.freeC,λp hp=>?_,tracked ⟨oc,hoc,I.freeC x c hc⟩ hs,by simpa using I.len⟩ ⟨c,hs,.inr hc⟩
  .exact(hs.2 b (cr (de (ax e) (I.ok.cab x c hfn hc)))).trans (I.base.keep b o e n hb hx)
  .obtain⟨sl,e1⟩:=I.base.slot b o e n hb hx
   exact⟨sl,(hs.2 b (cr (de (ax e) (I.ok.cab x c hfn hc)))).trans e1⟩
  .obtain⟨o',e1⟩:=I.base.there b o e hx
   exact⟨o',(hs.2 b (cr (de (ax e) (I.ok.cab x c hfn hc)))).trans e1⟩
  .by_cases hj:j=i
   .subst hj
    rw[hi]at e1;cases e1;rw[dr hiσ]at e2;cases e2;exact⟨u,r,.inr ⟨.inl hk,c,hc,hc'⟩⟩
   .rw[fe (ik hj)]at e2
    obtain⟨u',r',q⟩:=hl j y v' e1 e2 e3;refine⟨u',r',?_⟩;rcases q with q |⟨k,c',e,z'⟩
    .exact .inl q
    .refine .inr ⟨k,c',e,z'.sameBut hs ?_⟩
     rintro rfl
     exact hj (Dk hN e1 (I.ok.inj _ _ _ e hc▸hi))
  .by_cases hcc:c'=c
   .subst hcc;exact⟨_,hc'⟩
   .obtain⟨w2,z2⟩:=I.cell y c' e
    exact⟨w2,z2.sameBut hs hcc⟩
  .obtain⟨e,n,ne,nf,d⟩:=I.pin p hp
   refine⟨(hs.2 p.1 ?_).trans e,n,ne,nf,d⟩;intro q;rw[q,hoc]at e;have q':oc=p.2:=ce e;exact d w' (by rw[<-q'];exact hocd)
theorem pR{M:kx}{A:aq}{E:Value->aa->Prop}{i:Nat}{x:Str}{v:V}{u:Value}{Q:Unit->aa->Prop}(I:aF X AL σ H s)(hN:X.N.Nodup)(hi:X.N[i]?=some x)(hx:kK X.env.scope x)(r:bP v u)
  (h:∀s',aF X AL (σ.set i (some v)) H s'->Q () s')(hf:X.fn x=true\/X.env.scope.names.lookup x=some .local:=by first |exact .inl rfl |exact .inr rfl |assumption):wpAny M A (storeName X.env x u) Q E s:=
 Bw I hN hi hx r (λs' I' _=>h s' I') hf
theorem aF.call'{s':aa}{ch:List Addr}(I:aF X AL σ H s)(ho:s'.os=s.os)(u:Un (eJ X.stack) ch H H' s.heap s'.heap)(hok:eX X.prog X.w H' s'.heap)(hg:jl s'.gens)
  (hch:∀b∈ch,(b∈X.ex\/X.AM.heap.objs.size<=b)/\b≠X.env.locals/\(∀x c,X.env.cells.lookup x=some c->c≠b)/\∀p∈X.pn++AL,p.1≠b):aF X AL σ H' s':=by
 obtain⟨h',g',d',t',o'⟩:=s';have e:o'=s.os:=ho;subst e;exact I.call (g':=g') (t':=t') (d':=d') u hok hg hch
end
abbrev XK:=Value->AF->Hp->Prop
abbrev St:=List (Option V)
abbrev VK:=V->Hp->Prop
abbrev TE:=St->Hp->VK->Prop
abbrev TT:=St->Hp->(Bool->Hp->Prop)->Prop
abbrev TA:=St->Hp->(List V->Hp->Prop)->Prop
structure lV where
 nx:St->Hp->Prop
 rt:VK
 bk:St->Hp->Prop:=λ_ _=>False
 ct:St->Hp->Prop:=λ_ _=>False
abbrev TS:=lV->St->Hp->Prop
def EP(X:Cx)(AL:List (Addr×Obj))(σ:St)(Q:VK)(u:Value)(s':aa):Prop:=∃v H',aF X AL σ H' s'/\bP v u/\Q v H'
def TP(X:Cx)(AL:List (Addr×Obj))(σ:St)(Q:Bool->Hp->Prop)(b:Bool)(s':aa):Prop:=∃H',aF X AL σ H' s'/\Q b H'
def AP(X:Cx)(AL:List (Addr×Obj))(σ:St)(Q:List V->Hp->Prop)(us:AD)(s':aa):Prop:=∃vs H',aF X AL σ H' s'/\aX vs us/\Q vs H'
def SP(X:Cx)(AL:List (Addr×Obj))(D:lV)(f:Flow)(s':aa):Prop:=
 match f with
 |.next=>∃σ' H',aF X AL σ' H' s'/\D.nx σ' H'
 |.brk=>∃σ' H',aF X AL σ' H' s'/\D.bk σ' H'
 |.cont=>∃σ' H',aF X AL σ' H' s'/\D.ct σ' H'
 |.ret u=>∃v σ' H',aF X AL σ' H' s'/\bP v u/\D.rt v H'
def PE(X:Cx)(e:ah)(t:TE):Prop:=
 ∀(AL:List (Addr×Obj))(s:aa)(σ:St)(H:Hp)(Q:VK),aF X AL σ H s->t σ H Q->wpAny (model X.prog X.w) X.A (eval e X.env) (EP X AL σ Q) X.xe s
def PT(X:Cx)(e:ah)(t:TT):Prop:=
 ∀(AL:List (Addr×Obj))(s:aa)(σ:St)(H:Hp)(Q:Bool->Hp->Prop),aF X AL σ H s->t σ H Q->wpAny (model X.prog X.w) X.A (isTrue e X.env (eval e X.env)) (TP X AL σ Q) X.xe s
def PW(X:Cx)(e:ah)(t:TT):Prop:=
 ∀(whole:Sem Value)(AL:List (Addr×Obj))(s:aa)(σ:St)(H:Hp)(Q:Bool->Hp->Prop),aF X AL σ H s->t σ H Q->wpAny (model X.prog X.w) X.A (isTrue e X.env whole) (TP X AL σ Q) X.xe s
theorem PW.pt{X:Cx}{e:ah}{t:TT}(h:PW X e t):PT X e t:=h _
def PA(X:Cx)(es:List ah)(t:TA):Prop:=
 ∀(pos:ai)(AL:List (Addr×Obj))(s:aa)(σ:St)(H:Hp)(Q:List V->Hp->Prop),aF X AL σ H s->t σ H Q->wpAny (model X.prog X.w) X.A (spliced (backTo pos (starEach es X.env))) (AP X AL σ Q) X.xe s
def PS(X:Cx)(st:Stmt)(t:TS):Prop:=
 ∀(AL:List (Addr×Obj))(s:aa)(σ:St)(H:Hp)(D:lV),aF X AL σ H s->t D σ H->wpAny (model X.prog X.w) X.A (exec st X.env) (SP X AL D) X.xe s
def gB(X:Cx)(st:List Stmt)(t:TS):Prop:=
 ∀(AL:List (Addr×Obj))(s:aa)(σ:St)(H:Hp)(D:lV),aF X AL σ H s->t D σ H->wpAny (model X.prog X.w) X.A (execs st X.env) (SP X AL D) X.xe s
theorem bC{α:Type}{t:Sem α}{Q Q':α->aa->Prop}{M:kx}{A:aq}{E:Value->aa->Prop}{s:aa}(h:wpAny M A t Q E s)(hQ:∀a s,Q a s->Q' a s):wpAny M A t Q' E s:=fj h hQ λ_ _ x=>x
section
variable{X:Cx}
theorem bin{a b:ah}{ta tb:TE}(ha:PE X a ta)(hb:PE X b tb){AL:List (Addr×Obj)}{s:aa}{σ:St}{H:Hp}{R:V->V->Hp->Prop}(I:aF X AL σ H s)(h:ta σ H λx H1=>tb σ H1 λy H2=>R x y H2)
  {α:Type}{Q:α->aa->Prop}{f:Value->Value->Sem α}
  (hf:∀v u s2 x y H2,aF X AL σ H2 s2->bP x v->bP y u->R x y H2->wpAny (model X.prog X.w) X.A (f v u) Q X.xe s2):
  wpAny (model X.prog X.w) X.A (eval a X.env) (λv AO=>wpAny (model X.prog X.w) X.A (eval b X.env) (λu AS=>wpAny (model X.prog X.w) X.A (f v u) Q X.xe AS) X.xe AO) X.xe s:=by
 refine bC (ha AL s σ H _ I h) ?_
 rintro v s1 ⟨x,H1,I1,r1,q1⟩
 refine bC (hb AL s1 σ H1 _ I1 q1) ?_
 rintro u s2 ⟨y,H2,I2,r2,q2⟩
 exact hf v u s2 x y H2 I2 r1 r2 q2
def Nr(i:Nat):TE:=λσ H Q=>∃v,σ[i]?=some (some v)/\Q v H
def tC(v:V):TE:=λ_ H Q=>Q v H
theorem kS{i:Nat}{x:Str}{pos:ai}(hN:X.N[i]?=some x)(hv:kG X.env.scope x)(hd:(x==("__debug__":Str))=false:=by decide)(hcd:(x==("__classdict__":Str))=false:=by decide):PE X (.Name x pos) (Nr i):=by
 intro AL s σ H Q I h;obtain⟨v,e,h⟩:=h;obtain⟨m,hn,hl⟩:=I.loc;obtain⟨u,r,l⟩:=hl i x v hN e hv;have fin:EP X AL σ Q u s:=⟨v,H,I,r,h⟩;rcases l with⟨hk,hm⟩|⟨hk,c,hc,hcell⟩
 .exact uv (za I.ok.kind hk hn hm fin) hd
 .rcases hk with hk |hk
  .exact uv (zb I.ok.kind hk hc hcell fin) hd
  .exact uv (wpAny_loadName_free I.ok.kind hk hc hcell fin hcd) hd
theorem vR{i j pos}:PE X (.Constant (.int i) j pos) (tC (.int i)):=λ_ _ _ H _ I h=>wpAny_Constant_int ⟨.int i,H,I.tok _,⟨_,rfl⟩,h⟩
theorem acd{b j pos}:PE X (.Constant (.bool b) j pos) (tC (.bl b)):=λ_ _ _ H _ I h=>Constant_bool ⟨.bl b,H,I,rfl,h⟩
theorem X4{x j pos}:PE X (.Constant (.str x) j pos) (tC (.str x)):=λ_ _ _ H _ I h=>Calls.Constant_str ⟨.str x,H,I.tok _,⟨_,rfl⟩,h⟩
def Gl(X:Cx)(x:Str):Prop:=X.env.kindOf x=some .globalImplicit
theorem Ab{E:Value->aa->Prop}{AL:List (Addr×Obj)}{s:aa}{σ:St}{H:Hp}{x:Str}{u:Value}{pos:ai}{Q:Value->aa->Prop}(I:aF X AL σ H s)(hg:Gl X x)(hm:X.mg x=some u)(h:Q u s)
  (hd:(x==("__debug__":Str))=false:=by decide):wpAny (model X.prog X.w) X.A (eval (.Name x pos) X.env) Q E s:=
 zc I.ok.kind hg (Calls.loadGlobal_global (by rw[I.ok.glob];exact I.mod.glob.keeps I.bk) hm h) hd
theorem oH{E:Value->aa->Prop}{AL:List (Addr×Obj)}{s:aa}{σ:St}{H:Hp}{x:Str}{u:Value}{pos:ai}{Q:Value->aa->Prop}(I:aF X AL σ H s)(hg:Gl X x)(hm:X.mg x=none)(hv:bootBuiltins x=some u)(h:Q u s)
  (hn:x≠"__name__":=by decide)(hd:(x==("__debug__":Str))=false:=by decide):wpAny (model X.prog X.w) X.A (eval (.Name x pos) X.env) Q E s:=by
 obtain⟨mb,h1,h2⟩:=I.mod.blt;exact zc I.ok.kind hg (Calls.loadGlobal_builtin (by rw[I.ok.glob];exact I.mod.glob.keeps I.bk) hm (by rw[I.ok.blt];exact h1.keeps I.bk) ((h2 x hn).trans hv) h) hd
theorem K8{x:Str}{v:V}{u:Value}{pos:ai}(hg:Gl X x)(hm:X.mg x=some u)(r:bP v u)(hd:(x==("__debug__":Str))=false:=by decide):PE X (.Name x pos) (tC v):=
 λ_ _ _ H _ I h=>Ab I hg hm ⟨v,H,I,r,h⟩ hd
theorem Ml{x:Str}{v:V}{u:Value}{pos:ai}(hg:Gl X x)(hm:X.mg x=none)(hv:bootBuiltins x=some u)(r:bP v u)(hn:x≠"__name__":=by decide)(hd:(x==("__debug__":Str))=false:=by decide):PE X (.Name x pos) (tC v):=
 λ_ _ _ H _ I h=>oH I hg hm hv ⟨v,H,I,r,h⟩ hn hd
variable{a b:ah}{ta tb:TE}{pos:ai}
def PC(X:Cx)(op:kh)(a b:ah)(t:TE):Prop:=
 ∀(AL:List (Addr×Obj))(s:aa)(σ:St)(H:Hp)(Q:VK),aF X AL σ H s->t σ H Q->
  wpAny (model X.prog X.w) X.A (eval a X.env) (λv AO=>wpAny (model X.prog X.w) X.A (eval b X.env) (λu AS=>wpAny (model X.prog X.w) X.A (compareOp op v u) (EP X AL σ Q) X.xe AS) X.xe AO) X.xe s
theorem B6(b:ah){op:kh}(h:op≠.In)(h2:op≠.NotIn):behindInMarks op b=false:=by
 have e1:(op==CmpOp.In)=false:=by cases op<;>first |rfl |exact absurd rfl h
 have e2:(op==CmpOp.NotIn)=false:=by cases op<;>first |rfl |exact absurd rfl h2
 cases b<;>simp[behindInMarks,e1,e2]
def tB(t:TE):TT:=λσ H Q=>t σ H λx H1=>∃c,x=.bl c/\Q c H1
theorem acf{op:kh}{t:TE}(h:PC X op a b t)(h1:behindInMarks op b=false:=by first |exact B6 _ (by decide) (by decide) |rfl):PT X (.Compare a [op] [b] pos) (tB t):=by
 intro AL s σ H Q I hw;refine zd (bC (h AL s σ H _ I hw) λv s1 h1=>bC h1 λu s2 h2=>bC h2 λc s3 hq=>?_) h1;rcases hq with⟨x,H1,I1,r1,q1⟩;obtain⟨d,rfl,q⟩:=q1;cases r1;exact ky ⟨H1,I1,q⟩
theorem aa3{e:ah}{t:TE}(h:PE X e t)(he:∀whole,isTrue e X.env whole=(do let v <-whole;standAt e.pos;holding [v] (truthy v)):=by intro _;rfl):PT X e (tB t):=by
 intro AL s σ H Q I hw;refine isTrue_plain (bC (h AL s σ H _ I hw) λv s1 hq=>?_) (he _);rcases hq with⟨x,H1,I1,r1,q1⟩;obtain⟨d,rfl,q⟩:=q1;cases r1;exact ky ⟨H1,I1,q⟩
variable{tA tB':TT}{fR:List ah}
def acz(t u:TT):TT:=λσ H Q=>t σ H λc H1=>if c=true then u σ H1 Q else Q false H1
def tOr(t u:TT):TT:=λσ H Q=>t σ H λc H1=>if c=true then Q true H1 else u σ H1 Q
def acC(t:TT):TT:=λσ H Q=>t σ H λc H1=>Q (!c) H1
theorem P6(ha:PT X a tA):PW X (.BoolOp .And [a] pos) tA:=by
 intro wh AL s σ H Q I h;refine isTrue_and (bC (ha AL s σ H Q I h) λc s1 e=>?_);cases c with
 |true=>exact isTrue_and_nil e
 |false=>exact e
theorem aaK(ha:PT X a tA):PW X (.BoolOp .Or [a] pos) tA:=by
 intro wh AL s σ H Q I h;refine isTrue_or (bC (ha AL s σ H Q I h) λc s1 e=>?_);cases c with
 |false=>exact isTrue_or_nil e
 |true=>exact e
theorem aaZ(ha:PT X a tA)(hb:PW X (.BoolOp .And (b::fR) pos) tB'):PW X (.BoolOp .And (a::b::fR) pos) (acz tA tB'):=by
 intro wh AL s σ H Q I h;refine isTrue_and (bC (ha AL s σ H _ I h) λc s1 hq=>?_);rcases hq with⟨H1,I1,q1⟩;cases c with
 |true=>exact hb wh AL s1 σ H1 Q I1 q1
 |false=>exact⟨H1,I1,q1⟩
theorem abO(ha:PT X a tA)(hb:PW X (.BoolOp .Or (b::fR) pos) tB'):PW X (.BoolOp .Or (a::b::fR) pos) (tOr tA tB'):=by
 intro wh AL s σ H Q I h;refine isTrue_or (bC (ha AL s σ H _ I h) λc s1 hq=>?_);rcases hq with⟨H1,I1,q1⟩;cases c with
 |true=>exact⟨H1,I1,q1⟩
 |false=>exact hb wh AL s1 σ H1 Q I1 q1
theorem aan(ha:PT X a tA):PT X (.UnaryOp .Not a pos) (acC tA):=by
 intro AL s σ H Q I h;exact isTrue_not (ha AL s σ H (λc H1=>Q (!c) H1) I h)
def abw(ta tb:TE):TE:=λσ H Q=>ta σ H λx H1=>∃c,x=.bl c/\if c=true then tb σ H1 Q else Q (.bl false) H1
def ab5(ta:TE):TE:=λσ H Q=>ta σ H λx H1=>∃c,x=.bl c/\Q (.bl (!c)) H1
theorem aah(ha:PE X a ta)(hb:PE X (.BoolOp .And (b::fR) pos) tb):PE X (.BoolOp .And (a::b::fR) pos) (abw ta tb):=by
 intro AL s σ H Q I h;refine BoolOp_and (bC (ha AL s σ H _ I h) λv s1 hq=>?_);rcases hq with⟨x,H1,I1,r1,q1⟩;obtain⟨c,rfl,q1⟩:=q1;cases r1;refine ky ?_;cases c with
 |true=>exact hb AL s1 σ H1 Q I1 q1
 |false=>exact⟨.bl false,H1,I1,rfl,q1⟩
theorem aaW(ha:PE X a ta):PE X (.UnaryOp .Not a pos) (ab5 ta):=by
 intro AL s σ H Q I h;refine UnaryOp_ (bC (ha AL s σ H _ I h) λv s1 hq=>?_);rcases hq with⟨x,H1,I1,r1,q1⟩;obtain⟨c,rfl,q1⟩:=q1;cases r1;exact not_of (ky ⟨.bl (!c),H1,I1,rfl,q1⟩)
def tIf(t:TT)(ta tb:TE):TE:=λσ H Q=>t σ H λc H1=>if c=true then ta σ H1 Q else tb σ H1 Q
theorem Iy{c:ah}(hc:PT X c tA)(ha:PE X a ta)(hb:PE X b tb):PE X (.IfExp c a b pos) (tIf tA ta tb):=by
 intro AL s σ H Q I h;refine wpAny_IfExp (bC (hc AL s σ H _ I h) λd s1 hq=>?_);rcases hq with⟨H1,I1,q1⟩;cases d with
 |true=>exact ha AL s1 σ H1 Q I1 q1
 |false=>exact hb AL s1 σ H1 Q I1 q1
end
def bS(K:ag)(H:Hp)(a:Addr)(xs:List V):Prop:=
 Rd H a (.lst xs)\/
  ∃(o:Obj)(its:Array Value)(n:Nat),K.lookup a=some o/\o.cls=.type "list"/\o.dict=none/\o.data=.seq its n/\its.size<=sizeLine/\aX xs its.toList
def cP(K:ag)(H:Hp)(a:Addr)(xs:List V):Prop:=
 Rd H a (.tup xs)\/
  ∃(o:Obj)(its:Array Value)(n:Nat),K.lookup a=some o/\o.cls=.type "tuple"/\o.data=.seq its n/\its.size<=sizeLine/\aX xs its.toList
def acR:Value->Option V
 |.none=>some .non
 |.bool b=>some (.bl b)
 |.int i _=>some (.int i)
 |.str x _=>some (.str x)
 |.bytes b _=>some (.byt b)
 |.float b _=>some (.flt b)
 |.ref a=>some (.ref a)
 |.type n=>some (.ty n)
 |_=>none
theorem bP.abs{x:V}{u:Value}(r:bP x u):acR u=some x:=by
 cases x with
 |non=>cases r;rfl
 |bl _=>cases r;rfl
 |int _=>obtain⟨t,rfl⟩:=r;rfl
 |str _=>obtain⟨t,rfl⟩:=r;rfl
 |byt _=>obtain⟨t,rfl⟩:=r;rfl
 |flt _=>obtain⟨t,rfl⟩:=r;rfl
 |ref _=>cases r;rfl
 |ty _=>cases r;rfl
theorem bP.inj{x y:V}{u:Value}(r:bP x u)(q:bP y u):x=y:=ce (r.abs.symm.trans q.abs)
theorem aX.inj:∀{xs ys:List V}{us:AD},aX xs us->aX ys us->xs=ys
 |_,_,_,.nil,.nil=>rfl
 |_,_,_,.cons r t,.cons r' t'=>by rw[r.inj r',aX.inj t t']
section
variable{X:Cx}{AL:List (Addr×Obj)}{σ:St}{H:Hp}{s:aa}{a:Addr}{xs ys:List V}
theorem bS.of{K:ag}(h:H a=some (.lst xs)):bS K H a xs:=.inl (.inl h)
theorem cP.of{K:ag}(h:H a=some (.tup xs)):cP K H a xs:=.inl (.inl h)
theorem aF.list(I:aF X AL σ H s)(h:bS X.K H a xs):∃its:AD,aX xs its/\PlainL s.heap a its.toArray/\xs.length<=sizeLine:=by
 rcases h with h |⟨o,its,n,hk,hc,hd,hs,hz,r⟩
 .obtain⟨z,its,n,r,e⟩:=h.ok I.hok
  exact⟨its,r,⟨_,n,e,rfl,rfl,rfl⟩,z⟩
 .refine⟨its.toList,r,⟨o,n,I.kIn a o hk,hc,hd,by simpa using hs⟩,?_⟩
  have e:=r.length;simp only[my]at e;omega
theorem aF.tuple(I:aF X AL σ H s)(h:cP X.K H a xs):∃its:AD,aX xs its/\IsTup s.heap a its.toArray/\xs.length<=sizeLine:=by
 rcases h with h |⟨o,its,n,hk,hc,hs,hz,r⟩
 .obtain⟨z,its,r,p⟩:=h.ok I.hok
  exact⟨its,r,p,z⟩
 .refine⟨its.toList,r,⟨o,I.kIn a o hk,hc,n,by simpa using hs⟩,?_⟩
  have e:=r.length;simp only[my]at e;omega
theorem aF.list_inj(I:aF X AL σ H s)(h:bS X.K H a xs)(h':bS X.K H a ys):xs=ys:=by
 obtain⟨its,r,⟨o,n,e,_,_,d⟩,_⟩:=I.list h;obtain⟨its',r',⟨o',n',e',_,_,d'⟩,_⟩:=I.list h';rw[e]at e';cases e';rw[d]at d';injection d' with d1 _;have:its=its':=by simpa using congrArg uw d1
 subst this;exact r.inj r'
theorem aF.tuple_inj(I:aF X AL σ H s)(h:cP X.K H a xs)(h':cP X.K H a ys):xs=ys:=by
 obtain⟨its,r,⟨o,e,_,n,d⟩,_⟩:=I.tuple h;obtain⟨its',r',⟨o',e',_,n',d'⟩,_⟩:=I.tuple h';rw[e]at e';cases e';rw[d]at d';injection d' with d1 _;have:its=its':=by simpa using congrArg uw d1
 subst this;exact r.inj r'
end
abbrev Cx.wish(X:Cx)(E:Value->aa->Prop):Cx:={X with xe:=E}
abbrev Cx.nox(X:Cx):Cx:=X.wish λ_ _=>False
theorem Cx.Ok.wish{X:Cx}(ok:X.Ok)(E:Value->aa->Prop):(X.wish E).Ok:=
 ⟨ok.mod,ok.kind,ok.glob,ok.blt,ok.above,ok.inj,ok.has,ok.cab,ok.hd,ok.frames,ok.stk,ok.exf,ok.bs,ok.bsz,ok.noex,ok.exfs,ok.funs,ok.frf⟩
theorem Cx.Ok.unwish{X:Cx}{E:Value->aa->Prop}(ok:(X.wish E).Ok):X.Ok:=
 ⟨ok.mod,ok.kind,ok.glob,ok.blt,ok.above,ok.inj,ok.has,ok.cab,ok.hd,ok.frames,ok.stk,ok.exf,ok.bs,ok.bsz,ok.noex,ok.exfs,ok.funs,ok.frf⟩
section
variable{X:Cx}{AL:List (Addr×Obj)}{σ:St}{H:Hp}{s:aa}{E:Value->aa->Prop}
theorem aF.wish(I:aF X AL σ H s)(E:Value->aa->Prop):aF (X.wish E) AL σ H s:=⟨I.ok.wish E,I.os,I.bare,I.base,I.loc,I.cell,I.free,I.freeC,I.pin,I.hok,I.len⟩
theorem aF.unwish(I:aF (X.wish E) AL σ H s):aF X AL σ H s:=⟨I.ok.unwish,I.os,I.bare,I.base,I.loc,I.cell,I.free,I.freeC,I.pin,I.hok,I.len⟩
theorem SP.unwish{D:lV}{f:Flow}{s':aa}(h:SP (X.wish E) AL D f s'):SP X AL D f s':=by
 cases f with
 |next=>obtain⟨σ',H',I,q⟩:=h;exact⟨σ',H',I.unwish,q⟩
 |brk=>obtain⟨σ',H',I,q⟩:=h;exact⟨σ',H',I.unwish,q⟩
 |cont=>obtain⟨σ',H',I,q⟩:=h;exact⟨σ',H',I.unwish,q⟩
 |ret u=>obtain⟨v,σ',H',I,r,q⟩:=h;exact⟨v,σ',H',I.unwish,r,q⟩
theorem gB.nox{st:List Stmt}{t:TS}(h:gB X.nox st t):gB X st t:=λAL s σ H D I hw=>
 fj (h AL s σ H D (I.wish _) hw) (λ_ _ q=>q.unwish) λ_ _ z=>jm z
end
section
variable{X:Cx}{st:Stmt}{fR:List Stmt}{t u:TS}{e:ah}{te:TE}{pos:ai}
def abu:TS:=λD σ H=>D.nx σ H
def acl(t u:TS):TS:=λD σ H=>t {D with nx:=u D} σ H
theorem M5:gB X [] abu:=λ_ _ σ H _ I h=>qq ⟨σ,H,I,h⟩
theorem G3(h1:PS X st t)(h2:gB X fR u):gB X (st::fR) (acl t u):=by
 intro AL s σ H D I h;refine wpAny_execs_cons (bC (h1 AL s σ H {D with nx:=u D} I h) λf s1 q=>?_);cases f with
 |next=>
  obtain⟨σ',H',I',q⟩:=q;exact h2 AL s1 σ' H' D I' q
 |ret v=>exact q
 |brk=>exact q
 |cont=>exact q
theorem Ln(h1:PS X st t):gB X [st] t:=by
 intro AL s σ H D I h;refine wpAny_execs_cons (bC (h1 AL s σ H D I h) λf s1 q=>?_);cases f with
 |next=>exact qq q
 |ret v=>exact q
 |brk=>exact q
 |cont=>exact q
theorem aF.quiet{AL:List (Addr×Obj)}{σ:St}{H:Hp}{s:aa}(I:aF X AL σ H s):interactive X.env=false:=by simp[interactive,I.ok.kind]
def abk(te:TE):TS:=λD σ H=>te σ H λ_ H1=>D.nx σ H1
theorem J7(he:PE X e te)(hs:swapsWith e none pos.line X.env=pure false:=by rfl):PS X (.Expr e pos) (abk te):=by
 intro AL s σ H D I h;exact wpAny_Expr_any (bC (he AL s σ H _ I h) λv s1 ⟨x,H1,I1,r1,q1⟩=>⟨σ,H1,I1,q1⟩) I.quiet hs
def acs(te:TE):TS:=λD σ H=>te σ H D.rt
theorem aaT(he:PE X e te):PS X (.Return (some e) pos) (acs te):=by
 intro AL s σ H D I h;exact wpAny_Return_some (bC (he AL s σ H _ I h) λv s1 ⟨x,H1,I1,r1,q1⟩=>⟨x,σ,H1,I1,r1,q1⟩)
def acH(c:TT)(t u:TS):TS:=λD σ H=>c σ H λb H1=>if b=true then t D σ H1 else u D σ H1
theorem abP{c:ah}{a b:List Stmt}{tc:TT}(hc:PT X c tc)(ha:gB X a t)(hb:gB X b u):PS X (.If c a b pos) (acH tc t u):=by
 intro AL s σ H D I h;refine wpAny_If (bC (hc AL s σ H _ I h) λd s1 hq=>?_);rcases hq with⟨H1,I1,q1⟩;cases d with
 |true=>exact ha AL s1 σ H1 D I1 q1
 |false=>exact hb AL s1 σ H1 D I1 q1
end
abbrev TG:=V->St->Hp->(St->Hp->Prop)->Prop
abbrev mG:=List V->St->Hp->(St->Hp->Prop)->Prop
def PG(X:Cx)(target:ah)(t:TG):Prop:=
 ∀(AL:List (Addr×Obj))(s:aa)(σ:St)(H:Hp)(v:V)(u:Value)(Q:St->Hp->Prop),aF X AL σ H s->bP v u->t v σ H Q->
  wpAny (model X.prog X.w) X.A (assign target X.env u) (λ_ s'=>∃σ' H',aF X AL σ' H' s'/\Q σ' H') X.xe s
def lH(X:Cx)(ts:List ah)(t:mG):Prop:=
 ∀(AL:List (Addr×Obj))(s:aa)(σ:St)(H:Hp)(vs:List V)(us:AD)(Q:St->Hp->Prop),aF X AL σ H s->aX vs us->t vs σ H Q->
  wpAny (model X.prog X.w) X.A (assignInOrder ((assignEach ts X.env).map (·.2)) us) (λ_ s'=>∃σ' H',aF X AL σ' H' s'/\Q σ' H') X.xe s
abbrev xM:=V->V->V->Hp->(Hp->Prop)->Prop
def Yd(X:Cx)(t:xM):Prop:=
 ∀(AL:List (Addr×Obj))(s:aa)(σ:St)(H:Hp)(o i v:V)(ov iv u:Value)(Q:Hp->Prop),aF X AL σ H s->bP o ov->bP i iv->bP v u->t o i v H Q->
  wpAny (model X.prog X.w) X.A (setItem ov iv u) (λ_ s'=>∃H',aF X AL σ H' s'/\Q H') X.xe s
abbrev xV:=V->V->Hp->VK->Prop
def PIp(X:Cx)(op:qr)(t:xV):Prop:=
 ∀(AL:List (Addr×Obj))(s:aa)(σ:St)(H:Hp)(x y:V)(v u:Value)(Q:VK),aF X AL σ H s->bP x v->bP y u->t x y H Q->
  wpAny (model X.prog X.w) X.A (inplaceOp op v u) (EP X AL σ Q) X.xe s
section
variable{X:Cx}{pos:ai}
def Dd(i:Nat):TG:=λv σ H Q=>Q (σ.set i (some v)) H
theorem Um{i:Nat}{x:Str}(hN:X.N.Nodup)(hi:X.N[i]?=some x)(hx:kK X.env.scope x)(hf:X.fn x=true\/X.env.scope.names.lookup x=some .local:=by first |exact .inl rfl |exact .inr rfl |assumption):PG X (.Name x pos) (Dd i):=by
 intro AL s σ H v u Q I r h;exact wpAny_assign_Name (pR I hN hi hx r (λs' I'=>⟨_,H,I',h⟩) hf)
def acv:mG:=λvs σ H Q=>vs=[]/\Q σ H
def abg(t:TG)(u:mG):mG:=λvs σ H Q=>∃v r,vs=v::r/\t v σ H λσ' H'=>u r σ' H' Q
theorem O9:lH X [] acv:=by
 intro AL s σ H vs us Q I r h;obtain⟨e,h⟩:=h;subst e;cases r;exact assignInOrder_nil ⟨σ,H,I,h⟩
theorem B0{e:ah}{es:List ah}{t:TG}{u:mG}(h1:PG X e t)(h2:lH X es u)
  (hs:(assignEach (e::es) X.env).map (·.2)=assign e X.env::(assignEach es X.env).map (·.2):=by rfl):lH X (e::es) (abg t u):=by
 intro AL s σ H vs us Q I r h;obtain⟨v,vr,e1,h⟩:=h;subst e1;cases r with
 |cons r rr=>
  rw[hs];refine uz (bC (h1 AL s σ H _ _ _ I r h) λ_ s1 hq=>?_);rcases hq with⟨σ1,H1,I1,q1⟩;exact h2 AL s1 σ1 H1 _ _ Q I1 rr q1
def acA(K:ag)(n:Nat)(t:mG):TG:=λv σ H Q=>∃a xs,v=.ref a/\cP K H a xs/\xs.length=n/\t xs σ H Q
theorem aaf{es:List ah}{k:Nat}{t:mG}{n:Nat}(hc:X.calm=true)(h:lH X es t)
  (hn:(assignEach es X.env).length=n:=by rfl)(hst:(assignEach es X.env).findIdx? (·.1)=none:=by rfl):PG X (.Tuple es k pos) (acA X.K n t):=by
 intro AL s σ H v u Q I r hw;obtain⟨a,xs,e1,hq,hl,hw⟩:=hw;subst e1;cases r;obtain⟨its,rv,ht,hz⟩:=I.tuple hq;refine assign_Tuple_tuple (I.ok.hd hc) ht (by simp[hn,<-hl,rv.length]) hst λh' hx=>?_;have I1:aF X AL σ H {s with heap:=h'}:=I.kept (t':=s.toks) λb o e=>hx b o (cr (ax e)) e;exact h AL _ σ H xs _ Q I1 (by simpa using rv) hw
def acI(to ti:TE)(t:xM):TG:=λv σ H Q=>to σ H λo H1=>ti σ H1 λi H2=>t o i v H2 λH3=>Q σ H3
theorem Ic{o i:ah}{to ti:TE}{t:xM}(ho:PE X o to)(hi:PE X i ti)(hs:Yd X t)
  (ha:∀v,assign (.Subscript o i pos) X.env v=(do
   let ov <-holding [v] (eval o X.env)
   let iv <-holding [v,ov] (eval i X.env)
   standAt pos
   holding [v,ov,iv] (setItem ov iv v)
   release [v,ov,iv] []):=by intro _;rfl):PG X (.Subscript o i pos) (acI to ti t):=by
 intro AL s σ H v u Q I r h;rw[ha];refine ae (ji (bC (ho AL s σ H _ I h) λov s1 hq=>?_));rcases hq with⟨x,H1,I1,r1,q1⟩;refine ae (ji (bC (hi AL s1 σ H1 _ I1 q1) λiv s2 hq=>?_));rcases hq with⟨y,H2,I2,r2,q2⟩;refine ae (oo (ae (ji (bC (hs AL s2 σ H2 x y v ov iv u _ I2 r1 r2 r q2) λ_ s3 hq=>?_))));rcases hq with⟨H3,I3,q3⟩;exact wpAny_release ⟨σ,H3,I3,q3⟩
def Be(te:TE)(g:TG):TS:=λD σ H=>te σ H λx H1=>g x σ H1 D.nx
theorem vU{tg e:ah}{te:TE}{g:TG}(he:PE X e te)(hg:PG X tg g)(hs:swapsWithSole [tg] e pos.line X.env=pure false:=by rfl)(hw:swappedStores [tg] e X.env=pure none:=by rfl)
  (h1:(assignEach [tg] X.env).map (·.2)=[assign tg X.env]:=by rfl):PS X (.Assign [tg] e pos) (Be te g):=by
 intro AL s σ H D I h;refine wpAny_Assign_stores (bC (he AL s σ H _ I h) λv s1 hq=>?_) hs hw;rcases hq with⟨x,H1,I1,r1,q1⟩;rw[h1];exact bC (hg AL s1 σ H1 x v _ I1 r1 q1) λ_ s2 q=>q
theorem aaG{i:Nat}{x:Str}{e:ah}{te:TE}{pos':ai}(hN:X.N.Nodup)(hi:X.N[i]?=some x)(hx:kK X.env.scope x)(he:PE X e te)(hs:swapsWith e (some (.Name x pos')) pos.line X.env=pure false:=by rfl)(hf:X.fn x=true\/X.env.scope.names.lookup x=some .local:=by first |exact .inl rfl |exact .inr rfl |assumption):
  PS X (.Assign [.Name x pos'] e pos) (Be te (Dd i)):=by
 intro AL s σ H D I h;refine wpAny_Assign_Name (bC (he AL s σ H _ I h) λv s1 hq=>?_) hs;rcases hq with⟨y,H1,I1,r1,q1⟩;exact pR I1 hN hi hx r1 (λs2 I2=>⟨_,H1,I2,q1⟩) hf
def acQ(i j:Nat)(ta:TA):TS:=λD σ H=>ta σ H λvs H1=>∃v w,vs=[v,w]/\D.nx ((σ.set i (some v)).set j (some w)) H1
theorem aaw{i j:Nat}{x y:Str}{a b:ah}{ta:TA}{px py pt:ai}{kt k2 pt2}(hc:X.calm=true)(hN:X.N.Nodup)(hi:X.N[i]?=some x)(hj:X.N[j]?=some y)(hij:i≠j)
  (hx:X.env.scope.names.lookup x=some .local)(hy:X.env.scope.names.lookup y=some .local)(ha:PA X [a,b] ta)
  (hw:swappedStores [.Tuple [.Name x px,.Name y py] kt pt] (.Tuple [a,b] k2 pt2) X.env=pure (some [x,y]))
  (hs:swapsWithSole [.Tuple [.Name x px,.Name y py] kt pt] (.Tuple [a,b] k2 pt2) pos.line X.env=pure false:=by rfl):
  PS X (.Assign [.Tuple [.Name x px,.Name y py] kt pt] (.Tuple [a,b] k2 pt2) pos) (acQ i j ta):=by
 intro AL s σ H D I h;rw[exec_Assign_arm];refine ae (oo ?_);rw[hs];refine ae (ak ?_);rw[if_neg (by decide)];refine ae (Tuple_ (bC (ha _ AL s σ H _ I h) λus s1 hq=>?_));rcases hq with⟨vs,H1,I1,r1,q1⟩;obtain⟨v,w,e1,q1⟩:=q1;subst e1;obtain⟨u1,u2,rfl,rv,rw'⟩:∃u1 u2,us=[u1,u2]/\bP v u1/\bP w u2:=by
  cases r1 with
  |cons p q=>
   cases q with
   |cons p' q'=>
    cases q';exact⟨_,_,rfl,p,p'⟩
 refine io ?_ (by show 2<=sizeLine;decide);have I2:aF X AL σ H1 {s1 with heap:=s1.heap.push {cls:=.type "tuple",data:=.seq [u1,u2].toArray}}:=I1.kept (t':=s1.toks) λb o e=>ao _ e;rw[hw];refine ae (ak ?_);show wpAny (model X.prog X.w) X.A (do rule "assign.swapped-stores";let items <-unpackItems (.ref s1.heap.objs.size) 2 none;assignInOrder [λv=>bindName X.env y v,λv=>bindName X.env x v] items.reverse;pure Flow.next) _ _ _
 refine ae (ki (ae (unpackItems_tuple (items:=#[u1,u2]) (I.ok.hd hc) (qs s1.heap _) λh' hx'=>?_)));have I3:=I2.kept (h':=h') (t':=s1.toks) λb o e=>hx' b o (cr (ax e)) e;show wpAny _ _ (assignInOrder [λv=>bindName X.env y v,λv=>bindName X.env x v] [u2,u1] >>= λ_=>pure Flow.next) _ _ _
 refine ae (uz (wpAny_bindName (pR I3 hN hj (.inl hy) rw' (λs2 I4=>?_) (.inr hy))));refine uz (wpAny_bindName (pR I4 hN hi (.inl hx) rv (λs3 I5=>assignInOrder_nil (ak ?_)) (.inr hx)));rw[List.set_comm _ _ (ik hij)]at I5;exact⟨_,H1,I5,q1⟩
def acn(i:Nat)(te:TE)(ti:xV):TS:=λD σ H=>∃x,σ[i]?=some (some x)/\te σ H λy H1=>ti x y H1 λz H2=>D.nx (σ.set i (some z)) H2
theorem Y8{i:Nat}{x:Str}{e:ah}{te:TE}{op:qr}{ti:xV}{pos':ai}(hN:X.N.Nodup)(hi:X.N[i]?=some x)(hx:kK X.env.scope x)(he:PE X e te)(ho:PIp X op ti)(hf:X.fn x=true\/X.env.scope.names.lookup x=some .local:=by first |exact .inl rfl |exact .inr rfl |assumption):
  PS X (.AugAssign (.Name x pos') op e pos) (acn i te ti):=by
 intro AL s σ H D I h;obtain⟨v,e1,h⟩:=h;obtain⟨m,hn,hl⟩:=I.loc;have vis:kG X.env.scope x:=by rcases hx with k |k;exact .inl k;exact .inr (.inl k)
 obtain⟨u,r,l⟩:=hl i x v hi e1 vis;refine wpAny_AugAssign_Name ?_;have go:wpAny (model X.prog X.w) X.A (eval e X.env) (λw AS=>wpAny (model X.prog X.w) X.A (inplaceOp op u w) (λr s₃=>wpAny (model X.prog X.w) X.A (storeName X.env x r) (λ_=>SP X AL D .next) X.xe s₃) X.xe AS) X.xe s:=by
  refine bC (he AL s σ H _ I h) ?_
  rintro w s1 ⟨y,H1,I1,r1,q1⟩
  refine bC (ho AL s1 σ H1 v y u w _ I1 r r1 q1) ?_
  rintro z s2 ⟨zv,H2,I2,r2,q2⟩
  exact pR I2 hN hi hx r2 (λs3 I3=>⟨_,H2,I3,q2⟩) hf
 rcases l with⟨hk,hm⟩|⟨hk,c,hc,hcell⟩
 .exact za I.ok.kind hk hn hm go
 .rcases hk with hk |hk
  .exact zb I.ok.kind hk hc hcell go
  .rcases hx with k |k
   .have:X.env.scope.names.lookup x=some .free:=hk
    rw[k]at this;cases this
   .have:X.env.scope.names.lookup x=some .free:=hk
    rw[k]at this;cases this
end
section
variable{X:Cx}{pos:ai}
def aaU(c:TT)(tb:TS):TS:=λD σ H=>∃W:Nat->St->Hp->Prop,(∃m,W m σ H)/\∀m σ H,W m σ H->
 c σ H λb H1=>if b=true then ∃N:St->Hp->Prop,(∀σ' H',N σ' H'->∃m',m'<m/\W m' σ' H')/\tb {D with nx:=N,ct:=N,bk:=D.nx} σ H1 else D.nx σ H1
theorem Oy{c:ah}{body:List Stmt}{tc:TT}{tb:TS}(hp:oq (model X.prog X.w) X.A X.env X.xe)(hc:PT X c tc)(hb:gB X body tb):PS X (.While c body [] pos) (aaU tc tb):=by
 intro AL s σ H D I h;obtain⟨W,⟨m0,w0⟩,turn⟩:=h;refine wpAny_While (codeAny_whileLoop (λn s'=>∃σ' H',aF X AL σ' H' s'/\W n σ' H') ?_ m0 ⟨σ,H,I,w0⟩)
 rintro n s1 ⟨σ1,H1,I1,w1⟩
 refine kz hp (bC (hc AL s1 σ1 H1 _ I1 (turn n σ1 H1 w1)) λb s2 hq=>?_);rcases hq with⟨H2,I2,q2⟩;cases b with
 |true=>
  obtain⟨N,hN,q2⟩:=q2;rw[if_pos rfl];refine kz hp (bC (hb AL s2 σ1 H2 _ I2 q2) λf s3 q3=>?_);cases f with
  |next=>
   obtain⟨σ3,H3,I3,n3⟩:=q3;obtain⟨m',hm,w3⟩:=hN σ3 H3 n3;exact⟨m',hm,σ3,H3,I3,w3⟩
  |cont=>
   obtain⟨σ3,H3,I3,n3⟩:=q3;obtain⟨m',hm,w3⟩:=hN σ3 H3 n3;exact⟨m',hm,σ3,H3,I3,w3⟩
  |brk=>exact q3
  |ret v=>exact q3
 |false=>
  rw[if_neg ir];exact qq ⟨σ1,H2,I2,q2⟩
end
structure It where
 go:Nat->Hp->Prop
 yld:Nat->Hp->V->Hp->Prop
 stop:Nat->Hp->Prop
def fF(X:Cx)(AL:List (Addr×Obj))(H:Hp)(b:Addr):Prop:=
 H b=none/\b≠X.env.locals/\b∉X.fs/\(b∈X.ex\/X.AM.heap.objs.size<=b)/\(∀x c,X.env.cells.lookup x=some c->c≠b)/\∀p∈X.pn++AL,p.1≠b
theorem aF.fpOk{X:Cx}{AL:List (Addr×Obj)}{σ:St}{H H':Hp}{s:aa}{b:Addr}(I:aF X AL σ H s)(hb:s.heap.objs.size<=b)(hn:H' b=none):fF X AL H' b:=by
 refine⟨hn,kj (de I.lt hb),I.nofs hb,.inr (fh I.sz hb),λx c e z=>?_,λp hp z=>?_⟩
 .obtain⟨v,q⟩:=I.cell x c e
  exact absurd (de q.lt (by rw[z];exact hb)) (ig _)
 .exact absurd (de (ax (I.pin p hp).1) (by rw[z];exact hb)) (ig _)
structure qJ(P:Program)(w:al)(K:ag)(tg:ah)(J:It)(fp:List Addr)(it:Addr)(tn:Nat->Heap->Prop):Prop where
 mem:it∈fp
 obj:∀i h,tn i h->∀b∈fp,∃o,h.get? b=some o/\∀v,o.data≠.cell v
 keep:∀i h h',tn i h->(∀b∈fp,∀o,h.get? b=some o->h'.get? b=some o)->tn i h'
 item:∀(X:Cx),X.prog=P->X.w=w->X.K=K->X.calm=true->∀(i:Nat)(AL:List (Addr×Obj))(s:aa)(σ:St)(H:Hp)(E:Value->aa->Prop),aF X AL σ H s->(∀b∈fp,fF X AL H b)->tn i s.heap->J.go i H->
  wpAny (model P w) X.A (pyNext (.ref it)) (λr s1=>∃u,r=some u/\
   wpAny (model P w) X.A (letOwnedTupleGo tg (.ref it) u) (λ_ s2=>∃x H',aF X AL σ H' s2/\bP x u/\J.yld i H x H'/\tn (i+1) s2.heap/\∀b∈fp,H' b=none) E s1) E s
 done:∀(X:Cx),X.prog=P->X.w=w->X.K=K->X.calm=true->∀(i:Nat)(AL:List (Addr×Obj))(s:aa)(σ:St)(H:Hp)(E:Value->aa->Prop),aF X AL σ H s->(∀b∈fp,fF X AL H b)->tn i s.heap->J.stop i H->
  wpAny (model P w) X.A (pyNext (.ref it)) (λr s1=>r=none/\aF X AL σ H s1) E s
 self:∀(A:aq)(i:Nat)(s:aa)(Q:Value->aa->Prop)(E:Value->aa->Prop),tn i s.heap->Q (.ref it) s->wpAny (model P w) A (pyIter (.ref it)) Q E s
abbrev TI:=St->Hp->(It->Hp->Prop)->Prop
def Ks(X:Cx)(AL:List (Addr×Obj))(σ:St)(tg:ah)(R:It->Hp->Prop)(itv:Value)(s2:aa):Prop:=
 ∃(it:Addr)(fp:List Addr)(tn:Nat->Heap->Prop)(J:It)(H':Hp),itv=.ref it/\aF X AL σ H' s2/\qJ X.prog X.w X.K tg J fp it tn/\tn 0 s2.heap/\(∀b∈fp,fF X AL H' b)/\R J H'
def PI(X:Cx)(tg iter:ah)(wi:TI):Prop:=
 ∀(AL:List (Addr×Obj))(s:aa)(σ:St)(H:Hp)(R:It->Hp->Prop),aF X AL σ H s->wi σ H R->
  wpAny (model X.prog X.w) X.A (eval iter X.env) (λv s1=>wpAny (model X.prog X.w) X.A (pyIter v) (Ks X AL σ tg R) X.xe s1) X.xe s
theorem Cd {M : kx} {A : aq} {E : Value → aa → Prop} {s : aa} {tg : ah} {it : Addr} {u : Value} {o : Obj} {n : String} {vs : Array Value} {Q : Unit → aa → Prop} (ho : s.heap.get? it = some o) (hc : o.cls = .type n) (hd : o.data = .fields vs)
    (hn : ["enumerate", "zip", "dict_itemiterator", "dict_reverseitemiterator", "odict_iterator", "itertools.zip_longest", "itertools.pairwise"].contains n = false) (hQ : Q () s) : wpAny M A (letOwnedTupleGo tg (.ref it) u) Q E s := by
  unfold letOwnedTupleGo;cases tg <;> first
    | exact ak hQ
    | (cases u <;> first
        | exact ak hQ
        | (refine ae (wpAny_load ho ?_)
           rw [hc, hd];show wpAny M A (if (["enumerate", "zip", "dict_itemiterator", "dict_reverseitemiterator", "odict_iterator", "itertools.zip_longest", "itertools.pairwise"].contains n && vs[0]? == some (rawInt _)) = true then _ else _) Q E s;rw [if_neg (by intro h; rw [hn, Bool.false_and] at h; cases h)];exact ak hQ))
def yF(K:ag)(a:Addr):It:=
 ⟨λi H=>∃xs x,bS K H a xs/\xs[i]?=some x,λi H x H'=>H'=H/\∀xs,bS K H a xs->xs[i]?=some x,λi H=>∃xs,bS K H a xs/\xs.length<=i⟩
def De(K:ag)(a:Addr):It:=
 ⟨λi H=>∃xs x,cP K H a xs/\xs[i]?=some x,λi H x H'=>H'=H/\∀xs,cP K H a xs->xs[i]?=some x,λi H=>∃xs,cP K H a xs/\xs.length<=i⟩
def tM(lo:Int)(n:Nat):It:=⟨λi _=>i<n,λi H x H'=>H'=H/\x=.int (lo+i),λi _=>n<=i⟩
theorem Dw{P:Program}{w:al}{K:ag}{tg:ah}(a it:Addr):qJ P w K tg (yF K a) [it] it (λi h=>h.IsListIter it a i) where
 mem:=by simp
 obj:=λi h st b hb=>by
  have e:b=it:=by simpa using hb
  subst e;obtain⟨o,e,c,d⟩:=st;exact⟨o,e,λv z=>by rw[d]at z;cases z⟩
 keep:=λi h h' st k=>st.at λo e=>k it (by simp) o e
 item:=by
  intro X hP hw hK hc i AL s σ H E I hf st hg;subst hP hw hK;obtain⟨xs,x,hq,hx⟩:=hg;obtain⟨its,rv,p,hz⟩:=I.list hq;obtain⟨u,hu,ru⟩:=rv.get hx;obtain⟨f0,f1,f2,f3,f4,f5⟩:=hf it (by simp);refine wpAny_pyNext_list_item st p.isList (x:=u) (by simpa using hu) λh' st' sb=>?_;have I1:aF X AL σ H {s with heap:=h'}:=I.turned (t':=s.toks) (λb o hb e=>(sb.2 b hb).trans e) f0 f1 f3 f4 f5;obtain⟨o,e,c,d⟩:=id st';exact⟨u,rfl,Cd (s:={s with heap:=h'}) e c d (by decide) ⟨x,H,I1,ru,⟨rfl,λys hy=>by rw[I.list_inj hy hq];exact hx⟩,st',λb hb=>(hf b hb).1⟩⟩
 done:=by
  intro X hP hw hK hc i AL s σ H E I hf st hg;subst hP hw hK;obtain⟨xs,hq,hx⟩:=hg;obtain⟨its,rv,p,hz⟩:=I.list hq;obtain⟨f0,f1,f2,f3,f4,f5⟩:=hf it (by simp);have hl:=rv.length;exact wpAny_pyNext_list_end (I.ok.hd hc) st p.isList (by simp;omega) λh' eb=>⟨rfl,I.turned (t':=s.toks) (λb o hb e=>eb b o hb e) f0 f1 f3 f4 f5⟩
 self:=λ_ _ _ _ _ st h=>wpAny_pyIter_listiter st h
theorem Ov{P:Program}{w:al}{K:ag}{tg:ah}(a it:Addr):qJ P w K tg (De K a) [it] it (λi h=>h.IsTupleIter it a i) where
 mem:=by simp
 obj:=λi h st b hb=>by
  have e:b=it:=by simpa using hb
  subst e;obtain⟨o,e,c,d⟩:=st;exact⟨o,e,λv z=>by rw[d]at z;cases z⟩
 keep:=λi h h' st k=>st.at λo e=>k it (by simp) o e
 item:=by
  intro X hP hw hK hc i AL s σ H E I hf st hg;subst hP hw hK;obtain⟨xs,x,hq,hx⟩:=hg;obtain⟨its,rv,p,hz⟩:=I.tuple hq;obtain⟨u,hu,ru⟩:=rv.get hx;obtain⟨f0,f1,f2,f3,f4,f5⟩:=hf it (by simp);refine wpAny_pyNext_tuple_item st (show s.heap.IsTuple a its.toArray from p) (x:=u) (by simpa using hu) λh' st' sb=>?_;have I1:aF X AL σ H {s with heap:=h'}:=I.turned (t':=s.toks) (λb o hb e=>(sb.2 b hb).trans e) f0 f1 f3 f4 f5;obtain⟨o,e,c,d⟩:=id st';exact⟨u,rfl,Cd (s:={s with heap:=h'}) e c d (by decide) ⟨x,H,I1,ru,⟨rfl,λys hy=>by rw[I.tuple_inj hy hq];exact hx⟩,st',λb hb=>(hf b hb).1⟩⟩
 done:=by
  intro X hP hw hK hc i AL s σ H E I hf st hg;subst hP hw hK;obtain⟨xs,hq,hx⟩:=hg;obtain⟨its,rv,p,hz⟩:=I.tuple hq;obtain⟨f0,f1,f2,f3,f4,f5⟩:=hf it (by simp);have hl:=rv.length;exact wpAny_pyNext_tuple_end (I.ok.hd hc) st (show s.heap.IsTuple a its.toArray from p) (by simp;omega) λh' eb=>⟨rfl,I.turned (t':=s.toks) (λb o hb e=>eb b o hb e) f0 f1 f3 f4 f5⟩
 self:=λ_ _ _ _ _ st h=>wpAny_pyIter_tupleiter st h
theorem Av{P:Program}{w:al}{K:ag}{tg:ah}(it:Addr)(lo:Int)(n:Nat):qJ P w K tg (tM lo n) [it] it (λi h=>IsRangeIter h it (lo+(i:Nat)*1) ((n:Int)-(i:Nat)) 1) where
 mem:=by simp
 obj:=λi h st b hb=>by
  have e:b=it:=by simpa using hb
  subst e;exact⟨_,st,λv z=>by
   have z':Data.fields _=Data.cell v:=z;cases z'⟩
 keep:=λi h h' st k=>k it (by simp) _ st
 item:=by
  intro X hP hw hK hc i AL s σ H E I hf st hg;subst hP hw hK;obtain⟨f0,f1,f2,f3,f4,f5⟩:=hf it (by simp);have W:=Walks.range (prog:=X.prog) (w:=X.w) (I.ok.hd hc) it lo 1 n;refine W.item i s _ _ hg st λv h' tk hv st' kk=>?_;obtain⟨t,rfl⟩:=hv;have I1:aF X AL σ H {s with heap:=h',toks:=tk}:=I.turned (λb o hb e=>kk b o (by simpa using hb) e) f0 f1 f3 f4 f5;refine⟨_,rfl,Cd (s:={s with heap:=h',toks:=tk}) (n:="range_iterator") st' rfl rfl (by decide) ⟨.int (lo+i),H,I1,⟨t,?_⟩,⟨rfl,rfl⟩,st',λb hb=>(hf b hb).1⟩⟩;rw[ng]
 done:=by
  intro X hP hw hK hc i AL s σ H E I hf st hg;subst hP hw hK;obtain⟨f0,f1,f2,f3,f4,f5⟩:=hf it (by simp);exact wpAny_pyNext_range_end (I.ok.hd hc) st (by have:n<=i:=hg;omega) λh' eb=>⟨rfl,I.turned (t':=s.toks) (λb o hb e=>eb b o hb e) f0 f1 f3 f4 f5⟩
 self:=λ_ _ _ _ _ st h=>wpAny_pyIter_rangeiter st h
section
variable{X:Cx}{tg:ah}
theorem Jj{AL:List (Addr×Obj)}{σ:St}{H:Hp}{s:aa}{R:It->Hp->Prop}{E:Value->aa->Prop}{lo hi:Int}{t u v:cw}{tk:Nat}(I:aF X AL σ H s)(h1:-(2^62)<=lo)(h2:lo<2^62)(h3:-(2^62)<=hi)(h4:hi<2^62)
  (q:R (tM lo (hi-lo).toNat) H):wpAny (model X.prog X.w) X.A (pyIter (.ref s.heap.objs.size)) (Ks X AL σ tg R) E {s with heap:=s.heap.push {cls:=.type "range",data:=.fields #[.int lo t,.int hi u,.int 1 v]},toks:=tk}:=by
 refine wpAny_pyIter_range (IsRange.new ..) (small_one h1 h2 h3 h4) ?_;have I1:aF X AL σ H {s with heap:=s.heap.push {cls:=.type "range",data:=.fields #[.int lo t,.int hi u,.int 1 v]},toks:=tk}:=I.kept λb o e=>ao _ e;refine⟨(s.heap.push {cls:=.type "range",data:=.fields #[.int lo t,.int hi u,.int 1 v]}).objs.size,[(s.heap.push {cls:=.type "range",data:=.fields #[.int lo t,.int hi u,.int 1 v]}).objs.size],_,_,H,rfl,
  I1.kept (t':=tk) λb o e=>ao _ e,Av _ lo (hi-lo).toNat,?_,λb hb=>?_,q⟩
 .have e1:lo+((0:Nat):Int)*1=lo:=by simp
  have e2:(((hi-lo).toNat:Nat):Int)-((0:Nat):Int)=Builtin.Range.rangeSize lo hi 1:=by rw[rangeSize_one];split<;>omega
  show IsRangeIter _ _ (lo+((0:Nat):Int)*1) ((((hi-lo).toNat:Nat):Int)-((0:Nat):Int)) 1;rw[e1,e2];exact cx _ rfl
 .have e:b=(s.heap.push {cls:=.type "range",data:=.fields #[.int lo t,.int hi u,.int 1 v]}).objs.size:=by simpa using hb
  subst e;exact I1.fpOk (aj _) (I1.hok.fresh (aj _))
def ab2(ta:TA):TI:=λσ H R=>ta σ H λvs H1=>∃j:Int,vs=[.int j]/\-(2^62)<=j/\j<2^62/\R (tM 0 j.toNat) H1
def abv(ta:TA):TI:=λσ H R=>ta σ H λvs H1=>∃i j:Int,vs=[.int i,.int j]/\(-(2^62)<=i/\i<2^62/\-(2^62)<=j/\j<2^62)/\R (tM i (j-i).toNat) H1
theorem Ay{a:ah}{ta:TA}{p pos:ai}(hg:Gl X "range")(hm:X.mg "range"=none)(ha:PA X [a] ta)(hs:starEach [a] X.env=[(false,eval a X.env)]:=by rfl):PI X tg (.Call (.Name "range" p) [a] [] pos) (ab2 ta):=by
 intro AL s σ H R I h;refine Call_ (oH I hg hm boot_range (ot (bC (ha pos AL s σ H _ I h) λus s1 hq=>?_) hs rfl));rcases hq with⟨vs,H1,I1,r1,q1⟩;obtain⟨j,e,q1,q2,q⟩:=q1;subst e;cases r1 with
 |cons r rr=>
  cases rr;obtain⟨t,rfl⟩:=r;exact call_range_1 (Jj I1 (by omega) (by omega) q1 q2 (by simpa using q))
theorem Kx{a b:ah}{ta:TA}{p pos:ai}(hg:Gl X "range")(hm:X.mg "range"=none)(ha:PA X [a,b] ta)(hs:starEach [a,b] X.env=[(false,eval a X.env),(false,eval b X.env)]:=by rfl)(hs2:starEach [b] X.env=[(false,eval b X.env)]:=by rfl):
  PI X tg (.Call (.Name "range" p) [a,b] [] pos) (abv ta):=by
 intro AL s σ H R I h;refine Call_ (oH I hg hm boot_range (ot (bC (ha pos AL s σ H _ I h) λus s1 hq=>?_) (by rw[hs,hs2]) (by rw[hs2];rfl)));rcases hq with⟨vs,H1,I1,r1,q1⟩;obtain⟨i,j,e,⟨q1,q2,q3,q4⟩,q⟩:=q1;subst e;cases r1 with
 |cons r rr=>
  cases rr with
  |cons r' rr=>
   cases rr;obtain⟨t,rfl⟩:=r;obtain⟨t',rfl⟩:=r';exact call_range_2 (Jj I1 q1 q2 q3 q4 q)
def acu(wi:TI)(g:TG)(tb:TS):TS:=λD σ H=>wi σ H λJ H1=>∃W:Nat->Nat->St->Hp->Prop,(∃m,W 0 m σ H1)/\∀i m σ H,W i m σ H->
 (J.stop i H/\D.nx σ H)\/(J.go i H/\∃N:St->Hp->Prop,(∀σ' H',N σ' H'->∃m',m'<m/\W (i+1) m' σ' H')/\∀x H',J.yld i H x H'->g x σ H' λσ2 H2=>tb {D with nx:=N,ct:=N,bk:=D.nx} σ2 H2)
def vT(fp:List Addr)(h:Heap):List (Addr×Obj):=fp.filterMap λb=>(h.get? b).map λo=>(b,o)
theorem kM{fp:List Addr}{h:Heap}{b:Addr}{o:Obj}(hb:b∈fp)(e:h.get? b=some o):(b,o)∈vT fp h:=va.mpr ⟨b,hb,by rw[e];rfl⟩
theorem Tx{fp:List Addr}{h:Heap}{p:Addr×Obj}(hp:p∈vT fp h):p.1∈fp/\h.get? p.1=some p.2:=by
 obtain⟨b,hb,e⟩:=va.mp hp;cases q:h.get? b with
 |none=>rw[q]at e;cases e
 |some o=>
  rw[q]at e;have e':(b,o)=p:=ce e;subst e';exact⟨hb,q⟩
theorem aF.pinned{AL:List (Addr×Obj)}{σ:St}{H:Hp}{s:aa}{fp:List Addr}(I:aF X AL σ H s)(hf:∀b∈fp,fF X AL H b)(ho:∀b∈fp,∃o,s.heap.get? b=some o/\∀v,o.data≠.cell v):aF X (AL++vT fp s.heap) σ H s:=
 I.pins_of λp hp=>(cj.mp hp).elim (λz=>I.pin p (da _ z)) λz=>by
  obtain⟨hb,e⟩:=Tx z;obtain⟨f0,f1,f2,_⟩:=hf p.1 hb;obtain⟨o,e',d⟩:=ho p.1 hb;rw[e]at e';cases e';exact⟨e,f0,f1,f2,d⟩
theorem aF.unpinned{AL pl:List (Addr×Obj)}{σ:St}{H:Hp}{s:aa}(I:aF X (AL++pl) σ H s):aF X AL σ H s:=I.pins_of λp hp=>I.pin p (da _ (kw _ hp))
theorem Ap{iter:ah}{body:List Stmt}{wi:TI}{g:TG}{tb:TS}{pos:ai}(hp:oq (model X.prog X.w) X.A X.env X.xe)(hc:X.calm=true)(hi:PI X tg iter wi)(hg:PG X tg g)(hb:gB X body tb)
  (hs:∀x,foldedSetIterable iter X.env x=pure x:=by intro _;rfl):PS X (.For tg iter body [] pos) (acu wi g tb):=by
 intro AL s σ H D I h;refine wpAny_For (bC (hi AL s σ H _ I h) λv s1 h1=>bC h1 λitv s2 h2=>?_) hs;obtain⟨it,fp,tn,J,H2,e,I2,T,st2,f2,W,⟨m0,w0⟩,turn⟩:=h2;subst e
 --what stays true of the iterator's objects through the loop
 have stat:∀{H':Hp},(∀b∈fp,H' b=none)->∀b∈fp,fF X AL H' b:=λhn b hb=>⟨hn b hb,(f2 b hb).2⟩;refine codeAny_forLoop_any (λn s'=>∃i σ' H',aF X AL σ' H' s'/\tn i s'.heap/\(∀b∈fp,H' b=none)/\W i n σ' H') ?_ m0 ⟨0,σ,H2,I2,st2,λb hb=>(f2 b hb).1,w0⟩
 rintro n s3 ⟨i,σ3,H3,I3,dI,fr3,w3⟩
 rcases turn i n σ3 H3 w3 with⟨stop,qn⟩|⟨go,N,hN,step⟩
 .refine kz hp (bC (T.done X rfl rfl rfl hc i AL s3 σ3 H3 X.xe I3 (stat fr3) dI stop) λr s4 hq=>?_)
  rcases hq with⟨hr,I4⟩;subst hr;exact qq ⟨σ3,H3,I4,qn⟩
 .refine kz hp (bC (T.item X rfl rfl rfl hc i AL s3 σ3 H3 X.xe I3 (stat fr3) dI go) λr s4 hq=>?_)
  rcases hq with⟨u,hr,h4⟩;subst hr;refine kz hp (bC h4 λ_ s5 hq=>?_);rcases hq with⟨x,H5,I5,r5,y5,st5,fr5⟩;have I5':=I5.pinned (stat fr5) (T.obj _ _ st5);refine kz hp (bC (hg _ s5 σ3 H5 x u _ I5' r5 (step x H5 y5)) λ_ s6 hq=>?_);rcases hq with⟨σ6,H6,I6,q6⟩;refine kz hp (bC (hb _ s6 σ6 H6 _ I6 q6) λf s7 q7=>?_);have again:∀{σ7:St}{H7:Hp},aF X (AL++vT fp s5.heap) σ7 H7 s7->N σ7 H7->∃m,m<n/\∃i σ' H',aF X AL σ' H' s7/\tn i s7.heap/\(∀b∈fp,H' b=none)/\W i m σ' H':=λ{σ7 H7} I7 n7=>by
   obtain⟨m',hm,w7⟩:=hN σ7 H7 n7;refine⟨m',hm,i+1,σ7,H7,I7.unpinned,T.keep _ _ _ st5 λb hb o e=>(I7.pin (b,o) (da _ (da _ (kM hb e)))).1,λb hb=>?_,w7⟩;obtain⟨o,e,d⟩:=T.obj _ _ st5 b hb;exact(I7.pin (b,o) (da _ (da _ (kM hb e)))).2.1
  cases f with
  |next=>obtain⟨σ7,H7,I7,n7⟩:=q7;exact again I7 n7
  |cont=>obtain⟨σ7,H7,I7,n7⟩:=q7;exact again I7 n7
  |brk=>obtain⟨σ7,H7,I7,q7⟩:=q7;exact⟨σ7,H7,I7.unpinned,q7⟩
  |ret v=>obtain⟨x7,σ7,H7,I7,r7,q7⟩:=q7;exact⟨x7,σ7,H7,I7.unpinned,r7,q7⟩
end
abbrev R2:=V->V->Hp->VK->Prop
def eD(X:Cx)(f:Value->Value->Sem Value)(r:R2):Prop:=
 ∀(AL:List (Addr×Obj))(s:aa)(σ:St)(H:Hp)(x y:V)(v u:Value)(Q:VK),aF X AL σ H s->bP x v->bP y u->r x y H Q->
  wpAny (model X.prog X.w) X.A (f v u) (EP X AL σ Q) X.xe s
def xX(X:Cx)(f:Value->Sem Value)(r:V->Hp->VK->Prop):Prop:=
 ∀(AL:List (Addr×Obj))(s:aa)(σ:St)(H:Hp)(x:V)(v:Value)(Q:VK),aF X AL σ H s->bP x v->r x H Q->
  wpAny (model X.prog X.w) X.A (f v) (EP X AL σ Q) X.xe s
def iB(X:Cx)(f:Value)(r:List V->Hp->VK->Prop):Prop:=
 ∀(AL:List (Addr×Obj))(s:aa)(σ:St)(H:Hp)(xs:List V)(us:AD)(Q:VK),aF X AL σ H s->aX xs us->r xs H Q->
  wpAny (model X.prog X.w) X.A (call f us) (EP X AL σ Q) X.xe s
def acJ(X:Cx)(r:V->Hp->(Bool->Hp->Prop)->Prop):Prop:=
 ∀(AL:List (Addr×Obj))(s:aa)(σ:St)(H:Hp)(x:V)(v:Value)(Q:Bool->Hp->Prop),aF X AL σ H s->bP x v->r x H Q->
  wpAny (model X.prog X.w) X.A (truthy v) (TP X AL σ Q) X.xe s
def yA(r:R2)(ta tb:TE):TE:=λσ H Q=>ta σ H λx H1=>tb σ H1 λy H2=>r x y H2 Q
def tUn(r:V->Hp->VK->Prop)(ta:TE):TE:=λσ H Q=>ta σ H λx H1=>r x H1 Q
def rI(C:Int->Int->Prop)(g:Int->Int->V):R2:=λx y H Q=>∃i j,x=.int i/\y=.int j/\C i j/\Q (g i j) H
def jG(g:Int->Int->V):R2:=λx y H Q=>∃i j,x=.int i/\y=.int j/\Q (g i j) H
def rU(g:Int->V):V->Hp->VK->Prop:=λx H Q=>∃i,x=.int i/\Q (g i) H
section
variable{X:Cx}{a b c:ah}{ta tb tc:TE}{pos:ai}
theorem Td(ha:PE X a ta)(hb:PE X b tb){AL:List (Addr×Obj)}{s:aa}{σ:St}{H:Hp}{R:V->V->Hp->Prop}(I:aF X AL σ H s)
  (h:ta σ H λx H1=>tb σ H1 λy H2=>R x y H2){Q:Value->aa->Prop}{f:Value->Value->Sem Value}
  (hf:∀v u s2 x y H2,aF X AL σ H2 s2->bP x v->bP y u->R x y H2->wpAny (model X.prog X.w) X.A (f v u) Q X.xe s2):
  wpAny (model X.prog X.w) X.A (eval a X.env) (λv AO=>wpAny (model X.prog X.w) X.A (eval b X.env) (λu AS=>wpAny (model X.prog X.w) X.A (f v u) Q X.xe AS) X.xe AO) X.xe s:=by
 refine bC (ha AL s σ H _ I h) ?_
 rintro v s1 ⟨x,H1,I1,r1,q1⟩
 refine bC (hb AL s1 σ H1 _ I1 q1) ?_
 rintro u s2 ⟨y,H2,I2,r2,q2⟩
 exact hf v u s2 x y H2 I2 r1 r2 q2
theorem Qq{op:qr}{r:R2}(ho:eD X (binaryOp op) r)(ha:PE X a ta)(hb:PE X b tb):PE X (.BinOp a op b pos) (yA r ta tb):=by
 intro AL s σ H Q I h;exact wpAny_BinOp (Td ha hb I h λv u s2 x y H2 I2 rx ry q=>ho AL s2 σ H2 x y v u Q I2 rx ry q)
theorem Vq{op:UnaryOp}{r:V->Hp->VK->Prop}(ho:xX X (unaryOp op) r)(ha:PE X a ta):PE X (.UnaryOp op a pos) (tUn r ta):=by
 intro AL s σ H Q I h;exact UnaryOp_ (bC (ha AL s σ H _ I h) λv s1 ⟨x,H1,I1,r1,q1⟩=>ho AL s1 σ H1 x v Q I1 r1 q1)
theorem yC{f:Value->Value->Sem Value}{C:Int->Int->Prop}{g:Int->Int->Int}
  (rule:∀(i j:Int)(t u:cw)(s:aa)(Q:Value->aa->Prop)(E:Value->aa->Prop),C i j->Q (.int (g i j) s.toks) {s with toks:=s.toks+1}->wpAny (model X.prog X.w) X.A (f (.int i t) (.int j u)) Q E s):
  eD X f (rI C λi j=>.int (g i j)):=by
 intro AL s σ H x y v u Q I rx ry h;obtain⟨i,j,rfl,rfl,hc,q⟩:=h;obtain⟨t,rfl⟩:=rx;obtain⟨t',rfl⟩:=ry;exact rule i j t t' s _ _ hc ⟨.int (g i j),H,I.tok _,⟨_,rfl⟩,q⟩
theorem Wr{f:Value->Value->Sem Value}{g:Int->Int->Int}
  (rule:∀(i j:Int)(t u:cw)(s:aa)(Q:Value->aa->Prop)(E:Value->aa->Prop),Q (.int (g i j) s.toks) {s with toks:=s.toks+1}->wpAny (model X.prog X.w) X.A (f (.int i t) (.int j u)) Q E s):
  eD X f (jG λi j=>.int (g i j)):=by
 intro AL s σ H x y v u Q I rx ry h;obtain⟨i,j,rfl,rfl,q⟩:=h;obtain⟨t,rfl⟩:=rx;obtain⟨t',rfl⟩:=ry;exact rule i j t t' s _ _ ⟨.int (g i j),H,I.tok _,⟨_,rfl⟩,q⟩
theorem Ud{f:Value->Value->Sem Value}{g:Int->Int->Bool}
  (rule:∀(i j:Int)(t u:cw)(s:aa)(Q:Value->aa->Prop)(E:Value->aa->Prop),Q (.bool (g i j)) s->wpAny (model X.prog X.w) X.A (f (.int i t) (.int j u)) Q E s):
  eD X f (jG λi j=>.bl (g i j)):=by
 intro AL s σ H x y v u Q I rx ry h;obtain⟨i,j,rfl,rfl,q⟩:=h;obtain⟨t,rfl⟩:=rx;obtain⟨t',rfl⟩:=ry;exact rule i j t t' s _ _ ⟨.bl (g i j),H,I,rfl,q⟩
def xJ(i j:Int):Prop:=0<=j/\j<=1000000/\i.natAbs<2^64
def Pd(i j:Int):Prop:=(-(2^64)<i/\i<2^64)\/(-(2^64)<j/\j<2^64)
theorem Pd.ok{i j:Int}(h:Pd i j):IntMulOk i j:=by
 rcases h with⟨h1,h2⟩|⟨h1,h2⟩
 .exact .of_left (intBits_le_64 h1 h2)
 .exact .of_right (intBits_le_64 h1 h2)
theorem aaz:eD X (binaryOp .Add) (jG λi j=>.int (i+j)):=Wr λ_ _ _ _ _ _ _ q=>add_int q
theorem Qo:eD X (binaryOp .Sub) (jG λi j=>.int (i-j)):=Wr λ_ _ _ _ _ _ _ q=>sub_int q
theorem P8:eD X (binaryOp .Mod) (rI (λ_ j=>j≠0) λi j=>.int (i.fmod j)):=yC λ_ _ _ _ _ _ _ hc q=>mod_int' hc q
theorem Z9:eD X (binaryOp .Pow) (rI xJ λi j=>.int (i^j.toNat)):=yC λ_ _ _ _ _ _ _ hc q=>pow_int_small hc.1 hc.2.1 hc.2.2 q
theorem unI{f:Value->Sem Value}{g:Int->Int}
  (rule:∀(i:Int)(t:cw)(s:aa)(Q:Value->aa->Prop)(E:Value->aa->Prop),Q (.int (g i) s.toks) {s with toks:=s.toks+1}->wpAny (model X.prog X.w) X.A (f (.int i t)) Q E s):
  xX X f (rU λi=>.int (g i)):=by
 intro AL s σ H x v Q I rx h;obtain⟨i,rfl,q⟩:=h;obtain⟨t,rfl⟩:=rx;exact rule i t s _ _ ⟨.int (g i),H,I.tok _,⟨_,rfl⟩,q⟩
theorem Np:xX X (unaryOp .USub) (rU λi=>.int (-i)):=unI λ_ _ _ _ _ q=>neg_int q
end
section
variable{X:Cx}{a b c:ah}{ta tb tc:TE}{pos:ai}
theorem Hq:eD X (compareOp .Lt) (jG λi j=>.bl (decide (i<j))):=Ud λ_ _ _ _ _ _ _ q=>lt_int q
theorem Er:eD X (compareOp .Gt) (jG λi j=>.bl (decide (j<i))):=Ud λ_ _ _ _ _ _ _ q=>gt_int q
theorem Tq:eD X (compareOp .GtE) (jG λi j=>.bl (decide (j<=i))):=Ud λ_ _ _ _ _ _ _ q=>ge_int q
theorem eD.or{f:Value->Value->Sem Value}{r r':R2}(h:eD X f r)(h':eD X f r'):eD X f (λx y H Q=>r x y H Q\/r' x y H Q):=by
 intro AL s σ H x y v u Q I rx ry q;rcases q with q |q
 .exact h AL s σ H x y v u Q I rx ry q
 .exact h' AL s σ H x y v u Q I rx ry q
theorem kT(b:ah){op:kh}(h:op≠.In:=by decide)(h2:op≠.NotIn:=by decide):behindInMarks op b=false:=by
 have e1:(op==CmpOp.In)=false:=by cases op<;>first |rfl |exact absurd rfl h
 have e2:(op==CmpOp.NotIn)=false:=by cases op<;>first |rfl |exact absurd rfl h2
 cases b<;>simp[behindInMarks,e1,e2]
theorem P7{op:kh}{r:R2}(ho:eD X (compareOp op) r)(ha:PE X a ta)(hb:PE X b tb)(hm:behindInMarks op b=false):PE X (.Compare a [op] [b] pos) (yA r ta tb):=by
 intro AL s σ H Q I h;exact wpAny_Compare1 (Td ha hb I h λv u s2 x y H2 I2 rx ry q=>ho AL s2 σ H2 x y v u Q I2 rx ry q) hm
def abH(t:TE):TT:=λσ H Q=>t σ H λx H'=>∃k,x=.bl k/\Q k H'
theorem U7{op:kh}{r:R2}(ho:eD X (compareOp op) r)(ha:PE X a ta)(hb:PE X b tb)(hm:behindInMarks op b=false):PT X (.Compare a [op] [b] pos) (abH (yA r ta tb)):=by
 intro AL s σ H Q I h;refine zd (bC (ha AL s σ H _ I h) λv s1 ⟨x,H1,I1,r1,q1⟩=>bC (hb AL s1 σ H1 _ I1 q1) λu s2 ⟨y,H2,I2,r2,q2⟩=>
  bC (ho AL s2 σ H2 x y v u _ I2 r1 r2 q2) λc s3 ⟨z,H3,I3,r3,k,e,q3⟩=>?_) hm
 subst e;cases r3;exact ky ⟨H3,I3,q3⟩
def Bs(K:ag)(x:V)(H:Hp)(k:Bool):Prop:=
 match x with
 |.non=>k=false
 |.bl b=>k=b
 |.int i=>k=(i !=0)
 |.str y=>y.length<=sizeLine/\k=((y.length:Int) !=0)
 |.byt y=>y.size<=sizeLine/\k=((y.size:Int) !=0)
 |.ref p=>(∃xs,bS K H p xs/\k=!xs.isEmpty)\/(∃xs,cP K H p xs/\k=!xs.isEmpty)\/∃kvs,H p=some (.dK kvs)/\k=!kvs.isEmpty
 |_=>False
theorem Nv{κ:Type}{kvs:List (κ×V)}{vs:List (κ×Value)}(r:KV kvs vs):(!vs.isEmpty)=!kvs.isEmpty:=by
 cases r<;>rfl
theorem Eh{xs:List V}{its:AD}(r:aX xs its):(!its.toArray.isEmpty)=!xs.isEmpty:=by
 cases r<;>simp
theorem qB:(sizeLine:Nat)<2^63:=by rw[gv];decide
theorem aaS:acJ X (λx H Q=>∃k,Bs X.K x H k/\Q k H):=by
 intro AL s σ H x v Q I rx h;obtain⟨k,e,q⟩:=h;have hl:=qB;have hs:sizeLine=16777216:=gv;cases x with
 |non=>
  cases rx;have e':k=false:=e;subst e';exact truthy_none ⟨H,I,q⟩
 |bl b=>
  cases rx;have e':k=b:=e;subst e';exact ky ⟨H,I,q⟩
 |int i=>
  obtain⟨t,rfl⟩:=rx;have e':k=(i !=0):=e;subst e';exact PySem.P.truthy_int ⟨H,I,q⟩
 |str y=>
  obtain⟨t,rfl⟩:=rx;obtain⟨hy,e'⟩:y.length<=sizeLine/\k=((y.length:Int) !=0):=e;subst e';exact PySem.P.truthy_str (by omega) ⟨H,I.tok _,q⟩
 |byt y=>
  obtain⟨t,rfl⟩:=rx;obtain⟨hy,e'⟩:y.size<=sizeLine/\k=((y.size:Int) !=0):=e;subst e';exact PySem.W.truthy_bytes (by omega) ⟨H,I.tok _,q⟩
 |ref p=>
  cases rx;have e':(∃xs,bS X.K H p xs/\k=!xs.isEmpty)\/(∃xs,cP X.K H p xs/\k=!xs.isEmpty)\/∃kvs,H p=some (.dK kvs)/\k=!kvs.isEmpty:=e;rcases e' with⟨xs,hx,e'⟩|⟨xs,hx,e'⟩|⟨kvs,hx,e'⟩
  .subst e'
   obtain⟨its,r,pl,hz⟩:=I.list hx;have hlen:=r.length;exact wpAny_truthy_list pl.isList (by simp only[ar];omega) ⟨H,I.tok _,by rw[Eh r];exact q⟩
  .subst e'
   obtain⟨its,r,pl,hz⟩:=I.tuple hx;have hlen:=r.length;exact truthy_tuple pl (by simp only[ar];omega) ⟨H,I.tok _,by rw[Eh r];exact q⟩
  .subst e'
   obtain⟨hz,hS,vs,r,m⟩:kvs.length<=sizeLine/\(p==sysModules)=false/\∃vs,KV kvs vs/\s.heap.DictOf (Wa X.prog X.w) p vs:=I.hok p _ hx;have hlen:kvs.length=vs.length:=yw r;exact wpAny_truthy_dict hS m (by omega) ⟨H,I.tok _,by rw[Nv r];exact q⟩
 |_=>exact(show False from e).elim
theorem E2(ha:PE X a ta)(he:∀whole,isTrue a X.env whole=(do let v <-whole;standAt a.pos;holding [v] (truthy v))):
  PT X a (λσ H Q=>ta σ H λx H'=>∃k,Bs X.K x H' k/\Q k H'):=by
 intro AL s σ H Q I h;exact isTrue_plain (bC (ha AL s σ H _ I h) λv s1 ⟨x,H1,I1,r1,q1⟩=>aaS AL s1 σ H1 x v Q I1 r1 q1) (he _)
theorem iY{x:V}{us:AD}(r:aX [x] us):∃u,us=[u]/\bP x u:=by
 cases r with
 |cons r1 r2=>cases r2;exact⟨_,rfl,r1⟩
theorem Jq{x y:V}{us:AD}(r:aX [x,y] us):∃u w',us=[u,w']/\bP x u/\bP y w':=by
 cases r with
 |cons r1 r2=>
  cases r2 with
  |cons r3 r4=>cases r4;exact⟨_,_,rfl,r1,r3⟩
theorem E6:iB X (.builtin "abs") (λxs H Q=>∃i,xs=[.int i]/\Q (.int (if i<0 then-i else i)) H):=by
 intro AL s σ H xs us Q I r h;obtain⟨i,rfl,q⟩:=h;obtain⟨u,rfl,t,rfl⟩:=iY r;exact call_abs_int λu tk=>⟨.int (if i<0 then-i else i),H,I.tok _,⟨_,rfl⟩,q⟩
theorem Gw:iB X (.type "int") (λxs H Q=>(∃i,xs=[.int i]/\Q (.int i) H)\/∃k,xs=[.bl k]/\Q (.int (if k then 1 else 0)) H):=by
 intro AL s σ H xs us Q I r h;rcases h with⟨i,rfl,q⟩|⟨k,rfl,q⟩
 .obtain⟨u,rfl,t,rfl⟩:=iY r
  exact call_int_int ⟨.int i,H,I,⟨_,rfl⟩,q⟩
 .obtain⟨u,rfl,r1⟩:=iY r
  cases r1;exact call_int_bool ⟨.int (if k then 1 else 0),H,I.tok _,⟨_,rfl⟩,q⟩
end
structure Ce(h:Heap)(x dx C:Addr)(mA:Str->AE):Prop where
 obj:h.get? x=some (um C dx)
 ns:h.Ns1 dx mA
 ne:dx≠x
theorem Kw{h:Heap}{dx:Addr}{mA:Str->AE}(n:h.Ns1 dx mA):∃od,h.get? dx=some od/\∀name,vb name od=some (mA name):=by
 obtain⟨o,es,ep,ho,hd,hk,_,hm⟩:=n;refine⟨o,ho,λname=>?_⟩;have e:=hm name;unfold nsFind findBy at e;rw[<-Array.find?_toList]at e;unfold vb;rw[hd];dsimp only;split
 .rename_i y q
  rw[q]at e;exact congrArg some e
 .rename_i q
  rw[q]at e;have a:es.toList.any (·.refKey)=false:=by
   rw[List.any_eq_false];intro y hy;obtain⟨z,t,hkey⟩:=hk y (Array.mem_toList_iff.mp hy);simp[DictEntry.refKey,hkey]
  have a':¬es.toList.any (·.refKey)=true:=by rw[a];exact ir
  rw[if_neg a'];exact congrArg some e
theorem Ce.look{h:Heap}{x dx C:Addr}{mA:Str->AE}(I:Ce h x dx C mA):∃od,PySem.W.InstAt h x (um C dx) C (some od)/\∀name,vb name od=some (mA name):=
 let⟨od,ho,hl⟩:=Kw I.ns
 ⟨od,⟨I.obj,rfl,rfl,ho⟩,hl⟩
section
variable{prog:Program}{w:al}{A:aq}{E:Value->aa->Prop}{s:aa}{K:ag}{x dx C f:Addr}{mA:Str->AE}{name:Str}{v:Value}
end
section
variable{P:Program}{w:al}{H H':Hp}{h h':Heap}{a C dx:Addr}{fs fs':List (Str×V)}
theorem K3(hok:eX P w H h)(e:H a=some (.ins C dx fs)):∃mA,Ce h a dx C mA/\(∀f,Xd (fs.lookup f) (mA f))/\yx mA (fs.map (·.1))/\fs.length<=1000/\H dx=some (.own a):=by
 obtain⟨d,z,ne,ob,mA,n,r,q⟩:=(show fJ P w H h a (.ins C dx fs) from hok a _ e);exact⟨mA,⟨ob,n,ne⟩,r,q,z,d⟩
end
structure Ke(K:ag)(C:Addr):Prop where
 pg:ze K C Str.empty=true
 hd:PySem.W.hasDictIn K C=true
 po:PySem.W.plainOver K C=true
 sa:vd K (.ref C) "__setattr__"=some (some (.builtin "object.__setattr__"))
theorem Ke.get{K:ag}{C:Addr}(c:Ke K C)(f:Str):ze K C f=true:=c.pg
structure Fe(K:ag)(C:Addr)(f:Str)(v:V)(u:Value):Prop where
 at_:vd K (.ref C) f=some (some u)
 rel:bP v u
 get:zf K u "__get__"=some none
 cp:PySem.W.copiedNames.contains f=false
section
variable{X:Cx}{AL:List (Addr×Obj)}{σ:St}{H:Hp}{s:aa}{a C dx:Addr}{fs:List (Str×V)}{f:Str}{v:V}{A:aq}{E:Value->aa->Prop}
end
section
variable{X:Cx}{o e value:ah}{f:Str}{pos pos' tpos:ai}{ta tv:TE}
end
section
variable{X:Cx}{AL:List (Addr×Obj)}{σ:St}{H:Hp}{s:aa}{A:aq}{E:Value->aa->Prop}{Q:Value->aa->Prop}{c:Value}{b:Bool}
inductive jB(K:ag)(H:Hp):V->Value->Prop where
 |non:jB K H .non (.type "NoneType")
 |bl (x:Bool):jB K H (.bl x) (.type "bool")
 |int (i:Int):jB K H (.int i) (.type "int")
 |str (x:Str):jB K H (.str x) (.type "str")
 |flt (x:UInt64):jB K H (.flt x) (.type "float")
 |lst {a:Addr} {xs:List V} (e:H a=some (.lst xs)):jB K H (.ref a) (.type "list")
 |frz {a:Addr} {o:Obj} {xs:List V} (e:H a=some (.frz o (.lst xs))):jB K H (.ref a) (.type "list")
 |tup {a:Addr} {xs:List V} (e:H a=some (.tup xs)):jB K H (.ref a) (.type "tuple")
 |dK {a:Addr} {kvs:List (gL×V)} (e:H a=some (.dK kvs)):jB K H (.ref a) (.type "dict")
 |dT {a:Addr} {kvs:List (List gL×V)} (e:H a=some (.dT kvs)):jB K H (.ref a) (.type "dict")
 |ins {a C dx:Addr} {fs:List (Str×V)} (e:H a=some (.ins C dx fs)) (cl:Ke K C) (ha:vd K (.ref C) "__class__"=some (some (.builtin "object.__class__")))
   (hn:zf K (.builtin "object.__class__") "__get__"=some (some (.builtin "getset_descriptor.__get__"))) (htk:PySem.W.takesIn K (.builtin "object.__class__")=some true)
   (hm:PySem.W.mroIn K C (.type "object")=some true):jB K H (.ref a) (.ref C)
theorem Yx{x:V}{u t:Value}(I:aF X AL σ H s)(rx:bP x u)(ty:jB X.K H x t)(e:kl X.K t c=some b)(h:∀tk,Q (.bool b) {s with toks:=tk}):
  wpAny (model X.prog X.w) A (call (.builtin "isinstance") [u,c]) Q E s:=by
 cases ty with
 |non=>cases(show u=bf from rx);exact ix PySem.W.kitx_none I.kIn ou e (λz=>nomatch z) h
 |bl y=>cases(show u=qp y from rx);exact ix PySem.W.kitx_bool I.kIn ou e (λz=>nomatch z) h
 |int i=>obtain⟨t,q⟩:=(show ∃t,u=oj i t from rx);cases q;exact ix PySem.W.kitx_int I.kIn ou e (λz=>nomatch z) h
 |str y=>obtain⟨t,q⟩:=(show ∃t,u=ul y t from rx);cases q;exact ix PySem.W.kitx_str I.kIn ou e (λz=>nomatch z) h
 |flt y=>obtain⟨t,q⟩:=(show ∃t,u=Value.float y t from rx);cases q;exact ix PySem.W.kitx_float I.kIn ou e (λz=>nomatch z) h
 |@lst a xs ea=>
  cases(show u=cq a from rx);obtain⟨_,_,n,_,h1⟩:=(show fJ X.prog X.w H s.heap a (.lst xs) from I.hok a _ ea);exact ix ve I.kIn ⟨_,h1,rfl⟩ e (λz=>nomatch z) h
 |@frz a ob xs ea=>
  cases(show u=cq a from rx);obtain⟨_,_,_,n,_,h1⟩:=(show fJ X.prog X.w H s.heap a (.frz ob (.lst xs)) from I.hok a _ ea);exact ix ve I.kIn ⟨_,h1,rfl⟩ e (λz=>nomatch z) h
 |@tup a xs ea=>
  cases(show u=cq a from rx);obtain⟨_,_,_,p⟩:=(show fJ X.prog X.w H s.heap a (.tup xs) from I.hok a _ ea);obtain⟨o,h1,h2,_⟩:=p;exact ix zg I.kIn ⟨o,h1,h2⟩ e (λz=>nomatch z) h
 |@dK a kvs ea=>
  cases(show u=cq a from rx);obtain⟨_,_,vs,_,p⟩:=(show fJ X.prog X.w H s.heap a (.dK kvs) from I.hok a _ ea);obtain⟨o,es,ep,h1,h2,_⟩:=p;exact ix zh I.kIn ⟨o,h1,h2.1⟩ e (λz=>nomatch z) h
 |@dT a kvs ea=>
  cases(show u=cq a from rx);obtain⟨_,_,xs,_,o,es,ep,h1,h2,_⟩:=(show fJ X.prog X.w H s.heap a (.dT kvs) from I.hok a _ ea);exact ix zh I.kIn ⟨o,h1,h2.1⟩ e (λz=>nomatch z) h
 |@ins a C dx fs ea cl ha hn htk hm=>
  cases(show u=cq a from rx);obtain⟨mA,O,_⟩:=K3 I.hok ea;obtain⟨od,J,_⟩:=O.look;exact ix (PySem.W.kitx_own (cl.get _) cl.hd ha hn htk hm) I.kIn J e (λz=>nomatch z) h
end
structure dP(k:Nat)(A:aq):Prop where
 hd:A.handled=none
 dp:A.depth+3*k+5<recursionLimit
 un:A.units+16*k+200<cLine
theorem dP.mono{j k:Nat}{A:aq}(r:dP k A)(h:j<=k):dP j A:=⟨r.hd,by have:=r.dp;omega,by have:=r.un;omega⟩
theorem dP.deeper{k:Nat}{A:aq}(r:dP (k+1) A)(env:bh):dP k (A.deeper env):=
 ⟨r.hd,by have:=r.dp;show A.depth+1+3*k+5<_;omega,by have:=r.un;show A.units+3+16*k+200<_;omega⟩
theorem dP.depth{k:Nat}{A:aq}(r:dP k A):A.depth<recursionLimit:=by have:=r.dp;omega
theorem dP.units{k:Nat}{A:aq}(r:dP k A):A.units+64<cLine:=by have:=r.un;omega
def acw:TA:=λ_ H Q=>Q [] H
def abE(ta:TE)(tr:TA):TA:=λσ H Q=>ta σ H λx H1=>tr σ H1 λxs H2=>Q (x::xs) H2
section
variable{X:Cx}{e:ah}{es:List ah}{te:TE}{t:TA}{pos:ai}
theorem kW:PA X [] acw:=λ_ _ _ _ H Q I h=>Calls.spliced_nil ⟨[],H,I,.nil,h⟩
theorem jL(ha:PE X e te)(hr:PA X es t)(hs:starEach (e::es) X.env=(false,eval e X.env)::starEach es X.env:=by rfl):PA X (e::es) (abE te t):=by
 intro pos AL s σ H Q I h;rw[hs];show wpAny _ _ (spliced ((false,eval e X.env)::backTo pos (starEach es X.env))) _ _ s;refine Calls.spliced_cons (bC (ha AL s σ H _ I h) λu s1 hq=>?_);rcases hq with⟨x,H1,I1,r1,q1⟩;exact bC (hr pos AL s1 σ H1 _ I1 q1) λus s2 ⟨xs,H2,I2,r2,q2⟩=>⟨x::xs,H2,I2,.cons r1 r2,q2⟩
def acg(t:TA):TE:=λσ H Q=>t σ H λxs H1=>xs.length<=sizeLine/\∀p,H1 p=none->Q (.ref p) (aK H1 p (.tup xs))
def acF(t:TA):TE:=λσ H Q=>t σ H λxs H1=>xs.length<=sizeLine/\∀p,H1 p=none->Q (.ref p) (aK H1 p (.lst xs))
theorem abe{x1}(h:PA X es t):PE X (.Tuple es x1 pos) (acg t):=by
 intro AL s σ H Q I hq;refine wpAny_Tuple_spliced (bC (h pos AL s σ H _ I hq) λus s1 ⟨xs,H1,I1,r,z,q⟩=>⟨by rw[<-r.length];exact z,?_⟩);have hf:H1 s1.heap.objs.size=none:=I1.hok.fresh (aj _);refine⟨.ref s1.heap.objs.size,aK H1 s1.heap.objs.size (.tup xs),I1.laid (t':=s1.toks) (λb u e=>ao _ e) (aj _) ?_,rfl,q _ hf⟩;exact⟨z,us,r,⟨_,cx _ rfl,rfl,_,rfl⟩⟩
theorem vY(h:PA X es t):PE X (.List es pos) (acF t):=by
 intro AL s σ H Q I hq;refine wpAny_List_spliced (bC (h pos AL s σ H _ I hq) λus s1 ⟨xs,H1,I1,r,z,q⟩=>⟨by rw[<-r.length];exact z,?_⟩);have hf:H1 s1.heap.objs.size=none:=I1.hok.fresh (aj _);refine⟨.ref s1.heap.objs.size,aK H1 s1.heap.objs.size (.lst xs),I1.laid (t':=s1.toks) (λb u e=>ao _ e) (aj _) ?_,rfl,q _ hf⟩;exact⟨z,us,0,r,cx _ rfl⟩
end
abbrev Sp:=List V->Hp->VK->XK->Prop
abbrev iT:=List bh->Hp->aa->XK->Value->aa->Prop
structure xO(P:Program)(w:al)(K:ag)(mg:Str->AE)(base:Heap)(A:aq)(outer:List bh)(s:aa)(H:Hp):Prop where
 frames:A.frames=some outer
 mod:Mod K mg base
 bs:∀b o,base.get? b=some o->s.heap.get? b=some o/\H b=none
 bsz:base.objs.size<=s.heap.objs.size
 funs:s.heap.FunFrames base outer
 frf:∀b∈eJ outer,H b=none
 hok:eX P w H s.heap
 bare:jl s.gens
def CE(outer:List bh)(P:Program)(w:al)(H:Hp)(s:aa)(Q:VK)(u:Value)(s':aa):Prop:=
 ∃v H',s'.os=s.os/\jl s'.gens/\Un (eJ outer) [] H H' s.heap s'.heap/\eX P w H' s'.heap/\bP v u/\Q v H'
def CR(CX:iT)(outer:List bh)(P:Program)(w:al)(H:Hp)(s:aa)(Q:VK)(E:XK)(r:ow)(s':aa):Prop:=
 match r with
 |.ok (.ret u)=>CE outer P w H s Q u s'
 |.ok _=>False
 |.error e=>CX outer H s E e s'
structure eG(P:Program)(w:al)(K:ag)(mg:Str->AE)(base:Heap)(CX:iT)(k:Nat)(f:Addr)(fd:cf)(ps:List Str)(sp:Sp):Prop where
 len:∀vs H Q E,sp vs H Q E->vs.length=ps.length
 run:∀(A:aq)(outer:List bh)(s:aa)(H:Hp)(args:Args)(us:AD)(vs:List V)(Q:VK)(E:XK),dP k A->xO P w K mg base A outer s H->nh s fd args (ps.zip us)->aX vs us->sp vs H Q E->
  codeAny (model P w) A (.call (.ref f) args) (CR CX outer P w H s Q E) s
theorem eG.imp{P:Program}{w:al}{K:ag}{mg:Str->AE}{base:Heap}{CX:iT}{k:Nat}{f:Addr}{fd:cf}{ps:List Str}{sp sp':Sp}(F:eG P w K mg base CX k f fd ps sp)
  (h:∀vs H Q E,sp' vs H Q E->sp vs H Q E):eG P w K mg base CX k f fd ps sp':=
 ⟨λvs H Q E q=>F.len vs H Q E (h _ _ _ _ q),λA outer s H args us vs Q E hr he hb hv hs=>F.run A outer s H args us vs Q E hr he hb hv (h _ _ _ _ hs)⟩
section
variable{X:Cx}{AL:List (Addr×Obj)}{σ:St}{H:Hp}{s s':aa}
theorem aF.env0(I:aF X AL σ H s):xO X.prog X.w X.K X.mg X.base X.A X.stack s H:=
 ⟨I.ok.frames,I.ok.mod,I.bs,fh I.ok.bsz I.sz,I.stack,I.stkFree,I.hok,I.bare⟩
theorem aF.after{Q:VK}{u:Value}(I:aF X AL σ H s)(h:CE X.stack X.prog X.w H s Q u s'):EP X AL σ Q u s':=by
 obtain⟨v,H',os,bare,un,hok,r,q⟩:=h;obtain⟨hh,g,d,t,os'⟩:=s';obtain rfl:os'=s.os:=os;exact⟨v,H',I.call (h':=hh) (g':=g) (d':=d) (t':=t) (ch:=[]) un hok bare (λb z=>absurd z (by simp)),r,q⟩
end
def abt(sp:Sp)(dvs:List V)(E:XK)(t:TA):TE:=λσ H Q=>t σ H λvs H1=>sp (vs++dvs) H1 Q E
def iX(K:ag)(fd:cf)(ps:List Str)(ds:AD):Prop:=
 ∀(s:aa)(us:AD),K.In s.heap->(us++ds).length=ps.length->nh s fd ⟨us,[]⟩ (ps.zip (us++ds))
theorem iX.all{K:ag}{fd:cf}{ps:List Str}(h:∀us:AD,us.length=ps.length->bindArgs fd ⟨us,[]⟩=pure (ps.zip us)):iX K fd ps []:=λs us _ hl=>by
 rw[la]at hl⊢;exact .of_eq (h us hl)
def Lc(CX:iT)(X:Cx)(E:XK):Prop:=∀(AL:List (Addr×Obj))(σ:St)(H:Hp)(s:aa)(e:Value)(s':aa),aF X AL σ H s->CX X.stack H s E e s'->X.xe e s'
section
variable{X:Cx}{CX:iT}{k:Nat}{f C:Addr}{fd:cf}{ps:List Str}{sp:Sp}{dvs:List V}{ds:AD}{E:XK}{x m:Str}{p pos apos:ai}{e o:ah}{es:List ah}{ta:TE}{t:TA}
theorem aaA{AL:List (Addr×Obj)}{σ:St}{H:Hp}{s:aa}{Q:VK}{us:AD}{vs:List V}(F:eG X.prog X.w X.K X.mg X.base CX k f fd ps sp)(hr:dP k X.A)(hb:iX X.K fd ps ds)(hd:aX dvs ds)(hx:Lc CX X E)
  (I:aF X AL σ H s)(r:aX vs us)(h:sp (vs++dvs) H Q E):wpAny (model X.prog X.w) X.A (call (.ref f) us) (EP X AL σ Q) X.xe s:=by
 have r2:aX (vs++dvs) (us++ds):=r.append hd;have hl:(us++ds).length=ps.length:=by rw[<-r2.length];exact F.len _ _ _ _ h
 refine wpAny_call (ox (F.run X.A X.stack s H ⟨us,[]⟩ (us++ds) (vs++dvs) Q E hr I.env0 (hb s us I.kIn hl) r2 h) λr s' hq=>?_);cases r with
 |error e=>exact hx AL σ H s e s' I hq
 |ok fl=>
  cases fl with
  |ret u=>exact I.after hq
  |next=>exact jm hq
  |brk=>exact jm hq
  |cont=>exact jm hq
theorem rR(F:eG X.prog X.w X.K X.mg X.base CX k f fd ps sp)(hr:dP k X.A)(hg:Gl X x)(hm:X.mg x=some (.ref f))(hk:fz X.K (.ref f)=true)(hb:iX X.K fd ps ds)(hd:aX dvs ds)(hx:Lc CX X E)
  (ha:PA X (e::es) t)(hdb:(x==("__debug__":Str))=false:=by decide)(he:starEach (e::es) X.env=(false,eval e X.env)::starEach es X.env:=by rfl)(hpl:(backTo pos (starEach es X.env)).any (·.1)=false:=by rfl):
  PE X (.Call (.Name x p) (e::es) [] pos) (abt sp dvs E t):=by
 intro AL s σ H Q I h;refine vf (Ab I hg hm ?_ hdb);refine PySem.W.callWith_K (h₀:=X.base) I.ok.mod.kin hk (bC (ha pos AL s σ H _ I h) λus s1 ⟨vs,H1,I1,r,q⟩=>⟨I1.kIn,?_⟩) he hpl;exact aaA F hr hb hd hx I1 r q
end
section
variable{X:Cx}{CX:iT}{k:Nat}{f C:Addr}{fd:cf}{ps ks:List Str}{sp:Sp}{E:XK}{x m:Str}{p pos apos kpos:ai}{e o:ah}{es:List ah}{kws:List ft}{te ta:TE}{t tk:TA}{nm:Option Str}
variable{g:AD->AD->AD}{gV:List V->List V->List V}
end
structure jM(N P:List Str)(sc:Scope):Prop where
 kind:sc.kind=.function
 co:sc.isCoroutine=false
 gen:sc.isGenerator=false
 nd:N.Nodup
 pre:N.take P.length=P
 par:∀x∈P,sc.names.lookup x=some .local\/sc.names.lookup x=some .cell
 nofree:∀y∈sc.names,y.2≠.free
theorem Ei{kindOf:Str->Option fu}{x:Str}:∀{binds:List (Str×Value)}{m:Str->AE},(∀v,(x,v)∉binds)->bindL kindOf binds m x=m x
 |[],_,_=>rfl
 |(n,v)::r,m,h=>by
  unfold bindL;rw[Ei λw hw=>h w (bn _ hw)];split
  .have:x≠n:=by rintro rfl;exact h v ay
   simp[this]
  .rfl
theorem Ri{kindOf:Str->Option fu}{x:Str}:∀{binds:List (Str×Value)}{m:Str->AE},(∀v,(x,v)∉binds)->bindC kindOf binds m x=m x
 |[],_,_=>rfl
 |(n,v)::r,m,h=>by
  unfold bindC;rw[Ri λw hw=>h w (bn _ hw)];split
  .rfl
  .have:x≠n:=by rintro rfl;exact h v ay
   simp[this]
theorem Qh{kindOf:Str->Option fu}{x:Str}{v:Value}:∀{P:List Str}{vs:AD}{i:Nat}{m:Str->AE},P.Nodup->P[i]?=some x->vs[i]?=some v->kindOf x=some .local->
  bindL kindOf (P.zip vs) m x=some v
 |[],_,_,_,_,h,_,_=>by simp at h
 |_::_,[],_,_,_,_,h,_=>by simp at h
 |p::P,w::vs,0,m,nd,h1,h2,hk=>by
  simp at h1 h2;subst h1;subst h2;show bindL kindOf ((p,w)::P.zip vs) m p=_;unfold bindL;rw[Ei λv hv=>(jn.mp nd).1 (vg hv).1,if_pos hk];simp
 |p::P,w::vs,i+1,m,nd,h1,h2,hk=>by
  show bindL kindOf ((p,w)::P.zip vs) m x=_;unfold bindL;exact Qh (i:=i) (jn.mp nd).2 (by simpa using h1) (by simpa using h2) hk
theorem Hi{kindOf:Str->Option fu}{x:Str}{v:Value}:∀{P:List Str}{vs:AD}{i:Nat}{m:Str->AE},P.Nodup->P[i]?=some x->vs[i]?=some v->kindOf x≠some .local->
  bindC kindOf (P.zip vs) m x=some v
 |[],_,_,_,_,h,_,_=>by simp at h
 |_::_,[],_,_,_,_,h,_=>by simp at h
 |p::P,w::vs,0,m,nd,h1,h2,hk=>by
  simp at h1 h2;subst h1;subst h2;show bindC kindOf ((p,w)::P.zip vs) m p=_;unfold bindC;rw[Ri λv hv=>(jn.mp nd).1 (vg hv).1,if_neg hk];simp
 |p::P,w::vs,i+1,m,nd,h1,h2,hk=>by
  show bindC kindOf ((p,w)::P.zip vs) m x=_;unfold bindC;exact Hi (i:=i) (jn.mp nd).2 (by simpa using h1) (by simpa using h2) hk
def start(N:List Str)(vs:List V):St:=vs.map some++qu (N.length-vs.length) none
def fK(CX:iT)(P:Program)(w:al)(K:ag)(mg:Str->AE)(base:Heap)(N:List Str)(qual:Str)(scope:Scope)(f:Addr)(cd:Value)(A:aq)(outer:List bh)(s:aa)(H:Hp)(E:XK):Cx where
 prog:=P
 w:=w
 K:=K
 mg:=mg
 base:=base
 A:=A.deeper (envOfC qual scope s.heap.objs.size f cd)
 N:=N
 AM:=s
 AN:=H
 env:=envOfC qual scope s.heap.objs.size f cd
 outer:=outer
 stack:=envOfC qual scope s.heap.objs.size f cd::outer
 ex:=[]
 calm:=true
 fn:=λ_=>true
 pn:=[]
 xe:=λe s'=>wpAny (model P w) (A.deeper (envOfC qual scope s.heap.objs.size f cd)) (leaving (envOfC qual scope s.heap.objs.size f cd) e) (λ_ s''=>CX outer H s E e s'') (λe' s''=>CX outer H s E e' s'') s'
theorem Xj{sc:Scope}{n:Nat}{x:Str}(h:sc.names.lookup x=some .cell):∃c,(cellsFrom n sc.names []).lookup x=some c:=by
 have q:=zi sc.names n [] (.inl h);exact Option.isSome_iff_exists.mp q
theorem Zw{CX:iT}{P:Program}{w:al}{K:ag}{mg:Str->AE}{base:Heap}{N ps:List Str}{qual:Str}{scope:Scope}{f:Addr}{cd:Value}{A:aq}{outer:List bh}{s s1:aa}{H:Hp}{E:XK}{us:AD}{vs:List V}
  (S:jM N ps scope)(hd:A.handled=none)(e0:xO P w K mg base A outer s H)(hl:vs.length=ps.length)(r:aX vs us)
  (x:InCallC s s.heap.objs.size (bindL (envOfC qual scope s.heap.objs.size f cd).kindOf (ps.zip us) λ_=>none) (cellsFrom (s.heap.objs.size+1) scope.names []) (bindC (envOfC qual scope s.heap.objs.size f cd).kindOf (ps.zip us) λ_=>none) s1):
  aF (fK CX P w K mg base N qual scope f cd A outer s H E) [] (start N vs) H s1:=by
 have hpl:ps.length<=N.length:=by have:=congrArg qv S.pre;rw[jt]at this;omega
 obtain⟨h1,tk,rfl,hk⟩:=x.done;have noA:∀b:Addr,b∉(fK CX P w K mg base N qual scope f cd A outer s H E).ex:=λb z=>absurd (show b∈([]:List Addr) from z) (by simp);refine⟨⟨e0.mod,S.kind,rfl,rfl,aj _,λy z c h1 h2=>?_,λy hy=>?_,λy c _ h=>?_,λ_=>hd,Around.frames_deeper e0.frames,.inr ⟨rfl,rfl⟩,λb z=>absurd z (noA b),e0.bs,e0.bsz,λb _ _=>noA b,λb z=>absurd z (noA b),e0.funs,e0.frf⟩,
  rfl,e0.bare,Un.kept hk,⟨_,x.toInCall.ns,λi y v h1 h2 h3=>?_⟩,λy c h=>⟨_,x.cell y c h⟩,e0.hok.fresh (aj _),λy c h=>?_,λp hp=>absurd (show p∈([]:List (Addr×Obj)) from hp) (by simp),e0.hok.kept hk,?_⟩
 .exact name_of_addr x.apart (jo h1) (jo h2)
 .have hy:scope.names.lookup y=some .cell\/scope.names.lookup y=some .free:=hy
  rcases hy with hy |hy
  .exact Xj hy
  .exact absurd rfl (S.nofree _ (jo hy))
 .exact om (x.above y c (jo h))
 .have hi:i<vs.length:=by
   unfold start at h2
   by_cases hi:i<vs.length
   .exact hi
   .rw[dg (by simpa using hi)]at h2
    rw[zj]at h2;split at h2<;>cases h2
  have ha:vs[i]?=some v:=by
   unfold start at h2;rw[ff (by simpa using hi),av]at h2;cases e:vs[i]? with
   |none=>rw[e]at h2;cases h2
   |some a=>rw[e]at h2;cases h2;rfl
  obtain⟨u,hu,rv⟩:=r.get ha;have hp:ps[i]?=some y:=by
   rw[<-S.pre,List.getElem?_take_of_lt (by omega)];exact h1
  have ndP:ps.Nodup:=by rw[<-S.pre];exact S.nd.sublist (List.take_sublist _ _)
  refine⟨u,rv,?_⟩;rcases S.par y (cu hp)with k |k
  .exact .inl ⟨k,Qh ndP hp hu k⟩
  .obtain⟨c,e⟩:=Xj (n:=s.heap.objs.size+1) k
   refine .inr ⟨.inl k,c,e,?_⟩;have q:=x.cell y c e;rw[Hi ndP hp hu (by show scope.names.lookup y≠_;rw[k];decide)]at q;exact q
 .exact e0.hok.fresh (om (x.above y c (jo h)))
 .unfold start
  show _=N.length;rw[bi,am,zk];omega
theorem Rq{CX:iT}{P:Program}{w:al}{K:ag}{mg:Str->AE}{base:Heap}{k:Nat}{f:Addr}{name qual:Str}{params:Arguments}{body:List Stmt}{scope:Scope}{dV kV doc pm cdv ct oc:Value}{an od:AF}
  {osl:Array AE}{N ps:List Str}{sp:Sp}(lk:K.lookup f=some ⟨oc,od,.func (eh name qual params body scope dV kV doc pm an cdv ct),osl⟩)(hcd:ju K cdv qual=true)(S:jM N ps scope)
  (len:∀vs H Q E,sp vs H Q E->vs.length=ps.length)
  (hbody:∀(A:aq)(outer:List bh)(s:aa)(H:Hp)(vs:List V)(Q:VK)(E:XK),dP k (A.deeper (envOfC qual scope s.heap.objs.size f cdv))->sp vs H Q E->
   ∃t,gB (fK CX P w K mg base N qual scope f cdv A outer s H E) body t/\t {nx:=λ_ H'=>Q .non H',rt:=Q} (start N vs) H):
  eG P w K mg base CX (k+1) f (eh name qual params body scope dV kV doc pm an cdv ct) ps sp:=by
 refine⟨len,λA outer s H args us vs Q E hr e0 hb r hsp=>?_⟩;have hl:=len _ _ _ _ hsp;have KX:K.In s.heap:=e0.mod.kin.keeps λb o e=>(e0.bs b o e).1;have lim:s.heap.NoLimit:=e0.mod.nolimit.keeps λb o e=>(e0.bs b o e).1;have hkind:∀y∈ps.zip us,scope.names.lookup y.1=some .local\/(scope.names.lookup y.1=some .cell/\((cellsFrom (s.heap.objs.size+1) scope.names []).lookup y.1).isSome=true):=λ⟨n,v⟩ hy=>by
  rcases S.par n (vg hy).1 with q |q
  .exact .inl q
  .exact .inr ⟨q,zi _ _ _ (.inl q)⟩
 refine codeAny_call_function hr.depth (KX _ _ lk) rfl S.co S.gen rfl (PySem.W.codeRec_of KX hcd) (hb _ _ _ _ ?_);refine wpAny_newFunctionEnv_cells S.kind hkind λenv he s1 x=>?_;subst he;refine⟨lim.keeps x.toInCall.keep,codeAny_func ?_⟩;obtain⟨t,ht,hq⟩:=hbody A outer s H vs Q E (hr.deeper _) hsp;have I:aF (fK CX P w K mg base N qual scope f cdv A outer s H E) [] (start N vs) H s1:=Zw S hr.hd e0 hl r x;refine fj (ht [] s1 (start N vs) H _ I hq) (λfl s' hs=>?_) λe s' hs=>hs;have fin:∀{σ':St}{H':Hp}{v:V}{u:Value},aF (fK CX P w K mg base N qual scope f cdv A outer s H E) [] σ' H' s'->bP v u->Q v H'->CE outer P w H s Q u s':=
  λ{σ' H' v u} J rv q=>⟨v,H',J.os,J.bare,J.base,J.hok,rv,q⟩
 cases fl with
 |ret u=>
  obtain⟨v,σ',H',J,rv,q⟩:=hs;exact fin J rv q
 |next=>
  obtain⟨σ',H',J,q⟩:=hs;exact fin (v:=V.non) (u:=bf) J rfl q
 |brk=>
  obtain⟨_,_,_,q⟩:=hs;exact jm q
 |cont=>
  obtain⟨_,_,_,q⟩:=hs;exact jm q
section
variable{X:Cx}{x:Str}{p pos:ai}{e:ah}{es:List ah}{t:TA}{id T:String}{r:List V->Hp->VK->Prop}
def Cs(r:List V->Hp->VK->Prop)(t:TA):TE:=λσ H Q=>t σ H λvs H1=>r vs H1 Q
theorem uY(hc:iB X (.builtin id) r)(hg:Gl X x)(hm:X.mg x=none)(hv:bootBuiltins x=some (.builtin id))(ha:PA X (e::es) t)(hn:x≠"__name__":=by decide)(hdb:(x==("__debug__":Str))=false:=by decide)
  (he:starEach (e::es) X.env=(false,eval e X.env)::starEach es X.env:=by rfl)(hpl:(backTo pos (starEach es X.env)).any (·.1)=false:=by rfl):PE X (.Call (.Name x p) (e::es) [] pos) (Cs r t):=by
 intro AL s σ H Q I h;refine vf (oH I hg hm hv ?_ hn hdb);exact PyProof.Rows.callWith_builtin1 (bC (ha pos AL s σ H _ I h) λus s1 ⟨vs,H1,I1,r1,q1⟩=>hc AL s1 σ H1 vs us Q I1 r1 q1) he hpl
theorem uH(hc:iB X (.type T) r)(hg:Gl X x)(hm:X.mg x=none)(hv:bootBuiltins x=some (.type T))(ha:PA X (e::es) t)(hn:x≠"__name__":=by decide)(hdb:(x==("__debug__":Str))=false:=by decide)
  (he:starEach (e::es) X.env=(false,eval e X.env)::starEach es X.env:=by rfl)(hpl:(backTo pos (starEach es X.env)).any (·.1)=false:=by rfl):PE X (.Call (.Name x p) (e::es) [] pos) (Cs r t):=by
 intro AL s σ H Q I h;refine vf (oH I hg hm hv ?_ hn hdb);exact ot (bC (ha pos AL s σ H _ I h) λus s1 ⟨vs,H1,I1,r1,q1⟩=>hc AL s1 σ H1 vs us Q I1 r1 q1) he hpl
end
end L2
namespace HT
open PySem PyProof.Rows
def lexLt:AA->AA->Bool
 |[],[]=>false
 |[],_::_=>true
 |_::_,[]=>false
 |x::xs,y::ys=>if x=y then lexLt xs ys else decide (x<y)
theorem lexLt_cons(x y:Int)(xs ys:AA):lexLt (x::xs) (y::ys)=if x=y then lexLt xs ys else decide (x<y):=rfl
section
open PySem.SeqAt
open PySem.AutoSeq1 (wpAny_loadPart')
open PySem.MeetsSeq PySem.MeetsSeq2 PySem.MeetsSeq3
end
section
variable{prog:Program}{w:al}{A:aq}{E:Value->aa->Prop}{s:aa}
theorem cat_tup{t b:Addr}{vs ws:AD}{Q:Value->aa->Prop}(ht:IsTup s.heap t vs.toArray)(hb:IsTup s.heap b ws.toArray)(hv:vs≠[])
  (h1:ws=[]->Q (.ref t) s)(h2:ws≠[]->Q (.ref s.heap.objs.size) {s with heap:=s.heap.push {cls:=.type "tuple",data:=.seq (vs++ws).toArray}})
  (hsz:vs.length+ws.length<=sizeLine):wpAny (model prog w) A (binaryOp .Add (.ref t) (.ref b)) Q E s:=by
 obtain⟨⟨cls,dd,data,sl⟩,ho,hc,n,hd⟩:=id ht;obtain⟨⟨cls2,dd2,data2,sl2⟩,ho2,hc2,n2,hd2⟩:=id hb;simp only at hc hd hc2 hd2;subst hc hd hc2 hd2;have e:vs.toArray++ws.toArray=(vs++ws).toArray:=by simp
 by_cases hw:ws=[]
 .exact vh ⟨_,ho,rfl⟩ ⟨_,ho2,rfl⟩ noFill_tuple_add seq_tuple_add zl zm (zn _ _)
   (tuple_addW1 t b vs.toArray ws.toArray n n2 dd dd2 sl sl2 (by simpa using hv) (by simp[hw])) ⟨ho,ho2,h1 hw⟩
 .refine vh ⟨_,ho,rfl⟩ ⟨_,ho2,rfl⟩ noFill_tuple_add seq_tuple_add zl zm (zn _ _)
   (tuple_addW2 t b vs.toArray ws.toArray n n2 dd dd2 sl sl2 (by simpa using hv) (by simpa using hw) (by rw[ar,ar];exact hsz)) ⟨ho,ho2,?_⟩
  rw[e];exact h2 hw
def sIx(n d:Nat):AG->Nat
 |none=>d
 |some v=>if v<0 then(v+(n:Int)).toNat else min v.toNat n
theorem sIx_nat(n d k:Nat):sIx n d (some (k:Int))=min k n:=by
 show(if(k:Int)<0 then((k:Int)+(n:Int)).toNat else min (k:Int).toNat n)=min k n;rw[if_neg (by omega),lc]
theorem aai(n d:Nat)(hd:d<=n)(o:AG):sIx n d o<=n:=by
 cases o with
 |none=>exact hd
 |some v=>
  show(if v<0 then(v+(n:Int)).toNat else min v.toNat n)<=n
  by_cases hv:v<0
  .rw[if_pos hv];omega
  .rw[if_neg hv];exact Nat.min_le_right _ _
theorem Ol(v:Int)(n d:Nat):(if v<0 then max (v+(n:Int)) 0 else min v (n:Int))=((sIx n d (some v):Nat):Int):=by
 show(if v<0 then max (v+(n:Int)) 0 else min v (n:Int))=(((if v<0 then(v+(n:Int)).toNat else min v.toNat n):Nat):Int)
 by_cases hv:v<0
 .simp only[if_pos hv];omega
 .simp only[if_neg hv];omega
theorem Fv(lo hi:AG)(n:Nat):vj lo hi 1 (n:Int)=(((sIx n 0 lo:Nat):Int),((sIx n n hi:Nat):Int)):=by
 have h1:¬((1:Int)<0):=by omega
 unfold vj;simp only[h1,if_false];refine qw ?_ ?_
 .cases lo with
  |none=>rfl
  |some v=>exact Ol v n 0
 .cases hi with
  |none=>rfl
  |some v=>exact Ol v n n
theorem Uu(i j:Nat):qx (i:Int) (j:Int) 1=j-i:=by
 unfold qx;have h1:(1:Int)>0:=by omega
 simp only[h1,if_true,Int.ediv_one];split<;>omega
theorem Vg{v:Value}{o:AG}{Q:AG->aa->Prop}(p:km v o)(h:Q o s):wpAny (model prog w) A (Builtin.Slice.slicePartIndex v) Q E s:=by
 cases p with
 |none=>exact slicePart_none h
 |int i t=>exact slicePart_int h
theorem Rs{sl:Addr}{vl vu:Value}{lo hi:AG}{n:Nat}{Q:Int×Int×Nat->aa->Prop}(hs:s.heap.IsSliceOf sl vl vu .none)(pl:km vl lo)(pu:km vu hi)
  (h:Q (((sIx n 0 lo:Nat):Int),1,sIx n n hi-sIx n 0 lo) s):wpAny (model prog w) A (zo (.ref sl) (pure (n:Int))) Q E s:=by
 obtain⟨os,hos,hcs,hds⟩:=id hs;unfold zo Builtin.Slice.sliceFields;refine ae (ae (gw hos hds (x:=vl) rfl (ae (gw hos hds (x:=vu) rfl (ae (gw hos hds (x:=.none) rfl (ak ?_)))))));refine ae (slicePart_none ?_);show wpAny _ _ (if((1:Int)==0)=true then _ else _) _ _ s;rw[if_neg (by decide)];refine ae (Vg pl (ae (Vg pu (ae (ak ?_)))));show wpAny _ _ (match vj lo hi 1 (n:Int)with |(lo,hi)=>pure (lo,(1:Int),qx lo hi 1)) _ _ s
 rw[Fv lo hi n];show wpAny _ _ (pure (((sIx n 0 lo:Nat):Int),(1:Int),qx ((sIx n 0 lo:Nat):Int) ((sIx n n hi:Nat):Int) 1)) _ _ s;rw[Uu];exact ak h
theorem B4(xs:Array Value)(i k:Nat):((az k).filterMap λ(m:Nat)=>xs[((i:Int)+(m:Int)*1).toNat]?).toArray=((xs.toList.drop i).take k).toArray:=by
 have e:(λ(m:Nat)=>xs[((i:Int)+(m:Int)*1).toNat]?)=λm=>xs[i+m]?:=by
  funext m
  have:((i:Int)+(m:Int)*1).toNat=i+m:=by omega
  rw[this]
 rw[e];have:=pick_run xs i k;rw[ni]at this;have e2:((λx=>xs[x]?)∘λx=>i+x)=λm=>xs[i+m]?:=rfl;rw[e2]at this;rw[this]
theorem getItem_tuple_cut{t sl:Addr}{items:Array Value}{vl vu:Value}{lo hi:AG}{Q:Value->aa->Prop}(ht:IsTup s.heap t items)(hs:s.heap.IsSliceOf sl vl vu .none)(pl:km vl lo)(pu:km vu hi)
  (hw:¬(sIx items.size 0 lo=0/\sIx items.size items.size hi=items.size))
  (h:Q (.ref s.heap.objs.size) {s with heap:=s.heap.push {cls:=.type "tuple",data:=.seq ((items.toList.drop (sIx items.size 0 lo)).take (sIx items.size items.size hi-sIx items.size 0 lo)).toArray}})
  (hsz:items.size<=sizeLine):wpAny (model prog w) A (getItem (.ref t) (.ref sl)) Q E s:=by
 have htake:sizeOk (.seq ((items.toList.drop (sIx items.size 0 lo)).take (sIx items.size items.size hi-sIx items.size 0 lo)).toArray):=by
  show((items.toList.drop (sIx items.size 0 lo)).take (sIx items.size items.size hi-sIx items.size 0 lo)).toArray.size<=sizeLine;rw[ar,jt,qy,my];omega
 have hj:sIx items.size items.size hi<=items.size:=aai _ _ (aj _) hi;obtain⟨os,hos,hcs,hds⟩:=id hs;have hTs:s.TypeIs (.ref sl) "slice":=⟨os,hos,hcs⟩;unfold getItem
 try with_reducible refine ji ?_
 first |refine ae (ak ?_) |skip
 refine ae (wpAny_sequenceKey ht.typeIs (by decide) ?_);refine ae (ld (name:=ib "__getitem__") ht.typeIs qz
  (jp qz ht.typeIs entry_tuple_getitem ?_ (args_tuple_getitem _ _)))
 show wpAny _ _ (zp (.ref t) >>= _) _ _ s;refine ae (tupleItemsOf_ ht ?_);refine ae (wpAny_typeOf hTs ?_);rw[if_pos (by decide)];refine ae (Rs hs pl pu ?_);have hno:¬((((sIx items.size 0 lo:Nat):Int)==0&&(1:Int)==1&&(sIx items.size items.size hi-sIx items.size 0 lo)==items.size)=true):=by
  intro q;rw[iy,iy]at q;have q1:((sIx items.size 0 lo:Nat):Int)=0:=eq_of_beq q.1.1;have q2:sIx items.size items.size hi-sIx items.size 0 lo=items.size:=eq_of_beq q.2;exact hw ⟨by omega,by omega⟩
 show wpAny _ _ (if(((sIx items.size 0 lo:Nat):Int)==0&&(1:Int)==1&&(sIx items.size items.size hi-sIx items.size 0 lo)==items.size)=true then _ else _) _ _ s;rw[if_neg hno,B4]
 first
  |exact ae (m:=re _) (io (ak ⟨_,rfl,ak h⟩) htake)
  |exact ae (m:=re _) (io (ae (ak (ak ⟨_,rfl,ak h⟩))) htake)
  |exact ae (ae (m:=re _) (io (ak (ak ⟨_,rfl,ak h⟩)) htake))
  |exact ae (ae (m:=re _) (io (ak ⟨_,rfl,ak h⟩) htake))
end
end HT
namespace L2
open PySem PySem.Spec PyProof.Rows
abbrev TO:=St->Hp->(AG->Hp->Prop)->Prop
def PO(X:Cx)(e:Option ah)(t:TO):Prop:=
 ∀(AL:List (Addr×Obj))(s:aa)(σ:St)(H:Hp)(Q:AG->Hp->Prop),aF X AL σ H s->t σ H Q->
  wpAny (model X.prog X.w) X.A (evalPart e X.env) (λu s'=>∃o H',aF X AL σ H' s'/\km u o/\Q o H') X.xe s
def R5:TO:=λ_ H Q=>Q none H
def abp(t:TE):TO:=λσ H Q=>t σ H λx H1=>∃i,x=.int i/\Q (some i) H1
section
variable{X:Cx}{e:ah}{te:TE}{lo hi:Option ah}{tl th:TO}{pos p2:ai}
theorem V6:PO X none R5:=by
 intro AL s σ H Q I h;rw[evalPart_none];exact ak ⟨none,H,I,.none,h⟩
theorem Db(h:PE X e te):PO X (some e) (abp te):=by
 intro AL s σ H Q I hw;rw[evalPart_some];refine bC (h AL s σ H _ I hw) ?_
 rintro u s1 ⟨x,H1,I1,r1,q1⟩
 obtain⟨i,rfl,q⟩:=q1;obtain⟨t,rfl⟩:=r1;exact⟨some i,H1,I1,.int i t,q⟩
def nO(X:Cx)(r:V->AG->AG->Hp->VK->Prop):Prop:=
 ∀(AL:List (Addr×Obj))(s:aa)(σ:St)(H:Hp)(x:V)(v vl vu:Value)(lo hi:AG)(sl:Addr)(Q:VK),aF X AL σ H s->bP x v->s.heap.IsSliceOf sl vl vu .none->km vl lo->km vu hi->r x lo hi H Q->
  ∃T id,typeLookup (.type T) "__getitem__"=pure (some (.builtin id))/\s.TypeIs v T/\wpAny (model X.prog X.w) X.A (getItem v (.ref sl)) (EP X AL σ Q) X.xe s
theorem nO.or{r r':V->AG->AG->Hp->VK->Prop}(h:nO X r)(h':nO X r'):nO X (λx lo hi H Q=>r x lo hi H Q\/r' x lo hi H Q):=by
 intro AL s σ H x v vl vu lo hi sl Q I rx hs pl pu q;rcases q with q |q
 .exact h AL s σ H x v vl vu lo hi sl Q I rx hs pl pu q
 .exact h' AL s σ H x v vl vu lo hi sl Q I rx hs pl pu q
def tSl(r:V->AG->AG->Hp->VK->Prop)(te:TE)(tl th:TO):TE:=λσ H Q=>te σ H λx H1=>tl σ H1 λl H2=>th σ H2 λu H3=>r x l u H3 Q
theorem Ny{r:V->AG->AG->Hp->VK->Prop}(hr:nO X r)(he:PE X e te)(hl:PO X lo tl)(hu:PO X hi th):PE X (.Subscript e (.Slice lo hi none p2) pos) (tSl r te tl th):=by
 intro AL s σ H Q I h;refine vk (bC (he AL s σ H _ I h) λv s1 hq=>?_);rcases hq with⟨x,H1,I1,r1,q1⟩;refine wpAny_Slice (bC (hl AL s1 σ H1 _ I1 q1) λvl s2 ⟨l,H2,I2,pl,q2⟩=>bC (hu AL s2 σ H2 _ I2 q2) λvu s3 hq=>?_);rcases hq with⟨u,H3,I3,pu,q3⟩;rw[evalPart_none];refine ak ?_;have I4:aF X AL σ H3 {s3 with heap:=s3.heap.push {cls:=.type "slice",data:=.fields #[vl,vu,.none]}}:=I3.kept (t':=s3.toks) λb ob q=>ao _ q;obtain⟨T,id,hT,ht,hg⟩:=hr AL {s3 with heap:=s3.heap.push {cls:=.type "slice",data:=.fields #[vl,vu,.none]}} σ H3 x v vl vu l u s3.heap.objs.size Q I4 r1 (zq ..) pl pu q3;show wpAny (model X.prog X.w) X.A (subscriptTail e (.Slice lo hi none p2) v (.ref s3.heap.objs.size)) (EP X AL σ Q) X.xe {s3 with heap:=s3.heap.push {cls:=.type "slice",data:=.fields #[vl,vu,.none]}};exact tail_any (ops:=[.ref s3.heap.objs.size,v]) ht hT hg (by with_unfolding_all rfl)
def nG(xs:List V)(lo hi:AG):List V:=(xs.drop (HT.sIx xs.length 0 lo)).take (HT.sIx xs.length xs.length hi-HT.sIx xs.length 0 lo)
theorem tU(xs:List V)(lo hi:AG):(nG xs lo hi).length<=xs.length:=by
 unfold nG;rw[jt,qy];omega
def acq(K:ag):V->AG->AG->Hp->VK->Prop:=λx lo hi H Q=>∃a xs,x=.ref a/\cP K H a xs/\
 ¬(HT.sIx xs.length 0 lo=0/\HT.sIx xs.length xs.length hi=xs.length)/\∀p,H p=none->Q (.ref p) (aK H p (.tup (nG xs lo hi)))
theorem aa6:nO X (acq X.K):=by
 intro AL s σ H x v vl vu lo hi sl Q I rx hs pl pu h;obtain⟨a,xs,rfl,hx,hw,q⟩:=h;cases rx;obtain⟨its,r,ht,hz⟩:=I.tuple hx;have hlen:its.toArray.size=xs.length:=by rw[ar];exact r.length.symm
 refine⟨"tuple",_,qz.lookup,ht.typeIs,?_⟩;refine HT.getItem_tuple_cut ht hs pl pu (by rw[hlen];exact hw) ?_ (by rw[hlen];exact hz);rw[hlen];refine⟨.ref s.heap.objs.size,_,I.laid (t':=s.toks) (o:=.tup (nG xs lo hi)) (λb ob q=>ao _ q) (aj _) ?_,rfl,q _ (I.hok.fresh (aj _))⟩;exact⟨fh (tU xs lo hi) hz,_,(r.drop (HT.sIx xs.length 0 lo)).take (HT.sIx xs.length xs.length hi-HT.sIx xs.length 0 lo),qs _ _⟩
def Cr(K:ag):R2:=λx y H Q=>∃a b xs ys,x=.ref a/\y=.ref b/\cP K H a xs/\cP K H b ys/\xs≠[]/\xs.length+ys.length<=sizeLine/\
 (ys=[]->Q (.ref a) H)/\(ys≠[]->∀p,H p=none->Q (.ref p) (aK H p (.tup (xs++ys))))
theorem aX.nil_iff{xs:List V}{us:AD}(r:aX xs us):us=[]↔xs=[]:=by
 cases r with
 |nil=>simp
 |cons _ _=>simp
theorem S7:eD X (binaryOp .Add) (Cr X.K):=by
 intro AL s σ H x y v u Q I rx ry h;obtain⟨a,b,xs,ys,rfl,rfl,ha,hb,hx,hz,q1,q2⟩:=h;cases rx;cases ry;obtain⟨its,r1,p1,_⟩:=I.tuple ha;obtain⟨its2,r2,p2,_⟩:=I.tuple hb;refine HT.cat_tup p1 p2 (λz=>hx (r1.nil_iff.mp z)) (λz=>⟨.ref a,H,I,rfl,q1 (r2.nil_iff.mp z)⟩) (λz=>?_) (by rw[<-r1.length,<-r2.length];exact hz);refine⟨.ref s.heap.objs.size,_,I.laid (t':=s.toks) (o:=.tup (xs++ys)) (λb ob q=>ao _ q) (aj _) ?_,rfl,q2 (λw=>z (r2.nil_iff.mpr w)) _ (I.hok.fresh (aj _))⟩;exact⟨by rw[bi];exact hz,_,r1.append r2,qs _ _⟩
end
def bD(n:Nat)(i:Int):Option Nat:=if 0<=i then(if i<n then some i.toNat else none)else if-(n:Int)<=i then some (i+n).toNat else none
def bB{α:Type}(xs:List α)(i:Int):Option α:=(bD xs.length i).bind λj=>xs[j]?
theorem En{n:Nat}{i:Int}{j:Nat}(h:bD n i=some j):seqIndex? i n=some j/\j<n/\-(n:Int)<=i/\i<n:=by
 unfold bD at h
 by_cases h0:0<=i
 .rw[if_pos h0]at h
  by_cases h1:i<n
  .rw[if_pos h1]at h
   have e:i.toNat=j:=ce h;exact⟨by rw[vm h0 h1,e],by omega,by omega,h1⟩
  .rw[if_neg h1]at h;cases h
 .rw[if_neg h0]at h
  by_cases h1:-(n:Int)<=i
  .rw[if_pos h1]at h
   have e:(i+n).toNat=j:=ce h;exact⟨by rw[vn (by omega) h1,e],by omega,h1,by omega⟩
  .rw[if_neg h1]at h;cases h
theorem Bb{α:Type}{xs:List α}{i:Int}{v:α}(h:bB xs i=some v):∃j,seqIndex? i xs.length=some j/\xs[j]?=some v/\j<xs.length/\-(xs.length:Int)<=i/\i<xs.length:=by
 unfold bB at h;cases e:bD xs.length i with
 |none=>rw[e]at h;cases h
 |some j=>
  rw[e]at h;obtain⟨h1,h2,h3,h4⟩:=En e;exact⟨j,h1,h,h2,h3,h4⟩
theorem vM{α:Type}{xs:List α}{j:Nat}{v:α}(h:xs[j]?=some v):bB xs (j:Int)=some v:=by
 have hj:j<xs.length:=(bo.mp h).1;have e:bD xs.length (j:Int)=some j:=by
  unfold bD;rw[if_pos (by omega),if_pos (by omega)];simp
 unfold bB;rw[e];exact h
theorem D8{α:Type}(xs:List α)(v:α):bB (xs++[v]) (-1)=some v:=by
 have hl:(xs++[v]).length=xs.length+1:=by simp
 have e:bD (xs++[v]).length (-1)=some xs.length:=by
  unfold bD;rw[hl,if_neg (by decide),if_pos (by omega)];congr 1;omega
 unfold bB;rw[e];show(xs++[v])[xs.length]?=some v;simp
def rN(b:ah):Prop:=∀o i,subscripted b false o i=operate [o,i] (getItem o i)
def lK(X:Cx)(r:R2):Prop:=
 ∀(value slice:ah)(AL:List (Addr×Obj))(s:aa)(σ:St)(H:Hp)(x y:V)(v u:Value)(Q:VK),aF X AL σ H s->bP x v->bP y u->r x y H Q->
  subscripted slice false v u=operate [v,u] (getItem v u)->wpAny (model X.prog X.w) X.A (subscriptTail value slice v u) (EP X AL σ Q) X.xe s
def xY(X:Cx)(id:String)(r:V->List V->Hp->VK->Prop):Prop:=
 ∀(AL:List (Addr×Obj))(s:aa)(σ:St)(H:Hp)(x:V)(xs:List V)(v:Value)(us:AD)(Q:VK),aF X AL σ H s->bP x v->aX xs us->r x xs H Q->
  wpAny (model X.prog X.w) X.A (call (.builtin id) (v::us)) (EP X AL σ Q) X.xe s
section
variable{X:Cx}{a b:ah}{ta tb:TE}{pos:ai}
theorem lK.or{r r':R2}(h:lK X r)(h':lK X r'):lK X (λx y H Q=>r x y H Q\/r' x y H Q):=by
 intro value slice AL s σ H x y v u Q I rx ry q hs;rcases q with q |q
 .exact h value slice AL s σ H x y v u Q I rx ry q hs
 .exact h' value slice AL s σ H x y v u Q I rx ry q hs
theorem wP{r:R2}(hr:lK X r)(ha:PE X a ta)(hb:PE X b tb)(hs:rN b):PE X (.Subscript a b pos) (yA r ta tb):=by
 intro AL s σ H Q I h;exact vk (Td ha hb I h λv u s2 x y H2 I2 rx ry q=>hr a b AL s2 σ H2 x y v u Q I2 rx ry q (hs _ _))
def Yr(K:ag):R2:=λx y H Q=>∃p xs i v,x=.ref p/\y=.int i/\bS K H p xs/\bB xs i=some v/\Q v H
def Sr(K:ag):R2:=λx y H Q=>∃p xs i v,x=.ref p/\y=.int i/\cP K H p xs/\bB xs i=some v/\Q v H
def Tr:R2:=λx y H Q=>∃z i c,x=.str z/\y=.int i/\z.length<=sizeLine/\bB z.cps.toList i=some c/\Q (.str ⟨#[c]⟩) H
theorem J8:lK X (Yr X.K):=by
 intro value slice AL s σ H x y v u Q I rx ry h hs;obtain⟨p,xs,i,z,rfl,rfl,hq,he,q⟩:=h;cases rx;obtain⟨t,rfl⟩:=ry;obtain⟨its,r,pl,hz⟩:=I.list hq;obtain⟨j,h1,h2,h3,h4,h5⟩:=Bb he;obtain⟨w,ew,rw'⟩:=r.get h2;have hl:=r.length;have hn:=qB;have fin:EP X AL σ Q w s:=⟨z,H,I,rw',q⟩
 by_cases h0:0<=i
 .have hj:i.toNat=j:=by
   rw[vm h0 h5]at h1;exact ce h1
  exact item_listR pl.isList h0 (by omega) (by rw[hj];simpa using ew) fin hs
 .have hj:(i+(its.toArray.size:Int)).toNat=j:=by
   rw[vn (by omega) h4]at h1;rw[ar,<-hl];exact ce h1
  exact zt (x:=w) pl.isList.typeIs vo.lookup
   (wpAny_getItem_list_neg (Q:=λr s'=>r=w/\EP X AL σ Q r s') pl.isList (by omega) (by rw[ar]<;>omega) (by omega) (by rw[hj];simpa using ew) ⟨rfl,fin⟩) hs
theorem aaE:lK X (Sr X.K):=by
 intro value slice AL s σ H x y v u Q I rx ry h hs;obtain⟨p,xs,i,z,rfl,rfl,hq,he,q⟩:=h;cases rx;obtain⟨t,rfl⟩:=ry;obtain⟨its,r,pl,hz⟩:=I.tuple hq;obtain⟨j,h1,h2,h3,h4,h5⟩:=Bb he;obtain⟨w,ew,rw'⟩:=r.get h2;have hl:=r.length;have hn:=qB;have fin:EP X AL σ Q w s:=⟨z,H,I,rw',q⟩;exact zt (x:=w) pl.typeIs qz.lookup
  (getItem_tuple (j:=j) (Q:=λr s'=>r=w/\EP X AL σ Q r s') pl (by omega) (by omega) (by rw[ar,<-hl];exact h1) (by simpa using ew) ⟨rfl,fin⟩) hs
theorem X6:lK X Tr:=by
 intro value slice AL s σ H x y v u Q I rx ry h hs;obtain⟨z,i,c,rfl,rfl,hz,he,q⟩:=h;obtain⟨t,rfl⟩:=rx;obtain⟨t',rfl⟩:=ry;obtain⟨j,h1,h2,h3,h4,h5⟩:=Bb he;have hl:z.cps.toList.length=z.length:=by simp[Str.length]
 rw[hl]at h1 h4 h5;have hn:=qB;exact tail_any (typeIs_str s z t) slot_str_getitem.lookup (getItem_str (c:=c) (by
  have e1:decide (i< -(2^63:Int))=false:=decide_eq_false (by omega);have e2:decide (i>=2^63)=false:=decide_eq_false (by omega);rw[e1,e2,Bool.or_false]) (by rw[h1];simpa using h2) ⟨.str ⟨#[c]⟩,H,I.tok _,⟨_,rfl⟩,q⟩) hs
def Ls(K:ag):R2:=λx y H Q=>Yr K x y H Q\/Sr K x y H Q\/Tr x y H Q
theorem Wp:lK X (Ls X.K):=J8.or (aaE.or X6)
theorem Uv(its:AD)(n j:Nat)(u:Value):dj (·.setIfInBounds j u) {cls:=.type "list",data:=.seq its.toArray n}={cls:=.type "list",data:=.seq (its.set j u).toArray n}:=by
 simp[dj]
theorem aF.lst{AL:List (Addr×Obj)}{σ:St}{H:Hp}{s:aa}{p:Addr}{xs:List V}(I:aF X AL σ H s)(h:H p=some (.lst xs)):
  ∃(its:AD)(n:Nat),aX xs its/\s.heap.get? p=some {cls:=.type "list",data:=.seq its.toArray n}/\xs.length<=sizeLine:=by
 obtain⟨z,its,n,r,e⟩:=I.hok p _ h;exact⟨its,n,r,e,z⟩
theorem aF.lstUpd{AL:List (Addr×Obj)}{σ:St}{H:Hp}{s:aa}{p:Addr}{xs ys:List V}{its its':AD}{n n':Nat}{f:Obj->Obj}(I:aF X AL σ H s)(h:H p=some (.lst xs))
  (ho:s.heap.get? p=some {cls:=.type "list",data:=.seq its.toArray n})(hf:f {cls:=.type "list",data:=.seq its.toArray n}={cls:=.type "list",data:=.seq its'.toArray n'})(r:aX ys its')(hz:ys.length<=sizeLine)(t:Nat):
  aF X AL σ (aK H p (.lst ys)) {s with heap:=s.heap.update p f,toks:=t}:=by
 have e:(s.heap.update p f).get? p=some {cls:=.type "list",data:=.seq its'.toArray n'}:=by
  rw[rf f ho (by rw[hf]<;>rfl),hf]
 refine I.write (x:=p) (e:=p) (by rw[h];trivial) (.inl rfl) (λb u hb q=>(zu _ _ (ik hb)).trans q) ⟨_,e⟩ ?_;exact⟨hz,its',n',r,e⟩
def abM:V->V->V->Hp->(Hp->Prop)->Prop:=λo i v H Q=>∃p xs k j,o=.ref p/\i=.int k/\H p=some (.lst xs)/\bD xs.length k=some j/\Q (aK H p (.lst (xs.set j v)))
theorem Fk:Yd X abM:=by
 intro AL s σ H o i v ov iv u Q I ro ri rv h;obtain⟨p,xs,k,j,rfl,rfl,hp,hj,q⟩:=h;cases ro;obtain⟨t,rfl⟩:=ri;obtain⟨its,n,r,ho,hz⟩:=I.lst hp;obtain⟨h1,h2,h3,h4⟩:=En hj;have hl:=r.length;have hn:=qB;have I':aF X AL σ (aK H p (.lst (xs.set j v))) {s with heap:=s.heap.update p (dj (·.setIfInBounds j u))}:=
  I.lstUpd hp ho (Uv its n j u) (r.set rv j) (by rw[fg];exact hz) s.toks
 by_cases h0:0<=k
 .have hk:k.toNat=j:=by
   rw[vm h0 h4]at h1;exact ce h1
  exact PySem.W.ki_setAt ho h0 (by omega) (by rw[ar,<-hl];exact h4) (by rw[hk];exact⟨_,I',q⟩)
 .have hk:(k+(its.toArray.size:Int)).toNat=j:=by
   rw[vn (by omega) h3]at h1;rw[ar,<-hl];exact ce h1
  exact PySem.W.ki_setBack ho (by omega) (by rw[ar,<-hl];exact h3) (by omega) (by rw[hk];exact⟨_,I',q⟩)
theorem Qt(lo hi:AG)(n:Nat):(sliceBounds lo hi none n).1=((HT.sIx n 0 lo:Nat):Int)/\(sliceBounds lo hi none n).2.1=((HT.sIx n n hi:Nat):Int)/\(sliceBounds lo hi none n).2.2=1:=by
 refine⟨?_,?_,rfl⟩
 .cases lo with
  |none=>simp[sliceBounds,HT.sIx]
  |some i=>
   simp only[sliceBounds,HT.sIx,zw,show(1:Int)>0 by decide,if_true]
   by_cases h:i<0
   .simp only[h,if_true]<;>omega
   .simp only[h,if_false]<;>omega
 .cases hi with
  |none=>simp[sliceBounds,HT.sIx]
  |some i=>
   simp only[sliceBounds,HT.sIx,zw,show(1:Int)>0 by decide,if_true]
   by_cases h:i<0
   .simp only[h,if_true]<;>omega
   .simp only[h,if_false]<;>omega
theorem Et(its:AD)(lo hi:AG):slicePick its.toArray lo hi none=((its.drop (HT.sIx its.length 0 lo)).take (HT.sIx its.length its.length hi-HT.sIx its.length 0 lo)).toArray:=by
 obtain⟨h1,h2,h3⟩:=Qt lo hi its.toArray.size;unfold slicePick;rw[h1,h2,h3];simp only[sliceRange_one,pick_run,ar]<;>rfl
def acE(K:ag):V->AG->AG->Hp->VK->Prop:=λx lo hi H Q=>∃a xs,x=.ref a/\bS K H a xs/\∀p,H p=none->Q (.ref p) (aK H p (.lst (nG xs lo hi)))
theorem T7:nO X (acE X.K):=by
 intro AL s σ H x v vl vu lo hi sl Q I rx hs pl pu h;obtain⟨a,xs,rfl,hx,q⟩:=h;cases rx;obtain⟨its,r,ht,hz⟩:=I.list hx;have hlen:=r.length;refine⟨"list",_,vo.lookup,ht.isList.typeIs,?_⟩;refine zx ht.isList hs pl pu .none (by simp) ?_ (by rw[ar]<;>omega);rw[Et,<-hlen];refine⟨.ref s.heap.objs.size,_,I.laid (t':=s.toks) (o:=.lst (nG xs lo hi)) (λb ob q=>ao _ q) (aj _) ?_,rfl,q _ (I.hok.fresh (aj _))⟩;exact⟨fh (tU xs lo hi) hz,_,0,(r.drop (HT.sIx xs.length 0 lo)).take (HT.sIx xs.length xs.length hi-HT.sIx xs.length 0 lo),cx _ rfl⟩
theorem Ot:iB X (.builtin "len") (λxs H Q=>∃p ys,xs=[.ref p]/\(bS X.K H p ys\/cP X.K H p ys)/\Q (.int ys.length) H):=by
 intro AL s σ H xs us Q I r h;obtain⟨p,ys,rfl,hq,q⟩:=h;obtain⟨u,rfl,rx⟩:=iY r;cases rx;have hn:=qB;rcases hq with hq |hq
 .obtain⟨its,r',pl,hz⟩:=I.list hq
  have hlen:=r'.length;exact Calls.call_len_list pl.isList (by simp only[ar]<;>omega) ⟨.int ys.length,H,I.tok _,⟨s.toks+1,by rw[ar,hlen]⟩,q⟩
 .obtain⟨its,r',pl,hz⟩:=I.tuple hq
  have hlen:=r'.length;exact len_tuple pl (by simp only[ar]<;>omega) ⟨.int ys.length,H,I.tok _,⟨s.toks+1,by rw[ar,hlen]⟩,q⟩
theorem yN:iB X (.type "list") (λxs H Q=>∃p ys,xs=[.ref p]/\(bS X.K H p ys\/cP X.K H p ys)/\∀l,H l=none->Q (.ref l) (aK H l (.lst ys))):=by
 intro AL s σ H xs us Q I r h;obtain⟨p,ys,rfl,hq,q⟩:=h;obtain⟨u,rfl,rx⟩:=iY r;cases rx;have fin:∀(its:AD),aX ys its->ys.length<=sizeLine->∀(h':Heap)(c':Nat),(∀b o',s.heap.get? b=some o'->h'.get? b=some o')->
   h'.get? s.heap.objs.size=some {cls:=.type "list",dict:=none,data:=.seq its.toArray c',slots:=#[]}->EP X AL σ Q (.ref s.heap.objs.size) {s with heap:=h'}:=λits r' hz h' c' kp e=>
  ⟨.ref s.heap.objs.size,_,I.laid (t':=s.toks) kp (aj _) (show fJ X.prog X.w _ h' _ (.lst ys) from⟨hz,its,c',r',e⟩),rfl,q _ (I.hok.fresh (aj _))⟩
 rcases hq with hq |hq
 .obtain⟨its,r',pl,hz⟩:=I.list hq
  have hlen:=r'.length;obtain⟨o,ho,hc,n,hd⟩:=pl.isList;exact call_list_seq p (.inl rfl) ho hc hd (λh' c' kp e=>fin its r' hz h' c' kp e) (by simp only[ar]<;>omega)
 .obtain⟨its,r',pl,hz⟩:=I.tuple hq
  have hlen:=r'.length;obtain⟨o,ho,hc,n,hd⟩:=pl;exact call_list_seq p (.inr rfl) ho hc hd (λh' c' kp e=>fin its r' hz h' c' kp e) (by simp only[ar]<;>omega)
theorem Dt:iB X (.type "tuple") (λxs H Q=>∃p ys,xs=[.ref p]/\((bS X.K H p ys/\∀l,H l=none->Q (.ref l) (aK H l (.tup ys)))\/(cP X.K H p ys/\Q (.ref p) H))):=by
 intro AL s σ H xs us Q I r h;obtain⟨p,ys,rfl,h⟩:=h;obtain⟨u,rfl,rx⟩:=iY r;cases rx;rcases h with⟨hq,q⟩|⟨hq,q⟩
 .obtain⟨its,r',pl,hz⟩:=I.list hq
  have hlen:=r'.length;refine call_tuple_list pl.isList (λh' kp=>?_) (by simp only[ar]<;>omega);have I1:aF X AL σ H {s with heap:=h'}:=I.kept (t':=s.toks) kp;have I2:aF X AL σ (aK H h'.objs.size (.tup ys)) {s with heap:=h'.push {cls:=.type "tuple",data:=.seq its.toArray}}:=
   I1.laid (t':=s.toks) (λb o e=>ao _ e) (aj _) (show fJ X.prog X.w _ _ _ (.tup ys) from⟨hz,its,r',qs _ _⟩)
  exact⟨.ref h'.objs.size,_,I2,rfl,q _ (I1.hok.fresh (aj _))⟩
 .obtain⟨its,r',pl,hz⟩:=I.tuple hq
  exact call_tuple_same pl ⟨.ref p,H,I,rfl,q⟩
def Je(K:ag)(T:String)(x:V)(H:Hp):Prop:=match x with
 |.str _=>T="str"
 |.int _=>T="int"
 |.ref p=>(T="list"/\∃xs,bS K H p xs)\/(T="tuple"/\∃o,K.lookup p=some o/\o.cls=.type "tuple"/\o.dict=none)\/
   (T="dict"/\((∃kvs,H p=some (.dK kvs))\/∃kvs,H p=some (.dT kvs)))\/(T="set"/\∃S n,H p=some (.set S n))
 |_=>False
theorem aau{AL:List (Addr×Obj)}{σ:St}{H:Hp}{s:aa}{T:String}{x:V}{v:Value}(I:aF X AL σ H s)(r:bP x v)(ty:Je X.K T x H):
  s.TypeIs v T/\∀a,v=.ref a->∃ob,s.heap.get? a=some ob/\ob.dict=none:=by
 cases x with
 |str z=>
  obtain⟨t,rfl⟩:=r;cases(show T="str" from ty);exact⟨typeIs_str s z t,λ_ e=>nomatch e⟩
 |int i=>
  obtain⟨t,rfl⟩:=r;cases(show T="int" from ty);exact⟨typeIs_int s i t,λ_ e=>nomatch e⟩
 |ref p=>
  cases r;rcases ty with⟨rfl,xs,hq⟩|⟨rfl,o,hk,hc,hd⟩|⟨rfl,hk⟩|⟨rfl,S,n,hk⟩
  .obtain⟨its,_,pl,_⟩:=I.list hq
   refine⟨pl.isList.typeIs,λa e=>?_⟩;cases e;obtain⟨o,n,e,c,hd,_⟩:=pl;exact⟨o,e,hd⟩
  .refine⟨⟨o,I.kIn p o hk,hc⟩,λa e=>?_⟩
   cases e;exact⟨o,I.kIn _ o hk,hd⟩
  .have z:∃o,s.heap.get? p=some o/\o.ExactDict:=by
    rcases hk with⟨kvs,hk⟩|⟨kvs,hk⟩
    .obtain⟨_,_,_,_,o,_,_,e,ex,_⟩:=I.hok p _ hk
     exact⟨o,e,ex⟩
    .obtain⟨_,_,_,_,o,_,_,e,ex,_⟩:=I.hok p _ hk
     exact⟨o,e,ex⟩
   obtain⟨o,e,ex⟩:=z;refine⟨⟨o,e,ex.1⟩,λa e2=>?_⟩;cases e2;exact⟨o,e,ex.2.1⟩
  .obtain⟨o,_,_,_,e,ex,_⟩:=I.hok p _ hk
   refine⟨⟨o,e,ex.1⟩,λa e2=>?_⟩;cases e2;exact⟨o,e,ex.2.1⟩
 |_=>exact jm ty
def tBM(K:ag)(T:String)(r:V->List V->Hp->VK->Prop)(to:TE)(t:TA):TE:=λσ H Q=>to σ H λx H1=>Je K T x H1/\t σ H1 λxs H2=>r x xs H2 Q
variable{o e:ah}{es:List ah}{to:TE}{t:TA}{name:Str}{apos cpos:ai}{T id:String}{r:V->List V->Hp->VK->Prop}
theorem wK(pa:PlainAttrs T)(slot:Slot T name id)(hty:typeOf (.builtin id)=pure (.type "method_descriptor"))(hm:xY X id r)(ho:PE X o to)(ha:PA X (e::es) t)
  (hbase:attributeBase o name X.env (eval o X.env)=eval o X.env:=by rfl)
  (hfew:((backTo cpos (starEach (e::es) X.env)).all (λx=>!x.1)&&(backToKw cpos (keywordEach [] X.env)).all (λx=>x.1.isSome)
   &&decide ((e::es).length+([]:List ft).length+(if([]:List ft).isEmpty then 0 else 1)<30))=true:=by rfl)
  (hline:(apos.endLine==cpos.line)=true:=by rfl)(hs:starEach (e::es) X.env=(false,eval e X.env)::starEach es X.env:=by rfl)(hplain:(backTo cpos (starEach es X.env)).any (·.1)=false:=by rfl):
  PE X (.Call (.Attribute o name apos) (e::es) [] cpos) (tBM X.K T r to t):=by
 intro AL s σ H Q I h;refine zy hbase hfew hline rfl (bC (ho AL s σ H _ I h) λv s1 hq=>?_);rcases hq with⟨x,H1,I1,r1,ty,q1⟩;obtain⟨h1,h2⟩:=aau I1 r1 ty;refine⟨T,id,pa,slot,hty,h1,h2,?_⟩;have hA:=ha cpos AL s1 σ H1 _ I1 q1;rw[hs]at hA⊢;refine zz (by show(false||(backTo cpos (starEach es X.env)).any (·.1))=false;rw[hplain]<;>rfl) (vp ?_);exact bC hA λus s2 ⟨vs,H2,I2,r2,q2⟩=>hm AL s2 σ H2 x vs v us Q I2 r1 r2 q2
end
def Os(X:Cx)(id:String)(r:V->List V->Hp->VK->Prop):Prop:=
 ∀(AL:List (Addr×Obj))(s:aa)(σ:St)(H:Hp)(x:V)(xs:List V)(v:Value)(us:AD)(Q:VK),aF X AL σ H s->bP x v->aX xs us->r x xs H Q->
  wpAny (model X.prog X.w) X.A (call (.builtin id) (v::us)) (EP X AL σ Q) X.xe s
theorem aX.one:∀{x:V}{us:AD},aX [x] us->∃u,us=[u]/\bP x u:=by
 rintro _ _ (_ |⟨r,_ |_⟩)
 exact⟨_,rfl,r⟩
theorem aX.two:∀{x y:V}{us:AD},aX [x,y] us->∃u v,us=[u,v]/\bP x u/\bP y v:=by
 rintro _ _ _ (_ |⟨r,_ |⟨q,_ |_⟩⟩)
 exact⟨_,_,rfl,r,q⟩
theorem aX.eraseIdx:∀{xs:List V}{us:AD}(i:Nat),aX xs us->aX (xs.eraseIdx i) (us.eraseIdx i)
 |_,_,_,.nil=>.nil
 |_,_,0,.cons _ t=>t
 |_,_,i+1,.cons r t=>.cons r (aX.eraseIdx i t)
theorem zQ{α:Type}:∀(l:List α)(i:Nat),(l.eraseIdx i).length<=l.length
 |[],_=>aj _
 |_::_,0=>nj _
 |_::r,i+1=>a0 (zQ r i)
section
variable{X:Cx}{AL:List (Addr×Obj)}{σ:St}{H:Hp}{s:aa}{l b:Addr}{xs ys zs:List V}
theorem aF.lset{its its':AD}{n:Nat}{f:Array Value->Array Value}{t':Nat}(I:aF X AL σ H s)(hH:H l=some (.lst xs))
  (e:s.heap.get? l=some {cls:=.type "list",data:=.seq its.toArray n})(hf:f its.toArray=its'.toArray)(hv:aX ys its')(hz:ys.length<=sizeLine):
  aF X AL σ (aK H l (.lst ys)) {s with heap:=s.heap.update l (dj f),toks:=t'}:=by
 have q:=PySem.IsL.update e f;rw[hf]at q;refine I.write (x:=l) (e:=l) (by rw[hH];exact trivial) (.inl rfl) (λb' u hb hu=>(zu s.heap (dj f) (ik hb)).trans hu) ⟨_,q⟩ ?_;exact⟨hz,its',_,hv,q⟩
theorem aF.lnew{its:AD}{t':Nat}(I:aF X AL σ H s)(hv:aX ys its)(hz:ys.length<=sizeLine):
  aF X AL σ (aK H s.heap.objs.size (.lst ys)) {s with heap:=s.heap.push {cls:=.type "list",data:=.seq its.toArray},toks:=t'}:=
 I.laid (λ_ _ q=>ao _ q) (aj _) ⟨hz,its,0,hv,cx _ rfl⟩
theorem aF.fresh(I:aF X AL σ H s):H s.heap.objs.size=none:=I.hok.fresh (aj _)
theorem aF.lstM(I:aF X AL σ H s)(hH:H l=some (.lst xs)):xs.length<=sizeLine/\∃(its:AD)(n:Nat),aX xs its/\xs.length=its.length/\s.heap.get? l=some {cls:=.type "list",data:=.seq its.toArray n}:=by
 obtain⟨z,its,n,r,e⟩:=I.hok l _ hH;exact⟨z,its,n,r,r.length,e⟩
theorem E8{n:Nat}(h:n<=sizeLine):rh n=false:=by
 unfold rh;exact decide_eq_false (by omega)
end
section
variable{X:Cx}
def O7:V->List V->Hp->VK->Prop:=λx vs H Q=>∃l xs y,x=.ref l/\vs=[y]/\H l=some (.lst xs)/\xs.length<sizeLine/\Q .non (aK H l (.lst (xs++[y])))
theorem pL:Os X "list.append" O7:=by
 intro AL s σ H x vs v us Q I rx rv h;obtain⟨l,xs,y,rfl,rfl,hH,hz,q⟩:=h;cases rx;obtain⟨u,rfl,ru⟩:=rv.one;obtain⟨z,its,n,r,hl,e⟩:=I.lstM hH;refine vq rl ⟨_,e,rfl⟩ F.entry_list_append (F.args_list_append_2 _ _) (PySem.list_append l its.toArray n u (by rw[ar];omega)) ⟨e,?_⟩;refine⟨.non,_,I.lset (its':=its++[u]) hH e (by simp) (r.append (.cons ru .nil)) ?_,rfl,q⟩;rw[bi,jv];omega
def abd:V->List V->Hp->VK->Prop:=λx vs H Q=>∃l xs i k y,x=.ref l/\vs=[.int i]/\H l=some (.lst xs)/\-(2^63)<=i/\i<2^63/\seqIndex? i xs.length=some k/\xs[k]?=some y/\Q y (aK H l (.lst (xs.eraseIdx k)))
theorem Wz:Os X "list.pop" abd:=by
 intro AL s σ H x vs v us Q I rx rv h;obtain⟨l,xs,i,k,y,rfl,rfl,hH,h1,h2,hk,hy,q⟩:=h;cases rx;obtain⟨u,rfl,ru⟩:=rv.one;obtain⟨t,rfl⟩:=ru;obtain⟨z,its,n,r,hl,e⟩:=I.lstM hH;obtain⟨w,hw,rw'⟩:=r.get hy;refine vq F.slot_list_pop ⟨_,e,rfl⟩ F.entry_list_pop (F.args_list_pop_2 _ _)
  (MeetsSeq.list_pop_at l its.toArray n i t k w (fitsIndex_both h1 h2) (by rw[ar,<-hl];exact hk) (by rw[<-vt];exact hw) (by rw[ar];omega)) ⟨e,?_⟩
 refine⟨y,_,I.lset (its':=its.eraseIdx k) hH e ?_ (r.eraseIdx k) ?_,rw',q⟩
 .show its.toArray.eraseIdxIfInBounds k=(its.eraseIdx k).toArray
  rw[List.eraseIdxIfInBounds_toArray]
 .have:=zQ xs k
  omega
end
section
variable{prog:Program}{w:al}{A:aq}{E:Value->aa->Prop}{s:aa}
end
section
variable{X:Cx}
end
end L2
namespace Att
open PySem PySem.W PySem.Calls PyProof.Rows
theorem Ss{P:mq}{h:Heap}:∀(ns:AA)(vs:AD),WellAll P h vs (ns.map WData.int)->oy vs ns:=by
 intro ns
 induction ns with
 |nil=>
  intro vs w;rw[cv]at w;cases w;exact .nil
 |cons n ns ih=>
  intro vs w;rw[aw]at w;cases w with
  |cons a b=>
   cases a;exact .cons _ _ (ih _ b)
theorem Xx{l:nr}{n:Nat}(hn:l.most=some n){P:mq}{h:Heap}{args:List WData}{vals:AD}
  (hpre:l.row.toRowW.claim.pre args=true)(hwl:WellAll P h vals args):
  ∃a vs ns,vals=[cq a]/\args=[WData.list (ns.map WData.int)]/\h.get? a=some {cls:=.type "list",data:=.seq vs.toArray}/\oy vs ns/\ns.length<=n:=by
 have hsh:WShape.hasAll [] args [.list .int]=true:=(pre_splitW hpre).1;have hc:l.pre.holds [] {args:=args}=true:=(pre_splitW hpre).2;obtain⟨d,r,rfl,h1,h2⟩:=hasAllW_cons hsh;obtain rfl:=hasAllW_nil h2;obtain⟨xs,rfl,h3⟩:=hasW_list h1;obtain⟨ns,rfl⟩:=items_int h3;have hlen:ns.length<=n:=by
  unfold OpenLaw.pre at hc;have h4:(WTm.not (.lt (.lit (.int (n:Int))) (.len (.arg 0)))).holds [] {args:=[.list (ns.map .int)]}=true:=by
   have h4:=(holds_andW hc).1;rw[hn]at h4;exact h4
  have h5:=condW_of h4 (w_not (w_lt w_lit (w_len_list (w_arg rfl))));rw[am]at h5;refine Nat.le_of_not_lt λq=>?_;have q':(n:Int)<((ns.length:Nat):Int):=by omega
  first
   |(rw[decide_eq_true q']at h5;exact absurd h5 (by decide))
   |(simp at h5;omega)
 cases hwl with
 |cons w1 w2=>
  cases w2;cases w1 with
  |list ho hall=>exact⟨_,_,ns,rfl,rfl,ho,Ss ns _ hall,hlen⟩
theorem Xw(l:nr)(args:List WData):l.row.toRowW.claim.post args (.bool true) args=true:=
 postW_of (r:=l.row.toRowW) (X:=(true==true))
  (show WShape.has [] (.bool true) .bool=true by first |rfl |decide |simp[WShape.has,WShape.arms,WShape.armsAll])
  (show(WTm.eq .res (.lit (.bool true))).value [] {args:=args,res:=some (.bool true),after:=args}=some (.bool (true==true)) from w_eq_bool (w_res rfl) w_lit) rfl
theorem attach_call{l:nr}{n:Nat}{q:Program}{loose:List Str}{XP:(Str->AE)->Heap->Prop}{YP:al->Heap->Prop}{d:DefRec}
  (hn:l.most=some n)(hdf:d.params.defaults=[])
  (call:∀(w:al)(AM AO:aa)(mg mb:Str->AE)(fa:Addr)(o:Obj)(pm cd doc:Value)(a:Addr)(vs:AD)(ns:AA),
   Ground q loose [] XP w AM mg mb AO.heap->YP w AO.heap->
   AO.heap.get? fa=some o->o.data=.func (docDef d.name d.params d.body d.scope pm cd doc)->AO.heap.CodeRec cd d.name->mg d.name=some (.ref fa)->
   AO.heap.get? a=some {cls:=.type "list",data:=.seq vs.toArray}->oy vs ns->ns.length<=n->AO.gens=#[]->
   codeAny (model l.prog w) callerA (.call (.ref fa) ⟨[.ref a],[]⟩) (λr s'=>r=.ok (.ret (.bool true))/\OldK AO.heap s'.heap/\s'.os=AO.os/\jl s'.gens) AO):
  WalkO q loose XP YP l.row.toRowW d [] (λf vs=>vw f vs):=by
 intro w AM AO mg mb G Y fa o pm cd doc dV kV ho hd hcd hD hmg hg args vals as hpre hlay hrd hwl hlo;obtain rfl:dV=.none:=Dflts.none hD hdf;obtain rfl:kV=.none:=Dflts.noKw hD;obtain⟨a,vs,ns,rfl,rfl,hobj,hints,hlen⟩:=Xx hn hpre hwl;refine enter_call (ox (call w AM AO mg mb fa o pm cd doc a vs ns G Y ho (fd_plain hd) hcd hmg hobj hints hlen hg) λr s' hq=>?_);obtain⟨rfl,h2,h3,h4⟩:=hq;exact⟨.inl ⟨.bool true,.bool true,[],rfl,λ_=>rfl,.bool true,Xw l _,λ_=>⟨List.Pairwise.nil,λ_ hm=>(nomatch hm)⟩⟩,h2,h3,h4⟩
section
variable{prog:Program}{w:al}{A:aq}{E:Value->aa->Prop}{s:aa}{K:Frag}
end
end Att
namespace L2
open PySem PySem.Spec PyProof.Rows
theorem Sh:∀{vs:AD}{ns:AA},oy vs ns->aX (ns.map V.int) vs
 |_,_,.nil=>.nil
 |_,_,.cons n t h=>.cons ⟨t,rfl⟩ (Sh h)
def Ae(H:Hp):Prop:=∀b,H b=none\/∃o xs,H b=some (.frz o (.lst xs))
theorem D5{P:Program}{w:al}{K:ag}{mg mb:Str->AE}{CX:iT}{k:Nat}{fa a:Addr}{fd:cf}{x:Str}{sp:Sp}{AO:aa}{vs:AD}{ns:AA}
  (KX:K.In AO.heap)(hns:AO.heap.Ns mainGlobals mg)(hb:AO.heap.Ns builtinsNs mb)(hbb:∀x:Str,x≠"__name__"->mb x=bootBuiltins x)(hlim:AO.heap.NoLimit)(hg:AO.gens=#[])
  (ha:AO.heap.get? a=some {cls:=.type "list",data:=.seq vs.toArray})(hi:oy vs ns)(hl:ns.length<=sizeLine)(hr:dP k callerA)
  (F:∀base:Heap,K.In base->base.Ns mainGlobals mg->eG P w K mg base CX k fa fd [x] sp)(hbind:∀(s:aa)(u:Value),nh s fd ⟨[u],[]⟩ [(x,u)])
  (hsp:∀H:Hp,Ae H->bS K H a (ns.map V.int)->sp [.ref a] H (λv _=>v=.bl true) λ_ _ _=>False)
  (hCX:∀H e s',CX [] H AO (λ_ _ _=>False) e s'->False):
  codeAny (model P w) callerA (.call (.ref fa) ⟨[.ref a],[]⟩) (λr s'=>r=.ok (.ret (.bool true))/\OldK AO.heap s'.heap/\s'.os=AO.os/\jl s'.gens) AO:=by
 have rv:=Sh hi;have lenV:=hi.length
 --from an abstract heap in which nothing but the script may be tracked
 have core:∀H:Hp,Ae H->bS K H a (ns.map V.int)->eX P w H AO.heap->(∀b,H b≠none->b=a)->(H a≠none->K.lookup a=none)->
   codeAny (model P w) callerA (.call (.ref fa) ⟨[.ref a],[]⟩) (λr s'=>r=.ok (.ret (.bool true))/\OldK AO.heap s'.heap/\s'.os=AO.os/\jl s'.gens) AO:=by
  intro H hO hS hok hA hK;have base_of:∀{b:Addr}{o:Obj},AO.heap.get? b=some o->H b=none->(mE AO.heap H).get? b=some o:=λe n=>Cy e n;have noA:∀{b:Addr}{o:Obj}{es:Array DictEntry}{ep:Nat},AO.heap.get? b=some o->o.data=.dict es ep->H b=none:=λ{b o es ep} e d=>by
   cases q:H b with
   |none=>rfl
   |some u=>
    have e':b=a:=hA b (by rw[q];simp);subst e';rw[ha]at e;cases e;have d':Data.seq vs.toArray _=Data.dict es ep:=d;cases d'
  have nsK:∀{b:Addr}{m:Str->AE},AO.heap.Ns b m->(mE AO.heap H).Ns b m:=λ{b m} ⟨o,es,ep,e,d,r⟩=>⟨o,es,ep,base_of e (noA e d),d,r⟩;have hKb:K.In (mE AO.heap H):=λb o e=>base_of (KX b o e) (by
   cases q:H b with
   |none=>rfl
   |some u=>
    have e':b=a:=hA b (by rw[q];simp);subst e';rw[hK (by rw[q];simp)]at e;cases e)
  have hM:Mod K mg (mE AO.heap H):=⟨hKb,nsK hns,⟨mb,nsK hb,hbb⟩,let⟨mc,h1,h2⟩:=hlim;⟨mc,nsK h1,h2⟩⟩;have e0:xO P w K mg (mE AO.heap H) callerA [] AO H:=⟨rfl,hM,λb o e=>R6 e,rm (Ew _ _),trivial,λb hb=>absurd (show b∈([]:List Addr) from hb) (by simp),hok,.of_eq hg⟩;refine ox ((F _ hKb (nsK hns)).run callerA [] AO H ⟨[.ref a],[]⟩ [.ref a] [.ref a] _ _ hr e0 (hbind AO (.ref a)) (.cons rfl .nil) (hsp H hO hS)) λr s' h=>?_;cases r with
  |error e=>exact(hCX H e s' h).elim
  |ok fl=>
   cases fl with
   |next=>exact jm h
   |brk=>exact jm h
   |cont=>exact jm h
   |ret u=>
    obtain⟨v,H',os,bare,un,hok',r',q⟩:=h;have q':v=.bl true:=q;subst q';obtain rfl:u=qp true:=r';refine⟨rfl,OldK.of_keep λb o e=>?_,os,bare⟩;cases q:H b with
    |none=>exact un.keep b o e q (by intro z;exact absurd (show b∈([]:List Addr) from z) (by simp)) (by simp)
    |some u=>
     rcases hO b with z |⟨ob,xs,z⟩
     .rw[q]at z;cases z
     .have z2:=un.frzs b ob _ z
      obtain⟨e1,_⟩:=hok b _ z;obtain⟨e2,_⟩:=hok' b _ z2;rw[e]at e1;cases e1;exact e2
 cases hk:K.lookup a with
 |some o=>
  --the script is one of the module's own objects
  have e:=KX a o hk;rw[ha]at e;cases e;refine core (λ_=>none) (λ_=>.inl rfl) (.inr ⟨_,vs.toArray,_,hk,rfl,rfl,rfl,by rw[ar,lenV];exact hl,by simpa using rv⟩) (λb u z=>by have z':(none:Option HO)=some u:=z;cases z') (λb z=>absurd rfl z) λz=>absurd rfl z
 |none=>
  refine core (λb=>if b=a then some (.frz {cls:=.type "list",data:=.seq vs.toArray} (.lst (ns.map V.int)))else none) (λb=>?_) (.inl (.inr ⟨{cls:=.type "list",data:=.seq vs.toArray},if_pos rfl⟩)) (λb u z=>?_) (λb z=>?_) λ_=>hk
  .by_cases hb:b=a
   .exact .inr ⟨_,_,if_pos hb⟩
   .exact .inl (if_neg hb)
  .by_cases hb:b=a
   .have z':=(if_pos hb).symm.trans z
    cases z';subst hb;exact⟨ha,by rw[am];exact hl,vs,_,rv,ha⟩
   .have z':=(if_neg hb).symm.trans z
    cases z'
  .by_cases hb:b=a
   .exact hb
   .exact absurd (if_neg hb) z
theorem walk_of{l:nr}{n k:Nat}{q:Program}{loose:List Str}{XP:(Str->AE)->Heap->Prop}{YP:al->Heap->Prop}{d:DefRec}{K:mq->ag}{CX:al->iT}{sp:al->Sp}{x:Str}
  (hn:l.most=some n)(hn2:n<=sizeLine)(hdf:d.params.defaults=[])(hr:dP k callerA)
  (hY:∀(w:al)(h:Heap),YP w h->(K w.params).In h)
  (F:∀(w:al)(mg:Str->AE)(fa:Addr)(h:Heap),(K w.params).In h->h.Ns mainGlobals mg->mg d.name=some (.ref fa)->
   ∃fd:cf,(∀(s:aa)(u:Value),nh s fd ⟨[u],[]⟩ [(x,u)])/\
    ∀base:Heap,(K w.params).In base->base.Ns mainGlobals mg->eG l.prog w (K w.params) mg base (CX w) k fa fd [x] (sp w))
  (hsp:∀(w:al)(H:Hp)(a:Addr)(ns:AA),ns.length<=n->Ae H->bS (K w.params) H a (ns.map V.int)->sp w [.ref a] H (λv _=>v=.bl true) λ_ _ _=>False)
  (hCX:∀(w:al)(H:Hp)(s:aa)(e:Value)(s':aa),CX w [] H s (λ_ _ _=>False) e s'->False):
  PySem.W.WalkO q loose XP YP l.row.toRowW d [] (λf vs=>vw f vs):=by
 refine Att.attach_call hn hdf λw AM AO mg mb fa o pm cd doc a vs ns G Y ho hd hcd hmg hobj hints hlen hg=>?_;have KX:=hY w _ Y;obtain⟨fd,hb,hF⟩:=F w mg fa _ KX G.T.g hmg;exact D5 KX G.T.g G.T.b G.T.builtins G.T.nolimit hg hobj hints (fh hlen hn2) hr hF hb (λH hO hS=>hsp w H a ns hlen hO hS) λH e s'=>hCX w H AO e s'
abbrev eZ:iT:=λ_ _ _ _ _ _=>False
abbrev E0:XK:=λ_ _ _=>False
theorem sM{X:Cx}:Lc eZ X E0:=λ_ _ _ _ _ _ _ h=>h.elim
structure jR(K:ag)(x qual:Str)(st:Stmt)(f:Addr)(fd:cf):Prop where
 ex:∃(oc:Value)(od:AF)(kV doc pm:Value)(an:AF)(cdv ct:Value)(osl:Array AE),
  fd=eh x qual (gR st) (eP st) (cR st) .none kV doc pm an cdv ct/\K.lookup f=some ⟨oc,od,.func fd,osl⟩/\ju K cdv qual=true
 kp:fz K (.ref f)=true
section
variable{P:Program}{w:al}{K:ag}{mg:Str->AE}{base:Heap}
theorem jR.ok{x qual:Str}{st:Stmt}{f:Addr}{fd:cf}{N ps:List Str}{k:Nat}{sp:Sp}(F:jR K x qual st f fd)(S:jM N ps (cR st))(len:∀vs H Q E,sp vs H Q E->vs.length=ps.length)
  (hbody:∀(cdv:Value)(A:aq)(outer:List bh)(s:aa)(H:Hp)(vs:List V)(Q:VK)(E:XK),dP k (A.deeper (envOfC qual (cR st) s.heap.objs.size f cdv))->sp vs H Q E->
   ∃t,gB (fK eZ P w K mg base N qual (cR st) f cdv A outer s H E).nox (eP st) t/\t {nx:=λ_ H'=>Q .non H',rt:=Q} (start N vs) H):eG P w K mg base eZ (k+1) f fd ps sp:=by
 obtain⟨oc,od,kV,doc,pm,an,cdv,ct,osl,rfl,lk,hcd⟩:=F.ex;refine Rq lk hcd S len λA outer s H vs Q E hr hsp=>?_;obtain⟨t,h,q⟩:=hbody cdv A outer s H vs Q E hr hsp;exact⟨t,h.nox,q⟩
theorem jR.binds{x qual:Str}{st:Stmt}{f:Addr}{fd:cf}{ps:List Str}(F:jR K x qual st f fd)
  (h:∀(kV doc pm:Value)(an:AF)(cdv ct:Value)(us:AD),us.length=ps.length->bindArgs (eh x qual (gR st) (eP st) (cR st) .none kV doc pm an cdv ct) ⟨us,[]⟩=pure (ps.zip us)):iX K fd ps []:=by
 obtain⟨oc,od,kV,doc,pm,an,cdv,ct,osl,rfl,lk,hcd⟩:=F.ex;exact .all (h kV doc pm an cdv ct)
theorem Mp{x qual:Str}{st:Stmt}{f:Addr}{oc:Value}{od an:AF}{osl:Array AE}{kV doc pm cdv ct:Value}(l:K.lookup f=some ⟨oc,od,.func (eh x qual (gR st) (eP st) (cR st) .none kV doc pm an cdv ct),osl⟩)
  (c:ju K cdv qual=true)(k:fz K (.ref f)=true):jR K x qual st f (eh x qual (gR st) (eP st) (cR st) .none kV doc pm an cdv ct):=⟨⟨oc,od,kV,doc,pm,an,cdv,ct,osl,rfl,l,c⟩,k⟩
end
section
variable{X:Cx}
theorem pv(i:Nat){x:Str}{pos:ai}(hN:X.N[i]?=some x:=by rfl)(hv:kG X.env.scope x:=by first |exact du rfl |exact dh (du rfl) |exact dh (dh rfl))(hd:(x==("__debug__":Str))=false:=by decide)
  (hcd:(x==("__classdict__":Str))=false:=by decide):PE X (.Name x pos) (Nr i):=kS hN hv hd hcd
end
def dD(H H':Hp):Prop:=∀b o,H b=some o->H' b=some o
theorem dD.refl(H:Hp):dD H H:=λ_ _ h=>h
end L2
namespace Bn
def Bd(k:Nat)(i:Int):Prop:=i.natAbs<2^k
theorem Bd.mono{j k:Nat}{i:Int}(h:Bd j i)(l:j<=k):Bd k i:=de h (vz (by decide) l)
theorem Bd.mul{j k:Nat}{a b:Int}(h:Bd j a)(g:Bd k b):Bd (j+k) (a*b):=by
 unfold Bd at *;rw[oz,Nat.pow_add];exact Nat.mul_lt_mul'' h g
theorem Bd.add{k:Nat}{a b:Int}(h:Bd k a)(g:Bd k b):Bd (k+1) (a+b):=by
 unfold Bd at *;rw[rn];have:=Int.natAbs_add_le a b;omega
theorem Bd.neg{k:Nat}{a:Int}(h:Bd k a):Bd k (-a):=by
 unfold Bd at *;rw[a5];exact h
theorem Bd.sub{k:Nat}{a b:Int}(h:Bd k a)(g:Bd k b):Bd (k+1) (a-b):=by
 rw[Int.sub_eq_add_neg];exact h.add g.neg
theorem Bd.le{k:Nat}{a b:Int}(h:Bd k b)(l:a.natAbs<=b.natAbs):Bd k a:=nu l h
theorem Bd.of{k n:Nat}{a:Int}(l:a.natAbs<=n)(h:n<2^k):Bd k a:=nu l h
theorem Bd.log{k:Nat}{a:Int}(h:Bd k a)(hk:0<k):a.natAbs.log2<k:=by
 rcases a6 a.natAbs with z |z
 .rw[z]
  exact nu (rm (by decide)) hk
 .exact(Nat.log2_lt (kj z)).mpr h
theorem Th(a:Int){b:Int}(h:b≠0):(a.fmod b).natAbs<b.natAbs:=by
 rw[Int.fmod_eq_emod];have h1:=Int.emod_nonneg a h;have h2:a%b<(b.natAbs:Int):=Int.emod_lt a h
 by_cases c:0<=b\/b∣a
 .rw[if_pos c]
  omega
 .rw[if_neg c]
  have hb:b<0:=by omega
  have h3:a%b≠0:=λz=>c (.inr (Int.dvd_of_emod_eq_zero z));have h4:b.natAbs=(-b).toNat:=by omega
  omega
theorem Rj(a b:Int):bj b (a.fmod b)=bj a b:=by
 rw[Int.fmod_def,dn,Int.gcd_sub_mul_right_right,Int.gcd_comm]
theorem Mc(x:Int):(if x<0 then-x else x)=(x.natAbs:Int):=by
 split<;>omega
def gl:AA->Int->Int
 |[],g=>g
 |n::r,g=>gl r (bj g n:Nat)
def low(ns:AA):AA:=if gl ns 0=0 then ns else ns.map (· /gl ns 0)
theorem Ed:∀(ns:AA)(g:Int),0<=g->0<=gl ns g
 |[],_,h=>h
 |_::r,_,_=>Ed r _ (a7 _)
theorem Jo(k:Int):∀(ns:AA)(g:Int),0<=g->gl (ns.map (k*·)) ((k.natAbs:Int)*g)=(k.natAbs:Int)*gl ns g
 |[],_,_=>rfl
 |n::r,g,h=>by
  show gl (r.map (k*·)) ((bj ((k.natAbs:Int)*g) (k*n):Nat):Int)=(k.natAbs:Int)*gl r _;have e:((bj ((k.natAbs:Int)*g) (k*n):Nat):Int)=(k.natAbs:Int)*((bj g n:Nat):Int):=by
   rcases Int.natAbs_eq k with q |q
   .rw[<-q,a9]
    have:(k.natAbs:Int)=k:=q.symm
    push_cast
    rw[this]
   .have e2:k*n=(k.natAbs:Int)*(-n):=by rw[rp,<-jw,<-q]
    rw[e2,a9,Int.gcd_neg]
    push_cast
    simp
  rw[e];exact Jo k r _ (a7 _)
theorem uW(k:Int)(ns:AA):gl (ns.map (k*·)) 0=(k.natAbs:Int)*gl ns 0:=by
 have:=Jo k ns 0 (rq 0)
 rwa[nv]at this
theorem rG{k:Int}(h:0<k)(ns:AA):gl ns 0≠0->low (ns.map (k*·))=low ns:=λz=>by
 have hk:(k.natAbs:Int)=k:=by omega
 have e:=uW k ns;rw[hk]at e;have nz:k*gl ns 0≠0:=iz (by omega) z;unfold low;rw[e,if_neg nz,if_neg z,dy];refine di λn _=>?_;show k*n/(k*gl ns 0)=n/gl ns 0;exact Int.mul_ediv_mul_of_pos _ _ h
theorem jO:∀(ns:AA)(g:Int),gl ns g∣g/\∀n∈ns,gl ns g∣n
 |[],g=>⟨Int.dvd_refl g,λ_ h=>nomatch h⟩
 |m::r,g=>by
  obtain⟨h1,h2⟩:=jO r ((bj g m:Nat):Int);refine⟨Int.dvd_trans h1 (we ..),λn hn=>?_⟩;rcases ci.mp hn with q |q
  .subst q
   exact Int.dvd_trans h1 (wg ..)
  .exact h2 n q
theorem Cb{ns:AA}(h:gl ns 0=0):∀n∈ns,n=0:=λn hn=>by
 have:=(jO ns 0).2 n hn;rw[h]at this;exact Int.zero_dvd.mp this
theorem sN{ns:AA}{n:Int}(hn:n∈ns)(h:n≠0):gl ns 0≠0:=λz=>h (Cb z n hn)
theorem sG{ns:AA}{n:Int}(hn:n∈ns)(h:n≠0):0<gl ns 0:=by
 have h1:=Ed ns 0 (rq 0);have h2:=sN hn h;omega
theorem sC{ns:AA}{n:Int}(hn:n∈ns)(h:n≠0):low ns=ns.map (· /gl ns 0):=by
 unfold low;rw[if_neg (sN hn h)]
theorem Bd.gcd{k:Nat}{a b:Int}(h:Bd k a)(g:Bd k b):Bd k (bj a b:Nat):=by
 unfold Bd at *;rw[wj];rcases a6 a.natAbs with z |z
 .have:a=0:=by omega
  subst this;rw[pf];exact g
 .exact nu (Nat.gcd_le_left _ z) h
theorem Xc{k:Nat}:∀{ns:AA}{g:Int},Bd k g->(∀n∈ns,Bd k n)->Bd k (gl ns g)
 |[],_,h,_=>h
 |n::r,g,h,hn=>by
  show Bd k (gl r _);exact Xc (ns:=r) (h.gcd (hn n ay)) λm hm=>hn m (bn _ hm)
theorem wB{k:Nat}{ns:AA}(h:∀n∈ns,Bd k n):∀n∈low ns,Bd k n:=λn hn=>by
 unfold low at hn
 by_cases c:gl ns 0=0
 .rw[if_pos c]at hn
  exact h n hn
 .rw[if_neg c]at hn
  obtain⟨m,hm,rfl⟩:=dz.mp hn;refine(h m hm).le ?_;have d:=(jO ns 0).2 m hm;obtain⟨q,e⟩:=d;rw[e,lg _ c,oz];exact Nat.le_mul_of_pos_left _ (by omega)
theorem Qm(ns:AA):(low ns).length=ns.length:=by
 unfold low;split
 .rfl
 .rw[am]
def fr(t b:Int):AA:=if b<0 then low [0-t,0-b] else low [t,b]
theorem jF(a b:Int):b∈[a,b]:=bn _ ay
theorem M2(ns:AA):gl (ns.map (-1*·)) 0=gl ns 0:=by
 have:=uW (-1) ns;simpa using this
theorem aaF{t b:Int}(h:b≠0):fr (-t) (-b)=fr t b:=by
 unfold fr
 by_cases c:b<0
 .have c':¬(-b<0):=by omega
  rw[if_pos c,if_neg c',ja,ja]
 .have c':-b<0:=by omega
  rw[if_neg c,if_pos c',Int.sub_neg,Int.sub_neg,se,se]
theorem Jf{k t b:Int}(hk:0<k)(h:b≠0):fr (k*t) (k*b)=fr t b:=by
 unfold fr;have e1:([k*t,k*b]:AA)=[t,b].map (k*·):=rfl;have e2:([0-k*t,0-k*b]:AA)=[0-t,0-b].map (k*·):=by
  show _=[k*(0-t),k*(0-b)];rw[Int.mul_sub,Int.mul_sub,nv]
 by_cases c:b<0
 .rw[if_pos c,if_pos (c7 hk c),e2]
  exact rG hk _ (sN (jF _ _) (by omega))
 .have c':¬(k*b<0):=by
   have:0<k*b:=ca hk (by omega);omega
  rw[if_neg c,if_neg c',e1];exact rG hk _ (sN (jF _ _) h)
theorem Zj{k t b:Int}(hk:k≠0)(h:b≠0):fr (k*t) (k*b)=fr t b:=by
 by_cases c:0<k
 .exact Jf c h
 .have c':0< -k:=by omega
  have hb:k*b≠0:=iz hk h;rw[<-aaF hb,<-jw,<-jw];exact Jf c' h
theorem Mk{t b t' b':Int}(h:b≠0)(h':b'≠0)(e:t*b'=t'*b):fr t b=fr t' b':=by
 rw[<-Zj h' h,<-Zj (k:=b) h h',dn b' t,e,dn t' b,dn b' b]
theorem wN{t b:Int}(h:b≠0):∃p q:Int,fr t b=[p,q]/\0<q/\p*b=t*q:=by
 have go:∀{t b:Int},0<b->∃p q:Int,low [t,b]=[p,q]/\0<q/\p*b=t*q:=λ{t b} hb=>by
  have nz:b≠0:=by omega
  have gp:=sG (jF t b) nz;refine⟨t/gl [t,b] 0,b/gl [t,b] 0,sC (jF t b) nz,?_,?_⟩
  .obtain⟨m,e⟩:=(jO [t,b] 0).2 b (jF t b)
   have:b/gl [t,b] 0=m:=by
    conv=>lhs;lhs;rw[e]
    exact lg _ (by omega)
   rw[this];have hm:0<m*gl [t,b] 0:=by rw[dn,<-e];exact hb
   exact wk hm gp
  .obtain⟨m,e⟩:=(jO [t,b] 0).2 b (jF t b)
   obtain⟨n,f⟩:=(jO [t,b] 0).2 t ay;have e1:b/gl [t,b] 0=m:=by
    conv=>lhs;lhs;rw[e]
    exact lg _ (by omega)
   have e2:t/gl [t,b] 0=n:=by
    conv=>lhs;lhs;rw[f]
    exact lg _ (by omega)
   rw[e1,e2]
   conv=>lhs;rhs;rw[e]
   conv=>rhs;lhs;rw[f]
   rw[Int.mul_left_comm,Int.mul_assoc]
 unfold fr
 by_cases c:b<0
 .rw[if_pos c]
  obtain⟨p,q,e1,e2,e3⟩:=go (t:=0-t) (b:=0-b) (by omega);refine⟨p,q,e1,e2,?_⟩;rw[ja,ja,rp,jw]at e3;omega
 .rw[if_neg c]
  exact go (by omega)
def sg(n:Int):Int:=if 0<n then 1 else if n<0 then-1 else 0
theorem Fj{b:Int}(h:b≠0):(0<b/\sg b=1)\/(b<0/\sg b=-1):=by
 unfold sg
 by_cases c:0<b
 .exact .inl ⟨c,if_pos c⟩
 .have d:b<0:=by omega
  exact .inr ⟨d,by rw[if_neg c,if_pos d]⟩
theorem Qz(b:Int):-(2^64)<sg b/\sg b<2^64:=by
 unfold sg;split
 .decide
 .split<;>decide
theorem pX(t b:Int):gl [t,b] 0=(bj t b:Nat):=by
 show((bj ((bj 0 t:Nat):Int) b:Nat):Int)=_;rw[pf];congr 1
theorem nW{g n:Int}(h:g≠0):(g*n).fdiv g=n:=by
 rw[ph ⟨n,rfl⟩,lg _ h]
theorem Te{g n:Int}(h:g≠0):(g*n).fdiv (-1*g)=-n:=by
 have e:g*n=(-1*g)*(-n):=by
  rw[jw,je,c9]
 rw[e];exact nW (by omega)
theorem Vx{t b:Int}(h:b≠0):[t.fdiv (sg b*(bj t b:Nat)),b.fdiv (sg b*(bj t b:Nat))]=fr t b:=by
 have gp:=sG (jF t b) h;rw[pX]at gp;have gn:((bj t b:Nat):Int)≠0:=by omega
 obtain⟨n,en⟩:=we (a:=t) (b:=b);obtain⟨m,em⟩:=wg (a:=t) (b:=b);have ht:t=((bj t b:Nat):Int)*n:=en;have hb:b=((bj t b:Nat):Int)*m:=em;generalize hg:((bj t b:Nat):Int)=g at *;rcases Fj h with⟨c,s⟩|⟨c,s⟩
 .rw[s,je]
  have e1:fr t b=[t/g,b/g]:=by
   unfold fr;rw[if_neg (by omega),sC (jF t b) h,pX,hg];rfl
  have e2:t.fdiv g=t/g:=ph ⟨n,ht⟩;have e3:b.fdiv g=b/g:=ph ⟨m,hb⟩;rw[e1,e2,e3]
 .rw[s]
  have e1:fr t b=[(0-t)/g,(0-b)/g]:=by
   unfold fr;rw[if_pos c,sC (jF (0-t) (0-b)) (by omega),pX,ja,ja,Int.neg_gcd,Int.gcd_neg,hg];rfl
  have e2:t.fdiv (-1*g)=-n:=by
   conv=>lhs;lhs;rw[ht]
   exact Te gn
  have e3:b.fdiv (-1*g)=-m:=by
   conv=>lhs;lhs;rw[hb]
   exact Te gn
  have e4:(0-t)/g=-n:=by
   rw[ht,ja,<-rp,lg _ gn]
  have e5:(0-b)/g=-m:=by
   rw[hb,ja,<-rp,lg _ gn]
  rw[e1,e2,e3,e4,e5]
theorem Fm(n:Int):∀(l:AA)(g:Int),gl (l++[n]) g=(bj (gl l g) n:Nat)
 |[],g=>rfl
 |m::r,g=>Fm n r _
theorem sQ{k:Nat}{t b p q:Int}(ht:Bd k t)(hb:Bd k b)(e:fr t b=[p,q]):Bd k p/\Bd k q:=by
 have go:∀{x y:Int},Bd k x->Bd k y->low [x,y]=[p,q]->Bd k p/\Bd k q:=λ{x y} hx hy e=>by
  have h:=wB (k:=k) (ns:=[x,y]) λn hn=>by
   rcases ci.mp hn with z |z
   .rw[z];exact hx
   .have z':n=y:=by simpa using z
    rw[z'];exact hy
  rw[e]at h;exact⟨h p ay,h q (jF _ _)⟩
 unfold fr at e;split at e
 .exact go (by rw[ja];exact ht.neg) (by rw[ja];exact hb.neg) e
 .exact go ht hb e
theorem zC{t b p q:Int}(h:b≠0)(e:fr t b=[p,q]):bj p q=1:=by
 have go:∀{x y:Int},y≠0->low [x,y]=[p,q]->bj p q=1:=λ{x y} hy e=>by
  rw[sC (jF x y) hy,pX]at e;have gp:=sG (jF x y) hy;rw[pX]at gp;have e1:x/((bj x y:Nat):Int)=p:=by injection e
  have e2:y/((bj x y:Nat):Int)=q:=by
   injection e with _ e;injection e
  rw[<-e1,<-e2,Int.gcd_ediv (we ..) (wg ..),wj];exact Nat.div_self (by omega)
 unfold fr at e;split at e
 .exact go (by omega) e
 .exact go h e
theorem F3{k m:Int}(hk:0<k)(hm:0<m){A B:AA}(hA:gl A 0≠0)(e:A.map (k*·)=B.map (m*·)):low A=low B:=by
 have hB:gl B 0≠0:=λz=>by
  have h:=uW k A;rw[e,uW m B,z,nv]at h;have:(k.natAbs:Int)*gl A 0≠0:=iz (by omega) hA;exact this h.symm
 rw[<-rG hk A hA,e,rG hm B hB]
theorem Dq(b:Int):∀(ns:AA)(g:Int),gl ns (bj g b:Nat)=(bj (gl ns g) b:Nat)
 |[],_=>rfl
 |n::r,g=>by
  show gl r ((bj ((bj g b:Nat):Int) n:Nat):Int)=((bj (gl r _) b:Nat):Int);rw[<-Dq b r,Int.gcd_assoc,Int.gcd_comm b n,<-Int.gcd_assoc]
theorem Va{ns:AA}{b:Int}(hb:0<b):gl (ns++[b]) 0=gl ns b:=by
 rw[Fm,<-Dq,pf];congr 1;omega
theorem mP(ns:AA)(b:Int):b∈ns++[b]:=da _ ay
theorem aa7{ns:AA}{b:Int}(hb:0<b):low (ns++[b])=(ns.map λn=>n.fdiv (gl ns b))++[b.fdiv (gl ns b)]/\0<gl ns b:=by
 have gp:=sG (mP ns b) (by omega);rw[Va hb]at gp;refine⟨?_,gp⟩;rw[sC (mP ns b) (by omega),Va hb,df];have e:∀n:Int,n/gl ns b=n.fdiv (gl ns b):=λn=>(Int.fdiv_eq_ediv_of_nonneg n (Int.le_of_lt gp)).symm;simp only[e,aw,cv]
theorem vP(ns:AA){b:Int}(hb:0<b):∃(zs:AA)(z g:Int),low (ns++[b])=zs++[z]/\0<g/\0<z/\ns=zs.map (g*·)/\b=g*z/\zs.length=ns.length:=by
 obtain⟨e,gp⟩:=aa7 (ns:=ns) hb;have dv:=jO (ns++[b]) 0;rw[Va hb]at dv;have ex:∀n∈ns++[b],gl ns b*n.fdiv (gl ns b)=n:=λn hn=>by
  obtain⟨q,e⟩:=dv.2 n hn
  conv=>lhs;rhs;rw[e]
  rw[nW (by omega)];exact e.symm
 refine⟨_,_,gl ns b,e,gp,?_,?_,(ex b (mP ns b)).symm,am _⟩
 .have h:=ex b (mP ns b)
  have:0<b.fdiv (gl ns b)*gl ns b:=by rw[dn,h];exact hb
  exact wk this gp
 .rw[dy]
  conv=>lhs;rw[<-sf ns]
  refine di λn hn=>?_;exact(ex n (kw _ hn)).symm
theorem Rb(ns:AA){b:Int}(hb:0<b):low (low (ns++[b]))=low (ns++[b]):=by
 obtain⟨zs,z,g,e,hg,hz,e1,e2,_⟩:=vP ns hb;rw[e];refine F3 (k:=g) (m:=1) hg (by decide) (sN (mP zs z) (by omega)) ?_ |>.trans e;rw[df,<-e1];show ns++[g*z]=(ns++[b]).map (1*·);rw[<-e2]
 conv=>lhs;rw[<-sf (ns++[b])]
 refine di λn _=>?_;exact(je n).symm
def sm(xs:AA)(w:Int)(ys:AA)(v:Int):AA:=ck (λx y=>x*v+y*w) xs ys
theorem Dr{xs ys:AA}{f g:Int->Int->Int}(h:∀x y,f x y=g x y):ck f xs ys=ck g xs ys:=by
 have:f=g:=funext λx=>funext λy=>h x y;rw[this]
theorem Yu(xs:AA)(w:Int)(ys:AA)(v:Int):ck (λx y=>1*x*v+y*w) xs ys=sm xs w ys v:=Dr λx y=>by rw[je]
theorem Ju(xs:AA)(w:Int)(ys:AA)(v:Int):ck (λy x=>-1*y*w+x*v) ys xs=sm xs w (ys.map (- ·)) v:=by
 unfold sm;rw[List.zipWith_map_right,List.zipWith_comm];refine Dr λx y=>?_;rw[jw,je];exact Int.add_comm _ _
end Bn
namespace L2
open PySem PySem.Spec PyProof.Rows Bn
section
variable{X:Cx}
theorem Tn{k:Nat}{i:Int}(h:Bd k i):d5 i<=k:=by
 unfold d5;split
 .exact cy _
 .rename_i c
  have z:i.natAbs≠0:=by
   intro q;have:i=0:=by omega
   subst this;exact c rfl
  have:=(Nat.log2_lt z).mpr h;omega
def oR(_ j:Int):Prop:=j≠0/\Bd 8000 j
theorem Fy:eD X (binaryOp .FloorDiv) (rI oR λi j=>.int (i.fdiv j)):=
 yC λ_ _ _ _ _ _ _ hc q=>floordiv_int hc.1 q (.inl (PyProof.noPylong_of_log2 (wm (hc.2.log (by decide)) (by decide))))
theorem PS.imp{st:Stmt}{t t':TS}(h:PS X st t)(i:∀D σ H,t' D σ H->t D σ H):PS X st t':=λAL s σ H D I q=>h AL s σ H D I (i D σ H q)
theorem gB.imp{st:List Stmt}{t t':TS}(h:gB X st t)(i:∀D σ H,t' D σ H->t D σ H):gB X st t':=λAL s σ H D I q=>h AL s σ H D I (i D σ H q)
theorem PE.imp{e:ah}{t t':TE}(h:PE X e t)(i:∀σ H Q,t' σ H Q->t σ H Q):PE X e t':=λAL s σ H Q I q=>h AL s σ H Q I (i σ H Q q)
theorem PT.imp{e:ah}{t t':TT}(h:PT X e t)(i:∀σ H Q,t' σ H Q->t σ H Q):PT X e t':=λAL s σ H Q I q=>h AL s σ H Q I (i σ H Q q)
theorem aF.turnedNew{AL:List (Addr×Obj)}{σ:St}{H:Hp}{s:aa}{h':Heap}{t':Nat}{ch:List Addr}{a:Addr}{o:HO}(I:aF X AL σ H s)(hf:∀b∈ch,fF X AL H b)
  (k:∀b u,b∉ch->s.heap.get? b=some u->h'.get? b=some u)(hp:s.heap.objs.size<=a)(new:fJ X.prog X.w (aK H a o) h' a o):
  aF X AL σ (aK H a o) {s with heap:=h',toks:=t'}:=by
 have hn:H a=none:=I.hok.fresh hp;have nch:∀b u,H b=some u->b∉ch:=λb u e z=>by
  rw[(hf b z).1]at e;cases e
 have nea:∀b u,H b=some u->b≠a:=λb u e=>fW e hn;refine I.step (g':=s.gens) (d':=s.drawn) (ch:=ch) (λb hb=>?_) (λb u _ _ hc e _=>k b u hc e) (λb u _ _ hc e _=>⟨u.slots,k b u hc e⟩) (λb u _ e n=>?_)
  (λb u hc e=>⟨u,k b u hc e⟩) (λb xs e=>?_) (λb u v e=>?_) (λb ps e=>⟨#[],?_⟩) (λm hm=>?_) (λb u e=>?_) I.bare
 .obtain⟨_,f1,_,f3,f4,f5⟩:=hf b hb
  exact⟨f3,f1,f4,f5⟩
 .rw[bH (cr (de (ax e) hp))]
  exact n
 .rw[bH (nea b _ e)]
  exact e
 .rw[bH (nea b _ e)]
  exact e
 .rw[bH (nea b _ e),e]
  simp
 .obtain⟨ob,es,ep,ho,r⟩:=hm
  exact⟨ob,es,ep,k _ ob (λz=>(hf _ z).2.1 rfl) ho,r⟩
 .by_cases hb:b=a
  .subst hb
   rw[dR]at e;cases e;exact new
  .rw[bH hb]at e
   refine(I.hok b u e).stay (λc v hc q=>k c v ?_ q) (λc q=>?_) λc xs q=>?_
   .rcases hc with z |z
    .rw[z]
     exact nch b u e
    .exact nch c _ z
   .rw[bH (nea c _ q)]
    exact q
   .rw[bH (nea c _ q)]
    exact q
theorem aF.turnedL{AL:List (Addr×Obj)}{σ:St}{H:Hp}{s:aa}{h':Heap}{t':Nat}{ch:List Addr}(I:aF X AL σ H s)(hf:∀b∈ch,fF X AL H b)
  (k:∀b u,b∉ch->s.heap.get? b=some u->h'.get? b=some u):aF X AL σ H {s with heap:=h',toks:=t'}:=by
 have nch:∀b u,H b=some u->b∉ch:=λb u e z=>by
  rw[(hf b z).1]at e;cases e
 refine I.step (g':=s.gens) (d':=s.drawn) (ch:=ch) (λb hb=>?_) (λb u _ _ hc e _=>k b u hc e) (λb u _ _ hc e _=>⟨u.slots,k b u hc e⟩) (λb u _ e n=>n)
  (λb u hc e=>⟨u,k b u hc e⟩) (λb xs e=>e) (λb u v e=>e) (λb ps e=>⟨#[],?_⟩) (λm hm=>?_) (λb u e=>?_) I.bare
 .obtain⟨_,f1,_,f3,f4,f5⟩:=hf b hb
  exact⟨f3,f1,f4,f5⟩
 .rw[e]
  simp
 .obtain⟨ob,es,ep,ho,r⟩:=hm
  exact⟨ob,es,ep,k _ ob (λz=>(hf _ z).2.1 rfl) ho,r⟩
 .refine(I.hok b u e).stay (λc v hc q=>k c v ?_ q) (λc q=>q) λc xs q=>q
  rcases hc with z |z
  .rw[z]
   exact nch b u e
  .exact nch c _ z
end
def Oe (K : ag) (a : Addr) : It :=
  ⟨λi H => ∃ xs x, bS K H a xs ∧ xs[i]? = some x,
   λi H x H' => ∃ p y, H p = none ∧ x = .ref p ∧ H' = aK H p (.tup [.int i, y]) ∧ ∀ xs, bS K H a xs → xs[i]? = some y,
   λi H => ∃ xs, bS K H a xs ∧ xs.length ≤ i⟩
theorem Jx{P:Program}{w:al}{K:ag}{elts:List ah}{x1:Nat}{tp:ai}(a e it:Addr)(hne:e≠it):
  qJ P w K (.Tuple elts x1 tp) (Oe K a) [e,it] e (λi h=>(∃old,IsEnum h e it (i:Int) old)/\h.IsListIter it a i) where
 mem:=by simp
 obj:=λi h st b hb=>by
  obtain⟨⟨old,q⟩,o,e1,c,d⟩:=st;rcases ci.mp hb with z |z
  .subst z
   exact⟨_,q,λv z=>nomatch z⟩
  .have z':b=it:=by simpa using z
   subst z';exact⟨o,e1,λv z=>by rw[d]at z;cases z⟩
 keep:=λi h h' st k=>⟨let⟨old,q⟩:=st.1;⟨old,k e (by simp) _ q⟩,st.2.at λo q=>k it (by simp) o q⟩
 item:=by
  intro X hP hw hK hc i AL s σ H E I hf st hg;subst hP hw hK;obtain⟨xs,x,hq,hx⟩:=hg;obtain⟨its,rv,pl,hz⟩:=I.list hq;obtain⟨u,hu,ru⟩:=rv.get hx;obtain⟨⟨old,he⟩,hit⟩:=st;refine wpAny_pyNext_enum_item he hit pl.isList (x:=u) (by simpa using hu) hne λh1 ho1 hit1 ht1 hs1 hk1=>⟨_,rfl,?_⟩;have lt1:e<s.heap.objs.size:=ax he;refine wpAny_letOwnedTupleGo_enum (s:={s with heap:=h1,toks:=s.toks+1}) ho1 λh2 he2 sb2=>?_;have ht2:h2.get? s.heap.objs.size=some {cls:=.type "tuple",data:=.seq #[.int i s.toks,u]}:=(sb2.2 _ (kj lt1)).trans ht1;have I2:aF X AL σ (aK H s.heap.objs.size (.tup [.int i,x])) {s with heap:=h2,toks:=s.toks+1}:=
   I.turnedNew hf (λb o hb q=>(sb2.2 b (λz=>hb (by simp[z]))).trans (hk1 b o (λz=>hb (by simp[z])) (λz=>hb (by simp[z])) q)) (aj _)
    ⟨by show 2<=sizeLine;decide,[.int i s.toks,u],.cons ⟨_,rfl⟩ (.cons ru .nil),⟨_,ht2,rfl,_,rfl⟩⟩
  refine⟨.ref s.heap.objs.size,_,I2,rfl,⟨_,x,I.hok.fresh (aj _),rfl,rfl,λys hy=>by rw[I.list_inj hy hq];exact hx⟩,⟨⟨_,by simpa using he2⟩,hit1.at λo q=>(sb2.2 it hne.symm).trans q⟩,λb hb=>?_⟩;have hb':=(hf b hb).1;have lt:b≠s.heap.objs.size:=by
   rcases ci.mp hb with z |z
   .subst z
    exact cr lt1
   .have z':b=it:=by simpa using z
    subst z';obtain⟨o,q,_⟩:=hit;exact cr (ax q)
  rw[bH lt];exact hb'
 done:=by
  intro X hP hw hK hc i AL s σ H E I hf st hg;subst hP hw hK;obtain⟨xs,hq,hx⟩:=hg;obtain⟨its,rv,pl,hz⟩:=I.list hq;obtain⟨⟨old,he⟩,hit⟩:=st;have hl:=rv.length;exact wpAny_pyNext_enum_end (I.ok.hd hc) he hit pl.isList (by simp;omega) λh' eb=>⟨rfl,I.turnedL (t':=s.toks) hf λb o hb q=>eb b o (λz=>hb (by simp[z])) q⟩
 self:=λ_ _ _ _ _ st h=>let⟨_,q⟩:=st.1;wpAny_pyIter_enum q h
section
variable{X:Cx}{elts:List ah}{x1:Nat}{tp:ai}
def abY(K:ag)(tl:TA):TI:=λσ H R=>tl σ H λvs H1=>∃a,vs=[.ref a]/\(∃xs,bS K H1 a xs)/\R (Oe K a) H1
theorem U4{l:ah}{tl:TA}{p pos:ai}(hg:Gl X "enumerate")(hm:X.mg "enumerate"=none)(hl:PA X [l] tl)(hs:starEach [l] X.env=[(false,eval l X.env)]:=by rfl):
  PI X (.Tuple elts x1 tp) (.Call (.Name "enumerate" p) [l] [] pos) (abY X.K tl):=by
 intro AL s σ H R I h;refine Call_ (oH I hg hm boot_enumerate (ot (bC (hl pos AL s σ H _ I h) λus s1 hq=>?_) hs rfl));rcases hq with⟨vs,H1,I1,r1,q1⟩;obtain⟨a,rfl,⟨xs,hq⟩,q⟩:=q1;obtain⟨u,rfl,ru⟩:=iY r1;cases ru;obtain⟨its,rv,pl,hz⟩:=I1.list hq;refine call_enumerate_list pl.isList λh' he hit hsz k=>?_;have I2:aF X AL σ H1 {s1 with heap:=h'}:=I1.kept (t':=s1.toks) k;refine wpAny_pyIter_enum (s:={s1 with heap:=h'}) he ?_;refine⟨s1.heap.objs.size+1,[s1.heap.objs.size+1,s1.heap.objs.size],_,_,H1,rfl,I2,Jx a _ _ (Nat.succ_ne_self _),⟨⟨_,he⟩,hit⟩,λb hb=>?_,q⟩;have hb':s1.heap.objs.size<=b:=by
  rcases ci.mp hb with z |z
  .rw[z]
   exact nj _
  .have z':b=s1.heap.objs.size:=by simpa using z
   rw[z'];exact aj _
 exact I1.fpOk hb' (I1.hok.fresh hb')
end
def fZ(env:bh):List (Str×fu)->List (Str×Addr)->List (Str×Addr)
 |[],acc=>acc
 |p::r,acc=>if(p.2== .free)=true then fZ env r ((p.1,(env.cells.lookup p.1).getD 0)::acc)else fZ env r acc
theorem Jb{sc:Scope}{env:bh}(h:∀p∈sc.names,p.2=.free->∃c,env.cells.lookup p.1=some c):closureFor sc env=pure (fZ env sc.names []):=by
 unfold closureFor;have go:∀(l:List (Str×fu))(acc:List (Str×Addr)),(∀p∈l,p.2=.free->∃c,env.cells.lookup p.1=some c)->
   (forIn l acc (λx r=>if(x.2==fw)=true then do let a <-cellOf env x.1;pure (wn ((x.1,a)::r))else pure (wn r)):Sem _)=pure (fZ env l acc):=by
  intro l
  induction l with
  |nil=>intro acc _;rfl
  |cons p r ih=>
   intro acc hp;rw[si];have hr:=λacc'=>ih acc' λq hq=>hp q (bn _ hq)
   by_cases c:(p.2==fw)=true
   .obtain⟨a,ea⟩:=hp p ay (by simpa using c)
    have e1:cellOf env p.1=pure a:=by unfold cellOf;rw[ea]
    rw[if_pos c,e1];simp only[pure_bind];rw[hr];show _=pure (if(p.2== .free)=true then _ else _);rw[if_pos c,ea];rfl
   .rw[if_neg c]
    simp only[pure_bind];rw[hr];show _=pure (if(p.2== .free)=true then _ else _);rw[if_neg c]
 have e:=go sc.names [] h;show(forIn sc.names [] _ >>= λr=>pure r)=_;rw[bind_pure];exact e
theorem uC{env:bh}:∀(l:List (Str×fu))(acc:List (Str×Addr)),(∀p∈l,p.2=.free->∃c,env.cells.lookup p.1=some c)->
  ∀y c,(fZ env l acc).lookup y=some c->acc.lookup y=some c\/env.cells.lookup y=some c
 |[],acc,_,y,c,e=>.inl e
 |p::r,acc,h,y,c,e=>by
  have hr:∀q∈r,q.2=.free->∃c,env.cells.lookup q.1=some c:=λq hq=>h q (bn _ hq);unfold fZ at e
  by_cases k:(p.2==fw)=true
  .rw[if_pos k]at e
   obtain⟨a,ea⟩:=h p ay (by simpa using k);rcases uC r _ hr y c e with z |z
   .rw[dk]at z
    cases w:y==p.1 with
    |true=>
     rw[w,ea]at z;have hy:y=p.1:=by simpa using w
     rw[hy,ea];exact .inr z
    |false=>
     rw[w]at z;exact .inl z
   .exact .inr z
  .rw[if_neg k]at e
   exact uC r acc hr y c e
theorem pI{env:bh}:∀(l:List (Str×fu))(acc:List (Str×Addr))(y:Str),((∃c,acc.lookup y=some c)\/(y,fw)∈l)->∃c,(fZ env l acc).lookup y=some c
 |[],acc,y,h=>by
  rcases h with h |h
  .exact h
  .cases h
 |p::r,acc,y,h=>by
  unfold fZ
  by_cases k:(p.2==fw)=true
  .rw[if_pos k]
   refine pI r _ y ?_;cases w:y==p.1 with
   |true=>exact .inl ⟨_,by rw[dk,w]⟩
   |false=>
    rcases h with⟨c,h⟩|h
    .exact .inl ⟨c,by rw[dk,w];exact h⟩
    .rcases ci.mp h with z |z
     .rw[<-z]at w
      simp at w
     .exact .inr z
  .rw[if_neg k]
   refine pI r _ y ?_;rcases h with h |h
   .exact .inl h
   .rcases ci.mp h with z |z
    .rw[<-z]at k
     simp at k
    .exact .inr z
theorem Ff{env:bh}:∀{names:List (Str×fu)}{x:Str},(∀y∈names,y.2≠.cell)->
  (let l:=(names.map λ(n,k)=>if(k==fw&&env.scope.kind== .function&&env.kindOf n==some .cell)then(n,fk)else(n,k)).lookup x;l=some .cell\/l=some .free)->(x,fw)∈names
 |[],x,_,h=>by
  rcases h with h |h<;>cases h
 |(n,k)::r,x,hc,h=>by
  dsimp only at h;rw[aw]at h;have ih:=@Ff env r x λy hy=>hc y (bn _ hy);have nk:k≠.cell:=hc (n,k) ay
  by_cases c:(k==fw&&env.scope.kind== .function&&env.kindOf n==some .cell)=true
  .have kf:k=.free:=by
    simp only[iy,beq_iff_eq]at c;exact c.1.1
   dsimp only at h;rw[if_pos c,dk]at h;cases w:x==n with
   |true=>
    have hx:x=n:=by simpa using w
    rw[hx,<-kf];exact ay
   |false=>
    rw[w]at h;exact bn _ (ih h)
  .dsimp only at h
   rw[if_neg c,dk]at h;cases w:x==n with
   |true=>
    rw[w]at h;have hx:x=n:=by simpa using w
    have kf:k=.free:=by
     rcases h with h |h
     .exact absurd (ce h) nk
     .exact ce h
    rw[hx,<-kf];exact ay
   |false=>
    rw[w]at h;exact bn _ (ih h)
def dY(X:Cx)(sc:Scope)(N:List Str)(C:Addr)(AM:aa)(AN:Hp)(ex:List Addr):Cx where
 prog:=X.prog
 w:=X.w
 K:=X.K
 mg:=X.mg
 base:=X.base
 A:=X.A
 N:=N
 AM:=AM
 AN:=AN
 env:=compEnvC sc (fZ X.env sc.names []) C X.env
 outer:=X.stack
 stack:=X.stack
 ex:=ex
 fn:=λ_=>false
 calm:=X.calm
 pn:=[]
 xe:=λ_ _=>False
def iL(own:List Str)(cap:List (Nat×Str))(σ:St):St:=own.map (λ_=>none)++cap.map λp=>(σ[p.1]?).join
def cB(own:List Str)(cap:List (Nat×Str)):List Str:=own++cap.map (·.2)
def xQ(J:It)(g:TG)(te:TE)(AQ:St)(H1:Hp)(D:Addr)(Q:VK):Prop:=
 ∃W:Nat->Nat->St->Hp->List V->Prop,(∃m,W 0 m AQ (aK H1 D (.lst [])) [])/\∀i m σ H ys,W i m σ H ys->H D=some (.lst ys)/\
  ((J.stop i H/\Q (.ref D) H)\/(J.go i H/\ys.length<sizeLine/\∀x H2,J.yld i H x H2->g x σ H2 λσ3 H3=>te σ3 H3 λy H4=>H4 D=some (.lst ys)/\∃m',m'<m/\W (i+1) m' σ3 (aK H4 D (.lst (ys++[y]))) (ys++[y])))
def sT(own:List Str)(cap:List (Nat×Str))(wi:TI)(g:TG)(te:TE):TE:=λσ H Q=>wi σ H λJ H1=>∀D,H1 D=none->xQ J g te (iL own cap σ) H1 D Q
def Nx(n:Nat)(Pv:Nat->St->Hp->List V->Prop)(D:Addr)(i:Nat)(ys:List V)(σ:St)(y:V)(H:Hp):Prop:=
 H D=some (.lst ys)/\∃m,m<n-i/\(m=n-(i+1)/\i+1<=n/\Pv (i+1) σ (aK H D (.lst (ys++[y]))) (ys++[y]))
theorem abr{n:Nat}{Pv:Nat->St->Hp->List V->Prop}{D:Addr}{i:Nat}{ys:List V}{σ:St}{y:V}{H:Hp}(h:i<n)(hD:H D=some (.lst ys))(p:Pv (i+1) σ (aK H D (.lst (ys++[y]))) (ys++[y])):Nx n Pv D i ys σ y H:=
 ⟨hD,n-(i+1),by omega,rfl,h,p⟩
theorem J1{J:It}{g:TG}{te:TE}{AQ:St}{H1:Hp}{D:Addr}{Q:VK}(n:Nat)(hn:n<=sizeLine)(Pv:Nat->St->Hp->List V->Prop)(h0:Pv 0 AQ (aK H1 D (.lst [])) [])
  (hl:∀i σ H ys,Pv i σ H ys->ys.length=i/\H D=some (.lst ys))(hgo:∀i σ H ys,i<n->Pv i σ H ys->J.go i H)
  (hs:∀i σ H ys x H2,i<n->Pv i σ H ys->J.yld i H x H2->g x σ H2 λσ3 H3=>te σ3 H3 λy H4=>Nx n Pv D i ys σ3 y H4)
  (hd:∀σ H ys,Pv n σ H ys->J.stop n H/\Q (.ref D) H):xQ J g te AQ H1 D Q:=by
 refine⟨λi m σ H ys=>m=n-i/\i<=n/\Pv i σ H ys,⟨n,rfl,cy _,h0⟩,?_⟩
 rintro i m σ H ys ⟨rfl,hi,p⟩
 obtain⟨l1,l2⟩:=hl i σ H ys p;refine⟨l2,?_⟩
 by_cases hlt:i<n
 .exact .inr ⟨hgo i σ H ys hlt p,by omega,λx H2 y=>hs i σ H ys x H2 hlt p y⟩
 .have e:i=n:=by omega
  subst e;exact .inl (hd σ H ys p)
section
variable{prog:Program}{w:al}{A:aq}{R:ow->aa->Prop}{s:aa}
theorem Fi{elt target iter:ah}{sc:Scope}{pos:ai}{it acc:Value}{env:bh}(I:Nat->aa->Prop)
  (turn:∀n s,I n s->wpAny (model prog w) A (pyNext it) (λr s1=>match r with
   |none=>R (.ok .next) s1
   |some v=>wpAny (model prog w) A (letOwnedTupleGo target it v) (λ_ s2=>wpAny (model prog w) A (assign target env v) (λ_ s3=>wpAny (model prog w) A (eval elt env)
     (λx s4=>wpAny (model prog w) A (call (.builtin "list.append") [acc,x]) (λ_ s5=>∃m,m<n/\I m s5) (λ_ _=>False) s4) (λ_ _=>False) s3) (λ_ _=>False) s2) (λ_ _=>False) s1) (λ_ _=>False) s)
  (n:Nat)(h:I n s):codeAny (model prog w) A (.compLoop (.ListComp elt [⟨target,iter,[],0⟩] sc pos) 0 it acc env) R s:=by
 refine codeAny_loop rfl I (λn s hI=>?_) n h;show wpAny _ _ ((compTurn (.ListComp elt [⟨target,iter,[],0⟩] sc pos) 0 it acc env).onRaise (λx=>do noteFrame x env;theTreesLotGoes x)) _ _ s;refine wpAny_noted ?_;rw[compTurn_list1];refine ae (oo (ae ?_));refine fj (turn n s hI) (λr s1 h1=>?_) λ_ _ z=>z.elim;cases r with
 |none=>exact ak h1
 |some v=>
  refine ae (fj h1 (λ_ s2 h2=>?_) λ_ _ z=>z.elim);refine ae (fj h2 (λ_ s3 h3=>?_) λ_ _ z=>z.elim);refine ae (ae (fj h3 (λx s4 h4=>?_) λ_ _ z=>z.elim));refine ae (fj h4 (λ_ s5 h5=>?_) λ_ _ z=>z.elim);exact ak (ak ⟨rfl,h5⟩)
end
structure gU(X:Cx)(sc:Scope)(own:List Str)(cap:List (Nat×Str)):Prop where
 kind:sc.kind=.function
 names:∀y∈sc.names,y.2=.local->sc.names.lookup y.1=some .local
 nocell:∀y∈sc.names,y.2≠.cell
 free:∀y∈sc.names,y.2=.free->X.env.kindOf y.1=some .cell
 at':∀p∈cap,X.N[p.1]?=some p.2
 cap:∀p∈cap,sc.names.lookup p.2=some .free
section
variable{X:Cx}{sc:Scope}{own:List Str}{cap:List (Nat×Str)}{AL:List (Addr×Obj)}{σ:St}{H:Hp}{s:aa}
theorem gU.has(k:gU X sc own cap)(ok:X.Ok):∀p∈sc.names,p.2=.free->∃c,X.env.cells.lookup p.1=some c:=λp hp e=>ok.has p.1 (.inl (k.free p hp e))
theorem rE{env:bh}:∀{names:List (Str×fu)}{x:Str},env.scope.kind=.function->names.lookup x=some .free->env.kindOf x=some .cell->
  (names.map λ(n,k)=>if(k==fw&&env.scope.kind== .function&&env.kindOf n==some .cell)then(n,fk)else(n,k)).lookup x=some .cell
 |[],x,_,h,_=>by cases h
 |(n,k)::r,x,hk,h,hx=>by
  rw[aw];dsimp only;rw[dk]at h;cases w:x==n with
  |true=>
   rw[w]at h;have e:x=n:=by simpa using w
   have kf:k=.free:=ce h;have c:(k==fw&&env.scope.kind== .function&&env.kindOf n==some .cell)=true:=by
    rw[kf,hk,<-e,hx];decide
   rw[if_pos c,dk,w]
  |false=>
   rw[w]at h;have ih:=@rE env r x hk h hx
   by_cases c:(k==fw&&env.scope.kind== .function&&env.kindOf n==some .cell)=true
   .rw[if_pos c,dk,w]
    exact ih
   .rw[if_neg c,dk,w]
    exact ih
theorem aF.cmp(k:gU X sc own cap){h4:Heap}{fp:List Addr}{m:Str->AE}{t':Nat}(I:aF X AL σ H s)(hf:∀b∈fp,fF X AL H b)(hlt:∀b∈fp,b<s.heap.objs.size)(hns:h4.Ns s.heap.objs.size m)
  (kp:∀b o,s.heap.get? b=some o->h4.get? b=some o):aF (dY X sc (cB own cap) s.heap.objs.size s H fp) [] (iL own cap σ) H {s with heap:=h4,toks:=t'}:=by
 have hcl:∀y c,(fZ X.env sc.names []).lookup y=some c->X.env.cells.lookup y=some c:=λy c e=>by
  rcases uC sc.names [] (k.has I.ok) y c e with z |z
  .cases z
  .exact z
 have nst:∀b∈fp,b∉eJ X.stack:=λb hb z=>by
  rcases ci.mp (I.stkSub b z)with e |e
  .exact(hf b hb).2.1 e
  .exact(hf b hb).2.2.1 e
 refine⟨⟨I.ok.mod,k.kind,I.ok.glob,I.ok.blt,aj _,λx y c h1 h2=>I.ok.inj x y c (hcl x c h1) (hcl y c h2),λx hx=>?_,λx c e=>(nomatch e),I.ok.hd,I.ok.frames,.inl rfl,λb hb=>⟨cr (hlt b hb),λx c e=>(hf b hb).2.2.2.2.1 x c (hcl x c e)⟩,
  I.bs,fh I.ok.bsz I.sz,λb o e hb=>?_,nst,I.stack,I.stkFree⟩,rfl,I.bare,Un.kept kp,⟨m,hns,λi x v h1 h2 h3=>?_⟩,λx c e=>?_,I.hok.fresh (aj _),λx c e=>I.freeC x c (hcl x c e),λp hp=>absurd (show p∈([]:List (Addr×Obj)) from hp) (by simp),I.hok.kept kp,?_⟩
 .exact pI sc.names [] x (.inr (Ff k.nocell hx))
 .rcases(hf b hb).2.2.2.1 with z |z
  .exact I.ok.noex b o e z
  .exact absurd (de (ax (I.ok.bs b o e).1) z) (ig _)
 .have hN:(cB own cap)[i]?=some x:=h1
  unfold cB at hN;unfold iL at h2
  by_cases hi:i<own.length
  .rw[ff (by simpa using hi),av]at h2
   cases e:own[i]? with
   |none=>rw[e]at h2;cases h2
   |some z=>rw[e]at h2;cases h2
  .rw[dg (by simpa using hi),av,am]at h2
   rw[dg (by omega),av]at hN;cases e:cap[i-own.length]? with
   |none=>rw[e]at h2;cases h2
   |some p=>
    rw[e]at h2 hN;have hp:p∈cap:=cu e;have hx:p.2=x:=ce hN;have hv:(σ[p.1]?).join=some v:=ce h2;have hv':σ[p.1]?=some (some v):=by
     cases e2:σ[p.1]? with
     |none=>rw[e2]at hv;cases hv
     |some z=>rw[e2]at hv;exact congrArg some hv
    have fr:=k.cap p hp;have kc:X.env.kindOf p.2=some .cell:=k.free (p.2,.free) (jo fr) rfl;obtain⟨m0,_,hl⟩:=I.loc;obtain⟨u,ru,lk⟩:=hl p.1 p.2 v (k.at' p hp) hv' (.inr (.inl kc));refine⟨u,ru,?_⟩;rcases lk with⟨k1,_⟩|⟨_,c,ec,cell⟩
    .rw[kc]at k1
     cases k1
    .rw[<-hx]
     obtain⟨c',ec'⟩:=pI (env:=X.env) sc.names [] p.2 (.inr (jo fr));have:=(hcl _ _ ec').symm.trans ec;cases this;obtain⟨o,ho,hd⟩:=cell;exact .inr ⟨.inl (rE I.ok.kind fr kc),c,ec',o,kp c o ho,hd⟩
 .obtain⟨v,o,ho,hd⟩:=I.cell x c (hcl x c e)
  exact⟨v,o,kp c o ho,hd⟩
 .unfold iL
  show _=(cB own cap).length;unfold cB;rw[bi,bi,am,am,am]
theorem aF.uncmp{s3 s':aa}{H3 H':Hp}{N:List Str}{σ':St}{C:Addr}{fp:List Addr}{pl:List (Addr×Obj)}(I:aF X AL σ H s)(hf:∀b∈fp,fF X AL H b)(u:Un (eJ X.stack) fp H H3 s.heap s3.heap)(os:s3.os=s.os)
  (J:aF (dY X sc N C s3 H3 fp) pl σ' H' s'):aF X AL σ H' s':=by
 have os':s'.os=s.os:=(show s'.os=s3.os from J.os).trans os;refine I.call' (ch:=fp) os' (u.trans J.base) J.hok J.bare λb hb=>?_;obtain⟨_,f1,_,f3,f4,f5⟩:=hf b hb;exact⟨f3,f1,f4,f5⟩
end
section
variable{X:Cx}{sc:Scope}{own:List Str}{cap:List (Nat×Str)}{AL:List (Addr×Obj)}{σ:St}{H:Hp}{s:aa}{elt target iter:ah}{pos pos':ai}{wi:TI}{g:TG}{te:TE}{Q:VK}
theorem Li{use:Option (Value->Sem Unit)}{Qf:Value->aa->Prop}(k:gU X sc own cap)(hi:PI X target iter wi)(hc:X.calm=true)
  (hg:∀C AM AN ex,PG (dY X sc (cB own cap) C AM AN ex) target g)(he:∀C AM AN ex,PE (dY X sc (cB own cap) C AM AN ex) elt te)(I:aF X AL σ H s)(h:sT own cap wi g te σ H Q)
  (fin:∀D C s' H' m,aF X AL σ H' s'->fF X AL H' C->s'.heap.Ns C m->Q (.ref D) H'->compPost (model X.prog X.w) X.A X.xe use Qf (.ref D) C (.ok .next) s')
  (hs:∀x,foldedSetIterable iter X.env x=pure x):
  wpAny (model X.prog X.w) X.A (comprehension (.ListComp elt [⟨target,iter,[],0⟩] sc pos) sc X.env pos' (newList []) false (eval iter X.env) use) Qf X.xe s:=by
 refine wo (use:=use) rfl hs (Jb (k.has I.ok)) k.kind k.names ?_;refine bC (hi AL s σ H _ I h) λv s1 h1=>bC h1 λitv s2 h2=>?_;obtain⟨it,fp,tn,J,H2,e,I2,T,st2,f2,hW⟩:=h2;subst e;refine io (d6 k.nocell (λy hy=>nomatch hy) (λh4 hns hsb=>?_) k.kind);have I3:aF X AL σ (aK H2 s2.heap.objs.size (.lst [])) {s2 with heap:=s2.heap.push {cls:=.type "list",data:=.seq ([]:AD).toArray},toks:=s2.toks}:=I2.lnew (ys:=[]) (its:=[]) .nil (cy _);have hD:H2 s2.heap.objs.size=none:=I2.fresh;have ltf:∀b∈fp,b<s2.heap.objs.size:=λb hb=>by
  obtain⟨o,ho,_⟩:=T.obj _ _ st2 b hb;exact ax ho
 have f3:∀b∈fp,fF X AL (aK H2 s2.heap.objs.size (.lst [])) b:=λb hb=>⟨by rw[bH (cr (ltf b hb))];exact(f2 b hb).1,(f2 b hb).2⟩;have un:Un (eJ X.stack) fp H2 (aK H2 s2.heap.objs.size (.lst [])) s2.heap (s2.heap.push {cls:=.type "list",data:=.seq ([]:AD).toArray}):=Un.laid (λb u q=>ao _ q) (aj _) hD;have kp:∀b o,(s2.heap.push {cls:=.type "list",data:=.seq ([]:AD).toArray}).get? b=some o->h4.get? b=some o:=λb o q=>hsb.extBut b o (cr (ax q)) (ao _ q);have J0:=I3.cmp (t':=s2.toks+([]:List (Str×Value)).length) k f3 (λb hb=>de (ltf b hb) (by rw[jf];exact nj _)) hns kp;have stat:∀{H':Hp},(∀b∈fp,H' b=none)->∀b∈fp,fF (dY X sc (cB own cap) (s2.heap.push {cls:=.type "list",data:=.seq ([]:AD).toArray}).objs.size {s2 with heap:=s2.heap.push {cls:=.type "list",data:=.seq ([]:AD).toArray},toks:=s2.toks} (aK H2 s2.heap.objs.size (.lst [])) fp) [] H' b:=λhn b hb=>
  ⟨hn b hb,(J0.ok.exf b hb).1,J0.ok.exfs b hb,.inl hb,(J0.ok.exf b hb).2,λp hp=>absurd (show p∈([]:List (Addr×Obj)) from hp) (by simp)⟩
 have st4:tn 0 h4:=T.keep _ _ _ st2 λb hb o q=>kp b o (ao _ q);have fr0:∀b∈fp,(aK H2 s2.heap.objs.size (.lst [])) b=none:=λb hb=>(f3 b hb).1;have loop:codeAny (model X.prog X.w) X.A (.compLoop (.ListComp elt [⟨target,iter,[],0⟩] sc pos) 0 (.ref it) (.ref s2.heap.objs.size) (compEnvC sc (fZ X.env sc.names []) (s2.heap.push {cls:=.type "list",data:=.seq ([]:AD).toArray}).objs.size X.env))
   (compPost (model X.prog X.w) X.A X.xe use Qf (.ref s2.heap.objs.size) (s2.heap.push {cls:=.type "list",data:=.seq ([]:AD).toArray}).objs.size) {s2 with heap:=h4,toks:=s2.toks+([]:List (Str×Value)).length}:=by
  obtain⟨W,⟨m0,w0⟩,turn⟩:=hW s2.heap.objs.size hD;refine Fi (λn s'=>∃i σ' H' ys,aF (dY X sc (cB own cap) (s2.heap.push {cls:=.type "list",data:=.seq ([]:AD).toArray}).objs.size {s2 with heap:=s2.heap.push {cls:=.type "list",data:=.seq ([]:AD).toArray},toks:=s2.toks} (aK H2 s2.heap.objs.size (.lst [])) fp) [] σ' H' s'/\tn i s'.heap/\(∀b∈fp,H' b=none)/\W i n σ' H' ys) ?_ m0
   ⟨0,_,_,[],J0,st4,fr0,w0⟩
  rintro n s5 ⟨i,σ5,H5,ys,I5,st5,fr5,w5⟩
  obtain⟨hD5,w5⟩:=turn i n σ5 H5 ys w5;rcases w5 with⟨stop,qn⟩|⟨go,hlt,step⟩
  .refine bC (T.done (dY X sc (cB own cap) (s2.heap.push {cls:=.type "list",data:=.seq ([]:AD).toArray}).objs.size {s2 with heap:=s2.heap.push {cls:=.type "list",data:=.seq ([]:AD).toArray},toks:=s2.toks} (aK H2 s2.heap.objs.size (.lst [])) fp) rfl rfl rfl hc i [] s5 σ5 H5 _ I5 (stat fr5) st5 stop) ?_
   rintro r s6 ⟨hr,I6⟩
   subst hr;obtain⟨m,hn,_⟩:=id I6.loc;exact fin _ _ s6 H5 m (I2.uncmp (s3:={s2 with heap:=s2.heap.push {cls:=.type "list",data:=.seq ([]:AD).toArray},toks:=s2.toks}) f2 un rfl I6) (I3.fpOk (aj _) I6.free) hn qn
  .refine bC (T.item (dY X sc (cB own cap) (s2.heap.push {cls:=.type "list",data:=.seq ([]:AD).toArray}).objs.size {s2 with heap:=s2.heap.push {cls:=.type "list",data:=.seq ([]:AD).toArray},toks:=s2.toks} (aK H2 s2.heap.objs.size (.lst [])) fp) rfl rfl rfl hc i [] s5 σ5 H5 _ I5 (stat fr5) st5 go) ?_
   rintro r s6 ⟨u,hr,h6⟩
   subst hr;refine bC h6 ?_
   rintro _ s7 ⟨x,H7,I7,r7,y7,st7,fr7⟩
   have I7':=I7.pinned (stat fr7) (T.obj _ _ st7);refine bC (hg _ _ _ _ _ s7 σ5 H7 x u _ I7' r7 (step x H7 y7)) ?_
   rintro _ s8 ⟨σ8,H8,I8,q8⟩
   refine bC (he _ _ _ _ _ s8 σ8 H8 _ I8 q8) ?_
   rintro v9 s9 ⟨y,H9,I9,r9,hD9,m',hm,w9⟩
   refine bC (pL _ s9 σ8 H9 (.ref s2.heap.objs.size) [y] (.ref s2.heap.objs.size) [v9] (λ_ H'=>H'=aK H9 s2.heap.objs.size (.lst (ys++[y]))) I9 rfl (.cons r9 .nil) ⟨_,ys,y,rfl,rfl,hD9,hlt,rfl⟩) ?_
   rintro _ s10 ⟨_,H10,I10,_,q10⟩
   subst q10;refine⟨m',hm,i+1,σ8,_,_,I10.unpinned,T.keep _ _ _ st7 λb hb o q=>(I10.pin (b,o) (da _ (da _ (kM hb q)))).1,λb hb=>?_,w9⟩;obtain⟨o,q,d⟩:=T.obj _ _ st7 b hb;exact(I10.pin (b,o) (da _ (da _ (kM hb q)))).2.1
 exact wp loop (T.self _ 0 _ _ _ st4 loop)
theorem J5(k:gU X sc own cap)(hi:PI X target iter wi)(hc:X.calm=true)
  (hg:∀C AM AN ex,PG (dY X sc (cB own cap) C AM AN ex) target g)(he:∀C AM AN ex,PE (dY X sc (cB own cap) C AM AN ex) elt te)
  (hs:∀x,foldedSetIterable iter X.env x=pure x:=by intro _;rfl):PE X (.ListComp elt [⟨target,iter,[],0⟩] sc pos) (sT own cap wi g te):=by
 intro AL s σ H Q I h;rw[wq];refine Li (use:=none) k hi hc hg he I h (λD C s' H' m I' fC hn q=>?_) hs;refine⟨m,hn,λh' sb=>⟨.ref D,H',?_,rfl,q⟩⟩;obtain⟨f0,f1,f2,f3,f4,f5⟩:=fC;exact I'.turned (t':=s'.toks) (λb o hb e=>(sb.2 b hb).trans e) f0 f1 f3 f4 f5
theorem J9{i:Nat}{x:Str}{py spos:ai}(hN:X.N.Nodup)(hx:X.N[i]?=some x)(hl:kK X.env.scope x)(k:gU X sc own cap)(hi:PI X target iter wi)(hc:X.calm=true)
  (hg:∀C AM AN ex,PG (dY X sc (cB own cap) C AM AN ex) target g)(he:∀C AM AN ex,PE (dY X sc (cB own cap) C AM AN ex) elt te)
  (hs:∀x,foldedSetIterable iter X.env x=pure x:=by intro _;rfl)(hsw:swapsWith (.ListComp elt [⟨target,iter,[],0⟩] sc pos) (some (.Name x py)) spos.line X.env=pure true:=by rfl)
  (hf:X.fn x=true\/X.env.scope.names.lookup x=some .local:=by first |exact .inl rfl |exact .inr rfl |assumption):
  PS X (.Assign [.Name x py] (.ListComp elt [⟨target,iter,[],0⟩] sc pos) spos) (Be (sT own cap wi g te) (Dd i)):=by
 intro AL s σ H D I h;rw[exec_Assign_Name_used _ _ _ _ hsw];refine ae (oo (ae ?_));show wpAny _ X.A (comprehension (.ListComp elt [⟨target,iter,[],0⟩] sc pos) sc X.env _ (newList []) false (eval iter X.env) (some (assign (.Name x py) X.env)) >>= λ_=>pure ()) _ _ s;refine ae (bC (Li (use:=some (assign (.Name x py) X.env)) (Qf:=λ_ s'=>SP X AL D .next s') k hi hc hg he I h (λB C s' H' m I' fC hn q=>?_) hs) λ_ s' hq=>ak (ak hq))
 show wpAny _ _ (assign (.Name x py) X.env (.ref B)) _ _ s';obtain⟨o,es,ep,ho,hd,r⟩:=hn;obtain⟨f0,f1,f2,f3,f4,f5⟩:=fC;have I'':aF X (AL++[(C,o)]) σ H' s':=I'.pins_of λp hp=>(cj.mp hp).elim (λz=>I'.pin p (da _ z)) λz=>by
  have e:p=(C,o):=by simpa using z
  subst e;exact⟨ho,f0,f1,f2,λv z=>by rw[hd]at z;cases z⟩
 refine wpAny_assign_Name (pR I'' hN hx hl (v:=.ref B) rfl (λs2 I2=>?_) hf);have pC:=I2.pin (C,o) (by simp);refine⟨m,⟨o,es,ep,pC.1,hd,r⟩,λh' sb=>⟨_,H',?_,q⟩⟩;exact(I2.unpinned).turned (t':=s2.toks) (λb o hb e=>(sb.2 b hb).trans e) f0 f1 f3 f4 f5
end
section
variable{X:Cx}
theorem Zz(hc:X.calm=true):iB X (.builtin "all") (λxs H Q=>∃(a:Addr)(bs:List Bool),xs=[.ref a]/\bS X.K H a (bs.map V.bl)/\Q (.bl (bs.all id)) H):=by
 intro AL s σ H xs us Q I r h;obtain⟨a,bs,rfl,hq,q⟩:=h;obtain⟨u,rfl,ru⟩:=iY r;cases ru;obtain⟨its,rv,pl,hz⟩:=I.list hq;have hl:bs.length=its.length:=by
  have:=rv.length
  rwa[am]at this
 refine call_all_walk (sj pl.isList ?_);have ha:a<s.heap.objs.size:=by
  obtain⟨o,ho,_⟩:=pl.isList;exact ax ho
 refine⟨_,_,_,_,_,_,λi=>bs.getD i true,rfl,Walks.list (prog:=X.prog) (w:=X.w) (A:=X.A.in1) (show X.A.in1.handled=none from I.ok.hd hc) s.heap.objs.size a (cr ha) its.toArray,⟨⟨_,cx _ rfl,rfl,rfl⟩,Heap.IsList.at pl.isList λo e=>ao _ e⟩,λi v s' Q' E' hv hQ=>?_,λh' tk kp=>?_⟩
 .have hv':its[i]?=some v:=by simpa using hv
  have hi:i<bs.length:=by
   have:=(bo.mp hv').1;omega
  obtain⟨u,hu,ru⟩:=rv.get (i:=i) (x:=.bl bs[i]) (by rw[av,au hi];rfl);rw[hv']at hu;cases hu;cases(show v=qp bs[i] from ru);have e:bs.getD i true=bs[i]:=by simp[br,hi]
  have hQ':Q' (bs.getD i true) s':=hQ;rw[e]at hQ';exact ky hQ'
 .have e:(az its.toArray.size).all (λi=>bs.getD i true)=bs.all id:=by
   rw[ar,<-hl,wr,jx,jx];constructor
   .intro z b hb
    obtain⟨i,hi,rfl⟩:=sk.mp hb;have:=z i (by simpa using hi);simpa[br,hi]using this
   .intro z i hi
    have hi':i<bs.length:=by simpa using hi
    have:=z bs[i] (iu hi');simpa[br,hi']using this
  show EP X AL σ Q (.bool ((az its.toArray.size).all λi=>bs.getD i true)) _;rw[e];have I1:aF X AL σ H {s with heap:=s.heap.push {cls:=.type "list_iterator",data:=.fields #[.ref a,.int 0 0]},toks:=s.toks}:=I.kept λb o z=>ao _ z;have fp:fF X AL H s.heap.objs.size:=I.fpOk (aj _) (I.hok.fresh (aj _));obtain⟨f0,f1,f2,f3,f4,f5⟩:=fp;exact⟨.bl (bs.all id),H,I1.turned (λb o hb z=>kp b o (by simpa using hb) z) f0 f1 f3 f4 f5,rfl,q⟩
end
section
variable{prog:Program}{w:al}{A:aq}{E:Value->aa->Prop}{s:aa}
theorem Wv{it t:Addr}{i:Nat}{items:Array Value}{x:Value}{Q:Value->aa->Prop}(git:s.heap.IsTupleIter it t i)(gt:s.heap.IsTuple t items)(gx:items[i]?=some x)
  (gQ:∀h',h'.IsTupleIter it t (i+1)->il it s.heap h'->Q x {s with heap:=h'}):wpAny (model prog w) A (kn (.ref it)) Q E s:=by
 obtain⟨o,go,gc,gd⟩:=id git;obtain⟨ol,gol,_,nl,gdl⟩:=gt;unfold kn;refine ae (ld (name:=ib "__next__") git.typeIs sr (jp sr git.typeIs d7 ?_ (d8 _)));show wpAny _ _ (field (.ref it) 0 >>= _) _ _ s;refine ae (gw go gd (x:=.ref t) rfl ?_);show wpAny _ _ (if(cq t==bf)=true then _ else _) _ _ s;rw[if_neg (show ¬((cq t==bf)=true) from ir)];show wpAny _ _ (field (.ref it) 1 >>= _) _ _ s;refine ae (gw go gd (x:=.int i 0) rfl ?_);show wpAny _ _ (seqItems? (.ref t) >>= _) _ _ s;refine ae (jy gol gdl ?_);simp only[lc,gx];refine ae (pk go gd (by simp) (ak ⟨_,rfl,ak (gQ _ ?_ (lh ..))⟩));refine⟨_,rf _ go (d9 (ss gd _)),(f6 ..).trans gc,?_⟩;rw[ss gd];simp[rawInt]
theorem Xs{it t:Addr}{i:Nat}{items:Array Value}{Q:Value->aa->Prop}(hh:A.handled=none)(git:s.heap.IsTupleIter it t i)(gt:s.heap.IsTuple t items)(gx:items[i]?=none)
  (gE:∀h' e,pw it s.heap h'->(∃o,h'.get? e=some o/\o.cls=.type "StopIteration")->E (.ref e) {s with heap:=h'}):wpAny (model prog w) A (kn (.ref it)) Q E s:=by
 obtain⟨o,go,gc,gd⟩:=id git;obtain⟨ol,gol,_,nl,gdl⟩:=gt;unfold kn;refine ae (ld (name:=ib "__next__") git.typeIs sr (jp sr git.typeIs d7 ?_ (d8 _)));show wpAny _ _ (field (.ref it) 0 >>= _) _ _ s;refine ae (gw go gd (x:=.ref t) rfl ?_);show wpAny _ _ (if(cq t==bf)=true then _ else _) _ _ s;rw[if_neg (show ¬((cq t==bf)=true) from ir)];show wpAny _ _ (field (.ref it) 1 >>= _) _ _ s;refine ae (gw go gd (x:=.int i 0) rfl ?_);show wpAny _ _ (seqItems? (.ref t) >>= _) _ _ s;refine ae (jy gol gdl ?_);simp only[lc,gx]
 first
  |refine ae (ki (ae (pk go gd (by simp) (ae (su ?_)))))
  |refine ae (ki (ae (pk go gd (by simp) ?_)))
 show wpAny _ _ (newExc (.type "StopIteration") [] >>= _) _ _ _;refine ae ?_;simp only[newExc,newTuple];refine ae (io ?_ (by size_fits));refine ae (m:=firstArgMember _ _) (sv (a:=bf) (by first |rfl |(simp only[firstArgMember];rfl)) ?_)
 refine io ?_ (by size_fits);simp only[raiseNew];refine ae (wpAny_handled ?_)
 first
  |rw[show A.in1.handled=none from hh]
  |rw[hh]
 refine ae (ak (wpAny_throw ?_));exact gE _ _ (((lh ..).extBut.push _).push _) ⟨_,cx _ rfl,rfl⟩
end
theorem Ry{prog:Program}{w:al}{A:aq}(hh:A.handled=none)(it t:Addr)(hne:t≠it)(items:Array Value):
  jq prog w A it [it,t] items.size (λi v=>items[i]?=some v) (λi h=>h.IsTupleIter it t i/\h.IsTuple t items) where
 live:=λ_ _ st=>let⟨o,ho,_⟩:=st.1;⟨o,ho⟩
 frame:=λ_ _ _ st hk=>⟨let⟨o,ho,r⟩:=st.1;⟨o,hk it (by simp) o ho,r⟩,let⟨o,ho,r⟩:=st.2;⟨o,hk t (by simp) o ho,r⟩⟩
 item:=λi s Q E hi st hQ=>by
  refine Wv st.1 st.2 (x:=items[i]) (by simp[hi]) λh' hit' hs'=>?_;exact hQ _ h' s.toks (by simp[hi]) ⟨hit',st.2.extBut hs'.extBut hne⟩ hs'
 done:=λs Q E st hE=>Xs hh st.1 st.2 (by simp) hE
structure tQ(z TI TO i1 i2:Addr)(fp1 fp2:List Addr):Prop where
 tiz:TI≠z
 toz:TO≠z
 tito:TI≠TO
 ti1:TI≠i1
 ti2:TI≠i2
 z1:z∉fp1
 z2:z∉fp2
 to1:TO∉fp1
 to2:TO∉fp2
 i12:i1∉fp2
 i21:i2∉fp1
 m1:i1∈fp1
 m2:i2∈fp2
section
variable{prog:Program}{w:al}{A:aq}{E:Value->aa->Prop}{s:aa}{z TI TO i1 i2:Addr}{fp1 fp2:List Addr}{n1 n2 i:Nat}{P1 P2:Nat->Value->Prop}{S1 S2:Nat->Heap->Prop}{a b:Value}
theorem Sw{Q:Value->aa->Prop}(D1:jq prog w A i1 fp1 n1 P1 S1)(D2:jq prog w A i2 fp2 n2 P2 S2)(ap:tQ z TI TO i1 i2 fp1 fp2)(gz:gh s.heap z TI TO .none)(gTI:dl s.heap TI (.ref i1) (.ref i2))(gTO:dl s.heap TO a b)
  (g1:S1 i s.heap)(g2:S2 i s.heap)(l1:i<n1)(l2:i<n2)
  (gQ:∀h' tk x y,P1 i x->P2 i y->gh h' z TI TO (rawInt s.heap.objs.size)->dl h' TO x y->S1 (i+1) h'->S2 (i+1) h'->dl h' s.heap.objs.size x y->
   (∀c o,c≠z->c≠TO->c≠i1->c≠i2->s.heap.get? c=some o->h'.get? c=some o)->Q (.ref s.heap.objs.size) {s with heap:=h',toks:=tk}):
  wpAny (model prog w) A (Builtin.«zip.__next__» ⟨[.ref z],[]⟩) (λfin s'=>∃v,fin=.done (.ret v)/\Q v s') E s:=by
 have nz1:i1≠z:=λq=>ap.z1 (q▸ap.m1);have nz2:i2≠z:=λq=>ap.z2 (q▸ap.m2);have nt1:TO≠i1:=λq=>ap.to1 (q▸ap.m1);have nt2:TO≠i2:=λq=>ap.to2 (q▸ap.m2);show wpAny _ _ (field (.ref z) 2 >>= _) _ _ _;refine ae (gw gz rfl (x:=.bool false) rfl ?_);show wpAny _ _ (field (.ref z) 3 >>= _) _ _ _;refine ae (gw gz rfl (x:=.ref TI) rfl ?_);refine ae (jy gTI rfl ?_);show wpAny _ _ (sw (.ref z) >>= _) _ _ _;refine ae ?_;unfold sw;refine ae (gw gz rfl (x:=.none) rfl (ak ?_));simp only[if_true];refine ae (ki ?_);refine ae (gw gz rfl (x:=.ref TO) rfl ?_);refine ae (ny gz (by simp) λh1 gz1 s1=>?_)
 replace gz1:gh h1 z TI TO .ellipsis:=gz1
 refine ae ?_;simp only[f7,f9,si,wt];refine ae (ae (sx ?_));show wpAny _ _ (kn (.ref i1) >>= _) _ _ _;refine ae (D1.item i _ _ _ l1 (D1.frame _ _ _ g1 λc hc o q=>s1.extBut c o (λe=>ap.z1 (e▸hc)) q) λx h2 tk2 px g1' s2=>ak ?_);have gTO2:dl h2 TO a b:=s2.extBut _ _ nt1 (s1.extBut _ _ ap.toz gTO);refine ae (jy gTO2 rfl ?_);refine ae (wu (s:={s with heap:=h2,toks:=tk2}) gTO2 λh3 gTO3 s3=>?_)
 replace gTO3:dl h3 TO x b:=gTO3
 replace s3:il TO h2 h3:=s3
 refine ae (su (ak ?_));refine ae (ae (sx ?_));show wpAny _ _ (kn (.ref i2) >>= _) _ _ _;have g2':S2 i h3:=D2.frame _ _ _ g2 λc hc o q=>s3.extBut c o (λe=>ap.to2 (e▸hc)) (s2.extBut c o (λe=>ap.i12 (e▸hc)) (s1.extBut c o (λe=>ap.z2 (e▸hc)) q));refine ae (D2.item i _ _ _ l2 g2' λy h4 tk4 py g2'' s4=>ak ?_)
 replace s4:il i2 h3 h4:=s4
 have gTO4:dl h4 TO x b:=s4.extBut _ _ nt2 gTO3;refine ae (jy gTO4 rfl ?_);refine ae (wu (s:={s with heap:=h4,toks:=tk4}) gTO4 λh5 gTO5 s5=>?_)
 replace gTO5:dl h5 TO x y:=gTO5
 replace s5:il TO h4 h5:=s5
 refine ae (su (ak (ak ?_)));refine ae (jy gTO5 rfl ?_);refine ae (wv ?_);have hsz:h5.objs.size=s.heap.objs.size:=by rw[s5.1,s4.1,s3.1,s2.1,s1.1]
 have gz5:gh h5 z TI TO .ellipsis:=s5.extBut _ _ ap.toz.symm (s4.extBut _ _ nz2.symm (s3.extBut _ _ ap.toz.symm (s2.extBut _ _ nz1.symm gz1)));have k5:∀c o,c≠z->c≠TO->c≠i1->c≠i2->s.heap.get? c=some o->h5.get? c=some o:=λc o c1 c2 c3 c4 q=>s5.extBut _ _ c2 (s4.extBut _ _ c4 (s3.extBut _ _ c2 (s2.extBut _ _ c3 (s1.extBut _ _ c1 q))));have g15:S1 (i+1) h5:=D1.frame _ _ _ g1' λc hc o q=>s5.extBut c o (λe=>ap.to1 (e▸hc)) (s4.extBut c o (λe=>ap.i21 (e▸hc)) (s3.extBut c o (λe=>ap.to1 (e▸hc)) q));have g25:S2 (i+1) h5:=D2.frame _ _ _ g2'' λc hc o q=>s5.extBut c o (λe=>ap.to2 (e▸hc)) q;have zlt:z<h5.objs.size:=ax gz5;show wpAny _ _ (g7 (.ref z) (.ref h5.objs.size) >>= _) _ _ _;refine ae ?_;unfold g7;have gz6:gh (h5.push {cls:=.type "tuple",data:=.seq #[x,y]}) z TI TO .ellipsis:=ao _ gz5;refine ae (ny gz6 (by simp) λh7 gz7 s7=>?_)
 replace gz7:gh h7 z TI TO (rawInt h5.objs.size):=gz7
 refine ny gz7 (by simp) λh8 gz8 s8=>?_
 replace gz8:gh h8 z TI TO (rawInt h5.objs.size):=gz8
 have up:∀c o,c≠z->h5.get? c=some o->h8.get? c=some o:=λc o c1 q=>s8.extBut _ _ c1 (s7.extBut _ _ c1 (ao _ q));have gT8:dl h8 h5.objs.size x y:=s8.extBut _ _ (kj zlt) (s7.extBut _ _ (kj zlt) (cx _ rfl));rw[hsz]at gz8 gT8;refine ak ⟨_,rfl,?_⟩;show Q (.ref h5.objs.size) _;rw[hsz];exact gQ h8 _ x y px py gz8 (up _ _ ap.toz gTO5) (D1.frame _ _ _ g15 λc hc o q=>up c o (λe=>ap.z1 (e▸hc)) q) (D2.frame _ _ _ g25 λc hc o q=>up c o (λe=>ap.z2 (e▸hc)) q) gT8 λc o c1 c2 c3 c4 q=>up c o c1 (k5 c o c1 c2 c3 c4 q)
theorem Ax{Q:Fin->aa->Prop}(D1:jq prog w A i1 fp1 n1 P1 S1)(D2:jq prog w A i2 fp2 n2 P2 S2)(ap:tQ z TI TO i1 i2 fp1 fp2)(gz:gh s.heap z TI TO .none)(gTI:dl s.heap TI (.ref i1) (.ref i2))(gTO:dl s.heap TO a b)
  (g1:S1 i s.heap)(g2:S2 i s.heap)(fin:i=n1\/(i<n1/\i=n2))
  (gE:∀h' tk e,(∀c o,c≠z->c≠TO->c≠i1->c≠i2->s.heap.get? c=some o->h'.get? c=some o)->(∃o,h'.get? e=some o/\o.cls=.type "StopIteration")->E (.ref e) {s with heap:=h',toks:=tk}):
  wpAny (model prog w) A (Builtin.«zip.__next__» ⟨[.ref z],[]⟩) Q E s:=by
 have nz1:i1≠z:=λq=>ap.z1 (q▸ap.m1);have nz2:i2≠z:=λq=>ap.z2 (q▸ap.m2);have nt1:TO≠i1:=λq=>ap.to1 (q▸ap.m1);have nt2:TO≠i2:=λq=>ap.to2 (q▸ap.m2);show wpAny _ _ (field (.ref z) 2 >>= _) _ _ _;refine ae (gw gz rfl (x:=.bool false) rfl ?_);show wpAny _ _ (field (.ref z) 3 >>= _) _ _ _;refine ae (gw gz rfl (x:=.ref TI) rfl ?_);refine ae (jy gTI rfl ?_);show wpAny _ _ (sw (.ref z) >>= _) _ _ _;refine ae ?_;unfold sw;refine ae (gw gz rfl (x:=.none) rfl (ak ?_));simp only[if_true];refine ae (ki ?_);refine ae (gw gz rfl (x:=.ref TO) rfl ?_);refine ae (ny gz (by simp) λh1 gz1 s1=>?_)
 replace gz1:gh h1 z TI TO .ellipsis:=gz1
 refine ae ?_;simp only[f7,f9,si,wt];refine ae (ae (sx ?_));show wpAny _ _ (kn (.ref i1) >>= _) _ _ _;have g1':S1 i h1:=D1.frame _ _ _ g1 λc hc o q=>s1.extBut c o (λe=>ap.z1 (e▸hc)) q;rcases fin with e1 |⟨l1,e2⟩
 .subst e1
  refine ae (D1.done _ _ _ g1' λh2 e s2 he=>?_);obtain⟨oe,hoe,hce⟩:=he;have gz2:gh h2 z TI TO .ellipsis:=s2 _ _ nz1.symm gz1;have hez:e≠z:=λq=>by
   subst q;rw[gz2]at hoe;cases hoe;simp at hce
  refine ny (s:={s with heap:=h2}) gz2 (by simp) λh3 _ s3=>?_;exact gE h3 _ e (λc o c1 _ c3 _ q=>s3.extBut _ _ c1 (s2 _ _ c3 (s1.extBut _ _ c1 q))) ⟨oe,s3.extBut _ _ hez hoe,hce⟩
 .subst e2
  refine ae (D1.item i _ _ _ l1 g1' λx h2 tk2 px g1'' s2=>ak ?_);have gTO2:dl h2 TO a b:=s2.extBut _ _ nt1 (s1.extBut _ _ ap.toz gTO);refine ae (jy gTO2 rfl ?_);refine ae (wu (s:={s with heap:=h2,toks:=tk2}) gTO2 λh3 gTO3 s3=>?_)
  replace s3:il TO h2 h3:=s3
  refine ae (su (ak ?_));refine ae (ae (sx ?_));show wpAny _ _ (kn (.ref i2) >>= _) _ _ _;have g2':S2 i h3:=D2.frame _ _ _ g2 λc hc o q=>s3.extBut c o (λe=>ap.to2 (e▸hc)) (s2.extBut c o (λe=>ap.i12 (e▸hc)) (s1.extBut c o (λe=>ap.z2 (e▸hc)) q));refine ae (D2.done _ _ _ g2' λh4 e s4 he=>?_)
  replace s4:pw i2 h3 h4:=s4
  obtain⟨oe,hoe,hce⟩:=he;have gz4:gh h4 z TI TO .ellipsis:=s4 _ _ nz2.symm (s3.extBut _ _ ap.toz.symm (s2.extBut _ _ nz1.symm gz1));have hez:e≠z:=λq=>by
   subst q;rw[gz4]at hoe;cases hoe;simp at hce
  refine ny (s:={s with heap:=h4,toks:=tk2}) gz4 (by simp) λh5 _ s5=>?_;exact gE h5 _ e (λc o c1 c2 c3 c4 q=>s5.extBut _ _ c1 (s4 _ _ c4 (s3.extBut _ _ c2 (s2.extBut _ _ c3 (s1.extBut _ _ c1 q))))) ⟨oe,s5.extBut _ _ hez hoe,hce⟩
theorem Pu{Q:AE->aa->Prop}(D1:jq prog w A.in1 i1 fp1 n1 P1 S1)(D2:jq prog w A.in1 i2 fp2 n2 P2 S2)(ap:tQ z TI TO i1 i2 fp1 fp2)(gz:gh s.heap z TI TO .none)(gTI:dl s.heap TI (.ref i1) (.ref i2))(gTO:dl s.heap TO a b)
  (g1:S1 i s.heap)(g2:S2 i s.heap)(l1:i<n1)(l2:i<n2)
  (gQ:∀h' tk x y,P1 i x->P2 i y->gh h' z TI TO (rawInt s.heap.objs.size)->dl h' TO x y->S1 (i+1) h'->S2 (i+1) h'->dl h' s.heap.objs.size x y->
   (∀c o,c≠z->c≠TO->c≠i1->c≠i2->s.heap.get? c=some o->h'.get? c=some o)->Q (some (.ref s.heap.objs.size)) {s with heap:=h',toks:=tk}):
  wpAny (model prog w) A (pyNext (.ref z)) Q E s:=by
 have gT:s.TypeIs (.ref z) "zip":=⟨_,gz,rfl⟩;unfold pyNext;refine ae (sy (ld (name:=ib "__next__") gT td (jp td gT g8 ?_ (g9 _))));exact Sw D1 D2 ap gz gTI gTO g1 g2 l1 l2 λh' tk x y p1 p2 e1 e2 e3 e4 e5 e6=>ak (gQ h' tk x y p1 p2 e1 e2 e3 e4 e5 e6)
theorem Ts{Q:AE->aa->Prop}(D1:jq prog w A.in1 i1 fp1 n1 P1 S1)(D2:jq prog w A.in1 i2 fp2 n2 P2 S2)(ap:tQ z TI TO i1 i2 fp1 fp2)(gz:gh s.heap z TI TO .none)(gTI:dl s.heap TI (.ref i1) (.ref i2))(gTO:dl s.heap TO a b)
  (g1:S1 i s.heap)(g2:S2 i s.heap)(fin:i=n1\/(i<n1/\i=n2))
  (gQ:∀h' tk,(∀c o,c≠z->c≠TO->c≠i1->c≠i2->s.heap.get? c=some o->h'.get? c=some o)->Q none {s with heap:=h',toks:=tk}):wpAny (model prog w) A (pyNext (.ref z)) Q E s:=by
 have gT:s.TypeIs (.ref z) "zip":=⟨_,gz,rfl⟩;unfold pyNext;refine ae (sy (ld (name:=ib "__next__") gT td (jp td gT g8 ?_ (g9 _))));refine Ax D1 D2 ap gz gTI gTO g1 g2 fin λh' tk e hk he=>?_;obtain⟨o,ho,hc⟩:=he;refine ae (wz (T:="StopIteration") (b:=true) ⟨o,ho,hc⟩ isSubtype_stop ?_);exact ak (gQ _ _ hk)
end
abbrev xP(h:Heap)(o1:Obj):Heap:=h.push o1
abbrev xF(h:Heap)(o1 o2:Obj):Heap:=(xP h o1).push o2
abbrev xE(h:Heap)(o1 o2:Obj):Heap:=(xF h o1 o2).push {cls:=.type "tuple",data:=.seq #[.ref h.objs.size,.ref (xP h o1).objs.size]}
abbrev xD(h:Heap)(o1 o2:Obj):Heap:=(xE h o1 o2).push {cls:=.type "tuple",data:=.seq #[.none,.none]}
abbrev qO(h:Heap)(o1 o2:Obj):Heap:=(xD h o1 o2).push {cls:=.type "zip",data:=.fields #[.none,.bool false,.bool false,.ref (xF h o1 o2).objs.size,.ref (xE h o1 o2).objs.size]}
def tD(l:Addr)(o:Obj)(G:Heap->Prop):Prop:=
 ∀(prog:Program)(w:al)(A:aq)(E:Value->aa->Prop)(s:aa)(Q:Value->aa->Prop),G s.heap->Q (.ref s.heap.objs.size) {s with heap:=s.heap.push o}->wpAny (model prog w) A (pyIter (.ref l)) Q E s
theorem Rx(l1 l2:Addr)(o1 o2:Obj)(G1 G2:Heap->Prop)(p1:tD l1 o1 G1)(p2:tD l2 o2 G2)(k2:∀h,G2 h->G2 (h.push o1)):
  Meets (Builtin.«zip.__new__» ⟨[.type "zip",.ref l1,.ref l2],[]⟩) (λ_ R s=>G1 s.heap/\G2 s.heap/\R (.ok (.ret (.ref (xD s.heap o1 o2).objs.size))) {s with heap:=qO s.heap o1 o2}):=
 .of_wp λprog w A R s h=>by
  obtain⟨hp,g,d,tk,os⟩:=s;obtain⟨g1,g2,h⟩:=h;have hsub:=sub_zip;have q1:=λ(A':aq) (E':Value->aa->Prop) (Q':Value->aa->Prop)=>p1 prog w A' E' ⟨hp,g,d,tk,os⟩ Q' g1;have q2:=λ(A':aq) (E':Value->aa->Prop) (Q':Value->aa->Prop)=>p2 prog w A' E' ⟨hp.push o1,g,d,tk,os⟩ Q' (k2 _ g2)
  wp_walk using q1 _ _ _,q2 _ _ _
  exact⟨_,rfl,h⟩
theorem Wt{prog:Program}{w:al}{A:aq}{E:Value->aa->Prop}{s:aa}{l1 l2:Addr}{o1 o2:Obj}{G1 G2:Heap->Prop}{Q:Value->aa->Prop}(p1:tD l1 o1 G1)(p2:tD l2 o2 G2)(k2:∀h,G2 h->G2 (h.push o1))(g1:G1 s.heap)(g2:G2 s.heap)
  (f1:o1.isFreed=false)(f2:o2.isFreed=false)
  (h:∀h',gh h' (s.heap.objs.size+4) (s.heap.objs.size+2) (s.heap.objs.size+3) .none->dl h' (s.heap.objs.size+2) (.ref s.heap.objs.size) (.ref (s.heap.objs.size+1))->dl h' (s.heap.objs.size+3) .none .none->
   h'.get? s.heap.objs.size=some o1->h'.get? (s.heap.objs.size+1)=some o2->(∀c o,s.heap.get? c=some o->h'.get? c=some o)->Q (.ref (s.heap.objs.size+4)) {s with heap:=h'}):
  wpAny (model prog w) A (call (.type "zip") [.ref l1,.ref l2]) Q E s:=by
 refine callType_new F.called_zip (by decide) (F.typeCall_zip_2 _ _) (F.newCall_zip_2 _ _) (λobj=>F.args_object_init_3 obj _ _) F.entry_zip_new (Rx l1 l2 o1 o2 G1 G2 p1 p2 k2) ⟨g1,g2,?_⟩;have e1:(xP s.heap o1).objs.size=s.heap.objs.size+1:=jf ..;have e2:(xF s.heap o1 o2).objs.size=s.heap.objs.size+2:=by rw[jf,e1]
 have e3:(xE s.heap o1 o2).objs.size=s.heap.objs.size+3:=by rw[jf,e2]
 have e4:(xD s.heap o1 o2).objs.size=s.heap.objs.size+4:=by rw[jf,e3]
 have r5:(qO s.heap o1 o2).get? (xD s.heap o1 o2).objs.size=some _:=cx _ rfl;have r4:(qO s.heap o1 o2).get? (xE s.heap o1 o2).objs.size=some _:=ao _ (cx _ rfl);have r3:(qO s.heap o1 o2).get? (xF s.heap o1 o2).objs.size=some _:=ao _ (ao _ (cx _ rfl));have r2:(qO s.heap o1 o2).get? (xP s.heap o1).objs.size=some o2:=ao _ (ao _ (ao _ (cx _ f2)));have r1:(qO s.heap o1 o2).get? s.heap.objs.size=some o1:=ao _ (ao _ (ao _ (ao _ (cx _ f1))));show _/\_;rw[e2,e3,e4]at r5;rw[e1,e2]at r3;rw[e3]at r4;rw[e1]at r2;rw[e4];exact⟨⟨_,r5,rfl⟩,h _ r5 r3 r4 r1 r2 λc o q=>ao _ (ao _ (ao _ (ao _ (ao _ q))))⟩
def iS(f:Bool)(K:ag)(H:Hp)(a:Addr)(xs:List V):Prop:=match f with
 |true=>cP K H a xs
 |false=>bS K H a xs
def mJ(f:Bool)(it a:Addr)(i:Nat)(h:Heap):Prop:=match f with
 |true=>h.IsTupleIter it a i
 |false=>h.IsListIter it a i
def qM(f:Bool)(a:Addr)(items:Array Value)(h:Heap):Prop:=match f with
 |true=>h.IsTuple a items
 |false=>h.IsList a items
def Me(f:Bool)(a:Addr):Obj:=match f with
 |true=>{cls:=.type "tuple_iterator",data:=.fields #[.ref a,.int 0 0]}
 |false=>{cls:=.type "list_iterator",data:=.fields #[.ref a,.int 0 0]}
section
variable{X:Cx}{AL:List (Addr×Obj)}{σ:St}{H:Hp}{s:aa}{a:Addr}{xs ys:List V}{f:Bool}
theorem aF.seqF(I:aF X AL σ H s)(h:iS f X.K H a xs):∃its:AD,aX xs its/\qM f a its.toArray s.heap/\xs.length<=sizeLine:=by
 cases f with
 |true=>
  obtain⟨its,r,p,z⟩:=I.tuple h;exact⟨its,r,p,z⟩
 |false=>
  obtain⟨its,r,p,z⟩:=I.list h;exact⟨its,r,p.isList,z⟩
theorem aF.seqF_inj(I:aF X AL σ H s)(h:iS f X.K H a xs)(h':iS f X.K H a ys):xs=ys:=by
 cases f with
 |true=>exact I.tuple_inj h h'
 |false=>exact I.list_inj h h'
theorem aF.apart{b:Addr}(I:aF X AL σ H s)(fb:fF X AL H b)(h:iS f X.K H a xs):a≠b:=by
 have viaK:∀{o:Obj},X.K.lookup a=some o->a≠b:=λ{o} q e=>by
  have hb:X.base.get? b=some o:=e▸I.ok.mod.kin a o q;rcases fb.2.2.2.1 with z |z
  .exact I.ok.noex b o hb z
  .exact absurd (de (ax (I.ok.bs b o hb).1) z) (ig _)
 cases f with
 |true=>
  rcases h with(h |⟨o,h⟩) |⟨o,_,_,q,_⟩
  .exact fW h fb.1
  .exact fW h fb.1
  .exact viaK q
 |false=>
  rcases h with(h |⟨o,h⟩) |⟨o,_,_,q,_⟩
  .exact fW h fb.1
  .exact fW h fb.1
  .exact viaK q
end
theorem wA{prog:Program}{w:al}{A:aq}(f:Bool)(hh:A.handled=none)(it a:Addr)(hne:a≠it)(items:Array Value):
  jq prog w A it [it,a] items.size (λi v=>items[i]?=some v) (λi h=>mJ f it a i h/\qM f a items h):=by
 cases f with
 |true=>exact Ry hh it a hne items
 |false=>exact Draws.list hh it a hne items
theorem Kq(f:Bool)(a:Addr)(items:Array Value):tD a (Me f a) (qM f a items):=by
 cases f with
 |true=>exact λprog w A E s Q g q=>i6 g q
 |false=>exact λprog w A E s Q g q=>sj g q
theorem mJ.keep{f:Bool}{it a:Addr}{i:Nat}{h h':Heap}(x:mJ f it a i h)(k:∀o,h.get? it=some o->h'.get? it=some o):mJ f it a i h':=by
 cases f with
 |true=>obtain⟨o,e,r⟩:=x;exact⟨o,k o e,r⟩
 |false=>obtain⟨o,e,r⟩:=x;exact⟨o,k o e,r⟩
theorem qM.keep{f:Bool}{a:Addr}{items:Array Value}{h h':Heap}(x:qM f a items h)(k:∀o,h.get? a=some o->h'.get? a=some o):qM f a items h':=by
 cases f with
 |true=>obtain⟨o,e,r⟩:=x;exact⟨o,k o e,r⟩
 |false=>obtain⟨o,e,r⟩:=x;exact⟨o,k o e,r⟩
theorem mJ.obj{f:Bool}{it a:Addr}{i:Nat}{h:Heap}(x:mJ f it a i h):∃o,h.get? it=some o/\∀v,o.data≠.cell v:=by
 cases f with
 |true=>obtain⟨o,e,_,d⟩:=x;exact⟨o,e,λv z=>by rw[d]at z;cases z⟩
 |false=>obtain⟨o,e,_,d⟩:=x;exact⟨o,e,λv z=>by rw[d]at z;cases z⟩
theorem Mi(f:Bool)(a it:Addr){h:Heap}(e:h.get? it=some (Me f a)):mJ f it a 0 h:=by
 cases f with
 |true=>exact⟨_,e,rfl,rfl⟩
 |false=>exact⟨_,e,rfl,rfl⟩
theorem Ik(f:Bool)(a:Addr):(Me f a).isFreed=false:=by cases f<;>rfl
def Gs (K : ag) (f1 : Bool) (a : Addr) (f2 : Bool) (b : Addr) : It :=
  ⟨λi H => ∃ xs ys x y, iS f1 K H a xs ∧ iS f2 K H b ys ∧ xs[i]? = some x ∧ ys[i]? = some y,
   λi H v H' => ∃ p x y, H p = none ∧ v = .ref p ∧ H' = aK H p (.tup [x, y]) ∧ (∀ xs, iS f1 K H a xs → xs[i]? = some x) ∧ ∀ ys, iS f2 K H b ys → ys[i]? = some y,
   λi H => ∃ xs ys, iS f1 K H a xs ∧ iS f2 K H b ys ∧ (i = xs.length ∨ (i < xs.length ∧ i = ys.length))⟩
structure xH(z TI TO i1 i2:Addr):Prop where
 tiz:TI≠z
 toz:TO≠z
 i1z:i1≠z
 i2z:i2≠z
 tito:TI≠TO
 ti1:TI≠i1
 ti2:TI≠i2
 to1:TO≠i1
 to2:TO≠i2
 i12:i1≠i2
theorem xH.ap{z TI TO i1 i2 a b:Addr}(r:xH z TI TO i1 i2)(h:∀c∈[z,TI,TO,i1,i2],a≠c)(g:∀c∈[z,TI,TO,i1,i2],b≠c):tQ z TI TO i1 i2 [i1,a] [i2,b] where
 tiz:=r.tiz
 toz:=r.toz
 tito:=r.tito
 ti1:=r.ti1
 ti2:=r.ti2
 z1:=λq=>by simp at q;rcases q with q |q;exact r.i1z q.symm;exact h z (by simp) q.symm
 z2:=λq=>by simp at q;rcases q with q |q;exact r.i2z q.symm;exact g z (by simp) q.symm
 to1:=λq=>by simp at q;rcases q with q |q;exact r.to1 q;exact h TO (by simp) q.symm
 to2:=λq=>by simp at q;rcases q with q |q;exact r.to2 q;exact g TO (by simp) q.symm
 i12:=λq=>by simp at q;rcases q with q |q;exact r.i12 q;exact g i1 (by simp) q.symm
 i21:=λq=>by simp at q;rcases q with q |q;exact r.i12 q.symm;exact h i2 (by simp) q.symm
 m1:=by simp
 m2:=by simp
theorem Tz{P:Program}{w:al}{K:ag}{elts:List ah}{x1:Nat}{tp:ai}(f1 f2:Bool)(a b z TI TO i1 i2:Addr)(zr:xH z TI TO i1 i2):
  qJ P w K (.Tuple elts x1 tp) (Gs K f1 a f2 b) [z,TI,TO,i1,i2] z (λi h=>gh h z TI TO .none/\dl h TI (.ref i1) (.ref i2)/\(∃u v,dl h TO u v)/\mJ f1 i1 a i h/\mJ f2 i2 b i h) where
 mem:=by simp
 obj:=λi h st c hc=>by
  obtain⟨e1,e2,⟨u,v,e3⟩,e4,e5⟩:=st;simp at hc;rcases hc with q |q |q |q |q
  .subst q
   exact⟨_,e1,λv z=>nomatch z⟩
  .subst q
   exact⟨_,e2,λv z=>nomatch z⟩
  .subst q
   exact⟨_,e3,λv z=>nomatch z⟩
  .subst q
   exact e4.obj
  .subst q
   exact e5.obj
 keep:=λi h h' st k=>by
  obtain⟨e1,e2,⟨u,v,e3⟩,e4,e5⟩:=st;exact⟨k z (by simp) _ e1,k TI (by simp) _ e2,⟨u,v,k TO (by simp) _ e3⟩,e4.keep λo q=>k i1 (by simp) o q,e5.keep λo q=>k i2 (by simp) o q⟩
 item:=by
  intro X hP hw hK hc i AL s σ H E I hf st hg;subst hP hw hK;obtain⟨xs,ys,x,y,hx,hy,ex,ey⟩:=hg;obtain⟨its,r1,p1,_⟩:=I.seqF hx;obtain⟨jts,r2,p2,_⟩:=I.seqF hy;obtain⟨ux,gx,rx⟩:=r1.get ex;obtain⟨uy,gy,ry⟩:=r2.get ey;obtain⟨e1,e2,⟨u,v,e3⟩,e4,e5⟩:=st;have na:∀c∈[z,TI,TO,i1,i2],a≠c:=λc hc=>I.apart (hf c hc) hx;have nb:∀c∈[z,TI,TO,i1,i2],b≠c:=λc hc=>I.apart (hf c hc) hy;have hd:X.A.in1.handled=none:=I.ok.hd hc;have D1:=wA (prog:=X.prog) (w:=X.w) f1 hd i1 a (na i1 (by simp)) its.toArray;have D2:=wA (prog:=X.prog) (w:=X.w) f2 hd i2 b (nb i2 (by simp)) jts.toArray;refine Pu D1 D2 (zr.ap na nb) e1 e2 e3 ⟨e4,p1⟩ ⟨e5,p2⟩ (bo.mp gx).1 (bo.mp gy).1 λh1 tk vx vy px py q1 q2 q3 q4 q5 k1=>⟨_,rfl,?_⟩;have ex':vx=ux:=by
   have:its[i]?=some vx:=by simpa using px
   rw[gx]at this;exact(ce this).symm
  have ey':vy=uy:=by
   have:jts[i]?=some vy:=by simpa using py
   rw[gy]at this;exact(ce this).symm
  subst ex' ey';have lt:∀c∈[z,TI,TO,i1,i2],c≠s.heap.objs.size:=λc hc=>by
   have:∃o,s.heap.get? c=some o:=by
    simp at hc;rcases hc with q |q |q |q |q
    .exact⟨_,q▸e1⟩
    .exact⟨_,q▸e2⟩
    .exact⟨_,q▸e3⟩
    .obtain⟨o,ho,_⟩:=e4.obj
     exact⟨o,q▸ho⟩
    .obtain⟨o,ho,_⟩:=e5.obj
     exact⟨o,q▸ho⟩
   obtain⟨o,ho⟩:=this;exact cr (ax ho)
  refine wpAny_letOwnedTupleGo_zip (s:={s with heap:=h1,toks:=tk}) q1 λh2 z2 sb2=>?_;have t2:h2.get? s.heap.objs.size=some {cls:=.type "tuple",data:=.seq #[vx,vy]}:=(sb2.2 _ (lt z (by simp)).symm).trans q5;have I2:aF X AL σ (aK H s.heap.objs.size (.tup [x,y])) {s with heap:=h2,toks:=tk}:=
   I.turnedNew hf (λc o hc q=>(sb2.2 c (λe=>hc (by simp[e]))).trans (k1 c o (λe=>hc (by simp[e])) (λe=>hc (by simp[e])) (λe=>hc (by simp[e])) (λe=>hc (by simp[e])) q)) (aj _)
    ⟨by show 2<=sizeLine;decide,[vx,vy],.cons rx (.cons ry .nil),⟨_,t2,rfl,_,rfl⟩⟩
  refine⟨.ref s.heap.objs.size,_,I2,rfl,⟨_,x,y,I.hok.fresh (aj _),rfl,rfl,λzs hz=>by rw[I.seqF_inj hz hx];exact ex,λzs hz=>by rw[I.seqF_inj hz hy];exact ey⟩,
   ⟨z2,(sb2.2 _ zr.tiz).trans (k1 _ _ zr.tiz zr.tito zr.ti1 zr.ti2 e2),⟨_,_,(sb2.2 _ zr.toz).trans q2⟩,q3.1.keep λo q=>(sb2.2 _ zr.i1z).trans q,q4.1.keep λo q=>(sb2.2 _ zr.i2z).trans q⟩,λc hc=>?_⟩
  rw[bH (lt c hc)];exact(hf c hc).1
 done:=by
  intro X hP hw hK hc i AL s σ H E I hf st hg;subst hP hw hK;obtain⟨xs,ys,hx,hy,fin⟩:=hg;obtain⟨its,r1,p1,_⟩:=I.seqF hx;obtain⟨jts,r2,p2,_⟩:=I.seqF hy;have l1:=r1.length;have l2:=r2.length;obtain⟨e1,e2,⟨u,v,e3⟩,e4,e5⟩:=st;have na:∀c∈[z,TI,TO,i1,i2],a≠c:=λc hc=>I.apart (hf c hc) hx;have nb:∀c∈[z,TI,TO,i1,i2],b≠c:=λc hc=>I.apart (hf c hc) hy;have hd:X.A.in1.handled=none:=I.ok.hd hc;have D1:=wA (prog:=X.prog) (w:=X.w) f1 hd i1 a (na i1 (by simp)) its.toArray;have D2:=wA (prog:=X.prog) (w:=X.w) f2 hd i2 b (nb i2 (by simp)) jts.toArray;refine Ts D1 D2 (zr.ap na nb) e1 e2 e3 ⟨e4,p1⟩ ⟨e5,p2⟩ (by rw[ar,ar,<-l1,<-l2];exact fin) λh' tk k=>⟨rfl,?_⟩;exact I.turnedL hf λc o hc q=>k c o (λe=>hc (by simp[e])) (λe=>hc (by simp[e])) (λe=>hc (by simp[e])) (λe=>hc (by simp[e])) q
 self:=λ_ _ _ _ _ st h=>wpAny_pyIter_zip st.1 h
section
variable{X:Cx}{elts:List ah}{x1:Nat}{tp:ai}
def acS(K:ag)(tl:TA):TI:=λσ H R=>tl σ H λvs H1=>∃f1 a f2 b xs ys,vs=[.ref a,.ref b]/\iS f1 K H1 a xs/\iS f2 K H1 b ys/\R (Gs K f1 a f2 b) H1
theorem aa9{l r:ah}{tl:TA}{p pos:ai}(hg:Gl X "zip")(hm:X.mg "zip"=none)(hl:PA X [l,r] tl)(hs:starEach [l,r] X.env=[(false,eval l X.env),(false,eval r X.env)]:=by rfl)(hs2:starEach [r] X.env=[(false,eval r X.env)]:=by rfl):
  PI X (.Tuple elts x1 tp) (.Call (.Name "zip" p) [l,r] [] pos) (acS X.K tl):=by
 intro AL s σ H R I h;refine Call_ (oH I hg hm boot_zip (ot (bC (hl pos AL s σ H _ I h) λus s1 hq=>?_) (by rw[hs,hs2]) (by rw[hs2];rfl)));rcases hq with⟨vs,H1,I1,r1,q1⟩;obtain⟨f1,a,f2,b,xs,ys,rfl,hx,hy,q⟩:=q1;obtain⟨u,v,rfl,ru,rv⟩:=Jq r1;cases ru;cases rv;obtain⟨its,_,p1,_⟩:=I1.seqF hx;obtain⟨jts,_,p2,_⟩:=I1.seqF hy;refine Wt (Kq f1 a its.toArray) (Kq f2 b jts.toArray) (λh g=>g.keep λo z=>ao _ z) p1 p2 (Ik _ _) (Ik _ _) λh' e1 e2 e3 e4 e5 k=>?_;refine wpAny_pyIter_zip (s:={s1 with heap:=h'}) e1 ?_;have zr:xH (s1.heap.objs.size+4) (s1.heap.objs.size+2) (s1.heap.objs.size+3) s1.heap.objs.size (s1.heap.objs.size+1):=by
  generalize s1.heap.objs.size=n;have g:∀i j:Nat,i≠j->((n:Nat)+i:Nat)≠n+j:=λi j h=>by omega
  exact⟨g 2 4 (by decide),g 3 4 (by decide),g 0 4 (by decide),g 1 4 (by decide),g 2 3 (by decide),g 2 0 (by decide),g 2 1 (by decide),g 3 0 (by decide),g 3 1 (by decide),g 0 1 (by decide)⟩
 refine⟨_,[s1.heap.objs.size+4,s1.heap.objs.size+2,s1.heap.objs.size+3,s1.heap.objs.size,s1.heap.objs.size+1],_,_,H1,rfl,I1.kept (t':=s1.toks) k,Tz f1 f2 a b _ _ _ _ _ zr,⟨e1,e2,⟨_,_,e3⟩,Mi f1 a _ e4,Mi f2 b _ e5⟩,λc hc=>?_,q⟩;have hb:s1.heap.objs.size<=c:=by
  simp only[ci,iw,or_false]at hc;rcases hc with q |q |q |q |q
  all_goals rw[q]
  all_goals first |exact aj _ |exact Nat.le_add_right _ _
 exact I1.fpOk hb (I1.hok.fresh hb)
end
theorem aaO(K:ag):kl K (.type "int") (.type "bool")=some false:=by
 unfold kl i7;rw[if_neg (by decide)];show(if i8 "bool"=true then i9 K (.type "int") (.type "bool")else none)=some false;rw[if_pos (by decide+kernel)];show(fastBuiltinMro "int").map (·.contains (.type "bool"))=some false;decide+kernel
structure nK(K:ag)(x qual:Str)(st:Stmt)(f:Addr)(fd:cf)(ds:Array Value):Prop where
 ex:∃(oc:Value)(od:AF)(T:Addr)(oT:Obj)(n:Nat)(kV doc pm:Value)(an:AF)(cdv ct:Value)(osl:Array AE),
  fd=eh x qual (gR st) (eP st) (cR st) (.ref T) kV doc pm an cdv ct/\K.lookup f=some ⟨oc,od,.func fd,osl⟩/\ju K cdv qual=true/\K.lookup T=some oT/\oT.data=.seq ds n
 kp:fz K (.ref f)=true
section
variable{P:Program}{w:al}{K:ag}{mg:Str->AE}{base:Heap}
theorem nK.binds{x qual:Str}{st:Stmt}{f:Addr}{fd:cf}{ds:Array Value}{ps:List Str}{dd:AD}(F:nK K x qual st f fd ds)
  (h:∀(T:Addr)(kV doc pm:Value)(an:AF)(cdv ct:Value)(us:AD),(us++dd).length=ps.length->
   ∃k,bindArgs (eh x qual (gR st) (eP st) (cR st) (.ref T) kV doc pm an cdv ct) ⟨us,[]⟩=seqItems? (.ref T) >>= k/\k (some ds)=pure (ps.zip (us++dd))):iX K fd ps dd:=by
 obtain⟨oc,od,T,oT,n,kV,doc,pm,an,cdv,ct,osl,rfl,lk,hcd,lT,hT⟩:=F.ex;intro s us hK hl;obtain⟨k,h1,h2⟩:=h T kV doc pm an cdv ct us hl;exact PySem.W.binds_K hK rfl lT hT h1 h2
theorem O0{x qual:Str}{st:Stmt}{f T:Addr}{oT:Obj}{n:Nat}{ds:Array Value}{oc:Value}{od an:AF}{osl:Array AE}{kV doc pm cdv ct:Value}(l:K.lookup f=some ⟨oc,od,.func (eh x qual (gR st) (eP st) (cR st) (.ref T) kV doc pm an cdv ct),osl⟩)
  (c:ju K cdv qual=true)(k:fz K (.ref f)=true)(lT:K.lookup T=some oT)(hT:oT.data=.seq ds n):nK K x qual st f (eh x qual (gR st) (eP st) (cR st) (.ref T) kV doc pm an cdv ct) ds:=
 ⟨⟨oc,od,T,oT,n,kV,doc,pm,an,cdv,ct,osl,rfl,l,c,lT,hT⟩,k⟩
end
theorem X9{X:Cx}{sc:Scope}{own:List Str}{cap:List (Nat×Str)}(so:Scope)(N:List Str)(hso:X.env.scope=so)(hN:X.N=N)(kind:sc.kind=.function)(names:∀y∈sc.names,y.2=.local->sc.names.lookup y.1=some .local)
  (nocell:∀y∈sc.names,y.2≠.cell)(free:∀y∈sc.names,y.2=.free->so.names.lookup y.1=some .cell)(at':∀p∈cap,N[p.1]?=some p.2)(hcap:∀p∈cap,sc.names.lookup p.2=some .free):gU X sc own cap:=
 ⟨kind,names,nocell,λy hy e=>by show X.env.scope.names.lookup y.1=_;rw[hso];exact free y hy e,λp hp=>by rw[hN];exact at' p hp,hcap⟩
theorem Pj(n d:Nat):HT.sIx (n+1) d (some (-1))=n:=by
 unfold HT.sIx;simp;omega
section
variable{X:Cx}
end
theorem fJ.has{P:Program}{w:al}{H:Hp}{h:Heap}{a:Addr}{o:HO}(x:fJ P w H h a o):∃u,h.get? a=some u:=by
 cases o with
 |lst xs=>obtain⟨_,_,_,_,e⟩:=x;exact⟨_,e⟩
 |tup xs=>obtain⟨_,_,_,u,e,_⟩:=x;exact⟨u,e⟩
 |dK kvs=>obtain⟨_,_,_,_,o,_,_,e,_⟩:=x;exact⟨_,e⟩
 |dT kvs=>obtain⟨_,_,_,_,o,_,_,e,_⟩:=x;exact⟨_,e⟩
 |set S n=>obtain⟨o,_,_,_,e,_⟩:=x;exact⟨_,e⟩
 |ins C dx fs=>obtain⟨_,_,_,e,_⟩:=x;exact⟨_,e⟩
 |own y=>exact x
 |xd fs=>obtain⟨_,⟨_,_,_,e,_⟩,_⟩:=x;exact⟨_,e⟩
 |rng lo hi=>obtain⟨_,_,_,e⟩:=x;exact⟨_,e⟩
 |frz ob u=>obtain⟨e,_⟩:=x;exact⟨_,e⟩
 |tbl ps=>exact⟨_,show h.get? a=some _ from x⟩
 |met f y=>exact⟨_,show h.get? a=some _ from x⟩
 |ext φ=>exact x.2.1
abbrev rW:AD:=[.type "ValueError",.type "Exception",.type "BaseException",.type "object"]
theorem L6{K:ag}{h:Heap}{C:Addr}{bmB:AD}{newId:String}(X:K.In h)(q:lm K C bmB newId=true):
  ∃bm N nm qn bs hdct sn sub ab col dd k0 k1 k2 k3 k5 mN,h.get? C=some (excClassObj nm qn C N bs bm hdct sn sub ab col dd k0 k1 k2 k3 k5 newId)/\h.Ns N mN/\mN "__init__"=none/\OwnTail h bmB bm:=by
 unfold lm at q;split at q
 .rename_i dd cd sl ho
  split at q
  .rename_i C' bm k0 k1 k2 k3 n k5 hm hs
   simp only[iy,beq_iff_eq,j4]at q;obtain⟨⟨⟨⟨⟨z1,z2⟩,hdel⟩,ht⟩,hok⟩,hni⟩:=q;subst z1 z2;obtain⟨nm,bs,mro,ns,qn,hd,sn,sub,ab,col,del⟩:=cd;dsimp only at hm hdel hok hni;subst hm hdel;have hsl:sl=#[k0,k1,k2,k3,some (.builtin n),k5]:=by
    obtain⟨l⟩:=sl;simp only at hs;rw[hs]
   subst hsl;refine⟨bm,ns,nm,qn,bs,hd,sn,sub,ab,col,dd,k0,k1,k2,k3,k5,_,X _ _ ho,.of_isNs (PySem.W.isNs_of_in X hok),PySem.W.nsMap_none_of_in X hok hni,PySem.W.tail_of_in X ht⟩
  .cases q
 .cases q
def jH(P:Program)(w:al):iT:=λouter H s E e s'=>∃(x C t:Addr)(B:Heap)(H':Hp),e=.ref x/\s'.os=s.os/\jl s'.gens/\Un (eJ outer) [] H H' s.heap s'.heap/\eX P w H' s'.heap/\
 Heap.FlyingW B outer x (.ref C) (.ref t) s'.heap/\(∀b o,s'.heap.get? b=some o->(∃u,H' b=some u)\/(∃o',s.heap.get? b=some o'/\b∉eJ outer)->B.get? b=some o)/\E (.ref C) none H'
theorem Lz{P:Program}{w:al}{K:ag}{mg:Str->AE}{base:Heap}{N:List Str}{qual:Str}{scope:Scope}{f:Addr}{cd:Value}{A:aq}{outer:List bh}{AM:aa}{AN:Hp}{E:XK}
  {x:Str}{C:Addr}{txt:Str}{j:Nat}{np p1 cpos pos:ai}(hg:Gl (fK (jH P w) P w K mg base N qual scope f cd A outer AM AN E) x)(hm:mg x=some (.ref C))(hx:lm K C rW "ValueError.__new__"=true)
  (hd:(x==("__debug__":Str))=false:=by decide):
  PS (fK (jH P w) P w K mg base N qual scope f cd A outer AM AN E) (.Raise (some (.Call (.Name x np) [.Constant (.str txt) j p1] [] cpos)) none pos) (λ_ _ H=>E (.ref C) none H):=by
 intro AL s σ H D I h;obtain⟨bm,Nn,nm,qn,bs,hdct,sn,sub,ab,col,dd,k0,k1,k2,k3,k5,mN,hC,hN,hni,T⟩:=L6 I.ok.mod.kin hx;refine wpAny_Raise_call_subT (C:=C) (nm:=nm) (q:=qn) (N:=Nn) (bs:=bs) (bm:=bm) (hdct:=hdct) (sn:=sn) (sub:=sub) (ab:=ab) (col:=col) (dd:=dd) (k0:=k0) (k1:=k1) (k2:=k2) (k3:=k3) (k5:=k5)
  PySem.F.excBase_ValueError (mN:=mN) (T.hasType (by decide)) (I.ok.hd rfl) rfl hni (Ab I hg hm ⟨rfl,?_⟩ hd)
 refine vp (bC ((jL X4 kW) cpos AL s σ H (λvs H1=>vs=[.str txt]/\H1=H) I ⟨rfl,rfl⟩) λus s2 q2=>?_);obtain⟨vs,H2,I2,r2,rfl,rfl⟩:=q2;have l2:=r2.length;refine⟨rfl,by rw[<-l2];show 1<=sizeLine;decide,I2.bk _ _ hC,hN.keeps I2.bk,T.keeps I2.bk,λh' e made=>?_⟩
 --the frame is left
 have stk:(fK (jH P w) P w K mg base N qual scope f cd A outer AM AN E).stack=envOfC qual scope AM.heap.objs.size f cd::outer:=rfl;have nfr:∀{b u},H2 b=some u->b∉eJ (envOfC qual scope AM.heap.objs.size f cd::outer):=λ{b u} q z=>by
  rw[I2.stkFree b z]at q;cases q
 have nL:∀{b o},AM.heap.get? b=some o->b∉eJ outer->b∉eJ (envOfC qual scope AM.heap.objs.size f cd::outer):=λ{b o} q z y=>by
  rcases ci.mp (I2.stkSub b y)with g |g
  .exact absurd (de (ax q) I2.ok.above) (by rw[g];exact ig _)
  .exact z g
 refine wpAny_leaves_madeW (base:=uq s2.heap (eJ (envOfC qual scope AM.heap.objs.size f cd::outer))) (h:=s2.heap) (s:={s2 with heap:=h'}) I2.ok.frames rfl (λb o q=>yz _ q)
  (PySem.W.funFrames_hide I2.stack λenv he b hb=>va.mpr ⟨env,he,hb⟩) made λh'' t fl tup nb ups=>?_
 have keepB:∀b o,s2.heap.get? b=some o->b∉eJ (envOfC qual scope AM.heap.objs.size f cd::outer)->h''.get? b=some o:=λb o q z=>fl.1 b o (ur _ q z);have upS:∀b o,s2.heap.get? b=some o->(∀vs,o.data≠.fields vs)->∃sl,h''.get? b=some {o with slots:=sl}:=λb o q z=>ups b o (made.keeps b o q) z;refine⟨e,C,t,_,H2,rfl,I2.os,I2.bare,⟨λb o q n hb _=>?_,λb o q n hb _=>?_,λb o q n _=>I2.base.free b o q n (by intro z;cases z),λb o q _=>?_,I2.base.tups,I2.base.frzs,I2.base.tbls⟩,λb u q=>?_,fl,λb o q z=>?_,h⟩
 .exact keepB b o (I2.base.keep b o q n hb (by intro z;cases z)) (nL q hb)
 .obtain⟨sl,g⟩:=I2.base.slot b o q n hb (by intro z;cases z)
  obtain⟨_,o',ho',hd'⟩:=I2.ok.funs.mem hb;have eo:o'=o:=by
   have ho2:AM.heap.get? b=some o':=ho';rw[q]at ho2;exact(ce ho2).symm
  subst eo;obtain⟨sl',g'⟩:=upS b _ g hd';exact⟨sl',g'⟩
 .obtain⟨o',g⟩:=I2.base.there b o q (by intro z;cases z)
  by_cases c:b∈eJ (envOfC qual scope AM.heap.objs.size f cd::outer)
  .obtain⟨_,o2,ho2,hd2⟩:=I2.stack.mem c
   obtain⟨sl,g'⟩:=upS b o2 ho2 hd2;exact⟨_,g'⟩
  .exact⟨o',keepB b o' g c⟩
 .refine(I2.hok b u q).stay (λc v hc g=>keepB c v g ?_) (λ_ g=>g) λ_ _ g=>g
  rcases hc with z |z
  .rw[z]
   exact nfr q
  .exact nfr z
 .have go:∀{o2},s2.heap.get? b=some o2->b∉eJ (envOfC qual scope AM.heap.objs.size f cd::outer)->(uq s2.heap (eJ (envOfC qual scope AM.heap.objs.size f cd::outer))).get? b=some o:=λ{o2} g n=>by
   have:=keepB b o2 g n;have q':h''.get? b=some o:=q;rw[q']at this;cases this;exact ur _ g n
  rcases z with⟨u,z⟩|⟨o',z,nz⟩
  .obtain⟨o2,g⟩:=(I2.hok b u z).has
   exact go g (nfr z)
  .obtain⟨o2,g⟩:=I2.base.there b o' z (by intro z;cases z)
   exact go g (nL z nz)
section
variable{X:Cx}{AL:List (Addr×Obj)}{σ:St}{H H':Hp}{s s':aa}
end
section
variable{X:Cx}{k:Nat}{f:Addr}{fd:cf}{ps:List Str}{sp:Sp}{dvs:List V}{ds:AD}{E:XK}{x:Str}{p pos:ai}{e:ah}{es:List ah}{t:TA}
end
section
variable{P:Program}{w:al}{K:ag}{mg:Str->AE}{base:Heap}{CX:iT}
theorem nK.okX{x qual:Str}{st:Stmt}{f:Addr}{fd:cf}{ds:Array Value}{N ps:List Str}{k:Nat}{sp:Sp}(F:nK K x qual st f fd ds)(S:jM N ps (cR st))(len:∀vs H Q E,sp vs H Q E->vs.length=ps.length)
  (hbody:∀(cdv:Value)(A:aq)(outer:List bh)(s:aa)(H:Hp)(vs:List V)(Q:VK)(E:XK),dP k (A.deeper (envOfC qual (cR st) s.heap.objs.size f cdv))->sp vs H Q E->
   ∃t,gB (fK CX P w K mg base N qual (cR st) f cdv A outer s H E) (eP st) t/\t {nx:=λ_ H'=>Q .non H',rt:=Q} (start N vs) H):eG P w K mg base CX (k+1) f fd ps sp:=by
 obtain⟨oc,od,T,oT,n,kV,doc,pm,an,cdv,ct,osl,rfl,lk,hcd,_,_⟩:=F.ex;exact Rq lk hcd S len λA outer s H vs Q E hr hsp=>hbody cdv A outer s H vs Q E hr hsp
end
section
variable{X:Cx}{AL:List (Addr×Obj)}{σ:St}{H:Hp}{s:aa}
end
section
variable{X:Cx}{AL:List (Addr×Obj)}{σ:St}{H:Hp}{s:aa}
end
section
variable{X:Cx}{k:Nat}{f:Addr}{fd:cf}{ps:List Str}{sp:Sp}{dvs:List V}{ds:AD}{x:Str}{p pos pos1 pos2 pos3 pc:ai}{e:ah}{es:List ah}{t:TA}{c n:Str}{C:Addr}{i:Nat}{AR:Stmt}{body:List Stmt}{newId:String}
end
open PySem.W PySem.Calls PySem.Builtin PySem.Builtin.Getset_descriptor
section
variable{prog:Program}{w:al}{A:aq}{E:Value->aa->Prop}{s:aa}{K:ag}{x D:Addr}{B:String}{R:ow->aa->Prop}
end
section
variable{X:Cx}{y D:Addr}{oe:Obj}
end
def gH(h:Heap)(l:AA)(a:Addr):Prop:=∃o its n,h.get? a=some o/\o.cls=.type "tuple"/\o.data=.seq its n/\aX (l.map V.int) its.toList
def iU(h:Heap)(ks:AB)(a:Addr):Prop:=∃o its n,h.get? a=some o/\o.cls=.type "tuple"/\o.data=.seq its n/\ie (λk v=>∃b,v=cq b/\gH h k b) ks its.toList
def hF(l:AA):Int:=reduceHash (xa (l.map hashInt))
def hN(l:AB):Int:=reduceHash (xa (l.map hF))
abbrev iK(prog:Program)(w:al):KeyKind prog w Int:=intKind prog w
theorem Yk:∀{l m:AA}{us:AD},aX (l.map V.int) us->aX (m.map V.int) us->l=m
 |[],[],_,_,_=>rfl
 |[],_::_,_,.nil,h=>nomatch h
 |_::_,[],_,.cons _ _,h=>nomatch h
 |i::l,j::m,_,.cons r t,.cons r' t'=>by
  obtain⟨x,e⟩:=r;obtain⟨y,e'⟩:=r';rw[e]at e';injection e' with e1;rw[e1,Yk t t']
section
variable{prog:Program}{w:al}{A:aq}{E:Value->aa->Prop}{s:aa}{h h':Heap}{a b d:Addr}
theorem gH.inj{x y:AA}(hx:gH h x a)(hy:gH h y a):x=y:=by
 obtain⟨o,its,n,e,_,f,r⟩:=hx;obtain⟨o',its',n',e',_,f',r'⟩:=hy;cases ce (e.symm.trans e');cases f.symm.trans f';exact Yk r r'
theorem iU.inj{x y:AB}(hx:iU h x a)(hy:iU h y a):x=y:=by
 obtain⟨o,its,n,e,_,f,r⟩:=hx;obtain⟨o',its',n',e',_,f',r'⟩:=hy;cases ce (e.symm.trans e');cases f.symm.trans f'
 revert r r'
 generalize its.toList=us;intro r
 induction r generalizing y with
 |nil=>intro r';cases r';rfl
 |cons p _ ih=>
  intro r';cases r' with
  |cons p' t'=>
   obtain⟨b,rfl,g⟩:=p;obtain⟨b',eb,g'⟩:=p';cases eb;rw[g.inj g',ih t']
theorem Fp{o o':Obj}{its:Array Value}{n:Nat}{es ep}(e:h.get? a=some o)(f:o.data=.seq its n)(e':h.get? d=some o')(f':o'.data=.dict es ep):a≠d:=λz=>by
 rw[z,e']at e;cases e;rw[f]at f';cases f'
theorem gH.keep{l:AA}{o':Obj}{es ep}(x:gH h l a)(e':h.get? d=some o')(f':o'.data=.dict es ep)(sb:il d h h'):gH h' l a:=by
 obtain⟨o,its,n,e,c,f,r⟩:=x;exact⟨o,its,n,(sb.2 a (Fp e f e' f')).trans e,c,f,r⟩
theorem iU.keep{l:AB}{o':Obj}{es ep}(x:iU h l a)(e':h.get? d=some o')(f':o'.data=.dict es ep)(sb:il d h h'):iU h' l a:=by
 obtain⟨o,its,n,e,c,f,r⟩:=x;exact⟨o,its,n,(sb.2 a (Fp e f e' f')).trans e,c,f,Paired.mapP r λ_ _ ⟨b,eb,g⟩=>⟨b,eb,g.keep e' f' sb⟩⟩
theorem yT:∀{l:AA}{us:AD},aX (l.map V.int) us->ItemsAre (iK prog w) l us
 |[],_,.nil=>.nil
 |i::l,_,.cons r t=>by
  obtain⟨t',rfl⟩:=r;exact .cons (by simp[iK,intKind,Value.isInt]) (yT t)
theorem gH.key{l:AA}(x:gH h l a):IsTupleKey (iK prog w) h l a:=by
 obtain⟨o,its,n,e,c,f,r⟩:=x;exact⟨o,its,n,e,c,f,yT r⟩
theorem Jz{α:Type}[DecidableEq α](z:α)(l m:List α):((az (min l.length m.length)).all (λj=>decide (l.getD j z=m.getD j z))&&l.length==m.length)=decide (l=m):=by
 rw[wr,iy,jx,decide_eq_true_iff];constructor
 .rintro⟨h1,h2⟩
  have hl:l.length=m.length:=by simpa using h2
  refine tf hl λi g1 g2=>?_;have:=h1 i (by simp;omega);simpa[br,g1,g2]using this
 .rintro rfl
  exact⟨λi _=>by simp,by simp⟩
theorem uZ{α β:Type}{R:α->β->Prop}:∀{l:List α}{m:List β},ie R l m->l.length=m.length/\∀(j:Nat)(x:α)(y:β),l[j]?=some x->m[j]?=some y->R x y
 |_,_,.nil=>⟨rfl,λj x y h=>by simp at h⟩
 |_,_,.cons r t=>by
  obtain⟨e,g⟩:=uZ t;refine⟨by rw[cg,cg,e],λj x y h1 h2=>?_⟩;cases j with
  |zero=>
   simp at h1 h2;rw[<-h1,<-h2];exact r
  |succ j=>exact g j x y (by simpa using h1) (by simpa using h2)
theorem Hk{α:Type}[DecidableEq α](z:α){R:α->Value->Prop}{x y:List α}{o o':Obj}{us vs:Array Value}{n n':Nat}(hu:A.units<cLine)(ha:s.heap.get? a=some o)(hc:o.cls=.type "tuple")(hd:o.data=.seq us n)(hb:s.heap.get? b=some o')(hc':o'.cls=.type "tuple")(hd':o'.data=.seq vs n')
  (rx:ie R x us.toList)(ry:ie R y vs.toList)(same:a=b->x=y)(eq:∀k l u v,R k u->R l v->jr A.in1 s u v (decide (k=l))):jr A s (.ref a) (.ref b) (decide (x=y)):=by
 by_cases ab:a=b
 .rw[decide_eq_true (same ab),ab]
  exact tj _
 .obtain⟨m1,g1⟩:=uZ rx
  obtain⟨m2,g2⟩:=uZ ry;have l1:x.length=us.size:=by simpa using m1
  have l2:y.length=vs.size:=by simpa using m2
  have:=xb (A:=A) (s:=s) (l:=a) (b:=b) (items:=us) (items2:=vs) (e:=λj=>decide (x.getD j z=y.getD j z)) ⟨o,ha,hc,n,hd⟩ ⟨o',hb,hc',n',hd'⟩ hu λj h1 h2=>by
   have i1:j<x.length:=by omega
   have i2:j<y.length:=by omega
   have e1:x.getD j z=x[j]:=by simp[br,i1]
   have e2:y.getD j z=y[j]:=by simp[br,i2]
   rw[e1,e2];exact eq _ _ _ _ (g1 j _ _ (au i1) (by simp[h1])) (g2 j _ _ (au i2) (by simp[h2]))
  rw[<-l1,<-l2,Jz]at this;exact xc ab this
theorem zT:∀{l:AA}{us:AD},aX (l.map V.int) us->ie (λ(i:Int) v=>∃t,v=oj i t) l us
 |[],_,.nil=>.nil
 |_::_,_,.cons r t=>.cons r (zT t)
theorem gH.eq{x y:AA}(hu:A.units<cLine)(hx:gH s.heap x a)(hy:gH s.heap y b):jr A s (.ref a) (.ref b) (decide (x=y)):=by
 have inj:a=b->x=y:=λz=>by subst z;exact hx.inj hy
 obtain⟨o,us,n,e,c,f,r⟩:=hx;obtain⟨o',vs,n',e',c',f',r'⟩:=hy;refine Hk 0 hu e c f e' c' f' (zT r) (zT r') inj ?_
 rintro k l u v ⟨t,eu⟩ ⟨t',ev⟩
 subst eu ev;have:=j5 (A:=A.in1) (s:=s) k t l t';have e:(k==l)=decide (k=l):=by by_cases q:k=l<;>simp[q]
 rwa[e]at this
theorem iU.eq{x y:AB}(hu:A.units+1<cLine)(hx:iU s.heap x a)(hy:iU s.heap y b):jr A s (.ref a) (.ref b) (decide (x=y)):=by
 have inj:a=b->x=y:=λz=>by subst z;exact hx.inj hy
 obtain⟨o,us,n,e,c,f,r⟩:=hx;obtain⟨o',vs,n',e',c',f',r'⟩:=hy;refine Hk [] (xf hu) e c f e' c' f' r r' inj ?_
 rintro k l u v ⟨p,eu,g⟩ ⟨q,ev,g'⟩
 subst eu ev;exact g.eq hu g'
theorem Bh{Q:Array Int->aa->Prop}(hu:A.units<cLine):∀(ks:AB)(vs:AD)(t:Nat)(acc:Array Int),ie (λk v=>∃b,v=cq b/\gH s.heap k b) ks vs->
  (∀acc':Array Int,acc'.toList=acc.toList++ks.map hF->Q acc' {s with toks:=t+(ks.map λk=>k.length+1).sum})->
  wpAny (model prog w) A (forIn vs acc λx r=>do let h <-pyHash x;pure PUnit.unit;pure (wn (r.push h))) Q E {s with toks:=t}
 |[],_,t,acc,.nil,q=>ak (by simpa using q acc (by simp))
 |k::ks,_,t,acc,.cons ⟨b,eb,g⟩ r,q=>by
  subst eb;rw[si];refine ae (ae (wpAny_pyHash_tuple (knd:=iK prog w) (s:={s with toks:=t}) hu g.key ?_));refine ae (ak (ak ?_));refine Bh hu ks _ (t+(k.length+1)) _ r λacc' e=>?_;have:=q acc' (by rw[e];simp[hF,tupleKeyHash,iK,intKind]);rw[aw,xh]at this;simpa[xi]using this
theorem iU.hash{ks:AB}{Q:Int->aa->Prop}(hu:A.units+1<cLine)(hk:iU s.heap ks a)(q:Q (hN ks) {s with toks:=s.toks+((ks.map λk=>k.length+1).sum+1)}):wpAny (model prog w) A (pyHash (.ref a)) Q E s:=by
 obtain⟨o,its,n,e,c,f,r⟩:=hk;refine PySem.W.pyHash_slot (T:="tuple") ⟨o,e,c⟩ F.slot_tuple_hash F.entry_tuple_hash (F.args_tuple_hash_1 _) (beq_builtin_none _) (.inr (xf hu)) ?_;show wpAny _ _ (zp (.ref a) >>= _) _ _ s;refine ae (wpAny_tupleItemsOf e f (ae ?_));rw[<-j6];refine Bh hu ks its.toList s.toks #[] r λacc ea=>?_;show wpAny _ _ (retInt (xa acc.toList)) _ _ _;rw[ea];exact ae (wpAny_mkInt (ak ⟨_,_,rfl,by simpa[hN,xi]using q⟩))
theorem Xf{n:Nat}{P:Value->Prop}(hP:∀v(Q:Bool->aa->Prop),P v->Q true s->wpAny (model prog w) A (eqIsQuiet n v) Q E s){o:Obj}{its:Array Value}{m:Nat}{Q:Bool->aa->Prop}(e:s.heap.get? a=some o)(c:o.cls=.type "tuple")(f:o.data=.seq its m)(r:∀v∈its.toList,P v)(q:Q true s):
  wpAny (model prog w) A (eqIsQuiet (n+1) (.ref a)) Q E s:=by
 have hT:s.TypeIs (.ref a) "tuple":=⟨o,e,c⟩;unfold eqIsQuiet;refine ae (wpAny_specialOf hT F.slot_tuple_eq.lookup (ae (wz hT isSubtype_tuple_tuple ?_)));rw[if_neg (by simp)];refine ae (jy e f (ae ?_));show wpAny _ _ (forIn its _ _) _ _ s;rw[<-j6];refine wpAny_forIn_list _ (λfR z s'=>s'=s/\z.1=none/\∀v∈fR,P v) _ ?_ ?_ _ _ ⟨rfl,rfl,r⟩
 .rintro v fR z s' ⟨rfl,hz,hr⟩
  refine ae (hP v _ (hr v ay) ?_);rw[if_neg (by simp)];exact ak ⟨rfl,rfl,λu hu=>hr u (bn _ hu)⟩
 .rintro⟨z1,z2⟩ s' ⟨rfl,hz,_⟩
  cases hz;exact ak q
theorem gH.quiet{n:Nat}{l:AA}{Q:Bool->aa->Prop}(hk:gH s.heap l a)(q:Q true s):wpAny (model prog w) A (eqIsQuiet (n+1) (.ref a)) Q E s:=by
 obtain⟨o,its,m,e,c,f,r⟩:=hk;refine Xf (P:=λv=>carriedByValue v=true) (λv Q' hv q'=>?_) e c f (yT (prog:=prog) (w:=w) r).byValue q;rw[eqIsQuiet_byValue _ hv];exact ak q'
theorem iU.quiet{ks:AB}{Q:Bool->aa->Prop}(hk:iU s.heap ks a)(q:Q true s):wpAny (model prog w) A (eqIsQuiet 8 (.ref a)) Q E s:=by
 obtain⟨o,its,m,e,c,f,r⟩:=hk;refine Xf (P:=λv=>∃k b,v=.ref b/\gH s.heap k b) (λv Q' ⟨k,b,ev,g⟩ q'=>by subst ev;exact g.quiet (n:=6) q') e c f (λv hv=>?_) q;obtain⟨l1,g⟩:=uZ r;obtain⟨i,hi,ev⟩:=sk.mp hv;have i1:i<ks.length:=by rw[l1];exact hi
 obtain⟨b,eb,gb⟩:=g i _ v (au i1) (by rw[au hi,ev]);exact⟨_,b,eb,gb⟩
end
def Vz(prog:Program)(w:al):HeapKind prog w AB where
 is:=iU
 hash:=hN
 draws:=λks=>(ks.map λk=>k.length+1).sum+1
 room:=λA=>A.units+1<cLine
 inj:=λhx hy=>hx.inj hy
 keeps:=λx ho hd hs=>x.keep ho hd hs
 pyHash:=λhu hk h=>hk.hash hu h
 eqBool:=λhu hx hy h=>hx.eq hu hy _ _ _ _ h
 quiet:=λhk h=>hk.quiet h
def fL:Bool->Type
 |false=>AA
 |true=>AB
instance decK:(n:Bool)->DecidableEq (fL n)
 |false=>inferInstanceAs (DecidableEq AA)
 |true=>inferInstanceAs (DecidableEq AB)
def Lq:(n:Bool)->fL n->Int
 |false=>hF
 |true=>hN
def jA(prog:Program)(w:al):(n:Bool)->HeapKind prog w (fL n)
 |false=>tupleKind (iK prog w)
 |true=>Vz prog w
theorem yX{prog:Program}{w:al}:∀(n:Bool)(k:fL n),(jA prog w n).hash k=Lq n k
 |false,_=>rfl
 |true,_=>rfl
theorem uA{prog:Program}{w:al}{A:aq}(hu:A.units+2<cLine):∀n:Bool,(jA prog w n).room A.in1
 |false=>xf hu
 |true=>hu
end L2
namespace L2.Pp
open PySem PySem.Spec PyProof.Rows Bn
section
inductive PV where
 |non |bl (b:Bool) |int (i:Int) |str (x:Str) |tup (xs:List PV) |lst (xs:List PV)
abbrev AH:=List PV
abbrev AI:=Option PV
inductive SO where
 |lst (xs:AH)
 |lol (xss:List AH)
 |dic (n:Bool) (kvs:List (PV×PV))
 |dol (n:Bool) (kvs:List (PV×AH))
abbrev aG:=List SO
inductive AV where
 |pv (v:PV) |ref (k:Nat)
abbrev AJ:=Option AV
abbrev AK:=List AV
abbrev bT:=List AJ
inductive bK(α:Type) where
 |ok (a:α) (S:aG) |exc (n:Str) (S:aG) |fail
def bK.bind{α β:Type}(r:bK α)(k:α->aG->bK β):bK β:=match r with
 |.ok a S=>k a S
 |.exc n S=>.exc n S
 |.fail=>.fail
inductive bZ where
 |nx (ρ:bT) (S:aG) |rt (v:AV) (S:aG) |bk (ρ:bT) (S:aG) |ct (ρ:bT) (S:aG) |exc (n:Str) (S:aG) |fail
def jT(K:ag)(c:Addr->Prop)(H:Hp)(a:Addr)(vs:List V):Prop:=
 (H a=some (.lst vs)/\¬c a)\/(∃o,H a=some (.frz o (.lst vs)))\/
  ∃(o:Obj)(its:Array Value)(n:Nat),K.lookup a=some o/\o.cls=.type "list"/\o.dict=none/\o.data=.seq its n/\its.size<=sizeLine/\aX vs its.toList
theorem jT.sq{K:ag}{c:Addr->Prop}{H:Hp}{a:Addr}{vs:List V}(h:jT K c H a vs):bS K H a vs:=by
 rcases h with h |h |h
 .exact .inl (.inl h.1)
 .exact .inl (.inr h)
 .exact .inr h
mutual
def aI(K:ag)(c:Addr->Prop)(H:Hp):PV->V->Prop
 |.non,x=>x=.non
 |.bl b,x=>x=.bl b
 |.int i,x=>x=.int i
 |.str s,x=>x=.str s
 |.tup xs,x=>∃a vs,x=.ref a/\cP K H a vs/\vs.length<=sizeLine/\aJ K c H xs vs
 |.lst xs,x=>∃a vs,x=.ref a/\jT K c H a vs/\vs.length<=sizeLine/\aJ K c H xs vs
def aJ(K:ag)(c:Addr->Prop)(H:Hp):AH->List V->Prop
 |[],vs=>vs=[]
 |p::ps,vs=>∃v r,vs=v::r/\aI K c H p v/\aJ K c H ps r
end
section
variable{K:ag}{c c':Addr->Prop}{H H':Hp}
mutual
theorem aI.mono(hT:∀a vs,cP K H a vs->cP K H' a vs)(hL:∀a vs,jT K c H a vs->jT K c' H' a vs):∀(v:PV)(x:V),aI K c H v x->aI K c' H' v x
 |.non,x,h=>h
 |.bl b,x,h=>h
 |.int i,x,h=>h
 |.str s,x,h=>h
 |.tup xs,x,h=>by
  unfold aI at h⊢;obtain⟨a,vs,e,t,z,r⟩:=h;exact⟨a,vs,e,hT a vs t,z,aJ.mono hT hL xs vs r⟩
 |.lst xs,x,h=>by
  unfold aI at h⊢;obtain⟨a,vs,e,t,z,r⟩:=h;exact⟨a,vs,e,hL a vs t,z,aJ.mono hT hL xs vs r⟩
theorem aJ.mono(hT:∀a vs,cP K H a vs->cP K H' a vs)(hL:∀a vs,jT K c H a vs->jT K c' H' a vs):∀(v:AH)(x:List V),aJ K c H v x->aJ K c' H' v x
 |[],vs,h=>by
  unfold aJ at h⊢;exact h
 |p::ps,vs,h=>by
  unfold aJ at h⊢;obtain⟨v,r,e,h1,h2⟩:=h;exact⟨v,r,e,aI.mono hT hL p v h1,aJ.mono hT hL ps r h2⟩
end
theorem aJ.length:∀{xs:AH}{vs:List V},aJ K c H xs vs->xs.length=vs.length
 |[],vs,h=>by
  unfold aJ at h;rw[h];rfl
 |p::ps,vs,h=>by
  unfold aJ at h;obtain⟨v,r,rfl,_,h2⟩:=h;rw[cg,cg,aJ.length h2]
theorem aJ.get:∀{xs:AH}{vs:List V}{i:Nat}{p:PV},aJ K c H xs vs->xs[i]?=some p->∃v,vs[i]?=some v/\aI K c H p v
 |[],vs,i,p,h,e=>by simp at e
 |q::ps,vs,0,p,h,e=>by
  unfold aJ at h;obtain⟨v,r,rfl,h1,_⟩:=h;simp at e;subst e;exact⟨v,rfl,h1⟩
 |q::ps,vs,i+1,p,h,e=>by
  unfold aJ at h;obtain⟨v,r,rfl,_,h2⟩:=h;obtain⟨u,e1,e2⟩:=aJ.get (i:=i) h2 (by simpa using e);exact⟨u,by simpa using e1,e2⟩
theorem aJ.nil:aJ K c H [] []:=by
 unfold aJ;rfl
theorem aJ.cons{p:PV}{v:V}{ps:AH}{vs:List V}(h:aI K c H p v)(t:aJ K c H ps vs):aJ K c H (p::ps) (v::vs):=by
 unfold aJ;exact⟨v,vs,rfl,h,t⟩
theorem aJ.append:∀{xs ys:AH}{vs ws:List V},aJ K c H xs vs->aJ K c H ys ws->aJ K c H (xs++ys) (vs++ws)
 |[],ys,vs,ws,h,g=>by
  unfold aJ at h;subst h;exact g
 |p::ps,ys,vs,ws,h,g=>by
  unfold aJ at h;obtain⟨v,r,rfl,h1,h2⟩:=h;exact .cons h1 (h2.append g)
theorem aJ.drop:∀{xs:AH}{vs:List V}(n:Nat),aJ K c H xs vs->aJ K c H (xs.drop n) (vs.drop n)
 |xs,vs,0,h=>by simpa using h
 |[],vs,n+1,h=>by
  unfold aJ at h;subst h;simpa using aJ.nil
 |p::ps,vs,n+1,h=>by
  unfold aJ at h;obtain⟨v,r,rfl,_,h2⟩:=h;simpa using h2.drop n
theorem aJ.take:∀{xs:AH}{vs:List V}(n:Nat),aJ K c H xs vs->aJ K c H (xs.take n) (vs.take n)
 |xs,vs,0,h=>by simpa using aJ.nil
 |[],vs,n+1,h=>by
  unfold aJ at h;subst h;simpa using aJ.nil
 |p::ps,vs,n+1,h=>by
  unfold aJ at h;obtain⟨v,r,rfl,h1,h2⟩:=h;simpa using aJ.cons h1 (h2.take n)
theorem aJ.eraseIdx:∀{xs:AH}{vs:List V}(n:Nat),aJ K c H xs vs->aJ K c H (xs.eraseIdx n) (vs.eraseIdx n)
 |[],vs,n,h=>by
  unfold aJ at h;subst h;simpa using aJ.nil
 |p::ps,vs,0,h=>by
  unfold aJ at h;obtain⟨v,r,rfl,h1,h2⟩:=h;simpa using h2
 |p::ps,vs,n+1,h=>by
  unfold aJ at h;obtain⟨v,r,rfl,h1,h2⟩:=h;simpa using aJ.cons h1 (h2.eraseIdx n)
theorem aJ.set{p:PV}{v:V}(g:aI K c H p v):∀{xs:AH}{vs:List V}(n:Nat),aJ K c H xs vs->aJ K c H (xs.set n p) (vs.set n v)
 |[],vs,n,h=>by
  unfold aJ at h;subst h;simpa using aJ.nil
 |q::ps,vs,0,h=>by
  unfold aJ at h;obtain⟨v,r,rfl,h1,h2⟩:=h;simpa using aJ.cons g h2
 |q::ps,vs,n+1,h=>by
  unfold aJ at h;obtain⟨v,r,rfl,h1,h2⟩:=h;simpa using aJ.cons h1 (aJ.set g n h2)
end
structure Ph where
 f:List Addr
 w:Addr->Prop
 c:Addr->Prop
def wR(K:ag)(c:Addr->Prop)(H:Hp)(xss:List AH)(bs:List Addr):Prop:=
 xss.length=bs.length/\∀(i:Nat)(xs:AH)(b:Addr),xss[i]?=some xs->bs[i]?=some b->∃vs,H b=some (.lst vs)/\vs.length<=sizeLine/\aJ K c H xs vs
def cE:(n:Bool)->fL n->PV
 |false,l=>.tup (jz PV.int l)
 |true,l=>.tup (jz (λr:AA=>PV.tup (r.map PV.int)) l)
def oD(es:Array DictEntry)(ep:Nat):Obj:={cls:=.type "dict",data:=.dict es ep}
def dO(a:Addr)(es:Array DictEntry)(ep:Nat):HO:=.ext λh=>h.get? a=some (oD es ep)
def iR(n:Bool)(x:fL n×Addr×Value):DictEntry:=⟨Lq n x.1,.ref x.2.1,x.2.2⟩
def nM(K:ag)(c:Addr->Prop)(H:Hp)(a:Addr)(n:Bool)(ks:AH)(us:AD):Prop:=
 ∃(xs:List (fL n×Addr×Value))(ep:Nat),H a=some (dO a (xs.map (iR n)).toArray ep)/\(a==sysModules)=false/\xs.length<=sizeLine/\(xs.map (·.1)).Nodup/\ks=xs.map (λx=>cE n x.1)/\aJ K c H ks (xs.map λx=>V.ref x.2.1)/\us=xs.map (·.2.2)
def lY(K:ag)(p:Ph)(H:Hp)(a:Addr):SO->Prop
 |.lst xs=>∃vs,H a=some (.lst vs)/\vs.length<=sizeLine/\aJ K p.c H xs vs
 |.lol xss=>∃bs:List Addr,H a=some (.lst (bs.map V.ref))/\bs.length<=sizeLine/\bs.Nodup/\(∀b∈bs,p.w b/\b∉p.f)/\wR K p.c H xss bs
 |.dic n kvs=>∃us vs,nM K p.c H a n (kvs.map (·.1)) us/\aX vs us/\aJ K p.c H (kvs.map (·.2)) vs
 |.dol n kvs=>∃bs:List Addr,nM K p.c H a n (kvs.map (·.1)) (bs.map cq)/\bs.Nodup/\(∀b∈bs,p.w b/\b∉p.f)/\wR K p.c H (kvs.map (·.2)) bs
theorem nM.mono{K:ag}{c c':Addr->Prop}{H H':Hp}{a:Addr}{n:Bool}{ks:AH}{us:AD}(h:nM K c H a n ks us)(ha:∀o,H a=some o->H' a=some o)(hR:∀xs vs,aJ K c H xs vs->aJ K c' H' xs vs):nM K c' H' a n ks us:=by
 obtain⟨xs,ep,e,z,l,nd,ek,r,eu⟩:=h;exact⟨xs,ep,ha _ e,z,l,nd,ek,hR _ _ r,eu⟩
theorem lY.mono{K:ag}{p p':Ph}{H H':Hp}{a:Addr}{o:SO}(h:lY K p H a o)(ha:∀o,H a=some o->H' a=some o)
  (hb:∀b,p.w b->b∉p.f->(p'.w b/\b∉p'.f)/\∀vs,H b=some (.lst vs)->H' b=some (.lst vs))(hR:∀xs vs,aJ K p.c H xs vs->aJ K p'.c H' xs vs):lY K p' H' a o:=by
 have lol:∀{xss:List AH}{bs:List Addr},(∀b∈bs,p.w b/\b∉p.f)->wR K p.c H xss bs->wR K p'.c H' xss bs:=λwf ⟨z,at_⟩=>⟨z,λi xs b e1 e2=>by
  obtain⟨vs,g1,g2,g3⟩:=at_ i xs b e1 e2;have m:=wf b (cu e2);exact⟨vs,(hb b m.1 m.2).2 vs g1,g2,hR xs vs g3⟩⟩
 cases o with
 |lst xs=>
  obtain⟨vs,e,l,r⟩:=h;exact⟨vs,ha _ e,l,hR xs vs r⟩
 |lol xss=>
  obtain⟨bs,e,l,nd,wf,z⟩:=h;exact⟨bs,ha _ e,l,nd,λb m=>(hb b (wf b m).1 (wf b m).2).1,lol wf z⟩
 |dic n kvs=>
  obtain⟨us,vs,d,v,r⟩:=h;exact⟨us,vs,d.mono ha hR,v,hR _ _ r⟩
 |dol n kvs=>
  obtain⟨bs,d,nd,wf,z⟩:=h;exact⟨bs,d.mono ha hR,nd,λb m=>(hb b (wf b m).1 (wf b m).2).1,lol wf z⟩
def Mb:HO->Prop
 |.lst _=>True
 |.dK _=>True
 |.dT _=>True
 |.ins _ _ _=>True
 |.ext _=>True
 |_=>False
structure aT(K:ag)(p:Ph)(S:aG)(H:Hp):Prop where
 nd:p.f.Nodup
 len:p.f.length=S.length
 sub:∀a∈p.f,p.w a
 wc:∀a,p.w a->p.c a
 mu:∀a,p.c a->∃o,H a=some o/\Mb o
 obj:∀(k:Nat)(a:Addr)(o:SO),p.f[k]?=some a->S[k]?=some o->lY K p H a o
structure bI(p:Ph)(H:Hp)(q:Ph)(H':Hp):Prop where
 wc:∀a,p.w a->p.c a
 mu:∀a,p.c a->∃o,H a=some o/\Mb o
 pre:p.f <+:q.f
 mw:∀a,p.w a->q.w a
 mono:∀a,p.c a->q.c a
 nf:∀a∈q.f,a∉p.f->H a=none
 nw:∀a,q.w a->¬p.w a->H a=none
 nc:∀a,q.c a->¬p.c a->H a=none
 keep:∀a o,H a=some o->¬p.w a->H' a=some o
def bX(K:ag)(p:Ph)(H:Hp):AV->V->Prop
 |.pv v,x=>aI K p.c H v x
 |.ref k,x=>∃a,p.f[k]?=some a/\x=.ref a
abbrev fY(K:ag)(p:Ph)(H:Hp):AK->List V->Prop:=ie (bX K p H)
structure dB(K:ag)(p:Ph)(H:Hp)(ρ:bT)(σ:St):Prop where
 len:ρ.length=σ.length
 at_:∀(i:Nat)(v:AV),ρ[i]?=some (some v)->∃x,σ[i]?=some (some x)/\bX K p H v x
section
variable{K:ag}{p q r:Ph}{H H' H'':Hp}{S:aG}
theorem aT.step(s:aT K p S H):bI p H p H:=⟨s.wc,s.mu,jg,λ_ h=>h,λ_ h=>h,λ_ h g=>absurd h g,λ_ h g=>absurd h g,λ_ h g=>absurd h g,λ_ _ h _=>h⟩
theorem bI.trans(a:bI p H q H')(b:bI q H' r H''):bI p H r H'':=by
 have back:∀x,H' x=none->¬p.w x->H x=none:=λx h n=>by
  cases e:H x with
  |none=>rfl
  |some o=>rw[a.keep x o e n]at h;cases h
 refine⟨a.wc,a.mu,a.pre.trans b.pre,λx h=>b.mw x (a.mw x h),λx h=>b.mono x (a.mono x h),λx h n=>?_,λx h n=>?_,λx h n=>?_,λx o e n=>?_⟩
 .by_cases m:x∈q.f
  .exact a.nf x m n
  .have hn:=b.nf x h m
   refine back x hn λz=>?_;obtain⟨o,ho,_⟩:=b.mu x (a.mono x (a.wc x z));rw[hn]at ho;cases ho
 .by_cases m:q.w x
  .exact a.nw x m n
  .exact back x (b.nw x h m) n
 .by_cases m:q.c x
  .exact a.nc x m n
  .exact back x (b.nc x h m) λz=>n (a.wc x z)
 .refine b.keep x o (a.keep x o e n) λz=>?_
  rw[a.nw x z n]at e;cases e
theorem bI.tup(s:bI p H q H'){a:Addr}{vs:List V}(h:cP K H a vs):cP K H' a vs:=by
 have go:∀o,H a=some o->¬Mb o->H' a=some o:=λo e n=>s.keep a o e λz=>by
  obtain⟨u,e',m⟩:=s.mu a (s.wc a z);rw[e]at e';cases e';exact n m
 rcases h with(h |⟨o,h⟩) |h
 .exact .inl (.inl (go _ h (λz=>z)))
 .exact .inl (.inr ⟨o,go _ h (λz=>z)⟩)
 .exact .inr h
theorem bI.lat(s:bI p H q H'){a:Addr}{vs:List V}(h:jT K p.c H a vs):jT K q.c H' a vs:=by
 rcases h with⟨h,n⟩|⟨o,h⟩|h
 .refine .inl ⟨s.keep a _ h λz=>n (s.wc a z),λz=>?_⟩
  rw[s.nc a z n]at h;cases h
 .refine .inr (.inl ⟨o,s.keep a _ h λz=>?_⟩)
  obtain⟨u,e',m⟩:=s.mu a (s.wc a z);rw[h]at e';cases e';exact m
 .exact .inr (.inr h)
theorem bI.rep(s:bI p H q H'){v:PV}{x:V}(h:aI K p.c H v x):aI K q.c H' v x:=aI.mono (λ_ _=>s.tup) (λ_ _=>s.lat) v x h
theorem bI.reps(s:bI p H q H'){v:AH}{x:List V}(h:aJ K p.c H v x):aJ K q.c H' v x:=aJ.mono (λ_ _=>s.tup) (λ_ _=>s.lat) v x h
theorem bI.at_(s:bI p H q H'){k:Nat}{a:Addr}(h:p.f[k]?=some a):q.f[k]?=some a:=by
 obtain⟨t,e⟩:=s.pre;rw[<-e,ff (by
  have:=bo.mp h;exact this.1)]
 exact h
theorem bI.repA(s:bI p H q H'){v:AV}{x:V}(h:bX K p H v x):bX K q H' v x:=by
 cases v with
 |pv v=>exact s.rep h
 |ref k=>
  obtain⟨a,e,f⟩:=h;exact⟨a,s.at_ e,f⟩
theorem bI.repE(s:bI p H q H'){ρ:bT}{σ:St}(h:dB K p H ρ σ):dB K q H' ρ σ:=
 ⟨h.len,λi v e=>let⟨x,e1,e2⟩:=h.at_ i v e;⟨x,e1,s.repA e2⟩⟩
theorem aT.same(s:aT K p S H)(h:dD H H'):bI p H p H':=⟨s.wc,s.mu,jg,λ_ h=>h,λ_ h=>h,λ_ h g=>absurd h g,λ_ h g=>absurd h g,λ_ h g=>absurd h g,λa o e _=>h a o e⟩
theorem aT.ofSame(s:aT K p S H)(h:dD H H'):aT K p S H':=
 ⟨s.nd,s.len,s.sub,s.wc,λa m=>let⟨o,e,m⟩:=s.mu a m;⟨o,h a o e,m⟩,λk a o e1 e2=>by
  exact(s.obj k a o e1 e2).mono (λvs e=>h _ _ e) (λb w f=>⟨⟨w,f⟩,λvs e=>h _ _ e⟩) λxs vs=>(s.same h).reps⟩
theorem gF{a:Addr}{o:HO}(h:H a=none):dD H (aK H a o):=λb u e=>by
 rw[bH (fW e h)];exact e
end
section
variable{α β γ δ:Type}
def bR(K:ag)(cl:Str->Addr)(R:Ph->Hp->α->β->Prop)(p:Ph)(H:Hp)(r:bK α)(Q:β->Hp->Prop)(E:XK):Prop:=match r with
 |.ok a S=>∀q H' x,bI p H q H'->aT K q S H'->R q H' a x->Q x H'
 |.exc n S=>∀q H',bI p H q H'->aT K q S H'->E (.ref (cl n)) none H'
 |.fail=>False
def dS(K:ag)(cl:Str->Addr)(p:Ph)(H:Hp)(r:bZ)(D:lV)(E:XK):Prop:=match r with
 |.nx ρ S=>∀q H' σ,bI p H q H'->aT K q S H'->dB K q H' ρ σ->D.nx σ H'
 |.bk ρ S=>∀q H' σ,bI p H q H'->aT K q S H'->dB K q H' ρ σ->D.bk σ H'
 |.ct ρ S=>∀q H' σ,bI p H q H'->aT K q S H'->dB K q H' ρ σ->D.ct σ H'
 |.rt v S=>∀q H' x,bI p H q H'->aT K q S H'->bX K q H' v x->D.rt x H'
 |.exc n S=>∀q H',bI p H q H'->aT K q S H'->E (.ref (cl n)) none H'
 |.fail=>False
variable{K:ag}{cl:Str->Addr}{p q:Ph}{H H':Hp}{S:aG}{E:XK}{R:Ph->Hp->α->β->Prop}{R':Ph->Hp->γ->δ->Prop}
theorem bR.mono{r:bK α}{Q:β->Hp->Prop}(h:bR K cl R p H r Q E)(s:bI p H q H'):bR K cl R q H' r Q E:=by
 cases r with
 |ok a S=>exact λq' H'' x s'=>h q' H'' x (s.trans s')
 |exc n S=>exact λq' H'' s'=>h q' H'' (s.trans s')
 |fail=>exact h
theorem dS.mono{r:bZ}{D:lV}(h:dS K cl p H r D E)(s:bI p H q H'):dS K cl q H' r D E:=by
 cases r with
 |nx ρ S=>exact λq' H'' x s'=>h q' H'' x (s.trans s')
 |bk ρ S=>exact λq' H'' x s'=>h q' H'' x (s.trans s')
 |ct ρ S=>exact λq' H'' x s'=>h q' H'' x (s.trans s')
 |rt v S=>exact λq' H'' x s'=>h q' H'' x (s.trans s')
 |exc n S=>exact λq' H'' s'=>h q' H'' (s.trans s')
 |fail=>exact h
theorem bR.ret{a:α}{x:β}{Q:β->Hp->Prop}(h:bR K cl R p H (.ok a S) Q E)(s:aT K p S H)(r:R p H a x):Q x H:=h p H x s.step s r
theorem bR.same{a:α}{x:β}{Q:β->Hp->Prop}(h:bR K cl R p H (.ok a S) Q E)(s:aT K p S H)(e:dD H H')(r:R p H' a x):Q x H':=h p H' x (s.same e) (s.ofSame e) r
def tP(K:ag)(cl:Str->Addr)(E:XK)(R:Ph->Hp->α->β->Prop)(m:bT->aG->bK α)(σ:St)(H:Hp)(Q:β->Hp->Prop):Prop:=
 ∃p S ρ,aT K p S H/\dB K p H ρ σ/\bR K cl R p H (m ρ S) Q E
def tS(K:ag)(cl:Str->Addr)(E:XK)(m:bT->aG->bZ):TS:=λD σ H=>
 ∃p S ρ,aT K p S H/\dB K p H ρ σ/\dS K cl p H (m ρ S) D E
theorem bW{m:bT->aG->bK α}{k:α->aG->bK γ}{ρ:bT}{σ:St}{Q:δ->Hp->Prop}{T:β->Hp->Prop}(s:aT K p S H)(e:dB K p H ρ σ)(h:bR K cl R' p H ((m ρ S).bind k) Q E)
  (g:∀q H' a b S',bI p H q H'->aT K q S' H'->dB K q H' ρ σ->R q H' a b->bR K cl R' q H' (k a S') Q E->T b H'):tP K cl E R m σ H T:=by
 refine⟨p,S,ρ,s,e,?_⟩;cases z:m ρ S with
 |ok a S1=>
  rw[z]at h;exact λq H' b st sm r=>g q H' a b S1 st sm (st.repE e) r (bR.mono (r:=k a S1) h st)
 |exc n S1=>
  rw[z]at h;exact h
 |fail=>
  rw[z]at h;exact h
def bZ.of{α:Type}(r:bK α)(k:α->aG->bZ):bZ:=match r with
 |.ok a S=>k a S
 |.exc n S=>.exc n S
 |.fail=>.fail
theorem iE{m:bT->aG->bK α}{k:α->aG->bZ}{ρ:bT}{σ:St}{D:lV}{T:β->Hp->Prop}(s:aT K p S H)(e:dB K p H ρ σ)(h:dS K cl p H (bZ.of (m ρ S) k) D E)
  (g:∀q H' a b S',bI p H q H'->aT K q S' H'->dB K q H' ρ σ->R q H' a b->dS K cl q H' (k a S') D E->T b H'):tP K cl E R m σ H T:=by
 refine⟨p,S,ρ,s,e,?_⟩;cases z:m ρ S with
 |ok a S1=>
  rw[z]at h;exact λq H' b st sm r=>g q H' a b S1 st sm (st.repE e) r (dS.mono (r:=k a S1) h st)
 |exc n S1=>
  rw[z]at h;exact h
 |fail=>
  rw[z]at h;exact h
end
end
abbrev RB:Ph->Hp->Bool->Bool->Prop:=λ_ _ a b=>a=b
abbrev ME:=bT->aG->bK AV
abbrev MT:=bT->aG->bK Bool
abbrev MA:=bT->aG->bK AK
abbrev MS:=bT->aG->bZ
section
variable(K:ag)(cl:Str->Addr)(E:XK)(X:Cx)
def aM(e:ah)(m:ME):Prop:=X.K=K->PE X e (tP K cl E (bX K) m)
def fH(e:ah)(m:MT):Prop:=X.K=K->PT X e (tP K cl E RB m)
def jJ(e:ah)(m:MT):Prop:=X.K=K->PW X e (tP K cl E RB m)
def eF(es:List ah)(m:MA):Prop:=X.K=K->PA X es (tP K cl E (fY K) m)
def eA(st:Stmt)(m:MS):Prop:=X.K=K->PS X st (tS K cl E m)
def gG(st:List Stmt)(m:MS):Prop:=X.K=K->gB X st (tS K cl E m)
end
theorem PA.imp{X:Cx}{es:List ah}{t t':TA}(h:PA X es t)(i:∀σ H Q,t' σ H Q->t σ H Q):PA X es t':=λpos AL s σ H Q I q=>h pos AL s σ H Q I (i σ H Q q)
theorem PW.imp{X:Cx}{e:ah}{t t':TT}(h:PW X e t)(i:∀σ H Q,t' σ H Q->t σ H Q):PW X e t':=λwh AL s σ H Q I q=>h wh AL s σ H Q I (i σ H Q q)
def aA(i:Nat):ME:=λρ S=>match ρ[i]? with
 |some (some v)=>.ok v S
 |_=>.fail
def mC(v:PV):ME:=λ_ S=>.ok (.pv v) S
def rd(S:aG):AV->AI
 |.pv v=>some v
 |.ref k=>match S[k]? with
  |some (.lst xs)=>some (.lst xs)
  |_=>none
def gJ(S:aG):AK->Option AH
 |[]=>some []
 |a::r=>match rd S a with
  |some v=>match gJ S r with
   |some vs=>some (v::vs)
   |none=>none
  |none=>none
def gY(o:AI)(S:aG):bK AV:=match o with
 |some r=>.ok (.pv r) S
 |none=>.fail
def sP(f:PV->AI)(a:AV)(S:aG):bK AV:=gY ((rd S a).bind f) S
def kB(f:PV->PV->AI)(a b:AV)(S:aG):bK AV:=gY ((rd S a).bind λx=>(rd S b).bind λy=>f x y) S
def cL(f:PV->AI)(ma:ME):ME:=λρ S=>(ma ρ S).bind λx S1=>sP f x S1
def aC(f:PV->PV->AI)(ma mb:ME):ME:=λρ S=>(ma ρ S).bind λx S1=>(mb ρ S1).bind λy S2=>kB f x y S2
def aD:MA:=λ_ S=>.ok [] S
def aB(ma:ME)(mr:MA):MA:=λρ S=>(ma ρ S).bind λx S1=>(mr ρ S1).bind λxs S2=>.ok (x::xs) S2
def nE:AK->Option AH
 |[]=>some []
 |.pv v::r=>match nE r with
  |some vs=>some (v::vs)
  |none=>none
 |.ref _::_=>none
def Uc(f:AH->AI)(xs:AK)(S:aG):bK AV:=gY ((nE xs).bind f) S
def nB(f:AH->AI)(xs:AK)(S:aG):bK AV:=gY ((gJ S xs).bind f) S
def mR(f:AH->AI)(ma:MA):ME:=λρ S=>(ma ρ S).bind λxs S1=>nB f xs S1
def mN(f:AH->AI)(ma:MA):ME:=λρ S=>(ma ρ S).bind λxs S1=>Uc f xs S1
def eR(vs:AH):AI:=if vs.length<=16777216 then some (.tup vs)else none
def fS(vs:AH):AI:=if vs.length<=16777216 then some (.lst vs)else none
def kL:AV->aG->bK Bool
 |.pv (.bl b),S=>.ok b S
 |_,_=>.fail
def bJ(m:ME):MT:=λρ S=>(m ρ S).bind kL
def sX(m:MT):MT:=λρ S=>(m ρ S).bind λb S1=>.ok (!b) S1
def jE(m n:MT):MT:=λρ S=>(m ρ S).bind λb S1=>if b=true then n ρ S1 else .ok false S1
def tN(m n:MT):MT:=λρ S=>(m ρ S).bind λb S1=>if b=true then .ok true S1 else n ρ S1
def qG(m n:ME):ME:=λρ S=>(m ρ S).bind λx S1=>match x with
 |.pv (.bl true)=>n ρ S1
 |.pv (.bl false)=>.ok (.pv (.bl false)) S1
 |_=>.fail
def acy(m n:ME):ME:=λρ S=>(m ρ S).bind λx S1=>match x with
 |.pv (.bl false)=>n ρ S1
 |.pv (.bl true)=>.ok (.pv (.bl true)) S1
 |_=>.fail
def sY:PV->AI
 |.bl b=>some (.bl (!b))
 |_=>none
def tI(c:MT)(a b:ME):ME:=λρ S=>(c ρ S).bind λt S1=>if t=true then a ρ S1 else b ρ S1
section
variable{K:ag}{cl:Str->Addr}{E:XK}{X:Cx}{a b c e:ah}{es:List ah}{ma mb mc m:ME}{mt nt:MT}{ms:MA}{pos:ai}
theorem aac(i:Nat){x:Str}(hN:X.N[i]?=some x:=by rfl)(hv:kG X.env.scope x:=by first |exact du rfl |exact dh (du rfl) |exact dh (dh rfl))(hd:(x==("__debug__":Str))=false:=by decide)
  (hcd:(x==("__classdict__":Str))=false:=by decide):aM K cl E X (.Name x pos) (aA i):=λ_=>(kS hN hv hd hcd).imp λσ H Q ⟨p,S,ρ,s,e,h⟩=>by
 unfold aA at h;cases z:ρ[i]? with
 |none=>rw[z]at h;exact h.elim
 |some o=>
  cases o with
  |none=>rw[z]at h;exact h.elim
  |some v=>
   rw[z]at h;obtain⟨x,e1,e2⟩:=e.at_ i v z;exact⟨x,e1,bR.ret h s e2⟩
theorem Z4{i:Int}{j}:aM K cl E X (.Constant (.int i) j pos) (mC (.int i)):=λ_=>vR.imp λσ H Q ⟨p,S,ρ,s,e,h⟩=>bR.ret (R:=bX K) (x:=.int i) h s (by show aI K p.c H (.int i) (.int i);unfold aI;rfl)
theorem ab1{i:Bool}{j}:aM K cl E X (.Constant (.bool i) j pos) (mC (.bl i)):=λ_=>acd.imp λσ H Q ⟨p,S,ρ,s,e,h⟩=>bR.ret (R:=bX K) (x:=.bl i) h s (by show aI K p.c H (.bl i) (.bl i);unfold aI;rfl)
def eW(K:ag)(p:Ph)(H:Hp)(v:PV)(x:V):Prop:=aI K p.c H v x\/∃xs a vs,v=.lst xs/\x=.ref a/\H a=some (.lst vs)/\vs.length<=sizeLine/\aJ K p.c H xs vs
theorem eW.int{p:Ph}{H:Hp}{i:Int}{x:V}(h:eW K p H (.int i) x):x=.int i:=by
 rcases h with h |⟨_,_,_,e,_⟩
 .unfold aI at h;exact h
 .cases e
theorem eW.bl{p:Ph}{H:Hp}{i:Bool}{x:V}(h:eW K p H (.bl i) x):x=.bl i:=by
 rcases h with h |⟨_,_,_,e,_⟩
 .unfold aI at h;exact h
 .cases e
theorem eW.str{p:Ph}{H:Hp}{i:Str}{x:V}(h:eW K p H (.str i) x):x=.str i:=by
 rcases h with h |⟨_,_,_,e,_⟩
 .unfold aI at h;exact h
 .cases e
theorem eW.non{p:Ph}{H:Hp}{x:V}(h:eW K p H .non x):x=.non:=by
 rcases h with h |⟨_,_,_,e,_⟩
 .unfold aI at h;exact h
 .cases e
theorem eW.tup{p:Ph}{H:Hp}{xs:AH}{x:V}(h:eW K p H (.tup xs) x):∃a vs,x=.ref a/\cP K H a vs/\vs.length<=sizeLine/\aJ K p.c H xs vs:=by
 rcases h with h |⟨_,_,_,e,_⟩
 .unfold aI at h;exact h
 .cases e
theorem eW.lst{p:Ph}{H:Hp}{xs:AH}{x:V}(h:eW K p H (.lst xs) x):∃a vs,x=.ref a/\bS K H a vs/\vs.length<=sizeLine/\aJ K p.c H xs vs:=by
 rcases h with h |⟨ys,a,vs,e,e2,h,z,r⟩
 .unfold aI at h
  obtain⟨a,vs,e,l,z,r⟩:=h;exact⟨a,vs,e,l.sq,z,r⟩
 .cases e
  exact⟨a,vs,e2,bS.of h,z,r⟩
theorem oG{p:Ph}{S:aG}{H:Hp}{a:AV}{v:PV}{x:V}(s:aT K p S H)(r:bX K p H a x)(e:rd S a=some v):eW K p H v x:=by
 cases a with
 |pv u=>cases e;exact .inl r
 |ref k=>
  obtain⟨a,e1,rfl⟩:=r;unfold rd at e;cases z:S[k]? with
  |none=>simp only[z]at e;cases e
  |some o=>
   cases o with
   |lst xs=>
    simp only[z]at e;cases e;obtain⟨vs,h,l,r⟩:=s.obj k a _ e1 z;exact .inr ⟨xs,a,vs,rfl,rfl,h,l,r⟩
   |lol _=>simp only[z]at e;cases e
   |dic _ _=>simp only[z]at e;cases e
   |dol _ _=>simp only[z]at e;cases e
abbrev Tc(K:ag)(p:Ph)(H:Hp):AH->List V->Prop:=ie (eW K p H)
theorem uI{p:Ph}{S:aG}{H:Hp}(s:aT K p S H):∀{as:AK}{vs:AH}{xs:List V},fY K p H as xs->gJ S as=some vs->Tc K p H vs xs
 |[],vs,_,.nil,e=>by
  cases e;exact .nil
 |a::r,vs,_,.cons h t,e=>by
  unfold gJ at e;cases z:rd S a with
  |none=>simp only[z]at e;cases e
  |some v=>
   simp only[z]at e;cases y:gJ S r with
   |none=>simp only[y]at e;cases e
   |some us=>
    simp only[y]at e;cases e;exact .cons (oG s h z) (uI s t y)
def gM(K:ag)(r:R2)(f:PV->PV->AI):Prop:=∀{p:Ph}{S:aG}{H:Hp}{a b c:PV}{x y:V}{Q:VK},aT K p S H->eW K p H a x->eW K p H b y->f a b=some c->
 (∀H' z,dD H H'->aI K p.c H' c z->Q z H')->r x y H Q
def tO(K:ag)(r:V->Hp->VK->Prop)(f:PV->AI):Prop:=∀{p:Ph}{S:aG}{H:Hp}{a c:PV}{x:V}{Q:VK},aT K p S H->eW K p H a x->f a=some c->
 (∀H' z,dD H H'->aI K p.c H' c z->Q z H')->r x H Q
def CaS(K:ag)(r:List V->Hp->VK->Prop)(f:AH->AI):Prop:=∀{p:Ph}{S:aG}{H:Hp}{as:AH}{c:PV}{xs:List V}{Q:VK},aT K p S H->aJ K p.c H as xs->f as=some c->
 (∀H' z,dD H H'->aI K p.c H' c z->Q z H')->r xs H Q
def jS(K:ag)(r:List V->Hp->VK->Prop)(f:AH->AI):Prop:=∀{p:Ph}{S:aG}{H:Hp}{as:AH}{c:PV}{xs:List V}{Q:VK},aT K p S H->Tc K p H as xs->f as=some c->
 (∀H' z,dD H H'->aI K p.c H' c z->Q z H')->r xs H Q
theorem oB{p:Ph}{S:aG}{H:Hp}{o:AI}{Q:VK}(s:aT K p S H)(h:bR K cl (bX K) p H (gY o S) Q E):∃c,o=some c/\∀H' z,dD H H'->aI K p.c H' c z->Q z H':=by
 cases o with
 |none=>exact h.elim
 |some c=>exact⟨c,rfl,λH' z sm rz=>bR.same (R:=bX K) h s sm rz⟩
theorem uJ{r:R2}{f:PV->PV->AI}(hf:gM K r f){p:Ph}{S:aG}{H:Hp}{a b:AV}{x y:V}{Q:VK}(s:aT K p S H)(ra:bX K p H a x)(rb:bX K p H b y)(h:bR K cl (bX K) p H (kB f a b S) Q E):r x y H Q:=by
 obtain⟨c,e,k⟩:=oB s h;cases z:rd S a with
 |none=>rw[z]at e;cases e
 |some v=>
  cases y:rd S b with
  |none=>rw[z,y]at e;cases e
  |some w=>
   rw[z,y]at e;exact hf s (oG s ra z) (oG s rb y) e k
theorem uO{r:V->Hp->VK->Prop}{f:PV->AI}(hf:tO K r f){p:Ph}{S:aG}{H:Hp}{a:AV}{x:V}{Q:VK}(s:aT K p S H)(ra:bX K p H a x)(h:bR K cl (bX K) p H (sP f a S) Q E):r x H Q:=by
 obtain⟨c,e,k⟩:=oB s h;cases z:rd S a with
 |none=>rw[z]at e;cases e
 |some v=>
  rw[z]at e;exact hf s (oG s ra z) e k
theorem Mh{r:List V->Hp->VK->Prop}{f:AH->AI}(hf:jS K r f){p:Ph}{S:aG}{H:Hp}{as:AK}{xs:List V}{Q:VK}(s:aT K p S H)(ra:fY K p H as xs)(h:bR K cl (bX K) p H (nB f as S) Q E):r xs H Q:=by
 obtain⟨c,e,k⟩:=oB s h;cases z:gJ S as with
 |none=>rw[z]at e;cases e
 |some v=>
  rw[z]at e;exact hf s (uI s ra z) e k
theorem zD{p:Ph}{H:Hp}:∀{as:AK}{vs:AH}{xs:List V},nE as=some vs->fY K p H as xs->aJ K p.c H vs xs
 |[],vs,_,e,.nil=>by
  cases e;exact .nil
 |.pv v::r,vs,_,e,.cons h t=>by
  unfold nE at e;cases z:nE r with
  |none=>simp only[z]at e;cases e
  |some us=>
   simp only[z]at e;cases e;exact .cons h (zD z t)
 |.ref k::r,vs,_,e,.cons h t=>by
  cases e
theorem Lh{r:List V->Hp->VK->Prop}{f:AH->AI}(hf:CaS K r f){p:Ph}{S:aG}{H:Hp}{as:AK}{xs:List V}{Q:VK}(s:aT K p S H)(ra:fY K p H as xs)(h:bR K cl (bX K) p H (Uc f as S) Q E):r xs H Q:=by
 obtain⟨c,e,k⟩:=oB s h;cases z:nE as with
 |none=>rw[z]at e;cases e
 |some v=>
  rw[z]at e;exact hf s (zD z ra) e k
theorem qD{op:qr}{r:R2}{f:PV->PV->AI}(ho:eD X (binaryOp op) r)(hf:gM X.K r f)(ha:aM K cl E X a ma)(hb:aM K cl E X b mb):aM K cl E X (.BinOp a op b pos) (aC f ma mb):=by
 intro hK;subst hK;refine(Qq ho (ha rfl) (hb rfl)).imp ?_
 rintro σ H Q ⟨p,S,ρ,s,e,h⟩
 exact bW s e h λq H1 a x S1 st s1 e1 r1 h1=>bW s1 e1 h1 λq2 H2 b y S2 st2 s2 e2 r2 h2=>uJ hf s2 (st2.repA r1) r2 h2
theorem abn{op:UnaryOp}{r:V->Hp->VK->Prop}{f:PV->AI}(ho:xX X (unaryOp op) r)(hf:tO X.K r f)(ha:aM K cl E X a ma):aM K cl E X (.UnaryOp op a pos) (cL f ma):=by
 intro hK;subst hK;refine(Vq ho (ha rfl)).imp ?_
 rintro σ H Q ⟨p,S,ρ,s,e,h⟩
 exact bW s e h λq H1 a x S1 st s1 e1 r1 h1=>uO hf s1 r1 h1
theorem sE{op:kh}{r:R2}{f:PV->PV->AI}(ho:eD X (compareOp op) r)(hf:gM X.K r f)(ha:aM K cl E X a ma)(hb:aM K cl E X b mb)(hm:behindInMarks op b=false):aM K cl E X (.Compare a [op] [b] pos) (aC f ma mb):=by
 intro hK;subst hK;refine(P7 ho (ha rfl) (hb rfl) hm).imp ?_
 rintro σ H Q ⟨p,S,ρ,s,e,h⟩
 exact bW s e h λq H1 a x S1 st s1 e1 r1 h1=>bW s1 e1 h1 λq2 H2 b y S2 st2 s2 e2 r2 h2=>uJ hf s2 (st2.repA r1) r2 h2
theorem Iq{p:Ph}{H:Hp}{v:AV}{x:V}(r:bX K p H v x){b:Bool}(e:v=.pv (.bl b)):x=.bl b:=by
 subst e;unfold bX aI at r;exact r
theorem Oj{p:Ph}{S:aG}{H:Hp}{v:AV}{x:V}{Q:Bool->Hp->Prop}(s:aT K p S H)(r:bX K p H v x)
  (h:bR K cl RB p H (kL v S) Q E):∃k,x=.bl k/\Q k H:=by
 cases v with
 |ref k=>exact h.elim
 |pv v=>
  cases v with
  |bl b=>exact⟨b,Iq r rfl,bR.ret (R:=RB) h s rfl⟩
  |_=>exact h.elim
theorem rT{op:kh}{r:R2}{f:PV->PV->AI}(ho:eD X (compareOp op) r)(hf:gM X.K r f)(ha:aM K cl E X a ma)(hb:aM K cl E X b mb)(hm:behindInMarks op b=false):fH K cl E X (.Compare a [op] [b] pos) (bJ (aC f ma mb)):=by
 intro hK;subst hK;refine(U7 ho (ha rfl) (hb rfl) hm).imp ?_
 rintro σ H Q ⟨p,S,ρ,s,e,h⟩
 have z:tP X.K cl E (bX X.K) (aC f ma mb) σ H λx H'=>∃k,x=.bl k/\Q k H':=bW s e h λq H1 a x S1 st s1 e1 r1 h1=>Oj s1 r1 h1;obtain⟨p',S',ρ',s',e',h'⟩:=z;exact bW s' e' h' λq H1 a x S1 st s1 e1 r1 h1=>bW s1 e1 h1 λq2 H2 b y S2 st2 s2 e2 r2 h2=>uJ hf s2 (st2.repA r1) r2 h2
theorem P0(ha:aM K cl E X a ma)(he:∀whole,isTrue a X.env whole=(do let v <-whole;standAt a.pos;holding [v] (truthy v)):=by intro _;rfl):fH K cl E X a (bJ ma):=by
 intro hK;subst hK;refine(aa3 (ha rfl) he).imp ?_
 rintro σ H Q ⟨p,S,ρ,s,e,h⟩
 exact bW s e h λq H1 a x S1 st s1 e1 r1 h1=>Oj s1 r1 h1
theorem K0(ha:fH K cl E X a mt):fH K cl E X (.UnaryOp .Not a pos) (sX mt):=by
 intro hK;subst hK;refine(aan (ha rfl)).imp ?_
 rintro σ H Q ⟨p,S,ρ,s,e,h⟩
 exact bW s e h λq H1 a x S1 st s1 e1 r1 h1=>by
  cases r1;exact bR.ret (R:=RB) h1 s1 rfl
theorem A5(ha:fH K cl E X a mt):jJ K cl E X (.BoolOp .And [a] pos) mt:=λhK=>P6 (ha hK)
theorem W4(ha:fH K cl E X a mt):jJ K cl E X (.BoolOp .Or [a] pos) mt:=λhK=>aaK (ha hK)
theorem jJ.pt(h:jJ K cl E X a mt):fH K cl E X a mt:=λhK=>PW.pt (h hK)
theorem V9{fR:List ah}(ha:fH K cl E X a mt)(hb:jJ K cl E X (.BoolOp .And (b::fR) pos) nt):jJ K cl E X (.BoolOp .And (a::b::fR) pos) (jE mt nt):=by
 intro hK;subst hK;refine PW.imp (aaZ (ha rfl) (hb rfl)) ?_
 rintro σ H Q ⟨p,S,ρ,s,e,h⟩
 refine bW s e h λq H1 a x S1 st s1 e1 r1 h1=>?_;cases r1;cases a with
 |true=>exact⟨q,S1,ρ,s1,e1,h1⟩
 |false=>exact bR.ret (R:=RB) h1 s1 rfl
theorem aaq{fR:List ah}(ha:fH K cl E X a mt)(hb:jJ K cl E X (.BoolOp .Or (b::fR) pos) nt):jJ K cl E X (.BoolOp .Or (a::b::fR) pos) (tN mt nt):=by
 intro hK;subst hK;refine PW.imp (abO (ha rfl) (hb rfl)) ?_
 rintro σ H Q ⟨p,S,ρ,s,e,h⟩
 refine bW s e h λq H1 a x S1 st s1 e1 r1 h1=>?_;cases r1;cases a with
 |true=>exact bR.ret (R:=RB) h1 s1 rfl
 |false=>exact⟨q,S1,ρ,s1,e1,h1⟩
theorem aaV{fR:List ah}(ha:aM K cl E X a ma)(hb:aM K cl E X (.BoolOp .And (b::fR) pos) mb):aM K cl E X (.BoolOp .And (a::b::fR) pos) (qG ma mb):=by
 intro hK;subst hK;refine(aah (ha rfl) (hb rfl)).imp ?_
 rintro σ H Q ⟨p,S,ρ,s,e,h⟩
 refine bW s e h λq H1 a x S1 st s1 e1 r1 h1=>?_;cases a with
 |ref k=>exact h1.elim
 |pv v=>
  cases v with
  |bl b=>
   refine⟨b,Iq r1 rfl,?_⟩;cases b with
   |true=>exact⟨q,S1,ρ,s1,e1,h1⟩
   |false=>exact bR.ret (R:=bX X.K) h1 s1 (by show aI X.K q.c H1 _ _;unfold aI;rfl)
  |_=>exact h1.elim
theorem aat(ha:aM K cl E X a ma):aM K cl E X (.UnaryOp .Not a pos) (cL sY ma):=by
 intro hK;subst hK;refine(aaW (ha rfl)).imp ?_
 rintro σ H Q ⟨p,S,ρ,s,e,h⟩
 refine bW s e h λq H1 a x S1 st s1 e1 r1 h1=>?_;refine uO (r:=λx H Q=>∃c,x=.bl c/\Q (.bl (!c)) H) (f:=sY) (λ{p S H a c x Q} s r e k=>?_) s1 r1 h1;cases a with
 |bl b=>
  cases e;exact⟨b,r.bl,k H _ (dD.refl H) (by unfold aI;rfl)⟩
 |_=>cases e
theorem ab7(hc:fH K cl E X c mt)(ha:aM K cl E X a ma)(hb:aM K cl E X b mb):aM K cl E X (.IfExp c a b pos) (tI mt ma mb):=by
 intro hK;subst hK;refine(Iy (hc rfl) (ha rfl) (hb rfl)).imp ?_
 rintro σ H Q ⟨p,S,ρ,s,e,h⟩
 refine bW s e h λq H1 a x S1 st s1 e1 r1 h1=>?_;cases r1;cases a with
 |true=>exact⟨q,S1,ρ,s1,e1,h1⟩
 |false=>exact⟨q,S1,ρ,s1,e1,h1⟩
theorem O1:eF K cl E X [] aD:=λ_=>(PA.imp kW λσ H Q ⟨p,S,ρ,s,e,h⟩=>bR.ret (R:=fY K) h s .nil)
theorem F7(ha:aM K cl E X e m)(hr:eF K cl E X es ms)(hs:starEach (e::es) X.env=(false,eval e X.env)::starEach es X.env:=by rfl):eF K cl E X (e::es) (aB m ms):=by
 intro hK;subst hK;refine PA.imp (jL (ha rfl) (hr rfl) hs) ?_
 rintro σ H Q ⟨p,S,ρ,s,e,h⟩
 exact bW s e h λq H1 a x S1 st s1 e1 r1 h1=>bW s1 e1 h1 λq2 H2 b y S2 st2 s2 e2 r2 h2=>bR.ret (R:=fY X.K) h2 s2 (.cons (st2.repA r1) r2)
theorem pV{p:Ph}{S:aG}{H:Hp}{vs:AH}{xs:List V}{t:Addr}(s:aT K p S H)(r:aJ K p.c H vs xs)(z:xs.length<=sizeLine)(ht:H t=none):aI K p.c (aK H t (.tup xs)) (.tup vs) (.ref t):=by
 unfold aI;exact⟨t,xs,rfl,cP.of dR,z,(s.same (gF ht)).reps r⟩
theorem kR{p:Ph}{S:aG}{H:Hp}{vs:AH}{xs:List V}{t:Addr}(s:aT K p S H)(r:aJ K p.c H vs xs)(z:xs.length<=sizeLine)(ht:H t=none):aI K p.c (aK H t (.lst xs)) (.lst vs) (.ref t):=by
 unfold aI;refine⟨t,xs,rfl,.inl ⟨dR,λc=>?_⟩,z,(s.same (gF ht)).reps r⟩;obtain⟨o,e,_⟩:=s.mu t c;rw[ht]at e;cases e
theorem hU:sizeLine=16777216:=gv
theorem aaI{x1}(h:eF K cl E X es ms):aM K cl E X (.Tuple es x1 pos) (mN eR ms):=by
 intro hK;subst hK;refine(abe (h rfl)).imp ?_
 rintro σ H Q ⟨p,S,ρ,s,e,h⟩
 refine bW s e h λq H1 as xs S1 st s1 e1 r1 h1=>?_;refine Lh (r:=λxs H Q=>xs.length<=sizeLine/\∀t,H t=none->Q (.ref t) (aK H t (.tup xs))) (f:=eR) (λ{p S H as c xs Q} s r e k=>?_) s1 r1 h1;unfold eR at e;split at e
 .rename_i hl
  cases e;rw[r.length,<-hU]at hl;exact⟨hl,λt ht=>k _ _ (gF ht) (pV s r hl ht)⟩
 .cases e
theorem aak(h:eF K cl E X es ms):aM K cl E X (.List es pos) (mN fS ms):=by
 intro hK;subst hK;refine(vY (h rfl)).imp ?_
 rintro σ H Q ⟨p,S,ρ,s,e,h⟩
 refine bW s e h λq H1 as xs S1 st s1 e1 r1 h1=>?_;refine Lh (r:=λxs H Q=>xs.length<=sizeLine/\∀t,H t=none->Q (.ref t) (aK H t (.lst xs))) (f:=fS) (λ{p S H as c xs Q} s r e k=>?_) s1 r1 h1;unfold fS at e;split at e
 .rename_i hl
  cases e;rw[r.length,<-hU]at hl;exact⟨hl,λt ht=>k _ _ (gF ht) (kR s r hl ht)⟩
 .cases e
end
noncomputable section
open PySem PySem.Spec PyProof.Rows Bn
def dZ:MS:=λρ S=>.nx ρ S
def aL(a b:MS):MS:=λρ S=>match a ρ S with
 |.nx ρ1 S1=>b ρ1 S1
 |r=>r
def dH(m:ME):MS:=λρ S=>bZ.of (m ρ S) λ_ S1=>.nx ρ S1
def bF(m:ME):MS:=λρ S=>bZ.of (m ρ S) λv S1=>.rt v S1
def abG:MS:=λ_ S=>.rt (.pv .non) S
def cV(c:MT)(a b:MS):MS:=λρ S=>bZ.of (c ρ S) λt S1=>if t=true then a ρ S1 else b ρ S1
def bA(i:Nat)(m:ME):MS:=λρ S=>bZ.of (m ρ S) λv S1=>.nx (ρ.set i (some v)) S1
def sZ(i j:Nat)(m:MA):MS:=λρ S=>bZ.of (m ρ S) λvs S1=>match vs with
 |[v,w]=>.nx ((ρ.set i (some v)).set j (some w)) S1
 |_=>.fail
abbrev GM:=PV->bT->Option bT
abbrev nN:=AH->bT->Option bT
def gN(i:Nat):GM:=λv ρ=>some (ρ.set i (some (.pv v)))
def cU:nN:=λvs ρ=>match vs with
 |[]=>some ρ
 |_=>none
def bO(g:GM)(gs:nN):nN:=λvs ρ=>match vs with
 |[]=>none
 |v::r=>match g v ρ with
  |some ρ1=>gs r ρ1
  |none=>none
def gT(n:Nat)(gs:nN):GM:=λv ρ=>match v with
 |.tup vs=>if vs.length=n then gs vs ρ else none
 |_=>none
def lE(g:GM)(m:ME):MS:=λρ S=>bZ.of (m ρ S) λv S1=>match v with
 |.pv v=>match g v ρ with
  |some ρ1=>.nx ρ1 S1
  |none=>.fail
 |_=>.fail
abbrev Gd:=List (Nat×AH)
def gZ(G:Gd)(S:aG):Prop:=∀g∈G,S[g.1]?=some (.lst g.2)
theorem lP(S:aG):gZ [] S:=λ_ h=>nomatch h
abbrev MI:=bT->aG->bK (AH×Gd)
open Classical in
def dA(G:Gd)(g:GM)(mb:MS):AH->bT->aG->bZ
 |[],ρ,S=>if gZ G S then .nx ρ S else .fail
 |x::r,ρ,S=>if gZ G S then(match g x ρ with
  |none=>.fail
  |some ρ1=>match mb ρ1 S with
   |.nx ρ2 S2=>dA G g mb r ρ2 S2
   |.ct ρ2 S2=>dA G g mb r ρ2 S2
   |.bk ρ2 S2=>.nx ρ2 S2
   |.rt v S2=>.rt v S2
   |.exc n S2=>.exc n S2
   |.fail=>.fail)else .fail
def cG(mi:MI)(g:GM)(mb:MS):MS:=λρ S=>bZ.of (mi ρ S) λxs S1=>dA xs.2 g mb xs.1 ρ S1
theorem hV{g:GM}{mb:MS}{ρ:bT}{S:aG}:dA [] g mb [] ρ S=.nx ρ S:=by
 unfold dA;rw[if_pos (lP S)]
theorem fO{g:GM}{mb:MS}{x:PV}{r:AH}{ρ:bT}{S:aG}:dA [] g mb (x::r) ρ S=(match g x ρ with
  |none=>.fail
  |some ρ1=>match mb ρ1 S with
   |.nx ρ2 S2=>dA [] g mb r ρ2 S2
   |.ct ρ2 S2=>dA [] g mb r ρ2 S2
   |.bk ρ2 S2=>.nx ρ2 S2
   |.rt v S2=>.rt v S2
   |.exc n S2=>.exc n S2
   |.fail=>.fail):=by
 rw[dA,if_pos (lP S)]
def dM(c:MT)(mb:MS):Nat->bT->aG->bZ
 |0,_,_=>.fail
 |n+1,ρ,S=>bZ.of (c ρ S) λt S1=>if t=true then(match mb ρ S1 with
   |.nx ρ2 S2=>dM c mb n ρ2 S2
   |.ct ρ2 S2=>dM c mb n ρ2 S2
   |.bk ρ2 S2=>.nx ρ2 S2
   |.rt v S2=>.rt v S2
   |.exc n S2=>.exc n S2
   |.fail=>.fail)else .nx ρ S1
open Classical in
def lQ(c:MT)(mb:MS):MS:=λρ S=>if h:∃n,dM c mb n ρ S≠.fail then dM c mb h.choose ρ S else .fail
theorem bZ.of_ok{α:Type}{r:bK α}{k k':α->aG->bZ}(h:∀a S,k a S≠.fail->k' a S=k a S)(n:bZ.of r k≠.fail):bZ.of r k'=bZ.of r k:=by
 cases r with
 |ok a S=>exact h a S n
 |exc=>rfl
 |fail=>rfl
theorem yS{c:MT}{mb:MS}:∀{n:Nat}{ρ:bT}{S:aG},dM c mb n ρ S≠.fail->dM c mb (n+1) ρ S=dM c mb n ρ S
 |0,_,_,h=>absurd rfl h
 |n+1,ρ,S,h=>by
  unfold dM at h;rw[dM]
  conv=>rhs;rw[dM]
  refine bZ.of_ok (λt S1 h1=>?_) h
  by_cases ht:t=true
  .simp only[if_pos ht]at h1⊢
   cases z:mb ρ S1 with
   |nx ρ2 S2=>rw[z]at h1;exact yS h1
   |ct ρ2 S2=>rw[z]at h1;exact yS h1
   |_=>rfl
  .simp only[if_neg ht]at h1⊢
theorem yV{c:MT}{mb:MS}{n:Nat}{ρ:bT}{S:aG}(h:dM c mb n ρ S≠.fail):∀k,dM c mb (n+k) ρ S=dM c mb n ρ S
 |0=>rfl
 |k+1=>by
  have ih:=yV h k;rw[<-xi,yS (by rw[ih];exact h),ih]
theorem uF{c:MT}{mb:MS}{n:Nat}{ρ:bT}{S:aG}{r:bZ}(e:dM c mb n ρ S=r)(h:r≠.fail):lQ c mb ρ S=r:=by
 have h':∃n,dM c mb n ρ S≠.fail:=⟨n,by rw[e];exact h⟩;unfold lQ;rw[dif_pos h'];have e2:=h'.choose_spec;rcases Nat.le_total n h'.choose with l |l
 .obtain⟨k,q⟩:=j7 l
  rw[q,yV (by rw[e];exact h),e]
 .obtain⟨k,q⟩:=j7 l
  have z:=yV e2 k;rw[<-q,e]at z;exact z.symm
section
variable{K:ag}{cl:Str->Addr}{E:XK}{X:Cx}{a b c e tg:ah}{es:List ah}{m:ME}{mt:MT}{ms:MA}{b1 b2:MS}{st:Stmt}{sts sts':List Stmt}{pos:ai}
theorem dB.set{p:Ph}{H:Hp}{ρ:bT}{σ:St}{v:AV}{x:V}(h:dB K p H ρ σ)(r:bX K p H v x)(i:Nat):dB K p H (ρ.set i (some v)) (σ.set i (some x)):=by
 refine⟨by rw[fg,fg,h.len],λj u e=>?_⟩
 by_cases q:i=j
 .subst q
  by_cases l:i<ρ.length
  .rw[dr l]at e
   cases e;exact⟨x,dr (by rw[<-h.len];exact l),r⟩
  .rw[ko (by rw[fg];omega)]at e
   cases e
 .rw[fe q]at e⊢
  exact h.at_ j u e
theorem Zy:gG K cl E X [] dZ:=λ_=>gB.imp M5 λD σ H ⟨p,S,ρ,s,e,h⟩=>h p H σ s.step s e
theorem dS.nxD{p:Ph}{H:Hp}{ρ:bT}{S:aG}{D:lV}(h:dS K cl p H (.nx ρ S) D E){σ:St}(s:aT K p S H)(e:dB K p H ρ σ):D.nx σ H:=h p H σ s.step s e
theorem Nw(h1:eA K cl E X st b1)(h2:gG K cl E X sts b2):gG K cl E X (st::sts) (aL b1 b2):=by
 intro hK;subst hK;refine gB.imp (G3 (h1 rfl) (h2 rfl)) λD σ H ⟨p,S,ρ,s,e,h⟩=>⟨p,S,ρ,s,e,?_⟩;unfold aL at h;cases z:b1 ρ S with
 |nx ρ1 S1=>
  rw[z]at h;exact λq H' σ' cJ sm ev=>⟨q,S1,ρ1,sm,ev,dS.mono (r:=b2 ρ1 S1) h cJ⟩
 |bk ρ1 S1=>rw[z]at h;exact h
 |ct ρ1 S1=>rw[z]at h;exact h
 |rt v S1=>rw[z]at h;exact h
 |exc n S1=>rw[z]at h;exact h
 |fail=>rw[z]at h;exact h
theorem Uz(h1:eA K cl E X st b1):gG K cl E X [st] b1:=λhK=>Ln (h1 hK)
theorem Xz(he:aM K cl E X e m)(hs:swapsWith e none pos.line X.env=pure false:=by rfl):eA K cl E X (.Expr e pos) (dH m):=by
 intro hK;subst hK;refine PS.imp (J7 (he rfl) hs) ?_
 rintro D σ H ⟨p,S,ρ,s,e,h⟩
 exact iE s e h λq H' a b S' cJ sm ev r k=>dS.nxD k sm ev
theorem Q2(he:aM K cl E X e m):eA K cl E X (.Return (some e) pos) (bF m):=by
 intro hK;subst hK;refine PS.imp (aaT (he rfl)) ?_
 rintro D σ H ⟨p,S,ρ,s,e,h⟩
 exact iE s e h λq H' a b S' cJ sm ev r k=>k q H' b sm.step sm r
theorem aaM(hc:fH K cl E X c mt)(ha:gG K cl E X sts b1)(hb:gG K cl E X sts' b2):eA K cl E X (.If c sts sts' pos) (cV mt b1 b2):=by
 intro hK;subst hK;refine PS.imp (abP (hc rfl) (ha rfl) (hb rfl)) ?_
 rintro D σ H ⟨p,S,ρ,s,e,h⟩
 refine iE s e h λq H' a b S' cJ sm ev r k=>?_;cases r;cases a with
 |true=>exact⟨q,S',ρ,sm,ev,k⟩
 |false=>exact⟨q,S',ρ,sm,ev,k⟩
theorem Km{i:Nat}{x:Str}{pos':ai}(hN:X.N.Nodup)(hi:X.N[i]?=some x)(hx:kK X.env.scope x)(he:aM K cl E X e m)(hs:swapsWith e (some (.Name x pos')) pos.line X.env=pure false:=by rfl)
  (hf:X.fn x=true\/X.env.scope.names.lookup x=some .local:=by first |exact .inl rfl |exact .inr rfl |assumption):eA K cl E X (.Assign [.Name x pos'] e pos) (bA i m):=by
 intro hK;subst hK;refine PS.imp (aaG hN hi hx (he rfl) hs hf) ?_
 rintro D σ H ⟨p,S,ρ,s,e,h⟩
 exact iE s e h λq H' a b S' cJ sm ev r k=>dS.nxD k sm (ev.set r i)
theorem V4{i j:Nat}{x y:Str}{px py pt:ai}{kt k2 pt2}(hc:X.calm=true)(hN:X.N.Nodup)(hi:X.N[i]?=some x)(hj:X.N[j]?=some y)(hij:i≠j)
  (hx:X.env.scope.names.lookup x=some .local)(hy:X.env.scope.names.lookup y=some .local)(ha:eF K cl E X [a,b] ms)
  (hw:swappedStores [.Tuple [.Name x px,.Name y py] kt pt] (.Tuple [a,b] k2 pt2) X.env=pure (some [x,y]))
  (hs:swapsWithSole [.Tuple [.Name x px,.Name y py] kt pt] (.Tuple [a,b] k2 pt2) pos.line X.env=pure false:=by rfl):
  eA K cl E X (.Assign [.Tuple [.Name x px,.Name y py] kt pt] (.Tuple [a,b] k2 pt2) pos) (sZ i j ms):=by
 intro hK;subst hK;refine PS.imp (aaw hc hN hi hj hij hx hy (ha rfl) hw hs) ?_
 rintro D σ H ⟨p,S,ρ,s,e,h⟩
 refine iE s e h λq H' vs xs S' cJ sm ev r k=>?_;cases r with
 |nil=>exact k.elim
 |cons r1 rr=>
  cases rr with
  |nil=>exact k.elim
  |cons r2 rs=>
   cases rs with
   |nil=>exact⟨_,_,rfl,dS.nxD k sm ((ev.set r1 i).set r2 j)⟩
   |cons _ _=>exact k.elim
def gP(K:ag)(g:GM):TG:=λx σ H Q=>∃p S ρ v ρ',aT K p S H/\dB K p H ρ σ/\aI K p.c H v x/\g v ρ=some ρ'/\∀σ',dB K p H ρ' σ'->Q σ' H
def gPs(K:ag)(g:nN):mG:=λxs σ H Q=>∃p S ρ vs ρ',aT K p S H/\dB K p H ρ σ/\aJ K p.c H vs xs/\g vs ρ=some ρ'/\∀σ',dB K p H ρ' σ'->Q σ' H
variable(K X)
def kD(tg:ah)(g:GM):Prop:=X.K=K->PG X tg (gP K g)
def qH(ts:List ah)(g:nN):Prop:=X.K=K->lH X ts (gPs K g)
variable{K X}
theorem PG.imp{tg:ah}{t t':TG}(h:PG X tg t)(i:∀x σ H Q,t' x σ H Q->t x σ H Q):PG X tg t':=λAL s σ H v u Q I r q=>h AL s σ H v u Q I r (i v σ H Q q)
theorem lH.imp{ts:List ah}{t t':mG}(h:lH X ts t)(i:∀x σ H Q,t' x σ H Q->t x σ H Q):lH X ts t':=λAL s σ H v u Q I r q=>h AL s σ H v u Q I r (i v σ H Q q)
theorem C3{i:Nat}{x:Str}(hN:X.N.Nodup)(hi:X.N[i]?=some x)(hx:kK X.env.scope x)(hf:X.fn x=true\/X.env.scope.names.lookup x=some .local:=by first |exact .inl rfl |exact .inr rfl |assumption):kD K X (.Name x pos) (gN i):=
 λ_=>PG.imp (Um hN hi hx hf) λx σ H Q ⟨p,S,ρ,v,ρ',s,ev,r,g,k⟩=>by
  cases g;exact k _ (ev.set (v:=.pv v) r i)
theorem Sz:qH K X [] cU:=λ_=>lH.imp O9 λxs σ H Q ⟨p,S,ρ,vs,ρ',s,ev,r,g,k⟩=>by
 cases vs with
 |nil=>
  cases g;unfold aJ at r;exact⟨r,k _ ev⟩
 |cons _ _=>cases g
theorem Jw{g:GM}{gs:nN}(h1:kD K X e g)(h2:qH K X es gs)(hs:(assignEach (e::es) X.env).map (·.2)=assign e X.env::(assignEach es X.env).map (·.2):=by rfl):qH K X (e::es) (bO g gs):=by
 intro hK;subst hK;refine lH.imp (B0 (h1 rfl) (h2 rfl) hs) ?_
 rintro xs σ H Q ⟨p,S,ρ,vs,ρ',s,ev,r,g1,k⟩
 cases vs with
 |nil=>cases g1
 |cons v vr=>
  unfold aJ at r;obtain⟨x,xr,rfl,r1,r2⟩:=r;unfold bO at g1;cases z:g v ρ with
  |none=>simp only[z]at g1;cases g1
  |some ρ1=>
   simp only[z]at g1;exact⟨x,xr,rfl,p,S,ρ,v,ρ1,s,ev,r1,z,λσ' ev'=>⟨p,S,ρ1,vr,ρ',s,ev',r2,g1,k⟩⟩
theorem K4{k:Nat}{gs:nN}{n:Nat}(hc:X.calm=true)(h:qH K X es gs)(hn:(assignEach es X.env).length=n:=by rfl)(hst:(assignEach es X.env).findIdx? (·.1)=none:=by rfl):kD K X (.Tuple es k pos) (gT n gs):=by
 intro hK;subst hK;refine PG.imp (aaf hc (h rfl) hn hst) ?_
 rintro x σ H Q ⟨p,S,ρ,v,ρ',s,ev,r,g1,k⟩
 cases v with
 |tup vs=>
  unfold aI at r;obtain⟨a,xs,rfl,t,z,r⟩:=r;unfold gT at g1;dsimp only at g1;split at g1
  .rename_i hl
   exact⟨a,xs,rfl,t,r.length.symm.trans hl,p,S,ρ,vs,ρ',s,ev,r,g1,k⟩
  .cases g1
 |_=>cases g1
theorem M4{g:GM}(he:aM K cl E X e m)(hg:kD K X tg g)(hs:swapsWithSole [tg] e pos.line X.env=pure false:=by rfl)(hw:swappedStores [tg] e X.env=pure none:=by rfl)
  (h1:(assignEach [tg] X.env).map (·.2)=[assign tg X.env]:=by rfl):eA K cl E X (.Assign [tg] e pos) (lE g m):=by
 intro hK;subst hK;refine PS.imp (vU (he rfl) (hg rfl) hs hw h1) ?_
 rintro D σ H ⟨p,S,ρ,s,e,h⟩
 refine iE s e h λq H' a b S' cJ sm ev r k=>?_;cases a with
 |ref k'=>exact k.elim
 |pv v=>
  dsimp only at k;cases z:g v ρ with
  |none=>simp only[z]at k;exact k.elim
  |some ρ1=>
   simp only[z]at k;exact⟨q,S',ρ,v,ρ1,sm,ev,r,z,λσ' ev'=>dS.nxD k sm ev'⟩
def eV(K:ag)(p:Ph)(H:Hp)(xs:AH×Gd)(J:It):Prop:=xs.1.length<=sizeLine/\∀q H1 S1,bI p H q H1->aT K q S1 H1->gZ xs.2 S1->
 (∀(i:Nat)(v:PV),xs.1[i]?=some v->J.go i H1/\∀x H2,J.yld i H1 x H2->dD H1 H2/\aI K q.c H2 v x)/\J.stop xs.1.length H1
theorem eV.step{p q:Ph}{H H':Hp}{xs:AH×Gd}{J:It}(h:eV K p H xs J)(s:bI p H q H'):eV K q H' xs J:=⟨h.1,λr H1 S1 t=>h.2 r H1 S1 (s.trans t)⟩
variable(K cl E X)
def PIp(tg iter:ah)(m:MI):Prop:=X.K=K->PI X tg iter (tP K cl E (eV K) m)
variable{K cl E X}
theorem PI.imp{tg iter:ah}{t t':TI}(h:PI X tg iter t)(i:∀σ H Q,t' σ H Q->t σ H Q):PI X tg iter t':=λAL s σ H R I q=>h AL s σ H R I (i σ H R q)
def acj(K:ag)(tl:TE):TI:=λσ H R=>tl σ H λx H1=>∃a,x=.ref a/\(((∃xs,bS K H1 a xs)/\R (yF K a) H1)\/((∃xs,cP K H1 a xs)/\R (De K a) H1))
theorem Wo{l:ah}{tl:TE}(hl:PE X l tl):PI X tg l (acj X.K tl):=by
 intro AL s σ H R I h;refine bC (hl AL s σ H _ I h) ?_
 rintro v s1 ⟨x,H1,I1,r1,q1⟩
 obtain⟨a,e,q⟩:=q1;subst e;cases r1;rcases q with⟨⟨xs,hq⟩,q⟩|⟨⟨xs,hq⟩,q⟩
 .obtain⟨its,rv,p,hz⟩:=I1.list hq
  refine sj p.isList ?_;refine⟨s1.heap.objs.size,[s1.heap.objs.size],_,_,H1,rfl,I1.kept (t':=s1.toks) λb o e=>ao _ e,Dw a _,⟨_,cx _ rfl,rfl,rfl⟩,λb hb=>?_,q⟩;have e:b=s1.heap.objs.size:=by simpa using hb
  subst e;exact I1.fpOk (aj _) (I1.hok.fresh (aj _))
 .obtain⟨its,rv,p,hz⟩:=I1.tuple hq
  refine i6 (show s1.heap.IsTuple a its.toArray from p) ?_;refine⟨s1.heap.objs.size,[s1.heap.objs.size],_,_,H1,rfl,I1.kept (t':=s1.toks) λb o e=>ao _ e,Ov a _,⟨_,cx _ rfl,rfl,rfl⟩,λb hb=>?_,q⟩;have e:b=s1.heap.objs.size:=by simpa using hb
  subst e;exact I1.fpOk (aj _) (I1.hok.fresh (aj _))
def cO:AV->aG->bK (AH×Gd)
 |.pv (.lst xs),S=>.ok (xs,[]) S
 |.pv (.tup xs),S=>.ok (xs,[]) S
 |.ref k,S=>match S[k]? with
  |some (.lst xs)=>.ok (xs,[(k,xs)]) S
  |_=>.fail
 |_,_=>.fail
def bV(m:ME):MI:=λρ S=>(m ρ S).bind cO
theorem aal{p:Ph}{H:Hp}{xs:AH}{a:Addr}{vs:List V}(l:jT K p.c H a vs)(z:vs.length<=sizeLine)(r:aJ K p.c H xs vs):eV K p H (xs,[]) (yF K a):=by
 refine⟨by rw[r.length];exact z,λq H1 S1 st _ _=>⟨λi v e=>?_,?_⟩⟩
 .have l1:=(st.lat l).sq
  obtain⟨x,e1,r1⟩:=(st.reps r).get e;refine⟨⟨vs,x,l1,e1⟩,λy H2 hy=>?_⟩;obtain⟨rfl,hy⟩:=hy;have:=(hy vs l1).symm.trans e1;cases this;exact⟨dD.refl _,r1⟩
 .exact⟨vs,(st.lat l).sq,by rw[r.length];exact aj _⟩
theorem X8{p:Ph}{H:Hp}{xs:AH}{a:Addr}{vs:List V}(l:cP K H a vs)(z:vs.length<=sizeLine)(r:aJ K p.c H xs vs):eV K p H (xs,[]) (De K a):=by
 refine⟨by rw[r.length];exact z,λq H1 S1 st _ _=>⟨λi v e=>?_,?_⟩⟩
 .have l1:=st.tup l
  obtain⟨x,e1,r1⟩:=(st.reps r).get e;refine⟨⟨vs,x,l1,e1⟩,λy H2 hy=>?_⟩;obtain⟨rfl,hy⟩:=hy;have:=(hy vs l1).symm.trans e1;cases this;exact⟨dD.refl _,r1⟩
 .exact⟨vs,st.tup l,by rw[r.length];exact aj _⟩
theorem aad{p:Ph}{H:Hp}{xs:AH}{a:Addr}{k:Nat}{n:xs.length<=sizeLine}(hf:p.f[k]?=some a):eV K p H (xs,[(k,xs)]) (yF K a):=by
 refine⟨n,λq H1 S1 st sm g=>?_⟩;have e0:S1[k]?=some (.lst xs):=g (k,xs) ay;obtain⟨vs,h1,l1,r1⟩:=sm.obj k a _ (st.at_ hf) e0;refine⟨λi v e=>?_,?_⟩
 .obtain⟨x,e1,r2⟩:=r1.get e
  refine⟨⟨vs,x,bS.of h1,e1⟩,λy H2 hy=>?_⟩;obtain⟨rfl,hy⟩:=hy;have:=(hy vs (bS.of h1)).symm.trans e1;cases this;exact⟨dD.refl _,r2⟩
 .exact⟨vs,bS.of h1,by rw[r1.length];exact aj _⟩
theorem K2(h:aM K cl E X e m):PIp K cl E X tg e (bV m):=by
 intro hK;subst hK;refine PI.imp (Wo (h rfl)) ?_
 rintro σ H R ⟨p,S,ρ,s,ev,h⟩
 refine bW s ev h λq H' v x S' cJ sm ev r k=>?_;cases v with
 |ref j=>
  obtain⟨a,e,rfl⟩:=r;unfold cO at k;dsimp only at k;cases z:S'[j]? with
  |none=>rw[z]at k;exact k.elim
  |some o=>
   cases o with
   |lst xs=>
    rw[z]at k;obtain⟨vs,h1,l1,r1⟩:=sm.obj j a _ e z;exact⟨a,rfl,.inl ⟨⟨vs,bS.of h1⟩,bR.ret (R:=eV X.K) k sm (aad (n:=by rw[r1.length];exact l1) e)⟩⟩
   |lol _=>rw[z]at k;exact k.elim
   |dic _ _=>rw[z]at k;exact k.elim
   |dol _ _=>rw[z]at k;exact k.elim
 |pv v=>
  cases v with
  |lst xs=>
   have r:aI X.K q.c H' (.lst xs) x:=r;unfold aI at r;obtain⟨a,vs,rfl,l,z,r⟩:=r;exact⟨a,rfl,.inl ⟨⟨vs,l.sq⟩,bR.ret (R:=eV X.K) k sm (aal l z r)⟩⟩
  |tup xs=>
   have r:aI X.K q.c H' (.tup xs) x:=r;unfold aI at r;obtain⟨a,vs,rfl,l,z,r⟩:=r;exact⟨a,rfl,.inr ⟨⟨vs,l⟩,bR.ret (R:=eV X.K) k sm (X8 l z r)⟩⟩
  |_=>exact k.elim
def cX(lo:Int)(n:Nat):AH:=(az n).map λi=>.int (lo+(i:Nat))
def jP:AK->aG->bK (AH×Gd)
 |[.pv (.int j)],S1=>@ite _ (j<=16777216/\-16777216<=j) (tm _) (.ok (cX 0 j.toNat,[]) S1) .fail
 |_,_=>.fail
def dL(ms:MA):MI:=λρ S=>(ms ρ S).bind jP
def xN:AK->aG->bK (AH×Gd)
 |[.pv (.int i),.pv (.int j)],S1=>@ite _ ((-4611686018427387904<=i/\i<4611686018427387904/\-4611686018427387904<=j/\j<4611686018427387904)/\j-i<=16777216) (tm _) (.ok (cX i (j-i).toNat,[]) S1) .fail
 |_,_=>.fail
def mQ(ms:MA):MI:=λρ S=>(ms ρ S).bind xN
theorem Uo{p:Ph}{H:Hp}{lo:Int}{n:Nat}(h:n<=sizeLine):eV K p H (cX lo n,[]) (tM lo n):=by
 have hl:(cX lo n).length=n:=by unfold cX;rw[am,lq]
 refine⟨by show(cX lo n).length<=_;rw[hl];exact h,λq H1 S1 st _ _=>⟨λi v e=>?_,?_⟩⟩
 .have hi:i<n:=by
   have:=(bo.mp (show(cX lo n)[i]?=some v from e)).1;omega
  refine⟨hi,λx H2 hy=>?_⟩;obtain⟨rfl,rfl⟩:=hy;have e:(cX lo n)[i]?=some v:=e;unfold cX at e;rw[av,List.getElem?_range hi]at e;cases e;refine⟨dD.refl _,?_⟩;unfold aI;rfl
 .show n<=(cX lo n).length
  rw[hl];exact aj n
theorem Bv{p:ai}(hg:Gl X "range")(hm:X.mg "range"=none)(ha:eF K cl E X [a] ms)(hs:starEach [a] X.env=[(false,eval a X.env)]:=by rfl):PIp K cl E X tg (.Call (.Name "range" p) [a] [] pos) (dL ms):=by
 intro hK;subst hK;refine PI.imp (Ay hg hm (ha rfl) hs) ?_
 rintro σ H R ⟨p,S,ρ,s,ev,h⟩
 refine bW s ev h λq H' vs xs S' cJ sm ev r k=>?_;unfold jP at k;split at k
 .rename_i j
  cases r with
  |cons r1 r2=>
   cases r2;rename_i x;have e:x=.int j:=by
    have r1:aI X.K q.c H' (.int j) x:=r1;unfold aI at r1;exact r1
   subst e;split at k
   .rename_i hj
    have hz:=hU;exact⟨j,rfl,by omega,by omega,bR.ret (R:=eV X.K) k sm (Uo (by omega))⟩
   .exact k.elim
 .exact k.elim
theorem Cv{p:ai}(hg:Gl X "range")(hm:X.mg "range"=none)(ha:eF K cl E X [a,b] ms)(hs:starEach [a,b] X.env=[(false,eval a X.env),(false,eval b X.env)]:=by rfl)(hs2:starEach [b] X.env=[(false,eval b X.env)]:=by rfl):PIp K cl E X tg (.Call (.Name "range" p) [a,b] [] pos) (mQ ms):=by
 intro hK;subst hK;refine PI.imp (Kx hg hm (ha rfl) hs hs2) ?_
 rintro σ H R ⟨p,S,ρ,s,ev,h⟩
 refine bW s ev h λq H' vs xs S' cJ sm ev r k=>?_;unfold xN at k;split at k
 .rename_i i j
  cases r with
  |cons r1 r2=>
   cases r2 with
   |cons r2 r3=>
    cases r3;rename_i x y;have e:x=.int i:=by
     have r1:aI X.K q.c H' (.int i) x:=r1;unfold aI at r1;exact r1
    have e2:y=.int j:=by
     have r1:aI X.K q.c H' (.int j) y:=r2;unfold aI at r1;exact r1
    subst e e2;split at k
    .rename_i hj
     have hz:=hU;exact⟨i,j,rfl,by omega,bR.ret (R:=eV X.K) k sm (Uo (by omega))⟩
    .exact k.elim
 .exact k.elim
theorem J3{mi:MI}{g:GM}(hp:oq (model X.prog X.w) X.A X.env X.xe)(hc:X.calm=true)(hi:PIp K cl E X tg e mi)(hg:kD K X tg g)(hb:gG K cl E X sts b1)
  (hs:∀x,foldedSetIterable e X.env x=pure x:=by intro _;rfl):eA K cl E X (.For tg e sts [] pos) (cG mi g b1):=by
 intro hK;subst hK;refine PS.imp (Ap hp hc (hi rfl) (hg rfl) (hb rfl) hs) ?_
 rintro D σ H ⟨p,S,ρ,s,ev,h⟩
 refine iE s ev h λq H' xg J S' cJ sm ev it k=>?_;obtain⟨xs,G⟩:=xg;refine⟨λi n σ H=>n=xs.length-i/\i<=xs.length/\∃p S ρ,aT X.K p S H/\dB X.K p H ρ σ/\eV X.K p H (xs,G) J/\dS X.K cl p H (dA G g b1 (xs.drop i) ρ S) D E,⟨xs.length,by simp,cy _,q,S',ρ,sm,ev,it,by simpa using k⟩,?_⟩
 rintro i n σ1 H1 ⟨rfl,hi,p1,S1,ρ1,sm1,ev1,it1,k1⟩
 by_cases hlt:i<xs.length
 .have hx:xs[i]?=some xs[i]:=au hlt
  rw[tq hlt]at k1;unfold dA at k1;split at k1
  .rename_i gk
   obtain⟨g1,y1⟩:=(it1.2 p1 H1 S1 sm1.step sm1 gk).1 i _ hx;cases z:g xs[i] ρ1 with
   |none=>simp only[z]at k1;exact k1.elim
   |some ρ2=>
    simp only[z]at k1;refine .inr ⟨g1,λσ' H'=>i+1<=xs.length/\∃p S ρ,aT X.K p S H'/\dB X.K p H' ρ σ'/\eV X.K p H' (xs,G) J/\dS X.K cl p H' (dA G g b1 (xs.drop (i+1)) ρ S) D E,λσ' H' hN=>⟨xs.length-(i+1),by omega,rfl,hN⟩,λx H2 hy=>?_⟩;obtain⟨same,rx⟩:=y1 x H2 hy;have st2:=sm1.same same;have sm2:=sm1.ofSame same;refine⟨p1,S1,ρ1,xs[i],ρ2,sm2,st2.repE ev1,rx,z,λσ3 ev3=>⟨p1,S1,ρ2,sm2,ev3,?_⟩⟩;have it2:=it1.step st2;cases y:b1 ρ2 S1 with
    |nx ρ4 S4=>
     rw[y]at k1;exact λq5 H5 σ5 st5 sm5 ev5=>⟨hlt,q5,S4,ρ4,sm5,ev5,it2.step st5,dS.mono (r:=dA G g b1 (xs.drop (i+1)) ρ4 S4) k1 (st2.trans st5)⟩
    |ct ρ4 S4=>
     rw[y]at k1;exact λq5 H5 σ5 st5 sm5 ev5=>⟨hlt,q5,S4,ρ4,sm5,ev5,it2.step st5,dS.mono (r:=dA G g b1 (xs.drop (i+1)) ρ4 S4) k1 (st2.trans st5)⟩
    |bk ρ4 S4=>rw[y]at k1;exact dS.mono (r:=.nx ρ4 S4) k1 st2
    |rt v S4=>rw[y]at k1;exact dS.mono (r:=.rt v S4) k1 st2
    |exc v S4=>rw[y]at k1;exact dS.mono (r:=.exc v S4) k1 st2
    |fail=>rw[y]at k1;exact k1.elim
  .exact k1.elim
 .have e:i=xs.length:=by omega
  subst e;rw[tw]at k1;unfold dA at k1;split at k1
  .rename_i gk
   exact .inl ⟨(it1.2 p1 H1 S1 sm1.step sm1 gk).2,dS.nxD k1 sm1 ev1⟩
  .exact k1.elim
theorem Ox(hp:oq (model X.prog X.w) X.A X.env X.xe)(hc:fH K cl E X c mt)(hb:gG K cl E X sts b1):eA K cl E X (.While c sts [] pos) (lQ mt b1):=by
 intro hK;subst hK;refine PS.imp (Oy hp (hc rfl) (hb rfl)) ?_
 rintro D σ H ⟨p,S,ρ,s,ev,h⟩
 unfold lQ at h;split at h
 .rename_i hh
  refine⟨λn σ H=>∃p S ρ,aT X.K p S H/\dB X.K p H ρ σ/\dS X.K cl p H (dM mt b1 n ρ S) D E,⟨_,p,S,ρ,s,ev,h⟩,?_⟩
  rintro n σ1 H1 ⟨p1,S1,ρ1,sm1,ev1,k1⟩
  cases n with
  |zero=>exact k1.elim
  |succ n=>
   unfold dM at k1;refine iE sm1 ev1 k1 λq H2 t t' S2 cJ sm2 ev2 r k2=>?_;cases r;cases t with
   |true=>
    rw[if_pos rfl]at k2⊢;refine⟨λσ' H'=>∃p S ρ,aT X.K p S H'/\dB X.K p H' ρ σ'/\dS X.K cl p H' (dM mt b1 n ρ S) D E,λσ' H' hN=>⟨n,xj n,hN⟩,q,S2,ρ1,sm2,ev2,?_⟩;cases y:b1 ρ1 S2 with
    |nx ρ4 S4=>
     rw[y]at k2;exact λq5 H5 σ5 st5 sm5 ev5=>⟨q5,S4,ρ4,sm5,ev5,dS.mono (r:=dM mt b1 n ρ4 S4) k2 st5⟩
    |ct ρ4 S4=>
     rw[y]at k2;exact λq5 H5 σ5 st5 sm5 ev5=>⟨q5,S4,ρ4,sm5,ev5,dS.mono (r:=dM mt b1 n ρ4 S4) k2 st5⟩
    |bk ρ4 S4=>rw[y]at k2;exact k2
    |rt v S4=>rw[y]at k2;exact k2
    |exc v S4=>rw[y]at k2;exact k2
    |fail=>rw[y]at k2;exact k2.elim
   |false=>
    rw[if_neg ir]at k2⊢;exact dS.nxD k2 sm2 ev2
 .exact h.elim
end
end
def iW(n:Nat)(xs:AK):bT:=xs.map some++qu (n-xs.length) none
def kY(n:Nat):AV->aG->bK AV
 |.pv v,S=>.ok (.pv v) (S.take n)
 |.ref k,S=>if k<n then .ok (.ref k) (S.take n)else match S[k]? with
  |some (.lst xs)=>.ok (.ref n) (S.take n++[.lst xs])
  |some (.dic b kvs)=>.ok (.ref n) (S.take n++[.dic b kvs])
  |_=>.fail
def frz(n:Nat):bK AV->bK AV
 |.ok (.ref k) S=>if k<n then .ok (.ref k) S else match S[k]? with
  |some (.lst xs)=>.ok (.pv (.lst xs)) (S.take n)
  |_=>.fail
 |r=>r
def mY(n:Nat):bZ->bK AV
 |.rt v S=>kY n v S
 |.nx _ S=>.ok (.pv .non) (S.take n)
 |.exc e S=>.exc e (S.take n)
 |_=>.fail
def aV(np n:Nat)(b:MS)(xs:AK)(S:aG):bK AV:=if xs.length=np then mY S.length (b (iW n xs) S)else .fail
def iZ{α:Type}:bK α->bK α
 |.ok a S=>.ok a S
 |_=>.fail
abbrev FM:=AK->aG->bK AV
def oQ(f:FM)(ds:AH)(ms:MA):ME:=λρ S=>(ms ρ S).bind λxs S1=>frz S1.length (f (xs++ds.map .pv) S1)
def aU(f:FM)(ds:AH)(ms:MA):ME:=λρ S=>(ms ρ S).bind λxs S1=>frz S1.length (iZ (f (xs++ds.map .pv) S1))
def pW(f:FM)(ds:AH)(ms:MA):ME:=λρ S=>(ms ρ S).bind λxs S1=>iZ (f (xs++ds.map .pv) S1)
def mF(K:ag)(cl:Str->Addr)(f:FM):Sp:=λvs H Q E=>∃p S xs,aT K p S H/\fY K p H xs vs/\bR K cl (bX K) p H (f xs S) Q E
def jD(K:ag)(cl:Str->Addr)(f:FM):Sp:=λvs H Q _=>mF K cl f vs H Q E0
section
variable{K:ag}{cl:Str->Addr}{p q:Ph}{H H':Hp}{S S':aG}
theorem Zg{c c':Addr->Prop}(h:∀a,c a->c' a){a:Addr}{vs:List V}(l:jT K c' H a vs):jT K c H a vs:=by
 rcases l with⟨l,n⟩|l |l
 .exact .inl ⟨l,λz=>n (h a z)⟩
 .exact .inr (.inl l)
 .exact .inr (.inr l)
theorem mL{c c':Addr->Prop}(h:∀a,c a->c' a){ps:AH}{vs:List V}(r:aJ K c' H ps vs):aJ K c H ps vs:=aJ.mono (λ_ _ t=>t) (λ_ _ l=>Zg h l) ps vs r
theorem Eg{c c':Addr->Prop}(h:∀a,c a->c' a){v:PV}{x:V}(r:aI K c' H v x):aI K c H v x:=aI.mono (λ_ _ t=>t) (λ_ _ l=>Zg h l) v x r
theorem Lu{f g:List Addr}(h:f <+:g):g.take f.length=f:=by
 obtain⟨t,e⟩:=h;rw[<-e,List.take_left]
theorem nodup_idx{α:Type}:∀{l:List α}{i j:Nat}{a:α},l.Nodup->l[i]?=some a->l[j]?=some a->i=j
 |[],i,j,a,_,e,_=>by simp at e
 |b::l,0,0,a,_,_,_=>rfl
 |b::l,0,j+1,a,n,e,f=>by
  simp at e f;subst e;exact absurd (cu f) (jn.mp n).1
 |b::l,i+1,0,a,n,e,f=>by
  simp at e f;subst f;exact absurd (cu e) (jn.mp n).1
 |b::l,i+1,j+1,a,n,e,f=>by
  exact congrArg (·+1) (nodup_idx (l:=l) (a:=a) (jn.mp n).2 (by simpa using e) (by simpa using f))
theorem aT.cutX(D:Addr->Prop)(s:aT K p S H)(st:bI p H q H')(s':aT K q S' H')(hD:∀b,D b->H b=none)(hq:(∀b,D b->b∈q.f)\/∀k o,S'[k]?=some o->k<S.length->∃xs,o=.lst xs):
  let r:Ph:=⟨p.f,λb=>q.w b/\¬D b,λb=>q.c b/\¬D b⟩
  bI p H r H'/\aT K r (S'.take S.length) H':=by
 intro r;have nD:∀a,p.c a->¬D a:=λa c d=>by
  obtain⟨o,ho,_⟩:=s.mu a c;rw[hD a d]at ho;cases ho
 have le:S.length<=S'.length:=by
  have:=st.pre.length_le;rw[<-s.len,<-s'.len];exact this
 refine⟨⟨s.wc,s.mu,jg,λa h=>⟨st.mw a h,nD a (s.wc a h)⟩,λa h=>⟨st.mono a h,nD a h⟩,λ_ h g=>absurd h g,λa h=>st.nw a h.1,λa h=>st.nc a h.1,st.keep⟩,s.nd,by rw[s.len,jt];omega,λa h=>⟨st.mw a (s.sub a h),nD a (s.wc a (s.sub a h))⟩,λa h=>⟨s'.wc a h.1,h.2⟩,λa h=>s'.mu a h.1,λk a o e1 e2=>?_⟩;have hk:k<S.length:=by
  have:=(bo.mp e1).1;rw[<-s.len];exact this
 have e2':S'[k]?=some o:=by
  rw[tx,if_pos hk]at e2;exact e2
 have z:=s'.obj k a o (st.at_ e1) e2';have aZ:∀xs vs,aJ K q.c H' xs vs->aJ K r.c H' xs vs:=λxs vs=>mL (λb h=>h.1);have sub:∀b,b∉q.f->b∉p.f:=λb n h=>n (st.pre.subset h);rcases hq with hq |hq
 .exact z.mono (λ_ e=>e) (λb w f=>⟨⟨⟨w,λd=>f (hq b d)⟩,sub b f⟩,λ_ e=>e⟩) aZ
 .obtain⟨xs,rfl⟩:=hq k o e2' hk
  obtain⟨vs,e,l,g⟩:=z;exact⟨vs,e,l,aZ xs vs g⟩
theorem aT.cut(s:aT K p S H)(st:bI p H q H')(s':aT K q S' H'):bI p H ⟨p.f,λb=>q.w b/\¬False,λb=>q.c b/\¬False⟩ H'/\aT K ⟨p.f,λb=>q.w b/\¬False,λb=>q.c b/\¬False⟩ (S'.take S.length) H':=
 s.cutX (λ_=>False) st s' (λ_ h=>h.elim) (.inl λ_ h=>h.elim)
theorem zP(s:aT K p S H)(st:bI p H q H')(sm:aT K q S' H'){k:Nat}{a:Addr}(e:q.f[k]?=some a)(hk:¬k<S.length):a∉p.f/\H a=none/\¬p.c a:=by
 have na:a∉p.f:=λhm=>by
  obtain⟨j,hj,ej⟩:=qd hm;have e2:q.f[j]?=some a:=st.at_ (by rw[au hj,ej]);have hjk:j=k:=nodup_idx sm.nd e2 e;rw[s.len]at hj;omega
 have hn:=st.nf a (cu e) na;refine⟨na,hn,λc=>?_⟩;obtain⟨o,ho,_⟩:=s.mu a c;rw[hn]at ho;cases ho
theorem Il{r:bK AV}{Q:VK}{E:XK}(s:aT K p S H)(h:bR K cl (bX K) p H (frz S.length r) Q E):bR K cl (bX K) p H r Q E:=by
 cases r with
 |exc n S1=>exact h
 |fail=>exact h
 |ok v S1=>
  cases v with
  |pv v=>exact h
  |ref k=>
   have h:bR K cl (bX K) p H (if k<S.length then .ok (.ref k) S1 else match S1[k]? with
    |some (.lst xs)=>.ok (.pv (.lst xs)) (S1.take S.length)
    |_=>.fail) Q E:=h
   split at h
   .exact h
   .rename_i hk
    cases z:S1[k]? with
    |none=>rw[z]at h;exact h.elim
    |some o=>
     cases o with
     |lol _=>rw[z]at h;exact h.elim
     |dic _ _=>rw[z]at h;exact h.elim
     |dol _ _=>rw[z]at h;exact h.elim
     |lst xs=>
      rw[z]at h;intro q H' x st sm r;obtain⟨a,e,rfl⟩:=r;obtain⟨na,hn,nc⟩:=zP s st sm e hk;obtain⟨st1,sm1⟩:=s.cutX (λb=>b=a) st sm (λb d=>d▸hn) (.inl λb d=>d▸cu e);obtain⟨vs,h1,l,r⟩:=sm.obj k a _ e z;refine h _ H' (.ref a) st1 sm1 ?_;show aI K (λb=>q.c b/\¬b=a) H' (.lst xs) (.ref a);unfold aI;exact⟨a,vs,rfl,.inl ⟨h1,λd=>d.2 rfl⟩,l,mL (λb h=>h.1) r⟩
theorem Dh{r:bZ}{Q:VK}{E:XK}(s:aT K p S H)(h:bR K cl (bX K) p H (mY S.length r) Q E):dS K cl p H r {nx:=λ_ H'=>Q .non H',rt:=Q} E:=by
 cases r with
 |nx ρ S1=>
  intro q H' σ st sm ev;obtain⟨st1,sm1⟩:=s.cut st sm;exact h _ H' .non st1 sm1 (by show aI K (λb=>q.c b/\¬False) H' .non .non;unfold aI;rfl)
 |exc n S1=>
  intro q H' st sm;obtain⟨st1,sm1⟩:=s.cut st sm;exact h _ H' st1 sm1
 |rt v S1=>
  intro q H' x st sm r;obtain⟨st1,sm1⟩:=s.cut st sm;cases v with
  |pv v=>exact h _ H' x st1 sm1 (show aI K (λb=>q.c b/\¬False) H' v x from Eg (λb h=>h.1) r)
  |ref k=>
   obtain⟨a,e,rfl⟩:=r;have h:bR K cl (bX K) p H (if k<S.length then .ok (.ref k) (S1.take S.length)else match S1[k]? with
    |some (.lst xs)=>.ok (.ref S.length) (S1.take S.length++[.lst xs])
    |some (.dic b kvs)=>.ok (.ref S.length) (S1.take S.length++[.dic b kvs])
    |_=>.fail) Q E:=h
   split at h
   .rename_i hk
    refine h _ H' (.ref a) st1 sm1 ⟨a,?_,rfl⟩;show p.f[k]?=some a;have hf:=Lu st.pre;rw[<-hf,tx,if_pos (by rw[s.len];exact hk)];exact e
   .rename_i hk
    have fin:∀o,S1[k]?=some o->bR K cl (bX K) p H (.ok (.ref S.length) (S1.take S.length++[o])) Q E->Q (.ref a) H':=λo z h=>by
     obtain⟨na,hn,nc⟩:=zP s st sm e hk;have l1:(S1.take S.length).length=S.length:=by rw[<-sm1.len,<-s.len]
     have ma:a∈q.f:=cu e;refine h ⟨p.f++[a],q.w,q.c⟩ H' (.ref a) ⟨s.wc,s.mu,⟨[a],rfl⟩,st.mw,st.mono,λb hb n=>?_,st.nw,st.nc,st.keep⟩ ⟨?_,?_,λb hb=>?_,sm.wc,sm.mu,λj b o e1 e2=>?_⟩ ⟨a,?_,rfl⟩
     .rcases cj.mp hb with z |z
      .exact absurd z n
      .have:b=a:=by simpa using z
       rw[this];exact hn
     .show(p.f++[a]).Nodup
      rw[mf];refine⟨s.nd,by simp,λb hb c hc z=>?_⟩;have:c=a:=by simpa using hc
      exact na (this▸z▸hb)
     .show(p.f++[a]).length=_
      rw[bi,bi,l1,s.len];rfl
     .rcases cj.mp hb with z |z
      .exact st.mw b (s.sub b z)
      .have:b=a:=by simpa using z
       rw[this];exact sm.sub a ma
     .by_cases hj:j<S.length
      .have e1':p.f[j]?=some b:=by
        have e1:(p.f++[a])[j]?=some b:=e1
        rwa[ff (by rw[s.len];exact hj)]at e1
       rw[ff (by rw[l1];exact hj),tx,if_pos hj]at e2;refine(sm.obj j b o (st.at_ e1') e2).mono (λ_ e=>e) (λc w f=>⟨⟨w,λm=>?_⟩,λ_ e=>e⟩) λ_ _ r=>r;rcases cj.mp m with z |z
       .exact f (st.pre.subset z)
       .have:c=a:=by simpa using z
        exact f (this▸ma)
      .have hj':j=S.length:=by
        have:=(bo.mp e2).1;rw[bi,l1]at this;simp at this;omega
       subst hj';rw[dg (by rw[l1];exact aj _),l1,fx]at e2;have e1:(p.f++[a])[S.length]?=some b:=e1;rw[<-s.len,dg (aj _),fx]at e1;cases e1;cases e2;refine(sm.obj k a _ e z).mono (λ_ e=>e) (λc w f=>⟨⟨w,λm=>?_⟩,λ_ e=>e⟩) λ_ _ r=>r;rcases cj.mp m with z |z
       .exact f (st.pre.subset z)
       .have:c=a:=by simpa using z
        exact f (this▸ma)
     .show(p.f++[a])[S.length]?=some a
      rw[<-s.len,dg (aj _),fx];rfl
    split at h
    .rename_i z
     exact fin _ z h
    .rename_i z
     exact fin _ z h
    .exact h.elim
 |bk ρ S1=>exact h.elim
 |ct ρ S1=>exact h.elim
 |fail=>exact h.elim
theorem zI{N:List Str}{xs:AK}{vs:List V}(r:fY K p H xs vs):dB K p H (iW N.length xs) (L2.start N vs):=by
 have go:∀{xs:AK}{vs:List V},fY K p H xs vs->xs.length=vs.length:=λ{xs vs} r=>by
  induction r with
  |nil=>rfl
  |cons _ _ ih=>rw[cg,cg,ih]
 have get:∀{xs:AK}{vs:List V},fY K p H xs vs->∀(i:Nat)(v:AV),xs[i]?=some v->∃x,vs[i]?=some x/\bX K p H v x:=λ{xs vs} r=>by
  induction r with
  |nil=>intro i v e;simp at e
  |cons h _ ih=>
   intro i v e;cases i with
   |zero=>
    simp at e;subst e;exact⟨_,rfl,h⟩
   |succ i=>simpa using ih i v (by simpa using e)
 have hl:=go r;refine⟨by unfold iW L2.start;simp[hl],λi v e=>?_⟩;unfold iW at e;unfold L2.start
 by_cases hi:i<xs.length
 .rw[ff (by simpa using hi),av]at e
  cases z:xs[i]? with
  |none=>rw[z]at e;cases e
  |some u=>
   rw[z]at e;cases e;obtain⟨x,e1,e2⟩:=get r i v z;refine⟨x,?_,e2⟩;rw[ff (by rw[am,<-hl];exact hi),av,e1];rfl
 .rw[dg (by rw[am];omega),zj]at e
  split at e
  .cases e
  .cases e
end
section
variable{P:Program}{w:al}{K:ag}{mg:Str->AE}{base:Heap}{cl:Str->Addr}
theorem Xi{K:ag}{p:Ph}{H:Hp}{xs:AK}{vs:List V}(h:fY K p H xs vs):xs.length=vs.length:=by
 induction h with
 |nil=>rfl
 |cons _ _ ih=>rw[cg,cg,ih]
theorem Yp{np n:Nat}{b:MS}{vs:List V}{H:Hp}{Q:VK}{E:XK}(h:mF K cl (aV np n b) vs H Q E):vs.length=np:=by
 obtain⟨p,S,xs,sm,ra,h⟩:=h;unfold aV at h;split at h
 .rename_i e
  rw[<-Xi ra,e]
 .exact h.elim
theorem Fs{x qual:Str}{st:Stmt}{f:Addr}{fd:cf}{N ps:List Str}{k np n:Nat}{b:MS}(F:jR K x qual st f fd)(S:jM N ps (cR st))(hnp:ps.length=np)(hn:N.length=n)
  (hb:∀(cdv:Value)(A:aq)(outer:List bh)(s:aa)(H:Hp)(E:XK),dP k (A.deeper (envOfC qual (cR st) s.heap.objs.size f cdv))->gG K cl E0 (fK eZ P w K mg base N qual (cR st) f cdv A outer s H E).nox (eP st) b):
  eG P w K mg base eZ (k+1) f fd ps (jD K cl (aV np n b)):=by
 subst hnp hn;refine F.ok S (λvs H Q E h=>Yp h) λcdv A outer s H vs Q E hr h=>⟨_,hb cdv A outer s H E hr rfl,?_⟩;obtain⟨p,S,xs,sm,ra,h⟩:=h;unfold aV at h;split at h
 .exact⟨p,S,_,sm,zI ra,Dh sm h⟩
 .exact h.elim
theorem acL{x qual:Str}{st:Stmt}{f:Addr}{fd:cf}{ds:Array Value}{N ps:List Str}{k np n:Nat}{b:MS}(F:nK K x qual st f fd ds)(S:jM N ps (cR st))(hnp:ps.length=np)(hn:N.length=n)
  (hb:∀(cdv:Value)(A:aq)(outer:List bh)(s:aa)(H:Hp)(E:XK),dP k (A.deeper (envOfC qual (cR st) s.heap.objs.size f cdv))->gG K cl E (fK (jH P w) P w K mg base N qual (cR st) f cdv A outer s H E) (eP st) b):
  eG P w K mg base (jH P w) (k+1) f fd ps (mF K cl (aV np n b)):=by
 subst hnp hn;refine F.okX S (λvs H Q E h=>Yp h) λcdv A outer s H vs Q E hr h=>⟨_,hb cdv A outer s H E hr rfl,?_⟩;obtain⟨p,S,xs,sm,ra,h⟩:=h;unfold aV at h;split at h
 .exact⟨p,S,_,sm,zI ra,Dh sm h⟩
 .exact h.elim
theorem x0{f:Addr}{fd:cf}{ps:List Str}{k:Nat}{g:FM}(F:eG P w K mg base (jH P w) k f fd ps (mF K cl g)):eG P w K mg base eZ k f fd ps (jD K cl g):=
 ⟨λvs H Q E h=>F.len vs H Q E0 h,λA outer s H args us vs Q E hr e0 hb hv h=>ox (F.run A outer s H args us vs Q E0 hr e0 hb hv h) λr s' hq=>by
  cases r with
  |error e=>
   obtain⟨_,_,_,_,_,_,_,_,_,_,_,_,z⟩:=hq;exact z
  |ok fl=>
   cases fl with
   |ret u=>exact hq
   |next=>exact hq
   |brk=>exact hq
   |cont=>exact hq⟩
end
section
variable{K:ag}{cl:Str->Addr}{E:XK}{X:Cx}{e:ah}{es:List ah}{ms:MA}{pos p:ai}{k n:Nat}{f:Addr}{fd:cf}{ps:List Str}{g:FM}{x:Str}{dvs:List V}{ds:AD}{dv:AH}
theorem yM{p:Ph}{H:Hp}{xs ys:AK}{vs ws:List V}(h:fY K p H xs vs)(g:fY K p H ys ws):fY K p H (xs++ys) (vs++ws):=by
 induction h with
 |nil=>exact g
 |cons h _ ih=>exact .cons h ih
def Dv(dv:AH)(dvs:List V):Prop:=∀K p H,fY K p H (dv.map .pv) dvs
theorem Dv.nil:Dv [] []:=λ_ _ _=>.nil
theorem L4(F:eG X.prog X.w X.K X.mg X.base eZ k f fd ps (jD K cl g))(hr:dP k X.A)(hg:Gl X x)(hm:X.mg x=some (.ref f))(hk:fz X.K (.ref f)=true)(hb:iX X.K fd ps ds)(hd:aX dvs ds)(hv:Dv dv dvs)
  (ha:eF K cl E0 X (e::es) ms)(hdb:(x==("__debug__":Str))=false:=by decide)(he:starEach (e::es) X.env=(false,eval e X.env)::starEach es X.env:=by rfl)(hpl:(backTo pos (starEach es X.env)).any (·.1)=false:=by rfl):
  aM K cl E0 X (.Call (.Name x p) (e::es) [] pos) (oQ g dv ms):=by
 intro hK;refine PE.imp (rR F hr hg hm hk hb hd sM (ha hK) hdb he hpl) ?_
 rintro σ H Q ⟨p,S,ρ,s,ev,h⟩
 exact bW s ev h λq H' as xs S' cJ sm ev r k=>⟨q,S',_,sm,yM r (hv K q H'),Il sm k⟩
theorem Sg{α β:Type}{R:Ph->Hp->α->β->Prop}{p:Ph}{H:Hp}{r:bK α}{Q:β->Hp->Prop}(h:bR K cl R p H (iZ r) Q E):bR K cl R p H r Q E0:=by
 cases r with
 |ok a S=>exact h
 |exc n S=>exact h.elim
 |fail=>exact h.elim
theorem F4(F:eG X.prog X.w X.K X.mg X.base eZ k f fd ps (jD K cl g))(hr:dP k X.A)(hg:Gl X x)(hm:X.mg x=some (.ref f))(hk:fz X.K (.ref f)=true)(hb:iX X.K fd ps ds)(hd:aX dvs ds)(hv:Dv dv dvs)
  (ha:eF K cl E X (e::es) ms)(hdb:(x==("__debug__":Str))=false:=by decide)(he:starEach (e::es) X.env=(false,eval e X.env)::starEach es X.env:=by rfl)(hpl:(backTo pos (starEach es X.env)).any (·.1)=false:=by rfl):
  aM K cl E X (.Call (.Name x p) (e::es) [] pos) (aU g dv ms):=by
 intro hK;refine PE.imp (rR F hr hg hm hk hb hd sM (ha hK) hdb he hpl) ?_
 rintro σ H Q ⟨p,S,ρ,s,ev,h⟩
 exact bW s ev h λq H' as xs S' cJ sm ev r k=>⟨q,S',_,sm,yM r (hv K q H'),Sg (Il sm k)⟩
theorem B5(F:eG X.prog X.w X.K X.mg X.base eZ k f fd ps (jD K cl g))(hr:dP k X.A)(hg:Gl X x)(hm:X.mg x=some (.ref f))(hk:fz X.K (.ref f)=true)(hb:iX X.K fd ps ds)(hd:aX dvs ds)(hv:Dv dv dvs)
  (ha:eF K cl E X (e::es) ms)(hdb:(x==("__debug__":Str))=false:=by decide)(he:starEach (e::es) X.env=(false,eval e X.env)::starEach es X.env:=by rfl)(hpl:(backTo pos (starEach es X.env)).any (·.1)=false:=by rfl):
  aM K cl E X (.Call (.Name x p) (e::es) [] pos) (pW g dv ms):=by
 intro hK;refine PE.imp (rR F hr hg hm hk hb hd sM (ha hK) hdb he hpl) ?_
 rintro σ H Q ⟨p,S,ρ,s,ev,h⟩
 exact bW s ev h λq H' as xs S' cJ sm ev r k=>⟨q,S',_,sm,yM r (hv K q H'),Sg k⟩
def Bc(n:Str):MS:=λ_ S=>.exc n S
theorem Iw{P:Program}{w:al}{mg:Str->AE}{base:Heap}{N:List Str}{qual:Str}{scope:Scope}{f:Addr}{cd:Value}{A:aq}{outer:List bh}{AM:aa}{AN:Hp}
  {txt:Str}{j:Nat}{np p1 cpos:ai}(hg:Gl (fK (jH P w) P w K mg base N qual scope f cd A outer AM AN E) x)(hm:mg x=some (.ref (cl x)))(hx:lm K (cl x) rW "ValueError.__new__"=true)
  (hd:(x==("__debug__":Str))=false:=by decide):
  eA K cl E (fK (jH P w) P w K mg base N qual scope f cd A outer AM AN E) (.Raise (some (.Call (.Name x np) [.Constant (.str txt) j p1] [] cpos)) none pos) (Bc x):=
 λ_=>PS.imp (Lz hg hm hx hd) λD σ H ⟨p,S,ρ,s,ev,h⟩=>h p H s.step s
end
def cT(own:List Str)(cap:List (Nat×Str))(ρ:bT):bT:=own.map (λ_=>none)++cap.map λp=>(ρ[p.1]?).join
open Classical in
noncomputable def cM(G:Gd)(g:GM)(me:ME):AH->bT->aG->bK AH
 |[],_,S=>if gZ G S then .ok [] S else .fail
 |x::r,ρ,S=>if gZ G S then(match g x ρ with
  |none=>.fail
  |some ρ1=>match me ρ1 S with
   |.ok (.pv y) S1=>match cM G g me r ρ1 S1 with
    |.ok ys S2=>.ok (y::ys) S2
    |_=>.fail
   |_=>.fail)else .fail
theorem fA{g:GM}{me:ME}{ρ:bT}{S:aG}:cM [] g me [] ρ S=.ok [] S:=by
 unfold cM;rw[if_pos (lP S)]
theorem fI{g:GM}{me:ME}{x:PV}{r:AH}{ρ:bT}{S:aG}:cM [] g me (x::r) ρ S=(match g x ρ with
  |none=>.fail
  |some ρ1=>match me ρ1 S with
   |.ok (.pv y) S1=>match cM [] g me r ρ1 S1 with
    |.ok ys S2=>.ok (y::ys) S2
    |_=>.fail
   |_=>.fail):=by
 rw[cM,if_pos (lP S)]
noncomputable def bQ(own:List Str)(cap:List (Nat×Str))(mi:MI)(g:GM)(me:ME):ME:=λρ S=>(mi ρ S).bind λxs S1=>(cM xs.2 g me xs.1 (cT own cap ρ) S1).bind λys S2=>.ok (.pv (.lst ys)) S2
theorem Iu{G:Gd}{g:GM}{me:ME}:∀(xs:AH)(ρ:bT)(S:aG)(n:Str)(S':aG),cM G g me xs ρ S≠.exc n S'
 |[],_,_,_,_,e=>by
  unfold cM at e;split at e<;>cases e
 |x::r,ρ,S,n,S',e=>by
  unfold cM at e;split at e
  .split at e
   .cases e
   .split at e
    .split at e
     .cases e
     .cases e
    .cases e
  .cases e
theorem Vj{G:Gd}{g:GM}{me:ME}{xs zs:AH}{ρ:bT}{S S':aG}(e:cM G g me xs ρ S=.ok zs S'):gZ G S:=by
 cases xs with
 |nil=>
  unfold cM at e;split at e
  .assumption
  .cases e
 |cons x r=>
  unfold cM at e;split at e
  .assumption
  .cases e
section
variable{K:ag}{cl:Str->Addr}{E:XK}{X:Cx}{p q:Ph}{H H':Hp}{S:aG}
theorem Ek{ρ:bT}{σ:St}{own:List Str}{cap:List (Nat×Str)}(h:dB K p H ρ σ):dB K p H (cT own cap ρ) (iL own cap σ):=by
 refine⟨by unfold cT iL;simp,λi v e=>?_⟩;unfold cT at e;unfold iL
 by_cases hi:i<own.length
 .rw[ff (by simpa using hi),av,au hi]at e
  cases e
 .rw[dg (by rw[am];omega),av,am]at e⊢
  cases z:cap[i-own.length]? with
  |none=>rw[z]at e;cases e
  |some c=>
   rw[z]at e;have e:(ρ[c.1]?).join=some v:=ce e;have e':ρ[c.1]?=some (some v):=by
    cases y:ρ[c.1]? with
    |none=>rw[y]at e;cases e
    |some o=>rw[y]at e;exact congrArg some e
   obtain⟨x,e1,e2⟩:=h.at_ c.1 v e';refine⟨x,?_,e2⟩;show some ((σ[c.1]?).join)=some (some x);rw[e1];rfl
def Ph.res(p:Ph)(D:Addr):Ph:=⟨p.f,λa=>p.w a\/a=D,λa=>p.c a\/a=D⟩
def Ph.hold(p:Ph)(D:Addr):Ph:=⟨p.f,λa=>p.w a/\a≠D,p.c⟩
def Ph.less(p:Ph)(D:Addr):Ph:=⟨p.f,λa=>p.w a/\a≠D,λa=>p.c a/\a≠D⟩
theorem aT.notin(s:aT K p S H){D:Addr}(h:H D=none):¬p.c D:=λc=>by
 obtain⟨o,e,_⟩:=s.mu D c;rw[h]at e;cases e
theorem aT.res(s:aT K p S H){D:Addr}{o:HO}(h:H D=none)(mo:Mb o):bI p H (p.res D) (aK H D o)/\aT K (p.res D) S (aK H D o):=by
 have st:bI p H (p.res D) (aK H D o):=⟨s.wc,s.mu,jg,λa h=>.inl h,λa h=>.inl h,λa h g=>absurd h g,λa x n=>x.elim (λz=>absurd z n) (λz=>by rw[z];exact h),λa x n=>x.elim (λz=>absurd z n) (λz=>by rw[z];exact h),λa u e _=>by
  rw[bH (fW e h)];exact e⟩
 refine⟨st,s.nd,s.len,λa h=>.inl (s.sub a h),λa x=>x.elim (λz=>.inl (s.wc a z)) .inr,λa x=>?_,λk a u e1 e2=>?_⟩
 .by_cases z:a=D
  .rw[z,dR]
   exact⟨o,rfl,mo⟩
  .rw[bH z]
   exact s.mu a (x.elim id λy=>absurd y z)
 .exact(s.obj k a u e1 e2).mono (λvs e=>by rw[bH (fW e h)];exact e) (λb w f=>⟨⟨.inl w,f⟩,λvs e=>by rw[bH (fW e h)];exact e⟩) λ_ _ r=>st.reps r
theorem aT.resHold(s:aT K p S H){D:Addr}{o:HO}(h:H D=none)(mo:Mb o):aT K ((p.res D).hold D) S (aK H D o):=by
 obtain⟨st,sm⟩:=s.res (o:=o) h mo;have ne:∀a,p.w a->a≠D:=λa w z=>s.notin h (z▸s.wc a w);refine⟨sm.nd,sm.len,λa m=>⟨sm.sub a m,ne a (s.sub a m)⟩,λa x=>sm.wc a x.1,sm.mu,λk a u e1 e2=>?_⟩;exact(s.obj k a u e1 e2).mono (λvs e=>by rw[bH (fW e h)];exact e) (λb w f=>⟨⟨⟨.inl w,ne b w⟩,f⟩,λvs e=>by rw[bH (fW e h)];exact e⟩) λ_ _ r=>st.reps r
theorem bI.unhold{D:Addr}(h:p.w D)(st:bI (p.hold D) H q H')(s:aT K p S H):bI p H ⟨q.f,λa=>q.w a\/a=D,q.c⟩ H':=
 ⟨s.wc,s.mu,st.pre,λa x=>by
  by_cases z:a=D
  .exact .inr z
  .exact .inl (st.mw a ⟨x,z⟩),st.mono,st.nf,λa x n=>by
  rcases x with x |x
  .exact st.nw a x λz=>n z.1
  .exact absurd (x▸h) n,st.nc,λa o e n=>st.keep a o e λz=>n z.1⟩
theorem aT.grow{D:Addr}{ys:List V}{o:HO}(s:aT K p S H)(sh:aT K (p.hold D) S H)(w:p.w D)(n:D∉p.f)(mo:Mb o):bI p H p (aK H D o)/\aT K p S (aK H D o)/\aT K (p.hold D) S (aK H D o):=by
 have st:bI p H p (aK H D o):=⟨s.wc,s.mu,jg,λ_ h=>h,λ_ h=>h,λ_ h g=>absurd h g,λ_ h g=>absurd h g,λ_ h g=>absurd h g,λa u e nw=>by
  rw[bH (λz:a=D=>nw (by rw[z];exact w))];exact e⟩
 have hm:∀a,p.c a->∃u,aK H D o a=some u/\Mb u:=λa x=>by
  by_cases z:a=D
  .rw[z,dR]
   exact⟨o,rfl,mo⟩
  .rw[bH z]
   exact s.mu a x
 refine⟨st,⟨s.nd,s.len,s.sub,s.wc,hm,λk a u e1 e2=>?_⟩,⟨sh.nd,sh.len,sh.sub,sh.wc,hm,λk a u e1 e2=>?_⟩⟩
 .have ne:a≠D:=λz=>n (z▸cu e1)
  exact(sh.obj k a u e1 e2).mono (λvs e=>by rw[bH ne];exact e) (λb w f=>⟨⟨w.1,f⟩,λvs e=>by rw[bH w.2];exact e⟩) λ_ _ r=>st.reps r
 .have ne:a≠D:=λz=>n (z▸cu e1)
  exact(sh.obj k a u e1 e2).mono (λvs e=>by rw[bH ne];exact e) (λb w f=>⟨⟨w,f⟩,λvs e=>by rw[bH w.2];exact e⟩) λ_ _ r=>st.reps r
theorem aT.toLess{D:Addr}(s:aT K (p.hold D) S H):aT K (p.less D) S H:=
 ⟨s.nd,s.len,s.sub,λa h=>⟨s.wc a h,h.2⟩,λa h=>s.mu a h.1,λk a o e1 e2=>
  (s.obj k a o e1 e2).mono (λ_ e=>e) (λb w f=>⟨⟨w,f⟩,λ_ e=>e⟩) λ_ _ r=>mL (λa h=>h.1) r⟩
theorem bI.toLess{D:Addr}(st:bI p H q H')(h:H D=none):bI p H (q.less D) H':=by
 have nD:∀a,p.c a->a≠D:=λa c z=>by
  obtain⟨o,e,_⟩:=st.mu a c;rw[z,h]at e;cases e
 exact⟨st.wc,st.mu,st.pre,λa x=>⟨st.mw a x,nD a (st.wc a x)⟩,λa x=>⟨st.mono a x,nD a x⟩,st.nf,λa x=>st.nw a x.1,λa x=>st.nc a x.1,st.keep⟩
variable{sc:Scope}{own:List Str}{cap:List (Nat×Str)}{elt target iter:ah}{pos:ai}{mi:MI}{g:GM}{me:ME}
theorem Qx{σ:St}{ρ:bT}{xs zs:AH}{G:Gd}{J:It}{Q:VK}{D:Addr}{S2:aG}(sm:aT K p S H)(ev:dB K p H ρ σ)(it:eV K p H (xs,G) J)(z:cM G g me xs (cT own cap ρ) S=.ok zs S2)(hD:H D=none)
  (k:∀q H' vs,bI p H q H'->aT K q S2 H'->aT K (q.hold D) S2 H'->q.w D->D∉q.f->H' D=some (.lst vs)->vs.length<=sizeLine->aJ K q.c H' zs vs->Q (.ref D) H'):
  xQ J (gP K g) (tP K cl E0 (bX K) me) (iL own cap σ) H D Q:=by
 obtain⟨st0,sm0⟩:=sm.res (D:=D) (o:=.lst []) hD trivial;have sh0:=sm.resHold (D:=D) (o:=.lst []) hD trivial;have nf0:D∉p.f:=λh=>sm.notin hD (sm.wc D (sm.sub D h));refine J1 xs.length it.1 (λi σ1 H1 ys=>ys.length=i/\i<=xs.length/\H1 D=some (.lst ys)/\∃p1 S1 ρ1 us ws,(aT K p1 S1 H1/\aT K (p1.hold D) S1 H1)/\bI p H p1 H1/\p1.w D/\D∉p1.f/\dB K p1 H1 ρ1 σ1/\eV K p1 H1 (xs,G) J/\gZ G S1/\aJ K p1.c H1 us ys/\zs=us++ws/\cM G g me (xs.drop i) ρ1 S1=.ok ws S2) ?_ ?_ ?_ ?_ ?_
 .refine⟨rfl,cy _,dR,p.res D,S,cT own cap ρ,[],zs,⟨sm0,sh0⟩,st0,.inr rfl,nf0,Ek (st0.repE ev),it.step st0,?_,.nil,rfl,by simpa using z⟩
  exact Vj z
 .rintro i σ1 H1 ys ⟨h1,_,h2,_⟩
  exact⟨h1,h2⟩
 .rintro i σ1 H1 ys hi ⟨_,_,_,p1,S1,ρ1,us,ws,⟨sm1,sh1⟩,st1,w1,f1,ev1,it1,g1,_⟩
  exact((it1.2 p1 H1 S1 sm1.step sm1 g1).1 i xs[i] (au hi)).1
 .rintro i σ1 H1 ys x H2 hi ⟨hl,_,hH,p1,S1,ρ1,us,ws,⟨sm1,sh1⟩,st1,w1,f1,ev1,it1,g1,r1,e1,c1⟩ hy
  obtain⟨same,rx⟩:=((it1.2 p1 H1 S1 sm1.step sm1 g1).1 i xs[i] (au hi)).2 x H2 hy;rw[tq hi]at c1;unfold cM at c1;rw[if_pos g1]at c1;split at c1
  .cases c1
  .rename_i ρ2 gz
   split at c1
   .rename_i y S3 mz
    split at c1
    .rename_i vs S4 cz
     cases c1;have st2:=sm1.same same;have sm2:=sm1.ofSame same;have smh:=sh1.ofSame same;have stS:bI p H p1 H2:=st1.trans st2;refine⟨p1,S1,ρ1,xs[i],ρ2,sm2,st2.repE ev1,rx,gz,λσ3 ev3=>⟨p1.hold D,S1,ρ2,smh,⟨ev3.len,ev3.at_⟩,?_⟩⟩;rw[mz];intro q H4 y' st4 sm4 ry;have hD2:H2 D=some (.lst ys):=same _ _ hH;have hD4:H4 D=some (.lst ys):=st4.keep D _ hD2 λz=>z.2 rfl;have fq:D∉q.f:=λh=>by
      have:=st4.nf D h f1;rw[hD2]at this;cases this
     have stU:=bI.unhold w1 st4 sm2;have nq:¬q.w D:=λz=>by
      have:=st4.nw D z λy=>y.2 rfl;rw[hD2]at this;cases this
     have smU:aT K ⟨q.f,λa=>q.w a\/a=D,q.c⟩ S3 H4:=⟨sm4.nd,sm4.len,λa h=>.inl (sm4.sub a h),λa h=>h.elim (sm4.wc a) λz=>z▸st4.mono D (sm2.wc D w1),sm4.mu,λk a o e1 e2=>
      (sm4.obj k a o e1 e2).mono (λ_ e=>e) (λb w f=>⟨⟨.inl w,f⟩,λ_ e=>e⟩) λ_ _ r=>r⟩
     have shU:aT K (Ph.hold ⟨q.f,λa=>q.w a\/a=D,q.c⟩ D) S3 H4:=⟨sm4.nd,sm4.len,λa h=>⟨.inl (sm4.sub a h),λz=>nq (z▸sm4.sub a h)⟩,λa h=>smU.wc a h.1,sm4.mu,λk a o e1 e2=>
      (sm4.obj k a o e1 e2).mono (λ_ e=>e) (λb w f=>⟨⟨⟨.inl w,λz=>nq (z▸w)⟩,f⟩,λ_ e=>e⟩) λ_ _ r=>r⟩
     obtain⟨stG,smG,shG⟩:=smU.grow (ys:=ys) (D:=D) (o:=.lst (ys++[y'])) shU (.inr rfl) fq trivial;have stA:=st2.trans (stU.trans stG);refine abr hi hD4 ⟨by rw[bi,hl];rfl,hi,dR,_,S3,ρ2,us++[y],vs,⟨smG,shG⟩,st1.trans stA,.inr rfl,fq,stG.repE (stU.repE ev3),it1.step stA,Vj cz,?_,by rw[e1,mj];rfl,cz⟩;exact(stA.reps r1).append (.cons (stG.rep ry) .nil)
    .cases c1
   .cases c1
 .rintro σ1 H1 ys ⟨hl,_,hH,p1,S1,ρ1,us,ws,⟨sm1,sh1⟩,st1,w1,f1,ev1,it1,g1,r1,e1,c1⟩
  rw[tw]at c1;unfold cM at c1;rw[if_pos g1]at c1;cases c1;refine⟨(it1.2 p1 H1 _ sm1.step sm1 g1).2,?_⟩;rw[la]at e1;subst e1;exact k p1 H1 ys st1 sm1 sh1 w1 f1 hH (by rw[hl];exact it.1) r1
theorem zW{σ:St}{ρ:bT}{xs:AH×Gd}{J:It}{Q:VK}{D:Addr}(sm:aT K p S H)(ev:dB K p H ρ σ)(it:eV K p H xs J)(k:bR K cl (bX K) p H ((cM xs.2 g me xs.1 (cT own cap ρ) S).bind λys S2=>.ok (.pv (.lst ys)) S2) Q E)(hD:H D=none):
  xQ J (gP K g) (tP K cl E0 (bX K) me) (iL own cap σ) H D Q:=by
 cases z:cM xs.2 g me xs.1 (cT own cap ρ) S with
 |fail=>rw[z]at k;exact k.elim
 |exc n S'=>exact absurd z (Iu _ _ _ _ _)
 |ok zs S2=>
  rw[z]at k;have k:∀q H' x,bI p H q H'->aT K q S2 H'->aI K q.c H' (.lst zs) x->Q x H':=k;refine Qx sm ev it z hD λq H' vs st1 sm1 sh1 w1 f1 hH l1 r1=>?_;refine k (q.less D) H' (.ref D) (st1.toLess hD) sh1.toLess ?_;unfold aI;exact⟨D,vs,rfl,.inl ⟨hH,λz=>z.2 rfl⟩,l1,mL (λa h=>h.1) r1⟩
theorem Q6(k:gU X sc own cap)(hi:PIp K cl E X target iter mi)(hc:X.calm=true)(hg:∀C AM AN ex,kD K (dY X sc (cB own cap) C AM AN ex) target g)(he:∀C AM AN ex,aM K cl E0 (dY X sc (cB own cap) C AM AN ex) elt me)
  (hs:∀x,foldedSetIterable iter X.env x=pure x:=by intro _;rfl):aM K cl E X (.ListComp elt [⟨target,iter,[],0⟩] sc pos) (bQ own cap mi g me):=by
 intro hK;refine PE.imp (J5 k (hi hK) hc (λC AM AN ex=>hg C AM AN ex hK) (λC AM AN ex=>he C AM AN ex hK) hs) ?_
 rintro σ H Q ⟨p,S,ρ,s,ev,h⟩
 exact bW s ev h λq H' xs J S' cJ sm ev it kk D hD=>zW sm ev it kk hD
theorem E9{i:Nat}{x:Str}{py spos:ai}(hN:X.N.Nodup)(hx:X.N[i]?=some x)(hl:kK X.env.scope x)(k:gU X sc own cap)(hi:PIp K cl E X target iter mi)(hc:X.calm=true)(hg:∀C AM AN ex,kD K (dY X sc (cB own cap) C AM AN ex) target g)(he:∀C AM AN ex,aM K cl E0 (dY X sc (cB own cap) C AM AN ex) elt me)
  (hs:∀x,foldedSetIterable iter X.env x=pure x:=by intro _;rfl)(hsw:swapsWith (.ListComp elt [⟨target,iter,[],0⟩] sc pos) (some (.Name x py)) spos.line X.env=pure true:=by rfl)
  (hf:X.fn x=true\/X.env.scope.names.lookup x=some .local:=by first |exact .inl rfl |exact .inr rfl |assumption):
  eA K cl E X (.Assign [.Name x py] (.ListComp elt [⟨target,iter,[],0⟩] sc pos) spos) (bA i (bQ own cap mi g me)):=by
 intro hK;refine PS.imp (J9 hN hx hl k (hi hK) hc (λC AM AN ex=>hg C AM AN ex hK) (λC AM AN ex=>he C AM AN ex hK) hs hsw hf) ?_
 rintro D σ H ⟨p,S,ρ,s,ev,h⟩
 have h2:tP K cl E (bX K) (bQ own cap mi g me) σ H λy H1=>D.nx (σ.set i (some y)) H1:=by
  refine⟨p,S,ρ,s,ev,?_⟩;unfold bA at h;cases z:bQ own cap mi g me ρ S with
  |ok v S1=>
   rw[z]at h;exact λq H' y st sm r=>h q H' _ st sm ((st.repE ev).set r i)
  |exc n S1=>rw[z]at h;exact h
  |fail=>rw[z]at h;exact h
 obtain⟨p,S,ρ,s,ev,h⟩:=h2;exact bW s ev h λq H' xs J S' cJ sm ev it kk B hB=>zW sm ev it kk hB
end
def jZ:List (Option Bool)->Option (List Bool)
 |[]=>some []
 |some b::r=>match jZ r with
  |some bs=>some (b::bs)
  |none=>none
 |none::_=>none
theorem Fg:∀{l:List (Option Bool)}{bs:List Bool},jZ l=some bs->bs.length=l.length
 |[],_,e=>by cases e;rfl
 |some b::r,bs,e=>by
  unfold jZ at e;split at e
  .rename_i cs h
   cases e;rw[cg,cg,Fg h]
  .cases e
 |none::r,_,e=>by cases e
theorem zE:∀{l:List (Option Bool)}{bs:List Bool}{i:Nat}{o:Option Bool},jZ l=some bs->l[i]?=some o->∃b,o=some b/\bs[i]?=some b
 |[],_,i,o,_,h=>by simp at h
 |some b::r,bs,i,o,e,h=>by
  unfold jZ at e;split at e
  .rename_i cs h'
   cases e;cases i with
   |zero=>
    simp at h;exact⟨b,h.symm,rfl⟩
   |succ i=>simpa using zE h' (by simpa using h)
  .cases e
 |none::r,_,_,_,e,_=>by cases e
def aN:Nat->PV->PV->Option Bool
 |_,.non,.non=>some true
 |_,.bl a,.bl b=>some (a==b)
 |_,.int a,.int b=>some (a==b)
 |_,.str a,.str b=>some (a==b)
 |n+1,.tup xs,.tup ys=>match jZ (ck (aN n) xs ys)with
  |some bs=>some (bs.all id&&xs.length==ys.length)
  |none=>none
 |n+1,.lst xs,.lst ys=>if xs.length=ys.length then(match jZ (ck (aN n) xs ys)with
  |some bs=>some (bs.all id)
  |none=>none)else some false
 |_,_,_=>none
theorem uK(bs:List Bool):((az bs.length).all λj=>bs.getD j true)=bs.all id:=by
 rw[wr,jx,jx];constructor
 .intro h b hb
  obtain⟨j,hj,e⟩:=qd hb;have:=h j (by simpa using hj);simpa[br,hj,e]using this
 .intro h j hj
  have hj:j<bs.length:=by simpa using hj
  have:=h bs[j] (iu hj);simpa[br,hj]using this
section
variable{X:Cx}{AL:List (Addr×Obj)}{σ:St}{H:Hp}{s:aa}{c:Addr->Prop}
theorem uQ{n:Nat}{xs ys:AH}{vs ws:List V}{its jts:AD}{bs:List Bool}{A:aq}
  (ih:∀(v w:PV)(x y:V)(u u':Value)(b:Bool),aI X.K c H v x->aI X.K c H w y->bP x u->bP y u'->aN n v w=some b->jr A s u u' b)
  (r1:aJ X.K c H xs vs)(r2:aJ X.K c H ys ws)(q1:aX vs its)(q2:aX ws jts)(e:jZ (ck (aN n) xs ys)=some bs):
  ∀j(h1:j<its.toArray.size)(h2:j<jts.toArray.size),jr A s its.toArray[j] jts.toArray[j] (bs.getD j true):=λj h1 h2=>by
 have l1:=r1.length.trans q1.length;have l2:=r2.length.trans q2.length;have g1:j<xs.length:=by rw[l1];simpa using h1
 have g2:j<ys.length:=by rw[l2];simpa using h2
 obtain⟨x,ex,rx⟩:=r1.get (au g1);obtain⟨y,ey,ry⟩:=r2.get (au g2);obtain⟨u,eu,ru⟩:=q1.get ex;obtain⟨u',eu',ru'⟩:=q2.get ey;have hz:(ck (aN n) xs ys)[j]?=some (aN n xs[j] ys[j]):=by
  rw[j8,au g1,au g2]
 obtain⟨b,eb,eb'⟩:=zE e hz;have e1:its.toArray[j]=u:=by
  rw[j9];rw[au (by simpa using h1)]at eu;exact ce eu
 have e2:jts.toArray[j]=u':=by
  rw[j9];rw[au (by simpa using h2)]at eu';exact ce eu'
 rw[e1,e2];have e3:bs.getD j true=b:=by simp[br,eb']
 rw[e3];exact ih _ _ _ _ _ _ _ rx ry ru ru' eb
theorem rP{n:Nat}{xs ys:AH}{bs:List Bool}(e:jZ (ck (aN n) xs ys)=some bs):bs.length=min xs.length ys.length:=by
 rw[Fg e,ka]
theorem Si(n:Nat)(v w:PV)(x:V)(b:Bool)(nt:∀xs,v≠.tup xs)(nl:∀xs,v≠.lst xs)(h:aI X.K c H v x)(g:aI X.K c H w x)(e:aN n v w=some b):b=true:=by
 cases v with
 |tup xs=>exact absurd rfl (nt xs)
 |lst xs=>exact absurd rfl (nl xs)
 |non=>
  cases w<;>first |(unfold aN at e;simp at e;done) |skip
  unfold aN at e;cases e;rfl
 |bl i=>
  cases w<;>first |(unfold aN at e;simp at e;done) |skip
  unfold aI at h g;subst h;injection g with g';subst g';unfold aN at e;cases e;exact beq_self_eq_true _
 |int i=>
  cases w<;>first |(unfold aN at e;simp at e;done) |skip
  unfold aI at h g;subst h;injection g with g';subst g';unfold aN at e;cases e;exact beq_self_eq_true _
 |str i=>
  cases w<;>first |(unfold aN at e;simp at e;done) |skip
  unfold aI at h g;subst h;injection g with g';subst g';unfold aN at e;cases e;exact beq_self_eq_true _
theorem Bj(I:aF X AL σ H s):∀(n:Nat)(v w:PV)(x:V)(b:Bool),aI X.K c H v x->aI X.K c H w x->aN n v w=some b->b=true:=by
 intro n
 induction n with
 |zero=>
  intro v w x b h g e;cases v with
  |tup xs=>unfold aN at e;simp at e
  |lst xs=>unfold aN at e;simp at e
  |_=>exact Si 0 _ w x b (by intro _ z;cases z) (by intro _ z;cases z) h g e
 |succ n ih=>
  have items:∀(xs ys:AH)(vs:List V)(bs:List Bool),aJ X.K c H xs vs->aJ X.K c H ys vs->jZ (ck (aN n) xs ys)=some bs->bs.all id=true/\xs.length=ys.length:=λxs ys vs bs r1 r2 e=>by
   have ll:=r1.length.trans r2.length.symm;refine⟨?_,ll⟩;rw[jx];intro b hb;obtain⟨j,hj,ej⟩:=qd hb;have hj':=hj;rw[rP e]at hj';have g1:j<xs.length:=by omega
   have g2:j<ys.length:=by omega
   obtain⟨x,ex,rx⟩:=r1.get (au g1);obtain⟨y,ey,ry⟩:=r2.get (au g2);have:=ex.symm.trans ey;cases this;have hz:(ck (aN n) xs ys)[j]?=some (aN n xs[j] ys[j]):=by
    rw[j8,au g1,au g2]
   obtain⟨b',eb,eb'⟩:=zE e hz;rw[au hj,ej]at eb';cases eb';exact ih _ _ _ _ rx ry eb
  intro v w x b h g e;cases v with
  |tup xs=>
   cases w with
   |tup ys=>
    unfold aI at h g;obtain⟨a,vs,rfl,t1,_,r1⟩:=h;obtain⟨a',ws,e1,t2,_,r2⟩:=g;cases e1;have:=I.tuple_inj t1 t2;subst this;unfold aN at e;split at e
    .rename_i bs hb
     obtain⟨z1,z2⟩:=items xs ys vs bs r1 r2 hb;rw[z1,z2,beq_self_eq_true]at e;cases e;rfl
    .cases e
   |_=>unfold aN at e;simp at e
  |lst xs=>
   cases w with
   |lst ys=>
    unfold aI at h g;obtain⟨a,vs,rfl,t1,_,r1⟩:=h;obtain⟨a',ws,e1,t2,_,r2⟩:=g;cases e1;have:=I.list_inj t1.sq t2.sq;subst this;unfold aN at e;rw[if_pos (r1.length.trans r2.length.symm)]at e;split at e
    .rename_i bs hb
     obtain⟨z1,z2⟩:=items xs ys vs bs r1 r2 hb;rw[z1]at e;cases e;rfl
    .cases e
   |_=>unfold aN at e;simp at e
  |_=>exact Si (n+1) _ w x b (by intro _ z;cases z) (by intro _ z;cases z) h g e
theorem Do(I:aF X AL σ H s):∀(n:Nat)(v w:PV)(x y:V)(u u':Value)(b:Bool)(A:aq),A.units+n<cLine->aI X.K c H v x->aI X.K c H w y->bP x u->bP y u'->aN n v w=some b->oa A s u u' b/\jr A s u u' b:=by
 have flat:∀(n:Nat)(v w:PV)(x y:V)(u u':Value)(b:Bool)(A:aq),(∀xs,v≠.tup xs)->(∀xs,v≠.lst xs)->aI X.K c H v x->aI X.K c H w y->bP x u->bP y u'->aN n v w=some b->oa A s u u' b/\jr A s u u' b:=by
  intro n v w x y u u' b A nt nl h g r r' e;cases v with
  |tup xs=>exact absurd rfl (nt xs)
  |lst xs=>exact absurd rfl (nl xs)
  |non=>
   cases w<;>first |(unfold aN at e;simp at e;done) |skip
   unfold aI at h g;subst h g;cases r;cases r';unfold aN at e;cases e;exact⟨k4,tj _⟩
  |bl i=>
   cases w<;>first |(unfold aN at e;simp at e;done) |skip
   unfold aI at h g;subst h g;cases r;cases r';unfold aN at e;cases e;exact⟨k7 _ _,SeqAt.EqAt.bool_bool _ _⟩
  |int i=>
   cases w<;>first |(unfold aN at e;simp at e;done) |skip
   unfold aI at h g;subst h g;obtain⟨t,rfl⟩:=r;obtain⟨t',rfl⟩:=r';unfold aN at e;cases e;exact⟨k9 _ _ _ _,j5 _ _ _ _⟩
  |str i=>
   cases w<;>first |(unfold aN at e;simp at e;done) |skip
   unfold aI at h g;subst h g;obtain⟨t,rfl⟩:=r;obtain⟨t',rfl⟩:=r';unfold aN at e;cases e;exact⟨l4 _ _ _ _,SeqAt.EqAt.str_str _ _ _ _⟩
 have main:∀(n:Nat)(v w:PV)(x y:V)(u u':Value)(b:Bool)(A:aq),A.units+n<cLine->aI X.K c H v x->aI X.K c H w y->bP x u->bP y u'->aN n v w=some b->oa A s u u' b/\jr A s u u' b:=by
  intro n
  induction n with
  |zero=>
   intro v w x y u u' b A hu h g r r' e;cases v with
   |tup xs=>unfold aN at e;simp at e
   |lst xs=>unfold aN at e;simp at e
   |_=>exact flat 0 _ w x y u u' b A (by intro _ z;cases z) (by intro _ z;cases z) h g r r' e
  |succ n ih=>
   intro v w x y u u' b A hu h g r r' e;have hin:A.in1.units+n<cLine:=by show A.units+1+n<cLine;omega
   cases v with
   |tup xs=>
    cases w with
    |tup ys=>
     have hs:x=y->b=true:=λz=>Bj I (n+1) _ _ x b h (z▸g) e;unfold aI at h g;obtain⟨a,vs,rfl,t1,_,r1⟩:=h;obtain⟨a',ws,rfl,t2,_,r2⟩:=g;cases r;cases r';obtain⟨its,q1,p1,_⟩:=I.tuple t1;obtain⟨jts,q2,p2,_⟩:=I.tuple t2;unfold aN at e;split at e
     .rename_i bs hb
      cases e;have z:=xb (A:=A) (s:=s) (e:=λj=>bs.getD j true) (show s.heap.IsTuple a its.toArray from p1) (show s.heap.IsTuple a' jts.toArray from p2) (by omega)
       (uQ (A:=A.in1) (λv w x y u u' b h1 h2 h3 h4 h5=>(ih v w x y u u' b A.in1 hin h1 h2 h3 h4 h5).2) r1 r2 q1 q2 hb)
      have l1:=r1.length.trans q1.length;have l2:=r2.length.trans q2.length;rw[ar,ar,<-l1,<-l2,<-rP hb,uK]at z;refine⟨z,?_⟩
      by_cases ha:a=a'
      .subst ha
       rw[hs rfl];exact tj _
      .exact xc ha z
     .cases e
    |_=>unfold aN at e;simp at e
   |lst xs=>
    cases w with
    |lst ys=>
     have hs:x=y->b=true:=λz=>Bj I (n+1) _ _ x b h (z▸g) e;unfold aI at h g;obtain⟨a,vs,rfl,t1,_,r1⟩:=h;obtain⟨a',ws,rfl,t2,_,r2⟩:=g;cases r;cases r';obtain⟨its,q1,p1,_⟩:=I.list t1.sq;obtain⟨jts,q2,p2,_⟩:=I.list t2.sq;have l1:=r1.length.trans q1.length;have l2:=r2.length.trans q2.length;have fin:oa A s (.ref a) (.ref a') b->oa A s (.ref a) (.ref a') b/\jr A s (.ref a) (.ref a') b:=λz=>by
      refine⟨z,?_⟩
      by_cases ha:a=a'
      .subst ha
       rw[hs rfl];exact tj _
      .exact xc ha z
     unfold aN at e;split at e
     .rename_i hl
      split at e
      .rename_i bs hb
       cases e;have z:=l5 (A:=A) (s:=s) (e:=λj=>bs.getD j true) p1.isList p2.isList (by rw[ar,ar];omega) (by omega)
        (uQ (A:=A.in1) (λv w x y u u' b h1 h2 h3 h4 h5=>(ih v w x y u u' b A.in1 hin h1 h2 h3 h4 h5).2) r1 r2 q1 q2 hb)
       have hm:its.length=bs.length:=by rw[rP hb];omega
       rw[ar,hm,uK]at z;exact fin z
      .cases e
     .rename_i hl
      cases e;exact fin (l6 p1.isList p2.isList (by rw[ar,ar];simp;omega) (by omega))
    |_=>unfold aN at e;simp at e
   |_=>exact flat (n+1) _ w x y u u' b A (by intro _ z;cases z) (by intro _ z;cases z) h g r r' e
 exact main
end
noncomputable section
open PySem PySem.Spec PyProof.Rows Bn
section
variable{X:Cx}
theorem Br{AL:List (Addr×Obj)}{σ:St}{H:Hp}{s:aa}(I:aF X AL σ H s){p:Ph}{v w:PV}{x y:V}{u u':Value}{b:Bool}{A:aq}(hu:A.units+8<cLine)(h:eW X.K p H v x)(g:eW X.K p H w y)(r:bP x u)(r':bP y u')(e:aN 8 v w=some b):
  oa A s u u' b/\SeqAt.RcNeAt A s u u' (!b):=by
 have hin:A.in1.units+7<cLine:=by show A.units+1+7<cLine;omega
 cases v with
 |non=>
  cases w<;>first |(unfold aN at e;simp at e;done) |skip
  have h:=h.non;have g:=g.non;subst h g;cases r;cases r';unfold aN at e;cases e;exact⟨k4,SeqAt.RcNeAt.none_none⟩
 |bl i=>
  cases w<;>first |(unfold aN at e;simp at e;done) |skip
  have h:=h.bl;have g:=g.bl;subst h g;cases r;cases r';unfold aN at e;cases e;exact⟨k7 _ _,SeqAt.RcNeAt.bool_bool _ _⟩
 |int i=>
  cases w<;>first |(unfold aN at e;simp at e;done) |skip
  have h:=h.int;have g:=g.int;subst h g;obtain⟨t,rfl⟩:=r;obtain⟨t',rfl⟩:=r';unfold aN at e;cases e;exact⟨k9 _ _ _ _,SeqAt.RcNeAt.int_int _ _ _ _⟩
 |str i=>
  cases w<;>first |(unfold aN at e;simp at e;done) |skip
  have h:=h.str;have g:=g.str;subst h g;obtain⟨t,rfl⟩:=r;obtain⟨t',rfl⟩:=r';unfold aN at e;cases e;exact⟨l4 _ _ _ _,SeqAt.RcNeAt.str_str _ _ _ _⟩
 |tup xs=>
  cases w with
  |tup ys=>
   obtain⟨a,vs,rfl,t1,_,r1⟩:=h.tup;obtain⟨a',ws,rfl,t2,_,r2⟩:=g.tup;cases r;cases r';obtain⟨its,q1,p1,_⟩:=I.tuple t1;obtain⟨jts,q2,p2,_⟩:=I.tuple t2;unfold aN at e;split at e
   .rename_i bs hb
    cases e;have it:=uQ (s:=s) (A:=A.in1) (λv w x y u u' b h1 h2 h3 h4 h5=>(Do I 7 v w x y u u' b A.in1 hin h1 h2 h3 h4 h5).2) r1 r2 q1 q2 hb;have z:=xb (A:=A) (s:=s) (e:=λj=>bs.getD j true) (show s.heap.IsTuple a its.toArray from p1) (show s.heap.IsTuple a' jts.toArray from p2) (by omega) it;have z':=SeqAt.RcNeAt.tuples (A:=A) (s:=s) (e:=λj=>bs.getD j true) (show s.heap.IsTuple a its.toArray from p1) (show s.heap.IsTuple a' jts.toArray from p2) (by omega) it;have l1:=r1.length.trans q1.length;have l2:=r2.length.trans q2.length;rw[ar,ar,<-l1,<-l2,<-rP hb,uK]at z z';exact⟨z,z'⟩
   .cases e
  |_=>unfold aN at e;simp at e
 |lst xs=>
  cases w with
  |lst ys=>
   obtain⟨a,vs,rfl,t1,_,r1⟩:=h.lst;obtain⟨a',ws,rfl,t2,_,r2⟩:=g.lst;cases r;cases r';obtain⟨its,q1,p1,_⟩:=I.list t1;obtain⟨jts,q2,p2,_⟩:=I.list t2;have l1:=r1.length.trans q1.length;have l2:=r2.length.trans q2.length;unfold aN at e;split at e
   .rename_i hl
    split at e
    .rename_i bs hb
     cases e;have it:=uQ (s:=s) (A:=A.in1) (λv w x y u u' b h1 h2 h3 h4 h5=>(Do I 7 v w x y u u' b A.in1 hin h1 h2 h3 h4 h5).2) r1 r2 q1 q2 hb;have z:=l5 (A:=A) (s:=s) (e:=λj=>bs.getD j true) p1.isList p2.isList (by rw[ar,ar];omega) (by omega) it;have z':=SeqAt.RcNeAt.lists (A:=A) (s:=s) (e:=λj=>bs.getD j true) p1.isList p2.isList (by rw[ar,ar];omega) (by omega) it;have hm:its.length=bs.length:=by rw[rP hb];omega
     rw[ar,hm,uK]at z z';exact⟨z,z'⟩
    .cases e
   .rename_i hl
    cases e;exact⟨l6 p1.isList p2.isList (by rw[ar,ar];simp;omega) (by omega),SeqAt.RcNeAt.lists_lengths p1.isList p2.isList (by rw[ar,ar];simp;omega) (by omega)⟩
  |_=>unfold aN at e;simp at e
def xG(K:ag)(neg:Bool):R2:=λx y H Q=>∃p v w b,eW K p H v x/\eW K p H w y/\aN 8 v w=some b/\Q (.bl (if neg then !b else b)) H
theorem Gq(hu:X.A.units+8<cLine):eD X (compareOp .Eq) (xG X.K false):=by
 intro AL s σ H x y v u Q I rx ry h;obtain⟨p,a,b,k,h1,h2,e,q⟩:=h;exact(Br I hu h1 h2 rx ry e).1 X.prog X.w X.xe _ ⟨.bl k,H,I,rfl,q⟩
theorem Cp(hu:X.A.units+8<cLine):eD X (compareOp .NotEq) (xG X.K true):=by
 intro AL s σ H x y v u Q I rx ry h;obtain⟨p,a,b,k,h1,h2,e,q⟩:=h;exact(Br I hu h1 h2 rx ry e).2 X.prog X.w X.xe _ ⟨.bl (!k),H,I,rfl,q⟩
def dJ(a b:PV):AI:=(aN 8 a b).map .bl
def gC(a b:PV):AI:=(aN 8 a b).map λk=>.bl (!k)
theorem Vr{K:ag}:gM K (xG K false) dJ:=λ{p S H a b c x y Q} s ra rb e k=>by
 unfold dJ at e;cases z:aN 8 a b with
 |none=>rw[z]at e;cases e
 |some t=>
  rw[z]at e;cases e;exact⟨p,a,b,t,ra,rb,z,k H _ (dD.refl H) (by unfold aI;rfl)⟩
theorem Rr{K:ag}:gM K (xG K true) gC:=λ{p S H a b c x y Q} s ra rb e k=>by
 unfold gC at e;cases z:aN 8 a b with
 |none=>rw[z]at e;cases e
 |some t=>
  rw[z]at e;cases e;exact⟨p,a,b,t,ra,rb,z,k H _ (dD.refl H) (by unfold aI;rfl)⟩
def i2(f:Int->Int->AI):PV->PV->AI
 |.int a,.int b=>f a b
 |_,_=>none
open Classical in
def cI(C:Int->Int->Prop)(g:Int->Int->PV)(a b:Int):AI:=if C a b then some (g a b)else none
def xW:PV->V
 |.int i=>.int i
 |.bl b=>.bl b
 |.str s=>.str s
 |_=>.non
def Vc:PV->Bool
 |.int _=>true
 |.bl _=>true
 |.str _=>true
 |.non=>true
 |_=>false
theorem iM{K:ag}{c:Addr->Prop}{H:Hp}{v:PV}(h:Vc v=true):aI K c H v (xW v):=by
 cases v with
 |tup _=>cases h
 |lst _=>cases h
 |_=>unfold aI xW;rfl
theorem xL{K:ag}{C:Int->Int->Prop}{g:Int->Int->PV}{h:Int->Int->V}(fl:∀i j,Vc (g i j)=true/\xW (g i j)=h i j):gM K (rI C h) (i2 (cI C g)):=λ{p S H a b c x y Q} s ra rb e k=>by
 cases a with
 |int i=>
  cases b with
  |int j=>
   unfold i2 cI at e;dsimp only at e;split at e
   .rename_i hc
    cases e;refine⟨i,j,ra.int,rb.int,hc,?_⟩;rw[<-(fl i j).2];exact k H _ (dD.refl H) (iM (fl i j).1)
   .cases e
  |_=>cases e
 |_=>cases e
theorem xK{K:ag}{g:Int->Int->PV}{h:Int->Int->V}(fl:∀i j,Vc (g i j)=true/\xW (g i j)=h i j):gM K (jG h) (i2 λi j=>some (g i j)):=λ{p S H a b c x y Q} s ra rb e k=>by
 cases a with
 |int i=>
  cases b with
  |int j=>
   cases e;refine⟨i,j,ra.int,rb.int,?_⟩;rw[<-(fl i j).2];exact k H _ (dD.refl H) (iM (fl i j).1)
  |_=>cases e
 |_=>cases e
def oO(i j:Int):Prop:=Pd i j\/(Bd 1000000 i/\Bd 1000000 j)
theorem oO.ok{i j:Int}(h:oO i j):IntMulOk i j:=by
 rcases h with h |h
 .exact h.ok
 have h1:=Tn h.1;have h2:=Tn h.2;unfold IntMulOk Builtin.Int.intTooBig bitsLine;intro c;simp only[iy,decide_eq_true_eq]at c;have:=c.2;omega
theorem N7:eD X (binaryOp .Mult) (rI oO λi j=>.int (i*j)):=yC λ_ _ _ _ _ _ _ hc q=>mul_int q hc.ok
def aW:=i2 (cI oO λi j=>.int (i*j))
def fX:=i2 (cI oR λi j=>.int (i.fdiv j))
def fP:=i2 (cI (λ_ j=>j≠0) λi j=>.int (i.fmod j))
def gW:=i2 (cI xJ λi j=>.int (i^j.toNat))
def eM:=i2 λi j=>some (.int (i-j))
def kE:=i2 λi j=>some (.bl (decide (i<j)))
def fLe:=i2 λi j=>some (.bl (decide (i<=j)))
def eT:=i2 λi j=>some (.bl (decide (j<i)))
def qT:=i2 λi j=>some (.bl (decide (j<=i)))
theorem aca{K:ag}:gM K (rI oO λi j=>.int (i*j)) aW:=xL λ_ _=>⟨rfl,rfl⟩
theorem aab{K:ag}:gM K (rI oR λi j=>.int (i.fdiv j)) fX:=xL λ_ _=>⟨rfl,rfl⟩
theorem abF{K:ag}:gM K (rI (λ_ j=>j≠0) λi j=>.int (i.fmod j)) fP:=xL λ_ _=>⟨rfl,rfl⟩
theorem abC{K:ag}:gM K (rI xJ λi j=>.int (i^j.toNat)) gW:=xL λ_ _=>⟨rfl,rfl⟩
theorem ab6{K:ag}:gM K (jG λi j=>.int (i-j)) eM:=xK λ_ _=>⟨rfl,rfl⟩
theorem Qr{K:ag}:gM K (jG λi j=>.bl (decide (i<j))) kE:=xK λ_ _=>⟨rfl,rfl⟩
theorem Zr{K:ag}:gM K (jG λi j=>.bl (decide (j<i))) eT:=xK λ_ _=>⟨rfl,rfl⟩
theorem Pr{K:ag}:gM K (jG λi j=>.bl (decide (j<=i))) qT:=xK λ_ _=>⟨rfl,rfl⟩
def dE:PV->AI
 |.int i=>some (.int (-i))
 |_=>none
theorem ab0{K:ag}:tO K (rU λi=>.int (-i)) dE:=λ{p S H a c x Q} s ra e k=>by
 cases a with
 |int i=>
  cases e;exact⟨i,ra.int,k H _ (dD.refl H) (iM (v:=.int (-i)) rfl)⟩
 |_=>cases e
def Zq(K:ag):R2:=λx y H Q=>∃l b xs zs,x=.ref l/\y=.ref b/\bS K H l xs/\bS K H b zs/\xs.length+zs.length<=sizeLine/\∀p,H p=none->Q (.ref p) (aK H p (.lst (xs++zs)))
theorem W6:eD X (binaryOp .Add) (Zq X.K):=by
 intro AL s σ H x y v u Q I rx ry h;obtain⟨l,b,xs,zs,rfl,rfl,hx,hy,hz,q⟩:=h;cases rx;cases ry;obtain⟨its,r1,p1,_⟩:=I.list hx;obtain⟨jts,r2,p2,_⟩:=I.list hy;obtain⟨⟨cls,dd,data,sl⟩,n,ho,hc,_,hd⟩:=p1;obtain⟨⟨cls2,dd2,data2,sl2⟩,n2,ho2,hc2,_,hd2⟩:=p2;simp only at hc hd hc2 hd2;subst hc hd hc2 hd2;have e:its.toArray++jts.toArray=(its++jts).toArray:=by simp
 have l1:=r1.length;have l2:=r2.length;refine vh ⟨_,ho,rfl⟩ ⟨_,ho2,rfl⟩ noFill_list_add seq_list_add PySem.F.slot_list_add PySem.F.entry_list_add (PySem.F.args_list_add_2 _ _) (list_addW l b its.toArray jts.toArray n n2 dd dd2 sl sl2 (by rw[ar,ar];omega)) ⟨ho,ho2,?_⟩;rw[e];exact⟨.ref _,_,I.lnew (t':=s.toks) (r1.append r2) (by rw[bi];omega),rfl,q _ I.fresh⟩
def aH:PV->PV->AI
 |.int a,.int b=>some (.int (a+b))
 |.lst xs,.lst ys=>if xs.length+ys.length<=16777216 then some (.lst (xs++ys))else none
 |.tup xs,.tup ys=>if xs.length≠0/\ys.length≠0/\xs.length+ys.length<=16777216 then some (.tup (xs++ys))else none
 |_,_=>none
def Nq(K:ag):R2:=λx y H Q=>(jG λi j=>.int (i+j)) x y H Q\/Zq K x y H Q\/Cr K x y H Q
theorem K6:eD X (binaryOp .Add) (Nq X.K):=eD.or aaz (eD.or W6 S7)
theorem abo{K:ag}:gM K (Nq K) aH:=λ{p S H a b c x y Q} s ra rb e k=>by
 cases a with
 |int i=>
  cases b with
  |int j=>
   cases e;exact .inl ⟨i,j,ra.int,rb.int,k H _ (dD.refl H) (iM (v:=.int (i+j)) rfl)⟩
  |_=>cases e
 |lst xs=>
  cases b with
  |lst ys=>
   have e:(if xs.length+ys.length<=16777216 then some (PV.lst (xs++ys))else none)=some c:=e;split at e
   .rename_i hl
    cases e;obtain⟨a1,vs,rfl,l1,z1,r1⟩:=ra.lst;obtain⟨a2,ws,rfl,l2,z2,r2⟩:=rb.lst;have hz:vs.length+ws.length<=sizeLine:=by rw[<-r1.length,<-r2.length,hU];exact hl
    exact .inr (.inl ⟨a1,a2,vs,ws,rfl,rfl,l1,l2,hz,λt ht=>k _ _ (gF ht) (kR s (r1.append r2) (by rw[bi];exact hz) ht)⟩)
   .cases e
  |_=>cases e
 |tup xs=>
  cases b with
  |tup ys=>
   have e:(if xs.length≠0/\ys.length≠0/\xs.length+ys.length<=16777216 then some (PV.tup (xs++ys))else none)=some c:=e;split at e
   .rename_i hl
    cases e;obtain⟨a1,vs,rfl,l1,z1,r1⟩:=ra.tup;obtain⟨a2,ws,rfl,l2,z2,r2⟩:=rb.tup;have hz:vs.length+ws.length<=sizeLine:=by rw[<-r1.length,<-r2.length,hU];exact hl.2.2
    refine .inr (.inr ⟨a1,a2,vs,ws,rfl,rfl,l1,l2,λq=>hl.1 (by rw[r1.length,q];rfl),hz,λq=>absurd (show ys.length=0 by rw[r2.length,q];rfl) hl.2.1,λ_ t ht=>k _ _ (gF ht) (pV s (r1.append r2) (by rw[bi];exact hz) ht)⟩)
   .cases e
  |_=>cases e
 |_=>cases e
end
section
variable{K:ag}{cl:Str->Addr}{E:XK}{X:Cx}{a b e:ah}{es:List ah}{ma mb m:ME}{ms:MA}{pos p2:ai}
def aE:PV->PV->AI
 |.lst xs,.int i=>bB xs i
 |.tup xs,.int i=>bB xs i
 |_,_=>none
theorem vE{c:Addr->Prop}{H:Hp}{xs:AH}{vs:List V}{i:Int}{v:PV}(r:aJ K c H xs vs)(e:bB xs i=some v):∃x,bB vs i=some x/\aI K c H v x:=by
 unfold bB at e⊢;rw[<-r.length];cases z:bD xs.length i with
 |none=>rw[z]at e;cases e
 |some j=>
  rw[z]at e;exact r.get e
theorem acx:gM K (Ls K) aE:=λ{p S H a b c x y Q} s ra rb e k=>by
 cases b with
 |int i=>
  cases a with
  |lst xs=>
   obtain⟨a1,vs,rfl,l1,z1,r1⟩:=ra.lst;obtain⟨x,e1,r2⟩:=vE r1 e;exact .inl ⟨a1,vs,i,x,rfl,rb.int,l1,e1,k H x (dD.refl H) r2⟩
  |tup xs=>
   obtain⟨a1,vs,rfl,l1,z1,r1⟩:=ra.tup;obtain⟨x,e1,r2⟩:=vE r1 e;exact .inr (.inl ⟨a1,vs,i,x,rfl,rb.int,l1,e1,k H x (dD.refl H) r2⟩)
  |_=>cases e
 |_=>cases a<;>cases e
theorem abU(ha:aM K cl E X a ma)(hb:aM K cl E X b mb)(hs:rN b:=by intro _ _;rfl):aM K cl E X (.Subscript a b pos) (aC aE ma mb):=by
 intro hK;subst hK;refine(wP Wp (ha rfl) (hb rfl) hs).imp ?_
 rintro σ H Q ⟨p,S,ρ,s,e,h⟩
 exact bW s e h λq H1 a x S1 st s1 e1 r1 h1=>bW s1 e1 h1 λq2 H2 b y S2 st2 s2 e2 r2 h2=>uJ acx s2 (st2.repA r1) r2 h2
abbrev MO:=bT->aG->bK AG
def dX:MO:=λ_ S=>.ok none S
def iH:AV->aG->bK AG
 |.pv (.int i),S=>.ok (some i) S
 |_,_=>.fail
def eY(m:ME):MO:=λρ S=>(m ρ S).bind iH
abbrev RO:Ph->Hp->AG->AG->Prop:=λ_ _ a b=>a=b
variable(K cl E X)
def nP(e:Option ah)(m:MO):Prop:=X.K=K->PO X e (tP K cl E RO m)
variable{K cl E X}
theorem PO.imp{e:Option ah}{t t':TO}(h:PO X e t)(i:∀σ H Q,t' σ H Q->t σ H Q):PO X e t':=λAL s σ H Q I q=>h AL s σ H Q I (i σ H Q q)
theorem D4:nP K cl E X none dX:=λ_=>PO.imp V6 λσ H Q ⟨p,S,ρ,s,e,h⟩=>bR.ret (R:=RO) h s rfl
theorem Hy(h:aM K cl E X e m):nP K cl E X (some e) (eY m):=by
 intro hK;subst hK;refine PO.imp (Db (h rfl)) ?_
 rintro σ H Q ⟨p,S,ρ,s,e,h⟩
 refine bW s e h λq H1 a x S1 st s1 e1 r1 h1=>?_;unfold iH at h1;split at h1
 .rename_i i
  exact⟨i,(show eW X.K q H1 (.int i) x from .inl r1).int,bR.ret (R:=RO) h1 s1 rfl⟩
 .exact h1.elim
def jC(xs:AH)(lo hi:AG):AH:=(xs.drop (HT.sIx xs.length 0 lo)).take (HT.sIx xs.length xs.length hi-HT.sIx xs.length 0 lo)
def kF(v:PV)(lo hi:AG):AI:=match v with
 |.lst xs=>some (.lst (jC xs lo hi))
 |.tup xs=>if HT.sIx xs.length 0 lo=0/\HT.sIx xs.length xs.length hi=xs.length then none else some (.tup (jC xs lo hi))
 |_=>none
def fV(m:ME)(ml mh:MO):ME:=λρ S=>(m ρ S).bind λv S1=>(ml ρ S1).bind λlo S2=>(mh ρ S2).bind λhi S3=>gY ((rd S3 v).bind λx=>kF x lo hi) S3
theorem Ll{c:Addr->Prop}{H:Hp}{xs:AH}{vs:List V}{lo hi:AG}(r:aJ K c H xs vs):aJ K c H (jC xs lo hi) (nG vs lo hi):=by
 unfold jC nG;rw[<-r.length];exact(r.drop _).take _
theorem abA{lo hi:Option ah}{ml mh:MO}(he:aM K cl E X e m)(hl:nP K cl E X lo ml)(hu:nP K cl E X hi mh):aM K cl E X (.Subscript e (.Slice lo hi none p2) pos) (fV m ml mh):=by
 intro hK;subst hK;refine(Ny (nO.or T7 aa6) (he rfl) (hl rfl) (hu rfl)).imp ?_
 rintro σ H Q ⟨p,S,ρ,s,e,h⟩
 refine bW s e h λq H1 a x S1 st s1 e1 r1 h1=>bW s1 e1 h1 λq2 H2 lo lo' S2 st2 s2 e2 r2 h2=>bW s2 e2 h2 λq3 H3 hi hi' S3 dI s3 e3 r3 h3=>?_;cases r2;cases r3;have ra:=dI.repA (st2.repA r1);obtain⟨c,ec,k⟩:=oB s3 h3;cases z:rd S3 a with
 |none=>rw[z]at ec;cases ec
 |some v=>
  rw[z]at ec;have rv:=oG s3 ra z;cases v with
  |lst xs=>
   have ec:some (PV.lst (jC xs lo hi))=some c:=ec;cases ec;obtain⟨a1,vs,rfl,l1,z1,r1⟩:=rv.lst;exact .inl ⟨a1,vs,rfl,l1,λt ht=>k _ _ (gF ht) (kR s3 (Ll r1) (fh (tU vs lo hi) z1) ht)⟩
  |tup xs=>
   obtain⟨a1,vs,rfl,l1,z1,r1⟩:=rv.tup;have ec:(if HT.sIx xs.length 0 lo=0/\HT.sIx xs.length xs.length hi=xs.length then none else some (PV.tup (jC xs lo hi)))=some c:=ec;split at ec
   .cases ec
   .rename_i hw
    cases ec;rw[r1.length]at hw;exact .inr ⟨a1,vs,rfl,l1,hw,λt ht=>k _ _ (gF ht) (pV s3 (Ll r1) (fh (tU vs lo hi) z1) ht)⟩
  |_=>cases ec
theorem pP{id:String}{r:List V->Hp->VK->Prop}{f:AH->AI}{x:Str}{p:ai}(hc:iB X (.builtin id) r)(hf:jS X.K r f)(hg:Gl X x)(hm:X.mg x=none)(hv:bootBuiltins x=some (.builtin id))(ha:eF K cl E X (e::es) ms)(hn:x≠"__name__":=by decide)(hdb:(x==("__debug__":Str))=false:=by decide)
  (he:starEach (e::es) X.env=(false,eval e X.env)::starEach es X.env:=by rfl)(hpl:(backTo pos (starEach es X.env)).any (·.1)=false:=by rfl):aM K cl E X (.Call (.Name x p) (e::es) [] pos) (mR f ms):=by
 intro hK;subst hK;refine PE.imp (uY hc hg hm hv (ha rfl) hn hdb he hpl) ?_
 rintro σ H Q ⟨p,S,ρ,s,ev,h⟩
 exact bW s ev h λq H' as xs S' cJ sm ev r k=>Mh hf sm r k
theorem zL{T:String}{r:List V->Hp->VK->Prop}{f:AH->AI}{x:Str}{p:ai}(hc:iB X (.type T) r)(hf:jS X.K r f)(hg:Gl X x)(hm:X.mg x=none)(hv:bootBuiltins x=some (.type T))(ha:eF K cl E X (e::es) ms)(hn:x≠"__name__":=by decide)(hdb:(x==("__debug__":Str))=false:=by decide)
  (he:starEach (e::es) X.env=(false,eval e X.env)::starEach es X.env:=by rfl)(hpl:(backTo pos (starEach es X.env)).any (·.1)=false:=by rfl):aM K cl E X (.Call (.Name x p) (e::es) [] pos) (mR f ms):=by
 intro hK;subst hK;refine PE.imp (uH hc hg hm hv (ha rfl) hn hdb he hpl) ?_
 rintro σ H Q ⟨p,S,ρ,s,ev,h⟩
 exact bW s ev h λq H' as xs S' cJ sm ev r k=>Mh hf sm r k
def cY:AH->AI
 |[.lst xs]=>some (.int xs.length)
 |[.tup xs]=>some (.int xs.length)
 |_=>none
theorem abS:jS K (λxs H Q=>∃p ys,xs=[.ref p]/\(bS K H p ys\/cP K H p ys)/\Q (.int ys.length) H) cY:=λ{p S H as c xs Q} s ra e k=>by
 unfold cY at e;split at e
 .rename_i zs
  cases e;cases ra with
  |cons h t=>
   cases t;obtain⟨a,vs,rfl,l,z,r⟩:=h.lst;refine⟨a,vs,rfl,.inl l,?_⟩;rw[<-r.length];exact k H _ (dD.refl H) (iM (v:=.int zs.length) rfl)
 .rename_i zs
  cases e;cases ra with
  |cons h t=>
   cases t;obtain⟨a,vs,rfl,l,z,r⟩:=h.tup;refine⟨a,vs,rfl,.inr l,?_⟩;rw[<-r.length];exact k H _ (dD.refl H) (iM (v:=.int zs.length) rfl)
 .cases e
def oV:AH->AI
 |[.int i]=>some (.int (if i<0 then-i else i))
 |_=>none
theorem abJ:jS K (λxs H Q=>∃i,xs=[.int i]/\Q (.int (if i<0 then-i else i)) H) oV:=λ{p S H as c xs Q} s ra e k=>by
 unfold oV at e;split at e
 .rename_i i
  cases e;cases ra with
  |cons h t=>
   cases t;cases h.int;exact⟨i,rfl,k H _ (dD.refl H) (iM (v:=.int _) rfl)⟩
 .cases e
def iI:AH->AI
 |[.lst xs]=>some (.tup xs)
 |[.tup xs]=>some (.tup xs)
 |_=>none
theorem M3:jS K (λxs H Q=>∃p ys,xs=[.ref p]/\((bS K H p ys/\∀l,H l=none->Q (.ref l) (aK H l (.tup ys)))\/(cP K H p ys/\Q (.ref p) H))) iI:=λ{p S H as c xs Q} s ra e k=>by
 unfold iI at e;split at e
 .rename_i zs
  cases e;cases ra with
  |cons h t=>
   cases t;obtain⟨a,vs,rfl,l,z,r⟩:=h.lst;exact⟨a,vs,rfl,.inl ⟨l,λt ht=>k _ _ (gF ht) (pV s r z ht)⟩⟩
 .rename_i zs
  cases e;cases ra with
  |cons h t=>
   cases t;obtain⟨a,vs,rfl,l,z,r⟩:=h.tup;refine⟨a,vs,rfl,.inr ⟨l,k H _ (dD.refl H) ?_⟩⟩;unfold aI;exact⟨a,vs,rfl,l,z,r⟩
 .cases e
def mU:AH->AI
 |[.lst xs]=>some (.lst xs)
 |[.tup xs]=>some (.lst xs)
 |_=>none
theorem T6:jS K (λxs H Q=>∃p ys,xs=[.ref p]/\(bS K H p ys\/cP K H p ys)/\∀l,H l=none->Q (.ref l) (aK H l (.lst ys))) mU:=λ{p S H as c xs Q} s ra e k=>by
 unfold mU at e;split at e
 .rename_i zs
  cases e;cases ra with
  |cons h t=>
   cases t;obtain⟨a,vs,rfl,l,z,r⟩:=h.lst;exact⟨a,vs,rfl,.inl l,λt ht=>k _ _ (gF ht) (kR s r z ht)⟩
 .rename_i zs
  cases e;cases ra with
  |cons h t=>
   cases t;obtain⟨a,vs,rfl,l,z,r⟩:=h.tup;exact⟨a,vs,rfl,.inr l,λt ht=>k _ _ (gF ht) (kR s r z ht)⟩
 .cases e
def oK:AH->Option (List Bool)
 |[]=>some []
 |.bl b::r=>match oK r with
  |some bs=>some (b::bs)
  |none=>none
 |_::_=>none
def qI:AH->AI
 |[.lst xs]=>(oK xs).map λbs=>.bl (bs.all id)
 |_=>none
theorem Ij{c:Addr->Prop}{H:Hp}:∀{xs:AH}{bs:List Bool}{vs:List V},oK xs=some bs->aJ K c H xs vs->vs=bs.map V.bl
 |[],bs,vs,e,r=>by
  cases e;unfold aJ at r;exact r
 |.bl b::xs,bs,vs,e,r=>by
  unfold oK at e;split at e
  .rename_i cs h
   cases e;unfold aJ at r;obtain⟨v,w,rfl,r1,r2⟩:=r;unfold aI at r1;rw[r1,Ij h r2];rfl
  .cases e
 |.non::_,_,_,e,_=>by cases e
 |.int _::_,_,_,e,_=>by cases e
 |.str _::_,_,_,e,_=>by cases e
 |.tup _::_,_,_,e,_=>by cases e
 |.lst _::_,_,_,e,_=>by cases e
theorem abf:jS K (λxs H Q=>∃(a:Addr)(bs:List Bool),xs=[.ref a]/\bS K H a (bs.map V.bl)/\Q (.bl (bs.all id)) H) qI:=λ{p S H as c xs Q} s ra e k=>by
 unfold qI at e;split at e
 .rename_i zs
  cases y:oK zs with
  |none=>rw[y]at e;cases e
  |some bs=>
   rw[y]at e;cases e;cases ra with
   |cons h t=>
    cases t;obtain⟨a,vs,rfl,l,z,r⟩:=h.lst;rw[Ij y r]at l;exact⟨a,bs,rfl,l,k H _ (dD.refl H) (iM (v:=.bl _) rfl)⟩
 .cases e
def iP:AH->AI
 |[.int i]=>some (.int i)
 |[.bl b]=>some (.int (if b then 1 else 0))
 |_=>none
theorem aby:jS K (λxs H Q=>(∃i,xs=[.int i]/\Q (.int i) H)\/∃k,xs=[.bl k]/\Q (.int (if k then 1 else 0)) H) iP:=λ{p S H as c xs Q} s ra e k=>by
 unfold iP at e;split at e
 .rename_i i
  cases e;cases ra with
  |cons h t=>
   cases t;cases h.int;exact .inl ⟨i,rfl,k H _ (dD.refl H) (iM (v:=.int _) rfl)⟩
 .rename_i i
  cases e;cases ra with
  |cons h t=>
   cases t;cases h.bl;exact .inr ⟨i,rfl,k H _ (dD.refl H) (iM (v:=.int _) rfl)⟩
 .cases e
end
end
section
variable{K:ag}{cl:Str->Addr}{E:XK}{X:Cx}{a b c e l tg:ah}{es:List ah}{m ma mb:ME}{ms:MA}{pos:ai}{p q:Ph}{H H':Hp}{S:aG}
theorem aT.push(s:aT K p S H){D:Addr}{ps:AH}{vs:List V}(h:H D=none)(l:vs.length<=sizeLine)(r:aJ K p.c H ps vs):
  let q:Ph:=⟨p.f++[D],λa=>p.w a\/a=D,λa=>p.c a\/a=D⟩
  bI p H q (aK H D (.lst vs))/\aT K q (S++[.lst ps]) (aK H D (.lst vs)):=by
 intro q;obtain⟨st0,sm0⟩:=s.res (D:=D) (o:=.lst vs) h trivial;have nf0:D∉p.f:=λz=>s.notin h (s.wc D (s.sub D z));refine⟨⟨st0.wc,st0.mu,⟨[D],rfl⟩,st0.mw,st0.mono,λa x n=>?_,st0.nw,st0.nc,st0.keep⟩,?_,by simp[q,s.len],λa x=>?_,sm0.wc,sm0.mu,λk a o e1 e2=>?_⟩
 .rcases cj.mp x with z |z
  .exact absurd z n
  .have:a=D:=by simpa using z
   rw[this];exact h
 .show(p.f++[D]).Nodup
  rw[mf];refine⟨s.nd,by simp,λa ha b hb z=>?_⟩;have:b=D:=by simpa using hb
  exact nf0 (this▸z▸ha)
 .rcases cj.mp x with z |z
  .exact .inl (s.sub a z)
  .exact .inr (by simpa using z)
 .by_cases hk:k<S.length
  .have e1':p.f[k]?=some a:=by
    have e1:(p.f++[D])[k]?=some a:=e1
    rwa[ff (by rw[s.len];exact hk)]at e1
   rw[ff hk]at e2;refine(s.obj k a o e1' e2).mono (λvs e=>by rw[bH (fW e h)];exact e) (λb w f=>⟨⟨.inl w,λm=>?_⟩,λvs e=>by rw[bH (fW e h)];exact e⟩) λ_ _ r=>st0.reps r;rcases cj.mp m with z |z
   .exact f z
   .have:b=D:=by simpa using z
    exact s.notin h (this▸s.wc b w)
  .have hk':k=S.length:=by
    have:=(bo.mp e2).1;simp at this;omega
   subst hk';rw[dg (aj _),fx]at e2;have e1:(p.f++[D])[S.length]?=some a:=e1;rw[<-s.len,dg (aj _),fx]at e1;cases e1;cases e2;exact⟨vs,dR,l,st0.reps r⟩
theorem aT.write(s:aT K p S H){D:Addr}{k:Nat}{ps:AH}{vs:List V}(h:p.f[k]?=some D)(hk:k<S.length)(l:vs.length<=sizeLine)(r:aJ K p.c H ps vs):
  bI p H p (aK H D (.lst vs))/\aT K p (S.set k (.lst ps)) (aK H D (.lst vs)):=by
 have w:p.w D:=s.sub D (cu h);have st:bI p H p (aK H D (.lst vs)):=⟨s.wc,s.mu,jg,λ_ h=>h,λ_ h=>h,λ_ h g=>absurd h g,λ_ h g=>absurd h g,λ_ h g=>absurd h g,λa u e nw=>by
  rw[bH (λz:a=D=>nw (by rw[z];exact w))];exact e⟩
 refine⟨st,s.nd,by rw[fg];exact s.len,s.sub,s.wc,λa x=>?_,λj a o e1 e2=>?_⟩
 .by_cases z:a=D
  .rw[z,dR]
   exact⟨_,rfl,trivial⟩
  .rw[bH z]
   exact s.mu a x
 .by_cases hj:k=j
  .subst hj
   rw[h]at e1;cases e1;rw[dr hk]at e2;cases e2;exact⟨vs,dR,l,st.reps r⟩
  .rw[fe hj]at e2
   have ne:a≠D:=λq=>hj (nodup_idx s.nd h (q▸e1));exact(s.obj j a o e1 e2).mono (λvs e=>by rw[bH ne];exact e) (λb w f=>⟨⟨w,f⟩,λvs e=>by rw[bH (λz:b=D=>f (z▸cu h))];exact e⟩) λ_ _ r=>st.reps r
def lA(xs:AK)(S:aG):bK AV:=match nE xs with
 |some vs=>if vs.length<=16777216 then .ok (.ref S.length) (S++[.lst vs])else .fail
 |none=>.fail
def fE(ms:MA):ME:=λρ S=>(ms ρ S).bind lA
theorem S6(h:eF K cl E X es ms):aM K cl E X (.List es pos) (fE ms):=by
 intro hK;subst hK;refine(vY (h rfl)).imp ?_
 rintro σ H Q ⟨p,S,ρ,s,e,h⟩
 refine bW s e h λq H1 as xs S1 st s1 e1 r1 h1=>?_;unfold lA at h1;split at h1
 .rename_i vs hv
  split at h1
  .rename_i hl
   have r:=zD hv r1;rw[r.length,<-hU]at hl;refine⟨hl,λt ht=>?_⟩;obtain⟨st2,sm2⟩:=s1.push ht hl r;exact h1 _ _ (.ref t) st2 sm2 ⟨t,by show(q.f++[t])[S1.length]?=some t;rw[<-s1.len,dg (aj _),fx];rfl,rfl⟩
  .exact h1.elim
 .exact h1.elim
def iO(k:Nat)(ys:AK)(S:aG):bK AV:=match ys with
 |[.pv y]=>match S[k]? with
  |some (.lst xs)=>if xs.length<16777216 then .ok (.pv .non) (S.set k (.lst (xs++[y])))else .fail
  |_=>.fail
 |_=>.fail
def fB{α:Type}(k:AV)(S:aG)(f:Nat->bK α):bK α:=match k with
 |.ref k=>(match S[k]? with
  |some (.dic _ _)=>.fail
  |some (.dol _ _)=>.fail
  |_=>f k)
 |_=>.fail
theorem vA{α:Type}(k:Nat)(S:aG)(f:Nat->bK α):fB (.ref k) S f=.fail\/(fB (.ref k) S f=f k/\(∀n l,S[k]?≠some (.dic n l))/\∀n l,S[k]?≠some (.dol n l)):=by
 have e:fB (.ref k) S f=(match S[k]? with
  |some (.dic _ _)=>.fail
  |some (.dol _ _)=>.fail
  |_=>f k):=rfl
 rw[e];cases S[k]? with
 |none=>exact .inr ⟨rfl,λ_ _ z=>(nomatch z),λ_ _ z=>(nomatch z)⟩
 |some o=>
  cases o with
  |dic n l=>exact .inl rfl
  |dol n l=>exact .inl rfl
  |lst xs=>exact .inr ⟨rfl,λ_ _ z=>(nomatch z),λ_ _ z=>(nomatch z)⟩
  |lol xs=>exact .inr ⟨rfl,λ_ _ z=>(nomatch z),λ_ _ z=>(nomatch z)⟩
def dQ(m:ME)(ms:MA):ME:=λρ S=>(m ρ S).bind λk S1=>fB k S1 λk=>(ms ρ S1).bind λys S2=>iO k ys S2
theorem Kb{k:Nat}{x:V}(s:aT K p S H)(r:bX K p H (.ref k) x)(n1:∀n l,S[k]?≠some (.dic n l))(n2:∀n l,S[k]?≠some (.dol n l)):Je K "list" x H:=by
 obtain⟨a,e,rfl⟩:=r;have hk:k<S.length:=by
  have:=(bo.mp e).1;rw[<-s.len];exact this
 have z:=s.obj k a S[k] e (au hk);cases y:S[k]with
 |lst xs=>
  rw[y]at z;obtain⟨vs,h,_⟩:=z;exact .inl ⟨rfl,vs,bS.of h⟩
 |lol xss=>
  rw[y]at z;obtain⟨bs,h,_⟩:=z;exact .inl ⟨rfl,_,bS.of h⟩
 |dic n l=>exact absurd (by rw[au hk,y]) (n1 n l)
 |dol n l=>exact absurd (by rw[au hk,y]) (n2 n l)
theorem Ww{apos cpos:ai}(ho:aM K cl E X a m)(ha:eF K cl E X [e] ms)(hbase:attributeBase a "append" X.env (eval a X.env)=eval a X.env:=by rfl)
  (hfew:((backTo cpos (starEach [e] X.env)).all (λx=>!x.1)&&(backToKw cpos (keywordEach [] X.env)).all (λx=>x.1.isSome)&&decide (([e]:List ah).length+([]:List ft).length+(if([]:List ft).isEmpty then 0 else 1)<30))=true:=by rfl)
  (hline:(apos.endLine==cpos.line)=true:=by rfl)(hs:starEach [e] X.env=[(false,eval e X.env)]:=by rfl):aM K cl E X (.Call (.Attribute a "append" apos) [e] [] cpos) (dQ m ms):=by
 intro hK;subst hK;refine PE.imp (wK tz rl xk pL (ho rfl) (ha rfl) hbase hfew hline hs rfl) ?_
 rintro σ H Q ⟨p,S,ρ,s,ev,h⟩
 refine bW s ev h λq H1 k x S1 st s1 e1 r1 h1=>?_;cases k with
 |pv v=>exact h1.elim
 |ref k=>
  have h1:bR X.K cl (bX X.K) q H1 (fB (.ref k) S1 λk=>(ms ρ S1).bind λys S2=>iO k ys S2) Q E:=h1;rcases vA k S1 (λk=>(ms ρ S1).bind λys S2=>iO k ys S2)with z |⟨z,n1,n2⟩
  .rw[z]at h1
   exact h1.elim
  rw[z]at h1;refine⟨Kb s1 r1 n1 n2,bW s1 e1 h1 λq2 H2 ys xs S2 st2 s2 e2 r2 h2=>?_⟩;obtain⟨a,ea,rfl⟩:=st2.repA r1;unfold iO at h2;split at h2
  .rename_i y
   cases r2 with
   |cons r3 r4=>
    cases r4;rename_i x;cases z:S2[k]? with
    |none=>rw[z]at h2;exact h2.elim
    |some o=>
     cases o with
     |lol _=>simp only[z]at h2;exact h2.elim
     |dic _ _=>simp only[z]at h2;exact h2.elim
     |dol _ _=>simp only[z]at h2;exact h2.elim
     |lst zs=>
      simp only[z]at h2;obtain⟨vs,h3,l3,r4⟩:=s2.obj k a _ ea z;split at h2
      .rename_i hl
       rw[r4.length]at hl;have hz:=hU;refine⟨a,vs,x,rfl,rfl,h3,by omega,?_⟩;obtain⟨dI,sm3⟩:=s2.write ea (bo.mp z).1 (ps:=zs++[y]) (vs:=vs++[x]) (by rw[bi,jv];omega) (r4.append (.cons r3 .nil));exact h2 _ _ .non dI sm3 (by show aI X.K q2.c (aK H2 a (.lst (vs++[x]))) .non .non;unfold aI;rfl)
      .exact h2.elim
  .exact h2.elim
def oN(k:Nat)(ys:AK)(S:aG):bK AV:=match ys with
 |[.pv (.int i)]=>if-9223372036854775808<=i/\i<9223372036854775808 then(match S[k]? with
  |some (.lst xs)=>match seqIndex? i xs.length with
   |some j=>match xs[j]? with
    |some v=>.ok (.pv v) (S.set k (.lst (xs.eraseIdx j)))
    |none=>.fail
   |none=>.fail
  |_=>.fail)else .fail
 |_=>.fail
def nH(m:ME)(ms:MA):ME:=λρ S=>(m ρ S).bind λk S1=>fB k S1 λk=>(ms ρ S1).bind λys S2=>oN k ys S2
theorem aa4{apos cpos:ai}(ho:aM K cl E X a m)(ha:eF K cl E X [e] ms)(hbase:attributeBase a "pop" X.env (eval a X.env)=eval a X.env:=by rfl)
  (hfew:((backTo cpos (starEach [e] X.env)).all (λx=>!x.1)&&(backToKw cpos (keywordEach [] X.env)).all (λx=>x.1.isSome)&&decide (([e]:List ah).length+([]:List ft).length+(if([]:List ft).isEmpty then 0 else 1)<30))=true:=by rfl)
  (hline:(apos.endLine==cpos.line)=true:=by rfl)(hs:starEach [e] X.env=[(false,eval e X.env)]:=by rfl):aM K cl E X (.Call (.Attribute a "pop" apos) [e] [] cpos) (nH m ms):=by
 intro hK;subst hK;refine PE.imp (wK tz PySem.F.slot_list_pop PySem.F.type_list_pop Wz (ho rfl) (ha rfl) hbase hfew hline hs rfl) ?_
 rintro σ H Q ⟨p,S,ρ,s,ev,h⟩
 refine bW s ev h λq H1 k x S1 st s1 e1 r1 h1=>?_;cases k with
 |pv v=>exact h1.elim
 |ref k=>
  have h1:bR X.K cl (bX X.K) q H1 (fB (.ref k) S1 λk=>(ms ρ S1).bind λys S2=>oN k ys S2) Q E:=h1;rcases vA k S1 (λk=>(ms ρ S1).bind λys S2=>oN k ys S2)with z |⟨z,n1,n2⟩
  .rw[z]at h1
   exact h1.elim
  rw[z]at h1;refine⟨Kb s1 r1 n1 n2,bW s1 e1 h1 λq2 H2 ys xs S2 st2 s2 e2 r2 h2=>?_⟩;obtain⟨a,ea,rfl⟩:=st2.repA r1;unfold oN at h2;split at h2
  .rename_i i
   cases r2 with
   |cons r3 r4=>
    cases r4;rename_i x;have ex:x=.int i:=(show eW X.K q2 H2 (.int i) x from .inl r3).int;subst ex;split at h2
    .rename_i hi
     cases z:S2[k]? with
     |none=>rw[z]at h2;exact h2.elim
     |some o=>
      cases o with
      |lol _=>simp only[z]at h2;exact h2.elim
      |dic _ _=>simp only[z]at h2;exact h2.elim
      |dol _ _=>simp only[z]at h2;exact h2.elim
      |lst zs=>
       simp only[z]at h2;obtain⟨vs,h3,l3,r4⟩:=s2.obj k a _ ea z;cases y:seqIndex? i zs.length with
       |none=>simp only[y]at h2;exact h2.elim
       |some j=>
        simp only[y]at h2;cases yv:zs[j]? with
        |none=>simp only[yv]at h2;exact h2.elim
        |some v=>
         simp only[yv]at h2;obtain⟨u,eu,ru⟩:=r4.get yv;refine⟨a,vs,i,j,u,rfl,rfl,h3,hi.1,hi.2,by rw[<-r4.length];exact y,eu,?_⟩;obtain⟨dI,sm3⟩:=s2.write ea (bo.mp z).1 (ps:=zs.eraseIdx j) (vs:=vs.eraseIdx j) (fh (zQ vs j) l3) (r4.eraseIdx j);exact h2 _ _ u dI sm3 (dI.rep ru)
    .exact h2.elim
  .exact h2.elim
def qE(k:Nat)(i:AV)(v:AV)(S:aG):bK Unit:=match i,v with
 |.pv (.int i),.pv v=>match S[k]? with
  |some (.lst xs)=>match bD xs.length i with
   |some j=>.ok () (S.set k (.lst (xs.set j v)))
   |none=>.fail
  |_=>.fail
 |_,_=>.fail
def oI(mo mi mv:ME):MS:=λρ S=>bZ.of (mv ρ S) λv S1=>bZ.of (mo ρ S1) λk S2=>bZ.of (mi ρ S2) λi S3=>bZ.of (fB k S3 λk=>qE k i v S3) λ_ S4=>.nx ρ S4
theorem Lx{o i v:ah}{mo mi mv:ME}{tpos:ai}(hv:aM K cl E X v mv)(ho:aM K cl E X o mo)(hi:aM K cl E X i mi)
  (ha:∀v,assign (.Subscript o i tpos) X.env v=(do
   let ov <-holding [v] (eval o X.env)
   let iv <-holding [v,ov] (eval i X.env)
   standAt tpos
   holding [v,ov,iv] (setItem ov iv v)
   release [v,ov,iv] []):=by intro _;rfl)
  (hs:swapsWithSole [.Subscript o i tpos] v pos.line X.env=pure false:=by rfl)(hw:swappedStores [.Subscript o i tpos] v X.env=pure none:=by rfl)
  (h1:(assignEach [.Subscript o i tpos] X.env).map (·.2)=[assign (.Subscript o i tpos) X.env]:=by rfl):eA K cl E X (.Assign [.Subscript o i tpos] v pos) (oI mo mi mv):=by
 intro hK;subst hK;refine PS.imp (vU (hv rfl) (Ic (ho rfl) (hi rfl) Fk ha) hs hw h1) ?_
 rintro D σ H ⟨p,S,ρ,s,ev,h⟩
 refine iE s ev h λq H1 v x S1 st s1 e1 r1 h1=>?_;refine iE s1 e1 h1 λq2 H2 k y S2 st2 s2 e2 r2 h2=>?_;refine iE s2 e2 h2 λq3 H3 i z S3 dI s3 e3 r3 h3=>?_;cases k with
 |pv _=>exact h3.elim
 |ref k=>
  obtain⟨a,ea,rfl⟩:=dI.repA r2;have rv:=dI.repA (st2.repA r1);have h3:dS X.K cl q3 H3 (bZ.of (fB (.ref k) S3 λk=>qE k i v S3) λ_ S4=>.nx ρ S4) D E:=h3;rcases vA k S3 (λk=>qE k i v S3)with z0 |⟨z0,_,_⟩
  .rw[z0]at h3
   exact h3.elim
  rw[z0]at h3;unfold qE at h3;split at h3
  .rename_i ii vv _
   have ez:z=.int ii:=(show eW X.K q3 H3 (.int ii) z from .inl r3).int;subst ez;cases w:S3[k]? with
   |none=>rw[w]at h3;exact h3.elim
   |some o=>
    cases o with
    |lol _=>simp only[w]at h3;exact h3.elim
    |dic _ _=>simp only[w]at h3;exact h3.elim
    |dol _ _=>simp only[w]at h3;exact h3.elim
    |lst zs=>
     simp only[w]at h3;obtain⟨vs,hh,ll,rr⟩:=s3.obj k a _ ea w;cases y:bD zs.length ii with
     |none=>simp only[y]at h3;exact h3.elim
     |some j=>
      simp only[y]at h3;refine⟨a,vs,ii,j,rfl,rfl,hh,by rw[<-rr.length];exact y,?_⟩;obtain⟨st4,sm4⟩:=s3.write ea (bo.mp w).1 (ps:=zs.set j vv) (vs:=vs.set j x) (by rw[fg];exact ll) (aJ.set rv j rr);exact h3 _ _ _ st4 sm4 (st4.repE e3)
  .exact h3.elim
def eI:AH->AH->AH
 |x::xs,y::ys=>.tup [x,y]::eI xs ys
 |_,_=>[]
theorem Aa:∀(xs ys:AH),(eI xs ys).length=min xs.length ys.length
 |[],ys=>by cases ys<;>simp[eI]
 |x::xs,[]=>by simp[eI]
 |x::xs,y::ys=>by
  unfold eI;rw[cg,Aa xs ys,cg,cg];omega
theorem Uj:∀{xs ys:AH}{i:Nat}{v:PV},(eI xs ys)[i]?=some v->∃x y,xs[i]?=some x/\ys[i]?=some y/\v=.tup [x,y]
 |[],ys,i,v,e=>by cases ys<;>simp[eI]at e
 |x::xs,[],i,v,e=>by simp[eI]at e
 |x::xs,y::ys,0,v,e=>by
  unfold eI at e;simp at e;exact⟨x,y,rfl,rfl,e.symm⟩
 |x::xs,y::ys,i+1,v,e=>by
  unfold eI at e;obtain⟨a,b,h1,h2,h3⟩:=Uj (xs:=xs) (ys:=ys) (i:=i) (v:=v) (by simpa using e);exact⟨a,b,by simpa using h1,by simpa using h2,h3⟩
def kA:AK->aG->bK (AH×Gd)
 |[a,b],S=>match cO a S with
  |.ok xs _=>match cO b S with
   |.ok ys _=>.ok (eI xs.1 ys.1,xs.2++ys.2) S
   |_=>.fail
  |_=>.fail
 |_,_=>.fail
def gA(ms:MA):MI:=λρ S=>(ms ρ S).bind kA
theorem Jk{a:AV}{x:V}{xs:AH×Gd}{S':aG}(s:aT K p S H)(r:bX K p H a x)(e:cO a S=.ok xs S'):∃f ad vs,x=.ref ad/\iS f K H ad vs/\xs.1.length<=sizeLine/\∀q H1 S1,bI p H q H1->aT K q S1 H1->gZ xs.2 S1->∃vs,iS f K H1 ad vs/\aJ K q.c H1 xs.1 vs:=by
 cases a with
 |ref j=>
  obtain⟨a,e1,rfl⟩:=r;unfold cO at e;dsimp only at e;cases z:S[j]? with
  |none=>rw[z]at e;cases e
  |some o=>
   cases o with
   |lol _=>rw[z]at e;cases e
   |dic _ _=>rw[z]at e;cases e
   |dol _ _=>rw[z]at e;cases e
   |lst ys=>
    rw[z]at e;cases e;obtain⟨vs,h1,l1,r1⟩:=s.obj j a _ e1 z;refine⟨false,a,vs,rfl,bS.of h1,by rw[r1.length];exact l1,λq H1 S1 st sm g=>?_⟩;obtain⟨ws,h2,l2,r2⟩:=sm.obj j a _ (st.at_ e1) (g (j,ys) ay);exact⟨ws,bS.of h2,r2⟩
 |pv v=>
  cases v with
  |lst ys=>
   cases e;have r:aI K p.c H (.lst ys) x:=r;unfold aI at r;obtain⟨a,vs,rfl,l,z,r⟩:=r;exact⟨false,a,vs,rfl,l.sq,by rw[r.length];exact z,λq H1 S1 st sm g=>⟨vs,(st.lat l).sq,st.reps r⟩⟩
  |tup ys=>
   cases e;have r:aI K p.c H (.tup ys) x:=r;unfold aI at r;obtain⟨a,vs,rfl,l,z,r⟩:=r;exact⟨true,a,vs,rfl,l,by rw[r.length];exact z,λq H1 S1 st sm g=>⟨vs,st.tup l,st.reps r⟩⟩
  |_=>cases e
theorem O3{elts:List ah}{x1:Nat}{tp p:ai}(hg:Gl X "zip")(hm:X.mg "zip"=none)(hl:eF K cl E X [a,b] ms)(hs:starEach [a,b] X.env=[(false,eval a X.env),(false,eval b X.env)]:=by rfl)(hs2:starEach [b] X.env=[(false,eval b X.env)]:=by rfl):
  PIp K cl E X (.Tuple elts x1 tp) (.Call (.Name "zip" p) [a,b] [] pos) (gA ms):=by
 intro hK;subst hK;refine PI.imp (aa9 hg hm (hl rfl) hs hs2) ?_
 rintro σ H R ⟨p,S,ρ,s,ev,h⟩
 refine bW s ev h λq H' as xs S' cJ sm ev r k=>?_;unfold kA at k;split at k
 .rename_i u v
  cases r with
  |cons r1 r2=>
   cases r2 with
   |cons r2 r3=>
    cases r3;split at k
    .rename_i xs1 S1 hx
     split at k
     .rename_i ys1 S2 hy
      obtain⟨f1,a1,vs1,rfl,q1,z1,st1⟩:=Jk sm r1 hx;obtain⟨f2,a2,vs2,rfl,q2,z2,st2⟩:=Jk sm r2 hy;refine⟨f1,a1,f2,a2,vs1,vs2,rfl,q1,q2,bR.ret (R:=eV X.K) k sm ?_⟩;refine⟨by rw[Aa];omega,λq3 H3 S3 dI sm3 g3=>?_⟩;obtain⟨ws1,w1,rr1⟩:=st1 q3 H3 S3 dI sm3 λg hg=>g3 g (kw _ hg);obtain⟨ws2,w2,rr2⟩:=st2 q3 H3 S3 dI sm3 λg hg=>g3 g (da _ hg);refine⟨λi v e=>?_,?_⟩
      .obtain⟨x,y,ex,ey,rfl⟩:=Uj e
       obtain⟨x',ex',rx⟩:=rr1.get ex;obtain⟨y',ey',ry⟩:=rr2.get ey;refine⟨⟨ws1,ws2,x',y',w1,w2,ex',ey'⟩,λz H4 hz=>?_⟩;obtain⟨t,x2,y2,ht,rfl,rfl,g1,g2⟩:=hz;have e1:=(g1 ws1 w1).symm.trans ex';have e2:=(g2 ws2 w2).symm.trans ey';cases e1;cases e2;refine⟨gF ht,pV sm3 (.cons rx (.cons ry .nil)) (by show 2<=sizeLine;decide) ht⟩
      .refine⟨ws1,ws2,w1,w2,?_⟩
       show(eI xs1.1 ys1.1).length=_\/_;rw[Aa,rr1.length,rr2.length];omega
     .exact k.elim
    .exact k.elim
 .exact k.elim
def iN:Nat->AH->AH
 |_,[]=>[]
 |n,x::xs=>.tup [.int n,x]::iN (n+1) xs
theorem zX:∀(n:Nat)(xs:AH),(iN n xs).length=xs.length
 |_,[]=>rfl
 |n,x::xs=>by
  unfold iN;rw[cg,zX (n+1) xs,cg]
theorem Ci:∀{n:Nat}{xs:AH}{i:Nat}{v:PV},(iN n xs)[i]?=some v->∃x,xs[i]?=some x/\v=.tup [.int ((n+i:Nat):Int),x]
 |n,[],i,v,e=>by simp[iN]at e
 |n,x::xs,0,v,e=>by
  unfold iN at e;simp at e;exact⟨x,rfl,e.symm⟩
 |n,x::xs,i+1,v,e=>by
  unfold iN at e;obtain⟨y,h1,h2⟩:=Ci (n:=n+1) (xs:=xs) (i:=i) (v:=v) (by simpa using e);refine⟨y,by simpa using h1,?_⟩;rw[h2,show n+1+i=n+(i+1) by omega]
def Ub:AK->aG->bK (AH×Gd)
 |[.pv (.lst xs)],S=>.ok (iN 0 xs,[]) S
 |[.ref k],S=>match cO (.ref k) S with
  |.ok xs _=>.ok (iN 0 xs.1,xs.2) S
  |_=>.fail
 |_,_=>.fail
def wJ(ms:MA):MI:=λρ S=>(ms ρ S).bind Ub
theorem To{xs:AH}{G:Gd}{a:Addr}(z:xs.length<=sizeLine)(st1:∀q H1 S1,bI p H q H1->aT K q S1 H1->gZ G S1->∃vs,bS K H1 a vs/\aJ K q.c H1 xs vs):eV K p H (iN 0 xs,G) (Oe K a):=by
 refine⟨by rw[zX];exact z,λq3 H3 S3 dI sm3 g3=>?_⟩;obtain⟨ws1,w1,rr1⟩:=st1 q3 H3 S3 dI sm3 g3;refine⟨λi v e=>?_,?_⟩
 .obtain⟨x,ex,rfl⟩:=Ci e
  obtain⟨x',ex',rx⟩:=rr1.get ex;refine⟨⟨ws1,x',w1,ex'⟩,λz H4 hz=>?_⟩;obtain⟨t,y2,ht,rfl,rfl,g1⟩:=hz;have e1:=(g1 ws1 w1).symm.trans ex';cases e1;refine⟨gF ht,pV sm3 (.cons ?_ (.cons rx .nil)) (by show 2<=sizeLine;decide) ht⟩;rw[Nat.zero_add];exact iM (v:=.int _) rfl
 .refine⟨ws1,w1,?_⟩
  show _<=(iN 0 xs).length;rw[zX,rr1.length];exact aj _
theorem Ey{elts:List ah}{x1:Nat}{tp p:ai}(hg:Gl X "enumerate")(hm:X.mg "enumerate"=none)(hl:eF K cl E X [l] ms)(hs:starEach [l] X.env=[(false,eval l X.env)]:=by rfl):
  PIp K cl E X (.Tuple elts x1 tp) (.Call (.Name "enumerate" p) [l] [] pos) (wJ ms):=by
 intro hK;subst hK;refine PI.imp (U4 hg hm (hl rfl) hs) ?_
 rintro σ H R ⟨p,S,ρ,s,ev,h⟩
 refine bW s ev h λq H' as xs S' cJ sm ev r k=>?_;unfold Ub at k;split at k
 .rename_i ys
  cases r with
  |cons r1 r2=>
   cases r2;rename_i x;have r1:aI X.K q.c H' (.lst ys) x:=r1;unfold aI at r1;obtain⟨a,vs,rfl,l,z,r⟩:=r1;exact⟨a,rfl,⟨vs,l.sq⟩,bR.ret (R:=eV X.K) k sm (To (by rw[r.length];exact z) λq H1 S1 st sm g=>⟨vs,(st.lat l).sq,st.reps r⟩)⟩
 .rename_i j
  cases r with
  |cons r1 r2=>
   cases r2;split at k
   .rename_i xs1 S1 hx
    obtain⟨a,e1,rfl⟩:=r1;cases z:S'[j]? with
    |none=>unfold cO at hx;simp only[z]at hx;cases hx
    |some o=>
     cases o with
     |lol _=>unfold cO at hx;simp only[z]at hx;cases hx
     |dic _ _=>unfold cO at hx;simp only[z]at hx;cases hx
     |dol _ _=>unfold cO at hx;simp only[z]at hx;cases hx
     |lst ys=>
      unfold cO at hx;simp only[z]at hx;cases hx;obtain⟨vs,h1,l1,r1⟩:=sm.obj j a _ e1 z;refine⟨a,rfl,⟨vs,bS.of h1⟩,bR.ret (R:=eV X.K) k sm (To (by rw[r1.length];exact l1) λq H1 S1 st sm g=>?_)⟩;obtain⟨ws,h2,l2,r2⟩:=sm.obj j a _ (st.at_ e1) (g (j,ys) ay);exact⟨ws,bS.of h2,r2⟩
   .exact k.elim
 .exact k.elim
end
theorem mH{A:aq}{k:Nat}(hr:dP k A):A.units+8<cLine:=by
 have:=hr.units;omega
section
variable{K:ag}{cl:Str->Addr}{E:XK}{X:Cx}{a b c e l tg:ah}{es:List ah}{m ma mb:ME}{ms:MA}{pos:ai}{p q:Ph}{H H':Hp}{S:aG}
def jQ(n:String):PV->AI
 |.int _=>if n="int" then some (.bl true)else if n="bool" then some (.bl false)else none
 |.tup _=>if n="tuple" then some (.bl true)else none
 |.lst _=>if n="list" then some (.bl true)else none
 |.str _=>if n="str" then some (.bl true)else none
 |.bl _=>if n="bool" then some (.bl true)else none
 |_=>none
theorem rL(K:ag)(n:String):kl K (.type n) (.type n)=some true:=by
 unfold kl;rw[if_pos (beq_self_eq_true _)]
def Vd(K:ag)(n:String):V->Hp->VK->Prop:=λx H Q=>(∃t b,jB K H x t/\kl K t (.type n)=some b/\Q (.bl b) H)\/(n="tuple"/\∃a xs,x=.ref a/\cP K H a xs/\Q (.bl true) H)\/(n="list"/\∃a xs,x=.ref a/\bS K H a xs/\Q (.bl true) H)
theorem Di(n:String):iB X (.builtin "isinstance") (λxs H Q=>∃x,xs=[x,.ty n]/\Vd X.K n x H Q):=by
 intro AL s σ H xs us Q I r h;obtain⟨x,rfl,h⟩:=h;obtain⟨u,c,rfl,rx,rc⟩:=Jq r;cases(show c=kg n from rc);rcases h with⟨t,b,ty,e,q⟩|⟨rfl,a,xs,rfl,t,q⟩|⟨rfl,a,xs,rfl,t,q⟩
 .exact Yx I rx ty e λtk=>⟨.bl b,H,I.tok tk,rfl,q⟩
 .cases rx
  obtain⟨its,_,⟨o,h1,h2,_⟩,_⟩:=I.tuple t;exact ix zg I.kIn ⟨o,h1,h2⟩ (rL X.K "tuple") (λz=>nomatch z) λtk=>⟨.bl true,H,I.tok tk,rfl,q⟩
 .cases rx
  obtain⟨its,_,pl,_⟩:=I.list t;obtain⟨o,h1,h2,_⟩:=pl.isList;exact ix ve I.kIn ⟨o,h1,h2⟩ (rL X.K "list") (λz=>nomatch z) λtk=>⟨.bl true,H,I.tok tk,rfl,q⟩
theorem abz(n:String):tO K (Vd K n) (jQ n):=λ{p S H a c x Q} s ra e k=>by
 have fin:∀b,c=.bl b->Q (.bl b) H:=λb h=>by
  subst h;exact k H _ (dD.refl H) (by unfold aI;rfl)
 cases a with
 |int i=>
  cases ra.int;unfold jQ at e;dsimp only at e;split at e
  .rename_i hn
   cases e;subst hn;exact .inl ⟨_,true,.int i,rL K _,fin _ rfl⟩
  .split at e
   .rename_i hn
    cases e;subst hn;exact .inl ⟨_,false,.int i,aaO K,fin _ rfl⟩
   .cases e
 |bl i=>
  cases ra.bl;unfold jQ at e;dsimp only at e;split at e
  .rename_i hn
   cases e;subst hn;exact .inl ⟨_,true,.bl i,rL K _,fin _ rfl⟩
  .cases e
 |str i=>
  cases ra.str;unfold jQ at e;dsimp only at e;split at e
  .rename_i hn
   cases e;subst hn;exact .inl ⟨_,true,.str i,rL K _,fin _ rfl⟩
  .cases e
 |tup xs=>
  obtain⟨a,vs,rfl,t,_,_⟩:=ra.tup;unfold jQ at e;dsimp only at e;split at e
  .rename_i hn
   cases e;exact .inr (.inl ⟨hn,a,vs,rfl,t,fin _ rfl⟩)
  .cases e
 |lst xs=>
  obtain⟨a,vs,rfl,t,_,_⟩:=ra.lst;unfold jQ at e;dsimp only at e;split at e
  .rename_i hn
   cases e;exact .inr (.inr ⟨hn,a,vs,rfl,t,fin _ rfl⟩)
  .cases e
 |non=>cases e
theorem Ao{n:String}{t:Str}{p p2:ai}(hg:Gl X "isinstance")(hm:X.mg "isinstance"=none)(hgt:Gl X t)(hmt:X.mg t=none)(hv:bootBuiltins t=some (.type n))(ha:aM K cl E X a m)
  (htn:t≠"__name__":=by decide)(htd:(t==("__debug__":Str))=false:=by decide)
  (he:starEach [a,.Name t p2] X.env=(false,eval a X.env)::starEach [.Name t p2] X.env:=by rfl)(he2:starEach [.Name t p2] X.env=[(false,eval (.Name t p2) X.env)]:=by rfl)(hpl:(backTo pos (starEach [.Name t p2] X.env)).any (·.1)=false:=by rfl):
  aM K cl E X (.Call (.Name "isinstance" p) [a,.Name t p2] [] pos) (cL (jQ n) m):=by
 intro hK;subst hK;refine PE.imp (uY (Di n) hg hm l7 (jL (ha rfl) (jL (Ml hgt hmt hv (v:=.ty n) rfl htn htd) kW he2) he) (by decide) (by decide) he hpl) ?_
 rintro σ H Q ⟨p,S,ρ,s,ev,h⟩
 exact bW s ev h λq H' as x S' cJ sm ev r k=>⟨x,rfl,uO (abz n) sm r k⟩
def wL(K:ag):Sp:=λvs H Q _=>∃(a:Addr)(ns:AA),vs=[.ref a]/\bS K H a (ns.map V.int)/\ns.length<=63/\∀H',Q (.bl true) H'
theorem V3{f:FM}(ht:∀ns:AA,ns.length<=63->∃S,f [.pv (.lst (ns.map .int))] []=.ok (.pv (.bl true)) S){vs:List V}{H:Hp}{Q:VK}{E:XK}(h:wL K vs H Q E):jD K cl f vs H Q E:=by
 obtain⟨a,ns,rfl,hS,hl,hQ⟩:=h;obtain⟨S,e⟩:=ht ns hl;have rs:∀(ns:AA),aJ K (λ_=>False) H (ns.map .int) (ns.map V.int):=λns=>by
  induction ns with
  |nil=>exact .nil
  |cons n ns ih=>exact .cons (by unfold aI;rfl) ih
 refine⟨⟨[],λ_=>False,λ_=>False⟩,[],[.pv (.lst (ns.map .int))],⟨mn,rfl,(λ_ h=>absurd h (iw)),(λ_ h=>h),(λ_ h=>h.elim),(λk a o e=>by simp at e)⟩,.cons ?_ .nil,?_⟩
 .show aI K (λ_=>False) H (.lst (ns.map .int)) (.ref a)
  unfold aI;refine⟨a,_,rfl,?_,?_,rs ns⟩
  .rcases hS with(h |h) |h
   .exact .inl ⟨h,λz=>z⟩
   .exact .inr (.inl h)
   .exact .inr (.inr h)
  .rw[am,hU]
   omega
 .rw[e]
  intro q H' x st sm r;have r:aI K q.c H' (.bl true) x:=r;unfold aI at r;rw[r];exact hQ H'
end
section
variable{K:ag}{cl:Str->Addr}{E:XK}{X:Cx}{e:ah}{es:List ah}{ms:MA}{p q:Ph}{H H':Hp}{S:aG}
theorem dB.forget{ρ:bT}{σ:St}(h:dB K p H ρ σ)(i:Nat)(x:Option V):dB K p H (ρ.set i none) (σ.set i x):=by
 refine⟨by rw[fg,fg,h.len],λj u e=>?_⟩
 by_cases q:i=j
 .subst q
  by_cases l:i<ρ.length
  .rw[dr l]at e
   cases e
  .rw[ko (by rw[fg];omega)]at e
   cases e
 .rw[fe q]at e⊢
  exact h.at_ j u e
variable{k:Nat}{f:Addr}{fd:cf}{ps:List Str}{g:FM}{dvs:List V}{ds:AD}{dv:AH}{x:Str}{pp pos pos1 pos2 pos3 pc:ai}{c n:Str}{i nn:Nat}{AR:Stmt}{body:List Stmt}{newId:String}{up:bT->bT}
end
end L2.Pp
namespace L2
open PySem PySem.Spec PyProof.Rows Bn
section
variable{X:Cx}{k:Nat}{f:Addr}{fd:cf}{ps:List Str}{sp:Sp}{dvs:List V}{ds:AD}{x:Str}{p pos pos1 pos2 pos3 pc:ai}{e:ah}{es:List ah}{t:TA}{c n:Str}{C:Addr}{i:Nat}{AR:Stmt}{body:List Stmt}{newId:String}
end
end L2
namespace L2.Pp
open PySem PySem.Spec PyProof.Rows Bn
section
variable{K:ag}{cl:Str->Addr}{E:XK}{X:Cx}{e:ah}{es:List ah}{ms:MA}{p q:Ph}{H H':Hp}{S:aG}
variable{k:Nat}{f:Addr}{fd:cf}{ps:List Str}{g:FM}{dvs:List V}{ds:AD}{dv:AH}{x:Str}{pp pos pos1 pos2 pos3 pc:ai}{c n:Str}{i nn:Nat}{AR:Stmt}{body:List Stmt}{newId:String}{up:bT->bT}
end
section
variable{prog:Program}{w:al}{A:aq}{E:Value->aa->Prop}{s:aa}
end
end L2.Pp
namespace L2
open PySem PyProof.Rows
end L2
namespace L2.Pp
open PySem
end L2.Pp
namespace L2
open PySem PySem.Spec PyProof.Rows Bn
section
variable{X:Cx}
theorem Bg(is:AA):∀j,j<=is.length->preSum (λi=>is.getD i 0) j=(is.take j).sum
 |0,_=>by simp[preSum]
 |j+1,h=>by
  have hj:j<is.length:=h;rw[preSum,Bg is j (by omega),List.take_add_one,au hj,Option.toList_some,List.sum_append,List.sum_singleton];simp only[br,au hj,ua]
theorem Cw(hc:X.calm=true):iB X (.builtin "sum") (λxs H Q=>∃(a:Addr)(is:AA),xs=[.ref a]/\bS X.K H a (is.map V.int)/\Q (.int is.sum) H):=by
 intro AL s σ H xs us Q I r h;obtain⟨a,is,rfl,hq,q⟩:=h;obtain⟨u,rfl,ru⟩:=iY r;cases ru;obtain⟨its,rv,pl,hz⟩:=I.list hq;have hl:is.length=its.length:=by
  have:=rv.length
  rwa[am]at this
 refine call_sum_walkG (sj pl.isList ?_);have ha:a<s.heap.objs.size:=by
  obtain⟨o,ho,_⟩:=pl.isList;exact ax ho
 refine⟨_,_,_,_,_,_,λi=>is.getD i 0,rfl,Walks.list (prog:=X.prog) (w:=X.w) (A:=X.A.in1) (show X.A.in1.handled=none from I.ok.hd hc) s.heap.objs.size a (cr ha) its.toArray,⟨⟨_,cx _ rfl,rfl,rfl⟩,Heap.IsList.at pl.isList λo e=>ao _ e⟩,λb hb=>?_,λi v hv=>?_,λh' tk t' kp=>?_⟩
 .have hb':b=s.heap.objs.size\/b=a:=by simpa using hb
  rw[jf];rcases hb' with e |e<;>rw[e]
  .exact xj _
  .exact xl ha
 .have hv':its[i]?=some v:=by simpa using hv
  have hi:i<is.length:=by
   have:=(bo.mp hv').1;omega
  obtain⟨u,hu,ru⟩:=rv.get (i:=i) (x:=.int is[i]) (by rw[av,au hi];rfl);rw[hv']at hu;cases hu;obtain⟨t,ht⟩:=(show ∃t,v=oj is[i] t from ru);exact⟨t,by rw[ht];simp[br,hi]⟩
 .have e:preSum (λi=>is.getD i 0) its.toArray.size=is.sum:=by
   rw[ar,<-hl,Bg is _ (aj _),xn]
  show EP X AL σ Q (.int (preSum (λi=>is.getD i 0) its.toArray.size) t') _;rw[e];have I1:aF X AL σ H {s with heap:=s.heap.push {cls:=.type "list_iterator",data:=.fields #[.ref a,.int 0 0]},toks:=s.toks}:=I.kept λb o z=>ao _ z;have fp:fF X AL H s.heap.objs.size:=I.fpOk (aj _) (I.hok.fresh (aj _));obtain⟨f0,f1,f2,f3,f4,f5⟩:=fp;exact⟨.int is.sum,H,I1.turned (λb o hb z=>kp b o (by simpa using hb) z) f0 f1 f3 f4 f5,⟨t',rfl⟩,q⟩
end
end L2
namespace L2.Pp
open PySem PySem.Spec PyProof.Rows Bn
section
variable{K:ag}{cl:Str->Addr}{E:XK}{X:Cx}
def iV:AH->Option AA
 |[]=>some []
 |.int b::r=>match iV r with
  |some bs=>some (b::bs)
  |none=>none
 |_::_=>none
theorem zO{c:Addr->Prop}{H:Hp}:∀{xs:AH}{bs:AA}{vs:List V},iV xs=some bs->aJ K c H xs vs->vs=bs.map V.int
 |[],bs,vs,e,r=>by
  cases e;unfold aJ at r;exact r
 |.int b::xs,bs,vs,e,r=>by
  unfold iV at e;split at e
  .rename_i cs h
   cases e;unfold aJ at r;obtain⟨v,w,rfl,r1,r2⟩:=r;unfold aI at r1;rw[r1,zO h r2];rfl
  .cases e
 |.non::_,_,_,e,_=>by cases e
 |.bl _::_,_,_,e,_=>by cases e
 |.str _::_,_,_,e,_=>by cases e
 |.tup _::_,_,_,e,_=>by cases e
 |.lst _::_,_,_,e,_=>by cases e
def qS:AH->AI
 |[.lst xs]=>(iV xs).map λbs=>.int bs.sum
 |_=>none
theorem abR:jS K (λxs H Q=>∃(a:Addr)(is:AA),xs=[.ref a]/\bS K H a (is.map V.int)/\Q (.int is.sum) H) qS:=λ{p S H as c xs Q} s ra e k=>by
 unfold qS at e;split at e
 .rename_i zs
  cases y:iV zs with
  |none=>rw[y]at e;cases e
  |some bs=>
   rw[y]at e;cases e;cases ra with
   |cons h t=>
    cases t;obtain⟨a,vs,rfl,l,z,r⟩:=h.lst;rw[zO y r]at l;exact⟨a,bs,rfl,l,k H _ (dD.refl H) (iM (v:=.int _) rfl)⟩
 .cases e
end
section
variable{K:ag}{cl:Str->Addr}{E:XK}{X:Cx}{p q:Ph}{H H':Hp}{S:aG}
variable{sc:Scope}{own:List Str}{cap:List (Nat×Str)}{elt target iter:ah}{pos:ai}{mi:MI}{g:GM}{me:ME}
end
def gS{α:Type}(xs:List α)(lo hi:AG)(st:Int):List α:=
 (sliceRange (sliceBounds lo hi (some st) xs.length).1 (sliceBounds lo hi (some st) xs.length).2.1 (sliceBounds lo hi (some st) xs.length).2.2).filterMap (xs[·]?)
theorem Zf(its:AD)(lo hi:AG)(st:Int):slicePick its.toArray lo hi (some st)=(gS its lo hi st).toArray:=by
 unfold slicePick gS;rw[ar];simp only[List.getElem?_toArray]
theorem Jh{α β:Type}{R:α->β->Prop}:∀{xs:List α}{ys:List β}(ks:List Nat),xs.length=ys.length->(ks.filterMap (xs[·]?)).length=(ks.filterMap (ys[·]?)).length
 |xs,ys,[],_=>rfl
 |xs,ys,k::ks,h=>by
  have ih:=Jh (R:=R) (xs:=xs) (ys:=ys) ks h
  by_cases hk:k<xs.length
  .have hk2:k<ys.length:=by omega
   rw[ij,ij,au hk,au hk2];simp[ih]
  .rw[ij,ij,ko (by omega),ko (by omega)]
   exact ih
theorem Dj{α:Type}(xs:List α)(lo hi:AG)(st:Int):(gS xs lo hi st).length<=xs.length:=by
 have e:=slicePick_size_le (xo xs.length bf) lo hi (some st);have e2:(gS xs lo hi st).length=(slicePick (xo xs.length bf) lo hi (some st)).size:=by
  have:=Zf (qu xs.length bf) lo hi st;rw[show xo xs.length bf=(qu xs.length bf).toArray by simp,this,ar];unfold gS;rw[zk];exact Jh (R:=λ_ _=>True) _ (by simp)
 rw[e2];simpa using e
section
variable{K:ag}{cl:Str->Addr}{E:XK}{X:Cx}{e:ah}{m:ME}{pos p2:ai}
theorem aX.at_{xs:List V}{us:AD}(r:aX xs us):∀{k:Nat}{x:V},xs[k]?=some x->∃u,us[k]?=some u/\bP x u:=λ{k x} h=>by
 obtain⟨u,e1,e2⟩:=r.get h;exact⟨u,e1,e2⟩
theorem aX.pick{xs:List V}{us:AD}(r:aX xs us):∀ks:List Nat,aX (ks.filterMap (xs[·]?)) (ks.filterMap (us[·]?))
 |[]=>.nil
 |k::ks=>by
  have ih:=aX.pick r ks;rw[ij,ij];cases h:xs[k]? with
  |none=>
   have:us[k]?=none:=by
    rw[l9]at h⊢;rw[<-r.length];exact h
   rw[this];exact ih
  |some x=>
   obtain⟨u,e1,e2⟩:=aX.at_ r h;rw[e1];exact .cons e2 ih
theorem aJ.pick{c:Addr->Prop}{H:Hp}{xs:AH}{us:List V}(r:aJ K c H xs us):∀ks:List Nat,aJ K c H (ks.filterMap (xs[·]?)) (ks.filterMap (us[·]?))
 |[]=>.nil
 |k::ks=>by
  have ih:=aJ.pick r ks;rw[ij,ij];cases h:xs[k]? with
  |none=>
   have:us[k]?=none:=by
    rw[l9]at h⊢;rw[<-r.length];exact h
   rw[this];exact ih
  |some x=>
   obtain⟨u,e1,e2⟩:=r.get h;rw[e1];exact .cons e2 ih
def Qd(v:PV)(lo hi:AG)(st:Int):AI:=match v with
 |.lst xs=>some (.lst (gS xs lo hi st))
 |_=>none
def lW(m:ME)(ml mh:MO)(st:Int):ME:=λρ S=>(m ρ S).bind λv S1=>(ml ρ S1).bind λlo S2=>(mh ρ S2).bind λhi S3=>gY ((rd S3 v).bind λx=>Qd x lo hi st) S3
def ach(K:ag)(st:Int)(te:TE)(tl th:TO):TE:=λσ H Q=>te σ H λx H1=>tl σ H1 λl H2=>th σ H2 λu H3=>∃a xs,x=.ref a/\bS K H3 a xs/\∀p,H3 p=none->Q (.ref p) (aK H3 p (.lst (gS xs l u st)))
theorem Mx{lo hi:Option ah}{es:ah}{te:TE}{tl th:TO}{st:Int}(h0:st≠0)(he:PE X e te)(hl:PO X lo tl)(hu:PO X hi th)(hst:PO X (some es) λ_ H Q=>Q (some st) H):PE X (.Subscript e (.Slice lo hi (some es) p2) pos) (ach X.K st te tl th):=by
 intro AL s σ H Q I h;refine vk (bC (he AL s σ H _ I h) λv s1 hq=>?_);rcases hq with⟨x,H1,I1,r1,q1⟩;refine wpAny_Slice (bC (hl AL s1 σ H1 _ I1 q1) λvl s2 ⟨l,H2,I2,pl,q2⟩=>bC (hu AL s2 σ H2 _ I2 q2) λvu s3 hq=>?_);rcases hq with⟨u,H3,I3,pu,q3⟩;refine bC (hst AL s3 σ H3 (λo H'=>o=some st/\H'=H3) I3 ⟨rfl,rfl⟩) ?_
 rintro vs s4 ⟨o,H4,I4,ps,eo,eH⟩
 subst eo eH;obtain⟨a,xs,rfl,hx,q⟩:=q3;cases r1;have I5:aF X AL σ H4 {s4 with heap:=s4.heap.push {cls:=.type "slice",data:=.fields #[vl,vu,vs]}}:=I4.kept (t':=s4.toks) λb ob q=>ao _ q;obtain⟨its,r,ht,hz⟩:=I5.list hx;have hlen:=r.length;have hg:wpAny (model X.prog X.w) X.A (getItem (.ref a) (.ref s4.heap.objs.size)) (EP X AL σ Q) X.xe {s4 with heap:=s4.heap.push {cls:=.type "slice",data:=.fields #[vl,vu,vs]}}:=by
  refine zx ht.isList (zq ..) pl pu ps (by simpa using h0) ?_ (by rw[ar]<;>omega);rw[Zf];refine⟨.ref _,_,I5.laid (t':=s4.toks) (o:=.lst (gS xs l u st)) (λb ob q=>ao _ q) (aj _) ?_,rfl,q _ (I5.hok.fresh (aj _))⟩;refine⟨fh (Dj xs l u st) hz,_,0,?_,cx _ rfl⟩;unfold gS;rw[hlen];exact aX.pick r _
 show wpAny (model X.prog X.w) X.A (subscriptTail e (.Slice lo hi (some es) p2) (.ref a) (.ref s4.heap.objs.size)) (EP X AL σ Q) X.xe {s4 with heap:=s4.heap.push {cls:=.type "slice",data:=.fields #[vl,vu,vs]}};exact tail_any (ops:=[.ref a,.ref s4.heap.objs.size]) (T:="list") ht.isList.typeIs vo.lookup hg (by with_unfolding_all rfl)
theorem Bo{lo hi:Option ah}{es:ah}{ml mh:MO}{st:Int}(he:aM K cl E X e m)(hl:nP K cl E X lo ml)(hu:nP K cl E X hi mh)(hst:PO X (some es) λ_ H Q=>Q (some st) H)(h0:st≠0):aM K cl E X (.Subscript e (.Slice lo hi (some es) p2) pos) (lW m ml mh st):=by
 intro hK;subst hK;refine(Mx h0 (he rfl) (hl rfl) (hu rfl) hst).imp ?_
 rintro σ H Q ⟨p,S,ρ,s,e,h⟩
 refine bW s e h λq H1 a x S1 st s1 e1 r1 h1=>bW s1 e1 h1 λq2 H2 lo lo' S2 st2 s2 e2 r2 h2=>bW s2 e2 h2 λq3 H3 hi hi' S3 dI s3 e3 r3 h3=>?_;cases r2;cases r3;have ra:=dI.repA (st2.repA r1);obtain⟨c,ec,k⟩:=oB s3 h3;cases z:rd S3 a with
 |none=>rw[z]at ec;cases ec
 |some v=>
  rw[z]at ec;have rv:=oG s3 ra z;cases v with
  |lst xs=>
   have ec:some (PV.lst (gS xs lo hi _))=some c:=ec;cases ec;obtain⟨a1,vs,rfl,l1,z1,r1⟩:=rv.lst;refine⟨a1,vs,rfl,l1,λt ht=>k _ _ (gF ht) (kR s3 ?_ (fh (Dj vs lo hi _) z1) ht)⟩;unfold gS;rw[r1.length];exact aJ.pick r1 _
  |_=>cases ec
theorem Q1{j:Nat}{p1 p2:ai}:PO X (some (.UnaryOp .USub (.Constant (.int 1) j p1) p2)) λ_ H Q=>Q (some (-1)) H:=by
 intro AL s σ H Q I h;exact(Db (Vq Np vR)) AL s σ H Q I ⟨1,rfl,-1,rfl,h⟩
theorem aba{i:Int}{j:Nat}{p1:ai}:PO X (some (.Constant (.int i) j p1)) λ_ H Q=>Q (some i) H:=by
 intro AL s σ H Q I h;exact(Db vR) AL s σ H Q I ⟨i,rfl,h⟩
end
section
variable{K:ag}{cl:Str->Addr}{E:XK}{X:Cx}
end
end L2.Pp
namespace L2
open PySem PySem.Spec PyProof.Rows Bn
open PySem.W (KasT kas_sort kas_ask KatLex KatGo KatTups kat_run kat_kind kat_lt kat_one kas_item kat_snds)
def lZ{α:Type}(lt:Nat->Nat->Bool):kb α->α
 |.ret a=>a
 |.ask i j k=>lZ lt (k (lt i j))
def iJ{α:Type}(n:Nat):kb α->Bool
 |.ret _=>true
 |.ask i j k=>decide (i<n)&&decide (j<n)&&iJ n (k true)&&iJ n (k false)
theorem Sj{α:Type}{cmp:Nat->Nat->(Bool->aa->Prop)->aa->Prop}{lt:Nat->Nat->Bool}{n:Nat}{s:aa}(hc:∀i j(C:Bool->aa->Prop),i<n->j<n->C (lt i j) s->cmp i j C s):∀(t:kb α)(Q:α->aa->Prop),iJ n t=true->Q (lZ lt t) s->t.kasWp cmp Q s
 |.ret a,Q,_,h=>h
 |.ask i j k,Q,ok,h=>by
  unfold iJ at ok;simp only[iy,decide_eq_true_eq]at ok;obtain⟨⟨⟨hi,hj⟩,h1⟩,h2⟩:=ok;refine hc i j _ hi hj (Sj hc (k (lt i j)) Q ?_ h);cases lt i j
  .exact h2
  .exact h1
def nA(h:Heap)(v:Value)(us:AA):Prop:=∃a o its n,v=.ref a/\h.get? a=some o/\o.cls=.type "tuple"/\o.data=.seq (ia its) n/\aX (us.map V.int) its
section
variable{prog:Program}{w:al}{A:aq}{E:Value->aa->Prop}{s:aa}
theorem Dm{Q:Bool->aa->Prop}:∀(us vs:AA)(its jts:AD)(i:Nat)(fin:Bool),aX (us.map V.int) its->aX (vs.map V.int) jts->fin=decide (us.length<vs.length)->Q (HT.lexLt us vs) s->KatLex prog w A true fin Q (its.zip jts) i s
 |[],vs,its,jts,i,fin,h1,h2,hf,hQ=>by
  cases h1;cases vs with
  |nil=>
   subst hf;exact xp hQ
  |cons v vs=>
   have e:fin=true:=by rw[hf];simp
   subst e;exact xp hQ
 |u::us,[],its,jts,i,fin,h1,h2,hf,hQ=>by
  cases h2;have e:fin=false:=by rw[hf];simp
  subst e;rw[List.zip_nil_right];exact xp hQ
 |u::us,v::vs,its,jts,i,fin,h1,h2,hf,hQ=>by
  cases h1 with
  |cons r1 t1=>
   cases h2 with
   |cons r2 t2=>
    obtain⟨k1,rfl⟩:=r1;obtain⟨k2,rfl⟩:=r2;rw[List.zip_cons_cons];refine PySem.W.kat_cons (wpAny_eqBool_int ?_);rw[HT.lexLt_cons]at hQ
    by_cases e:u=v
    .rw[if_pos e]at hQ
     have b:(u==v)=true:=by simpa using e
     rw[b];exact PySem.W.kat_yes (Dm us vs _ _ (i+1) fin t1 t2 (by rw[hf];simp) hQ)
    .rw[if_neg e]at hQ
     have b:(u==v)=false:=by simpa using e
     rw[b];refine PySem.W.kat_no ?_
     by_cases hi:i=0
     .subst hi
      exact oneLt_int hQ
     .have b2:(true&&i==0)=false:=by simpa using hi
      rw[b2];exact kat_one _ _ (PySem.P.lt_int hQ)
theorem Tp{x y:Value}{us vs:AA}{Q:Bool->aa->Prop}(hx:nA s.heap x us)(hy:nA s.heap y vs)(h:Q (HT.lexLt us vs) s):wpAny (model prog w) A (keyLt' (tuples' true) x y) Q E s:=by
 obtain⟨a,o,its,n,rfl,ho,hc,hd,r⟩:=hx;obtain⟨b,o2,jts,k,rfl,ho2,hc2,hd2,r2⟩:=hy;refine kat_lt ho hd ho2 hd2 ?_;have l1:=r.length;have l2:=r2.length;rw[am]at l1 l2;refine Dm us vs its jts 0 _ r r2 ?_ h;rw[ar,ar,l1,l2]
theorem zG:∀(vs:AD)(uss:AB),vs.length=uss.length->(∀i,i<vs.length->nA s.heap (vs.getD i bf) (uss.getD i [])/\uss.getD i []≠[])->∃fs,KatTups s.heap vs fs/\fs.length=vs.length/\∀v∈fs,∃i t,v=.int i t
 |[],uss,_,_=>⟨[],trivial,rfl,λ_ h=>absurd h iw⟩
 |v::vs,[],hl,_=>by cases hl
 |v::vs,us::uss,hl,h=>by
  obtain⟨fs,k,l,q⟩:=zG vs uss (by simpa using hl) λi hi=>by
   have:=h (i+1) (by simp;omega);simpa using this
  obtain⟨⟨a,o,its,n,e,ho,hc,hd,r⟩,ne⟩:=h 0 (by simp);have e:v=.ref a:=e;subst e;cases us with
  |nil=>exact absurd rfl ne
  |cons u us=>
   have r:aX (V.int u::us.map V.int) its:=r;cases r with
   |cons r1 t1=>
    obtain⟨t,rfl⟩:=r1;refine⟨.int u t::fs,KatTups.cons ho hc hd (by simp) k,by simp[l],λx hx=>?_⟩;rcases ci.mp hx with rfl |hx
    .exact⟨u,t,rfl⟩
    .exact q x hx
def dG(uss:AB):List Nat:=(lZ (λi j=>HT.lexLt (uss.getD i []) (uss.getD j [])) (jb uss.length)).toList
theorem Ct{a:Addr}{vs:AD}{uss:AB}{n:Nat}{P:qe->aa->Prop}(ho:s.heap.get? a=some (seqObj "list" vs.toArray n))(hl:vs.length=uss.length)(h2:2<=vs.length)(h64:vs.length<64)(ok:iJ uss.length (jb uss.length)=true)
  (tu:∀i,i<vs.length->nA s.heap (vs.getD i bf) (uss.getD i [])/\uss.getD i []≠[])
  (h:P (.done (.ret .none)) {s with heap:=sortedHeap s.heap a vs (ia ((dG uss).map λi=>vs.getD i bf))}):
  wpAny (model prog w) A (Builtin.«list.sort» ⟨[.ref a],[]⟩) P E s:=by
 have ha:a<s.heap.objs.size:=ax ho;obtain⟨e1,ho1⟩:∃e1,(s.heap.update a (dj λ_=>(#[]:Array Value))).get? a=some (seqObj "list" #[] e1):=⟨_,og ho λ_=>#[]⟩;have kp:∀b o,b≠a->s.heap.get? b=some o->(((s.heap.update a (dj λ_=>(#[]:Array Value))).push (seqObj "tuple" vs.toArray 0)).push (seqObj "list" #[] 0)).get? b=some o:=λb o hb e=>
  ao _ (ao _ ((oh _ _ _ _ hb).trans e))
 have tu2:∀i,i<vs.length->nA (((s.heap.update a (dj λ_=>(#[]:Array Value))).push (seqObj "tuple" vs.toArray 0)).push (seqObj "list" #[] 0)) (vs.getD i bf) (uss.getD i [])/\uss.getD i []≠[]:=λi hi=>by
  obtain⟨⟨b,o,its,m,e,hb,hc,hd,r⟩,ne⟩:=tu i hi;refine⟨⟨b,o,its,m,e,kp b o (λz=>?_) hb,hc,hd,r⟩,ne⟩;subst z;rw[ho]at hb;cases hb;have hc:kg "list"=kg "tuple":=hc;injection hc with hc;exact absurd hc (by decide)
 have na:(((s.heap.update a (dj λ_=>(#[]:Array Value))).push (seqObj "tuple" vs.toArray 0)).push (seqObj "list" #[] 0)).get? a=some (seqObj "list" #[] e1):=ao _ (ao _ ho1);rw[list_sort_plain];refine ae (listItems_at ho rfl ?_);refine ae (qg ho rfl ?_ (by rw[ar,gv];omega) (cy _));refine ae (qh ho1 rfl ?_);refine ae (wv ?_ (by show vs.length<=_;rw[gv];omega));refine ae (ub ?_ (cy _));refine ji ?_;show wpAny (model prog w) A _ P E {s with heap:=((s.heap.update a (dj λ_=>(#[]:Array Value))).push (seqObj "tuple" vs.toArray 0)).push (seqObj "list" #[] 0)};dsimp only;have hn2:¬vs.toArray.size<2:=by rw[ar];omega
 rw[if_neg hn2,if_neg hn2];obtain⟨fs,kt,lf,qf⟩:=zG (s:={s with heap:=((s.heap.update a (dj λ_=>(#[]:Array Value))).push (seqObj "tuple" vs.toArray 0)).push (seqObj "list" #[] 0)}) vs uss hl tu2;refine ae (kat_kind (T:=.type "int") kt (by omega) (λv hv=>?_) rfl ?_)
 .obtain⟨i,t,rfl⟩:=qf v hv
  exact .now
 have bt:(kg "int" !=kg "tuple")=true:=by decide
 rw[bt];refine ae (fj (kat_run (Q:=λst' s'=>∃p:Array Nat,p.size=vs.length/\arrOf st'=p.map (kas_item (vs.toArray.zip vs.toArray))/\failedOf st'=none/\p.toList=dG uss/\s'={s with heap:=((s.heap.update a (dj λ_=>(#[]:Array Value))).push (seqObj "tuple" vs.toArray 0)).push (seqObj "list" #[] 0)})
  (G:=λp s'=>p.toList=dG uss/\s'={s with heap:=((s.heap.update a (dj λ_=>(#[]:Array Value))).push (seqObj "tuple" vs.toArray 0)).push (seqObj "list" #[] 0)})
  rfl h2 h64 (λp' st' s' a1 a2 a3 a4=>⟨p',a1,a2,a3,a4⟩) ?_) ?_ λ_ _ e=>e)
 .rw[hl]
  refine Sj (lt:=λi j=>HT.lexLt (uss.getD i []) (uss.getD j [])) (n:=uss.length) (λi j C hi hj hC=>?_) _ _ ok ⟨rfl,rfl⟩;exact Tp (tu2 i (by omega)).1 (tu2 j (by omega)).1 hC
 rintro⟨⟨⟩,st'⟩ s' ⟨p,hp,har,hf,hpl,rfl⟩
 dsimp only;have hout:=kat_snds rfl har;have hsz:(ia (p.toList.map λi=>vs.getD i bf)).size=vs.length:=by rw[ar,am,my,hp]
 rw[hout];refine ae (qh na rfl ?_);refine ae (qg na rfl ?_ (cy _) (fh (rm hsz) (by rw[gv];omega)));rw[hf];simp only[bne_self_eq_false,xq,if_false];refine ak ?_;rw[hpl];exact h
theorem Rv{l:Addr}{o:Obj}{T:String}{vs:AD}{uss:AB}{n:Nat}{Q:Value->aa->Prop}(hT:T="list"\/T="tuple")(ho:s.heap.get? l=some o)(hc:o.cls=.type T)(hd:o.data=.seq vs.toArray n)(hl:vs.length=uss.length)(h2:2<=vs.length)(h64:vs.length<64)(ok:iJ uss.length (jb uss.length)=true)
  (tu:∀i,i<vs.length->nA s.heap (vs.getD i bf) (uss.getD i [])/\uss.getD i []≠[])
  (h:∀(h1 h':Heap)(c:Nat),(∀b o',s.heap.get? b=some o'->h1.get? b=some o')->(∀b o',h1.get? b=some o'->h'.get? b=some o')->h'.get? h1.objs.size=some (seqObj "list" (ia ((dG uss).map λi=>vs.getD i bf)) c)->Q (.ref h1.objs.size) {s with heap:=h'}):
  wpAny (model prog w) A (call (.builtin "sorted") [.ref l]) Q E s:=by
 refine m9 kind_sorted plain_sorted entry_sorted (args_sorted1 _) ?_;unfold n9;refine ae (m:=checkCount "sorted" 1 1 _) (ak ?_);refine ae (xu l hT ho hc hd (λh1 k1=>?_) (by rw[ar,gv];omega));refine ae (ub ?_ (by rw[gv];simp;omega));have hoL:(h1.push (seqObj "list" vs.toArray 0)).get? h1.objs.size=some (seqObj "list" vs.toArray 0):=cx _ rfl;show wpAny _ _ _ _ _ {s with heap:=h1.push (seqObj "list" vs.toArray 0)};refine ae (ji (jp slot_list_sort ⟨_,hoL,rfl⟩ entry_list_sort ?body (args_list_sort _)))
 case body=>
  refine Ct (s:={s with heap:=h1.push (seqObj "list" vs.toArray 0)}) hoL hl h2 h64 ok (λi hi=>?_) ⟨_,rfl,ak ⟨_,rfl,?_⟩⟩
  .obtain⟨⟨b,o,its,m,e,hb,hc,hd,r⟩,ne⟩:=tu i hi
   exact⟨⟨b,o,its,m,e,ao _ (k1 b o hb),hc,hd,r⟩,ne⟩
  .obtain⟨e1,ho1⟩:∃e1,((h1.push (seqObj "list" vs.toArray 0)).update h1.objs.size (dj λ_=>(#[]:Array Value))).get? h1.objs.size=some (seqObj "list" #[] e1):=⟨_,og hoL λ_=>#[]⟩
   have ho2:=ao (seqObj "list" #[] 0) (ao (seqObj "tuple" vs.toArray 0) ho1);obtain⟨e2,ho3⟩:∃e2,(sortedHeap (h1.push (seqObj "list" vs.toArray 0)) h1.objs.size vs (ia ((dG uss).map λi=>vs.getD i bf))).get? h1.objs.size=some (seqObj "list" (ia ((dG uss).map λi=>vs.getD i bf)) e2):=⟨_,og ho2 λ_=>ia ((dG uss).map λi=>vs.getD i bf)⟩;refine h h1 _ e2 k1 (λb o' hb1=>?_) ho3;have hne:b≠h1.objs.size:=cr (ax hb1);exact(oh _ _ _ _ hne).trans (ao _ (ao _ ((oh _ _ _ _ hne).trans (ao _ hb1))))
end
def lR(K:ag)(H:Hp)(ts:List V)(uss:AB):Prop:=ts.length=uss.length/\∀i t,ts[i]?=some t->∃a,t=.ref a/\cP K H a ((uss.getD i []).map V.int)/\uss.getD i []≠[]
theorem Xu{X:Cx}:iB X (.builtin "sorted") (λxs H Q=>∃(a:Addr)(ts:List V)(uss:AB),xs=[.ref a]/\(bS X.K H a ts\/cP X.K H a ts)/\lR X.K H ts uss/\2<=ts.length/\ts.length<64/\iJ uss.length (jb uss.length)=true/\(dG uss).length<=64/\
  ∀l,H l=none->Q (.ref l) (aK H l (.lst ((dG uss).map λi=>ts.getD i .non)))):=by
 intro AL s σ H xs us Q I r h;obtain⟨a,ts,uss,rfl,hq,⟨hl,ht⟩,h2,h64,ok,hpl,q⟩:=h;obtain⟨u,rfl,ru⟩:=iY r;cases ru;have go:∀(its:AD)(T:String)(o:Obj)(n:Nat),aX ts its->(T="list"\/T="tuple")->s.heap.get? a=some o->o.cls=.type T->o.data=.seq its.toArray n->ts.length<=sizeLine->
   wpAny (model X.prog X.w) X.A (call (.builtin "sorted") [.ref a]) (EP X AL σ Q) X.xe s:=λits T o n rv hT ho hc hd hz=>by
  have hlen:=rv.length;refine Rv (uss:=uss) hT ho hc hd (by omega) (by omega) (by omega) ok (λi hi=>?_) λh1 h' c k1 k2 e=>?_
  .have hi':i<ts.length:=by omega
   obtain⟨b,e1,sq,ne⟩:=ht i ts[i] (au hi');obtain⟨v,e2,rel⟩:=rv.get (au hi');rw[e1]at rel;cases rel;obtain⟨jts,rj,⟨o2,ho2,hc2,m,hd2⟩,_⟩:=I.tuple sq;refine⟨⟨b,o2,jts,m,?_,ho2,hc2,hd2,rj⟩,ne⟩;rw[br,e2];rfl
  .have I1:aF X AL σ H {s with heap:=h1,toks:=s.toks}:=I.kept k1
   have hz2:((dG uss).map λi=>ts.getD i .non).length<=sizeLine:=by
    rw[am,gv];omega
   have rel:∀ps:List Nat,aX (ps.map λi=>ts.getD i .non) (ps.map λi=>its.getD i bf):=λps=>by
    induction ps with
    |nil=>exact .nil
    |cons i ps ih=>
     refine .cons ?_ ih
     by_cases hi:i<ts.length
     .obtain⟨v,e2,rr⟩:=rv.get (au hi)
      have q1:ts.getD i .non=ts[i]:=by simp[br,hi]
      have q2:its.getD i bf=v:=by simp[br,e2]
      show bP (ts.getD i .non) (its.getD i bf);rw[q1,q2];exact rr
     .have q1:ts.getD i .non=.non:=by simp[br,hi]
      have q2:its.getD i bf=bf:=by simp[br,show its.length<=i by omega]
      show bP (ts.getD i .non) (its.getD i bf);rw[q1,q2];rfl
   refine⟨.ref h1.objs.size,_,I1.laid (t':=s.toks) (o:=.lst ((dG uss).map λi=>ts.getD i .non)) k2 (aj _) ?_,rfl,q _ (I1.hok.fresh (aj _))⟩;exact⟨hz2,_,c,rel _,e⟩
 rcases hq with hq |hq
 .obtain⟨its,rv,pl,hz⟩:=I.list hq
  obtain⟨o,ho,hc,n,hd⟩:=pl.isList;exact go its "list" o n rv (.inl rfl) ho hc hd hz
 .obtain⟨its,rv,⟨o,ho,hc,n,hd⟩,hz⟩:=I.tuple hq
  exact go its "tuple" o n rv (.inr rfl) ho hc hd hz
end L2
namespace L2.Pp
open PySem PySem.Spec PyProof.Rows Bn
open PySem.W (kas_sort)
section
variable{K:ag}
def iG:AH->Option AB
 |[]=>some []
 |.tup us::r=>match iV us,iG r with
  |some is,some uss=>some (is::uss)
  |_,_=>none
 |_::_=>none
theorem rM:∀{xs:AH}{uss:AB},iG xs=some uss->xs.length=uss.length
 |[],uss,e=>by cases e;rfl
 |.tup us::r,uss,e=>by
  unfold iG at e;split at e
  .rename_i is uss' h1 h2
   cases e;rw[cg,cg,rM h2]
  .cases e
 |.non::_,_,e=>by cases e
 |.bl _::_,_,e=>by cases e
 |.int _::_,_,e=>by cases e
 |.str _::_,_,e=>by cases e
 |.lst _::_,_,e=>by cases e
theorem Pa{c:Addr->Prop}{H:Hp}:∀{xs:AH}{uss:AB}{vs:List V},iG xs=some uss->aJ K c H xs vs->∀i t,vs[i]?=some t->∃a,t=.ref a/\cP K H a ((uss.getD i []).map V.int)
 |[],uss,vs,e,r,i,t,h=>by
  unfold aJ at r;subst r;simp at h
 |.tup us::r,uss,vs,e,rr,i,t,h=>by
  unfold iG at e;split at e
  .rename_i is uss' h1 h2
   cases e;unfold aJ at rr;obtain⟨v,w,rfl,r1,r2⟩:=rr;cases i with
   |zero=>
    cases h;unfold aI at r1;obtain⟨a,ws,rfl,sq,_,r3⟩:=r1;rw[zO h1 r3]at sq;exact⟨a,rfl,sq⟩
   |succ i=>
    have:=Pa h2 r2 i t (by simpa using h);simpa using this
  .cases e
 |.non::_,_,_,e,_,_,_,_=>by cases e
 |.bl _::_,_,_,e,_,_,_,_=>by cases e
 |.int _::_,_,_,e,_,_,_,_=>by cases e
 |.str _::_,_,_,e,_,_,_,_=>by cases e
 |.lst _::_,_,_,e,_,_,_,_=>by cases e
def Yc(uss:AB):Prop:=2<=uss.length/\uss.length<64/\iJ uss.length (jb uss.length)=true/\(dG uss).length<=64/\∀us∈uss,us≠[]
def Jd(xs:AH)(uss:AB):AH:=(dG uss).map λi=>xs.getD i .non
open Classical in
noncomputable def qC(xs:AH):AI:=match iG xs with
 |some uss=>if Yc uss then some (.lst (Jd xs uss))else none
 |none=>none
noncomputable def rQ:AH->AI
 |[.lst xs]=>qC xs
 |[.tup xs]=>qC xs
 |_=>none
theorem uL{c:Addr->Prop}{H:Hp}{xs:AH}{vs:List V}(r:aJ K c H xs vs):∀ps:List Nat,aJ K c H (ps.map λi=>xs.getD i .non) (ps.map λi=>vs.getD i .non)
 |[]=>.nil
 |i::ps=>by
  refine .cons ?_ (uL r ps)
  by_cases hi:i<xs.length
  .obtain⟨v,e1,e2⟩:=r.get (au hi)
   have q1:xs.getD i .non=xs[i]:=by simp[br,hi]
   have q2:vs.getD i .non=v:=by simp[br,e1]
   show aI K c H (xs.getD i .non) (vs.getD i .non);rw[q1,q2];exact e2
  .have hl:=r.length
   have q1:xs.getD i .non=.non:=by simp[br,hi]
   have q2:vs.getD i .non=.non:=by simp[br,show vs.length<=i by omega]
   show aI K c H (xs.getD i .non) (vs.getD i .non);rw[q1,q2];unfold aI;rfl
theorem abb:jS K (λxs H Q=>∃(a:Addr)(ts:List V)(uss:AB),xs=[.ref a]/\(bS K H a ts\/cP K H a ts)/\lR K H ts uss/\2<=ts.length/\ts.length<64/\iJ uss.length (jb uss.length)=true/\(dG uss).length<=64/\
  ∀l,H l=none->Q (.ref l) (aK H l (.lst ((dG uss).map λi=>ts.getD i .non)))) rQ:=λ{p S H as c xs Q} s ra e k=>by
 have key:∀(zs:AH)(a:Addr)(vs:List V),qC zs=some c->(bS K H a vs\/cP K H a vs)->aJ K p.c H zs vs->∃(a':Addr)(ts:List V)(uss:AB),[V.ref a]=[.ref a']/\(bS K H a' ts\/cP K H a' ts)/\lR K H ts uss/\2<=ts.length/\ts.length<64/\iJ uss.length (jb uss.length)=true/\(dG uss).length<=64/\
   ∀l,H l=none->Q (.ref l) (aK H l (.lst ((dG uss).map λi=>ts.getD i .non))):=λzs a vs e sq r=>by
  unfold qC at e;split at e
  .rename_i uss hu
   split at e
   .rename_i hc
    cases e;obtain⟨c1,c2,c3,c4,c5⟩:=hc;have l1:=rM hu;have l2:=r.length;refine⟨a,vs,uss,rfl,sq,⟨by omega,λi t h=>?_⟩,by omega,by omega,c3,c4,λl hl=>?_⟩
    .obtain⟨b,e1,e2⟩:=Pa hu r i t h
     have hi:i<uss.length:=by
      have:=(bo.mp h).1;omega
     refine⟨b,e1,e2,?_⟩;rw[br,au hi];exact c5 _ (iu hi)
    .refine k _ _ (gF hl) (kR s (uL r _) ?_ hl)
     rw[am,hU];omega
   .cases e
  .cases e
 unfold rQ at e;split at e
 .rename_i zs
  cases ra with
  |cons h t=>
   cases t;obtain⟨a,vs,rfl,l,z,r⟩:=h.lst;exact key zs a vs e (.inl l) r
 .rename_i zs
  cases ra with
  |cons h t=>
   cases t;obtain⟨a,vs,rfl,l,z,r⟩:=h.tup;exact key zs a vs e (.inr l) r
 .cases e
end
end L2.Pp
namespace L2
section
open PySem.W (KasT kas_sort)
theorem Ch{α:Type}{lt lt':Nat->Nat->Bool}{n:Nat}(h:∀i j,i<n->j<n->lt i j=lt' i j):∀t:kb α,iJ n t=true->lZ lt t=lZ lt' t
 |.ret a,_=>rfl
 |.ask i j k,ok=>by
  unfold iJ at ok;simp only[iy,decide_eq_true_eq]at ok;obtain⟨⟨⟨hi,hj⟩,h1⟩,h2⟩:=ok;show lZ lt (k (lt i j))=lZ lt' (k (lt' i j));rw[<-h i j hi hj];refine Ch h (k (lt i j)) ?_;cases lt i j
  .exact h2
  .exact h1
theorem jX:∀u:AA,HT.lexLt u u=false
 |[]=>rfl
 |x::u=>by rw[HT.lexLt_cons,if_pos rfl,jX u]
theorem rS:∀u v:AA,u=v\/HT.lexLt u v=true\/HT.lexLt v u=true
 |[],[]=>.inl rfl
 |[],_::_=>.inr (.inl rfl)
 |_::_,[]=>.inr (.inr rfl)
 |x::u,y::v=>by
  rw[HT.lexLt_cons,HT.lexLt_cons]
  by_cases h:x=y
  .subst h
   rw[if_pos rfl,if_pos rfl];rcases rS u v with h |h |h
   .exact .inl (by rw[h])
   .exact .inr (.inl h)
   .exact .inr (.inr h)
  .rw[if_neg h,if_neg (λz=>h z.symm)]
   by_cases q:x<y
   .exact .inr (.inl (by simpa using q))
   .exact .inr (.inr (by simp;omega))
theorem pJ:∀u v w:AA,HT.lexLt u v=true->HT.lexLt v w=true->HT.lexLt u w=true
 |[],[],_,h,_=>by cases h
 |[],_::_,[],_,h=>by cases h
 |[],_::_,_::_,_,_=>rfl
 |_::_,[],_,h,_=>by cases h
 |_::_,_::_,[],_,h=>by cases h
 |x::u,y::v,z::w,h1,h2=>by
  rw[HT.lexLt_cons]at h1 h2⊢
  by_cases e1:x=y
  .subst e1
   rw[if_pos rfl]at h1
   by_cases e2:x=z
   .rw[if_pos e2]at h2⊢
    exact pJ u v w h1 h2
   .rw[if_neg e2]at h2⊢
    exact h2
  .rw[if_neg e1]at h1
   have h1:x<y:=by simpa using h1
   by_cases e2:y=z
   .subst e2
    rw[if_neg e1];simpa using h1
   .rw[if_neg e2]at h2
    have h2:y<z:=by simpa using h2
    rw[if_neg (by omega)];simp;omega
theorem Qy{u v:AA}(h:HT.lexLt u v=true):HT.lexLt v u=false:=by
 cases q:HT.lexLt v u with
 |false=>rfl
 |true=>
  have:=pJ u v u h q;rw[jX]at this;cases this
theorem Dz{u v:AA}(h:HT.lexLt u v=false)(g:HT.lexLt v u=false):u=v:=by
 rcases rS u v with e |e |e
 .exact e
 .rw[h]at e;cases e
 .rw[g]at e;cases e
def r3(a b c d e f:Bool):Bool:=(!(a&&b)||c)&&(!(d&&e)||f)
def yE(b:Nat->Nat->Bool)(n:Nat):Bool:=(az n).all λi=>!(b i i)&&(az n).all λj=>!(b i j&&b j i)&&(az n).all λk=>(!(b i j&&b j k)||b i k)&&(b i j||b j k|| !(b i k))
def wI(b:Nat->Nat->Bool)(n:Nat)(ps:List (List Nat)):Bool:=let p:=(lZ b (jb n)).toList
 ps.contains p&&(az n).all λi=>(az n).all λj=>!(decide (i<j))|| !(b (p.getD j 0) (p.getD i 0))
def Jc:List (List Nat):=[[0,1,2],[0,2,1],[1,0,2],[1,2,0],[2,0,1],[2,1,0]]
def Ac:List (List Nat):=[[0,1,2,3],[0,1,3,2],[0,2,1,3],[0,2,3,1],[0,3,1,2],[0,3,2,1],[1,0,2,3],[1,0,3,2],[1,2,0,3],[1,2,3,0],[1,3,0,2],[1,3,2,0],
 [2,0,1,3],[2,0,3,1],[2,1,0,3],[2,1,3,0],[2,3,0,1],[2,3,1,0],[3,0,1,2],[3,0,2,1],[3,1,0,2],[3,1,2,0],[3,2,0,1],[3,2,1,0]]
def Ge(b01 b02 b10 b12 b20 b21:Bool)(i j:Nat):Bool:=match i,j with
 |0,1=>b01 |0,2=>b02 |1,0=>b10 |1,2=>b12 |2,0=>b20 |2,1=>b21 |_,_=>false
def He(b01 b02 b03 b10 b12 b13 b20 b21 b23 b30 b31 b32:Bool)(i j:Nat):Bool:=match i,j with
 |0,1=>b01 |0,2=>b02 |0,3=>b03 |1,0=>b10 |1,2=>b12 |1,3=>b13 |2,0=>b20 |2,1=>b21 |2,3=>b23 |3,0=>b30 |3,1=>b31 |3,2=>b32 |_,_=>false
theorem Uq:iJ 3 (jb 3)=true:=by decide+kernel
theorem Kr:iJ 4 (jb 4)=true:=by decide+kernel
theorem aco:∀b01 b02 b10 b12 b20 b21:Bool,yE (Ge b01 b02 b10 b12 b20 b21) 3=true->wI (Ge b01 b02 b10 b12 b20 b21) 3 Jc=true:=by decide+kernel
theorem acP:∀b01 b02 b03 b10 b12 b13 b20 b21 b23 b30 b31 b32:Bool,yE (He b01 b02 b03 b10 b12 b13 b20 b21 b23 b30 b31 b32) 4=true->wI (He b01 b02 b03 b10 b12 b13 b20 b21 b23 b30 b31 b32) 4 Ac=true:=by decide+kernel
theorem Io{b:Nat->Nat->Bool}{n:Nat}{uss:AB}(h:∀i j,i<n->j<n->b i j=HT.lexLt (uss.getD i []) (uss.getD j [])):yE b n=true:=by
 unfold yE;simp only[jx,uu,iy,j4,Bool.or_eq_true,Bool.and_eq_false_imp];intro i hi;refine⟨by rw[h i i hi hi,jX],λj hj=>⟨λq=>?_,λk hk=>⟨?_,?_⟩⟩⟩
 .rw[h i j hi hj]at q
  rw[h j i hj hi,Qy q]
 .rw[h i j hi hj,h j k hj hk,h i k hi hk]
  cases q1:HT.lexLt (uss.getD i []) (uss.getD j [])with
  |false=>exact .inl λz=>by cases z
  |true=>
   cases q2:HT.lexLt (uss.getD j []) (uss.getD k [])with
   |false=>exact .inl λ_=>rfl
   |true=>exact .inr (pJ _ _ _ q1 q2)
 .rw[h i j hi hj,h j k hj hk,h i k hi hk]
  cases q1:HT.lexLt (uss.getD i []) (uss.getD j [])with
  |true=>exact .inl (.inl rfl)
  |false=>
   cases q2:HT.lexLt (uss.getD j []) (uss.getD k [])with
   |true=>exact .inl (.inr rfl)
   |false=>
    refine .inr ?_;cases q3:HT.lexLt (uss.getD i []) (uss.getD k [])with
    |false=>rfl
    |true=>
     rcases rS (uss.getD i []) (uss.getD j [])with e |e |e
     .rw[e]at q3;rw[q2]at q3;cases q3
     .rw[q1]at e;cases e
     .have:=pJ _ _ _ e q3
      rw[q2]at this;cases this
end
section
open PySem.W (KasT kas_sort)
def eQ(uss:AB):AB:=(dG uss).map λi=>uss.getD i []
def oY(u v:AA):Prop:=HT.lexLt v u=false
theorem Oi{uss:AB}{n:Nat}{ps:List (List Nat)}(hl:uss.length=n)(ok:iJ n (jb n)=true){b:Nat->Nat->Bool}(hb:∀i j,i<n->j<n->b i j=HT.lexLt (uss.getD i []) (uss.getD j []))(good:wI b n ps=true)(hp:∀p∈ps,p.Perm (az n)):
  dG uss∈ps/\(dG uss).Perm (az n)/\(eQ uss).Pairwise oY:=by
 have e:dG uss=(lZ b (jb n)).toList:=by
  unfold dG;rw[hl];exact congrArg uw (Ch (n:=n) (λi j hi hj=>(hb i j hi hj).symm) _ ok)
 unfold wI at good;simp only[iy,jx,uu]at good;rw[<-e]at good;obtain⟨g1,g2⟩:=good;have m:dG uss∈ps:=by simpa using g1
 have pm:=hp _ m;refine⟨m,pm,?_⟩;have ln:(dG uss).length=n:=by rw[pm.length_eq,lq]
 unfold eQ;rw[xv];intro i j hi hj hij;rw[am]at hi hj;have q:=g2 i (by omega) j (by omega);have pi:(dG uss).getD i 0=(dG uss)[i]:=by simp[br,hi]
 have pj:(dG uss).getD j 0=(dG uss)[j]:=by simp[br,hj]
 rw[pi,pj]at q;have li:(dG uss)[i]<n:=by
  have:=pm.subset (iu hi);simpa using this
 have lj:(dG uss)[j]<n:=by
  have:=pm.subset (iu hj);simpa using this
 rw[hb _ _ lj li]at q;simp only[List.getElem_map];unfold oY;have d:decide (i<j)=true:=by simpa using hij
 rw[d]at q;simpa using q
theorem G4:∀p∈Jc,p.Perm (az 3):=by decide
theorem H0:∀p∈Ac,p.Perm (az 4):=by decide
theorem Cn{uss:AB}(h:uss.length=3):dG uss∈Jc/\(dG uss).Perm (az 3)/\(eQ uss).Pairwise oY:=by
 match uss,h with
 |[u0,u1,u2],_=>
  have hb:∀i j,i<3->j<3->Ge (HT.lexLt u0 u1) (HT.lexLt u0 u2) (HT.lexLt u1 u0) (HT.lexLt u1 u2) (HT.lexLt u2 u0) (HT.lexLt u2 u1) i j=HT.lexLt (([u0,u1,u2]:AB).getD i []) (([u0,u1,u2]:AB).getD j []):=λi j hi hj=>by
   match i,j,hi,hj with
   |0,0,_,_=>exact(jX u0).symm
   |0,1,_,_=>rfl
   |0,2,_,_=>rfl
   |1,0,_,_=>rfl
   |1,1,_,_=>exact(jX u1).symm
   |1,2,_,_=>rfl
   |2,0,_,_=>rfl
   |2,1,_,_=>rfl
   |2,2,_,_=>exact(jX u2).symm
  exact Oi rfl Uq hb (aco _ _ _ _ _ _ (Io hb)) G4
theorem Sm{uss:AB}(h:uss.length=4):dG uss∈Ac/\(dG uss).Perm (az 4)/\(eQ uss).Pairwise oY:=by
 match uss,h with
 |[u0,u1,u2,u3],_=>
  have hb:∀i j,i<4->j<4->He (HT.lexLt u0 u1) (HT.lexLt u0 u2) (HT.lexLt u0 u3) (HT.lexLt u1 u0) (HT.lexLt u1 u2) (HT.lexLt u1 u3) (HT.lexLt u2 u0) (HT.lexLt u2 u1) (HT.lexLt u2 u3) (HT.lexLt u3 u0) (HT.lexLt u3 u1) (HT.lexLt u3 u2) i j=HT.lexLt (([u0,u1,u2,u3]:AB).getD i []) (([u0,u1,u2,u3]:AB).getD j []):=λi j hi hj=>by
   match i,j,hi,hj with
   |0,0,_,_=>exact(jX u0).symm
   |0,1,_,_=>rfl
   |0,2,_,_=>rfl
   |0,3,_,_=>rfl
   |1,0,_,_=>rfl
   |1,1,_,_=>exact(jX u1).symm
   |1,2,_,_=>rfl
   |1,3,_,_=>rfl
   |2,0,_,_=>rfl
   |2,1,_,_=>rfl
   |2,2,_,_=>exact(jX u2).symm
   |2,3,_,_=>rfl
   |3,0,_,_=>rfl
   |3,1,_,_=>rfl
   |3,2,_,_=>rfl
   |3,3,_,_=>exact(jX u3).symm
  exact Oi rfl Kr hb (acP _ _ _ _ _ _ _ _ _ _ _ _ (Io hb)) H0
theorem pB{uss:AB}(h:uss.length=3\/uss.length=4):(eQ uss).Perm uss/\(eQ uss).Pairwise oY:=by
 have key:∀n,uss.length=n->(dG uss).Perm (az n)->(eQ uss).Perm uss:=λn hn hp=>by
  have e:(az n).map (λi=>uss.getD i [])=uss:=by
   refine tf (by simp[hn]) λi h1 h2=>?_;have hi:i<uss.length:=h2;simp[br,hi]
  have:=hp.map (λi=>uss.getD i []);rw[e]at this;exact this
 rcases h with h |h
 .obtain⟨_,hp,hs⟩:=Cn h
  exact⟨key 3 h hp,hs⟩
 .obtain⟨_,hp,hs⟩:=Sm h
  exact⟨key 4 h hp,hs⟩
theorem Zs{A B:AB}(hp:A.Perm B)(ha:A.Pairwise oY)(hb:B.Pairwise oY):A=B:=
 hp.eq_of_pairwise (λu v _ _ h g=>Dz g h) ha hb
theorem Ht{A B:AB}(hp:A.Perm B)(h:B.length=3\/B.length=4):eQ A=eQ B:=by
 obtain⟨p1,s1⟩:=pB (uss:=A) (by rw[hp.length_eq];exact h);obtain⟨p2,s2⟩:=pB h;exact Zs (p1.trans (hp.trans p2.symm)) s1 s2
end
open PySem PySem.Spec PyProof.Rows Bn
theorem L7{X:Cx}{sc1 sc:Scope}{own1 own:List Str}{cap1 cap:List (Nat×Str)}{C:Addr}{AM:aa}{AN:Hp}{ex:List Addr}(so:Scope)(hso:X.env.scope=so)(hk:so.kind=.function)(kind:sc.kind=.function)(names:∀y∈sc.names,y.2=.local->sc.names.lookup y.1=some .local)
  (nocell:∀y∈sc.names,y.2≠.cell)(free:∀y∈sc.names,y.2=.free->sc1.names.lookup y.1=some .free/\so.names.lookup y.1=some .cell)(at':∀p∈cap,(cB own1 cap1)[p.1]?=some p.2)(hcap:∀p∈cap,sc.names.lookup p.2=some .free):
  gU (dY X sc1 (cB own1 cap1) C AM AN ex) sc own cap:=
 ⟨kind,names,nocell,λy hy e=>by
  obtain⟨f1,f2⟩:=free y hy e;exact rE (env:=X.env) (by rw[hso];exact hk) f1 (by show X.env.scope.names.lookup y.1=_;rw[hso];exact f2),at',hcap⟩
section
variable{M:kx}{A:aq}{E:Value->aa->Prop}{s:aa}
theorem Rt{scope:Scope}{globals:Addr}{closure:List (Str×Addr)}{qual:Str}{outer:bh}{Q:bh->aa->Prop}
  (hQ:Q (newEnv scope s.heap.objs.size globals (cellsFrom (s.heap.objs.size+1) scope.names closure) qual none .none (some outer) builtinsNs) {s with heap:=pushCells (s.heap.push {cls:=.type "dict",data:=.dict #[]}) scope.names}):
  wpAny M A (newFunctionEnv scope globals closure [] qual none .none (some outer)) Q E s:=by
 simp only[newFunctionEnv,Option.isSome_some,if_true];refine ae (wpAny_alloc ?_);refine ae (wpAny_layCells _ (λname kind cells=>by cases hkc:kind==fk<;>simp[hkc]) _ _ _ _ ?_);rw[show({s with heap:=s.heap.push {cls:=.type "dict",data:=.dict #[]}}:aa).heap.objs.size=s.heap.objs.size+1 from jf ..];refine ae ?_;rw[wt];exact ak (ak hQ)
end
theorem Nc:∀(names:List (Str×fu))(n:Nat)(acc:List (Str×Addr)),(∀x y c,acc.lookup x=some c->acc.lookup y=some c->x=y)->(∀x c,acc.lookup x=some c->c<n)->
  ∀x y c,(cellsFrom n names acc).lookup x=some c->(cellsFrom n names acc).lookup y=some c->x=y
 |[],n,acc,hi,_,x,y,c,e1,e2=>hi x y c e1 e2
 |(name,kind)::r,n,acc,hi,hb,x,y,c,e1,e2=>by
  unfold cellsFrom at e1 e2
  by_cases k:(kind==fk)=true
  .rw[if_pos k]at e1 e2
   refine Nc r (n+1) _ (λx y c e1 e2=>?_) (λx c e=>?_) x y c e1 e2
   .rw[dk]at e1 e2
    cases wx:x==name with
    |true=>
     cases wy:y==name with
     |true=>rw[beq_iff_eq.mp wx,beq_iff_eq.mp wy]
     |false=>
      rw[wx]at e1;rw[wy]at e2;cases e1;exact absurd (hb y _ e2) (ig _)
    |false=>
     cases wy:y==name with
     |true=>
      rw[wx]at e1;rw[wy]at e2;cases e2;exact absurd (hb x _ e1) (ig _)
     |false=>
      rw[wx]at e1;rw[wy]at e2;exact hi x y c e1 e2
   .rw[dk]at e
    cases wx:x==name with
    |true=>
     rw[wx]at e;cases e;exact xj _
    |false=>
     rw[wx]at e;exact xl (hb x c e)
  .rw[if_neg k]at e1 e2
   exact Nc r n acc hi hb x y c e1 e2
theorem rX{n0:Nat}:∀(names:List (Str×fu))(n:Nat)(acc:List (Str×Addr))(x:Str),((∃c,acc.lookup x=some c/\n0<=c)\/(x,fk)∈names)->n0<=n->∃c,(cellsFrom n names acc).lookup x=some c/\n0<=c
 |[],n,acc,x,h,hn=>by
  rcases h with h |h
  .exact h
  .cases h
 |(name,kind)::r,n,acc,x,h,hn=>by
  unfold cellsFrom
  by_cases k:(kind==fk)=true
  .rw[if_pos k]
   refine rX r (n+1) _ x ?_ (xw hn);cases w:x==name with
   |true=>exact .inl ⟨n,by rw[dk,w],hn⟩
   |false=>
    rcases h with⟨c,h,z⟩|h
    .exact .inl ⟨c,by rw[dk,w];exact h,z⟩
    .rcases ci.mp h with z |z
     .cases z
      simp at w
     .exact .inr z
  .rw[if_neg k]
   refine rX r n acc x ?_ hn;rcases h with h |h
   .exact .inl h
   .rcases ci.mp h with z |z
    .cases z
     simp at k
    .exact .inr z
theorem Za{n0:Nat}:∀(names:List (Str×fu))(n:Nat)(acc:List (Str×Addr))(x:Str)(c:Addr),n0<=n->(cellsFrom n names acc).lookup x=some c->n0<=c\/acc.lookup x=some c
 |[],n,acc,x,c,hn,e=>.inr e
 |(name,kind)::r,n,acc,x,c,hn,e=>by
  unfold cellsFrom at e
  by_cases k:(kind==fk)=true
  .rw[if_pos k]at e
   rcases Za r (n+1) _ x c (xw hn) e with z |z
   .exact .inl z
   .rw[dk]at z
    cases w:x==name with
    |true=>
     rw[w]at z;cases z;exact .inl hn
    |false=>
     rw[w]at z;exact .inr z
  .rw[if_neg k]at e
   exact Za r n acc x c hn e
theorem vV:∀(names:List (Str×fu))(n:Nat)(acc:List (Str×Addr))(x:Str),(x,fk)∉names->(cellsFrom n names acc).lookup x=acc.lookup x
 |[],n,acc,x,h=>rfl
 |(name,kind)::r,n,acc,x,h=>by
  unfold cellsFrom;have hr:(x,fk)∉r:=λz=>h (bn _ z)
  by_cases k:(kind==fk)=true
  .rw[if_pos k,vV r _ _ x hr,dk]
   cases w:x==name with
   |true=>
    refine absurd ?_ h;have e1:x=name:=by simpa using w
    have e2:kind=.cell:=by simpa using k
    rw[e1,e2];exact ay
   |false=>rfl
  .rw[if_neg k,vV r _ _ x hr]
theorem Tb:∀(names:List (Str×fu))(h:Heap)(acc:List (Str×Addr)),(∀x c,acc.lookup x=some c->∃v,h.IsCell c v)->∀x c,(cellsFrom h.objs.size names acc).lookup x=some c->∃v,(pushCells h names).IsCell c v
 |[],h,acc,hc,x,c,e=>hc x c e
 |(name,kind)::r,h,acc,hc,x,c,e=>by
  unfold cellsFrom at e;unfold pushCells
  by_cases k:(kind==fk)=true
  .rw[if_pos k]at e⊢
   rw[<-jf h {cls:=.type "cell",data:=.cell none}]at e;refine Tb r _ _ (λy c e=>?_) x c e;rw[dk]at e;cases w:y==name with
   |true=>
    rw[w]at e;cases e;exact⟨none,_,cx _ rfl,rfl⟩
   |false=>
    rw[w]at e;obtain⟨v,z⟩:=hc y c e;exact⟨v,z.keeps λb o e=>ao _ e⟩
  .rw[if_neg k]at e⊢
   exact Tb r h acc hc x c e
theorem Tg{env:bh}:∀{names:List (Str×fu)}{x:Str},
  (let l:=(names.map λ(n,k)=>if(k==fw&&env.scope.kind== .function&&env.kindOf n==some .cell)then(n,fk)else(n,k)).lookup x;l=some .cell\/l=some .free)->(x,fw)∈names\/(x,fk)∈names
 |[],x,h=>by
  rcases h with h |h<;>cases h
 |(n,k)::r,x,h=>by
  dsimp only at h;rw[aw]at h;have ih:=@Tg env r x
  by_cases c:(k==fw&&env.scope.kind== .function&&env.kindOf n==some .cell)=true
  .have kf:k=.free:=by
    simp only[iy,beq_iff_eq]at c;exact c.1.1
   dsimp only at h;rw[if_pos c,dk]at h;cases w:x==n with
   |true=>
    have hx:x=n:=by simpa using w
    rw[hx,<-kf];exact .inl ay
   |false=>
    rw[w]at h;exact(ih h).imp (bn _) (bn _)
  .dsimp only at h
   rw[if_neg c,dk]at h;cases w:x==n with
   |true=>
    rw[w]at h;have hx:x=n:=by simpa using w
    rcases h with h |h
    .have kf:k=.cell:=ce h
     rw[hx,<-kf];exact .inr ay
    .have kf:k=.free:=ce h
     rw[hx,<-kf];exact .inl ay
   |false=>
    rw[w]at h;exact(ih h).imp (bn _) (bn _)
theorem Kg{env:bh}:∀{names:List (Str×fu)}{x:Str},names.lookup x=some .cell->
  (names.map λ(n,k)=>if(k==fw&&env.scope.kind== .function&&env.kindOf n==some .cell)then(n,fk)else(n,k)).lookup x=some .cell
 |[],x,h=>by cases h
 |(n,k)::r,x,h=>by
  rw[aw];dsimp only;rw[dk]at h;cases w:x==n with
  |true=>
   rw[w]at h;have kf:k=.cell:=ce h;subst kf;rw[if_neg (by rw[show(fk==fw)=false from rfl];simp),dk,w]
  |false=>
   rw[w]at h;have ih:=@Kg env r x h
   by_cases c:(k==fw&&env.scope.kind== .function&&env.kindOf n==some .cell)=true
   .rw[if_pos c,dk,w]
    exact ih
   .rw[if_neg c,dk,w]
    exact ih
def iF(X:Cx)(sc:Scope)(N:List Str)(C:Addr)(AM:aa)(AN:Hp)(ex:List Addr):Cx where
 prog:=X.prog
 w:=X.w
 K:=X.K
 mg:=X.mg
 base:=X.base
 A:=X.A
 N:=N
 AM:=AM
 AN:=AN
 env:=compEnvC sc (cellsFrom (C+1) sc.names (fZ X.env sc.names [])) C X.env
 outer:=X.stack
 stack:=X.stack
 ex:=ex
 fn:=λx=>sc.names.lookup x==some .cell
 calm:=X.calm
 pn:=[]
 xe:=λ_ _=>False
structure mX(X:Cx)(sc:Scope)(own:List Str)(cap:List (Nat×Str)):Prop where
 kind:sc.kind=.function
 names:∀y∈sc.names,y.2=.local->sc.names.lookup y.1=some .local
 cells:∀y∈sc.names,y.2=.cell->sc.names.lookup y.1=some .cell
 free:∀y∈sc.names,y.2=.free->X.env.kindOf y.1=some .cell
 at':∀p∈cap,X.N[p.1]?=some p.2
 cap:∀p∈cap,sc.names.lookup p.2=some .free
section
variable{X:Cx}{sc:Scope}{own:List Str}{cap:List (Nat×Str)}{AL:List (Addr×Obj)}{σ:St}{H:Hp}{s:aa}{elt target iter:ah}{pos pos':ai}{wi:TI}{g:TG}{te:TE}{Q:VK}
theorem mX.has(k:mX X sc own cap)(ok:X.Ok):∀p∈sc.names,p.2=.free->∃c,X.env.cells.lookup p.1=some c:=λp hp e=>ok.has p.1 (.inl (k.free p hp e))
theorem aF.cmpC(k:mX X sc own cap){h4:Heap}{fp:List Addr}{t':Nat}(I:aF X AL σ H s)(hf:∀b∈fp,fF X AL H b)(hlt:∀b∈fp,b<s.heap.objs.size)
  (e4:h4=pushCells (s.heap.push {cls:=.type "dict",data:=.dict #[]}) sc.names):aF (iF X sc (cB own cap) s.heap.objs.size s H fp) [] (iL own cap σ) H {s with heap:=h4,toks:=t'}:=by
 have kp:∀b o,s.heap.get? b=some o->h4.get? b=some o:=λb o e=>by
  rw[e4];exact xx _ _ b o (ao _ e)
 have hns:h4.Ns s.heap.objs.size (λ_=>none):=by
  rw[e4];exact(Heap.Ns.new ..).keeps λb o e=>xx _ _ b o e
 have hcl:∀y c,(fZ X.env sc.names []).lookup y=some c->X.env.cells.lookup y=some c:=λy c e=>by
  rcases uC sc.names [] (k.has I.ok) y c e with z |z
  .cases z
  .exact z
 have clt:∀y c,X.env.cells.lookup y=some c->c<s.heap.objs.size:=λy c e=>by
  obtain⟨v,o,ho,_⟩:=I.cell y c e;exact ax ho
 have hfr:∀y c,(cellsFrom (s.heap.objs.size+1) sc.names (fZ X.env sc.names [])).lookup y=some c->s.heap.objs.size<c\/X.env.cells.lookup y=some c:=λy c e=>
  (Za (n0:=s.heap.objs.size+1) sc.names _ _ y c (aj _) e).imp (λz=>z) (hcl y c)
 have nst:∀b∈fp,b∉eJ X.stack:=λb hb z=>by
  rcases ci.mp (I.stkSub b z)with e |e
  .exact(hf b hb).2.1 e
  .exact(hf b hb).2.2.1 e
 refine⟨⟨I.ok.mod,k.kind,I.ok.glob,I.ok.blt,aj _,λx y c h1 h2=>?_,λx hx=>?_,λx c hfn e=>?_,I.ok.hd,I.ok.frames,.inl rfl,λb hb=>⟨cr (hlt b hb),λx c e=>?_⟩,
  I.bs,fh I.ok.bsz I.sz,λb o e hb=>?_,nst,I.stack,I.stkFree⟩,rfl,I.bare,Un.kept kp,⟨_,hns,λi x v h1 h2 h3=>?_⟩,λx c e=>?_,I.hok.fresh (aj _),λx c e=>?_,λp hp=>absurd (show p∈([]:List (Addr×Obj)) from hp) (by simp),I.hok.kept kp,?_⟩
 .exact Nc sc.names _ _ (λx y c h1 h2=>I.ok.inj x y c (hcl x c h1) (hcl y c h2)) (λx c e=>xl (clt x c (hcl x c e))) x y c h1 h2
 .rcases Tg hx with z |z
  .by_cases m:(x,fk)∈sc.names
   .obtain⟨c,e,_⟩:=rX (n0:=0) sc.names (s.heap.objs.size+1) (fZ X.env sc.names []) x (.inr m) (cy _)
    exact⟨c,e⟩
   .obtain⟨c,e⟩:=pI (env:=X.env) sc.names [] x (.inr z)
    exact⟨c,(vV sc.names _ _ x m).trans e⟩
  .obtain⟨c,e,_⟩:=rX (n0:=0) sc.names (s.heap.objs.size+1) (fZ X.env sc.names []) x (.inr z) (cy _)
   exact⟨c,e⟩
 .have hm:(x,fk)∈sc.names:=jo (by simpa[iF]using hfn)
  obtain⟨c',e',hc'⟩:=rX (n0:=s.heap.objs.size) sc.names (s.heap.objs.size+1) (fZ X.env sc.names []) x (.inr hm) (nj _);have:=e'.symm.trans e;cases this;exact hc'
 .rcases hfr x c e with z |z
  .exact kj (wm (hlt b hb) z)
  .exact(hf b hb).2.2.2.2.1 x c z
 .rcases(hf b hb).2.2.2.1 with z |z
  .exact I.ok.noex b o e z
  .exact absurd (de (ax (I.ok.bs b o e).1) z) (ig _)
 .have hN:(cB own cap)[i]?=some x:=h1
  unfold cB at hN;unfold iL at h2
  by_cases hi:i<own.length
  .rw[ff (by simpa using hi),av]at h2
   cases e:own[i]? with
   |none=>rw[e]at h2;cases h2
   |some z=>rw[e]at h2;cases h2
  .rw[dg (by simpa using hi),av,am]at h2
   rw[dg (by omega),av]at hN;cases e:cap[i-own.length]? with
   |none=>rw[e]at h2;cases h2
   |some p=>
    rw[e]at h2 hN;have hp:p∈cap:=cu e;have hx:p.2=x:=ce hN;have hv:(σ[p.1]?).join=some v:=ce h2;have hv':σ[p.1]?=some (some v):=by
     cases e2:σ[p.1]? with
     |none=>rw[e2]at hv;cases hv
     |some z=>rw[e2]at hv;exact congrArg some hv
    have fr:=k.cap p hp;have nc:(p.2,fk)∉sc.names:=λz=>by
     have:=k.cells _ z rfl;rw[fr]at this;cases this
    have kc:X.env.kindOf p.2=some .cell:=k.free (p.2,.free) (jo fr) rfl;obtain⟨m0,_,hl⟩:=I.loc;obtain⟨u,ru,lk⟩:=hl p.1 p.2 v (k.at' p hp) hv' (.inr (.inl kc));refine⟨u,ru,?_⟩;rcases lk with⟨k1,_⟩|⟨_,c,ec,cell⟩
    .rw[kc]at k1
     cases k1
    .rw[<-hx]
     obtain⟨c',ec'⟩:=pI (env:=X.env) sc.names [] p.2 (.inr (jo fr));have:=(hcl _ _ ec').symm.trans ec;cases this;obtain⟨o,ho,hd⟩:=cell;exact .inr ⟨.inl (rE I.ok.kind fr kc),c,(vV sc.names _ _ p.2 nc).trans ec',o,kp c o ho,hd⟩
 .show ∃v,h4.IsCell c v
  rw[e4];refine Tb sc.names _ (fZ X.env sc.names []) (λy c e=>?_) x c (by rw[jf];exact e);obtain⟨v,z⟩:=I.cell y c (hcl y c e);exact⟨v,z.keeps λb o e=>ao _ e⟩
 .rcases hfr x c e with z |z
  .exact I.hok.fresh (om z)
  .exact I.freeC x c z
 .unfold iL
  show _=(cB own cap).length;unfold cB;rw[bi,bi,am,am,am]
theorem aF.uncmpC{s3 s':aa}{H3 H':Hp}{N:List Str}{σ':St}{C:Addr}{fp:List Addr}{pl:List (Addr×Obj)}(I:aF X AL σ H s)(hf:∀b∈fp,fF X AL H b)(u:Un (eJ X.stack) fp H H3 s.heap s3.heap)(os:s3.os=s.os)
  (J:aF (iF X sc N C s3 H3 fp) pl σ' H' s'):aF X AL σ H' s':=by
 have os':s'.os=s.os:=(show s'.os=s3.os from J.os).trans os;refine I.call' (ch:=fp) os' (u.trans J.base) J.hok J.bare λb hb=>?_;obtain⟨_,f1,_,f3,f4,f5⟩:=hf b hb;exact⟨f3,f1,f4,f5⟩
theorem Ev{use:Option (Value->Sem Unit)}{Qf:Value->aa->Prop}(k:mX X sc own cap)(hi:PI X target iter wi)(hc:X.calm=true)
  (hg:∀C AM AN ex,PG (iF X sc (cB own cap) C AM AN ex) target g)(he:∀C AM AN ex,PE (iF X sc (cB own cap) C AM AN ex) elt te)(I:aF X AL σ H s)(h:sT own cap wi g te σ H Q)
  (fin:∀D C s' H' m,aF X AL σ H' s'->fF X AL H' C->s'.heap.Ns C m->Q (.ref D) H'->compPost (model X.prog X.w) X.A X.xe use Qf (.ref D) C (.ok .next) s')
  (hs:∀x,foldedSetIterable iter X.env x=pure x):
  wpAny (model X.prog X.w) X.A (comprehension (.ListComp elt [⟨target,iter,[],0⟩] sc pos) sc X.env pos' (newList []) false (eval iter X.env) use) Qf X.xe s:=by
 refine wo (use:=use) rfl hs (Jb (k.has I.ok)) k.kind k.names ?_;refine bC (hi AL s σ H _ I h) λv s1 h1=>bC h1 λitv s2 h2=>?_;obtain⟨it,fp,tn,J,H2,e,I2,T,st2,f2,hW⟩:=h2;subst e;refine io (Rt ?_);have hsz:(s2.heap.push {cls:=.type "list",data:=.seq ([]:AD).toArray}).objs.size=s2.heap.objs.size+1:=jf ..;have I3:aF X AL σ (aK H2 s2.heap.objs.size (.lst [])) {s2 with heap:=s2.heap.push {cls:=.type "list",data:=.seq ([]:AD).toArray},toks:=s2.toks}:=I2.lnew (ys:=[]) (its:=[]) .nil (cy _);have hD:H2 s2.heap.objs.size=none:=I2.fresh;have ltf:∀b∈fp,b<s2.heap.objs.size:=λb hb=>by
  obtain⟨o,ho,_⟩:=T.obj _ _ st2 b hb;exact ax ho
 have f3:∀b∈fp,fF X AL (aK H2 s2.heap.objs.size (.lst [])) b:=λb hb=>⟨by rw[bH (cr (ltf b hb))];exact(f2 b hb).1,(f2 b hb).2⟩;have un:Un (eJ X.stack) fp H2 (aK H2 s2.heap.objs.size (.lst [])) s2.heap (s2.heap.push {cls:=.type "list",data:=.seq ([]:AD).toArray}):=Un.laid (λb u q=>ao _ q) (aj _) hD;have kp:∀b o,(s2.heap.push {cls:=.type "list",data:=.seq ([]:AD).toArray}).get? b=some o->(pushCells ((s2.heap.push {cls:=.type "list",data:=.seq ([]:AD).toArray}).push {cls:=.type "dict",data:=.dict #[]}) sc.names).get? b=some o:=λb o q=>xx _ _ b o (ao _ q);have J0:=I3.cmpC (t':=s2.toks) k f3 (λb hb=>de (ltf b hb) (by rw[jf];exact nj _)) rfl;have stat:∀{H':Hp},(∀b∈fp,H' b=none)->∀b∈fp,fF (iF X sc (cB own cap) (s2.heap.push {cls:=.type "list",data:=.seq ([]:AD).toArray}).objs.size {s2 with heap:=s2.heap.push {cls:=.type "list",data:=.seq ([]:AD).toArray},toks:=s2.toks} (aK H2 s2.heap.objs.size (.lst [])) fp) [] H' b:=λhn b hb=>
  ⟨hn b hb,(J0.ok.exf b hb).1,J0.ok.exfs b hb,.inl hb,(J0.ok.exf b hb).2,λp hp=>absurd (show p∈([]:List (Addr×Obj)) from hp) (by simp)⟩
 have st4:tn 0 (pushCells ((s2.heap.push {cls:=.type "list",data:=.seq ([]:AD).toArray}).push {cls:=.type "dict",data:=.dict #[]}) sc.names):=T.keep _ _ _ st2 λb hb o q=>kp b o (ao _ q);have fr0:∀b∈fp,(aK H2 s2.heap.objs.size (.lst [])) b=none:=λb hb=>(f3 b hb).1;have loop:codeAny (model X.prog X.w) X.A (.compLoop (.ListComp elt [⟨target,iter,[],0⟩] sc pos) 0 (.ref it) (.ref s2.heap.objs.size) (compEnvC sc (cellsFrom ((s2.heap.push {cls:=.type "list",data:=.seq ([]:AD).toArray}).objs.size+1) sc.names (fZ X.env sc.names [])) (s2.heap.push {cls:=.type "list",data:=.seq ([]:AD).toArray}).objs.size X.env))
   (compPost (model X.prog X.w) X.A X.xe use Qf (.ref s2.heap.objs.size) (s2.heap.push {cls:=.type "list",data:=.seq ([]:AD).toArray}).objs.size) {s2 with heap:=(pushCells ((s2.heap.push {cls:=.type "list",data:=.seq ([]:AD).toArray}).push {cls:=.type "dict",data:=.dict #[]}) sc.names),toks:=s2.toks}:=by
  obtain⟨W,⟨m0,w0⟩,turn⟩:=hW s2.heap.objs.size hD;refine Fi (λn s'=>∃i σ' H' ys,aF (iF X sc (cB own cap) (s2.heap.push {cls:=.type "list",data:=.seq ([]:AD).toArray}).objs.size {s2 with heap:=s2.heap.push {cls:=.type "list",data:=.seq ([]:AD).toArray},toks:=s2.toks} (aK H2 s2.heap.objs.size (.lst [])) fp) [] σ' H' s'/\tn i s'.heap/\(∀b∈fp,H' b=none)/\W i n σ' H' ys) ?_ m0
   ⟨0,_,_,[],J0,st4,fr0,w0⟩
  rintro n s5 ⟨i,σ5,H5,ys,I5,st5,fr5,w5⟩
  obtain⟨hD5,w5⟩:=turn i n σ5 H5 ys w5;rcases w5 with⟨stop,qn⟩|⟨go,hlt,step⟩
  .refine bC (T.done (iF X sc (cB own cap) (s2.heap.push {cls:=.type "list",data:=.seq ([]:AD).toArray}).objs.size {s2 with heap:=s2.heap.push {cls:=.type "list",data:=.seq ([]:AD).toArray},toks:=s2.toks} (aK H2 s2.heap.objs.size (.lst [])) fp) rfl rfl rfl hc i [] s5 σ5 H5 _ I5 (stat fr5) st5 stop) ?_
   rintro r s6 ⟨hr,I6⟩
   subst hr;obtain⟨m,hn,_⟩:=id I6.loc;exact fin _ _ s6 H5 m (I2.uncmpC (s3:={s2 with heap:=s2.heap.push {cls:=.type "list",data:=.seq ([]:AD).toArray},toks:=s2.toks}) f2 un rfl I6) (I3.fpOk (aj _) I6.free) hn qn
  .refine bC (T.item (iF X sc (cB own cap) (s2.heap.push {cls:=.type "list",data:=.seq ([]:AD).toArray}).objs.size {s2 with heap:=s2.heap.push {cls:=.type "list",data:=.seq ([]:AD).toArray},toks:=s2.toks} (aK H2 s2.heap.objs.size (.lst [])) fp) rfl rfl rfl hc i [] s5 σ5 H5 _ I5 (stat fr5) st5 go) ?_
   rintro r s6 ⟨u,hr,h6⟩
   subst hr;refine bC h6 ?_
   rintro _ s7 ⟨x,H7,I7,r7,y7,st7,fr7⟩
   have I7':=I7.pinned (stat fr7) (T.obj _ _ st7);refine bC (hg _ _ _ _ _ s7 σ5 H7 x u _ I7' r7 (step x H7 y7)) ?_
   rintro _ s8 ⟨σ8,H8,I8,q8⟩
   refine bC (he _ _ _ _ _ s8 σ8 H8 _ I8 q8) ?_
   rintro v9 s9 ⟨y,H9,I9,r9,hD9,m',hm,w9⟩
   refine bC (pL _ s9 σ8 H9 (.ref s2.heap.objs.size) [y] (.ref s2.heap.objs.size) [v9] (λ_ H'=>H'=aK H9 s2.heap.objs.size (.lst (ys++[y]))) I9 rfl (.cons r9 .nil) ⟨_,ys,y,rfl,rfl,hD9,hlt,rfl⟩) ?_
   rintro _ s10 ⟨_,H10,I10,_,q10⟩
   subst q10;refine⟨m',hm,i+1,σ8,_,_,I10.unpinned,T.keep _ _ _ st7 λb hb o q=>(I10.pin (b,o) (da _ (da _ (kM hb q)))).1,λb hb=>?_,w9⟩;obtain⟨o,q,d⟩:=T.obj _ _ st7 b hb;exact(I10.pin (b,o) (da _ (da _ (kM hb q)))).2.1
 exact wp loop (T.self _ 0 _ _ _ st4 loop)
theorem Cz(k:mX X sc own cap)(hi:PI X target iter wi)(hc:X.calm=true)
  (hg:∀C AM AN ex,PG (iF X sc (cB own cap) C AM AN ex) target g)(he:∀C AM AN ex,PE (iF X sc (cB own cap) C AM AN ex) elt te)
  (hs:∀x,foldedSetIterable iter X.env x=pure x:=by intro _;rfl):PE X (.ListComp elt [⟨target,iter,[],0⟩] sc pos) (sT own cap wi g te):=by
 intro AL s σ H Q I h;rw[wq];refine Ev (use:=none) k hi hc hg he I h (λD C s' H' m I' fC hn q=>?_) hs;refine⟨m,hn,λh' sb=>⟨.ref D,H',?_,rfl,q⟩⟩;obtain⟨f0,f1,f2,f3,f4,f5⟩:=fC;exact I'.turned (t':=s'.toks) (λb o hb e=>(sb.2 b hb).trans e) f0 f1 f3 f4 f5
theorem R4{X:Cx}{sc:Scope}{own:List Str}{cap:List (Nat×Str)}(so:Scope)(N:List Str)(hso:X.env.scope=so)(hN:X.N=N)(kind:sc.kind=.function)(names:∀y∈sc.names,y.2=.local->sc.names.lookup y.1=some .local)
  (cells:∀y∈sc.names,y.2=.cell->sc.names.lookup y.1=some .cell)(free:∀y∈sc.names,y.2=.free->so.names.lookup y.1=some .cell)(at':∀p∈cap,N[p.1]?=some p.2)(hcap:∀p∈cap,sc.names.lookup p.2=some .free):mX X sc own cap:=
 ⟨kind,names,cells,λy hy e=>by show X.env.scope.names.lookup y.1=_;rw[hso];exact free y hy e,λp hp=>by rw[hN];exact at' p hp,hcap⟩
theorem L1{X:Cx}{sc1 sc:Scope}{own1 own:List Str}{cap1 cap:List (Nat×Str)}{C:Addr}{AM:aa}{AN:Hp}{ex:List Addr}(so:Scope)(hso:X.env.scope=so)(hk:so.kind=.function)(kind:sc.kind=.function)(names:∀y∈sc.names,y.2=.local->sc.names.lookup y.1=some .local)
  (nocell:∀y∈sc.names,y.2≠.cell)(free:∀y∈sc.names,y.2=.free->sc1.names.lookup y.1=some .cell\/(sc1.names.lookup y.1=some .free/\so.names.lookup y.1=some .cell))(at':∀p∈cap,(cB own1 cap1)[p.1]?=some p.2)(hcap:∀p∈cap,sc.names.lookup p.2=some .free):
  gU (iF X sc1 (cB own1 cap1) C AM AN ex) sc own cap:=
 ⟨kind,names,nocell,λy hy e=>by
  rcases free y hy e with f |⟨f1,f2⟩
  .exact Kg (env:=X.env) f
  .exact rE (env:=X.env) (by rw[hso];exact hk) f1 (by show X.env.scope.names.lookup y.1=_;rw[hso];exact f2),at',hcap⟩
end
end L2
namespace L2.Pp
open PySem PySem.Spec PyProof.Rows Bn
section
variable{K:ag}{cl:Str->Addr}{E:XK}{X:Cx}{p q:Ph}{H H':Hp}{S:aG}
variable{sc:Scope}{own:List Str}{cap:List (Nat×Str)}{elt target iter:ah}{pos:ai}{mi:MI}{g:GM}{me:ME}
theorem B8(k:mX X sc own cap)(hi:PIp K cl E X target iter mi)(hc:X.calm=true)(hg:∀C AM AN ex,kD K (iF X sc (cB own cap) C AM AN ex) target g)(he:∀C AM AN ex,aM K cl E0 (iF X sc (cB own cap) C AM AN ex) elt me)
  (hs:∀x,foldedSetIterable iter X.env x=pure x:=by intro _;rfl):aM K cl E X (.ListComp elt [⟨target,iter,[],0⟩] sc pos) (bQ own cap mi g me):=by
 intro hK;refine PE.imp (Cz k (hi hK) hc (λC AM AN ex=>hg C AM AN ex hK) (λC AM AN ex=>he C AM AN ex hK) hs) ?_
 rintro σ H Q ⟨p,S,ρ,s,ev,h⟩
 exact bW s ev h λq H' xs J S' cJ sm ev it kk D hD=>zW sm ev it kk hD
end
noncomputable section
open PySem PySem.Spec PyProof.Rows Bn
def xZ(k:Nat)(S:aG):Prop:=∀(j:Nat)(o:SO),S[j]?=some o->j≠k->∃xs,o=.lst xs
def Pl(S:aG):Prop:=∀(j:Nat)(o:SO),S[j]?=some o->∃xs,o=.lst xs
section
variable{K:ag}{cl:Str->Addr}{E:XK}{X:Cx}{a e:ah}{m:ME}{ms:MA}{pos:ai}{p q:Ph}{H H':Hp}{S:aG}
theorem aT.pushO(s:aT K p S H){D:Addr}{o:SO}{ho:HO}(h:H D=none)(mo:Mb ho)(ob:lY K ⟨p.f++[D],λa=>p.w a\/a=D,λa=>p.c a\/a=D⟩ (aK H D ho) D o):
  let q:Ph:=⟨p.f++[D],λa=>p.w a\/a=D,λa=>p.c a\/a=D⟩
  bI p H q (aK H D ho)/\aT K q (S++[o]) (aK H D ho):=by
 intro q;obtain⟨st0,sm0⟩:=s.res (D:=D) (o:=ho) h mo;have nf0:D∉p.f:=λz=>s.notin h (s.wc D (s.sub D z));refine⟨⟨st0.wc,st0.mu,⟨[D],rfl⟩,st0.mw,st0.mono,λa x n=>?_,st0.nw,st0.nc,st0.keep⟩,?_,by simp[q,s.len],λa x=>?_,sm0.wc,sm0.mu,λk a u e1 e2=>?_⟩
 .rcases cj.mp x with z |z
  .exact absurd z n
  .have:a=D:=by simpa using z
   rw[this];exact h
 .show(p.f++[D]).Nodup
  rw[mf];refine⟨s.nd,by simp,λa ha b hb z=>?_⟩;have:b=D:=by simpa using hb
  exact nf0 (this▸z▸ha)
 .rcases cj.mp x with z |z
  .exact .inl (s.sub a z)
  .exact .inr (by simpa using z)
 .by_cases hk:k<S.length
  .have e1':p.f[k]?=some a:=by
    have e1:(p.f++[D])[k]?=some a:=e1
    rwa[ff (by rw[s.len];exact hk)]at e1
   rw[ff hk]at e2;refine(s.obj k a u e1' e2).mono (λvs e=>by rw[bH (fW e h)];exact e) (λb w f=>⟨⟨.inl w,λm=>?_⟩,λvs e=>by rw[bH (fW e h)];exact e⟩) λ_ _ r=>st0.reps r;rcases cj.mp m with z |z
   .exact f z
   .have:b=D:=by simpa using z
    exact s.notin h (this▸s.wc b w)
  .have hk':k=S.length:=by
    have:=(bo.mp e2).1;simp at this;omega
   subst hk';rw[dg (aj _),fx]at e2;have e1:(p.f++[D])[S.length]?=some a:=e1;rw[<-s.len,dg (aj _),fx]at e1;cases e1;cases e2;exact ob
def Kd(xs:AK)(S:aG):bK AV:=match(gJ S xs).bind mU with
 |some (.lst vs)=>.ok (.ref S.length) (S++[.lol [vs]])
 |_=>.fail
def tF(ms:MA):ME:=λρ S=>(ms ρ S).bind Kd
theorem Wn{as:AK}{xs:List V}{vs:AH}(s:aT K p S H)(r:fY K p H as xs)(h:(gJ S as).bind mU=some (.lst vs)):
  ∃b ws,xs=[.ref b]/\(bS K H b ws\/cP K H b ws)/\ws.length<=sizeLine/\aJ K p.c H vs ws:=by
 cases z:gJ S as with
 |none=>rw[z]at h;cases h
 |some us=>
  rw[z]at h;have rr:=uI s r z;cases rr with
  |nil=>cases h
  |cons g t=>
   rename_i u x ut xt;cases t with
   |cons _ _=>cases u<;>cases h
   |nil=>
    cases u with
    |lst ws=>
     cases h;obtain⟨a,ws,rfl,l,z,r⟩:=g.lst;exact⟨a,ws,rfl,.inl l,z,r⟩
    |tup ws=>
     cases h;obtain⟨a,ws,rfl,l,z,r⟩:=g.tup;exact⟨a,ws,rfl,.inr l,z,r⟩
    |_=>cases h
theorem aaY{x:Str}{p lp:ai}(hx:x="list")(hg:Gl X "list")(hm:X.mg "list"=none)(ha:eF K cl E X [e] ms)(he:starEach [e] X.env=[(false,eval e X.env)]:=by rfl)
  (hs:starEach [.Call (.Name x p) [e] [] pos] X.env=[(false,eval (.Call (.Name x p) [e] [] pos) X.env)]:=by rfl):aM K cl E X (.List [.Call (.Name x p) [e] [] pos] lp) (tF ms):=by
 intro hK;subst hK hx;refine PE.imp (vY (jL (uH yN hg hm (by decide+kernel) (ha rfl) (by decide) (by decide) he rfl) kW hs)) ?_
 rintro σ H Q ⟨p,S,ρ,s,ev,h⟩
 refine bW s ev h λq H1 as xs S1 st s1 e1 r1 h1=>?_;unfold Kd at h1;split at h1
 .rename_i vs hv
  obtain⟨b,ws,rfl,sq,hl,r⟩:=Wn s1 r1 hv;refine⟨b,ws,rfl,sq,λl hn=>⟨by show 1<=sizeLine;decide,λt ht=>?_⟩⟩;obtain⟨st2,sm2⟩:=s1.res (D:=l) (o:=.lst ws) hn trivial;have ne:l≠t:=λz=>by rw[<-z,dR]at ht;cases ht
  have nf:l∉q.f:=λz=>s1.notin hn (s1.wc l (s1.sub l z));have dI:=(sm2.res (D:=t) (o:=.lst [.ref l]) ht trivial).1;have ob:lY X.K ⟨(q.res l).f++[t],λa=>(q.res l).w a\/a=t,λa=>(q.res l).c a\/a=t⟩ (aK (aK H1 l (.lst ws)) t (.lst [.ref l])) t (.lol [vs]):=by
   refine⟨[l],dR,by show 1<=sizeLine;decide,by simp,λc hc=>?_,rfl,λi ys c e1 e2=>?_⟩
   .have:c=l:=by simpa using hc
    subst this;refine⟨.inl (.inr rfl),λm=>?_⟩;rcases cj.mp m with z |z
    .exact nf z
    .exact ne (by simpa using z)
   .cases i with
    |zero=>
     cases e1;cases e2;exact⟨ws,by rw[bH ne,dR],hl,dI.reps (st2.reps r)⟩
    |succ i=>simp at e1
  obtain⟨st4,sm4⟩:=sm2.pushO (D:=t) (ho:=.lst [.ref l]) ht trivial ob;exact h1 _ _ (.ref t) (st2.trans st4) sm4 ⟨t,by show(q.f++[t])[S1.length]?=some t;rw[<-s1.len,dg (aj _),fx];rfl,rfl⟩
 .exact h1.elim
def sV(k:Nat)(ys:AK)(S:aG):bK AV:=match(gJ S ys).bind mU,S[k]? with
 |some (.lst vs),some (.lol xss)=>if xss.length<16777216 then .ok (.pv .non) (S.set k (.lol (xss++[vs])))else .fail
 |_,_=>.fail
def sU(m:ME)(ms:MA):ME:=λρ S=>(m ρ S).bind λk S1=>fB k S1 λk=>(ms ρ S1).bind λys S2=>sV k ys S2
theorem aT.growL(s:aT K p S H){k:Nat}{D l:Addr}{xss:List AH}{bs:List Addr}{ys:AH}{ws:List V}(h:p.f[k]?=some D)(hS:S[k]?=some (.lol xss))(hn:H l=none)(hl:ws.length<=sizeLine)(r:aJ K p.c H ys ws)(hH:H D=some (.lst (bs.map V.ref)))(hz:bs.length<sizeLine):
  bI p H (p.res l) (aK (aK H l (.lst ws)) D (.lst ((bs++[l]).map V.ref)))/\aT K (p.res l) (S.set k (.lol (xss++[ys]))) (aK (aK H l (.lst ws)) D (.lst ((bs++[l]).map V.ref))):=by
 obtain⟨st2,sm2⟩:=s.res (D:=l) (o:=.lst ws) hn trivial;have hk:k<S.length:=(bo.mp hS).1;have mD:D∈p.f:=cu h;have w:(p.res l).w D:=.inl (s.sub D mD);have neD:D≠l:=λz=>by rw[z,hn]at hH;cases hH
 have nl:l∉p.f:=λz=>s.notin hn (s.wc l (s.sub l z));have dI:bI (p.res l) (aK H l (.lst ws)) (p.res l) (aK (aK H l (.lst ws)) D (.lst ((bs++[l]).map V.ref))):=⟨sm2.wc,sm2.mu,jg,λ_ h=>h,λ_ h=>h,λ_ h g=>absurd h g,λ_ h g=>absurd h g,λ_ h g=>absurd h g,λa u e nw=>by
  rw[bH (λz:a=D=>nw (by rw[z];exact w))];exact e⟩
 refine⟨st2.trans dI,sm2.nd,by rw[fg];exact sm2.len,sm2.sub,sm2.wc,λa x=>?_,λj a o e1 e2=>?_⟩
 .by_cases z:a=D
  .rw[z,dR]
   exact⟨_,rfl,trivial⟩
  .rw[bH z]
   exact sm2.mu a x
 .by_cases hj:k=j
  .subst hj
   have e1:p.f[k]?=some a:=e1;rw[h]at e1;cases e1;rw[dr hk]at e2;cases e2;obtain⟨cs,g1,g2,g3,g4,g5,g6⟩:=s.obj k D _ h hS;rw[hH]at g1;have ec:bs=cs:=by
    have:=congrArg (λo=>match o with |some (HO.lst v)=>v |_=>[]) g1
    have:bs.map V.ref=cs.map V.ref:=this;exact o0 (λx y h=>by cases h;rfl) |>.mp this
   subst ec;have nb:∀b∈bs,b≠l:=λb hb z=>s.notin hn (z▸s.wc b (g4 b hb).1);refine⟨bs++[l],dR,by rw[bi];exact hz,?_,λb hb=>?_,by rw[bi,bi,g5];rfl,λi xs b e1 e2=>?_⟩
   .rw[mf]
    exact⟨g3,by simp,λx hx y hy z=>nb x hx (by rw[z];simpa using hy)⟩
   .rcases cj.mp hb with z |z
    .exact⟨.inl (g4 b z).1,(g4 b z).2⟩
    .have:b=l:=by simpa using z
     subst this;exact⟨.inr rfl,nl⟩
   .by_cases hi:i<bs.length
    .rw[ff hi]at e2
     rw[ff (by rw[g5];exact hi)]at e1;obtain⟨vs,h1,h2,h3⟩:=g6 i xs b e1 e2;have hb:=g4 b (cu e2);exact⟨vs,by rw[bH (λz:b=D=>hb.2 (z▸mD)),bH (nb b (cu e2))];exact h1,h2,dI.reps (st2.reps h3)⟩
    .have hi':i=bs.length:=by
      have:=(bo.mp e2).1;rw[bi]at this;have:i<bs.length+1:=this;omega
     subst hi';rw[dg (aj _),fx]at e2;rw[<-g5,dg (aj _),fx]at e1;cases e1;cases e2;exact⟨ws,by rw[bH (ik neD),dR],hl,dI.reps (st2.reps r)⟩
  .rw[fe hj]at e2
   have ne:a≠D:=λq=>hj (nodup_idx s.nd h (q▸e1));exact(sm2.obj j a o e1 e2).mono (λvs e=>by rw[bH ne];exact e) (λb w f=>⟨⟨w,f⟩,λvs e=>by rw[bH (λz:b=D=>f (z▸mD))];exact e⟩) λ_ _ r=>dI.reps r
theorem Q0{x:Str}{p apos cpos:ai}(hx:x="list")(hg:Gl X "list")(hm:X.mg "list"=none)(ho:aM K cl E X a m)(ha:eF K cl E X [e] ms)(hbase:attributeBase a "append" X.env (eval a X.env)=eval a X.env:=by rfl)
  (hfew:((backTo cpos (starEach [.Call (.Name x p) [e] [] pos] X.env)).all (λx=>!x.1)&&(backToKw cpos (keywordEach [] X.env)).all (λx=>x.1.isSome)&&decide (([.Call (.Name x p) [e] [] pos]:List ah).length+([]:List ft).length+(if([]:List ft).isEmpty then 0 else 1)<30))=true:=by rfl)
  (hline:(apos.endLine==cpos.line)=true:=by rfl)(he:starEach [e] X.env=[(false,eval e X.env)]:=by rfl)(hs:starEach [.Call (.Name x p) [e] [] pos] X.env=[(false,eval (.Call (.Name x p) [e] [] pos) X.env)]:=by rfl):
  aM K cl E X (.Call (.Attribute a "append" apos) [.Call (.Name x p) [e] [] pos] [] cpos) (sU m ms):=by
 intro hK;subst hK hx;refine PE.imp (wK tz rl xk pL (ho rfl) (jL (uH yN hg hm (by decide+kernel) (ha rfl) (by decide) (by decide) he rfl) kW hs) hbase hfew hline hs rfl) ?_
 rintro σ H Q ⟨p,S,ρ,s,ev,h⟩
 refine bW s ev h λq H1 k x S1 st s1 e1 r1 h1=>?_;cases k with
 |pv v=>exact h1.elim
 |ref k=>
  have h1:bR X.K cl (bX X.K) q H1 (fB (.ref k) S1 λk=>(ms ρ S1).bind λys S2=>sV k ys S2) Q E:=h1;rcases vA k S1 (λk=>(ms ρ S1).bind λys S2=>sV k ys S2)with z |⟨z,n1,n2⟩
  .rw[z]at h1
   exact h1.elim
  rw[z]at h1;refine⟨Kb s1 r1 n1 n2,bW s1 e1 h1 λq2 H2 ys xs S2 st2 s2 e2 r2 h2=>?_⟩;obtain⟨a,ea,rfl⟩:=st2.repA r1;unfold sV at h2;split at h2
  .rename_i vs xss hv hS
   obtain⟨b,ws,rfl,sq,hl,r⟩:=Wn s2 r2 hv;split at h2
   .rename_i hz
    refine⟨b,ws,rfl,sq,λl hn=>?_⟩;obtain⟨bs,g1,g2,g3,g4,g5,g6⟩:=s2.obj k a _ ea hS;have hzz:=hU;have neA:a≠l:=λz=>by rw[z,hn]at g1;cases g1
    obtain⟨dI,sm3⟩:=s2.growL ea hS hn hl r g1 (by rw[<-g5];omega);refine⟨a,bs.map V.ref,.ref l,rfl,rfl,by rw[bH neA];exact g1,by rw[am,<-g5];omega,?_⟩;have:=h2 _ _ .non dI sm3 (by show aI X.K (q2.res l).c (aK (aK H2 l (.lst ws)) a (.lst ((bs++[l]).map V.ref))) .non .non;exact iM (v:=.non) rfl);rw[df]at this;exact this
   .exact h2.elim
  .exact h2.elim
def wS(m:Int)(xs:AH):Option AH:=match bD xs.length m with
 |some j=>match xs[j]? with
  |some (.int v)=>some (xs.set j (.int (1-v)))
  |_=>none
 |none=>none
def qF(m:Int):List AH->Option (List AH)
 |[]=>some []
 |xs::r=>match wS m xs,qF m r with
  |some y,some ys=>some (y::ys)
  |_,_=>none
theorem Hh{m:Int}:∀{xss yss:List AH},qF m xss=some yss->xss.length=yss.length/\∀(i:Nat)(xs:AH),xss[i]?=some xs->∃ys:AH,yss[i]?=some ys/\wS m xs=some ys
 |[],yss,e=>by
  cases e;exact⟨rfl,λi xs h=>by simp at h⟩
 |xs::r,yss,e=>by
  unfold qF at e;split at e
  .rename_i y ys h1 h2
   cases e;obtain⟨l,g⟩:=Hh h2;refine⟨by rw[cg,cg,l],λi zs h=>?_⟩;cases i with
   |zero=>
    cases h;exact⟨y,rfl,h1⟩
   |succ i=>simpa using g i zs (by simpa using h)
  .cases e
open Classical in
def oP(ics ic im:Nat):MS:=λρ S=>match ρ[ics]?,ρ[im]? with
 |some (some (.ref k)),some (some (.pv (.int m)))=>match S[k]? with
  |some (.lol xss)=>if xZ k S/\ic<ρ.length then(match qF m xss with
   |some yss=>.nx (ρ.set ic none) (S.set k (.lol yss))
   |none=>.fail)else .fail
  |_=>.fail
 |_,_=>.fail
theorem aT.inner(s:aT K p S H){k i:Nat}{D b:Addr}{xss:List AH}{bs:List Addr}{ys:AH}{ws:List V}(h:p.f[k]?=some D)(hS:S[k]?=some (.lol xss))(pl:xZ k S)(hH:H D=some (.lst (bs.map V.ref)))(hb:bs[i]?=some b)(hl:ws.length<=sizeLine)(r:aJ K p.c H ys ws):
  bI p H p (aK H b (.lst ws))/\aT K p (S.set k (.lol (xss.set i ys))) (aK H b (.lst ws)):=by
 have hk:k<S.length:=(bo.mp hS).1;have mD:D∈p.f:=cu h;obtain⟨cs,g1,g2,g3,g4,g5,g6⟩:=s.obj k D _ h hS;rw[hH]at g1;have ec:bs=cs:=by
  have:=congrArg (λo=>match o with |some (HO.lst v)=>v |_=>[]) g1
  have:bs.map V.ref=cs.map V.ref:=this;exact o0 (λx y h=>by cases h;rfl) |>.mp this
 subst ec;have wb:=g4 b (cu hb);have st:bI p H p (aK H b (.lst ws)):=⟨s.wc,s.mu,jg,λ_ h=>h,λ_ h=>h,λ_ h g=>absurd h g,λ_ h g=>absurd h g,λ_ h g=>absurd h g,λa u e nw=>by
  rw[bH (λz:a=b=>nw (by rw[z];exact wb.1))];exact e⟩
 refine⟨st,s.nd,by rw[fg];exact s.len,s.sub,s.wc,λa x=>?_,λj a o e1 e2=>?_⟩
 .by_cases z:a=b
  .rw[z,dR]
   exact⟨_,rfl,trivial⟩
  .rw[bH z]
   exact s.mu a x
 .have ne:a≠b:=λz=>wb.2 (z▸cu e1)
  by_cases hj:k=j
  .subst hj
   rw[h]at e1;cases e1;rw[dr hk]at e2;cases e2;refine⟨bs,by rw[bH ne];exact hH,g2,g3,g4,by rw[fg];exact g5,λi' xs c e1 e2=>?_⟩
   by_cases hi:i=i'
   .subst hi
    rw[hb]at e2;cases e2;have hx:i<xss.length:=by
     rw[g5];exact(bo.mp hb).1
    rw[dr hx]at e1;cases e1;exact⟨ws,dR,hl,st.reps r⟩
   .rw[fe hi]at e1
    obtain⟨vs,h1,h2,h3⟩:=g6 i' xs c e1 e2;exact⟨vs,by rw[bH (λz:c=b=>hi (nodup_idx g3 hb (z▸e2)))];exact h1,h2,st.reps h3⟩
  .rw[fe hj]at e2
   obtain⟨xs,rfl⟩:=pl j o e2 (ik hj);obtain⟨vs,e,l,g⟩:=s.obj j a _ e1 e2;exact⟨vs,by rw[bH ne];exact e,l,st.reps g⟩
theorem Nz{α:Type}{ys xs:List α}{i:Nat}{y:α}(l:xs.length=ys.length)(h:ys[i]?=some y):(ys.take i++xs.drop i).set i y=ys.take (i+1)++xs.drop (i+1):=by
 have hi:i<ys.length:=(bo.mp h).1;have hx:i<xs.length:=by omega
 have e:ys[i]=y:=(bo.mp h).2;rw[tq hx,List.set_append,if_neg (by rw[jt];omega),jt,xy (om hi),fx,ee,List.take_succ_eq_append_getElem hi,e,mj];rfl
theorem Tk{α:Type}{l:List α}{i:Nat}{a b:α}:(l.set i a).set i b=l.set i b:=by simp
theorem O5{ics ic im:Nat}{c cs mm:Str}{p1 p2 p3 p4 p5 p6 p7 p8 p9 apos:ai}{j:Nat}(hp:oq (model X.prog X.w) X.A X.env X.xe)(hc:X.calm=true)(hN:X.N.Nodup)(h1:X.N[ics]?=some cs)(h2:X.N[ic]?=some c)(h3:X.N[im]?=some mm)
  (v1:kG X.env.scope cs)(v2:kK X.env.scope c)(v3:kG X.env.scope mm)(ne1:ics≠ic)(ne2:im≠ic)
  (ha:∀v,assign (.Subscript (.Name c p3) (.Name mm p4) p5) X.env v=(do
   let ov <-holding [v] (eval (.Name c p3) X.env)
   let iv <-holding [v,ov] (eval (.Name mm p4) X.env)
   standAt p5
   holding [v,ov,iv] (setItem ov iv v)
   release [v,ov,iv] []):=by intro _;rfl)
  (hs:swapsWithSole [.Subscript (.Name c p3) (.Name mm p4) p5] (.BinOp (.Constant (.int 1) j p6) .Sub (.Subscript (.Name c p7) (.Name mm p8) p9) p2) apos.line X.env=pure false:=by rfl)(hw:swappedStores [.Subscript (.Name c p3) (.Name mm p4) p5] (.BinOp (.Constant (.int 1) j p6) .Sub (.Subscript (.Name c p7) (.Name mm p8) p9) p2) X.env=pure none:=by rfl)
  (ht:(assignEach [.Subscript (.Name c p3) (.Name mm p4) p5] X.env).map (·.2)=[assign (.Subscript (.Name c p3) (.Name mm p4) p5) X.env]:=by rfl)
  (hpl:rN (.Name mm p8):=by intro _ _;rfl)
  (d1:(cs==("__debug__":Str))=false:=by decide)(d2:(c==("__debug__":Str))=false:=by decide)(d3:(mm==("__debug__":Str))=false:=by decide)
  (k1:(cs==("__classdict__":Str))=false:=by decide)(k2:(c==("__classdict__":Str))=false:=by decide)(k3:(mm==("__classdict__":Str))=false:=by decide)
  (hf:X.fn c=true\/X.env.scope.names.lookup c=some .local:=by first |exact .inl rfl |exact .inr rfl |assumption)
  (hfs:∀x,foldedSetIterable (.Name cs p1) X.env x=pure x:=by intro _;rfl){cp:ai}:
  eA K cl E X (.For (.Name c cp) (.Name cs p1) [.Assign [.Subscript (.Name c p3) (.Name mm p4) p5] (.BinOp (.Constant (.int 1) j p6) .Sub (.Subscript (.Name c p7) (.Name mm p8) p9) p2) apos] [] pos) (oP ics ic im):=by
 intro hK;subst hK;have vc:kG X.env.scope c:=v2.elim .inl λz=>.inr (.inl z);refine PS.imp (Ap hp hc (Wo (kS h1 v1 d1 k1)) (Um hN h2 v2 hf) (Ln (vU (Qq Qo vR (wP Wp (kS h2 vc d2 k2) (kS h3 v3 d3 k3) hpl)) (Ic (kS h2 vc d2 k2) (kS h3 v3 d3 k3) Fk ha) hs hw ht)) hfs) ?_
 rintro D σ H ⟨p,S,ρ,s,ev,h⟩
 unfold oP at h;split at h
 .rename_i k m q1 q2
  split at h
  .rename_i xss hS
   split at h
   .rename_i plc
    obtain⟨pl,hic⟩:=plc;split at h
    .rename_i yss hy
     obtain⟨x,ex,rx⟩:=ev.at_ ics _ q1;obtain⟨a,ea,rfl⟩:=rx;obtain⟨ll,fl⟩:=Hh hy;have hk:k<S.length:=(bo.mp hS).1;obtain⟨bs0,b1,b2,b3,b4,b5,b6⟩:=s.obj k a _ ea hS;have plx:∀zss,xZ k (S.set k (.lol zss)):=λzss j o e n=>by
      rw[fe (ik n)]at e;exact pl j o e n
     refine⟨.ref a,ex,a,rfl,.inl ⟨⟨_,bS.of b1⟩,λi n σ1 H1=>n=xss.length-i/\i<=xss.length/\∃p1,bI p H p1 H1/\aT X.K p1 (S.set k (.lol (yss.take i++xss.drop i))) H1/\dB X.K p1 H1 (ρ.set ic none) σ1,⟨_,rfl,cy _,p,s.step,?_,?_⟩,?_⟩⟩
     .have e0:S.set k (.lol xss)=S:=by
       obtain⟨g1,g2⟩:=bo.mp hS;rw[<-g2];exact o3 g1
      simpa[e0]using s
     .have:=ev.forget ic ((σ[ic]?).join)
      have e0:σ.set ic (σ[ic]?).join=σ:=by
       by_cases hi:ic<σ.length
       .rw[au hi]
        exact o3 hi
       .exact List.set_eq_of_length_le (by omega)
      rwa[e0]at this
     .rintro i n σ1 H1 ⟨rfl,hi,p1,st1,sm1,ev1⟩
      have e1:=st1.at_ ea;have hS1:(S.set k (.lol (yss.take i++xss.drop i)))[k]?=some (.lol (yss.take i++xss.drop i)):=dr hk;obtain⟨bs,c1,c2,c3,c4,c5,c6⟩:=sm1.obj k a _ e1 hS1;have lz:(yss.take i++xss.drop i).length=xss.length:=by
       rw[bi,jt,qy];omega
      by_cases hlt:i<xss.length
      .have hib:i<bs.length:=by omega
       obtain⟨ys,ey,fy⟩:=fl i _ (au hlt);have ez:(yss.take i++xss.drop i)[i]?=some xss[i]:=by
        rw[dg (by rw[jt];omega),jt,xy (by omega),fx,List.getElem?_drop,Nat.add_zero];exact au hlt
       obtain⟨vs,g1,g2,g3⟩:=c6 i _ _ ez (au hib);unfold wS at fy;split at fy
       .rename_i jj hj
        split at fy
        .rename_i v hv
         cases fy;obtain⟨u,eu,ru⟩:=g3.get hv;have:u=.int v:=by unfold aI at ru;exact ru
         subst this;obtain⟨xm,exm,rxm⟩:=ev1.at_ im (.pv (.int m)) (by rw[fe (ik ne2)];exact q2);have:xm=.int m:=by
          have rxm:aI X.K p1.c H1 (.int m) xm:=rxm;unfold aI at rxm;exact rxm
         subst this;refine .inr ⟨⟨_,.ref bs[i],bS.of c1,by rw[av,au hib];rfl⟩,λσ' H'=>∃p2,bI p H p2 H'/\aT X.K p2 (S.set k (.lol (yss.take (i+1)++xss.drop (i+1)))) H'/\dB X.K p2 H' (ρ.set ic none) σ',λσ' H' hn=>⟨xss.length-(i+1),by omega,rfl,hlt,hn⟩,λx H2 hy=>?_⟩;obtain⟨rfl,hy⟩:=hy;have ey2:=hy _ (bS.of c1);rw[av,au hib]at ey2;cases ey2;have hic1:ic<σ1.length:=by
          rw[<-ev1.len,fg];exact hic
         have sc:(σ1.set ic (some (V.ref bs[i])))[ic]?=some (some (.ref bs[i])):=dr hic1;have sm':(σ1.set ic (some (V.ref bs[i])))[im]?=some (some (.int m)):=by rw[fe (ik ne2)];exact exm
         have hj':bD vs.length m=some jj:=by rw[<-g3.length];exact hj
         have ha1:bB vs m=some (.int v):=by unfold bB;rw[hj'];exact eu
         obtain⟨st2,sm2⟩:=sm1.inner (ys:=xss[i].set jj (.int (1-v))) (ws:=vs.set jj (.int (1-v))) e1 hS1 (plx _) c1 (au hib) (by rw[fg];exact g2) (aJ.set (iM (v:=.int (1-v)) rfl) jj g3);rw[Tk,Nz ll ey]at sm2;have ev2:=(st2.repE ev1).forget ic (some (V.ref bs[i]));rw[Tk]at ev2;exact⟨_,sc,_,sm',.inl ⟨_,_,_,_,rfl,rfl,bS.of g1,ha1,1,v,rfl,rfl,_,sc,_,sm',_,_,_,_,rfl,rfl,g1,hj',p1,st1.trans st2,sm2,ev2⟩⟩
        .cases fy
       .cases fy
      .have e:i=xss.length:=by omega
       subst e;refine .inl ⟨⟨_,bS.of c1,by rw[am];omega⟩,?_⟩;rw[tw,la,ll,xn]at sm1;exact h p1 H1 σ1 st1 sm1 ev1
    .exact h.elim
   .exact h.elim
  .exact h.elim
 .exact h.elim
open Classical in
def wE(n:Nat):bZ->bK AV
 |.rt (.ref k) S=>match S[k]? with
  |some (.lol xss)=>if ¬k<n/\Pl (S.take n)then .ok (.pv (.lst (xss.map .lst))) (S.take n)else .fail
  |_=>.fail
 |_=>.fail
open Classical in
def oZ(np n:Nat)(b:MS)(xs:AK)(S:aG):bK AV:=if xs.length=np/\Pl S then wE S.length (b (iW n xs) S)else .fail
def Ph.only(p:Ph):Ph:=⟨p.f,λa=>a∈p.f,p.c⟩
theorem aT.only(s:aT K p S H)(pl:Pl S):aT K p.only S H:=
 ⟨s.nd,s.len,λ_ h=>h,λa h=>s.wc a (s.sub a h),s.mu,λk a o e1 e2=>by
  obtain⟨xs,rfl⟩:=pl k o e2;exact s.obj k a _ e1 e2⟩
theorem Lv{as:AK}{vs:List V}(h:fY K p H as vs):fY K p.only H as vs:=by
 induction h with
 |nil=>exact .nil
 |cons h _ ih=>
  refine .cons ?_ ih;rename_i v x _ _ _;cases v with
  |pv v=>exact h
  |ref k=>exact h
theorem Au{r:bZ}{Q:VK}{E:XK}(s:aT K p S H)(pl:Pl S)(h:bR K cl (bX K) p H (wE S.length r) Q E):dS K cl p.only H r {nx:=λ_ H'=>Q .non H',rt:=Q} E:=by
 cases r with
 |rt v S1=>
  cases v with
  |pv v=>exact h.elim
  |ref k=>
   unfold wE at h;dsimp only at h;split at h
   .rename_i xss hS
    split at h
    .rename_i hc
     obtain⟨hk,plt⟩:=hc
     rintro q H' x st sm ⟨a,e,rfl⟩
     have s1:=s.only pl;obtain⟨na,hn,nc⟩:=zP s1 st sm e hk;obtain⟨bs,g1,g2,g3,g4,g5,g6⟩:=sm.obj k a _ e hS;have fresh:∀b∈bs,H b=none:=λb hb=>st.nw b (g4 b hb).1 λm=>(g4 b hb).2 (st.pre.subset m);obtain⟨st1,sm1⟩:=s1.cutX (λb=>b=a\/b∈bs) st sm (λb d=>d.elim (λz=>z▸hn) (fresh b)) (.inr λj o e hj=>plt j o (by rw[tx,if_pos hj];exact e));refine h ⟨p.f,λb=>(q.w b/\¬(b=a\/b∈bs))\/p.w b,λb=>q.c b/\¬(b=a\/b∈bs)⟩ H' (.ref a) ⟨s.wc,s.mu,jg,λb h=>.inr h,st1.mono,λ_ h g=>absurd h g,λb h n=>?_,st1.nc,λb o e n=>st1.keep b o e λz=>n (s.sub b z)⟩
      ⟨s.nd,sm1.len,λb h=>.inr (s.sub b h),λb h=>h.elim (sm1.wc b) λz=>st1.mono b (s.wc b z),sm1.mu,λj b o e1 e2=>(sm1.obj j b o e1 e2).mono (λ_ e=>e) (λc w f=>⟨⟨.inl w,f⟩,λ_ e=>e⟩) λ_ _ r=>r⟩ ?_
     .rcases h with h |h
      .exact st1.nw b h λz=>n (s.sub b z)
      .exact absurd h n
     .show aI K (λb=>q.c b/\¬(b=a\/b∈bs)) H' (.lst (xss.map .lst)) (.ref a)
      unfold aI;refine⟨a,bs.map V.ref,rfl,.inl ⟨g1,λd=>d.2 (.inl rfl)⟩,by rw[am];exact g2,?_⟩;have go:∀(yss:List AH)(cs:List Addr),yss.length=cs.length->(∀c∈cs,c∈bs)->(∀(i:Nat)(xs:AH)(b:Addr),yss[i]?=some xs->cs[i]?=some b->∃vs,H' b=some (.lst vs)/\vs.length<=sizeLine/\aJ K q.c H' xs vs)->aJ K (λb=>q.c b/\¬(b=a\/b∈bs)) H' (yss.map .lst) (cs.map V.ref):=by
       intro yss
       induction yss with
       |nil=>
        intro cs l _ _;have:cs=[]:=xz.mp l.symm;subst this;exact .nil
       |cons ys r ih=>
        intro cs l hm hh;cases cs with
        |nil=>cases l
        |cons c t=>
         obtain⟨vs,k1,k2,k3⟩:=hh 0 ys c rfl rfl;refine .cons ?_ (ih t (by simpa using l) (λc h=>hm c (bn _ h)) λi xs b e1 e2=>hh (i+1) xs b (by simpa using e1) (by simpa using e2));unfold aI;exact⟨c,vs,rfl,.inl ⟨k1,λd=>d.2 (.inr (hm c ay))⟩,k2,mL (λb h=>h.1) k3⟩
      exact go xss bs g5 (λ_ h=>h) g6
    .exact h.elim
   .exact h.elim
 |nx ρ S1=>exact h.elim
 |exc n S1=>exact h.elim
 |bk ρ S1=>exact h.elim
 |ct ρ S1=>exact h.elim
 |fail=>exact h.elim
end
section
variable{P:Program}{w:al}{K:ag}{mg:Str->AE}{base:Heap}{cl:Str->Addr}
theorem R9{np n:Nat}{b:MS}{vs:List V}{H:Hp}{Q:VK}{E:XK}(h:mF K cl (oZ np n b) vs H Q E):vs.length=np:=by
 obtain⟨p,S,xs,sm,ra,h⟩:=h;unfold oZ at h;split at h
 .rename_i e
  rw[<-Xi ra,e.1]
 .exact h.elim
theorem okL{x qual:Str}{st:Stmt}{f:Addr}{fd:cf}{N ps:List Str}{k np n:Nat}{b:MS}(F:jR K x qual st f fd)(S:jM N ps (cR st))(hnp:ps.length=np)(hn:N.length=n)
  (hb:∀(cdv:Value)(A:aq)(outer:List bh)(s:aa)(H:Hp)(E:XK),dP k (A.deeper (envOfC qual (cR st) s.heap.objs.size f cdv))->gG K cl E0 (fK eZ P w K mg base N qual (cR st) f cdv A outer s H E).nox (eP st) b):
  eG P w K mg base eZ (k+1) f fd ps (jD K cl (oZ np n b)):=by
 subst hnp hn;refine F.ok S (λvs H Q E h=>R9 h) λcdv A outer s H vs Q E hr h=>⟨_,hb cdv A outer s H E hr rfl,?_⟩;obtain⟨p,S,xs,sm,ra,h⟩:=h;unfold oZ at h;split at h
 .rename_i e
  exact⟨p.only,S,_,sm.only e.2,zI (Lv ra),Au sm e.2 h⟩
 .exact h.elim
end
end
def xA(v:AV)(S:aG):bK Bool:=match rd S v with
 |some (.lst xs)=>.ok (!xs.isEmpty) S
 |some (.tup xs)=>.ok (!xs.isEmpty) S
 |some (.int i)=>.ok (i !=0) S
 |some (.bl b)=>.ok b S
 |_=>.fail
def tG(m:ME):MT:=λρ S=>(m ρ S).bind xA
theorem Yg{K:ag}{c:Addr->Prop}{H:Hp}{xs:AH}{vs:List V}(r:aJ K c H xs vs):vs.isEmpty=xs.isEmpty:=by
 have:=r.length;cases xs<;>cases vs<;>simp_all
theorem L0{K:ag}{cl:Str->Addr}{E:XK}{X:Cx}{a:ah}{ma:ME}(ha:aM K cl E X a ma)(he:∀whole,isTrue a X.env whole=(do let v <-whole;standAt a.pos;holding [v] (truthy v)):=by intro _;rfl):fH K cl E X a (tG ma):=by
 intro hK;subst hK;refine(E2 (ha rfl) he).imp ?_
 rintro σ H Q ⟨p,S,ρ,s,e,h⟩
 refine bW s e h λq H1 a x S1 st s1 e1 r1 h1=>?_;unfold xA at h1;cases z:rd S1 a with
 |none=>rw[z]at h1;exact h1.elim
 |some v=>
  rw[z]at h1;have rr:=oG s1 r1 z;cases v with
  |lst xs=>
   obtain⟨b,vs,rfl,l,_,r⟩:=rr.lst;exact⟨_,.inl ⟨vs,l,by rw[Yg r]⟩,bR.ret (R:=RB) h1 s1 rfl⟩
  |tup xs=>
   obtain⟨b,vs,rfl,l,_,r⟩:=rr.tup;exact⟨_,.inr (.inl ⟨vs,l,by rw[Yg r]⟩),bR.ret (R:=RB) h1 s1 rfl⟩
  |int i=>
   cases rr.int;exact⟨_,rfl,bR.ret (R:=RB) h1 s1 rfl⟩
  |bl i=>
   cases rr.bl;exact⟨_,rfl,bR.ret (R:=RB) h1 s1 rfl⟩
  |_=>exact h1.elim
def tL(P:Program)(w:al)(K:ag)(mg:Str->AE)(base:Heap)(cl:Str->Addr)(x:Str)(k:Nat)(ps:List Str)(g:FM):Prop:=∃(a:Addr)(d:cf),eG P w K mg base eZ k a d ps (jD K cl g)/\iX K d ps []/\fz K (.ref a)=true/\mg x=some (.ref a)
section
variable{cl:Str->Addr}{E:XK}{X:Cx}{e:ah}{es:List ah}{ms:MA}{pos p:ai}{k k0:Nat}{ps:List Str}{g:FM}{x:Str}
theorem abj(C:tL X.prog X.w X.K X.mg X.base cl x k ps g)(hr:dP k0 X.A)(hk:k<=k0)(hg:Gl X x)(ha:eF X.K cl E X (e::es) ms)(hdb:(x==("__debug__":Str))=false:=by decide)(he:starEach (e::es) X.env=(false,eval e X.env)::starEach es X.env:=by rfl)(hpl:(backTo pos (starEach es X.env)).any (·.1)=false:=by rfl):
  aM X.K cl E X (.Call (.Name x p) (e::es) [] pos) (aU g [] ms):=by
 obtain⟨a,d,G,b,kk,n⟩:=C;exact F4 G (hr.mono hk) hg n kk b .nil Dv.nil ha hdb he hpl
theorem abi(C:tL X.prog X.w X.K X.mg X.base cl x k ps g)(hr:dP k0 X.A)(hk:k<=k0)(hg:Gl X x)(ha:eF X.K cl E X (e::es) ms)(hdb:(x==("__debug__":Str))=false:=by decide)(he:starEach (e::es) X.env=(false,eval e X.env)::starEach es X.env:=by rfl)(hpl:(backTo pos (starEach es X.env)).any (·.1)=false:=by rfl):
  aM X.K cl E X (.Call (.Name x p) (e::es) [] pos) (pW g [] ms):=by
 obtain⟨a,d,G,b,kk,n⟩:=C;exact B5 G (hr.mono hk) hg n kk b .nil Dv.nil ha hdb he hpl
end
theorem Tv(l:Addr)(its:Array Value)(n:Nat)(b:Addr)(jts:Array Value)(k:Nat)(dd:AF)(sl:Array AE)(h0:¬(!its.isEmpty&&rh (its.size+jts.size))=true)(h1:its.size<=sizeLine)(h2:its.size+jts.size<=sizeLine+1):
  Meets (Builtin.«list.__iadd__» ⟨[.ref l,.ref b],[]⟩) (λ_ R s=>s.heap.get? l=some ⟨.type "list",none,.seq its n,#[]⟩/\s.heap.get? b=some ⟨.type "list",dd,.seq jts k,sl⟩/\R (.ok (.ret (cq l))) {s with heap:=s.heap.update l (dj λx=>x++jts),toks:=s.toks}):=
 .of_wp λprog w A R s h=>by
  obtain⟨hp,g,d,tk,os⟩:=s;obtain⟨hl,hb,h⟩:=h;have f1:=PySem.AutoSeq1.idx_int;have f2:=PySem.AutoSeq1.sub_tuple_tuple;have f3:=PySem.AutoSeq1.sub_list_list;have f4:=PySem.AutoSeq1.sub_tuple_list;have f5:=PySem.AutoSeq1.sub_list_tuple;have hz':(its++jts).size<=sizeLine+1:=by
   rw[Array.size_append];exact h2
  wp_walk using(wpAny_updateSeq hl rfl (hz:=h1) (_hz':=hz')),wpAny_loadPart' hl,wpAny_loadPart' hb
  exact⟨_,rfl,h⟩
section
variable{X:Cx}
def abI(K:ag):xV:=λx y H Q=>∃l b xs zs,x=.ref l/\y=.ref b/\H l=some (.lst xs)/\bS K H b zs/\xs.length+zs.length<=sizeLine/\Q (.ref l) (aK H l (.lst (xs++zs)))
theorem Z8:L2.PIp X .Add (abI X.K):=by
 intro AL s σ H x y v u Q I rx ry h;obtain⟨l,b,xs,zs,rfl,rfl,hx,hy,hz,q⟩:=h;cases rx;cases ry;obtain⟨z,its,n,r1,hl,e⟩:=I.lstM hx;obtain⟨jts,r2,p2,_⟩:=I.list hy;obtain⟨⟨cls2,dd2,data2,sl2⟩,n2,ho2,hc2,_,hd2⟩:=p2;simp only at hc2 hd2;subst hc2 hd2;have l1:=r1.length;have l2:=r2.length;have hsz:its.toArray.size+jts.toArray.size<=sizeLine:=by rw[ar,ar];omega
 have hlong:¬(!its.toArray.isEmpty&&rh (its.toArray.size+jts.toArray.size))=true:=by
  rw[E8 hsz,Bool.and_false];exact ir
 have ta:s.TypeIs (.ref l) "list":=⟨_,e,rfl⟩;have tb:s.TypeIs (.ref b) "list":=⟨_,ho2,rfl⟩;have hf:=o4.lookup;have hq:isSeqSlot (some (.builtin "list.__iadd__"))=true:=by decide+kernel
 have hfi:fillsInplaceSlot (.type "list") "add" (Operator.Add== .Add)=pure false:=by
  unfold fillsInplaceSlot;show(typeLookup (.type "list") (dunderI "add") >>= λfi=>pure (fi.isSome&& !isSeqSlot fi))=pure false;rw[hf,pure_bind,hq];rfl
 have hsi:seqSlot? (.type "list") (dunderI "add")=pure (some (.builtin "list.__iadd__")):=PySem.seqSlot_of hf hq;unfold inplaceOp;refine ji ?_;refine ae (wpAny_typeOf ta (ae (sv hfi ?_)));show wpAny _ _ (if false=true then _ else _) _ _ s;rw[if_neg ir];refine ae (wpAny_binaryOp1_none (nm:="add") ta tb noFill_list_add ?_);refine ae (sv hsi ?_);refine ae (ki ?_);refine vq o4 ⟨_,e,rfl⟩ o5 (PySem.F.args_list_iadd_2 _ _) (Tv l its.toArray n b jts.toArray n2 dd2 sl2 hlong (by rw[ar];omega) (by omega)) ⟨e,ho2,?_⟩;refine⟨.ref l,_,I.lset (its':=its++jts) hx e (by simp) (r1.append r2) ?_,rfl,q⟩;rw[bi];omega
end
section
variable{K:ag}{cl:Str->Addr}{E:XK}{X:Cx}{e:ah}{m:ME}{pos:ai}
def Zd(k:Nat)(ρ:bT)(v:AV)(S:aG):bZ:=match v with
 |.pv (.lst ys)=>match S[k]? with
  |some (.lst xs)=>if xs.length+ys.length<=16777216 then .nx ρ (S.set k (.lst (xs++ys)))else .fail
  |_=>.fail
 |_=>.fail
def nC(i:Nat)(m:ME):MS:=λρ S=>match ρ[i]? with
 |some (some (.ref k))=>bZ.of (m ρ S) (Zd k ρ)
 |_=>.fail
theorem Xy{i:Nat}{x:Str}{pos':ai}(hN:X.N.Nodup)(hi:X.N[i]?=some x)(hx:kK X.env.scope x)(he:aM K cl E X e m)
  (hf:X.fn x=true\/X.env.scope.names.lookup x=some .local:=by first |exact .inl rfl |exact .inr rfl |assumption):eA K cl E X (.AugAssign (.Name x pos') .Add e pos) (nC i m):=by
 intro hK;subst hK;refine PS.imp (Y8 hN hi hx (he rfl) Z8 hf) ?_
 rintro D σ H ⟨p,S,ρ,s,ev,h⟩
 unfold nC at h;split at h
 .rename_i k hx0
  obtain⟨v,e1,r1⟩:=ev.at_ i _ hx0;refine⟨v,e1,iE s ev h λq H' a b S' cJ sm ev' r z=>?_⟩;obtain⟨D0,ea,rfl⟩:=cJ.repA r1;unfold Zd at z;split at z
  .rename_i ys
   obtain⟨b0,ws,rfl,sq,lw,rw0⟩:=(show eW X.K q H' (.lst ys) b from .inl r).lst;split at z
   .rename_i xs hS
    split at z
    .rename_i hl
     obtain⟨vs,h3,l3,r4⟩:=sm.obj k D0 _ ea hS;have hz:=hU;have n1:=r4.length;have n2:=rw0.length;obtain⟨dI,sm3⟩:=sm.write ea (bo.mp hS).1 (ps:=xs++ys) (vs:=vs++ws) (by rw[bi];omega) (r4.append rw0);refine⟨D0,b0,vs,ws,rfl,rfl,h3,sq,by omega,?_⟩;have es:σ.set i (some (.ref D0))=σ:=by
      refine jc λj=>?_
      by_cases hj:i=j
      .subst hj
       rw[dr (bo.mp e1).1,e1]
      .rw[fe hj]
     show D.nx (σ.set i (some (.ref D0))) _;rw[es];exact dS.nxD (z.mono dI) sm3 (dI.repE ev')
    .exact z.elim
   .exact z.elim
  .exact z.elim
 .exact h.elim
end
section
variable{K:ag}{cl:Str->Addr}{E:XK}{X:Cx}
variable{a e:ah}{m:ME}{ms:MA}{pos:ai}
end
section
variable{K:ag}{cl:Str->Addr}{E:XK}{X:Cx}
end
section
variable{K:ag}{cl:Str->Addr}{E:XK}{X:Cx}
def tJ(K:ag)(mg:Str->AE)(x:Str)(pv:PV):Prop:=∃(u:Value)(v:V),mg x=some u/\bP v u/\∀c H,aI K c H pv v
theorem Hn{x:Str}{pv:PV}{pos:ai}(hg:Gl X x)(hm:tJ K X.mg x pv)(hd:(x==("__debug__":Str))=false:=by decide):aM K cl E X (.Name x pos) (mC pv):=λ_=>by
 obtain⟨u,v,hm,r,hr⟩:=hm;exact(K8 hg hm r hd).imp λσ H Q ⟨p,S,ρ,s,e,h⟩=>bR.ret (R:=bX K) (x:=v) h s (hr p.c H)
theorem lN:∀c H,aJ K c H [] []:=λc H=>by
 unfold aJ;rfl
theorem eU{p:PV}{ps:AH}{v:V}{vs:List V}(h:∀c H,aI K c H p v)(t:∀c H,aJ K c H ps vs):∀c H,aJ K c H (p::ps) (v::vs):=λc H=>by
 unfold aJ;exact⟨v,vs,rfl,h c H,t c H⟩
theorem gI{i:Int}:∀c H,aI K c H (.int i) (.int i):=λc H=>by
 unfold aI;rfl
theorem lO{a:Addr}{od:AF}{its:Array Value}{n:Nat}{sl:Array AE}{xs:AH}{vs:List V}(l:K.lookup a=some ⟨.type "tuple",od,.seq its n,sl⟩)(hs:its.size<=sizeLine)(hv:aX vs its.toList)(hl:vs.length<=sizeLine)(t:∀c H,aJ K c H xs vs):∀c H,aI K c H (.tup xs) (.ref a):=λc H=>by
 unfold aI;exact⟨a,vs,rfl,.inr ⟨_,its,n,l,rfl,rfl,hs,hv⟩,hl,t c H⟩
end
section
variable{K:ag}{cl:Str->Addr}{E:XK}{X:Cx}
end
section
variable{K:ag}{cl:Str->Addr}{E:XK}{X:Cx}
variable{a e:ah}{m:ME}{ms:MA}{pos:ai}
end
section
variable{M:kx}{A:aq}{E:Value->aa->Prop}{s:aa}{env:bh}
end
section
variable{prog:Program}{w:al}{A:aq}{R:ow->aa->Prop}{s:aa}
end
end L2.Pp
namespace L2
open PySem PySem.Spec PyProof.Rows Bn
section
variable{X:Cx}{AL:List (Addr×Obj)}{σ:St}{H H':Hp}{s s':aa}
end
open L2.Pp
section
variable{P:Program}{w:al}{K:ag}{mg:Str->AE}{base:Heap}{N:List Str}{qual:Str}{scope:Scope}{f:Addr}{cd:Value}{A:aq}{outer:List bh}{AM:aa}{AN:Hp}{E:XK}
end
section
variable{P:Program}{w:al}{K:ag}{mg:Str->AE}{base:Heap}{N:List Str}{qual:Str}{scope:Scope}{f:Addr}{cd:Value}{A:aq}{outer:List bh}{AM:aa}{AN:Hp}{E:XK}
variable{sc:Scope}{own:List Str}{cap:List (Nat×Str)}{AL:List (Addr×Obj)}{σ:St}{H:Hp}{s:aa}{elt target iter:ah}{pos pos':ai}{wi:TI}{g:TG}{te:TE}{Q:VK}
end
end L2
namespace L2.Pp
open PySem PySem.Spec PyProof.Rows Bn
section
variable{K:ag}{cl:Str->Addr}{E:XK}{X:Cx}{p q:Ph}{H H':Hp}{S:aG}
variable{sc:Scope}{own:List Str}{cap:List (Nat×Str)}{elt target iter:ah}{pos:ai}{mi:MI}{g:GM}{me:ME}
end
section
variable{P:Program}{w:al}{K:ag}{mg:Str->AE}{base:Heap}{N:List Str}{qual:Str}{scope:Scope}{f:Addr}{cd:Value}{A:aq}{outer:List bh}{AM:aa}{AN:Hp}{E:XK}{cl:Str->Addr}
variable{sc:Scope}{own:List Str}{cap:List (Nat×Str)}{elt target iter:ah}{pos:ai}{mi:MI}{g:GM}{me:ME}{wi:TI}{tg:TG}{te:TE}
end
section
variable{K:ag}{cl:Str->Addr}{E:XK}{X:Cx}{e:ah}{es:List ah}{ms:MA}{pos p:ai}{k n:Nat}{f:Addr}{fd:cf}{ps:List Str}{g:FM}{x:Str}{dvs:List V}{ds:AD}{dv:AH}
end
section
variable{K:ag}{cl:Str->Addr}{E:XK}{X:Cx}
end
section
variable{K:ag}{cl:Str->Addr}{E:XK}{X:Cx}{a b e:ah}{m:ME}{ms:MA}{pos:ai}
end
end L2.Pp
namespace L2
open PySem PySem.Spec PyProof.Rows Bn
section
variable{X:Cx}{k:Nat}{f:Addr}{fd:cf}{ps:List Str}{sp:Sp}{dvs:List V}{ds:AD}{x:Str}{p pos pos1 pos2 pos3 pc:ai}{e a:ah}{es:List ah}{t:TA}{ta:TE}{te:XK->TE}{c n:Str}{C:Addr}{i:Nat}{AR:Stmt}{body:List Stmt}{newId:String}
end
end L2
namespace L2.Pp
open PySem PySem.Spec PyProof.Rows Bn
section
variable{K:ag}{cl:Str->Addr}{E:XK}{X:Cx}{a b c e:ah}{m mc:ME}{ms:MA}{pos:ai}{tg:ah}{ma mb:ME}
end
section
variable{K:ag}{cl:Str->Addr}{E:XK}{X:Cx}{e a:ah}{es:List ah}{ms:MA}{ma me:ME}{p q:Ph}{H H':Hp}{S:aG}
variable{k:Nat}{f:Addr}{fd:cf}{ps:List Str}{g:FM}{dvs:List V}{ds:AD}{dv:AH}{x:Str}{pp pos pos1 pos2 pos3 pc:ai}{c n:Str}{i nn:Nat}{AR:Stmt}{body:List Stmt}{newId:String}{up:bT->bT}
variable(K cl X)
variable{K cl X}
end
section
variable{K:ag}{cl:Str->Addr}{E:XK}{X:Cx}{a b:ah}{ma mb:ME}{pos:ai}
end
end L2.Pp
namespace L2
open PySem PySem.Spec PyProof.Rows Bn
section
variable{X:Cx}{k:Nat}{p pos pos1 pos2 pos3 pc:ai}{e:ah}{te:XK->TE}{c:Str}{C:Addr}{AR:Stmt}{body:List Stmt}{newId:String}
end
end L2
namespace L2.Pp
open PySem PySem.Spec PyProof.Rows Bn
section
variable{K:ag}{cl:Str->Addr}{E:XK}{X:Cx}{a b e:ah}{m me:ME}{ms:MA}{pos pos1 pos2 pos3 pc:ai}{c:Str}{nn:Nat}{AR:Stmt}{body:List Stmt}{newId:String}{up:bT->bT}
end
section
variable{M:kx}{A:aq}{E:Value->aa->Prop}{s:aa}{env:bh}
end
end L2.Pp
namespace L2
open PySem PySem.Spec PyProof.Rows Bn L2.Pp
section
variable{P:Program}{w:al}{K:ag}{mg:Str->AE}{base:Heap}{N:List Str}{qual:Str}{scope:Scope}{f:Addr}{cd:Value}{A:aq}{outer:List bh}{AM:aa}{AN:Hp}{E:XK}
variable{sc:Scope}{own:List Str}{cap:List (Nat×Str)}{AL:List (Addr×Obj)}{σ:St}{H:Hp}{s:aa}{elt target iter:ah}{pos pos':ai}{wi:TI}{g:TG}{te:TE}{Q:VK}
end
end L2
namespace L2.Pp
open PySem PySem.Spec PyProof.Rows Bn
section
variable{P:Program}{w:al}{K:ag}{mg:Str->AE}{base:Heap}{N:List Str}{qual:Str}{scope:Scope}{f:Addr}{cd:Value}{A:aq}{outer:List bh}{AM:aa}{AN:Hp}{E:XK}{cl:Str->Addr}
variable{sc:Scope}{own:List Str}{cap:List (Nat×Str)}{elt target iter:ah}{pos:ai}{mi:MI}{g:GM}{me:ME}
end
section
variable{K:ag}
end
section
variable{K:ag}{X:Cx}
end
end L2.Pp
namespace L2
open PySem PySem.Spec PyProof.Rows Bn
def wO(J:It)(g:TG)(tc:TT)(te:TE)(AQ:St)(H1:Hp)(D:Addr)(Q:VK):Prop:=
 ∃W:Nat->Nat->St->Hp->List V->Prop,(∃m,W 0 m AQ (aK H1 D (.lst [])) [])/\∀i m σ H ys,W i m σ H ys->H D=some (.lst ys)/\
  ((J.stop i H/\Q (.ref D) H)\/(J.go i H/\ys.length<sizeLine/\∀x H2,J.yld i H x H2->g x σ H2 λσ3 H3=>tc σ3 H3 λb HA=>if b=true then te σ3 HA λy H4=>H4 D=some (.lst ys)/\∃m',m'<m/\W (i+1) m' σ3 (aK H4 D (.lst (ys++[y]))) (ys++[y])else ∃m',m'<m/\W (i+1) m' σ3 HA ys))
def No(own:List Str)(cap:List (Nat×Str))(wi:TI)(g:TG)(tc:TT)(te:TE):TE:=λσ H Q=>wi σ H λJ H1=>∀D,H1 D=none->wO J g tc te (iL own cap σ) H1 D Q
section
variable{prog:Program}{w:al}{A:aq}{R:ow->aa->Prop}{s:aa}
theorem Jv{elt target iter cnd:ah}{sc:Scope}{pos:ai}{it acc:Value}{env:bh}(I:Nat->aa->Prop)
  (turn:∀n s,I n s->wpAny (model prog w) A (pyNext it) (λr s1=>match r with
   |none=>R (.ok .next) s1
   |some v=>wpAny (model prog w) A (letOwnedTupleGo target it v) (λ_ s2=>wpAny (model prog w) A (assign target env v) (λ_ s3=>wpAny (model prog w) A (isTrue cnd env (eval cnd env)) (λb sA=>if b=true then wpAny (model prog w) A (eval elt env)
     (λx s4=>wpAny (model prog w) A (call (.builtin "list.append") [acc,x]) (λ_ s5=>∃m,m<n/\I m s5) (λ_ _=>False) s4) (λ_ _=>False) sA else ∃m,m<n/\I m sA) (λ_ _=>False) s3) (λ_ _=>False) s2) (λ_ _=>False) s1) (λ_ _=>False) s)
  (n:Nat)(h:I n s):codeAny (model prog w) A (.compLoop (.ListComp elt [⟨target,iter,[cnd],0⟩] sc pos) 0 it acc env) R s:=by
 refine codeAny_loop rfl I (λn s hI=>?_) n h;show wpAny _ _ ((compTurn (.ListComp elt [⟨target,iter,[cnd],0⟩] sc pos) 0 it acc env).onRaise (λx=>do noteFrame x env;theTreesLotGoes x)) _ _ s;refine wpAny_noted ?_;rw[compTurn_list];refine ae (oo (ae ?_));refine fj (turn n s hI) (λr s1 h1=>?_) λ_ _ z=>z.elim;cases r with
 |none=>exact ak h1
 |some v=>
  refine ae (fj h1 (λ_ s2 h2=>?_) λ_ _ z=>z.elim);refine ae (fj h2 (λ_ s3 h3=>?_) λ_ _ z=>z.elim);refine ae (wpAny_tests_one (fj h3 (λok sA hA=>?_) λ_ _ z=>z.elim));cases ok with
  |true=>
   rw[if_pos rfl]at hA⊢;refine ae (ae (fj hA (λx s4 h4=>?_) λ_ _ z=>z.elim));refine ae (fj h4 (λ_ s5 h5=>?_) λ_ _ z=>z.elim);exact ak (ak ⟨rfl,h5⟩)
  |false=>
   rw[if_neg ir]at hA⊢;exact ae (ak (ak ⟨rfl,hA⟩))
end
section
variable{X:Cx}{sc:Scope}{own:List Str}{cap:List (Nat×Str)}{AL:List (Addr×Obj)}{σ:St}{H:Hp}{s:aa}{elt target iter cnd:ah}{pos pos':ai}{wi:TI}{g:TG}{tc:TT}{te:TE}{Q:VK}
theorem Wu{use:Option (Value->Sem Unit)}{Qf:Value->aa->Prop}(k:gU X sc own cap)(hi:PI X target iter wi)(hc:X.calm=true)
  (hg:∀C AM AN ex,PG (dY X sc (cB own cap) C AM AN ex) target g)(ht:∀C AM AN ex,PT (dY X sc (cB own cap) C AM AN ex) cnd tc)(he:∀C AM AN ex,PE (dY X sc (cB own cap) C AM AN ex) elt te)(I:aF X AL σ H s)(h:No own cap wi g tc te σ H Q)
  (fin:∀D C s' H' m,aF X AL σ H' s'->fF X AL H' C->s'.heap.Ns C m->Q (.ref D) H'->compPost (model X.prog X.w) X.A X.xe use Qf (.ref D) C (.ok .next) s')
  (hs:∀x,foldedSetIterable iter X.env x=pure x):
  wpAny (model X.prog X.w) X.A (comprehension (.ListComp elt [⟨target,iter,[cnd],0⟩] sc pos) sc X.env pos' (newList []) false (eval iter X.env) use) Qf X.xe s:=by
 refine wo (use:=use) rfl hs (Jb (k.has I.ok)) k.kind k.names ?_;refine bC (hi AL s σ H _ I h) λv s1 h1=>bC h1 λitv s2 h2=>?_;obtain⟨it,fp,tn,J,H2,e,I2,T,st2,f2,hW⟩:=h2;subst e;refine io (d6 k.nocell (λy hy=>nomatch hy) (λh4 hns hsb=>?_) k.kind);have I3:aF X AL σ (aK H2 s2.heap.objs.size (.lst [])) {s2 with heap:=s2.heap.push {cls:=.type "list",data:=.seq ([]:AD).toArray},toks:=s2.toks}:=I2.lnew (ys:=[]) (its:=[]) .nil (cy _);have hD:H2 s2.heap.objs.size=none:=I2.fresh;have ltf:∀b∈fp,b<s2.heap.objs.size:=λb hb=>by
  obtain⟨o,ho,_⟩:=T.obj _ _ st2 b hb;exact ax ho
 have f3:∀b∈fp,fF X AL (aK H2 s2.heap.objs.size (.lst [])) b:=λb hb=>⟨by rw[bH (cr (ltf b hb))];exact(f2 b hb).1,(f2 b hb).2⟩;have un:Un (eJ X.stack) fp H2 (aK H2 s2.heap.objs.size (.lst [])) s2.heap (s2.heap.push {cls:=.type "list",data:=.seq ([]:AD).toArray}):=Un.laid (λb u q=>ao _ q) (aj _) hD;have kp:∀b o,(s2.heap.push {cls:=.type "list",data:=.seq ([]:AD).toArray}).get? b=some o->h4.get? b=some o:=λb o q=>hsb.extBut b o (cr (ax q)) (ao _ q);have J0:=I3.cmp (t':=s2.toks+([]:List (Str×Value)).length) k f3 (λb hb=>de (ltf b hb) (by rw[jf];exact nj _)) hns kp;have stat:∀{H':Hp},(∀b∈fp,H' b=none)->∀b∈fp,fF (dY X sc (cB own cap) (s2.heap.push {cls:=.type "list",data:=.seq ([]:AD).toArray}).objs.size {s2 with heap:=s2.heap.push {cls:=.type "list",data:=.seq ([]:AD).toArray},toks:=s2.toks} (aK H2 s2.heap.objs.size (.lst [])) fp) [] H' b:=λhn b hb=>
  ⟨hn b hb,(J0.ok.exf b hb).1,J0.ok.exfs b hb,.inl hb,(J0.ok.exf b hb).2,λp hp=>absurd (show p∈([]:List (Addr×Obj)) from hp) (by simp)⟩
 have st4:tn 0 h4:=T.keep _ _ _ st2 λb hb o q=>kp b o (ao _ q);have fr0:∀b∈fp,(aK H2 s2.heap.objs.size (.lst [])) b=none:=λb hb=>(f3 b hb).1;have loop:codeAny (model X.prog X.w) X.A (.compLoop (.ListComp elt [⟨target,iter,[cnd],0⟩] sc pos) 0 (.ref it) (.ref s2.heap.objs.size) (compEnvC sc (fZ X.env sc.names []) (s2.heap.push {cls:=.type "list",data:=.seq ([]:AD).toArray}).objs.size X.env))
   (compPost (model X.prog X.w) X.A X.xe use Qf (.ref s2.heap.objs.size) (s2.heap.push {cls:=.type "list",data:=.seq ([]:AD).toArray}).objs.size) {s2 with heap:=h4,toks:=s2.toks+([]:List (Str×Value)).length}:=by
  obtain⟨W,⟨m0,w0⟩,turn⟩:=hW s2.heap.objs.size hD;refine Jv (λn s'=>∃i σ' H' ys,aF (dY X sc (cB own cap) (s2.heap.push {cls:=.type "list",data:=.seq ([]:AD).toArray}).objs.size {s2 with heap:=s2.heap.push {cls:=.type "list",data:=.seq ([]:AD).toArray},toks:=s2.toks} (aK H2 s2.heap.objs.size (.lst [])) fp) [] σ' H' s'/\tn i s'.heap/\(∀b∈fp,H' b=none)/\W i n σ' H' ys) ?_ m0
   ⟨0,_,_,[],J0,st4,fr0,w0⟩
  rintro n s5 ⟨i,σ5,H5,ys,I5,st5,fr5,w5⟩
  obtain⟨hD5,w5⟩:=turn i n σ5 H5 ys w5;rcases w5 with⟨stop,qn⟩|⟨go,hlt,step⟩
  .refine bC (T.done (dY X sc (cB own cap) (s2.heap.push {cls:=.type "list",data:=.seq ([]:AD).toArray}).objs.size {s2 with heap:=s2.heap.push {cls:=.type "list",data:=.seq ([]:AD).toArray},toks:=s2.toks} (aK H2 s2.heap.objs.size (.lst [])) fp) rfl rfl rfl hc i [] s5 σ5 H5 _ I5 (stat fr5) st5 stop) ?_
   rintro r s6 ⟨hr,I6⟩
   subst hr;obtain⟨m,hn,_⟩:=id I6.loc;exact fin _ _ s6 H5 m (I2.uncmp (s3:={s2 with heap:=s2.heap.push {cls:=.type "list",data:=.seq ([]:AD).toArray},toks:=s2.toks}) f2 un rfl I6) (I3.fpOk (aj _) I6.free) hn qn
  .refine bC (T.item (dY X sc (cB own cap) (s2.heap.push {cls:=.type "list",data:=.seq ([]:AD).toArray}).objs.size {s2 with heap:=s2.heap.push {cls:=.type "list",data:=.seq ([]:AD).toArray},toks:=s2.toks} (aK H2 s2.heap.objs.size (.lst [])) fp) rfl rfl rfl hc i [] s5 σ5 H5 _ I5 (stat fr5) st5 go) ?_
   rintro r s6 ⟨u,hr,h6⟩
   subst hr;refine bC h6 ?_
   rintro _ s7 ⟨x,H7,I7,r7,y7,st7,fr7⟩
   have I7':=I7.pinned (stat fr7) (T.obj _ _ st7);refine bC (hg _ _ _ _ _ s7 σ5 H7 x u _ I7' r7 (step x H7 y7)) ?_
   rintro _ s8 ⟨σ8,H8,I8,q8⟩
   refine bC (ht _ _ _ _ _ s8 σ8 H8 _ I8 q8) ?_
   rintro bb sA ⟨HA,IA,qA⟩
   cases bb with
   |true=>
    rw[if_pos rfl];rw[if_pos rfl]at qA;refine bC (he _ _ _ _ _ sA σ8 HA _ IA qA) ?_
    rintro v9 s9 ⟨y,H9,I9,r9,hD9,m',hm,w9⟩
    refine bC (pL _ s9 σ8 H9 (.ref s2.heap.objs.size) [y] (.ref s2.heap.objs.size) [v9] (λ_ H'=>H'=aK H9 s2.heap.objs.size (.lst (ys++[y]))) I9 rfl (.cons r9 .nil) ⟨_,ys,y,rfl,rfl,hD9,hlt,rfl⟩) ?_
    rintro _ s10 ⟨_,H10,I10,_,q10⟩
    subst q10;refine⟨m',hm,i+1,σ8,_,_,I10.unpinned,T.keep _ _ _ st7 λb hb o q=>(I10.pin (b,o) (da _ (da _ (kM hb q)))).1,λb hb=>?_,w9⟩;obtain⟨o,q,d⟩:=T.obj _ _ st7 b hb;exact(I10.pin (b,o) (da _ (da _ (kM hb q)))).2.1
   |false=>
    rw[if_neg ir];rw[if_neg ir]at qA;obtain⟨m',hm,w9⟩:=qA;refine⟨m',hm,i+1,σ8,_,_,IA.unpinned,T.keep _ _ _ st7 λb hb o q=>(IA.pin (b,o) (da _ (da _ (kM hb q)))).1,λb hb=>?_,w9⟩;obtain⟨o,q,d⟩:=T.obj _ _ st7 b hb;exact(IA.pin (b,o) (da _ (da _ (kM hb q)))).2.1
 exact wp loop (T.self _ 0 _ _ _ st4 loop)
theorem G7(k:gU X sc own cap)(hi:PI X target iter wi)(hc:X.calm=true)
  (hg:∀C AM AN ex,PG (dY X sc (cB own cap) C AM AN ex) target g)(ht:∀C AM AN ex,PT (dY X sc (cB own cap) C AM AN ex) cnd tc)(he:∀C AM AN ex,PE (dY X sc (cB own cap) C AM AN ex) elt te)
  (hs:∀x,foldedSetIterable iter X.env x=pure x:=by intro _;rfl):PE X (.ListComp elt [⟨target,iter,[cnd],0⟩] sc pos) (No own cap wi g tc te):=by
 intro AL s σ H Q I h;rw[wq];refine Wu (use:=none) k hi hc hg ht he I h (λD C s' H' m I' fC hn q=>?_) hs;refine⟨m,hn,λh' sb=>⟨.ref D,H',?_,rfl,q⟩⟩;obtain⟨f0,f1,f2,f3,f4,f5⟩:=fC;exact I'.turned (t':=s'.toks) (λb o hb e=>(sb.2 b hb).trans e) f0 f1 f3 f4 f5
end
end L2
namespace L2.Pp
open PySem PySem.Spec PyProof.Rows Bn
open Classical in
noncomputable def eK(G:Gd)(g:GM)(mc:MT)(me:ME):AH->bT->aG->bK AH
 |[],_,S=>if gZ G S then .ok [] S else .fail
 |x::r,ρ,S=>if gZ G S then(match g x ρ with
  |none=>.fail
  |some ρ1=>match mc ρ1 S with
   |.ok true S0=>(match me ρ1 S0 with
    |.ok (.pv y) S1=>match eK G g mc me r ρ1 S1 with
     |.ok ys S2=>.ok (y::ys) S2
     |_=>.fail
    |_=>.fail)
   |.ok false S0=>eK G g mc me r ρ1 S0
   |_=>.fail)else .fail
theorem uD{g:GM}{mc:MT}{me:ME}{ρ:bT}{S:aG}:eK [] g mc me [] ρ S=.ok [] S:=by
 unfold eK;rw[if_pos (lP S)]
theorem tY{g:GM}{mc:MT}{me:ME}{x:PV}{r:AH}{ρ:bT}{S:aG}:eK [] g mc me (x::r) ρ S=(match g x ρ with
  |none=>.fail
  |some ρ1=>match mc ρ1 S with
   |.ok true S0=>(match me ρ1 S0 with
    |.ok (.pv y) S1=>match eK [] g mc me r ρ1 S1 with
     |.ok ys S2=>.ok (y::ys) S2
     |_=>.fail
    |_=>.fail)
   |.ok false S0=>eK [] g mc me r ρ1 S0
   |_=>.fail):=by
 rw[eK,if_pos (lP S)]
noncomputable def jY(own:List Str)(cap:List (Nat×Str))(mi:MI)(g:GM)(mc:MT)(me:ME):ME:=λρ S=>(mi ρ S).bind λxs S1=>(eK xs.2 g mc me xs.1 (cT own cap ρ) S1).bind λys S2=>.ok (.pv (.lst ys)) S2
theorem Lf{G:Gd}{g:GM}{mc:MT}{me:ME}:∀(xs:AH)(ρ:bT)(S:aG)(n:Str)(S':aG),eK G g mc me xs ρ S≠.exc n S'
 |[],_,_,_,_,e=>by
  unfold eK at e;split at e<;>cases e
 |x::r,ρ,S,n,S',e=>by
  unfold eK at e;split at e
  .split at e
   .cases e
   .split at e
    .split at e
     .split at e<;>cases e
     .cases e
    .exact Lf r _ _ _ _ e
    .cases e
  .cases e
theorem zY{G:Gd}{g:GM}{mc:MT}{me:ME}{xs zs:AH}{ρ:bT}{S S':aG}(e:eK G g mc me xs ρ S=.ok zs S'):gZ G S:=by
 cases xs with
 |nil=>
  unfold eK at e;split at e
  .assumption
  .cases e
 |cons x r=>
  unfold eK at e;split at e
  .assumption
  .cases e
theorem Mz{J:It}{g:TG}{tc:TT}{te:TE}{AQ:St}{H1:Hp}{D:Addr}{Q:VK}(n:Nat)(hn:n<=sizeLine)(Pv:Nat->St->Hp->List V->Prop)(h0:Pv 0 AQ (aK H1 D (.lst [])) [])
  (hl:∀i σ H ys,Pv i σ H ys->ys.length<=i/\H D=some (.lst ys))(hgo:∀i σ H ys,i<n->Pv i σ H ys->J.go i H)
  (hs:∀i σ H ys x H2,i<n->Pv i σ H ys->J.yld i H x H2->g x σ H2 λσ3 H3=>tc σ3 H3 λb HA=>if b=true then te σ3 HA λy H4=>H4 D=some (.lst ys)/\∃m',m'<n-i/\(m'=n-(i+1)/\i+1<=n/\Pv (i+1) σ3 (aK H4 D (.lst (ys++[y]))) (ys++[y]))else ∃m',m'<n-i/\(m'=n-(i+1)/\i+1<=n/\Pv (i+1) σ3 HA ys))
  (hd:∀σ H ys,Pv n σ H ys->J.stop n H/\Q (.ref D) H):wO J g tc te AQ H1 D Q:=by
 refine⟨λi m σ H ys=>m=n-i/\i<=n/\Pv i σ H ys,⟨n,rfl,cy _,h0⟩,?_⟩
 rintro i m σ H ys ⟨rfl,hi,p⟩
 obtain⟨l1,l2⟩:=hl i σ H ys p;refine⟨l2,?_⟩
 by_cases hlt:i<n
 .exact .inr ⟨hgo i σ H ys hlt p,by omega,λx H2 y=>hs i σ H ys x H2 hlt p y⟩
 .have e:i=n:=by omega
  subst e;exact .inl (hd σ H ys p)
theorem n1{n i:Nat}{P:Prop}(h:i<n)(p:P):∃m',m'<n-i/\(m'=n-(i+1)/\i+1<=n/\P):=⟨n-(i+1),by omega,rfl,h,p⟩
section
variable{K:ag}{cl:Str->Addr}{E:XK}{X:Cx}{p q:Ph}{H H':Hp}{S:aG}{sc:Scope}{own:List Str}{cap:List (Nat×Str)}{elt target iter cnd:ah}{pos:ai}{mi:MI}{g:GM}{mc:MT}{me:ME}
theorem Xv{σ:St}{ρ:bT}{xs zs:AH}{G:Gd}{J:It}{Q:VK}{D:Addr}{S2:aG}(sm:aT K p S H)(ev:dB K p H ρ σ)(it:eV K p H (xs,G) J)(z:eK G g mc me xs (cT own cap ρ) S=.ok zs S2)(hD:H D=none)
  (k:∀q H' vs,bI p H q H'->aT K q S2 H'->aT K (q.hold D) S2 H'->q.w D->D∉q.f->H' D=some (.lst vs)->vs.length<=sizeLine->aJ K q.c H' zs vs->Q (.ref D) H'):
  wO J (gP K g) (tP K cl E0 RB mc) (tP K cl E0 (bX K) me) (iL own cap σ) H D Q:=by
 obtain⟨st0,sm0⟩:=sm.res (D:=D) (o:=.lst []) hD trivial;have sh0:=sm.resHold (D:=D) (o:=.lst []) hD trivial;have nf0:D∉p.f:=λh=>sm.notin hD (sm.wc D (sm.sub D h));refine Mz xs.length it.1 (λi σ1 H1 ys=>ys.length<=i/\i<=xs.length/\H1 D=some (.lst ys)/\∃p1 S1 ρ1 us ws,(aT K p1 S1 H1/\aT K (p1.hold D) S1 H1)/\bI p H p1 H1/\p1.w D/\D∉p1.f/\dB K p1 H1 ρ1 σ1/\eV K p1 H1 (xs,G) J/\gZ G S1/\aJ K p1.c H1 us ys/\zs=us++ws/\eK G g mc me (xs.drop i) ρ1 S1=.ok ws S2) ?_ ?_ ?_ ?_ ?_
 .refine⟨aj _,cy _,dR,p.res D,S,cT own cap ρ,[],zs,⟨sm0,sh0⟩,st0,.inr rfl,nf0,Ek (st0.repE ev),it.step st0,?_,.nil,rfl,by simpa using z⟩
  exact zY z
 .rintro i σ1 H1 ys ⟨h1,_,h2,_⟩
  exact⟨h1,h2⟩
 .rintro i σ1 H1 ys hi ⟨_,_,_,p1,S1,ρ1,us,ws,⟨sm1,sh1⟩,st1,w1,f1,ev1,it1,g1,_⟩
  exact((it1.2 p1 H1 S1 sm1.step sm1 g1).1 i xs[i] (au hi)).1
 .rintro i σ1 H1 ys x H2 hi ⟨hl,_,hH,p1,S1,ρ1,us,ws,⟨sm1,sh1⟩,st1,w1,f1,ev1,it1,g1,r1,e1,c1⟩ hy
  obtain⟨same,rx⟩:=((it1.2 p1 H1 S1 sm1.step sm1 g1).1 i xs[i] (au hi)).2 x H2 hy;rw[tq hi]at c1;unfold eK at c1;rw[if_pos g1]at c1;split at c1
  .cases c1
  .rename_i ρ2 gz
   have st2:=sm1.same same;have sm2:=sm1.ofSame same;have smh:=sh1.ofSame same;have hD2:H2 D=some (.lst ys):=same _ _ hH;have go:∀(q:Ph)(H4:Hp)(S3:aG)(σ3:St),dB K p1 H2 ρ2 σ3->bI (p1.hold D) H2 q H4->aT K q S3 H4->H4 D=some (.lst ys)/\∃q2:Ph,bI p1 H1 q2 H4/\aT K q2 S3 H4/\aT K (q2.hold D) S3 H4/\q2.w D/\D∉q2.f/\dB K q2 H4 ρ2 σ3/\q2.c=q.c:=λq H4 S3 σ3 ev3 st4 sm4=>by
    have hD4:H4 D=some (.lst ys):=st4.keep D _ hD2 λz=>z.2 rfl;have fq:D∉q.f:=λh=>by
     have:=st4.nf D h f1;rw[hD2]at this;cases this
    have stU:=bI.unhold w1 st4 sm2;have nq:¬q.w D:=λz=>by
     have:=st4.nw D z λy=>y.2 rfl;rw[hD2]at this;cases this
    have smU:aT K ⟨q.f,λa=>q.w a\/a=D,q.c⟩ S3 H4:=⟨sm4.nd,sm4.len,λa h=>.inl (sm4.sub a h),λa h=>h.elim (sm4.wc a) λz=>z▸st4.mono D (sm2.wc D w1),sm4.mu,λk a o e1 e2=>
     (sm4.obj k a o e1 e2).mono (λ_ e=>e) (λb w f=>⟨⟨.inl w,f⟩,λ_ e=>e⟩) λ_ _ r=>r⟩
    have shU:aT K (Ph.hold ⟨q.f,λa=>q.w a\/a=D,q.c⟩ D) S3 H4:=⟨sm4.nd,sm4.len,λa h=>⟨.inl (sm4.sub a h),λz=>nq (z▸sm4.sub a h)⟩,λa h=>smU.wc a h.1,sm4.mu,λk a o e1 e2=>
     (sm4.obj k a o e1 e2).mono (λ_ e=>e) (λb w f=>⟨⟨⟨.inl w,λz=>nq (z▸w)⟩,f⟩,λ_ e=>e⟩) λ_ _ r=>r⟩
    exact⟨hD4,_,st2.trans stU,smU,shU,.inr rfl,fq,stU.repE ev3,rfl⟩
   split at c1
   .rename_i SA mz
    split at c1
    .rename_i y S3 ez
     split at c1
     .rename_i vs S4 cz
      cases c1;refine⟨p1,S1,ρ1,xs[i],ρ2,sm2,st2.repE ev1,rx,gz,λσ3 ev3=>⟨p1.hold D,S1,ρ2,smh,⟨ev3.len,ev3.at_⟩,?_⟩⟩;rw[mz];intro q HA b stA smA rb;cases rb;rw[if_pos rfl];refine⟨q,SA,ρ2,smA,stA.repE (p:=p1.hold D) ⟨ev3.len,ev3.at_⟩,?_⟩;rw[ez];intro q4 H4 y' st4 sm4 ry;obtain⟨hD4,q2,stQ,smQ,shQ,wQ,fQ,evQ,cQ⟩:=go q4 H4 S3 σ3 ev3 (stA.trans st4) sm4;obtain⟨stG,smG,shG⟩:=smQ.grow (ys:=ys) (D:=D) (o:=.lst (ys++[y'])) shQ wQ fQ trivial;have stB:=stQ.trans stG;have ry:aI K q4.c H4 y y':=ry;rw[<-cQ]at ry;refine⟨hD4,n1 hi ⟨by rw[bi];exact a0 hl,hi,dR,q2,S3,ρ2,us++[y],vs,⟨smG,shG⟩,st1.trans stB,wQ,fQ,stG.repE evQ,it1.step stB,zY cz,?_,by rw[e1,mj];rfl,cz⟩⟩;exact(stB.reps r1).append (.cons (stG.rep ry) .nil)
     .cases c1
    .cases c1
   .rename_i SA mz
    refine⟨p1,S1,ρ1,xs[i],ρ2,sm2,st2.repE ev1,rx,gz,λσ3 ev3=>⟨p1.hold D,S1,ρ2,smh,⟨ev3.len,ev3.at_⟩,?_⟩⟩;rw[mz];intro q HA b stA smA rb;cases rb;rw[if_neg ir];obtain⟨hD4,q2,stQ,smQ,shQ,wQ,fQ,evQ,cQ⟩:=go q HA SA σ3 ev3 stA smA;exact n1 hi ⟨xw hl,hi,hD4,q2,SA,ρ2,us,ws,⟨smQ,shQ⟩,st1.trans stQ,wQ,fQ,evQ,it1.step stQ,zY c1,stQ.reps r1,e1,c1⟩
   .cases c1
 .rintro σ1 H1 ys ⟨hl,_,hH,p1,S1,ρ1,us,ws,⟨sm1,sh1⟩,st1,w1,f1,ev1,it1,g1,r1,e1,c1⟩
  rw[tw]at c1;unfold eK at c1;rw[if_pos g1]at c1;cases c1;refine⟨(it1.2 p1 H1 _ sm1.step sm1 g1).2,?_⟩;rw[la]at e1;subst e1;exact k p1 H1 ys st1 sm1 sh1 w1 f1 hH (fh hl it.1) r1
theorem Kv{σ:St}{ρ:bT}{xs:AH×Gd}{J:It}{Q:VK}{D:Addr}(sm:aT K p S H)(ev:dB K p H ρ σ)(it:eV K p H xs J)(k:bR K cl (bX K) p H ((eK xs.2 g mc me xs.1 (cT own cap ρ) S).bind λys S2=>.ok (.pv (.lst ys)) S2) Q E)(hD:H D=none):
  wO J (gP K g) (tP K cl E0 RB mc) (tP K cl E0 (bX K) me) (iL own cap σ) H D Q:=by
 cases z:eK xs.2 g mc me xs.1 (cT own cap ρ) S with
 |fail=>rw[z]at k;exact k.elim
 |exc n S'=>exact absurd z (Lf _ _ _ _ _)
 |ok zs S2=>
  rw[z]at k;have k:∀q H' x,bI p H q H'->aT K q S2 H'->aI K q.c H' (.lst zs) x->Q x H':=k;refine Xv sm ev it z hD λq H' vs st1 sm1 sh1 w1 f1 hH l1 r1=>?_;refine k (q.less D) H' (.ref D) (st1.toLess hD) sh1.toLess ?_;unfold aI;exact⟨D,vs,rfl,.inl ⟨hH,λz=>z.2 rfl⟩,l1,mL (λa h=>h.1) r1⟩
theorem Bz(k:gU X sc own cap)(hi:PIp K cl E X target iter mi)(hc:X.calm=true)(hg:∀C AM AN ex,kD K (dY X sc (cB own cap) C AM AN ex) target g)(ht:∀C AM AN ex,fH K cl E0 (dY X sc (cB own cap) C AM AN ex) cnd mc)(he:∀C AM AN ex,aM K cl E0 (dY X sc (cB own cap) C AM AN ex) elt me)
  (hs:∀x,foldedSetIterable iter X.env x=pure x:=by intro _;rfl):aM K cl E X (.ListComp elt [⟨target,iter,[cnd],0⟩] sc pos) (jY own cap mi g mc me):=by
 intro hK;refine PE.imp (G7 k (hi hK) hc (λC AM AN ex=>hg C AM AN ex hK) (λC AM AN ex=>ht C AM AN ex hK) (λC AM AN ex=>he C AM AN ex hK) hs) ?_
 rintro σ H Q ⟨p,S,ρ,s,ev,h⟩
 exact bW s ev h λq H' xs J S' cJ sm ev it kk D hD=>Kv sm ev it kk hD
end
end L2.Pp
namespace L2
open PySem PySem.Spec PyProof.Rows Bn
open L2.Pp
section
variable{X:Cx}{AL:List (Addr×Obj)}{σ:St}{H:Hp}{s:aa}{c:Addr->Prop}{a b:Addr}{n:Bool}{k:fL n}{ks:AH}{us:AD}
theorem Gi:∀{l:AA}{vs:List V},aJ X.K c H (l.map PV.int) vs->vs=l.map V.int
 |[],vs,h=>by
  unfold jz aJ at h;exact h
 |i::l,vs,h=>by
  rw[aw]at h;unfold aJ at h;obtain⟨v,r,rfl,h1,h2⟩:=h;unfold aI at h1;rw[h1,Gi h2];rfl
theorem Nl(I:aF X AL σ H s){l:AA}(r:aI X.K c H (.tup (l.map PV.int)) (.ref b)):gH s.heap l b:=by
 unfold aI at r;obtain⟨a,vs,e,sq,_,r⟩:=r;cases e;obtain⟨its,rv,⟨o,ho,hc,m,hd⟩,_⟩:=I.tuple sq;rw[Gi r]at rv;exact⟨o,its.toArray,m,ho,hc,hd,by simpa using rv⟩
theorem Ug(I:aF X AL σ H s):∀{l:AB}{vs:List V}{its:AD},aJ X.K c H (l.map λr:AA=>PV.tup (r.map PV.int)) vs->aX vs its->ie (λk v=>∃b,v=cq b/\gH s.heap k b) l its
 |[],vs,its,h,rv=>by
  unfold jz aJ at h;subst h;cases rv;exact .nil
 |i::l,vs,its,h,rv=>by
  rw[aw]at h;unfold aJ at h;obtain⟨v,r,rfl,h1,h2⟩:=h;cases rv with
  |cons e t=>
   have h1':=h1;unfold aI at h1';obtain⟨a,ws,rfl,_⟩:=h1';cases e;exact .cons ⟨_,rfl,Nl I h1⟩ (Ug I h2 t)
theorem vX(I:aF X AL σ H s):∀{n:Bool}{k:fL n}{b:Addr},aI X.K c H (cE n k) (.ref b)->(jA X.prog X.w n).is s.heap k b
 |false,k,b,r=>gH.key (Nl I r)
 |true,k,b,r=>by
  have r:aI X.K c H (.tup (jz (λr:AA=>PV.tup (r.map PV.int)) k)) (.ref b):=r;unfold aI at r;obtain⟨a,vs,e,sq,_,r⟩:=r;cases e;obtain⟨its,rv,⟨o,ho,hc,m,hd⟩,_⟩:=I.tuple sq;exact⟨o,its.toArray,m,ho,hc,hd,by simpa using Ug I r rv⟩
theorem uR:∀{l m:AA},l.map PV.int=m.map PV.int->l=m
 |[],[],_=>rfl
 |[],_::_,h=>by cases h
 |_::_,[],h=>by cases h
 |i::l,j::m,h=>by
  rw[aw,aw]at h;injection h with h1 h2;injection h1 with h1;rw[h1,uR h2]
theorem lM:∀{n:Bool}{k k':fL n},cE n k=cE n k'->k=k'
 |false,k,k',h=>by
  unfold cE at h;injection h with h;exact uR h
 |true,k,k',h=>by
  unfold cE at h;injection h with h;have go:∀{l m:AB},l.map (λr:AA=>PV.tup (r.map PV.int))=m.map (λr:AA=>PV.tup (r.map PV.int))->l=m:=by
   intro l
   induction l with
   |nil=>
    intro m h;cases m with
    |nil=>rfl
    |cons _ _=>cases h
   |cons x l ih=>
    intro m h;cases m with
    |nil=>cases h
    |cons y m=>
     rw[aw,aw]at h;injection h with h1 h2;injection h1 with h1;rw[uR h1,ih h2]
  exact go h
theorem vE:∀{ps:AH}{vs:List V}{i:Nat}{v:V},aJ X.K c H ps vs->vs[i]?=some v->∃p,ps[i]?=some p/\aI X.K c H p v:=λ{ps vs i v} r e=>by
 have hi:i<ps.length:=by
  rw[r.length];exact(bo.mp e).1
 obtain⟨u,e1,e2⟩:=r.get (au hi);rw[e]at e1;cases e1;exact⟨_,au hi,e2⟩
theorem wM{es:Array DictEntry}{ep:Nat}(I:aF X AL σ H s)(h:H a=some (dO a es ep)):s.heap.get? a=some (oD es ep):=(I.hok a _ h).1
theorem D6{es:Array DictEntry}{ep:Nat}:(oD es ep).ExactDict:=⟨rfl,rfl,rfl⟩
theorem Fc(I:aF X AL σ H s){xs:List (fL n×Addr×Value)}{ep:Nat}(h:H a=some (dO a (xs.map (iR n)).toArray ep))(nd:(xs.map (·.1)).Nodup)(r:aJ X.K c H (xs.map λx=>cE n x.1) (xs.map λx=>V.ref x.2.1)):
  s.heap.DictOfH (jA X.prog X.w n) a xs:=by
 refine⟨_,_,ep,wM I h,D6,rfl,?_,λx hx=>?_,nd⟩
 .have:iR n=entryOfKey (jA X.prog X.w n):=by
   funext x
   unfold iR entryOfKey;rw[yX]
  simp[this]
 .obtain⟨i,hi,e⟩:=sk.mp hx
  obtain⟨p,e1,e2⟩:=vE (i:=i) (v:=.ref x.2.1) r (by rw[av,au hi,e];rfl);rw[av,au hi,e]at e1;cases e1;exact vX I e2
theorem uP{xs:List (fL n×Addr×Value)}(nd:(xs.map (·.1)).Nodup):
  (∃(i:Nat)(p:Addr×Value),xs[i]?=some (k,p)/\atKey xs k=some p)\/((∀i:Nat,(xs.map λx=>cE n x.1)[i]?≠some (cE n k))/\atKey xs k=none):=by
 by_cases h:∃(i:Nat)(p:Addr×Value),xs[i]?=some (k,p)
 .obtain⟨i,p,h⟩:=h
  exact .inl ⟨i,p,h,atKey_of_get nd h⟩
 .refine .inr ⟨λi e=>?_,qi λj p e=>h ⟨j,p,e⟩⟩
  rw[av]at e;cases z:xs[i]? with
  |none=>rw[z]at e;cases e
  |some x=>
   rw[z]at e;have e:cE n x.1=cE n k:=ce e;exact h ⟨i,x.2,by rw[z,<-lM e]⟩
def nR(K:ag)(H:Hp)(a b:Addr)(vs:List V)(Q:V->Prop)(N:Prop):Prop:=
 ∃(c:Addr->Prop)(n:Bool)(k:fL n)(ks:AH)(us:AD),nM K c H a n ks us/\aX vs us/\aI K c H (cE n k) (.ref b)/\(∀(i:Nat)(v:V),ks[i]?=some (cE n k)->vs[i]?=some v->Q v)/\((∀i:Nat,ks[i]?≠some (cE n k))->N)
theorem On(I:aF X AL σ H s){vs:List V}{Q:V->Prop}{N:Prop}(g:nR X.K H a b vs Q N):∃(n:Bool)(k:fL n)(xs:List (fL n×Addr×Value)),(a==sysModules)=false/\s.heap.DictOfH (jA X.prog X.w n) a xs/\(jA X.prog X.w n).is s.heap k b/\
  ((∃p v,atKey xs k=some p/\bP v p.2/\Q v)\/(atKey xs k=none/\N)):=by
 obtain⟨c,n,k,ks,us,⟨xs,ep,e,z,l,nd,rfl,r,rfl⟩,rv,rk,q1,q2⟩:=g;refine⟨n,k,xs,z,Fc I e nd r,vX I rk,?_⟩;rcases uP (k:=k) nd with⟨i,p,hx,ha⟩|⟨hn,ha⟩
 .have hi:=(bo.mp hx).1
  have hv:i<vs.length:=by
   rw[rv.length,am];exact hi
  obtain⟨u,e1,e2⟩:=rv.get (au hv);rw[av,hx]at e1;cases e1;exact .inl ⟨p,_,ha,e2,q1 i _ (by rw[av,hx];rfl) (au hv)⟩
 .exact .inr ⟨ha,q2 hn⟩
def W8(K:ag):V->List V->Hp->VK->Prop:=λx xs H Q=>∃a b z vs,x=.ref a/\xs=[.ref b,z]/\nR K H a b vs (λv=>Q v H) (Q z H)
theorem F6(hu:X.A.units+2<cLine):xY X "dict.get" (W8 X.K):=by
 intro AL s σ H x xs v us Q I rx rv h;obtain⟨a,b,z,vs,rfl,rfl,g⟩:=h;cases rx;obtain⟨u1,u2,rfl,r1,r2⟩:=rv.two;cases r1;obtain⟨n,k,xs,hd,dd,hk,o⟩:=On I g;refine call_meetsIn o6 dd.typeIs PySem.F.entry_dict_get (PySem.F.args_dict_get_3 _ _ _) (meetsH_dict_get_default (jA X.prog X.w n) a b hd u2) ⟨uA hu n,k,xs,hk,dd,?_⟩;rcases o with⟨p,v,e,rv,q⟩|⟨e,q⟩
 .rw[e]
  exact⟨v,H,I.tok _,rv,q⟩
 .rw[e]
  exact⟨z,H,I.tok _,r2,q⟩
def acp(K:ag):R2:=λx y H Q=>∃a b vs,x=.ref a/\y=.ref b/\nR K H a b vs (λv=>Q v H) False
theorem Qn(hu:X.A.units+2<cLine):lK X (acp X.K):=by
 intro value slice AL s σ H x y v u Q I rx ry h hs;obtain⟨a,b,vs,rfl,rfl,g⟩:=h;cases rx;cases ry;obtain⟨n,k,xs,hd,dd,hk,o⟩:=On I g;rcases o with⟨p,v,e,rv,q⟩|⟨e,q⟩
 .unfold subscriptTail
  refine ae ?_;rw[getitemInPython_of_ne dd.typeIs.not_modules];refine ae (wpAny_specialOf dd.typeIs PySem.F.slot_dict_getitem.lookup ?_);have fin:wpAny (model X.prog X.w) X.A (subscripted slice false (.ref a) (.ref b)) (λr s₃=>wpAny (model X.prog X.w) X.A (letTemporaryGo value (.ref a) r >>= λ_=>pure r) (EP X AL σ Q) X.xe s₃) X.xe s:=by
   rw[hs];exact wpAny_operating (wpAny_getItem_heap (uA hu n) hk dd e (ae (wpAny_letTemporaryGo (ak ⟨v,H,I.tok _,rv,q⟩))))
  first
   |exact ak (ae fin)
   |exact ae (ak (ae fin))
   |exact ae fin
 .exact q.elim
def jI(H:Hp)(a:Addr)(n:Bool)(ks:AH)(rs:List V)(us:AD):Prop:=
 ∃(xs:List (fL n×Addr×Value))(ep:Nat),H a=some (dO a (xs.map (iR n)).toArray ep)/\(a==sysModules)=false/\xs.length<=sizeLine/\(xs.map (·.1)).Nodup/\ks=xs.map (λx=>cE n x.1)/\rs=xs.map (λx=>V.ref x.2.1)/\us=xs.map (·.2.2)
theorem vZ{K:ag}(d:nM K c H a n ks us):∃rs,jI H a n ks rs us/\aJ K c H ks rs:=by
 obtain⟨xs,ep,e,z,l,nd,ek,r,eu⟩:=d;exact⟨_,⟨xs,ep,e,z,l,nd,ek,rfl,eu⟩,r⟩
theorem jI.at_{K:ag}{rs:List V}(d:jI H a n ks rs us)(r:aJ K c H ks rs):nM K c H a n ks us:=by
 obtain⟨xs,ep,e,z,l,nd,ek,er,eu⟩:=d;subst er;exact⟨xs,ep,e,z,l,nd,ek,r,eu⟩
def DPt(H:Hp)(a:Addr)(n:Bool)(ks:AH)(rs:List V)(us:AD)(k:fL n)(b:Addr)(u:Value)(H':Hp):Prop:=
 ∃es ep,H'=aK H a (dO a es ep)/\((∃i:Nat,ks[i]?=some (cE n k)/\jI H' a n ks rs (us.set i u))\/((∀i:Nat,ks[i]?≠some (cE n k))/\jI H' a n (ks++[cE n k]) (rs++[.ref b]) (us++[u])))
theorem A9{xs:List (fL n×Addr×Value)}{i:Nat}{p:Addr×Value}{u:Value}(nd:(xs.map (·.1)).Nodup)(hx:xs[i]?=some (k,p)):(xs.map (putAt k u)).map (·.2.2)=(xs.map (·.2.2)).set i u:=by
 refine jc λj=>?_;have hi:=(bo.mp hx).1;rw[uc,am,av,av,av]
 by_cases h:i=j
 .subst h
  rw[if_pos rfl,if_pos hi,hx];simp[putAt]
 .rw[if_neg h]
  cases z:xs[j]? with
  |none=>rfl
  |some x=>
   have:x.1≠k:=λe=>h (qj nd (p:=p) (q:=x.2) hx (by rw[z,<-e]));simp[putAt,this]
theorem A2{xs:List (fL n×Addr×Value)}{u:Value}:(xs.map (putAt k u)).map (λx=>V.ref x.2.1)=xs.map (λx=>V.ref x.2.1):=by
 rw[dy];refine di λx _=>?_;simp only[o7,putAt];split<;>rfl
theorem Ky{xs:List (fL n×Addr×Value)}{u:Value}:(xs.map (putAt k u)).map (λx=>cE n x.1)=xs.map (λx=>cE n x.1):=by
 rw[dy];refine di λx _=>?_;simp only[o7,putAt];split<;>rfl
def abm(K:ag):xM:=λo i v H Q=>∃(a b:Addr)(c:Addr->Prop)(n:Bool)(k:fL n)(ks:AH)(rs:List V)(us:AD),o=.ref a/\i=.ref b/\jI H a n ks rs us/\aJ K c H ks rs/\aI K c H (cE n k) (.ref b)/\us.length<sizeLine/\
 ∀u H',bP v u->DPt H a n ks rs us k b u H'->Q H'
theorem Wy(hu:X.A.units+2<cLine):Yd X (abm X.K):=by
 intro AL s σ H o i v ov iv u Q I ro ri rv h;obtain⟨a,b,c,n,k,ks,rs,us,rfl,rfl,d,r,rk,hl,q⟩:=h;cases ro;cases ri;obtain⟨xs,ep,e,z,l,nd,rfl,rfl,rfl⟩:=d;have dd:=Fc I e nd r;rw[am]at hl;refine wpAny_setItem_heap (hsz:=l) (uA hu n) (vX I rk) dd λh' dd' hs=>?_;obtain⟨ob,es,ep',ho,hex,hd,he,_,hnd⟩:=dd';have eob:ob=oD es ep':=by
  obtain⟨e1,e2,e3⟩:=hex;cases ob;simp only at e1 e2 e3 hd;subst e1 e2 e3 hd;rfl
 subst eob;have een:iR n=entryOfKey (jA X.prog X.w n):=by
  funext x
  unfold iR entryOfKey;rw[yX]
 have ees:es=((storedH xs k b u).map (iR n)).toArray:=by
  rw[een,<-he]
 have I':aF X AL σ (aK H a (dO a es ep')) {s with heap:=h',toks:=s.toks+(jA X.prog X.w n).draws k}:=
  I.write (x:=a) (e:=a) (by rw[e];exact trivial) (.inl rfl) (λb' q' hb z'=>(hs.2 b' hb).trans z') ⟨_,ho⟩ ⟨ho,⟨_,ho⟩,λh1 h2 p kk=>kk _ p⟩
 refine⟨_,I',q u _ rv ⟨es,ep',rfl,?_⟩⟩;have hat:(aK H a (dO a es ep')) a=some (dO a ((storedH xs k b u).map (iR n)).toArray ep'):=by rw[dR,ees]
 rcases uP (k:=k) nd with⟨i,p,hx,ha⟩|⟨hn,ha⟩
 .refine .inl ⟨i,by rw[av,hx];rfl,storedH xs k b u,ep',hat,z,?_,hnd,?_,?_,?_⟩
  .rw[ud ha,am]
   exact l
  .rw[ud ha,Ky]
  .rw[ud ha,A2]
  .rw[ud ha,A9 nd hx]
 .refine .inr ⟨hn,storedH xs k b u,ep',hat,z,?_,hnd,?_,?_,?_⟩
  .rw[jk ha,bi]
   exact hl
  .rw[jk ha,df]<;>rfl
  .rw[jk ha,df]<;>rfl
  .rw[jk ha,df]<;>rfl
def As(x:V)(H:Hp):Prop:=∃a es ep,x=.ref a/\H a=some (dO a es ep)
theorem Vo{o e:ah}{es:List ah}{to:TE}{t:TA}{name:Str}{apos cpos:ai}{id:String}{r:V->List V->Hp->VK->Prop}(slot:Slot "dict" name id)(hty:typeOf (.builtin id)=pure (.type "method_descriptor"))(hm:xY X id r)(ho:PE X o to)(ha:PA X (e::es) t)
  (hbase:attributeBase o name X.env (eval o X.env)=eval o X.env:=by rfl)
  (hfew:((backTo cpos (starEach (e::es) X.env)).all (λx=>!x.1)&&(backToKw cpos (keywordEach [] X.env)).all (λx=>x.1.isSome)
   &&decide ((e::es).length+([]:List ft).length+(if([]:List ft).isEmpty then 0 else 1)<30))=true:=by rfl)
  (hline:(apos.endLine==cpos.line)=true:=by rfl)(hs:starEach (e::es) X.env=(false,eval e X.env)::starEach es X.env:=by rfl)(hplain:(backTo cpos (starEach es X.env)).any (·.1)=false:=by rfl):
  PE X (.Call (.Attribute o name apos) (e::es) [] cpos) (λσ H Q=>to σ H λx H1=>As x H1/\t σ H1 λxs H2=>r x xs H2 Q):=by
 intro AL s σ H Q I h;refine zy hbase hfew hline rfl (bC (ho AL s σ H _ I h) λv s1 hq=>?_);rcases hq with⟨x,H1,I1,r1,⟨a,ds,ep,ex,hH⟩,q1⟩;subst ex;cases r1;have hg:=wM I1 hH;refine⟨"dict",id,PySem.F.plainAttrs_dict,slot,hty,⟨_,hg,rfl⟩,λb eb=>?_,?_⟩
 .cases eb
  exact⟨_,hg,rfl⟩
 have hA:=ha cpos AL s1 σ H1 _ I1 q1;rw[hs]at hA⊢;refine zz (by show(false||(backTo cpos (starEach es X.env)).any (·.1))=false;rw[hplain]<;>rfl) (vp ?_);exact bC hA λus s2 ⟨vs,H2,I2,r2,q2⟩=>hm AL s2 σ H2 (.ref a) vs (.ref a) us Q I2 rfl r2 q2
theorem W5(I:aF X AL σ H s):sysModules<s.heap.objs.size:=by
 have h:mainGlobals<s.heap.objs.size:=(I.mod.glob.keeps I.bk).lt;exact wm (by decide) h
theorem Al{pos:ai}:PE X (.Dict [] [] pos) (λ_ H Q=>∀p,H p=none->(p==sysModules)=false->Q (.ref p) (aK H p (dO p #[] 0))):=λAL s σ H Q I h=>
 wpAny_Dict_empty ⟨.ref s.heap.objs.size,_,I.laid (a:=s.heap.objs.size) (o:=dO s.heap.objs.size #[] 0) (t':=s.toks) (λ_ _ q=>ao _ q) (aj _) ⟨cx _ rfl,⟨_,cx _ rfl⟩,λh1 h2 p kk=>kk _ p⟩,rfl,
  h _ (I.hok.fresh (aj _)) (beq_eq_false_iff_ne.mpr (ik (cr (W5 I))))⟩
end
end L2
namespace L2.Pp
noncomputable section
open PySem PySem.Spec PyProof.Rows Bn
open Classical in
def gO{α:Type}(kvs:List (PV×α))(k:PV):Option Nat:=kvs.findIdx? λkv=>decide (kv.1=k)
def gK{α:Type}(kvs:List (PV×α))(k:PV):Option α:=match gO kvs k with
 |some i=>kvs[i]?.map (·.2)
 |none=>none
def kC{α:Type}(kvs:List (PV×α))(k:PV)(v:α):List (PV×α):=match gO kvs k with
 |some i=>kvs.set i (k,v)
 |none=>kvs++[(k,v)]
def lD(n:Bool)(k:PV):Prop:=∃k',k=cE n k'
theorem kO{α:Type}{kvs:List (PV×α)}{k:PV}{i:Nat}(h:gO kvs k=some i):∃v,kvs[i]?=some (k,v):=by
 unfold gO at h;obtain⟨hi,e,_⟩:=List.findIdx?_eq_some_iff_getElem.mp h;have e:kvs[i].1=k:=by simpa using e
 refine⟨kvs[i].2,?_⟩;rw[au hi];congr 1;exact qw e rfl
theorem E7{α:Type}{kvs:List (PV×α)}{k:PV}(h:gO kvs k=none)(i:Nat):(kvs.map (·.1))[i]?≠some k:=by
 unfold gO at h;rw[List.findIdx?_eq_none_iff]at h;intro e;rw[av]at e;cases z:kvs[i]? with
 |none=>rw[z]at e;cases e
 |some x=>
  rw[z]at e;have:=h x (cu z);have e:x.1=k:=ce e;simp[e]at this
theorem sK{α:Type}{kvs:List (PV×α)}{k:PV}{i:Nat}(h:(kvs.map (·.1))[i]?=some k):∃j,gO kvs k=some j:=by
 cases z:gO kvs k with
 |some j=>exact⟨j,rfl⟩
 |none=>exact absurd h (E7 z i)
def sO(n:Bool):ME:=λ_ S=>.ok (.ref S.length) (S++[.dic n []])
open Classical in
def lU(d k:AV)(S:aG)(z:AJ):bK AV:=match d,k with
 |.ref j,.pv k=>match S[j]? with
  |some (.dic n kvs)=>if lD n k then(match gK kvs k,z with
   |some v,_=>.ok (.pv v) S
   |none,some z=>.ok z S
   |none,none=>.fail)else .fail
  |_=>.fail
 |_,_=>.fail
def nI(md mk:ME):ME:=λρ S=>(md ρ S).bind λd S1=>(mk ρ S1).bind λk S2=>lU d k S2 none
def xC{α:Type}(d:AV)(S:aG)(f:bK α):bK α:=match d with
 |.ref j=>(match S[j]? with
  |some (.dic _ _)=>f
  |_=>.fail)
 |_=>.fail
def xB(md:ME)(ms:MA):ME:=λρ S=>(md ρ S).bind λd S1=>xC d S1 ((ms ρ S1).bind λks S2=>match ks with
 |[k,z]=>lU d k S2 (some z)
 |_=>.fail)
open Classical in
def sS(d k v:AV)(S:aG):bK AV:=match d,k,v with
 |.ref j,.pv k,.pv v=>match S[j]? with
  |some (.dic n kvs)=>if lD n k/\kvs.length<16777216 then .ok (.pv .non) (S.set j (.dic n (kC kvs k v)))else .fail
  |_=>.fail
 |_,_,_=>.fail
def wZ(md mk mv:ME):MS:=λρ S=>bZ.of (mv ρ S) λv S1=>bZ.of (md ρ S1) λd S2=>bZ.of (mk ρ S2) λk S3=>bZ.of (sS d k v S3) λ_ S4=>.nx ρ S4
section
variable{K:ag}{cl:Str->Addr}{E:XK}{X:Cx}{p q:Ph}{H H':Hp}{S:aG}{a b e o i v:ah}{es:List ah}{m md mk mv:ME}{ms:MA}{pos:ai}
theorem O6(n:Bool):aM K cl E X (.Dict [] [] pos) (sO n):=by
 intro hK;subst hK;refine PE.imp Al ?_
 rintro σ H Q ⟨p,S,ρ,s,ev,h⟩ t ht hs
 have ob:lY X.K ⟨p.f++[t],λa=>p.w a\/a=t,λa=>p.c a\/a=t⟩ (aK H t (dO t #[] 0)) t (.dic n []):=
  ⟨[],[],⟨[],0,dR,hs,cy _,mn,rfl,.nil,rfl⟩,.nil,.nil⟩
 obtain⟨st,sm⟩:=s.pushO ht (show Mb (dO t #[] 0) from trivial) ob;exact h _ _ (.ref t) st sm ⟨t,by show(p.f++[t])[S.length]?=some t;rw[<-s.len,dg (aj _),fx];rfl,rfl⟩
theorem Po(s:aT K p S H){j:Nat}{a:Addr}{n:Bool}{kvs:List (PV×PV)}{k:PV}{y:V}{Q:V->Prop}{N:Prop}(ej:p.f[j]?=some a)(z:S[j]?=some (.dic n kvs))(hk:lD n k)(ry:aI K p.c H k y)
  (q:∀v x,gK kvs k=some v->aI K p.c H v x->Q x)(qn:gK kvs k=none->N):∃b vs,y=.ref b/\nR K H a b vs Q N:=by
 obtain⟨k',rfl⟩:=hk;obtain⟨us,vs,d,rv,r⟩:=s.obj j a _ ej z;have ey:∃b,y=.ref b:=by
  cases n with
  |false=>
   have ry:aI K p.c H (.tup (jz PV.int k')) y:=ry;unfold aI at ry;obtain⟨b,_,e,_⟩:=ry;exact⟨b,e⟩
  |true=>
   have ry:aI K p.c H (.tup (jz (λr:AA=>PV.tup (r.map PV.int)) k')) y:=ry;unfold aI at ry;obtain⟨b,_,e,_⟩:=ry;exact⟨b,e⟩
 obtain⟨b,rfl⟩:=ey;have nd:∀i j:Nat,(kvs.map (·.1))[i]?=some (cE n k')->(kvs.map (·.1))[j]?=some (cE n k')->i=j:=by
  obtain⟨xs,ep,_,_,_,nd,ek,_⟩:=d;intro i j h1 h2;rw[ek,av]at h1 h2;cases z1:xs[i]? with
  |none=>rw[z1]at h1;cases h1
  |some x=>
   cases z2:xs[j]? with
   |none=>rw[z2]at h2;cases h2
   |some y=>
    rw[z1]at h1;rw[z2]at h2;have e1:=lM (ce h1);have e2:=lM (ce h2);have e1:x.1=k':=e1;have e2:y.1=k':=e2;exact qj nd (p:=x.2) (q:=y.2) (k:=k') (by rw[z1,<-e1]) (by rw[z2,<-e2])
 refine⟨b,vs,rfl,p.c,n,k',_,us,d,rv,ry,λi x h1 h2=>?_,λhn=>qn ?_⟩
 .obtain⟨j',hj⟩:=sK h1
  obtain⟨v,hv⟩:=kO hj;have ei:j'=i:=nd j' i (by rw[av,hv];rfl) h1;subst ei;obtain⟨x',e1,e2⟩:=r.get (i:=j') (p:=v) (by rw[av,hv];rfl);rw[h2]at e1;cases e1;exact q v x (by unfold gK;rw[hj];simp[hv]) e2
 .cases z:gO kvs (cE n k')with
  |none=>unfold gK;rw[z]
  |some i=>
   obtain⟨v,hv⟩:=kO z;exact absurd (by rw[av,hv];rfl) (hn i)
theorem Ti{d k:AV}{z:AJ}{x y:V}{Q:VK}(s:aT K p S H)(rd:bX K p H d x)(rk:bX K p H k y)(h:bR K cl (bX K) p H (lU d k S z) Q E):
  ∃a b vs,x=.ref a/\y=.ref b/\nR K H a b vs (λv=>Q v H) (∃w,z=some w/\∀u,bX K p H w u->Q u H):=by
 cases d with
 |pv _=>cases k<;>exact h.elim
 |ref j=>
  cases k with
  |ref _=>exact h.elim
  |pv k=>
   obtain⟨a,ej,rfl⟩:=rd;unfold lU at h;dsimp only at h;split at h
   .rename_i n kvs hS
    split at h
    .rename_i hk
     obtain⟨b,vs,e,g⟩:=Po (y:=y) (Q:=λv=>Q v H) (N:=∃w,z=some w/\∀u,bX K p H w u->Q u H) s ej hS hk rk (λv x e r=>by
      rw[e]at h;exact bR.ret (R:=bX K) (a:=.pv v) h s r) (λe=>by
      rw[e]at h;cases z with
      |none=>exact h.elim
      |some w=>exact⟨w,rfl,λu r=>bR.ret (R:=bX K) h s r⟩)
     exact⟨a,b,vs,rfl,e,g⟩
    .exact h.elim
   .exact h.elim
theorem Sn{a b:Addr}{vs:List V}{Q Q':V->Prop}{N N':Prop}(g:nR K H a b vs Q N)(f:∀v,Q v->Q' v)(f':N->N'):nR K H a b vs Q' N':=by
 obtain⟨c,n,k,ks,us,d,rv,rk,q1,q2⟩:=g;exact⟨c,n,k,ks,us,d,rv,rk,λi v h1 h2=>f v (q1 i v h1 h2),λh=>f' (q2 h)⟩
theorem aas(hu:X.A.units+8<cLine)(ha:aM K cl E X a md)(hb:aM K cl E X b mk)(hs:rN b:=by intro _ _;rfl):aM K cl E X (.Subscript a b pos) (nI md mk):=by
 intro hK;subst hK;refine PE.imp (wP (Qn (by omega)) (ha rfl) (hb rfl) hs) ?_
 rintro σ H Q ⟨p,S,ρ,s,ev,h⟩
 refine bW s ev h λq H1 d x S1 st s1 e1 r1 h1=>bW s1 e1 h1 λq2 H2 k y S2 st2 s2 e2 r2 h2=>?_;obtain⟨a,b,vs,ex,ey,g⟩:=Ti s2 (st2.repA r1) r2 h2;exact⟨a,b,vs,ex,ey,Sn g (λ_ h=>h) λ⟨w,e,_⟩=>nomatch e⟩
theorem Hx{α β:Type}{R:Ph->Hp->α->β->Prop}{d:AV}{x:V}{f:bK α}{Q:β->Hp->Prop}(s:aT K p S H)(rd:bX K p H d x)(h:bR K cl R p H (xC d S f) Q E):As x H/\bR K cl R p H f Q E:=by
 cases d with
 |pv _=>exact h.elim
 |ref j=>
  obtain⟨a,ej,rfl⟩:=rd;unfold xC at h;dsimp only at h;split at h
  .rename_i n kvs hS
   obtain⟨us,vs,⟨xs,ep,e,_⟩,_⟩:=s.obj j a _ ej hS;exact⟨⟨a,_,_,rfl,e⟩,h⟩
  .exact h.elim
theorem P4{apos cpos:ai}{f:ah}(hu:X.A.units+8<cLine)(ho:aM K cl E X o md)(ha:eF K cl E X [e,f] ms)(hbase:attributeBase o "get" X.env (eval o X.env)=eval o X.env:=by rfl)
  (hfew:((backTo cpos (starEach [e,f] X.env)).all (λx=>!x.1)&&(backToKw cpos (keywordEach [] X.env)).all (λx=>x.1.isSome)&&decide (([e,f]:List ah).length+([]:List ft).length+(if([]:List ft).isEmpty then 0 else 1)<30))=true:=by rfl)
  (hline:(apos.endLine==cpos.line)=true:=by rfl)(hs:starEach [e,f] X.env=(false,eval e X.env)::starEach [f] X.env:=by rfl)(hplain:(backTo cpos (starEach [f] X.env)).any (·.1)=false:=by rfl):aM K cl E X (.Call (.Attribute o "get" apos) [e,f] [] cpos) (xB md ms):=by
 intro hK;subst hK;refine PE.imp (Vo o6 PySem.F.type_dict_get (F6 (by omega)) (ho rfl) (ha rfl) hbase hfew hline hs hplain) ?_
 rintro σ H Q ⟨p,S,ρ,s,ev,h⟩
 refine bW s ev h λq H1 d x S1 st s1 e1 r1 h1=>?_;obtain⟨hd,h1⟩:=Hx s1 r1 h1;refine⟨hd,bW s1 e1 h1 λq2 H2 ks ys S2 st2 s2 e2 r2 h2=>?_⟩;cases r2 with
 |nil=>exact h2.elim
 |cons r3 rr=>
  cases rr with
  |nil=>exact h2.elim
  |cons r4 rs=>
   cases rs with
   |nil=>
    obtain⟨a,b,vs,ex,ey,g⟩:=Ti s2 (st2.repA r1) r3 h2;exact⟨a,b,_,vs,ex,by rw[ey],Sn g (λ_ h=>h) λ⟨w',e,q'⟩=>by cases e;exact q' _ r4⟩
   |cons _ _=>exact h2.elim
theorem aT.writeO(s:aT K p S H){D:Addr}{k:Nat}{o:SO}{ho:HO}(h:p.f[k]?=some D)(hk:k<S.length)(mo:Mb ho)(ob:bI p H p (aK H D ho)->lY K p (aK H D ho) D o):bI p H p (aK H D ho)/\aT K p (S.set k o) (aK H D ho):=by
 have w:p.w D:=s.sub D (cu h);have st:bI p H p (aK H D ho):=⟨s.wc,s.mu,jg,λ_ h=>h,λ_ h=>h,λ_ h g=>absurd h g,λ_ h g=>absurd h g,λ_ h g=>absurd h g,λa u e nw=>by
  rw[bH (λz:a=D=>nw (by rw[z];exact w))];exact e⟩
 refine⟨st,s.nd,by rw[fg];exact s.len,s.sub,s.wc,λa x=>?_,λj a u e1 e2=>?_⟩
 .by_cases z:a=D
  .rw[z,dR]
   exact⟨ho,rfl,mo⟩
  .rw[bH z]
   exact s.mu a x
 .by_cases hj:k=j
  .subst hj
   rw[dr hk]at e2;cases e2;rw[h]at e1;cases e1;exact ob st
  .rw[fe hj]at e2
   have ne:a≠D:=λz=>hj (nodup_idx s.nd h (by rw[z]at e1;exact e1));exact(s.obj j a u e1 e2).mono (λvs e=>by rw[bH ne];exact e) (λb w f=>⟨⟨w,f⟩,λvs e=>by rw[bH (λz:b=D=>f (z▸cu h))];exact e⟩) λ_ _ r=>st.reps r
theorem aX.setI{vs:List V}{us:AD}{x:V}{u:Value}(r:aX vs us)(rx:bP x u):∀i,aX (vs.set i x) (us.set i u):=λi=>r.set rx i
theorem K7{tpos:ai}(hu:X.A.units+8<cLine)(hv:aM K cl E X v mv)(ho:aM K cl E X o md)(hi:aM K cl E X i mk)
  (ha:∀v,assign (.Subscript o i tpos) X.env v=(do
   let ov <-holding [v] (eval o X.env)
   let iv <-holding [v,ov] (eval i X.env)
   standAt tpos
   holding [v,ov,iv] (setItem ov iv v)
   release [v,ov,iv] []):=by intro _;rfl)
  (hs:swapsWithSole [.Subscript o i tpos] v pos.line X.env=pure false:=by rfl)(hw:swappedStores [.Subscript o i tpos] v X.env=pure none:=by rfl)
  (h1:(assignEach [.Subscript o i tpos] X.env).map (·.2)=[assign (.Subscript o i tpos) X.env]:=by rfl):eA K cl E X (.Assign [.Subscript o i tpos] v pos) (wZ md mk mv):=by
 intro hK;subst hK;refine PS.imp (vU (hv rfl) (Ic (ho rfl) (hi rfl) (Wy (by omega)) ha) hs hw h1) ?_
 rintro D σ H ⟨p,S,ρ,s,ev,h⟩
 refine iE s ev h λq H1 v x S1 st s1 e1 r1 h1=>?_;refine iE s1 e1 h1 λq2 H2 d y S2 st2 s2 e2 r2 h2=>?_;refine iE s2 e2 h2 λq3 H3 k z S3 dI s3 e3 r3 h3=>?_;have r2:=dI.repA r2;have r1:=dI.repA (st2.repA r1);cases d with
 |pv _=>cases k<;>cases v<;>exact h3.elim
 |ref j=>
  cases k with
  |ref _=>cases v<;>exact h3.elim
  |pv k=>
   cases v with
   |ref _=>exact h3.elim
   |pv v=>
    obtain⟨a,ej,rfl⟩:=r2;have h3:dS X.K cl q3 H3 (bZ.of (sS (.ref j) (.pv k) (.pv v) S3) λ_ S4=>.nx ρ S4) D E:=h3;unfold sS at h3;dsimp only at h3;cases hS:S3[j]? with
    |none=>simp only[hS]at h3;exact h3.elim
    |some o=>
     cases o with
     |lst _=>simp only[hS]at h3;exact h3.elim
     |lol _=>simp only[hS]at h3;exact h3.elim
     |dol _ _=>simp only[hS]at h3;exact h3.elim
     |dic n kvs=>
      simp only[hS]at h3
      by_cases hc:lD n k/\kvs.length<16777216
      .rw[if_pos hc]at h3
       obtain⟨⟨k',rfl⟩,hl⟩:=hc;obtain⟨us,vs,d,rv,r⟩:=s3.obj j a _ ej hS;have rk:aI X.K q3.c H3 (cE n k') z:=r3;have ez:∃b,z=.ref b:=by
        obtain⟨b,_,e,_⟩:=Po (Q:=λ_=>True) (N:=True) s3 ej hS ⟨k',rfl⟩ rk (λ_ _ _ _=>trivial) λ_=>trivial;exact⟨b,e⟩
       obtain⟨b,rfl⟩:=ez;obtain⟨rs,dw,rr⟩:=vZ d;have lu:us.length=kvs.length:=by
        rw[<-rv.length,<-r.length,am]
       refine⟨a,b,q3.c,n,k',_,rs,us,rfl,rfl,dw,rr,rk,by rw[lu,hU];exact hl,λu H' ru hp=>?_⟩;obtain⟨es,ep,rfl,hp⟩:=hp;have hj:=(bo.mp hS).1;obtain⟨st4,sm4⟩:=s3.writeO (o:=.dic n (kC kvs (cE n k') v)) ej hj (show Mb (dO a es ep) from trivial) λst4=>by
        rcases hp with⟨i,hi,dw'⟩|⟨hn,dw'⟩
        .obtain⟨i',hi'⟩:=sK hi
         obtain⟨w,hw'⟩:=kO hi';have ei:i'=i:=by
          obtain⟨xs,_,_,_,_,nd,ek,_⟩:=dw;have g1:(kvs.map (·.1))[i']?=some (cE n k'):=by rw[av,hw'];rfl
          rw[ek,av]at g1 hi;cases z1:xs[i']? with
          |none=>rw[z1]at g1;cases g1
          |some x1=>
           cases z2:xs[i]? with
           |none=>rw[z2]at hi;cases hi
           |some x2=>
            rw[z1]at g1;rw[z2]at hi;have e1:x1.1=k':=lM (ce g1);have e2:x2.1=k':=lM (ce hi);exact qj nd (p:=x1.2) (q:=x2.2) (k:=k') (by rw[z1,<-e1]) (by rw[z2,<-e2])
         subst ei;have ek:kC kvs (cE n k') v=kvs.set i' (cE n k',v):=by unfold kC;rw[hi']
         refine⟨us.set i' u,vs.set i' x,?_,aX.setI rv ru i',?_⟩
         .rw[ek]
          have e1:(kvs.set i' (cE n k',v)).map (·.1)=kvs.map (·.1):=by
           rw[ue];refine jc λt=>?_;rw[uc];split
           .rename_i ht
            subst ht;rw[if_pos (by rw[am];exact(bo.mp hw').1),av,hw'];rfl
           .rfl
          rw[e1];exact dw'.at_ (st4.reps rr)
         .rw[ek,ue]
          exact aJ.set (st4.rep r1) i' (st4.reps r)
        .have ei:gO kvs (cE n k')=none:=by
          cases z0:gO kvs (cE n k')with
          |none=>rfl
          |some i=>
           obtain⟨w,hw'⟩:=kO z0;exact absurd (by rw[av,hw'];rfl) (hn i)
         have ek:kC kvs (cE n k') v=kvs++[(cE n k',v)]:=by unfold kC;rw[ei]
         refine⟨us++[u],vs++[x],?_,aX.append rv (.cons ru .nil),?_⟩
         .rw[ek,df]
          exact dw'.at_ ((st4.reps rr).append (.cons (st4.rep rk) .nil))
         .rw[ek,df]
          exact(st4.reps r).append (.cons (st4.rep r1) .nil)
       exact h3 _ _ _ st4 sm4 (st4.repE e3)
      .rw[if_neg hc]at h3
       exact h3.elim
end
end
end L2.Pp
namespace L2
open PySem PySem.Spec PyProof.Rows Bn L2.Pp
section
variable{prog:Program}{w:al}{A:aq}{E:Value->aa->Prop}{s:aa}{it d i ep:Nat}{es:Array DictEntry}
theorem U9{h:i<es.size}:(if(i:Int)<0 then none else es[(i:Int).toNat]?)=some es[i]:=by
 rw[if_neg (by omega),lc,ya h]
theorem M9{h:¬i<es.size}:(if(i:Int)<0 then none else es[(i:Int).toNat]?)=none:=by
 rw[if_neg (by omega),lc,Array.getElem?_eq_none (by omega)]
theorem aag{Q:AE->aa->Prop}{h1:Heap}(hh:A.handled=none)(sb:pw it s.heap h1)(q:∀h',pw it s.heap h'->Q none {s with heap:=h'}):
  wpAny (model prog w) A.in1 (newExc (.type "StopIteration") [] >>= raiseNew (α:=qe)) (λ_ _=>False) (λe s'=>wpAny (model prog w) A (isInstance e (.type "StopIteration")) (λb s2=>b=true/\Q none s2) E s') {s with heap:=h1}:=by
 refine ae ?_;simp only[newExc,newTuple];refine ae (io ?_ (by size_fits));refine ae (m:=firstArgMember _ _) (sv (a:=bf) (by first |rfl |(simp only[firstArgMember];rfl)) ?_)
 refine io ?_ (by size_fits);simp only[raiseNew];refine ae (wpAny_handled ?_);rw[show A.in1.handled=none from hh];refine ae (ak (wpAny_throw ?_));exact wz (T:="StopIteration") (b:=true) ⟨_,cx _ rfl,rfl⟩ isSubtype_stop ⟨rfl,q _ ((sb.push _).push _)⟩
theorem Wm{Q:qe->aa->Prop}{E':Value->aa->Prop}(hit:s.heap.IsKeyIter it d i es.size ep)(hd:s.heap.get? d=some (oD es ep))
  (q1:∀h:i<es.size,∀h',h'.IsKeyIter it d (i+1) es.size ep->il it s.heap h'->Q (.done (.ret es[i].key)) {s with heap:=h'})
  (q2:¬i<es.size->∀h',il it s.heap h'->wpAny (model prog w) A.in1 (newExc (.type "StopIteration") [] >>= raiseNew (α:=qe)) Q E' {s with heap:=h'}):
  wpAny (model prog w) A.in1 (Builtin.«dict_keyiterator.__next__» ⟨[.ref it],[]⟩) Q E' s:=by
 obtain⟨o,ho,hc,hf⟩:=id hit;have nm:∀{s':aa}{R:Nat->aa->Prop},s'.TypeIs (.ref it) "dict_keyiterator"->R 0 s'->wpAny (model prog w) A.in1 (do let t <-typeNameOfWhole (.ref it);pure (if o8 t then 2 else 0)) R E' s':=λhT r=>
  ae (wpAny_typeNameOfWhole_keyiter hT (ak (by rw[show o8 "dict_keyiterator"=false by decide];exact r)))
 refine ae (ak (ae (ae (nm hit.typeIs (ae (wpAny_fieldsOf ho hf ?_))))));show wpAny _ _ (if(cq d==bf)=true then _ else _) _ _ s;rw[if_neg (show ¬((cq d==bf)=true) from ir)];refine ae (ak (ae (yb hd rfl ?_)));rw[if_neg (by simp)];refine ae (ak (ae (wpAny_dictEpoch hd rfl ?_)));rw[if_neg (by simp)];refine ak ?_
 by_cases h:i<es.size
 .simp only[U9 (h:=h)]
  refine ae (nm hit.typeIs (ae (o9 hit.typeIs ?_)));show wpAny _ _ (setField (.ref it) 1 (rawInt ((i:Int)+1)) >>= _) _ _ s;refine ae (pk ho hf (by simp) ?_);have hit':(s.heap.update it (Obj.mapFields (·.setIfInBounds 1 (rawInt ((i:Int)+1))))).IsKeyIter it d (i+1) es.size ep:=
   ⟨_,rf _ ho (d9 (ss hf _)),(f6 ..).trans hc,by rw[ss hf];simp[rawInt]⟩
  have tt:Shared.TypeIs {s with heap:=s.heap.update it (Obj.mapFields (·.setIfInBounds 1 (rawInt ((i:Int)+1))))} (.ref it) "dict_keyiterator":=hit'.typeIs;exact ae (ji (ae (o9 tt (ak (ak (q1 h _ hit' (lh ..)))))))
 .simp only[M9 (h:=h)]
  refine ae (nm hit.typeIs ?_);exact ae (pk ho hf (by simp) (q2 h _ (lh ..)))
theorem I0{Q:AE->aa->Prop}(hit:s.heap.IsKeyIter it d i es.size ep)(hd:s.heap.get? d=some (oD es ep))(h:i<es.size)
  (q:∀h',h'.IsKeyIter it d (i+1) es.size ep->il it s.heap h'->Q (some es[i].key) {s with heap:=h'}):wpAny (model prog w) A (pyNext (.ref it)) Q E s:=by
 unfold pyNext;exact ae (sy (ld (name:=ib "__next__") hit.typeIs qk (jp qk hit.typeIs q0
  (Wm hit hd (λ_ h' a b=>⟨_,rfl,ak (q h' a b)⟩) λn=>absurd h n) (q9 _))))
theorem aap{Q:AE->aa->Prop}(hh:A.handled=none)(hit:s.heap.IsKeyIter it d i es.size ep)(hd:s.heap.get? d=some (oD es ep))(h:¬i<es.size)
  (q:∀h',pw it s.heap h'->Q none {s with heap:=h'}):wpAny (model prog w) A (pyNext (.ref it)) Q E s:=by
 unfold pyNext;exact ae (sy (ld (name:=ib "__next__") hit.typeIs qk (jp qk hit.typeIs q0
  (Wm hit hd (λn=>absurd n h) λ_ h' sb=>fj (aag (E:=E) hh sb.extBut q) (λ_ _ z=>z.elim) λe s2 z=>ae (bC z λb s3 ⟨hb,q3⟩=>by subst hb;exact ak q3)) (q9 _))))
theorem G5(hh:A.handled=none)(I d:Addr)(hne:d≠I)(es:Array DictEntry)(ep:Nat):
  Walks prog w A I [I,d] [I] es.size (λi v=>∃h:i<es.size,v=es[i].key) (λi h=>h.IsKeyIter I d i es.size ep/\h.get? d=some (oD es ep)) where
 sub:=λb hb=>by simp at hb;simp[hb]
 frame:=λ_ _ _ st hk=>⟨st.1.at λo e=>hk I (by simp) o e,hk d (by simp) _ st.2⟩
 item:=λi s Q E hi st hQ=>I0 st.1 st.2 hi λh' hit' sb=>hQ _ h' s.toks ⟨hi,rfl⟩ ⟨hit',(sb.2 d hne).trans st.2⟩ λb o hb e=>sb.extBut b o (λz=>hb (by simp[z])) e
 done:=λs Q E st hQ=>aap hh st.1 st.2 (ig _) λh' eb=>hQ h' s.toks λb o hb e=>eb b o (λz=>hb (by simp[z])) e
 self:=λ_ _ _ _ st hQ=>wpAny_pyIter_keyiter st.1 hQ
theorem W9{Q:Value->aa->Prop}(ns:(d==sysModules)=false)(hd:s.heap.get? d=some (oD es ep))
  (q:Q (.ref s.heap.objs.size) {s with heap:=s.heap.push {cls:=.type "dict_keyiterator",data:=.fields #[.ref d,.int 0 0,.int es.size 0,.int ep 0]}}):wpAny (model prog w) A (pyIter (.ref d)) Q E s:=by
 have hT:s.TypeIs (.ref d) "dict":=⟨_,hd,rfl⟩;refine wpAny_pyIter_slot hT r0 (jp r0 hT F.entry_dict_iter ?_ (F.args_dict_iter_1 _));refine ae (ae (r6 hT (ak ?_)));show wpAny _ _ (r8 d >>= _) _ _ s;unfold r8;rw[if_neg (by rw[ns];exact ir)];refine ae (ak (ae (yb hd rfl (ae (wpAny_dictEpoch hd rfl ?_)))));exact ae (io (ak ⟨_,rfl,"dict_keyiterator",_,⟨_,cx _ rfl,rfl⟩,qk.lookup,q⟩))
theorem Ir(ns:(d==sysModules)=false):PySem.W.KdlSrc prog w "dict" d d es.size (λi v=>∃h:i<es.size,v=es[i].key) (λh=>h.get? d=some (oD es ep)) where
 type:=λ_ hm=>⟨_,hm,rfl⟩
 there:=λ_ hm=>⟨ax hm,ax hm⟩
 keep:=λ_ _ hm hk=>hk d (.inl rfl) _ hm
 notList:=by decide
 notTuple:=by decide
 hint:=λ_ _ _ _ hm hq=>PySem.W.kdl_hint_dict ⟨_,hm,rfl⟩ hq
 iter:=λ_ _ hh hm=>⟨_,_,(λ_ _ hq=>W9 ns hm hq),G5 hh _ d (cr (ax hm)) es ep,⟨⟨_,cx _ rfl,rfl,rfl⟩,ao _ hm⟩⟩
end
section
variable{X:Cx}
theorem Ou(hc:X.calm=true):iB X (.type "list") (λxs H Q=>∃(a:Addr)(n:Bool)(ks:AH)(rs:List V)(us:AD),xs=[.ref a]/\jI H a n ks rs us/\∀l,H l=none->Q (.ref l) (aK H l (.lst rs))):=by
 intro AL s σ H xs us Q I r h;obtain⟨a,n,ks,rs,us',rfl,d,q⟩:=h;obtain⟨u,rfl,ru⟩:=iY r;cases ru;obtain⟨ys,ep,e,z,l,nd,rfl,rfl,rfl⟩:=d;refine PySem.W.kdl_call (Ir z) (I.ok.hd hc) (wM I e) (by simpa using l) λh' tk acc c hk hl hi=>?_;have ev:aX (ys.map λx=>V.ref x.2.1) acc.toList:=by
  have e1:acc.toList=ys.map λx=>cq x.2.1:=by
   refine jc λj=>?_;have hz:acc.size=ys.length:=by simpa using hi.1
   by_cases hj:j<ys.length
   .obtain⟨_,ej⟩:=hi.2 j acc[j] (by simp[hz,hj])
    rw[av,au hj,vt,ya (by omega),ej];simp[iR]
   .rw[ko (by simp;omega),ko (by simp;omega)]
  rw[e1];clear e1 hi e q l nd
  induction ys with
  |nil=>exact .nil
  |cons y ys ih=>exact .cons rfl ih
 refine⟨.ref s.heap.objs.size,_,I.laid (t':=tk) (o:=.lst (ys.map λx=>V.ref x.2.1)) hk (aj _) ⟨by rw[am];exact l,acc.toList,c,ev,hl⟩,rfl,q _ (I.hok.fresh (aj _))⟩
end
section
variable{prog:Program}{w:al}{A:aq}{E:Value->aa->Prop}{s:aa}{v d ep:Nat}{es:Array DictEntry}
end
section
variable{X:Cx}
end
end L2
namespace L2.Pp
open PySem PySem.Spec PyProof.Rows Bn
def vQ(d:AV)(S:aG):bK AV:=match d with
 |.ref j=>(match S[j]? with
  |some (.dic _ kvs)=>.ok (.pv (.lst (kvs.map (·.1)))) S
  |_=>.fail)
 |_=>.fail
def wX(ms:MA):ME:=λρ S=>(ms ρ S).bind λds S1=>match ds with
 |[d]=>vQ d S1
 |_=>.fail
section
variable{K:ag}{cl:Str->Addr}{E:XK}{X:Cx}{p q:Ph}{H H':Hp}{S:aG}{a b e o i v:ah}{es:List ah}{m md mk mv:ME}{ms:MA}{pos:ai}
theorem N5{x:Str}{px:ai}(hc:X.calm=true)(hg:Gl X x)(hm:X.mg x=none)(hv:bootBuiltins x=some (.type "list"))(ha:eF K cl E X [e] ms)(hn:x≠"__name__":=by decide)(hdb:(x==("__debug__":Str))=false:=by decide)
  (he:starEach [e] X.env=(false,eval e X.env)::starEach [] X.env:=by rfl)(hpl:(backTo pos (starEach [] X.env)).any (·.1)=false:=by rfl):aM K cl E X (.Call (.Name x px) [e] [] pos) (wX ms):=by
 intro hK;subst hK;refine PE.imp (uH (Ou hc) hg hm hv (ha rfl) hn hdb he hpl) ?_
 rintro σ H Q ⟨p,S,ρ,s,ev,h⟩
 refine bW s ev h λq H1 ds xs S1 st s1 e1 r1 h1=>?_;rcases r1 with _ |⟨rj,_ |⟨_,_⟩⟩
 .exact h1.elim
 .rename_i d _
  rcases d with _ |j
  .exact h1.elim
  obtain⟨a,ej,er⟩:=rj;subst er;have h1:bR X.K cl (bX X.K) q H1 (vQ (.ref j) S1) Q E:=h1;unfold vQ at h1;dsimp only at h1;split at h1
  .rename_i n kvs hS
   obtain⟨us,vs,d,rv,r⟩:=s1.obj j a _ ej hS;obtain⟨rs,dw,rr⟩:=vZ d;refine⟨a,n,_,rs,us,rfl,dw,λl hl=>?_⟩;have hz:rs.length<=sizeLine:=by
    obtain⟨ys,_,_,_,lz,_,_,er,_⟩:=dw;rw[er,am];exact lz
   exact bR.same (R:=bX X.K) h1 s1 (gF hl) (kR s1 rr hz hl)
  .exact h1.elim
 .exact h1.elim
end
end L2.Pp
namespace L2
open PySem PySem.Spec PyProof.Rows Bn
section
variable{X:Cx}
end
section
variable{X:Cx}{sc:Scope}{own:List Str}{cap:List (Nat×Str)}{AL:List (Addr×Obj)}{σ:St}{H:Hp}{s:aa}{elt target iter:ah}{pos pos':ai}{wi:TI}{g:TG}{te:TE}{Q:VK}
end
end L2
namespace L2.Pp
open PySem PySem.Spec PyProof.Rows Bn
section
mutual
def lF:PV->Bool
 |.lst _=>false
 |.tup xs=>lX xs
 |_=>true
def lX:AH->Bool
 |[]=>true
 |x::r=>lF x&&lX r
end
def vN(f:FM)(ms:MA):ME:=λρ S=>(ms ρ S).bind λxs S1=>match gJ S1 xs with
 |some vs=>(match f (vs.map .pv) []with
  |.ok (.pv v) _=>if lF v=true then .ok (.pv v) S1 else .fail
  |_=>.fail)
 |none=>.fail
section
variable{K:ag}{cl:Str->Addr}{E:XK}{X:Cx}{p q:Ph}{H H':Hp}{S:aG}{a b e o i v:ah}{es:List ah}{m ma mb md mk mv:ME}{ms:MA}{pos:ai}
mutual
theorem Sa{c c':Addr->Prop}:∀{v:PV}{x:V},aI K c H v x->lF v=true->aI K c' H v x
 |.non,_,h,_=>by unfold aI at h⊢;exact h
 |.bl _,_,h,_=>by unfold aI at h⊢;exact h
 |.int _,_,h,_=>by unfold aI at h⊢;exact h
 |.str _,_,h,_=>by unfold aI at h⊢;exact h
 |.lst _,_,_,n=>by unfold lF at n;cases n
 |.tup xs,_,h,n=>by
  unfold lF at n;unfold aI at h⊢;obtain⟨a,vs,e,t,z,r⟩:=h;exact⟨a,vs,e,t,z,Aj r n⟩
theorem Aj{c c':Addr->Prop}:∀{v:AH}{x:List V},aJ K c H v x->lX v=true->aJ K c' H v x
 |[],_,h,_=>by unfold aJ at h⊢;exact h
 |p::ps,_,h,n=>by
  unfold lX at n;unfold aJ at h⊢;obtain⟨v,r,e,h1,h2⟩:=h;have n:=yc.mp n;exact⟨v,r,e,Sa h1 n.1,Aj h2 n.2⟩
end
def Ph.none:Ph:=⟨[],λ_=>False,λ_=>False⟩
theorem Wj:aT K Ph.none [] H:=⟨mn,rfl,λ_ h=>(nomatch h),λ_ h=>h,λ_ h=>h.elim,λk a o e=>(nomatch e)⟩
theorem Fh:∀{vs:AH}{xs:List V},Tc K p H vs xs->fY K Ph.none H (vs.map .pv) xs
 |_,_,.nil=>.nil
 |_,_,.cons h t=>by
  refine .cons ?_ (Fh t);show aI K (λ_=>False) H _ _;rcases h with h |⟨xs,a,vs,rfl,rfl,h,z,r⟩
  .exact Eg (λ_ h=>h.elim) h
  .unfold aI
   exact⟨a,vs,rfl,.inl ⟨h,λz=>z⟩,z,mL (λ_ h=>h.elim) r⟩
theorem ab4{g:FM}{k k0:Nat}{ps:List Str}{x:Str}{px:ai}(C:tL X.prog X.w X.K X.mg X.base cl x k ps g)(hr:dP k0 X.A)(hk:k<=k0)(hg:Gl X x)(ha:eF X.K cl E X (e::es) ms)(hdb:(x==("__debug__":Str))=false:=by decide)(he:starEach (e::es) X.env=(false,eval e X.env)::starEach es X.env:=by rfl)(hpl:(backTo pos (starEach es X.env)).any (·.1)=false:=by rfl):
  aM X.K cl E X (.Call (.Name x px) (e::es) [] pos) (vN g ms):=by
 obtain⟨a,d,G,b,kk,n⟩:=C;intro hK;refine PE.imp (rR G (hr.mono hk) hg n kk b .nil sM (ha rfl) hdb he hpl) ?_
 rintro σ H Q ⟨p,S,ρ,s,ev,h⟩
 refine bW s ev h λq H1 as xs S1 st sm ev r k=>?_;cases z:gJ S1 as with
 |none=>simp only[z]at k;exact k.elim
 |some vs=>
  simp only[z]at k;have rr:=Fh (uI sm r z);have e0:xs++([]:List V)=xs:=la xs;refine⟨Ph.none,[],vs.map .pv,Wj,by first |exact rr |(rw[e0];exact rr),?_⟩
  cases y:g (vs.map .pv) []with
  |fail=>simp only[y]at k;exact k.elim
  |exc n S'=>simp only[y]at k;exact k.elim
  |ok w S'=>
   cases w with
   |ref j=>simp only[y]at k;exact k.elim
   |pv w=>
    simp only[y]at k
    by_cases hn:lF w=true
    .rw[if_pos hn]at k
     intro q' H' x' st' sm' r';have same:dD H1 H':=λa o e=>st'.keep a o e λz=>z;exact bR.same (R:=bX X.K) k sm same (Sa r' hn)
    .rw[if_neg hn]at k
     exact k.elim
variable{sc:Scope}{own:List Str}{cap:List (Nat×Str)}{elt target iter:ah}{mi:MI}{g:GM}{me:ME}
end
end
section
variable{K:ag}{cl:Str->Addr}{E:XK}{X:Cx}{a b:ah}{ma mb:ME}{pos:ai}
end
section
variable{P:Program}{w:al}{K:ag}{mg:Str->AE}{base:Heap}{cl:Str->Addr}{x qual:Str}{st:Stmt}{f:Addr}{fd:cf}{N ps:List Str}{k np n:Nat}{b:MS}
variable{so sc sc1:Scope}{own own1:List Str}{cap cap1:List (Nat×Str)}{cd:Value}{A:aq}{outer:List bh}{s:aa}{H:Hp}{E:XK}{C:Addr}{AM:aa}{AN:Hp}{ex:List Addr}
theorem Fd(a:sc.kind=.function:=by rfl)(b:∀y∈sc.names,y.2=.local->sc.names.lookup y.1=some .local:=by decide+kernel)(c:∀y∈sc.names,y.2≠.cell:=by decide+kernel)(d:∀y∈sc.names,y.2=.free->so.names.lookup y.1=some .cell:=by decide+kernel)(e:∀p∈cap,N[p.1]?=some p.2:=by decide+kernel)(g:∀p∈cap,sc.names.lookup p.2=some .free:=by decide+kernel):gU (fK eZ P w K mg base N qual so f cd A outer s H E).nox sc own cap:=X9 so N rfl rfl a b c d e g
theorem Y6(a:sc.kind=.function:=by rfl)(b:∀y∈sc.names,y.2=.local->sc.names.lookup y.1=some .local:=by decide+kernel)(c:∀y∈sc.names,y.2=.cell->sc.names.lookup y.1=some .cell:=by decide+kernel)(d:∀y∈sc.names,y.2=.free->so.names.lookup y.1=some .cell:=by decide+kernel)(e:∀p∈cap,N[p.1]?=some p.2:=by decide+kernel)(g:∀p∈cap,sc.names.lookup p.2=some .free:=by decide+kernel):mX (fK eZ P w K mg base N qual so f cd A outer s H E).nox sc own cap:=R4 so N rfl rfl a b c d e g
theorem Ec(a:sc.kind=.function:=by rfl)(b:∀y∈sc.names,y.2=.local->sc.names.lookup y.1=some .local:=by decide+kernel)(c:∀y∈sc.names,y.2≠.cell:=by decide+kernel)(d:∀y∈sc.names,y.2=.free->sc1.names.lookup y.1=some .free/\so.names.lookup y.1=some .cell:=by decide+kernel)(e:∀p∈cap,(cB own1 cap1)[p.1]?=some p.2:=by decide+kernel)(g:∀p∈cap,sc.names.lookup p.2=some .free:=by decide+kernel)(hk:so.kind=.function:=by rfl):gU (dY (fK eZ P w K mg base N qual so f cd A outer s H E).nox sc1 (cB own1 cap1) C AM AN ex) sc own cap:=L7 so rfl hk a b c d e g
theorem Yb(a:sc.kind=.function:=by rfl)(b:∀y∈sc.names,y.2=.local->sc.names.lookup y.1=some .local:=by decide+kernel)(c:∀y∈sc.names,y.2≠.cell:=by decide+kernel)(d:∀y∈sc.names,y.2=.free->sc1.names.lookup y.1=some .cell\/(sc1.names.lookup y.1=some .free/\so.names.lookup y.1=some .cell):=by decide+kernel)(e:∀p∈cap,(cB own1 cap1)[p.1]?=some p.2:=by decide+kernel)(g:∀p∈cap,sc.names.lookup p.2=some .free:=by decide+kernel)(hk:so.kind=.function:=by rfl):gU (iF (fK eZ P w K mg base N qual so f cd A outer s H E).nox sc1 (cB own1 cap1) C AM AN ex) sc own cap:=L1 so rfl hk a b c d e g
theorem cH{N ps:List Str}{sc:Scope}(a:sc.kind=.function:=by rfl)(b:sc.isCoroutine=false:=by rfl)(c:sc.isGenerator=false:=by rfl)(d:N.Nodup:=by decide+kernel)(e:N.take ps.length=ps:=by rfl)(f:∀x∈ps,sc.names.lookup x=some .local\/sc.names.lookup x=some .cell:=by decide+kernel)(g:∀y∈sc.names,y.2≠.free:=by decide+kernel):jM N ps sc:=⟨a,b,c,d,e,f,g⟩
def Sd(P:Program)(w:al)(K:ag)(mg:Str->AE)(base:Heap)(cl:Str->Addr)(x:Str)(k:Nat)(ps:List Str)(g:FM):Prop:=∃(a:Addr)(d:cf),eG P w K mg base (jH P w) k a d ps (mF K cl g)/\eG P w K mg base eZ k a d ps (jD K cl g)/\iX K d ps []/\fz K (.ref a)=true/\mg x=some (.ref a)
theorem acD{g:FM}{a:Addr}{d:cf}(G:eG P w K mg base (jH P w) k a d ps (mF K cl g))(b:iX K d ps [])(kp:fz K (.ref a)=true)(n:mg x=some (.ref a)):Sd P w K mg base cl x k ps g:=⟨_,_,G,x0 G,b,kp,n⟩
theorem ab8{X:Cx}{e:ah}{es:List ah}{ms:MA}{pos p:ai}{k0:Nat}{g:FM}(C:Sd X.prog X.w X.K X.mg X.base cl x k ps g)(hr:dP k0 X.A)(hk:k<=k0)(hg:Gl X x)(ha:eF X.K cl E0 X (e::es) ms)(hdb:(x==("__debug__":Str))=false:=by decide)(he:starEach (e::es) X.env=(false,eval e X.env)::starEach es X.env:=by rfl)(hpl:(backTo pos (starEach es X.env)).any (·.1)=false:=by rfl):
  aM X.K cl E0 X (.Call (.Name x p) (e::es) [] pos) (oQ g [] ms):=by
 obtain⟨a,d,_,G,b,kk,n⟩:=C;exact L4 G (hr.mono hk) hg n kk b .nil Dv.nil ha hdb he hpl
end
structure Bx where
 P:Program
 w:al
 K:ag
 mg:Str->AE
 base:Heap
 cl:Str->Addr
abbrev cD(B:Bx)(x:Str)(k:Nat)(ps:List Str)(g:FM):Prop:=tL B.P B.w B.K B.mg B.base B.cl x k ps g
abbrev CxB(B:Bx)(x:Str)(k:Nat)(ps:List Str)(g:FM):Prop:=Sd B.P B.w B.K B.mg B.base B.cl x k ps g
def HF(K:ag)(x:Str)(st:Stmt):Prop:=∃(f:Addr)(fd:cf),dq K mainGlobals x=some (some (.ref f))/\jR K x x st f fd
def XG(K:ag)(mg:Str->AE):Prop:=∃h:Heap,K.In h/\h.Ns mainGlobals mg
section
variable{B:Bx}{x:Str}{st:Stmt}{f:Addr}{fd:cf}{N ps:List Str}{k np n:Nat}{b:MS}
theorem Zo(X:XG B.K B.mg)(q:HF B.K x st):∃f fd,jR B.K x x st f fd/\fz B.K (.ref f)=true/\B.mg x=some (.ref f):=by
 obtain⟨f,fd,a,F⟩:=q;obtain⟨h,X,G⟩:=X;exact⟨f,fd,F,F.kp,oi X G a⟩
theorem abD{K:ag}{oc:Value}{od an:AF}{osl:Array AE}{kV doc pm cdv ct:Value}(a:dq K mainGlobals x=some (some (.ref f)))(l:K.lookup f=some ⟨oc,od,.func (eh x x (gR st) (eP st) (cR st) .none kV doc pm an cdv ct),osl⟩)
  (c:ju K cdv x=true)(k:fz K (.ref f)=true):HF K x st:=⟨_,_,a,Mp l c k⟩
theorem Js(F:jR B.K x x st f fd)(h:∀(kV doc pm:Value)(an:AF)(cdv ct:Value)(us:AD),us.length=ps.length->bindArgs (eh x x (gR st) (eP st) (cR st) .none kV doc pm an cdv ct) ⟨us,[]⟩=pure (ps.zip us)):iX B.K fd ps []:=F.binds λkV doc pm an cdv ct us hl=>h kV doc pm an cdv ct us hl
theorem cK(X:XG B.K B.mg)(q:HF B.K x st)(S:jM N ps (cR st))(hb:N.Nodup->∀(f:Addr)(cdv:Value)(A:aq)(outer:List bh)(s:aa)(H:Hp)(E:XK),dP k (A.deeper (envOfC x (cR st) s.heap.objs.size f cdv))->gG B.K B.cl E0 (fK eZ B.P B.w B.K B.mg B.base N x (cR st) f cdv A outer s H E).nox (eP st) b)(hnp:ps.length=np:=by rfl)(hn:N.length=n:=by rfl)
  (h:∀(kV doc pm:Value)(an:AF)(cdv ct:Value)(us:AD),us.length=ps.length->bindArgs (eh x x (gR st) (eP st) (cR st) .none kV doc pm an cdv ct) ⟨us,[]⟩=pure (ps.zip us):=by intro _ _ _ _ _ _ us h;rcases us with _ |⟨_,_ |⟨_,_ |⟨_,_ |⟨_,_ |⟨_,_ |⟨_,_⟩⟩⟩⟩⟩⟩<;>first |(cases h;done) |rfl |(simp at h)):cD B x (k+1) ps (aV np n b):=by
 obtain⟨f,fd,F,kp,m⟩:=Zo X q;exact⟨f,fd,Fs F S hnp hn λcdv A outer s H E hr=>hb S.nd f cdv A outer s H E hr,Js F h,kp,m⟩
theorem mkL(X:XG B.K B.mg)(q:HF B.K x st)(S:jM N ps (cR st))(hb:N.Nodup->∀(f:Addr)(cdv:Value)(A:aq)(outer:List bh)(s:aa)(H:Hp)(E:XK),dP k (A.deeper (envOfC x (cR st) s.heap.objs.size f cdv))->gG B.K B.cl E0 (fK eZ B.P B.w B.K B.mg B.base N x (cR st) f cdv A outer s H E).nox (eP st) b)(hnp:ps.length=np:=by rfl)(hn:N.length=n:=by rfl)
  (h:∀(kV doc pm:Value)(an:AF)(cdv ct:Value)(us:AD),us.length=ps.length->bindArgs (eh x x (gR st) (eP st) (cR st) .none kV doc pm an cdv ct) ⟨us,[]⟩=pure (ps.zip us):=by intro _ _ _ _ _ _ us h;rcases us with _ |⟨_,_ |⟨_,_ |⟨_,_ |⟨_,_ |⟨_,_ |⟨_,_⟩⟩⟩⟩⟩⟩<;>first |(cases h;done) |rfl |(simp at h)):cD B x (k+1) ps (oZ np n b):=by
 obtain⟨f,fd,F,kp,m⟩:=Zo X q;exact⟨f,fd,okL F S hnp hn λcdv A outer s H E hr=>hb S.nd f cdv A outer s H E hr,Js F h,kp,m⟩
theorem mkR(F:jR B.K x x st f fd)(S:jM N ps (cR st))(hb:N.Nodup->∀(f:Addr)(cdv:Value)(A:aq)(outer:List bh)(s:aa)(H:Hp)(E:XK),dP k (A.deeper (envOfC x (cR st) s.heap.objs.size f cdv))->gG B.K B.cl E0 (fK eZ B.P B.w B.K B.mg B.base N x (cR st) f cdv A outer s H E).nox (eP st) b)(hnp:ps.length=np:=by rfl)(hn:N.length=n:=by rfl):eG B.P B.w B.K B.mg B.base eZ (k+1) f fd ps (jD B.K B.cl (aV np n b)):=Fs F S hnp hn λcdv A outer s H E hr=>hb S.nd f cdv A outer s H E hr
theorem acG{dsv:Array Value}(F:nK B.K x x st f fd dsv)(S:jM N ps (cR st))(hb:N.Nodup->∀(f:Addr)(cdv:Value)(A:aq)(outer:List bh)(s:aa)(H:Hp)(E:XK),dP k (A.deeper (envOfC x (cR st) s.heap.objs.size f cdv))->gG B.K B.cl E (fK (jH B.P B.w) B.P B.w B.K B.mg B.base N x (cR st) f cdv A outer s H E) (eP st) b)(hnp:ps.length=np:=by rfl)(hn:N.length=n:=by rfl):eG B.P B.w B.K B.mg B.base (jH B.P B.w) (k+1) f fd ps (mF B.K B.cl (aV np n b)):=acL F S hnp hn λcdv A outer s H E hr=>hb S.nd f cdv A outer s H E hr
section
variable{X:Cx}{cl:Str->Addr}{E:XK}{e:ah}{es:List ah}{ms:MA}{pos p:ai}{k0:Nat}{g:FM}{dv:AH}
end
section
variable{P:Program}{w:al}{K:ag}{mg:Str->AE}{base:Heap}{qual:Str}{so sc:Scope}{own:List Str}{cap:List (Nat×Str)}{cd:Value}{A:aq}{outer:List bh}{s:aa}{H:Hp}{E:XK}
end
end
section
variable{P:Program}{w:al}{K:ag}{mg:Str->AE}{base:Heap}{cl:Str->Addr}{E:XK}{x:Str}{k k0:Nat}{ps:List Str}{g:FM}{e:ah}{es:List ah}{ms:MA}{pos p:ai}
end
end L2.Pp
namespace L2
open PySem PySem.Spec PySem.W PyProof.Rows Bn
section
variable{K:ag}{x D C:Addr}
end
section
variable{X:Cx}{p pos pos1 pos2 pos3 pos4 pc pd:ai}{e:ah}{te:XK->TE}{c1 c2 n:Str}{C1 C2:Addr}{i:Nat}{b₁ b₂:Stmt}{body1 body2:List Stmt}{newId1 newId2:String}
end
end L2
namespace L2.Pp
open PySem PySem.Spec PyProof.Rows Bn
section
variable{K:ag}{cl:Str->Addr}{E:XK}{X:Cx}{p pos pos1 pos2 pos3 pos4 pc pd:ai}{e:ah}{me:ME}{c1 c2 n:Str}{i nn:Nat}{b₁ b₂:Stmt}{body1 body2:List Stmt}{newId1 newId2:String}{up1 up2:bT->bT}
end
end L2.Pp
namespace L2
open PySem PySem.Spec PyProof.Rows Bn
section
open PySem.W (KasT kas_sort kas_asc kas_desc kas_rev kas_tail3 kas_descPart kas_count kas_place kas_bin)
def iC{α:Type}(lt:Nat->Nat->Bool)(n:Nat):kb α->(α->Prop)->Prop
 |.ret a,Q=>Q a
 |.ask i j k,Q=>i<n/\j<n/\iC lt n (k (lt i j)) Q
section
variable{lt:Nat->Nat->Bool}{n:Nat}
theorem pK{α β:Type}{f:α->kb β}{Q:β->Prop}:∀(t:kb α),iC lt n t (λa=>iC lt n (f a) Q)->iC lt n (t.bind f) Q
 |.ret _,h=>h
 |.ask i j k,h=>⟨h.1,h.2.1,pK (k (lt i j)) h.2.2⟩
theorem mO{α:Type}{Q Q':α->Prop}(f:∀a,Q a->Q' a):∀(t:kb α),iC lt n t Q->iC lt n t Q'
 |.ret a,h=>f a h
 |.ask i j k,h=>⟨h.1,h.2.1,mO f (k (lt i j)) h.2.2⟩
theorem Ym{α:Type}{cmp:Nat->Nat->(Bool->aa->Prop)->aa->Prop}{s:aa}(hc:∀i j(C:Bool->aa->Prop),i<n->j<n->C (lt i j) s->cmp i j C s){Q:α->aa->Prop}:∀(t:kb α),iC lt n t (λa=>Q a s)->t.kasWp cmp Q s
 |.ret _,h=>h
 |.ask i j k,h=>hc i j _ h.1 h.2.1 (Ym hc (k (lt i j)) h.2.2)
structure lI(lt:Nat->Nat->Bool)(n:Nat):Prop where
 tr:∀i j k,i<n->j<n->k<n->lt i j=true->lt j k=true->lt i k=true
 tot:∀i j,i<n->j<n->i≠j->lt i j=true\/lt j i=true
def fM(n:Nat)(p:Array Nat):Prop:=p.toList.Perm (az n)
def Up(lt:Nat->Nat->Bool)(p:Array Nat)(m:Nat):Prop:=∀i j,i<j->j<m->lt (p.getD i 0) (p.getD j 0)=true
def Dn(lt:Nat->Nat->Bool)(p:Array Nat)(m:Nat):Prop:=∀i j,i<j->j<m->lt (p.getD j 0) (p.getD i 0)=true
theorem fM.size{p:Array Nat}(h:fM n p):p.size=n:=by
 have:=List.Perm.length_eq h;simpa using this
theorem gD{p:Array Nat}{k:Nat}(h:k<p.size):p.getD k 0=p[k]:=by simp[Array.getD,h]
theorem gD?{p:Array Nat}{k:Nat}:p.getD k 0=(p[k]?).getD 0:=by simp[Array.getD_eq_getD_getElem?]
theorem fM.bd{p:Array Nat}(h:fM n p){k:Nat}(hk:k<n):p.getD k 0<n:=by
 have hs:k<p.size:=by rw[h.size];exact hk
 rw[gD hs];have:p[k]∈az n:=List.Perm.subset h (by simp);simpa using this
theorem fM.ne{p:Array Nat}(h:fM n p){i j:Nat}(hi:i<n)(hj:j<n)(ne:i≠j):p.getD i 0≠p.getD j 0:=by
 have hi':i<p.size:=by rw[h.size];exact hi
 have hj':j<p.size:=by rw[h.size];exact hj
 rw[gD hi',gD hj'];intro e;have nd:p.toList.Nodup:=(List.Perm.nodup_iff h).mpr List.nodup_range;refine ne (Pp.nodup_idx nd (a:=p[i]) (by simp[hi']) ?_);rw[e];simp[hj']
theorem Oc(S:lI lt n){p:Array Nat}(hp:fM n p):∀f m,1<=m->m+f=n->Up lt p m->iC lt n (kas_asc p f m) (λr=>m<=r/\r<=n/\Up lt p r/\(r=n\/lt (p.getD r 0) (p.getD (r-1) 0)=true))
 |0,m,h1,h2,h3=>⟨aj _,by omega,h3,.inl (by omega)⟩
 |f+1,m,h1,h2,h3=>by
  refine⟨hp.bd (by omega),hp.bd (by omega),?_⟩;cases z:lt (p.getD m 0) (p.getD (m-1) 0)with
  |true=>exact⟨aj _,by omega,h3,.inr z⟩
  |false=>
   show iC lt n (kas_asc p f (m+1)) _;refine mO (λr ⟨a,b,c,d⟩=>⟨by omega,b,c,d⟩) _ (Oc S hp f (m+1) (by omega) (by omega) λi j hij hj=>?_)
   by_cases hjm:j<m
   .exact h3 i j hij hjm
   .have e:j=m:=by omega
    subst e;have l1:lt (p.getD (j-1) 0) (p.getD j 0)=true:=by
     rcases S.tot _ _ (hp.bd (show j-1<n by omega)) (hp.bd (show j<n by omega)) (hp.ne (by omega) (by omega) (by omega))with h |h
     .exact h
     .rw[z]at h;cases h
    by_cases hi:i=j-1
    .rw[hi];exact l1
    .exact S.tr _ _ _ (hp.bd (by omega)) (hp.bd (by omega)) (hp.bd (by omega)) (h3 i (j-1) (by omega) (by omega)) l1
theorem Ql(S:lI lt n){p:Array Nat}(hp:fM n p):∀f m,2<=m->m+f=n->Dn lt p m->iC lt n (kas_desc f p m 0) (λr=>r.1=p/\r.2.2=0/\2<=r.2.1/\r.2.1<=n/\Dn lt p r.2.1)
 |0,m,h1,h2,h3=>⟨rfl,rfl,h1,by show m<=n;omega,h3⟩
 |f+1,m,h1,h2,h3=>by
  refine⟨hp.bd (by omega),hp.bd (by omega),?_⟩;cases z:lt (p.getD m 0) (p.getD (m-1) 0)with
  |true=>
   show iC lt n (kas_desc f p (m+1) 0) _;refine Ql S hp f (m+1) (by omega) (by omega) λi j hij hj=>?_
   by_cases hjm:j<m
   .exact h3 i j hij hjm
   .have e:j=m:=by omega
    subst e
    by_cases hi:i=j-1
    .rw[hi];exact z
    .exact S.tr _ _ _ (hp.bd (by omega)) (hp.bd (by omega)) (hp.bd (by omega)) z (h3 i (j-1) (by omega) (by omega))
  |false=>
   have l1:lt (p.getD (m-1) 0) (p.getD m 0)=true:=by
    rcases S.tot _ _ (hp.bd (show m-1<n by omega)) (hp.bd (show m<n by omega)) (hp.ne (by omega) (by omega) (by omega))with h |h
    .exact h
    .rw[z]at h;cases h
   refine⟨hp.bd (by omega),hp.bd (by omega),?_⟩;rw[l1];exact⟨rfl,rfl,h1,by show m<=n;omega,h3⟩
theorem fM.of{p q:Array Nat}(h:fM n p)(e:q.Perm p):fM n q:=(Array.Perm.toList e).trans h
theorem Aq{p:Array Nat}{m k:Nat}(hm:m<=p.size)(hk:k<m):(kas_rev p 0 m).getD k 0=p.getD (m-1-k) 0:=by
 unfold kas_rev;rw[gD?,gD?,getElem?_mirror_all hm,if_pos ⟨cy _,hk⟩,Nat.zero_add]
theorem E3(S:lI lt n){p:Array Nat}(hp:fM n p){m:Nat}(h1:1<=m)(h2:m<=n)(h3:Dn lt p m):iC lt n (kas_tail3 m n p) (λr=>1<=r.1/\r.1<=n/\fM n r.2/\Up lt r.2 r.1):=by
 have hq:fM n (kas_rev p 0 m):=hp.of (mirror_perm _ _ _ _);refine pK _ (mO (λr ⟨a,b,c,d⟩=>⟨by show 1<=r;omega,b,hq,c⟩) _ (Oc S hq (n-m) m h1 (by omega) λi j hij hj=>?_));have hs:m<=p.size:=by rw[hp.size];exact h2
 rw[Aq hs (by omega),Aq hs hj];exact h3 _ _ (by omega) (by omega)
theorem A6(S:lI lt n)(h2:2<=n){p:Array Nat}(hp:fM n p):iC lt n (kas_count n p) (λr=>1<=r.1/\r.1<=n/\fM n r.2/\Up lt r.2 r.1):=by
 refine pK _ (mO (λr hq=>?_) _ (Oc S hp (n-1) 1 (aj _) (by omega) λi j hij hj=>by omega));rcases hq with⟨a,b,c,d⟩
 by_cases e:(r==n)=true
 .rw[if_pos e]
  exact⟨a,b,hp,c⟩
 .rw[if_neg e]
  have e:r≠n:=by simpa using e
  by_cases h:r>1
  .rw[if_pos h]
   have l:lt (p.getD 0 0) (p.getD (r-1) 0)=true:=c 0 (r-1) (by omega) (by omega);refine⟨hp.bd (by omega),hp.bd (by omega),?_⟩;rw[l];exact⟨a,b,hp,c⟩
  .rw[if_neg h]
   have e1:r=1:=by omega
   subst e1;rcases d with d |d
   .exact absurd d e
   .refine pK _ (mO (λr ⟨q1,q2,q3,q4,q5⟩=>?_) _ (Ql S hp (n-(1+1)) (1+1) (aj _) (by omega) λi j hij hj=>?_))
    .have e1:i=0:=by omega
     have e2:j=1:=by omega
     rw[e1,e2];exact d
    .rw[if_neg (by rw[q2];exact ig 0),q1]
     exact E3 S hp (by omega) q4 q5
theorem Ka(S:lI lt n){p:Array Nat}(hp:fM n p){k:Nat}(hk:k<n)(u:Up lt p k):∀f l r,l<=r->r<=k->r-l<=f->(∀i,i<l->lt (p.getD i 0) (p.getD k 0)=true)->(∀i,r<=i->i<k->lt (p.getD k 0) (p.getD i 0)=true)->
  iC lt n (kas_place p k f l r) (λx=>x<=k/\(∀i,i<x->lt (p.getD i 0) (p.getD k 0)=true)/\∀i,x<=i->i<k->lt (p.getD k 0) (p.getD i 0)=true)
 |0,l,r,h1,h2,h3,h4,h5=>⟨by omega,h4,λi a b=>h5 i (by omega) b⟩
 |f+1,l,r,h1,h2,h3,h4,h5=>by
  unfold kas_place
  by_cases h:l>=r
  .rw[if_pos h]
   exact⟨by omega,h4,λi a b=>h5 i (by omega) b⟩
  .rw[if_neg h]
   refine⟨hp.bd hk,hp.bd (by omega),?_⟩;cases z:lt (p.getD k 0) (p.getD ((l+r)/2) 0)with
   |true=>
    refine Ka S hp hk u f l ((l+r)/2) (by omega) (by omega) (by omega) h4 λi a b=>?_
    by_cases e:i=(l+r)/2
    .rw[e];exact z
    .exact S.tr _ _ _ (hp.bd hk) (hp.bd (by omega)) (hp.bd (by omega)) z (u _ i (by omega) b)
   |false=>
    have l1:lt (p.getD ((l+r)/2) 0) (p.getD k 0)=true:=by
     rcases S.tot _ _ (hp.bd (show(l+r)/2<n by omega)) (hp.bd hk) (hp.ne (by omega) hk (by omega))with h |h
     .exact h
     .rw[z]at h;cases h
    refine Ka S hp hk u f ((l+r)/2+1) r (by omega) h2 (by omega) (λi a=>?_) h5
    by_cases e:i=(l+r)/2
    .rw[e];exact l1
    .exact S.tr _ _ _ (hp.bd (by omega)) (hp.bd (by omega)) (hp.bd hk) (u i _ (by omega) (by omega)) l1
theorem Kp{p:Array Nat}{k l:Nat}(hk:k<p.size)(hl:l<=k)(j:Nat):(bubble p k (k-l)).getD j 0=if j=l then p.getD k 0 else if l<j/\j<=k then p.getD (j-1) 0 else p.getD j 0:=by
 have e:k-(k-l)=l:=by omega
 simp only[gD?];rw[getElem?_bubble hk (k-l) (by omega),e]
 repeat' split
 all_goals rfl
theorem Ro(S:lI lt n):∀f(p:Array Nat) k,fM n p->k+f=n->Up lt p k->iC lt n (kas_bin f p k) (λq=>fM n q/\Up lt q n)
 |0,p,k,hp,h2,u=>by
  have e:k=n:=by omega
  subst e;exact⟨hp,u⟩
 |f+1,p,k,hp,h2,u=>by
  have hk:k<n:=by omega
  refine pK _ (mO (λl hq=>?_) _ (Ka S hp hk u k 0 k (cy _) (aj _) (by omega) (λi h=>by omega) λi h g=>by omega));rcases hq with⟨a,b,c⟩;refine Ro S f _ (k+1) (hp.of (bubble_perm _ _ _)) (by omega) λi j hij hj=>?_;have hs:k<p.size:=by rw[hp.size];exact hk
  rw[Kp hs a,Kp hs a]
  by_cases ei:i=l
  .rw[if_pos ei,if_neg (by omega),if_pos (by omega)]
   exact c (j-1) (by omega) (by omega)
  .rw[if_neg ei]
   by_cases ej:j=l
   .rw[if_pos ej,if_neg (by omega)]
    exact b i (by omega)
   .rw[if_neg ej]
    by_cases gi:l<i/\i<=k
    .rw[if_pos gi,if_pos (by omega)]
     exact u _ _ (by omega) (by omega)
    .rw[if_neg gi]
     by_cases gj:l<j/\j<=k
     .rw[if_pos gj]
      exact u _ _ (by omega) (by omega)
     .rw[if_neg gj]
      exact u _ _ (by omega) (by omega)
theorem N4(S:lI lt n)(h2:2<=n):iC lt n (jb n) (λq=>fM n q/\Up lt q n):=by
 refine pK _ (mO (λr hq=>?_) _ (A6 S h2 (p:=ia (az n)) (List.Perm.refl _)));rcases hq with⟨a,b,c,d⟩
 by_cases h:r.1<n
 .rw[if_pos h]
  have e:max r.1 1=r.1:=by omega
  rw[e];exact Ro S _ _ _ c (by omega) d
 .rw[if_neg h]
  have e:r.1=n:=by omega
  exact⟨c,by rw[<-e];exact d⟩
end
section
variable{α:Type}{lt:α->α->Bool}
def ins(lt:α->α->Bool)(x:α):List α->List α
 |[]=>[x]
 |y::r=>if lt x y then x::y::r else y::ins lt x r
def fD(lt:α->α->Bool):List α->List α
 |[]=>[]
 |x::r=>ins lt x (fD lt r)
structure qV(lt:α->α->Bool):Prop where
 irr:∀x,lt x x=false
 tr:∀x y z,lt x y=true->lt y z=true->lt x z=true
 tot:∀x y,x≠y->lt x y=true\/lt y x=true
theorem Oa(x:α):∀l,(ins lt x l).Perm (x::l)
 |[]=>.refl _
 |y::r=>by
  unfold ins;split
  .exact .refl _
  .exact((Oa x r).cons y).trans (.swap x y r)
theorem pG:∀l,(fD lt l).Perm l
 |[]=>.refl _
 |x::r=>(Oa x _).trans ((pG r).cons x)
theorem Xo(O:qV lt)(x:α):∀l,x∉l->l.Pairwise (λa b=>lt a b=true)->(ins lt x l).Pairwise (λa b=>lt a b=true)
 |[],_,_=>by simp[ins]
 |y::r,nx,h=>by
  unfold ins;split
  .rename_i z
   refine uf.mpr ⟨λa ha=>?_,h⟩;rcases ci.mp ha with rfl |ha
   .exact z
   .exact O.tr _ _ _ z ((uf.mp h).1 a ha)
  .rename_i z
   obtain⟨h1,h2⟩:=uf.mp h;refine uf.mpr ⟨λa ha=>?_,Xo O x r (λm=>nx (bn _ m)) h2⟩;rcases ci.mp ((Oa x r).subset ha)with rfl |ha
   .rcases O.tot a y (λe=>nx (by rw[e];exact ay))with q |q
    .exact absurd q z
    .exact q
   .exact h1 a ha
theorem vD(O:qV lt):∀l:List α,l.Nodup->(fD lt l).Pairwise (λa b=>lt a b=true)
 |[],_=>.nil
 |x::r,h=>by
  obtain⟨h1,h2⟩:=jn.mp h;exact Xo O x _ (λm=>h1 ((pG r).subset m)) (vD O r h2)
theorem Am(O:qV lt){A B:List α}(hp:A.Perm B)(ha:A.Pairwise (λa b=>lt a b=true))(hb:B.Pairwise (λa b=>lt a b=true)):A=B:=
 hp.eq_of_pairwise (λu v _ _ h g=>by
  have:=O.tr _ _ _ h g;rw[O.irr]at this;cases this) ha hb
theorem Nt(O:qV lt){A B:List α}(hp:A.Perm B)(h:B.Nodup):fD lt A=fD lt B:=
 Am O ((pG A).trans (hp.trans (pG B).symm)) (vD O A (hp.nodup_iff.mpr h)) (vD O B h)
end
theorem Gb:qV HT.lexLt:=⟨jX,pJ,λx y h=>(rS x y).elim (λe=>absurd e h) id⟩
end
section
open PySem.W (KasT kas_sort kas_ask KatTups kat_run kat_kind kas_item kat_snds KdlSrc kdl_extend)
section
variable{prog:Program}{w:al}{A:aq}{E:Value->aa->Prop}{s:aa}
def Hs(prog:Program)(w:al)(A:aq)(κ:ug)(lt:Nat->Nat->Bool)(vs:AD)(s:aa)(a:Addr):Prop:=∀(h':Heap)(tk:cw)(E:Value->aa->Prop),(∀b o,b≠a->s.heap.get? b=some o->h'.get? b=some o)->
 (∀Q:ug->aa->Prop,Q κ {s with heap:=h',toks:=tk}->wpAny (model prog w) A (keyKind' vs.toArray) Q E {s with heap:=h',toks:=tk})/\
 ∀i j(C:Bool->aa->Prop),i<vs.length->j<vs.length->C (lt i j) {s with heap:=h',toks:=tk}->kas_ask prog w A κ vs i j C {s with heap:=h',toks:=tk}
def kI(lt:Nat->Nat->Bool)(p:List Nat):Prop:=p.Pairwise λi j=>lt i j=true
theorem U3{lt:Nat->Nat->Bool}{p:Array Nat}{n:Nat}(hp:fM n p)(u:Up lt p n):kI lt p.toList:=by
 unfold kI;rw[xv];intro i j hi hj hij;have hs:=hp.size;rw[my]at hi hj;have:=u i j hij (by omega);rw[gD hi,gD hj]at this;simpa using this
theorem At{a:Addr}{vs:AD}{lt:Nat->Nat->Bool}{κ:ug}{n:Nat}{P:qe->aa->Prop}(ho:s.heap.get? a=some (seqObj "list" vs.toArray n))(h64:vs.length<64)(hS:lI lt vs.length)(hk:2<=vs.length->Hs prog w A κ lt vs s a)
  (h:∀p:List Nat,p.Perm (az vs.length)->kI lt p->P (.done (.ret .none)) {s with heap:=sortedHeap s.heap a vs (ia (p.map λi=>vs.getD i bf))}):
  wpAny (model prog w) A (Builtin.«list.sort» ⟨[.ref a],[]⟩) P E s:=by
 have ha:a<s.heap.objs.size:=ax ho;obtain⟨e1,ho1⟩:∃e1,(s.heap.update a (dj λ_=>(#[]:Array Value))).get? a=some (seqObj "list" #[] e1):=⟨_,og ho λ_=>#[]⟩;have kp:∀b o,b≠a->s.heap.get? b=some o->(((s.heap.update a (dj λ_=>(#[]:Array Value))).push (seqObj "tuple" vs.toArray 0)).push (seqObj "list" #[] 0)).get? b=some o:=λb o hb e=>
  ao _ (ao _ ((oh _ _ _ _ hb).trans e))
 have na:(((s.heap.update a (dj λ_=>(#[]:Array Value))).push (seqObj "tuple" vs.toArray 0)).push (seqObj "list" #[] 0)).get? a=some (seqObj "list" #[] e1):=ao _ (ao _ ho1);rw[list_sort_plain];refine ae (listItems_at ho rfl ?_);refine ae (qg ho rfl ?_ (by rw[ar,gv];omega) (cy _));refine ae (qh ho1 rfl ?_);refine ae (wv ?_ (by show vs.length<=_;rw[gv];omega));refine ae (ub ?_ (cy _));refine ji ?_;show wpAny (model prog w) A _ P E {s with heap:=((s.heap.update a (dj λ_=>(#[]:Array Value))).push (seqObj "tuple" vs.toArray 0)).push (seqObj "list" #[] 0)};dsimp only
 by_cases hn2:vs.toArray.size<2
 .rw[if_pos hn2,if_pos hn2]
  refine ae (ak ?_);rw[StateT.run_pure];refine ae (ak ?_);dsimp only;refine ae (qh na rfl ?_);have hl2:vs.length<2:=by simpa using hn2
  have eo:(arrOf (SortSt.mk' general' (vs.toArray.zip vs.toArray) #[] 7 none)).map (·.2)=ia ((az vs.length).map λi=>vs.getD i bf):=by
   show Array.map (λx=>x.2) (vs.toArray.zip vs.toArray)=_
   match vs,hl2 with
   |[],_=>simp
   |[v],_=>simp
  rw[eo];refine ae (qg na rfl ?_ (cy _) (by rw[ar,am,lq,gv];omega));simp only[bne_self_eq_false,xq,if_false];refine ak (h _ (.refl _) ?_);unfold kI;rw[xv];intro i j hi hj hij;rw[lq]at hi hj;omega
 rw[if_neg hn2,if_neg hn2];have h2:2<=vs.length:=by simpa using hn2
 obtain⟨hkk,hc⟩:=hk h2 _ s.toks E kp;refine ae (hkk _ ?_);obtain⟨_,hc⟩:=hk h2 _ s.toks E kp;refine ae (fj (kat_run (Q:=λst' s'=>∃p:Array Nat,p.size=vs.length/\arrOf st'=p.map (kas_item (vs.toArray.zip vs.toArray))/\failedOf st'=none/\(fM vs.length p/\Up lt p vs.length)/\s'={s with heap:=((s.heap.update a (dj λ_=>(#[]:Array Value))).push (seqObj "tuple" vs.toArray 0)).push (seqObj "list" #[] 0)})
  (G:=λp s'=>(fM vs.length p/\Up lt p vs.length)/\s'={s with heap:=((s.heap.update a (dj λ_=>(#[]:Array Value))).push (seqObj "tuple" vs.toArray 0)).push (seqObj "list" #[] 0)})
  rfl h2 h64 (λp' st' s' a1 a2 a3 a4=>⟨p',a1,a2,a3,a4⟩) ?_) ?_ λ_ _ e=>e)
 .exact Ym (λi j C hi hj hC=>hc i j C hi hj hC) _ (mO (λp hp=>⟨hp,rfl⟩) _ (N4 hS h2))
 rintro⟨⟨⟩,st'⟩ s' ⟨p,hp,har,hf,hpl,rfl⟩
 dsimp only;have hout:=kat_snds rfl har;have hsz:(ia (p.toList.map λi=>vs.getD i bf)).size=vs.length:=by rw[ar,am,my,hp]
 rw[hout];refine ae (qh na rfl ?_);refine ae (qg na rfl ?_ (cy _) (fh (rm hsz) (by rw[gv];omega)));rw[hf];simp only[bne_self_eq_false,xq,if_false];exact ak (h _ hpl.1 (U3 hpl.1 hpl.2))
theorem Su{T:String}{r d:Addr}{n:Nat}{P:Nat->Value->Prop}{OK:Heap->Prop}{Q:AD->aa->Prop}(K:KdlSrc prog w T r d n P OK)(hh:A.handled=none)(hok:OK s.heap)(hn:n<=sizeLine)
  (hQ:∀h' tk acc,(∀b o,s.heap.get? b=some o->h'.get? b=some o)->ItemsOf P acc n->Q acc.toList {s with heap:=h',toks:=tk}):wpAny (model prog w) A (collect (.ref r)) Q E s:=by
 obtain⟨l1,l2⟩:=K.there _ hok;unfold collect;refine ae (wpAny_runValue (codeAny_builtin F.entry_proto_collect ?_));rw[s0 F.plain_proto_collect _];show wpAny _ A.in1 (newList [] >>= λl=>again (.builtin "list.__iadd__" ⟨[l,.ref r],[]⟩)) _ _ s;refine ae (io ?_);refine ak ⟨plainId_quiet t5 _,codeAny_builtin o5 ?_⟩;rw[s0 t5 _];show wpAny _ A.in1 (Builtin.List.listExtendWith (.ref s.heap.objs.size) (.ref r) (.ref s.heap.objs.size)) _ _ _;have hS:(s.heap.push {cls:=.type "list",data:=.seq ([]:AD).toArray}).get? s.heap.objs.size=some {cls:=.type "list",data:=.seq #[] 0}:=cx _ rfl;refine fj (kdl_extend (A:=A) (R:=λr s'=>r=.ok (.ret (.ref s.heap.objs.size))/\∃h' tk acc c,s'={s with heap:=h',toks:=tk}/\(∀b o,b≠s.heap.objs.size->(s.heap.push {cls:=.type "list",data:=.seq ([]:AD).toArray}).get? b=some o->h'.get? b=some o)/\h'.get? s.heap.objs.size=some {cls:=.type "list",dict:=none,data:=.seq acc c,slots:=#[]}/\ItemsOf P acc n)
  (s:={s with heap:=s.heap.push {cls:=.type "list",data:=.seq ([]:AD).toArray}}) K hh (K.keep _ _ hok λb _ o e=>ao _ e) s.heap.objs.size (kj l1) (kj l2) _ 0 hS (λh' tk acc c k1 k2 k3=>⟨rfl,h',tk,acc,c,rfl,k1,k2,k3⟩) hn) (λfin s' h=>?_) (λe s' h=>?_)
 .have fin':∀s',(∃h' tk acc c,s'={s with heap:=h',toks:=tk}/\(∀b o,b≠s.heap.objs.size->(s.heap.push {cls:=.type "list",data:=.seq ([]:AD).toArray}).get? b=some o->h'.get? b=some o)/\h'.get? s.heap.objs.size=some {cls:=.type "list",dict:=none,data:=.seq acc c,slots:=#[]}/\ItemsOf P acc n)->wpAny (model prog w) A (match cq s.heap.objs.size with
   |cq a=>do
    match(<-load a).data with
     |Data.seq xs _=>pure xs.toList
     |_=>unsupported "internal:collect"
   |_=>unsupported "internal:collect") Q E s':=by
   rintro s' ⟨h',tk,acc,c,rfl,k1,k2,k3⟩
   show wpAny _ A (load s.heap.objs.size >>= _) _ _ _;refine ae (wpAny_load k2 ?_);refine ak (hQ h' tk acc (λb o hb=>k1 b o (cr (ax hb)) (ao _ hb)) k3)
  cases fin with
  |done f=>
   obtain⟨e,h⟩:=h;cases e;exact fin' s' h
  |again c'=>exact⟨h.1,ox h.2 λr s'' hr=>by obtain⟨rfl,h⟩:=hr;exact fin' s'' h⟩
 .exact absurd h.1 (by simp)
theorem Gv{l:Addr}{vs:AD}{lt:Nat->Nat->Bool}{κ:ug}{Q:Value->aa->Prop}(h64:vs.length<64)(hS:lI lt vs.length)(hk:∀h1 tk a,(∀b o',s.heap.get? b=some o'->h1.get? b=some o')->s.heap.get? a=none->2<=vs.length->Hs prog w A.in1.in1 κ lt vs {s with heap:=h1,toks:=tk} a)
  (hcol:∀(Q':AD->aa->Prop)(E':Value->aa->Prop),(∀h1 tk,(∀b o',s.heap.get? b=some o'->h1.get? b=some o')->Q' vs {s with heap:=h1,toks:=tk})->wpAny (model prog w) A.in1 (collect (.ref l)) Q' E' s)
  (h:∀(h1 h':Heap)(c:Nat)(tk:cw)(p:List Nat),p.Perm (az vs.length)->kI lt p->(∀b o',s.heap.get? b=some o'->h1.get? b=some o')->(∀b o',h1.get? b=some o'->h'.get? b=some o')->h'.get? h1.objs.size=some (seqObj "list" (ia (p.map λi=>vs.getD i bf)) c)->Q (.ref h1.objs.size) {s with heap:=h',toks:=tk}):
  wpAny (model prog w) A (call (.builtin "sorted") [.ref l]) Q E s:=by
 refine m9 kind_sorted plain_sorted entry_sorted (args_sorted1 _) ?_;unfold n9;refine ae (m:=checkCount "sorted" 1 1 _) (ak ?_);refine ae (hcol _ _ λh1 tk k1=>?_);refine ae (ub ?_ (by rw[gv];omega));have hoL:(h1.push (seqObj "list" vs.toArray 0)).get? h1.objs.size=some (seqObj "list" vs.toArray 0):=cx _ rfl;show wpAny _ _ _ _ _ {s with heap:=h1.push (seqObj "list" vs.toArray 0),toks:=tk};refine ae (ji (jp slot_list_sort ⟨_,hoL,rfl⟩ entry_list_sort ?body (args_list_sort _)))
 case body=>
  have nn:s.heap.get? h1.objs.size=none:=by
   cases z:s.heap.get? h1.objs.size with
   |none=>rfl
   |some o=>exact absurd (ax (k1 _ _ z)) (ig _)
  refine At (s:={s with heap:=h1.push (seqObj "list" vs.toArray 0),toks:=tk}) hoL h64 hS (hk _ tk _ (λb o hb=>ao _ (k1 b o hb)) nn) λp hp hu=>⟨_,rfl,ak ⟨_,rfl,?_⟩⟩;obtain⟨e1,ho1⟩:∃e1,((h1.push (seqObj "list" vs.toArray 0)).update h1.objs.size (dj λ_=>(#[]:Array Value))).get? h1.objs.size=some (seqObj "list" #[] e1):=⟨_,og hoL λ_=>#[]⟩;have ho2:=ao (seqObj "list" #[] 0) (ao (seqObj "tuple" vs.toArray 0) ho1);obtain⟨e2,ho3⟩:∃e2,(sortedHeap (h1.push (seqObj "list" vs.toArray 0)) h1.objs.size vs (ia (p.map λi=>vs.getD i bf))).get? h1.objs.size=some (seqObj "list" (ia (p.map λi=>vs.getD i bf)) e2):=⟨_,og ho2 λ_=>ia (p.map λi=>vs.getD i bf)⟩;refine h h1 _ e2 tk p hp hu k1 (λb o' hb1=>?_) ho3;have hne:b≠h1.objs.size:=cr (ax hb1);exact(oh _ _ _ _ hne).trans (ao _ (ao _ ((oh _ _ _ _ hne).trans (ao _ hb1))))
end
end
open L2.Pp
def nJ(uss:AB)(i j:Nat):Bool:=HT.lexLt (uss.getD i []) (uss.getD j [])
theorem Q9{uss:AB}(nd:uss.Nodup):lI (nJ uss) uss.length:=by
 refine⟨λi j k _ _ _ h g=>pJ _ _ _ h g,λi j hi hj ne=>?_⟩;rcases rS (uss.getD i []) (uss.getD j [])with e |e |e
 .refine absurd (Pp.nodup_idx nd (i:=i) (j:=j) (a:=uss[i]) (by simp[hi]) ?_) ne
  have e1:uss.getD i []=uss[i]:=by simp[br,hi]
  have e2:uss.getD j []=uss[j]:=by simp[br,hj]
  rw[<-e1,e,e2];simp[hj]
 .exact .inl e
 .exact .inr e
section
variable{X:Cx}{AL:List (Addr×Obj)}{σ:St}{H:Hp}{s:aa}
theorem Ii{ts:List V}{its:AD}(rv:aX ts its):∀ps:List Nat,aX (ps.map λi=>ts.getD i .non) (ps.map λi=>its.getD i bf)
 |[]=>.nil
 |i::ps=>by
  have hlen:=rv.length;refine .cons ?_ (Ii rv ps)
  by_cases hi:i<ts.length
  .obtain⟨v,e2,rr⟩:=rv.get (au hi)
   have q1:ts.getD i .non=ts[i]:=by simp[br,hi]
   have q2:its.getD i bf=v:=by simp[br,e2]
   show bP (ts.getD i .non) (its.getD i bf);rw[q1,q2];exact rr
  .have q1:ts.getD i .non=.non:=by simp[br,hi]
   have q2:its.getD i bf=bf:=by simp[br,show its.length<=i by omega]
   show bP (ts.getD i .non) (its.getD i bf);rw[q1,q2];rfl
theorem Ba(I:aF X AL σ H s){l:Addr}{ts:List V}{uss:AB}{its:AD}{Q:VK}(rv:aX ts its)(hr:lR X.K H ts uss)(h64:ts.length<64)(nd:uss.Nodup)
  (hcol:∀(Q':AD->aa->Prop)(E':Value->aa->Prop),(∀h1 tk,(∀b o',s.heap.get? b=some o'->h1.get? b=some o')->Q' its {s with heap:=h1,toks:=tk})->wpAny (model X.prog X.w) X.A.in1 (collect (.ref l)) Q' E' s)
  (q:∀l p,H l=none->p.Perm (az ts.length)->kI (nJ uss) p->Q (.ref l) (aK H l (.lst (p.map λi=>ts.getD i .non)))):
  wpAny (model X.prog X.w) X.A (call (.builtin "sorted") [.ref l]) (EP X AL σ Q) X.xe s:=by
 obtain⟨hl,ht⟩:=hr;have hlen:=rv.length;have hi:its.length=uss.length:=by omega
 have tu:∀i,i<its.length->nA s.heap (its.getD i bf) (uss.getD i [])/\uss.getD i []≠[]:=λi hi=>by
  have hi':i<ts.length:=by omega
  obtain⟨b,e1,sq,ne⟩:=ht i ts[i] (au hi');obtain⟨v,e2,rel⟩:=rv.get (au hi');rw[e1]at rel;cases rel;obtain⟨jts,rj,⟨o2,ho2,hc2,m,hd2⟩,_⟩:=I.tuple sq;refine⟨⟨b,o2,jts,m,?_,ho2,hc2,hd2,rj⟩,ne⟩;rw[br,e2];rfl
 refine Gv (κ:=tuples' true) (lt:=nJ uss) (by omega) (by rw[hi];exact Q9 nd) (λh1 tk a k1 ha h2=>?_) hcol λh1 h' c tk p hp hu k1 k2 e=>?_
 .intro h' tk2 E kp
  have tu2:∀i,i<its.length->nA h' (its.getD i bf) (uss.getD i [])/\uss.getD i []≠[]:=λi hi=>by
   obtain⟨⟨b,o,jts,m,e,hb,hc,hd,r⟩,ne⟩:=tu i hi;refine⟨⟨b,o,jts,m,e,kp b o (λz=>?_) (k1 b o hb),hc,hd,r⟩,ne⟩;rw[z,ha]at hb;cases hb
  refine⟨λQ q=>?_,λi j C hi hj hC=>Tp (tu2 i hi).1 (tu2 j hj).1 hC⟩;obtain⟨fs,kt,lf,qf⟩:=zG (s:={s with heap:=h',toks:=tk2}) its uss hi tu2;refine PySem.W.kat_kind (T:=.type "int") kt (by omega) (λv hv=>?_) rfl ?_
  .obtain⟨i,t,rfl⟩:=qf v hv
   exact .now
  .have bt:(kg "int" !=kg "tuple")=true:=by decide
   rw[bt];exact q
 .have I1:aF X AL σ H {s with heap:=h1,toks:=tk}:=I.kept k1
  have hz2:(p.map λi=>ts.getD i .non).length<=sizeLine:=by
   rw[am,hp.length_eq,lq,gv];omega
  refine⟨.ref h1.objs.size,_,I1.laid (t':=tk) (o:=.lst (p.map λi=>ts.getD i .non)) k2 (aj _) ?_,rfl,q _ p (I1.hok.fresh (aj _)) (by rw[hlen];exact hp) hu⟩;exact⟨hz2,_,c,Ii rv p,e⟩
theorem Qv:iB X (.builtin "sorted") (λxs H Q=>∃(a:Addr)(ts:List V)(uss:AB),xs=[.ref a]/\(bS X.K H a ts\/cP X.K H a ts)/\lR X.K H ts uss/\ts.length<64/\uss.Nodup/\
  ∀l p,H l=none->p.Perm (az ts.length)->kI (nJ uss) p->Q (.ref l) (aK H l (.lst (p.map λi=>ts.getD i .non)))):=by
 intro AL s σ H xs us Q I r h;obtain⟨a,ts,uss,rfl,hq,hr,h64,nd,q⟩:=h;obtain⟨u,rfl,ru⟩:=iY r;cases ru;rcases hq with hq |hq
 .obtain⟨its,rv,pl,hz⟩:=I.list hq
  obtain⟨o,ho,hc,n,hd⟩:=pl.isList;exact Ba I rv hr h64 nd (λQ' E' h=>xu a (.inl rfl) ho hc hd (λh1 k1=>h h1 s.toks k1) (by rw[ar,<-rv.length];exact hz)) q
 .obtain⟨its,rv,⟨o,ho,hc,n,hd⟩,hz⟩:=I.tuple hq
  exact Ba I rv hr h64 nd (λQ' E' h=>xu a (.inr rfl) ho hc hd (λh1 k1=>h h1 s.toks k1) (by rw[ar,<-rv.length];exact hz)) q
theorem Cu(hc:X.calm=true):iB X (.builtin "sorted") (λxs H Q=>∃(a:Addr)(n:Bool)(ks:AH)(rs:List V)(us:AD)(uss:AB),xs=[.ref a]/\jI H a n ks rs us/\lR X.K H rs uss/\rs.length<64/\uss.Nodup/\
  ∀l p,H l=none->p.Perm (az rs.length)->kI (nJ uss) p->Q (.ref l) (aK H l (.lst (p.map λi=>rs.getD i .non)))):=by
 intro AL s σ H xs us Q I r h;obtain⟨a,n,ks,rs,us',uss,rfl,d,hr,h64,nd,q⟩:=h;obtain⟨u,rfl,ru⟩:=iY r;cases ru;obtain⟨ys,ep,e,z,l,nd2,rfl,rfl,rfl⟩:=d;have ev:aX (ys.map λx=>V.ref x.2.1) (ys.map λx=>cq x.2.1):=by
  clear q hr h64 e l nd2
  induction ys with
  |nil=>exact .nil
  |cons y ys ih=>exact .cons rfl ih
 refine Ba I ev hr h64 nd (λQ' E' h=>?_) q;refine Su (Ir z) (show X.A.in1.handled=none from I.ok.hd hc) (wM I e) (by simpa using l) λh' tk acc k1 hi=>?_;have e1:acc.toList=ys.map λx=>cq x.2.1:=by
  refine jc λj=>?_;have hz:acc.size=ys.length:=by simpa using hi.1
  by_cases hj:j<ys.length
  .obtain⟨_,ej⟩:=hi.2 j acc[j] (by simp[hz,hj])
   rw[av,au hj,vt,ya (by omega),ej];simp[iR]
  .rw[ko (by simp;omega),ko (by simp;omega)]
 rw[e1];exact h h' tk k1
end
end L2
namespace L2.Pp
noncomputable section
open PySem PySem.Spec PyProof.Rows Bn
def qR(u:AA):PV:=.tup (u.map .int)
open Classical in
def kX(xs:AH):AI:=match iG xs with
 |some uss=>if uss.length<64/\uss.Nodup/\[]∉uss then some (.lst ((fD HT.lexLt uss).map qR))else none
 |none=>none
def sJ:AH->AI
 |[.lst xs]=>kX xs
 |[.tup xs]=>kX xs
 |_=>none
theorem Sl:∀{xs:AH}{is:AA},iV xs=some is->xs=is.map .int
 |[],is,e=>by cases e;rfl
 |.int i::r,is,e=>by
  unfold iV at e;split at e
  .rename_i js h
   cases e;rw[Sl h];rfl
  .cases e
 |.non::_,_,e=>by cases e
 |.bl _::_,_,e=>by cases e
 |.tup _::_,_,e=>by cases e
 |.str _::_,_,e=>by cases e
 |.lst _::_,_,e=>by cases e
theorem Ra:∀{xs:AH}{uss:AB},iG xs=some uss->xs=uss.map qR
 |[],uss,e=>by cases e;rfl
 |.tup us::r,uss,e=>by
  unfold iG at e;split at e
  .rename_i is uss' h1 h2
   cases e;rw[Ra h2,Sl h1];rfl
  .cases e
 |.non::_,_,e=>by cases e
 |.bl _::_,_,e=>by cases e
 |.int _::_,_,e=>by cases e
 |.str _::_,_,e=>by cases e
 |.lst _::_,_,e=>by cases e
theorem Zp{uss:AB}{p:List Nat}(hp:p.Perm (az uss.length))(hu:kI (nJ uss) p)(nd:uss.Nodup):(fD HT.lexLt uss).map qR=p.map λi=>(uss.map qR).getD i .non:=by
 have e0:p.map (λi=>(uss.map qR).getD i .non)=(p.map λi=>uss.getD i []).map qR:=by
  rw[dy];refine di λi hi=>?_;have:i<uss.length:=by
   have:=hp.subset hi;simpa using this
  simp[br,this]
 rw[e0];congr 1;have e1:(az uss.length).map (λi=>uss.getD i [])=uss:=by
  refine tf (by simp) λi h1 h2=>?_;simp[br,h2]
 have pm:(p.map λi=>uss.getD i []).Perm uss:=by
  have:=hp.map (λi=>uss.getD i []);rw[e1]at this;exact this
 refine Am Gb ((pG uss).trans pm.symm) (vD Gb uss nd) ?_;rw[List.pairwise_map];exact hu
section
variable{K:ag}
theorem Xk{c:Addr->Prop}{H:Hp}{xs:AH}{vs:List V}{uss:AB}(hu:iG xs=some uss)(r:aJ K c H xs vs)(ne:[]∉uss):lR K H vs uss:=by
 have l1:=rM hu;have l2:=r.length;refine⟨by omega,λi t h=>?_⟩;obtain⟨b,e1,e2⟩:=Pa hu r i t h;have hi:i<uss.length:=by
  have:=(bo.mp h).1;omega
 refine⟨b,e1,e2,?_⟩;rw[br,au hi];exact λz=>ne (z▸iu hi)
theorem U5:jS K (λxs H Q=>∃(a:Addr)(ts:List V)(uss:AB),xs=[.ref a]/\(bS K H a ts\/cP K H a ts)/\lR K H ts uss/\ts.length<64/\uss.Nodup/\
  ∀l p,H l=none->p.Perm (az ts.length)->kI (nJ uss) p->Q (.ref l) (aK H l (.lst (p.map λi=>ts.getD i .non)))) sJ:=λ{p S H as c xs Q} s ra e k=>by
 have key:∀(zs:AH)(a:Addr)(vs:List V),kX zs=some c->(bS K H a vs\/cP K H a vs)->aJ K p.c H zs vs->∃(a':Addr)(ts:List V)(uss:AB),[V.ref a]=[.ref a']/\(bS K H a' ts\/cP K H a' ts)/\lR K H ts uss/\ts.length<64/\uss.Nodup/\
   ∀l p,H l=none->p.Perm (az ts.length)->kI (nJ uss) p->Q (.ref l) (aK H l (.lst (p.map λi=>ts.getD i .non))):=λzs a vs e sq r=>by
  unfold kX at e;split at e
  .rename_i uss hu
   split at e
   .rename_i hc
    cases e;obtain⟨c1,c2,c3⟩:=hc;have l1:=rM hu;have l2:=r.length;refine⟨a,vs,uss,rfl,sq,Xk hu r c3,by omega,c2,λl ps hl hp hup=>?_⟩;refine k _ _ (gF hl) ?_;rw[Zp (by rw[<-l1,l2];exact hp) hup c2,<-Ra hu];refine kR s (uL r _) ?_ hl;rw[am,hp.length_eq,lq,hU];omega
   .cases e
  .cases e
 unfold sJ at e;split at e
 .rename_i zs
  cases ra with
  |cons h t=>
   cases t;obtain⟨a,vs,rfl,l,z,r⟩:=h.lst;exact key zs a vs e (.inl l) r
 .rename_i zs
  cases ra with
  |cons h t=>
   cases t;obtain⟨a,vs,rfl,l,z,r⟩:=h.tup;exact key zs a vs e (.inr l) r
 .cases e
end
def wY(d:AV)(S:aG):bK AV:=match d with
 |.ref j=>(match S[j]? with
  |some (.dol _ kvs)=>gY (kX (kvs.map (·.1))) S
  |_=>.fail)
 |_=>.fail
def wF(ms:MA):ME:=λρ S=>(ms ρ S).bind λds S1=>match ds with
 |[d]=>wY d S1
 |_=>.fail
section
variable{K:ag}{cl:Str->Addr}{E:XK}{X:Cx}{p q:Ph}{H H':Hp}{S:aG}{a b e o i v:ah}{es:List ah}{m md mk mv:ME}{ms:MA}{pos:ai}
theorem A8{x:Str}{px:ai}(hc:X.calm=true)(hg:Gl X x)(hm:X.mg x=none)(hv:bootBuiltins x=some (.builtin "sorted"))(ha:eF K cl E X [e] ms)(hn:x≠"__name__":=by decide)(hdb:(x==("__debug__":Str))=false:=by decide)
  (he:starEach [e] X.env=(false,eval e X.env)::starEach [] X.env:=by rfl)(hpl:(backTo pos (starEach [] X.env)).any (·.1)=false:=by rfl):aM K cl E X (.Call (.Name x px) [e] [] pos) (wF ms):=by
 intro hK;subst hK;refine PE.imp (uY (Cu hc) hg hm hv (ha rfl) hn hdb he hpl) ?_
 rintro σ H Q ⟨p,S,ρ,s,ev,h⟩
 refine bW s ev h λq H1 ds xs S1 st s1 e1 r1 h1=>?_;cases r1 with
 |nil=>exact h1.elim
 |cons r1 rr=>
  cases rr with
  |cons _ _=>exact h1.elim
  |nil=>
   rename_i d x;cases d with
   |pv _=>exact h1.elim
   |ref j=>
    obtain⟨a,ej,rfl⟩:=r1;have h1:bR X.K cl (bX X.K) q H1 (wY (.ref j) S1) Q E:=h1;unfold wY at h1;dsimp only at h1;split at h1
    .rename_i n kvs hS
     obtain⟨bs,d,_⟩:=s1.obj j a _ ej hS;obtain⟨rs,dw,rr⟩:=vZ d;obtain⟨c,ec,k⟩:=oB s1 h1;unfold kX at ec;split at ec
     .rename_i uss hu
      split at ec
      .rename_i hcc
       cases ec;obtain⟨c1,c2,c3⟩:=hcc;have l1:=rM hu;have l2:=rr.length;refine⟨a,n,_,rs,_,uss,rfl,dw,Xk hu rr c3,by omega,c2,λl ps hl hp hup=>?_⟩;refine k _ _ (gF hl) ?_;rw[Zp (by rw[<-l1,l2];exact hp) hup c2,<-Ra hu];refine kR s1 (uL rr _) ?_ hl;rw[am,hp.length_eq,lq,hU];omega
      .cases ec
     .cases ec
    .exact h1.elim
end
end
end L2.Pp
namespace L2
open PySem PySem.Spec PyProof.Rows Bn
open L2.Pp
section
variable{prog:Program}{w:al}{K:Type}[DecidableEq K]{knd:HeapKind prog w K}{A:aq}{E:Value->aa->Prop}{s:aa}{d a:Addr}{k:K}{xs:List (K×Addr×Value)}
theorem Bu{dflt:Value}{Q:Value->aa->Prop}(hu:knd.room A)(hkey:knd.is s.heap k a)(hm:s.heap.DictOfH knd d xs)
  (h1:∀p,atKey xs k=some p->Q p.2 {s with toks:=s.toks+knd.draws k})
  (h2:atKey xs k=none->∀h',h'.DictOfH knd d (storedH xs k a dflt)->il d s.heap h'->Q dflt {s with heap:=h',toks:=s.toks+knd.draws k})
  (hsz:xs.length<=sizeLine):wpAny (model prog w) A (dictSetDefault d (.ref a) dflt) Q E s:=by
 obtain⟨o,es,ep,ho,hc,hd,he,his,hn⟩:=hm;unfold dictSetDefault
 try with_reducible refine ji ?_
 refine ae (knd.pyHash hu hkey ?_);refine ae (wpAny_dictFind_heap (s:={s with toks:=s.toks+knd.draws k}) hu hkey ho hd he his hn ?_ ?_)
 .intro hno
  have hnot:k∉xs.map (·.1):=not_mem_keys_of_get hno;refine ae (ki (ae (wpAny_updateDictKeys (hz:=by have e:=size_of_entries he;omega) (s:={s with toks:=s.toks+knd.draws k}) ho hd (ak (h2 (qi hno) _ ⟨_,_,ep+1,rf _ ho (Obj.isFreed_of_dict (t6 hd _)),
   hc.mapDictKeys _,t6 hd _,?_,?_,?_⟩ (lh ..))))))
  .rw[jk (qi hno)]
   simp[he,entryOfKey]
  .rw[jk (qi hno)]
   intro x hx;rcases cj.mp hx with hx |hx
   .exact knd.keeps (his x hx) ho hd (lh ..)
   .simp only[yd]at hx
    subst hx;exact knd.keeps hkey ho hd (lh ..)
  .rw[jk (qi hno)]
   rw[df,mf];refine⟨hn,by simp,?_⟩;intro x hx y hy;simp only[aw,cv,yd]at hy;subst hy;exact λe=>hnot (e▸hx)
 .intro j p hj
  refine ae (yb (s:={s with toks:=s.toks+knd.draws k}) ho hd ?_);have e:es[j]?=some (entryOfKey knd (k,p)):=by rw[entry_at he j,hj];rfl
  rw[e];exact ae (ki (ak (h1 p (atKey_of_get hn hj))))
theorem Qs(hd:(d==sysModules)=false)(dflt:Value):
  MeetsIn prog w (Builtin.«dict.setdefault» ⟨[.ref d,.ref a,dflt],[]⟩) (λA R s=>knd.room A.in1/\∃k xs,knd.is s.heap k a/\s.heap.DictOfH knd d xs/\xs.length<=sizeLine/\
   (∀p,atKey xs k=some p->R (.ok (.ret p.2)) {s with toks:=s.toks+knd.draws k})/\
   (atKey xs k=none->∀h',h'.DictOfH knd d (storedH xs k a dflt)->il d s.heap h'->R (.ok (.ret dflt)) {s with heap:=h',toks:=s.toks+knd.draws k})):=
 .of_wp λA R s ⟨hu,k,xs,hkey,hm,hz,h1,h2⟩=>by
  unfold Builtin.«dict.setdefault»;refine ae ?_;unfold Builtin.Dict.keyAndDefault;refine ae (r6 hm.typeIs ?_);show wpAny _ _ (pure (d,cq a,some dflt)) _ _ s;refine ak ?_;show wpAny _ _ (if(d==sysModules)=true then _ else(dictSetDefault d (.ref a) dflt >>= _)) _ _ s;rw[if_neg (by rw[hd];exact ir)];exact ae (Bu hu hkey hm (λv hv=>ak ⟨_,rfl,h1 v hv⟩) (λhn h' hm' hs'=>ak ⟨dflt,rfl,h2 hn h' hm' hs'⟩) hz)
end
section
variable{X:Cx}{AL:List (Addr×Obj)}{σ:St}{H:Hp}{s:aa}
def ack(K:ag):V->List V->Hp->VK->Prop:=λx xs H Q=>∃(a b t:Addr)(c:Addr->Prop)(n:Bool)(k:fL n)(ks:AH)(rs:List V)(bs:List Addr),x=.ref a/\xs=[.ref b,.ref t]/\jI H a n ks rs (bs.map cq)/\aJ K c H ks rs/\aI K c H (cE n k) (.ref b)/\bs.length<sizeLine/\
 (∀(i:Nat)(l:Addr),ks[i]?=some (cE n k)->bs[i]?=some l->Q (.ref l) H)/\
 ∀es ep,(∀i:Nat,ks[i]?≠some (cE n k))->jI (aK H a (dO a es ep)) a n (ks++[cE n k]) (rs++[.ref b]) ((bs++[t]).map cq)->Q (.ref t) (aK H a (dO a es ep))
theorem Wx(hu:X.A.units+2<cLine):xY X "dict.setdefault" (ack X.K):=by
 intro AL s σ H x xs v us Q I rx rv h;obtain⟨a,b,t,c,n,k,ks,rs,bs,rfl,rfl,d,r,rk,hl,q1,q2⟩:=h;cases rx;obtain⟨u1,u2,rfl,r1,r2⟩:=rv.two;cases r1;cases r2;obtain⟨ys,ep,e,z,l,nd,rfl,rfl,eu⟩:=d;have dd:=Fc I e nd r;have ly:bs.length=ys.length:=by
  have:=congrArg qv eu;simpa using this
 refine call_meetsIn t7 dd.typeIs PySem.F.entry_dict_setdefault (PySem.F.args_dict_setdefault_3 _ _ _) (Qs (knd:=jA X.prog X.w n) z (.ref t)) ⟨uA hu n,k,ys,vX I rk,dd,l,λp hp=>?_,λhn h' dd' hs=>?_⟩
 .rcases uP (k:=k) nd with⟨i,p',hx,ha⟩|⟨_,ha⟩
  .rw[ha]at hp
   cases hp;have hi:=(bo.mp hx).1;have hb:i<bs.length:=by omega
   have ev:p.2=cq bs[i]:=by
    have:=congrArg (λl:AD=>l[i]?) eu;simp only[av,hx,au hb,ye]at this;exact(ce this).symm
   rw[ev];exact⟨.ref bs[i],H,I.tok _,rfl,q1 i _ (by rw[av,hx];rfl) (au hb)⟩
  .rw[ha]at hp
   cases hp
 .obtain⟨ob,es,ep',ho,hex,hd,he,_,hnd⟩:=dd'
  have eob:ob=oD es ep':=by
   obtain⟨e1,e2,e3⟩:=hex;cases ob;simp only at e1 e2 e3 hd;subst e1 e2 e3 hd;rfl
  subst eob;have een:iR n=entryOfKey (jA X.prog X.w n):=by
   funext x
   unfold iR entryOfKey;rw[yX]
  have ees:es=((storedH ys k b (.ref t)).map (iR n)).toArray:=by
   rw[een,<-he]
  have I':aF X AL σ (aK H a (dO a es ep')) {s with heap:=h',toks:=s.toks+(jA X.prog X.w n).draws k}:=
   I.write (x:=a) (e:=a) (by rw[e];exact trivial) (.inl rfl) (λb' q' hb z'=>(hs.2 b' hb).trans z') ⟨_,ho⟩ ⟨ho,⟨_,ho⟩,λh1 h2 p kk=>kk _ p⟩
  rcases uP (k:=k) nd with⟨i,p',hx,ha⟩|⟨hno,ha⟩
  .rw[ha]at hn
   cases hn
  .refine⟨.ref t,_,I',rfl,q2 es ep' hno ⟨storedH ys k b (.ref t),ep',by rw[dR,ees],z,?_,hnd,?_,?_,?_⟩⟩
   .rw[jk ha,bi]
    show ys.length+1<=sizeLine;omega
   .rw[jk ha,df]<;>rfl
   .rw[jk ha,df]<;>rfl
   .rw[jk ha,df,df,eu]<;>rfl
end
end L2
namespace L2.Pp
noncomputable section
open PySem PySem.Spec PyProof.Rows Bn
def wD(n:Bool):ME:=λ_ S=>.ok (.ref S.length) (S++[.dol n []])
def lC(kvs:List (PV×AH))(k v:PV):List (PV×AH):=match gO kvs k with
 |some i=>kvs.set i (k,((kvs[i]?).map (·.2)).getD []++[v])
 |none=>kvs++[(k,[v])]
open Classical in
def xU(k v:PV)(S:aG):bK AV:=match S with
 |[.dol n kvs]=>if lD n k/\kvs.length<16777216/\∀kv∈kvs,kv.2.length<16777216 then .ok (.pv .non) [.dol n (lC kvs k v)] else .fail
 |_=>.fail
def oS(i j l:Nat):ME:=λρ S=>match ρ[i]?,ρ[j]?,ρ[l]? with
 |some (some (.ref 0)),some (some (.pv k)),some (some (.pv v))=>xU k v S
 |_,_,_=>.fail
section
variable{K:ag}{cl:Str->Addr}{E:XK}{X:Cx}{p q:Ph}{H H':Hp}{S:aG}{e:ah}{es:List ah}{m md mk mv:ME}{ms:MA}{pos:ai}
theorem A1(n:Bool):aM K cl E X (.Dict [] [] pos) (wD n):=by
 intro hK;subst hK;refine PE.imp Al ?_
 rintro σ H Q ⟨p,S,ρ,s,ev,h⟩ t ht hs
 have ob:lY X.K ⟨p.f++[t],λa=>p.w a\/a=t,λa=>p.c a\/a=t⟩ (aK H t (dO t #[] 0)) t (.dol n []):=
  ⟨[],⟨[],0,dR,hs,cy _,mn,rfl,.nil,rfl⟩,mn,λ_ h=>(nomatch h),rfl,λi xs b e=>(nomatch e)⟩
 obtain⟨st,sm⟩:=s.pushO ht (show Mb (dO t #[] 0) from trivial) ob;exact h _ _ (.ref t) st sm ⟨t,by show(p.f++[t])[S.length]?=some t;rw[<-s.len,dg (aj _),fx];rfl,rfl⟩
theorem Em{c:Addr->Prop}{n:Bool}{k:fL n}{y:V}(ry:aI K c H (cE n k) y):∃b,y=.ref b:=by
 cases n with
 |false=>
  have ry:aI K c H (.tup (jz PV.int k)) y:=ry;unfold aI at ry;obtain⟨b,_,e,_⟩:=ry;exact⟨b,e⟩
 |true=>
  have ry:aI K c H (.tup (jz (λr:AA=>PV.tup (r.map PV.int)) k)) y:=ry;unfold aI at ry;obtain⟨b,_,e,_⟩:=ry;exact⟨b,e⟩
theorem Y9{i j l:Nat}{x y z:Str}{px py pz pl a1 c1 a2 c2:ai}(hu:X.A.units+8<cLine)(hN1:X.N[i]?=some x)(hN2:X.N[j]?=some y)(hN3:X.N[l]?=some z)
  (hv1:kG X.env.scope x:=by first |exact du rfl |exact dh (du rfl) |exact dh (dh rfl))(hv2:kG X.env.scope y:=by first |exact du rfl |exact dh (du rfl) |exact dh (dh rfl))(hv3:kG X.env.scope z:=by first |exact du rfl |exact dh (du rfl) |exact dh (dh rfl))
  (hd1:(x==("__debug__":Str))=false:=by decide)(hc1:(x==("__classdict__":Str))=false:=by decide)(hd2:(y==("__debug__":Str))=false:=by decide)(hc2:(y==("__classdict__":Str))=false:=by decide)(hd3:(z==("__debug__":Str))=false:=by decide)(hc3:(z==("__classdict__":Str))=false:=by decide)
  (hb1:attributeBase (.Name x px) "setdefault" X.env (eval (.Name x px) X.env)=eval (.Name x px) X.env:=by rfl)
  (hf1:((backTo c1 (starEach [.Name y py,.List [] pl] X.env)).all (λx=>!x.1)&&(backToKw c1 (keywordEach [] X.env)).all (λx=>x.1.isSome)&&decide (([.Name y py,.List [] pl]:List ah).length+([]:List ft).length+(if([]:List ft).isEmpty then 0 else 1)<30))=true:=by rfl)
  (hl1:(a1.endLine==c1.line)=true:=by rfl)(hs1:starEach [.Name y py,.List [] pl] X.env=(false,eval (.Name y py) X.env)::starEach [.List [] pl] X.env:=by rfl)(hp1:(backTo c1 (starEach [.List [] pl] X.env)).any (·.1)=false:=by rfl)
  (hs0:starEach [.List [] pl] X.env=(false,eval (.List [] pl) X.env)::starEach [] X.env:=by rfl)
  (hb2:attributeBase (.Call (.Attribute (.Name x px) "setdefault" a1) [.Name y py,.List [] pl] [] c1) "append" X.env (eval (.Call (.Attribute (.Name x px) "setdefault" a1) [.Name y py,.List [] pl] [] c1) X.env)=eval (.Call (.Attribute (.Name x px) "setdefault" a1) [.Name y py,.List [] pl] [] c1) X.env:=by rfl)
  (hf2:((backTo c2 (starEach [.Name z pz] X.env)).all (λx=>!x.1)&&(backToKw c2 (keywordEach [] X.env)).all (λx=>x.1.isSome)&&decide (([.Name z pz]:List ah).length+([]:List ft).length+(if([]:List ft).isEmpty then 0 else 1)<30))=true:=by rfl)
  (hl2:(a2.endLine==c2.line)=true:=by rfl)(hs2:starEach [.Name z pz] X.env=(false,eval (.Name z pz) X.env)::starEach [] X.env:=by rfl):
  aM K cl E X (.Call (.Attribute (.Call (.Attribute (.Name x px) "setdefault" a1) [.Name y py,.List [] pl] [] c1) "append" a2) [.Name z pz] [] c2) (oS i j l):=by
 intro hK;subst hK;refine PE.imp (wK tz rl xk pL (Vo t7 PySem.F.type_dict_setdefault (Wx (by omega)) (kS hN1 hv1 hd1 hc1) (jL (kS hN2 hv2 hd2 hc2) (jL (vY kW) kW hs0) hs1) hb1 hf1 hl1 hs1 hp1) (jL (kS hN3 hv3 hd3 hc3) kW hs2) hb2 hf2 hl2 hs2 rfl) ?_
 rintro σ H Q ⟨p,S,ρ,s,ev,h⟩
 unfold oS at h;split at h
 .rename_i k v q1 q2 q3
  unfold xU at h;split at h
  .rename_i n kvs
   split at h
   .rename_i hc
    obtain⟨⟨k',rfl⟩,hl,hll⟩:=hc;obtain⟨x1,ex,rx⟩:=ev.at_ i _ q1;obtain⟨x2,ey,rk⟩:=ev.at_ j _ q2;obtain⟨x3,ez,rv⟩:=ev.at_ l _ q3;obtain⟨a,ea,rfl⟩:=rx;have rk:aI X.K p.c H (cE n k') x2:=rk;have rv:aI X.K p.c H v x3:=rv;obtain⟨b,rfl⟩:=Em rk;obtain⟨bs,d,nd,wf,lz,lat⟩:=s.obj 0 a _ ea rfl;obtain⟨rs,dw,rr⟩:=vZ d;have hz:=hU;have lb:bs.length=kvs.length:=by rw[<-lz,am]
    have mA:a∈p.f:=cu ea;have fl:p.f=[a]:=by
     have:=s.len
     match e:p.f,this with
     |[u],_=>
      rw[e]at ea;cases ea;rfl
    have wa:p.w a:=s.sub a mA;refine⟨_,ex,by obtain⟨ys,ep,e,_⟩:=dw;exact⟨a,_,_,rfl,e⟩,_,ey,?_⟩;refine⟨by show 0<=sizeLine;exact cy _,λt ht=>?_⟩;have na:a≠t:=λz=>by
     obtain⟨ys,ep,e,_⟩:=dw;rw[z,ht]at e;cases e
    have sm1:dD H (aK H t (.lst [])):=gF ht;have dw1:jI (aK H t (.lst [])) a n (kvs.map (·.1)) rs (bs.map cq):=by
     obtain⟨ys,ep,e,z⟩:=dw;exact⟨ys,ep,sm1 _ _ e,z⟩
    have st1:bI p H p (aK H t (.lst [])):=s.same sm1;refine⟨a,b,t,p.c,n,k',_,rs,bs,rfl,rfl,dw1,st1.reps rr,st1.rep rk,by omega,λi' l' hi hl'=>?_,λes ep hno dw2=>?_⟩
    ·--there already
     have wl:=wf l' (cu hl');obtain⟨i2,hi2⟩:=sK hi;obtain⟨w,hw⟩:=kO hi2;have ei:i2=i':=by
      obtain⟨xs,_,_,_,_,ndx,ek,_⟩:=dw;have g1:(kvs.map (·.1))[i2]?=some (cE n k'):=by rw[av,hw];rfl
      rw[ek,av]at g1 hi;cases z1:xs[i2]? with
      |none=>rw[z1]at g1;cases g1
      |some x1=>
       cases z2:xs[i']? with
       |none=>rw[z2]at hi;cases hi
       |some x2=>
        rw[z1]at g1;rw[z2]at hi;have e1:x1.1=k':=lM (ce g1);have e2:x2.1=k':=lM (ce hi);exact qj ndx (p:=x1.2) (q:=x2.2) (k:=k') (by rw[z1,<-e1]) (by rw[z2,<-e2])
     subst ei;obtain⟨ws,g1,g2,g3⟩:=lat i2 w l' (by rw[av,hw];rfl) hl';have hwl:w.length<16777216:=hll _ (cu hw);have nt:l'≠t:=λz=>by rw[z,ht]at g1;cases g1
     have g1':aK H t (.lst []) l'=some (.lst ws):=by rw[bH nt];exact g1
     refine⟨.inl ⟨rfl,ws,bS.of g1'⟩,_,ez,l',ws,x3,rfl,rfl,g1',by rw[<-g3.length];omega,?_⟩;have st2:bI p H p (aK (aK H t (.lst [])) l' (.lst (ws++[x3]))):=⟨s.wc,s.mu,jg,λ_ h=>h,λ_ h=>h,λ_ h g=>absurd h g,λ_ h g=>absurd h g,λ_ h g=>absurd h g,λc o e nw=>by
      rw[bH (λz:c=l'=>nw (z▸wl.1))];exact sm1 c o e⟩
     have nal:a≠l':=λz=>wl.2 (z▸mA);have ek:lC kvs (cE n k') v=kvs.set i2 (cE n k',w++[v]):=by unfold lC;rw[hi2];simp[hw]
     have hik:i2<kvs.length:=(bo.mp hw).1;have e1:(kvs.set i2 (cE n k',w++[v])).map (·.1)=kvs.map (·.1):=by
      rw[ue];refine jc λt=>?_;rw[uc];split
      .rename_i ht
       subst ht;rw[if_pos (by rw[am];exact hik),av,hw];rfl
      .rfl
     refine h p _ .non st2 ⟨s.nd,s.len,s.sub,s.wc,λc hc=>?_,λk2 c o f1 f2=>?_⟩ (by unfold bX aI;rfl)
     .by_cases z:c=l'
      .rw[z,dR]
       exact⟨_,rfl,trivial⟩
      .rw[bH z]
       obtain⟨o,ho,mo⟩:=s.mu c hc;exact⟨o,sm1 c o ho,mo⟩
     .have ek2:k2=0:=by
       have:=(bo.mp f2).1;simpa using this
      subst ek2;rw[ea]at f1;cases f1;cases f2;rw[ek];refine⟨bs,?_,nd,wf,by rw[am,fg];exact lb.symm,λi3 xs c f1 f2=>?_⟩
      .rw[e1]
       obtain⟨ys,ep,e,z1,z2,z3,z4,z5,z6⟩:=dw1;exact jI.at_ (rs:=rs) ⟨ys,ep,by rw[bH nal];exact e,z1,z2,z3,z4,z5,z6⟩ (st2.reps rr)
      .rw[av]at f1
       by_cases h3:i2=i3
       .subst h3
        rw[dr hik]at f1;cases f1;rw[hl']at f2;cases f2;exact⟨ws++[x3],dR,by rw[bi,<-g3.length];show w.length+1<=sizeLine;omega,(st2.reps g3).append (.cons (st2.rep rv) .nil)⟩
       .rw[fe h3,<-av]at f1
        obtain⟨us,j1,j2,j3⟩:=lat i3 xs c f1 f2;have ncl:c≠l':=λz=>h3 (nodup_idx nd hl' (z▸f2));exact⟨us,by rw[bH ncl];exact sm1 _ _ j1,j2,st2.reps j3⟩
    ·--new
     have gt:aK (aK H t (.lst [])) a (dO a es ep) t=some (.lst []):=by rw[bH (ik na),dR]
     refine⟨.inl ⟨rfl,[],bS.of gt⟩,_,ez,t,[],x3,rfl,rfl,gt,by show 0<sizeLine;omega,?_⟩;have nct:¬p.c t:=λc=>s.notin ht c;have nwt:¬p.w t:=λc=>nct (s.wc t c);have nft:t∉p.f:=λc=>nwt (s.sub t c);have ei:gO kvs (cE n k')=none:=by
      cases z0:gO kvs (cE n k')with
      |none=>rfl
      |some i=>
       obtain⟨w,hw'⟩:=kO z0;exact absurd (by rw[av,hw'];rfl) (hno i)
     have ek:lC kvs (cE n k') v=kvs++[(cE n k',[v])]:=by unfold lC;rw[ei]
     have st2:bI p H (p.res t) (aK (aK (aK H t (.lst [])) a (dO a es ep)) t (.lst ([]++[x3]))):=by
      refine⟨s.wc,s.mu,jg,λ_ h=>.inl h,λ_ h=>.inl h,λ_ h g=>absurd h g,λc h g=>?_,λc h g=>?_,λc o e nw=>?_⟩
      .rcases h with h |h
       .exact absurd h g
       .rw[h];exact ht
      .rcases h with h |h
       .exact absurd h g
       .rw[h];exact ht
      .rw[bH (fW e ht),bH (λz:c=a=>nw (z▸wa))]
       exact sm1 c o e
     refine h (p.res t) _ .non st2 ⟨s.nd,s.len,λc hc=>.inl (s.sub c hc),λc hc=>hc.elim (λz=>.inl (s.wc c z)) .inr,λc hc=>?_,λk2 c o f1 f2=>?_⟩ (by unfold bX aI;rfl)
     .by_cases z:c=t
      .rw[z,dR]
       exact⟨_,rfl,trivial⟩
      .rw[bH z]
       rcases hc with hc |hc
       .by_cases z2:c=a
        .rw[z2,dR]
         exact⟨_,rfl,trivial⟩
        .rw[bH z2]
         obtain⟨o,ho,mo⟩:=s.mu c hc;exact⟨o,sm1 c o ho,mo⟩
       .exact absurd hc z
     .have ek2:k2=0:=by
       have:=(bo.mp f2).1;simpa using this
      subst ek2;have f1:p.f[0]?=some c:=f1;rw[ea]at f1;cases f1;cases f2;rw[ek];have nb:∀b∈bs,b≠t:=λb hb z=>nwt (z▸(wf b hb).1);refine⟨bs++[t],?_,?_,λc hc=>?_,by rw[am,bi,bi,lb];rfl,λi3 xs c f1 f2=>?_⟩
      .rw[df]
       obtain⟨ys,ep',e,z1,z2,z3,z4,z5,z6⟩:=dw2;exact jI.at_ (rs:=rs++[.ref b]) ⟨ys,ep',by rw[bH na];exact e,z1,z2,z3,z4,z5,z6⟩ ((st2.reps rr).append (.cons (st2.rep rk) .nil))
      .rw[mf]
       exact⟨nd,by simp,λx hx y hy z=>nb x hx (by rw[z];simpa using hy)⟩
      .rcases cj.mp hc with z |z
       .exact⟨.inl (wf c z).1,(wf c z).2⟩
       .have:c=t:=by simpa using z
        subst this;exact⟨.inr rfl,nft⟩
      .rw[df]at f1
       by_cases hi:i3<bs.length
       .rw[ff hi]at f2
        rw[ff (by rw[am];omega)]at f1;obtain⟨us,j1,j2,j3⟩:=lat i3 xs c f1 f2;have mc:=cu f2;exact⟨us,by rw[bH (nb c mc),bH (λz:c=a=>(wf c mc).2 (z▸mA))];exact sm1 _ _ j1,j2,st2.reps j3⟩
       .have hi':i3=bs.length:=by
         have:=(bo.mp f2).1;rw[bi]at this;have:i3<bs.length+1:=this;omega
        subst hi';rw[dg (aj _),fx]at f2;have e0:(kvs.map (·.2)).length=bs.length:=lz;rw[<-e0,dg (aj _),fx]at f1;cases f1;cases f2;exact⟨[]++[x3],dR,by show 1<=sizeLine;omega,.cons (st2.rep rv) .nil⟩
   .exact h.elim
  .exact h.elim
 .exact h.elim
end
end
open PySem PySem.Spec PyProof.Rows Bn
open Classical in
noncomputable def sF(d k:AV)(S:aG):Option AH:=match d,k with
 |.ref j,.pv k=>(match S[j]? with
  |some (.dol n kvs)=>if lD n k then gK kvs k else none
  |_=>none)
 |_,_=>none
noncomputable def rV(f:FM)(md mk:ME):ME:=λρ S=>(md ρ S).bind λd S1=>(mk ρ S1).bind λk S2=>match sF d k S2 with
 |some xs=>(match f [.pv (.lst xs)] []with
  |.ok (.pv v) _=>if lF v=true then .ok (.pv v) S2 else .fail
  |_=>.fail)
 |none=>.fail
section
variable{K:ag}{cl:Str->Addr}{E:XK}{X:Cx}{p q:Ph}{H H':Hp}{S:aG}{a b e o i v:ah}{es:List ah}{m md mk mv:ME}{ms:MA}{pos:ai}
theorem Ai:∀bs:List Addr,aX (bs.map V.ref) (bs.map cq)
 |[]=>.nil
 |_::r=>.cons rfl (Ai r)
theorem J6(s:aT K p S H){j:Nat}{a:Addr}{n:Bool}{kvs:List (PV×AH)}{k:PV}{y:V}{Q:V->Prop}{N:Prop}(ej:p.f[j]?=some a)(z:S[j]?=some (.dol n kvs))(hk:lD n k)(ry:aI K p.c H k y)
  (q:∀xs b ws,gK kvs k=some xs->H b=some (.lst ws)->ws.length<=sizeLine->aJ K p.c H xs ws->Q (.ref b))(qn:gK kvs k=none->N):∃b vs,y=.ref b/\nR K H a b vs Q N:=by
 obtain⟨k',rfl⟩:=hk;obtain⟨bs,d,ndb,wf,lz,lat⟩:=s.obj j a _ ej z;obtain⟨b,rfl⟩:=Em ry;have nd:∀i j:Nat,(kvs.map (·.1))[i]?=some (cE n k')->(kvs.map (·.1))[j]?=some (cE n k')->i=j:=by
  obtain⟨xs,ep,_,_,_,nd,ek,_⟩:=d;intro i j h1 h2;rw[ek,av]at h1 h2;cases z1:xs[i]? with
  |none=>rw[z1]at h1;cases h1
  |some x=>
   cases z2:xs[j]? with
   |none=>rw[z2]at h2;cases h2
   |some y=>
    rw[z1]at h1;rw[z2]at h2;have e1:x.1=k':=lM (ce h1);have e2:y.1=k':=lM (ce h2);exact qj nd (p:=x.2) (q:=y.2) (k:=k') (by rw[z1,<-e1]) (by rw[z2,<-e2])
 refine⟨b,bs.map V.ref,rfl,p.c,n,k',_,_,d,Ai bs,ry,λi x h1 h2=>?_,λhn=>qn ?_⟩
 .obtain⟨j',hj⟩:=sK h1
  obtain⟨v,hv⟩:=kO hj;have ei:j'=i:=nd j' i (by rw[av,hv];rfl) h1;subst ei;rw[av]at h2;cases hb:bs[j']? with
  |none=>rw[hb]at h2;cases h2
  |some b'=>
   rw[hb]at h2;cases h2;obtain⟨ws,g1,g2,g3⟩:=lat j' v b' (by rw[av,hv];rfl) hb;exact q v b' ws (by unfold gK;rw[hj];simp[hv]) g1 g2 g3
 .cases z:gO kvs (cE n k')with
  |none=>unfold gK;rw[z]
  |some i=>
   obtain⟨v,hv⟩:=kO z;exact absurd (by rw[av,hv];rfl) (hn i)
theorem aay{g:FM}{k k0:Nat}{ps:List Str}{x:Str}{px p2:ai}(hu:X.A.units+8<cLine)(C:tL X.prog X.w X.K X.mg X.base cl x k ps g)(hr:dP k0 X.A)(hk:k<=k0)(hg:Gl X x)(ha:aM X.K cl E X a md)(hb:aM X.K cl E X b mk)(hs:rN b:=by intro _ _;rfl)(hdb:(x==("__debug__":Str))=false:=by decide)(he:starEach [.Subscript a b p2] X.env=(false,eval (.Subscript a b p2) X.env)::starEach [] X.env:=by rfl)(hpl:(backTo pos (starEach [] X.env)).any (·.1)=false:=by rfl):
  aM X.K cl E X (.Call (.Name x px) [.Subscript a b p2] [] pos) (rV g md mk):=by
 obtain⟨fa,d,G,bd,kk,n⟩:=C;intro hK;refine PE.imp (rR G (hr.mono hk) hg n kk bd .nil sM (jL (wP (Qn (by omega)) (ha rfl) (hb rfl) hs) kW he) hdb he hpl) ?_
 rintro σ H Q ⟨p,S,ρ,s,ev,h⟩
 refine bW s ev h λq H1 dd x S1 st s1 e1 r1 h1=>bW s1 e1 h1 λq2 H2 kv y S2 st2 s2 e2 r2 h2=>?_;have r1:=st2.repA r1;cases z:sF dd kv S2 with
 |none=>simp only[z]at h2;exact h2.elim
 |some xs=>
  simp only[z]at h2;cases dd with
  |pv _=>cases kv<;>cases z
  |ref j=>
   cases kv with
   |ref _=>cases z
   |pv kp=>
    obtain⟨a,ej,rfl⟩:=r1;have r2:aI X.K q2.c H2 kp y:=r2;unfold sF at z;dsimp only at z;split at z
    .rename_i nn kvs hS
     split at z
     .rename_i hkk
      have key:∀b ws,H2 b=some (.lst ws)->ws.length<=sizeLine->aJ X.K q2.c H2 xs ws->jD X.K cl g [V.ref b] H2 Q E0:=λb ws g1 g2 g3=>by
       refine⟨Ph.none,[],[.pv (.lst xs)],Wj,.cons ?_ .nil,?_⟩
       .show aI X.K (λ_=>False) H2 (.lst xs) (.ref b)
        unfold aI;exact⟨b,ws,rfl,.inl ⟨g1,λz=>z⟩,g2,mL (λ_ h=>h.elim) g3⟩
       .cases y:g [.pv (.lst xs)] []with
        |fail=>simp only[y]at h2;exact h2.elim
        |exc n S'=>simp only[y]at h2;exact h2.elim
        |ok w S'=>
         cases w with
         |ref j=>simp only[y]at h2;exact h2.elim
         |pv w=>
          simp only[y]at h2
          by_cases hn:lF w=true
          .rw[if_pos hn]at h2
           intro q' H' x' st' sm' r';have same:dD H2 H':=λa o e=>st'.keep a o e λz=>z;exact bR.same (R:=bX X.K) h2 s2 same (Sa r' hn)
          .rw[if_neg hn]at h2
           exact h2.elim
      obtain⟨b,vs,ey,gg⟩:=J6 (Q:=λv=>jD X.K cl g [v] H2 Q E0) (N:=False) s2 ej hS hkk r2 (λxs' b ws e g1 g2 g3=>by
       rw[z]at e;cases e;exact key b ws g1 g2 g3) (λe=>by rw[z]at e;cases e)
      exact⟨a,b,vs,rfl,ey,gg⟩
     .cases z
    .cases z
end
theorem Fz{K:ag}{cl:Str->Addr}{E:XK}{X:Cx}{st:List Stmt}:gG K cl E X st (λ_ _=>.fail):=λ_ AL s σ H D I ⟨_,_,_,_,_,h⟩=>h.elim
end L2.Pp
namespace L2
theorem aaQ(K:ag):kl K (.type "int") (.type "tuple")=some false:=by
 unfold kl i7;rw[if_neg (by decide)];show(if i8 "tuple"=true then i9 K (.type "int") (.type "tuple")else none)=some false;rw[if_pos (by decide+kernel)];show(PySem.fastBuiltinMro "int").map (·.contains (.type "tuple"))=some false;decide+kernel
end L2
namespace L2.Pp
open PySem PySem.Spec PyProof.Rows Bn
def oM:PV->AI
 |.int _=>some (.bl false)
 |.tup _=>some (.bl true)
 |_=>none
section
variable{K:ag}{cl:Str->Addr}{E:XK}{X:Cx}{a:ah}{m:ME}{pos:ai}
theorem aa5:tO K (Vd K "tuple") oM:=λ{p S H a c x Q} s ra e k=>by
 have fin:∀b,c=.bl b->Q (.bl b) H:=λb h=>by
  subst h;exact k H _ (dD.refl H) (by unfold aI;rfl)
 cases a with
 |int i=>
  cases ra.int;cases e;exact .inl ⟨_,false,.int i,aaQ K,fin _ rfl⟩
 |tup xs=>
  obtain⟨a,vs,rfl,t,_,_⟩:=ra.tup;cases e;exact .inr (.inl ⟨rfl,a,vs,rfl,t,fin _ rfl⟩)
 |_=>cases e
theorem R8{t:Str}{p p2:ai}(hg:Gl X "isinstance")(hm:X.mg "isinstance"=none)(hgt:Gl X t)(hmt:X.mg t=none)(hv:bootBuiltins t=some (.type "tuple"))(ha:aM K cl E X a m)
  (htn:t≠"__name__":=by decide)(htd:(t==("__debug__":Str))=false:=by decide)
  (he:starEach [a,.Name t p2] X.env=(false,eval a X.env)::starEach [.Name t p2] X.env:=by rfl)(he2:starEach [.Name t p2] X.env=[(false,eval (.Name t p2) X.env)]:=by rfl)(hpl:(backTo pos (starEach [.Name t p2] X.env)).any (·.1)=false:=by rfl):
  aM K cl E X (.Call (.Name "isinstance" p) [a,.Name t p2] [] pos) (cL oM m):=by
 intro hK;subst hK;refine PE.imp (uY (Di "tuple") hg hm l7 (jL (ha rfl) (jL (Ml hgt hmt hv (v:=.ty "tuple") rfl htn htd) kW he2) he) (by decide) (by decide) he hpl) ?_
 rintro σ H Q ⟨p,S,ρ,s,ev,h⟩
 exact bW s ev h λq H' as x S' cJ sm ev r k=>⟨x,rfl,uO aa5 sm r k⟩
end
theorem aaC:bootBuiltins "len"=some (.builtin "len"):=by decide+kernel
theorem aar:bootBuiltins "abs"=some (.builtin "abs"):=by decide+kernel
theorem aaB:bootBuiltins "all"=some (.builtin "all"):=by decide+kernel
theorem Y4:bootBuiltins "sum"=some (.builtin "sum"):=by decide+kernel
theorem zM:bootBuiltins "sorted"=some (.builtin "sorted"):=by decide+kernel
theorem Bp:bootBuiltins "int"=some (.type "int"):=by decide+kernel
theorem T9:bootBuiltins "bool"=some (.type "bool"):=by decide+kernel
theorem Im:bootBuiltins "list"=some (.type "list"):=by decide+kernel
theorem Cl:bootBuiltins "tuple"=some (.type "tuple"):=by decide+kernel
end L2.Pp
set_option Elab.async false
set_option compiler.extract_closed false
set_option bootstrap.genMatcherCode false
set_option maxRecDepth 100000
set_option maxHeartbeats 4000000
namespace Sc
noncomputable section
open PySem L2 Bn L2.Pp
abbrev Vp:Stmt:=aY 4
abbrev Pi:Stmt:=aY 5
abbrev Vi:Stmt:=aY 6
abbrev Df:Stmt:=aY 7
abbrev rF:Stmt:=aY 8
abbrev Qp:Stmt:=aY 9
abbrev Pm:Stmt:=aY 10
abbrev Af:Stmt:=aY 12
abbrev Gk:Stmt:=aY 13
abbrev Xm:Stmt:=aY 17
abbrev Cm:Stmt:=aY 19
abbrev Kf:Stmt:=aY 20
abbrev Ej:Stmt:=aY 21
abbrev Pf:Stmt:=aY 22
abbrev Uf:Stmt:=aY 23
abbrev Go:Stmt:=aY 25
abbrev Jm:Stmt:=aY 26
abbrev Ko:Stmt:=aY 27
abbrev Ih:Stmt:=aY 28
abbrev Zh:Stmt:=aY 29
abbrev Zk:Stmt:=aY 30
abbrev Xn:Stmt:=aY 31
abbrev Op:Stmt:=aY 32
abbrev Yh:Stmt:=aY 33
abbrev So:Stmt:=aY 34
abbrev Pk:Stmt:=aY 35
abbrev Fo:Stmt:=aY 36
abbrev Rm:Stmt:=aY 37
abbrev Mo:Stmt:=aY 38
abbrev Wg:Stmt:=aY 39
abbrev Lj:Stmt:=aY 40
abbrev Sf:Stmt:=aY 42
abbrev Jp:Stmt:=aY 41
abbrev Mn:Stmt:=aY 43
abbrev Wf:Stmt:=aY 44
abbrev Cq:Stmt:=aY 45
abbrev Lg:Stmt:=aY 46
abbrev Pn:Stmt:=aY 47
abbrev Rl:Stmt:=aY 48
abbrev Ni:Stmt:=aY 49
abbrev Wi:Stmt:=aY 50
abbrev Rg:Stmt:=aY 51
abbrev Hf:Stmt:=aY 52
abbrev Ze:Stmt:=aY 53
abbrev Xe:Stmt:=aY 54
abbrev pQ:Stmt:=aY 55
abbrev Tf:Stmt:=aY 56
abbrev nF:Stmt:=aY 57
def Cc:MS:=(aL (cV (bJ (aC eT (aA 0) (mC (.int 0)))) (bF (mC (.int 1))) dZ)
 (aL (cV (bJ (aC kE (aA 0) (mC (.int 0)))) (bF (cL dE (mC (.int 1)))) dZ)
 (bF (mC (.int 0)))))
def pZ:FM:=aV 1 1 Cc
def zS:MS:=(aL (lQ (bJ (aC gC (aA 1) (mC (.int 0)))) (aL (bA 2 (aC fP (aA 0) (aA 1)))
 (aL (bA 0 (aA 1))
 (bA 1 (aA 2)))))
 (bF (mR oV (aB (aA 0) aD))))
def pN:FM:=aV 2 3 zS
def zU:MS:=(aL (bA 1 (mC (.int 0)))
 (aL (cG (bV (aA 0)) (gN 2) (bA 1 (aU pN [] (aB (aA 1) (aB (aA 2) aD)))))
 (bF (bQ ["number"] [(1,"common")] (bV (aA 0)) (gN 0) (aC fX (aA 0) (aA 1))))))
def uM:FM:=aV 1 3 zU
def yL:MS:=(aL (bA 1 (aC aE (jY ["number"] [] (bV (aA 0)) (gN 0) (bJ (aC gC (aA 0) (mC (.int 0)))) (aA 0)) (mC (.int 0))))
 (bF (mR iI (aB (bQ ["number"] [(1,"first")] (bV (aU uM [] (aB (aA 0) aD))) (gN 0) (aC aW (aU pZ [] (aB (aA 1) aD)) (aA 0))) aD))))
def rA:FM:=aV 1 2 yL
def zF:MS:=(aL (cV (bJ (aC dJ (aA 1) (mC (.int 0)))) (Bc "NoNumber") dZ)
 (aL (bA 2 (aC aW (aU pZ [] (aB (aA 1) aD)) (aU pN [] (aB (aA 0) (aB (aA 1) aD)))))
 (bF (mN eR (aB (aC fX (aA 0) (aA 2)) (aB (aC fX (aA 1) (aA 2)) aD))))))
def nV:FM:=aV 2 3 zF
def Xb:MS:=(bF (oQ nV [] (aB (aC aH (aC aW (aC aE (aA 0) (mC (.int 0))) (aC aE (aA 1) (mC (.int 1)))) (aC aW (aC aE (aA 1) (mC (.int 0))) (aC aE (aA 0) (mC (.int 1))))) (aB (aC aW (aC aE (aA 0) (mC (.int 1))) (aC aE (aA 1) (mC (.int 1)))) aD))))
def oF:FM:=aV 2 2 Xb
def Qa:MS:=(aL (lQ (bJ (aC eT (mR cY (aB (aA 0) aD)) (mC (.int 1)))) (aL (bA 1 (bQ ["one","other"] [] (gA (aB (lW (aA 0) dX dX (2)) (aB (lW (aA 0) (eY (mC (.int 1))) dX (2)) aD))) (gT 2 (bO (gN 0) (bO (gN 1) cU))) (aU oF [] (aB (aA 0) (aB (aA 1) aD)))))
 (bA 0 (aC aH (aA 1) (fV (aA 0) (eY (aC aW (mC (.int 2)) (mR cY (aB (aA 1) aD)))) dX)))))
 (bF (tI (tG (aA 0)) (aC aE (aA 0) (mC (.int 0))) (mN eR (aB (mC (.int 0)) (aB (mC (.int 1)) aD))))))
def rO:FM:=aV 1 2 Qa
def yG:MS:=(bF (bQ ["near","far"] [(0,"start"),(1,"end")] (gA (aB (fV (aA 0) dX (eY (cL dE (mC (.int 1))))) (aB (fV (aA 1) dX (eY (cL dE (mC (.int 1))))) aD))) (gT 2 (bO (gN 0) (bO (gN 1) cU))) (aC eM (aC aW (aA 1) (aC aE (aA 2) (cL dE (mC (.int 1))))) (aC aW (aA 0) (aC aE (aA 3) (cL dE (mC (.int 1))))))))
def qZ:FM:=aV 2 2 yG
def La:MS:=(aL (bA 1 (aC aE (aA 0) (mC (.int 0))))
 (aL (cV (bJ (aC dJ (mR cY (aB (aA 0) aD)) (mC (.int 1)))) (bF (mN fS (aB (cL dE (aC aE (aA 1) (mC (.int 1)))) (aB (aC aE (aA 1) (mC (.int 0))) aD)))) dZ)
 (aL (bA 2 (aC aE (aA 0) (mC (.int 1))))
 (bF (mN fS (aB (aC eM (aC aW (aC aE (aA 1) (mC (.int 1))) (aC aE (aA 2) (mC (.int 2)))) (aC aW (aC aE (aA 1) (mC (.int 2))) (aC aE (aA 2) (mC (.int 1))))) (aB (aC eM (aC aW (aC aE (aA 1) (mC (.int 2))) (aC aE (aA 2) (mC (.int 0)))) (aC aW (aC aE (aA 1) (mC (.int 0))) (aC aE (aA 2) (mC (.int 2))))) (aB (aC eM (aC aW (aC aE (aA 1) (mC (.int 0))) (aC aE (aA 2) (mC (.int 1)))) (aC aW (aC aE (aA 1) (mC (.int 1))) (aC aE (aA 2) (mC (.int 0))))) aD))))))))
def uS:FM:=aV 1 3 La
def Ib:MS:=(aL (bA 1 (tI (bJ (aC dJ (mR cY (aB (aA 0) aD)) (mC (.int 3)))) (mC (.tup [.tup [.int 0,.int 1],.tup [.int 1,.int 2],.tup [.int 2,.int 0]])) (mC (.tup [.tup [.int 1,.int 2,.int 3],.tup [.int 0,.int 3,.int 2],.tup [.int 0,.int 1,.int 3],.tup [.int 0,.int 2,.int 1]]))))
 (bF (bQ ["wall"] [(0,"piece")] (bV (aA 1)) (gN 0) (mR iI (aB (bQ ["k"] [(1,"piece")] (bV (aA 0)) (gN 0) (aC aE (aA 1) (aA 0))) aD)))))
def oE:FM:=aV 1 2 Ib
def Nb:MS:=(aL (bA 2 (aU rA [] (aB (aA 0) aD)))
 (aL (bA 3 (aC aE (jY ["k"] [(2,"way")] (dL (aB (mR cY (aB (aA 2) aD)) aD)) (gN 0) (bJ (aC gC (aC aE (aA 1) (aA 0)) (mC (.int 0)))) (aA 0)) (mC (.int 0))))
 (bF (mN eR (aB (aA 2) (aB (oQ nV [] (aB (aC aE (aA 0) (aA 3)) (aB (aC aW (aC aE (aA 2) (aA 3)) (aA 1)) aD))) aD))))))
def vC:FM:=aV 2 4 Nb
def yJ:MS:=(aL (bA 1 (aC aE (aA 0) (mC (.int 0))))
 (aL (bA 2 (aU uS [] (aB (bQ ["p"] [(1,"first")] (bV (fV (aA 0) (eY (mC (.int 1))) dX)) (gN 0) (aU qZ [] (aB (aA 1) (aB (aA 0) aD)))) aD)))
 (bF (aU vC [] (aB (aA 2) (aB (aC aW (aC aW (aC aW (aC aW (mC (.int 2)) (aC aE (aA 1) (cL dE (mC (.int 1))))) (aC aE (aA 1) (cL dE (mC (.int 1))))) (aC aE (aC aE (aA 0) (mC (.int 1))) (cL dE (mC (.int 1))))) (aC aE (aC aE (aA 0) (mC (.int 2))) (cL dE (mC (.int 1))))) aD))))))
def nT:FM:=aV 1 3 yJ
def Da:MS:=(aL (bA 1 (wD false))
 (aL (cG (bV (aA 0)) (gT 2 (bO (gN 2) (bO (gN 3) cU))) (dH (oS 1 2 3)))
 (aL (bA 4 (bQ ["key"] [(1,"parts")] (bV (wF (aB (aA 1) aD))) (gN 0) (mN eR (aB (aA 0) (aB (rV rO (aA 1) (aA 0)) aD)))))
 (bF (mR iI (aB (jY ["row"] [] (bV (aA 4)) (gN 0) (bJ (aC gC (aC aE (aA 0) (mC (.int 1))) (mN eR (aB (mC (.int 0)) (aB (mC (.int 1)) aD))))) (aA 0)) aD))))))
def uU:FM:=aV 1 5 Da
def yR:MS:=(aL (bA 1 (fE aD))
 (aL (cG (bV (aA 0)) (gN 2) (nC 1 (aU oE [] (aB (aA 2) aD))))
 (bF (aA 1))))
def tX:FM:=aV 1 3 yR
def yQ:MS:=(bF (vN uU (aB (bQ ["wall"] [] (bV (aU tX [] (aB (aA 0) aD))) (gN 0) (aU nT [] (aB (aA 0) aD))) aD)))
def nU:FM:=aV 1 1 yQ
def Wb:MS:=(aL (bA 1 (fE aD))
 (aL (cG (wJ (aB (fV (aA 0) dX (eY (mC (.int 63)))) aD)) (gT 2 (bO (gN 2) (bO (gN 3) cU))) (cV (bJ (aC qT (aA 3) (aC gW (mC (.int 10)) (mC (.int 18))))) (dH (dQ (aA 1) (aB (aC eM (aA 3) (aC gW (mC (.int 10)) (mC (.int 18)))) aD))) (aL (bA 4 (aC fP (aC aW (aC aH (aC aH (aC aH (aA 3) (aC aW (aC aW (mC (.int 7)) (aA 2)) (aA 2))) (aC aW (mC (.int 13)) (aA 2))) (mC (.int 5))) (mC (.int 48271))) (mC (.int 2147483647))))
 (aL (bA 5 (aC fP (aC aW (aC aH (aC aH (aC aH (aA 3) (aC aW (aC aW (mC (.int 11)) (aA 2)) (aA 2))) (aC aW (mC (.int 17)) (aA 2))) (mC (.int 3))) (mC (.int 40692))) (mC (.int 2147483399))))
 (aL (bA 6 (aC fP (aC aW (aC aH (aC aH (aC aH (aA 3) (aC aW (aC aW (mC (.int 5)) (aA 2)) (aA 2))) (aC aW (mC (.int 29)) (aA 2))) (mC (.int 8))) (mC (.int 39373))) (mC (.int 2147483587))))
 (aL (bA 4 (aC fP (aC aW (aA 4) (mC (.int 52021))) (mC (.int 1000000007))))
 (aL (bA 5 (aC fP (aC aW (aA 5) (mC (.int 30011))) (mC (.int 998244353))))
 (aL (bA 6 (aC fP (aC aW (aA 6) (mC (.int 45989))) (mC (.int 1000000009))))
 (dH (dQ (aA 1) (aB (aC aH (aC aW (aC aH (aC aW (aA 4) (mC (.int 998244353))) (aA 5)) (mC (.int 1000000009))) (aA 6)) aD)))))))))))
 (bF (aA 1))))
def sD:FM:=aV 1 7 Wb
def vJ:MS:=(aL (lQ (jE (bJ (aC eT (mR cY (aB (aA 0) aD)) (mC (.int 0)))) (bJ (aC dJ (aC aE (aA 0) (mC (.int 0))) (mC (.int 0))))) (dH (nH (aA 0) (aB (mC (.int 0)) aD))))
 (aL (cV (bJ (aC dJ (mR cY (aB (aA 0) aD)) (mC (.int 0)))) (bF (mC (.int 0))) dZ)
 (aL (bA 2 (aC fP (aC aE (aA 0) (mC (.int 0))) (aA 1)))
 (aL (oI (aA 0) (mC (.int 0)) (aC fX (aC aE (aA 0) (mC (.int 0))) (aA 1)))
 (bF (aA 2))))))
def dN:FM:=aV 2 3 vJ
def Zb:MS:=(aL (bA 0 (mR oV (aB (aA 0) aD)))
 (aL (bA 1 (mR oV (aB (aA 1) aD)))
 (aL (lQ (bJ (aC eT (aA 1) (mC (.int 0)))) (sZ 0 1 (aB (aA 1) (aB (aC fP (aA 0) (aA 1)) aD))))
 (bF (aA 0)))))
def rY:FM:=aV 2 2 Zb
def zV:MS:=(aL (bA 1 (mC (.int 0)))
 (aL (cG (bV (aA 0)) (gN 2) (bA 1 (aU rY [] (aB (aA 1) (aB (aA 2) aD)))))
 (aL (cV (bJ (aC dJ (aA 1) (mC (.int 0)))) (bF (mR iI (aB (aA 0) aD))) dZ)
 (bF (mR iI (aB (bQ ["_law_number"] [(1,"_law_by")] (bV (aA 0)) (gN 0) (aC fX (aA 0) (aA 1))) aD))))))
def jU:FM:=aV 1 3 zV
def zJ:MS:=(aL (bA 1 (aU jU [] (aB (aA 0) aD)))
 (aL (cG (bV (aA 1)) (gN 2) (aL (cV (bJ (aC eT (aA 2) (mC (.int 0)))) (bF (aA 1)) dZ)
 (cV (bJ (aC kE (aA 2) (mC (.int 0)))) (bF (mR iI (aB (bQ ["_law_one"] [] (bV (aA 1)) (gN 0) (aC eM (mC (.int 0)) (aA 0))) aD))) dZ)))
 (bF (aA 1))))
def pM:FM:=aV 1 3 zJ
def Ma:MS:=(bF (qG (cL (jQ "int") (aA 0)) (cL sY (cL (jQ "bool") (aA 0)))))
def uV:FM:=aV 1 1 Ma
def Ta:MS:=(aL (cV (bJ (aC kE (aA 1) (mC (.int 0)))) (bF (aU jU [] (aB (mN fS (aB (aC eM (mC (.int 0)) (aA 0)) (aB (aC eM (mC (.int 0)) (aA 1)) aD))) aD))) dZ)
 (bF (aU jU [] (aB (mN fS (aB (aA 0) (aB (aA 1) aD))) aD))))
def mS:FM:=aV 2 2 Ta
def Rc:MS:=(bF (aU mS [] (aB (aC aH (aC aW (aC aE (aA 0) (mC (.int 0))) (aC aE (aA 1) (mC (.int 1)))) (aC aW (aC aE (aA 1) (mC (.int 0))) (aC aE (aA 0) (mC (.int 1))))) (aB (aC aW (aC aE (aA 0) (mC (.int 1))) (aC aE (aA 1) (mC (.int 1)))) aD))))
def sL:FM:=aV 2 2 Rc
def zK:MS:=(aL (bA 3 (bQ ["_law_k"] [(2,"_law_way"),(1,"_law_q"),(0,"_law_p")] (dL (aB (aC eM (mR cY (aB (aA 0) aD)) (mC (.int 1))) aD)) (gN 0) (aC aH (aC aW (aC aW (aA 1) (aC aE (aA 3) (aA 0))) (aC aE (aA 2) (cL dE (mC (.int 1))))) (aC aW (aC aE (aA 2) (aA 0)) (aC aE (aA 3) (cL dE (mC (.int 1))))))))
 (bF (aU jU [] (aB (aC aH (aA 3) (mN fS (aB (aC aW (aC aE (aA 0) (cL dE (mC (.int 1)))) (aC aE (aA 1) (cL dE (mC (.int 1))))) aD))) aD))))
def mM:FM:=aV 3 4 zK
def Dc:MS:=(bF (bQ ["_law_k"] [(1,"_law_q"),(0,"_law_p")] (dL (aB (aC eM (mR cY (aB (aA 0) aD)) (mC (.int 1))) aD)) (gN 0) (aC eM (aC aW (aC aE (aA 1) (aA 0)) (aC aE (aA 2) (cL dE (mC (.int 1))))) (aC aW (aC aE (aA 2) (aA 0)) (aC aE (aA 1) (cL dE (mC (.int 1))))))))
def mV:FM:=aV 2 2 Dc
def Ia:MS:=(aL (bA 2 (aC eM (aC aW (aC aE (aA 0) (mC (.int 1))) (aC aE (aA 1) (mC (.int 2)))) (aC aW (aC aE (aA 0) (mC (.int 2))) (aC aE (aA 1) (mC (.int 1))))))
 (aL (bA 3 (aC eM (aC aW (aC aE (aA 0) (mC (.int 2))) (aC aE (aA 1) (mC (.int 0)))) (aC aW (aC aE (aA 0) (mC (.int 0))) (aC aE (aA 1) (mC (.int 2))))))
 (aL (bA 4 (aC eM (aC aW (aC aE (aA 0) (mC (.int 0))) (aC aE (aA 1) (mC (.int 1)))) (aC aW (aC aE (aA 0) (mC (.int 1))) (aC aE (aA 1) (mC (.int 0))))))
 (bF (mN fS (aB (aA 2) (aB (aA 3) (aB (aA 4) aD))))))))
def rK:FM:=aV 2 5 Ia
def Pc:MS:=(bF (mR qS (aB (bQ ["_law_one","_law_other"] [] (gA (aB (aA 0) (aB (aA 1) aD))) (gT 2 (bO (gN 0) (bO (gN 1) cU))) (aC aW (aA 0) (aA 1))) aD)))
def vO:FM:=aV 2 2 Pc
def pU:MS:=(aL (cV (bJ (aC dJ (mR cY (aB (aA 0) aD)) (mC (.int 2)))) (bF (aC eM (aC aW (aC aE (aC aE (aA 0) (mC (.int 0))) (mC (.int 0))) (aC aE (aC aE (aA 0) (mC (.int 1))) (mC (.int 1)))) (aC aW (aC aE (aC aE (aA 0) (mC (.int 0))) (mC (.int 1))) (aC aE (aC aE (aA 0) (mC (.int 1))) (mC (.int 0)))))) dZ)
 (bF (aU vO [] (aB (aU rK [] (aB (aC aE (aA 0) (mC (.int 0))) (aB (aC aE (aA 0) (mC (.int 1))) aD))) (aB (aC aE (aA 0) (mC (.int 2))) aD)))))
def jW:FM:=aV 1 1 pU
def wG:MS:=(bF (aU jW [] (aB (bQ ["_law_p"] [(0,"_law_points")] (bV (fV (aA 0) (eY (mC (.int 1))) dX)) (gN 0) (aU mV [] (aB (aC aE (aA 1) (mC (.int 0))) (aB (aA 0) aD)))) aD)))
def oJ:FM:=aV 1 1 wG
def uE:MS:=(aL (bA 1 (mR rQ (aB (aA 0) aD)))
 (aL (cV (bJ (aC kE (aU oJ [] (aB (aA 1) aD)) (mC (.int 0)))) (bA 1 (aC aH (fV (aA 1) dX (eY (cL dE (mC (.int 2))))) (mN fS (aB (aC aE (aA 1) (cL dE (mC (.int 1)))) (aB (aC aE (aA 1) (cL dE (mC (.int 2)))) aD))))) dZ)
 (bF (mR iI (aB (aA 1) aD)))))
def nX:FM:=aV 1 2 uE
def Ja:MS:=(aL (lE (gT 4 (bO (gN 1) (bO (gN 2) (bO (gN 3) (bO (gN 4) cU))))) (aA 0))
 (bF (mN fS (aB (mN eR (aB (aA 2) (aB (aA 3) (aB (aA 4) aD)))) (aB (mN eR (aB (aA 1) (aB (aA 4) (aB (aA 3) aD)))) (aB (mN eR (aB (aA 1) (aB (aA 2) (aB (aA 4) aD)))) (aB (mN eR (aB (aA 1) (aB (aA 3) (aB (aA 2) aD)))) aD)))))))
def kP:FM:=aV 1 5 Ja
def tV:MS:=(bF (aU jW [] (aB (bQ ["_law_corner"] [(0,"_law_corners")] (bV (fV (aA 0) (eY (mC (.int 1))) dX)) (gN 0) (bQ ["_law_b","_law_c"] [] (gA (aB (aC aE (aA 1) (mC (.int 0))) (aB (aA 0) aD))) (gT 2 (bO (gN 0) (bO (gN 1) cU))) (aC eM (aA 1) (aA 0)))) aD)))
def mK:FM:=aV 1 1 tV
def Vb:MS:=(aL (bA 3 (fE aD))
 (aL (cG (dL (aB (aC aH (aA 1) (mC (.int 1))) aD)) (gN 4) (dH (dQ (aA 3) (aB (bQ ["_law_m"] [(0,"_law_row_here"),(2,"_law_wide")] (dL (aB (aA 1) aD)) (gN 0) (aU dN [] (aB (aA 1) (aB (aC aH (aA 2) (mC (.int 1))) aD)))) aD))))
 (aL (cV (bJ (aC gC (aU mK [] (aB (aA 3) aD)) (mC (.int 0)))) (bF (aA 3)) dZ)
 (bF (bQ ["_law_k"] [(1,"_law_dims")] (mQ (aB (cL dE (mC (.int 1))) (aB (aA 1) aD))) (gN 0) (bQ ["_law_m"] [(0,"_law_k")] (dL (aB (aA 1) aD)) (gN 0) (mR iP (aB (aC dJ (aA 0) (aA 1)) aD))))))))
def kU:FM:=aV 3 5 Vb
def vI:MS:=(aL (bA 1 (fE (aB (mC (.int 0)) (aB (mC (.int 1)) (aB (mC (.int 2)) aD)))))
 (aL (bA 2 (fE (aB (mC (.int 0)) (aB (mC (.int 0)) (aB (mC (.int 0)) aD)))))
 (aL (bA 3 (tF (aB (aA 2) aD)))
 (aL (cG (dL (aB (mC (.int 3)) aD)) (gN 4) (aL (oI (aA 2) (nH (aA 1) (aB (aU dN [] (aB (aA 0) (aB (mR cY (aB (aA 1) aD)) aD))) aD)) (mC (.int 1)))
 (dH (sU (aA 3) (aB (aA 2) aD)))))
 (aL (cG (dL (aB (mC (.int 3)) aD)) (gN 5) (cV (bJ (aC dJ (aU dN [] (aB (aA 0) (aB (mC (.int 4)) aD))) (mC (.int 3)))) (oP 3 2 5) dZ))
 (bF (aA 3)))))))
def pS:FM:=oZ 1 6 vI
def yP:MS:=(aL (bA 3 (fE aD))
 (aL (cG (dL (aB (aU dN [] (aB (aA 0) (aB (aC aH (aA 2) (mC (.int 1))) aD))) aD)) (gN 4) (aL (bA 5 (aU dN [] (aB (aA 0) (aB (mC (.int 6)) aD))))
 (cV (jE (bJ (aC dJ (aA 5) (mC (.int 5)))) (bJ (aC eT (mR cY (aB (aA 3) aD)) (mC (.int 0))))) (dH (dQ (aA 3) (aB (aC aE (aA 3) (cL dE (mC (.int 1)))) aD))) (cV (bJ (aC dJ (aA 1) (mC (.int 2)))) (dH (dQ (aA 3) (aB (aU kU [] (aB (aA 0) (aB (mC (.int 2)) (aB (aC aH (mC (.int 1)) (mR iP (aB (aC dJ (aA 5) (mC (.int 4))) aD))) aD)))) aD))) (cV (bJ (aC eT (aA 5) (mC (.int 3)))) (dH (dQ (aA 3) (aB (aU kU [] (aB (aA 0) (aB (mC (.int 3)) (aB (mC (.int 1)) aD)))) aD))) (dH (dQ (aA 3) (aB (aU pS [] (aB (aA 0) aD)) aD))))))))
 (bF (aA 3))))
def rD:FM:=aV 3 6 yP
def Qc:MS:=(aL (bA 2 (aU dN [] (aB (aA 0) (aB (mC (.int 4)) aD))))
 (aL (bA 3 (aC aE (mN fS (aB (mC (.int 0)) (aB (mC (.int 3)) (aB (mC (.int 9)) (aB (aC gW (mC (.int 10)) (mC (.int 12))) aD))))) (aA 2)))
 (aL (bA 4 (aC aH (mC (.int 1)) (aC aW (aU dN [] (aB (aA 0) (aB (mC (.int 9)) aD))) (aC fX (aA 2) (mC (.int 2))))))
 (aL (bA 5 (bQ ["_law_k"] [(3,"_law_wide"),(0,"_law_row_here")] (dL (aB (aA 1) aD)) (gN 0) (aC eM (aU dN [] (aB (aA 2) (aB (aC aH (aC aW (mC (.int 2)) (aA 1)) (mC (.int 1))) aD))) (aA 1))))
 (bF (aU jU [] (aB (aC aH (aA 5) (mN fS (aB (aA 4) aD))) aD)))))))
def mZ:FM:=aV 2 6 Qc
def yW:MS:=(aL (bA 2 (fE aD))
 (aL (cG (dL (aB (aA 1) aD)) (gN 3) (aL (bA 4 (aU dN [] (aB (aA 0) (aB (mC (.int 3)) aD))))
 (dH (dQ (aA 2) (aB (aU mS [] (aB (aC aH (mC (.int 1)) (aU dN [] (aB (aA 0) (aB (aC aE (mN fS (aB (mC (.int 1)) (aB (mC (.int 7)) (aB (aC gW (mC (.int 10)) (mC (.int 9))) aD)))) (aA 4)) aD)))) (aB (aC aH (mC (.int 1)) (aU dN [] (aB (aA 0) (aB (aC aE (mN fS (aB (mC (.int 1)) (aB (mC (.int 7)) (aB (aC gW (mC (.int 10)) (mC (.int 6))) aD)))) (aA 4)) aD)))) aD))) aD)))))
 (bF (aA 2))))
def uB:FM:=aV 2 5 yW
def vL:MS:=(aL (bA 2 (mC (.int 1)))
 (aL (cG (bV (aA 1)) (gN 3) (bA 2 (aC aW (aA 2) (aC aE (aA 3) (mC (.int 1))))))
 (aL (bA 4 (bQ ["_law_number","_law_part"] [(2,"_law_under")] (gA (aB (aA 0) (aB (aA 1) aD))) (gT 2 (bO (gN 0) (bO (gN 1) cU))) (aC aW (aC aW (aA 0) (aC aE (aA 1) (mC (.int 0)))) (aC fX (aA 2) (aC aE (aA 1) (mC (.int 1)))))))
 (bF (aU jU [] (aB (aC aH (aA 4) (mN fS (aB (aA 2) aD))) aD))))))
def oC:FM:=aV 2 5 vL
def Lb:MS:=(aL (bA 3 (fE aD))
 (aL (cG (bV (aA 1)) (gN 4) (aL (bA 5 (aU mZ [] (aB (aA 0) (aB (mR cY (aB (aA 2) aD)) aD))))
 (dH (dQ (aA 3) (aB (aU nX [] (aB (bQ ["_law_corner"] [(5,"_law_far_here"),(2,"_law_stretch_here")] (bV (aA 4)) (gN 0) (aU mM [] (aB (aU oC [] (aB (aA 0) (aB (aA 2) aD))) (aB (aA 1) (aB (mC (.int 1)) aD))))) aD)) aD)))))
 (bF (aA 3))))
def vG:FM:=aV 3 6 Lb
def uN:MS:=(aL (cV (bJ (aC dJ (aU dN [] (aB (aA 0) (aB (mC (.int 2)) aD))) (mC (.int 1)))) (bF (mR iI (aB (aA 1) aD))) dZ)
 (bF (mR mU (aB (aA 1) aD))))
def pH:FM:=aV 2 2 uN
def zN:MS:=(aL (bA 1 (aU pM [] (aB (aA 0) aD)))
 (aL (cG (gA (aB (aA 0) (aB (aA 1) aD))) (gT 2 (bO (gN 2) (bO (gN 3) cU))) (cV (bJ (aC gC (aA 3) (mC (.int 0)))) (bF (mN eR (aB (aA 1) (aB (aC fX (aA 2) (aA 3)) aD)))) dZ))
 (bF (mN eR (aB (aA 1) (aB (mC (.int 0)) aD))))))
def rJ:FM:=aV 1 4 zN
def zA:MS:=(wZ (aA 0) (aA 1) (aU sL [] (aB (xB (aA 0) (aB (aA 1) (aB (mN eR (aB (mC (.int 0)) (aB (mC (.int 1)) aD))) aD))) (aB (aA 2) aD))))
def pF:FM:=aV 3 3 zA
def yK:MS:=(bF (mR iI (aB (jY ["_law_key"] [(0,"_law_table")] (bV (mR sJ (aB (wX (aB (aA 0) aD)) aD))) (gN 0) (bJ (aC gC (aC aE (nI (aA 1) (aA 0)) (mC (.int 0))) (mC (.int 0)))) (mN eR (aB (aA 0) (aB (nI (aA 1) (aA 0)) aD)))) aD)))
def tT:FM:=aV 1 1 yK
def yH:MS:=(aL (lE (gT 3 (bO (gN 1) (bO (gN 2) (bO (gN 3) cU)))) (aA 0))
 (aL (lE (gT 2 (bO (gN 4) (bO (gN 5) cU))) (aU rJ [] (aB (aU rK [] (aB (aU mV [] (aB (aA 1) (aB (aA 2) aD))) (aB (aU mV [] (aB (aA 1) (aB (aA 3) aD))) aD))) aD)))
 (bF (mN eR (aB (aA 4) (aB (aU mS [] (aB (aA 5) (aB (aC aW (aC aW (aC aW (aC aW (mC (.int 2)) (aC aE (aA 1) (mC (.int 3)))) (aC aE (aA 2) (mC (.int 3)))) (aC aE (aA 1) (mC (.int 3)))) (aC aE (aA 3) (mC (.int 3)))) aD))) aD))))))
def nS:FM:=aV 1 6 yH
def yI:MS:=(aL (bA 1 (sO false))
 (aL (cG (bV (aA 0)) (gN 2) (cG (bV (aU kP [] (aB (aA 2) aD))) (gN 3) (aL (lE (gT 2 (bO (gN 4) (bO (gN 5) cU))) (aU nS [] (aB (aA 3) aD)))
 (dH (aU pF [] (aB (aA 1) (aB (aA 4) (aB (aA 5) aD))))))))
 (bF (aA 1))))
def tR:FM:=aV 1 6 yI
def jV(r:FM):MS:=(aL (cV (bJ (cL oM (aA 1))) (aL (cV (tN (sX (bJ (cL oM (aA 0)))) (bJ (aC gC (mR cY (aB (aA 0) aD)) (mR cY (aB (aA 1) aD))))) (bF (mC (.bl false))) dZ)
 (bF (mR qI (aB (bQ ["_law_one","_law_other"] [] (gA (aB (aA 0) (aB (aA 1) aD))) (gT 2 (bO (gN 0) (bO (gN 1) cU))) (aU r [] (aB (aA 0) (aB (aA 1) aD)))) aD)))) dZ)
 (bF (qG (aU uV [] (aB (aA 0) aD)) (aC dJ (aA 0) (aA 1)))))
def Jg:FM:=aV 2 2 λ_ _=>.fail
def tZ:FM:=aV 2 2 (jV Jg)
def zH:FM:=aV 2 2 (jV tZ)
def yY:FM:=aV 2 2 (jV zH)
def oA:FM:=aV 2 2 (jV yY)
def tW:MS:=(aL (cV (bJ (aC dJ (mR cY (aB (aA 1) aD)) (mC (.int 0)))) (bF (mN fS aD)) dZ)
 (bF (aU vG [] (aB (aA 0) (aB (aA 1) (aB (aU uB [] (aB (aA 0) (aB (aC eM (mR cY (aB (aC aE (aA 1) (mC (.int 0))) aD)) (mC (.int 1))) aD))) aD))))))
def rC:FM:=aV 2 2 tW
def Ad:MS:=(aL (bA 1 (pW sD [] (aB (aA 0) aD)))
 (aL (bA 2 (aU rC [] (aB (aA 1) (aB (aU rD [] (aB (aA 1) (aB (mC (.int 3)) (aB (mC (.int 4)) aD)))) aD))))
 (aL (bA 3 (aU tT [] (aB (pW tR [] (aB (aA 2) aD)) aD)))
 (aL (cV (sX (bJ (aU oA [] (aB (aU nU [] (aB (aU pH [] (aB (aA 1) (aB (aA 2) aD))) aD)) (aB (aA 3) aD))))) (bF (mC (.bl false))) dZ)
 (bF (qG (aU oA [] (aB (aU nU [] (aB (mR iI (aB (lW (aA 2) dX dX (-1)) aD)) aD)) (aB (aA 3) aD))) (aU oA [] (aB (aU nU [] (aB (mN fS aD) aD)) (aB (mN eR aD) aD)))))))))
def Ld:FM:=aV 1 4 Ad
abbrev Hb(B:Bx):=cD B "sign" 1 ["number"] pZ
abbrev zB(B:Bx):=cD B "divisor" 1 ["one","other"] pN
abbrev Dg(B:Bx):=cD B "reduced" 2 ["numbers"] uM
abbrev Ye(B:Bx):=cD B "lowest_way" 3 ["numbers"] rA
abbrev yO(B:Bx):=CxB B "fraction" 2 ["top","bottom"] nV
abbrev Tm(B:Bx):=cD B "plus" 3 ["one","other"] oF
abbrev Kl(B:Bx):=cD B "total" 4 ["parts"] rO
abbrev Se(B:Bx):=cD B "whole_arrow" 1 ["start","end"] qZ
abbrev Wh(B:Bx):=cD B "normal" 1 ["arrows"] uS
abbrev Uk(B:Bx):=cD B "walls" 1 ["piece"] oE
abbrev Kj(B:Bx):=cD B "along" 4 ["numbers","bottom"] vC
abbrev Ve(B:Bx):=cD B "wall_share" 5 ["wall"] nT
abbrev Ki(B:Bx):=cD B "summed" 5 ["rows"] uU
abbrev Ef(B:Bx):=cD B "all_walls" 2 ["heap"] tX
abbrev Bf(B:Bx):=cD B "wall_sums" 6 ["heap"] nU
abbrev Tl(B:Bx):=cD B "_law_row" 1 ["_law_script"] sD
abbrev nZ(B:Bx):=cD B "_law_take" 1 ["_law_row_here","_law_many"] dN
abbrev Ul(B:Bx):=cD B "_law_gcd" 1 ["_law_one","_law_other"] rY
abbrev pD(B:Bx):=cD B "_law_lowest" 2 ["_law_numbers"] jU
abbrev Hg(B:Bx):=cD B "_law_upward" 3 ["_law_numbers"] pM
abbrev rH(B:Bx):=cD B "_law_whole" 1 ["_law_number"] uV
abbrev uT(B:Bx):=cD B "_law_frac" 3 ["_law_top","_law_bottom"] mS
abbrev Jn(B:Bx):=cD B "_law_sum" 4 ["_law_one","_law_other"] sL
abbrev Pg(B:Bx):=cD B "_law_joined" 3 ["_law_p","_law_q","_law_way"] mM
abbrev Qb(B:Bx):=cD B "_law_gap" 1 ["_law_p","_law_q"] mV
abbrev zR(B:Bx):=cD B "_law_cross" 1 ["_law_u","_law_v"] rK
abbrev Yn(B:Bx):=cD B "_law_dot" 1 ["_law_u","_law_v"] vO
abbrev Ea(B:Bx):=cD B "_law_turn" 2 ["_law_ways"] jW
abbrev Zm(B:Bx):=cD B "_law_det" 3 ["_law_points"] oJ
abbrev Of(B:Bx):=cD B "_law_simplex" 4 ["_law_points"] nX
abbrev Oh(B:Bx):=cD B "_law_shuts" 1 ["_law_points"] kP
abbrev Cf(B:Bx):=cD B "_law_raw_turn" 3 ["_law_corners"] mK
abbrev Nm(B:Bx):=cD B "_law_raw" 4 ["_law_row_here","_law_dims","_law_wide"] kU
abbrev Hl(B:Bx):=cD B "_law_kuhn" 2 ["_law_row_here"] pS
abbrev Mf(B:Bx):=cD B "_law_raw_heap" 5 ["_law_row_here","_law_dims","_law_many"] rD
abbrev An(B:Bx):=cD B "_law_far" 3 ["_law_row_here","_law_dims"] mZ
abbrev Vf(B:Bx):=cD B "_law_stretch" 4 ["_law_row_here","_law_dims"] uB
abbrev Bk(B:Bx):=cD B "_law_spot" 3 ["_law_corner","_law_stretch_here"] oC
abbrev Dl(B:Bx):=cD B "_law_laid" 5 ["_law_row_here","_law_heap","_law_stretch_here"] vG
abbrev Og(B:Bx):=cD B "_law_handed" 2 ["_law_row_here","_law_rows"] pH
abbrev Qg(B:Bx):=cD B "_law_way_of" 4 ["_law_numbers"] rJ
abbrev Cg(B:Bx):=cD B "_law_put_sum" 5 ["_law_table","_law_key","_law_part"] pF
abbrev Ue(B:Bx):=cD B "_law_told_sums" 1 ["_law_table"] tT
abbrev Qe(B:Bx):=cD B "_law_shut_share" 5 ["_law_shut"] nS
abbrev Re(B:Bx):=cD B "_law_shut_table" 6 ["_law_heap"] tR
abbrev Lw(B:Bx):=cD B "_law_alike" 5 ["_law_told","_law_due"] oA
abbrev Nf(B:Bx):=cD B "_law_wide_far" 6 ["_law_row_here","_law_heap"] rC
structure Mg(mg:Str->AE):Prop where
 m_abs:mg "abs"=none
 m_all:mg "all"=none
 m_bool:mg "bool"=none
 m_enumerate:mg "enumerate"=none
 m_int:mg "int"=none
 m_isinstance:mg "isinstance"=none
 m_len:mg "len"=none
 m_list:mg "list"=none
 m_range:mg "range"=none
 m_sorted:mg "sorted"=none
 m_sum:mg "sum"=none
 m_tuple:mg "tuple"=none
 m_zip:mg "zip"=none
set_option hygiene false
local macro_rules | `(tactic|trivial)=> `(tactic|(first
 |(with_reducible show aM _ _ _ _ _ (oS _ _ _));exact Y9 (mH hr) rfl rfl rfl
 |(with_reducible show aM _ _ _ _ _ (cL oM _));refine R8 rfl m.m_isinstance rfl m.m_tuple Cl ?_
 |(with_reducible show aM _ _ _ _ _ (wD _));exact A1 _
 |(with_reducible show aM _ _ _ _ _ (wF _));refine A8 rfl rfl m.m_sorted zM ?_
 |(with_reducible show aM _ _ _ _ _ (rV _ _ _));refine aay (mH hr) (by assumption) hr (by decide) rfl ?_ ?_
 |(with_reducible show aM _ _ _ _ _ (mR sJ _));refine pP Qv U5 rfl m.m_sorted zM ?_
 |(with_reducible show eF _ _ _ _ _ aD);exact O1
 |(with_reducible show eF _ _ _ _ _ (aB _ _));refine F7 ?_ ?_
 |(with_reducible show aM _ _ _ _ _ (aA _));exact aac _
 |(with_reducible show aM _ _ _ _ _ (mC (.int _)));(first |exact Z4 |exact Hn rfl (by assumption))
 |(with_reducible show aM _ _ _ _ _ (mC (.bl _)));exact ab1
 |(with_reducible show aM _ _ _ _ _ (mC (.tup _)));exact Hn rfl (by assumption)
 |(with_reducible show aM _ _ _ _ _ (cL dE _));refine abn Np ab0 ?_
 |(with_reducible show aM _ _ _ _ _ (cL sY _));refine aat ?_
 |(with_reducible show aM _ _ _ _ _ (aC aH _ _));refine qD K6 abo ?_ ?_
 |(with_reducible show aM _ _ _ _ _ (aC eM _ _));refine qD Qo ab6 ?_ ?_
 |(with_reducible show aM _ _ _ _ _ (aC aW _ _));refine qD N7 aca ?_ ?_
 |(with_reducible show aM _ _ _ _ _ (aC fX _ _));refine qD Fy aab ?_ ?_
 |(with_reducible show aM _ _ _ _ _ (aC fP _ _));refine qD P8 abF ?_ ?_
 |(with_reducible show aM _ _ _ _ _ (aC gW _ _));refine qD Z9 abC ?_ ?_
 |(with_reducible show aM _ _ _ _ _ (aC aE _ _));refine abU ?_ ?_
 |(with_reducible show aM _ _ _ _ _ (aC dJ _ _));refine sE (Gq (mH hr)) Vr ?_ ?_ (kT _)
 |(with_reducible show aM _ _ _ _ _ (aC gC _ _));refine sE (Cp (mH hr)) Rr ?_ ?_ (kT _)
 |(with_reducible show aM _ _ _ _ _ (aC kE _ _));refine sE Hq Qr ?_ ?_ (kT _)
 |(with_reducible show aM _ _ _ _ _ (aC eT _ _));refine sE Er Zr ?_ ?_ (kT _)
 |(with_reducible show aM _ _ _ _ _ (aC qT _ _));refine sE Tq Pr ?_ ?_ (kT _)
 |(with_reducible show fH _ _ _ _ _ (bJ (aC dJ _ _)));refine rT (Gq (mH hr)) Vr ?_ ?_ (kT _)
 |(with_reducible show fH _ _ _ _ _ (bJ (aC gC _ _)));refine rT (Cp (mH hr)) Rr ?_ ?_ (kT _)
 |(with_reducible show fH _ _ _ _ _ (bJ (aC kE _ _)));refine rT Hq Qr ?_ ?_ (kT _)
 |(with_reducible show fH _ _ _ _ _ (bJ (aC eT _ _)));refine rT Er Zr ?_ ?_ (kT _)
 |(with_reducible show fH _ _ _ _ _ (bJ (aC qT _ _)));refine rT Tq Pr ?_ ?_ (kT _)
 |(with_reducible show fH _ _ _ _ _ (bJ _));refine P0 ?_
 |(with_reducible show fH _ _ _ _ _ (tG _));refine L0 ?_
 |(with_reducible show fH _ _ _ _ _ (sX _));refine K0 ?_
 |(with_reducible show fH _ _ _ _ _ (jE _ _));refine jJ.pt ?_
 |(with_reducible show fH _ _ _ _ _ (tN _ _));refine jJ.pt ?_
 |(with_reducible show jJ _ _ _ _ _ (jE _ _));refine V9 ?_ ?_
 |(with_reducible show jJ _ _ _ _ _ (tN _ _));refine aaq ?_ ?_
 |(with_reducible show jJ _ _ _ _ _ _);(first |refine A5 ?_ |refine W4 ?_)
 |(with_reducible show aM _ _ _ _ _ (qG _ _));refine aaV ?_ ?_
 |(with_reducible show aM _ _ _ _ _ (tI _ _ _));refine ab7 ?_ ?_ ?_
 |(with_reducible show aM _ _ _ _ _ (mN eR _));refine aaI ?_
 |(with_reducible show aM _ _ _ _ _ (mN fS _));refine aak ?_
 |(with_reducible show aM _ _ _ _ _ (fE _));refine S6 ?_
 |(with_reducible show aM _ _ _ _ _ (lW _ _ _ _));(first |refine Bo ?_ ?_ ?_ Q1 (by decide) |refine Bo ?_ ?_ ?_ aba (by decide))
 |(with_reducible show aM _ _ _ _ _ (fV _ _ _));refine abA ?_ ?_ ?_
 |(with_reducible show nP _ _ _ _ _ dX);exact D4
 |(with_reducible show nP _ _ _ _ _ (eY _));refine Hy ?_
 |(with_reducible show aM _ _ _ _ _ (xB _ _));refine P4 (mH hr) ?_ ?_
 |(with_reducible show aM _ _ _ _ _ (nI _ _));refine aas (mH hr) ?_ ?_
 |(with_reducible show aM _ _ _ _ _ (sO _));exact O6 _
 |(with_reducible show aM _ _ _ _ _ (wX _));refine N5 rfl rfl m.m_list Im ?_
 |(with_reducible show aM _ _ _ _ _ (sU _ _));refine Q0 rfl rfl m.m_list ?_ ?_
 |(with_reducible show aM _ _ _ _ _ (tF _));refine aaY rfl rfl m.m_list ?_
 |(with_reducible show aM _ _ _ _ _ (dQ _ _));refine Ww ?_ ?_
 |(with_reducible show aM _ _ _ _ _ (nH _ _));refine aa4 ?_ ?_
 |(with_reducible show aM _ _ _ _ _ (vN _ _));refine ab4 (by assumption) hr (by decide) rfl ?_
 |(with_reducible show aM _ _ _ _ _ (oQ _ [] _));refine ab8 (by assumption) hr (by decide) rfl ?_
 |(with_reducible show aM _ _ _ _ _ (aU _ [] _));refine abj (by assumption) hr (by decide) rfl ?_
 |(with_reducible show aM _ _ _ _ _ (pW _ [] _));refine abi (by assumption) hr (by decide) rfl ?_
 |(with_reducible show aM _ _ _ _ _ (cL (jQ "int") _));refine Ao (n:="int") rfl m.m_isinstance rfl m.m_int Bp ?_
 |(with_reducible show aM _ _ _ _ _ (cL (jQ "bool") _));refine Ao (n:="bool") rfl m.m_isinstance rfl m.m_bool T9 ?_
 |(with_reducible show aM _ _ _ _ _ (mR cY _));refine pP Ot abS rfl m.m_len aaC ?_
 |(with_reducible show aM _ _ _ _ _ (mR oV _));refine pP E6 abJ rfl m.m_abs aar ?_
 |(with_reducible show aM _ _ _ _ _ (mR qI _));refine pP (Zz rfl) abf rfl m.m_all aaB ?_
 |(with_reducible show aM _ _ _ _ _ (mR iI _));refine zL Dt M3 rfl m.m_tuple Cl ?_
 |(with_reducible show aM _ _ _ _ _ (mR mU _));refine zL yN T6 rfl m.m_list Im ?_
 |(with_reducible show aM _ _ _ _ _ (mR iP _));refine zL Gw aby rfl m.m_int Bp ?_
 |(with_reducible show aM _ _ _ _ _ (mR qS _));refine pP (Cw rfl) abR rfl m.m_sum Y4 ?_
 |(with_reducible show aM _ _ _ _ _ (mR rQ _));refine pP Xu abb rfl m.m_sorted zM ?_
 |(with_reducible show aM _ _ _ _ _ (bQ _ _ _ _ _));(first |refine Q6 (by first |exact Fd |exact Ec |exact Yb) ?_ rfl (λ_ _ _ _=> ?_) (λ_ _ _ _=> ?_) |refine B8 Y6 ?_ rfl (λ_ _ _ _=> ?_) (λ_ _ _ _=> ?_))
 |(with_reducible show aM _ _ _ _ _ (jY _ _ _ _ _ _));refine Bz (by first |exact Fd |exact Ec |exact Yb) ?_ rfl (λ_ _ _ _=> ?_) (λ_ _ _ _=> ?_) (λ_ _ _ _=> ?_)
 |(with_reducible show PIp _ _ _ _ _ _ (gA _));refine O3 rfl m.m_zip ?_
 |(with_reducible show PIp _ _ _ _ _ _ (wJ _));refine Ey rfl m.m_enumerate ?_
 |(with_reducible show PIp _ _ _ _ _ _ (dL _));refine Bv rfl m.m_range ?_
 |(with_reducible show PIp _ _ _ _ _ _ (mQ _));refine Cv rfl m.m_range ?_
 |(with_reducible show PIp _ _ _ _ _ _ (bV _));refine K2 ?_
 |(with_reducible show kD _ _ _ (gN _));exact C3 (by first |exact nd |(show(cB _ _).Nodup;decide+kernel)) rfl (by first |exact du rfl |exact dh rfl)
 |(with_reducible show kD _ _ _ (gT _ _));refine K4 rfl ?_
 |(with_reducible show qH _ _ _ cU);exact Sz
 |(with_reducible show qH _ _ _ (bO _ _));refine Jw ?_ ?_
 |(with_reducible show gG _ _ _ _ _ dZ);exact Zy
 |(with_reducible show gG _ _ _ _ _ (aL _ _));refine Nw ?_ ?_
 |(with_reducible show gG _ _ _ _ _ _);refine Uz ?_
 |(with_reducible show eA _ _ _ _ _ (bF _));refine Q2 ?_
 |(with_reducible show eA _ _ _ _ _ (cV _ _ _));refine aaM ?_ ?_ ?_
 |(with_reducible show eA _ _ _ _ _ (dH _));refine Xz ?_
 |(with_reducible show eA _ _ _ _ _ (Bc _));exact Iw rfl (by assumption) (by assumption)
 |(with_reducible show eA _ _ _ _ _ (bA _ (bQ _ _ _ _ _)));(first |refine E9 nd rfl (by first |exact du rfl |exact dh rfl) (by first |exact Fd |exact Ec |exact Yb) ?_ rfl (λ_ _ _ _=> ?_) (λ_ _ _ _=> ?_) |refine Km nd rfl (by first |exact du rfl |exact dh rfl) ?_)
 |(with_reducible show eA _ _ _ _ _ (bA _ _));refine Km nd rfl (by first |exact du rfl |exact dh rfl) ?_
 |(with_reducible show eA _ _ _ _ _ (sZ _ _ _));refine V4 rfl nd rfl rfl (by decide) rfl rfl ?_ rfl
 |(with_reducible show eA _ _ _ _ _ (lE _ _));refine M4 ?_ ?_
 |(with_reducible show eA _ _ _ _ _ (wZ _ _ _));refine K7 (mH hr) ?_ ?_ ?_
 |(with_reducible show eA _ _ _ _ _ (oI _ _ _));refine Lx ?_ ?_ ?_
 |(with_reducible show eA _ _ _ _ _ (nC _ _));refine Xy nd rfl (by first |exact du rfl |exact dh rfl) ?_
 |(with_reducible show eA _ _ _ _ _ (lQ _ _));refine Ox (by first |exact yf |exact yg) ?_ ?_
 |(with_reducible show eA _ _ _ _ _ (oP _ _ _));exact O5 (by first |exact yf |exact yg) rfl nd rfl rfl rfl (by first |exact du rfl |exact dh (du rfl)) (by first |exact du rfl |exact dh rfl) (by first |exact du rfl |exact dh (du rfl)) (by decide) (by decide)
 |(with_reducible show eA _ _ _ _ _ (cG _ _ _));refine J3 (by first |exact yf |exact yg) rfl ?_ ?_ ?_)<;>trivial)
set_option hygiene true
section
variable{B:Bx}(X:XG B.K B.mg)(m:Mg B.mg)
include X m
theorem Q5(h:HF B.K "sign" Vp):Hb B:=cK (N:=["number"]) X h cH λnd _ _ _ _ _ _ _ hr=>by unfold Cc;trivial
theorem Mv(h:HF B.K "divisor" Pi):zB B:=cK (N:=["one","other","rest"]) X h cH λnd _ _ _ _ _ _ _ hr=>by unfold zS;trivial
theorem Zu(h:HF B.K "reduced" Vi)(C_divisor:zB B):Dg B:=cK (N:=["numbers","common","number"]) X h cH λnd _ _ _ _ _ _ _ hr=>by unfold zU;trivial
theorem Ft(h:HF B.K "lowest_way" Df)(C_reduced:Dg B)(C_sign:Hb B):Ye B:=cK (N:=["numbers","first"]) X h cH λnd _ _ _ _ _ _ _ hr=>by unfold yL;trivial
theorem Yt{f:Addr}{fd:cf}{dsv:Array Value}(F:nK B.K "fraction" "fraction" rF f fd dsv)(C_sign:Hb B)(C_divisor:zB B)(q_NoNumber:B.mg "NoNumber"=some (.ref (B.cl "NoNumber")))(x_NoNumber:lm B.K (B.cl "NoNumber") rW "ValueError.__new__"=true):eG B.P B.w B.K B.mg B.base (jH B.P B.w) 2 f fd ["top","bottom"] (mF B.K B.cl nV):=acG (N:=["top","bottom","common"]) F cH λnd _ _ _ _ _ _ _ hr=>by unfold zF;trivial
theorem Q4(h:HF B.K "plus" Qp)(H_fraction:yO B):Tm B:=cK (N:=["one","other"]) X h cH λnd _ _ _ _ _ _ _ hr=>by unfold Xb;trivial
theorem E1(h:HF B.K "total" Pm)(C_plus:Tm B):Kl B:=cK (N:=["parts","pairs"]) X h cH λnd _ _ _ _ _ _ _ hr=>by unfold Qa;trivial
theorem Ws(h:HF B.K "whole_arrow" Af):Se B:=cK (N:=["start","end"]) X h cH λnd _ _ _ _ _ _ _ hr=>by unfold yG;trivial
theorem Fx(h:HF B.K "normal" Gk):Wh B:=cK (N:=["arrows","u","v"]) X h cH λnd _ _ _ _ _ _ _ hr=>by unfold La;trivial
theorem Gy(h:HF B.K "walls" Xm)(gt_FLAT_WALLS:tJ B.K B.mg "FLAT_WALLS" (.tup [.tup [.int 0,.int 1],.tup [.int 1,.int 2],.tup [.int 2,.int 0]]))(gt_SPACE_WALLS:tJ B.K B.mg "SPACE_WALLS" (.tup [.tup [.int 1,.int 2,.int 3],.tup [.int 0,.int 3,.int 2],.tup [.int 0,.int 1,.int 3],.tup [.int 0,.int 2,.int 1]])):Uk B:=cK (N:=["piece","order"]) X h cH λnd _ _ _ _ _ _ _ hr=>by unfold Ib;trivial
theorem Vy(h:HF B.K "along" Cm)(C_lowest_way:Ye B)(H_fraction:yO B):Kj B:=cK (N:=["numbers","bottom","way","place"]) X h cH λnd _ _ _ _ _ _ _ hr=>by unfold Nb;trivial
theorem Ys(h:HF B.K "wall_share" Kf)(C_normal:Wh B)(C_whole_arrow:Se B)(C_along:Kj B):Ve B:=cK (N:=["wall","first","arrow"]) X h cH λnd _ _ _ _ _ _ _ hr=>by unfold yJ;trivial
theorem Vw(h:HF B.K "summed" Ej)(C_total:Kl B):Ki B:=cK (N:=["rows","parts","key","share","sums"]) X h cH λnd _ _ _ _ _ _ _ hr=>by unfold Da;trivial
theorem Vt(h:HF B.K "all_walls" Pf)(C_walls:Uk B):Ef B:=cK (N:=["heap","found","piece"]) X h cH λnd _ _ _ _ _ _ _ hr=>by unfold yR;trivial
theorem Ut(h:HF B.K "wall_sums" Uf)(C_summed:Ki B)(C_all_walls:Ef B)(C_wall_share:Ve B):Bf B:=cK (N:=["heap"]) X h cH λnd _ _ _ _ _ _ _ hr=>by unfold yQ;trivial
theorem M8(h:HF B.K "_law_row" Go):Tl B:=cK (N:=["_law_script","_law_row_here","_law_k","_law_cell","_law_one","_law_two","_law_three"]) X h cH λnd _ _ _ _ _ _ _ hr=>by unfold Wb;trivial
theorem B9(h:HF B.K "_law_take" Jm):nZ B:=cK (N:=["_law_row_here","_law_many","_law_found"]) X h cH λnd _ _ _ _ _ _ _ hr=>by unfold vJ;trivial
theorem K5(h:HF B.K "_law_gcd" Ko):Ul B:=cK (N:=["_law_one","_law_other"]) X h cH λnd _ _ _ _ _ _ _ hr=>by unfold Zb;trivial
theorem Tu(h:HF B.K "_law_lowest" Ih)(C_wgcd:Ul B):pD B:=cK (N:=["_law_numbers","_law_by","_law_number"]) X h cH λnd _ _ _ _ _ _ _ hr=>by unfold zV;trivial
theorem Vv(h:HF B.K "_law_upward" Zh)(C_wlowest:pD B):Hg B:=cK (N:=["_law_numbers","_law_told","_law_number"]) X h cH λnd _ _ _ _ _ _ _ hr=>by unfold zJ;trivial
theorem Uw(h:HF B.K "_law_whole" Zk):rH B:=cK (N:=["_law_number"]) X h cH λnd _ _ _ _ _ _ _ hr=>by unfold Ma;trivial
theorem Iz(h:HF B.K "_law_frac" Xn)(C_wlowest:pD B):uT B:=cK (N:=["_law_top","_law_bottom"]) X h cH λnd _ _ _ _ _ _ _ hr=>by unfold Ta;trivial
theorem L9(h:HF B.K "_law_sum" Op)(C_wfrac:uT B):Jn B:=cK (N:=["_law_one","_law_other"]) X h cH λnd _ _ _ _ _ _ _ hr=>by unfold Rc;trivial
theorem Zv(h:HF B.K "_law_joined" Yh)(C_wlowest:pD B):Pg B:=cK (N:=["_law_p","_law_q","_law_way","_law_far_here"]) X h cH λnd _ _ _ _ _ _ _ hr=>by unfold zK;trivial
theorem R3(h:HF B.K "_law_gap" So):Qb B:=cK (N:=["_law_p","_law_q"]) X h cH λnd _ _ _ _ _ _ _ hr=>by unfold Dc;trivial
theorem Ix(h:HF B.K "_law_cross" Pk):zR B:=cK (N:=["_law_u","_law_v","_law_x","_law_y","_law_z"]) X h cH λnd _ _ _ _ _ _ _ hr=>by unfold Ia;trivial
theorem O8(h:HF B.K "_law_dot" Fo):Yn B:=cK (N:=["_law_u","_law_v"]) X h cH λnd _ _ _ _ _ _ _ hr=>by unfold Pc;trivial
theorem G6(h:HF B.K "_law_turn" Rm)(C_wdot:Yn B)(C_wcross:zR B):Ea B:=cK (N:=["_law_ways"]) X h cH λnd _ _ _ _ _ _ _ hr=>by unfold pU;trivial
theorem J4(h:HF B.K "_law_det" Mo)(C_wturn:Ea B)(C_wgap:Qb B):Zm B:=cK (N:=["_law_points"]) X h cH λnd _ _ _ _ _ _ _ hr=>by unfold wG;trivial
theorem Nu(h:HF B.K "_law_simplex" Wg)(C_wdet:Zm B):Of B:=cK (N:=["_law_points","_law_told"]) X h cH λnd _ _ _ _ _ _ _ hr=>by unfold uE;trivial
theorem Px(h:HF B.K "_law_shuts" Lj):Oh B:=cK (N:=["_law_points","_law_p","_law_q","_law_r","_law_s"]) X h cH λnd _ _ _ _ _ _ _ hr=>by unfold Ja;trivial
theorem Kt(h:HF B.K "_law_raw_turn" Sf)(C_wturn:Ea B):Cf B:=cK (N:=["_law_corners"]) X h cH λnd _ _ _ _ _ _ _ hr=>by unfold tV;trivial
theorem N6(h:HF B.K "_law_raw" Jp)(C_wtake:nZ B)(C_wraw_turn:Cf B):Nm B:=cK (N:=["_law_row_here","_law_dims","_law_wide","_law_corners","_law_k"]) X h cH λnd _ _ _ _ _ _ _ hr=>by unfold Vb;trivial
theorem Hz(h:HF B.K "_law_kuhn" Mn)(C_wtake:nZ B):Hl B:=mkL (N:=["_law_row_here","_law_rest","_law_corner","_law_corners","_law_k","_law_m"]) X h cH λnd _ _ _ _ _ _ _ hr=>by unfold vI;trivial
theorem Jt(h:HF B.K "_law_raw_heap" Wf)(C_wtake:nZ B)(C_wraw:Nm B)(C_wkuhn:Hl B):Mf B:=cK (N:=["_law_row_here","_law_dims","_law_many","_law_heap","_law_k","_law_kind"]) X h cH λnd _ _ _ _ _ _ _ hr=>by unfold yP;trivial
theorem V7(h:HF B.K "_law_far" Cq)(C_wtake:nZ B)(C_wlowest:pD B):An B:=cK (N:=["_law_row_here","_law_dims","_law_kind","_law_wide","_law_under","_law_far_here"]) X h cH λnd _ _ _ _ _ _ _ hr=>by unfold Qc;trivial
theorem Fu(h:HF B.K "_law_stretch" Lg)(C_wtake:nZ B)(C_wfrac:uT B):Vf B:=cK (N:=["_law_row_here","_law_dims","_law_told","_law_k","_law_kind"]) X h cH λnd _ _ _ _ _ _ _ hr=>by unfold yW;trivial
theorem F9(h:HF B.K "_law_spot" Pn)(C_wlowest:pD B):Bk B:=cK (N:=["_law_corner","_law_stretch_here","_law_under","_law_part","_law_far_here"]) X h cH λnd _ _ _ _ _ _ _ hr=>by unfold vL;trivial
theorem C8(h:HF B.K "_law_laid" Rl)(C_wfar:An B)(C_wsimplex:Of B)(C_wjoined:Pg B)(C_wspot:Bk B):Dl B:=cK (N:=["_law_row_here","_law_heap","_law_stretch_here","_law_told","_law_corners","_law_far_here"]) X h cH λnd _ _ _ _ _ _ _ hr=>by unfold Lb;trivial
theorem Iv(h:HF B.K "_law_handed" Ni)(C_wtake:nZ B):Og B:=cK (N:=["_law_row_here","_law_rows"]) X h cH λnd _ _ _ _ _ _ _ hr=>by unfold uN;trivial
theorem Aw(h:HF B.K "_law_way_of" Wi)(C_wupward:Hg B):Qg B:=cK (N:=["_law_numbers","_law_way","_law_one","_law_other"]) X h cH λnd _ _ _ _ _ _ _ hr=>by unfold zN;trivial
theorem Qu(h:HF B.K "_law_put_sum" Rg)(C_wsum:Jn B):Cg B:=cK (N:=["_law_table","_law_key","_law_part"]) X h cH λnd _ _ _ _ _ _ _ hr=>by unfold zA;trivial
theorem Bt(h:HF B.K "_law_told_sums" Hf):Ue B:=cK (N:=["_law_table"]) X h cH λnd _ _ _ _ _ _ _ hr=>by unfold yK;trivial
theorem Us(h:HF B.K "_law_shut_share" Ze)(C_wway_of:Qg B)(C_wcross:zR B)(C_wgap:Qb B)(C_wfrac:uT B):Qe B:=cK (N:=["_law_shut","_law_p","_law_q","_law_r","_law_way","_law_many"]) X h cH λnd _ _ _ _ _ _ _ hr=>by unfold yH;trivial
theorem Vs(h:HF B.K "_law_shut_table" Xe)(C_wshuts:Oh B)(C_wshut_share:Qe B)(C_wput_sum:Cg B):Re B:=cK (N:=["_law_heap","_law_table","_law_points","_law_shut","_law_way","_law_share"]) X h cH λnd _ _ _ _ _ _ _ hr=>by unfold yI;trivial
theorem Du(h:HF B.K "_law_alike" pQ):cD B "_law_alike" 1 ["_law_told","_law_due"] Jg:=cK (N:=["_law_told","_law_due"]) X h cH (k:=0) λnd _ _ _ _ _ _ _ hr=>Fz
theorem Eu(h:HF B.K "_law_alike" pQ)(C_wwhole:rH B):cD B "_law_alike" 2 ["_law_told","_law_due"] tZ:=by have C_rec:=Du X m h;exact cK (N:=["_law_told","_law_due"]) (k:=1) X h cH λnd _ _ _ _ _ _ _ hr=>by unfold jV;trivial
theorem Ku(h:HF B.K "_law_alike" pQ)(C_wwhole:rH B):cD B "_law_alike" 3 ["_law_told","_law_due"] zH:=by have C_rec:=Eu X m h C_wwhole;exact cK (N:=["_law_told","_law_due"]) (k:=2) X h cH λnd _ _ _ _ _ _ _ hr=>by unfold jV;trivial
theorem Ru(h:HF B.K "_law_alike" pQ)(C_wwhole:rH B):cD B "_law_alike" 4 ["_law_told","_law_due"] yY:=by have C_rec:=Ku X m h C_wwhole;exact cK (N:=["_law_told","_law_due"]) (k:=3) X h cH λnd _ _ _ _ _ _ _ hr=>by unfold jV;trivial
theorem By(h:HF B.K "_law_alike" pQ)(C_wwhole:rH B):cD B "_law_alike" 5 ["_law_told","_law_due"] oA:=by have C_rec:=Ru X m h C_wwhole;exact cK (N:=["_law_told","_law_due"]) (k:=4) X h cH λnd _ _ _ _ _ _ _ hr=>by unfold jV;trivial
theorem Tt(h:HF B.K "_law_wide_far" Tf)(C_wlaid:Dl B)(C_wstretch:Vf B):Nf B:=cK (N:=["_law_row_here","_law_heap"]) X h cH λnd _ _ _ _ _ _ _ hr=>by unfold tW;trivial
theorem W7{f:Addr}{fd:cf}(F:jR B.K "law" "law" nF f fd)(C_wrow:Tl B)(C_wwide_far:Nf B)(C_wraw_heap:Mf B)(C_wtold_sums:Ue B)(C_wshut_table:Re B)(C_walike:Lw B)(C_wall_sums:Bf B)(C_whanded:Og B):eG B.P B.w B.K B.mg B.base eZ 7 f fd ["_law_script"] (jD B.K B.cl Ld):=mkR (N:=["_law_script","_law_row_here","_law_heap","_law_due"]) F cH λnd _ _ _ _ _ _ _ hr=>by unfold Ad;trivial
end
local macro_rules
 | `(tactic|simp! [$l,*] $[$loc:location]?)=>`(tactic|simp[iW,aL,cV,bJ,sX,jE,tN,qG,acy,tI,aC,cL,mR,mN,aB,aA,mC,aD,bK.bind,sP,kB,nB,Uc,gJ,rd,nE,gY,cY,eR,fS,dE,sY,kL,bZ.of,bF,abG,dZ,dH,bA,mY,kY,aU,oQ,pW,oV,iI,mU,dJ,gC,frz,iZ,$l,*] $[$loc]?)
theorem Gj(S:aG)(k:Nat)(o:SO):(S.set k o).take S.length=S.set k o:=uh (by simp)
def fG(S:aG)(k:Nat)(ns:AA):Prop:=S[k]?=some (.lst (ns.map .int))
theorem fG.lt{S:aG}{k:Nat}{ns:AA}(h:fG S k ns):k<S.length:=(bo.mp h).1
theorem fG.set{S:aG}{k:Nat}{ns:AA}(h:fG S k ns)(ms:AA):fG (S.set k (.lst (ms.map .int))) k ms:=dr h.lt
theorem Ah{r:bT}{k:Nat}{m:AV}:∀(ns:AA)(S:aG),fG S k ns->∃n ns',dM (jE (bJ (aC eT (mR cY (aB (aA 0) aD)) (mC (.int 0)))) (bJ (aC dJ (aC aE (aA 0) (mC (.int 0))) (mC (.int 0))))) (dH (nH (aA 0) (aB (mC (.int 0)) aD))) n (some (.ref k)::some m::r) S=.nx (some (.ref k)::some m::r) (S.set k (.lst (ns'.map .int)))/\ns'.length<=ns.length/\(ns'=[]\/∃i t,ns'=i::t/\i≠0)
 |[],S,h=>by
  refine⟨1,[],?_,aj _,.inl rfl⟩;have h':S[k]?=some (.lst []):=h;have e:S.set k (.lst (([]:AA).map .int))=S:=jc λi=>by
   by_cases q:k=i
   .subst q;rw[dr h.lt,h'];rfl
   .rw[fe q]
  rw[e];simp[dM,jE,bJ,aC,mR,aB,aA,mC,aD,bK.bind,nB,gJ,rd,h',gY,cY,kB,eT,i2,kL,bZ.of]
 |i::t,S,h=>by
  have h':S[k]?=some (.lst (.int i::t.map .int)):=h
  by_cases hi:i=0
  .subst hi
   have hr:fG (S.set k (.lst (t.map .int))) k t:=h.set t;obtain⟨n,ns',e,l,q⟩:=Ah (r:=r) (m:=m) t _ hr;refine⟨n+1,ns',?_,by simp;omega,q⟩;rw[kq]at e;rw[<-e];have hl:(0:Int)<(t.length:Int)+1:=by omega
   simp[dM,jE,bJ,aC,mR,aB,aA,mC,aD,bK.bind,nB,gJ,rd,h',gY,cY,kB,eT,i2,kL,bZ.of,aE,bB,bD,dJ,aN,dH,nH,fB,oN,seqIndex?,hl]
  .refine⟨1,i::t,?_,aj _,.inr ⟨i,t,rfl,hi⟩⟩
   have e:S.set k (.lst ((i::t).map .int))=S:=jc λj=>by
    by_cases q:k=j
    .subst q;rw[dr h.lt,h'];rfl
    .rw[fe q]
   rw[e];have hl:(0:Int)<(t.length:Int)+1:=by omega
   simp[dM,jE,bJ,aC,mR,aB,aA,mC,aD,bK.bind,nB,gJ,rd,h',gY,cY,kB,eT,i2,kL,bZ.of,aE,bB,bD,dJ,aN,hl,hi]
theorem jK{S:aG}{k:Nat}{ns:AA}{m:Int}(h:fG S k ns)(hm:0<m)(b:Bd 8000 m):∃(v:Int)(ns':AA),dN [.ref k,.pv (.int m)] S=.ok (.pv (.int v)) (S.set k (.lst (ns'.map .int)))/\0<=v/\v<m/\ns'.length<=ns.length:=by
 obtain⟨n,ns',e,l,q⟩:=Ah (r:=[none]) (m:=.pv (.int m)) ns S h;have hr:=h.set ns';have hl1:(S.set k (.lst (ns'.map .int))).length=S.length:=by simp
 have hss:∀x,(S.set k (.lst (ns'.map .int))).set k x=S.set k x:=λx=>kq ..;generalize hS1:S.set k (.lst (ns'.map .int))=S1 at e hr hl1 hss;have w:=uF e (by simp);rcases q with rfl |⟨i,t,rfl,hi⟩
 .refine⟨0,[],?_,rq 0,hm,cy _⟩
  rw[hS1];have hr':S1[k]?=some (.lst []):=hr;have tk:List.take S.length S1=S1:=uh (by omega);unfold dN aV vJ;simp[iW,aL,w,cV,bJ,aC,mR,aB,aA,mC,aD,bK.bind,nB,gJ,rd,hr',gY,cY,kB,dJ,aN,kL,bZ.of,bF,mY,kY,tk]
 .have hr':S1[k]?=some (.lst (.int i::t.map .int)):=hr
  refine⟨i.fmod m,i.fdiv m::t,?_,t9 i hm,Int.fmod_lt_of_pos i hm,l⟩;rw[<-hss];have tk:∀x,List.take S.length (S1.set k x)=S1.set k x:=λx=>uh (by simp;omega);have hl:¬((t.length:Int)+1=0):=by omega
  have hq:oR i m:=⟨by omega,b⟩;have hm0:m≠0:=by omega
  unfold dN aV vJ;simp[iW,aL,w,cV,bJ,aC,mR,aB,aA,mC,aD,bK.bind,nB,gJ,rd,hr',gY,cY,kB,dJ,aN,kL,bZ.of,bF,mY,kY,tk,dZ,hl,bA,fP,fX,i2,cI,aE,bB,bD,hm0,hq,oI,fB,qE]
theorem aS(i j:Int):eT (.int i) (.int j)=some (.bl (decide (j<i))):=rfl
theorem aR(i j:Int):kE (.int i) (.int j)=some (.bl (decide (i<j))):=rfl
theorem aP(i j:Int):qT (.int i) (.int j)=some (.bl (decide (j<=i))):=rfl
theorem aQ(i j:Int):fLe (.int i) (.int j)=some (.bl (decide (i<=j))):=rfl
theorem aO(i j:Int):eM (.int i) (.int j)=some (.int (i-j)):=rfl
theorem kQ{i j:Int}(h:oO i j):aW (.int i) (.int j)=some (.int (i*j)):=by
 simp[aW,i2,cI,h]
theorem kN{i j:Int}(h:oR i j):fX (.int i) (.int j)=some (.int (i.fdiv j)):=by
 simp[fX,i2,cI,h]
theorem mT{i j:Int}(h:j≠0):fP (.int i) (.int j)=some (.int (i.fmod j)):=by
 simp[fP,i2,cI,h]
theorem vK{i j:Int}(h:xJ i j):gW (.int i) (.int j)=some (.int (i^j.toNat)):=by
 simp[gW,i2,cI,h]
theorem Om(n:Int)(S:aG):pZ [.pv (.int n)] S=.ok (.pv (.int (sg n))) S:=by
 unfold pZ aV Cc sg
 by_cases h1:0<n
 .simp[iW,aL,cV,bJ,aC,aA,mC,bK.bind,kB,rd,gY,eT,i2,kL,bZ.of,bF,mY,kY,h1]
 .by_cases h2:n<0
  .simp[iW,aL,cV,bJ,aC,aA,mC,bK.bind,kB,rd,gY,eT,kE,i2,kL,bZ.of,bF,mY,kY,h1,h2,dZ,cL,sP,dE]
  .simp[iW,aL,cV,bJ,aC,aA,mC,bK.bind,kB,rd,gY,eT,kE,i2,kL,bZ.of,bF,mY,kY,h1,h2,dZ,cL,sP,dE]
theorem We(S:aG):∀(m:Nat)(a b:Int)(x:AJ),b.natAbs<=m->∃(n:Nat)(g:Int)(x':AJ),dM (bJ (aC gC (aA 1) (mC (.int 0)))) (aL (bA 2 (aC fP (aA 0) (aA 1))) (aL (bA 0 (aA 1)) (bA 1 (aA 2)))) n [some (.pv (.int a)),some (.pv (.int b)),x] S=.nx [some (.pv (.int g)),some (.pv (.int 0)),x'] S/\g.natAbs=bj a b
 |0,a,b,x,h=>by
  have hb:b=0:=by omega
  subst hb;refine⟨1,a,x,?_,by simp⟩;simp! [dM,aE,bB,bD,aN,aS,aR,aP,aQ,aH,aO]
 |m+1,a,b,x,h=>by
  by_cases hb:b=0
  .subst hb
   refine⟨1,a,x,?_,by simp⟩;simp! [dM,aE,bB,bD,aN,aS,aR,aP,aQ,aH,aO]
  .have hl:=Th a hb
   obtain⟨n,g,x',e,q⟩:=We S m b (a.fmod b) (some (.pv (.int (a.fmod b)))) (by omega);refine⟨n+1,g,x',?_,by rw[q,Rj]⟩;rw[<-e];simp! [dM,aE,bB,bD,aN,aS,aR,aP,aQ,aH,aO,mT hb,hb]
theorem Ig(a b:Int)(S:aG):pN [.pv (.int a),.pv (.int b)] S=.ok (.pv (.int (bj a b:Nat))) S:=by
 obtain⟨n,g,x',e,q⟩:=We S b.natAbs a b none (aj _);have w:=uF e (by simp);unfold pN aV zS;have hg:(if g<0 then-g else g)=((bj a b:Nat):Int):=by rw[<-q];exact Mc g
 simp! [aE,bB,bD,aN,aS,aR,aP,aQ,aH,aO,w,hg]
theorem Rh(S:aG):∀(m:Nat)(a b:Int),0<=a->0<=b->b.natAbs<=m->∃(n:Nat),dM (bJ (aC eT (aA 1) (mC (.int 0)))) (sZ 0 1 (aB (aA 1) (aB (aC fP (aA 0) (aA 1)) aD))) n [some (.pv (.int a)),some (.pv (.int b))] S=.nx [some (.pv (.int (bj a b:Nat))),some (.pv (.int 0))] S
 |0,a,b,ha,hb,h=>by
  have hb:b=0:=by omega
  subst hb;have ea:((bj a 0:Nat):Int)=a:=by simp;omega
  refine⟨1,?_⟩;rw[ea];simp! [dM,aE,bB,bD,aN,aS,aR,aP,aQ,aH,aO]
 |m+1,a,b,ha,hb,h=>by
  by_cases h0:b=0
  .subst h0
   have ea:((bj a 0:Nat):Int)=a:=by simp;omega
   refine⟨1,?_⟩;rw[ea];simp! [dM,aE,bB,bD,aN,aS,aR,aP,aQ,aH,aO]
  .have hl:=Th a h0
   have hp:0<b:=by omega
   obtain⟨n,e⟩:=Rh S m b (a.fmod b) hb (t9 a hp) (by omega);refine⟨n+1,?_⟩;rw[<-Rj,<-e];simp! [dM,aE,bB,bD,aN,aS,aR,aP,aQ,aH,aO,mT h0,hp,sZ]
theorem aa0(a b:Int)(S:aG):rY [.pv (.int a),.pv (.int b)] S=.ok (.pv (.int (bj a b:Nat))) S:=by
 have ha:0<=(if a<0 then-a else a):=by split<;>omega
 have hb:0<=(if b<0 then-b else b):=by split<;>omega
 obtain⟨n,e⟩:=Rh S _ _ _ ha hb (aj _);have w:=uF e (by simp);have eg:bj (if a<0 then-a else a) (if b<0 then-b else b)=bj a b:=by
  rw[Mc,Mc];simp[bj]
 rw[eg]at w;unfold rY aV Zb;simp! [aE,bB,bD,aN,aS,aR,aP,aQ,aH,aO,w]
theorem Rk(S:aG)(v2:AJ):∀(ns:AA)(g:Int)(a:AV),∃v',dA [] (gN 2) (bA 1 (aU rY [] (aB (aA 1) (aB (aA 2) aD)))) (ns.map .int) [some a,some (.pv (.int g)),v2] S=.nx [some a,some (.pv (.int (gl ns g))),v'] S
 |[],g,a=>⟨v2,hV⟩
 |n::ns,g,a=>by
  obtain⟨v',e⟩:=Rk S (some (.pv (.int n))) ns (bj g n:Nat) a;refine⟨v',?_⟩;show dA [] _ _ (.int n::ns.map .int) _ S=_;rw[fO];simp! [gN,aE,bB,bD,aN,aS,aR,aP,aQ,aH,aO,aa0];exact e
theorem Ca(S:aG)(g:Int)(hg:g≠0)(b:Bd 8000 g):∀(ns:AA)(x:AJ),cM [] (gN 0) (aC fX (aA 0) (aA 1)) (ns.map .int) [x,some (.pv (.int g))] S=.ok ((ns.map λn=>n.fdiv g).map .int) S
 |[],x=>fA
 |n::ns,x=>by
  have ih:=Ca S g hg b ns (some (.pv (.int n)));show cM [] _ _ (.int n::ns.map .int) _ S=_;rw[fI];simp! [gN,aE,bB,bD,aN,aS,aR,aP,aQ,aH,aO,kN (show oR n g from⟨hg,b⟩),ih]
theorem nY(ns:AA)(S:aG)(hb:∀n∈ns,Bd 8000 n):jU [.pv (.lst (ns.map .int))] S=.ok (.pv (.tup ((low ns).map .int))) S:=by
 obtain⟨v',e⟩:=Rk S none ns 0 (.pv (.lst (ns.map .int)));unfold jU aV zV
 by_cases h:gl ns 0=0
 .have el:low ns=ns:=by unfold low;rw[if_pos h]
  simp! [aE,bB,bD,aN,aS,aR,aP,aQ,aH,aO,cG,bV,cO,e,h,el]
 .have el:low ns=ns.map λn=>n.fdiv (gl ns 0):=by
   unfold low;rw[if_neg h];exact di λn hn=>(ph ((jO ns 0).2 n hn)).symm
  have bg:Bd 8000 (gl ns 0):=Xc (Bd.of (n:=0) (by simp) (ui 8000)) hb;have ec:=Ca S (gl ns 0) h bg ns none;simp! [aE,bB,bD,aN,aS,aR,aP,aQ,aH,aO,cG,bV,cO,e,h,el,bQ,cT,ec]
theorem F5(n:Int)(S:aG):uV [.pv (.int n)] S=.ok (.pv (.bl true)) S:=by
 unfold uV aV Ma;simp! [aE,bB,bD,aN,aS,aR,aP,aQ,aH,aO,jQ]
theorem lS(i:Int){j:Int}(h1:-(2^64)<j)(h2:j<2^64):aW (.int i) (.int j)=some (.int (i*j)):=kQ (.inl (.inr ⟨h1,h2⟩))
theorem Es:gW (.int 10) (.int 18)=some (.int 1000000000000000000):=vK (i:=10) (j:=18) ⟨by decide,by decide,by decide⟩
theorem Ga{k:Nat}{a:AV}:∀(cs:AA)(n:Nat)(acc:AA)(S:aG)(v2 v3 v4 v5 v6:AJ),fG S k acc->acc.length+cs.length<=63->n+cs.length<=63->∃(acc':AA)(w2 w3 w4 w5 w6:AJ),dA [] (gT 2 (bO (gN 2) (bO (gN 3) cU))) ((cV (bJ (aC qT (aA 3) (aC gW (mC (.int 10)) (mC (.int 18))))) (dH (dQ (aA 1) (aB (aC eM (aA 3) (aC gW (mC (.int 10)) (mC (.int 18)))) aD))) (aL (bA 4 (aC fP (aC aW (aC aH (aC aH (aC aH (aA 3) (aC aW (aC aW (mC (.int 7)) (aA 2)) (aA 2))) (aC aW (mC (.int 13)) (aA 2))) (mC (.int 5))) (mC (.int 48271))) (mC (.int 2147483647))))
 (aL (bA 5 (aC fP (aC aW (aC aH (aC aH (aC aH (aA 3) (aC aW (aC aW (mC (.int 11)) (aA 2)) (aA 2))) (aC aW (mC (.int 17)) (aA 2))) (mC (.int 3))) (mC (.int 40692))) (mC (.int 2147483399))))
 (aL (bA 6 (aC fP (aC aW (aC aH (aC aH (aC aH (aA 3) (aC aW (aC aW (mC (.int 5)) (aA 2)) (aA 2))) (aC aW (mC (.int 29)) (aA 2))) (mC (.int 8))) (mC (.int 39373))) (mC (.int 2147483587))))
 (aL (bA 4 (aC fP (aC aW (aA 4) (mC (.int 52021))) (mC (.int 1000000007))))
 (aL (bA 5 (aC fP (aC aW (aA 5) (mC (.int 30011))) (mC (.int 998244353))))
 (aL (bA 6 (aC fP (aC aW (aA 6) (mC (.int 45989))) (mC (.int 1000000009))))
 (dH (dQ (aA 1) (aB (aC aH (aC aW (aC aH (aC aW (aA 4) (mC (.int 998244353))) (aA 5)) (mC (.int 1000000009))) (aA 6)) aD))))))))))) (iN n (cs.map .int)) [some a,some (.ref k),v2,v3,v4,v5,v6] S=.nx [some a,some (.ref k),w2,w3,w4,w5,w6] (S.set k (.lst (acc'.map .int)))/\acc'.length<=63
 |[],n,acc,S,v2,v3,v4,v5,v6,h,hl,_=>by
  refine⟨acc,v2,v3,v4,v5,v6,?_,by simpa using hl⟩;have e:S.set k (.lst (acc.map .int))=S:=jc λj=>by
   by_cases q:k=j
   .subst q;rw[dr h.lt];exact h.symm
   .rw[fe q]
  rw[e];exact hV
 |x::cs,n,acc,S,v2,v3,v4,v5,v6,h,hl,hn=>by
  simp only[cg]at hl hn;have h':S[k]?=some (.lst (acc.map .int)):=h;have hlen:acc.length<16777216:=by omega
  have hk1:-(2^64)<(n:Int):=by omega
  have hk2:(n:Int)<2^64:=by omega
  by_cases c:(1000000000000000000:Int)<=x
  .obtain⟨acc',w2,w3,w4,w5,w6,e,q⟩:=Ga (k:=k) (a:=a) cs (n+1) (acc++[x-1000000000000000000]) (S.set k (.lst ((acc++[x-1000000000000000000]).map .int))) (some (.pv (.int n))) (some (.pv (.int x))) v4 v5 v6 (h.set _) (by simp;omega) (by omega)
   refine⟨acc',w2,w3,w4,w5,w6,?_,q⟩;rw[kq]at e;rw[<-e];show dA [] _ _ (.tup [.int n,.int x]::iN (n+1) (cs.map .int)) _ S=_;rw[fO];simp! [gT,bO,cU,gN,aE,bB,bD,aN,aS,aR,aP,aQ,aH,aO,Es,c,dQ,fB,iO,h',hlen]
  .obtain⟨acc',w2,w3,w4,w5,w6,e,q⟩:=Ga (k:=k) (a:=a) cs (n+1) (acc++[((((x+7*n*n+13*n+5)*48271).fmod 2147483647*52021).fmod 1000000007*998244353+(((x+11*n*n+17*n+3)*40692).fmod 2147483399*30011).fmod 998244353)*1000000009+(((x+5*n*n+29*n+8)*39373).fmod 2147483587*45989).fmod 1000000009]) (S.set k (.lst ((acc++[((((x+7*n*n+13*n+5)*48271).fmod 2147483647*52021).fmod 1000000007*998244353+(((x+11*n*n+17*n+3)*40692).fmod 2147483399*30011).fmod 998244353)*1000000009+(((x+5*n*n+29*n+8)*39373).fmod 2147483587*45989).fmod 1000000009]).map .int))) (some (.pv (.int n))) (some (.pv (.int x))) (some (.pv (.int ((((x+7*n*n+13*n+5)*48271).fmod 2147483647*52021).fmod 1000000007)))) (some (.pv (.int ((((x+11*n*n+17*n+3)*40692).fmod 2147483399*30011).fmod 998244353)))) (some (.pv (.int ((((x+5*n*n+29*n+8)*39373).fmod 2147483587*45989).fmod 1000000009)))) (h.set _) (by simp;omega) (by omega)
   refine⟨acc',w2,w3,w4,w5,w6,?_,q⟩;rw[kq]at e;rw[<-e];show dA [] _ _ (.tup [.int n,.int x]::iN (n+1) (cs.map .int)) _ S=_;rw[fO];simp! [gT,bO,cU,gN,aE,bB,bD,aN,aS,aR,aP,aQ,aH,aO,Es,c,dQ,fB,iO,h',hlen,lS _ hk1 hk2,lS _ (show-(2^64)<(48271:Int) by decide) (by decide),lS _ (show-(2^64)<(40692:Int) by decide) (by decide),lS _ (show-(2^64)<(39373:Int) by decide) (by decide),lS _ (show-(2^64)<(52021:Int) by decide) (by decide),lS _ (show-(2^64)<(30011:Int) by decide) (by decide),lS _ (show-(2^64)<(45989:Int) by decide) (by decide),lS _ (show-(2^64)<(998244353:Int) by decide) (by decide),lS _ (show-(2^64)<(1000000009:Int) by decide) (by decide),mT (show(2147483647:Int)≠0 by decide),mT (show(2147483399:Int)≠0 by decide),mT (show(2147483587:Int)≠0 by decide),mT (show(1000000007:Int)≠0 by decide),mT (show(998244353:Int)≠0 by decide),mT (show(1000000009:Int)≠0 by decide)]
theorem aa1(ns:AA)(S:aG)(h:ns.length<=63):∃ms:AA,sD [.pv (.lst (ns.map .int))] S=.ok (.ref S.length) (S++[.lst (ms.map .int)])/\ms.length<=63:=by
 have hr:fG (S++[.lst []]) S.length []:=by unfold fG;simp
 obtain⟨ms,w2,w3,w4,w5,w6,e,q⟩:=Ga (a:=.pv (.lst (ns.map .int))) ns 0 [] (S++[.lst []]) none none none none none hr (by simpa using h) (by simpa using h);have ec:jC (ns.map .int) none (some 63)=ns.map .int:=by
  unfold jC;have e1:HT.sIx (ns.map PV.int).length 0 none=0:=rfl;have e2:HT.sIx (ns.map PV.int).length (ns.map PV.int).length (some 63)=(ns.map PV.int).length:=by
   have:=HT.sIx_nat (ns.map PV.int).length (ns.map PV.int).length 63;rw[show((63:Nat):Int)=63 from rfl]at this;rw[this,am];omega
  rw[e1,e2,List.drop_zero,Nat.sub_zero,xn]
 refine⟨ms,?_,q⟩;have es:(S++[SO.lst []]).set S.length (.lst (ms.map .int))=S++[.lst (ms.map .int)]:=by simp
 rw[es]at e;unfold sD aV Wb;simp! [aE,bB,bD,aN,aS,aR,aP,aQ,aH,aO,cG,fE,lA,wJ,fV,dX,eY,iH,kF,Ub,ec,e]
theorem S5{L:AA}(h:gl L 0≠0):(low L).map (gl L 0*·)=L:=by
 unfold low;rw[if_neg h,dy]
 conv=>rhs;rw[<-sf L]
 refine di λn hn=>?_;show gl L 0*(n/gl L 0)=n;exact Int.mul_ediv_cancel' ((jO L 0).2 n hn)
theorem V8{L:AA}(h:gl L 0=1):low L=L:=by
 unfold low;rw[h,if_neg (by decide)]
 conv=>rhs;rw[<-sf L]
 exact di λn _=>Int.ediv_one n
theorem Wk(S:aG)(v2:AJ):∀(ns:AA)(g:Int)(a:AV),∃v',dA [] (gN 2) (bA 1 (aU pN [] (aB (aA 1) (aB (aA 2) aD)))) (ns.map .int) [some a,some (.pv (.int g)),v2] S=.nx [some a,some (.pv (.int (gl ns g))),v'] S
 |[],g,a=>⟨v2,hV⟩
 |n::ns,g,a=>by
  obtain⟨v',e⟩:=Wk S (some (.pv (.int n))) ns (bj g n:Nat) a;refine⟨v',?_⟩;show dA [] _ _ (.int n::ns.map .int) _ S=_;rw[fO];simp! [gN,aE,bB,bD,aN,aS,aR,aP,aQ,aH,aO,Ig];exact e
theorem Hv(ns:AA)(S:aG)(hb:∀n∈ns,Bd 8000 n)(h:gl ns 0≠0):uM [.pv (.lst (ns.map .int))] S=.ok (.pv (.lst ((low ns).map .int))) S:=by
 obtain⟨v',e⟩:=Wk S none ns 0 (.pv (.lst (ns.map .int)));have el:low ns=ns.map λn=>n.fdiv (gl ns 0):=by
  unfold low;rw[if_neg h];exact di λn hn=>(ph ((jO ns 0).2 n hn)).symm
 have bg:Bd 8000 (gl ns 0):=Xc (Bd.of (n:=0) (by simp) (ui 8000)) hb;have ec:=Ca S (gl ns 0) h bg ns none;unfold uM aV zU;simp! [aE,bB,bD,aN,aS,aR,aP,aQ,aH,aO,cG,bV,cO,e,h,el,bQ,cT,ec]
theorem Tj(S:aG)(b:Int):∀(ns:AA)(x:AJ),cM [] (gN 0) (aC aW (aU pZ [] (aB (aA 1) aD)) (aA 0)) (ns.map .int) [x,some (.pv (.int b))] S=.ok ((ns.map (sg b*·)).map .int) S
 |[],x=>fA
 |n::ns,x=>by
  have ih:=Tj S b ns (some (.pv (.int n)));have hm:aW (.int (sg b)) (.int n)=some (.int (sg b*n)):=kQ (.inl (.inl (Qz b)));show cM [] _ _ (.int n::ns.map .int) _ S=_;rw[fI];simp! [gN,aE,bB,bD,aN,aS,aR,aP,aQ,aH,aO,Om,hm,ih]
theorem Sy(zs:AA)(z:Int):jC ((zs++[z]).map .int) none (some (-1))=zs.map .int:=by
 unfold jC;have e1:HT.sIx ((zs++[z]).map PV.int).length 0 none=0:=rfl;have e2:HT.sIx ((zs++[z]).map PV.int).length ((zs++[z]).map PV.int).length (some (-1))=zs.length:=by
  rw[am,bi];exact Pj zs.length _
 rw[e1,e2];simp
theorem Ux(zs:AA)(z:Int):¬(HT.sIx ((zs++[z]).map PV.int).length 0 none=0/\HT.sIx ((zs++[z]).map PV.int).length ((zs++[z]).map PV.int).length (some (-1))=((zs++[z]).map PV.int).length):=by
 rintro⟨_,e⟩
 have e2:HT.sIx ((zs++[z]).map PV.int).length ((zs++[z]).map PV.int).length (some (-1))=zs.length:=by
  rw[am,bi];exact Pj zs.length _
 rw[e2,am,bi]at e;simp at e
theorem Yi(zs:AA)(z:Int):kF (.tup ((zs++[z]).map .int)) none (some (-1))=some (.tup (zs.map .int)):=by
 unfold kF;dsimp only;rw[if_neg (Ux zs z),Sy]
theorem pO(zs:AA)(z:Int):aE (.tup ((zs++[z]).map .int)) (.int (-1))=some (.int z):=by
 show bB ((zs++[z]).map PV.int) (-1)=_;rw[df];exact D8 _ _
theorem lG{m:Int}(h0:0<=m)(h:m<1024):Bd 8000 m:=Bd.of (n:=1023) (by omega) (de (show 1023<2^10 by decide) (vz (by decide) (by decide)))
theorem bY(n:Nat)(a b:Int):aN n (.int a) (.int b)=some (a==b):=by cases n<;>rfl
theorem mB{a b:Int}(h:Bd 2000 a)(g:Bd 2000 b):aW (.int a) (.int b)=some (.int (a*b)):=kQ (.inr ⟨h.mono (by decide),g.mono (by decide)⟩)
structure Pt(n:Nat)(xs:AA)(w:Int):Prop where
 len:xs.length=n
 pos:0<w
 low:low (xs++[w])=xs++[w]
 bx:∀x∈xs,Bd 300 x
 bw:Bd 300 w
def mv(way:Int)(xs:AA)(w:Int)(ys:AA)(v:Int):AA:=if way=1 then low (sm xs w ys v++[w*v])else low (sm ys v (xs.map (- ·)) w++[v*w])
theorem wC(zs:AA)(z:Int)(j:Nat)(h:j<zs.length):aE (.tup ((zs++[z]).map .int)) (.int (j:Nat))=some (.int (zs.getD j 0)):=by
 show bB ((zs++[z]).map PV.int) (j:Int)=_;refine vM ?_;rw[av,ff h,au h];simp[br,h]
theorem Gm(S:aG)(PL QL:AH)(xs ys:AA)(w v way:Int)(hp:aE (.tup PL) (.int (-1))=some (.int w))(hq:aE (.tup QL) (.int (-1))=some (.int v))(hpj:∀j:Nat,j<xs.length->aE (.tup PL) (.int (j:Nat))=some (.int (xs.getD j 0)))(hqj:∀j:Nat,j<xs.length->aE (.tup QL) (.int (j:Nat))=some (.int (ys.getD j 0)))
  (hway:way=1\/way=-1)(bw:Bd 1000 w)(bv:Bd 1000 v)(hx:∀j,Bd 1000 (xs.getD j 0))(hy:∀j,Bd 1000 (ys.getD j 0)):∀(js:List Nat)(x:AJ),(∀j∈js,j<xs.length)->
  cM [] (gN 0) (aC aH (aC aW (aC aW (aA 1) (aC aE (aA 3) (aA 0))) (aC aE (aA 2) (cL dE (mC (.int 1))))) (aC aW (aC aE (aA 2) (aA 0)) (aC aE (aA 3) (cL dE (mC (.int 1)))))) (js.map λj=>.int (0+(j:Nat))) [x,some (.pv (.int way)),some (.pv (.tup QL)),some (.pv (.tup PL))] S=.ok ((js.map λj=>way*xs.getD j 0*v+ys.getD j 0*w).map .int) S
 |[],x,_=>fA
 |j::js,x,h=>by
  have ih:=Gm S PL QL xs ys w v way hp hq hpj hqj hway bw bv hx hy js (some (.pv (.int (0+(j:Nat))))) λi hi=>h i (bn _ hi);have e1:=hpj j (h j ay);have e2:=hqj j (h j ay);have b1:Bd 2 way:=by rcases hway with rfl |rfl<;>exact Bd.of (n:=1) (by decide) (by decide)
  have m0:=mB (b1.mono (show 2<=2000 by decide)) ((hx j).mono (show 1000<=2000 by decide));have m1:=mB ((b1.mul (hx j)).mono (show 2+1000<=2000 by decide)) (bv.mono (show 1000<=2000 by decide));have m2:=mB ((hy j).mono (show 1000<=2000 by decide)) (bw.mono (show 1000<=2000 by decide));show cM [] _ _ (.int (0+(j:Nat))::js.map λj=>.int (0+(j:Nat))) _ S=_;rw[fI];simp only[se]at ih⊢;generalize hX:xs.getD j 0=X at e1 m0 m1;generalize hY:ys.getD j 0=Y at e2 m2;simp! [gN,bY,aS,aR,aP,aQ,aH,aO,e1,e2,hp,hq,m0,m1,m2,ih];simp only[u4]at hX hY;rw[hX,hY]
theorem vB{xs:AA}{k:Nat}(h:∀x∈xs,Bd k x)(j:Nat):Bd k (xs.getD j 0):=by
 by_cases hj:j<xs.length
 .have e:xs.getD j 0=xs[j]:=by simp[br,hj]
  rw[e];exact h _ (iu hj)
 .have e:xs.getD j 0=0:=by simp[br,hj]
  rw[e];exact Bd.of (n:=0) (by decide) (ui k)
theorem Gh{xs ys:AA}(hl:xs.length=ys.length)(f:Int->Int->Int):(az xs.length).map (λj=>f (xs.getD j 0) (ys.getD j 0))=ck f xs ys:=by
 refine tf (by simp[hl]) λi h1 h2=>?_;have hi:i<xs.length:=by simpa using h1
 have hj:i<ys.length:=by omega
 simp[br,hi,hj]
theorem Fw{xs ys:AA}{w v way:Int}(S:aG)(hl:xs.length=ys.length)(h9:xs.length<=9)(hway:way=1\/way=-1)(hx:∀x∈xs,Bd 1000 x)(hy:∀y∈ys,Bd 1000 y)(bw:Bd 1000 w)(bv:Bd 1000 v):
  mM [.pv (.tup ((xs++[w]).map .int)),.pv (.tup ((ys++[v]).map .int)),.pv (.int way)] S=.ok (.pv (.tup ((low (ck (λx y=>way*x*v+y*w) xs ys++[w*v])).map .int))) S:=by
 have ip:=pO xs w;have iq:=pO ys v;have ec:=Gm S _ _ xs ys w v way ip iq (λj h=>wC xs w j h) (λj h=>wC ys v j (by omega)) hway bw bv (vB hx) (vB hy) (az xs.length) none λj hj=>by simpa using hj
 have er:(az xs.length).map (λj=>way*xs.getD j 0*v+ys.getD j 0*w)=ck (λx y=>way*x*v+y*w) xs ys:=Gh hl λx y=>way*x*v+y*w;rw[er]at ec;have mm:=mB (bw.mono (show 1000<=2000 by decide)) (bv.mono (show 1000<=2000 by decide));have b1:Bd 2 way:=by rcases hway with rfl |rfl<;>exact Bd.of (n:=1) (by decide) (by decide)
 have el:=nY (ck (λx y=>way*x*v+y*w) xs ys++[w*v]) S (λn hn=>by
  rcases cj.mp hn with z |z
  .obtain⟨i,hi,e⟩:=qd z
   rw[yh]at e;rw[<-e];exact((((b1.mul (hx _ (iu _))).mul bv).mono (show 2+1000+1000<=3000 by decide)).add (((hy _ (iu _)).mul bw).mono (show 1000+1000<=3000 by decide))).mono (by decide)
  .have:n=w*v:=by simpa using z
   rw[this];exact(bw.mul bv).mono (by decide))
 have hlen:((xs++[w]).map PV.int).length=xs.length+1:=by simp
 have hz:xs.length+1<=16777216:=by omega
 have hr:jP [.pv (.int (((xs.length+1:Nat):Int)-1))] S=.ok ((az xs.length).map λj=>.int (0+(j:Nat)),[]) S:=by
  unfold jP;dsimp only;rw[if_pos ⟨by omega,by omega⟩];have:(((xs.length+1:Nat):Int)-1).toNat=xs.length:=by omega
  rw[this];rfl
 have hzl:(ck (λx y=>way*x*v+y*w) xs ys).length+1<=16777216:=by rw[ka];omega
 simp only[df,aw,cv]at el;generalize hZ:(ck (λx y=>way*x*v+y*w) xs ys).map PV.int=ZL at ec el;have hzl2:ZL.length+1<=16777216:=by rw[<-hZ,am];exact hzl
 generalize (az xs.length).map (λj=>PV.int (0+(j:Nat)))=RL at ec hr;generalize hP:(xs++[w]).map PV.int=PL at ip ec hlen;generalize (ys++[v]).map PV.int=QL at iq ec;unfold mM aV zK;have hr2:=hr;rw[<-hlen]at hr2;simp! [bY,aS,aR,aP,aQ,aH,aO,bQ,dL,hr2,cT,ec,ip,iq,mm,hzl2,el]
theorem Ak{k:Nat}{W:Int}(W0:0<=W)(W1:W<=1000000000000):∀(is:AH)(S:aG)(ns:AA)(x:AJ),fG S k ns->∃(xs ns':AA),cM [] (gN 0) (aC eM (aU dN [] (aB (aA 2) (aB (aC aH (aC aW (mC (.int 2)) (aA 1)) (mC (.int 1))) aD))) (aA 1)) is [x,some (.pv (.int W)),some (.ref k)] S=.ok (xs.map .int) (S.set k (.lst (ns'.map .int)))/\xs.length=is.length/\∀n∈xs,Bd 50 n
 |[],S,ns,x,h=>by
  refine⟨[],ns,?_,rfl,λ_ h=>absurd h iw⟩;have e:S.set k (.lst (ns.map .int))=S:=jc λj=>by
   by_cases q:k=j
   .subst q;rw[dr h.lt];exact h.symm
   .rw[fe q]
  rw[e];exact fA
 |i::is,S,ns,x,h=>by
  obtain⟨t,n1,e1,t0,t1,_⟩:=jK (m:=2*W+1) h (by omega) ((Bd.of (k:=50) (n:=2000000000001) (by omega) (by decide)).mono (by decide));obtain⟨xs,n2,e2,l2,b2⟩:=Ak W0 W1 is _ n1 (some (.pv i)) (h.set n1);rw[kq]at e2;have m2:aW (.int 2) (.int W)=some (.int (2*W)):=kQ (.inl (.inl ⟨by decide,by decide⟩));refine⟨(t-W)::xs,n2,?_,by simp[l2],λn hn=>?_⟩
  .rw[fI]
   generalize S.set k (.lst (n1.map .int))=S1 at e1 e2;simp! [gN,aE,bB,bD,aN,aS,aR,aP,aQ,aH,aO,m2,e1,e2]
  .rcases ci.mp hn with rfl |hn
   .exact Bd.of (n:=1000000000000) (by omega) (by decide)
   .exact b2 n hn
theorem abZ{v:Int}(h0:0<=v)(h1:v<4):∃M:Int,aE (.lst [.int 0,.int 3,.int 9,.int 1000000000000]) (.int v)=some (.int M)/\0<=M/\M<=1000000000000:=by
 have c:v=0\/v=1\/v=2\/v=3:=by omega
 rcases c with rfl |rfl |rfl |rfl
 .exact⟨0,rfl,by decide,by decide⟩
 .exact⟨3,rfl,by decide,by decide⟩
 .exact⟨9,rfl,by decide,by decide⟩
 .exact⟨1000000000000,rfl,by decide,by decide⟩
theorem p12:gW (.int 10) (.int 12)=some (.int 1000000000000):=vK (i:=10) (j:=12) ⟨by decide,by decide,by decide⟩
theorem abQ{v:Int}(h0:0<=v)(h1:v<4):0<=v.fdiv 2/\v.fdiv 2<=1:=by
 have c:v=0\/v=1\/v=2\/v=3:=by omega
 rcases c with rfl |rfl |rfl |rfl<;>decide
theorem aaj{n k:Nat}{L:AA}{b:Int}(hb:0<b)(hl:L.length=n)(hk:k<=300)(hL:∀x∈L,Bd k x)(bb:Bd k b):∃(zs:AA)(z:Int),low (L++[b])=zs++[z]/\Pt n zs z/\(∀x∈zs,Bd k x)/\Bd k z:=by
 obtain⟨zs,z,g,e,hg,hz,_,_,hzl⟩:=vP L hb;have hbd:=wB (k:=k) (ns:=L++[b]) λm hm=>by
  rcases cj.mp hm with y |y
  .exact hL m y
  .have:m=b:=by simpa using y
   rw[this];exact bb
 have hlow:=Rb L hb;rw[e]at hbd hlow;have b1:∀x∈zs,Bd k x:=λx hx=>hbd x (kw _ hx);have b2:Bd k z:=hbd z (mP zs z);exact⟨zs,z,e,⟨hzl.trans hl,hz,hlow,λx hx=>(b1 x hx).mono hk,b2.mono hk⟩,b1,b2⟩
theorem Y5{S:aG}{k:Nat}{ns:AA}(n:Nat)(hn:n=2\/n=3)(h:fG S k ns):∃(xs:AA)(w:Int)(ns':AA),mZ [.ref k,.pv (.int n)] S=.ok (.pv (.tup ((xs++[w]).map .int))) (S.set k (.lst (ns'.map .int)))/\Pt n xs w/\(∀x∈xs,Bd 100 x)/\Bd 100 w:=by
 obtain⟨c,n1,e1,c0,c1,_⟩:=jK (m:=4) h (by decide) (lG (by decide) (by decide));obtain⟨M,em,M0,M1⟩:=abZ c0 c1;obtain⟨t,n2,e2,t0,t1,_⟩:=jK (m:=9) (h.set n1) (by decide) (lG (by decide) (by decide));rw[kq]at e2;obtain⟨xs,n3,e3,l3,b3⟩:=Ak M0 M1 (cX 0 n) _ n2 none (h.set n2);rw[kq]at e3;have hc:=abQ c0 c1;have mt:aW (.int t) (.int (c.fdiv 2))=some (.int (t*c.fdiv 2)):=kQ (.inl (.inl ⟨by omega,by omega⟩));have qt:fX (.int c) (.int 2)=some (.int (c.fdiv 2)):=kN ⟨by decide,lG (by decide) (by decide)⟩;have hm:0<=t*c.fdiv 2/\t*c.fdiv 2<=8:=by
  have c2:c.fdiv 2=0\/c.fdiv 2=1:=by omega
  rcases c2 with z |z<;>rw[z]<;>omega
 have lx:xs.length=n:=by rw[l3];unfold cX;simp
 generalize t*c.fdiv 2=tc at mt hm;obtain⟨zs,z,ez,P,b1,b2⟩:=aaj (n:=n) (k:=100) (L:=xs) (b:=1+tc) (by omega) lx (by decide) (λx hx=>(b3 x hx).mono (by decide)) (Bd.of (n:=9) (by omega) (by decide));have el:=nY (xs++[1+tc]) (S.set k (.lst (n3.map .int))) (λm hm=>by
  rcases cj.mp hm with y |y
  .exact(b3 m y).mono (by decide)
  .have:m=1+tc:=by simpa using y
   rw[this];exact(Bd.of (k:=4) (n:=9) (by omega) (by decide)).mono (by decide))
 rw[ez]at el;refine⟨zs,z,n3,?_,P,b1,b2⟩;have tk3:=Gj S k (.lst (n3.map .int));have hz:xs.length+1<=16777216:=by omega
 generalize S.set k (.lst (n1.map .int))=S1 at e1 e2;generalize S.set k (.lst (n2.map .int))=S2 at e2 e3;generalize S.set k (.lst (n3.map .int))=S3 at e3 el tk3;have hr:jP [.pv (.int (n:Int))] S2=.ok (cX 0 n,[]) S2:=by
  unfold jP;dsimp only;rw[if_pos ⟨by omega,by omega⟩];rfl
 conv at el=>lhs;rw[df]
 simp only[aw,cv]at el;generalize (zs++[z]).map PV.int=ZL at el;unfold mZ aV Qc;simp! [bY,aS,aR,aP,aQ,aH,aO,p12,e1,em,e2,mt,qt,bQ,dL,hr,cT,e3,hz,el,tk3]
theorem Uh{way:Int}(h:way=1\/way=-1)(xs:AA)(w:Int)(ys:AA)(v:Int):low (ck (λx y=>way*x*v+y*w) xs ys++[w*v])=mv way xs w ys v:=by
 unfold mv;rcases h with rfl |rfl
 .rw[if_pos rfl,Yu]
 .rw[if_neg (by decide),Ju,dn w v]
structure Pq(n k:Nat)(xs:AA)(w:Int):Prop where
 len:xs.length=n
 pos:0<w
 low:low (xs++[w])=xs++[w]
 bx:∀x∈xs,Bd k x
 bw:Bd k w
def Vl(n:Nat)(xs:AA)(w:Int)(N:Nat->Int)(D:Int):Prop:=∀j,j<n->xs.getD j 0*D=N j*w
theorem Vl.self(n:Nat)(xs:AA)(w:Int):Vl n xs w (λj=>xs.getD j 0) w:=λ_ _=>rfl
theorem vW{a b c:Int}(h:0<c)(e:a*c=b*c):a=b:=Int.eq_of_mul_eq_mul_right (by omega) e
theorem O4{xs ys:AA}{f:Int->Int->Int}{j:Nat}(h1:j<xs.length)(h2:j<ys.length):(ck f xs ys).getD j 0=f (xs.getD j 0) (ys.getD j 0):=by
 have:j<(ck f xs ys).length:=by rw[ka];omega
 simp only[br,au this,au h1,au h2,ua,yh]
theorem ace{n k l:Nat}{way:Int}{xs ys:AA}{w v:Int}(hway:way=1\/way=-1)(P:Pq n k xs w)(Q:Pq n l ys v):∃(zs:AA)(z:Int),mv way xs w ys v=zs++[z]/\Pq n (k+l+1) zs z/\
  ∀(N M:Nat->Int)(D E:Int),Vl n xs w N D->Vl n ys v M E->0<D->0<E->Vl n zs z (λj=>way*N j*E+M j*D) (D*E):=by
 rw[<-Uh hway];have hb:=ca P.pos Q.pos;have hl:(ck (λx y=>way*x*v+y*w) xs ys).length=n:=by rw[ka,P.len,Q.len];omega
 obtain⟨zs,z,g,e,hg,hz,g1,g2,hzl⟩:=vP (ck (λx y=>way*x*v+y*w) xs ys) hb;have hlow:=Rb (ck (λx y=>way*x*v+y*w) xs ys) hb;have hbd:=wB (k:=k+l+1) (ns:=ck (λx y=>way*x*v+y*w) xs ys++[w*v]) λm hm=>by
  rcases cj.mp hm with y |y
  .obtain⟨i,hi,e⟩:=qd y
   rw[yh]at e;rw[<-e];have b1:=(P.bx _ (iu (l:=xs) (n:=i) (by rw[ka]at hi;omega))).mul Q.bw;have b2:=(Q.bx _ (iu (l:=ys) (n:=i) (by rw[ka]at hi;omega))).mul P.bw;have b3:Bd (k+l) (way*xs[i]'(by rw[ka]at hi;omega)*v):=by
    rcases hway with rfl |rfl
    .rw[je];exact b1
    .have:(-1:Int)*xs[i]'(by rw[ka]at hi;omega)*v=-(xs[i]'(by rw[ka]at hi;omega)*v):=by rw[jw,je,jw]
     rw[this];exact b1.neg
   exact b3.add (b2.mono (by omega))
  .have:m=w*v:=by simpa using y
   rw[this];exact(P.bw.mul Q.bw).mono (by omega)
 rw[e]at hbd hlow;refine⟨zs,z,e,⟨hzl.trans hl,hz,hlow,λx hx=>hbd x (kw _ hx),hbd z (mP zs z)⟩,λN M D E a b hD hE j hj=>?_⟩;have h1:(ck (λx y=>way*x*v+y*w) xs ys).getD j 0=g*zs.getD j 0:=by
  rw[g1];have:j<zs.length:=by rw[hzl,hl];exact hj
  simp[br,this]
 rw[O4 (by rw[P.len];exact hj) (by rw[Q.len];exact hj)]at h1;have a1:=a j hj;have b1:=b j hj;generalize xs.getD j 0=X at a1 h1;generalize ys.getD j 0=Y at b1 h1;generalize zs.getD j 0=Z at h1⊢;show Z*(D*E)=(way*N j*E+M j*D)*z;generalize M j=B,N j=A at *;refine vW (c:=g*(w*v)) (ca hg hb) ?_;have p1:=P.pos;have p2:=Q.pos;have k1:(way*X*v+Y*w)*(D*E)=(way*A*E+B*D)*(w*v):=by grind
 have k2:Z*(D*E)*(g*(w*v))=(way*X*v+Y*w)*(D*E)*(w*v):=by rw[h1];grind
 rw[k2,k1,g2];grind
theorem Pt.pq{n k:Nat}{xs:AA}{w:Int}(P:Pt n xs w)(b:∀x∈xs,Bd k x)(bw:Bd k w):Pq n k xs w:=⟨P.len,P.pos,P.low,b,bw⟩
theorem Pq.mono{n k l:Nat}{xs:AA}{w:Int}(P:Pq n k xs w)(h:k<=l):Pq n l xs w:=⟨P.len,P.pos,P.low,λx hx=>(P.bx x hx).mono h,P.bw.mono h⟩
theorem J2{n k l:Nat}{way:Int}{xs ys:AA}{w v:Int}(S:aG)(hn:n=2\/n=3)(hway:way=1\/way=-1)(P:Pq n k xs w)(Q:Pq n l ys v)(hk:k<=1000)(hl:l<=1000):mM [.pv (.tup ((xs++[w]).map .int)),.pv (.tup ((ys++[v]).map .int)),.pv (.int way)] S=.ok (.pv (.tup ((mv way xs w ys v).map .int))) S:=by
 have e:=Fw (way:=way) S (P.len.trans Q.len.symm) (by rw[P.len];omega) hway (λx hx=>(P.bx x hx).mono hk) (λx hx=>(Q.bx x hx).mono hl) (P.bw.mono hk) (Q.bw.mono hl);rw[Uh hway]at e;exact e
theorem hrg(S:aG):jP [.pv (.int 3)] S=.ok ([.int 0,.int 1,.int 2],[]) S:=by
 have h:cX 0 (3:Int).toNat=[.int 0,.int 1,.int 2]:=rfl;rw[<-h];unfold jP;dsimp only;rw[if_pos ⟨by omega,by omega⟩]
theorem Eb(t b:Int)(S:aG)(ht:Bd 8000 t)(hb:Bd 8000 b):mS [.pv (.int t),.pv (.int b)] S=.ok (.pv (.tup ((fr t b).map .int))) S:=by
 unfold mS aV Ta fr;have e1:=nY [0-t,0-b] S (by
  intro n hn;rcases ci.mp hn with rfl |hn
  .rw[ja];exact ht.neg
  .have:n=0-b:=by simpa using hn
   rw[this,ja];exact hb.neg)
 have e2:=nY [t,b] S (by
  intro n hn;rcases ci.mp hn with rfl |hn
  .exact ht
  .have:n=b:=by simpa using hn
   rw[this];exact hb)
 by_cases h:b<0
 .simp only[aw,cv,ja]at e1
  simp! [aE,bB,bD,aN,aS,aR,aP,aQ,aH,aO,h,e1]
 .simp only[aw,cv]at e2
  simp! [aE,bB,bD,aN,aS,aR,aP,aQ,aH,aO,h,e2]
theorem Rf(t b:Int)(S:aG)(ht:Bd 7000 t)(hb:Bd 7000 b)(h:b≠0):nV [.pv (.int t),.pv (.int b)] S=.ok (.pv (.tup ((fr t b).map .int))) S:=by
 have gb:Bd 7000 ((bj t b:Nat):Int):=ht.gcd hb;have sb:Bd 2 (sg b):=by
  unfold sg;split
  .unfold Bd;simp
  .split<;>(unfold Bd;simp)
 have mb:oO (sg b) (bj t b:Nat):=.inr ⟨sb.mono (by decide),gb.mono (by decide)⟩;have nz:sg b*(bj t b:Nat)≠0:=by
  have gp:=sG (jF t b) h;rw[pX]at gp;rcases Fj h with⟨_,s⟩|⟨_,s⟩<;>rw[s]<;>omega
 have qb:∀x,oR x (sg b*(bj t b:Nat)):=λx=>⟨nz,(sb.mul gb).mono (by decide)⟩;rw[<-Vx h];unfold nV aV zF;simp! [aE,bB,bD,aN,aS,aR,aP,aQ,aH,aO,h,Om,Ig,kQ mb,kN (qb t),kN (qb b)]
theorem yU:∀is:AA,iV (is.map .int)=some is
 |[]=>rfl
 |i::is=>by
  have ih:=yU is;show(match iV (is.map .int)with |some bs=>some (i::bs) |none=>none)=_
  rw[ih]
theorem Ow(is:AA):qS [.lst (is.map .int)]=some (.int is.sum):=by
 simp only[qS,yU,ye]
def wa(xs:AA)(w:Int)(ys:AA)(v:Int):AA:=ck (λx y=>y*w-x*v) xs ys
theorem Zl(S:aG)(PL QL:AH)(w v:Int)(hp:aE (.tup PL) (.int (-1))=some (.int w))(hq:aE (.tup QL) (.int (-1))=some (.int v))(bw:Bd 2000 w)(bv:Bd 2000 v):∀(xs ys:AA)(x y:AJ),xs.length=ys.length->(∀x∈xs,Bd 2000 x)->(∀y∈ys,Bd 2000 y)->
  cM [] (gT 2 (bO (gN 0) (bO (gN 1) cU))) (aC eM (aC aW (aA 1) (aC aE (aA 2) (cL dE (mC (.int 1))))) (aC aW (aA 0) (aC aE (aA 3) (cL dE (mC (.int 1)))))) (eI (xs.map .int) (ys.map .int)) [x,y,some (.pv (.tup PL)),some (.pv (.tup QL))] S=.ok ((wa xs w ys v).map .int) S
 |[],ys,x,y,hl,_,_=>by
  have:ys=[]:=xz.mp hl.symm;subst this;exact fA
 |a::xs,[],x,y,hl,_,_=>by cases hl
 |a::xs,b::ys,x,y,hl,hx,hy=>by
  have ih:=Zl S PL QL w v hp hq bw bv xs ys (some (.pv (.int a))) (some (.pv (.int b))) (by simpa using hl) (λm hm=>hx m (bn _ hm)) (λm hm=>hy m (bn _ hm));have m1:=mB (hx a ay) bv;have m2:=mB (hy b ay) bw;show cM [] _ _ (.tup [.int a,.int b]::eI (xs.map .int) (ys.map .int)) _ S=_;rw[fI];simp! [gT,bO,cU,gN,bY,aS,aR,aP,aQ,aH,aO,hp,hq,m1,m2,ih,wa]
theorem B3{xs ys:AA}{w v:Int}(S:aG)(hl:xs.length=ys.length)(hx:∀x∈xs,Bd 2000 x)(hy:∀y∈ys,Bd 2000 y)(bw:Bd 2000 w)(bv:Bd 2000 v):
  qZ [.pv (.tup ((xs++[w]).map .int)),.pv (.tup ((ys++[v]).map .int))] S=.ok (.pv (.lst ((wa xs w ys v).map .int))) S:=by
 have ip:=pO xs w;have iq:=pO ys v;have sp:=Yi xs w;have sq:=Yi ys v;have ec:=Zl S _ _ w v ip iq bw bv xs ys none none hl hx hy;generalize (xs++[w]).map PV.int=PL at ip sp ec;generalize (ys++[v]).map PV.int=QL at iq sq ec;unfold qZ aV yG;simp! [bY,aS,aR,aP,aQ,aH,aO,bQ,gA,kA,cO,fV,dX,eY,iH,sp,sq,cT,ec]
theorem Sk(S:aG):∀(us vs:AA)(x y:AJ),(∀x∈us,Bd 100000 x)->(∀y∈vs,Bd 100000 y)->
  cM [] (gT 2 (bO (gN 0) (bO (gN 1) cU))) (aC aW (aA 0) (aA 1)) (eI (us.map .int) (vs.map .int)) [x,y] S=.ok ((ck (·*·) us vs).map .int) S
 |[],vs,x,y,_,_=>by
  show cM [] _ _ [] _ S=_;exact fA
 |a::us,[],x,y,_,_=>by
  show cM [] _ _ [] _ S=_;exact fA
 |a::us,b::vs,x,y,hx,hy=>by
  have ih:=Sk S us vs (some (.pv (.int a))) (some (.pv (.int b))) (λm hm=>hx m (bn _ hm)) (λm hm=>hy m (bn _ hm));have m1:aW (.int a) (.int b)=some (.int (a*b)):=kQ (.inr ⟨(hx a ay).mono (by decide),(hy b ay).mono (by decide)⟩);show cM [] _ _ (.tup [.int a,.int b]::eI (us.map .int) (vs.map .int)) _ S=_;rw[fI];simp! [gT,bO,cU,gN,bY,aS,aR,aP,aQ,aH,aO,m1,ih]
def dt(us vs:AA):Int:=(ck (·*·) us vs).sum
def Sq(A:PV)(us:AA):Prop:=A=.lst (us.map .int)\/A=.tup (us.map .int)
theorem Bm{A B:PV}{us vs:AA}(S:aG)(hA:Sq A us)(hB:Sq B vs)(hx:∀x∈us,Bd 100000 x)(hy:∀y∈vs,Bd 100000 y):vO [.pv A,.pv B] S=.ok (.pv (.int (dt us vs))) S:=by
 have ec:=Sk S us vs none none hx hy;have es:=Ow (ck (·*·) us vs);unfold dt;generalize (ck (·*·) us vs).map PV.int=ZL at ec es;generalize (ck (·*·) us vs).sum=Z at es;unfold vO aV Pc;rcases hA with rfl |rfl<;>rcases hB with rfl |rfl<;>
  (generalize us.map PV.int=UL at ec⊢;generalize vs.map PV.int=VL at ec⊢;simp! [bY,aS,aR,aP,aQ,aH,aO,bQ,gA,kA,cO,cT,ec,es])
theorem eO{k l:Nat}{a b:Int}(h:Bd k a)(g:Bd l b)(hk:k<=1000000:=by decide)(hl:l<=1000000:=by decide):aW (.int a) (.int b)=some (.int (a*b)):=kQ (.inr ⟨h.mono hk,g.mono hl⟩)
theorem O2{a b c d e f:Int}(S:aG)(ha:Bd 10000 a)(hb:Bd 10000 b)(hc:Bd 10000 c)(hd:Bd 10000 d)(he:Bd 10000 e)(hf:Bd 10000 f):uS [.pv (.lst [.lst [.int a,.int b,.int c],.lst [.int d,.int e,.int f]])] S=.ok (.pv (.lst [.int (b*f-c*e),.int (c*d-a*f),.int (a*e-b*d)])) S:=by
 have m1:=eO hb hf;have m2:=eO hc he;have m3:=eO hc hd;have m4:=eO ha hf;have m5:=eO ha he;have m6:=eO hb hd;unfold uS aV La;simp! [aE,bB,bD,aN,aS,aR,aP,aQ,aH,aO,m1,m2,m3,m4,m5,m6]
theorem Na{A B:PV}{a b c d e f:Int}(S:aG)(hA:A=.lst [.int a,.int b,.int c])(hB:B=.lst [.int d,.int e,.int f])(ha:Bd 10000 a)(hb:Bd 10000 b)(hc:Bd 10000 c)(hd:Bd 10000 d)(he:Bd 10000 e)(hf:Bd 10000 f):rK [.pv A,.pv B] S=.ok (.pv (.lst [.int (b*f-c*e),.int (c*d-a*f),.int (a*e-b*d)])) S:=by
 have m1:=eO hb hf;have m2:=eO hc he;have m3:=eO hc hd;have m4:=eO ha hf;have m5:=eO ha he;have m6:=eO hb hd;unfold rK aV Ia;subst hA hB;simp! [aE,bB,bD,aN,aS,aR,aP,aQ,aH,aO,m1,m2,m3,m4,m5,m6]
structure P2(x y w:Int):Prop where
 bx:Bd 1000 x
 by_:Bd 1000 y
 bw:Bd 1000 w
 pos:0<w
structure P3(x y z w:Int):Prop where
 bx:Bd 1000 x
 by_:Bd 1000 y
 bz:Bd 1000 z
 bw:Bd 1000 w
 pos:0<w
abbrev v2(x y w:Int):PV:=.tup [.int x,.int y,.int w]
abbrev v3(x y z w:Int):PV:=.tup [.int x,.int y,.int z,.int w]
def Sv(A:PV)(L:AH):Prop:=A=.lst L\/A=.tup L
theorem Lr(p:PV)(L:AH):jC (p::L) (some 1) none=L:=by
 unfold jC;have e1:HT.sIx (p::L).length 0 (some 1)=1:=by
  rw[show(some (1:Int))=some ((1:Nat):Int) from rfl,HT.sIx_nat,cg];omega
 rw[e1];show((p::L).drop 1).take ((p::L).length-1)=L;simp
theorem wT(p:PV)(L:AH):kF (.lst (p::L)) (some 1) none=some (.lst L):=by
 unfold kF;dsimp only;rw[Lr]
theorem Nd(p:PV)(L:AH):kF (.tup (p::L)) (some 1) none=some (.tup L):=by
 unfold kF;dsimp only;have e1:HT.sIx (p::L).length 0 (some 1)=1:=by
  rw[show(some (1:Int))=some ((1:Nat):Int) from rfl,HT.sIx_nat,cg];omega
 rw[if_neg (by rw[e1];simp),Lr]
theorem Xp{x0 y0 z0 w0 x1 y1 z1 w1:Int}(S:aG)(p:P3 x0 y0 z0 w0)(q:P3 x1 y1 z1 w1):qZ [.pv (v3 x0 y0 z0 w0),.pv (v3 x1 y1 z1 w1)] S=.ok (.pv (.lst [.int (x1*w0-x0*w1),.int (y1*w0-y0*w1),.int (z1*w0-z0*w1)])) S:=by
 have e:=B3 (xs:=[x0,y0,z0]) (ys:=[x1,y1,z1]) (w:=w0) (v:=w1) S rfl (by simp;exact⟨p.bx.mono (by decide),p.by_.mono (by decide),p.bz.mono (by decide)⟩) (by simp;exact⟨q.bx.mono (by decide),q.by_.mono (by decide),q.bz.mono (by decide)⟩) (p.bw.mono (by decide)) (q.bw.mono (by decide));exact e
theorem sb{x0 w0 x1 w1:Int}(a:Bd 1000 x0)(b:Bd 1000 w0)(c:Bd 1000 x1)(d:Bd 1000 w1):Bd 2001 (x1*w0-x0*w1):=((c.mul b).mono (show 1000+1000<=2000 by decide)).sub ((a.mul d).mono (show 1000+1000<=2000 by decide))
theorem cb{a b c d:Int}(h1:Bd 2001 a)(h2:Bd 2001 b)(h3:Bd 2001 c)(h4:Bd 2001 d):Bd 4003 (a*b-c*d):=((h1.mul h2).mono (show 2001+2001<=4002 by decide)).sub ((h3.mul h4).mono (show 2001+2001<=4002 by decide))
def D2(x0 y0 w0 x1 y1 w1 x2 y2 w2:Int):Int:=w0*(x1*y2-y1*x2)-w1*(x0*y2-y0*x2)+w2*(x0*y1-y0*x1)
def D3(x0 y0 z0 w0 x1 y1 z1 w1 x2 y2 z2 w2 x3 y3 z3 w3:Int):Int:=
 w0*((y1*z2-z1*y2)*x3+(z1*x2-x1*z2)*y3+(x1*y2-y1*x2)*z3)-w1*((y0*z2-z0*y2)*x3+(z0*x2-x0*z2)*y3+(x0*y2-y0*x2)*z3)
 +w2*((y0*z1-z0*y1)*x3+(z0*x1-x0*z1)*y3+(x0*y1-y0*x1)*z3)-w3*((y0*z1-z0*y1)*x2+(z0*x1-x0*z1)*y2+(x0*y1-y0*x1)*z2)
theorem ab3(x0 y0 z0 w0 x1 y1 z1 w1 x2 y2 z2 w2 x3 y3 z3 w3:Int):dt [(y1*w0-y0*w1)*(z2*w0-z0*w2)-(z1*w0-z0*w1)*(y2*w0-y0*w2),(z1*w0-z0*w1)*(x2*w0-x0*w2)-(x1*w0-x0*w1)*(z2*w0-z0*w2),(x1*w0-x0*w1)*(y2*w0-y0*w2)-(y1*w0-y0*w1)*(x2*w0-x0*w2)] [x3*w0-x0*w3,y3*w0-y0*w3,z3*w0-z0*w3]=w0*w0*D3 x0 y0 z0 w0 x1 y1 z1 w1 x2 y2 z2 w2 x3 y3 z3 w3:=by
 simp only[dt,D3,u5,u6,xh,List.sum_nil];grind
theorem vS{w d:Int}(h:0<w):sg (w*d)=sg d:=by
 unfold sg
 by_cases h1:0<d
 .rw[if_pos (ca h h1),if_pos h1]
 .by_cases h2:d<0
  .have:w*d<0:=c7 h h2
   rw[if_neg (by omega),if_pos this,if_neg h1,if_pos h2]
  .have:d=0:=by omega
   subst this;rw[nv]
def Gp(n k:Nat)(v:PV):Prop:=∃xs w,v=.tup ((xs++[w]).map .int)/\Pq n k xs w
theorem Gp.two{v:PV}(h:Gp 2 1000 v):∃x y w,v=v2 x y w/\P2 x y w:=by
 obtain⟨xs,w,rfl,P⟩:=h
 match xs,P.len with
 |[x,y],_=>exact⟨x,y,w,rfl,P.bx x (by simp),P.bx y (by simp),P.bw,P.pos⟩
theorem Gp.three{v:PV}(h:Gp 3 1000 v):∃x y z w,v=v3 x y z w/\P3 x y z w:=by
 obtain⟨xs,w,rfl,P⟩:=h
 match xs,P.len with
 |[x,y,z],_=>exact⟨x,y,z,w,rfl,P.bx x (by simp),P.bx y (by simp),P.bx z (by simp),P.bw,P.pos⟩
theorem Cj(S:aG)(PL QL:AH)(xs ys:AA)(w v:Int)(hp:aE (.tup PL) (.int (-1))=some (.int w))(hq:aE (.tup QL) (.int (-1))=some (.int v))(hpj:∀j:Nat,j<xs.length->aE (.tup PL) (.int (j:Nat))=some (.int (xs.getD j 0)))(hqj:∀j:Nat,j<xs.length->aE (.tup QL) (.int (j:Nat))=some (.int (ys.getD j 0)))
  (bw:Bd 1000 w)(bv:Bd 1000 v)(hx:∀j,Bd 1000 (xs.getD j 0))(hy:∀j,Bd 1000 (ys.getD j 0)):∀(js:List Nat)(x:AJ),(∀j∈js,j<xs.length)->
  cM [] (gN 0) (aC eM (aC aW (aC aE (aA 1) (aA 0)) (aC aE (aA 2) (cL dE (mC (.int 1))))) (aC aW (aC aE (aA 2) (aA 0)) (aC aE (aA 1) (cL dE (mC (.int 1)))))) (js.map λj=>.int (0+(j:Nat))) [x,some (.pv (.tup QL)),some (.pv (.tup PL))] S=.ok ((js.map λj=>ys.getD j 0*w-xs.getD j 0*v).map .int) S
 |[],x,_=>fA
 |j::js,x,h=>by
  have ih:=Cj S PL QL xs ys w v hp hq hpj hqj bw bv hx hy js (some (.pv (.int (0+(j:Nat))))) λi hi=>h i (bn _ hi);have e1:=hpj j (h j ay);have e2:=hqj j (h j ay);have m1:=mB ((hx j).mono (show 1000<=2000 by decide)) (bv.mono (show 1000<=2000 by decide));have m2:=mB ((hy j).mono (show 1000<=2000 by decide)) (bw.mono (show 1000<=2000 by decide));show cM [] _ _ (.int (0+(j:Nat))::js.map λj=>.int (0+(j:Nat))) _ S=_;rw[fI];simp only[se]at ih⊢;generalize hX:xs.getD j 0=X at e1 m1;generalize hY:ys.getD j 0=Y at e2 m2;simp! [gN,bY,aS,aR,aP,aQ,aH,aO,e1,e2,hp,hq,m1,m2,ih];simp only[u4]at hX hY;rw[hX,hY]
theorem Lo{xs ys:AA}{w v:Int}(S:aG)(hl:xs.length=ys.length)(h9:xs.length<=9)(hx:∀x∈xs,Bd 1000 x)(hy:∀y∈ys,Bd 1000 y)(bw:Bd 1000 w)(bv:Bd 1000 v):
  mV [.pv (.tup ((xs++[w]).map .int)),.pv (.tup ((ys++[v]).map .int))] S=.ok (.pv (.lst ((wa xs w ys v).map .int))) S:=by
 have ip:=pO xs w;have iq:=pO ys v;have ec:=Cj S _ _ xs ys w v ip iq (λj h=>wC xs w j h) (λj h=>wC ys v j (by omega)) bw bv (vB hx) (vB hy) (az xs.length) none λj hj=>by simpa using hj
 have er:(az xs.length).map (λj=>ys.getD j 0*w-xs.getD j 0*v)=wa xs w ys v:=Gh hl λx y=>y*w-x*v;rw[er]at ec;have hlen:((xs++[w]).map PV.int).length=xs.length+1:=by simp
 have hr:jP [.pv (.int (((xs.length+1:Nat):Int)-1))] S=.ok ((az xs.length).map λj=>.int (0+(j:Nat)),[]) S:=by
  unfold jP;dsimp only;rw[if_pos ⟨by omega,by omega⟩];have:(((xs.length+1:Nat):Int)-1).toNat=xs.length:=by omega
  rw[this];rfl
 generalize (wa xs w ys v).map PV.int=ZL at ec;generalize (az xs.length).map (λj=>PV.int (0+(j:Nat)))=RL at ec hr;generalize hP:(xs++[w]).map PV.int=PL at ip ec hlen;generalize (ys++[v]).map PV.int=QL at iq ec;unfold mV aV Dc;have hr2:=hr;rw[<-hlen]at hr2;simp! [bY,aS,aR,aP,aQ,aH,aO,bQ,dL,hr2,cT,ec]
theorem Ur{x0 y0 w0 x1 y1 w1:Int}(S:aG)(p:P2 x0 y0 w0)(q:P2 x1 y1 w1):mV [.pv (v2 x0 y0 w0),.pv (v2 x1 y1 w1)] S=.ok (.pv (.lst [.int (x1*w0-x0*w1),.int (y1*w0-y0*w1)])) S:=by
 have e:=Lo (xs:=[x0,y0]) (ys:=[x1,y1]) (w:=w0) (v:=w1) S rfl (by simp) (by simp;exact⟨p.bx,p.by_⟩) (by simp;exact⟨q.bx,q.by_⟩) p.bw q.bw;exact e
theorem sW{x0 y0 z0 w0 x1 y1 z1 w1:Int}(S:aG)(p:P3 x0 y0 z0 w0)(q:P3 x1 y1 z1 w1):mV [.pv (v3 x0 y0 z0 w0),.pv (v3 x1 y1 z1 w1)] S=.ok (.pv (.lst [.int (x1*w0-x0*w1),.int (y1*w0-y0*w1),.int (z1*w0-z0*w1)])) S:=by
 have e:=Lo (xs:=[x0,y0,z0]) (ys:=[x1,y1,z1]) (w:=w0) (v:=w1) S rfl (by simp) (by simp;exact⟨p.bx,p.by_,p.bz⟩) (by simp;exact⟨q.bx,q.by_,q.bz⟩) p.bw q.bw;exact e
theorem A0{A:PV}{x0 y0 w0 x1 y1 w1 x2 y2 w2:Int}(S:aG)(hA:Sv A [v2 x0 y0 w0,v2 x1 y1 w1,v2 x2 y2 w2])(p:P2 x0 y0 w0)(q:P2 x1 y1 w1)(r:P2 x2 y2 w2):oJ [.pv A] S=.ok (.pv (.int (w0*D2 x0 y0 w0 x1 y1 w1 x2 y2 w2))) S:=by
 have a1:=Ur S p q;have a2:=Ur S p r;have bu:=sb p.bx p.bw q.bx q.bw;have bv:=sb p.by_ p.bw q.by_ q.bw;have bu2:=sb p.bx p.bw r.bx r.bw;have bv2:=sb p.by_ p.bw r.by_ r.bw;have id:(x1*w0-x0*w1)*(y2*w0-y0*w2)-(y1*w0-y0*w1)*(x2*w0-x0*w2)=w0*D2 x0 y0 w0 x1 y1 w1 x2 y2 w2:=by
  unfold D2;grind
 generalize y2*w0-y0*w2=V1,x2*w0-x0*w2=V0,y1*w0-y0*w1=U1,x1*w0-x0*w1=U0,w0*D2 x0 y0 w0 x1 y1 w1 x2 y2 w2=D at *;have m1:=eO bu bv2;have m2:=eO bv bu2;generalize v2 x2 y2 w2=R,v2 x1 y1 w1=Q,v2 x0 y0 w0=P at *;have et:jW [.pv (.lst [.lst [.int U0,.int U1],.lst [.int V0,.int V1]])] S=.ok (.pv (.int D)) S:=by
  unfold jW aV pU;simp! [aE,bB,bD,aN,aS,aR,aP,aQ,aH,aO,m1,m2,id]
 unfold oJ aV wG;rcases hA with rfl |rfl
 .have s1:=wT P [Q,R]
  simp! [aE,bB,bD,aN,aS,aR,aP,aQ,aH,aO,bQ,bV,cO,fV,dX,eY,iH,s1,cT,fI,fA,gN,a1,a2,et]
 .have s1:=Nd P [Q,R]
  simp! [aE,bB,bD,aN,aS,aR,aP,aQ,aH,aO,bQ,bV,cO,fV,dX,eY,iH,s1,cT,fI,fA,gN,a1,a2,et]
theorem A4{A:PV}{x0 y0 z0 w0 x1 y1 z1 w1 x2 y2 z2 w2 x3 y3 z3 w3:Int}(S:aG)(hA:Sv A [v3 x0 y0 z0 w0,v3 x1 y1 z1 w1,v3 x2 y2 z2 w2,v3 x3 y3 z3 w3])(p:P3 x0 y0 z0 w0)(q:P3 x1 y1 z1 w1)(r:P3 x2 y2 z2 w2)(s:P3 x3 y3 z3 w3):oJ [.pv A] S=.ok (.pv (.int (w0*w0*D3 x0 y0 z0 w0 x1 y1 z1 w1 x2 y2 z2 w2 x3 y3 z3 w3))) S:=by
 have a1:=sW S p q;have a2:=sW S p r;have a3:=sW S p s;have b1:=sb p.bx p.bw q.bx q.bw;have b2:=sb p.by_ p.bw q.by_ q.bw;have b3:=sb p.bz p.bw q.bz q.bw;have b4:=sb p.bx p.bw r.bx r.bw;have b5:=sb p.by_ p.bw r.by_ r.bw;have b6:=sb p.bz p.bw r.bz r.bw;have b7:=sb p.bx p.bw s.bx s.bw;have b8:=sb p.by_ p.bw s.by_ s.bw;have b9:=sb p.bz p.bw s.bz s.bw;have id:=ab3 x0 y0 z0 w0 x1 y1 z1 w1 x2 y2 z2 w2 x3 y3 z3 w3;generalize z3*w0-z0*w3=T2,y3*w0-y0*w3=T1,x3*w0-x0*w3=T0,z2*w0-z0*w2=V2,y2*w0-y0*w2=V1,x2*w0-x0*w2=V0,z1*w0-z0*w1=U2,y1*w0-y0*w1=U1,x1*w0-x0*w1=U0,w0*w0*D3 x0 y0 z0 w0 x1 y1 z1 w1 x2 y2 z2 w2 x3 y3 z3 w3=D at *;have h:∀{a:Int},Bd 2001 a->Bd 10000 a:=λh=>h.mono (by decide);have h4:∀{a:Int},Bd 4003 a->Bd 100000 a:=λh=>h.mono (by decide);have h2:∀{a:Int},Bd 2001 a->Bd 100000 a:=λh=>h.mono (by decide);have en:=Na (A:=.lst [.int U0,.int U1,.int U2]) (B:=.lst [.int V0,.int V1,.int V2]) S rfl rfl (h b1) (h b2) (h b3) (h b4) (h b5) (h b6);have c1:=cb b2 b6 b3 b5;have c2:=cb b3 b4 b1 b6;have c3:=cb b1 b5 b2 b4;have ed:=Bm (A:=.lst [.int (U1*V2-U2*V1),.int (U2*V0-U0*V2),.int (U0*V1-U1*V0)]) (B:=.lst [.int T0,.int T1,.int T2]) (us:=[U1*V2-U2*V1,U2*V0-U0*V2,U0*V1-U1*V0]) (vs:=[T0,T1,T2]) S (.inl rfl) (.inl rfl) (by simp;exact⟨h4 c1,h4 c2,h4 c3⟩) (by simp;exact⟨h2 b7,h2 b8,h2 b9⟩);rw[id]at ed;generalize v3 x3 y3 z3 w3=T,v3 x2 y2 z2 w2=R,v3 x1 y1 z1 w1=Q,v3 x0 y0 z0 w0=P,U0*V1-U1*V0=N2,U2*V0-U0*V2=N1,U1*V2-U2*V1=N0 at *;have et:jW [.pv (.lst [.lst [.int U0,.int U1,.int U2],.lst [.int V0,.int V1,.int V2],.lst [.int T0,.int T1,.int T2]])] S=.ok (.pv (.int D)) S:=by
  unfold jW aV pU;simp! [aE,bB,bD,aN,aS,aR,aP,aQ,aH,aO,en,ed]
 unfold oJ aV wG;rcases hA with rfl |rfl
 .have s1:=wT P [Q,R,T]
  simp! [aE,bB,bD,aN,aS,aR,aP,aQ,aH,aO,bQ,bV,cO,fV,dX,eY,iH,s1,cT,fI,fA,gN,a1,a2,a3,et]
 .have s1:=Nd P [Q,R,T]
  simp! [aE,bB,bD,aN,aS,aR,aP,aQ,aH,aO,bQ,bV,cO,fV,dX,eY,iH,s1,cT,fI,fA,gN,a1,a2,a3,et]
theorem acK{S:aG}{k:Nat}{ns:AA}(n:Nat)(hn:n=2\/n=3)(h:fG S k ns):∃(v:PV)(ns':AA),mZ [.ref k,.pv (.int n)] S=.ok (.pv v) (S.set k (.lst (ns'.map .int)))/\Gp n 100 v:=by
 obtain⟨xs,w,n1,e1,P,b1,b2⟩:=Y5 n hn h;exact⟨_,n1,e1,xs,w,rfl,P.pq b1 b2⟩
theorem Gn(ns:AA):∃g:Int,0<g/\ns=(low ns).map (g*·):=by
 by_cases h:gl ns 0=0
 .refine⟨1,by decide,?_⟩
  unfold low;rw[if_pos h];simp
 .have:=Ed ns 0 (rq 0)
  exact⟨gl ns 0,by omega,(S5 h).symm⟩
theorem Jy(ns:AA):low (ns.map (- ·))=(low ns).map (- ·):=by
 have e:gl (ns.map (- ·)) 0=gl ns 0:=by
  rw[<-M2 ns];exact congrArg (λl=>gl l 0) (di λx _=>by omega)
 unfold low;rw[e];split
 .rfl
 .rw[dy,dy]
  refine di λx hx=>?_;exact Int.neg_ediv_of_dvd ((jO ns 0).2 x hx)
theorem A3{S:aG}{k:Nat}{ns:AA}{L:AH}(h:fG S k ns):∃(A:PV)(ns':AA),pH [.ref k,.pv (.lst L)] S=.ok (.pv A) (S.set k (.lst (ns'.map .int)))/\Sv A L:=by
 obtain⟨t,n1,e1,t0,t1,_⟩:=jK (m:=2) h (by decide) (lG (by decide) (by decide));have tk:=Gj S k (.lst (n1.map .int));generalize hS:S.set k (.lst (n1.map .int))=S1 at e1 tk
 by_cases ht:t=1
 .subst ht
  refine⟨.tup L,n1,?_,.inr rfl⟩;rw[hS];unfold pH aV uN;simp! [aE,bB,bD,aN,aS,aR,aP,aQ,aH,aO,e1,tk]
 .refine⟨.lst L,n1,?_,.inl rfl⟩
  rw[hS];unfold pH aV uN;simp! [aE,bB,bD,aN,aS,aR,aP,aQ,aH,aO,e1,tk,ht]
def B2(x0 y0 w0 x1 y1 w1:Int):AA:=[-(y1*w0-y0*w1),x1*w0-x0*w1,x0*y1-y0*x1]
def N3(x0 y0 z0 w0 x1 y1 z1 w1 x2 y2 z2 w2:Int):AA:=[(y1*w0-y0*w1)*(z2*w0-z0*w2)-(z1*w0-z0*w1)*(y2*w0-y0*w2),(z1*w0-z0*w1)*(x2*w0-x0*w2)-(x1*w0-x0*w1)*(z2*w0-z0*w2),(x1*w0-x0*w1)*(y2*w0-y0*w2)-(y1*w0-y0*w1)*(x2*w0-x0*w2)]
theorem L8{G:Gd}{g:GM}{me:ME}{x:PV}{r:AH}{ρ:bT}{S:aG}(h:gZ G S):cM G g me (x::r) ρ S=(match g x ρ with
  |none=>.fail
  |some ρ1=>match me ρ1 S with
   |.ok (.pv y) S1=>match cM G g me r ρ1 S1 with
    |.ok ys S2=>.ok (y::ys) S2
    |_=>.fail
   |_=>.fail):=by
 rw[cM,if_pos h]
 all_goals rfl
theorem Yz{G:Gd}{g:GM}{me:ME}{ρ:bT}{S:aG}(h:gZ G S):cM G g me [] ρ S=.ok [] S:=by
 rw[cM,if_pos h]
theorem Fl(a b c x0 y0 w0 x1 y1 w1 x2 y2 w2:Int):D2 (a*x0) (a*y0) (a*w0) (b*x1) (b*y1) (b*w1) (c*x2) (c*y2) (c*w2)=a*b*c*D2 x0 y0 w0 x1 y1 w1 x2 y2 w2:=by
 unfold D2;grind
theorem Ck(a b c d x0 y0 z0 w0 x1 y1 z1 w1 x2 y2 z2 w2 x3 y3 z3 w3:Int):D3 (a*x0) (a*y0) (a*z0) (a*w0) (b*x1) (b*y1) (b*z1) (b*w1) (c*x2) (c*y2) (c*z2) (c*w2) (d*x3) (d*y3) (d*z3) (d*w3)=a*b*c*d*D3 x0 y0 z0 w0 x1 y1 z1 w1 x2 y2 z2 w2 x3 y3 z3 w3:=by
 unfold D3;grind
structure R2(x y w X Y D:Int):Prop where
 pos:0<w
 dos:0<D
 ex:x*D=X*w
 ey:y*D=Y*w
theorem Pq.p2{k:Nat}{x y w:Int}(P:Pq 2 k [x,y] w)(h:k<=1000):P2 x y w:=⟨(P.bx x (by simp)).mono h,(P.bx y (by simp)).mono h,P.bw.mono h,P.pos⟩
theorem Pq.p3{k:Nat}{x y z w:Int}(P:Pq 3 k [x,y,z] w)(h:k<=1000):P3 x y z w:=⟨(P.bx x (by simp)).mono h,(P.bx y (by simp)).mono h,(P.bx z (by simp)).mono h,P.bw.mono h,P.pos⟩
def yD:AH->Int
 |[.tup [.int x0,.int y0,.int w0],.tup [.int x1,.int y1,.int w1],.tup [.int x2,.int y2,.int w2]]=>sg (D2 x0 y0 w0 x1 y1 w1 x2 y2 w2)
 |[.tup [.int x0,.int y0,.int z0,.int w0],.tup [.int x1,.int y1,.int z1,.int w1],.tup [.int x2,.int y2,.int z2,.int w2],.tup [.int x3,.int y3,.int z3,.int w3]]=>sg (D3 x0 y0 z0 w0 x1 y1 z1 w1 x2 y2 z2 w2 x3 y3 z3 w3)
 |_=>0
theorem aaN(D:Int):sg (-D)=-sg D:=by
 unfold sg;split<;>split<;>(try split)<;>(try split)<;>omega
abbrev tv(us:AA):PV:=.tup (us.map .int)
def Gu(n k:Nat)(us:AA):Prop:=∃xs w,us=xs++[w]/\Pq n k xs w
theorem Gu.gp{n k:Nat}{us:AA}(h:Gu n k us):Gp n k (tv us):=by
 obtain⟨xs,w,rfl,P⟩:=h;exact⟨xs,w,rfl,P⟩
theorem Gu.ne{n k:Nat}{us:AA}(h:Gu n k us):us≠[]:=by
 obtain⟨xs,w,rfl,P⟩:=h;simp
theorem gps{n k:Nat}{uss:AB}(h:∀us∈uss,Gu n k us):∀v∈uss.map tv,Gp n k v:=λv hv=>by
 obtain⟨us,hu,rfl⟩:=dz.mp hv;exact(h us hu).gp
theorem Ng:∀uss:AB,iG (uss.map tv)=some uss
 |[]=>rfl
 |us::uss=>by
  have ih:=Ng uss;show(match iV (us.map .int),iG (uss.map tv)with |some is,some uss=>some (is::uss) |_,_=>none)=_
  rw[ih,yU]
theorem Xh{uss:AB}{n:Nat}(hl:uss.length=n)(hp:(dG uss).Perm (az n)):Jd (uss.map tv) uss=(eQ uss).map tv:=by
 unfold Jd eQ;rw[dy];refine di λi hi=>?_;have h:i<uss.length:=by
  have:=hp.subset hi;rw[hl];simpa using this
 simp[br,h]
theorem Vu{A:PV}{uss:AB}(hl:uss.length=3\/uss.length=4)(hA:Sv A (uss.map tv))(hne:∀us∈uss,us≠[]):rQ [A]=some (.lst ((eQ uss).map tv)):=by
 have e:qC (uss.map tv)=some (.lst ((eQ uss).map tv)):=by
  unfold qC;rw[Ng];dsimp only;rcases hl with h |h
  .obtain⟨_,hp,_⟩:=Cn h
   rw[if_pos (show Yc uss from⟨by omega,by omega,by rw[h];exact Uq,by rw[hp.length_eq];simp,hne⟩),Xh h hp]
  .obtain⟨_,hp,_⟩:=Sm h
   rw[if_pos (show Yc uss from⟨by omega,by omega,by rw[h];exact Kr,by rw[hp.length_eq];simp,hne⟩),Xh h hp]
 rcases hA with rfl |rfl
 .exact e
 .exact e
def oX{α:Type}:List α->List α
 |[a,b,c]=>[a,c,b]
 |[a,b,c,d]=>[a,b,d,c]
 |l=>l
theorem V5{α β:Type}(f:α->β)(l:List α):(oX l).map f=oX (l.map f):=by
 rcases l with _ |⟨a,_ |⟨b,_ |⟨c,_ |⟨d,_ |⟨e,l⟩⟩⟩⟩⟩<;>rfl
theorem E4{α:Type}(l:List α):(oX l).Perm l:=by
 unfold oX;split
 .exact .cons _ (.swap _ _ _)
 .exact .cons _ (.cons _ (.swap _ _ _))
 .exact .refl _
def dU:AB->Int
 |[[x0,y0,w0],[x1,y1,w1],[x2,y2,w2]]=>D2 x0 y0 w0 x1 y1 w1 x2 y2 w2
 |[[x0,y0,z0,w0],[x1,y1,z1,w1],[x2,y2,z2,w2],[x3,y3,z3,w3]]=>D3 x0 y0 z0 w0 x1 y1 z1 w1 x2 y2 z2 w2 x3 y3 z3 w3
 |_=>0
theorem Gu.two{k:Nat}{us:AA}(h:Gu 2 k us)(hk:k<=1000):∃x y w,us=[x,y,w]/\P2 x y w:=by
 obtain⟨xs,w,rfl,P⟩:=h
 match xs,P.len,P with
 |[x,y],_,P=>exact⟨x,y,w,rfl,P.p2 hk⟩
theorem Gu.three{k:Nat}{us:AA}(h:Gu 3 k us)(hk:k<=1000):∃x y z w,us=[x,y,z,w]/\P3 x y z w:=by
 obtain⟨xs,w,rfl,P⟩:=h
 match xs,P.len,P with
 |[x,y,z],_,P=>exact⟨x,y,z,w,rfl,P.p3 hk⟩
theorem aaL{n k:Nat}(hn:n=2\/n=3)(hk:k<=1000){uss:AB}(hl:uss.length=n+1)(hg:∀us∈uss,Gu n k us):yD (uss.map tv)=sg (dU uss):=by
 rcases hn with rfl |rfl
 .match uss,hl with
  |[a,b,c],_=>
   obtain⟨x0,y0,w0,rfl,_⟩:=(hg a (by simp)).two hk;obtain⟨x1,y1,w1,rfl,_⟩:=(hg b (by simp)).two hk;obtain⟨x2,y2,w2,rfl,_⟩:=(hg c (by simp)).two hk;rfl
 .match uss,hl with
  |[a,b,c,d],_=>
   obtain⟨x0,y0,z0,w0,rfl,_⟩:=(hg a (by simp)).three hk;obtain⟨x1,y1,z1,w1,rfl,_⟩:=(hg b (by simp)).three hk;obtain⟨x2,y2,z2,w2,rfl,_⟩:=(hg c (by simp)).three hk;obtain⟨x3,y3,z3,w3,rfl,_⟩:=(hg d (by simp)).three hk;rfl
def Pw(n:Nat)(us:AA):Prop:=∃xs w,us=xs++[w]/\xs.length=n/\0<w
theorem Pw.two{us:AA}(h:Pw 2 us):∃x y w,us=[x,y,w]/\0<w:=by
 obtain⟨xs,w,rfl,l,p⟩:=h
 match xs,l with
 |[x,y],_=>exact⟨x,y,w,rfl,p⟩
theorem Pw.three{us:AA}(h:Pw 3 us):∃x y z w,us=[x,y,z,w]/\0<w:=by
 obtain⟨xs,w,rfl,l,p⟩:=h
 match xs,l with
 |[x,y,z],_=>exact⟨x,y,z,w,rfl,p⟩
theorem Gu.pt{n k:Nat}{us:AA}(h:Gu n k us):Pw n us:=by
 obtain⟨xs,w,e,P⟩:=h;exact⟨xs,w,e,P.len,P.pos⟩
theorem dU2{x0 y0 w0 x1 y1 w1 x2 y2 w2:Int}:dU [[x0,y0,w0],[x1,y1,w1],[x2,y2,w2]]=D2 x0 y0 w0 x1 y1 w1 x2 y2 w2:=rfl
theorem Ps{x0 y0 z0 w0 x1 y1 z1 w1 x2 y2 z2 w2 x3 y3 z3 w3:Int}:dU [[x0,y0,z0,w0],[x1,y1,z1,w1],[x2,y2,z2,w2],[x3,y3,z3,w3]]=D3 x0 y0 z0 w0 x1 y1 z1 w1 x2 y2 z2 w2 x3 y3 z3 w3:=rfl
theorem S9{n:Nat}(hn:n=2\/n=3){pre l:AB}{x y:AA}(hl:(pre++y::x::l).length=n+1)(hp:∀u∈pre++y::x::l,Pw n u):dU (pre++x::y::l)=-dU (pre++y::x::l):=by
 have hx:=hp x (by simp);have hy:=hp y (by simp);rcases hn with rfl |rfl
 .obtain⟨x0,y0,w0,rfl,_⟩:=hx.two
  obtain⟨x1,y1,w1,rfl,_⟩:=hy.two;have fin:∀c∈pre++l,∃x y w,c=[x,y,w]:=λc hc=>by
   obtain⟨x,y,w,e,_⟩:=(hp c (by simp at hc⊢;rcases hc with h |h<;>simp[h])).two;exact⟨x,y,w,e⟩
  match pre,l,hl,fin with
  |[],[c],_,fin |[c],[],_,fin=>
   obtain⟨x2,y2,w2,rfl⟩:=fin c (by simp);simp only[kd,uj,dU2,D2];grind
  |[],[],h,_=>simp at h
  |[],_::_::_,h,_=>simp at h
  |_::_::_,_,h,_=>simp at h;omega
  |[_],_::_,h,_=>simp at h
 .obtain⟨x0,y0,z0,w0,rfl,_⟩:=hx.three
  obtain⟨x1,y1,z1,w1,rfl,_⟩:=hy.three;have fin:∀c∈pre++l,∃x y z w,c=[x,y,z,w]:=λc hc=>by
   obtain⟨x,y,z,w,e,_⟩:=(hp c (by simp at hc⊢;rcases hc with h |h<;>simp[h])).three;exact⟨x,y,z,w,e⟩
  match pre,l,hl,fin with
  |[],[c,d],_,fin |[c],[d],_,fin |[c,d],[],_,fin=>
   obtain⟨x2,y2,z2,w2,rfl⟩:=fin c (by simp);obtain⟨x3,y3,z3,w3,rfl⟩:=fin d (by simp);simp only[kd,uj,Ps,D3];grind
  |[],[],h,_=>simp at h
  |[],[_],h,_=>simp at h
  |[],_::_::_::_,h,_=>simp at h
  |[_],[],h,_=>simp at h
  |[_],_::_::_,h,_=>simp at h
  |[_,_],_::_,h,_=>simp at h
  |_::_::_::_,_,h,_=>simp at h;omega
theorem K9{n:Nat}(hn:n=2\/n=3){A B:AB}(h:A.Perm B):∀pre:AB,(pre++A).length=n+1->(∀u∈pre++A,Pw n u)->dU (pre++B)=dU (pre++A)\/dU (pre++B)=-dU (pre++A):=by
 induction h with
 |nil=>exact λpre _ _=>.inl rfl
 |cons x _ ih=>
  intro pre hl hp;have:=ih (pre++[x]) (by simpa using hl) (by simpa using hp);simpa using this
 |swap x y l=>exact λpre hl hp=>.inr (S9 hn hl hp)
 |trans h1 h2 ih1 ih2=>
  intro pre hl hp;have q1:=ih1 pre hl hp;have q2:=ih2 pre (by rw[<-(h1.append_left pre).length_eq];exact hl) λu hu=>hp u ((h1.append_left pre).mem_iff.mpr hu);omega
theorem Q8{n k:Nat}(hn:n=2\/n=3)(hk:k<=1000){uss:AB}(hl:uss.length=n+1)(hg:∀us∈uss,Gu n k us):dU (eQ uss)=dU uss\/dU (eQ uss)=-dU uss:=
 K9 hn (pB (by omega)).1.symm [] hl λu hu=>(hg u hu).pt
theorem Wc{n:Nat}(hn:n=2\/n=3){uss:AB}(hl:uss.length=n+1):uss.length=3\/uss.length=4:=by
 rcases hn with rfl |rfl
 .exact .inl hl
 .exact .inr hl
theorem M7{n:Nat}(hn:n=2\/n=3){A:PV}{L:AH}(S:aG)(hl:L.length=n+1)(hg:∀v∈L,Gp n 1000 v)(hA:Sv A L):∃d:Int,oJ [.pv A] S=.ok (.pv (.int d)) S/\sg d=yD L:=by
 rcases hn with rfl |rfl
 .match L,hl with
  |[P,Q,R],_=>
   obtain⟨x0,y0,w0,rfl,p⟩:=(hg P (by simp)).two;obtain⟨x1,y1,w1,rfl,q⟩:=(hg Q (by simp)).two;obtain⟨x2,y2,w2,rfl,r⟩:=(hg R (by simp)).two;exact⟨_,A0 S hA p q r,vS p.pos⟩
 .match L,hl with
  |[P,Q,R,T],_=>
   obtain⟨x0,y0,z0,w0,rfl,p⟩:=(hg P (by simp)).three;obtain⟨x1,y1,z1,w1,rfl,q⟩:=(hg Q (by simp)).three;obtain⟨x2,y2,z2,w2,rfl,r⟩:=(hg R (by simp)).three;obtain⟨x3,y3,z3,w3,rfl,s⟩:=(hg T (by simp)).three;exact⟨_,A4 S hA p q r s,vS (ca p.pos p.pos)⟩
def iD(uss:AB):AB:=if yD ((eQ uss).map tv)<0 then oX (eQ uss)else eQ uss
theorem abT{n:Nat}(hn:n=2\/n=3){L:AH}(hl:L.length=n+1):∃a b M,kF (.lst L) none (some (-2))=some (.lst M)/\aE (.lst L) (.int (-1))=some a/\aE (.lst L) (.int (-2))=some b/\aH (.lst M) (.lst [a,b])=some (.lst (oX L)):=by
 rcases hn with rfl |rfl
 .match L,hl with
  |[P,Q,R],_=>exact⟨R,Q,[P],rfl,rfl,rfl,rfl⟩
 .match L,hl with
  |[P,Q,R,T],_=>exact⟨T,R,[P,Q],rfl,rfl,rfl,rfl⟩
theorem Hu{n:Nat}(hn:n=2\/n=3){A:PV}{a:AV}{uss:AB}(S:aG)(ha:rd S a=some A)(hl:uss.length=n+1)(hg:∀us∈uss,Gu n 1000 us)(hA:Sv A (uss.map tv)):nX [a] S=.ok (.pv (.tup ((iD uss).map tv))) S:=by
 have h34:uss.length=3\/uss.length=4:=by omega
 have e1:=Vu h34 hA λus hu=>(hg us hu).ne;obtain⟨pm,_⟩:=pB h34;have hl2:((eQ uss).map tv).length=n+1:=by rw[am,pm.length_eq];exact hl
 have hg2:∀v∈(eQ uss).map tv,Gp n 1000 v:=gps λus hu=>hg us (pm.subset hu);obtain⟨d,e2,hd⟩:=M7 (A:=.lst ((eQ uss).map tv)) hn S hl2 hg2 (.inl rfl);obtain⟨a1,b1,M,t1,t2,t3,t4⟩:=abT hn hl2;unfold iD;have hlt:d<0↔yD ((eQ uss).map tv)<0:=by
  rw[<-hd];unfold sg;split
  .omega
  .split<;>omega
 by_cases h:d<0
 .rw[if_pos (hlt.mp h),V5]
  generalize (eQ uss).map tv=L at *;unfold nX aV uE;simp! [-rd,rd.eq_1,bY,aS,aR,aP,aQ,aO,ha,e1,e2,h,fV,dX,eY,iH,t1,t2,t3,t4]
 .rw[if_neg (λz=>h (hlt.mpr z))]
  generalize (eQ uss).map tv=L at *;unfold nX aV uE;simp! [-rd,rd.eq_1,bY,aS,aR,aP,aQ,aO,ha,e1,e2,h]
theorem Zt{n:Nat}(hn:n=2\/n=3){A:PV}{uss:AB}(S:aG)(hl:uss.length=n+1)(hg:∀us∈uss,Gu n 1000 us)(hA:Sv A (uss.map tv)):nX [.pv A] S=.ok (.pv (.tup ((iD uss).map tv))) S:=Hu hn S rfl hl hg hA
theorem Lk{uss:AB}(h:uss.length=3\/uss.length=4):(iD uss).Perm uss:=by
 obtain⟨pm,_⟩:=pB h;unfold iD;split
 .exact(E4 _).trans pm
 .exact pm
theorem K1{uss:AB}(h:uss.length=3\/uss.length=4):iD (iD uss)=iD uss:=by
 have e:=Ht (Lk h) h;unfold iD at e⊢;rw[e]
theorem aaR{S:aG}{k j:Nat}{xs:AH}{v:PV}(hS:S[k]?=some (.lst xs))(hv:xs[j]?=some v)(hj:j<1000):oN k [.pv (.int (j:Int))] S=.ok (.pv v) (S.set k (.lst (xs.eraseIdx j))):=by
 have hl:=(bo.mp hv).1;have e:seqIndex? (j:Int) xs.length=some j:=by
  unfold seqIndex?;have h1:¬((j:Int)<0):=by omega
  have h2:(decide (0<=(j:Int))&&decide ((j:Int)<(xs.length:Int)))=true:=by
   simp only[iy,decide_eq_true_eq];omega
  simp only[h1,if_false];rw[if_pos h2,lc]
 unfold oN;dsimp only;rw[if_pos ⟨by omega,by omega⟩,hS];dsimp only;rw[e];dsimp only;rw[hv]
def wU:AB->Int
 |[]=>1
 |us::r=>us.getLastD 0*wU r
theorem Gu.mono{n k l:Nat}{us:AA}(h:Gu n k us)(hl:k<=l):Gu n l us:=by
 obtain⟨xs,w,e,P⟩:=h;exact⟨xs,w,e,P.mono hl⟩
theorem Fr{d:Int}:sg d<0↔d<0:=by
 unfold sg;split
 .omega
 .split<;>omega
theorem aax{n k:Nat}(hn:n=2\/n=3)(hk:k<=1000){uss:AB}(hl:uss.length=n+1)(hg:∀us∈uss,Gu n k us):dU (oX uss)=-dU uss:=by
 rcases hn with rfl |rfl
 .match uss,hl with
  |[a,b,c],_=>
   obtain⟨x0,y0,w0,rfl,_⟩:=(hg a (by simp)).two hk;obtain⟨x1,y1,w1,rfl,_⟩:=(hg b (by simp)).two hk;obtain⟨x2,y2,w2,rfl,_⟩:=(hg c (by simp)).two hk;show D2 x0 y0 w0 x2 y2 w2 x1 y1 w1=-(D2 x0 y0 w0 x1 y1 w1 x2 y2 w2);unfold D2;grind
 .match uss,hl with
  |[a,b,c,d],_=>
   obtain⟨x0,y0,z0,w0,rfl,_⟩:=(hg a (by simp)).three hk;obtain⟨x1,y1,z1,w1,rfl,_⟩:=(hg b (by simp)).three hk;obtain⟨x2,y2,z2,w2,rfl,_⟩:=(hg c (by simp)).three hk;obtain⟨x3,y3,z3,w3,rfl,_⟩:=(hg d (by simp)).three hk;show D3 x0 y0 z0 w0 x1 y1 z1 w1 x3 y3 z3 w3 x2 y2 z2 w2=-(D3 x0 y0 z0 w0 x1 y1 z1 w1 x2 y2 z2 w2 x3 y3 z3 w3);unfold D3;grind
theorem X7{n k:Nat}(hn:n=2\/n=3)(hk:k<=1000){uss:AB}(hl:uss.length=n+1)(hg:∀us∈uss,Gu n k us):dU (iD uss)=((dU uss).natAbs:Int):=by
 have hp:=(pB (Wc hn hl)).1;have gs:∀us∈eQ uss,Gu n k us:=λus hu=>hg us (hp.subset hu);have ls:(eQ uss).length=n+1:=by rw[hp.length_eq,hl]
 have e:=Q8 hn hk hl hg;have s:=aax hn hk ls gs;have q:=aaL hn hk ls gs;unfold iD;split
 .rename_i h
  rw[q,Fr]at h;rw[s];omega
 .rename_i h
  rw[q,Fr]at h;omega
theorem sI{n k:Nat}:∀{uss:AB},(∀us∈uss,Gu n k us)->0<wU uss
 |[],_=>by decide
 |us::r,h=>by
  unfold wU;obtain⟨xs,w,rfl,P⟩:=h us ay;refine ca ?_ (sI λu hu=>h u (bn _ hu));rw[show(xs++[w]).getLastD 0=w by simp];exact P.pos
structure Sx(n k:Nat)(uss:AB):Prop where
 len:uss.length=n+1
 gu:∀us∈uss,Gu n k us
 nz:dU uss≠0
 cn:iD uss=uss
abbrev px(uss:AB):PV:=.tup (uss.map tv)
theorem abN{n k:Nat}(hn:n=2\/n=3)(hk:k<=1000){uss:AB}(hl:uss.length=n+1)(hg:∀us∈uss,Gu n k us)(nz:dU uss≠0):Sx n k (iD uss):=by
 have hp:=Lk (Wc hn hl);refine⟨by rw[hp.length_eq,hl],λus hu=>hg us (hp.subset hu),?_,K1 (Wc hn hl)⟩;rw[X7 hn hk hl hg];omega
def iQ(n:Nat)(A C:Nat->Int)(E:Int)(us us':AA):Prop:=∃xs w xs' w',us=xs++[w]/\us'=xs'++[w']/\xs.length=n/\xs'.length=n/\0<w/\0<w'/\∀j,j<n->xs'.getD j 0*(E*w)=(A j*xs.getD j 0+C j*w)*w'
theorem iQ.two{A C:Nat->Int}{E:Int}{us us':AA}(h:iQ 2 A C E us us'):∃x y w x' y' w',us=[x,y,w]/\us'=[x',y',w']/\x'*(E*w)=(A 0*x+C 0*w)*w'/\y'*(E*w)=(A 1*y+C 1*w)*w':=by
 obtain⟨xs,w,xs',w',rfl,rfl,l,l',_,_,h⟩:=h
 match xs,l,xs',l',h with
 |[x,y],_,[x',y'],_,h=>exact⟨x,y,w,x',y',w',rfl,rfl,h 0 (by decide),h 1 (by decide)⟩
theorem iQ.three{A C:Nat->Int}{E:Int}{us us':AA}(h:iQ 3 A C E us us'):∃x y z w x' y' z' w',us=[x,y,z,w]/\us'=[x',y',z',w']/\x'*(E*w)=(A 0*x+C 0*w)*w'/\y'*(E*w)=(A 1*y+C 1*w)*w'/\z'*(E*w)=(A 2*z+C 2*w)*w':=by
 obtain⟨xs,w,xs',w',rfl,rfl,l,l',_,_,h⟩:=h
 match xs,l,xs',l',h with
 |[x,y,z],_,[x',y',z'],_,h=>exact⟨x,y,z,w,x',y',z',w',rfl,rfl,h 0 (by decide),h 1 (by decide),h 2 (by decide)⟩
theorem ab9(a b c d E x0 y0 w0 x1 y1 w1 x2 y2 w2:Int):D2 (a*x0+c*w0) (b*y0+d*w0) (E*w0) (a*x1+c*w1) (b*y1+d*w1) (E*w1) (a*x2+c*w2) (b*y2+d*w2) (E*w2)=a*b*E*D2 x0 y0 w0 x1 y1 w1 x2 y2 w2:=by
 unfold D2;grind
theorem abl(a b p c d e E x0 y0 z0 w0 x1 y1 z1 w1 x2 y2 z2 w2 x3 y3 z3 w3:Int):D3 (a*x0+c*w0) (b*y0+d*w0) (p*z0+e*w0) (E*w0) (a*x1+c*w1) (b*y1+d*w1) (p*z1+e*w1) (E*w1) (a*x2+c*w2) (b*y2+d*w2) (p*z2+e*w2) (E*w2) (a*x3+c*w3) (b*y3+d*w3) (p*z3+e*w3) (E*w3)=a*b*p*E*D3 x0 y0 z0 w0 x1 y1 z1 w1 x2 y2 z2 w2 x3 y3 z3 w3:=by
 unfold D3;grind
theorem cm(a b:Int){c:Int}(h:a*b=c):b*a=c:=by rw[dn];exact h
theorem Mr{A C:Nat->Int}{E:Int}{P Q R P' Q' R':AA}(h0:iQ 2 A C E P P')(h1:iQ 2 A C E Q Q')(h2:iQ 2 A C E R R'):dU [P',Q',R']*(E*E*E*wU [P,Q,R])=A 0*A 1*E*dU [P,Q,R]*wU [P',Q',R']:=by
 obtain⟨x0,y0,w0,X0,Y0,W0,rfl,rfl,p,q⟩:=h0.two;obtain⟨x1,y1,w1,X1,Y1,W1,rfl,rfl,p1,q1⟩:=h1.two;obtain⟨x2,y2,w2,X2,Y2,W2,rfl,rfl,p2,q2⟩:=h2.two;have e:=Fl (E*w0) (E*w1) (E*w2) X0 Y0 W0 X1 Y1 W1 X2 Y2 W2;have f:=Fl W0 W1 W2 (A 0*x0+C 0*w0) (A 1*y0+C 1*w0) (E*w0) (A 0*x1+C 0*w1) (A 1*y1+C 1*w1) (E*w1) (A 0*x2+C 0*w2) (A 1*y2+C 1*w2) (E*w2);rw[ab9]at f;rw[cm _ _ p,cm _ _ q,cm _ _ p1,cm _ _ q1,cm _ _ p2,cm _ _ q2,dn _ W0,dn _ W0,dn _ W0,dn _ W1,dn _ W1,dn _ W1,dn _ W2,dn _ W2,dn _ W2]at e;have g:=e.symm.trans f;show D2 X0 Y0 W0 X1 Y1 W1 X2 Y2 W2*(E*E*E*(w0*(w1*(w2*1))))=A 0*A 1*E*D2 x0 y0 w0 x1 y1 w1 x2 y2 w2*(W0*(W1*(W2*1)));generalize D2 X0 Y0 W0 X1 Y1 W1 X2 Y2 W2=d at g⊢;generalize D2 x0 y0 w0 x1 y1 w1 x2 y2 w2=d' at g⊢;clear e f p q p1 q1 p2 q2 h0 h1 h2;grind
theorem Xr{A C:Nat->Int}{E:Int}{P Q R T P' Q' R' T':AA}(h0:iQ 3 A C E P P')(h1:iQ 3 A C E Q Q')(h2:iQ 3 A C E R R')(h3:iQ 3 A C E T T'):dU [P',Q',R',T']*(E*E*E*E*wU [P,Q,R,T])=A 0*A 1*A 2*E*dU [P,Q,R,T]*wU [P',Q',R',T']:=by
 obtain⟨x0,y0,z0,w0,X0,Y0,Z0,W0,rfl,rfl,p,q,r⟩:=h0.three;obtain⟨x1,y1,z1,w1,X1,Y1,Z1,W1,rfl,rfl,p1,q1,r1⟩:=h1.three;obtain⟨x2,y2,z2,w2,X2,Y2,Z2,W2,rfl,rfl,p2,q2,r2⟩:=h2.three;obtain⟨x3,y3,z3,w3,X3,Y3,Z3,W3,rfl,rfl,p3,q3,r3⟩:=h3.three;have e:=Ck (E*w0) (E*w1) (E*w2) (E*w3) X0 Y0 Z0 W0 X1 Y1 Z1 W1 X2 Y2 Z2 W2 X3 Y3 Z3 W3;have f:=Ck W0 W1 W2 W3 (A 0*x0+C 0*w0) (A 1*y0+C 1*w0) (A 2*z0+C 2*w0) (E*w0) (A 0*x1+C 0*w1) (A 1*y1+C 1*w1) (A 2*z1+C 2*w1) (E*w1) (A 0*x2+C 0*w2) (A 1*y2+C 1*w2) (A 2*z2+C 2*w2) (E*w2) (A 0*x3+C 0*w3) (A 1*y3+C 1*w3) (A 2*z3+C 2*w3) (E*w3);rw[abl]at f;rw[cm _ _ p,cm _ _ q,cm _ _ r,cm _ _ p1,cm _ _ q1,cm _ _ r1,cm _ _ p2,cm _ _ q2,cm _ _ r2,cm _ _ p3,cm _ _ q3,cm _ _ r3]at e;have cW:∀a W:Int,a*W=W*a:=dn;rw[cW _ W0,cW _ W0,cW _ W0,cW _ W0,cW _ W1,cW _ W1,cW _ W1,cW _ W1,cW _ W2,cW _ W2,cW _ W2,cW _ W2,cW _ W3,cW _ W3,cW _ W3,cW _ W3]at e;have g:=e.symm.trans f;show D3 X0 Y0 Z0 W0 X1 Y1 Z1 W1 X2 Y2 Z2 W2 X3 Y3 Z3 W3*(E*E*E*E*(w0*(w1*(w2*(w3*1)))))=A 0*A 1*A 2*E*D3 x0 y0 z0 w0 x1 y1 z1 w1 x2 y2 z2 w2 x3 y3 z3 w3*(W0*(W1*(W2*(W3*1))));generalize D3 X0 Y0 Z0 W0 X1 Y1 Z1 W1 X2 Y2 Z2 W2 X3 Y3 Z3 W3=d at g⊢;generalize D3 x0 y0 z0 w0 x1 y1 z1 w1 x2 y2 z2 w2 x3 y3 z3 w3=d' at g⊢;clear e f p q r p1 q1 r1 p2 q2 r2 p3 q3 r3 h0 h1 h2 h3 cW;grind
def fT(way:Int)(f us:AA):AA:=mv way us.dropLast (us.getLastD 0) f.dropLast (f.getLastD 0)
theorem Rp(way:Int)(xs:AA)(w:Int)(ys:AA)(v:Int):fT way (ys++[v]) (xs++[w])=mv way xs w ys v:=by
 unfold fT;simp
theorem mW{n k l:Nat}{way:Int}{us f:AA}(hway:way=1\/way=-1)(h:Gu n k us)(g:Gu n l f):Gu n (k+l+1) (fT way f us)/\iQ n (λ_=>way*f.getLastD 0) (λj=>f.getD j 0) (f.getLastD 0) us (fT way f us):=by
 obtain⟨xs,w,rfl,P⟩:=h;obtain⟨ys,v,rfl,Q⟩:=g;rw[Rp];obtain⟨zs,z,e,Z,hv⟩:=ace hway P Q;rw[e];refine⟨⟨zs,z,rfl,Z⟩,xs,w,zs,z,rfl,rfl,P.len,Z.len,P.pos,Z.pos,λj hj=>?_⟩;have a:=hv _ _ _ _ (Vl.self n xs w) (Vl.self n ys v) P.pos Q.pos j hj;rw[show(ys++[v]).getLastD 0=v by simp];have eg:(ys++[v]).getD j 0=ys.getD j 0:=by
  have:j<ys.length:=by rw[Q.len];exact hj
  simp[br,ff this]
 dsimp only at a⊢;rw[eg];generalize ys.getD j 0=y at a⊢;generalize xs.getD j 0=x at a⊢;generalize zs.getD j 0=t at a⊢;rw[dn v w,a];grind
theorem N9{n k l:Nat}{way:Int}{us f:AA}(S:aG)(hn:n=2\/n=3)(hway:way=1\/way=-1)(h:Gu n k us)(g:Gu n l f)(hk:k<=1000)(hl:l<=1000):mM [.pv (tv us),.pv (tv f),.pv (.int way)] S=.ok (.pv (tv (fT way f us))) S:=by
 obtain⟨xs,w,rfl,P⟩:=h;obtain⟨ys,v,rfl,Q⟩:=g;rw[Rp];exact J2 S hn hway P Q hk hl
theorem Hw{a b w v:Int}(hw:0<w)(hv:0<v)(h:a*w=b*v\/a*w=-(b*v)):(a.natAbs:Int)*w=(b.natAbs:Int)*v:=by
 have e:(a*w).natAbs=(b*v).natAbs:=by
  rcases h with h |h
  .rw[h]
  .rw[h,a5]
 rw[oz,oz]at e;have e1:((w.natAbs:Nat):Int)=w:=by omega
 have e2:((v.natAbs:Nat):Int)=v:=by omega
 have e3:((a.natAbs*w.natAbs:Nat):Int)=((b.natAbs*v.natAbs:Nat):Int):=by rw[e]
 rw[u7,u7,e1,e2]at e3;exact e3
theorem acm{v d d' w w':Int}{way:Int}(hv:0<v)(hway:way=1\/way=-1)(h:d'*(v*v*v*w)=way*v*(way*v)*v*d*w'):d'*w=d*w':=by
 have e:(d'*w)*(v*v*v)=(d*w')*(v*v*v):=by rcases hway with rfl |rfl<;>grind
 exact vW (ca (ca hv hv) hv) e
theorem acT{v d d' w w':Int}{way:Int}(hv:0<v)(hway:way=1\/way=-1)(h:d'*(v*v*v*v*w)=way*v*(way*v)*(way*v)*v*d*w'):d'*w=d*w'\/d'*w=-(d*w'):=by
 have p:=ca (ca (ca hv hv) hv) hv;rcases hway with rfl |rfl
 .left
  have e:(d'*w)*(v*v*v*v)=(d*w')*(v*v*v*v):=by grind
  exact vW p e
 .right
  have e:(d'*w)*(v*v*v*v)=(-(d*w'))*(v*v*v*v):=by grind
  exact vW p e
theorem Hc{n k l:Nat}{way:Int}{f:AA}{uss:AB}(hway:way=1\/way=-1)(hg:∀us∈uss,Gu n k us)(g:Gu n l f):∀us∈uss.map (fT way f),Gu n (k+l+1) us:=λus hu=>by
 obtain⟨u,hm,rfl⟩:=dz.mp hu;exact(mW hway (hg u hm) g).1
theorem Gu.lastpos{n k:Nat}{f:AA}(h:Gu n k f):0<f.getLastD 0:=by
 obtain⟨xs,w,rfl,P⟩:=h;rw[show(xs++[w]).getLastD 0=w by simp];exact P.pos
theorem Z7{n k l:Nat}(hn:n=2\/n=3){way:Int}{f:AA}{uss:AB}(hway:way=1\/way=-1)(hl:uss.length=n+1)(hg:∀us∈uss,Gu n k us)(g:Gu n l f):((dU (uss.map (fT way f))).natAbs:Int)*wU uss=((dU uss).natAbs:Int)*wU (uss.map (fT way f)):=by
 have hv:=g.lastpos;have p1:=sI hg;have p2:=sI (Hc hway hg g);refine Hw p1 p2 ?_;rcases hn with rfl |rfl
 .match uss,hl,hg with
  |[a,b,c],_,hg=>
   have e:=Mr (mW hway (hg a (by simp)) g).2 (mW hway (hg b (by simp)) g).2 (mW hway (hg c (by simp)) g).2;exact .inl (acm hv hway e)
 .match uss,hl,hg with
  |[a,b,c,d],_,hg=>
   have e:=Xr (mW hway (hg a (by simp)) g).2 (mW hway (hg b (by simp)) g).2 (mW hway (hg c (by simp)) g).2 (mW hway (hg d (by simp)) g).2;exact acT hv hway e
theorem abV{n k l:Nat}(hn:n=2\/n=3){way:Int}{f:AA}{uss:AB}(hway:way=1\/way=-1)(hl:uss.length=n+1)(hg:∀us∈uss,Gu n k us)(g:Gu n l f)(h:dU uss≠0):dU (uss.map (fT way f))≠0:=λz=>by
 have e:=Z7 hn hway hl hg g;rw[z]at e;have p2:=sI (Hc hway hg g);have:((dU uss).natAbs:Int)*wU (uss.map (fT way f))≠0:=iz (by omega) (gm p2);exact this (by rw[<-e];simp)
theorem uG{G:Gd}{S:aG}(hG:gZ G S){me:ME}{tail:bT}{α:Type}(A B:α->PV):∀(L:List α)(x:AJ),(∀v∈L,me (some (.pv (A v))::tail) S=.ok (.pv (B v)) S)->cM G (gN 0) me (L.map A) (x::tail) S=.ok (L.map B) S
 |[],x,_=>Yz hG
 |v::L,x,h=>by
  have e:=h v ay;have e':=uG hG A B L (some (.pv (A v))) λu hu=>h u (bn _ hu);rw[aw,L8 hG];simp[gN,e,e']
theorem Gu.three'{k:Nat}{us:AA}(h:Gu 3 k us):∃x y z w,us=[x,y,z,w]/\0<w/\Bd k x/\Bd k y/\Bd k z/\Bd k w:=by
 obtain⟨xs,w,rfl,P⟩:=h
 match xs,P.len,P with
 |[x,y,z],_,P=>exact⟨x,y,z,w,rfl,P.pos,P.bx x (by simp),P.bx y (by simp),P.bx z (by simp),P.bw⟩
def sh(n:Nat):Int:=if n=2 then 2 else 6
theorem mk{k l:Nat}{a b:Int}(h:Bd k a)(g:Bd l b)(hk:k<=100000)(hl:l<=100000):aW (.int a) (.int b)=some (.int (a*b)):=kQ (.inr ⟨h.mono (by omega),g.mono (by omega)⟩)
theorem sq{a b:MS}{ρ ρ':bT}{S S':aG}{r:bZ}(h:a ρ S=.nx ρ' S')(g:b ρ' S'=r):aL a b ρ S=r:=by
 rw[aL,h];exact g
theorem wV{np n:Nat}{b:MS}{xs:AK}{S S':aG}{v:AV}{r:bK AV}(hl:xs.length=np)(h:b (iW n xs) S=.rt v S')(hc:kY S.length v S'=r):aV np n b xs S=r:=by
 unfold aV;rw[if_pos hl,h];exact hc
theorem zZ{S:aG}{me:ME}{α:Type}(A B C:α->PV):∀(L:List α)(x y:AJ),(∀v∈L,me [some (.pv (A v)),some (.pv (B v))] S=.ok (.pv (C v)) S)->cM [] (gT 2 (bO (gN 0) (bO (gN 1) cU))) me (L.map λv=>.tup [A v,B v]) [x,y] S=.ok (L.map C) S
 |[],x,y,_=>fA
 |v::L,x,y,h=>by
  have e:=h v ay;have e':=zZ A B C L (some (.pv (A v))) (some (.pv (B v))) λu hu=>h u (bn _ hu);rw[aw,fI];simp[gN,gT,bO,cU,e,e']
theorem acB(L:AH){a:Nat}(h:a<=L.length):kF (.lst L) (some (a:Int)) none=some (.lst (L.drop a)):=by
 unfold kF;dsimp only;unfold jC;rw[HT.sIx_nat];show some (PV.lst ((L.drop (min a L.length)).take (L.length-min a L.length)))=_;rw[xy h,uh (by rw[qy];omega)]
abbrev fv(u:Int×Int):PV:=.tup [.int u.1,.int u.2]
def pl(u v:Int×Int):Int×Int:=((fr (u.1*v.2+v.1*u.2) (u.2*v.2)).getD 0 0,(fr (u.1*v.2+v.1*u.2) (u.2*v.2)).getD 1 0)
structure Fq(k:Nat)(u:Int×Int):Prop where
 pos:0<u.2
 b1:Bd k u.1
 b2:Bd k u.2
 lo:bj u.1 u.2=1
theorem Fq.mono{k l:Nat}{u:Int×Int}(h:Fq k u)(hl:k<=l):Fq l u:=⟨h.pos,h.b1.mono hl,h.b2.mono hl,h.lo⟩
theorem Md{k:Nat}{u v:Int×Int}(h:Fq k u)(g:Fq k v):fr (u.1*v.2+v.1*u.2) (u.2*v.2)=[(pl u v).1,(pl u v).2]/\Fq (2*k+1) (pl u v)/\(pl u v).1*(u.2*v.2)=(u.1*v.2+v.1*u.2)*(pl u v).2:=by
 have nz:u.2*v.2≠0:=gm (ca h.pos g.pos);obtain⟨p,q,e,hq,c⟩:=wN (t:=u.1*v.2+v.1*u.2) nz;have bt:Bd (2*k+1) (u.1*v.2+v.1*u.2):=by
  have:=(h.b1.mul g.b2).add (g.b1.mul h.b2);exact this.mono (by omega)
 have bb:Bd (2*k+1) (u.2*v.2):=(h.b2.mul g.b2).mono (by omega);obtain⟨b3,b4⟩:=sQ bt bb e;have ep:pl u v=(p,q):=by unfold pl;rw[e];rfl
 rw[ep];exact⟨e,⟨hq,b3,b4,zC nz e⟩,c⟩
theorem T5{k:Nat}{u v:Int×Int}(S:aG)(h:Fq k u)(g:Fq k v)(hk:2*k+1<=7000):oF [.pv (fv u),.pv (fv v)] S=.ok (.pv (fv (pl u v))) S:=by
 have nz:u.2*v.2≠0:=gm (ca h.pos g.pos);have bt:Bd 7000 (u.1*v.2+v.1*u.2):=by
  have:=(h.b1.mul g.b2).add (g.b1.mul h.b2);exact this.mono (by omega)
 have e:=Rf (u.1*v.2+v.1*u.2) (u.2*v.2) S bt ((h.b2.mul g.b2).mono (by omega)) nz;rw[(Md h g).1]at e;simp only[aw,cv]at e;have m1:=mk h.b1 g.b2 (by omega) (by omega);have m2:=mk g.b1 h.b2 (by omega) (by omega);have m3:=mk h.b2 g.b2 (by omega) (by omega);unfold oF aV Xb;simp! [aE,bB,bD,aN,aS,aR,aP,aQ,aH,aO,m1,m2,m3,e]
def cJ:List (Int×Int)->List (Int×Int)
 |a::b::L=>pl a b::cJ L
 |L=>L
abbrev xI:MS:=(aL (bA 1 (bQ ["one","other"] [] (gA (aB (lW (aA 0) dX dX (2)) (aB (lW (aA 0) (eY (mC (.int 1))) dX (2)) aD))) (gT 2 (bO (gN 0) (bO (gN 1) cU))) (aU oF [] (aB (aA 0) (aB (aA 1) aD)))))
 (bA 0 (aC aH (aA 1) (fV (aA 0) (eY (aC aW (mC (.int 2)) (mR cY (aB (aA 1) aD)))) dX))))
def ev{α:Type}:List α->List α
 |a::_::L=>a::ev L
 |L=>L
def od{α:Type}:List α->List α
 |_::b::L=>b::od L
 |_=>[]
def eE:List (Int×Int)->List ((Int×Int)×(Int×Int))
 |a::b::L=>(a,b)::eE L
 |_=>[]
theorem Hr{α:Type}:∀L:List α,(az ((L.length+1)/2)).filterMap (λk=>L[2*k]?)=ev L
 |[]=>by simp[ev]
 |[a]=>by simp[ev]
 |a::b::L=>by
  have h:((a::b::L).length+1)/2=(L.length+1)/2+1:=by simp only[cg];omega
  have ih:=Hr L;rw[h,yi,ij,ni];show a::_=a::ev L;rw[<-ih];rfl
theorem Yq{α:Type}:∀L:List α,(az (L.length/2)).filterMap (λk=>L[2*k+1]?)=od L
 |[]=>by simp[od]
 |[a]=>by simp[od]
 |a::b::L=>by
  have h:(a::b::L).length/2=L.length/2+1:=by simp only[cg];omega
  have ih:=Yq L;rw[h,yi,ij,ni];show b::_=b::od L;rw[<-ih];rfl
theorem abq{α:Type}(L:List α):gS L none none 2=ev L:=by
 rw[<-Hr];unfold gS sliceBounds sliceRange;simp only[ua];have h:(if(2:Int)>0 then if(if(2:Int)>0 then(0:Int)else(L.length:Int)-1)<(if(2:Int)>0 then(L.length:Int)else-1)then((if(2:Int)>0 then(L.length:Int)else-1)-(if(2:Int)>0 then(0:Int)else(L.length:Int)-1)+2-1)/2 else 0 else if(if(2:Int)>0 then(0:Int)else(L.length:Int)-1)>(if(2:Int)>0 then(L.length:Int)else-1)then((if(2:Int)>0 then(0:Int)else(L.length:Int)-1)-(if(2:Int)>0 then(L.length:Int)else-1)-2-1)/ -2 else 0).toNat=(L.length+1)/2:=by
  simp only[gt_iff_lt,yj,↓reduceIte];split<;>omega
 rw[h,ni];congr 1
 funext k
 show L[((if(2:Int)>0 then(0:Int)else(L.length:Int)-1)+2*(k:Int)).toNat]?=L[2*k]?;congr 1;simp only[gt_iff_lt,yj,↓reduceIte];omega
theorem abK{α:Type}(L:List α)(hl:0<L.length):gS L (some 1) none 2=od L:=by
 rw[<-Yq];unfold gS sliceBounds sliceRange;have m:max (0:Int) (min 1 (L.length:Int))=1:=by omega
 simp only[ua,gt_iff_lt,yj,↓reduceIte,m];have h:(if(1:Int)<(L.length:Int)then((L.length:Int)-1+2-1)/2 else 0).toNat=L.length/2:=by
  split<;>omega
 rw[h,ni];congr 1
 funext k
 show L[(1+2*(k:Int)).toNat]?=L[2*k+1]?;congr 1;omega
theorem Dp{α β:Type}(f:α->β):∀L:List α,ev (L.map f)=(ev L).map f
 |[]=>rfl
 |[_]=>rfl
 |a::b::L=>by
  show f a::ev (L.map f)=f a::(ev L).map f;rw[Dp f L]
theorem Ip{α β:Type}(f:α->β):∀L:List α,od (L.map f)=(od L).map f
 |[]=>rfl
 |[_]=>rfl
 |a::b::L=>by
  show f b::od (L.map f)=f b::(od L).map f;rw[Ip f L]
theorem Lp:∀L:List (Int×Int),eI ((ev L).map fv) ((od L).map fv)=(eE L).map λw=>PV.tup [fv w.1,fv w.2]
 |[]=>rfl
 |[_]=>rfl
 |a::b::L=>by
  show PV.tup [fv a,fv b]::eI ((ev L).map fv) ((od L).map fv)=PV.tup [fv a,fv b]::(eE L).map _;rw[Lp L]
theorem Ho:∀L:List (Int×Int),cJ L=((eE L).map λw=>pl w.1 w.2)++L.drop (2*(eE L).length)/\2*(eE L).length<=L.length/\∀w∈eE L,w.1∈L/\w.2∈L
 |[]=>⟨rfl,aj _,λ_ h=>nomatch h⟩
 |[_]=>⟨rfl,by simp[eE],λ_ h=>nomatch h⟩
 |a::b::L=>by
  obtain⟨h1,h2,h3⟩:=Ho L;refine⟨?_,by simp only[eE,cg];omega,λw hw=>?_⟩
  .show pl a b::cJ L=pl a b::(((eE L).map λw=>pl w.1 w.2)++(a::b::L).drop (2*((eE L).length+1)))
   rw[h1,show 2*((eE L).length+1)=2*(eE L).length+1+1 by omega];rfl
  .rcases ci.mp hw with rfl |hw
   .exact⟨by simp,by simp⟩
   .exact⟨by simp[(h3 w hw).1],by simp[(h3 w hw).2]⟩
theorem Yy{k:Nat}(S:aG)(x:AJ)(hk:2*k+1<=7000)(L:List (Int×Int))(h2:2<=L.length)(hl:L.length<=1000)(h:∀u∈L,Fq k u):∃y,xI [some (.pv (.lst (L.map fv))),x] S=.nx [some (.pv (.lst ((cJ L).map fv))),y] S:=by
 obtain⟨s1,s2,s3⟩:=Ho L;have e1:=abq (L.map fv);rw[Dp]at e1;have e2:=abK (L.map fv) (by rw[am];omega);rw[Ip]at e2;have e3:=Lp L;have e4:cM [] (gT 2 (bO (gN 0) (bO (gN 1) cU))) (aU oF [] (aB (aA 0) (aB (aA 1) aD))) ((eE L).map λw=>PV.tup [fv w.1,fv w.2]) [none,none] S=.ok ((eE L).map λw=>fv (pl w.1 w.2)) S:=by
  refine zZ (λw:(Int×Int)×(Int×Int)=>fv w.1) (λw=>fv w.2) (λw=>fv (pl w.1 w.2)) (eE L) none none λw hw=>?_;have p:=T5 S (h _ (s3 w hw).1) (h _ (s3 w hw).2) hk;generalize fv w.2=B,fv w.1=A,fv (pl w.1 w.2)=R at *;simp! [aE,bB,bD,aN,aS,aR,aP,aQ,aH,aO,p]
 have e5:=acB (L.map fv) (a:=2*(eE L).length) (by rw[am];exact s2);have e7:((eE L).map λw=>fv (pl w.1 w.2)).length=(eE L).length:=am ..;have e6:aW (.int 2) (.int ((((eE L).map λw=>fv (pl w.1 w.2)).length:Nat):Int))=some (.int ((2*(eE L).length:Nat):Int)):=by
  rw[e7];exact kQ (.inl (.inl ⟨by decide,by omega⟩))
 have e8:((eE L).map λw=>fv (pl w.1 w.2)).length+((L.map fv).drop (2*(eE L).length)).length<=16777216:=by simp;omega
 have e9:(cJ L).map fv=((eE L).map λw=>fv (pl w.1 w.2))++(L.map fv).drop (2*(eE L).length):=by
  rw[s1,df,dy,List.map_drop];rfl
 rw[e9];generalize 2*(eE L).length=c2,L.map fv=LL,(od L).map fv=OL,(ev L).map fv=EL,(L.map fv).drop (2*(eE L).length)=DL,(((eE L).map λw=>fv (pl w.1 w.2)):AH)=PL,(((eE L).map λw=>PV.tup [fv w.1,fv w.2]):AH)=ZL at *;refine⟨some (.pv (.lst PL)),?_⟩;unfold xI;generalize (aU oF [] (aB (aA 0) (aB (aA 1) aD)))=ME1 at *;refine sq (ρ':=[some (.pv (.lst LL)),some (.pv (.lst PL))]) (S':=S) ?_ ?_
 .simp! [aE,bB,bD,aN,aS,aR,aP,aQ,aH,aO,bQ,cT,gA,kA,lW,Qd,dX,eY,iH,cO,e1,e2,e3,e4]
 .simp! [aE,bB,bD,aN,aS,aR,aP,aQ,aH,aO,fV,dX,eY,iH,e5,e6,e8]
theorem Ob:∀(L:List (Int×Int)),(cJ L).length=(L.length+1)/2
 |[]=>rfl
 |[_]=>by simp[cJ]
 |a::b::L=>by
  unfold cJ;rw[cg,cg,cg,Ob L];omega
theorem Gc{k:Nat}:∀(L:List (Int×Int)),(∀u∈L,Fq k u)->∀u∈cJ L,Fq (2*k+1) u
 |[],h,u,hu=>by cases hu
 |[a],h,u,hu=>(h u hu).mono (by omega)
 |a::b::L,h,u,hu=>by
  unfold cJ at hu;rcases ci.mp hu with rfl |hu
  .exact(Md (h a (by simp)) (h b (by simp))).2.1
  .exact Gc L (λv hv=>h v (bn _ (bn _ hv))) u hu
def fN:Nat->List (Int×Int)->List (Int×Int)
 |0,L=>L
 |m+1,L=>if L.length<=1 then L else fN m (cJ L)
abbrev tH:MT:=bJ (aC eT (mR cY (aB (aA 0) aD)) (mC (.int 1)))
theorem Kh(S:aG):∀(m k:Nat)(L:List (Int×Int))(x:AJ),L.length<=1000->L.length<=2^m->2^m*(k+1)<=7000->(∀u∈L,Fq k u)->∃n y,dM tH xI n [some (.pv (.lst (L.map fv))),x] S=.nx [some (.pv (.lst ((fN m L).map fv))),y] S/\(fN m L).length<=1
 |m,k,L,x,h10,hm,hk,h=>by
  by_cases h1:L.length<=1
  .refine⟨1,x,?_,?_⟩
   .have c:tH [some (.pv (.lst (L.map fv))),x] S=.ok false S:=by
     unfold tH;have:decide ((1:Int)<(L.length:Int))=false:=by simp;omega
     simp! [aE,bB,bD,aN,aS,aR,aP,aQ,aH,aO,this]
    have er:fN m L=L:=by
     cases m with
     |zero=>rfl
     |succ m=>unfold fN;rw[if_pos h1]
    unfold dM;rw[c,er];rfl
   .cases m with
    |zero=>exact h1
    |succ m=>unfold fN;rw[if_pos h1];exact h1
  .match m,hm,hk with
   |0,hm,_=>exact absurd hm (by simpa using h1)
   |m+1,hm,hk=>
    have hk2:2*k+1<=7000:=by
     have:2<=2^(m+1):=by
      rw[rn];have:=ui m;omega
     have:=yk (k+1) this;omega
    obtain⟨y,e⟩:=Yy S x hk2 L (by omega) h10 h;have hl:=Ob L;have hp:2^(m+1)=2*2^m:=by rw[rn];omega
    obtain⟨n,z,e2,l2⟩:=Kh S m (2*k+1) (cJ L) y (by omega) (by omega) (by
     rw[hp]at hk;have:2*2^m*(k+1)=2^m*(2*k+1+1):=by
      rw[Nat.mul_comm 2,Nat.mul_assoc];congr 1
     omega) (Gc L h)
    have er:fN (m+1) L=fN m (cJ L):=by
     show(if L.length<=1 then L else fN m (cJ L))=_;rw[if_neg h1]
    refine⟨n+1,z,?_,by rw[er];exact l2⟩;have c:tH [some (.pv (.lst (L.map fv))),x] S=.ok true S:=by
     unfold tH;have:decide ((1:Int)<(L.length:Int))=true:=by simp;omega
     simp! [aE,bB,bD,aN,aS,aR,aP,aQ,aH,aO,this]
    unfold dM;rw[c,er];show(match xI _ S with |.nx ρ2 S2=>_ |.ct ρ2 S2=>_ |.bk ρ2 S2=>_ |.rt v S2=>_ |.exc n S2=>_ |.fail=>_)=_
    rw[e];exact e2
def oU(L:List (Int×Int)):Int×Int:=match fN 5 L with
 |[]=>(0,1)
 |u::_=>u
theorem Oz(S:aG){m k:Nat}{L:List (Int×Int)}(h10:L.length<=1000)(hm:L.length<=2^m)(m4:m<=5)(hk:2^m*(k+1)<=7000)(h:∀u∈L,Fq k u):rO [.pv (.lst (L.map fv))] S=.ok (.pv (fv (oU L))) S:=by
 obtain⟨n,y,e,l⟩:=Kh S m k L none h10 hm hk h;have w:=uF e (by simp);have er:∀(i j:Nat)(L:List (Int×Int)),i<=j->(fN i L).length<=1->fN j L=fN i L:=by
  intro i
  induction i with
  |zero=>
   intro j L _ hl;cases j with
   |zero=>rfl
   |succ j=>
    show(if L.length<=1 then L else _)=L;have hl:L.length<=1:=hl;rw[if_pos hl]
  |succ i ih=>
   intro j L hij hl;cases j with
   |zero=>omega
   |succ j=>
    show(if L.length<=1 then L else fN j (cJ L))=(if L.length<=1 then L else fN i (cJ L));split
    .rfl
    .rename_i hn
     have hl:(if L.length<=1 then L else fN i (cJ L)).length<=1:=hl;rw[if_neg hn]at hl;exact ih j (cJ L) (by omega) hl
 have e4:=er m 5 L m4 l;unfold oU;rw[e4];generalize fN m L=R at w l;unfold rO aV Qa
 match R,l with
 |[],_=>
  simp only[cv]at w;simp! [aE,bB,bD,aN,aS,aR,aP,aQ,aH,aO,w,tG,xA]
 |[u],_=>
  simp only[aw,cv]at w;simp! [aE,bB,bD,aN,aS,aR,aP,aQ,aH,aO,w,tG,xA]
theorem Yw:∀L:AH,qI [.lst (L.map λ_=>.bl true)]=some (.bl true):=λL=>by
 have e:oK (L.map λ_=>PV.bl true)=some (L.map λ_=>true):=by
  induction L with
  |nil=>rfl
  |cons v L ih=>
   show(match oK (L.map λ_=>PV.bl true)with |some bs=>some (true::bs) |none=>none)=_
   rw[ih];rfl
 simp only[qI,e,ye];simp
abbrev li(xs:AA):AH:=xs.map .int
abbrev lv(xs:AA):PV:=.lst (li xs)
abbrev cF(xss:AB):PV:=.lst (xss.map lv)
structure Rw(n:Nat)(xss:AB):Prop where
 len:xss.length=n+1
 l:∀xs∈xss,xs.length=n
 b:∀xs∈xss,∀x∈xs,-8<x/\x<8
 nz:dU (xss.map (·++[1]))≠0
theorem Nh{α β:Type}(f:α->β):∀(R:List α)(j:Nat),(R.map f).eraseIdx j=(R.eraseIdx j).map f
 |[],j=>by simp
 |a::R,0=>by simp
 |a::R,j+1=>by simp[Nh f R j]
theorem ix3:∀v<3,bD 3 ((v:Nat):Int)=some v:=by decide
abbrev oW:MS:=(aL (oI (aA 2) (nH (aA 1) (aB (aU dN [] (aB (aA 0) (aB (mR cY (aB (aA 1) aD)) aD))) aD)) (mC (.int 1)))
 (dH (sU (aA 3) (aB (aA 2) aD))))
abbrev qU:MS:=(cV (bJ (aC dJ (aU dN [] (aB (aA 0) (aB (mC (.int 4)) aD))) (mC (.int 3)))) (oP 3 2 5) dZ)
theorem Hd(ns:AA)(hl:AH)(R C:AA)(L:AB)(x4 x5:AJ)(hR0:0<R.length)(hR3:R.length<=3)(hv:∀v∈R,0<=v/\v<3)(hC:C.length=3)(hL:L.length<=9):
  ∃(j v:Nat)(ns':AA),j<R.length/\R[j]?=some (v:Int)/\oW [some (.ref 0),some (.ref 2),some (.ref 3),some (.ref 4),x4,x5] [.lst (li ns),.lst hl,.lst (li R),.lst (li C),.lol (L.map li)]
   = .nx [some (.ref 0),some (.ref 2),some (.ref 3),some (.ref 4),x4,x5] [.lst (li ns'),.lst hl,.lst (li (R.eraseIdx j)),.lst (li (C.set v 1)),.lol ((L++[C.set v 1]).map li)]:=by
 have hr:fG [.lst (li ns),.lst hl,.lst (li R),.lst (li C),.lol (L.map li)] 0 ns:=rfl;obtain⟨t,n1,e1,t0,t1,_⟩:=jK (m:=(R.length:Int)) hr (by omega) (lG (by omega) (by omega));simp only[ee]at e1;obtain⟨j,rfl⟩:∃j:Nat,t=(j:Int):=⟨t.toNat,by omega⟩;have hj:j<R.length:=by omega
 obtain⟨v,ev⟩:∃v:Nat,R[j]=(v:Int):=⟨R[j].toNat,by have:=hv _ (iu hj);omega⟩;have hv3:v<3:=by have:=hv _ (iu hj);omega
 have hq:R[j]?=some (v:Int):=by rw[au hj,ev]
 have ep:=aaR (S:=[.lst (li n1),.lst hl,.lst (li R),.lst (li C),.lol (L.map li)]) (k:=2) (j:=j) (xs:=li R) (v:=.int v) rfl (by rw[av,hq];rfl) (by omega);simp only[jh,ee]at ep;have er:(li R).eraseIdx j=li (R.eraseIdx j):=Nh _ _ _;rw[er]at ep;have ei:bD (li C).length (v:Int)=some v:=by
  rw[am,hC];exact ix3 v hv3
 have ec:(li C).set v (.int 1)=li (C.set v 1):=by simp[li,ue]
 refine⟨j,v,n1,hj,hq,?_⟩;have e1':dN [.ref 0,.pv (.int ((li R).length:Int))] [.lst (li ns),.lst hl,.lst (li R),.lst (li C),.lol (L.map li)]=.ok (.pv (.int (j:Int))) [.lst (li n1),.lst hl,.lst (li R),.lst (li C),.lol (L.map li)]:=by
  rw[am];exact e1
 have el:(L++[C.set v 1]).map li=L.map li++[li (C.set v 1)]:=by simp
 rw[el];have lz:(L.map li).length<16777216:=by rw[am];omega
 generalize li n1=NL1,li ns=NL,(j:Int)=J,li R=RL,li (R.eraseIdx j)=RE,li C=CL,li (C.set v 1)=CS,L.map li=LL at *;unfold oW;simp! [bY,aS,aR,aP,aQ,aH,aO,oI,qE,nH,sU,sV,fB,e1',ep,ei,ec,lz]
def k6:AC:=[[[0,0,0],[1,0,0],[1,1,0],[1,1,1]],[[0,0,0],[1,0,0],[1,0,1],[1,1,1]],[[0,0,0],[0,1,0],[1,1,0],[1,1,1]],[[0,0,0],[0,1,0],[0,1,1],[1,1,1]],[[0,0,0],[0,0,1],[1,0,1],[1,1,1]],[[0,0,0],[0,0,1],[0,1,1],[1,1,1]]]
theorem aci{R:AA}{j v:Nat}{a b c:Int}(h:R=[a,b,c])(hj:j<R.length)(e:R[j]?=some (v:Int)):(j=0/\(v:Int)=a)\/(j=1/\(v:Int)=b)\/(j=2/\(v:Int)=c):=by
 subst h
 match j,hj,e with
 |0,_,e=>simp at e;exact .inl ⟨rfl,e.symm⟩
 |1,_,e=>simp at e;exact .inr (.inl ⟨rfl,e.symm⟩)
 |2,_,e=>simp at e;exact .inr (.inr ⟨rfl,e.symm⟩)
theorem acM{R:AA}{j v:Nat}{a b:Int}(h:R=[a,b])(hj:j<R.length)(e:R[j]?=some (v:Int)):(j=0/\(v:Int)=a)\/(j=1/\(v:Int)=b):=by
 subst h
 match j,hj,e with
 |0,_,e=>simp at e;exact .inl ⟨rfl,e.symm⟩
 |1,_,e=>simp at e;exact .inr ⟨rfl,e.symm⟩
theorem acO{R:AA}{j v:Nat}{a:Int}(h:R=[a])(hj:j<R.length)(e:R[j]?=some (v:Int)):j=0/\(v:Int)=a:=by
 subst h
 match j,hj,e with
 |0,_,e=>simp at e;exact⟨rfl,e.symm⟩
theorem k3(ns:AA)(hl:AH)(R C:AA)(A:AB)(a b c:Nat)(x4 x5:AJ)(hR:R=[(c:Int)])(hc:c<3)(hC:C.length=3)(hA:A.length<=9)(ks:AC)(hk:A++[C.set c 1]∈ks):
  ∃(xss:AB)(ns':AA)(C':AA),xss∈ks/\dA [] (gN 4) oW [.int 2] [some (.ref 0),some (.ref 2),some (.ref 3),some (.ref 4),x4,x5] [.lst (li ns),.lst hl,.lst (li R),.lst (li C),.lol (A.map li)]
   = .nx [some (.ref 0),some (.ref 2),some (.ref 3),some (.ref 4),some (.pv (.int 2)),x5] [.lst (li ns'),.lst hl,.lst [],.lst (li C'),.lol (xss.map li)]:=by
 obtain⟨j,v,n1,hj,e,h⟩:=Hd ns hl R C A (some (.pv (.int 2))) x5 (by rw[hR];simp) (by rw[hR];simp) (by rw[hR];simp;omega) hC hA;obtain⟨rfl,ev⟩:=acO hR hj e;have:v=c:=by omega
 subst this;subst hR;refine⟨_,n1,C.set v 1,hk,?_⟩;rw[fO];simp only[gN,jh,ee];rw[h];exact hV
theorem k2(ns:AA)(hl:AH)(R C:AA)(A:AB)(b c:Nat)(x4 x5:AJ)(hR:R=[(b:Int),(c:Int)])(hb:b<3)(hc:c<3)(hC:C.length=3)(hA:A.length<=8)(ks:AC)(h1:A++[C.set b 1]++[(C.set b 1).set c 1]∈ks)(h2:A++[C.set c 1]++[(C.set c 1).set b 1]∈ks):
  ∃(xss:AB)(ns':AA)(C':AA),xss∈ks/\dA [] (gN 4) oW [.int 1,.int 2] [some (.ref 0),some (.ref 2),some (.ref 3),some (.ref 4),x4,x5] [.lst (li ns),.lst hl,.lst (li R),.lst (li C),.lol (A.map li)]
   = .nx [some (.ref 0),some (.ref 2),some (.ref 3),some (.ref 4),some (.pv (.int 2)),x5] [.lst (li ns'),.lst hl,.lst [],.lst (li C'),.lol (xss.map li)]:=by
 obtain⟨j,v,n1,hj,e,h⟩:=Hd ns hl R C A (some (.pv (.int 1))) x5 (by rw[hR];simp) (by rw[hR];simp) (by rw[hR];simp;omega) hC (by omega);rw[fO];simp only[gN,jh,ee];rw[h];rcases acM hR hj e with⟨rfl,ev⟩|⟨rfl,ev⟩
 .have:v=b:=by omega
  subst this;subst hR;exact k3 n1 hl _ (C.set v 1) _ 0 0 c _ x5 rfl hc (by rw[fg];exact hC) (by simp;omega) ks h1
 .have:v=c:=by omega
  subst this;subst hR;exact k3 n1 hl _ (C.set v 1) _ 0 0 b _ x5 rfl hb (by rw[fg];exact hC) (by simp;omega) ks h2
theorem k1(ns:AA)(hl:AH)(x4 x5:AJ):
  ∃(xss:AB)(ns':AA)(C':AA),xss∈k6/\dA [] (gN 4) oW [.int 0,.int 1,.int 2] [some (.ref 0),some (.ref 2),some (.ref 3),some (.ref 4),x4,x5] [.lst (li ns),.lst hl,.lst (li [0,1,2]),.lst (li [0,0,0]),.lol ([[0,0,0]].map li)]
   = .nx [some (.ref 0),some (.ref 2),some (.ref 3),some (.ref 4),some (.pv (.int 2)),x5] [.lst (li ns'),.lst hl,.lst [],.lst (li C'),.lol (xss.map li)]:=by
 obtain⟨j,v,n1,hj,e,h⟩:=Hd ns hl [0,1,2] [0,0,0] [[0,0,0]] (some (.pv (.int 0))) x5 (by decide) (by decide) (by decide) rfl (by decide);rw[fO];simp only[gN,jh,ee];rw[h];rcases aci rfl hj e with⟨rfl,ev⟩|⟨rfl,ev⟩|⟨rfl,ev⟩
 .have:v=0:=by omega
  subst this;exact k2 n1 hl _ [1,0,0] _ 1 2 _ x5 rfl (by decide) (by decide) rfl (by decide) k6 (by decide) (by decide)
 .have:v=1:=by omega
  subst this;exact k2 n1 hl _ [0,1,0] _ 0 2 _ x5 rfl (by decide) (by decide) rfl (by decide) k6 (by decide) (by decide)
 .have:v=2:=by omega
  subst this;exact k2 n1 hl _ [0,0,1] _ 0 1 _ x5 rfl (by decide) (by decide) rfl (by decide) k6 (by decide) (by decide)
def qW(m:Nat)(xs:AA):AA:=xs.set m (1-xs.getD m 0)
theorem Py{m:Nat}{xs:AA}(h:xs.length=3)(hm:m<3):wS (m:Int) (li xs)=some (li (qW m xs)):=by
 match xs,h,m,hm with
 |[a,b,c],_,0,_=>rfl
 |[a,b,c],_,1,_=>rfl
 |[a,b,c],_,2,_=>rfl
theorem Qj{m:Nat}(hm:m<3):∀{L:AB},(∀xs∈L,xs.length=3)->qF (m:Int) (L.map li)=some ((L.map (qW m)).map li)
 |[],_=>rfl
 |xs::L,h=>by
  have e1:=Py (h xs ay) hm;have e2:=Qj hm λys hy=>h ys (bn _ hy);simp only[aw];unfold qF;rw[e1,e2]
theorem abB{a b c d:AH}{L:List AH}:xZ 4 [.lst a,.lst b,.lst c,.lst d,.lol L]:=λj o e n=>by
 match j,e with
 |0,e=>cases e;exact⟨_,rfl⟩
 |1,e=>cases e;exact⟨_,rfl⟩
 |2,e=>cases e;exact⟨_,rfl⟩
 |3,e=>cases e;exact⟨_,rfl⟩
 |4,e=>exact absurd rfl n
 |j+5,e=>simp at e
def kJ(b:Bool)(m:Nat)(L:AB):AB:=if b then L.map (qW m)else L
theorem Od(m:Nat)(hm:m<3)(ns:AA)(a b c:AH)(L:AB)(hL:∀xs∈L,xs.length=3)(x2 x4:AJ):
  ∃(f:Bool)(ns':AA)(y2:AJ),qU [some (.ref 0),some (.ref 2),x2,some (.ref 4),x4,some (.pv (.int (m:Int)))] [.lst (li ns),.lst a,.lst b,.lst c,.lol (L.map li)]
   = .nx [some (.ref 0),some (.ref 2),y2,some (.ref 4),x4,some (.pv (.int (m:Int)))] [.lst (li ns'),.lst a,.lst b,.lst c,.lol ((kJ f m L).map li)]:=by
 have hr:fG [.lst (li ns),.lst a,.lst b,.lst c,.lol (L.map li)] 0 ns:=rfl;obtain⟨t,n1,e1,t0,t1,_⟩:=jK (m:=4) hr (by decide) (lG (by decide) (by decide));simp only[ee]at e1;have e1:dN [.ref 0,.pv (.int 4)] [.lst (li ns),.lst a,.lst b,.lst c,.lol (L.map li)]=.ok (.pv (.int t)) [.lst (li n1),.lst a,.lst b,.lst c,.lol (L.map li)]:=e1;have ef:=Qj hm hL
 by_cases h:t=3
 .refine⟨true,n1,none,?_⟩
  have hf:oP 3 2 5 [some (.ref 0),some (.ref 2),x2,some (.ref 4),x4,some (.pv (.int (m:Int)))] [.lst (li n1),.lst a,.lst b,.lst c,.lol (L.map li)]=.nx [some (.ref 0),some (.ref 2),none,some (.ref 4),x4,some (.pv (.int (m:Int)))] [.lst (li n1),.lst a,.lst b,.lst c,.lol ((L.map (qW m)).map li)]:=by
   unfold oP;dsimp only[yl,ym];rw[if_pos ⟨abB,by simp⟩,ef];rfl
  unfold qU;have:kJ true m L=L.map (qW m):=rfl;rw[this];simp! [aE,bB,bD,aN,aS,aR,aP,aQ,aH,aO,e1,h,hf]
 .refine⟨false,n1,x2,?_⟩
  unfold qU;have:kJ false m L=L:=rfl;rw[this];simp! [aE,bB,bD,aN,aS,aR,aP,aQ,aH,aO,e1,h]
theorem Xa{b:Bool}{m:Nat}{L:AB}(h:∀xs∈L,xs.length=3):∀xs∈kJ b m L,xs.length=3:=by
 unfold kJ;split
 .intro xs hx
  obtain⟨ys,hy,rfl⟩:=dz.mp hx;unfold qW;rw[fg];exact h ys hy
 .exact h
def Ee(xss:AB):Bool:=decide (xss.length=4)&&xss.all (λxs=>decide (xs.length=3)&&xs.all λx=>decide (-8<x)&&decide (x<8))&&decide (dU (xss.map (·++[1]))≠0)
theorem aaH{xss:AB}(h:Ee xss=true):Rw 3 xss:=by
 unfold Ee at h;simp only[iy,decide_eq_true_eq,jx]at h;exact⟨h.1.1,λxs hx=>(h.1.2 xs hx).1,λxs hx x hh=>(h.1.2 xs hx).2 x hh,h.2⟩
theorem k48:∀xss∈k6,∀a b c:Bool,Ee (kJ c 2 (kJ b 1 (kJ a 0 xss)))=true:=by decide+kernel
theorem aam:∀xss∈k6,∀xs∈xss,xs.length=3:=by decide
theorem Ds{a b:AH}:Pl [.lst a,.lst b]:=λj o e=>by
 match j,e with
 |0,e=>cases e;exact⟨_,rfl⟩
 |1,e=>cases e;exact⟨_,rfl⟩
 |j+2,e=>simp at e
theorem Q7(ns:AA)(hl:AH):∃(xss:AB)(ns':AA),pS [.ref 0] [.lst (li ns),.lst hl]=.ok (.pv (cF xss)) [.lst (li ns'),.lst hl]/\Rw 3 xss:=by
 obtain⟨L,n1,C,hm,e1⟩:=k1 ns hl none none;have l0:=aam L hm;obtain⟨fa,n2,y2,e2⟩:=Od 0 (by decide) n1 hl [] (li C) L l0 (some (.ref 3)) (some (.pv (.int 2)));obtain⟨fb,n3,y3,e3⟩:=Od 1 (by decide) n2 hl [] (li C) _ (Xa l0) y2 (some (.pv (.int 2)));obtain⟨fc,n4,y4,e4⟩:=Od 2 (by decide) n3 hl [] (li C) _ (Xa (Xa l0)) y3 (some (.pv (.int 2)));have c0:((0:Nat):Int)=0:=rfl;have c1:((1:Nat):Int)=1:=rfl;have c2:((2:Nat):Int)=2:=rfl;rw[c0]at e2;rw[c1]at e3;rw[c2]at e4;have hw:=k48 L hm fa fb fc;generalize kJ fc 2 (kJ fb 1 (kJ fa 0 L))=X at hw e4;refine⟨X,n4,?_,aaH hw⟩;have ex:(X.map li).map PV.lst=X.map lv:=by rw[dy];rfl
 have e5:dA [] (gN 5) qU [.int 0,.int 1,.int 2] [some (.ref 0),some (.ref 2),some (.ref 3),some (.ref 4),some (.pv (.int 2)),none] [.lst (li n1),.lst hl,.lst [],.lst (li C),.lol (L.map li)]
   = .nx [some (.ref 0),some (.ref 2),y4,some (.ref 4),some (.pv (.int 2)),some (.pv (.int 2))] [.lst (li n4),.lst hl,.lst [],.lst (li C),.lol (X.map li)]:=by
  rw[fO];simp only[gN,jh,ee];rw[e2];dsimp only;rw[fO];simp only[gN,jh,ee];rw[e3];dsimp only;rw[fO];simp only[gN,jh,ee];rw[e4];exact hV
 unfold pS oZ;rw[if_pos ⟨rfl,Ds⟩];have eb:vI (iW 6 [.ref 0]) [.lst (li ns),.lst hl]=.rt (.ref 4) [.lst (li n4),.lst hl,.lst [],.lst (li C),.lol (X.map li)]:=by
  simp only[li,aw,cv]at e1;have hb:vI=(aL (bA 1 (fE (aB (mC (.int 0)) (aB (mC (.int 1)) (aB (mC (.int 2)) aD)))))
   (aL (bA 2 (fE (aB (mC (.int 0)) (aB (mC (.int 0)) (aB (mC (.int 0)) aD)))))
   (aL (bA 3 (tF (aB (aA 2) aD)))
   (aL (cG (dL (aB (mC (.int 3)) aD)) (gN 4) oW)
   (aL (cG (dL (aB (mC (.int 3)) aD)) (gN 5) qU)
   (bF (aA 3))))))):=rfl
  rw[hb];generalize oW=B1,qU=B2 at *;simp! [aE,bB,bD,aN,aS,aR,aP,aQ,aH,aO,fE,lA,tF,Kd,cG,dL,hrg,e1,e5]
 rw[eb];unfold wE;simp[Ds,ex]
theorem Gx(L:AH)(p:PV)(h:L≠[]):∃v∈L,aE (.lst L) (.int (-1))=some v:=by
 have hl:0<L.length:=List.length_pos_iff.mpr h;refine⟨L[L.length-1]'(by omega),iu _,?_⟩;show bB L (-1)=_;unfold bB;have e:bD L.length (-1)=some (L.length-1):=by
  unfold bD;rw[if_neg (by decide),if_pos (by omega)];congr 1;omega
 rw[e];exact au _
theorem tE{x:Int}(h:-1000<x)(g:x<1000):Bd 10 x:=by
 unfold Bd;have:x.natAbs<1000:=by omega
 omega
theorem qY(S:aG){n:Nat}(h:n<=9):jP [.pv (.int (n:Int))] S=.ok (cX 0 n,[]) S:=by
 have e:jP [.pv (.int (n:Int))] S=@ite _ ((n:Int)<=16777216/\-16777216<=(n:Int)) (tm _) (.ok (cX 0 (n:Int).toNat,[]) S) .fail:=rfl;rw[e,if_pos ⟨by omega,by omega⟩,lc]
theorem D7{S:aG}{k:Nat}{ns:AA}(h:fG S k ns):S.set k (.lst (ns.map .int))=S:=jc λj=>by
 by_cases q:k=j
 .subst q
  rw[dr h.lt];exact h.symm
 .rw[fe q]
theorem Vk{k:Nat}{W:Int}(W0:0<=W)(W1:W<=2):∀(is:AH)(S:aG)(ns:AA)(x:AJ),fG S k ns->∃(xs ns':AA),cM [] (gN 0) (aU dN [] (aB (aA 1) (aB (aC aH (aA 2) (mC (.int 1))) aD))) is [x,some (.ref k),some (.pv (.int W))] S=.ok (li xs) (S.set k (.lst (li ns')))/\xs.length=is.length/\∀n∈xs,0<=n/\n<=2
 |[],S,ns,x,h=>by
  refine⟨[],ns,?_,rfl,λ_ h=>absurd h iw⟩;rw[show S.set k (.lst (li ns))=S from D7 h];exact fA
 |i::is,S,ns,x,h=>by
  obtain⟨t,n1,e1,t0,t1,_⟩:=jK (m:=W+1) h (by omega) (lG (by omega) (by omega));obtain⟨xs,n2,e2,l2,b2⟩:=Vk W0 W1 is _ n1 (some (.pv i)) (h.set n1);rw[kq]at e2;refine⟨t::xs,n2,?_,by simp[l2],λn hn=>?_⟩
  .rw[fI]
   generalize S.set k (.lst (n1.map .int))=S1 at e1 e2;simp! [gN,aE,bB,bD,aN,aS,aR,aP,aQ,aH,aO,e1,e2]
  .rcases ci.mp hn with rfl |hn
   .omega
   .exact b2 n hn
abbrev rB:MS:=(dH (dQ (aA 3) (aB (bQ ["_law_m"] [(0,"_law_row_here"),(2,"_law_wide")] (dL (aB (aA 1) aD)) (gN 0) (aU dN [] (aB (aA 1) (aB (aC aH (aA 2) (mC (.int 1))) aD)))) aD)))
theorem Bl{n:Nat}(hn:n<=9){W:Int}(W0:0<=W)(W1:W<=2)(hl:AH):∀(is:AH)(L:AB)(ns:AA)(x4:AJ),L.length+is.length<=99->∃(L':AB)(ns':AA)(y4:AJ),
  dA [] (gN 4) rB is [some (.ref 0),some (.pv (.int (n:Int))),some (.pv (.int W)),some (.ref 2),x4] [.lst (li ns),.lst hl,.lst (L.map lv)]=.nx [some (.ref 0),some (.pv (.int (n:Int))),some (.pv (.int W)),some (.ref 2),y4] [.lst (li ns'),.lst hl,.lst ((L++L').map lv)]
   /\L'.length=is.length/\∀xs∈L',xs.length=n/\∀x∈xs,0<=x/\x<=2
 |[],L,ns,x4,h9=>⟨[],ns,x4,by rw[la];exact hV,rfl,λ_ h=>absurd h iw⟩
 |i::is,L,ns,x4,h9=>by
  have hr:fG [.lst (li ns),.lst hl,.lst (L.map lv)] 0 ns:=rfl;obtain⟨xs,n1,e1,l1,b1⟩:=Vk W0 W1 (cX 0 n) _ ns none hr;simp only[ee]at e1;have h9:L.length+(is.length+1)<=99:=h9;obtain⟨L',n2,y4,e2,l2,b2⟩:=Bl hn W0 W1 hl is (L++[xs]) n1 (some (.pv i)) (by rw[bi,jv];omega);refine⟨xs::L',n2,y4,?_,by simp[l2],λys hy=>?_⟩
  .rw[fO]
   have es:rB [some (.ref 0),some (.pv (.int (n:Int))),some (.pv (.int W)),some (.ref 2),some (.pv i)] [.lst (li ns),.lst hl,.lst (L.map lv)]=.nx [some (.ref 0),some (.pv (.int (n:Int))),some (.pv (.int W)),some (.ref 2),some (.pv i)] [.lst (li n1),.lst hl,.lst ((L++[xs]).map lv)]:=by
    have el:(L++[xs]).map lv=L.map lv++[lv xs]:=by simp
    rw[el];have lz:(L.map lv).length<16777216:=by rw[am];omega
    have rg:=qY [.lst (li ns),.lst hl,.lst (L.map lv)] hn;unfold rB;generalize (n:Int)=N,cX 0 n=IP,li ns=NL,L.map lv=LL at *;simp! [aE,bB,bD,aN,aS,aR,aP,aQ,aH,aO,dQ,fB,iO,bQ,cT,dL,rg,e1,lz]
   simp only[gN,jh,ee];rw[es];dsimp only;rw[e2,mj];rfl
  .rcases ci.mp hy with rfl |hy
   .exact⟨by rw[l1];unfold cX;simp,b1⟩
   .exact b2 ys hy
theorem X5{S:aG}{ti:Nat}{a b c d e f:Int}(h:S[ti]?=some (.lst [lv [a,b],lv [c,d],lv [e,f]]))(ha:0<=a/\a<=2)(hb:0<=b/\b<=2)(hc:0<=c/\c<=2)(hd:0<=d/\d<=2)(he:0<=e/\e<=2)(hf:0<=f/\f<=2):mK [.ref ti] S=.ok (.pv (.int (D2 a b 1 c d 1 e f 1))) S:=by
 have id:(c-a)*(f-b)-(d-b)*(e-a)=D2 a b 1 c d 1 e f 1:=by
  unfold D2;grind
 have b1:Bd 10 (c-a):=tE (by omega) (by omega);have b2:Bd 10 (d-b):=tE (by omega) (by omega);have b3:Bd 10 (e-a):=tE (by omega) (by omega);have b4:Bd 10 (f-b):=tE (by omega) (by omega);have m1:=eO b1 b4;have m2:=eO b2 b3;generalize D2 a b 1 c d 1 e f 1=D at *;have s1:=wT (lv [a,b]) [lv [c,d],lv [e,f]];have et:jW [.pv (.lst [.lst [.int (c-a),.int (d-b)],.lst [.int (e-a),.int (f-b)]])] S=.ok (.pv (.int D)) S:=by
  unfold jW aV pU;simp! [aE,bB,bD,aN,aS,aR,aP,aQ,aH,aO,m1,m2,id]
 unfold mK aV tV;simp only[lv,li,aw,cv]at h s1;simp! [aE,bB,bD,aN,aS,aR,aP,aQ,aH,aO,bQ,bV,cO,fV,dX,eY,iH,h,s1,cT,fI,fA,gN,gT,bO,cU,gA,kA,eI,et]
theorem aav{S:aG}{ti:Nat}{x0 y0 z0 x1 y1 z1 x2 y2 z2 x3 y3 z3:Int}(h:S[ti]?=some (.lst [lv [x0,y0,z0],lv [x1,y1,z1],lv [x2,y2,z2],lv [x3,y3,z3]]))(hb:∀x∈[x0,y0,z0,x1,y1,z1,x2,y2,z2,x3,y3,z3],0<=x/\x<=2):mK [.ref ti] S=.ok (.pv (.int (D3 x0 y0 z0 1 x1 y1 z1 1 x2 y2 z2 1 x3 y3 z3 1))) S:=by
 have id:dt [(y1-y0)*(z2-z0)-(z1-z0)*(y2-y0),(z1-z0)*(x2-x0)-(x1-x0)*(z2-z0),(x1-x0)*(y2-y0)-(y1-y0)*(x2-x0)] [x3-x0,y3-y0,z3-z0]=D3 x0 y0 z0 1 x1 y1 z1 1 x2 y2 z2 1 x3 y3 z3 1:=by
  simp only[dt,D3,u5,u6,xh,List.sum_nil];grind
 simp only[ci,iw,or_false,forall_eq_or_imp,forall_eq]at hb;have q:∀{a b:Int},(0<=a/\a<=2)->(0<=b/\b<=2)->Bd 10 (a-b):=λh g=>tE (by omega) (by omega);obtain⟨hx0,hy0,hz0,hx1,hy1,hz1,hx2,hy2,hz2,hx3,hy3,hz3⟩:=hb;have b1:=q hx1 hx0;have b2:=q hy1 hy0;have b3:=q hz1 hz0;have b4:=q hx2 hx0;have b5:=q hy2 hy0;have b6:=q hz2 hz0;have b7:=q hx3 hx0;have b8:=q hy3 hy0;have b9:=q hz3 hz0;clear hx0 hy0 hz0 hx1 hy1 hz1 hx2 hy2 hz2 hx3 hy3 hz3 q;generalize D3 x0 y0 z0 1 x1 y1 z1 1 x2 y2 z2 1 x3 y3 z3 1=D at *;have s1:=wT (lv [x0,y0,z0]) [lv [x1,y1,z1],lv [x2,y2,z2],lv [x3,y3,z3]];have et:jW [.pv (.lst [.lst [.int (x1-x0),.int (y1-y0),.int (z1-z0)],.lst [.int (x2-x0),.int (y2-y0),.int (z2-z0)],.lst [.int (x3-x0),.int (y3-y0),.int (z3-z0)]])] S=.ok (.pv (.int D)) S:=by
  generalize z3-z0=T2,y3-y0=T1,x3-x0=T0,z2-z0=V2,y2-y0=V1,x2-x0=V0,z1-z0=U2,y1-y0=U1,x1-x0=U0 at *;have u:∀{a:Int},Bd 10 a->Bd 10000 a:=λh=>h.mono (by decide);have u2:∀{a:Int},Bd 10 a->Bd 100000 a:=λh=>h.mono (by decide);have cc:∀{a b c d:Int},Bd 10 a->Bd 10 b->Bd 10 c->Bd 10 d->Bd 100000 (a*b-c*d):=λh1 h2 h3 h4=>(((h1.mul h2).mono (show 10+10<=20 by decide)).sub ((h3.mul h4).mono (show 10+10<=20 by decide))).mono (by decide);have en:=Na (A:=.lst [.int U0,.int U1,.int U2]) (B:=.lst [.int V0,.int V1,.int V2]) S rfl rfl (u b1) (u b2) (u b3) (u b4) (u b5) (u b6);have ed:=Bm (A:=.lst [.int (U1*V2-U2*V1),.int (U2*V0-U0*V2),.int (U0*V1-U1*V0)]) (B:=.lst [.int T0,.int T1,.int T2]) (us:=[U1*V2-U2*V1,U2*V0-U0*V2,U0*V1-U1*V0]) (vs:=[T0,T1,T2]) S (.inl rfl) (.inl rfl) (by simp;exact⟨cc b2 b6 b3 b5,cc b3 b4 b1 b6,cc b1 b5 b2 b4⟩) (by simp;exact⟨u2 b7,u2 b8,u2 b9⟩);rw[id]at ed;generalize U0*V1-U1*V0=N2,U2*V0-U0*V2=N1,U1*V2-U2*V1=N0 at *;unfold jW aV pU;simp! [aE,bB,bD,aN,aS,aR,aP,aQ,aH,aO,en,ed]
 unfold mK aV tV;simp only[lv,li,aw,cv]at h s1;simp! [aE,bB,bD,aN,aS,aR,aP,aQ,aH,aO,bQ,bV,cO,fV,dX,eY,iH,h,s1,cT,fI,fA,gN,gT,bO,cU,gA,kA,eI,et]
theorem abW{n:Nat}(hn:n=2\/n=3){S:aG}{ti:Nat}{L:AB}(h:S[ti]?=some (.lst (L.map lv)))(hl:L.length=n+1)(hb:∀xs∈L,xs.length=n/\∀x∈xs,0<=x/\x<=2):mK [.ref ti] S=.ok (.pv (.int (dU (L.map (·++[1]))))) S:=by
 rcases hn with rfl |rfl
 .match L,hl,hb,h with
  |[A,B,C],_,hb,h=>
   have ga:=hb A (by simp);have gb:=hb B (by simp);have gc:=hb C (by simp);clear hb
   match A,ga.1,B,gb.1,C,gc.1 with
   |[a,b],_,[c,d],_,[e,f],_=>exact X5 h (ga.2 a (by simp)) (ga.2 b (by simp)) (gb.2 c (by simp)) (gb.2 d (by simp)) (gc.2 e (by simp)) (gc.2 f (by simp))
 .match L,hl,hb,h with
  |[A,B,C,D],_,hb,h=>
   have ga:=hb A (by simp);have gb:=hb B (by simp);have gc:=hb C (by simp);have gd:=hb D (by simp);clear hb
   match A,ga.1,B,gb.1,C,gc.1,D,gd.1 with
   |[x0,y0,z0],_,[x1,y1,z1],_,[x2,y2,z2],_,[x3,y3,z3],_=>
    refine aav h λx hx=>?_;rw[show[x0,y0,z0,x1,y1,z1,x2,y2,z2,x3,y3,z3]=[x0,y0,z0]++([x1,y1,z1]++([x2,y2,z2]++[x3,y3,z3])) from rfl]at hx;rcases cj.mp hx with z |z
    .exact ga.2 x z
    .rcases cj.mp z with z |z
     .exact gb.2 x z
     .rcases cj.mp z with z |z
      .exact gc.2 x z
      .exact gd.2 x z
def qX(n:Nat):AB:=if n=2 then[[0,0],[1,0],[0,1]] else[[0,0,0],[1,0,0],[0,1,0],[0,0,1]]
theorem aae{n:Nat}(hn:n=2\/n=3):Rw n (qX n):=by
 rcases hn with rfl |rfl
 .exact⟨rfl,by decide,by decide,by decide⟩
 .exact⟨rfl,by decide,by decide,by decide⟩
theorem rgm(S:aG){n:Nat}(h:n<=9):xN [.pv (.int (-1)),.pv (.int (n:Int))] S=.ok (cX (-1) (n+1),[]) S:=by
 have e:xN [.pv (.int (-1)),.pv (.int (n:Int))] S=@ite _ ((-4611686018427387904<=(-1:Int)/\(-1:Int)<4611686018427387904/\-4611686018427387904<=(n:Int)/\(n:Int)<4611686018427387904)/\(n:Int)- -1<=16777216) (tm _) (.ok (cX (-1) ((n:Int)- -1).toNat,[]) S) .fail:=rfl;rw[e,if_pos ⟨⟨by decide,by decide,by omega,by omega⟩,by omega⟩];rw[show((n:Int)- -1).toNat=n+1 by omega]
theorem yB{α:Type}{a:α}{S:aG}:iZ (.ok a S)=.ok a S:=rfl
theorem xS{n:Nat}{v:PV}{S:aG}:frz n (.ok (.pv v) S)=.ok (.pv v) S:=rfl
theorem L5{n:Nat}(hn:n=2\/n=3)(S:aG)(x0 x2 x3 x4:AJ):bQ ["_law_k"] [(1,"_law_dims")] (mQ (aB (cL dE (mC (.int 1))) (aB (aA 1) aD))) (gN 0) (bQ ["_law_m"] [(0,"_law_k")] (dL (aB (aA 1) aD)) (gN 0) (mR iP (aB (aC dJ (aA 0) (aA 1)) aD))) [x0,some (.pv (.int (n:Int))),x2,x3,x4] S=.ok (.pv (cF (qX n))) S:=by
 have r1:=λS=>qY S (n:=n) (by omega);have r2:=λS=>rgm S (n:=n) (by omega);rcases hn with rfl |rfl
 .have c2:((2:Nat):Int)=2:=rfl
  rw[c2]at r1 r2⊢;have i1:cX 0 2=[.int 0,.int 1]:=rfl;have i2:cX (-1) (2+1)=[.int (-1),.int 0,.int 1]:=rfl;rw[i1]at r1;rw[i2]at r2;simp! [bQ,cT,dL,mQ,aE,bB,bD,aN,aS,aR,aP,aQ,aH,aO,r1,r2,fI,fA,gN,iP,qX]
 .have c2:((3:Nat):Int)=3:=rfl
  rw[c2]at r1 r2⊢;have i1:cX 0 3=[.int 0,.int 1,.int 2]:=rfl;have i2:cX (-1) (3+1)=[.int (-1),.int 0,.int 1,.int 2]:=rfl;rw[i1]at r1;rw[i2]at r2;simp! [bQ,cT,dL,mQ,aE,bB,bD,aN,aS,aR,aP,aQ,aH,aO,r1,r2,fI,fA,gN,iP,qX]
theorem Ep{n:Nat}(hn:n=2\/n=3){W:Int}(W0:0<=W)(W1:W<=2)(ns:AA)(hl:AH):∃(xss:AB)(ns':AA),frz 2 (iZ (kU [.ref 0,.pv (.int (n:Int)),.pv (.int W)] [.lst (li ns),.lst hl]))=.ok (.pv (cF xss)) [.lst (li ns'),.lst hl]/\Rw n xss:=by
 obtain⟨L,n1,y4,e1,l1,b1⟩:=Bl (n:=n) (by omega) W0 W1 hl (cX 0 (n+1)) [] ns none (by unfold cX;simp;omega);have hi:(cX 0 (n+1)).length=n+1:=by unfold cX;simp
 rw[hi]at l1;simp only[kd,cv]at e1;have et:=abW (ti:=2) (S:=[.lst (li n1),.lst hl,.lst (L.map lv)]) hn rfl l1 b1;have rg:=qY [.lst (li ns),.lst hl,.lst []] (n:=n+1) (by omega);have cn:((n+1:Nat):Int)=(n:Int)+1:=by omega
 rw[cn]at rg;have ed:=L5 hn [.lst (li n1),.lst hl,.lst (L.map lv)] (some (.ref 0)) (some (.pv (.int W))) (some (.ref 2)) y4;have hb:Vb=(aL (bA 3 (fE aD))
  (aL (cG (dL (aB (aC aH (aA 1) (mC (.int 1))) aD)) (gN 4) rB)
  (aL (cV (bJ (aC gC (aU mK [] (aB (aA 3) aD)) (mC (.int 0)))) (bF (aA 3)) dZ)
  (bF (bQ ["_law_k"] [(1,"_law_dims")] (mQ (aB (cL dE (mC (.int 1))) (aB (aA 1) aD))) (gN 0) (bQ ["_law_m"] [(0,"_law_k")] (dL (aB (aA 1) aD)) (gN 0) (mR iP (aB (aC dJ (aA 0) (aA 1)) aD)))))))):=rfl
 generalize (bQ ["_law_k"] [(1,"_law_dims")] (mQ (aB (cL dE (mC (.int 1))) (aB (aA 1) aD))) (gN 0) (bQ ["_law_m"] [(0,"_law_k")] (dL (aB (aA 1) aD)) (gN 0) (mR iP (aB (aC dJ (aA 0) (aA 1)) aD))))=CD at ed hb;generalize rB=RB at e1 hb
 by_cases hd:dU (L.map (·++[1]))=0
 .refine⟨qX n,n1,?_,aae hn⟩
  rw[hd]at et;unfold kU aV;rw[hb];generalize (n:Int)=N,cX 0 (n+1)=IP,li n1=NL1,li ns=NL,L.map lv=LL,cF (qX n)=RV at *;simp! [aE,bB,bD,aN,aS,aR,aP,aQ,aH,aO,fE,lA,cG,dL,rg,e1,et,ed]
 .refine⟨L,n1,?_,⟨l1,λxs hx=>(b1 xs hx).1,λxs hx x hh=>by have:=(b1 xs hx).2 x hh;omega,hd⟩⟩
  unfold kU aV;rw[hb];have hv:cF L=.lst (L.map lv):=rfl;rw[hv];generalize (n:Int)=N,cX 0 (n+1)=IP,li n1=NL1,li ns=NL,L.map lv=LL,dU (L.map (·++[1]))=d at *;simp! [aE,bB,bD,aN,aS,aR,aP,aQ,aH,aO,fE,lA,cG,dL,rg,e1,et,hd]
abbrev hB:MS:=(aL (bA 5 (aU dN [] (aB (aA 0) (aB (mC (.int 6)) aD))))
 (cV (jE (bJ (aC dJ (aA 5) (mC (.int 5)))) (bJ (aC eT (mR cY (aB (aA 3) aD)) (mC (.int 0))))) (dH (dQ (aA 3) (aB (aC aE (aA 3) (cL dE (mC (.int 1)))) aD))) (cV (bJ (aC dJ (aA 1) (mC (.int 2)))) (dH (dQ (aA 3) (aB (aU kU [] (aB (aA 0) (aB (mC (.int 2)) (aB (aC aH (mC (.int 1)) (mR iP (aB (aC dJ (aA 5) (mC (.int 4))) aD))) aD)))) aD))) (cV (bJ (aC eT (aA 5) (mC (.int 3)))) (dH (dQ (aA 3) (aB (aU kU [] (aB (aA 0) (aB (mC (.int 3)) (aB (mC (.int 1)) aD)))) aD))) (dH (dQ (aA 3) (aB (aU pS [] (aB (aA 0) aD)) aD)))))))
theorem abX{n:Nat}(hn:n=2\/n=3)(ns:AA)(hs:AC)(hw:∀xss∈hs,Rw n xss)(hl:hs.length<=99)(x2 x4 x5:AJ):∃(xss:AB)(ns':AA)(y5:AJ),hB [some (.ref 0),some (.pv (.int (n:Int))),x2,some (.ref 1),x4,x5] [.lst (li ns),.lst (hs.map cF)]=.nx [some (.ref 0),some (.pv (.int (n:Int))),x2,some (.ref 1),x4,y5] [.lst (li ns'),.lst ((hs++[xss]).map cF)]/\Rw n xss:=by
 have hr:fG [.lst (li ns),.lst (hs.map cF)] 0 ns:=rfl;obtain⟨t,n1,e1,t0,t1,_⟩:=jK (m:=6) hr (by decide) (lG (by decide) (by decide));simp only[ee]at e1;have e1:dN [.ref 0,.pv (.int 6)] [.lst (li ns),.lst (hs.map cF)]=.ok (.pv (.int t)) [.lst (li n1),.lst (hs.map cF)]:=e1;have lz:(hs.map cF).length<16777216:=by rw[am];omega
 have lz':hs.length<16777216:=by omega
 have el:∀xss,(hs++[xss]).map cF=hs.map cF++[cF xss]:=λxss=>by simp
 by_cases c1:t=5/\0<hs.length
 .obtain⟨v,hv,e2⟩:=Gx (hs.map cF) .non (by
   intro z;have:=congrArg qv z;simp at this;rw[this]at c1;simp at c1)
  obtain⟨xss,hx,rfl⟩:=dz.mp hv;refine⟨xss,n1,some (.pv (.int t)),?_,hw xss hx⟩;rw[el];obtain⟨c1,c2⟩:=c1;subst c1;have c3:hs.map cF≠[]:=λz=>by
   have:=congrArg qv z;simp at this;rw[this]at c2;simp at c2
  generalize hs.map cF=HL,cF xss=RV at *;unfold hB;simp! [-frz,-iZ,bY,aS,aR,aP,aQ,aH,aO,e1,dQ,fB,iO,e2,lz,c3]
 .have c1':t=5->hs.map cF=[]:=λz=>by
   have:hs.length=0:=by
    by_cases y:0<hs.length
    .exact absurd ⟨z,y⟩ c1
    .omega
   rw[xz.mp this];rfl
  have cA:∀(S:aG)(ρ:bT),ρ[5]?=some (some (.pv (.int t)))->ρ[3]?=some (some (.ref 1))->S[1]?=some (.lst (hs.map cF))->jE (bJ (aC dJ (aA 5) (mC (.int 5)))) (bJ (aC eT (mR cY (aB (aA 3) aD)) (mC (.int 0)))) ρ S=.ok false S:=λS ρ h5 h3 hS=>by
   cases z:t==5 with
   |false=>simp! [-frz,-iZ,bY,aS,aR,aP,aQ,aH,aO,h5,z]
   |true=>
    rw[c1' (by simpa using z)]at hS;simp! [-frz,-iZ,bY,aS,aR,aP,aQ,aH,aO,h5,h3,hS,z]
  generalize hA:jE (bJ (aC dJ (aA 5) (mC (.int 5)))) (bJ (aC eT (mR cY (aB (aA 3) aD)) (mC (.int 0))))=MA at cA;have hBe:hB=(aL (bA 5 (aU dN [] (aB (aA 0) (aB (mC (.int 6)) aD))))
   (cV MA (dH (dQ (aA 3) (aB (aC aE (aA 3) (cL dE (mC (.int 1)))) aD))) (cV (bJ (aC dJ (aA 1) (mC (.int 2)))) (dH (dQ (aA 3) (aB (aU kU [] (aB (aA 0) (aB (mC (.int 2)) (aB (aC aH (mC (.int 1)) (mR iP (aB (aC dJ (aA 5) (mC (.int 4))) aD))) aD)))) aD))) (cV (bJ (aC eT (aA 5) (mC (.int 3)))) (dH (dQ (aA 3) (aB (aU kU [] (aB (aA 0) (aB (mC (.int 3)) (aB (mC (.int 1)) aD)))) aD))) (dH (dQ (aA 3) (aB (aU pS [] (aB (aA 0) aD)) aD))))))):=by rw[<-hA]
  rw[hBe];rcases hn with rfl |rfl
  .obtain⟨xss,n2,e2,hw2⟩:=Ep (n:=2) (.inl rfl) (W:=1+(if t=4 then 1 else 0)) (by split<;>decide) (by split<;>decide) n1 (hs.map cF)
   refine⟨xss,n2,some (.pv (.int t)),?_,hw2⟩;rw[el];have c2:((2:Nat):Int)=2:=rfl;rw[c2]at e2⊢;have cA':=cA [.lst (li n1),.lst (hs.map cF)] [some (.ref 0),some (.pv (.int 2)),x2,some (.ref 1),x4,some (.pv (.int t))] rfl rfl rfl;generalize hs.map cF=HL,cF xss=RV at*
   by_cases z:t=4
   .subst z
    simp! [-frz,-iZ,bY,aS,aR,aP,aQ,aH,aO,e1,cA',dQ,fB,iO,iP,yB,xS,lz]at e2⊢;simp[e2,lz,bK.bind,bZ.of]
   .rw[if_neg z]at e2
    have z':(t==4)=false:=by simpa using z
    simp! [-frz,-iZ,bY,aS,aR,aP,aQ,aH,aO,e1,cA',dQ,fB,iO,iP,yB,xS,lz,z']at e2⊢;simp[e2,lz,bK.bind,bZ.of]
  .have c3:((3:Nat):Int)=3:=rfl
   rw[c3];have cA':=cA [.lst (li n1),.lst (hs.map cF)] [some (.ref 0),some (.pv (.int 3)),x2,some (.ref 1),x4,some (.pv (.int t))] rfl rfl rfl
   by_cases z:3<t
   .obtain⟨xss,n2,e2,hw2⟩:=Ep (n:=3) (.inr rfl) (W:=1) (by decide) (by decide) n1 (hs.map cF)
    refine⟨xss,n2,some (.pv (.int t)),?_,hw2⟩;rw[el];rw[c3]at e2;generalize hs.map cF=HL,cF xss=RV at *;simp! [-frz,-iZ,bY,aS,aR,aP,aQ,aH,aO,e1,cA',dQ,fB,iO,yB,xS,z];simp[e2,lz,bK.bind,bZ.of]
   .obtain⟨xss,n2,e2,hw2⟩:=Q7 n1 (hs.map cF)
    refine⟨xss,n2,some (.pv (.int t)),?_,hw2⟩;rw[el];generalize hs.map cF=HL,cF xss=RV at *;simp! [-frz,-iZ,bY,aS,aR,aP,aQ,aH,aO,e1,cA',dQ,fB,iO,yB,xS,z,e2,lz]
theorem Mq{n:Nat}(hn:n=2\/n=3)(x2:AJ):∀(is:AH)(hs:AC)(ns:AA)(x4 x5:AJ),(∀xss∈hs,Rw n xss)->hs.length+is.length<=99->∃(hs':AC)(ns':AA)(y4 y5:AJ),
  dA [] (gN 4) hB is [some (.ref 0),some (.pv (.int (n:Int))),x2,some (.ref 1),x4,x5] [.lst (li ns),.lst (hs.map cF)]=.nx [some (.ref 0),some (.pv (.int (n:Int))),x2,some (.ref 1),y4,y5] [.lst (li ns'),.lst (hs'.map cF)]/\hs'.length=hs.length+is.length/\∀xss∈hs',Rw n xss
 |[],hs,ns,x4,x5,hw,_=>⟨hs,ns,x4,x5,hV,rfl,hw⟩
 |i::is,hs,ns,x4,x5,hw,h9=>by
  have h9:hs.length+(is.length+1)<=99:=h9;obtain⟨xss,n1,y5,e1,r1⟩:=abX hn ns hs hw (by omega) x2 (some (.pv i)) x5;obtain⟨hs',n2,z4,z5,e2,l2,r2⟩:=Mq hn x2 is (hs++[xss]) n1 (some (.pv i)) y5 (λy hy=>by
   rcases cj.mp hy with z |z
   .exact hw y z
   .have:y=xss:=by simpa using z
    rw[this];exact r1) (by rw[bi,jv];omega)
  refine⟨hs',n2,z4,z5,?_,by rw[l2,bi,jv];show _=hs.length+(is.length+1);omega,r2⟩;rw[fO];simp only[gN,jh,ee];rw[e1];exact e2
theorem Mu{n M:Nat}(hn:n=2\/n=3)(hM:M<=8)(ns:AA):∃(hs:AC)(ns':AA),rD [.ref 0,.pv (.int (n:Int)),.pv (.int (M:Int))] [.lst (li ns)]=.ok (.ref 1) [.lst (li ns'),.lst (hs.map cF)]/\hs.length<=M/\∀xss∈hs,Rw n xss:=by
 have hr:fG [.lst (li ns),.lst []] 0 ns:=rfl;obtain⟨t,n1,e1,t0,t1,_⟩:=jK (m:=(M:Int)+1) hr (by omega) (lG (by omega) (by omega));simp only[ee]at e1;have e1:dN [.ref 0,.pv (.int ((M:Int)+1))] [.lst (li ns),.lst []]=.ok (.pv (.int t)) [.lst (li n1),.lst []]:=e1;obtain⟨m,rfl⟩:∃m:Nat,t=(m:Int):=⟨t.toNat,by omega⟩;have rg:=qY [.lst (li n1),.lst []] (n:=m) (by omega);have hi:(cX 0 m).length=m:=by unfold cX;simp
 obtain⟨hs,n2,y4,y5,e2,l2,r2⟩:=Mq hn (some (.pv (.int (M:Int)))) (cX 0 m) [] n1 none none (λ_ h=>absurd h iw) (by rw[hi];show 0+m<=99;omega);rw[hi]at l2;refine⟨hs,n2,?_,by rw[l2];show 0+m<=M;omega,r2⟩;simp only[cv]at e2;have hb:yP=(aL (bA 3 (fE aD))
  (aL (cG (dL (aB (aU dN [] (aB (aA 0) (aB (aC aH (aA 2) (mC (.int 1))) aD))) aD)) (gN 4) hB)
  (bF (aA 3)))):=rfl
 unfold rD aV;rw[hb];generalize (M:Int)=MM,(n:Int)=N,(m:Int)=mm,cX 0 m=IP,hs.map cF=HL,hB=HB at *;simp! [aE,bB,bD,aN,aS,aR,aP,aQ,aH,aO,fE,lA,cG,dL,e1,rg,e2]
theorem Co{n k:Nat}{L:AA}{b:Int}(hb:0<b)(hl:L.length=n)(hL:∀x∈L,Bd k x)(bb:Bd k b):∃(zs:AA)(z:Int),low (L++[b])=zs++[z]/\Pq n k zs z/\∀j,j<n->zs.getD j 0*b=L.getD j 0*z:=by
 obtain⟨zs,z,g,e,hg,hz,g1,g2,hzl⟩:=vP L hb;have hlow:=Rb L hb;have hbd:=wB (k:=k) (ns:=L++[b]) λm hm=>by
  rcases cj.mp hm with y |y
  .exact hL m y
  .have:m=b:=by simpa using y
   rw[this];exact bb
 rw[e]at hlow hbd;refine⟨zs,z,e,⟨hzl.trans hl,hz,hlow,λx hx=>hbd x (kw _ hx),hbd z (mP zs z)⟩,λj hj=>?_⟩;have hj':j<zs.length:=by omega
 have e1:L.getD j 0=g*zs.getD j 0:=by
  rw[g1];simp[br,hj']
 rw[e1,g2];grind
structure Sp(u:Int×Int):Prop where
 p:0<u.1
 q:0<u.2
 bp:Bd 30 u.1
 bq:Bd 30 u.2
theorem p9:gW (.int 10) (.int 9)=some (.int 1000000000):=vK (i:=10) (j:=9) ⟨by decide,by decide,by decide⟩
theorem p6:gW (.int 10) (.int 6)=some (.int 1000000):=vK (i:=10) (j:=6) ⟨by decide,by decide,by decide⟩
theorem dI{v:Int}(h0:0<=v)(h1:v<3):∃M N:Int,aE (.lst [.int 1,.int 7,.int 1000000000]) (.int v)=some (.int M)/\aE (.lst [.int 1,.int 7,.int 1000000]) (.int v)=some (.int N)/\0<M/\M<=1000000000/\0<N/\N<=1000000:=by
 have:v=0\/v=1\/v=2:=by omega
 rcases this with rfl |rfl |rfl
 .exact⟨1,1,rfl,rfl,by decide,by decide,by decide,by decide⟩
 .exact⟨7,7,rfl,rfl,by decide,by decide,by decide,by decide⟩
 .exact⟨1000000000,1000000,rfl,rfl,by decide,by decide,by decide,by decide⟩
abbrev sB:MS:=(aL (bA 4 (aU dN [] (aB (aA 0) (aB (mC (.int 3)) aD))))
 (dH (dQ (aA 2) (aB (aU mS [] (aB (aC aH (mC (.int 1)) (aU dN [] (aB (aA 0) (aB (aC aE (mN fS (aB (mC (.int 1)) (aB (mC (.int 7)) (aB (aC gW (mC (.int 10)) (mC (.int 9))) aD)))) (aA 4)) aD)))) (aB (aC aH (mC (.int 1)) (aU dN [] (aB (aA 0) (aB (aC aE (mN fS (aB (mC (.int 1)) (aB (mC (.int 7)) (aB (aC gW (mC (.int 10)) (mC (.int 6))) aD)))) (aA 4)) aD)))) aD))) aD))))
theorem acb(ns:AA)(fs:List (Int×Int))(hl:fs.length<=9)(x1 x3 x4:AJ):∃(u:Int×Int)(ns':AA)(y4:AJ),sB [some (.ref 0),x1,some (.ref 1),x3,x4] [.lst (li ns),.lst (fs.map fv)]=.nx [some (.ref 0),x1,some (.ref 1),x3,y4] [.lst (li ns'),.lst ((fs++[u]).map fv)]/\Sp u:=by
 have hr:∀ms,fG [.lst (li ms),.lst (fs.map fv)] 0 ms:=λ_=>rfl;obtain⟨c,n1,e1,c0,c1,_⟩:=jK (m:=3) (hr ns) (by decide) (lG (by decide) (by decide));obtain⟨M,N,em,en,M0,M1,N0,N1⟩:=dI c0 c1;have bM:Bd 8000 M:=(Bd.of (k:=30) (n:=1000000000) (by omega) (by decide)).mono (by decide);have bN:Bd 8000 N:=(Bd.of (k:=30) (n:=1000000000) (by omega) (by decide)).mono (by decide);obtain⟨t,n2,e2,t0,t1,_⟩:=jK (m:=M) (hr n1) M0 bM;obtain⟨v,n3,e3,v0,v1,_⟩:=jK (m:=N) (hr n2) N0 bN;simp only[ee]at e1 e2 e3;have bt:Bd 30 (1+t):=Bd.of (n:=1000000000) (by omega) (by decide);have bv:Bd 30 (1+v):=Bd.of (n:=1000000000) (by omega) (by decide);have nz:1+v≠0:=by omega
 have e4:=Eb (1+t) (1+v) [.lst (li n3),.lst (fs.map fv)] (bt.mono (by decide)) (bv.mono (by decide));obtain⟨p,q,ef,hq,hpq⟩:=wN (t:=1+t) nz;obtain⟨b1,b2⟩:=sQ bt bv ef;have hp:0<p:=by
  have h1:0<(1+t)*q:=ca (by omega) hq;rw[<-hpq]at h1;exact wk h1 (by omega)
 rw[ef]at e4;simp only[aw,cv]at e4;refine⟨(p,q),n3,some (.pv (.int c)),?_,⟨hp,hq,b1,b2⟩⟩;have el:(fs++[(p,q)]).map fv=fs.map fv++[.tup [.int p,.int q]]:=by simp
 rw[el];have lz:(fs.map fv).length<16777216:=by rw[am];omega
 have e1:dN [.ref 0,.pv (.int 3)] [.lst (li ns),.lst (fs.map fv)]=.ok (.pv (.int c)) [.lst (li n1),.lst (fs.map fv)]:=e1;have e2:dN [.ref 0,.pv (.int M)] [.lst (li n1),.lst (fs.map fv)]=.ok (.pv (.int t)) [.lst (li n2),.lst (fs.map fv)]:=e2;have e3:dN [.ref 0,.pv (.int N)] [.lst (li n2),.lst (fs.map fv)]=.ok (.pv (.int v)) [.lst (li n3),.lst (fs.map fv)]:=e3;generalize fs.map fv=FL at *;unfold sB;simp! [bY,aS,aR,aP,aQ,aH,aO,e1,p9,p6,em,en,e2,e3,e4,dQ,fB,iO,lz]
theorem Ar(x1:AJ):∀(is:AH)(fs:List (Int×Int))(ns:AA)(x3 x4:AJ),(∀u∈fs,Sp u)->fs.length+is.length<=9->∃(fs':List (Int×Int))(ns':AA)(y3 y4:AJ),
  dA [] (gN 3) sB is [some (.ref 0),x1,some (.ref 1),x3,x4] [.lst (li ns),.lst (fs.map fv)]=.nx [some (.ref 0),x1,some (.ref 1),y3,y4] [.lst (li ns'),.lst (fs'.map fv)]/\fs'.length=fs.length+is.length/\∀u∈fs',Sp u
 |[],fs,ns,x3,x4,hw,_=>⟨fs,ns,x3,x4,hV,rfl,hw⟩
 |i::is,fs,ns,x3,x4,hw,h9=>by
  have h9:fs.length+(is.length+1)<=9:=h9;obtain⟨u,n1,y4,e1,r1⟩:=acb ns fs (by omega) x1 (some (.pv i)) x4;obtain⟨fs',n2,z3,z4,e2,l2,r2⟩:=Ar x1 is (fs++[u]) n1 (some (.pv i)) y4 (λy hy=>by
   rcases cj.mp hy with z |z
   .exact hw y z
   .have:y=u:=by simpa using z
    rw[this];exact r1) (by rw[bi,jv];omega)
  refine⟨fs',n2,z3,z4,?_,by rw[l2,bi,jv];show _=fs.length+(is.length+1);omega,r2⟩;rw[fO];simp only[gN,jh,ee];rw[e1];exact e2
theorem Yv{n:Nat}(hn:n=2\/n=3)(ns:AA):∃(fs:List (Int×Int))(ns':AA),uB [.ref 0,.pv (.int (n:Int))] [.lst (li ns)]=.ok (.ref 1) [.lst (li ns'),.lst (fs.map fv)]/\fs.length=n/\∀u∈fs,Sp u:=by
 have hi:(cX 0 n).length=n:=by unfold cX;simp
 have rg:=qY [.lst (li ns),.lst []] (n:=n) (by omega);obtain⟨fs,n2,y3,y4,e2,l2,r2⟩:=Ar (some (.pv (.int (n:Int)))) (cX 0 n) [] ns none none (λ_ h=>absurd h iw) (by rw[hi];show 0+n<=9;omega);rw[hi]at l2;refine⟨fs,n2,?_,by rw[l2];show 0+n=n;omega,r2⟩;simp only[cv]at e2;have hb:yW=(aL (bA 2 (fE aD)) (aL (cG (dL (aB (aA 1) aD)) (gN 3) sB) (bF (aA 2)))):=rfl;unfold uB aV;rw[hb];generalize (n:Int)=N,cX 0 n=IP,fs.map fv=FL,sB=SB at *;simp! [aE,bB,bD,aN,aS,aR,aP,aQ,aH,aO,fE,lA,cG,dL,rg,e2]
def eB:List (Int×Int)->AA->AA
 |[u,v],[a,b]=>low ([a*u.1*v.2,b*v.1*u.2]++[1*u.2*v.2])
 |[u,v,t],[a,b,c]=>low ([a*u.1*(v.2*t.2),b*v.1*(u.2*t.2),c*t.1*(u.2*v.2)]++[1*u.2*v.2*t.2])
 |_,_=>[]
def Ie:List (Int×Int)->Nat->Int
 |[u,v],0=>u.1*v.2
 |[u,v],1=>v.1*u.2
 |[u,v,t],0=>u.1*(v.2*t.2)
 |[u,v,t],1=>v.1*(u.2*t.2)
 |[u,v,t],2=>t.1*(u.2*v.2)
 |_,_=>1
def Le:List (Int×Int)->Int
 |[u,v]=>1*u.2*v.2
 |[u,v,t]=>1*u.2*v.2*t.2
 |_=>1
theorem Pb{n:Nat}(hn:n=2\/n=3)(S:aG){fs:List (Int×Int)}{xs:AA}(hf:fs.length=n)(h:∀u∈fs,Sp u)(hx:xs.length=n)(hb:∀x∈xs,-8<x/\x<8):oC [.pv (lv xs),.pv (.lst (fs.map fv))] S=.ok (.pv (tv (eB fs xs))) S/\Gu n 100 (eB fs xs)/\iQ n (Ie fs) (λ_=>0) (Le fs) (xs++[1]) (eB fs xs):=by
 have b3:∀{x:Int},-8<x/\x<8->Bd 3 x:=λh=>by
  unfold Bd;have:(2:Nat)^3=8:=rfl;omega
 have o1:Bd 1 (1:Int):=by unfold Bd;decide
 rcases hn with rfl |rfl
 .match fs,hf,h,xs,hx,hb with
  |[u,v],_,h,[a,b],_,hb=>
   have hu:=h u (by simp);have hv:=h v (by simp);have ba:=b3 (hb a (by simp));have bb:=b3 (hb b (by simp));have m1:=mk o1 hu.bq (by decide) (by decide);have m2:=mk (o1.mul hu.bq) hv.bq (by decide) (by decide);have d1:(1*u.2*v.2).fdiv u.2=v.2:=by rw[je];exact nW (by have:=hu.q;omega)
   have d2:(1*u.2*v.2).fdiv v.2=u.2:=by rw[je,dn];exact nW (by have:=hv.q;omega)
   have q1:fX (.int (1*u.2*v.2)) (.int u.2)=some (.int v.2):=by
    have e:=kN (i:=1*u.2*v.2) (j:=u.2) ⟨by have:=hu.q;omega,hu.bq.mono (by decide)⟩;rw[d1]at e;exact e
   have q2:fX (.int (1*u.2*v.2)) (.int v.2)=some (.int u.2):=by
    have e:=kN (i:=1*u.2*v.2) (j:=v.2) ⟨by have:=hv.q;omega,hv.bq.mono (by decide)⟩;rw[d2]at e;exact e
   have m3:=mk ba hu.bp (by decide) (by decide);have m4:=mk (ba.mul hu.bp) hv.bq (by decide) (by decide);have m5:=mk bb hv.bp (by decide) (by decide);have m6:=mk (bb.mul hv.bp) hu.bq (by decide) (by decide);have pE:0<1*u.2*v.2:=ca (ca (by decide) hu.q) hv.q;have bL:∀x∈[a*u.1*v.2,b*v.1*u.2],Bd 100 x:=by
    simp;exact⟨((ba.mul hu.bp).mul hv.bq).mono (by decide),((bb.mul hv.bp).mul hu.bq).mono (by decide)⟩
   have bE:Bd 100 (1*u.2*v.2):=((o1.mul hu.bq).mul hv.bq).mono (by decide);obtain⟨zs,z,el,Z,rel⟩:=Co (n:=2) pE rfl bL bE;have ew:=nY ([a*u.1*v.2,b*v.1*u.2]++[1*u.2*v.2]) S (by
    intro x hx;rcases cj.mp hx with y |y
    .exact(bL x y).mono (by decide)
    .have:x=1*u.2*v.2:=by simpa using y
     rw[this];exact bE.mono (by decide))
   have es:eB [u,v] [a,b]=zs++[z]:=el;refine⟨?_,by rw[es];exact⟨zs,z,rfl,Z⟩,[a,b],1,zs,z,rfl,es,rfl,Z.len,by decide,Z.pos,λj hj=>?_⟩
   .rw[el]at ew
    rw[es];simp only[aw,cv,uj,kd]at ew;generalize hQ:1*u.2*v.2=Q at *;generalize hA:a*u.1*v.2=A at *;generalize hB:b*v.1*u.2=B at *;unfold oC aV vL;simp only[lv,li,aw,cv];simp only[tv];generalize (zs++[z]).map PV.int=ZL at *;simp only[je]at m1 m2 hQ;simp! [aE,bB,bD,aN,aS,aR,aP,aQ,aH,aO,cG,bV,cO,fO,hV,gN,m1,m2,bQ,cT,gA,kA,eI,fI,fA,gT,bO,cU,m3,m4,m5,m6,q1,q2,ew]
   .have r:=rel j hj
    match j,hj with
    |0,_=>
     have r:zs.getD 0 0*(1*u.2*v.2)=a*u.1*v.2*z:=r;show zs.getD 0 0*(1*u.2*v.2*1)=(u.1*v.2*a+0*1)*z;rw[ng,r];grind
    |1,_=>
     have r:zs.getD 1 0*(1*u.2*v.2)=b*v.1*u.2*z:=r;show zs.getD 1 0*(1*u.2*v.2*1)=(v.1*u.2*b+0*1)*z;rw[ng,r];grind
 .match fs,hf,h,xs,hx,hb with
  |[u,v,t],_,h,[a,b,c],_,hb=>
   have hu:=h u (by simp);have hv:=h v (by simp);have ht:=h t (by simp);have ba:=b3 (hb a (by simp));have bb:=b3 (hb b (by simp));have bc:=b3 (hb c (by simp));have m1:=mk o1 hu.bq (by decide) (by decide);have m2:=mk (o1.mul hu.bq) hv.bq (by decide) (by decide);have m2':=mk ((o1.mul hu.bq).mul hv.bq) ht.bq (by decide) (by decide);have d1:(1*u.2*v.2*t.2).fdiv u.2=v.2*t.2:=by rw[je,Int.mul_assoc];exact nW (by have:=hu.q;omega)
   have d2:(1*u.2*v.2*t.2).fdiv v.2=u.2*t.2:=by rw[show 1*u.2*v.2*t.2=v.2*(u.2*t.2) by grind];exact nW (by have:=hv.q;omega)
   have d3:(1*u.2*v.2*t.2).fdiv t.2=u.2*v.2:=by rw[show 1*u.2*v.2*t.2=t.2*(u.2*v.2) by grind];exact nW (by have:=ht.q;omega)
   have q1:fX (.int (1*u.2*v.2*t.2)) (.int u.2)=some (.int (v.2*t.2)):=by
    have e:=kN (i:=1*u.2*v.2*t.2) (j:=u.2) ⟨by have:=hu.q;omega,hu.bq.mono (by decide)⟩;rw[d1]at e;exact e
   have q2:fX (.int (1*u.2*v.2*t.2)) (.int v.2)=some (.int (u.2*t.2)):=by
    have e:=kN (i:=1*u.2*v.2*t.2) (j:=v.2) ⟨by have:=hv.q;omega,hv.bq.mono (by decide)⟩;rw[d2]at e;exact e
   have q3:fX (.int (1*u.2*v.2*t.2)) (.int t.2)=some (.int (u.2*v.2)):=by
    have e:=kN (i:=1*u.2*v.2*t.2) (j:=t.2) ⟨by have:=ht.q;omega,ht.bq.mono (by decide)⟩;rw[d3]at e;exact e
   have m3:=mk ba hu.bp (by decide) (by decide);have m4:=mk (ba.mul hu.bp) (hv.bq.mul ht.bq) (by decide) (by decide);have m5:=mk bb hv.bp (by decide) (by decide);have m6:=mk (bb.mul hv.bp) (hu.bq.mul ht.bq) (by decide) (by decide);have m7:=mk bc ht.bp (by decide) (by decide);have m8:=mk (bc.mul ht.bp) (hu.bq.mul hv.bq) (by decide) (by decide);have pE:0<1*u.2*v.2*t.2:=ca (ca (ca (by decide) hu.q) hv.q) ht.q;have bL:∀x∈[a*u.1*(v.2*t.2),b*v.1*(u.2*t.2),c*t.1*(u.2*v.2)],Bd 100 x:=by
    simp;exact⟨((ba.mul hu.bp).mul (hv.bq.mul ht.bq)).mono (by decide),((bb.mul hv.bp).mul (hu.bq.mul ht.bq)).mono (by decide),((bc.mul ht.bp).mul (hu.bq.mul hv.bq)).mono (by decide)⟩
   have bE:Bd 100 (1*u.2*v.2*t.2):=(((o1.mul hu.bq).mul hv.bq).mul ht.bq).mono (by decide);obtain⟨zs,z,el,Z,rel⟩:=Co (n:=3) pE rfl bL bE;have ew:=nY ([a*u.1*(v.2*t.2),b*v.1*(u.2*t.2),c*t.1*(u.2*v.2)]++[1*u.2*v.2*t.2]) S (by
    intro x hx;rcases cj.mp hx with y |y
    .exact(bL x y).mono (by decide)
    .have:x=1*u.2*v.2*t.2:=by simpa using y
     rw[this];exact bE.mono (by decide))
   have es:eB [u,v,t] [a,b,c]=zs++[z]:=el;refine⟨?_,by rw[es];exact⟨zs,z,rfl,Z⟩,[a,b,c],1,zs,z,rfl,es,rfl,Z.len,by decide,Z.pos,λj hj=>?_⟩
   .rw[el]at ew
    rw[es];simp only[aw,cv,uj,kd]at ew;generalize hQ:1*u.2*v.2*t.2=Q at *;generalize hA:a*u.1*(v.2*t.2)=A at *;generalize hB:b*v.1*(u.2*t.2)=B at *;generalize hC:c*t.1*(u.2*v.2)=C at *;unfold oC aV vL;simp only[lv,li,aw,cv];simp only[tv];generalize (zs++[z]).map PV.int=ZL at *;simp only[je]at m1 m2 m2' hQ;simp! [aE,bB,bD,aN,aS,aR,aP,aQ,aH,aO,cG,bV,cO,fO,hV,gN,m1,m2,m2',bQ,cT,gA,kA,eI,fI,fA,gT,bO,cU,m3,m4,m5,m6,m7,m8,q1,q2,q3,ew]
   .have r:=rel j hj
    match j,hj with
    |0,_=>
     have r:zs.getD 0 0*(1*u.2*v.2*t.2)=a*u.1*(v.2*t.2)*z:=r;show zs.getD 0 0*(1*u.2*v.2*t.2*1)=(u.1*(v.2*t.2)*a+0*1)*z;rw[ng,r];grind
    |1,_=>
     have r:zs.getD 1 0*(1*u.2*v.2*t.2)=b*v.1*(u.2*t.2)*z:=r;show zs.getD 1 0*(1*u.2*v.2*t.2*1)=(v.1*(u.2*t.2)*b+0*1)*z;rw[ng,r];grind
    |2,_=>
     have r:zs.getD 2 0*(1*u.2*v.2*t.2)=c*t.1*(u.2*v.2)*z:=r;show zs.getD 2 0*(1*u.2*v.2*t.2*1)=(t.1*(u.2*v.2)*c+0*1)*z;rw[ng,r];grind
theorem P5{n:Nat}(hn:n=2\/n=3){fs:List (Int×Int)}(hf:fs.length=n)(h:∀u∈fs,Sp u):0<Le fs/\∀j,j<n->0<Ie fs j:=by
 rcases hn with rfl |rfl
 .match fs,hf,h with
  |[u,v],_,h=>
   have hu:=h u (by simp);have hv:=h v (by simp);refine⟨ca (ca (by decide) hu.q) hv.q,λj hj=>?_⟩
   match j,hj with
   |0,_=>exact ca hu.p hv.q
   |1,_=>exact ca hv.p hu.q
 .match fs,hf,h with
  |[u,v,t],_,h=>
   have hu:=h u (by simp);have hv:=h v (by simp);have ht:=h t (by simp);refine⟨ca (ca (ca (by decide) hu.q) hv.q) ht.q,λj hj=>?_⟩
   match j,hj with
   |0,_=>exact ca hu.p (ca hv.q ht.q)
   |1,_=>exact ca hv.p (ca hu.q ht.q)
   |2,_=>exact ca ht.p (ca hu.q hv.q)
theorem Ez{n:Nat}(hn:n=2\/n=3){fs:List (Int×Int)}(hf:fs.length=n)(h:∀u∈fs,Sp u){xss:AB}(w:Rw n xss):dU (xss.map (eB fs))≠0:=λz=>by
 have af:∀xs∈xss,iQ n (Ie fs) (λ_=>0) (Le fs) (xs++[1]) (eB fs xs):=λxs hx=>(Pb hn [] hf h (w.l xs hx) (w.b xs hx)).2.2;have gu:∀us∈xss.map (eB fs),Gu n 100 us:=λus hu=>by
  obtain⟨xs,hx,rfl⟩:=dz.mp hu;exact(Pb hn [] hf h (w.l xs hx) (w.b xs hx)).2.1
 have p2:=sI gu;obtain⟨pe,pa⟩:=P5 hn hf h;have nz:=w.nz;have wl:=w.len;clear w;rcases hn with rfl |rfl
 .match xss,wl,af,nz,p2,z with
  |[a,b,c],_,af,nz,p2,z=>
   have e:=Mr (af a (by simp)) (af b (by simp)) (af c (by simp));have z:dU [eB fs a,eB fs b,eB fs c]=0:=z;rw[z,ke]at e;exact iz (iz (gm (ca (ca (pa 0 (by decide)) (pa 1 (by decide))) pe)) nz) (gm p2) e.symm
 .match xss,wl,af,nz,p2,z with
  |[a,b,c,d],_,af,nz,p2,z=>
   have e:=Xr (af a (by simp)) (af b (by simp)) (af c (by simp)) (af d (by simp));have z:dU [eB fs a,eB fs b,eB fs c,eB fs d]=0:=z;rw[z,ke]at e;exact iz (iz (gm (ca (ca (ca (pa 0 (by decide)) (pa 1 (by decide))) (pa 2 (by decide))) pe)) nz) (gm p2) e.symm
abbrev lB:MS:=(aL (bA 5 (aU mZ [] (aB (aA 0) (aB (mR cY (aB (aA 2) aD)) aD))))
 (dH (dQ (aA 3) (aB (aU nX [] (aB (bQ ["_law_corner"] [(5,"_law_far_here"),(2,"_law_stretch_here")] (bV (aA 4)) (gN 0) (aU mM [] (aB (aU oC [] (aB (aA 0) (aB (aA 2) aD))) (aB (aA 1) (aB (mC (.int 1)) aD))))) aD)) aD))))
theorem abh{n:Nat}(hn:n=2\/n=3)(ns:AA){fs:List (Int×Int)}(hf:fs.length=n)(h:∀u∈fs,Sp u)(gs:AC)(hg:gs.length<=99){xss:AB}(w:Rw n xss)(x1 x5:AJ):∃(uss:AB)(ns':AA)(y5:AJ),lB [some (.ref 0),x1,some (.pv (.lst (fs.map fv))),some (.ref 1),some (.pv (cF xss)),x5] [.lst (li ns),.lst (gs.map px)]=.nx [some (.ref 0),x1,some (.pv (.lst (fs.map fv))),some (.ref 1),some (.pv (cF xss)),y5] [.lst (li ns'),.lst ((gs++[uss]).map px)]/\Sx n 201 uss:=by
 have hr:fG [.lst (li ns),.lst (gs.map px)] 0 ns:=rfl;obtain⟨v,n1,e1,G⟩:=acK n hn hr;simp only[ee]at e1;have e1:mZ [.ref 0,.pv (.int (n:Int))] [.lst (li ns),.lst (gs.map px)]=.ok (.pv v) [.lst (li n1),.lst (gs.map px)]:=e1;obtain⟨ys,y,rfl,P⟩:=G;have Gf:Gu n 100 (ys++[y]):=⟨ys,y,rfl,P⟩;generalize ys++[y]=f at *;have sp:=λS xs (hx:xs∈xss)=>Pb hn S hf h (w.l xs hx) (w.b xs hx);have gu:∀us∈xss.map (eB fs),Gu n 100 us:=λus hu=>by
  obtain⟨xs,hx,rfl⟩:=dz.mp hu;exact(sp [] xs hx).2.1
 have hl:(xss.map (eB fs)).length=n+1:=by rw[am];exact w.len
 have nz:=Ez hn hf h w;have nz2:=abV hn (way:=1) (.inl rfl) hl gu Gf nz;have gu2:=Hc (way:=1) (.inl rfl) gu Gf;have l2:((xss.map (eB fs)).map (fT 1 f)).length=n+1:=by rw[am];exact hl
 have S1:=abN hn (k:=100+100+1) (by decide) l2 gu2 nz2;refine⟨_,n1,some (.pv (tv f)),?_,S1⟩;have el:(gs++[iD ((xss.map (eB fs)).map (fT 1 f))]).map px=gs.map px++[px (iD ((xss.map (eB fs)).map (fT 1 f)))]:=by simp
 rw[el];have lz:(gs.map px).length<16777216:=by rw[am];omega
 have ln:((fs.map fv).length:Int)=(n:Int):=by rw[am,hf]
 have ec:cM [] (gN 0) (aU mM [] (aB (aU oC [] (aB (aA 0) (aB (aA 2) aD))) (aB (aA 1) (aB (mC (.int 1)) aD)))) (xss.map lv) [none,some (.pv (tv f)),some (.pv (.lst (fs.map fv)))] [.lst (li n1),.lst (gs.map px)]=.ok (xss.map λxs=>tv (fT 1 f (eB fs xs))) [.lst (li n1),.lst (gs.map px)]:=by
  refine uG (lP _) lv (λxs=>tv (fT 1 f (eB fs xs))) xss none λxs hx=>?_;have a1:=(sp [.lst (li n1),.lst (gs.map px)] xs hx).1;have a2:=N9 (way:=1) [.lst (li n1),.lst (gs.map px)] hn (.inl rfl) (sp [] xs hx).2.1 Gf (by decide) (by decide);generalize gs.map px=GL,fs.map fv=FL,tv f=T4,lv xs=T3,tv (eB fs xs)=T2,tv (fT 1 f (eB fs xs))=T1 at *;simp! [aE,bB,bD,aN,aS,aR,aP,aQ,aH,aO,a1,a2]
 have es:=Zt (uss:=(xss.map (eB fs)).map (fT 1 f)) (A:=.lst (((xss.map (eB fs)).map (fT 1 f)).map tv)) hn [.lst (li n1),.lst (gs.map px)] l2 (λus hu=>(gu2 us hu).mono (by decide)) (.inl rfl);have em:((xss.map (eB fs)).map (fT 1 f)).map tv=xss.map λxs=>tv (fT 1 f (eB fs xs)):=by rw[dy,dy];rfl
 rw[em]at es;have hv:cF xss=.lst (xss.map lv):=rfl;have hp:∀L:AB,px L=.tup (L.map tv):=λ_=>rfl;rw[hv,hp];clear S1 nz2 gu2 l2 nz hl gu sp;generalize (n:Int)=N,gs.map px=GL,fs.map fv=FL,xss.map lv=XL,(xss.map λxs=>tv (fT 1 f (eB fs xs)))=TL,(iD ((xss.map (eB fs)).map (fT 1 f))).map tv=PX at *;have e1:mZ [.ref 0,.pv (.int N)] [.lst (li ns),.lst GL]=.ok (.pv (tv f)) [.lst (li n1),.lst GL]:=e1;generalize tv f=TF at *;unfold lB;simp! [aE,bB,bD,aN,aS,aR,aP,aQ,aH,aO,ln,e1,dQ,fB,iO,bQ,cT,bV,cO,ec,es,lz]
theorem Wq{n:Nat}(hn:n=2\/n=3){fs:List (Int×Int)}(hf:fs.length=n)(h:∀u∈fs,Sp u)(x1:AJ):∀(hs:AC)(gs:AC)(ns:AA)(x4 x5:AJ),(∀xss∈hs,Rw n xss)->(∀uss∈gs,Sx n 201 uss)->gs.length+hs.length<=99->∃(gs':AC)(ns':AA)(y4 y5:AJ),
  dA [] (gN 4) lB (hs.map cF) [some (.ref 0),x1,some (.pv (.lst (fs.map fv))),some (.ref 1),x4,x5] [.lst (li ns),.lst (gs.map px)]=.nx [some (.ref 0),x1,some (.pv (.lst (fs.map fv))),some (.ref 1),y4,y5] [.lst (li ns'),.lst (gs'.map px)]/\gs'.length=gs.length+hs.length/\∀uss∈gs',Sx n 201 uss
 |[],gs,ns,x4,x5,_,hg,_=>⟨gs,ns,x4,x5,hV,rfl,hg⟩
 |xss::hs,gs,ns,x4,x5,hw,hg,h9=>by
  have h9:gs.length+(hs.length+1)<=99:=h9;obtain⟨uss,n1,y5,e1,r1⟩:=abh hn ns hf h gs (by omega) (hw xss ay) x1 x5;obtain⟨gs',n2,z4,z5,e2,l2,r2⟩:=Wq hn hf h x1 hs (gs++[uss]) n1 (some (.pv (cF xss))) y5 (λy hy=>hw y (bn _ hy)) (λy hy=>by
   rcases cj.mp hy with z |z
   .exact hg y z
   .have:y=uss:=by simpa using z
    rw[this];exact r1) (by rw[bi,jv];omega)
  refine⟨gs',n2,z4,z5,?_,by rw[l2,bi,jv];show _=gs.length+(hs.length+1);omega,r2⟩;rw[aw,fO];simp only[gN,jh,ee];rw[e1];exact e2
theorem L3{n:Nat}(hn:n=2\/n=3)(ns:AA){fs:List (Int×Int)}(hf:fs.length=n)(h:∀u∈fs,Sp u){hs:AC}(hw:∀xss∈hs,Rw n xss)(h9:hs.length<=90):∃(gs:AC)(ns':AA),vG [.ref 0,.pv (.lst (hs.map cF)),.pv (.lst (fs.map fv))] [.lst (li ns)]=.ok (.ref 1) [.lst (li ns'),.lst (gs.map px)]/\gs.length=hs.length/\∀uss∈gs,Sx n 201 uss:=by
 obtain⟨gs,n2,y4,y5,e2,l2,r2⟩:=Wq hn hf h (some (.pv (.lst (hs.map cF)))) hs [] ns none none hw (λ_ h=>absurd h iw) (by show 0+hs.length<=99;omega);refine⟨gs,n2,?_,by rw[l2];show 0+hs.length=_;omega,r2⟩;simp only[cv]at e2;have hb:Lb=(aL (bA 3 (fE aD)) (aL (cG (bV (aA 1)) (gN 4) lB) (bF (aA 3)))):=rfl;unfold vG aV;rw[hb];generalize fs.map fv=FL,hs.map cF=HL,gs.map px=GL,lB=LB at *;simp! [aE,bB,bD,aN,aS,aR,aP,aQ,aH,aO,fE,lA,cG,bV,cO,e2]
def bd(p:List Nat):List Nat:=if p.head?=some 45 then p.tail else p
abbrev Fe:Type:=AB×Int
def dF:AA->Int
 |[]=>0
 |n::r=>if n=0 then dF r else sg n
def bG(ns:AA):AA:=(low ns).map (dF ns*·)
theorem Qi(S:aG):∀(ns:AA)(x:AJ),eK [] (gN 0) (bJ (aC gC (aA 0) (mC (.int 0)))) (aA 0) (ns.map .int) [x] S=.ok ((ns.filter (λx=>!decide (x=0))).map .int) S
 |[],x=>uD
 |n::ns,x=>by
  have ih:=Qi S ns (some (.pv (.int n)));show eK [] _ _ _ (.int n::ns.map .int) _ S=_;rw[tY]
  by_cases h:n=0
  .subst h
   simp! [gN,aE,bB,bD,aN,aS,aR,aP,aQ,aH,aO,ih]
  .have hb:(!n==0)=true:=by simpa using h
   simp! [gN,aE,bB,bD,aN,aS,aR,aP,aQ,aH,aO,hb,ih,h]
theorem Vh:∀{ns:AA},(∃n∈ns,n≠0)->∃m L,ns.filter (λx=>!decide (x=0))=m::L/\sg m=dF ns
 |[],h=>by
  obtain⟨n,h,_⟩:=h;cases h
 |n::ns,h=>by
  by_cases e:n=0
  .subst e
   obtain⟨m,L,e1,e2⟩:=Vh (ns:=ns) (by
    obtain⟨k,hk,nk⟩:=h;rcases ci.mp hk with rfl |hk
    .exact absurd rfl nk
    .exact⟨k,hk,nk⟩)
   exact⟨m,L,by simpa using e1,by rw[e2];simp[dF]⟩
  .exact⟨n,ns.filter (λx=>!decide (x=0)),by simp[e],by simp[dF,e]⟩
theorem abx{ns:AA}(h:∃n∈ns,n≠0):gl ns 0≠0:=λe=>by
 obtain⟨n,hn,z⟩:=h;obtain⟨m,hm⟩:=(jO ns 0).2 n hn;rw[e]at hm;exact z (by rw[hm,ke])
theorem R7(ns:AA)(S:aG)(hb:∀n∈ns,Bd 8000 n)(nz:∃n∈ns,n≠0):rA [.pv (.lst (ns.map .int))] S=.ok (.pv (tv (bG ns))) S:=by
 obtain⟨m,L,e1,e2⟩:=Vh nz;have ef:=Qi S ns none;rw[e1]at ef;have er:=Hv ns S hb (abx nz);have ec:=Tj S m (low ns) none;rw[e2]at ec;have i0:aE (.lst ((m::L).map .int)) (.int 0)=some (.int m):=vM (j:=0) rfl;unfold rA aV yL bG;generalize (m::L).map PV.int=ML at *;simp! [bY,aS,aR,aP,aQ,aH,aO,jY,bV,cO,cT,ef,i0,er,bQ,ec]
theorem Dy{ns:AA}:bG (ns.map (- ·))=bG ns:=by
 unfold bG;have hf:∀l:AA,dF (l.map (- ·))=-dF l:=λl=>by
  induction l with
  |nil=>rfl
  |cons n l ih=>
   rw[aw];unfold dF
   by_cases h:n=0
   .subst h
    simpa using ih
   .rw[if_neg h,if_neg (by omega),aaN]
 rw[Jy,hf,dy];refine di λn _=>?_;simp[c9]
def lJ:AA->AA->AA
 |[x0,y0,w0],[x1,y1,w1]=>[x1*w0-x0*w1,y1*w0-y0*w1]
 |[x0,y0,z0,w0],[x1,y1,z1,w1]=>[x1*w0-x0*w1,y1*w0-y0*w1,z1*w0-z0*w1]
 |_,_=>[]
theorem qL{x0 y0 w0 x1 y1 w1:Int}:lJ [x0,y0,w0] [x1,y1,w1]=[x1*w0-x0*w1,y1*w0-y0*w1]:=rfl
theorem qK{x0 y0 z0 w0 x1 y1 z1 w1:Int}:lJ [x0,y0,z0,w0] [x1,y1,z1,w1]=[x1*w0-x0*w1,y1*w0-y0*w1,z1*w0-z0*w1]:=rfl
def Pe:AA->AA->AA
 |[a,b,c],[d,e,f]=>[b*f-c*e,c*d-a*f,a*e-b*d]
 |_,_=>[]
theorem qP{a b c d e f:Int}:Pe [a,b,c] [d,e,f]=[b*f-c*e,c*d-a*f,a*e-b*d]:=rfl
def cZ:AB->AA
 |[p,q]=>(match lJ p q with
  |[a,b]=>[-b,a]
  |_=>[])
 |[p,q,r]=>Pe (lJ p q) (lJ p r)
 |_=>[]
theorem qN{p q:AA}:cZ [p,q]=(match lJ p q with |[a,b]=>[-b,a] |_=>[]):=rfl
theorem qQ{p q r:AA}:cZ [p,q,r]=Pe (lJ p q) (lJ p r):=rfl
def sd(pi s e:AA)(n:Int):List Fe:=[([pi,bG (lJ s e),s],n),([pi,bG (lJ s e),e],-n)]
def sdU:AB->List (AA×AA)
 |[p,q]=>[(p,q)]
 |[a,b,c]=>[(c,a),(a,b),(b,c)]
 |_=>[]
def cW(w:AB)(n:Int):List Fe:=(sdU w).flatMap λx=>sd (bG (cZ w)) x.1 x.2 n
def eC:AB->AC
 |[a,b,c]=>[[a,b],[b,c],[c,a]]
 |[a,b,c,d]=>[[b,c,d],[a,d,c],[a,b,d],[a,c,b]]
 |_=>[]
theorem C0{uss:AB}(h:uss.length=3\/uss.length=4)(S:aG):oE [.pv (px uss)] S=.ok (.pv (.lst ((eC uss).map λw=>.tup (w.map tv)))) S:=by
 unfold oE aV Ib;rcases h with h |h
 .match uss,h with
  |[a,b,c],_=>
   generalize hA:tv a=TA;generalize hB:tv b=TB;generalize hC:tv c=TC;simp! [aE,bB,bD,aN,aS,aR,aP,aQ,aH,aO,eC,hA,hB,hC,bQ,cT,bV,cO,fI,fA,gN]
 .match uss,h with
  |[a,b,c,d],_=>
   generalize hA:tv a=TA;generalize hB:tv b=TB;generalize hC:tv c=TC;generalize hD:tv d=TD;simp! [aE,bB,bD,aN,aS,aR,aP,aQ,aH,aO,eC,hA,hB,hC,hD,bQ,cT,bV,cO,fI,fA,gN]
theorem aaJ{x0 y0 z0 w0 x1 y1 z1 w1 x2 y2 z2 w2 x3 y3 z3 w3:Int}(p0:0<w0)(d:D3 x0 y0 z0 w0 x1 y1 z1 w1 x2 y2 z2 w2 x3 y3 z3 w3≠0):∃n∈cZ [[x0,y0,z0,w0],[x1,y1,z1,w1],[x2,y2,z2,w2]],n≠0:=by
 apply u8;intro h;have hz:∀n∈cZ [[x0,y0,z0,w0],[x1,y1,z1,w1],[x2,y2,z2,w2]],n=0:=λn hn=>u8 λc=>h ⟨n,hn,c⟩;have h1:(y1*w0-y0*w1)*(z2*w0-z0*w2)-(z1*w0-z0*w1)*(y2*w0-y0*w2)=0:=hz _ (by simp[qN,qQ,qP,qL,qK]);have h2:(z1*w0-z0*w1)*(x2*w0-x0*w2)-(x1*w0-x0*w1)*(z2*w0-z0*w2)=0:=hz _ (by simp[qN,qQ,qP,qL,qK]);have h3:(x1*w0-x0*w1)*(y2*w0-y0*w2)-(y1*w0-y0*w1)*(x2*w0-x0*w2)=0:=hz _ (by simp[qN,qQ,qP,qL,qK]);have e:w0*w0*D3 x0 y0 z0 w0 x1 y1 z1 w1 x2 y2 z2 w2 x3 y3 z3 w3=((y1*w0-y0*w1)*(z2*w0-z0*w2)-(z1*w0-z0*w1)*(y2*w0-y0*w2))*(x3*w0-x0*w3)+((z1*w0-z0*w1)*(x2*w0-x0*w2)-(x1*w0-x0*w1)*(z2*w0-z0*w2))*(y3*w0-y0*w3)+((x1*w0-x0*w1)*(y2*w0-y0*w2)-(y1*w0-y0*w1)*(x2*w0-x0*w2))*(z3*w0-z0*w3):=by
  unfold D3;grind
 rw[h1,h2,h3,ke,ke,ke]at e;rcases ql.mp e with g |g
 .rcases ql.mp g with g |g<;>omega
 .exact d g
theorem Gr{k:Int}(h:k≠0):sg k*sg k=1:=by
 unfold sg;(repeat' split)<;>omega
theorem El{k:Int}(hk:0<k)(l:AA):bG (l.map (k*·))=bG l:=by
 by_cases z:gl l 0=0
 .have e:l.map (k*·)=l:=by
   have h:=Cb z;clear z
   induction l with
   |nil=>rfl
   |cons n l ih=>rw[aw,ih λm hm=>h m (bn _ hm),h n (ay ..),nv]
  rw[e]
 .have hf:∀l:AA,dF (l.map (k*·))=dF l:=λl=>by
   induction l with
   |nil=>rfl
   |cons n l ih=>
    rw[aw];unfold dF
    by_cases h:n=0
    .subst h
     simpa using ih
    .rw[if_neg h,if_neg (iz (by omega) h),vS hk]
  unfold bG;rw[rG hk l z,hf]
theorem Nj{k:Int}(hk:k≠0)(l:AA):bG (l.map (k*·))=bG l:=by
 by_cases h:0<k
 .exact El h l
 .have e:l.map (k*·)=(l.map ((-k)*·)).map (- ·):=by
   rw[dy];refine di λn _=>?_;show k*n=-(-k*n);rw[jw,Int.neg_neg]
  rw[e,Dy,El (by omega) l]
theorem Yj{u v:AA}{a b:Int}(ha:a≠0)(hb:b≠0)(h:u.map (a*·)=v.map (b*·)):bG u=bG v:=by
 rw[<-Nj ha,h,Nj hb]
theorem uX(ns:AA):∃g:Int,ns=(bG ns).map (g*·):=by
 by_cases z:gl ns 0=0
 .have h:=Cb z
  refine⟨0,?_⟩;have hl:(bG ns).length=ns.length:=by unfold bG;rw[am,Qm]
  generalize bG ns=D at hl;clear z
  induction ns generalizing D with
  |nil=>cases D with
   |nil=>rfl
   |cons a D=>simp at hl
  |cons n ns ih=>
   cases D with
   |nil=>simp at hl
   |cons a D=>
    rw[aw,<-ih (λm hm=>h m (bn _ hm)) D (by simpa using hl),h n (ay ..),ke]
 .obtain⟨g,_,e⟩:=Gn ns
  have hf:dF ns*dF ns=1:=by
   have:∀l:AA,gl l 0≠0->dF l*dF l=1:=λl=>by
    induction l with
    |nil=>intro h;exact absurd rfl h
    |cons n l ih=>
     intro h;unfold dF
     by_cases e:n=0
     .subst e
      rw[if_pos rfl];exact ih (by simpa[gl]using h)
     .rw[if_neg e]
      exact Gr e
   exact this ns z
  refine⟨g*dF ns,?_⟩;unfold bG;rw[dy];refine e.trans ?_;refine di λn _=>?_;show g*n=g*dF ns*(dF ns*n);grind
theorem E5{a b c d e f:Int}(h:bG [a,b,c]=bG [d,e,f]):b*f=c*e/\c*d=a*f/\a*e=b*d:=by
 obtain⟨g,hg⟩:=uX [a,b,c];obtain⟨i,hi⟩:=uX [d,e,f];rw[<-h]at hi
 match hD:bG [a,b,c],hg,hi with
 |[x,y,z],hg,hi=>
  simp at hg hi;obtain⟨h1,h2,h3⟩:=hg;obtain⟨h4,h5,h6⟩:=hi;subst h1 h2 h3 h4 h5 h6;refine⟨?_,?_,?_⟩<;>grind
 |[],hg,hi=>simp at hg
 |[_],hg,hi=>simp at hg
 |[_,_],hg,hi=>simp at hg
 |_::_::_::_::_,hg,hi=>simp at hg
theorem l3{a b c d e f:Int}(h:a=d)(g:b=e)(i:c=f):[a,b,c]=[d,e,f]:=by rw[h,g,i]
theorem wW{p q r:AA}(hp:Pw 3 p)(hq:Pw 3 q)(hr:Pw 3 r):bG (cZ [q,p,r])=bG (cZ [p,q,r]):=by
 obtain⟨x0,y0,z0,w0,rfl,p0⟩:=hp.three;obtain⟨x1,y1,z1,w1,rfl,p1⟩:=hq.three;obtain⟨x2,y2,z2,w2,rfl,p2⟩:=hr.three;refine Yj (a:=w0) (b:=-w1) (by omega) (by omega) ?_;simp only[qN,qQ,qL,qK,qP,aw,cv];refine l3 ?_ ?_ ?_<;>grind
theorem kZ{p q r:AA}(hp:Pw 3 p)(hq:Pw 3 q)(hr:Pw 3 r):bG (cZ [p,r,q])=bG (cZ [p,q,r]):=by
 obtain⟨x0,y0,z0,w0,rfl,p0⟩:=hp.three;obtain⟨x1,y1,z1,w1,rfl,p1⟩:=hq.three;obtain⟨x2,y2,z2,w2,rfl,p2⟩:=hr.three;refine Yj (a:=1) (b:=-1) (by omega) (by omega) ?_;simp only[qN,qQ,qL,qK,qP,aw,cv];refine l3 ?_ ?_ ?_<;>grind
theorem abL{u1 u2 u3 v1 v2 v3 q1 q2 q3:Int}(h1:(u3*q1-u1*q3)*(u1*v2-u2*v1)=(u1*q2-u2*q1)*(u3*v1-u1*v3))(h2:(u1*q2-u2*q1)*(u2*v3-u3*v2)=(u2*q3-u3*q2)*(u1*v2-u2*v1))(h3:(u2*q3-u3*q2)*(u3*v1-u1*v3)=(u3*q1-u1*q3)*(u2*v3-u3*v2)):(u2*v3-u3*v2)*q1+(u3*v1-u1*v3)*q2+(u1*v2-u2*v1)*q3=0:=by
 have e1:u1*((u2*v3-u3*v2)*q1+(u3*v1-u1*v3)*q2+(u1*v2-u2*v1)*q3)=0:=by grind
 have e2:u2*((u2*v3-u3*v2)*q1+(u3*v1-u1*v3)*q2+(u1*v2-u2*v1)*q3)=0:=by grind
 have e3:u3*((u2*v3-u3*v2)*q1+(u3*v1-u1*v3)*q2+(u1*v2-u2*v1)*q3)=0:=by grind
 generalize hd:(u2*v3-u3*v2)*q1+(u3*v1-u1*v3)*q2+(u1*v2-u2*v1)*q3=d at *;rcases ql.mp e1 with g1 |g1
 .rcases ql.mp e2 with g2 |g2
  .rcases ql.mp e3 with g3 |g3
   .rw[<-hd,g1,g2,g3]
    simp
   .exact g3
  .exact g2
 .exact g1
theorem Ui(S:aG):∀(ns:AA)(x:AJ),cM [] (gN 0) (aC eM (mC (.int 0)) (aA 0)) (ns.map .int) [x] S=.ok ((ns.map (- ·)).map .int) S
 |[],x=>fA
 |n::ns,x=>by
  rw[aw,fI];simp! [gN,aE,bB,bD,aN,aS,aR,aP,aQ,aH,aO,Ui S ns]
abbrev nQ:MS:=(aL (cV (bJ (aC eT (aA 2) (mC (.int 0)))) (bF (aA 1)) dZ) (cV (bJ (aC kE (aA 2) (mC (.int 0)))) (bF (mR iI (aB (bQ ["_law_one"] [] (bV (aA 1)) (gN 0) (aC eM (mC (.int 0)) (aA 0))) aD))) dZ))
theorem Vm(S:aG)(TL:AA)(x0:AJ):∀(L:AA)(x2:AJ),(dF L=0/\∃y2,dA [] (gN 2) nQ (L.map .int) [x0,some (.pv (tv TL)),x2] S=.nx [x0,some (.pv (tv TL)),y2] S)\/(dF L≠0/\dA [] (gN 2) nQ (L.map .int) [x0,some (.pv (tv TL)),x2] S=.rt (.pv (tv (TL.map (dF L*·)))) S)
 |[],x2=>.inl ⟨rfl,x2,hV⟩
 |n::L,x2=>by
  rw[aw,fO];have ec:=Ui S TL none;rcases Int.lt_trichotomy n 0 with h |h |h
  .have hf:dF (n::L)=-1:=by
    unfold dF;rw[if_neg (by omega)];unfold sg
    (repeat' split)<;>omega
   rw[hf];refine .inr ⟨by decide,?_⟩;have e:TL.map (-1*·)=TL.map (- ·):=di λx _=>by omega
   rw[e];have h1:¬0<n:=by omega
   unfold nQ;show _=bZ.rt (.pv (.tup ((TL.map (- ·)).map .int))) S;have ht:tv TL=.tup (TL.map .int):=rfl;rw[ht];generalize TL.map PV.int=T1,(TL.map (- ·)).map PV.int=T2 at *;simp! [gN,bY,aS,aR,aP,aQ,aH,aO,h1,h,bQ,cT,bV,cO,ec]
  .subst h
   have hf:dF (0::L)=dF L:=by simp[dF]
   rw[hf];have ih:=Vm S TL x0 L (some (.pv (.int 0)));have e:nQ [x0,some (.pv (tv TL)),some (.pv (.int 0))] S=.nx [x0,some (.pv (tv TL)),some (.pv (.int 0))] S:=by
    unfold nQ;generalize tv TL=T1;simp! [bY,aS,aR,aP,aQ,aH,aO]
   simp only[gN,jh,ee,e];exact ih
  .have hf:dF (n::L)=1:=by
    unfold dF;rw[if_neg (by omega)];unfold sg
    (repeat' split)<;>omega
   rw[hf];refine .inr ⟨by decide,?_⟩;have e:TL.map (1*·)=TL:=by simp
   rw[e];unfold nQ;generalize tv TL=T1;simp! [gN,bY,aS,aR,aP,aQ,aH,aO,h]
theorem Dx(ns:AA)(S:aG)(hb:∀n∈ns,Bd 8000 n):pM [.pv (.lst (ns.map .int))] S=.ok (.pv (tv (bG ns))) S:=by
 have e1:=nY ns S hb;have e1:jU [.pv (.lst (ns.map .int))] S=.ok (.pv (tv (low ns))) S:=e1;have hf:∀{k:Int}(_:0<k)(l:AA),dF (l.map (k*·))=dF l:=λ{k} hk l=>by
  induction l with
  |nil=>rfl
  |cons n l ih=>
   rw[aw];unfold dF
   by_cases h:n=0
   .subst h
    simpa using ih
   .rw[if_neg h,if_neg (iz (by omega) h),vS hk]
 have ef:dF ns=dF (low ns):=by
  obtain⟨g,hg,e⟩:=Gn ns;have:=hf hg (low ns);rw[<-e]at this;exact this
 have hb:zJ=(aL (bA 1 (aU jU [] (aB (aA 0) aD))) (aL (cG (bV (aA 1)) (gN 2) nQ) (bF (aA 1)))):=rfl;unfold pM aV bG;rw[hb,ef];have ht:∀l:AA,tv l=.tup (l.map .int):=λ_=>rfl;have ih:=Vm S (low ns) (some (.pv (.lst (ns.map .int)))) (low ns) none;rw[ht]at e1 ih;rw[ht];generalize nQ=UB at *;rcases ih with⟨z,y2,e2⟩|⟨z,e2⟩
 .rw[z]
  have e:(low ns).map (0*·)=low ns:=by
   have q:∀l:AA,dF l=0->l.map (0*·)=l:=λl=>by
    induction l with
    |nil=>intro _;rfl
    |cons n l ih=>
     intro h;unfold dF at h
     by_cases c:n=0
     .rw[if_pos c]at h
      rw[aw,ih h,c,ke]
     .rw[if_neg c]at h
      have:=Gr c;rw[h]at this;exact absurd this (by decide)
   exact q _ z
  rw[e];generalize ns.map PV.int=T2,(low ns).map PV.int=T1 at *;simp! [bY,aS,aR,aP,aQ,aH,aO,cG,bV,cO,e1,e2]
 .rw[ht]at e2
  generalize ns.map PV.int=T2,(low ns).map PV.int=T1,((low ns).map (dF (low ns)*·)).map PV.int=T3 at *;simp! [bY,aS,aR,aP,aQ,aH,aO,cG,bV,cO,e1,e2]
theorem i0{i:Int}(h:i≠0):(i:Rat)≠0:=λz=>h (u9.mp (z.trans (by rfl:(0:Rat)=((0:Int):Rat))))
theorem m0{a b:Rat}(ha:a≠0)(hb:b≠0):a*b≠0:=λz=>by
 rcases Rat.mul_eq_zero.mp z with z |z
 .exact ha z
 .exact hb z
def rs:List (Int×Int)->Rat
 |[]=>0
 |u::L=>(u.1:Rat)/(u.2:Rat)+rs L
theorem Xq{k:Nat}{u v:Int×Int}(h:Fq k u)(g:Fq k v):((pl u v).1:Rat)/((pl u v).2:Rat)=(u.1:Rat)/u.2+(v.1:Rat)/v.2:=by
 obtain⟨_,f,e⟩:=Md h g;have r:=congrArg (λi:Int=>(i:Rat)) e;simp only[yn,Rat.intCast_add]at r;have n1:=i0 (gm h.pos);have n2:=i0 (gm g.pos);have n3:=i0 (gm f.pos);have n4:=m0 n1 n2;grind
theorem Oo{k:Nat}:∀(L:List (Int×Int)),(∀u∈L,Fq k u)->rs (cJ L)=rs L
 |[],_=>rfl
 |[_],_=>rfl
 |a::b::L,h=>by
  show((pl a b).1:Rat)/((pl a b).2:Rat)+rs (cJ L)=(a.1:Rat)/a.2+((b.1:Rat)/b.2+rs L);rw[Oo L λu hu=>h u (by simp[hu]),Xq (h a (by simp)) (h b (by simp))];grind
theorem Eo:∀(m k:Nat)(L:List (Int×Int)),(∀u∈L,Fq k u)->rs (fN m L)=rs L/\∃l,∀u∈fN m L,Fq l u
 |0,k,L,h=>⟨rfl,k,h⟩
 |m+1,k,L,h=>by
  unfold fN;split
  .exact⟨rfl,k,h⟩
  .obtain⟨a,b⟩:=Eo m (2*k+1) (cJ L) (Gc L h)
   exact⟨a.trans (Oo L h),b⟩
theorem Wl:∀(m:Nat)(L:List (Int×Int)),L.length<=2^m->(fN m L).length<=1
 |0,L,h=>h
 |m+1,L,h=>by
  unfold fN;split
  .assumption
  .refine Wl m (cJ L) ?_
   rw[Ob];have:2^(m+1)=2*2^m:=by rw[rn];omega
   omega
theorem Y7{k:Nat}{L:List (Int×Int)}(hl:L.length<=32)(h:∀u∈L,Fq k u):((oU L).1:Rat)/((oU L).2:Rat)=rs L/\∃l,Fq l (oU L):=by
 obtain⟨e,l,f⟩:=Eo 5 k L h;have z:=Wl 5 L hl;unfold oU;rw[<-e]
 match fN 5 L,z,f with
 |[],_,_=>exact⟨by simp only[rs];grind,1,by decide,by unfold Bd;decide,by unfold Bd;decide,by decide⟩
 |[u],_,f=>exact⟨by simp only[rs];grind,l,f u (by simp)⟩
theorem Jr{k l:Nat}{u v:Int×Int}(h:Fq k u)(g:Fq l v)(e:(u.1:Rat)/u.2=(v.1:Rat)/v.2):u=v:=by
 have n1:=i0 (gm h.pos);have n2:=i0 (gm g.pos);have c:(u.1:Rat)*v.2=v.1*u.2:=by grind
 rw[<-yn,<-yn]at c;have c:=Mk (gm h.pos) (gm g.pos) (u9.mp c);have s:∀{p q:Int},0<q->bj p q=1->fr p q=[p,q]:=λ{p q} hq hg=>by
  unfold fr;rw[if_neg (by omega)];refine V8 ?_;show((bj ((bj 0 p:Nat):Int) q:Nat):Int)=1;rw[pf];show((Nat.gcd ((p.natAbs:Int)).natAbs q.natAbs:Nat):Int)=1;rw[wj];exact congrArg (λx:Nat=>(x:Int)) hg
 rw[s h.pos h.lo,s g.pos g.lo]at c;injection c with c1 c2;injection c2 with c2;exact qw c1 c2
theorem Kc{κ α:Type}{enc:κ->PV}(inj:∀a b,enc a=enc b->a=b)(f:κ->α){k:κ}{ks:List κ}(h:k∈ks):∃i,gO (ks.map λj=>(enc j,f j)) (enc k)=some i/\ks[i]?=some k:=by
 obtain⟨i,hi,e⟩:=sk.mp h;obtain⟨j,hj⟩:=sK (kvs:=ks.map λj=>(enc j,f j)) (k:=enc k) (i:=i) (by simp[hi,e]);refine⟨j,hj,?_⟩;obtain⟨v,hv⟩:=kO hj;rw[av]at hv;cases z:ks[j]? with
 |none=>rw[z]at hv;cases hv
 |some x=>
  rw[z]at hv;have:enc x=enc k:=congrArg Prod.fst (ce hv);rw[inj _ _ this]
theorem Fb{κ α:Type}{enc:κ->PV}(inj:∀a b,enc a=enc b->a=b)(f:κ->α){k:κ}{ks:List κ}(h:k∉ks):gO (ks.map λj=>(enc j,f j)) (enc k)=none:=by
 cases z:gO (ks.map λj=>(enc j,f j)) (enc k)with
 |none=>rfl
 |some i=>
  obtain⟨v,hv⟩:=kO z;rw[av]at hv;cases y:ks[i]? with
  |none=>rw[y]at hv;cases hv
  |some x=>
   rw[y]at hv;have:enc x=enc k:=congrArg Prod.fst (ce hv);exact absurd (inj _ _ this▸cu y) h
theorem Ua{κ α:Type}{enc:κ->PV}(inj:∀a b,enc a=enc b->a=b)(f:κ->α){k:κ}{ks:List κ}(h:k∈ks):gK (ks.map λj=>(enc j,f j)) (enc k)=some (f k):=by
 obtain⟨i,e,g⟩:=Kc inj f h;unfold gK;rw[e];simp[g]
theorem Gz{κ α:Type}{enc:κ->PV}(inj:∀a b,enc a=enc b->a=b)(f:κ->α){k:κ}{ks:List κ}(h:k∉ks):gK (ks.map λj=>(enc j,f j)) (enc k)=none:=by
 unfold gK;rw[Fb inj f h]
theorem Hm{κ α:Type}[DecidableEq κ]{enc:κ->PV}(f:κ->α){k:κ}{ks:List κ}(nd:ks.Nodup){i:Nat}(g:ks[i]?=some k)(v:α):(ks.map λj=>(enc j,f j)).set i (enc k,v)=ks.map λj=>(enc j,if j=k then v else f j):=by
 refine jc λj=>?_;have hi:=(bo.mp g).1;rw[uc,av,av]
 by_cases e:i=j
 .subst e
  rw[if_pos rfl,if_pos (by rw[am];exact hi),g];simp
 .rw[if_neg e]
  cases y:ks[j]? with
  |none=>rfl
  |some x=>
   have:x≠k:=λz=>e (nodup_idx nd g (z▸y));simp[this]
theorem M6{κ α:Type}[DecidableEq κ]{enc:κ->PV}(inj:∀a b,enc a=enc b->a=b)(f:κ->α){k:κ}{ks:List κ}(nd:ks.Nodup)(h:k∈ks)(v:α):kC (ks.map λj=>(enc j,f j)) (enc k) v=ks.map λj=>(enc j,if j=k then v else f j):=by
 obtain⟨i,e,g⟩:=Kc inj f h;unfold kC;rw[e];exact Hm f nd g v
theorem G0{κ α:Type}[DecidableEq κ]{enc:κ->PV}(inj:∀a b,enc a=enc b->a=b)(f:κ->α){k:κ}{ks:List κ}(h:k∉ks)(v:α):kC (ks.map λj=>(enc j,f j)) (enc k) v=(ks++[k]).map λj=>(enc j,if j=k then v else f j):=by
 unfold kC;rw[Fb inj f h,df];have e:ks.map (λj=>(enc j,f j))=ks.map λj=>(enc j,if j=k then v else f j):=di λj hj=>by
  rw[if_neg λz:j=k=>h (z▸hj)]
 rw[<-e];simp
theorem Q3{κ:Type}[DecidableEq κ]{enc:κ->PV}(inj:∀a b,enc a=enc b->a=b)(f:κ->AH){k:κ}{ks:List κ}(nd:ks.Nodup)(h:k∈ks)(v:PV):lC (ks.map λj=>(enc j,f j)) (enc k) v=ks.map λj=>(enc j,if j=k then f j++[v] else f j):=by
 obtain⟨i,e,g⟩:=Kc inj f h;unfold lC;rw[e];have:((ks.map λj=>(enc j,f j))[i]?.map (·.2)).getD []=f k:=by simp[g]
 dsimp only;rw[this,Hm f nd g];refine di λj _=>?_
 by_cases z:j=k
 .rw[if_pos z,if_pos z,z]
 .rw[if_neg z,if_neg z]
theorem A7{κ:Type}[DecidableEq κ]{enc:κ->PV}(inj:∀a b,enc a=enc b->a=b)(f:κ->AH){k:κ}{ks:List κ}(h:k∉ks)(hf:f k=[])(v:PV):lC (ks.map λj=>(enc j,f j)) (enc k) v=(ks++[k]).map λj=>(enc j,if j=k then f j++[v] else f j):=by
 unfold lC;rw[Fb inj f h,df];have e:ks.map (λj=>(enc j,f j))=ks.map λj=>(enc j,if j=k then f j++[v] else f j):=di λj hj=>by
  rw[if_neg λz:j=k=>h (z▸hj)]
 rw[<-e];simp[hf]
def aZ{κ β:Type}[DecidableEq κ](R:List (κ×β))(k:κ):List β:=(R.filter λr=>decide (r.1=k)).map (·.2)
def dC{κ β:Type}[DecidableEq κ](R:List (κ×β)):List κ:=R.foldl (λks r=>if r.1∈ks then ks else ks++[r.1]) []
theorem Vn{κ β:Type}[DecidableEq κ](R:List (κ×β))(k:κ)(u:β)(j:κ):aZ (R++[(k,u)]) j=if j=k then aZ R j++[u] else aZ R j:=by
 unfold aZ;rw[v7,df]
 by_cases h:j=k
 .subst h
  simp
 .have:¬k=j:=λz=>h z.symm
  simp[h,this]
theorem Kn{κ β:Type}[DecidableEq κ](R:List (κ×β))(r:κ×β):dC (R++[r])=if r.1∈dC R then dC R else dC R++[r.1]:=by
 unfold dC;rw[v8];rfl
theorem jN{κ β:Type}[DecidableEq κ](R:List (κ×β)):(dC R).Nodup/\∀k,k∈dC R↔∃r∈R,r.1=k:=by
 have go:∀(R':List (κ×β))(ks:List κ),ks.Nodup->(R'.foldl (λks r=>if r.1∈ks then ks else ks++[r.1]) ks).Nodup/\∀k,k∈R'.foldl (λks r=>if r.1∈ks then ks else ks++[r.1]) ks↔k∈ks\/∃r∈R',r.1=k:=by
  intro R'
  induction R' with
  |nil=>exact λks nd=>⟨nd,λk=>by simp⟩
  |cons r R' ih=>
   intro ks nd;rw[yo]
   by_cases h:r.1∈ks
   .rw[if_pos h]
    obtain⟨a,b⟩:=ih ks nd;refine⟨a,λk=>(b k).trans ?_⟩;constructor
    .rintro(z |⟨x,hx,z⟩)
     .exact .inl z
     .exact .inr ⟨x,bn _ hx,z⟩
    .rintro(z |⟨x,hx,z⟩)
     .exact .inl z
     .rcases ci.mp hx with rfl |hx
      .exact .inl (z▸h)
      .exact .inr ⟨x,hx,z⟩
   .rw[if_neg h]
    obtain⟨a,b⟩:=ih (ks++[r.1]) (by
     rw[mf];refine⟨nd,by simp,λx hx y hy z=>h ?_⟩;have:y=r.1:=by simpa using hy
     rw[<-this,<-z];exact hx)
    refine⟨a,λk=>(b k).trans ?_⟩;rw[cj,yd];constructor
    .rintro((z |z) |⟨x,hx,z⟩)
     .exact .inl z
     .exact .inr ⟨r,ay,z.symm⟩
     .exact .inr ⟨x,bn _ hx,z⟩
    .rintro(z |⟨x,hx,z⟩)
     .exact .inl (.inl z)
     .rcases ci.mp hx with rfl |hx
      .exact .inl (.inr z.symm)
      .exact .inr ⟨x,hx,z⟩
 obtain⟨a,b⟩:=go R [] mn;exact⟨a,λk=>(b k).trans (by simp)⟩
theorem vH{κ β:Type}[DecidableEq κ](R:List (κ×β)):(dC R).length<=R.length:=by
 have go:∀(R':List (κ×β))(ks:List κ),(R'.foldl (λks r=>if r.1∈ks then ks else ks++[r.1]) ks).length<=ks.length+R'.length:=by
  intro R'
  induction R' with
  |nil=>exact λks=>aj _
  |cons r R' ih=>
   intro ks;rw[yo,cg];have:=ih (if r.1∈ks then ks else ks++[r.1]);have h2:(if r.1∈ks then ks else ks++[r.1]).length<=ks.length+1:=by split<;>simp
   omega
 have:=go R [];simpa[dC]using this
theorem Bq{κ β:Type}[DecidableEq κ]{R:List (κ×β)}{k:κ}(h:k∉dC R):aZ R k=[]:=by
 unfold aZ;rw[w8,x6];intro r hr z;exact h (((jN R).2 k).mpr ⟨r,hr,by simpa using z⟩)
def eN{κ:Type}[DecidableEq κ](enc:κ->PV)(R:List (κ×(Int×Int))):List (PV×AH):=(dC R).map λk=>(enc k,(aZ R k).map fv)
def cC(L:List (Int×Int)):Int×Int:=L.foldl pl (0,1)
def bU{κ:Type}[DecidableEq κ](enc:κ->PV)(R:List (κ×(Int×Int))):List (PV×PV):=(dC R).map λk=>(enc k,fv (cC (aZ R k)))
theorem Rz{κ:Type}[DecidableEq κ]{enc:κ->PV}(inj:∀a b,enc a=enc b->a=b)(R:List (κ×(Int×Int)))(k:κ)(u:Int×Int):lC (eN enc R) (enc k) (fv u)=eN enc (R++[(k,u)]):=by
 unfold eN;have e:∀ks:List κ,(ks.map λj=>(enc j,(aZ (R++[(k,u)]) j).map fv))=ks.map λj=>(enc j,if j=k then(aZ R j).map fv++[fv u] else(aZ R j).map fv):=λks=>di λj _=>by
  rw[Vn];split<;>simp
 rw[e,Kn]
 by_cases h:k∈dC R
 .rw[if_pos h]
  exact Q3 inj (λj=>(aZ R j).map fv) (jN R).1 h (fv u)
 .rw[if_neg h]
  exact A7 inj (λj=>(aZ R j).map fv) h (by simp[Bq h]) (fv u)
theorem D9{κ:Type}[DecidableEq κ]{enc:κ->PV}(inj:∀a b,enc a=enc b->a=b)(R:List (κ×(Int×Int)))(k:κ):(gK (bU enc R) (enc k)=some (fv (cC (aZ R k)))/\k∈dC R)\/(gK (bU enc R) (enc k)=none/\fv (cC (aZ R k))=fv (0,1)):=by
 unfold bU
 by_cases h:k∈dC R
 .exact .inl ⟨Ua inj (λk=>fv (cC (aZ R k))) h,h⟩
 .exact .inr ⟨Gz inj _ h,by rw[Bq h];rfl⟩
theorem Pz{κ:Type}[DecidableEq κ]{enc:κ->PV}(inj:∀a b,enc a=enc b->a=b)(R:List (κ×(Int×Int)))(k:κ)(u:Int×Int):kC (bU enc R) (enc k) (fv (pl (cC (aZ R k)) u))=bU enc (R++[(k,u)]):=by
 unfold bU;have e:∀ks:List κ,(ks.map λj=>(enc j,fv (cC (aZ (R++[(k,u)]) j))))=ks.map λj=>(enc j,if j=k then fv (pl (cC (aZ R k)) u)else fv (cC (aZ R j))):=λks=>di λj _=>by
  rw[Vn];split
  .rename_i z
   subst z;simp[cC,v8]
  .rfl
 rw[e,Kn]
 by_cases h:k∈dC R
 .rw[if_pos h]
  exact M6 inj (λj=>fv (cC (aZ R j))) (jN R).1 h _
 .rw[if_neg h]
  exact G0 inj (λj=>fv (cC (aZ R j))) h _
theorem Is{k l:Nat}{u v:Int×Int}(h:Fq k u)(g:Fq l v):fr (u.1*v.2+v.1*u.2) (u.2*v.2)=[(pl u v).1,(pl u v).2]/\Fq (k+l+1) (pl u v)/\(pl u v).1*(u.2*v.2)=(u.1*v.2+v.1*u.2)*(pl u v).2:=by
 have nz:u.2*v.2≠0:=gm (ca h.pos g.pos);obtain⟨p,q,e,hq,c⟩:=wN (t:=u.1*v.2+v.1*u.2) nz;have bt:Bd (k+l+1) (u.1*v.2+v.1*u.2):=((h.b1.mul g.b2).add ((g.b1.mul h.b2).mono (by omega))).mono (by omega);have bb:Bd (k+l+1) (u.2*v.2):=(h.b2.mul g.b2).mono (by omega);obtain⟨b3,b4⟩:=sQ bt bb e;have ep:pl u v=(p,q):=by unfold pl;rw[e];rfl
 rw[ep];exact⟨e,⟨hq,b3,b4,zC nz e⟩,c⟩
theorem abc{k l:Nat}{u v:Int×Int}(h:Fq k u)(g:Fq l v):((pl u v).1:Rat)/((pl u v).2:Rat)=(u.1:Rat)/u.2+(v.1:Rat)/v.2:=Xq (k:=k+l) (h.mono (by omega)) (g.mono (by omega))
theorem N8{k l:Nat}{u v:Int×Int}(S:aG)(h:Fq k u)(g:Fq l v)(hk:k+l+1<=7000):sL [.pv (fv u),.pv (fv v)] S=.ok (.pv (fv (pl u v))) S:=by
 have e:=(Is h g).1;have bt:Bd 8000 (u.1*v.2+v.1*u.2):=((h.b1.mul g.b2).add ((g.b1.mul h.b2).mono (by omega))).mono (by omega);have bb:Bd 8000 (u.2*v.2):=(h.b2.mul g.b2).mono (by omega);have f:=Eb (u.1*v.2+v.1*u.2) (u.2*v.2) S bt bb;rw[e]at f;have m1:=eO h.b1 g.b2 (by omega) (by omega);have m2:=eO g.b1 h.b2 (by omega) (by omega);have m3:=eO h.b2 g.b2 (by omega) (by omega);simp only[aw,cv]at f;show sL [.pv (.tup [.int u.1,.int u.2]),.pv (.tup [.int v.1,.int v.2])] S=.ok (.pv (.tup [.int (pl u v).1,.int (pl u v).2])) S;unfold sL aV Rc;generalize v.2=d,v.1=c,u.2=b,u.1=a,(pl u v).2=p2,(pl u v).1=p1 at *;simp! [aE,bB,bD,aN,aS,aR,aP,aQ,aH,aO,m1,m2,m3,f]
theorem act:Fq 1 ((0,1):Int×Int):=⟨by decide,by unfold Bd;decide,by unfold Bd;decide,by decide⟩
theorem rZ{k:Nat}(L:List (Int×Int))(h:∀u∈L,Fq k u):Fq (1+L.length*(k+1)) (cC L)/\((cC L).1:Rat)/((cC L).2:Rat)=rs L:=by
 have go:∀(L:List (Int×Int))(l:Nat)(w:Int×Int),(∀u∈L,Fq k u)->Fq l w->Fq (l+L.length*(k+1)) (L.foldl pl w)/\((L.foldl pl w).1:Rat)/((L.foldl pl w).2:Rat)=(w.1:Rat)/(w.2:Rat)+rs L:=by
  intro L
  induction L with
  |nil=>
   intro l w _ hw;refine⟨hw.mono (by omega),?_⟩;show(w.1:Rat)/(w.2:Rat)=(w.1:Rat)/(w.2:Rat)+0;rw[Rat.add_zero]
  |cons u L ih=>
   intro l w h hw;have hu:=h u ay;obtain⟨a,b⟩:=ih (l+k+1) (pl w u) (λv hv=>h v (bn _ hv)) (Is hw hu).2.1;rw[yo];refine⟨a.mono ?_,?_⟩
   .rw[cg,Nat.add_mul]
    omega
   .rw[b,abc hw hu]
    show _=(w.1:Rat)/(w.2:Rat)+((u.1:Rat)/(u.2:Rat)+rs L);rw[yp]
 obtain⟨a,b⟩:=go L 1 (0,1) h act;refine⟨a,b.trans ?_⟩;show((0:Int):Rat)/((1:Int):Rat)+rs L=rs L;have:((0:Int):Rat)/((1:Int):Rat)=0:=by grind
 rw[this,Rat.zero_add]
theorem U8{L M:List (Int×Int)}(h:L.Perm M):rs L=rs M:=by
 induction h with
 |nil=>rfl
 |cons x _ ih=>unfold rs;rw[ih]
 |swap x y l=>
  show(y.1:Rat)/(y.2:Rat)+((x.1:Rat)/(x.2:Rat)+rs l)=(x.1:Rat)/(x.2:Rat)+((y.1:Rat)/(y.2:Rat)+rs l);rw[<-yp,<-yp,Rat.add_comm ((y.1:Rat)/(y.2:Rat))]
 |trans _ _ a b=>exact a.trans b
theorem P9{k:Nat}{L:List (Int×Int)}(hl:L.length<=32)(h:∀u∈L,Fq k u):oU L=cC L:=by
 obtain⟨a,b⟩:=rZ L h;obtain⟨c,l,d⟩:=Y7 hl h;exact Jr d a (c.trans b.symm)
theorem My{k:Nat}{L M:List (Int×Int)}(p:L.Perm M)(h:∀u∈M,Fq k u):cC L=cC M:=by
 obtain⟨a,b⟩:=rZ L λu hu=>h u (p.subset hu);obtain⟨c,d⟩:=rZ M h;exact Jr a c (b.trans ((U8 p).trans d.symm))
theorem Tw{k:Nat}{u:Int×Int}(h:Fq k u):u.1=0↔u=(0,1):=by
 constructor
 .intro z
  have l:=h.lo;rw[z,pf]at l;have p:=h.pos;exact qw z (by show u.2=1;omega)
 .intro z
  rw[z]
def iA{κ:Type}[DecidableEq κ](lt:κ->κ->Bool)(R:List (κ×(Int×Int))):List (κ×(Int×Int)):=((fD lt (dC R)).map λk=>(k,cC (aZ R k))).filter λx=>!decide (x.2.1=0)
theorem Mw{κ:Type}[DecidableEq κ]{lt:κ->κ->Bool}(O:qV lt){k:Nat}{R R':List (κ×(Int×Int))}(p:R.Perm R')(h:∀r∈R',Fq k r.2):iA lt R=iA lt R':=by
 unfold iA;have e1:fD lt (dC R)=fD lt (dC R'):=by
  refine Nt O ?_ (jN R').1;rw[List.perm_ext_iff_of_nodup (jN R).1 (jN R').1];intro j;rw[(jN R).2,(jN R').2];exact⟨λ⟨r,hr,z⟩=>⟨r,p.subset hr,z⟩,λ⟨r,hr,z⟩=>⟨r,p.symm.subset hr,z⟩⟩
 rw[e1];congr 1;refine di λj _=>?_;have:cC (aZ R j)=cC (aZ R' j):=My (k:=k) (by unfold aZ;exact(p.filter _).map _) λu hu=>by
  unfold aZ at hu;obtain⟨r,hr,rfl⟩:=dz.mp hu;exact h r (mx.mp hr).1
 rw[this]
def gf(ns:AA):Int:=Classical.choose (uX ns)
theorem sR(ns:AA):ns=(bG ns).map (gf ns*·):=Classical.choose_spec (uX ns)
def hJ(t b:Int):Int×Int:=((fr t b).getD 0 0,(fr t b).getD 1 0)
theorem Yo{k:Nat}{t b:Int}(hb:b≠0)(bt:Bd k t)(bb:Bd k b):fr t b=[(hJ t b).1,(hJ t b).2]/\Fq k (hJ t b):=by
 obtain⟨p,q,e,hq,_⟩:=wN (t:=t) hb;have ep:hJ t b=(p,q):=by unfold hJ;rw[e];rfl
 rw[ep];exact⟨e,hq,(sQ bt bb e).1,(sQ bt bb e).2,zC hb e⟩
theorem Qk(ns:AA):(bG ns).length=ns.length:=by
 unfold bG;rw[am,Qm]
theorem Ha{ns:AA}(nz:∃n∈ns,n≠0):∃d∈bG ns,d≠0:=by
 obtain⟨n,hn,z⟩:=nz;rw[sR ns]at hn;obtain⟨d,hd,rfl⟩:=dz.mp hn;exact⟨d,hd,λe=>z (by rw[e,nv])⟩
theorem Zc{k:Nat}{ns:AA}(hb:∀n∈ns,Bd k n)(nz:∃n∈ns,n≠0):Bd k (gf ns)/\∀d∈bG ns,Bd k d:=by
 have g0:gf ns≠0:=λe=>by
  obtain⟨n,hn,z⟩:=nz;rw[sR ns,e]at hn;obtain⟨d,hd,rfl⟩:=dz.mp hn;exact z (ke d)
 have ml:∀d∈bG ns,Bd k (gf ns*d):=λd hd=>hb _ (by
  have:gf ns*d∈(bG ns).map (gf ns*·):=List.mem_map_of_mem hd
  rwa[<-sR ns]at this)
 have le:∀a b:Int,b≠0->a.natAbs<=(a*b).natAbs:=λa b h=>by
  rw[oz];exact Nat.le_mul_of_pos_right _ (Int.natAbs_pos.mpr h)
 constructor
 .obtain⟨d,hd,z⟩:=Ha nz
  exact nu (le (gf ns) d z) (ml d hd)
 .intro d hd
  have:=ml d hd;rw[dn]at this;exact nu (le d (gf ns) g0) this
abbrev tK:MT:=bJ (aC gC (aC aE (aA 1) (aA 0)) (mC (.int 0)))
abbrev mI:MS:=(cV (bJ (aC gC (aA 3) (mC (.int 0)))) (bF (mN eR (aB (aA 1) (aB (aC fX (aA 2) (aA 3)) aD)))) dZ)
theorem Hj(S:aG)(g:Int)(T:PV)(x0:AJ):∀(ds:AA)(x2 x3:AJ),(∀d∈ds,Bd 8000 d)->(∃d∈ds,d≠0)->dA [] (gT 2 (bO (gN 2) (bO (gN 3) cU))) mI (eI ((ds.map (g*·)).map .int) (ds.map .int)) [x0,some (.pv T),x2,x3] S=.rt (.pv (.tup [T,.int g])) S
 |[],_,_,_,h=>by
  obtain⟨d,hd,_⟩:=h;cases hd
 |d::ds,x2,x3,hb,h=>by
  show dA [] _ mI (.tup [.int (g*d),.int d]::eI ((ds.map (g*·)).map .int) (ds.map .int)) _ S=_;rw[fO]
  by_cases z:d=0
  .subst z
   have ih:=Hj S g T x0 ds (some (.pv (.int (g*0)))) (some (.pv (.int 0))) (λd hd=>hb d (bn _ hd)) (by
    obtain⟨d,hd,n⟩:=h;rcases ci.mp hd with rfl |hd
    .exact absurd rfl n
    .exact⟨d,hd,n⟩)
   have e:mI [x0,some (.pv T),some (.pv (.int (g*0))),some (.pv (.int 0))] S=.nx [x0,some (.pv T),some (.pv (.int (g*0))),some (.pv (.int 0))] S:=by
    unfold mI;generalize g*0=G;simp! [bY,aS,aR,aP,aQ,aH,aO]
   generalize g*0=G,eI ((ds.map (g*·)).map .int) (ds.map .int)=ZL,mI=WB at *;simp[gT,bO,cU,gN,e,ih]
  .have q:(d==0)=false:=by simpa using z
   have f:=kN (i:=g*d) (j:=d) ⟨z,hb d ay⟩;have e:(g*d).fdiv d=g:=Int.mul_fdiv_cancel g z;rw[e]at f;generalize g*d=G at *;unfold mI;simp! [gT,bO,cU,gN,bY,aS,aR,aP,aQ,aH,aO,q,f]
theorem Qw(ns:AA)(S:aG)(hb:∀n∈ns,Bd 8000 n)(nz:∃n∈ns,n≠0):rJ [.pv (.lst (ns.map .int))] S=.ok (.pv (.tup [tv (bG ns),.int (gf ns)])) S:=by
 have e1:=Dx ns S hb;have e2:=Hj S (gf ns) (tv (bG ns)) (some (.pv (.lst (ns.map .int)))) (bG ns) none none (Zc hb nz).2 (Ha nz);rw[<-sR ns]at e2;have hb:zN=(aL (bA 1 (aU pM [] (aB (aA 0) aD))) (aL (cG (gA (aB (aA 0) (aB (aA 1) aD))) (gT 2 (bO (gN 2) (bO (gN 3) cU))) mI) (bF (mN eR (aB (aA 1) (aB (mC (.int 0)) aD)))))):=rfl;have e1:pM [.pv (.lst (ns.map .int))] S=.ok (.pv (.tup ((bG ns).map .int))) S:=e1;have e2:dA [] (gT 2 (bO (gN 2) (bO (gN 3) cU))) mI (eI (ns.map .int) ((bG ns).map .int)) [some (.pv (.lst (ns.map .int))),some (.pv (.tup ((bG ns).map .int))),none,none] S=.rt (.pv (.tup [.tup ((bG ns).map .int),.int (gf ns)])) S:=e2;show rJ [.pv (.lst (ns.map .int))] S=.ok (.pv (.tup [.tup ((bG ns).map .int),.int (gf ns)])) S;unfold rJ aV;rw[hb];generalize mI=WB,gf ns=G,ns.map PV.int=NL,(bG ns).map PV.int=DL at *;simp! [bY,aS,aR,aP,aQ,aH,aO,e1,cG,gA,kA,cO,e2]
abbrev cN(x:AA×(Int×Int)):PV:=.tup [tv x.1,fv x.2]
theorem sH:∀a b:AA,tv a=tv b->a=b:=λa b h=>uR (PV.tup.inj h)
theorem pT(k:AA):lD false (tv k):=⟨k,rfl⟩
theorem Lm:∀k:AA,iV (k.map .int)=some k
 |[]=>rfl
 |i::k=>by
  rw[aw];unfold iV;rw[Lm k]
theorem Yl:∀ks:AB,iG (ks.map tv)=some ks
 |[]=>rfl
 |k::ks=>by
  show iG (.tup (k.map .int)::ks.map tv)=_;unfold iG;rw[Yl ks,Lm k]
theorem Mj{ks:AB}(hl:ks.length<64)(nd:ks.Nodup)(ne:[]∉ks):kX (ks.map tv)=some (.lst ((fD HT.lexLt ks).map tv)):=by
 unfold kX;rw[Yl];dsimp only;rw[if_pos ⟨hl,nd,ne⟩];rfl
theorem Zn(x0 x4:AJ):∀(L R:List (AA×(Int×Int)))(x2 x3:AJ),(R++L).length<16777216->∃y2 y3,dA [] (gT 2 (bO (gN 2) (bO (gN 3) cU))) (dH (oS 1 2 3)) (L.map cN) [x0,some (.ref 0),x2,x3,x4] [.dol false (eN tv R)]=.nx [x0,some (.ref 0),y2,y3,x4] [.dol false (eN tv (R++L))]
 |[],R,x2,x3,_=>⟨x2,x3,by rw[la];exact hV⟩
 |r::L,R,x2,x3,hl=>by
  obtain⟨y2,y3,ih⟩:=Zn x0 x4 L (R++[r]) (some (.pv (tv r.1))) (some (.pv (fv r.2))) (by simpa using hl);refine⟨y2,y3,?_⟩;rw[mj]at ih;have ih:dA [] (gT 2 (bO (gN 2) (bO (gN 3) cU))) (dH (oS 1 2 3)) (L.map cN) [x0,some (.ref 0),some (.pv (tv r.1)),some (.pv (fv r.2)),x4] [.dol false (eN tv (R++[r]))]=.nx [x0,some (.ref 0),y2,y3,x4] [.dol false (eN tv (R++r::L))]:=ih;have ea:=Rz sH R r.1 r.2;have hc:lD false (tv r.1)/\(eN tv R).length<16777216/\∀kv∈eN tv R,kv.2.length<16777216:=by
   have:=vH R;have l2:R.length<16777216:=by rw[bi]at hl;omega
   refine⟨pT _,by unfold eN;rw[am];omega,λkv hkv=>?_⟩;unfold eN at hkv;obtain⟨j,_,rfl⟩:=dz.mp hkv;show((aZ R j).map fv).length<16777216;have:(aZ R j).length<=R.length:=by
    unfold aZ;rw[am];exact x8 _ _
   rw[am];omega
  have es:xU (tv r.1) (fv r.2) [.dol false (eN tv R)]=.ok (.pv .non) [.dol false (eN tv (R++[r]))]:=by
   unfold xU;dsimp only;rw[if_pos hc,ea]
  rw[aw,fO];rw[show cN r=PV.tup [tv r.1,fv r.2] from rfl];clear hc ea hl;generalize eN tv R=D0,eN tv (R++[r])=D1,eN tv (R++r::L)=D2,L.map cN=LL,fv r.2=T2,tv r.1=T1 at *;simp[gT,bO,cU,gN,dH,bZ.of,oS,es,ih]
theorem B7{m k:Nat}{R:List (AA×(Int×Int))}(hm:∀j,(aZ R j).length<=2^m)(m5:m<=5)(hk:2^m*(k+1)<=7000)(h:∀r∈R,Fq k r.2):∀(ks:AB)(x:AJ),(∀j∈ks,j∈dC R)->
  cM [] (gN 0) (mN eR (aB (aA 0) (aB (rV rO (aA 1) (aA 0)) aD))) (ks.map tv) [x,some (.ref 0)] [.dol false (eN tv R)]=.ok (ks.map λj=>cN (j,cC (aZ R j))) [.dol false (eN tv R)]:=by
 intro ks x hks;refine uG (lP _) tv (λj=>cN (j,cC (aZ R j))) ks x λj hj=>?_;have fq:∀u∈aZ R j,Fq k u:=λu hu=>by
  unfold aZ at hu;obtain⟨r,hr,rfl⟩:=dz.mp hu;exact h r (mx.mp hr).1
 have p5:2^m<=32:=by
  have:=vz (show 0<2 by decide) m5;omega
 have et:=Oz [] (L:=aZ R j) (by have:=hm j;omega) (hm j) m5 hk fq;rw[P9 (by have:=hm j;omega) fq]at et;have eg:sF (.ref 0) (.pv (tv j)) [.dol false (eN tv R)]=some ((aZ R j).map fv):=by
  unfold sF;dsimp only;have:gK (eN tv R) (tv j)=some ((aZ R j).map fv):=Ua sH (λk=>(aZ R k).map fv) (hks j hj);simp[pT,this]
 have en:lF (fv (cC (aZ R j)))=true:=rfl;show _=bK.ok (AV.pv (.tup [tv j,fv (cC (aZ R j))])) _;generalize tv j=T1,fv (cC (aZ R j))=C1,(aZ R j).map fv=LL,eN tv R=D0 at *;simp! [aE,bB,bD,aN,aS,aR,aP,aQ,aH,aO,rV,eg,et,en]
theorem Bi{k:Nat}(S:aG):∀(L:List (AA×(Int×Int)))(x:AJ),(∀r∈L,Fq k r.2)->eK [] (gN 0) (bJ (aC gC (aC aE (aA 0) (mC (.int 1))) (mN eR (aB (mC (.int 0)) (aB (mC (.int 1)) aD))))) (aA 0) (L.map cN) [x] S=.ok ((L.filter λx=>!decide (x.2.1=0)).map cN) S
 |[],x,_=>uD
 |r::L,x,h=>by
  have ih:=Bi S L (some (.pv (cN r))) λr hr=>h r (bn _ hr);have f:=h r ay;have i1:aE (cN r) (.int 1)=some (fv r.2):=rfl;have eq:aN 8 (fv r.2) (.tup [.int 0,.int 1])=some (decide (r.2.1=0)):=by
   by_cases z:r.2.1=0
   .have:r.2=(0,1):=(Tw f).mp z
    rw[this];rfl
   .show aN 8 (.tup [.int r.2.1,.int r.2.2]) (.tup [.int 0,.int 1])=_
    have z':(r.2.1==0)=false:=by simpa using z
    simp[aN,jZ,z',z]
  rw[aw,tY,yq];have er:(r::L.filter λx=>!decide (x.2.1=0)).map cN=cN r::(L.filter λx=>!decide (x.2.1=0)).map cN:=rfl;generalize hT:cN r=T at *;generalize L.map cN=LL,fv r.2=T2 at*
  by_cases z:r.2.1=0
  .rw[decide_eq_true z]at eq⊢
   simp! [gN,bY,aS,aR,aP,aQ,aH,aO,i1,eq,ih]
  .rw[decide_eq_false z]at eq⊢
   simp! [gN,bY,aS,aR,aP,aQ,aH,aO,i1,eq,ih,hT]
theorem aaX{k:Nat}{R:List (AA×(Int×Int))}(h:∀r∈R,Fq k r.2)(j:AA):Fq (1+R.length*(k+1)) (cC (aZ R j)):=by
 refine(rZ (k:=k) (aZ R j) λu hu=>?_).1.mono ?_
 .unfold aZ at hu
  obtain⟨r,hr,rfl⟩:=dz.mp hu;exact h r (mx.mp hr).1
 .have:(aZ R j).length<=R.length:=by
   unfold aZ;rw[am];exact x8 _ _
  have:=yk (k+1) this;omega
theorem Zi{α:Type}{lt:α->α->Bool}{l:List α}:∀x,x∈fD lt l->x∈l:=λ_ h=>(pG l).subset h
theorem Zx{m k:Nat}{R:List (AA×(Int×Int))}(hl:R.length<16777216)(h64:(dC R).length<64)(ne:[]∉dC R)(hm:∀j,(aZ R j).length<=2^m)(m5:m<=5)(hk:2^m*(k+1)<=7000)(h:∀r∈R,Fq k r.2):
  uU [.pv (.lst (R.map cN))] []=.ok (.pv (.tup ((iA HT.lexLt R).map cN))) []:=by
 obtain⟨y2,y3,e1⟩:=Zn (some (.pv (.lst (R.map cN)))) none R [] none none (by simpa using hl);have e2:kX ((eN tv R).map (·.1))=some (.lst ((fD HT.lexLt (dC R)).map tv)):=by
  have:(eN tv R).map (·.1)=(dC R).map tv:=by
   unfold eN;rw[dy];rfl
  rw[this];exact Mj h64 (jN R).1 ne
 have e3:=B7 hm m5 hk h (fD HT.lexLt (dC R)) none Zi;have e4:=Bi (k:=1+R.length*(k+1)) [.dol false (eN tv R)] ((fD HT.lexLt (dC R)).map λj=>(j,cC (aZ R j))) none λr hr=>by
  obtain⟨j,_,rfl⟩:=dz.mp hr;exact aaX h j
 have e5:((fD HT.lexLt (dC R)).map λj=>(j,cC (aZ R j))).map cN=(fD HT.lexLt (dC R)).map λj=>cN (j,cC (aZ R j)):=dy ..;have e6:iA HT.lexLt R=((fD HT.lexLt (dC R)).map λk=>(k,cC (aZ R k))).filter λx=>!decide (x.2.1=0):=rfl;rw[<-e6]at e4;rw[<-e5]at e3;have p0:eN tv ([]:List (AA×(Int×Int)))=[]:=rfl;rw[p0,kd]at e1;unfold uU Da;clear e5 e6;generalize R.map cN=RL,eN tv R=D0,(fD HT.lexLt (dC R)).map tv=KL,((fD HT.lexLt (dC R)).map λj=>(j,cC (aZ R j))).map cN=ML,(iA HT.lexLt R).map cN=TL at *;refine wV (v:=.pv (.tup TL)) (S':=[.dol false D0]) rfl ?_ rfl;apply sq;simp! [bY,aS,aR,aP,aQ,aH,aO,wD];exact⟨rfl,rfl⟩;apply sq;simp! [bY,aS,aR,aP,aQ,aH,aO,cG,bV,cO,e1];exact⟨rfl,rfl⟩;apply sq;simp! [bY,aS,aR,aP,aQ,aH,aO,bQ,cT,bV,wF,wY,e2,cO,e3];exact⟨rfl,rfl⟩;simp! [bY,aS,aR,aP,aQ,aH,aO,jY,cT,bV,cO,e4]
theorem Ji{k:Nat}(A:SO){R:List (AA×(Int×Int))}(h:∀r∈R,Fq k r.2):∀(ks:AB)(x:AJ),(∀j∈ks,j∈dC R)->
  eK [] (gN 0) (bJ (aC gC (aC aE (nI (aA 1) (aA 0)) (mC (.int 0))) (mC (.int 0)))) (mN eR (aB (aA 0) (aB (nI (aA 1) (aA 0)) aD))) (ks.map tv) [x,some (.ref 1)] [A,.dic false (bU tv R)]=.ok (((ks.map λj=>(j,cC (aZ R j))).filter λx=>!decide (x.2.1=0)).map cN) [A,.dic false (bU tv R)]
 |[],x,_=>uD
 |j::ks,x,hks=>by
  have ih:=Ji A h ks (some (.pv (tv j))) λi hi=>hks i (bn _ hi);have eg:lU (.ref 1) (.pv (tv j)) [A,.dic false (bU tv R)] none=.ok (.pv (fv (cC (aZ R j)))) [A,.dic false (bU tv R)]:=by
   have:gK (bU tv R) (tv j)=some (fv (cC (aZ R j))):=Ua sH (λk=>fv (cC (aZ R k))) (hks j ay);unfold lU;simp[pT,this]
  have i0:aE (fv (cC (aZ R j))) (.int 0)=some (.int (cC (aZ R j)).1):=rfl;have er:cN (j,cC (aZ R j))=PV.tup [tv j,fv (cC (aZ R j))]:=rfl;rw[aw,tY,aw,yq];generalize bU tv R=D0,ks.map tv=KL at *;have ed:∀b,(if b=true then((j,cC (aZ R j))::(ks.map λj=>(j,cC (aZ R j))).filter λx=>!decide (x.2.1=0))else(ks.map λj=>(j,cC (aZ R j))).filter λx=>!decide (x.2.1=0)).map cN=if b=true then PV.tup [tv j,fv (cC (aZ R j))]::((ks.map λj=>(j,cC (aZ R j))).filter λx=>!decide (x.2.1=0)).map cN else((ks.map λj=>(j,cC (aZ R j))).filter λx=>!decide (x.2.1=0)).map cN:=λb=>by
   cases b<;>rfl
  rw[ed];generalize tv j=T1,fv (cC (aZ R j))=F1,((ks.map λj=>(j,cC (aZ R j))).filter λx=>!decide (x.2.1=0)).map cN=FL at *;show _=bK.ok (if(!decide ((cC (aZ R j)).1=0))=true then _ else _) _;generalize (cC (aZ R j)).1=c at*
  by_cases z:c=0
  .subst z
   simp! [gN,bY,aS,aR,aP,aQ,aH,aO,nI,eg,i0,ih]
  .have z':(c==0)=false:=by simpa using z
   simp! [gN,bY,aS,aR,aP,aQ,aH,aO,nI,eg,i0,ih,z',z]
theorem S8{k:Nat}(A:SO){R:List (AA×(Int×Int))}(h64:(dC R).length<64)(ne:[]∉dC R)(h:∀r∈R,Fq k r.2):tT [.ref 1] [A,.dic false (bU tv R)]=.ok (.pv (.tup ((iA HT.lexLt R).map cN))) [A,.dic false (bU tv R)]:=by
 have e2:kX ((bU tv R).map (·.1))=some (.lst ((fD HT.lexLt (dC R)).map tv)):=by
  have:(bU tv R).map (·.1)=(dC R).map tv:=by
   unfold bU;rw[dy];rfl
  rw[this];exact Mj h64 (jN R).1 ne
 have e3:=Ji A h (fD HT.lexLt (dC R)) none Zi;have e6:iA HT.lexLt R=((fD HT.lexLt (dC R)).map λk=>(k,cC (aZ R k))).filter λx=>!decide (x.2.1=0):=rfl;rw[<-e6]at e3;unfold tT aV yK;generalize bU tv R=D0,(fD HT.lexLt (dC R)).map tv=KL,(iA HT.lexLt R).map cN=TL at *;simp! [bY,aS,aR,aP,aQ,aH,aO,jY,cT,bV,sJ,wX,vQ,e2,cO,e3]
theorem Z6{k l:Nat}(A:SO){R:List (AA×(Int×Int))}(hl:R.length<90000)(h:∀r∈R,Fq k r.2){j:AA}{u:Int×Int}(hm:(aZ R j).length<=l)(hu:Fq k u)(hk:1+l*(k+1)+k+1<=7000):pF [.ref 1,.pv (tv j),.pv (fv u)] [A,.dic false (bU tv R)]=.ok (.pv .non) [A,.dic false (bU tv (R++[(j,u)]))]:=by
 have fc:Fq (1+l*(k+1)) (cC (aZ R j)):=(rZ (k:=k) (aZ R j) λu hu=>by
  unfold aZ at hu;obtain⟨r,hr,rfl⟩:=dz.mp hu;exact h r (mx.mp hr).1).1.mono (by
   have:=yk (k+1) hm;omega)
 have es:=N8 [A,.dic false (bU tv R)] fc hu hk;have ea:=Pz sH R j u;have eg:lU (.ref 1) (.pv (tv j)) [A,.dic false (bU tv R)] (some (.pv (fv (0,1))))=.ok (.pv (fv (cC (aZ R j)))) [A,.dic false (bU tv R)]:=by
  unfold lU;rcases D9 sH R j with⟨e,_⟩|⟨e,f⟩
  .simp[pT,e]
  .rw[f]
   simp[pT,e]
 have ep:sS (.ref 1) (.pv (tv j)) (.pv (fv (pl (cC (aZ R j)) u))) [A,.dic false (bU tv R)]=.ok (.pv .non) [A,.dic false (bU tv (R++[(j,u)]))]:=by
  have hc:lD false (tv j)/\(bU tv R).length<16777216:=⟨pT j,by
   unfold bU;have:=vH R;rw[am];omega⟩
  unfold sS;simp only[yl,ym];rw[if_pos hc,ea];rfl
 have eg:lU (.ref 1) (.pv (tv j)) [A,.dic false (bU tv R)] (some (.pv (.tup [.int 0,.int 1])))=.ok (.pv (fv (cC (aZ R j)))) [A,.dic false (bU tv R)]:=eg;unfold pF aV zA;clear ea fc hu h;generalize tv j=T1,bU tv R=D0,bU tv (R++[(j,u)])=D1,fv u=F0,fv (cC (aZ R j))=F1,fv (pl (cC (aZ R j)) u)=F2 at *;simp! [bY,aS,aR,aP,aQ,aH,aO,wZ,xB,xC,eg,es,ep]
theorem Nk:∀L:AH,eI L L=L.map λv=>PV.tup [v,v]
 |[]=>rfl
 |v::L=>by
  show PV.tup [v,v]::eI L L=_;rw[Nk L];rfl
theorem yZ{r:FM}(S:aG)(L:AH)(h:∀v∈L,r [.pv v,.pv v] S=.ok (.pv (.bl true)) S):aV 2 2 (jV r) [.pv (.tup L),.pv (.tup L)] S=.ok (.pv (.bl true)) S:=by
 have e1:cM [] (gT 2 (bO (gN 0) (bO (gN 1) cU))) (aU r [] (aB (aA 0) (aB (aA 1) aD))) (L.map λv=>PV.tup [v,v]) [none,none] S=.ok (L.map λ_=>.bl true) S:=by
  refine zZ (λv=>v) (λv=>v) (λ_=>.bl true) L none none λv hv=>?_;simp! [aE,bB,bD,aN,aS,aR,aP,aQ,aH,aO,h v hv]
 have e2:=Nk L;have e3:=Yw L;unfold aV jV;generalize (L.map λv=>PV.tup [v,v])=ZL,(aU r [] (aB (aA 0) (aB (aA 1) aD)))=ME1,(L.map λ_=>PV.bl true)=BL at *;simp! [bY,aS,aR,aP,aQ,aH,aO,oM,bQ,cT,gA,kA,cO,e2,e1,e3]
theorem Ex(S:aG)(i:Int):tZ [.pv (.int i),.pv (.int i)] S=.ok (.pv (.bl true)) S:=by
 have e:=F5 i S;unfold tZ aV jV;simp! [bY,aS,aR,aP,aQ,aH,aO,oM,e]
theorem Gg(S:aG)(L:List (AA×(Int×Int))):oA [.pv (.tup (L.map cN)),.pv (.tup (L.map cN))] S=.ok (.pv (.bl true)) S:=by
 have e2:∀k:AA,zH [.pv (tv k),.pv (tv k)] S=.ok (.pv (.bl true)) S:=λk=>yZ S (k.map .int) λv hv=>by
  obtain⟨i,_,rfl⟩:=dz.mp hv;exact Ex S i
 have e3:∀x:AA×(Int×Int),yY [.pv (cN x),.pv (cN x)] S=.ok (.pv (.bl true)) S:=λx=>yZ S [tv x.1,fv x.2] λv hv=>by
  simp only[ci,iw,or_false]at hv;rcases hv with rfl |rfl
  .exact e2 x.1
  .exact e2 [x.2.1,x.2.2]
 exact yZ S (L.map cN) λv hv=>by
  obtain⟨x,_,rfl⟩:=dz.mp hv;exact e3 x
theorem vF{κ β:Type}[DecidableEq κ](A B:List (κ×β))(j:κ):aZ (A++B) j=aZ A j++aZ B j:=by
 unfold aZ;rw[v7,df]
theorem Mm{κ β:Type}[DecidableEq κ]:∀(R:List (κ×β))(j:κ),(R.map (·.1)).Nodup->(aZ R j).length<=1
 |[],_,_=>cy _
 |r::R,j,h=>by
  rw[aw,jn]at h;have ih:=Mm R j h.2;have e:aZ (r::R) j=if r.1=j then r.2::aZ R j else aZ R j:=by
   unfold aZ;rw[yq]
   by_cases z:r.1=j
   .simp[z]
   .simp[z]
  rw[e]
  by_cases z:r.1=j
  .rw[if_pos z]
   have:aZ R j=[]:=by
    unfold aZ;rw[w8,x6];intro x hx q;have q:x.1=j:=by simpa using q
    exact h.1 (dz.mpr ⟨x,hx,q.trans z.symm⟩)
   rw[this];exact aj _
  .rw[if_neg z]
   exact ih
theorem Fa{α κ β:Type}[DecidableEq κ](f:α->List (κ×β)):∀(gs:List α)(j:κ),(∀u∈gs,((f u).map (·.1)).Nodup)->(aZ (gs.flatMap f) j).length<=gs.length
 |[],_,_=>aj _
 |u::gs,j,h=>by
  rw[uk,vF,bi,cg];have a:=Mm (f u) j (h u ay);have b:=Fa f gs j λv hv=>h v (bn _ hv);omega
theorem Ag(S:aG)(x0:AJ):∀(gs:AC)(X:AH)(x2:AJ),(∀u∈gs,u.length=3\/u.length=4)->X.length+4*gs.length<=1000->∃y2,dA [] (gN 2) (nC 1 (aU oE [] (aB (aA 2) aD))) (gs.map px) [x0,some (.ref S.length),x2] (S++[.lst X])=.nx [x0,some (.ref S.length),y2] (S++[.lst (X++(gs.flatMap eC).map λw=>.tup (w.map tv))])
 |[],X,x2,_,_=>⟨x2,by simpa using hV⟩
 |u::gs,X,x2,h,hl=>by
  have lw:(eC u).length<=4:=by
   unfold eC;split<;>simp
  have e:=C0 (h u ay) (S++[.lst X]);obtain⟨y2,ih⟩:=Ag S x0 gs (X++(eC u).map λw=>.tup (w.map tv)) (some (.pv (px u))) (λv hv=>h v (bn _ hv)) (by
   rw[bi,am];rw[cg]at hl;omega)
  refine⟨y2,?_⟩;rw[mj,<-df,<-uk]at ih;have lz:X.length+((eC u).map λw=>PV.tup (w.map tv)).length<=16777216:=by
   rw[am];omega
  rw[aw,fO];generalize gs.map px=GL,px u=P1,(eC u).map (λw=>PV.tup (w.map tv))=W1,(((u::gs).flatMap eC).map λw=>PV.tup (w.map tv))=W2 at *;have st:nC 1 (aU oE [] (aB (aA 2) aD)) [x0,some (.ref S.length),some (.pv P1)] (S++[.lst X])=.nx [x0,some (.ref S.length),some (.pv P1)] (S++[.lst (X++W1)]):=by
   simp! [aE,bB,bD,aN,aS,aR,aP,aQ,aH,aO,nC,Zd,e,lz]
  simp[gN,st,ih]
theorem Uy{α:Type}(xs:List α)(h:xs.length<=6):gS xs none none (-1)=xs.reverse:=by
 have e:∀n:Nat,n<=6->sliceRange (sliceBounds none none (some (-1)) n).1 (sliceBounds none none (some (-1)) n).2.1 (sliceBounds none none (some (-1)) n).2.2=(az n).reverse:=by decide+kernel
 unfold gS;rw[e _ h,List.filterMap_reverse];congr 1;have:∀l:List α,(az l.length).filterMap (l[·]?)=l:=λl=>by
  refine jc λi=>?_
  induction l generalizing i with
  |nil=>rfl
  |cons a l ih=>
   rw[cg,yi,ij];simp only[ym,ni];cases i with
   |zero=>rfl
   |succ i=>
    simp only[yl];exact ih i
 exact this xs
theorem Mt(S:aG){gs:AC}{A:PV}(hA:Sv A (gs.map px))(h:∀u∈gs,u.length=3\/u.length=4)(hl:gs.length<=200):tX [.pv A] S=.ok (.ref S.length) (S++[.lst ((gs.flatMap eC).map λw=>.tup (w.map tv))]):=by
 obtain⟨y2,e⟩:=Ag S (some (.pv A)) gs [] none h (by simp;omega);rw[kd]at e;generalize ((gs.flatMap eC).map λw=>PV.tup (w.map tv))=W at *;have e2:(cG (bV (aA 0)) (gN 2) (nC 1 (aU oE [] (aB (aA 2) aD)))) [some (.pv A),some (.ref S.length),none] (S++[.lst []])=.nx [some (.pv A),some (.ref S.length),y2] (S++[.lst W]):=by
  rcases hA with rfl |rfl<;>simp! [bY,aS,aR,aP,aQ,aH,aO,cG,bV,cO,e]
 unfold tX yR;refine wV (v:=.ref S.length) (S':=S++[.lst W]) rfl ?_ ?_
 .apply sq;simp! [bY,aS,aR,aP,aQ,aH,aO,fE,lA];exact⟨rfl,rfl⟩
  apply sq;exact e2;simp! [bY,aS,aR,aP,aQ,aH,aO]
 .simp[kY]
theorem Kk:∀L:List (AA×(Int×Int)),lX (L.map cN)=true
 |[]=>rfl
 |x::L=>by
  have h:∀k:AA,lX (k.map .int)=true:=λk=>by
   induction k with
   |nil=>rfl
   |cons i k ih=>
    show(true&&lX (k.map .int))=true;rw[ih];rfl
  show((lX (x.1.map .int)&&true)&&lX (L.map cN))=true;rw[Kk L,h];rfl
theorem aa8(S:aG){a b c:Int}(nz:∃d∈[a,b,c],d≠0):∃(p d:Int)(L:AH),eK [] (gN 0) tK (aA 0) (cX 0 3) [none,some (.pv (tv [a,b,c]))] S=.ok (.int p::L) S/\aE (tv [a,b,c]) (.int p)=some (.int d)/\d≠0/\d∈[a,b,c]/\∀g:Int,aE (.lst ([a,b,c].map (g*·) |>.map .int)) (.int p)=some (.int (g*d)):=by
 have i1:cX 0 3=[.int 0,.int 1,.int 2]:=rfl;have f0:aE (tv [a,b,c]) (.int 0)=some (.int a):=rfl;have f1:aE (tv [a,b,c]) (.int 1)=some (.int b):=rfl;have f2:aE (tv [a,b,c]) (.int 2)=some (.int c):=rfl;rw[i1];have key:∀(qa qb qc:Bool),(a==0)=qa->(b==0)=qb->(c==0)=qc->eK [] (gN 0) tK (aA 0) [.int 0,.int 1,.int 2] [none,some (.pv (tv [a,b,c]))] S=.ok ((if qa then[] else[.int 0])++((if qb then[] else[.int 1])++(if qc then[] else[.int 2]))) S:=λqa qb qc ha hb hc=>by
  generalize tv [a,b,c]=T at *;cases qa<;>cases qb<;>cases qc<;>simp! [tY,uD,tK,gN,bY,aS,aR,aP,aQ,aH,aO,f0,f1,f2,ha,hb,hc]
 by_cases ha:a=0
 .have qa:(a==0)=true:=by simpa using ha
  by_cases hb:b=0
  .have qb:(b==0)=true:=by simpa using hb
   have hc:c≠0:=λe=>by
    obtain⟨d,hd,z⟩:=nz;simp[ha,hb,e]at hd;exact z hd
   have qc:(c==0)=false:=by simpa using hc
   exact⟨2,c,[],key _ _ _ qa qb qc,f2,hc,by simp,λg=>rfl⟩
  .have qb:(b==0)=false:=by simpa using hb
   exact⟨1,b,_,key _ _ _ qa qb rfl,f1,hb,by simp,λg=>rfl⟩
 .have qa:(a==0)=false:=by simpa using ha
  exact⟨0,a,_,key _ _ _ qa rfl rfl,f0,ha,by simp,λg=>rfl⟩
theorem Z5{k:Nat}(hk:k<=1700){x y z b:Int}(S:aG)(hx:Bd k x)(hy:Bd k y)(hz:Bd k z)(nz:∃n∈[x,y,z],n≠0)(hb:Bd k b)(b0:0<b):vC [.pv (.lst [.int x,.int y,.int z]),.pv (.int b)] S=.ok (.pv (.tup [tv (bG [x,y,z]),fv (hJ (gf [x,y,z]) b)])) S:=by
 have bd:∀n∈[x,y,z],Bd k n:=λn hn=>by
  simp only[ci,iw,or_false]at hn;rcases hn with rfl |rfl |rfl
  .exact hx
  .exact hy
  .exact hz
 obtain⟨gb,db⟩:=Zc bd nz;have e1:=R7 [x,y,z] S (λn hn=>(bd n hn).mono (by omega)) nz;obtain⟨a,c,e0,ed⟩:∃a c e0,bG [x,y,z]=[a,c,e0]:=by
  have:=Qk [x,y,z]
  match e:bG [x,y,z],this with
  |[a,c,e0],_=>exact⟨a,c,e0,rfl⟩
 have gi:=sR [x,y,z];have nz2:=Ha nz;rw[ed]at e1 gi db nz2⊢;obtain⟨p,d,L,e2,f1,d0,dm,f2⟩:=aa8 S nz2;have f2:=f2 (gf [x,y,z]);rw[<-gi]at f2;have m1:=eO (db d dm) hb (by omega) (by omega);have bb:Bd (2*k) (d*b):=((db d dm).mul hb).mono (by omega);have nb:d*b≠0:=iz d0 (by omega);have e3:=Rf (gf [x,y,z]*d) (d*b) S ((gb.mul (db d dm)).mono (by omega)) (bb.mono (by omega)) nb;have e4:fr (gf [x,y,z]*d) (d*b)=fr (gf [x,y,z]) b:=Mk nb (by omega) (by grind);rw[e4,(Yo (by omega) gb hb).1]at e3;have rg:=qY S (n:=3) (by decide);have l2:(((tv [a,c,e0]:PV)):PV)=.tup [.int a,.int c,.int e0]:=rfl;have i0:aE (.lst (.int p::L)) (.int 0)=some (.int p):=vM (j:=0) rfl;have eL:cY [tv [a,c,e0]]=some (.int 3):=rfl;have hB:Nb=(aL (bA 2 (aU rA [] (aB (aA 0) aD))) (aL (bA 3 (aC aE (jY ["k"] [(2,"way")] (dL (aB (mR cY (aB (aA 2) aD)) aD)) (gN 0) tK (aA 0)) (mC (.int 0)))) (bF (mN eR (aB (aA 2) (aB (oQ nV [] (aB (aC aE (aA 0) (aA 3)) (aB (aC aW (aC aE (aA 2) (aA 3)) (aA 1)) aD))) aD)))))):=rfl;unfold vC aV;rw[hB];show _=bK.ok (AV.pv (.tup [tv [a,c,e0],.tup [.int (hJ (gf [x,y,z]) b).1,.int (hJ (gf [x,y,z]) b).2]])) S;simp only[aw,cv]at f2 e3 e1;generalize gf [x,y,z]=G,(hJ (gf [x,y,z]) b).2=P2,(hJ (gf [x,y,z]) b).1=P1 at *;clear l2 ed gi db nz2;generalize cX 0 3=IP,tv [a,c,e0]=T at *;have c2:((3:Nat):Int)=3:=rfl;rw[c2]at rg;generalize tK=C1 at *;simp! [-cY,bY,aS,aR,aP,aQ,aH,aO,e1,jY,dL,cT,eL,rg,e2,i0,f1,f2,m1,e3]
theorem pY{p q r s:AA}(hp:Pw 3 p)(hq:Pw 3 q)(hr:Pw 3 r)(hs:Pw 3 s)(nz:dU [p,q,r,s]≠0):bG (cZ [p,q,s])≠bG (cZ [p,q,r]):=by
 obtain⟨x0,y0,z0,w0,rfl,p0⟩:=hp.three;obtain⟨x1,y1,z1,w1,rfl,p1⟩:=hq.three;obtain⟨x2,y2,z2,w2,rfl,p2⟩:=hr.three;obtain⟨x3,y3,z3,w3,rfl,p3⟩:=hs.three;have nz:D3 x0 y0 z0 w0 x1 y1 z1 w1 x2 y2 z2 w2 x3 y3 z3 w3≠0:=nz;have e:w0*w0*D3 x0 y0 z0 w0 x1 y1 z1 w1 x2 y2 z2 w2 x3 y3 z3 w3=((y1*w0-y0*w1)*(z2*w0-z0*w2)-(z1*w0-z0*w1)*(y2*w0-y0*w2))*(x3*w0-x0*w3)+((z1*w0-z0*w1)*(x2*w0-x0*w2)-(x1*w0-x0*w1)*(z2*w0-z0*w2))*(y3*w0-y0*w3)+((x1*w0-x0*w1)*(y2*w0-y0*w2)-(y1*w0-y0*w1)*(x2*w0-x0*w2))*(z3*w0-z0*w3):=by
  unfold D3;grind
 have nz2:w0*w0*D3 x0 y0 z0 w0 x1 y1 z1 w1 x2 y2 z2 w2 x3 y3 z3 w3≠0:=iz (iz (by omega) (by omega)) nz;rw[e]at nz2;clear e nz;simp only[qL,qK,qN,qQ,qP];generalize z3*w0-z0*w3=q3,y3*w0-y0*w3=q2,x3*w0-x0*w3=q1,z2*w0-z0*w2=v3,y2*w0-y0*w2=v2,x2*w0-x0*w2=v1,z1*w0-z0*w1=u3,y1*w0-y0*w1=u2,x1*w0-x0*w1=u1 at *;intro h;obtain⟨h1,h2,h3⟩:=E5 h;exact nz2 (abL h1 h2 h3)
theorem gX{p q r s:AA}(hp:Pw 3 p)(hq:Pw 3 q)(hr:Pw 3 r)(hs:Pw 3 s):dU [q,p,r,s]=-dU [p,q,r,s]/\dU [p,r,q,s]=-dU [p,q,r,s]/\dU [p,q,s,r]=-dU [p,q,r,s]:=by
 obtain⟨x0,y0,z0,w0,rfl,p0⟩:=hp.three;obtain⟨x1,y1,z1,w1,rfl,p1⟩:=hq.three;obtain⟨x2,y2,z2,w2,rfl,p2⟩:=hr.three;obtain⟨x3,y3,z3,w3,rfl,p3⟩:=hs.three;refine⟨?_,?_,?_⟩<;>simp only[Ps]<;>unfold D3<;>grind
theorem Ly{a b c d:AA}(ha:Pw 3 a)(hb:Pw 3 b)(hc:Pw 3 c)(hd:Pw 3 d)(nz:dU [a,b,c,d]≠0):[bG (cZ [b,c,d]),bG (cZ [a,d,c]),bG (cZ [a,b,d]),bG (cZ [a,c,b])].Nodup:=by
 have z:∀{x y:Int},y≠0->x=-y->x≠0:=λh e z=>h (by omega);have d1:dU [a,b,d,c]≠0:=z nz (gX ha hb hc hd).2.2;have d2:dU [a,c,b,d]≠0:=z nz (gX ha hb hc hd).2.1;have d3:dU [a,d,b,c]≠0:=z d1 (gX ha hb hd hc).2.1;have e1:dU [b,a,c,d]≠0:=z nz (gX ha hb hc hd).1;have e2:dU [b,c,a,d]≠0:=z e1 (gX hb ha hc hd).2.1;have f1:dU [b,a,d,c]≠0:=z d1 (gX ha hb hd hc).1;have f2:dU [b,d,a,c]≠0:=z f1 (gX hb ha hd hc).2.1;have g1:dU [c,a,b,d]≠0:=z d2 (gX ha hc hb hd).1;have g2:dU [c,a,d,b]≠0:=z g1 (gX hc ha hb hd).2.2;have g3:dU [c,d,a,b]≠0:=z g2 (gX hc ha hd hb).2.1;have s1:bG (cZ [c,d,b])=bG (cZ [b,c,d]):=(kZ hc hb hd).trans (wW hb hc hd);have s2:bG (cZ [c,d,a])=bG (cZ [a,d,c]):=(kZ hc ha hd).trans ((wW ha hc hd).trans (kZ ha hd hc));have s3:bG (cZ [b,d,a])=bG (cZ [a,b,d]):=(kZ hb ha hd).trans (wW ha hb hd);have s4:bG (cZ [b,c,a])=bG (cZ [a,c,b]):=(kZ hb ha hc).trans ((wW ha hb hc).trans (kZ ha hc hb));have n1:bG (cZ [b,c,d])≠bG (cZ [a,d,c]):=by
  rw[<-s1,<-s2];exact pY hc hd ha hb g3
 have n2:bG (cZ [b,c,d])≠bG (cZ [a,b,d]):=by
  rw[<-s3,<-kZ hb hc hd];exact pY hb hd ha hc f2
 have n3:bG (cZ [b,c,d])≠bG (cZ [a,c,b]):=by
  rw[<-s4];exact pY hb hc ha hd e2
 have n4:bG (cZ [a,d,c])≠bG (cZ [a,b,d]):=by
  rw[<-kZ ha hb hd];exact pY ha hd hb hc d3
 have n5:bG (cZ [a,d,c])≠bG (cZ [a,c,b]):=by
  rw[<-kZ ha hd hc];exact pY ha hc hb hd d2
 have n6:bG (cZ [a,b,d])≠bG (cZ [a,c,b]):=by
  rw[kZ ha hb hc];exact pY ha hb hc hd nz
 simp only[jn,ci,iw,or_false,not_or,mn,not_false_eq_true,and_true];exact⟨⟨n1,n2,n3⟩,⟨n4,n5⟩,n6⟩
def lw(p:AA):Int:=p.getLastD 0
def dW(w:AB):AA×(Int×Int):=(bG (cZ w),hJ (gf (cZ w)) (2*lw (w.getD 0 [])*lw (w.getD 0 [])*lw (w.getD 1 [])*lw (w.getD 2 [])))
structure Wd(k:Nat)(w:AB):Prop where
 pr:∀S,nT [.pv (.tup (w.map tv))] S=.ok (.pv (cN (dW w))) S
 sh:∀S,nS [.pv (.tup (w.map tv))] S=.ok (.pv (cN (dW w))) S
 fq:Fq (4*k+3) (dW w).2
 ln:(dW w).1≠[]
theorem wH{k:Nat}(hk:k<=400){p q r:AA}(gp:Gu 3 k p)(gq:Gu 3 k q)(gr:Gu 3 k r)(nz:∃n∈cZ [p,q,r],n≠0):Wd k [p,q,r]:=by
 obtain⟨x0,y0,z0,w0,rfl,W0,bx0,by0,bz0,bw0⟩:=gp.three';obtain⟨x1,y1,z1,w1,rfl,W1,bx1,by1,bz1,bw1⟩:=gq.three';obtain⟨x2,y2,z2,w2,rfl,W2,bx2,by2,bz2,bw2⟩:=gr.three';obtain⟨_,_,_,_,e,P⟩:=gp.three (by omega);cases e;obtain⟨_,_,_,_,e,Q⟩:=gq.three (by omega);cases e;obtain⟨_,_,_,_,e,R⟩:=gr.three (by omega);cases e;have sb':∀{u v s t:Int},Bd k u->Bd k v->Bd k s->Bd k t->Bd (2*k+1) (u*v-s*t):=λh1 h2 h3 h4=>((h1.mul h2).mono (show k+k<=2*k by omega)).sub ((h3.mul h4).mono (show k+k<=2*k by omega));have a1:=sb' bx1 bw0 bx0 bw1;have a2:=sb' by1 bw0 by0 bw1;have a3:=sb' bz1 bw0 bz0 bw1;have b1:=sb' bx2 bw0 bx0 bw2;have b2:=sb' by2 bw0 by0 bw2;have b3:=sb' bz2 bw0 bz0 bw2;have cb':∀{u v s t:Int},Bd (2*k+1) u->Bd (2*k+1) v->Bd (2*k+1) s->Bd (2*k+1) t->Bd (4*k+3) (u*v-s*t):=λh1 h2 h3 h4=>(((h1.mul h2).mono (show 2*k+1+(2*k+1)<=4*k+2 by omega)).sub ((h3.mul h4).mono (show 2*k+1+(2*k+1)<=4*k+2 by omega)));have ea:cZ [[x0,y0,z0,w0],[x1,y1,z1,w1],[x2,y2,z2,w2]]=[(y1*w0-y0*w1)*(z2*w0-z0*w2)-(z1*w0-z0*w1)*(y2*w0-y0*w2),(z1*w0-z0*w1)*(x2*w0-x0*w2)-(x1*w0-x0*w1)*(z2*w0-z0*w2),(x1*w0-x0*w1)*(y2*w0-y0*w2)-(y1*w0-y0*w1)*(x2*w0-x0*w2)]:=rfl;have es:dW [[x0,y0,z0,w0],[x1,y1,z1,w1],[x2,y2,z2,w2]]=(bG (cZ [[x0,y0,z0,w0],[x1,y1,z1,w1],[x2,y2,z2,w2]]),hJ (gf (cZ [[x0,y0,z0,w0],[x1,y1,z1,w1],[x2,y2,z2,w2]])) (2*w0*w0*w1*w2)):=rfl;rw[ea]at nz es;have c1:=cb' a2 b3 a3 b2;have c2:=cb' a3 b1 a1 b3;have c3:=cb' a1 b2 a2 b1;have e1:=λS=>Xp S P Q;have e2:=λS=>Xp S P R;have g1:=λS=>sW S P Q;have g2:=λS=>sW S P R;have n3:=λS=>O2 S (a1.mono (show 2*k+1<=10000 by omega)) (a2.mono (show 2*k+1<=10000 by omega)) (a3.mono (show 2*k+1<=10000 by omega)) (b1.mono (show 2*k+1<=10000 by omega)) (b2.mono (show 2*k+1<=10000 by omega)) (b3.mono (show 2*k+1<=10000 by omega));have x3:=λS=>Na (A:=.lst [.int (x1*w0-x0*w1),.int (y1*w0-y0*w1),.int (z1*w0-z0*w1)]) (B:=.lst [.int (x2*w0-x0*w2),.int (y2*w0-y0*w2),.int (z2*w0-z0*w2)]) S rfl rfl (a1.mono (show 2*k+1<=10000 by omega)) (a2.mono (show 2*k+1<=10000 by omega)) (a3.mono (show 2*k+1<=10000 by omega)) (b1.mono (show 2*k+1<=10000 by omega)) (b2.mono (show 2*k+1<=10000 by omega)) (b3.mono (show 2*k+1<=10000 by omega));clear sb' cb' a1 a2 a3 b1 b2 b3 ea;generalize (x1*w0-x0*w1)*(y2*w0-y0*w2)-(y1*w0-y0*w1)*(x2*w0-x0*w2)=N3,(z1*w0-z0*w1)*(x2*w0-x0*w2)-(x1*w0-x0*w1)*(z2*w0-z0*w2)=N2,(y1*w0-y0*w1)*(z2*w0-z0*w2)-(z1*w0-z0*w1)*(y2*w0-y0*w2)=N1 at *;have t2:Bd 2 (2:Int):=by unfold Bd;decide
 have bb:Bd (4*k+3) (2*w0*w0*w1*w2):=((((t2.mul bw0).mul bw0).mul bw1).mul bw2).mono (by omega);have ww:0<2*w0*w0*w1*w2:=ca (ca (ca (ca (by decide) W0) W0) W1) W2;have bd:∀n∈[N1,N2,N3],Bd (4*k+3) n:=λn hn=>by
  simp only[ci,iw,or_false]at hn;rcases hn with rfl |rfl |rfl
  .exact c1
  .exact c2
  .exact c3
 have gb:=(Zc bd nz).1;have fp:=Yo (gm ww) gb bb;have m1:=eO t2 bw0 (by decide) (by omega);have m2:=eO (t2.mul bw0) bw0 (by omega) (by omega);have m3:=eO ((t2.mul bw0).mul bw0) bw1 (by omega) (by omega);have m4:=eO (((t2.mul bw0).mul bw0).mul bw1) bw2 (by omega) (by omega);have m5:=eO (t2.mul bw0) bw1 (by omega) (by omega);have m6:=eO ((t2.mul bw0).mul bw1) bw0 (by omega) (by omega);have m7:=eO (((t2.mul bw0).mul bw1).mul bw0) bw2 (by omega) (by omega);have ew:2*w0*w1*w0*w2=2*w0*w0*w1*w2:=by grind
 rw[ew]at m7;have i0:aE (v3 x0 y0 z0 w0) (.int (-1))=some (.int w0):=rfl;have i1:aE (v3 x1 y1 z1 w1) (.int (-1))=some (.int w1):=rfl;have i2:aE (v3 x2 y2 z2 w2) (.int (-1))=some (.int w2):=rfl;have j0:aE (v3 x0 y0 z0 w0) (.int 3)=some (.int w0):=rfl;have j1:aE (v3 x1 y1 z1 w1) (.int 3)=some (.int w1):=rfl;have j2:aE (v3 x2 y2 z2 w2) (.int 3)=some (.int w2):=rfl;refine⟨λS=>?_,λS=>?_,by rw[es];exact fp.2,?_⟩
 .have e3:=Z5 (k:=4*k+3) (by omega) S c1 c2 c3 nz bb ww
  have e1:=e1 S;have e2:=e2 S;have n3:=n3 S;have sl:=Nd (v3 x0 y0 z0 w0) [v3 x1 y1 z1 w1,v3 x2 y2 z2 w2];have k0:aE (.tup [v3 x0 y0 z0 w0,v3 x1 y1 z1 w1,v3 x2 y2 z2 w2]) (.int 0)=some (v3 x0 y0 z0 w0):=rfl;have k1:aE (.tup [v3 x0 y0 z0 w0,v3 x1 y1 z1 w1,v3 x2 y2 z2 w2]) (.int 1)=some (v3 x1 y1 z1 w1):=rfl;have k2:aE (.tup [v3 x0 y0 z0 w0,v3 x1 y1 z1 w1,v3 x2 y2 z2 w2]) (.int 2)=some (v3 x2 y2 z2 w2):=rfl;rw[es];show nT [.pv (.tup [v3 x0 y0 z0 w0,v3 x1 y1 z1 w1,v3 x2 y2 z2 w2])] S=.ok (.pv (.tup [tv (bG [N1,N2,N3]),fv (hJ (gf [N1,N2,N3]) (2*w0*w0*w1*w2))])) S;unfold nT aV yJ;clear g1 g2 x3 fp gb bd nz es;generalize v3 x2 y2 z2 w2=C,v3 x1 y1 z1 w1=B,v3 x0 y0 z0 w0=A,PV.lst [.int (x2*w0-x0*w2),.int (y2*w0-y0*w2),.int (z2*w0-z0*w2)]=U2,PV.lst [.int (x1*w0-x0*w1),.int (y1*w0-y0*w1),.int (z1*w0-z0*w1)]=U1,tv (bG [N1,N2,N3])=T1,fv (hJ (gf [N1,N2,N3]) (2*w0*w0*w1*w2))=F1 at *;simp! [bY,aS,aR,aP,aQ,aH,aO,k0,k1,k2,bQ,cT,bV,fV,dX,eY,iH,sl,cO,fI,fA,gN,e1,e2,n3,i0,i1,i2,m1,m2,m3,m4,e3]
 .have e3:=Qw [N1,N2,N3] S (λn hn=>(bd n hn).mono (by omega)) nz
  have e4:=Eb (gf [N1,N2,N3]) (2*w0*w0*w1*w2) S (gb.mono (by omega)) (bb.mono (by omega));rw[fp.1]at e4;have e4:mS [.pv (.int (gf [N1,N2,N3])),.pv (.int (2*w0*w0*w1*w2))] S=.ok (.pv (fv (hJ (gf [N1,N2,N3]) (2*w0*w0*w1*w2)))) S:=e4;have g1:=g1 S;have g2:=g2 S;have x3:=x3 S;simp only[aw,cv]at e3;rw[es];show nS [.pv (.tup [v3 x0 y0 z0 w0,v3 x1 y1 z1 w1,v3 x2 y2 z2 w2])] S=.ok (.pv (.tup [tv (bG [N1,N2,N3]),fv (hJ (gf [N1,N2,N3]) (2*w0*w0*w1*w2))])) S;unfold nS aV yH;clear e1 e2 n3 fp gb bd nz es;generalize v3 x2 y2 z2 w2=C,v3 x1 y1 z1 w1=B,v3 x0 y0 z0 w0=A,PV.lst [.int (x2*w0-x0*w2),.int (y2*w0-y0*w2),.int (z2*w0-z0*w2)]=U2,PV.lst [.int (x1*w0-x0*w1),.int (y1*w0-y0*w1),.int (z1*w0-z0*w1)]=U1,gf [N1,N2,N3]=G,tv (bG [N1,N2,N3])=T1,fv (hJ (gf [N1,N2,N3]) (2*w0*w0*w1*w2))=F1 at *;simp! [bY,aS,aR,aP,aQ,aH,aO,lE,gT,bO,cU,gN,g1,g2,x3,e3,j0,j1,j2,m1,m5,m6,m7,e4]
 .rw[es]
  intro z;have:=Qk [N1,N2,N3];have z:bG [N1,N2,N3]=[]:=z;rw[z]at this;cases this
def cS(u:AB):List (AA×(Int×Int)):=(eC u).map dW
structure pA(k:Nat)(u:AB):Prop where
 is:∃a b c d,u=[a,b,c,d]
 wd:∀w∈eC u,Wd k w
 nd:((cS u).map (·.1)).Nodup
theorem aa2{k:Nat}(hk:k<=400){u:AB}(h:Sx 3 k u):pA k u:=by
 match u,h.len,h with
 |[a,b,c,d],_,h=>
  have ga:=h.gu a (by simp);have gb:=h.gu b (by simp);have gc:=h.gu c (by simp);have gd:=h.gu d (by simp);have nz:=h.nz;have nn:∀{p q r s:AA},Pw 3 p->Pw 3 q->Pw 3 r->Pw 3 s->dU [p,q,r,s]≠0->∃n∈cZ [p,q,r],n≠0:=λhp hq hr hs z=>by
   obtain⟨x0,y0,z0,w0,rfl,p0⟩:=hp.three;obtain⟨x1,y1,z1,w1,rfl,p1⟩:=hq.three;obtain⟨x2,y2,z2,w2,rfl,p2⟩:=hr.three;obtain⟨x3,y3,z3,w3,rfl,p3⟩:=hs.three;exact aaJ p0 (x3:=x3) (y3:=y3) (z3:=z3) (w3:=w3) z
  have pa:=ga.pt;have pb:=gb.pt;have pc:=gc.pt;have pd:=gd.pt;have z:∀{x y:Int},y≠0->x=-y->x≠0:=λh e z=>h (by omega);have d1:dU [a,b,d,c]≠0:=z nz (gX pa pb pc pd).2.2;have d2:dU [a,c,b,d]≠0:=z nz (gX pa pb pc pd).2.1;have d3:dU [a,d,b,c]≠0:=z d1 (gX pa pb pd pc).2.1;have d4:dU [a,d,c,b]≠0:=z d3 (gX pa pd pb pc).2.2;have e1:dU [b,a,c,d]≠0:=z nz (gX pa pb pc pd).1;have e2:dU [b,c,a,d]≠0:=z e1 (gX pb pa pc pd).2.1;have e3:dU [b,c,d,a]≠0:=z e2 (gX pb pc pa pd).2.2;refine⟨⟨a,b,c,d,rfl⟩,λw hw=>?_,Ly pa pb pc pd nz⟩;have hw:w=[b,c,d]\/w=[a,d,c]\/w=[a,b,d]\/w=[a,c,b]:=by simpa[eC]using hw
  rcases hw with rfl |rfl |rfl |rfl
  .exact wH hk gb gc gd (nn pb pc pd pa e3)
  .exact wH hk ga gd gc (nn pa pd pc pb d4)
  .exact wH hk ga gb gd (nn pa pb pd pc d1)
  .exact wH hk ga gc gb (nn pa pc pb pd d2)
theorem Jl{k:Nat}{gs:AC}(h:∀u∈gs,pA k u):(gs.flatMap cS).length=4*gs.length/\(∀r∈gs.flatMap cS,Fq (4*k+3) r.2/\r.1≠[])/\gs.flatMap cS=(gs.flatMap eC).map dW/\∀w∈gs.flatMap eC,Wd k w:=by
 have e:gs.flatMap cS=(gs.flatMap eC).map dW:=by
  rw[List.map_flatMap];rfl
 have w:∀w∈gs.flatMap eC,Wd k w:=λw hw=>by
  obtain⟨u,hu,hw⟩:=List.mem_flatMap.mp hw;exact(h u hu).wd w hw
 refine⟨?_,λr hr=>?_,e,w⟩
 .clear e w
  induction gs with
  |nil=>rfl
  |cons u gs ih=>
   obtain⟨a,b,c,d,rfl⟩:=(h u ay).is;rw[uk,bi,ih λv hv=>h v (bn _ hv),cg];show 4+_=_;omega
 .rw[e]at hr
  obtain⟨x,hx,rfl⟩:=dz.mp hr;exact⟨(w x hx).fq,(w x hx).ln⟩
theorem Sb{k:Nat}(hk:4*(4*k+4)<=7000)(S:aG){gs:AC}{A:PV}(hA:Sv A (gs.map px))(h:∀u∈gs,pA k u)(hl:gs.length<=4):nU [.pv A] S=.ok (.pv (.tup ((iA HT.lexLt (gs.flatMap cS)).map cN))) S:=by
 obtain⟨i1,i2,i4,i5⟩:=Jl h;have e1:=Mt S hA (λu hu=>by
  obtain⟨a,b,c,d,rfl⟩:=(h u hu).is;exact .inr rfl) (by omega)
 have e2:cM [] (gN 0) (aU nT [] (aB (aA 0) aD)) ((gs.flatMap eC).map λw=>PV.tup (w.map tv)) [none] S=.ok ((gs.flatMap cS).map cN) S:=by
  rw[i4,dy];refine uG (lP S) (λw=>PV.tup (w.map tv)) (λw=>cN (dW w)) (gs.flatMap eC) none λw hw=>?_;have e:=(i5 w hw).pr S;generalize PV.tup (w.map tv)=T1,cN (dW w)=R1 at *;simp! [aE,bB,bD,aN,aS,aR,aP,aQ,aH,aO,e]
 have e3:=Zx (m:=2) (k:=4*k+3) (R:=gs.flatMap cS) (by omega) (by have:=vH (gs.flatMap cS);omega) (λz=>by
  obtain⟨r,hr,e⟩:=((jN _).2 _).mp z;exact(i2 r hr).2 e) (λj=>by
  have:=Fa cS gs j λu hu=>(h u hu).nd;omega) (by decide) (by omega) λr hr=>(i2 r hr).1
 have e4:lF (.tup ((iA HT.lexLt (gs.flatMap cS)).map cN))=true:=Kk _;clear i1 i2 i4 i5 hA h;unfold nU aV yQ;generalize (aU nT [] (aB (aA 0) aD))=ME1,((gs.flatMap eC).map λw=>PV.tup (w.map tv))=SL,(gs.flatMap cS).map cN=RL,(iA HT.lexLt (gs.flatMap cS)).map cN=TL at *;simp! [bY,aS,aR,aP,aQ,aH,aO,vN,bQ,cT,bV,e1,cO,e2,e3,e4]
theorem Kz{u:AB}(h:∃a b c d,u=[a,b,c,d])(S:aG):kP [.pv (px u)] S=.ok (.pv (.lst ((eC u).map λw=>.tup (w.map tv)))) S:=by
 obtain⟨a,b,c,d,rfl⟩:=h;show kP [.pv (.tup [tv a,tv b,tv c,tv d])] S=.ok (.pv (.lst [.tup [tv b,tv c,tv d],.tup [tv a,tv d,tv c],.tup [tv a,tv b,tv d],.tup [tv a,tv c,tv b]])) S;generalize tv a=TA;generalize tv b=TB;generalize tv c=TC;generalize tv d=TD;unfold kP aV Ja;simp! [aE,bB,bD,aN,aS,aR,aP,aQ,aH,aO,lE,gT,bO,cU,gN]
abbrev kH:MS:=(aL (lE (gT 2 (bO (gN 4) (bO (gN 5) cU))) (aU nS [] (aB (aA 3) aD))) (dH (aU pF [] (aB (aA 1) (aB (aA 4) (aB (aA 5) aD))))))
theorem Rn{k l:Nat}(A:SO)(x0 x2:AJ):∀(L:AC)(R:List (AA×(Int×Int)))(x3 x4 x5:AJ),(∀w∈L,Wd k w)->R.length+L.length<80000->(∀r∈R,Fq (4*k+3) r.2)->(∀j,(aZ (R++L.map dW) j).length<=l)->1+l*(4*k+4)+4*k+4<=7000->∃y3 y4 y5,dA [] (gN 3) kH (L.map λw=>PV.tup (w.map tv)) [x0,some (.ref 1),x2,x3,x4,x5] [A,.dic false (bU tv R)]=.nx [x0,some (.ref 1),x2,y3,y4,y5] [A,.dic false (bU tv (R++L.map dW))]
 |[],R,x3,x4,x5,_,_,_,_,_=>⟨x3,x4,x5,by simpa using hV⟩
 |w::L,R,x3,x4,x5,h,hl,hf,hm,hk=>by
  have t:=h w ay;have ec:R++(w::L).map dW=(R++[dW w])++L.map dW:=by simp
  rw[ec]at hm⊢;rw[cg]at hl;have m0:∀j,(aZ R j).length<=l:=λj=>by
   have:=hm j;rw[vF,vF,bi,bi]at this;omega
  have e1:=t.sh [A,.dic false (bU tv R)];have e2:=Z6 (l:=l) A (R:=R) (j:=(dW w).1) (u:=(dW w).2) (by omega) hf (m0 _) t.fq (by omega);obtain⟨y3,y4,y5,ih⟩:=Rn A x0 x2 L (R++[dW w]) (some (.pv (.tup (w.map tv)))) (some (.pv (tv (dW w).1))) (some (.pv (fv (dW w).2))) (λv hv=>h v (bn _ hv)) (by simp;omega) (λr hr=>by
   rcases cj.mp hr with z |z
   .exact hf r z
   .have:r=dW w:=by simpa using z
    rw[this];exact t.fq) hm hk
  refine⟨y3,y4,y5,?_⟩;rw[aw,fO];have e1:nS [.pv (.tup (w.map tv))] [A,.dic false (bU tv R)]=.ok (.pv (.tup [tv (dW w).1,fv (dW w).2])) [A,.dic false (bU tv R)]:=e1;have e2:pF [.ref 1,.pv (tv (dW w).1),.pv (fv (dW w).2)] [A,.dic false (bU tv R)]=.ok (.pv .non) [A,.dic false (bU tv (R++[dW w]))]:=e2;clear hm m0 hf ec;generalize (L.map λw=>PV.tup (w.map tv))=LL,PV.tup (w.map tv)=P1,tv (dW w).1=T1,fv (dW w).2=F1,bU tv R=D0,bU tv (R++[dW w])=D1,bU tv (R++[dW w]++L.map dW)=D2 at *;have st:kH [x0,some (.ref 1),x2,some (.pv P1),x4,x5] [A,.dic false D0]=.nx [x0,some (.ref 1),x2,some (.pv P1),some (.pv T1),some (.pv F1)] [A,.dic false D1]:=by
   unfold kH;simp! [bY,aS,aR,aP,aQ,aH,aO,lE,gT,bO,cU,gN,e1,e2]
  generalize kH=SB at *;simp[gN,st,ih]
theorem Xl{k l:Nat}(A:SO)(x0:AJ):∀(gs:AC)(R:List (AA×(Int×Int)))(x2 x3 x4 x5:AJ),(∀u∈gs,pA k u)->R.length+4*gs.length<70000->(∀r∈R,Fq (4*k+3) r.2)->(∀j,(aZ (R++gs.flatMap cS) j).length<=l)->1+l*(4*k+4)+4*k+4<=7000->∃y2 y3 y4 y5,dA [] (gN 2) (cG (bV (aU kP [] (aB (aA 2) aD))) (gN 3) kH) (gs.map px) [x0,some (.ref 1),x2,x3,x4,x5] [A,.dic false (bU tv R)]=.nx [x0,some (.ref 1),y2,y3,y4,y5] [A,.dic false (bU tv (R++gs.flatMap cS))]
 |[],R,x2,x3,x4,x5,_,_,_,_,_=>⟨x2,x3,x4,x5,by simpa using hV⟩
 |u::gs,R,x2,x3,x4,x5,h,hl,hf,hm,hk=>by
  have t:=h u ay;rw[uk,<-mj]at hm⊢;rw[cg]at hl;have lr:(eC u).length<=4:=by
   unfold eC;split<;>simp
  have e0:=Kz t.is [A,.dic false (bU tv R)];obtain⟨y3,y4,y5,e1⟩:=Rn A x0 (some (.pv (px u))) (eC u) R x3 x4 x5 t.wd (by omega) hf (λj=>by
   have:=hm j;rw[vF,bi]at this;show(aZ (R++cS u) j).length<=l;omega) hk
  obtain⟨z2,z3,z4,z5,ih⟩:=Xl A x0 gs (R++cS u) (some (.pv (px u))) y3 y4 y5 (λv hv=>h v (bn _ hv)) (by
   rw[bi];show _+((eC u).map dW).length+_<_;rw[am];omega) (λr hr=>by
   rcases cj.mp hr with z |z
   .exact hf r z
   .obtain⟨w,hw,rfl⟩:=dz.mp z
    exact(t.wd w hw).fq) hm hk
  refine⟨z2,z3,z4,z5,?_⟩;have e1:dA [] (gN 3) kH ((eC u).map λw=>PV.tup (w.map tv)) [x0,some (.ref 1),some (.pv (px u)),x3,x4,x5] [A,.dic false (bU tv R)]=.nx [x0,some (.ref 1),some (.pv (px u)),y3,y4,y5] [A,.dic false (bU tv (R++cS u))]:=e1;rw[aw,fO];generalize gs.map px=GL,px u=P1,((eC u).map λw=>PV.tup (w.map tv))=WL,bU tv R=D0,bU tv (R++cS u)=D1,bU tv (R++cS u++gs.flatMap cS)=D2 at *;have st:(cG (bV (aU kP [] (aB (aA 2) aD))) (gN 3) kH) [x0,some (.ref 1),some (.pv P1),x3,x4,x5] [A,.dic false D0]=.nx [x0,some (.ref 1),some (.pv P1),y3,y4,y5] [A,.dic false D1]:=by
   generalize kH=SB at *;simp! [bY,aS,aR,aP,aQ,aH,aO,cG,bV,e0,cO,e1]
  generalize (cG (bV (aU kP [] (aB (aA 2) aD))) (gN 3) kH)=SB at *;simp[gN,st,ih]
theorem G9{k:Nat}(A:SO){gs:AC}(h:∀u∈gs,pA k u)(hl:gs.length<=4)(hk:1+4*(4*k+4)+4*k+4<=7000):tR [.pv (.lst (gs.map px))] [A]=.ok (.ref 1) [A,.dic false (bU tv (gs.flatMap cS))]:=by
 obtain⟨y2,y3,y4,y5,e⟩:=Xl (l:=4) A (some (.pv (.lst (gs.map px)))) gs [] none none none none h (by simp;omega) (λ_ h=>(nomatch h)) (λj=>by
  rw[kd];have:=Fa cS gs j λu hu=>(h u hu).nd;omega) hk
 have p0:bU tv ([]:List (AA×(Int×Int)))=[]:=rfl;rw[p0,kd]at e;have hb:yI=(aL (bA 1 (sO false)) (aL (cG (bV (aA 0)) (gN 2) (cG (bV (aU kP [] (aB (aA 2) aD))) (gN 3) kH)) (bF (aA 1)))):=rfl;unfold tR;rw[hb];generalize gs.map px=GL,(cG (bV (aU kP [] (aB (aA 2) aD))) (gN 3) kH)=SB,bU tv (gs.flatMap cS)=D1 at *;refine wV (v:=.ref 1) (S':=[A,.dic false D1]) rfl ?_ (by simp[kY]);apply sq;simp! [bY,aS,aR,aP,aQ,aH,aO,sO];exact⟨rfl,rfl⟩;apply sq;simp! [bY,aS,aR,aP,aQ,aH,aO,cG,bV,cO,e];exact⟨rfl,rfl⟩;simp! [bY,aS,aR,aP,aQ,aH,aO]
theorem R0(ns:AA){hs:AC}(hw:∀xss∈hs,Rw 3 xss)(h9:hs.length<=4):∃(gs:AC)(ns':AA),rC [.ref 0,.pv (.lst (hs.map cF))] [.lst (li ns)]=.ok (.pv (.lst (gs.map px))) [.lst (li ns')]/\gs.length<=4/\∀u∈gs,Sx 3 201 u:=by
 cases hs with
 |nil=>
  refine⟨[],ns,?_,by decide,λ_ h=>(nomatch h)⟩;unfold rC aV tW;simp! [-cY,cY.eq_1,aE,bB,bD,aN,aS,aR,aP,aQ,aH,aO]
 |cons x hs=>
  obtain⟨fs,n2,e2,l2,r2⟩:=Yv (n:=3) (.inr rfl) ns;obtain⟨gs,n3,e3,l3,r3⟩:=L3 (n:=3) (.inr rfl) n2 l2 r2 hw (by omega);have i0:aE (.lst ((x::hs).map cF)) (.int 0)=some (cF x):=vM (j:=0) rfl;have el:cY [cF x]=some (.int 4):=by
   show some (PV.int (((x.map lv).length:Nat):Int))=_;rw[am,(hw x ay).len];rfl
  have c2:((3:Nat):Int)=3:=rfl;rw[c2]at e2;have ez:(((((x::hs).map cF).length:Nat):Int)==0)=false:=by simp;omega
  refine⟨gs,n3,?_,by omega,r3⟩;unfold rC aV tW;generalize gs.map px=GL,fs.map fv=FL,(x::hs).map cF=HL,cF x=X1 at *;simp! [-cY,cY.eq_1,bY,aS,aR,aP,aQ,aH,aO,ez,i0,el,e2,e3]
theorem Az(ns:AA)(h:ns.length<=63):∃S,Ld [.pv (.lst (ns.map .int))] []=.ok (.pv (.bl true)) S:=by
 obtain⟨ms,e0,_⟩:=aa1 ns [] h;have e0:sD [.pv (.lst (ns.map .int))] []=.ok (.ref 0) [.lst (li ms)]:=e0;obtain⟨hs,n1,e1,l1,r1⟩:=Mu (n:=3) (.inr rfl) (M:=4) (by decide) ms;have e1:rD [.ref 0,.pv (.int 3),.pv (.int 4)] [.lst (li ms)]=.ok (.ref 1) [.lst (li n1),.lst (hs.map cF)]:=e1;obtain⟨gs,n2,e2,l2,r2⟩:=R0 n1 r1 l1;have t:∀u∈gs,pA 201 u:=λu hu=>aa2 (by decide) (r2 u hu);have e3:=G9 (.lst (li n2)) t l2 (by decide);obtain⟨i1,i2,_⟩:=Jl t;have e4:=S8 (k:=4*201+3) (.lst (li n2)) (R:=gs.flatMap cS) (by
  have:=vH (gs.flatMap cS);omega) (λz=>by
  obtain⟨r,hr,e⟩:=((jN _).2 _).mp z;exact(i2 r hr).2 e) λr hr=>(i2 r hr).1
 obtain⟨B,n3,e5,hB⟩:=A3 (S:=[.lst (li n2),.dic false (bU tv (gs.flatMap cS))]) (k:=0) (ns:=n2) (L:=gs.map px) rfl;have e5:pH [.ref 0,.pv (.lst (gs.map px))] [.lst (li n2),.dic false (bU tv (gs.flatMap cS))]=.ok (.pv B) [.lst (li n3),.dic false (bU tv (gs.flatMap cS))]:=e5;have e6:=Sb (k:=201) (by decide) [.lst (li n3),.dic false (bU tv (gs.flatMap cS))] hB t l2;have tr:∀u∈gs.reverse,pA 201 u:=λu hu=>t u (List.mem_reverse.mp hu);have e7:=Sb (k:=201) (A:=.tup (gs.reverse.map px)) (by decide) [.lst (li n3),.dic false (bU tv (gs.flatMap cS))] (.inr rfl) tr (by rw[List.length_reverse];exact l2);have q2:iA HT.lexLt (gs.reverse.flatMap cS)=iA HT.lexLt (gs.flatMap cS):=Mw Gb (List.Perm.flatMap_right cS (List.reverse_perm gs)) λr hr=>(i2 r hr).1;rw[q2]at e7;have e8:=Sb (k:=201) (gs:=[]) (A:=.lst []) (by decide) [.lst (li n3),.dic false (bU tv (gs.flatMap cS))] (.inl rfl) (λ_ h=>(nomatch h)) (by decide);have e8:nU [.pv (.lst [])] [.lst (li n3),.dic false (bU tv (gs.flatMap cS))]=.ok (.pv (.tup [])) [.lst (li n3),.dic false (bU tv (gs.flatMap cS))]:=e8;have a1:=Gg [.lst (li n3),.dic false (bU tv (gs.flatMap cS))] (iA HT.lexLt (gs.flatMap cS));have a2:=Gg [.lst (li n3),.dic false (bU tv (gs.flatMap cS))] [];have a2:oA [.pv (.tup []),.pv (.tup [])] [.lst (li n3),.dic false (bU tv (gs.flatMap cS))]=.ok (.pv (.bl true)) [.lst (li n3),.dic false (bU tv (gs.flatMap cS))]:=a2;have pr:=Uy (gs.map px) (by rw[am];omega);rw[<-List.map_reverse]at pr;clear i1 i2 q2 t tr hB r1 r2 l1 l2;refine⟨[],?_⟩;unfold Ld Ad;generalize ns.map PV.int=NL,hs.map cF=HL,gs.map px=GL,gs.reverse.map px=RL,bU tv (gs.flatMap cS)=D1,(iA HT.lexLt (gs.flatMap cS)).map cN=TL at *;refine wV (v:=.pv (.bl true)) (S':=[.lst (li n3),.dic false D1]) rfl ?_ rfl;apply sq;simp! [bY,aS,aR,aP,aQ,aH,aO,e0];exact⟨rfl,rfl⟩;apply sq;simp! [bY,aS,aR,aP,aQ,aH,aO,e1,e2];exact⟨rfl,rfl⟩;apply sq;simp! [bY,aS,aR,aP,aQ,aH,aO,e3,e4];exact⟨rfl,rfl⟩;apply sq;simp! [bY,aS,aR,aP,aQ,aH,aO,e5,e6,a1];exact⟨rfl,rfl⟩;simp! [bY,aS,aR,aP,aQ,aH,aO,lW,Qd,dX,iH,pr,e7,e8,a1,a2]
theorem hF_k{K:ag}{x:Str}{st:Stmt}{f:Addr}{oc:Value}{od an:AF}{osl:Array AE}{kV doc pm cdv ct:Value}(a:dq K mainGlobals x=some (some (.ref f)):=by k_is)(l:K.lookup f=some ⟨oc,od,.func (eh x x (gR st) (eP st) (cR st) .none kV doc pm an cdv ct),osl⟩:=by k_is)(c:ju K cdv x=true:=by k_is)(k:fz K (.ref f)=true:=by k_is):HF K x st:=abD a l c k
theorem all_mk{l:nr}{w:al}{K:ag}{h:Heap}{mg:Str->AE}{fa:Addr}(X:K.In h)(G:h.Ns mainGlobals mg)(hfa:mg "law"=some (.ref fa))
  (h25:HF K "_law_row" Go)
  (h26:HF K "_law_take" Jm)
  (h27:HF K "_law_gcd" Ko)
  (h28:HF K "_law_lowest" Ih)
  (h45:HF K "_law_far" Cq)
  (h36:HF K "_law_dot" Fo)
  (h35:HF K "_law_cross" Pk)
  (h37:HF K "_law_turn" Rm)
  (h34:HF K "_law_gap" So)
  (h38:HF K "_law_det" Mo)
  (h39:HF K "_law_simplex" Wg)
  (h33:HF K "_law_joined" Yh)
  (h47:HF K "_law_spot" Pn)
  (h48:HF K "_law_laid" Rl)
  (h31:HF K "_law_frac" Xn)
  (h46:HF K "_law_stretch" Lg)
  (h56:HF K "_law_wide_far" Tf)
  (h42:HF K "_law_raw_turn" Sf)
  (h41:HF K "_law_raw" Jp)
  (h43:HF K "_law_kuhn" Mn)
  (h44:HF K "_law_raw_heap" Wf)
  (h52:HF K "_law_told_sums" Hf)
  (h40:HF K "_law_shuts" Lj)
  (h29:HF K "_law_upward" Zh)
  (h50:HF K "_law_way_of" Wi)
  (h53:HF K "_law_shut_share" Ze)
  (h32:HF K "_law_sum" Op)
  (h51:HF K "_law_put_sum" Rg)
  (h54:HF K "_law_shut_table" Xe)
  (h30:HF K "_law_whole" Zk)
  (h55:HF K "_law_alike" pQ)
  (h4:HF K "sign" Vp)
  (h5:HF K "divisor" Pi)
  (h9:HF K "plus" Qp)
  (h10:HF K "total" Pm)
  (h21:HF K "summed" Ej)
  (h17:HF K "walls" Xm)
  (h22:HF K "all_walls" Pf)
  (h13:HF K "normal" Gk)
  (h12:HF K "whole_arrow" Af)
  (h6:HF K "reduced" Vi)
  (h7:HF K "lowest_way" Df)
  (h19:HF K "along" Cm)
  (h20:HF K "wall_share" Kf)
  (h23:HF K "wall_sums" Uf)
  (h49:HF K "_law_handed" Ni)
  {f8:Addr}{od8 an8:AF}{sl8:Array AE}{oc8 kV8 dc8 pm8 cd8 ct8:Value}
  {T8:Addr}{tc8:Value}{td8:AF}{tl8:Array AE}{tn8:Nat}{tt8:cw}
  (a8:dq K mainGlobals "fraction"=some (some (.ref f8)))(l8:K.lookup f8=some ⟨oc8,od8,.func (eh "fraction" "fraction" (gR rF) (eP rF) (cR rF) (.ref T8) kV8 dc8 pm8 an8 cd8 ct8),sl8⟩)(c8:ju K cd8 "fraction"=true)(k8:fz K (.ref f8)=true)
  (t8:K.lookup T8=some ⟨tc8,td8,.seq #[.int 1 tt8] tn8,tl8⟩)
  {f57:Addr}{od57 an57:AF}{sl57:Array AE}{oc57 kV57 dc57 pm57 cd57 ct57:Value}
  (a57:dq K mainGlobals "law"=some (some (.ref f57)))(l57:K.lookup f57=some ⟨oc57,od57,.func (eh "law" "law" (gR nF) (eP nF) (cR nF) .none kV57 dc57 pm57 an57 cd57 ct57),sl57⟩)(c57:ju K cd57 "law"=true)(k57:fz K (.ref f57)=true)
  (z1:dq K mainGlobals "abs"=some none)
  (z2:dq K mainGlobals "all"=some none)
  (z3:dq K mainGlobals "bool"=some none)
  (z4:dq K mainGlobals "enumerate"=some none)
  (z5:dq K mainGlobals "int"=some none)
  (z6:dq K mainGlobals "isinstance"=some none)
  (z7:dq K mainGlobals "len"=some none)
  (z8:dq K mainGlobals "list"=some none)
  (z9:dq K mainGlobals "range"=some none)
  (z10:dq K mainGlobals "sorted"=some none)
  (z11:dq K mainGlobals "sum"=some none)
  (z12:dq K mainGlobals "tuple"=some none)
  (z13:dq K mainGlobals "zip"=some none)
  {C1:Addr}
  (y1:dq K mainGlobals "NoNumber"=some (some (.ref C1)))(x1:lm K C1 rW "ValueError.__new__"=true)
  {gk1:cw}
  {gk2:cw}
  {GA2:Addr}{gd2:AF}{gn2:Nat}{gs2:Array AE}
  {gk3:cw}
  {gk4:cw}
  {GA3:Addr}{gd3:AF}{gn3:Nat}{gs3:Array AE}
  {gk5:cw}
  {gk6:cw}
  {GA4:Addr}{gd4:AF}{gn4:Nat}{gs4:Array AE}
  {GA1:Addr}{gd1:AF}{gn1:Nat}{gs1:Array AE}
  {gk7:cw}
  {gk8:cw}
  {gk9:cw}
  {GA6:Addr}{gd6:AF}{gn6:Nat}{gs6:Array AE}
  {gk10:cw}
  {gk11:cw}
  {gk12:cw}
  {GA7:Addr}{gd7:AF}{gn7:Nat}{gs7:Array AE}
  {gk13:cw}
  {gk14:cw}
  {gk15:cw}
  {GA8:Addr}{gd8:AF}{gn8:Nat}{gs8:Array AE}
  {gk16:cw}
  {gk17:cw}
  {gk18:cw}
  {GA9:Addr}{gd9:AF}{gn9:Nat}{gs9:Array AE}
  {GA5:Addr}{gd5:AF}{gn5:Nat}{gs5:Array AE}
  (v1:dq K mainGlobals "FLAT_WALLS"=some (some (.ref GA1)))
  (v2:dq K mainGlobals "SPACE_WALLS"=some (some (.ref GA5)))
  (vl1:K.lookup GA1=some ⟨.type "tuple",gd1,.seq #[.ref GA2,.ref GA3,.ref GA4] gn1,gs1⟩)
  (vl2:K.lookup GA2=some ⟨.type "tuple",gd2,.seq #[.int 0 gk1,.int 1 gk2] gn2,gs2⟩)
  (vl3:K.lookup GA3=some ⟨.type "tuple",gd3,.seq #[.int 1 gk3,.int 2 gk4] gn3,gs3⟩)
  (vl4:K.lookup GA4=some ⟨.type "tuple",gd4,.seq #[.int 2 gk5,.int 0 gk6] gn4,gs4⟩)
  (vl5:K.lookup GA5=some ⟨.type "tuple",gd5,.seq #[.ref GA6,.ref GA7,.ref GA8,.ref GA9] gn5,gs5⟩)
  (vl6:K.lookup GA6=some ⟨.type "tuple",gd6,.seq #[.int 1 gk7,.int 2 gk8,.int 3 gk9] gn6,gs6⟩)
  (vl7:K.lookup GA7=some ⟨.type "tuple",gd7,.seq #[.int 0 gk10,.int 3 gk11,.int 2 gk12] gn7,gs7⟩)
  (vl8:K.lookup GA8=some ⟨.type "tuple",gd8,.seq #[.int 0 gk13,.int 1 gk14,.int 3 gk15] gn8,gs8⟩)
  (vl9:K.lookup GA9=some ⟨.type "tuple",gd9,.seq #[.int 0 gk16,.int 2 gk17,.int 1 gk18] gn9,gs9⟩)
  :∃fd:cf,(∀(s:aa)(v:Value),nh s fd ⟨[v],[]⟩ [("_law_script",v)])/\∀base:Heap,K.In base->base.Ns mainGlobals mg->eG l.prog w K mg base eZ 7 fa fd ["_law_script"] (wL K):=by
 let cl:Str->Addr:=λn=>if n="NoNumber" then C1 else 0
 have e:=hfa.symm.trans (oi X G a57);cases e;have F8:=O0 (st:=rF) l8 c8 k8 t8 rfl;have b8:=F8.binds (ps:=["top","bottom"]) (dd:=[]) λ_ _ _ _ _ _ _ us hl=>match us,hl with |[_,_],_=>⟨_,rfl,rfl⟩
 have n8:=oi X G a8;have F57:=Mp (st:=nF) l57 c57 k57;have m:Mg mg:=⟨jd X G z1,jd X G z2,jd X G z3,jd X G z4,jd X G z5,jd X G z6,jd X G z7,jd X G z8,jd X G z9,jd X G z10,jd X G z11,jd X G z12,jd X G z13⟩;have gt_FLAT_WALLS:tJ K mg "FLAT_WALLS" (.tup [.tup [.int 0,.int 1],.tup [.int 1,.int 2],.tup [.int 2,.int 0]]):=⟨_,.ref GA1,oi X G v1,rfl,(lO (vs:=[.ref GA2,.ref GA3,.ref GA4]) vl1 (by show 3<=fm;decide) (.cons rfl (.cons rfl (.cons rfl .nil))) (by show 3<=fm;decide) (eU (lO (vs:=[.int 0,.int 1]) vl2 (by show 2<=fm;decide) (.cons ⟨_,rfl⟩ (.cons ⟨_,rfl⟩ .nil)) (by show 2<=fm;decide) (eU gI (eU gI lN))) (eU (lO (vs:=[.int 1,.int 2]) vl3 (by show 2<=fm;decide) (.cons ⟨_,rfl⟩ (.cons ⟨_,rfl⟩ .nil)) (by show 2<=fm;decide) (eU gI (eU gI lN))) (eU (lO (vs:=[.int 2,.int 0]) vl4 (by show 2<=fm;decide) (.cons ⟨_,rfl⟩ (.cons ⟨_,rfl⟩ .nil)) (by show 2<=fm;decide) (eU gI (eU gI lN))) lN))))⟩;have gt_SPACE_WALLS:tJ K mg "SPACE_WALLS" (.tup [.tup [.int 1,.int 2,.int 3],.tup [.int 0,.int 3,.int 2],.tup [.int 0,.int 1,.int 3],.tup [.int 0,.int 2,.int 1]]):=⟨_,.ref GA5,oi X G v2,rfl,(lO (vs:=[.ref GA6,.ref GA7,.ref GA8,.ref GA9]) vl5 (by show 4<=fm;decide) (.cons rfl (.cons rfl (.cons rfl (.cons rfl .nil)))) (by show 4<=fm;decide) (eU (lO (vs:=[.int 1,.int 2,.int 3]) vl6 (by show 3<=fm;decide) (.cons ⟨_,rfl⟩ (.cons ⟨_,rfl⟩ (.cons ⟨_,rfl⟩ .nil))) (by show 3<=fm;decide) (eU gI (eU gI (eU gI lN)))) (eU (lO (vs:=[.int 0,.int 3,.int 2]) vl7 (by show 3<=fm;decide) (.cons ⟨_,rfl⟩ (.cons ⟨_,rfl⟩ (.cons ⟨_,rfl⟩ .nil))) (by show 3<=fm;decide) (eU gI (eU gI (eU gI lN)))) (eU (lO (vs:=[.int 0,.int 1,.int 3]) vl8 (by show 3<=fm;decide) (.cons ⟨_,rfl⟩ (.cons ⟨_,rfl⟩ (.cons ⟨_,rfl⟩ .nil))) (by show 3<=fm;decide) (eU gI (eU gI (eU gI lN)))) (eU (lO (vs:=[.int 0,.int 2,.int 1]) vl9 (by show 3<=fm;decide) (.cons ⟨_,rfl⟩ (.cons ⟨_,rfl⟩ (.cons ⟨_,rfl⟩ .nil))) (by show 3<=fm;decide) (eU gI (eU gI (eU gI lN)))) lN)))))⟩;refine⟨eh "law" "law" (gR nF) (eP nF) (cR nF) .none kV57 dc57 pm57 an57 cd57 ct57,λs v=>.of_eq rfl,λbase _ _=>?_⟩
 let B:Bx:=⟨l.prog,w,K,mg,base,cl⟩
 have Xg:XG B.K B.mg:=⟨h,X,G⟩;have m:Mg B.mg:=m;have q_NoNumber:B.mg "NoNumber"=some (.ref (B.cl "NoNumber")):=oi X G y1;have x_NoNumber:lm B.K (B.cl "NoNumber") rW "ValueError.__new__"=true:=x1;have C25:=M8 Xg m h25;have C26:=B9 Xg m h26;have C27:=K5 Xg m h27;have C28:=Tu Xg m h28 C27;have C45:=V7 Xg m h45 C26 C28;have C36:=O8 Xg m h36;have C35:=Ix Xg m h35;have C37:=G6 Xg m h37 C36 C35;have C34:=R3 Xg m h34;have C38:=J4 Xg m h38 C37 C34;have C39:=Nu Xg m h39 C38;have C33:=Zv Xg m h33 C28;have C47:=F9 Xg m h47 C28;have C48:=C8 Xg m h48 C45 C39 C33 C47;have C31:=Iz Xg m h31 C28;have C46:=Fu Xg m h46 C26 C31;have C56:=Tt Xg m h56 C48 C46;have C42:=Kt Xg m h42 C37;have C41:=N6 Xg m h41 C26 C42;have C43:=Hz Xg m h43 C26;have C44:=Jt Xg m h44 C26 C41 C43;have C52:=Bt Xg m h52;have C40:=Px Xg m h40;have C29:=Vv Xg m h29 C28;have C50:=Aw Xg m h50 C29;have C53:=Us Xg m h53 C50 C35 C34 C31;have C32:=L9 Xg m h32 C31;have C51:=Qu Xg m h51 C32;have C54:=Vs Xg m h54 C40 C53 C51;have C30:=Uw Xg m h30;have C55:=By Xg m h55 C30;have C4:=Q5 Xg m h4;have C5:=Mv Xg m h5;have G8:=Yt Xg m F8 C4 C5 q_NoNumber x_NoNumber;have H8:yO B:=acD G8 b8 k8 n8;have C9:=Q4 Xg m h9 H8;have C10:=E1 Xg m h10 C9;have C21:=Vw Xg m h21 C10;have C17:=Gy Xg m h17 gt_FLAT_WALLS gt_SPACE_WALLS;have C22:=Vt Xg m h22 C17;have C13:=Fx Xg m h13;have C12:=Ws Xg m h12;have C6:=Zu Xg m h6 C5;have C7:=Ft Xg m h7 C6 C4;have C19:=Vy Xg m h19 C7 H8;have C20:=Ys Xg m h20 C13 C12 C19;have C23:=Ut Xg m h23 C21 C22 C20;have C49:=Iv Xg m h49 C26;exact(W7 Xg m F57 C25 C56 C44 C52 C54 C55 C23 C49).imp λvs H Q E h=>V3 Az h
theorem walk{l:nr}{q:Program}{loose:List Str}{XP:(Str->AE)->Heap->Prop}{YP:al->Heap->Prop}{d:DefRec}{K:mq->ag}(hn:l.most=some 63)(hdf:d.params.defaults=[])
  (hY:∀(w:al)(h:Heap),YP w h->(K w.params).In h)
  (F:∀(w:al)(mg:Str->AE)(fa:Addr)(h:Heap),(K w.params).In h->h.Ns mainGlobals mg->mg d.name=some (.ref fa)->
   ∃fd:cf,(∀(s:aa)(u:Value),nh s fd ⟨[u],[]⟩ [("_law_script",u)])/\∀base:Heap,(K w.params).In base->base.Ns mainGlobals mg->eG l.prog w (K w.params) mg base eZ 7 fa fd ["_law_script"] (wL (K w.params))):
  PySem.W.WalkO q loose XP YP l.row.toRowW d [] (λf vs=>vw f vs):=
 L2.walk_of (n:=63) (k:=7) (x:="_law_script") (CX:=λ_=>eZ) (sp:=λw=>wL (K w.params)) hn (by decide) hdf ⟨rfl,by decide,by decide⟩ hY F (λ_ _ a ns hl _ hS=>⟨a,ns,rfl,hS,hl,λ_=>rfl⟩) λ_ _ _ _ _ z=>z
end
end Sc
open PySem PySem.W PyProof.Rows
set_option maxRecDepth 100000 in
set_option maxHeartbeats 0 in
theorem PySem.Challenge.cw_scissorhall_k45_wall_sums_holds : PySem.Challenge.rw_scissorhall_k45_wall_sums.Holds := by
 w_on; refine holds_law Sc.wsaid λsaid=>?_
 refine holds_open (q:=Sc.VW) (loose:=[ib "fraction"]) (Xt:=λs=>xlAt Sc.VW [] s && recOk (RowW.records (yr (yt qo))) s) (XP:=XL Sc.VW []) (Yf:=Hook.obs (kHook Sc.KK Sc.KA Sc.KE)) (Ya:=Hook.val (kHook Sc.KK Sc.KA Sc.KE)) (YP:=Hook.says (kHook Sc.KK Sc.KA Sc.KE)) (N:=3918) Sc.left (Hook.of (kHook Sc.KK Sc.KA Sc.KE)) (Hook.keeps (kHook Sc.KK Sc.KA Sc.KE)) (λs e=>xl_of s (yc.mp e).1) XL.keeps (by rfl) (by rfl) (by rfl) (λs e=>recFacts_of (yc.mp e).2) (by rfl) (by first | assumption | decide +kernel) (by decide +kernel) ⟨rfl,rfl,rfl,rfl,rfl,by decide +kernel⟩ ?hw ?hc
 case hw=>w_witness2
 k_fill
 refine Sc.walk (l:=qo) rfl rfl (λw h Y=>PySem.W.kIn_of Y) ?F
 case F =>
  intro w mg fa h KX G hmg;refine' Sc.all_mk KX G hmg Sc.hF_k Sc.hF_k Sc.hF_k Sc.hF_k Sc.hF_k Sc.hF_k Sc.hF_k Sc.hF_k Sc.hF_k Sc.hF_k Sc.hF_k Sc.hF_k Sc.hF_k Sc.hF_k Sc.hF_k Sc.hF_k Sc.hF_k Sc.hF_k Sc.hF_k Sc.hF_k Sc.hF_k Sc.hF_k Sc.hF_k Sc.hF_k Sc.hF_k Sc.hF_k Sc.hF_k Sc.hF_k Sc.hF_k Sc.hF_k Sc.hF_k Sc.hF_k Sc.hF_k Sc.hF_k Sc.hF_k Sc.hF_k Sc.hF_k Sc.hF_k Sc.hF_k Sc.hF_k Sc.hF_k Sc.hF_k Sc.hF_k Sc.hF_k Sc.hF_k Sc.hF_k ?a8 ?l8 ?c8 ?k8 ?t8 ?a57 ?l57 ?c57 ?k57 ?z1 ?z2 ?z3 ?z4 ?z5 ?z6 ?z7 ?z8 ?z9 ?z10 ?z11 ?z12 ?z13 ?y1 ?x1 ?v1 ?v2 ?vl1 ?vl2 ?vl3 ?vl4 ?vl5 ?vl6 ?vl7 ?vl8 ?vl9
  (case a8 | l8 | c8 | k8 | t8 | a57 | l57 | c57 | k57 | z1 | z2 | z3 | z4 | z5 | z6 | z7 | z8 | z9 | z10 | z11 | z12 | z13 | y1=>k_is)
  (case x1=>k_exc)
  (case v1 | v2 | vl1 | vl2 | vl3 | vl4 | vl5 | vl6 | vl7 | vl8 | vl9=>k_is)
#print axioms PySem.Challenge.cw_scissorhall_k45_wall_sums_holds
