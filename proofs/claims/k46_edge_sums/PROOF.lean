import PyProof.Rows.All
import KE.KFromBytes
import KE.KIsAll
import PyProof.EqAt
import PyProof.EqKinds
import PyProof.TupleCall
import PyProof.ZipIter
import PyProof.Draws
import PyProof.CompFree
import PyProof.NeKinds
import PyProof.NsDelKeeps
import PyProof.ExcArgsOwn
import PyProof.ExcAttrAll.ValueError
import KE.KSortTup
import PyProof.DictRoadsH
import Wide.Seal
import KE.KIntText
import PyProof.FitsReplace
import PyProof.StrWalks
import PyProof.CompMap
import KE.KDictList
import PySem.Challenge.RW_scissorhall_k46_edge_sums
set_option Elab.async false
set_option compiler.extract_closed false
set_option bootstrap.genMatcherCode false
set_option maxRecDepth 100000
set_option maxHeartbeats 0
open Array renaming length_toList->nu,toList->vj,getElem?_toList->wv,replicate->yg,getElem?_eq_getElem->yo,append_assoc->zn,forIn_toList->o4
open Bool renaming false_ne_true->ij,and_eq_true->jb,eq_iff_iff->xo,false_eq_true->yh,and_eq_true_iff->yq,not_eq_true'->o3
open Classical renaming propDecidable->ug
open Decidable renaming byContradiction->AN
open False renaming elim->jr
open ForInStep renaming yield->xj
open Function renaming comp_apply->v8
open Int renaming gcd->br,mul_pos->cg,mul_comm->dy,mul_ne_zero->gm,ne_of_gt->ib,zero_sub->jc,one_mul->jd,neg_mul->kd,zero_mul->kj,toNat_natCast->mj,mul_ediv_cancel_left->mq,mul_one->nv,mul_zero->oj,natAbs_mul->qj,gcd_zero_left->qk,fdiv_eq_ediv_of_dvd->ql,mul_eq_zero->qy,mul_neg->sw,le_refl->sx,zero_add->sy,gcd_dvd_left->xb,gcd_dvd_right->xc,natAbs_natCast->xf,pos_of_mul_pos_left->xh,reduceLT->yz,natAbs_neg->g9,natCast_nonneg->i8,gcd_mul_left->i9,mul_neg_of_pos_of_neg->j4,neg_mul_neg->j5,fmod_nonneg_of_pos->AI,natCast_mul->AM
open List renaming length_map->ao,size_toArray->au,getElem?_eq_getElem->av,map_cons->aw,getElem?_map->ax,mem_cons_self->bf,length_append->bh,range->bj,mem_cons_of_mem->bn,length_cons->ca,getElem?_eq_some_iff->ce,getD->cf,mem_cons->cj,mem_append->cq,zipWith->cu,map_nil->cw,mem_of_getElem?->cy,mem_append_right->df,mem_map->dg,map_append->dh,getElem?_append_right->dj,map_congr_left->dl,lookup_cons->dr,getElem?_set_self->ee,map_map->fe,set_cons_zero->ff,getElem?_set_ne->fh,getElem?_append_left->fj,length_set->fk,toArray->fw,not_mem_nil->gw,filterMap_cons->iu,getElem_mem->iz,ext_getElem?->jf,prefix_rfl->jk,set_cons_succ->jl,nodup_cons->jn,map->jw,append_assoc->jx,nil_append->jy,length_take->jz,length_singleton->kb,all_eq_true->ke,length_zipWith->kh,getElem?_eq_none->kw,nodup_nil->kx,set_set->ky,mem_append_left->ld,append_nil->mf,length_range->ng,nodup_append->nh,flatMap_cons->ni,mem_filter->nr,filterMap_map->oa,length->qh,length_drop->qi,drop_eq_getElem_cons->qp,getElem_of_mem->qq,replicate->rm,zip_cons_cons->rq,map_id->td,forIn_cons->tf,mem_iff_getElem->tm,ext_getElem->ue,drop_length->uh,getElem?_take->ui,getElem?_set->um,map_set->uq,pairwise_cons->ur,take_of_length_le->uv,cons_append->uz,mem_range->vg,mem_filterMap->vm,of_mem_zip->vt,zip_nil_right->vz,length_nil->wg,forIn_nil->xp,sum_cons->ya,take_length->yf,pairwise_iff_getElem->yj,length_eq_zero_iff->yn,mem_singleton->yr,getElem_zipWith->yx,range_succ_eq_map->yy,getElem?_cons_succ->zb,getElem?_cons_zero->zc,foldl_cons->ze,filter_cons->zg,mem_flatMap->zh,getElem?_replicate->a5,length_replicate->a6,zipIdx_cons->k9,zipIdx_nil->l4,getElem?_zipWith->o6,getElem_toArray->o7,getElem?_eq_none_iff->s0,map_inj_right->u6,set_getElem_self->u7,pairwise_map->AH,getD_eq_getElem?_getD->AJ,zipWith_cons_cons->AK,zipWith_nil_left->AL,filter_append->AQ,foldl_append->AR,map_eq_nil_iff->AS,filter_eq_nil_iff->AT,length_filter_le->AU
open Nat renaming le_refl->aj,ne_of_lt->cx,zero_le->de,lt_of_lt_of_le->di,le_trans->fm,sub_self->ia,lt_irrefl->ir,ne_of_gt->ko,le_succ->og,lt_of_le_of_lt->oi,le_of_lt->pf,le_of_eq->su,pow_succ->sv,two_pow_pos->uw,pow_le_pow_right->xa,lt_trans->xi,lt_of_succ_lt->xz,add_assoc->yb,lt_succ_self->yc,lt_succ_of_lt->ye,le_succ_of_le->yk,min_eq_left->ym,mul_le_mul_right->za,succ_le_succ->g8,eq_zero_or_pos->i7,exists_eq_add_of_le->o5
open Ne renaming symm->iw
open Option renaming getD_some->uk,map_some->yt,getD_none->f6
open Option.some renaming inj->ci
open Or renaming inr->dk,inl->eh
open Prod renaming ext->se
open PyProof.Rows renaming IntsAre->jh,AllBare->jq,IsTup->lc,get?_update_seq->ou,callWith_type1->pw,listUpdate_at->qs,seqEpoch_at->qu,slot_tuple_getitem->si,SortKind->uu,assignInOrder_cons->vk,Subscript_->wo,subscriptTail_builtinR->d8,boot_isinstance->r8
open PyProof.Rows.IsTup renaming new->rl
open PySem renaming Shared->aa,wpAny_bind->ae,Expr->ah,Pos->ai,wpAny_pure->ak,World->am,Around->aq,Env->bo,FuncData->ck,Tok->cv,Paired->dn,IsPair->du,wpAny_mono->ft,sizeLine->fx,Keyword->fz,NameKind->gh,IsZip->ig,sizeLine_eq->ik,wpAny_field->il,wpAny_newObj_type->iy,wpAny_holding->jm,storedH_new->jp,mem_of_lookup->jt,wpAny_call_entry->ju,Draws->jv,wpAny_seqItems->kg,CmpOp->km,wpAny_rule->kn,IsPart->kr,Model->lg,wpAny_truthy_bool->lh,wpAny_passesOwn->lq,wpAny_callSpecial?_slot->mn,Params->nj,BindsTo->ny,wpAny_setField_rec->om,wpAny_standAt->ph,PassesOwn->pk,Result->qe,codeAny_mono->qg,wpAny_setField->qm,Fin->qr,atKey_none_of_get->qv,idxH_unique->qw,wpAny_execs_nil->rf,Operator->rh,wpAny_loadPart'->rn,wpAny_pyIter_list->tj,wpAny_letGo->tx,wpAny_of_eq->tz,wpAny_onRaise->ub,wpAny_attempt->uc,wpAny_newList->ul,storedH_old->uo,wpAny_Name->vh,wpAny_Call_Name_kw->vq,concat_meets->wj,wpAny_typeOf->wm,seqIndex_of->wp,seqIndex_neg->wq,slot_list_getitem->wr,call_meets->wu,call->wz,wpAny_comprehension_free->xk,codeAny_compStart_list->xl,eval_ListComp->xn,wpAny_updateSeq_pair->xq,wpAny_newTuple->xu,wpAny_isInstance->xv,wpAny_collect_seq->yi,pushCells_keeps->yl,wpAny_dictEntries->yp,Within->zm,wpAny_loadName_local->zp,wpAny_loadName_cell->zq,wpAny_isTrue_Compare1->zu,wpAny_getItem_list_slice->f7,wpAny_Call_method_late->f9,wpAny_newFunctionEnv->j7,wpAny_pyIter_tuple->l9,wpAny_isOneOf_keyiter->x8,wpAny_notOrdered_dict->AA
open PySem.Around renaming under_plainId->AC
open PySem.AutoSeq1 renaming sub_tuple_tuple->a7
open PySem.Builtin renaming sorted->u5
open PySem.Builtin.Dict renaming showsAll->AB
open PySem.Builtin.Dict_items renaming ownsTuple->w8
open PySem.Builtin.Int renaming intBits->j6
open PySem.Builtin.List renaming listTooLong->sr
open PySem.Builtin.Slice renaming slicePlaces->sf,sliceAdjust->wk,sliceApplied->d5
open PySem.Builtin.SmallTypes renaming nextOf->ku,ownedTupleIsFree->ua,ownedTupleHandOut->l5
open PySem.Builtin.Tuple renaming tupleExact->sj,tupleHashOf->xw,tupleItemsOf->d6
open PySem.Calls renaming evalArgs_plain->wt,Name_function_global->zt,callWith_builtin->g7,call_function_entry->u4
open PySem.Challenge renaming pw_scissorhall_k46_edge_sums->qz,rw_scissorhall_k46_edge_sums->re
open PySem.F renaming slot_dict_keyiterator_next->qx,slot_list_append->ss,slot_tuple_iterator_next->tq,slot_zip_next->ud,plainAttrs_list->uj,type_list_append->yd,slot_tuple_add->a9,entry_tuple_add->c7,args_tuple_add_2->c9,entry_tuple_iterator_next->j8,args_tuple_iterator_next_1->j9,entry_zip_next->l6,args_zip_next_1->l7,slot_list_iadd->u8,entry_list_iadd->u9,slot_dict_get->v7,entry_dict_keyiterator_next->x9,args_dict_keyiterator_next_1->y8,slot_dict_iter->y9,plain_list_iadd->AD,slot_dict_setdefault->AF
open PySem.Heap renaming get?_push_of_some->ar,lt_size->ay,get?_push_size->da,SameBut->ix,size_push->ji,get?_update_ne->ow,ExtBut->qo,get?_update_self->sk,get?_update_other->d9
open PySem.Heap.IsSliceOf renaming new->d7
open PySem.Heap.SameBut renaming update->mx
open PySem.NameKind renaming cell->fu,free->gv
open PySem.Obj renaming mapSeq->dq,data_mapFields->tw,isFreed_of_fields->k4,cls_mapFields->k7,data_mapDictKeys->AE
open PySem.Paired renaming length->zl
open PySem.PassesOwn renaming never->yu,leaving->yw
open PySem.SeqAt renaming EqAt->jo,RcAt->oq
open PySem.SeqAt.EqAt renaming same->uf,int_int->vw,of_refs->xy
open PySem.SeqAt.RcAt renaming tuples->xx,none_none->o8,bool_bool->o9,int_int->q0,str_str->q9,lists->r0,lists_lengths->r6
open PySem.Str renaming ofString->io
open PySem.Value renaming none->bi,ref->cr,type->kl,int->oy,bool->oz,str->va
open PySem.W renaming Frag->ag,nsIn->dz,fnOf->fg,keepIn->ie,kia_one->ja,kas_sort->je,mg_none_of->jg,codeIn->ka,KasT->ki,kitOne->kq,excIn->my,OpenLaw->oh,kat_nil->ot,mg_of->ox,instObj->vb,methodObj->vd,hideAll->ve,hideAll_get->vf,lookIn->vn,findIn->vo,kitx_list->vp,kHook->zk,of_hideAll->zo,plainGet->zw,specialIn->zx,kitx_tuple->zy,kitx_dict->zz,cellsFrom_some->a0,kitCls->m9,kitMeta->n9,subIn->o0,kat_cons->t5,kat_yes->t6,kat_no->t7,KatGo->AG
open PySem.W.KatTups renaming cons->t9
open PySem.W.OpenLaw renaming row->zj,wellSaid->AW
open PySem.W.OpenRow renaming toRowW->zi
open Rat renaming intCast_mul->zd,add_assoc->zf,intCast_inj->AO
open Sum renaming inl->kz,inr->la
open True renaming intro->qd
abbrev AX:=List Int
abbrev AY:=List AX
abbrev AZ:=List AY
abbrev BA:=List PySem.Value
abbrev BB:=Option PySem.Value
abbrev BC:=Option PySem.Addr
abbrev BD:=Option Int
namespace L2
open PySem
def hJ(s:Stmt):Arguments:=match s with
 |.FunctionDef _ a _ _ _ _ _ _ _ _=>a
 |_=>{posonlyargs:=[],args:=[],vararg:=none,kwonlyargs:=[],kw_defaults:=[],kwarg:=none,defaults:=[]}
def eV(s:Stmt):List Stmt:=match s with
 |.FunctionDef _ _ b _ _ _ _ _ _ _=>b
 |_=>[]
def cU(s:Stmt):Scope:=match s with
 |.FunctionDef _ _ _ _ _ _ sc _ _ _=>sc
 |_=>{kind:=.function,names:=[],isGenerator:=false,isCoroutine:=false}
end L2
namespace Sc
noncomputable section
open PySem L2
def aY(i:Nat):Stmt:=qz.main.body.getD i (.Pass ⟨0,0,0,0⟩)
abbrev vs(s:String)(t:Nat):Value:=.str (io s) t
abbrev vi(i:Int):Value:=.int i 0
abbrev vr(a:Nat):Value:=.ref a
abbrev fo(n:String)(i:Nat)(dV dc pm cd ct:Value):Obj:=⟨.type "function",none,.func (fg (io n) (io n) (hJ (aY i)) (eV (aY i)) (cU (aY i)) dV .none dc pm none cd ct),#[]⟩
abbrev fc(l:BA):Obj:=⟨.type "code",none,.fields l.toArray,#[]⟩
abbrev Hu(n:String)(t l a r g:Nat)(x:BA):Obj:=fc (vs n t::vs n (t+1)::vs "/claim/cut.py" (t+2)::vi l::vi a::vi 0::vi 0::vi 3::vr r:: .bool true::vi g::vr (r+1):: .none::x)
abbrev eM(n:String)(t l a r g u:Nat):Obj:=Hu n t l a r g [vr (r+2),vr (r+3),vr (r+4),vi u,vi l,vs "/claim/cut.py" (u+1)]
abbrev gC(n:String)(t l a r g:Nat):Obj:=Hu n t l a r g [.none,.none,vr (r+2),vi (t+3),vi l,vs "/claim/cut.py" (t+4)]
abbrev fd(P:nj)(n:Nat)(l:List (String×Nat×Value)):Obj:=⟨.type "dict",none,.dict (l.map λe=>⟨PyData.keyHash P (io e.1),.str (io e.1) e.2.1,e.2.2⟩).toArray n,#[]⟩
abbrev vLq:Value:=vs "law_scissorhall_k46_edge_sums" 380
abbrev fzq (n:String)(i:Nat)(m:Value)(r:Nat):Obj:=fo n i .none .none m (vr r) .none
abbrev v0q:Value:=vs "scissorhall.lowest" 223
abbrev v1q:Value:=vs "scissorhall.sums" 330
noncomputable def KK(P:nj):ag:=
 (nat_lit 3,fd P 64 [("__name__",165,vs "law_scissorhall_k46_edge_sums" 380),("__doc__",166,.none),("__package__",167,.none),("__loader__",168,(.builtin "__main__.__loader__#opaque")),("__spec__",169,.none),("__annotations__",170,vr 6),("__builtins__",171,vr 4),("__file__",173,vs "/claim/cut.py" 172),("__cached__",174,.none),("HallError",206,vr 24),("NoNumber",222,vr 37),("sign",231,vr 46),("divisor",240,vr 53),("reduced",246,vr 58),("lowest_way",252,vr 63),("fraction",262,vr 71),("plus",270,vr 78),("total",276,vr 83),("whole_arrow",284,vr 88),("normal",293,vr 95),("FLAT_WALLS",302,vr 99),("SPACE_WALLS",315,vr 104),("walls",321,vr 109),("sides",329,vr 114),("along",337,vr 119),("side_share",345,vr 126),("wall_share",351,vr 131),("summed",357,vr 136),("all_walls",366,vr 143),("edge_sums",379,vr 150),("_law_row",394,vr 157),("_law_take",403,vr 164),("_law_gcd",411,vr 171),("_law_lowest",417,vr 176),("_law_upward",423,vr 181),("_law_whole",430,vr 188),("_law_frac",438,vr 195),("_law_sum",446,vr 202),("_law_joined",452,vr 207),("_law_gap",458,vr 212),("_law_cross",469,vr 219),("_law_dot",475,vr 224),("_law_turn",482,vr 231),("_law_det",488,vr 236),("_law_simplex",496,vr 243),("_law_shuts",507,vr 250),("_law_raw",513,vr 255),("_law_raw_turn",519,vr 260),("_law_kuhn",531,vr 267),("_law_raw_heap",543,vr 274),("_law_far",549,vr 279),("_law_stretch",560,vr 286),("_law_spot",566,vr 291),("_law_laid",572,vr 296),("_law_handed",580,vr 303),("_law_way_of",590,vr 310),("_law_put_sum",599,vr 317),("_law_told_sums",605,vr 322),("_law_put_side",619,vr 329),("_law_shut_share",631,vr 336),("_law_edge_table",643,vr 343),("_law_alike",649,vr 348),("_law_wide_far",657,vr 355),("law",667,vr 362)])::
 (nat_lit 23,fd P 3 [("__module__",196,vs "scissorhall.errors" 187),("__firstlineno__",200,(.int 2 199)),("__static_attributes__",201,vr 22),("__weakref__",203,vr 25),("__doc__",204,.none)])::
 (nat_lit 24,⟨(.type "type"),none,.cls {name:="HallError",bases:=[(.type "ValueError")],mro:=[vr 24,(.type "ValueError"),(.type "Exception"),(.type "BaseException"),(.type "object")],ns:=23,qualname:="HallError",hasDict:=true,subclasses:=[vr 37]},#[some (vr 15),none,some (vs "HallError" 189),some (vs "HallError" 197),some (.builtin "ValueError.__new__"),some (.bool true)]⟩)::
 (nat_lit 36,fd P 2 [("__module__",214,vs "scissorhall.errors" 187),("__firstlineno__",218,(.int 4 217)),("__static_attributes__",219,vr 35),("__doc__",220,.none)])::
 (nat_lit 37,⟨(.type "type"),none,.cls {name:="NoNumber",bases:=[vr 24],mro:=[vr 37,vr 24,(.type "ValueError"),(.type "Exception"),(.type "BaseException"),(.type "object")],ns:=36,qualname:="NoNumber",hasDict:=true,subclasses:=[]},#[some (vr 28),none,some (vs "NoNumber" 207),some (vs "NoNumber" 215),some (.builtin "ValueError.__new__"),some (.bool true)]⟩)::
 (nat_lit 45,eM "sign" 225 7 1 40 181 229)::
 (nat_lit 46,fzq "sign" 4 v0q 45)::
 (nat_lit 52,eM "divisor" 232 13 2 47 181 238)::
 (nat_lit 53,fzq "divisor" 5 v0q 52)::
 (nat_lit 57,gC "reduced" 241 19 1 54 181)::
 (nat_lit 58,fzq "reduced" 6 v0q 57)::
 (nat_lit 62,gC "lowest_way" 247 24 1 59 181)::
 (nat_lit 63,fzq "lowest_way" 7 v0q 62)::
 (nat_lit 64,⟨.type "tuple",none,.seq #[(.int 1 253)] 0,#[]⟩)::
 (nat_lit 70,eM "fraction" 254 27 2 65 181 260)::
 (nat_lit 71,fo "fraction" 8 (vr 64) .none v0q (vr 70) .none)::
 (nat_lit 77,eM "plus" 263 32 2 72 181 268)::
 (nat_lit 78,fzq "plus" 9 v0q 77)::
 (nat_lit 82,gC "total" 271 34 1 79 181)::
 (nat_lit 83,fzq "total" 10 v0q 82)::
 (nat_lit 87,gC "whole_arrow" 279 40 2 84 181)::
 (nat_lit 88,fzq "whole_arrow" 12 (vs "scissorhall.points" 277) 87)::
 (nat_lit 94,eM "normal" 285 42 1 89 181 291)::
 (nat_lit 95,fzq "normal" 13 (vs "scissorhall.points" 277) 94)::
 (nat_lit 96,⟨.type "tuple",none,.seq #[(.int 0 296),(.int 1 297)] 0,#[]⟩)::
 (nat_lit 97,⟨.type "tuple",none,.seq #[(.int 1 298),(.int 2 299)] 0,#[]⟩)::
 (nat_lit 98,⟨.type "tuple",none,.seq #[(.int 2 300),(.int 0 301)] 0,#[]⟩)::
 (nat_lit 99,⟨.type "tuple",none,.seq #[vr 96,vr 97,vr 98] 0,#[]⟩)::
 (nat_lit 100,⟨.type "tuple",none,.seq #[(.int 1 303),(.int 2 304),(.int 3 305)] 0,#[]⟩)::
 (nat_lit 101,⟨.type "tuple",none,.seq #[(.int 0 306),(.int 3 307),(.int 2 308)] 0,#[]⟩)::
 (nat_lit 102,⟨.type "tuple",none,.seq #[(.int 0 309),(.int 1 310),(.int 3 311)] 0,#[]⟩)::
 (nat_lit 103,⟨.type "tuple",none,.seq #[(.int 0 312),(.int 2 313),(.int 1 314)] 0,#[]⟩)::
 (nat_lit 104,⟨.type "tuple",none,.seq #[vr 100,vr 101,vr 102,vr 103] 0,#[]⟩)::
 (nat_lit 108,gC "walls" 316 51 1 105 181)::
 (nat_lit 109,fzq "walls" 17 (vs "scissorhall.simplexes" 294) 108)::
 (nat_lit 113,gC "sides" 324 55 1 110 181)::
 (nat_lit 114,fzq "sides" 19 (vs "scissorhall.heaps" 322) 113)::
 (nat_lit 118,gC "along" 332 60 2 115 181)::
 (nat_lit 119,fzq "along" 21 v1q 118)::
 (nat_lit 125,eM "side_share" 338 64 2 120 181 343)::
 (nat_lit 126,fzq "side_share" 22 v1q 125)::
 (nat_lit 130,gC "wall_share" 346 66 1 127 181)::
 (nat_lit 131,fzq "wall_share" 23 v1q 130)::
 (nat_lit 135,gC "summed" 352 70 1 132 181)::
 (nat_lit 136,fzq "summed" 24 v1q 135)::
 (nat_lit 142,eM "all_walls" 358 76 1 137 181 364)::
 (nat_lit 143,fzq "all_walls" 25 v1q 142)::
 (nat_lit 149,eM "edge_sums" 367 81 1 144 181 377)::
 (nat_lit 150,fzq "edge_sums" 26 v1q 149)::
 (nat_lit 156,eM "_law_row" 382 90 1 151 181 392)::
 (nat_lit 157,fzq "_law_row" 28 vLq 156)::
 (nat_lit 163,eM "_law_take" 395 104 2 158 181 401)::
 (nat_lit 164,fzq "_law_take" 29 vLq 163)::
 (nat_lit 170,eM "_law_gcd" 404 112 2 165 181 409)::
 (nat_lit 171,fzq "_law_gcd" 30 vLq 170)::
 (nat_lit 175,gC "_law_lowest" 412 118 1 172 181)::
 (nat_lit 176,fzq "_law_lowest" 31 vLq 175)::
 (nat_lit 180,gC "_law_upward" 418 125 1 177 181)::
 (nat_lit 181,fzq "_law_upward" 32 vLq 180)::
 (nat_lit 187,eM "_law_whole" 424 133 1 182 181 428)::
 (nat_lit 188,fzq "_law_whole" 33 vLq 187)::
 (nat_lit 194,eM "_law_frac" 431 135 2 189 181 436)::
 (nat_lit 195,fzq "_law_frac" 34 vLq 194)::
 (nat_lit 201,eM "_law_sum" 439 139 2 196 181 444)::
 (nat_lit 202,fzq "_law_sum" 35 vLq 201)::
 (nat_lit 206,gC "_law_joined" 447 141 3 203 181)::
 (nat_lit 207,fzq "_law_joined" 36 vLq 206)::
 (nat_lit 211,gC "_law_gap" 453 144 2 208 181)::
 (nat_lit 212,fzq "_law_gap" 37 vLq 211)::
 (nat_lit 218,eM "_law_cross" 459 146 2 213 181 467)::
 (nat_lit 219,fzq "_law_cross" 38 vLq 218)::
 (nat_lit 223,gC "_law_dot" 470 151 2 220 181)::
 (nat_lit 224,fzq "_law_dot" 39 vLq 223)::
 (nat_lit 230,eM "_law_turn" 476 153 1 225 181 480)::
 (nat_lit 231,fzq "_law_turn" 40 vLq 230)::
 (nat_lit 235,gC "_law_det" 483 157 1 232 181)::
 (nat_lit 236,fzq "_law_det" 41 vLq 235)::
 (nat_lit 242,eM "_law_simplex" 489 159 1 237 181 494)::
 (nat_lit 243,fzq "_law_simplex" 42 vLq 242)::
 (nat_lit 249,eM "_law_shuts" 497 164 1 244 181 505)::
 (nat_lit 250,fzq "_law_shuts" 43 vLq 249)::
 (nat_lit 254,gC "_law_raw" 508 167 3 251 181)::
 (nat_lit 255,fzq "_law_raw" 44 vLq 254)::
 (nat_lit 259,gC "_law_raw_turn" 514 174 1 256 181)::
 (nat_lit 260,fzq "_law_raw_turn" 45 vLq 259)::
 (nat_lit 266,eM "_law_kuhn" 520 176 1 261 181 529)::
 (nat_lit 267,fzq "_law_kuhn" 46 vLq 266)::
 (nat_lit 273,eM "_law_raw_heap" 532 188 3 268 181 541)::
 (nat_lit 274,fzq "_law_raw_heap" 47 vLq 273)::
 (nat_lit 278,gC "_law_far" 544 201 2 275 181)::
 (nat_lit 279,fzq "_law_far" 48 vLq 278)::
 (nat_lit 285,eM "_law_stretch" 550 207 2 280 181 558)::
 (nat_lit 286,fzq "_law_stretch" 49 vLq 285)::
 (nat_lit 290,gC "_law_spot" 561 213 2 287 181)::
 (nat_lit 291,fzq "_law_spot" 50 vLq 290)::
 (nat_lit 295,gC "_law_laid" 567 219 3 292 181)::
 (nat_lit 296,fzq "_law_laid" 51 vLq 295)::
 (nat_lit 302,eM "_law_handed" 573 225 2 297 181 578)::
 (nat_lit 303,fzq "_law_handed" 52 vLq 302)::
 (nat_lit 309,eM "_law_way_of" 581 229 1 304 181 588)::
 (nat_lit 310,fzq "_law_way_of" 53 vLq 309)::
 (nat_lit 316,eM "_law_put_sum" 591 235 3 311 181 597)::
 (nat_lit 317,fzq "_law_put_sum" 54 vLq 316)::
 (nat_lit 321,gC "_law_told_sums" 600 237 1 318 181)::
 (nat_lit 322,fzq "_law_told_sums" 55 vLq 321)::
 (nat_lit 328,eM "_law_put_side" 606 239 5 323 181 617)::
 (nat_lit 329,fzq "_law_put_side" 56 vLq 328)::
 (nat_lit 335,eM "_law_shut_share" 620 245 1 330 181 629)::
 (nat_lit 336,fzq "_law_shut_share" 57 vLq 335)::
 (nat_lit 342,eM "_law_edge_table" 632 249 1 337 181 641)::
 (nat_lit 343,fzq "_law_edge_table" 58 vLq 342)::
 (nat_lit 347,gC "_law_alike" 644 257 2 344 181)::
 (nat_lit 348,fzq "_law_alike" 59 vLq 347)::
 (nat_lit 354,eM "_law_wide_far" 650 263 2 349 181 655)::
 (nat_lit 355,fzq "_law_wide_far" 60 vLq 354)::
 (nat_lit 361,eM "law" 658 267 1 356 181 665)::
 (nat_lit 362,fzq "law" 61 vLq 361)::[]
def KA:List Nat:=[3,23,24,36,37,45,46,52,53,57,58,62,63,64,70,71,77,78,82,83,87,88,94,95,96,97,98,99,100,101,102,103,104,108,109,113,114,118,119,125,126,130,131,135,136,142,143,149,150,156,157,163,164,170,171,175,176,180,181,187,188,194,195,201,202,206,207,211,212,218,219,223,224,230,231,235,236,242,243,249,250,254,255,259,260,266,267,273,274,278,279,285,286,290,291,295,296,302,303,309,310,316,317,321,322,328,329,335,336,342,343,347,348,354,355,361,362]
def VW:Program:={qz with main:={qz.main with body:=[aY 1,aY 2,aY 4,aY 5,aY 6,aY 7,aY 9,aY 10,aY 12,aY 13,aY 15,aY 16,aY 17,aY 19,aY 21,aY 22,aY 23,aY 24,aY 25,aY 26,aY 28,aY 29,aY 30,aY 31,aY 32,aY 33,aY 34,aY 35,aY 36,aY 37,aY 38,aY 39,aY 40,aY 41,aY 42,aY 43,aY 44,aY 45,aY 46,aY 47,aY 48,aY 49,aY 50,aY 51,aY 52,aY 53,aY 54,aY 55,aY 56,aY 57,aY 58,aY 59,aY 60,aY 61]}}
theorem KE:∀P,KA=(KK P).map (·.1):=λ_=>by kernel_rfl
theorem wsaid:AW re=true:=by kernel_rfl
theorem left:PySem.W.LeftO qz VW [io "fraction"] (λs=>PySem.W.xlAt VW [] s&&PySem.W.recOk (PySem.W.RowW.records (zi (zj re))) s) (PySem.W.Hook.obs (zk KK KA KE)) (PySem.W.Hook.val (zk KK KA KE)) 4138:=by
 intro w
 kernel_rfl
end
end Sc
set_option maxHeartbeats 200000
set_option Elab.async false
set_option compiler.extract_closed false
set_option bootstrap.genMatcherCode false
set_option linter.all false
set_option maxRecDepth 100000
namespace L2
open PySem PySem.Spec PyProof.Rows
abbrev gZ:=Sum Int Str
def Hs:gZ->Value->Bool
 |.inl k,v=>Value.isInt k v
 |.inr x,v=>Value.isStrOf x v
def adj(w:am):gZ->Int
 |.inl k=>hashInt k
 |.inr x=>hashStr w x
theorem lW:∀{k:gZ}{v:Value},Hs k v=true->(∃i t,k=kz i/\v=oy i t)\/(∃x t,k=la x/\v=va x t)
 |.inl i,v,h=>by
  obtain⟨t,e⟩:=Value.isInt_shape (k:=i) (v:=v) h;exact .inl ⟨i,t,rfl,e⟩
 |.inr x,v,h=>by
  obtain⟨t,e⟩:=Value.isStrOf_shape (x:=x) (v:=v) h;exact .inr ⟨x,t,rfl,e⟩
theorem aaU(a b:Int):decide ((kz a:gZ)=kz b)=(a==b):=by
 by_cases e:a=b
 .subst e;simp
 .have h:¬(kz a:gZ)=kz b:=λq=>e (Sum.inl.inj q)
  rw[decide_eq_false h];exact(beq_eq_false_iff_ne.mpr e).symm
theorem abW(a b:Str):decide ((la a:gZ)=la b)=decide (a=b):=by
 by_cases e:a=b
 .subst e;simp
 .have h:¬(la a:gZ)=la b:=λq=>e (Sum.inr.inj q)
  rw[decide_eq_false h,decide_eq_false e]
theorem aa9(a:Int)(b:Str):decide ((kz a:gZ)=la b)=false:=decide_eq_false (λq=>nomatch q)
theorem aa5(a:Str)(b:Int):decide ((la a:gZ)=kz b)=false:=decide_eq_false (λq=>nomatch q)
def Oc(prog:Program)(w:am):PySem.KeyKind prog w gZ where
 is:=Hs
 hash:=adj w
 inj:=λv a b ha hb=>by
  rcases lW ha with⟨i,t,rfl,rfl⟩|⟨x,t,rfl,rfl⟩
  .rcases lW hb with⟨j,u,rfl,e⟩|⟨y,u,rfl,e⟩
   .injection e with e1 _;rw[e1]
   .exact nomatch e
  .rcases lW hb with⟨j,u,rfl,e⟩|⟨y,u,rfl,e⟩
   .exact nomatch e
   .injection e with e1 _;rw[e1]
 byValue:=λk v h=>by
  rcases lW h with⟨i,t,rfl,rfl⟩|⟨x,t,rfl,rfl⟩<;>rfl
 pyHash:=λhv h=>by
  rcases lW hv with⟨i,t,rfl,rfl⟩|⟨x,t,rfl,rfl⟩
  .exact wpAny_pyHash_int h
  .exact wpAny_pyHash_str h
 eqBool:=λhu hv h=>by
  rcases lW hu with⟨i,t,rfl,rfl⟩|⟨x,t,rfl,rfl⟩
  .rcases lW hv with⟨j,u,rfl,rfl⟩|⟨y,u,rfl,rfl⟩
   .rw[aaU]at h;exact wpAny_eqBool_int h
   .rw[aa9]at h;exact SeqAt.EqAt.int_str i t y u _ _ _ _ h
  .rcases lW hv with⟨j,u,rfl,rfl⟩|⟨y,u,rfl,rfl⟩
   .rw[aa5]at h;exact SeqAt.EqAt.str_int x t j u _ _ _ _ h
   .rw[abW]at h;exact wpAny_eqBool_str h
 «strs»:=λk x t v h=>by
  rcases lW h with⟨i,u,rfl,e⟩|⟨y,u,rfl,e⟩
  .exact nomatch e
  .injection e with e1 _
   subst e1;cases v<;>rfl
inductive V where
 |non |bl (b:Bool) |int (i:Int) |str (x:Str) |byt (b:Array UInt8) |flt (b:UInt64) |ref (a:Addr) |ty (n:String)
 deriving DecidableEq
def bQ:V->Value->Prop
 |.non,u=>u=bi
 |.bl b,u=>u=oz b
 |.int i,u=>∃t,u=oy i t
 |.str x,u=>∃t,u=va x t
 |.byt b,u=>∃t,u=Value.bytes b t
 |.flt b,u=>∃t,u=Value.float b t
 |.ref a,u=>u=cr a
 |.ty n,u=>u=kl n
abbrev bA:List V->BA->Prop:=dn bQ
theorem bA.length{xs:List V}{us:BA}(r:bA xs us):xs.length=us.length:=zl r
theorem bA.get:∀{xs:List V}{us:BA}{i:Nat}{x:V},bA xs us->xs[i]?=some x->∃u,us[i]?=some u/\bQ x u
 |_,_,_,_,.nil,e=>by simp at e
 |_,_,0,_,.cons r _,e=>by simp at e;subst e;exact⟨_,rfl,r⟩
 |_,_,i+1,x,.cons _ t,e=>by
  obtain⟨u,h1,h2⟩:=bA.get (i:=i) (x:=x) t (by simpa using e);exact⟨u,by simpa using h1,h2⟩
theorem bA.set{x:V}{u:Value}(r:bQ x u):∀{xs:List V}{us:BA}(i:Nat),bA xs us->bA (xs.set i x) (us.set i u)
 |_,_,_,.nil=>.nil
 |_,_,0,.cons _ t=>.cons r t
 |_,_,i+1,.cons q t=>.cons q (bA.set r i t)
theorem bA.append:∀{xs ys:List V}{us ws:BA},bA xs us->bA ys ws->bA (xs++ys) (us++ws)
 |_,_,_,_,.nil,s=>s
 |_,_,_,_,.cons r t,s=>.cons r (bA.append t s)
theorem bA.take:∀{xs:List V}{us:BA}(n:Nat),bA xs us->bA (xs.take n) (us.take n)
 |_,_,0,_=>.nil
 |_,_,_+1,.nil=>.nil
 |_,_,n+1,.cons r t=>.cons r (bA.take n t)
theorem bA.drop:∀{xs:List V}{us:BA}(n:Nat),bA xs us->bA (xs.drop n) (us.drop n)
 |_,_,0,r=>r
 |_,_,_+1,.nil=>.nil
 |_,_,n+1,.cons _ t=>bA.drop n t
def Af:Option V->BB->Prop
 |some v,some u=>bQ v u
 |none,none=>True
 |_,_=>False
def KV{κ:Type}:List (κ×V)->List (κ×Value)->Prop:=dn λ(p:κ×V) (q:κ×Value)=>p.1=q.1/\bQ p.2 q.2
def kV:gZ->V
 |.inl i=>.int i
 |.inr x=>.str x
inductive HO where
 /--a list -/
 |lst (xs:List V)
 /--a tuple (never changes) -/
 |tup (xs:List V)
 /--a dict whose keys are ints and texts;one whose keys are tuples of ints and texts (the empty one is both) -/
 |dK (kvs:List (gZ×V)) |dT (kvs:List (List gZ×V))
 /--a set of ints:its members,its size -/
 |set (S:Int->Bool) (n:Nat)
 /--an instance of the class at C,its dict at dx,its attributes -/
 |ins (C dx:Addr) (fs:List (Str×V))
 /--the dict of the instance at x -/
 |own (x:Addr)
 /--the dict of an exception -/
 |xd (fs:List (Str×V))
 /--a bound method,f of x -/
 |met (f x:Addr)
 /--a range object lo,lo+1,.. below hi -/
 |rng (lo hi:Int)
 /--a thing that is known to the object (the script;a dict while a loop walks it):read,never written while it is so -/
 |frz (o:Obj) (u:HO)
 /--a code object's table -/
 |tbl (ps:Array Value)
 /--any other thing,by what is true of its one object (a def of one's own:SetO a S n:=HO.ext λh=>..) -/
 |ext (φ:Heap->Prop)
abbrev Hp:=Addr->Option HO
def aL(H:Hp)(a:Addr)(o:HO):Hp:=λb=>if b=a then some o else H b
theorem dW{H:Hp}{a:Addr}{o:HO}:aL H a o a=some o:=by unfold aL;rw[if_pos rfl]
theorem bK{H:Hp}{a b:Addr}{o:HO}(h:b≠a):aL H a o b=H b:=by unfold aL;rw[if_neg h]
theorem gF{H:Hp}{a b:Addr}{o:HO}(h:H a=some o)(h':H b=none):a≠b:=by
 intro e;subst e;rw[h]at h';cases h'
section
variable(P:Program)(w:am)
def fS(H:Hp)(h:Heap)(a:Addr):HO->Prop
 |.lst xs=>xs.length<=sizeLine/\∃(its:BA)(n:Nat),bA xs its/\h.get? a=some {cls:=.type "list",data:=.seq its.toArray n}
 |.tup xs=>xs.length<=sizeLine/\∃its:BA,bA xs its/\lc h a its.toArray
 |.dK kvs=>kvs.length<=sizeLine/\(a==sysModules)=false/\∃vs,KV kvs vs/\h.DictOf (Oc P w) a vs
 |.dT kvs=>kvs.length<=sizeLine/\(a==sysModules)=false/\∃xs:List (List gZ×Addr×Value),
   dn (λ(p:List gZ×V) (q:List gZ×Addr×Value)=>p.1=q.1/\H q.2.1=some (.tup (p.1.map kV))/\bQ p.2 q.2.2) kvs xs/\
   ∃o es ep,h.get? a=some o/\o.ExactDict/\o.data=.dict es ep/\es.toList=xs.map (entryOfKey (tupleKind (Oc P w)))/\(xs.map (·.1)).Nodup
 |.set S n=>h.SetOf (intKind P w) a S n
 |.ins C dx fs=>H dx=some (.own a)/\fs.length<=1000/\dx≠a/\h.get? a=some (vb C dx)/\
   ∃mA,h.Ns1 dx mA/\(∀f,Af (fs.lookup f) (mA f))/\zm mA (fs.map (·.1))
 |.own _=>∃o,h.get? a=some o
 |.xd fs=>∃mA,h.Ns1 a mA/\∀f,Af (fs.lookup f) (mA f)
 |.rng lo hi=>∃t u v,h.get? a=some {cls:=.type "range",data:=.fields #[.int lo t,.int hi u,.int 1 v]}
 |.frz o u=>h.get? a=some o/\fS H h a u
 |.tbl ps=>h.get? a=some {cls:=.none,data:=.fields ps}
 |.met f x=>h.get? a=some (vd (.ref f) (.ref x))
 |.ext φ=>φ h/\(∃o,h.get? a=some o)/\∀h1 h2:Heap,φ h1->(∀o,h1.get? a=some o->h2.get? a=some o)->φ h2
def fJ(H:Hp)(h:Heap):Prop:=∀a o,H a=some o->fS P w H h a o
end
section
variable{P:Program}{w:am}{H H':Hp}{h h':Heap}{a:Addr}{o:HO}
theorem fS.lt(x:fS P w H h a o):a<h.objs.size:=by
 cases o with
 |lst xs=>obtain⟨_,_,_,_,e⟩:=x;exact ay e
 |tup xs=>obtain⟨_,_,_,p⟩:=x;exact p.lt
 |dK kvs=>obtain⟨_,_,_,_,o,_,_,e,_⟩:=x;exact ay e
 |dT kvs=>obtain⟨_,_,_,_,o,_,_,e,_⟩:=x;exact ay e
 |set S n=>obtain⟨o,_,_,_,e,_⟩:=x;exact ay e
 |ins C dx fs=>obtain⟨_,_,_,e,_⟩:=x;exact ay e
 |own y=>obtain⟨_,e⟩:=x;exact ay e
 |xd fs=>obtain⟨_,⟨_,_,_,e,_⟩,_⟩:=x;exact ay e
 |rng lo hi=>obtain⟨_,_,_,e⟩:=x;exact ay e
 |frz ob u=>obtain⟨e,_⟩:=x;exact ay e
 |tbl ps=>exact ay (show h.get? a=some _ from x)
 |met f y=>exact ay (show h.get? a=some _ from x)
 |ext φ=>obtain⟨_,⟨_,e⟩,_⟩:=x;exact ay e
theorem Paired.mapP{α β:Type}{F G:α->β->Prop}:∀{l₁:List α}{l₂:List β},dn F l₁ l₂->(∀a b,F a b->G a b)->dn G l₁ l₂
 |_,_,.nil,_=>.nil
 |_,_,.cons r t,f=>.cons (f _ _ r) (Paired.mapP t f)
theorem fS.stay(x:fS P w H h a o)(k:∀b u,(b=a\/H b=some (.own a))->h.get? b=some u->h'.get? b=some u)
  (ho:∀b,H b=some (.own a)->H' b=some (.own a))(ht:∀b xs,H b=some (.tup xs)->H' b=some (.tup xs)):fS P w H' h' a o:=by
 induction o with
 |lst xs=>obtain⟨z,its,n,r,e⟩:=x;exact⟨z,its,n,r,k _ _ (.inl rfl) e⟩
 |tup xs=>obtain⟨z,its,r,ob,e,c⟩:=x;exact⟨z,its,r,ob,k _ _ (.inl rfl) e,c⟩
 |dK kvs=>obtain⟨z,y,vs,r,ob,es,ep,e,c⟩:=x;exact⟨z,y,vs,r,ob,es,ep,k _ _ (.inl rfl) e,c⟩
 |dT kvs=>
  obtain⟨z,y,xs,r,ob,es,ep,e,c⟩:=x;exact⟨z,y,xs,Paired.mapP r λp q z=>⟨z.1,ht _ _ z.2.1,z.2.2⟩,ob,es,ep,k _ _ (.inl rfl) e,c⟩
 |set S n=>obtain⟨ob,es,ep,t,e,c⟩:=x;exact⟨ob,es,ep,t,k _ _ (.inl rfl) e,c⟩
 |ins C dx fs=>
  obtain⟨d,z,ne,e,mA,⟨od,es,ep,e2,c⟩,r⟩:=x;exact⟨ho _ d,z,ne,k _ _ (.inl rfl) e,mA,⟨od,es,ep,k _ _ (.inr d) e2,c⟩,r⟩
 |own y=>obtain⟨ob,e⟩:=x;exact⟨ob,k _ _ (.inl rfl) e⟩
 |xd fs=>obtain⟨mA,⟨od,es,ep,e,c⟩,r⟩:=x;exact⟨mA,⟨od,es,ep,k _ _ (.inl rfl) e,c⟩,r⟩
 |rng lo hi=>obtain⟨t,u,v,e⟩:=x;exact⟨t,u,v,k _ _ (.inl rfl) e⟩
 |frz ob u ih=>obtain⟨e,q⟩:=x;exact⟨k _ _ (.inl rfl) e,ih q⟩
 |tbl ps=>
  have e:h.get? a=some {cls:=.none,data:=.fields ps}:=x;show h'.get? a=some {cls:=.none,data:=.fields ps};exact k a _ (.inl rfl) e
 |met f y=>
  have e:h.get? a=some (vd (.ref f) (.ref y)):=x;show h'.get? a=some (vd (.ref f) (.ref y));exact k a _ (.inl rfl) e
 |ext φ=>obtain⟨p,⟨o,e⟩,st⟩:=x;exact⟨st _ _ p λo q=>k _ _ (.inl rfl) q,⟨o,k _ _ (.inl rfl) e⟩,st⟩
theorem fJ.lt(x:fJ P w H h)(e:H a=some o):a<h.objs.size:=(x a o e).lt
theorem fJ.fresh(x:fJ P w H h)(e:h.objs.size<=a):H a=none:=by
 cases q:H a with
 |none=>rfl
 |some u=>exact absurd (di (x.lt q) e) (ir _)
theorem fJ.kept(x:fJ P w H h)(k:∀b u,h.get? b=some u->h'.get? b=some u):fJ P w H h':=λa o e=>
 (x a o e).stay (λb u _ q=>k b u q) (λ_ q=>q) λ_ _ q=>q
theorem fJ.laid(x:fJ P w H h)(k:∀b u,h.get? b=some u->h'.get? b=some u)(hp:h.objs.size<=a)(new:fS P w (aL H a o) h' a o):fJ P w (aL H a o) h':=λb u e=>by
 have hn:=x.fresh hp
 by_cases hb:b=a
 .subst hb;rw[dW]at e;cases e;exact new
 .rw[bK hb]at e
  exact(x b u e).stay (λc v _ q=>k c v q) (λc q=>by rw[bK (gF q hn)];exact q) λc xs q=>by rw[bK (gF q hn)];exact q
end
def Rd(H:Hp)(a:Addr)(u:HO):Prop:=H a=some u\/∃o,H a=some (.frz o u)
theorem Rd.ok{P:Program}{w:am}{H:Hp}{h:Heap}{a:Addr}{u:HO}(r:Rd H a u)(x:fJ P w H h):fS P w H h a u:=by
 rcases r with r |⟨o,r⟩
 .exact x a u r
 .obtain⟨_,q⟩:=x a _ r
  exact q
def yI:Option HO->Prop
 |some (.lst _)=>True
 |some (.dK _)=>True
 |some (.dT _)=>True
 |some (.set _ _)=>True
 |some (.ins _ _ _)=>True
 |some (.ext _)=>True
 |_=>False
section
variable{P:Program}{w:am}{H:Hp}{h h':Heap}{x e:Addr}{o':HO}
theorem fJ.write(ok:fJ P w H h)(mu:yI (H x))(he:e=x\/H e=some (.own x))(k:∀b u,b≠e->h.get? b=some u->h'.get? b=some u)(heo:∃u,h'.get? e=some u)
  (new:fS P w (aL H x o') h' x o'):fJ P w (aL H x o') h':=λb u q=>by
 have nown:∀c y,H c=some (.own y)->c≠x:=λc y r z=>by subst z;rw[r]at mu;exact mu
 have ntup:∀c xs,H c=some (.tup xs)->c≠x:=λc xs r z=>by subst z;rw[r]at mu;exact mu
 by_cases hb:b=x
 .subst hb;rw[dW]at q;cases q;exact new
 .rw[bK hb]at q
  by_cases hbe:b=e
  .have q':H b=some (.own x):=by
    rcases he with z |z
    .exact absurd (hbe.trans z) hb
    .rw[hbe];exact z
   rw[q]at q';cases q';obtain⟨v,hv⟩:=heo;exact⟨v,by rw[hbe];exact hv⟩
  .refine(ok b u q).stay (λc v hc r=>k c v ?_ r) (λc r=>by rw[bK (nown c b r)];exact r) λc xs r=>by rw[bK (ntup c xs r)];exact r
   rcases hc with rfl |hc
   .exact hbe
   .rintro rfl
    rcases he with z |z
    .exact nown c b hc z
    .rw[hc]at z;cases z;exact hb rfl
end
structure Un(fs ex:List Addr)(H H':Hp)(h h':Heap):Prop where
 keep:∀b o,h.get? b=some o->H b=none->b∉fs->b∉ex->h'.get? b=some o
 slot:∀b o,h.get? b=some o->H b=none->b∈fs->b∉ex->∃sl,h'.get? b=some {o with slots:=sl}
 free:∀b o,h.get? b=some o->H b=none->b∉ex->H' b=none
 there:∀b o,h.get? b=some o->b∉ex->∃o',h'.get? b=some o'
 tups:∀b xs,H b=some (.tup xs)->H' b=some (.tup xs)
 frzs:∀b o u,H b=some (.frz o u)->H' b=some (.frz o u)
 tbls:∀b ps,H b=some (.tbl ps)->∃more,H' b=some (.tbl (ps++more))
section
variable{fs fs' ex ex':List Addr}{H H1 H2:Hp}{h h1 h2 h':Heap}{a x e:Addr}{o:HO}
theorem Un.any(u:Un fs ex H H1 h h1){b:Addr}{ob:Obj}(q:h.get? b=some ob)(n:H b=none)(hx:b∉ex):∃sl,h1.get? b=some {ob with slots:=sl}:=by
 by_cases hb:b∈fs
 .exact u.slot b ob q n hb hx
 .exact⟨ob.slots,u.keep b ob q n hb hx⟩
theorem Un.trans(a:Un fs ex H H1 h h1)(b:Un fs ex H1 H2 h1 h2):Un fs ex H H2 h h2 where
 keep:=λc ob q n hc hx=>b.keep c ob (a.keep c ob q n hc hx) (a.free c ob q n hx) hc hx
 slot:=λc ob q n hc hx=>by
  obtain⟨sl,e1⟩:=a.slot c ob q n hc hx;obtain⟨sl',e2⟩:=b.slot c _ e1 (a.free c ob q n hx) hc hx;exact⟨sl',e2⟩
 free:=λc ob q n hx=>by
  obtain⟨o',e1⟩:=a.there c ob q hx;exact b.free c o' e1 (a.free c ob q n hx) hx
 there:=λc ob q hx=>by
  obtain⟨o',e1⟩:=a.there c ob q hx;exact b.there c o' e1 hx
 tups:=λc xs q=>b.tups c xs (a.tups c xs q)
 frzs:=λc ob xs q=>b.frzs c ob xs (a.frzs c ob xs q)
 tbls:=λc ps q=>by
  obtain⟨m1,e1⟩:=a.tbls c ps q;obtain⟨m2,e2⟩:=b.tbls c _ e1;exact⟨m1++m2,by rw[e2,zn]⟩
theorem Un.kept(k:∀b u,h.get? b=some u->h'.get? b=some u):Un fs ex H H h h':=
 ⟨λb ob q _ _ _=>k b ob q,λb ob q _ _ _=>⟨ob.slots,k b ob q⟩,λ_ _ _ n _=>n,λb ob q _=>⟨ob,k b ob q⟩,λ_ _ q=>q,λ_ _ _ q=>q,λ_ ps q=>⟨#[],by rw[q];simp⟩⟩
theorem Un.refl:Un fs ex H H h h:=Un.kept λ_ _ q=>q
theorem Un.laid(k:∀b u,h.get? b=some u->h'.get? b=some u)(hp:h.objs.size<=a)(hn:H a=none):Un fs ex H (aL H a o) h h' where
 keep:=λb u q _ _ _=>k b u q
 slot:=λb u q _ _ _=>⟨u.slots,k b u q⟩
 free:=λb u q n _=>by rw[bK (cx (di (ay q) hp))];exact n
 there:=λb u q _=>⟨u,k b u q⟩
 tups:=λb xs q=>by rw[bK (gF q hn)];exact q
 frzs:=λb u xs q=>by rw[bK (gF q hn)];exact q
 tbls:=λb ps q=>⟨#[],by rw[bK (gF q hn),q];simp⟩
theorem Un.write(mu:yI (H x))(he:e=x\/H e=some (.own x))(k:∀b u,b≠e->h.get? b=some u->h'.get? b=some u)(heo:∃u,h'.get? e=some u):Un fs ex H (aL H x o) h h':=by
 have hx:∀b,H b=none->b≠x:=λb n z=>by subst z;rw[n]at mu;exact mu
 have hb:∀b,H b=none->b≠e:=λb n z=>by
  subst z;rcases he with r |r
  .exact hx b n r
  .rw[n]at r;cases r
 have hm:∀b u,H b=some u->¬yI (some u)->b≠x:=λb u q nm z=>by subst z;rw[q]at mu;exact nm mu
 refine⟨λb u q n _ _=>k b u (hb b n) q,λb u q n _ _=>⟨u.slots,k b u (hb b n) q⟩,λb u q n _=>by rw[bK (hx b n)];exact n,λb u q _=>?_,
  λb xs q=>by rw[bK (hm b _ q λz=>z)];exact q,λb u xs q=>by rw[bK (hm b _ q λz=>z)];exact q,λb ps q=>⟨#[],by rw[bK (hm b _ q λz=>z),q];simp⟩⟩
 by_cases hbe:b=e
 .subst hbe;exact heo
 .exact⟨u,k b u hbe q⟩
end
def yR(h:Heap)(H:Hp):List Addr:=(bj h.objs.size).filter λa=>(H a).isSome
def mO(h:Heap)(H:Hp):Heap:=ve h (yR h H)
theorem Yy(h:Heap)(H:Hp):(mO h H).objs.size=h.objs.size:=PySem.W.hideAll_size _ _
theorem O4{h:Heap}{H:Hp}{b:Addr}{o:Obj}(e:h.get? b=some o)(n:H b=none):(mO h H).get? b=some o:=
 vf _ e λhm=>by
  have q:(H b).isSome=true:=(nr.mp hm).2;rw[n]at q;simp at q
theorem aai{h:Heap}{H:Hp}{b:Addr}{o:Obj}(e:(mO h H).get? b=some o):h.get? b=some o/\H b=none:=by
 have e':h.get? b=some o:=zo (yR h H) e;refine⟨e',?_⟩;cases q:H b with
 |none=>rfl
 |some x=>
  have hm:b∈yR h H:=nr.mpr ⟨vg.mpr (ay e'),by simp[q]⟩;have z:(mO h H).get? b=none:=PySem.W.hideAll_none (yR h H) hm;rw[z]at e;cases e
def Y7(g h:Heap)(L:Addr):List (Addr×Obj):=(bj h.objs.size).filterMap λa=>if a=L\/(g.get? a).isSome=true then none else(h.get? a).map λo=>(a,o)
def fF(g h:Heap)(L d:Addr):List (Addr×Obj):=(Y7 g h L).filter λp=>decide (p.1≠d)
structure Mod(K:ag)(mg:Str->BB)(base:Heap):Prop where
 kin:K.In base
 glob:base.Ns mainGlobals mg
 blt:∃mb,base.Ns builtinsNs mb/\∀x:Str,x≠"__name__"->mb x=bootBuiltins x
 nolimit:base.NoLimit
structure Cx where
 prog:Program
 w:am
 K:ag
 mg:Str->BB
 base:Heap
 A:aq
 N:List Str
 BJ:aa
 BK:Hp
 env:bo
 outer:List bo
 stack:List bo
 ex:List Addr
 fn:Str->Bool
 calm:Bool
 pn:List (Addr×Obj)
 xe:Value->aa->Prop
def eQ(l:List bo):List Addr:=l.filterMap (·.frame)
abbrev Cx.fs(X:Cx):List Addr:=eQ X.outer
def kT(sc:Scope)(x:Str):Prop:=sc.names.lookup x=some .local\/sc.names.lookup x=some .cell\/sc.names.lookup x=some .free
def kS(sc:Scope)(x:Str):Prop:=sc.names.lookup x=some .local\/sc.names.lookup x=some .cell
def adl(env:bo)(h:Heap)(m:Str->BB)(x:Str)(u:Value):Prop:=
 (env.kindOf x=some .local/\m x=some u)\/((env.kindOf x=some .cell\/env.kindOf x=some .free)/\∃c,env.cells.lookup x=some c/\h.IsCell c (some u))
structure Cx.Ok(X:Cx):Prop where
 mod:Mod X.K X.mg X.base
 kind:X.env.scope.kind=.function
 glob:X.env.globals=mainGlobals
 blt:X.env.builtins=builtinsNs
 above:X.BJ.heap.objs.size<=X.env.locals
 inj:∀x y c,X.env.cells.lookup x=some c->X.env.cells.lookup y=some c->x=y
 has:∀x,(X.env.kindOf x=some .cell\/X.env.kindOf x=some .free)->∃c,X.env.cells.lookup x=some c
 cab:∀x c,X.fn x=true->X.env.cells.lookup x=some c->X.BJ.heap.objs.size<=c
 hd:X.calm=true->X.A.handled=none
 frames:X.A.frames=some X.stack
 stk:X.stack=X.outer\/(X.stack=X.env::X.outer/\X.env.frame=some X.env.locals)
 exf:∀b∈X.ex,b≠X.env.locals/\∀x c,X.env.cells.lookup x=some c->c≠b
 bs:∀b o,X.base.get? b=some o->X.BJ.heap.get? b=some o/\X.BK b=none
 bsz:X.base.objs.size<=X.BJ.heap.objs.size
 noex:∀b o,X.base.get? b=some o->b∉X.ex
 exfs:∀b∈X.ex,b∉X.fs
 funs:X.BJ.heap.FunFrames X.base X.outer
 frf:∀b∈X.fs,X.BK b=none
structure aF(X:Cx)(BI:List (Addr×Obj))(σ:List (Option V))(H:Hp)(s:aa):Prop where
 ok:X.Ok
 os:s.os=X.BJ.os
 bare:jq s.gens
 base:Un X.fs X.ex X.BK H X.BJ.heap s.heap
 loc:∃m,s.heap.Ns X.env.locals m/\∀(i:Nat)(x:Str)(v:V),X.N[i]?=some x->σ[i]?=some (some v)->kT X.env.scope x->∃u,bQ v u/\adl X.env s.heap m x u
 cell:∀x c,X.env.cells.lookup x=some c->∃v,s.heap.IsCell c v
 free:H X.env.locals=none
 freeC:∀x c,X.env.cells.lookup x=some c->H c=none
 pin:∀p∈X.pn++BI,s.heap.get? p.1=some p.2/\H p.1=none/\p.1≠X.env.locals/\p.1∉X.fs/\∀v,p.2.data≠.cell v
 hok:fJ X.prog X.w H s.heap
 len:σ.length=X.N.length
section
variable{X:Cx}{BI:List (Addr×Obj)}{σ:List (Option V)}{H H':Hp}{s:aa}{h':Heap}
theorem Cx.Ok.nofr(ok:X.Ok){b:Addr}{o:Obj}(e:X.base.get? b=some o):b∉X.fs:=λhb=>by
 have:=(ok.funs.mem hb).1;rw[e]at this;cases this
theorem aF.bs(I:aF X BI σ H s):∀b o,X.base.get? b=some o->s.heap.get? b=some o/\H b=none:=λb o e=>
 ⟨I.base.keep b o (I.ok.bs b o e).1 (I.ok.bs b o e).2 (I.ok.nofr e) (I.ok.noex b o e),I.base.free b o (I.ok.bs b o e).1 (I.ok.bs b o e).2 (I.ok.noex b o e)⟩
theorem aF.bk(I:aF X BI σ H s):∀b o,X.base.get? b=some o->s.heap.get? b=some o:=λb o e=>(I.bs b o e).1
theorem aF.mod(I:aF X BI σ H s):Mod X.K X.mg X.base:=I.ok.mod
theorem aF.kIn(I:aF X BI σ H s):X.K.In s.heap:=I.ok.mod.kin.keeps I.bk
theorem aF.lt(I:aF X BI σ H s):X.env.locals<s.heap.objs.size:=let⟨_,hn,_⟩:=I.loc;hn.lt
theorem aF.sz(I:aF X BI σ H s):X.BJ.heap.objs.size<=s.heap.objs.size:=fm I.ok.above (pf I.lt)
theorem aF.nofs(I:aF X BI σ H s){a:Addr}(h:s.heap.objs.size<=a):a∉X.fs:=λhb=>by
 obtain⟨_,o,ho,_⟩:=I.ok.funs.mem hb;exact absurd (di (ay ho) (fm I.sz h)) (ir _)
theorem aF.cne(I:aF X BI σ H s):∀x c,X.env.cells.lookup x=some c->c≠X.env.locals:=λx c e z=>by
 obtain⟨v,o,ho,hd⟩:=I.cell x c e;obtain⟨m,⟨o',es,ep,ho',hd',_⟩,_⟩:=I.loc;rw[z,ho']at ho;cases ho;rw[hd']at hd;cases hd
theorem aF.funs(I:aF X BI σ H s):s.heap.FunFrames X.base X.outer:=by
 have all:∀(l:List bo),(∀b∈eQ l,b∈X.fs)->X.BJ.heap.FunFrames X.base l->s.heap.FunFrames X.base l:=by
  intro l
  induction l with
  |nil=>intro _ _;trivial
  |cons env r ih=>
   intro hs hl;obtain⟨hk,⟨L,o,hf,hn,ho,hd⟩,hr⟩:=hl;have hL:L∈X.fs:=hs L (by unfold eQ;rw[iu,hf];exact bf);obtain⟨sl,e⟩:=I.base.slot L o ho (I.ok.frf L hL) hL λz=>I.ok.exfs L z hL;exact⟨hk,⟨L,_,hf,hn,e,hd⟩,ih (λb hb=>hs b (by unfold eQ;rw[iu,hf];exact bn _ hb)) hr⟩
 exact all X.outer (λ_ hb=>hb) I.ok.funs
theorem aF.stack(I:aF X BI σ H s):s.heap.FunFrames X.base X.stack:=by
 rcases I.ok.stk with e |⟨e,hf⟩
 .rw[e];exact I.funs
 .rw[e]
  obtain⟨m,hn,_⟩:=I.loc;refine .cons (by rw[I.ok.kind];decide) hf hn ?_ I.funs;exact Heap.get?_none_of_le (fm I.ok.bsz I.ok.above)
theorem aF.stkSub(I:aF X BI σ H s):∀b∈eQ X.stack,b∈X.env.locals::X.fs:=λb hb=>by
 rcases I.ok.stk with e |⟨e,hf⟩
 .rw[e]at hb;exact bn _ hb
 .rw[e]at hb
  unfold eQ at hb;rw[iu,hf]at hb;exact hb
theorem aF.stkFree(I:aF X BI σ H s):∀b∈eQ X.stack,H b=none:=λb hb=>by
 rcases cj.mp (I.stkSub b hb)with e |hb
 .rw[e];exact I.free
 .obtain⟨_,o,ho,_⟩:=I.ok.funs.mem hb
  exact I.base.free b o ho (I.ok.frf b hb) λz=>I.ok.exfs b z hb
theorem aF.step{g':Array GenState}{t':Nat}{d':Drawn}{ch:List Addr}(I:aF X BI σ H s)
  (hch:∀b∈ch,(b∈X.ex\/X.BJ.heap.objs.size<=b)/\b≠X.env.locals/\(∀x c,X.env.cells.lookup x=some c->c≠b)/\∀p∈X.pn++BI,p.1≠b)
  (keep:∀b o,b≠X.env.locals->b∉X.fs->b∉ch->s.heap.get? b=some o->H b=none->h'.get? b=some o)
  (slot:∀b o,b≠X.env.locals->b∈X.fs->b∉ch->s.heap.get? b=some o->H b=none->∃sl,h'.get? b=some {o with slots:=sl})(free:∀b o,b∉ch->s.heap.get? b=some o->H b=none->H' b=none)
  (there:∀b o,b∉ch->s.heap.get? b=some o->∃o',h'.get? b=some o')
  (tups:∀b xs,H b=some (.tup xs)->H' b=some (.tup xs))(frzs:∀b o u,H b=some (.frz o u)->H' b=some (.frz o u))(tbls:∀b ps,H b=some (.tbl ps)->∃more,H' b=some (.tbl (ps++more)))
  (ns:∀m,s.heap.Ns X.env.locals m->h'.Ns X.env.locals m)(hok:fJ X.prog X.w H' h')(hg:jq g'):
  aF X BI σ H' {s with heap:=h',gens:=g',drawn:=d',toks:=t'}:=by
 have neL:∀b o,X.BJ.heap.get? b=some o->b≠X.env.locals:=λb o e=>cx (di (ay e) I.ok.above);have neC:∀b o,X.BJ.heap.get? b=some o->b∉X.ex->b∉ch:=λb o e hx hb=>by
  rcases(hch b hb).1 with z |z
  .exact hx z
  .exact absurd (di (ay e) z) (ir _)
 have cellK:∀x c,X.env.cells.lookup x=some c->∀v,s.heap.IsCell c v->h'.IsCell c v:=λx c e v ⟨o,ho,hd⟩=>by
  have nch:c∉ch:=λz=>(hch c z).2.2.1 x c e rfl
  by_cases hc:c∈X.fs
  .obtain⟨sl,q⟩:=slot c o (I.cne x c e) hc nch ho (I.freeC x c e)
   exact⟨_,q,hd⟩
  .exact⟨o,keep c o (I.cne x c e) hc nch ho (I.freeC x c e),hd⟩
 refine⟨I.ok,I.os,hg,⟨λb o e n hb hx=>?_,λb o e n hb hx=>?_,λb o e n hx=>?_,λb o e hx=>?_,λb xs e=>tups b xs (I.base.tups b xs e),λb o xs e=>frzs b o xs (I.base.frzs b o xs e),λb ps e=>?_⟩,?_,λx c e=>?_,?_,λx c e=>?_,λp hp=>?_,hok,I.len⟩
 .exact keep b o (neL b o e) hb (neC b o e hx) (I.base.keep b o e n hb hx) (I.base.free b o e n hx)
 .obtain⟨sl,e1⟩:=I.base.slot b o e n hb hx
  obtain⟨sl',e2⟩:=slot b _ (neL b o e) hb (neC b o e hx) e1 (I.base.free b o e n hx);exact⟨sl',e2⟩
 .obtain⟨o',e1⟩:=I.base.there b o e hx
  exact free b o' (neC b o e hx) e1 (I.base.free b o e n hx)
 .obtain⟨o',e1⟩:=I.base.there b o e hx
  exact there b o' (neC b o e hx) e1
 .obtain⟨m1,e1⟩:=I.base.tbls b ps e
  obtain⟨m2,e2⟩:=tbls b _ e1;exact⟨m1++m2,by rw[e2,zn]⟩
 .obtain⟨m,hn,hl⟩:=I.loc
  refine⟨m,ns m hn,λi x v e1 e2 e3=>?_⟩;obtain⟨u,r,l⟩:=hl i x v e1 e2 e3;refine⟨u,r,?_⟩;rcases l with l |⟨k,c,e,z⟩
  .exact .inl l
  .exact .inr ⟨k,c,e,cellK x c e _ z⟩
 .obtain⟨v,z⟩:=I.cell x c e
  exact⟨v,cellK x c e v z⟩
 .obtain⟨m,⟨o,_,_,ho,_⟩,_⟩:=I.loc
  exact free _ o (λz=>(hch _ z).2.1 rfl) ho I.free
 .obtain⟨v,o,ho,hd⟩:=I.cell x c e
  exact free c o (λz=>(hch c z).2.2.1 x c e rfl) ho (I.freeC x c e)
 .obtain⟨e,n,ne,nf,d⟩:=I.pin p hp
  have nch:p.1∉ch:=λz=>(hch p.1 z).2.2.2 p hp rfl;exact⟨keep p.1 p.2 ne nf nch e n,free p.1 p.2 nch e n,ne,nf,d⟩
theorem aF.un{t':Nat}(I:aF X BI σ H s)(u:Un X.fs [] H H' s.heap h')(hok:fJ X.prog X.w H' h'):aF X BI σ H' {s with heap:=h',toks:=t'}:=by
 obtain⟨m,⟨o,es,ep,ho,r⟩,_⟩:=id I.loc;obtain⟨sl,hL⟩:=u.any ho I.free (by simp);exact I.step (g':=s.gens) (d':=s.drawn) (ch:=[]) (λ_ z=>nomatch z) (λb o _ hb _ e n=>u.keep b o e n hb (by simp)) (λb o _ hb _ e n=>u.slot b o e n hb (by simp)) (λb o _ e n=>u.free b o e n (by simp)) (λb o _ e=>u.there b o e (by simp)) u.tups u.frzs u.tbls (λm' hm=>by
  obtain⟨o',es',ep',ho',r'⟩:=hm;rw[ho]at ho';cases ho';exact⟨_,es',ep',hL,r'⟩) hok I.bare
theorem aF.call{g':Array GenState}{t':Nat}{d':Drawn}{ch:List Addr}(I:aF X BI σ H s)(u:Un (eQ X.stack) ch H H' s.heap h')(hok:fJ X.prog X.w H' h')(hg:jq g')
  (hch:∀b∈ch,(b∈X.ex\/X.BJ.heap.objs.size<=b)/\b≠X.env.locals/\(∀x c,X.env.cells.lookup x=some c->c≠b)/\∀p∈X.pn++BI,p.1≠b):
  aF X BI σ H' {s with heap:=h',gens:=g',drawn:=d',toks:=t'}:=by
 obtain⟨m,⟨o,es,ep,ho,r⟩,_⟩:=id I.loc;obtain⟨sl,hL⟩:=u.any ho I.free λz=>(hch _ z).2.1 rfl;exact I.step (ch:=ch) hch (λb o hL hb hc e n=>u.keep b o e n (λz=>(cj.mp (I.stkSub b z)).elim hL hb) hc) (λb o _ _ hc e n=>u.any e n hc) (λb o hc e n=>u.free b o e n hc) (λb o hc e=>u.there b o e hc) u.tups u.frzs u.tbls (λm' hm=>by
  obtain⟨o',es',ep',ho',r'⟩:=hm;rw[ho]at ho';cases ho';exact⟨_,es',ep',hL,r'⟩) hok hg
theorem aF.turned{t':Nat}{it:Addr}(I:aF X BI σ H s)(k:∀b o,b≠it->s.heap.get? b=some o->h'.get? b=some o)(hn:H it=none)(hL:it≠X.env.locals)
  (h1:it∈X.ex\/X.BJ.heap.objs.size<=it)(h2:∀x c,X.env.cells.lookup x=some c->c≠it)(h3:∀p∈X.pn++BI,p.1≠it):aF X BI σ H {s with heap:=h',toks:=t'}:=by
 have nit:∀b u,H b=some u->b≠it:=λb u e z=>by rw[z,hn]at e;cases e
 refine I.step (g':=s.gens) (d':=s.drawn) (ch:=[it]) (λb hb=>?_) (λb o _ _ hc e _=>k b o (λz=>hc (by simp[z])) e) (λb o _ _ hc e _=>⟨o.slots,k b o (λz=>hc (by simp[z])) e⟩) (λ_ _ _ _ n=>n)
  (λb o hc e=>⟨o,k b o (λz=>hc (by simp[z])) e⟩) (λ_ _ e=>e) (λ_ _ _ e=>e) (λb ps e=>⟨#[],by rw[e];simp⟩) (λm hm=>?_) (λb u e=>?_) I.bare
 .have e:b=it:=by simpa using hb
  subst e;exact⟨h1,hL,h2,h3⟩
 .obtain⟨o,es,ep,ho,r⟩:=hm
  exact⟨o,es,ep,k _ o (iw hL) ho,r⟩
 .refine(I.hok b u e).stay (λc v hc q=>k c v ?_ q) (λ_ q=>q) λ_ _ q=>q
  rcases hc with z |z
  .rw[z];exact nit b u e
  .exact nit c _ z
theorem aF.tok(I:aF X BI σ H s)(t:Nat):aF X BI σ H {s with toks:=t}:=I.un (h':=s.heap) (t':=t) Un.refl I.hok
theorem aF.kept{t':Nat}(I:aF X BI σ H s)(k:∀b u,s.heap.get? b=some u->h'.get? b=some u):aF X BI σ H {s with heap:=h',toks:=t'}:=I.un (Un.kept k) (I.hok.kept k)
theorem aF.laid{a:Addr}{o:HO}{t':Nat}(I:aF X BI σ H s)(k:∀b u,s.heap.get? b=some u->h'.get? b=some u)(hp:s.heap.objs.size<=a)(new:fS X.prog X.w (aL H a o) h' a o):
  aF X BI σ (aL H a o) {s with heap:=h',toks:=t'}:=I.un (Un.laid k hp (I.hok.fresh hp)) (I.hok.laid k hp new)
theorem aF.write{x e:Addr}{o:HO}{t':Nat}(I:aF X BI σ H s)(mu:yI (H x))(he:e=x\/H e=some (.own x))(k:∀b u,b≠e->s.heap.get? b=some u->h'.get? b=some u)(heo:∃u,h'.get? e=some u)
  (new:fS X.prog X.w (aL H x o) h' x o):aF X BI σ (aL H x o) {s with heap:=h',toks:=t'}:=I.un (Un.write mu he k heo) (I.hok.write mu he k heo new)
theorem aF.pins_of{pins':List (Addr×Obj)}(I:aF X BI σ H s)(h:∀p∈pins',s.heap.get? p.1=some p.2/\H p.1=none/\p.1≠X.env.locals/\p.1∉X.fs/\∀v,p.2.data≠.cell v):aF X pins' σ H s:=
 ⟨I.ok,I.os,I.bare,I.base,I.loc,I.cell,I.free,I.freeC,λp hp=>(cq.mp hp).elim (λz=>I.pin p (ld _ z)) (h p),I.hok,I.len⟩
theorem Al{N:List Str}(hN:N.Nodup){i j:Nat}{x:Str}(a:N[i]?=some x)(b:N[j]?=some x):i=j:=by
 obtain⟨h1,e1⟩:=ce.mp a;obtain⟨h2,e2⟩:=ce.mp b;exact(List.getElem_inj hN).mp (e1.trans e2.symm)
theorem Ny{M:lg}{A:aq}{E:Value->aa->Prop}{i:Nat}{x:Str}{v:V}{u:Value}{Q:Unit->aa->Prop}(I:aF X BI σ H s)(hN:X.N.Nodup)(hi:X.N[i]?=some x)(hx:kS X.env.scope x)(r:bQ v u)
  (h:∀s',aF X BI (σ.set i (some v)) H s'->(∃a,ix a s.heap s'.heap/\(a=X.env.locals\/X.env.cells.lookup x=some a))->Q () s')(hf:X.fn x=true\/X.env.scope.names.lookup x=some .local:=by first |exact .inl rfl |exact .inr rfl |assumption):wpAny M A (storeName X.env x u) Q E s:=by
 obtain⟨m,hn,hl⟩:=id I.loc;have hcls:(X.env.scope.kind== .class||(X.env.scope.kind== .module&&X.env.locals !=X.env.globals))=false:=by rw[I.ok.kind];rfl
 have hiσ:i<σ.length:=by rw[I.len];exact(ce.mp hi).1
 have cne:=I.cne;have tracked:∀{a:Addr}{h':Heap},(∃o,s.heap.get? a=some o/\H a=none)->ix a s.heap h'->fJ X.prog X.w H h':=λ{a h'} ha hs b ob e=>by
  obtain⟨_,_,hfree⟩:=ha;refine(I.hok b ob e).stay (λc w' hc q=>(hs.2 c ?_).trans q) (λ_ q=>q) λ_ _ q=>q
  rintro rfl
  rcases hc with rfl |hc
  .rw[hfree]at e;cases e
  .rw[hfree]at hc;cases hc
 rcases hx with hk |hk
 .refine wpAny_storeName_local hk hn (λh' hn' hs=>?_) hcls
  obtain⟨oL,_,_,hoL,_⟩:=id hn;refine h _ ⟨I.ok,I.os,I.bare,⟨λb o e n hb hx=>?_,λb o e n hb hx=>?_,I.base.free,λb o e hx=>?_,I.base.tups,I.base.frzs,I.base.tbls⟩,⟨_,hn',λj y v' e1 e2 e3=>?_⟩,λy c e=>?_,I.free,I.freeC,λp hp=>?_,tracked ⟨oL,hoL,I.free⟩ hs,by simpa using I.len⟩ ⟨_,hs,.inl rfl⟩
  .exact(hs.2 b (cx (di (ay e) I.ok.above))).trans (I.base.keep b o e n hb hx)
  .obtain⟨sl,e1⟩:=I.base.slot b o e n hb hx
   exact⟨sl,(hs.2 b (cx (di (ay e) I.ok.above))).trans e1⟩
  .obtain⟨o',e1⟩:=I.base.there b o e hx
   exact⟨o',(hs.2 b (cx (di (ay e) I.ok.above))).trans e1⟩
  .by_cases hj:j=i
   .subst hj
    rw[hi]at e1;cases e1;rw[ee hiσ]at e2;cases e2;exact⟨u,r,.inl ⟨hk,by simp⟩⟩
   .rw[fh (iw hj)]at e2
    obtain⟨u',r',q⟩:=hl j y v' e1 e2 e3;refine⟨u',r',?_⟩;rcases q with⟨k,e⟩|⟨k,c,e,z⟩
    .refine .inl ⟨k,?_⟩
     have:y≠x:=λe=>hj (Al hN e1 (e▸hi));simp[this,e]
    .exact .inr ⟨k,c,e,z.sameBut hs (cne y c e)⟩
  .obtain⟨w',z⟩:=I.cell y c e
   exact⟨w',z.sameBut hs (cne y c e)⟩
  .obtain⟨e,n,ne,nf,d⟩:=I.pin p hp
   exact⟨(hs.2 p.1 ne).trans e,n,ne,nf,d⟩
 .have hfn:X.fn x=true:=by
   rcases hf with z |z
   .exact z
   .rw[z]at hk;cases hk
  obtain⟨c,hc⟩:=I.ok.has x (.inl hk);obtain⟨w',z⟩:=I.cell x c hc;refine wpAny_storeName_cell I.ok.kind hk hc z (λh' hc' hs=>?_);obtain⟨oc,hoc,hocd⟩:=id z;refine h {s with heap:=h'} ⟨I.ok,I.os,I.bare,⟨λb o e n hb hx=>?_,λb o e n hb hx=>?_,I.base.free,λb o e hx=>?_,I.base.tups,I.base.frzs,I.base.tbls⟩,⟨m,hn.sameBut hs (iw (cne x c hc)),λj y v' e1 e2 e3=>?_⟩,λy c' e=>?_,I.free,I.freeC,λp hp=>?_,tracked ⟨oc,hoc,I.freeC x c hc⟩ hs,by simpa using I.len⟩ ⟨c,hs,.inr hc⟩
  .exact(hs.2 b (cx (di (ay e) (I.ok.cab x c hfn hc)))).trans (I.base.keep b o e n hb hx)
  .obtain⟨sl,e1⟩:=I.base.slot b o e n hb hx
   exact⟨sl,(hs.2 b (cx (di (ay e) (I.ok.cab x c hfn hc)))).trans e1⟩
  .obtain⟨o',e1⟩:=I.base.there b o e hx
   exact⟨o',(hs.2 b (cx (di (ay e) (I.ok.cab x c hfn hc)))).trans e1⟩
  .by_cases hj:j=i
   .subst hj
    rw[hi]at e1;cases e1;rw[ee hiσ]at e2;cases e2;exact⟨u,r,.inr ⟨.inl hk,c,hc,hc'⟩⟩
   .rw[fh (iw hj)]at e2
    obtain⟨u',r',q⟩:=hl j y v' e1 e2 e3;refine⟨u',r',?_⟩;rcases q with q |⟨k,c',e,z'⟩
    .exact .inl q
    .refine .inr ⟨k,c',e,z'.sameBut hs ?_⟩
     rintro rfl
     exact hj (Al hN e1 (I.ok.inj _ _ _ e hc▸hi))
  .by_cases hcc:c'=c
   .subst hcc;exact⟨_,hc'⟩
   .obtain⟨w2,z2⟩:=I.cell y c' e
    exact⟨w2,z2.sameBut hs hcc⟩
  .obtain⟨e,n,ne,nf,d⟩:=I.pin p hp
   refine⟨(hs.2 p.1 ?_).trans e,n,ne,nf,d⟩;intro q;rw[q,hoc]at e;have q':oc=p.2:=ci e;exact d w' (by rw[<-q'];exact hocd)
theorem qI{M:lg}{A:aq}{E:Value->aa->Prop}{i:Nat}{x:Str}{v:V}{u:Value}{Q:Unit->aa->Prop}(I:aF X BI σ H s)(hN:X.N.Nodup)(hi:X.N[i]?=some x)(hx:kS X.env.scope x)(r:bQ v u)
  (h:∀s',aF X BI (σ.set i (some v)) H s'->Q () s')(hf:X.fn x=true\/X.env.scope.names.lookup x=some .local:=by first |exact .inl rfl |exact .inr rfl |assumption):wpAny M A (storeName X.env x u) Q E s:=
 Ny I hN hi hx r (λs' I' _=>h s' I') hf
theorem aF.call'{s':aa}{ch:List Addr}(I:aF X BI σ H s)(ho:s'.os=s.os)(u:Un (eQ X.stack) ch H H' s.heap s'.heap)(hok:fJ X.prog X.w H' s'.heap)(hg:jq s'.gens)
  (hch:∀b∈ch,(b∈X.ex\/X.BJ.heap.objs.size<=b)/\b≠X.env.locals/\(∀x c,X.env.cells.lookup x=some c->c≠b)/\∀p∈X.pn++BI,p.1≠b):aF X BI σ H' s':=by
 obtain⟨h',g',d',t',o'⟩:=s';have e:o'=s.os:=ho;subst e;exact I.call (g':=g') (t':=t') (d':=d') u hok hg hch
end
abbrev XK:=Value->BC->Hp->Prop
abbrev St:=List (Option V)
abbrev VK:=V->Hp->Prop
abbrev TE:=St->Hp->VK->Prop
abbrev TT:=St->Hp->(Bool->Hp->Prop)->Prop
abbrev TA:=St->Hp->(List V->Hp->Prop)->Prop
structure mM where
 nx:St->Hp->Prop
 rt:VK
 bk:St->Hp->Prop:=λ_ _=>False
 ct:St->Hp->Prop:=λ_ _=>False
abbrev TS:=mM->St->Hp->Prop
def EP(X:Cx)(BI:List (Addr×Obj))(σ:St)(Q:VK)(u:Value)(s':aa):Prop:=∃v H',aF X BI σ H' s'/\bQ v u/\Q v H'
def TP(X:Cx)(BI:List (Addr×Obj))(σ:St)(Q:Bool->Hp->Prop)(b:Bool)(s':aa):Prop:=∃H',aF X BI σ H' s'/\Q b H'
def AP(X:Cx)(BI:List (Addr×Obj))(σ:St)(Q:List V->Hp->Prop)(us:BA)(s':aa):Prop:=∃vs H',aF X BI σ H' s'/\bA vs us/\Q vs H'
def SP(X:Cx)(BI:List (Addr×Obj))(D:mM)(f:Flow)(s':aa):Prop:=
 match f with
 |.next=>∃σ' H',aF X BI σ' H' s'/\D.nx σ' H'
 |.brk=>∃σ' H',aF X BI σ' H' s'/\D.bk σ' H'
 |.cont=>∃σ' H',aF X BI σ' H' s'/\D.ct σ' H'
 |.ret u=>∃v σ' H',aF X BI σ' H' s'/\bQ v u/\D.rt v H'
def PE(X:Cx)(e:ah)(t:TE):Prop:=
 ∀(BI:List (Addr×Obj))(s:aa)(σ:St)(H:Hp)(Q:VK),aF X BI σ H s->t σ H Q->wpAny (model X.prog X.w) X.A (eval e X.env) (EP X BI σ Q) X.xe s
def PT(X:Cx)(e:ah)(t:TT):Prop:=
 ∀(BI:List (Addr×Obj))(s:aa)(σ:St)(H:Hp)(Q:Bool->Hp->Prop),aF X BI σ H s->t σ H Q->wpAny (model X.prog X.w) X.A (isTrue e X.env (eval e X.env)) (TP X BI σ Q) X.xe s
def PW(X:Cx)(e:ah)(t:TT):Prop:=
 ∀(whole:Sem Value)(BI:List (Addr×Obj))(s:aa)(σ:St)(H:Hp)(Q:Bool->Hp->Prop),aF X BI σ H s->t σ H Q->wpAny (model X.prog X.w) X.A (isTrue e X.env whole) (TP X BI σ Q) X.xe s
theorem PW.pt{X:Cx}{e:ah}{t:TT}(h:PW X e t):PT X e t:=h _
def PA(X:Cx)(es:List ah)(t:TA):Prop:=
 ∀(pos:ai)(BI:List (Addr×Obj))(s:aa)(σ:St)(H:Hp)(Q:List V->Hp->Prop),aF X BI σ H s->t σ H Q->wpAny (model X.prog X.w) X.A (spliced (backTo pos (starEach es X.env))) (AP X BI σ Q) X.xe s
def PS(X:Cx)(st:Stmt)(t:TS):Prop:=
 ∀(BI:List (Addr×Obj))(s:aa)(σ:St)(H:Hp)(D:mM),aF X BI σ H s->t D σ H->wpAny (model X.prog X.w) X.A (exec st X.env) (SP X BI D) X.xe s
def gL(X:Cx)(st:List Stmt)(t:TS):Prop:=
 ∀(BI:List (Addr×Obj))(s:aa)(σ:St)(H:Hp)(D:mM),aF X BI σ H s->t D σ H->wpAny (model X.prog X.w) X.A (execs st X.env) (SP X BI D) X.xe s
theorem bD{α:Type}{t:Sem α}{Q Q':α->aa->Prop}{M:lg}{A:aq}{E:Value->aa->Prop}{s:aa}(h:wpAny M A t Q E s)(hQ:∀a s,Q a s->Q' a s):wpAny M A t Q' E s:=ft h hQ λ_ _ x=>x
section
variable{X:Cx}
theorem bin{a b:ah}{ta tb:TE}(ha:PE X a ta)(hb:PE X b tb){BI:List (Addr×Obj)}{s:aa}{σ:St}{H:Hp}{R:V->V->Hp->Prop}(I:aF X BI σ H s)(h:ta σ H λx H1=>tb σ H1 λy H2=>R x y H2)
  {α:Type}{Q:α->aa->Prop}{f:Value->Value->Sem α}
  (hf:∀v u s2 x y H2,aF X BI σ H2 s2->bQ x v->bQ y u->R x y H2->wpAny (model X.prog X.w) X.A (f v u) Q X.xe s2):
  wpAny (model X.prog X.w) X.A (eval a X.env) (λv BM=>wpAny (model X.prog X.w) X.A (eval b X.env) (λu BP=>wpAny (model X.prog X.w) X.A (f v u) Q X.xe BP) X.xe BM) X.xe s:=by
 refine bD (ha BI s σ H _ I h) ?_
 rintro v s1 ⟨x,H1,I1,r1,q1⟩
 refine bD (hb BI s1 σ H1 _ I1 q1) ?_
 rintro u s2 ⟨y,H2,I2,r2,q2⟩
 exact hf v u s2 x y H2 I2 r1 r2 q2
def Au(i:Nat):TE:=λσ H Q=>∃v,σ[i]?=some (some v)/\Q v H
def tC(v:V):TE:=λ_ H Q=>Q v H
theorem lK{i:Nat}{x:Str}{pos:ai}(hN:X.N[i]?=some x)(hv:kT X.env.scope x)(hd:(x==("__debug__":Str))=false:=by decide)(hcd:(x==("__classdict__":Str))=false:=by decide):PE X (.Name x pos) (Au i):=by
 intro BI s σ H Q I h;obtain⟨v,e,h⟩:=h;obtain⟨m,hn,hl⟩:=I.loc;obtain⟨u,r,l⟩:=hl i x v hN e hv;have fin:EP X BI σ Q u s:=⟨v,H,I,r,h⟩;rcases l with⟨hk,hm⟩|⟨hk,c,hc,hcell⟩
 .exact vh (zp I.ok.kind hk hn hm fin) hd
 .rcases hk with hk |hk
  .exact vh (zq I.ok.kind hk hc hcell fin) hd
  .exact vh (wpAny_loadName_free I.ok.kind hk hc hcell fin hcd) hd
theorem wM{i j pos}:PE X (.Constant (.int i) j pos) (tC (.int i)):=λ_ _ _ H _ I h=>wpAny_Constant_int ⟨.int i,H,I.tok _,⟨_,rfl⟩,h⟩
theorem acW{b j pos}:PE X (.Constant (.bool b) j pos) (tC (.bl b)):=λ_ _ _ H _ I h=>Constant_bool ⟨.bl b,H,I,rfl,h⟩
theorem aaQ{x j pos}:PE X (.Constant (.str x) j pos) (tC (.str x)):=λ_ _ _ H _ I h=>Calls.Constant_str ⟨.str x,H,I.tok _,⟨_,rfl⟩,h⟩
def Gl(X:Cx)(x:Str):Prop:=X.env.kindOf x=some .globalImplicit
theorem Wb{E:Value->aa->Prop}{BI:List (Addr×Obj)}{s:aa}{σ:St}{H:Hp}{x:Str}{u:Value}{pos:ai}{Q:Value->aa->Prop}(I:aF X BI σ H s)(hg:Gl X x)(hm:X.mg x=some u)(h:Q u s)
  (hd:(x==("__debug__":Str))=false:=by decide):wpAny (model X.prog X.w) X.A (eval (.Name x pos) X.env) Q E s:=
 zt I.ok.kind hg (Calls.loadGlobal_global (by rw[I.ok.glob];exact I.mod.glob.keeps I.bk) hm h) hd
theorem oV{E:Value->aa->Prop}{BI:List (Addr×Obj)}{s:aa}{σ:St}{H:Hp}{x:Str}{u:Value}{pos:ai}{Q:Value->aa->Prop}(I:aF X BI σ H s)(hg:Gl X x)(hm:X.mg x=none)(hv:bootBuiltins x=some u)(h:Q u s)
  (hn:x≠"__name__":=by decide)(hd:(x==("__debug__":Str))=false:=by decide):wpAny (model X.prog X.w) X.A (eval (.Name x pos) X.env) Q E s:=by
 obtain⟨mb,h1,h2⟩:=I.mod.blt;exact zt I.ok.kind hg (Calls.loadGlobal_builtin (by rw[I.ok.glob];exact I.mod.glob.keeps I.bk) hm (by rw[I.ok.blt];exact h1.keeps I.bk) ((h2 x hn).trans hv) h) hd
theorem aac{x:Str}{v:V}{u:Value}{pos:ai}(hg:Gl X x)(hm:X.mg x=some u)(r:bQ v u)(hd:(x==("__debug__":Str))=false:=by decide):PE X (.Name x pos) (tC v):=
 λ_ _ _ H _ I h=>Wb I hg hm ⟨v,H,I,r,h⟩ hd
theorem Ap{x:Str}{v:V}{u:Value}{pos:ai}(hg:Gl X x)(hm:X.mg x=none)(hv:bootBuiltins x=some u)(r:bQ v u)(hn:x≠"__name__":=by decide)(hd:(x==("__debug__":Str))=false:=by decide):PE X (.Name x pos) (tC v):=
 λ_ _ _ H _ I h=>oV I hg hm hv ⟨v,H,I,r,h⟩ hn hd
variable{a b:ah}{ta tb:TE}{pos:ai}
def PC(X:Cx)(op:km)(a b:ah)(t:TE):Prop:=
 ∀(BI:List (Addr×Obj))(s:aa)(σ:St)(H:Hp)(Q:VK),aF X BI σ H s->t σ H Q->
  wpAny (model X.prog X.w) X.A (eval a X.env) (λv BM=>wpAny (model X.prog X.w) X.A (eval b X.env) (λu BP=>wpAny (model X.prog X.w) X.A (compareOp op v u) (EP X BI σ Q) X.xe BP) X.xe BM) X.xe s
theorem E8(b:ah){op:km}(h:op≠.In)(h2:op≠.NotIn):behindInMarks op b=false:=by
 have e1:(op==CmpOp.In)=false:=by cases op<;>first |rfl |exact absurd rfl h
 have e2:(op==CmpOp.NotIn)=false:=by cases op<;>first |rfl |exact absurd rfl h2
 cases b<;>simp[behindInMarks,e1,e2]
def tB(t:TE):TT:=λσ H Q=>t σ H λx H1=>∃c,x=.bl c/\Q c H1
theorem adf{op:km}{t:TE}(h:PC X op a b t)(h1:behindInMarks op b=false:=by first |exact E8 _ (by decide) (by decide) |rfl):PT X (.Compare a [op] [b] pos) (tB t):=by
 intro BI s σ H Q I hw;refine zu (bD (h BI s σ H _ I hw) λv s1 h1=>bD h1 λu s2 h2=>bD h2 λc s3 hq=>?_) h1;rcases hq with⟨x,H1,I1,r1,q1⟩;obtain⟨d,rfl,q⟩:=q1;cases r1;exact lh ⟨H1,I1,q⟩
theorem abT{e:ah}{t:TE}(h:PE X e t)(he:∀whole,isTrue e X.env whole=(do let v <-whole;standAt e.pos;holding [v] (truthy v)):=by intro _;rfl):PT X e (tB t):=by
 intro BI s σ H Q I hw;refine isTrue_plain (bD (h BI s σ H _ I hw) λv s1 hq=>?_) (he _);rcases hq with⟨x,H1,I1,r1,q1⟩;obtain⟨d,rfl,q⟩:=q1;cases r1;exact lh ⟨H1,I1,q⟩
variable{tA tB':TT}{fF:List ah}
def adh(t u:TT):TT:=λσ H Q=>t σ H λc H1=>if c=true then u σ H1 Q else Q false H1
def tOr(t u:TT):TT:=λσ H Q=>t σ H λc H1=>if c=true then Q true H1 else u σ H1 Q
def adO(t:TT):TT:=λσ H Q=>t σ H λc H1=>Q (!c) H1
theorem Q4(ha:PT X a tA):PW X (.BoolOp .And [a] pos) tA:=by
 intro wh BI s σ H Q I h;refine isTrue_and (bD (ha BI s σ H Q I h) λc s1 e=>?_);cases c with
 |true=>exact isTrue_and_nil e
 |false=>exact e
theorem abu(ha:PT X a tA):PW X (.BoolOp .Or [a] pos) tA:=by
 intro wh BI s σ H Q I h;refine isTrue_or (bD (ha BI s σ H Q I h) λc s1 e=>?_);cases c with
 |false=>exact isTrue_or_nil e
 |true=>exact e
theorem abP(ha:PT X a tA)(hb:PW X (.BoolOp .And (b::fF) pos) tB'):PW X (.BoolOp .And (a::b::fF) pos) (adh tA tB'):=by
 intro wh BI s σ H Q I h;refine isTrue_and (bD (ha BI s σ H _ I h) λc s1 hq=>?_);rcases hq with⟨H1,I1,q1⟩;cases c with
 |true=>exact hb wh BI s1 σ H1 Q I1 q1
 |false=>exact⟨H1,I1,q1⟩
theorem acY(ha:PT X a tA)(hb:PW X (.BoolOp .Or (b::fF) pos) tB'):PW X (.BoolOp .Or (a::b::fF) pos) (tOr tA tB'):=by
 intro wh BI s σ H Q I h;refine isTrue_or (bD (ha BI s σ H _ I h) λc s1 hq=>?_);rcases hq with⟨H1,I1,q1⟩;cases c with
 |true=>exact⟨H1,I1,q1⟩
 |false=>exact hb wh BI s1 σ H1 Q I1 q1
theorem abR(ha:PT X a tA):PT X (.UnaryOp .Not a pos) (adO tA):=by
 intro BI s σ H Q I h;exact isTrue_not (ha BI s σ H (λc H1=>Q (!c) H1) I h)
def ac7(ta tb:TE):TE:=λσ H Q=>ta σ H λx H1=>∃c,x=.bl c/\if c=true then tb σ H1 Q else Q (.bl false) H1
def acL(ta:TE):TE:=λσ H Q=>ta σ H λx H1=>∃c,x=.bl c/\Q (.bl (!c)) H1
theorem abZ(ha:PE X a ta)(hb:PE X (.BoolOp .And (b::fF) pos) tb):PE X (.BoolOp .And (a::b::fF) pos) (ac7 ta tb):=by
 intro BI s σ H Q I h;refine BoolOp_and (bD (ha BI s σ H _ I h) λv s1 hq=>?_);rcases hq with⟨x,H1,I1,r1,q1⟩;obtain⟨c,rfl,q1⟩:=q1;cases r1;refine lh ?_;cases c with
 |true=>exact hb BI s1 σ H1 Q I1 q1
 |false=>exact⟨.bl false,H1,I1,rfl,q1⟩
theorem ab7(ha:PE X a ta):PE X (.UnaryOp .Not a pos) (acL ta):=by
 intro BI s σ H Q I h;refine UnaryOp_ (bD (ha BI s σ H _ I h) λv s1 hq=>?_);rcases hq with⟨x,H1,I1,r1,q1⟩;obtain⟨c,rfl,q1⟩:=q1;cases r1;exact not_of (lh ⟨.bl (!c),H1,I1,rfl,q1⟩)
def tIf(t:TT)(ta tb:TE):TE:=λσ H Q=>t σ H λc H1=>if c=true then ta σ H1 Q else tb σ H1 Q
theorem E7{c:ah}(hc:PT X c tA)(ha:PE X a ta)(hb:PE X b tb):PE X (.IfExp c a b pos) (tIf tA ta tb):=by
 intro BI s σ H Q I h;refine wpAny_IfExp (bD (hc BI s σ H _ I h) λd s1 hq=>?_);rcases hq with⟨H1,I1,q1⟩;cases d with
 |true=>exact ha BI s1 σ H1 Q I1 q1
 |false=>exact hb BI s1 σ H1 Q I1 q1
end
def bV(K:ag)(H:Hp)(a:Addr)(xs:List V):Prop:=
 Rd H a (.lst xs)\/
  ∃(o:Obj)(its:Array Value)(n:Nat),K.lookup a=some o/\o.cls=.type "list"/\o.dict=none/\o.data=.seq its n/\its.size<=sizeLine/\bA xs its.toList
def cT(K:ag)(H:Hp)(a:Addr)(xs:List V):Prop:=
 Rd H a (.tup xs)\/
  ∃(o:Obj)(its:Array Value)(n:Nat),K.lookup a=some o/\o.cls=.type "tuple"/\o.data=.seq its n/\its.size<=sizeLine/\bA xs its.toList
def adN:Value->Option V
 |.none=>some .non
 |.bool b=>some (.bl b)
 |.int i _=>some (.int i)
 |.str x _=>some (.str x)
 |.bytes b _=>some (.byt b)
 |.float b _=>some (.flt b)
 |.ref a=>some (.ref a)
 |.type n=>some (.ty n)
 |_=>none
theorem bQ.abs{x:V}{u:Value}(r:bQ x u):adN u=some x:=by
 cases x with
 |non=>cases r;rfl
 |bl _=>cases r;rfl
 |int _=>obtain⟨t,rfl⟩:=r;rfl
 |str _=>obtain⟨t,rfl⟩:=r;rfl
 |byt _=>obtain⟨t,rfl⟩:=r;rfl
 |flt _=>obtain⟨t,rfl⟩:=r;rfl
 |ref _=>cases r;rfl
 |ty _=>cases r;rfl
theorem bQ.inj{x y:V}{u:Value}(r:bQ x u)(q:bQ y u):x=y:=ci (r.abs.symm.trans q.abs)
theorem bA.inj:∀{xs ys:List V}{us:BA},bA xs us->bA ys us->xs=ys
 |_,_,_,.nil,.nil=>rfl
 |_,_,_,.cons r t,.cons r' t'=>by rw[r.inj r',bA.inj t t']
section
variable{X:Cx}{BI:List (Addr×Obj)}{σ:St}{H:Hp}{s:aa}{a:Addr}{xs ys:List V}
theorem bV.of{K:ag}(h:H a=some (.lst xs)):bV K H a xs:=.inl (.inl h)
theorem cT.of{K:ag}(h:H a=some (.tup xs)):cT K H a xs:=.inl (.inl h)
theorem aF.list(I:aF X BI σ H s)(h:bV X.K H a xs):∃its:BA,bA xs its/\PlainL s.heap a its.toArray/\xs.length<=sizeLine:=by
 rcases h with h |⟨o,its,n,hk,hc,hd,hs,hz,r⟩
 .obtain⟨z,its,n,r,e⟩:=h.ok I.hok
  exact⟨its,r,⟨_,n,e,rfl,rfl,rfl⟩,z⟩
 .refine⟨its.toList,r,⟨o,n,I.kIn a o hk,hc,hd,by simpa using hs⟩,?_⟩
  have e:=r.length;simp only[nu]at e;omega
theorem aF.tuple(I:aF X BI σ H s)(h:cT X.K H a xs):∃its:BA,bA xs its/\lc s.heap a its.toArray/\xs.length<=sizeLine:=by
 rcases h with h |⟨o,its,n,hk,hc,hs,hz,r⟩
 .obtain⟨z,its,r,p⟩:=h.ok I.hok
  exact⟨its,r,p,z⟩
 .refine⟨its.toList,r,⟨o,I.kIn a o hk,hc,n,by simpa using hs⟩,?_⟩
  have e:=r.length;simp only[nu]at e;omega
theorem aF.list_inj(I:aF X BI σ H s)(h:bV X.K H a xs)(h':bV X.K H a ys):xs=ys:=by
 obtain⟨its,r,⟨o,n,e,_,_,d⟩,_⟩:=I.list h;obtain⟨its',r',⟨o',n',e',_,_,d'⟩,_⟩:=I.list h';rw[e]at e';cases e';rw[d]at d';injection d' with d1 _;have:its=its':=by simpa using congrArg vj d1
 subst this;exact r.inj r'
theorem aF.tuple_inj(I:aF X BI σ H s)(h:cT X.K H a xs)(h':cT X.K H a ys):xs=ys:=by
 obtain⟨its,r,⟨o,e,_,n,d⟩,_⟩:=I.tuple h;obtain⟨its',r',⟨o',e',_,n',d'⟩,_⟩:=I.tuple h';rw[e]at e';cases e';rw[d]at d';injection d' with d1 _;have:its=its':=by simpa using congrArg vj d1
 subst this;exact r.inj r'
end
abbrev Cx.wish(X:Cx)(E:Value->aa->Prop):Cx:={X with xe:=E}
abbrev Cx.nox(X:Cx):Cx:=X.wish λ_ _=>False
theorem Cx.Ok.wish{X:Cx}(ok:X.Ok)(E:Value->aa->Prop):(X.wish E).Ok:=
 ⟨ok.mod,ok.kind,ok.glob,ok.blt,ok.above,ok.inj,ok.has,ok.cab,ok.hd,ok.frames,ok.stk,ok.exf,ok.bs,ok.bsz,ok.noex,ok.exfs,ok.funs,ok.frf⟩
theorem Cx.Ok.unwish{X:Cx}{E:Value->aa->Prop}(ok:(X.wish E).Ok):X.Ok:=
 ⟨ok.mod,ok.kind,ok.glob,ok.blt,ok.above,ok.inj,ok.has,ok.cab,ok.hd,ok.frames,ok.stk,ok.exf,ok.bs,ok.bsz,ok.noex,ok.exfs,ok.funs,ok.frf⟩
section
variable{X:Cx}{BI:List (Addr×Obj)}{σ:St}{H:Hp}{s:aa}{E:Value->aa->Prop}
theorem aF.wish(I:aF X BI σ H s)(E:Value->aa->Prop):aF (X.wish E) BI σ H s:=⟨I.ok.wish E,I.os,I.bare,I.base,I.loc,I.cell,I.free,I.freeC,I.pin,I.hok,I.len⟩
theorem aF.unwish(I:aF (X.wish E) BI σ H s):aF X BI σ H s:=⟨I.ok.unwish,I.os,I.bare,I.base,I.loc,I.cell,I.free,I.freeC,I.pin,I.hok,I.len⟩
theorem SP.unwish{D:mM}{f:Flow}{s':aa}(h:SP (X.wish E) BI D f s'):SP X BI D f s':=by
 cases f with
 |next=>obtain⟨σ',H',I,q⟩:=h;exact⟨σ',H',I.unwish,q⟩
 |brk=>obtain⟨σ',H',I,q⟩:=h;exact⟨σ',H',I.unwish,q⟩
 |cont=>obtain⟨σ',H',I,q⟩:=h;exact⟨σ',H',I.unwish,q⟩
 |ret u=>obtain⟨v,σ',H',I,r,q⟩:=h;exact⟨v,σ',H',I.unwish,r,q⟩
theorem gL.nox{st:List Stmt}{t:TS}(h:gL X.nox st t):gL X st t:=λBI s σ H D I hw=>
 ft (h BI s σ H D (I.wish _) hw) (λ_ _ q=>q.unwish) λ_ _ z=>jr z
end
section
variable{X:Cx}{st:Stmt}{fF:List Stmt}{t u:TS}{e:ah}{te:TE}{pos:ai}
def acK:TS:=λD σ H=>D.nx σ H
def adg(t u:TS):TS:=λD σ H=>t {D with nx:=u D} σ H
theorem V6:gL X [] acK:=λ_ _ σ H _ I h=>rf ⟨σ,H,I,h⟩
theorem K7(h1:PS X st t)(h2:gL X fF u):gL X (st::fF) (adg t u):=by
 intro BI s σ H D I h;refine wpAny_execs_cons (bD (h1 BI s σ H {D with nx:=u D} I h) λf s1 q=>?_);cases f with
 |next=>
  obtain⟨σ',H',I',q⟩:=q;exact h2 BI s1 σ' H' D I' q
 |ret v=>exact q
 |brk=>exact q
 |cont=>exact q
theorem Vn(h1:PS X st t):gL X [st] t:=by
 intro BI s σ H D I h;refine wpAny_execs_cons (bD (h1 BI s σ H D I h) λf s1 q=>?_);cases f with
 |next=>exact rf q
 |ret v=>exact q
 |brk=>exact q
 |cont=>exact q
theorem aF.quiet{BI:List (Addr×Obj)}{σ:St}{H:Hp}{s:aa}(I:aF X BI σ H s):interactive X.env=false:=by simp[interactive,I.ok.kind]
def acU(te:TE):TS:=λD σ H=>te σ H λ_ H1=>D.nx σ H1
theorem aap(he:PE X e te)(hs:swapsWith e none pos.line X.env=pure false:=by rfl):PS X (.Expr e pos) (acU te):=by
 intro BI s σ H D I h;exact wpAny_Expr_any (bD (he BI s σ H _ I h) λv s1 ⟨x,H1,I1,r1,q1⟩=>⟨σ,H1,I1,q1⟩) I.quiet hs
def adF(te:TE):TS:=λD σ H=>te σ H D.rt
theorem abE(he:PE X e te):PS X (.Return (some e) pos) (adF te):=by
 intro BI s σ H D I h;exact wpAny_Return_some (bD (he BI s σ H _ I h) λv s1 ⟨x,H1,I1,r1,q1⟩=>⟨x,σ,H1,I1,r1,q1⟩)
def adL(c:TT)(t u:TS):TS:=λD σ H=>c σ H λb H1=>if b=true then t D σ H1 else u D σ H1
theorem acP{c:ah}{a b:List Stmt}{tc:TT}(hc:PT X c tc)(ha:gL X a t)(hb:gL X b u):PS X (.If c a b pos) (adL tc t u):=by
 intro BI s σ H D I h;refine wpAny_If (bD (hc BI s σ H _ I h) λd s1 hq=>?_);rcases hq with⟨H1,I1,q1⟩;cases d with
 |true=>exact ha BI s1 σ H1 D I1 q1
 |false=>exact hb BI s1 σ H1 D I1 q1
end
abbrev TG:=V->St->Hp->(St->Hp->Prop)->Prop
abbrev mV:=List V->St->Hp->(St->Hp->Prop)->Prop
def PG(X:Cx)(target:ah)(t:TG):Prop:=
 ∀(BI:List (Addr×Obj))(s:aa)(σ:St)(H:Hp)(v:V)(u:Value)(Q:St->Hp->Prop),aF X BI σ H s->bQ v u->t v σ H Q->
  wpAny (model X.prog X.w) X.A (assign target X.env u) (λ_ s'=>∃σ' H',aF X BI σ' H' s'/\Q σ' H') X.xe s
def lV(X:Cx)(ts:List ah)(t:mV):Prop:=
 ∀(BI:List (Addr×Obj))(s:aa)(σ:St)(H:Hp)(vs:List V)(us:BA)(Q:St->Hp->Prop),aF X BI σ H s->bA vs us->t vs σ H Q->
  wpAny (model X.prog X.w) X.A (assignInOrder ((assignEach ts X.env).map (·.2)) us) (λ_ s'=>∃σ' H',aF X BI σ' H' s'/\Q σ' H') X.xe s
abbrev yG:=V->V->V->Hp->(Hp->Prop)->Prop
def Ef(X:Cx)(t:yG):Prop:=
 ∀(BI:List (Addr×Obj))(s:aa)(σ:St)(H:Hp)(o i v:V)(ov iv u:Value)(Q:Hp->Prop),aF X BI σ H s->bQ o ov->bQ i iv->bQ v u->t o i v H Q->
  wpAny (model X.prog X.w) X.A (setItem ov iv u) (λ_ s'=>∃H',aF X BI σ H' s'/\Q H') X.xe s
abbrev yS:=V->V->Hp->VK->Prop
def PIp(X:Cx)(op:rh)(t:yS):Prop:=
 ∀(BI:List (Addr×Obj))(s:aa)(σ:St)(H:Hp)(x y:V)(v u:Value)(Q:VK),aF X BI σ H s->bQ x v->bQ y u->t x y H Q->
  wpAny (model X.prog X.w) X.A (inplaceOp op v u) (EP X BI σ Q) X.xe s
section
variable{X:Cx}{pos:ai}
def Te(i:Nat):TG:=λv σ H Q=>Q (σ.set i (some v)) H
theorem Xn{i:Nat}{x:Str}(hN:X.N.Nodup)(hi:X.N[i]?=some x)(hx:kS X.env.scope x)(hf:X.fn x=true\/X.env.scope.names.lookup x=some .local:=by first |exact .inl rfl |exact .inr rfl |assumption):PG X (.Name x pos) (Te i):=by
 intro BI s σ H v u Q I r h;exact wpAny_assign_Name (qI I hN hi hx r (λs' I'=>⟨_,H,I',h⟩) hf)
def adk:mV:=λvs σ H Q=>vs=[]/\Q σ H
def acd(t:TG)(u:mV):mV:=λvs σ H Q=>∃v r,vs=v::r/\t v σ H λσ' H'=>u r σ' H' Q
theorem Z9:lV X [] adk:=by
 intro BI s σ H vs us Q I r h;obtain⟨e,h⟩:=h;subst e;cases r;exact assignInOrder_nil ⟨σ,H,I,h⟩
theorem G6{e:ah}{es:List ah}{t:TG}{u:mV}(h1:PG X e t)(h2:lV X es u)
  (hs:(assignEach (e::es) X.env).map (·.2)=assign e X.env::(assignEach es X.env).map (·.2):=by rfl):lV X (e::es) (acd t u):=by
 intro BI s σ H vs us Q I r h;obtain⟨v,vr,e1,h⟩:=h;subst e1;cases r with
 |cons r rr=>
  rw[hs];refine vk (bD (h1 BI s σ H _ _ _ I r h) λ_ s1 hq=>?_);rcases hq with⟨σ1,H1,I1,q1⟩;exact h2 BI s1 σ1 H1 _ _ Q I1 rr q1
def adA(K:ag)(n:Nat)(t:mV):TG:=λv σ H Q=>∃a xs,v=.ref a/\cT K H a xs/\xs.length=n/\t xs σ H Q
theorem ab9{es:List ah}{k:Nat}{t:mV}{n:Nat}(hc:X.calm=true)(h:lV X es t)
  (hn:(assignEach es X.env).length=n:=by rfl)(hst:(assignEach es X.env).findIdx? (·.1)=none:=by rfl):PG X (.Tuple es k pos) (adA X.K n t):=by
 intro BI s σ H v u Q I r hw;obtain⟨a,xs,e1,hq,hl,hw⟩:=hw;subst e1;cases r;obtain⟨its,rv,ht,hz⟩:=I.tuple hq;refine assign_Tuple_tuple (I.ok.hd hc) ht (by simp[hn,<-hl,rv.length]) hst λh' hx=>?_;have I1:aF X BI σ H {s with heap:=h'}:=I.kept (t':=s.toks) λb o e=>hx b o (cx (ay e)) e;exact h BI _ σ H xs _ Q I1 (by simpa using rv) hw
def adK(to ti:TE)(t:yG):TG:=λv σ H Q=>to σ H λo H1=>ti σ H1 λi H2=>t o i v H2 λH3=>Q σ H3
theorem Wc{o i:ah}{to ti:TE}{t:yG}(ho:PE X o to)(hi:PE X i ti)(hs:Ef X t)
  (ha:∀v,assign (.Subscript o i pos) X.env v=(do
   let ov <-holding [v] (eval o X.env)
   let iv <-holding [v,ov] (eval i X.env)
   standAt pos
   holding [v,ov,iv] (setItem ov iv v)
   release [v,ov,iv] []):=by intro _;rfl):PG X (.Subscript o i pos) (adK to ti t):=by
 intro BI s σ H v u Q I r h;rw[ha];refine ae (jm (bD (ho BI s σ H _ I h) λov s1 hq=>?_));rcases hq with⟨x,H1,I1,r1,q1⟩;refine ae (jm (bD (hi BI s1 σ H1 _ I1 q1) λiv s2 hq=>?_));rcases hq with⟨y,H2,I2,r2,q2⟩;refine ae (ph (ae (jm (bD (hs BI s2 σ H2 x y v ov iv u _ I2 r1 r2 r q2) λ_ s3 hq=>?_))));rcases hq with⟨H3,I3,q3⟩;exact wpAny_release ⟨σ,H3,I3,q3⟩
def Ff(te:TE)(g:TG):TS:=λD σ H=>te σ H λx H1=>g x σ H1 D.nx
theorem wL{tg e:ah}{te:TE}{g:TG}(he:PE X e te)(hg:PG X tg g)(hs:swapsWithSole [tg] e pos.line X.env=pure false:=by rfl)(hw:swappedStores [tg] e X.env=pure none:=by rfl)
  (h1:(assignEach [tg] X.env).map (·.2)=[assign tg X.env]:=by rfl):PS X (.Assign [tg] e pos) (Ff te g):=by
 intro BI s σ H D I h;refine wpAny_Assign_stores (bD (he BI s σ H _ I h) λv s1 hq=>?_) hs hw;rcases hq with⟨x,H1,I1,r1,q1⟩;rw[h1];exact bD (hg BI s1 σ H1 x v _ I1 r1 q1) λ_ s2 q=>q
theorem ab1{i:Nat}{x:Str}{e:ah}{te:TE}{pos':ai}(hN:X.N.Nodup)(hi:X.N[i]?=some x)(hx:kS X.env.scope x)(he:PE X e te)(hs:swapsWith e (some (.Name x pos')) pos.line X.env=pure false:=by rfl)(hf:X.fn x=true\/X.env.scope.names.lookup x=some .local:=by first |exact .inl rfl |exact .inr rfl |assumption):
  PS X (.Assign [.Name x pos'] e pos) (Ff te (Te i)):=by
 intro BI s σ H D I h;refine wpAny_Assign_Name (bD (he BI s σ H _ I h) λv s1 hq=>?_) hs;rcases hq with⟨y,H1,I1,r1,q1⟩;exact qI I1 hN hi hx r1 (λs2 I2=>⟨_,H1,I2,q1⟩) hf
def adq(i j:Nat)(ta:TA):TS:=λD σ H=>ta σ H λvs H1=>∃v w,vs=[v,w]/\D.nx ((σ.set i (some v)).set j (some w)) H1
theorem abI{i j:Nat}{x y:Str}{a b:ah}{ta:TA}{px py pt:ai}{kt k2 pt2}(hc:X.calm=true)(hN:X.N.Nodup)(hi:X.N[i]?=some x)(hj:X.N[j]?=some y)(hij:i≠j)
  (hx:X.env.scope.names.lookup x=some .local)(hy:X.env.scope.names.lookup y=some .local)(ha:PA X [a,b] ta)
  (hw:swappedStores [.Tuple [.Name x px,.Name y py] kt pt] (.Tuple [a,b] k2 pt2) X.env=pure (some [x,y]))
  (hs:swapsWithSole [.Tuple [.Name x px,.Name y py] kt pt] (.Tuple [a,b] k2 pt2) pos.line X.env=pure false:=by rfl):
  PS X (.Assign [.Tuple [.Name x px,.Name y py] kt pt] (.Tuple [a,b] k2 pt2) pos) (adq i j ta):=by
 intro BI s σ H D I h;rw[exec_Assign_arm];refine ae (ph ?_);rw[hs];refine ae (ak ?_);rw[if_neg (by decide)];refine ae (Tuple_ (bD (ha _ BI s σ H _ I h) λus s1 hq=>?_));rcases hq with⟨vs,H1,I1,r1,q1⟩;obtain⟨v,w,e1,q1⟩:=q1;subst e1;obtain⟨u1,u2,rfl,rv,rw'⟩:∃u1 u2,us=[u1,u2]/\bQ v u1/\bQ w u2:=by
  cases r1 with
  |cons p q=>
   cases q with
   |cons p' q'=>
    cases q';exact⟨_,_,rfl,p,p'⟩
 refine iy ?_ (by show 2<=sizeLine;decide);have I2:aF X BI σ H1 {s1 with heap:=s1.heap.push {cls:=.type "tuple",data:=.seq [u1,u2].toArray}}:=I1.kept (t':=s1.toks) λb o e=>ar _ e;rw[hw];refine ae (ak ?_);show wpAny (model X.prog X.w) X.A (do rule "assign.swapped-stores";let items <-unpackItems (.ref s1.heap.objs.size) 2 none;assignInOrder [λv=>bindName X.env y v,λv=>bindName X.env x v] items.reverse;pure Flow.next) _ _ _
 refine ae (kn (ae (unpackItems_tuple (items:=#[u1,u2]) (I.ok.hd hc) (rl s1.heap _) λh' hx'=>?_)));have I3:=I2.kept (h':=h') (t':=s1.toks) λb o e=>hx' b o (cx (ay e)) e;show wpAny _ _ (assignInOrder [λv=>bindName X.env y v,λv=>bindName X.env x v] [u2,u1] >>= λ_=>pure Flow.next) _ _ _
 refine ae (vk (wpAny_bindName (qI I3 hN hj (.inl hy) rw' (λs2 I4=>?_) (.inr hy))));refine vk (wpAny_bindName (qI I4 hN hi (.inl hx) rv (λs3 I5=>assignInOrder_nil (ak ?_)) (.inr hx)));rw[List.set_comm _ _ (iw hij)]at I5;exact⟨_,H1,I5,q1⟩
def adB(i:Nat)(te:TE)(ti:yS):TS:=λD σ H=>∃x,σ[i]?=some (some x)/\te σ H λy H1=>ti x y H1 λz H2=>D.nx (σ.set i (some z)) H2
theorem aaZ{i:Nat}{x:Str}{e:ah}{te:TE}{op:rh}{ti:yS}{pos':ai}(hN:X.N.Nodup)(hi:X.N[i]?=some x)(hx:kS X.env.scope x)(he:PE X e te)(ho:PIp X op ti)(hf:X.fn x=true\/X.env.scope.names.lookup x=some .local:=by first |exact .inl rfl |exact .inr rfl |assumption):
  PS X (.AugAssign (.Name x pos') op e pos) (adB i te ti):=by
 intro BI s σ H D I h;obtain⟨v,e1,h⟩:=h;obtain⟨m,hn,hl⟩:=I.loc;have vis:kT X.env.scope x:=by rcases hx with k |k;exact .inl k;exact .inr (.inl k)
 obtain⟨u,r,l⟩:=hl i x v hi e1 vis;refine wpAny_AugAssign_Name ?_;have go:wpAny (model X.prog X.w) X.A (eval e X.env) (λw BP=>wpAny (model X.prog X.w) X.A (inplaceOp op u w) (λr s₃=>wpAny (model X.prog X.w) X.A (storeName X.env x r) (λ_=>SP X BI D .next) X.xe s₃) X.xe BP) X.xe s:=by
  refine bD (he BI s σ H _ I h) ?_
  rintro w s1 ⟨y,H1,I1,r1,q1⟩
  refine bD (ho BI s1 σ H1 v y u w _ I1 r r1 q1) ?_
  rintro z s2 ⟨zv,H2,I2,r2,q2⟩
  exact qI I2 hN hi hx r2 (λs3 I3=>⟨_,H2,I3,q2⟩) hf
 rcases l with⟨hk,hm⟩|⟨hk,c,hc,hcell⟩
 .exact zp I.ok.kind hk hn hm go
 .rcases hk with hk |hk
  .exact zq I.ok.kind hk hc hcell go
  .rcases hx with k |k
   .have:X.env.scope.names.lookup x=some .free:=hk
    rw[k]at this;cases this
   .have:X.env.scope.names.lookup x=some .free:=hk
    rw[k]at this;cases this
end
section
variable{X:Cx}{pos:ai}
def abx(c:TT)(tb:TS):TS:=λD σ H=>∃W:Nat->St->Hp->Prop,(∃m,W m σ H)/\∀m σ H,W m σ H->
 c σ H λb H1=>if b=true then ∃N:St->Hp->Prop,(∀σ' H',N σ' H'->∃m',m'<m/\W m' σ' H')/\tb {D with nx:=N,ct:=N,bk:=D.nx} σ H1 else D.nx σ H1
theorem K4{c:ah}{body:List Stmt}{tc:TT}{tb:TS}(hp:pk (model X.prog X.w) X.A X.env X.xe)(hc:PT X c tc)(hb:gL X body tb):PS X (.While c body [] pos) (abx tc tb):=by
 intro BI s σ H D I h;obtain⟨W,⟨m0,w0⟩,turn⟩:=h;refine wpAny_While (codeAny_whileLoop (λn s'=>∃σ' H',aF X BI σ' H' s'/\W n σ' H') ?_ m0 ⟨σ,H,I,w0⟩)
 rintro n s1 ⟨σ1,H1,I1,w1⟩
 refine lq hp (bD (hc BI s1 σ1 H1 _ I1 (turn n σ1 H1 w1)) λb s2 hq=>?_);rcases hq with⟨H2,I2,q2⟩;cases b with
 |true=>
  obtain⟨N,hN,q2⟩:=q2;rw[if_pos rfl];refine lq hp (bD (hb BI s2 σ1 H2 _ I2 q2) λf s3 q3=>?_);cases f with
  |next=>
   obtain⟨σ3,H3,I3,n3⟩:=q3;obtain⟨m',hm,w3⟩:=hN σ3 H3 n3;exact⟨m',hm,σ3,H3,I3,w3⟩
  |cont=>
   obtain⟨σ3,H3,I3,n3⟩:=q3;obtain⟨m',hm,w3⟩:=hN σ3 H3 n3;exact⟨m',hm,σ3,H3,I3,w3⟩
  |brk=>exact q3
  |ret v=>exact q3
 |false=>
  rw[if_neg ij];exact rf ⟨σ1,H2,I2,q2⟩
end
structure It where
 go:Nat->Hp->Prop
 yld:Nat->Hp->V->Hp->Prop
 stop:Nat->Hp->Prop
def fO(X:Cx)(BI:List (Addr×Obj))(H:Hp)(b:Addr):Prop:=
 H b=none/\b≠X.env.locals/\b∉X.fs/\(b∈X.ex\/X.BJ.heap.objs.size<=b)/\(∀x c,X.env.cells.lookup x=some c->c≠b)/\∀p∈X.pn++BI,p.1≠b
theorem aF.fpOk{X:Cx}{BI:List (Addr×Obj)}{σ:St}{H H':Hp}{s:aa}{b:Addr}(I:aF X BI σ H s)(hb:s.heap.objs.size<=b)(hn:H' b=none):fO X BI H' b:=by
 refine⟨hn,ko (di I.lt hb),I.nofs hb,.inr (fm I.sz hb),λx c e z=>?_,λp hp z=>?_⟩
 .obtain⟨v,q⟩:=I.cell x c e
  exact absurd (di q.lt (by rw[z];exact hb)) (ir _)
 .exact absurd (di (ay (I.pin p hp).1) (by rw[z];exact hb)) (ir _)
structure rE(P:Program)(w:am)(K:ag)(tg:ah)(J:It)(fp:List Addr)(it:Addr)(tn:Nat->Heap->Prop):Prop where
 mem:it∈fp
 obj:∀i h,tn i h->∀b∈fp,∃o,h.get? b=some o/\∀v,o.data≠.cell v
 keep:∀i h h',tn i h->(∀b∈fp,∀o,h.get? b=some o->h'.get? b=some o)->tn i h'
 item:∀(X:Cx),X.prog=P->X.w=w->X.K=K->X.calm=true->∀(i:Nat)(BI:List (Addr×Obj))(s:aa)(σ:St)(H:Hp)(E:Value->aa->Prop),aF X BI σ H s->(∀b∈fp,fO X BI H b)->tn i s.heap->J.go i H->
  wpAny (model P w) X.A (pyNext (.ref it)) (λr s1=>∃u,r=some u/\
   wpAny (model P w) X.A (letOwnedTupleGo tg (.ref it) u) (λ_ s2=>∃x H',aF X BI σ H' s2/\bQ x u/\J.yld i H x H'/\tn (i+1) s2.heap/\∀b∈fp,H' b=none) E s1) E s
 done:∀(X:Cx),X.prog=P->X.w=w->X.K=K->X.calm=true->∀(i:Nat)(BI:List (Addr×Obj))(s:aa)(σ:St)(H:Hp)(E:Value->aa->Prop),aF X BI σ H s->(∀b∈fp,fO X BI H b)->tn i s.heap->J.stop i H->
  wpAny (model P w) X.A (pyNext (.ref it)) (λr s1=>r=none/\aF X BI σ H s1) E s
 self:∀(A:aq)(i:Nat)(s:aa)(Q:Value->aa->Prop)(E:Value->aa->Prop),tn i s.heap->Q (.ref it) s->wpAny (model P w) A (pyIter (.ref it)) Q E s
abbrev TI:=St->Hp->(It->Hp->Prop)->Prop
def Ku(X:Cx)(BI:List (Addr×Obj))(σ:St)(tg:ah)(R:It->Hp->Prop)(itv:Value)(s2:aa):Prop:=
 ∃(it:Addr)(fp:List Addr)(tn:Nat->Heap->Prop)(J:It)(H':Hp),itv=.ref it/\aF X BI σ H' s2/\rE X.prog X.w X.K tg J fp it tn/\tn 0 s2.heap/\(∀b∈fp,fO X BI H' b)/\R J H'
def PI(X:Cx)(tg iter:ah)(wi:TI):Prop:=
 ∀(BI:List (Addr×Obj))(s:aa)(σ:St)(H:Hp)(R:It->Hp->Prop),aF X BI σ H s->wi σ H R->
  wpAny (model X.prog X.w) X.A (eval iter X.env) (λv s1=>wpAny (model X.prog X.w) X.A (pyIter v) (Ku X BI σ tg R) X.xe s1) X.xe s
theorem He {M : lg} {A : aq} {E : Value → aa → Prop} {s : aa} {tg : ah} {it : Addr} {u : Value} {o : Obj} {n : String} {vs : Array Value} {Q : Unit → aa → Prop} (ho : s.heap.get? it = some o) (hc : o.cls = .type n) (hd : o.data = .fields vs)
    (hn : ["enumerate", "zip", "dict_itemiterator", "dict_reverseitemiterator", "odict_iterator", "itertools.zip_longest", "itertools.pairwise"].contains n = false) (hQ : Q () s) : wpAny M A (letOwnedTupleGo tg (.ref it) u) Q E s := by
  unfold letOwnedTupleGo;cases tg <;> first
    | exact ak hQ
    | (cases u <;> first
        | exact ak hQ
        | (refine ae (wpAny_load ho ?_)
           rw [hc, hd];show wpAny M A (if (["enumerate", "zip", "dict_itemiterator", "dict_reverseitemiterator", "odict_iterator", "itertools.zip_longest", "itertools.pairwise"].contains n && vs[0]? == some (rawInt _)) = true then _ else _) Q E s;rw [if_neg (by intro h; rw [hn, Bool.false_and] at h; cases h)];exact ak hQ))
def yO(K:ag)(a:Addr):It:=
 ⟨λi H=>∃xs x,bV K H a xs/\xs[i]?=some x,λi H x H'=>H'=H/\∀xs,bV K H a xs->xs[i]?=some x,λi H=>∃xs,bV K H a xs/\xs.length<=i⟩
def Sf(K:ag)(a:Addr):It:=
 ⟨λi H=>∃xs x,cT K H a xs/\xs[i]?=some x,λi H x H'=>H'=H/\∀xs,cT K H a xs->xs[i]?=some x,λi H=>∃xs,cT K H a xs/\xs.length<=i⟩
def uF(lo:Int)(n:Nat):It:=⟨λi _=>i<n,λi H x H'=>H'=H/\x=.int (lo+i),λi _=>n<=i⟩
theorem Oz{P:Program}{w:am}{K:ag}{tg:ah}(a it:Addr):rE P w K tg (yO K a) [it] it (λi h=>h.IsListIter it a i) where
 mem:=by simp
 obj:=λi h st b hb=>by
  have e:b=it:=by simpa using hb
  subst e;obtain⟨o,e,c,d⟩:=st;exact⟨o,e,λv z=>by rw[d]at z;cases z⟩
 keep:=λi h h' st k=>st.at λo e=>k it (by simp) o e
 item:=by
  intro X hP hw hK hc i BI s σ H E I hf st hg;subst hP hw hK;obtain⟨xs,x,hq,hx⟩:=hg;obtain⟨its,rv,p,hz⟩:=I.list hq;obtain⟨u,hu,ru⟩:=rv.get hx;obtain⟨f0,f1,f2,f3,f4,f5⟩:=hf it (by simp);refine wpAny_pyNext_list_item st p.isList (x:=u) (by simpa using hu) λh' st' sb=>?_;have I1:aF X BI σ H {s with heap:=h'}:=I.turned (t':=s.toks) (λb o hb e=>(sb.2 b hb).trans e) f0 f1 f3 f4 f5;obtain⟨o,e,c,d⟩:=id st';exact⟨u,rfl,He (s:={s with heap:=h'}) e c d (by decide) ⟨x,H,I1,ru,⟨rfl,λys hy=>by rw[I.list_inj hy hq];exact hx⟩,st',λb hb=>(hf b hb).1⟩⟩
 done:=by
  intro X hP hw hK hc i BI s σ H E I hf st hg;subst hP hw hK;obtain⟨xs,hq,hx⟩:=hg;obtain⟨its,rv,p,hz⟩:=I.list hq;obtain⟨f0,f1,f2,f3,f4,f5⟩:=hf it (by simp);have hl:=rv.length;exact wpAny_pyNext_list_end (I.ok.hd hc) st p.isList (by simp;omega) λh' eb=>⟨rfl,I.turned (t':=s.toks) (λb o hb e=>eb b o hb e) f0 f1 f3 f4 f5⟩
 self:=λ_ _ _ _ _ st h=>wpAny_pyIter_listiter st h
theorem Ox{P:Program}{w:am}{K:ag}{tg:ah}(a it:Addr):rE P w K tg (Sf K a) [it] it (λi h=>h.IsTupleIter it a i) where
 mem:=by simp
 obj:=λi h st b hb=>by
  have e:b=it:=by simpa using hb
  subst e;obtain⟨o,e,c,d⟩:=st;exact⟨o,e,λv z=>by rw[d]at z;cases z⟩
 keep:=λi h h' st k=>st.at λo e=>k it (by simp) o e
 item:=by
  intro X hP hw hK hc i BI s σ H E I hf st hg;subst hP hw hK;obtain⟨xs,x,hq,hx⟩:=hg;obtain⟨its,rv,p,hz⟩:=I.tuple hq;obtain⟨u,hu,ru⟩:=rv.get hx;obtain⟨f0,f1,f2,f3,f4,f5⟩:=hf it (by simp);refine wpAny_pyNext_tuple_item st (show s.heap.IsTuple a its.toArray from p) (x:=u) (by simpa using hu) λh' st' sb=>?_;have I1:aF X BI σ H {s with heap:=h'}:=I.turned (t':=s.toks) (λb o hb e=>(sb.2 b hb).trans e) f0 f1 f3 f4 f5;obtain⟨o,e,c,d⟩:=id st';exact⟨u,rfl,He (s:={s with heap:=h'}) e c d (by decide) ⟨x,H,I1,ru,⟨rfl,λys hy=>by rw[I.tuple_inj hy hq];exact hx⟩,st',λb hb=>(hf b hb).1⟩⟩
 done:=by
  intro X hP hw hK hc i BI s σ H E I hf st hg;subst hP hw hK;obtain⟨xs,hq,hx⟩:=hg;obtain⟨its,rv,p,hz⟩:=I.tuple hq;obtain⟨f0,f1,f2,f3,f4,f5⟩:=hf it (by simp);have hl:=rv.length;exact wpAny_pyNext_tuple_end (I.ok.hd hc) st (show s.heap.IsTuple a its.toArray from p) (by simp;omega) λh' eb=>⟨rfl,I.turned (t':=s.toks) (λb o hb e=>eb b o hb e) f0 f1 f3 f4 f5⟩
 self:=λ_ _ _ _ _ st h=>wpAny_pyIter_tupleiter st h
theorem Ux{P:Program}{w:am}{K:ag}{tg:ah}(it:Addr)(lo:Int)(n:Nat):rE P w K tg (uF lo n) [it] it (λi h=>IsRangeIter h it (lo+(i:Nat)*1) ((n:Int)-(i:Nat)) 1) where
 mem:=by simp
 obj:=λi h st b hb=>by
  have e:b=it:=by simpa using hb
  subst e;exact⟨_,st,λv z=>by
   have z':Data.fields _=Data.cell v:=z;cases z'⟩
 keep:=λi h h' st k=>k it (by simp) _ st
 item:=by
  intro X hP hw hK hc i BI s σ H E I hf st hg;subst hP hw hK;obtain⟨f0,f1,f2,f3,f4,f5⟩:=hf it (by simp);have W:=Walks.range (prog:=X.prog) (w:=X.w) (I.ok.hd hc) it lo 1 n;refine W.item i s _ _ hg st λv h' tk hv st' kk=>?_;obtain⟨t,rfl⟩:=hv;have I1:aF X BI σ H {s with heap:=h',toks:=tk}:=I.turned (λb o hb e=>kk b o (by simpa using hb) e) f0 f1 f3 f4 f5;refine⟨_,rfl,He (s:={s with heap:=h',toks:=tk}) (n:="range_iterator") st' rfl rfl (by decide) ⟨.int (lo+i),H,I1,⟨t,?_⟩,⟨rfl,rfl⟩,st',λb hb=>(hf b hb).1⟩⟩;rw[nv]
 done:=by
  intro X hP hw hK hc i BI s σ H E I hf st hg;subst hP hw hK;obtain⟨f0,f1,f2,f3,f4,f5⟩:=hf it (by simp);exact wpAny_pyNext_range_end (I.ok.hd hc) st (by have:n<=i:=hg;omega) λh' eb=>⟨rfl,I.turned (t':=s.toks) (λb o hb e=>eb b o hb e) f0 f1 f3 f4 f5⟩
 self:=λ_ _ _ _ _ st h=>wpAny_pyIter_rangeiter st h
section
variable{X:Cx}{tg:ah}
theorem Vk{BI:List (Addr×Obj)}{σ:St}{H:Hp}{s:aa}{R:It->Hp->Prop}{E:Value->aa->Prop}{lo hi:Int}{t u v:cv}{tk:Nat}(I:aF X BI σ H s)(h1:-(2^62)<=lo)(h2:lo<2^62)(h3:-(2^62)<=hi)(h4:hi<2^62)
  (q:R (uF lo (hi-lo).toNat) H):wpAny (model X.prog X.w) X.A (pyIter (.ref s.heap.objs.size)) (Ku X BI σ tg R) E {s with heap:=s.heap.push {cls:=.type "range",data:=.fields #[.int lo t,.int hi u,.int 1 v]},toks:=tk}:=by
 refine wpAny_pyIter_range (IsRange.new ..) (small_one h1 h2 h3 h4) ?_;have I1:aF X BI σ H {s with heap:=s.heap.push {cls:=.type "range",data:=.fields #[.int lo t,.int hi u,.int 1 v]},toks:=tk}:=I.kept λb o e=>ar _ e;refine⟨(s.heap.push {cls:=.type "range",data:=.fields #[.int lo t,.int hi u,.int 1 v]}).objs.size,[(s.heap.push {cls:=.type "range",data:=.fields #[.int lo t,.int hi u,.int 1 v]}).objs.size],_,_,H,rfl,
  I1.kept (t':=tk) λb o e=>ar _ e,Ux _ lo (hi-lo).toNat,?_,λb hb=>?_,q⟩
 .have e1:lo+((0:Nat):Int)*1=lo:=by simp
  have e2:(((hi-lo).toNat:Nat):Int)-((0:Nat):Int)=Builtin.Range.rangeSize lo hi 1:=by rw[rangeSize_one];split<;>omega
  show IsRangeIter _ _ (lo+((0:Nat):Int)*1) ((((hi-lo).toNat:Nat):Int)-((0:Nat):Int)) 1;rw[e1,e2];exact da _ rfl
 .have e:b=(s.heap.push {cls:=.type "range",data:=.fields #[.int lo t,.int hi u,.int 1 v]}).objs.size:=by simpa using hb
  subst e;exact I1.fpOk (aj _) (I1.hok.fresh (aj _))
def acr(ta:TA):TI:=λσ H R=>ta σ H λvs H1=>∃j:Int,vs=[.int j]/\-(2^62)<=j/\j<2^62/\R (uF 0 j.toNat) H1
def acv(ta:TA):TI:=λσ H R=>ta σ H λvs H1=>∃i j:Int,vs=[.int i,.int j]/\(-(2^62)<=i/\i<2^62/\-(2^62)<=j/\j<2^62)/\R (uF i (j-i).toNat) H1
theorem Zy{a:ah}{ta:TA}{p pos:ai}(hg:Gl X "range")(hm:X.mg "range"=none)(ha:PA X [a] ta)(hs:starEach [a] X.env=[(false,eval a X.env)]:=by rfl):PI X tg (.Call (.Name "range" p) [a] [] pos) (acr ta):=by
 intro BI s σ H R I h;refine Call_ (oV I hg hm boot_range (pw (bD (ha pos BI s σ H _ I h) λus s1 hq=>?_) hs rfl));rcases hq with⟨vs,H1,I1,r1,q1⟩;obtain⟨j,e,q1,q2,q⟩:=q1;subst e;cases r1 with
 |cons r rr=>
  cases rr;obtain⟨t,rfl⟩:=r;exact call_range_1 (Vk I1 (by omega) (by omega) q1 q2 (by simpa using q))
theorem Pz{a b:ah}{ta:TA}{p pos:ai}(hg:Gl X "range")(hm:X.mg "range"=none)(ha:PA X [a,b] ta)(hs:starEach [a,b] X.env=[(false,eval a X.env),(false,eval b X.env)]:=by rfl)(hs2:starEach [b] X.env=[(false,eval b X.env)]:=by rfl):
  PI X tg (.Call (.Name "range" p) [a,b] [] pos) (acv ta):=by
 intro BI s σ H R I h;refine Call_ (oV I hg hm boot_range (pw (bD (ha pos BI s σ H _ I h) λus s1 hq=>?_) (by rw[hs,hs2]) (by rw[hs2];rfl)));rcases hq with⟨vs,H1,I1,r1,q1⟩;obtain⟨i,j,e,⟨q1,q2,q3,q4⟩,q⟩:=q1;subst e;cases r1 with
 |cons r rr=>
  cases rr with
  |cons r' rr=>
   cases rr;obtain⟨t,rfl⟩:=r;obtain⟨t',rfl⟩:=r';exact call_range_2 (Vk I1 q1 q2 q3 q4 q)
def adE(wi:TI)(g:TG)(tb:TS):TS:=λD σ H=>wi σ H λJ H1=>∃W:Nat->Nat->St->Hp->Prop,(∃m,W 0 m σ H1)/\∀i m σ H,W i m σ H->
 (J.stop i H/\D.nx σ H)\/(J.go i H/\∃N:St->Hp->Prop,(∀σ' H',N σ' H'->∃m',m'<m/\W (i+1) m' σ' H')/\∀x H',J.yld i H x H'->g x σ H' λσ2 H2=>tb {D with nx:=N,ct:=N,bk:=D.nx} σ2 H2)
def wX(fp:List Addr)(h:Heap):List (Addr×Obj):=fp.filterMap λb=>(h.get? b).map λo=>(b,o)
theorem kZ{fp:List Addr}{h:Heap}{b:Addr}{o:Obj}(hb:b∈fp)(e:h.get? b=some o):(b,o)∈wX fp h:=vm.mpr ⟨b,hb,by rw[e];rfl⟩
theorem Ly{fp:List Addr}{h:Heap}{p:Addr×Obj}(hp:p∈wX fp h):p.1∈fp/\h.get? p.1=some p.2:=by
 obtain⟨b,hb,e⟩:=vm.mp hp;cases q:h.get? b with
 |none=>rw[q]at e;cases e
 |some o=>
  rw[q]at e;have e':(b,o)=p:=ci e;subst e';exact⟨hb,q⟩
theorem aF.pinned{BI:List (Addr×Obj)}{σ:St}{H:Hp}{s:aa}{fp:List Addr}(I:aF X BI σ H s)(hf:∀b∈fp,fO X BI H b)(ho:∀b∈fp,∃o,s.heap.get? b=some o/\∀v,o.data≠.cell v):aF X (BI++wX fp s.heap) σ H s:=
 I.pins_of λp hp=>(cq.mp hp).elim (λz=>I.pin p (df _ z)) λz=>by
  obtain⟨hb,e⟩:=Ly z;obtain⟨f0,f1,f2,_⟩:=hf p.1 hb;obtain⟨o,e',d⟩:=ho p.1 hb;rw[e]at e';cases e';exact⟨e,f0,f1,f2,d⟩
theorem aF.unpinned{BI pl:List (Addr×Obj)}{σ:St}{H:Hp}{s:aa}(I:aF X (BI++pl) σ H s):aF X BI σ H s:=I.pins_of λp hp=>I.pin p (df _ (ld _ hp))
theorem Wq{iter:ah}{body:List Stmt}{wi:TI}{g:TG}{tb:TS}{pos:ai}(hp:pk (model X.prog X.w) X.A X.env X.xe)(hc:X.calm=true)(hi:PI X tg iter wi)(hg:PG X tg g)(hb:gL X body tb)
  (hs:∀x,foldedSetIterable iter X.env x=pure x:=by intro _;rfl):PS X (.For tg iter body [] pos) (adE wi g tb):=by
 intro BI s σ H D I h;refine wpAny_For (bD (hi BI s σ H _ I h) λv s1 h1=>bD h1 λitv s2 h2=>?_) hs;obtain⟨it,fp,tn,J,H2,e,I2,T,st2,f2,W,⟨m0,w0⟩,turn⟩:=h2;subst e
 --what stays true of the iterator's objects through the loop
 have stat:∀{H':Hp},(∀b∈fp,H' b=none)->∀b∈fp,fO X BI H' b:=λhn b hb=>⟨hn b hb,(f2 b hb).2⟩;refine codeAny_forLoop_any (λn s'=>∃i σ' H',aF X BI σ' H' s'/\tn i s'.heap/\(∀b∈fp,H' b=none)/\W i n σ' H') ?_ m0 ⟨0,σ,H2,I2,st2,λb hb=>(f2 b hb).1,w0⟩
 rintro n s3 ⟨i,σ3,H3,I3,dP,fr3,w3⟩
 rcases turn i n σ3 H3 w3 with⟨stop,qn⟩|⟨go,N,hN,step⟩
 .refine lq hp (bD (T.done X rfl rfl rfl hc i BI s3 σ3 H3 X.xe I3 (stat fr3) dP stop) λr s4 hq=>?_)
  rcases hq with⟨hr,I4⟩;subst hr;exact rf ⟨σ3,H3,I4,qn⟩
 .refine lq hp (bD (T.item X rfl rfl rfl hc i BI s3 σ3 H3 X.xe I3 (stat fr3) dP go) λr s4 hq=>?_)
  rcases hq with⟨u,hr,h4⟩;subst hr;refine lq hp (bD h4 λ_ s5 hq=>?_);rcases hq with⟨x,H5,I5,r5,y5,st5,fr5⟩;have I5':=I5.pinned (stat fr5) (T.obj _ _ st5);refine lq hp (bD (hg _ s5 σ3 H5 x u _ I5' r5 (step x H5 y5)) λ_ s6 hq=>?_);rcases hq with⟨σ6,H6,I6,q6⟩;refine lq hp (bD (hb _ s6 σ6 H6 _ I6 q6) λf s7 q7=>?_);have again:∀{σ7:St}{H7:Hp},aF X (BI++wX fp s5.heap) σ7 H7 s7->N σ7 H7->∃m,m<n/\∃i σ' H',aF X BI σ' H' s7/\tn i s7.heap/\(∀b∈fp,H' b=none)/\W i m σ' H':=λ{σ7 H7} I7 n7=>by
   obtain⟨m',hm,w7⟩:=hN σ7 H7 n7;refine⟨m',hm,i+1,σ7,H7,I7.unpinned,T.keep _ _ _ st5 λb hb o e=>(I7.pin (b,o) (df _ (df _ (kZ hb e)))).1,λb hb=>?_,w7⟩;obtain⟨o,e,d⟩:=T.obj _ _ st5 b hb;exact(I7.pin (b,o) (df _ (df _ (kZ hb e)))).2.1
  cases f with
  |next=>obtain⟨σ7,H7,I7,n7⟩:=q7;exact again I7 n7
  |cont=>obtain⟨σ7,H7,I7,n7⟩:=q7;exact again I7 n7
  |brk=>obtain⟨σ7,H7,I7,q7⟩:=q7;exact⟨σ7,H7,I7.unpinned,q7⟩
  |ret v=>obtain⟨x7,σ7,H7,I7,r7,q7⟩:=q7;exact⟨x7,σ7,H7,I7.unpinned,r7,q7⟩
end
abbrev R2:=V->V->Hp->VK->Prop
def eJ(X:Cx)(f:Value->Value->Sem Value)(r:R2):Prop:=
 ∀(BI:List (Addr×Obj))(s:aa)(σ:St)(H:Hp)(x y:V)(v u:Value)(Q:VK),aF X BI σ H s->bQ x v->bQ y u->r x y H Q->
  wpAny (model X.prog X.w) X.A (f v u) (EP X BI σ Q) X.xe s
def yU(X:Cx)(f:Value->Sem Value)(r:V->Hp->VK->Prop):Prop:=
 ∀(BI:List (Addr×Obj))(s:aa)(σ:St)(H:Hp)(x:V)(v:Value)(Q:VK),aF X BI σ H s->bQ x v->r x H Q->
  wpAny (model X.prog X.w) X.A (f v) (EP X BI σ Q) X.xe s
def iF(X:Cx)(f:Value)(r:List V->Hp->VK->Prop):Prop:=
 ∀(BI:List (Addr×Obj))(s:aa)(σ:St)(H:Hp)(xs:List V)(us:BA)(Q:VK),aF X BI σ H s->bA xs us->r xs H Q->
  wpAny (model X.prog X.w) X.A (call f us) (EP X BI σ Q) X.xe s
def ads(X:Cx)(r:V->Hp->(Bool->Hp->Prop)->Prop):Prop:=
 ∀(BI:List (Addr×Obj))(s:aa)(σ:St)(H:Hp)(x:V)(v:Value)(Q:Bool->Hp->Prop),aF X BI σ H s->bQ x v->r x H Q->
  wpAny (model X.prog X.w) X.A (truthy v) (TP X BI σ Q) X.xe s
def yX(r:R2)(ta tb:TE):TE:=λσ H Q=>ta σ H λx H1=>tb σ H1 λy H2=>r x y H2 Q
def tUn(r:V->Hp->VK->Prop)(ta:TE):TE:=λσ H Q=>ta σ H λx H1=>r x H1 Q
def rI(C:Int->Int->Prop)(g:Int->Int->V):R2:=λx y H Q=>∃i j,x=.int i/\y=.int j/\C i j/\Q (g i j) H
def jQ(g:Int->Int->V):R2:=λx y H Q=>∃i j,x=.int i/\y=.int j/\Q (g i j) H
def rU(g:Int->V):V->Hp->VK->Prop:=λx H Q=>∃i,x=.int i/\Q (g i) H
section
variable{X:Cx}{a b c:ah}{ta tb tc:TE}{pos:ai}
theorem Xe(ha:PE X a ta)(hb:PE X b tb){BI:List (Addr×Obj)}{s:aa}{σ:St}{H:Hp}{R:V->V->Hp->Prop}(I:aF X BI σ H s)
  (h:ta σ H λx H1=>tb σ H1 λy H2=>R x y H2){Q:Value->aa->Prop}{f:Value->Value->Sem Value}
  (hf:∀v u s2 x y H2,aF X BI σ H2 s2->bQ x v->bQ y u->R x y H2->wpAny (model X.prog X.w) X.A (f v u) Q X.xe s2):
  wpAny (model X.prog X.w) X.A (eval a X.env) (λv BM=>wpAny (model X.prog X.w) X.A (eval b X.env) (λu BP=>wpAny (model X.prog X.w) X.A (f v u) Q X.xe BP) X.xe BM) X.xe s:=by
 refine bD (ha BI s σ H _ I h) ?_
 rintro v s1 ⟨x,H1,I1,r1,q1⟩
 refine bD (hb BI s1 σ H1 _ I1 q1) ?_
 rintro u s2 ⟨y,H2,I2,r2,q2⟩
 exact hf v u s2 x y H2 I2 r1 r2 q2
theorem Xs{op:rh}{r:R2}(ho:eJ X (binaryOp op) r)(ha:PE X a ta)(hb:PE X b tb):PE X (.BinOp a op b pos) (yX r ta tb):=by
 intro BI s σ H Q I h;exact wpAny_BinOp (Xe ha hb I h λv u s2 x y H2 I2 rx ry q=>ho BI s2 σ H2 x y v u Q I2 rx ry q)
theorem Ss{op:UnaryOp}{r:V->Hp->VK->Prop}(ho:yU X (unaryOp op) r)(ha:PE X a ta):PE X (.UnaryOp op a pos) (tUn r ta):=by
 intro BI s σ H Q I h;exact UnaryOp_ (bD (ha BI s σ H _ I h) λv s1 ⟨x,H1,I1,r1,q1⟩=>ho BI s1 σ H1 x v Q I1 r1 q1)
theorem yQ{f:Value->Value->Sem Value}{C:Int->Int->Prop}{g:Int->Int->Int}
  (rule:∀(i j:Int)(t u:cv)(s:aa)(Q:Value->aa->Prop)(E:Value->aa->Prop),C i j->Q (.int (g i j) s.toks) {s with toks:=s.toks+1}->wpAny (model X.prog X.w) X.A (f (.int i t) (.int j u)) Q E s):
  eJ X f (rI C λi j=>.int (g i j)):=by
 intro BI s σ H x y v u Q I rx ry h;obtain⟨i,j,rfl,rfl,hc,q⟩:=h;obtain⟨t,rfl⟩:=rx;obtain⟨t',rfl⟩:=ry;exact rule i j t t' s _ _ hc ⟨.int (g i j),H,I.tok _,⟨_,rfl⟩,q⟩
theorem Cu{f:Value->Value->Sem Value}{g:Int->Int->Int}
  (rule:∀(i j:Int)(t u:cv)(s:aa)(Q:Value->aa->Prop)(E:Value->aa->Prop),Q (.int (g i j) s.toks) {s with toks:=s.toks+1}->wpAny (model X.prog X.w) X.A (f (.int i t) (.int j u)) Q E s):
  eJ X f (jQ λi j=>.int (g i j)):=by
 intro BI s σ H x y v u Q I rx ry h;obtain⟨i,j,rfl,rfl,q⟩:=h;obtain⟨t,rfl⟩:=rx;obtain⟨t',rfl⟩:=ry;exact rule i j t t' s _ _ ⟨.int (g i j),H,I.tok _,⟨_,rfl⟩,q⟩
theorem Bf{f:Value->Value->Sem Value}{g:Int->Int->Bool}
  (rule:∀(i j:Int)(t u:cv)(s:aa)(Q:Value->aa->Prop)(E:Value->aa->Prop),Q (.bool (g i j)) s->wpAny (model X.prog X.w) X.A (f (.int i t) (.int j u)) Q E s):
  eJ X f (jQ λi j=>.bl (g i j)):=by
 intro BI s σ H x y v u Q I rx ry h;obtain⟨i,j,rfl,rfl,q⟩:=h;obtain⟨t,rfl⟩:=rx;obtain⟨t',rfl⟩:=ry;exact rule i j t t' s _ _ ⟨.bl (g i j),H,I,rfl,q⟩
def yE(i j:Int):Prop:=0<=j/\j<=1000000/\i.natAbs<2^64
def Ue(i j:Int):Prop:=(-(2^64)<i/\i<2^64)\/(-(2^64)<j/\j<2^64)
theorem Ue.ok{i j:Int}(h:Ue i j):IntMulOk i j:=by
 rcases h with⟨h1,h2⟩|⟨h1,h2⟩
 .exact .of_left (intBits_le_64 h1 h2)
 .exact .of_right (intBits_le_64 h1 h2)
theorem abD:eJ X (binaryOp .Add) (jQ λi j=>.int (i+j)):=Cu λ_ _ _ _ _ _ _ q=>add_int q
theorem Bs:eJ X (binaryOp .Sub) (jQ λi j=>.int (i-j)):=Cu λ_ _ _ _ _ _ _ q=>sub_int q
theorem Y5:eJ X (binaryOp .Mod) (rI (λ_ j=>j≠0) λi j=>.int (i.fmod j)):=yQ λ_ _ _ _ _ _ _ hc q=>mod_int' hc q
theorem abo:eJ X (binaryOp .Pow) (rI yE λi j=>.int (i^j.toNat)):=yQ λ_ _ _ _ _ _ _ hc q=>pow_int_small hc.1 hc.2.1 hc.2.2 q
theorem unI{f:Value->Sem Value}{g:Int->Int}
  (rule:∀(i:Int)(t:cv)(s:aa)(Q:Value->aa->Prop)(E:Value->aa->Prop),Q (.int (g i) s.toks) {s with toks:=s.toks+1}->wpAny (model X.prog X.w) X.A (f (.int i t)) Q E s):
  yU X f (rU λi=>.int (g i)):=by
 intro BI s σ H x v Q I rx h;obtain⟨i,rfl,q⟩:=h;obtain⟨t,rfl⟩:=rx;exact rule i t s _ _ ⟨.int (g i),H,I.tok _,⟨_,rfl⟩,q⟩
theorem Mr:yU X (unaryOp .USub) (rU λi=>.int (-i)):=unI λ_ _ _ _ _ q=>neg_int q
end
section
variable{X:Cx}{a b c:ah}{ta tb tc:TE}{pos:ai}
theorem Zs:eJ X (compareOp .Lt) (jQ λi j=>.bl (decide (i<j))):=Bf λ_ _ _ _ _ _ _ q=>lt_int q
theorem Dt:eJ X (compareOp .Gt) (jQ λi j=>.bl (decide (j<i))):=Bf λ_ _ _ _ _ _ _ q=>gt_int q
theorem At:eJ X (compareOp .GtE) (jQ λi j=>.bl (decide (j<=i))):=Bf λ_ _ _ _ _ _ _ q=>ge_int q
theorem eJ.or{f:Value->Value->Sem Value}{r r':R2}(h:eJ X f r)(h':eJ X f r'):eJ X f (λx y H Q=>r x y H Q\/r' x y H Q):=by
 intro BI s σ H x y v u Q I rx ry q;rcases q with q |q
 .exact h BI s σ H x y v u Q I rx ry q
 .exact h' BI s σ H x y v u Q I rx ry q
theorem lJ(b:ah){op:km}(h:op≠.In:=by decide)(h2:op≠.NotIn:=by decide):behindInMarks op b=false:=by
 have e1:(op==CmpOp.In)=false:=by cases op<;>first |rfl |exact absurd rfl h
 have e2:(op==CmpOp.NotIn)=false:=by cases op<;>first |rfl |exact absurd rfl h2
 cases b<;>simp[behindInMarks,e1,e2]
theorem aaD{op:km}{r:R2}(ho:eJ X (compareOp op) r)(ha:PE X a ta)(hb:PE X b tb)(hm:behindInMarks op b=false):PE X (.Compare a [op] [b] pos) (yX r ta tb):=by
 intro BI s σ H Q I h;exact wpAny_Compare1 (Xe ha hb I h λv u s2 x y H2 I2 rx ry q=>ho BI s2 σ H2 x y v u Q I2 rx ry q) hm
def acl(t:TE):TT:=λσ H Q=>t σ H λx H'=>∃k,x=.bl k/\Q k H'
theorem aay{op:km}{r:R2}(ho:eJ X (compareOp op) r)(ha:PE X a ta)(hb:PE X b tb)(hm:behindInMarks op b=false):PT X (.Compare a [op] [b] pos) (acl (yX r ta tb)):=by
 intro BI s σ H Q I h;refine zu (bD (ha BI s σ H _ I h) λv s1 ⟨x,H1,I1,r1,q1⟩=>bD (hb BI s1 σ H1 _ I1 q1) λu s2 ⟨y,H2,I2,r2,q2⟩=>
  bD (ho BI s2 σ H2 x y v u _ I2 r1 r2 q2) λc s3 ⟨z,H3,I3,r3,k,e,q3⟩=>?_) hm
 subst e;cases r3;exact lh ⟨H3,I3,q3⟩
def Du(K:ag)(x:V)(H:Hp)(k:Bool):Prop:=
 match x with
 |.non=>k=false
 |.bl b=>k=b
 |.int i=>k=(i !=0)
 |.str y=>y.length<=sizeLine/\k=((y.length:Int) !=0)
 |.byt y=>y.size<=sizeLine/\k=((y.size:Int) !=0)
 |.ref p=>(∃xs,bV K H p xs/\k=!xs.isEmpty)\/(∃xs,cT K H p xs/\k=!xs.isEmpty)\/∃kvs,H p=some (.dK kvs)/\k=!kvs.isEmpty
 |_=>False
theorem Ix{κ:Type}{kvs:List (κ×V)}{vs:List (κ×Value)}(r:KV kvs vs):(!vs.isEmpty)=!kvs.isEmpty:=by
 cases r<;>rfl
theorem Ci{xs:List V}{its:BA}(r:bA xs its):(!its.toArray.isEmpty)=!xs.isEmpty:=by
 cases r<;>simp
theorem qQ:(sizeLine:Nat)<2^63:=by rw[ik];decide
theorem ab8:ads X (λx H Q=>∃k,Du X.K x H k/\Q k H):=by
 intro BI s σ H x v Q I rx h;obtain⟨k,e,q⟩:=h;have hl:=qQ;have hs:sizeLine=16777216:=ik;cases x with
 |non=>
  cases rx;have e':k=false:=e;subst e';exact truthy_none ⟨H,I,q⟩
 |bl b=>
  cases rx;have e':k=b:=e;subst e';exact lh ⟨H,I,q⟩
 |int i=>
  obtain⟨t,rfl⟩:=rx;have e':k=(i !=0):=e;subst e';exact PySem.P.truthy_int ⟨H,I,q⟩
 |str y=>
  obtain⟨t,rfl⟩:=rx;obtain⟨hy,e'⟩:y.length<=sizeLine/\k=((y.length:Int) !=0):=e;subst e';exact PySem.P.truthy_str (by omega) ⟨H,I.tok _,q⟩
 |byt y=>
  obtain⟨t,rfl⟩:=rx;obtain⟨hy,e'⟩:y.size<=sizeLine/\k=((y.size:Int) !=0):=e;subst e';exact PySem.W.truthy_bytes (by omega) ⟨H,I.tok _,q⟩
 |ref p=>
  cases rx;have e':(∃xs,bV X.K H p xs/\k=!xs.isEmpty)\/(∃xs,cT X.K H p xs/\k=!xs.isEmpty)\/∃kvs,H p=some (.dK kvs)/\k=!kvs.isEmpty:=e;rcases e' with⟨xs,hx,e'⟩|⟨xs,hx,e'⟩|⟨kvs,hx,e'⟩
  .subst e'
   obtain⟨its,r,pl,hz⟩:=I.list hx;have hlen:=r.length;exact wpAny_truthy_list pl.isList (by simp only[au];omega) ⟨H,I.tok _,by rw[Ci r];exact q⟩
  .subst e'
   obtain⟨its,r,pl,hz⟩:=I.tuple hx;have hlen:=r.length;exact truthy_tuple pl (by simp only[au];omega) ⟨H,I.tok _,by rw[Ci r];exact q⟩
  .subst e'
   obtain⟨hz,hS,vs,r,m⟩:kvs.length<=sizeLine/\(p==sysModules)=false/\∃vs,KV kvs vs/\s.heap.DictOf (Oc X.prog X.w) p vs:=I.hok p _ hx;have hlen:kvs.length=vs.length:=zl r;exact wpAny_truthy_dict hS m (by omega) ⟨H,I.tok _,by rw[Ix r];exact q⟩
 |_=>exact(show False from e).elim
theorem F6(ha:PE X a ta)(he:∀whole,isTrue a X.env whole=(do let v <-whole;standAt a.pos;holding [v] (truthy v))):
  PT X a (λσ H Q=>ta σ H λx H'=>∃k,Du X.K x H' k/\Q k H'):=by
 intro BI s σ H Q I h;exact isTrue_plain (bD (ha BI s σ H _ I h) λv s1 ⟨x,H1,I1,r1,q1⟩=>ab8 BI s1 σ H1 x v Q I1 r1 q1) (he _)
theorem jG{x:V}{us:BA}(r:bA [x] us):∃u,us=[u]/\bQ x u:=by
 cases r with
 |cons r1 r2=>cases r2;exact⟨_,rfl,r1⟩
theorem Ds{x y:V}{us:BA}(r:bA [x,y] us):∃u w',us=[u,w']/\bQ x u/\bQ y w':=by
 cases r with
 |cons r1 r2=>
  cases r2 with
  |cons r3 r4=>cases r4;exact⟨_,_,rfl,r1,r3⟩
theorem E9:iF X (.builtin "abs") (λxs H Q=>∃i,xs=[.int i]/\Q (.int (if i<0 then-i else i)) H):=by
 intro BI s σ H xs us Q I r h;obtain⟨i,rfl,q⟩:=h;obtain⟨u,rfl,t,rfl⟩:=jG r;exact call_abs_int λu tk=>⟨.int (if i<0 then-i else i),H,I.tok _,⟨_,rfl⟩,q⟩
theorem Lz:iF X (.type "int") (λxs H Q=>(∃i,xs=[.int i]/\Q (.int i) H)\/∃k,xs=[.bl k]/\Q (.int (if k then 1 else 0)) H):=by
 intro BI s σ H xs us Q I r h;rcases h with⟨i,rfl,q⟩|⟨k,rfl,q⟩
 .obtain⟨u,rfl,t,rfl⟩:=jG r
  exact call_int_int ⟨.int i,H,I,⟨_,rfl⟩,q⟩
 .obtain⟨u,rfl,r1⟩:=jG r
  cases r1;exact call_int_bool ⟨.int (if k then 1 else 0),H,I.tok _,⟨_,rfl⟩,q⟩
end
structure Ze(h:Heap)(x dx C:Addr)(mA:Str->BB):Prop where
 obj:h.get? x=some (vb C dx)
 ns:h.Ns1 dx mA
 ne:dx≠x
theorem Wy{h:Heap}{dx:Addr}{mA:Str->BB}(n:h.Ns1 dx mA):∃od,h.get? dx=some od/\∀name,vn name od=some (mA name):=by
 obtain⟨o,es,ep,ho,hd,hk,_,hm⟩:=n;refine⟨o,ho,λname=>?_⟩;have e:=hm name;unfold nsFind findBy at e;rw[<-Array.find?_toList]at e;unfold vn;rw[hd];dsimp only;split
 .rename_i y q
  rw[q]at e;exact congrArg some e
 .rename_i q
  rw[q]at e;have a:es.toList.any (·.refKey)=false:=by
   rw[List.any_eq_false];intro y hy;obtain⟨z,t,hkey⟩:=hk y (Array.mem_toList_iff.mp hy);simp[DictEntry.refKey,hkey]
  have a':¬es.toList.any (·.refKey)=true:=by rw[a];exact ij
  rw[if_neg a'];exact congrArg some e
theorem Ze.look{h:Heap}{x dx C:Addr}{mA:Str->BB}(I:Ze h x dx C mA):∃od,PySem.W.InstAt h x (vb C dx) C (some od)/\∀name,vn name od=some (mA name):=
 let⟨od,ho,hl⟩:=Wy I.ns
 ⟨od,⟨I.obj,rfl,rfl,ho⟩,hl⟩
section
variable{prog:Program}{w:am}{A:aq}{E:Value->aa->Prop}{s:aa}{K:ag}{x dx C f:Addr}{mA:Str->BB}{name:Str}{v:Value}
end
section
variable{P:Program}{w:am}{H H':Hp}{h h':Heap}{a C dx:Addr}{fs fs':List (Str×V)}
theorem S8(hok:fJ P w H h)(e:H a=some (.ins C dx fs)):∃mA,Ze h a dx C mA/\(∀f,Af (fs.lookup f) (mA f))/\zm mA (fs.map (·.1))/\fs.length<=1000/\H dx=some (.own a):=by
 obtain⟨d,z,ne,ob,mA,n,r,q⟩:=(show fS P w H h a (.ins C dx fs) from hok a _ e);exact⟨mA,⟨ob,n,ne⟩,r,q,z,d⟩
end
structure Kf(K:ag)(C:Addr):Prop where
 pg:zw K C Str.empty=true
 hd:PySem.W.hasDictIn K C=true
 po:PySem.W.plainOver K C=true
 sa:vo K (.ref C) "__setattr__"=some (some (.builtin "object.__setattr__"))
theorem Kf.get{K:ag}{C:Addr}(c:Kf K C)(f:Str):zw K C f=true:=c.pg
structure Tf(K:ag)(C:Addr)(f:Str)(v:V)(u:Value):Prop where
 at_:vo K (.ref C) f=some (some u)
 rel:bQ v u
 get:zx K u "__get__"=some none
 cp:PySem.W.copiedNames.contains f=false
section
variable{X:Cx}{BI:List (Addr×Obj)}{σ:St}{H:Hp}{s:aa}{a C dx:Addr}{fs:List (Str×V)}{f:Str}{v:V}{A:aq}{E:Value->aa->Prop}
end
section
variable{X:Cx}{o e value:ah}{f:Str}{pos pos' tpos:ai}{ta tv:TE}
end
section
variable{X:Cx}{BI:List (Addr×Obj)}{σ:St}{H:Hp}{s:aa}{A:aq}{E:Value->aa->Prop}{Q:Value->aa->Prop}{c:Value}{b:Bool}
inductive jJ(K:ag)(H:Hp):V->Value->Prop where
 |non:jJ K H .non (.type "NoneType")
 |bl (x:Bool):jJ K H (.bl x) (.type "bool")
 |int (i:Int):jJ K H (.int i) (.type "int")
 |str (x:Str):jJ K H (.str x) (.type "str")
 |flt (x:UInt64):jJ K H (.flt x) (.type "float")
 |lst {a:Addr} {xs:List V} (e:H a=some (.lst xs)):jJ K H (.ref a) (.type "list")
 |frz {a:Addr} {o:Obj} {xs:List V} (e:H a=some (.frz o (.lst xs))):jJ K H (.ref a) (.type "list")
 |tup {a:Addr} {xs:List V} (e:H a=some (.tup xs)):jJ K H (.ref a) (.type "tuple")
 |dK {a:Addr} {kvs:List (gZ×V)} (e:H a=some (.dK kvs)):jJ K H (.ref a) (.type "dict")
 |dT {a:Addr} {kvs:List (List gZ×V)} (e:H a=some (.dT kvs)):jJ K H (.ref a) (.type "dict")
 |ins {a C dx:Addr} {fs:List (Str×V)} (e:H a=some (.ins C dx fs)) (cl:Kf K C) (ha:vo K (.ref C) "__class__"=some (some (.builtin "object.__class__")))
   (hn:zx K (.builtin "object.__class__") "__get__"=some (some (.builtin "getset_descriptor.__get__"))) (htk:PySem.W.takesIn K (.builtin "object.__class__")=some true)
   (hm:PySem.W.mroIn K C (.type "object")=some true):jJ K H (.ref a) (.ref C)
theorem Xy{x:V}{u t:Value}(I:aF X BI σ H s)(rx:bQ x u)(ty:jJ X.K H x t)(e:kq X.K t c=some b)(h:∀tk,Q (.bool b) {s with toks:=tk}):
  wpAny (model X.prog X.w) A (call (.builtin "isinstance") [u,c]) Q E s:=by
 cases ty with
 |non=>cases(show u=bi from rx);exact ja PySem.W.kitx_none I.kIn qd e (λz=>nomatch z) h
 |bl y=>cases(show u=oz y from rx);exact ja PySem.W.kitx_bool I.kIn qd e (λz=>nomatch z) h
 |int i=>obtain⟨t,q⟩:=(show ∃t,u=oy i t from rx);cases q;exact ja PySem.W.kitx_int I.kIn qd e (λz=>nomatch z) h
 |str y=>obtain⟨t,q⟩:=(show ∃t,u=va y t from rx);cases q;exact ja PySem.W.kitx_str I.kIn qd e (λz=>nomatch z) h
 |flt y=>obtain⟨t,q⟩:=(show ∃t,u=Value.float y t from rx);cases q;exact ja PySem.W.kitx_float I.kIn qd e (λz=>nomatch z) h
 |@lst a xs ea=>
  cases(show u=cr a from rx);obtain⟨_,_,n,_,h1⟩:=(show fS X.prog X.w H s.heap a (.lst xs) from I.hok a _ ea);exact ja vp I.kIn ⟨_,h1,rfl⟩ e (λz=>nomatch z) h
 |@frz a ob xs ea=>
  cases(show u=cr a from rx);obtain⟨_,_,_,n,_,h1⟩:=(show fS X.prog X.w H s.heap a (.frz ob (.lst xs)) from I.hok a _ ea);exact ja vp I.kIn ⟨_,h1,rfl⟩ e (λz=>nomatch z) h
 |@tup a xs ea=>
  cases(show u=cr a from rx);obtain⟨_,_,_,p⟩:=(show fS X.prog X.w H s.heap a (.tup xs) from I.hok a _ ea);obtain⟨o,h1,h2,_⟩:=p;exact ja zy I.kIn ⟨o,h1,h2⟩ e (λz=>nomatch z) h
 |@dK a kvs ea=>
  cases(show u=cr a from rx);obtain⟨_,_,vs,_,p⟩:=(show fS X.prog X.w H s.heap a (.dK kvs) from I.hok a _ ea);obtain⟨o,es,ep,h1,h2,_⟩:=p;exact ja zz I.kIn ⟨o,h1,h2.1⟩ e (λz=>nomatch z) h
 |@dT a kvs ea=>
  cases(show u=cr a from rx);obtain⟨_,_,xs,_,o,es,ep,h1,h2,_⟩:=(show fS X.prog X.w H s.heap a (.dT kvs) from I.hok a _ ea);exact ja zz I.kIn ⟨o,h1,h2.1⟩ e (λz=>nomatch z) h
 |@ins a C dx fs ea cl ha hn htk hm=>
  cases(show u=cr a from rx);obtain⟨mA,O,_⟩:=S8 I.hok ea;obtain⟨od,J,_⟩:=O.look;exact ja (PySem.W.kitx_own (cl.get _) cl.hd ha hn htk hm) I.kIn J e (λz=>nomatch z) h
end
structure dS(k:Nat)(A:aq):Prop where
 hd:A.handled=none
 dp:A.depth+3*k+5<recursionLimit
 un:A.units+16*k+200<cLine
theorem dS.mono{j k:Nat}{A:aq}(r:dS k A)(h:j<=k):dS j A:=⟨r.hd,by have:=r.dp;omega,by have:=r.un;omega⟩
theorem dS.deeper{k:Nat}{A:aq}(r:dS (k+1) A)(env:bo):dS k (A.deeper env):=
 ⟨r.hd,by have:=r.dp;show A.depth+1+3*k+5<_;omega,by have:=r.un;show A.units+3+16*k+200<_;omega⟩
theorem dS.depth{k:Nat}{A:aq}(r:dS k A):A.depth<recursionLimit:=by have:=r.dp;omega
theorem dS.units{k:Nat}{A:aq}(r:dS k A):A.units+64<cLine:=by have:=r.un;omega
def adJ:TA:=λ_ H Q=>Q [] H
def acN(ta:TE)(tr:TA):TA:=λσ H Q=>ta σ H λx H1=>tr σ H1 λxs H2=>Q (x::xs) H2
section
variable{X:Cx}{e:ah}{es:List ah}{te:TE}{t:TA}{pos:ai}
theorem lI:PA X [] adJ:=λ_ _ _ _ H Q I h=>Calls.spliced_nil ⟨[],H,I,.nil,h⟩
theorem jT(ha:PE X e te)(hr:PA X es t)(hs:starEach (e::es) X.env=(false,eval e X.env)::starEach es X.env:=by rfl):PA X (e::es) (acN te t):=by
 intro pos BI s σ H Q I h;rw[hs];show wpAny _ _ (spliced ((false,eval e X.env)::backTo pos (starEach es X.env))) _ _ s;refine Calls.spliced_cons (bD (ha BI s σ H _ I h) λu s1 hq=>?_);rcases hq with⟨x,H1,I1,r1,q1⟩;exact bD (hr pos BI s1 σ H1 _ I1 q1) λus s2 ⟨xs,H2,I2,r2,q2⟩=>⟨x::xs,H2,I2,.cons r1 r2,q2⟩
def adm(t:TA):TE:=λσ H Q=>t σ H λxs H1=>xs.length<=sizeLine/\∀p,H1 p=none->Q (.ref p) (aL H1 p (.tup xs))
def adn(t:TA):TE:=λσ H Q=>t σ H λxs H1=>xs.length<=sizeLine/\∀p,H1 p=none->Q (.ref p) (aL H1 p (.lst xs))
theorem ab6{x1}(h:PA X es t):PE X (.Tuple es x1 pos) (adm t):=by
 intro BI s σ H Q I hq;refine wpAny_Tuple_spliced (bD (h pos BI s σ H _ I hq) λus s1 ⟨xs,H1,I1,r,z,q⟩=>⟨by rw[<-r.length];exact z,?_⟩);have hf:H1 s1.heap.objs.size=none:=I1.hok.fresh (aj _);refine⟨.ref s1.heap.objs.size,aL H1 s1.heap.objs.size (.tup xs),I1.laid (t':=s1.toks) (λb u e=>ar _ e) (aj _) ?_,rfl,q _ hf⟩;exact⟨z,us,r,⟨_,da _ rfl,rfl,_,rfl⟩⟩
theorem wH(h:PA X es t):PE X (.List es pos) (adn t):=by
 intro BI s σ H Q I hq;refine wpAny_List_spliced (bD (h pos BI s σ H _ I hq) λus s1 ⟨xs,H1,I1,r,z,q⟩=>⟨by rw[<-r.length];exact z,?_⟩);have hf:H1 s1.heap.objs.size=none:=I1.hok.fresh (aj _);refine⟨.ref s1.heap.objs.size,aL H1 s1.heap.objs.size (.lst xs),I1.laid (t':=s1.toks) (λb u e=>ar _ e) (aj _) ?_,rfl,q _ hf⟩;exact⟨z,us,0,r,da _ rfl⟩
end
abbrev Sp:=List V->Hp->VK->XK->Prop
abbrev jA:=List bo->Hp->aa->XK->Value->aa->Prop
structure yA(P:Program)(w:am)(K:ag)(mg:Str->BB)(base:Heap)(A:aq)(outer:List bo)(s:aa)(H:Hp):Prop where
 frames:A.frames=some outer
 mod:Mod K mg base
 bs:∀b o,base.get? b=some o->s.heap.get? b=some o/\H b=none
 bsz:base.objs.size<=s.heap.objs.size
 funs:s.heap.FunFrames base outer
 frf:∀b∈eQ outer,H b=none
 hok:fJ P w H s.heap
 bare:jq s.gens
def CE(outer:List bo)(P:Program)(w:am)(H:Hp)(s:aa)(Q:VK)(u:Value)(s':aa):Prop:=
 ∃v H',s'.os=s.os/\jq s'.gens/\Un (eQ outer) [] H H' s.heap s'.heap/\fJ P w H' s'.heap/\bQ v u/\Q v H'
def CR(CX:jA)(outer:List bo)(P:Program)(w:am)(H:Hp)(s:aa)(Q:VK)(E:XK)(r:qe)(s':aa):Prop:=
 match r with
 |.ok (.ret u)=>CE outer P w H s Q u s'
 |.ok _=>False
 |.error e=>CX outer H s E e s'
structure eO(P:Program)(w:am)(K:ag)(mg:Str->BB)(base:Heap)(CX:jA)(k:Nat)(f:Addr)(fd:ck)(ps:List Str)(sp:Sp):Prop where
 len:∀vs H Q E,sp vs H Q E->vs.length=ps.length
 run:∀(A:aq)(outer:List bo)(s:aa)(H:Hp)(args:Args)(us:BA)(vs:List V)(Q:VK)(E:XK),dS k A->yA P w K mg base A outer s H->ny s fd args (ps.zip us)->bA vs us->sp vs H Q E->
  codeAny (model P w) A (.call (.ref f) args) (CR CX outer P w H s Q E) s
theorem eO.imp{P:Program}{w:am}{K:ag}{mg:Str->BB}{base:Heap}{CX:jA}{k:Nat}{f:Addr}{fd:ck}{ps:List Str}{sp sp':Sp}(F:eO P w K mg base CX k f fd ps sp)
  (h:∀vs H Q E,sp' vs H Q E->sp vs H Q E):eO P w K mg base CX k f fd ps sp':=
 ⟨λvs H Q E q=>F.len vs H Q E (h _ _ _ _ q),λA outer s H args us vs Q E hr he hb hv hs=>F.run A outer s H args us vs Q E hr he hb hv (h _ _ _ _ hs)⟩
section
variable{X:Cx}{BI:List (Addr×Obj)}{σ:St}{H:Hp}{s s':aa}
theorem aF.env0(I:aF X BI σ H s):yA X.prog X.w X.K X.mg X.base X.A X.stack s H:=
 ⟨I.ok.frames,I.ok.mod,I.bs,fm I.ok.bsz I.sz,I.stack,I.stkFree,I.hok,I.bare⟩
theorem aF.after{Q:VK}{u:Value}(I:aF X BI σ H s)(h:CE X.stack X.prog X.w H s Q u s'):EP X BI σ Q u s':=by
 obtain⟨v,H',os,bare,un,hok,r,q⟩:=h;obtain⟨hh,g,d,t,os'⟩:=s';obtain rfl:os'=s.os:=os;exact⟨v,H',I.call (h':=hh) (g':=g) (d':=d) (t':=t) (ch:=[]) un hok bare (λb z=>absurd z (by simp)),r,q⟩
end
def act(sp:Sp)(dvs:List V)(E:XK)(t:TA):TE:=λσ H Q=>t σ H λvs H1=>sp (vs++dvs) H1 Q E
def jI(K:ag)(fd:ck)(ps:List Str)(ds:BA):Prop:=
 ∀(s:aa)(us:BA),K.In s.heap->(us++ds).length=ps.length->ny s fd ⟨us,[]⟩ (ps.zip (us++ds))
theorem jI.all{K:ag}{fd:ck}{ps:List Str}(h:∀us:BA,us.length=ps.length->bindArgs fd ⟨us,[]⟩=pure (ps.zip us)):jI K fd ps []:=λs us _ hl=>by
 rw[mf]at hl⊢;exact .of_eq (h us hl)
def Vc(CX:jA)(X:Cx)(E:XK):Prop:=∀(BI:List (Addr×Obj))(σ:St)(H:Hp)(s:aa)(e:Value)(s':aa),aF X BI σ H s->CX X.stack H s E e s'->X.xe e s'
section
variable{X:Cx}{CX:jA}{k:Nat}{f C:Addr}{fd:ck}{ps:List Str}{sp:Sp}{dvs:List V}{ds:BA}{E:XK}{x m:Str}{p pos apos:ai}{e o:ah}{es:List ah}{ta:TE}{t:TA}
theorem abh{BI:List (Addr×Obj)}{σ:St}{H:Hp}{s:aa}{Q:VK}{us:BA}{vs:List V}(F:eO X.prog X.w X.K X.mg X.base CX k f fd ps sp)(hr:dS k X.A)(hb:jI X.K fd ps ds)(hd:bA dvs ds)(hx:Vc CX X E)
  (I:aF X BI σ H s)(r:bA vs us)(h:sp (vs++dvs) H Q E):wpAny (model X.prog X.w) X.A (call (.ref f) us) (EP X BI σ Q) X.xe s:=by
 have r2:bA (vs++dvs) (us++ds):=r.append hd;have hl:(us++ds).length=ps.length:=by rw[<-r2.length];exact F.len _ _ _ _ h
 refine wpAny_call (qg (F.run X.A X.stack s H ⟨us,[]⟩ (us++ds) (vs++dvs) Q E hr I.env0 (hb s us I.kIn hl) r2 h) λr s' hq=>?_);cases r with
 |error e=>exact hx BI σ H s e s' I hq
 |ok fl=>
  cases fl with
  |ret u=>exact I.after hq
  |next=>exact jr hq
  |brk=>exact jr hq
  |cont=>exact jr hq
theorem sG(F:eO X.prog X.w X.K X.mg X.base CX k f fd ps sp)(hr:dS k X.A)(hg:Gl X x)(hm:X.mg x=some (.ref f))(hk:ie X.K (.ref f)=true)(hb:jI X.K fd ps ds)(hd:bA dvs ds)(hx:Vc CX X E)
  (ha:PA X (e::es) t)(hdb:(x==("__debug__":Str))=false:=by decide)(he:starEach (e::es) X.env=(false,eval e X.env)::starEach es X.env:=by rfl)(hpl:(backTo pos (starEach es X.env)).any (·.1)=false:=by rfl):
  PE X (.Call (.Name x p) (e::es) [] pos) (act sp dvs E t):=by
 intro BI s σ H Q I h;refine vq (Wb I hg hm ?_ hdb);refine PySem.W.callWith_K (h₀:=X.base) I.ok.mod.kin hk (bD (ha pos BI s σ H _ I h) λus s1 ⟨vs,H1,I1,r,q⟩=>⟨I1.kIn,?_⟩) he hpl;exact abh F hr hb hd hx I1 r q
end
section
variable{X:Cx}{CX:jA}{k:Nat}{f C:Addr}{fd:ck}{ps ks:List Str}{sp:Sp}{E:XK}{x m:Str}{p pos apos kpos:ai}{e o:ah}{es:List ah}{kws:List fz}{te ta:TE}{t tk:TA}{nm:Option Str}
variable{g:BA->BA->BA}{gV:List V->List V->List V}
end
structure jV(N P:List Str)(sc:Scope):Prop where
 kind:sc.kind=.function
 co:sc.isCoroutine=false
 gen:sc.isGenerator=false
 nd:N.Nodup
 pre:N.take P.length=P
 par:∀x∈P,sc.names.lookup x=some .local\/sc.names.lookup x=some .cell
 nofree:∀y∈sc.names,y.2≠.free
theorem Qi{kindOf:Str->Option gh}{x:Str}:∀{binds:List (Str×Value)}{m:Str->BB},(∀v,(x,v)∉binds)->bindL kindOf binds m x=m x
 |[],_,_=>rfl
 |(n,v)::r,m,h=>by
  unfold bindL;rw[Qi λw hw=>h w (bn _ hw)];split
  .have:x≠n:=by rintro rfl;exact h v bf
   simp[this]
  .rfl
theorem Dj{kindOf:Str->Option gh}{x:Str}:∀{binds:List (Str×Value)}{m:Str->BB},(∀v,(x,v)∉binds)->bindC kindOf binds m x=m x
 |[],_,_=>rfl
 |(n,v)::r,m,h=>by
  unfold bindC;rw[Dj λw hw=>h w (bn _ hw)];split
  .rfl
  .have:x≠n:=by rintro rfl;exact h v bf
   simp[this]
theorem Zi{kindOf:Str->Option gh}{x:Str}{v:Value}:∀{P:List Str}{vs:BA}{i:Nat}{m:Str->BB},P.Nodup->P[i]?=some x->vs[i]?=some v->kindOf x=some .local->
  bindL kindOf (P.zip vs) m x=some v
 |[],_,_,_,_,h,_,_=>by simp at h
 |_::_,[],_,_,_,_,h,_=>by simp at h
 |p::P,w::vs,0,m,nd,h1,h2,hk=>by
  simp at h1 h2;subst h1;subst h2;show bindL kindOf ((p,w)::P.zip vs) m p=_;unfold bindL;rw[Qi λv hv=>(jn.mp nd).1 (vt hv).1,if_pos hk];simp
 |p::P,w::vs,i+1,m,nd,h1,h2,hk=>by
  show bindL kindOf ((p,w)::P.zip vs) m x=_;unfold bindL;exact Zi (i:=i) (jn.mp nd).2 (by simpa using h1) (by simpa using h2) hk
theorem Ak{kindOf:Str->Option gh}{x:Str}{v:Value}:∀{P:List Str}{vs:BA}{i:Nat}{m:Str->BB},P.Nodup->P[i]?=some x->vs[i]?=some v->kindOf x≠some .local->
  bindC kindOf (P.zip vs) m x=some v
 |[],_,_,_,_,h,_,_=>by simp at h
 |_::_,[],_,_,_,_,h,_=>by simp at h
 |p::P,w::vs,0,m,nd,h1,h2,hk=>by
  simp at h1 h2;subst h1;subst h2;show bindC kindOf ((p,w)::P.zip vs) m p=_;unfold bindC;rw[Dj λv hv=>(jn.mp nd).1 (vt hv).1,if_neg hk];simp
 |p::P,w::vs,i+1,m,nd,h1,h2,hk=>by
  show bindC kindOf ((p,w)::P.zip vs) m x=_;unfold bindC;exact Ak (i:=i) (jn.mp nd).2 (by simpa using h1) (by simpa using h2) hk
def start(N:List Str)(vs:List V):St:=vs.map some++rm (N.length-vs.length) none
def fT(CX:jA)(P:Program)(w:am)(K:ag)(mg:Str->BB)(base:Heap)(N:List Str)(qual:Str)(scope:Scope)(f:Addr)(cd:Value)(A:aq)(outer:List bo)(s:aa)(H:Hp)(E:XK):Cx where
 prog:=P
 w:=w
 K:=K
 mg:=mg
 base:=base
 A:=A.deeper (envOfC qual scope s.heap.objs.size f cd)
 N:=N
 BJ:=s
 BK:=H
 env:=envOfC qual scope s.heap.objs.size f cd
 outer:=outer
 stack:=envOfC qual scope s.heap.objs.size f cd::outer
 ex:=[]
 calm:=true
 fn:=λ_=>true
 pn:=[]
 xe:=λe s'=>wpAny (model P w) (A.deeper (envOfC qual scope s.heap.objs.size f cd)) (leaving (envOfC qual scope s.heap.objs.size f cd) e) (λ_ s''=>CX outer H s E e s'') (λe' s''=>CX outer H s E e' s'') s'
theorem Hm{sc:Scope}{n:Nat}{x:Str}(h:sc.names.lookup x=some .cell):∃c,(cellsFrom n sc.names []).lookup x=some c:=by
 have q:=a0 sc.names n [] (.inl h);exact Option.isSome_iff_exists.mp q
theorem Ry{CX:jA}{P:Program}{w:am}{K:ag}{mg:Str->BB}{base:Heap}{N ps:List Str}{qual:Str}{scope:Scope}{f:Addr}{cd:Value}{A:aq}{outer:List bo}{s s1:aa}{H:Hp}{E:XK}{us:BA}{vs:List V}
  (S:jV N ps scope)(hd:A.handled=none)(e0:yA P w K mg base A outer s H)(hl:vs.length=ps.length)(r:bA vs us)
  (x:InCallC s s.heap.objs.size (bindL (envOfC qual scope s.heap.objs.size f cd).kindOf (ps.zip us) λ_=>none) (cellsFrom (s.heap.objs.size+1) scope.names []) (bindC (envOfC qual scope s.heap.objs.size f cd).kindOf (ps.zip us) λ_=>none) s1):
  aF (fT CX P w K mg base N qual scope f cd A outer s H E) [] (start N vs) H s1:=by
 have hpl:ps.length<=N.length:=by have:=congrArg qh S.pre;rw[jz]at this;omega
 obtain⟨h1,tk,rfl,hk⟩:=x.done;have noA:∀b:Addr,b∉(fT CX P w K mg base N qual scope f cd A outer s H E).ex:=λb z=>absurd (show b∈([]:List Addr) from z) (by simp);refine⟨⟨e0.mod,S.kind,rfl,rfl,aj _,λy z c h1 h2=>?_,λy hy=>?_,λy c _ h=>?_,λ_=>hd,Around.frames_deeper e0.frames,.inr ⟨rfl,rfl⟩,λb z=>absurd z (noA b),e0.bs,e0.bsz,λb _ _=>noA b,λb z=>absurd z (noA b),e0.funs,e0.frf⟩,
  rfl,e0.bare,Un.kept hk,⟨_,x.toInCall.ns,λi y v h1 h2 h3=>?_⟩,λy c h=>⟨_,x.cell y c h⟩,e0.hok.fresh (aj _),λy c h=>?_,λp hp=>absurd (show p∈([]:List (Addr×Obj)) from hp) (by simp),e0.hok.kept hk,?_⟩
 .exact name_of_addr x.apart (jt h1) (jt h2)
 .have hy:scope.names.lookup y=some .cell\/scope.names.lookup y=some .free:=hy
  rcases hy with hy |hy
  .exact Hm hy
  .exact absurd rfl (S.nofree _ (jt hy))
 .exact pf (x.above y c (jt h))
 .have hi:i<vs.length:=by
   unfold start at h2
   by_cases hi:i<vs.length
   .exact hi
   .rw[dj (by simpa using hi)]at h2
    rw[a5]at h2;split at h2<;>cases h2
  have ha:vs[i]?=some v:=by
   unfold start at h2;rw[fj (by simpa using hi),ax]at h2;cases e:vs[i]? with
   |none=>rw[e]at h2;cases h2
   |some a=>rw[e]at h2;cases h2;rfl
  obtain⟨u,hu,rv⟩:=r.get ha;have hp:ps[i]?=some y:=by
   rw[<-S.pre,List.getElem?_take_of_lt (by omega)];exact h1
  have ndP:ps.Nodup:=by rw[<-S.pre];exact S.nd.sublist (List.take_sublist _ _)
  refine⟨u,rv,?_⟩;rcases S.par y (cy hp)with k |k
  .exact .inl ⟨k,Zi ndP hp hu k⟩
  .obtain⟨c,e⟩:=Hm (n:=s.heap.objs.size+1) k
   refine .inr ⟨.inl k,c,e,?_⟩;have q:=x.cell y c e;rw[Ak ndP hp hu (by show scope.names.lookup y≠_;rw[k];decide)]at q;exact q
 .exact e0.hok.fresh (pf (x.above y c (jt h)))
 .unfold start
  show _=N.length;rw[bh,ao,a6];omega
theorem Js{CX:jA}{P:Program}{w:am}{K:ag}{mg:Str->BB}{base:Heap}{k:Nat}{f:Addr}{name qual:Str}{params:Arguments}{body:List Stmt}{scope:Scope}{dV kV doc pm cdv ct oc:Value}{an od:BC}
  {osl:Array BB}{N ps:List Str}{sp:Sp}(lk:K.lookup f=some ⟨oc,od,.func (fg name qual params body scope dV kV doc pm an cdv ct),osl⟩)(hcd:ka K cdv qual=true)(S:jV N ps scope)
  (len:∀vs H Q E,sp vs H Q E->vs.length=ps.length)
  (hbody:∀(A:aq)(outer:List bo)(s:aa)(H:Hp)(vs:List V)(Q:VK)(E:XK),dS k (A.deeper (envOfC qual scope s.heap.objs.size f cdv))->sp vs H Q E->
   ∃t,gL (fT CX P w K mg base N qual scope f cdv A outer s H E) body t/\t {nx:=λ_ H'=>Q .non H',rt:=Q} (start N vs) H):
  eO P w K mg base CX (k+1) f (fg name qual params body scope dV kV doc pm an cdv ct) ps sp:=by
 refine⟨len,λA outer s H args us vs Q E hr e0 hb r hsp=>?_⟩;have hl:=len _ _ _ _ hsp;have KX:K.In s.heap:=e0.mod.kin.keeps λb o e=>(e0.bs b o e).1;have lim:s.heap.NoLimit:=e0.mod.nolimit.keeps λb o e=>(e0.bs b o e).1;have hkind:∀y∈ps.zip us,scope.names.lookup y.1=some .local\/(scope.names.lookup y.1=some .cell/\((cellsFrom (s.heap.objs.size+1) scope.names []).lookup y.1).isSome=true):=λ⟨n,v⟩ hy=>by
  rcases S.par n (vt hy).1 with q |q
  .exact .inl q
  .exact .inr ⟨q,a0 _ _ _ (.inl q)⟩
 refine codeAny_call_function hr.depth (KX _ _ lk) rfl S.co S.gen rfl (PySem.W.codeRec_of KX hcd) (hb _ _ _ _ ?_);refine wpAny_newFunctionEnv_cells S.kind hkind λenv he s1 x=>?_;subst he;refine⟨lim.keeps x.toInCall.keep,codeAny_func ?_⟩;obtain⟨t,ht,hq⟩:=hbody A outer s H vs Q E (hr.deeper _) hsp;have I:aF (fT CX P w K mg base N qual scope f cdv A outer s H E) [] (start N vs) H s1:=Ry S hr.hd e0 hl r x;refine ft (ht [] s1 (start N vs) H _ I hq) (λfl s' hs=>?_) λe s' hs=>hs;have fin:∀{σ':St}{H':Hp}{v:V}{u:Value},aF (fT CX P w K mg base N qual scope f cdv A outer s H E) [] σ' H' s'->bQ v u->Q v H'->CE outer P w H s Q u s':=
  λ{σ' H' v u} J rv q=>⟨v,H',J.os,J.bare,J.base,J.hok,rv,q⟩
 cases fl with
 |ret u=>
  obtain⟨v,σ',H',J,rv,q⟩:=hs;exact fin J rv q
 |next=>
  obtain⟨σ',H',J,q⟩:=hs;exact fin (v:=V.non) (u:=bi) J rfl q
 |brk=>
  obtain⟨_,_,_,q⟩:=hs;exact jr q
 |cont=>
  obtain⟨_,_,_,q⟩:=hs;exact jr q
section
variable{X:Cx}{x:Str}{p pos:ai}{e:ah}{es:List ah}{t:TA}{id T:String}{r:List V->Hp->VK->Prop}
def Ru(r:List V->Hp->VK->Prop)(t:TA):TE:=λσ H Q=>t σ H λvs H1=>r vs H1 Q
theorem vK(hc:iF X (.builtin id) r)(hg:Gl X x)(hm:X.mg x=none)(hv:bootBuiltins x=some (.builtin id))(ha:PA X (e::es) t)(hn:x≠"__name__":=by decide)(hdb:(x==("__debug__":Str))=false:=by decide)
  (he:starEach (e::es) X.env=(false,eval e X.env)::starEach es X.env:=by rfl)(hpl:(backTo pos (starEach es X.env)).any (·.1)=false:=by rfl):PE X (.Call (.Name x p) (e::es) [] pos) (Ru r t):=by
 intro BI s σ H Q I h;refine vq (oV I hg hm hv ?_ hn hdb);exact PyProof.Rows.callWith_builtin1 (bD (ha pos BI s σ H _ I h) λus s1 ⟨vs,H1,I1,r1,q1⟩=>hc BI s1 σ H1 vs us Q I1 r1 q1) he hpl
theorem uY(hc:iF X (.type T) r)(hg:Gl X x)(hm:X.mg x=none)(hv:bootBuiltins x=some (.type T))(ha:PA X (e::es) t)(hn:x≠"__name__":=by decide)(hdb:(x==("__debug__":Str))=false:=by decide)
  (he:starEach (e::es) X.env=(false,eval e X.env)::starEach es X.env:=by rfl)(hpl:(backTo pos (starEach es X.env)).any (·.1)=false:=by rfl):PE X (.Call (.Name x p) (e::es) [] pos) (Ru r t):=by
 intro BI s σ H Q I h;refine vq (oV I hg hm hv ?_ hn hdb);exact pw (bD (ha pos BI s σ H _ I h) λus s1 ⟨vs,H1,I1,r1,q1⟩=>hc BI s1 σ H1 vs us Q I1 r1 q1) he hpl
end
end L2
namespace HT
open PySem PyProof.Rows
def lexLt:AX->AX->Bool
 |[],[]=>false
 |[],_::_=>true
 |_::_,[]=>false
 |x::xs,y::ys=>if x=y then lexLt xs ys else decide (x<y)
theorem lexLt_cons(x y:Int)(xs ys:AX):lexLt (x::xs) (y::ys)=if x=y then lexLt xs ys else decide (x<y):=rfl
theorem Iv:lexLt [] []=false:=rfl
theorem Av(y:Int)(ys:AX):lexLt [] (y::ys)=true:=rfl
theorem Zu(x:Int)(xs:AX):lexLt (x::xs) []=false:=rfl
theorem O5(A:aq)(s:aa)(a:Int)(t:cv)(c:Int)(u:cv):∃e,jo A s (.int a t) (.int c u) e/\(e=true↔a=c):=
 ⟨(a==c),vw a t c u,by simp⟩
theorem O3(A:aq)(s:aa)(a:Int)(t:cv)(c:Int)(u:cv)(prog:Program)(w:am)(E:Value->aa->Prop)(Q:Value->aa->Prop)(h:Q (.bool (decide (a<c))) s):
  wpAny (model prog w) A (richCompare .Lt (.int a t) (.int c u)) Q E s:=
 (PyProof.Rows.lt_int h:wpAny (model prog w) A (compareOp .Lt (.int a t) (.int c u)) Q E s)
section
open PySem.SeqAt
open PySem.AutoSeq1 (wpAny_loadPart')
open PySem.MeetsSeq PySem.MeetsSeq2 PySem.MeetsSeq3
theorem Hv(l b:Addr)(items items2:Array Value)(n n2:Nat)(dd dd2:BC)(sl sl2:Array BB)(ns ms:AX)(hi:jh items.toList ns)(hj:jh items2.toList ms):
  Meets (Builtin.«tuple.__lt__» ⟨[.ref l,.ref b],[]⟩)
   (λ_ R s=>s.heap.get? l=some {cls:=.type "tuple",dict:=dd,data:=.seq items n,slots:=sl}/\s.heap.get? b=some {cls:=.type "tuple",dict:=dd2,data:=.seq items2 n2,slots:=sl2}/\
    R (.ok (.ret (.bool (lexLt ns ms)))) s):=
 .of_wp λprog w A R s h=>by
  obtain⟨hp,g,d,tk,os⟩:=s;obtain⟨hl,hb,h⟩:=h;have f2:=a7;have z1:items.size=ns.length:=by rw[<-hi.length];simp
  have z2:items2.size=ms.length:=by rw[<-hj.length];simp
  wp_walk using rn hl,rn hb,wpAny_forIn_list _ (λfF b s'=>b.1=none/\s'=⟨hp,g,d,tk,os⟩/\∃(vs ws:BA)(ns' ms':AX),fF=vs.zip ws/\
   jh vs ns'/\jh ws ms'/\ns'.length+items2.size=ms'.length+items.size/\R (.ok (.ret (.bool (lexLt ns' ms')))) ⟨hp,g,d,tk,os⟩) _
  case turn=>
   rintro⟨y,x⟩ fF b s' ⟨hb',rfl,vs,ws,ns',ms',hz,hvi,hwi,hlen,hR⟩
   cases hvi with
   |nil=>rw[List.zip_nil_left]at hz;cases hz
   |cons a t hvi'=>
    cases hwi with
    |nil=>rw[vz]at hz;cases hz
    |cons c u hwi'=>
     rw[rq]at hz;injection hz with hyx hrest;injection hyx with hy hx;subst hy hx;rw[lexLt_cons]at hR;simp only[ca]at hlen;obtain⟨e,he,hiff⟩:=O5 A.in1 ⟨hp,g,d,tk,os⟩ a t c u;refine ae (he prog w _ _ ?_);cases e with
     |true=>
      rw[if_pos (hiff.mp rfl)]at hR
      wp_walk
      exact⟨rfl,rfl,_,_,_,_,hrest,hvi',hwi',by omega,hR⟩
     |false=>
      rw[if_neg (λq=>absurd (hiff.mpr q) ij)]at hR;have hri:=O3 A.in1 ⟨hp,g,d,tk,os⟩ a t c u prog w
      wp_walk using hri
      exact⟨_,rfl,by simpa using hR⟩
  case fin=>
   rintro⟨b1,b2⟩ s' ⟨hb',rfl,vs,ws,ns',ms',hz,hvi,hwi,hlen,hR⟩
   simp only at hb';subst hb';have hv:lexLt ns' ms'=decide (items.size<items2.size):=by
    cases hvi with
    |nil=>
     cases hwi with
     |nil=>
      simp only[wg]at hlen;rw[Iv];exact(decide_eq_false (by omega)).symm
     |cons c u hw=>
      simp only[wg,ca]at hlen;rw[Av];exact(decide_eq_true (by omega)).symm
    |cons a t hv=>
     cases hwi with
     |nil=>
      simp only[wg,ca]at hlen;rw[Zu];exact(decide_eq_false (by omega)).symm
     |cons c u hw=>
      rw[rq]at hz;cases hz
   rw[hv]at hR
   wp_walk
   exact⟨_,rfl,by simpa[Builtin.Tuple.tupleCompareSizes]using hR⟩
  case h=>
   exact⟨rfl,rfl,items.toList,items2.toList,ns,ms,rfl,hi,hj,by omega,h⟩
end
section
variable{prog:Program}{w:am}{A:aq}{E:Value->aa->Prop}{s:aa}
theorem lt_tupInts{l b:Addr}{items items2:Array Value}{ns ms:AX}{Q:Value->aa->Prop}(hl:lc s.heap l items)(hb:lc s.heap b items2)(hi:jh items.toList ns)(hj:jh items2.toList ms)
  (hu:A.units<cLine)(h:Q (.bool (lexLt ns ms)) s):wpAny (model prog w) A (compareOp .Lt (.ref l) (.ref b)) Q E s:=by
 obtain⟨⟨cls,dd,data,sl⟩,ho,hc,n,hd⟩:=id hl;obtain⟨⟨cls2,dd2,data2,sl2⟩,ho2,hc2,n2,hd2⟩:=id hb;simp only at hc hd hc2 hd2;subst hc hd hc2 hd2;exact richCompare_meets_room (op:=.Lt) ⟨_,ho,rfl⟩ ⟨_,ho2,rfl⟩ PySem.F.slot_tuple_lt PySem.F.entry_tuple_lt (PySem.F.args_tuple_lt_2 _ _) (Hv l b items items2 n n2 dd dd2 sl sl2 ns ms hi hj)
  ⟨ho,ho2,show oz (lexLt ns ms)≠Value.notImplemented/\Q (.bool (lexLt ns ms)) s from⟨(λx=>nomatch x),h⟩⟩ hu
theorem cat_tup{t b:Addr}{vs ws:BA}{Q:Value->aa->Prop}(ht:lc s.heap t vs.toArray)(hb:lc s.heap b ws.toArray)(hv:vs≠[])
  (h1:ws=[]->Q (.ref t) s)(h2:ws≠[]->Q (.ref s.heap.objs.size) {s with heap:=s.heap.push {cls:=.type "tuple",data:=.seq (vs++ws).toArray}})
  (hsz:vs.length+ws.length<=sizeLine):wpAny (model prog w) A (binaryOp .Add (.ref t) (.ref b)) Q E s:=by
 obtain⟨⟨cls,dd,data,sl⟩,ho,hc,n,hd⟩:=id ht;obtain⟨⟨cls2,dd2,data2,sl2⟩,ho2,hc2,n2,hd2⟩:=id hb;simp only at hc hd hc2 hd2;subst hc hd hc2 hd2;have e:vs.toArray++ws.toArray=(vs++ws).toArray:=by simp
 by_cases hw:ws=[]
 .exact wj ⟨_,ho,rfl⟩ ⟨_,ho2,rfl⟩ noFill_tuple_add seq_tuple_add a9 c7 (c9 _ _)
   (tuple_addW1 t b vs.toArray ws.toArray n n2 dd dd2 sl sl2 (by simpa using hv) (by simp[hw])) ⟨ho,ho2,h1 hw⟩
 .refine wj ⟨_,ho,rfl⟩ ⟨_,ho2,rfl⟩ noFill_tuple_add seq_tuple_add a9 c7 (c9 _ _)
   (tuple_addW2 t b vs.toArray ws.toArray n n2 dd dd2 sl sl2 (by simpa using hv) (by simpa using hw) (by rw[au,au];exact hsz)) ⟨ho,ho2,?_⟩
  rw[e];exact h2 hw
def sIx(n d:Nat):BD->Nat
 |none=>d
 |some v=>if v<0 then(v+(n:Int)).toNat else min v.toNat n
theorem sIx_nat(n d k:Nat):sIx n d (some (k:Int))=min k n:=by
 show(if(k:Int)<0 then((k:Int)+(n:Int)).toNat else min (k:Int).toNat n)=min k n;rw[if_neg (by omega),mj]
theorem ab5(n d:Nat)(hd:d<=n)(o:BD):sIx n d o<=n:=by
 cases o with
 |none=>exact hd
 |some v=>
  show(if v<0 then(v+(n:Int)).toNat else min v.toNat n)<=n
  by_cases hv:v<0
  .rw[if_pos hv];omega
  .rw[if_neg hv];exact Nat.min_le_right _ _
theorem Wp(v:Int)(n d:Nat):(if v<0 then max (v+(n:Int)) 0 else min v (n:Int))=((sIx n d (some v):Nat):Int):=by
 show(if v<0 then max (v+(n:Int)) 0 else min v (n:Int))=(((if v<0 then(v+(n:Int)).toNat else min v.toNat n):Nat):Int)
 by_cases hv:v<0
 .simp only[if_pos hv];omega
 .simp only[if_neg hv];omega
theorem Tx(lo hi:BD)(n:Nat):wk lo hi 1 (n:Int)=(((sIx n 0 lo:Nat):Int),((sIx n n hi:Nat):Int)):=by
 have h1:¬((1:Int)<0):=by omega
 unfold wk;simp only[h1,if_false];refine se ?_ ?_
 .cases lo with
  |none=>rfl
  |some v=>exact Wp v n 0
 .cases hi with
  |none=>rfl
  |some v=>exact Wp v n n
theorem Rx(i j:Nat):sf (i:Int) (j:Int) 1=j-i:=by
 unfold sf;have h1:(1:Int)>0:=by omega
 simp only[h1,if_true,Int.ediv_one];split<;>omega
theorem Di{v:Value}{o:BD}{Q:BD->aa->Prop}(p:kr v o)(h:Q o s):wpAny (model prog w) A (Builtin.Slice.slicePartIndex v) Q E s:=by
 cases p with
 |none=>exact slicePart_none h
 |int i t=>exact slicePart_int h
theorem Tu{sl:Addr}{vl vu:Value}{lo hi:BD}{n:Nat}{Q:Int×Int×Nat->aa->Prop}(hs:s.heap.IsSliceOf sl vl vu .none)(pl:kr vl lo)(pu:kr vu hi)
  (h:Q (((sIx n 0 lo:Nat):Int),1,sIx n n hi-sIx n 0 lo) s):wpAny (model prog w) A (d5 (.ref sl) (pure (n:Int))) Q E s:=by
 obtain⟨os,hos,hcs,hds⟩:=id hs;unfold d5 Builtin.Slice.sliceFields;refine ae (ae (il hos hds (x:=vl) rfl (ae (il hos hds (x:=vu) rfl (ae (il hos hds (x:=.none) rfl (ak ?_)))))));refine ae (slicePart_none ?_);show wpAny _ _ (if((1:Int)==0)=true then _ else _) _ _ s;rw[if_neg (by decide)];refine ae (Di pl (ae (Di pu (ae (ak ?_)))));show wpAny _ _ (match wk lo hi 1 (n:Int)with |(lo,hi)=>pure (lo,(1:Int),sf lo hi 1)) _ _ s
 rw[Tx lo hi n];show wpAny _ _ (pure (((sIx n 0 lo:Nat):Int),(1:Int),sf ((sIx n 0 lo:Nat):Int) ((sIx n n hi:Nat):Int) 1)) _ _ s;rw[Rx];exact ak h
theorem P0(xs:Array Value)(i k:Nat):((bj k).filterMap λ(m:Nat)=>xs[((i:Int)+(m:Int)*1).toNat]?).toArray=((xs.toList.drop i).take k).toArray:=by
 have e:(λ(m:Nat)=>xs[((i:Int)+(m:Int)*1).toNat]?)=λm=>xs[i+m]?:=by
  funext m
  have:((i:Int)+(m:Int)*1).toNat=i+m:=by omega
  rw[this]
 rw[e];have:=pick_run xs i k;rw[oa]at this;have e2:((λx=>xs[x]?)∘λx=>i+x)=λm=>xs[i+m]?:=rfl;rw[e2]at this;rw[this]
theorem getItem_tuple_cut{t sl:Addr}{items:Array Value}{vl vu:Value}{lo hi:BD}{Q:Value->aa->Prop}(ht:lc s.heap t items)(hs:s.heap.IsSliceOf sl vl vu .none)(pl:kr vl lo)(pu:kr vu hi)
  (hw:¬(sIx items.size 0 lo=0/\sIx items.size items.size hi=items.size))
  (h:Q (.ref s.heap.objs.size) {s with heap:=s.heap.push {cls:=.type "tuple",data:=.seq ((items.toList.drop (sIx items.size 0 lo)).take (sIx items.size items.size hi-sIx items.size 0 lo)).toArray}})
  (hsz:items.size<=sizeLine):wpAny (model prog w) A (getItem (.ref t) (.ref sl)) Q E s:=by
 have htake:sizeOk (.seq ((items.toList.drop (sIx items.size 0 lo)).take (sIx items.size items.size hi-sIx items.size 0 lo)).toArray):=by
  show((items.toList.drop (sIx items.size 0 lo)).take (sIx items.size items.size hi-sIx items.size 0 lo)).toArray.size<=sizeLine;rw[au,jz,qi,nu];omega
 have hj:sIx items.size items.size hi<=items.size:=ab5 _ _ (aj _) hi;obtain⟨os,hos,hcs,hds⟩:=id hs;have hTs:s.TypeIs (.ref sl) "slice":=⟨os,hos,hcs⟩;unfold getItem
 try with_reducible refine jm ?_
 first |refine ae (ak ?_) |skip
 refine ae (wpAny_sequenceKey ht.typeIs (by decide) ?_);refine ae (mn (name:=io "__getitem__") ht.typeIs si
  (ju si ht.typeIs entry_tuple_getitem ?_ (args_tuple_getitem _ _)))
 show wpAny _ _ (d6 (.ref t) >>= _) _ _ s;refine ae (tupleItemsOf_ ht ?_);refine ae (wm hTs ?_);rw[if_pos (by decide)];refine ae (Tu hs pl pu ?_);have hno:¬((((sIx items.size 0 lo:Nat):Int)==0&&(1:Int)==1&&(sIx items.size items.size hi-sIx items.size 0 lo)==items.size)=true):=by
  intro q;rw[jb,jb]at q;have q1:((sIx items.size 0 lo:Nat):Int)=0:=eq_of_beq q.1.1;have q2:sIx items.size items.size hi-sIx items.size 0 lo=items.size:=eq_of_beq q.2;exact hw ⟨by omega,by omega⟩
 show wpAny _ _ (if(((sIx items.size 0 lo:Nat):Int)==0&&(1:Int)==1&&(sIx items.size items.size hi-sIx items.size 0 lo)==items.size)=true then _ else _) _ _ s;rw[if_neg hno,P0]
 first
  |exact ae (m:=sj _) (iy (ak ⟨_,rfl,ak h⟩) htake)
  |exact ae (m:=sj _) (iy (ae (ak (ak ⟨_,rfl,ak h⟩))) htake)
  |exact ae (ae (m:=sj _) (iy (ak (ak ⟨_,rfl,ak h⟩)) htake))
  |exact ae (ae (m:=sj _) (iy (ak ⟨_,rfl,ak h⟩) htake))
end
end HT
namespace L2
open PySem PySem.Spec PyProof.Rows
abbrev TO:=St->Hp->(BD->Hp->Prop)->Prop
def PO(X:Cx)(e:Option ah)(t:TO):Prop:=
 ∀(BI:List (Addr×Obj))(s:aa)(σ:St)(H:Hp)(Q:BD->Hp->Prop),aF X BI σ H s->t σ H Q->
  wpAny (model X.prog X.w) X.A (evalPart e X.env) (λu s'=>∃o H',aF X BI σ H' s'/\kr u o/\Q o H') X.xe s
def aah:TO:=λ_ H Q=>Q none H
def acq(t:TE):TO:=λσ H Q=>t σ H λx H1=>∃i,x=.int i/\Q (some i) H1
theorem Gi{ns:AX}:∀{us:BA},bA (ns.map V.int) us->jh us ns:=by
 induction ns with
 |nil=>intro us r;rw[cw]at r;cases r;exact .nil
 |cons n ns ih=>
  intro us r;rw[aw]at r;cases r with
  |cons r1 r2=>
   obtain⟨t,e⟩:=r1;subst e;exact .cons n t (ih r2)
section
variable{X:Cx}{e:ah}{te:TE}{lo hi:Option ah}{tl th:TO}{pos p2:ai}
theorem Z4:PO X none aah:=by
 intro BI s σ H Q I h;rw[evalPart_none];exact ak ⟨none,H,I,.none,h⟩
theorem Ac(h:PE X e te):PO X (some e) (acq te):=by
 intro BI s σ H Q I hw;rw[evalPart_some];refine bD (h BI s σ H _ I hw) ?_
 rintro u s1 ⟨x,H1,I1,r1,q1⟩
 obtain⟨i,rfl,q⟩:=q1;obtain⟨t,rfl⟩:=r1;exact⟨some i,H1,I1,.int i t,q⟩
def nY(X:Cx)(r:V->BD->BD->Hp->VK->Prop):Prop:=
 ∀(BI:List (Addr×Obj))(s:aa)(σ:St)(H:Hp)(x:V)(v vl vu:Value)(lo hi:BD)(sl:Addr)(Q:VK),aF X BI σ H s->bQ x v->s.heap.IsSliceOf sl vl vu .none->kr vl lo->kr vu hi->r x lo hi H Q->
  ∃T id,typeLookup (.type T) "__getitem__"=pure (some (.builtin id))/\s.TypeIs v T/\wpAny (model X.prog X.w) X.A (getItem v (.ref sl)) (EP X BI σ Q) X.xe s
theorem nY.or{r r':V->BD->BD->Hp->VK->Prop}(h:nY X r)(h':nY X r'):nY X (λx lo hi H Q=>r x lo hi H Q\/r' x lo hi H Q):=by
 intro BI s σ H x v vl vu lo hi sl Q I rx hs pl pu q;rcases q with q |q
 .exact h BI s σ H x v vl vu lo hi sl Q I rx hs pl pu q
 .exact h' BI s σ H x v vl vu lo hi sl Q I rx hs pl pu q
def tSl(r:V->BD->BD->Hp->VK->Prop)(te:TE)(tl th:TO):TE:=λσ H Q=>te σ H λx H1=>tl σ H1 λl H2=>th σ H2 λu H3=>r x l u H3 Q
theorem A6{r:V->BD->BD->Hp->VK->Prop}(hr:nY X r)(he:PE X e te)(hl:PO X lo tl)(hu:PO X hi th):PE X (.Subscript e (.Slice lo hi none p2) pos) (tSl r te tl th):=by
 intro BI s σ H Q I h;refine wo (bD (he BI s σ H _ I h) λv s1 hq=>?_);rcases hq with⟨x,H1,I1,r1,q1⟩;refine wpAny_Slice (bD (hl BI s1 σ H1 _ I1 q1) λvl s2 ⟨l,H2,I2,pl,q2⟩=>bD (hu BI s2 σ H2 _ I2 q2) λvu s3 hq=>?_);rcases hq with⟨u,H3,I3,pu,q3⟩;rw[evalPart_none];refine ak ?_;have I4:aF X BI σ H3 {s3 with heap:=s3.heap.push {cls:=.type "slice",data:=.fields #[vl,vu,.none]}}:=I3.kept (t':=s3.toks) λb ob q=>ar _ q;obtain⟨T,id,hT,ht,hg⟩:=hr BI {s3 with heap:=s3.heap.push {cls:=.type "slice",data:=.fields #[vl,vu,.none]}} σ H3 x v vl vu l u s3.heap.objs.size Q I4 r1 (d7 ..) pl pu q3;show wpAny (model X.prog X.w) X.A (subscriptTail e (.Slice lo hi none p2) v (.ref s3.heap.objs.size)) (EP X BI σ Q) X.xe {s3 with heap:=s3.heap.push {cls:=.type "slice",data:=.fields #[vl,vu,.none]}};exact tail_any (ops:=[.ref s3.heap.objs.size,v]) ht hT hg (by with_unfolding_all rfl)
def nP(xs:List V)(lo hi:BD):List V:=(xs.drop (HT.sIx xs.length 0 lo)).take (HT.sIx xs.length xs.length hi-HT.sIx xs.length 0 lo)
theorem uP(xs:List V)(lo hi:BD):(nP xs lo hi).length<=xs.length:=by
 unfold nP;rw[jz,qi];omega
def adG(K:ag):V->BD->BD->Hp->VK->Prop:=λx lo hi H Q=>∃a xs,x=.ref a/\cT K H a xs/\
 ¬(HT.sIx xs.length 0 lo=0/\HT.sIx xs.length xs.length hi=xs.length)/\∀p,H p=none->Q (.ref p) (aL H p (.tup (nP xs lo hi)))
theorem abb:nY X (adG X.K):=by
 intro BI s σ H x v vl vu lo hi sl Q I rx hs pl pu h;obtain⟨a,xs,rfl,hx,hw,q⟩:=h;cases rx;obtain⟨its,r,ht,hz⟩:=I.tuple hx;have hlen:its.toArray.size=xs.length:=by rw[au];exact r.length.symm
 refine⟨"tuple",_,si.lookup,ht.typeIs,?_⟩;refine HT.getItem_tuple_cut ht hs pl pu (by rw[hlen];exact hw) ?_ (by rw[hlen];exact hz);rw[hlen];refine⟨.ref s.heap.objs.size,_,I.laid (t':=s.toks) (o:=.tup (nP xs lo hi)) (λb ob q=>ar _ q) (aj _) ?_,rfl,q _ (I.hok.fresh (aj _))⟩;exact⟨fm (uP xs lo hi) hz,_,(r.drop (HT.sIx xs.length 0 lo)).take (HT.sIx xs.length xs.length hi-HT.sIx xs.length 0 lo),rl _ _⟩
def Ms(K:ag):R2:=λx y H Q=>∃a b xs ys,x=.ref a/\y=.ref b/\cT K H a xs/\cT K H b ys/\xs≠[]/\xs.length+ys.length<=sizeLine/\
 (ys=[]->Q (.ref a) H)/\(ys≠[]->∀p,H p=none->Q (.ref p) (aL H p (.tup (xs++ys))))
theorem bA.nil_iff{xs:List V}{us:BA}(r:bA xs us):us=[]↔xs=[]:=by
 cases r with
 |nil=>simp
 |cons _ _=>simp
theorem Q1:eJ X (binaryOp .Add) (Ms X.K):=by
 intro BI s σ H x y v u Q I rx ry h;obtain⟨a,b,xs,ys,rfl,rfl,ha,hb,hx,hz,q1,q2⟩:=h;cases rx;cases ry;obtain⟨its,r1,p1,_⟩:=I.tuple ha;obtain⟨its2,r2,p2,_⟩:=I.tuple hb;refine HT.cat_tup p1 p2 (λz=>hx (r1.nil_iff.mp z)) (λz=>⟨.ref a,H,I,rfl,q1 (r2.nil_iff.mp z)⟩) (λz=>?_) (by rw[<-r1.length,<-r2.length];exact hz);refine⟨.ref s.heap.objs.size,_,I.laid (t':=s.toks) (o:=.tup (xs++ys)) (λb ob q=>ar _ q) (aj _) ?_,rfl,q2 (λw=>z (r2.nil_iff.mpr w)) _ (I.hok.fresh (aj _))⟩;exact⟨by rw[bh];exact hz,_,r1.append r2,rl _ _⟩
end
def bF(n:Nat)(i:Int):Option Nat:=if 0<=i then(if i<n then some i.toNat else none)else if-(n:Int)<=i then some (i+n).toNat else none
def bC{α:Type}(xs:List α)(i:Int):Option α:=(bF xs.length i).bind λj=>xs[j]?
theorem Eo{n:Nat}{i:Int}{j:Nat}(h:bF n i=some j):seqIndex? i n=some j/\j<n/\-(n:Int)<=i/\i<n:=by
 unfold bF at h
 by_cases h0:0<=i
 .rw[if_pos h0]at h
  by_cases h1:i<n
  .rw[if_pos h1]at h
   have e:i.toNat=j:=ci h;exact⟨by rw[wp h0 h1,e],by omega,by omega,h1⟩
  .rw[if_neg h1]at h;cases h
 .rw[if_neg h0]at h
  by_cases h1:-(n:Int)<=i
  .rw[if_pos h1]at h
   have e:(i+n).toNat=j:=ci h;exact⟨by rw[wq (by omega) h1,e],by omega,h1,by omega⟩
  .rw[if_neg h1]at h;cases h
theorem Yb{α:Type}{xs:List α}{i:Int}{v:α}(h:bC xs i=some v):∃j,seqIndex? i xs.length=some j/\xs[j]?=some v/\j<xs.length/\-(xs.length:Int)<=i/\i<xs.length:=by
 unfold bC at h;cases e:bF xs.length i with
 |none=>rw[e]at h;cases h
 |some j=>
  rw[e]at h;obtain⟨h1,h2,h3,h4⟩:=Eo e;exact⟨j,h1,h,h2,h3,h4⟩
theorem vR{α:Type}{xs:List α}{j:Nat}{v:α}(h:xs[j]?=some v):bC xs (j:Int)=some v:=by
 have hj:j<xs.length:=(ce.mp h).1;have e:bF xs.length (j:Int)=some j:=by
  unfold bF;rw[if_pos (by omega),if_pos (by omega)];simp
 unfold bC;rw[e];exact h
theorem D7{α:Type}(xs:List α)(v:α):bC (xs++[v]) (-1)=some v:=by
 have hl:(xs++[v]).length=xs.length+1:=by simp
 have e:bF (xs++[v]).length (-1)=some xs.length:=by
  unfold bF;rw[hl,if_neg (by decide),if_pos (by omega)];congr 1;omega
 unfold bC;rw[e];show(xs++[v])[xs.length]?=some v;simp
def sH(b:ah):Prop:=∀o i,subscripted b false o i=operate [o,i] (getItem o i)
def lS(X:Cx)(r:R2):Prop:=
 ∀(value slice:ah)(BI:List (Addr×Obj))(s:aa)(σ:St)(H:Hp)(x y:V)(v u:Value)(Q:VK),aF X BI σ H s->bQ x v->bQ y u->r x y H Q->
  subscripted slice false v u=operate [v,u] (getItem v u)->wpAny (model X.prog X.w) X.A (subscriptTail value slice v u) (EP X BI σ Q) X.xe s
def yK(X:Cx)(id:String)(r:V->List V->Hp->VK->Prop):Prop:=
 ∀(BI:List (Addr×Obj))(s:aa)(σ:St)(H:Hp)(x:V)(xs:List V)(v:Value)(us:BA)(Q:VK),aF X BI σ H s->bQ x v->bA xs us->r x xs H Q->
  wpAny (model X.prog X.w) X.A (call (.builtin id) (v::us)) (EP X BI σ Q) X.xe s
section
variable{X:Cx}{a b:ah}{ta tb:TE}{pos:ai}
theorem lS.or{r r':R2}(h:lS X r)(h':lS X r'):lS X (λx y H Q=>r x y H Q\/r' x y H Q):=by
 intro value slice BI s σ H x y v u Q I rx ry q hs;rcases q with q |q
 .exact h value slice BI s σ H x y v u Q I rx ry q hs
 .exact h' value slice BI s σ H x y v u Q I rx ry q hs
theorem xP{r:R2}(hr:lS X r)(ha:PE X a ta)(hb:PE X b tb)(hs:sH b):PE X (.Subscript a b pos) (yX r ta tb):=by
 intro BI s σ H Q I h;exact wo (Xe ha hb I h λv u s2 x y H2 I2 rx ry q=>hr a b BI s2 σ H2 x y v u Q I2 rx ry q (hs _ _))
def Nt(K:ag):R2:=λx y H Q=>∃p xs i v,x=.ref p/\y=.int i/\bV K H p xs/\bC xs i=some v/\Q v H
def Ot(K:ag):R2:=λx y H Q=>∃p xs i v,x=.ref p/\y=.int i/\cT K H p xs/\bC xs i=some v/\Q v H
def Yt:R2:=λx y H Q=>∃z i c,x=.str z/\y=.int i/\z.length<=sizeLine/\bC z.cps.toList i=some c/\Q (.str ⟨#[c]⟩) H
theorem P6:lS X (Nt X.K):=by
 intro value slice BI s σ H x y v u Q I rx ry h hs;obtain⟨p,xs,i,z,rfl,rfl,hq,he,q⟩:=h;cases rx;obtain⟨t,rfl⟩:=ry;obtain⟨its,r,pl,hz⟩:=I.list hq;obtain⟨j,h1,h2,h3,h4,h5⟩:=Yb he;obtain⟨w,ew,rw'⟩:=r.get h2;have hl:=r.length;have hn:=qQ;have fin:EP X BI σ Q w s:=⟨z,H,I,rw',q⟩
 by_cases h0:0<=i
 .have hj:i.toNat=j:=by
   rw[wp h0 h5]at h1;exact ci h1
  exact item_listR pl.isList h0 (by omega) (by rw[hj];simpa using ew) fin hs
 .have hj:(i+(its.toArray.size:Int)).toNat=j:=by
   rw[wq (by omega) h4]at h1;rw[au,<-hl];exact ci h1
  exact d8 (x:=w) pl.isList.typeIs wr.lookup
   (wpAny_getItem_list_neg (Q:=λr s'=>r=w/\EP X BI σ Q r s') pl.isList (by omega) (by rw[au]<;>omega) (by omega) (by rw[hj];simpa using ew) ⟨rfl,fin⟩) hs
theorem abi:lS X (Ot X.K):=by
 intro value slice BI s σ H x y v u Q I rx ry h hs;obtain⟨p,xs,i,z,rfl,rfl,hq,he,q⟩:=h;cases rx;obtain⟨t,rfl⟩:=ry;obtain⟨its,r,pl,hz⟩:=I.tuple hq;obtain⟨j,h1,h2,h3,h4,h5⟩:=Yb he;obtain⟨w,ew,rw'⟩:=r.get h2;have hl:=r.length;have hn:=qQ;have fin:EP X BI σ Q w s:=⟨z,H,I,rw',q⟩;exact d8 (x:=w) pl.typeIs si.lookup
  (getItem_tuple (j:=j) (Q:=λr s'=>r=w/\EP X BI σ Q r s') pl (by omega) (by omega) (by rw[au,<-hl];exact h1) (by simpa using ew) ⟨rfl,fin⟩) hs
theorem abz:lS X Yt:=by
 intro value slice BI s σ H x y v u Q I rx ry h hs;obtain⟨z,i,c,rfl,rfl,hz,he,q⟩:=h;obtain⟨t,rfl⟩:=rx;obtain⟨t',rfl⟩:=ry;obtain⟨j,h1,h2,h3,h4,h5⟩:=Yb he;have hl:z.cps.toList.length=z.length:=by simp[Str.length]
 rw[hl]at h1 h4 h5;have hn:=qQ;exact tail_any (typeIs_str s z t) slot_str_getitem.lookup (getItem_str (c:=c) (by
  have e1:decide (i< -(2^63:Int))=false:=decide_eq_false (by omega);have e2:decide (i>=2^63)=false:=decide_eq_false (by omega);rw[e1,e2,Bool.or_false]) (by rw[h1];simpa using h2) ⟨.str ⟨#[c]⟩,H,I.tok _,⟨_,rfl⟩,q⟩) hs
def Nu(K:ag):R2:=λx y H Q=>Nt K x y H Q\/Ot K x y H Q\/Yt x y H Q
theorem Pr:lS X (Nu X.K):=P6.or (abi.or abz)
theorem Ey(its:BA)(n j:Nat)(u:Value):dq (·.setIfInBounds j u) {cls:=.type "list",data:=.seq its.toArray n}={cls:=.type "list",data:=.seq (its.set j u).toArray n}:=by
 simp[dq]
theorem aF.lst{BI:List (Addr×Obj)}{σ:St}{H:Hp}{s:aa}{p:Addr}{xs:List V}(I:aF X BI σ H s)(h:H p=some (.lst xs)):
  ∃(its:BA)(n:Nat),bA xs its/\s.heap.get? p=some {cls:=.type "list",data:=.seq its.toArray n}/\xs.length<=sizeLine:=by
 obtain⟨z,its,n,r,e⟩:=I.hok p _ h;exact⟨its,n,r,e,z⟩
theorem aF.lstUpd{BI:List (Addr×Obj)}{σ:St}{H:Hp}{s:aa}{p:Addr}{xs ys:List V}{its its':BA}{n n':Nat}{f:Obj->Obj}(I:aF X BI σ H s)(h:H p=some (.lst xs))
  (ho:s.heap.get? p=some {cls:=.type "list",data:=.seq its.toArray n})(hf:f {cls:=.type "list",data:=.seq its.toArray n}={cls:=.type "list",data:=.seq its'.toArray n'})(r:bA ys its')(hz:ys.length<=sizeLine)(t:Nat):
  aF X BI σ (aL H p (.lst ys)) {s with heap:=s.heap.update p f,toks:=t}:=by
 have e:(s.heap.update p f).get? p=some {cls:=.type "list",data:=.seq its'.toArray n'}:=by
  rw[sk f ho (by rw[hf]<;>rfl),hf]
 refine I.write (x:=p) (e:=p) (by rw[h];trivial) (.inl rfl) (λb u hb q=>(d9 _ _ (iw hb)).trans q) ⟨_,e⟩ ?_;exact⟨hz,its',n',r,e⟩
def ace:V->V->V->Hp->(Hp->Prop)->Prop:=λo i v H Q=>∃p xs k j,o=.ref p/\i=.int k/\H p=some (.lst xs)/\bF xs.length k=some j/\Q (aL H p (.lst (xs.set j v)))
theorem Wk:Ef X ace:=by
 intro BI s σ H o i v ov iv u Q I ro ri rv h;obtain⟨p,xs,k,j,rfl,rfl,hp,hj,q⟩:=h;cases ro;obtain⟨t,rfl⟩:=ri;obtain⟨its,n,r,ho,hz⟩:=I.lst hp;obtain⟨h1,h2,h3,h4⟩:=Eo hj;have hl:=r.length;have hn:=qQ;have I':aF X BI σ (aL H p (.lst (xs.set j v))) {s with heap:=s.heap.update p (dq (·.setIfInBounds j u))}:=
  I.lstUpd hp ho (Ey its n j u) (r.set rv j) (by rw[fk];exact hz) s.toks
 by_cases h0:0<=k
 .have hk:k.toNat=j:=by
   rw[wp h0 h4]at h1;exact ci h1
  exact PySem.W.ki_setAt ho h0 (by omega) (by rw[au,<-hl];exact h4) (by rw[hk];exact⟨_,I',q⟩)
 .have hk:(k+(its.toArray.size:Int)).toNat=j:=by
   rw[wq (by omega) h3]at h1;rw[au,<-hl];exact ci h1
  exact PySem.W.ki_setBack ho (by omega) (by rw[au,<-hl];exact h3) (by omega) (by rw[hk];exact⟨_,I',q⟩)
theorem Yv(lo hi:BD)(n:Nat):(sliceBounds lo hi none n).1=((HT.sIx n 0 lo:Nat):Int)/\(sliceBounds lo hi none n).2.1=((HT.sIx n n hi:Nat):Int)/\(sliceBounds lo hi none n).2.2=1:=by
 refine⟨?_,?_,rfl⟩
 .cases lo with
  |none=>simp[sliceBounds,HT.sIx]
  |some i=>
   simp only[sliceBounds,HT.sIx,f6,show(1:Int)>0 by decide,if_true]
   by_cases h:i<0
   .simp only[h,if_true]<;>omega
   .simp only[h,if_false]<;>omega
 .cases hi with
  |none=>simp[sliceBounds,HT.sIx]
  |some i=>
   simp only[sliceBounds,HT.sIx,f6,show(1:Int)>0 by decide,if_true]
   by_cases h:i<0
   .simp only[h,if_true]<;>omega
   .simp only[h,if_false]<;>omega
theorem Cv(its:BA)(lo hi:BD):slicePick its.toArray lo hi none=((its.drop (HT.sIx its.length 0 lo)).take (HT.sIx its.length its.length hi-HT.sIx its.length 0 lo)).toArray:=by
 obtain⟨h1,h2,h3⟩:=Yv lo hi its.toArray.size;unfold slicePick;rw[h1,h2,h3];simp only[sliceRange_one,pick_run,au]<;>rfl
def adw(K:ag):V->BD->BD->Hp->VK->Prop:=λx lo hi H Q=>∃a xs,x=.ref a/\bV K H a xs/\∀p,H p=none->Q (.ref p) (aL H p (.lst (nP xs lo hi)))
theorem T5:nY X (adw X.K):=by
 intro BI s σ H x v vl vu lo hi sl Q I rx hs pl pu h;obtain⟨a,xs,rfl,hx,q⟩:=h;cases rx;obtain⟨its,r,ht,hz⟩:=I.list hx;have hlen:=r.length;refine⟨"list",_,wr.lookup,ht.isList.typeIs,?_⟩;refine f7 ht.isList hs pl pu .none (by simp) ?_ (by rw[au]<;>omega);rw[Cv,<-hlen];refine⟨.ref s.heap.objs.size,_,I.laid (t':=s.toks) (o:=.lst (nP xs lo hi)) (λb ob q=>ar _ q) (aj _) ?_,rfl,q _ (I.hok.fresh (aj _))⟩;exact⟨fm (uP xs lo hi) hz,_,0,(r.drop (HT.sIx xs.length 0 lo)).take (HT.sIx xs.length xs.length hi-HT.sIx xs.length 0 lo),da _ rfl⟩
theorem Tv:iF X (.builtin "len") (λxs H Q=>∃p ys,xs=[.ref p]/\(bV X.K H p ys\/cT X.K H p ys)/\Q (.int ys.length) H):=by
 intro BI s σ H xs us Q I r h;obtain⟨p,ys,rfl,hq,q⟩:=h;obtain⟨u,rfl,rx⟩:=jG r;cases rx;have hn:=qQ;rcases hq with hq |hq
 .obtain⟨its,r',pl,hz⟩:=I.list hq
  have hlen:=r'.length;exact Calls.call_len_list pl.isList (by simp only[au]<;>omega) ⟨.int ys.length,H,I.tok _,⟨s.toks+1,by rw[au,hlen]⟩,q⟩
 .obtain⟨its,r',pl,hz⟩:=I.tuple hq
  have hlen:=r'.length;exact len_tuple pl (by simp only[au]<;>omega) ⟨.int ys.length,H,I.tok _,⟨s.toks+1,by rw[au,hlen]⟩,q⟩
theorem zH:iF X (.type "list") (λxs H Q=>∃p ys,xs=[.ref p]/\(bV X.K H p ys\/cT X.K H p ys)/\∀l,H l=none->Q (.ref l) (aL H l (.lst ys))):=by
 intro BI s σ H xs us Q I r h;obtain⟨p,ys,rfl,hq,q⟩:=h;obtain⟨u,rfl,rx⟩:=jG r;cases rx;have fin:∀(its:BA),bA ys its->ys.length<=sizeLine->∀(h':Heap)(c':Nat),(∀b o',s.heap.get? b=some o'->h'.get? b=some o')->
   h'.get? s.heap.objs.size=some {cls:=.type "list",dict:=none,data:=.seq its.toArray c',slots:=#[]}->EP X BI σ Q (.ref s.heap.objs.size) {s with heap:=h'}:=λits r' hz h' c' kp e=>
  ⟨.ref s.heap.objs.size,_,I.laid (t':=s.toks) kp (aj _) (show fS X.prog X.w _ h' _ (.lst ys) from⟨hz,its,c',r',e⟩),rfl,q _ (I.hok.fresh (aj _))⟩
 rcases hq with hq |hq
 .obtain⟨its,r',pl,hz⟩:=I.list hq
  have hlen:=r'.length;obtain⟨o,ho,hc,n,hd⟩:=pl.isList;exact call_list_seq p (.inl rfl) ho hc hd (λh' c' kp e=>fin its r' hz h' c' kp e) (by simp only[au]<;>omega)
 .obtain⟨its,r',pl,hz⟩:=I.tuple hq
  have hlen:=r'.length;obtain⟨o,ho,hc,n,hd⟩:=pl;exact call_list_seq p (.inr rfl) ho hc hd (λh' c' kp e=>fin its r' hz h' c' kp e) (by simp only[au]<;>omega)
theorem Fv:iF X (.type "tuple") (λxs H Q=>∃p ys,xs=[.ref p]/\((bV X.K H p ys/\∀l,H l=none->Q (.ref l) (aL H l (.tup ys)))\/(cT X.K H p ys/\Q (.ref p) H))):=by
 intro BI s σ H xs us Q I r h;obtain⟨p,ys,rfl,h⟩:=h;obtain⟨u,rfl,rx⟩:=jG r;cases rx;rcases h with⟨hq,q⟩|⟨hq,q⟩
 .obtain⟨its,r',pl,hz⟩:=I.list hq
  have hlen:=r'.length;refine call_tuple_list pl.isList (λh' kp=>?_) (by simp only[au]<;>omega);have I1:aF X BI σ H {s with heap:=h'}:=I.kept (t':=s.toks) kp;have I2:aF X BI σ (aL H h'.objs.size (.tup ys)) {s with heap:=h'.push {cls:=.type "tuple",data:=.seq its.toArray}}:=
   I1.laid (t':=s.toks) (λb o e=>ar _ e) (aj _) (show fS X.prog X.w _ _ _ (.tup ys) from⟨hz,its,r',rl _ _⟩)
  exact⟨.ref h'.objs.size,_,I2,rfl,q _ (I1.hok.fresh (aj _))⟩
 .obtain⟨its,r',pl,hz⟩:=I.tuple hq
  exact call_tuple_same pl ⟨.ref p,H,I,rfl,q⟩
def Nf(K:ag)(T:String)(x:V)(H:Hp):Prop:=match x with
 |.str _=>T="str"
 |.int _=>T="int"
 |.ref p=>(T="list"/\∃xs,bV K H p xs)\/(T="tuple"/\∃o,K.lookup p=some o/\o.cls=.type "tuple"/\o.dict=none)\/
   (T="dict"/\((∃kvs,H p=some (.dK kvs))\/∃kvs,H p=some (.dT kvs)))\/(T="set"/\∃S n,H p=some (.set S n))
 |_=>False
theorem aa3{BI:List (Addr×Obj)}{σ:St}{H:Hp}{s:aa}{T:String}{x:V}{v:Value}(I:aF X BI σ H s)(r:bQ x v)(ty:Nf X.K T x H):
  s.TypeIs v T/\∀a,v=.ref a->∃ob,s.heap.get? a=some ob/\ob.dict=none:=by
 cases x with
 |str z=>
  obtain⟨t,rfl⟩:=r;cases(show T="str" from ty);exact⟨typeIs_str s z t,λ_ e=>nomatch e⟩
 |int i=>
  obtain⟨t,rfl⟩:=r;cases(show T="int" from ty);exact⟨typeIs_int s i t,λ_ e=>nomatch e⟩
 |ref p=>
  cases r;rcases ty with⟨rfl,xs,hq⟩|⟨rfl,o,hk,hc,hd⟩|⟨rfl,hk⟩|⟨rfl,S,n,hk⟩
  .obtain⟨its,_,pl,_⟩:=I.list hq
   refine⟨pl.isList.typeIs,λa e=>?_⟩;cases e;obtain⟨o,n,e,c,hd,_⟩:=pl;exact⟨o,e,hd⟩
  .refine⟨⟨o,I.kIn p o hk,hc⟩,λa e=>?_⟩
   cases e;exact⟨o,I.kIn _ o hk,hd⟩
  .have z:∃o,s.heap.get? p=some o/\o.ExactDict:=by
    rcases hk with⟨kvs,hk⟩|⟨kvs,hk⟩
    .obtain⟨_,_,_,_,o,_,_,e,ex,_⟩:=I.hok p _ hk
     exact⟨o,e,ex⟩
    .obtain⟨_,_,_,_,o,_,_,e,ex,_⟩:=I.hok p _ hk
     exact⟨o,e,ex⟩
   obtain⟨o,e,ex⟩:=z;refine⟨⟨o,e,ex.1⟩,λa e2=>?_⟩;cases e2;exact⟨o,e,ex.2.1⟩
  .obtain⟨o,_,_,_,e,ex,_⟩:=I.hok p _ hk
   refine⟨⟨o,e,ex.1⟩,λa e2=>?_⟩;cases e2;exact⟨o,e,ex.2.1⟩
 |_=>exact jr ty
def tBM(K:ag)(T:String)(r:V->List V->Hp->VK->Prop)(to:TE)(t:TA):TE:=λσ H Q=>to σ H λx H1=>Nf K T x H1/\t σ H1 λxs H2=>r x xs H2 Q
variable{o e:ah}{es:List ah}{to:TE}{t:TA}{name:Str}{apos cpos:ai}{T id:String}{r:V->List V->Hp->VK->Prop}
theorem xG(pa:PlainAttrs T)(slot:Slot T name id)(hty:typeOf (.builtin id)=pure (.type "method_descriptor"))(hm:yK X id r)(ho:PE X o to)(ha:PA X (e::es) t)
  (hbase:attributeBase o name X.env (eval o X.env)=eval o X.env:=by rfl)
  (hfew:((backTo cpos (starEach (e::es) X.env)).all (λx=>!x.1)&&(backToKw cpos (keywordEach [] X.env)).all (λx=>x.1.isSome)
   &&decide ((e::es).length+([]:List fz).length+(if([]:List fz).isEmpty then 0 else 1)<30))=true:=by rfl)
  (hline:(apos.endLine==cpos.line)=true:=by rfl)(hs:starEach (e::es) X.env=(false,eval e X.env)::starEach es X.env:=by rfl)(hplain:(backTo cpos (starEach es X.env)).any (·.1)=false:=by rfl):
  PE X (.Call (.Attribute o name apos) (e::es) [] cpos) (tBM X.K T r to t):=by
 intro BI s σ H Q I h;refine f9 hbase hfew hline rfl (bD (ho BI s σ H _ I h) λv s1 hq=>?_);rcases hq with⟨x,H1,I1,r1,ty,q1⟩;obtain⟨h1,h2⟩:=aa3 I1 r1 ty;refine⟨T,id,pa,slot,hty,h1,h2,?_⟩;have hA:=ha cpos BI s1 σ H1 _ I1 q1;rw[hs]at hA⊢;refine g7 (by show(false||(backTo cpos (starEach es X.env)).any (·.1))=false;rw[hplain]<;>rfl) (wt ?_);exact bD hA λus s2 ⟨vs,H2,I2,r2,q2⟩=>hm BI s2 σ H2 x vs v us Q I2 r1 r2 q2
end
def Qu(X:Cx)(id:String)(r:V->List V->Hp->VK->Prop):Prop:=
 ∀(BI:List (Addr×Obj))(s:aa)(σ:St)(H:Hp)(x:V)(xs:List V)(v:Value)(us:BA)(Q:VK),aF X BI σ H s->bQ x v->bA xs us->r x xs H Q->
  wpAny (model X.prog X.w) X.A (call (.builtin id) (v::us)) (EP X BI σ Q) X.xe s
theorem bA.one:∀{x:V}{us:BA},bA [x] us->∃u,us=[u]/\bQ x u:=by
 rintro _ _ (_ |⟨r,_ |_⟩)
 exact⟨_,rfl,r⟩
theorem bA.two:∀{x y:V}{us:BA},bA [x,y] us->∃u v,us=[u,v]/\bQ x u/\bQ y v:=by
 rintro _ _ _ (_ |⟨r,_ |⟨q,_ |_⟩⟩)
 exact⟨_,_,rfl,r,q⟩
theorem bA.eraseIdx:∀{xs:List V}{us:BA}(i:Nat),bA xs us->bA (xs.eraseIdx i) (us.eraseIdx i)
 |_,_,_,.nil=>.nil
 |_,_,0,.cons _ t=>t
 |_,_,i+1,.cons r t=>.cons r (bA.eraseIdx i t)
theorem Oa{α:Type}:∀(l:List α)(i:Nat),(l.eraseIdx i).length<=l.length
 |[],_=>aj _
 |_::_,0=>og _
 |_::r,i+1=>g8 (Oa r i)
section
variable{X:Cx}{BI:List (Addr×Obj)}{σ:St}{H:Hp}{s:aa}{l b:Addr}{xs ys zs:List V}
theorem aF.lset{its its':BA}{n:Nat}{f:Array Value->Array Value}{t':Nat}(I:aF X BI σ H s)(hH:H l=some (.lst xs))
  (e:s.heap.get? l=some {cls:=.type "list",data:=.seq its.toArray n})(hf:f its.toArray=its'.toArray)(hv:bA ys its')(hz:ys.length<=sizeLine):
  aF X BI σ (aL H l (.lst ys)) {s with heap:=s.heap.update l (dq f),toks:=t'}:=by
 have q:=PySem.IsL.update e f;rw[hf]at q;refine I.write (x:=l) (e:=l) (by rw[hH];exact trivial) (.inl rfl) (λb' u hb hu=>(d9 s.heap (dq f) (iw hb)).trans hu) ⟨_,q⟩ ?_;exact⟨hz,its',_,hv,q⟩
theorem aF.lnew{its:BA}{t':Nat}(I:aF X BI σ H s)(hv:bA ys its)(hz:ys.length<=sizeLine):
  aF X BI σ (aL H s.heap.objs.size (.lst ys)) {s with heap:=s.heap.push {cls:=.type "list",data:=.seq its.toArray},toks:=t'}:=
 I.laid (λ_ _ q=>ar _ q) (aj _) ⟨hz,its,0,hv,da _ rfl⟩
theorem aF.fresh(I:aF X BI σ H s):H s.heap.objs.size=none:=I.hok.fresh (aj _)
theorem aF.lstM(I:aF X BI σ H s)(hH:H l=some (.lst xs)):xs.length<=sizeLine/\∃(its:BA)(n:Nat),bA xs its/\xs.length=its.length/\s.heap.get? l=some {cls:=.type "list",data:=.seq its.toArray n}:=by
 obtain⟨z,its,n,r,e⟩:=I.hok l _ hH;exact⟨z,its,n,r,r.length,e⟩
theorem M9{n:Nat}(h:n<=sizeLine):sr n=false:=by
 unfold sr;exact decide_eq_false (by omega)
end
section
variable{X:Cx}
def aaF:V->List V->Hp->VK->Prop:=λx vs H Q=>∃l xs y,x=.ref l/\vs=[y]/\H l=some (.lst xs)/\xs.length<sizeLine/\Q .non (aL H l (.lst (xs++[y])))
theorem qD:Qu X "list.append" aaF:=by
 intro BI s σ H x vs v us Q I rx rv h;obtain⟨l,xs,y,rfl,rfl,hH,hz,q⟩:=h;cases rx;obtain⟨u,rfl,ru⟩:=rv.one;obtain⟨z,its,n,r,hl,e⟩:=I.lstM hH;refine wu ss ⟨_,e,rfl⟩ F.entry_list_append (F.args_list_append_2 _ _) (PySem.list_append l its.toArray n u (by rw[au];omega)) ⟨e,?_⟩;refine⟨.non,_,I.lset (its':=its++[u]) hH e (by simp) (r.append (.cons ru .nil)) ?_,rfl,q⟩;rw[bh,kb];omega
def aa0:V->List V->Hp->VK->Prop:=λx vs H Q=>∃l xs i k y,x=.ref l/\vs=[.int i]/\H l=some (.lst xs)/\-(2^63)<=i/\i<2^63/\seqIndex? i xs.length=some k/\xs[k]?=some y/\Q y (aL H l (.lst (xs.eraseIdx k)))
theorem E6:Qu X "list.pop" aa0:=by
 intro BI s σ H x vs v us Q I rx rv h;obtain⟨l,xs,i,k,y,rfl,rfl,hH,h1,h2,hk,hy,q⟩:=h;cases rx;obtain⟨u,rfl,ru⟩:=rv.one;obtain⟨t,rfl⟩:=ru;obtain⟨z,its,n,r,hl,e⟩:=I.lstM hH;obtain⟨w,hw,rw'⟩:=r.get hy;refine wu F.slot_list_pop ⟨_,e,rfl⟩ F.entry_list_pop (F.args_list_pop_2 _ _)
  (MeetsSeq.list_pop_at l its.toArray n i t k w (fitsIndex_both h1 h2) (by rw[au,<-hl];exact hk) (by rw[<-wv];exact hw) (by rw[au];omega)) ⟨e,?_⟩
 refine⟨y,_,I.lset (its':=its.eraseIdx k) hH e ?_ (r.eraseIdx k) ?_,rw',q⟩
 .show its.toArray.eraseIdxIfInBounds k=(its.eraseIdx k).toArray
  rw[List.eraseIdxIfInBounds_toArray]
 .have:=Oa xs k
  omega
end
section
variable{prog:Program}{w:am}{A:aq}{E:Value->aa->Prop}{s:aa}
end
section
variable{X:Cx}
end
end L2
namespace Att
open PySem PySem.W PySem.Calls PyProof.Rows
theorem Vu{P:nj}{h:Heap}:∀(ns:AX)(vs:BA),WellAll P h vs (ns.map WData.int)->jh vs ns:=by
 intro ns
 induction ns with
 |nil=>
  intro vs w;rw[cw]at w;cases w;exact .nil
 |cons n ns ih=>
  intro vs w;rw[aw]at w;cases w with
  |cons a b=>
   cases a;exact .cons _ _ (ih _ b)
theorem Rz{l:oh}{n:Nat}(hn:l.most=some n){P:nj}{h:Heap}{args:List WData}{vals:BA}
  (hpre:l.row.toRowW.claim.pre args=true)(hwl:WellAll P h vals args):
  ∃a vs ns,vals=[cr a]/\args=[WData.list (ns.map WData.int)]/\h.get? a=some {cls:=.type "list",data:=.seq vs.toArray}/\jh vs ns/\ns.length<=n:=by
 have hsh:WShape.hasAll [] args [.list .int]=true:=(pre_splitW hpre).1;have hc:l.pre.holds [] {args:=args}=true:=(pre_splitW hpre).2;obtain⟨d,r,rfl,h1,h2⟩:=hasAllW_cons hsh;obtain rfl:=hasAllW_nil h2;obtain⟨xs,rfl,h3⟩:=hasW_list h1;obtain⟨ns,rfl⟩:=items_int h3;have hlen:ns.length<=n:=by
  unfold OpenLaw.pre at hc;have h4:(WTm.not (.lt (.lit (.int (n:Int))) (.len (.arg 0)))).holds [] {args:=[.list (ns.map .int)]}=true:=by
   have h4:=(holds_andW hc).1;rw[hn]at h4;exact h4
  have h5:=condW_of h4 (w_not (w_lt w_lit (w_len_list (w_arg rfl))));rw[ao]at h5;refine Nat.le_of_not_lt λq=>?_;have q':(n:Int)<((ns.length:Nat):Int):=by omega
  first
   |(rw[decide_eq_true q']at h5;exact absurd h5 (by decide))
   |(simp at h5;omega)
 cases hwl with
 |cons w1 w2=>
  cases w2;cases w1 with
  |list ho hall=>exact⟨_,_,ns,rfl,rfl,ho,Vu ns _ hall,hlen⟩
theorem A1(l:oh)(args:List WData):l.row.toRowW.claim.post args (.bool true) args=true:=
 postW_of (r:=l.row.toRowW) (X:=(true==true))
  (show WShape.has [] (.bool true) .bool=true by first |rfl |decide |simp[WShape.has,WShape.arms,WShape.armsAll])
  (show(WTm.eq .res (.lit (.bool true))).value [] {args:=args,res:=some (.bool true),after:=args}=some (.bool (true==true)) from w_eq_bool (w_res rfl) w_lit) rfl
theorem attach_call{l:oh}{n:Nat}{q:Program}{loose:List Str}{XP:(Str->BB)->Heap->Prop}{YP:am->Heap->Prop}{d:DefRec}
  (hn:l.most=some n)(hdf:d.params.defaults=[])
  (call:∀(w:am)(BJ BM:aa)(mg mb:Str->BB)(fa:Addr)(o:Obj)(pm cd doc:Value)(a:Addr)(vs:BA)(ns:AX),
   Ground q loose [] XP w BJ mg mb BM.heap->YP w BM.heap->
   BM.heap.get? fa=some o->o.data=.func (docDef d.name d.params d.body d.scope pm cd doc)->BM.heap.CodeRec cd d.name->mg d.name=some (.ref fa)->
   BM.heap.get? a=some {cls:=.type "list",data:=.seq vs.toArray}->jh vs ns->ns.length<=n->BM.gens=#[]->
   codeAny (model l.prog w) callerA (.call (.ref fa) ⟨[.ref a],[]⟩) (λr s'=>r=.ok (.ret (.bool true))/\OldK BM.heap s'.heap/\s'.os=BM.os/\jq s'.gens) BM):
  WalkO q loose XP YP l.row.toRowW d [] (λf vs=>wz f vs):=by
 intro w BJ BM mg mb G Y fa o pm cd doc dV kV ho hd hcd hD hmg hg args vals as hpre hlay hrd hwl hlo;obtain rfl:dV=.none:=Dflts.none hD hdf;obtain rfl:kV=.none:=Dflts.noKw hD;obtain⟨a,vs,ns,rfl,rfl,hobj,hints,hlen⟩:=Rz hn hpre hwl;refine enter_call (qg (call w BJ BM mg mb fa o pm cd doc a vs ns G Y ho (fd_plain hd) hcd hmg hobj hints hlen hg) λr s' hq=>?_);obtain⟨rfl,h2,h3,h4⟩:=hq;exact⟨.inl ⟨.bool true,.bool true,[],rfl,λ_=>rfl,.bool true,A1 l _,λ_=>⟨List.Pairwise.nil,λ_ hm=>(nomatch hm)⟩⟩,h2,h3,h4⟩
section
variable{prog:Program}{w:am}{A:aq}{E:Value->aa->Prop}{s:aa}{K:Frag}
end
end Att
namespace L2
open PySem PySem.Spec PyProof.Rows
theorem Bk:∀{vs:BA}{ns:AX},jh vs ns->bA (ns.map V.int) vs
 |_,_,.nil=>.nil
 |_,_,.cons n t h=>.cons ⟨t,rfl⟩ (Bk h)
def Ve(H:Hp):Prop:=∀b,H b=none\/∃o xs,H b=some (.frz o (.lst xs))
theorem L5{P:Program}{w:am}{K:ag}{mg mb:Str->BB}{CX:jA}{k:Nat}{fa a:Addr}{fd:ck}{x:Str}{sp:Sp}{BM:aa}{vs:BA}{ns:AX}
  (KX:K.In BM.heap)(hns:BM.heap.Ns mainGlobals mg)(hb:BM.heap.Ns builtinsNs mb)(hbb:∀x:Str,x≠"__name__"->mb x=bootBuiltins x)(hlim:BM.heap.NoLimit)(hg:BM.gens=#[])
  (ha:BM.heap.get? a=some {cls:=.type "list",data:=.seq vs.toArray})(hi:jh vs ns)(hl:ns.length<=sizeLine)(hr:dS k callerA)
  (F:∀base:Heap,K.In base->base.Ns mainGlobals mg->eO P w K mg base CX k fa fd [x] sp)(hbind:∀(s:aa)(u:Value),ny s fd ⟨[u],[]⟩ [(x,u)])
  (hsp:∀H:Hp,Ve H->bV K H a (ns.map V.int)->sp [.ref a] H (λv _=>v=.bl true) λ_ _ _=>False)
  (hCX:∀H e s',CX [] H BM (λ_ _ _=>False) e s'->False):
  codeAny (model P w) callerA (.call (.ref fa) ⟨[.ref a],[]⟩) (λr s'=>r=.ok (.ret (.bool true))/\OldK BM.heap s'.heap/\s'.os=BM.os/\jq s'.gens) BM:=by
 have rv:=Bk hi;have lenV:=hi.length
 --from an abstract heap in which nothing but the script may be tracked
 have core:∀H:Hp,Ve H->bV K H a (ns.map V.int)->fJ P w H BM.heap->(∀b,H b≠none->b=a)->(H a≠none->K.lookup a=none)->
   codeAny (model P w) callerA (.call (.ref fa) ⟨[.ref a],[]⟩) (λr s'=>r=.ok (.ret (.bool true))/\OldK BM.heap s'.heap/\s'.os=BM.os/\jq s'.gens) BM:=by
  intro H hO hS hok hA hK;have base_of:∀{b:Addr}{o:Obj},BM.heap.get? b=some o->H b=none->(mO BM.heap H).get? b=some o:=λe n=>O4 e n;have noA:∀{b:Addr}{o:Obj}{es:Array DictEntry}{ep:Nat},BM.heap.get? b=some o->o.data=.dict es ep->H b=none:=λ{b o es ep} e d=>by
   cases q:H b with
   |none=>rfl
   |some u=>
    have e':b=a:=hA b (by rw[q];simp);subst e';rw[ha]at e;cases e;have d':Data.seq vs.toArray _=Data.dict es ep:=d;cases d'
  have nsK:∀{b:Addr}{m:Str->BB},BM.heap.Ns b m->(mO BM.heap H).Ns b m:=λ{b m} ⟨o,es,ep,e,d,r⟩=>⟨o,es,ep,base_of e (noA e d),d,r⟩;have hKb:K.In (mO BM.heap H):=λb o e=>base_of (KX b o e) (by
   cases q:H b with
   |none=>rfl
   |some u=>
    have e':b=a:=hA b (by rw[q];simp);subst e';rw[hK (by rw[q];simp)]at e;cases e)
  have hM:Mod K mg (mO BM.heap H):=⟨hKb,nsK hns,⟨mb,nsK hb,hbb⟩,let⟨mc,h1,h2⟩:=hlim;⟨mc,nsK h1,h2⟩⟩;have e0:yA P w K mg (mO BM.heap H) callerA [] BM H:=⟨rfl,hM,λb o e=>aai e,su (Yy _ _),trivial,λb hb=>absurd (show b∈([]:List Addr) from hb) (by simp),hok,.of_eq hg⟩;refine qg ((F _ hKb (nsK hns)).run callerA [] BM H ⟨[.ref a],[]⟩ [.ref a] [.ref a] _ _ hr e0 (hbind BM (.ref a)) (.cons rfl .nil) (hsp H hO hS)) λr s' h=>?_;cases r with
  |error e=>exact(hCX H e s' h).elim
  |ok fl=>
   cases fl with
   |next=>exact jr h
   |brk=>exact jr h
   |cont=>exact jr h
   |ret u=>
    obtain⟨v,H',os,bare,un,hok',r',q⟩:=h;have q':v=.bl true:=q;subst q';obtain rfl:u=oz true:=r';refine⟨rfl,OldK.of_keep λb o e=>?_,os,bare⟩;cases q:H b with
    |none=>exact un.keep b o e q (by intro z;exact absurd (show b∈([]:List Addr) from z) (by simp)) (by simp)
    |some u=>
     rcases hO b with z |⟨ob,xs,z⟩
     .rw[q]at z;cases z
     .have z2:=un.frzs b ob _ z
      obtain⟨e1,_⟩:=hok b _ z;obtain⟨e2,_⟩:=hok' b _ z2;rw[e]at e1;cases e1;exact e2
 cases hk:K.lookup a with
 |some o=>
  --the script is one of the module's own objects
  have e:=KX a o hk;rw[ha]at e;cases e;refine core (λ_=>none) (λ_=>.inl rfl) (.inr ⟨_,vs.toArray,_,hk,rfl,rfl,rfl,by rw[au,lenV];exact hl,by simpa using rv⟩) (λb u z=>by have z':(none:Option HO)=some u:=z;cases z') (λb z=>absurd rfl z) λz=>absurd rfl z
 |none=>
  refine core (λb=>if b=a then some (.frz {cls:=.type "list",data:=.seq vs.toArray} (.lst (ns.map V.int)))else none) (λb=>?_) (.inl (.inr ⟨{cls:=.type "list",data:=.seq vs.toArray},if_pos rfl⟩)) (λb u z=>?_) (λb z=>?_) λ_=>hk
  .by_cases hb:b=a
   .exact .inr ⟨_,_,if_pos hb⟩
   .exact .inl (if_neg hb)
  .by_cases hb:b=a
   .have z':=(if_pos hb).symm.trans z
    cases z';subst hb;exact⟨ha,by rw[ao];exact hl,vs,_,rv,ha⟩
   .have z':=(if_neg hb).symm.trans z
    cases z'
  .by_cases hb:b=a
   .exact hb
   .exact absurd (if_neg hb) z
theorem walk_of{l:oh}{n k:Nat}{q:Program}{loose:List Str}{XP:(Str->BB)->Heap->Prop}{YP:am->Heap->Prop}{d:DefRec}{K:nj->ag}{CX:am->jA}{sp:am->Sp}{x:Str}
  (hn:l.most=some n)(hn2:n<=sizeLine)(hdf:d.params.defaults=[])(hr:dS k callerA)
  (hY:∀(w:am)(h:Heap),YP w h->(K w.params).In h)
  (F:∀(w:am)(mg:Str->BB)(fa:Addr)(h:Heap),(K w.params).In h->h.Ns mainGlobals mg->mg d.name=some (.ref fa)->
   ∃fd:ck,(∀(s:aa)(u:Value),ny s fd ⟨[u],[]⟩ [(x,u)])/\
    ∀base:Heap,(K w.params).In base->base.Ns mainGlobals mg->eO l.prog w (K w.params) mg base (CX w) k fa fd [x] (sp w))
  (hsp:∀(w:am)(H:Hp)(a:Addr)(ns:AX),ns.length<=n->Ve H->bV (K w.params) H a (ns.map V.int)->sp w [.ref a] H (λv _=>v=.bl true) λ_ _ _=>False)
  (hCX:∀(w:am)(H:Hp)(s:aa)(e:Value)(s':aa),CX w [] H s (λ_ _ _=>False) e s'->False):
  PySem.W.WalkO q loose XP YP l.row.toRowW d [] (λf vs=>wz f vs):=by
 refine Att.attach_call hn hdf λw BJ BM mg mb fa o pm cd doc a vs ns G Y ho hd hcd hmg hobj hints hlen hg=>?_;have KX:=hY w _ Y;obtain⟨fd,hb,hF⟩:=F w mg fa _ KX G.T.g hmg;exact L5 KX G.T.g G.T.b G.T.builtins G.T.nolimit hg hobj hints (fm hlen hn2) hr hF hb (λH hO hS=>hsp w H a ns hlen hO hS) λH e s'=>hCX w H BM e s'
abbrev fI:jA:=λ_ _ _ _ _ _=>False
abbrev E0:XK:=λ_ _ _=>False
theorem tO{X:Cx}:Vc fI X E0:=λ_ _ _ _ _ _ _ h=>h.elim
structure kC(K:ag)(x qual:Str)(st:Stmt)(f:Addr)(fd:ck):Prop where
 ex:∃(oc:Value)(od:BC)(kV doc pm:Value)(an:BC)(cdv ct:Value)(osl:Array BB),
  fd=fg x qual (hJ st) (eV st) (cU st) .none kV doc pm an cdv ct/\K.lookup f=some ⟨oc,od,.func fd,osl⟩/\ka K cdv qual=true
 kp:ie K (.ref f)=true
section
variable{P:Program}{w:am}{K:ag}{mg:Str->BB}{base:Heap}
theorem kC.ok{x qual:Str}{st:Stmt}{f:Addr}{fd:ck}{N ps:List Str}{k:Nat}{sp:Sp}(F:kC K x qual st f fd)(S:jV N ps (cU st))(len:∀vs H Q E,sp vs H Q E->vs.length=ps.length)
  (hbody:∀(cdv:Value)(A:aq)(outer:List bo)(s:aa)(H:Hp)(vs:List V)(Q:VK)(E:XK),dS k (A.deeper (envOfC qual (cU st) s.heap.objs.size f cdv))->sp vs H Q E->
   ∃t,gL (fT fI P w K mg base N qual (cU st) f cdv A outer s H E).nox (eV st) t/\t {nx:=λ_ H'=>Q .non H',rt:=Q} (start N vs) H):eO P w K mg base fI (k+1) f fd ps sp:=by
 obtain⟨oc,od,kV,doc,pm,an,cdv,ct,osl,rfl,lk,hcd⟩:=F.ex;refine Js lk hcd S len λA outer s H vs Q E hr hsp=>?_;obtain⟨t,h,q⟩:=hbody cdv A outer s H vs Q E hr hsp;exact⟨t,h.nox,q⟩
theorem kC.binds{x qual:Str}{st:Stmt}{f:Addr}{fd:ck}{ps:List Str}(F:kC K x qual st f fd)
  (h:∀(kV doc pm:Value)(an:BC)(cdv ct:Value)(us:BA),us.length=ps.length->bindArgs (fg x qual (hJ st) (eV st) (cU st) .none kV doc pm an cdv ct) ⟨us,[]⟩=pure (ps.zip us)):jI K fd ps []:=by
 obtain⟨oc,od,kV,doc,pm,an,cdv,ct,osl,rfl,lk,hcd⟩:=F.ex;exact .all (h kV doc pm an cdv ct)
theorem Mq{x qual:Str}{st:Stmt}{f:Addr}{oc:Value}{od an:BC}{osl:Array BB}{kV doc pm cdv ct:Value}(l:K.lookup f=some ⟨oc,od,.func (fg x qual (hJ st) (eV st) (cU st) .none kV doc pm an cdv ct),osl⟩)
  (c:ka K cdv qual=true)(k:ie K (.ref f)=true):kC K x qual st f (fg x qual (hJ st) (eV st) (cU st) .none kV doc pm an cdv ct):=⟨⟨oc,od,kV,doc,pm,an,cdv,ct,osl,rfl,l,c⟩,k⟩
end
section
variable{X:Cx}
theorem pv(i:Nat){x:Str}{pos:ai}(hN:X.N[i]?=some x:=by rfl)(hv:kT X.env.scope x:=by first |exact eh rfl |exact dk (eh rfl) |exact dk (dk rfl))(hd:(x==("__debug__":Str))=false:=by decide)
  (hcd:(x==("__classdict__":Str))=false:=by decide):PE X (.Name x pos) (Au i):=lK hN hv hd hcd
end
def dH(H H':Hp):Prop:=∀b o,H b=some o->H' b=some o
theorem dH.refl(H:Hp):dH H H:=λ_ _ h=>h
end L2
namespace Bn
def Bd(k:Nat)(i:Int):Prop:=i.natAbs<2^k
theorem Bd.mono{j k:Nat}{i:Int}(h:Bd j i)(l:j<=k):Bd k i:=di h (xa (by decide) l)
theorem Bd.mul{j k:Nat}{a b:Int}(h:Bd j a)(g:Bd k b):Bd (j+k) (a*b):=by
 unfold Bd at *;rw[qj,Nat.pow_add];exact Nat.mul_lt_mul'' h g
theorem Bd.add{k:Nat}{a b:Int}(h:Bd k a)(g:Bd k b):Bd (k+1) (a+b):=by
 unfold Bd at *;rw[sv];have:=Int.natAbs_add_le a b;omega
theorem Bd.neg{k:Nat}{a:Int}(h:Bd k a):Bd k (-a):=by
 unfold Bd at *;rw[g9];exact h
theorem Bd.sub{k:Nat}{a b:Int}(h:Bd k a)(g:Bd k b):Bd (k+1) (a-b):=by
 rw[Int.sub_eq_add_neg];exact h.add g.neg
theorem Bd.le{k:Nat}{a b:Int}(h:Bd k b)(l:a.natAbs<=b.natAbs):Bd k a:=oi l h
theorem Bd.of{k n:Nat}{a:Int}(l:a.natAbs<=n)(h:n<2^k):Bd k a:=oi l h
theorem Bd.log{k:Nat}{a:Int}(h:Bd k a)(hk:0<k):a.natAbs.log2<k:=by
 rcases i7 a.natAbs with z |z
 .rw[z]
  exact oi (su (by decide)) hk
 .exact(Nat.log2_lt (ko z)).mpr h
theorem Wi(a:Int){b:Int}(h:b≠0):(a.fmod b).natAbs<b.natAbs:=by
 rw[Int.fmod_eq_emod];have h1:=Int.emod_nonneg a h;have h2:a%b<(b.natAbs:Int):=Int.emod_lt a h
 by_cases c:0<=b\/b∣a
 .rw[if_pos c]
  omega
 .rw[if_neg c]
  have hb:b<0:=by omega
  have h3:a%b≠0:=λz=>c (.inr (Int.dvd_of_emod_eq_zero z));have h4:b.natAbs=(-b).toNat:=by omega
  omega
theorem Ml(a b:Int):br b (a.fmod b)=br a b:=by
 rw[Int.fmod_def,dy,Int.gcd_sub_mul_right_right,Int.gcd_comm]
theorem Qd(x:Int):(if x<0 then-x else x)=(x.natAbs:Int):=by
 split<;>omega
def gl:AX->Int->Int
 |[],g=>g
 |n::r,g=>gl r (br g n:Nat)
def low(ns:AX):AX:=if gl ns 0=0 then ns else ns.map (· /gl ns 0)
theorem Re:∀(ns:AX)(g:Int),0<=g->0<=gl ns g
 |[],_,h=>h
 |_::r,_,_=>Re r _ (i8 _)
theorem Nr(k:Int):∀(ns:AX)(g:Int),0<=g->gl (ns.map (k*·)) ((k.natAbs:Int)*g)=(k.natAbs:Int)*gl ns g
 |[],_,_=>rfl
 |n::r,g,h=>by
  show gl (r.map (k*·)) ((br ((k.natAbs:Int)*g) (k*n):Nat):Int)=(k.natAbs:Int)*gl r _;have e:((br ((k.natAbs:Int)*g) (k*n):Nat):Int)=(k.natAbs:Int)*((br g n:Nat):Int):=by
   rcases Int.natAbs_eq k with q |q
   .rw[<-q,i9]
    have:(k.natAbs:Int)=k:=q.symm
    push_cast
    rw[this]
   .have e2:k*n=(k.natAbs:Int)*(-n):=by rw[sw,<-kd,<-q]
    rw[e2,i9,Int.gcd_neg]
    push_cast
    simp
  rw[e];exact Nr k r _ (i8 _)
theorem vN(k:Int)(ns:AX):gl (ns.map (k*·)) 0=(k.natAbs:Int)*gl ns 0:=by
 have:=Nr k ns 0 (sx 0)
 rwa[oj]at this
theorem rY{k:Int}(h:0<k)(ns:AX):gl ns 0≠0->low (ns.map (k*·))=low ns:=λz=>by
 have hk:(k.natAbs:Int)=k:=by omega
 have e:=vN k ns;rw[hk]at e;have nz:k*gl ns 0≠0:=gm (by omega) z;unfold low;rw[e,if_neg nz,if_neg z,fe];refine dl λn _=>?_;show k*n/(k*gl ns 0)=n/gl ns 0;exact Int.mul_ediv_mul_of_pos _ _ h
theorem jX:∀(ns:AX)(g:Int),gl ns g∣g/\∀n∈ns,gl ns g∣n
 |[],g=>⟨Int.dvd_refl g,λ_ h=>nomatch h⟩
 |m::r,g=>by
  obtain⟨h1,h2⟩:=jX r ((br g m:Nat):Int);refine⟨Int.dvd_trans h1 (xb ..),λn hn=>?_⟩;rcases cj.mp hn with q |q
  .subst q
   exact Int.dvd_trans h1 (xc ..)
  .exact h2 n q
theorem Kc{ns:AX}(h:gl ns 0=0):∀n∈ns,n=0:=λn hn=>by
 have:=(jX ns 0).2 n hn;rw[h]at this;exact Int.zero_dvd.mp this
theorem tH{ns:AX}{n:Int}(hn:n∈ns)(h:n≠0):gl ns 0≠0:=λz=>h (Kc z n hn)
theorem sS{ns:AX}{n:Int}(hn:n∈ns)(h:n≠0):0<gl ns 0:=by
 have h1:=Re ns 0 (sx 0);have h2:=tH hn h;omega
theorem sW{ns:AX}{n:Int}(hn:n∈ns)(h:n≠0):low ns=ns.map (· /gl ns 0):=by
 unfold low;rw[if_neg (tH hn h)]
theorem Bd.gcd{k:Nat}{a b:Int}(h:Bd k a)(g:Bd k b):Bd k (br a b:Nat):=by
 unfold Bd at *;rw[xf];rcases i7 a.natAbs with z |z
 .have:a=0:=by omega
  subst this;rw[qk];exact g
 .exact oi (Nat.gcd_le_left _ z) h
theorem Ge{k:Nat}:∀{ns:AX}{g:Int},Bd k g->(∀n∈ns,Bd k n)->Bd k (gl ns g)
 |[],_,h,_=>h
 |n::r,g,h,hn=>by
  show Bd k (gl r _);exact Ge (ns:=r) (h.gcd (hn n bf)) λm hm=>hn m (bn _ hm)
theorem wZ{k:Nat}{ns:AX}(h:∀n∈ns,Bd k n):∀n∈low ns,Bd k n:=λn hn=>by
 unfold low at hn
 by_cases c:gl ns 0=0
 .rw[if_pos c]at hn
  exact h n hn
 .rw[if_neg c]at hn
  obtain⟨m,hm,rfl⟩:=dg.mp hn;refine(h m hm).le ?_;have d:=(jX ns 0).2 m hm;obtain⟨q,e⟩:=d;rw[e,mq _ c,qj];exact Nat.le_mul_of_pos_left _ (by omega)
theorem Yn(ns:AX):(low ns).length=ns.length:=by
 unfold low;split
 .rfl
 .rw[ao]
def fr(t b:Int):AX:=if b<0 then low [0-t,0-b] else low [t,b]
theorem jK(a b:Int):b∈[a,b]:=bn _ bf
theorem R9(ns:AX):gl (ns.map (-1*·)) 0=gl ns 0:=by
 have:=vN (-1) ns;simpa using this
theorem abA{t b:Int}(h:b≠0):fr (-t) (-b)=fr t b:=by
 unfold fr
 by_cases c:b<0
 .have c':¬(-b<0):=by omega
  rw[if_pos c,if_neg c',jc,jc]
 .have c':-b<0:=by omega
  rw[if_neg c,if_pos c',Int.sub_neg,Int.sub_neg,sy,sy]
theorem Ug{k t b:Int}(hk:0<k)(h:b≠0):fr (k*t) (k*b)=fr t b:=by
 unfold fr;have e1:([k*t,k*b]:AX)=[t,b].map (k*·):=rfl;have e2:([0-k*t,0-k*b]:AX)=[0-t,0-b].map (k*·):=by
  show _=[k*(0-t),k*(0-b)];rw[Int.mul_sub,Int.mul_sub,oj]
 by_cases c:b<0
 .rw[if_pos c,if_pos (j4 hk c),e2]
  exact rY hk _ (tH (jK _ _) (by omega))
 .have c':¬(k*b<0):=by
   have:0<k*b:=cg hk (by omega);omega
  rw[if_neg c,if_neg c',e1];exact rY hk _ (tH (jK _ _) h)
theorem Dl{k t b:Int}(hk:k≠0)(h:b≠0):fr (k*t) (k*b)=fr t b:=by
 by_cases c:0<k
 .exact Ug c h
 .have c':0< -k:=by omega
  have hb:k*b≠0:=gm hk h;rw[<-abA hb,<-kd,<-kd];exact Ug c' h
theorem Zl{t b t' b':Int}(h:b≠0)(h':b'≠0)(e:t*b'=t'*b):fr t b=fr t' b':=by
 rw[<-Dl h' h,<-Dl (k:=b) h h',dy b' t,e,dy t' b,dy b' b]
theorem xI{t b:Int}(h:b≠0):∃p q:Int,fr t b=[p,q]/\0<q/\p*b=t*q:=by
 have go:∀{t b:Int},0<b->∃p q:Int,low [t,b]=[p,q]/\0<q/\p*b=t*q:=λ{t b} hb=>by
  have nz:b≠0:=by omega
  have gp:=sS (jK t b) nz;refine⟨t/gl [t,b] 0,b/gl [t,b] 0,sW (jK t b) nz,?_,?_⟩
  .obtain⟨m,e⟩:=(jX [t,b] 0).2 b (jK t b)
   have:b/gl [t,b] 0=m:=by
    conv=>lhs;lhs;rw[e]
    exact mq _ (by omega)
   rw[this];have hm:0<m*gl [t,b] 0:=by rw[dy,<-e];exact hb
   exact xh hm gp
  .obtain⟨m,e⟩:=(jX [t,b] 0).2 b (jK t b)
   obtain⟨n,f⟩:=(jX [t,b] 0).2 t bf;have e1:b/gl [t,b] 0=m:=by
    conv=>lhs;lhs;rw[e]
    exact mq _ (by omega)
   have e2:t/gl [t,b] 0=n:=by
    conv=>lhs;lhs;rw[f]
    exact mq _ (by omega)
   rw[e1,e2]
   conv=>lhs;rhs;rw[e]
   conv=>rhs;lhs;rw[f]
   rw[Int.mul_left_comm,Int.mul_assoc]
 unfold fr
 by_cases c:b<0
 .rw[if_pos c]
  obtain⟨p,q,e1,e2,e3⟩:=go (t:=0-t) (b:=0-b) (by omega);refine⟨p,q,e1,e2,?_⟩;rw[jc,jc,sw,kd]at e3;omega
 .rw[if_neg c]
  exact go (by omega)
def sg(n:Int):Int:=if 0<n then 1 else if n<0 then-1 else 0
theorem Em{b:Int}(h:b≠0):(0<b/\sg b=1)\/(b<0/\sg b=-1):=by
 unfold sg
 by_cases c:0<b
 .exact .inl ⟨c,if_pos c⟩
 .have d:b<0:=by omega
  exact .inr ⟨d,by rw[if_neg c,if_pos d]⟩
theorem K0(b:Int):-(2^64)<sg b/\sg b<2^64:=by
 unfold sg;split
 .decide
 .split<;>decide
theorem qP(t b:Int):gl [t,b] 0=(br t b:Nat):=by
 show((br ((br 0 t:Nat):Int) b:Nat):Int)=_;rw[qk];congr 1
theorem oF{g n:Int}(h:g≠0):(g*n).fdiv g=n:=by
 rw[ql ⟨n,rfl⟩,mq _ h]
theorem Zf{g n:Int}(h:g≠0):(g*n).fdiv (-1*g)=-n:=by
 have e:g*n=(-1*g)*(-n):=by
  rw[kd,jd,j5]
 rw[e];exact oF (by omega)
theorem Hz{t b:Int}(h:b≠0):[t.fdiv (sg b*(br t b:Nat)),b.fdiv (sg b*(br t b:Nat))]=fr t b:=by
 have gp:=sS (jK t b) h;rw[qP]at gp;have gn:((br t b:Nat):Int)≠0:=by omega
 obtain⟨n,en⟩:=xb (a:=t) (b:=b);obtain⟨m,em⟩:=xc (a:=t) (b:=b);have ht:t=((br t b:Nat):Int)*n:=en;have hb:b=((br t b:Nat):Int)*m:=em;generalize hg:((br t b:Nat):Int)=g at *;rcases Em h with⟨c,s⟩|⟨c,s⟩
 .rw[s,jd]
  have e1:fr t b=[t/g,b/g]:=by
   unfold fr;rw[if_neg (by omega),sW (jK t b) h,qP,hg];rfl
  have e2:t.fdiv g=t/g:=ql ⟨n,ht⟩;have e3:b.fdiv g=b/g:=ql ⟨m,hb⟩;rw[e1,e2,e3]
 .rw[s]
  have e1:fr t b=[(0-t)/g,(0-b)/g]:=by
   unfold fr;rw[if_pos c,sW (jK (0-t) (0-b)) (by omega),qP,jc,jc,Int.neg_gcd,Int.gcd_neg,hg];rfl
  have e2:t.fdiv (-1*g)=-n:=by
   conv=>lhs;lhs;rw[ht]
   exact Zf gn
  have e3:b.fdiv (-1*g)=-m:=by
   conv=>lhs;lhs;rw[hb]
   exact Zf gn
  have e4:(0-t)/g=-n:=by
   rw[ht,jc,<-sw,mq _ gn]
  have e5:(0-b)/g=-m:=by
   rw[hb,jc,<-sw,mq _ gn]
  rw[e1,e2,e3,e4,e5]
theorem No(n:Int):∀(l:AX)(g:Int),gl (l++[n]) g=(br (gl l g) n:Nat)
 |[],g=>rfl
 |m::r,g=>No n r _
theorem tN{k:Nat}{t b p q:Int}(ht:Bd k t)(hb:Bd k b)(e:fr t b=[p,q]):Bd k p/\Bd k q:=by
 have go:∀{x y:Int},Bd k x->Bd k y->low [x,y]=[p,q]->Bd k p/\Bd k q:=λ{x y} hx hy e=>by
  have h:=wZ (k:=k) (ns:=[x,y]) λn hn=>by
   rcases cj.mp hn with z |z
   .rw[z];exact hx
   .have z':n=y:=by simpa using z
    rw[z'];exact hy
  rw[e]at h;exact⟨h p bf,h q (jK _ _)⟩
 unfold fr at e;split at e
 .exact go (by rw[jc];exact ht.neg) (by rw[jc];exact hb.neg) e
 .exact go ht hb e
theorem Ba{t b p q:Int}(h:b≠0)(e:fr t b=[p,q]):br p q=1:=by
 have go:∀{x y:Int},y≠0->low [x,y]=[p,q]->br p q=1:=λ{x y} hy e=>by
  rw[sW (jK x y) hy,qP]at e;have gp:=sS (jK x y) hy;rw[qP]at gp;have e1:x/((br x y:Nat):Int)=p:=by injection e
  have e2:y/((br x y:Nat):Int)=q:=by
   injection e with _ e;injection e
  rw[<-e1,<-e2,Int.gcd_ediv (xb ..) (xc ..),xf];exact Nat.div_self (by omega)
 unfold fr at e;split at e
 .exact go (by omega) e
 .exact go h e
theorem O7{k m:Int}(hk:0<k)(hm:0<m){A B:AX}(hA:gl A 0≠0)(e:A.map (k*·)=B.map (m*·)):low A=low B:=by
 have hB:gl B 0≠0:=λz=>by
  have h:=vN k A;rw[e,vN m B,z,oj]at h;have:(k.natAbs:Int)*gl A 0≠0:=gm (by omega) hA;exact this h.symm
 rw[<-rY hk A hA,e,rY hm B hB]
theorem Hr(b:Int):∀(ns:AX)(g:Int),gl ns (br g b:Nat)=(br (gl ns g) b:Nat)
 |[],_=>rfl
 |n::r,g=>by
  show gl r ((br ((br g b:Nat):Int) n:Nat):Int)=((br (gl r _) b:Nat):Int);rw[<-Hr b r,Int.gcd_assoc,Int.gcd_comm b n,<-Int.gcd_assoc]
theorem Bc{ns:AX}{b:Int}(hb:0<b):gl (ns++[b]) 0=gl ns b:=by
 rw[No,<-Hr,qk];congr 1;omega
theorem nA(ns:AX)(b:Int):b∈ns++[b]:=df _ bf
theorem abv{ns:AX}{b:Int}(hb:0<b):low (ns++[b])=(ns.map λn=>n.fdiv (gl ns b))++[b.fdiv (gl ns b)]/\0<gl ns b:=by
 have gp:=sS (nA ns b) (by omega);rw[Bc hb]at gp;refine⟨?_,gp⟩;rw[sW (nA ns b) (by omega),Bc hb,dh];have e:∀n:Int,n/gl ns b=n.fdiv (gl ns b):=λn=>(Int.fdiv_eq_ediv_of_nonneg n (Int.le_of_lt gp)).symm;simp only[e,aw,cw]
theorem wG(ns:AX){b:Int}(hb:0<b):∃(zs:AX)(z g:Int),low (ns++[b])=zs++[z]/\0<g/\0<z/\ns=zs.map (g*·)/\b=g*z/\zs.length=ns.length:=by
 obtain⟨e,gp⟩:=abv (ns:=ns) hb;have dv:=jX (ns++[b]) 0;rw[Bc hb]at dv;have ex:∀n∈ns++[b],gl ns b*n.fdiv (gl ns b)=n:=λn hn=>by
  obtain⟨q,e⟩:=dv.2 n hn
  conv=>lhs;rhs;rw[e]
  rw[oF (by omega)];exact e.symm
 refine⟨_,_,gl ns b,e,gp,?_,?_,(ex b (nA ns b)).symm,ao _⟩
 .have h:=ex b (nA ns b)
  have:0<b.fdiv (gl ns b)*gl ns b:=by rw[dy,h];exact hb
  exact xh this gp
 .rw[fe]
  conv=>lhs;rw[<-td ns]
  refine dl λn hn=>?_;exact(ex n (ld _ hn)).symm
theorem Sb(ns:AX){b:Int}(hb:0<b):low (low (ns++[b]))=low (ns++[b]):=by
 obtain⟨zs,z,g,e,hg,hz,e1,e2,_⟩:=wG ns hb;rw[e];refine O7 (k:=g) (m:=1) hg (by decide) (tH (nA zs z) (by omega)) ?_ |>.trans e;rw[dh,<-e1];show ns++[g*z]=(ns++[b]).map (1*·);rw[<-e2]
 conv=>lhs;rw[<-td (ns++[b])]
 refine dl λn _=>?_;exact(jd n).symm
def sm(xs:AX)(w:Int)(ys:AX)(v:Int):AX:=cu (λx y=>x*v+y*w) xs ys
theorem Cs{xs ys:AX}{f g:Int->Int->Int}(h:∀x y,f x y=g x y):cu f xs ys=cu g xs ys:=by
 have:f=g:=funext λx=>funext λy=>h x y;rw[this]
theorem Fy(xs:AX)(w:Int)(ys:AX)(v:Int):cu (λx y=>1*x*v+y*w) xs ys=sm xs w ys v:=Cs λx y=>by rw[jd]
theorem Qw(xs:AX)(w:Int)(ys:AX)(v:Int):cu (λy x=>-1*y*w+x*v) ys xs=sm xs w (ys.map (- ·)) v:=by
 unfold sm;rw[List.zipWith_map_right,List.zipWith_comm];refine Cs λx y=>?_;rw[kd,jd];exact Int.add_comm _ _
end Bn
namespace L2
open PySem PySem.Spec PyProof.Rows Bn
section
variable{X:Cx}
theorem Po{k:Nat}{i:Int}(h:Bd k i):j6 i<=k:=by
 unfold j6;split
 .exact de _
 .rename_i c
  have z:i.natAbs≠0:=by
   intro q;have:i=0:=by omega
   subst this;exact c rfl
  have:=(Nat.log2_lt z).mpr h;omega
def pB(_ j:Int):Prop:=j≠0/\Bd 8000 j
theorem M2:eJ X (binaryOp .FloorDiv) (rI pB λi j=>.int (i.fdiv j)):=
 yQ λ_ _ _ _ _ _ _ hc q=>floordiv_int hc.1 q (.inl (PyProof.noPylong_of_log2 (xi (hc.2.log (by decide)) (by decide))))
theorem PS.imp{st:Stmt}{t t':TS}(h:PS X st t)(i:∀D σ H,t' D σ H->t D σ H):PS X st t':=λBI s σ H D I q=>h BI s σ H D I (i D σ H q)
theorem gL.imp{st:List Stmt}{t t':TS}(h:gL X st t)(i:∀D σ H,t' D σ H->t D σ H):gL X st t':=λBI s σ H D I q=>h BI s σ H D I (i D σ H q)
theorem PE.imp{e:ah}{t t':TE}(h:PE X e t)(i:∀σ H Q,t' σ H Q->t σ H Q):PE X e t':=λBI s σ H Q I q=>h BI s σ H Q I (i σ H Q q)
theorem PT.imp{e:ah}{t t':TT}(h:PT X e t)(i:∀σ H Q,t' σ H Q->t σ H Q):PT X e t':=λBI s σ H Q I q=>h BI s σ H Q I (i σ H Q q)
theorem aF.turnedNew{BI:List (Addr×Obj)}{σ:St}{H:Hp}{s:aa}{h':Heap}{t':Nat}{ch:List Addr}{a:Addr}{o:HO}(I:aF X BI σ H s)(hf:∀b∈ch,fO X BI H b)
  (k:∀b u,b∉ch->s.heap.get? b=some u->h'.get? b=some u)(hp:s.heap.objs.size<=a)(new:fS X.prog X.w (aL H a o) h' a o):
  aF X BI σ (aL H a o) {s with heap:=h',toks:=t'}:=by
 have hn:H a=none:=I.hok.fresh hp;have nch:∀b u,H b=some u->b∉ch:=λb u e z=>by
  rw[(hf b z).1]at e;cases e
 have nea:∀b u,H b=some u->b≠a:=λb u e=>gF e hn;refine I.step (g':=s.gens) (d':=s.drawn) (ch:=ch) (λb hb=>?_) (λb u _ _ hc e _=>k b u hc e) (λb u _ _ hc e _=>⟨u.slots,k b u hc e⟩) (λb u _ e n=>?_)
  (λb u hc e=>⟨u,k b u hc e⟩) (λb xs e=>?_) (λb u v e=>?_) (λb ps e=>⟨#[],?_⟩) (λm hm=>?_) (λb u e=>?_) I.bare
 .obtain⟨_,f1,_,f3,f4,f5⟩:=hf b hb
  exact⟨f3,f1,f4,f5⟩
 .rw[bK (cx (di (ay e) hp))]
  exact n
 .rw[bK (nea b _ e)]
  exact e
 .rw[bK (nea b _ e)]
  exact e
 .rw[bK (nea b _ e),e]
  simp
 .obtain⟨ob,es,ep,ho,r⟩:=hm
  exact⟨ob,es,ep,k _ ob (λz=>(hf _ z).2.1 rfl) ho,r⟩
 .by_cases hb:b=a
  .subst hb
   rw[dW]at e;cases e;exact new
  .rw[bK hb]at e
   refine(I.hok b u e).stay (λc v hc q=>k c v ?_ q) (λc q=>?_) λc xs q=>?_
   .rcases hc with z |z
    .rw[z]
     exact nch b u e
    .exact nch c _ z
   .rw[bK (nea c _ q)]
    exact q
   .rw[bK (nea c _ q)]
    exact q
theorem aF.turnedL{BI:List (Addr×Obj)}{σ:St}{H:Hp}{s:aa}{h':Heap}{t':Nat}{ch:List Addr}(I:aF X BI σ H s)(hf:∀b∈ch,fO X BI H b)
  (k:∀b u,b∉ch->s.heap.get? b=some u->h'.get? b=some u):aF X BI σ H {s with heap:=h',toks:=t'}:=by
 have nch:∀b u,H b=some u->b∉ch:=λb u e z=>by
  rw[(hf b z).1]at e;cases e
 refine I.step (g':=s.gens) (d':=s.drawn) (ch:=ch) (λb hb=>?_) (λb u _ _ hc e _=>k b u hc e) (λb u _ _ hc e _=>⟨u.slots,k b u hc e⟩) (λb u _ e n=>n)
  (λb u hc e=>⟨u,k b u hc e⟩) (λb xs e=>e) (λb u v e=>e) (λb ps e=>⟨#[],?_⟩) (λm hm=>?_) (λb u e=>?_) I.bare
 .obtain⟨_,f1,_,f3,f4,f5⟩:=hf b hb
  exact⟨f3,f1,f4,f5⟩
 .rw[e]
  simp
 .obtain⟨ob,es,ep,ho,r⟩:=hm
  exact⟨ob,es,ep,k _ ob (λz=>(hf _ z).2.1 rfl) ho,r⟩
 .refine(I.hok b u e).stay (λc v hc q=>k c v ?_ q) (λc q=>q) λc xs q=>q
  rcases hc with z |z
  .rw[z]
   exact nch b u e
  .exact nch c _ z
end
def Uf (K : ag) (a : Addr) : It :=
  ⟨λi H => ∃ xs x, bV K H a xs ∧ xs[i]? = some x,
   λi H x H' => ∃ p y, H p = none ∧ x = .ref p ∧ H' = aL H p (.tup [.int i, y]) ∧ ∀ xs, bV K H a xs → xs[i]? = some y,
   λi H => ∃ xs, bV K H a xs ∧ xs.length ≤ i⟩
theorem Ky{P:Program}{w:am}{K:ag}{elts:List ah}{x1:Nat}{tp:ai}(a e it:Addr)(hne:e≠it):
  rE P w K (.Tuple elts x1 tp) (Uf K a) [e,it] e (λi h=>(∃old,IsEnum h e it (i:Int) old)/\h.IsListIter it a i) where
 mem:=by simp
 obj:=λi h st b hb=>by
  obtain⟨⟨old,q⟩,o,e1,c,d⟩:=st;rcases cj.mp hb with z |z
  .subst z
   exact⟨_,q,λv z=>nomatch z⟩
  .have z':b=it:=by simpa using z
   subst z';exact⟨o,e1,λv z=>by rw[d]at z;cases z⟩
 keep:=λi h h' st k=>⟨let⟨old,q⟩:=st.1;⟨old,k e (by simp) _ q⟩,st.2.at λo q=>k it (by simp) o q⟩
 item:=by
  intro X hP hw hK hc i BI s σ H E I hf st hg;subst hP hw hK;obtain⟨xs,x,hq,hx⟩:=hg;obtain⟨its,rv,pl,hz⟩:=I.list hq;obtain⟨u,hu,ru⟩:=rv.get hx;obtain⟨⟨old,he⟩,hit⟩:=st;refine wpAny_pyNext_enum_item he hit pl.isList (x:=u) (by simpa using hu) hne λh1 ho1 hit1 ht1 hs1 hk1=>⟨_,rfl,?_⟩;have lt1:e<s.heap.objs.size:=ay he;refine wpAny_letOwnedTupleGo_enum (s:={s with heap:=h1,toks:=s.toks+1}) ho1 λh2 he2 sb2=>?_;have ht2:h2.get? s.heap.objs.size=some {cls:=.type "tuple",data:=.seq #[.int i s.toks,u]}:=(sb2.2 _ (ko lt1)).trans ht1;have I2:aF X BI σ (aL H s.heap.objs.size (.tup [.int i,x])) {s with heap:=h2,toks:=s.toks+1}:=
   I.turnedNew hf (λb o hb q=>(sb2.2 b (λz=>hb (by simp[z]))).trans (hk1 b o (λz=>hb (by simp[z])) (λz=>hb (by simp[z])) q)) (aj _)
    ⟨by show 2<=sizeLine;decide,[.int i s.toks,u],.cons ⟨_,rfl⟩ (.cons ru .nil),⟨_,ht2,rfl,_,rfl⟩⟩
  refine⟨.ref s.heap.objs.size,_,I2,rfl,⟨_,x,I.hok.fresh (aj _),rfl,rfl,λys hy=>by rw[I.list_inj hy hq];exact hx⟩,⟨⟨_,by simpa using he2⟩,hit1.at λo q=>(sb2.2 it hne.symm).trans q⟩,λb hb=>?_⟩;have hb':=(hf b hb).1;have lt:b≠s.heap.objs.size:=by
   rcases cj.mp hb with z |z
   .subst z
    exact cx lt1
   .have z':b=it:=by simpa using z
    subst z';obtain⟨o,q,_⟩:=hit;exact cx (ay q)
  rw[bK lt];exact hb'
 done:=by
  intro X hP hw hK hc i BI s σ H E I hf st hg;subst hP hw hK;obtain⟨xs,hq,hx⟩:=hg;obtain⟨its,rv,pl,hz⟩:=I.list hq;obtain⟨⟨old,he⟩,hit⟩:=st;have hl:=rv.length;exact wpAny_pyNext_enum_end (I.ok.hd hc) he hit pl.isList (by simp;omega) λh' eb=>⟨rfl,I.turnedL (t':=s.toks) hf λb o hb q=>eb b o (λz=>hb (by simp[z])) q⟩
 self:=λ_ _ _ _ _ st h=>let⟨_,q⟩:=st.1;wpAny_pyIter_enum q h
section
variable{X:Cx}{elts:List ah}{x1:Nat}{tp:ai}
def acg(K:ag)(tl:TA):TI:=λσ H R=>tl σ H λvs H1=>∃a,vs=[.ref a]/\(∃xs,bV K H1 a xs)/\R (Uf K a) H1
theorem X7{l:ah}{tl:TA}{p pos:ai}(hg:Gl X "enumerate")(hm:X.mg "enumerate"=none)(hl:PA X [l] tl)(hs:starEach [l] X.env=[(false,eval l X.env)]:=by rfl):
  PI X (.Tuple elts x1 tp) (.Call (.Name "enumerate" p) [l] [] pos) (acg X.K tl):=by
 intro BI s σ H R I h;refine Call_ (oV I hg hm boot_enumerate (pw (bD (hl pos BI s σ H _ I h) λus s1 hq=>?_) hs rfl));rcases hq with⟨vs,H1,I1,r1,q1⟩;obtain⟨a,rfl,⟨xs,hq⟩,q⟩:=q1;obtain⟨u,rfl,ru⟩:=jG r1;cases ru;obtain⟨its,rv,pl,hz⟩:=I1.list hq;refine call_enumerate_list pl.isList λh' he hit hsz k=>?_;have I2:aF X BI σ H1 {s1 with heap:=h'}:=I1.kept (t':=s1.toks) k;refine wpAny_pyIter_enum (s:={s1 with heap:=h'}) he ?_;refine⟨s1.heap.objs.size+1,[s1.heap.objs.size+1,s1.heap.objs.size],_,_,H1,rfl,I2,Ky a _ _ (Nat.succ_ne_self _),⟨⟨_,he⟩,hit⟩,λb hb=>?_,q⟩;have hb':s1.heap.objs.size<=b:=by
  rcases cj.mp hb with z |z
  .rw[z]
   exact og _
  .have z':b=s1.heap.objs.size:=by simpa using z
   rw[z'];exact aj _
 exact I1.fpOk hb' (I1.hok.fresh hb')
end
def gI(env:bo):List (Str×gh)->List (Str×Addr)->List (Str×Addr)
 |[],acc=>acc
 |p::r,acc=>if(p.2== .free)=true then gI env r ((p.1,(env.cells.lookup p.1).getD 0)::acc)else gI env r acc
theorem Ec{sc:Scope}{env:bo}(h:∀p∈sc.names,p.2=.free->∃c,env.cells.lookup p.1=some c):closureFor sc env=pure (gI env sc.names []):=by
 unfold closureFor;have go:∀(l:List (Str×gh))(acc:List (Str×Addr)),(∀p∈l,p.2=.free->∃c,env.cells.lookup p.1=some c)->
   (forIn l acc (λx r=>if(x.2==gv)=true then do let a <-cellOf env x.1;pure (xj ((x.1,a)::r))else pure (xj r)):Sem _)=pure (gI env l acc):=by
  intro l
  induction l with
  |nil=>intro acc _;rfl
  |cons p r ih=>
   intro acc hp;rw[tf];have hr:=λacc'=>ih acc' λq hq=>hp q (bn _ hq)
   by_cases c:(p.2==gv)=true
   .obtain⟨a,ea⟩:=hp p bf (by simpa using c)
    have e1:cellOf env p.1=pure a:=by unfold cellOf;rw[ea]
    rw[if_pos c,e1];simp only[pure_bind];rw[hr];show _=pure (if(p.2== .free)=true then _ else _);rw[if_pos c,ea];rfl
   .rw[if_neg c]
    simp only[pure_bind];rw[hr];show _=pure (if(p.2== .free)=true then _ else _);rw[if_neg c]
 have e:=go sc.names [] h;show(forIn sc.names [] _ >>= λr=>pure r)=_;rw[bind_pure];exact e
theorem uS{env:bo}:∀(l:List (Str×gh))(acc:List (Str×Addr)),(∀p∈l,p.2=.free->∃c,env.cells.lookup p.1=some c)->
  ∀y c,(gI env l acc).lookup y=some c->acc.lookup y=some c\/env.cells.lookup y=some c
 |[],acc,_,y,c,e=>.inl e
 |p::r,acc,h,y,c,e=>by
  have hr:∀q∈r,q.2=.free->∃c,env.cells.lookup q.1=some c:=λq hq=>h q (bn _ hq);unfold gI at e
  by_cases k:(p.2==gv)=true
  .rw[if_pos k]at e
   obtain⟨a,ea⟩:=h p bf (by simpa using k);rcases uS r _ hr y c e with z |z
   .rw[dr]at z
    cases w:y==p.1 with
    |true=>
     rw[w,ea]at z;have hy:y=p.1:=by simpa using w
     rw[hy,ea];exact .inr z
    |false=>
     rw[w]at z;exact .inl z
   .exact .inr z
  .rw[if_neg k]at e
   exact uS r acc hr y c e
theorem pY{env:bo}:∀(l:List (Str×gh))(acc:List (Str×Addr))(y:Str),((∃c,acc.lookup y=some c)\/(y,gv)∈l)->∃c,(gI env l acc).lookup y=some c
 |[],acc,y,h=>by
  rcases h with h |h
  .exact h
  .cases h
 |p::r,acc,y,h=>by
  unfold gI
  by_cases k:(p.2==gv)=true
  .rw[if_pos k]
   refine pY r _ y ?_;cases w:y==p.1 with
   |true=>exact .inl ⟨_,by rw[dr,w]⟩
   |false=>
    rcases h with⟨c,h⟩|h
    .exact .inl ⟨c,by rw[dr,w];exact h⟩
    .rcases cj.mp h with z |z
     .rw[<-z]at w
      simp at w
     .exact .inr z
  .rw[if_neg k]
   refine pY r _ y ?_;rcases h with h |h
   .exact .inl h
   .rcases cj.mp h with z |z
    .rw[<-z]at k
     simp at k
    .exact .inr z
theorem Ig{env:bo}:∀{names:List (Str×gh)}{x:Str},(∀y∈names,y.2≠.cell)->
  (let l:=(names.map λ(n,k)=>if(k==gv&&env.scope.kind== .function&&env.kindOf n==some .cell)then(n,fu)else(n,k)).lookup x;l=some .cell\/l=some .free)->(x,gv)∈names
 |[],x,_,h=>by
  rcases h with h |h<;>cases h
 |(n,k)::r,x,hc,h=>by
  dsimp only at h;rw[aw]at h;have ih:=@Ig env r x λy hy=>hc y (bn _ hy);have nk:k≠.cell:=hc (n,k) bf
  by_cases c:(k==gv&&env.scope.kind== .function&&env.kindOf n==some .cell)=true
  .have kf:k=.free:=by
    simp only[jb,beq_iff_eq]at c;exact c.1.1
   dsimp only at h;rw[if_pos c,dr]at h;cases w:x==n with
   |true=>
    have hx:x=n:=by simpa using w
    rw[hx,<-kf];exact bf
   |false=>
    rw[w]at h;exact bn _ (ih h)
  .dsimp only at h
   rw[if_neg c,dr]at h;cases w:x==n with
   |true=>
    rw[w]at h;have hx:x=n:=by simpa using w
    have kf:k=.free:=by
     rcases h with h |h
     .exact absurd (ci h) nk
     .exact ci h
    rw[hx,<-kf];exact bf
   |false=>
    rw[w]at h;exact bn _ (ih h)
def eD(X:Cx)(sc:Scope)(N:List Str)(C:Addr)(BJ:aa)(BK:Hp)(ex:List Addr):Cx where
 prog:=X.prog
 w:=X.w
 K:=X.K
 mg:=X.mg
 base:=X.base
 A:=X.A
 N:=N
 BJ:=BJ
 BK:=BK
 env:=compEnvC sc (gI X.env sc.names []) C X.env
 outer:=X.stack
 stack:=X.stack
 ex:=ex
 fn:=λ_=>false
 calm:=X.calm
 pn:=[]
 xe:=λ_ _=>False
def iP(own:List Str)(cap:List (Nat×Str))(σ:St):St:=own.map (λ_=>none)++cap.map λp=>(σ[p.1]?).join
def cF(own:List Str)(cap:List (Nat×Str)):List Str:=own++cap.map (·.2)
def xV(J:It)(g:TG)(te:TE)(BN:St)(H1:Hp)(D:Addr)(Q:VK):Prop:=
 ∃W:Nat->Nat->St->Hp->List V->Prop,(∃m,W 0 m BN (aL H1 D (.lst [])) [])/\∀i m σ H ys,W i m σ H ys->H D=some (.lst ys)/\
  ((J.stop i H/\Q (.ref D) H)\/(J.go i H/\ys.length<sizeLine/\∀x H2,J.yld i H x H2->g x σ H2 λσ3 H3=>te σ3 H3 λy H4=>H4 D=some (.lst ys)/\∃m',m'<m/\W (i+1) m' σ3 (aL H4 D (.lst (ys++[y]))) (ys++[y])))
def tK(own:List Str)(cap:List (Nat×Str))(wi:TI)(g:TG)(te:TE):TE:=λσ H Q=>wi σ H λJ H1=>∀D,H1 D=none->xV J g te (iP own cap σ) H1 D Q
def Nx(n:Nat)(Pv:Nat->St->Hp->List V->Prop)(D:Addr)(i:Nat)(ys:List V)(σ:St)(y:V)(H:Hp):Prop:=
 H D=some (.lst ys)/\∃m,m<n-i/\(m=n-(i+1)/\i+1<=n/\Pv (i+1) σ (aL H D (.lst (ys++[y]))) (ys++[y]))
theorem acB{n:Nat}{Pv:Nat->St->Hp->List V->Prop}{D:Addr}{i:Nat}{ys:List V}{σ:St}{y:V}{H:Hp}(h:i<n)(hD:H D=some (.lst ys))(p:Pv (i+1) σ (aL H D (.lst (ys++[y]))) (ys++[y])):Nx n Pv D i ys σ y H:=
 ⟨hD,n-(i+1),by omega,rfl,h,p⟩
theorem Z8{J:It}{g:TG}{te:TE}{BN:St}{H1:Hp}{D:Addr}{Q:VK}(n:Nat)(hn:n<=sizeLine)(Pv:Nat->St->Hp->List V->Prop)(h0:Pv 0 BN (aL H1 D (.lst [])) [])
  (hl:∀i σ H ys,Pv i σ H ys->ys.length=i/\H D=some (.lst ys))(hgo:∀i σ H ys,i<n->Pv i σ H ys->J.go i H)
  (hs:∀i σ H ys x H2,i<n->Pv i σ H ys->J.yld i H x H2->g x σ H2 λσ3 H3=>te σ3 H3 λy H4=>Nx n Pv D i ys σ3 y H4)
  (hd:∀σ H ys,Pv n σ H ys->J.stop n H/\Q (.ref D) H):xV J g te BN H1 D Q:=by
 refine⟨λi m σ H ys=>m=n-i/\i<=n/\Pv i σ H ys,⟨n,rfl,de _,h0⟩,?_⟩
 rintro i m σ H ys ⟨rfl,hi,p⟩
 obtain⟨l1,l2⟩:=hl i σ H ys p;refine⟨l2,?_⟩
 by_cases hlt:i<n
 .exact .inr ⟨hgo i σ H ys hlt p,by omega,λx H2 y=>hs i σ H ys x H2 hlt p y⟩
 .have e:i=n:=by omega
  subst e;exact .inl (hd σ H ys p)
section
variable{prog:Program}{w:am}{A:aq}{R:qe->aa->Prop}{s:aa}
theorem Yj{elt target iter:ah}{sc:Scope}{pos:ai}{it acc:Value}{env:bo}(I:Nat->aa->Prop)
  (turn:∀n s,I n s->wpAny (model prog w) A (pyNext it) (λr s1=>match r with
   |none=>R (.ok .next) s1
   |some v=>wpAny (model prog w) A (letOwnedTupleGo target it v) (λ_ s2=>wpAny (model prog w) A (assign target env v) (λ_ s3=>wpAny (model prog w) A (eval elt env)
     (λx s4=>wpAny (model prog w) A (call (.builtin "list.append") [acc,x]) (λ_ s5=>∃m,m<n/\I m s5) (λ_ _=>False) s4) (λ_ _=>False) s3) (λ_ _=>False) s2) (λ_ _=>False) s1) (λ_ _=>False) s)
  (n:Nat)(h:I n s):codeAny (model prog w) A (.compLoop (.ListComp elt [⟨target,iter,[],0⟩] sc pos) 0 it acc env) R s:=by
 refine codeAny_loop rfl I (λn s hI=>?_) n h;show wpAny _ _ ((compTurn (.ListComp elt [⟨target,iter,[],0⟩] sc pos) 0 it acc env).onRaise (λx=>do noteFrame x env;theTreesLotGoes x)) _ _ s;refine wpAny_noted ?_;rw[compTurn_list1];refine ae (ph (ae ?_));refine ft (turn n s hI) (λr s1 h1=>?_) λ_ _ z=>z.elim;cases r with
 |none=>exact ak h1
 |some v=>
  refine ae (ft h1 (λ_ s2 h2=>?_) λ_ _ z=>z.elim);refine ae (ft h2 (λ_ s3 h3=>?_) λ_ _ z=>z.elim);refine ae (ae (ft h3 (λx s4 h4=>?_) λ_ _ z=>z.elim));refine ae (ft h4 (λ_ s5 h5=>?_) λ_ _ z=>z.elim);exact ak (ak ⟨rfl,h5⟩)
end
structure hV(X:Cx)(sc:Scope)(own:List Str)(cap:List (Nat×Str)):Prop where
 kind:sc.kind=.function
 names:∀y∈sc.names,y.2=.local->sc.names.lookup y.1=some .local
 nocell:∀y∈sc.names,y.2≠.cell
 free:∀y∈sc.names,y.2=.free->X.env.kindOf y.1=some .cell
 at':∀p∈cap,X.N[p.1]?=some p.2
 cap:∀p∈cap,sc.names.lookup p.2=some .free
section
variable{X:Cx}{sc:Scope}{own:List Str}{cap:List (Nat×Str)}{BI:List (Addr×Obj)}{σ:St}{H:Hp}{s:aa}
theorem hV.has(k:hV X sc own cap)(ok:X.Ok):∀p∈sc.names,p.2=.free->∃c,X.env.cells.lookup p.1=some c:=λp hp e=>ok.has p.1 (.inl (k.free p hp e))
theorem rR{env:bo}:∀{names:List (Str×gh)}{x:Str},env.scope.kind=.function->names.lookup x=some .free->env.kindOf x=some .cell->
  (names.map λ(n,k)=>if(k==gv&&env.scope.kind== .function&&env.kindOf n==some .cell)then(n,fu)else(n,k)).lookup x=some .cell
 |[],x,_,h,_=>by cases h
 |(n,k)::r,x,hk,h,hx=>by
  rw[aw];dsimp only;rw[dr]at h;cases w:x==n with
  |true=>
   rw[w]at h;have e:x=n:=by simpa using w
   have kf:k=.free:=ci h;have c:(k==gv&&env.scope.kind== .function&&env.kindOf n==some .cell)=true:=by
    rw[kf,hk,<-e,hx];decide
   rw[if_pos c,dr,w]
  |false=>
   rw[w]at h;have ih:=@rR env r x hk h hx
   by_cases c:(k==gv&&env.scope.kind== .function&&env.kindOf n==some .cell)=true
   .rw[if_pos c,dr,w]
    exact ih
   .rw[if_neg c,dr,w]
    exact ih
theorem aF.cmp(k:hV X sc own cap){h4:Heap}{fp:List Addr}{m:Str->BB}{t':Nat}(I:aF X BI σ H s)(hf:∀b∈fp,fO X BI H b)(hlt:∀b∈fp,b<s.heap.objs.size)(hns:h4.Ns s.heap.objs.size m)
  (kp:∀b o,s.heap.get? b=some o->h4.get? b=some o):aF (eD X sc (cF own cap) s.heap.objs.size s H fp) [] (iP own cap σ) H {s with heap:=h4,toks:=t'}:=by
 have hcl:∀y c,(gI X.env sc.names []).lookup y=some c->X.env.cells.lookup y=some c:=λy c e=>by
  rcases uS sc.names [] (k.has I.ok) y c e with z |z
  .cases z
  .exact z
 have nst:∀b∈fp,b∉eQ X.stack:=λb hb z=>by
  rcases cj.mp (I.stkSub b z)with e |e
  .exact(hf b hb).2.1 e
  .exact(hf b hb).2.2.1 e
 refine⟨⟨I.ok.mod,k.kind,I.ok.glob,I.ok.blt,aj _,λx y c h1 h2=>I.ok.inj x y c (hcl x c h1) (hcl y c h2),λx hx=>?_,λx c e=>(nomatch e),I.ok.hd,I.ok.frames,.inl rfl,λb hb=>⟨cx (hlt b hb),λx c e=>(hf b hb).2.2.2.2.1 x c (hcl x c e)⟩,
  I.bs,fm I.ok.bsz I.sz,λb o e hb=>?_,nst,I.stack,I.stkFree⟩,rfl,I.bare,Un.kept kp,⟨m,hns,λi x v h1 h2 h3=>?_⟩,λx c e=>?_,I.hok.fresh (aj _),λx c e=>I.freeC x c (hcl x c e),λp hp=>absurd (show p∈([]:List (Addr×Obj)) from hp) (by simp),I.hok.kept kp,?_⟩
 .exact pY sc.names [] x (.inr (Ig k.nocell hx))
 .rcases(hf b hb).2.2.2.1 with z |z
  .exact I.ok.noex b o e z
  .exact absurd (di (ay (I.ok.bs b o e).1) z) (ir _)
 .have hN:(cF own cap)[i]?=some x:=h1
  unfold cF at hN;unfold iP at h2
  by_cases hi:i<own.length
  .rw[fj (by simpa using hi),ax]at h2
   cases e:own[i]? with
   |none=>rw[e]at h2;cases h2
   |some z=>rw[e]at h2;cases h2
  .rw[dj (by simpa using hi),ax,ao]at h2
   rw[dj (by omega),ax]at hN;cases e:cap[i-own.length]? with
   |none=>rw[e]at h2;cases h2
   |some p=>
    rw[e]at h2 hN;have hp:p∈cap:=cy e;have hx:p.2=x:=ci hN;have hv:(σ[p.1]?).join=some v:=ci h2;have hv':σ[p.1]?=some (some v):=by
     cases e2:σ[p.1]? with
     |none=>rw[e2]at hv;cases hv
     |some z=>rw[e2]at hv;exact congrArg some hv
    have fr:=k.cap p hp;have kc:X.env.kindOf p.2=some .cell:=k.free (p.2,.free) (jt fr) rfl;obtain⟨m0,_,hl⟩:=I.loc;obtain⟨u,ru,lk⟩:=hl p.1 p.2 v (k.at' p hp) hv' (.inr (.inl kc));refine⟨u,ru,?_⟩;rcases lk with⟨k1,_⟩|⟨_,c,ec,cell⟩
    .rw[kc]at k1
     cases k1
    .rw[<-hx]
     obtain⟨c',ec'⟩:=pY (env:=X.env) sc.names [] p.2 (.inr (jt fr));have:=(hcl _ _ ec').symm.trans ec;cases this;obtain⟨o,ho,hd⟩:=cell;exact .inr ⟨.inl (rR I.ok.kind fr kc),c,ec',o,kp c o ho,hd⟩
 .obtain⟨v,o,ho,hd⟩:=I.cell x c (hcl x c e)
  exact⟨v,o,kp c o ho,hd⟩
 .unfold iP
  show _=(cF own cap).length;unfold cF;rw[bh,bh,ao,ao,ao]
theorem aF.uncmp{s3 s':aa}{H3 H':Hp}{N:List Str}{σ':St}{C:Addr}{fp:List Addr}{pl:List (Addr×Obj)}(I:aF X BI σ H s)(hf:∀b∈fp,fO X BI H b)(u:Un (eQ X.stack) fp H H3 s.heap s3.heap)(os:s3.os=s.os)
  (J:aF (eD X sc N C s3 H3 fp) pl σ' H' s'):aF X BI σ H' s':=by
 have os':s'.os=s.os:=(show s'.os=s3.os from J.os).trans os;refine I.call' (ch:=fp) os' (u.trans J.base) J.hok J.bare λb hb=>?_;obtain⟨_,f1,_,f3,f4,f5⟩:=hf b hb;exact⟨f3,f1,f4,f5⟩
end
section
variable{X:Cx}{sc:Scope}{own:List Str}{cap:List (Nat×Str)}{BI:List (Addr×Obj)}{σ:St}{H:Hp}{s:aa}{elt target iter:ah}{pos pos':ai}{wi:TI}{g:TG}{te:TE}{Q:VK}
theorem Gk{use:Option (Value->Sem Unit)}{Qf:Value->aa->Prop}(k:hV X sc own cap)(hi:PI X target iter wi)(hc:X.calm=true)
  (hg:∀C BJ BK ex,PG (eD X sc (cF own cap) C BJ BK ex) target g)(he:∀C BJ BK ex,PE (eD X sc (cF own cap) C BJ BK ex) elt te)(I:aF X BI σ H s)(h:tK own cap wi g te σ H Q)
  (fin:∀D C s' H' m,aF X BI σ H' s'->fO X BI H' C->s'.heap.Ns C m->Q (.ref D) H'->compPost (model X.prog X.w) X.A X.xe use Qf (.ref D) C (.ok .next) s')
  (hs:∀x,foldedSetIterable iter X.env x=pure x):
  wpAny (model X.prog X.w) X.A (comprehension (.ListComp elt [⟨target,iter,[],0⟩] sc pos) sc X.env pos' (newList []) false (eval iter X.env) use) Qf X.xe s:=by
 refine xk (use:=use) rfl hs (Ec (k.has I.ok)) k.kind k.names ?_;refine bD (hi BI s σ H _ I h) λv s1 h1=>bD h1 λitv s2 h2=>?_;obtain⟨it,fp,tn,J,H2,e,I2,T,st2,f2,hW⟩:=h2;subst e;refine iy (j7 k.nocell (λy hy=>nomatch hy) (λh4 hns hsb=>?_) k.kind);have I3:aF X BI σ (aL H2 s2.heap.objs.size (.lst [])) {s2 with heap:=s2.heap.push {cls:=.type "list",data:=.seq ([]:BA).toArray},toks:=s2.toks}:=I2.lnew (ys:=[]) (its:=[]) .nil (de _);have hD:H2 s2.heap.objs.size=none:=I2.fresh;have ltf:∀b∈fp,b<s2.heap.objs.size:=λb hb=>by
  obtain⟨o,ho,_⟩:=T.obj _ _ st2 b hb;exact ay ho
 have f3:∀b∈fp,fO X BI (aL H2 s2.heap.objs.size (.lst [])) b:=λb hb=>⟨by rw[bK (cx (ltf b hb))];exact(f2 b hb).1,(f2 b hb).2⟩;have un:Un (eQ X.stack) fp H2 (aL H2 s2.heap.objs.size (.lst [])) s2.heap (s2.heap.push {cls:=.type "list",data:=.seq ([]:BA).toArray}):=Un.laid (λb u q=>ar _ q) (aj _) hD;have kp:∀b o,(s2.heap.push {cls:=.type "list",data:=.seq ([]:BA).toArray}).get? b=some o->h4.get? b=some o:=λb o q=>hsb.extBut b o (cx (ay q)) (ar _ q);have J0:=I3.cmp (t':=s2.toks+([]:List (Str×Value)).length) k f3 (λb hb=>di (ltf b hb) (by rw[ji];exact og _)) hns kp;have stat:∀{H':Hp},(∀b∈fp,H' b=none)->∀b∈fp,fO (eD X sc (cF own cap) (s2.heap.push {cls:=.type "list",data:=.seq ([]:BA).toArray}).objs.size {s2 with heap:=s2.heap.push {cls:=.type "list",data:=.seq ([]:BA).toArray},toks:=s2.toks} (aL H2 s2.heap.objs.size (.lst [])) fp) [] H' b:=λhn b hb=>
  ⟨hn b hb,(J0.ok.exf b hb).1,J0.ok.exfs b hb,.inl hb,(J0.ok.exf b hb).2,λp hp=>absurd (show p∈([]:List (Addr×Obj)) from hp) (by simp)⟩
 have st4:tn 0 h4:=T.keep _ _ _ st2 λb hb o q=>kp b o (ar _ q);have fr0:∀b∈fp,(aL H2 s2.heap.objs.size (.lst [])) b=none:=λb hb=>(f3 b hb).1;have loop:codeAny (model X.prog X.w) X.A (.compLoop (.ListComp elt [⟨target,iter,[],0⟩] sc pos) 0 (.ref it) (.ref s2.heap.objs.size) (compEnvC sc (gI X.env sc.names []) (s2.heap.push {cls:=.type "list",data:=.seq ([]:BA).toArray}).objs.size X.env))
   (compPost (model X.prog X.w) X.A X.xe use Qf (.ref s2.heap.objs.size) (s2.heap.push {cls:=.type "list",data:=.seq ([]:BA).toArray}).objs.size) {s2 with heap:=h4,toks:=s2.toks+([]:List (Str×Value)).length}:=by
  obtain⟨W,⟨m0,w0⟩,turn⟩:=hW s2.heap.objs.size hD;refine Yj (λn s'=>∃i σ' H' ys,aF (eD X sc (cF own cap) (s2.heap.push {cls:=.type "list",data:=.seq ([]:BA).toArray}).objs.size {s2 with heap:=s2.heap.push {cls:=.type "list",data:=.seq ([]:BA).toArray},toks:=s2.toks} (aL H2 s2.heap.objs.size (.lst [])) fp) [] σ' H' s'/\tn i s'.heap/\(∀b∈fp,H' b=none)/\W i n σ' H' ys) ?_ m0
   ⟨0,_,_,[],J0,st4,fr0,w0⟩
  rintro n s5 ⟨i,σ5,H5,ys,I5,st5,fr5,w5⟩
  obtain⟨hD5,w5⟩:=turn i n σ5 H5 ys w5;rcases w5 with⟨stop,qn⟩|⟨go,hlt,step⟩
  .refine bD (T.done (eD X sc (cF own cap) (s2.heap.push {cls:=.type "list",data:=.seq ([]:BA).toArray}).objs.size {s2 with heap:=s2.heap.push {cls:=.type "list",data:=.seq ([]:BA).toArray},toks:=s2.toks} (aL H2 s2.heap.objs.size (.lst [])) fp) rfl rfl rfl hc i [] s5 σ5 H5 _ I5 (stat fr5) st5 stop) ?_
   rintro r s6 ⟨hr,I6⟩
   subst hr;obtain⟨m,hn,_⟩:=id I6.loc;exact fin _ _ s6 H5 m (I2.uncmp (s3:={s2 with heap:=s2.heap.push {cls:=.type "list",data:=.seq ([]:BA).toArray},toks:=s2.toks}) f2 un rfl I6) (I3.fpOk (aj _) I6.free) hn qn
  .refine bD (T.item (eD X sc (cF own cap) (s2.heap.push {cls:=.type "list",data:=.seq ([]:BA).toArray}).objs.size {s2 with heap:=s2.heap.push {cls:=.type "list",data:=.seq ([]:BA).toArray},toks:=s2.toks} (aL H2 s2.heap.objs.size (.lst [])) fp) rfl rfl rfl hc i [] s5 σ5 H5 _ I5 (stat fr5) st5 go) ?_
   rintro r s6 ⟨u,hr,h6⟩
   subst hr;refine bD h6 ?_
   rintro _ s7 ⟨x,H7,I7,r7,y7,st7,fr7⟩
   have I7':=I7.pinned (stat fr7) (T.obj _ _ st7);refine bD (hg _ _ _ _ _ s7 σ5 H7 x u _ I7' r7 (step x H7 y7)) ?_
   rintro _ s8 ⟨σ8,H8,I8,q8⟩
   refine bD (he _ _ _ _ _ s8 σ8 H8 _ I8 q8) ?_
   rintro v9 s9 ⟨y,H9,I9,r9,hD9,m',hm,w9⟩
   refine bD (qD _ s9 σ8 H9 (.ref s2.heap.objs.size) [y] (.ref s2.heap.objs.size) [v9] (λ_ H'=>H'=aL H9 s2.heap.objs.size (.lst (ys++[y]))) I9 rfl (.cons r9 .nil) ⟨_,ys,y,rfl,rfl,hD9,hlt,rfl⟩) ?_
   rintro _ s10 ⟨_,H10,I10,_,q10⟩
   subst q10;refine⟨m',hm,i+1,σ8,_,_,I10.unpinned,T.keep _ _ _ st7 λb hb o q=>(I10.pin (b,o) (df _ (df _ (kZ hb q)))).1,λb hb=>?_,w9⟩;obtain⟨o,q,d⟩:=T.obj _ _ st7 b hb;exact(I10.pin (b,o) (df _ (df _ (kZ hb q)))).2.1
 exact xl loop (T.self _ 0 _ _ _ st4 loop)
theorem aaz(k:hV X sc own cap)(hi:PI X target iter wi)(hc:X.calm=true)
  (hg:∀C BJ BK ex,PG (eD X sc (cF own cap) C BJ BK ex) target g)(he:∀C BJ BK ex,PE (eD X sc (cF own cap) C BJ BK ex) elt te)
  (hs:∀x,foldedSetIterable iter X.env x=pure x:=by intro _;rfl):PE X (.ListComp elt [⟨target,iter,[],0⟩] sc pos) (tK own cap wi g te):=by
 intro BI s σ H Q I h;rw[xn];refine Gk (use:=none) k hi hc hg he I h (λD C s' H' m I' fC hn q=>?_) hs;refine⟨m,hn,λh' sb=>⟨.ref D,H',?_,rfl,q⟩⟩;obtain⟨f0,f1,f2,f3,f4,f5⟩:=fC;exact I'.turned (t':=s'.toks) (λb o hb e=>(sb.2 b hb).trans e) f0 f1 f3 f4 f5
theorem X4{i:Nat}{x:Str}{py spos:ai}(hN:X.N.Nodup)(hx:X.N[i]?=some x)(hl:kS X.env.scope x)(k:hV X sc own cap)(hi:PI X target iter wi)(hc:X.calm=true)
  (hg:∀C BJ BK ex,PG (eD X sc (cF own cap) C BJ BK ex) target g)(he:∀C BJ BK ex,PE (eD X sc (cF own cap) C BJ BK ex) elt te)
  (hs:∀x,foldedSetIterable iter X.env x=pure x:=by intro _;rfl)(hsw:swapsWith (.ListComp elt [⟨target,iter,[],0⟩] sc pos) (some (.Name x py)) spos.line X.env=pure true:=by rfl)
  (hf:X.fn x=true\/X.env.scope.names.lookup x=some .local:=by first |exact .inl rfl |exact .inr rfl |assumption):
  PS X (.Assign [.Name x py] (.ListComp elt [⟨target,iter,[],0⟩] sc pos) spos) (Ff (tK own cap wi g te) (Te i)):=by
 intro BI s σ H D I h;rw[exec_Assign_Name_used _ _ _ _ hsw];refine ae (ph (ae ?_));show wpAny _ X.A (comprehension (.ListComp elt [⟨target,iter,[],0⟩] sc pos) sc X.env _ (newList []) false (eval iter X.env) (some (assign (.Name x py) X.env)) >>= λ_=>pure ()) _ _ s;refine ae (bD (Gk (use:=some (assign (.Name x py) X.env)) (Qf:=λ_ s'=>SP X BI D .next s') k hi hc hg he I h (λB C s' H' m I' fC hn q=>?_) hs) λ_ s' hq=>ak (ak hq))
 show wpAny _ _ (assign (.Name x py) X.env (.ref B)) _ _ s';obtain⟨o,es,ep,ho,hd,r⟩:=hn;obtain⟨f0,f1,f2,f3,f4,f5⟩:=fC;have I'':aF X (BI++[(C,o)]) σ H' s':=I'.pins_of λp hp=>(cq.mp hp).elim (λz=>I'.pin p (df _ z)) λz=>by
  have e:p=(C,o):=by simpa using z
  subst e;exact⟨ho,f0,f1,f2,λv z=>by rw[hd]at z;cases z⟩
 refine wpAny_assign_Name (qI I'' hN hx hl (v:=.ref B) rfl (λs2 I2=>?_) hf);have pC:=I2.pin (C,o) (by simp);refine⟨m,⟨o,es,ep,pC.1,hd,r⟩,λh' sb=>⟨_,H',?_,q⟩⟩;exact(I2.unpinned).turned (t':=s2.toks) (λb o hb e=>(sb.2 b hb).trans e) f0 f1 f3 f4 f5
end
section
variable{X:Cx}
theorem G4(hc:X.calm=true):iF X (.builtin "all") (λxs H Q=>∃(a:Addr)(bs:List Bool),xs=[.ref a]/\bV X.K H a (bs.map V.bl)/\Q (.bl (bs.all id)) H):=by
 intro BI s σ H xs us Q I r h;obtain⟨a,bs,rfl,hq,q⟩:=h;obtain⟨u,rfl,ru⟩:=jG r;cases ru;obtain⟨its,rv,pl,hz⟩:=I.list hq;have hl:bs.length=its.length:=by
  have:=rv.length
  rwa[ao]at this
 refine call_all_walk (tj pl.isList ?_);have ha:a<s.heap.objs.size:=by
  obtain⟨o,ho,_⟩:=pl.isList;exact ay ho
 refine⟨_,_,_,_,_,_,λi=>bs.getD i true,rfl,Walks.list (prog:=X.prog) (w:=X.w) (A:=X.A.in1) (show X.A.in1.handled=none from I.ok.hd hc) s.heap.objs.size a (cx ha) its.toArray,⟨⟨_,da _ rfl,rfl,rfl⟩,Heap.IsList.at pl.isList λo e=>ar _ e⟩,λi v s' Q' E' hv hQ=>?_,λh' tk kp=>?_⟩
 .have hv':its[i]?=some v:=by simpa using hv
  have hi:i<bs.length:=by
   have:=(ce.mp hv').1;omega
  obtain⟨u,hu,ru⟩:=rv.get (i:=i) (x:=.bl bs[i]) (by rw[ax,av hi];rfl);rw[hv']at hu;cases hu;cases(show v=oz bs[i] from ru);have e:bs.getD i true=bs[i]:=by simp[cf,hi]
  have hQ':Q' (bs.getD i true) s':=hQ;rw[e]at hQ';exact lh hQ'
 .have e:(bj its.toArray.size).all (λi=>bs.getD i true)=bs.all id:=by
   rw[au,<-hl,xo,ke,ke];constructor
   .intro z b hb
    obtain⟨i,hi,rfl⟩:=tm.mp hb;have:=z i (by simpa using hi);simpa[cf,hi]using this
   .intro z i hi
    have hi':i<bs.length:=by simpa using hi
    have:=z bs[i] (iz hi');simpa[cf,hi']using this
  show EP X BI σ Q (.bool ((bj its.toArray.size).all λi=>bs.getD i true)) _;rw[e];have I1:aF X BI σ H {s with heap:=s.heap.push {cls:=.type "list_iterator",data:=.fields #[.ref a,.int 0 0]},toks:=s.toks}:=I.kept λb o z=>ar _ z;have fp:fO X BI H s.heap.objs.size:=I.fpOk (aj _) (I.hok.fresh (aj _));obtain⟨f0,f1,f2,f3,f4,f5⟩:=fp;exact⟨.bl (bs.all id),H,I1.turned (λb o hb z=>kp b o (by simpa using hb) z) f0 f1 f3 f4 f5,rfl,q⟩
end
section
variable{prog:Program}{w:am}{A:aq}{E:Value->aa->Prop}{s:aa}
theorem Dy{it t:Addr}{i:Nat}{items:Array Value}{x:Value}{Q:Value->aa->Prop}(git:s.heap.IsTupleIter it t i)(gt:s.heap.IsTuple t items)(gx:items[i]?=some x)
  (gQ:∀h',h'.IsTupleIter it t (i+1)->ix it s.heap h'->Q x {s with heap:=h'}):wpAny (model prog w) A (ku (.ref it)) Q E s:=by
 obtain⟨o,go,gc,gd⟩:=id git;obtain⟨ol,gol,_,nl,gdl⟩:=gt;unfold ku;refine ae (mn (name:=io "__next__") git.typeIs tq (ju tq git.typeIs j8 ?_ (j9 _)));show wpAny _ _ (field (.ref it) 0 >>= _) _ _ s;refine ae (il go gd (x:=.ref t) rfl ?_);show wpAny _ _ (if(cr t==bi)=true then _ else _) _ _ s;rw[if_neg (show ¬((cr t==bi)=true) from ij)];show wpAny _ _ (field (.ref it) 1 >>= _) _ _ s;refine ae (il go gd (x:=.int i 0) rfl ?_);show wpAny _ _ (seqItems? (.ref t) >>= _) _ _ s;refine ae (kg gol gdl ?_);simp only[mj,gx];refine ae (qm go gd (by simp) (ak ⟨_,rfl,ak (gQ _ ?_ (mx ..))⟩));refine⟨_,sk _ go (k4 (tw gd _)),(k7 ..).trans gc,?_⟩;rw[tw gd];simp[rawInt]
theorem Wu{it t:Addr}{i:Nat}{items:Array Value}{Q:Value->aa->Prop}(hh:A.handled=none)(git:s.heap.IsTupleIter it t i)(gt:s.heap.IsTuple t items)(gx:items[i]?=none)
  (gE:∀h' e,qo it s.heap h'->(∃o,h'.get? e=some o/\o.cls=.type "StopIteration")->E (.ref e) {s with heap:=h'}):wpAny (model prog w) A (ku (.ref it)) Q E s:=by
 obtain⟨o,go,gc,gd⟩:=id git;obtain⟨ol,gol,_,nl,gdl⟩:=gt;unfold ku;refine ae (mn (name:=io "__next__") git.typeIs tq (ju tq git.typeIs j8 ?_ (j9 _)));show wpAny _ _ (field (.ref it) 0 >>= _) _ _ s;refine ae (il go gd (x:=.ref t) rfl ?_);show wpAny _ _ (if(cr t==bi)=true then _ else _) _ _ s;rw[if_neg (show ¬((cr t==bi)=true) from ij)];show wpAny _ _ (field (.ref it) 1 >>= _) _ _ s;refine ae (il go gd (x:=.int i 0) rfl ?_);show wpAny _ _ (seqItems? (.ref t) >>= _) _ _ s;refine ae (kg gol gdl ?_);simp only[mj,gx]
 first
  |refine ae (kn (ae (qm go gd (by simp) (ae (tx ?_)))))
  |refine ae (kn (ae (qm go gd (by simp) ?_)))
 show wpAny _ _ (newExc (.type "StopIteration") [] >>= _) _ _ _;refine ae ?_;simp only[newExc,newTuple];refine ae (iy ?_ (by size_fits));refine ae (m:=firstArgMember _ _) (tz (a:=bi) (by first |rfl |(simp only[firstArgMember];rfl)) ?_)
 refine iy ?_ (by size_fits);simp only[raiseNew];refine ae (wpAny_handled ?_)
 first
  |rw[show A.in1.handled=none from hh]
  |rw[hh]
 refine ae (ak (wpAny_throw ?_));exact gE _ _ (((mx ..).extBut.push _).push _) ⟨_,da _ rfl,rfl⟩
end
theorem I0{prog:Program}{w:am}{A:aq}(hh:A.handled=none)(it t:Addr)(hne:t≠it)(items:Array Value):
  jv prog w A it [it,t] items.size (λi v=>items[i]?=some v) (λi h=>h.IsTupleIter it t i/\h.IsTuple t items) where
 live:=λ_ _ st=>let⟨o,ho,_⟩:=st.1;⟨o,ho⟩
 frame:=λ_ _ _ st hk=>⟨let⟨o,ho,r⟩:=st.1;⟨o,hk it (by simp) o ho,r⟩,let⟨o,ho,r⟩:=st.2;⟨o,hk t (by simp) o ho,r⟩⟩
 item:=λi s Q E hi st hQ=>by
  refine Dy st.1 st.2 (x:=items[i]) (by simp[hi]) λh' hit' hs'=>?_;exact hQ _ h' s.toks (by simp[hi]) ⟨hit',st.2.extBut hs'.extBut hne⟩ hs'
 done:=λs Q E st hE=>Wu hh st.1 st.2 (by simp) hE
structure uE(z TI TO i1 i2:Addr)(fp1 fp2:List Addr):Prop where
 tiz:TI≠z
 toz:TO≠z
 tito:TI≠TO
 ti1:TI≠i1
 ti2:TI≠i2
 z1:z∉fp1
 z2:z∉fp2
 to1:TO∉fp1
 to2:TO∉fp2
 i12:i1∉fp2
 i21:i2∉fp1
 m1:i1∈fp1
 m2:i2∈fp2
section
variable{prog:Program}{w:am}{A:aq}{E:Value->aa->Prop}{s:aa}{z TI TO i1 i2:Addr}{fp1 fp2:List Addr}{n1 n2 i:Nat}{P1 P2:Nat->Value->Prop}{S1 S2:Nat->Heap->Prop}{a b:Value}
theorem Yz{Q:Value->aa->Prop}(D1:jv prog w A i1 fp1 n1 P1 S1)(D2:jv prog w A i2 fp2 n2 P2 S2)(ap:uE z TI TO i1 i2 fp1 fp2)(gz:ig s.heap z TI TO .none)(gTI:du s.heap TI (.ref i1) (.ref i2))(gTO:du s.heap TO a b)
  (g1:S1 i s.heap)(g2:S2 i s.heap)(l1:i<n1)(l2:i<n2)
  (gQ:∀h' tk x y,P1 i x->P2 i y->ig h' z TI TO (rawInt s.heap.objs.size)->du h' TO x y->S1 (i+1) h'->S2 (i+1) h'->du h' s.heap.objs.size x y->
   (∀c o,c≠z->c≠TO->c≠i1->c≠i2->s.heap.get? c=some o->h'.get? c=some o)->Q (.ref s.heap.objs.size) {s with heap:=h',toks:=tk}):
  wpAny (model prog w) A (Builtin.«zip.__next__» ⟨[.ref z],[]⟩) (λfin s'=>∃v,fin=.done (.ret v)/\Q v s') E s:=by
 have nz1:i1≠z:=λq=>ap.z1 (q▸ap.m1);have nz2:i2≠z:=λq=>ap.z2 (q▸ap.m2);have nt1:TO≠i1:=λq=>ap.to1 (q▸ap.m1);have nt2:TO≠i2:=λq=>ap.to2 (q▸ap.m2);show wpAny _ _ (field (.ref z) 2 >>= _) _ _ _;refine ae (il gz rfl (x:=.bool false) rfl ?_);show wpAny _ _ (field (.ref z) 3 >>= _) _ _ _;refine ae (il gz rfl (x:=.ref TI) rfl ?_);refine ae (kg gTI rfl ?_);show wpAny _ _ (ua (.ref z) >>= _) _ _ _;refine ae ?_;unfold ua;refine ae (il gz rfl (x:=.none) rfl (ak ?_));simp only[if_true];refine ae (kn ?_);refine ae (il gz rfl (x:=.ref TO) rfl ?_);refine ae (om gz (by simp) λh1 gz1 s1=>?_)
 replace gz1:ig h1 z TI TO .ellipsis:=gz1
 refine ae ?_;simp only[k9,l4,tf,xp];refine ae (ae (ub ?_));show wpAny _ _ (ku (.ref i1) >>= _) _ _ _;refine ae (D1.item i _ _ _ l1 (D1.frame _ _ _ g1 λc hc o q=>s1.extBut c o (λe=>ap.z1 (e▸hc)) q) λx h2 tk2 px g1' s2=>ak ?_);have gTO2:du h2 TO a b:=s2.extBut _ _ nt1 (s1.extBut _ _ ap.toz gTO);refine ae (kg gTO2 rfl ?_);refine ae (xq (s:={s with heap:=h2,toks:=tk2}) gTO2 λh3 gTO3 s3=>?_)
 replace gTO3:du h3 TO x b:=gTO3
 replace s3:ix TO h2 h3:=s3
 refine ae (tx (ak ?_));refine ae (ae (ub ?_));show wpAny _ _ (ku (.ref i2) >>= _) _ _ _;have g2':S2 i h3:=D2.frame _ _ _ g2 λc hc o q=>s3.extBut c o (λe=>ap.to2 (e▸hc)) (s2.extBut c o (λe=>ap.i12 (e▸hc)) (s1.extBut c o (λe=>ap.z2 (e▸hc)) q));refine ae (D2.item i _ _ _ l2 g2' λy h4 tk4 py g2'' s4=>ak ?_)
 replace s4:ix i2 h3 h4:=s4
 have gTO4:du h4 TO x b:=s4.extBut _ _ nt2 gTO3;refine ae (kg gTO4 rfl ?_);refine ae (xq (s:={s with heap:=h4,toks:=tk4}) gTO4 λh5 gTO5 s5=>?_)
 replace gTO5:du h5 TO x y:=gTO5
 replace s5:ix TO h4 h5:=s5
 refine ae (tx (ak (ak ?_)));refine ae (kg gTO5 rfl ?_);refine ae (xu ?_);have hsz:h5.objs.size=s.heap.objs.size:=by rw[s5.1,s4.1,s3.1,s2.1,s1.1]
 have gz5:ig h5 z TI TO .ellipsis:=s5.extBut _ _ ap.toz.symm (s4.extBut _ _ nz2.symm (s3.extBut _ _ ap.toz.symm (s2.extBut _ _ nz1.symm gz1)));have k5:∀c o,c≠z->c≠TO->c≠i1->c≠i2->s.heap.get? c=some o->h5.get? c=some o:=λc o c1 c2 c3 c4 q=>s5.extBut _ _ c2 (s4.extBut _ _ c4 (s3.extBut _ _ c2 (s2.extBut _ _ c3 (s1.extBut _ _ c1 q))));have g15:S1 (i+1) h5:=D1.frame _ _ _ g1' λc hc o q=>s5.extBut c o (λe=>ap.to1 (e▸hc)) (s4.extBut c o (λe=>ap.i21 (e▸hc)) (s3.extBut c o (λe=>ap.to1 (e▸hc)) q));have g25:S2 (i+1) h5:=D2.frame _ _ _ g2'' λc hc o q=>s5.extBut c o (λe=>ap.to2 (e▸hc)) q;have zlt:z<h5.objs.size:=ay gz5;show wpAny _ _ (l5 (.ref z) (.ref h5.objs.size) >>= _) _ _ _;refine ae ?_;unfold l5;have gz6:ig (h5.push {cls:=.type "tuple",data:=.seq #[x,y]}) z TI TO .ellipsis:=ar _ gz5;refine ae (om gz6 (by simp) λh7 gz7 s7=>?_)
 replace gz7:ig h7 z TI TO (rawInt h5.objs.size):=gz7
 refine om gz7 (by simp) λh8 gz8 s8=>?_
 replace gz8:ig h8 z TI TO (rawInt h5.objs.size):=gz8
 have up:∀c o,c≠z->h5.get? c=some o->h8.get? c=some o:=λc o c1 q=>s8.extBut _ _ c1 (s7.extBut _ _ c1 (ar _ q));have gT8:du h8 h5.objs.size x y:=s8.extBut _ _ (ko zlt) (s7.extBut _ _ (ko zlt) (da _ rfl));rw[hsz]at gz8 gT8;refine ak ⟨_,rfl,?_⟩;show Q (.ref h5.objs.size) _;rw[hsz];exact gQ h8 _ x y px py gz8 (up _ _ ap.toz gTO5) (D1.frame _ _ _ g15 λc hc o q=>up c o (λe=>ap.z1 (e▸hc)) q) (D2.frame _ _ _ g25 λc hc o q=>up c o (λe=>ap.z2 (e▸hc)) q) gT8 λc o c1 c2 c3 c4 q=>up c o c1 (k5 c o c1 c2 c3 c4 q)
theorem Jy{Q:Fin->aa->Prop}(D1:jv prog w A i1 fp1 n1 P1 S1)(D2:jv prog w A i2 fp2 n2 P2 S2)(ap:uE z TI TO i1 i2 fp1 fp2)(gz:ig s.heap z TI TO .none)(gTI:du s.heap TI (.ref i1) (.ref i2))(gTO:du s.heap TO a b)
  (g1:S1 i s.heap)(g2:S2 i s.heap)(fin:i=n1\/(i<n1/\i=n2))
  (gE:∀h' tk e,(∀c o,c≠z->c≠TO->c≠i1->c≠i2->s.heap.get? c=some o->h'.get? c=some o)->(∃o,h'.get? e=some o/\o.cls=.type "StopIteration")->E (.ref e) {s with heap:=h',toks:=tk}):
  wpAny (model prog w) A (Builtin.«zip.__next__» ⟨[.ref z],[]⟩) Q E s:=by
 have nz1:i1≠z:=λq=>ap.z1 (q▸ap.m1);have nz2:i2≠z:=λq=>ap.z2 (q▸ap.m2);have nt1:TO≠i1:=λq=>ap.to1 (q▸ap.m1);have nt2:TO≠i2:=λq=>ap.to2 (q▸ap.m2);show wpAny _ _ (field (.ref z) 2 >>= _) _ _ _;refine ae (il gz rfl (x:=.bool false) rfl ?_);show wpAny _ _ (field (.ref z) 3 >>= _) _ _ _;refine ae (il gz rfl (x:=.ref TI) rfl ?_);refine ae (kg gTI rfl ?_);show wpAny _ _ (ua (.ref z) >>= _) _ _ _;refine ae ?_;unfold ua;refine ae (il gz rfl (x:=.none) rfl (ak ?_));simp only[if_true];refine ae (kn ?_);refine ae (il gz rfl (x:=.ref TO) rfl ?_);refine ae (om gz (by simp) λh1 gz1 s1=>?_)
 replace gz1:ig h1 z TI TO .ellipsis:=gz1
 refine ae ?_;simp only[k9,l4,tf,xp];refine ae (ae (ub ?_));show wpAny _ _ (ku (.ref i1) >>= _) _ _ _;have g1':S1 i h1:=D1.frame _ _ _ g1 λc hc o q=>s1.extBut c o (λe=>ap.z1 (e▸hc)) q;rcases fin with e1 |⟨l1,e2⟩
 .subst e1
  refine ae (D1.done _ _ _ g1' λh2 e s2 he=>?_);obtain⟨oe,hoe,hce⟩:=he;have gz2:ig h2 z TI TO .ellipsis:=s2 _ _ nz1.symm gz1;have hez:e≠z:=λq=>by
   subst q;rw[gz2]at hoe;cases hoe;simp at hce
  refine om (s:={s with heap:=h2}) gz2 (by simp) λh3 _ s3=>?_;exact gE h3 _ e (λc o c1 _ c3 _ q=>s3.extBut _ _ c1 (s2 _ _ c3 (s1.extBut _ _ c1 q))) ⟨oe,s3.extBut _ _ hez hoe,hce⟩
 .subst e2
  refine ae (D1.item i _ _ _ l1 g1' λx h2 tk2 px g1'' s2=>ak ?_);have gTO2:du h2 TO a b:=s2.extBut _ _ nt1 (s1.extBut _ _ ap.toz gTO);refine ae (kg gTO2 rfl ?_);refine ae (xq (s:={s with heap:=h2,toks:=tk2}) gTO2 λh3 gTO3 s3=>?_)
  replace s3:ix TO h2 h3:=s3
  refine ae (tx (ak ?_));refine ae (ae (ub ?_));show wpAny _ _ (ku (.ref i2) >>= _) _ _ _;have g2':S2 i h3:=D2.frame _ _ _ g2 λc hc o q=>s3.extBut c o (λe=>ap.to2 (e▸hc)) (s2.extBut c o (λe=>ap.i12 (e▸hc)) (s1.extBut c o (λe=>ap.z2 (e▸hc)) q));refine ae (D2.done _ _ _ g2' λh4 e s4 he=>?_)
  replace s4:qo i2 h3 h4:=s4
  obtain⟨oe,hoe,hce⟩:=he;have gz4:ig h4 z TI TO .ellipsis:=s4 _ _ nz2.symm (s3.extBut _ _ ap.toz.symm (s2.extBut _ _ nz1.symm gz1));have hez:e≠z:=λq=>by
   subst q;rw[gz4]at hoe;cases hoe;simp at hce
  refine om (s:={s with heap:=h4,toks:=tk2}) gz4 (by simp) λh5 _ s5=>?_;exact gE h5 _ e (λc o c1 c2 c3 c4 q=>s5.extBut _ _ c1 (s4 _ _ c4 (s3.extBut _ _ c2 (s2.extBut _ _ c3 (s1.extBut _ _ c1 q))))) ⟨oe,s5.extBut _ _ hez hoe,hce⟩
theorem Sw{Q:BB->aa->Prop}(D1:jv prog w A.in1 i1 fp1 n1 P1 S1)(D2:jv prog w A.in1 i2 fp2 n2 P2 S2)(ap:uE z TI TO i1 i2 fp1 fp2)(gz:ig s.heap z TI TO .none)(gTI:du s.heap TI (.ref i1) (.ref i2))(gTO:du s.heap TO a b)
  (g1:S1 i s.heap)(g2:S2 i s.heap)(l1:i<n1)(l2:i<n2)
  (gQ:∀h' tk x y,P1 i x->P2 i y->ig h' z TI TO (rawInt s.heap.objs.size)->du h' TO x y->S1 (i+1) h'->S2 (i+1) h'->du h' s.heap.objs.size x y->
   (∀c o,c≠z->c≠TO->c≠i1->c≠i2->s.heap.get? c=some o->h'.get? c=some o)->Q (some (.ref s.heap.objs.size)) {s with heap:=h',toks:=tk}):
  wpAny (model prog w) A (pyNext (.ref z)) Q E s:=by
 have gT:s.TypeIs (.ref z) "zip":=⟨_,gz,rfl⟩;unfold pyNext;refine ae (uc (mn (name:=io "__next__") gT ud (ju ud gT l6 ?_ (l7 _))));exact Yz D1 D2 ap gz gTI gTO g1 g2 l1 l2 λh' tk x y p1 p2 e1 e2 e3 e4 e5 e6=>ak (gQ h' tk x y p1 p2 e1 e2 e3 e4 e5 e6)
theorem Uu{Q:BB->aa->Prop}(D1:jv prog w A.in1 i1 fp1 n1 P1 S1)(D2:jv prog w A.in1 i2 fp2 n2 P2 S2)(ap:uE z TI TO i1 i2 fp1 fp2)(gz:ig s.heap z TI TO .none)(gTI:du s.heap TI (.ref i1) (.ref i2))(gTO:du s.heap TO a b)
  (g1:S1 i s.heap)(g2:S2 i s.heap)(fin:i=n1\/(i<n1/\i=n2))
  (gQ:∀h' tk,(∀c o,c≠z->c≠TO->c≠i1->c≠i2->s.heap.get? c=some o->h'.get? c=some o)->Q none {s with heap:=h',toks:=tk}):wpAny (model prog w) A (pyNext (.ref z)) Q E s:=by
 have gT:s.TypeIs (.ref z) "zip":=⟨_,gz,rfl⟩;unfold pyNext;refine ae (uc (mn (name:=io "__next__") gT ud (ju ud gT l6 ?_ (l7 _))));refine Jy D1 D2 ap gz gTI gTO g1 g2 fin λh' tk e hk he=>?_;obtain⟨o,ho,hc⟩:=he;refine ae (xv (T:="StopIteration") (b:=true) ⟨o,ho,hc⟩ isSubtype_stop ?_);exact ak (gQ _ _ hk)
end
abbrev yB(h:Heap)(o1:Obj):Heap:=h.push o1
abbrev xX(h:Heap)(o1 o2:Obj):Heap:=(yB h o1).push o2
abbrev xZ(h:Heap)(o1 o2:Obj):Heap:=(xX h o1 o2).push {cls:=.type "tuple",data:=.seq #[.ref h.objs.size,.ref (yB h o1).objs.size]}
abbrev yH(h:Heap)(o1 o2:Obj):Heap:=(xZ h o1 o2).push {cls:=.type "tuple",data:=.seq #[.none,.none]}
abbrev rG(h:Heap)(o1 o2:Obj):Heap:=(yH h o1 o2).push {cls:=.type "zip",data:=.fields #[.none,.bool false,.bool false,.ref (xX h o1 o2).objs.size,.ref (xZ h o1 o2).objs.size]}
def uA(l:Addr)(o:Obj)(G:Heap->Prop):Prop:=
 ∀(prog:Program)(w:am)(A:aq)(E:Value->aa->Prop)(s:aa)(Q:Value->aa->Prop),G s.heap->Q (.ref s.heap.objs.size) {s with heap:=s.heap.push o}->wpAny (model prog w) A (pyIter (.ref l)) Q E s
theorem Qz(l1 l2:Addr)(o1 o2:Obj)(G1 G2:Heap->Prop)(p1:uA l1 o1 G1)(p2:uA l2 o2 G2)(k2:∀h,G2 h->G2 (h.push o1)):
  Meets (Builtin.«zip.__new__» ⟨[.type "zip",.ref l1,.ref l2],[]⟩) (λ_ R s=>G1 s.heap/\G2 s.heap/\R (.ok (.ret (.ref (yH s.heap o1 o2).objs.size))) {s with heap:=rG s.heap o1 o2}):=
 .of_wp λprog w A R s h=>by
  obtain⟨hp,g,d,tk,os⟩:=s;obtain⟨g1,g2,h⟩:=h;have hsub:=sub_zip;have q1:=λ(A':aq) (E':Value->aa->Prop) (Q':Value->aa->Prop)=>p1 prog w A' E' ⟨hp,g,d,tk,os⟩ Q' g1;have q2:=λ(A':aq) (E':Value->aa->Prop) (Q':Value->aa->Prop)=>p2 prog w A' E' ⟨hp.push o1,g,d,tk,os⟩ Q' (k2 _ g2)
  wp_walk using q1 _ _ _,q2 _ _ _
  exact⟨_,rfl,h⟩
theorem Wv{prog:Program}{w:am}{A:aq}{E:Value->aa->Prop}{s:aa}{l1 l2:Addr}{o1 o2:Obj}{G1 G2:Heap->Prop}{Q:Value->aa->Prop}(p1:uA l1 o1 G1)(p2:uA l2 o2 G2)(k2:∀h,G2 h->G2 (h.push o1))(g1:G1 s.heap)(g2:G2 s.heap)
  (f1:o1.isFreed=false)(f2:o2.isFreed=false)
  (h:∀h',ig h' (s.heap.objs.size+4) (s.heap.objs.size+2) (s.heap.objs.size+3) .none->du h' (s.heap.objs.size+2) (.ref s.heap.objs.size) (.ref (s.heap.objs.size+1))->du h' (s.heap.objs.size+3) .none .none->
   h'.get? s.heap.objs.size=some o1->h'.get? (s.heap.objs.size+1)=some o2->(∀c o,s.heap.get? c=some o->h'.get? c=some o)->Q (.ref (s.heap.objs.size+4)) {s with heap:=h'}):
  wpAny (model prog w) A (call (.type "zip") [.ref l1,.ref l2]) Q E s:=by
 refine callType_new F.called_zip (by decide) (F.typeCall_zip_2 _ _) (F.newCall_zip_2 _ _) (λobj=>F.args_object_init_3 obj _ _) F.entry_zip_new (Qz l1 l2 o1 o2 G1 G2 p1 p2 k2) ⟨g1,g2,?_⟩;have e1:(yB s.heap o1).objs.size=s.heap.objs.size+1:=ji ..;have e2:(xX s.heap o1 o2).objs.size=s.heap.objs.size+2:=by rw[ji,e1]
 have e3:(xZ s.heap o1 o2).objs.size=s.heap.objs.size+3:=by rw[ji,e2]
 have e4:(yH s.heap o1 o2).objs.size=s.heap.objs.size+4:=by rw[ji,e3]
 have r5:(rG s.heap o1 o2).get? (yH s.heap o1 o2).objs.size=some _:=da _ rfl;have r4:(rG s.heap o1 o2).get? (xZ s.heap o1 o2).objs.size=some _:=ar _ (da _ rfl);have r3:(rG s.heap o1 o2).get? (xX s.heap o1 o2).objs.size=some _:=ar _ (ar _ (da _ rfl));have r2:(rG s.heap o1 o2).get? (yB s.heap o1).objs.size=some o2:=ar _ (ar _ (ar _ (da _ f2)));have r1:(rG s.heap o1 o2).get? s.heap.objs.size=some o1:=ar _ (ar _ (ar _ (ar _ (da _ f1))));show _/\_;rw[e2,e3,e4]at r5;rw[e1,e2]at r3;rw[e3]at r4;rw[e1]at r2;rw[e4];exact⟨⟨_,r5,rfl⟩,h _ r5 r3 r4 r1 r2 λc o q=>ar _ (ar _ (ar _ (ar _ (ar _ q))))⟩
def iZ(f:Bool)(K:ag)(H:Hp)(a:Addr)(xs:List V):Prop:=match f with
 |true=>cT K H a xs
 |false=>bV K H a xs
def mT(f:Bool)(it a:Addr)(i:Nat)(h:Heap):Prop:=match f with
 |true=>h.IsTupleIter it a i
 |false=>h.IsListIter it a i
def rH(f:Bool)(a:Addr)(items:Array Value)(h:Heap):Prop:=match f with
 |true=>h.IsTuple a items
 |false=>h.IsList a items
def Pf(f:Bool)(a:Addr):Obj:=match f with
 |true=>{cls:=.type "tuple_iterator",data:=.fields #[.ref a,.int 0 0]}
 |false=>{cls:=.type "list_iterator",data:=.fields #[.ref a,.int 0 0]}
section
variable{X:Cx}{BI:List (Addr×Obj)}{σ:St}{H:Hp}{s:aa}{a:Addr}{xs ys:List V}{f:Bool}
theorem aF.seqF(I:aF X BI σ H s)(h:iZ f X.K H a xs):∃its:BA,bA xs its/\rH f a its.toArray s.heap/\xs.length<=sizeLine:=by
 cases f with
 |true=>
  obtain⟨its,r,p,z⟩:=I.tuple h;exact⟨its,r,p,z⟩
 |false=>
  obtain⟨its,r,p,z⟩:=I.list h;exact⟨its,r,p.isList,z⟩
theorem aF.seqF_inj(I:aF X BI σ H s)(h:iZ f X.K H a xs)(h':iZ f X.K H a ys):xs=ys:=by
 cases f with
 |true=>exact I.tuple_inj h h'
 |false=>exact I.list_inj h h'
theorem aF.apart{b:Addr}(I:aF X BI σ H s)(fb:fO X BI H b)(h:iZ f X.K H a xs):a≠b:=by
 have viaK:∀{o:Obj},X.K.lookup a=some o->a≠b:=λ{o} q e=>by
  have hb:X.base.get? b=some o:=e▸I.ok.mod.kin a o q;rcases fb.2.2.2.1 with z |z
  .exact I.ok.noex b o hb z
  .exact absurd (di (ay (I.ok.bs b o hb).1) z) (ir _)
 cases f with
 |true=>
  rcases h with(h |⟨o,h⟩) |⟨o,_,_,q,_⟩
  .exact gF h fb.1
  .exact gF h fb.1
  .exact viaK q
 |false=>
  rcases h with(h |⟨o,h⟩) |⟨o,_,_,q,_⟩
  .exact gF h fb.1
  .exact gF h fb.1
  .exact viaK q
end
theorem wT{prog:Program}{w:am}{A:aq}(f:Bool)(hh:A.handled=none)(it a:Addr)(hne:a≠it)(items:Array Value):
  jv prog w A it [it,a] items.size (λi v=>items[i]?=some v) (λi h=>mT f it a i h/\rH f a items h):=by
 cases f with
 |true=>exact I0 hh it a hne items
 |false=>exact Draws.list hh it a hne items
theorem Os(f:Bool)(a:Addr)(items:Array Value):uA a (Pf f a) (rH f a items):=by
 cases f with
 |true=>exact λprog w A E s Q g q=>l9 g q
 |false=>exact λprog w A E s Q g q=>tj g q
theorem mT.keep{f:Bool}{it a:Addr}{i:Nat}{h h':Heap}(x:mT f it a i h)(k:∀o,h.get? it=some o->h'.get? it=some o):mT f it a i h':=by
 cases f with
 |true=>obtain⟨o,e,r⟩:=x;exact⟨o,k o e,r⟩
 |false=>obtain⟨o,e,r⟩:=x;exact⟨o,k o e,r⟩
theorem rH.keep{f:Bool}{a:Addr}{items:Array Value}{h h':Heap}(x:rH f a items h)(k:∀o,h.get? a=some o->h'.get? a=some o):rH f a items h':=by
 cases f with
 |true=>obtain⟨o,e,r⟩:=x;exact⟨o,k o e,r⟩
 |false=>obtain⟨o,e,r⟩:=x;exact⟨o,k o e,r⟩
theorem mT.obj{f:Bool}{it a:Addr}{i:Nat}{h:Heap}(x:mT f it a i h):∃o,h.get? it=some o/\∀v,o.data≠.cell v:=by
 cases f with
 |true=>obtain⟨o,e,_,d⟩:=x;exact⟨o,e,λv z=>by rw[d]at z;cases z⟩
 |false=>obtain⟨o,e,_,d⟩:=x;exact⟨o,e,λv z=>by rw[d]at z;cases z⟩
theorem Dk(f:Bool)(a it:Addr){h:Heap}(e:h.get? it=some (Pf f a)):mT f it a 0 h:=by
 cases f with
 |true=>exact⟨_,e,rfl,rfl⟩
 |false=>exact⟨_,e,rfl,rfl⟩
theorem Pk(f:Bool)(a:Addr):(Pf f a).isFreed=false:=by cases f<;>rfl
def Pu (K : ag) (f1 : Bool) (a : Addr) (f2 : Bool) (b : Addr) : It :=
  ⟨λi H => ∃ xs ys x y, iZ f1 K H a xs ∧ iZ f2 K H b ys ∧ xs[i]? = some x ∧ ys[i]? = some y,
   λi H v H' => ∃ p x y, H p = none ∧ v = .ref p ∧ H' = aL H p (.tup [x, y]) ∧ (∀ xs, iZ f1 K H a xs → xs[i]? = some x) ∧ ∀ ys, iZ f2 K H b ys → ys[i]? = some y,
   λi H => ∃ xs ys, iZ f1 K H a xs ∧ iZ f2 K H b ys ∧ (i = xs.length ∨ (i < xs.length ∧ i = ys.length))⟩
structure yD(z TI TO i1 i2:Addr):Prop where
 tiz:TI≠z
 toz:TO≠z
 i1z:i1≠z
 i2z:i2≠z
 tito:TI≠TO
 ti1:TI≠i1
 ti2:TI≠i2
 to1:TO≠i1
 to2:TO≠i2
 i12:i1≠i2
theorem yD.ap{z TI TO i1 i2 a b:Addr}(r:yD z TI TO i1 i2)(h:∀c∈[z,TI,TO,i1,i2],a≠c)(g:∀c∈[z,TI,TO,i1,i2],b≠c):uE z TI TO i1 i2 [i1,a] [i2,b] where
 tiz:=r.tiz
 toz:=r.toz
 tito:=r.tito
 ti1:=r.ti1
 ti2:=r.ti2
 z1:=λq=>by simp at q;rcases q with q |q;exact r.i1z q.symm;exact h z (by simp) q.symm
 z2:=λq=>by simp at q;rcases q with q |q;exact r.i2z q.symm;exact g z (by simp) q.symm
 to1:=λq=>by simp at q;rcases q with q |q;exact r.to1 q;exact h TO (by simp) q.symm
 to2:=λq=>by simp at q;rcases q with q |q;exact r.to2 q;exact g TO (by simp) q.symm
 i12:=λq=>by simp at q;rcases q with q |q;exact r.i12 q;exact g i1 (by simp) q.symm
 i21:=λq=>by simp at q;rcases q with q |q;exact r.i12 q.symm;exact h i2 (by simp) q.symm
 m1:=by simp
 m2:=by simp
theorem F7{P:Program}{w:am}{K:ag}{elts:List ah}{x1:Nat}{tp:ai}(f1 f2:Bool)(a b z TI TO i1 i2:Addr)(zr:yD z TI TO i1 i2):
  rE P w K (.Tuple elts x1 tp) (Pu K f1 a f2 b) [z,TI,TO,i1,i2] z (λi h=>ig h z TI TO .none/\du h TI (.ref i1) (.ref i2)/\(∃u v,du h TO u v)/\mT f1 i1 a i h/\mT f2 i2 b i h) where
 mem:=by simp
 obj:=λi h st c hc=>by
  obtain⟨e1,e2,⟨u,v,e3⟩,e4,e5⟩:=st;simp at hc;rcases hc with q |q |q |q |q
  .subst q
   exact⟨_,e1,λv z=>nomatch z⟩
  .subst q
   exact⟨_,e2,λv z=>nomatch z⟩
  .subst q
   exact⟨_,e3,λv z=>nomatch z⟩
  .subst q
   exact e4.obj
  .subst q
   exact e5.obj
 keep:=λi h h' st k=>by
  obtain⟨e1,e2,⟨u,v,e3⟩,e4,e5⟩:=st;exact⟨k z (by simp) _ e1,k TI (by simp) _ e2,⟨u,v,k TO (by simp) _ e3⟩,e4.keep λo q=>k i1 (by simp) o q,e5.keep λo q=>k i2 (by simp) o q⟩
 item:=by
  intro X hP hw hK hc i BI s σ H E I hf st hg;subst hP hw hK;obtain⟨xs,ys,x,y,hx,hy,ex,ey⟩:=hg;obtain⟨its,r1,p1,_⟩:=I.seqF hx;obtain⟨jts,r2,p2,_⟩:=I.seqF hy;obtain⟨ux,gx,rx⟩:=r1.get ex;obtain⟨uy,gy,ry⟩:=r2.get ey;obtain⟨e1,e2,⟨u,v,e3⟩,e4,e5⟩:=st;have na:∀c∈[z,TI,TO,i1,i2],a≠c:=λc hc=>I.apart (hf c hc) hx;have nb:∀c∈[z,TI,TO,i1,i2],b≠c:=λc hc=>I.apart (hf c hc) hy;have hd:X.A.in1.handled=none:=I.ok.hd hc;have D1:=wT (prog:=X.prog) (w:=X.w) f1 hd i1 a (na i1 (by simp)) its.toArray;have D2:=wT (prog:=X.prog) (w:=X.w) f2 hd i2 b (nb i2 (by simp)) jts.toArray;refine Sw D1 D2 (zr.ap na nb) e1 e2 e3 ⟨e4,p1⟩ ⟨e5,p2⟩ (ce.mp gx).1 (ce.mp gy).1 λh1 tk vx vy px py q1 q2 q3 q4 q5 k1=>⟨_,rfl,?_⟩;have ex':vx=ux:=by
   have:its[i]?=some vx:=by simpa using px
   rw[gx]at this;exact(ci this).symm
  have ey':vy=uy:=by
   have:jts[i]?=some vy:=by simpa using py
   rw[gy]at this;exact(ci this).symm
  subst ex' ey';have lt:∀c∈[z,TI,TO,i1,i2],c≠s.heap.objs.size:=λc hc=>by
   have:∃o,s.heap.get? c=some o:=by
    simp at hc;rcases hc with q |q |q |q |q
    .exact⟨_,q▸e1⟩
    .exact⟨_,q▸e2⟩
    .exact⟨_,q▸e3⟩
    .obtain⟨o,ho,_⟩:=e4.obj
     exact⟨o,q▸ho⟩
    .obtain⟨o,ho,_⟩:=e5.obj
     exact⟨o,q▸ho⟩
   obtain⟨o,ho⟩:=this;exact cx (ay ho)
  refine wpAny_letOwnedTupleGo_zip (s:={s with heap:=h1,toks:=tk}) q1 λh2 z2 sb2=>?_;have t2:h2.get? s.heap.objs.size=some {cls:=.type "tuple",data:=.seq #[vx,vy]}:=(sb2.2 _ (lt z (by simp)).symm).trans q5;have I2:aF X BI σ (aL H s.heap.objs.size (.tup [x,y])) {s with heap:=h2,toks:=tk}:=
   I.turnedNew hf (λc o hc q=>(sb2.2 c (λe=>hc (by simp[e]))).trans (k1 c o (λe=>hc (by simp[e])) (λe=>hc (by simp[e])) (λe=>hc (by simp[e])) (λe=>hc (by simp[e])) q)) (aj _)
    ⟨by show 2<=sizeLine;decide,[vx,vy],.cons rx (.cons ry .nil),⟨_,t2,rfl,_,rfl⟩⟩
  refine⟨.ref s.heap.objs.size,_,I2,rfl,⟨_,x,y,I.hok.fresh (aj _),rfl,rfl,λzs hz=>by rw[I.seqF_inj hz hx];exact ex,λzs hz=>by rw[I.seqF_inj hz hy];exact ey⟩,
   ⟨z2,(sb2.2 _ zr.tiz).trans (k1 _ _ zr.tiz zr.tito zr.ti1 zr.ti2 e2),⟨_,_,(sb2.2 _ zr.toz).trans q2⟩,q3.1.keep λo q=>(sb2.2 _ zr.i1z).trans q,q4.1.keep λo q=>(sb2.2 _ zr.i2z).trans q⟩,λc hc=>?_⟩
  rw[bK (lt c hc)];exact(hf c hc).1
 done:=by
  intro X hP hw hK hc i BI s σ H E I hf st hg;subst hP hw hK;obtain⟨xs,ys,hx,hy,fin⟩:=hg;obtain⟨its,r1,p1,_⟩:=I.seqF hx;obtain⟨jts,r2,p2,_⟩:=I.seqF hy;have l1:=r1.length;have l2:=r2.length;obtain⟨e1,e2,⟨u,v,e3⟩,e4,e5⟩:=st;have na:∀c∈[z,TI,TO,i1,i2],a≠c:=λc hc=>I.apart (hf c hc) hx;have nb:∀c∈[z,TI,TO,i1,i2],b≠c:=λc hc=>I.apart (hf c hc) hy;have hd:X.A.in1.handled=none:=I.ok.hd hc;have D1:=wT (prog:=X.prog) (w:=X.w) f1 hd i1 a (na i1 (by simp)) its.toArray;have D2:=wT (prog:=X.prog) (w:=X.w) f2 hd i2 b (nb i2 (by simp)) jts.toArray;refine Uu D1 D2 (zr.ap na nb) e1 e2 e3 ⟨e4,p1⟩ ⟨e5,p2⟩ (by rw[au,au,<-l1,<-l2];exact fin) λh' tk k=>⟨rfl,?_⟩;exact I.turnedL hf λc o hc q=>k c o (λe=>hc (by simp[e])) (λe=>hc (by simp[e])) (λe=>hc (by simp[e])) (λe=>hc (by simp[e])) q
 self:=λ_ _ _ _ _ st h=>wpAny_pyIter_zip st.1 h
section
variable{X:Cx}{elts:List ah}{x1:Nat}{tp:ai}
def ado(K:ag)(tl:TA):TI:=λσ H R=>tl σ H λvs H1=>∃f1 a f2 b xs ys,vs=[.ref a,.ref b]/\iZ f1 K H1 a xs/\iZ f2 K H1 b ys/\R (Pu K f1 a f2 b) H1
theorem abm{l r:ah}{tl:TA}{p pos:ai}(hg:Gl X "zip")(hm:X.mg "zip"=none)(hl:PA X [l,r] tl)(hs:starEach [l,r] X.env=[(false,eval l X.env),(false,eval r X.env)]:=by rfl)(hs2:starEach [r] X.env=[(false,eval r X.env)]:=by rfl):
  PI X (.Tuple elts x1 tp) (.Call (.Name "zip" p) [l,r] [] pos) (ado X.K tl):=by
 intro BI s σ H R I h;refine Call_ (oV I hg hm boot_zip (pw (bD (hl pos BI s σ H _ I h) λus s1 hq=>?_) (by rw[hs,hs2]) (by rw[hs2];rfl)));rcases hq with⟨vs,H1,I1,r1,q1⟩;obtain⟨f1,a,f2,b,xs,ys,rfl,hx,hy,q⟩:=q1;obtain⟨u,v,rfl,ru,rv⟩:=Ds r1;cases ru;cases rv;obtain⟨its,_,p1,_⟩:=I1.seqF hx;obtain⟨jts,_,p2,_⟩:=I1.seqF hy;refine Wv (Os f1 a its.toArray) (Os f2 b jts.toArray) (λh g=>g.keep λo z=>ar _ z) p1 p2 (Pk _ _) (Pk _ _) λh' e1 e2 e3 e4 e5 k=>?_;refine wpAny_pyIter_zip (s:={s1 with heap:=h'}) e1 ?_;have zr:yD (s1.heap.objs.size+4) (s1.heap.objs.size+2) (s1.heap.objs.size+3) s1.heap.objs.size (s1.heap.objs.size+1):=by
  generalize s1.heap.objs.size=n;have g:∀i j:Nat,i≠j->((n:Nat)+i:Nat)≠n+j:=λi j h=>by omega
  exact⟨g 2 4 (by decide),g 3 4 (by decide),g 0 4 (by decide),g 1 4 (by decide),g 2 3 (by decide),g 2 0 (by decide),g 2 1 (by decide),g 3 0 (by decide),g 3 1 (by decide),g 0 1 (by decide)⟩
 refine⟨_,[s1.heap.objs.size+4,s1.heap.objs.size+2,s1.heap.objs.size+3,s1.heap.objs.size,s1.heap.objs.size+1],_,_,H1,rfl,I1.kept (t':=s1.toks) k,F7 f1 f2 a b _ _ _ _ _ zr,⟨e1,e2,⟨_,_,e3⟩,Dk f1 a _ e4,Dk f2 b _ e5⟩,λc hc=>?_,q⟩;have hb:s1.heap.objs.size<=c:=by
  simp only[cj,gw,or_false]at hc;rcases hc with q |q |q |q |q
  all_goals rw[q]
  all_goals first |exact aj _ |exact Nat.le_add_right _ _
 exact I1.fpOk hb (I1.hok.fresh hb)
end
theorem aaS(K:ag):kq K (.type "int") (.type "bool")=some false:=by
 unfold kq m9;rw[if_neg (by decide)];show(if n9 "bool"=true then o0 K (.type "int") (.type "bool")else none)=some false;rw[if_pos (by decide+kernel)];show(fastBuiltinMro "int").map (·.contains (.type "bool"))=some false;decide+kernel
structure nT(K:ag)(x qual:Str)(st:Stmt)(f:Addr)(fd:ck)(ds:Array Value):Prop where
 ex:∃(oc:Value)(od:BC)(T:Addr)(oT:Obj)(n:Nat)(kV doc pm:Value)(an:BC)(cdv ct:Value)(osl:Array BB),
  fd=fg x qual (hJ st) (eV st) (cU st) (.ref T) kV doc pm an cdv ct/\K.lookup f=some ⟨oc,od,.func fd,osl⟩/\ka K cdv qual=true/\K.lookup T=some oT/\oT.data=.seq ds n
 kp:ie K (.ref f)=true
section
variable{P:Program}{w:am}{K:ag}{mg:Str->BB}{base:Heap}
theorem nT.binds{x qual:Str}{st:Stmt}{f:Addr}{fd:ck}{ds:Array Value}{ps:List Str}{dd:BA}(F:nT K x qual st f fd ds)
  (h:∀(T:Addr)(kV doc pm:Value)(an:BC)(cdv ct:Value)(us:BA),(us++dd).length=ps.length->
   ∃k,bindArgs (fg x qual (hJ st) (eV st) (cU st) (.ref T) kV doc pm an cdv ct) ⟨us,[]⟩=seqItems? (.ref T) >>= k/\k (some ds)=pure (ps.zip (us++dd))):jI K fd ps dd:=by
 obtain⟨oc,od,T,oT,n,kV,doc,pm,an,cdv,ct,osl,rfl,lk,hcd,lT,hT⟩:=F.ex;intro s us hK hl;obtain⟨k,h1,h2⟩:=h T kV doc pm an cdv ct us hl;exact PySem.W.binds_K hK rfl lT hT h1 h2
theorem V7{x qual:Str}{st:Stmt}{f T:Addr}{oT:Obj}{n:Nat}{ds:Array Value}{oc:Value}{od an:BC}{osl:Array BB}{kV doc pm cdv ct:Value}(l:K.lookup f=some ⟨oc,od,.func (fg x qual (hJ st) (eV st) (cU st) (.ref T) kV doc pm an cdv ct),osl⟩)
  (c:ka K cdv qual=true)(k:ie K (.ref f)=true)(lT:K.lookup T=some oT)(hT:oT.data=.seq ds n):nT K x qual st f (fg x qual (hJ st) (eV st) (cU st) (.ref T) kV doc pm an cdv ct) ds:=
 ⟨⟨oc,od,T,oT,n,kV,doc,pm,an,cdv,ct,osl,rfl,l,c,lT,hT⟩,k⟩
end
theorem aaK{X:Cx}{sc:Scope}{own:List Str}{cap:List (Nat×Str)}(so:Scope)(N:List Str)(hso:X.env.scope=so)(hN:X.N=N)(kind:sc.kind=.function)(names:∀y∈sc.names,y.2=.local->sc.names.lookup y.1=some .local)
  (nocell:∀y∈sc.names,y.2≠.cell)(free:∀y∈sc.names,y.2=.free->so.names.lookup y.1=some .cell)(at':∀p∈cap,N[p.1]?=some p.2)(hcap:∀p∈cap,sc.names.lookup p.2=some .free):hV X sc own cap:=
 ⟨kind,names,nocell,λy hy e=>by show X.env.scope.names.lookup y.1=_;rw[hso];exact free y hy e,λp hp=>by rw[hN];exact at' p hp,hcap⟩
theorem Ll(n d:Nat):HT.sIx (n+1) d (some (-1))=n:=by
 unfold HT.sIx;simp;omega
section
variable{X:Cx}
end
theorem fS.has{P:Program}{w:am}{H:Hp}{h:Heap}{a:Addr}{o:HO}(x:fS P w H h a o):∃u,h.get? a=some u:=by
 cases o with
 |lst xs=>obtain⟨_,_,_,_,e⟩:=x;exact⟨_,e⟩
 |tup xs=>obtain⟨_,_,_,u,e,_⟩:=x;exact⟨u,e⟩
 |dK kvs=>obtain⟨_,_,_,_,o,_,_,e,_⟩:=x;exact⟨_,e⟩
 |dT kvs=>obtain⟨_,_,_,_,o,_,_,e,_⟩:=x;exact⟨_,e⟩
 |set S n=>obtain⟨o,_,_,_,e,_⟩:=x;exact⟨_,e⟩
 |ins C dx fs=>obtain⟨_,_,_,e,_⟩:=x;exact⟨_,e⟩
 |own y=>exact x
 |xd fs=>obtain⟨_,⟨_,_,_,e,_⟩,_⟩:=x;exact⟨_,e⟩
 |rng lo hi=>obtain⟨_,_,_,e⟩:=x;exact⟨_,e⟩
 |frz ob u=>obtain⟨e,_⟩:=x;exact⟨_,e⟩
 |tbl ps=>exact⟨_,show h.get? a=some _ from x⟩
 |met f y=>exact⟨_,show h.get? a=some _ from x⟩
 |ext φ=>exact x.2.1
abbrev sT:BA:=[.type "ValueError",.type "Exception",.type "BaseException",.type "object"]
theorem R1{K:ag}{h:Heap}{C:Addr}{bmB:BA}{newId:String}(X:K.In h)(q:my K C bmB newId=true):
  ∃bm N nm qn bs hdct sn sub ab col dd k0 k1 k2 k3 k5 mN,h.get? C=some (excClassObj nm qn C N bs bm hdct sn sub ab col dd k0 k1 k2 k3 k5 newId)/\h.Ns N mN/\mN "__init__"=none/\OwnTail h bmB bm:=by
 unfold my at q;split at q
 .rename_i dd cd sl ho
  split at q
  .rename_i C' bm k0 k1 k2 k3 n k5 hm hs
   simp only[jb,beq_iff_eq,o3]at q;obtain⟨⟨⟨⟨⟨z1,z2⟩,hdel⟩,ht⟩,hok⟩,hni⟩:=q;subst z1 z2;obtain⟨nm,bs,mro,ns,qn,hd,sn,sub,ab,col,del⟩:=cd;dsimp only at hm hdel hok hni;subst hm hdel;have hsl:sl=#[k0,k1,k2,k3,some (.builtin n),k5]:=by
    obtain⟨l⟩:=sl;simp only at hs;rw[hs]
   subst hsl;refine⟨bm,ns,nm,qn,bs,hd,sn,sub,ab,col,dd,k0,k1,k2,k3,k5,_,X _ _ ho,.of_isNs (PySem.W.isNs_of_in X hok),PySem.W.nsMap_none_of_in X hok hni,PySem.W.tail_of_in X ht⟩
  .cases q
 .cases q
def jS(P:Program)(w:am):jA:=λouter H s E e s'=>∃(x C t:Addr)(B:Heap)(H':Hp),e=.ref x/\s'.os=s.os/\jq s'.gens/\Un (eQ outer) [] H H' s.heap s'.heap/\fJ P w H' s'.heap/\
 Heap.FlyingW B outer x (.ref C) (.ref t) s'.heap/\(∀b o,s'.heap.get? b=some o->(∃u,H' b=some u)\/(∃o',s.heap.get? b=some o'/\b∉eQ outer)->B.get? b=some o)/\E (.ref C) none H'
theorem B6{P:Program}{w:am}{K:ag}{mg:Str->BB}{base:Heap}{N:List Str}{qual:Str}{scope:Scope}{f:Addr}{cd:Value}{A:aq}{outer:List bo}{BJ:aa}{BK:Hp}{E:XK}
  {x:Str}{C:Addr}{txt:Str}{j:Nat}{np p1 cpos pos:ai}(hg:Gl (fT (jS P w) P w K mg base N qual scope f cd A outer BJ BK E) x)(hm:mg x=some (.ref C))(hx:my K C sT "ValueError.__new__"=true)
  (hd:(x==("__debug__":Str))=false:=by decide):
  PS (fT (jS P w) P w K mg base N qual scope f cd A outer BJ BK E) (.Raise (some (.Call (.Name x np) [.Constant (.str txt) j p1] [] cpos)) none pos) (λ_ _ H=>E (.ref C) none H):=by
 intro BI s σ H D I h;obtain⟨bm,Nn,nm,qn,bs,hdct,sn,sub,ab,col,dd,k0,k1,k2,k3,k5,mN,hC,hN,hni,T⟩:=R1 I.ok.mod.kin hx;refine wpAny_Raise_call_subT (C:=C) (nm:=nm) (q:=qn) (N:=Nn) (bs:=bs) (bm:=bm) (hdct:=hdct) (sn:=sn) (sub:=sub) (ab:=ab) (col:=col) (dd:=dd) (k0:=k0) (k1:=k1) (k2:=k2) (k3:=k3) (k5:=k5)
  PySem.F.excBase_ValueError (mN:=mN) (T.hasType (by decide)) (I.ok.hd rfl) rfl hni (Wb I hg hm ⟨rfl,?_⟩ hd)
 refine wt (bD ((jT aaQ lI) cpos BI s σ H (λvs H1=>vs=[.str txt]/\H1=H) I ⟨rfl,rfl⟩) λus s2 q2=>?_);obtain⟨vs,H2,I2,r2,rfl,rfl⟩:=q2;have l2:=r2.length;refine⟨rfl,by rw[<-l2];show 1<=sizeLine;decide,I2.bk _ _ hC,hN.keeps I2.bk,T.keeps I2.bk,λh' e made=>?_⟩
 --the frame is left
 have stk:(fT (jS P w) P w K mg base N qual scope f cd A outer BJ BK E).stack=envOfC qual scope BJ.heap.objs.size f cd::outer:=rfl;have nfr:∀{b u},H2 b=some u->b∉eQ (envOfC qual scope BJ.heap.objs.size f cd::outer):=λ{b u} q z=>by
  rw[I2.stkFree b z]at q;cases q
 have nL:∀{b o},BJ.heap.get? b=some o->b∉eQ outer->b∉eQ (envOfC qual scope BJ.heap.objs.size f cd::outer):=λ{b o} q z y=>by
  rcases cj.mp (I2.stkSub b y)with g |g
  .exact absurd (di (ay q) I2.ok.above) (by rw[g];exact ir _)
  .exact z g
 refine wpAny_leaves_madeW (base:=ve s2.heap (eQ (envOfC qual scope BJ.heap.objs.size f cd::outer))) (h:=s2.heap) (s:={s2 with heap:=h'}) I2.ok.frames rfl (λb o q=>zo _ q)
  (PySem.W.funFrames_hide I2.stack λenv he b hb=>vm.mpr ⟨env,he,hb⟩) made λh'' t fl tup nb ups=>?_
 have keepB:∀b o,s2.heap.get? b=some o->b∉eQ (envOfC qual scope BJ.heap.objs.size f cd::outer)->h''.get? b=some o:=λb o q z=>fl.1 b o (vf _ q z);have upS:∀b o,s2.heap.get? b=some o->(∀vs,o.data≠.fields vs)->∃sl,h''.get? b=some {o with slots:=sl}:=λb o q z=>ups b o (made.keeps b o q) z;refine⟨e,C,t,_,H2,rfl,I2.os,I2.bare,⟨λb o q n hb _=>?_,λb o q n hb _=>?_,λb o q n _=>I2.base.free b o q n (by intro z;cases z),λb o q _=>?_,I2.base.tups,I2.base.frzs,I2.base.tbls⟩,λb u q=>?_,fl,λb o q z=>?_,h⟩
 .exact keepB b o (I2.base.keep b o q n hb (by intro z;cases z)) (nL q hb)
 .obtain⟨sl,g⟩:=I2.base.slot b o q n hb (by intro z;cases z)
  obtain⟨_,o',ho',hd'⟩:=I2.ok.funs.mem hb;have eo:o'=o:=by
   have ho2:BJ.heap.get? b=some o':=ho';rw[q]at ho2;exact(ci ho2).symm
  subst eo;obtain⟨sl',g'⟩:=upS b _ g hd';exact⟨sl',g'⟩
 .obtain⟨o',g⟩:=I2.base.there b o q (by intro z;cases z)
  by_cases c:b∈eQ (envOfC qual scope BJ.heap.objs.size f cd::outer)
  .obtain⟨_,o2,ho2,hd2⟩:=I2.stack.mem c
   obtain⟨sl,g'⟩:=upS b o2 ho2 hd2;exact⟨_,g'⟩
  .exact⟨o',keepB b o' g c⟩
 .refine(I2.hok b u q).stay (λc v hc g=>keepB c v g ?_) (λ_ g=>g) λ_ _ g=>g
  rcases hc with z |z
  .rw[z]
   exact nfr q
  .exact nfr z
 .have go:∀{o2},s2.heap.get? b=some o2->b∉eQ (envOfC qual scope BJ.heap.objs.size f cd::outer)->(ve s2.heap (eQ (envOfC qual scope BJ.heap.objs.size f cd::outer))).get? b=some o:=λ{o2} g n=>by
   have:=keepB b o2 g n;have q':h''.get? b=some o:=q;rw[q']at this;cases this;exact vf _ g n
  rcases z with⟨u,z⟩|⟨o',z,nz⟩
  .obtain⟨o2,g⟩:=(I2.hok b u z).has
   exact go g (nfr z)
  .obtain⟨o2,g⟩:=I2.base.there b o' z (by intro z;cases z)
   exact go g (nL z nz)
section
variable{X:Cx}{BI:List (Addr×Obj)}{σ:St}{H H':Hp}{s s':aa}
end
section
variable{X:Cx}{k:Nat}{f:Addr}{fd:ck}{ps:List Str}{sp:Sp}{dvs:List V}{ds:BA}{E:XK}{x:Str}{p pos:ai}{e:ah}{es:List ah}{t:TA}
end
section
variable{P:Program}{w:am}{K:ag}{mg:Str->BB}{base:Heap}{CX:jA}
theorem nT.okX{x qual:Str}{st:Stmt}{f:Addr}{fd:ck}{ds:Array Value}{N ps:List Str}{k:Nat}{sp:Sp}(F:nT K x qual st f fd ds)(S:jV N ps (cU st))(len:∀vs H Q E,sp vs H Q E->vs.length=ps.length)
  (hbody:∀(cdv:Value)(A:aq)(outer:List bo)(s:aa)(H:Hp)(vs:List V)(Q:VK)(E:XK),dS k (A.deeper (envOfC qual (cU st) s.heap.objs.size f cdv))->sp vs H Q E->
   ∃t,gL (fT CX P w K mg base N qual (cU st) f cdv A outer s H E) (eV st) t/\t {nx:=λ_ H'=>Q .non H',rt:=Q} (start N vs) H):eO P w K mg base CX (k+1) f fd ps sp:=by
 obtain⟨oc,od,T,oT,n,kV,doc,pm,an,cdv,ct,osl,rfl,lk,hcd,_,_⟩:=F.ex;exact Js lk hcd S len λA outer s H vs Q E hr hsp=>hbody cdv A outer s H vs Q E hr hsp
end
section
variable{X:Cx}{BI:List (Addr×Obj)}{σ:St}{H:Hp}{s:aa}
end
section
variable{X:Cx}{BI:List (Addr×Obj)}{σ:St}{H:Hp}{s:aa}
end
section
variable{X:Cx}{k:Nat}{f:Addr}{fd:ck}{ps:List Str}{sp:Sp}{dvs:List V}{ds:BA}{x:Str}{p pos pos1 pos2 pos3 pc:ai}{e:ah}{es:List ah}{t:TA}{c n:Str}{C:Addr}{i:Nat}{BO:Stmt}{body:List Stmt}{newId:String}
end
open PySem.W PySem.Calls PySem.Builtin PySem.Builtin.Getset_descriptor
section
variable{prog:Program}{w:am}{A:aq}{E:Value->aa->Prop}{s:aa}{K:ag}{x D:Addr}{B:String}{R:qe->aa->Prop}
end
section
variable{X:Cx}{y D:Addr}{oe:Obj}
end
def gA(h:Heap)(l:AX)(a:Addr):Prop:=∃o its n,h.get? a=some o/\o.cls=.type "tuple"/\o.data=.seq its n/\bA (l.map V.int) its.toList
def jB(h:Heap)(ks:AY)(a:Addr):Prop:=∃o its n,h.get? a=some o/\o.cls=.type "tuple"/\o.data=.seq its n/\dn (λk v=>∃b,v=cr b/\gA h k b) ks its.toList
def hF(l:AX):Int:=reduceHash (xw (l.map hashInt))
def hN(l:AY):Int:=reduceHash (xw (l.map hF))
abbrev iK(prog:Program)(w:am):KeyKind prog w Int:=intKind prog w
theorem Sm:∀{l m:AX}{us:BA},bA (l.map V.int) us->bA (m.map V.int) us->l=m
 |[],[],_,_,_=>rfl
 |[],_::_,_,.nil,h=>nomatch h
 |_::_,[],_,.cons _ _,h=>nomatch h
 |i::l,j::m,_,.cons r t,.cons r' t'=>by
  obtain⟨x,e⟩:=r;obtain⟨y,e'⟩:=r';rw[e]at e';injection e' with e1;rw[e1,Sm t t']
section
variable{prog:Program}{w:am}{A:aq}{E:Value->aa->Prop}{s:aa}{h h':Heap}{a b d:Addr}
theorem gA.inj{x y:AX}(hx:gA h x a)(hy:gA h y a):x=y:=by
 obtain⟨o,its,n,e,_,f,r⟩:=hx;obtain⟨o',its',n',e',_,f',r'⟩:=hy;cases ci (e.symm.trans e');cases f.symm.trans f';exact Sm r r'
theorem jB.inj{x y:AY}(hx:jB h x a)(hy:jB h y a):x=y:=by
 obtain⟨o,its,n,e,_,f,r⟩:=hx;obtain⟨o',its',n',e',_,f',r'⟩:=hy;cases ci (e.symm.trans e');cases f.symm.trans f'
 revert r r'
 generalize its.toList=us;intro r
 induction r generalizing y with
 |nil=>intro r';cases r';rfl
 |cons p _ ih=>
  intro r';cases r' with
  |cons p' t'=>
   obtain⟨b,rfl,g⟩:=p;obtain⟨b',eb,g'⟩:=p';cases eb;rw[g.inj g',ih t']
theorem Xr{o o':Obj}{its:Array Value}{n:Nat}{es ep}(e:h.get? a=some o)(f:o.data=.seq its n)(e':h.get? d=some o')(f':o'.data=.dict es ep):a≠d:=λz=>by
 rw[z,e']at e;cases e;rw[f]at f';cases f'
theorem gA.keep{l:AX}{o':Obj}{es ep}(x:gA h l a)(e':h.get? d=some o')(f':o'.data=.dict es ep)(sb:ix d h h'):gA h' l a:=by
 obtain⟨o,its,n,e,c,f,r⟩:=x;exact⟨o,its,n,(sb.2 a (Xr e f e' f')).trans e,c,f,r⟩
theorem jB.keep{l:AY}{o':Obj}{es ep}(x:jB h l a)(e':h.get? d=some o')(f':o'.data=.dict es ep)(sb:ix d h h'):jB h' l a:=by
 obtain⟨o,its,n,e,c,f,r⟩:=x;exact⟨o,its,n,(sb.2 a (Xr e f e' f')).trans e,c,f,Paired.mapP r λ_ _ ⟨b,eb,g⟩=>⟨b,eb,g.keep e' f' sb⟩⟩
theorem zY:∀{l:AX}{us:BA},bA (l.map V.int) us->ItemsAre (iK prog w) l us
 |[],_,.nil=>.nil
 |i::l,_,.cons r t=>by
  obtain⟨t',rfl⟩:=r;exact .cons (by simp[iK,intKind,Value.isInt]) (zY t)
theorem gA.key{l:AX}(x:gA h l a):IsTupleKey (iK prog w) h l a:=by
 obtain⟨o,its,n,e,c,f,r⟩:=x;exact⟨o,its,n,e,c,f,zY r⟩
theorem G3{α:Type}[DecidableEq α](z:α)(l m:List α):((bj (min l.length m.length)).all (λj=>decide (l.getD j z=m.getD j z))&&l.length==m.length)=decide (l=m):=by
 rw[xo,jb,ke,decide_eq_true_iff];constructor
 .rintro⟨h1,h2⟩
  have hl:l.length=m.length:=by simpa using h2
  refine ue hl λi g1 g2=>?_;have:=h1 i (by simp;omega);simpa[cf,g1,g2]using this
 .rintro rfl
  exact⟨λi _=>by simp,by simp⟩
theorem vO{α β:Type}{R:α->β->Prop}:∀{l:List α}{m:List β},dn R l m->l.length=m.length/\∀(j:Nat)(x:α)(y:β),l[j]?=some x->m[j]?=some y->R x y
 |_,_,.nil=>⟨rfl,λj x y h=>by simp at h⟩
 |_,_,.cons r t=>by
  obtain⟨e,g⟩:=vO t;refine⟨by rw[ca,ca,e],λj x y h1 h2=>?_⟩;cases j with
  |zero=>
   simp at h1 h2;rw[<-h1,<-h2];exact r
  |succ j=>exact g j x y (by simpa using h1) (by simpa using h2)
theorem Tk{α:Type}[DecidableEq α](z:α){R:α->Value->Prop}{x y:List α}{o o':Obj}{us vs:Array Value}{n n':Nat}(hu:A.units<cLine)(ha:s.heap.get? a=some o)(hc:o.cls=.type "tuple")(hd:o.data=.seq us n)(hb:s.heap.get? b=some o')(hc':o'.cls=.type "tuple")(hd':o'.data=.seq vs n')
  (rx:dn R x us.toList)(ry:dn R y vs.toList)(same:a=b->x=y)(eq:∀k l u v,R k u->R l v->jo A.in1 s u v (decide (k=l))):jo A s (.ref a) (.ref b) (decide (x=y)):=by
 by_cases ab:a=b
 .rw[decide_eq_true (same ab),ab]
  exact uf _
 .obtain⟨m1,g1⟩:=vO rx
  obtain⟨m2,g2⟩:=vO ry;have l1:x.length=us.size:=by simpa using m1
  have l2:y.length=vs.size:=by simpa using m2
  have:=xx (A:=A) (s:=s) (l:=a) (b:=b) (items:=us) (items2:=vs) (e:=λj=>decide (x.getD j z=y.getD j z)) ⟨o,ha,hc,n,hd⟩ ⟨o',hb,hc',n',hd'⟩ hu λj h1 h2=>by
   have i1:j<x.length:=by omega
   have i2:j<y.length:=by omega
   have e1:x.getD j z=x[j]:=by simp[cf,i1]
   have e2:y.getD j z=y[j]:=by simp[cf,i2]
   rw[e1,e2];exact eq _ _ _ _ (g1 j _ _ (av i1) (by simp[h1])) (g2 j _ _ (av i2) (by simp[h2]))
  rw[<-l1,<-l2,G3]at this;exact xy ab this
theorem Sa:∀{l:AX}{us:BA},bA (l.map V.int) us->dn (λ(i:Int) v=>∃t,v=oy i t) l us
 |[],_,.nil=>.nil
 |_::_,_,.cons r t=>.cons r (Sa t)
theorem gA.eq{x y:AX}(hu:A.units<cLine)(hx:gA s.heap x a)(hy:gA s.heap y b):jo A s (.ref a) (.ref b) (decide (x=y)):=by
 have inj:a=b->x=y:=λz=>by subst z;exact hx.inj hy
 obtain⟨o,us,n,e,c,f,r⟩:=hx;obtain⟨o',vs,n',e',c',f',r'⟩:=hy;refine Tk 0 hu e c f e' c' f' (Sa r) (Sa r') inj ?_
 rintro k l u v ⟨t,eu⟩ ⟨t',ev⟩
 subst eu ev;have:=vw (A:=A.in1) (s:=s) k t l t';have e:(k==l)=decide (k=l):=by by_cases q:k=l<;>simp[q]
 rwa[e]at this
theorem jB.eq{x y:AY}(hu:A.units+1<cLine)(hx:jB s.heap x a)(hy:jB s.heap y b):jo A s (.ref a) (.ref b) (decide (x=y)):=by
 have inj:a=b->x=y:=λz=>by subst z;exact hx.inj hy
 obtain⟨o,us,n,e,c,f,r⟩:=hx;obtain⟨o',vs,n',e',c',f',r'⟩:=hy;refine Tk [] (xz hu) e c f e' c' f' r r' inj ?_
 rintro k l u v ⟨p,eu,g⟩ ⟨q,ev,g'⟩
 subst eu ev;exact g.eq hu g'
theorem Xh{Q:Array Int->aa->Prop}(hu:A.units<cLine):∀(ks:AY)(vs:BA)(t:Nat)(acc:Array Int),dn (λk v=>∃b,v=cr b/\gA s.heap k b) ks vs->
  (∀acc':Array Int,acc'.toList=acc.toList++ks.map hF->Q acc' {s with toks:=t+(ks.map λk=>k.length+1).sum})->
  wpAny (model prog w) A (forIn vs acc λx r=>do let h <-pyHash x;pure PUnit.unit;pure (xj (r.push h))) Q E {s with toks:=t}
 |[],_,t,acc,.nil,q=>ak (by simpa using q acc (by simp))
 |k::ks,_,t,acc,.cons ⟨b,eb,g⟩ r,q=>by
  subst eb;rw[tf];refine ae (ae (wpAny_pyHash_tuple (knd:=iK prog w) (s:={s with toks:=t}) hu g.key ?_));refine ae (ak (ak ?_));refine Xh hu ks _ (t+(k.length+1)) _ r λacc' e=>?_;have:=q acc' (by rw[e];simp[hF,tupleKeyHash,iK,intKind]);rw[aw,ya]at this;simpa[yb]using this
theorem jB.hash{ks:AY}{Q:Int->aa->Prop}(hu:A.units+1<cLine)(hk:jB s.heap ks a)(q:Q (hN ks) {s with toks:=s.toks+((ks.map λk=>k.length+1).sum+1)}):wpAny (model prog w) A (pyHash (.ref a)) Q E s:=by
 obtain⟨o,its,n,e,c,f,r⟩:=hk;refine PySem.W.pyHash_slot (T:="tuple") ⟨o,e,c⟩ F.slot_tuple_hash F.entry_tuple_hash (F.args_tuple_hash_1 _) (beq_builtin_none _) (.inr (xz hu)) ?_;show wpAny _ _ (d6 (.ref a) >>= _) _ _ s;refine ae (wpAny_tupleItemsOf e f (ae ?_));rw[<-o4];refine Xh hu ks its.toList s.toks #[] r λacc ea=>?_;show wpAny _ _ (retInt (xw acc.toList)) _ _ _;rw[ea];exact ae (wpAny_mkInt (ak ⟨_,_,rfl,by simpa[hN,yb]using q⟩))
theorem Ih{n:Nat}{P:Value->Prop}(hP:∀v(Q:Bool->aa->Prop),P v->Q true s->wpAny (model prog w) A (eqIsQuiet n v) Q E s){o:Obj}{its:Array Value}{m:Nat}{Q:Bool->aa->Prop}(e:s.heap.get? a=some o)(c:o.cls=.type "tuple")(f:o.data=.seq its m)(r:∀v∈its.toList,P v)(q:Q true s):
  wpAny (model prog w) A (eqIsQuiet (n+1) (.ref a)) Q E s:=by
 have hT:s.TypeIs (.ref a) "tuple":=⟨o,e,c⟩;unfold eqIsQuiet;refine ae (wpAny_specialOf hT F.slot_tuple_eq.lookup (ae (xv hT isSubtype_tuple_tuple ?_)));rw[if_neg (by simp)];refine ae (kg e f (ae ?_));show wpAny _ _ (forIn its _ _) _ _ s;rw[<-o4];refine wpAny_forIn_list _ (λfF z s'=>s'=s/\z.1=none/\∀v∈fF,P v) _ ?_ ?_ _ _ ⟨rfl,rfl,r⟩
 .rintro v fF z s' ⟨rfl,hz,hr⟩
  refine ae (hP v _ (hr v bf) ?_);rw[if_neg (by simp)];exact ak ⟨rfl,rfl,λu hu=>hr u (bn _ hu)⟩
 .rintro⟨z1,z2⟩ s' ⟨rfl,hz,_⟩
  cases hz;exact ak q
theorem gA.quiet{n:Nat}{l:AX}{Q:Bool->aa->Prop}(hk:gA s.heap l a)(q:Q true s):wpAny (model prog w) A (eqIsQuiet (n+1) (.ref a)) Q E s:=by
 obtain⟨o,its,m,e,c,f,r⟩:=hk;refine Ih (P:=λv=>carriedByValue v=true) (λv Q' hv q'=>?_) e c f (zY (prog:=prog) (w:=w) r).byValue q;rw[eqIsQuiet_byValue _ hv];exact ak q'
theorem jB.quiet{ks:AY}{Q:Bool->aa->Prop}(hk:jB s.heap ks a)(q:Q true s):wpAny (model prog w) A (eqIsQuiet 8 (.ref a)) Q E s:=by
 obtain⟨o,its,m,e,c,f,r⟩:=hk;refine Ih (P:=λv=>∃k b,v=.ref b/\gA s.heap k b) (λv Q' ⟨k,b,ev,g⟩ q'=>by subst ev;exact g.quiet (n:=6) q') e c f (λv hv=>?_) q;obtain⟨l1,g⟩:=vO r;obtain⟨i,hi,ev⟩:=tm.mp hv;have i1:i<ks.length:=by rw[l1];exact hi
 obtain⟨b,eb,gb⟩:=g i _ v (av i1) (by rw[av hi,ev]);exact⟨_,b,eb,gb⟩
end
def E4(prog:Program)(w:am):HeapKind prog w AY where
 is:=jB
 hash:=hN
 draws:=λks=>(ks.map λk=>k.length+1).sum+1
 room:=λA=>A.units+1<cLine
 inj:=λhx hy=>hx.inj hy
 keeps:=λx ho hd hs=>x.keep ho hd hs
 pyHash:=λhu hk h=>hk.hash hu h
 eqBool:=λhu hx hy h=>hx.eq hu hy _ _ _ _ h
 quiet:=λhk h=>hk.quiet h
def fV:Bool->Type
 |false=>AX
 |true=>AY
instance decK:(n:Bool)->DecidableEq (fV n)
 |false=>inferInstanceAs (DecidableEq AX)
 |true=>inferInstanceAs (DecidableEq AY)
def Fs:(n:Bool)->fV n->Int
 |false=>hF
 |true=>hN
def iV(prog:Program)(w:am):(n:Bool)->HeapKind prog w (fV n)
 |false=>tupleKind (iK prog w)
 |true=>E4 prog w
theorem zO{prog:Program}{w:am}:∀(n:Bool)(k:fV n),(iV prog w n).hash k=Fs n k
 |false,_=>rfl
 |true,_=>rfl
theorem uU{prog:Program}{w:am}{A:aq}(hu:A.units+2<cLine):∀n:Bool,(iV prog w n).room A.in1
 |false=>xz hu
 |true=>hu
end L2
namespace L2.Pp
open PySem PySem.Spec PyProof.Rows Bn
section
inductive PV where
 |non |bl (b:Bool) |int (i:Int) |str (x:Str) |tup (xs:List PV) |lst (xs:List PV)
abbrev BE:=List PV
abbrev BF:=Option PV
inductive SO where
 |lst (xs:BE)
 |lol (xss:List BE)
 |dic (n:Bool) (kvs:List (PV×PV))
 |dol (n:Bool) (kvs:List (PV×BE))
abbrev aG:=List SO
inductive AV where
 |pv (v:PV) |ref (k:Nat)
abbrev BG:=Option AV
abbrev BH:=List AV
abbrev bW:=List BG
inductive bP(α:Type) where
 |ok (a:α) (S:aG) |exc (n:Str) (S:aG) |fail
def bP.bind{α β:Type}(r:bP α)(k:α->aG->bP β):bP β:=match r with
 |.ok a S=>k a S
 |.exc n S=>.exc n S
 |.fail=>.fail
inductive cD where
 |nx (ρ:bW) (S:aG) |rt (v:AV) (S:aG) |bk (ρ:bW) (S:aG) |ct (ρ:bW) (S:aG) |exc (n:Str) (S:aG) |fail
def kB(K:ag)(c:Addr->Prop)(H:Hp)(a:Addr)(vs:List V):Prop:=
 (H a=some (.lst vs)/\¬c a)\/(∃o,H a=some (.frz o (.lst vs)))\/
  ∃(o:Obj)(its:Array Value)(n:Nat),K.lookup a=some o/\o.cls=.type "list"/\o.dict=none/\o.data=.seq its n/\its.size<=sizeLine/\bA vs its.toList
theorem kB.sq{K:ag}{c:Addr->Prop}{H:Hp}{a:Addr}{vs:List V}(h:kB K c H a vs):bV K H a vs:=by
 rcases h with h |h |h
 .exact .inl (.inl h.1)
 .exact .inl (.inr h)
 .exact .inr h
mutual
def aI(K:ag)(c:Addr->Prop)(H:Hp):PV->V->Prop
 |.non,x=>x=.non
 |.bl b,x=>x=.bl b
 |.int i,x=>x=.int i
 |.str s,x=>x=.str s
 |.tup xs,x=>∃a vs,x=.ref a/\cT K H a vs/\vs.length<=sizeLine/\aJ K c H xs vs
 |.lst xs,x=>∃a vs,x=.ref a/\kB K c H a vs/\vs.length<=sizeLine/\aJ K c H xs vs
def aJ(K:ag)(c:Addr->Prop)(H:Hp):BE->List V->Prop
 |[],vs=>vs=[]
 |p::ps,vs=>∃v r,vs=v::r/\aI K c H p v/\aJ K c H ps r
end
section
variable{K:ag}{c c':Addr->Prop}{H H':Hp}
mutual
theorem aI.mono(hT:∀a vs,cT K H a vs->cT K H' a vs)(hL:∀a vs,kB K c H a vs->kB K c' H' a vs):∀(v:PV)(x:V),aI K c H v x->aI K c' H' v x
 |.non,x,h=>h
 |.bl b,x,h=>h
 |.int i,x,h=>h
 |.str s,x,h=>h
 |.tup xs,x,h=>by
  unfold aI at h⊢;obtain⟨a,vs,e,t,z,r⟩:=h;exact⟨a,vs,e,hT a vs t,z,aJ.mono hT hL xs vs r⟩
 |.lst xs,x,h=>by
  unfold aI at h⊢;obtain⟨a,vs,e,t,z,r⟩:=h;exact⟨a,vs,e,hL a vs t,z,aJ.mono hT hL xs vs r⟩
theorem aJ.mono(hT:∀a vs,cT K H a vs->cT K H' a vs)(hL:∀a vs,kB K c H a vs->kB K c' H' a vs):∀(v:BE)(x:List V),aJ K c H v x->aJ K c' H' v x
 |[],vs,h=>by
  unfold aJ at h⊢;exact h
 |p::ps,vs,h=>by
  unfold aJ at h⊢;obtain⟨v,r,e,h1,h2⟩:=h;exact⟨v,r,e,aI.mono hT hL p v h1,aJ.mono hT hL ps r h2⟩
end
theorem aJ.length:∀{xs:BE}{vs:List V},aJ K c H xs vs->xs.length=vs.length
 |[],vs,h=>by
  unfold aJ at h;rw[h];rfl
 |p::ps,vs,h=>by
  unfold aJ at h;obtain⟨v,r,rfl,_,h2⟩:=h;rw[ca,ca,aJ.length h2]
theorem aJ.get:∀{xs:BE}{vs:List V}{i:Nat}{p:PV},aJ K c H xs vs->xs[i]?=some p->∃v,vs[i]?=some v/\aI K c H p v
 |[],vs,i,p,h,e=>by simp at e
 |q::ps,vs,0,p,h,e=>by
  unfold aJ at h;obtain⟨v,r,rfl,h1,_⟩:=h;simp at e;subst e;exact⟨v,rfl,h1⟩
 |q::ps,vs,i+1,p,h,e=>by
  unfold aJ at h;obtain⟨v,r,rfl,_,h2⟩:=h;obtain⟨u,e1,e2⟩:=aJ.get (i:=i) h2 (by simpa using e);exact⟨u,by simpa using e1,e2⟩
theorem aJ.nil:aJ K c H [] []:=by
 unfold aJ;rfl
theorem aJ.cons{p:PV}{v:V}{ps:BE}{vs:List V}(h:aI K c H p v)(t:aJ K c H ps vs):aJ K c H (p::ps) (v::vs):=by
 unfold aJ;exact⟨v,vs,rfl,h,t⟩
theorem aJ.append:∀{xs ys:BE}{vs ws:List V},aJ K c H xs vs->aJ K c H ys ws->aJ K c H (xs++ys) (vs++ws)
 |[],ys,vs,ws,h,g=>by
  unfold aJ at h;subst h;exact g
 |p::ps,ys,vs,ws,h,g=>by
  unfold aJ at h;obtain⟨v,r,rfl,h1,h2⟩:=h;exact .cons h1 (h2.append g)
theorem aJ.drop:∀{xs:BE}{vs:List V}(n:Nat),aJ K c H xs vs->aJ K c H (xs.drop n) (vs.drop n)
 |xs,vs,0,h=>by simpa using h
 |[],vs,n+1,h=>by
  unfold aJ at h;subst h;simpa using aJ.nil
 |p::ps,vs,n+1,h=>by
  unfold aJ at h;obtain⟨v,r,rfl,_,h2⟩:=h;simpa using h2.drop n
theorem aJ.take:∀{xs:BE}{vs:List V}(n:Nat),aJ K c H xs vs->aJ K c H (xs.take n) (vs.take n)
 |xs,vs,0,h=>by simpa using aJ.nil
 |[],vs,n+1,h=>by
  unfold aJ at h;subst h;simpa using aJ.nil
 |p::ps,vs,n+1,h=>by
  unfold aJ at h;obtain⟨v,r,rfl,h1,h2⟩:=h;simpa using aJ.cons h1 (h2.take n)
theorem aJ.eraseIdx:∀{xs:BE}{vs:List V}(n:Nat),aJ K c H xs vs->aJ K c H (xs.eraseIdx n) (vs.eraseIdx n)
 |[],vs,n,h=>by
  unfold aJ at h;subst h;simpa using aJ.nil
 |p::ps,vs,0,h=>by
  unfold aJ at h;obtain⟨v,r,rfl,h1,h2⟩:=h;simpa using h2
 |p::ps,vs,n+1,h=>by
  unfold aJ at h;obtain⟨v,r,rfl,h1,h2⟩:=h;simpa using aJ.cons h1 (h2.eraseIdx n)
theorem aJ.set{p:PV}{v:V}(g:aI K c H p v):∀{xs:BE}{vs:List V}(n:Nat),aJ K c H xs vs->aJ K c H (xs.set n p) (vs.set n v)
 |[],vs,n,h=>by
  unfold aJ at h;subst h;simpa using aJ.nil
 |q::ps,vs,0,h=>by
  unfold aJ at h;obtain⟨v,r,rfl,h1,h2⟩:=h;simpa using aJ.cons g h2
 |q::ps,vs,n+1,h=>by
  unfold aJ at h;obtain⟨v,r,rfl,h1,h2⟩:=h;simpa using aJ.cons h1 (aJ.set g n h2)
end
structure Ph where
 f:List Addr
 w:Addr->Prop
 c:Addr->Prop
def xO(K:ag)(c:Addr->Prop)(H:Hp)(xss:List BE)(bs:List Addr):Prop:=
 xss.length=bs.length/\∀(i:Nat)(xs:BE)(b:Addr),xss[i]?=some xs->bs[i]?=some b->∃vs,H b=some (.lst vs)/\vs.length<=sizeLine/\aJ K c H xs vs
def cC:(n:Bool)->fV n->PV
 |false,l=>.tup (jw PV.int l)
 |true,l=>.tup (jw (λr:AX=>PV.tup (r.map PV.int)) l)
def oD(es:Array DictEntry)(ep:Nat):Obj:={cls:=.type "dict",data:=.dict es ep}
def dO(a:Addr)(es:Array DictEntry)(ep:Nat):HO:=.ext λh=>h.get? a=some (oD es ep)
def jD(n:Bool)(x:fV n×Addr×Value):DictEntry:=⟨Fs n x.1,.ref x.2.1,x.2.2⟩
def nV(K:ag)(c:Addr->Prop)(H:Hp)(a:Addr)(n:Bool)(ks:BE)(us:BA):Prop:=
 ∃(xs:List (fV n×Addr×Value))(ep:Nat),H a=some (dO a (xs.map (jD n)).toArray ep)/\(a==sysModules)=false/\xs.length<=sizeLine/\(xs.map (·.1)).Nodup/\ks=xs.map (λx=>cC n x.1)/\aJ K c H ks (xs.map λx=>V.ref x.2.1)/\us=xs.map (·.2.2)
def mJ(K:ag)(p:Ph)(H:Hp)(a:Addr):SO->Prop
 |.lst xs=>∃vs,H a=some (.lst vs)/\vs.length<=sizeLine/\aJ K p.c H xs vs
 |.lol xss=>∃bs:List Addr,H a=some (.lst (bs.map V.ref))/\bs.length<=sizeLine/\bs.Nodup/\(∀b∈bs,p.w b/\b∉p.f)/\xO K p.c H xss bs
 |.dic n kvs=>∃us vs,nV K p.c H a n (kvs.map (·.1)) us/\bA vs us/\aJ K p.c H (kvs.map (·.2)) vs
 |.dol n kvs=>∃bs:List Addr,nV K p.c H a n (kvs.map (·.1)) (bs.map cr)/\bs.Nodup/\(∀b∈bs,p.w b/\b∉p.f)/\xO K p.c H (kvs.map (·.2)) bs
theorem nV.mono{K:ag}{c c':Addr->Prop}{H H':Hp}{a:Addr}{n:Bool}{ks:BE}{us:BA}(h:nV K c H a n ks us)(ha:∀o,H a=some o->H' a=some o)(hR:∀xs vs,aJ K c H xs vs->aJ K c' H' xs vs):nV K c' H' a n ks us:=by
 obtain⟨xs,ep,e,z,l,nd,ek,r,eu⟩:=h;exact⟨xs,ep,ha _ e,z,l,nd,ek,hR _ _ r,eu⟩
theorem mJ.mono{K:ag}{p p':Ph}{H H':Hp}{a:Addr}{o:SO}(h:mJ K p H a o)(ha:∀o,H a=some o->H' a=some o)
  (hb:∀b,p.w b->b∉p.f->(p'.w b/\b∉p'.f)/\∀vs,H b=some (.lst vs)->H' b=some (.lst vs))(hR:∀xs vs,aJ K p.c H xs vs->aJ K p'.c H' xs vs):mJ K p' H' a o:=by
 have lol:∀{xss:List BE}{bs:List Addr},(∀b∈bs,p.w b/\b∉p.f)->xO K p.c H xss bs->xO K p'.c H' xss bs:=λwf ⟨z,at_⟩=>⟨z,λi xs b e1 e2=>by
  obtain⟨vs,g1,g2,g3⟩:=at_ i xs b e1 e2;have m:=wf b (cy e2);exact⟨vs,(hb b m.1 m.2).2 vs g1,g2,hR xs vs g3⟩⟩
 cases o with
 |lst xs=>
  obtain⟨vs,e,l,r⟩:=h;exact⟨vs,ha _ e,l,hR xs vs r⟩
 |lol xss=>
  obtain⟨bs,e,l,nd,wf,z⟩:=h;exact⟨bs,ha _ e,l,nd,λb m=>(hb b (wf b m).1 (wf b m).2).1,lol wf z⟩
 |dic n kvs=>
  obtain⟨us,vs,d,v,r⟩:=h;exact⟨us,vs,d.mono ha hR,v,hR _ _ r⟩
 |dol n kvs=>
  obtain⟨bs,d,nd,wf,z⟩:=h;exact⟨bs,d.mono ha hR,nd,λb m=>(hb b (wf b m).1 (wf b m).2).1,lol wf z⟩
def Mb:HO->Prop
 |.lst _=>True
 |.dK _=>True
 |.dT _=>True
 |.ins _ _ _=>True
 |.ext _=>True
 |_=>False
structure aU(K:ag)(p:Ph)(S:aG)(H:Hp):Prop where
 nd:p.f.Nodup
 len:p.f.length=S.length
 sub:∀a∈p.f,p.w a
 wc:∀a,p.w a->p.c a
 mu:∀a,p.c a->∃o,H a=some o/\Mb o
 obj:∀(k:Nat)(a:Addr)(o:SO),p.f[k]?=some a->S[k]?=some o->mJ K p H a o
structure bO(p:Ph)(H:Hp)(q:Ph)(H':Hp):Prop where
 wc:∀a,p.w a->p.c a
 mu:∀a,p.c a->∃o,H a=some o/\Mb o
 pre:p.f <+:q.f
 mw:∀a,p.w a->q.w a
 mono:∀a,p.c a->q.c a
 nf:∀a∈q.f,a∉p.f->H a=none
 nw:∀a,q.w a->¬p.w a->H a=none
 nc:∀a,q.c a->¬p.c a->H a=none
 keep:∀a o,H a=some o->¬p.w a->H' a=some o
def bZ(K:ag)(p:Ph)(H:Hp):AV->V->Prop
 |.pv v,x=>aI K p.c H v x
 |.ref k,x=>∃a,p.f[k]?=some a/\x=.ref a
abbrev gJ(K:ag)(p:Ph)(H:Hp):BH->List V->Prop:=dn (bZ K p H)
structure dF(K:ag)(p:Ph)(H:Hp)(ρ:bW)(σ:St):Prop where
 len:ρ.length=σ.length
 at_:∀(i:Nat)(v:AV),ρ[i]?=some (some v)->∃x,σ[i]?=some (some x)/\bZ K p H v x
section
variable{K:ag}{p q r:Ph}{H H' H'':Hp}{S:aG}
theorem aU.step(s:aU K p S H):bO p H p H:=⟨s.wc,s.mu,jk,λ_ h=>h,λ_ h=>h,λ_ h g=>absurd h g,λ_ h g=>absurd h g,λ_ h g=>absurd h g,λ_ _ h _=>h⟩
theorem bO.trans(a:bO p H q H')(b:bO q H' r H''):bO p H r H'':=by
 have back:∀x,H' x=none->¬p.w x->H x=none:=λx h n=>by
  cases e:H x with
  |none=>rfl
  |some o=>rw[a.keep x o e n]at h;cases h
 refine⟨a.wc,a.mu,a.pre.trans b.pre,λx h=>b.mw x (a.mw x h),λx h=>b.mono x (a.mono x h),λx h n=>?_,λx h n=>?_,λx h n=>?_,λx o e n=>?_⟩
 .by_cases m:x∈q.f
  .exact a.nf x m n
  .have hn:=b.nf x h m
   refine back x hn λz=>?_;obtain⟨o,ho,_⟩:=b.mu x (a.mono x (a.wc x z));rw[hn]at ho;cases ho
 .by_cases m:q.w x
  .exact a.nw x m n
  .exact back x (b.nw x h m) n
 .by_cases m:q.c x
  .exact a.nc x m n
  .exact back x (b.nc x h m) λz=>n (a.wc x z)
 .refine b.keep x o (a.keep x o e n) λz=>?_
  rw[a.nw x z n]at e;cases e
theorem bO.tup(s:bO p H q H'){a:Addr}{vs:List V}(h:cT K H a vs):cT K H' a vs:=by
 have go:∀o,H a=some o->¬Mb o->H' a=some o:=λo e n=>s.keep a o e λz=>by
  obtain⟨u,e',m⟩:=s.mu a (s.wc a z);rw[e]at e';cases e';exact n m
 rcases h with(h |⟨o,h⟩) |h
 .exact .inl (.inl (go _ h (λz=>z)))
 .exact .inl (.inr ⟨o,go _ h (λz=>z)⟩)
 .exact .inr h
theorem bO.lat(s:bO p H q H'){a:Addr}{vs:List V}(h:kB K p.c H a vs):kB K q.c H' a vs:=by
 rcases h with⟨h,n⟩|⟨o,h⟩|h
 .refine .inl ⟨s.keep a _ h λz=>n (s.wc a z),λz=>?_⟩
  rw[s.nc a z n]at h;cases h
 .refine .inr (.inl ⟨o,s.keep a _ h λz=>?_⟩)
  obtain⟨u,e',m⟩:=s.mu a (s.wc a z);rw[h]at e';cases e';exact m
 .exact .inr (.inr h)
theorem bO.rep(s:bO p H q H'){v:PV}{x:V}(h:aI K p.c H v x):aI K q.c H' v x:=aI.mono (λ_ _=>s.tup) (λ_ _=>s.lat) v x h
theorem bO.reps(s:bO p H q H'){v:BE}{x:List V}(h:aJ K p.c H v x):aJ K q.c H' v x:=aJ.mono (λ_ _=>s.tup) (λ_ _=>s.lat) v x h
theorem bO.at_(s:bO p H q H'){k:Nat}{a:Addr}(h:p.f[k]?=some a):q.f[k]?=some a:=by
 obtain⟨t,e⟩:=s.pre;rw[<-e,fj (by
  have:=ce.mp h;exact this.1)]
 exact h
theorem bO.repA(s:bO p H q H'){v:AV}{x:V}(h:bZ K p H v x):bZ K q H' v x:=by
 cases v with
 |pv v=>exact s.rep h
 |ref k=>
  obtain⟨a,e,f⟩:=h;exact⟨a,s.at_ e,f⟩
theorem bO.repE(s:bO p H q H'){ρ:bW}{σ:St}(h:dF K p H ρ σ):dF K q H' ρ σ:=
 ⟨h.len,λi v e=>let⟨x,e1,e2⟩:=h.at_ i v e;⟨x,e1,s.repA e2⟩⟩
theorem aU.same(s:aU K p S H)(h:dH H H'):bO p H p H':=⟨s.wc,s.mu,jk,λ_ h=>h,λ_ h=>h,λ_ h g=>absurd h g,λ_ h g=>absurd h g,λ_ h g=>absurd h g,λa o e _=>h a o e⟩
theorem aU.ofSame(s:aU K p S H)(h:dH H H'):aU K p S H':=
 ⟨s.nd,s.len,s.sub,s.wc,λa m=>let⟨o,e,m⟩:=s.mu a m;⟨o,h a o e,m⟩,λk a o e1 e2=>by
  exact(s.obj k a o e1 e2).mono (λvs e=>h _ _ e) (λb w f=>⟨⟨w,f⟩,λvs e=>h _ _ e⟩) λxs vs=>(s.same h).reps⟩
theorem gO{a:Addr}{o:HO}(h:H a=none):dH H (aL H a o):=λb u e=>by
 rw[bK (gF e h)];exact e
end
section
variable{α β γ δ:Type}
def bU(K:ag)(cl:Str->Addr)(R:Ph->Hp->α->β->Prop)(p:Ph)(H:Hp)(r:bP α)(Q:β->Hp->Prop)(E:XK):Prop:=match r with
 |.ok a S=>∀q H' x,bO p H q H'->aU K q S H'->R q H' a x->Q x H'
 |.exc n S=>∀q H',bO p H q H'->aU K q S H'->E (.ref (cl n)) none H'
 |.fail=>False
def dY(K:ag)(cl:Str->Addr)(p:Ph)(H:Hp)(r:cD)(D:mM)(E:XK):Prop:=match r with
 |.nx ρ S=>∀q H' σ,bO p H q H'->aU K q S H'->dF K q H' ρ σ->D.nx σ H'
 |.bk ρ S=>∀q H' σ,bO p H q H'->aU K q S H'->dF K q H' ρ σ->D.bk σ H'
 |.ct ρ S=>∀q H' σ,bO p H q H'->aU K q S H'->dF K q H' ρ σ->D.ct σ H'
 |.rt v S=>∀q H' x,bO p H q H'->aU K q S H'->bZ K q H' v x->D.rt x H'
 |.exc n S=>∀q H',bO p H q H'->aU K q S H'->E (.ref (cl n)) none H'
 |.fail=>False
variable{K:ag}{cl:Str->Addr}{p q:Ph}{H H':Hp}{S:aG}{E:XK}{R:Ph->Hp->α->β->Prop}{R':Ph->Hp->γ->δ->Prop}
theorem bU.mono{r:bP α}{Q:β->Hp->Prop}(h:bU K cl R p H r Q E)(s:bO p H q H'):bU K cl R q H' r Q E:=by
 cases r with
 |ok a S=>exact λq' H'' x s'=>h q' H'' x (s.trans s')
 |exc n S=>exact λq' H'' s'=>h q' H'' (s.trans s')
 |fail=>exact h
theorem dY.mono{r:cD}{D:mM}(h:dY K cl p H r D E)(s:bO p H q H'):dY K cl q H' r D E:=by
 cases r with
 |nx ρ S=>exact λq' H'' x s'=>h q' H'' x (s.trans s')
 |bk ρ S=>exact λq' H'' x s'=>h q' H'' x (s.trans s')
 |ct ρ S=>exact λq' H'' x s'=>h q' H'' x (s.trans s')
 |rt v S=>exact λq' H'' x s'=>h q' H'' x (s.trans s')
 |exc n S=>exact λq' H'' s'=>h q' H'' (s.trans s')
 |fail=>exact h
theorem bU.ret{a:α}{x:β}{Q:β->Hp->Prop}(h:bU K cl R p H (.ok a S) Q E)(s:aU K p S H)(r:R p H a x):Q x H:=h p H x s.step s r
theorem bU.same{a:α}{x:β}{Q:β->Hp->Prop}(h:bU K cl R p H (.ok a S) Q E)(s:aU K p S H)(e:dH H H')(r:R p H' a x):Q x H':=h p H' x (s.same e) (s.ofSame e) r
def tP(K:ag)(cl:Str->Addr)(E:XK)(R:Ph->Hp->α->β->Prop)(m:bW->aG->bP α)(σ:St)(H:Hp)(Q:β->Hp->Prop):Prop:=
 ∃p S ρ,aU K p S H/\dF K p H ρ σ/\bU K cl R p H (m ρ S) Q E
def tS(K:ag)(cl:Str->Addr)(E:XK)(m:bW->aG->cD):TS:=λD σ H=>
 ∃p S ρ,aU K p S H/\dF K p H ρ σ/\dY K cl p H (m ρ S) D E
theorem bY{m:bW->aG->bP α}{k:α->aG->bP γ}{ρ:bW}{σ:St}{Q:δ->Hp->Prop}{T:β->Hp->Prop}(s:aU K p S H)(e:dF K p H ρ σ)(h:bU K cl R' p H ((m ρ S).bind k) Q E)
  (g:∀q H' a b S',bO p H q H'->aU K q S' H'->dF K q H' ρ σ->R q H' a b->bU K cl R' q H' (k a S') Q E->T b H'):tP K cl E R m σ H T:=by
 refine⟨p,S,ρ,s,e,?_⟩;cases z:m ρ S with
 |ok a S1=>
  rw[z]at h;exact λq H' b st sm r=>g q H' a b S1 st sm (st.repE e) r (bU.mono (r:=k a S1) h st)
 |exc n S1=>
  rw[z]at h;exact h
 |fail=>
  rw[z]at h;exact h
def cD.of{α:Type}(r:bP α)(k:α->aG->cD):cD:=match r with
 |.ok a S=>k a S
 |.exc n S=>.exc n S
 |.fail=>.fail
theorem iJ{m:bW->aG->bP α}{k:α->aG->cD}{ρ:bW}{σ:St}{D:mM}{T:β->Hp->Prop}(s:aU K p S H)(e:dF K p H ρ σ)(h:dY K cl p H (cD.of (m ρ S) k) D E)
  (g:∀q H' a b S',bO p H q H'->aU K q S' H'->dF K q H' ρ σ->R q H' a b->dY K cl q H' (k a S') D E->T b H'):tP K cl E R m σ H T:=by
 refine⟨p,S,ρ,s,e,?_⟩;cases z:m ρ S with
 |ok a S1=>
  rw[z]at h;exact λq H' b st sm r=>g q H' a b S1 st sm (st.repE e) r (dY.mono (r:=k a S1) h st)
 |exc n S1=>
  rw[z]at h;exact h
 |fail=>
  rw[z]at h;exact h
end
end
abbrev RB:Ph->Hp->Bool->Bool->Prop:=λ_ _ a b=>a=b
abbrev ME:=bW->aG->bP AV
abbrev MT:=bW->aG->bP Bool
abbrev MA:=bW->aG->bP BH
abbrev MS:=bW->aG->cD
section
variable(K:ag)(cl:Str->Addr)(E:XK)(X:Cx)
def aS(e:ah)(m:ME):Prop:=X.K=K->PE X e (tP K cl E (bZ K) m)
def fP(e:ah)(m:MT):Prop:=X.K=K->PT X e (tP K cl E RB m)
def jO(e:ah)(m:MT):Prop:=X.K=K->PW X e (tP K cl E RB m)
def eN(es:List ah)(m:MA):Prop:=X.K=K->PA X es (tP K cl E (gJ K) m)
def eG(st:Stmt)(m:MS):Prop:=X.K=K->PS X st (tS K cl E m)
def gR(st:List Stmt)(m:MS):Prop:=X.K=K->gL X st (tS K cl E m)
end
theorem PA.imp{X:Cx}{es:List ah}{t t':TA}(h:PA X es t)(i:∀σ H Q,t' σ H Q->t σ H Q):PA X es t':=λpos BI s σ H Q I q=>h pos BI s σ H Q I (i σ H Q q)
theorem PW.imp{X:Cx}{e:ah}{t t':TT}(h:PW X e t)(i:∀σ H Q,t' σ H Q->t σ H Q):PW X e t':=λwh BI s σ H Q I q=>h wh BI s σ H Q I (i σ H Q q)
def aA(i:Nat):ME:=λρ S=>match ρ[i]? with
 |some (some v)=>.ok v S
 |_=>.fail
def mC(v:PV):ME:=λ_ S=>.ok (.pv v) S
def rd(S:aG):AV->BF
 |.pv v=>some v
 |.ref k=>match S[k]? with
  |some (.lst xs)=>some (.lst xs)
  |_=>none
def gU(S:aG):BH->Option BE
 |[]=>some []
 |a::r=>match rd S a with
  |some v=>match gU S r with
   |some vs=>some (v::vs)
   |none=>none
  |none=>none
def iB(o:BF)(S:aG):bP AV:=match o with
 |some r=>.ok (.pv r) S
 |none=>.fail
def tL(f:PV->BF)(a:AV)(S:aG):bP AV:=iB ((rd S a).bind f) S
def kM(f:PV->PV->BF)(a b:AV)(S:aG):bP AV:=iB ((rd S a).bind λx=>(rd S b).bind λy=>f x y) S
def cL(f:PV->BF)(ma:ME):ME:=λρ S=>(ma ρ S).bind λx S1=>tL f x S1
def aC(f:PV->PV->BF)(ma mb:ME):ME:=λρ S=>(ma ρ S).bind λx S1=>(mb ρ S1).bind λy S2=>kM f x y S2
def aD:MA:=λ_ S=>.ok [] S
def aB(ma:ME)(mr:MA):MA:=λρ S=>(ma ρ S).bind λx S1=>(mr ρ S1).bind λxs S2=>.ok (x::xs) S2
def nK:BH->Option BE
 |[]=>some []
 |.pv v::r=>match nK r with
  |some vs=>some (v::vs)
  |none=>none
 |.ref _::_=>none
def De(f:BE->BF)(xs:BH)(S:aG):bP AV:=iB ((nK xs).bind f) S
def nN(f:BE->BF)(xs:BH)(S:aG):bP AV:=iB ((gU S xs).bind f) S
def mR(f:BE->BF)(ma:MA):ME:=λρ S=>(ma ρ S).bind λxs S1=>nN f xs S1
def mN(f:BE->BF)(ma:MA):ME:=λρ S=>(ma ρ S).bind λxs S1=>De f xs S1
def dX(vs:BE):BF:=if vs.length<=16777216 then some (.tup vs)else none
def fU(vs:BE):BF:=if vs.length<=16777216 then some (.lst vs)else none
def kW:AV->aG->bP Bool
 |.pv (.bl b),S=>.ok b S
 |_,_=>.fail
def bJ(m:ME):MT:=λρ S=>(m ρ S).bind kW
def tW(m:MT):MT:=λρ S=>(m ρ S).bind λb S1=>.ok (!b) S1
def jL(m n:MT):MT:=λρ S=>(m ρ S).bind λb S1=>if b=true then n ρ S1 else .ok false S1
def uI(m n:MT):MT:=λρ S=>(m ρ S).bind λb S1=>if b=true then .ok true S1 else n ρ S1
def qY(m n:ME):ME:=λρ S=>(m ρ S).bind λx S1=>match x with
 |.pv (.bl true)=>n ρ S1
 |.pv (.bl false)=>.ok (.pv (.bl false)) S1
 |_=>.fail
def adv(m n:ME):ME:=λρ S=>(m ρ S).bind λx S1=>match x with
 |.pv (.bl false)=>n ρ S1
 |.pv (.bl true)=>.ok (.pv (.bl true)) S1
 |_=>.fail
def tY:PV->BF
 |.bl b=>some (.bl (!b))
 |_=>none
def uC(c:MT)(a b:ME):ME:=λρ S=>(c ρ S).bind λt S1=>if t=true then a ρ S1 else b ρ S1
section
variable{K:ag}{cl:Str->Addr}{E:XK}{X:Cx}{a b c e:ah}{es:List ah}{ma mb mc m:ME}{mt nt:MT}{ms:MA}{pos:ai}
theorem aaJ(i:Nat){x:Str}(hN:X.N[i]?=some x:=by rfl)(hv:kT X.env.scope x:=by first |exact eh rfl |exact dk (eh rfl) |exact dk (dk rfl))(hd:(x==("__debug__":Str))=false:=by decide)
  (hcd:(x==("__classdict__":Str))=false:=by decide):aS K cl E X (.Name x pos) (aA i):=λ_=>(lK hN hv hd hcd).imp λσ H Q ⟨p,S,ρ,s,e,h⟩=>by
 unfold aA at h;cases z:ρ[i]? with
 |none=>rw[z]at h;exact h.elim
 |some o=>
  cases o with
  |none=>rw[z]at h;exact h.elim
  |some v=>
   rw[z]at h;obtain⟨x,e1,e2⟩:=e.at_ i v z;exact⟨x,e1,bU.ret h s e2⟩
theorem aaM{i:Int}{j}:aS K cl E X (.Constant (.int i) j pos) (mC (.int i)):=λ_=>wM.imp λσ H Q ⟨p,S,ρ,s,e,h⟩=>bU.ret (R:=bZ K) (x:=.int i) h s (by show aI K p.c H (.int i) (.int i);unfold aI;rfl)
theorem acp{i:Bool}{j}:aS K cl E X (.Constant (.bool i) j pos) (mC (.bl i)):=λ_=>acW.imp λσ H Q ⟨p,S,ρ,s,e,h⟩=>bU.ret (R:=bZ K) (x:=.bl i) h s (by show aI K p.c H (.bl i) (.bl i);unfold aI;rfl)
def fG(K:ag)(p:Ph)(H:Hp)(v:PV)(x:V):Prop:=aI K p.c H v x\/∃xs a vs,v=.lst xs/\x=.ref a/\H a=some (.lst vs)/\vs.length<=sizeLine/\aJ K p.c H xs vs
theorem fG.int{p:Ph}{H:Hp}{i:Int}{x:V}(h:fG K p H (.int i) x):x=.int i:=by
 rcases h with h |⟨_,_,_,e,_⟩
 .unfold aI at h;exact h
 .cases e
theorem fG.bl{p:Ph}{H:Hp}{i:Bool}{x:V}(h:fG K p H (.bl i) x):x=.bl i:=by
 rcases h with h |⟨_,_,_,e,_⟩
 .unfold aI at h;exact h
 .cases e
theorem fG.str{p:Ph}{H:Hp}{i:Str}{x:V}(h:fG K p H (.str i) x):x=.str i:=by
 rcases h with h |⟨_,_,_,e,_⟩
 .unfold aI at h;exact h
 .cases e
theorem fG.non{p:Ph}{H:Hp}{x:V}(h:fG K p H .non x):x=.non:=by
 rcases h with h |⟨_,_,_,e,_⟩
 .unfold aI at h;exact h
 .cases e
theorem fG.tup{p:Ph}{H:Hp}{xs:BE}{x:V}(h:fG K p H (.tup xs) x):∃a vs,x=.ref a/\cT K H a vs/\vs.length<=sizeLine/\aJ K p.c H xs vs:=by
 rcases h with h |⟨_,_,_,e,_⟩
 .unfold aI at h;exact h
 .cases e
theorem fG.lst{p:Ph}{H:Hp}{xs:BE}{x:V}(h:fG K p H (.lst xs) x):∃a vs,x=.ref a/\bV K H a vs/\vs.length<=sizeLine/\aJ K p.c H xs vs:=by
 rcases h with h |⟨ys,a,vs,e,e2,h,z,r⟩
 .unfold aI at h
  obtain⟨a,vs,e,l,z,r⟩:=h;exact⟨a,vs,e,l.sq,z,r⟩
 .cases e
  exact⟨a,vs,e2,bV.of h,z,r⟩
theorem oQ{p:Ph}{S:aG}{H:Hp}{a:AV}{v:PV}{x:V}(s:aU K p S H)(r:bZ K p H a x)(e:rd S a=some v):fG K p H v x:=by
 cases a with
 |pv u=>cases e;exact .inl r
 |ref k=>
  obtain⟨a,e1,rfl⟩:=r;unfold rd at e;cases z:S[k]? with
  |none=>simp only[z]at e;cases e
  |some o=>
   cases o with
   |lst xs=>
    simp only[z]at e;cases e;obtain⟨vs,h,l,r⟩:=s.obj k a _ e1 z;exact .inr ⟨xs,a,vs,rfl,rfl,h,l,r⟩
   |lol _=>simp only[z]at e;cases e
   |dic _ _=>simp only[z]at e;cases e
   |dol _ _=>simp only[z]at e;cases e
abbrev Ie(K:ag)(p:Ph)(H:Hp):BE->List V->Prop:=dn (fG K p H)
theorem vF{p:Ph}{S:aG}{H:Hp}(s:aU K p S H):∀{as:BH}{vs:BE}{xs:List V},gJ K p H as xs->gU S as=some vs->Ie K p H vs xs
 |[],vs,_,.nil,e=>by
  cases e;exact .nil
 |a::r,vs,_,.cons h t,e=>by
  unfold gU at e;cases z:rd S a with
  |none=>simp only[z]at e;cases e
  |some v=>
   simp only[z]at e;cases y:gU S r with
   |none=>simp only[y]at e;cases e
   |some us=>
    simp only[y]at e;cases e;exact .cons (oQ s h z) (vF s t y)
def gX(K:ag)(r:R2)(f:PV->PV->BF):Prop:=∀{p:Ph}{S:aG}{H:Hp}{a b c:PV}{x y:V}{Q:VK},aU K p S H->fG K p H a x->fG K p H b y->f a b=some c->
 (∀H' z,dH H H'->aI K p.c H' c z->Q z H')->r x y H Q
def uG(K:ag)(r:V->Hp->VK->Prop)(f:PV->BF):Prop:=∀{p:Ph}{S:aG}{H:Hp}{a c:PV}{x:V}{Q:VK},aU K p S H->fG K p H a x->f a=some c->
 (∀H' z,dH H H'->aI K p.c H' c z->Q z H')->r x H Q
def CaS(K:ag)(r:List V->Hp->VK->Prop)(f:BE->BF):Prop:=∀{p:Ph}{S:aG}{H:Hp}{as:BE}{c:PV}{xs:List V}{Q:VK},aU K p S H->aJ K p.c H as xs->f as=some c->
 (∀H' z,dH H H'->aI K p.c H' c z->Q z H')->r xs H Q
def kD(K:ag)(r:List V->Hp->VK->Prop)(f:BE->BF):Prop:=∀{p:Ph}{S:aG}{H:Hp}{as:BE}{c:PV}{xs:List V}{Q:VK},aU K p S H->Ie K p H as xs->f as=some c->
 (∀H' z,dH H H'->aI K p.c H' c z->Q z H')->r xs H Q
theorem oO{p:Ph}{S:aG}{H:Hp}{o:BF}{Q:VK}(s:aU K p S H)(h:bU K cl (bZ K) p H (iB o S) Q E):∃c,o=some c/\∀H' z,dH H H'->aI K p.c H' c z->Q z H':=by
 cases o with
 |none=>exact h.elim
 |some c=>exact⟨c,rfl,λH' z sm rz=>bU.same (R:=bZ K) h s sm rz⟩
theorem uZ{r:R2}{f:PV->PV->BF}(hf:gX K r f){p:Ph}{S:aG}{H:Hp}{a b:AV}{x y:V}{Q:VK}(s:aU K p S H)(ra:bZ K p H a x)(rb:bZ K p H b y)(h:bU K cl (bZ K) p H (kM f a b S) Q E):r x y H Q:=by
 obtain⟨c,e,k⟩:=oO s h;cases z:rd S a with
 |none=>rw[z]at e;cases e
 |some v=>
  cases y:rd S b with
  |none=>rw[z,y]at e;cases e
  |some w=>
   rw[z,y]at e;exact hf s (oQ s ra z) (oQ s rb y) e k
theorem vC{r:V->Hp->VK->Prop}{f:PV->BF}(hf:uG K r f){p:Ph}{S:aG}{H:Hp}{a:AV}{x:V}{Q:VK}(s:aU K p S H)(ra:bZ K p H a x)(h:bU K cl (bZ K) p H (tL f a S) Q E):r x H Q:=by
 obtain⟨c,e,k⟩:=oO s h;cases z:rd S a with
 |none=>rw[z]at e;cases e
 |some v=>
  rw[z]at e;exact hf s (oQ s ra z) e k
theorem Rj{r:List V->Hp->VK->Prop}{f:BE->BF}(hf:kD K r f){p:Ph}{S:aG}{H:Hp}{as:BH}{xs:List V}{Q:VK}(s:aU K p S H)(ra:gJ K p H as xs)(h:bU K cl (bZ K) p H (nN f as S) Q E):r xs H Q:=by
 obtain⟨c,e,k⟩:=oO s h;cases z:gU S as with
 |none=>rw[z]at e;cases e
 |some v=>
  rw[z]at e;exact hf s (vF s ra z) e k
theorem zR{p:Ph}{H:Hp}:∀{as:BH}{vs:BE}{xs:List V},nK as=some vs->gJ K p H as xs->aJ K p.c H vs xs
 |[],vs,_,e,.nil=>by
  cases e;exact .nil
 |.pv v::r,vs,_,e,.cons h t=>by
  unfold nK at e;cases z:nK r with
  |none=>simp only[z]at e;cases e
  |some us=>
   simp only[z]at e;cases e;exact .cons h (zR z t)
 |.ref k::r,vs,_,e,.cons h t=>by
  cases e
theorem Gj{r:List V->Hp->VK->Prop}{f:BE->BF}(hf:CaS K r f){p:Ph}{S:aG}{H:Hp}{as:BH}{xs:List V}{Q:VK}(s:aU K p S H)(ra:gJ K p H as xs)(h:bU K cl (bZ K) p H (De f as S) Q E):r xs H Q:=by
 obtain⟨c,e,k⟩:=oO s h;cases z:nK as with
 |none=>rw[z]at e;cases e
 |some v=>
  rw[z]at e;exact hf s (zR z ra) e k
theorem qU{op:rh}{r:R2}{f:PV->PV->BF}(ho:eJ X (binaryOp op) r)(hf:gX X.K r f)(ha:aS K cl E X a ma)(hb:aS K cl E X b mb):aS K cl E X (.BinOp a op b pos) (aC f ma mb):=by
 intro hK;subst hK;refine(Xs ho (ha rfl) (hb rfl)).imp ?_
 rintro σ H Q ⟨p,S,ρ,s,e,h⟩
 exact bY s e h λq H1 a x S1 st s1 e1 r1 h1=>bY s1 e1 h1 λq2 H2 b y S2 st2 s2 e2 r2 h2=>uZ hf s2 (st2.repA r1) r2 h2
theorem acF{op:UnaryOp}{r:V->Hp->VK->Prop}{f:PV->BF}(ho:yU X (unaryOp op) r)(hf:uG X.K r f)(ha:aS K cl E X a ma):aS K cl E X (.UnaryOp op a pos) (cL f ma):=by
 intro hK;subst hK;refine(Ss ho (ha rfl)).imp ?_
 rintro σ H Q ⟨p,S,ρ,s,e,h⟩
 exact bY s e h λq H1 a x S1 st s1 e1 r1 h1=>vC hf s1 r1 h1
theorem sZ{op:km}{r:R2}{f:PV->PV->BF}(ho:eJ X (compareOp op) r)(hf:gX X.K r f)(ha:aS K cl E X a ma)(hb:aS K cl E X b mb)(hm:behindInMarks op b=false):aS K cl E X (.Compare a [op] [b] pos) (aC f ma mb):=by
 intro hK;subst hK;refine(aaD ho (ha rfl) (hb rfl) hm).imp ?_
 rintro σ H Q ⟨p,S,ρ,s,e,h⟩
 exact bY s e h λq H1 a x S1 st s1 e1 r1 h1=>bY s1 e1 h1 λq2 H2 b y S2 st2 s2 e2 r2 h2=>uZ hf s2 (st2.repA r1) r2 h2
theorem Ts{p:Ph}{H:Hp}{v:AV}{x:V}(r:bZ K p H v x){b:Bool}(e:v=.pv (.bl b)):x=.bl b:=by
 subst e;unfold bZ aI at r;exact r
theorem Bm{p:Ph}{S:aG}{H:Hp}{v:AV}{x:V}{Q:Bool->Hp->Prop}(s:aU K p S H)(r:bZ K p H v x)
  (h:bU K cl RB p H (kW v S) Q E):∃k,x=.bl k/\Q k H:=by
 cases v with
 |ref k=>exact h.elim
 |pv v=>
  cases v with
  |bl b=>exact⟨b,Ts r rfl,bU.ret (R:=RB) h s rfl⟩
  |_=>exact h.elim
theorem sJ{op:km}{r:R2}{f:PV->PV->BF}(ho:eJ X (compareOp op) r)(hf:gX X.K r f)(ha:aS K cl E X a ma)(hb:aS K cl E X b mb)(hm:behindInMarks op b=false):fP K cl E X (.Compare a [op] [b] pos) (bJ (aC f ma mb)):=by
 intro hK;subst hK;refine(aay ho (ha rfl) (hb rfl) hm).imp ?_
 rintro σ H Q ⟨p,S,ρ,s,e,h⟩
 have z:tP X.K cl E (bZ X.K) (aC f ma mb) σ H λx H'=>∃k,x=.bl k/\Q k H':=bY s e h λq H1 a x S1 st s1 e1 r1 h1=>Bm s1 r1 h1;obtain⟨p',S',ρ',s',e',h'⟩:=z;exact bY s' e' h' λq H1 a x S1 st s1 e1 r1 h1=>bY s1 e1 h1 λq2 H2 b y S2 st2 s2 e2 r2 h2=>uZ hf s2 (st2.repA r1) r2 h2
theorem aaH(ha:aS K cl E X a ma)(he:∀whole,isTrue a X.env whole=(do let v <-whole;standAt a.pos;holding [v] (truthy v)):=by intro _;rfl):fP K cl E X a (bJ ma):=by
 intro hK;subst hK;refine(abT (ha rfl) he).imp ?_
 rintro σ H Q ⟨p,S,ρ,s,e,h⟩
 exact bY s e h λq H1 a x S1 st s1 e1 r1 h1=>Bm s1 r1 h1
theorem U8(ha:fP K cl E X a mt):fP K cl E X (.UnaryOp .Not a pos) (tW mt):=by
 intro hK;subst hK;refine(abR (ha rfl)).imp ?_
 rintro σ H Q ⟨p,S,ρ,s,e,h⟩
 exact bY s e h λq H1 a x S1 st s1 e1 r1 h1=>by
  cases r1;exact bU.ret (R:=RB) h1 s1 rfl
theorem A5(ha:fP K cl E X a mt):jO K cl E X (.BoolOp .And [a] pos) mt:=λhK=>Q4 (ha hK)
theorem T6(ha:fP K cl E X a mt):jO K cl E X (.BoolOp .Or [a] pos) mt:=λhK=>abu (ha hK)
theorem jO.pt(h:jO K cl E X a mt):fP K cl E X a mt:=λhK=>PW.pt (h hK)
theorem aax{fF:List ah}(ha:fP K cl E X a mt)(hb:jO K cl E X (.BoolOp .And (b::fF) pos) nt):jO K cl E X (.BoolOp .And (a::b::fF) pos) (jL mt nt):=by
 intro hK;subst hK;refine PW.imp (abP (ha rfl) (hb rfl)) ?_
 rintro σ H Q ⟨p,S,ρ,s,e,h⟩
 refine bY s e h λq H1 a x S1 st s1 e1 r1 h1=>?_;cases r1;cases a with
 |true=>exact⟨q,S1,ρ,s1,e1,h1⟩
 |false=>exact bU.ret (R:=RB) h1 s1 rfl
theorem acb{fF:List ah}(ha:fP K cl E X a mt)(hb:jO K cl E X (.BoolOp .Or (b::fF) pos) nt):jO K cl E X (.BoolOp .Or (a::b::fF) pos) (uI mt nt):=by
 intro hK;subst hK;refine PW.imp (acY (ha rfl) (hb rfl)) ?_
 rintro σ H Q ⟨p,S,ρ,s,e,h⟩
 refine bY s e h λq H1 a x S1 st s1 e1 r1 h1=>?_;cases r1;cases a with
 |true=>exact bU.ret (R:=RB) h1 s1 rfl
 |false=>exact⟨q,S1,ρ,s1,e1,h1⟩
theorem aaN{fF:List ah}(ha:aS K cl E X a ma)(hb:aS K cl E X (.BoolOp .And (b::fF) pos) mb):aS K cl E X (.BoolOp .And (a::b::fF) pos) (qY ma mb):=by
 intro hK;subst hK;refine(abZ (ha rfl) (hb rfl)).imp ?_
 rintro σ H Q ⟨p,S,ρ,s,e,h⟩
 refine bY s e h λq H1 a x S1 st s1 e1 r1 h1=>?_;cases a with
 |ref k=>exact h1.elim
 |pv v=>
  cases v with
  |bl b=>
   refine⟨b,Ts r1 rfl,?_⟩;cases b with
   |true=>exact⟨q,S1,ρ,s1,e1,h1⟩
   |false=>exact bU.ret (R:=bZ X.K) h1 s1 (by show aI X.K q.c H1 _ _;unfold aI;rfl)
  |_=>exact h1.elim
theorem abJ(ha:aS K cl E X a ma):aS K cl E X (.UnaryOp .Not a pos) (cL tY ma):=by
 intro hK;subst hK;refine(ab7 (ha rfl)).imp ?_
 rintro σ H Q ⟨p,S,ρ,s,e,h⟩
 refine bY s e h λq H1 a x S1 st s1 e1 r1 h1=>?_;refine vC (r:=λx H Q=>∃c,x=.bl c/\Q (.bl (!c)) H) (f:=tY) (λ{p S H a c x Q} s r e k=>?_) s1 r1 h1;cases a with
 |bl b=>
  cases e;exact⟨b,r.bl,k H _ (dH.refl H) (by unfold aI;rfl)⟩
 |_=>cases e
theorem acw(hc:fP K cl E X c mt)(ha:aS K cl E X a ma)(hb:aS K cl E X b mb):aS K cl E X (.IfExp c a b pos) (uC mt ma mb):=by
 intro hK;subst hK;refine(E7 (hc rfl) (ha rfl) (hb rfl)).imp ?_
 rintro σ H Q ⟨p,S,ρ,s,e,h⟩
 refine bY s e h λq H1 a x S1 st s1 e1 r1 h1=>?_;cases r1;cases a with
 |true=>exact⟨q,S1,ρ,s1,e1,h1⟩
 |false=>exact⟨q,S1,ρ,s1,e1,h1⟩
theorem aaI:eN K cl E X [] aD:=λ_=>(PA.imp lI λσ H Q ⟨p,S,ρ,s,e,h⟩=>bU.ret (R:=gJ K) h s .nil)
theorem A7(ha:aS K cl E X e m)(hr:eN K cl E X es ms)(hs:starEach (e::es) X.env=(false,eval e X.env)::starEach es X.env:=by rfl):eN K cl E X (e::es) (aB m ms):=by
 intro hK;subst hK;refine PA.imp (jT (ha rfl) (hr rfl) hs) ?_
 rintro σ H Q ⟨p,S,ρ,s,e,h⟩
 exact bY s e h λq H1 a x S1 st s1 e1 r1 h1=>bY s1 e1 h1 λq2 H2 b y S2 st2 s2 e2 r2 h2=>bU.ret (R:=gJ X.K) h2 s2 (.cons (st2.repA r1) r2)
theorem qK{p:Ph}{S:aG}{H:Hp}{vs:BE}{xs:List V}{t:Addr}(s:aU K p S H)(r:aJ K p.c H vs xs)(z:xs.length<=sizeLine)(ht:H t=none):aI K p.c (aL H t (.tup xs)) (.tup vs) (.ref t):=by
 unfold aI;exact⟨t,xs,rfl,cT.of dW,z,(s.same (gO ht)).reps r⟩
theorem lH{p:Ph}{S:aG}{H:Hp}{vs:BE}{xs:List V}{t:Addr}(s:aU K p S H)(r:aJ K p.c H vs xs)(z:xs.length<=sizeLine)(ht:H t=none):aI K p.c (aL H t (.lst xs)) (.lst vs) (.ref t):=by
 unfold aI;refine⟨t,xs,rfl,.inl ⟨dW,λc=>?_⟩,z,(s.same (gO ht)).reps r⟩;obtain⟨o,e,_⟩:=s.mu t c;rw[ht]at e;cases e
theorem iD:sizeLine=16777216:=ik
theorem aaY{x1}(h:eN K cl E X es ms):aS K cl E X (.Tuple es x1 pos) (mN dX ms):=by
 intro hK;subst hK;refine(ab6 (h rfl)).imp ?_
 rintro σ H Q ⟨p,S,ρ,s,e,h⟩
 refine bY s e h λq H1 as xs S1 st s1 e1 r1 h1=>?_;refine Gj (r:=λxs H Q=>xs.length<=sizeLine/\∀t,H t=none->Q (.ref t) (aL H t (.tup xs))) (f:=dX) (λ{p S H as c xs Q} s r e k=>?_) s1 r1 h1;unfold dX at e;split at e
 .rename_i hl
  cases e;rw[r.length,<-iD]at hl;exact⟨hl,λt ht=>k _ _ (gO ht) (qK s r hl ht)⟩
 .cases e
theorem abn(h:eN K cl E X es ms):aS K cl E X (.List es pos) (mN fU ms):=by
 intro hK;subst hK;refine(wH (h rfl)).imp ?_
 rintro σ H Q ⟨p,S,ρ,s,e,h⟩
 refine bY s e h λq H1 as xs S1 st s1 e1 r1 h1=>?_;refine Gj (r:=λxs H Q=>xs.length<=sizeLine/\∀t,H t=none->Q (.ref t) (aL H t (.lst xs))) (f:=fU) (λ{p S H as c xs Q} s r e k=>?_) s1 r1 h1;unfold fU at e;split at e
 .rename_i hl
  cases e;rw[r.length,<-iD]at hl;exact⟨hl,λt ht=>k _ _ (gO ht) (lH s r hl ht)⟩
 .cases e
end
noncomputable section
open PySem PySem.Spec PyProof.Rows Bn
def dZ:MS:=λρ S=>.nx ρ S
def aK(a b:MS):MS:=λρ S=>match a ρ S with
 |.nx ρ1 S1=>b ρ1 S1
 |r=>r
def dE(m:ME):MS:=λρ S=>cD.of (m ρ S) λ_ S1=>.nx ρ S1
def bG(m:ME):MS:=λρ S=>cD.of (m ρ S) λv S1=>.rt v S1
def ac9:MS:=λ_ S=>.rt (.pv .non) S
def cS(c:MT)(a b:MS):MS:=λρ S=>cD.of (c ρ S) λt S1=>if t=true then a ρ S1 else b ρ S1
def aZ(i:Nat)(m:ME):MS:=λρ S=>cD.of (m ρ S) λv S1=>.nx (ρ.set i (some v)) S1
def tU(i j:Nat)(m:MA):MS:=λρ S=>cD.of (m ρ S) λvs S1=>match vs with
 |[v,w]=>.nx ((ρ.set i (some v)).set j (some w)) S1
 |_=>.fail
abbrev GM:=PV->bW->Option bW
abbrev nU:=BE->bW->Option bW
def gN(i:Nat):GM:=λv ρ=>some (ρ.set i (some (.pv v)))
def cP:nU:=λvs ρ=>match vs with
 |[]=>some ρ
 |_=>none
def bH(g:GM)(gs:nU):nU:=λvs ρ=>match vs with
 |[]=>none
 |v::r=>match g v ρ with
  |some ρ1=>gs r ρ1
  |none=>none
def gT(n:Nat)(gs:nU):GM:=λv ρ=>match v with
 |.tup vs=>if vs.length=n then gs vs ρ else none
 |_=>none
def mP(g:GM)(m:ME):MS:=λρ S=>cD.of (m ρ S) λv S1=>match v with
 |.pv v=>match g v ρ with
  |some ρ1=>.nx ρ1 S1
  |none=>.fail
 |_=>.fail
abbrev Gd:=List (Nat×BE)
def iC(G:Gd)(S:aG):Prop:=∀g∈G,S[g.1]?=some (.lst g.2)
theorem nB(S:aG):iC [] S:=λ_ h=>nomatch h
abbrev MI:=bW->aG->bP (BE×Gd)
open Classical in
def cV(G:Gd)(g:GM)(mb:MS):BE->bW->aG->cD
 |[],ρ,S=>if iC G S then .nx ρ S else .fail
 |x::r,ρ,S=>if iC G S then(match g x ρ with
  |none=>.fail
  |some ρ1=>match mb ρ1 S with
   |.nx ρ2 S2=>cV G g mb r ρ2 S2
   |.ct ρ2 S2=>cV G g mb r ρ2 S2
   |.bk ρ2 S2=>.nx ρ2 S2
   |.rt v S2=>.rt v S2
   |.exc n S2=>.exc n S2
   |.fail=>.fail)else .fail
def bX(mi:MI)(g:GM)(mb:MS):MS:=λρ S=>cD.of (mi ρ S) λxs S1=>cV xs.2 g mb xs.1 ρ S1
theorem gM{g:GM}{mb:MS}{ρ:bW}{S:aG}:cV [] g mb [] ρ S=.nx ρ S:=by
 unfold cV;rw[if_pos (nB S)]
theorem eZ{g:GM}{mb:MS}{x:PV}{r:BE}{ρ:bW}{S:aG}:cV [] g mb (x::r) ρ S=(match g x ρ with
  |none=>.fail
  |some ρ1=>match mb ρ1 S with
   |.nx ρ2 S2=>cV [] g mb r ρ2 S2
   |.ct ρ2 S2=>cV [] g mb r ρ2 S2
   |.bk ρ2 S2=>.nx ρ2 S2
   |.rt v S2=>.rt v S2
   |.exc n S2=>.exc n S2
   |.fail=>.fail):=by
 rw[cV,if_pos (nB S)]
def dQ(c:MT)(mb:MS):Nat->bW->aG->cD
 |0,_,_=>.fail
 |n+1,ρ,S=>cD.of (c ρ S) λt S1=>if t=true then(match mb ρ S1 with
   |.nx ρ2 S2=>dQ c mb n ρ2 S2
   |.ct ρ2 S2=>dQ c mb n ρ2 S2
   |.bk ρ2 S2=>.nx ρ2 S2
   |.rt v S2=>.rt v S2
   |.exc n S2=>.exc n S2
   |.fail=>.fail)else .nx ρ S1
open Classical in
def mF(c:MT)(mb:MS):MS:=λρ S=>if h:∃n,dQ c mb n ρ S≠.fail then dQ c mb h.choose ρ S else .fail
theorem cD.of_ok{α:Type}{r:bP α}{k k':α->aG->cD}(h:∀a S,k a S≠.fail->k' a S=k a S)(n:cD.of r k≠.fail):cD.of r k'=cD.of r k:=by
 cases r with
 |ok a S=>exact h a S n
 |exc=>rfl
 |fail=>rfl
theorem zM{c:MT}{mb:MS}:∀{n:Nat}{ρ:bW}{S:aG},dQ c mb n ρ S≠.fail->dQ c mb (n+1) ρ S=dQ c mb n ρ S
 |0,_,_,h=>absurd rfl h
 |n+1,ρ,S,h=>by
  unfold dQ at h;rw[dQ]
  conv=>rhs;rw[dQ]
  refine cD.of_ok (λt S1 h1=>?_) h
  by_cases ht:t=true
  .simp only[if_pos ht]at h1⊢
   cases z:mb ρ S1 with
   |nx ρ2 S2=>rw[z]at h1;exact zM h1
   |ct ρ2 S2=>rw[z]at h1;exact zM h1
   |_=>rfl
  .simp only[if_neg ht]at h1⊢
theorem zP{c:MT}{mb:MS}{n:Nat}{ρ:bW}{S:aG}(h:dQ c mb n ρ S≠.fail):∀k,dQ c mb (n+k) ρ S=dQ c mb n ρ S
 |0=>rfl
 |k+1=>by
  have ih:=zP h k;rw[<-yb,zM (by rw[ih];exact h),ih]
theorem vA{c:MT}{mb:MS}{n:Nat}{ρ:bW}{S:aG}{r:cD}(e:dQ c mb n ρ S=r)(h:r≠.fail):mF c mb ρ S=r:=by
 have h':∃n,dQ c mb n ρ S≠.fail:=⟨n,by rw[e];exact h⟩;unfold mF;rw[dif_pos h'];have e2:=h'.choose_spec;rcases Nat.le_total n h'.choose with l |l
 .obtain⟨k,q⟩:=o5 l
  rw[q,zP (by rw[e];exact h),e]
 .obtain⟨k,q⟩:=o5 l
  have z:=zP e2 k;rw[<-q,e]at z;exact z.symm
section
variable{K:ag}{cl:Str->Addr}{E:XK}{X:Cx}{a b c e tg:ah}{es:List ah}{m:ME}{mt:MT}{ms:MA}{b1 b2:MS}{st:Stmt}{sts sts':List Stmt}{pos:ai}
theorem dF.set{p:Ph}{H:Hp}{ρ:bW}{σ:St}{v:AV}{x:V}(h:dF K p H ρ σ)(r:bZ K p H v x)(i:Nat):dF K p H (ρ.set i (some v)) (σ.set i (some x)):=by
 refine⟨by rw[fk,fk,h.len],λj u e=>?_⟩
 by_cases q:i=j
 .subst q
  by_cases l:i<ρ.length
  .rw[ee l]at e
   cases e;exact⟨x,ee (by rw[<-h.len];exact l),r⟩
  .rw[kw (by rw[fk];omega)]at e
   cases e
 .rw[fh q]at e⊢
  exact h.at_ j u e
theorem K6:gR K cl E X [] dZ:=λ_=>gL.imp V6 λD σ H ⟨p,S,ρ,s,e,h⟩=>h p H σ s.step s e
theorem dY.nxD{p:Ph}{H:Hp}{ρ:bW}{S:aG}{D:mM}(h:dY K cl p H (.nx ρ S) D E){σ:St}(s:aU K p S H)(e:dF K p H ρ σ):D.nx σ H:=h p H σ s.step s e
theorem Vy(h1:eG K cl E X st b1)(h2:gR K cl E X sts b2):gR K cl E X (st::sts) (aK b1 b2):=by
 intro hK;subst hK;refine gL.imp (K7 (h1 rfl) (h2 rfl)) λD σ H ⟨p,S,ρ,s,e,h⟩=>⟨p,S,ρ,s,e,?_⟩;unfold aK at h;cases z:b1 ρ S with
 |nx ρ1 S1=>
  rw[z]at h;exact λq H' σ' cN sm ev=>⟨q,S1,ρ1,sm,ev,dY.mono (r:=b2 ρ1 S1) h cN⟩
 |bk ρ1 S1=>rw[z]at h;exact h
 |ct ρ1 S1=>rw[z]at h;exact h
 |rt v S1=>rw[z]at h;exact h
 |exc n S1=>rw[z]at h;exact h
 |fail=>rw[z]at h;exact h
theorem O1(h1:eG K cl E X st b1):gR K cl E X [st] b1:=λhK=>Vn (h1 hK)
theorem J8(he:aS K cl E X e m)(hs:swapsWith e none pos.line X.env=pure false:=by rfl):eG K cl E X (.Expr e pos) (dE m):=by
 intro hK;subst hK;refine PS.imp (aap (he rfl) hs) ?_
 rintro D σ H ⟨p,S,ρ,s,e,h⟩
 exact iJ s e h λq H' a b S' cN sm ev r k=>dY.nxD k sm ev
theorem P7(he:aS K cl E X e m):eG K cl E X (.Return (some e) pos) (bG m):=by
 intro hK;subst hK;refine PS.imp (abE (he rfl)) ?_
 rintro D σ H ⟨p,S,ρ,s,e,h⟩
 exact iJ s e h λq H' a b S' cN sm ev r k=>k q H' b sm.step sm r
theorem aaL(hc:fP K cl E X c mt)(ha:gR K cl E X sts b1)(hb:gR K cl E X sts' b2):eG K cl E X (.If c sts sts' pos) (cS mt b1 b2):=by
 intro hK;subst hK;refine PS.imp (acP (hc rfl) (ha rfl) (hb rfl)) ?_
 rintro D σ H ⟨p,S,ρ,s,e,h⟩
 refine iJ s e h λq H' a b S' cN sm ev r k=>?_;cases r;cases a with
 |true=>exact⟨q,S',ρ,sm,ev,k⟩
 |false=>exact⟨q,S',ρ,sm,ev,k⟩
theorem Do{i:Nat}{x:Str}{pos':ai}(hN:X.N.Nodup)(hi:X.N[i]?=some x)(hx:kS X.env.scope x)(he:aS K cl E X e m)(hs:swapsWith e (some (.Name x pos')) pos.line X.env=pure false:=by rfl)
  (hf:X.fn x=true\/X.env.scope.names.lookup x=some .local:=by first |exact .inl rfl |exact .inr rfl |assumption):eG K cl E X (.Assign [.Name x pos'] e pos) (aZ i m):=by
 intro hK;subst hK;refine PS.imp (ab1 hN hi hx (he rfl) hs hf) ?_
 rintro D σ H ⟨p,S,ρ,s,e,h⟩
 exact iJ s e h λq H' a b S' cN sm ev r k=>dY.nxD k sm (ev.set r i)
theorem Z5{i j:Nat}{x y:Str}{px py pt:ai}{kt k2 pt2}(hc:X.calm=true)(hN:X.N.Nodup)(hi:X.N[i]?=some x)(hj:X.N[j]?=some y)(hij:i≠j)
  (hx:X.env.scope.names.lookup x=some .local)(hy:X.env.scope.names.lookup y=some .local)(ha:eN K cl E X [a,b] ms)
  (hw:swappedStores [.Tuple [.Name x px,.Name y py] kt pt] (.Tuple [a,b] k2 pt2) X.env=pure (some [x,y]))
  (hs:swapsWithSole [.Tuple [.Name x px,.Name y py] kt pt] (.Tuple [a,b] k2 pt2) pos.line X.env=pure false:=by rfl):
  eG K cl E X (.Assign [.Tuple [.Name x px,.Name y py] kt pt] (.Tuple [a,b] k2 pt2) pos) (tU i j ms):=by
 intro hK;subst hK;refine PS.imp (abI hc hN hi hj hij hx hy (ha rfl) hw hs) ?_
 rintro D σ H ⟨p,S,ρ,s,e,h⟩
 refine iJ s e h λq H' vs xs S' cN sm ev r k=>?_;cases r with
 |nil=>exact k.elim
 |cons r1 rr=>
  cases rr with
  |nil=>exact k.elim
  |cons r2 rs=>
   cases rs with
   |nil=>exact⟨_,_,rfl,dY.nxD k sm ((ev.set r1 i).set r2 j)⟩
   |cons _ _=>exact k.elim
def gP(K:ag)(g:GM):TG:=λx σ H Q=>∃p S ρ v ρ',aU K p S H/\dF K p H ρ σ/\aI K p.c H v x/\g v ρ=some ρ'/\∀σ',dF K p H ρ' σ'->Q σ' H
def gPs(K:ag)(g:nU):mV:=λxs σ H Q=>∃p S ρ vs ρ',aU K p S H/\dF K p H ρ σ/\aJ K p.c H vs xs/\g vs ρ=some ρ'/\∀σ',dF K p H ρ' σ'->Q σ' H
variable(K X)
def kY(tg:ah)(g:GM):Prop:=X.K=K->PG X tg (gP K g)
def rF(ts:List ah)(g:nU):Prop:=X.K=K->lV X ts (gPs K g)
variable{K X}
theorem PG.imp{tg:ah}{t t':TG}(h:PG X tg t)(i:∀x σ H Q,t' x σ H Q->t x σ H Q):PG X tg t':=λBI s σ H v u Q I r q=>h BI s σ H v u Q I r (i v σ H Q q)
theorem lV.imp{ts:List ah}{t t':mV}(h:lV X ts t)(i:∀x σ H Q,t' x σ H Q->t x σ H Q):lV X ts t':=λBI s σ H v u Q I r q=>h BI s σ H v u Q I r (i v σ H Q q)
theorem J9{i:Nat}{x:Str}(hN:X.N.Nodup)(hi:X.N[i]?=some x)(hx:kS X.env.scope x)(hf:X.fn x=true\/X.env.scope.names.lookup x=some .local:=by first |exact .inl rfl |exact .inr rfl |assumption):kY K X (.Name x pos) (gN i):=
 λ_=>PG.imp (Xn hN hi hx hf) λx σ H Q ⟨p,S,ρ,v,ρ',s,ev,r,g,k⟩=>by
  cases g;exact k _ (ev.set (v:=.pv v) r i)
theorem L7:rF K X [] cP:=λ_=>lV.imp Z9 λxs σ H Q ⟨p,S,ρ,vs,ρ',s,ev,r,g,k⟩=>by
 cases vs with
 |nil=>
  cases g;unfold aJ at r;exact⟨r,k _ ev⟩
 |cons _ _=>cases g
theorem Az{g:GM}{gs:nU}(h1:kY K X e g)(h2:rF K X es gs)(hs:(assignEach (e::es) X.env).map (·.2)=assign e X.env::(assignEach es X.env).map (·.2):=by rfl):rF K X (e::es) (bH g gs):=by
 intro hK;subst hK;refine lV.imp (G6 (h1 rfl) (h2 rfl) hs) ?_
 rintro xs σ H Q ⟨p,S,ρ,vs,ρ',s,ev,r,g1,k⟩
 cases vs with
 |nil=>cases g1
 |cons v vr=>
  unfold aJ at r;obtain⟨x,xr,rfl,r1,r2⟩:=r;unfold bH at g1;cases z:g v ρ with
  |none=>simp only[z]at g1;cases g1
  |some ρ1=>
   simp only[z]at g1;exact⟨x,xr,rfl,p,S,ρ,v,ρ1,s,ev,r1,z,λσ' ev'=>⟨p,S,ρ1,vr,ρ',s,ev',r2,g1,k⟩⟩
theorem aas{k:Nat}{gs:nU}{n:Nat}(hc:X.calm=true)(h:rF K X es gs)(hn:(assignEach es X.env).length=n:=by rfl)(hst:(assignEach es X.env).findIdx? (·.1)=none:=by rfl):kY K X (.Tuple es k pos) (gT n gs):=by
 intro hK;subst hK;refine PG.imp (ab9 hc (h rfl) hn hst) ?_
 rintro x σ H Q ⟨p,S,ρ,v,ρ',s,ev,r,g1,k⟩
 cases v with
 |tup vs=>
  unfold aI at r;obtain⟨a,xs,rfl,t,z,r⟩:=r;unfold gT at g1;dsimp only at g1;split at g1
  .rename_i hl
   exact⟨a,xs,rfl,t,r.length.symm.trans hl,p,S,ρ,vs,ρ',s,ev,r,g1,k⟩
  .cases g1
 |_=>cases g1
theorem Z7{g:GM}(he:aS K cl E X e m)(hg:kY K X tg g)(hs:swapsWithSole [tg] e pos.line X.env=pure false:=by rfl)(hw:swappedStores [tg] e X.env=pure none:=by rfl)
  (h1:(assignEach [tg] X.env).map (·.2)=[assign tg X.env]:=by rfl):eG K cl E X (.Assign [tg] e pos) (mP g m):=by
 intro hK;subst hK;refine PS.imp (wL (he rfl) (hg rfl) hs hw h1) ?_
 rintro D σ H ⟨p,S,ρ,s,e,h⟩
 refine iJ s e h λq H' a b S' cN sm ev r k=>?_;cases a with
 |ref k'=>exact k.elim
 |pv v=>
  dsimp only at k;cases z:g v ρ with
  |none=>simp only[z]at k;exact k.elim
  |some ρ1=>
   simp only[z]at k;exact⟨q,S',ρ,v,ρ1,sm,ev,r,z,λσ' ev'=>dY.nxD k sm ev'⟩
def fE(K:ag)(p:Ph)(H:Hp)(xs:BE×Gd)(J:It):Prop:=xs.1.length<=sizeLine/\∀q H1 S1,bO p H q H1->aU K q S1 H1->iC xs.2 S1->
 (∀(i:Nat)(v:PV),xs.1[i]?=some v->J.go i H1/\∀x H2,J.yld i H1 x H2->dH H1 H2/\aI K q.c H2 v x)/\J.stop xs.1.length H1
theorem fE.step{p q:Ph}{H H':Hp}{xs:BE×Gd}{J:It}(h:fE K p H xs J)(s:bO p H q H'):fE K q H' xs J:=⟨h.1,λr H1 S1 t=>h.2 r H1 S1 (s.trans t)⟩
variable(K cl E X)
def PIp(tg iter:ah)(m:MI):Prop:=X.K=K->PI X tg iter (tP K cl E (fE K) m)
variable{K cl E X}
theorem PI.imp{tg iter:ah}{t t':TI}(h:PI X tg iter t)(i:∀σ H Q,t' σ H Q->t σ H Q):PI X tg iter t':=λBI s σ H R I q=>h BI s σ H R I (i σ H R q)
def adp(K:ag)(tl:TE):TI:=λσ H R=>tl σ H λx H1=>∃a,x=.ref a/\(((∃xs,bV K H1 a xs)/\R (yO K a) H1)\/((∃xs,cT K H1 a xs)/\R (Sf K a) H1))
theorem Dq{l:ah}{tl:TE}(hl:PE X l tl):PI X tg l (adp X.K tl):=by
 intro BI s σ H R I h;refine bD (hl BI s σ H _ I h) ?_
 rintro v s1 ⟨x,H1,I1,r1,q1⟩
 obtain⟨a,e,q⟩:=q1;subst e;cases r1;rcases q with⟨⟨xs,hq⟩,q⟩|⟨⟨xs,hq⟩,q⟩
 .obtain⟨its,rv,p,hz⟩:=I1.list hq
  refine tj p.isList ?_;refine⟨s1.heap.objs.size,[s1.heap.objs.size],_,_,H1,rfl,I1.kept (t':=s1.toks) λb o e=>ar _ e,Oz a _,⟨_,da _ rfl,rfl,rfl⟩,λb hb=>?_,q⟩;have e:b=s1.heap.objs.size:=by simpa using hb
  subst e;exact I1.fpOk (aj _) (I1.hok.fresh (aj _))
 .obtain⟨its,rv,p,hz⟩:=I1.tuple hq
  refine l9 (show s1.heap.IsTuple a its.toArray from p) ?_;refine⟨s1.heap.objs.size,[s1.heap.objs.size],_,_,H1,rfl,I1.kept (t':=s1.toks) λb o e=>ar _ e,Ox a _,⟨_,da _ rfl,rfl,rfl⟩,λb hb=>?_,q⟩;have e:b=s1.heap.objs.size:=by simpa using hb
  subst e;exact I1.fpOk (aj _) (I1.hok.fresh (aj _))
def cR:AV->aG->bP (BE×Gd)
 |.pv (.lst xs),S=>.ok (xs,[]) S
 |.pv (.tup xs),S=>.ok (xs,[]) S
 |.ref k,S=>match S[k]? with
  |some (.lst xs)=>.ok (xs,[(k,xs)]) S
  |_=>.fail
 |_,_=>.fail
def bR(m:ME):MI:=λρ S=>(m ρ S).bind cR
theorem abL{p:Ph}{H:Hp}{xs:BE}{a:Addr}{vs:List V}(l:kB K p.c H a vs)(z:vs.length<=sizeLine)(r:aJ K p.c H xs vs):fE K p H (xs,[]) (yO K a):=by
 refine⟨by rw[r.length];exact z,λq H1 S1 st _ _=>⟨λi v e=>?_,?_⟩⟩
 .have l1:=(st.lat l).sq
  obtain⟨x,e1,r1⟩:=(st.reps r).get e;refine⟨⟨vs,x,l1,e1⟩,λy H2 hy=>?_⟩;obtain⟨rfl,hy⟩:=hy;have:=(hy vs l1).symm.trans e1;cases this;exact⟨dH.refl _,r1⟩
 .exact⟨vs,(st.lat l).sq,by rw[r.length];exact aj _⟩
theorem ab2{p:Ph}{H:Hp}{xs:BE}{a:Addr}{vs:List V}(l:cT K H a vs)(z:vs.length<=sizeLine)(r:aJ K p.c H xs vs):fE K p H (xs,[]) (Sf K a):=by
 refine⟨by rw[r.length];exact z,λq H1 S1 st _ _=>⟨λi v e=>?_,?_⟩⟩
 .have l1:=st.tup l
  obtain⟨x,e1,r1⟩:=(st.reps r).get e;refine⟨⟨vs,x,l1,e1⟩,λy H2 hy=>?_⟩;obtain⟨rfl,hy⟩:=hy;have:=(hy vs l1).symm.trans e1;cases this;exact⟨dH.refl _,r1⟩
 .exact⟨vs,st.tup l,by rw[r.length];exact aj _⟩
theorem abj{p:Ph}{H:Hp}{xs:BE}{a:Addr}{k:Nat}{n:xs.length<=sizeLine}(hf:p.f[k]?=some a):fE K p H (xs,[(k,xs)]) (yO K a):=by
 refine⟨n,λq H1 S1 st sm g=>?_⟩;have e0:S1[k]?=some (.lst xs):=g (k,xs) bf;obtain⟨vs,h1,l1,r1⟩:=sm.obj k a _ (st.at_ hf) e0;refine⟨λi v e=>?_,?_⟩
 .obtain⟨x,e1,r2⟩:=r1.get e
  refine⟨⟨vs,x,bV.of h1,e1⟩,λy H2 hy=>?_⟩;obtain⟨rfl,hy⟩:=hy;have:=(hy vs (bV.of h1)).symm.trans e1;cases this;exact⟨dH.refl _,r2⟩
 .exact⟨vs,bV.of h1,by rw[r1.length];exact aj _⟩
theorem V8(h:aS K cl E X e m):PIp K cl E X tg e (bR m):=by
 intro hK;subst hK;refine PI.imp (Dq (h rfl)) ?_
 rintro σ H R ⟨p,S,ρ,s,ev,h⟩
 refine bY s ev h λq H' v x S' cN sm ev r k=>?_;cases v with
 |ref j=>
  obtain⟨a,e,rfl⟩:=r;unfold cR at k;dsimp only at k;cases z:S'[j]? with
  |none=>rw[z]at k;exact k.elim
  |some o=>
   cases o with
   |lst xs=>
    rw[z]at k;obtain⟨vs,h1,l1,r1⟩:=sm.obj j a _ e z;exact⟨a,rfl,.inl ⟨⟨vs,bV.of h1⟩,bU.ret (R:=fE X.K) k sm (abj (n:=by rw[r1.length];exact l1) e)⟩⟩
   |lol _=>rw[z]at k;exact k.elim
   |dic _ _=>rw[z]at k;exact k.elim
   |dol _ _=>rw[z]at k;exact k.elim
 |pv v=>
  cases v with
  |lst xs=>
   have r:aI X.K q.c H' (.lst xs) x:=r;unfold aI at r;obtain⟨a,vs,rfl,l,z,r⟩:=r;exact⟨a,rfl,.inl ⟨⟨vs,l.sq⟩,bU.ret (R:=fE X.K) k sm (abL l z r)⟩⟩
  |tup xs=>
   have r:aI X.K q.c H' (.tup xs) x:=r;unfold aI at r;obtain⟨a,vs,rfl,l,z,r⟩:=r;exact⟨a,rfl,.inr ⟨⟨vs,l⟩,bU.ret (R:=fE X.K) k sm (ab2 l z r)⟩⟩
  |_=>exact k.elim
def dA(lo:Int)(n:Nat):BE:=(bj n).map λi=>.int (lo+(i:Nat))
def iY:BH->aG->bP (BE×Gd)
 |[.pv (.int j)],S1=>@ite _ (j<=16777216/\-16777216<=j) (ug _) (.ok (dA 0 j.toNat,[]) S1) .fail
 |_,_=>.fail
def dB(ms:MA):MI:=λρ S=>(ms ρ S).bind iY
def xW:BH->aG->bP (BE×Gd)
 |[.pv (.int i),.pv (.int j)],S1=>@ite _ ((-4611686018427387904<=i/\i<4611686018427387904/\-4611686018427387904<=j/\j<4611686018427387904)/\j-i<=16777216) (ug _) (.ok (dA i (j-i).toNat,[]) S1) .fail
 |_,_=>.fail
def nC(ms:MA):MI:=λρ S=>(ms ρ S).bind xW
theorem Gq{p:Ph}{H:Hp}{lo:Int}{n:Nat}(h:n<=sizeLine):fE K p H (dA lo n,[]) (uF lo n):=by
 have hl:(dA lo n).length=n:=by unfold dA;rw[ao,ng]
 refine⟨by show(dA lo n).length<=_;rw[hl];exact h,λq H1 S1 st _ _=>⟨λi v e=>?_,?_⟩⟩
 .have hi:i<n:=by
   have:=(ce.mp (show(dA lo n)[i]?=some v from e)).1;omega
  refine⟨hi,λx H2 hy=>?_⟩;obtain⟨rfl,rfl⟩:=hy;have e:(dA lo n)[i]?=some v:=e;unfold dA at e;rw[ax,List.getElem?_range hi]at e;cases e;refine⟨dH.refl _,?_⟩;unfold aI;rfl
 .show n<=(dA lo n).length
  rw[hl];exact aj n
theorem Wx{p:ai}(hg:Gl X "range")(hm:X.mg "range"=none)(ha:eN K cl E X [a] ms)(hs:starEach [a] X.env=[(false,eval a X.env)]:=by rfl):PIp K cl E X tg (.Call (.Name "range" p) [a] [] pos) (dB ms):=by
 intro hK;subst hK;refine PI.imp (Zy hg hm (ha rfl) hs) ?_
 rintro σ H R ⟨p,S,ρ,s,ev,h⟩
 refine bY s ev h λq H' vs xs S' cN sm ev r k=>?_;unfold iY at k;split at k
 .rename_i j
  cases r with
  |cons r1 r2=>
   cases r2;rename_i x;have e:x=.int j:=by
    have r1:aI X.K q.c H' (.int j) x:=r1;unfold aI at r1;exact r1
   subst e;split at k
   .rename_i hj
    have hz:=iD;exact⟨j,rfl,by omega,by omega,bU.ret (R:=fE X.K) k sm (Gq (by omega))⟩
   .exact k.elim
 .exact k.elim
theorem Ex{p:ai}(hg:Gl X "range")(hm:X.mg "range"=none)(ha:eN K cl E X [a,b] ms)(hs:starEach [a,b] X.env=[(false,eval a X.env),(false,eval b X.env)]:=by rfl)(hs2:starEach [b] X.env=[(false,eval b X.env)]:=by rfl):PIp K cl E X tg (.Call (.Name "range" p) [a,b] [] pos) (nC ms):=by
 intro hK;subst hK;refine PI.imp (Pz hg hm (ha rfl) hs hs2) ?_
 rintro σ H R ⟨p,S,ρ,s,ev,h⟩
 refine bY s ev h λq H' vs xs S' cN sm ev r k=>?_;unfold xW at k;split at k
 .rename_i i j
  cases r with
  |cons r1 r2=>
   cases r2 with
   |cons r2 r3=>
    cases r3;rename_i x y;have e:x=.int i:=by
     have r1:aI X.K q.c H' (.int i) x:=r1;unfold aI at r1;exact r1
    have e2:y=.int j:=by
     have r1:aI X.K q.c H' (.int j) y:=r2;unfold aI at r1;exact r1
    subst e e2;split at k
    .rename_i hj
     have hz:=iD;exact⟨i,j,rfl,by omega,bU.ret (R:=fE X.K) k sm (Gq (by omega))⟩
    .exact k.elim
 .exact k.elim
theorem R8{mi:MI}{g:GM}(hp:pk (model X.prog X.w) X.A X.env X.xe)(hc:X.calm=true)(hi:PIp K cl E X tg e mi)(hg:kY K X tg g)(hb:gR K cl E X sts b1)
  (hs:∀x,foldedSetIterable e X.env x=pure x:=by intro _;rfl):eG K cl E X (.For tg e sts [] pos) (bX mi g b1):=by
 intro hK;subst hK;refine PS.imp (Wq hp hc (hi rfl) (hg rfl) (hb rfl) hs) ?_
 rintro D σ H ⟨p,S,ρ,s,ev,h⟩
 refine iJ s ev h λq H' xg J S' cN sm ev it k=>?_;obtain⟨xs,G⟩:=xg;refine⟨λi n σ H=>n=xs.length-i/\i<=xs.length/\∃p S ρ,aU X.K p S H/\dF X.K p H ρ σ/\fE X.K p H (xs,G) J/\dY X.K cl p H (cV G g b1 (xs.drop i) ρ S) D E,⟨xs.length,by simp,de _,q,S',ρ,sm,ev,it,by simpa using k⟩,?_⟩
 rintro i n σ1 H1 ⟨rfl,hi,p1,S1,ρ1,sm1,ev1,it1,k1⟩
 by_cases hlt:i<xs.length
 .have hx:xs[i]?=some xs[i]:=av hlt
  rw[qp hlt]at k1;unfold cV at k1;split at k1
  .rename_i gk
   obtain⟨g1,y1⟩:=(it1.2 p1 H1 S1 sm1.step sm1 gk).1 i _ hx;cases z:g xs[i] ρ1 with
   |none=>simp only[z]at k1;exact k1.elim
   |some ρ2=>
    simp only[z]at k1;refine .inr ⟨g1,λσ' H'=>i+1<=xs.length/\∃p S ρ,aU X.K p S H'/\dF X.K p H' ρ σ'/\fE X.K p H' (xs,G) J/\dY X.K cl p H' (cV G g b1 (xs.drop (i+1)) ρ S) D E,λσ' H' hN=>⟨xs.length-(i+1),by omega,rfl,hN⟩,λx H2 hy=>?_⟩;obtain⟨same,rx⟩:=y1 x H2 hy;have st2:=sm1.same same;have sm2:=sm1.ofSame same;refine⟨p1,S1,ρ1,xs[i],ρ2,sm2,st2.repE ev1,rx,z,λσ3 ev3=>⟨p1,S1,ρ2,sm2,ev3,?_⟩⟩;have it2:=it1.step st2;cases y:b1 ρ2 S1 with
    |nx ρ4 S4=>
     rw[y]at k1;exact λq5 H5 σ5 st5 sm5 ev5=>⟨hlt,q5,S4,ρ4,sm5,ev5,it2.step st5,dY.mono (r:=cV G g b1 (xs.drop (i+1)) ρ4 S4) k1 (st2.trans st5)⟩
    |ct ρ4 S4=>
     rw[y]at k1;exact λq5 H5 σ5 st5 sm5 ev5=>⟨hlt,q5,S4,ρ4,sm5,ev5,it2.step st5,dY.mono (r:=cV G g b1 (xs.drop (i+1)) ρ4 S4) k1 (st2.trans st5)⟩
    |bk ρ4 S4=>rw[y]at k1;exact dY.mono (r:=.nx ρ4 S4) k1 st2
    |rt v S4=>rw[y]at k1;exact dY.mono (r:=.rt v S4) k1 st2
    |exc v S4=>rw[y]at k1;exact dY.mono (r:=.exc v S4) k1 st2
    |fail=>rw[y]at k1;exact k1.elim
  .exact k1.elim
 .have e:i=xs.length:=by omega
  subst e;rw[uh]at k1;unfold cV at k1;split at k1
  .rename_i gk
   exact .inl ⟨(it1.2 p1 H1 S1 sm1.step sm1 gk).2,dY.nxD k1 sm1 ev1⟩
  .exact k1.elim
theorem My(hp:pk (model X.prog X.w) X.A X.env X.xe)(hc:fP K cl E X c mt)(hb:gR K cl E X sts b1):eG K cl E X (.While c sts [] pos) (mF mt b1):=by
 intro hK;subst hK;refine PS.imp (K4 hp (hc rfl) (hb rfl)) ?_
 rintro D σ H ⟨p,S,ρ,s,ev,h⟩
 unfold mF at h;split at h
 .rename_i hh
  refine⟨λn σ H=>∃p S ρ,aU X.K p S H/\dF X.K p H ρ σ/\dY X.K cl p H (dQ mt b1 n ρ S) D E,⟨_,p,S,ρ,s,ev,h⟩,?_⟩
  rintro n σ1 H1 ⟨p1,S1,ρ1,sm1,ev1,k1⟩
  cases n with
  |zero=>exact k1.elim
  |succ n=>
   unfold dQ at k1;refine iJ sm1 ev1 k1 λq H2 t t' S2 cN sm2 ev2 r k2=>?_;cases r;cases t with
   |true=>
    rw[if_pos rfl]at k2⊢;refine⟨λσ' H'=>∃p S ρ,aU X.K p S H'/\dF X.K p H' ρ σ'/\dY X.K cl p H' (dQ mt b1 n ρ S) D E,λσ' H' hN=>⟨n,yc n,hN⟩,q,S2,ρ1,sm2,ev2,?_⟩;cases y:b1 ρ1 S2 with
    |nx ρ4 S4=>
     rw[y]at k2;exact λq5 H5 σ5 st5 sm5 ev5=>⟨q5,S4,ρ4,sm5,ev5,dY.mono (r:=dQ mt b1 n ρ4 S4) k2 st5⟩
    |ct ρ4 S4=>
     rw[y]at k2;exact λq5 H5 σ5 st5 sm5 ev5=>⟨q5,S4,ρ4,sm5,ev5,dY.mono (r:=dQ mt b1 n ρ4 S4) k2 st5⟩
    |bk ρ4 S4=>rw[y]at k2;exact k2
    |rt v S4=>rw[y]at k2;exact k2
    |exc v S4=>rw[y]at k2;exact k2
    |fail=>rw[y]at k2;exact k2.elim
   |false=>
    rw[if_neg ij]at k2⊢;exact dY.nxD k2 sm2 ev2
 .exact h.elim
end
end
def jE(n:Nat)(xs:BH):bW:=xs.map some++rm (n-xs.length) none
def kJ(n:Nat):AV->aG->bP AV
 |.pv v,S=>.ok (.pv v) (S.take n)
 |.ref k,S=>if k<n then .ok (.ref k) (S.take n)else match S[k]? with
  |some (.lst xs)=>.ok (.ref n) (S.take n++[.lst xs])
  |some (.dic b kvs)=>.ok (.ref n) (S.take n++[.dic b kvs])
  |_=>.fail
def frz(n:Nat):bP AV->bP AV
 |.ok (.ref k) S=>if k<n then .ok (.ref k) S else match S[k]? with
  |some (.lst xs)=>.ok (.pv (.lst xs)) (S.take n)
  |_=>.fail
 |r=>r
def nJ(n:Nat):cD->bP AV
 |.rt v S=>kJ n v S
 |.nx _ S=>.ok (.pv .non) (S.take n)
 |.exc e S=>.exc e (S.take n)
 |_=>.fail
def aW(np n:Nat)(b:MS)(xs:BH)(S:aG):bP AV:=if xs.length=np then nJ S.length (b (jE n xs) S)else .fail
def jH{α:Type}:bP α->bP α
 |.ok a S=>.ok a S
 |_=>.fail
abbrev FM:=BH->aG->bP AV
def oY(f:FM)(ds:BE)(ms:MA):ME:=λρ S=>(ms ρ S).bind λxs S1=>frz S1.length (f (xs++ds.map .pv) S1)
def aT(f:FM)(ds:BE)(ms:MA):ME:=λρ S=>(ms ρ S).bind λxs S1=>frz S1.length (jH (f (xs++ds.map .pv) S1))
def qR(f:FM)(ds:BE)(ms:MA):ME:=λρ S=>(ms ρ S).bind λxs S1=>jH (f (xs++ds.map .pv) S1)
def mU(K:ag)(cl:Str->Addr)(f:FM):Sp:=λvs H Q E=>∃p S xs,aU K p S H/\gJ K p H xs vs/\bU K cl (bZ K) p H (f xs S) Q E
def jM(K:ag)(cl:Str->Addr)(f:FM):Sp:=λvs H Q _=>mU K cl f vs H Q E0
section
variable{K:ag}{cl:Str->Addr}{p q:Ph}{H H':Hp}{S S':aG}
theorem Yh{c c':Addr->Prop}(h:∀a,c a->c' a){a:Addr}{vs:List V}(l:kB K c' H a vs):kB K c H a vs:=by
 rcases l with⟨l,n⟩|l |l
 .exact .inl ⟨l,λz=>n (h a z)⟩
 .exact .inr (.inl l)
 .exact .inr (.inr l)
theorem mW{c c':Addr->Prop}(h:∀a,c a->c' a){ps:BE}{vs:List V}(r:aJ K c' H ps vs):aJ K c H ps vs:=aJ.mono (λ_ _ t=>t) (λ_ _ l=>Yh h l) ps vs r
theorem Oi{c c':Addr->Prop}(h:∀a,c a->c' a){v:PV}{x:V}(r:aI K c' H v x):aI K c H v x:=aI.mono (λ_ _ t=>t) (λ_ _ l=>Yh h l) v x r
theorem Zw{f g:List Addr}(h:f <+:g):g.take f.length=f:=by
 obtain⟨t,e⟩:=h;rw[<-e,List.take_left]
theorem nodup_idx{α:Type}:∀{l:List α}{i j:Nat}{a:α},l.Nodup->l[i]?=some a->l[j]?=some a->i=j
 |[],i,j,a,_,e,_=>by simp at e
 |b::l,0,0,a,_,_,_=>rfl
 |b::l,0,j+1,a,n,e,f=>by
  simp at e f;subst e;exact absurd (cy f) (jn.mp n).1
 |b::l,i+1,0,a,n,e,f=>by
  simp at e f;subst f;exact absurd (cy e) (jn.mp n).1
 |b::l,i+1,j+1,a,n,e,f=>by
  exact congrArg (·+1) (nodup_idx (l:=l) (a:=a) (jn.mp n).2 (by simpa using e) (by simpa using f))
theorem aU.cutX(D:Addr->Prop)(s:aU K p S H)(st:bO p H q H')(s':aU K q S' H')(hD:∀b,D b->H b=none)(hq:(∀b,D b->b∈q.f)\/∀k o,S'[k]?=some o->k<S.length->∃xs,o=.lst xs):
  let r:Ph:=⟨p.f,λb=>q.w b/\¬D b,λb=>q.c b/\¬D b⟩
  bO p H r H'/\aU K r (S'.take S.length) H':=by
 intro r;have nD:∀a,p.c a->¬D a:=λa c d=>by
  obtain⟨o,ho,_⟩:=s.mu a c;rw[hD a d]at ho;cases ho
 have le:S.length<=S'.length:=by
  have:=st.pre.length_le;rw[<-s.len,<-s'.len];exact this
 refine⟨⟨s.wc,s.mu,jk,λa h=>⟨st.mw a h,nD a (s.wc a h)⟩,λa h=>⟨st.mono a h,nD a h⟩,λ_ h g=>absurd h g,λa h=>st.nw a h.1,λa h=>st.nc a h.1,st.keep⟩,s.nd,by rw[s.len,jz];omega,λa h=>⟨st.mw a (s.sub a h),nD a (s.wc a (s.sub a h))⟩,λa h=>⟨s'.wc a h.1,h.2⟩,λa h=>s'.mu a h.1,λk a o e1 e2=>?_⟩;have hk:k<S.length:=by
  have:=(ce.mp e1).1;rw[<-s.len];exact this
 have e2':S'[k]?=some o:=by
  rw[ui,if_pos hk]at e2;exact e2
 have z:=s'.obj k a o (st.at_ e1) e2';have bB:∀xs vs,aJ K q.c H' xs vs->aJ K r.c H' xs vs:=λxs vs=>mW (λb h=>h.1);have sub:∀b,b∉q.f->b∉p.f:=λb n h=>n (st.pre.subset h);rcases hq with hq |hq
 .exact z.mono (λ_ e=>e) (λb w f=>⟨⟨⟨w,λd=>f (hq b d)⟩,sub b f⟩,λ_ e=>e⟩) bB
 .obtain⟨xs,rfl⟩:=hq k o e2' hk
  obtain⟨vs,e,l,g⟩:=z;exact⟨vs,e,l,bB xs vs g⟩
theorem aU.cut(s:aU K p S H)(st:bO p H q H')(s':aU K q S' H'):bO p H ⟨p.f,λb=>q.w b/\¬False,λb=>q.c b/\¬False⟩ H'/\aU K ⟨p.f,λb=>q.w b/\¬False,λb=>q.c b/\¬False⟩ (S'.take S.length) H':=
 s.cutX (λ_=>False) st s' (λ_ h=>h.elim) (.inl λ_ h=>h.elim)
theorem Wa(s:aU K p S H)(st:bO p H q H')(sm:aU K q S' H'){k:Nat}{a:Addr}(e:q.f[k]?=some a)(hk:¬k<S.length):a∉p.f/\H a=none/\¬p.c a:=by
 have na:a∉p.f:=λhm=>by
  obtain⟨j,hj,ej⟩:=qq hm;have e2:q.f[j]?=some a:=st.at_ (by rw[av hj,ej]);have hjk:j=k:=nodup_idx sm.nd e2 e;rw[s.len]at hj;omega
 have hn:=st.nf a (cy e) na;refine⟨na,hn,λc=>?_⟩;obtain⟨o,ho,_⟩:=s.mu a c;rw[hn]at ho;cases ho
theorem Xl{r:bP AV}{Q:VK}{E:XK}(s:aU K p S H)(h:bU K cl (bZ K) p H (frz S.length r) Q E):bU K cl (bZ K) p H r Q E:=by
 cases r with
 |exc n S1=>exact h
 |fail=>exact h
 |ok v S1=>
  cases v with
  |pv v=>exact h
  |ref k=>
   have h:bU K cl (bZ K) p H (if k<S.length then .ok (.ref k) S1 else match S1[k]? with
    |some (.lst xs)=>.ok (.pv (.lst xs)) (S1.take S.length)
    |_=>.fail) Q E:=h
   split at h
   .exact h
   .rename_i hk
    cases z:S1[k]? with
    |none=>rw[z]at h;exact h.elim
    |some o=>
     cases o with
     |lol _=>rw[z]at h;exact h.elim
     |dic _ _=>rw[z]at h;exact h.elim
     |dol _ _=>rw[z]at h;exact h.elim
     |lst xs=>
      rw[z]at h;intro q H' x st sm r;obtain⟨a,e,rfl⟩:=r;obtain⟨na,hn,nc⟩:=Wa s st sm e hk;obtain⟨st1,sm1⟩:=s.cutX (λb=>b=a) st sm (λb d=>d▸hn) (.inl λb d=>d▸cy e);obtain⟨vs,h1,l,r⟩:=sm.obj k a _ e z;refine h _ H' (.ref a) st1 sm1 ?_;show aI K (λb=>q.c b/\¬b=a) H' (.lst xs) (.ref a);unfold aI;exact⟨a,vs,rfl,.inl ⟨h1,λd=>d.2 rfl⟩,l,mW (λb h=>h.1) r⟩
theorem Lh{r:cD}{Q:VK}{E:XK}(s:aU K p S H)(h:bU K cl (bZ K) p H (nJ S.length r) Q E):dY K cl p H r {nx:=λ_ H'=>Q .non H',rt:=Q} E:=by
 cases r with
 |nx ρ S1=>
  intro q H' σ st sm ev;obtain⟨st1,sm1⟩:=s.cut st sm;exact h _ H' .non st1 sm1 (by show aI K (λb=>q.c b/\¬False) H' .non .non;unfold aI;rfl)
 |exc n S1=>
  intro q H' st sm;obtain⟨st1,sm1⟩:=s.cut st sm;exact h _ H' st1 sm1
 |rt v S1=>
  intro q H' x st sm r;obtain⟨st1,sm1⟩:=s.cut st sm;cases v with
  |pv v=>exact h _ H' x st1 sm1 (show aI K (λb=>q.c b/\¬False) H' v x from Oi (λb h=>h.1) r)
  |ref k=>
   obtain⟨a,e,rfl⟩:=r;have h:bU K cl (bZ K) p H (if k<S.length then .ok (.ref k) (S1.take S.length)else match S1[k]? with
    |some (.lst xs)=>.ok (.ref S.length) (S1.take S.length++[.lst xs])
    |some (.dic b kvs)=>.ok (.ref S.length) (S1.take S.length++[.dic b kvs])
    |_=>.fail) Q E:=h
   split at h
   .rename_i hk
    refine h _ H' (.ref a) st1 sm1 ⟨a,?_,rfl⟩;show p.f[k]?=some a;have hf:=Zw st.pre;rw[<-hf,ui,if_pos (by rw[s.len];exact hk)];exact e
   .rename_i hk
    have fin:∀o,S1[k]?=some o->bU K cl (bZ K) p H (.ok (.ref S.length) (S1.take S.length++[o])) Q E->Q (.ref a) H':=λo z h=>by
     obtain⟨na,hn,nc⟩:=Wa s st sm e hk;have l1:(S1.take S.length).length=S.length:=by rw[<-sm1.len,<-s.len]
     have ma:a∈q.f:=cy e;refine h ⟨p.f++[a],q.w,q.c⟩ H' (.ref a) ⟨s.wc,s.mu,⟨[a],rfl⟩,st.mw,st.mono,λb hb n=>?_,st.nw,st.nc,st.keep⟩ ⟨?_,?_,λb hb=>?_,sm.wc,sm.mu,λj b o e1 e2=>?_⟩ ⟨a,?_,rfl⟩
     .rcases cq.mp hb with z |z
      .exact absurd z n
      .have:b=a:=by simpa using z
       rw[this];exact hn
     .show(p.f++[a]).Nodup
      rw[nh];refine⟨s.nd,by simp,λb hb c hc z=>?_⟩;have:c=a:=by simpa using hc
      exact na (this▸z▸hb)
     .show(p.f++[a]).length=_
      rw[bh,bh,l1,s.len];rfl
     .rcases cq.mp hb with z |z
      .exact st.mw b (s.sub b z)
      .have:b=a:=by simpa using z
       rw[this];exact sm.sub a ma
     .by_cases hj:j<S.length
      .have e1':p.f[j]?=some b:=by
        have e1:(p.f++[a])[j]?=some b:=e1
        rwa[fj (by rw[s.len];exact hj)]at e1
       rw[fj (by rw[l1];exact hj),ui,if_pos hj]at e2;refine(sm.obj j b o (st.at_ e1') e2).mono (λ_ e=>e) (λc w f=>⟨⟨w,λm=>?_⟩,λ_ e=>e⟩) λ_ _ r=>r;rcases cq.mp m with z |z
       .exact f (st.pre.subset z)
       .have:c=a:=by simpa using z
        exact f (this▸ma)
      .have hj':j=S.length:=by
        have:=(ce.mp e2).1;rw[bh,l1]at this;simp at this;omega
       subst hj';rw[dj (by rw[l1];exact aj _),l1,ia]at e2;have e1:(p.f++[a])[S.length]?=some b:=e1;rw[<-s.len,dj (aj _),ia]at e1;cases e1;cases e2;refine(sm.obj k a _ e z).mono (λ_ e=>e) (λc w f=>⟨⟨w,λm=>?_⟩,λ_ e=>e⟩) λ_ _ r=>r;rcases cq.mp m with z |z
       .exact f (st.pre.subset z)
       .have:c=a:=by simpa using z
        exact f (this▸ma)
     .show(p.f++[a])[S.length]?=some a
      rw[<-s.len,dj (aj _),ia];rfl
    split at h
    .rename_i z
     exact fin _ z h
    .rename_i z
     exact fin _ z h
    .exact h.elim
 |bk ρ S1=>exact h.elim
 |ct ρ S1=>exact h.elim
 |fail=>exact h.elim
theorem zX{N:List Str}{xs:BH}{vs:List V}(r:gJ K p H xs vs):dF K p H (jE N.length xs) (L2.start N vs):=by
 have go:∀{xs:BH}{vs:List V},gJ K p H xs vs->xs.length=vs.length:=λ{xs vs} r=>by
  induction r with
  |nil=>rfl
  |cons _ _ ih=>rw[ca,ca,ih]
 have get:∀{xs:BH}{vs:List V},gJ K p H xs vs->∀(i:Nat)(v:AV),xs[i]?=some v->∃x,vs[i]?=some x/\bZ K p H v x:=λ{xs vs} r=>by
  induction r with
  |nil=>intro i v e;simp at e
  |cons h _ ih=>
   intro i v e;cases i with
   |zero=>
    simp at e;subst e;exact⟨_,rfl,h⟩
   |succ i=>simpa using ih i v (by simpa using e)
 have hl:=go r;refine⟨by unfold jE L2.start;simp[hl],λi v e=>?_⟩;unfold jE at e;unfold L2.start
 by_cases hi:i<xs.length
 .rw[fj (by simpa using hi),ax]at e
  cases z:xs[i]? with
  |none=>rw[z]at e;cases e
  |some u=>
   rw[z]at e;cases e;obtain⟨x,e1,e2⟩:=get r i v z;refine⟨x,?_,e2⟩;rw[fj (by rw[ao,<-hl];exact hi),ax,e1];rfl
 .rw[dj (by rw[ao];omega),a5]at e
  split at e
  .cases e
  .cases e
end
section
variable{P:Program}{w:am}{K:ag}{mg:Str->BB}{base:Heap}{cl:Str->Addr}
theorem Zj{K:ag}{p:Ph}{H:Hp}{xs:BH}{vs:List V}(h:gJ K p H xs vs):xs.length=vs.length:=by
 induction h with
 |nil=>rfl
 |cons _ _ ih=>rw[ca,ca,ih]
theorem Lq{np n:Nat}{b:MS}{vs:List V}{H:Hp}{Q:VK}{E:XK}(h:mU K cl (aW np n b) vs H Q E):vs.length=np:=by
 obtain⟨p,S,xs,sm,ra,h⟩:=h;unfold aW at h;split at h
 .rename_i e
  rw[<-Zj ra,e]
 .exact h.elim
theorem Mu{x qual:Str}{st:Stmt}{f:Addr}{fd:ck}{N ps:List Str}{k np n:Nat}{b:MS}(F:kC K x qual st f fd)(S:jV N ps (cU st))(hnp:ps.length=np)(hn:N.length=n)
  (hb:∀(cdv:Value)(A:aq)(outer:List bo)(s:aa)(H:Hp)(E:XK),dS k (A.deeper (envOfC qual (cU st) s.heap.objs.size f cdv))->gR K cl E0 (fT fI P w K mg base N qual (cU st) f cdv A outer s H E).nox (eV st) b):
  eO P w K mg base fI (k+1) f fd ps (jM K cl (aW np n b)):=by
 subst hnp hn;refine F.ok S (λvs H Q E h=>Lq h) λcdv A outer s H vs Q E hr h=>⟨_,hb cdv A outer s H E hr rfl,?_⟩;obtain⟨p,S,xs,sm,ra,h⟩:=h;unfold aW at h;split at h
 .exact⟨p,S,_,sm,zX ra,Lh sm h⟩
 .exact h.elim
theorem adD{x qual:Str}{st:Stmt}{f:Addr}{fd:ck}{ds:Array Value}{N ps:List Str}{k np n:Nat}{b:MS}(F:nT K x qual st f fd ds)(S:jV N ps (cU st))(hnp:ps.length=np)(hn:N.length=n)
  (hb:∀(cdv:Value)(A:aq)(outer:List bo)(s:aa)(H:Hp)(E:XK),dS k (A.deeper (envOfC qual (cU st) s.heap.objs.size f cdv))->gR K cl E (fT (jS P w) P w K mg base N qual (cU st) f cdv A outer s H E) (eV st) b):
  eO P w K mg base (jS P w) (k+1) f fd ps (mU K cl (aW np n b)):=by
 subst hnp hn;refine F.okX S (λvs H Q E h=>Lq h) λcdv A outer s H vs Q E hr h=>⟨_,hb cdv A outer s H E hr rfl,?_⟩;obtain⟨p,S,xs,sm,ra,h⟩:=h;unfold aW at h;split at h
 .exact⟨p,S,_,sm,zX ra,Lh sm h⟩
 .exact h.elim
theorem x0{f:Addr}{fd:ck}{ps:List Str}{k:Nat}{g:FM}(F:eO P w K mg base (jS P w) k f fd ps (mU K cl g)):eO P w K mg base fI k f fd ps (jM K cl g):=
 ⟨λvs H Q E h=>F.len vs H Q E0 h,λA outer s H args us vs Q E hr e0 hb hv h=>qg (F.run A outer s H args us vs Q E0 hr e0 hb hv h) λr s' hq=>by
  cases r with
  |error e=>
   obtain⟨_,_,_,_,_,_,_,_,_,_,_,_,z⟩:=hq;exact z
  |ok fl=>
   cases fl with
   |ret u=>exact hq
   |next=>exact hq
   |brk=>exact hq
   |cont=>exact hq⟩
end
section
variable{K:ag}{cl:Str->Addr}{E:XK}{X:Cx}{e:ah}{es:List ah}{ms:MA}{pos p:ai}{k n:Nat}{f:Addr}{fd:ck}{ps:List Str}{g:FM}{x:Str}{dvs:List V}{ds:BA}{dv:BE}
theorem zD{p:Ph}{H:Hp}{xs ys:BH}{vs ws:List V}(h:gJ K p H xs vs)(g:gJ K p H ys ws):gJ K p H (xs++ys) (vs++ws):=by
 induction h with
 |nil=>exact g
 |cons h _ ih=>exact .cons h ih
def Dv(dv:BE)(dvs:List V):Prop:=∀K p H,gJ K p H (dv.map .pv) dvs
theorem Dv.nil:Dv [] []:=λ_ _ _=>.nil
theorem S5(F:eO X.prog X.w X.K X.mg X.base fI k f fd ps (jM K cl g))(hr:dS k X.A)(hg:Gl X x)(hm:X.mg x=some (.ref f))(hk:ie X.K (.ref f)=true)(hb:jI X.K fd ps ds)(hd:bA dvs ds)(hv:Dv dv dvs)
  (ha:eN K cl E0 X (e::es) ms)(hdb:(x==("__debug__":Str))=false:=by decide)(he:starEach (e::es) X.env=(false,eval e X.env)::starEach es X.env:=by rfl)(hpl:(backTo pos (starEach es X.env)).any (·.1)=false:=by rfl):
  aS K cl E0 X (.Call (.Name x p) (e::es) [] pos) (oY g dv ms):=by
 intro hK;refine PE.imp (sG F hr hg hm hk hb hd tO (ha hK) hdb he hpl) ?_
 rintro σ H Q ⟨p,S,ρ,s,ev,h⟩
 exact bY s ev h λq H' as xs S' cN sm ev r k=>⟨q,S',_,sm,zD r (hv K q H'),Xl sm k⟩
theorem Hi{α β:Type}{R:Ph->Hp->α->β->Prop}{p:Ph}{H:Hp}{r:bP α}{Q:β->Hp->Prop}(h:bU K cl R p H (jH r) Q E):bU K cl R p H r Q E0:=by
 cases r with
 |ok a S=>exact h
 |exc n S=>exact h.elim
 |fail=>exact h.elim
theorem M7(F:eO X.prog X.w X.K X.mg X.base fI k f fd ps (jM K cl g))(hr:dS k X.A)(hg:Gl X x)(hm:X.mg x=some (.ref f))(hk:ie X.K (.ref f)=true)(hb:jI X.K fd ps ds)(hd:bA dvs ds)(hv:Dv dv dvs)
  (ha:eN K cl E X (e::es) ms)(hdb:(x==("__debug__":Str))=false:=by decide)(he:starEach (e::es) X.env=(false,eval e X.env)::starEach es X.env:=by rfl)(hpl:(backTo pos (starEach es X.env)).any (·.1)=false:=by rfl):
  aS K cl E X (.Call (.Name x p) (e::es) [] pos) (aT g dv ms):=by
 intro hK;refine PE.imp (sG F hr hg hm hk hb hd tO (ha hK) hdb he hpl) ?_
 rintro σ H Q ⟨p,S,ρ,s,ev,h⟩
 exact bY s ev h λq H' as xs S' cN sm ev r k=>⟨q,S',_,sm,zD r (hv K q H'),Hi (Xl sm k)⟩
theorem F9(F:eO X.prog X.w X.K X.mg X.base fI k f fd ps (jM K cl g))(hr:dS k X.A)(hg:Gl X x)(hm:X.mg x=some (.ref f))(hk:ie X.K (.ref f)=true)(hb:jI X.K fd ps ds)(hd:bA dvs ds)(hv:Dv dv dvs)
  (ha:eN K cl E X (e::es) ms)(hdb:(x==("__debug__":Str))=false:=by decide)(he:starEach (e::es) X.env=(false,eval e X.env)::starEach es X.env:=by rfl)(hpl:(backTo pos (starEach es X.env)).any (·.1)=false:=by rfl):
  aS K cl E X (.Call (.Name x p) (e::es) [] pos) (qR g dv ms):=by
 intro hK;refine PE.imp (sG F hr hg hm hk hb hd tO (ha hK) hdb he hpl) ?_
 rintro σ H Q ⟨p,S,ρ,s,ev,h⟩
 exact bY s ev h λq H' as xs S' cN sm ev r k=>⟨q,S',_,sm,zD r (hv K q H'),Hi k⟩
def Ld(n:Str):MS:=λ_ S=>.exc n S
theorem Gz{P:Program}{w:am}{mg:Str->BB}{base:Heap}{N:List Str}{qual:Str}{scope:Scope}{f:Addr}{cd:Value}{A:aq}{outer:List bo}{BJ:aa}{BK:Hp}
  {txt:Str}{j:Nat}{np p1 cpos:ai}(hg:Gl (fT (jS P w) P w K mg base N qual scope f cd A outer BJ BK E) x)(hm:mg x=some (.ref (cl x)))(hx:my K (cl x) sT "ValueError.__new__"=true)
  (hd:(x==("__debug__":Str))=false:=by decide):
  eG K cl E (fT (jS P w) P w K mg base N qual scope f cd A outer BJ BK E) (.Raise (some (.Call (.Name x np) [.Constant (.str txt) j p1] [] cpos)) none pos) (Ld x):=
 λ_=>PS.imp (B6 hg hm hx hd) λD σ H ⟨p,S,ρ,s,ev,h⟩=>h p H s.step s
end
def cY(own:List Str)(cap:List (Nat×Str))(ρ:bW):bW:=own.map (λ_=>none)++cap.map λp=>(ρ[p.1]?).join
open Classical in
noncomputable def cO(G:Gd)(g:GM)(me:ME):BE->bW->aG->bP BE
 |[],_,S=>if iC G S then .ok [] S else .fail
 |x::r,ρ,S=>if iC G S then(match g x ρ with
  |none=>.fail
  |some ρ1=>match me ρ1 S with
   |.ok (.pv y) S1=>match cO G g me r ρ1 S1 with
    |.ok ys S2=>.ok (y::ys) S2
    |_=>.fail
   |_=>.fail)else .fail
theorem fA{g:GM}{me:ME}{ρ:bW}{S:aG}:cO [] g me [] ρ S=.ok [] S:=by
 unfold cO;rw[if_pos (nB S)]
theorem fL{g:GM}{me:ME}{x:PV}{r:BE}{ρ:bW}{S:aG}:cO [] g me (x::r) ρ S=(match g x ρ with
  |none=>.fail
  |some ρ1=>match me ρ1 S with
   |.ok (.pv y) S1=>match cO [] g me r ρ1 S1 with
    |.ok ys S2=>.ok (y::ys) S2
    |_=>.fail
   |_=>.fail):=by
 rw[cO,if_pos (nB S)]
noncomputable def bT(own:List Str)(cap:List (Nat×Str))(mi:MI)(g:GM)(me:ME):ME:=λρ S=>(mi ρ S).bind λxs S1=>(cO xs.2 g me xs.1 (cY own cap ρ) S1).bind λys S2=>.ok (.pv (.lst ys)) S2
theorem Tw{G:Gd}{g:GM}{me:ME}:∀(xs:BE)(ρ:bW)(S:aG)(n:Str)(S':aG),cO G g me xs ρ S≠.exc n S'
 |[],_,_,_,_,e=>by
  unfold cO at e;split at e<;>cases e
 |x::r,ρ,S,n,S',e=>by
  unfold cO at e;split at e
  .split at e
   .cases e
   .split at e
    .split at e
     .cases e
     .cases e
    .cases e
  .cases e
theorem Am{G:Gd}{g:GM}{me:ME}{xs zs:BE}{ρ:bW}{S S':aG}(e:cO G g me xs ρ S=.ok zs S'):iC G S:=by
 cases xs with
 |nil=>
  unfold cO at e;split at e
  .assumption
  .cases e
 |cons x r=>
  unfold cO at e;split at e
  .assumption
  .cases e
section
variable{K:ag}{cl:Str->Addr}{E:XK}{X:Cx}{p q:Ph}{H H':Hp}{S:aG}
theorem Mm{ρ:bW}{σ:St}{own:List Str}{cap:List (Nat×Str)}(h:dF K p H ρ σ):dF K p H (cY own cap ρ) (iP own cap σ):=by
 refine⟨by unfold cY iP;simp,λi v e=>?_⟩;unfold cY at e;unfold iP
 by_cases hi:i<own.length
 .rw[fj (by simpa using hi),ax,av hi]at e
  cases e
 .rw[dj (by rw[ao];omega),ax,ao]at e⊢
  cases z:cap[i-own.length]? with
  |none=>rw[z]at e;cases e
  |some c=>
   rw[z]at e;have e:(ρ[c.1]?).join=some v:=ci e;have e':ρ[c.1]?=some (some v):=by
    cases y:ρ[c.1]? with
    |none=>rw[y]at e;cases e
    |some o=>rw[y]at e;exact congrArg some e
   obtain⟨x,e1,e2⟩:=h.at_ c.1 v e';refine⟨x,?_,e2⟩;show some ((σ[c.1]?).join)=some (some x);rw[e1];rfl
def Ph.res(p:Ph)(D:Addr):Ph:=⟨p.f,λa=>p.w a\/a=D,λa=>p.c a\/a=D⟩
def Ph.hold(p:Ph)(D:Addr):Ph:=⟨p.f,λa=>p.w a/\a≠D,p.c⟩
def Ph.less(p:Ph)(D:Addr):Ph:=⟨p.f,λa=>p.w a/\a≠D,λa=>p.c a/\a≠D⟩
theorem aU.notin(s:aU K p S H){D:Addr}(h:H D=none):¬p.c D:=λc=>by
 obtain⟨o,e,_⟩:=s.mu D c;rw[h]at e;cases e
theorem aU.res(s:aU K p S H){D:Addr}{o:HO}(h:H D=none)(mo:Mb o):bO p H (p.res D) (aL H D o)/\aU K (p.res D) S (aL H D o):=by
 have st:bO p H (p.res D) (aL H D o):=⟨s.wc,s.mu,jk,λa h=>.inl h,λa h=>.inl h,λa h g=>absurd h g,λa x n=>x.elim (λz=>absurd z n) (λz=>by rw[z];exact h),λa x n=>x.elim (λz=>absurd z n) (λz=>by rw[z];exact h),λa u e _=>by
  rw[bK (gF e h)];exact e⟩
 refine⟨st,s.nd,s.len,λa h=>.inl (s.sub a h),λa x=>x.elim (λz=>.inl (s.wc a z)) .inr,λa x=>?_,λk a u e1 e2=>?_⟩
 .by_cases z:a=D
  .rw[z,dW]
   exact⟨o,rfl,mo⟩
  .rw[bK z]
   exact s.mu a (x.elim id λy=>absurd y z)
 .exact(s.obj k a u e1 e2).mono (λvs e=>by rw[bK (gF e h)];exact e) (λb w f=>⟨⟨.inl w,f⟩,λvs e=>by rw[bK (gF e h)];exact e⟩) λ_ _ r=>st.reps r
theorem aU.resHold(s:aU K p S H){D:Addr}{o:HO}(h:H D=none)(mo:Mb o):aU K ((p.res D).hold D) S (aL H D o):=by
 obtain⟨st,sm⟩:=s.res (o:=o) h mo;have ne:∀a,p.w a->a≠D:=λa w z=>s.notin h (z▸s.wc a w);refine⟨sm.nd,sm.len,λa m=>⟨sm.sub a m,ne a (s.sub a m)⟩,λa x=>sm.wc a x.1,sm.mu,λk a u e1 e2=>?_⟩;exact(s.obj k a u e1 e2).mono (λvs e=>by rw[bK (gF e h)];exact e) (λb w f=>⟨⟨⟨.inl w,ne b w⟩,f⟩,λvs e=>by rw[bK (gF e h)];exact e⟩) λ_ _ r=>st.reps r
theorem bO.unhold{D:Addr}(h:p.w D)(st:bO (p.hold D) H q H')(s:aU K p S H):bO p H ⟨q.f,λa=>q.w a\/a=D,q.c⟩ H':=
 ⟨s.wc,s.mu,st.pre,λa x=>by
  by_cases z:a=D
  .exact .inr z
  .exact .inl (st.mw a ⟨x,z⟩),st.mono,st.nf,λa x n=>by
  rcases x with x |x
  .exact st.nw a x λz=>n z.1
  .exact absurd (x▸h) n,st.nc,λa o e n=>st.keep a o e λz=>n z.1⟩
theorem aU.grow{D:Addr}{ys:List V}{o:HO}(s:aU K p S H)(sh:aU K (p.hold D) S H)(w:p.w D)(n:D∉p.f)(mo:Mb o):bO p H p (aL H D o)/\aU K p S (aL H D o)/\aU K (p.hold D) S (aL H D o):=by
 have st:bO p H p (aL H D o):=⟨s.wc,s.mu,jk,λ_ h=>h,λ_ h=>h,λ_ h g=>absurd h g,λ_ h g=>absurd h g,λ_ h g=>absurd h g,λa u e nw=>by
  rw[bK (λz:a=D=>nw (by rw[z];exact w))];exact e⟩
 have hm:∀a,p.c a->∃u,aL H D o a=some u/\Mb u:=λa x=>by
  by_cases z:a=D
  .rw[z,dW]
   exact⟨o,rfl,mo⟩
  .rw[bK z]
   exact s.mu a x
 refine⟨st,⟨s.nd,s.len,s.sub,s.wc,hm,λk a u e1 e2=>?_⟩,⟨sh.nd,sh.len,sh.sub,sh.wc,hm,λk a u e1 e2=>?_⟩⟩
 .have ne:a≠D:=λz=>n (z▸cy e1)
  exact(sh.obj k a u e1 e2).mono (λvs e=>by rw[bK ne];exact e) (λb w f=>⟨⟨w.1,f⟩,λvs e=>by rw[bK w.2];exact e⟩) λ_ _ r=>st.reps r
 .have ne:a≠D:=λz=>n (z▸cy e1)
  exact(sh.obj k a u e1 e2).mono (λvs e=>by rw[bK ne];exact e) (λb w f=>⟨⟨w,f⟩,λvs e=>by rw[bK w.2];exact e⟩) λ_ _ r=>st.reps r
theorem aU.toLess{D:Addr}(s:aU K (p.hold D) S H):aU K (p.less D) S H:=
 ⟨s.nd,s.len,s.sub,λa h=>⟨s.wc a h,h.2⟩,λa h=>s.mu a h.1,λk a o e1 e2=>
  (s.obj k a o e1 e2).mono (λ_ e=>e) (λb w f=>⟨⟨w,f⟩,λ_ e=>e⟩) λ_ _ r=>mW (λa h=>h.1) r⟩
theorem bO.toLess{D:Addr}(st:bO p H q H')(h:H D=none):bO p H (q.less D) H':=by
 have nD:∀a,p.c a->a≠D:=λa c z=>by
  obtain⟨o,e,_⟩:=st.mu a c;rw[z,h]at e;cases e
 exact⟨st.wc,st.mu,st.pre,λa x=>⟨st.mw a x,nD a (st.wc a x)⟩,λa x=>⟨st.mono a x,nD a x⟩,st.nf,λa x=>st.nw a x.1,λa x=>st.nc a x.1,st.keep⟩
variable{sc:Scope}{own:List Str}{cap:List (Nat×Str)}{elt target iter:ah}{pos:ai}{mi:MI}{g:GM}{me:ME}
theorem Uz{σ:St}{ρ:bW}{xs zs:BE}{G:Gd}{J:It}{Q:VK}{D:Addr}{S2:aG}(sm:aU K p S H)(ev:dF K p H ρ σ)(it:fE K p H (xs,G) J)(z:cO G g me xs (cY own cap ρ) S=.ok zs S2)(hD:H D=none)
  (k:∀q H' vs,bO p H q H'->aU K q S2 H'->aU K (q.hold D) S2 H'->q.w D->D∉q.f->H' D=some (.lst vs)->vs.length<=sizeLine->aJ K q.c H' zs vs->Q (.ref D) H'):
  xV J (gP K g) (tP K cl E0 (bZ K) me) (iP own cap σ) H D Q:=by
 obtain⟨st0,sm0⟩:=sm.res (D:=D) (o:=.lst []) hD trivial;have sh0:=sm.resHold (D:=D) (o:=.lst []) hD trivial;have nf0:D∉p.f:=λh=>sm.notin hD (sm.wc D (sm.sub D h));refine Z8 xs.length it.1 (λi σ1 H1 ys=>ys.length=i/\i<=xs.length/\H1 D=some (.lst ys)/\∃p1 S1 ρ1 us ws,(aU K p1 S1 H1/\aU K (p1.hold D) S1 H1)/\bO p H p1 H1/\p1.w D/\D∉p1.f/\dF K p1 H1 ρ1 σ1/\fE K p1 H1 (xs,G) J/\iC G S1/\aJ K p1.c H1 us ys/\zs=us++ws/\cO G g me (xs.drop i) ρ1 S1=.ok ws S2) ?_ ?_ ?_ ?_ ?_
 .refine⟨rfl,de _,dW,p.res D,S,cY own cap ρ,[],zs,⟨sm0,sh0⟩,st0,.inr rfl,nf0,Mm (st0.repE ev),it.step st0,?_,.nil,rfl,by simpa using z⟩
  exact Am z
 .rintro i σ1 H1 ys ⟨h1,_,h2,_⟩
  exact⟨h1,h2⟩
 .rintro i σ1 H1 ys hi ⟨_,_,_,p1,S1,ρ1,us,ws,⟨sm1,sh1⟩,st1,w1,f1,ev1,it1,g1,_⟩
  exact((it1.2 p1 H1 S1 sm1.step sm1 g1).1 i xs[i] (av hi)).1
 .rintro i σ1 H1 ys x H2 hi ⟨hl,_,hH,p1,S1,ρ1,us,ws,⟨sm1,sh1⟩,st1,w1,f1,ev1,it1,g1,r1,e1,c1⟩ hy
  obtain⟨same,rx⟩:=((it1.2 p1 H1 S1 sm1.step sm1 g1).1 i xs[i] (av hi)).2 x H2 hy;rw[qp hi]at c1;unfold cO at c1;rw[if_pos g1]at c1;split at c1
  .cases c1
  .rename_i ρ2 gz
   split at c1
   .rename_i y S3 mz
    split at c1
    .rename_i vs S4 cz
     cases c1;have st2:=sm1.same same;have sm2:=sm1.ofSame same;have smh:=sh1.ofSame same;have stS:bO p H p1 H2:=st1.trans st2;refine⟨p1,S1,ρ1,xs[i],ρ2,sm2,st2.repE ev1,rx,gz,λσ3 ev3=>⟨p1.hold D,S1,ρ2,smh,⟨ev3.len,ev3.at_⟩,?_⟩⟩;rw[mz];intro q H4 y' st4 sm4 ry;have hD2:H2 D=some (.lst ys):=same _ _ hH;have hD4:H4 D=some (.lst ys):=st4.keep D _ hD2 λz=>z.2 rfl;have fq:D∉q.f:=λh=>by
      have:=st4.nf D h f1;rw[hD2]at this;cases this
     have stU:=bO.unhold w1 st4 sm2;have nq:¬q.w D:=λz=>by
      have:=st4.nw D z λy=>y.2 rfl;rw[hD2]at this;cases this
     have smU:aU K ⟨q.f,λa=>q.w a\/a=D,q.c⟩ S3 H4:=⟨sm4.nd,sm4.len,λa h=>.inl (sm4.sub a h),λa h=>h.elim (sm4.wc a) λz=>z▸st4.mono D (sm2.wc D w1),sm4.mu,λk a o e1 e2=>
      (sm4.obj k a o e1 e2).mono (λ_ e=>e) (λb w f=>⟨⟨.inl w,f⟩,λ_ e=>e⟩) λ_ _ r=>r⟩
     have shU:aU K (Ph.hold ⟨q.f,λa=>q.w a\/a=D,q.c⟩ D) S3 H4:=⟨sm4.nd,sm4.len,λa h=>⟨.inl (sm4.sub a h),λz=>nq (z▸sm4.sub a h)⟩,λa h=>smU.wc a h.1,sm4.mu,λk a o e1 e2=>
      (sm4.obj k a o e1 e2).mono (λ_ e=>e) (λb w f=>⟨⟨⟨.inl w,λz=>nq (z▸w)⟩,f⟩,λ_ e=>e⟩) λ_ _ r=>r⟩
     obtain⟨stG,smG,shG⟩:=smU.grow (ys:=ys) (D:=D) (o:=.lst (ys++[y'])) shU (.inr rfl) fq trivial;have stA:=st2.trans (stU.trans stG);refine acB hi hD4 ⟨by rw[bh,hl];rfl,hi,dW,_,S3,ρ2,us++[y],vs,⟨smG,shG⟩,st1.trans stA,.inr rfl,fq,stG.repE (stU.repE ev3),it1.step stA,Am cz,?_,by rw[e1,jx];rfl,cz⟩;exact(stA.reps r1).append (.cons (stG.rep ry) .nil)
    .cases c1
   .cases c1
 .rintro σ1 H1 ys ⟨hl,_,hH,p1,S1,ρ1,us,ws,⟨sm1,sh1⟩,st1,w1,f1,ev1,it1,g1,r1,e1,c1⟩
  rw[uh]at c1;unfold cO at c1;rw[if_pos g1]at c1;cases c1;refine⟨(it1.2 p1 H1 _ sm1.step sm1 g1).2,?_⟩;rw[mf]at e1;subst e1;exact k p1 H1 ys st1 sm1 sh1 w1 f1 hH (by rw[hl];exact it.1) r1
theorem Ua{σ:St}{ρ:bW}{xs:BE×Gd}{J:It}{Q:VK}{D:Addr}(sm:aU K p S H)(ev:dF K p H ρ σ)(it:fE K p H xs J)(k:bU K cl (bZ K) p H ((cO xs.2 g me xs.1 (cY own cap ρ) S).bind λys S2=>.ok (.pv (.lst ys)) S2) Q E)(hD:H D=none):
  xV J (gP K g) (tP K cl E0 (bZ K) me) (iP own cap σ) H D Q:=by
 cases z:cO xs.2 g me xs.1 (cY own cap ρ) S with
 |fail=>rw[z]at k;exact k.elim
 |exc n S'=>exact absurd z (Tw _ _ _ _ _)
 |ok zs S2=>
  rw[z]at k;have k:∀q H' x,bO p H q H'->aU K q S2 H'->aI K q.c H' (.lst zs) x->Q x H':=k;refine Uz sm ev it z hD λq H' vs st1 sm1 sh1 w1 f1 hH l1 r1=>?_;refine k (q.less D) H' (.ref D) (st1.toLess hD) sh1.toLess ?_;unfold aI;exact⟨D,vs,rfl,.inl ⟨hH,λz=>z.2 rfl⟩,l1,mW (λa h=>h.1) r1⟩
theorem R0(k:hV X sc own cap)(hi:PIp K cl E X target iter mi)(hc:X.calm=true)(hg:∀C BJ BK ex,kY K (eD X sc (cF own cap) C BJ BK ex) target g)(he:∀C BJ BK ex,aS K cl E0 (eD X sc (cF own cap) C BJ BK ex) elt me)
  (hs:∀x,foldedSetIterable iter X.env x=pure x:=by intro _;rfl):aS K cl E X (.ListComp elt [⟨target,iter,[],0⟩] sc pos) (bT own cap mi g me):=by
 intro hK;refine PE.imp (aaz k (hi hK) hc (λC BJ BK ex=>hg C BJ BK ex hK) (λC BJ BK ex=>he C BJ BK ex hK) hs) ?_
 rintro σ H Q ⟨p,S,ρ,s,ev,h⟩
 exact bY s ev h λq H' xs J S' cN sm ev it kk D hD=>Ua sm ev it kk hD
theorem E2{i:Nat}{x:Str}{py spos:ai}(hN:X.N.Nodup)(hx:X.N[i]?=some x)(hl:kS X.env.scope x)(k:hV X sc own cap)(hi:PIp K cl E X target iter mi)(hc:X.calm=true)(hg:∀C BJ BK ex,kY K (eD X sc (cF own cap) C BJ BK ex) target g)(he:∀C BJ BK ex,aS K cl E0 (eD X sc (cF own cap) C BJ BK ex) elt me)
  (hs:∀x,foldedSetIterable iter X.env x=pure x:=by intro _;rfl)(hsw:swapsWith (.ListComp elt [⟨target,iter,[],0⟩] sc pos) (some (.Name x py)) spos.line X.env=pure true:=by rfl)
  (hf:X.fn x=true\/X.env.scope.names.lookup x=some .local:=by first |exact .inl rfl |exact .inr rfl |assumption):
  eG K cl E X (.Assign [.Name x py] (.ListComp elt [⟨target,iter,[],0⟩] sc pos) spos) (aZ i (bT own cap mi g me)):=by
 intro hK;refine PS.imp (X4 hN hx hl k (hi hK) hc (λC BJ BK ex=>hg C BJ BK ex hK) (λC BJ BK ex=>he C BJ BK ex hK) hs hsw hf) ?_
 rintro D σ H ⟨p,S,ρ,s,ev,h⟩
 have h2:tP K cl E (bZ K) (bT own cap mi g me) σ H λy H1=>D.nx (σ.set i (some y)) H1:=by
  refine⟨p,S,ρ,s,ev,?_⟩;unfold aZ at h;cases z:bT own cap mi g me ρ S with
  |ok v S1=>
   rw[z]at h;exact λq H' y st sm r=>h q H' _ st sm ((st.repE ev).set r i)
  |exc n S1=>rw[z]at h;exact h
  |fail=>rw[z]at h;exact h
 obtain⟨p,S,ρ,s,ev,h⟩:=h2;exact bY s ev h λq H' xs J S' cN sm ev it kk B hB=>Ua sm ev it kk hB
end
def kI:List (Option Bool)->Option (List Bool)
 |[]=>some []
 |some b::r=>match kI r with
  |some bs=>some (b::bs)
  |none=>none
 |none::_=>none
theorem Mh:∀{l:List (Option Bool)}{bs:List Bool},kI l=some bs->bs.length=l.length
 |[],_,e=>by cases e;rfl
 |some b::r,bs,e=>by
  unfold kI at e;split at e
  .rename_i cs h
   cases e;rw[ca,ca,Mh h]
  .cases e
 |none::r,_,e=>by cases e
theorem zT:∀{l:List (Option Bool)}{bs:List Bool}{i:Nat}{o:Option Bool},kI l=some bs->l[i]?=some o->∃b,o=some b/\bs[i]?=some b
 |[],_,i,o,_,h=>by simp at h
 |some b::r,bs,i,o,e,h=>by
  unfold kI at e;split at e
  .rename_i cs h'
   cases e;cases i with
   |zero=>
    simp at h;exact⟨b,h.symm,rfl⟩
   |succ i=>simpa using zT h' (by simpa using h)
  .cases e
 |none::r,_,_,_,e,_=>by cases e
def aM:Nat->PV->PV->Option Bool
 |_,.non,.non=>some true
 |_,.bl a,.bl b=>some (a==b)
 |_,.int a,.int b=>some (a==b)
 |_,.str a,.str b=>some (a==b)
 |n+1,.tup xs,.tup ys=>match kI (cu (aM n) xs ys)with
  |some bs=>some (bs.all id&&xs.length==ys.length)
  |none=>none
 |n+1,.lst xs,.lst ys=>if xs.length=ys.length then(match kI (cu (aM n) xs ys)with
  |some bs=>some (bs.all id)
  |none=>none)else some false
 |_,_,_=>none
theorem vE(bs:List Bool):((bj bs.length).all λj=>bs.getD j true)=bs.all id:=by
 rw[xo,ke,ke];constructor
 .intro h b hb
  obtain⟨j,hj,e⟩:=qq hb;have:=h j (by simpa using hj);simpa[cf,hj,e]using this
 .intro h j hj
  have hj:j<bs.length:=by simpa using hj
  have:=h bs[j] (iz hj);simpa[cf,hj]using this
section
variable{X:Cx}{BI:List (Addr×Obj)}{σ:St}{H:Hp}{s:aa}{c:Addr->Prop}
theorem vQ{n:Nat}{xs ys:BE}{vs ws:List V}{its jts:BA}{bs:List Bool}{A:aq}
  (ih:∀(v w:PV)(x y:V)(u u':Value)(b:Bool),aI X.K c H v x->aI X.K c H w y->bQ x u->bQ y u'->aM n v w=some b->jo A s u u' b)
  (r1:aJ X.K c H xs vs)(r2:aJ X.K c H ys ws)(q1:bA vs its)(q2:bA ws jts)(e:kI (cu (aM n) xs ys)=some bs):
  ∀j(h1:j<its.toArray.size)(h2:j<jts.toArray.size),jo A s its.toArray[j] jts.toArray[j] (bs.getD j true):=λj h1 h2=>by
 have l1:=r1.length.trans q1.length;have l2:=r2.length.trans q2.length;have g1:j<xs.length:=by rw[l1];simpa using h1
 have g2:j<ys.length:=by rw[l2];simpa using h2
 obtain⟨x,ex,rx⟩:=r1.get (av g1);obtain⟨y,ey,ry⟩:=r2.get (av g2);obtain⟨u,eu,ru⟩:=q1.get ex;obtain⟨u',eu',ru'⟩:=q2.get ey;have hz:(cu (aM n) xs ys)[j]?=some (aM n xs[j] ys[j]):=by
  rw[o6,av g1,av g2]
 obtain⟨b,eb,eb'⟩:=zT e hz;have e1:its.toArray[j]=u:=by
  rw[o7];rw[av (by simpa using h1)]at eu;exact ci eu
 have e2:jts.toArray[j]=u':=by
  rw[o7];rw[av (by simpa using h2)]at eu';exact ci eu'
 rw[e1,e2];have e3:bs.getD j true=b:=by simp[cf,eb']
 rw[e3];exact ih _ _ _ _ _ _ _ rx ry ru ru' eb
theorem sI{n:Nat}{xs ys:BE}{bs:List Bool}(e:kI (cu (aM n) xs ys)=some bs):bs.length=min xs.length ys.length:=by
 rw[Mh e,kh]
theorem Vj(n:Nat)(v w:PV)(x:V)(b:Bool)(nt:∀xs,v≠.tup xs)(nl:∀xs,v≠.lst xs)(h:aI X.K c H v x)(g:aI X.K c H w x)(e:aM n v w=some b):b=true:=by
 cases v with
 |tup xs=>exact absurd rfl (nt xs)
 |lst xs=>exact absurd rfl (nl xs)
 |non=>
  cases w<;>first |(unfold aM at e;simp at e;done) |skip
  unfold aM at e;cases e;rfl
 |bl i=>
  cases w<;>first |(unfold aM at e;simp at e;done) |skip
  unfold aI at h g;subst h;injection g with g';subst g';unfold aM at e;cases e;exact beq_self_eq_true _
 |int i=>
  cases w<;>first |(unfold aM at e;simp at e;done) |skip
  unfold aI at h g;subst h;injection g with g';subst g';unfold aM at e;cases e;exact beq_self_eq_true _
 |str i=>
  cases w<;>first |(unfold aM at e;simp at e;done) |skip
  unfold aI at h g;subst h;injection g with g';subst g';unfold aM at e;cases e;exact beq_self_eq_true _
theorem Rm(I:aF X BI σ H s):∀(n:Nat)(v w:PV)(x:V)(b:Bool),aI X.K c H v x->aI X.K c H w x->aM n v w=some b->b=true:=by
 intro n
 induction n with
 |zero=>
  intro v w x b h g e;cases v with
  |tup xs=>unfold aM at e;simp at e
  |lst xs=>unfold aM at e;simp at e
  |_=>exact Vj 0 _ w x b (by intro _ z;cases z) (by intro _ z;cases z) h g e
 |succ n ih=>
  have items:∀(xs ys:BE)(vs:List V)(bs:List Bool),aJ X.K c H xs vs->aJ X.K c H ys vs->kI (cu (aM n) xs ys)=some bs->bs.all id=true/\xs.length=ys.length:=λxs ys vs bs r1 r2 e=>by
   have ll:=r1.length.trans r2.length.symm;refine⟨?_,ll⟩;rw[ke];intro b hb;obtain⟨j,hj,ej⟩:=qq hb;have hj':=hj;rw[sI e]at hj';have g1:j<xs.length:=by omega
   have g2:j<ys.length:=by omega
   obtain⟨x,ex,rx⟩:=r1.get (av g1);obtain⟨y,ey,ry⟩:=r2.get (av g2);have:=ex.symm.trans ey;cases this;have hz:(cu (aM n) xs ys)[j]?=some (aM n xs[j] ys[j]):=by
    rw[o6,av g1,av g2]
   obtain⟨b',eb,eb'⟩:=zT e hz;rw[av hj,ej]at eb';cases eb';exact ih _ _ _ _ rx ry eb
  intro v w x b h g e;cases v with
  |tup xs=>
   cases w with
   |tup ys=>
    unfold aI at h g;obtain⟨a,vs,rfl,t1,_,r1⟩:=h;obtain⟨a',ws,e1,t2,_,r2⟩:=g;cases e1;have:=I.tuple_inj t1 t2;subst this;unfold aM at e;split at e
    .rename_i bs hb
     obtain⟨z1,z2⟩:=items xs ys vs bs r1 r2 hb;rw[z1,z2,beq_self_eq_true]at e;cases e;rfl
    .cases e
   |_=>unfold aM at e;simp at e
  |lst xs=>
   cases w with
   |lst ys=>
    unfold aI at h g;obtain⟨a,vs,rfl,t1,_,r1⟩:=h;obtain⟨a',ws,e1,t2,_,r2⟩:=g;cases e1;have:=I.list_inj t1.sq t2.sq;subst this;unfold aM at e;rw[if_pos (r1.length.trans r2.length.symm)]at e;split at e
    .rename_i bs hb
     obtain⟨z1,z2⟩:=items xs ys vs bs r1 r2 hb;rw[z1]at e;cases e;rfl
    .cases e
   |_=>unfold aM at e;simp at e
  |_=>exact Vj (n+1) _ w x b (by intro _ z;cases z) (by intro _ z;cases z) h g e
theorem Tq(I:aF X BI σ H s):∀(n:Nat)(v w:PV)(x y:V)(u u':Value)(b:Bool)(A:aq),A.units+n<cLine->aI X.K c H v x->aI X.K c H w y->bQ x u->bQ y u'->aM n v w=some b->oq A s u u' b/\jo A s u u' b:=by
 have flat:∀(n:Nat)(v w:PV)(x y:V)(u u':Value)(b:Bool)(A:aq),(∀xs,v≠.tup xs)->(∀xs,v≠.lst xs)->aI X.K c H v x->aI X.K c H w y->bQ x u->bQ y u'->aM n v w=some b->oq A s u u' b/\jo A s u u' b:=by
  intro n v w x y u u' b A nt nl h g r r' e;cases v with
  |tup xs=>exact absurd rfl (nt xs)
  |lst xs=>exact absurd rfl (nl xs)
  |non=>
   cases w<;>first |(unfold aM at e;simp at e;done) |skip
   unfold aI at h g;subst h g;cases r;cases r';unfold aM at e;cases e;exact⟨o8,uf _⟩
  |bl i=>
   cases w<;>first |(unfold aM at e;simp at e;done) |skip
   unfold aI at h g;subst h g;cases r;cases r';unfold aM at e;cases e;exact⟨o9 _ _,SeqAt.EqAt.bool_bool _ _⟩
  |int i=>
   cases w<;>first |(unfold aM at e;simp at e;done) |skip
   unfold aI at h g;subst h g;obtain⟨t,rfl⟩:=r;obtain⟨t',rfl⟩:=r';unfold aM at e;cases e;exact⟨q0 _ _ _ _,vw _ _ _ _⟩
  |str i=>
   cases w<;>first |(unfold aM at e;simp at e;done) |skip
   unfold aI at h g;subst h g;obtain⟨t,rfl⟩:=r;obtain⟨t',rfl⟩:=r';unfold aM at e;cases e;exact⟨q9 _ _ _ _,SeqAt.EqAt.str_str _ _ _ _⟩
 have main:∀(n:Nat)(v w:PV)(x y:V)(u u':Value)(b:Bool)(A:aq),A.units+n<cLine->aI X.K c H v x->aI X.K c H w y->bQ x u->bQ y u'->aM n v w=some b->oq A s u u' b/\jo A s u u' b:=by
  intro n
  induction n with
  |zero=>
   intro v w x y u u' b A hu h g r r' e;cases v with
   |tup xs=>unfold aM at e;simp at e
   |lst xs=>unfold aM at e;simp at e
   |_=>exact flat 0 _ w x y u u' b A (by intro _ z;cases z) (by intro _ z;cases z) h g r r' e
  |succ n ih=>
   intro v w x y u u' b A hu h g r r' e;have hin:A.in1.units+n<cLine:=by show A.units+1+n<cLine;omega
   cases v with
   |tup xs=>
    cases w with
    |tup ys=>
     have hs:x=y->b=true:=λz=>Rm I (n+1) _ _ x b h (z▸g) e;unfold aI at h g;obtain⟨a,vs,rfl,t1,_,r1⟩:=h;obtain⟨a',ws,rfl,t2,_,r2⟩:=g;cases r;cases r';obtain⟨its,q1,p1,_⟩:=I.tuple t1;obtain⟨jts,q2,p2,_⟩:=I.tuple t2;unfold aM at e;split at e
     .rename_i bs hb
      cases e;have z:=xx (A:=A) (s:=s) (e:=λj=>bs.getD j true) (show s.heap.IsTuple a its.toArray from p1) (show s.heap.IsTuple a' jts.toArray from p2) (by omega)
       (vQ (A:=A.in1) (λv w x y u u' b h1 h2 h3 h4 h5=>(ih v w x y u u' b A.in1 hin h1 h2 h3 h4 h5).2) r1 r2 q1 q2 hb)
      have l1:=r1.length.trans q1.length;have l2:=r2.length.trans q2.length;rw[au,au,<-l1,<-l2,<-sI hb,vE]at z;refine⟨z,?_⟩
      by_cases ha:a=a'
      .subst ha
       rw[hs rfl];exact uf _
      .exact xy ha z
     .cases e
    |_=>unfold aM at e;simp at e
   |lst xs=>
    cases w with
    |lst ys=>
     have hs:x=y->b=true:=λz=>Rm I (n+1) _ _ x b h (z▸g) e;unfold aI at h g;obtain⟨a,vs,rfl,t1,_,r1⟩:=h;obtain⟨a',ws,rfl,t2,_,r2⟩:=g;cases r;cases r';obtain⟨its,q1,p1,_⟩:=I.list t1.sq;obtain⟨jts,q2,p2,_⟩:=I.list t2.sq;have l1:=r1.length.trans q1.length;have l2:=r2.length.trans q2.length;have fin:oq A s (.ref a) (.ref a') b->oq A s (.ref a) (.ref a') b/\jo A s (.ref a) (.ref a') b:=λz=>by
      refine⟨z,?_⟩
      by_cases ha:a=a'
      .subst ha
       rw[hs rfl];exact uf _
      .exact xy ha z
     unfold aM at e;split at e
     .rename_i hl
      split at e
      .rename_i bs hb
       cases e;have z:=r0 (A:=A) (s:=s) (e:=λj=>bs.getD j true) p1.isList p2.isList (by rw[au,au];omega) (by omega)
        (vQ (A:=A.in1) (λv w x y u u' b h1 h2 h3 h4 h5=>(ih v w x y u u' b A.in1 hin h1 h2 h3 h4 h5).2) r1 r2 q1 q2 hb)
       have hm:its.length=bs.length:=by rw[sI hb];omega
       rw[au,hm,vE]at z;exact fin z
      .cases e
     .rename_i hl
      cases e;exact fin (r6 p1.isList p2.isList (by rw[au,au];simp;omega) (by omega))
    |_=>unfold aM at e;simp at e
   |_=>exact flat (n+1) _ w x y u u' b A (by intro _ z;cases z) (by intro _ z;cases z) h g r r' e
 exact main
end
noncomputable section
open PySem PySem.Spec PyProof.Rows Bn
section
variable{X:Cx}
theorem Ct{BI:List (Addr×Obj)}{σ:St}{H:Hp}{s:aa}(I:aF X BI σ H s){p:Ph}{v w:PV}{x y:V}{u u':Value}{b:Bool}{A:aq}(hu:A.units+8<cLine)(h:fG X.K p H v x)(g:fG X.K p H w y)(r:bQ x u)(r':bQ y u')(e:aM 8 v w=some b):
  oq A s u u' b/\SeqAt.RcNeAt A s u u' (!b):=by
 have hin:A.in1.units+7<cLine:=by show A.units+1+7<cLine;omega
 cases v with
 |non=>
  cases w<;>first |(unfold aM at e;simp at e;done) |skip
  have h:=h.non;have g:=g.non;subst h g;cases r;cases r';unfold aM at e;cases e;exact⟨o8,SeqAt.RcNeAt.none_none⟩
 |bl i=>
  cases w<;>first |(unfold aM at e;simp at e;done) |skip
  have h:=h.bl;have g:=g.bl;subst h g;cases r;cases r';unfold aM at e;cases e;exact⟨o9 _ _,SeqAt.RcNeAt.bool_bool _ _⟩
 |int i=>
  cases w<;>first |(unfold aM at e;simp at e;done) |skip
  have h:=h.int;have g:=g.int;subst h g;obtain⟨t,rfl⟩:=r;obtain⟨t',rfl⟩:=r';unfold aM at e;cases e;exact⟨q0 _ _ _ _,SeqAt.RcNeAt.int_int _ _ _ _⟩
 |str i=>
  cases w<;>first |(unfold aM at e;simp at e;done) |skip
  have h:=h.str;have g:=g.str;subst h g;obtain⟨t,rfl⟩:=r;obtain⟨t',rfl⟩:=r';unfold aM at e;cases e;exact⟨q9 _ _ _ _,SeqAt.RcNeAt.str_str _ _ _ _⟩
 |tup xs=>
  cases w with
  |tup ys=>
   obtain⟨a,vs,rfl,t1,_,r1⟩:=h.tup;obtain⟨a',ws,rfl,t2,_,r2⟩:=g.tup;cases r;cases r';obtain⟨its,q1,p1,_⟩:=I.tuple t1;obtain⟨jts,q2,p2,_⟩:=I.tuple t2;unfold aM at e;split at e
   .rename_i bs hb
    cases e;have it:=vQ (s:=s) (A:=A.in1) (λv w x y u u' b h1 h2 h3 h4 h5=>(Tq I 7 v w x y u u' b A.in1 hin h1 h2 h3 h4 h5).2) r1 r2 q1 q2 hb;have z:=xx (A:=A) (s:=s) (e:=λj=>bs.getD j true) (show s.heap.IsTuple a its.toArray from p1) (show s.heap.IsTuple a' jts.toArray from p2) (by omega) it;have z':=SeqAt.RcNeAt.tuples (A:=A) (s:=s) (e:=λj=>bs.getD j true) (show s.heap.IsTuple a its.toArray from p1) (show s.heap.IsTuple a' jts.toArray from p2) (by omega) it;have l1:=r1.length.trans q1.length;have l2:=r2.length.trans q2.length;rw[au,au,<-l1,<-l2,<-sI hb,vE]at z z';exact⟨z,z'⟩
   .cases e
  |_=>unfold aM at e;simp at e
 |lst xs=>
  cases w with
  |lst ys=>
   obtain⟨a,vs,rfl,t1,_,r1⟩:=h.lst;obtain⟨a',ws,rfl,t2,_,r2⟩:=g.lst;cases r;cases r';obtain⟨its,q1,p1,_⟩:=I.list t1;obtain⟨jts,q2,p2,_⟩:=I.list t2;have l1:=r1.length.trans q1.length;have l2:=r2.length.trans q2.length;unfold aM at e;split at e
   .rename_i hl
    split at e
    .rename_i bs hb
     cases e;have it:=vQ (s:=s) (A:=A.in1) (λv w x y u u' b h1 h2 h3 h4 h5=>(Tq I 7 v w x y u u' b A.in1 hin h1 h2 h3 h4 h5).2) r1 r2 q1 q2 hb;have z:=r0 (A:=A) (s:=s) (e:=λj=>bs.getD j true) p1.isList p2.isList (by rw[au,au];omega) (by omega) it;have z':=SeqAt.RcNeAt.lists (A:=A) (s:=s) (e:=λj=>bs.getD j true) p1.isList p2.isList (by rw[au,au];omega) (by omega) it;have hm:its.length=bs.length:=by rw[sI hb];omega
     rw[au,hm,vE]at z z';exact⟨z,z'⟩
    .cases e
   .rename_i hl
    cases e;exact⟨r6 p1.isList p2.isList (by rw[au,au];simp;omega) (by omega),SeqAt.RcNeAt.lists_lengths p1.isList p2.isList (by rw[au,au];simp;omega) (by omega)⟩
  |_=>unfold aM at e;simp at e
def yF(K:ag)(neg:Bool):R2:=λx y H Q=>∃p v w b,fG K p H v x/\fG K p H w y/\aM 8 v w=some b/\Q (.bl (if neg then !b else b)) H
theorem Wr(hu:X.A.units+8<cLine):eJ X (compareOp .Eq) (yF X.K false):=by
 intro BI s σ H x y v u Q I rx ry h;obtain⟨p,a,b,k,h1,h2,e,q⟩:=h;exact(Ct I hu h1 h2 rx ry e).1 X.prog X.w X.xe _ ⟨.bl k,H,I,rfl,q⟩
theorem Yq(hu:X.A.units+8<cLine):eJ X (compareOp .NotEq) (yF X.K true):=by
 intro BI s σ H x y v u Q I rx ry h;obtain⟨p,a,b,k,h1,h2,e,q⟩:=h;exact(Ct I hu h1 h2 rx ry e).2 X.prog X.w X.xe _ ⟨.bl (!k),H,I,rfl,q⟩
def dM(a b:PV):BF:=(aM 8 a b).map .bl
def gH(a b:PV):BF:=(aM 8 a b).map λk=>.bl (!k)
theorem Bu{K:ag}:gX K (yF K false) dM:=λ{p S H a b c x y Q} s ra rb e k=>by
 unfold dM at e;cases z:aM 8 a b with
 |none=>rw[z]at e;cases e
 |some t=>
  rw[z]at e;cases e;exact⟨p,a,b,t,ra,rb,z,k H _ (dH.refl H) (by unfold aI;rfl)⟩
theorem Tt{K:ag}:gX K (yF K true) gH:=λ{p S H a b c x y Q} s ra rb e k=>by
 unfold gH at e;cases z:aM 8 a b with
 |none=>rw[z]at e;cases e
 |some t=>
  rw[z]at e;cases e;exact⟨p,a,b,t,ra,rb,z,k H _ (dH.refl H) (by unfold aI;rfl)⟩
def i2(f:Int->Int->BF):PV->PV->BF
 |.int a,.int b=>f a b
 |_,_=>none
open Classical in
def cI(C:Int->Int->Prop)(g:Int->Int->PV)(a b:Int):BF:=if C a b then some (g a b)else none
def yW:PV->V
 |.int i=>.int i
 |.bl b=>.bl b
 |.str s=>.str s
 |_=>.non
def Be:PV->Bool
 |.int _=>true
 |.bl _=>true
 |.str _=>true
 |.non=>true
 |_=>false
theorem iR{K:ag}{c:Addr->Prop}{H:Hp}{v:PV}(h:Be v=true):aI K c H v (yW v):=by
 cases v with
 |tup _=>cases h
 |lst _=>cases h
 |_=>unfold aI yW;rfl
theorem xU{K:ag}{C:Int->Int->Prop}{g:Int->Int->PV}{h:Int->Int->V}(fl:∀i j,Be (g i j)=true/\yW (g i j)=h i j):gX K (rI C h) (i2 (cI C g)):=λ{p S H a b c x y Q} s ra rb e k=>by
 cases a with
 |int i=>
  cases b with
  |int j=>
   unfold i2 cI at e;dsimp only at e;split at e
   .rename_i hc
    cases e;refine⟨i,j,ra.int,rb.int,hc,?_⟩;rw[<-(fl i j).2];exact k H _ (dH.refl H) (iR (fl i j).1)
   .cases e
  |_=>cases e
 |_=>cases e
theorem yC{K:ag}{g:Int->Int->PV}{h:Int->Int->V}(fl:∀i j,Be (g i j)=true/\yW (g i j)=h i j):gX K (jQ h) (i2 λi j=>some (g i j)):=λ{p S H a b c x y Q} s ra rb e k=>by
 cases a with
 |int i=>
  cases b with
  |int j=>
   cases e;refine⟨i,j,ra.int,rb.int,?_⟩;rw[<-(fl i j).2];exact k H _ (dH.refl H) (iR (fl i j).1)
  |_=>cases e
 |_=>cases e
def oZ(i j:Int):Prop:=Ue i j\/(Bd 1000000 i/\Bd 1000000 j)
theorem oZ.ok{i j:Int}(h:oZ i j):IntMulOk i j:=by
 rcases h with h |h
 .exact h.ok
 have h1:=Po h.1;have h2:=Po h.2;unfold IntMulOk Builtin.Int.intTooBig bitsLine;intro c;simp only[jb,decide_eq_true_eq]at c;have:=c.2;omega
theorem aar:eJ X (binaryOp .Mult) (rI oZ λi j=>.int (i*j)):=yQ λ_ _ _ _ _ _ _ hc q=>mul_int q hc.ok
def aX:=i2 (cI oZ λi j=>.int (i*j))
def gG:=i2 (cI pB λi j=>.int (i.fdiv j))
def fY:=i2 (cI (λ_ j=>j≠0) λi j=>.int (i.fmod j))
def iA:=i2 (cI yE λi j=>.int (i^j.toNat))
def eE:=i2 λi j=>some (.int (i-j))
def kO:=i2 λi j=>some (.bl (decide (i<j)))
def fLe:=i2 λi j=>some (.bl (decide (i<=j)))
def eY:=i2 λi j=>some (.bl (decide (j<i)))
def rO:=i2 λi j=>some (.bl (decide (j<=i)))
theorem acA{K:ag}:gX K (rI oZ λi j=>.int (i*j)) aX:=xU λ_ _=>⟨rfl,rfl⟩
theorem abp{K:ag}:gX K (rI pB λi j=>.int (i.fdiv j)) gG:=xU λ_ _=>⟨rfl,rfl⟩
theorem acR{K:ag}:gX K (rI (λ_ j=>j≠0) λi j=>.int (i.fmod j)) fY:=xU λ_ _=>⟨rfl,rfl⟩
theorem acu{K:ag}:gX K (rI yE λi j=>.int (i^j.toNat)) iA:=xU λ_ _=>⟨rfl,rfl⟩
theorem ac1{K:ag}:gX K (jQ λi j=>.int (i-j)) eE:=yC λ_ _=>⟨rfl,rfl⟩
theorem Wt{K:ag}:gX K (jQ λi j=>.bl (decide (i<j))) kO:=yC λ_ _=>⟨rfl,rfl⟩
theorem Qt{K:ag}:gX K (jQ λi j=>.bl (decide (j<i))) eY:=yC λ_ _=>⟨rfl,rfl⟩
theorem Jt{K:ag}:gX K (jQ λi j=>.bl (decide (j<=i))) rO:=yC λ_ _=>⟨rfl,rfl⟩
def dD:PV->BF
 |.int i=>some (.int (-i))
 |_=>none
theorem ac4{K:ag}:uG K (rU λi=>.int (-i)) dD:=λ{p S H a c x Q} s ra e k=>by
 cases a with
 |int i=>
  cases e;exact⟨i,ra.int,k H _ (dH.refl H) (iR (v:=.int (-i)) rfl)⟩
 |_=>cases e
def Us(K:ag):R2:=λx y H Q=>∃l b xs zs,x=.ref l/\y=.ref b/\bV K H l xs/\bV K H b zs/\xs.length+zs.length<=sizeLine/\∀p,H p=none->Q (.ref p) (aL H p (.lst (xs++zs)))
theorem aaf:eJ X (binaryOp .Add) (Us X.K):=by
 intro BI s σ H x y v u Q I rx ry h;obtain⟨l,b,xs,zs,rfl,rfl,hx,hy,hz,q⟩:=h;cases rx;cases ry;obtain⟨its,r1,p1,_⟩:=I.list hx;obtain⟨jts,r2,p2,_⟩:=I.list hy;obtain⟨⟨cls,dd,data,sl⟩,n,ho,hc,_,hd⟩:=p1;obtain⟨⟨cls2,dd2,data2,sl2⟩,n2,ho2,hc2,_,hd2⟩:=p2;simp only at hc hd hc2 hd2;subst hc hd hc2 hd2;have e:its.toArray++jts.toArray=(its++jts).toArray:=by simp
 have l1:=r1.length;have l2:=r2.length;refine wj ⟨_,ho,rfl⟩ ⟨_,ho2,rfl⟩ noFill_list_add seq_list_add PySem.F.slot_list_add PySem.F.entry_list_add (PySem.F.args_list_add_2 _ _) (list_addW l b its.toArray jts.toArray n n2 dd dd2 sl sl2 (by rw[au,au];omega)) ⟨ho,ho2,?_⟩;rw[e];exact⟨.ref _,_,I.lnew (t':=s.toks) (r1.append r2) (by rw[bh];omega),rfl,q _ I.fresh⟩
def aH:PV->PV->BF
 |.int a,.int b=>some (.int (a+b))
 |.lst xs,.lst ys=>if xs.length+ys.length<=16777216 then some (.lst (xs++ys))else none
 |.tup xs,.tup ys=>if xs.length≠0/\ys.length≠0/\xs.length+ys.length<=16777216 then some (.tup (xs++ys))else none
 |_,_=>none
def Gs(K:ag):R2:=λx y H Q=>(jQ λi j=>.int (i+j)) x y H Q\/Us K x y H Q\/Ms K x y H Q
theorem aam:eJ X (binaryOp .Add) (Gs X.K):=eJ.or abD (eJ.or aaf Q1)
theorem ac2{K:ag}:gX K (Gs K) aH:=λ{p S H a b c x y Q} s ra rb e k=>by
 cases a with
 |int i=>
  cases b with
  |int j=>
   cases e;exact .inl ⟨i,j,ra.int,rb.int,k H _ (dH.refl H) (iR (v:=.int (i+j)) rfl)⟩
  |_=>cases e
 |lst xs=>
  cases b with
  |lst ys=>
   have e:(if xs.length+ys.length<=16777216 then some (PV.lst (xs++ys))else none)=some c:=e;split at e
   .rename_i hl
    cases e;obtain⟨a1,vs,rfl,l1,z1,r1⟩:=ra.lst;obtain⟨a2,ws,rfl,l2,z2,r2⟩:=rb.lst;have hz:vs.length+ws.length<=sizeLine:=by rw[<-r1.length,<-r2.length,iD];exact hl
    exact .inr (.inl ⟨a1,a2,vs,ws,rfl,rfl,l1,l2,hz,λt ht=>k _ _ (gO ht) (lH s (r1.append r2) (by rw[bh];exact hz) ht)⟩)
   .cases e
  |_=>cases e
 |tup xs=>
  cases b with
  |tup ys=>
   have e:(if xs.length≠0/\ys.length≠0/\xs.length+ys.length<=16777216 then some (PV.tup (xs++ys))else none)=some c:=e;split at e
   .rename_i hl
    cases e;obtain⟨a1,vs,rfl,l1,z1,r1⟩:=ra.tup;obtain⟨a2,ws,rfl,l2,z2,r2⟩:=rb.tup;have hz:vs.length+ws.length<=sizeLine:=by rw[<-r1.length,<-r2.length,iD];exact hl.2.2
    refine .inr (.inr ⟨a1,a2,vs,ws,rfl,rfl,l1,l2,λq=>hl.1 (by rw[r1.length,q];rfl),hz,λq=>absurd (show ys.length=0 by rw[r2.length,q];rfl) hl.2.1,λ_ t ht=>k _ _ (gO ht) (qK s (r1.append r2) (by rw[bh];exact hz) ht)⟩)
   .cases e
  |_=>cases e
 |_=>cases e
end
section
variable{K:ag}{cl:Str->Addr}{E:XK}{X:Cx}{a b e:ah}{es:List ah}{ma mb m:ME}{ms:MA}{pos p2:ai}
def aE:PV->PV->BF
 |.lst xs,.int i=>bC xs i
 |.tup xs,.int i=>bC xs i
 |_,_=>none
theorem vW{c:Addr->Prop}{H:Hp}{xs:BE}{vs:List V}{i:Int}{v:PV}(r:aJ K c H xs vs)(e:bC xs i=some v):∃x,bC vs i=some x/\aI K c H v x:=by
 unfold bC at e⊢;rw[<-r.length];cases z:bF xs.length i with
 |none=>rw[z]at e;cases e
 |some j=>
  rw[z]at e;exact r.get e
theorem adI:gX K (Nu K) aE:=λ{p S H a b c x y Q} s ra rb e k=>by
 cases b with
 |int i=>
  cases a with
  |lst xs=>
   obtain⟨a1,vs,rfl,l1,z1,r1⟩:=ra.lst;obtain⟨x,e1,r2⟩:=vW r1 e;exact .inl ⟨a1,vs,i,x,rfl,rb.int,l1,e1,k H x (dH.refl H) r2⟩
  |tup xs=>
   obtain⟨a1,vs,rfl,l1,z1,r1⟩:=ra.tup;obtain⟨x,e1,r2⟩:=vW r1 e;exact .inr (.inl ⟨a1,vs,i,x,rfl,rb.int,l1,e1,k H x (dH.refl H) r2⟩)
  |_=>cases e
 |_=>cases a<;>cases e
theorem acV(ha:aS K cl E X a ma)(hb:aS K cl E X b mb)(hs:sH b:=by intro _ _;rfl):aS K cl E X (.Subscript a b pos) (aC aE ma mb):=by
 intro hK;subst hK;refine(xP Pr (ha rfl) (hb rfl) hs).imp ?_
 rintro σ H Q ⟨p,S,ρ,s,e,h⟩
 exact bY s e h λq H1 a x S1 st s1 e1 r1 h1=>bY s1 e1 h1 λq2 H2 b y S2 st2 s2 e2 r2 h2=>uZ adI s2 (st2.repA r1) r2 h2
abbrev MO:=bW->aG->bP BD
def eA:MO:=λ_ S=>.ok none S
def iO:AV->aG->bP BD
 |.pv (.int i),S=>.ok (some i) S
 |_,_=>.fail
def fK(m:ME):MO:=λρ S=>(m ρ S).bind iO
abbrev RO:Ph->Hp->BD->BD->Prop:=λ_ _ a b=>a=b
variable(K cl E X)
def nZ(e:Option ah)(m:MO):Prop:=X.K=K->PO X e (tP K cl E RO m)
variable{K cl E X}
theorem PO.imp{e:Option ah}{t t':TO}(h:PO X e t)(i:∀σ H Q,t' σ H Q->t σ H Q):PO X e t':=λBI s σ H Q I q=>h BI s σ H Q I (i σ H Q q)
theorem K8:nZ K cl E X none eA:=λ_=>PO.imp Z4 λσ H Q ⟨p,S,ρ,s,e,h⟩=>bU.ret (R:=RO) h s rfl
theorem O8(h:aS K cl E X e m):nZ K cl E X (some e) (fK m):=by
 intro hK;subst hK;refine PO.imp (Ac (h rfl)) ?_
 rintro σ H Q ⟨p,S,ρ,s,e,h⟩
 refine bY s e h λq H1 a x S1 st s1 e1 r1 h1=>?_;unfold iO at h1;split at h1
 .rename_i i
  exact⟨i,(show fG X.K q H1 (.int i) x from .inl r1).int,bU.ret (R:=RO) h1 s1 rfl⟩
 .exact h1.elim
def jN(xs:BE)(lo hi:BD):BE:=(xs.drop (HT.sIx xs.length 0 lo)).take (HT.sIx xs.length xs.length hi-HT.sIx xs.length 0 lo)
def kP(v:PV)(lo hi:BD):BF:=match v with
 |.lst xs=>some (.lst (jN xs lo hi))
 |.tup xs=>if HT.sIx xs.length 0 lo=0/\HT.sIx xs.length xs.length hi=xs.length then none else some (.tup (jN xs lo hi))
 |_=>none
def fZ(m:ME)(ml mh:MO):ME:=λρ S=>(m ρ S).bind λv S1=>(ml ρ S1).bind λlo S2=>(mh ρ S2).bind λhi S3=>iB ((rd S3 v).bind λx=>kP x lo hi) S3
theorem Sl{c:Addr->Prop}{H:Hp}{xs:BE}{vs:List V}{lo hi:BD}(r:aJ K c H xs vs):aJ K c H (jN xs lo hi) (nP vs lo hi):=by
 unfold jN nP;rw[<-r.length];exact(r.drop _).take _
theorem acM{lo hi:Option ah}{ml mh:MO}(he:aS K cl E X e m)(hl:nZ K cl E X lo ml)(hu:nZ K cl E X hi mh):aS K cl E X (.Subscript e (.Slice lo hi none p2) pos) (fZ m ml mh):=by
 intro hK;subst hK;refine(A6 (nY.or T5 abb) (he rfl) (hl rfl) (hu rfl)).imp ?_
 rintro σ H Q ⟨p,S,ρ,s,e,h⟩
 refine bY s e h λq H1 a x S1 st s1 e1 r1 h1=>bY s1 e1 h1 λq2 H2 lo lo' S2 st2 s2 e2 r2 h2=>bY s2 e2 h2 λq3 H3 hi hi' S3 dP s3 e3 r3 h3=>?_;cases r2;cases r3;have ra:=dP.repA (st2.repA r1);obtain⟨c,ec,k⟩:=oO s3 h3;cases z:rd S3 a with
 |none=>rw[z]at ec;cases ec
 |some v=>
  rw[z]at ec;have rv:=oQ s3 ra z;cases v with
  |lst xs=>
   have ec:some (PV.lst (jN xs lo hi))=some c:=ec;cases ec;obtain⟨a1,vs,rfl,l1,z1,r1⟩:=rv.lst;exact .inl ⟨a1,vs,rfl,l1,λt ht=>k _ _ (gO ht) (lH s3 (Sl r1) (fm (uP vs lo hi) z1) ht)⟩
  |tup xs=>
   obtain⟨a1,vs,rfl,l1,z1,r1⟩:=rv.tup;have ec:(if HT.sIx xs.length 0 lo=0/\HT.sIx xs.length xs.length hi=xs.length then none else some (PV.tup (jN xs lo hi)))=some c:=ec;split at ec
   .cases ec
   .rename_i hw
    cases ec;rw[r1.length]at hw;exact .inr ⟨a1,vs,rfl,l1,hw,λt ht=>k _ _ (gO ht) (qK s3 (Sl r1) (fm (uP vs lo hi) z1) ht)⟩
  |_=>cases ec
theorem qG{id:String}{r:List V->Hp->VK->Prop}{f:BE->BF}{x:Str}{p:ai}(hc:iF X (.builtin id) r)(hf:kD X.K r f)(hg:Gl X x)(hm:X.mg x=none)(hv:bootBuiltins x=some (.builtin id))(ha:eN K cl E X (e::es) ms)(hn:x≠"__name__":=by decide)(hdb:(x==("__debug__":Str))=false:=by decide)
  (he:starEach (e::es) X.env=(false,eval e X.env)::starEach es X.env:=by rfl)(hpl:(backTo pos (starEach es X.env)).any (·.1)=false:=by rfl):aS K cl E X (.Call (.Name x p) (e::es) [] pos) (mR f ms):=by
 intro hK;subst hK;refine PE.imp (vK hc hg hm hv (ha rfl) hn hdb he hpl) ?_
 rintro σ H Q ⟨p,S,ρ,s,ev,h⟩
 exact bY s ev h λq H' as xs S' cN sm ev r k=>Rj hf sm r k
theorem Qa{T:String}{r:List V->Hp->VK->Prop}{f:BE->BF}{x:Str}{p:ai}(hc:iF X (.type T) r)(hf:kD X.K r f)(hg:Gl X x)(hm:X.mg x=none)(hv:bootBuiltins x=some (.type T))(ha:eN K cl E X (e::es) ms)(hn:x≠"__name__":=by decide)(hdb:(x==("__debug__":Str))=false:=by decide)
  (he:starEach (e::es) X.env=(false,eval e X.env)::starEach es X.env:=by rfl)(hpl:(backTo pos (starEach es X.env)).any (·.1)=false:=by rfl):aS K cl E X (.Call (.Name x p) (e::es) [] pos) (mR f ms):=by
 intro hK;subst hK;refine PE.imp (uY hc hg hm hv (ha rfl) hn hdb he hpl) ?_
 rintro σ H Q ⟨p,S,ρ,s,ev,h⟩
 exact bY s ev h λq H' as xs S' cN sm ev r k=>Rj hf sm r k
def cZ:BE->BF
 |[.lst xs]=>some (.int xs.length)
 |[.tup xs]=>some (.int xs.length)
 |_=>none
theorem adc:kD K (λxs H Q=>∃p ys,xs=[.ref p]/\(bV K H p ys\/cT K H p ys)/\Q (.int ys.length) H) cZ:=λ{p S H as c xs Q} s ra e k=>by
 unfold cZ at e;split at e
 .rename_i zs
  cases e;cases ra with
  |cons h t=>
   cases t;obtain⟨a,vs,rfl,l,z,r⟩:=h.lst;refine⟨a,vs,rfl,.inl l,?_⟩;rw[<-r.length];exact k H _ (dH.refl H) (iR (v:=.int zs.length) rfl)
 .rename_i zs
  cases e;cases ra with
  |cons h t=>
   cases t;obtain⟨a,vs,rfl,l,z,r⟩:=h.tup;refine⟨a,vs,rfl,.inr l,?_⟩;rw[<-r.length];exact k H _ (dH.refl H) (iR (v:=.int zs.length) rfl)
 .cases e
def pI:BE->BF
 |[.int i]=>some (.int (if i<0 then-i else i))
 |_=>none
theorem aco:kD K (λxs H Q=>∃i,xs=[.int i]/\Q (.int (if i<0 then-i else i)) H) pI:=λ{p S H as c xs Q} s ra e k=>by
 unfold pI at e;split at e
 .rename_i i
  cases e;cases ra with
  |cons h t=>
   cases t;cases h.int;exact⟨i,rfl,k H _ (dH.refl H) (iR (v:=.int _) rfl)⟩
 .cases e
def iN:BE->BF
 |[.lst xs]=>some (.tup xs)
 |[.tup xs]=>some (.tup xs)
 |_=>none
theorem R6:kD K (λxs H Q=>∃p ys,xs=[.ref p]/\((bV K H p ys/\∀l,H l=none->Q (.ref l) (aL H l (.tup ys)))\/(cT K H p ys/\Q (.ref p) H))) iN:=λ{p S H as c xs Q} s ra e k=>by
 unfold iN at e;split at e
 .rename_i zs
  cases e;cases ra with
  |cons h t=>
   cases t;obtain⟨a,vs,rfl,l,z,r⟩:=h.lst;exact⟨a,vs,rfl,.inl ⟨l,λt ht=>k _ _ (gO ht) (qK s r z ht)⟩⟩
 .rename_i zs
  cases e;cases ra with
  |cons h t=>
   cases t;obtain⟨a,vs,rfl,l,z,r⟩:=h.tup;refine⟨a,vs,rfl,.inr ⟨l,k H _ (dH.refl H) ?_⟩⟩;unfold aI;exact⟨a,vs,rfl,l,z,r⟩
 .cases e
def nI:BE->BF
 |[.lst xs]=>some (.lst xs)
 |[.tup xs]=>some (.lst xs)
 |_=>none
theorem aaq:kD K (λxs H Q=>∃p ys,xs=[.ref p]/\(bV K H p ys\/cT K H p ys)/\∀l,H l=none->Q (.ref l) (aL H l (.lst ys))) nI:=λ{p S H as c xs Q} s ra e k=>by
 unfold nI at e;split at e
 .rename_i zs
  cases e;cases ra with
  |cons h t=>
   cases t;obtain⟨a,vs,rfl,l,z,r⟩:=h.lst;exact⟨a,vs,rfl,.inl l,λt ht=>k _ _ (gO ht) (lH s r z ht)⟩
 .rename_i zs
  cases e;cases ra with
  |cons h t=>
   cases t;obtain⟨a,vs,rfl,l,z,r⟩:=h.tup;exact⟨a,vs,rfl,.inr l,λt ht=>k _ _ (gO ht) (lH s r z ht)⟩
 .cases e
def oW:BE->Option (List Bool)
 |[]=>some []
 |.bl b::r=>match oW r with
  |some bs=>some (b::bs)
  |none=>none
 |_::_=>none
def rA:BE->BF
 |[.lst xs]=>(oW xs).map λbs=>.bl (bs.all id)
 |_=>none
theorem Km{c:Addr->Prop}{H:Hp}:∀{xs:BE}{bs:List Bool}{vs:List V},oW xs=some bs->aJ K c H xs vs->vs=bs.map V.bl
 |[],bs,vs,e,r=>by
  cases e;unfold aJ at r;exact r
 |.bl b::xs,bs,vs,e,r=>by
  unfold oW at e;split at e
  .rename_i cs h
   cases e;unfold aJ at r;obtain⟨v,w,rfl,r1,r2⟩:=r;unfold aI at r1;rw[r1,Km h r2];rfl
  .cases e
 |.non::_,_,_,e,_=>by cases e
 |.int _::_,_,_,e,_=>by cases e
 |.str _::_,_,_,e,_=>by cases e
 |.tup _::_,_,_,e,_=>by cases e
 |.lst _::_,_,_,e,_=>by cases e
theorem acs:kD K (λxs H Q=>∃(a:Addr)(bs:List Bool),xs=[.ref a]/\bV K H a (bs.map V.bl)/\Q (.bl (bs.all id)) H) rA:=λ{p S H as c xs Q} s ra e k=>by
 unfold rA at e;split at e
 .rename_i zs
  cases y:oW zs with
  |none=>rw[y]at e;cases e
  |some bs=>
   rw[y]at e;cases e;cases ra with
   |cons h t=>
    cases t;obtain⟨a,vs,rfl,l,z,r⟩:=h.lst;rw[Km y r]at l;exact⟨a,bs,rfl,l,k H _ (dH.refl H) (iR (v:=.bl _) rfl)⟩
 .cases e
def iW:BE->BF
 |[.int i]=>some (.int i)
 |[.bl b]=>some (.int (if b then 1 else 0))
 |_=>none
theorem acJ:kD K (λxs H Q=>(∃i,xs=[.int i]/\Q (.int i) H)\/∃k,xs=[.bl k]/\Q (.int (if k then 1 else 0)) H) iW:=λ{p S H as c xs Q} s ra e k=>by
 unfold iW at e;split at e
 .rename_i i
  cases e;cases ra with
  |cons h t=>
   cases t;cases h.int;exact .inl ⟨i,rfl,k H _ (dH.refl H) (iR (v:=.int _) rfl)⟩
 .rename_i i
  cases e;cases ra with
  |cons h t=>
   cases t;cases h.bl;exact .inr ⟨i,rfl,k H _ (dH.refl H) (iR (v:=.int _) rfl)⟩
 .cases e
end
end
section
variable{K:ag}{cl:Str->Addr}{E:XK}{X:Cx}{a b c e l tg:ah}{es:List ah}{m ma mb:ME}{ms:MA}{pos:ai}{p q:Ph}{H H':Hp}{S:aG}
theorem aU.push(s:aU K p S H){D:Addr}{ps:BE}{vs:List V}(h:H D=none)(l:vs.length<=sizeLine)(r:aJ K p.c H ps vs):
  let q:Ph:=⟨p.f++[D],λa=>p.w a\/a=D,λa=>p.c a\/a=D⟩
  bO p H q (aL H D (.lst vs))/\aU K q (S++[.lst ps]) (aL H D (.lst vs)):=by
 intro q;obtain⟨st0,sm0⟩:=s.res (D:=D) (o:=.lst vs) h trivial;have nf0:D∉p.f:=λz=>s.notin h (s.wc D (s.sub D z));refine⟨⟨st0.wc,st0.mu,⟨[D],rfl⟩,st0.mw,st0.mono,λa x n=>?_,st0.nw,st0.nc,st0.keep⟩,?_,by simp[q,s.len],λa x=>?_,sm0.wc,sm0.mu,λk a o e1 e2=>?_⟩
 .rcases cq.mp x with z |z
  .exact absurd z n
  .have:a=D:=by simpa using z
   rw[this];exact h
 .show(p.f++[D]).Nodup
  rw[nh];refine⟨s.nd,by simp,λa ha b hb z=>?_⟩;have:b=D:=by simpa using hb
  exact nf0 (this▸z▸ha)
 .rcases cq.mp x with z |z
  .exact .inl (s.sub a z)
  .exact .inr (by simpa using z)
 .by_cases hk:k<S.length
  .have e1':p.f[k]?=some a:=by
    have e1:(p.f++[D])[k]?=some a:=e1
    rwa[fj (by rw[s.len];exact hk)]at e1
   rw[fj hk]at e2;refine(s.obj k a o e1' e2).mono (λvs e=>by rw[bK (gF e h)];exact e) (λb w f=>⟨⟨.inl w,λm=>?_⟩,λvs e=>by rw[bK (gF e h)];exact e⟩) λ_ _ r=>st0.reps r;rcases cq.mp m with z |z
   .exact f z
   .have:b=D:=by simpa using z
    exact s.notin h (this▸s.wc b w)
  .have hk':k=S.length:=by
    have:=(ce.mp e2).1;simp at this;omega
   subst hk';rw[dj (aj _),ia]at e2;have e1:(p.f++[D])[S.length]?=some a:=e1;rw[<-s.len,dj (aj _),ia]at e1;cases e1;cases e2;exact⟨vs,dW,l,st0.reps r⟩
theorem aU.write(s:aU K p S H){D:Addr}{k:Nat}{ps:BE}{vs:List V}(h:p.f[k]?=some D)(hk:k<S.length)(l:vs.length<=sizeLine)(r:aJ K p.c H ps vs):
  bO p H p (aL H D (.lst vs))/\aU K p (S.set k (.lst ps)) (aL H D (.lst vs)):=by
 have w:p.w D:=s.sub D (cy h);have st:bO p H p (aL H D (.lst vs)):=⟨s.wc,s.mu,jk,λ_ h=>h,λ_ h=>h,λ_ h g=>absurd h g,λ_ h g=>absurd h g,λ_ h g=>absurd h g,λa u e nw=>by
  rw[bK (λz:a=D=>nw (by rw[z];exact w))];exact e⟩
 refine⟨st,s.nd,by rw[fk];exact s.len,s.sub,s.wc,λa x=>?_,λj a o e1 e2=>?_⟩
 .by_cases z:a=D
  .rw[z,dW]
   exact⟨_,rfl,trivial⟩
  .rw[bK z]
   exact s.mu a x
 .by_cases hj:k=j
  .subst hj
   rw[h]at e1;cases e1;rw[ee hk]at e2;cases e2;exact⟨vs,dW,l,st.reps r⟩
  .rw[fh hj]at e2
   have ne:a≠D:=λq=>hj (nodup_idx s.nd h (q▸e1));exact(s.obj j a o e1 e2).mono (λvs e=>by rw[bK ne];exact e) (λb w f=>⟨⟨w,f⟩,λvs e=>by rw[bK (λz:b=D=>f (z▸cy h))];exact e⟩) λ_ _ r=>st.reps r
def kK(xs:BH)(S:aG):bP AV:=match nK xs with
 |some vs=>if vs.length<=16777216 then .ok (.ref S.length) (S++[.lst vs])else .fail
 |none=>.fail
def eT(ms:MA):ME:=λρ S=>(ms ρ S).bind kK
theorem aab(h:eN K cl E X es ms):aS K cl E X (.List es pos) (eT ms):=by
 intro hK;subst hK;refine(wH (h rfl)).imp ?_
 rintro σ H Q ⟨p,S,ρ,s,e,h⟩
 refine bY s e h λq H1 as xs S1 st s1 e1 r1 h1=>?_;unfold kK at h1;split at h1
 .rename_i vs hv
  split at h1
  .rename_i hl
   have r:=zR hv r1;rw[r.length,<-iD]at hl;refine⟨hl,λt ht=>?_⟩;obtain⟨st2,sm2⟩:=s1.push ht hl r;exact h1 _ _ (.ref t) st2 sm2 ⟨t,by show(q.f++[t])[S1.length]?=some t;rw[<-s1.len,dj (aj _),ia];rfl,rfl⟩
  .exact h1.elim
 .exact h1.elim
def iQ(k:Nat)(ys:BH)(S:aG):bP AV:=match ys with
 |[.pv y]=>match S[k]? with
  |some (.lst xs)=>if xs.length<16777216 then .ok (.pv .non) (S.set k (.lst (xs++[y])))else .fail
  |_=>.fail
 |_=>.fail
def fD{α:Type}(k:AV)(S:aG)(f:Nat->bP α):bP α:=match k with
 |.ref k=>(match S[k]? with
  |some (.dic _ _)=>.fail
  |some (.dol _ _)=>.fail
  |_=>f k)
 |_=>.fail
theorem vL{α:Type}(k:Nat)(S:aG)(f:Nat->bP α):fD (.ref k) S f=.fail\/(fD (.ref k) S f=f k/\(∀n l,S[k]?≠some (.dic n l))/\∀n l,S[k]?≠some (.dol n l)):=by
 have e:fD (.ref k) S f=(match S[k]? with
  |some (.dic _ _)=>.fail
  |some (.dol _ _)=>.fail
  |_=>f k):=rfl
 rw[e];cases S[k]? with
 |none=>exact .inr ⟨rfl,λ_ _ z=>(nomatch z),λ_ _ z=>(nomatch z)⟩
 |some o=>
  cases o with
  |dic n l=>exact .inl rfl
  |dol n l=>exact .inl rfl
  |lst xs=>exact .inr ⟨rfl,λ_ _ z=>(nomatch z),λ_ _ z=>(nomatch z)⟩
  |lol xs=>exact .inr ⟨rfl,λ_ _ z=>(nomatch z),λ_ _ z=>(nomatch z)⟩
def dI(m:ME)(ms:MA):ME:=λρ S=>(m ρ S).bind λk S1=>fD k S1 λk=>(ms ρ S1).bind λys S2=>iQ k ys S2
theorem Dc{k:Nat}{x:V}(s:aU K p S H)(r:bZ K p H (.ref k) x)(n1:∀n l,S[k]?≠some (.dic n l))(n2:∀n l,S[k]?≠some (.dol n l)):Nf K "list" x H:=by
 obtain⟨a,e,rfl⟩:=r;have hk:k<S.length:=by
  have:=(ce.mp e).1;rw[<-s.len];exact this
 have z:=s.obj k a S[k] e (av hk);cases y:S[k]with
 |lst xs=>
  rw[y]at z;obtain⟨vs,h,_⟩:=z;exact .inl ⟨rfl,vs,bV.of h⟩
 |lol xss=>
  rw[y]at z;obtain⟨bs,h,_⟩:=z;exact .inl ⟨rfl,_,bV.of h⟩
 |dic n l=>exact absurd (by rw[av hk,y]) (n1 n l)
 |dol n l=>exact absurd (by rw[av hk,y]) (n2 n l)
theorem Mz{apos cpos:ai}(ho:aS K cl E X a m)(ha:eN K cl E X [e] ms)(hbase:attributeBase a "append" X.env (eval a X.env)=eval a X.env:=by rfl)
  (hfew:((backTo cpos (starEach [e] X.env)).all (λx=>!x.1)&&(backToKw cpos (keywordEach [] X.env)).all (λx=>x.1.isSome)&&decide (([e]:List ah).length+([]:List fz).length+(if([]:List fz).isEmpty then 0 else 1)<30))=true:=by rfl)
  (hline:(apos.endLine==cpos.line)=true:=by rfl)(hs:starEach [e] X.env=[(false,eval e X.env)]:=by rfl):aS K cl E X (.Call (.Attribute a "append" apos) [e] [] cpos) (dI m ms):=by
 intro hK;subst hK;refine PE.imp (xG uj ss yd qD (ho rfl) (ha rfl) hbase hfew hline hs rfl) ?_
 rintro σ H Q ⟨p,S,ρ,s,ev,h⟩
 refine bY s ev h λq H1 k x S1 st s1 e1 r1 h1=>?_;cases k with
 |pv v=>exact h1.elim
 |ref k=>
  have h1:bU X.K cl (bZ X.K) q H1 (fD (.ref k) S1 λk=>(ms ρ S1).bind λys S2=>iQ k ys S2) Q E:=h1;rcases vL k S1 (λk=>(ms ρ S1).bind λys S2=>iQ k ys S2)with z |⟨z,n1,n2⟩
  .rw[z]at h1
   exact h1.elim
  rw[z]at h1;refine⟨Dc s1 r1 n1 n2,bY s1 e1 h1 λq2 H2 ys xs S2 st2 s2 e2 r2 h2=>?_⟩;obtain⟨a,ea,rfl⟩:=st2.repA r1;unfold iQ at h2;split at h2
  .rename_i y
   cases r2 with
   |cons r3 r4=>
    cases r4;rename_i x;cases z:S2[k]? with
    |none=>rw[z]at h2;exact h2.elim
    |some o=>
     cases o with
     |lol _=>simp only[z]at h2;exact h2.elim
     |dic _ _=>simp only[z]at h2;exact h2.elim
     |dol _ _=>simp only[z]at h2;exact h2.elim
     |lst zs=>
      simp only[z]at h2;obtain⟨vs,h3,l3,r4⟩:=s2.obj k a _ ea z;split at h2
      .rename_i hl
       rw[r4.length]at hl;have hz:=iD;refine⟨a,vs,x,rfl,rfl,h3,by omega,?_⟩;obtain⟨dP,sm3⟩:=s2.write ea (ce.mp z).1 (ps:=zs++[y]) (vs:=vs++[x]) (by rw[bh,kb];omega) (r4.append (.cons r3 .nil));exact h2 _ _ .non dP sm3 (by show aI X.K q2.c (aL H2 a (.lst (vs++[x]))) .non .non;unfold aI;rfl)
      .exact h2.elim
  .exact h2.elim
def pD(k:Nat)(ys:BH)(S:aG):bP AV:=match ys with
 |[.pv (.int i)]=>if-9223372036854775808<=i/\i<9223372036854775808 then(match S[k]? with
  |some (.lst xs)=>match seqIndex? i xs.length with
   |some j=>match xs[j]? with
    |some v=>.ok (.pv v) (S.set k (.lst (xs.eraseIdx j)))
    |none=>.fail
   |none=>.fail
  |_=>.fail)else .fail
 |_=>.fail
def nQ(m:ME)(ms:MA):ME:=λρ S=>(m ρ S).bind λk S1=>fD k S1 λk=>(ms ρ S1).bind λys S2=>pD k ys S2
theorem aaR{apos cpos:ai}(ho:aS K cl E X a m)(ha:eN K cl E X [e] ms)(hbase:attributeBase a "pop" X.env (eval a X.env)=eval a X.env:=by rfl)
  (hfew:((backTo cpos (starEach [e] X.env)).all (λx=>!x.1)&&(backToKw cpos (keywordEach [] X.env)).all (λx=>x.1.isSome)&&decide (([e]:List ah).length+([]:List fz).length+(if([]:List fz).isEmpty then 0 else 1)<30))=true:=by rfl)
  (hline:(apos.endLine==cpos.line)=true:=by rfl)(hs:starEach [e] X.env=[(false,eval e X.env)]:=by rfl):aS K cl E X (.Call (.Attribute a "pop" apos) [e] [] cpos) (nQ m ms):=by
 intro hK;subst hK;refine PE.imp (xG uj PySem.F.slot_list_pop PySem.F.type_list_pop E6 (ho rfl) (ha rfl) hbase hfew hline hs rfl) ?_
 rintro σ H Q ⟨p,S,ρ,s,ev,h⟩
 refine bY s ev h λq H1 k x S1 st s1 e1 r1 h1=>?_;cases k with
 |pv v=>exact h1.elim
 |ref k=>
  have h1:bU X.K cl (bZ X.K) q H1 (fD (.ref k) S1 λk=>(ms ρ S1).bind λys S2=>pD k ys S2) Q E:=h1;rcases vL k S1 (λk=>(ms ρ S1).bind λys S2=>pD k ys S2)with z |⟨z,n1,n2⟩
  .rw[z]at h1
   exact h1.elim
  rw[z]at h1;refine⟨Dc s1 r1 n1 n2,bY s1 e1 h1 λq2 H2 ys xs S2 st2 s2 e2 r2 h2=>?_⟩;obtain⟨a,ea,rfl⟩:=st2.repA r1;unfold pD at h2;split at h2
  .rename_i i
   cases r2 with
   |cons r3 r4=>
    cases r4;rename_i x;have ex:x=.int i:=(show fG X.K q2 H2 (.int i) x from .inl r3).int;subst ex;split at h2
    .rename_i hi
     cases z:S2[k]? with
     |none=>rw[z]at h2;exact h2.elim
     |some o=>
      cases o with
      |lol _=>simp only[z]at h2;exact h2.elim
      |dic _ _=>simp only[z]at h2;exact h2.elim
      |dol _ _=>simp only[z]at h2;exact h2.elim
      |lst zs=>
       simp only[z]at h2;obtain⟨vs,h3,l3,r4⟩:=s2.obj k a _ ea z;cases y:seqIndex? i zs.length with
       |none=>simp only[y]at h2;exact h2.elim
       |some j=>
        simp only[y]at h2;cases yv:zs[j]? with
        |none=>simp only[yv]at h2;exact h2.elim
        |some v=>
         simp only[yv]at h2;obtain⟨u,eu,ru⟩:=r4.get yv;refine⟨a,vs,i,j,u,rfl,rfl,h3,hi.1,hi.2,by rw[<-r4.length];exact y,eu,?_⟩;obtain⟨dP,sm3⟩:=s2.write ea (ce.mp z).1 (ps:=zs.eraseIdx j) (vs:=vs.eraseIdx j) (fm (Oa vs j) l3) (r4.eraseIdx j);exact h2 _ _ u dP sm3 (dP.rep ru)
    .exact h2.elim
  .exact h2.elim
def qX(k:Nat)(i:AV)(v:AV)(S:aG):bP Unit:=match i,v with
 |.pv (.int i),.pv v=>match S[k]? with
  |some (.lst xs)=>match bF xs.length i with
   |some j=>.ok () (S.set k (.lst (xs.set j v)))
   |none=>.fail
  |_=>.fail
 |_,_=>.fail
def oR(mo mi mv:ME):MS:=λρ S=>cD.of (mv ρ S) λv S1=>cD.of (mo ρ S1) λk S2=>cD.of (mi ρ S2) λi S3=>cD.of (fD k S3 λk=>qX k i v S3) λ_ S4=>.nx ρ S4
theorem Sz{o i v:ah}{mo mi mv:ME}{tpos:ai}(hv:aS K cl E X v mv)(ho:aS K cl E X o mo)(hi:aS K cl E X i mi)
  (ha:∀v,assign (.Subscript o i tpos) X.env v=(do
   let ov <-holding [v] (eval o X.env)
   let iv <-holding [v,ov] (eval i X.env)
   standAt tpos
   holding [v,ov,iv] (setItem ov iv v)
   release [v,ov,iv] []):=by intro _;rfl)
  (hs:swapsWithSole [.Subscript o i tpos] v pos.line X.env=pure false:=by rfl)(hw:swappedStores [.Subscript o i tpos] v X.env=pure none:=by rfl)
  (h1:(assignEach [.Subscript o i tpos] X.env).map (·.2)=[assign (.Subscript o i tpos) X.env]:=by rfl):eG K cl E X (.Assign [.Subscript o i tpos] v pos) (oR mo mi mv):=by
 intro hK;subst hK;refine PS.imp (wL (hv rfl) (Wc (ho rfl) (hi rfl) Wk ha) hs hw h1) ?_
 rintro D σ H ⟨p,S,ρ,s,ev,h⟩
 refine iJ s ev h λq H1 v x S1 st s1 e1 r1 h1=>?_;refine iJ s1 e1 h1 λq2 H2 k y S2 st2 s2 e2 r2 h2=>?_;refine iJ s2 e2 h2 λq3 H3 i z S3 dP s3 e3 r3 h3=>?_;cases k with
 |pv _=>exact h3.elim
 |ref k=>
  obtain⟨a,ea,rfl⟩:=dP.repA r2;have rv:=dP.repA (st2.repA r1);have h3:dY X.K cl q3 H3 (cD.of (fD (.ref k) S3 λk=>qX k i v S3) λ_ S4=>.nx ρ S4) D E:=h3;rcases vL k S3 (λk=>qX k i v S3)with z0 |⟨z0,_,_⟩
  .rw[z0]at h3
   exact h3.elim
  rw[z0]at h3;unfold qX at h3;split at h3
  .rename_i ii vv _
   have ez:z=.int ii:=(show fG X.K q3 H3 (.int ii) z from .inl r3).int;subst ez;cases w:S3[k]? with
   |none=>rw[w]at h3;exact h3.elim
   |some o=>
    cases o with
    |lol _=>simp only[w]at h3;exact h3.elim
    |dic _ _=>simp only[w]at h3;exact h3.elim
    |dol _ _=>simp only[w]at h3;exact h3.elim
    |lst zs=>
     simp only[w]at h3;obtain⟨vs,hh,ll,rr⟩:=s3.obj k a _ ea w;cases y:bF zs.length ii with
     |none=>simp only[y]at h3;exact h3.elim
     |some j=>
      simp only[y]at h3;refine⟨a,vs,ii,j,rfl,rfl,hh,by rw[<-rr.length];exact y,?_⟩;obtain⟨st4,sm4⟩:=s3.write ea (ce.mp w).1 (ps:=zs.set j vv) (vs:=vs.set j x) (by rw[fk];exact ll) (aJ.set rv j rr);exact h3 _ _ _ st4 sm4 (st4.repE e3)
  .exact h3.elim
def eP:BE->BE->BE
 |x::xs,y::ys=>.tup [x,y]::eP xs ys
 |_,_=>[]
theorem Eb:∀(xs ys:BE),(eP xs ys).length=min xs.length ys.length
 |[],ys=>by cases ys<;>simp[eP]
 |x::xs,[]=>by simp[eP]
 |x::xs,y::ys=>by
  unfold eP;rw[ca,Eb xs ys,ca,ca];omega
theorem Nk:∀{xs ys:BE}{i:Nat}{v:PV},(eP xs ys)[i]?=some v->∃x y,xs[i]?=some x/\ys[i]?=some y/\v=.tup [x,y]
 |[],ys,i,v,e=>by cases ys<;>simp[eP]at e
 |x::xs,[],i,v,e=>by simp[eP]at e
 |x::xs,y::ys,0,v,e=>by
  unfold eP at e;simp at e;exact⟨x,y,rfl,rfl,e.symm⟩
 |x::xs,y::ys,i+1,v,e=>by
  unfold eP at e;obtain⟨a,b,h1,h2,h3⟩:=Nk (xs:=xs) (ys:=ys) (i:=i) (v:=v) (by simpa using e);exact⟨a,b,by simpa using h1,by simpa using h2,h3⟩
def kL:BH->aG->bP (BE×Gd)
 |[a,b],S=>match cR a S with
  |.ok xs _=>match cR b S with
   |.ok ys _=>.ok (eP xs.1 ys.1,xs.2++ys.2) S
   |_=>.fail
  |_=>.fail
 |_,_=>.fail
def gK(ms:MA):MI:=λρ S=>(ms ρ S).bind kL
theorem Xm{a:AV}{x:V}{xs:BE×Gd}{S':aG}(s:aU K p S H)(r:bZ K p H a x)(e:cR a S=.ok xs S'):∃f ad vs,x=.ref ad/\iZ f K H ad vs/\xs.1.length<=sizeLine/\∀q H1 S1,bO p H q H1->aU K q S1 H1->iC xs.2 S1->∃vs,iZ f K H1 ad vs/\aJ K q.c H1 xs.1 vs:=by
 cases a with
 |ref j=>
  obtain⟨a,e1,rfl⟩:=r;unfold cR at e;dsimp only at e;cases z:S[j]? with
  |none=>rw[z]at e;cases e
  |some o=>
   cases o with
   |lol _=>rw[z]at e;cases e
   |dic _ _=>rw[z]at e;cases e
   |dol _ _=>rw[z]at e;cases e
   |lst ys=>
    rw[z]at e;cases e;obtain⟨vs,h1,l1,r1⟩:=s.obj j a _ e1 z;refine⟨false,a,vs,rfl,bV.of h1,by rw[r1.length];exact l1,λq H1 S1 st sm g=>?_⟩;obtain⟨ws,h2,l2,r2⟩:=sm.obj j a _ (st.at_ e1) (g (j,ys) bf);exact⟨ws,bV.of h2,r2⟩
 |pv v=>
  cases v with
  |lst ys=>
   cases e;have r:aI K p.c H (.lst ys) x:=r;unfold aI at r;obtain⟨a,vs,rfl,l,z,r⟩:=r;exact⟨false,a,vs,rfl,l.sq,by rw[r.length];exact z,λq H1 S1 st sm g=>⟨vs,(st.lat l).sq,st.reps r⟩⟩
  |tup ys=>
   cases e;have r:aI K p.c H (.tup ys) x:=r;unfold aI at r;obtain⟨a,vs,rfl,l,z,r⟩:=r;exact⟨true,a,vs,rfl,l,by rw[r.length];exact z,λq H1 S1 st sm g=>⟨vs,st.tup l,st.reps r⟩⟩
  |_=>cases e
theorem aaB{elts:List ah}{x1:Nat}{tp p:ai}(hg:Gl X "zip")(hm:X.mg "zip"=none)(hl:eN K cl E X [a,b] ms)(hs:starEach [a,b] X.env=[(false,eval a X.env),(false,eval b X.env)]:=by rfl)(hs2:starEach [b] X.env=[(false,eval b X.env)]:=by rfl):
  PIp K cl E X (.Tuple elts x1 tp) (.Call (.Name "zip" p) [a,b] [] pos) (gK ms):=by
 intro hK;subst hK;refine PI.imp (abm hg hm (hl rfl) hs hs2) ?_
 rintro σ H R ⟨p,S,ρ,s,ev,h⟩
 refine bY s ev h λq H' as xs S' cN sm ev r k=>?_;unfold kL at k;split at k
 .rename_i u v
  cases r with
  |cons r1 r2=>
   cases r2 with
   |cons r2 r3=>
    cases r3;split at k
    .rename_i xs1 S1 hx
     split at k
     .rename_i ys1 S2 hy
      obtain⟨f1,a1,vs1,rfl,q1,z1,st1⟩:=Xm sm r1 hx;obtain⟨f2,a2,vs2,rfl,q2,z2,st2⟩:=Xm sm r2 hy;refine⟨f1,a1,f2,a2,vs1,vs2,rfl,q1,q2,bU.ret (R:=fE X.K) k sm ?_⟩;refine⟨by rw[Eb];omega,λq3 H3 S3 dP sm3 g3=>?_⟩;obtain⟨ws1,w1,rr1⟩:=st1 q3 H3 S3 dP sm3 λg hg=>g3 g (ld _ hg);obtain⟨ws2,w2,rr2⟩:=st2 q3 H3 S3 dP sm3 λg hg=>g3 g (df _ hg);refine⟨λi v e=>?_,?_⟩
      .obtain⟨x,y,ex,ey,rfl⟩:=Nk e
       obtain⟨x',ex',rx⟩:=rr1.get ex;obtain⟨y',ey',ry⟩:=rr2.get ey;refine⟨⟨ws1,ws2,x',y',w1,w2,ex',ey'⟩,λz H4 hz=>?_⟩;obtain⟨t,x2,y2,ht,rfl,rfl,g1,g2⟩:=hz;have e1:=(g1 ws1 w1).symm.trans ex';have e2:=(g2 ws2 w2).symm.trans ey';cases e1;cases e2;refine⟨gO ht,qK sm3 (.cons rx (.cons ry .nil)) (by show 2<=sizeLine;decide) ht⟩
      .refine⟨ws1,ws2,w1,w2,?_⟩
       show(eP xs1.1 ys1.1).length=_\/_;rw[Eb,rr1.length,rr2.length];omega
     .exact k.elim
    .exact k.elim
 .exact k.elim
def iU:Nat->BE->BE
 |_,[]=>[]
 |n,x::xs=>.tup [.int n,x]::iU (n+1) xs
theorem Na:∀(n:Nat)(xs:BE),(iU n xs).length=xs.length
 |_,[]=>rfl
 |n,x::xs=>by
  unfold iU;rw[ca,Na (n+1) xs,ca]
theorem Vi:∀{n:Nat}{xs:BE}{i:Nat}{v:PV},(iU n xs)[i]?=some v->∃x,xs[i]?=some x/\v=.tup [.int ((n+i:Nat):Int),x]
 |n,[],i,v,e=>by simp[iU]at e
 |n,x::xs,0,v,e=>by
  unfold iU at e;simp at e;exact⟨x,rfl,e.symm⟩
 |n,x::xs,i+1,v,e=>by
  unfold iU at e;obtain⟨y,h1,h2⟩:=Vi (n:=n+1) (xs:=xs) (i:=i) (v:=v) (by simpa using e);refine⟨y,by simpa using h1,?_⟩;rw[h2,show n+1+i=n+(i+1) by omega]
def Hd:BH->aG->bP (BE×Gd)
 |[.pv (.lst xs)],S=>.ok (iU 0 xs,[]) S
 |[.ref k],S=>match cR (.ref k) S with
  |.ok xs _=>.ok (iU 0 xs.1,xs.2) S
  |_=>.fail
 |_,_=>.fail
def xT(ms:MA):MI:=λρ S=>(ms ρ S).bind Hd
theorem Br{xs:BE}{G:Gd}{a:Addr}(z:xs.length<=sizeLine)(st1:∀q H1 S1,bO p H q H1->aU K q S1 H1->iC G S1->∃vs,bV K H1 a vs/\aJ K q.c H1 xs vs):fE K p H (iU 0 xs,G) (Uf K a):=by
 refine⟨by rw[Na];exact z,λq3 H3 S3 dP sm3 g3=>?_⟩;obtain⟨ws1,w1,rr1⟩:=st1 q3 H3 S3 dP sm3 g3;refine⟨λi v e=>?_,?_⟩
 .obtain⟨x,ex,rfl⟩:=Vi e
  obtain⟨x',ex',rx⟩:=rr1.get ex;refine⟨⟨ws1,x',w1,ex'⟩,λz H4 hz=>?_⟩;obtain⟨t,y2,ht,rfl,rfl,g1⟩:=hz;have e1:=(g1 ws1 w1).symm.trans ex';cases e1;refine⟨gO ht,qK sm3 (.cons ?_ (.cons rx .nil)) (by show 2<=sizeLine;decide) ht⟩;rw[Nat.zero_add];exact iR (v:=.int _) rfl
 .refine⟨ws1,w1,?_⟩
  show _<=(iU 0 xs).length;rw[Na,rr1.length];exact aj _
theorem N6{elts:List ah}{x1:Nat}{tp p:ai}(hg:Gl X "enumerate")(hm:X.mg "enumerate"=none)(hl:eN K cl E X [l] ms)(hs:starEach [l] X.env=[(false,eval l X.env)]:=by rfl):
  PIp K cl E X (.Tuple elts x1 tp) (.Call (.Name "enumerate" p) [l] [] pos) (xT ms):=by
 intro hK;subst hK;refine PI.imp (X7 hg hm (hl rfl) hs) ?_
 rintro σ H R ⟨p,S,ρ,s,ev,h⟩
 refine bY s ev h λq H' as xs S' cN sm ev r k=>?_;unfold Hd at k;split at k
 .rename_i ys
  cases r with
  |cons r1 r2=>
   cases r2;rename_i x;have r1:aI X.K q.c H' (.lst ys) x:=r1;unfold aI at r1;obtain⟨a,vs,rfl,l,z,r⟩:=r1;exact⟨a,rfl,⟨vs,l.sq⟩,bU.ret (R:=fE X.K) k sm (Br (by rw[r.length];exact z) λq H1 S1 st sm g=>⟨vs,(st.lat l).sq,st.reps r⟩)⟩
 .rename_i j
  cases r with
  |cons r1 r2=>
   cases r2;split at k
   .rename_i xs1 S1 hx
    obtain⟨a,e1,rfl⟩:=r1;cases z:S'[j]? with
    |none=>unfold cR at hx;simp only[z]at hx;cases hx
    |some o=>
     cases o with
     |lol _=>unfold cR at hx;simp only[z]at hx;cases hx
     |dic _ _=>unfold cR at hx;simp only[z]at hx;cases hx
     |dol _ _=>unfold cR at hx;simp only[z]at hx;cases hx
     |lst ys=>
      unfold cR at hx;simp only[z]at hx;cases hx;obtain⟨vs,h1,l1,r1⟩:=sm.obj j a _ e1 z;refine⟨a,rfl,⟨vs,bV.of h1⟩,bU.ret (R:=fE X.K) k sm (Br (by rw[r1.length];exact l1) λq H1 S1 st sm g=>?_)⟩;obtain⟨ws,h2,l2,r2⟩:=sm.obj j a _ (st.at_ e1) (g (j,ys) bf);exact⟨ws,bV.of h2,r2⟩
   .exact k.elim
 .exact k.elim
end
theorem jR{A:aq}{k:Nat}(hr:dS k A):A.units+8<cLine:=by
 have:=hr.units;omega
section
variable{K:ag}{cl:Str->Addr}{E:XK}{X:Cx}{a b c e l tg:ah}{es:List ah}{m ma mb:ME}{ms:MA}{pos:ai}{p q:Ph}{H H':Hp}{S:aG}
def jZ(n:String):PV->BF
 |.int _=>if n="int" then some (.bl true)else if n="bool" then some (.bl false)else none
 |.tup _=>if n="tuple" then some (.bl true)else none
 |.lst _=>if n="list" then some (.bl true)else none
 |.str _=>if n="str" then some (.bl true)else none
 |.bl _=>if n="bool" then some (.bl true)else none
 |_=>none
theorem sE(K:ag)(n:String):kq K (.type n) (.type n)=some true:=by
 unfold kq;rw[if_pos (beq_self_eq_true _)]
def Hf(K:ag)(n:String):V->Hp->VK->Prop:=λx H Q=>(∃t b,jJ K H x t/\kq K t (.type n)=some b/\Q (.bl b) H)\/(n="tuple"/\∃a xs,x=.ref a/\cT K H a xs/\Q (.bl true) H)\/(n="list"/\∃a xs,x=.ref a/\bV K H a xs/\Q (.bl true) H)
theorem Xj(n:String):iF X (.builtin "isinstance") (λxs H Q=>∃x,xs=[x,.ty n]/\Hf X.K n x H Q):=by
 intro BI s σ H xs us Q I r h;obtain⟨x,rfl,h⟩:=h;obtain⟨u,c,rfl,rx,rc⟩:=Ds r;cases(show c=kl n from rc);rcases h with⟨t,b,ty,e,q⟩|⟨rfl,a,xs,rfl,t,q⟩|⟨rfl,a,xs,rfl,t,q⟩
 .exact Xy I rx ty e λtk=>⟨.bl b,H,I.tok tk,rfl,q⟩
 .cases rx
  obtain⟨its,_,⟨o,h1,h2,_⟩,_⟩:=I.tuple t;exact ja zy I.kIn ⟨o,h1,h2⟩ (sE X.K "tuple") (λz=>nomatch z) λtk=>⟨.bl true,H,I.tok tk,rfl,q⟩
 .cases rx
  obtain⟨its,_,pl,_⟩:=I.list t;obtain⟨o,h1,h2,_⟩:=pl.isList;exact ja vp I.kIn ⟨o,h1,h2⟩ (sE X.K "list") (λz=>nomatch z) λtk=>⟨.bl true,H,I.tok tk,rfl,q⟩
theorem acn(n:String):uG K (Hf K n) (jZ n):=λ{p S H a c x Q} s ra e k=>by
 have fin:∀b,c=.bl b->Q (.bl b) H:=λb h=>by
  subst h;exact k H _ (dH.refl H) (by unfold aI;rfl)
 cases a with
 |int i=>
  cases ra.int;unfold jZ at e;dsimp only at e;split at e
  .rename_i hn
   cases e;subst hn;exact .inl ⟨_,true,.int i,sE K _,fin _ rfl⟩
  .split at e
   .rename_i hn
    cases e;subst hn;exact .inl ⟨_,false,.int i,aaS K,fin _ rfl⟩
   .cases e
 |bl i=>
  cases ra.bl;unfold jZ at e;dsimp only at e;split at e
  .rename_i hn
   cases e;subst hn;exact .inl ⟨_,true,.bl i,sE K _,fin _ rfl⟩
  .cases e
 |str i=>
  cases ra.str;unfold jZ at e;dsimp only at e;split at e
  .rename_i hn
   cases e;subst hn;exact .inl ⟨_,true,.str i,sE K _,fin _ rfl⟩
  .cases e
 |tup xs=>
  obtain⟨a,vs,rfl,t,_,_⟩:=ra.tup;unfold jZ at e;dsimp only at e;split at e
  .rename_i hn
   cases e;exact .inr (.inl ⟨hn,a,vs,rfl,t,fin _ rfl⟩)
  .cases e
 |lst xs=>
  obtain⟨a,vs,rfl,t,_,_⟩:=ra.lst;unfold jZ at e;dsimp only at e;split at e
  .rename_i hn
   cases e;exact .inr (.inr ⟨hn,a,vs,rfl,t,fin _ rfl⟩)
  .cases e
 |non=>cases e
theorem Yr{n:String}{t:Str}{p p2:ai}(hg:Gl X "isinstance")(hm:X.mg "isinstance"=none)(hgt:Gl X t)(hmt:X.mg t=none)(hv:bootBuiltins t=some (.type n))(ha:aS K cl E X a m)
  (htn:t≠"__name__":=by decide)(htd:(t==("__debug__":Str))=false:=by decide)
  (he:starEach [a,.Name t p2] X.env=(false,eval a X.env)::starEach [.Name t p2] X.env:=by rfl)(he2:starEach [.Name t p2] X.env=[(false,eval (.Name t p2) X.env)]:=by rfl)(hpl:(backTo pos (starEach [.Name t p2] X.env)).any (·.1)=false:=by rfl):
  aS K cl E X (.Call (.Name "isinstance" p) [a,.Name t p2] [] pos) (cL (jZ n) m):=by
 intro hK;subst hK;refine PE.imp (vK (Xj n) hg hm r8 (jT (ha rfl) (jT (Ap hgt hmt hv (v:=.ty n) rfl htn htd) lI he2) he) (by decide) (by decide) he hpl) ?_
 rintro σ H Q ⟨p,S,ρ,s,ev,h⟩
 exact bY s ev h λq H' as x S' cN sm ev r k=>⟨x,rfl,vC (acn n) sm r k⟩
def xR(K:ag):Sp:=λvs H Q _=>∃(a:Addr)(ns:AX),vs=[.ref a]/\bV K H a (ns.map V.int)/\ns.length<=63/\∀H',Q (.bl true) H'
theorem Q9{f:FM}(ht:∀ns:AX,ns.length<=63->∃S,f [.pv (.lst (ns.map .int))] []=.ok (.pv (.bl true)) S){vs:List V}{H:Hp}{Q:VK}{E:XK}(h:xR K vs H Q E):jM K cl f vs H Q E:=by
 obtain⟨a,ns,rfl,hS,hl,hQ⟩:=h;obtain⟨S,e⟩:=ht ns hl;have rs:∀(ns:AX),aJ K (λ_=>False) H (ns.map .int) (ns.map V.int):=λns=>by
  induction ns with
  |nil=>exact .nil
  |cons n ns ih=>exact .cons (by unfold aI;rfl) ih
 refine⟨⟨[],λ_=>False,λ_=>False⟩,[],[.pv (.lst (ns.map .int))],⟨kx,rfl,(λ_ h=>absurd h (gw)),(λ_ h=>h),(λ_ h=>h.elim),(λk a o e=>by simp at e)⟩,.cons ?_ .nil,?_⟩
 .show aI K (λ_=>False) H (.lst (ns.map .int)) (.ref a)
  unfold aI;refine⟨a,_,rfl,?_,?_,rs ns⟩
  .rcases hS with(h |h) |h
   .exact .inl ⟨h,λz=>z⟩
   .exact .inr (.inl h)
   .exact .inr (.inr h)
  .rw[ao,iD]
   omega
 .rw[e]
  intro q H' x st sm r;have r:aI K q.c H' (.bl true) x:=r;unfold aI at r;rw[r];exact hQ H'
end
section
variable{K:ag}{cl:Str->Addr}{E:XK}{X:Cx}{e:ah}{es:List ah}{ms:MA}{p q:Ph}{H H':Hp}{S:aG}
theorem dF.forget{ρ:bW}{σ:St}(h:dF K p H ρ σ)(i:Nat)(x:Option V):dF K p H (ρ.set i none) (σ.set i x):=by
 refine⟨by rw[fk,fk,h.len],λj u e=>?_⟩
 by_cases q:i=j
 .subst q
  by_cases l:i<ρ.length
  .rw[ee l]at e
   cases e
  .rw[kw (by rw[fk];omega)]at e
   cases e
 .rw[fh q]at e⊢
  exact h.at_ j u e
variable{k:Nat}{f:Addr}{fd:ck}{ps:List Str}{g:FM}{dvs:List V}{ds:BA}{dv:BE}{x:Str}{pp pos pos1 pos2 pos3 pc:ai}{c n:Str}{i nn:Nat}{BO:Stmt}{body:List Stmt}{newId:String}{up:bW->bW}
end
end L2.Pp
namespace L2
open PySem PySem.Spec PyProof.Rows Bn
section
variable{X:Cx}{k:Nat}{f:Addr}{fd:ck}{ps:List Str}{sp:Sp}{dvs:List V}{ds:BA}{x:Str}{p pos pos1 pos2 pos3 pc:ai}{e:ah}{es:List ah}{t:TA}{c n:Str}{C:Addr}{i:Nat}{BO:Stmt}{body:List Stmt}{newId:String}
end
end L2
namespace L2.Pp
open PySem PySem.Spec PyProof.Rows Bn
section
variable{K:ag}{cl:Str->Addr}{E:XK}{X:Cx}{e:ah}{es:List ah}{ms:MA}{p q:Ph}{H H':Hp}{S:aG}
variable{k:Nat}{f:Addr}{fd:ck}{ps:List Str}{g:FM}{dvs:List V}{ds:BA}{dv:BE}{x:Str}{pp pos pos1 pos2 pos3 pc:ai}{c n:Str}{i nn:Nat}{BO:Stmt}{body:List Stmt}{newId:String}{up:bW->bW}
end
section
variable{prog:Program}{w:am}{A:aq}{E:Value->aa->Prop}{s:aa}
end
end L2.Pp
namespace L2
open PySem PyProof.Rows
end L2
namespace L2.Pp
open PySem
end L2.Pp
namespace L2
open PySem PySem.Spec PyProof.Rows Bn
section
variable{X:Cx}
theorem Ah(is:AX):∀j,j<=is.length->preSum (λi=>is.getD i 0) j=(is.take j).sum
 |0,_=>by simp[preSum]
 |j+1,h=>by
  have hj:j<is.length:=h;rw[preSum,Ah is j (by omega),List.take_add_one,av hj,Option.toList_some,List.sum_append,List.sum_singleton];simp only[cf,av hj,uk]
theorem Ez(hc:X.calm=true):iF X (.builtin "sum") (λxs H Q=>∃(a:Addr)(is:AX),xs=[.ref a]/\bV X.K H a (is.map V.int)/\Q (.int is.sum) H):=by
 intro BI s σ H xs us Q I r h;obtain⟨a,is,rfl,hq,q⟩:=h;obtain⟨u,rfl,ru⟩:=jG r;cases ru;obtain⟨its,rv,pl,hz⟩:=I.list hq;have hl:is.length=its.length:=by
  have:=rv.length
  rwa[ao]at this
 refine call_sum_walkG (tj pl.isList ?_);have ha:a<s.heap.objs.size:=by
  obtain⟨o,ho,_⟩:=pl.isList;exact ay ho
 refine⟨_,_,_,_,_,_,λi=>is.getD i 0,rfl,Walks.list (prog:=X.prog) (w:=X.w) (A:=X.A.in1) (show X.A.in1.handled=none from I.ok.hd hc) s.heap.objs.size a (cx ha) its.toArray,⟨⟨_,da _ rfl,rfl,rfl⟩,Heap.IsList.at pl.isList λo e=>ar _ e⟩,λb hb=>?_,λi v hv=>?_,λh' tk t' kp=>?_⟩
 .have hb':b=s.heap.objs.size\/b=a:=by simpa using hb
  rw[ji];rcases hb' with e |e<;>rw[e]
  .exact yc _
  .exact ye ha
 .have hv':its[i]?=some v:=by simpa using hv
  have hi:i<is.length:=by
   have:=(ce.mp hv').1;omega
  obtain⟨u,hu,ru⟩:=rv.get (i:=i) (x:=.int is[i]) (by rw[ax,av hi];rfl);rw[hv']at hu;cases hu;obtain⟨t,ht⟩:=(show ∃t,v=oy is[i] t from ru);exact⟨t,by rw[ht];simp[cf,hi]⟩
 .have e:preSum (λi=>is.getD i 0) its.toArray.size=is.sum:=by
   rw[au,<-hl,Ah is _ (aj _),yf]
  show EP X BI σ Q (.int (preSum (λi=>is.getD i 0) its.toArray.size) t') _;rw[e];have I1:aF X BI σ H {s with heap:=s.heap.push {cls:=.type "list_iterator",data:=.fields #[.ref a,.int 0 0]},toks:=s.toks}:=I.kept λb o z=>ar _ z;have fp:fO X BI H s.heap.objs.size:=I.fpOk (aj _) (I.hok.fresh (aj _));obtain⟨f0,f1,f2,f3,f4,f5⟩:=fp;exact⟨.int is.sum,H,I1.turned (λb o hb z=>kp b o (by simpa using hb) z) f0 f1 f3 f4 f5,⟨t',rfl⟩,q⟩
end
end L2
namespace L2.Pp
open PySem PySem.Spec PyProof.Rows Bn
section
variable{K:ag}{cl:Str->Addr}{E:XK}{X:Cx}
def jF:BE->Option AX
 |[]=>some []
 |.int b::r=>match jF r with
  |some bs=>some (b::bs)
  |none=>none
 |_::_=>none
theorem Va{c:Addr->Prop}{H:Hp}:∀{xs:BE}{bs:AX}{vs:List V},jF xs=some bs->aJ K c H xs vs->vs=bs.map V.int
 |[],bs,vs,e,r=>by
  cases e;unfold aJ at r;exact r
 |.int b::xs,bs,vs,e,r=>by
  unfold jF at e;split at e
  .rename_i cs h
   cases e;unfold aJ at r;obtain⟨v,w,rfl,r1,r2⟩:=r;unfold aI at r1;rw[r1,Va h r2];rfl
  .cases e
 |.non::_,_,_,e,_=>by cases e
 |.bl _::_,_,_,e,_=>by cases e
 |.str _::_,_,_,e,_=>by cases e
 |.tup _::_,_,_,e,_=>by cases e
 |.lst _::_,_,_,e,_=>by cases e
def rC:BE->BF
 |[.lst xs]=>(jF xs).map λbs=>.int bs.sum
 |_=>none
theorem acO:kD K (λxs H Q=>∃(a:Addr)(is:AX),xs=[.ref a]/\bV K H a (is.map V.int)/\Q (.int is.sum) H) rC:=λ{p S H as c xs Q} s ra e k=>by
 unfold rC at e;split at e
 .rename_i zs
  cases y:jF zs with
  |none=>rw[y]at e;cases e
  |some bs=>
   rw[y]at e;cases e;cases ra with
   |cons h t=>
    cases t;obtain⟨a,vs,rfl,l,z,r⟩:=h.lst;rw[Va y r]at l;exact⟨a,bs,rfl,l,k H _ (dH.refl H) (iR (v:=.int _) rfl)⟩
 .cases e
end
section
variable{K:ag}{cl:Str->Addr}{E:XK}{X:Cx}{p q:Ph}{H H':Hp}{S:aG}
variable{sc:Scope}{own:List Str}{cap:List (Nat×Str)}{elt target iter:ah}{pos:ai}{mi:MI}{g:GM}{me:ME}
end
def hU{α:Type}(xs:List α)(lo hi:BD)(st:Int):List α:=
 (sliceRange (sliceBounds lo hi (some st) xs.length).1 (sliceBounds lo hi (some st) xs.length).2.1 (sliceBounds lo hi (some st) xs.length).2.2).filterMap (xs[·]?)
theorem Kh(its:BA)(lo hi:BD)(st:Int):slicePick its.toArray lo hi (some st)=(hU its lo hi st).toArray:=by
 unfold slicePick hU;rw[au];simp only[List.getElem?_toArray]
theorem Uj{α β:Type}{R:α->β->Prop}:∀{xs:List α}{ys:List β}(ks:List Nat),xs.length=ys.length->(ks.filterMap (xs[·]?)).length=(ks.filterMap (ys[·]?)).length
 |xs,ys,[],_=>rfl
 |xs,ys,k::ks,h=>by
  have ih:=Uj (R:=R) (xs:=xs) (ys:=ys) ks h
  by_cases hk:k<xs.length
  .have hk2:k<ys.length:=by omega
   rw[iu,iu,av hk,av hk2];simp[ih]
  .rw[iu,iu,kw (by omega),kw (by omega)]
   exact ih
theorem Qm{α:Type}(xs:List α)(lo hi:BD)(st:Int):(hU xs lo hi st).length<=xs.length:=by
 have e:=slicePick_size_le (yg xs.length bi) lo hi (some st);have e2:(hU xs lo hi st).length=(slicePick (yg xs.length bi) lo hi (some st)).size:=by
  have:=Kh (rm xs.length bi) lo hi st;rw[show yg xs.length bi=(rm xs.length bi).toArray by simp,this,au];unfold hU;rw[a6];exact Uj (R:=λ_ _=>True) _ (by simp)
 rw[e2];simpa using e
section
variable{K:ag}{cl:Str->Addr}{E:XK}{X:Cx}{e:ah}{m:ME}{pos p2:ai}
theorem bA.at_{xs:List V}{us:BA}(r:bA xs us):∀{k:Nat}{x:V},xs[k]?=some x->∃u,us[k]?=some u/\bQ x u:=λ{k x} h=>by
 obtain⟨u,e1,e2⟩:=r.get h;exact⟨u,e1,e2⟩
theorem bA.pick{xs:List V}{us:BA}(r:bA xs us):∀ks:List Nat,bA (ks.filterMap (xs[·]?)) (ks.filterMap (us[·]?))
 |[]=>.nil
 |k::ks=>by
  have ih:=bA.pick r ks;rw[iu,iu];cases h:xs[k]? with
  |none=>
   have:us[k]?=none:=by
    rw[s0]at h⊢;rw[<-r.length];exact h
   rw[this];exact ih
  |some x=>
   obtain⟨u,e1,e2⟩:=bA.at_ r h;rw[e1];exact .cons e2 ih
theorem aJ.pick{c:Addr->Prop}{H:Hp}{xs:BE}{us:List V}(r:aJ K c H xs us):∀ks:List Nat,aJ K c H (ks.filterMap (xs[·]?)) (ks.filterMap (us[·]?))
 |[]=>.nil
 |k::ks=>by
  have ih:=aJ.pick r ks;rw[iu,iu];cases h:xs[k]? with
  |none=>
   have:us[k]?=none:=by
    rw[s0]at h⊢;rw[<-r.length];exact h
   rw[this];exact ih
  |some x=>
   obtain⟨u,e1,e2⟩:=r.get h;rw[e1];exact .cons e2 ih
def Ye(v:PV)(lo hi:BD)(st:Int):BF:=match v with
 |.lst xs=>some (.lst (hU xs lo hi st))
 |_=>none
def mI(m:ME)(ml mh:MO)(st:Int):ME:=λρ S=>(m ρ S).bind λv S1=>(ml ρ S1).bind λlo S2=>(mh ρ S2).bind λhi S3=>iB ((rd S3 v).bind λx=>Ye x lo hi st) S3
def adQ(K:ag)(st:Int)(te:TE)(tl th:TO):TE:=λσ H Q=>te σ H λx H1=>tl σ H1 λl H2=>th σ H2 λu H3=>∃a xs,x=.ref a/\bV K H3 a xs/\∀p,H3 p=none->Q (.ref p) (aL H3 p (.lst (hU xs l u st)))
theorem Py{lo hi:Option ah}{es:ah}{te:TE}{tl th:TO}{st:Int}(h0:st≠0)(he:PE X e te)(hl:PO X lo tl)(hu:PO X hi th)(hst:PO X (some es) λ_ H Q=>Q (some st) H):PE X (.Subscript e (.Slice lo hi (some es) p2) pos) (adQ X.K st te tl th):=by
 intro BI s σ H Q I h;refine wo (bD (he BI s σ H _ I h) λv s1 hq=>?_);rcases hq with⟨x,H1,I1,r1,q1⟩;refine wpAny_Slice (bD (hl BI s1 σ H1 _ I1 q1) λvl s2 ⟨l,H2,I2,pl,q2⟩=>bD (hu BI s2 σ H2 _ I2 q2) λvu s3 hq=>?_);rcases hq with⟨u,H3,I3,pu,q3⟩;refine bD (hst BI s3 σ H3 (λo H'=>o=some st/\H'=H3) I3 ⟨rfl,rfl⟩) ?_
 rintro vs s4 ⟨o,H4,I4,ps,eo,eH⟩
 subst eo eH;obtain⟨a,xs,rfl,hx,q⟩:=q3;cases r1;have I5:aF X BI σ H4 {s4 with heap:=s4.heap.push {cls:=.type "slice",data:=.fields #[vl,vu,vs]}}:=I4.kept (t':=s4.toks) λb ob q=>ar _ q;obtain⟨its,r,ht,hz⟩:=I5.list hx;have hlen:=r.length;have hg:wpAny (model X.prog X.w) X.A (getItem (.ref a) (.ref s4.heap.objs.size)) (EP X BI σ Q) X.xe {s4 with heap:=s4.heap.push {cls:=.type "slice",data:=.fields #[vl,vu,vs]}}:=by
  refine f7 ht.isList (d7 ..) pl pu ps (by simpa using h0) ?_ (by rw[au]<;>omega);rw[Kh];refine⟨.ref _,_,I5.laid (t':=s4.toks) (o:=.lst (hU xs l u st)) (λb ob q=>ar _ q) (aj _) ?_,rfl,q _ (I5.hok.fresh (aj _))⟩;refine⟨fm (Qm xs l u st) hz,_,0,?_,da _ rfl⟩;unfold hU;rw[hlen];exact bA.pick r _
 show wpAny (model X.prog X.w) X.A (subscriptTail e (.Slice lo hi (some es) p2) (.ref a) (.ref s4.heap.objs.size)) (EP X BI σ Q) X.xe {s4 with heap:=s4.heap.push {cls:=.type "slice",data:=.fields #[vl,vu,vs]}};exact tail_any (ops:=[.ref a,.ref s4.heap.objs.size]) (T:="list") ht.isList.typeIs wr.lookup hg (by with_unfolding_all rfl)
theorem Dr{lo hi:Option ah}{es:ah}{ml mh:MO}{st:Int}(he:aS K cl E X e m)(hl:nZ K cl E X lo ml)(hu:nZ K cl E X hi mh)(hst:PO X (some es) λ_ H Q=>Q (some st) H)(h0:st≠0):aS K cl E X (.Subscript e (.Slice lo hi (some es) p2) pos) (mI m ml mh st):=by
 intro hK;subst hK;refine(Py h0 (he rfl) (hl rfl) (hu rfl) hst).imp ?_
 rintro σ H Q ⟨p,S,ρ,s,e,h⟩
 refine bY s e h λq H1 a x S1 st s1 e1 r1 h1=>bY s1 e1 h1 λq2 H2 lo lo' S2 st2 s2 e2 r2 h2=>bY s2 e2 h2 λq3 H3 hi hi' S3 dP s3 e3 r3 h3=>?_;cases r2;cases r3;have ra:=dP.repA (st2.repA r1);obtain⟨c,ec,k⟩:=oO s3 h3;cases z:rd S3 a with
 |none=>rw[z]at ec;cases ec
 |some v=>
  rw[z]at ec;have rv:=oQ s3 ra z;cases v with
  |lst xs=>
   have ec:some (PV.lst (hU xs lo hi _))=some c:=ec;cases ec;obtain⟨a1,vs,rfl,l1,z1,r1⟩:=rv.lst;refine⟨a1,vs,rfl,l1,λt ht=>k _ _ (gO ht) (lH s3 ?_ (fm (Qm vs lo hi _) z1) ht)⟩;unfold hU;rw[r1.length];exact aJ.pick r1 _
  |_=>cases ec
theorem aaw{j:Nat}{p1 p2:ai}:PO X (some (.UnaryOp .USub (.Constant (.int 1) j p1) p2)) λ_ H Q=>Q (some (-1)) H:=by
 intro BI s σ H Q I h;exact(Ac (Ss Mr wM)) BI s σ H Q I ⟨1,rfl,-1,rfl,h⟩
theorem abM{i:Int}{j:Nat}{p1:ai}:PO X (some (.Constant (.int i) j p1)) λ_ H Q=>Q (some i) H:=by
 intro BI s σ H Q I h;exact(Ac wM) BI s σ H Q I ⟨i,rfl,h⟩
end
section
variable{K:ag}{cl:Str->Addr}{E:XK}{X:Cx}
end
end L2.Pp
namespace L2
open PySem PySem.Spec PyProof.Rows Bn
open PySem.W (KasT kas_sort kas_ask KatLex KatGo KatTups kat_run kat_kind kat_lt kat_one kas_item kat_snds)
def mL{α:Type}(lt:Nat->Nat->Bool):ki α->α
 |.ret a=>a
 |.ask i j k=>mL lt (k (lt i j))
def iM{α:Type}(n:Nat):ki α->Bool
 |.ret _=>true
 |.ask i j k=>decide (i<n)&&decide (j<n)&&iM n (k true)&&iM n (k false)
theorem Il{α:Type}{cmp:Nat->Nat->(Bool->aa->Prop)->aa->Prop}{lt:Nat->Nat->Bool}{n:Nat}{s:aa}(hc:∀i j(C:Bool->aa->Prop),i<n->j<n->C (lt i j) s->cmp i j C s):∀(t:ki α)(Q:α->aa->Prop),iM n t=true->Q (mL lt t) s->t.kasWp cmp Q s
 |.ret a,Q,_,h=>h
 |.ask i j k,Q,ok,h=>by
  unfold iM at ok;simp only[jb,decide_eq_true_eq]at ok;obtain⟨⟨⟨hi,hj⟩,h1⟩,h2⟩:=ok;refine hc i j _ hi hj (Il hc (k (lt i j)) Q ?_ h);cases lt i j
  .exact h2
  .exact h1
def qV(h:Heap)(v:Value)(us:AX):Prop:=∃a o its n,v=.ref a/\h.get? a=some o/\o.cls=.type "tuple"/\o.data=.seq (fw its) n/\bA (us.map V.int) its
section
variable{prog:Program}{w:am}{A:aq}{E:Value->aa->Prop}{s:aa}
theorem Ip{Q:Bool->aa->Prop}:∀(us vs:AX)(its jts:BA)(i:Nat)(fin:Bool),bA (us.map V.int) its->bA (vs.map V.int) jts->fin=decide (us.length<vs.length)->Q (HT.lexLt us vs) s->KatLex prog w A true fin Q (its.zip jts) i s
 |[],vs,its,jts,i,fin,h1,h2,hf,hQ=>by
  cases h1;cases vs with
  |nil=>
   subst hf;exact ot hQ
  |cons v vs=>
   have e:fin=true:=by rw[hf];simp
   subst e;exact ot hQ
 |u::us,[],its,jts,i,fin,h1,h2,hf,hQ=>by
  cases h2;have e:fin=false:=by rw[hf];simp
  subst e;rw[vz];exact ot hQ
 |u::us,v::vs,its,jts,i,fin,h1,h2,hf,hQ=>by
  cases h1 with
  |cons r1 t1=>
   cases h2 with
   |cons r2 t2=>
    obtain⟨k1,rfl⟩:=r1;obtain⟨k2,rfl⟩:=r2;rw[rq];refine t5 (wpAny_eqBool_int ?_);rw[HT.lexLt_cons]at hQ
    by_cases e:u=v
    .rw[if_pos e]at hQ
     have b:(u==v)=true:=by simpa using e
     rw[b];exact t6 (Ip us vs _ _ (i+1) fin t1 t2 (by rw[hf];simp) hQ)
    .rw[if_neg e]at hQ
     have b:(u==v)=false:=by simpa using e
     rw[b];refine t7 ?_
     by_cases hi:i=0
     .subst hi
      exact oneLt_int hQ
     .have b2:(true&&i==0)=false:=by simpa using hi
      rw[b2];exact kat_one _ _ (PySem.P.lt_int hQ)
theorem abk{x y:Value}{us vs:AX}{Q:Bool->aa->Prop}(hx:qV s.heap x us)(hy:qV s.heap y vs)(h:Q (HT.lexLt us vs) s):wpAny (model prog w) A (keyLt' (tuples' true) x y) Q E s:=by
 obtain⟨a,o,its,n,rfl,ho,hc,hd,r⟩:=hx;obtain⟨b,o2,jts,k,rfl,ho2,hc2,hd2,r2⟩:=hy;refine kat_lt ho hd ho2 hd2 ?_;have l1:=r.length;have l2:=r2.length;rw[ao]at l1 l2;refine Ip us vs its jts 0 _ r r2 ?_ h;rw[au,au,l1,l2]
theorem Oh:∀(vs:BA)(uss:AY),vs.length=uss.length->(∀i,i<vs.length->qV s.heap (vs.getD i bi) (uss.getD i [])/\uss.getD i []≠[])->∃fs,KatTups s.heap vs fs/\fs.length=vs.length/\∀v∈fs,∃i t,v=.int i t
 |[],uss,_,_=>⟨[],trivial,rfl,λ_ h=>absurd h gw⟩
 |v::vs,[],hl,_=>by cases hl
 |v::vs,us::uss,hl,h=>by
  obtain⟨fs,k,l,q⟩:=Oh vs uss (by simpa using hl) λi hi=>by
   have:=h (i+1) (by simp;omega);simpa using this
  obtain⟨⟨a,o,its,n,e,ho,hc,hd,r⟩,ne⟩:=h 0 (by simp);have e:v=.ref a:=e;subst e;cases us with
  |nil=>exact absurd rfl ne
  |cons u us=>
   have r:bA (V.int u::us.map V.int) its:=r;cases r with
   |cons r1 t1=>
    obtain⟨t,rfl⟩:=r1;refine⟨.int u t::fs,t9 ho hc hd (by simp) k,by simp[l],λx hx=>?_⟩;rcases cj.mp hx with rfl |hx
    .exact⟨u,t,rfl⟩
    .exact q x hx
def dN(uss:AY):List Nat:=(mL (λi j=>HT.lexLt (uss.getD i []) (uss.getD j [])) (je uss.length)).toList
theorem Lv{a:Addr}{vs:BA}{uss:AY}{n:Nat}{P:qr->aa->Prop}(ho:s.heap.get? a=some (seqObj "list" vs.toArray n))(hl:vs.length=uss.length)(h2:2<=vs.length)(h64:vs.length<64)(ok:iM uss.length (je uss.length)=true)
  (tu:∀i,i<vs.length->qV s.heap (vs.getD i bi) (uss.getD i [])/\uss.getD i []≠[])
  (h:P (.done (.ret .none)) {s with heap:=sortedHeap s.heap a vs (fw ((dN uss).map λi=>vs.getD i bi))}):
  wpAny (model prog w) A (Builtin.«list.sort» ⟨[.ref a],[]⟩) P E s:=by
 have ha:a<s.heap.objs.size:=ay ho;obtain⟨e1,ho1⟩:∃e1,(s.heap.update a (dq λ_=>(#[]:Array Value))).get? a=some (seqObj "list" #[] e1):=⟨_,ou ho λ_=>#[]⟩;have kp:∀b o,b≠a->s.heap.get? b=some o->(((s.heap.update a (dq λ_=>(#[]:Array Value))).push (seqObj "tuple" vs.toArray 0)).push (seqObj "list" #[] 0)).get? b=some o:=λb o hb e=>
  ar _ (ar _ ((ow _ _ _ _ hb).trans e))
 have tu2:∀i,i<vs.length->qV (((s.heap.update a (dq λ_=>(#[]:Array Value))).push (seqObj "tuple" vs.toArray 0)).push (seqObj "list" #[] 0)) (vs.getD i bi) (uss.getD i [])/\uss.getD i []≠[]:=λi hi=>by
  obtain⟨⟨b,o,its,m,e,hb,hc,hd,r⟩,ne⟩:=tu i hi;refine⟨⟨b,o,its,m,e,kp b o (λz=>?_) hb,hc,hd,r⟩,ne⟩;subst z;rw[ho]at hb;cases hb;have hc:kl "list"=kl "tuple":=hc;injection hc with hc;exact absurd hc (by decide)
 have na:(((s.heap.update a (dq λ_=>(#[]:Array Value))).push (seqObj "tuple" vs.toArray 0)).push (seqObj "list" #[] 0)).get? a=some (seqObj "list" #[] e1):=ar _ (ar _ ho1);rw[list_sort_plain];refine ae (listItems_at ho rfl ?_);refine ae (qs ho rfl ?_ (by rw[au,ik];omega) (de _));refine ae (qu ho1 rfl ?_);refine ae (xu ?_ (by show vs.length<=_;rw[ik];omega));refine ae (ul ?_ (de _));refine jm ?_;show wpAny (model prog w) A _ P E {s with heap:=((s.heap.update a (dq λ_=>(#[]:Array Value))).push (seqObj "tuple" vs.toArray 0)).push (seqObj "list" #[] 0)};dsimp only;have hn2:¬vs.toArray.size<2:=by rw[au];omega
 rw[if_neg hn2,if_neg hn2];obtain⟨fs,kt,lf,qf⟩:=Oh (s:={s with heap:=((s.heap.update a (dq λ_=>(#[]:Array Value))).push (seqObj "tuple" vs.toArray 0)).push (seqObj "list" #[] 0)}) vs uss hl tu2;refine ae (kat_kind (T:=.type "int") kt (by omega) (λv hv=>?_) rfl ?_)
 .obtain⟨i,t,rfl⟩:=qf v hv
  exact .now
 have bt:(kl "int" !=kl "tuple")=true:=by decide
 rw[bt];refine ae (ft (kat_run (Q:=λst' s'=>∃p:Array Nat,p.size=vs.length/\arrOf st'=p.map (kas_item (vs.toArray.zip vs.toArray))/\failedOf st'=none/\p.toList=dN uss/\s'={s with heap:=((s.heap.update a (dq λ_=>(#[]:Array Value))).push (seqObj "tuple" vs.toArray 0)).push (seqObj "list" #[] 0)})
  (G:=λp s'=>p.toList=dN uss/\s'={s with heap:=((s.heap.update a (dq λ_=>(#[]:Array Value))).push (seqObj "tuple" vs.toArray 0)).push (seqObj "list" #[] 0)})
  rfl h2 h64 (λp' st' s' a1 a2 a3 a4=>⟨p',a1,a2,a3,a4⟩) ?_) ?_ λ_ _ e=>e)
 .rw[hl]
  refine Il (lt:=λi j=>HT.lexLt (uss.getD i []) (uss.getD j [])) (n:=uss.length) (λi j C hi hj hC=>?_) _ _ ok ⟨rfl,rfl⟩;exact abk (tu2 i (by omega)).1 (tu2 j (by omega)).1 hC
 rintro⟨⟨⟩,st'⟩ s' ⟨p,hp,har,hf,hpl,rfl⟩
 dsimp only;have hout:=kat_snds rfl har;have hsz:(fw (p.toList.map λi=>vs.getD i bi)).size=vs.length:=by rw[au,ao,nu,hp]
 rw[hout];refine ae (qu na rfl ?_);refine ae (qs na rfl ?_ (de _) (fm (su hsz) (by rw[ik];omega)));rw[hf];simp only[bne_self_eq_false,yh,if_false];refine ak ?_;rw[hpl];exact h
theorem Vx{l:Addr}{o:Obj}{T:String}{vs:BA}{uss:AY}{n:Nat}{Q:Value->aa->Prop}(hT:T="list"\/T="tuple")(ho:s.heap.get? l=some o)(hc:o.cls=.type T)(hd:o.data=.seq vs.toArray n)(hl:vs.length=uss.length)(h2:2<=vs.length)(h64:vs.length<64)(ok:iM uss.length (je uss.length)=true)
  (tu:∀i,i<vs.length->qV s.heap (vs.getD i bi) (uss.getD i [])/\uss.getD i []≠[])
  (h:∀(h1 h':Heap)(c:Nat),(∀b o',s.heap.get? b=some o'->h1.get? b=some o')->(∀b o',h1.get? b=some o'->h'.get? b=some o')->h'.get? h1.objs.size=some (seqObj "list" (fw ((dN uss).map λi=>vs.getD i bi)) c)->Q (.ref h1.objs.size) {s with heap:=h'}):
  wpAny (model prog w) A (call (.builtin "sorted") [.ref l]) Q E s:=by
 refine u4 kind_sorted plain_sorted entry_sorted (args_sorted1 _) ?_;unfold u5;refine ae (m:=checkCount "sorted" 1 1 _) (ak ?_);refine ae (yi l hT ho hc hd (λh1 k1=>?_) (by rw[au,ik];omega));refine ae (ul ?_ (by rw[ik];simp;omega));have hoL:(h1.push (seqObj "list" vs.toArray 0)).get? h1.objs.size=some (seqObj "list" vs.toArray 0):=da _ rfl;show wpAny _ _ _ _ _ {s with heap:=h1.push (seqObj "list" vs.toArray 0)};refine ae (jm (ju slot_list_sort ⟨_,hoL,rfl⟩ entry_list_sort ?body (args_list_sort _)))
 case body=>
  refine Lv (s:={s with heap:=h1.push (seqObj "list" vs.toArray 0)}) hoL hl h2 h64 ok (λi hi=>?_) ⟨_,rfl,ak ⟨_,rfl,?_⟩⟩
  .obtain⟨⟨b,o,its,m,e,hb,hc,hd,r⟩,ne⟩:=tu i hi
   exact⟨⟨b,o,its,m,e,ar _ (k1 b o hb),hc,hd,r⟩,ne⟩
  .obtain⟨e1,ho1⟩:∃e1,((h1.push (seqObj "list" vs.toArray 0)).update h1.objs.size (dq λ_=>(#[]:Array Value))).get? h1.objs.size=some (seqObj "list" #[] e1):=⟨_,ou hoL λ_=>#[]⟩
   have ho2:=ar (seqObj "list" #[] 0) (ar (seqObj "tuple" vs.toArray 0) ho1);obtain⟨e2,ho3⟩:∃e2,(sortedHeap (h1.push (seqObj "list" vs.toArray 0)) h1.objs.size vs (fw ((dN uss).map λi=>vs.getD i bi))).get? h1.objs.size=some (seqObj "list" (fw ((dN uss).map λi=>vs.getD i bi)) e2):=⟨_,ou ho2 λ_=>fw ((dN uss).map λi=>vs.getD i bi)⟩;refine h h1 _ e2 k1 (λb o' hb1=>?_) ho3;have hne:b≠h1.objs.size:=cx (ay hb1);exact(ow _ _ _ _ hne).trans (ar _ (ar _ ((ow _ _ _ _ hne).trans (ar _ hb1))))
end
def Oe(K:ag)(H:Hp)(ts:List V)(uss:AY):Prop:=ts.length=uss.length/\∀i t,ts[i]?=some t->∃a,t=.ref a/\cT K H a ((uss.getD i []).map V.int)/\uss.getD i []≠[]
theorem Mx{X:Cx}:iF X (.builtin "sorted") (λxs H Q=>∃(a:Addr)(ts:List V)(uss:AY),xs=[.ref a]/\(bV X.K H a ts\/cT X.K H a ts)/\Oe X.K H ts uss/\2<=ts.length/\ts.length<64/\iM uss.length (je uss.length)=true/\(dN uss).length<=64/\
  ∀l,H l=none->Q (.ref l) (aL H l (.lst ((dN uss).map λi=>ts.getD i .non)))):=by
 intro BI s σ H xs us Q I r h;obtain⟨a,ts,uss,rfl,hq,⟨hl,ht⟩,h2,h64,ok,hpl,q⟩:=h;obtain⟨u,rfl,ru⟩:=jG r;cases ru;have go:∀(its:BA)(T:String)(o:Obj)(n:Nat),bA ts its->(T="list"\/T="tuple")->s.heap.get? a=some o->o.cls=.type T->o.data=.seq its.toArray n->ts.length<=sizeLine->
   wpAny (model X.prog X.w) X.A (call (.builtin "sorted") [.ref a]) (EP X BI σ Q) X.xe s:=λits T o n rv hT ho hc hd hz=>by
  have hlen:=rv.length;refine Vx (uss:=uss) hT ho hc hd (by omega) (by omega) (by omega) ok (λi hi=>?_) λh1 h' c k1 k2 e=>?_
  .have hi':i<ts.length:=by omega
   obtain⟨b,e1,sq,ne⟩:=ht i ts[i] (av hi');obtain⟨v,e2,rel⟩:=rv.get (av hi');rw[e1]at rel;cases rel;obtain⟨jts,rj,⟨o2,ho2,hc2,m,hd2⟩,_⟩:=I.tuple sq;refine⟨⟨b,o2,jts,m,?_,ho2,hc2,hd2,rj⟩,ne⟩;rw[cf,e2];rfl
  .have I1:aF X BI σ H {s with heap:=h1,toks:=s.toks}:=I.kept k1
   have hz2:((dN uss).map λi=>ts.getD i .non).length<=sizeLine:=by
    rw[ao,ik];omega
   have rel:∀ps:List Nat,bA (ps.map λi=>ts.getD i .non) (ps.map λi=>its.getD i bi):=λps=>by
    induction ps with
    |nil=>exact .nil
    |cons i ps ih=>
     refine .cons ?_ ih
     by_cases hi:i<ts.length
     .obtain⟨v,e2,rr⟩:=rv.get (av hi)
      have q1:ts.getD i .non=ts[i]:=by simp[cf,hi]
      have q2:its.getD i bi=v:=by simp[cf,e2]
      show bQ (ts.getD i .non) (its.getD i bi);rw[q1,q2];exact rr
     .have q1:ts.getD i .non=.non:=by simp[cf,hi]
      have q2:its.getD i bi=bi:=by simp[cf,show its.length<=i by omega]
      show bQ (ts.getD i .non) (its.getD i bi);rw[q1,q2];rfl
   refine⟨.ref h1.objs.size,_,I1.laid (t':=s.toks) (o:=.lst ((dN uss).map λi=>ts.getD i .non)) k2 (aj _) ?_,rfl,q _ (I1.hok.fresh (aj _))⟩;exact⟨hz2,_,c,rel _,e⟩
 rcases hq with hq |hq
 .obtain⟨its,rv,pl,hz⟩:=I.list hq
  obtain⟨o,ho,hc,n,hd⟩:=pl.isList;exact go its "list" o n rv (.inl rfl) ho hc hd hz
 .obtain⟨its,rv,⟨o,ho,hc,n,hd⟩,hz⟩:=I.tuple hq
  exact go its "tuple" o n rv (.inr rfl) ho hc hd hz
end L2
namespace L2.Pp
open PySem PySem.Spec PyProof.Rows Bn
open PySem.W (kas_sort)
section
variable{K:ag}
def iT:BE->Option AY
 |[]=>some []
 |.tup us::r=>match jF us,iT r with
  |some is,some uss=>some (is::uss)
  |_,_=>none
 |_::_=>none
theorem Hl:∀{xs:BE}{uss:AY},iT xs=some uss->xs.length=uss.length
 |[],uss,e=>by cases e;rfl
 |.tup us::r,uss,e=>by
  unfold iT at e;split at e
  .rename_i is uss' h1 h2
   cases e;rw[ca,ca,Hl h2]
  .cases e
 |.non::_,_,e=>by cases e
 |.bl _::_,_,e=>by cases e
 |.int _::_,_,e=>by cases e
 |.str _::_,_,e=>by cases e
 |.lst _::_,_,e=>by cases e
theorem So{c:Addr->Prop}{H:Hp}:∀{xs:BE}{uss:AY}{vs:List V},iT xs=some uss->aJ K c H xs vs->∀i t,vs[i]?=some t->∃a,t=.ref a/\cT K H a ((uss.getD i []).map V.int)
 |[],uss,vs,e,r,i,t,h=>by
  unfold aJ at r;subst r;simp at h
 |.tup us::r,uss,vs,e,rr,i,t,h=>by
  unfold iT at e;split at e
  .rename_i is uss' h1 h2
   cases e;unfold aJ at rr;obtain⟨v,w,rfl,r1,r2⟩:=rr;cases i with
   |zero=>
    cases h;unfold aI at r1;obtain⟨a,ws,rfl,sq,_,r3⟩:=r1;rw[Va h1 r3]at sq;exact⟨a,rfl,sq⟩
   |succ i=>
    have:=So h2 r2 i t (by simpa using h);simpa using this
  .cases e
 |.non::_,_,_,e,_,_,_,_=>by cases e
 |.bl _::_,_,_,e,_,_,_,_=>by cases e
 |.int _::_,_,_,e,_,_,_,_=>by cases e
 |.str _::_,_,_,e,_,_,_,_=>by cases e
 |.lst _::_,_,_,e,_,_,_,_=>by cases e
def Me(uss:AY):Prop:=2<=uss.length/\uss.length<64/\iM uss.length (je uss.length)=true/\(dN uss).length<=64/\∀us∈uss,us≠[]
def Ae(xs:BE)(uss:AY):BE:=(dN uss).map λi=>xs.getD i .non
open Classical in
noncomputable def qT(xs:BE):BF:=match iT xs with
 |some uss=>if Me uss then some (.lst (Ae xs uss))else none
 |none=>none
noncomputable def sO:BE->BF
 |[.lst xs]=>qT xs
 |[.tup xs]=>qT xs
 |_=>none
theorem vB{c:Addr->Prop}{H:Hp}{xs:BE}{vs:List V}(r:aJ K c H xs vs):∀ps:List Nat,aJ K c H (ps.map λi=>xs.getD i .non) (ps.map λi=>vs.getD i .non)
 |[]=>.nil
 |i::ps=>by
  refine .cons ?_ (vB r ps)
  by_cases hi:i<xs.length
  .obtain⟨v,e1,e2⟩:=r.get (av hi)
   have q1:xs.getD i .non=xs[i]:=by simp[cf,hi]
   have q2:vs.getD i .non=v:=by simp[cf,e1]
   show aI K c H (xs.getD i .non) (vs.getD i .non);rw[q1,q2];exact e2
  .have hl:=r.length
   have q1:xs.getD i .non=.non:=by simp[cf,hi]
   have q2:vs.getD i .non=.non:=by simp[cf,show vs.length<=i by omega]
   show aI K c H (xs.getD i .non) (vs.getD i .non);rw[q1,q2];unfold aI;rfl
theorem abN:kD K (λxs H Q=>∃(a:Addr)(ts:List V)(uss:AY),xs=[.ref a]/\(bV K H a ts\/cT K H a ts)/\Oe K H ts uss/\2<=ts.length/\ts.length<64/\iM uss.length (je uss.length)=true/\(dN uss).length<=64/\
  ∀l,H l=none->Q (.ref l) (aL H l (.lst ((dN uss).map λi=>ts.getD i .non)))) sO:=λ{p S H as c xs Q} s ra e k=>by
 have key:∀(zs:BE)(a:Addr)(vs:List V),qT zs=some c->(bV K H a vs\/cT K H a vs)->aJ K p.c H zs vs->∃(a':Addr)(ts:List V)(uss:AY),[V.ref a]=[.ref a']/\(bV K H a' ts\/cT K H a' ts)/\Oe K H ts uss/\2<=ts.length/\ts.length<64/\iM uss.length (je uss.length)=true/\(dN uss).length<=64/\
   ∀l,H l=none->Q (.ref l) (aL H l (.lst ((dN uss).map λi=>ts.getD i .non))):=λzs a vs e sq r=>by
  unfold qT at e;split at e
  .rename_i uss hu
   split at e
   .rename_i hc
    cases e;obtain⟨c1,c2,c3,c4,c5⟩:=hc;have l1:=Hl hu;have l2:=r.length;refine⟨a,vs,uss,rfl,sq,⟨by omega,λi t h=>?_⟩,by omega,by omega,c3,c4,λl hl=>?_⟩
    .obtain⟨b,e1,e2⟩:=So hu r i t h
     have hi:i<uss.length:=by
      have:=(ce.mp h).1;omega
     refine⟨b,e1,e2,?_⟩;rw[cf,av hi];exact c5 _ (iz hi)
    .refine k _ _ (gO hl) (lH s (vB r _) ?_ hl)
     rw[ao,iD];omega
   .cases e
  .cases e
 unfold sO at e;split at e
 .rename_i zs
  cases ra with
  |cons h t=>
   cases t;obtain⟨a,vs,rfl,l,z,r⟩:=h.lst;exact key zs a vs e (.inl l) r
 .rename_i zs
  cases ra with
  |cons h t=>
   cases t;obtain⟨a,vs,rfl,l,z,r⟩:=h.tup;exact key zs a vs e (.inr l) r
 .cases e
end
end L2.Pp
namespace L2
section
open PySem.W (KasT kas_sort)
theorem Th{α:Type}{lt lt':Nat->Nat->Bool}{n:Nat}(h:∀i j,i<n->j<n->lt i j=lt' i j):∀t:ki α,iM n t=true->mL lt t=mL lt' t
 |.ret a,_=>rfl
 |.ask i j k,ok=>by
  unfold iM at ok;simp only[jb,decide_eq_true_eq]at ok;obtain⟨⟨⟨hi,hj⟩,h1⟩,h2⟩:=ok;show mL lt (k (lt i j))=mL lt' (k (lt' i j));rw[<-h i j hi hj];refine Th h (k (lt i j)) ?_;cases lt i j
  .exact h2
  .exact h1
theorem jU:∀u:AX,HT.lexLt u u=false
 |[]=>rfl
 |x::u=>by rw[HT.lexLt_cons,if_pos rfl,jU u]
theorem vS:∀u v:AX,u=v\/HT.lexLt u v=true\/HT.lexLt v u=true
 |[],[]=>.inl rfl
 |[],_::_=>.inr (.inl rfl)
 |_::_,[]=>.inr (.inr rfl)
 |x::u,y::v=>by
  rw[HT.lexLt_cons,HT.lexLt_cons]
  by_cases h:x=y
  .subst h
   rw[if_pos rfl,if_pos rfl];rcases vS u v with h |h |h
   .exact .inl (by rw[h])
   .exact .inr (.inl h)
   .exact .inr (.inr h)
  .rw[if_neg h,if_neg (λz=>h z.symm)]
   by_cases q:x<y
   .exact .inr (.inl (by simpa using q))
   .exact .inr (.inr (by simp;omega))
theorem qC:∀u v w:AX,HT.lexLt u v=true->HT.lexLt v w=true->HT.lexLt u w=true
 |[],[],_,h,_=>by cases h
 |[],_::_,[],_,h=>by cases h
 |[],_::_,_::_,_,_=>rfl
 |_::_,[],_,h,_=>by cases h
 |_::_,_::_,[],_,h=>by cases h
 |x::u,y::v,z::w,h1,h2=>by
  rw[HT.lexLt_cons]at h1 h2⊢
  by_cases e1:x=y
  .subst e1
   rw[if_pos rfl]at h1
   by_cases e2:x=z
   .rw[if_pos e2]at h2⊢
    exact qC u v w h1 h2
   .rw[if_neg e2]at h2⊢
    exact h2
  .rw[if_neg e1]at h1
   have h1:x<y:=by simpa using h1
   by_cases e2:y=z
   .subst e2
    rw[if_neg e1];simpa using h1
   .rw[if_neg e2]at h2
    have h2:y<z:=by simpa using h2
    rw[if_neg (by omega)];simp;omega
theorem C8{u v:AX}(h:HT.lexLt u v=true):HT.lexLt v u=false:=by
 cases q:HT.lexLt v u with
 |false=>rfl
 |true=>
  have:=qC u v u h q;rw[jU]at this;cases this
theorem J1{u v:AX}(h:HT.lexLt u v=false)(g:HT.lexLt v u=false):u=v:=by
 rcases vS u v with e |e |e
 .exact e
 .rw[h]at e;cases e
 .rw[g]at e;cases e
def r3(a b c d e f:Bool):Bool:=(!(a&&b)||c)&&(!(d&&e)||f)
def yM(b:Nat->Nat->Bool)(n:Nat):Bool:=(bj n).all λi=>!(b i i)&&(bj n).all λj=>!(b i j&&b j i)&&(bj n).all λk=>(!(b i j&&b j k)||b i k)&&(b i j||b j k|| !(b i k))
def xH(b:Nat->Nat->Bool)(n:Nat)(ps:List (List Nat)):Bool:=let p:=(mL b (je n)).toList
 ps.contains p&&(bj n).all λi=>(bj n).all λj=>!(decide (i<j))|| !(b (p.getD j 0) (p.getD i 0))
def Tc:List (List Nat):=[[0,1,2],[0,2,1],[1,0,2],[1,2,0],[2,0,1],[2,1,0]]
def Yd:List (List Nat):=[[0,1,2,3],[0,1,3,2],[0,2,1,3],[0,2,3,1],[0,3,1,2],[0,3,2,1],[1,0,2,3],[1,0,3,2],[1,2,0,3],[1,2,3,0],[1,3,0,2],[1,3,2,0],
 [2,0,1,3],[2,0,3,1],[2,1,0,3],[2,1,3,0],[2,3,0,1],[2,3,1,0],[3,0,1,2],[3,0,2,1],[3,1,0,2],[3,1,2,0],[3,2,0,1],[3,2,1,0]]
def Lf(b01 b02 b10 b12 b20 b21:Bool)(i j:Nat):Bool:=match i,j with
 |0,1=>b01 |0,2=>b02 |1,0=>b10 |1,2=>b12 |2,0=>b20 |2,1=>b21 |_,_=>false
def Of(b01 b02 b03 b10 b12 b13 b20 b21 b23 b30 b31 b32:Bool)(i j:Nat):Bool:=match i,j with
 |0,1=>b01 |0,2=>b02 |0,3=>b03 |1,0=>b10 |1,2=>b12 |1,3=>b13 |2,0=>b20 |2,1=>b21 |2,3=>b23 |3,0=>b30 |3,1=>b31 |3,2=>b32 |_,_=>false
theorem Ps:iM 3 (je 3)=true:=by decide+kernel
theorem Ws:iM 4 (je 4)=true:=by decide+kernel
theorem adz:∀b01 b02 b10 b12 b20 b21:Bool,yM (Lf b01 b02 b10 b12 b20 b21) 3=true->xH (Lf b01 b02 b10 b12 b20 b21) 3 Tc=true:=by decide+kernel
theorem adT:∀b01 b02 b03 b10 b12 b13 b20 b21 b23 b30 b31 b32:Bool,yM (Of b01 b02 b03 b10 b12 b13 b20 b21 b23 b30 b31 b32) 4=true->xH (Of b01 b02 b03 b10 b12 b13 b20 b21 b23 b30 b31 b32) 4 Yd=true:=by decide+kernel
theorem Sr{b:Nat->Nat->Bool}{n:Nat}{uss:AY}(h:∀i j,i<n->j<n->b i j=HT.lexLt (uss.getD i []) (uss.getD j [])):yM b n=true:=by
 unfold yM;simp only[ke,vg,jb,o3,Bool.or_eq_true,Bool.and_eq_false_imp];intro i hi;refine⟨by rw[h i i hi hi,jU],λj hj=>⟨λq=>?_,λk hk=>⟨?_,?_⟩⟩⟩
 .rw[h i j hi hj]at q
  rw[h j i hj hi,C8 q]
 .rw[h i j hi hj,h j k hj hk,h i k hi hk]
  cases q1:HT.lexLt (uss.getD i []) (uss.getD j [])with
  |false=>exact .inl λz=>by cases z
  |true=>
   cases q2:HT.lexLt (uss.getD j []) (uss.getD k [])with
   |false=>exact .inl λ_=>rfl
   |true=>exact .inr (qC _ _ _ q1 q2)
 .rw[h i j hi hj,h j k hj hk,h i k hi hk]
  cases q1:HT.lexLt (uss.getD i []) (uss.getD j [])with
  |true=>exact .inl (.inl rfl)
  |false=>
   cases q2:HT.lexLt (uss.getD j []) (uss.getD k [])with
   |true=>exact .inl (.inr rfl)
   |false=>
    refine .inr ?_;cases q3:HT.lexLt (uss.getD i []) (uss.getD k [])with
    |false=>rfl
    |true=>
     rcases vS (uss.getD i []) (uss.getD j [])with e |e |e
     .rw[e]at q3;rw[q2]at q3;cases q3
     .rw[q1]at e;cases e
     .have:=qC _ _ _ e q3
      rw[q2]at this;cases this
end
section
open PySem.W (KasT kas_sort)
def eW(uss:AY):AY:=(dN uss).map λi=>uss.getD i []
def pJ(u v:AX):Prop:=HT.lexLt v u=false
theorem Cj{uss:AY}{n:Nat}{ps:List (List Nat)}(hl:uss.length=n)(ok:iM n (je n)=true){b:Nat->Nat->Bool}(hb:∀i j,i<n->j<n->b i j=HT.lexLt (uss.getD i []) (uss.getD j []))(good:xH b n ps=true)(hp:∀p∈ps,p.Perm (bj n)):
  dN uss∈ps/\(dN uss).Perm (bj n)/\(eW uss).Pairwise pJ:=by
 have e:dN uss=(mL b (je n)).toList:=by
  unfold dN;rw[hl];exact congrArg vj (Th (n:=n) (λi j hi hj=>(hb i j hi hj).symm) _ ok)
 unfold xH at good;simp only[jb,ke,vg]at good;rw[<-e]at good;obtain⟨g1,g2⟩:=good;have m:dN uss∈ps:=by simpa using g1
 have pm:=hp _ m;refine⟨m,pm,?_⟩;have ln:(dN uss).length=n:=by rw[pm.length_eq,ng]
 unfold eW;rw[yj];intro i j hi hj hij;rw[ao]at hi hj;have q:=g2 i (by omega) j (by omega);have pi:(dN uss).getD i 0=(dN uss)[i]:=by simp[cf,hi]
 have pj:(dN uss).getD j 0=(dN uss)[j]:=by simp[cf,hj]
 rw[pi,pj]at q;have li:(dN uss)[i]<n:=by
  have:=pm.subset (iz hi);simpa using this
 have lj:(dN uss)[j]<n:=by
  have:=pm.subset (iz hj);simpa using this
 rw[hb _ _ lj li]at q;simp only[List.getElem_map];unfold pJ;have d:decide (i<j)=true:=by simpa using hij
 rw[d]at q;simpa using q
theorem G9:∀p∈Tc,p.Perm (bj 3):=by decide
theorem N8:∀p∈Yd,p.Perm (bj 4):=by decide
theorem Bp{uss:AY}(h:uss.length=3):dN uss∈Tc/\(dN uss).Perm (bj 3)/\(eW uss).Pairwise pJ:=by
 match uss,h with
 |[u0,u1,u2],_=>
  have hb:∀i j,i<3->j<3->Lf (HT.lexLt u0 u1) (HT.lexLt u0 u2) (HT.lexLt u1 u0) (HT.lexLt u1 u2) (HT.lexLt u2 u0) (HT.lexLt u2 u1) i j=HT.lexLt (([u0,u1,u2]:AY).getD i []) (([u0,u1,u2]:AY).getD j []):=λi j hi hj=>by
   match i,j,hi,hj with
   |0,0,_,_=>exact(jU u0).symm
   |0,1,_,_=>rfl
   |0,2,_,_=>rfl
   |1,0,_,_=>rfl
   |1,1,_,_=>exact(jU u1).symm
   |1,2,_,_=>rfl
   |2,0,_,_=>rfl
   |2,1,_,_=>rfl
   |2,2,_,_=>exact(jU u2).symm
  exact Cj rfl Ps hb (adz _ _ _ _ _ _ (Sr hb)) G9
theorem Tp{uss:AY}(h:uss.length=4):dN uss∈Yd/\(dN uss).Perm (bj 4)/\(eW uss).Pairwise pJ:=by
 match uss,h with
 |[u0,u1,u2,u3],_=>
  have hb:∀i j,i<4->j<4->Of (HT.lexLt u0 u1) (HT.lexLt u0 u2) (HT.lexLt u0 u3) (HT.lexLt u1 u0) (HT.lexLt u1 u2) (HT.lexLt u1 u3) (HT.lexLt u2 u0) (HT.lexLt u2 u1) (HT.lexLt u2 u3) (HT.lexLt u3 u0) (HT.lexLt u3 u1) (HT.lexLt u3 u2) i j=HT.lexLt (([u0,u1,u2,u3]:AY).getD i []) (([u0,u1,u2,u3]:AY).getD j []):=λi j hi hj=>by
   match i,j,hi,hj with
   |0,0,_,_=>exact(jU u0).symm
   |0,1,_,_=>rfl
   |0,2,_,_=>rfl
   |0,3,_,_=>rfl
   |1,0,_,_=>rfl
   |1,1,_,_=>exact(jU u1).symm
   |1,2,_,_=>rfl
   |1,3,_,_=>rfl
   |2,0,_,_=>rfl
   |2,1,_,_=>rfl
   |2,2,_,_=>exact(jU u2).symm
   |2,3,_,_=>rfl
   |3,0,_,_=>rfl
   |3,1,_,_=>rfl
   |3,2,_,_=>rfl
   |3,3,_,_=>exact(jU u3).symm
  exact Cj rfl Ws hb (adT _ _ _ _ _ _ _ _ _ _ _ _ (Sr hb)) N8
theorem pT{uss:AY}(h:uss.length=3\/uss.length=4):(eW uss).Perm uss/\(eW uss).Pairwise pJ:=by
 have key:∀n,uss.length=n->(dN uss).Perm (bj n)->(eW uss).Perm uss:=λn hn hp=>by
  have e:(bj n).map (λi=>uss.getD i [])=uss:=by
   refine ue (by simp[hn]) λi h1 h2=>?_;have hi:i<uss.length:=h2;simp[cf,hi]
  have:=hp.map (λi=>uss.getD i []);rw[e]at this;exact this
 rcases h with h |h
 .obtain⟨_,hp,hs⟩:=Bp h
  exact⟨key 3 h hp,hs⟩
 .obtain⟨_,hp,hs⟩:=Tp h
  exact⟨key 4 h hp,hs⟩
theorem Nv{A B:AY}(hp:A.Perm B)(ha:A.Pairwise pJ)(hb:B.Pairwise pJ):A=B:=
 hp.eq_of_pairwise (λu v _ _ h g=>J1 g h) ha hb
theorem Gv{A B:AY}(hp:A.Perm B)(h:B.length=3\/B.length=4):eW A=eW B:=by
 obtain⟨p1,s1⟩:=pT (uss:=A) (by rw[hp.length_eq];exact h);obtain⟨p2,s2⟩:=pT h;exact Nv (p1.trans (hp.trans p2.symm)) s1 s2
end
open PySem PySem.Spec PyProof.Rows Bn
theorem aaA{X:Cx}{sc1 sc:Scope}{own1 own:List Str}{cap1 cap:List (Nat×Str)}{C:Addr}{BJ:aa}{BK:Hp}{ex:List Addr}(so:Scope)(hso:X.env.scope=so)(hk:so.kind=.function)(kind:sc.kind=.function)(names:∀y∈sc.names,y.2=.local->sc.names.lookup y.1=some .local)
  (nocell:∀y∈sc.names,y.2≠.cell)(free:∀y∈sc.names,y.2=.free->sc1.names.lookup y.1=some .free/\so.names.lookup y.1=some .cell)(at':∀p∈cap,(cF own1 cap1)[p.1]?=some p.2)(hcap:∀p∈cap,sc.names.lookup p.2=some .free):
  hV (eD X sc1 (cF own1 cap1) C BJ BK ex) sc own cap:=
 ⟨kind,names,nocell,λy hy e=>by
  obtain⟨f1,f2⟩:=free y hy e;exact rR (env:=X.env) (by rw[hso];exact hk) f1 (by show X.env.scope.names.lookup y.1=_;rw[hso];exact f2),at',hcap⟩
section
variable{M:lg}{A:aq}{E:Value->aa->Prop}{s:aa}
theorem Qv{scope:Scope}{globals:Addr}{closure:List (Str×Addr)}{qual:Str}{outer:bo}{Q:bo->aa->Prop}
  (hQ:Q (newEnv scope s.heap.objs.size globals (cellsFrom (s.heap.objs.size+1) scope.names closure) qual none .none (some outer) builtinsNs) {s with heap:=pushCells (s.heap.push {cls:=.type "dict",data:=.dict #[]}) scope.names}):
  wpAny M A (newFunctionEnv scope globals closure [] qual none .none (some outer)) Q E s:=by
 simp only[newFunctionEnv,Option.isSome_some,if_true];refine ae (wpAny_alloc ?_);refine ae (wpAny_layCells _ (λname kind cells=>by cases hkc:kind==fu<;>simp[hkc]) _ _ _ _ ?_);rw[show({s with heap:=s.heap.push {cls:=.type "dict",data:=.dict #[]}}:aa).heap.objs.size=s.heap.objs.size+1 from ji ..];refine ae ?_;rw[xp];exact ak (ak hQ)
end
theorem Ad:∀(names:List (Str×gh))(n:Nat)(acc:List (Str×Addr)),(∀x y c,acc.lookup x=some c->acc.lookup y=some c->x=y)->(∀x c,acc.lookup x=some c->c<n)->
  ∀x y c,(cellsFrom n names acc).lookup x=some c->(cellsFrom n names acc).lookup y=some c->x=y
 |[],n,acc,hi,_,x,y,c,e1,e2=>hi x y c e1 e2
 |(name,kind)::r,n,acc,hi,hb,x,y,c,e1,e2=>by
  unfold cellsFrom at e1 e2
  by_cases k:(kind==fu)=true
  .rw[if_pos k]at e1 e2
   refine Ad r (n+1) _ (λx y c e1 e2=>?_) (λx c e=>?_) x y c e1 e2
   .rw[dr]at e1 e2
    cases wx:x==name with
    |true=>
     cases wy:y==name with
     |true=>rw[beq_iff_eq.mp wx,beq_iff_eq.mp wy]
     |false=>
      rw[wx]at e1;rw[wy]at e2;cases e1;exact absurd (hb y _ e2) (ir _)
    |false=>
     cases wy:y==name with
     |true=>
      rw[wx]at e1;rw[wy]at e2;cases e2;exact absurd (hb x _ e1) (ir _)
     |false=>
      rw[wx]at e1;rw[wy]at e2;exact hi x y c e1 e2
   .rw[dr]at e
    cases wx:x==name with
    |true=>
     rw[wx]at e;cases e;exact yc _
    |false=>
     rw[wx]at e;exact ye (hb x c e)
  .rw[if_neg k]at e1 e2
   exact Ad r n acc hi hb x y c e1 e2
theorem sX{n0:Nat}:∀(names:List (Str×gh))(n:Nat)(acc:List (Str×Addr))(x:Str),((∃c,acc.lookup x=some c/\n0<=c)\/(x,fu)∈names)->n0<=n->∃c,(cellsFrom n names acc).lookup x=some c/\n0<=c
 |[],n,acc,x,h,hn=>by
  rcases h with h |h
  .exact h
  .cases h
 |(name,kind)::r,n,acc,x,h,hn=>by
  unfold cellsFrom
  by_cases k:(kind==fu)=true
  .rw[if_pos k]
   refine sX r (n+1) _ x ?_ (yk hn);cases w:x==name with
   |true=>exact .inl ⟨n,by rw[dr,w],hn⟩
   |false=>
    rcases h with⟨c,h,z⟩|h
    .exact .inl ⟨c,by rw[dr,w];exact h,z⟩
    .rcases cj.mp h with z |z
     .cases z
      simp at w
     .exact .inr z
  .rw[if_neg k]
   refine sX r n acc x ?_ hn;rcases h with h |h
   .exact .inl h
   .rcases cj.mp h with z |z
    .cases z
     simp at k
    .exact .inr z
theorem Mc{n0:Nat}:∀(names:List (Str×gh))(n:Nat)(acc:List (Str×Addr))(x:Str)(c:Addr),n0<=n->(cellsFrom n names acc).lookup x=some c->n0<=c\/acc.lookup x=some c
 |[],n,acc,x,c,hn,e=>.inr e
 |(name,kind)::r,n,acc,x,c,hn,e=>by
  unfold cellsFrom at e
  by_cases k:(kind==fu)=true
  .rw[if_pos k]at e
   rcases Mc r (n+1) _ x c (yk hn) e with z |z
   .exact .inl z
   .rw[dr]at z
    cases w:x==name with
    |true=>
     rw[w]at z;cases z;exact .inl hn
    |false=>
     rw[w]at z;exact .inr z
  .rw[if_neg k]at e
   exact Mc r n acc x c hn e
theorem wJ:∀(names:List (Str×gh))(n:Nat)(acc:List (Str×Addr))(x:Str),(x,fu)∉names->(cellsFrom n names acc).lookup x=acc.lookup x
 |[],n,acc,x,h=>rfl
 |(name,kind)::r,n,acc,x,h=>by
  unfold cellsFrom;have hr:(x,fu)∉r:=λz=>h (bn _ z)
  by_cases k:(kind==fu)=true
  .rw[if_pos k,wJ r _ _ x hr,dr]
   cases w:x==name with
   |true=>
    refine absurd ?_ h;have e1:x=name:=by simpa using w
    have e2:kind=.cell:=by simpa using k
    rw[e1,e2];exact bf
   |false=>rfl
  .rw[if_neg k,wJ r _ _ x hr]
theorem Zb:∀(names:List (Str×gh))(h:Heap)(acc:List (Str×Addr)),(∀x c,acc.lookup x=some c->∃v,h.IsCell c v)->∀x c,(cellsFrom h.objs.size names acc).lookup x=some c->∃v,(pushCells h names).IsCell c v
 |[],h,acc,hc,x,c,e=>hc x c e
 |(name,kind)::r,h,acc,hc,x,c,e=>by
  unfold cellsFrom at e;unfold pushCells
  by_cases k:(kind==fu)=true
  .rw[if_pos k]at e⊢
   rw[<-ji h {cls:=.type "cell",data:=.cell none}]at e;refine Zb r _ _ (λy c e=>?_) x c e;rw[dr]at e;cases w:y==name with
   |true=>
    rw[w]at e;cases e;exact⟨none,_,da _ rfl,rfl⟩
   |false=>
    rw[w]at e;obtain⟨v,z⟩:=hc y c e;exact⟨v,z.keeps λb o e=>ar _ e⟩
  .rw[if_neg k]at e⊢
   exact Zb r h acc hc x c e
theorem Ji{env:bo}:∀{names:List (Str×gh)}{x:Str},
  (let l:=(names.map λ(n,k)=>if(k==gv&&env.scope.kind== .function&&env.kindOf n==some .cell)then(n,fu)else(n,k)).lookup x;l=some .cell\/l=some .free)->(x,gv)∈names\/(x,fu)∈names
 |[],x,h=>by
  rcases h with h |h<;>cases h
 |(n,k)::r,x,h=>by
  dsimp only at h;rw[aw]at h;have ih:=@Ji env r x
  by_cases c:(k==gv&&env.scope.kind== .function&&env.kindOf n==some .cell)=true
  .have kf:k=.free:=by
    simp only[jb,beq_iff_eq]at c;exact c.1.1
   dsimp only at h;rw[if_pos c,dr]at h;cases w:x==n with
   |true=>
    have hx:x=n:=by simpa using w
    rw[hx,<-kf];exact .inl bf
   |false=>
    rw[w]at h;exact(ih h).imp (bn _) (bn _)
  .dsimp only at h
   rw[if_neg c,dr]at h;cases w:x==n with
   |true=>
    rw[w]at h;have hx:x=n:=by simpa using w
    rcases h with h |h
    .have kf:k=.cell:=ci h
     rw[hx,<-kf];exact .inr bf
    .have kf:k=.free:=ci h
     rw[hx,<-kf];exact .inl bf
   |false=>
    rw[w]at h;exact(ih h).imp (bn _) (bn _)
theorem Wh{env:bo}:∀{names:List (Str×gh)}{x:Str},names.lookup x=some .cell->
  (names.map λ(n,k)=>if(k==gv&&env.scope.kind== .function&&env.kindOf n==some .cell)then(n,fu)else(n,k)).lookup x=some .cell
 |[],x,h=>by cases h
 |(n,k)::r,x,h=>by
  rw[aw];dsimp only;rw[dr]at h;cases w:x==n with
  |true=>
   rw[w]at h;have kf:k=.cell:=ci h;subst kf;rw[if_neg (by rw[show(fu==gv)=false from rfl];simp),dr,w]
  |false=>
   rw[w]at h;have ih:=@Wh env r x h
   by_cases c:(k==gv&&env.scope.kind== .function&&env.kindOf n==some .cell)=true
   .rw[if_pos c,dr,w]
    exact ih
   .rw[if_neg c,dr,w]
    exact ih
def iL(X:Cx)(sc:Scope)(N:List Str)(C:Addr)(BJ:aa)(BK:Hp)(ex:List Addr):Cx where
 prog:=X.prog
 w:=X.w
 K:=X.K
 mg:=X.mg
 base:=X.base
 A:=X.A
 N:=N
 BJ:=BJ
 BK:=BK
 env:=compEnvC sc (cellsFrom (C+1) sc.names (gI X.env sc.names [])) C X.env
 outer:=X.stack
 stack:=X.stack
 ex:=ex
 fn:=λx=>sc.names.lookup x==some .cell
 calm:=X.calm
 pn:=[]
 xe:=λ_ _=>False
structure nG(X:Cx)(sc:Scope)(own:List Str)(cap:List (Nat×Str)):Prop where
 kind:sc.kind=.function
 names:∀y∈sc.names,y.2=.local->sc.names.lookup y.1=some .local
 cells:∀y∈sc.names,y.2=.cell->sc.names.lookup y.1=some .cell
 free:∀y∈sc.names,y.2=.free->X.env.kindOf y.1=some .cell
 at':∀p∈cap,X.N[p.1]?=some p.2
 cap:∀p∈cap,sc.names.lookup p.2=some .free
section
variable{X:Cx}{sc:Scope}{own:List Str}{cap:List (Nat×Str)}{BI:List (Addr×Obj)}{σ:St}{H:Hp}{s:aa}{elt target iter:ah}{pos pos':ai}{wi:TI}{g:TG}{te:TE}{Q:VK}
theorem nG.has(k:nG X sc own cap)(ok:X.Ok):∀p∈sc.names,p.2=.free->∃c,X.env.cells.lookup p.1=some c:=λp hp e=>ok.has p.1 (.inl (k.free p hp e))
theorem aF.cmpC(k:nG X sc own cap){h4:Heap}{fp:List Addr}{t':Nat}(I:aF X BI σ H s)(hf:∀b∈fp,fO X BI H b)(hlt:∀b∈fp,b<s.heap.objs.size)
  (e4:h4=pushCells (s.heap.push {cls:=.type "dict",data:=.dict #[]}) sc.names):aF (iL X sc (cF own cap) s.heap.objs.size s H fp) [] (iP own cap σ) H {s with heap:=h4,toks:=t'}:=by
 have kp:∀b o,s.heap.get? b=some o->h4.get? b=some o:=λb o e=>by
  rw[e4];exact yl _ _ b o (ar _ e)
 have hns:h4.Ns s.heap.objs.size (λ_=>none):=by
  rw[e4];exact(Heap.Ns.new ..).keeps λb o e=>yl _ _ b o e
 have hcl:∀y c,(gI X.env sc.names []).lookup y=some c->X.env.cells.lookup y=some c:=λy c e=>by
  rcases uS sc.names [] (k.has I.ok) y c e with z |z
  .cases z
  .exact z
 have clt:∀y c,X.env.cells.lookup y=some c->c<s.heap.objs.size:=λy c e=>by
  obtain⟨v,o,ho,_⟩:=I.cell y c e;exact ay ho
 have hfr:∀y c,(cellsFrom (s.heap.objs.size+1) sc.names (gI X.env sc.names [])).lookup y=some c->s.heap.objs.size<c\/X.env.cells.lookup y=some c:=λy c e=>
  (Mc (n0:=s.heap.objs.size+1) sc.names _ _ y c (aj _) e).imp (λz=>z) (hcl y c)
 have nst:∀b∈fp,b∉eQ X.stack:=λb hb z=>by
  rcases cj.mp (I.stkSub b z)with e |e
  .exact(hf b hb).2.1 e
  .exact(hf b hb).2.2.1 e
 refine⟨⟨I.ok.mod,k.kind,I.ok.glob,I.ok.blt,aj _,λx y c h1 h2=>?_,λx hx=>?_,λx c hfn e=>?_,I.ok.hd,I.ok.frames,.inl rfl,λb hb=>⟨cx (hlt b hb),λx c e=>?_⟩,
  I.bs,fm I.ok.bsz I.sz,λb o e hb=>?_,nst,I.stack,I.stkFree⟩,rfl,I.bare,Un.kept kp,⟨_,hns,λi x v h1 h2 h3=>?_⟩,λx c e=>?_,I.hok.fresh (aj _),λx c e=>?_,λp hp=>absurd (show p∈([]:List (Addr×Obj)) from hp) (by simp),I.hok.kept kp,?_⟩
 .exact Ad sc.names _ _ (λx y c h1 h2=>I.ok.inj x y c (hcl x c h1) (hcl y c h2)) (λx c e=>ye (clt x c (hcl x c e))) x y c h1 h2
 .rcases Ji hx with z |z
  .by_cases m:(x,fu)∈sc.names
   .obtain⟨c,e,_⟩:=sX (n0:=0) sc.names (s.heap.objs.size+1) (gI X.env sc.names []) x (.inr m) (de _)
    exact⟨c,e⟩
   .obtain⟨c,e⟩:=pY (env:=X.env) sc.names [] x (.inr z)
    exact⟨c,(wJ sc.names _ _ x m).trans e⟩
  .obtain⟨c,e,_⟩:=sX (n0:=0) sc.names (s.heap.objs.size+1) (gI X.env sc.names []) x (.inr z) (de _)
   exact⟨c,e⟩
 .have hm:(x,fu)∈sc.names:=jt (by simpa[iL]using hfn)
  obtain⟨c',e',hc'⟩:=sX (n0:=s.heap.objs.size) sc.names (s.heap.objs.size+1) (gI X.env sc.names []) x (.inr hm) (og _);have:=e'.symm.trans e;cases this;exact hc'
 .rcases hfr x c e with z |z
  .exact ko (xi (hlt b hb) z)
  .exact(hf b hb).2.2.2.2.1 x c z
 .rcases(hf b hb).2.2.2.1 with z |z
  .exact I.ok.noex b o e z
  .exact absurd (di (ay (I.ok.bs b o e).1) z) (ir _)
 .have hN:(cF own cap)[i]?=some x:=h1
  unfold cF at hN;unfold iP at h2
  by_cases hi:i<own.length
  .rw[fj (by simpa using hi),ax]at h2
   cases e:own[i]? with
   |none=>rw[e]at h2;cases h2
   |some z=>rw[e]at h2;cases h2
  .rw[dj (by simpa using hi),ax,ao]at h2
   rw[dj (by omega),ax]at hN;cases e:cap[i-own.length]? with
   |none=>rw[e]at h2;cases h2
   |some p=>
    rw[e]at h2 hN;have hp:p∈cap:=cy e;have hx:p.2=x:=ci hN;have hv:(σ[p.1]?).join=some v:=ci h2;have hv':σ[p.1]?=some (some v):=by
     cases e2:σ[p.1]? with
     |none=>rw[e2]at hv;cases hv
     |some z=>rw[e2]at hv;exact congrArg some hv
    have fr:=k.cap p hp;have nc:(p.2,fu)∉sc.names:=λz=>by
     have:=k.cells _ z rfl;rw[fr]at this;cases this
    have kc:X.env.kindOf p.2=some .cell:=k.free (p.2,.free) (jt fr) rfl;obtain⟨m0,_,hl⟩:=I.loc;obtain⟨u,ru,lk⟩:=hl p.1 p.2 v (k.at' p hp) hv' (.inr (.inl kc));refine⟨u,ru,?_⟩;rcases lk with⟨k1,_⟩|⟨_,c,ec,cell⟩
    .rw[kc]at k1
     cases k1
    .rw[<-hx]
     obtain⟨c',ec'⟩:=pY (env:=X.env) sc.names [] p.2 (.inr (jt fr));have:=(hcl _ _ ec').symm.trans ec;cases this;obtain⟨o,ho,hd⟩:=cell;exact .inr ⟨.inl (rR I.ok.kind fr kc),c,(wJ sc.names _ _ p.2 nc).trans ec',o,kp c o ho,hd⟩
 .show ∃v,h4.IsCell c v
  rw[e4];refine Zb sc.names _ (gI X.env sc.names []) (λy c e=>?_) x c (by rw[ji];exact e);obtain⟨v,z⟩:=I.cell y c (hcl y c e);exact⟨v,z.keeps λb o e=>ar _ e⟩
 .rcases hfr x c e with z |z
  .exact I.hok.fresh (pf z)
  .exact I.freeC x c z
 .unfold iP
  show _=(cF own cap).length;unfold cF;rw[bh,bh,ao,ao,ao]
theorem aF.uncmpC{s3 s':aa}{H3 H':Hp}{N:List Str}{σ':St}{C:Addr}{fp:List Addr}{pl:List (Addr×Obj)}(I:aF X BI σ H s)(hf:∀b∈fp,fO X BI H b)(u:Un (eQ X.stack) fp H H3 s.heap s3.heap)(os:s3.os=s.os)
  (J:aF (iL X sc N C s3 H3 fp) pl σ' H' s'):aF X BI σ H' s':=by
 have os':s'.os=s.os:=(show s'.os=s3.os from J.os).trans os;refine I.call' (ch:=fp) os' (u.trans J.base) J.hok J.bare λb hb=>?_;obtain⟨_,f1,_,f3,f4,f5⟩:=hf b hb;exact⟨f3,f1,f4,f5⟩
theorem Jx{use:Option (Value->Sem Unit)}{Qf:Value->aa->Prop}(k:nG X sc own cap)(hi:PI X target iter wi)(hc:X.calm=true)
  (hg:∀C BJ BK ex,PG (iL X sc (cF own cap) C BJ BK ex) target g)(he:∀C BJ BK ex,PE (iL X sc (cF own cap) C BJ BK ex) elt te)(I:aF X BI σ H s)(h:tK own cap wi g te σ H Q)
  (fin:∀D C s' H' m,aF X BI σ H' s'->fO X BI H' C->s'.heap.Ns C m->Q (.ref D) H'->compPost (model X.prog X.w) X.A X.xe use Qf (.ref D) C (.ok .next) s')
  (hs:∀x,foldedSetIterable iter X.env x=pure x):
  wpAny (model X.prog X.w) X.A (comprehension (.ListComp elt [⟨target,iter,[],0⟩] sc pos) sc X.env pos' (newList []) false (eval iter X.env) use) Qf X.xe s:=by
 refine xk (use:=use) rfl hs (Ec (k.has I.ok)) k.kind k.names ?_;refine bD (hi BI s σ H _ I h) λv s1 h1=>bD h1 λitv s2 h2=>?_;obtain⟨it,fp,tn,J,H2,e,I2,T,st2,f2,hW⟩:=h2;subst e;refine iy (Qv ?_);have hsz:(s2.heap.push {cls:=.type "list",data:=.seq ([]:BA).toArray}).objs.size=s2.heap.objs.size+1:=ji ..;have I3:aF X BI σ (aL H2 s2.heap.objs.size (.lst [])) {s2 with heap:=s2.heap.push {cls:=.type "list",data:=.seq ([]:BA).toArray},toks:=s2.toks}:=I2.lnew (ys:=[]) (its:=[]) .nil (de _);have hD:H2 s2.heap.objs.size=none:=I2.fresh;have ltf:∀b∈fp,b<s2.heap.objs.size:=λb hb=>by
  obtain⟨o,ho,_⟩:=T.obj _ _ st2 b hb;exact ay ho
 have f3:∀b∈fp,fO X BI (aL H2 s2.heap.objs.size (.lst [])) b:=λb hb=>⟨by rw[bK (cx (ltf b hb))];exact(f2 b hb).1,(f2 b hb).2⟩;have un:Un (eQ X.stack) fp H2 (aL H2 s2.heap.objs.size (.lst [])) s2.heap (s2.heap.push {cls:=.type "list",data:=.seq ([]:BA).toArray}):=Un.laid (λb u q=>ar _ q) (aj _) hD;have kp:∀b o,(s2.heap.push {cls:=.type "list",data:=.seq ([]:BA).toArray}).get? b=some o->(pushCells ((s2.heap.push {cls:=.type "list",data:=.seq ([]:BA).toArray}).push {cls:=.type "dict",data:=.dict #[]}) sc.names).get? b=some o:=λb o q=>yl _ _ b o (ar _ q);have J0:=I3.cmpC (t':=s2.toks) k f3 (λb hb=>di (ltf b hb) (by rw[ji];exact og _)) rfl;have stat:∀{H':Hp},(∀b∈fp,H' b=none)->∀b∈fp,fO (iL X sc (cF own cap) (s2.heap.push {cls:=.type "list",data:=.seq ([]:BA).toArray}).objs.size {s2 with heap:=s2.heap.push {cls:=.type "list",data:=.seq ([]:BA).toArray},toks:=s2.toks} (aL H2 s2.heap.objs.size (.lst [])) fp) [] H' b:=λhn b hb=>
  ⟨hn b hb,(J0.ok.exf b hb).1,J0.ok.exfs b hb,.inl hb,(J0.ok.exf b hb).2,λp hp=>absurd (show p∈([]:List (Addr×Obj)) from hp) (by simp)⟩
 have st4:tn 0 (pushCells ((s2.heap.push {cls:=.type "list",data:=.seq ([]:BA).toArray}).push {cls:=.type "dict",data:=.dict #[]}) sc.names):=T.keep _ _ _ st2 λb hb o q=>kp b o (ar _ q);have fr0:∀b∈fp,(aL H2 s2.heap.objs.size (.lst [])) b=none:=λb hb=>(f3 b hb).1;have loop:codeAny (model X.prog X.w) X.A (.compLoop (.ListComp elt [⟨target,iter,[],0⟩] sc pos) 0 (.ref it) (.ref s2.heap.objs.size) (compEnvC sc (cellsFrom ((s2.heap.push {cls:=.type "list",data:=.seq ([]:BA).toArray}).objs.size+1) sc.names (gI X.env sc.names [])) (s2.heap.push {cls:=.type "list",data:=.seq ([]:BA).toArray}).objs.size X.env))
   (compPost (model X.prog X.w) X.A X.xe use Qf (.ref s2.heap.objs.size) (s2.heap.push {cls:=.type "list",data:=.seq ([]:BA).toArray}).objs.size) {s2 with heap:=(pushCells ((s2.heap.push {cls:=.type "list",data:=.seq ([]:BA).toArray}).push {cls:=.type "dict",data:=.dict #[]}) sc.names),toks:=s2.toks}:=by
  obtain⟨W,⟨m0,w0⟩,turn⟩:=hW s2.heap.objs.size hD;refine Yj (λn s'=>∃i σ' H' ys,aF (iL X sc (cF own cap) (s2.heap.push {cls:=.type "list",data:=.seq ([]:BA).toArray}).objs.size {s2 with heap:=s2.heap.push {cls:=.type "list",data:=.seq ([]:BA).toArray},toks:=s2.toks} (aL H2 s2.heap.objs.size (.lst [])) fp) [] σ' H' s'/\tn i s'.heap/\(∀b∈fp,H' b=none)/\W i n σ' H' ys) ?_ m0
   ⟨0,_,_,[],J0,st4,fr0,w0⟩
  rintro n s5 ⟨i,σ5,H5,ys,I5,st5,fr5,w5⟩
  obtain⟨hD5,w5⟩:=turn i n σ5 H5 ys w5;rcases w5 with⟨stop,qn⟩|⟨go,hlt,step⟩
  .refine bD (T.done (iL X sc (cF own cap) (s2.heap.push {cls:=.type "list",data:=.seq ([]:BA).toArray}).objs.size {s2 with heap:=s2.heap.push {cls:=.type "list",data:=.seq ([]:BA).toArray},toks:=s2.toks} (aL H2 s2.heap.objs.size (.lst [])) fp) rfl rfl rfl hc i [] s5 σ5 H5 _ I5 (stat fr5) st5 stop) ?_
   rintro r s6 ⟨hr,I6⟩
   subst hr;obtain⟨m,hn,_⟩:=id I6.loc;exact fin _ _ s6 H5 m (I2.uncmpC (s3:={s2 with heap:=s2.heap.push {cls:=.type "list",data:=.seq ([]:BA).toArray},toks:=s2.toks}) f2 un rfl I6) (I3.fpOk (aj _) I6.free) hn qn
  .refine bD (T.item (iL X sc (cF own cap) (s2.heap.push {cls:=.type "list",data:=.seq ([]:BA).toArray}).objs.size {s2 with heap:=s2.heap.push {cls:=.type "list",data:=.seq ([]:BA).toArray},toks:=s2.toks} (aL H2 s2.heap.objs.size (.lst [])) fp) rfl rfl rfl hc i [] s5 σ5 H5 _ I5 (stat fr5) st5 go) ?_
   rintro r s6 ⟨u,hr,h6⟩
   subst hr;refine bD h6 ?_
   rintro _ s7 ⟨x,H7,I7,r7,y7,st7,fr7⟩
   have I7':=I7.pinned (stat fr7) (T.obj _ _ st7);refine bD (hg _ _ _ _ _ s7 σ5 H7 x u _ I7' r7 (step x H7 y7)) ?_
   rintro _ s8 ⟨σ8,H8,I8,q8⟩
   refine bD (he _ _ _ _ _ s8 σ8 H8 _ I8 q8) ?_
   rintro v9 s9 ⟨y,H9,I9,r9,hD9,m',hm,w9⟩
   refine bD (qD _ s9 σ8 H9 (.ref s2.heap.objs.size) [y] (.ref s2.heap.objs.size) [v9] (λ_ H'=>H'=aL H9 s2.heap.objs.size (.lst (ys++[y]))) I9 rfl (.cons r9 .nil) ⟨_,ys,y,rfl,rfl,hD9,hlt,rfl⟩) ?_
   rintro _ s10 ⟨_,H10,I10,_,q10⟩
   subst q10;refine⟨m',hm,i+1,σ8,_,_,I10.unpinned,T.keep _ _ _ st7 λb hb o q=>(I10.pin (b,o) (df _ (df _ (kZ hb q)))).1,λb hb=>?_,w9⟩;obtain⟨o,q,d⟩:=T.obj _ _ st7 b hb;exact(I10.pin (b,o) (df _ (df _ (kZ hb q)))).2.1
 exact xl loop (T.self _ 0 _ _ _ st4 loop)
theorem E3(k:nG X sc own cap)(hi:PI X target iter wi)(hc:X.calm=true)
  (hg:∀C BJ BK ex,PG (iL X sc (cF own cap) C BJ BK ex) target g)(he:∀C BJ BK ex,PE (iL X sc (cF own cap) C BJ BK ex) elt te)
  (hs:∀x,foldedSetIterable iter X.env x=pure x:=by intro _;rfl):PE X (.ListComp elt [⟨target,iter,[],0⟩] sc pos) (tK own cap wi g te):=by
 intro BI s σ H Q I h;rw[xn];refine Jx (use:=none) k hi hc hg he I h (λD C s' H' m I' fC hn q=>?_) hs;refine⟨m,hn,λh' sb=>⟨.ref D,H',?_,rfl,q⟩⟩;obtain⟨f0,f1,f2,f3,f4,f5⟩:=fC;exact I'.turned (t':=s'.toks) (λb o hb e=>(sb.2 b hb).trans e) f0 f1 f3 f4 f5
theorem R4{X:Cx}{sc:Scope}{own:List Str}{cap:List (Nat×Str)}(so:Scope)(N:List Str)(hso:X.env.scope=so)(hN:X.N=N)(kind:sc.kind=.function)(names:∀y∈sc.names,y.2=.local->sc.names.lookup y.1=some .local)
  (cells:∀y∈sc.names,y.2=.cell->sc.names.lookup y.1=some .cell)(free:∀y∈sc.names,y.2=.free->so.names.lookup y.1=some .cell)(at':∀p∈cap,N[p.1]?=some p.2)(hcap:∀p∈cap,sc.names.lookup p.2=some .free):nG X sc own cap:=
 ⟨kind,names,cells,λy hy e=>by show X.env.scope.names.lookup y.1=_;rw[hso];exact free y hy e,λp hp=>by rw[hN];exact at' p hp,hcap⟩
theorem V3{X:Cx}{sc1 sc:Scope}{own1 own:List Str}{cap1 cap:List (Nat×Str)}{C:Addr}{BJ:aa}{BK:Hp}{ex:List Addr}(so:Scope)(hso:X.env.scope=so)(hk:so.kind=.function)(kind:sc.kind=.function)(names:∀y∈sc.names,y.2=.local->sc.names.lookup y.1=some .local)
  (nocell:∀y∈sc.names,y.2≠.cell)(free:∀y∈sc.names,y.2=.free->sc1.names.lookup y.1=some .cell\/(sc1.names.lookup y.1=some .free/\so.names.lookup y.1=some .cell))(at':∀p∈cap,(cF own1 cap1)[p.1]?=some p.2)(hcap:∀p∈cap,sc.names.lookup p.2=some .free):
  hV (iL X sc1 (cF own1 cap1) C BJ BK ex) sc own cap:=
 ⟨kind,names,nocell,λy hy e=>by
  rcases free y hy e with f |⟨f1,f2⟩
  .exact Wh (env:=X.env) f
  .exact rR (env:=X.env) (by rw[hso];exact hk) f1 (by show X.env.scope.names.lookup y.1=_;rw[hso];exact f2),at',hcap⟩
end
end L2
namespace L2.Pp
open PySem PySem.Spec PyProof.Rows Bn
section
variable{K:ag}{cl:Str->Addr}{E:XK}{X:Cx}{p q:Ph}{H H':Hp}{S:aG}
variable{sc:Scope}{own:List Str}{cap:List (Nat×Str)}{elt target iter:ah}{pos:ai}{mi:MI}{g:GM}{me:ME}
theorem A3(k:nG X sc own cap)(hi:PIp K cl E X target iter mi)(hc:X.calm=true)(hg:∀C BJ BK ex,kY K (iL X sc (cF own cap) C BJ BK ex) target g)(he:∀C BJ BK ex,aS K cl E0 (iL X sc (cF own cap) C BJ BK ex) elt me)
  (hs:∀x,foldedSetIterable iter X.env x=pure x:=by intro _;rfl):aS K cl E X (.ListComp elt [⟨target,iter,[],0⟩] sc pos) (bT own cap mi g me):=by
 intro hK;refine PE.imp (E3 k (hi hK) hc (λC BJ BK ex=>hg C BJ BK ex hK) (λC BJ BK ex=>he C BJ BK ex hK) hs) ?_
 rintro σ H Q ⟨p,S,ρ,s,ev,h⟩
 exact bY s ev h λq H' xs J S' cN sm ev it kk D hD=>Ua sm ev it kk hD
end
noncomputable section
open PySem PySem.Spec PyProof.Rows Bn
def yP(k:Nat)(S:aG):Prop:=∀(j:Nat)(o:SO),S[j]?=some o->j≠k->∃xs,o=.lst xs
def Pl(S:aG):Prop:=∀(j:Nat)(o:SO),S[j]?=some o->∃xs,o=.lst xs
section
variable{K:ag}{cl:Str->Addr}{E:XK}{X:Cx}{a e:ah}{m:ME}{ms:MA}{pos:ai}{p q:Ph}{H H':Hp}{S:aG}
theorem aU.pushO(s:aU K p S H){D:Addr}{o:SO}{ho:HO}(h:H D=none)(mo:Mb ho)(ob:mJ K ⟨p.f++[D],λa=>p.w a\/a=D,λa=>p.c a\/a=D⟩ (aL H D ho) D o):
  let q:Ph:=⟨p.f++[D],λa=>p.w a\/a=D,λa=>p.c a\/a=D⟩
  bO p H q (aL H D ho)/\aU K q (S++[o]) (aL H D ho):=by
 intro q;obtain⟨st0,sm0⟩:=s.res (D:=D) (o:=ho) h mo;have nf0:D∉p.f:=λz=>s.notin h (s.wc D (s.sub D z));refine⟨⟨st0.wc,st0.mu,⟨[D],rfl⟩,st0.mw,st0.mono,λa x n=>?_,st0.nw,st0.nc,st0.keep⟩,?_,by simp[q,s.len],λa x=>?_,sm0.wc,sm0.mu,λk a u e1 e2=>?_⟩
 .rcases cq.mp x with z |z
  .exact absurd z n
  .have:a=D:=by simpa using z
   rw[this];exact h
 .show(p.f++[D]).Nodup
  rw[nh];refine⟨s.nd,by simp,λa ha b hb z=>?_⟩;have:b=D:=by simpa using hb
  exact nf0 (this▸z▸ha)
 .rcases cq.mp x with z |z
  .exact .inl (s.sub a z)
  .exact .inr (by simpa using z)
 .by_cases hk:k<S.length
  .have e1':p.f[k]?=some a:=by
    have e1:(p.f++[D])[k]?=some a:=e1
    rwa[fj (by rw[s.len];exact hk)]at e1
   rw[fj hk]at e2;refine(s.obj k a u e1' e2).mono (λvs e=>by rw[bK (gF e h)];exact e) (λb w f=>⟨⟨.inl w,λm=>?_⟩,λvs e=>by rw[bK (gF e h)];exact e⟩) λ_ _ r=>st0.reps r;rcases cq.mp m with z |z
   .exact f z
   .have:b=D:=by simpa using z
    exact s.notin h (this▸s.wc b w)
  .have hk':k=S.length:=by
    have:=(ce.mp e2).1;simp at this;omega
   subst hk';rw[dj (aj _),ia]at e2;have e1:(p.f++[D])[S.length]?=some a:=e1;rw[<-s.len,dj (aj _),ia]at e1;cases e1;cases e2;exact ob
def Je(xs:BH)(S:aG):bP AV:=match(gU S xs).bind nI with
 |some (.lst vs)=>.ok (.ref S.length) (S++[.lol [vs]])
 |_=>.fail
def tV(ms:MA):ME:=λρ S=>(ms ρ S).bind Je
theorem Vo{as:BH}{xs:List V}{vs:BE}(s:aU K p S H)(r:gJ K p H as xs)(h:(gU S as).bind nI=some (.lst vs)):
  ∃b ws,xs=[.ref b]/\(bV K H b ws\/cT K H b ws)/\ws.length<=sizeLine/\aJ K p.c H vs ws:=by
 cases z:gU S as with
 |none=>rw[z]at h;cases h
 |some us=>
  rw[z]at h;have rr:=vF s r z;cases rr with
  |nil=>cases h
  |cons g t=>
   rename_i u x ut xt;cases t with
   |cons _ _=>cases u<;>cases h
   |nil=>
    cases u with
    |lst ws=>
     cases h;obtain⟨a,ws,rfl,l,z,r⟩:=g.lst;exact⟨a,ws,rfl,.inl l,z,r⟩
    |tup ws=>
     cases h;obtain⟨a,ws,rfl,l,z,r⟩:=g.tup;exact⟨a,ws,rfl,.inr l,z,r⟩
    |_=>cases h
theorem abS{x:Str}{p lp:ai}(hx:x="list")(hg:Gl X "list")(hm:X.mg "list"=none)(ha:eN K cl E X [e] ms)(he:starEach [e] X.env=[(false,eval e X.env)]:=by rfl)
  (hs:starEach [.Call (.Name x p) [e] [] pos] X.env=[(false,eval (.Call (.Name x p) [e] [] pos) X.env)]:=by rfl):aS K cl E X (.List [.Call (.Name x p) [e] [] pos] lp) (tV ms):=by
 intro hK;subst hK hx;refine PE.imp (wH (jT (uY zH hg hm (by decide+kernel) (ha rfl) (by decide) (by decide) he rfl) lI hs)) ?_
 rintro σ H Q ⟨p,S,ρ,s,ev,h⟩
 refine bY s ev h λq H1 as xs S1 st s1 e1 r1 h1=>?_;unfold Je at h1;split at h1
 .rename_i vs hv
  obtain⟨b,ws,rfl,sq,hl,r⟩:=Vo s1 r1 hv;refine⟨b,ws,rfl,sq,λl hn=>⟨by show 1<=sizeLine;decide,λt ht=>?_⟩⟩;obtain⟨st2,sm2⟩:=s1.res (D:=l) (o:=.lst ws) hn trivial;have ne:l≠t:=λz=>by rw[<-z,dW]at ht;cases ht
  have nf:l∉q.f:=λz=>s1.notin hn (s1.wc l (s1.sub l z));have dP:=(sm2.res (D:=t) (o:=.lst [.ref l]) ht trivial).1;have ob:mJ X.K ⟨(q.res l).f++[t],λa=>(q.res l).w a\/a=t,λa=>(q.res l).c a\/a=t⟩ (aL (aL H1 l (.lst ws)) t (.lst [.ref l])) t (.lol [vs]):=by
   refine⟨[l],dW,by show 1<=sizeLine;decide,by simp,λc hc=>?_,rfl,λi ys c e1 e2=>?_⟩
   .have:c=l:=by simpa using hc
    subst this;refine⟨.inl (.inr rfl),λm=>?_⟩;rcases cq.mp m with z |z
    .exact nf z
    .exact ne (by simpa using z)
   .cases i with
    |zero=>
     cases e1;cases e2;exact⟨ws,by rw[bK ne,dW],hl,dP.reps (st2.reps r)⟩
    |succ i=>simp at e1
  obtain⟨st4,sm4⟩:=sm2.pushO (D:=t) (ho:=.lst [.ref l]) ht trivial ob;exact h1 _ _ (.ref t) (st2.trans st4) sm4 ⟨t,by show(q.f++[t])[S1.length]?=some t;rw[<-s1.len,dj (aj _),ia];rfl,rfl⟩
 .exact h1.elim
def tX(k:Nat)(ys:BH)(S:aG):bP AV:=match(gU S ys).bind nI,S[k]? with
 |some (.lst vs),some (.lol xss)=>if xss.length<16777216 then .ok (.pv .non) (S.set k (.lol (xss++[vs])))else .fail
 |_,_=>.fail
def tR(m:ME)(ms:MA):ME:=λρ S=>(m ρ S).bind λk S1=>fD k S1 λk=>(ms ρ S1).bind λys S2=>tX k ys S2
theorem aU.growL(s:aU K p S H){k:Nat}{D l:Addr}{xss:List BE}{bs:List Addr}{ys:BE}{ws:List V}(h:p.f[k]?=some D)(hS:S[k]?=some (.lol xss))(hn:H l=none)(hl:ws.length<=sizeLine)(r:aJ K p.c H ys ws)(hH:H D=some (.lst (bs.map V.ref)))(hz:bs.length<sizeLine):
  bO p H (p.res l) (aL (aL H l (.lst ws)) D (.lst ((bs++[l]).map V.ref)))/\aU K (p.res l) (S.set k (.lol (xss++[ys]))) (aL (aL H l (.lst ws)) D (.lst ((bs++[l]).map V.ref))):=by
 obtain⟨st2,sm2⟩:=s.res (D:=l) (o:=.lst ws) hn trivial;have hk:k<S.length:=(ce.mp hS).1;have mD:D∈p.f:=cy h;have w:(p.res l).w D:=.inl (s.sub D mD);have neD:D≠l:=λz=>by rw[z,hn]at hH;cases hH
 have nl:l∉p.f:=λz=>s.notin hn (s.wc l (s.sub l z));have dP:bO (p.res l) (aL H l (.lst ws)) (p.res l) (aL (aL H l (.lst ws)) D (.lst ((bs++[l]).map V.ref))):=⟨sm2.wc,sm2.mu,jk,λ_ h=>h,λ_ h=>h,λ_ h g=>absurd h g,λ_ h g=>absurd h g,λ_ h g=>absurd h g,λa u e nw=>by
  rw[bK (λz:a=D=>nw (by rw[z];exact w))];exact e⟩
 refine⟨st2.trans dP,sm2.nd,by rw[fk];exact sm2.len,sm2.sub,sm2.wc,λa x=>?_,λj a o e1 e2=>?_⟩
 .by_cases z:a=D
  .rw[z,dW]
   exact⟨_,rfl,trivial⟩
  .rw[bK z]
   exact sm2.mu a x
 .by_cases hj:k=j
  .subst hj
   have e1:p.f[k]?=some a:=e1;rw[h]at e1;cases e1;rw[ee hk]at e2;cases e2;obtain⟨cs,g1,g2,g3,g4,g5,g6⟩:=s.obj k D _ h hS;rw[hH]at g1;have ec:bs=cs:=by
    have:=congrArg (λo=>match o with |some (HO.lst v)=>v |_=>[]) g1
    have:bs.map V.ref=cs.map V.ref:=this;exact u6 (λx y h=>by cases h;rfl) |>.mp this
   subst ec;have nb:∀b∈bs,b≠l:=λb hb z=>s.notin hn (z▸s.wc b (g4 b hb).1);refine⟨bs++[l],dW,by rw[bh];exact hz,?_,λb hb=>?_,by rw[bh,bh,g5];rfl,λi xs b e1 e2=>?_⟩
   .rw[nh]
    exact⟨g3,by simp,λx hx y hy z=>nb x hx (by rw[z];simpa using hy)⟩
   .rcases cq.mp hb with z |z
    .exact⟨.inl (g4 b z).1,(g4 b z).2⟩
    .have:b=l:=by simpa using z
     subst this;exact⟨.inr rfl,nl⟩
   .by_cases hi:i<bs.length
    .rw[fj hi]at e2
     rw[fj (by rw[g5];exact hi)]at e1;obtain⟨vs,h1,h2,h3⟩:=g6 i xs b e1 e2;have hb:=g4 b (cy e2);exact⟨vs,by rw[bK (λz:b=D=>hb.2 (z▸mD)),bK (nb b (cy e2))];exact h1,h2,dP.reps (st2.reps h3)⟩
    .have hi':i=bs.length:=by
      have:=(ce.mp e2).1;rw[bh]at this;have:i<bs.length+1:=this;omega
     subst hi';rw[dj (aj _),ia]at e2;rw[<-g5,dj (aj _),ia]at e1;cases e1;cases e2;exact⟨ws,by rw[bK (iw neD),dW],hl,dP.reps (st2.reps r)⟩
  .rw[fh hj]at e2
   have ne:a≠D:=λq=>hj (nodup_idx s.nd h (q▸e1));exact(sm2.obj j a o e1 e2).mono (λvs e=>by rw[bK ne];exact e) (λb w f=>⟨⟨w,f⟩,λvs e=>by rw[bK (λz:b=D=>f (z▸mD))];exact e⟩) λ_ _ r=>dP.reps r
theorem X6{x:Str}{p apos cpos:ai}(hx:x="list")(hg:Gl X "list")(hm:X.mg "list"=none)(ho:aS K cl E X a m)(ha:eN K cl E X [e] ms)(hbase:attributeBase a "append" X.env (eval a X.env)=eval a X.env:=by rfl)
  (hfew:((backTo cpos (starEach [.Call (.Name x p) [e] [] pos] X.env)).all (λx=>!x.1)&&(backToKw cpos (keywordEach [] X.env)).all (λx=>x.1.isSome)&&decide (([.Call (.Name x p) [e] [] pos]:List ah).length+([]:List fz).length+(if([]:List fz).isEmpty then 0 else 1)<30))=true:=by rfl)
  (hline:(apos.endLine==cpos.line)=true:=by rfl)(he:starEach [e] X.env=[(false,eval e X.env)]:=by rfl)(hs:starEach [.Call (.Name x p) [e] [] pos] X.env=[(false,eval (.Call (.Name x p) [e] [] pos) X.env)]:=by rfl):
  aS K cl E X (.Call (.Attribute a "append" apos) [.Call (.Name x p) [e] [] pos] [] cpos) (tR m ms):=by
 intro hK;subst hK hx;refine PE.imp (xG uj ss yd qD (ho rfl) (jT (uY zH hg hm (by decide+kernel) (ha rfl) (by decide) (by decide) he rfl) lI hs) hbase hfew hline hs rfl) ?_
 rintro σ H Q ⟨p,S,ρ,s,ev,h⟩
 refine bY s ev h λq H1 k x S1 st s1 e1 r1 h1=>?_;cases k with
 |pv v=>exact h1.elim
 |ref k=>
  have h1:bU X.K cl (bZ X.K) q H1 (fD (.ref k) S1 λk=>(ms ρ S1).bind λys S2=>tX k ys S2) Q E:=h1;rcases vL k S1 (λk=>(ms ρ S1).bind λys S2=>tX k ys S2)with z |⟨z,n1,n2⟩
  .rw[z]at h1
   exact h1.elim
  rw[z]at h1;refine⟨Dc s1 r1 n1 n2,bY s1 e1 h1 λq2 H2 ys xs S2 st2 s2 e2 r2 h2=>?_⟩;obtain⟨a,ea,rfl⟩:=st2.repA r1;unfold tX at h2;split at h2
  .rename_i vs xss hv hS
   obtain⟨b,ws,rfl,sq,hl,r⟩:=Vo s2 r2 hv;split at h2
   .rename_i hz
    refine⟨b,ws,rfl,sq,λl hn=>?_⟩;obtain⟨bs,g1,g2,g3,g4,g5,g6⟩:=s2.obj k a _ ea hS;have hzz:=iD;have neA:a≠l:=λz=>by rw[z,hn]at g1;cases g1
    obtain⟨dP,sm3⟩:=s2.growL ea hS hn hl r g1 (by rw[<-g5];omega);refine⟨a,bs.map V.ref,.ref l,rfl,rfl,by rw[bK neA];exact g1,by rw[ao,<-g5];omega,?_⟩;have:=h2 _ _ .non dP sm3 (by show aI X.K (q2.res l).c (aL (aL H2 l (.lst ws)) a (.lst ((bs++[l]).map V.ref))) .non .non;exact iR (v:=.non) rfl);rw[dh]at this;exact this
   .exact h2.elim
  .exact h2.elim
def xE(m:Int)(xs:BE):Option BE:=match bF xs.length m with
 |some j=>match xs[j]? with
  |some (.int v)=>some (xs.set j (.int (1-v)))
  |_=>none
 |none=>none
def qW(m:Int):List BE->Option (List BE)
 |[]=>some []
 |xs::r=>match xE m xs,qW m r with
  |some y,some ys=>some (y::ys)
  |_,_=>none
theorem Hk{m:Int}:∀{xss yss:List BE},qW m xss=some yss->xss.length=yss.length/\∀(i:Nat)(xs:BE),xss[i]?=some xs->∃ys:BE,yss[i]?=some ys/\xE m xs=some ys
 |[],yss,e=>by
  cases e;exact⟨rfl,λi xs h=>by simp at h⟩
 |xs::r,yss,e=>by
  unfold qW at e;split at e
  .rename_i y ys h1 h2
   cases e;obtain⟨l,g⟩:=Hk h2;refine⟨by rw[ca,ca,l],λi zs h=>?_⟩;cases i with
   |zero=>
    cases h;exact⟨y,rfl,h1⟩
   |succ i=>simpa using g i zs (by simpa using h)
  .cases e
open Classical in
def pF(ics ic im:Nat):MS:=λρ S=>match ρ[ics]?,ρ[im]? with
 |some (some (.ref k)),some (some (.pv (.int m)))=>match S[k]? with
  |some (.lol xss)=>if yP k S/\ic<ρ.length then(match qW m xss with
   |some yss=>.nx (ρ.set ic none) (S.set k (.lol yss))
   |none=>.fail)else .fail
  |_=>.fail
 |_,_=>.fail
theorem aU.inner(s:aU K p S H){k i:Nat}{D b:Addr}{xss:List BE}{bs:List Addr}{ys:BE}{ws:List V}(h:p.f[k]?=some D)(hS:S[k]?=some (.lol xss))(pl:yP k S)(hH:H D=some (.lst (bs.map V.ref)))(hb:bs[i]?=some b)(hl:ws.length<=sizeLine)(r:aJ K p.c H ys ws):
  bO p H p (aL H b (.lst ws))/\aU K p (S.set k (.lol (xss.set i ys))) (aL H b (.lst ws)):=by
 have hk:k<S.length:=(ce.mp hS).1;have mD:D∈p.f:=cy h;obtain⟨cs,g1,g2,g3,g4,g5,g6⟩:=s.obj k D _ h hS;rw[hH]at g1;have ec:bs=cs:=by
  have:=congrArg (λo=>match o with |some (HO.lst v)=>v |_=>[]) g1
  have:bs.map V.ref=cs.map V.ref:=this;exact u6 (λx y h=>by cases h;rfl) |>.mp this
 subst ec;have wb:=g4 b (cy hb);have st:bO p H p (aL H b (.lst ws)):=⟨s.wc,s.mu,jk,λ_ h=>h,λ_ h=>h,λ_ h g=>absurd h g,λ_ h g=>absurd h g,λ_ h g=>absurd h g,λa u e nw=>by
  rw[bK (λz:a=b=>nw (by rw[z];exact wb.1))];exact e⟩
 refine⟨st,s.nd,by rw[fk];exact s.len,s.sub,s.wc,λa x=>?_,λj a o e1 e2=>?_⟩
 .by_cases z:a=b
  .rw[z,dW]
   exact⟨_,rfl,trivial⟩
  .rw[bK z]
   exact s.mu a x
 .have ne:a≠b:=λz=>wb.2 (z▸cy e1)
  by_cases hj:k=j
  .subst hj
   rw[h]at e1;cases e1;rw[ee hk]at e2;cases e2;refine⟨bs,by rw[bK ne];exact hH,g2,g3,g4,by rw[fk];exact g5,λi' xs c e1 e2=>?_⟩
   by_cases hi:i=i'
   .subst hi
    rw[hb]at e2;cases e2;have hx:i<xss.length:=by
     rw[g5];exact(ce.mp hb).1
    rw[ee hx]at e1;cases e1;exact⟨ws,dW,hl,st.reps r⟩
   .rw[fh hi]at e1
    obtain⟨vs,h1,h2,h3⟩:=g6 i' xs c e1 e2;exact⟨vs,by rw[bK (λz:c=b=>hi (nodup_idx g3 hb (z▸e2)))];exact h1,h2,st.reps h3⟩
  .rw[fh hj]at e2
   obtain⟨xs,rfl⟩:=pl j o e2 (iw hj);obtain⟨vs,e,l,g⟩:=s.obj j a _ e1 e2;exact⟨vs,by rw[bK ne];exact e,l,st.reps g⟩
theorem C3{α:Type}{ys xs:List α}{i:Nat}{y:α}(l:xs.length=ys.length)(h:ys[i]?=some y):(ys.take i++xs.drop i).set i y=ys.take (i+1)++xs.drop (i+1):=by
 have hi:i<ys.length:=(ce.mp h).1;have hx:i<xs.length:=by omega
 have e:ys[i]=y:=(ce.mp h).2;rw[qp hx,List.set_append,if_neg (by rw[jz];omega),jz,ym (pf hi),ia,ff,List.take_succ_eq_append_getElem hi,e,jx];rfl
theorem Cl{α:Type}{l:List α}{i:Nat}{a b:α}:(l.set i a).set i b=l.set i b:=by simp
theorem aaj{ics ic im:Nat}{c cs mm:Str}{p1 p2 p3 p4 p5 p6 p7 p8 p9 apos:ai}{j:Nat}(hp:pk (model X.prog X.w) X.A X.env X.xe)(hc:X.calm=true)(hN:X.N.Nodup)(h1:X.N[ics]?=some cs)(h2:X.N[ic]?=some c)(h3:X.N[im]?=some mm)
  (v1:kT X.env.scope cs)(v2:kS X.env.scope c)(v3:kT X.env.scope mm)(ne1:ics≠ic)(ne2:im≠ic)
  (ha:∀v,assign (.Subscript (.Name c p3) (.Name mm p4) p5) X.env v=(do
   let ov <-holding [v] (eval (.Name c p3) X.env)
   let iv <-holding [v,ov] (eval (.Name mm p4) X.env)
   standAt p5
   holding [v,ov,iv] (setItem ov iv v)
   release [v,ov,iv] []):=by intro _;rfl)
  (hs:swapsWithSole [.Subscript (.Name c p3) (.Name mm p4) p5] (.BinOp (.Constant (.int 1) j p6) .Sub (.Subscript (.Name c p7) (.Name mm p8) p9) p2) apos.line X.env=pure false:=by rfl)(hw:swappedStores [.Subscript (.Name c p3) (.Name mm p4) p5] (.BinOp (.Constant (.int 1) j p6) .Sub (.Subscript (.Name c p7) (.Name mm p8) p9) p2) X.env=pure none:=by rfl)
  (ht:(assignEach [.Subscript (.Name c p3) (.Name mm p4) p5] X.env).map (·.2)=[assign (.Subscript (.Name c p3) (.Name mm p4) p5) X.env]:=by rfl)
  (hpl:sH (.Name mm p8):=by intro _ _;rfl)
  (d1:(cs==("__debug__":Str))=false:=by decide)(d2:(c==("__debug__":Str))=false:=by decide)(d3:(mm==("__debug__":Str))=false:=by decide)
  (k1:(cs==("__classdict__":Str))=false:=by decide)(k2:(c==("__classdict__":Str))=false:=by decide)(k3:(mm==("__classdict__":Str))=false:=by decide)
  (hf:X.fn c=true\/X.env.scope.names.lookup c=some .local:=by first |exact .inl rfl |exact .inr rfl |assumption)
  (hfs:∀x,foldedSetIterable (.Name cs p1) X.env x=pure x:=by intro _;rfl){cp:ai}:
  eG K cl E X (.For (.Name c cp) (.Name cs p1) [.Assign [.Subscript (.Name c p3) (.Name mm p4) p5] (.BinOp (.Constant (.int 1) j p6) .Sub (.Subscript (.Name c p7) (.Name mm p8) p9) p2) apos] [] pos) (pF ics ic im):=by
 intro hK;subst hK;have vc:kT X.env.scope c:=v2.elim .inl λz=>.inr (.inl z);refine PS.imp (Wq hp hc (Dq (lK h1 v1 d1 k1)) (Xn hN h2 v2 hf) (Vn (wL (Xs Bs wM (xP Pr (lK h2 vc d2 k2) (lK h3 v3 d3 k3) hpl)) (Wc (lK h2 vc d2 k2) (lK h3 v3 d3 k3) Wk ha) hs hw ht)) hfs) ?_
 rintro D σ H ⟨p,S,ρ,s,ev,h⟩
 unfold pF at h;split at h
 .rename_i k m q1 q2
  split at h
  .rename_i xss hS
   split at h
   .rename_i plc
    obtain⟨pl,hic⟩:=plc;split at h
    .rename_i yss hy
     obtain⟨x,ex,rx⟩:=ev.at_ ics _ q1;obtain⟨a,ea,rfl⟩:=rx;obtain⟨ll,fl⟩:=Hk hy;have hk:k<S.length:=(ce.mp hS).1;obtain⟨bs0,b1,b2,b3,b4,b5,b6⟩:=s.obj k a _ ea hS;have plx:∀zss,yP k (S.set k (.lol zss)):=λzss j o e n=>by
      rw[fh (iw n)]at e;exact pl j o e n
     refine⟨.ref a,ex,a,rfl,.inl ⟨⟨_,bV.of b1⟩,λi n σ1 H1=>n=xss.length-i/\i<=xss.length/\∃p1,bO p H p1 H1/\aU X.K p1 (S.set k (.lol (yss.take i++xss.drop i))) H1/\dF X.K p1 H1 (ρ.set ic none) σ1,⟨_,rfl,de _,p,s.step,?_,?_⟩,?_⟩⟩
     .have e0:S.set k (.lol xss)=S:=by
       obtain⟨g1,g2⟩:=ce.mp hS;rw[<-g2];exact u7 g1
      simpa[e0]using s
     .have:=ev.forget ic ((σ[ic]?).join)
      have e0:σ.set ic (σ[ic]?).join=σ:=by
       by_cases hi:ic<σ.length
       .rw[av hi]
        exact u7 hi
       .exact List.set_eq_of_length_le (by omega)
      rwa[e0]at this
     .rintro i n σ1 H1 ⟨rfl,hi,p1,st1,sm1,ev1⟩
      have e1:=st1.at_ ea;have hS1:(S.set k (.lol (yss.take i++xss.drop i)))[k]?=some (.lol (yss.take i++xss.drop i)):=ee hk;obtain⟨bs,c1,c2,c3,c4,c5,c6⟩:=sm1.obj k a _ e1 hS1;have lz:(yss.take i++xss.drop i).length=xss.length:=by
       rw[bh,jz,qi];omega
      by_cases hlt:i<xss.length
      .have hib:i<bs.length:=by omega
       obtain⟨ys,ey,fy⟩:=fl i _ (av hlt);have ez:(yss.take i++xss.drop i)[i]?=some xss[i]:=by
        rw[dj (by rw[jz];omega),jz,ym (by omega),ia,List.getElem?_drop,Nat.add_zero];exact av hlt
       obtain⟨vs,g1,g2,g3⟩:=c6 i _ _ ez (av hib);unfold xE at fy;split at fy
       .rename_i jj hj
        split at fy
        .rename_i v hv
         cases fy;obtain⟨u,eu,ru⟩:=g3.get hv;have:u=.int v:=by unfold aI at ru;exact ru
         subst this;obtain⟨xm,exm,rxm⟩:=ev1.at_ im (.pv (.int m)) (by rw[fh (iw ne2)];exact q2);have:xm=.int m:=by
          have rxm:aI X.K p1.c H1 (.int m) xm:=rxm;unfold aI at rxm;exact rxm
         subst this;refine .inr ⟨⟨_,.ref bs[i],bV.of c1,by rw[ax,av hib];rfl⟩,λσ' H'=>∃p2,bO p H p2 H'/\aU X.K p2 (S.set k (.lol (yss.take (i+1)++xss.drop (i+1)))) H'/\dF X.K p2 H' (ρ.set ic none) σ',λσ' H' hn=>⟨xss.length-(i+1),by omega,rfl,hlt,hn⟩,λx H2 hy=>?_⟩;obtain⟨rfl,hy⟩:=hy;have ey2:=hy _ (bV.of c1);rw[ax,av hib]at ey2;cases ey2;have hic1:ic<σ1.length:=by
          rw[<-ev1.len,fk];exact hic
         have sc:(σ1.set ic (some (V.ref bs[i])))[ic]?=some (some (.ref bs[i])):=ee hic1;have sm':(σ1.set ic (some (V.ref bs[i])))[im]?=some (some (.int m)):=by rw[fh (iw ne2)];exact exm
         have hj':bF vs.length m=some jj:=by rw[<-g3.length];exact hj
         have ha1:bC vs m=some (.int v):=by unfold bC;rw[hj'];exact eu
         obtain⟨st2,sm2⟩:=sm1.inner (ys:=xss[i].set jj (.int (1-v))) (ws:=vs.set jj (.int (1-v))) e1 hS1 (plx _) c1 (av hib) (by rw[fk];exact g2) (aJ.set (iR (v:=.int (1-v)) rfl) jj g3);rw[Cl,C3 ll ey]at sm2;have ev2:=(st2.repE ev1).forget ic (some (V.ref bs[i]));rw[Cl]at ev2;exact⟨_,sc,_,sm',.inl ⟨_,_,_,_,rfl,rfl,bV.of g1,ha1,1,v,rfl,rfl,_,sc,_,sm',_,_,_,_,rfl,rfl,g1,hj',p1,st1.trans st2,sm2,ev2⟩⟩
        .cases fy
       .cases fy
      .have e:i=xss.length:=by omega
       subst e;refine .inl ⟨⟨_,bV.of c1,by rw[ao];omega⟩,?_⟩;rw[uh,mf,ll,yf]at sm1;exact h p1 H1 σ1 st1 sm1 ev1
    .exact h.elim
   .exact h.elim
  .exact h.elim
 .exact h.elim
open Classical in
def wO(n:Nat):cD->bP AV
 |.rt (.ref k) S=>match S[k]? with
  |some (.lol xss)=>if ¬k<n/\Pl (S.take n)then .ok (.pv (.lst (xss.map .lst))) (S.take n)else .fail
  |_=>.fail
 |_=>.fail
open Classical in
def pN(np n:Nat)(b:MS)(xs:BH)(S:aG):bP AV:=if xs.length=np/\Pl S then wO S.length (b (jE n xs) S)else .fail
def Ph.only(p:Ph):Ph:=⟨p.f,λa=>a∈p.f,p.c⟩
theorem aU.only(s:aU K p S H)(pl:Pl S):aU K p.only S H:=
 ⟨s.nd,s.len,λ_ h=>h,λa h=>s.wc a (s.sub a h),s.mu,λk a o e1 e2=>by
  obtain⟨xs,rfl⟩:=pl k o e2;exact s.obj k a _ e1 e2⟩
theorem Kx{as:BH}{vs:List V}(h:gJ K p H as vs):gJ K p.only H as vs:=by
 induction h with
 |nil=>exact .nil
 |cons h _ ih=>
  refine .cons ?_ ih;rename_i v x _ _ _;cases v with
  |pv v=>exact h
  |ref k=>exact h
theorem Lw{r:cD}{Q:VK}{E:XK}(s:aU K p S H)(pl:Pl S)(h:bU K cl (bZ K) p H (wO S.length r) Q E):dY K cl p.only H r {nx:=λ_ H'=>Q .non H',rt:=Q} E:=by
 cases r with
 |rt v S1=>
  cases v with
  |pv v=>exact h.elim
  |ref k=>
   unfold wO at h;dsimp only at h;split at h
   .rename_i xss hS
    split at h
    .rename_i hc
     obtain⟨hk,plt⟩:=hc
     rintro q H' x st sm ⟨a,e,rfl⟩
     have s1:=s.only pl;obtain⟨na,hn,nc⟩:=Wa s1 st sm e hk;obtain⟨bs,g1,g2,g3,g4,g5,g6⟩:=sm.obj k a _ e hS;have fresh:∀b∈bs,H b=none:=λb hb=>st.nw b (g4 b hb).1 λm=>(g4 b hb).2 (st.pre.subset m);obtain⟨st1,sm1⟩:=s1.cutX (λb=>b=a\/b∈bs) st sm (λb d=>d.elim (λz=>z▸hn) (fresh b)) (.inr λj o e hj=>plt j o (by rw[ui,if_pos hj];exact e));refine h ⟨p.f,λb=>(q.w b/\¬(b=a\/b∈bs))\/p.w b,λb=>q.c b/\¬(b=a\/b∈bs)⟩ H' (.ref a) ⟨s.wc,s.mu,jk,λb h=>.inr h,st1.mono,λ_ h g=>absurd h g,λb h n=>?_,st1.nc,λb o e n=>st1.keep b o e λz=>n (s.sub b z)⟩
      ⟨s.nd,sm1.len,λb h=>.inr (s.sub b h),λb h=>h.elim (sm1.wc b) λz=>st1.mono b (s.wc b z),sm1.mu,λj b o e1 e2=>(sm1.obj j b o e1 e2).mono (λ_ e=>e) (λc w f=>⟨⟨.inl w,f⟩,λ_ e=>e⟩) λ_ _ r=>r⟩ ?_
     .rcases h with h |h
      .exact st1.nw b h λz=>n (s.sub b z)
      .exact absurd h n
     .show aI K (λb=>q.c b/\¬(b=a\/b∈bs)) H' (.lst (xss.map .lst)) (.ref a)
      unfold aI;refine⟨a,bs.map V.ref,rfl,.inl ⟨g1,λd=>d.2 (.inl rfl)⟩,by rw[ao];exact g2,?_⟩;have go:∀(yss:List BE)(cs:List Addr),yss.length=cs.length->(∀c∈cs,c∈bs)->(∀(i:Nat)(xs:BE)(b:Addr),yss[i]?=some xs->cs[i]?=some b->∃vs,H' b=some (.lst vs)/\vs.length<=sizeLine/\aJ K q.c H' xs vs)->aJ K (λb=>q.c b/\¬(b=a\/b∈bs)) H' (yss.map .lst) (cs.map V.ref):=by
       intro yss
       induction yss with
       |nil=>
        intro cs l _ _;have:cs=[]:=yn.mp l.symm;subst this;exact .nil
       |cons ys r ih=>
        intro cs l hm hh;cases cs with
        |nil=>cases l
        |cons c t=>
         obtain⟨vs,k1,k2,k3⟩:=hh 0 ys c rfl rfl;refine .cons ?_ (ih t (by simpa using l) (λc h=>hm c (bn _ h)) λi xs b e1 e2=>hh (i+1) xs b (by simpa using e1) (by simpa using e2));unfold aI;exact⟨c,vs,rfl,.inl ⟨k1,λd=>d.2 (.inr (hm c bf))⟩,k2,mW (λb h=>h.1) k3⟩
      exact go xss bs g5 (λ_ h=>h) g6
    .exact h.elim
   .exact h.elim
 |nx ρ S1=>exact h.elim
 |exc n S1=>exact h.elim
 |bk ρ S1=>exact h.elim
 |ct ρ S1=>exact h.elim
 |fail=>exact h.elim
end
section
variable{P:Program}{w:am}{K:ag}{mg:Str->BB}{base:Heap}{cl:Str->Addr}
theorem X5{np n:Nat}{b:MS}{vs:List V}{H:Hp}{Q:VK}{E:XK}(h:mU K cl (pN np n b) vs H Q E):vs.length=np:=by
 obtain⟨p,S,xs,sm,ra,h⟩:=h;unfold pN at h;split at h
 .rename_i e
  rw[<-Zj ra,e.1]
 .exact h.elim
theorem okL{x qual:Str}{st:Stmt}{f:Addr}{fd:ck}{N ps:List Str}{k np n:Nat}{b:MS}(F:kC K x qual st f fd)(S:jV N ps (cU st))(hnp:ps.length=np)(hn:N.length=n)
  (hb:∀(cdv:Value)(A:aq)(outer:List bo)(s:aa)(H:Hp)(E:XK),dS k (A.deeper (envOfC qual (cU st) s.heap.objs.size f cdv))->gR K cl E0 (fT fI P w K mg base N qual (cU st) f cdv A outer s H E).nox (eV st) b):
  eO P w K mg base fI (k+1) f fd ps (jM K cl (pN np n b)):=by
 subst hnp hn;refine F.ok S (λvs H Q E h=>X5 h) λcdv A outer s H vs Q E hr h=>⟨_,hb cdv A outer s H E hr rfl,?_⟩;obtain⟨p,S,xs,sm,ra,h⟩:=h;unfold pN at h;split at h
 .rename_i e
  exact⟨p.only,S,_,sm.only e.2,zX (Kx ra),Lw sm e.2 h⟩
 .exact h.elim
end
end
def xL(v:AV)(S:aG):bP Bool:=match rd S v with
 |some (.lst xs)=>.ok (!xs.isEmpty) S
 |some (.tup xs)=>.ok (!xs.isEmpty) S
 |some (.int i)=>.ok (i !=0) S
 |some (.bl b)=>.ok b S
 |_=>.fail
def tZ(m:ME):MT:=λρ S=>(m ρ S).bind xL
theorem Vh{K:ag}{c:Addr->Prop}{H:Hp}{xs:BE}{vs:List V}(r:aJ K c H xs vs):vs.isEmpty=xs.isEmpty:=by
 have:=r.length;cases xs<;>cases vs<;>simp_all
theorem aae{K:ag}{cl:Str->Addr}{E:XK}{X:Cx}{a:ah}{ma:ME}(ha:aS K cl E X a ma)(he:∀whole,isTrue a X.env whole=(do let v <-whole;standAt a.pos;holding [v] (truthy v)):=by intro _;rfl):fP K cl E X a (tZ ma):=by
 intro hK;subst hK;refine(F6 (ha rfl) he).imp ?_
 rintro σ H Q ⟨p,S,ρ,s,e,h⟩
 refine bY s e h λq H1 a x S1 st s1 e1 r1 h1=>?_;unfold xL at h1;cases z:rd S1 a with
 |none=>rw[z]at h1;exact h1.elim
 |some v=>
  rw[z]at h1;have rr:=oQ s1 r1 z;cases v with
  |lst xs=>
   obtain⟨b,vs,rfl,l,_,r⟩:=rr.lst;exact⟨_,.inl ⟨vs,l,by rw[Vh r]⟩,bU.ret (R:=RB) h1 s1 rfl⟩
  |tup xs=>
   obtain⟨b,vs,rfl,l,_,r⟩:=rr.tup;exact⟨_,.inr (.inl ⟨vs,l,by rw[Vh r]⟩),bU.ret (R:=RB) h1 s1 rfl⟩
  |int i=>
   cases rr.int;exact⟨_,rfl,bU.ret (R:=RB) h1 s1 rfl⟩
  |bl i=>
   cases rr.bl;exact⟨_,rfl,bU.ret (R:=RB) h1 s1 rfl⟩
  |_=>exact h1.elim
def uK(P:Program)(w:am)(K:ag)(mg:Str->BB)(base:Heap)(cl:Str->Addr)(x:Str)(k:Nat)(ps:List Str)(g:FM):Prop:=∃(a:Addr)(d:ck),eO P w K mg base fI k a d ps (jM K cl g)/\jI K d ps []/\ie K (.ref a)=true/\mg x=some (.ref a)
section
variable{cl:Str->Addr}{E:XK}{X:Cx}{e:ah}{es:List ah}{ms:MA}{pos p:ai}{k k0:Nat}{ps:List Str}{g:FM}{x:Str}
theorem aci(C:uK X.prog X.w X.K X.mg X.base cl x k ps g)(hr:dS k0 X.A)(hk:k<=k0)(hg:Gl X x)(ha:eN X.K cl E X (e::es) ms)(hdb:(x==("__debug__":Str))=false:=by decide)(he:starEach (e::es) X.env=(false,eval e X.env)::starEach es X.env:=by rfl)(hpl:(backTo pos (starEach es X.env)).any (·.1)=false:=by rfl):
  aS X.K cl E X (.Call (.Name x p) (e::es) [] pos) (aT g [] ms):=by
 obtain⟨a,d,G,b,kk,n⟩:=C;exact M7 G (hr.mono hk) hg n kk b .nil Dv.nil ha hdb he hpl
theorem adb(C:uK X.prog X.w X.K X.mg X.base cl x k ps g)(hr:dS k0 X.A)(hk:k<=k0)(hg:Gl X x)(ha:eN X.K cl E X (e::es) ms)(hdb:(x==("__debug__":Str))=false:=by decide)(he:starEach (e::es) X.env=(false,eval e X.env)::starEach es X.env:=by rfl)(hpl:(backTo pos (starEach es X.env)).any (·.1)=false:=by rfl):
  aS X.K cl E X (.Call (.Name x p) (e::es) [] pos) (qR g [] ms):=by
 obtain⟨a,d,G,b,kk,n⟩:=C;exact F9 G (hr.mono hk) hg n kk b .nil Dv.nil ha hdb he hpl
end
theorem Hx(l:Addr)(its:Array Value)(n:Nat)(b:Addr)(jts:Array Value)(k:Nat)(dd:BC)(sl:Array BB)(h0:¬(!its.isEmpty&&sr (its.size+jts.size))=true)(h1:its.size<=sizeLine)(h2:its.size+jts.size<=sizeLine+1):
  Meets (Builtin.«list.__iadd__» ⟨[.ref l,.ref b],[]⟩) (λ_ R s=>s.heap.get? l=some ⟨.type "list",none,.seq its n,#[]⟩/\s.heap.get? b=some ⟨.type "list",dd,.seq jts k,sl⟩/\R (.ok (.ret (cr l))) {s with heap:=s.heap.update l (dq λx=>x++jts),toks:=s.toks}):=
 .of_wp λprog w A R s h=>by
  obtain⟨hp,g,d,tk,os⟩:=s;obtain⟨hl,hb,h⟩:=h;have f1:=PySem.AutoSeq1.idx_int;have f2:=a7;have f3:=PySem.AutoSeq1.sub_list_list;have f4:=PySem.AutoSeq1.sub_tuple_list;have f5:=PySem.AutoSeq1.sub_list_tuple;have hz':(its++jts).size<=sizeLine+1:=by
   rw[Array.size_append];exact h2
  wp_walk using(wpAny_updateSeq hl rfl (hz:=h1) (_hz':=hz')),rn hl,rn hb
  exact⟨_,rfl,h⟩
section
variable{X:Cx}
def ack(K:ag):yS:=λx y H Q=>∃l b xs zs,x=.ref l/\y=.ref b/\H l=some (.lst xs)/\bV K H b zs/\xs.length+zs.length<=sizeLine/\Q (.ref l) (aL H l (.lst (xs++zs)))
theorem aaW:L2.PIp X .Add (ack X.K):=by
 intro BI s σ H x y v u Q I rx ry h;obtain⟨l,b,xs,zs,rfl,rfl,hx,hy,hz,q⟩:=h;cases rx;cases ry;obtain⟨z,its,n,r1,hl,e⟩:=I.lstM hx;obtain⟨jts,r2,p2,_⟩:=I.list hy;obtain⟨⟨cls2,dd2,data2,sl2⟩,n2,ho2,hc2,_,hd2⟩:=p2;simp only at hc2 hd2;subst hc2 hd2;have l1:=r1.length;have l2:=r2.length;have hsz:its.toArray.size+jts.toArray.size<=sizeLine:=by rw[au,au];omega
 have hlong:¬(!its.toArray.isEmpty&&sr (its.toArray.size+jts.toArray.size))=true:=by
  rw[M9 hsz,Bool.and_false];exact ij
 have ta:s.TypeIs (.ref l) "list":=⟨_,e,rfl⟩;have tb:s.TypeIs (.ref b) "list":=⟨_,ho2,rfl⟩;have hf:=u8.lookup;have hq:isSeqSlot (some (.builtin "list.__iadd__"))=true:=by decide+kernel
 have hfi:fillsInplaceSlot (.type "list") "add" (Operator.Add== .Add)=pure false:=by
  unfold fillsInplaceSlot;show(typeLookup (.type "list") (dunderI "add") >>= λfi=>pure (fi.isSome&& !isSeqSlot fi))=pure false;rw[hf,pure_bind,hq];rfl
 have hsi:seqSlot? (.type "list") (dunderI "add")=pure (some (.builtin "list.__iadd__")):=PySem.seqSlot_of hf hq;unfold inplaceOp;refine jm ?_;refine ae (wm ta (ae (tz hfi ?_)));show wpAny _ _ (if false=true then _ else _) _ _ s;rw[if_neg ij];refine ae (wpAny_binaryOp1_none (nm:="add") ta tb noFill_list_add ?_);refine ae (tz hsi ?_);refine ae (kn ?_);refine wu u8 ⟨_,e,rfl⟩ u9 (PySem.F.args_list_iadd_2 _ _) (Hx l its.toArray n b jts.toArray n2 dd2 sl2 hlong (by rw[au];omega) (by omega)) ⟨e,ho2,?_⟩;refine⟨.ref l,_,I.lset (its':=its++jts) hx e (by simp) (r1.append r2) ?_,rfl,q⟩;rw[bh];omega
end
section
variable{K:ag}{cl:Str->Addr}{E:XK}{X:Cx}{e:ah}{m:ME}{pos:ai}
def Cf(k:Nat)(ρ:bW)(v:AV)(S:aG):cD:=match v with
 |.pv (.lst ys)=>match S[k]? with
  |some (.lst xs)=>if xs.length+ys.length<=16777216 then .nx ρ (S.set k (.lst (xs++ys)))else .fail
  |_=>.fail
 |_=>.fail
def nM(i:Nat)(m:ME):MS:=λρ S=>match ρ[i]? with
 |some (some (.ref k))=>cD.of (m ρ S) (Cf k ρ)
 |_=>.fail
theorem J3{i:Nat}{x:Str}{pos':ai}(hN:X.N.Nodup)(hi:X.N[i]?=some x)(hx:kS X.env.scope x)(he:aS K cl E X e m)
  (hf:X.fn x=true\/X.env.scope.names.lookup x=some .local:=by first |exact .inl rfl |exact .inr rfl |assumption):eG K cl E X (.AugAssign (.Name x pos') .Add e pos) (nM i m):=by
 intro hK;subst hK;refine PS.imp (aaZ hN hi hx (he rfl) aaW hf) ?_
 rintro D σ H ⟨p,S,ρ,s,ev,h⟩
 unfold nM at h;split at h
 .rename_i k hx0
  obtain⟨v,e1,r1⟩:=ev.at_ i _ hx0;refine⟨v,e1,iJ s ev h λq H' a b S' cN sm ev' r z=>?_⟩;obtain⟨D0,ea,rfl⟩:=cN.repA r1;unfold Cf at z;split at z
  .rename_i ys
   obtain⟨b0,ws,rfl,sq,lw,rw0⟩:=(show fG X.K q H' (.lst ys) b from .inl r).lst;split at z
   .rename_i xs hS
    split at z
    .rename_i hl
     obtain⟨vs,h3,l3,r4⟩:=sm.obj k D0 _ ea hS;have hz:=iD;have n1:=r4.length;have n2:=rw0.length;obtain⟨dP,sm3⟩:=sm.write ea (ce.mp hS).1 (ps:=xs++ys) (vs:=vs++ws) (by rw[bh];omega) (r4.append rw0);refine⟨D0,b0,vs,ws,rfl,rfl,h3,sq,by omega,?_⟩;have es:σ.set i (some (.ref D0))=σ:=by
      refine jf λj=>?_
      by_cases hj:i=j
      .subst hj
       rw[ee (ce.mp e1).1,e1]
      .rw[fh hj]
     show D.nx (σ.set i (some (.ref D0))) _;rw[es];exact dY.nxD (z.mono dP) sm3 (dP.repE ev')
    .exact z.elim
   .exact z.elim
  .exact z.elim
 .exact h.elim
end
section
variable{K:ag}{cl:Str->Addr}{E:XK}{X:Cx}
variable{a e:ah}{m:ME}{ms:MA}{pos:ai}
end
section
variable{K:ag}{cl:Str->Addr}{E:XK}{X:Cx}
end
section
variable{K:ag}{cl:Str->Addr}{E:XK}{X:Cx}
def uJ(K:ag)(mg:Str->BB)(x:Str)(pv:PV):Prop:=∃(u:Value)(v:V),mg x=some u/\bQ v u/\∀c H,aI K c H pv v
theorem Jo{x:Str}{pv:PV}{pos:ai}(hg:Gl X x)(hm:uJ K X.mg x pv)(hd:(x==("__debug__":Str))=false:=by decide):aS K cl E X (.Name x pos) (mC pv):=λ_=>by
 obtain⟨u,v,hm,r,hr⟩:=hm;exact(aac hg hm r hd).imp λσ H Q ⟨p,S,ρ,s,e,h⟩=>bU.ret (R:=bZ K) (x:=v) h s (hr p.c H)
theorem lX:∀c H,aJ K c H [] []:=λc H=>by
 unfold aJ;rfl
theorem fB{p:PV}{ps:BE}{v:V}{vs:List V}(h:∀c H,aI K c H p v)(t:∀c H,aJ K c H ps vs):∀c H,aJ K c H (p::ps) (v::vs):=λc H=>by
 unfold aJ;exact⟨v,vs,rfl,h c H,t c H⟩
theorem gS{i:Int}:∀c H,aI K c H (.int i) (.int i):=λc H=>by
 unfold aI;rfl
theorem lY{a:Addr}{od:BC}{its:Array Value}{n:Nat}{sl:Array BB}{xs:BE}{vs:List V}(l:K.lookup a=some ⟨.type "tuple",od,.seq its n,sl⟩)(hs:its.size<=sizeLine)(hv:bA vs its.toList)(hl:vs.length<=sizeLine)(t:∀c H,aJ K c H xs vs):∀c H,aI K c H (.tup xs) (.ref a):=λc H=>by
 unfold aI;exact⟨a,vs,rfl,.inr ⟨_,its,n,l,rfl,rfl,hs,hv⟩,hl,t c H⟩
end
section
variable{K:ag}{cl:Str->Addr}{E:XK}{X:Cx}
end
section
variable{K:ag}{cl:Str->Addr}{E:XK}{X:Cx}
variable{a e:ah}{m:ME}{ms:MA}{pos:ai}
end
section
variable{M:lg}{A:aq}{E:Value->aa->Prop}{s:aa}{env:bo}
end
section
variable{prog:Program}{w:am}{A:aq}{R:qe->aa->Prop}{s:aa}
end
end L2.Pp
namespace L2
open PySem PySem.Spec PyProof.Rows Bn
section
variable{X:Cx}{BI:List (Addr×Obj)}{σ:St}{H H':Hp}{s s':aa}
end
open L2.Pp
section
variable{P:Program}{w:am}{K:ag}{mg:Str->BB}{base:Heap}{N:List Str}{qual:Str}{scope:Scope}{f:Addr}{cd:Value}{A:aq}{outer:List bo}{BJ:aa}{BK:Hp}{E:XK}
end
section
variable{P:Program}{w:am}{K:ag}{mg:Str->BB}{base:Heap}{N:List Str}{qual:Str}{scope:Scope}{f:Addr}{cd:Value}{A:aq}{outer:List bo}{BJ:aa}{BK:Hp}{E:XK}
variable{sc:Scope}{own:List Str}{cap:List (Nat×Str)}{BI:List (Addr×Obj)}{σ:St}{H:Hp}{s:aa}{elt target iter:ah}{pos pos':ai}{wi:TI}{g:TG}{te:TE}{Q:VK}
end
end L2
namespace L2.Pp
open PySem PySem.Spec PyProof.Rows Bn
section
variable{K:ag}{cl:Str->Addr}{E:XK}{X:Cx}{p q:Ph}{H H':Hp}{S:aG}
variable{sc:Scope}{own:List Str}{cap:List (Nat×Str)}{elt target iter:ah}{pos:ai}{mi:MI}{g:GM}{me:ME}
end
section
variable{P:Program}{w:am}{K:ag}{mg:Str->BB}{base:Heap}{N:List Str}{qual:Str}{scope:Scope}{f:Addr}{cd:Value}{A:aq}{outer:List bo}{BJ:aa}{BK:Hp}{E:XK}{cl:Str->Addr}
variable{sc:Scope}{own:List Str}{cap:List (Nat×Str)}{elt target iter:ah}{pos:ai}{mi:MI}{g:GM}{me:ME}{wi:TI}{tg:TG}{te:TE}
end
section
variable{K:ag}{cl:Str->Addr}{E:XK}{X:Cx}{e:ah}{es:List ah}{ms:MA}{pos p:ai}{k n:Nat}{f:Addr}{fd:ck}{ps:List Str}{g:FM}{x:Str}{dvs:List V}{ds:BA}{dv:BE}
end
section
variable{K:ag}{cl:Str->Addr}{E:XK}{X:Cx}
end
section
variable{K:ag}{cl:Str->Addr}{E:XK}{X:Cx}{a b e:ah}{m:ME}{ms:MA}{pos:ai}
end
end L2.Pp
namespace L2
open PySem PySem.Spec PyProof.Rows Bn
section
variable{X:Cx}{k:Nat}{f:Addr}{fd:ck}{ps:List Str}{sp:Sp}{dvs:List V}{ds:BA}{x:Str}{p pos pos1 pos2 pos3 pc:ai}{e a:ah}{es:List ah}{t:TA}{ta:TE}{te:XK->TE}{c n:Str}{C:Addr}{i:Nat}{BO:Stmt}{body:List Stmt}{newId:String}
end
end L2
namespace L2.Pp
open PySem PySem.Spec PyProof.Rows Bn
section
variable{K:ag}{cl:Str->Addr}{E:XK}{X:Cx}{a b c e:ah}{m mc:ME}{ms:MA}{pos:ai}{tg:ah}{ma mb:ME}
end
section
variable{K:ag}{cl:Str->Addr}{E:XK}{X:Cx}{e a:ah}{es:List ah}{ms:MA}{ma me:ME}{p q:Ph}{H H':Hp}{S:aG}
variable{k:Nat}{f:Addr}{fd:ck}{ps:List Str}{g:FM}{dvs:List V}{ds:BA}{dv:BE}{x:Str}{pp pos pos1 pos2 pos3 pc:ai}{c n:Str}{i nn:Nat}{BO:Stmt}{body:List Stmt}{newId:String}{up:bW->bW}
variable(K cl X)
variable{K cl X}
end
section
variable{K:ag}{cl:Str->Addr}{E:XK}{X:Cx}{a b:ah}{ma mb:ME}{pos:ai}
end
end L2.Pp
namespace L2
open PySem PySem.Spec PyProof.Rows Bn
section
variable{X:Cx}{k:Nat}{p pos pos1 pos2 pos3 pc:ai}{e:ah}{te:XK->TE}{c:Str}{C:Addr}{BO:Stmt}{body:List Stmt}{newId:String}
end
end L2
namespace L2.Pp
open PySem PySem.Spec PyProof.Rows Bn
section
variable{K:ag}{cl:Str->Addr}{E:XK}{X:Cx}{a b e:ah}{m me:ME}{ms:MA}{pos pos1 pos2 pos3 pc:ai}{c:Str}{nn:Nat}{BO:Stmt}{body:List Stmt}{newId:String}{up:bW->bW}
end
section
variable{M:lg}{A:aq}{E:Value->aa->Prop}{s:aa}{env:bo}
end
end L2.Pp
namespace L2
open PySem PySem.Spec PyProof.Rows Bn L2.Pp
section
variable{P:Program}{w:am}{K:ag}{mg:Str->BB}{base:Heap}{N:List Str}{qual:Str}{scope:Scope}{f:Addr}{cd:Value}{A:aq}{outer:List bo}{BJ:aa}{BK:Hp}{E:XK}
variable{sc:Scope}{own:List Str}{cap:List (Nat×Str)}{BI:List (Addr×Obj)}{σ:St}{H:Hp}{s:aa}{elt target iter:ah}{pos pos':ai}{wi:TI}{g:TG}{te:TE}{Q:VK}
end
end L2
namespace L2.Pp
open PySem PySem.Spec PyProof.Rows Bn
section
variable{P:Program}{w:am}{K:ag}{mg:Str->BB}{base:Heap}{N:List Str}{qual:Str}{scope:Scope}{f:Addr}{cd:Value}{A:aq}{outer:List bo}{BJ:aa}{BK:Hp}{E:XK}{cl:Str->Addr}
variable{sc:Scope}{own:List Str}{cap:List (Nat×Str)}{elt target iter:ah}{pos:ai}{mi:MI}{g:GM}{me:ME}
end
section
variable{K:ag}
end
section
variable{K:ag}{X:Cx}
end
end L2.Pp
namespace L2
open PySem PySem.Spec PyProof.Rows Bn
def xM(J:It)(g:TG)(tc:TT)(te:TE)(BN:St)(H1:Hp)(D:Addr)(Q:VK):Prop:=
 ∃W:Nat->Nat->St->Hp->List V->Prop,(∃m,W 0 m BN (aL H1 D (.lst [])) [])/\∀i m σ H ys,W i m σ H ys->H D=some (.lst ys)/\
  ((J.stop i H/\Q (.ref D) H)\/(J.go i H/\ys.length<sizeLine/\∀x H2,J.yld i H x H2->g x σ H2 λσ3 H3=>tc σ3 H3 λb HA=>if b=true then te σ3 HA λy H4=>H4 D=some (.lst ys)/\∃m',m'<m/\W (i+1) m' σ3 (aL H4 D (.lst (ys++[y]))) (ys++[y])else ∃m',m'<m/\W (i+1) m' σ3 HA ys))
def Uq(own:List Str)(cap:List (Nat×Str))(wi:TI)(g:TG)(tc:TT)(te:TE):TE:=λσ H Q=>wi σ H λJ H1=>∀D,H1 D=none->xM J g tc te (iP own cap σ) H1 D Q
section
variable{prog:Program}{w:am}{A:aq}{R:qe->aa->Prop}{s:aa}
theorem Zx{elt target iter cnd:ah}{sc:Scope}{pos:ai}{it acc:Value}{env:bo}(I:Nat->aa->Prop)
  (turn:∀n s,I n s->wpAny (model prog w) A (pyNext it) (λr s1=>match r with
   |none=>R (.ok .next) s1
   |some v=>wpAny (model prog w) A (letOwnedTupleGo target it v) (λ_ s2=>wpAny (model prog w) A (assign target env v) (λ_ s3=>wpAny (model prog w) A (isTrue cnd env (eval cnd env)) (λb sA=>if b=true then wpAny (model prog w) A (eval elt env)
     (λx s4=>wpAny (model prog w) A (call (.builtin "list.append") [acc,x]) (λ_ s5=>∃m,m<n/\I m s5) (λ_ _=>False) s4) (λ_ _=>False) sA else ∃m,m<n/\I m sA) (λ_ _=>False) s3) (λ_ _=>False) s2) (λ_ _=>False) s1) (λ_ _=>False) s)
  (n:Nat)(h:I n s):codeAny (model prog w) A (.compLoop (.ListComp elt [⟨target,iter,[cnd],0⟩] sc pos) 0 it acc env) R s:=by
 refine codeAny_loop rfl I (λn s hI=>?_) n h;show wpAny _ _ ((compTurn (.ListComp elt [⟨target,iter,[cnd],0⟩] sc pos) 0 it acc env).onRaise (λx=>do noteFrame x env;theTreesLotGoes x)) _ _ s;refine wpAny_noted ?_;rw[compTurn_list];refine ae (ph (ae ?_));refine ft (turn n s hI) (λr s1 h1=>?_) λ_ _ z=>z.elim;cases r with
 |none=>exact ak h1
 |some v=>
  refine ae (ft h1 (λ_ s2 h2=>?_) λ_ _ z=>z.elim);refine ae (ft h2 (λ_ s3 h3=>?_) λ_ _ z=>z.elim);refine ae (wpAny_tests_one (ft h3 (λok sA hA=>?_) λ_ _ z=>z.elim));cases ok with
  |true=>
   rw[if_pos rfl]at hA⊢;refine ae (ae (ft hA (λx s4 h4=>?_) λ_ _ z=>z.elim));refine ae (ft h4 (λ_ s5 h5=>?_) λ_ _ z=>z.elim);exact ak (ak ⟨rfl,h5⟩)
  |false=>
   rw[if_neg ij]at hA⊢;exact ae (ak (ak ⟨rfl,hA⟩))
end
section
variable{X:Cx}{sc:Scope}{own:List Str}{cap:List (Nat×Str)}{BI:List (Addr×Obj)}{σ:St}{H:Hp}{s:aa}{elt target iter cnd:ah}{pos pos':ai}{wi:TI}{g:TG}{tc:TT}{te:TE}{Q:VK}
theorem Dx{use:Option (Value->Sem Unit)}{Qf:Value->aa->Prop}(k:hV X sc own cap)(hi:PI X target iter wi)(hc:X.calm=true)
  (hg:∀C BJ BK ex,PG (eD X sc (cF own cap) C BJ BK ex) target g)(ht:∀C BJ BK ex,PT (eD X sc (cF own cap) C BJ BK ex) cnd tc)(he:∀C BJ BK ex,PE (eD X sc (cF own cap) C BJ BK ex) elt te)(I:aF X BI σ H s)(h:Uq own cap wi g tc te σ H Q)
  (fin:∀D C s' H' m,aF X BI σ H' s'->fO X BI H' C->s'.heap.Ns C m->Q (.ref D) H'->compPost (model X.prog X.w) X.A X.xe use Qf (.ref D) C (.ok .next) s')
  (hs:∀x,foldedSetIterable iter X.env x=pure x):
  wpAny (model X.prog X.w) X.A (comprehension (.ListComp elt [⟨target,iter,[cnd],0⟩] sc pos) sc X.env pos' (newList []) false (eval iter X.env) use) Qf X.xe s:=by
 refine xk (use:=use) rfl hs (Ec (k.has I.ok)) k.kind k.names ?_;refine bD (hi BI s σ H _ I h) λv s1 h1=>bD h1 λitv s2 h2=>?_;obtain⟨it,fp,tn,J,H2,e,I2,T,st2,f2,hW⟩:=h2;subst e;refine iy (j7 k.nocell (λy hy=>nomatch hy) (λh4 hns hsb=>?_) k.kind);have I3:aF X BI σ (aL H2 s2.heap.objs.size (.lst [])) {s2 with heap:=s2.heap.push {cls:=.type "list",data:=.seq ([]:BA).toArray},toks:=s2.toks}:=I2.lnew (ys:=[]) (its:=[]) .nil (de _);have hD:H2 s2.heap.objs.size=none:=I2.fresh;have ltf:∀b∈fp,b<s2.heap.objs.size:=λb hb=>by
  obtain⟨o,ho,_⟩:=T.obj _ _ st2 b hb;exact ay ho
 have f3:∀b∈fp,fO X BI (aL H2 s2.heap.objs.size (.lst [])) b:=λb hb=>⟨by rw[bK (cx (ltf b hb))];exact(f2 b hb).1,(f2 b hb).2⟩;have un:Un (eQ X.stack) fp H2 (aL H2 s2.heap.objs.size (.lst [])) s2.heap (s2.heap.push {cls:=.type "list",data:=.seq ([]:BA).toArray}):=Un.laid (λb u q=>ar _ q) (aj _) hD;have kp:∀b o,(s2.heap.push {cls:=.type "list",data:=.seq ([]:BA).toArray}).get? b=some o->h4.get? b=some o:=λb o q=>hsb.extBut b o (cx (ay q)) (ar _ q);have J0:=I3.cmp (t':=s2.toks+([]:List (Str×Value)).length) k f3 (λb hb=>di (ltf b hb) (by rw[ji];exact og _)) hns kp;have stat:∀{H':Hp},(∀b∈fp,H' b=none)->∀b∈fp,fO (eD X sc (cF own cap) (s2.heap.push {cls:=.type "list",data:=.seq ([]:BA).toArray}).objs.size {s2 with heap:=s2.heap.push {cls:=.type "list",data:=.seq ([]:BA).toArray},toks:=s2.toks} (aL H2 s2.heap.objs.size (.lst [])) fp) [] H' b:=λhn b hb=>
  ⟨hn b hb,(J0.ok.exf b hb).1,J0.ok.exfs b hb,.inl hb,(J0.ok.exf b hb).2,λp hp=>absurd (show p∈([]:List (Addr×Obj)) from hp) (by simp)⟩
 have st4:tn 0 h4:=T.keep _ _ _ st2 λb hb o q=>kp b o (ar _ q);have fr0:∀b∈fp,(aL H2 s2.heap.objs.size (.lst [])) b=none:=λb hb=>(f3 b hb).1;have loop:codeAny (model X.prog X.w) X.A (.compLoop (.ListComp elt [⟨target,iter,[cnd],0⟩] sc pos) 0 (.ref it) (.ref s2.heap.objs.size) (compEnvC sc (gI X.env sc.names []) (s2.heap.push {cls:=.type "list",data:=.seq ([]:BA).toArray}).objs.size X.env))
   (compPost (model X.prog X.w) X.A X.xe use Qf (.ref s2.heap.objs.size) (s2.heap.push {cls:=.type "list",data:=.seq ([]:BA).toArray}).objs.size) {s2 with heap:=h4,toks:=s2.toks+([]:List (Str×Value)).length}:=by
  obtain⟨W,⟨m0,w0⟩,turn⟩:=hW s2.heap.objs.size hD;refine Zx (λn s'=>∃i σ' H' ys,aF (eD X sc (cF own cap) (s2.heap.push {cls:=.type "list",data:=.seq ([]:BA).toArray}).objs.size {s2 with heap:=s2.heap.push {cls:=.type "list",data:=.seq ([]:BA).toArray},toks:=s2.toks} (aL H2 s2.heap.objs.size (.lst [])) fp) [] σ' H' s'/\tn i s'.heap/\(∀b∈fp,H' b=none)/\W i n σ' H' ys) ?_ m0
   ⟨0,_,_,[],J0,st4,fr0,w0⟩
  rintro n s5 ⟨i,σ5,H5,ys,I5,st5,fr5,w5⟩
  obtain⟨hD5,w5⟩:=turn i n σ5 H5 ys w5;rcases w5 with⟨stop,qn⟩|⟨go,hlt,step⟩
  .refine bD (T.done (eD X sc (cF own cap) (s2.heap.push {cls:=.type "list",data:=.seq ([]:BA).toArray}).objs.size {s2 with heap:=s2.heap.push {cls:=.type "list",data:=.seq ([]:BA).toArray},toks:=s2.toks} (aL H2 s2.heap.objs.size (.lst [])) fp) rfl rfl rfl hc i [] s5 σ5 H5 _ I5 (stat fr5) st5 stop) ?_
   rintro r s6 ⟨hr,I6⟩
   subst hr;obtain⟨m,hn,_⟩:=id I6.loc;exact fin _ _ s6 H5 m (I2.uncmp (s3:={s2 with heap:=s2.heap.push {cls:=.type "list",data:=.seq ([]:BA).toArray},toks:=s2.toks}) f2 un rfl I6) (I3.fpOk (aj _) I6.free) hn qn
  .refine bD (T.item (eD X sc (cF own cap) (s2.heap.push {cls:=.type "list",data:=.seq ([]:BA).toArray}).objs.size {s2 with heap:=s2.heap.push {cls:=.type "list",data:=.seq ([]:BA).toArray},toks:=s2.toks} (aL H2 s2.heap.objs.size (.lst [])) fp) rfl rfl rfl hc i [] s5 σ5 H5 _ I5 (stat fr5) st5 go) ?_
   rintro r s6 ⟨u,hr,h6⟩
   subst hr;refine bD h6 ?_
   rintro _ s7 ⟨x,H7,I7,r7,y7,st7,fr7⟩
   have I7':=I7.pinned (stat fr7) (T.obj _ _ st7);refine bD (hg _ _ _ _ _ s7 σ5 H7 x u _ I7' r7 (step x H7 y7)) ?_
   rintro _ s8 ⟨σ8,H8,I8,q8⟩
   refine bD (ht _ _ _ _ _ s8 σ8 H8 _ I8 q8) ?_
   rintro bb sA ⟨HA,IA,qA⟩
   cases bb with
   |true=>
    rw[if_pos rfl];rw[if_pos rfl]at qA;refine bD (he _ _ _ _ _ sA σ8 HA _ IA qA) ?_
    rintro v9 s9 ⟨y,H9,I9,r9,hD9,m',hm,w9⟩
    refine bD (qD _ s9 σ8 H9 (.ref s2.heap.objs.size) [y] (.ref s2.heap.objs.size) [v9] (λ_ H'=>H'=aL H9 s2.heap.objs.size (.lst (ys++[y]))) I9 rfl (.cons r9 .nil) ⟨_,ys,y,rfl,rfl,hD9,hlt,rfl⟩) ?_
    rintro _ s10 ⟨_,H10,I10,_,q10⟩
    subst q10;refine⟨m',hm,i+1,σ8,_,_,I10.unpinned,T.keep _ _ _ st7 λb hb o q=>(I10.pin (b,o) (df _ (df _ (kZ hb q)))).1,λb hb=>?_,w9⟩;obtain⟨o,q,d⟩:=T.obj _ _ st7 b hb;exact(I10.pin (b,o) (df _ (df _ (kZ hb q)))).2.1
   |false=>
    rw[if_neg ij];rw[if_neg ij]at qA;obtain⟨m',hm,w9⟩:=qA;refine⟨m',hm,i+1,σ8,_,_,IA.unpinned,T.keep _ _ _ st7 λb hb o q=>(IA.pin (b,o) (df _ (df _ (kZ hb q)))).1,λb hb=>?_,w9⟩;obtain⟨o,q,d⟩:=T.obj _ _ st7 b hb;exact(IA.pin (b,o) (df _ (df _ (kZ hb q)))).2.1
 exact xl loop (T.self _ 0 _ _ _ st4 loop)
theorem L4(k:hV X sc own cap)(hi:PI X target iter wi)(hc:X.calm=true)
  (hg:∀C BJ BK ex,PG (eD X sc (cF own cap) C BJ BK ex) target g)(ht:∀C BJ BK ex,PT (eD X sc (cF own cap) C BJ BK ex) cnd tc)(he:∀C BJ BK ex,PE (eD X sc (cF own cap) C BJ BK ex) elt te)
  (hs:∀x,foldedSetIterable iter X.env x=pure x:=by intro _;rfl):PE X (.ListComp elt [⟨target,iter,[cnd],0⟩] sc pos) (Uq own cap wi g tc te):=by
 intro BI s σ H Q I h;rw[xn];refine Dx (use:=none) k hi hc hg ht he I h (λD C s' H' m I' fC hn q=>?_) hs;refine⟨m,hn,λh' sb=>⟨.ref D,H',?_,rfl,q⟩⟩;obtain⟨f0,f1,f2,f3,f4,f5⟩:=fC;exact I'.turned (t':=s'.toks) (λb o hb e=>(sb.2 b hb).trans e) f0 f1 f3 f4 f5
end
end L2
namespace L2.Pp
open PySem PySem.Spec PyProof.Rows Bn
open Classical in
noncomputable def eS(G:Gd)(g:GM)(mc:MT)(me:ME):BE->bW->aG->bP BE
 |[],_,S=>if iC G S then .ok [] S else .fail
 |x::r,ρ,S=>if iC G S then(match g x ρ with
  |none=>.fail
  |some ρ1=>match mc ρ1 S with
   |.ok true S0=>(match me ρ1 S0 with
    |.ok (.pv y) S1=>match eS G g mc me r ρ1 S1 with
     |.ok ys S2=>.ok (y::ys) S2
     |_=>.fail
    |_=>.fail)
   |.ok false S0=>eS G g mc me r ρ1 S0
   |_=>.fail)else .fail
theorem uT{g:GM}{mc:MT}{me:ME}{ρ:bW}{S:aG}:eS [] g mc me [] ρ S=.ok [] S:=by
 unfold eS;rw[if_pos (nB S)]
theorem uN{g:GM}{mc:MT}{me:ME}{x:PV}{r:BE}{ρ:bW}{S:aG}:eS [] g mc me (x::r) ρ S=(match g x ρ with
  |none=>.fail
  |some ρ1=>match mc ρ1 S with
   |.ok true S0=>(match me ρ1 S0 with
    |.ok (.pv y) S1=>match eS [] g mc me r ρ1 S1 with
     |.ok ys S2=>.ok (y::ys) S2
     |_=>.fail
    |_=>.fail)
   |.ok false S0=>eS [] g mc me r ρ1 S0
   |_=>.fail):=by
 rw[eS,if_pos (nB S)]
noncomputable def kH(own:List Str)(cap:List (Nat×Str))(mi:MI)(g:GM)(mc:MT)(me:ME):ME:=λρ S=>(mi ρ S).bind λxs S1=>(eS xs.2 g mc me xs.1 (cY own cap ρ) S1).bind λys S2=>.ok (.pv (.lst ys)) S2
theorem Tg{G:Gd}{g:GM}{mc:MT}{me:ME}:∀(xs:BE)(ρ:bW)(S:aG)(n:Str)(S':aG),eS G g mc me xs ρ S≠.exc n S'
 |[],_,_,_,_,e=>by
  unfold eS at e;split at e<;>cases e
 |x::r,ρ,S,n,S',e=>by
  unfold eS at e;split at e
  .split at e
   .cases e
   .split at e
    .split at e
     .split at e<;>cases e
     .cases e
    .exact Tg r _ _ _ _ e
    .cases e
  .cases e
theorem Ta{G:Gd}{g:GM}{mc:MT}{me:ME}{xs zs:BE}{ρ:bW}{S S':aG}(e:eS G g mc me xs ρ S=.ok zs S'):iC G S:=by
 cases xs with
 |nil=>
  unfold eS at e;split at e
  .assumption
  .cases e
 |cons x r=>
  unfold eS at e;split at e
  .assumption
  .cases e
theorem L9{J:It}{g:TG}{tc:TT}{te:TE}{BN:St}{H1:Hp}{D:Addr}{Q:VK}(n:Nat)(hn:n<=sizeLine)(Pv:Nat->St->Hp->List V->Prop)(h0:Pv 0 BN (aL H1 D (.lst [])) [])
  (hl:∀i σ H ys,Pv i σ H ys->ys.length<=i/\H D=some (.lst ys))(hgo:∀i σ H ys,i<n->Pv i σ H ys->J.go i H)
  (hs:∀i σ H ys x H2,i<n->Pv i σ H ys->J.yld i H x H2->g x σ H2 λσ3 H3=>tc σ3 H3 λb HA=>if b=true then te σ3 HA λy H4=>H4 D=some (.lst ys)/\∃m',m'<n-i/\(m'=n-(i+1)/\i+1<=n/\Pv (i+1) σ3 (aL H4 D (.lst (ys++[y]))) (ys++[y]))else ∃m',m'<n-i/\(m'=n-(i+1)/\i+1<=n/\Pv (i+1) σ3 HA ys))
  (hd:∀σ H ys,Pv n σ H ys->J.stop n H/\Q (.ref D) H):xM J g tc te BN H1 D Q:=by
 refine⟨λi m σ H ys=>m=n-i/\i<=n/\Pv i σ H ys,⟨n,rfl,de _,h0⟩,?_⟩
 rintro i m σ H ys ⟨rfl,hi,p⟩
 obtain⟨l1,l2⟩:=hl i σ H ys p;refine⟨l2,?_⟩
 by_cases hlt:i<n
 .exact .inr ⟨hgo i σ H ys hlt p,by omega,λx H2 y=>hs i σ H ys x H2 hlt p y⟩
 .have e:i=n:=by omega
  subst e;exact .inl (hd σ H ys p)
theorem n1{n i:Nat}{P:Prop}(h:i<n)(p:P):∃m',m'<n-i/\(m'=n-(i+1)/\i+1<=n/\P):=⟨n-(i+1),by omega,rfl,h,p⟩
section
variable{K:ag}{cl:Str->Addr}{E:XK}{X:Cx}{p q:Ph}{H H':Hp}{S:aG}{sc:Scope}{own:List Str}{cap:List (Nat×Str)}{elt target iter cnd:ah}{pos:ai}{mi:MI}{g:GM}{mc:MT}{me:ME}
theorem By{σ:St}{ρ:bW}{xs zs:BE}{G:Gd}{J:It}{Q:VK}{D:Addr}{S2:aG}(sm:aU K p S H)(ev:dF K p H ρ σ)(it:fE K p H (xs,G) J)(z:eS G g mc me xs (cY own cap ρ) S=.ok zs S2)(hD:H D=none)
  (k:∀q H' vs,bO p H q H'->aU K q S2 H'->aU K (q.hold D) S2 H'->q.w D->D∉q.f->H' D=some (.lst vs)->vs.length<=sizeLine->aJ K q.c H' zs vs->Q (.ref D) H'):
  xM J (gP K g) (tP K cl E0 RB mc) (tP K cl E0 (bZ K) me) (iP own cap σ) H D Q:=by
 obtain⟨st0,sm0⟩:=sm.res (D:=D) (o:=.lst []) hD trivial;have sh0:=sm.resHold (D:=D) (o:=.lst []) hD trivial;have nf0:D∉p.f:=λh=>sm.notin hD (sm.wc D (sm.sub D h));refine L9 xs.length it.1 (λi σ1 H1 ys=>ys.length<=i/\i<=xs.length/\H1 D=some (.lst ys)/\∃p1 S1 ρ1 us ws,(aU K p1 S1 H1/\aU K (p1.hold D) S1 H1)/\bO p H p1 H1/\p1.w D/\D∉p1.f/\dF K p1 H1 ρ1 σ1/\fE K p1 H1 (xs,G) J/\iC G S1/\aJ K p1.c H1 us ys/\zs=us++ws/\eS G g mc me (xs.drop i) ρ1 S1=.ok ws S2) ?_ ?_ ?_ ?_ ?_
 .refine⟨aj _,de _,dW,p.res D,S,cY own cap ρ,[],zs,⟨sm0,sh0⟩,st0,.inr rfl,nf0,Mm (st0.repE ev),it.step st0,?_,.nil,rfl,by simpa using z⟩
  exact Ta z
 .rintro i σ1 H1 ys ⟨h1,_,h2,_⟩
  exact⟨h1,h2⟩
 .rintro i σ1 H1 ys hi ⟨_,_,_,p1,S1,ρ1,us,ws,⟨sm1,sh1⟩,st1,w1,f1,ev1,it1,g1,_⟩
  exact((it1.2 p1 H1 S1 sm1.step sm1 g1).1 i xs[i] (av hi)).1
 .rintro i σ1 H1 ys x H2 hi ⟨hl,_,hH,p1,S1,ρ1,us,ws,⟨sm1,sh1⟩,st1,w1,f1,ev1,it1,g1,r1,e1,c1⟩ hy
  obtain⟨same,rx⟩:=((it1.2 p1 H1 S1 sm1.step sm1 g1).1 i xs[i] (av hi)).2 x H2 hy;rw[qp hi]at c1;unfold eS at c1;rw[if_pos g1]at c1;split at c1
  .cases c1
  .rename_i ρ2 gz
   have st2:=sm1.same same;have sm2:=sm1.ofSame same;have smh:=sh1.ofSame same;have hD2:H2 D=some (.lst ys):=same _ _ hH;have go:∀(q:Ph)(H4:Hp)(S3:aG)(σ3:St),dF K p1 H2 ρ2 σ3->bO (p1.hold D) H2 q H4->aU K q S3 H4->H4 D=some (.lst ys)/\∃q2:Ph,bO p1 H1 q2 H4/\aU K q2 S3 H4/\aU K (q2.hold D) S3 H4/\q2.w D/\D∉q2.f/\dF K q2 H4 ρ2 σ3/\q2.c=q.c:=λq H4 S3 σ3 ev3 st4 sm4=>by
    have hD4:H4 D=some (.lst ys):=st4.keep D _ hD2 λz=>z.2 rfl;have fq:D∉q.f:=λh=>by
     have:=st4.nf D h f1;rw[hD2]at this;cases this
    have stU:=bO.unhold w1 st4 sm2;have nq:¬q.w D:=λz=>by
     have:=st4.nw D z λy=>y.2 rfl;rw[hD2]at this;cases this
    have smU:aU K ⟨q.f,λa=>q.w a\/a=D,q.c⟩ S3 H4:=⟨sm4.nd,sm4.len,λa h=>.inl (sm4.sub a h),λa h=>h.elim (sm4.wc a) λz=>z▸st4.mono D (sm2.wc D w1),sm4.mu,λk a o e1 e2=>
     (sm4.obj k a o e1 e2).mono (λ_ e=>e) (λb w f=>⟨⟨.inl w,f⟩,λ_ e=>e⟩) λ_ _ r=>r⟩
    have shU:aU K (Ph.hold ⟨q.f,λa=>q.w a\/a=D,q.c⟩ D) S3 H4:=⟨sm4.nd,sm4.len,λa h=>⟨.inl (sm4.sub a h),λz=>nq (z▸sm4.sub a h)⟩,λa h=>smU.wc a h.1,sm4.mu,λk a o e1 e2=>
     (sm4.obj k a o e1 e2).mono (λ_ e=>e) (λb w f=>⟨⟨⟨.inl w,λz=>nq (z▸w)⟩,f⟩,λ_ e=>e⟩) λ_ _ r=>r⟩
    exact⟨hD4,_,st2.trans stU,smU,shU,.inr rfl,fq,stU.repE ev3,rfl⟩
   split at c1
   .rename_i SA mz
    split at c1
    .rename_i y S3 ez
     split at c1
     .rename_i vs S4 cz
      cases c1;refine⟨p1,S1,ρ1,xs[i],ρ2,sm2,st2.repE ev1,rx,gz,λσ3 ev3=>⟨p1.hold D,S1,ρ2,smh,⟨ev3.len,ev3.at_⟩,?_⟩⟩;rw[mz];intro q HA b stA smA rb;cases rb;rw[if_pos rfl];refine⟨q,SA,ρ2,smA,stA.repE (p:=p1.hold D) ⟨ev3.len,ev3.at_⟩,?_⟩;rw[ez];intro q4 H4 y' st4 sm4 ry;obtain⟨hD4,q2,stQ,smQ,shQ,wQ,fQ,evQ,cQ⟩:=go q4 H4 S3 σ3 ev3 (stA.trans st4) sm4;obtain⟨stG,smG,shG⟩:=smQ.grow (ys:=ys) (D:=D) (o:=.lst (ys++[y'])) shQ wQ fQ trivial;have stB:=stQ.trans stG;have ry:aI K q4.c H4 y y':=ry;rw[<-cQ]at ry;refine⟨hD4,n1 hi ⟨by rw[bh];exact g8 hl,hi,dW,q2,S3,ρ2,us++[y],vs,⟨smG,shG⟩,st1.trans stB,wQ,fQ,stG.repE evQ,it1.step stB,Ta cz,?_,by rw[e1,jx];rfl,cz⟩⟩;exact(stB.reps r1).append (.cons (stG.rep ry) .nil)
     .cases c1
    .cases c1
   .rename_i SA mz
    refine⟨p1,S1,ρ1,xs[i],ρ2,sm2,st2.repE ev1,rx,gz,λσ3 ev3=>⟨p1.hold D,S1,ρ2,smh,⟨ev3.len,ev3.at_⟩,?_⟩⟩;rw[mz];intro q HA b stA smA rb;cases rb;rw[if_neg ij];obtain⟨hD4,q2,stQ,smQ,shQ,wQ,fQ,evQ,cQ⟩:=go q HA SA σ3 ev3 stA smA;exact n1 hi ⟨yk hl,hi,hD4,q2,SA,ρ2,us,ws,⟨smQ,shQ⟩,st1.trans stQ,wQ,fQ,evQ,it1.step stQ,Ta c1,stQ.reps r1,e1,c1⟩
   .cases c1
 .rintro σ1 H1 ys ⟨hl,_,hH,p1,S1,ρ1,us,ws,⟨sm1,sh1⟩,st1,w1,f1,ev1,it1,g1,r1,e1,c1⟩
  rw[uh]at c1;unfold eS at c1;rw[if_pos g1]at c1;cases c1;refine⟨(it1.2 p1 H1 _ sm1.step sm1 g1).2,?_⟩;rw[mf]at e1;subst e1;exact k p1 H1 ys st1 sm1 sh1 w1 f1 hH (fm hl it.1) r1
theorem Gy{σ:St}{ρ:bW}{xs:BE×Gd}{J:It}{Q:VK}{D:Addr}(sm:aU K p S H)(ev:dF K p H ρ σ)(it:fE K p H xs J)(k:bU K cl (bZ K) p H ((eS xs.2 g mc me xs.1 (cY own cap ρ) S).bind λys S2=>.ok (.pv (.lst ys)) S2) Q E)(hD:H D=none):
  xM J (gP K g) (tP K cl E0 RB mc) (tP K cl E0 (bZ K) me) (iP own cap σ) H D Q:=by
 cases z:eS xs.2 g mc me xs.1 (cY own cap ρ) S with
 |fail=>rw[z]at k;exact k.elim
 |exc n S'=>exact absurd z (Tg _ _ _ _ _)
 |ok zs S2=>
  rw[z]at k;have k:∀q H' x,bO p H q H'->aU K q S2 H'->aI K q.c H' (.lst zs) x->Q x H':=k;refine By sm ev it z hD λq H' vs st1 sm1 sh1 w1 f1 hH l1 r1=>?_;refine k (q.less D) H' (.ref D) (st1.toLess hD) sh1.toLess ?_;unfold aI;exact⟨D,vs,rfl,.inl ⟨hH,λz=>z.2 rfl⟩,l1,mW (λa h=>h.1) r1⟩
theorem M3(k:hV X sc own cap)(hi:PIp K cl E X target iter mi)(hc:X.calm=true)(hg:∀C BJ BK ex,kY K (eD X sc (cF own cap) C BJ BK ex) target g)(ht:∀C BJ BK ex,fP K cl E0 (eD X sc (cF own cap) C BJ BK ex) cnd mc)(he:∀C BJ BK ex,aS K cl E0 (eD X sc (cF own cap) C BJ BK ex) elt me)
  (hs:∀x,foldedSetIterable iter X.env x=pure x:=by intro _;rfl):aS K cl E X (.ListComp elt [⟨target,iter,[cnd],0⟩] sc pos) (kH own cap mi g mc me):=by
 intro hK;refine PE.imp (L4 k (hi hK) hc (λC BJ BK ex=>hg C BJ BK ex hK) (λC BJ BK ex=>ht C BJ BK ex hK) (λC BJ BK ex=>he C BJ BK ex hK) hs) ?_
 rintro σ H Q ⟨p,S,ρ,s,ev,h⟩
 exact bY s ev h λq H' xs J S' cN sm ev it kk D hD=>Gy sm ev it kk hD
end
end L2.Pp
namespace L2
open PySem PySem.Spec PyProof.Rows Bn
open L2.Pp
section
variable{X:Cx}{BI:List (Addr×Obj)}{σ:St}{H:Hp}{s:aa}{c:Addr->Prop}{a b:Addr}{n:Bool}{k:fV n}{ks:BE}{us:BA}
theorem Ik:∀{l:AX}{vs:List V},aJ X.K c H (l.map PV.int) vs->vs=l.map V.int
 |[],vs,h=>by
  unfold jw aJ at h;exact h
 |i::l,vs,h=>by
  rw[aw]at h;unfold aJ at h;obtain⟨v,r,rfl,h1,h2⟩:=h;unfold aI at h1;rw[h1,Ik h2];rfl
theorem Mo(I:aF X BI σ H s){l:AX}(r:aI X.K c H (.tup (l.map PV.int)) (.ref b)):gA s.heap l b:=by
 unfold aI at r;obtain⟨a,vs,e,sq,_,r⟩:=r;cases e;obtain⟨its,rv,⟨o,ho,hc,m,hd⟩,_⟩:=I.tuple sq;rw[Ik r]at rv;exact⟨o,its.toArray,m,ho,hc,hd,by simpa using rv⟩
theorem Aa(I:aF X BI σ H s):∀{l:AY}{vs:List V}{its:BA},aJ X.K c H (l.map λr:AX=>PV.tup (r.map PV.int)) vs->bA vs its->dn (λk v=>∃b,v=cr b/\gA s.heap k b) l its
 |[],vs,its,h,rv=>by
  unfold jw aJ at h;subst h;cases rv;exact .nil
 |i::l,vs,its,h,rv=>by
  rw[aw]at h;unfold aJ at h;obtain⟨v,r,rfl,h1,h2⟩:=h;cases rv with
  |cons e t=>
   have h1':=h1;unfold aI at h1';obtain⟨a,ws,rfl,_⟩:=h1';cases e;exact .cons ⟨_,rfl,Mo I h1⟩ (Aa I h2 t)
theorem wF(I:aF X BI σ H s):∀{n:Bool}{k:fV n}{b:Addr},aI X.K c H (cC n k) (.ref b)->(iV X.prog X.w n).is s.heap k b
 |false,k,b,r=>gA.key (Mo I r)
 |true,k,b,r=>by
  have r:aI X.K c H (.tup (jw (λr:AX=>PV.tup (r.map PV.int)) k)) (.ref b):=r;unfold aI at r;obtain⟨a,vs,e,sq,_,r⟩:=r;cases e;obtain⟨its,rv,⟨o,ho,hc,m,hd⟩,_⟩:=I.tuple sq;exact⟨o,its.toArray,m,ho,hc,hd,by simpa using Aa I r rv⟩
theorem Pb:∀{l m:AX},l.map PV.int=m.map PV.int->l=m
 |[],[],_=>rfl
 |[],_::_,h=>by cases h
 |_::_,[],h=>by cases h
 |i::l,j::m,h=>by
  rw[aw,aw]at h;injection h with h1 h2;injection h1 with h1;rw[h1,Pb h2]
theorem lE:∀{n:Bool}{k k':fV n},cC n k=cC n k'->k=k'
 |false,k,k',h=>by
  unfold cC at h;injection h with h;exact Pb h
 |true,k,k',h=>by
  unfold cC at h;injection h with h;have go:∀{l m:AY},l.map (λr:AX=>PV.tup (r.map PV.int))=m.map (λr:AX=>PV.tup (r.map PV.int))->l=m:=by
   intro l
   induction l with
   |nil=>
    intro m h;cases m with
    |nil=>rfl
    |cons _ _=>cases h
   |cons x l ih=>
    intro m h;cases m with
    |nil=>cases h
    |cons y m=>
     rw[aw,aw]at h;injection h with h1 h2;injection h1 with h1;rw[Pb h1,ih h2]
  exact go h
theorem vW:∀{ps:BE}{vs:List V}{i:Nat}{v:V},aJ X.K c H ps vs->vs[i]?=some v->∃p,ps[i]?=some p/\aI X.K c H p v:=λ{ps vs i v} r e=>by
 have hi:i<ps.length:=by
  rw[r.length];exact(ce.mp e).1
 obtain⟨u,e1,e2⟩:=r.get (av hi);rw[e]at e1;cases e1;exact⟨_,av hi,e2⟩
theorem xN{es:Array DictEntry}{ep:Nat}(I:aF X BI σ H s)(h:H a=some (dO a es ep)):s.heap.get? a=some (oD es ep):=(I.hok a _ h).1
theorem E5{es:Array DictEntry}{ep:Nat}:(oD es ep).ExactDict:=⟨rfl,rfl,rfl⟩
theorem Xd(I:aF X BI σ H s){xs:List (fV n×Addr×Value)}{ep:Nat}(h:H a=some (dO a (xs.map (jD n)).toArray ep))(nd:(xs.map (·.1)).Nodup)(r:aJ X.K c H (xs.map λx=>cC n x.1) (xs.map λx=>V.ref x.2.1)):
  s.heap.DictOfH (iV X.prog X.w n) a xs:=by
 refine⟨_,_,ep,xN I h,E5,rfl,?_,λx hx=>?_,nd⟩
 .have:jD n=entryOfKey (iV X.prog X.w n):=by
   funext x
   unfold jD entryOfKey;rw[zO]
  simp[this]
 .obtain⟨i,hi,e⟩:=tm.mp hx
  obtain⟨p,e1,e2⟩:=vW (i:=i) (v:=.ref x.2.1) r (by rw[ax,av hi,e];rfl);rw[ax,av hi,e]at e1;cases e1;exact wF I e2
theorem vP{xs:List (fV n×Addr×Value)}(nd:(xs.map (·.1)).Nodup):
  (∃(i:Nat)(p:Addr×Value),xs[i]?=some (k,p)/\atKey xs k=some p)\/((∀i:Nat,(xs.map λx=>cC n x.1)[i]?≠some (cC n k))/\atKey xs k=none):=by
 by_cases h:∃(i:Nat)(p:Addr×Value),xs[i]?=some (k,p)
 .obtain⟨i,p,h⟩:=h
  exact .inl ⟨i,p,h,atKey_of_get nd h⟩
 .refine .inr ⟨λi e=>?_,qv λj p e=>h ⟨j,p,e⟩⟩
  rw[ax]at e;cases z:xs[i]? with
  |none=>rw[z]at e;cases e
  |some x=>
   rw[z]at e;have e:cC n x.1=cC n k:=ci e;exact h ⟨i,x.2,by rw[z,<-lE e]⟩
def nW(K:ag)(H:Hp)(a b:Addr)(vs:List V)(Q:V->Prop)(N:Prop):Prop:=
 ∃(c:Addr->Prop)(n:Bool)(k:fV n)(ks:BE)(us:BA),nV K c H a n ks us/\bA vs us/\aI K c H (cC n k) (.ref b)/\(∀(i:Nat)(v:V),ks[i]?=some (cC n k)->vs[i]?=some v->Q v)/\((∀i:Nat,ks[i]?≠some (cC n k))->N)
theorem Xp(I:aF X BI σ H s){vs:List V}{Q:V->Prop}{N:Prop}(g:nW X.K H a b vs Q N):∃(n:Bool)(k:fV n)(xs:List (fV n×Addr×Value)),(a==sysModules)=false/\s.heap.DictOfH (iV X.prog X.w n) a xs/\(iV X.prog X.w n).is s.heap k b/\
  ((∃p v,atKey xs k=some p/\bQ v p.2/\Q v)\/(atKey xs k=none/\N)):=by
 obtain⟨c,n,k,ks,us,⟨xs,ep,e,z,l,nd,rfl,r,rfl⟩,rv,rk,q1,q2⟩:=g;refine⟨n,k,xs,z,Xd I e nd r,wF I rk,?_⟩;rcases vP (k:=k) nd with⟨i,p,hx,ha⟩|⟨hn,ha⟩
 .have hi:=(ce.mp hx).1
  have hv:i<vs.length:=by
   rw[rv.length,ao];exact hi
  obtain⟨u,e1,e2⟩:=rv.get (av hv);rw[ax,hx]at e1;cases e1;exact .inl ⟨p,_,ha,e2,q1 i _ (by rw[ax,hx];rfl) (av hv)⟩
 .exact .inr ⟨ha,q2 hn⟩
def abF(K:ag):V->List V->Hp->VK->Prop:=λx xs H Q=>∃a b z vs,x=.ref a/\xs=[.ref b,z]/\nW K H a b vs (λv=>Q v H) (Q z H)
theorem D4(hu:X.A.units+2<cLine):yK X "dict.get" (abF X.K):=by
 intro BI s σ H x xs v us Q I rx rv h;obtain⟨a,b,z,vs,rfl,rfl,g⟩:=h;cases rx;obtain⟨u1,u2,rfl,r1,r2⟩:=rv.two;cases r1;obtain⟨n,k,xs,hd,dd,hk,o⟩:=Xp I g;refine call_meetsIn v7 dd.typeIs PySem.F.entry_dict_get (PySem.F.args_dict_get_3 _ _ _) (meetsH_dict_get_default (iV X.prog X.w n) a b hd u2) ⟨uU hu n,k,xs,hk,dd,?_⟩;rcases o with⟨p,v,e,rv,q⟩|⟨e,q⟩
 .rw[e]
  exact⟨v,H,I.tok _,rv,q⟩
 .rw[e]
  exact⟨z,H,I.tok _,r2,q⟩
def adr(K:ag):R2:=λx y H Q=>∃a b vs,x=.ref a/\y=.ref b/\nW K H a b vs (λv=>Q v H) False
theorem Tn(hu:X.A.units+2<cLine):lS X (adr X.K):=by
 intro value slice BI s σ H x y v u Q I rx ry h hs;obtain⟨a,b,vs,rfl,rfl,g⟩:=h;cases rx;cases ry;obtain⟨n,k,xs,hd,dd,hk,o⟩:=Xp I g;rcases o with⟨p,v,e,rv,q⟩|⟨e,q⟩
 .unfold subscriptTail
  refine ae ?_;rw[getitemInPython_of_ne dd.typeIs.not_modules];refine ae (wpAny_specialOf dd.typeIs PySem.F.slot_dict_getitem.lookup ?_);have fin:wpAny (model X.prog X.w) X.A (subscripted slice false (.ref a) (.ref b)) (λr s₃=>wpAny (model X.prog X.w) X.A (letTemporaryGo value (.ref a) r >>= λ_=>pure r) (EP X BI σ Q) X.xe s₃) X.xe s:=by
   rw[hs];exact wpAny_operating (wpAny_getItem_heap (uU hu n) hk dd e (ae (wpAny_letTemporaryGo (ak ⟨v,H,I.tok _,rv,q⟩))))
  first
   |exact ak (ae fin)
   |exact ae (ak (ae fin))
   |exact ae fin
 .exact q.elim
def jP(H:Hp)(a:Addr)(n:Bool)(ks:BE)(rs:List V)(us:BA):Prop:=
 ∃(xs:List (fV n×Addr×Value))(ep:Nat),H a=some (dO a (xs.map (jD n)).toArray ep)/\(a==sysModules)=false/\xs.length<=sizeLine/\(xs.map (·.1)).Nodup/\ks=xs.map (λx=>cC n x.1)/\rs=xs.map (λx=>V.ref x.2.1)/\us=xs.map (·.2.2)
theorem xA{K:ag}(d:nV K c H a n ks us):∃rs,jP H a n ks rs us/\aJ K c H ks rs:=by
 obtain⟨xs,ep,e,z,l,nd,ek,r,eu⟩:=d;exact⟨_,⟨xs,ep,e,z,l,nd,ek,rfl,eu⟩,r⟩
theorem jP.at_{K:ag}{rs:List V}(d:jP H a n ks rs us)(r:aJ K c H ks rs):nV K c H a n ks us:=by
 obtain⟨xs,ep,e,z,l,nd,ek,er,eu⟩:=d;subst er;exact⟨xs,ep,e,z,l,nd,ek,r,eu⟩
def DPt(H:Hp)(a:Addr)(n:Bool)(ks:BE)(rs:List V)(us:BA)(k:fV n)(b:Addr)(u:Value)(H':Hp):Prop:=
 ∃es ep,H'=aL H a (dO a es ep)/\((∃i:Nat,ks[i]?=some (cC n k)/\jP H' a n ks rs (us.set i u))\/((∀i:Nat,ks[i]?≠some (cC n k))/\jP H' a n (ks++[cC n k]) (rs++[.ref b]) (us++[u])))
theorem L8{xs:List (fV n×Addr×Value)}{i:Nat}{p:Addr×Value}{u:Value}(nd:(xs.map (·.1)).Nodup)(hx:xs[i]?=some (k,p)):(xs.map (putAt k u)).map (·.2.2)=(xs.map (·.2.2)).set i u:=by
 refine jf λj=>?_;have hi:=(ce.mp hx).1;rw[um,ao,ax,ax,ax]
 by_cases h:i=j
 .subst h
  rw[if_pos rfl,if_pos hi,hx];simp[putAt]
 .rw[if_neg h]
  cases z:xs[j]? with
  |none=>rfl
  |some x=>
   have:x.1≠k:=λe=>h (qw nd (p:=p) (q:=x.2) hx (by rw[z,<-e]));simp[putAt,this]
theorem B3{xs:List (fV n×Addr×Value)}{u:Value}:(xs.map (putAt k u)).map (λx=>V.ref x.2.1)=xs.map (λx=>V.ref x.2.1):=by
 rw[fe];refine dl λx _=>?_;simp only[v8,putAt];split<;>rfl
theorem D6{xs:List (fV n×Addr×Value)}{u:Value}:(xs.map (putAt k u)).map (λx=>cC n x.1)=xs.map (λx=>cC n x.1):=by
 rw[fe];refine dl λx _=>?_;simp only[v8,putAt];split<;>rfl
def acS(K:ag):yG:=λo i v H Q=>∃(a b:Addr)(c:Addr->Prop)(n:Bool)(k:fV n)(ks:BE)(rs:List V)(us:BA),o=.ref a/\i=.ref b/\jP H a n ks rs us/\aJ K c H ks rs/\aI K c H (cC n k) (.ref b)/\us.length<sizeLine/\
 ∀u H',bQ v u->DPt H a n ks rs us k b u H'->Q H'
theorem J7(hu:X.A.units+2<cLine):Ef X (acS X.K):=by
 intro BI s σ H o i v ov iv u Q I ro ri rv h;obtain⟨a,b,c,n,k,ks,rs,us,rfl,rfl,d,r,rk,hl,q⟩:=h;cases ro;cases ri;obtain⟨xs,ep,e,z,l,nd,rfl,rfl,rfl⟩:=d;have dd:=Xd I e nd r;rw[ao]at hl;refine wpAny_setItem_heap (hsz:=l) (uU hu n) (wF I rk) dd λh' dd' hs=>?_;obtain⟨ob,es,ep',ho,hex,hd,he,_,hnd⟩:=dd';have eob:ob=oD es ep':=by
  obtain⟨e1,e2,e3⟩:=hex;cases ob;simp only at e1 e2 e3 hd;subst e1 e2 e3 hd;rfl
 subst eob;have een:jD n=entryOfKey (iV X.prog X.w n):=by
  funext x
  unfold jD entryOfKey;rw[zO]
 have ees:es=((storedH xs k b u).map (jD n)).toArray:=by
  rw[een,<-he]
 have I':aF X BI σ (aL H a (dO a es ep')) {s with heap:=h',toks:=s.toks+(iV X.prog X.w n).draws k}:=
  I.write (x:=a) (e:=a) (by rw[e];exact trivial) (.inl rfl) (λb' q' hb z'=>(hs.2 b' hb).trans z') ⟨_,ho⟩ ⟨ho,⟨_,ho⟩,λh1 h2 p kk=>kk _ p⟩
 refine⟨_,I',q u _ rv ⟨es,ep',rfl,?_⟩⟩;have hat:(aL H a (dO a es ep')) a=some (dO a ((storedH xs k b u).map (jD n)).toArray ep'):=by rw[dW,ees]
 rcases vP (k:=k) nd with⟨i,p,hx,ha⟩|⟨hn,ha⟩
 .refine .inl ⟨i,by rw[ax,hx];rfl,storedH xs k b u,ep',hat,z,?_,hnd,?_,?_,?_⟩
  .rw[uo ha,ao]
   exact l
  .rw[uo ha,D6]
  .rw[uo ha,B3]
  .rw[uo ha,L8 nd hx]
 .refine .inr ⟨hn,storedH xs k b u,ep',hat,z,?_,hnd,?_,?_,?_⟩
  .rw[jp ha,bh]
   exact hl
  .rw[jp ha,dh]<;>rfl
  .rw[jp ha,dh]<;>rfl
  .rw[jp ha,dh]<;>rfl
def Ut(x:V)(H:Hp):Prop:=∃a es ep,x=.ref a/\H a=some (dO a es ep)
theorem Cq{o e:ah}{es:List ah}{to:TE}{t:TA}{name:Str}{apos cpos:ai}{id:String}{r:V->List V->Hp->VK->Prop}(slot:Slot "dict" name id)(hty:typeOf (.builtin id)=pure (.type "method_descriptor"))(hm:yK X id r)(ho:PE X o to)(ha:PA X (e::es) t)
  (hbase:attributeBase o name X.env (eval o X.env)=eval o X.env:=by rfl)
  (hfew:((backTo cpos (starEach (e::es) X.env)).all (λx=>!x.1)&&(backToKw cpos (keywordEach [] X.env)).all (λx=>x.1.isSome)
   &&decide ((e::es).length+([]:List fz).length+(if([]:List fz).isEmpty then 0 else 1)<30))=true:=by rfl)
  (hline:(apos.endLine==cpos.line)=true:=by rfl)(hs:starEach (e::es) X.env=(false,eval e X.env)::starEach es X.env:=by rfl)(hplain:(backTo cpos (starEach es X.env)).any (·.1)=false:=by rfl):
  PE X (.Call (.Attribute o name apos) (e::es) [] cpos) (λσ H Q=>to σ H λx H1=>Ut x H1/\t σ H1 λxs H2=>r x xs H2 Q):=by
 intro BI s σ H Q I h;refine f9 hbase hfew hline rfl (bD (ho BI s σ H _ I h) λv s1 hq=>?_);rcases hq with⟨x,H1,I1,r1,⟨a,ds,ep,ex,hH⟩,q1⟩;subst ex;cases r1;have hg:=xN I1 hH;refine⟨"dict",id,PySem.F.plainAttrs_dict,slot,hty,⟨_,hg,rfl⟩,λb eb=>?_,?_⟩
 .cases eb
  exact⟨_,hg,rfl⟩
 have hA:=ha cpos BI s1 σ H1 _ I1 q1;rw[hs]at hA⊢;refine g7 (by show(false||(backTo cpos (starEach es X.env)).any (·.1))=false;rw[hplain]<;>rfl) (wt ?_);exact bD hA λus s2 ⟨vs,H2,I2,r2,q2⟩=>hm BI s2 σ H2 (.ref a) vs (.ref a) us Q I2 rfl r2 q2
theorem W4(I:aF X BI σ H s):sysModules<s.heap.objs.size:=by
 have h:mainGlobals<s.heap.objs.size:=(I.mod.glob.keeps I.bk).lt;exact xi (by decide) h
theorem Rk{pos:ai}:PE X (.Dict [] [] pos) (λ_ H Q=>∀p,H p=none->(p==sysModules)=false->Q (.ref p) (aL H p (dO p #[] 0))):=λBI s σ H Q I h=>
 wpAny_Dict_empty ⟨.ref s.heap.objs.size,_,I.laid (a:=s.heap.objs.size) (o:=dO s.heap.objs.size #[] 0) (t':=s.toks) (λ_ _ q=>ar _ q) (aj _) ⟨da _ rfl,⟨_,da _ rfl⟩,λh1 h2 p kk=>kk _ p⟩,rfl,
  h _ (I.hok.fresh (aj _)) (beq_eq_false_iff_ne.mpr (iw (cx (W4 I))))⟩
end
end L2
namespace L2.Pp
noncomputable section
open PySem PySem.Spec PyProof.Rows Bn
open Classical in
def gY{α:Type}(kvs:List (PV×α))(k:PV):Option Nat:=kvs.findIdx? λkv=>decide (kv.1=k)
def gW{α:Type}(kvs:List (PV×α))(k:PV):Option α:=match gY kvs k with
 |some i=>kvs[i]?.map (·.2)
 |none=>none
def kN{α:Type}(kvs:List (PV×α))(k:PV)(v:α):List (PV×α):=match gY kvs k with
 |some i=>kvs.set i (k,v)
 |none=>kvs++[(k,v)]
def lP(n:Bool)(k:PV):Prop:=∃k',k=cC n k'
theorem lA{α:Type}{kvs:List (PV×α)}{k:PV}{i:Nat}(h:gY kvs k=some i):∃v,kvs[i]?=some (k,v):=by
 unfold gY at h;obtain⟨hi,e,_⟩:=List.findIdx?_eq_some_iff_getElem.mp h;have e:kvs[i].1=k:=by simpa using e
 refine⟨kvs[i].2,?_⟩;rw[av hi];congr 1;exact se e rfl
theorem M4{α:Type}{kvs:List (PV×α)}{k:PV}(h:gY kvs k=none)(i:Nat):(kvs.map (·.1))[i]?≠some k:=by
 unfold gY at h;rw[List.findIdx?_eq_none_iff]at h;intro e;rw[ax]at e;cases z:kvs[i]? with
 |none=>rw[z]at e;cases e
 |some x=>
  rw[z]at e;have:=h x (cy z);have e:x.1=k:=ci e;simp[e]at this
theorem sV{α:Type}{kvs:List (PV×α)}{k:PV}{i:Nat}(h:(kvs.map (·.1))[i]?=some k):∃j,gY kvs k=some j:=by
 cases z:gY kvs k with
 |some j=>exact⟨j,rfl⟩
 |none=>exact absurd h (M4 z i)
def tI(n:Bool):ME:=λ_ S=>.ok (.ref S.length) (S++[.dic n []])
open Classical in
def mH(d k:AV)(S:aG)(z:BG):bP AV:=match d,k with
 |.ref j,.pv k=>match S[j]? with
  |some (.dic n kvs)=>if lP n k then(match gW kvs k,z with
   |some v,_=>.ok (.pv v) S
   |none,some z=>.ok z S
   |none,none=>.fail)else .fail
  |_=>.fail
 |_,_=>.fail
def nS(md mk:ME):ME:=λρ S=>(md ρ S).bind λd S1=>(mk ρ S1).bind λk S2=>mH d k S2 none
def xK{α:Type}(d:AV)(S:aG)(f:bP α):bP α:=match d with
 |.ref j=>(match S[j]? with
  |some (.dic _ _)=>f
  |_=>.fail)
 |_=>.fail
def xF(md:ME)(ms:MA):ME:=λρ S=>(md ρ S).bind λd S1=>xK d S1 ((ms ρ S1).bind λks S2=>match ks with
 |[k,z]=>mH d k S2 (some z)
 |_=>.fail)
open Classical in
def tM(d k v:AV)(S:aG):bP AV:=match d,k,v with
 |.ref j,.pv k,.pv v=>match S[j]? with
  |some (.dic n kvs)=>if lP n k/\kvs.length<16777216 then .ok (.pv .non) (S.set j (.dic n (kN kvs k v)))else .fail
  |_=>.fail
 |_,_,_=>.fail
def xB(md mk mv:ME):MS:=λρ S=>cD.of (mv ρ S) λv S1=>cD.of (md ρ S1) λd S2=>cD.of (mk ρ S2) λk S3=>cD.of (tM d k v S3) λ_ S4=>.nx ρ S4
section
variable{K:ag}{cl:Str->Addr}{E:XK}{X:Cx}{p q:Ph}{H H':Hp}{S:aG}{a b e o i v:ah}{es:List ah}{m md mk mv:ME}{ms:MA}{pos:ai}
theorem Q6(n:Bool):aS K cl E X (.Dict [] [] pos) (tI n):=by
 intro hK;subst hK;refine PE.imp Rk ?_
 rintro σ H Q ⟨p,S,ρ,s,ev,h⟩ t ht hs
 have ob:mJ X.K ⟨p.f++[t],λa=>p.w a\/a=t,λa=>p.c a\/a=t⟩ (aL H t (dO t #[] 0)) t (.dic n []):=
  ⟨[],[],⟨[],0,dW,hs,de _,kx,rfl,.nil,rfl⟩,.nil,.nil⟩
 obtain⟨st,sm⟩:=s.pushO ht (show Mb (dO t #[] 0) from trivial) ob;exact h _ _ (.ref t) st sm ⟨t,by show(p.f++[t])[S.length]?=some t;rw[<-s.len,dj (aj _),ia];rfl,rfl⟩
theorem Tr(s:aU K p S H){j:Nat}{a:Addr}{n:Bool}{kvs:List (PV×PV)}{k:PV}{y:V}{Q:V->Prop}{N:Prop}(ej:p.f[j]?=some a)(z:S[j]?=some (.dic n kvs))(hk:lP n k)(ry:aI K p.c H k y)
  (q:∀v x,gW kvs k=some v->aI K p.c H v x->Q x)(qn:gW kvs k=none->N):∃b vs,y=.ref b/\nW K H a b vs Q N:=by
 obtain⟨k',rfl⟩:=hk;obtain⟨us,vs,d,rv,r⟩:=s.obj j a _ ej z;have ey:∃b,y=.ref b:=by
  cases n with
  |false=>
   have ry:aI K p.c H (.tup (jw PV.int k')) y:=ry;unfold aI at ry;obtain⟨b,_,e,_⟩:=ry;exact⟨b,e⟩
  |true=>
   have ry:aI K p.c H (.tup (jw (λr:AX=>PV.tup (r.map PV.int)) k')) y:=ry;unfold aI at ry;obtain⟨b,_,e,_⟩:=ry;exact⟨b,e⟩
 obtain⟨b,rfl⟩:=ey;have nd:∀i j:Nat,(kvs.map (·.1))[i]?=some (cC n k')->(kvs.map (·.1))[j]?=some (cC n k')->i=j:=by
  obtain⟨xs,ep,_,_,_,nd,ek,_⟩:=d;intro i j h1 h2;rw[ek,ax]at h1 h2;cases z1:xs[i]? with
  |none=>rw[z1]at h1;cases h1
  |some x=>
   cases z2:xs[j]? with
   |none=>rw[z2]at h2;cases h2
   |some y=>
    rw[z1]at h1;rw[z2]at h2;have e1:=lE (ci h1);have e2:=lE (ci h2);have e1:x.1=k':=e1;have e2:y.1=k':=e2;exact qw nd (p:=x.2) (q:=y.2) (k:=k') (by rw[z1,<-e1]) (by rw[z2,<-e2])
 refine⟨b,vs,rfl,p.c,n,k',_,us,d,rv,ry,λi x h1 h2=>?_,λhn=>qn ?_⟩
 .obtain⟨j',hj⟩:=sV h1
  obtain⟨v,hv⟩:=lA hj;have ei:j'=i:=nd j' i (by rw[ax,hv];rfl) h1;subst ei;obtain⟨x',e1,e2⟩:=r.get (i:=j') (p:=v) (by rw[ax,hv];rfl);rw[h2]at e1;cases e1;exact q v x (by unfold gW;rw[hj];simp[hv]) e2
 .cases z:gY kvs (cC n k')with
  |none=>unfold gW;rw[z]
  |some i=>
   obtain⟨v,hv⟩:=lA z;exact absurd (by rw[ax,hv];rfl) (hn i)
theorem Ij{d k:AV}{z:BG}{x y:V}{Q:VK}(s:aU K p S H)(rd:bZ K p H d x)(rk:bZ K p H k y)(h:bU K cl (bZ K) p H (mH d k S z) Q E):
  ∃a b vs,x=.ref a/\y=.ref b/\nW K H a b vs (λv=>Q v H) (∃w,z=some w/\∀u,bZ K p H w u->Q u H):=by
 cases d with
 |pv _=>cases k<;>exact h.elim
 |ref j=>
  cases k with
  |ref _=>exact h.elim
  |pv k=>
   obtain⟨a,ej,rfl⟩:=rd;unfold mH at h;dsimp only at h;split at h
   .rename_i n kvs hS
    split at h
    .rename_i hk
     obtain⟨b,vs,e,g⟩:=Tr (y:=y) (Q:=λv=>Q v H) (N:=∃w,z=some w/\∀u,bZ K p H w u->Q u H) s ej hS hk rk (λv x e r=>by
      rw[e]at h;exact bU.ret (R:=bZ K) (a:=.pv v) h s r) (λe=>by
      rw[e]at h;cases z with
      |none=>exact h.elim
      |some w=>exact⟨w,rfl,λu r=>bU.ret (R:=bZ K) h s r⟩)
     exact⟨a,b,vs,rfl,e,g⟩
    .exact h.elim
   .exact h.elim
theorem Mp{a b:Addr}{vs:List V}{Q Q':V->Prop}{N N':Prop}(g:nW K H a b vs Q N)(f:∀v,Q v->Q' v)(f':N->N'):nW K H a b vs Q' N':=by
 obtain⟨c,n,k,ks,us,d,rv,rk,q1,q2⟩:=g;exact⟨c,n,k,ks,us,d,rv,rk,λi v h1 h2=>f v (q1 i v h1 h2),λh=>f' (q2 h)⟩
theorem ab4(hu:X.A.units+8<cLine)(ha:aS K cl E X a md)(hb:aS K cl E X b mk)(hs:sH b:=by intro _ _;rfl):aS K cl E X (.Subscript a b pos) (nS md mk):=by
 intro hK;subst hK;refine PE.imp (xP (Tn (by omega)) (ha rfl) (hb rfl) hs) ?_
 rintro σ H Q ⟨p,S,ρ,s,ev,h⟩
 refine bY s ev h λq H1 d x S1 st s1 e1 r1 h1=>bY s1 e1 h1 λq2 H2 k y S2 st2 s2 e2 r2 h2=>?_;obtain⟨a,b,vs,ex,ey,g⟩:=Ij s2 (st2.repA r1) r2 h2;exact⟨a,b,vs,ex,ey,Mp g (λ_ h=>h) λ⟨w,e,_⟩=>nomatch e⟩
theorem Zz{α β:Type}{R:Ph->Hp->α->β->Prop}{d:AV}{x:V}{f:bP α}{Q:β->Hp->Prop}(s:aU K p S H)(rd:bZ K p H d x)(h:bU K cl R p H (xK d S f) Q E):Ut x H/\bU K cl R p H f Q E:=by
 cases d with
 |pv _=>exact h.elim
 |ref j=>
  obtain⟨a,ej,rfl⟩:=rd;unfold xK at h;dsimp only at h;split at h
  .rename_i n kvs hS
   obtain⟨us,vs,⟨xs,ep,e,_⟩,_⟩:=s.obj j a _ ej hS;exact⟨⟨a,_,_,rfl,e⟩,h⟩
  .exact h.elim
theorem S6{apos cpos:ai}{f:ah}(hu:X.A.units+8<cLine)(ho:aS K cl E X o md)(ha:eN K cl E X [e,f] ms)(hbase:attributeBase o "get" X.env (eval o X.env)=eval o X.env:=by rfl)
  (hfew:((backTo cpos (starEach [e,f] X.env)).all (λx=>!x.1)&&(backToKw cpos (keywordEach [] X.env)).all (λx=>x.1.isSome)&&decide (([e,f]:List ah).length+([]:List fz).length+(if([]:List fz).isEmpty then 0 else 1)<30))=true:=by rfl)
  (hline:(apos.endLine==cpos.line)=true:=by rfl)(hs:starEach [e,f] X.env=(false,eval e X.env)::starEach [f] X.env:=by rfl)(hplain:(backTo cpos (starEach [f] X.env)).any (·.1)=false:=by rfl):aS K cl E X (.Call (.Attribute o "get" apos) [e,f] [] cpos) (xF md ms):=by
 intro hK;subst hK;refine PE.imp (Cq v7 PySem.F.type_dict_get (D4 (by omega)) (ho rfl) (ha rfl) hbase hfew hline hs hplain) ?_
 rintro σ H Q ⟨p,S,ρ,s,ev,h⟩
 refine bY s ev h λq H1 d x S1 st s1 e1 r1 h1=>?_;obtain⟨hd,h1⟩:=Zz s1 r1 h1;refine⟨hd,bY s1 e1 h1 λq2 H2 ks ys S2 st2 s2 e2 r2 h2=>?_⟩;cases r2 with
 |nil=>exact h2.elim
 |cons r3 rr=>
  cases rr with
  |nil=>exact h2.elim
  |cons r4 rs=>
   cases rs with
   |nil=>
    obtain⟨a,b,vs,ex,ey,g⟩:=Ij s2 (st2.repA r1) r3 h2;exact⟨a,b,_,vs,ex,by rw[ey],Mp g (λ_ h=>h) λ⟨w',e,q'⟩=>by cases e;exact q' _ r4⟩
   |cons _ _=>exact h2.elim
theorem aU.writeO(s:aU K p S H){D:Addr}{k:Nat}{o:SO}{ho:HO}(h:p.f[k]?=some D)(hk:k<S.length)(mo:Mb ho)(ob:bO p H p (aL H D ho)->mJ K p (aL H D ho) D o):bO p H p (aL H D ho)/\aU K p (S.set k o) (aL H D ho):=by
 have w:p.w D:=s.sub D (cy h);have st:bO p H p (aL H D ho):=⟨s.wc,s.mu,jk,λ_ h=>h,λ_ h=>h,λ_ h g=>absurd h g,λ_ h g=>absurd h g,λ_ h g=>absurd h g,λa u e nw=>by
  rw[bK (λz:a=D=>nw (by rw[z];exact w))];exact e⟩
 refine⟨st,s.nd,by rw[fk];exact s.len,s.sub,s.wc,λa x=>?_,λj a u e1 e2=>?_⟩
 .by_cases z:a=D
  .rw[z,dW]
   exact⟨ho,rfl,mo⟩
  .rw[bK z]
   exact s.mu a x
 .by_cases hj:k=j
  .subst hj
   rw[ee hk]at e2;cases e2;rw[h]at e1;cases e1;exact ob st
  .rw[fh hj]at e2
   have ne:a≠D:=λz=>hj (nodup_idx s.nd h (by rw[z]at e1;exact e1));exact(s.obj j a u e1 e2).mono (λvs e=>by rw[bK ne];exact e) (λb w f=>⟨⟨w,f⟩,λvs e=>by rw[bK (λz:b=D=>f (z▸cy h))];exact e⟩) λ_ _ r=>st.reps r
theorem bA.setI{vs:List V}{us:BA}{x:V}{u:Value}(r:bA vs us)(rx:bQ x u):∀i,bA (vs.set i x) (us.set i u):=λi=>r.set rx i
theorem V4{tpos:ai}(hu:X.A.units+8<cLine)(hv:aS K cl E X v mv)(ho:aS K cl E X o md)(hi:aS K cl E X i mk)
  (ha:∀v,assign (.Subscript o i tpos) X.env v=(do
   let ov <-holding [v] (eval o X.env)
   let iv <-holding [v,ov] (eval i X.env)
   standAt tpos
   holding [v,ov,iv] (setItem ov iv v)
   release [v,ov,iv] []):=by intro _;rfl)
  (hs:swapsWithSole [.Subscript o i tpos] v pos.line X.env=pure false:=by rfl)(hw:swappedStores [.Subscript o i tpos] v X.env=pure none:=by rfl)
  (h1:(assignEach [.Subscript o i tpos] X.env).map (·.2)=[assign (.Subscript o i tpos) X.env]:=by rfl):eG K cl E X (.Assign [.Subscript o i tpos] v pos) (xB md mk mv):=by
 intro hK;subst hK;refine PS.imp (wL (hv rfl) (Wc (ho rfl) (hi rfl) (J7 (by omega)) ha) hs hw h1) ?_
 rintro D σ H ⟨p,S,ρ,s,ev,h⟩
 refine iJ s ev h λq H1 v x S1 st s1 e1 r1 h1=>?_;refine iJ s1 e1 h1 λq2 H2 d y S2 st2 s2 e2 r2 h2=>?_;refine iJ s2 e2 h2 λq3 H3 k z S3 dP s3 e3 r3 h3=>?_;have r2:=dP.repA r2;have r1:=dP.repA (st2.repA r1);cases d with
 |pv _=>cases k<;>cases v<;>exact h3.elim
 |ref j=>
  cases k with
  |ref _=>cases v<;>exact h3.elim
  |pv k=>
   cases v with
   |ref _=>exact h3.elim
   |pv v=>
    obtain⟨a,ej,rfl⟩:=r2;have h3:dY X.K cl q3 H3 (cD.of (tM (.ref j) (.pv k) (.pv v) S3) λ_ S4=>.nx ρ S4) D E:=h3;unfold tM at h3;dsimp only at h3;cases hS:S3[j]? with
    |none=>simp only[hS]at h3;exact h3.elim
    |some o=>
     cases o with
     |lst _=>simp only[hS]at h3;exact h3.elim
     |lol _=>simp only[hS]at h3;exact h3.elim
     |dol _ _=>simp only[hS]at h3;exact h3.elim
     |dic n kvs=>
      simp only[hS]at h3
      by_cases hc:lP n k/\kvs.length<16777216
      .rw[if_pos hc]at h3
       obtain⟨⟨k',rfl⟩,hl⟩:=hc;obtain⟨us,vs,d,rv,r⟩:=s3.obj j a _ ej hS;have rk:aI X.K q3.c H3 (cC n k') z:=r3;have ez:∃b,z=.ref b:=by
        obtain⟨b,_,e,_⟩:=Tr (Q:=λ_=>True) (N:=True) s3 ej hS ⟨k',rfl⟩ rk (λ_ _ _ _=>trivial) λ_=>trivial;exact⟨b,e⟩
       obtain⟨b,rfl⟩:=ez;obtain⟨rs,dw,rr⟩:=xA d;have lu:us.length=kvs.length:=by
        rw[<-rv.length,<-r.length,ao]
       refine⟨a,b,q3.c,n,k',_,rs,us,rfl,rfl,dw,rr,rk,by rw[lu,iD];exact hl,λu H' ru hp=>?_⟩;obtain⟨es,ep,rfl,hp⟩:=hp;have hj:=(ce.mp hS).1;obtain⟨st4,sm4⟩:=s3.writeO (o:=.dic n (kN kvs (cC n k') v)) ej hj (show Mb (dO a es ep) from trivial) λst4=>by
        rcases hp with⟨i,hi,dw'⟩|⟨hn,dw'⟩
        .obtain⟨i',hi'⟩:=sV hi
         obtain⟨w,hw'⟩:=lA hi';have ei:i'=i:=by
          obtain⟨xs,_,_,_,_,nd,ek,_⟩:=dw;have g1:(kvs.map (·.1))[i']?=some (cC n k'):=by rw[ax,hw'];rfl
          rw[ek,ax]at g1 hi;cases z1:xs[i']? with
          |none=>rw[z1]at g1;cases g1
          |some x1=>
           cases z2:xs[i]? with
           |none=>rw[z2]at hi;cases hi
           |some x2=>
            rw[z1]at g1;rw[z2]at hi;have e1:x1.1=k':=lE (ci g1);have e2:x2.1=k':=lE (ci hi);exact qw nd (p:=x1.2) (q:=x2.2) (k:=k') (by rw[z1,<-e1]) (by rw[z2,<-e2])
         subst ei;have ek:kN kvs (cC n k') v=kvs.set i' (cC n k',v):=by unfold kN;rw[hi']
         refine⟨us.set i' u,vs.set i' x,?_,bA.setI rv ru i',?_⟩
         .rw[ek]
          have e1:(kvs.set i' (cC n k',v)).map (·.1)=kvs.map (·.1):=by
           rw[uq];refine jf λt=>?_;rw[um];split
           .rename_i ht
            subst ht;rw[if_pos (by rw[ao];exact(ce.mp hw').1),ax,hw'];rfl
           .rfl
          rw[e1];exact dw'.at_ (st4.reps rr)
         .rw[ek,uq]
          exact aJ.set (st4.rep r1) i' (st4.reps r)
        .have ei:gY kvs (cC n k')=none:=by
          cases z0:gY kvs (cC n k')with
          |none=>rfl
          |some i=>
           obtain⟨w,hw'⟩:=lA z0;exact absurd (by rw[ax,hw'];rfl) (hn i)
         have ek:kN kvs (cC n k') v=kvs++[(cC n k',v)]:=by unfold kN;rw[ei]
         refine⟨us++[u],vs++[x],?_,bA.append rv (.cons ru .nil),?_⟩
         .rw[ek,dh]
          exact dw'.at_ ((st4.reps rr).append (.cons (st4.rep rk) .nil))
         .rw[ek,dh]
          exact(st4.reps r).append (.cons (st4.rep r1) .nil)
       exact h3 _ _ _ st4 sm4 (st4.repE e3)
      .rw[if_neg hc]at h3
       exact h3.elim
end
end
end L2.Pp
namespace L2
open PySem PySem.Spec PyProof.Rows Bn L2.Pp
section
variable{prog:Program}{w:am}{A:aq}{E:Value->aa->Prop}{s:aa}{it d i ep:Nat}{es:Array DictEntry}
theorem Y4{h:i<es.size}:(if(i:Int)<0 then none else es[(i:Int).toNat]?)=some es[i]:=by
 rw[if_neg (by omega),mj,yo h]
theorem W5{h:¬i<es.size}:(if(i:Int)<0 then none else es[(i:Int).toNat]?)=none:=by
 rw[if_neg (by omega),mj,Array.getElem?_eq_none (by omega)]
theorem abq{Q:BB->aa->Prop}{h1:Heap}(hh:A.handled=none)(sb:qo it s.heap h1)(q:∀h',qo it s.heap h'->Q none {s with heap:=h'}):
  wpAny (model prog w) A.in1 (newExc (.type "StopIteration") [] >>= raiseNew (α:=qr)) (λ_ _=>False) (λe s'=>wpAny (model prog w) A (isInstance e (.type "StopIteration")) (λb s2=>b=true/\Q none s2) E s') {s with heap:=h1}:=by
 refine ae ?_;simp only[newExc,newTuple];refine ae (iy ?_ (by size_fits));refine ae (m:=firstArgMember _ _) (tz (a:=bi) (by first |rfl |(simp only[firstArgMember];rfl)) ?_)
 refine iy ?_ (by size_fits);simp only[raiseNew];refine ae (wpAny_handled ?_);rw[show A.in1.handled=none from hh];refine ae (ak (wpAny_throw ?_));exact xv (T:="StopIteration") (b:=true) ⟨_,da _ rfl,rfl⟩ isSubtype_stop ⟨rfl,q _ ((sb.push _).push _)⟩
theorem Fp{Q:qr->aa->Prop}{E':Value->aa->Prop}(hit:s.heap.IsKeyIter it d i es.size ep)(hd:s.heap.get? d=some (oD es ep))
  (q1:∀h:i<es.size,∀h',h'.IsKeyIter it d (i+1) es.size ep->ix it s.heap h'->Q (.done (.ret es[i].key)) {s with heap:=h'})
  (q2:¬i<es.size->∀h',ix it s.heap h'->wpAny (model prog w) A.in1 (newExc (.type "StopIteration") [] >>= raiseNew (α:=qr)) Q E' {s with heap:=h'}):
  wpAny (model prog w) A.in1 (Builtin.«dict_keyiterator.__next__» ⟨[.ref it],[]⟩) Q E' s:=by
 obtain⟨o,ho,hc,hf⟩:=id hit;have nm:∀{s':aa}{R:Nat->aa->Prop},s'.TypeIs (.ref it) "dict_keyiterator"->R 0 s'->wpAny (model prog w) A.in1 (do let t <-typeNameOfWhole (.ref it);pure (if w8 t then 2 else 0)) R E' s':=λhT r=>
  ae (wpAny_typeNameOfWhole_keyiter hT (ak (by rw[show w8 "dict_keyiterator"=false by decide];exact r)))
 refine ae (ak (ae (ae (nm hit.typeIs (ae (wpAny_fieldsOf ho hf ?_))))));show wpAny _ _ (if(cr d==bi)=true then _ else _) _ _ s;rw[if_neg (show ¬((cr d==bi)=true) from ij)];refine ae (ak (ae (yp hd rfl ?_)));rw[if_neg (by simp)];refine ae (ak (ae (wpAny_dictEpoch hd rfl ?_)));rw[if_neg (by simp)];refine ak ?_
 by_cases h:i<es.size
 .simp only[Y4 (h:=h)]
  refine ae (nm hit.typeIs (ae (x8 hit.typeIs ?_)));show wpAny _ _ (setField (.ref it) 1 (rawInt ((i:Int)+1)) >>= _) _ _ s;refine ae (qm ho hf (by simp) ?_);have hit':(s.heap.update it (Obj.mapFields (·.setIfInBounds 1 (rawInt ((i:Int)+1))))).IsKeyIter it d (i+1) es.size ep:=
   ⟨_,sk _ ho (k4 (tw hf _)),(k7 ..).trans hc,by rw[tw hf];simp[rawInt]⟩
  have tt:Shared.TypeIs {s with heap:=s.heap.update it (Obj.mapFields (·.setIfInBounds 1 (rawInt ((i:Int)+1))))} (.ref it) "dict_keyiterator":=hit'.typeIs;exact ae (jm (ae (x8 tt (ak (ak (q1 h _ hit' (mx ..)))))))
 .simp only[W5 (h:=h)]
  refine ae (nm hit.typeIs ?_);exact ae (qm ho hf (by simp) (q2 h _ (mx ..)))
theorem aad{Q:BB->aa->Prop}(hit:s.heap.IsKeyIter it d i es.size ep)(hd:s.heap.get? d=some (oD es ep))(h:i<es.size)
  (q:∀h',h'.IsKeyIter it d (i+1) es.size ep->ix it s.heap h'->Q (some es[i].key) {s with heap:=h'}):wpAny (model prog w) A (pyNext (.ref it)) Q E s:=by
 unfold pyNext;exact ae (uc (mn (name:=io "__next__") hit.typeIs qx (ju qx hit.typeIs x9
  (Fp hit hd (λ_ h' a b=>⟨_,rfl,ak (q h' a b)⟩) λn=>absurd h n) (y8 _))))
theorem aaO{Q:BB->aa->Prop}(hh:A.handled=none)(hit:s.heap.IsKeyIter it d i es.size ep)(hd:s.heap.get? d=some (oD es ep))(h:¬i<es.size)
  (q:∀h',qo it s.heap h'->Q none {s with heap:=h'}):wpAny (model prog w) A (pyNext (.ref it)) Q E s:=by
 unfold pyNext;exact ae (uc (mn (name:=io "__next__") hit.typeIs qx (ju qx hit.typeIs x9
  (Fp hit hd (λn=>absurd n h) λ_ h' sb=>ft (abq (E:=E) hh sb.extBut q) (λ_ _ z=>z.elim) λe s2 z=>ae (bD z λb s3 ⟨hb,q3⟩=>by subst hb;exact ak q3)) (y8 _))))
theorem K2(hh:A.handled=none)(I d:Addr)(hne:d≠I)(es:Array DictEntry)(ep:Nat):
  Walks prog w A I [I,d] [I] es.size (λi v=>∃h:i<es.size,v=es[i].key) (λi h=>h.IsKeyIter I d i es.size ep/\h.get? d=some (oD es ep)) where
 sub:=λb hb=>by simp at hb;simp[hb]
 frame:=λ_ _ _ st hk=>⟨st.1.at λo e=>hk I (by simp) o e,hk d (by simp) _ st.2⟩
 item:=λi s Q E hi st hQ=>aad st.1 st.2 hi λh' hit' sb=>hQ _ h' s.toks ⟨hi,rfl⟩ ⟨hit',(sb.2 d hne).trans st.2⟩ λb o hb e=>sb.extBut b o (λz=>hb (by simp[z])) e
 done:=λs Q E st hQ=>aaO hh st.1 st.2 (ir _) λh' eb=>hQ h' s.toks λb o hb e=>eb b o (λz=>hb (by simp[z])) e
 self:=λ_ _ _ _ st hQ=>wpAny_pyIter_keyiter st.1 hQ
theorem abg{Q:Value->aa->Prop}(ns:(d==sysModules)=false)(hd:s.heap.get? d=some (oD es ep))
  (q:Q (.ref s.heap.objs.size) {s with heap:=s.heap.push {cls:=.type "dict_keyiterator",data:=.fields #[.ref d,.int 0 0,.int es.size 0,.int ep 0]}}):wpAny (model prog w) A (pyIter (.ref d)) Q E s:=by
 have hT:s.TypeIs (.ref d) "dict":=⟨_,hd,rfl⟩;refine wpAny_pyIter_slot hT y9 (ju y9 hT F.entry_dict_iter ?_ (F.args_dict_iter_1 _));refine ae (ae (AA hT (ak ?_)));show wpAny _ _ (AB d >>= _) _ _ s;unfold AB;rw[if_neg (by rw[ns];exact ij)];refine ae (ak (ae (yp hd rfl (ae (wpAny_dictEpoch hd rfl ?_)))));exact ae (iy (ak ⟨_,rfl,"dict_keyiterator",_,⟨_,da _ rfl,rfl⟩,qx.lookup,q⟩))
theorem Ks(ns:(d==sysModules)=false):PySem.W.KdlSrc prog w "dict" d d es.size (λi v=>∃h:i<es.size,v=es[i].key) (λh=>h.get? d=some (oD es ep)) where
 type:=λ_ hm=>⟨_,hm,rfl⟩
 there:=λ_ hm=>⟨ay hm,ay hm⟩
 keep:=λ_ _ hm hk=>hk d (.inl rfl) _ hm
 notList:=by decide
 notTuple:=by decide
 hint:=λ_ _ _ _ hm hq=>PySem.W.kdl_hint_dict ⟨_,hm,rfl⟩ hq
 iter:=λ_ _ hh hm=>⟨_,_,(λ_ _ hq=>abg ns hm hq),K2 hh _ d (cx (ay hm)) es ep,⟨⟨_,da _ rfl,rfl,rfl⟩,ar _ hm⟩⟩
end
section
variable{X:Cx}
theorem Mw(hc:X.calm=true):iF X (.type "list") (λxs H Q=>∃(a:Addr)(n:Bool)(ks:BE)(rs:List V)(us:BA),xs=[.ref a]/\jP H a n ks rs us/\∀l,H l=none->Q (.ref l) (aL H l (.lst rs))):=by
 intro BI s σ H xs us Q I r h;obtain⟨a,n,ks,rs,us',rfl,d,q⟩:=h;obtain⟨u,rfl,ru⟩:=jG r;cases ru;obtain⟨ys,ep,e,z,l,nd,rfl,rfl,rfl⟩:=d;refine PySem.W.kdl_call (Ks z) (I.ok.hd hc) (xN I e) (by simpa using l) λh' tk acc c hk hl hi=>?_;have ev:bA (ys.map λx=>V.ref x.2.1) acc.toList:=by
  have e1:acc.toList=ys.map λx=>cr x.2.1:=by
   refine jf λj=>?_;have hz:acc.size=ys.length:=by simpa using hi.1
   by_cases hj:j<ys.length
   .obtain⟨_,ej⟩:=hi.2 j acc[j] (by simp[hz,hj])
    rw[ax,av hj,wv,yo (by omega),ej];simp[jD]
   .rw[kw (by simp;omega),kw (by simp;omega)]
  rw[e1];clear e1 hi e q l nd
  induction ys with
  |nil=>exact .nil
  |cons y ys ih=>exact .cons rfl ih
 refine⟨.ref s.heap.objs.size,_,I.laid (t':=tk) (o:=.lst (ys.map λx=>V.ref x.2.1)) hk (aj _) ⟨by rw[ao];exact l,acc.toList,c,ev,hl⟩,rfl,q _ (I.hok.fresh (aj _))⟩
end
section
variable{prog:Program}{w:am}{A:aq}{E:Value->aa->Prop}{s:aa}{v d ep:Nat}{es:Array DictEntry}
end
section
variable{X:Cx}
end
end L2
namespace L2.Pp
open PySem PySem.Spec PyProof.Rows Bn
def wR(d:AV)(S:aG):bP AV:=match d with
 |.ref j=>(match S[j]? with
  |some (.dic _ kvs)=>.ok (.pv (.lst (kvs.map (·.1)))) S
  |_=>.fail)
 |_=>.fail
def xD(ms:MA):ME:=λρ S=>(ms ρ S).bind λds S1=>match ds with
 |[d]=>wR d S1
 |_=>.fail
section
variable{K:ag}{cl:Str->Addr}{E:XK}{X:Cx}{p q:Ph}{H H':Hp}{S:aG}{a b e o i v:ah}{es:List ah}{m md mk mv:ME}{ms:MA}{pos:ai}
theorem aaC{x:Str}{px:ai}(hc:X.calm=true)(hg:Gl X x)(hm:X.mg x=none)(hv:bootBuiltins x=some (.type "list"))(ha:eN K cl E X [e] ms)(hn:x≠"__name__":=by decide)(hdb:(x==("__debug__":Str))=false:=by decide)
  (he:starEach [e] X.env=(false,eval e X.env)::starEach [] X.env:=by rfl)(hpl:(backTo pos (starEach [] X.env)).any (·.1)=false:=by rfl):aS K cl E X (.Call (.Name x px) [e] [] pos) (xD ms):=by
 intro hK;subst hK;refine PE.imp (uY (Mw hc) hg hm hv (ha rfl) hn hdb he hpl) ?_
 rintro σ H Q ⟨p,S,ρ,s,ev,h⟩
 refine bY s ev h λq H1 ds xs S1 st s1 e1 r1 h1=>?_;rcases r1 with _ |⟨rj,_ |⟨_,_⟩⟩
 .exact h1.elim
 .rename_i d _
  rcases d with _ |j
  .exact h1.elim
  obtain⟨a,ej,er⟩:=rj;subst er;have h1:bU X.K cl (bZ X.K) q H1 (wR (.ref j) S1) Q E:=h1;unfold wR at h1;dsimp only at h1;split at h1
  .rename_i n kvs hS
   obtain⟨us,vs,d,rv,r⟩:=s1.obj j a _ ej hS;obtain⟨rs,dw,rr⟩:=xA d;refine⟨a,n,_,rs,us,rfl,dw,λl hl=>?_⟩;have hz:rs.length<=sizeLine:=by
    obtain⟨ys,_,_,_,lz,_,_,er,_⟩:=dw;rw[er,ao];exact lz
   exact bU.same (R:=bZ X.K) h1 s1 (gO hl) (lH s1 rr hz hl)
  .exact h1.elim
 .exact h1.elim
end
end L2.Pp
namespace L2
open PySem PySem.Spec PyProof.Rows Bn
section
variable{X:Cx}
end
section
variable{X:Cx}{sc:Scope}{own:List Str}{cap:List (Nat×Str)}{BI:List (Addr×Obj)}{σ:St}{H:Hp}{s:aa}{elt target iter:ah}{pos pos':ai}{wi:TI}{g:TG}{te:TE}{Q:VK}
end
end L2
namespace L2.Pp
open PySem PySem.Spec PyProof.Rows Bn
section
mutual
def lR:PV->Bool
 |.lst _=>false
 |.tup xs=>kA xs
 |_=>true
def kA:BE->Bool
 |[]=>true
 |x::r=>lR x&&kA r
end
def sR(f:FM)(ms:MA):ME:=λρ S=>(ms ρ S).bind λxs S1=>match gU S1 xs with
 |some vs=>(match f (vs.map .pv) []with
  |.ok (.pv v) _=>if lR v=true then .ok (.pv v) S1 else .fail
  |_=>.fail)
 |none=>.fail
section
variable{K:ag}{cl:Str->Addr}{E:XK}{X:Cx}{p q:Ph}{H H':Hp}{S:aG}{a b e o i v:ah}{es:List ah}{m ma mb md mk mv:ME}{ms:MA}{pos:ai}
mutual
theorem Jc{c c':Addr->Prop}:∀{v:PV}{x:V},aI K c H v x->lR v=true->aI K c' H v x
 |.non,_,h,_=>by unfold aI at h⊢;exact h
 |.bl _,_,h,_=>by unfold aI at h⊢;exact h
 |.int _,_,h,_=>by unfold aI at h⊢;exact h
 |.str _,_,h,_=>by unfold aI at h⊢;exact h
 |.lst _,_,_,n=>by unfold lR at n;cases n
 |.tup xs,_,h,n=>by
  unfold lR at n;unfold aI at h⊢;obtain⟨a,vs,e,t,z,r⟩:=h;exact⟨a,vs,e,t,z,Lm r n⟩
theorem Lm{c c':Addr->Prop}:∀{v:BE}{x:List V},aJ K c H v x->kA v=true->aJ K c' H v x
 |[],_,h,_=>by unfold aJ at h⊢;exact h
 |p::ps,_,h,n=>by
  unfold kA at n;unfold aJ at h⊢;obtain⟨v,r,e,h1,h2⟩:=h;have n:=yq.mp n;exact⟨v,r,e,Jc h1 n.1,Lm h2 n.2⟩
end
def Ph.none:Ph:=⟨[],λ_=>False,λ_=>False⟩
theorem Cn:aU K Ph.none [] H:=⟨kx,rfl,λ_ h=>(nomatch h),λ_ h=>h,λ_ h=>h.elim,λk a o e=>(nomatch e)⟩
theorem Mi:∀{vs:BE}{xs:List V},Ie K p H vs xs->gJ K Ph.none H (vs.map .pv) xs
 |_,_,.nil=>.nil
 |_,_,.cons h t=>by
  refine .cons ?_ (Mi t);show aI K (λ_=>False) H _ _;rcases h with h |⟨xs,a,vs,rfl,rfl,h,z,r⟩
  .exact Oi (λ_ h=>h.elim) h
  .unfold aI
   exact⟨a,vs,rfl,.inl ⟨h,λz=>z⟩,z,mW (λ_ h=>h.elim) r⟩
theorem ach{g:FM}{k k0:Nat}{ps:List Str}{x:Str}{px:ai}(C:uK X.prog X.w X.K X.mg X.base cl x k ps g)(hr:dS k0 X.A)(hk:k<=k0)(hg:Gl X x)(ha:eN X.K cl E X (e::es) ms)(hdb:(x==("__debug__":Str))=false:=by decide)(he:starEach (e::es) X.env=(false,eval e X.env)::starEach es X.env:=by rfl)(hpl:(backTo pos (starEach es X.env)).any (·.1)=false:=by rfl):
  aS X.K cl E X (.Call (.Name x px) (e::es) [] pos) (sR g ms):=by
 obtain⟨a,d,G,b,kk,n⟩:=C;intro hK;refine PE.imp (sG G (hr.mono hk) hg n kk b .nil tO (ha rfl) hdb he hpl) ?_
 rintro σ H Q ⟨p,S,ρ,s,ev,h⟩
 refine bY s ev h λq H1 as xs S1 st sm ev r k=>?_;cases z:gU S1 as with
 |none=>simp only[z]at k;exact k.elim
 |some vs=>
  simp only[z]at k;have rr:=Mi (vF sm r z);have e0:xs++([]:List V)=xs:=mf xs;refine⟨Ph.none,[],vs.map .pv,Cn,by first |exact rr |(rw[e0];exact rr),?_⟩
  cases y:g (vs.map .pv) []with
  |fail=>simp only[y]at k;exact k.elim
  |exc n S'=>simp only[y]at k;exact k.elim
  |ok w S'=>
   cases w with
   |ref j=>simp only[y]at k;exact k.elim
   |pv w=>
    simp only[y]at k
    by_cases hn:lR w=true
    .rw[if_pos hn]at k
     intro q' H' x' st' sm' r';have same:dH H1 H':=λa o e=>st'.keep a o e λz=>z;exact bU.same (R:=bZ X.K) k sm same (Jc r' hn)
    .rw[if_neg hn]at k
     exact k.elim
variable{sc:Scope}{own:List Str}{cap:List (Nat×Str)}{elt target iter:ah}{mi:MI}{g:GM}{me:ME}
end
end
section
variable{K:ag}{cl:Str->Addr}{E:XK}{X:Cx}{a b:ah}{ma mb:ME}{pos:ai}
end
section
variable{P:Program}{w:am}{K:ag}{mg:Str->BB}{base:Heap}{cl:Str->Addr}{x qual:Str}{st:Stmt}{f:Addr}{fd:ck}{N ps:List Str}{k np n:Nat}{b:MS}
variable{so sc sc1:Scope}{own own1:List Str}{cap cap1:List (Nat×Str)}{cd:Value}{A:aq}{outer:List bo}{s:aa}{H:Hp}{E:XK}{C:Addr}{BJ:aa}{BK:Hp}{ex:List Addr}
theorem Ee(a:sc.kind=.function:=by rfl)(b:∀y∈sc.names,y.2=.local->sc.names.lookup y.1=some .local:=by decide+kernel)(c:∀y∈sc.names,y.2≠.cell:=by decide+kernel)(d:∀y∈sc.names,y.2=.free->so.names.lookup y.1=some .cell:=by decide+kernel)(e:∀p∈cap,N[p.1]?=some p.2:=by decide+kernel)(g:∀p∈cap,sc.names.lookup p.2=some .free:=by decide+kernel):hV (fT fI P w K mg base N qual so f cd A outer s H E).nox sc own cap:=aaK so N rfl rfl a b c d e g
theorem aa2(a:sc.kind=.function:=by rfl)(b:∀y∈sc.names,y.2=.local->sc.names.lookup y.1=some .local:=by decide+kernel)(c:∀y∈sc.names,y.2=.cell->sc.names.lookup y.1=some .cell:=by decide+kernel)(d:∀y∈sc.names,y.2=.free->so.names.lookup y.1=some .cell:=by decide+kernel)(e:∀p∈cap,N[p.1]?=some p.2:=by decide+kernel)(g:∀p∈cap,sc.names.lookup p.2=some .free:=by decide+kernel):nG (fT fI P w K mg base N qual so f cd A outer s H E).nox sc own cap:=R4 so N rfl rfl a b c d e g
theorem Uc(a:sc.kind=.function:=by rfl)(b:∀y∈sc.names,y.2=.local->sc.names.lookup y.1=some .local:=by decide+kernel)(c:∀y∈sc.names,y.2≠.cell:=by decide+kernel)(d:∀y∈sc.names,y.2=.free->sc1.names.lookup y.1=some .free/\so.names.lookup y.1=some .cell:=by decide+kernel)(e:∀p∈cap,(cF own1 cap1)[p.1]?=some p.2:=by decide+kernel)(g:∀p∈cap,sc.names.lookup p.2=some .free:=by decide+kernel)(hk:so.kind=.function:=by rfl):hV (eD (fT fI P w K mg base N qual so f cd A outer s H E).nox sc1 (cF own1 cap1) C BJ BK ex) sc own cap:=aaA so rfl hk a b c d e g
theorem Md(a:sc.kind=.function:=by rfl)(b:∀y∈sc.names,y.2=.local->sc.names.lookup y.1=some .local:=by decide+kernel)(c:∀y∈sc.names,y.2≠.cell:=by decide+kernel)(d:∀y∈sc.names,y.2=.free->sc1.names.lookup y.1=some .cell\/(sc1.names.lookup y.1=some .free/\so.names.lookup y.1=some .cell):=by decide+kernel)(e:∀p∈cap,(cF own1 cap1)[p.1]?=some p.2:=by decide+kernel)(g:∀p∈cap,sc.names.lookup p.2=some .free:=by decide+kernel)(hk:so.kind=.function:=by rfl):hV (iL (fT fI P w K mg base N qual so f cd A outer s H E).nox sc1 (cF own1 cap1) C BJ BK ex) sc own cap:=V3 so rfl hk a b c d e g
theorem cG{N ps:List Str}{sc:Scope}(a:sc.kind=.function:=by rfl)(b:sc.isCoroutine=false:=by rfl)(c:sc.isGenerator=false:=by rfl)(d:N.Nodup:=by decide+kernel)(e:N.take ps.length=ps:=by rfl)(f:∀x∈ps,sc.names.lookup x=some .local\/sc.names.lookup x=some .cell:=by decide+kernel)(g:∀y∈sc.names,y.2≠.free:=by decide+kernel):jV N ps sc:=⟨a,b,c,d,e,f,g⟩
def Df(P:Program)(w:am)(K:ag)(mg:Str->BB)(base:Heap)(cl:Str->Addr)(x:Str)(k:Nat)(ps:List Str)(g:FM):Prop:=∃(a:Addr)(d:ck),eO P w K mg base (jS P w) k a d ps (mU K cl g)/\eO P w K mg base fI k a d ps (jM K cl g)/\jI K d ps []/\ie K (.ref a)=true/\mg x=some (.ref a)
theorem adu{g:FM}{a:Addr}{d:ck}(G:eO P w K mg base (jS P w) k a d ps (mU K cl g))(b:jI K d ps [])(kp:ie K (.ref a)=true)(n:mg x=some (.ref a)):Df P w K mg base cl x k ps g:=⟨_,_,G,x0 G,b,kp,n⟩
theorem ac8{X:Cx}{e:ah}{es:List ah}{ms:MA}{pos p:ai}{k0:Nat}{g:FM}(C:Df X.prog X.w X.K X.mg X.base cl x k ps g)(hr:dS k0 X.A)(hk:k<=k0)(hg:Gl X x)(ha:eN X.K cl E0 X (e::es) ms)(hdb:(x==("__debug__":Str))=false:=by decide)(he:starEach (e::es) X.env=(false,eval e X.env)::starEach es X.env:=by rfl)(hpl:(backTo pos (starEach es X.env)).any (·.1)=false:=by rfl):
  aS X.K cl E0 X (.Call (.Name x p) (e::es) [] pos) (oY g [] ms):=by
 obtain⟨a,d,_,G,b,kk,n⟩:=C;exact S5 G (hr.mono hk) hg n kk b .nil Dv.nil ha hdb he hpl
end
structure Bx where
 P:Program
 w:am
 K:ag
 mg:Str->BB
 base:Heap
 cl:Str->Addr
abbrev cE(B:Bx)(x:Str)(k:Nat)(ps:List Str)(g:FM):Prop:=uK B.P B.w B.K B.mg B.base B.cl x k ps g
abbrev CxB(B:Bx)(x:Str)(k:Nat)(ps:List Str)(g:FM):Prop:=Df B.P B.w B.K B.mg B.base B.cl x k ps g
def HF(K:ag)(x:Str)(st:Stmt):Prop:=∃(f:Addr)(fd:ck),dz K mainGlobals x=some (some (.ref f))/\kC K x x st f fd
def XG(K:ag)(mg:Str->BB):Prop:=∃h:Heap,K.In h/\h.Ns mainGlobals mg
section
variable{B:Bx}{x:Str}{st:Stmt}{f:Addr}{fd:ck}{N ps:List Str}{k np n:Nat}{b:MS}
theorem Jq(X:XG B.K B.mg)(q:HF B.K x st):∃f fd,kC B.K x x st f fd/\ie B.K (.ref f)=true/\B.mg x=some (.ref f):=by
 obtain⟨f,fd,a,F⟩:=q;obtain⟨h,X,G⟩:=X;exact⟨f,fd,F,F.kp,ox X G a⟩
theorem acf{K:ag}{oc:Value}{od an:BC}{osl:Array BB}{kV doc pm cdv ct:Value}(a:dz K mainGlobals x=some (some (.ref f)))(l:K.lookup f=some ⟨oc,od,.func (fg x x (hJ st) (eV st) (cU st) .none kV doc pm an cdv ct),osl⟩)
  (c:ka K cdv x=true)(k:ie K (.ref f)=true):HF K x st:=⟨_,_,a,Mq l c k⟩
theorem Fu(F:kC B.K x x st f fd)(h:∀(kV doc pm:Value)(an:BC)(cdv ct:Value)(us:BA),us.length=ps.length->bindArgs (fg x x (hJ st) (eV st) (cU st) .none kV doc pm an cdv ct) ⟨us,[]⟩=pure (ps.zip us)):jI B.K fd ps []:=F.binds λkV doc pm an cdv ct us hl=>h kV doc pm an cdv ct us hl
theorem cK(X:XG B.K B.mg)(q:HF B.K x st)(S:jV N ps (cU st))(hb:N.Nodup->∀(f:Addr)(cdv:Value)(A:aq)(outer:List bo)(s:aa)(H:Hp)(E:XK),dS k (A.deeper (envOfC x (cU st) s.heap.objs.size f cdv))->gR B.K B.cl E0 (fT fI B.P B.w B.K B.mg B.base N x (cU st) f cdv A outer s H E).nox (eV st) b)(hnp:ps.length=np:=by rfl)(hn:N.length=n:=by rfl)
  (h:∀(kV doc pm:Value)(an:BC)(cdv ct:Value)(us:BA),us.length=ps.length->bindArgs (fg x x (hJ st) (eV st) (cU st) .none kV doc pm an cdv ct) ⟨us,[]⟩=pure (ps.zip us):=by intro _ _ _ _ _ _ us h;rcases us with _ |⟨_,_ |⟨_,_ |⟨_,_ |⟨_,_ |⟨_,_ |⟨_,_⟩⟩⟩⟩⟩⟩<;>first |(cases h;done) |rfl |(simp at h)):cE B x (k+1) ps (aW np n b):=by
 obtain⟨f,fd,F,kp,m⟩:=Jq X q;exact⟨f,fd,Mu F S hnp hn λcdv A outer s H E hr=>hb S.nd f cdv A outer s H E hr,Fu F h,kp,m⟩
theorem mkL(X:XG B.K B.mg)(q:HF B.K x st)(S:jV N ps (cU st))(hb:N.Nodup->∀(f:Addr)(cdv:Value)(A:aq)(outer:List bo)(s:aa)(H:Hp)(E:XK),dS k (A.deeper (envOfC x (cU st) s.heap.objs.size f cdv))->gR B.K B.cl E0 (fT fI B.P B.w B.K B.mg B.base N x (cU st) f cdv A outer s H E).nox (eV st) b)(hnp:ps.length=np:=by rfl)(hn:N.length=n:=by rfl)
  (h:∀(kV doc pm:Value)(an:BC)(cdv ct:Value)(us:BA),us.length=ps.length->bindArgs (fg x x (hJ st) (eV st) (cU st) .none kV doc pm an cdv ct) ⟨us,[]⟩=pure (ps.zip us):=by intro _ _ _ _ _ _ us h;rcases us with _ |⟨_,_ |⟨_,_ |⟨_,_ |⟨_,_ |⟨_,_ |⟨_,_⟩⟩⟩⟩⟩⟩<;>first |(cases h;done) |rfl |(simp at h)):cE B x (k+1) ps (pN np n b):=by
 obtain⟨f,fd,F,kp,m⟩:=Jq X q;exact⟨f,fd,okL F S hnp hn λcdv A outer s H E hr=>hb S.nd f cdv A outer s H E hr,Fu F h,kp,m⟩
theorem mkR(F:kC B.K x x st f fd)(S:jV N ps (cU st))(hb:N.Nodup->∀(f:Addr)(cdv:Value)(A:aq)(outer:List bo)(s:aa)(H:Hp)(E:XK),dS k (A.deeper (envOfC x (cU st) s.heap.objs.size f cdv))->gR B.K B.cl E0 (fT fI B.P B.w B.K B.mg B.base N x (cU st) f cdv A outer s H E).nox (eV st) b)(hnp:ps.length=np:=by rfl)(hn:N.length=n:=by rfl):eO B.P B.w B.K B.mg B.base fI (k+1) f fd ps (jM B.K B.cl (aW np n b)):=Mu F S hnp hn λcdv A outer s H E hr=>hb S.nd f cdv A outer s H E hr
theorem adH{dsv:Array Value}(F:nT B.K x x st f fd dsv)(S:jV N ps (cU st))(hb:N.Nodup->∀(f:Addr)(cdv:Value)(A:aq)(outer:List bo)(s:aa)(H:Hp)(E:XK),dS k (A.deeper (envOfC x (cU st) s.heap.objs.size f cdv))->gR B.K B.cl E (fT (jS B.P B.w) B.P B.w B.K B.mg B.base N x (cU st) f cdv A outer s H E) (eV st) b)(hnp:ps.length=np:=by rfl)(hn:N.length=n:=by rfl):eO B.P B.w B.K B.mg B.base (jS B.P B.w) (k+1) f fd ps (mU B.K B.cl (aW np n b)):=adD F S hnp hn λcdv A outer s H E hr=>hb S.nd f cdv A outer s H E hr
section
variable{X:Cx}{cl:Str->Addr}{E:XK}{e:ah}{es:List ah}{ms:MA}{pos p:ai}{k0:Nat}{g:FM}{dv:BE}
end
section
variable{P:Program}{w:am}{K:ag}{mg:Str->BB}{base:Heap}{qual:Str}{so sc:Scope}{own:List Str}{cap:List (Nat×Str)}{cd:Value}{A:aq}{outer:List bo}{s:aa}{H:Hp}{E:XK}
end
end
section
variable{P:Program}{w:am}{K:ag}{mg:Str->BB}{base:Heap}{cl:Str->Addr}{E:XK}{x:Str}{k k0:Nat}{ps:List Str}{g:FM}{e:ah}{es:List ah}{ms:MA}{pos p:ai}
end
end L2.Pp
namespace L2
open PySem PySem.Spec PySem.W PyProof.Rows Bn
section
variable{K:ag}{x D C:Addr}
end
section
variable{X:Cx}{p pos pos1 pos2 pos3 pos4 pc pd:ai}{e:ah}{te:XK->TE}{c1 c2 n:Str}{C1 C2:Addr}{i:Nat}{b₁ b₂:Stmt}{body1 body2:List Stmt}{newId1 newId2:String}
end
end L2
namespace L2.Pp
open PySem PySem.Spec PyProof.Rows Bn
section
variable{K:ag}{cl:Str->Addr}{E:XK}{X:Cx}{p pos pos1 pos2 pos3 pos4 pc pd:ai}{e:ah}{me:ME}{c1 c2 n:Str}{i nn:Nat}{b₁ b₂:Stmt}{body1 body2:List Stmt}{newId1 newId2:String}{up1 up2:bW->bW}
end
end L2.Pp
namespace L2
open PySem PySem.Spec PyProof.Rows Bn
section
open PySem.W (KasT kas_sort kas_asc kas_desc kas_rev kas_tail3 kas_descPart kas_count kas_place kas_bin)
def iG{α:Type}(lt:Nat->Nat->Bool)(n:Nat):ki α->(α->Prop)->Prop
 |.ret a,Q=>Q a
 |.ask i j k,Q=>i<n/\j<n/\iG lt n (k (lt i j)) Q
section
variable{lt:Nat->Nat->Bool}{n:Nat}
theorem pV{α β:Type}{f:α->ki β}{Q:β->Prop}:∀(t:ki α),iG lt n t (λa=>iG lt n (f a) Q)->iG lt n (t.bind f) Q
 |.ret _,h=>h
 |.ask i j k,h=>⟨h.1,h.2.1,pV (k (lt i j)) h.2.2⟩
theorem mY{α:Type}{Q Q':α->Prop}(f:∀a,Q a->Q' a):∀(t:ki α),iG lt n t Q->iG lt n t Q'
 |.ret a,h=>f a h
 |.ask i j k,h=>⟨h.1,h.2.1,mY f (k (lt i j)) h.2.2⟩
theorem Dp{α:Type}{cmp:Nat->Nat->(Bool->aa->Prop)->aa->Prop}{s:aa}(hc:∀i j(C:Bool->aa->Prop),i<n->j<n->C (lt i j) s->cmp i j C s){Q:α->aa->Prop}:∀(t:ki α),iG lt n t (λa=>Q a s)->t.kasWp cmp Q s
 |.ret _,h=>h
 |.ask i j k,h=>hc i j _ h.1 h.2.1 (Dp hc (k (lt i j)) h.2.2)
structure lQ(lt:Nat->Nat->Bool)(n:Nat):Prop where
 tr:∀i j k,i<n->j<n->k<n->lt i j=true->lt j k=true->lt i k=true
 tot:∀i j,i<n->j<n->i≠j->lt i j=true\/lt j i=true
def fX(n:Nat)(p:Array Nat):Prop:=p.toList.Perm (bj n)
def Up(lt:Nat->Nat->Bool)(p:Array Nat)(m:Nat):Prop:=∀i j,i<j->j<m->lt (p.getD i 0) (p.getD j 0)=true
def Dn(lt:Nat->Nat->Bool)(p:Array Nat)(m:Nat):Prop:=∀i j,i<j->j<m->lt (p.getD j 0) (p.getD i 0)=true
theorem fX.size{p:Array Nat}(h:fX n p):p.size=n:=by
 have:=List.Perm.length_eq h;simpa using this
theorem gD{p:Array Nat}{k:Nat}(h:k<p.size):p.getD k 0=p[k]:=by simp[Array.getD,h]
theorem gD?{p:Array Nat}{k:Nat}:p.getD k 0=(p[k]?).getD 0:=by simp[Array.getD_eq_getD_getElem?]
theorem fX.bd{p:Array Nat}(h:fX n p){k:Nat}(hk:k<n):p.getD k 0<n:=by
 have hs:k<p.size:=by rw[h.size];exact hk
 rw[gD hs];have:p[k]∈bj n:=List.Perm.subset h (by simp);simpa using this
theorem fX.ne{p:Array Nat}(h:fX n p){i j:Nat}(hi:i<n)(hj:j<n)(ne:i≠j):p.getD i 0≠p.getD j 0:=by
 have hi':i<p.size:=by rw[h.size];exact hi
 have hj':j<p.size:=by rw[h.size];exact hj
 rw[gD hi',gD hj'];intro e;have nd:p.toList.Nodup:=(List.Perm.nodup_iff h).mpr List.nodup_range;refine ne (Pp.nodup_idx nd (a:=p[i]) (by simp[hi']) ?_);rw[e];simp[hj']
theorem Fd(S:lQ lt n){p:Array Nat}(hp:fX n p):∀f m,1<=m->m+f=n->Up lt p m->iG lt n (kas_asc p f m) (λr=>m<=r/\r<=n/\Up lt p r/\(r=n\/lt (p.getD r 0) (p.getD (r-1) 0)=true))
 |0,m,h1,h2,h3=>⟨aj _,by omega,h3,.inl (by omega)⟩
 |f+1,m,h1,h2,h3=>by
  refine⟨hp.bd (by omega),hp.bd (by omega),?_⟩;cases z:lt (p.getD m 0) (p.getD (m-1) 0)with
  |true=>exact⟨aj _,by omega,h3,.inr z⟩
  |false=>
   show iG lt n (kas_asc p f (m+1)) _;refine mY (λr ⟨a,b,c,d⟩=>⟨by omega,b,c,d⟩) _ (Fd S hp f (m+1) (by omega) (by omega) λi j hij hj=>?_)
   by_cases hjm:j<m
   .exact h3 i j hij hjm
   .have e:j=m:=by omega
    subst e;have l1:lt (p.getD (j-1) 0) (p.getD j 0)=true:=by
     rcases S.tot _ _ (hp.bd (show j-1<n by omega)) (hp.bd (show j<n by omega)) (hp.ne (by omega) (by omega) (by omega))with h |h
     .exact h
     .rw[z]at h;cases h
    by_cases hi:i=j-1
    .rw[hi];exact l1
    .exact S.tr _ _ _ (hp.bd (by omega)) (hp.bd (by omega)) (hp.bd (by omega)) (h3 i (j-1) (by omega) (by omega)) l1
theorem Op(S:lQ lt n){p:Array Nat}(hp:fX n p):∀f m,2<=m->m+f=n->Dn lt p m->iG lt n (kas_desc f p m 0) (λr=>r.1=p/\r.2.2=0/\2<=r.2.1/\r.2.1<=n/\Dn lt p r.2.1)
 |0,m,h1,h2,h3=>⟨rfl,rfl,h1,by show m<=n;omega,h3⟩
 |f+1,m,h1,h2,h3=>by
  refine⟨hp.bd (by omega),hp.bd (by omega),?_⟩;cases z:lt (p.getD m 0) (p.getD (m-1) 0)with
  |true=>
   show iG lt n (kas_desc f p (m+1) 0) _;refine Op S hp f (m+1) (by omega) (by omega) λi j hij hj=>?_
   by_cases hjm:j<m
   .exact h3 i j hij hjm
   .have e:j=m:=by omega
    subst e
    by_cases hi:i=j-1
    .rw[hi];exact z
    .exact S.tr _ _ _ (hp.bd (by omega)) (hp.bd (by omega)) (hp.bd (by omega)) z (h3 i (j-1) (by omega) (by omega))
  |false=>
   have l1:lt (p.getD (m-1) 0) (p.getD m 0)=true:=by
    rcases S.tot _ _ (hp.bd (show m-1<n by omega)) (hp.bd (show m<n by omega)) (hp.ne (by omega) (by omega) (by omega))with h |h
    .exact h
    .rw[z]at h;cases h
   refine⟨hp.bd (by omega),hp.bd (by omega),?_⟩;rw[l1];exact⟨rfl,rfl,h1,by show m<=n;omega,h3⟩
theorem fX.of{p q:Array Nat}(h:fX n p)(e:q.Perm p):fX n q:=(Array.Perm.toList e).trans h
theorem Qr{p:Array Nat}{m k:Nat}(hm:m<=p.size)(hk:k<m):(kas_rev p 0 m).getD k 0=p.getD (m-1-k) 0:=by
 unfold kas_rev;rw[gD?,gD?,getElem?_mirror_all hm,if_pos ⟨de _,hk⟩,Nat.zero_add]
theorem B7(S:lQ lt n){p:Array Nat}(hp:fX n p){m:Nat}(h1:1<=m)(h2:m<=n)(h3:Dn lt p m):iG lt n (kas_tail3 m n p) (λr=>1<=r.1/\r.1<=n/\fX n r.2/\Up lt r.2 r.1):=by
 have hq:fX n (kas_rev p 0 m):=hp.of (mirror_perm _ _ _ _);refine pV _ (mY (λr ⟨a,b,c,d⟩=>⟨by show 1<=r;omega,b,hq,c⟩) _ (Fd S hq (n-m) m h1 (by omega) λi j hij hj=>?_));have hs:m<=p.size:=by rw[hp.size];exact h2
 rw[Qr hs (by omega),Qr hs hj];exact h3 _ _ (by omega) (by omega)
theorem J4(S:lQ lt n)(h2:2<=n){p:Array Nat}(hp:fX n p):iG lt n (kas_count n p) (λr=>1<=r.1/\r.1<=n/\fX n r.2/\Up lt r.2 r.1):=by
 refine pV _ (mY (λr hq=>?_) _ (Fd S hp (n-1) 1 (aj _) (by omega) λi j hij hj=>by omega));rcases hq with⟨a,b,c,d⟩
 by_cases e:(r==n)=true
 .rw[if_pos e]
  exact⟨a,b,hp,c⟩
 .rw[if_neg e]
  have e:r≠n:=by simpa using e
  by_cases h:r>1
  .rw[if_pos h]
   have l:lt (p.getD 0 0) (p.getD (r-1) 0)=true:=c 0 (r-1) (by omega) (by omega);refine⟨hp.bd (by omega),hp.bd (by omega),?_⟩;rw[l];exact⟨a,b,hp,c⟩
  .rw[if_neg h]
   have e1:r=1:=by omega
   subst e1;rcases d with d |d
   .exact absurd d e
   .refine pV _ (mY (λr ⟨q1,q2,q3,q4,q5⟩=>?_) _ (Op S hp (n-(1+1)) (1+1) (aj _) (by omega) λi j hij hj=>?_))
    .have e1:i=0:=by omega
     have e2:j=1:=by omega
     rw[e1,e2];exact d
    .rw[if_neg (by rw[q2];exact ir 0),q1]
     exact B7 S hp (by omega) q4 q5
theorem Fb(S:lQ lt n){p:Array Nat}(hp:fX n p){k:Nat}(hk:k<n)(u:Up lt p k):∀f l r,l<=r->r<=k->r-l<=f->(∀i,i<l->lt (p.getD i 0) (p.getD k 0)=true)->(∀i,r<=i->i<k->lt (p.getD k 0) (p.getD i 0)=true)->
  iG lt n (kas_place p k f l r) (λx=>x<=k/\(∀i,i<x->lt (p.getD i 0) (p.getD k 0)=true)/\∀i,x<=i->i<k->lt (p.getD k 0) (p.getD i 0)=true)
 |0,l,r,h1,h2,h3,h4,h5=>⟨by omega,h4,λi a b=>h5 i (by omega) b⟩
 |f+1,l,r,h1,h2,h3,h4,h5=>by
  unfold kas_place
  by_cases h:l>=r
  .rw[if_pos h]
   exact⟨by omega,h4,λi a b=>h5 i (by omega) b⟩
  .rw[if_neg h]
   refine⟨hp.bd hk,hp.bd (by omega),?_⟩;cases z:lt (p.getD k 0) (p.getD ((l+r)/2) 0)with
   |true=>
    refine Fb S hp hk u f l ((l+r)/2) (by omega) (by omega) (by omega) h4 λi a b=>?_
    by_cases e:i=(l+r)/2
    .rw[e];exact z
    .exact S.tr _ _ _ (hp.bd hk) (hp.bd (by omega)) (hp.bd (by omega)) z (u _ i (by omega) b)
   |false=>
    have l1:lt (p.getD ((l+r)/2) 0) (p.getD k 0)=true:=by
     rcases S.tot _ _ (hp.bd (show(l+r)/2<n by omega)) (hp.bd hk) (hp.ne (by omega) hk (by omega))with h |h
     .exact h
     .rw[z]at h;cases h
    refine Fb S hp hk u f ((l+r)/2+1) r (by omega) h2 (by omega) (λi a=>?_) h5
    by_cases e:i=(l+r)/2
    .rw[e];exact l1
    .exact S.tr _ _ _ (hp.bd (by omega)) (hp.bd (by omega)) (hp.bd hk) (u i _ (by omega) (by omega)) l1
theorem Zq{p:Array Nat}{k l:Nat}(hk:k<p.size)(hl:l<=k)(j:Nat):(bubble p k (k-l)).getD j 0=if j=l then p.getD k 0 else if l<j/\j<=k then p.getD (j-1) 0 else p.getD j 0:=by
 have e:k-(k-l)=l:=by omega
 simp only[gD?];rw[getElem?_bubble hk (k-l) (by omega),e]
 repeat' split
 all_goals rfl
theorem Nq(S:lQ lt n):∀f(p:Array Nat) k,fX n p->k+f=n->Up lt p k->iG lt n (kas_bin f p k) (λq=>fX n q/\Up lt q n)
 |0,p,k,hp,h2,u=>by
  have e:k=n:=by omega
  subst e;exact⟨hp,u⟩
 |f+1,p,k,hp,h2,u=>by
  have hk:k<n:=by omega
  refine pV _ (mY (λl hq=>?_) _ (Fb S hp hk u k 0 k (de _) (aj _) (by omega) (λi h=>by omega) λi h g=>by omega));rcases hq with⟨a,b,c⟩;refine Nq S f _ (k+1) (hp.of (bubble_perm _ _ _)) (by omega) λi j hij hj=>?_;have hs:k<p.size:=by rw[hp.size];exact hk
  rw[Zq hs a,Zq hs a]
  by_cases ei:i=l
  .rw[if_pos ei,if_neg (by omega),if_pos (by omega)]
   exact c (j-1) (by omega) (by omega)
  .rw[if_neg ei]
   by_cases ej:j=l
   .rw[if_pos ej,if_neg (by omega)]
    exact b i (by omega)
   .rw[if_neg ej]
    by_cases gi:l<i/\i<=k
    .rw[if_pos gi,if_pos (by omega)]
     exact u _ _ (by omega) (by omega)
    .rw[if_neg gi]
     by_cases gj:l<j/\j<=k
     .rw[if_pos gj]
      exact u _ _ (by omega) (by omega)
     .rw[if_neg gj]
      exact u _ _ (by omega) (by omega)
theorem Q2(S:lQ lt n)(h2:2<=n):iG lt n (je n) (λq=>fX n q/\Up lt q n):=by
 refine pV _ (mY (λr hq=>?_) _ (J4 S h2 (p:=fw (bj n)) (List.Perm.refl _)));rcases hq with⟨a,b,c,d⟩
 by_cases h:r.1<n
 .rw[if_pos h]
  have e:max r.1 1=r.1:=by omega
  rw[e];exact Nq S _ _ _ c (by omega) d
 .rw[if_neg h]
  have e:r.1=n:=by omega
  exact⟨c,by rw[<-e];exact d⟩
end
section
variable{α:Type}{lt:α->α->Bool}
def ins(lt:α->α->Bool)(x:α):List α->List α
 |[]=>[x]
 |y::r=>if lt x y then x::y::r else y::ins lt x r
def fM(lt:α->α->Bool):List α->List α
 |[]=>[]
 |x::r=>ins lt x (fM lt r)
structure oA(lt:α->α->Bool):Prop where
 irr:∀x,lt x x=false
 tr:∀x y z,lt x y=true->lt y z=true->lt x z=true
 tot:∀x y,x≠y->lt x y=true\/lt y x=true
theorem Db(x:α):∀l,(ins lt x l).Perm (x::l)
 |[]=>.refl _
 |y::r=>by
  unfold ins;split
  .exact .refl _
  .exact((Db x r).cons y).trans (.swap x y r)
theorem qF:∀l,(fM lt l).Perm l
 |[]=>.refl _
 |x::r=>(Db x _).trans ((qF r).cons x)
theorem Qq(O:oA lt)(x:α):∀l,x∉l->l.Pairwise (λa b=>lt a b=true)->(ins lt x l).Pairwise (λa b=>lt a b=true)
 |[],_,_=>by simp[ins]
 |y::r,nx,h=>by
  unfold ins;split
  .rename_i z
   refine ur.mpr ⟨λa ha=>?_,h⟩;rcases cj.mp ha with rfl |ha
   .exact z
   .exact O.tr _ _ _ z ((ur.mp h).1 a ha)
  .rename_i z
   obtain⟨h1,h2⟩:=ur.mp h;refine ur.mpr ⟨λa ha=>?_,Qq O x r (λm=>nx (bn _ m)) h2⟩;rcases cj.mp ((Db x r).subset ha)with rfl |ha
   .rcases O.tot a y (λe=>nx (by rw[e];exact bf))with q |q
    .exact absurd q z
    .exact q
   .exact h1 a ha
theorem wD(O:oA lt):∀l:List α,l.Nodup->(fM lt l).Pairwise (λa b=>lt a b=true)
 |[],_=>.nil
 |x::r,h=>by
  obtain⟨h1,h2⟩:=jn.mp h;exact Qq O x _ (λm=>h1 ((qF r).subset m)) (wD O r h2)
theorem Xo(O:oA lt){A B:List α}(hp:A.Perm B)(ha:A.Pairwise (λa b=>lt a b=true))(hb:B.Pairwise (λa b=>lt a b=true)):A=B:=
 hp.eq_of_pairwise (λu v _ _ h g=>by
  have:=O.tr _ _ _ h g;rw[O.irr]at this;cases this) ha hb
theorem Aw(O:oA lt){A B:List α}(hp:A.Perm B)(h:B.Nodup):fM lt A=fM lt B:=
 Xo O ((qF A).trans (hp.trans (qF B).symm)) (wD O A (hp.nodup_iff.mpr h)) (wD O B h)
end
theorem U4:oA HT.lexLt:=⟨jU,qC,λx y h=>(vS x y).elim (λe=>absurd e h) id⟩
end
section
open PySem.W (KasT kas_sort kas_ask KatTups kat_run kat_kind kas_item kat_snds KdlSrc kdl_extend)
section
variable{prog:Program}{w:am}{A:aq}{E:Value->aa->Prop}{s:aa}
def Eu(prog:Program)(w:am)(A:aq)(κ:uu)(lt:Nat->Nat->Bool)(vs:BA)(s:aa)(a:Addr):Prop:=∀(h':Heap)(tk:cv)(E:Value->aa->Prop),(∀b o,b≠a->s.heap.get? b=some o->h'.get? b=some o)->
 (∀Q:uu->aa->Prop,Q κ {s with heap:=h',toks:=tk}->wpAny (model prog w) A (keyKind' vs.toArray) Q E {s with heap:=h',toks:=tk})/\
 ∀i j(C:Bool->aa->Prop),i<vs.length->j<vs.length->C (lt i j) {s with heap:=h',toks:=tk}->kas_ask prog w A κ vs i j C {s with heap:=h',toks:=tk}
def kR(lt:Nat->Nat->Bool)(p:List Nat):Prop:=p.Pairwise λi j=>lt i j=true
theorem S9{lt:Nat->Nat->Bool}{p:Array Nat}{n:Nat}(hp:fX n p)(u:Up lt p n):kR lt p.toList:=by
 unfold kR;rw[yj];intro i j hi hj hij;have hs:=hp.size;rw[nu]at hi hj;have:=u i j hij (by omega);rw[gD hi,gD hj]at this;simpa using this
theorem Mv{a:Addr}{vs:BA}{lt:Nat->Nat->Bool}{κ:uu}{n:Nat}{P:qr->aa->Prop}(ho:s.heap.get? a=some (seqObj "list" vs.toArray n))(h64:vs.length<64)(hS:lQ lt vs.length)(hk:2<=vs.length->Eu prog w A κ lt vs s a)
  (h:∀p:List Nat,p.Perm (bj vs.length)->kR lt p->P (.done (.ret .none)) {s with heap:=sortedHeap s.heap a vs (fw (p.map λi=>vs.getD i bi))}):
  wpAny (model prog w) A (Builtin.«list.sort» ⟨[.ref a],[]⟩) P E s:=by
 have ha:a<s.heap.objs.size:=ay ho;obtain⟨e1,ho1⟩:∃e1,(s.heap.update a (dq λ_=>(#[]:Array Value))).get? a=some (seqObj "list" #[] e1):=⟨_,ou ho λ_=>#[]⟩;have kp:∀b o,b≠a->s.heap.get? b=some o->(((s.heap.update a (dq λ_=>(#[]:Array Value))).push (seqObj "tuple" vs.toArray 0)).push (seqObj "list" #[] 0)).get? b=some o:=λb o hb e=>
  ar _ (ar _ ((ow _ _ _ _ hb).trans e))
 have na:(((s.heap.update a (dq λ_=>(#[]:Array Value))).push (seqObj "tuple" vs.toArray 0)).push (seqObj "list" #[] 0)).get? a=some (seqObj "list" #[] e1):=ar _ (ar _ ho1);rw[list_sort_plain];refine ae (listItems_at ho rfl ?_);refine ae (qs ho rfl ?_ (by rw[au,ik];omega) (de _));refine ae (qu ho1 rfl ?_);refine ae (xu ?_ (by show vs.length<=_;rw[ik];omega));refine ae (ul ?_ (de _));refine jm ?_;show wpAny (model prog w) A _ P E {s with heap:=((s.heap.update a (dq λ_=>(#[]:Array Value))).push (seqObj "tuple" vs.toArray 0)).push (seqObj "list" #[] 0)};dsimp only
 by_cases hn2:vs.toArray.size<2
 .rw[if_pos hn2,if_pos hn2]
  refine ae (ak ?_);rw[StateT.run_pure];refine ae (ak ?_);dsimp only;refine ae (qu na rfl ?_);have hl2:vs.length<2:=by simpa using hn2
  have eo:(arrOf (SortSt.mk' general' (vs.toArray.zip vs.toArray) #[] 7 none)).map (·.2)=fw ((bj vs.length).map λi=>vs.getD i bi):=by
   show Array.map (λx=>x.2) (vs.toArray.zip vs.toArray)=_
   match vs,hl2 with
   |[],_=>simp
   |[v],_=>simp
  rw[eo];refine ae (qs na rfl ?_ (de _) (by rw[au,ao,ng,ik];omega));simp only[bne_self_eq_false,yh,if_false];refine ak (h _ (.refl _) ?_);unfold kR;rw[yj];intro i j hi hj hij;rw[ng]at hi hj;omega
 rw[if_neg hn2,if_neg hn2];have h2:2<=vs.length:=by simpa using hn2
 obtain⟨hkk,hc⟩:=hk h2 _ s.toks E kp;refine ae (hkk _ ?_);obtain⟨_,hc⟩:=hk h2 _ s.toks E kp;refine ae (ft (kat_run (Q:=λst' s'=>∃p:Array Nat,p.size=vs.length/\arrOf st'=p.map (kas_item (vs.toArray.zip vs.toArray))/\failedOf st'=none/\(fX vs.length p/\Up lt p vs.length)/\s'={s with heap:=((s.heap.update a (dq λ_=>(#[]:Array Value))).push (seqObj "tuple" vs.toArray 0)).push (seqObj "list" #[] 0)})
  (G:=λp s'=>(fX vs.length p/\Up lt p vs.length)/\s'={s with heap:=((s.heap.update a (dq λ_=>(#[]:Array Value))).push (seqObj "tuple" vs.toArray 0)).push (seqObj "list" #[] 0)})
  rfl h2 h64 (λp' st' s' a1 a2 a3 a4=>⟨p',a1,a2,a3,a4⟩) ?_) ?_ λ_ _ e=>e)
 .exact Dp (λi j C hi hj hC=>hc i j C hi hj hC) _ (mY (λp hp=>⟨hp,rfl⟩) _ (Q2 hS h2))
 rintro⟨⟨⟩,st'⟩ s' ⟨p,hp,har,hf,hpl,rfl⟩
 dsimp only;have hout:=kat_snds rfl har;have hsz:(fw (p.toList.map λi=>vs.getD i bi)).size=vs.length:=by rw[au,ao,nu,hp]
 rw[hout];refine ae (qu na rfl ?_);refine ae (qs na rfl ?_ (de _) (fm (su hsz) (by rw[ik];omega)));rw[hf];simp only[bne_self_eq_false,yh,if_false];exact ak (h _ hpl.1 (S9 hpl.1 hpl.2))
theorem Hw{T:String}{r d:Addr}{n:Nat}{P:Nat->Value->Prop}{OK:Heap->Prop}{Q:BA->aa->Prop}(K:KdlSrc prog w T r d n P OK)(hh:A.handled=none)(hok:OK s.heap)(hn:n<=sizeLine)
  (hQ:∀h' tk acc,(∀b o,s.heap.get? b=some o->h'.get? b=some o)->ItemsOf P acc n->Q acc.toList {s with heap:=h',toks:=tk}):wpAny (model prog w) A (collect (.ref r)) Q E s:=by
 obtain⟨l1,l2⟩:=K.there _ hok;unfold collect;refine ae (wpAny_runValue (codeAny_builtin F.entry_proto_collect ?_));rw[AC F.plain_proto_collect _];show wpAny _ A.in1 (newList [] >>= λl=>again (.builtin "list.__iadd__" ⟨[l,.ref r],[]⟩)) _ _ s;refine ae (iy ?_);refine ak ⟨plainId_quiet AD _,codeAny_builtin u9 ?_⟩;rw[AC AD _];show wpAny _ A.in1 (Builtin.List.listExtendWith (.ref s.heap.objs.size) (.ref r) (.ref s.heap.objs.size)) _ _ _;have hS:(s.heap.push {cls:=.type "list",data:=.seq ([]:BA).toArray}).get? s.heap.objs.size=some {cls:=.type "list",data:=.seq #[] 0}:=da _ rfl;refine ft (kdl_extend (A:=A) (R:=λr s'=>r=.ok (.ret (.ref s.heap.objs.size))/\∃h' tk acc c,s'={s with heap:=h',toks:=tk}/\(∀b o,b≠s.heap.objs.size->(s.heap.push {cls:=.type "list",data:=.seq ([]:BA).toArray}).get? b=some o->h'.get? b=some o)/\h'.get? s.heap.objs.size=some {cls:=.type "list",dict:=none,data:=.seq acc c,slots:=#[]}/\ItemsOf P acc n)
  (s:={s with heap:=s.heap.push {cls:=.type "list",data:=.seq ([]:BA).toArray}}) K hh (K.keep _ _ hok λb _ o e=>ar _ e) s.heap.objs.size (ko l1) (ko l2) _ 0 hS (λh' tk acc c k1 k2 k3=>⟨rfl,h',tk,acc,c,rfl,k1,k2,k3⟩) hn) (λfin s' h=>?_) (λe s' h=>?_)
 .have fin':∀s',(∃h' tk acc c,s'={s with heap:=h',toks:=tk}/\(∀b o,b≠s.heap.objs.size->(s.heap.push {cls:=.type "list",data:=.seq ([]:BA).toArray}).get? b=some o->h'.get? b=some o)/\h'.get? s.heap.objs.size=some {cls:=.type "list",dict:=none,data:=.seq acc c,slots:=#[]}/\ItemsOf P acc n)->wpAny (model prog w) A (match cr s.heap.objs.size with
   |cr a=>do
    match(<-load a).data with
     |Data.seq xs _=>pure xs.toList
     |_=>unsupported "internal:collect"
   |_=>unsupported "internal:collect") Q E s':=by
   rintro s' ⟨h',tk,acc,c,rfl,k1,k2,k3⟩
   show wpAny _ A (load s.heap.objs.size >>= _) _ _ _;refine ae (wpAny_load k2 ?_);refine ak (hQ h' tk acc (λb o hb=>k1 b o (cx (ay hb)) (ar _ hb)) k3)
  cases fin with
  |done f=>
   obtain⟨e,h⟩:=h;cases e;exact fin' s' h
  |again c'=>exact⟨h.1,qg h.2 λr s'' hr=>by obtain⟨rfl,h⟩:=hr;exact fin' s'' h⟩
 .exact absurd h.1 (by simp)
theorem Xx{l:Addr}{vs:BA}{lt:Nat->Nat->Bool}{κ:uu}{Q:Value->aa->Prop}(h64:vs.length<64)(hS:lQ lt vs.length)(hk:∀h1 tk a,(∀b o',s.heap.get? b=some o'->h1.get? b=some o')->s.heap.get? a=none->2<=vs.length->Eu prog w A.in1.in1 κ lt vs {s with heap:=h1,toks:=tk} a)
  (hcol:∀(Q':BA->aa->Prop)(E':Value->aa->Prop),(∀h1 tk,(∀b o',s.heap.get? b=some o'->h1.get? b=some o')->Q' vs {s with heap:=h1,toks:=tk})->wpAny (model prog w) A.in1 (collect (.ref l)) Q' E' s)
  (h:∀(h1 h':Heap)(c:Nat)(tk:cv)(p:List Nat),p.Perm (bj vs.length)->kR lt p->(∀b o',s.heap.get? b=some o'->h1.get? b=some o')->(∀b o',h1.get? b=some o'->h'.get? b=some o')->h'.get? h1.objs.size=some (seqObj "list" (fw (p.map λi=>vs.getD i bi)) c)->Q (.ref h1.objs.size) {s with heap:=h',toks:=tk}):
  wpAny (model prog w) A (call (.builtin "sorted") [.ref l]) Q E s:=by
 refine u4 kind_sorted plain_sorted entry_sorted (args_sorted1 _) ?_;unfold u5;refine ae (m:=checkCount "sorted" 1 1 _) (ak ?_);refine ae (hcol _ _ λh1 tk k1=>?_);refine ae (ul ?_ (by rw[ik];omega));have hoL:(h1.push (seqObj "list" vs.toArray 0)).get? h1.objs.size=some (seqObj "list" vs.toArray 0):=da _ rfl;show wpAny _ _ _ _ _ {s with heap:=h1.push (seqObj "list" vs.toArray 0),toks:=tk};refine ae (jm (ju slot_list_sort ⟨_,hoL,rfl⟩ entry_list_sort ?body (args_list_sort _)))
 case body=>
  have nn:s.heap.get? h1.objs.size=none:=by
   cases z:s.heap.get? h1.objs.size with
   |none=>rfl
   |some o=>exact absurd (ay (k1 _ _ z)) (ir _)
  refine Mv (s:={s with heap:=h1.push (seqObj "list" vs.toArray 0),toks:=tk}) hoL h64 hS (hk _ tk _ (λb o hb=>ar _ (k1 b o hb)) nn) λp hp hu=>⟨_,rfl,ak ⟨_,rfl,?_⟩⟩;obtain⟨e1,ho1⟩:∃e1,((h1.push (seqObj "list" vs.toArray 0)).update h1.objs.size (dq λ_=>(#[]:Array Value))).get? h1.objs.size=some (seqObj "list" #[] e1):=⟨_,ou hoL λ_=>#[]⟩;have ho2:=ar (seqObj "list" #[] 0) (ar (seqObj "tuple" vs.toArray 0) ho1);obtain⟨e2,ho3⟩:∃e2,(sortedHeap (h1.push (seqObj "list" vs.toArray 0)) h1.objs.size vs (fw (p.map λi=>vs.getD i bi))).get? h1.objs.size=some (seqObj "list" (fw (p.map λi=>vs.getD i bi)) e2):=⟨_,ou ho2 λ_=>fw (p.map λi=>vs.getD i bi)⟩;refine h h1 _ e2 tk p hp hu k1 (λb o' hb1=>?_) ho3;have hne:b≠h1.objs.size:=cx (ay hb1);exact(ow _ _ _ _ hne).trans (ar _ (ar _ ((ow _ _ _ _ hne).trans (ar _ hb1))))
end
end
open L2.Pp
section
variable{X:Cx}{BI:List (Addr×Obj)}{σ:St}{H:Hp}{s:aa}
theorem Ej{ts:List V}{its:BA}(rv:bA ts its):∀ps:List Nat,bA (ps.map λi=>ts.getD i .non) (ps.map λi=>its.getD i bi)
 |[]=>.nil
 |i::ps=>by
  have hlen:=rv.length;refine .cons ?_ (Ej rv ps)
  by_cases hi:i<ts.length
  .obtain⟨v,e2,rr⟩:=rv.get (av hi)
   have q1:ts.getD i .non=ts[i]:=by simp[cf,hi]
   have q2:its.getD i bi=v:=by simp[cf,e2]
   show bQ (ts.getD i .non) (its.getD i bi);rw[q1,q2];exact rr
  .have q1:ts.getD i .non=.non:=by simp[cf,hi]
   have q2:its.getD i bi=bi:=by simp[cf,show its.length<=i by omega]
   show bQ (ts.getD i .non) (its.getD i bi);rw[q1,q2];rfl
end
end L2
namespace L2.Pp
open PySem PySem.Spec PyProof.Rows Bn
def Rt(u:AX):PV:=.tup (u.map .int)
theorem Ln:∀{xs:BE}{is:AX},jF xs=some is->xs=is.map .int
 |[],is,e=>by cases e;rfl
 |.int i::r,is,e=>by
  unfold jF at e;split at e
  .rename_i js h
   cases e;rw[Ln h];rfl
  .cases e
 |.non::_,_,e=>by cases e
 |.bl _::_,_,e=>by cases e
 |.tup _::_,_,e=>by cases e
 |.str _::_,_,e=>by cases e
 |.lst _::_,_,e=>by cases e
theorem Ko:∀{xs:BE}{uss:AY},iT xs=some uss->xs=uss.map Rt
 |[],uss,e=>by cases e;rfl
 |.tup us::r,uss,e=>by
  unfold iT at e;split at e
  .rename_i is uss' h1 h2
   cases e;rw[Ko h2,Ln h1];rfl
  .cases e
 |.non::_,_,e=>by cases e
 |.bl _::_,_,e=>by cases e
 |.int _::_,_,e=>by cases e
 |.str _::_,_,e=>by cases e
 |.lst _::_,_,e=>by cases e
section
variable{K:ag}
end
section
variable{K:ag}{cl:Str->Addr}{E:XK}{X:Cx}{p q:Ph}{H H':Hp}{S:aG}{a b e o i v:ah}{es:List ah}{m md mk mv:ME}{ms:MA}{pos:ai}
end
end L2.Pp
namespace L2
open PySem PySem.Spec PyProof.Rows Bn
open L2.Pp
section
variable{prog:Program}{w:am}{K:Type}[DecidableEq K]{knd:HeapKind prog w K}{A:aq}{E:Value->aa->Prop}{s:aa}{d a:Addr}{k:K}{xs:List (K×Addr×Value)}
theorem Uw{dflt:Value}{Q:Value->aa->Prop}(hu:knd.room A)(hkey:knd.is s.heap k a)(hm:s.heap.DictOfH knd d xs)
  (h1:∀p,atKey xs k=some p->Q p.2 {s with toks:=s.toks+knd.draws k})
  (h2:atKey xs k=none->∀h',h'.DictOfH knd d (storedH xs k a dflt)->ix d s.heap h'->Q dflt {s with heap:=h',toks:=s.toks+knd.draws k})
  (hsz:xs.length<=sizeLine):wpAny (model prog w) A (dictSetDefault d (.ref a) dflt) Q E s:=by
 obtain⟨o,es,ep,ho,hc,hd,he,his,hn⟩:=hm;unfold dictSetDefault
 try with_reducible refine jm ?_
 refine ae (knd.pyHash hu hkey ?_);refine ae (wpAny_dictFind_heap (s:={s with toks:=s.toks+knd.draws k}) hu hkey ho hd he his hn ?_ ?_)
 .intro hno
  have hnot:k∉xs.map (·.1):=not_mem_keys_of_get hno;refine ae (kn (ae (wpAny_updateDictKeys (hz:=by have e:=size_of_entries he;omega) (s:={s with toks:=s.toks+knd.draws k}) ho hd (ak (h2 (qv hno) _ ⟨_,_,ep+1,sk _ ho (Obj.isFreed_of_dict (AE hd _)),
   hc.mapDictKeys _,AE hd _,?_,?_,?_⟩ (mx ..))))))
  .rw[jp (qv hno)]
   simp[he,entryOfKey]
  .rw[jp (qv hno)]
   intro x hx;rcases cq.mp hx with hx |hx
   .exact knd.keeps (his x hx) ho hd (mx ..)
   .simp only[yr]at hx
    subst hx;exact knd.keeps hkey ho hd (mx ..)
  .rw[jp (qv hno)]
   rw[dh,nh];refine⟨hn,by simp,?_⟩;intro x hx y hy;simp only[aw,cw,yr]at hy;subst hy;exact λe=>hnot (e▸hx)
 .intro j p hj
  refine ae (yp (s:={s with toks:=s.toks+knd.draws k}) ho hd ?_);have e:es[j]?=some (entryOfKey knd (k,p)):=by rw[entry_at he j,hj];rfl
  rw[e];exact ae (kn (ak (h1 p (atKey_of_get hn hj))))
theorem Su(hd:(d==sysModules)=false)(dflt:Value):
  MeetsIn prog w (Builtin.«dict.setdefault» ⟨[.ref d,.ref a,dflt],[]⟩) (λA R s=>knd.room A.in1/\∃k xs,knd.is s.heap k a/\s.heap.DictOfH knd d xs/\xs.length<=sizeLine/\
   (∀p,atKey xs k=some p->R (.ok (.ret p.2)) {s with toks:=s.toks+knd.draws k})/\
   (atKey xs k=none->∀h',h'.DictOfH knd d (storedH xs k a dflt)->ix d s.heap h'->R (.ok (.ret dflt)) {s with heap:=h',toks:=s.toks+knd.draws k})):=
 .of_wp λA R s ⟨hu,k,xs,hkey,hm,hz,h1,h2⟩=>by
  unfold Builtin.«dict.setdefault»;refine ae ?_;unfold Builtin.Dict.keyAndDefault;refine ae (AA hm.typeIs ?_);show wpAny _ _ (pure (d,cr a,some dflt)) _ _ s;refine ak ?_;show wpAny _ _ (if(d==sysModules)=true then _ else(dictSetDefault d (.ref a) dflt >>= _)) _ _ s;rw[if_neg (by rw[hd];exact ij)];exact ae (Uw hu hkey hm (λv hv=>ak ⟨_,rfl,h1 v hv⟩) (λhn h' hm' hs'=>ak ⟨dflt,rfl,h2 hn h' hm' hs'⟩) hz)
end
section
variable{X:Cx}{BI:List (Addr×Obj)}{σ:St}{H:Hp}{s:aa}
def adP(K:ag):V->List V->Hp->VK->Prop:=λx xs H Q=>∃(a b t:Addr)(c:Addr->Prop)(n:Bool)(k:fV n)(ks:BE)(rs:List V)(bs:List Addr),x=.ref a/\xs=[.ref b,.ref t]/\jP H a n ks rs (bs.map cr)/\aJ K c H ks rs/\aI K c H (cC n k) (.ref b)/\bs.length<sizeLine/\
 (∀(i:Nat)(l:Addr),ks[i]?=some (cC n k)->bs[i]?=some l->Q (.ref l) H)/\
 ∀es ep,(∀i:Nat,ks[i]?≠some (cC n k))->jP (aL H a (dO a es ep)) a n (ks++[cC n k]) (rs++[.ref b]) ((bs++[t]).map cr)->Q (.ref t) (aL H a (dO a es ep))
theorem Fz(hu:X.A.units+2<cLine):yK X "dict.setdefault" (adP X.K):=by
 intro BI s σ H x xs v us Q I rx rv h;obtain⟨a,b,t,c,n,k,ks,rs,bs,rfl,rfl,d,r,rk,hl,q1,q2⟩:=h;cases rx;obtain⟨u1,u2,rfl,r1,r2⟩:=rv.two;cases r1;cases r2;obtain⟨ys,ep,e,z,l,nd,rfl,rfl,eu⟩:=d;have dd:=Xd I e nd r;have ly:bs.length=ys.length:=by
  have:=congrArg qh eu;simpa using this
 refine call_meetsIn AF dd.typeIs PySem.F.entry_dict_setdefault (PySem.F.args_dict_setdefault_3 _ _ _) (Su (knd:=iV X.prog X.w n) z (.ref t)) ⟨uU hu n,k,ys,wF I rk,dd,l,λp hp=>?_,λhn h' dd' hs=>?_⟩
 .rcases vP (k:=k) nd with⟨i,p',hx,ha⟩|⟨_,ha⟩
  .rw[ha]at hp
   cases hp;have hi:=(ce.mp hx).1;have hb:i<bs.length:=by omega
   have ev:p.2=cr bs[i]:=by
    have:=congrArg (λl:BA=>l[i]?) eu;simp only[ax,hx,av hb,yt]at this;exact(ci this).symm
   rw[ev];exact⟨.ref bs[i],H,I.tok _,rfl,q1 i _ (by rw[ax,hx];rfl) (av hb)⟩
  .rw[ha]at hp
   cases hp
 .obtain⟨ob,es,ep',ho,hex,hd,he,_,hnd⟩:=dd'
  have eob:ob=oD es ep':=by
   obtain⟨e1,e2,e3⟩:=hex;cases ob;simp only at e1 e2 e3 hd;subst e1 e2 e3 hd;rfl
  subst eob;have een:jD n=entryOfKey (iV X.prog X.w n):=by
   funext x
   unfold jD entryOfKey;rw[zO]
  have ees:es=((storedH ys k b (.ref t)).map (jD n)).toArray:=by
   rw[een,<-he]
  have I':aF X BI σ (aL H a (dO a es ep')) {s with heap:=h',toks:=s.toks+(iV X.prog X.w n).draws k}:=
   I.write (x:=a) (e:=a) (by rw[e];exact trivial) (.inl rfl) (λb' q' hb z'=>(hs.2 b' hb).trans z') ⟨_,ho⟩ ⟨ho,⟨_,ho⟩,λh1 h2 p kk=>kk _ p⟩
  rcases vP (k:=k) nd with⟨i,p',hx,ha⟩|⟨hno,ha⟩
  .rw[ha]at hn
   cases hn
  .refine⟨.ref t,_,I',rfl,q2 es ep' hno ⟨storedH ys k b (.ref t),ep',by rw[dW,ees],z,?_,hnd,?_,?_,?_⟩⟩
   .rw[jp ha,bh]
    show ys.length+1<=sizeLine;omega
   .rw[jp ha,dh]<;>rfl
   .rw[jp ha,dh]<;>rfl
   .rw[jp ha,dh,dh,eu]<;>rfl
end
end L2
namespace L2.Pp
noncomputable section
open PySem PySem.Spec PyProof.Rows Bn
def wS(n:Bool):ME:=λ_ S=>.ok (.ref S.length) (S++[.dol n []])
def lO(kvs:List (PV×BE))(k v:PV):List (PV×BE):=match gY kvs k with
 |some i=>kvs.set i (k,((kvs[i]?).map (·.2)).getD []++[v])
 |none=>kvs++[(k,[v])]
open Classical in
def yN(k v:PV)(S:aG):bP AV:=match S with
 |[.dol n kvs]=>if lP n k/\kvs.length<16777216/\∀kv∈kvs,kv.2.length<16777216 then .ok (.pv .non) [.dol n (lO kvs k v)] else .fail
 |_=>.fail
def pH(i j l:Nat):ME:=λρ S=>match ρ[i]?,ρ[j]?,ρ[l]? with
 |some (some (.ref 0)),some (some (.pv k)),some (some (.pv v))=>yN k v S
 |_,_,_=>.fail
section
variable{K:ag}{cl:Str->Addr}{E:XK}{X:Cx}{p q:Ph}{H H':Hp}{S:aG}{e:ah}{es:List ah}{m md mk mv:ME}{ms:MA}{pos:ai}
theorem O2(n:Bool):aS K cl E X (.Dict [] [] pos) (wS n):=by
 intro hK;subst hK;refine PE.imp Rk ?_
 rintro σ H Q ⟨p,S,ρ,s,ev,h⟩ t ht hs
 have ob:mJ X.K ⟨p.f++[t],λa=>p.w a\/a=t,λa=>p.c a\/a=t⟩ (aL H t (dO t #[] 0)) t (.dol n []):=
  ⟨[],⟨[],0,dW,hs,de _,kx,rfl,.nil,rfl⟩,kx,λ_ h=>(nomatch h),rfl,λi xs b e=>(nomatch e)⟩
 obtain⟨st,sm⟩:=s.pushO ht (show Mb (dO t #[] 0) from trivial) ob;exact h _ _ (.ref t) st sm ⟨t,by show(p.f++[t])[S.length]?=some t;rw[<-s.len,dj (aj _),ia];rfl,rfl⟩
theorem Cc{c:Addr->Prop}{n:Bool}{k:fV n}{y:V}(ry:aI K c H (cC n k) y):∃b,y=.ref b:=by
 cases n with
 |false=>
  have ry:aI K c H (.tup (jw PV.int k)) y:=ry;unfold aI at ry;obtain⟨b,_,e,_⟩:=ry;exact⟨b,e⟩
 |true=>
  have ry:aI K c H (.tup (jw (λr:AX=>PV.tup (r.map PV.int)) k)) y:=ry;unfold aI at ry;obtain⟨b,_,e,_⟩:=ry;exact⟨b,e⟩
theorem abY{i j l:Nat}{x y z:Str}{px py pz pl a1 c1 a2 c2:ai}(hu:X.A.units+8<cLine)(hN1:X.N[i]?=some x)(hN2:X.N[j]?=some y)(hN3:X.N[l]?=some z)
  (hv1:kT X.env.scope x:=by first |exact eh rfl |exact dk (eh rfl) |exact dk (dk rfl))(hv2:kT X.env.scope y:=by first |exact eh rfl |exact dk (eh rfl) |exact dk (dk rfl))(hv3:kT X.env.scope z:=by first |exact eh rfl |exact dk (eh rfl) |exact dk (dk rfl))
  (hd1:(x==("__debug__":Str))=false:=by decide)(hc1:(x==("__classdict__":Str))=false:=by decide)(hd2:(y==("__debug__":Str))=false:=by decide)(hc2:(y==("__classdict__":Str))=false:=by decide)(hd3:(z==("__debug__":Str))=false:=by decide)(hc3:(z==("__classdict__":Str))=false:=by decide)
  (hb1:attributeBase (.Name x px) "setdefault" X.env (eval (.Name x px) X.env)=eval (.Name x px) X.env:=by rfl)
  (hf1:((backTo c1 (starEach [.Name y py,.List [] pl] X.env)).all (λx=>!x.1)&&(backToKw c1 (keywordEach [] X.env)).all (λx=>x.1.isSome)&&decide (([.Name y py,.List [] pl]:List ah).length+([]:List fz).length+(if([]:List fz).isEmpty then 0 else 1)<30))=true:=by rfl)
  (hl1:(a1.endLine==c1.line)=true:=by rfl)(hs1:starEach [.Name y py,.List [] pl] X.env=(false,eval (.Name y py) X.env)::starEach [.List [] pl] X.env:=by rfl)(hp1:(backTo c1 (starEach [.List [] pl] X.env)).any (·.1)=false:=by rfl)
  (hs0:starEach [.List [] pl] X.env=(false,eval (.List [] pl) X.env)::starEach [] X.env:=by rfl)
  (hb2:attributeBase (.Call (.Attribute (.Name x px) "setdefault" a1) [.Name y py,.List [] pl] [] c1) "append" X.env (eval (.Call (.Attribute (.Name x px) "setdefault" a1) [.Name y py,.List [] pl] [] c1) X.env)=eval (.Call (.Attribute (.Name x px) "setdefault" a1) [.Name y py,.List [] pl] [] c1) X.env:=by rfl)
  (hf2:((backTo c2 (starEach [.Name z pz] X.env)).all (λx=>!x.1)&&(backToKw c2 (keywordEach [] X.env)).all (λx=>x.1.isSome)&&decide (([.Name z pz]:List ah).length+([]:List fz).length+(if([]:List fz).isEmpty then 0 else 1)<30))=true:=by rfl)
  (hl2:(a2.endLine==c2.line)=true:=by rfl)(hs2:starEach [.Name z pz] X.env=(false,eval (.Name z pz) X.env)::starEach [] X.env:=by rfl):
  aS K cl E X (.Call (.Attribute (.Call (.Attribute (.Name x px) "setdefault" a1) [.Name y py,.List [] pl] [] c1) "append" a2) [.Name z pz] [] c2) (pH i j l):=by
 intro hK;subst hK;refine PE.imp (xG uj ss yd qD (Cq AF PySem.F.type_dict_setdefault (Fz (by omega)) (lK hN1 hv1 hd1 hc1) (jT (lK hN2 hv2 hd2 hc2) (jT (wH lI) lI hs0) hs1) hb1 hf1 hl1 hs1 hp1) (jT (lK hN3 hv3 hd3 hc3) lI hs2) hb2 hf2 hl2 hs2 rfl) ?_
 rintro σ H Q ⟨p,S,ρ,s,ev,h⟩
 unfold pH at h;split at h
 .rename_i k v q1 q2 q3
  unfold yN at h;split at h
  .rename_i n kvs
   split at h
   .rename_i hc
    obtain⟨⟨k',rfl⟩,hl,hll⟩:=hc;obtain⟨x1,ex,rx⟩:=ev.at_ i _ q1;obtain⟨x2,ey,rk⟩:=ev.at_ j _ q2;obtain⟨x3,ez,rv⟩:=ev.at_ l _ q3;obtain⟨a,ea,rfl⟩:=rx;have rk:aI X.K p.c H (cC n k') x2:=rk;have rv:aI X.K p.c H v x3:=rv;obtain⟨b,rfl⟩:=Cc rk;obtain⟨bs,d,nd,wf,lz,lat⟩:=s.obj 0 a _ ea rfl;obtain⟨rs,dw,rr⟩:=xA d;have hz:=iD;have lb:bs.length=kvs.length:=by rw[<-lz,ao]
    have mA:a∈p.f:=cy ea;have fl:p.f=[a]:=by
     have:=s.len
     match e:p.f,this with
     |[u],_=>
      rw[e]at ea;cases ea;rfl
    have wa:p.w a:=s.sub a mA;refine⟨_,ex,by obtain⟨ys,ep,e,_⟩:=dw;exact⟨a,_,_,rfl,e⟩,_,ey,?_⟩;refine⟨by show 0<=sizeLine;exact de _,λt ht=>?_⟩;have na:a≠t:=λz=>by
     obtain⟨ys,ep,e,_⟩:=dw;rw[z,ht]at e;cases e
    have sm1:dH H (aL H t (.lst [])):=gO ht;have dw1:jP (aL H t (.lst [])) a n (kvs.map (·.1)) rs (bs.map cr):=by
     obtain⟨ys,ep,e,z⟩:=dw;exact⟨ys,ep,sm1 _ _ e,z⟩
    have st1:bO p H p (aL H t (.lst [])):=s.same sm1;refine⟨a,b,t,p.c,n,k',_,rs,bs,rfl,rfl,dw1,st1.reps rr,st1.rep rk,by omega,λi' l' hi hl'=>?_,λes ep hno dw2=>?_⟩
    ·--there already
     have wl:=wf l' (cy hl');obtain⟨i2,hi2⟩:=sV hi;obtain⟨w,hw⟩:=lA hi2;have ei:i2=i':=by
      obtain⟨xs,_,_,_,_,ndx,ek,_⟩:=dw;have g1:(kvs.map (·.1))[i2]?=some (cC n k'):=by rw[ax,hw];rfl
      rw[ek,ax]at g1 hi;cases z1:xs[i2]? with
      |none=>rw[z1]at g1;cases g1
      |some x1=>
       cases z2:xs[i']? with
       |none=>rw[z2]at hi;cases hi
       |some x2=>
        rw[z1]at g1;rw[z2]at hi;have e1:x1.1=k':=lE (ci g1);have e2:x2.1=k':=lE (ci hi);exact qw ndx (p:=x1.2) (q:=x2.2) (k:=k') (by rw[z1,<-e1]) (by rw[z2,<-e2])
     subst ei;obtain⟨ws,g1,g2,g3⟩:=lat i2 w l' (by rw[ax,hw];rfl) hl';have hwl:w.length<16777216:=hll _ (cy hw);have nt:l'≠t:=λz=>by rw[z,ht]at g1;cases g1
     have g1':aL H t (.lst []) l'=some (.lst ws):=by rw[bK nt];exact g1
     refine⟨.inl ⟨rfl,ws,bV.of g1'⟩,_,ez,l',ws,x3,rfl,rfl,g1',by rw[<-g3.length];omega,?_⟩;have st2:bO p H p (aL (aL H t (.lst [])) l' (.lst (ws++[x3]))):=⟨s.wc,s.mu,jk,λ_ h=>h,λ_ h=>h,λ_ h g=>absurd h g,λ_ h g=>absurd h g,λ_ h g=>absurd h g,λc o e nw=>by
      rw[bK (λz:c=l'=>nw (z▸wl.1))];exact sm1 c o e⟩
     have nal:a≠l':=λz=>wl.2 (z▸mA);have ek:lO kvs (cC n k') v=kvs.set i2 (cC n k',w++[v]):=by unfold lO;rw[hi2];simp[hw]
     have hik:i2<kvs.length:=(ce.mp hw).1;have e1:(kvs.set i2 (cC n k',w++[v])).map (·.1)=kvs.map (·.1):=by
      rw[uq];refine jf λt=>?_;rw[um];split
      .rename_i ht
       subst ht;rw[if_pos (by rw[ao];exact hik),ax,hw];rfl
      .rfl
     refine h p _ .non st2 ⟨s.nd,s.len,s.sub,s.wc,λc hc=>?_,λk2 c o f1 f2=>?_⟩ (by unfold bZ aI;rfl)
     .by_cases z:c=l'
      .rw[z,dW]
       exact⟨_,rfl,trivial⟩
      .rw[bK z]
       obtain⟨o,ho,mo⟩:=s.mu c hc;exact⟨o,sm1 c o ho,mo⟩
     .have ek2:k2=0:=by
       have:=(ce.mp f2).1;simpa using this
      subst ek2;rw[ea]at f1;cases f1;cases f2;rw[ek];refine⟨bs,?_,nd,wf,by rw[ao,fk];exact lb.symm,λi3 xs c f1 f2=>?_⟩
      .rw[e1]
       obtain⟨ys,ep,e,z1,z2,z3,z4,z5,z6⟩:=dw1;exact jP.at_ (rs:=rs) ⟨ys,ep,by rw[bK nal];exact e,z1,z2,z3,z4,z5,z6⟩ (st2.reps rr)
      .rw[ax]at f1
       by_cases h3:i2=i3
       .subst h3
        rw[ee hik]at f1;cases f1;rw[hl']at f2;cases f2;exact⟨ws++[x3],dW,by rw[bh,<-g3.length];show w.length+1<=sizeLine;omega,(st2.reps g3).append (.cons (st2.rep rv) .nil)⟩
       .rw[fh h3,<-ax]at f1
        obtain⟨us,j1,j2,j3⟩:=lat i3 xs c f1 f2;have ncl:c≠l':=λz=>h3 (nodup_idx nd hl' (z▸f2));exact⟨us,by rw[bK ncl];exact sm1 _ _ j1,j2,st2.reps j3⟩
    ·--new
     have gt:aL (aL H t (.lst [])) a (dO a es ep) t=some (.lst []):=by rw[bK (iw na),dW]
     refine⟨.inl ⟨rfl,[],bV.of gt⟩,_,ez,t,[],x3,rfl,rfl,gt,by show 0<sizeLine;omega,?_⟩;have nct:¬p.c t:=λc=>s.notin ht c;have nwt:¬p.w t:=λc=>nct (s.wc t c);have nft:t∉p.f:=λc=>nwt (s.sub t c);have ei:gY kvs (cC n k')=none:=by
      cases z0:gY kvs (cC n k')with
      |none=>rfl
      |some i=>
       obtain⟨w,hw'⟩:=lA z0;exact absurd (by rw[ax,hw'];rfl) (hno i)
     have ek:lO kvs (cC n k') v=kvs++[(cC n k',[v])]:=by unfold lO;rw[ei]
     have st2:bO p H (p.res t) (aL (aL (aL H t (.lst [])) a (dO a es ep)) t (.lst ([]++[x3]))):=by
      refine⟨s.wc,s.mu,jk,λ_ h=>.inl h,λ_ h=>.inl h,λ_ h g=>absurd h g,λc h g=>?_,λc h g=>?_,λc o e nw=>?_⟩
      .rcases h with h |h
       .exact absurd h g
       .rw[h];exact ht
      .rcases h with h |h
       .exact absurd h g
       .rw[h];exact ht
      .rw[bK (gF e ht),bK (λz:c=a=>nw (z▸wa))]
       exact sm1 c o e
     refine h (p.res t) _ .non st2 ⟨s.nd,s.len,λc hc=>.inl (s.sub c hc),λc hc=>hc.elim (λz=>.inl (s.wc c z)) .inr,λc hc=>?_,λk2 c o f1 f2=>?_⟩ (by unfold bZ aI;rfl)
     .by_cases z:c=t
      .rw[z,dW]
       exact⟨_,rfl,trivial⟩
      .rw[bK z]
       rcases hc with hc |hc
       .by_cases z2:c=a
        .rw[z2,dW]
         exact⟨_,rfl,trivial⟩
        .rw[bK z2]
         obtain⟨o,ho,mo⟩:=s.mu c hc;exact⟨o,sm1 c o ho,mo⟩
       .exact absurd hc z
     .have ek2:k2=0:=by
       have:=(ce.mp f2).1;simpa using this
      subst ek2;have f1:p.f[0]?=some c:=f1;rw[ea]at f1;cases f1;cases f2;rw[ek];have nb:∀b∈bs,b≠t:=λb hb z=>nwt (z▸(wf b hb).1);refine⟨bs++[t],?_,?_,λc hc=>?_,by rw[ao,bh,bh,lb];rfl,λi3 xs c f1 f2=>?_⟩
      .rw[dh]
       obtain⟨ys,ep',e,z1,z2,z3,z4,z5,z6⟩:=dw2;exact jP.at_ (rs:=rs++[.ref b]) ⟨ys,ep',by rw[bK na];exact e,z1,z2,z3,z4,z5,z6⟩ ((st2.reps rr).append (.cons (st2.rep rk) .nil))
      .rw[nh]
       exact⟨nd,by simp,λx hx y hy z=>nb x hx (by rw[z];simpa using hy)⟩
      .rcases cq.mp hc with z |z
       .exact⟨.inl (wf c z).1,(wf c z).2⟩
       .have:c=t:=by simpa using z
        subst this;exact⟨.inr rfl,nft⟩
      .rw[dh]at f1
       by_cases hi:i3<bs.length
       .rw[fj hi]at f2
        rw[fj (by rw[ao];omega)]at f1;obtain⟨us,j1,j2,j3⟩:=lat i3 xs c f1 f2;have mc:=cy f2;exact⟨us,by rw[bK (nb c mc),bK (λz:c=a=>(wf c mc).2 (z▸mA))];exact sm1 _ _ j1,j2,st2.reps j3⟩
       .have hi':i3=bs.length:=by
         have:=(ce.mp f2).1;rw[bh]at this;have:i3<bs.length+1:=this;omega
        subst hi';rw[dj (aj _),ia]at f2;have e0:(kvs.map (·.2)).length=bs.length:=lz;rw[<-e0,dj (aj _),ia]at f1;cases f1;cases f2;exact⟨[]++[x3],dW,by show 1<=sizeLine;omega,.cons (st2.rep rv) .nil⟩
   .exact h.elim
  .exact h.elim
 .exact h.elim
end
end
open PySem PySem.Spec PyProof.Rows Bn
open Classical in
noncomputable def tF(d k:AV)(S:aG):Option BE:=match d,k with
 |.ref j,.pv k=>(match S[j]? with
  |some (.dol n kvs)=>if lP n k then gW kvs k else none
  |_=>none)
 |_,_=>none
noncomputable def sN(f:FM)(md mk:ME):ME:=λρ S=>(md ρ S).bind λd S1=>(mk ρ S1).bind λk S2=>match tF d k S2 with
 |some xs=>(match f [.pv (.lst xs)] []with
  |.ok (.pv v) _=>if lR v=true then .ok (.pv v) S2 else .fail
  |_=>.fail)
 |none=>.fail
section
variable{K:ag}{cl:Str->Addr}{E:XK}{X:Cx}{p q:Ph}{H H':Hp}{S:aG}{a b e o i v:ah}{es:List ah}{m md mk mv:ME}{ms:MA}{pos:ai}
theorem Si:∀bs:List Addr,bA (bs.map V.ref) (bs.map cr)
 |[]=>.nil
 |_::r=>.cons rfl (Si r)
theorem Q3(s:aU K p S H){j:Nat}{a:Addr}{n:Bool}{kvs:List (PV×BE)}{k:PV}{y:V}{Q:V->Prop}{N:Prop}(ej:p.f[j]?=some a)(z:S[j]?=some (.dol n kvs))(hk:lP n k)(ry:aI K p.c H k y)
  (q:∀xs b ws,gW kvs k=some xs->H b=some (.lst ws)->ws.length<=sizeLine->aJ K p.c H xs ws->Q (.ref b))(qn:gW kvs k=none->N):∃b vs,y=.ref b/\nW K H a b vs Q N:=by
 obtain⟨k',rfl⟩:=hk;obtain⟨bs,d,ndb,wf,lz,lat⟩:=s.obj j a _ ej z;obtain⟨b,rfl⟩:=Cc ry;have nd:∀i j:Nat,(kvs.map (·.1))[i]?=some (cC n k')->(kvs.map (·.1))[j]?=some (cC n k')->i=j:=by
  obtain⟨xs,ep,_,_,_,nd,ek,_⟩:=d;intro i j h1 h2;rw[ek,ax]at h1 h2;cases z1:xs[i]? with
  |none=>rw[z1]at h1;cases h1
  |some x=>
   cases z2:xs[j]? with
   |none=>rw[z2]at h2;cases h2
   |some y=>
    rw[z1]at h1;rw[z2]at h2;have e1:x.1=k':=lE (ci h1);have e2:y.1=k':=lE (ci h2);exact qw nd (p:=x.2) (q:=y.2) (k:=k') (by rw[z1,<-e1]) (by rw[z2,<-e2])
 refine⟨b,bs.map V.ref,rfl,p.c,n,k',_,_,d,Si bs,ry,λi x h1 h2=>?_,λhn=>qn ?_⟩
 .obtain⟨j',hj⟩:=sV h1
  obtain⟨v,hv⟩:=lA hj;have ei:j'=i:=nd j' i (by rw[ax,hv];rfl) h1;subst ei;rw[ax]at h2;cases hb:bs[j']? with
  |none=>rw[hb]at h2;cases h2
  |some b'=>
   rw[hb]at h2;cases h2;obtain⟨ws,g1,g2,g3⟩:=lat j' v b' (by rw[ax,hv];rfl) hb;exact q v b' ws (by unfold gW;rw[hj];simp[hv]) g1 g2 g3
 .cases z:gY kvs (cC n k')with
  |none=>unfold gW;rw[z]
  |some i=>
   obtain⟨v,hv⟩:=lA z;exact absurd (by rw[ax,hv];rfl) (hn i)
theorem abB{g:FM}{k k0:Nat}{ps:List Str}{x:Str}{px p2:ai}(hu:X.A.units+8<cLine)(C:uK X.prog X.w X.K X.mg X.base cl x k ps g)(hr:dS k0 X.A)(hk:k<=k0)(hg:Gl X x)(ha:aS X.K cl E X a md)(hb:aS X.K cl E X b mk)(hs:sH b:=by intro _ _;rfl)(hdb:(x==("__debug__":Str))=false:=by decide)(he:starEach [.Subscript a b p2] X.env=(false,eval (.Subscript a b p2) X.env)::starEach [] X.env:=by rfl)(hpl:(backTo pos (starEach [] X.env)).any (·.1)=false:=by rfl):
  aS X.K cl E X (.Call (.Name x px) [.Subscript a b p2] [] pos) (sN g md mk):=by
 obtain⟨fa,d,G,bd,kk,n⟩:=C;intro hK;refine PE.imp (sG G (hr.mono hk) hg n kk bd .nil tO (jT (xP (Tn (by omega)) (ha rfl) (hb rfl) hs) lI he) hdb he hpl) ?_
 rintro σ H Q ⟨p,S,ρ,s,ev,h⟩
 refine bY s ev h λq H1 dd x S1 st s1 e1 r1 h1=>bY s1 e1 h1 λq2 H2 kv y S2 st2 s2 e2 r2 h2=>?_;have r1:=st2.repA r1;cases z:tF dd kv S2 with
 |none=>simp only[z]at h2;exact h2.elim
 |some xs=>
  simp only[z]at h2;cases dd with
  |pv _=>cases kv<;>cases z
  |ref j=>
   cases kv with
   |ref _=>cases z
   |pv kp=>
    obtain⟨a,ej,rfl⟩:=r1;have r2:aI X.K q2.c H2 kp y:=r2;unfold tF at z;dsimp only at z;split at z
    .rename_i nn kvs hS
     split at z
     .rename_i hkk
      have key:∀b ws,H2 b=some (.lst ws)->ws.length<=sizeLine->aJ X.K q2.c H2 xs ws->jM X.K cl g [V.ref b] H2 Q E0:=λb ws g1 g2 g3=>by
       refine⟨Ph.none,[],[.pv (.lst xs)],Cn,.cons ?_ .nil,?_⟩
       .show aI X.K (λ_=>False) H2 (.lst xs) (.ref b)
        unfold aI;exact⟨b,ws,rfl,.inl ⟨g1,λz=>z⟩,g2,mW (λ_ h=>h.elim) g3⟩
       .cases y:g [.pv (.lst xs)] []with
        |fail=>simp only[y]at h2;exact h2.elim
        |exc n S'=>simp only[y]at h2;exact h2.elim
        |ok w S'=>
         cases w with
         |ref j=>simp only[y]at h2;exact h2.elim
         |pv w=>
          simp only[y]at h2
          by_cases hn:lR w=true
          .rw[if_pos hn]at h2
           intro q' H' x' st' sm' r';have same:dH H2 H':=λa o e=>st'.keep a o e λz=>z;exact bU.same (R:=bZ X.K) h2 s2 same (Jc r' hn)
          .rw[if_neg hn]at h2
           exact h2.elim
      obtain⟨b,vs,ey,gg⟩:=Q3 (Q:=λv=>jM X.K cl g [v] H2 Q E0) (N:=False) s2 ej hS hkk r2 (λxs' b ws e g1 g2 g3=>by
       rw[z]at e;cases e;exact key b ws g1 g2 g3) (λe=>by rw[z]at e;cases e)
      exact⟨a,b,vs,rfl,ey,gg⟩
     .cases z
    .cases z
end
theorem F5{K:ag}{cl:Str->Addr}{E:XK}{X:Cx}{st:List Stmt}:gR K cl E X st (λ_ _=>.fail):=λ_ BI s σ H D I ⟨_,_,_,_,_,h⟩=>h.elim
end L2.Pp
namespace L2
theorem aa4(K:ag):kq K (.type "int") (.type "tuple")=some false:=by
 unfold kq m9;rw[if_neg (by decide)];show(if n9 "tuple"=true then o0 K (.type "int") (.type "tuple")else none)=some false;rw[if_pos (by decide+kernel)];show(PySem.fastBuiltinMro "int").map (·.contains (.type "tuple"))=some false;decide+kernel
end L2
namespace L2.Pp
open PySem PySem.Spec PyProof.Rows Bn
def oX:PV->BF
 |.int _=>some (.bl false)
 |.tup _=>some (.bl true)
 |_=>none
section
variable{K:ag}{cl:Str->Addr}{E:XK}{X:Cx}{a:ah}{m:ME}{pos:ai}
theorem abV:uG K (Hf K "tuple") oX:=λ{p S H a c x Q} s ra e k=>by
 have fin:∀b,c=.bl b->Q (.bl b) H:=λb h=>by
  subst h;exact k H _ (dH.refl H) (by unfold aI;rfl)
 cases a with
 |int i=>
  cases ra.int;cases e;exact .inl ⟨_,false,.int i,aa4 K,fin _ rfl⟩
 |tup xs=>
  obtain⟨a,vs,rfl,t,_,_⟩:=ra.tup;cases e;exact .inr (.inl ⟨rfl,a,vs,rfl,t,fin _ rfl⟩)
 |_=>cases e
theorem aal{t:Str}{p p2:ai}(hg:Gl X "isinstance")(hm:X.mg "isinstance"=none)(hgt:Gl X t)(hmt:X.mg t=none)(hv:bootBuiltins t=some (.type "tuple"))(ha:aS K cl E X a m)
  (htn:t≠"__name__":=by decide)(htd:(t==("__debug__":Str))=false:=by decide)
  (he:starEach [a,.Name t p2] X.env=(false,eval a X.env)::starEach [.Name t p2] X.env:=by rfl)(he2:starEach [.Name t p2] X.env=[(false,eval (.Name t p2) X.env)]:=by rfl)(hpl:(backTo pos (starEach [.Name t p2] X.env)).any (·.1)=false:=by rfl):
  aS K cl E X (.Call (.Name "isinstance" p) [a,.Name t p2] [] pos) (cL oX m):=by
 intro hK;subst hK;refine PE.imp (vK (Xj "tuple") hg hm r8 (jT (ha rfl) (jT (Ap hgt hmt hv (v:=.ty "tuple") rfl htn htd) lI he2) he) (by decide) (by decide) he hpl) ?_
 rintro σ H Q ⟨p,S,ρ,s,ev,h⟩
 exact bY s ev h λq H' as x S' cN sm ev r k=>⟨x,rfl,vC abV sm r k⟩
end
end L2.Pp
namespace L2
open PySem PySem.Spec PyProof.Rows Bn
open L2.Pp
open PySem.W (KatLex KatTups)
def dC:AY->AY->Bool
 |[],[]=>false
 |[],_::_=>true
 |_::_,[]=>false
 |x::xs,y::ys=>if x=y then dC xs ys else HT.lexLt x y
theorem En:∀u:AY,dC u u=false
 |[]=>rfl
 |x::u=>by
  unfold dC;rw[if_pos rfl,En u]
theorem Um:∀u v:AY,u≠v->dC u v=true\/dC v u=true
 |[],[],h=>absurd rfl h
 |[],_::_,_=>.inl rfl
 |_::_,[],_=>.inr rfl
 |x::u,y::v,h=>by
  unfold dC
  by_cases e:x=y
  .subst e
   rw[if_pos rfl,if_pos rfl];exact Um u v λz=>h (by rw[z])
  .rw[if_neg e,if_neg λz=>e z.symm]
   exact U4.tot x y e
theorem Nh:∀u v w:AY,dC u v=true->dC v w=true->dC u w=true
 |[],[],_,h,_=>by cases h
 |[],_::_,[],_,h=>by cases h
 |[],_::_,_::_,_,_=>rfl
 |_::_,[],_,h,_=>by cases h
 |_::_,_::_,[],_,h=>by cases h
 |x::u,y::v,z::w,h1,h2=>by
  unfold dC at h1 h2⊢
  by_cases e1:x=y
  .subst e1
   rw[if_pos rfl]at h1
   by_cases e2:x=z
   .rw[if_pos e2]at h2⊢
    exact Nh u v w h1 h2
   .rw[if_neg e2]at h2⊢
    exact h2
  .rw[if_neg e1]at h1
   by_cases e2:y=z
   .subst e2
    rw[if_neg e1];exact h1
   .rw[if_neg e2]at h2
    have h3:=qC x y z h1 h2;rw[if_neg λe=>by rw[e,jU]at h3;cases h3];exact h3
theorem vH:oA dC:=⟨En,Nh,Um⟩
def uH(h:Heap)(k:AX)(v:Value):Prop:=∃b,v=cr b/\gA h k b
section
variable{prog:Program}{w:am}{A:aq}{E:Value->aa->Prop}{s:aa}
theorem Gn(hu:A.units<cLine){Q:Bool->aa->Prop}:∀(ks ls:AY)(its jts:BA)(i:Nat)(fin:Bool),dn (uH s.heap) ks its->dn (uH s.heap) ls jts->fin=decide (ks.length<ls.length)->Q (dC ks ls) s->KatLex prog w A false fin Q (its.zip jts) i s
 |[],ls,its,jts,i,fin,h1,h2,hf,hQ=>by
  cases h1;cases ls with
  |nil=>
   subst hf;exact ot hQ
  |cons v vs=>
   have e:fin=true:=by rw[hf];simp
   subst e;exact ot hQ
 |u::us,[],its,jts,i,fin,h1,h2,hf,hQ=>by
  cases h2;have e:fin=false:=by rw[hf];simp
  subst e;rw[vz];exact ot hQ
 |u::us,v::vs,its,jts,i,fin,h1,h2,hf,hQ=>by
  cases h1 with
  |cons r1 t1=>
   cases h2 with
   |cons r2 t2=>
    obtain⟨b1,rfl,k1⟩:=r1;obtain⟨b2,rfl,k2⟩:=r2;rw[rq];refine t5 ((iV prog w false).eqBool (x:=u) (y:=v) hu (gA.key k1) (gA.key k2) ?_);unfold dC at hQ
    by_cases e:u=v
    .rw[if_pos e]at hQ
     have b:(decide (u=v))=true:=by simpa using e
     show AG prog w A false fin Q _ _ _ _ (decide (u=v)) s;rw[b];exact t6 (Gn hu us vs _ _ (i+1) fin t1 t2 (by rw[hf];simp) hQ)
    .rw[if_neg e]at hQ
     have b:(decide (u=v))=false:=by simpa using e
     show AG prog w A false fin Q _ _ _ _ (decide (u=v)) s;rw[b];refine t7 (PySem.W.kat_one _ _ ?_);obtain⟨o1,i1,n1,g1,c1,d1,v1⟩:=k1;obtain⟨o2,i2,n2,g2,c2,d2,v2⟩:=k2;exact HT.lt_tupInts ⟨o1,g1,c1,n1,d1⟩ ⟨o2,g2,c2,n2,d2⟩ (Gi v1) (Gi v2) hu hQ
end
def pA(kss:AZ)(i j:Nat):Bool:=dC (kss.getD i []) (kss.getD j [])
theorem abX{α:Type}{lt:α->α->Bool}(O:oA lt){uss:List α}(z:α)(nd:uss.Nodup):lQ (λi j=>lt (uss.getD i z) (uss.getD j z)) uss.length:=by
 refine⟨λi j k _ _ _ h g=>O.tr _ _ _ h g,λi j hi hj ne=>O.tot _ _ λe=>?_⟩;refine absurd (Pp.nodup_idx nd (i:=i) (j:=j) (a:=uss[i]) (by simp[hi]) ?_) ne;have e1:uss.getD i z=uss[i]:=by simp[cf,hi]
 have e2:uss.getD j z=uss[j]:=by simp[cf,hj]
 rw[<-e1,e,e2];simp[hj]
section
variable{X:Cx}{BI:List (Addr×Obj)}{σ:St}{H:Hp}{s:aa}
def qS(K:ag)(H:Hp)(ts:List V)(kss:AZ):Prop:=ts.length=kss.length/\∀i t,ts[i]?=some t->∃a c,t=.ref a/\aI K c H (cC true (kss.getD i [])) (.ref a)/\kss.getD i []≠[]
theorem aba(I:aF X BI σ H s){c:Addr->Prop}{ks:AY}{b:Addr}(r:aI X.K c H (cC true ks) (.ref b)):∃o its n,s.heap.get? b=some o/\o.cls=.type "tuple"/\o.data=.seq (fw its) n/\dn (uH s.heap) ks its:=by
 have r:aI X.K c H (.tup (jw (λr:AX=>PV.tup (r.map PV.int)) ks)) (.ref b):=r;unfold aI at r;obtain⟨a,vs,e,sq,_,r⟩:=r;cases e;obtain⟨its,rv,⟨o,ho,hc,m,hd⟩,_⟩:=I.tuple sq;exact⟨o,its,m,ho,hc,hd,Aa I r rv⟩
theorem zZ{α β:Type}{R:α->β->Prop}:∀{l:List α}{m:List β},dn R l m->l.length=m.length
 |_,_,.nil=>rfl
 |_,_,.cons _ t=>by rw[ca,ca,zZ t]
theorem Ni{α β:Type}{R R':α->β->Prop}(f:∀a b,R a b->R' a b):∀{l:List α}{m:List β},dn R l m->dn R' l m
 |_,_,.nil=>.nil
 |_,_,.cons h t=>.cons (f _ _ h) (Ni f t)
theorem Pa(I:aF X BI σ H s)(hu:X.A.units+8<cLine){l:Addr}{ts:List V}{kss:AZ}{its:BA}{Q:VK}(rv:bA ts its)(hr:qS X.K H ts kss)(h64:ts.length<64)(nd:kss.Nodup)
  (hcol:∀(Q':BA->aa->Prop)(E':Value->aa->Prop),(∀h1 tk,(∀b o',s.heap.get? b=some o'->h1.get? b=some o')->Q' its {s with heap:=h1,toks:=tk})->wpAny (model X.prog X.w) X.A.in1 (collect (.ref l)) Q' E' s)
  (q:∀l p,H l=none->p.Perm (bj ts.length)->kR (pA kss) p->Q (.ref l) (aL H l (.lst (p.map λi=>ts.getD i .non)))):
  wpAny (model X.prog X.w) X.A (call (.builtin "sorted") [.ref l]) (EP X BI σ Q) X.xe s:=by
 obtain⟨hl,ht⟩:=hr;have hlen:=rv.length;have hi:its.length=kss.length:=by omega
 have tu:∀i,i<its.length->∃b o jts n,its.getD i bi=.ref b/\s.heap.get? b=some o/\o.cls=.type "tuple"/\o.data=.seq (fw jts) n/\dn (uH s.heap) (kss.getD i []) jts/\kss.getD i []≠[]:=λi hi=>by
  have hi':i<ts.length:=by omega
  obtain⟨b,c,e1,rp,ne⟩:=ht i ts[i] (av hi');obtain⟨v,e2,rel⟩:=rv.get (av hi');rw[e1]at rel;cases rel;obtain⟨o2,jts,m,ho2,hc2,hd2,pr⟩:=aba I rp;refine⟨b,o2,jts,m,?_,ho2,hc2,hd2,pr,ne⟩;rw[cf,e2];rfl
 refine Xx (κ:=tuples' false) (lt:=pA kss) (by omega) (by rw[hi];exact abX vH [] nd) (λh1 tk a k1 ha h2=>?_) hcol λh1 h' c tk p hp hup k1 k2 e=>?_
 .intro h' tk2 E kp
  have kp2:∀b o,s.heap.get? b=some o->h'.get? b=some o:=λb o hb=>kp b o (λz=>by
   rw[z,ha]at hb;cases hb) (k1 b o hb)
  have tu2:∀i,i<its.length->∃b o jts n,its.getD i bi=.ref b/\h'.get? b=some o/\o.cls=.type "tuple"/\o.data=.seq (fw jts) n/\dn (uH h') (kss.getD i []) jts/\kss.getD i []≠[]:=λi hi=>by
   obtain⟨b,o,jts,n,e,ho,hc,hd,pr,ne⟩:=tu i hi;refine⟨b,o,jts,n,e,kp2 b o ho,hc,hd,Ni (λk v ⟨b',e',o',i',n',g1,g2,g3,g4⟩=>⟨b',e',o',i',n',kp2 _ _ g1,g2,g3,g4⟩) pr,ne⟩
  refine⟨λQ q=>?_,λi j C hi hj hC=>?_⟩
  .have go:∀(vs:BA)(o:Nat),vs=its.drop o->∃fs,KatTups h' vs fs/\fs.length=vs.length/\∀v∈fs,∃b oo,v=cr b/\h'.get? b=some oo/\oo.cls=.type "tuple":=by
    intro vs
    induction vs with
    |nil=>exact λ_ _=>⟨[],trivial,rfl,λ_ h=>absurd h gw⟩
    |cons v vs ih=>
     intro o eo;have lo:o<its.length:=by
      have:=congrArg qh eo;rw[qi,ca]at this;omega
     rw[qp lo]at eo;injection eo with ev er;obtain⟨fs,k,l,z⟩:=ih (o+1) er;obtain⟨b,oo,jts,n,e,ho,hc,hd,pr,ne⟩:=tu2 o lo;have e:its[o]=.ref b:=by simpa[cf,lo]using e
     rw[ev,e];cases hk:kss.getD o []with
     |nil=>exact absurd hk ne
     |cons x xs=>
      rw[hk]at pr;cases pr with
      |cons r1 t1=>
       obtain⟨b',e',oo',i',n',g1,g2,g3,g4⟩:=r1;subst e';refine⟨.ref b'::fs,t9 ho hc hd (by simp) k,by simp[l],λy hy=>?_⟩;rcases cj.mp hy with rfl |hy
       .exact⟨b',oo',rfl,g1,g2⟩
       .exact z y hy
   obtain⟨fs,kt,lf,qf⟩:=go its 0 rfl;refine PySem.W.kat_kind (s:={s with heap:=h',toks:=tk2}) (T:=.type "tuple") kt (by omega) (λv hv=>?_) rfl ?_
   .obtain⟨b,oo,rfl,g1,g2⟩:=qf v hv
    exact λA Q E s' k q=>wm (T:="tuple") ⟨oo,k _ _ g1,g2⟩ q
   .have bt:(kl "tuple" !=kl "tuple")=false:=by decide
    rw[bt];exact q
  .obtain⟨b,o,jts,n,e,ho,hc,hd,pr,_⟩:=tu2 i hi
   obtain⟨b2,o2,jts2,n2,e2,ho2,hc2,hd2,pr2,_⟩:=tu2 j hj;show wpAny _ _ (keyLt' (tuples' false) (its.getD i bi) (its.getD j bi)) C _ _;rw[e,e2];refine PySem.W.kat_lt (s:={s with heap:=h',toks:=tk2}) ho hd ho2 hd2 ?_;refine Gn (s:={s with heap:=h',toks:=tk2}) (show X.A.units+2<cLine by omega) (kss.getD i []) (kss.getD j []) jts jts2 0 _ pr pr2 ?_ hC;rw[au,au,zZ pr,zZ pr2]
 .have I1:aF X BI σ H {s with heap:=h1,toks:=tk}:=I.kept k1
  have hz2:(p.map λi=>ts.getD i .non).length<=sizeLine:=by
   rw[ao,hp.length_eq,ng,ik];omega
  refine⟨.ref h1.objs.size,_,I1.laid (t':=tk) (o:=.lst (p.map λi=>ts.getD i .non)) k2 (aj _) ?_,rfl,q _ p (I1.hok.fresh (aj _)) (by rw[hlen];exact hp) hup⟩;exact⟨hz2,_,c,Ej rv p,e⟩
theorem Ax(hu:X.A.units+8<cLine):iF X (.builtin "sorted") (λxs H Q=>∃(a:Addr)(ts:List V)(kss:AZ),xs=[.ref a]/\(bV X.K H a ts\/cT X.K H a ts)/\qS X.K H ts kss/\ts.length<64/\kss.Nodup/\
  ∀l p,H l=none->p.Perm (bj ts.length)->kR (pA kss) p->Q (.ref l) (aL H l (.lst (p.map λi=>ts.getD i .non)))):=by
 intro BI s σ H xs us Q I r h;obtain⟨a,ts,uss,rfl,hq,hr,h64,nd,q⟩:=h;obtain⟨u,rfl,ru⟩:=jG r;cases ru;rcases hq with hq |hq
 .obtain⟨its,rv,pl,hz⟩:=I.list hq
  obtain⟨o,ho,hc,n,hd⟩:=pl.isList;exact Pa I hu rv hr h64 nd (λQ' E' h=>yi a (.inl rfl) ho hc hd (λh1 k1=>h h1 s.toks k1) (by rw[au,<-rv.length];exact hz)) q
 .obtain⟨its,rv,⟨o,ho,hc,n,hd⟩,hz⟩:=I.tuple hq
  exact Pa I hu rv hr h64 nd (λQ' E' h=>yi a (.inr rfl) ho hc hd (λh1 k1=>h h1 s.toks k1) (by rw[au,<-rv.length];exact hz)) q
theorem Rv(hu:X.A.units+8<cLine)(hc:X.calm=true):iF X (.builtin "sorted") (λxs H Q=>∃(a:Addr)(n:Bool)(ks:BE)(rs:List V)(us:BA)(kss:AZ),xs=[.ref a]/\jP H a n ks rs us/\qS X.K H rs kss/\rs.length<64/\kss.Nodup/\
  ∀l p,H l=none->p.Perm (bj rs.length)->kR (pA kss) p->Q (.ref l) (aL H l (.lst (p.map λi=>rs.getD i .non)))):=by
 intro BI s σ H xs us Q I r h;obtain⟨a,n,ks,rs,us',uss,rfl,d,hr,h64,nd,q⟩:=h;obtain⟨u,rfl,ru⟩:=jG r;cases ru;obtain⟨ys,ep,e,z,l,nd2,rfl,rfl,rfl⟩:=d;have ev:bA (ys.map λx=>V.ref x.2.1) (ys.map λx=>cr x.2.1):=by
  clear q hr h64 e l nd2
  induction ys with
  |nil=>exact .nil
  |cons y ys ih=>exact .cons rfl ih
 refine Pa I hu ev hr h64 nd (λQ' E' h=>?_) q;refine Hw (Ks z) (show X.A.in1.handled=none from I.ok.hd hc) (xN I e) (by simpa using l) λh' tk acc k1 hi=>?_;have e1:acc.toList=ys.map λx=>cr x.2.1:=by
  refine jf λj=>?_;have hz:acc.size=ys.length:=by simpa using hi.1
  by_cases hj:j<ys.length
  .obtain⟨_,ej⟩:=hi.2 j acc[j] (by simp[hz,hj])
   rw[ax,av hj,wv,yo (by omega),ej];simp[jD]
  .rw[kw (by simp;omega),kw (by simp;omega)]
 rw[e1];exact h h' tk k1
end
end L2
namespace L2.Pp
noncomputable section
open PySem PySem.Spec PyProof.Rows Bn
def nR(k:AY):PV:=.tup (k.map Rt)
def lZ:BE->Option AZ
 |[]=>some []
 |.tup us::r=>match iT us,lZ r with
  |some k,some ks=>some (k::ks)
  |_,_=>none
 |_::_=>none
open Classical in
def lN(xs:BE):BF:=match lZ xs with
 |some kss=>if kss.length<64/\kss.Nodup/\[]∉kss then some (.lst ((fM dC kss).map nR))else none
 |none=>none
def tG:BE->BF
 |[.lst xs]=>lN xs
 |[.tup xs]=>lN xs
 |_=>none
theorem rZ:∀{xs:BE}{kss:AZ},lZ xs=some kss->xs=kss.map nR
 |[],kss,e=>by cases e;rfl
 |.tup us::r,kss,e=>by
  unfold lZ at e;split at e
  .rename_i k ks h1 h2
   cases e;rw[rZ h2,Ko h1];rfl
  .cases e
 |.non::_,_,e=>by cases e
 |.bl _::_,_,e=>by cases e
 |.int _::_,_,e=>by cases e
 |.str _::_,_,e=>by cases e
 |.lst _::_,_,e=>by cases e
theorem Lj{xs:BE}{kss:AZ}(h:lZ xs=some kss):xs.length=kss.length:=by
 rw[rZ h,ao]
theorem Ro{kss:AZ}{p:List Nat}(hp:p.Perm (bj kss.length))(hu:kR (pA kss) p)(nd:kss.Nodup):(fM dC kss).map nR=p.map λi=>(kss.map nR).getD i .non:=by
 have e0:p.map (λi=>(kss.map nR).getD i .non)=(p.map λi=>kss.getD i []).map nR:=by
  rw[fe];refine dl λi hi=>?_;have:i<kss.length:=by
   have:=hp.subset hi;simpa using this
  simp[cf,this]
 rw[e0];congr 1;have e1:(bj kss.length).map (λi=>kss.getD i [])=kss:=by
  refine ue (by simp) λi h1 h2=>?_;simp[cf,h2]
 have pm:(p.map λi=>kss.getD i []).Perm kss:=by
  have:=hp.map (λi=>kss.getD i []);rw[e1]at this;exact this
 refine Xo vH ((qF kss).trans pm.symm) (wD vH kss nd) ?_;rw[AH];exact hu
section
variable{K:ag}
theorem Hj{c:Addr->Prop}{H:Hp}{xs:BE}{vs:List V}{kss:AZ}(hu:lZ xs=some kss)(r:aJ K c H xs vs)(ne:[]∉kss):qS K H vs kss:=by
 have ex:=rZ hu;subst ex;have l2:=r.length;rw[ao]at l2;refine⟨l2.symm,λi t h=>?_⟩;obtain⟨p,e1,e2⟩:∃p,(kss.map nR)[i]?=some p/\aI K c H p t:=by
  have hi:i<(kss.map nR).length:=by
   rw[ao,l2];exact(ce.mp h).1
  obtain⟨u,e1,e2⟩:=r.get (av hi);rw[h]at e1;cases e1;exact⟨_,av hi,e2⟩
 have hi:i<kss.length:=by
  rw[l2];exact(ce.mp h).1
 rw[ax,av hi]at e1;cases e1;have eg:kss.getD i []=kss[i]:=by simp[cf,hi]
 have e2:aI K c H (cC true kss[i]) t:=e2;obtain⟨b,rfl⟩:=Cc e2;rw[eg];exact⟨b,c,rfl,e2,λz=>ne (z▸iz hi)⟩
theorem U9:kD K (λxs H Q=>∃(a:Addr)(ts:List V)(kss:AZ),xs=[.ref a]/\(bV K H a ts\/cT K H a ts)/\qS K H ts kss/\ts.length<64/\kss.Nodup/\
  ∀l p,H l=none->p.Perm (bj ts.length)->kR (pA kss) p->Q (.ref l) (aL H l (.lst (p.map λi=>ts.getD i .non)))) tG:=λ{p S H as c xs Q} s ra e k=>by
 have key:∀(zs:BE)(a:Addr)(vs:List V),lN zs=some c->(bV K H a vs\/cT K H a vs)->aJ K p.c H zs vs->∃(a':Addr)(ts:List V)(kss:AZ),[V.ref a]=[.ref a']/\(bV K H a' ts\/cT K H a' ts)/\qS K H ts kss/\ts.length<64/\kss.Nodup/\
   ∀l p,H l=none->p.Perm (bj ts.length)->kR (pA kss) p->Q (.ref l) (aL H l (.lst (p.map λi=>ts.getD i .non))):=λzs a vs e sq r=>by
  unfold lN at e;split at e
  .rename_i uss hu
   split at e
   .rename_i hc
    cases e;obtain⟨c1,c2,c3⟩:=hc;have l1:=Lj hu;have l2:=r.length;refine⟨a,vs,uss,rfl,sq,Hj hu r c3,by omega,c2,λl ps hl hp hup=>?_⟩;refine k _ _ (gO hl) ?_;rw[Ro (by rw[<-l1,l2];exact hp) hup c2,<-rZ hu];refine lH s (vB r _) ?_ hl;rw[ao,hp.length_eq,ng,iD];omega
   .cases e
  .cases e
 unfold tG at e;split at e
 .rename_i zs
  cases ra with
  |cons h t=>
   cases t;obtain⟨a,vs,rfl,l,z,r⟩:=h.lst;exact key zs a vs e (.inl l) r
 .rename_i zs
  cases ra with
  |cons h t=>
   cases t;obtain⟨a,vs,rfl,l,z,r⟩:=h.tup;exact key zs a vs e (.inr l) r
 .cases e
end
def wV(d:AV)(S:aG):bP AV:=match d with
 |.ref j=>(match S[j]? with
  |some (.dol _ kvs)=>iB (lN (kvs.map (·.1))) S
  |_=>.fail)
 |_=>.fail
def wY(ms:MA):ME:=λρ S=>(ms ρ S).bind λds S1=>match ds with
 |[d]=>wV d S1
 |_=>.fail
section
variable{K:ag}{cl:Str->Addr}{E:XK}{X:Cx}{e:ah}{ms:MA}{pos:ai}
theorem N4{x:Str}{px:ai}(jR:X.A.units+8<cLine)(hc:X.calm=true)(hg:Gl X x)(hm:X.mg x=none)(hv:bootBuiltins x=some (.builtin "sorted"))(ha:eN K cl E X [e] ms)(hn:x≠"__name__":=by decide)(hdb:(x==("__debug__":Str))=false:=by decide)
  (he:starEach [e] X.env=(false,eval e X.env)::starEach [] X.env:=by rfl)(hpl:(backTo pos (starEach [] X.env)).any (·.1)=false:=by rfl):aS K cl E X (.Call (.Name x px) [e] [] pos) (wY ms):=by
 intro hK;subst hK;refine PE.imp (vK (Rv jR hc) hg hm hv (ha rfl) hn hdb he hpl) ?_
 rintro σ H Q ⟨p,S,ρ,s,ev,h⟩
 refine bY s ev h λq H1 ds xs S1 st s1 e1 r1 h1=>?_;cases r1 with
 |nil=>exact h1.elim
 |cons r1 rr=>
  cases rr with
  |cons _ _=>exact h1.elim
  |nil=>
   rename_i d x;cases d with
   |pv _=>exact h1.elim
   |ref j=>
    obtain⟨a,ej,rfl⟩:=r1;have h1:bU X.K cl (bZ X.K) q H1 (wV (.ref j) S1) Q E:=h1;unfold wV at h1;dsimp only at h1;split at h1
    .rename_i n kvs hS
     obtain⟨bs,d,_⟩:=s1.obj j a _ ej hS;obtain⟨rs,dw,rr⟩:=xA d;obtain⟨c,ec,k⟩:=oO s1 h1;unfold lN at ec;split at ec
     .rename_i uss hu
      split at ec
      .rename_i hcc
       cases ec;obtain⟨c1,c2,c3⟩:=hcc;have l1:=Lj hu;have l2:=rr.length;refine⟨a,n,_,rs,_,uss,rfl,dw,Hj hu rr c3,by omega,c2,λl ps hl hp hup=>?_⟩;refine k _ _ (gO hl) ?_;rw[Ro (by rw[<-l1,l2];exact hp) hup c2,<-rZ hu];refine lH s1 (vB rr _) ?_ hl;rw[ao,hp.length_eq,ng,iD];omega
      .cases ec
     .cases ec
    .exact h1.elim
end
end
open PySem
theorem abw:bootBuiltins "len"=some (.builtin "len"):=by decide+kernel
theorem abC:bootBuiltins "abs"=some (.builtin "abs"):=by decide+kernel
theorem abe:bootBuiltins "all"=some (.builtin "all"):=by decide+kernel
theorem aaV:bootBuiltins "sum"=some (.builtin "sum"):=by decide+kernel
theorem Ia:bootBuiltins "sorted"=some (.builtin "sorted"):=by decide+kernel
theorem Vr:bootBuiltins "int"=some (.type "int"):=by decide+kernel
theorem U6:bootBuiltins "bool"=some (.type "bool"):=by decide+kernel
theorem Wn:bootBuiltins "list"=some (.type "list"):=by decide+kernel
theorem Nm:bootBuiltins "tuple"=some (.type "tuple"):=by decide+kernel
end L2.Pp
set_option Elab.async false
set_option compiler.extract_closed false
set_option bootstrap.genMatcherCode false
set_option maxRecDepth 100000
set_option maxHeartbeats 4000000
namespace Sc
noncomputable section
open PySem L2 Bn L2.Pp
abbrev Kr:Stmt:=aY 4
abbrev Ek:Stmt:=aY 5
abbrev Jk:Stmt:=aY 6
abbrev Rg:Stmt:=aY 7
abbrev rX:Stmt:=aY 8
abbrev Ur:Stmt:=aY 9
abbrev Wo:Stmt:=aY 10
abbrev Gg:Stmt:=aY 12
abbrev Ol:Stmt:=aY 13
abbrev Kn:Stmt:=aY 17
abbrev Fo:Stmt:=aY 19
abbrev Ho:Stmt:=aY 21
abbrev Vg:Stmt:=aY 22
abbrev Qg:Stmt:=aY 23
abbrev Kk:Stmt:=aY 24
abbrev Hh:Stmt:=aY 25
abbrev Dh:Stmt:=aY 26
abbrev Iq:Stmt:=aY 28
abbrev Vp:Stmt:=aY 29
abbrev Jr:Stmt:=aY 30
abbrev Ui:Stmt:=aY 31
abbrev Sj:Stmt:=aY 32
abbrev El:Stmt:=aY 33
abbrev Mn:Stmt:=aY 34
abbrev Gr:Stmt:=aY 35
abbrev Tj:Stmt:=aY 36
abbrev Aq:Stmt:=aY 37
abbrev Yl:Stmt:=aY 38
abbrev Cr:Stmt:=aY 39
abbrev Lo:Stmt:=aY 40
abbrev Fr:Stmt:=aY 41
abbrev Pi:Stmt:=aY 42
abbrev Pm:Stmt:=aY 43
abbrev Ch:Stmt:=aY 45
abbrev Xq:Stmt:=aY 44
abbrev To:Stmt:=aY 46
abbrev Yg:Stmt:=aY 47
abbrev Rr:Stmt:=aY 48
abbrev Sh:Stmt:=aY 49
abbrev Zn:Stmt:=aY 50
abbrev Cp:Stmt:=aY 51
abbrev Xi:Stmt:=aY 52
abbrev Ri:Stmt:=aY 53
abbrev Ai:Stmt:=aY 54
abbrev Jg:Stmt:=aY 55
abbrev Bh:Stmt:=aY 56
abbrev Eg:Stmt:=aY 57
abbrev Bg:Stmt:=aY 58
abbrev oM:Stmt:=aY 59
abbrev Wg:Stmt:=aY 60
abbrev nO:Stmt:=aY 61
def Dd:MS:=(aK (cS (bJ (aC eY (aA 0) (mC (.int 0)))) (bG (mC (.int 1))) dZ)
 (aK (cS (bJ (aC kO (aA 0) (mC (.int 0)))) (bG (cL dD (mC (.int 1)))) dZ)
 (bG (mC (.int 0)))))
def qO:FM:=aW 1 1 Dd
def Ka:MS:=(aK (mF (bJ (aC gH (aA 1) (mC (.int 0)))) (aK (aZ 2 (aC fY (aA 0) (aA 1)))
 (aK (aZ 0 (aA 1))
 (aZ 1 (aA 2)))))
 (bG (mR pI (aB (aA 0) aD))))
def pW:FM:=aW 2 3 Ka
def Ga:MS:=(aK (aZ 1 (mC (.int 0)))
 (aK (bX (bR (aA 0)) (gN 2) (aZ 1 (aT pW [] (aB (aA 1) (aB (aA 2) aD)))))
 (bG (bT ["number"] [(1,"common")] (bR (aA 0)) (gN 0) (aC gG (aA 0) (aA 1))))))
def uX:FM:=aW 1 3 Ga
def zE:MS:=(aK (aZ 1 (aC aE (kH ["number"] [] (bR (aA 0)) (gN 0) (bJ (aC gH (aA 0) (mC (.int 0)))) (aA 0)) (mC (.int 0))))
 (bG (mR iN (aB (bT ["number"] [(1,"first")] (bR (aT uX [] (aB (aA 0) aD))) (gN 0) (aC aX (aT qO [] (aB (aA 1) aD)) (aA 0))) aD))))
def rQ:FM:=aW 1 2 zE
def Da:MS:=(aK (cS (bJ (aC dM (aA 1) (mC (.int 0)))) (Ld "NoNumber") dZ)
 (aK (aZ 2 (aC aX (aT qO [] (aB (aA 1) aD)) (aT pW [] (aB (aA 0) (aB (aA 1) aD)))))
 (bG (mN dX (aB (aC gG (aA 0) (aA 2)) (aB (aC gG (aA 1) (aA 2)) aD))))))
def oG:FM:=aW 2 3 Da
def Cd:MS:=(bG (oY oG [] (aB (aC aH (aC aX (aC aE (aA 0) (mC (.int 0))) (aC aE (aA 1) (mC (.int 1)))) (aC aX (aC aE (aA 1) (mC (.int 0))) (aC aE (aA 0) (mC (.int 1))))) (aB (aC aX (aC aE (aA 0) (mC (.int 1))) (aC aE (aA 1) (mC (.int 1)))) aD))))
def oU:FM:=aW 2 2 Cd
def Lc:MS:=(aK (mF (bJ (aC eY (mR cZ (aB (aA 0) aD)) (mC (.int 1)))) (aK (aZ 1 (bT ["one","other"] [] (gK (aB (mI (aA 0) eA eA (2)) (aB (mI (aA 0) (fK (mC (.int 1))) eA (2)) aD))) (gT 2 (bH (gN 0) (bH (gN 1) cP))) (aT oU [] (aB (aA 0) (aB (aA 1) aD)))))
 (aZ 0 (aC aH (aA 1) (fZ (aA 0) (fK (aC aX (mC (.int 2)) (mR cZ (aB (aA 1) aD)))) eA)))))
 (bG (uC (tZ (aA 0)) (aC aE (aA 0) (mC (.int 0))) (mN dX (aB (mC (.int 0)) (aB (mC (.int 1)) aD))))))
def sL:FM:=aW 1 2 Lc
def yZ:MS:=(bG (bT ["near","far"] [(0,"start"),(1,"end")] (gK (aB (fZ (aA 0) eA (fK (cL dD (mC (.int 1))))) (aB (fZ (aA 1) eA (fK (cL dD (mC (.int 1))))) aD))) (gT 2 (bH (gN 0) (bH (gN 1) cP))) (aC eE (aC aX (aA 1) (aC aE (aA 2) (cL dD (mC (.int 1))))) (aC aX (aA 0) (aC aE (aA 3) (cL dD (mC (.int 1))))))))
def pP:FM:=aW 2 2 yZ
def Nb:MS:=(aK (aZ 1 (aC aE (aA 0) (mC (.int 0))))
 (aK (cS (bJ (aC dM (mR cZ (aB (aA 0) aD)) (mC (.int 1)))) (bG (mN fU (aB (cL dD (aC aE (aA 1) (mC (.int 1)))) (aB (aC aE (aA 1) (mC (.int 0))) aD)))) dZ)
 (aK (aZ 2 (aC aE (aA 0) (mC (.int 1))))
 (bG (mN fU (aB (aC eE (aC aX (aC aE (aA 1) (mC (.int 1))) (aC aE (aA 2) (mC (.int 2)))) (aC aX (aC aE (aA 1) (mC (.int 2))) (aC aE (aA 2) (mC (.int 1))))) (aB (aC eE (aC aX (aC aE (aA 1) (mC (.int 2))) (aC aE (aA 2) (mC (.int 0)))) (aC aX (aC aE (aA 1) (mC (.int 0))) (aC aE (aA 2) (mC (.int 2))))) (aB (aC eE (aC aX (aC aE (aA 1) (mC (.int 0))) (aC aE (aA 2) (mC (.int 1)))) (aC aX (aC aE (aA 1) (mC (.int 1))) (aC aE (aA 2) (mC (.int 0))))) aD))))))))
def vI:FM:=aW 1 3 Nb
def Fc:MS:=(aK (aZ 1 (uC (bJ (aC dM (mR cZ (aB (aA 0) aD)) (mC (.int 3)))) (mC (.tup [.tup [.int 0,.int 1],.tup [.int 1,.int 2],.tup [.int 2,.int 0]])) (mC (.tup [.tup [.int 1,.int 2,.int 3],.tup [.int 0,.int 3,.int 2],.tup [.int 0,.int 1,.int 3],.tup [.int 0,.int 2,.int 1]]))))
 (bG (bT ["wall"] [(0,"piece")] (bR (aA 1)) (gN 0) (mR iN (aB (bT ["k"] [(1,"piece")] (bR (aA 0)) (gN 0) (aC aE (aA 1) (aA 0))) aD)))))
def oN:FM:=aW 1 2 Fc
def Ic:MS:=(aK (cS (bJ (aC dM (mR cZ (aB (aA 0) aD)) (mC (.int 2)))) (bG (mN fU (aB (aA 0) aD))) dZ)
 (bG (bT ["k"] [(0,"wall")] (dB (aB (mR cZ (aB (aA 0) aD)) aD)) (gN 0) (mN dX (aB (aC aE (aA 1) (aC eE (aA 0) (mC (.int 1)))) (aB (aC aE (aA 1) (aA 0)) aD))))))
def sM:FM:=aW 1 1 Ic
def Pc:MS:=(aK (aZ 2 (aT rQ [] (aB (aA 0) aD)))
 (aK (aZ 3 (aC aE (kH ["k"] [(2,"way")] (dB (aB (mR cZ (aB (aA 2) aD)) aD)) (gN 0) (bJ (aC gH (aC aE (aA 1) (aA 0)) (mC (.int 0)))) (aA 0)) (mC (.int 0))))
 (bG (mN dX (aB (aA 2) (aB (oY oG [] (aB (aC aE (aA 0) (aA 3)) (aB (aC aX (aC aE (aA 2) (aA 3)) (aA 1)) aD))) aD))))))
def sK:FM:=aW 2 4 Pc
def zG:MS:=(bG (aT sK [] (aB (aT pP [] (aB (aA 0) (aB (aA 1) aD))) (aB (aC aX (aC aE (aA 0) (cL dD (mC (.int 1)))) (aC aE (aA 1) (cL dD (mC (.int 1))))) aD))))
def pQ:FM:=aW 2 2 zG
def zC:MS:=(aK (aZ 1 (aC aE (aA 0) (mC (.int 0))))
 (aK (aZ 2 (aT vI [] (aB (bT ["p"] [(1,"first")] (bR (fZ (aA 0) (fK (mC (.int 1))) eA)) (gN 0) (aT pP [] (aB (aA 1) (aB (aA 0) aD)))) aD)))
 (bG (aT sK [] (aB (aA 2) (aB (aC aX (aC aX (aC aX (aC aX (mC (.int 2)) (aC aE (aA 1) (cL dD (mC (.int 1))))) (aC aE (aA 1) (cL dD (mC (.int 1))))) (aC aE (aC aE (aA 0) (mC (.int 1))) (cL dD (mC (.int 1))))) (aC aE (aC aE (aA 0) (mC (.int 2))) (cL dD (mC (.int 1))))) aD))))))
def oC:FM:=aW 1 3 zC
def Ab:MS:=(aK (aZ 1 (wS true))
 (aK (bX (bR (aA 0)) (gT 2 (bH (gN 2) (bH (gN 3) cP))) (dE (pH 1 2 3)))
 (aK (aZ 4 (bT ["key"] [(1,"parts")] (bR (wY (aB (aA 1) aD))) (gN 0) (mN dX (aB (aA 0) (aB (sN sL (aA 1) (aA 0)) aD)))))
 (bG (mR iN (aB (kH ["row"] [] (bR (aA 4)) (gN 0) (bJ (aC gH (aC aE (aA 0) (mC (.int 1))) (mN dX (aB (mC (.int 0)) (aB (mC (.int 1)) aD))))) (aA 0)) aD))))))
def sC:FM:=aW 1 5 Ab
def zI:MS:=(aK (aZ 1 (eT aD))
 (aK (bX (bR (aA 0)) (gN 2) (nM 1 (aT oN [] (aB (aA 2) aD))))
 (bG (aA 1))))
def pR:FM:=aW 1 3 zI
def zN:MS:=(aK (aZ 1 (eT aD))
 (aK (bX (bR (aT pR [] (aB (aA 0) aD))) (gN 2) (aK (aZ 3 (aC aE (aT oC [] (aB (aA 2) aD)) (mC (.int 0))))
 (bX (bR (aT sM [] (aB (aA 2) aD))) (gT 2 (bH (gN 4) (bH (gN 5) cP))) (aK (aZ 6 (aT pQ [] (aB (aA 4) (aB (aA 5) aD))))
 (dE (dI (aA 1) (aB (mN dX (aB (mN dX (aB (aA 3) (aB (aC aE (aA 6) (mC (.int 0))) aD))) (aB (aC aE (aA 6) (mC (.int 1))) aD))) aD)))))))
 (bG (sR sC (aB (aA 1) aD)))))
def oE:FM:=aW 1 7 zN
def Ud:MS:=(aK (aZ 1 (eT aD))
 (aK (bX (xT (aB (fZ (aA 0) eA (fK (mC (.int 63)))) aD)) (gT 2 (bH (gN 2) (bH (gN 3) cP))) (cS (bJ (aC rO (aA 3) (aC iA (mC (.int 10)) (mC (.int 18))))) (dE (dI (aA 1) (aB (aC eE (aA 3) (aC iA (mC (.int 10)) (mC (.int 18)))) aD))) (aK (aZ 4 (aC fY (aC aX (aC aH (aC aH (aC aH (aA 3) (aC aX (aC aX (mC (.int 7)) (aA 2)) (aA 2))) (aC aX (mC (.int 13)) (aA 2))) (mC (.int 5))) (mC (.int 48271))) (mC (.int 2147483647))))
 (aK (aZ 5 (aC fY (aC aX (aC aH (aC aH (aC aH (aA 3) (aC aX (aC aX (mC (.int 11)) (aA 2)) (aA 2))) (aC aX (mC (.int 17)) (aA 2))) (mC (.int 3))) (mC (.int 40692))) (mC (.int 2147483399))))
 (aK (aZ 6 (aC fY (aC aX (aC aH (aC aH (aC aH (aA 3) (aC aX (aC aX (mC (.int 5)) (aA 2)) (aA 2))) (aC aX (mC (.int 29)) (aA 2))) (mC (.int 8))) (mC (.int 39373))) (mC (.int 2147483587))))
 (aK (aZ 4 (aC fY (aC aX (aA 4) (mC (.int 52021))) (mC (.int 1000000007))))
 (aK (aZ 5 (aC fY (aC aX (aA 5) (mC (.int 30011))) (mC (.int 998244353))))
 (aK (aZ 6 (aC fY (aC aX (aA 6) (mC (.int 45989))) (mC (.int 1000000009))))
 (dE (dI (aA 1) (aB (aC aH (aC aX (aC aH (aC aX (aA 4) (mC (.int 998244353))) (aA 5)) (mC (.int 1000000009))) (aA 6)) aD)))))))))))
 (bG (aA 1))))
def sP:FM:=aW 1 7 Ud
def vX:MS:=(aK (mF (jL (bJ (aC eY (mR cZ (aB (aA 0) aD)) (mC (.int 0)))) (bJ (aC dM (aC aE (aA 0) (mC (.int 0))) (mC (.int 0))))) (dE (nQ (aA 0) (aB (mC (.int 0)) aD))))
 (aK (cS (bJ (aC dM (mR cZ (aB (aA 0) aD)) (mC (.int 0)))) (bG (mC (.int 0))) dZ)
 (aK (aZ 2 (aC fY (aC aE (aA 0) (mC (.int 0))) (aA 1)))
 (aK (oR (aA 0) (mC (.int 0)) (aC gG (aC aE (aA 0) (mC (.int 0))) (aA 1)))
 (bG (aA 2))))))
def dR:FM:=aW 2 3 vX
def Pd:MS:=(aK (aZ 0 (mR pI (aB (aA 0) aD)))
 (aK (aZ 1 (mR pI (aB (aA 1) aD)))
 (aK (mF (bJ (aC eY (aA 1) (mC (.int 0)))) (tU 0 1 (aB (aA 1) (aB (aC fY (aA 0) (aA 1)) aD))))
 (bG (aA 0)))))
def sY:FM:=aW 2 2 Pd
def Xa:MS:=(aK (aZ 1 (mC (.int 0)))
 (aK (bX (bR (aA 0)) (gN 2) (aZ 1 (aT sY [] (aB (aA 1) (aB (aA 2) aD)))))
 (aK (cS (bJ (aC dM (aA 1) (mC (.int 0)))) (bG (mR iN (aB (aA 0) aD))) dZ)
 (bG (mR iN (aB (bT ["_law_number"] [(1,"_law_by")] (bR (aA 0)) (gN 0) (aC gG (aA 0) (aA 1))) aD))))))
def kF:FM:=aW 1 3 Xa
def La:MS:=(aK (aZ 1 (aT kF [] (aB (aA 0) aD)))
 (aK (bX (bR (aA 1)) (gN 2) (aK (cS (bJ (aC eY (aA 2) (mC (.int 0)))) (bG (aA 1)) dZ)
 (cS (bJ (aC kO (aA 2) (mC (.int 0)))) (bG (mR iN (aB (bT ["_law_one"] [] (bR (aA 1)) (gN 0) (aC eE (mC (.int 0)) (aA 0))) aD))) dZ)))
 (bG (aA 1))))
def pZ:FM:=aW 1 3 La
def Bb:MS:=(bG (qY (cL (jZ "int") (aA 0)) (cL tY (cL (jZ "bool") (aA 0)))))
def vG:FM:=aW 1 1 Bb
def Rb:MS:=(aK (cS (bJ (aC kO (aA 1) (mC (.int 0)))) (bG (aT kF [] (aB (mN fU (aB (aC eE (mC (.int 0)) (aA 0)) (aB (aC eE (mC (.int 0)) (aA 1)) aD))) aD))) dZ)
 (bG (aT kF [] (aB (mN fU (aB (aA 0) (aB (aA 1) aD))) aD))))
def lG:FM:=aW 2 2 Rb
def Od:MS:=(bG (aT lG [] (aB (aC aH (aC aX (aC aE (aA 0) (mC (.int 0))) (aC aE (aA 1) (mC (.int 1)))) (aC aX (aC aE (aA 1) (mC (.int 0))) (aC aE (aA 0) (mC (.int 1))))) (aB (aC aX (aC aE (aA 0) (mC (.int 1))) (aC aE (aA 1) (mC (.int 1)))) aD))))
def tE:FM:=aW 2 2 Od
def Ja:MS:=(aK (aZ 3 (bT ["_law_k"] [(2,"_law_way"),(1,"_law_q"),(0,"_law_p")] (dB (aB (aC eE (mR cZ (aB (aA 0) aD)) (mC (.int 1))) aD)) (gN 0) (aC aH (aC aX (aC aX (aA 1) (aC aE (aA 3) (aA 0))) (aC aE (aA 2) (cL dD (mC (.int 1))))) (aC aX (aC aE (aA 2) (aA 0)) (aC aE (aA 3) (cL dD (mC (.int 1))))))))
 (bG (aT kF [] (aB (aC aH (aA 3) (mN fU (aB (aC aX (aC aE (aA 0) (cL dD (mC (.int 1)))) (aC aE (aA 1) (cL dD (mC (.int 1))))) aD))) aD))))
def mZ:FM:=aW 3 4 Ja
def Rc:MS:=(bG (bT ["_law_k"] [(1,"_law_q"),(0,"_law_p")] (dB (aB (aC eE (mR cZ (aB (aA 0) aD)) (mC (.int 1))) aD)) (gN 0) (aC eE (aC aX (aC aE (aA 1) (aA 0)) (aC aE (aA 2) (cL dD (mC (.int 1))))) (aC aX (aC aE (aA 2) (aA 0)) (aC aE (aA 1) (cL dD (mC (.int 1))))))))
def mE:FM:=aW 2 2 Rc
def Ob:MS:=(aK (aZ 2 (aC eE (aC aX (aC aE (aA 0) (mC (.int 1))) (aC aE (aA 1) (mC (.int 2)))) (aC aX (aC aE (aA 0) (mC (.int 2))) (aC aE (aA 1) (mC (.int 1))))))
 (aK (aZ 3 (aC eE (aC aX (aC aE (aA 0) (mC (.int 2))) (aC aE (aA 1) (mC (.int 0)))) (aC aX (aC aE (aA 0) (mC (.int 0))) (aC aE (aA 1) (mC (.int 2))))))
 (aK (aZ 4 (aC eE (aC aX (aC aE (aA 0) (mC (.int 0))) (aC aE (aA 1) (mC (.int 1)))) (aC aX (aC aE (aA 0) (mC (.int 1))) (aC aE (aA 1) (mC (.int 0))))))
 (bG (mN fU (aB (aA 2) (aB (aA 3) (aB (aA 4) aD))))))))
def sF:FM:=aW 2 5 Ob
def Jd:MS:=(bG (mR rC (aB (bT ["_law_one","_law_other"] [] (gK (aB (aA 0) (aB (aA 1) aD))) (gT 2 (bH (gN 0) (bH (gN 1) cP))) (aC aX (aA 0) (aA 1))) aD)))
def wN:FM:=aW 2 2 Jd
def qJ:MS:=(aK (cS (bJ (aC dM (mR cZ (aB (aA 0) aD)) (mC (.int 2)))) (bG (aC eE (aC aX (aC aE (aC aE (aA 0) (mC (.int 0))) (mC (.int 0))) (aC aE (aC aE (aA 0) (mC (.int 1))) (mC (.int 1)))) (aC aX (aC aE (aC aE (aA 0) (mC (.int 0))) (mC (.int 1))) (aC aE (aC aE (aA 0) (mC (.int 1))) (mC (.int 0)))))) dZ)
 (bG (aT wN [] (aB (aT sF [] (aB (aC aE (aA 0) (mC (.int 0))) (aB (aC aE (aA 0) (mC (.int 1))) aD))) (aB (aC aE (aA 0) (mC (.int 2))) aD)))))
def kG:FM:=aW 1 1 qJ
def wK:MS:=(bG (aT kG [] (aB (bT ["_law_p"] [(0,"_law_points")] (bR (fZ (aA 0) (fK (mC (.int 1))) eA)) (gN 0) (aT mE [] (aB (aC aE (aA 1) (mC (.int 0))) (aB (aA 0) aD)))) aD)))
def oS:FM:=aW 1 1 wK
def uR:MS:=(aK (aZ 1 (mR sO (aB (aA 0) aD)))
 (aK (cS (bJ (aC kO (aT oS [] (aB (aA 1) aD)) (mC (.int 0)))) (aZ 1 (aC aH (fZ (aA 1) eA (fK (cL dD (mC (.int 2))))) (mN fU (aB (aC aE (aA 1) (cL dD (mC (.int 1)))) (aB (aC aE (aA 1) (cL dD (mC (.int 2)))) aD))))) dZ)
 (bG (mR iN (aB (aA 1) aD)))))
def oH:FM:=aW 1 2 uR
def Cb:MS:=(aK (mP (gT 4 (bH (gN 1) (bH (gN 2) (bH (gN 3) (bH (gN 4) cP))))) (aA 0))
 (bG (mN fU (aB (mN dX (aB (aA 2) (aB (aA 3) (aB (aA 4) aD)))) (aB (mN dX (aB (aA 1) (aB (aA 4) (aB (aA 3) aD)))) (aB (mN dX (aB (aA 1) (aB (aA 2) (aB (aA 4) aD)))) (aB (mN dX (aB (aA 1) (aB (aA 3) (aB (aA 2) aD)))) aD)))))))
def lD:FM:=aW 1 5 Cb
def uO:MS:=(bG (aT kG [] (aB (bT ["_law_corner"] [(0,"_law_corners")] (bR (fZ (aA 0) (fK (mC (.int 1))) eA)) (gN 0) (bT ["_law_b","_law_c"] [] (gK (aB (aC aE (aA 1) (mC (.int 0))) (aB (aA 0) aD))) (gT 2 (bH (gN 0) (bH (gN 1) cP))) (aC eE (aA 1) (aA 0)))) aD)))
def mX:FM:=aW 1 1 uO
def Xc:MS:=(aK (aZ 3 (eT aD))
 (aK (bX (dB (aB (aC aH (aA 1) (mC (.int 1))) aD)) (gN 4) (dE (dI (aA 3) (aB (bT ["_law_m"] [(0,"_law_row_here"),(2,"_law_wide")] (dB (aB (aA 1) aD)) (gN 0) (aT dR [] (aB (aA 1) (aB (aC aH (aA 2) (mC (.int 1))) aD)))) aD))))
 (aK (cS (bJ (aC gH (aT mX [] (aB (aA 3) aD)) (mC (.int 0)))) (bG (aA 3)) dZ)
 (bG (bT ["_law_k"] [(1,"_law_dims")] (nC (aB (cL dD (mC (.int 1))) (aB (aA 1) aD))) (gN 0) (bT ["_law_m"] [(0,"_law_k")] (dB (aB (aA 1) aD)) (gN 0) (mR iW (aB (aC dM (aA 0) (aA 1)) aD))))))))
def lL:FM:=aW 3 5 Xc
def vU:MS:=(aK (aZ 1 (eT (aB (mC (.int 0)) (aB (mC (.int 1)) (aB (mC (.int 2)) aD)))))
 (aK (aZ 2 (eT (aB (mC (.int 0)) (aB (mC (.int 0)) (aB (mC (.int 0)) aD)))))
 (aK (aZ 3 (tV (aB (aA 2) aD)))
 (aK (bX (dB (aB (mC (.int 3)) aD)) (gN 4) (aK (oR (aA 2) (nQ (aA 1) (aB (aT dR [] (aB (aA 0) (aB (mR cZ (aB (aA 1) aD)) aD))) aD)) (mC (.int 1)))
 (dE (tR (aA 3) (aB (aA 2) aD)))))
 (aK (bX (dB (aB (mC (.int 3)) aD)) (gN 5) (cS (bJ (aC dM (aT dR [] (aB (aA 0) (aB (mC (.int 4)) aD))) (mC (.int 3)))) (pF 3 2 5) dZ))
 (bG (aA 3)))))))
def qL:FM:=pN 1 6 vU
def zL:MS:=(aK (aZ 3 (eT aD))
 (aK (bX (dB (aB (aT dR [] (aB (aA 0) (aB (aC aH (aA 2) (mC (.int 1))) aD))) aD)) (gN 4) (aK (aZ 5 (aT dR [] (aB (aA 0) (aB (mC (.int 6)) aD))))
 (cS (jL (bJ (aC dM (aA 5) (mC (.int 5)))) (bJ (aC eY (mR cZ (aB (aA 3) aD)) (mC (.int 0))))) (dE (dI (aA 3) (aB (aC aE (aA 3) (cL dD (mC (.int 1)))) aD))) (cS (bJ (aC dM (aA 1) (mC (.int 2)))) (dE (dI (aA 3) (aB (aT lL [] (aB (aA 0) (aB (mC (.int 2)) (aB (aC aH (mC (.int 1)) (mR iW (aB (aC dM (aA 5) (mC (.int 4))) aD))) aD)))) aD))) (cS (bJ (aC eY (aA 5) (mC (.int 3)))) (dE (dI (aA 3) (aB (aT lL [] (aB (aA 0) (aB (mC (.int 3)) (aB (mC (.int 1)) aD)))) aD))) (dE (dI (aA 3) (aB (aT qL [] (aB (aA 0) aD)) aD))))))))
 (bG (aA 3))))
def rS:FM:=aW 3 6 zL
def Yc:MS:=(aK (aZ 2 (aT dR [] (aB (aA 0) (aB (mC (.int 4)) aD))))
 (aK (aZ 3 (aC aE (mN fU (aB (mC (.int 0)) (aB (mC (.int 3)) (aB (mC (.int 9)) (aB (aC iA (mC (.int 10)) (mC (.int 12))) aD))))) (aA 2)))
 (aK (aZ 4 (aC aH (mC (.int 1)) (aC aX (aT dR [] (aB (aA 0) (aB (mC (.int 9)) aD))) (aC gG (aA 2) (mC (.int 2))))))
 (aK (aZ 5 (bT ["_law_k"] [(3,"_law_wide"),(0,"_law_row_here")] (dB (aB (aA 1) aD)) (gN 0) (aC eE (aT dR [] (aB (aA 2) (aB (aC aH (aC aX (mC (.int 2)) (aA 1)) (mC (.int 1))) aD))) (aA 1))))
 (bG (aT kF [] (aB (aC aH (aA 5) (mN fU (aB (aA 4) aD))) aD)))))))
def nF:FM:=aW 2 6 Yc
def zV:MS:=(aK (aZ 2 (eT aD))
 (aK (bX (dB (aB (aA 1) aD)) (gN 3) (aK (aZ 4 (aT dR [] (aB (aA 0) (aB (mC (.int 3)) aD))))
 (dE (dI (aA 2) (aB (aT lG [] (aB (aC aH (mC (.int 1)) (aT dR [] (aB (aA 0) (aB (aC aE (mN fU (aB (mC (.int 1)) (aB (mC (.int 7)) (aB (aC iA (mC (.int 10)) (mC (.int 9))) aD)))) (aA 4)) aD)))) (aB (aC aH (mC (.int 1)) (aT dR [] (aB (aA 0) (aB (aC aE (mN fU (aB (mC (.int 1)) (aB (mC (.int 7)) (aB (aC iA (mC (.int 10)) (mC (.int 6))) aD)))) (aA 4)) aD)))) aD))) aD)))))
 (bG (aA 2))))
def uV:FM:=aW 2 5 zV
def wC:MS:=(aK (aZ 2 (mC (.int 1)))
 (aK (bX (bR (aA 1)) (gN 3) (aZ 2 (aC aX (aA 2) (aC aE (aA 3) (mC (.int 1))))))
 (aK (aZ 4 (bT ["_law_number","_law_part"] [(2,"_law_under")] (gK (aB (aA 0) (aB (aA 1) aD))) (gT 2 (bH (gN 0) (bH (gN 1) cP))) (aC aX (aC aX (aA 0) (aC aE (aA 1) (mC (.int 0)))) (aC gG (aA 2) (aC aE (aA 1) (mC (.int 1)))))))
 (bG (aT kF [] (aB (aC aH (aA 4) (mN fU (aB (aA 2) aD))) aD))))))
def oP:FM:=aW 2 5 wC
def Ub:MS:=(aK (aZ 3 (eT aD))
 (aK (bX (bR (aA 1)) (gN 4) (aK (aZ 5 (aT nF [] (aB (aA 0) (aB (mR cZ (aB (aA 2) aD)) aD))))
 (dE (dI (aA 3) (aB (aT oH [] (aB (bT ["_law_corner"] [(5,"_law_far_here"),(2,"_law_stretch_here")] (bR (aA 4)) (gN 0) (aT mZ [] (aB (aT oP [] (aB (aA 0) (aB (aA 2) aD))) (aB (aA 1) (aB (mC (.int 1)) aD))))) aD)) aD)))))
 (bG (aA 3))))
def vT:FM:=aW 3 6 Ub
def vD:MS:=(aK (cS (bJ (aC dM (aT dR [] (aB (aA 0) (aB (mC (.int 2)) aD))) (mC (.int 1)))) (bG (mR iN (aB (aA 1) aD))) dZ)
 (bG (mR nI (aB (aA 1) aD))))
def pX:FM:=aW 2 2 vD
def Ra:MS:=(aK (aZ 1 (aT pZ [] (aB (aA 0) aD)))
 (aK (bX (gK (aB (aA 0) (aB (aA 1) aD))) (gT 2 (bH (gN 2) (bH (gN 3) cP))) (cS (bJ (aC gH (aA 3) (mC (.int 0)))) (bG (mN dX (aB (aA 1) (aB (aC gG (aA 2) (aA 3)) aD)))) dZ))
 (bG (mN dX (aB (aA 1) (aB (mC (.int 0)) aD))))))
def qB:FM:=aW 1 4 Ra
def Ea:MS:=(xB (aA 0) (aA 1) (aT tE [] (aB (xF (aA 0) (aB (aA 1) (aB (mN dX (aB (mC (.int 0)) (aB (mC (.int 1)) aD))) aD))) (aB (aA 2) aD))))
def rV:FM:=aW 3 3 Ea
def zF:MS:=(bG (mR iN (aB (kH ["_law_key"] [(0,"_law_table")] (bR (mR tG (aB (xD (aB (aA 0) aD)) aD))) (gN 0) (bJ (aC gH (aC aE (nS (aA 1) (aA 0)) (mC (.int 0))) (mC (.int 0)))) (mN dX (aB (aA 0) (aB (nS (aA 1) (aA 0)) aD)))) aD)))
def uM:FM:=aW 1 1 zF
def zJ:MS:=(aK (mP (gT 2 (bH (gN 5) (bH (gN 6) cP))) (aT qB [] (aB (aT mE [] (aB (aA 2) (aB (aA 3) aD))) aD)))
 (aK (aZ 7 (aA 5))
 (aK (cS (bJ (aC gH (aA 1) (mN dX aD))) (aZ 7 (mN dX (aB (aA 1) (aB (aA 5) aD)))) dZ)
 (dE (aT rV [] (aB (aA 0) (aB (aA 7) (aB (aT lG [] (aB (aC aX (aA 4) (aA 6)) (aB (aC aX (aC aE (aA 2) (cL dD (mC (.int 1)))) (aC aE (aA 3) (cL dD (mC (.int 1))))) aD))) aD))))))))
def pS:FM:=aW 5 8 zJ
def zA:MS:=(aK (mP (gT 3 (bH (gN 1) (bH (gN 2) (bH (gN 3) cP)))) (aA 0))
 (aK (mP (gT 2 (bH (gN 4) (bH (gN 5) cP))) (aT qB [] (aB (aT sF [] (aB (aT mE [] (aB (aA 1) (aB (aA 2) aD))) (aB (aT mE [] (aB (aA 1) (aB (aA 3) aD))) aD))) aD)))
 (bG (mN dX (aB (aA 4) (aB (aT lG [] (aB (aA 5) (aB (aC aX (aC aX (aC aX (aC aX (mC (.int 2)) (aC aE (aA 1) (mC (.int 3)))) (aC aE (aA 2) (mC (.int 3)))) (aC aE (aA 1) (mC (.int 3)))) (aC aE (aA 3) (mC (.int 3)))) aD))) aD))))))
def oB:FM:=aW 1 6 zA
def zB:MS:=(aK (aZ 1 (tI true))
 (aK (bX (bR (aA 0)) (gN 2) (bX (bR (aT lD [] (aB (aA 2) aD))) (gN 3) (aK (aZ 4 (aC aE (aT oB [] (aB (aA 3) aD)) (mC (.int 0))))
 (bX (dB (aB (mC (.int 3)) aD)) (gN 5) (dE (aT pS [] (aB (aA 1) (aB (aA 4) (aB (aC aE (aA 3) (aC eE (aA 5) (mC (.int 1)))) (aB (aC aE (aA 3) (aA 5)) (aB (mC (.int 1)) aD)))))))))))
 (bG (aA 1))))
def uL:FM:=aW 1 6 zB
def iS(r:FM):MS:=(aK (cS (bJ (cL oX (aA 1))) (aK (cS (uI (tW (bJ (cL oX (aA 0)))) (bJ (aC gH (mR cZ (aB (aA 0) aD)) (mR cZ (aB (aA 1) aD))))) (bG (mC (.bl false))) dZ)
 (bG (mR rA (aB (bT ["_law_one","_law_other"] [] (gK (aB (aA 0) (aB (aA 1) aD))) (gT 2 (bH (gN 0) (bH (gN 1) cP))) (aT r [] (aB (aA 0) (aB (aA 1) aD)))) aD)))) dZ)
 (bG (qY (aT vG [] (aB (aA 0) aD)) (aC dM (aA 0) (aA 1)))))
def Rh:FM:=aW 2 2 λ_ _=>.fail
def Zh:FM:=aW 2 2 (iS Rh)
def zU:FM:=aW 2 2 (iS Zh)
def uW:FM:=aW 2 2 (iS zU)
def zQ:FM:=aW 2 2 (iS uW)
def oK:FM:=aW 2 2 (iS zQ)
def uQ:MS:=(aK (cS (bJ (aC dM (mR cZ (aB (aA 1) aD)) (mC (.int 0)))) (bG (mN fU aD)) dZ)
 (bG (aT vT [] (aB (aA 0) (aB (aA 1) (aB (aT uV [] (aB (aA 0) (aB (aC eE (mR cZ (aB (aC aE (aA 1) (mC (.int 0))) aD)) (mC (.int 1))) aD))) aD))))))
def rT:FM:=aW 2 2 uQ
def Le:MS:=(aK (aZ 1 (qR sP [] (aB (aA 0) aD)))
 (aK (aZ 2 (aT rT [] (aB (aA 1) (aB (aT rS [] (aB (aA 1) (aB (mC (.int 3)) (aB (mC (.int 4)) aD)))) aD))))
 (aK (aZ 3 (aT uM [] (aB (qR uL [] (aB (aA 2) aD)) aD)))
 (aK (cS (tW (bJ (aT oK [] (aB (aT oE [] (aB (aT pX [] (aB (aA 1) (aB (aA 2) aD))) aD)) (aB (aA 3) aD))))) (bG (mC (.bl false))) dZ)
 (bG (qY (aT oK [] (aB (aT oE [] (aB (mR iN (aB (mI (aA 2) eA eA (-1)) aD)) aD)) (aB (aA 3) aD))) (aT oK [] (aB (aT oE [] (aB (mN fU aD) aD)) (aB (mN dX aD) aD)))))))))
def Ce:FM:=aW 1 4 Le
abbrev Hc(B:Bx):=cE B "sign" 1 ["number"] qO
abbrev zW(B:Bx):=cE B "divisor" 1 ["one","other"] pW
abbrev Qh(B:Bx):=cE B "reduced" 2 ["numbers"] uX
abbrev Ag(B:Bx):=cE B "lowest_way" 3 ["numbers"] rQ
abbrev zK(B:Bx):=CxB B "fraction" 2 ["top","bottom"] oG
abbrev Qp(B:Bx):=cE B "plus" 3 ["one","other"] oU
abbrev Yk(B:Bx):=cE B "total" 4 ["parts"] sL
abbrev yY(B:Bx):=cE B "whole_arrow" 1 ["start","end"] pP
abbrev Yi(B:Bx):=cE B "normal" 1 ["arrows"] vI
abbrev Gm(B:Bx):=cE B "walls" 1 ["piece"] oN
abbrev Zm(B:Bx):=cE B "sides" 1 ["wall"] sM
abbrev Gb(B:Bx):=cE B "along" 4 ["numbers","bottom"] sK
abbrev Fg(B:Bx):=cE B "side_share" 5 ["start","end"] pQ
abbrev Dg(B:Bx):=cE B "wall_share" 5 ["wall"] oC
abbrev Bj(B:Bx):=cE B "summed" 5 ["rows"] sC
abbrev Og(B:Bx):=cE B "all_walls" 2 ["heap"] pR
abbrev Lg(B:Bx):=cE B "edge_sums" 6 ["heap"] oE
abbrev Yp(B:Bx):=cE B "_law_row" 1 ["_law_script"] sP
abbrev oJ(B:Bx):=cE B "_law_take" 1 ["_law_row_here","_law_many"] dR
abbrev On(B:Bx):=cE B "_law_gcd" 1 ["_law_one","_law_other"] sY
abbrev pU(B:Bx):=cE B "_law_lowest" 2 ["_law_numbers"] kF
abbrev Ei(B:Bx):=cE B "_law_upward" 3 ["_law_numbers"] pZ
abbrev qE(B:Bx):=cE B "_law_whole" 1 ["_law_number"] vG
abbrev sD(B:Bx):=cE B "_law_frac" 3 ["_law_top","_law_bottom"] lG
abbrev Bo(B:Bx):=cE B "_law_sum" 4 ["_law_one","_law_other"] tE
abbrev Uh(B:Bx):=cE B "_law_joined" 3 ["_law_p","_law_q","_law_way"] mZ
abbrev vY(B:Bx):=cE B "_law_gap" 1 ["_law_p","_law_q"] mE
abbrev Ha(B:Bx):=cE B "_law_cross" 1 ["_law_u","_law_v"] sF
abbrev Np(B:Bx):=cE B "_law_dot" 1 ["_law_u","_law_v"] wN
abbrev Za(B:Bx):=cE B "_law_turn" 2 ["_law_ways"] kG
abbrev Go(B:Bx):=cE B "_law_det" 3 ["_law_points"] oS
abbrev Gh(B:Bx):=cE B "_law_simplex" 4 ["_law_points"] oH
abbrev Oj(B:Bx):=cE B "_law_shuts" 1 ["_law_points"] lD
abbrev Kg(B:Bx):=cE B "_law_raw_turn" 3 ["_law_corners"] mX
abbrev Kp(B:Bx):=cE B "_law_raw" 4 ["_law_row_here","_law_dims","_law_wide"] lL
abbrev Bl(B:Bx):=cE B "_law_kuhn" 2 ["_law_row_here"] qL
abbrev Sg(B:Bx):=cE B "_law_raw_heap" 5 ["_law_row_here","_law_dims","_law_many"] rS
abbrev Uo(B:Bx):=cE B "_law_far" 3 ["_law_row_here","_law_dims"] nF
abbrev Zg(B:Bx):=cE B "_law_stretch" 4 ["_law_row_here","_law_dims"] uV
abbrev Jm(B:Bx):=cE B "_law_spot" 3 ["_law_corner","_law_stretch_here"] oP
abbrev Vm(B:Bx):=cE B "_law_laid" 5 ["_law_row_here","_law_heap","_law_stretch_here"] vT
abbrev Ii(B:Bx):=cE B "_law_handed" 2 ["_law_row_here","_law_rows"] pX
abbrev Ca(B:Bx):=cE B "_law_way_of" 4 ["_law_numbers"] qB
abbrev Fh(B:Bx):=cE B "_law_put_sum" 5 ["_law_table","_law_key","_law_part"] rV
abbrev Hg(B:Bx):=cE B "_law_told_sums" 1 ["_law_table"] uM
abbrev Ng(B:Bx):=cE B "_law_put_side" 6 ["_law_table","_law_mark","_law_p","_law_q","_law_number"] pS
abbrev Xf(B:Bx):=cE B "_law_shut_share" 5 ["_law_shut"] oB
abbrev Wf(B:Bx):=cE B "_law_edge_table" 7 ["_law_heap"] uL
abbrev Uy(B:Bx):=cE B "_law_alike" 6 ["_law_told","_law_due"] oK
abbrev Pg(B:Bx):=cE B "_law_wide_far" 6 ["_law_row_here","_law_heap"] rT
structure Mg(mg:Str->BB):Prop where
 m_abs:mg "abs"=none
 m_all:mg "all"=none
 m_bool:mg "bool"=none
 m_enumerate:mg "enumerate"=none
 m_int:mg "int"=none
 m_isinstance:mg "isinstance"=none
 m_len:mg "len"=none
 m_list:mg "list"=none
 m_range:mg "range"=none
 m_sorted:mg "sorted"=none
 m_sum:mg "sum"=none
 m_tuple:mg "tuple"=none
 m_zip:mg "zip"=none
set_option hygiene false
local macro_rules | `(tactic|trivial)=> `(tactic|(first
 |(with_reducible show aS _ _ _ _ _ (pH _ _ _));exact abY (jR hr) rfl rfl rfl
 |(with_reducible show aS _ _ _ _ _ (cL oX _));refine aal rfl m.m_isinstance rfl m.m_tuple Nm ?_
 |(with_reducible show aS _ _ _ _ _ (wS _));exact O2 _
 |(with_reducible show aS _ _ _ _ _ (wY _));refine N4 (jR hr) rfl rfl m.m_sorted Ia ?_
 |(with_reducible show aS _ _ _ _ _ (mR tG _));refine qG (Ax (jR hr)) U9 rfl m.m_sorted Ia ?_
 |(with_reducible show aS _ _ _ _ _ (sN _ _ _));refine abB (jR hr) (by assumption) hr (by decide) rfl ?_ ?_
 |(with_reducible show eN _ _ _ _ _ aD);exact aaI
 |(with_reducible show eN _ _ _ _ _ (aB _ _));refine A7 ?_ ?_
 |(with_reducible show aS _ _ _ _ _ (aA _));exact aaJ _
 |(with_reducible show aS _ _ _ _ _ (mC (.int _)));(first |exact aaM |exact Jo rfl (by assumption))
 |(with_reducible show aS _ _ _ _ _ (mC (.bl _)));exact acp
 |(with_reducible show aS _ _ _ _ _ (mC (.tup _)));exact Jo rfl (by assumption)
 |(with_reducible show aS _ _ _ _ _ (cL dD _));refine acF Mr ac4 ?_
 |(with_reducible show aS _ _ _ _ _ (cL tY _));refine abJ ?_
 |(with_reducible show aS _ _ _ _ _ (aC aH _ _));refine qU aam ac2 ?_ ?_
 |(with_reducible show aS _ _ _ _ _ (aC eE _ _));refine qU Bs ac1 ?_ ?_
 |(with_reducible show aS _ _ _ _ _ (aC aX _ _));refine qU aar acA ?_ ?_
 |(with_reducible show aS _ _ _ _ _ (aC gG _ _));refine qU M2 abp ?_ ?_
 |(with_reducible show aS _ _ _ _ _ (aC fY _ _));refine qU Y5 acR ?_ ?_
 |(with_reducible show aS _ _ _ _ _ (aC iA _ _));refine qU abo acu ?_ ?_
 |(with_reducible show aS _ _ _ _ _ (aC aE _ _));refine acV ?_ ?_
 |(with_reducible show aS _ _ _ _ _ (aC dM _ _));refine sZ (Wr (jR hr)) Bu ?_ ?_ (lJ _)
 |(with_reducible show aS _ _ _ _ _ (aC gH _ _));refine sZ (Yq (jR hr)) Tt ?_ ?_ (lJ _)
 |(with_reducible show aS _ _ _ _ _ (aC kO _ _));refine sZ Zs Wt ?_ ?_ (lJ _)
 |(with_reducible show aS _ _ _ _ _ (aC eY _ _));refine sZ Dt Qt ?_ ?_ (lJ _)
 |(with_reducible show aS _ _ _ _ _ (aC rO _ _));refine sZ At Jt ?_ ?_ (lJ _)
 |(with_reducible show fP _ _ _ _ _ (bJ (aC dM _ _)));refine sJ (Wr (jR hr)) Bu ?_ ?_ (lJ _)
 |(with_reducible show fP _ _ _ _ _ (bJ (aC gH _ _)));refine sJ (Yq (jR hr)) Tt ?_ ?_ (lJ _)
 |(with_reducible show fP _ _ _ _ _ (bJ (aC kO _ _)));refine sJ Zs Wt ?_ ?_ (lJ _)
 |(with_reducible show fP _ _ _ _ _ (bJ (aC eY _ _)));refine sJ Dt Qt ?_ ?_ (lJ _)
 |(with_reducible show fP _ _ _ _ _ (bJ (aC rO _ _)));refine sJ At Jt ?_ ?_ (lJ _)
 |(with_reducible show fP _ _ _ _ _ (bJ _));refine aaH ?_
 |(with_reducible show fP _ _ _ _ _ (tZ _));refine aae ?_
 |(with_reducible show fP _ _ _ _ _ (tW _));refine U8 ?_
 |(with_reducible show fP _ _ _ _ _ (jL _ _));refine jO.pt ?_
 |(with_reducible show fP _ _ _ _ _ (uI _ _));refine jO.pt ?_
 |(with_reducible show jO _ _ _ _ _ (jL _ _));refine aax ?_ ?_
 |(with_reducible show jO _ _ _ _ _ (uI _ _));refine acb ?_ ?_
 |(with_reducible show jO _ _ _ _ _ _);(first |refine A5 ?_ |refine T6 ?_)
 |(with_reducible show aS _ _ _ _ _ (qY _ _));refine aaN ?_ ?_
 |(with_reducible show aS _ _ _ _ _ (uC _ _ _));refine acw ?_ ?_ ?_
 |(with_reducible show aS _ _ _ _ _ (mN dX _));refine aaY ?_
 |(with_reducible show aS _ _ _ _ _ (mN fU _));refine abn ?_
 |(with_reducible show aS _ _ _ _ _ (eT _));refine aab ?_
 |(with_reducible show aS _ _ _ _ _ (mI _ _ _ _));(first |refine Dr ?_ ?_ ?_ aaw (by decide) |refine Dr ?_ ?_ ?_ abM (by decide))
 |(with_reducible show aS _ _ _ _ _ (fZ _ _ _));refine acM ?_ ?_ ?_
 |(with_reducible show nZ _ _ _ _ _ eA);exact K8
 |(with_reducible show nZ _ _ _ _ _ (fK _));refine O8 ?_
 |(with_reducible show aS _ _ _ _ _ (xF _ _));refine S6 (jR hr) ?_ ?_
 |(with_reducible show aS _ _ _ _ _ (nS _ _));refine ab4 (jR hr) ?_ ?_
 |(with_reducible show aS _ _ _ _ _ (tI _));exact Q6 _
 |(with_reducible show aS _ _ _ _ _ (xD _));refine aaC rfl rfl m.m_list Wn ?_
 |(with_reducible show aS _ _ _ _ _ (tR _ _));refine X6 rfl rfl m.m_list ?_ ?_
 |(with_reducible show aS _ _ _ _ _ (tV _));refine abS rfl rfl m.m_list ?_
 |(with_reducible show aS _ _ _ _ _ (dI _ _));refine Mz ?_ ?_
 |(with_reducible show aS _ _ _ _ _ (nQ _ _));refine aaR ?_ ?_
 |(with_reducible show aS _ _ _ _ _ (sR _ _));refine ach (by assumption) hr (by decide) rfl ?_
 |(with_reducible show aS _ _ _ _ _ (oY _ [] _));refine ac8 (by assumption) hr (by decide) rfl ?_
 |(with_reducible show aS _ _ _ _ _ (aT _ [] _));refine aci (by assumption) hr (by decide) rfl ?_
 |(with_reducible show aS _ _ _ _ _ (qR _ [] _));refine adb (by assumption) hr (by decide) rfl ?_
 |(with_reducible show aS _ _ _ _ _ (cL (jZ "int") _));refine Yr (n:="int") rfl m.m_isinstance rfl m.m_int Vr ?_
 |(with_reducible show aS _ _ _ _ _ (cL (jZ "bool") _));refine Yr (n:="bool") rfl m.m_isinstance rfl m.m_bool U6 ?_
 |(with_reducible show aS _ _ _ _ _ (mR cZ _));refine qG Tv adc rfl m.m_len abw ?_
 |(with_reducible show aS _ _ _ _ _ (mR pI _));refine qG E9 aco rfl m.m_abs abC ?_
 |(with_reducible show aS _ _ _ _ _ (mR rA _));refine qG (G4 rfl) acs rfl m.m_all abe ?_
 |(with_reducible show aS _ _ _ _ _ (mR iN _));refine Qa Fv R6 rfl m.m_tuple Nm ?_
 |(with_reducible show aS _ _ _ _ _ (mR nI _));refine Qa zH aaq rfl m.m_list Wn ?_
 |(with_reducible show aS _ _ _ _ _ (mR iW _));refine Qa Lz acJ rfl m.m_int Vr ?_
 |(with_reducible show aS _ _ _ _ _ (mR rC _));refine qG (Ez rfl) acO rfl m.m_sum aaV ?_
 |(with_reducible show aS _ _ _ _ _ (mR sO _));refine qG Mx abN rfl m.m_sorted Ia ?_
 |(with_reducible show aS _ _ _ _ _ (bT _ _ _ _ _));(first |refine R0 (by first |exact Ee |exact Uc |exact Md) ?_ rfl (λ_ _ _ _=> ?_) (λ_ _ _ _=> ?_) |refine A3 aa2 ?_ rfl (λ_ _ _ _=> ?_) (λ_ _ _ _=> ?_))
 |(with_reducible show aS _ _ _ _ _ (kH _ _ _ _ _ _));refine M3 (by first |exact Ee |exact Uc |exact Md) ?_ rfl (λ_ _ _ _=> ?_) (λ_ _ _ _=> ?_) (λ_ _ _ _=> ?_)
 |(with_reducible show PIp _ _ _ _ _ _ (gK _));refine aaB rfl m.m_zip ?_
 |(with_reducible show PIp _ _ _ _ _ _ (xT _));refine N6 rfl m.m_enumerate ?_
 |(with_reducible show PIp _ _ _ _ _ _ (dB _));refine Wx rfl m.m_range ?_
 |(with_reducible show PIp _ _ _ _ _ _ (nC _));refine Ex rfl m.m_range ?_
 |(with_reducible show PIp _ _ _ _ _ _ (bR _));refine V8 ?_
 |(with_reducible show kY _ _ _ (gN _));exact J9 (by first |exact nd |(show(cF _ _).Nodup;decide+kernel)) rfl (by first |exact eh rfl |exact dk rfl)
 |(with_reducible show kY _ _ _ (gT _ _));refine aas rfl ?_
 |(with_reducible show rF _ _ _ cP);exact L7
 |(with_reducible show rF _ _ _ (bH _ _));refine Az ?_ ?_
 |(with_reducible show gR _ _ _ _ _ dZ);exact K6
 |(with_reducible show gR _ _ _ _ _ (aK _ _));refine Vy ?_ ?_
 |(with_reducible show gR _ _ _ _ _ _);refine O1 ?_
 |(with_reducible show eG _ _ _ _ _ (bG _));refine P7 ?_
 |(with_reducible show eG _ _ _ _ _ (cS _ _ _));refine aaL ?_ ?_ ?_
 |(with_reducible show eG _ _ _ _ _ (dE _));refine J8 ?_
 |(with_reducible show eG _ _ _ _ _ (Ld _));exact Gz rfl (by assumption) (by assumption)
 |(with_reducible show eG _ _ _ _ _ (aZ _ (bT _ _ _ _ _)));(first |refine E2 nd rfl (by first |exact eh rfl |exact dk rfl) (by first |exact Ee |exact Uc |exact Md) ?_ rfl (λ_ _ _ _=> ?_) (λ_ _ _ _=> ?_) |refine Do nd rfl (by first |exact eh rfl |exact dk rfl) ?_)
 |(with_reducible show eG _ _ _ _ _ (aZ _ _));refine Do nd rfl (by first |exact eh rfl |exact dk rfl) ?_
 |(with_reducible show eG _ _ _ _ _ (tU _ _ _));refine Z5 rfl nd rfl rfl (by decide) rfl rfl ?_ rfl
 |(with_reducible show eG _ _ _ _ _ (mP _ _));refine Z7 ?_ ?_
 |(with_reducible show eG _ _ _ _ _ (xB _ _ _));refine V4 (jR hr) ?_ ?_ ?_
 |(with_reducible show eG _ _ _ _ _ (oR _ _ _));refine Sz ?_ ?_ ?_
 |(with_reducible show eG _ _ _ _ _ (nM _ _));refine J3 nd rfl (by first |exact eh rfl |exact dk rfl) ?_
 |(with_reducible show eG _ _ _ _ _ (mF _ _));refine My (by first |exact yu |exact yw) ?_ ?_
 |(with_reducible show eG _ _ _ _ _ (pF _ _ _));exact aaj (by first |exact yu |exact yw) rfl nd rfl rfl rfl (by first |exact eh rfl |exact dk (eh rfl)) (by first |exact eh rfl |exact dk rfl) (by first |exact eh rfl |exact dk (eh rfl)) (by decide) (by decide)
 |(with_reducible show eG _ _ _ _ _ (bX _ _ _));refine R8 (by first |exact yu |exact yw) rfl ?_ ?_ ?_)<;>trivial)
set_option hygiene true
section
variable{B:Bx}(X:XG B.K B.mg)(m:Mg B.mg)
include X m
theorem V9(h:HF B.K "sign" Kr):Hc B:=cK (N:=["number"]) X h cG λnd _ _ _ _ _ _ _ hr=>by unfold Dd;trivial
theorem Lx(h:HF B.K "divisor" Ek):zW B:=cK (N:=["one","other","rest"]) X h cG λnd _ _ _ _ _ _ _ hr=>by unfold Ka;trivial
theorem Iy(h:HF B.K "reduced" Jk)(C_divisor:zW B):Qh B:=cK (N:=["numbers","common","number"]) X h cG λnd _ _ _ _ _ _ _ hr=>by unfold Ga;trivial
theorem Jv(h:HF B.K "lowest_way" Rg)(C_reduced:Qh B)(C_sign:Hc B):Ag B:=cK (N:=["numbers","first"]) X h cG λnd _ _ _ _ _ _ _ hr=>by unfold zE;trivial
theorem Ow{f:Addr}{fd:ck}{dsv:Array Value}(F:nT B.K "fraction" "fraction" rX f fd dsv)(C_sign:Hc B)(C_divisor:zW B)(q_NoNumber:B.mg "NoNumber"=some (.ref (B.cl "NoNumber")))(x_NoNumber:my B.K (B.cl "NoNumber") sT "ValueError.__new__"=true):eO B.P B.w B.K B.mg B.base (jS B.P B.w) 2 f fd ["top","bottom"] (mU B.K B.cl oG):=adH (N:=["top","bottom","common"]) F cG λnd _ _ _ _ _ _ _ hr=>by unfold Da;trivial
theorem aau(h:HF B.K "plus" Ur)(H_fraction:zK B):Qp B:=cK (N:=["one","other"]) X h cG λnd _ _ _ _ _ _ _ hr=>by unfold Cd;trivial
theorem N9(h:HF B.K "total" Wo)(C_plus:Qp B):Yk B:=cK (N:=["parts","pairs"]) X h cG λnd _ _ _ _ _ _ _ hr=>by unfold Lc;trivial
theorem Yu(h:HF B.K "whole_arrow" Gg):yY B:=cK (N:=["start","end"]) X h cG λnd _ _ _ _ _ _ _ hr=>by unfold yZ;trivial
theorem Jz(h:HF B.K "normal" Ol):Yi B:=cK (N:=["arrows","u","v"]) X h cG λnd _ _ _ _ _ _ _ hr=>by unfold Nb;trivial
theorem K9(h:HF B.K "walls" Kn)(gt_FLAT_WALLS:uJ B.K B.mg "FLAT_WALLS" (.tup [.tup [.int 0,.int 1],.tup [.int 1,.int 2],.tup [.int 2,.int 0]]))(gt_SPACE_WALLS:uJ B.K B.mg "SPACE_WALLS" (.tup [.tup [.int 1,.int 2,.int 3],.tup [.int 0,.int 3,.int 2],.tup [.int 0,.int 1,.int 3],.tup [.int 0,.int 2,.int 1]])):Gm B:=cK (N:=["piece","order"]) X h cG λnd _ _ _ _ _ _ _ hr=>by unfold Fc;trivial
theorem B9(h:HF B.K "sides" Fo):Zm B:=cK (N:=["wall"]) X h cG λnd _ _ _ _ _ _ _ hr=>by unfold Ic;trivial
theorem J5(h:HF B.K "along" Ho)(C_lowest_way:Ag B)(H_fraction:zK B):Gb B:=cK (N:=["numbers","bottom","way","place"]) X h cG λnd _ _ _ _ _ _ _ hr=>by unfold Pc;trivial
theorem Ev(h:HF B.K "side_share" Vg)(C_along:Gb B)(C_whole_arrow:yY B):Fg B:=cK (N:=["start","end"]) X h cG λnd _ _ _ _ _ _ _ hr=>by unfold zG;trivial
theorem Kv(h:HF B.K "wall_share" Qg)(C_normal:Yi B)(C_whole_arrow:yY B)(C_along:Gb B):Dg B:=cK (N:=["wall","first","arrow"]) X h cG λnd _ _ _ _ _ _ _ hr=>by unfold zC;trivial
theorem Wz(h:HF B.K "summed" Kk)(C_total:Yk B):Bj B:=cK (N:=["rows","parts","key","share","sums"]) X h cG λnd _ _ _ _ _ _ _ hr=>by unfold Ab;trivial
theorem Zv(h:HF B.K "all_walls" Hh)(C_walls:Gm B):Og B:=cK (N:=["heap","found","piece"]) X h cG λnd _ _ _ _ _ _ _ hr=>by unfold zI;trivial
theorem Vv(h:HF B.K "edge_sums" Dh)(C_all_walls:Og B)(C_wall_share:Dg B)(C_sides:Zm B)(C_side_share:Fg B)(C_summed:Bj B):Lg B:=cK (N:=["heap","rows","wall","plane","start","end","found"]) X h cG λnd _ _ _ _ _ _ _ hr=>by unfold zN;trivial
theorem V5(h:HF B.K "_law_row" Iq):Yp B:=cK (N:=["_law_script","_law_row_here","_law_k","_law_cell","_law_one","_law_two","_law_three"]) X h cG λnd _ _ _ _ _ _ _ hr=>by unfold Ud;trivial
theorem B4(h:HF B.K "_law_take" Vp):oJ B:=cK (N:=["_law_row_here","_law_many","_law_found"]) X h cG λnd _ _ _ _ _ _ _ hr=>by unfold vX;trivial
theorem Q5(h:HF B.K "_law_gcd" Jr):On B:=cK (N:=["_law_one","_law_other"]) X h cG λnd _ _ _ _ _ _ _ hr=>by unfold Pd;trivial
theorem Cy(h:HF B.K "_law_lowest" Ui)(C_wgcd:On B):pU B:=cK (N:=["_law_numbers","_law_by","_law_number"]) X h cG λnd _ _ _ _ _ _ _ hr=>by unfold Xa;trivial
theorem Qx(h:HF B.K "_law_upward" Sj)(C_wlowest:pU B):Ei B:=cK (N:=["_law_numbers","_law_told","_law_number"]) X h cG λnd _ _ _ _ _ _ _ hr=>by unfold La;trivial
theorem A0(h:HF B.K "_law_whole" El):qE B:=cK (N:=["_law_number"]) X h cG λnd _ _ _ _ _ _ _ hr=>by unfold Bb;trivial
theorem C0(h:HF B.K "_law_frac" Mn)(C_wlowest:pU B):sD B:=cK (N:=["_law_top","_law_bottom"]) X h cG λnd _ _ _ _ _ _ _ hr=>by unfold Rb;trivial
theorem Y6(h:HF B.K "_law_sum" Gr)(C_wfrac:sD B):Bo B:=cK (N:=["_law_one","_law_other"]) X h cG λnd _ _ _ _ _ _ _ hr=>by unfold Od;trivial
theorem Hy(h:HF B.K "_law_joined" Tj)(C_wlowest:pU B):Uh B:=cK (N:=["_law_p","_law_q","_law_way","_law_far_here"]) X h cG λnd _ _ _ _ _ _ _ hr=>by unfold Ja;trivial
theorem aaG(h:HF B.K "_law_gap" Aq):vY B:=cK (N:=["_law_p","_law_q"]) X h cG λnd _ _ _ _ _ _ _ hr=>by unfold Rc;trivial
theorem Kz(h:HF B.K "_law_cross" Yl):Ha B:=cK (N:=["_law_u","_law_v","_law_x","_law_y","_law_z"]) X h cG λnd _ _ _ _ _ _ _ hr=>by unfold Ob;trivial
theorem aaa(h:HF B.K "_law_dot" Cr):Np B:=cK (N:=["_law_u","_law_v"]) X h cG λnd _ _ _ _ _ _ _ hr=>by unfold Jd;trivial
theorem O0(h:HF B.K "_law_turn" Lo)(C_wdot:Np B)(C_wcross:Ha B):Za B:=cK (N:=["_law_ways"]) X h cG λnd _ _ _ _ _ _ _ hr=>by unfold qJ;trivial
theorem P8(h:HF B.K "_law_det" Fr)(C_wturn:Za B)(C_wgap:vY B):Go B:=cK (N:=["_law_points"]) X h cG λnd _ _ _ _ _ _ _ hr=>by unfold wK;trivial
theorem Jw(h:HF B.K "_law_simplex" Pi)(C_wdet:Go B):Gh B:=cK (N:=["_law_points","_law_told"]) X h cG λnd _ _ _ _ _ _ _ hr=>by unfold uR;trivial
theorem Qy(h:HF B.K "_law_shuts" Pm):Oj B:=cK (N:=["_law_points","_law_p","_law_q","_law_r","_law_s"]) X h cG λnd _ _ _ _ _ _ _ hr=>by unfold Cb;trivial
theorem Uv(h:HF B.K "_law_raw_turn" Ch)(C_wturn:Za B):Kg B:=cK (N:=["_law_corners"]) X h cG λnd _ _ _ _ _ _ _ hr=>by unfold uO;trivial
theorem aat(h:HF B.K "_law_raw" Xq)(C_wtake:oJ B)(C_wraw_turn:Kg B):Kp B:=cK (N:=["_law_row_here","_law_dims","_law_wide","_law_corners","_law_k"]) X h cG λnd _ _ _ _ _ _ _ hr=>by unfold Xc;trivial
theorem H0(h:HF B.K "_law_kuhn" To)(C_wtake:oJ B):Bl B:=mkL (N:=["_law_row_here","_law_rest","_law_corner","_law_corners","_law_k","_law_m"]) X h cG λnd _ _ _ _ _ _ _ hr=>by unfold vU;trivial
theorem Xv(h:HF B.K "_law_raw_heap" Yg)(C_wtake:oJ B)(C_wraw:Kp B)(C_wkuhn:Bl B):Sg B:=cK (N:=["_law_row_here","_law_dims","_law_many","_law_heap","_law_k","_law_kind"]) X h cG λnd _ _ _ _ _ _ _ hr=>by unfold zL;trivial
theorem aaE(h:HF B.K "_law_far" Rr)(C_wtake:oJ B)(C_wlowest:pU B):Uo B:=cK (N:=["_law_row_here","_law_dims","_law_kind","_law_wide","_law_under","_law_far_here"]) X h cG λnd _ _ _ _ _ _ _ hr=>by unfold Yc;trivial
theorem Iw(h:HF B.K "_law_stretch" Sh)(C_wtake:oJ B)(C_wfrac:sD B):Zg B:=cK (N:=["_law_row_here","_law_dims","_law_told","_law_k","_law_kind"]) X h cG λnd _ _ _ _ _ _ _ hr=>by unfold zV;trivial
theorem G5(h:HF B.K "_law_spot" Zn)(C_wlowest:pU B):Jm B:=cK (N:=["_law_corner","_law_stretch_here","_law_under","_law_part","_law_far_here"]) X h cG λnd _ _ _ _ _ _ _ hr=>by unfold wC;trivial
theorem D5(h:HF B.K "_law_laid" Cp)(C_wfar:Uo B)(C_wsimplex:Gh B)(C_wjoined:Uh B)(C_wspot:Jm B):Vm B:=cK (N:=["_law_row_here","_law_heap","_law_stretch_here","_law_told","_law_corners","_law_far_here"]) X h cG λnd _ _ _ _ _ _ _ hr=>by unfold Ub;trivial
theorem Yx(h:HF B.K "_law_handed" Xi)(C_wtake:oJ B):Ii B:=cK (N:=["_law_row_here","_law_rows"]) X h cG λnd _ _ _ _ _ _ _ hr=>by unfold vD;trivial
theorem Fx(h:HF B.K "_law_way_of" Ri)(C_wupward:Ei B):Ca B:=cK (N:=["_law_numbers","_law_way","_law_one","_law_other"]) X h cG λnd _ _ _ _ _ _ _ hr=>by unfold Ra;trivial
theorem Xw(h:HF B.K "_law_put_sum" Ai)(C_wsum:Bo B):Fh B:=cK (N:=["_law_table","_law_key","_law_part"]) X h cG λnd _ _ _ _ _ _ _ hr=>by unfold Ea;trivial
theorem Ov(h:HF B.K "_law_told_sums" Jg):Hg B:=cK (N:=["_law_table"]) X h cG λnd _ _ _ _ _ _ _ hr=>by unfold zF;trivial
theorem Bw(h:HF B.K "_law_put_side" Bh)(C_wway_of:Ca B)(C_wgap:vY B)(C_wput_sum:Fh B)(C_wfrac:sD B):Ng B:=cK (N:=["_law_table","_law_mark","_law_p","_law_q","_law_number","_law_way","_law_many","_law_key"]) X h cG λnd _ _ _ _ _ _ _ hr=>by unfold zJ;trivial
theorem Bv(h:HF B.K "_law_shut_share" Eg)(C_wway_of:Ca B)(C_wcross:Ha B)(C_wgap:vY B)(C_wfrac:sD B):Xf B:=cK (N:=["_law_shut","_law_p","_law_q","_law_r","_law_way","_law_many"]) X h cG λnd _ _ _ _ _ _ _ hr=>by unfold zA;trivial
theorem Xu(h:HF B.K "_law_edge_table" Bg)(C_wshuts:Oj B)(C_wshut_share:Xf B)(C_wput_side:Ng B):Wf B:=cK (N:=["_law_heap","_law_table","_law_points","_law_shut","_law_way","_law_k"]) X h cG λnd _ _ _ _ _ _ _ hr=>by unfold zB;trivial
theorem Ww(h:HF B.K "_law_alike" oM):cE B "_law_alike" 1 ["_law_told","_law_due"] Rh:=cK (N:=["_law_told","_law_due"]) X h cG (k:=0) λnd _ _ _ _ _ _ _ hr=>F5
theorem Vw(h:HF B.K "_law_alike" oM)(C_wwhole:qE B):cE B "_law_alike" 2 ["_law_told","_law_due"] Zh:=by have C_rec:=Ww X m h;exact cK (N:=["_law_told","_law_due"]) (k:=1) X h cG λnd _ _ _ _ _ _ _ hr=>by unfold iS;trivial
theorem Yw(h:HF B.K "_law_alike" oM)(C_wwhole:qE B):cE B "_law_alike" 3 ["_law_told","_law_due"] zU:=by have C_rec:=Vw X m h C_wwhole;exact cK (N:=["_law_told","_law_due"]) (k:=2) X h cG λnd _ _ _ _ _ _ _ hr=>by unfold iS;trivial
theorem Gw(h:HF B.K "_law_alike" oM)(C_wwhole:qE B):cE B "_law_alike" 4 ["_law_told","_law_due"] uW:=by have C_rec:=Yw X m h C_wwhole;exact cK (N:=["_law_told","_law_due"]) (k:=3) X h cG λnd _ _ _ _ _ _ _ hr=>by unfold iS;trivial
theorem Ew(h:HF B.K "_law_alike" oM)(C_wwhole:qE B):cE B "_law_alike" 5 ["_law_told","_law_due"] zQ:=by have C_rec:=Gw X m h C_wwhole;exact cK (N:=["_law_told","_law_due"]) (k:=4) X h cG λnd _ _ _ _ _ _ _ hr=>by unfold iS;trivial
theorem Sy(h:HF B.K "_law_alike" oM)(C_wwhole:qE B):cE B "_law_alike" 6 ["_law_told","_law_due"] oK:=by have C_rec:=Ew X m h C_wwhole;exact cK (N:=["_law_told","_law_due"]) (k:=5) X h cG λnd _ _ _ _ _ _ _ hr=>by unfold iS;trivial
theorem Dw(h:HF B.K "_law_wide_far" Wg)(C_wlaid:Vm B)(C_wstretch:Zg B):Pg B:=cK (N:=["_law_row_here","_law_heap"]) X h cG λnd _ _ _ _ _ _ _ hr=>by unfold uQ;trivial
theorem ab0{f:Addr}{fd:ck}(F:kC B.K "law" "law" nO f fd)(C_wrow:Yp B)(C_wwide_far:Pg B)(C_wraw_heap:Sg B)(C_wtold_sums:Hg B)(C_wedge_table:Wf B)(C_walike:Uy B)(C_edge_sums:Lg B)(C_whanded:Ii B):eO B.P B.w B.K B.mg B.base fI 8 f fd ["_law_script"] (jM B.K B.cl Ce):=mkR (N:=["_law_script","_law_row_here","_law_heap","_law_due"]) F cG λnd _ _ _ _ _ _ _ hr=>by unfold Le;trivial
end
local macro_rules
 | `(tactic|simp! [$l,*] $[$loc:location]?)=>`(tactic|simp[jE,aK,cS,bJ,tW,jL,uI,qY,adv,uC,aC,cL,mR,mN,aB,aA,mC,aD,bP.bind,tL,kM,nN,De,gU,rd,nK,iB,cZ,dX,fU,dD,tY,kW,cD.of,bG,ac9,dZ,dE,aZ,nJ,kJ,aT,oY,qR,pI,iN,nI,dM,gH,frz,jH,$l,*] $[$loc]?)
theorem Cm(S:aG)(k:Nat)(o:SO):(S.set k o).take S.length=S.set k o:=uv (by simp)
def fR(S:aG)(k:Nat)(ns:AX):Prop:=S[k]?=some (.lst (ns.map .int))
theorem fR.lt{S:aG}{k:Nat}{ns:AX}(h:fR S k ns):k<S.length:=(ce.mp h).1
theorem fR.set{S:aG}{k:Nat}{ns:AX}(h:fR S k ns)(ms:AX):fR (S.set k (.lst (ms.map .int))) k ms:=ee h.lt
theorem Fi{r:bW}{k:Nat}{m:AV}:∀(ns:AX)(S:aG),fR S k ns->∃n ns',dQ (jL (bJ (aC eY (mR cZ (aB (aA 0) aD)) (mC (.int 0)))) (bJ (aC dM (aC aE (aA 0) (mC (.int 0))) (mC (.int 0))))) (dE (nQ (aA 0) (aB (mC (.int 0)) aD))) n (some (.ref k)::some m::r) S=.nx (some (.ref k)::some m::r) (S.set k (.lst (ns'.map .int)))/\ns'.length<=ns.length/\(ns'=[]\/∃i t,ns'=i::t/\i≠0)
 |[],S,h=>by
  refine⟨1,[],?_,aj _,.inl rfl⟩;have h':S[k]?=some (.lst []):=h;have e:S.set k (.lst (([]:AX).map .int))=S:=jf λi=>by
   by_cases q:k=i
   .subst q;rw[ee h.lt,h'];rfl
   .rw[fh q]
  rw[e];simp[dQ,jL,bJ,aC,mR,aB,aA,mC,aD,bP.bind,nN,gU,rd,h',iB,cZ,kM,eY,i2,kW,cD.of]
 |i::t,S,h=>by
  have h':S[k]?=some (.lst (.int i::t.map .int)):=h
  by_cases hi:i=0
  .subst hi
   have hr:fR (S.set k (.lst (t.map .int))) k t:=h.set t;obtain⟨n,ns',e,l,q⟩:=Fi (r:=r) (m:=m) t _ hr;refine⟨n+1,ns',?_,by simp;omega,q⟩;rw[ky]at e;rw[<-e];have hl:(0:Int)<(t.length:Int)+1:=by omega
   simp[dQ,jL,bJ,aC,mR,aB,aA,mC,aD,bP.bind,nN,gU,rd,h',iB,cZ,kM,eY,i2,kW,cD.of,aE,bC,bF,dM,aM,dE,nQ,fD,pD,seqIndex?,hl]
  .refine⟨1,i::t,?_,aj _,.inr ⟨i,t,rfl,hi⟩⟩
   have e:S.set k (.lst ((i::t).map .int))=S:=jf λj=>by
    by_cases q:k=j
    .subst q;rw[ee h.lt,h'];rfl
    .rw[fh q]
   rw[e];have hl:(0:Int)<(t.length:Int)+1:=by omega
   simp[dQ,jL,bJ,aC,mR,aB,aA,mC,aD,bP.bind,nN,gU,rd,h',iB,cZ,kM,eY,i2,kW,cD.of,aE,bC,bF,dM,aM,hl,hi]
theorem jW{S:aG}{k:Nat}{ns:AX}{m:Int}(h:fR S k ns)(hm:0<m)(b:Bd 8000 m):∃(v:Int)(ns':AX),dR [.ref k,.pv (.int m)] S=.ok (.pv (.int v)) (S.set k (.lst (ns'.map .int)))/\0<=v/\v<m/\ns'.length<=ns.length:=by
 obtain⟨n,ns',e,l,q⟩:=Fi (r:=[none]) (m:=.pv (.int m)) ns S h;have hr:=h.set ns';have hl1:(S.set k (.lst (ns'.map .int))).length=S.length:=by simp
 have hss:∀x,(S.set k (.lst (ns'.map .int))).set k x=S.set k x:=λx=>ky ..;generalize hS1:S.set k (.lst (ns'.map .int))=S1 at e hr hl1 hss;have w:=vA e (by simp);rcases q with rfl |⟨i,t,rfl,hi⟩
 .refine⟨0,[],?_,sx 0,hm,de _⟩
  rw[hS1];have hr':S1[k]?=some (.lst []):=hr;have tk:List.take S.length S1=S1:=uv (by omega);unfold dR aW vX;simp[jE,aK,w,cS,bJ,aC,mR,aB,aA,mC,aD,bP.bind,nN,gU,rd,hr',iB,cZ,kM,dM,aM,kW,cD.of,bG,nJ,kJ,tk]
 .have hr':S1[k]?=some (.lst (.int i::t.map .int)):=hr
  refine⟨i.fmod m,i.fdiv m::t,?_,AI i hm,Int.fmod_lt_of_pos i hm,l⟩;rw[<-hss];have tk:∀x,List.take S.length (S1.set k x)=S1.set k x:=λx=>uv (by simp;omega);have hl:¬((t.length:Int)+1=0):=by omega
  have hq:pB i m:=⟨by omega,b⟩;have hm0:m≠0:=by omega
  unfold dR aW vX;simp[jE,aK,w,cS,bJ,aC,mR,aB,aA,mC,aD,bP.bind,nN,gU,rd,hr',iB,cZ,kM,dM,aM,kW,cD.of,bG,nJ,kJ,tk,dZ,hl,aZ,fY,gG,i2,cI,aE,bC,bF,hm0,hq,oR,fD,qX]
theorem aO(i j:Int):eY (.int i) (.int j)=some (.bl (decide (j<i))):=rfl
theorem aP(i j:Int):kO (.int i) (.int j)=some (.bl (decide (i<j))):=rfl
theorem aR(i j:Int):rO (.int i) (.int j)=some (.bl (decide (j<=i))):=rfl
theorem aQ(i j:Int):fLe (.int i) (.int j)=some (.bl (decide (i<=j))):=rfl
theorem aN(i j:Int):eE (.int i) (.int j)=some (.int (i-j)):=rfl
theorem lF{i j:Int}(h:oZ i j):aX (.int i) (.int j)=some (.int (i*j)):=by
 simp[aX,i2,cI,h]
theorem lC{i j:Int}(h:pB i j):gG (.int i) (.int j)=some (.int (i.fdiv j)):=by
 simp[gG,i2,cI,h]
theorem nE{i j:Int}(h:j≠0):fY (.int i) (.int j)=some (.int (i.fmod j)):=by
 simp[fY,i2,cI,h]
theorem vV{i j:Int}(h:yE i j):iA (.int i) (.int j)=some (.int (i^j.toNat)):=by
 simp[iA,i2,cI,h]
theorem Pn(n:Int)(S:aG):qO [.pv (.int n)] S=.ok (.pv (.int (sg n))) S:=by
 unfold qO aW Dd sg
 by_cases h1:0<n
 .simp[jE,aK,cS,bJ,aC,aA,mC,bP.bind,kM,rd,iB,eY,i2,kW,cD.of,bG,nJ,kJ,h1]
 .by_cases h2:n<0
  .simp[jE,aK,cS,bJ,aC,aA,mC,bP.bind,kM,rd,iB,eY,kO,i2,kW,cD.of,bG,nJ,kJ,h1,h2,dZ,cL,tL,dD]
  .simp[jE,aK,cS,bJ,aC,aA,mC,bP.bind,kM,rd,iB,eY,kO,i2,kW,cD.of,bG,nJ,kJ,h1,h2,dZ,cL,tL,dD]
theorem Cg(S:aG):∀(m:Nat)(a b:Int)(x:BG),b.natAbs<=m->∃(n:Nat)(g:Int)(x':BG),dQ (bJ (aC gH (aA 1) (mC (.int 0)))) (aK (aZ 2 (aC fY (aA 0) (aA 1))) (aK (aZ 0 (aA 1)) (aZ 1 (aA 2)))) n [some (.pv (.int a)),some (.pv (.int b)),x] S=.nx [some (.pv (.int g)),some (.pv (.int 0)),x'] S/\g.natAbs=br a b
 |0,a,b,x,h=>by
  have hb:b=0:=by omega
  subst hb;refine⟨1,a,x,?_,by simp⟩;simp! [dQ,aE,bC,bF,aM,aO,aP,aR,aQ,aH,aN]
 |m+1,a,b,x,h=>by
  by_cases hb:b=0
  .subst hb
   refine⟨1,a,x,?_,by simp⟩;simp! [dQ,aE,bC,bF,aM,aO,aP,aR,aQ,aH,aN]
  .have hl:=Wi a hb
   obtain⟨n,g,x',e,q⟩:=Cg S m b (a.fmod b) (some (.pv (.int (a.fmod b)))) (by omega);refine⟨n+1,g,x',?_,by rw[q,Ml]⟩;rw[<-e];simp! [dQ,aE,bC,bF,aM,aO,aP,aR,aQ,aH,aN,nE hb,hb]
theorem Ki(a b:Int)(S:aG):pW [.pv (.int a),.pv (.int b)] S=.ok (.pv (.int (br a b:Nat))) S:=by
 obtain⟨n,g,x',e,q⟩:=Cg S b.natAbs a b none (aj _);have w:=vA e (by simp);unfold pW aW Ka;have hg:(if g<0 then-g else g)=((br a b:Nat):Int):=by rw[<-q];exact Qd g
 simp! [aE,bC,bF,aM,aO,aP,aR,aQ,aH,aN,w,hg]
theorem Fj(S:aG):∀(m:Nat)(a b:Int),0<=a->0<=b->b.natAbs<=m->∃(n:Nat),dQ (bJ (aC eY (aA 1) (mC (.int 0)))) (tU 0 1 (aB (aA 1) (aB (aC fY (aA 0) (aA 1)) aD))) n [some (.pv (.int a)),some (.pv (.int b))] S=.nx [some (.pv (.int (br a b:Nat))),some (.pv (.int 0))] S
 |0,a,b,ha,hb,h=>by
  have hb:b=0:=by omega
  subst hb;have ea:((br a 0:Nat):Int)=a:=by simp;omega
  refine⟨1,?_⟩;rw[ea];simp! [dQ,aE,bC,bF,aM,aO,aP,aR,aQ,aH,aN]
 |m+1,a,b,ha,hb,h=>by
  by_cases h0:b=0
  .subst h0
   have ea:((br a 0:Nat):Int)=a:=by simp;omega
   refine⟨1,?_⟩;rw[ea];simp! [dQ,aE,bC,bF,aM,aO,aP,aR,aQ,aH,aN]
  .have hl:=Wi a h0
   have hp:0<b:=by omega
   obtain⟨n,e⟩:=Fj S m b (a.fmod b) hb (AI a hp) (by omega);refine⟨n+1,?_⟩;rw[<-Ml,<-e];simp! [dQ,aE,bC,bF,aM,aO,aP,aR,aQ,aH,aN,nE h0,hp,tU]
theorem aaX(a b:Int)(S:aG):sY [.pv (.int a),.pv (.int b)] S=.ok (.pv (.int (br a b:Nat))) S:=by
 have ha:0<=(if a<0 then-a else a):=by split<;>omega
 have hb:0<=(if b<0 then-b else b):=by split<;>omega
 obtain⟨n,e⟩:=Fj S _ _ _ ha hb (aj _);have w:=vA e (by simp);have eg:br (if a<0 then-a else a) (if b<0 then-b else b)=br a b:=by
  rw[Qd,Qd];simp[br]
 rw[eg]at w;unfold sY aW Pd;simp! [aE,bC,bF,aM,aO,aP,aR,aQ,aH,aN,w]
theorem An(S:aG)(v2:BG):∀(ns:AX)(g:Int)(a:AV),∃v',cV [] (gN 2) (aZ 1 (aT sY [] (aB (aA 1) (aB (aA 2) aD)))) (ns.map .int) [some a,some (.pv (.int g)),v2] S=.nx [some a,some (.pv (.int (gl ns g))),v'] S
 |[],g,a=>⟨v2,gM⟩
 |n::ns,g,a=>by
  obtain⟨v',e⟩:=An S (some (.pv (.int n))) ns (br g n:Nat) a;refine⟨v',?_⟩;show cV [] _ _ (.int n::ns.map .int) _ S=_;rw[eZ];simp! [gN,aE,bC,bF,aM,aO,aP,aR,aQ,aH,aN,aaX];exact e
theorem Kb(S:aG)(g:Int)(hg:g≠0)(b:Bd 8000 g):∀(ns:AX)(x:BG),cO [] (gN 0) (aC gG (aA 0) (aA 1)) (ns.map .int) [x,some (.pv (.int g))] S=.ok ((ns.map λn=>n.fdiv g).map .int) S
 |[],x=>fA
 |n::ns,x=>by
  have ih:=Kb S g hg b ns (some (.pv (.int n)));show cO [] _ _ (.int n::ns.map .int) _ S=_;rw[fL];simp! [gN,aE,bC,bF,aM,aO,aP,aR,aQ,aH,aN,lC (show pB n g from⟨hg,b⟩),ih]
theorem oI(ns:AX)(S:aG)(hb:∀n∈ns,Bd 8000 n):kF [.pv (.lst (ns.map .int))] S=.ok (.pv (.tup ((low ns).map .int))) S:=by
 obtain⟨v',e⟩:=An S none ns 0 (.pv (.lst (ns.map .int)));unfold kF aW Xa
 by_cases h:gl ns 0=0
 .have el:low ns=ns:=by unfold low;rw[if_pos h]
  simp! [aE,bC,bF,aM,aO,aP,aR,aQ,aH,aN,bX,bR,cR,e,h,el]
 .have el:low ns=ns.map λn=>n.fdiv (gl ns 0):=by
   unfold low;rw[if_neg h];exact dl λn hn=>(ql ((jX ns 0).2 n hn)).symm
  have bg:Bd 8000 (gl ns 0):=Ge (Bd.of (n:=0) (by simp) (uw 8000)) hb;have ec:=Kb S (gl ns 0) h bg ns none;simp! [aE,bC,bF,aM,aO,aP,aR,aQ,aH,aN,bX,bR,cR,e,h,el,bT,cY,ec]
theorem O6(n:Int)(S:aG):vG [.pv (.int n)] S=.ok (.pv (.bl true)) S:=by
 unfold vG aW Bb;simp! [aE,bC,bF,aM,aO,aP,aR,aQ,aH,aN,jZ]
theorem mG(i:Int){j:Int}(h1:-(2^64)<j)(h2:j<2^64):aX (.int i) (.int j)=some (.int (i*j)):=lF (.inl (.inr ⟨h1,h2⟩))
theorem Ju:iA (.int 10) (.int 18)=some (.int 1000000000000000000):=vV (i:=10) (j:=18) ⟨by decide,by decide,by decide⟩
theorem Jb{k:Nat}{a:AV}:∀(cs:AX)(n:Nat)(acc:AX)(S:aG)(v2 v3 v4 v5 v6:BG),fR S k acc->acc.length+cs.length<=63->n+cs.length<=63->∃(acc':AX)(w2 w3 w4 w5 w6:BG),cV [] (gT 2 (bH (gN 2) (bH (gN 3) cP))) ((cS (bJ (aC rO (aA 3) (aC iA (mC (.int 10)) (mC (.int 18))))) (dE (dI (aA 1) (aB (aC eE (aA 3) (aC iA (mC (.int 10)) (mC (.int 18)))) aD))) (aK (aZ 4 (aC fY (aC aX (aC aH (aC aH (aC aH (aA 3) (aC aX (aC aX (mC (.int 7)) (aA 2)) (aA 2))) (aC aX (mC (.int 13)) (aA 2))) (mC (.int 5))) (mC (.int 48271))) (mC (.int 2147483647))))
 (aK (aZ 5 (aC fY (aC aX (aC aH (aC aH (aC aH (aA 3) (aC aX (aC aX (mC (.int 11)) (aA 2)) (aA 2))) (aC aX (mC (.int 17)) (aA 2))) (mC (.int 3))) (mC (.int 40692))) (mC (.int 2147483399))))
 (aK (aZ 6 (aC fY (aC aX (aC aH (aC aH (aC aH (aA 3) (aC aX (aC aX (mC (.int 5)) (aA 2)) (aA 2))) (aC aX (mC (.int 29)) (aA 2))) (mC (.int 8))) (mC (.int 39373))) (mC (.int 2147483587))))
 (aK (aZ 4 (aC fY (aC aX (aA 4) (mC (.int 52021))) (mC (.int 1000000007))))
 (aK (aZ 5 (aC fY (aC aX (aA 5) (mC (.int 30011))) (mC (.int 998244353))))
 (aK (aZ 6 (aC fY (aC aX (aA 6) (mC (.int 45989))) (mC (.int 1000000009))))
 (dE (dI (aA 1) (aB (aC aH (aC aX (aC aH (aC aX (aA 4) (mC (.int 998244353))) (aA 5)) (mC (.int 1000000009))) (aA 6)) aD))))))))))) (iU n (cs.map .int)) [some a,some (.ref k),v2,v3,v4,v5,v6] S=.nx [some a,some (.ref k),w2,w3,w4,w5,w6] (S.set k (.lst (acc'.map .int)))/\acc'.length<=63
 |[],n,acc,S,v2,v3,v4,v5,v6,h,hl,_=>by
  refine⟨acc,v2,v3,v4,v5,v6,?_,by simpa using hl⟩;have e:S.set k (.lst (acc.map .int))=S:=jf λj=>by
   by_cases q:k=j
   .subst q;rw[ee h.lt];exact h.symm
   .rw[fh q]
  rw[e];exact gM
 |x::cs,n,acc,S,v2,v3,v4,v5,v6,h,hl,hn=>by
  simp only[ca]at hl hn;have h':S[k]?=some (.lst (acc.map .int)):=h;have hlen:acc.length<16777216:=by omega
  have hk1:-(2^64)<(n:Int):=by omega
  have hk2:(n:Int)<2^64:=by omega
  by_cases c:(1000000000000000000:Int)<=x
  .obtain⟨acc',w2,w3,w4,w5,w6,e,q⟩:=Jb (k:=k) (a:=a) cs (n+1) (acc++[x-1000000000000000000]) (S.set k (.lst ((acc++[x-1000000000000000000]).map .int))) (some (.pv (.int n))) (some (.pv (.int x))) v4 v5 v6 (h.set _) (by simp;omega) (by omega)
   refine⟨acc',w2,w3,w4,w5,w6,?_,q⟩;rw[ky]at e;rw[<-e];show cV [] _ _ (.tup [.int n,.int x]::iU (n+1) (cs.map .int)) _ S=_;rw[eZ];simp! [gT,bH,cP,gN,aE,bC,bF,aM,aO,aP,aR,aQ,aH,aN,Ju,c,dI,fD,iQ,h',hlen]
  .obtain⟨acc',w2,w3,w4,w5,w6,e,q⟩:=Jb (k:=k) (a:=a) cs (n+1) (acc++[((((x+7*n*n+13*n+5)*48271).fmod 2147483647*52021).fmod 1000000007*998244353+(((x+11*n*n+17*n+3)*40692).fmod 2147483399*30011).fmod 998244353)*1000000009+(((x+5*n*n+29*n+8)*39373).fmod 2147483587*45989).fmod 1000000009]) (S.set k (.lst ((acc++[((((x+7*n*n+13*n+5)*48271).fmod 2147483647*52021).fmod 1000000007*998244353+(((x+11*n*n+17*n+3)*40692).fmod 2147483399*30011).fmod 998244353)*1000000009+(((x+5*n*n+29*n+8)*39373).fmod 2147483587*45989).fmod 1000000009]).map .int))) (some (.pv (.int n))) (some (.pv (.int x))) (some (.pv (.int ((((x+7*n*n+13*n+5)*48271).fmod 2147483647*52021).fmod 1000000007)))) (some (.pv (.int ((((x+11*n*n+17*n+3)*40692).fmod 2147483399*30011).fmod 998244353)))) (some (.pv (.int ((((x+5*n*n+29*n+8)*39373).fmod 2147483587*45989).fmod 1000000009)))) (h.set _) (by simp;omega) (by omega)
   refine⟨acc',w2,w3,w4,w5,w6,?_,q⟩;rw[ky]at e;rw[<-e];show cV [] _ _ (.tup [.int n,.int x]::iU (n+1) (cs.map .int)) _ S=_;rw[eZ];simp! [gT,bH,cP,gN,aE,bC,bF,aM,aO,aP,aR,aQ,aH,aN,Ju,c,dI,fD,iQ,h',hlen,mG _ hk1 hk2,mG _ (show-(2^64)<(48271:Int) by decide) (by decide),mG _ (show-(2^64)<(40692:Int) by decide) (by decide),mG _ (show-(2^64)<(39373:Int) by decide) (by decide),mG _ (show-(2^64)<(52021:Int) by decide) (by decide),mG _ (show-(2^64)<(30011:Int) by decide) (by decide),mG _ (show-(2^64)<(45989:Int) by decide) (by decide),mG _ (show-(2^64)<(998244353:Int) by decide) (by decide),mG _ (show-(2^64)<(1000000009:Int) by decide) (by decide),nE (show(2147483647:Int)≠0 by decide),nE (show(2147483399:Int)≠0 by decide),nE (show(2147483587:Int)≠0 by decide),nE (show(1000000007:Int)≠0 by decide),nE (show(998244353:Int)≠0 by decide),nE (show(1000000009:Int)≠0 by decide)]
theorem abQ(ns:AX)(S:aG)(h:ns.length<=63):∃ms:AX,sP [.pv (.lst (ns.map .int))] S=.ok (.ref S.length) (S++[.lst (ms.map .int)])/\ms.length<=63:=by
 have hr:fR (S++[.lst []]) S.length []:=by unfold fR;simp
 obtain⟨ms,w2,w3,w4,w5,w6,e,q⟩:=Jb (a:=.pv (.lst (ns.map .int))) ns 0 [] (S++[.lst []]) none none none none none hr (by simpa using h) (by simpa using h);have ec:jN (ns.map .int) none (some 63)=ns.map .int:=by
  unfold jN;have e1:HT.sIx (ns.map PV.int).length 0 none=0:=rfl;have e2:HT.sIx (ns.map PV.int).length (ns.map PV.int).length (some 63)=(ns.map PV.int).length:=by
   have:=HT.sIx_nat (ns.map PV.int).length (ns.map PV.int).length 63;rw[show((63:Nat):Int)=63 from rfl]at this;rw[this,ao];omega
  rw[e1,e2,List.drop_zero,Nat.sub_zero,yf]
 refine⟨ms,?_,q⟩;have es:(S++[SO.lst []]).set S.length (.lst (ms.map .int))=S++[.lst (ms.map .int)]:=by simp
 rw[es]at e;unfold sP aW Ud;simp! [aE,bC,bF,aM,aO,aP,aR,aQ,aH,aN,bX,eT,kK,xT,fZ,eA,fK,iO,kP,Hd,ec,e]
theorem X9{L:AX}(h:gl L 0≠0):(low L).map (gl L 0*·)=L:=by
 unfold low;rw[if_neg h,fe]
 conv=>rhs;rw[<-td L]
 refine dl λn hn=>?_;show gl L 0*(n/gl L 0)=n;exact Int.mul_ediv_cancel' ((jX L 0).2 n hn)
theorem Y8{L:AX}(h:gl L 0=1):low L=L:=by
 unfold low;rw[h,if_neg (by decide)]
 conv=>rhs;rw[<-td L]
 exact dl λn _=>Int.ediv_one n
theorem Fl(S:aG)(v2:BG):∀(ns:AX)(g:Int)(a:AV),∃v',cV [] (gN 2) (aZ 1 (aT pW [] (aB (aA 1) (aB (aA 2) aD)))) (ns.map .int) [some a,some (.pv (.int g)),v2] S=.nx [some a,some (.pv (.int (gl ns g))),v'] S
 |[],g,a=>⟨v2,gM⟩
 |n::ns,g,a=>by
  obtain⟨v',e⟩:=Fl S (some (.pv (.int n))) ns (br g n:Nat) a;refine⟨v',?_⟩;show cV [] _ _ (.int n::ns.map .int) _ S=_;rw[eZ];simp! [gN,aE,bC,bF,aM,aO,aP,aR,aQ,aH,aN,Ki];exact e
theorem Px(ns:AX)(S:aG)(hb:∀n∈ns,Bd 8000 n)(h:gl ns 0≠0):uX [.pv (.lst (ns.map .int))] S=.ok (.pv (.lst ((low ns).map .int))) S:=by
 obtain⟨v',e⟩:=Fl S none ns 0 (.pv (.lst (ns.map .int)));have el:low ns=ns.map λn=>n.fdiv (gl ns 0):=by
  unfold low;rw[if_neg h];exact dl λn hn=>(ql ((jX ns 0).2 n hn)).symm
 have bg:Bd 8000 (gl ns 0):=Ge (Bd.of (n:=0) (by simp) (uw 8000)) hb;have ec:=Kb S (gl ns 0) h bg ns none;unfold uX aW Ga;simp! [aE,bC,bF,aM,aO,aP,aR,aQ,aH,aN,bX,bR,cR,e,h,el,bT,cY,ec]
theorem Zk(S:aG)(b:Int):∀(ns:AX)(x:BG),cO [] (gN 0) (aC aX (aT qO [] (aB (aA 1) aD)) (aA 0)) (ns.map .int) [x,some (.pv (.int b))] S=.ok ((ns.map (sg b*·)).map .int) S
 |[],x=>fA
 |n::ns,x=>by
  have ih:=Zk S b ns (some (.pv (.int n)));have hm:aX (.int (sg b)) (.int n)=some (.int (sg b*n)):=lF (.inl (.inl (K0 b)));show cO [] _ _ (.int n::ns.map .int) _ S=_;rw[fL];simp! [gN,aE,bC,bF,aM,aO,aP,aR,aQ,aH,aN,Pn,hm,ih]
theorem B5(zs:AX)(z:Int):jN ((zs++[z]).map .int) none (some (-1))=zs.map .int:=by
 unfold jN;have e1:HT.sIx ((zs++[z]).map PV.int).length 0 none=0:=rfl;have e2:HT.sIx ((zs++[z]).map PV.int).length ((zs++[z]).map PV.int).length (some (-1))=zs.length:=by
  rw[ao,bh];exact Ll zs.length _
 rw[e1,e2];simp
theorem Xz(zs:AX)(z:Int):¬(HT.sIx ((zs++[z]).map PV.int).length 0 none=0/\HT.sIx ((zs++[z]).map PV.int).length ((zs++[z]).map PV.int).length (some (-1))=((zs++[z]).map PV.int).length):=by
 rintro⟨_,e⟩
 have e2:HT.sIx ((zs++[z]).map PV.int).length ((zs++[z]).map PV.int).length (some (-1))=zs.length:=by
  rw[ao,bh];exact Ll zs.length _
 rw[e2,ao,bh]at e;simp at e
theorem Uk(zs:AX)(z:Int):kP (.tup ((zs++[z]).map .int)) none (some (-1))=some (.tup (zs.map .int)):=by
 unfold kP;dsimp only;rw[if_neg (Xz zs z),B5]
theorem qH(zs:AX)(z:Int):aE (.tup ((zs++[z]).map .int)) (.int (-1))=some (.int z):=by
 show bC ((zs++[z]).map PV.int) (-1)=_;rw[dh];exact D7 _ _
theorem lU{m:Int}(h0:0<=m)(h:m<1024):Bd 8000 m:=Bd.of (n:=1023) (by omega) (di (show 1023<2^10 by decide) (xa (by decide) (by decide)))
theorem bS(n:Nat)(a b:Int):aM n (.int a) (.int b)=some (a==b):=by cases n<;>rfl
theorem mB{a b:Int}(h:Bd 2000 a)(g:Bd 2000 b):aX (.int a) (.int b)=some (.int (a*b)):=lF (.inr ⟨h.mono (by decide),g.mono (by decide)⟩)
structure Pt(n:Nat)(xs:AX)(w:Int):Prop where
 len:xs.length=n
 pos:0<w
 low:low (xs++[w])=xs++[w]
 bx:∀x∈xs,Bd 300 x
 bw:Bd 300 w
def mv(way:Int)(xs:AX)(w:Int)(ys:AX)(v:Int):AX:=if way=1 then low (sm xs w ys v++[w*v])else low (sm ys v (xs.map (- ·)) w++[v*w])
theorem wW(zs:AX)(z:Int)(j:Nat)(h:j<zs.length):aE (.tup ((zs++[z]).map .int)) (.int (j:Nat))=some (.int (zs.getD j 0)):=by
 show bC ((zs++[z]).map PV.int) (j:Int)=_;refine vR ?_;rw[ax,fj h,av h];simp[cf,h]
theorem Sn(S:aG)(PL QL:BE)(xs ys:AX)(w v way:Int)(hp:aE (.tup PL) (.int (-1))=some (.int w))(hq:aE (.tup QL) (.int (-1))=some (.int v))(hpj:∀j:Nat,j<xs.length->aE (.tup PL) (.int (j:Nat))=some (.int (xs.getD j 0)))(hqj:∀j:Nat,j<xs.length->aE (.tup QL) (.int (j:Nat))=some (.int (ys.getD j 0)))
  (hway:way=1\/way=-1)(bw:Bd 1000 w)(bv:Bd 1000 v)(hx:∀j,Bd 1000 (xs.getD j 0))(hy:∀j,Bd 1000 (ys.getD j 0)):∀(js:List Nat)(x:BG),(∀j∈js,j<xs.length)->
  cO [] (gN 0) (aC aH (aC aX (aC aX (aA 1) (aC aE (aA 3) (aA 0))) (aC aE (aA 2) (cL dD (mC (.int 1))))) (aC aX (aC aE (aA 2) (aA 0)) (aC aE (aA 3) (cL dD (mC (.int 1)))))) (js.map λj=>.int (0+(j:Nat))) [x,some (.pv (.int way)),some (.pv (.tup QL)),some (.pv (.tup PL))] S=.ok ((js.map λj=>way*xs.getD j 0*v+ys.getD j 0*w).map .int) S
 |[],x,_=>fA
 |j::js,x,h=>by
  have ih:=Sn S PL QL xs ys w v way hp hq hpj hqj hway bw bv hx hy js (some (.pv (.int (0+(j:Nat))))) λi hi=>h i (bn _ hi);have e1:=hpj j (h j bf);have e2:=hqj j (h j bf);have b1:Bd 2 way:=by rcases hway with rfl |rfl<;>exact Bd.of (n:=1) (by decide) (by decide)
  have m0:=mB (b1.mono (show 2<=2000 by decide)) ((hx j).mono (show 1000<=2000 by decide));have m1:=mB ((b1.mul (hx j)).mono (show 2+1000<=2000 by decide)) (bv.mono (show 1000<=2000 by decide));have m2:=mB ((hy j).mono (show 1000<=2000 by decide)) (bw.mono (show 1000<=2000 by decide));show cO [] _ _ (.int (0+(j:Nat))::js.map λj=>.int (0+(j:Nat))) _ S=_;rw[fL];simp only[sy]at ih⊢;generalize hX:xs.getD j 0=X at e1 m0 m1;generalize hY:ys.getD j 0=Y at e2 m2;simp! [gN,bS,aO,aP,aR,aQ,aH,aN,e1,e2,hp,hq,m0,m1,m2,ih];simp only[AJ]at hX hY;rw[hX,hY]
theorem wA{xs:AX}{k:Nat}(h:∀x∈xs,Bd k x)(j:Nat):Bd k (xs.getD j 0):=by
 by_cases hj:j<xs.length
 .have e:xs.getD j 0=xs[j]:=by simp[cf,hj]
  rw[e];exact h _ (iz hj)
 .have e:xs.getD j 0=0:=by simp[cf,hj]
  rw[e];exact Bd.of (n:=0) (by decide) (uw k)
theorem Mj{xs ys:AX}(hl:xs.length=ys.length)(f:Int->Int->Int):(bj xs.length).map (λj=>f (xs.getD j 0) (ys.getD j 0))=cu f xs ys:=by
 refine ue (by simp[hl]) λi h1 h2=>?_;have hi:i<xs.length:=by simpa using h1
 have hj:i<ys.length:=by omega
 simp[cf,hi,hj]
theorem Vz{xs ys:AX}{w v way:Int}(S:aG)(hl:xs.length=ys.length)(h9:xs.length<=9)(hway:way=1\/way=-1)(hx:∀x∈xs,Bd 1000 x)(hy:∀y∈ys,Bd 1000 y)(bw:Bd 1000 w)(bv:Bd 1000 v):
  mZ [.pv (.tup ((xs++[w]).map .int)),.pv (.tup ((ys++[v]).map .int)),.pv (.int way)] S=.ok (.pv (.tup ((low (cu (λx y=>way*x*v+y*w) xs ys++[w*v])).map .int))) S:=by
 have ip:=qH xs w;have iq:=qH ys v;have ec:=Sn S _ _ xs ys w v way ip iq (λj h=>wW xs w j h) (λj h=>wW ys v j (by omega)) hway bw bv (wA hx) (wA hy) (bj xs.length) none λj hj=>by simpa using hj
 have er:(bj xs.length).map (λj=>way*xs.getD j 0*v+ys.getD j 0*w)=cu (λx y=>way*x*v+y*w) xs ys:=Mj hl λx y=>way*x*v+y*w;rw[er]at ec;have mm:=mB (bw.mono (show 1000<=2000 by decide)) (bv.mono (show 1000<=2000 by decide));have b1:Bd 2 way:=by rcases hway with rfl |rfl<;>exact Bd.of (n:=1) (by decide) (by decide)
 have el:=oI (cu (λx y=>way*x*v+y*w) xs ys++[w*v]) S (λn hn=>by
  rcases cq.mp hn with z |z
  .obtain⟨i,hi,e⟩:=qq z
   rw[yx]at e;rw[<-e];exact((((b1.mul (hx _ (iz _))).mul bv).mono (show 2+1000+1000<=3000 by decide)).add (((hy _ (iz _)).mul bw).mono (show 1000+1000<=3000 by decide))).mono (by decide)
  .have:n=w*v:=by simpa using z
   rw[this];exact(bw.mul bv).mono (by decide))
 have hlen:((xs++[w]).map PV.int).length=xs.length+1:=by simp
 have hz:xs.length+1<=16777216:=by omega
 have hr:iY [.pv (.int (((xs.length+1:Nat):Int)-1))] S=.ok ((bj xs.length).map λj=>.int (0+(j:Nat)),[]) S:=by
  unfold iY;dsimp only;rw[if_pos ⟨by omega,by omega⟩];have:(((xs.length+1:Nat):Int)-1).toNat=xs.length:=by omega
  rw[this];rfl
 have hzl:(cu (λx y=>way*x*v+y*w) xs ys).length+1<=16777216:=by rw[kh];omega
 simp only[dh,aw,cw]at el;generalize hZ:(cu (λx y=>way*x*v+y*w) xs ys).map PV.int=ZL at ec el;have hzl2:ZL.length+1<=16777216:=by rw[<-hZ,ao];exact hzl
 generalize (bj xs.length).map (λj=>PV.int (0+(j:Nat)))=RL at ec hr;generalize hP:(xs++[w]).map PV.int=PL at ip ec hlen;generalize (ys++[v]).map PV.int=QL at iq ec;unfold mZ aW Ja;have hr2:=hr;rw[<-hlen]at hr2;simp! [bS,aO,aP,aR,aQ,aH,aN,bT,dB,hr2,cY,ec,ip,iq,mm,hzl2,el]
theorem Rl{k:Nat}{W:Int}(W0:0<=W)(W1:W<=1000000000000):∀(is:BE)(S:aG)(ns:AX)(x:BG),fR S k ns->∃(xs ns':AX),cO [] (gN 0) (aC eE (aT dR [] (aB (aA 2) (aB (aC aH (aC aX (mC (.int 2)) (aA 1)) (mC (.int 1))) aD))) (aA 1)) is [x,some (.pv (.int W)),some (.ref k)] S=.ok (xs.map .int) (S.set k (.lst (ns'.map .int)))/\xs.length=is.length/\∀n∈xs,Bd 50 n
 |[],S,ns,x,h=>by
  refine⟨[],ns,?_,rfl,λ_ h=>absurd h gw⟩;have e:S.set k (.lst (ns.map .int))=S:=jf λj=>by
   by_cases q:k=j
   .subst q;rw[ee h.lt];exact h.symm
   .rw[fh q]
  rw[e];exact fA
 |i::is,S,ns,x,h=>by
  obtain⟨t,n1,e1,t0,t1,_⟩:=jW (m:=2*W+1) h (by omega) ((Bd.of (k:=50) (n:=2000000000001) (by omega) (by decide)).mono (by decide));obtain⟨xs,n2,e2,l2,b2⟩:=Rl W0 W1 is _ n1 (some (.pv i)) (h.set n1);rw[ky]at e2;have m2:aX (.int 2) (.int W)=some (.int (2*W)):=lF (.inl (.inl ⟨by decide,by decide⟩));refine⟨(t-W)::xs,n2,?_,by simp[l2],λn hn=>?_⟩
  .rw[fL]
   generalize S.set k (.lst (n1.map .int))=S1 at e1 e2;simp! [gN,aE,bC,bF,aM,aO,aP,aR,aQ,aH,aN,m2,e1,e2]
  .rcases cj.mp hn with rfl |hn
   .exact Bd.of (n:=1000000000000) (by omega) (by decide)
   .exact b2 n hn
theorem acz{v:Int}(h0:0<=v)(h1:v<4):∃M:Int,aE (.lst [.int 0,.int 3,.int 9,.int 1000000000000]) (.int v)=some (.int M)/\0<=M/\M<=1000000000000:=by
 have c:v=0\/v=1\/v=2\/v=3:=by omega
 rcases c with rfl |rfl |rfl |rfl
 .exact⟨0,rfl,by decide,by decide⟩
 .exact⟨3,rfl,by decide,by decide⟩
 .exact⟨9,rfl,by decide,by decide⟩
 .exact⟨1000000000000,rfl,by decide,by decide⟩
theorem p12:iA (.int 10) (.int 12)=some (.int 1000000000000):=vV (i:=10) (j:=12) ⟨by decide,by decide,by decide⟩
theorem acy{v:Int}(h0:0<=v)(h1:v<4):0<=v.fdiv 2/\v.fdiv 2<=1:=by
 have c:v=0\/v=1\/v=2\/v=3:=by omega
 rcases c with rfl |rfl |rfl |rfl<;>decide
theorem aa8{n k:Nat}{L:AX}{b:Int}(hb:0<b)(hl:L.length=n)(hk:k<=300)(hL:∀x∈L,Bd k x)(bb:Bd k b):∃(zs:AX)(z:Int),low (L++[b])=zs++[z]/\Pt n zs z/\(∀x∈zs,Bd k x)/\Bd k z:=by
 obtain⟨zs,z,g,e,hg,hz,_,_,hzl⟩:=wG L hb;have hbd:=wZ (k:=k) (ns:=L++[b]) λm hm=>by
  rcases cq.mp hm with y |y
  .exact hL m y
  .have:m=b:=by simpa using y
   rw[this];exact bb
 have hlow:=Sb L hb;rw[e]at hbd hlow;have b1:∀x∈zs,Bd k x:=λx hx=>hbd x (ld _ hx);have b2:Bd k z:=hbd z (nA zs z);exact⟨zs,z,e,⟨hzl.trans hl,hz,hlow,λx hx=>(b1 x hx).mono hk,b2.mono hk⟩,b1,b2⟩
theorem abK{S:aG}{k:Nat}{ns:AX}(n:Nat)(hn:n=2\/n=3)(h:fR S k ns):∃(xs:AX)(w:Int)(ns':AX),nF [.ref k,.pv (.int n)] S=.ok (.pv (.tup ((xs++[w]).map .int))) (S.set k (.lst (ns'.map .int)))/\Pt n xs w/\(∀x∈xs,Bd 100 x)/\Bd 100 w:=by
 obtain⟨c,n1,e1,c0,c1,_⟩:=jW (m:=4) h (by decide) (lU (by decide) (by decide));obtain⟨M,em,M0,M1⟩:=acz c0 c1;obtain⟨t,n2,e2,t0,t1,_⟩:=jW (m:=9) (h.set n1) (by decide) (lU (by decide) (by decide));rw[ky]at e2;obtain⟨xs,n3,e3,l3,b3⟩:=Rl M0 M1 (dA 0 n) _ n2 none (h.set n2);rw[ky]at e3;have hc:=acy c0 c1;have mt:aX (.int t) (.int (c.fdiv 2))=some (.int (t*c.fdiv 2)):=lF (.inl (.inl ⟨by omega,by omega⟩));have qt:gG (.int c) (.int 2)=some (.int (c.fdiv 2)):=lC ⟨by decide,lU (by decide) (by decide)⟩;have hm:0<=t*c.fdiv 2/\t*c.fdiv 2<=8:=by
  have c2:c.fdiv 2=0\/c.fdiv 2=1:=by omega
  rcases c2 with z |z<;>rw[z]<;>omega
 have lx:xs.length=n:=by rw[l3];unfold dA;simp
 generalize t*c.fdiv 2=tc at mt hm;obtain⟨zs,z,ez,P,b1,b2⟩:=aa8 (n:=n) (k:=100) (L:=xs) (b:=1+tc) (by omega) lx (by decide) (λx hx=>(b3 x hx).mono (by decide)) (Bd.of (n:=9) (by omega) (by decide));have el:=oI (xs++[1+tc]) (S.set k (.lst (n3.map .int))) (λm hm=>by
  rcases cq.mp hm with y |y
  .exact(b3 m y).mono (by decide)
  .have:m=1+tc:=by simpa using y
   rw[this];exact(Bd.of (k:=4) (n:=9) (by omega) (by decide)).mono (by decide))
 rw[ez]at el;refine⟨zs,z,n3,?_,P,b1,b2⟩;have tk3:=Cm S k (.lst (n3.map .int));have hz:xs.length+1<=16777216:=by omega
 generalize S.set k (.lst (n1.map .int))=S1 at e1 e2;generalize S.set k (.lst (n2.map .int))=S2 at e2 e3;generalize S.set k (.lst (n3.map .int))=S3 at e3 el tk3;have hr:iY [.pv (.int (n:Int))] S2=.ok (dA 0 n,[]) S2:=by
  unfold iY;dsimp only;rw[if_pos ⟨by omega,by omega⟩];rfl
 conv at el=>lhs;rw[dh]
 simp only[aw,cw]at el;generalize (zs++[z]).map PV.int=ZL at el;unfold nF aW Yc;simp! [bS,aO,aP,aR,aQ,aH,aN,p12,e1,em,e2,mt,qt,bT,dB,hr,cY,e3,hz,el,tk3]
theorem Qj{way:Int}(h:way=1\/way=-1)(xs:AX)(w:Int)(ys:AX)(v:Int):low (cu (λx y=>way*x*v+y*w) xs ys++[w*v])=mv way xs w ys v:=by
 unfold mv;rcases h with rfl |rfl
 .rw[if_pos rfl,Fy]
 .rw[if_neg (by decide),Qw,dy w v]
structure Pq(n k:Nat)(xs:AX)(w:Int):Prop where
 len:xs.length=n
 pos:0<w
 low:low (xs++[w])=xs++[w]
 bx:∀x∈xs,Bd k x
 bw:Bd k w
def Vl(n:Nat)(xs:AX)(w:Int)(N:Nat->Int)(D:Int):Prop:=∀j,j<n->xs.getD j 0*D=N j*w
theorem Vl.self(n:Nat)(xs:AX)(w:Int):Vl n xs w (λj=>xs.getD j 0) w:=λ_ _=>rfl
theorem wI{a b c:Int}(h:0<c)(e:a*c=b*c):a=b:=Int.eq_of_mul_eq_mul_right (by omega) e
theorem X8{xs ys:AX}{f:Int->Int->Int}{j:Nat}(h1:j<xs.length)(h2:j<ys.length):(cu f xs ys).getD j 0=f (xs.getD j 0) (ys.getD j 0):=by
 have:j<(cu f xs ys).length:=by rw[kh];omega
 simp only[cf,av this,av h1,av h2,uk,yx]
theorem acm{n k l:Nat}{way:Int}{xs ys:AX}{w v:Int}(hway:way=1\/way=-1)(P:Pq n k xs w)(Q:Pq n l ys v):∃(zs:AX)(z:Int),mv way xs w ys v=zs++[z]/\Pq n (k+l+1) zs z/\
  ∀(N M:Nat->Int)(D E:Int),Vl n xs w N D->Vl n ys v M E->0<D->0<E->Vl n zs z (λj=>way*N j*E+M j*D) (D*E):=by
 rw[<-Qj hway];have hb:=cg P.pos Q.pos;have hl:(cu (λx y=>way*x*v+y*w) xs ys).length=n:=by rw[kh,P.len,Q.len];omega
 obtain⟨zs,z,g,e,hg,hz,g1,g2,hzl⟩:=wG (cu (λx y=>way*x*v+y*w) xs ys) hb;have hlow:=Sb (cu (λx y=>way*x*v+y*w) xs ys) hb;have hbd:=wZ (k:=k+l+1) (ns:=cu (λx y=>way*x*v+y*w) xs ys++[w*v]) λm hm=>by
  rcases cq.mp hm with y |y
  .obtain⟨i,hi,e⟩:=qq y
   rw[yx]at e;rw[<-e];have b1:=(P.bx _ (iz (l:=xs) (n:=i) (by rw[kh]at hi;omega))).mul Q.bw;have b2:=(Q.bx _ (iz (l:=ys) (n:=i) (by rw[kh]at hi;omega))).mul P.bw;have b3:Bd (k+l) (way*xs[i]'(by rw[kh]at hi;omega)*v):=by
    rcases hway with rfl |rfl
    .rw[jd];exact b1
    .have:(-1:Int)*xs[i]'(by rw[kh]at hi;omega)*v=-(xs[i]'(by rw[kh]at hi;omega)*v):=by rw[kd,jd,kd]
     rw[this];exact b1.neg
   exact b3.add (b2.mono (by omega))
  .have:m=w*v:=by simpa using y
   rw[this];exact(P.bw.mul Q.bw).mono (by omega)
 rw[e]at hbd hlow;refine⟨zs,z,e,⟨hzl.trans hl,hz,hlow,λx hx=>hbd x (ld _ hx),hbd z (nA zs z)⟩,λN M D E a b hD hE j hj=>?_⟩;have h1:(cu (λx y=>way*x*v+y*w) xs ys).getD j 0=g*zs.getD j 0:=by
  rw[g1];have:j<zs.length:=by rw[hzl,hl];exact hj
  simp[cf,this]
 rw[X8 (by rw[P.len];exact hj) (by rw[Q.len];exact hj)]at h1;have a1:=a j hj;have b1:=b j hj;generalize xs.getD j 0=X at a1 h1;generalize ys.getD j 0=Y at b1 h1;generalize zs.getD j 0=Z at h1⊢;show Z*(D*E)=(way*N j*E+M j*D)*z;generalize M j=B,N j=A at *;refine wI (c:=g*(w*v)) (cg hg hb) ?_;have p1:=P.pos;have p2:=Q.pos;have k1:(way*X*v+Y*w)*(D*E)=(way*A*E+B*D)*(w*v):=by grind
 have k2:Z*(D*E)*(g*(w*v))=(way*X*v+Y*w)*(D*E)*(w*v):=by rw[h1];grind
 rw[k2,k1,g2];grind
theorem Pt.pq{n k:Nat}{xs:AX}{w:Int}(P:Pt n xs w)(b:∀x∈xs,Bd k x)(bw:Bd k w):Pq n k xs w:=⟨P.len,P.pos,P.low,b,bw⟩
theorem Pq.mono{n k l:Nat}{xs:AX}{w:Int}(P:Pq n k xs w)(h:k<=l):Pq n l xs w:=⟨P.len,P.pos,P.low,λx hx=>(P.bx x hx).mono h,P.bw.mono h⟩
theorem T7{n k l:Nat}{way:Int}{xs ys:AX}{w v:Int}(S:aG)(hn:n=2\/n=3)(hway:way=1\/way=-1)(P:Pq n k xs w)(Q:Pq n l ys v)(hk:k<=1000)(hl:l<=1000):mZ [.pv (.tup ((xs++[w]).map .int)),.pv (.tup ((ys++[v]).map .int)),.pv (.int way)] S=.ok (.pv (.tup ((mv way xs w ys v).map .int))) S:=by
 have e:=Vz (way:=way) S (P.len.trans Q.len.symm) (by rw[P.len];omega) hway (λx hx=>(P.bx x hx).mono hk) (λx hx=>(Q.bx x hx).mono hl) (P.bw.mono hk) (Q.bw.mono hl);rw[Qj hway]at e;exact e
theorem hrg(S:aG):iY [.pv (.int 3)] S=.ok ([.int 0,.int 1,.int 2],[]) S:=by
 have h:dA 0 (3:Int).toNat=[.int 0,.int 1,.int 2]:=rfl;rw[<-h];unfold iY;dsimp only;rw[if_pos ⟨by omega,by omega⟩]
theorem wB(t b:Int)(S:aG)(ht:Bd 8000 t)(hb:Bd 8000 b):lG [.pv (.int t),.pv (.int b)] S=.ok (.pv (.tup ((fr t b).map .int))) S:=by
 unfold lG aW Rb fr;have e1:=oI [0-t,0-b] S (by
  intro n hn;rcases cj.mp hn with rfl |hn
  .rw[jc];exact ht.neg
  .have:n=0-b:=by simpa using hn
   rw[this,jc];exact hb.neg)
 have e2:=oI [t,b] S (by
  intro n hn;rcases cj.mp hn with rfl |hn
  .exact ht
  .have:n=b:=by simpa using hn
   rw[this];exact hb)
 by_cases h:b<0
 .simp only[aw,cw,jc]at e1
  simp! [aE,bC,bF,aM,aO,aP,aR,aQ,aH,aN,h,e1]
 .simp only[aw,cw]at e2
  simp! [aE,bC,bF,aM,aO,aP,aR,aQ,aH,aN,h,e2]
theorem Jh(t b:Int)(S:aG)(ht:Bd 7000 t)(hb:Bd 7000 b)(h:b≠0):oG [.pv (.int t),.pv (.int b)] S=.ok (.pv (.tup ((fr t b).map .int))) S:=by
 have gb:Bd 7000 ((br t b:Nat):Int):=ht.gcd hb;have sb:Bd 2 (sg b):=by
  unfold sg;split
  .unfold Bd;simp
  .split<;>(unfold Bd;simp)
 have mb:oZ (sg b) (br t b:Nat):=.inr ⟨sb.mono (by decide),gb.mono (by decide)⟩;have nz:sg b*(br t b:Nat)≠0:=by
  have gp:=sS (jK t b) h;rw[qP]at gp;rcases Em h with⟨_,s⟩|⟨_,s⟩<;>rw[s]<;>omega
 have qb:∀x,pB x (sg b*(br t b:Nat)):=λx=>⟨nz,(sb.mul gb).mono (by decide)⟩;rw[<-Hz h];unfold oG aW Da;simp! [aE,bC,bF,aM,aO,aP,aR,aQ,aH,aN,h,Pn,Ki,lF mb,lC (qb t),lC (qb b)]
theorem zS:∀is:AX,jF (is.map .int)=some is
 |[]=>rfl
 |i::is=>by
  have ih:=zS is;show(match jF (is.map .int)with |some bs=>some (i::bs) |none=>none)=_
  rw[ih]
theorem Cz(is:AX):rC [.lst (is.map .int)]=some (.int is.sum):=by
 simp only[rC,zS,yt]
def wa(xs:AX)(w:Int)(ys:AX)(v:Int):AX:=cu (λx y=>y*w-x*v) xs ys
theorem Oo(S:aG)(PL QL:BE)(w v:Int)(hp:aE (.tup PL) (.int (-1))=some (.int w))(hq:aE (.tup QL) (.int (-1))=some (.int v))(bw:Bd 2000 w)(bv:Bd 2000 v):∀(xs ys:AX)(x y:BG),xs.length=ys.length->(∀x∈xs,Bd 2000 x)->(∀y∈ys,Bd 2000 y)->
  cO [] (gT 2 (bH (gN 0) (bH (gN 1) cP))) (aC eE (aC aX (aA 1) (aC aE (aA 2) (cL dD (mC (.int 1))))) (aC aX (aA 0) (aC aE (aA 3) (cL dD (mC (.int 1)))))) (eP (xs.map .int) (ys.map .int)) [x,y,some (.pv (.tup PL)),some (.pv (.tup QL))] S=.ok ((wa xs w ys v).map .int) S
 |[],ys,x,y,hl,_,_=>by
  have:ys=[]:=yn.mp hl.symm;subst this;exact fA
 |a::xs,[],x,y,hl,_,_=>by cases hl
 |a::xs,b::ys,x,y,hl,hx,hy=>by
  have ih:=Oo S PL QL w v hp hq bw bv xs ys (some (.pv (.int a))) (some (.pv (.int b))) (by simpa using hl) (λm hm=>hx m (bn _ hm)) (λm hm=>hy m (bn _ hm));have m1:=mB (hx a bf) bv;have m2:=mB (hy b bf) bw;show cO [] _ _ (.tup [.int a,.int b]::eP (xs.map .int) (ys.map .int)) _ S=_;rw[fL];simp! [gT,bH,cP,gN,bS,aO,aP,aR,aQ,aH,aN,hp,hq,m1,m2,ih,wa]
theorem A9{xs ys:AX}{w v:Int}(S:aG)(hl:xs.length=ys.length)(hx:∀x∈xs,Bd 2000 x)(hy:∀y∈ys,Bd 2000 y)(bw:Bd 2000 w)(bv:Bd 2000 v):
  pP [.pv (.tup ((xs++[w]).map .int)),.pv (.tup ((ys++[v]).map .int))] S=.ok (.pv (.lst ((wa xs w ys v).map .int))) S:=by
 have ip:=qH xs w;have iq:=qH ys v;have sp:=Uk xs w;have sq:=Uk ys v;have ec:=Oo S _ _ w v ip iq bw bv xs ys none none hl hx hy;generalize (xs++[w]).map PV.int=PL at ip sp ec;generalize (ys++[v]).map PV.int=QL at iq sq ec;unfold pP aW yZ;simp! [bS,aO,aP,aR,aQ,aH,aN,bT,gK,kL,cR,fZ,eA,fK,iO,sp,sq,cY,ec]
theorem Jl(S:aG):∀(us vs:AX)(x y:BG),(∀x∈us,Bd 100000 x)->(∀y∈vs,Bd 100000 y)->
  cO [] (gT 2 (bH (gN 0) (bH (gN 1) cP))) (aC aX (aA 0) (aA 1)) (eP (us.map .int) (vs.map .int)) [x,y] S=.ok ((cu (·*·) us vs).map .int) S
 |[],vs,x,y,_,_=>by
  show cO [] _ _ [] _ S=_;exact fA
 |a::us,[],x,y,_,_=>by
  show cO [] _ _ [] _ S=_;exact fA
 |a::us,b::vs,x,y,hx,hy=>by
  have ih:=Jl S us vs (some (.pv (.int a))) (some (.pv (.int b))) (λm hm=>hx m (bn _ hm)) (λm hm=>hy m (bn _ hm));have m1:aX (.int a) (.int b)=some (.int (a*b)):=lF (.inr ⟨(hx a bf).mono (by decide),(hy b bf).mono (by decide)⟩);show cO [] _ _ (.tup [.int a,.int b]::eP (us.map .int) (vs.map .int)) _ S=_;rw[fL];simp! [gT,bH,cP,gN,bS,aO,aP,aR,aQ,aH,aN,m1,ih]
def dt(us vs:AX):Int:=(cu (·*·) us vs).sum
def Sq(A:PV)(us:AX):Prop:=A=.lst (us.map .int)\/A=.tup (us.map .int)
theorem Co{A B:PV}{us vs:AX}(S:aG)(hA:Sq A us)(hB:Sq B vs)(hx:∀x∈us,Bd 100000 x)(hy:∀y∈vs,Bd 100000 y):wN [.pv A,.pv B] S=.ok (.pv (.int (dt us vs))) S:=by
 have ec:=Jl S us vs none none hx hy;have es:=Cz (cu (·*·) us vs);unfold dt;generalize (cu (·*·) us vs).map PV.int=ZL at ec es;generalize (cu (·*·) us vs).sum=Z at es;unfold wN aW Jd;rcases hA with rfl |rfl<;>rcases hB with rfl |rfl<;>
  (generalize us.map PV.int=UL at ec⊢;generalize vs.map PV.int=VL at ec⊢;simp! [bS,aO,aP,aR,aQ,aH,aN,bT,gK,kL,cR,cY,ec,es])
theorem eK{k l:Nat}{a b:Int}(h:Bd k a)(g:Bd l b)(hk:k<=1000000:=by decide)(hl:l<=1000000:=by decide):aX (.int a) (.int b)=some (.int (a*b)):=lF (.inr ⟨h.mono hk,g.mono hl⟩)
theorem Z6{a b c d e f:Int}(S:aG)(ha:Bd 10000 a)(hb:Bd 10000 b)(hc:Bd 10000 c)(hd:Bd 10000 d)(he:Bd 10000 e)(hf:Bd 10000 f):vI [.pv (.lst [.lst [.int a,.int b,.int c],.lst [.int d,.int e,.int f]])] S=.ok (.pv (.lst [.int (b*f-c*e),.int (c*d-a*f),.int (a*e-b*d)])) S:=by
 have m1:=eK hb hf;have m2:=eK hc he;have m3:=eK hc hd;have m4:=eK ha hf;have m5:=eK ha he;have m6:=eK hb hd;unfold vI aW Nb;simp! [aE,bC,bF,aM,aO,aP,aR,aQ,aH,aN,m1,m2,m3,m4,m5,m6]
theorem Qb{A B:PV}{a b c d e f:Int}(S:aG)(hA:A=.lst [.int a,.int b,.int c])(hB:B=.lst [.int d,.int e,.int f])(ha:Bd 10000 a)(hb:Bd 10000 b)(hc:Bd 10000 c)(hd:Bd 10000 d)(he:Bd 10000 e)(hf:Bd 10000 f):sF [.pv A,.pv B] S=.ok (.pv (.lst [.int (b*f-c*e),.int (c*d-a*f),.int (a*e-b*d)])) S:=by
 have m1:=eK hb hf;have m2:=eK hc he;have m3:=eK hc hd;have m4:=eK ha hf;have m5:=eK ha he;have m6:=eK hb hd;unfold sF aW Ob;subst hA hB;simp! [aE,bC,bF,aM,aO,aP,aR,aQ,aH,aN,m1,m2,m3,m4,m5,m6]
structure P2(x y w:Int):Prop where
 bx:Bd 1000 x
 by_:Bd 1000 y
 bw:Bd 1000 w
 pos:0<w
structure P3(x y z w:Int):Prop where
 bx:Bd 1000 x
 by_:Bd 1000 y
 bz:Bd 1000 z
 bw:Bd 1000 w
 pos:0<w
abbrev v2(x y w:Int):PV:=.tup [.int x,.int y,.int w]
abbrev v3(x y z w:Int):PV:=.tup [.int x,.int y,.int z,.int w]
def Sv(A:PV)(L:BE):Prop:=A=.lst L\/A=.tup L
theorem Kt(p:PV)(L:BE):jN (p::L) (some 1) none=L:=by
 unfold jN;have e1:HT.sIx (p::L).length 0 (some 1)=1:=by
  rw[show(some (1:Int))=some ((1:Nat):Int) from rfl,HT.sIx_nat,ca];omega
 rw[e1];show((p::L).drop 1).take ((p::L).length-1)=L;simp
theorem xC(p:PV)(L:BE):kP (.lst (p::L)) (some 1) none=some (.lst L):=by
 unfold kP;dsimp only;rw[Kt]
theorem Zd(p:PV)(L:BE):kP (.tup (p::L)) (some 1) none=some (.tup L):=by
 unfold kP;dsimp only;have e1:HT.sIx (p::L).length 0 (some 1)=1:=by
  rw[show(some (1:Int))=some ((1:Nat):Int) from rfl,HT.sIx_nat,ca];omega
 rw[if_neg (by rw[e1];simp),Kt]
theorem Kd{x0 y0 z0 w0 x1 y1 z1 w1:Int}(S:aG)(p:P3 x0 y0 z0 w0)(q:P3 x1 y1 z1 w1):pP [.pv (v3 x0 y0 z0 w0),.pv (v3 x1 y1 z1 w1)] S=.ok (.pv (.lst [.int (x1*w0-x0*w1),.int (y1*w0-y0*w1),.int (z1*w0-z0*w1)])) S:=by
 have e:=A9 (xs:=[x0,y0,z0]) (ys:=[x1,y1,z1]) (w:=w0) (v:=w1) S rfl (by simp;exact⟨p.bx.mono (by decide),p.by_.mono (by decide),p.bz.mono (by decide)⟩) (by simp;exact⟨q.bx.mono (by decide),q.by_.mono (by decide),q.bz.mono (by decide)⟩) (p.bw.mono (by decide)) (q.bw.mono (by decide));exact e
theorem sb{x0 w0 x1 w1:Int}(a:Bd 1000 x0)(b:Bd 1000 w0)(c:Bd 1000 x1)(d:Bd 1000 w1):Bd 2001 (x1*w0-x0*w1):=((c.mul b).mono (show 1000+1000<=2000 by decide)).sub ((a.mul d).mono (show 1000+1000<=2000 by decide))
theorem cb{a b c d:Int}(h1:Bd 2001 a)(h2:Bd 2001 b)(h3:Bd 2001 c)(h4:Bd 2001 d):Bd 4003 (a*b-c*d):=((h1.mul h2).mono (show 2001+2001<=4002 by decide)).sub ((h3.mul h4).mono (show 2001+2001<=4002 by decide))
def D2(x0 y0 w0 x1 y1 w1 x2 y2 w2:Int):Int:=w0*(x1*y2-y1*x2)-w1*(x0*y2-y0*x2)+w2*(x0*y1-y0*x1)
def D3(x0 y0 z0 w0 x1 y1 z1 w1 x2 y2 z2 w2 x3 y3 z3 w3:Int):Int:=
 w0*((y1*z2-z1*y2)*x3+(z1*x2-x1*z2)*y3+(x1*y2-y1*x2)*z3)-w1*((y0*z2-z0*y2)*x3+(z0*x2-x0*z2)*y3+(x0*y2-y0*x2)*z3)
 +w2*((y0*z1-z0*y1)*x3+(z0*x1-x0*z1)*y3+(x0*y1-y0*x1)*z3)-w3*((y0*z1-z0*y1)*x2+(z0*x1-x0*z1)*y2+(x0*y1-y0*x1)*z2)
theorem acQ(x0 y0 z0 w0 x1 y1 z1 w1 x2 y2 z2 w2 x3 y3 z3 w3:Int):dt [(y1*w0-y0*w1)*(z2*w0-z0*w2)-(z1*w0-z0*w1)*(y2*w0-y0*w2),(z1*w0-z0*w1)*(x2*w0-x0*w2)-(x1*w0-x0*w1)*(z2*w0-z0*w2),(x1*w0-x0*w1)*(y2*w0-y0*w2)-(y1*w0-y0*w1)*(x2*w0-x0*w2)] [x3*w0-x0*w3,y3*w0-y0*w3,z3*w0-z0*w3]=w0*w0*D3 x0 y0 z0 w0 x1 y1 z1 w1 x2 y2 z2 w2 x3 y3 z3 w3:=by
 simp only[dt,D3,AK,AL,ya,List.sum_nil];grind
theorem wP{w d:Int}(h:0<w):sg (w*d)=sg d:=by
 unfold sg
 by_cases h1:0<d
 .rw[if_pos (cg h h1),if_pos h1]
 .by_cases h2:d<0
  .have:w*d<0:=j4 h h2
   rw[if_neg (by omega),if_pos this,if_neg h1,if_pos h2]
  .have:d=0:=by omega
   subst this;rw[oj]
def Gp(n k:Nat)(v:PV):Prop:=∃xs w,v=.tup ((xs++[w]).map .int)/\Pq n k xs w
theorem Gp.two{v:PV}(h:Gp 2 1000 v):∃x y w,v=v2 x y w/\P2 x y w:=by
 obtain⟨xs,w,rfl,P⟩:=h
 match xs,P.len with
 |[x,y],_=>exact⟨x,y,w,rfl,P.bx x (by simp),P.bx y (by simp),P.bw,P.pos⟩
theorem Gp.three{v:PV}(h:Gp 3 1000 v):∃x y z w,v=v3 x y z w/\P3 x y z w:=by
 obtain⟨xs,w,rfl,P⟩:=h
 match xs,P.len with
 |[x,y,z],_=>exact⟨x,y,z,w,rfl,P.bx x (by simp),P.bx y (by simp),P.bx z (by simp),P.bw,P.pos⟩
theorem Sk(S:aG)(PL QL:BE)(xs ys:AX)(w v:Int)(hp:aE (.tup PL) (.int (-1))=some (.int w))(hq:aE (.tup QL) (.int (-1))=some (.int v))(hpj:∀j:Nat,j<xs.length->aE (.tup PL) (.int (j:Nat))=some (.int (xs.getD j 0)))(hqj:∀j:Nat,j<xs.length->aE (.tup QL) (.int (j:Nat))=some (.int (ys.getD j 0)))
  (bw:Bd 1000 w)(bv:Bd 1000 v)(hx:∀j,Bd 1000 (xs.getD j 0))(hy:∀j,Bd 1000 (ys.getD j 0)):∀(js:List Nat)(x:BG),(∀j∈js,j<xs.length)->
  cO [] (gN 0) (aC eE (aC aX (aC aE (aA 1) (aA 0)) (aC aE (aA 2) (cL dD (mC (.int 1))))) (aC aX (aC aE (aA 2) (aA 0)) (aC aE (aA 1) (cL dD (mC (.int 1)))))) (js.map λj=>.int (0+(j:Nat))) [x,some (.pv (.tup QL)),some (.pv (.tup PL))] S=.ok ((js.map λj=>ys.getD j 0*w-xs.getD j 0*v).map .int) S
 |[],x,_=>fA
 |j::js,x,h=>by
  have ih:=Sk S PL QL xs ys w v hp hq hpj hqj bw bv hx hy js (some (.pv (.int (0+(j:Nat))))) λi hi=>h i (bn _ hi);have e1:=hpj j (h j bf);have e2:=hqj j (h j bf);have m1:=mB ((hx j).mono (show 1000<=2000 by decide)) (bv.mono (show 1000<=2000 by decide));have m2:=mB ((hy j).mono (show 1000<=2000 by decide)) (bw.mono (show 1000<=2000 by decide));show cO [] _ _ (.int (0+(j:Nat))::js.map λj=>.int (0+(j:Nat))) _ S=_;rw[fL];simp only[sy]at ih⊢;generalize hX:xs.getD j 0=X at e1 m1;generalize hY:ys.getD j 0=Y at e2 m2;simp! [gN,bS,aO,aP,aR,aQ,aH,aN,e1,e2,hp,hq,m1,m2,ih];simp only[AJ]at hX hY;rw[hX,hY]
theorem Vq{xs ys:AX}{w v:Int}(S:aG)(hl:xs.length=ys.length)(h9:xs.length<=9)(hx:∀x∈xs,Bd 1000 x)(hy:∀y∈ys,Bd 1000 y)(bw:Bd 1000 w)(bv:Bd 1000 v):
  mE [.pv (.tup ((xs++[w]).map .int)),.pv (.tup ((ys++[v]).map .int))] S=.ok (.pv (.lst ((wa xs w ys v).map .int))) S:=by
 have ip:=qH xs w;have iq:=qH ys v;have ec:=Sk S _ _ xs ys w v ip iq (λj h=>wW xs w j h) (λj h=>wW ys v j (by omega)) bw bv (wA hx) (wA hy) (bj xs.length) none λj hj=>by simpa using hj
 have er:(bj xs.length).map (λj=>ys.getD j 0*w-xs.getD j 0*v)=wa xs w ys v:=Mj hl λx y=>y*w-x*v;rw[er]at ec;have hlen:((xs++[w]).map PV.int).length=xs.length+1:=by simp
 have hr:iY [.pv (.int (((xs.length+1:Nat):Int)-1))] S=.ok ((bj xs.length).map λj=>.int (0+(j:Nat)),[]) S:=by
  unfold iY;dsimp only;rw[if_pos ⟨by omega,by omega⟩];have:(((xs.length+1:Nat):Int)-1).toNat=xs.length:=by omega
  rw[this];rfl
 generalize (wa xs w ys v).map PV.int=ZL at ec;generalize (bj xs.length).map (λj=>PV.int (0+(j:Nat)))=RL at ec hr;generalize hP:(xs++[w]).map PV.int=PL at ip ec hlen;generalize (ys++[v]).map PV.int=QL at iq ec;unfold mE aW Rc;have hr2:=hr;rw[<-hlen]at hr2;simp! [bS,aO,aP,aR,aQ,aH,aN,bT,dB,hr2,cY,ec]
theorem Mt{x0 y0 w0 x1 y1 w1:Int}(S:aG)(p:P2 x0 y0 w0)(q:P2 x1 y1 w1):mE [.pv (v2 x0 y0 w0),.pv (v2 x1 y1 w1)] S=.ok (.pv (.lst [.int (x1*w0-x0*w1),.int (y1*w0-y0*w1)])) S:=by
 have e:=Vq (xs:=[x0,y0]) (ys:=[x1,y1]) (w:=w0) (v:=w1) S rfl (by simp) (by simp;exact⟨p.bx,p.by_⟩) (by simp;exact⟨q.bx,q.by_⟩) p.bw q.bw;exact e
theorem rK{x0 y0 z0 w0 x1 y1 z1 w1:Int}(S:aG)(p:P3 x0 y0 z0 w0)(q:P3 x1 y1 z1 w1):mE [.pv (v3 x0 y0 z0 w0),.pv (v3 x1 y1 z1 w1)] S=.ok (.pv (.lst [.int (x1*w0-x0*w1),.int (y1*w0-y0*w1),.int (z1*w0-z0*w1)])) S:=by
 have e:=Vq (xs:=[x0,y0,z0]) (ys:=[x1,y1,z1]) (w:=w0) (v:=w1) S rfl (by simp) (by simp;exact⟨p.bx,p.by_,p.bz⟩) (by simp;exact⟨q.bx,q.by_,q.bz⟩) p.bw q.bw;exact e
theorem L1{A:PV}{x0 y0 w0 x1 y1 w1 x2 y2 w2:Int}(S:aG)(hA:Sv A [v2 x0 y0 w0,v2 x1 y1 w1,v2 x2 y2 w2])(p:P2 x0 y0 w0)(q:P2 x1 y1 w1)(r:P2 x2 y2 w2):oS [.pv A] S=.ok (.pv (.int (w0*D2 x0 y0 w0 x1 y1 w1 x2 y2 w2))) S:=by
 have a1:=Mt S p q;have a2:=Mt S p r;have bu:=sb p.bx p.bw q.bx q.bw;have bv:=sb p.by_ p.bw q.by_ q.bw;have bu2:=sb p.bx p.bw r.bx r.bw;have bv2:=sb p.by_ p.bw r.by_ r.bw;have id:(x1*w0-x0*w1)*(y2*w0-y0*w2)-(y1*w0-y0*w1)*(x2*w0-x0*w2)=w0*D2 x0 y0 w0 x1 y1 w1 x2 y2 w2:=by
  unfold D2;grind
 generalize y2*w0-y0*w2=V1,x2*w0-x0*w2=V0,y1*w0-y0*w1=U1,x1*w0-x0*w1=U0,w0*D2 x0 y0 w0 x1 y1 w1 x2 y2 w2=D at *;have m1:=eK bu bv2;have m2:=eK bv bu2;generalize v2 x2 y2 w2=R,v2 x1 y1 w1=Q,v2 x0 y0 w0=P at *;have et:kG [.pv (.lst [.lst [.int U0,.int U1],.lst [.int V0,.int V1]])] S=.ok (.pv (.int D)) S:=by
  unfold kG aW qJ;simp! [aE,bC,bF,aM,aO,aP,aR,aQ,aH,aN,m1,m2,id]
 unfold oS aW wK;rcases hA with rfl |rfl
 .have s1:=xC P [Q,R]
  simp! [aE,bC,bF,aM,aO,aP,aR,aQ,aH,aN,bT,bR,cR,fZ,eA,fK,iO,s1,cY,fL,fA,gN,a1,a2,et]
 .have s1:=Zd P [Q,R]
  simp! [aE,bC,bF,aM,aO,aP,aR,aQ,aH,aN,bT,bR,cR,fZ,eA,fK,iO,s1,cY,fL,fA,gN,a1,a2,et]
theorem A8{A:PV}{x0 y0 z0 w0 x1 y1 z1 w1 x2 y2 z2 w2 x3 y3 z3 w3:Int}(S:aG)(hA:Sv A [v3 x0 y0 z0 w0,v3 x1 y1 z1 w1,v3 x2 y2 z2 w2,v3 x3 y3 z3 w3])(p:P3 x0 y0 z0 w0)(q:P3 x1 y1 z1 w1)(r:P3 x2 y2 z2 w2)(s:P3 x3 y3 z3 w3):oS [.pv A] S=.ok (.pv (.int (w0*w0*D3 x0 y0 z0 w0 x1 y1 z1 w1 x2 y2 z2 w2 x3 y3 z3 w3))) S:=by
 have a1:=rK S p q;have a2:=rK S p r;have a3:=rK S p s;have b1:=sb p.bx p.bw q.bx q.bw;have b2:=sb p.by_ p.bw q.by_ q.bw;have b3:=sb p.bz p.bw q.bz q.bw;have b4:=sb p.bx p.bw r.bx r.bw;have b5:=sb p.by_ p.bw r.by_ r.bw;have b6:=sb p.bz p.bw r.bz r.bw;have b7:=sb p.bx p.bw s.bx s.bw;have b8:=sb p.by_ p.bw s.by_ s.bw;have b9:=sb p.bz p.bw s.bz s.bw;have id:=acQ x0 y0 z0 w0 x1 y1 z1 w1 x2 y2 z2 w2 x3 y3 z3 w3;generalize z3*w0-z0*w3=T2,y3*w0-y0*w3=T1,x3*w0-x0*w3=T0,z2*w0-z0*w2=V2,y2*w0-y0*w2=V1,x2*w0-x0*w2=V0,z1*w0-z0*w1=U2,y1*w0-y0*w1=U1,x1*w0-x0*w1=U0,w0*w0*D3 x0 y0 z0 w0 x1 y1 z1 w1 x2 y2 z2 w2 x3 y3 z3 w3=D at *;have h:∀{a:Int},Bd 2001 a->Bd 10000 a:=λh=>h.mono (by decide);have h4:∀{a:Int},Bd 4003 a->Bd 100000 a:=λh=>h.mono (by decide);have h2:∀{a:Int},Bd 2001 a->Bd 100000 a:=λh=>h.mono (by decide);have en:=Qb (A:=.lst [.int U0,.int U1,.int U2]) (B:=.lst [.int V0,.int V1,.int V2]) S rfl rfl (h b1) (h b2) (h b3) (h b4) (h b5) (h b6);have c1:=cb b2 b6 b3 b5;have c2:=cb b3 b4 b1 b6;have c3:=cb b1 b5 b2 b4;have ed:=Co (A:=.lst [.int (U1*V2-U2*V1),.int (U2*V0-U0*V2),.int (U0*V1-U1*V0)]) (B:=.lst [.int T0,.int T1,.int T2]) (us:=[U1*V2-U2*V1,U2*V0-U0*V2,U0*V1-U1*V0]) (vs:=[T0,T1,T2]) S (.inl rfl) (.inl rfl) (by simp;exact⟨h4 c1,h4 c2,h4 c3⟩) (by simp;exact⟨h2 b7,h2 b8,h2 b9⟩);rw[id]at ed;generalize v3 x3 y3 z3 w3=T,v3 x2 y2 z2 w2=R,v3 x1 y1 z1 w1=Q,v3 x0 y0 z0 w0=P,U0*V1-U1*V0=N2,U2*V0-U0*V2=N1,U1*V2-U2*V1=N0 at *;have et:kG [.pv (.lst [.lst [.int U0,.int U1,.int U2],.lst [.int V0,.int V1,.int V2],.lst [.int T0,.int T1,.int T2]])] S=.ok (.pv (.int D)) S:=by
  unfold kG aW qJ;simp! [aE,bC,bF,aM,aO,aP,aR,aQ,aH,aN,en,ed]
 unfold oS aW wK;rcases hA with rfl |rfl
 .have s1:=xC P [Q,R,T]
  simp! [aE,bC,bF,aM,aO,aP,aR,aQ,aH,aN,bT,bR,cR,fZ,eA,fK,iO,s1,cY,fL,fA,gN,a1,a2,a3,et]
 .have s1:=Zd P [Q,R,T]
  simp! [aE,bC,bF,aM,aO,aP,aR,aQ,aH,aN,bT,bR,cR,fZ,eA,fK,iO,s1,cY,fL,fA,gN,a1,a2,a3,et]
theorem adM{S:aG}{k:Nat}{ns:AX}(n:Nat)(hn:n=2\/n=3)(h:fR S k ns):∃(v:PV)(ns':AX),nF [.ref k,.pv (.int n)] S=.ok (.pv v) (S.set k (.lst (ns'.map .int)))/\Gp n 100 v:=by
 obtain⟨xs,w,n1,e1,P,b1,b2⟩:=abK n hn h;exact⟨_,n1,e1,xs,w,rfl,P.pq b1 b2⟩
theorem Ep(ns:AX):∃g:Int,0<g/\ns=(low ns).map (g*·):=by
 by_cases h:gl ns 0=0
 .refine⟨1,by decide,?_⟩
  unfold low;rw[if_pos h];simp
 .have:=Re ns 0 (sx 0)
  exact⟨gl ns 0,by omega,(X9 h).symm⟩
theorem J6(ns:AX):low (ns.map (- ·))=(low ns).map (- ·):=by
 have e:gl (ns.map (- ·)) 0=gl ns 0:=by
  rw[<-R9 ns];exact congrArg (λl=>gl l 0) (dl λx _=>by omega)
 unfold low;rw[e];split
 .rfl
 .rw[fe,fe]
  refine dl λx hx=>?_;exact Int.neg_ediv_of_dvd ((jX ns 0).2 x hx)
theorem M5{S:aG}{k:Nat}{ns:AX}{L:BE}(h:fR S k ns):∃(A:PV)(ns':AX),pX [.ref k,.pv (.lst L)] S=.ok (.pv A) (S.set k (.lst (ns'.map .int)))/\Sv A L:=by
 obtain⟨t,n1,e1,t0,t1,_⟩:=jW (m:=2) h (by decide) (lU (by decide) (by decide));have tk:=Cm S k (.lst (n1.map .int));generalize hS:S.set k (.lst (n1.map .int))=S1 at e1 tk
 by_cases ht:t=1
 .subst ht
  refine⟨.tup L,n1,?_,.inr rfl⟩;rw[hS];unfold pX aW vD;simp! [aE,bC,bF,aM,aO,aP,aR,aQ,aH,aN,e1,tk]
 .refine⟨.lst L,n1,?_,.inl rfl⟩
  rw[hS];unfold pX aW vD;simp! [aE,bC,bF,aM,aO,aP,aR,aQ,aH,aN,e1,tk,ht]
def B2(x0 y0 w0 x1 y1 w1:Int):AX:=[-(y1*w0-y0*w1),x1*w0-x0*w1,x0*y1-y0*x1]
def N3(x0 y0 z0 w0 x1 y1 z1 w1 x2 y2 z2 w2:Int):AX:=[(y1*w0-y0*w1)*(z2*w0-z0*w2)-(z1*w0-z0*w1)*(y2*w0-y0*w2),(z1*w0-z0*w1)*(x2*w0-x0*w2)-(x1*w0-x0*w1)*(z2*w0-z0*w2),(x1*w0-x0*w1)*(y2*w0-y0*w2)-(y1*w0-y0*w1)*(x2*w0-x0*w2)]
theorem aao{G:Gd}{g:GM}{me:ME}{x:PV}{r:BE}{ρ:bW}{S:aG}(h:iC G S):cO G g me (x::r) ρ S=(match g x ρ with
  |none=>.fail
  |some ρ1=>match me ρ1 S with
   |.ok (.pv y) S1=>match cO G g me r ρ1 S1 with
    |.ok ys S2=>.ok (y::ys) S2
    |_=>.fail
   |_=>.fail):=by
 rw[cO,if_pos h]
 all_goals rfl
theorem M6{G:Gd}{g:GM}{me:ME}{ρ:bW}{S:aG}(h:iC G S):cO G g me [] ρ S=.ok [] S:=by
 rw[cO,if_pos h]
theorem Ym(a b c x0 y0 w0 x1 y1 w1 x2 y2 w2:Int):D2 (a*x0) (a*y0) (a*w0) (b*x1) (b*y1) (b*w1) (c*x2) (c*y2) (c*w2)=a*b*c*D2 x0 y0 w0 x1 y1 w1 x2 y2 w2:=by
 unfold D2;grind
theorem Mk(a b c d x0 y0 z0 w0 x1 y1 z1 w1 x2 y2 z2 w2 x3 y3 z3 w3:Int):D3 (a*x0) (a*y0) (a*z0) (a*w0) (b*x1) (b*y1) (b*z1) (b*w1) (c*x2) (c*y2) (c*z2) (c*w2) (d*x3) (d*y3) (d*z3) (d*w3)=a*b*c*d*D3 x0 y0 z0 w0 x1 y1 z1 w1 x2 y2 z2 w2 x3 y3 z3 w3:=by
 unfold D3;grind
structure R2(x y w X Y D:Int):Prop where
 pos:0<w
 dos:0<D
 ex:x*D=X*w
 ey:y*D=Y*w
theorem Pq.p2{k:Nat}{x y w:Int}(P:Pq 2 k [x,y] w)(h:k<=1000):P2 x y w:=⟨(P.bx x (by simp)).mono h,(P.bx y (by simp)).mono h,P.bw.mono h,P.pos⟩
theorem Pq.p3{k:Nat}{x y z w:Int}(P:Pq 3 k [x,y,z] w)(h:k<=1000):P3 x y z w:=⟨(P.bx x (by simp)).mono h,(P.bx y (by simp)).mono h,(P.bx z (by simp)).mono h,P.bw.mono h,P.pos⟩
def yV:BE->Int
 |[.tup [.int x0,.int y0,.int w0],.tup [.int x1,.int y1,.int w1],.tup [.int x2,.int y2,.int w2]]=>sg (D2 x0 y0 w0 x1 y1 w1 x2 y2 w2)
 |[.tup [.int x0,.int y0,.int z0,.int w0],.tup [.int x1,.int y1,.int z1,.int w1],.tup [.int x2,.int y2,.int z2,.int w2],.tup [.int x3,.int y3,.int z3,.int w3]]=>sg (D3 x0 y0 z0 w0 x1 y1 z1 w1 x2 y2 z2 w2 x3 y3 z3 w3)
 |_=>0
theorem abc(D:Int):sg (-D)=-sg D:=by
 unfold sg;split<;>split<;>(try split)<;>(try split)<;>omega
abbrev tv(us:AX):PV:=.tup (us.map .int)
def Gu(n k:Nat)(us:AX):Prop:=∃xs w,us=xs++[w]/\Pq n k xs w
theorem Gu.gp{n k:Nat}{us:AX}(h:Gu n k us):Gp n k (tv us):=by
 obtain⟨xs,w,rfl,P⟩:=h;exact⟨xs,w,rfl,P⟩
theorem Gu.ne{n k:Nat}{us:AX}(h:Gu n k us):us≠[]:=by
 obtain⟨xs,w,rfl,P⟩:=h;simp
theorem gps{n k:Nat}{uss:AY}(h:∀us∈uss,Gu n k us):∀v∈uss.map tv,Gp n k v:=λv hv=>by
 obtain⟨us,hu,rfl⟩:=dg.mp hv;exact(h us hu).gp
theorem Li:∀uss:AY,iT (uss.map tv)=some uss
 |[]=>rfl
 |us::uss=>by
  have ih:=Li uss;show(match jF (us.map .int),iT (uss.map tv)with |some is,some uss=>some (is::uss) |_,_=>none)=_
  rw[ih,zS]
theorem Jj{uss:AY}{n:Nat}(hl:uss.length=n)(hp:(dN uss).Perm (bj n)):Ae (uss.map tv) uss=(eW uss).map tv:=by
 unfold Ae eW;rw[fe];refine dl λi hi=>?_;have h:i<uss.length:=by
  have:=hp.subset hi;rw[hl];simpa using this
 simp[cf,h]
theorem Gx{A:PV}{uss:AY}(hl:uss.length=3\/uss.length=4)(hA:Sv A (uss.map tv))(hne:∀us∈uss,us≠[]):sO [A]=some (.lst ((eW uss).map tv)):=by
 have e:qT (uss.map tv)=some (.lst ((eW uss).map tv)):=by
  unfold qT;rw[Li];dsimp only;rcases hl with h |h
  .obtain⟨_,hp,_⟩:=Bp h
   rw[if_pos (show Me uss from⟨by omega,by omega,by rw[h];exact Ps,by rw[hp.length_eq];simp,hne⟩),Jj h hp]
  .obtain⟨_,hp,_⟩:=Tp h
   rw[if_pos (show Me uss from⟨by omega,by omega,by rw[h];exact Ws,by rw[hp.length_eq];simp,hne⟩),Jj h hp]
 rcases hA with rfl |rfl
 .exact e
 .exact e
def pL{α:Type}:List α->List α
 |[a,b,c]=>[a,c,b]
 |[a,b,c,d]=>[a,b,d,c]
 |l=>l
theorem U7{α β:Type}(f:α->β)(l:List α):(pL l).map f=pL (l.map f):=by
 rcases l with _ |⟨a,_ |⟨b,_ |⟨c,_ |⟨d,_ |⟨e,l⟩⟩⟩⟩⟩<;>rfl
theorem B8{α:Type}(l:List α):(pL l).Perm l:=by
 unfold pL;split
 .exact .cons _ (.swap _ _ _)
 .exact .cons _ (.cons _ (.swap _ _ _))
 .exact .refl _
def dU:AY->Int
 |[[x0,y0,w0],[x1,y1,w1],[x2,y2,w2]]=>D2 x0 y0 w0 x1 y1 w1 x2 y2 w2
 |[[x0,y0,z0,w0],[x1,y1,z1,w1],[x2,y2,z2,w2],[x3,y3,z3,w3]]=>D3 x0 y0 z0 w0 x1 y1 z1 w1 x2 y2 z2 w2 x3 y3 z3 w3
 |_=>0
theorem Gu.two{k:Nat}{us:AX}(h:Gu 2 k us)(hk:k<=1000):∃x y w,us=[x,y,w]/\P2 x y w:=by
 obtain⟨xs,w,rfl,P⟩:=h
 match xs,P.len,P with
 |[x,y],_,P=>exact⟨x,y,w,rfl,P.p2 hk⟩
theorem Gu.three{k:Nat}{us:AX}(h:Gu 3 k us)(hk:k<=1000):∃x y z w,us=[x,y,z,w]/\P3 x y z w:=by
 obtain⟨xs,w,rfl,P⟩:=h
 match xs,P.len,P with
 |[x,y,z],_,P=>exact⟨x,y,z,w,rfl,P.p3 hk⟩
theorem abG{n k:Nat}(hn:n=2\/n=3)(hk:k<=1000){uss:AY}(hl:uss.length=n+1)(hg:∀us∈uss,Gu n k us):yV (uss.map tv)=sg (dU uss):=by
 rcases hn with rfl |rfl
 .match uss,hl with
  |[a,b,c],_=>
   obtain⟨x0,y0,w0,rfl,_⟩:=(hg a (by simp)).two hk;obtain⟨x1,y1,w1,rfl,_⟩:=(hg b (by simp)).two hk;obtain⟨x2,y2,w2,rfl,_⟩:=(hg c (by simp)).two hk;rfl
 .match uss,hl with
  |[a,b,c,d],_=>
   obtain⟨x0,y0,z0,w0,rfl,_⟩:=(hg a (by simp)).three hk;obtain⟨x1,y1,z1,w1,rfl,_⟩:=(hg b (by simp)).three hk;obtain⟨x2,y2,z2,w2,rfl,_⟩:=(hg c (by simp)).three hk;obtain⟨x3,y3,z3,w3,rfl,_⟩:=(hg d (by simp)).three hk;rfl
def Pw(n:Nat)(us:AX):Prop:=∃xs w,us=xs++[w]/\xs.length=n/\0<w
theorem Pw.two{us:AX}(h:Pw 2 us):∃x y w,us=[x,y,w]/\0<w:=by
 obtain⟨xs,w,rfl,l,p⟩:=h
 match xs,l with
 |[x,y],_=>exact⟨x,y,w,rfl,p⟩
theorem Pw.three{us:AX}(h:Pw 3 us):∃x y z w,us=[x,y,z,w]/\0<w:=by
 obtain⟨xs,w,rfl,l,p⟩:=h
 match xs,l with
 |[x,y,z],_=>exact⟨x,y,z,w,rfl,p⟩
theorem Gu.pt{n k:Nat}{us:AX}(h:Gu n k us):Pw n us:=by
 obtain⟨xs,w,e,P⟩:=h;exact⟨xs,w,e,P.len,P.pos⟩
theorem dU2{x0 y0 w0 x1 y1 w1 x2 y2 w2:Int}:dU [[x0,y0,w0],[x1,y1,w1],[x2,y2,w2]]=D2 x0 y0 w0 x1 y1 w1 x2 y2 w2:=rfl
theorem Lu{x0 y0 z0 w0 x1 y1 z1 w1 x2 y2 z2 w2 x3 y3 z3 w3:Int}:dU [[x0,y0,z0,w0],[x1,y1,z1,w1],[x2,y2,z2,w2],[x3,y3,z3,w3]]=D3 x0 y0 z0 w0 x1 y1 z1 w1 x2 y2 z2 w2 x3 y3 z3 w3:=rfl
theorem P9{n:Nat}(hn:n=2\/n=3){pre l:AY}{x y:AX}(hl:(pre++y::x::l).length=n+1)(hp:∀u∈pre++y::x::l,Pw n u):dU (pre++x::y::l)=-dU (pre++y::x::l):=by
 have hx:=hp x (by simp);have hy:=hp y (by simp);rcases hn with rfl |rfl
 .obtain⟨x0,y0,w0,rfl,_⟩:=hx.two
  obtain⟨x1,y1,w1,rfl,_⟩:=hy.two;have fin:∀c∈pre++l,∃x y w,c=[x,y,w]:=λc hc=>by
   obtain⟨x,y,w,e,_⟩:=(hp c (by simp at hc⊢;rcases hc with h |h<;>simp[h])).two;exact⟨x,y,w,e⟩
  match pre,l,hl,fin with
  |[],[c],_,fin |[c],[],_,fin=>
   obtain⟨x2,y2,w2,rfl⟩:=fin c (by simp);simp only[jy,uz,dU2,D2];grind
  |[],[],h,_=>simp at h
  |[],_::_::_,h,_=>simp at h
  |_::_::_,_,h,_=>simp at h;omega
  |[_],_::_,h,_=>simp at h
 .obtain⟨x0,y0,z0,w0,rfl,_⟩:=hx.three
  obtain⟨x1,y1,z1,w1,rfl,_⟩:=hy.three;have fin:∀c∈pre++l,∃x y z w,c=[x,y,z,w]:=λc hc=>by
   obtain⟨x,y,z,w,e,_⟩:=(hp c (by simp at hc⊢;rcases hc with h |h<;>simp[h])).three;exact⟨x,y,z,w,e⟩
  match pre,l,hl,fin with
  |[],[c,d],_,fin |[c],[d],_,fin |[c,d],[],_,fin=>
   obtain⟨x2,y2,z2,w2,rfl⟩:=fin c (by simp);obtain⟨x3,y3,z3,w3,rfl⟩:=fin d (by simp);simp only[jy,uz,Lu,D3];grind
  |[],[],h,_=>simp at h
  |[],[_],h,_=>simp at h
  |[],_::_::_::_,h,_=>simp at h
  |[_],[],h,_=>simp at h
  |[_],_::_::_,h,_=>simp at h
  |[_,_],_::_,h,_=>simp at h
  |_::_::_::_,_,h,_=>simp at h;omega
theorem aav{n:Nat}(hn:n=2\/n=3){A B:AY}(h:A.Perm B):∀pre:AY,(pre++A).length=n+1->(∀u∈pre++A,Pw n u)->dU (pre++B)=dU (pre++A)\/dU (pre++B)=-dU (pre++A):=by
 induction h with
 |nil=>exact λpre _ _=>.inl rfl
 |cons x _ ih=>
  intro pre hl hp;have:=ih (pre++[x]) (by simpa using hl) (by simpa using hp);simpa using this
 |swap x y l=>exact λpre hl hp=>.inr (P9 hn hl hp)
 |trans h1 h2 ih1 ih2=>
  intro pre hl hp;have q1:=ih1 pre hl hp;have q2:=ih2 pre (by rw[<-(h1.append_left pre).length_eq];exact hl) λu hu=>hp u ((h1.append_left pre).mem_iff.mpr hu);omega
theorem R5{n k:Nat}(hn:n=2\/n=3)(hk:k<=1000){uss:AY}(hl:uss.length=n+1)(hg:∀us∈uss,Gu n k us):dU (eW uss)=dU uss\/dU (eW uss)=-dU uss:=
 aav hn (pT (by omega)).1.symm [] hl λu hu=>(hg u hu).pt
theorem Fe{n:Nat}(hn:n=2\/n=3){uss:AY}(hl:uss.length=n+1):uss.length=3\/uss.length=4:=by
 rcases hn with rfl |rfl
 .exact .inl hl
 .exact .inr hl
theorem Q8{n:Nat}(hn:n=2\/n=3){A:PV}{L:BE}(S:aG)(hl:L.length=n+1)(hg:∀v∈L,Gp n 1000 v)(hA:Sv A L):∃d:Int,oS [.pv A] S=.ok (.pv (.int d)) S/\sg d=yV L:=by
 rcases hn with rfl |rfl
 .match L,hl with
  |[P,Q,R],_=>
   obtain⟨x0,y0,w0,rfl,p⟩:=(hg P (by simp)).two;obtain⟨x1,y1,w1,rfl,q⟩:=(hg Q (by simp)).two;obtain⟨x2,y2,w2,rfl,r⟩:=(hg R (by simp)).two;exact⟨_,L1 S hA p q r,wP p.pos⟩
 .match L,hl with
  |[P,Q,R,T],_=>
   obtain⟨x0,y0,z0,w0,rfl,p⟩:=(hg P (by simp)).three;obtain⟨x1,y1,z1,w1,rfl,q⟩:=(hg Q (by simp)).three;obtain⟨x2,y2,z2,w2,rfl,r⟩:=(hg R (by simp)).three;obtain⟨x3,y3,z3,w3,rfl,s⟩:=(hg T (by simp)).three;exact⟨_,A8 S hA p q r s,wP (cg p.pos p.pos)⟩
def iI(uss:AY):AY:=if yV ((eW uss).map tv)<0 then pL (eW uss)else eW uss
theorem ada{n:Nat}(hn:n=2\/n=3){L:BE}(hl:L.length=n+1):∃a b M,kP (.lst L) none (some (-2))=some (.lst M)/\aE (.lst L) (.int (-1))=some a/\aE (.lst L) (.int (-2))=some b/\aH (.lst M) (.lst [a,b])=some (.lst (pL L)):=by
 rcases hn with rfl |rfl
 .match L,hl with
  |[P,Q,R],_=>exact⟨R,Q,[P],rfl,rfl,rfl,rfl⟩
 .match L,hl with
  |[P,Q,R,T],_=>exact⟨T,R,[P,Q],rfl,rfl,rfl,rfl⟩
theorem Fw{n:Nat}(hn:n=2\/n=3){A:PV}{a:AV}{uss:AY}(S:aG)(ha:rd S a=some A)(hl:uss.length=n+1)(hg:∀us∈uss,Gu n 1000 us)(hA:Sv A (uss.map tv)):oH [a] S=.ok (.pv (.tup ((iI uss).map tv))) S:=by
 have h34:uss.length=3\/uss.length=4:=by omega
 have e1:=Gx h34 hA λus hu=>(hg us hu).ne;obtain⟨pm,_⟩:=pT h34;have hl2:((eW uss).map tv).length=n+1:=by rw[ao,pm.length_eq];exact hl
 have hg2:∀v∈(eW uss).map tv,Gp n 1000 v:=gps λus hu=>hg us (pm.subset hu);obtain⟨d,e2,hd⟩:=Q8 (A:=.lst ((eW uss).map tv)) hn S hl2 hg2 (.inl rfl);obtain⟨a1,b1,M,t1,t2,t3,t4⟩:=ada hn hl2;unfold iI;have hlt:d<0↔yV ((eW uss).map tv)<0:=by
  rw[<-hd];unfold sg;split
  .omega
  .split<;>omega
 by_cases h:d<0
 .rw[if_pos (hlt.mp h),U7]
  generalize (eW uss).map tv=L at *;unfold oH aW uR;simp! [-rd,rd.eq_1,bS,aO,aP,aR,aQ,aN,ha,e1,e2,h,fZ,eA,fK,iO,t1,t2,t3,t4]
 .rw[if_neg (λz=>h (hlt.mpr z))]
  generalize (eW uss).map tv=L at *;unfold oH aW uR;simp! [-rd,rd.eq_1,bS,aO,aP,aR,aQ,aN,ha,e1,e2,h]
theorem Kw{n:Nat}(hn:n=2\/n=3){A:PV}{uss:AY}(S:aG)(hl:uss.length=n+1)(hg:∀us∈uss,Gu n 1000 us)(hA:Sv A (uss.map tv)):oH [.pv A] S=.ok (.pv (.tup ((iI uss).map tv))) S:=Fw hn S rfl hl hg hA
theorem Xk{uss:AY}(h:uss.length=3\/uss.length=4):(iI uss).Perm uss:=by
 obtain⟨pm,_⟩:=pT h;unfold iI;split
 .exact(B8 _).trans pm
 .exact pm
theorem R7{uss:AY}(h:uss.length=3\/uss.length=4):iI (iI uss)=iI uss:=by
 have e:=Gv (Xk h) h;unfold iI at e⊢;rw[e]
theorem aa7{S:aG}{k j:Nat}{xs:BE}{v:PV}(hS:S[k]?=some (.lst xs))(hv:xs[j]?=some v)(hj:j<1000):pD k [.pv (.int (j:Int))] S=.ok (.pv v) (S.set k (.lst (xs.eraseIdx j))):=by
 have hl:=(ce.mp hv).1;have e:seqIndex? (j:Int) xs.length=some j:=by
  unfold seqIndex?;have h1:¬((j:Int)<0):=by omega
  have h2:(decide (0<=(j:Int))&&decide ((j:Int)<(xs.length:Int)))=true:=by
   simp only[jb,decide_eq_true_eq];omega
  simp only[h1,if_false];rw[if_pos h2,mj]
 unfold pD;dsimp only;rw[if_pos ⟨by omega,by omega⟩,hS];dsimp only;rw[e];dsimp only;rw[hv]
def wU:AY->Int
 |[]=>1
 |us::r=>us.getLastD 0*wU r
theorem Gu.mono{n k l:Nat}{us:AX}(h:Gu n k us)(hl:k<=l):Gu n l us:=by
 obtain⟨xs,w,e,P⟩:=h;exact⟨xs,w,e,P.mono hl⟩
theorem Bt{d:Int}:sg d<0↔d<0:=by
 unfold sg;split
 .omega
 .split<;>omega
theorem aa1{n k:Nat}(hn:n=2\/n=3)(hk:k<=1000){uss:AY}(hl:uss.length=n+1)(hg:∀us∈uss,Gu n k us):dU (pL uss)=-dU uss:=by
 rcases hn with rfl |rfl
 .match uss,hl with
  |[a,b,c],_=>
   obtain⟨x0,y0,w0,rfl,_⟩:=(hg a (by simp)).two hk;obtain⟨x1,y1,w1,rfl,_⟩:=(hg b (by simp)).two hk;obtain⟨x2,y2,w2,rfl,_⟩:=(hg c (by simp)).two hk;show D2 x0 y0 w0 x2 y2 w2 x1 y1 w1=-(D2 x0 y0 w0 x1 y1 w1 x2 y2 w2);unfold D2;grind
 .match uss,hl with
  |[a,b,c,d],_=>
   obtain⟨x0,y0,z0,w0,rfl,_⟩:=(hg a (by simp)).three hk;obtain⟨x1,y1,z1,w1,rfl,_⟩:=(hg b (by simp)).three hk;obtain⟨x2,y2,z2,w2,rfl,_⟩:=(hg c (by simp)).three hk;obtain⟨x3,y3,z3,w3,rfl,_⟩:=(hg d (by simp)).three hk;show D3 x0 y0 z0 w0 x1 y1 z1 w1 x3 y3 z3 w3 x2 y2 z2 w2=-(D3 x0 y0 z0 w0 x1 y1 z1 w1 x2 y2 z2 w2 x3 y3 z3 w3);unfold D3;grind
theorem aa6{n k:Nat}(hn:n=2\/n=3)(hk:k<=1000){uss:AY}(hl:uss.length=n+1)(hg:∀us∈uss,Gu n k us):dU (iI uss)=((dU uss).natAbs:Int):=by
 have hp:=(pT (Fe hn hl)).1;have gs:∀us∈eW uss,Gu n k us:=λus hu=>hg us (hp.subset hu);have ls:(eW uss).length=n+1:=by rw[hp.length_eq,hl]
 have e:=R5 hn hk hl hg;have s:=aa1 hn hk ls gs;have q:=abG hn hk ls gs;unfold iI;split
 .rename_i h
  rw[q,Bt]at h;rw[s];omega
 .rename_i h
  rw[q,Bt]at h;omega
theorem sQ{n k:Nat}:∀{uss:AY},(∀us∈uss,Gu n k us)->0<wU uss
 |[],_=>by decide
 |us::r,h=>by
  unfold wU;obtain⟨xs,w,rfl,P⟩:=h us bf;refine cg ?_ (sQ λu hu=>h u (bn _ hu));rw[show(xs++[w]).getLastD 0=w by simp];exact P.pos
structure Sx(n k:Nat)(uss:AY):Prop where
 len:uss.length=n+1
 gu:∀us∈uss,Gu n k us
 nz:dU uss≠0
 cn:iI uss=uss
abbrev px(uss:AY):PV:=.tup (uss.map tv)
theorem ac5{n k:Nat}(hn:n=2\/n=3)(hk:k<=1000){uss:AY}(hl:uss.length=n+1)(hg:∀us∈uss,Gu n k us)(nz:dU uss≠0):Sx n k (iI uss):=by
 have hp:=Xk (Fe hn hl);refine⟨by rw[hp.length_eq,hl],λus hu=>hg us (hp.subset hu),?_,R7 (Fe hn hl)⟩;rw[aa6 hn hk hl hg];omega
def iX(n:Nat)(A C:Nat->Int)(E:Int)(us us':AX):Prop:=∃xs w xs' w',us=xs++[w]/\us'=xs'++[w']/\xs.length=n/\xs'.length=n/\0<w/\0<w'/\∀j,j<n->xs'.getD j 0*(E*w)=(A j*xs.getD j 0+C j*w)*w'
theorem iX.two{A C:Nat->Int}{E:Int}{us us':AX}(h:iX 2 A C E us us'):∃x y w x' y' w',us=[x,y,w]/\us'=[x',y',w']/\x'*(E*w)=(A 0*x+C 0*w)*w'/\y'*(E*w)=(A 1*y+C 1*w)*w':=by
 obtain⟨xs,w,xs',w',rfl,rfl,l,l',_,_,h⟩:=h
 match xs,l,xs',l',h with
 |[x,y],_,[x',y'],_,h=>exact⟨x,y,w,x',y',w',rfl,rfl,h 0 (by decide),h 1 (by decide)⟩
theorem iX.three{A C:Nat->Int}{E:Int}{us us':AX}(h:iX 3 A C E us us'):∃x y z w x' y' z' w',us=[x,y,z,w]/\us'=[x',y',z',w']/\x'*(E*w)=(A 0*x+C 0*w)*w'/\y'*(E*w)=(A 1*y+C 1*w)*w'/\z'*(E*w)=(A 2*z+C 2*w)*w':=by
 obtain⟨xs,w,xs',w',rfl,rfl,l,l',_,_,h⟩:=h
 match xs,l,xs',l',h with
 |[x,y,z],_,[x',y',z'],_,h=>exact⟨x,y,z,w,x',y',z',w',rfl,rfl,h 0 (by decide),h 1 (by decide),h 2 (by decide)⟩
theorem acD(a b c d E x0 y0 w0 x1 y1 w1 x2 y2 w2:Int):D2 (a*x0+c*w0) (b*y0+d*w0) (E*w0) (a*x1+c*w1) (b*y1+d*w1) (E*w1) (a*x2+c*w2) (b*y2+d*w2) (E*w2)=a*b*E*D2 x0 y0 w0 x1 y1 w1 x2 y2 w2:=by
 unfold D2;grind
theorem acH(a b p c d e E x0 y0 z0 w0 x1 y1 z1 w1 x2 y2 z2 w2 x3 y3 z3 w3:Int):D3 (a*x0+c*w0) (b*y0+d*w0) (p*z0+e*w0) (E*w0) (a*x1+c*w1) (b*y1+d*w1) (p*z1+e*w1) (E*w1) (a*x2+c*w2) (b*y2+d*w2) (p*z2+e*w2) (E*w2) (a*x3+c*w3) (b*y3+d*w3) (p*z3+e*w3) (E*w3)=a*b*p*E*D3 x0 y0 z0 w0 x1 y1 z1 w1 x2 y2 z2 w2 x3 y3 z3 w3:=by
 unfold D3;grind
theorem cm(a b:Int){c:Int}(h:a*b=c):b*a=c:=by rw[dy];exact h
theorem Ht{A C:Nat->Int}{E:Int}{P Q R P' Q' R':AX}(h0:iX 2 A C E P P')(h1:iX 2 A C E Q Q')(h2:iX 2 A C E R R'):dU [P',Q',R']*(E*E*E*wU [P,Q,R])=A 0*A 1*E*dU [P,Q,R]*wU [P',Q',R']:=by
 obtain⟨x0,y0,w0,X0,Y0,W0,rfl,rfl,p,q⟩:=h0.two;obtain⟨x1,y1,w1,X1,Y1,W1,rfl,rfl,p1,q1⟩:=h1.two;obtain⟨x2,y2,w2,X2,Y2,W2,rfl,rfl,p2,q2⟩:=h2.two;have e:=Ym (E*w0) (E*w1) (E*w2) X0 Y0 W0 X1 Y1 W1 X2 Y2 W2;have f:=Ym W0 W1 W2 (A 0*x0+C 0*w0) (A 1*y0+C 1*w0) (E*w0) (A 0*x1+C 0*w1) (A 1*y1+C 1*w1) (E*w1) (A 0*x2+C 0*w2) (A 1*y2+C 1*w2) (E*w2);rw[acD]at f;rw[cm _ _ p,cm _ _ q,cm _ _ p1,cm _ _ q1,cm _ _ p2,cm _ _ q2,dy _ W0,dy _ W0,dy _ W0,dy _ W1,dy _ W1,dy _ W1,dy _ W2,dy _ W2,dy _ W2]at e;have g:=e.symm.trans f;show D2 X0 Y0 W0 X1 Y1 W1 X2 Y2 W2*(E*E*E*(w0*(w1*(w2*1))))=A 0*A 1*E*D2 x0 y0 w0 x1 y1 w1 x2 y2 w2*(W0*(W1*(W2*1)));generalize D2 X0 Y0 W0 X1 Y1 W1 X2 Y2 W2=d at g⊢;generalize D2 x0 y0 w0 x1 y1 w1 x2 y2 w2=d' at g⊢;clear e f p q p1 q1 p2 q2 h0 h1 h2;grind
theorem Zt{A C:Nat->Int}{E:Int}{P Q R T P' Q' R' T':AX}(h0:iX 3 A C E P P')(h1:iX 3 A C E Q Q')(h2:iX 3 A C E R R')(h3:iX 3 A C E T T'):dU [P',Q',R',T']*(E*E*E*E*wU [P,Q,R,T])=A 0*A 1*A 2*E*dU [P,Q,R,T]*wU [P',Q',R',T']:=by
 obtain⟨x0,y0,z0,w0,X0,Y0,Z0,W0,rfl,rfl,p,q,r⟩:=h0.three;obtain⟨x1,y1,z1,w1,X1,Y1,Z1,W1,rfl,rfl,p1,q1,r1⟩:=h1.three;obtain⟨x2,y2,z2,w2,X2,Y2,Z2,W2,rfl,rfl,p2,q2,r2⟩:=h2.three;obtain⟨x3,y3,z3,w3,X3,Y3,Z3,W3,rfl,rfl,p3,q3,r3⟩:=h3.three;have e:=Mk (E*w0) (E*w1) (E*w2) (E*w3) X0 Y0 Z0 W0 X1 Y1 Z1 W1 X2 Y2 Z2 W2 X3 Y3 Z3 W3;have f:=Mk W0 W1 W2 W3 (A 0*x0+C 0*w0) (A 1*y0+C 1*w0) (A 2*z0+C 2*w0) (E*w0) (A 0*x1+C 0*w1) (A 1*y1+C 1*w1) (A 2*z1+C 2*w1) (E*w1) (A 0*x2+C 0*w2) (A 1*y2+C 1*w2) (A 2*z2+C 2*w2) (E*w2) (A 0*x3+C 0*w3) (A 1*y3+C 1*w3) (A 2*z3+C 2*w3) (E*w3);rw[acH]at f;rw[cm _ _ p,cm _ _ q,cm _ _ r,cm _ _ p1,cm _ _ q1,cm _ _ r1,cm _ _ p2,cm _ _ q2,cm _ _ r2,cm _ _ p3,cm _ _ q3,cm _ _ r3]at e;have cW:∀a W:Int,a*W=W*a:=dy;rw[cW _ W0,cW _ W0,cW _ W0,cW _ W0,cW _ W1,cW _ W1,cW _ W1,cW _ W1,cW _ W2,cW _ W2,cW _ W2,cW _ W2,cW _ W3,cW _ W3,cW _ W3,cW _ W3]at e;have g:=e.symm.trans f;show D3 X0 Y0 Z0 W0 X1 Y1 Z1 W1 X2 Y2 Z2 W2 X3 Y3 Z3 W3*(E*E*E*E*(w0*(w1*(w2*(w3*1)))))=A 0*A 1*A 2*E*D3 x0 y0 z0 w0 x1 y1 z1 w1 x2 y2 z2 w2 x3 y3 z3 w3*(W0*(W1*(W2*(W3*1))));generalize D3 X0 Y0 Z0 W0 X1 Y1 Z1 W1 X2 Y2 Z2 W2 X3 Y3 Z3 W3=d at g⊢;generalize D3 x0 y0 z0 w0 x1 y1 z1 w1 x2 y2 z2 w2 x3 y3 z3 w3=d' at g⊢;clear e f p q r p1 q1 r1 p2 q2 r2 p3 q3 r3 h0 h1 h2 h3 cW;grind
def gB(way:Int)(f us:AX):AX:=mv way us.dropLast (us.getLastD 0) f.dropLast (f.getLastD 0)
theorem Oq(way:Int)(xs:AX)(w:Int)(ys:AX)(v:Int):gB way (ys++[v]) (xs++[w])=mv way xs w ys v:=by
 unfold gB;simp
theorem nH{n k l:Nat}{way:Int}{us f:AX}(hway:way=1\/way=-1)(h:Gu n k us)(g:Gu n l f):Gu n (k+l+1) (gB way f us)/\iX n (λ_=>way*f.getLastD 0) (λj=>f.getD j 0) (f.getLastD 0) us (gB way f us):=by
 obtain⟨xs,w,rfl,P⟩:=h;obtain⟨ys,v,rfl,Q⟩:=g;rw[Oq];obtain⟨zs,z,e,Z,hv⟩:=acm hway P Q;rw[e];refine⟨⟨zs,z,rfl,Z⟩,xs,w,zs,z,rfl,rfl,P.len,Z.len,P.pos,Z.pos,λj hj=>?_⟩;have a:=hv _ _ _ _ (Vl.self n xs w) (Vl.self n ys v) P.pos Q.pos j hj;rw[show(ys++[v]).getLastD 0=v by simp];have eg:(ys++[v]).getD j 0=ys.getD j 0:=by
  have:j<ys.length:=by rw[Q.len];exact hj
  simp[cf,fj this]
 dsimp only at a⊢;rw[eg];generalize ys.getD j 0=y at a⊢;generalize xs.getD j 0=x at a⊢;generalize zs.getD j 0=t at a⊢;rw[dy v w,a];grind
theorem W9{n k l:Nat}{way:Int}{us f:AX}(S:aG)(hn:n=2\/n=3)(hway:way=1\/way=-1)(h:Gu n k us)(g:Gu n l f)(hk:k<=1000)(hl:l<=1000):mZ [.pv (tv us),.pv (tv f),.pv (.int way)] S=.ok (.pv (tv (gB way f us))) S:=by
 obtain⟨xs,w,rfl,P⟩:=h;obtain⟨ys,v,rfl,Q⟩:=g;rw[Oq];exact T7 S hn hway P Q hk hl
theorem Iz{a b w v:Int}(hw:0<w)(hv:0<v)(h:a*w=b*v\/a*w=-(b*v)):(a.natAbs:Int)*w=(b.natAbs:Int)*v:=by
 have e:(a*w).natAbs=(b*v).natAbs:=by
  rcases h with h |h
  .rw[h]
  .rw[h,g9]
 rw[qj,qj]at e;have e1:((w.natAbs:Nat):Int)=w:=by omega
 have e2:((v.natAbs:Nat):Int)=v:=by omega
 have e3:((a.natAbs*w.natAbs:Nat):Int)=((b.natAbs*v.natAbs:Nat):Int):=by rw[e]
 rw[AM,AM,e1,e2]at e3;exact e3
theorem adS{v d d' w w':Int}{way:Int}(hv:0<v)(hway:way=1\/way=-1)(h:d'*(v*v*v*w)=way*v*(way*v)*v*d*w'):d'*w=d*w':=by
 have e:(d'*w)*(v*v*v)=(d*w')*(v*v*v):=by rcases hway with rfl |rfl<;>grind
 exact wI (cg (cg hv hv) hv) e
theorem adi{v d d' w w':Int}{way:Int}(hv:0<v)(hway:way=1\/way=-1)(h:d'*(v*v*v*v*w)=way*v*(way*v)*(way*v)*v*d*w'):d'*w=d*w'\/d'*w=-(d*w'):=by
 have p:=cg (cg (cg hv hv) hv) hv;rcases hway with rfl |rfl
 .left
  have e:(d'*w)*(v*v*v*v)=(d*w')*(v*v*v*v):=by grind
  exact wI p e
 .right
  have e:(d'*w)*(v*v*v*v)=(-(d*w'))*(v*v*v*v):=by grind
  exact wI p e
theorem Ed{n k l:Nat}{way:Int}{f:AX}{uss:AY}(hway:way=1\/way=-1)(hg:∀us∈uss,Gu n k us)(g:Gu n l f):∀us∈uss.map (gB way f),Gu n (k+l+1) us:=λus hu=>by
 obtain⟨u,hm,rfl⟩:=dg.mp hu;exact(nH hway (hg u hm) g).1
theorem Gu.lastpos{n k:Nat}{f:AX}(h:Gu n k f):0<f.getLastD 0:=by
 obtain⟨xs,w,rfl,P⟩:=h;rw[show(xs++[w]).getLastD 0=w by simp];exact P.pos
theorem abO{n k l:Nat}(hn:n=2\/n=3){way:Int}{f:AX}{uss:AY}(hway:way=1\/way=-1)(hl:uss.length=n+1)(hg:∀us∈uss,Gu n k us)(g:Gu n l f):((dU (uss.map (gB way f))).natAbs:Int)*wU uss=((dU uss).natAbs:Int)*wU (uss.map (gB way f)):=by
 have hv:=g.lastpos;have p1:=sQ hg;have p2:=sQ (Ed hway hg g);refine Iz p1 p2 ?_;rcases hn with rfl |rfl
 .match uss,hl,hg with
  |[a,b,c],_,hg=>
   have e:=Ht (nH hway (hg a (by simp)) g).2 (nH hway (hg b (by simp)) g).2 (nH hway (hg c (by simp)) g).2;exact .inl (adS hv hway e)
 .match uss,hl,hg with
  |[a,b,c,d],_,hg=>
   have e:=Zt (nH hway (hg a (by simp)) g).2 (nH hway (hg b (by simp)) g).2 (nH hway (hg c (by simp)) g).2 (nH hway (hg d (by simp)) g).2;exact adi hv hway e
theorem acx{n k l:Nat}(hn:n=2\/n=3){way:Int}{f:AX}{uss:AY}(hway:way=1\/way=-1)(hl:uss.length=n+1)(hg:∀us∈uss,Gu n k us)(g:Gu n l f)(h:dU uss≠0):dU (uss.map (gB way f))≠0:=λz=>by
 have e:=abO hn hway hl hg g;rw[z]at e;have p2:=sQ (Ed hway hg g);have:((dU uss).natAbs:Int)*wU (uss.map (gB way f))≠0:=gm (by omega) (ib p2);exact this (by rw[<-e];simp)
theorem Ma{G:Gd}{S:aG}(hG:iC G S){me:ME}{tail:bW}{α:Type}(A B:α->PV):∀(L:List α)(x:BG),(∀v∈L,me (some (.pv (A v))::tail) S=.ok (.pv (B v)) S)->cO G (gN 0) me (L.map A) (x::tail) S=.ok (L.map B) S
 |[],x,_=>M6 hG
 |v::L,x,h=>by
  have e:=h v bf;have e':=Ma hG A B L (some (.pv (A v))) λu hu=>h u (bn _ hu);rw[aw,aao hG];simp[gN,e,e']
theorem Gu.three'{k:Nat}{us:AX}(h:Gu 3 k us):∃x y z w,us=[x,y,z,w]/\0<w/\Bd k x/\Bd k y/\Bd k z/\Bd k w:=by
 obtain⟨xs,w,rfl,P⟩:=h
 match xs,P.len,P with
 |[x,y,z],_,P=>exact⟨x,y,z,w,rfl,P.pos,P.bx x (by simp),P.bx y (by simp),P.bx z (by simp),P.bw⟩
def sh(n:Nat):Int:=if n=2 then 2 else 6
theorem mk{k l:Nat}{a b:Int}(h:Bd k a)(g:Bd l b)(hk:k<=100000)(hl:l<=100000):aX (.int a) (.int b)=some (.int (a*b)):=lF (.inr ⟨h.mono (by omega),g.mono (by omega)⟩)
theorem sq{a b:MS}{ρ ρ':bW}{S S':aG}{r:cD}(h:a ρ S=.nx ρ' S')(g:b ρ' S'=r):aK a b ρ S=r:=by
 rw[aK,h];exact g
theorem tJ{np n:Nat}{b:MS}{xs:BH}{S S':aG}{v:AV}{r:bP AV}(hl:xs.length=np)(h:b (jE n xs) S=.rt v S')(hc:kJ S.length v S'=r):aW np n b xs S=r:=by
 unfold aW;rw[if_pos hl,h];exact hc
theorem Fa{S:aG}{me:ME}{α:Type}(A B C:α->PV):∀(L:List α)(x y:BG),(∀v∈L,me [some (.pv (A v)),some (.pv (B v))] S=.ok (.pv (C v)) S)->cO [] (gT 2 (bH (gN 0) (bH (gN 1) cP))) me (L.map λv=>.tup [A v,B v]) [x,y] S=.ok (L.map C) S
 |[],x,y,_=>fA
 |v::L,x,y,h=>by
  have e:=h v bf;have e':=Fa A B C L (some (.pv (A v))) (some (.pv (B v))) λu hu=>h u (bn _ hu);rw[aw,fL];simp[gN,gT,bH,cP,e,e']
theorem ady(L:BE){a:Nat}(h:a<=L.length):kP (.lst L) (some (a:Int)) none=some (.lst (L.drop a)):=by
 unfold kP;dsimp only;unfold jN;rw[HT.sIx_nat];show some (PV.lst ((L.drop (min a L.length)).take (L.length-min a L.length)))=_;rw[ym h,uv (by rw[qi];omega)]
abbrev fv(u:Int×Int):PV:=.tup [.int u.1,.int u.2]
def pl(u v:Int×Int):Int×Int:=((fr (u.1*v.2+v.1*u.2) (u.2*v.2)).getD 0 0,(fr (u.1*v.2+v.1*u.2) (u.2*v.2)).getD 1 0)
structure Fq(k:Nat)(u:Int×Int):Prop where
 pos:0<u.2
 b1:Bd k u.1
 b2:Bd k u.2
 lo:br u.1 u.2=1
theorem Fq.mono{k l:Nat}{u:Int×Int}(h:Fq k u)(hl:k<=l):Fq l u:=⟨h.pos,h.b1.mono hl,h.b2.mono hl,h.lo⟩
theorem Se{k:Nat}{u v:Int×Int}(h:Fq k u)(g:Fq k v):fr (u.1*v.2+v.1*u.2) (u.2*v.2)=[(pl u v).1,(pl u v).2]/\Fq (2*k+1) (pl u v)/\(pl u v).1*(u.2*v.2)=(u.1*v.2+v.1*u.2)*(pl u v).2:=by
 have nz:u.2*v.2≠0:=ib (cg h.pos g.pos);obtain⟨p,q,e,hq,c⟩:=xI (t:=u.1*v.2+v.1*u.2) nz;have bt:Bd (2*k+1) (u.1*v.2+v.1*u.2):=by
  have:=(h.b1.mul g.b2).add (g.b1.mul h.b2);exact this.mono (by omega)
 have bb:Bd (2*k+1) (u.2*v.2):=(h.b2.mul g.b2).mono (by omega);obtain⟨b3,b4⟩:=tN bt bb e;have ep:pl u v=(p,q):=by unfold pl;rw[e];rfl
 rw[ep];exact⟨e,⟨hq,b3,b4,Ba nz e⟩,c⟩
theorem W8{k:Nat}{u v:Int×Int}(S:aG)(h:Fq k u)(g:Fq k v)(hk:2*k+1<=7000):oU [.pv (fv u),.pv (fv v)] S=.ok (.pv (fv (pl u v))) S:=by
 have nz:u.2*v.2≠0:=ib (cg h.pos g.pos);have bt:Bd 7000 (u.1*v.2+v.1*u.2):=by
  have:=(h.b1.mul g.b2).add (g.b1.mul h.b2);exact this.mono (by omega)
 have e:=Jh (u.1*v.2+v.1*u.2) (u.2*v.2) S bt ((h.b2.mul g.b2).mono (by omega)) nz;rw[(Se h g).1]at e;simp only[aw,cw]at e;have m1:=mk h.b1 g.b2 (by omega) (by omega);have m2:=mk g.b1 h.b2 (by omega) (by omega);have m3:=mk h.b2 g.b2 (by omega) (by omega);unfold oU aW Cd;simp! [aE,bC,bF,aM,aO,aP,aR,aQ,aH,aN,m1,m2,m3,e]
def cN:List (Int×Int)->List (Int×Int)
 |a::b::L=>pl a b::cN L
 |L=>L
abbrev xY:MS:=(aK (aZ 1 (bT ["one","other"] [] (gK (aB (mI (aA 0) eA eA (2)) (aB (mI (aA 0) (fK (mC (.int 1))) eA (2)) aD))) (gT 2 (bH (gN 0) (bH (gN 1) cP))) (aT oU [] (aB (aA 0) (aB (aA 1) aD)))))
 (aZ 0 (aC aH (aA 1) (fZ (aA 0) (fK (aC aX (mC (.int 2)) (mR cZ (aB (aA 1) aD)))) eA))))
def ev{α:Type}:List α->List α
 |a::_::L=>a::ev L
 |L=>L
def od{α:Type}:List α->List α
 |_::b::L=>b::od L
 |_=>[]
def eI:List (Int×Int)->List ((Int×Int)×(Int×Int))
 |a::b::L=>(a,b)::eI L
 |_=>[]
theorem Es{α:Type}:∀L:List α,(bj ((L.length+1)/2)).filterMap (λk=>L[2*k]?)=ev L
 |[]=>by simp[ev]
 |[a]=>by simp[ev]
 |a::b::L=>by
  have h:((a::b::L).length+1)/2=(L.length+1)/2+1:=by simp only[ca];omega
  have ih:=Es L;rw[h,yy,iu,oa];show a::_=a::ev L;rw[<-ih];rfl
theorem Qs{α:Type}:∀L:List α,(bj (L.length/2)).filterMap (λk=>L[2*k+1]?)=od L
 |[]=>by simp[od]
 |[a]=>by simp[od]
 |a::b::L=>by
  have h:(a::b::L).length/2=L.length/2+1:=by simp only[ca];omega
  have ih:=Qs L;rw[h,yy,iu,oa];show b::_=b::od L;rw[<-ih];rfl
theorem acI{α:Type}(L:List α):hU L none none 2=ev L:=by
 rw[<-Es];unfold hU sliceBounds sliceRange;simp only[uk];have h:(if(2:Int)>0 then if(if(2:Int)>0 then(0:Int)else(L.length:Int)-1)<(if(2:Int)>0 then(L.length:Int)else-1)then((if(2:Int)>0 then(L.length:Int)else-1)-(if(2:Int)>0 then(0:Int)else(L.length:Int)-1)+2-1)/2 else 0 else if(if(2:Int)>0 then(0:Int)else(L.length:Int)-1)>(if(2:Int)>0 then(L.length:Int)else-1)then((if(2:Int)>0 then(0:Int)else(L.length:Int)-1)-(if(2:Int)>0 then(L.length:Int)else-1)-2-1)/ -2 else 0).toNat=(L.length+1)/2:=by
  simp only[gt_iff_lt,yz,↓reduceIte];split<;>omega
 rw[h,oa];congr 1
 funext k
 show L[((if(2:Int)>0 then(0:Int)else(L.length:Int)-1)+2*(k:Int)).toNat]?=L[2*k]?;congr 1;simp only[gt_iff_lt,yz,↓reduceIte];omega
theorem acj{α:Type}(L:List α)(hl:0<L.length):hU L (some 1) none 2=od L:=by
 rw[<-Qs];unfold hU sliceBounds sliceRange;have m:max (0:Int) (min 1 (L.length:Int))=1:=by omega
 simp only[uk,gt_iff_lt,yz,↓reduceIte,m];have h:(if(1:Int)<(L.length:Int)then((L.length:Int)-1+2-1)/2 else 0).toNat=L.length/2:=by
  split<;>omega
 rw[h,oa];congr 1
 funext k
 show L[(1+2*(k:Int)).toNat]?=L[2*k+1]?;congr 1;omega
theorem Hq{α β:Type}(f:α->β):∀L:List α,ev (L.map f)=(ev L).map f
 |[]=>rfl
 |[_]=>rfl
 |a::b::L=>by
  show f a::ev (L.map f)=f a::(ev L).map f;rw[Hq f L]
theorem Kq{α β:Type}(f:α->β):∀L:List α,od (L.map f)=(od L).map f
 |[]=>rfl
 |[_]=>rfl
 |a::b::L=>by
  show f b::od (L.map f)=f b::(od L).map f;rw[Kq f L]
theorem Rq:∀L:List (Int×Int),eP ((ev L).map fv) ((od L).map fv)=(eI L).map λw=>PV.tup [fv w.1,fv w.2]
 |[]=>rfl
 |[_]=>rfl
 |a::b::L=>by
  show PV.tup [fv a,fv b]::eP ((ev L).map fv) ((od L).map fv)=PV.tup [fv a,fv b]::(eI L).map _;rw[Rq L]
theorem Ir:∀L:List (Int×Int),cN L=((eI L).map λw=>pl w.1 w.2)++L.drop (2*(eI L).length)/\2*(eI L).length<=L.length/\∀w∈eI L,w.1∈L/\w.2∈L
 |[]=>⟨rfl,aj _,λ_ h=>nomatch h⟩
 |[_]=>⟨rfl,by simp[eI],λ_ h=>nomatch h⟩
 |a::b::L=>by
  obtain⟨h1,h2,h3⟩:=Ir L;refine⟨?_,by simp only[eI,ca];omega,λw hw=>?_⟩
  .show pl a b::cN L=pl a b::(((eI L).map λw=>pl w.1 w.2)++(a::b::L).drop (2*((eI L).length+1)))
   rw[h1,show 2*((eI L).length+1)=2*(eI L).length+1+1 by omega];rfl
  .rcases cj.mp hw with rfl |hw
   .exact⟨by simp,by simp⟩
   .exact⟨by simp[(h3 w hw).1],by simp[(h3 w hw).2]⟩
theorem F4{k:Nat}(S:aG)(x:BG)(hk:2*k+1<=7000)(L:List (Int×Int))(h2:2<=L.length)(hl:L.length<=1000)(h:∀u∈L,Fq k u):∃y,xY [some (.pv (.lst (L.map fv))),x] S=.nx [some (.pv (.lst ((cN L).map fv))),y] S:=by
 obtain⟨s1,s2,s3⟩:=Ir L;have e1:=acI (L.map fv);rw[Hq]at e1;have e2:=acj (L.map fv) (by rw[ao];omega);rw[Kq]at e2;have e3:=Rq L;have e4:cO [] (gT 2 (bH (gN 0) (bH (gN 1) cP))) (aT oU [] (aB (aA 0) (aB (aA 1) aD))) ((eI L).map λw=>PV.tup [fv w.1,fv w.2]) [none,none] S=.ok ((eI L).map λw=>fv (pl w.1 w.2)) S:=by
  refine Fa (λw:(Int×Int)×(Int×Int)=>fv w.1) (λw=>fv w.2) (λw=>fv (pl w.1 w.2)) (eI L) none none λw hw=>?_;have p:=W8 S (h _ (s3 w hw).1) (h _ (s3 w hw).2) hk;generalize fv w.2=B,fv w.1=A,fv (pl w.1 w.2)=R at *;simp! [aE,bC,bF,aM,aO,aP,aR,aQ,aH,aN,p]
 have e5:=ady (L.map fv) (a:=2*(eI L).length) (by rw[ao];exact s2);have e7:((eI L).map λw=>fv (pl w.1 w.2)).length=(eI L).length:=ao ..;have e6:aX (.int 2) (.int ((((eI L).map λw=>fv (pl w.1 w.2)).length:Nat):Int))=some (.int ((2*(eI L).length:Nat):Int)):=by
  rw[e7];exact lF (.inl (.inl ⟨by decide,by omega⟩))
 have e8:((eI L).map λw=>fv (pl w.1 w.2)).length+((L.map fv).drop (2*(eI L).length)).length<=16777216:=by simp;omega
 have e9:(cN L).map fv=((eI L).map λw=>fv (pl w.1 w.2))++(L.map fv).drop (2*(eI L).length):=by
  rw[s1,dh,fe,List.map_drop];rfl
 rw[e9];generalize 2*(eI L).length=c2,L.map fv=LL,(od L).map fv=OL,(ev L).map fv=EL,(L.map fv).drop (2*(eI L).length)=DL,(((eI L).map λw=>fv (pl w.1 w.2)):BE)=PL,(((eI L).map λw=>PV.tup [fv w.1,fv w.2]):BE)=ZL at *;refine⟨some (.pv (.lst PL)),?_⟩;unfold xY;generalize (aT oU [] (aB (aA 0) (aB (aA 1) aD)))=ME1 at *;refine sq (ρ':=[some (.pv (.lst LL)),some (.pv (.lst PL))]) (S':=S) ?_ ?_
 .simp! [aE,bC,bF,aM,aO,aP,aR,aQ,aH,aN,bT,cY,gK,kL,mI,Ye,eA,fK,iO,cR,e1,e2,e3,e4]
 .simp! [aE,bC,bF,aM,aO,aP,aR,aQ,aH,aN,fZ,eA,fK,iO,e5,e6,e8]
theorem Xb:∀(L:List (Int×Int)),(cN L).length=(L.length+1)/2
 |[]=>rfl
 |[_]=>by simp[cN]
 |a::b::L=>by
  unfold cN;rw[ca,ca,ca,Xb L];omega
theorem Zc{k:Nat}:∀(L:List (Int×Int)),(∀u∈L,Fq k u)->∀u∈cN L,Fq (2*k+1) u
 |[],h,u,hu=>by cases hu
 |[a],h,u,hu=>(h u hu).mono (by omega)
 |a::b::L,h,u,hu=>by
  unfold cN at hu;rcases cj.mp hu with rfl |hu
  .exact(Se (h a (by simp)) (h b (by simp))).2.1
  .exact Zc L (λv hv=>h v (bn _ (bn _ hv))) u hu
def fW:Nat->List (Int×Int)->List (Int×Int)
 |0,L=>L
 |m+1,L=>if L.length<=1 then L else fW m (cN L)
abbrev uB:MT:=bJ (aC eY (mR cZ (aB (aA 0) aD)) (mC (.int 1)))
theorem Ti(S:aG):∀(m k:Nat)(L:List (Int×Int))(x:BG),L.length<=1000->L.length<=2^m->2^m*(k+1)<=7000->(∀u∈L,Fq k u)->∃n y,dQ uB xY n [some (.pv (.lst (L.map fv))),x] S=.nx [some (.pv (.lst ((fW m L).map fv))),y] S/\(fW m L).length<=1
 |m,k,L,x,h10,hm,hk,h=>by
  by_cases h1:L.length<=1
  .refine⟨1,x,?_,?_⟩
   .have c:uB [some (.pv (.lst (L.map fv))),x] S=.ok false S:=by
     unfold uB;have:decide ((1:Int)<(L.length:Int))=false:=by simp;omega
     simp! [aE,bC,bF,aM,aO,aP,aR,aQ,aH,aN,this]
    have er:fW m L=L:=by
     cases m with
     |zero=>rfl
     |succ m=>unfold fW;rw[if_pos h1]
    unfold dQ;rw[c,er];rfl
   .cases m with
    |zero=>exact h1
    |succ m=>unfold fW;rw[if_pos h1];exact h1
  .match m,hm,hk with
   |0,hm,_=>exact absurd hm (by simpa using h1)
   |m+1,hm,hk=>
    have hk2:2*k+1<=7000:=by
     have:2<=2^(m+1):=by
      rw[sv];have:=uw m;omega
     have:=za (k+1) this;omega
    obtain⟨y,e⟩:=F4 S x hk2 L (by omega) h10 h;have hl:=Xb L;have hp:2^(m+1)=2*2^m:=by rw[sv];omega
    obtain⟨n,z,e2,l2⟩:=Ti S m (2*k+1) (cN L) y (by omega) (by omega) (by
     rw[hp]at hk;have:2*2^m*(k+1)=2^m*(2*k+1+1):=by
      rw[Nat.mul_comm 2,Nat.mul_assoc];congr 1
     omega) (Zc L h)
    have er:fW (m+1) L=fW m (cN L):=by
     show(if L.length<=1 then L else fW m (cN L))=_;rw[if_neg h1]
    refine⟨n+1,z,?_,by rw[er];exact l2⟩;have c:uB [some (.pv (.lst (L.map fv))),x] S=.ok true S:=by
     unfold uB;have:decide ((1:Int)<(L.length:Int))=true:=by simp;omega
     simp! [aE,bC,bF,aM,aO,aP,aR,aQ,aH,aN,this]
    unfold dQ;rw[c,er];show(match xY _ S with |.nx ρ2 S2=>_ |.ct ρ2 S2=>_ |.bk ρ2 S2=>_ |.rt v S2=>_ |.exc n S2=>_ |.fail=>_)=_
    rw[e];exact e2
def pG(L:List (Int×Int)):Int×Int:=match fW 5 L with
 |[]=>(0,1)
 |u::_=>u
theorem D8(S:aG){m k:Nat}{L:List (Int×Int)}(h10:L.length<=1000)(hm:L.length<=2^m)(m4:m<=5)(hk:2^m*(k+1)<=7000)(h:∀u∈L,Fq k u):sL [.pv (.lst (L.map fv))] S=.ok (.pv (fv (pG L))) S:=by
 obtain⟨n,y,e,l⟩:=Ti S m k L none h10 hm hk h;have w:=vA e (by simp);have er:∀(i j:Nat)(L:List (Int×Int)),i<=j->(fW i L).length<=1->fW j L=fW i L:=by
  intro i
  induction i with
  |zero=>
   intro j L _ hl;cases j with
   |zero=>rfl
   |succ j=>
    show(if L.length<=1 then L else _)=L;have hl:L.length<=1:=hl;rw[if_pos hl]
  |succ i ih=>
   intro j L hij hl;cases j with
   |zero=>omega
   |succ j=>
    show(if L.length<=1 then L else fW j (cN L))=(if L.length<=1 then L else fW i (cN L));split
    .rfl
    .rename_i hn
     have hl:(if L.length<=1 then L else fW i (cN L)).length<=1:=hl;rw[if_neg hn]at hl;exact ih j (cN L) (by omega) hl
 have e4:=er m 5 L m4 l;unfold pG;rw[e4];generalize fW m L=R at w l;unfold sL aW Lc
 match R,l with
 |[],_=>
  simp only[cw]at w;simp! [aE,bC,bF,aM,aO,aP,aR,aQ,aH,aN,w,tZ,xL]
 |[u],_=>
  simp only[aw,cw]at w;simp! [aE,bC,bF,aM,aO,aP,aR,aQ,aH,aN,w,tZ,xL]
theorem A2:∀L:BE,rA [.lst (L.map λ_=>.bl true)]=some (.bl true):=λL=>by
 have e:oW (L.map λ_=>PV.bl true)=some (L.map λ_=>true):=by
  induction L with
  |nil=>rfl
  |cons v L ih=>
   show(match oW (L.map λ_=>PV.bl true)with |some bs=>some (true::bs) |none=>none)=_
   rw[ih];rfl
 simp only[rA,e,yt];simp
abbrev li(xs:AX):BE:=xs.map .int
abbrev lv(xs:AX):PV:=.lst (li xs)
abbrev cM(xss:AY):PV:=.lst (xss.map lv)
structure Rw(n:Nat)(xss:AY):Prop where
 len:xss.length=n+1
 l:∀xs∈xss,xs.length=n
 b:∀xs∈xss,∀x∈xs,-8<x/\x<8
 nz:dU (xss.map (·++[1]))≠0
theorem Kj{α β:Type}(f:α->β):∀(R:List α)(j:Nat),(R.map f).eraseIdx j=(R.eraseIdx j).map f
 |[],j=>by simp
 |a::R,0=>by simp
 |a::R,j+1=>by simp[Kj f R j]
theorem ix3:∀v<3,bF 3 ((v:Nat):Int)=some v:=by decide
abbrev pO:MS:=(aK (oR (aA 2) (nQ (aA 1) (aB (aT dR [] (aB (aA 0) (aB (mR cZ (aB (aA 1) aD)) aD))) aD)) (mC (.int 1)))
 (dE (tR (aA 3) (aB (aA 2) aD))))
abbrev rN:MS:=(cS (bJ (aC dM (aT dR [] (aB (aA 0) (aB (mC (.int 4)) aD))) (mC (.int 3)))) (pF 3 2 5) dZ)
theorem Pe(ns:AX)(hl:BE)(R C:AX)(L:AY)(x4 x5:BG)(hR0:0<R.length)(hR3:R.length<=3)(hv:∀v∈R,0<=v/\v<3)(hC:C.length=3)(hL:L.length<=9):
  ∃(j v:Nat)(ns':AX),j<R.length/\R[j]?=some (v:Int)/\pO [some (.ref 0),some (.ref 2),some (.ref 3),some (.ref 4),x4,x5] [.lst (li ns),.lst hl,.lst (li R),.lst (li C),.lol (L.map li)]
   = .nx [some (.ref 0),some (.ref 2),some (.ref 3),some (.ref 4),x4,x5] [.lst (li ns'),.lst hl,.lst (li (R.eraseIdx j)),.lst (li (C.set v 1)),.lol ((L++[C.set v 1]).map li)]:=by
 have hr:fR [.lst (li ns),.lst hl,.lst (li R),.lst (li C),.lol (L.map li)] 0 ns:=rfl;obtain⟨t,n1,e1,t0,t1,_⟩:=jW (m:=(R.length:Int)) hr (by omega) (lU (by omega) (by omega));simp only[ff]at e1;obtain⟨j,rfl⟩:∃j:Nat,t=(j:Int):=⟨t.toNat,by omega⟩;have hj:j<R.length:=by omega
 obtain⟨v,ev⟩:∃v:Nat,R[j]=(v:Int):=⟨R[j].toNat,by have:=hv _ (iz hj);omega⟩;have hv3:v<3:=by have:=hv _ (iz hj);omega
 have hq:R[j]?=some (v:Int):=by rw[av hj,ev]
 have ep:=aa7 (S:=[.lst (li n1),.lst hl,.lst (li R),.lst (li C),.lol (L.map li)]) (k:=2) (j:=j) (xs:=li R) (v:=.int v) rfl (by rw[ax,hq];rfl) (by omega);simp only[jl,ff]at ep;have er:(li R).eraseIdx j=li (R.eraseIdx j):=Kj _ _ _;rw[er]at ep;have ei:bF (li C).length (v:Int)=some v:=by
  rw[ao,hC];exact ix3 v hv3
 have ec:(li C).set v (.int 1)=li (C.set v 1):=by simp[li,uq]
 refine⟨j,v,n1,hj,hq,?_⟩;have e1':dR [.ref 0,.pv (.int ((li R).length:Int))] [.lst (li ns),.lst hl,.lst (li R),.lst (li C),.lol (L.map li)]=.ok (.pv (.int (j:Int))) [.lst (li n1),.lst hl,.lst (li R),.lst (li C),.lol (L.map li)]:=by
  rw[ao];exact e1
 have el:(L++[C.set v 1]).map li=L.map li++[li (C.set v 1)]:=by simp
 rw[el];have lz:(L.map li).length<16777216:=by rw[ao];omega
 generalize li n1=NL1,li ns=NL,(j:Int)=J,li R=RL,li (R.eraseIdx j)=RE,li C=CL,li (C.set v 1)=CS,L.map li=LL at *;unfold pO;simp! [bS,aO,aP,aR,aQ,aH,aN,oR,qX,nQ,tR,tX,fD,e1',ep,ei,ec,lz]
def k6:AZ:=[[[0,0,0],[1,0,0],[1,1,0],[1,1,1]],[[0,0,0],[1,0,0],[1,0,1],[1,1,1]],[[0,0,0],[0,1,0],[1,1,0],[1,1,1]],[[0,0,0],[0,1,0],[0,1,1],[1,1,1]],[[0,0,0],[0,0,1],[1,0,1],[1,1,1]],[[0,0,0],[0,0,1],[0,1,1],[1,1,1]]]
theorem adt{R:AX}{j v:Nat}{a b c:Int}(h:R=[a,b,c])(hj:j<R.length)(e:R[j]?=some (v:Int)):(j=0/\(v:Int)=a)\/(j=1/\(v:Int)=b)\/(j=2/\(v:Int)=c):=by
 subst h
 match j,hj,e with
 |0,_,e=>simp at e;exact .inl ⟨rfl,e.symm⟩
 |1,_,e=>simp at e;exact .inr (.inl ⟨rfl,e.symm⟩)
 |2,_,e=>simp at e;exact .inr (.inr ⟨rfl,e.symm⟩)
theorem adR{R:AX}{j v:Nat}{a b:Int}(h:R=[a,b])(hj:j<R.length)(e:R[j]?=some (v:Int)):(j=0/\(v:Int)=a)\/(j=1/\(v:Int)=b):=by
 subst h
 match j,hj,e with
 |0,_,e=>simp at e;exact .inl ⟨rfl,e.symm⟩
 |1,_,e=>simp at e;exact .inr ⟨rfl,e.symm⟩
theorem adx{R:AX}{j v:Nat}{a:Int}(h:R=[a])(hj:j<R.length)(e:R[j]?=some (v:Int)):j=0/\(v:Int)=a:=by
 subst h
 match j,hj,e with
 |0,_,e=>simp at e;exact⟨rfl,e.symm⟩
theorem k3(ns:AX)(hl:BE)(R C:AX)(A:AY)(a b c:Nat)(x4 x5:BG)(hR:R=[(c:Int)])(hc:c<3)(hC:C.length=3)(hA:A.length<=9)(ks:AZ)(hk:A++[C.set c 1]∈ks):
  ∃(xss:AY)(ns':AX)(C':AX),xss∈ks/\cV [] (gN 4) pO [.int 2] [some (.ref 0),some (.ref 2),some (.ref 3),some (.ref 4),x4,x5] [.lst (li ns),.lst hl,.lst (li R),.lst (li C),.lol (A.map li)]
   = .nx [some (.ref 0),some (.ref 2),some (.ref 3),some (.ref 4),some (.pv (.int 2)),x5] [.lst (li ns'),.lst hl,.lst [],.lst (li C'),.lol (xss.map li)]:=by
 obtain⟨j,v,n1,hj,e,h⟩:=Pe ns hl R C A (some (.pv (.int 2))) x5 (by rw[hR];simp) (by rw[hR];simp) (by rw[hR];simp;omega) hC hA;obtain⟨rfl,ev⟩:=adx hR hj e;have:v=c:=by omega
 subst this;subst hR;refine⟨_,n1,C.set v 1,hk,?_⟩;rw[eZ];simp only[gN,jl,ff];rw[h];exact gM
theorem k2(ns:AX)(hl:BE)(R C:AX)(A:AY)(b c:Nat)(x4 x5:BG)(hR:R=[(b:Int),(c:Int)])(hb:b<3)(hc:c<3)(hC:C.length=3)(hA:A.length<=8)(ks:AZ)(h1:A++[C.set b 1]++[(C.set b 1).set c 1]∈ks)(h2:A++[C.set c 1]++[(C.set c 1).set b 1]∈ks):
  ∃(xss:AY)(ns':AX)(C':AX),xss∈ks/\cV [] (gN 4) pO [.int 1,.int 2] [some (.ref 0),some (.ref 2),some (.ref 3),some (.ref 4),x4,x5] [.lst (li ns),.lst hl,.lst (li R),.lst (li C),.lol (A.map li)]
   = .nx [some (.ref 0),some (.ref 2),some (.ref 3),some (.ref 4),some (.pv (.int 2)),x5] [.lst (li ns'),.lst hl,.lst [],.lst (li C'),.lol (xss.map li)]:=by
 obtain⟨j,v,n1,hj,e,h⟩:=Pe ns hl R C A (some (.pv (.int 1))) x5 (by rw[hR];simp) (by rw[hR];simp) (by rw[hR];simp;omega) hC (by omega);rw[eZ];simp only[gN,jl,ff];rw[h];rcases adR hR hj e with⟨rfl,ev⟩|⟨rfl,ev⟩
 .have:v=b:=by omega
  subst this;subst hR;exact k3 n1 hl _ (C.set v 1) _ 0 0 c _ x5 rfl hc (by rw[fk];exact hC) (by simp;omega) ks h1
 .have:v=c:=by omega
  subst this;subst hR;exact k3 n1 hl _ (C.set v 1) _ 0 0 b _ x5 rfl hb (by rw[fk];exact hC) (by simp;omega) ks h2
theorem k1(ns:AX)(hl:BE)(x4 x5:BG):
  ∃(xss:AY)(ns':AX)(C':AX),xss∈k6/\cV [] (gN 4) pO [.int 0,.int 1,.int 2] [some (.ref 0),some (.ref 2),some (.ref 3),some (.ref 4),x4,x5] [.lst (li ns),.lst hl,.lst (li [0,1,2]),.lst (li [0,0,0]),.lol ([[0,0,0]].map li)]
   = .nx [some (.ref 0),some (.ref 2),some (.ref 3),some (.ref 4),some (.pv (.int 2)),x5] [.lst (li ns'),.lst hl,.lst [],.lst (li C'),.lol (xss.map li)]:=by
 obtain⟨j,v,n1,hj,e,h⟩:=Pe ns hl [0,1,2] [0,0,0] [[0,0,0]] (some (.pv (.int 0))) x5 (by decide) (by decide) (by decide) rfl (by decide);rw[eZ];simp only[gN,jl,ff];rw[h];rcases adt rfl hj e with⟨rfl,ev⟩|⟨rfl,ev⟩|⟨rfl,ev⟩
 .have:v=0:=by omega
  subst this;exact k2 n1 hl _ [1,0,0] _ 1 2 _ x5 rfl (by decide) (by decide) rfl (by decide) k6 (by decide) (by decide)
 .have:v=1:=by omega
  subst this;exact k2 n1 hl _ [0,1,0] _ 0 2 _ x5 rfl (by decide) (by decide) rfl (by decide) k6 (by decide) (by decide)
 .have:v=2:=by omega
  subst this;exact k2 n1 hl _ [0,0,1] _ 0 1 _ x5 rfl (by decide) (by decide) rfl (by decide) k6 (by decide) (by decide)
def rP(m:Nat)(xs:AX):AX:=xs.set m (1-xs.getD m 0)
theorem K3{m:Nat}{xs:AX}(h:xs.length=3)(hm:m<3):xE (m:Int) (li xs)=some (li (rP m xs)):=by
 match xs,h,m,hm with
 |[a,b,c],_,0,_=>rfl
 |[a,b,c],_,1,_=>rfl
 |[a,b,c],_,2,_=>rfl
theorem Nl{m:Nat}(hm:m<3):∀{L:AY},(∀xs∈L,xs.length=3)->qW (m:Int) (L.map li)=some ((L.map (rP m)).map li)
 |[],_=>rfl
 |xs::L,h=>by
  have e1:=K3 (h xs bf) hm;have e2:=Nl hm λys hy=>h ys (bn _ hy);simp only[aw];unfold qW;rw[e1,e2]
theorem ac0{a b c d:BE}{L:List BE}:yP 4 [.lst a,.lst b,.lst c,.lst d,.lol L]:=λj o e n=>by
 match j,e with
 |0,e=>cases e;exact⟨_,rfl⟩
 |1,e=>cases e;exact⟨_,rfl⟩
 |2,e=>cases e;exact⟨_,rfl⟩
 |3,e=>cases e;exact⟨_,rfl⟩
 |4,e=>exact absurd rfl n
 |j+5,e=>simp at e
def kU(b:Bool)(m:Nat)(L:AY):AY:=if b then L.map (rP m)else L
theorem Qe(m:Nat)(hm:m<3)(ns:AX)(a b c:BE)(L:AY)(hL:∀xs∈L,xs.length=3)(x2 x4:BG):
  ∃(f:Bool)(ns':AX)(y2:BG),rN [some (.ref 0),some (.ref 2),x2,some (.ref 4),x4,some (.pv (.int (m:Int)))] [.lst (li ns),.lst a,.lst b,.lst c,.lol (L.map li)]
   = .nx [some (.ref 0),some (.ref 2),y2,some (.ref 4),x4,some (.pv (.int (m:Int)))] [.lst (li ns'),.lst a,.lst b,.lst c,.lol ((kU f m L).map li)]:=by
 have hr:fR [.lst (li ns),.lst a,.lst b,.lst c,.lol (L.map li)] 0 ns:=rfl;obtain⟨t,n1,e1,t0,t1,_⟩:=jW (m:=4) hr (by decide) (lU (by decide) (by decide));simp only[ff]at e1;have e1:dR [.ref 0,.pv (.int 4)] [.lst (li ns),.lst a,.lst b,.lst c,.lol (L.map li)]=.ok (.pv (.int t)) [.lst (li n1),.lst a,.lst b,.lst c,.lol (L.map li)]:=e1;have ef:=Nl hm hL
 by_cases h:t=3
 .refine⟨true,n1,none,?_⟩
  have hf:pF 3 2 5 [some (.ref 0),some (.ref 2),x2,some (.ref 4),x4,some (.pv (.int (m:Int)))] [.lst (li n1),.lst a,.lst b,.lst c,.lol (L.map li)]=.nx [some (.ref 0),some (.ref 2),none,some (.ref 4),x4,some (.pv (.int (m:Int)))] [.lst (li n1),.lst a,.lst b,.lst c,.lol ((L.map (rP m)).map li)]:=by
   unfold pF;dsimp only[zb,zc];rw[if_pos ⟨ac0,by simp⟩,ef];rfl
  unfold rN;have:kU true m L=L.map (rP m):=rfl;rw[this];simp! [aE,bC,bF,aM,aO,aP,aR,aQ,aH,aN,e1,h,hf]
 .refine⟨false,n1,x2,?_⟩
  unfold rN;have:kU false m L=L:=rfl;rw[this];simp! [aE,bC,bF,aM,aO,aP,aR,aQ,aH,aN,e1,h]
theorem Nc{b:Bool}{m:Nat}{L:AY}(h:∀xs∈L,xs.length=3):∀xs∈kU b m L,xs.length=3:=by
 unfold kU;split
 .intro xs hx
  obtain⟨ys,hy,rfl⟩:=dg.mp hx;unfold rP;rw[fk];exact h ys hy
 .exact h
def Vf(xss:AY):Bool:=decide (xss.length=4)&&xss.all (λxs=>decide (xs.length=3)&&xs.all λx=>decide (-8<x)&&decide (x<8))&&decide (dU (xss.map (·++[1]))≠0)
theorem abH{xss:AY}(h:Vf xss=true):Rw 3 xss:=by
 unfold Vf at h;simp only[jb,decide_eq_true_eq,ke]at h;exact⟨h.1.1,λxs hx=>(h.1.2 xs hx).1,λxs hx x hh=>(h.1.2 xs hx).2 x hh,h.2⟩
theorem k48:∀xss∈k6,∀a b c:Bool,Vf (kU c 2 (kU b 1 (kU a 0 xss)))=true:=by decide+kernel
theorem abf:∀xss∈k6,∀xs∈xss,xs.length=3:=by decide
theorem Ou{a b:BE}:Pl [.lst a,.lst b]:=λj o e=>by
 match j,e with
 |0,e=>cases e;exact⟨_,rfl⟩
 |1,e=>cases e;exact⟨_,rfl⟩
 |j+2,e=>simp at e
theorem W7(ns:AX)(hl:BE):∃(xss:AY)(ns':AX),qL [.ref 0] [.lst (li ns),.lst hl]=.ok (.pv (cM xss)) [.lst (li ns'),.lst hl]/\Rw 3 xss:=by
 obtain⟨L,n1,C,hm,e1⟩:=k1 ns hl none none;have l0:=abf L hm;obtain⟨fa,n2,y2,e2⟩:=Qe 0 (by decide) n1 hl [] (li C) L l0 (some (.ref 3)) (some (.pv (.int 2)));obtain⟨fb,n3,y3,e3⟩:=Qe 1 (by decide) n2 hl [] (li C) _ (Nc l0) y2 (some (.pv (.int 2)));obtain⟨fc,n4,y4,e4⟩:=Qe 2 (by decide) n3 hl [] (li C) _ (Nc (Nc l0)) y3 (some (.pv (.int 2)));have c0:((0:Nat):Int)=0:=rfl;have c1:((1:Nat):Int)=1:=rfl;have c2:((2:Nat):Int)=2:=rfl;rw[c0]at e2;rw[c1]at e3;rw[c2]at e4;have hw:=k48 L hm fa fb fc;generalize kU fc 2 (kU fb 1 (kU fa 0 L))=X at hw e4;refine⟨X,n4,?_,abH hw⟩;have ex:(X.map li).map PV.lst=X.map lv:=by rw[fe];rfl
 have e5:cV [] (gN 5) rN [.int 0,.int 1,.int 2] [some (.ref 0),some (.ref 2),some (.ref 3),some (.ref 4),some (.pv (.int 2)),none] [.lst (li n1),.lst hl,.lst [],.lst (li C),.lol (L.map li)]
   = .nx [some (.ref 0),some (.ref 2),y4,some (.ref 4),some (.pv (.int 2)),some (.pv (.int 2))] [.lst (li n4),.lst hl,.lst [],.lst (li C),.lol (X.map li)]:=by
  rw[eZ];simp only[gN,jl,ff];rw[e2];dsimp only;rw[eZ];simp only[gN,jl,ff];rw[e3];dsimp only;rw[eZ];simp only[gN,jl,ff];rw[e4];exact gM
 unfold qL pN;rw[if_pos ⟨rfl,Ou⟩];have eb:vU (jE 6 [.ref 0]) [.lst (li ns),.lst hl]=.rt (.ref 4) [.lst (li n4),.lst hl,.lst [],.lst (li C),.lol (X.map li)]:=by
  simp only[li,aw,cw]at e1;have hb:vU=(aK (aZ 1 (eT (aB (mC (.int 0)) (aB (mC (.int 1)) (aB (mC (.int 2)) aD)))))
   (aK (aZ 2 (eT (aB (mC (.int 0)) (aB (mC (.int 0)) (aB (mC (.int 0)) aD)))))
   (aK (aZ 3 (tV (aB (aA 2) aD)))
   (aK (bX (dB (aB (mC (.int 3)) aD)) (gN 4) pO)
   (aK (bX (dB (aB (mC (.int 3)) aD)) (gN 5) rN)
   (bG (aA 3))))))):=rfl
  rw[hb];generalize pO=B1,rN=B2 at *;simp! [aE,bC,bF,aM,aO,aP,aR,aQ,aH,aN,eT,kK,tV,Je,bX,dB,hrg,e1,e5]
 rw[eb];unfold wO;simp[Ou,ex]
theorem Nz(L:BE)(p:PV)(h:L≠[]):∃v∈L,aE (.lst L) (.int (-1))=some v:=by
 have hl:0<L.length:=List.length_pos_iff.mpr h;refine⟨L[L.length-1]'(by omega),iz _,?_⟩;show bC L (-1)=_;unfold bC;have e:bF L.length (-1)=some (L.length-1):=by
  unfold bF;rw[if_neg (by decide),if_pos (by omega)];congr 1;omega
 rw[e];exact av _
theorem tT{x:Int}(h:-1000<x)(g:x<1000):Bd 10 x:=by
 unfold Bd;have:x.natAbs<1000:=by omega
 omega
theorem pK(S:aG){n:Nat}(h:n<=9):iY [.pv (.int (n:Int))] S=.ok (dA 0 n,[]) S:=by
 have e:iY [.pv (.int (n:Int))] S=@ite _ ((n:Int)<=16777216/\-16777216<=(n:Int)) (ug _) (.ok (dA 0 (n:Int).toNat,[]) S) .fail:=rfl;rw[e,if_pos ⟨by omega,by omega⟩,mj]
theorem P4{S:aG}{k:Nat}{ns:AX}(h:fR S k ns):S.set k (.lst (ns.map .int))=S:=jf λj=>by
 by_cases q:k=j
 .subst q
  rw[ee h.lt];exact h.symm
 .rw[fh q]
theorem Tm{k:Nat}{W:Int}(W0:0<=W)(W1:W<=2):∀(is:BE)(S:aG)(ns:AX)(x:BG),fR S k ns->∃(xs ns':AX),cO [] (gN 0) (aT dR [] (aB (aA 1) (aB (aC aH (aA 2) (mC (.int 1))) aD))) is [x,some (.ref k),some (.pv (.int W))] S=.ok (li xs) (S.set k (.lst (li ns')))/\xs.length=is.length/\∀n∈xs,0<=n/\n<=2
 |[],S,ns,x,h=>by
  refine⟨[],ns,?_,rfl,λ_ h=>absurd h gw⟩;rw[show S.set k (.lst (li ns))=S from P4 h];exact fA
 |i::is,S,ns,x,h=>by
  obtain⟨t,n1,e1,t0,t1,_⟩:=jW (m:=W+1) h (by omega) (lU (by omega) (by omega));obtain⟨xs,n2,e2,l2,b2⟩:=Tm W0 W1 is _ n1 (some (.pv i)) (h.set n1);rw[ky]at e2;refine⟨t::xs,n2,?_,by simp[l2],λn hn=>?_⟩
  .rw[fL]
   generalize S.set k (.lst (n1.map .int))=S1 at e1 e2;simp! [gN,aE,bC,bF,aM,aO,aP,aR,aQ,aH,aN,e1,e2]
  .rcases cj.mp hn with rfl |hn
   .omega
   .exact b2 n hn
abbrev rB:MS:=(dE (dI (aA 3) (aB (bT ["_law_m"] [(0,"_law_row_here"),(2,"_law_wide")] (dB (aB (aA 1) aD)) (gN 0) (aT dR [] (aB (aA 1) (aB (aC aH (aA 2) (mC (.int 1))) aD)))) aD)))
theorem Om{n:Nat}(hn:n<=9){W:Int}(W0:0<=W)(W1:W<=2)(hl:BE):∀(is:BE)(L:AY)(ns:AX)(x4:BG),L.length+is.length<=99->∃(L':AY)(ns':AX)(y4:BG),
  cV [] (gN 4) rB is [some (.ref 0),some (.pv (.int (n:Int))),some (.pv (.int W)),some (.ref 2),x4] [.lst (li ns),.lst hl,.lst (L.map lv)]=.nx [some (.ref 0),some (.pv (.int (n:Int))),some (.pv (.int W)),some (.ref 2),y4] [.lst (li ns'),.lst hl,.lst ((L++L').map lv)]
   /\L'.length=is.length/\∀xs∈L',xs.length=n/\∀x∈xs,0<=x/\x<=2
 |[],L,ns,x4,h9=>⟨[],ns,x4,by rw[mf];exact gM,rfl,λ_ h=>absurd h gw⟩
 |i::is,L,ns,x4,h9=>by
  have hr:fR [.lst (li ns),.lst hl,.lst (L.map lv)] 0 ns:=rfl;obtain⟨xs,n1,e1,l1,b1⟩:=Tm W0 W1 (dA 0 n) _ ns none hr;simp only[ff]at e1;have h9:L.length+(is.length+1)<=99:=h9;obtain⟨L',n2,y4,e2,l2,b2⟩:=Om hn W0 W1 hl is (L++[xs]) n1 (some (.pv i)) (by rw[bh,kb];omega);refine⟨xs::L',n2,y4,?_,by simp[l2],λys hy=>?_⟩
  .rw[eZ]
   have es:rB [some (.ref 0),some (.pv (.int (n:Int))),some (.pv (.int W)),some (.ref 2),some (.pv i)] [.lst (li ns),.lst hl,.lst (L.map lv)]=.nx [some (.ref 0),some (.pv (.int (n:Int))),some (.pv (.int W)),some (.ref 2),some (.pv i)] [.lst (li n1),.lst hl,.lst ((L++[xs]).map lv)]:=by
    have el:(L++[xs]).map lv=L.map lv++[lv xs]:=by simp
    rw[el];have lz:(L.map lv).length<16777216:=by rw[ao];omega
    have rg:=pK [.lst (li ns),.lst hl,.lst (L.map lv)] hn;unfold rB;generalize (n:Int)=N,dA 0 n=IP,li ns=NL,L.map lv=LL at *;simp! [aE,bC,bF,aM,aO,aP,aR,aQ,aH,aN,dI,fD,iQ,bT,cY,dB,rg,e1,lz]
   simp only[gN,jl,ff];rw[es];dsimp only;rw[e2,jx];rfl
  .rcases cj.mp hy with rfl |hy
   .exact⟨by rw[l1];unfold dA;simp,b1⟩
   .exact b2 ys hy
theorem abl{S:aG}{ti:Nat}{a b c d e f:Int}(h:S[ti]?=some (.lst [lv [a,b],lv [c,d],lv [e,f]]))(ha:0<=a/\a<=2)(hb:0<=b/\b<=2)(hc:0<=c/\c<=2)(hd:0<=d/\d<=2)(he:0<=e/\e<=2)(hf:0<=f/\f<=2):mX [.ref ti] S=.ok (.pv (.int (D2 a b 1 c d 1 e f 1))) S:=by
 have id:(c-a)*(f-b)-(d-b)*(e-a)=D2 a b 1 c d 1 e f 1:=by
  unfold D2;grind
 have b1:Bd 10 (c-a):=tT (by omega) (by omega);have b2:Bd 10 (d-b):=tT (by omega) (by omega);have b3:Bd 10 (e-a):=tT (by omega) (by omega);have b4:Bd 10 (f-b):=tT (by omega) (by omega);have m1:=eK b1 b4;have m2:=eK b2 b3;generalize D2 a b 1 c d 1 e f 1=D at *;have s1:=xC (lv [a,b]) [lv [c,d],lv [e,f]];have et:kG [.pv (.lst [.lst [.int (c-a),.int (d-b)],.lst [.int (e-a),.int (f-b)]])] S=.ok (.pv (.int D)) S:=by
  unfold kG aW qJ;simp! [aE,bC,bF,aM,aO,aP,aR,aQ,aH,aN,m1,m2,id]
 unfold mX aW uO;simp only[lv,li,aw,cw]at h s1;simp! [aE,bC,bF,aM,aO,aP,aR,aQ,aH,aN,bT,bR,cR,fZ,eA,fK,iO,h,s1,cY,fL,fA,gN,gT,bH,cP,gK,kL,eP,et]
theorem aaP{S:aG}{ti:Nat}{x0 y0 z0 x1 y1 z1 x2 y2 z2 x3 y3 z3:Int}(h:S[ti]?=some (.lst [lv [x0,y0,z0],lv [x1,y1,z1],lv [x2,y2,z2],lv [x3,y3,z3]]))(hb:∀x∈[x0,y0,z0,x1,y1,z1,x2,y2,z2,x3,y3,z3],0<=x/\x<=2):mX [.ref ti] S=.ok (.pv (.int (D3 x0 y0 z0 1 x1 y1 z1 1 x2 y2 z2 1 x3 y3 z3 1))) S:=by
 have id:dt [(y1-y0)*(z2-z0)-(z1-z0)*(y2-y0),(z1-z0)*(x2-x0)-(x1-x0)*(z2-z0),(x1-x0)*(y2-y0)-(y1-y0)*(x2-x0)] [x3-x0,y3-y0,z3-z0]=D3 x0 y0 z0 1 x1 y1 z1 1 x2 y2 z2 1 x3 y3 z3 1:=by
  simp only[dt,D3,AK,AL,ya,List.sum_nil];grind
 simp only[cj,gw,or_false,forall_eq_or_imp,forall_eq]at hb;have q:∀{a b:Int},(0<=a/\a<=2)->(0<=b/\b<=2)->Bd 10 (a-b):=λh g=>tT (by omega) (by omega);obtain⟨hx0,hy0,hz0,hx1,hy1,hz1,hx2,hy2,hz2,hx3,hy3,hz3⟩:=hb;have b1:=q hx1 hx0;have b2:=q hy1 hy0;have b3:=q hz1 hz0;have b4:=q hx2 hx0;have b5:=q hy2 hy0;have b6:=q hz2 hz0;have b7:=q hx3 hx0;have b8:=q hy3 hy0;have b9:=q hz3 hz0;clear hx0 hy0 hz0 hx1 hy1 hz1 hx2 hy2 hz2 hx3 hy3 hz3 q;generalize D3 x0 y0 z0 1 x1 y1 z1 1 x2 y2 z2 1 x3 y3 z3 1=D at *;have s1:=xC (lv [x0,y0,z0]) [lv [x1,y1,z1],lv [x2,y2,z2],lv [x3,y3,z3]];have et:kG [.pv (.lst [.lst [.int (x1-x0),.int (y1-y0),.int (z1-z0)],.lst [.int (x2-x0),.int (y2-y0),.int (z2-z0)],.lst [.int (x3-x0),.int (y3-y0),.int (z3-z0)]])] S=.ok (.pv (.int D)) S:=by
  generalize z3-z0=T2,y3-y0=T1,x3-x0=T0,z2-z0=V2,y2-y0=V1,x2-x0=V0,z1-z0=U2,y1-y0=U1,x1-x0=U0 at *;have u:∀{a:Int},Bd 10 a->Bd 10000 a:=λh=>h.mono (by decide);have u2:∀{a:Int},Bd 10 a->Bd 100000 a:=λh=>h.mono (by decide);have cc:∀{a b c d:Int},Bd 10 a->Bd 10 b->Bd 10 c->Bd 10 d->Bd 100000 (a*b-c*d):=λh1 h2 h3 h4=>(((h1.mul h2).mono (show 10+10<=20 by decide)).sub ((h3.mul h4).mono (show 10+10<=20 by decide))).mono (by decide);have en:=Qb (A:=.lst [.int U0,.int U1,.int U2]) (B:=.lst [.int V0,.int V1,.int V2]) S rfl rfl (u b1) (u b2) (u b3) (u b4) (u b5) (u b6);have ed:=Co (A:=.lst [.int (U1*V2-U2*V1),.int (U2*V0-U0*V2),.int (U0*V1-U1*V0)]) (B:=.lst [.int T0,.int T1,.int T2]) (us:=[U1*V2-U2*V1,U2*V0-U0*V2,U0*V1-U1*V0]) (vs:=[T0,T1,T2]) S (.inl rfl) (.inl rfl) (by simp;exact⟨cc b2 b6 b3 b5,cc b3 b4 b1 b6,cc b1 b5 b2 b4⟩) (by simp;exact⟨u2 b7,u2 b8,u2 b9⟩);rw[id]at ed;generalize U0*V1-U1*V0=N2,U2*V0-U0*V2=N1,U1*V2-U2*V1=N0 at *;unfold kG aW qJ;simp! [aE,bC,bF,aM,aO,aP,aR,aQ,aH,aN,en,ed]
 unfold mX aW uO;simp only[lv,li,aw,cw]at h s1;simp! [aE,bC,bF,aM,aO,aP,aR,aQ,aH,aN,bT,bR,cR,fZ,eA,fK,iO,h,s1,cY,fL,fA,gN,gT,bH,cP,gK,kL,eP,et]
theorem ade{n:Nat}(hn:n=2\/n=3){S:aG}{ti:Nat}{L:AY}(h:S[ti]?=some (.lst (L.map lv)))(hl:L.length=n+1)(hb:∀xs∈L,xs.length=n/\∀x∈xs,0<=x/\x<=2):mX [.ref ti] S=.ok (.pv (.int (dU (L.map (·++[1]))))) S:=by
 rcases hn with rfl |rfl
 .match L,hl,hb,h with
  |[A,B,C],_,hb,h=>
   have ga:=hb A (by simp);have gb:=hb B (by simp);have gc:=hb C (by simp);clear hb
   match A,ga.1,B,gb.1,C,gc.1 with
   |[a,b],_,[c,d],_,[e,f],_=>exact abl h (ga.2 a (by simp)) (ga.2 b (by simp)) (gb.2 c (by simp)) (gb.2 d (by simp)) (gc.2 e (by simp)) (gc.2 f (by simp))
 .match L,hl,hb,h with
  |[A,B,C,D],_,hb,h=>
   have ga:=hb A (by simp);have gb:=hb B (by simp);have gc:=hb C (by simp);have gd:=hb D (by simp);clear hb
   match A,ga.1,B,gb.1,C,gc.1,D,gd.1 with
   |[x0,y0,z0],_,[x1,y1,z1],_,[x2,y2,z2],_,[x3,y3,z3],_=>
    refine aaP h λx hx=>?_;rw[show[x0,y0,z0,x1,y1,z1,x2,y2,z2,x3,y3,z3]=[x0,y0,z0]++([x1,y1,z1]++([x2,y2,z2]++[x3,y3,z3])) from rfl]at hx;rcases cq.mp hx with z |z
    .exact ga.2 x z
    .rcases cq.mp z with z |z
     .exact gb.2 x z
     .rcases cq.mp z with z |z
      .exact gc.2 x z
      .exact gd.2 x z
def rL(n:Nat):AY:=if n=2 then[[0,0],[1,0],[0,1]] else[[0,0,0],[1,0,0],[0,1,0],[0,0,1]]
theorem aaT{n:Nat}(hn:n=2\/n=3):Rw n (rL n):=by
 rcases hn with rfl |rfl
 .exact⟨rfl,by decide,by decide,by decide⟩
 .exact⟨rfl,by decide,by decide,by decide⟩
theorem rgm(S:aG){n:Nat}(h:n<=9):xW [.pv (.int (-1)),.pv (.int (n:Int))] S=.ok (dA (-1) (n+1),[]) S:=by
 have e:xW [.pv (.int (-1)),.pv (.int (n:Int))] S=@ite _ ((-4611686018427387904<=(-1:Int)/\(-1:Int)<4611686018427387904/\-4611686018427387904<=(n:Int)/\(n:Int)<4611686018427387904)/\(n:Int)- -1<=16777216) (ug _) (.ok (dA (-1) ((n:Int)- -1).toNat,[]) S) .fail:=rfl;rw[e,if_pos ⟨⟨by decide,by decide,by omega,by omega⟩,by omega⟩];rw[show((n:Int)- -1).toNat=n+1 by omega]
theorem yJ{α:Type}{a:α}{S:aG}:jH (.ok a S)=.ok a S:=rfl
theorem yL{n:Nat}{v:PV}{S:aG}:frz n (.ok (.pv v) S)=.ok (.pv v) S:=rfl
theorem Q7{n:Nat}(hn:n=2\/n=3)(S:aG)(x0 x2 x3 x4:BG):bT ["_law_k"] [(1,"_law_dims")] (nC (aB (cL dD (mC (.int 1))) (aB (aA 1) aD))) (gN 0) (bT ["_law_m"] [(0,"_law_k")] (dB (aB (aA 1) aD)) (gN 0) (mR iW (aB (aC dM (aA 0) (aA 1)) aD))) [x0,some (.pv (.int (n:Int))),x2,x3,x4] S=.ok (.pv (cM (rL n))) S:=by
 have r1:=λS=>pK S (n:=n) (by omega);have r2:=λS=>rgm S (n:=n) (by omega);rcases hn with rfl |rfl
 .have c2:((2:Nat):Int)=2:=rfl
  rw[c2]at r1 r2⊢;have i1:dA 0 2=[.int 0,.int 1]:=rfl;have i2:dA (-1) (2+1)=[.int (-1),.int 0,.int 1]:=rfl;rw[i1]at r1;rw[i2]at r2;simp! [bT,cY,dB,nC,aE,bC,bF,aM,aO,aP,aR,aQ,aH,aN,r1,r2,fL,fA,gN,iW,rL]
 .have c2:((3:Nat):Int)=3:=rfl
  rw[c2]at r1 r2⊢;have i1:dA 0 3=[.int 0,.int 1,.int 2]:=rfl;have i2:dA (-1) (3+1)=[.int (-1),.int 0,.int 1,.int 2]:=rfl;rw[i1]at r1;rw[i2]at r2;simp! [bT,cY,dB,nC,aE,bC,bF,aM,aO,aP,aR,aQ,aH,aN,r1,r2,fL,fA,gN,iW,rL]
theorem Bq{n:Nat}(hn:n=2\/n=3){W:Int}(W0:0<=W)(W1:W<=2)(ns:AX)(hl:BE):∃(xss:AY)(ns':AX),frz 2 (jH (lL [.ref 0,.pv (.int (n:Int)),.pv (.int W)] [.lst (li ns),.lst hl]))=.ok (.pv (cM xss)) [.lst (li ns'),.lst hl]/\Rw n xss:=by
 obtain⟨L,n1,y4,e1,l1,b1⟩:=Om (n:=n) (by omega) W0 W1 hl (dA 0 (n+1)) [] ns none (by unfold dA;simp;omega);have hi:(dA 0 (n+1)).length=n+1:=by unfold dA;simp
 rw[hi]at l1;simp only[jy,cw]at e1;have et:=ade (ti:=2) (S:=[.lst (li n1),.lst hl,.lst (L.map lv)]) hn rfl l1 b1;have rg:=pK [.lst (li ns),.lst hl,.lst []] (n:=n+1) (by omega);have cn:((n+1:Nat):Int)=(n:Int)+1:=by omega
 rw[cn]at rg;have ed:=Q7 hn [.lst (li n1),.lst hl,.lst (L.map lv)] (some (.ref 0)) (some (.pv (.int W))) (some (.ref 2)) y4;have hb:Xc=(aK (aZ 3 (eT aD))
  (aK (bX (dB (aB (aC aH (aA 1) (mC (.int 1))) aD)) (gN 4) rB)
  (aK (cS (bJ (aC gH (aT mX [] (aB (aA 3) aD)) (mC (.int 0)))) (bG (aA 3)) dZ)
  (bG (bT ["_law_k"] [(1,"_law_dims")] (nC (aB (cL dD (mC (.int 1))) (aB (aA 1) aD))) (gN 0) (bT ["_law_m"] [(0,"_law_k")] (dB (aB (aA 1) aD)) (gN 0) (mR iW (aB (aC dM (aA 0) (aA 1)) aD)))))))):=rfl
 generalize (bT ["_law_k"] [(1,"_law_dims")] (nC (aB (cL dD (mC (.int 1))) (aB (aA 1) aD))) (gN 0) (bT ["_law_m"] [(0,"_law_k")] (dB (aB (aA 1) aD)) (gN 0) (mR iW (aB (aC dM (aA 0) (aA 1)) aD))))=CD at ed hb;generalize rB=RB at e1 hb
 by_cases hd:dU (L.map (·++[1]))=0
 .refine⟨rL n,n1,?_,aaT hn⟩
  rw[hd]at et;unfold lL aW;rw[hb];generalize (n:Int)=N,dA 0 (n+1)=IP,li n1=NL1,li ns=NL,L.map lv=LL,cM (rL n)=RV at *;simp! [aE,bC,bF,aM,aO,aP,aR,aQ,aH,aN,eT,kK,bX,dB,rg,e1,et,ed]
 .refine⟨L,n1,?_,⟨l1,λxs hx=>(b1 xs hx).1,λxs hx x hh=>by have:=(b1 xs hx).2 x hh;omega,hd⟩⟩
  unfold lL aW;rw[hb];have hv:cM L=.lst (L.map lv):=rfl;rw[hv];generalize (n:Int)=N,dA 0 (n+1)=IP,li n1=NL1,li ns=NL,L.map lv=LL,dU (L.map (·++[1]))=d at *;simp! [aE,bC,bF,aM,aO,aP,aR,aQ,aH,aN,eT,kK,bX,dB,rg,e1,et,hd]
abbrev hB:MS:=(aK (aZ 5 (aT dR [] (aB (aA 0) (aB (mC (.int 6)) aD))))
 (cS (jL (bJ (aC dM (aA 5) (mC (.int 5)))) (bJ (aC eY (mR cZ (aB (aA 3) aD)) (mC (.int 0))))) (dE (dI (aA 3) (aB (aC aE (aA 3) (cL dD (mC (.int 1)))) aD))) (cS (bJ (aC dM (aA 1) (mC (.int 2)))) (dE (dI (aA 3) (aB (aT lL [] (aB (aA 0) (aB (mC (.int 2)) (aB (aC aH (mC (.int 1)) (mR iW (aB (aC dM (aA 5) (mC (.int 4))) aD))) aD)))) aD))) (cS (bJ (aC eY (aA 5) (mC (.int 3)))) (dE (dI (aA 3) (aB (aT lL [] (aB (aA 0) (aB (mC (.int 3)) (aB (mC (.int 1)) aD)))) aD))) (dE (dI (aA 3) (aB (aT qL [] (aB (aA 0) aD)) aD)))))))
theorem acG{n:Nat}(hn:n=2\/n=3)(ns:AX)(hs:AZ)(hw:∀xss∈hs,Rw n xss)(hl:hs.length<=99)(x2 x4 x5:BG):∃(xss:AY)(ns':AX)(y5:BG),hB [some (.ref 0),some (.pv (.int (n:Int))),x2,some (.ref 1),x4,x5] [.lst (li ns),.lst (hs.map cM)]=.nx [some (.ref 0),some (.pv (.int (n:Int))),x2,some (.ref 1),x4,y5] [.lst (li ns'),.lst ((hs++[xss]).map cM)]/\Rw n xss:=by
 have hr:fR [.lst (li ns),.lst (hs.map cM)] 0 ns:=rfl;obtain⟨t,n1,e1,t0,t1,_⟩:=jW (m:=6) hr (by decide) (lU (by decide) (by decide));simp only[ff]at e1;have e1:dR [.ref 0,.pv (.int 6)] [.lst (li ns),.lst (hs.map cM)]=.ok (.pv (.int t)) [.lst (li n1),.lst (hs.map cM)]:=e1;have lz:(hs.map cM).length<16777216:=by rw[ao];omega
 have lz':hs.length<16777216:=by omega
 have el:∀xss,(hs++[xss]).map cM=hs.map cM++[cM xss]:=λxss=>by simp
 by_cases c1:t=5/\0<hs.length
 .obtain⟨v,hv,e2⟩:=Nz (hs.map cM) .non (by
   intro z;have:=congrArg qh z;simp at this;rw[this]at c1;simp at c1)
  obtain⟨xss,hx,rfl⟩:=dg.mp hv;refine⟨xss,n1,some (.pv (.int t)),?_,hw xss hx⟩;rw[el];obtain⟨c1,c2⟩:=c1;subst c1;have c3:hs.map cM≠[]:=λz=>by
   have:=congrArg qh z;simp at this;rw[this]at c2;simp at c2
  generalize hs.map cM=HL,cM xss=RV at *;unfold hB;simp! [-frz,-jH,bS,aO,aP,aR,aQ,aH,aN,e1,dI,fD,iQ,e2,lz,c3]
 .have c1':t=5->hs.map cM=[]:=λz=>by
   have:hs.length=0:=by
    by_cases y:0<hs.length
    .exact absurd ⟨z,y⟩ c1
    .omega
   rw[yn.mp this];rfl
  have cA:∀(S:aG)(ρ:bW),ρ[5]?=some (some (.pv (.int t)))->ρ[3]?=some (some (.ref 1))->S[1]?=some (.lst (hs.map cM))->jL (bJ (aC dM (aA 5) (mC (.int 5)))) (bJ (aC eY (mR cZ (aB (aA 3) aD)) (mC (.int 0)))) ρ S=.ok false S:=λS ρ h5 h3 hS=>by
   cases z:t==5 with
   |false=>simp! [-frz,-jH,bS,aO,aP,aR,aQ,aH,aN,h5,z]
   |true=>
    rw[c1' (by simpa using z)]at hS;simp! [-frz,-jH,bS,aO,aP,aR,aQ,aH,aN,h5,h3,hS,z]
  generalize hA:jL (bJ (aC dM (aA 5) (mC (.int 5)))) (bJ (aC eY (mR cZ (aB (aA 3) aD)) (mC (.int 0))))=MA at cA;have hBe:hB=(aK (aZ 5 (aT dR [] (aB (aA 0) (aB (mC (.int 6)) aD))))
   (cS MA (dE (dI (aA 3) (aB (aC aE (aA 3) (cL dD (mC (.int 1)))) aD))) (cS (bJ (aC dM (aA 1) (mC (.int 2)))) (dE (dI (aA 3) (aB (aT lL [] (aB (aA 0) (aB (mC (.int 2)) (aB (aC aH (mC (.int 1)) (mR iW (aB (aC dM (aA 5) (mC (.int 4))) aD))) aD)))) aD))) (cS (bJ (aC eY (aA 5) (mC (.int 3)))) (dE (dI (aA 3) (aB (aT lL [] (aB (aA 0) (aB (mC (.int 3)) (aB (mC (.int 1)) aD)))) aD))) (dE (dI (aA 3) (aB (aT qL [] (aB (aA 0) aD)) aD))))))):=by rw[<-hA]
  rw[hBe];rcases hn with rfl |rfl
  .obtain⟨xss,n2,e2,hw2⟩:=Bq (n:=2) (.inl rfl) (W:=1+(if t=4 then 1 else 0)) (by split<;>decide) (by split<;>decide) n1 (hs.map cM)
   refine⟨xss,n2,some (.pv (.int t)),?_,hw2⟩;rw[el];have c2:((2:Nat):Int)=2:=rfl;rw[c2]at e2⊢;have cA':=cA [.lst (li n1),.lst (hs.map cM)] [some (.ref 0),some (.pv (.int 2)),x2,some (.ref 1),x4,some (.pv (.int t))] rfl rfl rfl;generalize hs.map cM=HL,cM xss=RV at*
   by_cases z:t=4
   .subst z
    simp! [-frz,-jH,bS,aO,aP,aR,aQ,aH,aN,e1,cA',dI,fD,iQ,iW,yJ,yL,lz]at e2⊢;simp[e2,lz,bP.bind,cD.of]
   .rw[if_neg z]at e2
    have z':(t==4)=false:=by simpa using z
    simp! [-frz,-jH,bS,aO,aP,aR,aQ,aH,aN,e1,cA',dI,fD,iQ,iW,yJ,yL,lz,z']at e2⊢;simp[e2,lz,bP.bind,cD.of]
  .have c3:((3:Nat):Int)=3:=rfl
   rw[c3];have cA':=cA [.lst (li n1),.lst (hs.map cM)] [some (.ref 0),some (.pv (.int 3)),x2,some (.ref 1),x4,some (.pv (.int t))] rfl rfl rfl
   by_cases z:3<t
   .obtain⟨xss,n2,e2,hw2⟩:=Bq (n:=3) (.inr rfl) (W:=1) (by decide) (by decide) n1 (hs.map cM)
    refine⟨xss,n2,some (.pv (.int t)),?_,hw2⟩;rw[el];rw[c3]at e2;generalize hs.map cM=HL,cM xss=RV at *;simp! [-frz,-jH,bS,aO,aP,aR,aQ,aH,aN,e1,cA',dI,fD,iQ,yJ,yL,z];simp[e2,lz,bP.bind,cD.of]
   .obtain⟨xss,n2,e2,hw2⟩:=W7 n1 (hs.map cM)
    refine⟨xss,n2,some (.pv (.int t)),?_,hw2⟩;rw[el];generalize hs.map cM=HL,cM xss=RV at *;simp! [-frz,-jH,bS,aO,aP,aR,aQ,aH,aN,e1,cA',dI,fD,iQ,yJ,yL,z,e2,lz]
theorem Ys{n:Nat}(hn:n=2\/n=3)(x2:BG):∀(is:BE)(hs:AZ)(ns:AX)(x4 x5:BG),(∀xss∈hs,Rw n xss)->hs.length+is.length<=99->∃(hs':AZ)(ns':AX)(y4 y5:BG),
  cV [] (gN 4) hB is [some (.ref 0),some (.pv (.int (n:Int))),x2,some (.ref 1),x4,x5] [.lst (li ns),.lst (hs.map cM)]=.nx [some (.ref 0),some (.pv (.int (n:Int))),x2,some (.ref 1),y4,y5] [.lst (li ns'),.lst (hs'.map cM)]/\hs'.length=hs.length+is.length/\∀xss∈hs',Rw n xss
 |[],hs,ns,x4,x5,hw,_=>⟨hs,ns,x4,x5,gM,rfl,hw⟩
 |i::is,hs,ns,x4,x5,hw,h9=>by
  have h9:hs.length+(is.length+1)<=99:=h9;obtain⟨xss,n1,y5,e1,r1⟩:=acG hn ns hs hw (by omega) x2 (some (.pv i)) x5;obtain⟨hs',n2,z4,z5,e2,l2,r2⟩:=Ys hn x2 is (hs++[xss]) n1 (some (.pv i)) y5 (λy hy=>by
   rcases cq.mp hy with z |z
   .exact hw y z
   .have:y=xss:=by simpa using z
    rw[this];exact r1) (by rw[bh,kb];omega)
  refine⟨hs',n2,z4,z5,?_,by rw[l2,bh,kb];show _=hs.length+(is.length+1);omega,r2⟩;rw[eZ];simp only[gN,jl,ff];rw[e1];exact e2
theorem Nw{n M:Nat}(hn:n=2\/n=3)(hM:M<=8)(ns:AX):∃(hs:AZ)(ns':AX),rS [.ref 0,.pv (.int (n:Int)),.pv (.int (M:Int))] [.lst (li ns)]=.ok (.ref 1) [.lst (li ns'),.lst (hs.map cM)]/\hs.length<=M/\∀xss∈hs,Rw n xss:=by
 have hr:fR [.lst (li ns),.lst []] 0 ns:=rfl;obtain⟨t,n1,e1,t0,t1,_⟩:=jW (m:=(M:Int)+1) hr (by omega) (lU (by omega) (by omega));simp only[ff]at e1;have e1:dR [.ref 0,.pv (.int ((M:Int)+1))] [.lst (li ns),.lst []]=.ok (.pv (.int t)) [.lst (li n1),.lst []]:=e1;obtain⟨m,rfl⟩:∃m:Nat,t=(m:Int):=⟨t.toNat,by omega⟩;have rg:=pK [.lst (li n1),.lst []] (n:=m) (by omega);have hi:(dA 0 m).length=m:=by unfold dA;simp
 obtain⟨hs,n2,y4,y5,e2,l2,r2⟩:=Ys hn (some (.pv (.int (M:Int)))) (dA 0 m) [] n1 none none (λ_ h=>absurd h gw) (by rw[hi];show 0+m<=99;omega);rw[hi]at l2;refine⟨hs,n2,?_,by rw[l2];show 0+m<=M;omega,r2⟩;simp only[cw]at e2;have hb:zL=(aK (aZ 3 (eT aD))
  (aK (bX (dB (aB (aT dR [] (aB (aA 0) (aB (aC aH (aA 2) (mC (.int 1))) aD))) aD)) (gN 4) hB)
  (bG (aA 3)))):=rfl
 unfold rS aW;rw[hb];generalize (M:Int)=MM,(n:Int)=N,(m:Int)=mm,dA 0 m=IP,hs.map cM=HL,hB=HB at *;simp! [aE,bC,bF,aM,aO,aP,aR,aQ,aH,aN,eT,kK,bX,dB,e1,rg,e2]
theorem Lr{n k:Nat}{L:AX}{b:Int}(hb:0<b)(hl:L.length=n)(hL:∀x∈L,Bd k x)(bb:Bd k b):∃(zs:AX)(z:Int),low (L++[b])=zs++[z]/\Pq n k zs z/\∀j,j<n->zs.getD j 0*b=L.getD j 0*z:=by
 obtain⟨zs,z,g,e,hg,hz,g1,g2,hzl⟩:=wG L hb;have hlow:=Sb L hb;have hbd:=wZ (k:=k) (ns:=L++[b]) λm hm=>by
  rcases cq.mp hm with y |y
  .exact hL m y
  .have:m=b:=by simpa using y
   rw[this];exact bb
 rw[e]at hlow hbd;refine⟨zs,z,e,⟨hzl.trans hl,hz,hlow,λx hx=>hbd x (ld _ hx),hbd z (nA zs z)⟩,λj hj=>?_⟩;have hj':j<zs.length:=by omega
 have e1:L.getD j 0=g*zs.getD j 0:=by
  rw[g1];simp[cf,hj']
 rw[e1,g2];grind
structure Sp(u:Int×Int):Prop where
 p:0<u.1
 q:0<u.2
 bp:Bd 30 u.1
 bq:Bd 30 u.2
theorem p9:iA (.int 10) (.int 9)=some (.int 1000000000):=vV (i:=10) (j:=9) ⟨by decide,by decide,by decide⟩
theorem p6:iA (.int 10) (.int 6)=some (.int 1000000):=vV (i:=10) (j:=6) ⟨by decide,by decide,by decide⟩
theorem dP{v:Int}(h0:0<=v)(h1:v<3):∃M N:Int,aE (.lst [.int 1,.int 7,.int 1000000000]) (.int v)=some (.int M)/\aE (.lst [.int 1,.int 7,.int 1000000]) (.int v)=some (.int N)/\0<M/\M<=1000000000/\0<N/\N<=1000000:=by
 have:v=0\/v=1\/v=2:=by omega
 rcases this with rfl |rfl |rfl
 .exact⟨1,1,rfl,rfl,by decide,by decide,by decide,by decide⟩
 .exact⟨7,7,rfl,rfl,by decide,by decide,by decide,by decide⟩
 .exact⟨1000000000,1000000,rfl,rfl,by decide,by decide,by decide,by decide⟩
abbrev sB:MS:=(aK (aZ 4 (aT dR [] (aB (aA 0) (aB (mC (.int 3)) aD))))
 (dE (dI (aA 2) (aB (aT lG [] (aB (aC aH (mC (.int 1)) (aT dR [] (aB (aA 0) (aB (aC aE (mN fU (aB (mC (.int 1)) (aB (mC (.int 7)) (aB (aC iA (mC (.int 10)) (mC (.int 9))) aD)))) (aA 4)) aD)))) (aB (aC aH (mC (.int 1)) (aT dR [] (aB (aA 0) (aB (aC aE (mN fU (aB (mC (.int 1)) (aB (mC (.int 7)) (aB (aC iA (mC (.int 10)) (mC (.int 6))) aD)))) (aA 4)) aD)))) aD))) aD))))
theorem ac3(ns:AX)(fs:List (Int×Int))(hl:fs.length<=9)(x1 x3 x4:BG):∃(u:Int×Int)(ns':AX)(y4:BG),sB [some (.ref 0),x1,some (.ref 1),x3,x4] [.lst (li ns),.lst (fs.map fv)]=.nx [some (.ref 0),x1,some (.ref 1),x3,y4] [.lst (li ns'),.lst ((fs++[u]).map fv)]/\Sp u:=by
 have hr:∀ms,fR [.lst (li ms),.lst (fs.map fv)] 0 ms:=λ_=>rfl;obtain⟨c,n1,e1,c0,c1,_⟩:=jW (m:=3) (hr ns) (by decide) (lU (by decide) (by decide));obtain⟨M,N,em,en,M0,M1,N0,N1⟩:=dP c0 c1;have bM:Bd 8000 M:=(Bd.of (k:=30) (n:=1000000000) (by omega) (by decide)).mono (by decide);have bN:Bd 8000 N:=(Bd.of (k:=30) (n:=1000000000) (by omega) (by decide)).mono (by decide);obtain⟨t,n2,e2,t0,t1,_⟩:=jW (m:=M) (hr n1) M0 bM;obtain⟨v,n3,e3,v0,v1,_⟩:=jW (m:=N) (hr n2) N0 bN;simp only[ff]at e1 e2 e3;have bt:Bd 30 (1+t):=Bd.of (n:=1000000000) (by omega) (by decide);have bv:Bd 30 (1+v):=Bd.of (n:=1000000000) (by omega) (by decide);have nz:1+v≠0:=by omega
 have e4:=wB (1+t) (1+v) [.lst (li n3),.lst (fs.map fv)] (bt.mono (by decide)) (bv.mono (by decide));obtain⟨p,q,ef,hq,hpq⟩:=xI (t:=1+t) nz;obtain⟨b1,b2⟩:=tN bt bv ef;have hp:0<p:=by
  have h1:0<(1+t)*q:=cg (by omega) hq;rw[<-hpq]at h1;exact xh h1 (by omega)
 rw[ef]at e4;simp only[aw,cw]at e4;refine⟨(p,q),n3,some (.pv (.int c)),?_,⟨hp,hq,b1,b2⟩⟩;have el:(fs++[(p,q)]).map fv=fs.map fv++[.tup [.int p,.int q]]:=by simp
 rw[el];have lz:(fs.map fv).length<16777216:=by rw[ao];omega
 have e1:dR [.ref 0,.pv (.int 3)] [.lst (li ns),.lst (fs.map fv)]=.ok (.pv (.int c)) [.lst (li n1),.lst (fs.map fv)]:=e1;have e2:dR [.ref 0,.pv (.int M)] [.lst (li n1),.lst (fs.map fv)]=.ok (.pv (.int t)) [.lst (li n2),.lst (fs.map fv)]:=e2;have e3:dR [.ref 0,.pv (.int N)] [.lst (li n2),.lst (fs.map fv)]=.ok (.pv (.int v)) [.lst (li n3),.lst (fs.map fv)]:=e3;generalize fs.map fv=FL at *;unfold sB;simp! [bS,aO,aP,aR,aQ,aH,aN,e1,p9,p6,em,en,e2,e3,e4,dI,fD,iQ,lz]
theorem Vs(x1:BG):∀(is:BE)(fs:List (Int×Int))(ns:AX)(x3 x4:BG),(∀u∈fs,Sp u)->fs.length+is.length<=9->∃(fs':List (Int×Int))(ns':AX)(y3 y4:BG),
  cV [] (gN 3) sB is [some (.ref 0),x1,some (.ref 1),x3,x4] [.lst (li ns),.lst (fs.map fv)]=.nx [some (.ref 0),x1,some (.ref 1),y3,y4] [.lst (li ns'),.lst (fs'.map fv)]/\fs'.length=fs.length+is.length/\∀u∈fs',Sp u
 |[],fs,ns,x3,x4,hw,_=>⟨fs,ns,x3,x4,gM,rfl,hw⟩
 |i::is,fs,ns,x3,x4,hw,h9=>by
  have h9:fs.length+(is.length+1)<=9:=h9;obtain⟨u,n1,y4,e1,r1⟩:=ac3 ns fs (by omega) x1 (some (.pv i)) x4;obtain⟨fs',n2,z3,z4,e2,l2,r2⟩:=Vs x1 is (fs++[u]) n1 (some (.pv i)) y4 (λy hy=>by
   rcases cq.mp hy with z |z
   .exact hw y z
   .have:y=u:=by simpa using z
    rw[this];exact r1) (by rw[bh,kb];omega)
  refine⟨fs',n2,z3,z4,?_,by rw[l2,bh,kb];show _=fs.length+(is.length+1);omega,r2⟩;rw[eZ];simp only[gN,jl,ff];rw[e1];exact e2
theorem Ay{n:Nat}(hn:n=2\/n=3)(ns:AX):∃(fs:List (Int×Int))(ns':AX),uV [.ref 0,.pv (.int (n:Int))] [.lst (li ns)]=.ok (.ref 1) [.lst (li ns'),.lst (fs.map fv)]/\fs.length=n/\∀u∈fs,Sp u:=by
 have hi:(dA 0 n).length=n:=by unfold dA;simp
 have rg:=pK [.lst (li ns),.lst []] (n:=n) (by omega);obtain⟨fs,n2,y3,y4,e2,l2,r2⟩:=Vs (some (.pv (.int (n:Int)))) (dA 0 n) [] ns none none (λ_ h=>absurd h gw) (by rw[hi];show 0+n<=9;omega);rw[hi]at l2;refine⟨fs,n2,?_,by rw[l2];show 0+n=n;omega,r2⟩;simp only[cw]at e2;have hb:zV=(aK (aZ 2 (eT aD)) (aK (bX (dB (aB (aA 1) aD)) (gN 3) sB) (bG (aA 2)))):=rfl;unfold uV aW;rw[hb];generalize (n:Int)=N,dA 0 n=IP,fs.map fv=FL,sB=SB at *;simp! [aE,bC,bF,aM,aO,aP,aR,aQ,aH,aN,eT,kK,bX,dB,rg,e2]
def eF:List (Int×Int)->AX->AX
 |[u,v],[a,b]=>low ([a*u.1*v.2,b*v.1*u.2]++[1*u.2*v.2])
 |[u,v,t],[a,b,c]=>low ([a*u.1*(v.2*t.2),b*v.1*(u.2*t.2),c*t.1*(u.2*v.2)]++[1*u.2*v.2*t.2])
 |_,_=>[]
def Mf:List (Int×Int)->Nat->Int
 |[u,v],0=>u.1*v.2
 |[u,v],1=>v.1*u.2
 |[u,v,t],0=>u.1*(v.2*t.2)
 |[u,v,t],1=>v.1*(u.2*t.2)
 |[u,v,t],2=>t.1*(u.2*v.2)
 |_,_=>1
def Rf:List (Int×Int)->Int
 |[u,v]=>1*u.2*v.2
 |[u,v,t]=>1*u.2*v.2*t.2
 |_=>1
theorem Vb{n:Nat}(hn:n=2\/n=3)(S:aG){fs:List (Int×Int)}{xs:AX}(hf:fs.length=n)(h:∀u∈fs,Sp u)(hx:xs.length=n)(hb:∀x∈xs,-8<x/\x<8):oP [.pv (lv xs),.pv (.lst (fs.map fv))] S=.ok (.pv (tv (eF fs xs))) S/\Gu n 100 (eF fs xs)/\iX n (Mf fs) (λ_=>0) (Rf fs) (xs++[1]) (eF fs xs):=by
 have b3:∀{x:Int},-8<x/\x<8->Bd 3 x:=λh=>by
  unfold Bd;have:(2:Nat)^3=8:=rfl;omega
 have o1:Bd 1 (1:Int):=by unfold Bd;decide
 rcases hn with rfl |rfl
 .match fs,hf,h,xs,hx,hb with
  |[u,v],_,h,[a,b],_,hb=>
   have hu:=h u (by simp);have hv:=h v (by simp);have ba:=b3 (hb a (by simp));have bb:=b3 (hb b (by simp));have m1:=mk o1 hu.bq (by decide) (by decide);have m2:=mk (o1.mul hu.bq) hv.bq (by decide) (by decide);have d1:(1*u.2*v.2).fdiv u.2=v.2:=by rw[jd];exact oF (by have:=hu.q;omega)
   have d2:(1*u.2*v.2).fdiv v.2=u.2:=by rw[jd,dy];exact oF (by have:=hv.q;omega)
   have q1:gG (.int (1*u.2*v.2)) (.int u.2)=some (.int v.2):=by
    have e:=lC (i:=1*u.2*v.2) (j:=u.2) ⟨by have:=hu.q;omega,hu.bq.mono (by decide)⟩;rw[d1]at e;exact e
   have q2:gG (.int (1*u.2*v.2)) (.int v.2)=some (.int u.2):=by
    have e:=lC (i:=1*u.2*v.2) (j:=v.2) ⟨by have:=hv.q;omega,hv.bq.mono (by decide)⟩;rw[d2]at e;exact e
   have m3:=mk ba hu.bp (by decide) (by decide);have m4:=mk (ba.mul hu.bp) hv.bq (by decide) (by decide);have m5:=mk bb hv.bp (by decide) (by decide);have m6:=mk (bb.mul hv.bp) hu.bq (by decide) (by decide);have pE:0<1*u.2*v.2:=cg (cg (by decide) hu.q) hv.q;have bL:∀x∈[a*u.1*v.2,b*v.1*u.2],Bd 100 x:=by
    simp;exact⟨((ba.mul hu.bp).mul hv.bq).mono (by decide),((bb.mul hv.bp).mul hu.bq).mono (by decide)⟩
   have bE:Bd 100 (1*u.2*v.2):=((o1.mul hu.bq).mul hv.bq).mono (by decide);obtain⟨zs,z,el,Z,rel⟩:=Lr (n:=2) pE rfl bL bE;have ew:=oI ([a*u.1*v.2,b*v.1*u.2]++[1*u.2*v.2]) S (by
    intro x hx;rcases cq.mp hx with y |y
    .exact(bL x y).mono (by decide)
    .have:x=1*u.2*v.2:=by simpa using y
     rw[this];exact bE.mono (by decide))
   have es:eF [u,v] [a,b]=zs++[z]:=el;refine⟨?_,by rw[es];exact⟨zs,z,rfl,Z⟩,[a,b],1,zs,z,rfl,es,rfl,Z.len,by decide,Z.pos,λj hj=>?_⟩
   .rw[el]at ew
    rw[es];simp only[aw,cw,uz,jy]at ew;generalize hQ:1*u.2*v.2=Q at *;generalize hA:a*u.1*v.2=A at *;generalize hB:b*v.1*u.2=B at *;unfold oP aW wC;simp only[lv,li,aw,cw];simp only[tv];generalize (zs++[z]).map PV.int=ZL at *;simp only[jd]at m1 m2 hQ;simp! [aE,bC,bF,aM,aO,aP,aR,aQ,aH,aN,bX,bR,cR,eZ,gM,gN,m1,m2,bT,cY,gK,kL,eP,fL,fA,gT,bH,cP,m3,m4,m5,m6,q1,q2,ew]
   .have r:=rel j hj
    match j,hj with
    |0,_=>
     have r:zs.getD 0 0*(1*u.2*v.2)=a*u.1*v.2*z:=r;show zs.getD 0 0*(1*u.2*v.2*1)=(u.1*v.2*a+0*1)*z;rw[nv,r];grind
    |1,_=>
     have r:zs.getD 1 0*(1*u.2*v.2)=b*v.1*u.2*z:=r;show zs.getD 1 0*(1*u.2*v.2*1)=(v.1*u.2*b+0*1)*z;rw[nv,r];grind
 .match fs,hf,h,xs,hx,hb with
  |[u,v,t],_,h,[a,b,c],_,hb=>
   have hu:=h u (by simp);have hv:=h v (by simp);have ht:=h t (by simp);have ba:=b3 (hb a (by simp));have bb:=b3 (hb b (by simp));have bc:=b3 (hb c (by simp));have m1:=mk o1 hu.bq (by decide) (by decide);have m2:=mk (o1.mul hu.bq) hv.bq (by decide) (by decide);have m2':=mk ((o1.mul hu.bq).mul hv.bq) ht.bq (by decide) (by decide);have d1:(1*u.2*v.2*t.2).fdiv u.2=v.2*t.2:=by rw[jd,Int.mul_assoc];exact oF (by have:=hu.q;omega)
   have d2:(1*u.2*v.2*t.2).fdiv v.2=u.2*t.2:=by rw[show 1*u.2*v.2*t.2=v.2*(u.2*t.2) by grind];exact oF (by have:=hv.q;omega)
   have d3:(1*u.2*v.2*t.2).fdiv t.2=u.2*v.2:=by rw[show 1*u.2*v.2*t.2=t.2*(u.2*v.2) by grind];exact oF (by have:=ht.q;omega)
   have q1:gG (.int (1*u.2*v.2*t.2)) (.int u.2)=some (.int (v.2*t.2)):=by
    have e:=lC (i:=1*u.2*v.2*t.2) (j:=u.2) ⟨by have:=hu.q;omega,hu.bq.mono (by decide)⟩;rw[d1]at e;exact e
   have q2:gG (.int (1*u.2*v.2*t.2)) (.int v.2)=some (.int (u.2*t.2)):=by
    have e:=lC (i:=1*u.2*v.2*t.2) (j:=v.2) ⟨by have:=hv.q;omega,hv.bq.mono (by decide)⟩;rw[d2]at e;exact e
   have q3:gG (.int (1*u.2*v.2*t.2)) (.int t.2)=some (.int (u.2*v.2)):=by
    have e:=lC (i:=1*u.2*v.2*t.2) (j:=t.2) ⟨by have:=ht.q;omega,ht.bq.mono (by decide)⟩;rw[d3]at e;exact e
   have m3:=mk ba hu.bp (by decide) (by decide);have m4:=mk (ba.mul hu.bp) (hv.bq.mul ht.bq) (by decide) (by decide);have m5:=mk bb hv.bp (by decide) (by decide);have m6:=mk (bb.mul hv.bp) (hu.bq.mul ht.bq) (by decide) (by decide);have m7:=mk bc ht.bp (by decide) (by decide);have m8:=mk (bc.mul ht.bp) (hu.bq.mul hv.bq) (by decide) (by decide);have pE:0<1*u.2*v.2*t.2:=cg (cg (cg (by decide) hu.q) hv.q) ht.q;have bL:∀x∈[a*u.1*(v.2*t.2),b*v.1*(u.2*t.2),c*t.1*(u.2*v.2)],Bd 100 x:=by
    simp;exact⟨((ba.mul hu.bp).mul (hv.bq.mul ht.bq)).mono (by decide),((bb.mul hv.bp).mul (hu.bq.mul ht.bq)).mono (by decide),((bc.mul ht.bp).mul (hu.bq.mul hv.bq)).mono (by decide)⟩
   have bE:Bd 100 (1*u.2*v.2*t.2):=(((o1.mul hu.bq).mul hv.bq).mul ht.bq).mono (by decide);obtain⟨zs,z,el,Z,rel⟩:=Lr (n:=3) pE rfl bL bE;have ew:=oI ([a*u.1*(v.2*t.2),b*v.1*(u.2*t.2),c*t.1*(u.2*v.2)]++[1*u.2*v.2*t.2]) S (by
    intro x hx;rcases cq.mp hx with y |y
    .exact(bL x y).mono (by decide)
    .have:x=1*u.2*v.2*t.2:=by simpa using y
     rw[this];exact bE.mono (by decide))
   have es:eF [u,v,t] [a,b,c]=zs++[z]:=el;refine⟨?_,by rw[es];exact⟨zs,z,rfl,Z⟩,[a,b,c],1,zs,z,rfl,es,rfl,Z.len,by decide,Z.pos,λj hj=>?_⟩
   .rw[el]at ew
    rw[es];simp only[aw,cw,uz,jy]at ew;generalize hQ:1*u.2*v.2*t.2=Q at *;generalize hA:a*u.1*(v.2*t.2)=A at *;generalize hB:b*v.1*(u.2*t.2)=B at *;generalize hC:c*t.1*(u.2*v.2)=C at *;unfold oP aW wC;simp only[lv,li,aw,cw];simp only[tv];generalize (zs++[z]).map PV.int=ZL at *;simp only[jd]at m1 m2 m2' hQ;simp! [aE,bC,bF,aM,aO,aP,aR,aQ,aH,aN,bX,bR,cR,eZ,gM,gN,m1,m2,m2',bT,cY,gK,kL,eP,fL,fA,gT,bH,cP,m3,m4,m5,m6,m7,m8,q1,q2,q3,ew]
   .have r:=rel j hj
    match j,hj with
    |0,_=>
     have r:zs.getD 0 0*(1*u.2*v.2*t.2)=a*u.1*(v.2*t.2)*z:=r;show zs.getD 0 0*(1*u.2*v.2*t.2*1)=(u.1*(v.2*t.2)*a+0*1)*z;rw[nv,r];grind
    |1,_=>
     have r:zs.getD 1 0*(1*u.2*v.2*t.2)=b*v.1*(u.2*t.2)*z:=r;show zs.getD 1 0*(1*u.2*v.2*t.2*1)=(v.1*(u.2*t.2)*b+0*1)*z;rw[nv,r];grind
    |2,_=>
     have r:zs.getD 2 0*(1*u.2*v.2*t.2)=c*t.1*(u.2*v.2)*z:=r;show zs.getD 2 0*(1*u.2*v.2*t.2*1)=(t.1*(u.2*v.2)*c+0*1)*z;rw[nv,r];grind
theorem aak{n:Nat}(hn:n=2\/n=3){fs:List (Int×Int)}(hf:fs.length=n)(h:∀u∈fs,Sp u):0<Rf fs/\∀j,j<n->0<Mf fs j:=by
 rcases hn with rfl |rfl
 .match fs,hf,h with
  |[u,v],_,h=>
   have hu:=h u (by simp);have hv:=h v (by simp);refine⟨cg (cg (by decide) hu.q) hv.q,λj hj=>?_⟩
   match j,hj with
   |0,_=>exact cg hu.p hv.q
   |1,_=>exact cg hv.p hu.q
 .match fs,hf,h with
  |[u,v,t],_,h=>
   have hu:=h u (by simp);have hv:=h v (by simp);have ht:=h t (by simp);refine⟨cg (cg (cg (by decide) hu.q) hv.q) ht.q,λj hj=>?_⟩
   match j,hj with
   |0,_=>exact cg hu.p (cg hv.q ht.q)
   |1,_=>exact cg hv.p (cg hu.q ht.q)
   |2,_=>exact cg ht.p (cg hu.q hv.q)
theorem G7{n:Nat}(hn:n=2\/n=3){fs:List (Int×Int)}(hf:fs.length=n)(h:∀u∈fs,Sp u){xss:AY}(w:Rw n xss):dU (xss.map (eF fs))≠0:=λz=>by
 have af:∀xs∈xss,iX n (Mf fs) (λ_=>0) (Rf fs) (xs++[1]) (eF fs xs):=λxs hx=>(Vb hn [] hf h (w.l xs hx) (w.b xs hx)).2.2;have gu:∀us∈xss.map (eF fs),Gu n 100 us:=λus hu=>by
  obtain⟨xs,hx,rfl⟩:=dg.mp hu;exact(Vb hn [] hf h (w.l xs hx) (w.b xs hx)).2.1
 have p2:=sQ gu;obtain⟨pe,pa⟩:=aak hn hf h;have nz:=w.nz;have wl:=w.len;clear w;rcases hn with rfl |rfl
 .match xss,wl,af,nz,p2,z with
  |[a,b,c],_,af,nz,p2,z=>
   have e:=Ht (af a (by simp)) (af b (by simp)) (af c (by simp));have z:dU [eF fs a,eF fs b,eF fs c]=0:=z;rw[z,kj]at e;exact gm (gm (ib (cg (cg (pa 0 (by decide)) (pa 1 (by decide))) pe)) nz) (ib p2) e.symm
 .match xss,wl,af,nz,p2,z with
  |[a,b,c,d],_,af,nz,p2,z=>
   have e:=Zt (af a (by simp)) (af b (by simp)) (af c (by simp)) (af d (by simp));have z:dU [eF fs a,eF fs b,eF fs c,eF fs d]=0:=z;rw[z,kj]at e;exact gm (gm (ib (cg (cg (cg (pa 0 (by decide)) (pa 1 (by decide))) (pa 2 (by decide))) pe)) nz) (ib p2) e.symm
abbrev lB:MS:=(aK (aZ 5 (aT nF [] (aB (aA 0) (aB (mR cZ (aB (aA 2) aD)) aD))))
 (dE (dI (aA 3) (aB (aT oH [] (aB (bT ["_law_corner"] [(5,"_law_far_here"),(2,"_law_stretch_here")] (bR (aA 4)) (gN 0) (aT mZ [] (aB (aT oP [] (aB (aA 0) (aB (aA 2) aD))) (aB (aA 1) (aB (mC (.int 1)) aD))))) aD)) aD))))
theorem ac6{n:Nat}(hn:n=2\/n=3)(ns:AX){fs:List (Int×Int)}(hf:fs.length=n)(h:∀u∈fs,Sp u)(gs:AZ)(hg:gs.length<=99){xss:AY}(w:Rw n xss)(x1 x5:BG):∃(uss:AY)(ns':AX)(y5:BG),lB [some (.ref 0),x1,some (.pv (.lst (fs.map fv))),some (.ref 1),some (.pv (cM xss)),x5] [.lst (li ns),.lst (gs.map px)]=.nx [some (.ref 0),x1,some (.pv (.lst (fs.map fv))),some (.ref 1),some (.pv (cM xss)),y5] [.lst (li ns'),.lst ((gs++[uss]).map px)]/\Sx n 201 uss:=by
 have hr:fR [.lst (li ns),.lst (gs.map px)] 0 ns:=rfl;obtain⟨v,n1,e1,G⟩:=adM n hn hr;simp only[ff]at e1;have e1:nF [.ref 0,.pv (.int (n:Int))] [.lst (li ns),.lst (gs.map px)]=.ok (.pv v) [.lst (li n1),.lst (gs.map px)]:=e1;obtain⟨ys,y,rfl,P⟩:=G;have Gf:Gu n 100 (ys++[y]):=⟨ys,y,rfl,P⟩;generalize ys++[y]=f at *;have sp:=λS xs (hx:xs∈xss)=>Vb hn S hf h (w.l xs hx) (w.b xs hx);have gu:∀us∈xss.map (eF fs),Gu n 100 us:=λus hu=>by
  obtain⟨xs,hx,rfl⟩:=dg.mp hu;exact(sp [] xs hx).2.1
 have hl:(xss.map (eF fs)).length=n+1:=by rw[ao];exact w.len
 have nz:=G7 hn hf h w;have nz2:=acx hn (way:=1) (.inl rfl) hl gu Gf nz;have gu2:=Ed (way:=1) (.inl rfl) gu Gf;have l2:((xss.map (eF fs)).map (gB 1 f)).length=n+1:=by rw[ao];exact hl
 have S1:=ac5 hn (k:=100+100+1) (by decide) l2 gu2 nz2;refine⟨_,n1,some (.pv (tv f)),?_,S1⟩;have el:(gs++[iI ((xss.map (eF fs)).map (gB 1 f))]).map px=gs.map px++[px (iI ((xss.map (eF fs)).map (gB 1 f)))]:=by simp
 rw[el];have lz:(gs.map px).length<16777216:=by rw[ao];omega
 have ln:((fs.map fv).length:Int)=(n:Int):=by rw[ao,hf]
 have ec:cO [] (gN 0) (aT mZ [] (aB (aT oP [] (aB (aA 0) (aB (aA 2) aD))) (aB (aA 1) (aB (mC (.int 1)) aD)))) (xss.map lv) [none,some (.pv (tv f)),some (.pv (.lst (fs.map fv)))] [.lst (li n1),.lst (gs.map px)]=.ok (xss.map λxs=>tv (gB 1 f (eF fs xs))) [.lst (li n1),.lst (gs.map px)]:=by
  refine Ma (nB _) lv (λxs=>tv (gB 1 f (eF fs xs))) xss none λxs hx=>?_;have a1:=(sp [.lst (li n1),.lst (gs.map px)] xs hx).1;have a2:=W9 (way:=1) [.lst (li n1),.lst (gs.map px)] hn (.inl rfl) (sp [] xs hx).2.1 Gf (by decide) (by decide);generalize gs.map px=GL,fs.map fv=FL,tv f=T4,lv xs=T3,tv (eF fs xs)=T2,tv (gB 1 f (eF fs xs))=T1 at *;simp! [aE,bC,bF,aM,aO,aP,aR,aQ,aH,aN,a1,a2]
 have es:=Kw (uss:=(xss.map (eF fs)).map (gB 1 f)) (A:=.lst (((xss.map (eF fs)).map (gB 1 f)).map tv)) hn [.lst (li n1),.lst (gs.map px)] l2 (λus hu=>(gu2 us hu).mono (by decide)) (.inl rfl);have em:((xss.map (eF fs)).map (gB 1 f)).map tv=xss.map λxs=>tv (gB 1 f (eF fs xs)):=by rw[fe,fe];rfl
 rw[em]at es;have hv:cM xss=.lst (xss.map lv):=rfl;have hp:∀L:AY,px L=.tup (L.map tv):=λ_=>rfl;rw[hv,hp];clear S1 nz2 gu2 l2 nz hl gu sp;generalize (n:Int)=N,gs.map px=GL,fs.map fv=FL,xss.map lv=XL,(xss.map λxs=>tv (gB 1 f (eF fs xs)))=TL,(iI ((xss.map (eF fs)).map (gB 1 f))).map tv=PX at *;have e1:nF [.ref 0,.pv (.int N)] [.lst (li ns),.lst GL]=.ok (.pv (tv f)) [.lst (li n1),.lst GL]:=e1;generalize tv f=TF at *;unfold lB;simp! [aE,bC,bF,aM,aO,aP,aR,aQ,aH,aN,ln,e1,dI,fD,iQ,bT,cY,bR,cR,ec,es,lz]
theorem Ls{n:Nat}(hn:n=2\/n=3){fs:List (Int×Int)}(hf:fs.length=n)(h:∀u∈fs,Sp u)(x1:BG):∀(hs:AZ)(gs:AZ)(ns:AX)(x4 x5:BG),(∀xss∈hs,Rw n xss)->(∀uss∈gs,Sx n 201 uss)->gs.length+hs.length<=99->∃(gs':AZ)(ns':AX)(y4 y5:BG),
  cV [] (gN 4) lB (hs.map cM) [some (.ref 0),x1,some (.pv (.lst (fs.map fv))),some (.ref 1),x4,x5] [.lst (li ns),.lst (gs.map px)]=.nx [some (.ref 0),x1,some (.pv (.lst (fs.map fv))),some (.ref 1),y4,y5] [.lst (li ns'),.lst (gs'.map px)]/\gs'.length=gs.length+hs.length/\∀uss∈gs',Sx n 201 uss
 |[],gs,ns,x4,x5,_,hg,_=>⟨gs,ns,x4,x5,gM,rfl,hg⟩
 |xss::hs,gs,ns,x4,x5,hw,hg,h9=>by
  have h9:gs.length+(hs.length+1)<=99:=h9;obtain⟨uss,n1,y5,e1,r1⟩:=ac6 hn ns hf h gs (by omega) (hw xss bf) x1 x5;obtain⟨gs',n2,z4,z5,e2,l2,r2⟩:=Ls hn hf h x1 hs (gs++[uss]) n1 (some (.pv (cM xss))) y5 (λy hy=>hw y (bn _ hy)) (λy hy=>by
   rcases cq.mp hy with z |z
   .exact hg y z
   .have:y=uss:=by simpa using z
    rw[this];exact r1) (by rw[bh,kb];omega)
  refine⟨gs',n2,z4,z5,?_,by rw[l2,bh,kb];show _=gs.length+(hs.length+1);omega,r2⟩;rw[aw,eZ];simp only[gN,jl,ff];rw[e1];exact e2
theorem Q0{n:Nat}(hn:n=2\/n=3)(ns:AX){fs:List (Int×Int)}(hf:fs.length=n)(h:∀u∈fs,Sp u){hs:AZ}(hw:∀xss∈hs,Rw n xss)(h9:hs.length<=90):∃(gs:AZ)(ns':AX),vT [.ref 0,.pv (.lst (hs.map cM)),.pv (.lst (fs.map fv))] [.lst (li ns)]=.ok (.ref 1) [.lst (li ns'),.lst (gs.map px)]/\gs.length=hs.length/\∀uss∈gs,Sx n 201 uss:=by
 obtain⟨gs,n2,y4,y5,e2,l2,r2⟩:=Ls hn hf h (some (.pv (.lst (hs.map cM)))) hs [] ns none none hw (λ_ h=>absurd h gw) (by show 0+hs.length<=99;omega);refine⟨gs,n2,?_,by rw[l2];show 0+hs.length=_;omega,r2⟩;simp only[cw]at e2;have hb:Ub=(aK (aZ 3 (eT aD)) (aK (bX (bR (aA 1)) (gN 4) lB) (bG (aA 3)))):=rfl;unfold vT aW;rw[hb];generalize fs.map fv=FL,hs.map cM=HL,gs.map px=GL,lB=LB at *;simp! [aE,bC,bF,aM,aO,aP,aR,aQ,aH,aN,eT,kK,bX,bR,cR,e2]
def bd(p:List Nat):List Nat:=if p.head?=some 45 then p.tail else p
def kE(k:AY):PV:=.tup (k.map λr:AX=>PV.tup (r.map PV.int))
abbrev Tf:Type:=AY×Int
def dL:AX->Int
 |[]=>0
 |n::r=>if n=0 then dL r else sg n
def aV(ns:AX):AX:=(low ns).map (dL ns*·)
theorem Pj(S:aG):∀(ns:AX)(x:BG),eS [] (gN 0) (bJ (aC gH (aA 0) (mC (.int 0)))) (aA 0) (ns.map .int) [x] S=.ok ((ns.filter (λx=>!decide (x=0))).map .int) S
 |[],x=>uT
 |n::ns,x=>by
  have ih:=Pj S ns (some (.pv (.int n)));show eS [] _ _ _ (.int n::ns.map .int) _ S=_;rw[uN]
  by_cases h:n=0
  .subst h
   simp! [gN,aE,bC,bF,aM,aO,aP,aR,aQ,aH,aN,ih]
  .have hb:(!n==0)=true:=by simpa using h
   simp! [gN,aE,bC,bF,aM,aO,aP,aR,aQ,aH,aN,hb,ih,h]
theorem Nj:∀{ns:AX},(∃n∈ns,n≠0)->∃m L,ns.filter (λx=>!decide (x=0))=m::L/\sg m=dL ns
 |[],h=>by
  obtain⟨n,h,_⟩:=h;cases h
 |n::ns,h=>by
  by_cases e:n=0
  .subst e
   obtain⟨m,L,e1,e2⟩:=Nj (ns:=ns) (by
    obtain⟨k,hk,nk⟩:=h;rcases cj.mp hk with rfl |hk
    .exact absurd rfl nk
    .exact⟨k,hk,nk⟩)
   exact⟨m,L,by simpa using e1,by rw[e2];simp[dL]⟩
  .exact⟨n,ns.filter (λx=>!decide (x=0)),by simp[e],by simp[dL,e]⟩
theorem acX{ns:AX}(h:∃n∈ns,n≠0):gl ns 0≠0:=λe=>by
 obtain⟨n,hn,z⟩:=h;obtain⟨m,hm⟩:=(jX ns 0).2 n hn;rw[e]at hm;exact z (by rw[hm,kj])
theorem P5(ns:AX)(S:aG)(hb:∀n∈ns,Bd 8000 n)(nz:∃n∈ns,n≠0):rQ [.pv (.lst (ns.map .int))] S=.ok (.pv (tv (aV ns))) S:=by
 obtain⟨m,L,e1,e2⟩:=Nj nz;have ef:=Pj S ns none;rw[e1]at ef;have er:=Px ns S hb (acX nz);have ec:=Zk S m (low ns) none;rw[e2]at ec;have i0:aE (.lst ((m::L).map .int)) (.int 0)=some (.int m):=vR (j:=0) rfl;unfold rQ aW zE aV;generalize (m::L).map PV.int=ML at *;simp! [bS,aO,aP,aR,aQ,aH,aN,kH,bR,cR,cY,ef,i0,er,bT,ec]
theorem vJ{ns:AX}:aV (ns.map (- ·))=aV ns:=by
 unfold aV;have hf:∀l:AX,dL (l.map (- ·))=-dL l:=λl=>by
  induction l with
  |nil=>rfl
  |cons n l ih=>
   rw[aw];unfold dL
   by_cases h:n=0
   .subst h
    simpa using ih
   .rw[if_neg h,if_neg (by omega),abc]
 rw[J6,hf,fe];refine dl λn _=>?_;simp[j5]
def dJ:AX->AX->AX
 |[x0,y0,w0],[x1,y1,w1]=>[x1*w0-x0*w1,y1*w0-y0*w1]
 |[x0,y0,z0,w0],[x1,y1,z1,w1]=>[x1*w0-x0*w1,y1*w0-y0*w1,z1*w0-z0*w1]
 |_,_=>[]
theorem mK{x0 y0 w0 x1 y1 w1:Int}:dJ [x0,y0,w0] [x1,y1,w1]=[x1*w0-x0*w1,y1*w0-y0*w1]:=rfl
theorem mQ{x0 y0 z0 w0 x1 y1 z1 w1:Int}:dJ [x0,y0,z0,w0] [x1,y1,z1,w1]=[x1*w0-x0*w1,y1*w0-y0*w1,z1*w0-z0*w1]:=rfl
def Jf:AX->AX->AX
 |[a,b,c],[d,e,f]=>[b*f-c*e,c*d-a*f,a*e-b*d]
 |_,_=>[]
theorem rD{a b c d e f:Int}:Jf [a,b,c] [d,e,f]=[b*f-c*e,c*d-a*f,a*e-b*d]:=rfl
def cB:AY->AX
 |[p,q]=>(match dJ p q with
  |[a,b]=>[-b,a]
  |_=>[])
 |[p,q,r]=>Jf (dJ p q) (dJ p r)
 |_=>[]
theorem rJ{p q:AX}:cB [p,q]=(match dJ p q with |[a,b]=>[-b,a] |_=>[]):=rfl
theorem qZ{p q r:AX}:cB [p,q,r]=Jf (dJ p q) (dJ p r):=rfl
def sd(pi s e:AX)(n:Int):List Tf:=[([pi,aV (dJ s e),s],n),([pi,aV (dJ s e),e],-n)]
def iH:AY->List (AX×AX)
 |[p,q]=>[(p,q)]
 |[a,b,c]=>[(c,a),(a,b),(b,c)]
 |_=>[]
def cW(w:AY)(n:Int):List Tf:=(iH w).flatMap λx=>sd (aV (cB w)) x.1 x.2 n
theorem M8{w:AY}(h:w.length=2\/w.length=3)(S:aG):sM [.pv (.tup (w.map tv))] S=.ok (.pv (.lst ((iH w).map λx=>.tup [tv x.1,tv x.2]))) S:=by
 have rg:iY [.pv (.int 3)] S=.ok ([.int 0,.int 1,.int 2],[]) S:=by
  unfold iY;dsimp only;rw[if_pos (by decide)];rfl
 unfold sM aW Ic;rcases h with h |h
 .match w,h with
  |[a,b],_=>
   generalize hA:tv a=TA;generalize hB:tv b=TB;simp! [aE,bC,bF,aM,aO,aP,aR,aQ,aH,aN,iH,hA,hB]
 .match w,h with
  |[a,b,c],_=>
   generalize hA:tv a=TA;generalize hB:tv b=TB;generalize hC:tv c=TC;simp! [aE,bC,bF,aM,aO,aP,aR,aQ,aH,aN,iH,hA,hB,hC,bT,cY,dB,rg,fL,fA,gN]
def eC:AY->AZ
 |[a,b,c]=>[[a,b],[b,c],[c,a]]
 |[a,b,c,d]=>[[b,c,d],[a,d,c],[a,b,d],[a,c,b]]
 |_=>[]
theorem L3{uss:AY}(h:uss.length=3\/uss.length=4)(S:aG):oN [.pv (px uss)] S=.ok (.pv (.lst ((eC uss).map λw=>.tup (w.map tv)))) S:=by
 unfold oN aW Fc;rcases h with h |h
 .match uss,h with
  |[a,b,c],_=>
   generalize hA:tv a=TA;generalize hB:tv b=TB;generalize hC:tv c=TC;simp! [aE,bC,bF,aM,aO,aP,aR,aQ,aH,aN,eC,hA,hB,hC,bT,cY,bR,cR,fL,fA,gN]
 .match uss,h with
  |[a,b,c,d],_=>
   generalize hA:tv a=TA;generalize hB:tv b=TB;generalize hC:tv c=TC;generalize hD:tv d=TD;simp! [aE,bC,bF,aM,aO,aP,aR,aQ,aH,aN,eC,hA,hB,hC,hD,bT,cY,bR,cR,fL,fA,gN]
theorem abt{x0 y0 z0 w0 x1 y1 z1 w1 x2 y2 z2 w2 x3 y3 z3 w3:Int}(p0:0<w0)(d:D3 x0 y0 z0 w0 x1 y1 z1 w1 x2 y2 z2 w2 x3 y3 z3 w3≠0):∃n∈cB [[x0,y0,z0,w0],[x1,y1,z1,w1],[x2,y2,z2,w2]],n≠0:=by
 apply AN;intro h;have hz:∀n∈cB [[x0,y0,z0,w0],[x1,y1,z1,w1],[x2,y2,z2,w2]],n=0:=λn hn=>AN λc=>h ⟨n,hn,c⟩;have h1:(y1*w0-y0*w1)*(z2*w0-z0*w2)-(z1*w0-z0*w1)*(y2*w0-y0*w2)=0:=hz _ (by simp[rJ,qZ,rD,mK,mQ]);have h2:(z1*w0-z0*w1)*(x2*w0-x0*w2)-(x1*w0-x0*w1)*(z2*w0-z0*w2)=0:=hz _ (by simp[rJ,qZ,rD,mK,mQ]);have h3:(x1*w0-x0*w1)*(y2*w0-y0*w2)-(y1*w0-y0*w1)*(x2*w0-x0*w2)=0:=hz _ (by simp[rJ,qZ,rD,mK,mQ]);have e:w0*w0*D3 x0 y0 z0 w0 x1 y1 z1 w1 x2 y2 z2 w2 x3 y3 z3 w3=((y1*w0-y0*w1)*(z2*w0-z0*w2)-(z1*w0-z0*w1)*(y2*w0-y0*w2))*(x3*w0-x0*w3)+((z1*w0-z0*w1)*(x2*w0-x0*w2)-(x1*w0-x0*w1)*(z2*w0-z0*w2))*(y3*w0-y0*w3)+((x1*w0-x0*w1)*(y2*w0-y0*w2)-(y1*w0-y0*w1)*(x2*w0-x0*w2))*(z3*w0-z0*w3):=by
  unfold D3;grind
 rw[h1,h2,h3,kj,kj,kj]at e;rcases qy.mp e with g |g
 .rcases qy.mp g with g |g<;>omega
 .exact d g
theorem Rs{k:Int}(h:k≠0):sg k*sg k=1:=by
 unfold sg;(repeat' split)<;>omega
theorem Ql{k:Int}(hk:0<k)(l:AX):aV (l.map (k*·))=aV l:=by
 by_cases z:gl l 0=0
 .have e:l.map (k*·)=l:=by
   have h:=Kc z;clear z
   induction l with
   |nil=>rfl
   |cons n l ih=>rw[aw,ih λm hm=>h m (bn _ hm),h n (bf ..),oj]
  rw[e]
 .have hf:∀l:AX,dL (l.map (k*·))=dL l:=λl=>by
   induction l with
   |nil=>rfl
   |cons n l ih=>
    rw[aw];unfold dL
    by_cases h:n=0
    .subst h
     simpa using ih
    .rw[if_neg h,if_neg (gm (by omega) h),wP hk]
  unfold aV;rw[rY hk l z,hf]
theorem Jn{k:Int}(hk:k≠0)(l:AX):aV (l.map (k*·))=aV l:=by
 by_cases h:0<k
 .exact Ql h l
 .have e:l.map (k*·)=(l.map ((-k)*·)).map (- ·):=by
   rw[fe];refine dl λn _=>?_;show k*n=-(-k*n);rw[kd,Int.neg_neg]
  rw[e,vJ,Ql (by omega) l]
theorem Wl{u v:AX}{a b:Int}(ha:a≠0)(hb:b≠0)(h:u.map (a*·)=v.map (b*·)):aV u=aV v:=by
 rw[<-Jn ha,h,Jn hb]
theorem vM(ns:AX):∃g:Int,ns=(aV ns).map (g*·):=by
 by_cases z:gl ns 0=0
 .have h:=Kc z
  refine⟨0,?_⟩;have hl:(aV ns).length=ns.length:=by unfold aV;rw[ao,Yn]
  generalize aV ns=D at hl;clear z
  induction ns generalizing D with
  |nil=>cases D with
   |nil=>rfl
   |cons a D=>simp at hl
  |cons n ns ih=>
   cases D with
   |nil=>simp at hl
   |cons a D=>
    rw[aw,<-ih (λm hm=>h m (bn _ hm)) D (by simpa using hl),h n (bf ..),kj]
 .obtain⟨g,_,e⟩:=Ep ns
  have hf:dL ns*dL ns=1:=by
   have:∀l:AX,gl l 0≠0->dL l*dL l=1:=λl=>by
    induction l with
    |nil=>intro h;exact absurd rfl h
    |cons n l ih=>
     intro h;unfold dL
     by_cases e:n=0
     .subst e
      rw[if_pos rfl];exact ih (by simpa[gl]using h)
     .rw[if_neg e]
      exact Rs e
   exact this ns z
  refine⟨g*dL ns,?_⟩;unfold aV;rw[fe];refine e.trans ?_;refine dl λn _=>?_;show g*n=g*dL ns*(dL ns*n);grind
theorem Im{a b c d e f:Int}(h:aV [a,b,c]=aV [d,e,f]):b*f=c*e/\c*d=a*f/\a*e=b*d:=by
 obtain⟨g,hg⟩:=vM [a,b,c];obtain⟨i,hi⟩:=vM [d,e,f];rw[<-h]at hi
 match hD:aV [a,b,c],hg,hi with
 |[x,y,z],hg,hi=>
  simp at hg hi;obtain⟨h1,h2,h3⟩:=hg;obtain⟨h4,h5,h6⟩:=hi;subst h1 h2 h3 h4 h5 h6;refine⟨?_,?_,?_⟩<;>grind
 |[],hg,hi=>simp at hg
 |[_],hg,hi=>simp at hg
 |[_,_],hg,hi=>simp at hg
 |_::_::_::_::_,hg,hi=>simp at hg
theorem Lb{n:Nat}(hn:n=2\/n=3){p q:AX}(hp:Pw n p)(hq:Pw n q):dJ q p=(dJ p q).map (- ·):=by
 rcases hn with rfl |rfl
 .obtain⟨x0,y0,w0,rfl,_⟩:=hp.two
  obtain⟨x1,y1,w1,rfl,_⟩:=hq.two;simp[mK,mQ,Int.neg_sub]
 .obtain⟨x0,y0,z0,w0,rfl,_⟩:=hp.three
  obtain⟨x1,y1,z1,w1,rfl,_⟩:=hq.three;simp[mK,mQ,Int.neg_sub]
theorem l3{a b c d e f:Int}(h:a=d)(g:b=e)(i:c=f):[a,b,c]=[d,e,f]:=by rw[h,g,i]
theorem xS{p q r:AX}(hp:Pw 3 p)(hq:Pw 3 q)(hr:Pw 3 r):aV (cB [q,p,r])=aV (cB [p,q,r]):=by
 obtain⟨x0,y0,z0,w0,rfl,p0⟩:=hp.three;obtain⟨x1,y1,z1,w1,rfl,p1⟩:=hq.three;obtain⟨x2,y2,z2,w2,rfl,p2⟩:=hr.three;refine Wl (a:=w0) (b:=-w1) (by omega) (by omega) ?_;simp only[rJ,qZ,mK,mQ,rD,aw,cw];refine l3 ?_ ?_ ?_<;>grind
theorem lM{p q r:AX}(hp:Pw 3 p)(hq:Pw 3 q)(hr:Pw 3 r):aV (cB [p,r,q])=aV (cB [p,q,r]):=by
 obtain⟨x0,y0,z0,w0,rfl,p0⟩:=hp.three;obtain⟨x1,y1,z1,w1,rfl,p1⟩:=hq.three;obtain⟨x2,y2,z2,w2,rfl,p2⟩:=hr.three;refine Wl (a:=1) (b:=-1) (by omega) (by omega) ?_;simp only[rJ,qZ,mK,mQ,rD,aw,cw];refine l3 ?_ ?_ ?_<;>grind
theorem acZ{u1 u2 u3 v1 v2 v3 q1 q2 q3:Int}(h1:v2*u3=v3*u2)(h2:v3*u1=v1*u3)(h3:v1*u2=v2*u1):(u2*v3-u3*v2)*q1+(u3*v1-u1*v3)*q2+(u1*v2-u2*v1)*q3=0:=by
 have e1:u2*v3-u3*v2=0:=by grind
 have e2:u3*v1-u1*v3=0:=by grind
 have e3:u1*v2-u2*v1=0:=by grind
 rw[e1,e2,e3];simp
theorem acE{u1 u2 u3 v1 v2 v3 q1 q2 q3:Int}(h1:(u3*q1-u1*q3)*(u1*v2-u2*v1)=(u1*q2-u2*q1)*(u3*v1-u1*v3))(h2:(u1*q2-u2*q1)*(u2*v3-u3*v2)=(u2*q3-u3*q2)*(u1*v2-u2*v1))(h3:(u2*q3-u3*q2)*(u3*v1-u1*v3)=(u3*q1-u1*q3)*(u2*v3-u3*v2)):(u2*v3-u3*v2)*q1+(u3*v1-u1*v3)*q2+(u1*v2-u2*v1)*q3=0:=by
 have e1:u1*((u2*v3-u3*v2)*q1+(u3*v1-u1*v3)*q2+(u1*v2-u2*v1)*q3)=0:=by grind
 have e2:u2*((u2*v3-u3*v2)*q1+(u3*v1-u1*v3)*q2+(u1*v2-u2*v1)*q3)=0:=by grind
 have e3:u3*((u2*v3-u3*v2)*q1+(u3*v1-u1*v3)*q2+(u1*v2-u2*v1)*q3)=0:=by grind
 generalize hd:(u2*v3-u3*v2)*q1+(u3*v1-u1*v3)*q2+(u1*v2-u2*v1)*q3=d at *;rcases qy.mp e1 with g1 |g1
 .rcases qy.mp e2 with g2 |g2
  .rcases qy.mp e3 with g3 |g3
   .rw[<-hd,g1,g2,g3]
    simp
   .exact g3
  .exact g2
 .exact g1
theorem Fk(S:aG):∀(ns:AX)(x:BG),cO [] (gN 0) (aC eE (mC (.int 0)) (aA 0)) (ns.map .int) [x] S=.ok ((ns.map (- ·)).map .int) S
 |[],x=>fA
 |n::ns,x=>by
  rw[aw,fL];simp! [gN,aE,bC,bF,aM,aO,aP,aR,aQ,aH,aN,Fk S ns]
abbrev nX:MS:=(aK (cS (bJ (aC eY (aA 2) (mC (.int 0)))) (bG (aA 1)) dZ) (cS (bJ (aC kO (aA 2) (mC (.int 0)))) (bG (mR iN (aB (bT ["_law_one"] [] (bR (aA 1)) (gN 0) (aC eE (mC (.int 0)) (aA 0))) aD))) dZ))
theorem Zo(S:aG)(TL:AX)(x0:BG):∀(L:AX)(x2:BG),(dL L=0/\∃y2,cV [] (gN 2) nX (L.map .int) [x0,some (.pv (tv TL)),x2] S=.nx [x0,some (.pv (tv TL)),y2] S)\/(dL L≠0/\cV [] (gN 2) nX (L.map .int) [x0,some (.pv (tv TL)),x2] S=.rt (.pv (tv (TL.map (dL L*·)))) S)
 |[],x2=>.inl ⟨rfl,x2,gM⟩
 |n::L,x2=>by
  rw[aw,eZ];have ec:=Fk S TL none;rcases Int.lt_trichotomy n 0 with h |h |h
  .have hf:dL (n::L)=-1:=by
    unfold dL;rw[if_neg (by omega)];unfold sg
    (repeat' split)<;>omega
   rw[hf];refine .inr ⟨by decide,?_⟩;have e:TL.map (-1*·)=TL.map (- ·):=dl λx _=>by omega
   rw[e];have h1:¬0<n:=by omega
   unfold nX;show _=cD.rt (.pv (.tup ((TL.map (- ·)).map .int))) S;have ht:tv TL=.tup (TL.map .int):=rfl;rw[ht];generalize TL.map PV.int=T1,(TL.map (- ·)).map PV.int=T2 at *;simp! [gN,bS,aO,aP,aR,aQ,aH,aN,h1,h,bT,cY,bR,cR,ec]
  .subst h
   have hf:dL (0::L)=dL L:=by simp[dL]
   rw[hf];have ih:=Zo S TL x0 L (some (.pv (.int 0)));have e:nX [x0,some (.pv (tv TL)),some (.pv (.int 0))] S=.nx [x0,some (.pv (tv TL)),some (.pv (.int 0))] S:=by
    unfold nX;generalize tv TL=T1;simp! [bS,aO,aP,aR,aQ,aH,aN]
   simp only[gN,jl,ff,e];exact ih
  .have hf:dL (n::L)=1:=by
    unfold dL;rw[if_neg (by omega)];unfold sg
    (repeat' split)<;>omega
   rw[hf];refine .inr ⟨by decide,?_⟩;have e:TL.map (1*·)=TL:=by simp
   rw[e];unfold nX;generalize tv TL=T1;simp! [gN,bS,aO,aP,aR,aQ,aH,aN,h]
theorem Dz(ns:AX)(S:aG)(hb:∀n∈ns,Bd 8000 n):pZ [.pv (.lst (ns.map .int))] S=.ok (.pv (tv (aV ns))) S:=by
 have e1:=oI ns S hb;have e1:kF [.pv (.lst (ns.map .int))] S=.ok (.pv (tv (low ns))) S:=e1;have hf:∀{k:Int}(_:0<k)(l:AX),dL (l.map (k*·))=dL l:=λ{k} hk l=>by
  induction l with
  |nil=>rfl
  |cons n l ih=>
   rw[aw];unfold dL
   by_cases h:n=0
   .subst h
    simpa using ih
   .rw[if_neg h,if_neg (gm (by omega) h),wP hk]
 have ef:dL ns=dL (low ns):=by
  obtain⟨g,hg,e⟩:=Ep ns;have:=hf hg (low ns);rw[<-e]at this;exact this
 have hb:La=(aK (aZ 1 (aT kF [] (aB (aA 0) aD))) (aK (bX (bR (aA 1)) (gN 2) nX) (bG (aA 1)))):=rfl;unfold pZ aW aV;rw[hb,ef];have ht:∀l:AX,tv l=.tup (l.map .int):=λ_=>rfl;have ih:=Zo S (low ns) (some (.pv (.lst (ns.map .int)))) (low ns) none;rw[ht]at e1 ih;rw[ht];generalize nX=UB at *;rcases ih with⟨z,y2,e2⟩|⟨z,e2⟩
 .rw[z]
  have e:(low ns).map (0*·)=low ns:=by
   have q:∀l:AX,dL l=0->l.map (0*·)=l:=λl=>by
    induction l with
    |nil=>intro _;rfl
    |cons n l ih=>
     intro h;unfold dL at h
     by_cases c:n=0
     .rw[if_pos c]at h
      rw[aw,ih h,c,kj]
     .rw[if_neg c]at h
      have:=Rs c;rw[h]at this;exact absurd this (by decide)
   exact q _ z
  rw[e];generalize ns.map PV.int=T2,(low ns).map PV.int=T1 at *;simp! [bS,aO,aP,aR,aQ,aH,aN,bX,bR,cR,e1,e2]
 .rw[ht]at e2
  generalize ns.map PV.int=T2,(low ns).map PV.int=T1,((low ns).map (dL (low ns)*·)).map PV.int=T3 at *;simp! [bS,aO,aP,aR,aQ,aH,aN,bX,bR,cR,e1,e2]
theorem i0{i:Int}(h:i≠0):(i:Rat)≠0:=λz=>h (AO.mp (z.trans (by rfl:(0:Rat)=((0:Int):Rat))))
theorem m0{a b:Rat}(ha:a≠0)(hb:b≠0):a*b≠0:=λz=>by
 rcases Rat.mul_eq_zero.mp z with z |z
 .exact ha z
 .exact hb z
def rs:List (Int×Int)->Rat
 |[]=>0
 |u::L=>(u.1:Rat)/(u.2:Rat)+rs L
theorem Et{k:Nat}{u v:Int×Int}(h:Fq k u)(g:Fq k v):((pl u v).1:Rat)/((pl u v).2:Rat)=(u.1:Rat)/u.2+(v.1:Rat)/v.2:=by
 obtain⟨_,f,e⟩:=Se h g;have r:=congrArg (λi:Int=>(i:Rat)) e;simp only[zd,Rat.intCast_add]at r;have n1:=i0 (ib h.pos);have n2:=i0 (ib g.pos);have n3:=i0 (ib f.pos);have n4:=m0 n1 n2;grind
theorem Zr{k:Nat}:∀(L:List (Int×Int)),(∀u∈L,Fq k u)->rs (cN L)=rs L
 |[],_=>rfl
 |[_],_=>rfl
 |a::b::L,h=>by
  show((pl a b).1:Rat)/((pl a b).2:Rat)+rs (cN L)=(a.1:Rat)/a.2+((b.1:Rat)/b.2+rs L);rw[Zr L λu hu=>h u (by simp[hu]),Et (h a (by simp)) (h b (by simp))];grind
theorem Er:∀(m k:Nat)(L:List (Int×Int)),(∀u∈L,Fq k u)->rs (fW m L)=rs L/\∃l,∀u∈fW m L,Fq l u
 |0,k,L,h=>⟨rfl,k,h⟩
 |m+1,k,L,h=>by
  unfold fW;split
  .exact⟨rfl,k,h⟩
  .obtain⟨a,b⟩:=Er m (2*k+1) (cN L) (Zc L h)
   exact⟨a.trans (Zr L h),b⟩
theorem Ao:∀(m:Nat)(L:List (Int×Int)),L.length<=2^m->(fW m L).length<=1
 |0,L,h=>h
 |m+1,L,h=>by
  unfold fW;split
  .assumption
  .refine Ao m (cN L) ?_
   rw[Xb];have:2^(m+1)=2*2^m:=by rw[sv];omega
   omega
theorem aby{k:Nat}{L:List (Int×Int)}(hl:L.length<=32)(h:∀u∈L,Fq k u):((pG L).1:Rat)/((pG L).2:Rat)=rs L/\∃l,Fq l (pG L):=by
 obtain⟨e,l,f⟩:=Er 5 k L h;have z:=Ao 5 L hl;unfold pG;rw[<-e]
 match fW 5 L,z,f with
 |[],_,_=>exact⟨by simp only[rs];grind,1,by decide,by unfold Bd;decide,by unfold Bd;decide,by decide⟩
 |[u],_,f=>exact⟨by simp only[rs];grind,l,f u (by simp)⟩
theorem Is{k l:Nat}{u v:Int×Int}(h:Fq k u)(g:Fq l v)(e:(u.1:Rat)/u.2=(v.1:Rat)/v.2):u=v:=by
 have n1:=i0 (ib h.pos);have n2:=i0 (ib g.pos);have c:(u.1:Rat)*v.2=v.1*u.2:=by grind
 rw[<-zd,<-zd]at c;have c:=Zl (ib h.pos) (ib g.pos) (AO.mp c);have s:∀{p q:Int},0<q->br p q=1->fr p q=[p,q]:=λ{p q} hq hg=>by
  unfold fr;rw[if_neg (by omega)];refine Y8 ?_;show((br ((br 0 p:Nat):Int) q:Nat):Int)=1;rw[qk];show((Nat.gcd ((p.natAbs:Int)).natAbs q.natAbs:Nat):Int)=1;rw[xf];exact congrArg (λx:Nat=>(x:Int)) hg
 rw[s h.pos h.lo,s g.pos g.lo]at c;injection c with c1 c2;injection c2 with c2;exact se c1 c2
theorem Nd{κ α:Type}{enc:κ->PV}(inj:∀a b,enc a=enc b->a=b)(f:κ->α){k:κ}{ks:List κ}(h:k∈ks):∃i,gY (ks.map λj=>(enc j,f j)) (enc k)=some i/\ks[i]?=some k:=by
 obtain⟨i,hi,e⟩:=tm.mp h;obtain⟨j,hj⟩:=sV (kvs:=ks.map λj=>(enc j,f j)) (k:=enc k) (i:=i) (by simp[hi,e]);refine⟨j,hj,?_⟩;obtain⟨v,hv⟩:=lA hj;rw[ax]at hv;cases z:ks[j]? with
 |none=>rw[z]at hv;cases hv
 |some x=>
  rw[z]at hv;have:enc x=enc k:=congrArg Prod.fst (ci hv);rw[inj _ _ this]
theorem Tb{κ α:Type}{enc:κ->PV}(inj:∀a b,enc a=enc b->a=b)(f:κ->α){k:κ}{ks:List κ}(h:k∉ks):gY (ks.map λj=>(enc j,f j)) (enc k)=none:=by
 cases z:gY (ks.map λj=>(enc j,f j)) (enc k)with
 |none=>rfl
 |some i=>
  obtain⟨v,hv⟩:=lA z;rw[ax]at hv;cases y:ks[i]? with
  |none=>rw[y]at hv;cases hv
  |some x=>
   rw[y]at hv;have:enc x=enc k:=congrArg Prod.fst (ci hv);exact absurd (inj _ _ this▸cy y) h
theorem Gc{κ α:Type}{enc:κ->PV}(inj:∀a b,enc a=enc b->a=b)(f:κ->α){k:κ}{ks:List κ}(h:k∈ks):gW (ks.map λj=>(enc j,f j)) (enc k)=some (f k):=by
 obtain⟨i,e,g⟩:=Nd inj f h;unfold gW;rw[e];simp[g]
theorem J2{κ α:Type}{enc:κ->PV}(inj:∀a b,enc a=enc b->a=b)(f:κ->α){k:κ}{ks:List κ}(h:k∉ks):gW (ks.map λj=>(enc j,f j)) (enc k)=none:=by
 unfold gW;rw[Tb inj f h]
theorem Qo{κ α:Type}[DecidableEq κ]{enc:κ->PV}(f:κ->α){k:κ}{ks:List κ}(nd:ks.Nodup){i:Nat}(g:ks[i]?=some k)(v:α):(ks.map λj=>(enc j,f j)).set i (enc k,v)=ks.map λj=>(enc j,if j=k then v else f j):=by
 refine jf λj=>?_;have hi:=(ce.mp g).1;rw[um,ax,ax]
 by_cases e:i=j
 .subst e
  rw[if_pos rfl,if_pos (by rw[ao];exact hi),g];simp
 .rw[if_neg e]
  cases y:ks[j]? with
  |none=>rfl
  |some x=>
   have:x≠k:=λz=>e (nodup_idx nd g (z▸y));simp[this]
theorem R3{κ α:Type}[DecidableEq κ]{enc:κ->PV}(inj:∀a b,enc a=enc b->a=b)(f:κ->α){k:κ}{ks:List κ}(nd:ks.Nodup)(h:k∈ks)(v:α):kN (ks.map λj=>(enc j,f j)) (enc k) v=ks.map λj=>(enc j,if j=k then v else f j):=by
 obtain⟨i,e,g⟩:=Nd inj f h;unfold kN;rw[e];exact Qo f nd g v
theorem N5{κ α:Type}[DecidableEq κ]{enc:κ->PV}(inj:∀a b,enc a=enc b->a=b)(f:κ->α){k:κ}{ks:List κ}(h:k∉ks)(v:α):kN (ks.map λj=>(enc j,f j)) (enc k) v=(ks++[k]).map λj=>(enc j,if j=k then v else f j):=by
 unfold kN;rw[Tb inj f h,dh];have e:ks.map (λj=>(enc j,f j))=ks.map λj=>(enc j,if j=k then v else f j):=dl λj hj=>by
  rw[if_neg λz:j=k=>h (z▸hj)]
 rw[<-e];simp
theorem aag{κ:Type}[DecidableEq κ]{enc:κ->PV}(inj:∀a b,enc a=enc b->a=b)(f:κ->BE){k:κ}{ks:List κ}(nd:ks.Nodup)(h:k∈ks)(v:PV):lO (ks.map λj=>(enc j,f j)) (enc k) v=ks.map λj=>(enc j,if j=k then f j++[v] else f j):=by
 obtain⟨i,e,g⟩:=Nd inj f h;unfold lO;rw[e];have:((ks.map λj=>(enc j,f j))[i]?.map (·.2)).getD []=f k:=by simp[g]
 dsimp only;rw[this,Qo f nd g];refine dl λj _=>?_
 by_cases z:j=k
 .rw[if_pos z,if_pos z,z]
 .rw[if_neg z,if_neg z]
theorem O9{κ:Type}[DecidableEq κ]{enc:κ->PV}(inj:∀a b,enc a=enc b->a=b)(f:κ->BE){k:κ}{ks:List κ}(h:k∉ks)(hf:f k=[])(v:PV):lO (ks.map λj=>(enc j,f j)) (enc k) v=(ks++[k]).map λj=>(enc j,if j=k then f j++[v] else f j):=by
 unfold lO;rw[Tb inj f h,dh];have e:ks.map (λj=>(enc j,f j))=ks.map λj=>(enc j,if j=k then f j++[v] else f j):=dl λj hj=>by
  rw[if_neg λz:j=k=>h (z▸hj)]
 rw[<-e];simp[hf]
def bB{κ β:Type}[DecidableEq κ](R:List (κ×β))(k:κ):List β:=(R.filter λr=>decide (r.1=k)).map (·.2)
def dG{κ β:Type}[DecidableEq κ](R:List (κ×β)):List κ:=R.foldl (λks r=>if r.1∈ks then ks else ks++[r.1]) []
theorem Yo{κ β:Type}[DecidableEq κ](R:List (κ×β))(k:κ)(u:β)(j:κ):bB (R++[(k,u)]) j=if j=k then bB R j++[u] else bB R j:=by
 unfold bB;rw[AQ,dh]
 by_cases h:j=k
 .subst h
  simp
 .have:¬k=j:=λz=>h z.symm
  simp[h,this]
theorem Lp{κ β:Type}[DecidableEq κ](R:List (κ×β))(r:κ×β):dG (R++[r])=if r.1∈dG R then dG R else dG R++[r.1]:=by
 unfold dG;rw[AR];rfl
theorem jY{κ β:Type}[DecidableEq κ](R:List (κ×β)):(dG R).Nodup/\∀k,k∈dG R↔∃r∈R,r.1=k:=by
 have go:∀(R':List (κ×β))(ks:List κ),ks.Nodup->(R'.foldl (λks r=>if r.1∈ks then ks else ks++[r.1]) ks).Nodup/\∀k,k∈R'.foldl (λks r=>if r.1∈ks then ks else ks++[r.1]) ks↔k∈ks\/∃r∈R',r.1=k:=by
  intro R'
  induction R' with
  |nil=>exact λks nd=>⟨nd,λk=>by simp⟩
  |cons r R' ih=>
   intro ks nd;rw[ze]
   by_cases h:r.1∈ks
   .rw[if_pos h]
    obtain⟨a,b⟩:=ih ks nd;refine⟨a,λk=>(b k).trans ?_⟩;constructor
    .rintro(z |⟨x,hx,z⟩)
     .exact .inl z
     .exact .inr ⟨x,bn _ hx,z⟩
    .rintro(z |⟨x,hx,z⟩)
     .exact .inl z
     .rcases cj.mp hx with rfl |hx
      .exact .inl (z▸h)
      .exact .inr ⟨x,hx,z⟩
   .rw[if_neg h]
    obtain⟨a,b⟩:=ih (ks++[r.1]) (by
     rw[nh];refine⟨nd,by simp,λx hx y hy z=>h ?_⟩;have:y=r.1:=by simpa using hy
     rw[<-this,<-z];exact hx)
    refine⟨a,λk=>(b k).trans ?_⟩;rw[cq,yr];constructor
    .rintro((z |z) |⟨x,hx,z⟩)
     .exact .inl z
     .exact .inr ⟨r,bf,z.symm⟩
     .exact .inr ⟨x,bn _ hx,z⟩
    .rintro(z |⟨x,hx,z⟩)
     .exact .inl (.inl z)
     .rcases cj.mp hx with rfl |hx
      .exact .inl (.inr z.symm)
      .exact .inr ⟨x,hx,z⟩
 obtain⟨a,b⟩:=go R [] kx;exact⟨a,λk=>(b k).trans (by simp)⟩
theorem vZ{κ β:Type}[DecidableEq κ](R:List (κ×β)):(dG R).length<=R.length:=by
 have go:∀(R':List (κ×β))(ks:List κ),(R'.foldl (λks r=>if r.1∈ks then ks else ks++[r.1]) ks).length<=ks.length+R'.length:=by
  intro R'
  induction R' with
  |nil=>exact λks=>aj _
  |cons r R' ih=>
   intro ks;rw[ze,ca];have:=ih (if r.1∈ks then ks else ks++[r.1]);have h2:(if r.1∈ks then ks else ks++[r.1]).length<=ks.length+1:=by split<;>simp
   omega
 have:=go R [];simpa[dG]using this
theorem Ar{κ β:Type}[DecidableEq κ]{R:List (κ×β)}{k:κ}(h:k∉dG R):bB R k=[]:=by
 unfold bB;rw[AS,AT];intro r hr z;exact h (((jY R).2 k).mpr ⟨r,hr,by simpa using z⟩)
def eU{κ:Type}[DecidableEq κ](enc:κ->PV)(R:List (κ×(Int×Int))):List (PV×BE):=(dG R).map λk=>(enc k,(bB R k).map fv)
def cH(L:List (Int×Int)):Int×Int:=L.foldl pl (0,1)
def bI{κ:Type}[DecidableEq κ](enc:κ->PV)(R:List (κ×(Int×Int))):List (PV×PV):=(dG R).map λk=>(enc k,fv (cH (bB R k)))
theorem G0{κ:Type}[DecidableEq κ]{enc:κ->PV}(inj:∀a b,enc a=enc b->a=b)(R:List (κ×(Int×Int)))(k:κ)(u:Int×Int):lO (eU enc R) (enc k) (fv u)=eU enc (R++[(k,u)]):=by
 unfold eU;have e:∀ks:List κ,(ks.map λj=>(enc j,(bB (R++[(k,u)]) j).map fv))=ks.map λj=>(enc j,if j=k then(bB R j).map fv++[fv u] else(bB R j).map fv):=λks=>dl λj _=>by
  rw[Yo];split<;>simp
 rw[e,Lp]
 by_cases h:k∈dG R
 .rw[if_pos h]
  exact aag inj (λj=>(bB R j).map fv) (jY R).1 h (fv u)
 .rw[if_neg h]
  exact O9 inj (λj=>(bB R j).map fv) h (by simp[Ar h]) (fv u)
theorem D9{κ:Type}[DecidableEq κ]{enc:κ->PV}(inj:∀a b,enc a=enc b->a=b)(R:List (κ×(Int×Int)))(k:κ):(gW (bI enc R) (enc k)=some (fv (cH (bB R k)))/\k∈dG R)\/(gW (bI enc R) (enc k)=none/\fv (cH (bB R k))=fv (0,1)):=by
 unfold bI
 by_cases h:k∈dG R
 .exact .inl ⟨Gc inj (λk=>fv (cH (bB R k))) h,h⟩
 .exact .inr ⟨J2 inj _ h,by rw[Ar h];rfl⟩
theorem L0{κ:Type}[DecidableEq κ]{enc:κ->PV}(inj:∀a b,enc a=enc b->a=b)(R:List (κ×(Int×Int)))(k:κ)(u:Int×Int):kN (bI enc R) (enc k) (fv (pl (cH (bB R k)) u))=bI enc (R++[(k,u)]):=by
 unfold bI;have e:∀ks:List κ,(ks.map λj=>(enc j,fv (cH (bB (R++[(k,u)]) j))))=ks.map λj=>(enc j,if j=k then fv (pl (cH (bB R k)) u)else fv (cH (bB R j))):=λks=>dl λj _=>by
  rw[Yo];split
  .rename_i z
   subst z;simp[cH,AR]
  .rfl
 rw[e,Lp]
 by_cases h:k∈dG R
 .rw[if_pos h]
  exact R3 inj (λj=>fv (cH (bB R j))) (jY R).1 h _
 .rw[if_neg h]
  exact N5 inj (λj=>fv (cH (bB R j))) h _
theorem Iu{k l:Nat}{u v:Int×Int}(h:Fq k u)(g:Fq l v):fr (u.1*v.2+v.1*u.2) (u.2*v.2)=[(pl u v).1,(pl u v).2]/\Fq (k+l+1) (pl u v)/\(pl u v).1*(u.2*v.2)=(u.1*v.2+v.1*u.2)*(pl u v).2:=by
 have nz:u.2*v.2≠0:=ib (cg h.pos g.pos);obtain⟨p,q,e,hq,c⟩:=xI (t:=u.1*v.2+v.1*u.2) nz;have bt:Bd (k+l+1) (u.1*v.2+v.1*u.2):=((h.b1.mul g.b2).add ((g.b1.mul h.b2).mono (by omega))).mono (by omega);have bb:Bd (k+l+1) (u.2*v.2):=(h.b2.mul g.b2).mono (by omega);obtain⟨b3,b4⟩:=tN bt bb e;have ep:pl u v=(p,q):=by unfold pl;rw[e];rfl
 rw[ep];exact⟨e,⟨hq,b3,b4,Ba nz e⟩,c⟩
theorem abr{k l:Nat}{u v:Int×Int}(h:Fq k u)(g:Fq l v):((pl u v).1:Rat)/((pl u v).2:Rat)=(u.1:Rat)/u.2+(v.1:Rat)/v.2:=Et (k:=k+l) (h.mono (by omega)) (g.mono (by omega))
theorem aan{k l:Nat}{u v:Int×Int}(S:aG)(h:Fq k u)(g:Fq l v)(hk:k+l+1<=7000):tE [.pv (fv u),.pv (fv v)] S=.ok (.pv (fv (pl u v))) S:=by
 have e:=(Iu h g).1;have bt:Bd 8000 (u.1*v.2+v.1*u.2):=((h.b1.mul g.b2).add ((g.b1.mul h.b2).mono (by omega))).mono (by omega);have bb:Bd 8000 (u.2*v.2):=(h.b2.mul g.b2).mono (by omega);have f:=wB (u.1*v.2+v.1*u.2) (u.2*v.2) S bt bb;rw[e]at f;have m1:=eK h.b1 g.b2 (by omega) (by omega);have m2:=eK g.b1 h.b2 (by omega) (by omega);have m3:=eK h.b2 g.b2 (by omega) (by omega);simp only[aw,cw]at f;show tE [.pv (.tup [.int u.1,.int u.2]),.pv (.tup [.int v.1,.int v.2])] S=.ok (.pv (.tup [.int (pl u v).1,.int (pl u v).2])) S;unfold tE aW Od;generalize v.2=d,v.1=c,u.2=b,u.1=a,(pl u v).2=p2,(pl u v).1=p1 at *;simp! [aE,bC,bF,aM,aO,aP,aR,aQ,aH,aN,m1,m2,m3,f]
theorem adC:Fq 1 ((0,1):Int×Int):=⟨by decide,by unfold Bd;decide,by unfold Bd;decide,by decide⟩
theorem sU{k:Nat}(L:List (Int×Int))(h:∀u∈L,Fq k u):Fq (1+L.length*(k+1)) (cH L)/\((cH L).1:Rat)/((cH L).2:Rat)=rs L:=by
 have go:∀(L:List (Int×Int))(l:Nat)(w:Int×Int),(∀u∈L,Fq k u)->Fq l w->Fq (l+L.length*(k+1)) (L.foldl pl w)/\((L.foldl pl w).1:Rat)/((L.foldl pl w).2:Rat)=(w.1:Rat)/(w.2:Rat)+rs L:=by
  intro L
  induction L with
  |nil=>
   intro l w _ hw;refine⟨hw.mono (by omega),?_⟩;show(w.1:Rat)/(w.2:Rat)=(w.1:Rat)/(w.2:Rat)+0;rw[Rat.add_zero]
  |cons u L ih=>
   intro l w h hw;have hu:=h u bf;obtain⟨a,b⟩:=ih (l+k+1) (pl w u) (λv hv=>h v (bn _ hv)) (Iu hw hu).2.1;rw[ze];refine⟨a.mono ?_,?_⟩
   .rw[ca,Nat.add_mul]
    omega
   .rw[b,abr hw hu]
    show _=(w.1:Rat)/(w.2:Rat)+((u.1:Rat)/(u.2:Rat)+rs L);rw[zf]
 obtain⟨a,b⟩:=go L 1 (0,1) h adC;refine⟨a,b.trans ?_⟩;show((0:Int):Rat)/((1:Int):Rat)+rs L=rs L;have:((0:Int):Rat)/((1:Int):Rat)=0:=by grind
 rw[this,Rat.zero_add]
theorem Y9{L M:List (Int×Int)}(h:L.Perm M):rs L=rs M:=by
 induction h with
 |nil=>rfl
 |cons x _ ih=>unfold rs;rw[ih]
 |swap x y l=>
  show(y.1:Rat)/(y.2:Rat)+((x.1:Rat)/(x.2:Rat)+rs l)=(x.1:Rat)/(x.2:Rat)+((y.1:Rat)/(y.2:Rat)+rs l);rw[<-zf,<-zf,Rat.add_comm ((y.1:Rat)/(y.2:Rat))]
 |trans _ _ a b=>exact a.trans b
theorem U3{k:Nat}{L:List (Int×Int)}(hl:L.length<=32)(h:∀u∈L,Fq k u):pG L=cH L:=by
 obtain⟨a,b⟩:=sU L h;obtain⟨c,l,d⟩:=aby hl h;exact Is d a (c.trans b.symm)
theorem K5{k:Nat}{L M:List (Int×Int)}(p:L.Perm M)(h:∀u∈M,Fq k u):cH L=cH M:=by
 obtain⟨a,b⟩:=sU L λu hu=>h u (p.subset hu);obtain⟨c,d⟩:=sU M h;exact Is a c (b.trans ((Y9 p).trans d.symm))
theorem Bz{k:Nat}{u:Int×Int}(h:Fq k u):u.1=0↔u=(0,1):=by
 constructor
 .intro z
  have l:=h.lo;rw[z,qk]at l;have p:=h.pos;exact se z (by show u.2=1;omega)
 .intro z
  rw[z]
def iE{κ:Type}[DecidableEq κ](lt:κ->κ->Bool)(R:List (κ×(Int×Int))):List (κ×(Int×Int)):=((fM lt (dG R)).map λk=>(k,cH (bB R k))).filter λx=>!decide (x.2.1=0)
theorem Tz{κ:Type}[DecidableEq κ]{lt:κ->κ->Bool}(O:oA lt){k:Nat}{R R':List (κ×(Int×Int))}(p:R.Perm R')(h:∀r∈R',Fq k r.2):iE lt R=iE lt R':=by
 unfold iE;have e1:fM lt (dG R)=fM lt (dG R'):=by
  refine Aw O ?_ (jY R').1;rw[List.perm_ext_iff_of_nodup (jY R).1 (jY R').1];intro j;rw[(jY R).2,(jY R').2];exact⟨λ⟨r,hr,z⟩=>⟨r,p.subset hr,z⟩,λ⟨r,hr,z⟩=>⟨r,p.symm.subset hr,z⟩⟩
 rw[e1];congr 1;refine dl λj _=>?_;have:cH (bB R j)=cH (bB R' j):=K5 (k:=k) (by unfold bB;exact(p.filter _).map _) λu hu=>by
  unfold bB at hu;obtain⟨r,hr,rfl⟩:=dg.mp hu;exact h r (nr.mp hr).1
 rw[this]
def gf(ns:AX):Int:=Classical.choose (vM ns)
theorem tQ(ns:AX):ns=(aV ns).map (gf ns*·):=Classical.choose_spec (vM ns)
def eX(t b:Int):Int×Int:=((fr t b).getD 0 0,(fr t b).getD 1 0)
theorem Vd{k:Nat}{t b:Int}(hb:b≠0)(bt:Bd k t)(bb:Bd k b):fr t b=[(eX t b).1,(eX t b).2]/\Fq k (eX t b):=by
 obtain⟨p,q,e,hq,_⟩:=xI (t:=t) hb;have ep:eX t b=(p,q):=by unfold eX;rw[e];rfl
 rw[ep];exact⟨e,hq,(tN bt bb e).1,(tN bt bb e).2,Ba hb e⟩
theorem Kl(ns:AX):(aV ns).length=ns.length:=by
 unfold aV;rw[ao,Yn]
theorem Hb{ns:AX}(nz:∃n∈ns,n≠0):∃d∈aV ns,d≠0:=by
 obtain⟨n,hn,z⟩:=nz;rw[tQ ns]at hn;obtain⟨d,hd,rfl⟩:=dg.mp hn;exact⟨d,hd,λe=>z (by rw[e,oj])⟩
theorem xJ{k:Nat}{ns:AX}(hb:∀n∈ns,Bd k n)(nz:∃n∈ns,n≠0):Bd k (gf ns)/\∀d∈aV ns,Bd k d:=by
 have g0:gf ns≠0:=λe=>by
  obtain⟨n,hn,z⟩:=nz;rw[tQ ns,e]at hn;obtain⟨d,hd,rfl⟩:=dg.mp hn;exact z (kj d)
 have ml:∀d∈aV ns,Bd k (gf ns*d):=λd hd=>hb _ (by
  have:gf ns*d∈(aV ns).map (gf ns*·):=List.mem_map_of_mem hd
  rwa[<-tQ ns]at this)
 have le:∀a b:Int,b≠0->a.natAbs<=(a*b).natAbs:=λa b h=>by
  rw[qj];exact Nat.le_mul_of_pos_right _ (Int.natAbs_pos.mpr h)
 constructor
 .obtain⟨d,hd,z⟩:=Hb nz
  exact oi (le (gf ns) d z) (ml d hd)
 .intro d hd
  have:=ml d hd;rw[dy]at this;exact oi (le d (gf ns) g0) this
abbrev uD:MT:=bJ (aC gH (aC aE (aA 1) (aA 0)) (mC (.int 0)))
abbrev mS:MS:=(cS (bJ (aC gH (aA 3) (mC (.int 0)))) (bG (mN dX (aB (aA 1) (aB (aC gG (aA 2) (aA 3)) aD)))) dZ)
theorem Wm(S:aG)(g:Int)(T:PV)(x0:BG):∀(ds:AX)(x2 x3:BG),(∀d∈ds,Bd 8000 d)->(∃d∈ds,d≠0)->cV [] (gT 2 (bH (gN 2) (bH (gN 3) cP))) mS (eP ((ds.map (g*·)).map .int) (ds.map .int)) [x0,some (.pv T),x2,x3] S=.rt (.pv (.tup [T,.int g])) S
 |[],_,_,_,h=>by
  obtain⟨d,hd,_⟩:=h;cases hd
 |d::ds,x2,x3,hb,h=>by
  show cV [] _ mS (.tup [.int (g*d),.int d]::eP ((ds.map (g*·)).map .int) (ds.map .int)) _ S=_;rw[eZ]
  by_cases z:d=0
  .subst z
   have ih:=Wm S g T x0 ds (some (.pv (.int (g*0)))) (some (.pv (.int 0))) (λd hd=>hb d (bn _ hd)) (by
    obtain⟨d,hd,n⟩:=h;rcases cj.mp hd with rfl |hd
    .exact absurd rfl n
    .exact⟨d,hd,n⟩)
   have e:mS [x0,some (.pv T),some (.pv (.int (g*0))),some (.pv (.int 0))] S=.nx [x0,some (.pv T),some (.pv (.int (g*0))),some (.pv (.int 0))] S:=by
    unfold mS;generalize g*0=G;simp! [bS,aO,aP,aR,aQ,aH,aN]
   generalize g*0=G,eP ((ds.map (g*·)).map .int) (ds.map .int)=ZL,mS=WB at *;simp[gT,bH,cP,gN,e,ih]
  .have q:(d==0)=false:=by simpa using z
   have f:=lC (i:=g*d) (j:=d) ⟨z,hb d bf⟩;have e:(g*d).fdiv d=g:=Int.mul_fdiv_cancel g z;rw[e]at f;generalize g*d=G at *;unfold mS;simp! [gT,bH,cP,gN,bS,aO,aP,aR,aQ,aH,aN,q,f]
theorem Aj(ns:AX)(S:aG)(hb:∀n∈ns,Bd 8000 n)(nz:∃n∈ns,n≠0):qB [.pv (.lst (ns.map .int))] S=.ok (.pv (.tup [tv (aV ns),.int (gf ns)])) S:=by
 have e1:=Dz ns S hb;have e2:=Wm S (gf ns) (tv (aV ns)) (some (.pv (.lst (ns.map .int)))) (aV ns) none none (xJ hb nz).2 (Hb nz);rw[<-tQ ns]at e2;have hb:Ra=(aK (aZ 1 (aT pZ [] (aB (aA 0) aD))) (aK (bX (gK (aB (aA 0) (aB (aA 1) aD))) (gT 2 (bH (gN 2) (bH (gN 3) cP))) mS) (bG (mN dX (aB (aA 1) (aB (mC (.int 0)) aD)))))):=rfl;have e1:pZ [.pv (.lst (ns.map .int))] S=.ok (.pv (.tup ((aV ns).map .int))) S:=e1;have e2:cV [] (gT 2 (bH (gN 2) (bH (gN 3) cP))) mS (eP (ns.map .int) ((aV ns).map .int)) [some (.pv (.lst (ns.map .int))),some (.pv (.tup ((aV ns).map .int))),none,none] S=.rt (.pv (.tup [.tup ((aV ns).map .int),.int (gf ns)])) S:=e2;show qB [.pv (.lst (ns.map .int))] S=.ok (.pv (.tup [.tup ((aV ns).map .int),.int (gf ns)])) S;unfold qB aW;rw[hb];generalize mS=WB,gf ns=G,ns.map PV.int=NL,(aV ns).map PV.int=DL at *;simp! [bS,aO,aP,aR,aQ,aH,aN,e1,bX,gK,kL,cR,e2]
theorem abU(S:aG){a b c:Int}(nz:∃d∈[a,b,c],d≠0):∃(p d:Int)(L:BE),eS [] (gN 0) uD (aA 0) (dA 0 3) [none,some (.pv (tv [a,b,c]))] S=.ok (.int p::L) S/\aE (tv [a,b,c]) (.int p)=some (.int d)/\d≠0/\d∈[a,b,c]/\∀g:Int,aE (.lst ([a,b,c].map (g*·) |>.map .int)) (.int p)=some (.int (g*d)):=by
 have i1:dA 0 3=[.int 0,.int 1,.int 2]:=rfl;have f0:aE (tv [a,b,c]) (.int 0)=some (.int a):=rfl;have f1:aE (tv [a,b,c]) (.int 1)=some (.int b):=rfl;have f2:aE (tv [a,b,c]) (.int 2)=some (.int c):=rfl;rw[i1];have key:∀(qa qb qc:Bool),(a==0)=qa->(b==0)=qb->(c==0)=qc->eS [] (gN 0) uD (aA 0) [.int 0,.int 1,.int 2] [none,some (.pv (tv [a,b,c]))] S=.ok ((if qa then[] else[.int 0])++((if qb then[] else[.int 1])++(if qc then[] else[.int 2]))) S:=λqa qb qc ha hb hc=>by
  generalize tv [a,b,c]=T at *;cases qa<;>cases qb<;>cases qc<;>simp! [uN,uT,uD,gN,bS,aO,aP,aR,aQ,aH,aN,f0,f1,f2,ha,hb,hc]
 by_cases ha:a=0
 .have qa:(a==0)=true:=by simpa using ha
  by_cases hb:b=0
  .have qb:(b==0)=true:=by simpa using hb
   have hc:c≠0:=λe=>by
    obtain⟨d,hd,z⟩:=nz;simp[ha,hb,e]at hd;exact z hd
   have qc:(c==0)=false:=by simpa using hc
   exact⟨2,c,[],key _ _ _ qa qb qc,f2,hc,by simp,λg=>rfl⟩
  .have qb:(b==0)=false:=by simpa using hb
   exact⟨1,b,_,key _ _ _ qa qb rfl,f1,hb,by simp,λg=>rfl⟩
 .have qa:(a==0)=false:=by simpa using ha
  exact⟨0,a,_,key _ _ _ qa rfl rfl,f0,ha,by simp,λg=>rfl⟩
theorem As{k:Nat}(hk:k<=1700){x y z b:Int}(S:aG)(hx:Bd k x)(hy:Bd k y)(hz:Bd k z)(nz:∃n∈[x,y,z],n≠0)(hb:Bd k b)(b0:0<b):sK [.pv (.lst [.int x,.int y,.int z]),.pv (.int b)] S=.ok (.pv (.tup [tv (aV [x,y,z]),fv (eX (gf [x,y,z]) b)])) S:=by
 have bd:∀n∈[x,y,z],Bd k n:=λn hn=>by
  simp only[cj,gw,or_false]at hn;rcases hn with rfl |rfl |rfl
  .exact hx
  .exact hy
  .exact hz
 obtain⟨gb,db⟩:=xJ bd nz;have e1:=P5 [x,y,z] S (λn hn=>(bd n hn).mono (by omega)) nz;obtain⟨a,c,e0,ed⟩:∃a c e0,aV [x,y,z]=[a,c,e0]:=by
  have:=Kl [x,y,z]
  match e:aV [x,y,z],this with
  |[a,c,e0],_=>exact⟨a,c,e0,rfl⟩
 have gi:=tQ [x,y,z];have nz2:=Hb nz;rw[ed]at e1 gi db nz2⊢;obtain⟨p,d,L,e2,f1,d0,dm,f2⟩:=abU S nz2;have f2:=f2 (gf [x,y,z]);rw[<-gi]at f2;have m1:=eK (db d dm) hb (by omega) (by omega);have bb:Bd (2*k) (d*b):=((db d dm).mul hb).mono (by omega);have nb:d*b≠0:=gm d0 (by omega);have e3:=Jh (gf [x,y,z]*d) (d*b) S ((gb.mul (db d dm)).mono (by omega)) (bb.mono (by omega)) nb;have e4:fr (gf [x,y,z]*d) (d*b)=fr (gf [x,y,z]) b:=Zl nb (by omega) (by grind);rw[e4,(Vd (by omega) gb hb).1]at e3;have rg:=pK S (n:=3) (by decide);have l2:(((tv [a,c,e0]:PV)):PV)=.tup [.int a,.int c,.int e0]:=rfl;have i0:aE (.lst (.int p::L)) (.int 0)=some (.int p):=vR (j:=0) rfl;have eL:cZ [tv [a,c,e0]]=some (.int 3):=rfl;have hB:Pc=(aK (aZ 2 (aT rQ [] (aB (aA 0) aD))) (aK (aZ 3 (aC aE (kH ["k"] [(2,"way")] (dB (aB (mR cZ (aB (aA 2) aD)) aD)) (gN 0) uD (aA 0)) (mC (.int 0)))) (bG (mN dX (aB (aA 2) (aB (oY oG [] (aB (aC aE (aA 0) (aA 3)) (aB (aC aX (aC aE (aA 2) (aA 3)) (aA 1)) aD))) aD)))))):=rfl;unfold sK aW;rw[hB];show _=bP.ok (AV.pv (.tup [tv [a,c,e0],.tup [.int (eX (gf [x,y,z]) b).1,.int (eX (gf [x,y,z]) b).2]])) S;simp only[aw,cw]at f2 e3 e1;generalize gf [x,y,z]=G,(eX (gf [x,y,z]) b).2=P2,(eX (gf [x,y,z]) b).1=P1 at *;clear l2 ed gi db nz2;generalize dA 0 3=IP,tv [a,c,e0]=T at *;have c2:((3:Nat):Int)=3:=rfl;rw[c2]at rg;generalize uD=C1 at *;simp! [-cZ,bS,aO,aP,aR,aQ,aH,aN,e1,kH,dB,cY,eL,rg,e2,i0,f1,f2,m1,e3]
abbrev cJ(x:AY×(Int×Int)):PV:=.tup [kE x.1,fv x.2]
theorem tD:∀a b:AY,kE a=kE b->a=b:=λa b h=>lE (n:=true) (show cC true a=cC true b from h)
theorem Qn:∀k:AX,jF (k.map .int)=some k
 |[]=>rfl
 |i::k=>by
  rw[aw];unfold jF;rw[Qn k]
theorem Io:∀ks:AY,iT (ks.map tv)=some ks
 |[]=>rfl
 |k::ks=>by
  show iT (.tup (k.map .int)::ks.map tv)=_;unfold iT;rw[Io ks,Qn k]
theorem Ul:∀ks:AZ,lZ (ks.map kE)=some ks
 |[]=>rfl
 |k::ks=>by
  show lZ (.tup (k.map tv)::ks.map kE)=_;unfold lZ;rw[Ul ks,Io k]
theorem qM(k:AY):lP true (kE k):=⟨k,rfl⟩
theorem Qk{ks:AZ}(hl:ks.length<64)(nd:ks.Nodup)(ne:[]∉ks):lN (ks.map kE)=some (.lst ((fM dC ks).map kE)):=by
 unfold lN;rw[Ul];dsimp only;rw[if_pos ⟨hl,nd,ne⟩];rfl
theorem Jp(x0 x4:BG):∀(L R:List (AY×(Int×Int)))(x2 x3:BG),(R++L).length<16777216->∃y2 y3,cV [] (gT 2 (bH (gN 2) (bH (gN 3) cP))) (dE (pH 1 2 3)) (L.map cJ) [x0,some (.ref 0),x2,x3,x4] [.dol true (eU kE R)]=.nx [x0,some (.ref 0),y2,y3,x4] [.dol true (eU kE (R++L))]
 |[],R,x2,x3,_=>⟨x2,x3,by rw[mf];exact gM⟩
 |r::L,R,x2,x3,hl=>by
  obtain⟨y2,y3,ih⟩:=Jp x0 x4 L (R++[r]) (some (.pv (kE r.1))) (some (.pv (fv r.2))) (by simpa using hl);refine⟨y2,y3,?_⟩;rw[jx]at ih;have ih:cV [] (gT 2 (bH (gN 2) (bH (gN 3) cP))) (dE (pH 1 2 3)) (L.map cJ) [x0,some (.ref 0),some (.pv (kE r.1)),some (.pv (fv r.2)),x4] [.dol true (eU kE (R++[r]))]=.nx [x0,some (.ref 0),y2,y3,x4] [.dol true (eU kE (R++r::L))]:=ih;have ea:=G0 tD R r.1 r.2;have hc:lP true (kE r.1)/\(eU kE R).length<16777216/\∀kv∈eU kE R,kv.2.length<16777216:=by
   have:=vZ R;have l2:R.length<16777216:=by rw[bh]at hl;omega
   refine⟨qM _,by unfold eU;rw[ao];omega,λkv hkv=>?_⟩;unfold eU at hkv;obtain⟨j,_,rfl⟩:=dg.mp hkv;show((bB R j).map fv).length<16777216;have:(bB R j).length<=R.length:=by
    unfold bB;rw[ao];exact AU _ _
   rw[ao];omega
  have es:yN (kE r.1) (fv r.2) [.dol true (eU kE R)]=.ok (.pv .non) [.dol true (eU kE (R++[r]))]:=by
   unfold yN;dsimp only;rw[if_pos hc,ea]
  rw[aw,eZ];rw[show cJ r=PV.tup [kE r.1,fv r.2] from rfl];clear hc ea hl;generalize eU kE R=D0,eU kE (R++[r])=D1,eU kE (R++r::L)=D2,L.map cJ=LL,fv r.2=T2,kE r.1=T1 at *;simp[gT,bH,cP,gN,dE,cD.of,pH,es,ih]
theorem A4{m k:Nat}{R:List (AY×(Int×Int))}(hm:∀j,(bB R j).length<=2^m)(m5:m<=5)(hk:2^m*(k+1)<=7000)(h:∀r∈R,Fq k r.2):∀(ks:AZ)(x:BG),(∀j∈ks,j∈dG R)->
  cO [] (gN 0) (mN dX (aB (aA 0) (aB (sN sL (aA 1) (aA 0)) aD))) (ks.map kE) [x,some (.ref 0)] [.dol true (eU kE R)]=.ok (ks.map λj=>cJ (j,cH (bB R j))) [.dol true (eU kE R)]:=by
 intro ks x hks;refine Ma (nB _) kE (λj=>cJ (j,cH (bB R j))) ks x λj hj=>?_;have fq:∀u∈bB R j,Fq k u:=λu hu=>by
  unfold bB at hu;obtain⟨r,hr,rfl⟩:=dg.mp hu;exact h r (nr.mp hr).1
 have p5:2^m<=32:=by
  have:=xa (show 0<2 by decide) m5;omega
 have et:=D8 [] (L:=bB R j) (by have:=hm j;omega) (hm j) m5 hk fq;rw[U3 (by have:=hm j;omega) fq]at et;have eg:tF (.ref 0) (.pv (kE j)) [.dol true (eU kE R)]=some ((bB R j).map fv):=by
  unfold tF;dsimp only;have:gW (eU kE R) (kE j)=some ((bB R j).map fv):=Gc tD (λk=>(bB R k).map fv) (hks j hj);simp[qM,this]
 have en:lR (fv (cH (bB R j)))=true:=rfl;show _=bP.ok (AV.pv (.tup [kE j,fv (cH (bB R j))])) _;generalize kE j=T1,fv (cH (bB R j))=C1,(bB R j).map fv=LL,eU kE R=D0 at *;simp! [aE,bC,bF,aM,aO,aP,aR,aQ,aH,aN,sN,eg,et,en]
theorem Ck{k:Nat}(S:aG):∀(L:List (AY×(Int×Int)))(x:BG),(∀r∈L,Fq k r.2)->eS [] (gN 0) (bJ (aC gH (aC aE (aA 0) (mC (.int 1))) (mN dX (aB (mC (.int 0)) (aB (mC (.int 1)) aD))))) (aA 0) (L.map cJ) [x] S=.ok ((L.filter λx=>!decide (x.2.1=0)).map cJ) S
 |[],x,_=>uT
 |r::L,x,h=>by
  have ih:=Ck S L (some (.pv (cJ r))) λr hr=>h r (bn _ hr);have f:=h r bf;have i1:aE (cJ r) (.int 1)=some (fv r.2):=rfl;have eq:aM 8 (fv r.2) (.tup [.int 0,.int 1])=some (decide (r.2.1=0)):=by
   by_cases z:r.2.1=0
   .have:r.2=(0,1):=(Bz f).mp z
    rw[this];rfl
   .show aM 8 (.tup [.int r.2.1,.int r.2.2]) (.tup [.int 0,.int 1])=_
    have z':(r.2.1==0)=false:=by simpa using z
    simp[aM,kI,z',z]
  rw[aw,uN,zg];have er:(r::L.filter λx=>!decide (x.2.1=0)).map cJ=cJ r::(L.filter λx=>!decide (x.2.1=0)).map cJ:=rfl;generalize hT:cJ r=T at *;generalize L.map cJ=LL,fv r.2=T2 at*
  by_cases z:r.2.1=0
  .rw[decide_eq_true z]at eq⊢
   simp! [gN,bS,aO,aP,aR,aQ,aH,aN,i1,eq,ih]
  .rw[decide_eq_false z]at eq⊢
   simp! [gN,bS,aO,aP,aR,aQ,aH,aN,i1,eq,ih,hT]
theorem ab3{k:Nat}{R:List (AY×(Int×Int))}(h:∀r∈R,Fq k r.2)(j:AY):Fq (1+R.length*(k+1)) (cH (bB R j)):=by
 refine(sU (k:=k) (bB R j) λu hu=>?_).1.mono ?_
 .unfold bB at hu
  obtain⟨r,hr,rfl⟩:=dg.mp hu;exact h r (nr.mp hr).1
 .have:(bB R j).length<=R.length:=by
   unfold bB;rw[ao];exact AU _ _
  have:=za (k+1) this;omega
theorem Tl{α:Type}{lt:α->α->Bool}{l:List α}:∀x,x∈fM lt l->x∈l:=λ_ h=>(qF l).subset h
theorem Oy{m k:Nat}{R:List (AY×(Int×Int))}(hl:R.length<16777216)(h64:(dG R).length<64)(ne:[]∉dG R)(hm:∀j,(bB R j).length<=2^m)(m5:m<=5)(hk:2^m*(k+1)<=7000)(h:∀r∈R,Fq k r.2):
  sC [.pv (.lst (R.map cJ))] []=.ok (.pv (.tup ((iE dC R).map cJ))) []:=by
 obtain⟨y2,y3,e1⟩:=Jp (some (.pv (.lst (R.map cJ)))) none R [] none none (by simpa using hl);have e2:lN ((eU kE R).map (·.1))=some (.lst ((fM dC (dG R)).map kE)):=by
  have:(eU kE R).map (·.1)=(dG R).map kE:=by
   unfold eU;rw[fe];rfl
  rw[this];exact Qk h64 (jY R).1 ne
 have e3:=A4 hm m5 hk h (fM dC (dG R)) none Tl;have e4:=Ck (k:=1+R.length*(k+1)) [.dol true (eU kE R)] ((fM dC (dG R)).map λj=>(j,cH (bB R j))) none λr hr=>by
  obtain⟨j,_,rfl⟩:=dg.mp hr;exact ab3 h j
 have e5:((fM dC (dG R)).map λj=>(j,cH (bB R j))).map cJ=(fM dC (dG R)).map λj=>cJ (j,cH (bB R j)):=fe ..;have e6:iE dC R=((fM dC (dG R)).map λk=>(k,cH (bB R k))).filter λx=>!decide (x.2.1=0):=rfl;rw[<-e6]at e4;rw[<-e5]at e3;have p0:eU kE ([]:List (AY×(Int×Int)))=[]:=rfl;rw[p0,jy]at e1;unfold sC Ab;clear e5 e6;generalize R.map cJ=RL,eU kE R=D0,(fM dC (dG R)).map kE=KL,((fM dC (dG R)).map λj=>(j,cH (bB R j))).map cJ=ML,(iE dC R).map cJ=TL at *;refine tJ (v:=.pv (.tup TL)) (S':=[.dol true D0]) rfl ?_ rfl;apply sq;simp! [bS,aO,aP,aR,aQ,aH,aN,wS];exact⟨rfl,rfl⟩;apply sq;simp! [bS,aO,aP,aR,aQ,aH,aN,bX,bR,cR,e1];exact⟨rfl,rfl⟩;apply sq;simp! [bS,aO,aP,aR,aQ,aH,aN,bT,cY,bR,wY,wV,e2,cR,e3];exact⟨rfl,rfl⟩;simp! [bS,aO,aP,aR,aQ,aH,aN,kH,cY,bR,cR,e4]
theorem Wj{k:Nat}(A:SO){R:List (AY×(Int×Int))}(h:∀r∈R,Fq k r.2):∀(ks:AZ)(x:BG),(∀j∈ks,j∈dG R)->
  eS [] (gN 0) (bJ (aC gH (aC aE (nS (aA 1) (aA 0)) (mC (.int 0))) (mC (.int 0)))) (mN dX (aB (aA 0) (aB (nS (aA 1) (aA 0)) aD))) (ks.map kE) [x,some (.ref 1)] [A,.dic true (bI kE R)]=.ok (((ks.map λj=>(j,cH (bB R j))).filter λx=>!decide (x.2.1=0)).map cJ) [A,.dic true (bI kE R)]
 |[],x,_=>uT
 |j::ks,x,hks=>by
  have ih:=Wj A h ks (some (.pv (kE j))) λi hi=>hks i (bn _ hi);have eg:mH (.ref 1) (.pv (kE j)) [A,.dic true (bI kE R)] none=.ok (.pv (fv (cH (bB R j)))) [A,.dic true (bI kE R)]:=by
   have:gW (bI kE R) (kE j)=some (fv (cH (bB R j))):=Gc tD (λk=>fv (cH (bB R k))) (hks j bf);unfold mH;simp[qM,this]
  have i0:aE (fv (cH (bB R j))) (.int 0)=some (.int (cH (bB R j)).1):=rfl;have er:cJ (j,cH (bB R j))=PV.tup [kE j,fv (cH (bB R j))]:=rfl;rw[aw,uN,aw,zg];generalize bI kE R=D0,ks.map kE=KL at *;have ed:∀b,(if b=true then((j,cH (bB R j))::(ks.map λj=>(j,cH (bB R j))).filter λx=>!decide (x.2.1=0))else(ks.map λj=>(j,cH (bB R j))).filter λx=>!decide (x.2.1=0)).map cJ=if b=true then PV.tup [kE j,fv (cH (bB R j))]::((ks.map λj=>(j,cH (bB R j))).filter λx=>!decide (x.2.1=0)).map cJ else((ks.map λj=>(j,cH (bB R j))).filter λx=>!decide (x.2.1=0)).map cJ:=λb=>by
   cases b<;>rfl
  rw[ed];generalize kE j=T1,fv (cH (bB R j))=F1,((ks.map λj=>(j,cH (bB R j))).filter λx=>!decide (x.2.1=0)).map cJ=FL at *;show _=bP.ok (if(!decide ((cH (bB R j)).1=0))=true then _ else _) _;generalize (cH (bB R j)).1=c at*
  by_cases z:c=0
  .subst z
   simp! [gN,bS,aO,aP,aR,aQ,aH,aN,nS,eg,i0,ih]
  .have z':(c==0)=false:=by simpa using z
   simp! [gN,bS,aO,aP,aR,aQ,aH,aN,nS,eg,i0,ih,z',z]
theorem W6{k:Nat}(A:SO){R:List (AY×(Int×Int))}(h64:(dG R).length<64)(ne:[]∉dG R)(h:∀r∈R,Fq k r.2):uM [.ref 1] [A,.dic true (bI kE R)]=.ok (.pv (.tup ((iE dC R).map cJ))) [A,.dic true (bI kE R)]:=by
 have e2:lN ((bI kE R).map (·.1))=some (.lst ((fM dC (dG R)).map kE)):=by
  have:(bI kE R).map (·.1)=(dG R).map kE:=by
   unfold bI;rw[fe];rfl
  rw[this];exact Qk h64 (jY R).1 ne
 have e3:=Wj A h (fM dC (dG R)) none Tl;have e6:iE dC R=((fM dC (dG R)).map λk=>(k,cH (bB R k))).filter λx=>!decide (x.2.1=0):=rfl;rw[<-e6]at e3;unfold uM aW zF;generalize bI kE R=D0,(fM dC (dG R)).map kE=KL,(iE dC R).map cJ=TL at *;simp! [bS,aO,aP,aR,aQ,aH,aN,kH,cY,bR,tG,xD,wR,e2,cR,e3]
theorem aca{k l:Nat}(A:SO){R:List (AY×(Int×Int))}(hl:R.length<90000)(h:∀r∈R,Fq k r.2){j:AY}{u:Int×Int}(hm:(bB R j).length<=l)(hu:Fq k u)(hk:1+l*(k+1)+k+1<=7000):rV [.ref 1,.pv (kE j),.pv (fv u)] [A,.dic true (bI kE R)]=.ok (.pv .non) [A,.dic true (bI kE (R++[(j,u)]))]:=by
 have fc:Fq (1+l*(k+1)) (cH (bB R j)):=(sU (k:=k) (bB R j) λu hu=>by
  unfold bB at hu;obtain⟨r,hr,rfl⟩:=dg.mp hu;exact h r (nr.mp hr).1).1.mono (by
   have:=za (k+1) hm;omega)
 have es:=aan [A,.dic true (bI kE R)] fc hu hk;have ea:=L0 tD R j u;have eg:mH (.ref 1) (.pv (kE j)) [A,.dic true (bI kE R)] (some (.pv (fv (0,1))))=.ok (.pv (fv (cH (bB R j)))) [A,.dic true (bI kE R)]:=by
  unfold mH;rcases D9 tD R j with⟨e,_⟩|⟨e,f⟩
  .simp[qM,e]
  .rw[f]
   simp[qM,e]
 have ep:tM (.ref 1) (.pv (kE j)) (.pv (fv (pl (cH (bB R j)) u))) [A,.dic true (bI kE R)]=.ok (.pv .non) [A,.dic true (bI kE (R++[(j,u)]))]:=by
  have hc:lP true (kE j)/\(bI kE R).length<16777216:=⟨qM j,by
   unfold bI;have:=vZ R;rw[ao];omega⟩
  unfold tM;simp only[zb,zc];rw[if_pos hc,ea];rfl
 have eg:mH (.ref 1) (.pv (kE j)) [A,.dic true (bI kE R)] (some (.pv (.tup [.int 0,.int 1])))=.ok (.pv (fv (cH (bB R j)))) [A,.dic true (bI kE R)]:=eg;unfold rV aW Ea;clear ea fc hu h;generalize kE j=T1,bI kE R=D0,bI kE (R++[(j,u)])=D1,fv u=F0,fv (cH (bB R j))=F1,fv (pl (cH (bB R j)) u)=F2 at *;simp! [bS,aO,aP,aR,aQ,aH,aN,xB,xF,xK,eg,es,ep]
theorem Lk:∀L:BE,eP L L=L.map λv=>PV.tup [v,v]
 |[]=>rfl
 |v::L=>by
  show PV.tup [v,v]::eP L L=_;rw[Lk L];rfl
theorem rW{r:FM}(S:aG)(L:BE)(h:∀v∈L,r [.pv v,.pv v] S=.ok (.pv (.bl true)) S):aW 2 2 (iS r) [.pv (.tup L),.pv (.tup L)] S=.ok (.pv (.bl true)) S:=by
 have e1:cO [] (gT 2 (bH (gN 0) (bH (gN 1) cP))) (aT r [] (aB (aA 0) (aB (aA 1) aD))) (L.map λv=>PV.tup [v,v]) [none,none] S=.ok (L.map λ_=>.bl true) S:=by
  refine Fa (λv=>v) (λv=>v) (λ_=>.bl true) L none none λv hv=>?_;simp! [aE,bC,bF,aM,aO,aP,aR,aQ,aH,aN,h v hv]
 have e2:=Lk L;have e3:=A2 L;unfold aW iS;generalize (L.map λv=>PV.tup [v,v])=ZL,(aT r [] (aB (aA 0) (aB (aA 1) aD)))=ME1,(L.map λ_=>PV.bl true)=BL at *;simp! [bS,aO,aP,aR,aQ,aH,aN,oX,bT,cY,gK,kL,cR,e2,e1,e3]
theorem wE{κ β:Type}[DecidableEq κ](A B:List (κ×β))(j:κ):bB (A++B) j=bB A j++bB B j:=by
 unfold bB;rw[AQ,dh]
theorem Rp{κ β:Type}[DecidableEq κ]:∀(R:List (κ×β))(j:κ),(R.map (·.1)).Nodup->(bB R j).length<=1
 |[],_,_=>de _
 |r::R,j,h=>by
  rw[aw,jn]at h;have ih:=Rp R j h.2;have e:bB (r::R) j=if r.1=j then r.2::bB R j else bB R j:=by
   unfold bB;rw[zg]
   by_cases z:r.1=j
   .simp[z]
   .simp[z]
  rw[e]
  by_cases z:r.1=j
  .rw[if_pos z]
   have:bB R j=[]:=by
    unfold bB;rw[AS,AT];intro x hx q;have q:x.1=j:=by simpa using q
    exact h.1 (dg.mpr ⟨x,hx,q.trans z.symm⟩)
   rw[this];exact aj _
  .rw[if_neg z]
   exact ih
theorem Ib{α κ β:Type}[DecidableEq κ](f:α->List (κ×β)):∀(gs:List α)(j:κ),(∀u∈gs,((f u).map (·.1)).Nodup)->(bB (gs.flatMap f) j).length<=gs.length
 |[],_,_=>aj _
 |u::gs,j,h=>by
  rw[ni,wE,bh,ca];have a:=Rp (f u) j (h u bf);have b:=Ib f gs j λv hv=>h v (bn _ hv);omega
theorem Eh(S:aG)(x0:BG):∀(gs:AZ)(X:BE)(x2:BG),(∀u∈gs,u.length=3\/u.length=4)->X.length+4*gs.length<=1000->∃y2,cV [] (gN 2) (nM 1 (aT oN [] (aB (aA 2) aD))) (gs.map px) [x0,some (.ref S.length),x2] (S++[.lst X])=.nx [x0,some (.ref S.length),y2] (S++[.lst (X++(gs.flatMap eC).map λw=>.tup (w.map tv))])
 |[],X,x2,_,_=>⟨x2,by simpa using gM⟩
 |u::gs,X,x2,h,hl=>by
  have lw:(eC u).length<=4:=by
   unfold eC;split<;>simp
  have e:=L3 (h u bf) (S++[.lst X]);obtain⟨y2,ih⟩:=Eh S x0 gs (X++(eC u).map λw=>.tup (w.map tv)) (some (.pv (px u))) (λv hv=>h v (bn _ hv)) (by
   rw[bh,ao];rw[ca]at hl;omega)
  refine⟨y2,?_⟩;rw[jx,<-dh,<-ni]at ih;have lz:X.length+((eC u).map λw=>PV.tup (w.map tv)).length<=16777216:=by
   rw[ao];omega
  rw[aw,eZ];generalize gs.map px=GL,px u=P1,(eC u).map (λw=>PV.tup (w.map tv))=W1,(((u::gs).flatMap eC).map λw=>PV.tup (w.map tv))=W2 at *;have st:nM 1 (aT oN [] (aB (aA 2) aD)) [x0,some (.ref S.length),some (.pv P1)] (S++[.lst X])=.nx [x0,some (.ref S.length),some (.pv P1)] (S++[.lst (X++W1)]):=by
   simp! [aE,bC,bF,aM,aO,aP,aR,aQ,aH,aN,nM,Cf,e,lz]
  simp[gN,st,ih]
theorem N7{α:Type}(xs:List α)(h:xs.length<=6):hU xs none none (-1)=xs.reverse:=by
 have e:∀n:Nat,n<=6->sliceRange (sliceBounds none none (some (-1)) n).1 (sliceBounds none none (some (-1)) n).2.1 (sliceBounds none none (some (-1)) n).2.2=(bj n).reverse:=by decide+kernel
 unfold hU;rw[e _ h,List.filterMap_reverse];congr 1;have:∀l:List α,(bj l.length).filterMap (l[·]?)=l:=λl=>by
  refine jf λi=>?_
  induction l generalizing i with
  |nil=>rfl
  |cons a l ih=>
   rw[ca,yy,iu];simp only[zc,oa];cases i with
   |zero=>rfl
   |succ i=>
    simp only[zb];exact ih i
 exact this xs
theorem Cw(S:aG){gs:AZ}{A:PV}(hA:Sv A (gs.map px))(h:∀u∈gs,u.length=3\/u.length=4)(hl:gs.length<=200):pR [.pv A] S=.ok (.ref S.length) (S++[.lst ((gs.flatMap eC).map λw=>.tup (w.map tv))]):=by
 obtain⟨y2,e⟩:=Eh S (some (.pv A)) gs [] none h (by simp;omega);rw[jy]at e;generalize ((gs.flatMap eC).map λw=>PV.tup (w.map tv))=W at *;have e2:(bX (bR (aA 0)) (gN 2) (nM 1 (aT oN [] (aB (aA 2) aD)))) [some (.pv A),some (.ref S.length),none] (S++[.lst []])=.nx [some (.pv A),some (.ref S.length),y2] (S++[.lst W]):=by
  rcases hA with rfl |rfl<;>simp! [bS,aO,aP,aR,aQ,aH,aN,bX,bR,cR,e]
 unfold pR zI;refine tJ (v:=.ref S.length) (S':=S++[.lst W]) rfl ?_ ?_
 .apply sq;simp! [bS,aO,aP,aR,aQ,aH,aN,eT,kK];exact⟨rfl,rfl⟩
  apply sq;exact e2;simp! [bS,aO,aP,aR,aQ,aH,aN]
 .simp[kJ]
theorem qN{p q r s:AX}(hp:Pw 3 p)(hq:Pw 3 q)(hr:Pw 3 r)(hs:Pw 3 s)(nz:dU [p,q,r,s]≠0):aV (cB [p,q,s])≠aV (cB [p,q,r]):=by
 obtain⟨x0,y0,z0,w0,rfl,p0⟩:=hp.three;obtain⟨x1,y1,z1,w1,rfl,p1⟩:=hq.three;obtain⟨x2,y2,z2,w2,rfl,p2⟩:=hr.three;obtain⟨x3,y3,z3,w3,rfl,p3⟩:=hs.three;have nz:D3 x0 y0 z0 w0 x1 y1 z1 w1 x2 y2 z2 w2 x3 y3 z3 w3≠0:=nz;have e:w0*w0*D3 x0 y0 z0 w0 x1 y1 z1 w1 x2 y2 z2 w2 x3 y3 z3 w3=((y1*w0-y0*w1)*(z2*w0-z0*w2)-(z1*w0-z0*w1)*(y2*w0-y0*w2))*(x3*w0-x0*w3)+((z1*w0-z0*w1)*(x2*w0-x0*w2)-(x1*w0-x0*w1)*(z2*w0-z0*w2))*(y3*w0-y0*w3)+((x1*w0-x0*w1)*(y2*w0-y0*w2)-(y1*w0-y0*w1)*(x2*w0-x0*w2))*(z3*w0-z0*w3):=by
  unfold D3;grind
 have nz2:w0*w0*D3 x0 y0 z0 w0 x1 y1 z1 w1 x2 y2 z2 w2 x3 y3 z3 w3≠0:=gm (gm (by omega) (by omega)) nz;rw[e]at nz2;clear e nz;simp only[mK,mQ,rJ,qZ,rD];generalize z3*w0-z0*w3=q3,y3*w0-y0*w3=q2,x3*w0-x0*w3=q1,z2*w0-z0*w2=v3,y2*w0-y0*w2=v2,x2*w0-x0*w2=v1,z1*w0-z0*w1=u3,y1*w0-y0*w1=u2,x1*w0-x0*w1=u1 at *;intro h;obtain⟨h1,h2,h3⟩:=Im h;exact nz2 (acE h1 h2 h3)
theorem fN{p q r s:AX}(hp:Pw 3 p)(hq:Pw 3 q)(hr:Pw 3 r)(hs:Pw 3 s):dU [q,p,r,s]=-dU [p,q,r,s]/\dU [p,r,q,s]=-dU [p,q,r,s]/\dU [p,q,s,r]=-dU [p,q,r,s]:=by
 obtain⟨x0,y0,z0,w0,rfl,p0⟩:=hp.three;obtain⟨x1,y1,z1,w1,rfl,p1⟩:=hq.three;obtain⟨x2,y2,z2,w2,rfl,p2⟩:=hr.three;obtain⟨x3,y3,z3,w3,rfl,p3⟩:=hs.three;refine⟨?_,?_,?_⟩<;>simp only[Lu]<;>unfold D3<;>grind
theorem B0{a b c d:AX}(ha:Pw 3 a)(hb:Pw 3 b)(hc:Pw 3 c)(hd:Pw 3 d)(nz:dU [a,b,c,d]≠0):[aV (cB [b,c,d]),aV (cB [a,d,c]),aV (cB [a,b,d]),aV (cB [a,c,b])].Nodup:=by
 have z:∀{x y:Int},y≠0->x=-y->x≠0:=λh e z=>h (by omega);have d1:dU [a,b,d,c]≠0:=z nz (fN ha hb hc hd).2.2;have d2:dU [a,c,b,d]≠0:=z nz (fN ha hb hc hd).2.1;have d3:dU [a,d,b,c]≠0:=z d1 (fN ha hb hd hc).2.1;have e1:dU [b,a,c,d]≠0:=z nz (fN ha hb hc hd).1;have e2:dU [b,c,a,d]≠0:=z e1 (fN hb ha hc hd).2.1;have f1:dU [b,a,d,c]≠0:=z d1 (fN ha hb hd hc).1;have f2:dU [b,d,a,c]≠0:=z f1 (fN hb ha hd hc).2.1;have g1:dU [c,a,b,d]≠0:=z d2 (fN ha hc hb hd).1;have g2:dU [c,a,d,b]≠0:=z g1 (fN hc ha hb hd).2.2;have g3:dU [c,d,a,b]≠0:=z g2 (fN hc ha hd hb).2.1;have s1:aV (cB [c,d,b])=aV (cB [b,c,d]):=(lM hc hb hd).trans (xS hb hc hd);have s2:aV (cB [c,d,a])=aV (cB [a,d,c]):=(lM hc ha hd).trans ((xS ha hc hd).trans (lM ha hd hc));have s3:aV (cB [b,d,a])=aV (cB [a,b,d]):=(lM hb ha hd).trans (xS ha hb hd);have s4:aV (cB [b,c,a])=aV (cB [a,c,b]):=(lM hb ha hc).trans ((xS ha hb hc).trans (lM ha hc hb));have n1:aV (cB [b,c,d])≠aV (cB [a,d,c]):=by
  rw[<-s1,<-s2];exact qN hc hd ha hb g3
 have n2:aV (cB [b,c,d])≠aV (cB [a,b,d]):=by
  rw[<-s3,<-lM hb hc hd];exact qN hb hd ha hc f2
 have n3:aV (cB [b,c,d])≠aV (cB [a,c,b]):=by
  rw[<-s4];exact qN hb hc ha hd e2
 have n4:aV (cB [a,d,c])≠aV (cB [a,b,d]):=by
  rw[<-lM ha hb hd];exact qN ha hd hb hc d3
 have n5:aV (cB [a,d,c])≠aV (cB [a,c,b]):=by
  rw[<-lM ha hd hc];exact qN ha hc hb hd d2
 have n6:aV (cB [a,b,d])≠aV (cB [a,c,b]):=by
  rw[lM ha hb hc];exact qN ha hb hc hd nz
 simp only[jn,cj,gw,or_false,not_or,kx,not_false_eq_true,and_true];exact⟨⟨n1,n2,n3⟩,⟨n4,n5⟩,n6⟩
def lw(p:AX):Int:=p.getLastD 0
def kX(w:AY):AX×(Int×Int):=(aV (cB w),eX (gf (cB w)) (2*lw (w.getD 0 [])*lw (w.getD 0 [])*lw (w.getD 1 [])*lw (w.getD 2 [])))
structure Wd(k:Nat)(w:AY):Prop where
 pr:∀S,oC [.pv (.tup (w.map tv))] S=.ok (.pv (PV.tup [tv (kX w).1,fv (kX w).2])) S
 sh:∀S,oB [.pv (.tup (w.map tv))] S=.ok (.pv (PV.tup [tv (kX w).1,fv (kX w).2])) S
 fq:Fq (4*k+3) (kX w).2
 ln:(kX w).1≠[]
theorem acC{k:Nat}(hk:k<=400){p q r:AX}(gp:Gu 3 k p)(gq:Gu 3 k q)(gr:Gu 3 k r)(nz:∃n∈cB [p,q,r],n≠0):Wd k [p,q,r]:=by
 obtain⟨x0,y0,z0,w0,rfl,W0,bx0,by0,bz0,bw0⟩:=gp.three';obtain⟨x1,y1,z1,w1,rfl,W1,bx1,by1,bz1,bw1⟩:=gq.three';obtain⟨x2,y2,z2,w2,rfl,W2,bx2,by2,bz2,bw2⟩:=gr.three';obtain⟨_,_,_,_,e,P⟩:=gp.three (by omega);cases e;obtain⟨_,_,_,_,e,Q⟩:=gq.three (by omega);cases e;obtain⟨_,_,_,_,e,R⟩:=gr.three (by omega);cases e;have sb':∀{u v s t:Int},Bd k u->Bd k v->Bd k s->Bd k t->Bd (2*k+1) (u*v-s*t):=λh1 h2 h3 h4=>((h1.mul h2).mono (show k+k<=2*k by omega)).sub ((h3.mul h4).mono (show k+k<=2*k by omega));have a1:=sb' bx1 bw0 bx0 bw1;have a2:=sb' by1 bw0 by0 bw1;have a3:=sb' bz1 bw0 bz0 bw1;have b1:=sb' bx2 bw0 bx0 bw2;have b2:=sb' by2 bw0 by0 bw2;have b3:=sb' bz2 bw0 bz0 bw2;have cb':∀{u v s t:Int},Bd (2*k+1) u->Bd (2*k+1) v->Bd (2*k+1) s->Bd (2*k+1) t->Bd (4*k+3) (u*v-s*t):=λh1 h2 h3 h4=>(((h1.mul h2).mono (show 2*k+1+(2*k+1)<=4*k+2 by omega)).sub ((h3.mul h4).mono (show 2*k+1+(2*k+1)<=4*k+2 by omega)));have ea:cB [[x0,y0,z0,w0],[x1,y1,z1,w1],[x2,y2,z2,w2]]=[(y1*w0-y0*w1)*(z2*w0-z0*w2)-(z1*w0-z0*w1)*(y2*w0-y0*w2),(z1*w0-z0*w1)*(x2*w0-x0*w2)-(x1*w0-x0*w1)*(z2*w0-z0*w2),(x1*w0-x0*w1)*(y2*w0-y0*w2)-(y1*w0-y0*w1)*(x2*w0-x0*w2)]:=rfl;have es:kX [[x0,y0,z0,w0],[x1,y1,z1,w1],[x2,y2,z2,w2]]=(aV (cB [[x0,y0,z0,w0],[x1,y1,z1,w1],[x2,y2,z2,w2]]),eX (gf (cB [[x0,y0,z0,w0],[x1,y1,z1,w1],[x2,y2,z2,w2]])) (2*w0*w0*w1*w2)):=rfl;rw[ea]at nz es;have c1:=cb' a2 b3 a3 b2;have c2:=cb' a3 b1 a1 b3;have c3:=cb' a1 b2 a2 b1;have e1:=λS=>Kd S P Q;have e2:=λS=>Kd S P R;have g1:=λS=>rK S P Q;have g2:=λS=>rK S P R;have n3:=λS=>Z6 S (a1.mono (show 2*k+1<=10000 by omega)) (a2.mono (show 2*k+1<=10000 by omega)) (a3.mono (show 2*k+1<=10000 by omega)) (b1.mono (show 2*k+1<=10000 by omega)) (b2.mono (show 2*k+1<=10000 by omega)) (b3.mono (show 2*k+1<=10000 by omega));have x3:=λS=>Qb (A:=.lst [.int (x1*w0-x0*w1),.int (y1*w0-y0*w1),.int (z1*w0-z0*w1)]) (B:=.lst [.int (x2*w0-x0*w2),.int (y2*w0-y0*w2),.int (z2*w0-z0*w2)]) S rfl rfl (a1.mono (show 2*k+1<=10000 by omega)) (a2.mono (show 2*k+1<=10000 by omega)) (a3.mono (show 2*k+1<=10000 by omega)) (b1.mono (show 2*k+1<=10000 by omega)) (b2.mono (show 2*k+1<=10000 by omega)) (b3.mono (show 2*k+1<=10000 by omega));clear sb' cb' a1 a2 a3 b1 b2 b3 ea;generalize (x1*w0-x0*w1)*(y2*w0-y0*w2)-(y1*w0-y0*w1)*(x2*w0-x0*w2)=N3,(z1*w0-z0*w1)*(x2*w0-x0*w2)-(x1*w0-x0*w1)*(z2*w0-z0*w2)=N2,(y1*w0-y0*w1)*(z2*w0-z0*w2)-(z1*w0-z0*w1)*(y2*w0-y0*w2)=N1 at *;have t2:Bd 2 (2:Int):=by unfold Bd;decide
 have bb:Bd (4*k+3) (2*w0*w0*w1*w2):=((((t2.mul bw0).mul bw0).mul bw1).mul bw2).mono (by omega);have ww:0<2*w0*w0*w1*w2:=cg (cg (cg (cg (by decide) W0) W0) W1) W2;have bd:∀n∈[N1,N2,N3],Bd (4*k+3) n:=λn hn=>by
  simp only[cj,gw,or_false]at hn;rcases hn with rfl |rfl |rfl
  .exact c1
  .exact c2
  .exact c3
 have gb:=(xJ bd nz).1;have fp:=Vd (ib ww) gb bb;have m1:=eK t2 bw0 (by decide) (by omega);have m2:=eK (t2.mul bw0) bw0 (by omega) (by omega);have m3:=eK ((t2.mul bw0).mul bw0) bw1 (by omega) (by omega);have m4:=eK (((t2.mul bw0).mul bw0).mul bw1) bw2 (by omega) (by omega);have m5:=eK (t2.mul bw0) bw1 (by omega) (by omega);have m6:=eK ((t2.mul bw0).mul bw1) bw0 (by omega) (by omega);have m7:=eK (((t2.mul bw0).mul bw1).mul bw0) bw2 (by omega) (by omega);have ew:2*w0*w1*w0*w2=2*w0*w0*w1*w2:=by grind
 rw[ew]at m7;have i0:aE (v3 x0 y0 z0 w0) (.int (-1))=some (.int w0):=rfl;have i1:aE (v3 x1 y1 z1 w1) (.int (-1))=some (.int w1):=rfl;have i2:aE (v3 x2 y2 z2 w2) (.int (-1))=some (.int w2):=rfl;have j0:aE (v3 x0 y0 z0 w0) (.int 3)=some (.int w0):=rfl;have j1:aE (v3 x1 y1 z1 w1) (.int 3)=some (.int w1):=rfl;have j2:aE (v3 x2 y2 z2 w2) (.int 3)=some (.int w2):=rfl;refine⟨λS=>?_,λS=>?_,by rw[es];exact fp.2,?_⟩
 .have e3:=As (k:=4*k+3) (by omega) S c1 c2 c3 nz bb ww
  have e1:=e1 S;have e2:=e2 S;have n3:=n3 S;have sl:=Zd (v3 x0 y0 z0 w0) [v3 x1 y1 z1 w1,v3 x2 y2 z2 w2];have k0:aE (.tup [v3 x0 y0 z0 w0,v3 x1 y1 z1 w1,v3 x2 y2 z2 w2]) (.int 0)=some (v3 x0 y0 z0 w0):=rfl;have k1:aE (.tup [v3 x0 y0 z0 w0,v3 x1 y1 z1 w1,v3 x2 y2 z2 w2]) (.int 1)=some (v3 x1 y1 z1 w1):=rfl;have k2:aE (.tup [v3 x0 y0 z0 w0,v3 x1 y1 z1 w1,v3 x2 y2 z2 w2]) (.int 2)=some (v3 x2 y2 z2 w2):=rfl;rw[es];show oC [.pv (.tup [v3 x0 y0 z0 w0,v3 x1 y1 z1 w1,v3 x2 y2 z2 w2])] S=.ok (.pv (.tup [tv (aV [N1,N2,N3]),fv (eX (gf [N1,N2,N3]) (2*w0*w0*w1*w2))])) S;unfold oC aW zC;clear g1 g2 x3 fp gb bd nz es;generalize v3 x2 y2 z2 w2=C,v3 x1 y1 z1 w1=B,v3 x0 y0 z0 w0=A,PV.lst [.int (x2*w0-x0*w2),.int (y2*w0-y0*w2),.int (z2*w0-z0*w2)]=U2,PV.lst [.int (x1*w0-x0*w1),.int (y1*w0-y0*w1),.int (z1*w0-z0*w1)]=U1,tv (aV [N1,N2,N3])=T1,fv (eX (gf [N1,N2,N3]) (2*w0*w0*w1*w2))=F1 at *;simp! [bS,aO,aP,aR,aQ,aH,aN,k0,k1,k2,bT,cY,bR,fZ,eA,fK,iO,sl,cR,fL,fA,gN,e1,e2,n3,i0,i1,i2,m1,m2,m3,m4,e3]
 .have e3:=Aj [N1,N2,N3] S (λn hn=>(bd n hn).mono (by omega)) nz
  have e4:=wB (gf [N1,N2,N3]) (2*w0*w0*w1*w2) S (gb.mono (by omega)) (bb.mono (by omega));rw[fp.1]at e4;have e4:lG [.pv (.int (gf [N1,N2,N3])),.pv (.int (2*w0*w0*w1*w2))] S=.ok (.pv (fv (eX (gf [N1,N2,N3]) (2*w0*w0*w1*w2)))) S:=e4;have g1:=g1 S;have g2:=g2 S;have x3:=x3 S;simp only[aw,cw]at e3;rw[es];show oB [.pv (.tup [v3 x0 y0 z0 w0,v3 x1 y1 z1 w1,v3 x2 y2 z2 w2])] S=.ok (.pv (.tup [tv (aV [N1,N2,N3]),fv (eX (gf [N1,N2,N3]) (2*w0*w0*w1*w2))])) S;unfold oB aW zA;clear e1 e2 n3 fp gb bd nz es;generalize v3 x2 y2 z2 w2=C,v3 x1 y1 z1 w1=B,v3 x0 y0 z0 w0=A,PV.lst [.int (x2*w0-x0*w2),.int (y2*w0-y0*w2),.int (z2*w0-z0*w2)]=U2,PV.lst [.int (x1*w0-x0*w1),.int (y1*w0-y0*w1),.int (z1*w0-z0*w1)]=U1,gf [N1,N2,N3]=G,tv (aV [N1,N2,N3])=T1,fv (eX (gf [N1,N2,N3]) (2*w0*w0*w1*w2))=F1 at *;simp! [bS,aO,aP,aR,aQ,aH,aN,mP,gT,bH,cP,gN,g1,g2,x3,e3,j0,j1,j2,m1,m5,m6,m7,e4]
 .rw[es]
  intro z;have:=Kl [N1,N2,N3];have z:aV [N1,N2,N3]=[]:=z;rw[z]at this;cases this
theorem F3{u:AY}(h:∃a b c d,u=[a,b,c,d])(S:aG):lD [.pv (px u)] S=.ok (.pv (.lst ((eC u).map λw=>.tup (w.map tv)))) S:=by
 obtain⟨a,b,c,d,rfl⟩:=h;show lD [.pv (.tup [tv a,tv b,tv c,tv d])] S=.ok (.pv (.lst [.tup [tv b,tv c,tv d],.tup [tv a,tv d,tv c],.tup [tv a,tv b,tv d],.tup [tv a,tv c,tv b]])) S;generalize tv a=TA;generalize tv b=TB;generalize tv c=TC;generalize tv d=TD;unfold lD aW Cb;simp! [aE,bC,bF,aM,aO,aP,aR,aQ,aH,aN,mP,gT,bH,cP,gN]
theorem U5(ns:AX){hs:AZ}(hw:∀xss∈hs,Rw 3 xss)(h9:hs.length<=4):∃(gs:AZ)(ns':AX),rT [.ref 0,.pv (.lst (hs.map cM))] [.lst (li ns)]=.ok (.pv (.lst (gs.map px))) [.lst (li ns')]/\gs.length<=4/\∀u∈gs,Sx 3 201 u:=by
 cases hs with
 |nil=>
  refine⟨[],ns,?_,by decide,λ_ h=>(nomatch h)⟩;unfold rT aW uQ;simp! [-cZ,cZ.eq_1,aE,bC,bF,aM,aO,aP,aR,aQ,aH,aN]
 |cons x hs=>
  obtain⟨fs,n2,e2,l2,r2⟩:=Ay (n:=3) (.inr rfl) ns;obtain⟨gs,n3,e3,l3,r3⟩:=Q0 (n:=3) (.inr rfl) n2 l2 r2 hw (by omega);have i0:aE (.lst ((x::hs).map cM)) (.int 0)=some (cM x):=vR (j:=0) rfl;have el:cZ [cM x]=some (.int 4):=by
   show some (PV.int (((x.map lv).length:Nat):Int))=_;rw[ao,(hw x bf).len];rfl
  have c2:((3:Nat):Int)=3:=rfl;rw[c2]at e2;have ez:(((((x::hs).map cM).length:Nat):Int)==0)=false:=by simp;omega
  refine⟨gs,n3,?_,by omega,r3⟩;unfold rT aW uQ;generalize gs.map px=GL,fs.map fv=FL,(x::hs).map cM=HL,cM x=X1 at *;simp! [-cZ,cZ.eq_1,bS,aO,aP,aR,aQ,aH,aN,ez,i0,el,e2,e3]
theorem Td{p q r s:AX}(hp:Pw 3 p)(hq:Pw 3 q)(hr:Pw 3 r)(hs:Pw 3 s)(nz:dU [p,q,r,s]≠0):aV (dJ p r)≠aV (dJ p q):=by
 obtain⟨x0,y0,z0,w0,rfl,p0⟩:=hp.three;obtain⟨x1,y1,z1,w1,rfl,p1⟩:=hq.three;obtain⟨x2,y2,z2,w2,rfl,p2⟩:=hr.three;obtain⟨x3,y3,z3,w3,rfl,p3⟩:=hs.three;have nz:D3 x0 y0 z0 w0 x1 y1 z1 w1 x2 y2 z2 w2 x3 y3 z3 w3≠0:=nz;have e:w0*w0*D3 x0 y0 z0 w0 x1 y1 z1 w1 x2 y2 z2 w2 x3 y3 z3 w3=((y1*w0-y0*w1)*(z2*w0-z0*w2)-(z1*w0-z0*w1)*(y2*w0-y0*w2))*(x3*w0-x0*w3)+((z1*w0-z0*w1)*(x2*w0-x0*w2)-(x1*w0-x0*w1)*(z2*w0-z0*w2))*(y3*w0-y0*w3)+((x1*w0-x0*w1)*(y2*w0-y0*w2)-(y1*w0-y0*w1)*(x2*w0-x0*w2))*(z3*w0-z0*w3):=by
  unfold D3;grind
 have nz2:w0*w0*D3 x0 y0 z0 w0 x1 y1 z1 w1 x2 y2 z2 w2 x3 y3 z3 w3≠0:=gm (gm (by omega) (by omega)) nz;rw[e]at nz2;clear e nz;simp only[mK,mQ];generalize z3*w0-z0*w3=q3,y3*w0-y0*w3=q2,x3*w0-x0*w3=q1,z2*w0-z0*w2=v3,y2*w0-y0*w2=v2,x2*w0-x0*w2=v1,z1*w0-z0*w1=u3,y1*w0-y0*w1=u2,x1*w0-x0*w1=u1 at *;intro h;obtain⟨h1,h2,h3⟩:=Im h;exact nz2 (acZ h1 h2 h3)
theorem S7{p q r s:AX}(hp:Pw 3 p)(hq:Pw 3 q)(hr:Pw 3 r)(hs:Pw 3 s)(nz:dU [p,q,r,s]≠0):[aV (dJ r p),aV (dJ p q),aV (dJ q r)].Nodup:=by
 have z:∀{x y:Int},y≠0->x=-y->x≠0:=λh e z=>h (by omega);have d1:dU [q,p,r,s]≠0:=z nz (fN hp hq hr hs).1;have d2:dU [q,r,p,s]≠0:=z d1 (fN hq hp hr hs).2.1;have d3:dU [r,q,p,s]≠0:=z d2 (fN hq hr hp hs).1;have s1:aV (dJ r p)=aV (dJ p r):=by rw[Lb (.inr rfl) hp hr,vJ]
 have s2:aV (dJ q r)=aV (dJ r q):=by rw[Lb (.inr rfl) hr hq,vJ]
 have s3:aV (dJ p q)=aV (dJ q p):=by rw[Lb (.inr rfl) hq hp,vJ]
 have n1:aV (dJ r p)≠aV (dJ p q):=by
  rw[s1];exact Td hp hq hr hs nz
 have n2:aV (dJ r p)≠aV (dJ q r):=by
  rw[s2];exact Td hr hq hp hs d3
 have n3:aV (dJ p q)≠aV (dJ q r):=by
  rw[s3];exact Td hq hr hp hs d2
 simp only[jn,cj,gw,or_false,not_or,kx,not_false_eq_true,and_true];exact⟨⟨n1,n2⟩,n3⟩
theorem Hn{r:FM}(S:aG)(i:Int):aW 2 2 (iS r) [.pv (.int i),.pv (.int i)] S=.ok (.pv (.bl true)) S:=by
 have e:=O6 i S;unfold aW iS;simp! [bS,aO,aP,aR,aQ,aH,aN,oX,e]
theorem Bi(S:aG)(L:List (AY×(Int×Int))):oK [.pv (.tup (L.map cJ)),.pv (.tup (L.map cJ))] S=.ok (.pv (.bl true)) S:=by
 have e2:∀k:AX,zU [.pv (tv k),.pv (tv k)] S=.ok (.pv (.bl true)) S:=λk=>rW S (k.map .int) λv hv=>by
  obtain⟨i,_,rfl⟩:=dg.mp hv;exact Hn S i
 have e3:∀k:AY,uW [.pv (kE k),.pv (kE k)] S=.ok (.pv (.bl true)) S:=λk=>rW S (k.map tv) λv hv=>by
  obtain⟨i,_,rfl⟩:=dg.mp hv;exact e2 i
 have e3':∀k:AX,uW [.pv (tv k),.pv (tv k)] S=.ok (.pv (.bl true)) S:=λk=>rW S (k.map .int) λv hv=>by
  obtain⟨i,_,rfl⟩:=dg.mp hv;exact Hn S i
 have e4:∀x:AY×(Int×Int),zQ [.pv (cJ x),.pv (cJ x)] S=.ok (.pv (.bl true)) S:=λx=>rW S [kE x.1,fv x.2] λv hv=>by
  simp only[cj,gw,or_false]at hv;rcases hv with rfl |rfl
  .exact e3 x.1
  .exact e3' [x.2.1,x.2.2]
 exact rW S (L.map cJ) λv hv=>by
  obtain⟨x,_,rfl⟩:=dg.mp hv;exact e4 x
def jC(p q:AX):AX×(Int×Int):=(aV (dJ p q),eX (gf (dJ p q)) (lw p*lw q))
def eR(m p q:AX):AY×(Int×Int):=([m,(jC p q).1],(jC p q).2)
structure Sd(k:Nat)(p q:AX):Prop where
 pr:∀S,pQ [.pv (tv p),.pv (tv q)] S=.ok (.pv (.tup [tv (jC p q).1,fv (jC p q).2])) S
 fq:Fq (2*k+1) (jC p q).2
 ps:∀(A:SO)(m:AX)(R:List (AY×(Int×Int)))(l:Nat),m≠[]->R.length<90000->(∀r∈R,Fq (2*k+1) r.2)->(bB R (eR m p q).1).length<=l->1+l*(2*k+2)+2*k+2<=7000->pS [.ref 1,.pv (tv m),.pv (tv p),.pv (tv q),.pv (.int 1)] [A,.dic true (bI kE R)]=.ok (.pv .non) [A,.dic true (bI kE (R++[eR m p q]))]
theorem T9{m:AX}(h:m≠[]):aM 8 (tv m) (.tup [])=some false:=by
 cases m with
 |nil=>exact absurd rfl h
 |cons i m=>rfl
theorem Ke{k:Nat}(hk:k<=800){p q:AX}(gp:Gu 3 k p)(gq:Gu 3 k q)(nz:∃n∈dJ p q,n≠0):Sd k p q:=by
 obtain⟨x0,y0,z0,w0,rfl,W0,bx0,by0,bz0,bw0⟩:=gp.three';obtain⟨x1,y1,z1,w1,rfl,W1,bx1,by1,bz1,bw1⟩:=gq.three';obtain⟨_,_,_,_,e,P⟩:=gp.three (by omega);cases e;obtain⟨_,_,_,_,e,Q⟩:=gq.three (by omega);cases e;have ea:dJ [x0,y0,z0,w0] [x1,y1,z1,w1]=[x1*w0-x0*w1,y1*w0-y0*w1,z1*w0-z0*w1]:=rfl;rw[ea]at nz;have sb':∀{u v s t:Int},Bd k u->Bd k v->Bd k s->Bd k t->Bd (2*k+1) (u*v-s*t):=λh1 h2 h3 h4=>((h1.mul h2).mono (show k+k<=2*k by omega)).sub ((h3.mul h4).mono (show k+k<=2*k by omega));have b1:=sb' bx1 bw0 bx0 bw1;have b2:=sb' by1 bw0 by0 bw1;have b3:=sb' bz1 bw0 bz0 bw1;have bb:Bd (2*k+1) (w0*w1):=(bw0.mul bw1).mono (by omega);have ww:0<w0*w1:=cg W0 W1;have e1:=λS=>Kd S P Q;have g1:=λS=>rK S P Q;have es:jC [x0,y0,z0,w0] [x1,y1,z1,w1]=(aV [x1*w0-x0*w1,y1*w0-y0*w1,z1*w0-z0*w1],eX (gf [x1*w0-x0*w1,y1*w0-y0*w1,z1*w0-z0*w1]) (w0*w1)):=rfl;have em:∀m,eR m [x0,y0,z0,w0] [x1,y1,z1,w1]=([m,aV [x1*w0-x0*w1,y1*w0-y0*w1,z1*w0-z0*w1]],eX (gf [x1*w0-x0*w1,y1*w0-y0*w1,z1*w0-z0*w1]) (w0*w1)):=λ_=>rfl;have i0:aE (v3 x0 y0 z0 w0) (.int (-1))=some (.int w0):=rfl;have i1:aE (v3 x1 y1 z1 w1) (.int (-1))=some (.int w1):=rfl;have m1:=eK bw0 bw1 (by omega) (by omega);clear sb' ea;generalize z1*w0-z0*w1=N3,y1*w0-y0*w1=N2,x1*w0-x0*w1=N1 at *;have bd:∀n∈[N1,N2,N3],Bd (2*k+1) n:=λn hn=>by
  simp only[cj,gw,or_false]at hn;rcases hn with rfl |rfl |rfl
  .exact b1
  .exact b2
  .exact b3
 have gb:=(xJ bd nz).1;have fp:=Vd (ib ww) gb bb;refine⟨λS=>?_,by rw[es];exact fp.2,λA m R l hm0 hl h hm hb=>?_⟩
 .rw[es]
  have e1:=e1 S;have e2:=As (k:=2*k+1) (by omega) S b1 b2 b3 nz bb ww;show pQ [.pv (v3 x0 y0 z0 w0),.pv (v3 x1 y1 z1 w1)] S=.ok (.pv (.tup [tv (aV [N1,N2,N3]),fv (eX (gf [N1,N2,N3]) (w0*w1))])) S;unfold pQ aW zG;generalize v3 x1 y1 z1 w1=B,v3 x0 y0 z0 w0=A,tv (aV [N1,N2,N3])=T1,fv (eX (gf [N1,N2,N3]) (w0*w1))=F1 at *;simp! [bS,aO,aP,aR,aQ,aH,aN,e1,i0,i1,m1,e2]
 .have e1:=g1 [A,.dic true (bI kE R)]
  have e2:=Aj [N1,N2,N3] [A,.dic true (bI kE R)] (λn hn=>(bd n hn).mono (by omega)) nz;have e3:=wB (gf [N1,N2,N3]) (w0*w1) [A,.dic true (bI kE R)] (gb.mono (by omega)) (bb.mono (by omega));rw[fp.1]at e3;have e3:lG [.pv (.int (gf [N1,N2,N3])),.pv (.int (w0*w1))] [A,.dic true (bI kE R)]=.ok (.pv (fv (eX (gf [N1,N2,N3]) (w0*w1)))) [A,.dic true (bI kE R)]:=e3;rw[em]at hm⊢;have e4:=aca (l:=l) A hl h hm fp.2 (by omega);have e4:rV [.ref 1,.pv (.tup [tv m,tv (aV [N1,N2,N3])]),.pv (fv (eX (gf [N1,N2,N3]) (w0*w1)))] [A,.dic true (bI kE R)]=_:=e4;have m2:=eK (k:=1) (l:=2*k+1) (a:=1) (b:=gf [N1,N2,N3]) (by unfold Bd;decide) gb (by omega) (by omega);rw[jd]at m2;simp only[aw,cw]at e2;have e0:=T9 hm0;show pS [.ref 1,.pv (tv m),.pv (v3 x0 y0 z0 w0),.pv (v3 x1 y1 z1 w1),.pv (.int 1)] _=_;unfold pS aW zJ;clear fp gb bd hm;generalize tv m=M1,bI kE R=D0,v3 x1 y1 z1 w1=V,v3 x0 y0 z0 w0=U,gf [N1,N2,N3]=G,tv (aV [N1,N2,N3])=T1,fv (eX (gf [N1,N2,N3]) (w0*w1))=F1,bI kE (R++[([m,aV [N1,N2,N3]],eX (gf [N1,N2,N3]) (w0*w1))])=D1 at *;simp! [bS,aO,aP,aR,aQ,aH,aN,mP,gT,bH,cP,gN,e1,e2,i0,i1,m1,m2,e3,e4,e0]
def fH(w:AY):List (AY×(Int×Int)):=(iH w).map λx=>eR (aV (cB w)) x.1 x.2
def cX(u:AY):List (AY×(Int×Int)):=(eC u).flatMap fH
structure We(k:Nat)(w:AY):Prop where
 wd:Wd k w
 ln:∃p q r,w=[p,q,r]
 sd:∀x∈iH w,Sd k x.1 x.2
structure pM(k:Nat)(u:AY):Prop where
 is:∃a b c d,u=[a,b,c,d]
 we:∀w∈eC u,We k w
 nd:((cX u).map (·.1)).Nodup
theorem xQ{k:Nat}(hk:k<=400){p q r s:AX}(gp:Gu 3 k p)(gq:Gu 3 k q)(gr:Gu 3 k r)(gs:Gu 3 k s)(nz:dU [p,q,r,s]≠0):We k [p,q,r]/\((fH [p,q,r]).map (·.1)).Nodup:=by
 have hp:=gp.pt;have hq:=gq.pt;have hr:=gr.pt;have hs:=gs.pt;have nn:∃n∈cB [p,q,r],n≠0:=by
  obtain⟨x0,y0,z0,w0,rfl,p0⟩:=hp.three;obtain⟨x1,y1,z1,w1,rfl,p1⟩:=hq.three;obtain⟨x2,y2,z2,w2,rfl,p2⟩:=hr.three;obtain⟨x3,y3,z3,w3,rfl,p3⟩:=hs.three;exact abt p0 (x3:=x3) (y3:=y3) (z3:=z3) (w3:=w3) nz
 have wn:=S7 hp hq hr hs nz;have az:∀{p q r s:AX},Pw 3 p->Pw 3 q->Pw 3 r->Pw 3 s->dU [p,q,r,s]≠0->∃n∈dJ p q,n≠0:=λhp hq hr hs nz=>by
  obtain⟨x0,y0,z0,w0,rfl,p0⟩:=hp.three;obtain⟨x1,y1,z1,w1,rfl,p1⟩:=hq.three;obtain⟨x2,y2,z2,w2,rfl,p2⟩:=hr.three;obtain⟨x3,y3,z3,w3,rfl,p3⟩:=hs.three;have nz:D3 x0 y0 z0 w0 x1 y1 z1 w1 x2 y2 z2 w2 x3 y3 z3 w3≠0:=nz;have e:w0*w0*D3 x0 y0 z0 w0 x1 y1 z1 w1 x2 y2 z2 w2 x3 y3 z3 w3=((y1*w0-y0*w1)*(z2*w0-z0*w2)-(z1*w0-z0*w1)*(y2*w0-y0*w2))*(x3*w0-x0*w3)+((z1*w0-z0*w1)*(x2*w0-x0*w2)-(x1*w0-x0*w1)*(z2*w0-z0*w2))*(y3*w0-y0*w3)+((x1*w0-x0*w1)*(y2*w0-y0*w2)-(y1*w0-y0*w1)*(x2*w0-x0*w2))*(z3*w0-z0*w3):=by
   unfold D3;grind
  have nz2:w0*w0*D3 x0 y0 z0 w0 x1 y1 z1 w1 x2 y2 z2 w2 x3 y3 z3 w3≠0:=gm (gm (by omega) (by omega)) nz;rw[e]at nz2;clear e nz;show ∃n∈[x1*w0-x0*w1,y1*w0-y0*w1,z1*w0-z0*w1],n≠0;generalize z1*w0-z0*w1=u3,y1*w0-y0*w1=u2,x1*w0-x0*w1=u1 at*
  by_cases h1:u1=0
  .by_cases h2:u2=0
   .refine⟨u3,by simp,λh3=>nz2 ?_⟩
    rw[h1,h2,h3];simp
   .exact⟨u2,by simp,h2⟩
  .exact⟨u1,by simp,h1⟩
 have z:∀{x y:Int},y≠0->x=-y->x≠0:=λh e z=>h (by omega);have d1:dU [q,p,r,s]≠0:=z nz (fN hp hq hr hs).1;have d2:dU [q,r,p,s]≠0:=z d1 (fN hq hp hr hs).2.1;have d3:dU [p,r,q,s]≠0:=z nz (fN hp hq hr hs).2.1;have d4:dU [r,p,q,s]≠0:=z d3 (fN hp hr hq hs).1;refine⟨⟨acC hk gp gq gr nn,⟨p,q,r,rfl⟩,λx hx=>?_⟩,?_⟩
 .have hx:x=(r,p)\/x=(p,q)\/x=(q,r):=by simpa[iH]using hx
  rcases hx with rfl |rfl |rfl
  .exact Ke (by omega) gr gp (az hr hp hq hs d4)
  .exact Ke (by omega) gp gq (az hp hq hr hs nz)
  .exact Ke (by omega) gq gr (az hq hr hp hs d2)
 .have e:(fH [p,q,r]).map (·.1)=[aV (dJ r p),aV (dJ p q),aV (dJ q r)].map λy=>[aV (cB [p,q,r]),y]:=rfl
  rw[e];refine List.Pairwise.map _ (λa b h e=>h ?_) wn;injection e with _ e;injection e
theorem abd{k:Nat}(hk:k<=400){u:AY}(h:Sx 3 k u):pM k u:=by
 match u,h.len,h with
 |[a,b,c,d],_,h=>
  have ga:=h.gu a (by simp);have gb:=h.gu b (by simp);have gc:=h.gu c (by simp);have gd:=h.gu d (by simp);have nz:=h.nz;have pa:=ga.pt;have pb:=gb.pt;have pc:=gc.pt;have pd:=gd.pt;have z:∀{x y:Int},y≠0->x=-y->x≠0:=λh e z=>h (by omega);have d1:dU [a,b,d,c]≠0:=z nz (fN pa pb pc pd).2.2;have d2:dU [a,c,b,d]≠0:=z nz (fN pa pb pc pd).2.1;have d3:dU [a,d,b,c]≠0:=z d1 (fN pa pb pd pc).2.1;have d4:dU [a,d,c,b]≠0:=z d3 (fN pa pd pb pc).2.2;have e1:dU [b,a,c,d]≠0:=z nz (fN pa pb pc pd).1;have e2:dU [b,c,a,d]≠0:=z e1 (fN pb pa pc pd).2.1;have e3:dU [b,c,d,a]≠0:=z e2 (fN pb pc pa pd).2.2;have al:∀w∈eC [a,b,c,d],We k w/\((fH w).map (·.1)).Nodup:=λw hw=>by
   have hw:w=[b,c,d]\/w=[a,d,c]\/w=[a,b,d]\/w=[a,c,b]:=by simpa[eC]using hw
   rcases hw with rfl |rfl |rfl |rfl
   .exact xQ hk gb gc gd ga e3
   .exact xQ hk ga gd gc gb d4
   .exact xQ hk ga gb gd gc d1
   .exact xQ hk ga gc gb gd d2
  refine⟨⟨a,b,c,d,rfl⟩,λw hw=>(al w hw).1,?_⟩;have wn:((eC [a,b,c,d]).map λw=>aV (cB w)).Nodup:=B0 pa pb pc pd nz;show(((eC [a,b,c,d]).flatMap fH).map (·.1)).Nodup;rw[List.map_flatMap];unfold List.Nodup;rw[List.pairwise_flatMap];refine⟨λw hw=>(al w hw).2,?_⟩;unfold List.Nodup at wn;rw[AH]at wn;refine wn.imp λ{w w'} hne x hx y hy e=>hne ?_;have hd:∀{w:AY}{x:AY},x∈(fH w).map (·.1)->x.getD 0 []=aV (cB w):=λ{w x} hx=>by
   obtain⟨r,hr,rfl⟩:=dg.mp hx;obtain⟨y,_,rfl⟩:=dg.mp hr;rfl
  rw[<-hd hx,<-hd hy,e]
theorem Fm:∀L:List (AY×(Int×Int)),kA (L.map cJ)=true
 |[]=>rfl
 |x::L=>by
  have h:∀k:AX,kA (k.map .int)=true:=λk=>by
   induction k with
   |nil=>rfl
   |cons i k ih=>
    show(true&&kA (k.map .int))=true;rw[ih];rfl
  have h2:∀k:AY,kA (k.map tv)=true:=λk=>by
   induction k with
   |nil=>rfl
   |cons i k ih=>
    show(kA (i.map .int)&&kA (k.map tv))=true;rw[ih,h];rfl
  show((kA (x.1.map tv)&&true)&&kA (L.map cJ))=true;rw[Fm L,h2];rfl
abbrev eB:MS:=(aK (aZ 6 (aT pQ [] (aB (aA 4) (aB (aA 5) aD)))) (dE (dI (aA 1) (aB (mN dX (aB (mN dX (aB (aA 3) (aB (aC aE (aA 6) (mC (.int 0))) aD))) (aB (aC aE (aA 6) (mC (.int 1))) aD))) aD))))
theorem Vt{k:Nat}(S:aG)(m:AX)(x0 x2:BG):∀(L:List (AX×AX))(X:BE)(x4 x5 x6:BG),(∀x∈L,Sd k x.1 x.2)->X.length+L.length<=100000->∃y4 y5 y6,cV [] (gT 2 (bH (gN 4) (bH (gN 5) cP))) eB (L.map λx=>PV.tup [tv x.1,tv x.2]) [x0,some (.ref S.length),x2,some (.pv (tv m)),x4,x5,x6] (S++[.lst X])=.nx [x0,some (.ref S.length),x2,some (.pv (tv m)),y4,y5,y6] (S++[.lst (X++L.map λx=>cJ (eR m x.1 x.2))])
 |[],X,x4,x5,x6,_,_=>⟨x4,x5,x6,by simpa using gM⟩
 |x::L,X,x4,x5,x6,h,hl=>by
  rw[ca]at hl;have e:=(h x bf).pr (S++[.lst X]);obtain⟨y4,y5,y6,ih⟩:=Vt S m x0 x2 L (X++[cJ (eR m x.1 x.2)]) (some (.pv (tv x.1))) (some (.pv (tv x.2))) (some (.pv (.tup [tv (jC x.1 x.2).1,fv (jC x.1 x.2).2]))) (λv hv=>h v (bn _ hv)) (by rw[bh];show _+1+_<=_;omega);refine⟨y4,y5,y6,?_⟩;have er:cJ (eR m x.1 x.2)=.tup [.tup [tv m,tv (jC x.1 x.2).1],fv (jC x.1 x.2).2]:=rfl;have lz:X.length<16777216:=by omega
  rw[jx]at ih;have ih:cV [] (gT 2 (bH (gN 4) (bH (gN 5) cP))) eB (L.map λx=>PV.tup [tv x.1,tv x.2]) [x0,some (.ref S.length),x2,some (.pv (tv m)),some (.pv (tv x.1)),some (.pv (tv x.2)),some (.pv (.tup [tv (jC x.1 x.2).1,fv (jC x.1 x.2).2]))] (S++[.lst (X++[cJ (eR m x.1 x.2)])])=.nx [x0,some (.ref S.length),x2,some (.pv (tv m)),y4,y5,y6] (S++[.lst (X++(x::L).map λx=>cJ (eR m x.1 x.2))]):=ih;rw[er]at ih;rw[aw,eZ];generalize tv m=M1,tv x.2=T2,tv x.1=T1,tv (jC x.1 x.2).1=K1,fv (jC x.1 x.2).2=F1,(L.map λx=>PV.tup [tv x.1,tv x.2])=LL,((x::L).map λx=>cJ (eR m x.1 x.2))=W2 at *;have i0:aE (.tup [K1,F1]) (.int 0)=some K1:=rfl;have i1:aE (.tup [K1,F1]) (.int 1)=some F1:=rfl;have st:eB [x0,some (.ref S.length),x2,some (.pv M1),some (.pv T1),some (.pv T2),x6] (S++[.lst X])=.nx [x0,some (.ref S.length),x2,some (.pv M1),some (.pv T1),some (.pv T2),some (.pv (.tup [K1,F1]))] (S++[.lst (X++[.tup [.tup [M1,K1],F1]])]):=by
   unfold eB;apply sq;simp! [bS,aO,aP,aR,aQ,aH,aN,e];exact⟨rfl,rfl⟩;simp! [bS,aO,aP,aR,aQ,aH,aN,i0,i1,dI,fD,iQ,lz]
  generalize eB=EB at *;simp[gT,bH,cP,gN,st,ih]
abbrev rM:MS:=(aK (aZ 3 (aC aE (aT oC [] (aB (aA 2) aD)) (mC (.int 0)))) (bX (bR (aT sM [] (aB (aA 2) aD))) (gT 2 (bH (gN 4) (bH (gN 5) cP))) eB))
theorem Ft{k:Nat}(S:aG)(x0:BG):∀(W:AZ)(X:BE)(x2 x3 x4 x5 x6:BG),(∀w∈W,We k w)->X.length+3*W.length<=90000->∃y2 y3 y4 y5 y6,cV [] (gN 2) rM (W.map λw=>PV.tup (w.map tv)) [x0,some (.ref S.length),x2,x3,x4,x5,x6] (S++[.lst X])=.nx [x0,some (.ref S.length),y2,y3,y4,y5,y6] (S++[.lst (X++(W.flatMap fH).map cJ)])
 |[],X,x2,x3,x4,x5,x6,_,_=>⟨x2,x3,x4,x5,x6,by simpa using gM⟩
 |w::W,X,x2,x3,x4,x5,x6,h,hl=>by
  rw[ca]at hl;have t:=h w bf;have e1:=t.wd.pr (S++[.lst X]);have l3:(iH w).length=3:=by
   obtain⟨p,q,r,rfl⟩:=t.ln;rfl
  have e2:=M8 (w:=w) (by
   obtain⟨p,q,r,rfl⟩:=t.ln;exact .inr rfl) (S++[.lst X])
  obtain⟨y4,y5,y6,e3⟩:=Vt S (aV (cB w)) x0 (some (.pv (.tup (w.map tv)))) (iH w) X x4 x5 x6 t.sd (by omega);have er:((iH w).map λx=>cJ (eR (aV (cB w)) x.1 x.2))=(fH w).map cJ:=by
   unfold fH;rw[fe];rfl
  rw[er]at e3;obtain⟨z2,z3,z4,z5,z6,ih⟩:=Ft S x0 W (X++(fH w).map cJ) (some (.pv (.tup (w.map tv)))) (some (.pv (tv (aV (cB w))))) y4 y5 y6 (λv hv=>h v (bn _ hv)) (by
   rw[bh,ao];show _+((iH w).map _).length+_<=_;rw[ao,l3];omega)
  refine⟨z2,z3,z4,z5,z6,?_⟩;rw[jx,<-dh,<-ni]at ih;have e1:oC [.pv (.tup (w.map tv))] (S++[.lst X])=.ok (.pv (.tup [tv (aV (cB w)),fv (kX w).2])) (S++[.lst X]):=e1;rw[aw,eZ];generalize (W.map λw=>PV.tup (w.map tv))=WL,PV.tup (w.map tv)=P1,((iH w).map λx=>PV.tup [tv x.1,tv x.2])=SL,tv (aV (cB w))=M1,fv (kX w).2=F1,(fH w).map cJ=W1,((w::W).flatMap fH).map cJ=W2 at *;have i0:aE (.tup [M1,F1]) (.int 0)=some M1:=rfl;have st:rM [x0,some (.ref S.length),some (.pv P1),x3,x4,x5,x6] (S++[.lst X])=.nx [x0,some (.ref S.length),some (.pv P1),some (.pv M1),y4,y5,y6] (S++[.lst (X++W1)]):=by
   unfold rM;generalize eB=EB at *;apply sq;simp! [bS,aO,aP,aR,aQ,aH,aN,e1,i0];exact⟨rfl,rfl⟩;simp! [bS,aO,aP,aR,aQ,aH,aN,bX,bR,e2,cR,e3]
  generalize rM=EB at *;simp[gN,st,ih]
theorem Dm{k:Nat}{gs:AZ}(h:∀u∈gs,pM k u):(gs.flatMap cX).length=12*gs.length/\(∀r∈gs.flatMap cX,Fq (2*k+1) r.2/\r.1≠[])/\gs.flatMap cX=(gs.flatMap eC).flatMap fH/\(∀w∈gs.flatMap eC,We k w)/\(gs.flatMap eC).length=4*gs.length:=by
 have e:gs.flatMap cX=(gs.flatMap eC).flatMap fH:=by
  rw[List.flatMap_assoc];rfl
 have w:∀w∈gs.flatMap eC,We k w:=λw hw=>by
  obtain⟨u,hu,hw⟩:=zh.mp hw;exact(h u hu).we w hw
 refine⟨?_,λr hr=>?_,e,w,?_⟩
 .clear e w
  induction gs with
  |nil=>rfl
  |cons u gs ih=>
   obtain⟨a,b,c,d,rfl⟩:=(h u bf).is;rw[ni,bh,ih λv hv=>h v (bn _ hv),ca];show 12+_=_;omega
 .rw[e]at hr
  obtain⟨x,hx,hr⟩:=zh.mp hr;obtain⟨y,hy,rfl⟩:=dg.mp hr;exact⟨((w x hx).sd y hy).fq,λz=>by cases z⟩
 .clear e w
  induction gs with
  |nil=>rfl
  |cons u gs ih=>
   obtain⟨a,b,c,d,rfl⟩:=(h u bf).is;rw[ni,bh,ih λv hv=>h v (bn _ hv),ca];show 4+_=_;omega
theorem Qc{k:Nat}(hk:4*(2*k+2)<=7000)(S:aG){gs:AZ}{A:PV}(hA:Sv A (gs.map px))(h:∀u∈gs,pM k u)(hl:gs.length<=4):oE [.pv A] S=.ok (.pv (.tup ((iE dC (gs.flatMap cX)).map cJ))) S:=by
 obtain⟨i1,i2,i4,i5,i6⟩:=Dm h;have e1:=Cw (S++[.lst []]) hA (λu hu=>by
  obtain⟨a,b,c,d,rfl⟩:=(h u hu).is;exact .inr rfl) (by omega)
 obtain⟨y2,y3,y4,y5,y6,e2⟩:=Ft S (some (.pv A)) (gs.flatMap eC) [] none none none none none i5 (by show 0+3*_<=_;rw[i6];omega);rw[<-i4,jy]at e2;have e3:=Oy (m:=2) (k:=2*k+1) (R:=gs.flatMap cX) (by omega) (by have:=vZ (gs.flatMap cX);omega) (λz=>by
  obtain⟨r,hr,e⟩:=((jY _).2 _).mp z;exact(i2 r hr).2 e) (λj=>by
  have:=Ib cX gs j λu hu=>(h u hu).nd;omega) (by decide) (by omega) λr hr=>(i2 r hr).1
 have e4:lR (.tup ((iE dC (gs.flatMap cX)).map cJ))=true:=Fm _;clear i1 i2 i4 i5 i6 hA h;have hb:zN=(aK (aZ 1 (eT aD)) (aK (bX (bR (aT pR [] (aB (aA 0) aD))) (gN 2) rM) (bG (sR sC (aB (aA 1) aD))))):=rfl;unfold oE;rw[hb];generalize rM=EB,((gs.flatMap eC).map λw=>PV.tup (w.map tv))=SL,(gs.flatMap cX).map cJ=RL,(iE dC (gs.flatMap cX)).map cJ=TL at *;have st2:(bX (bR (aT pR [] (aB (aA 0) aD))) (gN 2) EB) [some (.pv A),some (.ref S.length),none,none,none,none,none] (S++[.lst []])=.nx [some (.pv A),some (.ref S.length),y2,y3,y4,y5,y6] (S++[.lst RL]):=by
  rw[<-e2];generalize S++[SO.lst []]=S2 at *;simp! [bS,aO,aP,aR,aQ,aH,aN,bX,bR,e1,cR]
 refine tJ (v:=.pv (.tup TL)) (S':=S++[.lst RL]) rfl ?_ (by simp[kJ]);apply sq;simp! [bS,aO,aP,aR,aQ,aH,aN,eT,kK];exact⟨rfl,rfl⟩;apply sq;exact st2;simp! [bS,aO,aP,aR,aQ,aH,aN,sR,e3,e4]
abbrev yT:MS:=(dE (aT pS [] (aB (aA 1) (aB (aA 4) (aB (aC aE (aA 3) (aC eE (aA 5) (mC (.int 1)))) (aB (aC aE (aA 3) (aA 5)) (aB (mC (.int 1)) aD)))))))
theorem acT{k l:Nat}(A:SO)(x0 x2 x5:BG){w:AY}(t:We k w){R:List (AY×(Int×Int))}(hl:R.length<80000)(h:∀r∈R,Fq (2*k+1) r.2)(hm:∀j,(bB (R++fH w) j).length<=l)(hk:1+l*(2*k+2)+2*k+2<=7000):∃y5,(bX (dB (aB (mC (.int 3)) aD)) (gN 5) yT) [x0,some (.ref 1),x2,some (.pv (.tup (w.map tv))),some (.pv (tv (aV (cB w)))),x5] [A,.dic true (bI kE R)]=.nx [x0,some (.ref 1),x2,some (.pv (.tup (w.map tv))),some (.pv (tv (aV (cB w)))),y5] [A,.dic true (bI kE (R++fH w))]:=by
 have m0':aV (cB w)≠[]:=t.wd.ln;have ts:=t.sd;obtain⟨a,b,c,rfl⟩:=t.ln;have s3:=ts (c,a) (by simp[iH]);have s1:=ts (a,b) (by simp[iH]);have s2:=ts (b,c) (by simp[iH]);have er:R++fH [a,b,c]=((R++[eR (aV (cB [a,b,c])) c a])++[eR (aV (cB [a,b,c])) a b])++[eR (aV (cB [a,b,c])) b c]:=by simp[fH,iH]
 rw[er]at hm⊢;clear ts t er;generalize aV (cB [a,b,c])=m at *;have lm:∀(P Q:List (AY×(Int×Int))),(∀j,(bB (P++Q) j).length<=l)->∀j,(bB P j).length<=l:=λP Q z j=>by
  have:=z j;rw[wE,bh]at this;omega
 have m2:=lm _ _ hm;have m1:=lm _ _ m2;have m0:=lm _ _ m1;have h1:∀r∈R++[eR m c a],Fq (2*k+1) r.2:=λr hr=>by
  rcases cq.mp hr with z |z
  .exact h r z
  .have:r=eR m c a:=by simpa using z
   rw[this];exact s3.fq
 have h2:∀r∈(R++[eR m c a])++[eR m a b],Fq (2*k+1) r.2:=λr hr=>by
  rcases cq.mp hr with z |z
  .exact h1 r z
  .have:r=eR m a b:=by simpa using z
   rw[this];exact s1.fq
 have e1:=s3.ps A m R l m0' (by omega) h (m0 _) hk;have e2:=s1.ps A m (R++[eR m c a]) l m0' (by simp;omega) h1 (m1 _) hk;have e3:=s2.ps A m ((R++[eR m c a])++[eR m a b]) l m0' (by simp;omega) h2 (m2 _) hk;have f0:aE (.tup ([a,b,c].map tv)) (.int (-1))=some (tv c):=rfl;have f1:aE (.tup ([a,b,c].map tv)) (.int 0)=some (tv a):=rfl;have f2:aE (.tup ([a,b,c].map tv)) (.int 1)=some (tv b):=rfl;have f3:aE (.tup ([a,b,c].map tv)) (.int 2)=some (tv c):=rfl;have rg:=pK [A,.dic true (bI kE R)] (n:=3) (by decide);have i3:dA 0 3=[.int 0,.int 1,.int 2]:=rfl;rw[i3]at rg;have c3:((3:Nat):Int)=3:=rfl;rw[c3]at rg;refine⟨some (.pv (.int 2)),?_⟩;clear hm m0 m1 m2 h h1 h2 lm;generalize PV.tup ([a,b,c].map tv)=P1,bI kE R=D0,bI kE (R++[eR m c a])=D1,bI kE ((R++[eR m c a])++[eR m a b])=D2,bI kE (((R++[eR m c a])++[eR m a b])++[eR m b c])=D3 at *;dsimp only at e1 e2 e3;generalize tv m=TM,tv c=TC,tv b=TB,tv a=TA at *;simp! [bS,aO,aP,aR,aQ,aH,aN,bX,dB,rg,eZ,gM,gN,yT,f0,f1,f2,f3,e1,e2,e3]
abbrev kQ:MS:=(aK (aZ 4 (aC aE (aT oB [] (aB (aA 3) aD)) (mC (.int 0)))) (bX (dB (aB (mC (.int 3)) aD)) (gN 5) yT))
theorem Rn{k l:Nat}(A:SO)(x0 x2:BG):∀(L:AZ)(R:List (AY×(Int×Int)))(x3 x4 x5:BG),(∀w∈L,We k w)->R.length+3*L.length<70000->(∀r∈R,Fq (2*k+1) r.2)->(∀j,(bB (R++L.flatMap fH) j).length<=l)->1+l*(2*k+2)+2*k+2<=7000->∃y3 y4 y5,cV [] (gN 3) kQ (L.map λw=>PV.tup (w.map tv)) [x0,some (.ref 1),x2,x3,x4,x5] [A,.dic true (bI kE R)]=.nx [x0,some (.ref 1),x2,y3,y4,y5] [A,.dic true (bI kE (R++L.flatMap fH))]
 |[],R,x3,x4,x5,_,_,_,_,_=>⟨x3,x4,x5,by simpa using gM⟩
 |w::L,R,x3,x4,x5,h,hl,hf,hm,hk=>by
  have t:=h w bf;rw[ni,<-jx]at hm⊢;rw[ca]at hl;have l3:(fH w).length=3:=by
   obtain⟨p,q,r,rfl⟩:=t.ln;rfl
  have e1:=t.wd.sh [A,.dic true (bI kE R)];have e1:oB [.pv (.tup (w.map tv))] [A,.dic true (bI kE R)]=.ok (.pv (.tup [tv (aV (cB w)),fv (kX w).2])) [A,.dic true (bI kE R)]:=e1;obtain⟨y5,e2⟩:=acT A x0 x2 x5 t (R:=R) (by omega) hf (λj=>by
   have:=hm j;rw[wE,bh]at this;omega) hk
  obtain⟨z3,z4,z5,ih⟩:=Rn A x0 x2 L (R++fH w) (some (.pv (.tup (w.map tv)))) (some (.pv (tv (aV (cB w))))) y5 (λv hv=>h v (bn _ hv)) (by rw[bh,l3];omega) (λr hr=>by
   rcases cq.mp hr with z |z
   .exact hf r z
   .obtain⟨y,hy,rfl⟩:=dg.mp z
    exact(t.sd y hy).fq) hm hk
  refine⟨z3,z4,z5,?_⟩;rw[aw,eZ];generalize (L.map λw=>PV.tup (w.map tv))=LL,PV.tup (w.map tv)=P1,tv (aV (cB w))=T1,fv (kX w).2=F1,bI kE R=D0,bI kE (R++fH w)=D1,bI kE (R++fH w++L.flatMap fH)=D2 at *;have i0:aE (.tup [T1,F1]) (.int 0)=some T1:=rfl;have st:kQ [x0,some (.ref 1),x2,some (.pv P1),x4,x5] [A,.dic true D0]=.nx [x0,some (.ref 1),x2,some (.pv P1),some (.pv T1),y5] [A,.dic true D1]:=by
   unfold kQ;generalize (bX (dB (aB (mC (.int 3)) aD)) (gN 5) yT)=SB at *;apply sq;simp! [bS,aO,aP,aR,aQ,aH,aN,e1,i0];exact⟨rfl,rfl⟩;exact e2
  generalize kQ=SB at *;simp[gN,st,ih]
theorem Zp{k l:Nat}(A:SO)(x0:BG):∀(gs:AZ)(R:List (AY×(Int×Int)))(x2 x3 x4 x5:BG),(∀u∈gs,pM k u)->R.length+12*gs.length<60000->(∀r∈R,Fq (2*k+1) r.2)->(∀j,(bB (R++gs.flatMap cX) j).length<=l)->1+l*(2*k+2)+2*k+2<=7000->∃y2 y3 y4 y5,cV [] (gN 2) (bX (bR (aT lD [] (aB (aA 2) aD))) (gN 3) kQ) (gs.map px) [x0,some (.ref 1),x2,x3,x4,x5] [A,.dic true (bI kE R)]=.nx [x0,some (.ref 1),y2,y3,y4,y5] [A,.dic true (bI kE (R++gs.flatMap cX))]
 |[],R,x2,x3,x4,x5,_,_,_,_,_=>⟨x2,x3,x4,x5,by simpa using gM⟩
 |u::gs,R,x2,x3,x4,x5,h,hl,hf,hm,hk=>by
  have t:=h u bf;rw[ni,<-jx]at hm⊢;rw[ca]at hl;have lr:(eC u).length<=4:=by
   unfold eC;split<;>simp
  have ls:(cX u).length=12:=by
   obtain⟨a,b,c,d,rfl⟩:=t.is;rfl
  have e0:=F3 t.is [A,.dic true (bI kE R)];obtain⟨y3,y4,y5,e1⟩:=Rn A x0 (some (.pv (px u))) (eC u) R x3 x4 x5 t.we (by omega) hf (λj=>by
   have:=hm j;rw[wE,bh]at this;show(bB (R++cX u) j).length<=l;omega) hk
  obtain⟨z2,z3,z4,z5,ih⟩:=Zp A x0 gs (R++cX u) (some (.pv (px u))) y3 y4 y5 (λv hv=>h v (bn _ hv)) (by rw[bh,ls];omega) (λr hr=>by
   rcases cq.mp hr with z |z
   .exact hf r z
   .obtain⟨w,hw,z⟩:=zh.mp z
    obtain⟨y,hy,rfl⟩:=dg.mp z;exact((t.we w hw).sd y hy).fq) hm hk
  refine⟨z2,z3,z4,z5,?_⟩;have e1:cV [] (gN 3) kQ ((eC u).map λw=>PV.tup (w.map tv)) [x0,some (.ref 1),some (.pv (px u)),x3,x4,x5] [A,.dic true (bI kE R)]=.nx [x0,some (.ref 1),some (.pv (px u)),y3,y4,y5] [A,.dic true (bI kE (R++cX u))]:=e1;rw[aw,eZ];generalize gs.map px=GL,px u=P1,((eC u).map λw=>PV.tup (w.map tv))=WL,bI kE R=D0,bI kE (R++cX u)=D1,bI kE (R++cX u++gs.flatMap cX)=D2 at *;have st:(bX (bR (aT lD [] (aB (aA 2) aD))) (gN 3) kQ) [x0,some (.ref 1),some (.pv P1),x3,x4,x5] [A,.dic true D0]=.nx [x0,some (.ref 1),some (.pv P1),y3,y4,y5] [A,.dic true D1]:=by
   generalize kQ=SB at *;simp! [bS,aO,aP,aR,aQ,aH,aN,bX,bR,e0,cR,e1]
  generalize (bX (bR (aT lD [] (aB (aA 2) aD))) (gN 3) kQ)=SB at *;simp[gN,st,ih]
theorem L6{k:Nat}(A:SO){gs:AZ}(h:∀u∈gs,pM k u)(hl:gs.length<=4)(hk:1+4*(2*k+2)+2*k+2<=7000):uL [.pv (.lst (gs.map px))] [A]=.ok (.ref 1) [A,.dic true (bI kE (gs.flatMap cX))]:=by
 obtain⟨y2,y3,y4,y5,e⟩:=Zp (l:=4) A (some (.pv (.lst (gs.map px)))) gs [] none none none none h (by show 0+12*_<_;omega) (λ_ h=>(nomatch h)) (λj=>by
  rw[jy];have:=Ib cX gs j λu hu=>(h u hu).nd;omega) hk
 have p0:bI kE ([]:List (AY×(Int×Int)))=[]:=rfl;rw[p0,jy]at e;have hb:zB=(aK (aZ 1 (tI true)) (aK (bX (bR (aA 0)) (gN 2) (bX (bR (aT lD [] (aB (aA 2) aD))) (gN 3) kQ)) (bG (aA 1)))):=rfl;unfold uL;rw[hb];generalize gs.map px=GL,(bX (bR (aT lD [] (aB (aA 2) aD))) (gN 3) kQ)=SB,bI kE (gs.flatMap cX)=D1 at *;refine tJ (v:=.ref 1) (S':=[A,.dic true D1]) rfl ?_ (by simp[kJ]);apply sq;simp! [bS,aO,aP,aR,aQ,aH,aN,tI];exact⟨rfl,rfl⟩;apply sq;simp! [bS,aO,aP,aR,aQ,aH,aN,bX,bR,cR,e];exact⟨rfl,rfl⟩;simp! [bS,aO,aP,aR,aQ,aH,aN]
theorem E1(ns:AX)(h:ns.length<=63):∃S,Ce [.pv (.lst (ns.map .int))] []=.ok (.pv (.bl true)) S:=by
 obtain⟨ms,e0,_⟩:=abQ ns [] h;have e0:sP [.pv (.lst (ns.map .int))] []=.ok (.ref 0) [.lst (li ms)]:=e0;obtain⟨hs,n1,e1,l1,r1⟩:=Nw (n:=3) (.inr rfl) (M:=4) (by decide) ms;have e1:rS [.ref 0,.pv (.int 3),.pv (.int 4)] [.lst (li ms)]=.ok (.ref 1) [.lst (li n1),.lst (hs.map cM)]:=e1;obtain⟨gs,n2,e2,l2,r2⟩:=U5 n1 r1 l1;have t:∀u∈gs,pM 201 u:=λu hu=>abd (by decide) (r2 u hu);have e3:=L6 (.lst (li n2)) t l2 (by decide);obtain⟨i1,i2,_⟩:=Dm t;have e4:=W6 (k:=2*201+1) (.lst (li n2)) (R:=gs.flatMap cX) (by
  have:=vZ (gs.flatMap cX);omega) (λz=>by
  obtain⟨r,hr,e⟩:=((jY _).2 _).mp z;exact(i2 r hr).2 e) λr hr=>(i2 r hr).1
 obtain⟨B,n3,e5,hB⟩:=M5 (S:=[.lst (li n2),.dic true (bI kE (gs.flatMap cX))]) (k:=0) (ns:=n2) (L:=gs.map px) rfl;have e5:pX [.ref 0,.pv (.lst (gs.map px))] [.lst (li n2),.dic true (bI kE (gs.flatMap cX))]=.ok (.pv B) [.lst (li n3),.dic true (bI kE (gs.flatMap cX))]:=e5;have e6:=Qc (k:=201) (by decide) [.lst (li n3),.dic true (bI kE (gs.flatMap cX))] hB t l2;have tr:∀u∈gs.reverse,pM 201 u:=λu hu=>t u (List.mem_reverse.mp hu);have e7:=Qc (k:=201) (A:=.tup (gs.reverse.map px)) (by decide) [.lst (li n3),.dic true (bI kE (gs.flatMap cX))] (.inr rfl) tr (by rw[List.length_reverse];exact l2);have q2:iE dC (gs.reverse.flatMap cX)=iE dC (gs.flatMap cX):=Tz vH (List.Perm.flatMap_right cX (List.reverse_perm gs)) λr hr=>(i2 r hr).1;rw[q2]at e7;have e8:=Qc (k:=201) (gs:=[]) (A:=.lst []) (by decide) [.lst (li n3),.dic true (bI kE (gs.flatMap cX))] (.inl rfl) (λ_ h=>(nomatch h)) (by decide);have e8:oE [.pv (.lst [])] [.lst (li n3),.dic true (bI kE (gs.flatMap cX))]=.ok (.pv (.tup [])) [.lst (li n3),.dic true (bI kE (gs.flatMap cX))]:=e8;have a1:=Bi [.lst (li n3),.dic true (bI kE (gs.flatMap cX))] (iE dC (gs.flatMap cX));have a2:=Bi [.lst (li n3),.dic true (bI kE (gs.flatMap cX))] [];have a2:oK [.pv (.tup []),.pv (.tup [])] [.lst (li n3),.dic true (bI kE (gs.flatMap cX))]=.ok (.pv (.bl true)) [.lst (li n3),.dic true (bI kE (gs.flatMap cX))]:=a2;have pr:=N7 (gs.map px) (by rw[ao];omega);rw[<-List.map_reverse]at pr;clear i1 i2 q2 t tr hB r1 r2 l1 l2;refine⟨[],?_⟩;unfold Ce Le;generalize ns.map PV.int=NL,hs.map cM=HL,gs.map px=GL,gs.reverse.map px=RL,bI kE (gs.flatMap cX)=D1,(iE dC (gs.flatMap cX)).map cJ=TL at *;refine tJ (v:=.pv (.bl true)) (S':=[.lst (li n3),.dic true D1]) rfl ?_ rfl;apply sq;simp! [bS,aO,aP,aR,aQ,aH,aN,e0];exact⟨rfl,rfl⟩;apply sq;simp! [bS,aO,aP,aR,aQ,aH,aN,e1,e2];exact⟨rfl,rfl⟩;apply sq;simp! [bS,aO,aP,aR,aQ,aH,aN,e3,e4];exact⟨rfl,rfl⟩;apply sq;simp! [bS,aO,aP,aR,aQ,aH,aN,e5,e6,a1];exact⟨rfl,rfl⟩;simp! [bS,aO,aP,aR,aQ,aH,aN,mI,Ye,eA,iO,pr,e7,e8,a1,a2]
theorem hF_k{K:ag}{x:Str}{st:Stmt}{f:Addr}{oc:Value}{od an:BC}{osl:Array BB}{kV doc pm cdv ct:Value}(a:dz K mainGlobals x=some (some (.ref f)):=by k_is)(l:K.lookup f=some ⟨oc,od,.func (fg x x (hJ st) (eV st) (cU st) .none kV doc pm an cdv ct),osl⟩:=by k_is)(c:ka K cdv x=true:=by k_is)(k:ie K (.ref f)=true:=by k_is):HF K x st:=acf a l c k
theorem all_mk{l:oh}{w:am}{K:ag}{h:Heap}{mg:Str->BB}{fa:Addr}(X:K.In h)(G:h.Ns mainGlobals mg)(hfa:mg "law"=some (.ref fa))
  (h28:HF K "_law_row" Iq)
  (h29:HF K "_law_take" Vp)
  (h30:HF K "_law_gcd" Jr)
  (h31:HF K "_law_lowest" Ui)
  (h48:HF K "_law_far" Rr)
  (h39:HF K "_law_dot" Cr)
  (h38:HF K "_law_cross" Yl)
  (h40:HF K "_law_turn" Lo)
  (h37:HF K "_law_gap" Aq)
  (h41:HF K "_law_det" Fr)
  (h42:HF K "_law_simplex" Pi)
  (h36:HF K "_law_joined" Tj)
  (h50:HF K "_law_spot" Zn)
  (h51:HF K "_law_laid" Cp)
  (h34:HF K "_law_frac" Mn)
  (h49:HF K "_law_stretch" Sh)
  (h60:HF K "_law_wide_far" Wg)
  (h45:HF K "_law_raw_turn" Ch)
  (h44:HF K "_law_raw" Xq)
  (h46:HF K "_law_kuhn" To)
  (h47:HF K "_law_raw_heap" Yg)
  (h55:HF K "_law_told_sums" Jg)
  (h43:HF K "_law_shuts" Pm)
  (h32:HF K "_law_upward" Sj)
  (h53:HF K "_law_way_of" Ri)
  (h57:HF K "_law_shut_share" Eg)
  (h35:HF K "_law_sum" Gr)
  (h54:HF K "_law_put_sum" Ai)
  (h56:HF K "_law_put_side" Bh)
  (h58:HF K "_law_edge_table" Bg)
  (h33:HF K "_law_whole" El)
  (h59:HF K "_law_alike" oM)
  (h17:HF K "walls" Kn)
  (h25:HF K "all_walls" Hh)
  (h13:HF K "normal" Ol)
  (h12:HF K "whole_arrow" Gg)
  (h5:HF K "divisor" Ek)
  (h6:HF K "reduced" Jk)
  (h4:HF K "sign" Kr)
  (h7:HF K "lowest_way" Rg)
  (h21:HF K "along" Ho)
  (h23:HF K "wall_share" Qg)
  (h19:HF K "sides" Fo)
  (h22:HF K "side_share" Vg)
  (h9:HF K "plus" Ur)
  (h10:HF K "total" Wo)
  (h24:HF K "summed" Kk)
  (h26:HF K "edge_sums" Dh)
  (h52:HF K "_law_handed" Xi)
  {f8:Addr}{od8 an8:BC}{sl8:Array BB}{oc8 kV8 dc8 pm8 cd8 ct8:Value}
  {T8:Addr}{tc8:Value}{td8:BC}{tl8:Array BB}{tn8:Nat}{tt8:cv}
  (a8:dz K mainGlobals "fraction"=some (some (.ref f8)))(l8:K.lookup f8=some ⟨oc8,od8,.func (fg "fraction" "fraction" (hJ rX) (eV rX) (cU rX) (.ref T8) kV8 dc8 pm8 an8 cd8 ct8),sl8⟩)(c8:ka K cd8 "fraction"=true)(k8:ie K (.ref f8)=true)
  (t8:K.lookup T8=some ⟨tc8,td8,.seq #[.int 1 tt8] tn8,tl8⟩)
  {f61:Addr}{od61 an61:BC}{sl61:Array BB}{oc61 kV61 dc61 pm61 cd61 ct61:Value}
  (a61:dz K mainGlobals "law"=some (some (.ref f61)))(l61:K.lookup f61=some ⟨oc61,od61,.func (fg "law" "law" (hJ nO) (eV nO) (cU nO) .none kV61 dc61 pm61 an61 cd61 ct61),sl61⟩)(c61:ka K cd61 "law"=true)(k61:ie K (.ref f61)=true)
  (z1:dz K mainGlobals "abs"=some none)
  (z2:dz K mainGlobals "all"=some none)
  (z3:dz K mainGlobals "bool"=some none)
  (z4:dz K mainGlobals "enumerate"=some none)
  (z5:dz K mainGlobals "int"=some none)
  (z6:dz K mainGlobals "isinstance"=some none)
  (z7:dz K mainGlobals "len"=some none)
  (z8:dz K mainGlobals "list"=some none)
  (z9:dz K mainGlobals "range"=some none)
  (z10:dz K mainGlobals "sorted"=some none)
  (z11:dz K mainGlobals "sum"=some none)
  (z12:dz K mainGlobals "tuple"=some none)
  (z13:dz K mainGlobals "zip"=some none)
  {C1:Addr}
  (y1:dz K mainGlobals "NoNumber"=some (some (.ref C1)))(x1:my K C1 sT "ValueError.__new__"=true)
  {gk1:cv}
  {gk2:cv}
  {GA2:Addr}{gd2:BC}{gn2:Nat}{gs2:Array BB}
  {gk3:cv}
  {gk4:cv}
  {GA3:Addr}{gd3:BC}{gn3:Nat}{gs3:Array BB}
  {gk5:cv}
  {gk6:cv}
  {GA4:Addr}{gd4:BC}{gn4:Nat}{gs4:Array BB}
  {GA1:Addr}{gd1:BC}{gn1:Nat}{gs1:Array BB}
  {gk7:cv}
  {gk8:cv}
  {gk9:cv}
  {GA6:Addr}{gd6:BC}{gn6:Nat}{gs6:Array BB}
  {gk10:cv}
  {gk11:cv}
  {gk12:cv}
  {GA7:Addr}{gd7:BC}{gn7:Nat}{gs7:Array BB}
  {gk13:cv}
  {gk14:cv}
  {gk15:cv}
  {GA8:Addr}{gd8:BC}{gn8:Nat}{gs8:Array BB}
  {gk16:cv}
  {gk17:cv}
  {gk18:cv}
  {GA9:Addr}{gd9:BC}{gn9:Nat}{gs9:Array BB}
  {GA5:Addr}{gd5:BC}{gn5:Nat}{gs5:Array BB}
  (v1:dz K mainGlobals "FLAT_WALLS"=some (some (.ref GA1)))
  (v2:dz K mainGlobals "SPACE_WALLS"=some (some (.ref GA5)))
  (vl1:K.lookup GA1=some ⟨.type "tuple",gd1,.seq #[.ref GA2,.ref GA3,.ref GA4] gn1,gs1⟩)
  (vl2:K.lookup GA2=some ⟨.type "tuple",gd2,.seq #[.int 0 gk1,.int 1 gk2] gn2,gs2⟩)
  (vl3:K.lookup GA3=some ⟨.type "tuple",gd3,.seq #[.int 1 gk3,.int 2 gk4] gn3,gs3⟩)
  (vl4:K.lookup GA4=some ⟨.type "tuple",gd4,.seq #[.int 2 gk5,.int 0 gk6] gn4,gs4⟩)
  (vl5:K.lookup GA5=some ⟨.type "tuple",gd5,.seq #[.ref GA6,.ref GA7,.ref GA8,.ref GA9] gn5,gs5⟩)
  (vl6:K.lookup GA6=some ⟨.type "tuple",gd6,.seq #[.int 1 gk7,.int 2 gk8,.int 3 gk9] gn6,gs6⟩)
  (vl7:K.lookup GA7=some ⟨.type "tuple",gd7,.seq #[.int 0 gk10,.int 3 gk11,.int 2 gk12] gn7,gs7⟩)
  (vl8:K.lookup GA8=some ⟨.type "tuple",gd8,.seq #[.int 0 gk13,.int 1 gk14,.int 3 gk15] gn8,gs8⟩)
  (vl9:K.lookup GA9=some ⟨.type "tuple",gd9,.seq #[.int 0 gk16,.int 2 gk17,.int 1 gk18] gn9,gs9⟩)
  :∃fd:ck,(∀(s:aa)(v:Value),ny s fd ⟨[v],[]⟩ [("_law_script",v)])/\∀base:Heap,K.In base->base.Ns mainGlobals mg->eO l.prog w K mg base fI 8 fa fd ["_law_script"] (xR K):=by
 let cl:Str->Addr:=λn=>if n="NoNumber" then C1 else 0
 have e:=hfa.symm.trans (ox X G a61);cases e;have F8:=V7 (st:=rX) l8 c8 k8 t8 rfl;have b8:=F8.binds (ps:=["top","bottom"]) (dd:=[]) λ_ _ _ _ _ _ _ us hl=>match us,hl with |[_,_],_=>⟨_,rfl,rfl⟩
 have n8:=ox X G a8;have F61:=Mq (st:=nO) l61 c61 k61;have m:Mg mg:=⟨jg X G z1,jg X G z2,jg X G z3,jg X G z4,jg X G z5,jg X G z6,jg X G z7,jg X G z8,jg X G z9,jg X G z10,jg X G z11,jg X G z12,jg X G z13⟩;have gt_FLAT_WALLS:uJ K mg "FLAT_WALLS" (.tup [.tup [.int 0,.int 1],.tup [.int 1,.int 2],.tup [.int 2,.int 0]]):=⟨_,.ref GA1,ox X G v1,rfl,(lY (vs:=[.ref GA2,.ref GA3,.ref GA4]) vl1 (by show 3<=fx;decide) (.cons rfl (.cons rfl (.cons rfl .nil))) (by show 3<=fx;decide) (fB (lY (vs:=[.int 0,.int 1]) vl2 (by show 2<=fx;decide) (.cons ⟨_,rfl⟩ (.cons ⟨_,rfl⟩ .nil)) (by show 2<=fx;decide) (fB gS (fB gS lX))) (fB (lY (vs:=[.int 1,.int 2]) vl3 (by show 2<=fx;decide) (.cons ⟨_,rfl⟩ (.cons ⟨_,rfl⟩ .nil)) (by show 2<=fx;decide) (fB gS (fB gS lX))) (fB (lY (vs:=[.int 2,.int 0]) vl4 (by show 2<=fx;decide) (.cons ⟨_,rfl⟩ (.cons ⟨_,rfl⟩ .nil)) (by show 2<=fx;decide) (fB gS (fB gS lX))) lX))))⟩;have gt_SPACE_WALLS:uJ K mg "SPACE_WALLS" (.tup [.tup [.int 1,.int 2,.int 3],.tup [.int 0,.int 3,.int 2],.tup [.int 0,.int 1,.int 3],.tup [.int 0,.int 2,.int 1]]):=⟨_,.ref GA5,ox X G v2,rfl,(lY (vs:=[.ref GA6,.ref GA7,.ref GA8,.ref GA9]) vl5 (by show 4<=fx;decide) (.cons rfl (.cons rfl (.cons rfl (.cons rfl .nil)))) (by show 4<=fx;decide) (fB (lY (vs:=[.int 1,.int 2,.int 3]) vl6 (by show 3<=fx;decide) (.cons ⟨_,rfl⟩ (.cons ⟨_,rfl⟩ (.cons ⟨_,rfl⟩ .nil))) (by show 3<=fx;decide) (fB gS (fB gS (fB gS lX)))) (fB (lY (vs:=[.int 0,.int 3,.int 2]) vl7 (by show 3<=fx;decide) (.cons ⟨_,rfl⟩ (.cons ⟨_,rfl⟩ (.cons ⟨_,rfl⟩ .nil))) (by show 3<=fx;decide) (fB gS (fB gS (fB gS lX)))) (fB (lY (vs:=[.int 0,.int 1,.int 3]) vl8 (by show 3<=fx;decide) (.cons ⟨_,rfl⟩ (.cons ⟨_,rfl⟩ (.cons ⟨_,rfl⟩ .nil))) (by show 3<=fx;decide) (fB gS (fB gS (fB gS lX)))) (fB (lY (vs:=[.int 0,.int 2,.int 1]) vl9 (by show 3<=fx;decide) (.cons ⟨_,rfl⟩ (.cons ⟨_,rfl⟩ (.cons ⟨_,rfl⟩ .nil))) (by show 3<=fx;decide) (fB gS (fB gS (fB gS lX)))) lX)))))⟩;refine⟨fg "law" "law" (hJ nO) (eV nO) (cU nO) .none kV61 dc61 pm61 an61 cd61 ct61,λs v=>.of_eq rfl,λbase _ _=>?_⟩
 let B:Bx:=⟨l.prog,w,K,mg,base,cl⟩
 have Xg:XG B.K B.mg:=⟨h,X,G⟩;have m:Mg B.mg:=m;have q_NoNumber:B.mg "NoNumber"=some (.ref (B.cl "NoNumber")):=ox X G y1;have x_NoNumber:my B.K (B.cl "NoNumber") sT "ValueError.__new__"=true:=x1;have C28:=V5 Xg m h28;have C29:=B4 Xg m h29;have C30:=Q5 Xg m h30;have C31:=Cy Xg m h31 C30;have C48:=aaE Xg m h48 C29 C31;have C39:=aaa Xg m h39;have C38:=Kz Xg m h38;have C40:=O0 Xg m h40 C39 C38;have C37:=aaG Xg m h37;have C41:=P8 Xg m h41 C40 C37;have C42:=Jw Xg m h42 C41;have C36:=Hy Xg m h36 C31;have C50:=G5 Xg m h50 C31;have C51:=D5 Xg m h51 C48 C42 C36 C50;have C34:=C0 Xg m h34 C31;have C49:=Iw Xg m h49 C29 C34;have C60:=Dw Xg m h60 C51 C49;have C45:=Uv Xg m h45 C40;have C44:=aat Xg m h44 C29 C45;have C46:=H0 Xg m h46 C29;have C47:=Xv Xg m h47 C29 C44 C46;have C55:=Ov Xg m h55;have C43:=Qy Xg m h43;have C32:=Qx Xg m h32 C31;have C53:=Fx Xg m h53 C32;have C57:=Bv Xg m h57 C53 C38 C37 C34;have C35:=Y6 Xg m h35 C34;have C54:=Xw Xg m h54 C35;have C56:=Bw Xg m h56 C53 C37 C54 C34;have C58:=Xu Xg m h58 C43 C57 C56;have C33:=A0 Xg m h33;have C59:=Sy Xg m h59 C33;have C17:=K9 Xg m h17 gt_FLAT_WALLS gt_SPACE_WALLS;have C25:=Zv Xg m h25 C17;have C13:=Jz Xg m h13;have C12:=Yu Xg m h12;have C5:=Lx Xg m h5;have C6:=Iy Xg m h6 C5;have C4:=V9 Xg m h4;have C7:=Jv Xg m h7 C6 C4;have G8:=Ow Xg m F8 C4 C5 q_NoNumber x_NoNumber;have H8:zK B:=adu G8 b8 k8 n8;have C21:=J5 Xg m h21 C7 H8;have C23:=Kv Xg m h23 C13 C12 C21;have C19:=B9 Xg m h19;have C22:=Ev Xg m h22 C21 C12;have C9:=aau Xg m h9 H8;have C10:=N9 Xg m h10 C9;have C24:=Wz Xg m h24 C10;have C26:=Vv Xg m h26 C25 C23 C19 C22 C24;have C52:=Yx Xg m h52 C29;exact(ab0 Xg m F61 C28 C60 C47 C55 C58 C59 C26 C52).imp λvs H Q E h=>Q9 E1 h
theorem walk{l:oh}{q:Program}{loose:List Str}{XP:(Str->BB)->Heap->Prop}{YP:am->Heap->Prop}{d:DefRec}{K:nj->ag}(hn:l.most=some 63)(hdf:d.params.defaults=[])
  (hY:∀(w:am)(h:Heap),YP w h->(K w.params).In h)
  (F:∀(w:am)(mg:Str->BB)(fa:Addr)(h:Heap),(K w.params).In h->h.Ns mainGlobals mg->mg d.name=some (.ref fa)->
   ∃fd:ck,(∀(s:aa)(u:Value),ny s fd ⟨[u],[]⟩ [("_law_script",u)])/\∀base:Heap,(K w.params).In base->base.Ns mainGlobals mg->eO l.prog w (K w.params) mg base fI 8 fa fd ["_law_script"] (xR (K w.params))):
  PySem.W.WalkO q loose XP YP l.row.toRowW d [] (λf vs=>wz f vs):=
 L2.walk_of (n:=63) (k:=8) (x:="_law_script") (CX:=λ_=>fI) (sp:=λw=>xR (K w.params)) hn (by decide) hdf ⟨rfl,by decide,by decide⟩ hY F (λ_ _ a ns hl _ hS=>⟨a,ns,rfl,hS,hl,λ_=>rfl⟩) λ_ _ _ _ _ z=>z
end
end Sc
open PySem PySem.W PyProof.Rows
set_option maxRecDepth 100000 in
set_option maxHeartbeats 0 in
theorem PySem.Challenge.cw_scissorhall_k46_edge_sums_holds : PySem.Challenge.rw_scissorhall_k46_edge_sums.Holds := by
 w_on; refine holds_law Sc.wsaid λsaid=>?_
 refine holds_open (q:=Sc.VW) (loose:=[io "fraction"]) (Xt:=λs=>xlAt Sc.VW [] s && recOk (RowW.records (zi (zj re))) s) (XP:=XL Sc.VW []) (Yf:=Hook.obs (kHook Sc.KK Sc.KA Sc.KE)) (Ya:=Hook.val (kHook Sc.KK Sc.KA Sc.KE)) (YP:=Hook.says (kHook Sc.KK Sc.KA Sc.KE)) (N:=4138) Sc.left (Hook.of (kHook Sc.KK Sc.KA Sc.KE)) (Hook.keeps (kHook Sc.KK Sc.KA Sc.KE)) (λs e=>xl_of s (yq.mp e).1) XL.keeps (by rfl) (by rfl) (by rfl) (λs e=>recFacts_of (yq.mp e).2) (by rfl) (by first | assumption | decide +kernel) (by decide +kernel) ⟨rfl,rfl,rfl,rfl,rfl,by decide +kernel⟩ ?hw ?hc
 case hw=>w_witness2
 k_fill
 refine Sc.walk (l:=re) rfl rfl (λw h Y=>PySem.W.kIn_of Y) ?F
 case F =>
  intro w mg fa h KX G hmg;refine' Sc.all_mk KX G hmg Sc.hF_k Sc.hF_k Sc.hF_k Sc.hF_k Sc.hF_k Sc.hF_k Sc.hF_k Sc.hF_k Sc.hF_k Sc.hF_k Sc.hF_k Sc.hF_k Sc.hF_k Sc.hF_k Sc.hF_k Sc.hF_k Sc.hF_k Sc.hF_k Sc.hF_k Sc.hF_k Sc.hF_k Sc.hF_k Sc.hF_k Sc.hF_k Sc.hF_k Sc.hF_k Sc.hF_k Sc.hF_k Sc.hF_k Sc.hF_k Sc.hF_k Sc.hF_k Sc.hF_k Sc.hF_k Sc.hF_k Sc.hF_k Sc.hF_k Sc.hF_k Sc.hF_k Sc.hF_k Sc.hF_k Sc.hF_k Sc.hF_k Sc.hF_k Sc.hF_k Sc.hF_k Sc.hF_k Sc.hF_k Sc.hF_k ?a8 ?l8 ?c8 ?k8 ?t8 ?a61 ?l61 ?c61 ?k61 ?z1 ?z2 ?z3 ?z4 ?z5 ?z6 ?z7 ?z8 ?z9 ?z10 ?z11 ?z12 ?z13 ?y1 ?x1 ?v1 ?v2 ?vl1 ?vl2 ?vl3 ?vl4 ?vl5 ?vl6 ?vl7 ?vl8 ?vl9
  (case a8 | l8 | c8 | k8 | t8 | a61 | l61 | c61 | k61 | z1 | z2 | z3 | z4 | z5 | z6 | z7 | z8 | z9 | z10 | z11 | z12 | z13 | y1=>k_is)
  (case x1=>k_exc)
  (case v1 | v2 | vl1 | vl2 | vl3 | vl4 | vl5 | vl6 | vl7 | vl8 | vl9=>k_is)
#print axioms PySem.Challenge.cw_scissorhall_k46_edge_sums_holds
