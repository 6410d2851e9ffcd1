import PyProof.Rows.All
import KE.KFromBytes
import KE.KIsAll
import PyProof.EqAt
import PyProof.EqKinds
import PyProof.TupleCall
import PyProof.ZipIter
import PyProof.Draws
import PyProof.CompFree
import PyProof.NeKinds
import PyProof.NsDelKeeps
import PyProof.ExcArgsOwn
import PyProof.ExcAttrAll.ValueError
import KE.KSortTup
import PyProof.DictRoadsH
import Wide.Seal
import KE.KIntText
import PyProof.FitsReplace
import PyProof.StrWalks
import PyProof.CompMap
import KE.KDictList
import PySem.Challenge.RW_scissorhall_k65_whole_stacked
set_option Elab.async false
set_option compiler.extract_closed false
set_option bootstrap.genMatcherCode false
set_option maxRecDepth 100000
set_option maxHeartbeats 0
open Array renaming length_toList->qg,toList->uw,append_assoc->yn,getElem?_toList->zk,forIn_toList->d7,getElem?_eq_getElem->l0
open Bool renaming false_ne_true->ie,and_eq_true->jd,eq_iff_iff->re,and_eq_true_iff->yb,not_eq_true'->c8,false_eq_true->i9
open Classical renaming propDecidable->sj
open Decidable renaming byContradiction->u5
open False renaming elim->jl
open ForInStep renaming yield->wp
open Function renaming comp_apply->k8
open Int renaming mul_pos->aw,gcd->ce,mul_ne_zero->cf,mul_comm->dy,zero_mul->gw,one_mul->ir,zero_sub->ji,mul_one->kg,ne_of_gt->km,toNat_natCast->ky,neg_mul->my,mul_zero->oy,mul_ediv_cancel_left->oz,mul_assoc->pf,mul_add->qc,natAbs_mul->qs,le_refl->qw,fdiv_eq_ediv_of_dvd->qx,mul_eq_zero->ue,mul_neg->wm,pos_of_mul_pos_left->wn,sub_zero->yf,neg_sub->yg,lt_trichotomy->yh,natAbs_neg->zm,natCast_nonneg->zo,gcd_mul_left->zp,natAbs_natCast->zq,gcd_zero_left->zt,fmod_nonneg_of_pos->o9,eq_of_mul_eq_mul_right->r8,mul_neg_of_pos_of_neg->t8,natCast_mul->t9,mul_le_mul_of_nonneg_right->u4,eq_of_mul_eq_mul_left->u6
open List renaming length_map->am,map_cons->aq,length_append->av,getElem?_eq_getElem->ay,size_toArray->az,mem_cons_self->bh,mem_cons_of_mem->bj,getElem?_map->bo,map_nil->br,getElem?_eq_some_iff->ca,getD->cg,zipWith->ci,range->cj,mem_append->ck,mem_cons->cq,length_cons->cr,mem_of_getElem?->cx,mem_append_right->da,getElem?_append_right->de,map_map->dh,lookup_cons->di,flatMap_cons->dm,getElem?_set_self->dq,getElem?_set_ne->dr,getElem?_append_left->du,map_congr_left->dz,map_append->ee,nil_append->eh,length_set->fe,set_cons_zero->fg,not_mem_nil->fz,mem_map->gq,getElem_mem->gr,append_nil->ig,append_assoc->ix,length_take->jm,length_zipWith->jo,prefix_rfl->jr,ext_getElem?->jt,cons_append->ju,set_cons_succ->jv,length_singleton->jz,all_eq_true->ka,map->kd,set_set->kl,getElem?_cons_zero->kn,mem_append_left->kr,nodup_cons->kx,toArray->lb,getElem_of_mem->nu,nodup_append->nv,length_drop->ow,map_id->ph,nodup_nil->pk,mem_iff_getElem?->qb,forIn_cons->qy,mem_iff_getElem->rf,ext_getElem->se,getElem?_eq_none->si,drop_eq_getElem_cons->sk,drop_length->sr,getElem?_take->sv,length_eq_zero_iff->sx,getElem?_set->sy,map_set->tj,take_of_length_le->tz,zipWith_cons_cons->ua,getElem_zipWith->ub,flatMap_nil->ud,mem_range->ur,filterMap_cons->uu,mem_filterMap->va,of_mem_zip->vg,length->vh,forIn_nil->ww,sum_cons->xi,take_length->xo,getElem_map->xv,length_nil->ye,getElem?_cons_succ->yi,mem_filter->yo,any_eq_false->yw,replicate->zb,getElem?_replicate->zd,zipIdx_cons->zz,zipIdx_nil->a6,length_range->d9,getElem?_zipWith->f7,getElem_toArray->f8,any_eq_true->i8,map_inj_right->j7,set_getElem_self->j8,eq_nil_of_length_eq_zero->k4,getD_eq_getElem?_getD->q9,zipWith_nil_left->t7,eq_replicate_of_mem->u7
open List.cons renaming injEq->dk
open Nat renaming le_refl->aj,ne_of_lt->cv,lt_of_lt_of_le->cy,zero_le->fw,sub_self->gj,le_trans->gm,lt_irrefl->iw,le_succ->kz,ne_of_gt->mf,two_pow_pos->og,le_of_lt->oj,lt_of_le_of_lt->qv,succ_le_succ->wd,le_of_eq->wk,lt_trans->wo,lt_of_succ_lt->xh,add_assoc->xj,lt_succ_self->xk,lt_succ_of_lt->xn,le_succ_of_le->xw,min_eq_left->xy,pow_le_pow_right->zl,eq_zero_or_pos->zn,exists_eq_add_of_le->d8
open Ne renaming symm->iz
open Option renaming map_some->uc,getD_none->zi,getD_some->i7
open Option.some renaming inj->bn
open Or renaming inl->ik,inr->io
open Prod renaming ext->jg
open Prod.mk renaming inj->yl
open PyProof.Rows renaming AllBare->jh,callWith_type1->oq,IntsAre->ox,slot_tuple_getitem->qo,assignInOrder_cons->uz,get?_update_seq->xq,subscriptTail_builtinR->zg
open PyProof.Rows.IsTup renaming new->qj
open PySem renaming Shared->aa,wpAny_bind->ae,Expr->ah,Pos->ai,wpAny_pure->ak,World->al,Around->ao,Env->bf,FuncData->cc,Tok->db,IsPair->dj,sizeLine->fh,wpAny_mono->fj,NameKind->fm,wpAny_field->gn,IsZip->gv,wpAny_newObj_type->ib,Paired->iu,Keyword->jb,wpAny_call_entry->jc,mem_of_lookup->jn,Draws->jp,wpAny_holding->jw,wpAny_callSpecial?_slot->jy,wpAny_seqItems->kb,CmpOp->ke,sizeLine_eq->kh,IsPart->ki,Model->ku,wpAny_passesOwn->kw,wpAny_setField->la,Params->lm,wpAny_truthy_bool->lr,wpAny_rule->ly,BindsTo->mn,wpAny_setField_rec->nj,wpAny_attempt->nr,Fin->oa,wpAny_standAt->om,PassesOwn->oo,Result->ou,wpAny_execs_nil->qh,Operator->qi,codeAny_mono->qk,concat_meets->ql,wpAny_pyIter_list->qz,wpAny_letGo->rl,wpAny_of_eq->rm,wpAny_onRaise->rp,storedH_old->td,storedH_new->tf,wpAny_dictEntries->tm,wpAny_dictEpoch->tq,wpAny_Name->uv,wpAny_Call_Name_kw->vf,noFill_tuple_add->vj,seq_tuple_add->vk,seqIndex_of->vq,seqIndex_neg->vt,call_meets->we,call->wj,wpAny_comprehension_free->wq,codeAny_compStart_list->wr,eval_ListComp->wt,wpAny_updateSeq_pair->wz,wpAny_isInstance->xa,pushCells_keeps->xx,idxH_unique->xz,wpAny_isOneOf_valiter->ya,Within->ym,wpAny_loadName_local->yq,wpAny_loadName_cell->yr,wpAny_isTrue_Compare1->yu,wpAny_Call_method_late->zj,wpAny_newFunctionEnv->zw,wpAny_pyIter_tuple->c7,wpAny_isOneOf_keyiter->l7,wpAny_notOrdered_dict->o6
open PySem.Builtin.Dict renaming showsAll->tx
open PySem.Builtin.Dict_items renaming ownsTuple->pr,dictOf->u9,newIterator->v7
open PySem.Builtin.Int renaming intBits->zu
open PySem.Builtin.List renaming listTooLong->qr
open PySem.Builtin.Slice renaming slicePlaces->qm,sliceAdjust->vp,sliceApplied->ze
open PySem.Builtin.SmallTypes renaming nextOf->kj,ownedTupleIsFree->rn,ownedTupleHandOut->a7
open PySem.Builtin.Tuple renaming tupleExact->qp,tupleHashOf->xb,tupleItemsOf->zf
open PySem.Calls renaming callWith_builtin->vw,evalArgs_plain->vz,Name_function_global->yt
open PySem.Challenge renaming pw_scissorhall_k65_whole_stacked->ld,rw_scissorhall_k65_whole_stacked->oh
open PySem.F renaming slot_dict_keyiterator_next->pz,slot_dict_valueiterator_next->qa,slot_tuple_iterator_next->rh,slot_zip_next->rq,slot_tuple_add->vm,entry_tuple_add->vn,args_tuple_add_2->vo,slot_list_append->wg,plainAttrs_list->xl,entry_tuple_iterator_next->zx,args_tuple_iterator_next_1->zy,entry_zip_next->a8,args_zip_next_1->a9,type_list_append->i6,slot_list_iadd->j9,slot_dict_get->k7,plainAttrs_dict->k9,entry_dict_keyiterator_next->l9,args_dict_keyiterator_next_1->m9,entry_dict_valueiterator_next->o0,args_dict_valueiterator_next_1->o4,slot_dict_iter->o5,slot_dict_values->o7,slot_dict_values_iter->o8
open PySem.Heap renaming get?_push_of_some->ax,lt_size->bi,get?_push_size->cw,SameBut->ia,size_push->je,ExtBut->ni,get?_update_self->qq,get?_update_ne->xu,get?_update_other->zh
open PySem.Heap.SameBut renaming update->ng
open PySem.NameKind renaming cell->ff,free->fx
open PySem.Obj renaming mapSeq->ij,data_mapFields->nh,mapFields->tw,isFreed_of_fields->wu,cls_mapFields->wv
open PySem.PassesOwn renaming never->yc,leaving->yd
open PySem.SeqAt renaming EqAt->jq,RcAt->ny
open PySem.SeqAt.EqAt renaming same->sf,of_refs->xf,int_int->c9
open PySem.SeqAt.RcAt renaming tuples->xc,none_none->f9,bool_bool->g7,int_int->g8,str_str->g9,lists->i4,lists_lengths->i5
open PySem.Shared renaming TypeIs->l8
open PySem.Str renaming ofString->dl
open PySem.Value renaming none->cu,ref->dg,type->lq,int->oi,bool->qe,str->uk
open PySem.W renaming Frag->ag,nsIn->df,fnOf->dn,keepIn->fk,mg_none_of->iy,kia_one->ja,kas_sort->jf,excIn->jk,codeIn->jx,mg_of->lc,kitOne->mj,OpenLaw->mx,kHook->qd,instObj->ul,methodObj->um,hideAll->uo,hideAll_get->uq,lookIn->vb,findIn->vd,kitx_list->ve,kat_nil->xp,xlAt->yj,recOk->yk,of_hideAll->yp,plainGet->yx,specialIn->yy,kitx_tuple->yz,kitx_dict->za,cellsFrom_some->zc
open PySem.W.Hook renaming obs->uf,val->ug
open PySem.W.OpenLaw renaming row->uj,wellSaid->u8
open PySem.W.OpenRow renaming toRowW->ui
open PySem.W.RowW renaming records->uh
open Sum renaming inl->ko,inr->kq
open True renaming intro->ot
abbrev AA:=List Int
abbrev AB:=List AA
abbrev AC:=List AB
abbrev AD:=List PySem.Value
abbrev AE:=Option PySem.Value
abbrev AF:=Option PySem.Addr
abbrev AG:=Option Int
namespace L2
open PySem
def iE(s:Stmt):Arguments:=match s with
 |.FunctionDef _ a _ _ _ _ _ _ _ _=>a
 |_=>{posonlyargs:=[],args:=[],vararg:=none,kwonlyargs:=[],kw_defaults:=[],kwarg:=none,defaults:=[]}
def eV(s:Stmt):List Stmt:=match s with
 |.FunctionDef _ _ b _ _ _ _ _ _ _=>b
 |_=>[]
def cX(s:Stmt):Scope:=match s with
 |.FunctionDef _ _ _ _ _ _ sc _ _ _=>sc
 |_=>{kind:=.function,names:=[],isGenerator:=false,isCoroutine:=false}
end L2
namespace Sc
noncomputable section
open PySem L2
def aQ(i:Nat):Stmt:=ld.main.body.getD i (.Pass ⟨0,0,0,0⟩)
abbrev vs(s:String)(t:Nat):Value:=.str (dl s) t
abbrev vi(i:Int):Value:=.int i 0
abbrev vr(a:Nat):Value:=.ref a
abbrev fo(n:String)(i:Nat)(dV dc pm cd ct:Value):Obj:=⟨.type "function",none,.func (dn (dl n) (dl n) (iE (aQ i)) (eV (aQ i)) (cX (aQ i)) dV .none dc pm none cd ct),#[]⟩
abbrev fc(l:AD):Obj:=⟨.type "code",none,.fields l.toArray,#[]⟩
abbrev Ew(n:String)(t l a r g:Nat)(x:AD):Obj:=fc (vs n t::vs n (t+1)::vs "/claim/cut.py" (t+2)::vi l::vi a::vi 0::vi 0::vi 3::vr r:: .bool true::vi g::vr (r+1):: .none::x)
abbrev eU(n:String)(t l a r g u:Nat):Obj:=Ew n t l a r g [vr (r+2),vr (r+3),vr (r+4),vi u,vi l,vs "/claim/cut.py" (u+1)]
abbrev eK(n:String)(t l a r g:Nat):Obj:=Ew n t l a r g [.none,.none,vr (r+2),vi (t+3),vi l,vs "/claim/cut.py" (t+4)]
abbrev fd(P:lm)(n:Nat)(l:List (String×Nat×Value)):Obj:=⟨.type "dict",none,.dict (l.map λe=>⟨PyData.keyHash P (dl e.1),.str (dl e.1) e.2.1,e.2.2⟩).toArray n,#[]⟩
abbrev vLq:Value:=vs "law_scissorhall_k65_whole_stacked" 457
abbrev fzq (n:String)(i:Nat)(m:Value)(r:Nat):Obj:=fo n i .none .none m (vr r) .none
abbrev v0q:Value:=vs "scissorhall.points" 269
abbrev v1q:Value:=vs "scissorhall.lowest" 239
abbrev v2q:Value:=vs "scissorhall.heaps" 391
abbrev v3q:Value:=vs "scissorhall.solids" 369
abbrev v4q:Value:=vs "scissorhall.moves" 434
noncomputable def KK(P:lm):ag:=
 (nat_lit 3,fd P 78 [("__name__",165,vs "law_scissorhall_k65_whole_stacked" 457),("__doc__",166,.none),("__package__",167,.none),("__loader__",168,(.builtin "__main__.__loader__#opaque")),("__spec__",169,.none),("__annotations__",170,vr 6),("__builtins__",171,vr 4),("__file__",173,vs "/claim/cut.py" 172),("__cached__",174,.none),("HallError",206,vr 24),("NoPoint",222,vr 37),("Flat",238,vr 49),("sign",247,vr 58),("divisor",256,vr 65),("reduced",262,vr 70),("lowest_way",268,vr 75),("point",277,vr 81),("added",283,vr 86),("lessened",291,vr 93),("turned",297,vr 98),("whole_arrow",303,vr 103),("dot",309,vr 108),("normal",318,vr 115),("determinant",324,vr 120),("side",331,vr 127),("FLAT_WALLS",340,vr 131),("SPACE_WALLS",353,vr 136),("simplex",362,vr 143),("walls",368,vr 148),("in_space",377,vr 155),("refuse_flat",384,vr 162),("prism",390,vr 167),("plane_way",398,vr 172),("sides",404,vr 177),("put_wall",420,vr 184),("same",433,vr 191),("is_push",442,vr 198),("moved_point",450,vr 205),("moved",456,vr 210),("_law_row",471,vr 217),("_law_take",480,vr 224),("_law_gcd",488,vr 231),("_law_lowest",494,vr 236),("_law_upward",500,vr 241),("_law_whole",507,vr 248),("_law_wholes",513,vr 253),("_law_frac",521,vr 260),("_law_sum",529,vr 267),("_law_joined",535,vr 272),("_law_gap",541,vr 277),("_law_cross",552,vr 284),("_law_dot",558,vr 289),("_law_turn",565,vr 296),("_law_det",571,vr 301),("_law_simplex",579,vr 308),("_law_flat_line",587,vr 315),("_law_space_line",595,vr 322),("_law_plane",601,vr 327),("_law_shuts",612,vr 334),("_law_put",621,vr 341),("_law_mark",638,vr 348),("_law_same",644,vr 353),("_law_gone",650,vr 358),("_law_point_form",658,vr 365),("_law_simplex_form",664,vr 370),("_law_heap_form",670,vr 375),("_law_raw",676,vr 380),("_law_raw_turn",682,vr 385),("_law_kuhn",694,vr 392),("_law_raw_heap",706,vr 399),("_law_far",712,vr 404),("_law_stretch",723,vr 411),("_law_spot",729,vr 416),("_law_laid",735,vr 421),("_law_raised",742,vr 428),("_law_shift",748,vr 433),("_law_part_of",754,vr 438),("law",760,vr 443)])::
 (nat_lit 23,fd P 3 [("__module__",196,vs "scissorhall.errors" 187),("__firstlineno__",200,(.int 2 199)),("__static_attributes__",201,vr 22),("__weakref__",203,vr 25),("__doc__",204,.none)])::
 (nat_lit 24,⟨(.type "type"),none,.cls {name:="HallError",bases:=[(.type "ValueError")],mro:=[vr 24,(.type "ValueError"),(.type "Exception"),(.type "BaseException"),(.type "object")],ns:=23,qualname:="HallError",hasDict:=true,subclasses:=[vr 37,vr 49]},#[some (vr 15),none,some (vs "HallError" 189),some (vs "HallError" 197),some (.builtin "ValueError.__new__"),some (.bool true)]⟩)::
 (nat_lit 36,fd P 2 [("__module__",214,vs "scissorhall.errors" 187),("__firstlineno__",218,(.int 4 217)),("__static_attributes__",219,vr 35),("__doc__",220,.none)])::
 (nat_lit 37,⟨(.type "type"),none,.cls {name:="NoPoint",bases:=[vr 24],mro:=[vr 37,vr 24,(.type "ValueError"),(.type "Exception"),(.type "BaseException"),(.type "object")],ns:=36,qualname:="NoPoint",hasDict:=true,subclasses:=[]},#[some (vr 28),none,some (vs "NoPoint" 207),some (vs "NoPoint" 215),some (.builtin "ValueError.__new__"),some (.bool true)]⟩)::
 (nat_lit 48,fd P 2 [("__module__",230,vs "scissorhall.errors" 187),("__firstlineno__",234,(.int 6 233)),("__static_attributes__",235,vr 47),("__doc__",236,.none)])::
 (nat_lit 49,⟨(.type "type"),none,.cls {name:="Flat",bases:=[vr 24],mro:=[vr 49,vr 24,(.type "ValueError"),(.type "Exception"),(.type "BaseException"),(.type "object")],ns:=48,qualname:="Flat",hasDict:=true,subclasses:=[]},#[some (vr 40),none,some (vs "Flat" 223),some (vs "Flat" 231),some (.builtin "ValueError.__new__"),some (.bool true)]⟩)::
 (nat_lit 57,eU "sign" 241 9 1 52 181 245)::
 (nat_lit 58,fzq "sign" 5 v1q 57)::
 (nat_lit 64,eU "divisor" 248 15 2 59 181 254)::
 (nat_lit 65,fzq "divisor" 6 v1q 64)::
 (nat_lit 69,eK "reduced" 257 21 1 66 181)::
 (nat_lit 70,fzq "reduced" 7 v1q 69)::
 (nat_lit 74,eK "lowest_way" 263 26 1 71 181)::
 (nat_lit 75,fzq "lowest_way" 8 v1q 74)::
 (nat_lit 76,⟨.type "tuple",none,.seq #[(.int 1 271)] 0,#[]⟩)::
 (nat_lit 80,eK "point" 272 30 2 77 181)::
 (nat_lit 81,fo "point" 10 (vr 76) .none v0q (vr 80) .none)::
 (nat_lit 85,eK "added" 278 34 2 82 181)::
 (nat_lit 86,fzq "added" 11 v0q 85)::
 (nat_lit 92,eU "lessened" 284 37 2 87 181 289)::
 (nat_lit 93,fzq "lessened" 12 v0q 92)::
 (nat_lit 97,eK "turned" 292 39 1 94 181)::
 (nat_lit 98,fzq "turned" 13 v0q 97)::
 (nat_lit 102,eK "whole_arrow" 298 41 2 99 181)::
 (nat_lit 103,fzq "whole_arrow" 14 v0q 102)::
 (nat_lit 107,eK "dot" 304 43 2 104 181)::
 (nat_lit 108,fzq "dot" 15 v0q 107)::
 (nat_lit 114,eU "normal" 310 45 1 109 181 316)::
 (nat_lit 115,fzq "normal" 16 v0q 114)::
 (nat_lit 119,eK "determinant" 319 51 1 116 181)::
 (nat_lit 120,fzq "determinant" 17 v0q 119)::
 (nat_lit 126,eU "side" 325 54 1 121 181 329)::
 (nat_lit 127,fzq "side" 18 v0q 126)::
 (nat_lit 128,⟨.type "tuple",none,.seq #[(.int 0 334),(.int 1 335)] 0,#[]⟩)::
 (nat_lit 129,⟨.type "tuple",none,.seq #[(.int 1 336),(.int 2 337)] 0,#[]⟩)::
 (nat_lit 130,⟨.type "tuple",none,.seq #[(.int 2 338),(.int 0 339)] 0,#[]⟩)::
 (nat_lit 131,⟨.type "tuple",none,.seq #[vr 128,vr 129,vr 130] 0,#[]⟩)::
 (nat_lit 132,⟨.type "tuple",none,.seq #[(.int 1 341),(.int 2 342),(.int 3 343)] 0,#[]⟩)::
 (nat_lit 133,⟨.type "tuple",none,.seq #[(.int 0 344),(.int 3 345),(.int 2 346)] 0,#[]⟩)::
 (nat_lit 134,⟨.type "tuple",none,.seq #[(.int 0 347),(.int 1 348),(.int 3 349)] 0,#[]⟩)::
 (nat_lit 135,⟨.type "tuple",none,.seq #[(.int 0 350),(.int 2 351),(.int 1 352)] 0,#[]⟩)::
 (nat_lit 136,⟨.type "tuple",none,.seq #[vr 132,vr 133,vr 134,vr 135] 0,#[]⟩)::
 (nat_lit 142,eU "simplex" 354 59 1 137 181 360)::
 (nat_lit 143,fzq "simplex" 22 (vs "scissorhall.simplexes" 332) 142)::
 (nat_lit 147,eK "walls" 363 67 1 144 181)::
 (nat_lit 148,fzq "walls" 23 (vs "scissorhall.simplexes" 332) 147)::
 (nat_lit 154,eU "in_space" 371 71 1 149 181 375)::
 (nat_lit 155,fzq "in_space" 25 v3q 154)::
 (nat_lit 161,eU "refuse_flat" 378 73 1 156 181 382)::
 (nat_lit 162,fzq "refuse_flat" 26 v3q 161)::
 (nat_lit 166,eK "prism" 385 76 2 163 181)::
 (nat_lit 167,fzq "prism" 27 v3q 166)::
 (nat_lit 171,eK "plane_way" 393 85 1 168 181)::
 (nat_lit 172,fzq "plane_way" 29 v2q 171)::
 (nat_lit 176,eK "sides" 399 87 1 173 181)::
 (nat_lit 177,fzq "sides" 30 v2q 176)::
 (nat_lit 183,eU "put_wall" 405 91 3 178 181 418)::
 (nat_lit 184,fzq "put_wall" 31 v2q 183)::
 (nat_lit 190,eU "same" 421 98 2 185 181 431)::
 (nat_lit 191,fzq "same" 32 v2q 190)::
 (nat_lit 197,eU "is_push" 436 106 1 192 181 440)::
 (nat_lit 198,fzq "is_push" 34 v4q 197)::
 (nat_lit 204,eU "moved_point" 443 108 2 199 181 448)::
 (nat_lit 205,fzq "moved_point" 35 v4q 204)::
 (nat_lit 209,eK "moved" 451 112 2 206 181)::
 (nat_lit 210,fzq "moved" 36 v4q 209)::
 (nat_lit 216,eU "_law_row" 459 115 1 211 181 469)::
 (nat_lit 217,fzq "_law_row" 38 vLq 216)::
 (nat_lit 223,eU "_law_take" 472 129 2 218 181 478)::
 (nat_lit 224,fzq "_law_take" 39 vLq 223)::
 (nat_lit 230,eU "_law_gcd" 481 137 2 225 181 486)::
 (nat_lit 231,fzq "_law_gcd" 40 vLq 230)::
 (nat_lit 235,eK "_law_lowest" 489 143 1 232 181)::
 (nat_lit 236,fzq "_law_lowest" 41 vLq 235)::
 (nat_lit 240,eK "_law_upward" 495 150 1 237 181)::
 (nat_lit 241,fzq "_law_upward" 42 vLq 240)::
 (nat_lit 247,eU "_law_whole" 501 158 1 242 181 505)::
 (nat_lit 248,fzq "_law_whole" 43 vLq 247)::
 (nat_lit 252,eK "_law_wholes" 508 160 2 249 181)::
 (nat_lit 253,fzq "_law_wholes" 44 vLq 252)::
 (nat_lit 259,eU "_law_frac" 514 164 2 254 181 519)::
 (nat_lit 260,fzq "_law_frac" 45 vLq 259)::
 (nat_lit 266,eU "_law_sum" 522 168 2 261 181 527)::
 (nat_lit 267,fzq "_law_sum" 46 vLq 266)::
 (nat_lit 271,eK "_law_joined" 530 170 3 268 181)::
 (nat_lit 272,fzq "_law_joined" 47 vLq 271)::
 (nat_lit 276,eK "_law_gap" 536 173 2 273 181)::
 (nat_lit 277,fzq "_law_gap" 48 vLq 276)::
 (nat_lit 283,eU "_law_cross" 542 175 2 278 181 550)::
 (nat_lit 284,fzq "_law_cross" 49 vLq 283)::
 (nat_lit 288,eK "_law_dot" 553 180 2 285 181)::
 (nat_lit 289,fzq "_law_dot" 50 vLq 288)::
 (nat_lit 295,eU "_law_turn" 559 182 1 290 181 563)::
 (nat_lit 296,fzq "_law_turn" 51 vLq 295)::
 (nat_lit 300,eK "_law_det" 566 186 1 297 181)::
 (nat_lit 301,fzq "_law_det" 52 vLq 300)::
 (nat_lit 307,eU "_law_simplex" 572 188 1 302 181 577)::
 (nat_lit 308,fzq "_law_simplex" 53 vLq 307)::
 (nat_lit 314,eU "_law_flat_line" 580 193 2 309 181 585)::
 (nat_lit 315,fzq "_law_flat_line" 54 vLq 314)::
 (nat_lit 321,eU "_law_space_line" 588 195 2 316 181 593)::
 (nat_lit 322,fzq "_law_space_line" 55 vLq 321)::
 (nat_lit 326,eK "_law_plane" 596 197 3 323 181)::
 (nat_lit 327,fzq "_law_plane" 56 vLq 326)::
 (nat_lit 333,eU "_law_shuts" 602 200 1 328 181 610)::
 (nat_lit 334,fzq "_law_shuts" 57 vLq 333)::
 (nat_lit 340,eU "_law_put" 613 203 3 335 181 619)::
 (nat_lit 341,fzq "_law_put" 58 vLq 340)::
 (nat_lit 347,eU "_law_mark" 622 205 3 342 181 636)::
 (nat_lit 348,fzq "_law_mark" 59 vLq 347)::
 (nat_lit 352,eK "_law_same" 639 228 2 349 181)::
 (nat_lit 353,fzq "_law_same" 60 vLq 352)::
 (nat_lit 357,eK "_law_gone" 645 235 3 354 181)::
 (nat_lit 358,fzq "_law_gone" 61 vLq 357)::
 (nat_lit 364,eU "_law_point_form" 651 237 2 359 181 656)::
 (nat_lit 365,fzq "_law_point_form" 62 vLq 364)::
 (nat_lit 369,eK "_law_simplex_form" 659 241 2 366 181)::
 (nat_lit 370,fzq "_law_simplex_form" 63 vLq 369)::
 (nat_lit 374,eK "_law_heap_form" 665 247 2 371 181)::
 (nat_lit 375,fzq "_law_heap_form" 64 vLq 374)::
 (nat_lit 379,eK "_law_raw" 671 251 3 376 181)::
 (nat_lit 380,fzq "_law_raw" 65 vLq 379)::
 (nat_lit 384,eK "_law_raw_turn" 677 258 1 381 181)::
 (nat_lit 385,fzq "_law_raw_turn" 66 vLq 384)::
 (nat_lit 391,eU "_law_kuhn" 683 260 1 386 181 692)::
 (nat_lit 392,fzq "_law_kuhn" 67 vLq 391)::
 (nat_lit 398,eU "_law_raw_heap" 695 272 3 393 181 704)::
 (nat_lit 399,fzq "_law_raw_heap" 68 vLq 398)::
 (nat_lit 403,eK "_law_far" 707 285 2 400 181)::
 (nat_lit 404,fzq "_law_far" 69 vLq 403)::
 (nat_lit 410,eU "_law_stretch" 713 291 2 405 181 721)::
 (nat_lit 411,fzq "_law_stretch" 70 vLq 410)::
 (nat_lit 415,eK "_law_spot" 724 297 2 412 181)::
 (nat_lit 416,fzq "_law_spot" 71 vLq 415)::
 (nat_lit 420,eK "_law_laid" 730 303 3 417 181)::
 (nat_lit 421,fzq "_law_laid" 72 vLq 420)::
 (nat_lit 427,eU "_law_raised" 736 309 1 422 181 740)::
 (nat_lit 428,fzq "_law_raised" 73 vLq 427)::
 (nat_lit 432,eK "_law_shift" 743 311 2 429 181)::
 (nat_lit 433,fzq "_law_shift" 74 vLq 432)::
 (nat_lit 437,eK "_law_part_of" 749 320 2 434 181)::
 (nat_lit 438,fzq "_law_part_of" 75 vLq 437)::
 (nat_lit 442,eK "law" 755 322 1 439 181)::
 (nat_lit 443,fzq "law" 76 vLq 442)::[]
def KA:List Nat:=[3,23,24,36,37,48,49,57,58,64,65,69,70,74,75,76,80,81,85,86,92,93,97,98,102,103,107,108,114,115,119,120,126,127,128,129,130,131,132,133,134,135,136,142,143,147,148,154,155,161,162,166,167,171,172,176,177,183,184,190,191,197,198,204,205,209,210,216,217,223,224,230,231,235,236,240,241,247,248,252,253,259,260,266,267,271,272,276,277,283,284,288,289,295,296,300,301,307,308,314,315,321,322,326,327,333,334,340,341,347,348,352,353,357,358,364,365,369,370,374,375,379,380,384,385,391,392,398,399,403,404,410,411,415,416,420,421,427,428,432,433,437,438,442,443]
def VW:Program:={ld with main:={ld.main with body:=[aQ 1,aQ 2,aQ 3,aQ 5,aQ 6,aQ 7,aQ 8,aQ 11,aQ 12,aQ 13,aQ 14,aQ 15,aQ 16,aQ 17,aQ 18,aQ 20,aQ 21,aQ 22,aQ 23,aQ 25,aQ 26,aQ 27,aQ 29,aQ 30,aQ 31,aQ 32,aQ 34,aQ 35,aQ 36,aQ 38,aQ 39,aQ 40,aQ 41,aQ 42,aQ 43,aQ 44,aQ 45,aQ 46,aQ 47,aQ 48,aQ 49,aQ 50,aQ 51,aQ 52,aQ 53,aQ 54,aQ 55,aQ 56,aQ 57,aQ 58,aQ 59,aQ 60,aQ 61,aQ 62,aQ 63,aQ 64,aQ 65,aQ 66,aQ 67,aQ 68,aQ 69,aQ 70,aQ 71,aQ 72,aQ 73,aQ 74,aQ 75,aQ 76]}}
theorem KE:∀P,KA=(KK P).map (·.1):=λ_=>by kernel_rfl
theorem wsaid:u8 oh=true:=by kernel_rfl
open PySem.W PyProof.Rows PySem.Spec
abbrev RN(w:al):=openEnds treeTable ld w 5260
abbrev LW:=looseW VW [dl "point"]
theorem ade:∀w,(RN w).map (λs=>uf (qd KK KA KE) s)=some (ug (qd KK KA KE) w):=by
 intro w
 kernel_rfl
theorem aek:∀w,(RN w).map (λs=>seen ((recsOf VW).map (·.name)) (ownsOf VW) [] {s with gens:=#[]})=some (expectedOf VW):=by
 intro w
 kernel_rfl
theorem adz:∀w,(RN w).map (λs=>s.heap.bltView)=some (bltViewBooted):=by
 intro w
 kernel_rfl
theorem adF:∀w,(RN w).map (λs=>s.heap.keysOk LW ((recsOf VW).map (·.name)) ((litsOf VW).map (·.1)) ((clssOf VW LW).map (·.name)))=some (true):=by
 intro w
 kernel_rfl
theorem adG:∀w,(RN w).map (λs=>s.heap.accountedOkI (importedModules ld.main.body)&&(s.heap.isNs mainGlobals&&s.heap.isNs builtinsNs&&tablesOk VW s.heap)&&((λs=>yj VW [] s&&yk (uh (ui (uj oh))) s) s&&(s.gens.size==0)))=some (true):=by
 intro w
 kernel_rfl
theorem aep:∀w,(RN w).map (λs=>tabsOk VW s)=some (true):=by
 intro w
 kernel_rfl
theorem adL:∀w,(RN w).map (λs=>(pinSeenD VW (drecsOf VW) s,plainSeenD VW [dl "point"] s,clsSeenW VW [dl "point"] s))=some (pinGoodD (drecsOf VW),plainGoodD VW [dl "point"],clsGoodW VW [dl "point"]):=by
 intro w
 kernel_rfl
theorem aef:∀w,(RN w).map (λs=>plainSeenE VW LW s)=some (plainGoodE VW LW):=by
 intro w
 kernel_rfl
theorem aeb:∀w,(RN w).map (λs=>wideSeen VW s)=some (wideGood VW):=by
 intro w
 kernel_rfl
theorem bz{k a n m t x g:Bool}(h:k=true)(h2:(a&&(n&&m&&t)&&(x&&g))=true):(k&&a&&n&&m&&t&&x&&g)=true:=by
 revert h h2
 cases k<;>cases a<;>cases n<;>cases m<;>cases t<;>cases x<;>cases g<;>decide
theorem aeX{A B C P Q R T V Y:Type}{o:Option aa}{y:Y}{G:aa->Y}{k a n m t x g f:aa->Bool}{b:aa->B}{c:aa->C}{p:aa->P}{q:aa->Q}{r:aa->R}{u:aa->T}{v:aa->V}{b':B}{c':C}{p':P}{q':Q}{r':R}{u':T}{v':V}(hA:o.map G=some y)(hB:o.map b=some b')(hC:o.map c=some c')(hD:o.map k=some true)(hE:o.map (λs=>a s&&(n s&&m s&&t s)&&(x s&&g s))=some true)(hF:o.map f=some true)
  (hG:o.map (λs=>(p s,q s,r s))=some (p',q',r'))(hH:o.map u=some u')(hI:o.map v=some v'):o.map (λs=>((b s,c s,(k s&&a s&&n s&&m s&&t s&&x s&&g s),f s,p s,u s,q s,v s,r s),G s))=some ((b',c',true,true,p',u',q',v',r'),y):=by
 cases o with
 |none=>cases hA
 |some s=>
  have G1:=yl (bn hG);have G2:=yl G1.2;exact congrArg some (jg (jg (bn hB) (jg (bn hC) (jg (bz (bn hD) (bn hE)) (jg (bn hF) (jg G1.1 (jg (bn hH) (jg G2.1 (jg (bn hI) G2.2)))))))) (bn hA))
theorem left:LeftO ld VW [dl "point"] (λs=>yj VW [] s&&yk (uh (ui (uj oh))) s) (uf (qd KK KA KE)) (ug (qd KK KA KE)) 5260:=λw=>aeX (A:=Nat) (ade w) (aek w) (adz w) (adF w) (adG w) (aep w) (adL w) (aef w) (aeb w)
end
end Sc
set_option maxHeartbeats 200000
set_option Elab.async false
set_option compiler.extract_closed false
set_option bootstrap.genMatcherCode false
set_option linter.all false
set_option maxRecDepth 100000
namespace L2
open PySem PySem.Spec PyProof.Rows
abbrev iL:=Sum Int Str
def Du:iL->Value->Bool
 |.inl k,v=>Value.isInt k v
 |.inr x,v=>Value.isStrOf x v
def ae9(w:al):iL->Int
 |.inl k=>hashInt k
 |.inr x=>hashStr w x
theorem mJ:∀{k:iL}{v:Value},Du k v=true->(∃i t,k=ko i/\v=oi i t)\/(∃x t,k=kq x/\v=uk x t)
 |.inl i,v,h=>by
  obtain⟨t,e⟩:=Value.isInt_shape (k:=i) (v:=v) h;exact .inl ⟨i,t,rfl,e⟩
 |.inr x,v,h=>by
  obtain⟨t,e⟩:=Value.isStrOf_shape (x:=x) (v:=v) h;exact .inr ⟨x,t,rfl,e⟩
theorem acq(a b:Int):decide ((ko a:iL)=ko b)=(a==b):=by
 by_cases e:a=b
 .subst e;simp
 .have h:¬(ko a:iL)=ko b:=λq=>e (Sum.inl.inj q)
  rw[decide_eq_false h];exact(beq_eq_false_iff_ne.mpr e).symm
theorem acB(a b:Str):decide ((kq a:iL)=kq b)=decide (a=b):=by
 by_cases e:a=b
 .subst e;simp
 .have h:¬(kq a:iL)=kq b:=λq=>e (Sum.inr.inj q)
  rw[decide_eq_false h,decide_eq_false e]
theorem ab6(a:Int)(b:Str):decide ((ko a:iL)=kq b)=false:=decide_eq_false (λq=>nomatch q)
theorem acx(a:Str)(b:Int):decide ((kq a:iL)=ko b)=false:=decide_eq_false (λq=>nomatch q)
def Wq(prog:Program)(w:al):PySem.KeyKind prog w iL where
 is:=Du
 hash:=ae9 w
 inj:=λv a b ha hb=>by
  rcases mJ ha with⟨i,t,rfl,rfl⟩|⟨x,t,rfl,rfl⟩
  .rcases mJ hb with⟨j,u,rfl,e⟩|⟨y,u,rfl,e⟩
   .injection e with e1 _;rw[e1]
   .exact nomatch e
  .rcases mJ hb with⟨j,u,rfl,e⟩|⟨y,u,rfl,e⟩
   .exact nomatch e
   .injection e with e1 _;rw[e1]
 byValue:=λk v h=>by
  rcases mJ h with⟨i,t,rfl,rfl⟩|⟨x,t,rfl,rfl⟩<;>rfl
 pyHash:=λhv h=>by
  rcases mJ hv with⟨i,t,rfl,rfl⟩|⟨x,t,rfl,rfl⟩
  .exact wpAny_pyHash_int h
  .exact wpAny_pyHash_str h
 eqBool:=λhu hv h=>by
  rcases mJ hu with⟨i,t,rfl,rfl⟩|⟨x,t,rfl,rfl⟩
  .rcases mJ hv with⟨j,u,rfl,rfl⟩|⟨y,u,rfl,rfl⟩
   .rw[acq]at h;exact wpAny_eqBool_int h
   .rw[ab6]at h;exact SeqAt.EqAt.int_str i t y u _ _ _ _ h
  .rcases mJ hv with⟨j,u,rfl,rfl⟩|⟨y,u,rfl,rfl⟩
   .rw[acx]at h;exact SeqAt.EqAt.str_int x t j u _ _ _ _ h
   .rw[acB]at h;exact wpAny_eqBool_str h
 «strs»:=λk x t v h=>by
  rcases mJ h with⟨i,u,rfl,e⟩|⟨y,u,rfl,e⟩
  .exact nomatch e
  .injection e with e1 _
   subst e1;cases v<;>rfl
inductive V where
 |non |bl (b:Bool) |int (i:Int) |str (x:Str) |byt (b:Array UInt8) |flt (b:UInt64) |ref (a:Addr) |ty (n:String)
 deriving DecidableEq
def bT:V->Value->Prop
 |.non,u=>u=cu
 |.bl b,u=>u=qe b
 |.int i,u=>∃t,u=oi i t
 |.str x,u=>∃t,u=uk x t
 |.byt b,u=>∃t,u=Value.bytes b t
 |.flt b,u=>∃t,u=Value.float b t
 |.ref a,u=>u=dg a
 |.ty n,u=>u=lq n
abbrev bI:List V->AD->Prop:=iu bT
theorem bI.length{xs:List V}{us:AD}(r:bI xs us):xs.length=us.length:=Paired.length r
theorem bI.get:∀{xs:List V}{us:AD}{i:Nat}{x:V},bI xs us->xs[i]?=some x->∃u,us[i]?=some u/\bT x u
 |_,_,_,_,.nil,e=>by simp at e
 |_,_,0,_,.cons r _,e=>by simp at e;subst e;exact⟨_,rfl,r⟩
 |_,_,i+1,x,.cons _ t,e=>by
  obtain⟨u,h1,h2⟩:=bI.get (i:=i) (x:=x) t (by simpa using e);exact⟨u,by simpa using h1,h2⟩
theorem bI.set{x:V}{u:Value}(r:bT x u):∀{xs:List V}{us:AD}(i:Nat),bI xs us->bI (xs.set i x) (us.set i u)
 |_,_,_,.nil=>.nil
 |_,_,0,.cons _ t=>.cons r t
 |_,_,i+1,.cons q t=>.cons q (bI.set r i t)
theorem bI.append:∀{xs ys:List V}{us ws:AD},bI xs us->bI ys ws->bI (xs++ys) (us++ws)
 |_,_,_,_,.nil,s=>s
 |_,_,_,_,.cons r t,s=>.cons r (bI.append t s)
theorem bI.take:∀{xs:List V}{us:AD}(n:Nat),bI xs us->bI (xs.take n) (us.take n)
 |_,_,0,_=>.nil
 |_,_,_+1,.nil=>.nil
 |_,_,n+1,.cons r t=>.cons r (bI.take n t)
theorem bI.drop:∀{xs:List V}{us:AD}(n:Nat),bI xs us->bI (xs.drop n) (us.drop n)
 |_,_,0,r=>r
 |_,_,_+1,.nil=>.nil
 |_,_,n+1,.cons _ t=>bI.drop n t
def Pg:Option V->AE->Prop
 |some v,some u=>bT v u
 |none,none=>True
 |_,_=>False
def KV{κ:Type}:List (κ×V)->List (κ×Value)->Prop:=iu λ(p:κ×V) (q:κ×Value)=>p.1=q.1/\bT p.2 q.2
def kV:iL->V
 |.inl i=>.int i
 |.inr x=>.str x
inductive HO where
 /--a list -/
 |lst (xs:List V)
 /--a tuple (never changes) -/
 |tup (xs:List V)
 /--a dict whose keys are ints and texts;one whose keys are tuples of ints and texts (the empty one is both) -/
 |dK (kvs:List (iL×V)) |dT (kvs:List (List iL×V))
 /--a set of ints:its members,its size -/
 |set (S:Int->Bool) (n:Nat)
 /--an instance of the class at C,its dict at dx,its attributes -/
 |ins (C dx:Addr) (fs:List (Str×V))
 /--the dict of the instance at x -/
 |own (x:Addr)
 /--the dict of an exception -/
 |xd (fs:List (Str×V))
 /--a bound method,f of x -/
 |met (f x:Addr)
 /--a range object lo,lo+1,.. below hi -/
 |rng (lo hi:Int)
 /--a thing that is known to the object (the script;a dict while a loop walks it):read,never written while it is so -/
 |frz (o:Obj) (u:HO)
 /--a code object's table -/
 |tbl (ps:Array Value)
 /--any other thing,by what is true of its one object (a def of one's own:SetO a S n:=HO.ext λh=>..) -/
 |ext (φ:Heap->Prop)
abbrev Hp:=Addr->Option HO
def aY(H:Hp)(a:Addr)(o:HO):Hp:=λb=>if b=a then some o else H b
theorem fH{H:Hp}{a:Addr}{o:HO}:aY H a o a=some o:=by unfold aY;rw[if_pos rfl]
theorem bS{H:Hp}{a b:Addr}{o:HO}(h:b≠a):aY H a o b=H b:=by unfold aY;rw[if_neg h]
theorem gD{H:Hp}{a b:Addr}{o:HO}(h:H a=some o)(h':H b=none):a≠b:=by
 intro e;subst e;rw[h]at h';cases h'
section
variable(P:Program)(w:al)
def fV(H:Hp)(h:Heap)(a:Addr):HO->Prop
 |.lst xs=>xs.length<=sizeLine/\∃(its:AD)(n:Nat),bI xs its/\h.get? a=some {cls:=.type "list",data:=.seq its.toArray n}
 |.tup xs=>xs.length<=sizeLine/\∃its:AD,bI xs its/\IsTup h a its.toArray
 |.dK kvs=>kvs.length<=sizeLine/\(a==sysModules)=false/\∃vs,KV kvs vs/\h.DictOf (Wq P w) a vs
 |.dT kvs=>kvs.length<=sizeLine/\(a==sysModules)=false/\∃xs:List (List iL×Addr×Value),
   iu (λ(p:List iL×V) (q:List iL×Addr×Value)=>p.1=q.1/\H q.2.1=some (.tup (p.1.map kV))/\bT p.2 q.2.2) kvs xs/\
   ∃o es ep,h.get? a=some o/\o.ExactDict/\o.data=.dict es ep/\es.toList=xs.map (entryOfKey (tupleKind (Wq P w)))/\(xs.map (·.1)).Nodup
 |.set S n=>h.SetOf (intKind P w) a S n
 |.ins C dx fs=>H dx=some (.own a)/\fs.length<=1000/\dx≠a/\h.get? a=some (ul C dx)/\
   ∃mA,h.Ns1 dx mA/\(∀f,Pg (fs.lookup f) (mA f))/\ym mA (fs.map (·.1))
 |.own _=>∃o,h.get? a=some o
 |.xd fs=>∃mA,h.Ns1 a mA/\∀f,Pg (fs.lookup f) (mA f)
 |.rng lo hi=>∃t u v,h.get? a=some {cls:=.type "range",data:=.fields #[.int lo t,.int hi u,.int 1 v]}
 |.frz o u=>h.get? a=some o/\fV H h a u
 |.tbl ps=>h.get? a=some {cls:=.none,data:=.fields ps}
 |.met f x=>h.get? a=some (um (.ref f) (.ref x))
 |.ext φ=>φ h/\(∃o,h.get? a=some o)/\∀h1 h2:Heap,φ h1->(∀o,h1.get? a=some o->h2.get? a=some o)->φ h2
def fJ(H:Hp)(h:Heap):Prop:=∀a o,H a=some o->fV P w H h a o
end
section
variable{P:Program}{w:al}{H H':Hp}{h h':Heap}{a:Addr}{o:HO}
theorem fV.lt(x:fV P w H h a o):a<h.objs.size:=by
 cases o with
 |lst xs=>obtain⟨_,_,_,_,e⟩:=x;exact bi e
 |tup xs=>obtain⟨_,_,_,p⟩:=x;exact p.lt
 |dK kvs=>obtain⟨_,_,_,_,o,_,_,e,_⟩:=x;exact bi e
 |dT kvs=>obtain⟨_,_,_,_,o,_,_,e,_⟩:=x;exact bi e
 |set S n=>obtain⟨o,_,_,_,e,_⟩:=x;exact bi e
 |ins C dx fs=>obtain⟨_,_,_,e,_⟩:=x;exact bi e
 |own y=>obtain⟨_,e⟩:=x;exact bi e
 |xd fs=>obtain⟨_,⟨_,_,_,e,_⟩,_⟩:=x;exact bi e
 |rng lo hi=>obtain⟨_,_,_,e⟩:=x;exact bi e
 |frz ob u=>obtain⟨e,_⟩:=x;exact bi e
 |tbl ps=>exact bi (show h.get? a=some _ from x)
 |met f y=>exact bi (show h.get? a=some _ from x)
 |ext φ=>obtain⟨_,⟨_,e⟩,_⟩:=x;exact bi e
theorem Paired.mapP{α β:Type}{F G:α->β->Prop}:∀{l₁:List α}{l₂:List β},iu F l₁ l₂->(∀a b,F a b->G a b)->iu G l₁ l₂
 |_,_,.nil,_=>.nil
 |_,_,.cons r t,f=>.cons (f _ _ r) (Paired.mapP t f)
theorem fV.stay(x:fV P w H h a o)(k:∀b u,(b=a\/H b=some (.own a))->h.get? b=some u->h'.get? b=some u)
  (ho:∀b,H b=some (.own a)->H' b=some (.own a))(ht:∀b xs,H b=some (.tup xs)->H' b=some (.tup xs)):fV P w H' h' a o:=by
 induction o with
 |lst xs=>obtain⟨z,its,n,r,e⟩:=x;exact⟨z,its,n,r,k _ _ (.inl rfl) e⟩
 |tup xs=>obtain⟨z,its,r,ob,e,c⟩:=x;exact⟨z,its,r,ob,k _ _ (.inl rfl) e,c⟩
 |dK kvs=>obtain⟨z,y,vs,r,ob,es,ep,e,c⟩:=x;exact⟨z,y,vs,r,ob,es,ep,k _ _ (.inl rfl) e,c⟩
 |dT kvs=>
  obtain⟨z,y,xs,r,ob,es,ep,e,c⟩:=x;exact⟨z,y,xs,Paired.mapP r λp q z=>⟨z.1,ht _ _ z.2.1,z.2.2⟩,ob,es,ep,k _ _ (.inl rfl) e,c⟩
 |set S n=>obtain⟨ob,es,ep,t,e,c⟩:=x;exact⟨ob,es,ep,t,k _ _ (.inl rfl) e,c⟩
 |ins C dx fs=>
  obtain⟨d,z,ne,e,mA,⟨od,es,ep,e2,c⟩,r⟩:=x;exact⟨ho _ d,z,ne,k _ _ (.inl rfl) e,mA,⟨od,es,ep,k _ _ (.inr d) e2,c⟩,r⟩
 |own y=>obtain⟨ob,e⟩:=x;exact⟨ob,k _ _ (.inl rfl) e⟩
 |xd fs=>obtain⟨mA,⟨od,es,ep,e,c⟩,r⟩:=x;exact⟨mA,⟨od,es,ep,k _ _ (.inl rfl) e,c⟩,r⟩
 |rng lo hi=>obtain⟨t,u,v,e⟩:=x;exact⟨t,u,v,k _ _ (.inl rfl) e⟩
 |frz ob u ih=>obtain⟨e,q⟩:=x;exact⟨k _ _ (.inl rfl) e,ih q⟩
 |tbl ps=>
  have e:h.get? a=some {cls:=.none,data:=.fields ps}:=x;show h'.get? a=some {cls:=.none,data:=.fields ps};exact k a _ (.inl rfl) e
 |met f y=>
  have e:h.get? a=some (um (.ref f) (.ref y)):=x;show h'.get? a=some (um (.ref f) (.ref y));exact k a _ (.inl rfl) e
 |ext φ=>obtain⟨p,⟨o,e⟩,st⟩:=x;exact⟨st _ _ p λo q=>k _ _ (.inl rfl) q,⟨o,k _ _ (.inl rfl) e⟩,st⟩
theorem fJ.lt(x:fJ P w H h)(e:H a=some o):a<h.objs.size:=(x a o e).lt
theorem fJ.fresh(x:fJ P w H h)(e:h.objs.size<=a):H a=none:=by
 cases q:H a with
 |none=>rfl
 |some u=>exact absurd (cy (x.lt q) e) (iw _)
theorem fJ.kept(x:fJ P w H h)(k:∀b u,h.get? b=some u->h'.get? b=some u):fJ P w H h':=λa o e=>
 (x a o e).stay (λb u _ q=>k b u q) (λ_ q=>q) λ_ _ q=>q
theorem fJ.laid(x:fJ P w H h)(k:∀b u,h.get? b=some u->h'.get? b=some u)(hp:h.objs.size<=a)(new:fV P w (aY H a o) h' a o):fJ P w (aY H a o) h':=λb u e=>by
 have hn:=x.fresh hp
 by_cases hb:b=a
 .subst hb;rw[fH]at e;cases e;exact new
 .rw[bS hb]at e
  exact(x b u e).stay (λc v _ q=>k c v q) (λc q=>by rw[bS (gD q hn)];exact q) λc xs q=>by rw[bS (gD q hn)];exact q
end
def Rd(H:Hp)(a:Addr)(u:HO):Prop:=H a=some u\/∃o,H a=some (.frz o u)
theorem Rd.ok{P:Program}{w:al}{H:Hp}{h:Heap}{a:Addr}{u:HO}(r:Rd H a u)(x:fJ P w H h):fV P w H h a u:=by
 rcases r with r |⟨o,r⟩
 .exact x a u r
 .obtain⟨_,q⟩:=x a _ r
  exact q
def zO:Option HO->Prop
 |some (.lst _)=>True
 |some (.dK _)=>True
 |some (.dT _)=>True
 |some (.set _ _)=>True
 |some (.ins _ _ _)=>True
 |some (.ext _)=>True
 |_=>False
section
variable{P:Program}{w:al}{H:Hp}{h h':Heap}{x e:Addr}{o':HO}
theorem fJ.write(ok:fJ P w H h)(mu:zO (H x))(he:e=x\/H e=some (.own x))(k:∀b u,b≠e->h.get? b=some u->h'.get? b=some u)(heo:∃u,h'.get? e=some u)
  (new:fV P w (aY H x o') h' x o'):fJ P w (aY H x o') h':=λb u q=>by
 have nown:∀c y,H c=some (.own y)->c≠x:=λc y r z=>by subst z;rw[r]at mu;exact mu
 have ntup:∀c xs,H c=some (.tup xs)->c≠x:=λc xs r z=>by subst z;rw[r]at mu;exact mu
 by_cases hb:b=x
 .subst hb;rw[fH]at q;cases q;exact new
 .rw[bS hb]at q
  by_cases hbe:b=e
  .have q':H b=some (.own x):=by
    rcases he with z |z
    .exact absurd (hbe.trans z) hb
    .rw[hbe];exact z
   rw[q]at q';cases q';obtain⟨v,hv⟩:=heo;exact⟨v,by rw[hbe];exact hv⟩
  .refine(ok b u q).stay (λc v hc r=>k c v ?_ r) (λc r=>by rw[bS (nown c b r)];exact r) λc xs r=>by rw[bS (ntup c xs r)];exact r
   rcases hc with rfl |hc
   .exact hbe
   .rintro rfl
    rcases he with z |z
    .exact nown c b hc z
    .rw[hc]at z;cases z;exact hb rfl
end
structure Un(fs ex:List Addr)(H H':Hp)(h h':Heap):Prop where
 keep:∀b o,h.get? b=some o->H b=none->b∉fs->b∉ex->h'.get? b=some o
 slot:∀b o,h.get? b=some o->H b=none->b∈fs->b∉ex->∃sl,h'.get? b=some {o with slots:=sl}
 free:∀b o,h.get? b=some o->H b=none->b∉ex->H' b=none
 there:∀b o,h.get? b=some o->b∉ex->∃o',h'.get? b=some o'
 tups:∀b xs,H b=some (.tup xs)->H' b=some (.tup xs)
 frzs:∀b o u,H b=some (.frz o u)->H' b=some (.frz o u)
 tbls:∀b ps,H b=some (.tbl ps)->∃more,H' b=some (.tbl (ps++more))
section
variable{fs fs' ex ex':List Addr}{H H1 H2:Hp}{h h1 h2 h':Heap}{a x e:Addr}{o:HO}
theorem Un.any(u:Un fs ex H H1 h h1){b:Addr}{ob:Obj}(q:h.get? b=some ob)(n:H b=none)(hx:b∉ex):∃sl,h1.get? b=some {ob with slots:=sl}:=by
 by_cases hb:b∈fs
 .exact u.slot b ob q n hb hx
 .exact⟨ob.slots,u.keep b ob q n hb hx⟩
theorem Un.trans(a:Un fs ex H H1 h h1)(b:Un fs ex H1 H2 h1 h2):Un fs ex H H2 h h2 where
 keep:=λc ob q n hc hx=>b.keep c ob (a.keep c ob q n hc hx) (a.free c ob q n hx) hc hx
 slot:=λc ob q n hc hx=>by
  obtain⟨sl,e1⟩:=a.slot c ob q n hc hx;obtain⟨sl',e2⟩:=b.slot c _ e1 (a.free c ob q n hx) hc hx;exact⟨sl',e2⟩
 free:=λc ob q n hx=>by
  obtain⟨o',e1⟩:=a.there c ob q hx;exact b.free c o' e1 (a.free c ob q n hx) hx
 there:=λc ob q hx=>by
  obtain⟨o',e1⟩:=a.there c ob q hx;exact b.there c o' e1 hx
 tups:=λc xs q=>b.tups c xs (a.tups c xs q)
 frzs:=λc ob xs q=>b.frzs c ob xs (a.frzs c ob xs q)
 tbls:=λc ps q=>by
  obtain⟨m1,e1⟩:=a.tbls c ps q;obtain⟨m2,e2⟩:=b.tbls c _ e1;exact⟨m1++m2,by rw[e2,yn]⟩
theorem Un.kept(k:∀b u,h.get? b=some u->h'.get? b=some u):Un fs ex H H h h':=
 ⟨λb ob q _ _ _=>k b ob q,λb ob q _ _ _=>⟨ob.slots,k b ob q⟩,λ_ _ _ n _=>n,λb ob q _=>⟨ob,k b ob q⟩,λ_ _ q=>q,λ_ _ _ q=>q,λ_ ps q=>⟨#[],by rw[q];simp⟩⟩
theorem Un.refl:Un fs ex H H h h:=Un.kept λ_ _ q=>q
theorem Un.laid(k:∀b u,h.get? b=some u->h'.get? b=some u)(hp:h.objs.size<=a)(hn:H a=none):Un fs ex H (aY H a o) h h' where
 keep:=λb u q _ _ _=>k b u q
 slot:=λb u q _ _ _=>⟨u.slots,k b u q⟩
 free:=λb u q n _=>by rw[bS (cv (cy (bi q) hp))];exact n
 there:=λb u q _=>⟨u,k b u q⟩
 tups:=λb xs q=>by rw[bS (gD q hn)];exact q
 frzs:=λb u xs q=>by rw[bS (gD q hn)];exact q
 tbls:=λb ps q=>⟨#[],by rw[bS (gD q hn),q];simp⟩
theorem Un.write(mu:zO (H x))(he:e=x\/H e=some (.own x))(k:∀b u,b≠e->h.get? b=some u->h'.get? b=some u)(heo:∃u,h'.get? e=some u):Un fs ex H (aY H x o) h h':=by
 have hx:∀b,H b=none->b≠x:=λb n z=>by subst z;rw[n]at mu;exact mu
 have hb:∀b,H b=none->b≠e:=λb n z=>by
  subst z;rcases he with r |r
  .exact hx b n r
  .rw[n]at r;cases r
 have hm:∀b u,H b=some u->¬zO (some u)->b≠x:=λb u q nm z=>by subst z;rw[q]at mu;exact nm mu
 refine⟨λb u q n _ _=>k b u (hb b n) q,λb u q n _ _=>⟨u.slots,k b u (hb b n) q⟩,λb u q n _=>by rw[bS (hx b n)];exact n,λb u q _=>?_,
  λb xs q=>by rw[bS (hm b _ q λz=>z)];exact q,λb u xs q=>by rw[bS (hm b _ q λz=>z)];exact q,λb ps q=>⟨#[],by rw[bS (hm b _ q λz=>z),q];simp⟩⟩
 by_cases hbe:b=e
 .subst hbe;exact heo
 .exact⟨u,k b u hbe q⟩
end
def zA(h:Heap)(H:Hp):List Addr:=(cj h.objs.size).filter λa=>(H a).isSome
def nI(h:Heap)(H:Hp):Heap:=uo h (zA h H)
theorem G4(h:Heap)(H:Hp):(nI h H).objs.size=h.objs.size:=PySem.W.hideAll_size _ _
theorem U8{h:Heap}{H:Hp}{b:Addr}{o:Obj}(e:h.get? b=some o)(n:H b=none):(nI h H).get? b=some o:=
 uq _ e λhm=>by
  have q:(H b).isSome=true:=(yo.mp hm).2;rw[n]at q;simp at q
theorem aaw{h:Heap}{H:Hp}{b:Addr}{o:Obj}(e:(nI h H).get? b=some o):h.get? b=some o/\H b=none:=by
 have e':h.get? b=some o:=yp (zA h H) e;refine⟨e',?_⟩;cases q:H b with
 |none=>rfl
 |some x=>
  have hm:b∈zA h H:=yo.mpr ⟨ur.mpr (bi e'),by simp[q]⟩;have z:(nI h H).get? b=none:=PySem.W.hideAll_none (zA h H) hm;rw[z]at e;cases e
def Y8(g h:Heap)(L:Addr):List (Addr×Obj):=(cj h.objs.size).filterMap λa=>if a=L\/(g.get? a).isSome=true then none else(h.get? a).map λo=>(a,o)
def gB(g h:Heap)(L d:Addr):List (Addr×Obj):=(Y8 g h L).filter λp=>decide (p.1≠d)
structure Mod(K:ag)(mg:Str->AE)(base:Heap):Prop where
 kin:K.In base
 glob:base.Ns mainGlobals mg
 blt:∃mb,base.Ns builtinsNs mb/\∀x:Str,x≠"__name__"->mb x=bootBuiltins x
 nolimit:base.NoLimit
structure Cx where
 prog:Program
 w:al
 K:ag
 mg:Str->AE
 base:Heap
 A:ao
 N:List Str
 AM:aa
 AN:Hp
 env:bf
 outer:List bf
 stack:List bf
 ex:List Addr
 fn:Str->Bool
 calm:Bool
 pn:List (Addr×Obj)
 xe:Value->aa->Prop
def dS(l:List bf):List Addr:=l.filterMap (·.frame)
abbrev Cx.fs(X:Cx):List Addr:=dS X.outer
def oX(sc:Scope)(x:Str):Prop:=sc.names.lookup x=some .local\/sc.names.lookup x=some .cell\/sc.names.lookup x=some .free
def kT(sc:Scope)(x:Str):Prop:=sc.names.lookup x=some .local\/sc.names.lookup x=some .cell
def aeU(env:bf)(h:Heap)(m:Str->AE)(x:Str)(u:Value):Prop:=
 (env.kindOf x=some .local/\m x=some u)\/((env.kindOf x=some .cell\/env.kindOf x=some .free)/\∃c,env.cells.lookup x=some c/\h.IsCell c (some u))
structure Cx.Ok(X:Cx):Prop where
 mod:Mod X.K X.mg X.base
 kind:X.env.scope.kind=.function
 glob:X.env.globals=mainGlobals
 blt:X.env.builtins=builtinsNs
 above:X.AM.heap.objs.size<=X.env.locals
 inj:∀x y c,X.env.cells.lookup x=some c->X.env.cells.lookup y=some c->x=y
 has:∀x,(X.env.kindOf x=some .cell\/X.env.kindOf x=some .free)->∃c,X.env.cells.lookup x=some c
 cab:∀x c,X.fn x=true->X.env.cells.lookup x=some c->X.AM.heap.objs.size<=c
 hd:X.calm=true->X.A.handled=none
 frames:X.A.frames=some X.stack
 stk:X.stack=X.outer\/(X.stack=X.env::X.outer/\X.env.frame=some X.env.locals)
 exf:∀b∈X.ex,b≠X.env.locals/\∀x c,X.env.cells.lookup x=some c->c≠b
 bs:∀b o,X.base.get? b=some o->X.AM.heap.get? b=some o/\X.AN b=none
 bsz:X.base.objs.size<=X.AM.heap.objs.size
 noex:∀b o,X.base.get? b=some o->b∉X.ex
 exfs:∀b∈X.ex,b∉X.fs
 funs:X.AM.heap.FunFrames X.base X.outer
 frf:∀b∈X.fs,X.AN b=none
structure aH(X:Cx)(AL:List (Addr×Obj))(σ:List (Option V))(H:Hp)(s:aa):Prop where
 ok:X.Ok
 os:s.os=X.AM.os
 bare:jh s.gens
 base:Un X.fs X.ex X.AN H X.AM.heap s.heap
 loc:∃m,s.heap.Ns X.env.locals m/\∀(i:Nat)(x:Str)(v:V),X.N[i]?=some x->σ[i]?=some (some v)->oX X.env.scope x->∃u,bT v u/\aeU X.env s.heap m x u
 cell:∀x c,X.env.cells.lookup x=some c->∃v,s.heap.IsCell c v
 free:H X.env.locals=none
 freeC:∀x c,X.env.cells.lookup x=some c->H c=none
 pin:∀p∈X.pn++AL,s.heap.get? p.1=some p.2/\H p.1=none/\p.1≠X.env.locals/\p.1∉X.fs/\∀v,p.2.data≠.cell v
 hok:fJ X.prog X.w H s.heap
 len:σ.length=X.N.length
section
variable{X:Cx}{AL:List (Addr×Obj)}{σ:List (Option V)}{H H':Hp}{s:aa}{h':Heap}
theorem Cx.Ok.nofr(ok:X.Ok){b:Addr}{o:Obj}(e:X.base.get? b=some o):b∉X.fs:=λhb=>by
 have:=(ok.funs.mem hb).1;rw[e]at this;cases this
theorem aH.bs(I:aH X AL σ H s):∀b o,X.base.get? b=some o->s.heap.get? b=some o/\H b=none:=λb o e=>
 ⟨I.base.keep b o (I.ok.bs b o e).1 (I.ok.bs b o e).2 (I.ok.nofr e) (I.ok.noex b o e),I.base.free b o (I.ok.bs b o e).1 (I.ok.bs b o e).2 (I.ok.noex b o e)⟩
theorem aH.bk(I:aH X AL σ H s):∀b o,X.base.get? b=some o->s.heap.get? b=some o:=λb o e=>(I.bs b o e).1
theorem aH.mod(I:aH X AL σ H s):Mod X.K X.mg X.base:=I.ok.mod
theorem aH.kIn(I:aH X AL σ H s):X.K.In s.heap:=I.ok.mod.kin.keeps I.bk
theorem aH.lt(I:aH X AL σ H s):X.env.locals<s.heap.objs.size:=let⟨_,hn,_⟩:=I.loc;hn.lt
theorem aH.sz(I:aH X AL σ H s):X.AM.heap.objs.size<=s.heap.objs.size:=gm I.ok.above (oj I.lt)
theorem aH.nofs(I:aH X AL σ H s){a:Addr}(h:s.heap.objs.size<=a):a∉X.fs:=λhb=>by
 obtain⟨_,o,ho,_⟩:=I.ok.funs.mem hb;exact absurd (cy (bi ho) (gm I.sz h)) (iw _)
theorem aH.cne(I:aH X AL σ H s):∀x c,X.env.cells.lookup x=some c->c≠X.env.locals:=λx c e z=>by
 obtain⟨v,o,ho,hd⟩:=I.cell x c e;obtain⟨m,⟨o',es,ep,ho',hd',_⟩,_⟩:=I.loc;rw[z,ho']at ho;cases ho;rw[hd']at hd;cases hd
theorem aH.funs(I:aH X AL σ H s):s.heap.FunFrames X.base X.outer:=by
 have all:∀(l:List bf),(∀b∈dS l,b∈X.fs)->X.AM.heap.FunFrames X.base l->s.heap.FunFrames X.base l:=by
  intro l
  induction l with
  |nil=>intro _ _;trivial
  |cons env r ih=>
   intro hs hl;obtain⟨hk,⟨L,o,hf,hn,ho,hd⟩,hr⟩:=hl;have hL:L∈X.fs:=hs L (by unfold dS;rw[uu,hf];exact bh);obtain⟨sl,e⟩:=I.base.slot L o ho (I.ok.frf L hL) hL λz=>I.ok.exfs L z hL;exact⟨hk,⟨L,_,hf,hn,e,hd⟩,ih (λb hb=>hs b (by unfold dS;rw[uu,hf];exact bj _ hb)) hr⟩
 exact all X.outer (λ_ hb=>hb) I.ok.funs
theorem aH.stack(I:aH X AL σ H s):s.heap.FunFrames X.base X.stack:=by
 rcases I.ok.stk with e |⟨e,hf⟩
 .rw[e];exact I.funs
 .rw[e]
  obtain⟨m,hn,_⟩:=I.loc;refine .cons (by rw[I.ok.kind];decide) hf hn ?_ I.funs;exact Heap.get?_none_of_le (gm I.ok.bsz I.ok.above)
theorem aH.stkSub(I:aH X AL σ H s):∀b∈dS X.stack,b∈X.env.locals::X.fs:=λb hb=>by
 rcases I.ok.stk with e |⟨e,hf⟩
 .rw[e]at hb;exact bj _ hb
 .rw[e]at hb
  unfold dS at hb;rw[uu,hf]at hb;exact hb
theorem aH.stkFree(I:aH X AL σ H s):∀b∈dS X.stack,H b=none:=λb hb=>by
 rcases cq.mp (I.stkSub b hb)with e |hb
 .rw[e];exact I.free
 .obtain⟨_,o,ho,_⟩:=I.ok.funs.mem hb
  exact I.base.free b o ho (I.ok.frf b hb) λz=>I.ok.exfs b z hb
theorem aH.step{g':Array GenState}{t':Nat}{d':Drawn}{ch:List Addr}(I:aH X AL σ H s)
  (hch:∀b∈ch,(b∈X.ex\/X.AM.heap.objs.size<=b)/\b≠X.env.locals/\(∀x c,X.env.cells.lookup x=some c->c≠b)/\∀p∈X.pn++AL,p.1≠b)
  (keep:∀b o,b≠X.env.locals->b∉X.fs->b∉ch->s.heap.get? b=some o->H b=none->h'.get? b=some o)
  (slot:∀b o,b≠X.env.locals->b∈X.fs->b∉ch->s.heap.get? b=some o->H b=none->∃sl,h'.get? b=some {o with slots:=sl})(free:∀b o,b∉ch->s.heap.get? b=some o->H b=none->H' b=none)
  (there:∀b o,b∉ch->s.heap.get? b=some o->∃o',h'.get? b=some o')
  (tups:∀b xs,H b=some (.tup xs)->H' b=some (.tup xs))(frzs:∀b o u,H b=some (.frz o u)->H' b=some (.frz o u))(tbls:∀b ps,H b=some (.tbl ps)->∃more,H' b=some (.tbl (ps++more)))
  (ns:∀m,s.heap.Ns X.env.locals m->h'.Ns X.env.locals m)(hok:fJ X.prog X.w H' h')(hg:jh g'):
  aH X AL σ H' {s with heap:=h',gens:=g',drawn:=d',toks:=t'}:=by
 have neL:∀b o,X.AM.heap.get? b=some o->b≠X.env.locals:=λb o e=>cv (cy (bi e) I.ok.above);have neC:∀b o,X.AM.heap.get? b=some o->b∉X.ex->b∉ch:=λb o e hx hb=>by
  rcases(hch b hb).1 with z |z
  .exact hx z
  .exact absurd (cy (bi e) z) (iw _)
 have cellK:∀x c,X.env.cells.lookup x=some c->∀v,s.heap.IsCell c v->h'.IsCell c v:=λx c e v ⟨o,ho,hd⟩=>by
  have nch:c∉ch:=λz=>(hch c z).2.2.1 x c e rfl
  by_cases hc:c∈X.fs
  .obtain⟨sl,q⟩:=slot c o (I.cne x c e) hc nch ho (I.freeC x c e)
   exact⟨_,q,hd⟩
  .exact⟨o,keep c o (I.cne x c e) hc nch ho (I.freeC x c e),hd⟩
 refine⟨I.ok,I.os,hg,⟨λb o e n hb hx=>?_,λb o e n hb hx=>?_,λb o e n hx=>?_,λb o e hx=>?_,λb xs e=>tups b xs (I.base.tups b xs e),λb o xs e=>frzs b o xs (I.base.frzs b o xs e),λb ps e=>?_⟩,?_,λx c e=>?_,?_,λx c e=>?_,λp hp=>?_,hok,I.len⟩
 .exact keep b o (neL b o e) hb (neC b o e hx) (I.base.keep b o e n hb hx) (I.base.free b o e n hx)
 .obtain⟨sl,e1⟩:=I.base.slot b o e n hb hx
  obtain⟨sl',e2⟩:=slot b _ (neL b o e) hb (neC b o e hx) e1 (I.base.free b o e n hx);exact⟨sl',e2⟩
 .obtain⟨o',e1⟩:=I.base.there b o e hx
  exact free b o' (neC b o e hx) e1 (I.base.free b o e n hx)
 .obtain⟨o',e1⟩:=I.base.there b o e hx
  exact there b o' (neC b o e hx) e1
 .obtain⟨m1,e1⟩:=I.base.tbls b ps e
  obtain⟨m2,e2⟩:=tbls b _ e1;exact⟨m1++m2,by rw[e2,yn]⟩
 .obtain⟨m,hn,hl⟩:=I.loc
  refine⟨m,ns m hn,λi x v e1 e2 e3=>?_⟩;obtain⟨u,r,l⟩:=hl i x v e1 e2 e3;refine⟨u,r,?_⟩;rcases l with l |⟨k,c,e,z⟩
  .exact .inl l
  .exact .inr ⟨k,c,e,cellK x c e _ z⟩
 .obtain⟨v,z⟩:=I.cell x c e
  exact⟨v,cellK x c e v z⟩
 .obtain⟨m,⟨o,_,_,ho,_⟩,_⟩:=I.loc
  exact free _ o (λz=>(hch _ z).2.1 rfl) ho I.free
 .obtain⟨v,o,ho,hd⟩:=I.cell x c e
  exact free c o (λz=>(hch c z).2.2.1 x c e rfl) ho (I.freeC x c e)
 .obtain⟨e,n,ne,nf,d⟩:=I.pin p hp
  have nch:p.1∉ch:=λz=>(hch p.1 z).2.2.2 p hp rfl;exact⟨keep p.1 p.2 ne nf nch e n,free p.1 p.2 nch e n,ne,nf,d⟩
theorem aH.un{t':Nat}(I:aH X AL σ H s)(u:Un X.fs [] H H' s.heap h')(hok:fJ X.prog X.w H' h'):aH X AL σ H' {s with heap:=h',toks:=t'}:=by
 obtain⟨m,⟨o,es,ep,ho,r⟩,_⟩:=id I.loc;obtain⟨sl,hL⟩:=u.any ho I.free (by simp);exact I.step (g':=s.gens) (d':=s.drawn) (ch:=[]) (λ_ z=>nomatch z) (λb o _ hb _ e n=>u.keep b o e n hb (by simp)) (λb o _ hb _ e n=>u.slot b o e n hb (by simp)) (λb o _ e n=>u.free b o e n (by simp)) (λb o _ e=>u.there b o e (by simp)) u.tups u.frzs u.tbls (λm' hm=>by
  obtain⟨o',es',ep',ho',r'⟩:=hm;rw[ho]at ho';cases ho';exact⟨_,es',ep',hL,r'⟩) hok I.bare
theorem aH.call{g':Array GenState}{t':Nat}{d':Drawn}{ch:List Addr}(I:aH X AL σ H s)(u:Un (dS X.stack) ch H H' s.heap h')(hok:fJ X.prog X.w H' h')(hg:jh g')
  (hch:∀b∈ch,(b∈X.ex\/X.AM.heap.objs.size<=b)/\b≠X.env.locals/\(∀x c,X.env.cells.lookup x=some c->c≠b)/\∀p∈X.pn++AL,p.1≠b):
  aH X AL σ H' {s with heap:=h',gens:=g',drawn:=d',toks:=t'}:=by
 obtain⟨m,⟨o,es,ep,ho,r⟩,_⟩:=id I.loc;obtain⟨sl,hL⟩:=u.any ho I.free λz=>(hch _ z).2.1 rfl;exact I.step (ch:=ch) hch (λb o hL hb hc e n=>u.keep b o e n (λz=>(cq.mp (I.stkSub b z)).elim hL hb) hc) (λb o _ _ hc e n=>u.any e n hc) (λb o hc e n=>u.free b o e n hc) (λb o hc e=>u.there b o e hc) u.tups u.frzs u.tbls (λm' hm=>by
  obtain⟨o',es',ep',ho',r'⟩:=hm;rw[ho]at ho';cases ho';exact⟨_,es',ep',hL,r'⟩) hok hg
theorem aH.turned{t':Nat}{it:Addr}(I:aH X AL σ H s)(k:∀b o,b≠it->s.heap.get? b=some o->h'.get? b=some o)(hn:H it=none)(hL:it≠X.env.locals)
  (h1:it∈X.ex\/X.AM.heap.objs.size<=it)(h2:∀x c,X.env.cells.lookup x=some c->c≠it)(h3:∀p∈X.pn++AL,p.1≠it):aH X AL σ H {s with heap:=h',toks:=t'}:=by
 have nit:∀b u,H b=some u->b≠it:=λb u e z=>by rw[z,hn]at e;cases e
 refine I.step (g':=s.gens) (d':=s.drawn) (ch:=[it]) (λb hb=>?_) (λb o _ _ hc e _=>k b o (λz=>hc (by simp[z])) e) (λb o _ _ hc e _=>⟨o.slots,k b o (λz=>hc (by simp[z])) e⟩) (λ_ _ _ _ n=>n)
  (λb o hc e=>⟨o,k b o (λz=>hc (by simp[z])) e⟩) (λ_ _ e=>e) (λ_ _ _ e=>e) (λb ps e=>⟨#[],by rw[e];simp⟩) (λm hm=>?_) (λb u e=>?_) I.bare
 .have e:b=it:=by simpa using hb
  subst e;exact⟨h1,hL,h2,h3⟩
 .obtain⟨o,es,ep,ho,r⟩:=hm
  exact⟨o,es,ep,k _ o (iz hL) ho,r⟩
 .refine(I.hok b u e).stay (λc v hc q=>k c v ?_ q) (λ_ q=>q) λ_ _ q=>q
  rcases hc with z |z
  .rw[z];exact nit b u e
  .exact nit c _ z
theorem aH.tok(I:aH X AL σ H s)(t:Nat):aH X AL σ H {s with toks:=t}:=I.un (h':=s.heap) (t':=t) Un.refl I.hok
theorem aH.kept{t':Nat}(I:aH X AL σ H s)(k:∀b u,s.heap.get? b=some u->h'.get? b=some u):aH X AL σ H {s with heap:=h',toks:=t'}:=I.un (Un.kept k) (I.hok.kept k)
theorem aH.laid{a:Addr}{o:HO}{t':Nat}(I:aH X AL σ H s)(k:∀b u,s.heap.get? b=some u->h'.get? b=some u)(hp:s.heap.objs.size<=a)(new:fV X.prog X.w (aY H a o) h' a o):
  aH X AL σ (aY H a o) {s with heap:=h',toks:=t'}:=I.un (Un.laid k hp (I.hok.fresh hp)) (I.hok.laid k hp new)
theorem aH.write{x e:Addr}{o:HO}{t':Nat}(I:aH X AL σ H s)(mu:zO (H x))(he:e=x\/H e=some (.own x))(k:∀b u,b≠e->s.heap.get? b=some u->h'.get? b=some u)(heo:∃u,h'.get? e=some u)
  (new:fV X.prog X.w (aY H x o) h' x o):aH X AL σ (aY H x o) {s with heap:=h',toks:=t'}:=I.un (Un.write mu he k heo) (I.hok.write mu he k heo new)
theorem aH.pins_of{pins':List (Addr×Obj)}(I:aH X AL σ H s)(h:∀p∈pins',s.heap.get? p.1=some p.2/\H p.1=none/\p.1≠X.env.locals/\p.1∉X.fs/\∀v,p.2.data≠.cell v):aH X pins' σ H s:=
 ⟨I.ok,I.os,I.bare,I.base,I.loc,I.cell,I.free,I.freeC,λp hp=>(ck.mp hp).elim (λz=>I.pin p (kr _ z)) (h p),I.hok,I.len⟩
theorem Tm{N:List Str}(hN:N.Nodup){i j:Nat}{x:Str}(a:N[i]?=some x)(b:N[j]?=some x):i=j:=by
 obtain⟨h1,e1⟩:=ca.mp a;obtain⟨h2,e2⟩:=ca.mp b;exact(List.getElem_inj hN).mp (e1.trans e2.symm)
theorem E1{M:ku}{A:ao}{E:Value->aa->Prop}{i:Nat}{x:Str}{v:V}{u:Value}{Q:Unit->aa->Prop}(I:aH X AL σ H s)(hN:X.N.Nodup)(hi:X.N[i]?=some x)(hx:kT X.env.scope x)(r:bT v u)
  (h:∀s',aH X AL (σ.set i (some v)) H s'->(∃a,ia a s.heap s'.heap/\(a=X.env.locals\/X.env.cells.lookup x=some a))->Q () s')(hf:X.fn x=true\/X.env.scope.names.lookup x=some .local:=by first |exact .inl rfl |exact .inr rfl |assumption):wpAny M A (storeName X.env x u) Q E s:=by
 obtain⟨m,hn,hl⟩:=id I.loc;have hcls:(X.env.scope.kind== .class||(X.env.scope.kind== .module&&X.env.locals !=X.env.globals))=false:=by rw[I.ok.kind];rfl
 have hiσ:i<σ.length:=by rw[I.len];exact(ca.mp hi).1
 have cne:=I.cne;have tracked:∀{a:Addr}{h':Heap},(∃o,s.heap.get? a=some o/\H a=none)->ia a s.heap h'->fJ X.prog X.w H h':=λ{a h'} ha hs b ob e=>by
  obtain⟨_,_,hfree⟩:=ha;refine(I.hok b ob e).stay (λc w' hc q=>(hs.2 c ?_).trans q) (λ_ q=>q) λ_ _ q=>q
  rintro rfl
  rcases hc with rfl |hc
  .rw[hfree]at e;cases e
  .rw[hfree]at hc;cases hc
 rcases hx with hk |hk
 .refine wpAny_storeName_local hk hn (λh' hn' hs=>?_) hcls
  obtain⟨oL,_,_,hoL,_⟩:=id hn;refine h _ ⟨I.ok,I.os,I.bare,⟨λb o e n hb hx=>?_,λb o e n hb hx=>?_,I.base.free,λb o e hx=>?_,I.base.tups,I.base.frzs,I.base.tbls⟩,⟨_,hn',λj y v' e1 e2 e3=>?_⟩,λy c e=>?_,I.free,I.freeC,λp hp=>?_,tracked ⟨oL,hoL,I.free⟩ hs,by simpa using I.len⟩ ⟨_,hs,.inl rfl⟩
  .exact(hs.2 b (cv (cy (bi e) I.ok.above))).trans (I.base.keep b o e n hb hx)
  .obtain⟨sl,e1⟩:=I.base.slot b o e n hb hx
   exact⟨sl,(hs.2 b (cv (cy (bi e) I.ok.above))).trans e1⟩
  .obtain⟨o',e1⟩:=I.base.there b o e hx
   exact⟨o',(hs.2 b (cv (cy (bi e) I.ok.above))).trans e1⟩
  .by_cases hj:j=i
   .subst hj
    rw[hi]at e1;cases e1;rw[dq hiσ]at e2;cases e2;exact⟨u,r,.inl ⟨hk,by simp⟩⟩
   .rw[dr (iz hj)]at e2
    obtain⟨u',r',q⟩:=hl j y v' e1 e2 e3;refine⟨u',r',?_⟩;rcases q with⟨k,e⟩|⟨k,c,e,z⟩
    .refine .inl ⟨k,?_⟩
     have:y≠x:=λe=>hj (Tm hN e1 (e▸hi));simp[this,e]
    .exact .inr ⟨k,c,e,z.sameBut hs (cne y c e)⟩
  .obtain⟨w',z⟩:=I.cell y c e
   exact⟨w',z.sameBut hs (cne y c e)⟩
  .obtain⟨e,n,ne,nf,d⟩:=I.pin p hp
   exact⟨(hs.2 p.1 ne).trans e,n,ne,nf,d⟩
 .have hfn:X.fn x=true:=by
   rcases hf with z |z
   .exact z
   .rw[z]at hk;cases hk
  obtain⟨c,hc⟩:=I.ok.has x (.inl hk);obtain⟨w',z⟩:=I.cell x c hc;refine wpAny_storeName_cell I.ok.kind hk hc z (λh' hc' hs=>?_);obtain⟨oc,hoc,hocd⟩:=id z;refine h {s with heap:=h'} ⟨I.ok,I.os,I.bare,⟨λb o e n hb hx=>?_,λb o e n hb hx=>?_,I.base.free,λb o e hx=>?_,I.base.tups,I.base.frzs,I.base.tbls⟩,⟨m,hn.sameBut hs (iz (cne x c hc)),λj y v' e1 e2 e3=>?_⟩,λy c' e=>?_,I.free,I.freeC,λp hp=>?_,tracked ⟨oc,hoc,I.freeC x c hc⟩ hs,by simpa using I.len⟩ ⟨c,hs,.inr hc⟩
  .exact(hs.2 b (cv (cy (bi e) (I.ok.cab x c hfn hc)))).trans (I.base.keep b o e n hb hx)
  .obtain⟨sl,e1⟩:=I.base.slot b o e n hb hx
   exact⟨sl,(hs.2 b (cv (cy (bi e) (I.ok.cab x c hfn hc)))).trans e1⟩
  .obtain⟨o',e1⟩:=I.base.there b o e hx
   exact⟨o',(hs.2 b (cv (cy (bi e) (I.ok.cab x c hfn hc)))).trans e1⟩
  .by_cases hj:j=i
   .subst hj
    rw[hi]at e1;cases e1;rw[dq hiσ]at e2;cases e2;exact⟨u,r,.inr ⟨.inl hk,c,hc,hc'⟩⟩
   .rw[dr (iz hj)]at e2
    obtain⟨u',r',q⟩:=hl j y v' e1 e2 e3;refine⟨u',r',?_⟩;rcases q with q |⟨k,c',e,z'⟩
    .exact .inl q
    .refine .inr ⟨k,c',e,z'.sameBut hs ?_⟩
     rintro rfl
     exact hj (Tm hN e1 (I.ok.inj _ _ _ e hc▸hi))
  .by_cases hcc:c'=c
   .subst hcc;exact⟨_,hc'⟩
   .obtain⟨w2,z2⟩:=I.cell y c' e
    exact⟨w2,z2.sameBut hs hcc⟩
  .obtain⟨e,n,ne,nf,d⟩:=I.pin p hp
   refine⟨(hs.2 p.1 ?_).trans e,n,ne,nf,d⟩;intro q;rw[q,hoc]at e;have q':oc=p.2:=bn e;exact d w' (by rw[<-q'];exact hocd)
theorem qX{M:ku}{A:ao}{E:Value->aa->Prop}{i:Nat}{x:Str}{v:V}{u:Value}{Q:Unit->aa->Prop}(I:aH X AL σ H s)(hN:X.N.Nodup)(hi:X.N[i]?=some x)(hx:kT X.env.scope x)(r:bT v u)
  (h:∀s',aH X AL (σ.set i (some v)) H s'->Q () s')(hf:X.fn x=true\/X.env.scope.names.lookup x=some .local:=by first |exact .inl rfl |exact .inr rfl |assumption):wpAny M A (storeName X.env x u) Q E s:=
 E1 I hN hi hx r (λs' I' _=>h s' I') hf
theorem aH.call'{s':aa}{ch:List Addr}(I:aH X AL σ H s)(ho:s'.os=s.os)(u:Un (dS X.stack) ch H H' s.heap s'.heap)(hok:fJ X.prog X.w H' s'.heap)(hg:jh s'.gens)
  (hch:∀b∈ch,(b∈X.ex\/X.AM.heap.objs.size<=b)/\b≠X.env.locals/\(∀x c,X.env.cells.lookup x=some c->c≠b)/\∀p∈X.pn++AL,p.1≠b):aH X AL σ H' s':=by
 obtain⟨h',g',d',t',o'⟩:=s';have e:o'=s.os:=ho;subst e;exact I.call (g':=g') (t':=t') (d':=d') u hok hg hch
end
abbrev XK:=Value->AF->Hp->Prop
abbrev St:=List (Option V)
abbrev VK:=V->Hp->Prop
abbrev TE:=St->Hp->VK->Prop
abbrev TT:=St->Hp->(Bool->Hp->Prop)->Prop
abbrev TA:=St->Hp->(List V->Hp->Prop)->Prop
structure nN where
 nx:St->Hp->Prop
 rt:VK
 bk:St->Hp->Prop:=λ_ _=>False
 ct:St->Hp->Prop:=λ_ _=>False
abbrev TS:=nN->St->Hp->Prop
def EP(X:Cx)(AL:List (Addr×Obj))(σ:St)(Q:VK)(u:Value)(s':aa):Prop:=∃v H',aH X AL σ H' s'/\bT v u/\Q v H'
def TP(X:Cx)(AL:List (Addr×Obj))(σ:St)(Q:Bool->Hp->Prop)(b:Bool)(s':aa):Prop:=∃H',aH X AL σ H' s'/\Q b H'
def AP(X:Cx)(AL:List (Addr×Obj))(σ:St)(Q:List V->Hp->Prop)(us:AD)(s':aa):Prop:=∃vs H',aH X AL σ H' s'/\bI vs us/\Q vs H'
def SP(X:Cx)(AL:List (Addr×Obj))(D:nN)(f:Flow)(s':aa):Prop:=
 match f with
 |.next=>∃σ' H',aH X AL σ' H' s'/\D.nx σ' H'
 |.brk=>∃σ' H',aH X AL σ' H' s'/\D.bk σ' H'
 |.cont=>∃σ' H',aH X AL σ' H' s'/\D.ct σ' H'
 |.ret u=>∃v σ' H',aH X AL σ' H' s'/\bT v u/\D.rt v H'
def PE(X:Cx)(e:ah)(t:TE):Prop:=
 ∀(AL:List (Addr×Obj))(s:aa)(σ:St)(H:Hp)(Q:VK),aH X AL σ H s->t σ H Q->wpAny (model X.prog X.w) X.A (eval e X.env) (EP X AL σ Q) X.xe s
def PT(X:Cx)(e:ah)(t:TT):Prop:=
 ∀(AL:List (Addr×Obj))(s:aa)(σ:St)(H:Hp)(Q:Bool->Hp->Prop),aH X AL σ H s->t σ H Q->wpAny (model X.prog X.w) X.A (isTrue e X.env (eval e X.env)) (TP X AL σ Q) X.xe s
def PW(X:Cx)(e:ah)(t:TT):Prop:=
 ∀(whole:Sem Value)(AL:List (Addr×Obj))(s:aa)(σ:St)(H:Hp)(Q:Bool->Hp->Prop),aH X AL σ H s->t σ H Q->wpAny (model X.prog X.w) X.A (isTrue e X.env whole) (TP X AL σ Q) X.xe s
theorem PW.pt{X:Cx}{e:ah}{t:TT}(h:PW X e t):PT X e t:=h _
def PA(X:Cx)(es:List ah)(t:TA):Prop:=
 ∀(pos:ai)(AL:List (Addr×Obj))(s:aa)(σ:St)(H:Hp)(Q:List V->Hp->Prop),aH X AL σ H s->t σ H Q->wpAny (model X.prog X.w) X.A (spliced (backTo pos (starEach es X.env))) (AP X AL σ Q) X.xe s
def PS(X:Cx)(st:Stmt)(t:TS):Prop:=
 ∀(AL:List (Addr×Obj))(s:aa)(σ:St)(H:Hp)(D:nN),aH X AL σ H s->t D σ H->wpAny (model X.prog X.w) X.A (exec st X.env) (SP X AL D) X.xe s
def gK(X:Cx)(st:List Stmt)(t:TS):Prop:=
 ∀(AL:List (Addr×Obj))(s:aa)(σ:St)(H:Hp)(D:nN),aH X AL σ H s->t D σ H->wpAny (model X.prog X.w) X.A (execs st X.env) (SP X AL D) X.xe s
theorem bH{α:Type}{t:Sem α}{Q Q':α->aa->Prop}{M:ku}{A:ao}{E:Value->aa->Prop}{s:aa}(h:wpAny M A t Q E s)(hQ:∀a s,Q a s->Q' a s):wpAny M A t Q' E s:=fj h hQ λ_ _ x=>x
section
variable{X:Cx}
theorem bin{a b:ah}{ta tb:TE}(ha:PE X a ta)(hb:PE X b tb){AL:List (Addr×Obj)}{s:aa}{σ:St}{H:Hp}{R:V->V->Hp->Prop}(I:aH X AL σ H s)(h:ta σ H λx H1=>tb σ H1 λy H2=>R x y H2)
  {α:Type}{Q:α->aa->Prop}{f:Value->Value->Sem α}
  (hf:∀v u s2 x y H2,aH X AL σ H2 s2->bT x v->bT y u->R x y H2->wpAny (model X.prog X.w) X.A (f v u) Q X.xe s2):
  wpAny (model X.prog X.w) X.A (eval a X.env) (λv AO=>wpAny (model X.prog X.w) X.A (eval b X.env) (λu AS=>wpAny (model X.prog X.w) X.A (f v u) Q X.xe AS) X.xe AO) X.xe s:=by
 refine bH (ha AL s σ H _ I h) ?_
 rintro v s1 ⟨x,H1,I1,r1,q1⟩
 refine bH (hb AL s1 σ H1 _ I1 q1) ?_
 rintro u s2 ⟨y,H2,I2,r2,q2⟩
 exact hf v u s2 x y H2 I2 r1 r2 q2
def Aw(i:Nat):TE:=λσ H Q=>∃v,σ[i]?=some (some v)/\Q v H
def tC(v:V):TE:=λ_ H Q=>Q v H
theorem pW{i:Nat}{x:Str}{pos:ai}(hN:X.N[i]?=some x)(hv:oX X.env.scope x)(hd:(x==("__debug__":Str))=false:=by decide)(hcd:(x==("__classdict__":Str))=false:=by decide):PE X (.Name x pos) (Aw i):=by
 intro AL s σ H Q I h;obtain⟨v,e,h⟩:=h;obtain⟨m,hn,hl⟩:=I.loc;obtain⟨u,r,l⟩:=hl i x v hN e hv;have fin:EP X AL σ Q u s:=⟨v,H,I,r,h⟩;rcases l with⟨hk,hm⟩|⟨hk,c,hc,hcell⟩
 .exact uv (yq I.ok.kind hk hn hm fin) hd
 .rcases hk with hk |hk
  .exact uv (yr I.ok.kind hk hc hcell fin) hd
  .exact uv (wpAny_loadName_free I.ok.kind hk hc hcell fin hcd) hd
theorem Jt{i j pos}:PE X (.Constant (.int i) j pos) (tC (.int i)):=λ_ _ _ H _ I h=>wpAny_Constant_int ⟨.int i,H,I.tok _,⟨_,rfl⟩,h⟩
theorem adx{b j pos}:PE X (.Constant (.bool b) j pos) (tC (.bl b)):=λ_ _ _ H _ I h=>Constant_bool ⟨.bl b,H,I,rfl,h⟩
theorem acX{x j pos}:PE X (.Constant (.str x) j pos) (tC (.str x)):=λ_ _ _ H _ I h=>Calls.Constant_str ⟨.str x,H,I.tok _,⟨_,rfl⟩,h⟩
def Gl(X:Cx)(x:Str):Prop:=X.env.kindOf x=some .globalImplicit
theorem Od{E:Value->aa->Prop}{AL:List (Addr×Obj)}{s:aa}{σ:St}{H:Hp}{x:Str}{u:Value}{pos:ai}{Q:Value->aa->Prop}(I:aH X AL σ H s)(hg:Gl X x)(hm:X.mg x=some u)(h:Q u s)
  (hd:(x==("__debug__":Str))=false:=by decide):wpAny (model X.prog X.w) X.A (eval (.Name x pos) X.env) Q E s:=
 yt I.ok.kind hg (Calls.loadGlobal_global (by rw[I.ok.glob];exact I.mod.glob.keeps I.bk) hm h) hd
theorem pV{E:Value->aa->Prop}{AL:List (Addr×Obj)}{s:aa}{σ:St}{H:Hp}{x:Str}{u:Value}{pos:ai}{Q:Value->aa->Prop}(I:aH X AL σ H s)(hg:Gl X x)(hm:X.mg x=none)(hv:bootBuiltins x=some u)(h:Q u s)
  (hn:x≠"__name__":=by decide)(hd:(x==("__debug__":Str))=false:=by decide):wpAny (model X.prog X.w) X.A (eval (.Name x pos) X.env) Q E s:=by
 obtain⟨mb,h1,h2⟩:=I.mod.blt;exact yt I.ok.kind hg (Calls.loadGlobal_builtin (by rw[I.ok.glob];exact I.mod.glob.keeps I.bk) hm (by rw[I.ok.blt];exact h1.keeps I.bk) ((h2 x hn).trans hv) h) hd
theorem aa6{x:Str}{v:V}{u:Value}{pos:ai}(hg:Gl X x)(hm:X.mg x=some u)(r:bT v u)(hd:(x==("__debug__":Str))=false:=by decide):PE X (.Name x pos) (tC v):=
 λ_ _ _ H _ I h=>Od I hg hm ⟨v,H,I,r,h⟩ hd
theorem Z4{x:Str}{v:V}{u:Value}{pos:ai}(hg:Gl X x)(hm:X.mg x=none)(hv:bootBuiltins x=some u)(r:bT v u)(hn:x≠"__name__":=by decide)(hd:(x==("__debug__":Str))=false:=by decide):PE X (.Name x pos) (tC v):=
 λ_ _ _ H _ I h=>pV I hg hm hv ⟨v,H,I,r,h⟩ hn hd
variable{a b:ah}{ta tb:TE}{pos:ai}
def PC(X:Cx)(op:ke)(a b:ah)(t:TE):Prop:=
 ∀(AL:List (Addr×Obj))(s:aa)(σ:St)(H:Hp)(Q:VK),aH X AL σ H s->t σ H Q->
  wpAny (model X.prog X.w) X.A (eval a X.env) (λv AO=>wpAny (model X.prog X.w) X.A (eval b X.env) (λu AS=>wpAny (model X.prog X.w) X.A (compareOp op v u) (EP X AL σ Q) X.xe AS) X.xe AO) X.xe s
theorem Y6(b:ah){op:ke}(h:op≠.In)(h2:op≠.NotIn):behindInMarks op b=false:=by
 have e1:(op==CmpOp.In)=false:=by cases op<;>first |rfl |exact absurd rfl h
 have e2:(op==CmpOp.NotIn)=false:=by cases op<;>first |rfl |exact absurd rfl h2
 cases b<;>simp[behindInMarks,e1,e2]
def tB(t:TE):TT:=λσ H Q=>t σ H λx H1=>∃c,x=.bl c/\Q c H1
theorem aes{op:ke}{t:TE}(h:PC X op a b t)(h1:behindInMarks op b=false:=by first |exact Y6 _ (by decide) (by decide) |rfl):PT X (.Compare a [op] [b] pos) (tB t):=by
 intro AL s σ H Q I hw;refine yu (bH (h AL s σ H _ I hw) λv s1 h1=>bH h1 λu s2 h2=>bH h2 λc s3 hq=>?_) h1;rcases hq with⟨x,H1,I1,r1,q1⟩;obtain⟨d,rfl,q⟩:=q1;cases r1;exact lr ⟨H1,I1,q⟩
theorem acK{e:ah}{t:TE}(h:PE X e t)(he:∀whole,isTrue e X.env whole=(do let v <-whole;standAt e.pos;holding [v] (truthy v)):=by intro _;rfl):PT X e (tB t):=by
 intro AL s σ H Q I hw;refine isTrue_plain (bH (h AL s σ H _ I hw) λv s1 hq=>?_) (he _);rcases hq with⟨x,H1,I1,r1,q1⟩;obtain⟨d,rfl,q⟩:=q1;cases r1;exact lr ⟨H1,I1,q⟩
variable{tA tB':TT}{gB:List ah}
def aeQ(t u:TT):TT:=λσ H Q=>t σ H λc H1=>if c=true then u σ H1 Q else Q false H1
def tOr(t u:TT):TT:=λσ H Q=>t σ H λc H1=>if c=true then Q true H1 else u σ H1 Q
def aeG(t:TT):TT:=λσ H Q=>t σ H λc H1=>Q (!c) H1
theorem Z6(ha:PT X a tA):PW X (.BoolOp .And [a] pos) tA:=by
 intro wh AL s σ H Q I h;refine isTrue_and (bH (ha AL s σ H Q I h) λc s1 e=>?_);cases c with
 |true=>exact isTrue_and_nil e
 |false=>exact e
theorem acg(ha:PT X a tA):PW X (.BoolOp .Or [a] pos) tA:=by
 intro wh AL s σ H Q I h;refine isTrue_or (bH (ha AL s σ H Q I h) λc s1 e=>?_);cases c with
 |false=>exact isTrue_or_nil e
 |true=>exact e
theorem abW(ha:PT X a tA)(hb:PW X (.BoolOp .And (b::gB) pos) tB'):PW X (.BoolOp .And (a::b::gB) pos) (aeQ tA tB'):=by
 intro wh AL s σ H Q I h;refine isTrue_and (bH (ha AL s σ H _ I h) λc s1 hq=>?_);rcases hq with⟨H1,I1,q1⟩;cases c with
 |true=>exact hb wh AL s1 σ H1 Q I1 q1
 |false=>exact⟨H1,I1,q1⟩
theorem aem(ha:PT X a tA)(hb:PW X (.BoolOp .Or (b::gB) pos) tB'):PW X (.BoolOp .Or (a::b::gB) pos) (tOr tA tB'):=by
 intro wh AL s σ H Q I h;refine isTrue_or (bH (ha AL s σ H _ I h) λc s1 hq=>?_);rcases hq with⟨H1,I1,q1⟩;cases c with
 |true=>exact⟨H1,I1,q1⟩
 |false=>exact hb wh AL s1 σ H1 Q I1 q1
theorem acl(ha:PT X a tA):PT X (.UnaryOp .Not a pos) (aeG tA):=by
 intro AL s σ H Q I h;exact isTrue_not (ha AL s σ H (λc H1=>Q (!c) H1) I h)
def adv(ta tb:TE):TE:=λσ H Q=>ta σ H λx H1=>∃c,x=.bl c/\if c=true then tb σ H1 Q else Q (.bl false) H1
def adQ(ta:TE):TE:=λσ H Q=>ta σ H λx H1=>∃c,x=.bl c/\Q (.bl (!c)) H1
theorem ac3(ha:PE X a ta)(hb:PE X (.BoolOp .And (b::gB) pos) tb):PE X (.BoolOp .And (a::b::gB) pos) (adv ta tb):=by
 intro AL s σ H Q I h;refine BoolOp_and (bH (ha AL s σ H _ I h) λv s1 hq=>?_);rcases hq with⟨x,H1,I1,r1,q1⟩;obtain⟨c,rfl,q1⟩:=q1;cases r1;refine lr ?_;cases c with
 |true=>exact hb AL s1 σ H1 Q I1 q1
 |false=>exact⟨.bl false,H1,I1,rfl,q1⟩
theorem aca(ha:PE X a ta):PE X (.UnaryOp .Not a pos) (adQ ta):=by
 intro AL s σ H Q I h;refine UnaryOp_ (bH (ha AL s σ H _ I h) λv s1 hq=>?_);rcases hq with⟨x,H1,I1,r1,q1⟩;obtain⟨c,rfl,q1⟩:=q1;cases r1;exact not_of (lr ⟨.bl (!c),H1,I1,rfl,q1⟩)
def tIf(t:TT)(ta tb:TE):TE:=λσ H Q=>t σ H λc H1=>if c=true then ta σ H1 Q else tb σ H1 Q
theorem R0{c:ah}(hc:PT X c tA)(ha:PE X a ta)(hb:PE X b tb):PE X (.IfExp c a b pos) (tIf tA ta tb):=by
 intro AL s σ H Q I h;refine wpAny_IfExp (bH (hc AL s σ H _ I h) λd s1 hq=>?_);rcases hq with⟨H1,I1,q1⟩;cases d with
 |true=>exact ha AL s1 σ H1 Q I1 q1
 |false=>exact hb AL s1 σ H1 Q I1 q1
end
def cJ(K:ag)(H:Hp)(a:Addr)(xs:List V):Prop:=
 Rd H a (.lst xs)\/
  ∃(o:Obj)(its:Array Value)(n:Nat),K.lookup a=some o/\o.cls=.type "list"/\o.dict=none/\o.data=.seq its n/\its.size<=sizeLine/\bI xs its.toList
def dJ(K:ag)(H:Hp)(a:Addr)(xs:List V):Prop:=
 Rd H a (.tup xs)\/
  ∃(o:Obj)(its:Array Value)(n:Nat),K.lookup a=some o/\o.cls=.type "tuple"/\o.data=.seq its n/\its.size<=sizeLine/\bI xs its.toList
def ae6:Value->Option V
 |.none=>some .non
 |.bool b=>some (.bl b)
 |.int i _=>some (.int i)
 |.str x _=>some (.str x)
 |.bytes b _=>some (.byt b)
 |.float b _=>some (.flt b)
 |.ref a=>some (.ref a)
 |.type n=>some (.ty n)
 |_=>none
theorem bT.abs{x:V}{u:Value}(r:bT x u):ae6 u=some x:=by
 cases x with
 |non=>cases r;rfl
 |bl _=>cases r;rfl
 |int _=>obtain⟨t,rfl⟩:=r;rfl
 |str _=>obtain⟨t,rfl⟩:=r;rfl
 |byt _=>obtain⟨t,rfl⟩:=r;rfl
 |flt _=>obtain⟨t,rfl⟩:=r;rfl
 |ref _=>cases r;rfl
 |ty _=>cases r;rfl
theorem bT.inj{x y:V}{u:Value}(r:bT x u)(q:bT y u):x=y:=bn (r.abs.symm.trans q.abs)
theorem bI.inj:∀{xs ys:List V}{us:AD},bI xs us->bI ys us->xs=ys
 |_,_,_,.nil,.nil=>rfl
 |_,_,_,.cons r t,.cons r' t'=>by rw[r.inj r',bI.inj t t']
section
variable{X:Cx}{AL:List (Addr×Obj)}{σ:St}{H:Hp}{s:aa}{a:Addr}{xs ys:List V}
theorem cJ.of{K:ag}(h:H a=some (.lst xs)):cJ K H a xs:=.inl (.inl h)
theorem dJ.of{K:ag}(h:H a=some (.tup xs)):dJ K H a xs:=.inl (.inl h)
theorem aH.list(I:aH X AL σ H s)(h:cJ X.K H a xs):∃its:AD,bI xs its/\PlainL s.heap a its.toArray/\xs.length<=sizeLine:=by
 rcases h with h |⟨o,its,n,hk,hc,hd,hs,hz,r⟩
 .obtain⟨z,its,n,r,e⟩:=h.ok I.hok
  exact⟨its,r,⟨_,n,e,rfl,rfl,rfl⟩,z⟩
 .refine⟨its.toList,r,⟨o,n,I.kIn a o hk,hc,hd,by simpa using hs⟩,?_⟩
  have e:=r.length;simp only[qg]at e;omega
theorem aH.tuple(I:aH X AL σ H s)(h:dJ X.K H a xs):∃its:AD,bI xs its/\IsTup s.heap a its.toArray/\xs.length<=sizeLine:=by
 rcases h with h |⟨o,its,n,hk,hc,hs,hz,r⟩
 .obtain⟨z,its,r,p⟩:=h.ok I.hok
  exact⟨its,r,p,z⟩
 .refine⟨its.toList,r,⟨o,I.kIn a o hk,hc,n,by simpa using hs⟩,?_⟩
  have e:=r.length;simp only[qg]at e;omega
theorem aH.list_inj(I:aH X AL σ H s)(h:cJ X.K H a xs)(h':cJ X.K H a ys):xs=ys:=by
 obtain⟨its,r,⟨o,n,e,_,_,d⟩,_⟩:=I.list h;obtain⟨its',r',⟨o',n',e',_,_,d'⟩,_⟩:=I.list h';rw[e]at e';cases e';rw[d]at d';injection d' with d1 _;have:its=its':=by simpa using congrArg uw d1
 subst this;exact r.inj r'
theorem aH.tuple_inj(I:aH X AL σ H s)(h:dJ X.K H a xs)(h':dJ X.K H a ys):xs=ys:=by
 obtain⟨its,r,⟨o,e,_,n,d⟩,_⟩:=I.tuple h;obtain⟨its',r',⟨o',e',_,n',d'⟩,_⟩:=I.tuple h';rw[e]at e';cases e';rw[d]at d';injection d' with d1 _;have:its=its':=by simpa using congrArg uw d1
 subst this;exact r.inj r'
end
abbrev Cx.wish(X:Cx)(E:Value->aa->Prop):Cx:={X with xe:=E}
abbrev Cx.nox(X:Cx):Cx:=X.wish λ_ _=>False
theorem Cx.Ok.wish{X:Cx}(ok:X.Ok)(E:Value->aa->Prop):(X.wish E).Ok:=
 ⟨ok.mod,ok.kind,ok.glob,ok.blt,ok.above,ok.inj,ok.has,ok.cab,ok.hd,ok.frames,ok.stk,ok.exf,ok.bs,ok.bsz,ok.noex,ok.exfs,ok.funs,ok.frf⟩
theorem Cx.Ok.unwish{X:Cx}{E:Value->aa->Prop}(ok:(X.wish E).Ok):X.Ok:=
 ⟨ok.mod,ok.kind,ok.glob,ok.blt,ok.above,ok.inj,ok.has,ok.cab,ok.hd,ok.frames,ok.stk,ok.exf,ok.bs,ok.bsz,ok.noex,ok.exfs,ok.funs,ok.frf⟩
section
variable{X:Cx}{AL:List (Addr×Obj)}{σ:St}{H:Hp}{s:aa}{E:Value->aa->Prop}
theorem aH.wish(I:aH X AL σ H s)(E:Value->aa->Prop):aH (X.wish E) AL σ H s:=⟨I.ok.wish E,I.os,I.bare,I.base,I.loc,I.cell,I.free,I.freeC,I.pin,I.hok,I.len⟩
theorem aH.unwish(I:aH (X.wish E) AL σ H s):aH X AL σ H s:=⟨I.ok.unwish,I.os,I.bare,I.base,I.loc,I.cell,I.free,I.freeC,I.pin,I.hok,I.len⟩
theorem SP.unwish{D:nN}{f:Flow}{s':aa}(h:SP (X.wish E) AL D f s'):SP X AL D f s':=by
 cases f with
 |next=>obtain⟨σ',H',I,q⟩:=h;exact⟨σ',H',I.unwish,q⟩
 |brk=>obtain⟨σ',H',I,q⟩:=h;exact⟨σ',H',I.unwish,q⟩
 |cont=>obtain⟨σ',H',I,q⟩:=h;exact⟨σ',H',I.unwish,q⟩
 |ret u=>obtain⟨v,σ',H',I,r,q⟩:=h;exact⟨v,σ',H',I.unwish,r,q⟩
theorem gK.nox{st:List Stmt}{t:TS}(h:gK X.nox st t):gK X st t:=λAL s σ H D I hw=>
 fj (h AL s σ H D (I.wish _) hw) (λ_ _ q=>q.unwish) λ_ _ z=>jl z
end
section
variable{X:Cx}{st:Stmt}{gB:List Stmt}{t u:TS}{e:ah}{te:TE}{pos:ai}
def adS:TS:=λD σ H=>D.nx σ H
def aeM(t u:TS):TS:=λD σ H=>t {D with nx:=u D} σ H
theorem aaL:gK X [] adS:=λ_ _ σ H _ I h=>qh ⟨σ,H,I,h⟩
theorem O9(h1:PS X st t)(h2:gK X gB u):gK X (st::gB) (aeM t u):=by
 intro AL s σ H D I h;refine wpAny_execs_cons (bH (h1 AL s σ H {D with nx:=u D} I h) λf s1 q=>?_);cases f with
 |next=>
  obtain⟨σ',H',I',q⟩:=q;exact h2 AL s1 σ' H' D I' q
 |ret v=>exact q
 |brk=>exact q
 |cont=>exact q
theorem Kp(h1:PS X st t):gK X [st] t:=by
 intro AL s σ H D I h;refine wpAny_execs_cons (bH (h1 AL s σ H D I h) λf s1 q=>?_);cases f with
 |next=>exact qh q
 |ret v=>exact q
 |brk=>exact q
 |cont=>exact q
theorem aH.quiet{AL:List (Addr×Obj)}{σ:St}{H:Hp}{s:aa}(I:aH X AL σ H s):interactive X.env=false:=by simp[interactive,I.ok.kind]
def adX(te:TE):TS:=λD σ H=>te σ H λ_ H1=>D.nx σ H1
theorem aad(he:PE X e te)(hs:swapsWith e none pos.line X.env=pure false:=by rfl):PS X (.Expr e pos) (adX te):=by
 intro AL s σ H D I h;exact wpAny_Expr_any (bH (he AL s σ H _ I h) λv s1 ⟨x,H1,I1,r1,q1⟩=>⟨σ,H1,I1,q1⟩) I.quiet hs
def aeS(te:TE):TS:=λD σ H=>te σ H D.rt
theorem acF(he:PE X e te):PS X (.Return (some e) pos) (aeS te):=by
 intro AL s σ H D I h;exact wpAny_Return_some (bH (he AL s σ H _ I h) λv s1 ⟨x,H1,I1,r1,q1⟩=>⟨x,σ,H1,I1,r1,q1⟩)
def adU:TS:=λD _ H=>D.rt .non H
theorem aaZ:PS X (.Return none pos) adU:=λ_ _ σ H _ I h=>wpAny_Return_none ⟨.non,σ,H,I,rfl,h⟩
def ae5(c:TT)(t u:TS):TS:=λD σ H=>c σ H λb H1=>if b=true then t D σ H1 else u D σ H1
theorem adW{c:ah}{a b:List Stmt}{tc:TT}(hc:PT X c tc)(ha:gK X a t)(hb:gK X b u):PS X (.If c a b pos) (ae5 tc t u):=by
 intro AL s σ H D I h;refine wpAny_If (bH (hc AL s σ H _ I h) λd s1 hq=>?_);rcases hq with⟨H1,I1,q1⟩;cases d with
 |true=>exact ha AL s1 σ H1 D I1 q1
 |false=>exact hb AL s1 σ H1 D I1 q1
end
abbrev TG:=V->St->Hp->(St->Hp->Prop)->Prop
abbrev nP:=List V->St->Hp->(St->Hp->Prop)->Prop
def PG(X:Cx)(target:ah)(t:TG):Prop:=
 ∀(AL:List (Addr×Obj))(s:aa)(σ:St)(H:Hp)(v:V)(u:Value)(Q:St->Hp->Prop),aH X AL σ H s->bT v u->t v σ H Q->
  wpAny (model X.prog X.w) X.A (assign target X.env u) (λ_ s'=>∃σ' H',aH X AL σ' H' s'/\Q σ' H') X.xe s
def mH(X:Cx)(ts:List ah)(t:nP):Prop:=
 ∀(AL:List (Addr×Obj))(s:aa)(σ:St)(H:Hp)(vs:List V)(us:AD)(Q:St->Hp->Prop),aH X AL σ H s->bI vs us->t vs σ H Q->
  wpAny (model X.prog X.w) X.A (assignInOrder ((assignEach ts X.env).map (·.2)) us) (λ_ s'=>∃σ' H',aH X AL σ' H' s'/\Q σ' H') X.xe s
abbrev yK:=V->V->V->Hp->(Hp->Prop)->Prop
def Eg(X:Cx)(t:yK):Prop:=
 ∀(AL:List (Addr×Obj))(s:aa)(σ:St)(H:Hp)(o i v:V)(ov iv u:Value)(Q:Hp->Prop),aH X AL σ H s->bT o ov->bT i iv->bT v u->t o i v H Q->
  wpAny (model X.prog X.w) X.A (setItem ov iv u) (λ_ s'=>∃H',aH X AL σ H' s'/\Q H') X.xe s
abbrev zH:=V->V->Hp->VK->Prop
def PIp(X:Cx)(op:qi)(t:zH):Prop:=
 ∀(AL:List (Addr×Obj))(s:aa)(σ:St)(H:Hp)(x y:V)(v u:Value)(Q:VK),aH X AL σ H s->bT x v->bT y u->t x y H Q->
  wpAny (model X.prog X.w) X.A (inplaceOp op v u) (EP X AL σ Q) X.xe s
section
variable{X:Cx}{pos:ai}
def Uf(i:Nat):TG:=λv σ H Q=>Q (σ.set i (some v)) H
theorem Dr{i:Nat}{x:Str}(hN:X.N.Nodup)(hi:X.N[i]?=some x)(hx:kT X.env.scope x)(hf:X.fn x=true\/X.env.scope.names.lookup x=some .local:=by first |exact .inl rfl |exact .inr rfl |assumption):PG X (.Name x pos) (Uf i):=by
 intro AL s σ H v u Q I r h;exact wpAny_assign_Name (qX I hN hi hx r (λs' I'=>⟨_,H,I',h⟩) hf)
def aeL:nP:=λvs σ H Q=>vs=[]/\Q σ H
def adw(t:TG)(u:nP):nP:=λvs σ H Q=>∃v r,vs=v::r/\t v σ H λσ' H'=>u r σ' H' Q
theorem aax:mH X [] aeL:=by
 intro AL s σ H vs us Q I r h;obtain⟨e,h⟩:=h;subst e;cases r;exact assignInOrder_nil ⟨σ,H,I,h⟩
theorem K3{e:ah}{es:List ah}{t:TG}{u:nP}(h1:PG X e t)(h2:mH X es u)
  (hs:(assignEach (e::es) X.env).map (·.2)=assign e X.env::(assignEach es X.env).map (·.2):=by rfl):mH X (e::es) (adw t u):=by
 intro AL s σ H vs us Q I r h;obtain⟨v,vr,e1,h⟩:=h;subst e1;cases r with
 |cons r rr=>
  rw[hs];refine uz (bH (h1 AL s σ H _ _ _ I r h) λ_ s1 hq=>?_);rcases hq with⟨σ1,H1,I1,q1⟩;exact h2 AL s1 σ1 H1 _ _ Q I1 rr q1
def aeP(K:ag)(n:Nat)(t:nP):TG:=λv σ H Q=>∃a xs,v=.ref a/\dJ K H a xs/\xs.length=n/\t xs σ H Q
theorem acP{es:List ah}{k:Nat}{t:nP}{n:Nat}(hc:X.calm=true)(h:mH X es t)
  (hn:(assignEach es X.env).length=n:=by rfl)(hst:(assignEach es X.env).findIdx? (·.1)=none:=by rfl):PG X (.Tuple es k pos) (aeP X.K n t):=by
 intro AL s σ H v u Q I r hw;obtain⟨a,xs,e1,hq,hl,hw⟩:=hw;subst e1;cases r;obtain⟨its,rv,ht,hz⟩:=I.tuple hq;refine assign_Tuple_tuple (I.ok.hd hc) ht (by simp[hn,<-hl,rv.length]) hst λh' hx=>?_;have I1:aH X AL σ H {s with heap:=h'}:=I.kept (t':=s.toks) λb o e=>hx b o (cv (bi e)) e;exact h AL _ σ H xs _ Q I1 (by simpa using rv) hw
def aeR(to ti:TE)(t:yK):TG:=λv σ H Q=>to σ H λo H1=>ti σ H1 λi H2=>t o i v H2 λH3=>Q σ H3
theorem Zd{o i:ah}{to ti:TE}{t:yK}(ho:PE X o to)(hi:PE X i ti)(hs:Eg X t)
  (ha:∀v,assign (.Subscript o i pos) X.env v=(do
   let ov <-holding [v] (eval o X.env)
   let iv <-holding [v,ov] (eval i X.env)
   standAt pos
   holding [v,ov,iv] (setItem ov iv v)
   release [v,ov,iv] []):=by intro _;rfl):PG X (.Subscript o i pos) (aeR to ti t):=by
 intro AL s σ H v u Q I r h;rw[ha];refine ae (jw (bH (ho AL s σ H _ I h) λov s1 hq=>?_));rcases hq with⟨x,H1,I1,r1,q1⟩;refine ae (jw (bH (hi AL s1 σ H1 _ I1 q1) λiv s2 hq=>?_));rcases hq with⟨y,H2,I2,r2,q2⟩;refine ae (om (ae (jw (bH (hs AL s2 σ H2 x y v ov iv u _ I2 r1 r2 r q2) λ_ s3 hq=>?_))));rcases hq with⟨H3,I3,q3⟩;exact wpAny_release ⟨σ,H3,I3,q3⟩
def Qg(te:TE)(g:TG):TS:=λD σ H=>te σ H λx H1=>g x σ H1 D.nx
theorem wY{tg e:ah}{te:TE}{g:TG}(he:PE X e te)(hg:PG X tg g)(hs:swapsWithSole [tg] e pos.line X.env=pure false:=by rfl)(hw:swappedStores [tg] e X.env=pure none:=by rfl)
  (h1:(assignEach [tg] X.env).map (·.2)=[assign tg X.env]:=by rfl):PS X (.Assign [tg] e pos) (Qg te g):=by
 intro AL s σ H D I h;refine wpAny_Assign_stores (bH (he AL s σ H _ I h) λv s1 hq=>?_) hs hw;rcases hq with⟨x,H1,I1,r1,q1⟩;rw[h1];exact bH (hg AL s1 σ H1 x v _ I1 r1 q1) λ_ s2 q=>q
theorem acM{i:Nat}{x:Str}{e:ah}{te:TE}{pos':ai}(hN:X.N.Nodup)(hi:X.N[i]?=some x)(hx:kT X.env.scope x)(he:PE X e te)(hs:swapsWith e (some (.Name x pos')) pos.line X.env=pure false:=by rfl)(hf:X.fn x=true\/X.env.scope.names.lookup x=some .local:=by first |exact .inl rfl |exact .inr rfl |assumption):
  PS X (.Assign [.Name x pos'] e pos) (Qg te (Uf i)):=by
 intro AL s σ H D I h;refine wpAny_Assign_Name (bH (he AL s σ H _ I h) λv s1 hq=>?_) hs;rcases hq with⟨y,H1,I1,r1,q1⟩;exact qX I1 hN hi hx r1 (λs2 I2=>⟨_,H1,I2,q1⟩) hf
def aet(i j:Nat)(ta:TA):TS:=λD σ H=>ta σ H λvs H1=>∃v w,vs=[v,w]/\D.nx ((σ.set i (some v)).set j (some w)) H1
theorem acz{i j:Nat}{x y:Str}{a b:ah}{ta:TA}{px py pt:ai}{kt k2 fE}(hc:X.calm=true)(hN:X.N.Nodup)(hi:X.N[i]?=some x)(hj:X.N[j]?=some y)(hij:i≠j)
  (hx:X.env.scope.names.lookup x=some .local)(hy:X.env.scope.names.lookup y=some .local)(ha:PA X [a,b] ta)
  (hw:swappedStores [.Tuple [.Name x px,.Name y py] kt pt] (.Tuple [a,b] k2 fE) X.env=pure (some [x,y]))
  (hs:swapsWithSole [.Tuple [.Name x px,.Name y py] kt pt] (.Tuple [a,b] k2 fE) pos.line X.env=pure false:=by rfl):
  PS X (.Assign [.Tuple [.Name x px,.Name y py] kt pt] (.Tuple [a,b] k2 fE) pos) (aet i j ta):=by
 intro AL s σ H D I h;rw[exec_Assign_arm];refine ae (om ?_);rw[hs];refine ae (ak ?_);rw[if_neg (by decide)];refine ae (Tuple_ (bH (ha _ AL s σ H _ I h) λus s1 hq=>?_));rcases hq with⟨vs,H1,I1,r1,q1⟩;obtain⟨v,w,e1,q1⟩:=q1;subst e1;obtain⟨u1,u2,rfl,rv,rw'⟩:∃u1 u2,us=[u1,u2]/\bT v u1/\bT w u2:=by
  cases r1 with
  |cons p q=>
   cases q with
   |cons p' q'=>
    cases q';exact⟨_,_,rfl,p,p'⟩
 refine ib ?_ (by show 2<=sizeLine;decide);have I2:aH X AL σ H1 {s1 with heap:=s1.heap.push {cls:=.type "tuple",data:=.seq [u1,u2].toArray}}:=I1.kept (t':=s1.toks) λb o e=>ax _ e;rw[hw];refine ae (ak ?_);show wpAny (model X.prog X.w) X.A (do rule "assign.swapped-stores";let items <-unpackItems (.ref s1.heap.objs.size) 2 none;assignInOrder [λv=>bindName X.env y v,λv=>bindName X.env x v] items.reverse;pure Flow.next) _ _ _
 refine ae (ly (ae (unpackItems_tuple (items:=#[u1,u2]) (I.ok.hd hc) (qj s1.heap _) λh' hx'=>?_)));have I3:=I2.kept (h':=h') (t':=s1.toks) λb o e=>hx' b o (cv (bi e)) e;show wpAny _ _ (assignInOrder [λv=>bindName X.env y v,λv=>bindName X.env x v] [u2,u1] >>= λ_=>pure Flow.next) _ _ _
 refine ae (uz (wpAny_bindName (qX I3 hN hj (.inl hy) rw' (λs2 I4=>?_) (.inr hy))));refine uz (wpAny_bindName (qX I4 hN hi (.inl hx) rv (λs3 I5=>assignInOrder_nil (ak ?_)) (.inr hx)));rw[List.set_comm _ _ (iz hij)]at I5;exact⟨_,H1,I5,q1⟩
def afc(i:Nat)(te:TE)(ti:zH):TS:=λD σ H=>∃x,σ[i]?=some (some x)/\te σ H λy H1=>ti x y H1 λz H2=>D.nx (σ.set i (some z)) H2
theorem abR{i:Nat}{x:Str}{e:ah}{te:TE}{op:qi}{ti:zH}{pos':ai}(hN:X.N.Nodup)(hi:X.N[i]?=some x)(hx:kT X.env.scope x)(he:PE X e te)(ho:PIp X op ti)(hf:X.fn x=true\/X.env.scope.names.lookup x=some .local:=by first |exact .inl rfl |exact .inr rfl |assumption):
  PS X (.AugAssign (.Name x pos') op e pos) (afc i te ti):=by
 intro AL s σ H D I h;obtain⟨v,e1,h⟩:=h;obtain⟨m,hn,hl⟩:=I.loc;have vis:oX X.env.scope x:=by rcases hx with k |k;exact .inl k;exact .inr (.inl k)
 obtain⟨u,r,l⟩:=hl i x v hi e1 vis;refine wpAny_AugAssign_Name ?_;have go:wpAny (model X.prog X.w) X.A (eval e X.env) (λw AS=>wpAny (model X.prog X.w) X.A (inplaceOp op u w) (λr s₃=>wpAny (model X.prog X.w) X.A (storeName X.env x r) (λ_=>SP X AL D .next) X.xe s₃) X.xe AS) X.xe s:=by
  refine bH (he AL s σ H _ I h) ?_
  rintro w s1 ⟨y,H1,I1,r1,q1⟩
  refine bH (ho AL s1 σ H1 v y u w _ I1 r r1 q1) ?_
  rintro z s2 ⟨zv,H2,I2,r2,q2⟩
  exact qX I2 hN hi hx r2 (λs3 I3=>⟨_,H2,I3,q2⟩) hf
 rcases l with⟨hk,hm⟩|⟨hk,c,hc,hcell⟩
 .exact yq I.ok.kind hk hn hm go
 .rcases hk with hk |hk
  .exact yr I.ok.kind hk hc hcell go
  .rcases hx with k |k
   .have:X.env.scope.names.lookup x=some .free:=hk
    rw[k]at this;cases this
   .have:X.env.scope.names.lookup x=some .free:=hk
    rw[k]at this;cases this
end
section
variable{X:Cx}{pos:ai}
def acE(c:TT)(tb:TS):TS:=λD σ H=>∃W:Nat->St->Hp->Prop,(∃m,W m σ H)/\∀m σ H,W m σ H->
 c σ H λb H1=>if b=true then ∃N:St->Hp->Prop,(∀σ' H',N σ' H'->∃m',m'<m/\W m' σ' H')/\tb {D with nx:=N,ct:=N,bk:=D.nx} σ H1 else D.nx σ H1
theorem R5{c:ah}{body:List Stmt}{tc:TT}{tb:TS}(hp:oo (model X.prog X.w) X.A X.env X.xe)(hc:PT X c tc)(hb:gK X body tb):PS X (.While c body [] pos) (acE tc tb):=by
 intro AL s σ H D I h;obtain⟨W,⟨m0,w0⟩,turn⟩:=h;refine wpAny_While (codeAny_whileLoop (λn s'=>∃σ' H',aH X AL σ' H' s'/\W n σ' H') ?_ m0 ⟨σ,H,I,w0⟩)
 rintro n s1 ⟨σ1,H1,I1,w1⟩
 refine kw hp (bH (hc AL s1 σ1 H1 _ I1 (turn n σ1 H1 w1)) λb s2 hq=>?_);rcases hq with⟨H2,I2,q2⟩;cases b with
 |true=>
  obtain⟨N,hN,q2⟩:=q2;rw[if_pos rfl];refine kw hp (bH (hb AL s2 σ1 H2 _ I2 q2) λf s3 q3=>?_);cases f with
  |next=>
   obtain⟨σ3,H3,I3,n3⟩:=q3;obtain⟨m',hm,w3⟩:=hN σ3 H3 n3;exact⟨m',hm,σ3,H3,I3,w3⟩
  |cont=>
   obtain⟨σ3,H3,I3,n3⟩:=q3;obtain⟨m',hm,w3⟩:=hN σ3 H3 n3;exact⟨m',hm,σ3,H3,I3,w3⟩
  |brk=>exact q3
  |ret v=>exact q3
 |false=>
  rw[if_neg ie];exact qh ⟨σ1,H2,I2,q2⟩
end
structure It where
 go:Nat->Hp->Prop
 yld:Nat->Hp->V->Hp->Prop
 stop:Nat->Hp->Prop
def fO(X:Cx)(AL:List (Addr×Obj))(H:Hp)(b:Addr):Prop:=
 H b=none/\b≠X.env.locals/\b∉X.fs/\(b∈X.ex\/X.AM.heap.objs.size<=b)/\(∀x c,X.env.cells.lookup x=some c->c≠b)/\∀p∈X.pn++AL,p.1≠b
theorem aH.fpOk{X:Cx}{AL:List (Addr×Obj)}{σ:St}{H H':Hp}{s:aa}{b:Addr}(I:aH X AL σ H s)(hb:s.heap.objs.size<=b)(hn:H' b=none):fO X AL H' b:=by
 refine⟨hn,mf (cy I.lt hb),I.nofs hb,.inr (gm I.sz hb),λx c e z=>?_,λp hp z=>?_⟩
 .obtain⟨v,q⟩:=I.cell x c e
  exact absurd (cy q.lt (by rw[z];exact hb)) (iw _)
 .exact absurd (cy (bi (I.pin p hp).1) (by rw[z];exact hb)) (iw _)
structure rW(P:Program)(w:al)(K:ag)(tg:ah)(J:It)(fp:List Addr)(it:Addr)(tn:Nat->Heap->Prop):Prop where
 mem:it∈fp
 obj:∀i h,tn i h->∀b∈fp,∃o,h.get? b=some o/\∀v,o.data≠.cell v
 keep:∀i h h',tn i h->(∀b∈fp,∀o,h.get? b=some o->h'.get? b=some o)->tn i h'
 item:∀(X:Cx),X.prog=P->X.w=w->X.K=K->X.calm=true->∀(i:Nat)(AL:List (Addr×Obj))(s:aa)(σ:St)(H:Hp)(E:Value->aa->Prop),aH X AL σ H s->(∀b∈fp,fO X AL H b)->tn i s.heap->J.go i H->
  wpAny (model P w) X.A (pyNext (.ref it)) (λr s1=>∃u,r=some u/\
   wpAny (model P w) X.A (letOwnedTupleGo tg (.ref it) u) (λ_ s2=>∃x H',aH X AL σ H' s2/\bT x u/\J.yld i H x H'/\tn (i+1) s2.heap/\∀b∈fp,H' b=none) E s1) E s
 done:∀(X:Cx),X.prog=P->X.w=w->X.K=K->X.calm=true->∀(i:Nat)(AL:List (Addr×Obj))(s:aa)(σ:St)(H:Hp)(E:Value->aa->Prop),aH X AL σ H s->(∀b∈fp,fO X AL H b)->tn i s.heap->J.stop i H->
  wpAny (model P w) X.A (pyNext (.ref it)) (λr s1=>r=none/\aH X AL σ H s1) E s
 self:∀(A:ao)(i:Nat)(s:aa)(Q:Value->aa->Prop)(E:Value->aa->Prop),tn i s.heap->Q (.ref it) s->wpAny (model P w) A (pyIter (.ref it)) Q E s
abbrev TI:=St->Hp->(It->Hp->Prop)->Prop
def Jw(X:Cx)(AL:List (Addr×Obj))(σ:St)(tg:ah)(R:It->Hp->Prop)(itv:Value)(s2:aa):Prop:=
 ∃(it:Addr)(fp:List Addr)(tn:Nat->Heap->Prop)(J:It)(H':Hp),itv=.ref it/\aH X AL σ H' s2/\rW X.prog X.w X.K tg J fp it tn/\tn 0 s2.heap/\(∀b∈fp,fO X AL H' b)/\R J H'
def PI(X:Cx)(tg iter:ah)(wi:TI):Prop:=
 ∀(AL:List (Addr×Obj))(s:aa)(σ:St)(H:Hp)(R:It->Hp->Prop),aH X AL σ H s->wi σ H R->
  wpAny (model X.prog X.w) X.A (eval iter X.env) (λv s1=>wpAny (model X.prog X.w) X.A (pyIter v) (Jw X AL σ tg R) X.xe s1) X.xe s
theorem Df {M : ku} {A : ao} {E : Value → aa → Prop} {s : aa} {tg : ah} {it : Addr} {u : Value} {o : Obj} {n : String} {vs : Array Value} {Q : Unit → aa → Prop} (ho : s.heap.get? it = some o) (hc : o.cls = .type n) (hd : o.data = .fields vs)
    (hn : ["enumerate", "zip", "dict_itemiterator", "dict_reverseitemiterator", "odict_iterator", "itertools.zip_longest", "itertools.pairwise"].contains n = false) (hQ : Q () s) : wpAny M A (letOwnedTupleGo tg (.ref it) u) Q E s := by
  unfold letOwnedTupleGo;cases tg <;> first
    | exact ak hQ
    | (cases u <;> first
        | exact ak hQ
        | (refine ae (wpAny_load ho ?_)
           rw [hc, hd];show wpAny M A (if (["enumerate", "zip", "dict_itemiterator", "dict_reverseitemiterator", "odict_iterator", "itertools.zip_longest", "itertools.pairwise"].contains n && vs[0]? == some (rawInt _)) = true then _ else _) Q E s;rw [if_neg (by intro h; rw [hn, Bool.false_and] at h; cases h)];exact ak hQ))
def yX(K:ag)(a:Addr):It:=
 ⟨λi H=>∃xs x,cJ K H a xs/\xs[i]?=some x,λi H x H'=>H'=H/\∀xs,cJ K H a xs->xs[i]?=some x,λi H=>∃xs,cJ K H a xs/\xs.length<=i⟩
def Fh(K:ag)(a:Addr):It:=
 ⟨λi H=>∃xs x,dJ K H a xs/\xs[i]?=some x,λi H x H'=>H'=H/\∀xs,dJ K H a xs->xs[i]?=some x,λi H=>∃xs,dJ K H a xs/\xs.length<=i⟩
def uR(lo:Int)(n:Nat):It:=⟨λi _=>i<n,λi H x H'=>H'=H/\x=.int (lo+i),λi _=>n<=i⟩
theorem Xz{P:Program}{w:al}{K:ag}{tg:ah}(a it:Addr):rW P w K tg (yX K a) [it] it (λi h=>h.IsListIter it a i) where
 mem:=by simp
 obj:=λi h st b hb=>by
  have e:b=it:=by simpa using hb
  subst e;obtain⟨o,e,c,d⟩:=st;exact⟨o,e,λv z=>by rw[d]at z;cases z⟩
 keep:=λi h h' st k=>st.at λo e=>k it (by simp) o e
 item:=by
  intro X hP hw hK hc i AL s σ H E I hf st hg;subst hP hw hK;obtain⟨xs,x,hq,hx⟩:=hg;obtain⟨its,rv,p,hz⟩:=I.list hq;obtain⟨u,hu,ru⟩:=rv.get hx;obtain⟨f0,f1,f2,f3,f4,f5⟩:=hf it (by simp);refine wpAny_pyNext_list_item st p.isList (x:=u) (by simpa using hu) λh' st' sb=>?_;have I1:aH X AL σ H {s with heap:=h'}:=I.turned (t':=s.toks) (λb o hb e=>(sb.2 b hb).trans e) f0 f1 f3 f4 f5;obtain⟨o,e,c,d⟩:=id st';exact⟨u,rfl,Df (s:={s with heap:=h'}) e c d (by decide) ⟨x,H,I1,ru,⟨rfl,λys hy=>by rw[I.list_inj hy hq];exact hx⟩,st',λb hb=>(hf b hb).1⟩⟩
 done:=by
  intro X hP hw hK hc i AL s σ H E I hf st hg;subst hP hw hK;obtain⟨xs,hq,hx⟩:=hg;obtain⟨its,rv,p,hz⟩:=I.list hq;obtain⟨f0,f1,f2,f3,f4,f5⟩:=hf it (by simp);have hl:=rv.length;exact wpAny_pyNext_list_end (I.ok.hd hc) st p.isList (by simp;omega) λh' eb=>⟨rfl,I.turned (t':=s.toks) (λb o hb e=>eb b o hb e) f0 f1 f3 f4 f5⟩
 self:=λ_ _ _ _ _ st h=>wpAny_pyIter_listiter st h
theorem Iz{P:Program}{w:al}{K:ag}{tg:ah}(a it:Addr):rW P w K tg (Fh K a) [it] it (λi h=>h.IsTupleIter it a i) where
 mem:=by simp
 obj:=λi h st b hb=>by
  have e:b=it:=by simpa using hb
  subst e;obtain⟨o,e,c,d⟩:=st;exact⟨o,e,λv z=>by rw[d]at z;cases z⟩
 keep:=λi h h' st k=>st.at λo e=>k it (by simp) o e
 item:=by
  intro X hP hw hK hc i AL s σ H E I hf st hg;subst hP hw hK;obtain⟨xs,x,hq,hx⟩:=hg;obtain⟨its,rv,p,hz⟩:=I.tuple hq;obtain⟨u,hu,ru⟩:=rv.get hx;obtain⟨f0,f1,f2,f3,f4,f5⟩:=hf it (by simp);refine wpAny_pyNext_tuple_item st (show s.heap.IsTuple a its.toArray from p) (x:=u) (by simpa using hu) λh' st' sb=>?_;have I1:aH X AL σ H {s with heap:=h'}:=I.turned (t':=s.toks) (λb o hb e=>(sb.2 b hb).trans e) f0 f1 f3 f4 f5;obtain⟨o,e,c,d⟩:=id st';exact⟨u,rfl,Df (s:={s with heap:=h'}) e c d (by decide) ⟨x,H,I1,ru,⟨rfl,λys hy=>by rw[I.tuple_inj hy hq];exact hx⟩,st',λb hb=>(hf b hb).1⟩⟩
 done:=by
  intro X hP hw hK hc i AL s σ H E I hf st hg;subst hP hw hK;obtain⟨xs,hq,hx⟩:=hg;obtain⟨its,rv,p,hz⟩:=I.tuple hq;obtain⟨f0,f1,f2,f3,f4,f5⟩:=hf it (by simp);have hl:=rv.length;exact wpAny_pyNext_tuple_end (I.ok.hd hc) st (show s.heap.IsTuple a its.toArray from p) (by simp;omega) λh' eb=>⟨rfl,I.turned (t':=s.toks) (λb o hb e=>eb b o hb e) f0 f1 f3 f4 f5⟩
 self:=λ_ _ _ _ _ st h=>wpAny_pyIter_tupleiter st h
theorem Sz{P:Program}{w:al}{K:ag}{tg:ah}(it:Addr)(lo:Int)(n:Nat):rW P w K tg (uR lo n) [it] it (λi h=>IsRangeIter h it (lo+(i:Nat)*1) ((n:Int)-(i:Nat)) 1) where
 mem:=by simp
 obj:=λi h st b hb=>by
  have e:b=it:=by simpa using hb
  subst e;exact⟨_,st,λv z=>by
   have z':Data.fields _=Data.cell v:=z;cases z'⟩
 keep:=λi h h' st k=>k it (by simp) _ st
 item:=by
  intro X hP hw hK hc i AL s σ H E I hf st hg;subst hP hw hK;obtain⟨f0,f1,f2,f3,f4,f5⟩:=hf it (by simp);have W:=Walks.range (prog:=X.prog) (w:=X.w) (I.ok.hd hc) it lo 1 n;refine W.item i s _ _ hg st λv h' tk hv st' kk=>?_;obtain⟨t,rfl⟩:=hv;have I1:aH X AL σ H {s with heap:=h',toks:=tk}:=I.turned (λb o hb e=>kk b o (by simpa using hb) e) f0 f1 f3 f4 f5;refine⟨_,rfl,Df (s:={s with heap:=h',toks:=tk}) (n:="range_iterator") st' rfl rfl (by decide) ⟨.int (lo+i),H,I1,⟨t,?_⟩,⟨rfl,rfl⟩,st',λb hb=>(hf b hb).1⟩⟩;rw[kg]
 done:=by
  intro X hP hw hK hc i AL s σ H E I hf st hg;subst hP hw hK;obtain⟨f0,f1,f2,f3,f4,f5⟩:=hf it (by simp);exact wpAny_pyNext_range_end (I.ok.hd hc) st (by have:n<=i:=hg;omega) λh' eb=>⟨rfl,I.turned (t':=s.toks) (λb o hb e=>eb b o hb e) f0 f1 f3 f4 f5⟩
 self:=λ_ _ _ _ _ st h=>wpAny_pyIter_rangeiter st h
section
variable{X:Cx}{tg:ah}
theorem Go{AL:List (Addr×Obj)}{σ:St}{H:Hp}{s:aa}{R:It->Hp->Prop}{E:Value->aa->Prop}{lo hi:Int}{t u v:db}{tk:Nat}(I:aH X AL σ H s)(h1:-(2^62)<=lo)(h2:lo<2^62)(h3:-(2^62)<=hi)(h4:hi<2^62)
  (q:R (uR lo (hi-lo).toNat) H):wpAny (model X.prog X.w) X.A (pyIter (.ref s.heap.objs.size)) (Jw X AL σ tg R) E {s with heap:=s.heap.push {cls:=.type "range",data:=.fields #[.int lo t,.int hi u,.int 1 v]},toks:=tk}:=by
 refine wpAny_pyIter_range (IsRange.new ..) (small_one h1 h2 h3 h4) ?_;have I1:aH X AL σ H {s with heap:=s.heap.push {cls:=.type "range",data:=.fields #[.int lo t,.int hi u,.int 1 v]},toks:=tk}:=I.kept λb o e=>ax _ e;refine⟨(s.heap.push {cls:=.type "range",data:=.fields #[.int lo t,.int hi u,.int 1 v]}).objs.size,[(s.heap.push {cls:=.type "range",data:=.fields #[.int lo t,.int hi u,.int 1 v]}).objs.size],_,_,H,rfl,
  I1.kept (t':=tk) λb o e=>ax _ e,Sz _ lo (hi-lo).toNat,?_,λb hb=>?_,q⟩
 .have e1:lo+((0:Nat):Int)*1=lo:=by simp
  have e2:(((hi-lo).toNat:Nat):Int)-((0:Nat):Int)=Builtin.Range.rangeSize lo hi 1:=by rw[rangeSize_one];split<;>omega
  show IsRangeIter _ _ (lo+((0:Nat):Int)*1) ((((hi-lo).toNat:Nat):Int)-((0:Nat):Int)) 1;rw[e1,e2];exact cw _ rfl
 .have e:b=(s.heap.push {cls:=.type "range",data:=.fields #[.int lo t,.int hi u,.int 1 v]}).objs.size:=by simpa using hb
  subst e;exact I1.fpOk (aj _) (I1.hok.fresh (aj _))
def adp(ta:TA):TI:=λσ H R=>ta σ H λvs H1=>∃j:Int,vs=[.int j]/\-(2^62)<=j/\j<2^62/\R (uR 0 j.toNat) H1
def adB(ta:TA):TI:=λσ H R=>ta σ H λvs H1=>∃i j:Int,vs=[.int i,.int j]/\(-(2^62)<=i/\i<2^62/\-(2^62)<=j/\j<2^62)/\R (uR i (j-i).toNat) H1
theorem B0{a:ah}{ta:TA}{p pos:ai}(hg:Gl X "range")(hm:X.mg "range"=none)(ha:PA X [a] ta)(hs:starEach [a] X.env=[(false,eval a X.env)]:=by rfl):PI X tg (.Call (.Name "range" p) [a] [] pos) (adp ta):=by
 intro AL s σ H R I h;refine Call_ (pV I hg hm boot_range (oq (bH (ha pos AL s σ H _ I h) λus s1 hq=>?_) hs rfl));rcases hq with⟨vs,H1,I1,r1,q1⟩;obtain⟨j,e,q1,q2,q⟩:=q1;subst e;cases r1 with
 |cons r rr=>
  cases rr;obtain⟨t,rfl⟩:=r;exact call_range_1 (Go I1 (by omega) (by omega) q1 q2 (by simpa using q))
theorem B9{a b:ah}{ta:TA}{p pos:ai}(hg:Gl X "range")(hm:X.mg "range"=none)(ha:PA X [a,b] ta)(hs:starEach [a,b] X.env=[(false,eval a X.env),(false,eval b X.env)]:=by rfl)(hs2:starEach [b] X.env=[(false,eval b X.env)]:=by rfl):
  PI X tg (.Call (.Name "range" p) [a,b] [] pos) (adB ta):=by
 intro AL s σ H R I h;refine Call_ (pV I hg hm boot_range (oq (bH (ha pos AL s σ H _ I h) λus s1 hq=>?_) (by rw[hs,hs2]) (by rw[hs2];rfl)));rcases hq with⟨vs,H1,I1,r1,q1⟩;obtain⟨i,j,e,⟨q1,q2,q3,q4⟩,q⟩:=q1;subst e;cases r1 with
 |cons r rr=>
  cases rr with
  |cons r' rr=>
   cases rr;obtain⟨t,rfl⟩:=r;obtain⟨t',rfl⟩:=r';exact call_range_2 (Go I1 q1 q2 q3 q4 q)
def aez(wi:TI)(g:TG)(tb:TS):TS:=λD σ H=>wi σ H λJ H1=>∃W:Nat->Nat->St->Hp->Prop,(∃m,W 0 m σ H1)/\∀i m σ H,W i m σ H->
 (J.stop i H/\D.nx σ H)\/(J.go i H/\∃N:St->Hp->Prop,(∀σ' H',N σ' H'->∃m',m'<m/\W (i+1) m' σ' H')/\∀x H',J.yld i H x H'->g x σ H' λσ2 H2=>tb {D with nx:=N,ct:=N,bk:=D.nx} σ2 H2)
def xL(fp:List Addr)(h:Heap):List (Addr×Obj):=fp.filterMap λb=>(h.get? b).map λo=>(b,o)
theorem lP{fp:List Addr}{h:Heap}{b:Addr}{o:Obj}(hb:b∈fp)(e:h.get? b=some o):(b,o)∈xL fp h:=va.mpr ⟨b,hb,by rw[e];rfl⟩
theorem E5{fp:List Addr}{h:Heap}{p:Addr×Obj}(hp:p∈xL fp h):p.1∈fp/\h.get? p.1=some p.2:=by
 obtain⟨b,hb,e⟩:=va.mp hp;cases q:h.get? b with
 |none=>rw[q]at e;cases e
 |some o=>
  rw[q]at e;have e':(b,o)=p:=bn e;subst e';exact⟨hb,q⟩
theorem aH.pinned{AL:List (Addr×Obj)}{σ:St}{H:Hp}{s:aa}{fp:List Addr}(I:aH X AL σ H s)(hf:∀b∈fp,fO X AL H b)(ho:∀b∈fp,∃o,s.heap.get? b=some o/\∀v,o.data≠.cell v):aH X (AL++xL fp s.heap) σ H s:=
 I.pins_of λp hp=>(ck.mp hp).elim (λz=>I.pin p (da _ z)) λz=>by
  obtain⟨hb,e⟩:=E5 z;obtain⟨f0,f1,f2,_⟩:=hf p.1 hb;obtain⟨o,e',d⟩:=ho p.1 hb;rw[e]at e';cases e';exact⟨e,f0,f1,f2,d⟩
theorem aH.unpinned{AL pl:List (Addr×Obj)}{σ:St}{H:Hp}{s:aa}(I:aH X (AL++pl) σ H s):aH X AL σ H s:=I.pins_of λp hp=>I.pin p (da _ (kr _ hp))
theorem Vt{iter:ah}{body:List Stmt}{wi:TI}{g:TG}{tb:TS}{pos:ai}(hp:oo (model X.prog X.w) X.A X.env X.xe)(hc:X.calm=true)(hi:PI X tg iter wi)(hg:PG X tg g)(hb:gK X body tb)
  (hs:∀x,foldedSetIterable iter X.env x=pure x:=by intro _;rfl):PS X (.For tg iter body [] pos) (aez wi g tb):=by
 intro AL s σ H D I h;refine wpAny_For (bH (hi AL s σ H _ I h) λv s1 h1=>bH h1 λitv s2 h2=>?_) hs;obtain⟨it,fp,tn,J,H2,e,I2,T,st2,f2,W,⟨m0,w0⟩,turn⟩:=h2;subst e
 --what stays true of the iterator's objects through the loop
 have stat:∀{H':Hp},(∀b∈fp,H' b=none)->∀b∈fp,fO X AL H' b:=λhn b hb=>⟨hn b hb,(f2 b hb).2⟩;refine codeAny_forLoop_any (λn s'=>∃i σ' H',aH X AL σ' H' s'/\tn i s'.heap/\(∀b∈fp,H' b=none)/\W i n σ' H') ?_ m0 ⟨0,σ,H2,I2,st2,λb hb=>(f2 b hb).1,w0⟩
 rintro n s3 ⟨i,σ3,H3,I3,eG,fr3,w3⟩
 rcases turn i n σ3 H3 w3 with⟨stop,qn⟩|⟨go,N,hN,step⟩
 .refine kw hp (bH (T.done X rfl rfl rfl hc i AL s3 σ3 H3 X.xe I3 (stat fr3) eG stop) λr s4 hq=>?_)
  rcases hq with⟨hr,I4⟩;subst hr;exact qh ⟨σ3,H3,I4,qn⟩
 .refine kw hp (bH (T.item X rfl rfl rfl hc i AL s3 σ3 H3 X.xe I3 (stat fr3) eG go) λr s4 hq=>?_)
  rcases hq with⟨u,hr,h4⟩;subst hr;refine kw hp (bH h4 λ_ s5 hq=>?_);rcases hq with⟨x,H5,I5,r5,y5,st5,fr5⟩;have I5':=I5.pinned (stat fr5) (T.obj _ _ st5);refine kw hp (bH (hg _ s5 σ3 H5 x u _ I5' r5 (step x H5 y5)) λ_ s6 hq=>?_);rcases hq with⟨σ6,H6,I6,q6⟩;refine kw hp (bH (hb _ s6 σ6 H6 _ I6 q6) λf s7 q7=>?_);have again:∀{σ7:St}{H7:Hp},aH X (AL++xL fp s5.heap) σ7 H7 s7->N σ7 H7->∃m,m<n/\∃i σ' H',aH X AL σ' H' s7/\tn i s7.heap/\(∀b∈fp,H' b=none)/\W i m σ' H':=λ{σ7 H7} I7 n7=>by
   obtain⟨m',hm,w7⟩:=hN σ7 H7 n7;refine⟨m',hm,i+1,σ7,H7,I7.unpinned,T.keep _ _ _ st5 λb hb o e=>(I7.pin (b,o) (da _ (da _ (lP hb e)))).1,λb hb=>?_,w7⟩;obtain⟨o,e,d⟩:=T.obj _ _ st5 b hb;exact(I7.pin (b,o) (da _ (da _ (lP hb e)))).2.1
  cases f with
  |next=>obtain⟨σ7,H7,I7,n7⟩:=q7;exact again I7 n7
  |cont=>obtain⟨σ7,H7,I7,n7⟩:=q7;exact again I7 n7
  |brk=>obtain⟨σ7,H7,I7,q7⟩:=q7;exact⟨σ7,H7,I7.unpinned,q7⟩
  |ret v=>obtain⟨x7,σ7,H7,I7,r7,q7⟩:=q7;exact⟨x7,σ7,H7,I7.unpinned,r7,q7⟩
end
abbrev R2:=V->V->Hp->VK->Prop
def eQ(X:Cx)(f:Value->Value->Sem Value)(r:R2):Prop:=
 ∀(AL:List (Addr×Obj))(s:aa)(σ:St)(H:Hp)(x y:V)(v u:Value)(Q:VK),aH X AL σ H s->bT x v->bT y u->r x y H Q->
  wpAny (model X.prog X.w) X.A (f v u) (EP X AL σ Q) X.xe s
def yY(X:Cx)(f:Value->Sem Value)(r:V->Hp->VK->Prop):Prop:=
 ∀(AL:List (Addr×Obj))(s:aa)(σ:St)(H:Hp)(x:V)(v:Value)(Q:VK),aH X AL σ H s->bT x v->r x H Q->
  wpAny (model X.prog X.w) X.A (f v) (EP X AL σ Q) X.xe s
def iX(X:Cx)(f:Value)(r:List V->Hp->VK->Prop):Prop:=
 ∀(AL:List (Addr×Obj))(s:aa)(σ:St)(H:Hp)(xs:List V)(us:AD)(Q:VK),aH X AL σ H s->bI xs us->r xs H Q->
  wpAny (model X.prog X.w) X.A (call f us) (EP X AL σ Q) X.xe s
def yW(r:R2)(ta tb:TE):TE:=λσ H Q=>ta σ H λx H1=>tb σ H1 λy H2=>r x y H2 Q
def tUn(r:V->Hp->VK->Prop)(ta:TE):TE:=λσ H Q=>ta σ H λx H1=>r x H1 Q
def rI(C:Int->Int->Prop)(g:Int->Int->V):R2:=λx y H Q=>∃i j,x=.int i/\y=.int j/\C i j/\Q (g i j) H
def kA(g:Int->Int->V):R2:=λx y H Q=>∃i j,x=.int i/\y=.int j/\Q (g i j) H
def rU(g:Int->V):V->Hp->VK->Prop:=λx H Q=>∃i,x=.int i/\Q (g i) H
section
variable{X:Cx}{a b c:ah}{ta tb tc:TE}{pos:ai}
theorem Hg(ha:PE X a ta)(hb:PE X b tb){AL:List (Addr×Obj)}{s:aa}{σ:St}{H:Hp}{R:V->V->Hp->Prop}(I:aH X AL σ H s)
  (h:ta σ H λx H1=>tb σ H1 λy H2=>R x y H2){Q:Value->aa->Prop}{f:Value->Value->Sem Value}
  (hf:∀v u s2 x y H2,aH X AL σ H2 s2->bT x v->bT y u->R x y H2->wpAny (model X.prog X.w) X.A (f v u) Q X.xe s2):
  wpAny (model X.prog X.w) X.A (eval a X.env) (λv AO=>wpAny (model X.prog X.w) X.A (eval b X.env) (λu AS=>wpAny (model X.prog X.w) X.A (f v u) Q X.xe AS) X.xe AO) X.xe s:=by
 refine bH (ha AL s σ H _ I h) ?_
 rintro v s1 ⟨x,H1,I1,r1,q1⟩
 refine bH (hb AL s1 σ H1 _ I1 q1) ?_
 rintro u s2 ⟨y,H2,I2,r2,q2⟩
 exact hf v u s2 x y H2 I2 r1 r2 q2
theorem Gv{op:qi}{r:R2}(ho:eQ X (binaryOp op) r)(ha:PE X a ta)(hb:PE X b tb):PE X (.BinOp a op b pos) (yW r ta tb):=by
 intro AL s σ H Q I h;exact wpAny_BinOp (Hg ha hb I h λv u s2 x y H2 I2 rx ry q=>ho AL s2 σ H2 x y v u Q I2 rx ry q)
theorem adc{op:UnaryOp}{r:V->Hp->VK->Prop}(ho:yY X (unaryOp op) r)(ha:PE X a ta):PE X (.UnaryOp op a pos) (tUn r ta):=by
 intro AL s σ H Q I h;exact UnaryOp_ (bH (ha AL s σ H _ I h) λv s1 ⟨x,H1,I1,r1,q1⟩=>ho AL s1 σ H1 x v Q I1 r1 q1)
theorem zM{f:Value->Value->Sem Value}{C:Int->Int->Prop}{g:Int->Int->Int}
  (rule:∀(i j:Int)(t u:db)(s:aa)(Q:Value->aa->Prop)(E:Value->aa->Prop),C i j->Q (.int (g i j) s.toks) {s with toks:=s.toks+1}->wpAny (model X.prog X.w) X.A (f (.int i t) (.int j u)) Q E s):
  eQ X f (rI C λi j=>.int (g i j)):=by
 intro AL s σ H x y v u Q I rx ry h;obtain⟨i,j,rfl,rfl,hc,q⟩:=h;obtain⟨t,rfl⟩:=rx;obtain⟨t',rfl⟩:=ry;exact rule i j t t' s _ _ hc ⟨.int (g i j),H,I.tok _,⟨_,rfl⟩,q⟩
theorem Qv{f:Value->Value->Sem Value}{g:Int->Int->Int}
  (rule:∀(i j:Int)(t u:db)(s:aa)(Q:Value->aa->Prop)(E:Value->aa->Prop),Q (.int (g i j) s.toks) {s with toks:=s.toks+1}->wpAny (model X.prog X.w) X.A (f (.int i t) (.int j u)) Q E s):
  eQ X f (kA λi j=>.int (g i j)):=by
 intro AL s σ H x y v u Q I rx ry h;obtain⟨i,j,rfl,rfl,q⟩:=h;obtain⟨t,rfl⟩:=rx;obtain⟨t',rfl⟩:=ry;exact rule i j t t' s _ _ ⟨.int (g i j),H,I.tok _,⟨_,rfl⟩,q⟩
theorem Kg{f:Value->Value->Sem Value}{g:Int->Int->Bool}
  (rule:∀(i j:Int)(t u:db)(s:aa)(Q:Value->aa->Prop)(E:Value->aa->Prop),Q (.bool (g i j)) s->wpAny (model X.prog X.w) X.A (f (.int i t) (.int j u)) Q E s):
  eQ X f (kA λi j=>.bl (g i j)):=by
 intro AL s σ H x y v u Q I rx ry h;obtain⟨i,j,rfl,rfl,q⟩:=h;obtain⟨t,rfl⟩:=rx;obtain⟨t',rfl⟩:=ry;exact rule i j t t' s _ _ ⟨.bl (g i j),H,I,rfl,q⟩
def yR(i j:Int):Prop:=0<=j/\j<=1000000/\i.natAbs<2^64
def Og(i j:Int):Prop:=(-(2^64)<i/\i<2^64)\/(-(2^64)<j/\j<2^64)
theorem Og.ok{i j:Int}(h:Og i j):IntMulOk i j:=by
 rcases h with⟨h1,h2⟩|⟨h1,h2⟩
 .exact .of_left (intBits_le_64 h1 h2)
 .exact .of_right (intBits_le_64 h1 h2)
theorem ac2:eQ X (binaryOp .Add) (kA λi j=>.int (i+j)):=Qv λ_ _ _ _ _ _ _ q=>add_int q
theorem Es:eQ X (binaryOp .Sub) (kA λi j=>.int (i-j)):=Qv λ_ _ _ _ _ _ _ q=>sub_int q
theorem aaK:eQ X (binaryOp .Mod) (rI (λ_ j=>j≠0) λi j=>.int (i.fmod j)):=zM λ_ _ _ _ _ _ _ hc q=>mod_int' hc q
theorem abK:eQ X (binaryOp .Pow) (rI yR λi j=>.int (i^j.toNat)):=zM λ_ _ _ _ _ _ _ hc q=>pow_int_small hc.1 hc.2.1 hc.2.2 q
theorem unI{f:Value->Sem Value}{g:Int->Int}
  (rule:∀(i:Int)(t:db)(s:aa)(Q:Value->aa->Prop)(E:Value->aa->Prop),Q (.int (g i) s.toks) {s with toks:=s.toks+1}->wpAny (model X.prog X.w) X.A (f (.int i t)) Q E s):
  yY X f (rU λi=>.int (g i)):=by
 intro AL s σ H x v Q I rx h;obtain⟨i,rfl,q⟩:=h;obtain⟨t,rfl⟩:=rx;exact rule i t s _ _ ⟨.int (g i),H,I.tok _,⟨_,rfl⟩,q⟩
theorem acR:yY X (unaryOp .USub) (rU λi=>.int (-i)):=unI λ_ _ _ _ _ q=>neg_int q
end
section
variable{X:Cx}{a b c:ah}{ta tb tc:TE}{pos:ai}
theorem Pu:eQ X (compareOp .Lt) (kA λi j=>.bl (decide (i<j))):=Kg λ_ _ _ _ _ _ _ q=>lt_int q
theorem Ju:eQ X (compareOp .Gt) (kA λi j=>.bl (decide (j<i))):=Kg λ_ _ _ _ _ _ _ q=>gt_int q
theorem Xu:eQ X (compareOp .GtE) (kA λi j=>.bl (decide (j<=i))):=Kg λ_ _ _ _ _ _ _ q=>ge_int q
theorem eQ.or{f:Value->Value->Sem Value}{r r':R2}(h:eQ X f r)(h':eQ X f r'):eQ X f (λx y H Q=>r x y H Q\/r' x y H Q):=by
 intro AL s σ H x y v u Q I rx ry q;rcases q with q |q
 .exact h AL s σ H x y v u Q I rx ry q
 .exact h' AL s σ H x y v u Q I rx ry q
theorem lZ(b:ah){op:ke}(h:op≠.In:=by decide)(h2:op≠.NotIn:=by decide):behindInMarks op b=false:=by
 have e1:(op==CmpOp.In)=false:=by cases op<;>first |rfl |exact absurd rfl h
 have e2:(op==CmpOp.NotIn)=false:=by cases op<;>first |rfl |exact absurd rfl h2
 cases b<;>simp[behindInMarks,e1,e2]
theorem abn{op:ke}{r:R2}(ho:eQ X (compareOp op) r)(ha:PE X a ta)(hb:PE X b tb)(hm:behindInMarks op b=false):PE X (.Compare a [op] [b] pos) (yW r ta tb):=by
 intro AL s σ H Q I h;exact wpAny_Compare1 (Hg ha hb I h λv u s2 x y H2 I2 rx ry q=>ho AL s2 σ H2 x y v u Q I2 rx ry q) hm
def adH(t:TE):TT:=λσ H Q=>t σ H λx H'=>∃k,x=.bl k/\Q k H'
theorem abf{op:ke}{r:R2}(ho:eQ X (compareOp op) r)(ha:PE X a ta)(hb:PE X b tb)(hm:behindInMarks op b=false):PT X (.Compare a [op] [b] pos) (adH (yW r ta tb)):=by
 intro AL s σ H Q I h;refine yu (bH (ha AL s σ H _ I h) λv s1 ⟨x,H1,I1,r1,q1⟩=>bH (hb AL s1 σ H1 _ I1 q1) λu s2 ⟨y,H2,I2,r2,q2⟩=>
  bH (ho AL s2 σ H2 x y v u _ I2 r1 r2 q2) λc s3 ⟨z,H3,I3,r3,k,e,q3⟩=>?_) hm
 subst e;cases r3;exact lr ⟨H3,I3,q3⟩
theorem tU:(sizeLine:Nat)<2^63:=by rw[kh];decide
theorem kK{x:V}{us:AD}(r:bI [x] us):∃u,us=[u]/\bT x u:=by
 cases r with
 |cons r1 r2=>cases r2;exact⟨_,rfl,r1⟩
theorem Ru{x y:V}{us:AD}(r:bI [x,y] us):∃u w',us=[u,w']/\bT x u/\bT y w':=by
 cases r with
 |cons r1 r2=>
  cases r2 with
  |cons r3 r4=>cases r4;exact⟨_,_,rfl,r1,r3⟩
theorem M9:iX X (.builtin "abs") (λxs H Q=>∃i,xs=[.int i]/\Q (.int (if i<0 then-i else i)) H):=by
 intro AL s σ H xs us Q I r h;obtain⟨i,rfl,q⟩:=h;obtain⟨u,rfl,t,rfl⟩:=kK r;exact call_abs_int λu tk=>⟨.int (if i<0 then-i else i),H,I.tok _,⟨_,rfl⟩,q⟩
theorem D4:iX X (.type "int") (λxs H Q=>(∃i,xs=[.int i]/\Q (.int i) H)\/∃k,xs=[.bl k]/\Q (.int (if k then 1 else 0)) H):=by
 intro AL s σ H xs us Q I r h;rcases h with⟨i,rfl,q⟩|⟨k,rfl,q⟩
 .obtain⟨u,rfl,t,rfl⟩:=kK r
  exact call_int_int ⟨.int i,H,I,⟨_,rfl⟩,q⟩
 .obtain⟨u,rfl,r1⟩:=kK r
  cases r1;exact call_int_bool ⟨.int (if k then 1 else 0),H,I.tok _,⟨_,rfl⟩,q⟩
end
structure Ug(h:Heap)(x dx C:Addr)(mA:Str->AE):Prop where
 obj:h.get? x=some (ul C dx)
 ns:h.Ns1 dx mA
 ne:dx≠x
theorem D6{h:Heap}{dx:Addr}{mA:Str->AE}(n:h.Ns1 dx mA):∃od,h.get? dx=some od/\∀name,vb name od=some (mA name):=by
 obtain⟨o,es,ep,ho,hd,hk,_,hm⟩:=n;refine⟨o,ho,λname=>?_⟩;have e:=hm name;unfold nsFind findBy at e;rw[<-Array.find?_toList]at e;unfold vb;rw[hd];dsimp only;split
 .rename_i y q
  rw[q]at e;exact congrArg some e
 .rename_i q
  rw[q]at e;have a:es.toList.any (·.refKey)=false:=by
   rw[yw];intro y hy;obtain⟨z,t,hkey⟩:=hk y (Array.mem_toList_iff.mp hy);simp[DictEntry.refKey,hkey]
  have a':¬es.toList.any (·.refKey)=true:=by rw[a];exact ie
  rw[if_neg a'];exact congrArg some e
theorem Ug.look{h:Heap}{x dx C:Addr}{mA:Str->AE}(I:Ug h x dx C mA):∃od,PySem.W.InstAt h x (ul C dx) C (some od)/\∀name,vb name od=some (mA name):=
 let⟨od,ho,hl⟩:=D6 I.ns
 ⟨od,⟨I.obj,rfl,rfl,ho⟩,hl⟩
section
variable{prog:Program}{w:al}{A:ao}{E:Value->aa->Prop}{s:aa}{K:ag}{x dx C f:Addr}{mA:Str->AE}{name:Str}{v:Value}
end
section
variable{P:Program}{w:al}{H H':Hp}{h h':Heap}{a C dx:Addr}{fs fs':List (Str×V)}
theorem aa1(hok:fJ P w H h)(e:H a=some (.ins C dx fs)):∃mA,Ug h a dx C mA/\(∀f,Pg (fs.lookup f) (mA f))/\ym mA (fs.map (·.1))/\fs.length<=1000/\H dx=some (.own a):=by
 obtain⟨d,z,ne,ob,mA,n,r,q⟩:=(show fV P w H h a (.ins C dx fs) from hok a _ e);exact⟨mA,⟨ob,n,ne⟩,r,q,z,d⟩
end
structure Wg(K:ag)(C:Addr):Prop where
 pg:yx K C Str.empty=true
 hd:PySem.W.hasDictIn K C=true
 po:PySem.W.plainOver K C=true
 sa:vd K (.ref C) "__setattr__"=some (some (.builtin "object.__setattr__"))
theorem Wg.get{K:ag}{C:Addr}(c:Wg K C)(f:Str):yx K C f=true:=c.pg
structure cZ(K:ag)(C:Addr)(f:Str)(v:V)(u:Value):Prop where
 at_:vd K (.ref C) f=some (some u)
 rel:bT v u
 get:yy K u "__get__"=some none
 cp:PySem.W.copiedNames.contains f=false
section
variable{X:Cx}{AL:List (Addr×Obj)}{σ:St}{H:Hp}{s:aa}{a C dx:Addr}{fs:List (Str×V)}{f:Str}{v:V}{A:ao}{E:Value->aa->Prop}
end
section
variable{X:Cx}{o e value:ah}{f:Str}{pos pos' tpos:ai}{ta tv:TE}
end
section
variable{X:Cx}{AL:List (Addr×Obj)}{σ:St}{H:Hp}{s:aa}{A:ao}{E:Value->aa->Prop}{Q:Value->aa->Prop}{c:Value}{b:Bool}
inductive jZ(K:ag)(H:Hp):V->Value->Prop where
 |non:jZ K H .non (.type "NoneType")
 |bl (x:Bool):jZ K H (.bl x) (.type "bool")
 |int (i:Int):jZ K H (.int i) (.type "int")
 |str (x:Str):jZ K H (.str x) (.type "str")
 |flt (x:UInt64):jZ K H (.flt x) (.type "float")
 |lst {a:Addr} {xs:List V} (e:H a=some (.lst xs)):jZ K H (.ref a) (.type "list")
 |frz {a:Addr} {o:Obj} {xs:List V} (e:H a=some (.frz o (.lst xs))):jZ K H (.ref a) (.type "list")
 |tup {a:Addr} {xs:List V} (e:H a=some (.tup xs)):jZ K H (.ref a) (.type "tuple")
 |dK {a:Addr} {kvs:List (iL×V)} (e:H a=some (.dK kvs)):jZ K H (.ref a) (.type "dict")
 |dT {a:Addr} {kvs:List (List iL×V)} (e:H a=some (.dT kvs)):jZ K H (.ref a) (.type "dict")
 |ins {a C dx:Addr} {fs:List (Str×V)} (e:H a=some (.ins C dx fs)) (cl:Wg K C) (ha:vd K (.ref C) "__class__"=some (some (.builtin "object.__class__")))
   (hn:yy K (.builtin "object.__class__") "__get__"=some (some (.builtin "getset_descriptor.__get__"))) (htk:PySem.W.takesIn K (.builtin "object.__class__")=some true)
   (hm:PySem.W.mroIn K C (.type "object")=some true):jZ K H (.ref a) (.ref C)
theorem D9{x:V}{u t:Value}(I:aH X AL σ H s)(rx:bT x u)(ty:jZ X.K H x t)(e:mj X.K t c=some b)(h:∀tk,Q (.bool b) {s with toks:=tk}):
  wpAny (model X.prog X.w) A (call (.builtin "isinstance") [u,c]) Q E s:=by
 cases ty with
 |non=>cases(show u=cu from rx);exact ja PySem.W.kitx_none I.kIn ot e (λz=>nomatch z) h
 |bl y=>cases(show u=qe y from rx);exact ja PySem.W.kitx_bool I.kIn ot e (λz=>nomatch z) h
 |int i=>obtain⟨t,q⟩:=(show ∃t,u=oi i t from rx);cases q;exact ja PySem.W.kitx_int I.kIn ot e (λz=>nomatch z) h
 |str y=>obtain⟨t,q⟩:=(show ∃t,u=uk y t from rx);cases q;exact ja PySem.W.kitx_str I.kIn ot e (λz=>nomatch z) h
 |flt y=>obtain⟨t,q⟩:=(show ∃t,u=Value.float y t from rx);cases q;exact ja PySem.W.kitx_float I.kIn ot e (λz=>nomatch z) h
 |@lst a xs ea=>
  cases(show u=dg a from rx);obtain⟨_,_,n,_,h1⟩:=(show fV X.prog X.w H s.heap a (.lst xs) from I.hok a _ ea);exact ja ve I.kIn ⟨_,h1,rfl⟩ e (λz=>nomatch z) h
 |@frz a ob xs ea=>
  cases(show u=dg a from rx);obtain⟨_,_,_,n,_,h1⟩:=(show fV X.prog X.w H s.heap a (.frz ob (.lst xs)) from I.hok a _ ea);exact ja ve I.kIn ⟨_,h1,rfl⟩ e (λz=>nomatch z) h
 |@tup a xs ea=>
  cases(show u=dg a from rx);obtain⟨_,_,_,p⟩:=(show fV X.prog X.w H s.heap a (.tup xs) from I.hok a _ ea);obtain⟨o,h1,h2,_⟩:=p;exact ja yz I.kIn ⟨o,h1,h2⟩ e (λz=>nomatch z) h
 |@dK a kvs ea=>
  cases(show u=dg a from rx);obtain⟨_,_,vs,_,p⟩:=(show fV X.prog X.w H s.heap a (.dK kvs) from I.hok a _ ea);obtain⟨o,es,ep,h1,h2,_⟩:=p;exact ja za I.kIn ⟨o,h1,h2.1⟩ e (λz=>nomatch z) h
 |@dT a kvs ea=>
  cases(show u=dg a from rx);obtain⟨_,_,xs,_,o,es,ep,h1,h2,_⟩:=(show fV X.prog X.w H s.heap a (.dT kvs) from I.hok a _ ea);exact ja za I.kIn ⟨o,h1,h2.1⟩ e (λz=>nomatch z) h
 |@ins a C dx fs ea cl ha hn htk hm=>
  cases(show u=dg a from rx);obtain⟨mA,O,_⟩:=aa1 I.hok ea;obtain⟨od,J,_⟩:=O.look;exact ja (PySem.W.kitx_own (cl.get _) cl.hd ha hn htk hm) I.kIn J e (λz=>nomatch z) h
end
structure dN(k:Nat)(A:ao):Prop where
 hd:A.handled=none
 dp:A.depth+3*k+5<recursionLimit
 un:A.units+16*k+200<cLine
theorem dN.mono{j k:Nat}{A:ao}(r:dN k A)(h:j<=k):dN j A:=⟨r.hd,by have:=r.dp;omega,by have:=r.un;omega⟩
theorem dN.deeper{k:Nat}{A:ao}(r:dN (k+1) A)(env:bf):dN k (A.deeper env):=
 ⟨r.hd,by have:=r.dp;show A.depth+1+3*k+5<_;omega,by have:=r.un;show A.units+3+16*k+200<_;omega⟩
theorem dN.depth{k:Nat}{A:ao}(r:dN k A):A.depth<recursionLimit:=by have:=r.dp;omega
theorem dN.units{k:Nat}{A:ao}(r:dN k A):A.units+64<cLine:=by have:=r.un;omega
def aeW:TA:=λ_ H Q=>Q [] H
def ad3(ta:TE)(tr:TA):TA:=λσ H Q=>ta σ H λx H1=>tr σ H1 λxs H2=>Q (x::xs) H2
section
variable{X:Cx}{e:ah}{es:List ah}{te:TE}{t:TA}{pos:ai}
theorem rH:PA X [] aeW:=λ_ _ _ _ H Q I h=>Calls.spliced_nil ⟨[],H,I,.nil,h⟩
theorem pN(ha:PE X e te)(hr:PA X es t)(hs:starEach (e::es) X.env=(false,eval e X.env)::starEach es X.env:=by rfl):PA X (e::es) (ad3 te t):=by
 intro pos AL s σ H Q I h;rw[hs];show wpAny _ _ (spliced ((false,eval e X.env)::backTo pos (starEach es X.env))) _ _ s;refine Calls.spliced_cons (bH (ha AL s σ H _ I h) λu s1 hq=>?_);rcases hq with⟨x,H1,I1,r1,q1⟩;exact bH (hr pos AL s1 σ H1 _ I1 q1) λus s2 ⟨xs,H2,I2,r2,q2⟩=>⟨x::xs,H2,I2,.cons r1 r2,q2⟩
def aeV(t:TA):TE:=λσ H Q=>t σ H λxs H1=>xs.length<=sizeLine/\∀p,H1 p=none->Q (.ref p) (aY H1 p (.tup xs))
def aeB(t:TA):TE:=λσ H Q=>t σ H λxs H1=>xs.length<=sizeLine/\∀p,H1 p=none->Q (.ref p) (aY H1 p (.lst xs))
theorem abX{x1}(h:PA X es t):PE X (.Tuple es x1 pos) (aeV t):=by
 intro AL s σ H Q I hq;refine wpAny_Tuple_spliced (bH (h pos AL s σ H _ I hq) λus s1 ⟨xs,H1,I1,r,z,q⟩=>⟨by rw[<-r.length];exact z,?_⟩);have hf:H1 s1.heap.objs.size=none:=I1.hok.fresh (aj _);refine⟨.ref s1.heap.objs.size,aY H1 s1.heap.objs.size (.tup xs),I1.laid (t':=s1.toks) (λb u e=>ax _ e) (aj _) ?_,rfl,q _ hf⟩;exact⟨z,us,r,⟨_,cw _ rfl,rfl,_,rfl⟩⟩
theorem Xe(h:PA X es t):PE X (.List es pos) (aeB t):=by
 intro AL s σ H Q I hq;refine wpAny_List_spliced (bH (h pos AL s σ H _ I hq) λus s1 ⟨xs,H1,I1,r,z,q⟩=>⟨by rw[<-r.length];exact z,?_⟩);have hf:H1 s1.heap.objs.size=none:=I1.hok.fresh (aj _);refine⟨.ref s1.heap.objs.size,aY H1 s1.heap.objs.size (.lst xs),I1.laid (t':=s1.toks) (λb u e=>ax _ e) (aj _) ?_,rfl,q _ hf⟩;exact⟨z,us,0,r,cw _ rfl⟩
end
abbrev Sp:=List V->Hp->VK->XK->Prop
abbrev jP:=List bf->Hp->aa->XK->Value->aa->Prop
structure yG(P:Program)(w:al)(K:ag)(mg:Str->AE)(base:Heap)(A:ao)(outer:List bf)(s:aa)(H:Hp):Prop where
 frames:A.frames=some outer
 mod:Mod K mg base
 bs:∀b o,base.get? b=some o->s.heap.get? b=some o/\H b=none
 bsz:base.objs.size<=s.heap.objs.size
 funs:s.heap.FunFrames base outer
 frf:∀b∈dS outer,H b=none
 hok:fJ P w H s.heap
 bare:jh s.gens
def CE(outer:List bf)(P:Program)(w:al)(H:Hp)(s:aa)(Q:VK)(u:Value)(s':aa):Prop:=
 ∃v H',s'.os=s.os/\jh s'.gens/\Un (dS outer) [] H H' s.heap s'.heap/\fJ P w H' s'.heap/\bT v u/\Q v H'
def CR(CX:jP)(outer:List bf)(P:Program)(w:al)(H:Hp)(s:aa)(Q:VK)(E:XK)(r:ou)(s':aa):Prop:=
 match r with
 |.ok (.ret u)=>CE outer P w H s Q u s'
 |.ok _=>False
 |.error e=>CX outer H s E e s'
structure eR(P:Program)(w:al)(K:ag)(mg:Str->AE)(base:Heap)(CX:jP)(k:Nat)(f:Addr)(fd:cc)(ps:List Str)(sp:Sp):Prop where
 len:∀vs H Q E,sp vs H Q E->vs.length=ps.length
 run:∀(A:ao)(outer:List bf)(s:aa)(H:Hp)(args:Args)(us:AD)(vs:List V)(Q:VK)(E:XK),dN k A->yG P w K mg base A outer s H->mn s fd args (ps.zip us)->bI vs us->sp vs H Q E->
  codeAny (model P w) A (.call (.ref f) args) (CR CX outer P w H s Q E) s
theorem eR.imp{P:Program}{w:al}{K:ag}{mg:Str->AE}{base:Heap}{CX:jP}{k:Nat}{f:Addr}{fd:cc}{ps:List Str}{sp sp':Sp}(F:eR P w K mg base CX k f fd ps sp)
  (h:∀vs H Q E,sp' vs H Q E->sp vs H Q E):eR P w K mg base CX k f fd ps sp':=
 ⟨λvs H Q E q=>F.len vs H Q E (h _ _ _ _ q),λA outer s H args us vs Q E hr he hb hv hs=>F.run A outer s H args us vs Q E hr he hb hv (h _ _ _ _ hs)⟩
section
variable{X:Cx}{AL:List (Addr×Obj)}{σ:St}{H:Hp}{s s':aa}
theorem aH.env0(I:aH X AL σ H s):yG X.prog X.w X.K X.mg X.base X.A X.stack s H:=
 ⟨I.ok.frames,I.ok.mod,I.bs,gm I.ok.bsz I.sz,I.stack,I.stkFree,I.hok,I.bare⟩
theorem aH.after{Q:VK}{u:Value}(I:aH X AL σ H s)(h:CE X.stack X.prog X.w H s Q u s'):EP X AL σ Q u s':=by
 obtain⟨v,H',os,bare,un,hok,r,q⟩:=h;obtain⟨hh,g,d,t,os'⟩:=s';obtain rfl:os'=s.os:=os;exact⟨v,H',I.call (h':=hh) (g':=g) (d':=d) (t':=t) (ch:=[]) un hok bare (λb z=>absurd z (by simp)),r,q⟩
end
def adA(sp:Sp)(dvs:List V)(E:XK)(t:TA):TE:=λσ H Q=>t σ H λvs H1=>sp (vs++dvs) H1 Q E
def jJ(K:ag)(fd:cc)(ps:List Str)(ds:AD):Prop:=
 ∀(s:aa)(us:AD),K.In s.heap->(us++ds).length=ps.length->mn s fd ⟨us,[]⟩ (ps.zip (us++ds))
theorem jJ.all{K:ag}{fd:cc}{ps:List Str}(h:∀us:AD,us.length=ps.length->bindArgs fd ⟨us,[]⟩=pure (ps.zip us)):jJ K fd ps []:=λs us _ hl=>by
 rw[ig]at hl⊢;exact .of_eq (h us hl)
def xF(CX:jP)(X:Cx)(E:XK):Prop:=∀(AL:List (Addr×Obj))(σ:St)(H:Hp)(s:aa)(e:Value)(s':aa),aH X AL σ H s->CX X.stack H s E e s'->X.xe e s'
section
variable{X:Cx}{CX:jP}{k:Nat}{f C:Addr}{fd:cc}{ps:List Str}{sp:Sp}{dvs:List V}{ds:AD}{E:XK}{x m:Str}{p pos apos:ai}{e o:ah}{es:List ah}{ta:TE}{t:TA}
theorem abP{AL:List (Addr×Obj)}{σ:St}{H:Hp}{s:aa}{Q:VK}{us:AD}{vs:List V}(F:eR X.prog X.w X.K X.mg X.base CX k f fd ps sp)(hr:dN k X.A)(hb:jJ X.K fd ps ds)(hd:bI dvs ds)(hx:xF CX X E)
  (I:aH X AL σ H s)(r:bI vs us)(h:sp (vs++dvs) H Q E):wpAny (model X.prog X.w) X.A (call (.ref f) us) (EP X AL σ Q) X.xe s:=by
 have r2:bI (vs++dvs) (us++ds):=r.append hd;have hl:(us++ds).length=ps.length:=by rw[<-r2.length];exact F.len _ _ _ _ h
 refine wpAny_call (qk (F.run X.A X.stack s H ⟨us,[]⟩ (us++ds) (vs++dvs) Q E hr I.env0 (hb s us I.kIn hl) r2 h) λr s' hq=>?_);cases r with
 |error e=>exact hx AL σ H s e s' I hq
 |ok fl=>
  cases fl with
  |ret u=>exact I.after hq
  |next=>exact jl hq
  |brk=>exact jl hq
  |cont=>exact jl hq
theorem tL(F:eR X.prog X.w X.K X.mg X.base CX k f fd ps sp)(hr:dN k X.A)(hg:Gl X x)(hm:X.mg x=some (.ref f))(hk:fk X.K (.ref f)=true)(hb:jJ X.K fd ps ds)(hd:bI dvs ds)(hx:xF CX X E)
  (ha:PA X (e::es) t)(hdb:(x==("__debug__":Str))=false:=by decide)(he:starEach (e::es) X.env=(false,eval e X.env)::starEach es X.env:=by rfl)(hpl:(backTo pos (starEach es X.env)).any (·.1)=false:=by rfl):
  PE X (.Call (.Name x p) (e::es) [] pos) (adA sp dvs E t):=by
 intro AL s σ H Q I h;refine vf (Od I hg hm ?_ hdb);refine PySem.W.callWith_K (h₀:=X.base) I.ok.mod.kin hk (bH (ha pos AL s σ H _ I h) λus s1 ⟨vs,H1,I1,r,q⟩=>⟨I1.kIn,?_⟩) he hpl;exact abP F hr hb hd hx I1 r q
end
section
variable{X:Cx}{CX:jP}{k:Nat}{f C:Addr}{fd:cc}{ps ks:List Str}{sp:Sp}{E:XK}{x m:Str}{p pos apos kpos:ai}{e o:ah}{es:List ah}{kws:List jb}{te ta:TE}{t tk:TA}{nm:Option Str}
variable{g:AD->AD->AD}{gV:List V->List V->List V}
end
structure iU(N P:List Str)(sc:Scope):Prop where
 kind:sc.kind=.function
 co:sc.isCoroutine=false
 gen:sc.isGenerator=false
 nd:N.Nodup
 pre:N.take P.length=P
 par:∀x∈P,sc.names.lookup x=some .local\/sc.names.lookup x=some .cell
 nofree:∀y∈sc.names,y.2≠.free
theorem El{kindOf:Str->Option fm}{x:Str}:∀{binds:List (Str×Value)}{m:Str->AE},(∀v,(x,v)∉binds)->bindL kindOf binds m x=m x
 |[],_,_=>rfl
 |(n,v)::r,m,h=>by
  unfold bindL;rw[El λw hw=>h w (bj _ hw)];split
  .have:x≠n:=by rintro rfl;exact h v bh
   simp[this]
  .rfl
theorem Xl{kindOf:Str->Option fm}{x:Str}:∀{binds:List (Str×Value)}{m:Str->AE},(∀v,(x,v)∉binds)->bindC kindOf binds m x=m x
 |[],_,_=>rfl
 |(n,v)::r,m,h=>by
  unfold bindC;rw[Xl λw hw=>h w (bj _ hw)];split
  .rfl
  .have:x≠n:=by rintro rfl;exact h v bh
   simp[this]
theorem Ul{kindOf:Str->Option fm}{x:Str}{v:Value}:∀{P:List Str}{vs:AD}{i:Nat}{m:Str->AE},P.Nodup->P[i]?=some x->vs[i]?=some v->kindOf x=some .local->
  bindL kindOf (P.zip vs) m x=some v
 |[],_,_,_,_,h,_,_=>by simp at h
 |_::_,[],_,_,_,_,h,_=>by simp at h
 |p::P,w::vs,0,m,nd,h1,h2,hk=>by
  simp at h1 h2;subst h1;subst h2;show bindL kindOf ((p,w)::P.zip vs) m p=_;unfold bindL;rw[El λv hv=>(kx.mp nd).1 (vg hv).1,if_pos hk];simp
 |p::P,w::vs,i+1,m,nd,h1,h2,hk=>by
  show bindL kindOf ((p,w)::P.zip vs) m x=_;unfold bindL;exact Ul (i:=i) (kx.mp nd).2 (by simpa using h1) (by simpa using h2) hk
theorem Rk{kindOf:Str->Option fm}{x:Str}{v:Value}:∀{P:List Str}{vs:AD}{i:Nat}{m:Str->AE},P.Nodup->P[i]?=some x->vs[i]?=some v->kindOf x≠some .local->
  bindC kindOf (P.zip vs) m x=some v
 |[],_,_,_,_,h,_,_=>by simp at h
 |_::_,[],_,_,_,_,h,_=>by simp at h
 |p::P,w::vs,0,m,nd,h1,h2,hk=>by
  simp at h1 h2;subst h1;subst h2;show bindC kindOf ((p,w)::P.zip vs) m p=_;unfold bindC;rw[Xl λv hv=>(kx.mp nd).1 (vg hv).1,if_neg hk];simp
 |p::P,w::vs,i+1,m,nd,h1,h2,hk=>by
  show bindC kindOf ((p,w)::P.zip vs) m x=_;unfold bindC;exact Rk (i:=i) (kx.mp nd).2 (by simpa using h1) (by simpa using h2) hk
def start(N:List Str)(vs:List V):St:=vs.map some++zb (N.length-vs.length) none
def dC(CX:jP)(P:Program)(w:al)(K:ag)(mg:Str->AE)(base:Heap)(N:List Str)(qual:Str)(scope:Scope)(f:Addr)(cd:Value)(A:ao)(outer:List bf)(s:aa)(H:Hp)(E:XK):Cx where
 prog:=P
 w:=w
 K:=K
 mg:=mg
 base:=base
 A:=A.deeper (envOfC qual scope s.heap.objs.size f cd)
 N:=N
 AM:=s
 AN:=H
 env:=envOfC qual scope s.heap.objs.size f cd
 outer:=outer
 stack:=envOfC qual scope s.heap.objs.size f cd::outer
 ex:=[]
 calm:=true
 fn:=λ_=>true
 pn:=[]
 xe:=λe s'=>wpAny (model P w) (A.deeper (envOfC qual scope s.heap.objs.size f cd)) (leaving (envOfC qual scope s.heap.objs.size f cd) e) (λ_ s''=>CX outer H s E e s'') (λe' s''=>CX outer H s E e' s'') s'
theorem Po{sc:Scope}{n:Nat}{x:Str}(h:sc.names.lookup x=some .cell):∃c,(cellsFrom n sc.names []).lookup x=some c:=by
 have q:=zc sc.names n [] (.inl h);exact Option.isSome_iff_exists.mp q
theorem B8{CX:jP}{P:Program}{w:al}{K:ag}{mg:Str->AE}{base:Heap}{N ps:List Str}{qual:Str}{scope:Scope}{f:Addr}{cd:Value}{A:ao}{outer:List bf}{s s1:aa}{H:Hp}{E:XK}{us:AD}{vs:List V}
  (S:iU N ps scope)(hd:A.handled=none)(e0:yG P w K mg base A outer s H)(hl:vs.length=ps.length)(r:bI vs us)
  (x:InCallC s s.heap.objs.size (bindL (envOfC qual scope s.heap.objs.size f cd).kindOf (ps.zip us) λ_=>none) (cellsFrom (s.heap.objs.size+1) scope.names []) (bindC (envOfC qual scope s.heap.objs.size f cd).kindOf (ps.zip us) λ_=>none) s1):
  aH (dC CX P w K mg base N qual scope f cd A outer s H E) [] (start N vs) H s1:=by
 have hpl:ps.length<=N.length:=by have:=congrArg vh S.pre;rw[jm]at this;omega
 obtain⟨h1,tk,rfl,hk⟩:=x.done;have noA:∀b:Addr,b∉(dC CX P w K mg base N qual scope f cd A outer s H E).ex:=λb z=>absurd (show b∈([]:List Addr) from z) (by simp);refine⟨⟨e0.mod,S.kind,rfl,rfl,aj _,λy z c h1 h2=>?_,λy hy=>?_,λy c _ h=>?_,λ_=>hd,Around.frames_deeper e0.frames,.inr ⟨rfl,rfl⟩,λb z=>absurd z (noA b),e0.bs,e0.bsz,λb _ _=>noA b,λb z=>absurd z (noA b),e0.funs,e0.frf⟩,
  rfl,e0.bare,Un.kept hk,⟨_,x.toInCall.ns,λi y v h1 h2 h3=>?_⟩,λy c h=>⟨_,x.cell y c h⟩,e0.hok.fresh (aj _),λy c h=>?_,λp hp=>absurd (show p∈([]:List (Addr×Obj)) from hp) (by simp),e0.hok.kept hk,?_⟩
 .exact name_of_addr x.apart (jn h1) (jn h2)
 .have hy:scope.names.lookup y=some .cell\/scope.names.lookup y=some .free:=hy
  rcases hy with hy |hy
  .exact Po hy
  .exact absurd rfl (S.nofree _ (jn hy))
 .exact oj (x.above y c (jn h))
 .have hi:i<vs.length:=by
   unfold start at h2
   by_cases hi:i<vs.length
   .exact hi
   .rw[de (by simpa using hi)]at h2
    rw[zd]at h2;split at h2<;>cases h2
  have ha:vs[i]?=some v:=by
   unfold start at h2;rw[du (by simpa using hi),bo]at h2;cases e:vs[i]? with
   |none=>rw[e]at h2;cases h2
   |some a=>rw[e]at h2;cases h2;rfl
  obtain⟨u,hu,rv⟩:=r.get ha;have hp:ps[i]?=some y:=by
   rw[<-S.pre,List.getElem?_take_of_lt (by omega)];exact h1
  have ndP:ps.Nodup:=by rw[<-S.pre];exact S.nd.sublist (List.take_sublist _ _)
  refine⟨u,rv,?_⟩;rcases S.par y (cx hp)with k |k
  .exact .inl ⟨k,Ul ndP hp hu k⟩
  .obtain⟨c,e⟩:=Po (n:=s.heap.objs.size+1) k
   refine .inr ⟨.inl k,c,e,?_⟩;have q:=x.cell y c e;rw[Rk ndP hp hu (by show scope.names.lookup y≠_;rw[k];decide)]at q;exact q
 .exact e0.hok.fresh (oj (x.above y c (jn h)))
 .unfold start
  show _=N.length;rw[av,am,List.length_replicate];omega
theorem Nf{CX:jP}{P:Program}{w:al}{K:ag}{mg:Str->AE}{base:Heap}{k:Nat}{f:Addr}{name qual:Str}{params:Arguments}{body:List Stmt}{scope:Scope}{dV kV doc pm cdv ct oc:Value}{an od:AF}
  {osl:Array AE}{N ps:List Str}{sp:Sp}(lk:K.lookup f=some ⟨oc,od,.func (dn name qual params body scope dV kV doc pm an cdv ct),osl⟩)(hcd:jx K cdv qual=true)(S:iU N ps scope)
  (len:∀vs H Q E,sp vs H Q E->vs.length=ps.length)
  (hbody:∀(A:ao)(outer:List bf)(s:aa)(H:Hp)(vs:List V)(Q:VK)(E:XK),dN k (A.deeper (envOfC qual scope s.heap.objs.size f cdv))->sp vs H Q E->
   ∃t,gK (dC CX P w K mg base N qual scope f cdv A outer s H E) body t/\t {nx:=λ_ H'=>Q .non H',rt:=Q} (start N vs) H):
  eR P w K mg base CX (k+1) f (dn name qual params body scope dV kV doc pm an cdv ct) ps sp:=by
 refine⟨len,λA outer s H args us vs Q E hr e0 hb r hsp=>?_⟩;have hl:=len _ _ _ _ hsp;have KX:K.In s.heap:=e0.mod.kin.keeps λb o e=>(e0.bs b o e).1;have lim:s.heap.NoLimit:=e0.mod.nolimit.keeps λb o e=>(e0.bs b o e).1;have hkind:∀y∈ps.zip us,scope.names.lookup y.1=some .local\/(scope.names.lookup y.1=some .cell/\((cellsFrom (s.heap.objs.size+1) scope.names []).lookup y.1).isSome=true):=λ⟨n,v⟩ hy=>by
  rcases S.par n (vg hy).1 with q |q
  .exact .inl q
  .exact .inr ⟨q,zc _ _ _ (.inl q)⟩
 refine codeAny_call_function hr.depth (KX _ _ lk) rfl S.co S.gen rfl (PySem.W.codeRec_of KX hcd) (hb _ _ _ _ ?_);refine wpAny_newFunctionEnv_cells S.kind hkind λenv he s1 x=>?_;subst he;refine⟨lim.keeps x.toInCall.keep,codeAny_func ?_⟩;obtain⟨t,ht,hq⟩:=hbody A outer s H vs Q E (hr.deeper _) hsp;have I:aH (dC CX P w K mg base N qual scope f cdv A outer s H E) [] (start N vs) H s1:=B8 S hr.hd e0 hl r x;refine fj (ht [] s1 (start N vs) H _ I hq) (λfl s' hs=>?_) λe s' hs=>hs;have fin:∀{σ':St}{H':Hp}{v:V}{u:Value},aH (dC CX P w K mg base N qual scope f cdv A outer s H E) [] σ' H' s'->bT v u->Q v H'->CE outer P w H s Q u s':=
  λ{σ' H' v u} J rv q=>⟨v,H',J.os,J.bare,J.base,J.hok,rv,q⟩
 cases fl with
 |ret u=>
  obtain⟨v,σ',H',J,rv,q⟩:=hs;exact fin J rv q
 |next=>
  obtain⟨σ',H',J,q⟩:=hs;exact fin (v:=V.non) (u:=cu) J rfl q
 |brk=>
  obtain⟨_,_,_,q⟩:=hs;exact jl q
 |cont=>
  obtain⟨_,_,_,q⟩:=hs;exact jl q
section
variable{X:Cx}{x:Str}{p pos:ai}{e:ah}{es:List ah}{t:TA}{id T:String}{r:List V->Hp->VK->Prop}
def Hw(r:List V->Hp->VK->Prop)(t:TA):TE:=λσ H Q=>t σ H λvs H1=>r vs H1 Q
theorem Vb(hc:iX X (.builtin id) r)(hg:Gl X x)(hm:X.mg x=none)(hv:bootBuiltins x=some (.builtin id))(ha:PA X (e::es) t)(hn:x≠"__name__":=by decide)(hdb:(x==("__debug__":Str))=false:=by decide)
  (he:starEach (e::es) X.env=(false,eval e X.env)::starEach es X.env:=by rfl)(hpl:(backTo pos (starEach es X.env)).any (·.1)=false:=by rfl):PE X (.Call (.Name x p) (e::es) [] pos) (Hw r t):=by
 intro AL s σ H Q I h;refine vf (pV I hg hm hv ?_ hn hdb);exact PyProof.Rows.callWith_builtin1 (bH (ha pos AL s σ H _ I h) λus s1 ⟨vs,H1,I1,r1,q1⟩=>hc AL s1 σ H1 vs us Q I1 r1 q1) he hpl
theorem vL(hc:iX X (.type T) r)(hg:Gl X x)(hm:X.mg x=none)(hv:bootBuiltins x=some (.type T))(ha:PA X (e::es) t)(hn:x≠"__name__":=by decide)(hdb:(x==("__debug__":Str))=false:=by decide)
  (he:starEach (e::es) X.env=(false,eval e X.env)::starEach es X.env:=by rfl)(hpl:(backTo pos (starEach es X.env)).any (·.1)=false:=by rfl):PE X (.Call (.Name x p) (e::es) [] pos) (Hw r t):=by
 intro AL s σ H Q I h;refine vf (pV I hg hm hv ?_ hn hdb);exact oq (bH (ha pos AL s σ H _ I h) λus s1 ⟨vs,H1,I1,r1,q1⟩=>hc AL s1 σ H1 vs us Q I1 r1 q1) he hpl
end
end L2
namespace HT
open PySem PyProof.Rows
def lexLt:AA->AA->Bool
 |[],[]=>false
 |[],_::_=>true
 |_::_,[]=>false
 |x::xs,y::ys=>if x=y then lexLt xs ys else decide (x<y)
theorem lexLt_cons(x y:Int)(xs ys:AA):lexLt (x::xs) (y::ys)=if x=y then lexLt xs ys else decide (x<y):=rfl
section
open PySem.SeqAt
open PySem.AutoSeq1 (wpAny_loadPart')
open PySem.MeetsSeq PySem.MeetsSeq2 PySem.MeetsSeq3
end
section
variable{prog:Program}{w:al}{A:ao}{E:Value->aa->Prop}{s:aa}
theorem cat_tup{t b:Addr}{vs ws:AD}{Q:Value->aa->Prop}(ht:IsTup s.heap t vs.toArray)(hb:IsTup s.heap b ws.toArray)(hv:vs≠[])
  (h1:ws=[]->Q (.ref t) s)(h2:ws≠[]->Q (.ref s.heap.objs.size) {s with heap:=s.heap.push {cls:=.type "tuple",data:=.seq (vs++ws).toArray}})
  (hsz:vs.length+ws.length<=sizeLine):wpAny (model prog w) A (binaryOp .Add (.ref t) (.ref b)) Q E s:=by
 obtain⟨⟨cls,dd,data,sl⟩,ho,hc,n,hd⟩:=id ht;obtain⟨⟨cls2,dd2,data2,sl2⟩,ho2,hc2,n2,hd2⟩:=id hb;simp only at hc hd hc2 hd2;subst hc hd hc2 hd2;have e:vs.toArray++ws.toArray=(vs++ws).toArray:=by simp
 by_cases hw:ws=[]
 .exact ql ⟨_,ho,rfl⟩ ⟨_,ho2,rfl⟩ vj vk vm vn (vo _ _)
   (tuple_addW1 t b vs.toArray ws.toArray n n2 dd dd2 sl sl2 (by simpa using hv) (by simp[hw])) ⟨ho,ho2,h1 hw⟩
 .refine ql ⟨_,ho,rfl⟩ ⟨_,ho2,rfl⟩ vj vk vm vn (vo _ _)
   (tuple_addW2 t b vs.toArray ws.toArray n n2 dd dd2 sl sl2 (by simpa using hv) (by simpa using hw) (by rw[az,az];exact hsz)) ⟨ho,ho2,?_⟩
  rw[e];exact h2 hw
def sIx(n d:Nat):AG->Nat
 |none=>d
 |some v=>if v<0 then(v+(n:Int)).toNat else min v.toNat n
theorem sIx_nat(n d k:Nat):sIx n d (some (k:Int))=min k n:=by
 show(if(k:Int)<0 then((k:Int)+(n:Int)).toNat else min (k:Int).toNat n)=min k n;rw[if_neg (by omega),ky]
theorem acH(n d:Nat)(hd:d<=n)(o:AG):sIx n d o<=n:=by
 cases o with
 |none=>exact hd
 |some v=>
  show(if v<0 then(v+(n:Int)).toNat else min v.toNat n)<=n
  by_cases hv:v<0
  .rw[if_pos hv];omega
  .rw[if_neg hv];exact Nat.min_le_right _ _
theorem Ip(v:Int)(n d:Nat):(if v<0 then max (v+(n:Int)) 0 else min v (n:Int))=((sIx n d (some v):Nat):Int):=by
 show(if v<0 then max (v+(n:Int)) 0 else min v (n:Int))=(((if v<0 then(v+(n:Int)).toNat else min v.toNat n):Nat):Int)
 by_cases hv:v<0
 .simp only[if_pos hv];omega
 .simp only[if_neg hv];omega
theorem Zy(lo hi:AG)(n:Nat):vp lo hi 1 (n:Int)=(((sIx n 0 lo:Nat):Int),((sIx n n hi:Nat):Int)):=by
 have h1:¬((1:Int)<0):=by omega
 unfold vp;simp only[h1,if_false];refine jg ?_ ?_
 .cases lo with
  |none=>rfl
  |some v=>exact Ip v n 0
 .cases hi with
  |none=>rfl
  |some v=>exact Ip v n n
theorem Uz(i j:Nat):qm (i:Int) (j:Int) 1=j-i:=by
 unfold qm;have h1:(1:Int)>0:=by omega
 simp only[h1,if_true,Int.ediv_one];split<;>omega
theorem Fj{v:Value}{o:AG}{Q:AG->aa->Prop}(p:ki v o)(h:Q o s):wpAny (model prog w) A (Builtin.Slice.slicePartIndex v) Q E s:=by
 cases p with
 |none=>exact slicePart_none h
 |int i t=>exact slicePart_int h
theorem Sw{sl:Addr}{vl vu:Value}{lo hi:AG}{n:Nat}{Q:Int×Int×Nat->aa->Prop}(hs:s.heap.IsSliceOf sl vl vu .none)(pl:ki vl lo)(pu:ki vu hi)
  (h:Q (((sIx n 0 lo:Nat):Int),1,sIx n n hi-sIx n 0 lo) s):wpAny (model prog w) A (ze (.ref sl) (pure (n:Int))) Q E s:=by
 obtain⟨os,hos,hcs,hds⟩:=id hs;unfold ze Builtin.Slice.sliceFields;refine ae (ae (gn hos hds (x:=vl) rfl (ae (gn hos hds (x:=vu) rfl (ae (gn hos hds (x:=.none) rfl (ak ?_)))))));refine ae (slicePart_none ?_);show wpAny _ _ (if((1:Int)==0)=true then _ else _) _ _ s;rw[if_neg (by decide)];refine ae (Fj pl (ae (Fj pu (ae (ak ?_)))));show wpAny _ _ (match vp lo hi 1 (n:Int)with |(lo,hi)=>pure (lo,(1:Int),qm lo hi 1)) _ _ s
 rw[Zy lo hi n];show wpAny _ _ (pure (((sIx n 0 lo:Nat):Int),(1:Int),qm ((sIx n 0 lo:Nat):Int) ((sIx n n hi:Nat):Int) 1)) _ _ s;rw[Uz];exact ak h
theorem U9(xs:Array Value)(i k:Nat):((cj k).filterMap λ(m:Nat)=>xs[((i:Int)+(m:Int)*1).toNat]?).toArray=((xs.toList.drop i).take k).toArray:=by
 have e:(λ(m:Nat)=>xs[((i:Int)+(m:Int)*1).toNat]?)=λm=>xs[i+m]?:=by
  funext m
  have:((i:Int)+(m:Int)*1).toNat=i+m:=by omega
  rw[this]
 rw[e];have:=pick_run xs i k;rw[List.filterMap_map]at this;have e2:((λx=>xs[x]?)∘λx=>i+x)=λm=>xs[i+m]?:=rfl;rw[e2]at this;rw[this]
theorem getItem_tuple_cut{t sl:Addr}{items:Array Value}{vl vu:Value}{lo hi:AG}{Q:Value->aa->Prop}(ht:IsTup s.heap t items)(hs:s.heap.IsSliceOf sl vl vu .none)(pl:ki vl lo)(pu:ki vu hi)
  (hw:¬(sIx items.size 0 lo=0/\sIx items.size items.size hi=items.size))
  (h:Q (.ref s.heap.objs.size) {s with heap:=s.heap.push {cls:=.type "tuple",data:=.seq ((items.toList.drop (sIx items.size 0 lo)).take (sIx items.size items.size hi-sIx items.size 0 lo)).toArray}})
  (hsz:items.size<=sizeLine):wpAny (model prog w) A (getItem (.ref t) (.ref sl)) Q E s:=by
 have htake:sizeOk (.seq ((items.toList.drop (sIx items.size 0 lo)).take (sIx items.size items.size hi-sIx items.size 0 lo)).toArray):=by
  show((items.toList.drop (sIx items.size 0 lo)).take (sIx items.size items.size hi-sIx items.size 0 lo)).toArray.size<=sizeLine;rw[az,jm,ow,qg];omega
 have hj:sIx items.size items.size hi<=items.size:=acH _ _ (aj _) hi;obtain⟨os,hos,hcs,hds⟩:=id hs;have hTs:s.TypeIs (.ref sl) "slice":=⟨os,hos,hcs⟩;unfold getItem
 try with_reducible refine jw ?_
 first |refine ae (ak ?_) |skip
 refine ae (wpAny_sequenceKey ht.typeIs (by decide) ?_);refine ae (jy (name:=dl "__getitem__") ht.typeIs qo
  (jc qo ht.typeIs entry_tuple_getitem ?_ (args_tuple_getitem _ _)))
 show wpAny _ _ (zf (.ref t) >>= _) _ _ s;refine ae (tupleItemsOf_ ht ?_);refine ae (wpAny_typeOf hTs ?_);rw[if_pos (by decide)];refine ae (Sw hs pl pu ?_);have hno:¬((((sIx items.size 0 lo:Nat):Int)==0&&(1:Int)==1&&(sIx items.size items.size hi-sIx items.size 0 lo)==items.size)=true):=by
  intro q;rw[jd,jd]at q;have q1:((sIx items.size 0 lo:Nat):Int)=0:=eq_of_beq q.1.1;have q2:sIx items.size items.size hi-sIx items.size 0 lo=items.size:=eq_of_beq q.2;exact hw ⟨by omega,by omega⟩
 show wpAny _ _ (if(((sIx items.size 0 lo:Nat):Int)==0&&(1:Int)==1&&(sIx items.size items.size hi-sIx items.size 0 lo)==items.size)=true then _ else _) _ _ s;rw[if_neg hno,U9]
 first
  |exact ae (m:=qp _) (ib (ak ⟨_,rfl,ak h⟩) htake)
  |exact ae (m:=qp _) (ib (ae (ak (ak ⟨_,rfl,ak h⟩))) htake)
  |exact ae (ae (m:=qp _) (ib (ak (ak ⟨_,rfl,ak h⟩)) htake))
  |exact ae (ae (m:=qp _) (ib (ak ⟨_,rfl,ak h⟩) htake))
end
end HT
namespace L2
open PySem PySem.Spec PyProof.Rows
abbrev TO:=St->Hp->(AG->Hp->Prop)->Prop
def PO(X:Cx)(e:Option ah)(t:TO):Prop:=
 ∀(AL:List (Addr×Obj))(s:aa)(σ:St)(H:Hp)(Q:AG->Hp->Prop),aH X AL σ H s->t σ H Q->
  wpAny (model X.prog X.w) X.A (evalPart e X.env) (λu s'=>∃o H',aH X AL σ H' s'/\ki u o/\Q o H') X.xe s
def abD:TO:=λ_ H Q=>Q none H
def ac8(t:TE):TO:=λσ H Q=>t σ H λx H1=>∃i,x=.int i/\Q (some i) H1
section
variable{X:Cx}{e:ah}{te:TE}{lo hi:Option ah}{tl th:TO}{pos p2:ai}
theorem aaA:PO X none abD:=by
 intro AL s σ H Q I h;rw[evalPart_none];exact ak ⟨none,H,I,.none,h⟩
theorem aag(h:PE X e te):PO X (some e) (ac8 te):=by
 intro AL s σ H Q I hw;rw[evalPart_some];refine bH (h AL s σ H _ I hw) ?_
 rintro u s1 ⟨x,H1,I1,r1,q1⟩
 obtain⟨i,rfl,q⟩:=q1;obtain⟨t,rfl⟩:=r1;exact⟨some i,H1,I1,.int i t,q⟩
def pA(X:Cx)(r:V->AG->AG->Hp->VK->Prop):Prop:=
 ∀(AL:List (Addr×Obj))(s:aa)(σ:St)(H:Hp)(x:V)(v vl vu:Value)(lo hi:AG)(sl:Addr)(Q:VK),aH X AL σ H s->bT x v->s.heap.IsSliceOf sl vl vu .none->ki vl lo->ki vu hi->r x lo hi H Q->
  ∃T id,typeLookup (.type T) "__getitem__"=pure (some (.builtin id))/\s.TypeIs v T/\wpAny (model X.prog X.w) X.A (getItem v (.ref sl)) (EP X AL σ Q) X.xe s
theorem pA.or{r r':V->AG->AG->Hp->VK->Prop}(h:pA X r)(h':pA X r'):pA X (λx lo hi H Q=>r x lo hi H Q\/r' x lo hi H Q):=by
 intro AL s σ H x v vl vu lo hi sl Q I rx hs pl pu q;rcases q with q |q
 .exact h AL s σ H x v vl vu lo hi sl Q I rx hs pl pu q
 .exact h' AL s σ H x v vl vu lo hi sl Q I rx hs pl pu q
def tSl(r:V->AG->AG->Hp->VK->Prop)(te:TE)(tl th:TO):TE:=λσ H Q=>te σ H λx H1=>tl σ H1 λl H2=>th σ H2 λu H3=>r x l u H3 Q
theorem Q2{r:V->AG->AG->Hp->VK->Prop}(hr:pA X r)(he:PE X e te)(hl:PO X lo tl)(hu:PO X hi th):PE X (.Subscript e (.Slice lo hi none p2) pos) (tSl r te tl th):=by
 intro AL s σ H Q I h;refine Subscript_ (bH (he AL s σ H _ I h) λv s1 hq=>?_);rcases hq with⟨x,H1,I1,r1,q1⟩;refine wpAny_Slice (bH (hl AL s1 σ H1 _ I1 q1) λvl s2 ⟨l,H2,I2,pl,q2⟩=>bH (hu AL s2 σ H2 _ I2 q2) λvu s3 hq=>?_);rcases hq with⟨u,H3,I3,pu,q3⟩;rw[evalPart_none];refine ak ?_;have I4:aH X AL σ H3 {s3 with heap:=s3.heap.push {cls:=.type "slice",data:=.fields #[vl,vu,.none]}}:=I3.kept (t':=s3.toks) λb ob q=>ax _ q;obtain⟨T,id,hT,ht,hg⟩:=hr AL {s3 with heap:=s3.heap.push {cls:=.type "slice",data:=.fields #[vl,vu,.none]}} σ H3 x v vl vu l u s3.heap.objs.size Q I4 r1 (Heap.IsSliceOf.new ..) pl pu q3;show wpAny (model X.prog X.w) X.A (subscriptTail e (.Slice lo hi none p2) v (.ref s3.heap.objs.size)) (EP X AL σ Q) X.xe {s3 with heap:=s3.heap.push {cls:=.type "slice",data:=.fields #[vl,vu,.none]}};exact tail_any (ops:=[.ref s3.heap.objs.size,v]) ht hT hg (by with_unfolding_all rfl)
def oR(xs:List V)(lo hi:AG):List V:=(xs.drop (HT.sIx xs.length 0 lo)).take (HT.sIx xs.length xs.length hi-HT.sIx xs.length 0 lo)
theorem vC(xs:List V)(lo hi:AG):(oR xs lo hi).length<=xs.length:=by
 unfold oR;rw[jm,ow];omega
def aeT(K:ag):V->AG->AG->Hp->VK->Prop:=λx lo hi H Q=>∃a xs,x=.ref a/\dJ K H a xs/\
 ¬(HT.sIx xs.length 0 lo=0/\HT.sIx xs.length xs.length hi=xs.length)/\∀p,H p=none->Q (.ref p) (aY H p (.tup (oR xs lo hi)))
theorem act:pA X (aeT X.K):=by
 intro AL s σ H x v vl vu lo hi sl Q I rx hs pl pu h;obtain⟨a,xs,rfl,hx,hw,q⟩:=h;cases rx;obtain⟨its,r,ht,hz⟩:=I.tuple hx;have hlen:its.toArray.size=xs.length:=by rw[az];exact r.length.symm
 refine⟨"tuple",_,qo.lookup,ht.typeIs,?_⟩;refine HT.getItem_tuple_cut ht hs pl pu (by rw[hlen];exact hw) ?_ (by rw[hlen];exact hz);rw[hlen];refine⟨.ref s.heap.objs.size,_,I.laid (t':=s.toks) (o:=.tup (oR xs lo hi)) (λb ob q=>ax _ q) (aj _) ?_,rfl,q _ (I.hok.fresh (aj _))⟩;exact⟨gm (vC xs lo hi) hz,_,(r.drop (HT.sIx xs.length 0 lo)).take (HT.sIx xs.length xs.length hi-HT.sIx xs.length 0 lo),qj _ _⟩
def Tf(K:ag):R2:=λx y H Q=>∃a b xs ys,x=.ref a/\y=.ref b/\dJ K H a xs/\dJ K H b ys/\xs≠[]/\xs.length+ys.length<=sizeLine/\
 (ys=[]->Q (.ref a) H)/\(ys≠[]->∀p,H p=none->Q (.ref p) (aY H p (.tup (xs++ys))))
theorem bI.nil_iff{xs:List V}{us:AD}(r:bI xs us):us=[]↔xs=[]:=by
 cases r with
 |nil=>simp
 |cons _ _=>simp
theorem Vq:eQ X (binaryOp .Add) (Tf X.K):=by
 intro AL s σ H x y v u Q I rx ry h;obtain⟨a,b,xs,ys,rfl,rfl,ha,hb,hx,hz,q1,q2⟩:=h;cases rx;cases ry;obtain⟨its,r1,p1,_⟩:=I.tuple ha;obtain⟨its2,r2,p2,_⟩:=I.tuple hb;refine HT.cat_tup p1 p2 (λz=>hx (r1.nil_iff.mp z)) (λz=>⟨.ref a,H,I,rfl,q1 (r2.nil_iff.mp z)⟩) (λz=>?_) (by rw[<-r1.length,<-r2.length];exact hz);refine⟨.ref s.heap.objs.size,_,I.laid (t':=s.toks) (o:=.tup (xs++ys)) (λb ob q=>ax _ q) (aj _) ?_,rfl,q2 (λw=>z (r2.nil_iff.mpr w)) _ (I.hok.fresh (aj _))⟩;exact⟨by rw[av];exact hz,_,r1.append r2,qj _ _⟩
end
def bA(n:Nat)(i:Int):Option Nat:=if 0<=i then(if i<n then some i.toNat else none)else if-(n:Int)<=i then some (i+n).toNat else none
def aZ{α:Type}(xs:List α)(i:Int):Option α:=(bA xs.length i).bind λj=>xs[j]?
theorem Gq{n:Nat}{i:Int}{j:Nat}(h:bA n i=some j):seqIndex? i n=some j/\j<n/\-(n:Int)<=i/\i<n:=by
 unfold bA at h
 by_cases h0:0<=i
 .rw[if_pos h0]at h
  by_cases h1:i<n
  .rw[if_pos h1]at h
   have e:i.toNat=j:=bn h;exact⟨by rw[vq h0 h1,e],by omega,by omega,h1⟩
  .rw[if_neg h1]at h;cases h
 .rw[if_neg h0]at h
  by_cases h1:-(n:Int)<=i
  .rw[if_pos h1]at h
   have e:(i+n).toNat=j:=bn h;exact⟨by rw[vt (by omega) h1,e],by omega,h1,by omega⟩
  .rw[if_neg h1]at h;cases h
theorem Cd{α:Type}{xs:List α}{i:Int}{v:α}(h:aZ xs i=some v):∃j,seqIndex? i xs.length=some j/\xs[j]?=some v/\j<xs.length/\-(xs.length:Int)<=i/\i<xs.length:=by
 unfold aZ at h;cases e:bA xs.length i with
 |none=>rw[e]at h;cases h
 |some j=>
  rw[e]at h;obtain⟨h1,h2,h3,h4⟩:=Gq e;exact⟨j,h1,h,h2,h3,h4⟩
theorem fA{α:Type}{xs:List α}{j:Nat}{v:α}(h:xs[j]?=some v):aZ xs (j:Int)=some v:=by
 have hj:j<xs.length:=(ca.mp h).1;have e:bA xs.length (j:Int)=some j:=by
  unfold bA;rw[if_pos (by omega),if_pos (by omega)];simp
 unfold aZ;rw[e];exact h
theorem M4{α:Type}(xs:List α)(v:α):aZ (xs++[v]) (-1)=some v:=by
 have hl:(xs++[v]).length=xs.length+1:=by simp
 have e:bA (xs++[v]).length (-1)=some xs.length:=by
  unfold bA;rw[hl,if_neg (by decide),if_pos (by omega)];congr 1;omega
 unfold aZ;rw[e];show(xs++[v])[xs.length]?=some v;simp
def wS(b:ah):Prop:=∀o i,subscripted b false o i=operate [o,i] (getItem o i)
def mI(X:Cx)(r:R2):Prop:=
 ∀(value slice:ah)(AL:List (Addr×Obj))(s:aa)(σ:St)(H:Hp)(x y:V)(v u:Value)(Q:VK),aH X AL σ H s->bT x v->bT y u->r x y H Q->
  subscripted slice false v u=operate [v,u] (getItem v u)->wpAny (model X.prog X.w) X.A (subscriptTail value slice v u) (EP X AL σ Q) X.xe s
def uW(X:Cx)(id:String)(r:V->List V->Hp->VK->Prop):Prop:=
 ∀(AL:List (Addr×Obj))(s:aa)(σ:St)(H:Hp)(x:V)(xs:List V)(v:Value)(us:AD)(Q:VK),aH X AL σ H s->bT x v->bI xs us->r x xs H Q->
  wpAny (model X.prog X.w) X.A (call (.builtin id) (v::us)) (EP X AL σ Q) X.xe s
section
variable{X:Cx}{a b:ah}{ta tb:TE}{pos:ai}
theorem mI.or{r r':R2}(h:mI X r)(h':mI X r'):mI X (λx y H Q=>r x y H Q\/r' x y H Q):=by
 intro value slice AL s σ H x y v u Q I rx ry q hs;rcases q with q |q
 .exact h value slice AL s σ H x y v u Q I rx ry q hs
 .exact h' value slice AL s σ H x y v u Q I rx ry q hs
theorem Wf{r:R2}(hr:mI X r)(ha:PE X a ta)(hb:PE X b tb)(hs:wS b):PE X (.Subscript a b pos) (yW r ta tb):=by
 intro AL s σ H Q I h;exact Subscript_ (Hg ha hb I h λv u s2 x y H2 I2 rx ry q=>hr a b AL s2 σ H2 x y v u Q I2 rx ry q (hs _ _))
def Rv(K:ag):R2:=λx y H Q=>∃p xs i v,x=.ref p/\y=.int i/\cJ K H p xs/\aZ xs i=some v/\Q v H
def Tv(K:ag):R2:=λx y H Q=>∃p xs i v,x=.ref p/\y=.int i/\dJ K H p xs/\aZ xs i=some v/\Q v H
def Zv:R2:=λx y H Q=>∃z i c,x=.str z/\y=.int i/\z.length<=sizeLine/\aZ z.cps.toList i=some c/\Q (.str ⟨#[c]⟩) H
theorem aa3:mI X (Rv X.K):=by
 intro value slice AL s σ H x y v u Q I rx ry h hs;obtain⟨p,xs,i,z,rfl,rfl,hq,he,q⟩:=h;cases rx;obtain⟨t,rfl⟩:=ry;obtain⟨its,r,pl,hz⟩:=I.list hq;obtain⟨j,h1,h2,h3,h4,h5⟩:=Cd he;obtain⟨w,ew,rw'⟩:=r.get h2;have hl:=r.length;have hn:=tU;have fin:EP X AL σ Q w s:=⟨z,H,I,rw',q⟩
 by_cases h0:0<=i
 .have hj:i.toNat=j:=by
   rw[vq h0 h5]at h1;exact bn h1
  exact item_listR pl.isList h0 (by omega) (by rw[hj];simpa using ew) fin hs
 .have hj:(i+(its.toArray.size:Int)).toNat=j:=by
   rw[vt (by omega) h4]at h1;rw[az,<-hl];exact bn h1
  exact zg (x:=w) pl.isList.typeIs slot_list_getitem.lookup
   (wpAny_getItem_list_neg (Q:=λr s'=>r=w/\EP X AL σ Q r s') pl.isList (by omega) (by rw[az]<;>omega) (by omega) (by rw[hj];simpa using ew) ⟨rfl,fin⟩) hs
theorem ac0:mI X (Tv X.K):=by
 intro value slice AL s σ H x y v u Q I rx ry h hs;obtain⟨p,xs,i,z,rfl,rfl,hq,he,q⟩:=h;cases rx;obtain⟨t,rfl⟩:=ry;obtain⟨its,r,pl,hz⟩:=I.tuple hq;obtain⟨j,h1,h2,h3,h4,h5⟩:=Cd he;obtain⟨w,ew,rw'⟩:=r.get h2;have hl:=r.length;have hn:=tU;have fin:EP X AL σ Q w s:=⟨z,H,I,rw',q⟩;exact zg (x:=w) pl.typeIs qo.lookup
  (getItem_tuple (j:=j) (Q:=λr s'=>r=w/\EP X AL σ Q r s') pl (by omega) (by omega) (by rw[az,<-hl];exact h1) (by simpa using ew) ⟨rfl,fin⟩) hs
theorem acL:mI X Zv:=by
 intro value slice AL s σ H x y v u Q I rx ry h hs;obtain⟨z,i,c,rfl,rfl,hz,he,q⟩:=h;obtain⟨t,rfl⟩:=rx;obtain⟨t',rfl⟩:=ry;obtain⟨j,h1,h2,h3,h4,h5⟩:=Cd he;have hl:z.cps.toList.length=z.length:=by simp[Str.length]
 rw[hl]at h1 h4 h5;have hn:=tU;exact tail_any (typeIs_str s z t) slot_str_getitem.lookup (getItem_str (c:=c) (by
  have e1:decide (i< -(2^63:Int))=false:=decide_eq_false (by omega);have e2:decide (i>=2^63)=false:=decide_eq_false (by omega);rw[e1,e2,Bool.or_false]) (by rw[h1];simpa using h2) ⟨.str ⟨#[c]⟩,H,I.tok _,⟨_,rfl⟩,q⟩) hs
def Qw(K:ag):R2:=λx y H Q=>Rv K x y H Q\/Tv K x y H Q\/Zv x y H Q
theorem Us:mI X (Qw X.K):=aa3.or (ac0.or acL)
theorem Ry(its:AD)(n j:Nat)(u:Value):ij (·.setIfInBounds j u) {cls:=.type "list",data:=.seq its.toArray n}={cls:=.type "list",data:=.seq (its.set j u).toArray n}:=by
 simp[ij]
theorem aH.lst{AL:List (Addr×Obj)}{σ:St}{H:Hp}{s:aa}{p:Addr}{xs:List V}(I:aH X AL σ H s)(h:H p=some (.lst xs)):
  ∃(its:AD)(n:Nat),bI xs its/\s.heap.get? p=some {cls:=.type "list",data:=.seq its.toArray n}/\xs.length<=sizeLine:=by
 obtain⟨z,its,n,r,e⟩:=I.hok p _ h;exact⟨its,n,r,e,z⟩
theorem aH.lstUpd{AL:List (Addr×Obj)}{σ:St}{H:Hp}{s:aa}{p:Addr}{xs ys:List V}{its its':AD}{n n':Nat}{f:Obj->Obj}(I:aH X AL σ H s)(h:H p=some (.lst xs))
  (ho:s.heap.get? p=some {cls:=.type "list",data:=.seq its.toArray n})(hf:f {cls:=.type "list",data:=.seq its.toArray n}={cls:=.type "list",data:=.seq its'.toArray n'})(r:bI ys its')(hz:ys.length<=sizeLine)(t:Nat):
  aH X AL σ (aY H p (.lst ys)) {s with heap:=s.heap.update p f,toks:=t}:=by
 have e:(s.heap.update p f).get? p=some {cls:=.type "list",data:=.seq its'.toArray n'}:=by
  rw[qq f ho (by rw[hf]<;>rfl),hf]
 refine I.write (x:=p) (e:=p) (by rw[h];trivial) (.inl rfl) (λb u hb q=>(zh _ _ (iz hb)).trans q) ⟨_,e⟩ ?_;exact⟨hz,its',n',r,e⟩
def adf:V->V->V->Hp->(Hp->Prop)->Prop:=λo i v H Q=>∃p xs k j,o=.ref p/\i=.int k/\H p=some (.lst xs)/\bA xs.length k=some j/\Q (aY H p (.lst (xs.set j v)))
theorem On:Eg X adf:=by
 intro AL s σ H o i v ov iv u Q I ro ri rv h;obtain⟨p,xs,k,j,rfl,rfl,hp,hj,q⟩:=h;cases ro;obtain⟨t,rfl⟩:=ri;obtain⟨its,n,r,ho,hz⟩:=I.lst hp;obtain⟨h1,h2,h3,h4⟩:=Gq hj;have hl:=r.length;have hn:=tU;have I':aH X AL σ (aY H p (.lst (xs.set j v))) {s with heap:=s.heap.update p (ij (·.setIfInBounds j u))}:=
  I.lstUpd hp ho (Ry its n j u) (r.set rv j) (by rw[fe];exact hz) s.toks
 by_cases h0:0<=k
 .have hk:k.toNat=j:=by
   rw[vq h0 h4]at h1;exact bn h1
  exact PySem.W.ki_setAt ho h0 (by omega) (by rw[az,<-hl];exact h4) (by rw[hk];exact⟨_,I',q⟩)
 .have hk:(k+(its.toArray.size:Int)).toNat=j:=by
   rw[vt (by omega) h3]at h1;rw[az,<-hl];exact bn h1
  exact PySem.W.ki_setBack ho (by omega) (by rw[az,<-hl];exact h3) (by omega) (by rw[hk];exact⟨_,I',q⟩)
theorem Ox(lo hi:AG)(n:Nat):(sliceBounds lo hi none n).1=((HT.sIx n 0 lo:Nat):Int)/\(sliceBounds lo hi none n).2.1=((HT.sIx n n hi:Nat):Int)/\(sliceBounds lo hi none n).2.2=1:=by
 refine⟨?_,?_,rfl⟩
 .cases lo with
  |none=>simp[sliceBounds,HT.sIx]
  |some i=>
   simp only[sliceBounds,HT.sIx,zi,show(1:Int)>0 by decide,if_true]
   by_cases h:i<0
   .simp only[h,if_true]<;>omega
   .simp only[h,if_false]<;>omega
 .cases hi with
  |none=>simp[sliceBounds,HT.sIx]
  |some i=>
   simp only[sliceBounds,HT.sIx,zi,show(1:Int)>0 by decide,if_true]
   by_cases h:i<0
   .simp only[h,if_true]<;>omega
   .simp only[h,if_false]<;>omega
theorem Lx(its:AD)(lo hi:AG):slicePick its.toArray lo hi none=((its.drop (HT.sIx its.length 0 lo)).take (HT.sIx its.length its.length hi-HT.sIx its.length 0 lo)).toArray:=by
 obtain⟨h1,h2,h3⟩:=Ox lo hi its.toArray.size;unfold slicePick;rw[h1,h2,h3];simp only[sliceRange_one,pick_run,az]<;>rfl
def ae3(K:ag):V->AG->AG->Hp->VK->Prop:=λx lo hi H Q=>∃a xs,x=.ref a/\cJ K H a xs/\∀p,H p=none->Q (.ref p) (aY H p (.lst (oR xs lo hi)))
theorem aaT:pA X (ae3 X.K):=by
 intro AL s σ H x v vl vu lo hi sl Q I rx hs pl pu h;obtain⟨a,xs,rfl,hx,q⟩:=h;cases rx;obtain⟨its,r,ht,hz⟩:=I.list hx;have hlen:=r.length;refine⟨"list",_,slot_list_getitem.lookup,ht.isList.typeIs,?_⟩;refine wpAny_getItem_list_slice ht.isList hs pl pu .none (by simp) ?_ (by rw[az]<;>omega);rw[Lx,<-hlen];refine⟨.ref s.heap.objs.size,_,I.laid (t':=s.toks) (o:=.lst (oR xs lo hi)) (λb ob q=>ax _ q) (aj _) ?_,rfl,q _ (I.hok.fresh (aj _))⟩;exact⟨gm (vC xs lo hi) hz,_,0,(r.drop (HT.sIx xs.length 0 lo)).take (HT.sIx xs.length xs.length hi-HT.sIx xs.length 0 lo),cw _ rfl⟩
theorem Ux:iX X (.builtin "len") (λxs H Q=>∃p ys,xs=[.ref p]/\(cJ X.K H p ys\/dJ X.K H p ys)/\Q (.int ys.length) H):=by
 intro AL s σ H xs us Q I r h;obtain⟨p,ys,rfl,hq,q⟩:=h;obtain⟨u,rfl,rx⟩:=kK r;cases rx;have hn:=tU;rcases hq with hq |hq
 .obtain⟨its,r',pl,hz⟩:=I.list hq
  have hlen:=r'.length;exact Calls.call_len_list pl.isList (by simp only[az]<;>omega) ⟨.int ys.length,H,I.tok _,⟨s.toks+1,by rw[az,hlen]⟩,q⟩
 .obtain⟨its,r',pl,hz⟩:=I.tuple hq
  have hlen:=r'.length;exact len_tuple pl (by simp only[az]<;>omega) ⟨.int ys.length,H,I.tok _,⟨s.toks+1,by rw[az,hlen]⟩,q⟩
theorem zW:iX X (.type "list") (λxs H Q=>∃p ys,xs=[.ref p]/\(cJ X.K H p ys\/dJ X.K H p ys)/\∀l,H l=none->Q (.ref l) (aY H l (.lst ys))):=by
 intro AL s σ H xs us Q I r h;obtain⟨p,ys,rfl,hq,q⟩:=h;obtain⟨u,rfl,rx⟩:=kK r;cases rx;have fin:∀(its:AD),bI ys its->ys.length<=sizeLine->∀(h':Heap)(c':Nat),(∀b o',s.heap.get? b=some o'->h'.get? b=some o')->
   h'.get? s.heap.objs.size=some {cls:=.type "list",dict:=none,data:=.seq its.toArray c',slots:=#[]}->EP X AL σ Q (.ref s.heap.objs.size) {s with heap:=h'}:=λits r' hz h' c' kp e=>
  ⟨.ref s.heap.objs.size,_,I.laid (t':=s.toks) kp (aj _) (show fV X.prog X.w _ h' _ (.lst ys) from⟨hz,its,c',r',e⟩),rfl,q _ (I.hok.fresh (aj _))⟩
 rcases hq with hq |hq
 .obtain⟨its,r',pl,hz⟩:=I.list hq
  have hlen:=r'.length;obtain⟨o,ho,hc,n,hd⟩:=pl.isList;exact call_list_seq p (.inl rfl) ho hc hd (λh' c' kp e=>fin its r' hz h' c' kp e) (by simp only[az]<;>omega)
 .obtain⟨its,r',pl,hz⟩:=I.tuple hq
  have hlen:=r'.length;obtain⟨o,ho,hc,n,hd⟩:=pl;exact call_list_seq p (.inr rfl) ho hc hd (λh' c' kp e=>fin its r' hz h' c' kp e) (by simp only[az]<;>omega)
theorem Jx:iX X (.type "tuple") (λxs H Q=>∃p ys,xs=[.ref p]/\((cJ X.K H p ys/\∀l,H l=none->Q (.ref l) (aY H l (.tup ys)))\/(dJ X.K H p ys/\Q (.ref p) H))):=by
 intro AL s σ H xs us Q I r h;obtain⟨p,ys,rfl,h⟩:=h;obtain⟨u,rfl,rx⟩:=kK r;cases rx;rcases h with⟨hq,q⟩|⟨hq,q⟩
 .obtain⟨its,r',pl,hz⟩:=I.list hq
  have hlen:=r'.length;refine call_tuple_list pl.isList (λh' kp=>?_) (by simp only[az]<;>omega);have I1:aH X AL σ H {s with heap:=h'}:=I.kept (t':=s.toks) kp;have I2:aH X AL σ (aY H h'.objs.size (.tup ys)) {s with heap:=h'.push {cls:=.type "tuple",data:=.seq its.toArray}}:=
   I1.laid (t':=s.toks) (λb o e=>ax _ e) (aj _) (show fV X.prog X.w _ _ _ (.tup ys) from⟨hz,its,r',qj _ _⟩)
  exact⟨.ref h'.objs.size,_,I2,rfl,q _ (I1.hok.fresh (aj _))⟩
 .obtain⟨its,r',pl,hz⟩:=I.tuple hq
  exact call_tuple_same pl ⟨.ref p,H,I,rfl,q⟩
def Jh(K:ag)(T:String)(x:V)(H:Hp):Prop:=match x with
 |.str _=>T="str"
 |.int _=>T="int"
 |.ref p=>(T="list"/\∃xs,cJ K H p xs)\/(T="tuple"/\∃o,K.lookup p=some o/\o.cls=.type "tuple"/\o.dict=none)\/
   (T="dict"/\((∃kvs,H p=some (.dK kvs))\/∃kvs,H p=some (.dT kvs)))\/(T="set"/\∃S n,H p=some (.set S n))
 |_=>False
theorem acT{AL:List (Addr×Obj)}{σ:St}{H:Hp}{s:aa}{T:String}{x:V}{v:Value}(I:aH X AL σ H s)(r:bT x v)(ty:Jh X.K T x H):
  s.TypeIs v T/\∀a,v=.ref a->∃ob,s.heap.get? a=some ob/\ob.dict=none:=by
 cases x with
 |str z=>
  obtain⟨t,rfl⟩:=r;cases(show T="str" from ty);exact⟨typeIs_str s z t,λ_ e=>nomatch e⟩
 |int i=>
  obtain⟨t,rfl⟩:=r;cases(show T="int" from ty);exact⟨typeIs_int s i t,λ_ e=>nomatch e⟩
 |ref p=>
  cases r;rcases ty with⟨rfl,xs,hq⟩|⟨rfl,o,hk,hc,hd⟩|⟨rfl,hk⟩|⟨rfl,S,n,hk⟩
  .obtain⟨its,_,pl,_⟩:=I.list hq
   refine⟨pl.isList.typeIs,λa e=>?_⟩;cases e;obtain⟨o,n,e,c,hd,_⟩:=pl;exact⟨o,e,hd⟩
  .refine⟨⟨o,I.kIn p o hk,hc⟩,λa e=>?_⟩
   cases e;exact⟨o,I.kIn _ o hk,hd⟩
  .have z:∃o,s.heap.get? p=some o/\o.ExactDict:=by
    rcases hk with⟨kvs,hk⟩|⟨kvs,hk⟩
    .obtain⟨_,_,_,_,o,_,_,e,ex,_⟩:=I.hok p _ hk
     exact⟨o,e,ex⟩
    .obtain⟨_,_,_,_,o,_,_,e,ex,_⟩:=I.hok p _ hk
     exact⟨o,e,ex⟩
   obtain⟨o,e,ex⟩:=z;refine⟨⟨o,e,ex.1⟩,λa e2=>?_⟩;cases e2;exact⟨o,e,ex.2.1⟩
  .obtain⟨o,_,_,_,e,ex,_⟩:=I.hok p _ hk
   refine⟨⟨o,e,ex.1⟩,λa e2=>?_⟩;cases e2;exact⟨o,e,ex.2.1⟩
 |_=>exact jl ty
def tBM(K:ag)(T:String)(r:V->List V->Hp->VK->Prop)(to:TE)(t:TA):TE:=λσ H Q=>to σ H λx H1=>Jh K T x H1/\t σ H1 λxs H2=>r x xs H2 Q
variable{o e:ah}{es:List ah}{to:TE}{t:TA}{name:Str}{apos cpos:ai}{T id:String}{r:V->List V->Hp->VK->Prop}
theorem Mf(pa:PlainAttrs T)(slot:Slot T name id)(hty:typeOf (.builtin id)=pure (.type "method_descriptor"))(hm:uW X id r)(ho:PE X o to)(ha:PA X (e::es) t)
  (hbase:attributeBase o name X.env (eval o X.env)=eval o X.env:=by rfl)
  (hfew:((backTo cpos (starEach (e::es) X.env)).all (λx=>!x.1)&&(backToKw cpos (keywordEach [] X.env)).all (λx=>x.1.isSome)
   &&decide ((e::es).length+([]:List jb).length+(if([]:List jb).isEmpty then 0 else 1)<30))=true:=by rfl)
  (hline:(apos.endLine==cpos.line)=true:=by rfl)(hs:starEach (e::es) X.env=(false,eval e X.env)::starEach es X.env:=by rfl)(hplain:(backTo cpos (starEach es X.env)).any (·.1)=false:=by rfl):
  PE X (.Call (.Attribute o name apos) (e::es) [] cpos) (tBM X.K T r to t):=by
 intro AL s σ H Q I h;refine zj hbase hfew hline rfl (bH (ho AL s σ H _ I h) λv s1 hq=>?_);rcases hq with⟨x,H1,I1,r1,ty,q1⟩;obtain⟨h1,h2⟩:=acT I1 r1 ty;refine⟨T,id,pa,slot,hty,h1,h2,?_⟩;have hA:=ha cpos AL s1 σ H1 _ I1 q1;rw[hs]at hA⊢;refine vw (by show(false||(backTo cpos (starEach es X.env)).any (·.1))=false;rw[hplain]<;>rfl) (vz ?_);exact bH hA λus s2 ⟨vs,H2,I2,r2,q2⟩=>hm AL s2 σ H2 x vs v us Q I2 r1 r2 q2
end
def Gw(X:Cx)(id:String)(r:V->List V->Hp->VK->Prop):Prop:=
 ∀(AL:List (Addr×Obj))(s:aa)(σ:St)(H:Hp)(x:V)(xs:List V)(v:Value)(us:AD)(Q:VK),aH X AL σ H s->bT x v->bI xs us->r x xs H Q->
  wpAny (model X.prog X.w) X.A (call (.builtin id) (v::us)) (EP X AL σ Q) X.xe s
theorem bI.one:∀{x:V}{us:AD},bI [x] us->∃u,us=[u]/\bT x u:=by
 rintro _ _ (_ |⟨r,_ |_⟩)
 exact⟨_,rfl,r⟩
theorem bI.two:∀{x y:V}{us:AD},bI [x,y] us->∃u v,us=[u,v]/\bT x u/\bT y v:=by
 rintro _ _ _ (_ |⟨r,_ |⟨q,_ |_⟩⟩)
 exact⟨_,_,rfl,r,q⟩
theorem bI.eraseIdx:∀{xs:List V}{us:AD}(i:Nat),bI xs us->bI (xs.eraseIdx i) (us.eraseIdx i)
 |_,_,_,.nil=>.nil
 |_,_,0,.cons _ t=>t
 |_,_,i+1,.cons r t=>.cons r (bI.eraseIdx i t)
theorem Jb{α:Type}:∀(l:List α)(i:Nat),(l.eraseIdx i).length<=l.length
 |[],_=>aj _
 |_::_,0=>kz _
 |_::r,i+1=>wd (Jb r i)
section
variable{X:Cx}{AL:List (Addr×Obj)}{σ:St}{H:Hp}{s:aa}{l b:Addr}{xs ys zs:List V}
theorem aH.lset{its its':AD}{n:Nat}{f:Array Value->Array Value}{t':Nat}(I:aH X AL σ H s)(hH:H l=some (.lst xs))
  (e:s.heap.get? l=some {cls:=.type "list",data:=.seq its.toArray n})(hf:f its.toArray=its'.toArray)(hv:bI ys its')(hz:ys.length<=sizeLine):
  aH X AL σ (aY H l (.lst ys)) {s with heap:=s.heap.update l (ij f),toks:=t'}:=by
 have q:=PySem.IsL.update e f;rw[hf]at q;refine I.write (x:=l) (e:=l) (by rw[hH];exact trivial) (.inl rfl) (λb' u hb hu=>(zh s.heap (ij f) (iz hb)).trans hu) ⟨_,q⟩ ?_;exact⟨hz,its',_,hv,q⟩
theorem aH.lnew{its:AD}{t':Nat}(I:aH X AL σ H s)(hv:bI ys its)(hz:ys.length<=sizeLine):
  aH X AL σ (aY H s.heap.objs.size (.lst ys)) {s with heap:=s.heap.push {cls:=.type "list",data:=.seq its.toArray},toks:=t'}:=
 I.laid (λ_ _ q=>ax _ q) (aj _) ⟨hz,its,0,hv,cw _ rfl⟩
theorem aH.fresh(I:aH X AL σ H s):H s.heap.objs.size=none:=I.hok.fresh (aj _)
theorem aH.lstM(I:aH X AL σ H s)(hH:H l=some (.lst xs)):xs.length<=sizeLine/\∃(its:AD)(n:Nat),bI xs its/\xs.length=its.length/\s.heap.get? l=some {cls:=.type "list",data:=.seq its.toArray n}:=by
 obtain⟨z,its,n,r,e⟩:=I.hok l _ hH;exact⟨z,its,n,r,r.length,e⟩
theorem J5{n:Nat}(h:n<=sizeLine):qr n=false:=by
 unfold qr;exact decide_eq_false (by omega)
end
section
variable{X:Cx}
def abb:V->List V->Hp->VK->Prop:=λx vs H Q=>∃l xs y,x=.ref l/\vs=[y]/\H l=some (.lst xs)/\xs.length<sizeLine/\Q .non (aY H l (.lst (xs++[y])))
theorem sT:Gw X "list.append" abb:=by
 intro AL s σ H x vs v us Q I rx rv h;obtain⟨l,xs,y,rfl,rfl,hH,hz,q⟩:=h;cases rx;obtain⟨u,rfl,ru⟩:=rv.one;obtain⟨z,its,n,r,hl,e⟩:=I.lstM hH;refine we wg ⟨_,e,rfl⟩ F.entry_list_append (F.args_list_append_2 _ _) (PySem.list_append l its.toArray n u (by rw[az];omega)) ⟨e,?_⟩;refine⟨.non,_,I.lset (its':=its++[u]) hH e (by simp) (r.append (.cons ru .nil)) ?_,rfl,q⟩;rw[av,jz];omega
def acd:V->List V->Hp->VK->Prop:=λx vs H Q=>∃l xs i k y,x=.ref l/\vs=[.int i]/\H l=some (.lst xs)/\-(2^63)<=i/\i<2^63/\seqIndex? i xs.length=some k/\xs[k]?=some y/\Q y (aY H l (.lst (xs.eraseIdx k)))
theorem N4:Gw X "list.pop" acd:=by
 intro AL s σ H x vs v us Q I rx rv h;obtain⟨l,xs,i,k,y,rfl,rfl,hH,h1,h2,hk,hy,q⟩:=h;cases rx;obtain⟨u,rfl,ru⟩:=rv.one;obtain⟨t,rfl⟩:=ru;obtain⟨z,its,n,r,hl,e⟩:=I.lstM hH;obtain⟨w,hw,rw'⟩:=r.get hy;refine we F.slot_list_pop ⟨_,e,rfl⟩ F.entry_list_pop (F.args_list_pop_2 _ _)
  (MeetsSeq.list_pop_at l its.toArray n i t k w (fitsIndex_both h1 h2) (by rw[az,<-hl];exact hk) (by rw[<-zk];exact hw) (by rw[az];omega)) ⟨e,?_⟩
 refine⟨y,_,I.lset (its':=its.eraseIdx k) hH e ?_ (r.eraseIdx k) ?_,rw',q⟩
 .show its.toArray.eraseIdxIfInBounds k=(its.eraseIdx k).toArray
  rw[List.eraseIdxIfInBounds_toArray]
 .have:=Jb xs k
  omega
end
section
variable{prog:Program}{w:al}{A:ao}{E:Value->aa->Prop}{s:aa}
end
section
variable{X:Cx}
end
end L2
namespace Att
open PySem PySem.W PySem.Calls PyProof.Rows
theorem Vw{P:lm}{h:Heap}:∀(ns:AA)(vs:AD),WellAll P h vs (ns.map WData.int)->ox vs ns:=by
 intro ns
 induction ns with
 |nil=>
  intro vs w;rw[br]at w;cases w;exact .nil
 |cons n ns ih=>
  intro vs w;rw[aq]at w;cases w with
  |cons a b=>
   cases a;exact .cons _ _ (ih _ b)
theorem E2{l:mx}{n:Nat}(hn:l.most=some n){P:lm}{h:Heap}{args:List WData}{vals:AD}
  (hpre:l.row.toRowW.claim.pre args=true)(hwl:WellAll P h vals args):
  ∃a vs ns,vals=[dg a]/\args=[WData.list (ns.map WData.int)]/\h.get? a=some {cls:=.type "list",data:=.seq vs.toArray}/\ox vs ns/\ns.length<=n:=by
 have hsh:WShape.hasAll [] args [.list .int]=true:=(pre_splitW hpre).1;have hc:l.pre.holds [] {args:=args}=true:=(pre_splitW hpre).2;obtain⟨d,r,rfl,h1,h2⟩:=hasAllW_cons hsh;obtain rfl:=hasAllW_nil h2;obtain⟨xs,rfl,h3⟩:=hasW_list h1;obtain⟨ns,rfl⟩:=items_int h3;have hlen:ns.length<=n:=by
  unfold OpenLaw.pre at hc;have h4:(WTm.not (.lt (.lit (.int (n:Int))) (.len (.arg 0)))).holds [] {args:=[.list (ns.map .int)]}=true:=by
   have h4:=(holds_andW hc).1;rw[hn]at h4;exact h4
  have h5:=condW_of h4 (w_not (w_lt w_lit (w_len_list (w_arg rfl))));rw[am]at h5;refine Nat.le_of_not_lt λq=>?_;have q':(n:Int)<((ns.length:Nat):Int):=by omega
  first
   |(rw[decide_eq_true q']at h5;exact absurd h5 (by decide))
   |(simp at h5;omega)
 cases hwl with
 |cons w1 w2=>
  cases w2;cases w1 with
  |list ho hall=>exact⟨_,_,ns,rfl,rfl,ho,Vw ns _ hall,hlen⟩
theorem A9(l:mx)(args:List WData):l.row.toRowW.claim.post args (.bool true) args=true:=
 postW_of (r:=l.row.toRowW) (X:=(true==true))
  (show WShape.has [] (.bool true) .bool=true by first |rfl |decide |simp[WShape.has,WShape.arms,WShape.armsAll])
  (show(WTm.eq .res (.lit (.bool true))).value [] {args:=args,res:=some (.bool true),after:=args}=some (.bool (true==true)) from w_eq_bool (w_res rfl) w_lit) rfl
theorem attach_call{l:mx}{n:Nat}{q:Program}{loose:List Str}{XP:(Str->AE)->Heap->Prop}{YP:al->Heap->Prop}{d:DefRec}
  (hn:l.most=some n)(hdf:d.params.defaults=[])
  (call:∀(w:al)(AM AO:aa)(mg mb:Str->AE)(fa:Addr)(o:Obj)(pm cd doc:Value)(a:Addr)(vs:AD)(ns:AA),
   Ground q loose [] XP w AM mg mb AO.heap->YP w AO.heap->
   AO.heap.get? fa=some o->o.data=.func (docDef d.name d.params d.body d.scope pm cd doc)->AO.heap.CodeRec cd d.name->mg d.name=some (.ref fa)->
   AO.heap.get? a=some {cls:=.type "list",data:=.seq vs.toArray}->ox vs ns->ns.length<=n->AO.gens=#[]->
   codeAny (model l.prog w) callerA (.call (.ref fa) ⟨[.ref a],[]⟩) (λr s'=>r=.ok (.ret (.bool true))/\OldK AO.heap s'.heap/\s'.os=AO.os/\jh s'.gens) AO):
  WalkO q loose XP YP l.row.toRowW d [] (λf vs=>wj f vs):=by
 intro w AM AO mg mb G Y fa o pm cd doc dV kV ho hd hcd hD hmg hg args vals as hpre hlay hrd hwl hlo;obtain rfl:dV=.none:=Dflts.none hD hdf;obtain rfl:kV=.none:=Dflts.noKw hD;obtain⟨a,vs,ns,rfl,rfl,hobj,hints,hlen⟩:=E2 hn hpre hwl;refine enter_call (qk (call w AM AO mg mb fa o pm cd doc a vs ns G Y ho (fd_plain hd) hcd hmg hobj hints hlen hg) λr s' hq=>?_);obtain⟨rfl,h2,h3,h4⟩:=hq;exact⟨.inl ⟨.bool true,.bool true,[],rfl,λ_=>rfl,.bool true,A9 l _,λ_=>⟨List.Pairwise.nil,λ_ hm=>(nomatch hm)⟩⟩,h2,h3,h4⟩
section
variable{prog:Program}{w:al}{A:ao}{E:Value->aa->Prop}{s:aa}{K:Frag}
end
end Att
namespace L2
open PySem PySem.Spec PyProof.Rows
theorem Fl:∀{vs:AD}{ns:AA},ox vs ns->bI (ns.map V.int) vs
 |_,_,.nil=>.nil
 |_,_,.cons n t h=>.cons ⟨t,rfl⟩ (Fl h)
def Gg(H:Hp):Prop:=∀b,H b=none\/∃o xs,H b=some (.frz o (.lst xs))
theorem Y7{P:Program}{w:al}{K:ag}{mg mb:Str->AE}{CX:jP}{k:Nat}{fa a:Addr}{fd:cc}{x:Str}{sp:Sp}{AO:aa}{vs:AD}{ns:AA}
  (KX:K.In AO.heap)(hns:AO.heap.Ns mainGlobals mg)(hb:AO.heap.Ns builtinsNs mb)(hbb:∀x:Str,x≠"__name__"->mb x=bootBuiltins x)(hlim:AO.heap.NoLimit)(hg:AO.gens=#[])
  (ha:AO.heap.get? a=some {cls:=.type "list",data:=.seq vs.toArray})(hi:ox vs ns)(hl:ns.length<=sizeLine)(hr:dN k callerA)
  (F:∀base:Heap,K.In base->base.Ns mainGlobals mg->eR P w K mg base CX k fa fd [x] sp)(hbind:∀(s:aa)(u:Value),mn s fd ⟨[u],[]⟩ [(x,u)])
  (hsp:∀H:Hp,Gg H->cJ K H a (ns.map V.int)->sp [.ref a] H (λv _=>v=.bl true) λ_ _ _=>False)
  (hCX:∀H e s',CX [] H AO (λ_ _ _=>False) e s'->False):
  codeAny (model P w) callerA (.call (.ref fa) ⟨[.ref a],[]⟩) (λr s'=>r=.ok (.ret (.bool true))/\OldK AO.heap s'.heap/\s'.os=AO.os/\jh s'.gens) AO:=by
 have rv:=Fl hi;have lenV:=hi.length
 --from an abstract heap in which nothing but the script may be tracked
 have core:∀H:Hp,Gg H->cJ K H a (ns.map V.int)->fJ P w H AO.heap->(∀b,H b≠none->b=a)->(H a≠none->K.lookup a=none)->
   codeAny (model P w) callerA (.call (.ref fa) ⟨[.ref a],[]⟩) (λr s'=>r=.ok (.ret (.bool true))/\OldK AO.heap s'.heap/\s'.os=AO.os/\jh s'.gens) AO:=by
  intro H hO hS hok hA hK;have base_of:∀{b:Addr}{o:Obj},AO.heap.get? b=some o->H b=none->(nI AO.heap H).get? b=some o:=λe n=>U8 e n;have noA:∀{b:Addr}{o:Obj}{es:Array DictEntry}{ep:Nat},AO.heap.get? b=some o->o.data=.dict es ep->H b=none:=λ{b o es ep} e d=>by
   cases q:H b with
   |none=>rfl
   |some u=>
    have e':b=a:=hA b (by rw[q];simp);subst e';rw[ha]at e;cases e;have d':Data.seq vs.toArray _=Data.dict es ep:=d;cases d'
  have nsK:∀{b:Addr}{m:Str->AE},AO.heap.Ns b m->(nI AO.heap H).Ns b m:=λ{b m} ⟨o,es,ep,e,d,r⟩=>⟨o,es,ep,base_of e (noA e d),d,r⟩;have hKb:K.In (nI AO.heap H):=λb o e=>base_of (KX b o e) (by
   cases q:H b with
   |none=>rfl
   |some u=>
    have e':b=a:=hA b (by rw[q];simp);subst e';rw[hK (by rw[q];simp)]at e;cases e)
  have hM:Mod K mg (nI AO.heap H):=⟨hKb,nsK hns,⟨mb,nsK hb,hbb⟩,let⟨mc,h1,h2⟩:=hlim;⟨mc,nsK h1,h2⟩⟩;have e0:yG P w K mg (nI AO.heap H) callerA [] AO H:=⟨rfl,hM,λb o e=>aaw e,wk (G4 _ _),trivial,λb hb=>absurd (show b∈([]:List Addr) from hb) (by simp),hok,.of_eq hg⟩;refine qk ((F _ hKb (nsK hns)).run callerA [] AO H ⟨[.ref a],[]⟩ [.ref a] [.ref a] _ _ hr e0 (hbind AO (.ref a)) (.cons rfl .nil) (hsp H hO hS)) λr s' h=>?_;cases r with
  |error e=>exact(hCX H e s' h).elim
  |ok fl=>
   cases fl with
   |next=>exact jl h
   |brk=>exact jl h
   |cont=>exact jl h
   |ret u=>
    obtain⟨v,H',os,bare,un,hok',r',q⟩:=h;have q':v=.bl true:=q;subst q';obtain rfl:u=qe true:=r';refine⟨rfl,OldK.of_keep λb o e=>?_,os,bare⟩;cases q:H b with
    |none=>exact un.keep b o e q (by intro z;exact absurd (show b∈([]:List Addr) from z) (by simp)) (by simp)
    |some u=>
     rcases hO b with z |⟨ob,xs,z⟩
     .rw[q]at z;cases z
     .have z2:=un.frzs b ob _ z
      obtain⟨e1,_⟩:=hok b _ z;obtain⟨e2,_⟩:=hok' b _ z2;rw[e]at e1;cases e1;exact e2
 cases hk:K.lookup a with
 |some o=>
  --the script is one of the module's own objects
  have e:=KX a o hk;rw[ha]at e;cases e;refine core (λ_=>none) (λ_=>.inl rfl) (.inr ⟨_,vs.toArray,_,hk,rfl,rfl,rfl,by rw[az,lenV];exact hl,by simpa using rv⟩) (λb u z=>by have z':(none:Option HO)=some u:=z;cases z') (λb z=>absurd rfl z) λz=>absurd rfl z
 |none=>
  refine core (λb=>if b=a then some (.frz {cls:=.type "list",data:=.seq vs.toArray} (.lst (ns.map V.int)))else none) (λb=>?_) (.inl (.inr ⟨{cls:=.type "list",data:=.seq vs.toArray},if_pos rfl⟩)) (λb u z=>?_) (λb z=>?_) λ_=>hk
  .by_cases hb:b=a
   .exact .inr ⟨_,_,if_pos hb⟩
   .exact .inl (if_neg hb)
  .by_cases hb:b=a
   .have z':=(if_pos hb).symm.trans z
    cases z';subst hb;exact⟨ha,by rw[am];exact hl,vs,_,rv,ha⟩
   .have z':=(if_neg hb).symm.trans z
    cases z'
  .by_cases hb:b=a
   .exact hb
   .exact absurd (if_neg hb) z
theorem walk_of{l:mx}{n k:Nat}{q:Program}{loose:List Str}{XP:(Str->AE)->Heap->Prop}{YP:al->Heap->Prop}{d:DefRec}{K:lm->ag}{CX:al->jP}{sp:al->Sp}{x:Str}
  (hn:l.most=some n)(hn2:n<=sizeLine)(hdf:d.params.defaults=[])(hr:dN k callerA)
  (hY:∀(w:al)(h:Heap),YP w h->(K w.params).In h)
  (F:∀(w:al)(mg:Str->AE)(fa:Addr)(h:Heap),(K w.params).In h->h.Ns mainGlobals mg->mg d.name=some (.ref fa)->
   ∃fd:cc,(∀(s:aa)(u:Value),mn s fd ⟨[u],[]⟩ [(x,u)])/\
    ∀base:Heap,(K w.params).In base->base.Ns mainGlobals mg->eR l.prog w (K w.params) mg base (CX w) k fa fd [x] (sp w))
  (hsp:∀(w:al)(H:Hp)(a:Addr)(ns:AA),ns.length<=n->Gg H->cJ (K w.params) H a (ns.map V.int)->sp w [.ref a] H (λv _=>v=.bl true) λ_ _ _=>False)
  (hCX:∀(w:al)(H:Hp)(s:aa)(e:Value)(s':aa),CX w [] H s (λ_ _ _=>False) e s'->False):
  PySem.W.WalkO q loose XP YP l.row.toRowW d [] (λf vs=>wj f vs):=by
 refine Att.attach_call hn hdf λw AM AO mg mb fa o pm cd doc a vs ns G Y ho hd hcd hmg hobj hints hlen hg=>?_;have KX:=hY w _ Y;obtain⟨fd,hb,hF⟩:=F w mg fa _ KX G.T.g hmg;exact Y7 KX G.T.g G.T.b G.T.builtins G.T.nolimit hg hobj hints (gm hlen hn2) hr hF hb (λH hO hS=>hsp w H a ns hlen hO hS) λH e s'=>hCX w H AO e s'
abbrev fM:jP:=λ_ _ _ _ _ _=>False
abbrev E0:XK:=λ_ _ _=>False
theorem xS{X:Cx}:xF fM X E0:=λ_ _ _ _ _ _ _ h=>h.elim
structure jD(K:ag)(x qual:Str)(st:Stmt)(f:Addr)(fd:cc):Prop where
 ex:∃(oc:Value)(od:AF)(kV doc pm:Value)(an:AF)(cdv ct:Value)(osl:Array AE),
  fd=dn x qual (iE st) (eV st) (cX st) .none kV doc pm an cdv ct/\K.lookup f=some ⟨oc,od,.func fd,osl⟩/\jx K cdv qual=true
 kp:fk K (.ref f)=true
section
variable{P:Program}{w:al}{K:ag}{mg:Str->AE}{base:Heap}
theorem jD.ok{x qual:Str}{st:Stmt}{f:Addr}{fd:cc}{N ps:List Str}{k:Nat}{sp:Sp}(F:jD K x qual st f fd)(S:iU N ps (cX st))(len:∀vs H Q E,sp vs H Q E->vs.length=ps.length)
  (hbody:∀(cdv:Value)(A:ao)(outer:List bf)(s:aa)(H:Hp)(vs:List V)(Q:VK)(E:XK),dN k (A.deeper (envOfC qual (cX st) s.heap.objs.size f cdv))->sp vs H Q E->
   ∃t,gK (dC fM P w K mg base N qual (cX st) f cdv A outer s H E).nox (eV st) t/\t {nx:=λ_ H'=>Q .non H',rt:=Q} (start N vs) H):eR P w K mg base fM (k+1) f fd ps sp:=by
 obtain⟨oc,od,kV,doc,pm,an,cdv,ct,osl,rfl,lk,hcd⟩:=F.ex;refine Nf lk hcd S len λA outer s H vs Q E hr hsp=>?_;obtain⟨t,h,q⟩:=hbody cdv A outer s H vs Q E hr hsp;exact⟨t,h.nox,q⟩
theorem jD.binds{x qual:Str}{st:Stmt}{f:Addr}{fd:cc}{ps:List Str}(F:jD K x qual st f fd)
  (h:∀(kV doc pm:Value)(an:AF)(cdv ct:Value)(us:AD),us.length=ps.length->bindArgs (dn x qual (iE st) (eV st) (cX st) .none kV doc pm an cdv ct) ⟨us,[]⟩=pure (ps.zip us)):jJ K fd ps []:=by
 obtain⟨oc,od,kV,doc,pm,an,cdv,ct,osl,rfl,lk,hcd⟩:=F.ex;exact .all (h kV doc pm an cdv ct)
theorem Ds{x qual:Str}{st:Stmt}{f:Addr}{oc:Value}{od an:AF}{osl:Array AE}{kV doc pm cdv ct:Value}(l:K.lookup f=some ⟨oc,od,.func (dn x qual (iE st) (eV st) (cX st) .none kV doc pm an cdv ct),osl⟩)
  (c:jx K cdv qual=true)(k:fk K (.ref f)=true):jD K x qual st f (dn x qual (iE st) (eV st) (cX st) .none kV doc pm an cdv ct):=⟨⟨oc,od,kV,doc,pm,an,cdv,ct,osl,rfl,l,c⟩,k⟩
end
section
variable{X:Cx}
theorem pv(i:Nat){x:Str}{pos:ai}(hN:X.N[i]?=some x:=by rfl)(hv:oX X.env.scope x:=by first |exact ik rfl |exact io (ik rfl) |exact io (io rfl))(hd:(x==("__debug__":Str))=false:=by decide)
  (hcd:(x==("__classdict__":Str))=false:=by decide):PE X (.Name x pos) (Aw i):=pW hN hv hd hcd
end
def dR(H H':Hp):Prop:=∀b o,H b=some o->H' b=some o
theorem dR.refl(H:Hp):dR H H:=λ_ _ h=>h
end L2
namespace Bn
def Bd(k:Nat)(i:Int):Prop:=i.natAbs<2^k
theorem Bd.mono{j k:Nat}{i:Int}(h:Bd j i)(l:j<=k):Bd k i:=cy h (zl (by decide) l)
theorem Bd.mul{j k:Nat}{a b:Int}(h:Bd j a)(g:Bd k b):Bd (j+k) (a*b):=by
 unfold Bd at *;rw[qs,Nat.pow_add];exact Nat.mul_lt_mul'' h g
theorem Bd.add{k:Nat}{a b:Int}(h:Bd k a)(g:Bd k b):Bd (k+1) (a+b):=by
 unfold Bd at *;rw[Nat.pow_succ];have:=Int.natAbs_add_le a b;omega
theorem Bd.neg{k:Nat}{a:Int}(h:Bd k a):Bd k (-a):=by
 unfold Bd at *;rw[zm];exact h
theorem Bd.sub{k:Nat}{a b:Int}(h:Bd k a)(g:Bd k b):Bd (k+1) (a-b):=by
 rw[Int.sub_eq_add_neg];exact h.add g.neg
theorem Bd.le{k:Nat}{a b:Int}(h:Bd k b)(l:a.natAbs<=b.natAbs):Bd k a:=qv l h
theorem Bd.of{k n:Nat}{a:Int}(l:a.natAbs<=n)(h:n<2^k):Bd k a:=qv l h
theorem Bd.log{k:Nat}{a:Int}(h:Bd k a)(hk:0<k):a.natAbs.log2<k:=by
 rcases zn a.natAbs with z |z
 .rw[z]
  exact qv (wk (by decide)) hk
 .exact(Nat.log2_lt (mf z)).mpr h
theorem Pk(a:Int){b:Int}(h:b≠0):(a.fmod b).natAbs<b.natAbs:=by
 rw[Int.fmod_eq_emod];have h1:=Int.emod_nonneg a h;have h2:a%b<(b.natAbs:Int):=Int.emod_lt a h
 by_cases c:0<=b\/b∣a
 .rw[if_pos c]
  omega
 .rw[if_neg c]
  have hb:b<0:=by omega
  have h3:a%b≠0:=λz=>c (.inr (Int.dvd_of_emod_eq_zero z));have h4:b.natAbs=(-b).toNat:=by omega
  omega
theorem Vn(a b:Int):ce b (a.fmod b)=ce a b:=by
 rw[Int.fmod_def,dy,Int.gcd_sub_mul_right_right,Int.gcd_comm]
theorem Ce(x:Int):(if x<0 then-x else x)=(x.natAbs:Int):=by
 split<;>omega
def gl:AA->Int->Int
 |[],g=>g
 |n::r,g=>gl r (ce g n:Nat)
def low(ns:AA):AA:=if gl ns 0=0 then ns else ns.map (· /gl ns 0)
theorem Ag:∀(ns:AA)(g:Int),0<=g->0<=gl ns g
 |[],_,h=>h
 |_::r,_,_=>Ag r _ (zo _)
theorem At(k:Int):∀(ns:AA)(g:Int),0<=g->gl (ns.map (k*·)) ((k.natAbs:Int)*g)=(k.natAbs:Int)*gl ns g
 |[],_,_=>rfl
 |n::r,g,h=>by
  show gl (r.map (k*·)) ((ce ((k.natAbs:Int)*g) (k*n):Nat):Int)=(k.natAbs:Int)*gl r _;have e:((ce ((k.natAbs:Int)*g) (k*n):Nat):Int)=(k.natAbs:Int)*((ce g n:Nat):Int):=by
   rcases Int.natAbs_eq k with q |q
   .rw[<-q,zp]
    have:(k.natAbs:Int)=k:=q.symm
    push_cast
    rw[this]
   .have e2:k*n=(k.natAbs:Int)*(-n):=by rw[wm,<-my,<-q]
    rw[e2,zp,Int.gcd_neg]
    push_cast
    simp
  rw[e];exact At k r _ (zo _)
theorem wE(k:Int)(ns:AA):gl (ns.map (k*·)) 0=(k.natAbs:Int)*gl ns 0:=by
 have:=At k ns 0 (qw 0)
 rwa[oy]at this
theorem Ab{k:Int}(h:0<k)(ns:AA):gl ns 0≠0->low (ns.map (k*·))=low ns:=λz=>by
 have hk:(k.natAbs:Int)=k:=by omega
 have e:=wE k ns;rw[hk]at e;have nz:k*gl ns 0≠0:=cf (by omega) z;unfold low;rw[e,if_neg nz,if_neg z,dh];refine dz λn _=>?_;show k*n/(k*gl ns 0)=n/gl ns 0;exact Int.mul_ediv_mul_of_pos _ _ h
theorem jU:∀(ns:AA)(g:Int),gl ns g∣g/\∀n∈ns,gl ns g∣n
 |[],g=>⟨Int.dvd_refl g,λ_ h=>nomatch h⟩
 |m::r,g=>by
  obtain⟨h1,h2⟩:=jU r ((ce g m:Nat):Int);refine⟨Int.dvd_trans h1 (Int.gcd_dvd_left ..),λn hn=>?_⟩;rcases cq.mp hn with q |q
  .subst q
   exact Int.dvd_trans h1 (Int.gcd_dvd_right ..)
  .exact h2 n q
theorem Mc{ns:AA}(h:gl ns 0=0):∀n∈ns,n=0:=λn hn=>by
 have:=(jU ns 0).2 n hn;rw[h]at this;exact Int.zero_dvd.mp this
theorem uI{ns:AA}{n:Int}(hn:n∈ns)(h:n≠0):gl ns 0≠0:=λz=>h (Mc z n hn)
theorem Ae{ns:AA}{n:Int}(hn:n∈ns)(h:n≠0):0<gl ns 0:=by
 have h1:=Ag ns 0 (qw 0);have h2:=uI hn h;omega
theorem Be{ns:AA}{n:Int}(hn:n∈ns)(h:n≠0):low ns=ns.map (· /gl ns 0):=by
 unfold low;rw[if_neg (uI hn h)]
theorem Bd.gcd{k:Nat}{a b:Int}(h:Bd k a)(g:Bd k b):Bd k (ce a b:Nat):=by
 unfold Bd at *;rw[zq];rcases zn a.natAbs with z |z
 .have:a=0:=by omega
  subst this;rw[zt];exact g
 .exact qv (Nat.gcd_le_left _ z) h
theorem xZ{k:Nat}:∀{ns:AA}{g:Int},Bd k g->(∀n∈ns,Bd k n)->Bd k (gl ns g)
 |[],_,h,_=>h
 |n::r,g,h,hn=>by
  show Bd k (gl r _);exact xZ (ns:=r) (h.gcd (hn n bh)) λm hm=>hn m (bj _ hm)
theorem xA{k:Nat}{ns:AA}(h:∀n∈ns,Bd k n):∀n∈low ns,Bd k n:=λn hn=>by
 unfold low at hn
 by_cases c:gl ns 0=0
 .rw[if_pos c]at hn
  exact h n hn
 .rw[if_neg c]at hn
  obtain⟨m,hm,rfl⟩:=gq.mp hn;refine(h m hm).le ?_;have d:=(jU ns 0).2 m hm;obtain⟨q,e⟩:=d;rw[e,oz _ c,qs];exact Nat.le_mul_of_pos_left _ (by omega)
theorem Xp(ns:AA):(low ns).length=ns.length:=by
 unfold low;split
 .rfl
 .rw[am]
def fr(t b:Int):AA:=if b<0 then low [0-t,0-b] else low [t,b]
theorem uN(a b:Int):b∈[a,b]:=bj _ bh
theorem aa2(ns:AA):gl (ns.map (-1*·)) 0=gl ns 0:=by
 have:=wE (-1) ns;simpa using this
theorem ad8{t b:Int}(h:b≠0):∃p q:Int,fr t b=[p,q]/\0<q/\p*b=t*q:=by
 have go:∀{t b:Int},0<b->∃p q:Int,low [t,b]=[p,q]/\0<q/\p*b=t*q:=λ{t b} hb=>by
  have nz:b≠0:=by omega
  have gp:=Ae (uN t b) nz;refine⟨t/gl [t,b] 0,b/gl [t,b] 0,Be (uN t b) nz,?_,?_⟩
  .obtain⟨m,e⟩:=(jU [t,b] 0).2 b (uN t b)
   have:b/gl [t,b] 0=m:=by
    conv=>lhs;lhs;rw[e]
    exact oz _ (by omega)
   rw[this];have hm:0<m*gl [t,b] 0:=by rw[dy,<-e];exact hb
   exact wn hm gp
  .obtain⟨m,e⟩:=(jU [t,b] 0).2 b (uN t b)
   obtain⟨n,f⟩:=(jU [t,b] 0).2 t bh;have e1:b/gl [t,b] 0=m:=by
    conv=>lhs;lhs;rw[e]
    exact oz _ (by omega)
   have e2:t/gl [t,b] 0=n:=by
    conv=>lhs;lhs;rw[f]
    exact oz _ (by omega)
   rw[e1,e2]
   conv=>lhs;rhs;rw[e]
   conv=>rhs;lhs;rw[f]
   rw[Int.mul_left_comm,pf]
 unfold fr
 by_cases c:b<0
 .rw[if_pos c]
  obtain⟨p,q,e1,e2,e3⟩:=go (t:=0-t) (b:=0-b) (by omega);refine⟨p,q,e1,e2,?_⟩;rw[ji,ji,wm,my]at e3;omega
 .rw[if_neg c]
  exact go (by omega)
def sg(n:Int):Int:=if 0<n then 1 else if n<0 then-1 else 0
theorem P5(b:Int):-(2^64)<sg b/\sg b<2^64:=by
 unfold sg;split
 .decide
 .split<;>decide
theorem qQ{g n:Int}(h:g≠0):(g*n).fdiv g=n:=by
 rw[qx ⟨n,rfl⟩,oz _ h]
theorem Jq(n:Int):∀(l:AA)(g:Int),gl (l++[n]) g=(ce (gl l g) n:Nat)
 |[],g=>rfl
 |m::r,g=>Jq n r _
theorem ada{k:Nat}{t b p q:Int}(ht:Bd k t)(hb:Bd k b)(e:fr t b=[p,q]):Bd k p/\Bd k q:=by
 have go:∀{x y:Int},Bd k x->Bd k y->low [x,y]=[p,q]->Bd k p/\Bd k q:=λ{x y} hx hy e=>by
  have h:=xA (k:=k) (ns:=[x,y]) λn hn=>by
   rcases cq.mp hn with z |z
   .rw[z];exact hx
   .have z':n=y:=by simpa using z
    rw[z'];exact hy
  rw[e]at h;exact⟨h p bh,h q (uN _ _)⟩
 unfold fr at e;split at e
 .exact go (by rw[ji];exact ht.neg) (by rw[ji];exact hb.neg) e
 .exact go ht hb e
theorem An{k m:Int}(hk:0<k)(hm:0<m){A B:AA}(hA:gl A 0≠0)(e:A.map (k*·)=B.map (m*·)):low A=low B:=by
 have hB:gl B 0≠0:=λz=>by
  have h:=wE k A;rw[e,wE m B,z,oy]at h;have:(k.natAbs:Int)*gl A 0≠0:=cf (by omega) hA;exact this h.symm
 rw[<-Ab hk A hA,e,Ab hm B hB]
theorem Fs(b:Int):∀(ns:AA)(g:Int),gl ns (ce g b:Nat)=(ce (gl ns g) b:Nat)
 |[],_=>rfl
 |n::r,g=>by
  show gl r ((ce ((ce g b:Nat):Int) n:Nat):Int)=((ce (gl r _) b:Nat):Int);rw[<-Fs b r,Int.gcd_assoc,Int.gcd_comm b n,<-Int.gcd_assoc]
theorem Tc{ns:AA}{b:Int}(hb:0<b):gl (ns++[b]) 0=gl ns b:=by
 rw[Jq,<-Fs,zt];congr 1;omega
theorem kD(ns:AA)(b:Int):b∈ns++[b]:=da _ bh
theorem acZ{ns:AA}{b:Int}(hb:0<b):low (ns++[b])=(ns.map λn=>n.fdiv (gl ns b))++[b.fdiv (gl ns b)]/\0<gl ns b:=by
 have gp:=Ae (kD ns b) (by omega);rw[Tc hb]at gp;refine⟨?_,gp⟩;rw[Be (kD ns b) (by omega),Tc hb,ee];have e:∀n:Int,n/gl ns b=n.fdiv (gl ns b):=λn=>(Int.fdiv_eq_ediv_of_nonneg n (Int.le_of_lt gp)).symm;simp only[e,aq,br]
theorem xM(ns:AA){b:Int}(hb:0<b):∃(zs:AA)(z g:Int),low (ns++[b])=zs++[z]/\0<g/\0<z/\ns=zs.map (g*·)/\b=g*z/\zs.length=ns.length:=by
 obtain⟨e,gp⟩:=acZ (ns:=ns) hb;have dv:=jU (ns++[b]) 0;rw[Tc hb]at dv;have ex:∀n∈ns++[b],gl ns b*n.fdiv (gl ns b)=n:=λn hn=>by
  obtain⟨q,e⟩:=dv.2 n hn
  conv=>lhs;rhs;rw[e]
  rw[qQ (by omega)];exact e.symm
 refine⟨_,_,gl ns b,e,gp,?_,?_,(ex b (kD ns b)).symm,am _⟩
 .have h:=ex b (kD ns b)
  have:0<b.fdiv (gl ns b)*gl ns b:=by rw[dy,h];exact hb
  exact wn this gp
 .rw[dh]
  conv=>lhs;rw[<-ph ns]
  refine dz λn hn=>?_;exact(ex n (kr _ hn)).symm
theorem Md(ns:AA){b:Int}(hb:0<b):low (low (ns++[b]))=low (ns++[b]):=by
 obtain⟨zs,z,g,e,hg,hz,e1,e2,_⟩:=xM ns hb;rw[e];refine An (k:=g) (m:=1) hg (by decide) (uI (kD zs z) (by omega)) ?_ |>.trans e;rw[ee,<-e1];show ns++[g*z]=(ns++[b]).map (1*·);rw[<-e2]
 conv=>lhs;rw[<-ph (ns++[b])]
 refine dz λn _=>?_;exact(ir n).symm
def sm(xs:AA)(w:Int)(ys:AA)(v:Int):AA:=ci (λx y=>x*v+y*w) xs ys
theorem Fu{xs ys:AA}{f g:Int->Int->Int}(h:∀x y,f x y=g x y):ci f xs ys=ci g xs ys:=by
 have:f=g:=funext λx=>funext λy=>h x y;rw[this]
theorem Sy(xs:AA)(w:Int)(ys:AA)(v:Int):ci (λx y=>1*x*v+y*w) xs ys=sm xs w ys v:=Fu λx y=>by rw[ir]
theorem Iy(xs:AA)(w:Int)(ys:AA)(v:Int):ci (λy x=>-1*y*w+x*v) ys xs=sm xs w (ys.map (- ·)) v:=by
 unfold sm;rw[List.zipWith_map_right,List.zipWith_comm];refine Fu λx y=>?_;rw[my,ir];exact Int.add_comm _ _
theorem ach{xs ys:AA}{w v:Int}(h:xs.length=ys.length):(sm xs w ys v).length=xs.length:=by
 unfold sm;rw[jo];omega
end Bn
namespace L2
open PySem PySem.Spec PyProof.Rows Bn
section
variable{X:Cx}
theorem Dq{k:Nat}{i:Int}(h:Bd k i):zu i<=k:=by
 unfold zu;split
 .exact fw _
 .rename_i c
  have z:i.natAbs≠0:=by
   intro q;have:i=0:=by omega
   subst this;exact c rfl
  have:=(Nat.log2_lt z).mpr h;omega
def rS(_ j:Int):Prop:=j≠0/\Bd 8000 j
theorem K6:eQ X (binaryOp .FloorDiv) (rI rS λi j=>.int (i.fdiv j)):=
 zM λ_ _ _ _ _ _ _ hc q=>floordiv_int hc.1 q (.inl (PyProof.noPylong_of_log2 (wo (hc.2.log (by decide)) (by decide))))
theorem PS.imp{st:Stmt}{t t':TS}(h:PS X st t)(i:∀D σ H,t' D σ H->t D σ H):PS X st t':=λAL s σ H D I q=>h AL s σ H D I (i D σ H q)
theorem gK.imp{st:List Stmt}{t t':TS}(h:gK X st t)(i:∀D σ H,t' D σ H->t D σ H):gK X st t':=λAL s σ H D I q=>h AL s σ H D I (i D σ H q)
theorem PE.imp{e:ah}{t t':TE}(h:PE X e t)(i:∀σ H Q,t' σ H Q->t σ H Q):PE X e t':=λAL s σ H Q I q=>h AL s σ H Q I (i σ H Q q)
theorem PT.imp{e:ah}{t t':TT}(h:PT X e t)(i:∀σ H Q,t' σ H Q->t σ H Q):PT X e t':=λAL s σ H Q I q=>h AL s σ H Q I (i σ H Q q)
theorem aH.turnedNew{AL:List (Addr×Obj)}{σ:St}{H:Hp}{s:aa}{h':Heap}{t':Nat}{ch:List Addr}{a:Addr}{o:HO}(I:aH X AL σ H s)(hf:∀b∈ch,fO X AL H b)
  (k:∀b u,b∉ch->s.heap.get? b=some u->h'.get? b=some u)(hp:s.heap.objs.size<=a)(new:fV X.prog X.w (aY H a o) h' a o):
  aH X AL σ (aY H a o) {s with heap:=h',toks:=t'}:=by
 have hn:H a=none:=I.hok.fresh hp;have nch:∀b u,H b=some u->b∉ch:=λb u e z=>by
  rw[(hf b z).1]at e;cases e
 have nea:∀b u,H b=some u->b≠a:=λb u e=>gD e hn;refine I.step (g':=s.gens) (d':=s.drawn) (ch:=ch) (λb hb=>?_) (λb u _ _ hc e _=>k b u hc e) (λb u _ _ hc e _=>⟨u.slots,k b u hc e⟩) (λb u _ e n=>?_)
  (λb u hc e=>⟨u,k b u hc e⟩) (λb xs e=>?_) (λb u v e=>?_) (λb ps e=>⟨#[],?_⟩) (λm hm=>?_) (λb u e=>?_) I.bare
 .obtain⟨_,f1,_,f3,f4,f5⟩:=hf b hb
  exact⟨f3,f1,f4,f5⟩
 .rw[bS (cv (cy (bi e) hp))]
  exact n
 .rw[bS (nea b _ e)]
  exact e
 .rw[bS (nea b _ e)]
  exact e
 .rw[bS (nea b _ e),e]
  simp
 .obtain⟨ob,es,ep,ho,r⟩:=hm
  exact⟨ob,es,ep,k _ ob (λz=>(hf _ z).2.1 rfl) ho,r⟩
 .by_cases hb:b=a
  .subst hb
   rw[fH]at e;cases e;exact new
  .rw[bS hb]at e
   refine(I.hok b u e).stay (λc v hc q=>k c v ?_ q) (λc q=>?_) λc xs q=>?_
   .rcases hc with z |z
    .rw[z]
     exact nch b u e
    .exact nch c _ z
   .rw[bS (nea c _ q)]
    exact q
   .rw[bS (nea c _ q)]
    exact q
theorem aH.turnedL{AL:List (Addr×Obj)}{σ:St}{H:Hp}{s:aa}{h':Heap}{t':Nat}{ch:List Addr}(I:aH X AL σ H s)(hf:∀b∈ch,fO X AL H b)
  (k:∀b u,b∉ch->s.heap.get? b=some u->h'.get? b=some u):aH X AL σ H {s with heap:=h',toks:=t'}:=by
 have nch:∀b u,H b=some u->b∉ch:=λb u e z=>by
  rw[(hf b z).1]at e;cases e
 refine I.step (g':=s.gens) (d':=s.drawn) (ch:=ch) (λb hb=>?_) (λb u _ _ hc e _=>k b u hc e) (λb u _ _ hc e _=>⟨u.slots,k b u hc e⟩) (λb u _ e n=>n)
  (λb u hc e=>⟨u,k b u hc e⟩) (λb xs e=>e) (λb u v e=>e) (λb ps e=>⟨#[],?_⟩) (λm hm=>?_) (λb u e=>?_) I.bare
 .obtain⟨_,f1,_,f3,f4,f5⟩:=hf b hb
  exact⟨f3,f1,f4,f5⟩
 .rw[e]
  simp
 .obtain⟨ob,es,ep,ho,r⟩:=hm
  exact⟨ob,es,ep,k _ ob (λz=>(hf _ z).2.1 rfl) ho,r⟩
 .refine(I.hok b u e).stay (λc v hc q=>k c v ?_ q) (λc q=>q) λc xs q=>q
  rcases hc with z |z
  .rw[z]
   exact nch b u e
  .exact nch c _ z
end
def Gh (K : ag) (a : Addr) : It :=
  ⟨λi H => ∃ xs x, cJ K H a xs ∧ xs[i]? = some x,
   λi H x H' => ∃ p y, H p = none ∧ x = .ref p ∧ H' = aY H p (.tup [.int i, y]) ∧ ∀ xs, cJ K H a xs → xs[i]? = some y,
   λi H => ∃ xs, cJ K H a xs ∧ xs.length ≤ i⟩
theorem B5{P:Program}{w:al}{K:ag}{elts:List ah}{x1:Nat}{tp:ai}(a e it:Addr)(hne:e≠it):
  rW P w K (.Tuple elts x1 tp) (Gh K a) [e,it] e (λi h=>(∃old,IsEnum h e it (i:Int) old)/\h.IsListIter it a i) where
 mem:=by simp
 obj:=λi h st b hb=>by
  obtain⟨⟨old,q⟩,o,e1,c,d⟩:=st;rcases cq.mp hb with z |z
  .subst z
   exact⟨_,q,λv z=>nomatch z⟩
  .have z':b=it:=by simpa using z
   subst z';exact⟨o,e1,λv z=>by rw[d]at z;cases z⟩
 keep:=λi h h' st k=>⟨let⟨old,q⟩:=st.1;⟨old,k e (by simp) _ q⟩,st.2.at λo q=>k it (by simp) o q⟩
 item:=by
  intro X hP hw hK hc i AL s σ H E I hf st hg;subst hP hw hK;obtain⟨xs,x,hq,hx⟩:=hg;obtain⟨its,rv,pl,hz⟩:=I.list hq;obtain⟨u,hu,ru⟩:=rv.get hx;obtain⟨⟨old,he⟩,hit⟩:=st;refine wpAny_pyNext_enum_item he hit pl.isList (x:=u) (by simpa using hu) hne λh1 ho1 hit1 ht1 hs1 hk1=>⟨_,rfl,?_⟩;have lt1:e<s.heap.objs.size:=bi he;refine wpAny_letOwnedTupleGo_enum (s:={s with heap:=h1,toks:=s.toks+1}) ho1 λh2 he2 sb2=>?_;have ht2:h2.get? s.heap.objs.size=some {cls:=.type "tuple",data:=.seq #[.int i s.toks,u]}:=(sb2.2 _ (mf lt1)).trans ht1;have I2:aH X AL σ (aY H s.heap.objs.size (.tup [.int i,x])) {s with heap:=h2,toks:=s.toks+1}:=
   I.turnedNew hf (λb o hb q=>(sb2.2 b (λz=>hb (by simp[z]))).trans (hk1 b o (λz=>hb (by simp[z])) (λz=>hb (by simp[z])) q)) (aj _)
    ⟨by show 2<=sizeLine;decide,[.int i s.toks,u],.cons ⟨_,rfl⟩ (.cons ru .nil),⟨_,ht2,rfl,_,rfl⟩⟩
  refine⟨.ref s.heap.objs.size,_,I2,rfl,⟨_,x,I.hok.fresh (aj _),rfl,rfl,λys hy=>by rw[I.list_inj hy hq];exact hx⟩,⟨⟨_,by simpa using he2⟩,hit1.at λo q=>(sb2.2 it hne.symm).trans q⟩,λb hb=>?_⟩;have hb':=(hf b hb).1;have lt:b≠s.heap.objs.size:=by
   rcases cq.mp hb with z |z
   .subst z
    exact cv lt1
   .have z':b=it:=by simpa using z
    subst z';obtain⟨o,q,_⟩:=hit;exact cv (bi q)
  rw[bS lt];exact hb'
 done:=by
  intro X hP hw hK hc i AL s σ H E I hf st hg;subst hP hw hK;obtain⟨xs,hq,hx⟩:=hg;obtain⟨its,rv,pl,hz⟩:=I.list hq;obtain⟨⟨old,he⟩,hit⟩:=st;have hl:=rv.length;exact wpAny_pyNext_enum_end (I.ok.hd hc) he hit pl.isList (by simp;omega) λh' eb=>⟨rfl,I.turnedL (t':=s.toks) hf λb o hb q=>eb b o (λz=>hb (by simp[z])) q⟩
 self:=λ_ _ _ _ _ st h=>let⟨_,q⟩:=st.1;wpAny_pyIter_enum q h
section
variable{X:Cx}{elts:List ah}{x1:Nat}{tp:ai}
def ad0(K:ag)(tl:TA):TI:=λσ H R=>tl σ H λvs H1=>∃a,vs=[.ref a]/\(∃xs,cJ K H1 a xs)/\R (Gh K a) H1
theorem abC{l:ah}{tl:TA}{p pos:ai}(hg:Gl X "enumerate")(hm:X.mg "enumerate"=none)(hl:PA X [l] tl)(hs:starEach [l] X.env=[(false,eval l X.env)]:=by rfl):
  PI X (.Tuple elts x1 tp) (.Call (.Name "enumerate" p) [l] [] pos) (ad0 X.K tl):=by
 intro AL s σ H R I h;refine Call_ (pV I hg hm boot_enumerate (oq (bH (hl pos AL s σ H _ I h) λus s1 hq=>?_) hs rfl));rcases hq with⟨vs,H1,I1,r1,q1⟩;obtain⟨a,rfl,⟨xs,hq⟩,q⟩:=q1;obtain⟨u,rfl,ru⟩:=kK r1;cases ru;obtain⟨its,rv,pl,hz⟩:=I1.list hq;refine call_enumerate_list pl.isList λh' he hit hsz k=>?_;have I2:aH X AL σ H1 {s1 with heap:=h'}:=I1.kept (t':=s1.toks) k;refine wpAny_pyIter_enum (s:={s1 with heap:=h'}) he ?_;refine⟨s1.heap.objs.size+1,[s1.heap.objs.size+1,s1.heap.objs.size],_,_,H1,rfl,I2,B5 a _ _ (Nat.succ_ne_self _),⟨⟨_,he⟩,hit⟩,λb hb=>?_,q⟩;have hb':s1.heap.objs.size<=b:=by
  rcases cq.mp hb with z |z
  .rw[z]
   exact kz _
  .have z':b=s1.heap.objs.size:=by simpa using z
   rw[z'];exact aj _
 exact I1.fpOk hb' (I1.hok.fresh hb')
end
def gO(env:bf):List (Str×fm)->List (Str×Addr)->List (Str×Addr)
 |[],acc=>acc
 |p::r,acc=>if(p.2== .free)=true then gO env r ((p.1,(env.cells.lookup p.1).getD 0)::acc)else gO env r acc
theorem Sd{sc:Scope}{env:bf}(h:∀p∈sc.names,p.2=.free->∃c,env.cells.lookup p.1=some c):closureFor sc env=pure (gO env sc.names []):=by
 unfold closureFor;have go:∀(l:List (Str×fm))(acc:List (Str×Addr)),(∀p∈l,p.2=.free->∃c,env.cells.lookup p.1=some c)->
   (forIn l acc (λx r=>if(x.2==fx)=true then do let a <-cellOf env x.1;pure (wp ((x.1,a)::r))else pure (wp r)):Sem _)=pure (gO env l acc):=by
  intro l
  induction l with
  |nil=>intro acc _;rfl
  |cons p r ih=>
   intro acc hp;rw[qy];have hr:=λacc'=>ih acc' λq hq=>hp q (bj _ hq)
   by_cases c:(p.2==fx)=true
   .obtain⟨a,ea⟩:=hp p bh (by simpa using c)
    have e1:cellOf env p.1=pure a:=by unfold cellOf;rw[ea]
    rw[if_pos c,e1];simp only[pure_bind];rw[hr];show _=pure (if(p.2== .free)=true then _ else _);rw[if_pos c,ea];rfl
   .rw[if_neg c]
    simp only[pure_bind];rw[hr];show _=pure (if(p.2== .free)=true then _ else _);rw[if_neg c]
 have e:=go sc.names [] h;show(forIn sc.names [] _ >>= λr=>pure r)=_;rw[bind_pure];exact e
theorem vG{env:bf}:∀(l:List (Str×fm))(acc:List (Str×Addr)),(∀p∈l,p.2=.free->∃c,env.cells.lookup p.1=some c)->
  ∀y c,(gO env l acc).lookup y=some c->acc.lookup y=some c\/env.cells.lookup y=some c
 |[],acc,_,y,c,e=>.inl e
 |p::r,acc,h,y,c,e=>by
  have hr:∀q∈r,q.2=.free->∃c,env.cells.lookup q.1=some c:=λq hq=>h q (bj _ hq);unfold gO at e
  by_cases k:(p.2==fx)=true
  .rw[if_pos k]at e
   obtain⟨a,ea⟩:=h p bh (by simpa using k);rcases vG r _ hr y c e with z |z
   .rw[di]at z
    cases w:y==p.1 with
    |true=>
     rw[w,ea]at z;have hy:y=p.1:=by simpa using w
     rw[hy,ea];exact .inr z
    |false=>
     rw[w]at z;exact .inl z
   .exact .inr z
  .rw[if_neg k]at e
   exact vG r acc hr y c e
theorem qS{env:bf}:∀(l:List (Str×fm))(acc:List (Str×Addr))(y:Str),((∃c,acc.lookup y=some c)\/(y,fx)∈l)->∃c,(gO env l acc).lookup y=some c
 |[],acc,y,h=>by
  rcases h with h |h
  .exact h
  .cases h
 |p::r,acc,y,h=>by
  unfold gO
  by_cases k:(p.2==fx)=true
  .rw[if_pos k]
   refine qS r _ y ?_;cases w:y==p.1 with
   |true=>exact .inl ⟨_,by rw[di,w]⟩
   |false=>
    rcases h with⟨c,h⟩|h
    .exact .inl ⟨c,by rw[di,w];exact h⟩
    .rcases cq.mp h with z |z
     .rw[<-z]at w
      simp at w
     .exact .inr z
  .rw[if_neg k]
   refine qS r _ y ?_;rcases h with h |h
   .exact .inl h
   .rcases cq.mp h with z |z
    .rw[<-z]at k
     simp at k
    .exact .inr z
theorem Mi{env:bf}:∀{names:List (Str×fm)}{x:Str},(∀y∈names,y.2≠.cell)->
  (let l:=(names.map λ(n,k)=>if(k==fx&&env.scope.kind== .function&&env.kindOf n==some .cell)then(n,ff)else(n,k)).lookup x;l=some .cell\/l=some .free)->(x,fx)∈names
 |[],x,_,h=>by
  rcases h with h |h<;>cases h
 |(n,k)::r,x,hc,h=>by
  dsimp only at h;rw[aq]at h;have ih:=@Mi env r x λy hy=>hc y (bj _ hy);have nk:k≠.cell:=hc (n,k) bh
  by_cases c:(k==fx&&env.scope.kind== .function&&env.kindOf n==some .cell)=true
  .have kf:k=.free:=by
    simp only[jd,beq_iff_eq]at c;exact c.1.1
   dsimp only at h;rw[if_pos c,di]at h;cases w:x==n with
   |true=>
    have hx:x=n:=by simpa using w
    rw[hx,<-kf];exact bh
   |false=>
    rw[w]at h;exact bj _ (ih h)
  .dsimp only at h
   rw[if_neg c,di]at h;cases w:x==n with
   |true=>
    rw[w]at h;have hx:x=n:=by simpa using w
    have kf:k=.free:=by
     rcases h with h |h
     .exact absurd (bn h) nk
     .exact bn h
    rw[hx,<-kf];exact bh
   |false=>
    rw[w]at h;exact bj _ (ih h)
def eI(X:Cx)(sc:Scope)(N:List Str)(C:Addr)(AM:aa)(AN:Hp)(ex:List Addr):Cx where
 prog:=X.prog
 w:=X.w
 K:=X.K
 mg:=X.mg
 base:=X.base
 A:=X.A
 N:=N
 AM:=AM
 AN:=AN
 env:=compEnvC sc (gO X.env sc.names []) C X.env
 outer:=X.stack
 stack:=X.stack
 ex:=ex
 fn:=λ_=>false
 calm:=X.calm
 pn:=[]
 xe:=λ_ _=>False
def iQ(own:List Str)(cap:List (Nat×Str))(σ:St):St:=own.map (λ_=>none)++cap.map λp=>(σ[p.1]?).join
def cK(own:List Str)(cap:List (Nat×Str)):List Str:=own++cap.map (·.2)
def uO(J:It)(g:TG)(te:TE)(AQ:St)(H1:Hp)(D:Addr)(Q:VK):Prop:=
 ∃W:Nat->Nat->St->Hp->List V->Prop,(∃m,W 0 m AQ (aY H1 D (.lst [])) [])/\∀i m σ H ys,W i m σ H ys->H D=some (.lst ys)/\
  ((J.stop i H/\Q (.ref D) H)\/(J.go i H/\ys.length<sizeLine/\∀x H2,J.yld i H x H2->g x σ H2 λσ3 H3=>te σ3 H3 λy H4=>H4 D=some (.lst ys)/\∃m',m'<m/\W (i+1) m' σ3 (aY H4 D (.lst (ys++[y]))) (ys++[y])))
def uK(own:List Str)(cap:List (Nat×Str))(wi:TI)(g:TG)(te:TE):TE:=λσ H Q=>wi σ H λJ H1=>∀D,H1 D=none->uO J g te (iQ own cap σ) H1 D Q
def Nx(n:Nat)(Pv:Nat->St->Hp->List V->Prop)(D:Addr)(i:Nat)(ys:List V)(σ:St)(y:V)(H:Hp):Prop:=
 H D=some (.lst ys)/\∃m,m<n-i/\(m=n-(i+1)/\i+1<=n/\Pv (i+1) σ (aY H D (.lst (ys++[y]))) (ys++[y]))
theorem ady{n:Nat}{Pv:Nat->St->Hp->List V->Prop}{D:Addr}{i:Nat}{ys:List V}{σ:St}{y:V}{H:Hp}(h:i<n)(hD:H D=some (.lst ys))(p:Pv (i+1) σ (aY H D (.lst (ys++[y]))) (ys++[y])):Nx n Pv D i ys σ y H:=
 ⟨hD,n-(i+1),by omega,rfl,h,p⟩
theorem abr{J:It}{g:TG}{te:TE}{AQ:St}{H1:Hp}{D:Addr}{Q:VK}(n:Nat)(hn:n<=sizeLine)(Pv:Nat->St->Hp->List V->Prop)(h0:Pv 0 AQ (aY H1 D (.lst [])) [])
  (hl:∀i σ H ys,Pv i σ H ys->ys.length=i/\H D=some (.lst ys))(hgo:∀i σ H ys,i<n->Pv i σ H ys->J.go i H)
  (hs:∀i σ H ys x H2,i<n->Pv i σ H ys->J.yld i H x H2->g x σ H2 λσ3 H3=>te σ3 H3 λy H4=>Nx n Pv D i ys σ3 y H4)
  (hd:∀σ H ys,Pv n σ H ys->J.stop n H/\Q (.ref D) H):uO J g te AQ H1 D Q:=by
 refine⟨λi m σ H ys=>m=n-i/\i<=n/\Pv i σ H ys,⟨n,rfl,fw _,h0⟩,?_⟩
 rintro i m σ H ys ⟨rfl,hi,p⟩
 obtain⟨l1,l2⟩:=hl i σ H ys p;refine⟨l2,?_⟩
 by_cases hlt:i<n
 .exact .inr ⟨hgo i σ H ys hlt p,by omega,λx H2 y=>hs i σ H ys x H2 hlt p y⟩
 .have e:i=n:=by omega
  subst e;exact .inl (hd σ H ys p)
section
variable{prog:Program}{w:al}{A:ao}{R:ou->aa->Prop}{s:aa}
theorem Sk{elt target iter:ah}{sc:Scope}{pos:ai}{it acc:Value}{env:bf}(I:Nat->aa->Prop)
  (turn:∀n s,I n s->wpAny (model prog w) A (pyNext it) (λr s1=>match r with
   |none=>R (.ok .next) s1
   |some v=>wpAny (model prog w) A (letOwnedTupleGo target it v) (λ_ s2=>wpAny (model prog w) A (assign target env v) (λ_ s3=>wpAny (model prog w) A (eval elt env)
     (λx s4=>wpAny (model prog w) A (call (.builtin "list.append") [acc,x]) (λ_ s5=>∃m,m<n/\I m s5) (λ_ _=>False) s4) (λ_ _=>False) s3) (λ_ _=>False) s2) (λ_ _=>False) s1) (λ_ _=>False) s)
  (n:Nat)(h:I n s):codeAny (model prog w) A (.compLoop (.ListComp elt [⟨target,iter,[],0⟩] sc pos) 0 it acc env) R s:=by
 refine codeAny_loop rfl I (λn s hI=>?_) n h;show wpAny _ _ ((compTurn (.ListComp elt [⟨target,iter,[],0⟩] sc pos) 0 it acc env).onRaise (λx=>do noteFrame x env;theTreesLotGoes x)) _ _ s;refine wpAny_noted ?_;rw[compTurn_list1];refine ae (om (ae ?_));refine fj (turn n s hI) (λr s1 h1=>?_) λ_ _ z=>z.elim;cases r with
 |none=>exact ak h1
 |some v=>
  refine ae (fj h1 (λ_ s2 h2=>?_) λ_ _ z=>z.elim);refine ae (fj h2 (λ_ s3 h3=>?_) λ_ _ z=>z.elim);refine ae (ae (fj h3 (λx s4 h4=>?_) λ_ _ z=>z.elim));refine ae (fj h4 (λ_ s5 h5=>?_) λ_ _ z=>z.elim);exact ak (ak ⟨rfl,h5⟩)
end
structure gY(X:Cx)(sc:Scope)(own:List Str)(cap:List (Nat×Str)):Prop where
 kind:sc.kind=.function
 names:∀y∈sc.names,y.2=.local->sc.names.lookup y.1=some .local
 nocell:∀y∈sc.names,y.2≠.cell
 free:∀y∈sc.names,y.2=.free->X.env.kindOf y.1=some .cell
 at':∀p∈cap,X.N[p.1]?=some p.2
 cap:∀p∈cap,sc.names.lookup p.2=some .free
section
variable{X:Cx}{sc:Scope}{own:List Str}{cap:List (Nat×Str)}{AL:List (Addr×Obj)}{σ:St}{H:Hp}{s:aa}
theorem gY.has(k:gY X sc own cap)(ok:X.Ok):∀p∈sc.names,p.2=.free->∃c,X.env.cells.lookup p.1=some c:=λp hp e=>ok.has p.1 (.inl (k.free p hp e))
theorem sQ{env:bf}:∀{names:List (Str×fm)}{x:Str},env.scope.kind=.function->names.lookup x=some .free->env.kindOf x=some .cell->
  (names.map λ(n,k)=>if(k==fx&&env.scope.kind== .function&&env.kindOf n==some .cell)then(n,ff)else(n,k)).lookup x=some .cell
 |[],x,_,h,_=>by cases h
 |(n,k)::r,x,hk,h,hx=>by
  rw[aq];dsimp only;rw[di]at h;cases w:x==n with
  |true=>
   rw[w]at h;have e:x=n:=by simpa using w
   have kf:k=.free:=bn h;have c:(k==fx&&env.scope.kind== .function&&env.kindOf n==some .cell)=true:=by
    rw[kf,hk,<-e,hx];decide
   rw[if_pos c,di,w]
  |false=>
   rw[w]at h;have ih:=@sQ env r x hk h hx
   by_cases c:(k==fx&&env.scope.kind== .function&&env.kindOf n==some .cell)=true
   .rw[if_pos c,di,w]
    exact ih
   .rw[if_neg c,di,w]
    exact ih
theorem aH.cmp(k:gY X sc own cap){h4:Heap}{fp:List Addr}{m:Str->AE}{t':Nat}(I:aH X AL σ H s)(hf:∀b∈fp,fO X AL H b)(hlt:∀b∈fp,b<s.heap.objs.size)(hns:h4.Ns s.heap.objs.size m)
  (kp:∀b o,s.heap.get? b=some o->h4.get? b=some o):aH (eI X sc (cK own cap) s.heap.objs.size s H fp) [] (iQ own cap σ) H {s with heap:=h4,toks:=t'}:=by
 have hcl:∀y c,(gO X.env sc.names []).lookup y=some c->X.env.cells.lookup y=some c:=λy c e=>by
  rcases vG sc.names [] (k.has I.ok) y c e with z |z
  .cases z
  .exact z
 have nst:∀b∈fp,b∉dS X.stack:=λb hb z=>by
  rcases cq.mp (I.stkSub b z)with e |e
  .exact(hf b hb).2.1 e
  .exact(hf b hb).2.2.1 e
 refine⟨⟨I.ok.mod,k.kind,I.ok.glob,I.ok.blt,aj _,λx y c h1 h2=>I.ok.inj x y c (hcl x c h1) (hcl y c h2),λx hx=>?_,λx c e=>(nomatch e),I.ok.hd,I.ok.frames,.inl rfl,λb hb=>⟨cv (hlt b hb),λx c e=>(hf b hb).2.2.2.2.1 x c (hcl x c e)⟩,
  I.bs,gm I.ok.bsz I.sz,λb o e hb=>?_,nst,I.stack,I.stkFree⟩,rfl,I.bare,Un.kept kp,⟨m,hns,λi x v h1 h2 h3=>?_⟩,λx c e=>?_,I.hok.fresh (aj _),λx c e=>I.freeC x c (hcl x c e),λp hp=>absurd (show p∈([]:List (Addr×Obj)) from hp) (by simp),I.hok.kept kp,?_⟩
 .exact qS sc.names [] x (.inr (Mi k.nocell hx))
 .rcases(hf b hb).2.2.2.1 with z |z
  .exact I.ok.noex b o e z
  .exact absurd (cy (bi (I.ok.bs b o e).1) z) (iw _)
 .have hN:(cK own cap)[i]?=some x:=h1
  unfold cK at hN;unfold iQ at h2
  by_cases hi:i<own.length
  .rw[du (by simpa using hi),bo]at h2
   cases e:own[i]? with
   |none=>rw[e]at h2;cases h2
   |some z=>rw[e]at h2;cases h2
  .rw[de (by simpa using hi),bo,am]at h2
   rw[de (by omega),bo]at hN;cases e:cap[i-own.length]? with
   |none=>rw[e]at h2;cases h2
   |some p=>
    rw[e]at h2 hN;have hp:p∈cap:=cx e;have hx:p.2=x:=bn hN;have hv:(σ[p.1]?).join=some v:=bn h2;have hv':σ[p.1]?=some (some v):=by
     cases e2:σ[p.1]? with
     |none=>rw[e2]at hv;cases hv
     |some z=>rw[e2]at hv;exact congrArg some hv
    have fr:=k.cap p hp;have kc:X.env.kindOf p.2=some .cell:=k.free (p.2,.free) (jn fr) rfl;obtain⟨m0,_,hl⟩:=I.loc;obtain⟨u,ru,lk⟩:=hl p.1 p.2 v (k.at' p hp) hv' (.inr (.inl kc));refine⟨u,ru,?_⟩;rcases lk with⟨k1,_⟩|⟨_,c,ec,cell⟩
    .rw[kc]at k1
     cases k1
    .rw[<-hx]
     obtain⟨c',ec'⟩:=qS (env:=X.env) sc.names [] p.2 (.inr (jn fr));have:=(hcl _ _ ec').symm.trans ec;cases this;obtain⟨o,ho,hd⟩:=cell;exact .inr ⟨.inl (sQ I.ok.kind fr kc),c,ec',o,kp c o ho,hd⟩
 .obtain⟨v,o,ho,hd⟩:=I.cell x c (hcl x c e)
  exact⟨v,o,kp c o ho,hd⟩
 .unfold iQ
  show _=(cK own cap).length;unfold cK;rw[av,av,am,am,am]
theorem aH.uncmp{s3 s':aa}{H3 H':Hp}{N:List Str}{σ':St}{C:Addr}{fp:List Addr}{pl:List (Addr×Obj)}(I:aH X AL σ H s)(hf:∀b∈fp,fO X AL H b)(u:Un (dS X.stack) fp H H3 s.heap s3.heap)(os:s3.os=s.os)
  (J:aH (eI X sc N C s3 H3 fp) pl σ' H' s'):aH X AL σ H' s':=by
 have os':s'.os=s.os:=(show s'.os=s3.os from J.os).trans os;refine I.call' (ch:=fp) os' (u.trans J.base) J.hok J.bare λb hb=>?_;obtain⟨_,f1,_,f3,f4,f5⟩:=hf b hb;exact⟨f3,f1,f4,f5⟩
end
section
variable{X:Cx}{sc:Scope}{own:List Str}{cap:List (Nat×Str)}{AL:List (Addr×Obj)}{σ:St}{H:Hp}{s:aa}{elt target iter:ah}{pos pos':ai}{wi:TI}{g:TG}{te:TE}{Q:VK}
theorem Al{use:Option (Value->Sem Unit)}{Qf:Value->aa->Prop}(k:gY X sc own cap)(hi:PI X target iter wi)(hc:X.calm=true)
  (hg:∀C AM AN ex,PG (eI X sc (cK own cap) C AM AN ex) target g)(he:∀C AM AN ex,PE (eI X sc (cK own cap) C AM AN ex) elt te)(I:aH X AL σ H s)(h:uK own cap wi g te σ H Q)
  (fin:∀D C s' H' m,aH X AL σ H' s'->fO X AL H' C->s'.heap.Ns C m->Q (.ref D) H'->compPost (model X.prog X.w) X.A X.xe use Qf (.ref D) C (.ok .next) s')
  (hs:∀x,foldedSetIterable iter X.env x=pure x):
  wpAny (model X.prog X.w) X.A (comprehension (.ListComp elt [⟨target,iter,[],0⟩] sc pos) sc X.env pos' (newList []) false (eval iter X.env) use) Qf X.xe s:=by
 refine wq (use:=use) rfl hs (Sd (k.has I.ok)) k.kind k.names ?_;refine bH (hi AL s σ H _ I h) λv s1 h1=>bH h1 λitv s2 h2=>?_;obtain⟨it,fp,tn,J,H2,e,I2,T,st2,f2,hW⟩:=h2;subst e;refine ib (zw k.nocell (λy hy=>nomatch hy) (λh4 hns hsb=>?_) k.kind);have I3:aH X AL σ (aY H2 s2.heap.objs.size (.lst [])) {s2 with heap:=s2.heap.push {cls:=.type "list",data:=.seq ([]:AD).toArray},toks:=s2.toks}:=I2.lnew (ys:=[]) (its:=[]) .nil (fw _);have hD:H2 s2.heap.objs.size=none:=I2.fresh;have ltf:∀b∈fp,b<s2.heap.objs.size:=λb hb=>by
  obtain⟨o,ho,_⟩:=T.obj _ _ st2 b hb;exact bi ho
 have f3:∀b∈fp,fO X AL (aY H2 s2.heap.objs.size (.lst [])) b:=λb hb=>⟨by rw[bS (cv (ltf b hb))];exact(f2 b hb).1,(f2 b hb).2⟩;have un:Un (dS X.stack) fp H2 (aY H2 s2.heap.objs.size (.lst [])) s2.heap (s2.heap.push {cls:=.type "list",data:=.seq ([]:AD).toArray}):=Un.laid (λb u q=>ax _ q) (aj _) hD;have kp:∀b o,(s2.heap.push {cls:=.type "list",data:=.seq ([]:AD).toArray}).get? b=some o->h4.get? b=some o:=λb o q=>hsb.extBut b o (cv (bi q)) (ax _ q);have J0:=I3.cmp (t':=s2.toks+([]:List (Str×Value)).length) k f3 (λb hb=>cy (ltf b hb) (by rw[je];exact kz _)) hns kp;have stat:∀{H':Hp},(∀b∈fp,H' b=none)->∀b∈fp,fO (eI X sc (cK own cap) (s2.heap.push {cls:=.type "list",data:=.seq ([]:AD).toArray}).objs.size {s2 with heap:=s2.heap.push {cls:=.type "list",data:=.seq ([]:AD).toArray},toks:=s2.toks} (aY H2 s2.heap.objs.size (.lst [])) fp) [] H' b:=λhn b hb=>
  ⟨hn b hb,(J0.ok.exf b hb).1,J0.ok.exfs b hb,.inl hb,(J0.ok.exf b hb).2,λp hp=>absurd (show p∈([]:List (Addr×Obj)) from hp) (by simp)⟩
 have st4:tn 0 h4:=T.keep _ _ _ st2 λb hb o q=>kp b o (ax _ q);have fr0:∀b∈fp,(aY H2 s2.heap.objs.size (.lst [])) b=none:=λb hb=>(f3 b hb).1;have loop:codeAny (model X.prog X.w) X.A (.compLoop (.ListComp elt [⟨target,iter,[],0⟩] sc pos) 0 (.ref it) (.ref s2.heap.objs.size) (compEnvC sc (gO X.env sc.names []) (s2.heap.push {cls:=.type "list",data:=.seq ([]:AD).toArray}).objs.size X.env))
   (compPost (model X.prog X.w) X.A X.xe use Qf (.ref s2.heap.objs.size) (s2.heap.push {cls:=.type "list",data:=.seq ([]:AD).toArray}).objs.size) {s2 with heap:=h4,toks:=s2.toks+([]:List (Str×Value)).length}:=by
  obtain⟨W,⟨m0,w0⟩,turn⟩:=hW s2.heap.objs.size hD;refine Sk (λn s'=>∃i σ' H' ys,aH (eI X sc (cK own cap) (s2.heap.push {cls:=.type "list",data:=.seq ([]:AD).toArray}).objs.size {s2 with heap:=s2.heap.push {cls:=.type "list",data:=.seq ([]:AD).toArray},toks:=s2.toks} (aY H2 s2.heap.objs.size (.lst [])) fp) [] σ' H' s'/\tn i s'.heap/\(∀b∈fp,H' b=none)/\W i n σ' H' ys) ?_ m0
   ⟨0,_,_,[],J0,st4,fr0,w0⟩
  rintro n s5 ⟨i,σ5,H5,ys,I5,st5,fr5,w5⟩
  obtain⟨hD5,w5⟩:=turn i n σ5 H5 ys w5;rcases w5 with⟨stop,qn⟩|⟨go,hlt,step⟩
  .refine bH (T.done (eI X sc (cK own cap) (s2.heap.push {cls:=.type "list",data:=.seq ([]:AD).toArray}).objs.size {s2 with heap:=s2.heap.push {cls:=.type "list",data:=.seq ([]:AD).toArray},toks:=s2.toks} (aY H2 s2.heap.objs.size (.lst [])) fp) rfl rfl rfl hc i [] s5 σ5 H5 _ I5 (stat fr5) st5 stop) ?_
   rintro r s6 ⟨hr,I6⟩
   subst hr;obtain⟨m,hn,_⟩:=id I6.loc;exact fin _ _ s6 H5 m (I2.uncmp (s3:={s2 with heap:=s2.heap.push {cls:=.type "list",data:=.seq ([]:AD).toArray},toks:=s2.toks}) f2 un rfl I6) (I3.fpOk (aj _) I6.free) hn qn
  .refine bH (T.item (eI X sc (cK own cap) (s2.heap.push {cls:=.type "list",data:=.seq ([]:AD).toArray}).objs.size {s2 with heap:=s2.heap.push {cls:=.type "list",data:=.seq ([]:AD).toArray},toks:=s2.toks} (aY H2 s2.heap.objs.size (.lst [])) fp) rfl rfl rfl hc i [] s5 σ5 H5 _ I5 (stat fr5) st5 go) ?_
   rintro r s6 ⟨u,hr,h6⟩
   subst hr;refine bH h6 ?_
   rintro _ s7 ⟨x,H7,I7,r7,y7,st7,fr7⟩
   have I7':=I7.pinned (stat fr7) (T.obj _ _ st7);refine bH (hg _ _ _ _ _ s7 σ5 H7 x u _ I7' r7 (step x H7 y7)) ?_
   rintro _ s8 ⟨σ8,H8,I8,q8⟩
   refine bH (he _ _ _ _ _ s8 σ8 H8 _ I8 q8) ?_
   rintro v9 s9 ⟨y,H9,I9,r9,hD9,m',hm,w9⟩
   refine bH (sT _ s9 σ8 H9 (.ref s2.heap.objs.size) [y] (.ref s2.heap.objs.size) [v9] (λ_ H'=>H'=aY H9 s2.heap.objs.size (.lst (ys++[y]))) I9 rfl (.cons r9 .nil) ⟨_,ys,y,rfl,rfl,hD9,hlt,rfl⟩) ?_
   rintro _ s10 ⟨_,H10,I10,_,q10⟩
   subst q10;refine⟨m',hm,i+1,σ8,_,_,I10.unpinned,T.keep _ _ _ st7 λb hb o q=>(I10.pin (b,o) (da _ (da _ (lP hb q)))).1,λb hb=>?_,w9⟩;obtain⟨o,q,d⟩:=T.obj _ _ st7 b hb;exact(I10.pin (b,o) (da _ (da _ (lP hb q)))).2.1
 exact wr loop (T.self _ 0 _ _ _ st4 loop)
theorem aaj(k:gY X sc own cap)(hi:PI X target iter wi)(hc:X.calm=true)
  (hg:∀C AM AN ex,PG (eI X sc (cK own cap) C AM AN ex) target g)(he:∀C AM AN ex,PE (eI X sc (cK own cap) C AM AN ex) elt te)
  (hs:∀x,foldedSetIterable iter X.env x=pure x:=by intro _;rfl):PE X (.ListComp elt [⟨target,iter,[],0⟩] sc pos) (uK own cap wi g te):=by
 intro AL s σ H Q I h;rw[wt];refine Al (use:=none) k hi hc hg he I h (λD C s' H' m I' fC hn q=>?_) hs;refine⟨m,hn,λh' sb=>⟨.ref D,H',?_,rfl,q⟩⟩;obtain⟨f0,f1,f2,f3,f4,f5⟩:=fC;exact I'.turned (t':=s'.toks) (λb o hb e=>(sb.2 b hb).trans e) f0 f1 f3 f4 f5
theorem Bq{i:Nat}{x:Str}{py spos:ai}(hN:X.N.Nodup)(hx:X.N[i]?=some x)(hl:kT X.env.scope x)(k:gY X sc own cap)(hi:PI X target iter wi)(hc:X.calm=true)
  (hg:∀C AM AN ex,PG (eI X sc (cK own cap) C AM AN ex) target g)(he:∀C AM AN ex,PE (eI X sc (cK own cap) C AM AN ex) elt te)
  (hs:∀x,foldedSetIterable iter X.env x=pure x:=by intro _;rfl)(hsw:swapsWith (.ListComp elt [⟨target,iter,[],0⟩] sc pos) (some (.Name x py)) spos.line X.env=pure true:=by rfl)
  (hf:X.fn x=true\/X.env.scope.names.lookup x=some .local:=by first |exact .inl rfl |exact .inr rfl |assumption):
  PS X (.Assign [.Name x py] (.ListComp elt [⟨target,iter,[],0⟩] sc pos) spos) (Qg (uK own cap wi g te) (Uf i)):=by
 intro AL s σ H D I h;rw[exec_Assign_Name_used _ _ _ _ hsw];refine ae (om (ae ?_));show wpAny _ X.A (comprehension (.ListComp elt [⟨target,iter,[],0⟩] sc pos) sc X.env _ (newList []) false (eval iter X.env) (some (assign (.Name x py) X.env)) >>= λ_=>pure ()) _ _ s;refine ae (bH (Al (use:=some (assign (.Name x py) X.env)) (Qf:=λ_ s'=>SP X AL D .next s') k hi hc hg he I h (λB C s' H' m I' fC hn q=>?_) hs) λ_ s' hq=>ak (ak hq))
 show wpAny _ _ (assign (.Name x py) X.env (.ref B)) _ _ s';obtain⟨o,es,ep,ho,hd,r⟩:=hn;obtain⟨f0,f1,f2,f3,f4,f5⟩:=fC;have I'':aH X (AL++[(C,o)]) σ H' s':=I'.pins_of λp hp=>(ck.mp hp).elim (λz=>I'.pin p (da _ z)) λz=>by
  have e:p=(C,o):=by simpa using z
  subst e;exact⟨ho,f0,f1,f2,λv z=>by rw[hd]at z;cases z⟩
 refine wpAny_assign_Name (qX I'' hN hx hl (v:=.ref B) rfl (λs2 I2=>?_) hf);have pC:=I2.pin (C,o) (by simp);refine⟨m,⟨o,es,ep,pC.1,hd,r⟩,λh' sb=>⟨_,H',?_,q⟩⟩;exact(I2.unpinned).turned (t':=s2.toks) (λb o hb e=>(sb.2 b hb).trans e) f0 f1 f3 f4 f5
end
section
variable{X:Cx}
theorem J6(hc:X.calm=true):iX X (.builtin "all") (λxs H Q=>∃(a:Addr)(bs:List Bool),xs=[.ref a]/\cJ X.K H a (bs.map V.bl)/\Q (.bl (bs.all id)) H):=by
 intro AL s σ H xs us Q I r h;obtain⟨a,bs,rfl,hq,q⟩:=h;obtain⟨u,rfl,ru⟩:=kK r;cases ru;obtain⟨its,rv,pl,hz⟩:=I.list hq;have hl:bs.length=its.length:=by
  have:=rv.length
  rwa[am]at this
 refine call_all_walk (qz pl.isList ?_);have ha:a<s.heap.objs.size:=by
  obtain⟨o,ho,_⟩:=pl.isList;exact bi ho
 refine⟨_,_,_,_,_,_,λi=>bs.getD i true,rfl,Walks.list (prog:=X.prog) (w:=X.w) (A:=X.A.in1) (show X.A.in1.handled=none from I.ok.hd hc) s.heap.objs.size a (cv ha) its.toArray,⟨⟨_,cw _ rfl,rfl,rfl⟩,Heap.IsList.at pl.isList λo e=>ax _ e⟩,λi v s' Q' E' hv hQ=>?_,λh' tk kp=>?_⟩
 .have hv':its[i]?=some v:=by simpa using hv
  have hi:i<bs.length:=by
   have:=(ca.mp hv').1;omega
  obtain⟨u,hu,ru⟩:=rv.get (i:=i) (x:=.bl bs[i]) (by rw[bo,ay hi];rfl);rw[hv']at hu;cases hu;cases(show v=qe bs[i] from ru);have e:bs.getD i true=bs[i]:=by simp[cg,hi]
  have hQ':Q' (bs.getD i true) s':=hQ;rw[e]at hQ';exact lr hQ'
 .have e:(cj its.toArray.size).all (λi=>bs.getD i true)=bs.all id:=by
   rw[az,<-hl,re,ka,ka];constructor
   .intro z b hb
    obtain⟨i,hi,rfl⟩:=rf.mp hb;have:=z i (by simpa using hi);simpa[cg,hi]using this
   .intro z i hi
    have hi':i<bs.length:=by simpa using hi
    have:=z bs[i] (gr hi');simpa[cg,hi']using this
  show EP X AL σ Q (.bool ((cj its.toArray.size).all λi=>bs.getD i true)) _;rw[e];have I1:aH X AL σ H {s with heap:=s.heap.push {cls:=.type "list_iterator",data:=.fields #[.ref a,.int 0 0]},toks:=s.toks}:=I.kept λb o z=>ax _ z;have fp:fO X AL H s.heap.objs.size:=I.fpOk (aj _) (I.hok.fresh (aj _));obtain⟨f0,f1,f2,f3,f4,f5⟩:=fp;exact⟨.bl (bs.all id),H,I1.turned (λb o hb z=>kp b o (by simpa using hb) z) f0 f1 f3 f4 f5,rfl,q⟩
end
section
variable{prog:Program}{w:al}{A:ao}{E:Value->aa->Prop}{s:aa}
theorem Yy{it t:Addr}{i:Nat}{items:Array Value}{x:Value}{Q:Value->aa->Prop}(git:s.heap.IsTupleIter it t i)(gt:s.heap.IsTuple t items)(gx:items[i]?=some x)
  (gQ:∀h',h'.IsTupleIter it t (i+1)->ia it s.heap h'->Q x {s with heap:=h'}):wpAny (model prog w) A (kj (.ref it)) Q E s:=by
 obtain⟨o,go,gc,gd⟩:=id git;obtain⟨ol,gol,_,nl,gdl⟩:=gt;unfold kj;refine ae (jy (name:=dl "__next__") git.typeIs rh (jc rh git.typeIs zx ?_ (zy _)));show wpAny _ _ (field (.ref it) 0 >>= _) _ _ s;refine ae (gn go gd (x:=.ref t) rfl ?_);show wpAny _ _ (if(dg t==cu)=true then _ else _) _ _ s;rw[if_neg (show ¬((dg t==cu)=true) from ie)];show wpAny _ _ (field (.ref it) 1 >>= _) _ _ s;refine ae (gn go gd (x:=.int i 0) rfl ?_);show wpAny _ _ (seqItems? (.ref t) >>= _) _ _ s;refine ae (kb gol gdl ?_);simp only[ky,gx];refine ae (la go gd (by simp) (ak ⟨_,rfl,ak (gQ _ ?_ (ng ..))⟩));refine⟨_,qq _ go (wu (nh gd _)),(wv ..).trans gc,?_⟩;rw[nh gd];simp[rawInt]
theorem Ww{it t:Addr}{i:Nat}{items:Array Value}{Q:Value->aa->Prop}(hh:A.handled=none)(git:s.heap.IsTupleIter it t i)(gt:s.heap.IsTuple t items)(gx:items[i]?=none)
  (gE:∀h' e,ni it s.heap h'->(∃o,h'.get? e=some o/\o.cls=.type "StopIteration")->E (.ref e) {s with heap:=h'}):wpAny (model prog w) A (kj (.ref it)) Q E s:=by
 obtain⟨o,go,gc,gd⟩:=id git;obtain⟨ol,gol,_,nl,gdl⟩:=gt;unfold kj;refine ae (jy (name:=dl "__next__") git.typeIs rh (jc rh git.typeIs zx ?_ (zy _)));show wpAny _ _ (field (.ref it) 0 >>= _) _ _ s;refine ae (gn go gd (x:=.ref t) rfl ?_);show wpAny _ _ (if(dg t==cu)=true then _ else _) _ _ s;rw[if_neg (show ¬((dg t==cu)=true) from ie)];show wpAny _ _ (field (.ref it) 1 >>= _) _ _ s;refine ae (gn go gd (x:=.int i 0) rfl ?_);show wpAny _ _ (seqItems? (.ref t) >>= _) _ _ s;refine ae (kb gol gdl ?_);simp only[ky,gx]
 first
  |refine ae (ly (ae (la go gd (by simp) (ae (rl ?_)))))
  |refine ae (ly (ae (la go gd (by simp) ?_)))
 show wpAny _ _ (newExc (.type "StopIteration") [] >>= _) _ _ _;refine ae ?_;simp only[newExc,newTuple];refine ae (ib ?_ (by size_fits));refine ae (m:=firstArgMember _ _) (rm (a:=cu) (by first |rfl |(simp only[firstArgMember];rfl)) ?_)
 refine ib ?_ (by size_fits);simp only[raiseNew];refine ae (wpAny_handled ?_)
 first
  |rw[show A.in1.handled=none from hh]
  |rw[hh]
 refine ae (ak (wpAny_throw ?_));exact gE _ _ (((ng ..).extBut.push _).push _) ⟨_,cw _ rfl,rfl⟩
end
theorem T8{prog:Program}{w:al}{A:ao}(hh:A.handled=none)(it t:Addr)(hne:t≠it)(items:Array Value):
  jp prog w A it [it,t] items.size (λi v=>items[i]?=some v) (λi h=>h.IsTupleIter it t i/\h.IsTuple t items) where
 live:=λ_ _ st=>let⟨o,ho,_⟩:=st.1;⟨o,ho⟩
 frame:=λ_ _ _ st hk=>⟨let⟨o,ho,r⟩:=st.1;⟨o,hk it (by simp) o ho,r⟩,let⟨o,ho,r⟩:=st.2;⟨o,hk t (by simp) o ho,r⟩⟩
 item:=λi s Q E hi st hQ=>by
  refine Yy st.1 st.2 (x:=items[i]) (by simp[hi]) λh' hit' hs'=>?_;exact hQ _ h' s.toks (by simp[hi]) ⟨hit',st.2.extBut hs'.extBut hne⟩ hs'
 done:=λs Q E st hE=>Ww hh st.1 st.2 (by simp) hE
structure uU(z TI TO i1 i2:Addr)(fp1 fp2:List Addr):Prop where
 tiz:TI≠z
 toz:TO≠z
 tito:TI≠TO
 ti1:TI≠i1
 ti2:TI≠i2
 z1:z∉fp1
 z2:z∉fp2
 to1:TO∉fp1
 to2:TO∉fp2
 i12:i1∉fp2
 i21:i2∉fp1
 m1:i1∈fp1
 m2:i2∈fp2
section
variable{prog:Program}{w:al}{A:ao}{E:Value->aa->Prop}{s:aa}{z TI TO i1 i2:Addr}{fp1 fp2:List Addr}{n1 n2 i:Nat}{P1 P2:Nat->Value->Prop}{S1 S2:Nat->Heap->Prop}{a b:Value}
theorem A6{Q:Value->aa->Prop}(D1:jp prog w A i1 fp1 n1 P1 S1)(D2:jp prog w A i2 fp2 n2 P2 S2)(ap:uU z TI TO i1 i2 fp1 fp2)(gz:gv s.heap z TI TO .none)(gTI:dj s.heap TI (.ref i1) (.ref i2))(gTO:dj s.heap TO a b)
  (g1:S1 i s.heap)(g2:S2 i s.heap)(l1:i<n1)(l2:i<n2)
  (gQ:∀h' tk x y,P1 i x->P2 i y->gv h' z TI TO (rawInt s.heap.objs.size)->dj h' TO x y->S1 (i+1) h'->S2 (i+1) h'->dj h' s.heap.objs.size x y->
   (∀c o,c≠z->c≠TO->c≠i1->c≠i2->s.heap.get? c=some o->h'.get? c=some o)->Q (.ref s.heap.objs.size) {s with heap:=h',toks:=tk}):
  wpAny (model prog w) A (Builtin.«zip.__next__» ⟨[.ref z],[]⟩) (λfin s'=>∃v,fin=.done (.ret v)/\Q v s') E s:=by
 have nz1:i1≠z:=λq=>ap.z1 (q▸ap.m1);have nz2:i2≠z:=λq=>ap.z2 (q▸ap.m2);have nt1:TO≠i1:=λq=>ap.to1 (q▸ap.m1);have nt2:TO≠i2:=λq=>ap.to2 (q▸ap.m2);show wpAny _ _ (field (.ref z) 2 >>= _) _ _ _;refine ae (gn gz rfl (x:=.bool false) rfl ?_);show wpAny _ _ (field (.ref z) 3 >>= _) _ _ _;refine ae (gn gz rfl (x:=.ref TI) rfl ?_);refine ae (kb gTI rfl ?_);show wpAny _ _ (rn (.ref z) >>= _) _ _ _;refine ae ?_;unfold rn;refine ae (gn gz rfl (x:=.none) rfl (ak ?_));simp only[if_true];refine ae (ly ?_);refine ae (gn gz rfl (x:=.ref TO) rfl ?_);refine ae (nj gz (by simp) λh1 gz1 s1=>?_)
 replace gz1:gv h1 z TI TO .ellipsis:=gz1
 refine ae ?_;simp only[zz,a6,qy,ww];refine ae (ae (rp ?_));show wpAny _ _ (kj (.ref i1) >>= _) _ _ _;refine ae (D1.item i _ _ _ l1 (D1.frame _ _ _ g1 λc hc o q=>s1.extBut c o (λe=>ap.z1 (e▸hc)) q) λx h2 tk2 px g1' s2=>ak ?_);have gTO2:dj h2 TO a b:=s2.extBut _ _ nt1 (s1.extBut _ _ ap.toz gTO);refine ae (kb gTO2 rfl ?_);refine ae (wz (s:={s with heap:=h2,toks:=tk2}) gTO2 λh3 gTO3 s3=>?_)
 replace gTO3:dj h3 TO x b:=gTO3
 replace s3:ia TO h2 h3:=s3
 refine ae (rl (ak ?_));refine ae (ae (rp ?_));show wpAny _ _ (kj (.ref i2) >>= _) _ _ _;have g2':S2 i h3:=D2.frame _ _ _ g2 λc hc o q=>s3.extBut c o (λe=>ap.to2 (e▸hc)) (s2.extBut c o (λe=>ap.i12 (e▸hc)) (s1.extBut c o (λe=>ap.z2 (e▸hc)) q));refine ae (D2.item i _ _ _ l2 g2' λy h4 tk4 py g2'' s4=>ak ?_)
 replace s4:ia i2 h3 h4:=s4
 have gTO4:dj h4 TO x b:=s4.extBut _ _ nt2 gTO3;refine ae (kb gTO4 rfl ?_);refine ae (wz (s:={s with heap:=h4,toks:=tk4}) gTO4 λh5 gTO5 s5=>?_)
 replace gTO5:dj h5 TO x y:=gTO5
 replace s5:ia TO h4 h5:=s5
 refine ae (rl (ak (ak ?_)));refine ae (kb gTO5 rfl ?_);refine ae (wpAny_newTuple ?_);have hsz:h5.objs.size=s.heap.objs.size:=by rw[s5.1,s4.1,s3.1,s2.1,s1.1]
 have gz5:gv h5 z TI TO .ellipsis:=s5.extBut _ _ ap.toz.symm (s4.extBut _ _ nz2.symm (s3.extBut _ _ ap.toz.symm (s2.extBut _ _ nz1.symm gz1)));have k5:∀c o,c≠z->c≠TO->c≠i1->c≠i2->s.heap.get? c=some o->h5.get? c=some o:=λc o c1 c2 c3 c4 q=>s5.extBut _ _ c2 (s4.extBut _ _ c4 (s3.extBut _ _ c2 (s2.extBut _ _ c3 (s1.extBut _ _ c1 q))));have g15:S1 (i+1) h5:=D1.frame _ _ _ g1' λc hc o q=>s5.extBut c o (λe=>ap.to1 (e▸hc)) (s4.extBut c o (λe=>ap.i21 (e▸hc)) (s3.extBut c o (λe=>ap.to1 (e▸hc)) q));have g25:S2 (i+1) h5:=D2.frame _ _ _ g2'' λc hc o q=>s5.extBut c o (λe=>ap.to2 (e▸hc)) q;have zlt:z<h5.objs.size:=bi gz5;show wpAny _ _ (a7 (.ref z) (.ref h5.objs.size) >>= _) _ _ _;refine ae ?_;unfold a7;have gz6:gv (h5.push {cls:=.type "tuple",data:=.seq #[x,y]}) z TI TO .ellipsis:=ax _ gz5;refine ae (nj gz6 (by simp) λh7 gz7 s7=>?_)
 replace gz7:gv h7 z TI TO (rawInt h5.objs.size):=gz7
 refine nj gz7 (by simp) λh8 gz8 s8=>?_
 replace gz8:gv h8 z TI TO (rawInt h5.objs.size):=gz8
 have up:∀c o,c≠z->h5.get? c=some o->h8.get? c=some o:=λc o c1 q=>s8.extBut _ _ c1 (s7.extBut _ _ c1 (ax _ q));have gT8:dj h8 h5.objs.size x y:=s8.extBut _ _ (mf zlt) (s7.extBut _ _ (mf zlt) (cw _ rfl));rw[hsz]at gz8 gT8;refine ak ⟨_,rfl,?_⟩;show Q (.ref h5.objs.size) _;rw[hsz];exact gQ h8 _ x y px py gz8 (up _ _ ap.toz gTO5) (D1.frame _ _ _ g15 λc hc o q=>up c o (λe=>ap.z1 (e▸hc)) q) (D2.frame _ _ _ g25 λc hc o q=>up c o (λe=>ap.z2 (e▸hc)) q) gT8 λc o c1 c2 c3 c4 q=>up c o c1 (k5 c o c1 c2 c3 c4 q)
theorem C0{Q:Fin->aa->Prop}(D1:jp prog w A i1 fp1 n1 P1 S1)(D2:jp prog w A i2 fp2 n2 P2 S2)(ap:uU z TI TO i1 i2 fp1 fp2)(gz:gv s.heap z TI TO .none)(gTI:dj s.heap TI (.ref i1) (.ref i2))(gTO:dj s.heap TO a b)
  (g1:S1 i s.heap)(g2:S2 i s.heap)(fin:i=n1\/(i<n1/\i=n2))
  (gE:∀h' tk e,(∀c o,c≠z->c≠TO->c≠i1->c≠i2->s.heap.get? c=some o->h'.get? c=some o)->(∃o,h'.get? e=some o/\o.cls=.type "StopIteration")->E (.ref e) {s with heap:=h',toks:=tk}):
  wpAny (model prog w) A (Builtin.«zip.__next__» ⟨[.ref z],[]⟩) Q E s:=by
 have nz1:i1≠z:=λq=>ap.z1 (q▸ap.m1);have nz2:i2≠z:=λq=>ap.z2 (q▸ap.m2);have nt1:TO≠i1:=λq=>ap.to1 (q▸ap.m1);have nt2:TO≠i2:=λq=>ap.to2 (q▸ap.m2);show wpAny _ _ (field (.ref z) 2 >>= _) _ _ _;refine ae (gn gz rfl (x:=.bool false) rfl ?_);show wpAny _ _ (field (.ref z) 3 >>= _) _ _ _;refine ae (gn gz rfl (x:=.ref TI) rfl ?_);refine ae (kb gTI rfl ?_);show wpAny _ _ (rn (.ref z) >>= _) _ _ _;refine ae ?_;unfold rn;refine ae (gn gz rfl (x:=.none) rfl (ak ?_));simp only[if_true];refine ae (ly ?_);refine ae (gn gz rfl (x:=.ref TO) rfl ?_);refine ae (nj gz (by simp) λh1 gz1 s1=>?_)
 replace gz1:gv h1 z TI TO .ellipsis:=gz1
 refine ae ?_;simp only[zz,a6,qy,ww];refine ae (ae (rp ?_));show wpAny _ _ (kj (.ref i1) >>= _) _ _ _;have g1':S1 i h1:=D1.frame _ _ _ g1 λc hc o q=>s1.extBut c o (λe=>ap.z1 (e▸hc)) q;rcases fin with e1 |⟨l1,e2⟩
 .subst e1
  refine ae (D1.done _ _ _ g1' λh2 e s2 he=>?_);obtain⟨oe,hoe,hce⟩:=he;have gz2:gv h2 z TI TO .ellipsis:=s2 _ _ nz1.symm gz1;have hez:e≠z:=λq=>by
   subst q;rw[gz2]at hoe;cases hoe;simp at hce
  refine nj (s:={s with heap:=h2}) gz2 (by simp) λh3 _ s3=>?_;exact gE h3 _ e (λc o c1 _ c3 _ q=>s3.extBut _ _ c1 (s2 _ _ c3 (s1.extBut _ _ c1 q))) ⟨oe,s3.extBut _ _ hez hoe,hce⟩
 .subst e2
  refine ae (D1.item i _ _ _ l1 g1' λx h2 tk2 px g1'' s2=>ak ?_);have gTO2:dj h2 TO a b:=s2.extBut _ _ nt1 (s1.extBut _ _ ap.toz gTO);refine ae (kb gTO2 rfl ?_);refine ae (wz (s:={s with heap:=h2,toks:=tk2}) gTO2 λh3 gTO3 s3=>?_)
  replace s3:ia TO h2 h3:=s3
  refine ae (rl (ak ?_));refine ae (ae (rp ?_));show wpAny _ _ (kj (.ref i2) >>= _) _ _ _;have g2':S2 i h3:=D2.frame _ _ _ g2 λc hc o q=>s3.extBut c o (λe=>ap.to2 (e▸hc)) (s2.extBut c o (λe=>ap.i12 (e▸hc)) (s1.extBut c o (λe=>ap.z2 (e▸hc)) q));refine ae (D2.done _ _ _ g2' λh4 e s4 he=>?_)
  replace s4:ni i2 h3 h4:=s4
  obtain⟨oe,hoe,hce⟩:=he;have gz4:gv h4 z TI TO .ellipsis:=s4 _ _ nz2.symm (s3.extBut _ _ ap.toz.symm (s2.extBut _ _ nz1.symm gz1));have hez:e≠z:=λq=>by
   subst q;rw[gz4]at hoe;cases hoe;simp at hce
  refine nj (s:={s with heap:=h4,toks:=tk2}) gz4 (by simp) λh5 _ s5=>?_;exact gE h5 _ e (λc o c1 c2 c3 c4 q=>s5.extBut _ _ c1 (s4 _ _ c4 (s3.extBut _ _ c2 (s2.extBut _ _ c3 (s1.extBut _ _ c1 q))))) ⟨oe,s5.extBut _ _ hez hoe,hce⟩
theorem Wx{Q:AE->aa->Prop}(D1:jp prog w A.in1 i1 fp1 n1 P1 S1)(D2:jp prog w A.in1 i2 fp2 n2 P2 S2)(ap:uU z TI TO i1 i2 fp1 fp2)(gz:gv s.heap z TI TO .none)(gTI:dj s.heap TI (.ref i1) (.ref i2))(gTO:dj s.heap TO a b)
  (g1:S1 i s.heap)(g2:S2 i s.heap)(l1:i<n1)(l2:i<n2)
  (gQ:∀h' tk x y,P1 i x->P2 i y->gv h' z TI TO (rawInt s.heap.objs.size)->dj h' TO x y->S1 (i+1) h'->S2 (i+1) h'->dj h' s.heap.objs.size x y->
   (∀c o,c≠z->c≠TO->c≠i1->c≠i2->s.heap.get? c=some o->h'.get? c=some o)->Q (some (.ref s.heap.objs.size)) {s with heap:=h',toks:=tk}):
  wpAny (model prog w) A (pyNext (.ref z)) Q E s:=by
 have gT:s.TypeIs (.ref z) "zip":=⟨_,gz,rfl⟩;unfold pyNext;refine ae (nr (jy (name:=dl "__next__") gT rq (jc rq gT a8 ?_ (a9 _))));exact A6 D1 D2 ap gz gTI gTO g1 g2 l1 l2 λh' tk x y p1 p2 e1 e2 e3 e4 e5 e6=>ak (gQ h' tk x y p1 p2 e1 e2 e3 e4 e5 e6)
theorem Uw{Q:AE->aa->Prop}(D1:jp prog w A.in1 i1 fp1 n1 P1 S1)(D2:jp prog w A.in1 i2 fp2 n2 P2 S2)(ap:uU z TI TO i1 i2 fp1 fp2)(gz:gv s.heap z TI TO .none)(gTI:dj s.heap TI (.ref i1) (.ref i2))(gTO:dj s.heap TO a b)
  (g1:S1 i s.heap)(g2:S2 i s.heap)(fin:i=n1\/(i<n1/\i=n2))
  (gQ:∀h' tk,(∀c o,c≠z->c≠TO->c≠i1->c≠i2->s.heap.get? c=some o->h'.get? c=some o)->Q none {s with heap:=h',toks:=tk}):wpAny (model prog w) A (pyNext (.ref z)) Q E s:=by
 have gT:s.TypeIs (.ref z) "zip":=⟨_,gz,rfl⟩;unfold pyNext;refine ae (nr (jy (name:=dl "__next__") gT rq (jc rq gT a8 ?_ (a9 _))));refine C0 D1 D2 ap gz gTI gTO g1 g2 fin λh' tk e hk he=>?_;obtain⟨o,ho,hc⟩:=he;refine ae (xa (T:="StopIteration") (b:=true) ⟨o,ho,hc⟩ isSubtype_stop ?_);exact ak (gQ _ _ hk)
end
abbrev yS(h:Heap)(o1:Obj):Heap:=h.push o1
abbrev yJ(h:Heap)(o1 o2:Obj):Heap:=(yS h o1).push o2
abbrev yE(h:Heap)(o1 o2:Obj):Heap:=(yJ h o1 o2).push {cls:=.type "tuple",data:=.seq #[.ref h.objs.size,.ref (yS h o1).objs.size]}
abbrev yQ(h:Heap)(o1 o2:Obj):Heap:=(yE h o1 o2).push {cls:=.type "tuple",data:=.seq #[.none,.none]}
abbrev rZ(h:Heap)(o1 o2:Obj):Heap:=(yQ h o1 o2).push {cls:=.type "zip",data:=.fields #[.none,.bool false,.bool false,.ref (yJ h o1 o2).objs.size,.ref (yE h o1 o2).objs.size]}
def uQ(l:Addr)(o:Obj)(G:Heap->Prop):Prop:=
 ∀(prog:Program)(w:al)(A:ao)(E:Value->aa->Prop)(s:aa)(Q:Value->aa->Prop),G s.heap->Q (.ref s.heap.objs.size) {s with heap:=s.heap.push o}->wpAny (model prog w) A (pyIter (.ref l)) Q E s
theorem A8(l1 l2:Addr)(o1 o2:Obj)(G1 G2:Heap->Prop)(p1:uQ l1 o1 G1)(p2:uQ l2 o2 G2)(k2:∀h,G2 h->G2 (h.push o1)):
  Meets (Builtin.«zip.__new__» ⟨[.type "zip",.ref l1,.ref l2],[]⟩) (λ_ R s=>G1 s.heap/\G2 s.heap/\R (.ok (.ret (.ref (yQ s.heap o1 o2).objs.size))) {s with heap:=rZ s.heap o1 o2}):=
 .of_wp λprog w A R s h=>by
  obtain⟨hp,g,d,tk,os⟩:=s;obtain⟨g1,g2,h⟩:=h;have hsub:=sub_zip;have q1:=λ(A':ao) (E':Value->aa->Prop) (Q':Value->aa->Prop)=>p1 prog w A' E' ⟨hp,g,d,tk,os⟩ Q' g1;have q2:=λ(A':ao) (E':Value->aa->Prop) (Q':Value->aa->Prop)=>p2 prog w A' E' ⟨hp.push o1,g,d,tk,os⟩ Q' (k2 _ g2)
  wp_walk using q1 _ _ _,q2 _ _ _
  exact⟨_,rfl,h⟩
theorem Mx{prog:Program}{w:al}{A:ao}{E:Value->aa->Prop}{s:aa}{l1 l2:Addr}{o1 o2:Obj}{G1 G2:Heap->Prop}{Q:Value->aa->Prop}(p1:uQ l1 o1 G1)(p2:uQ l2 o2 G2)(k2:∀h,G2 h->G2 (h.push o1))(g1:G1 s.heap)(g2:G2 s.heap)
  (f1:o1.isFreed=false)(f2:o2.isFreed=false)
  (h:∀h',gv h' (s.heap.objs.size+4) (s.heap.objs.size+2) (s.heap.objs.size+3) .none->dj h' (s.heap.objs.size+2) (.ref s.heap.objs.size) (.ref (s.heap.objs.size+1))->dj h' (s.heap.objs.size+3) .none .none->
   h'.get? s.heap.objs.size=some o1->h'.get? (s.heap.objs.size+1)=some o2->(∀c o,s.heap.get? c=some o->h'.get? c=some o)->Q (.ref (s.heap.objs.size+4)) {s with heap:=h'}):
  wpAny (model prog w) A (call (.type "zip") [.ref l1,.ref l2]) Q E s:=by
 refine callType_new F.called_zip (by decide) (F.typeCall_zip_2 _ _) (F.newCall_zip_2 _ _) (λobj=>F.args_object_init_3 obj _ _) F.entry_zip_new (A8 l1 l2 o1 o2 G1 G2 p1 p2 k2) ⟨g1,g2,?_⟩;have e1:(yS s.heap o1).objs.size=s.heap.objs.size+1:=je ..;have e2:(yJ s.heap o1 o2).objs.size=s.heap.objs.size+2:=by rw[je,e1]
 have e3:(yE s.heap o1 o2).objs.size=s.heap.objs.size+3:=by rw[je,e2]
 have e4:(yQ s.heap o1 o2).objs.size=s.heap.objs.size+4:=by rw[je,e3]
 have r5:(rZ s.heap o1 o2).get? (yQ s.heap o1 o2).objs.size=some _:=cw _ rfl;have r4:(rZ s.heap o1 o2).get? (yE s.heap o1 o2).objs.size=some _:=ax _ (cw _ rfl);have r3:(rZ s.heap o1 o2).get? (yJ s.heap o1 o2).objs.size=some _:=ax _ (ax _ (cw _ rfl));have r2:(rZ s.heap o1 o2).get? (yS s.heap o1).objs.size=some o2:=ax _ (ax _ (ax _ (cw _ f2)));have r1:(rZ s.heap o1 o2).get? s.heap.objs.size=some o1:=ax _ (ax _ (ax _ (ax _ (cw _ f1))));show _/\_;rw[e2,e3,e4]at r5;rw[e1,e2]at r3;rw[e3]at r4;rw[e1]at r2;rw[e4];exact⟨⟨_,r5,rfl⟩,h _ r5 r3 r4 r1 r2 λc o q=>ax _ (ax _ (ax _ (ax _ (ax _ q))))⟩
def jO(f:Bool)(K:ag)(H:Hp)(a:Addr)(xs:List V):Prop:=match f with
 |true=>dJ K H a xs
 |false=>cJ K H a xs
def nQ(f:Bool)(it a:Addr)(i:Nat)(h:Heap):Prop:=match f with
 |true=>h.IsTupleIter it a i
 |false=>h.IsListIter it a i
def sC(f:Bool)(a:Addr)(items:Array Value)(h:Heap):Prop:=match f with
 |true=>h.IsTuple a items
 |false=>h.IsList a items
def Ah(f:Bool)(a:Addr):Obj:=match f with
 |true=>{cls:=.type "tuple_iterator",data:=.fields #[.ref a,.int 0 0]}
 |false=>{cls:=.type "list_iterator",data:=.fields #[.ref a,.int 0 0]}
section
variable{X:Cx}{AL:List (Addr×Obj)}{σ:St}{H:Hp}{s:aa}{a:Addr}{xs ys:List V}{f:Bool}
theorem aH.seqF(I:aH X AL σ H s)(h:jO f X.K H a xs):∃its:AD,bI xs its/\sC f a its.toArray s.heap/\xs.length<=sizeLine:=by
 cases f with
 |true=>
  obtain⟨its,r,p,z⟩:=I.tuple h;exact⟨its,r,p,z⟩
 |false=>
  obtain⟨its,r,p,z⟩:=I.list h;exact⟨its,r,p.isList,z⟩
theorem aH.seqF_inj(I:aH X AL σ H s)(h:jO f X.K H a xs)(h':jO f X.K H a ys):xs=ys:=by
 cases f with
 |true=>exact I.tuple_inj h h'
 |false=>exact I.list_inj h h'
theorem aH.apart{b:Addr}(I:aH X AL σ H s)(fb:fO X AL H b)(h:jO f X.K H a xs):a≠b:=by
 have viaK:∀{o:Obj},X.K.lookup a=some o->a≠b:=λ{o} q e=>by
  have hb:X.base.get? b=some o:=e▸I.ok.mod.kin a o q;rcases fb.2.2.2.1 with z |z
  .exact I.ok.noex b o hb z
  .exact absurd (cy (bi (I.ok.bs b o hb).1) z) (iw _)
 cases f with
 |true=>
  rcases h with(h |⟨o,h⟩) |⟨o,_,_,q,_⟩
  .exact gD h fb.1
  .exact gD h fb.1
  .exact viaK q
 |false=>
  rcases h with(h |⟨o,h⟩) |⟨o,_,_,q,_⟩
  .exact gD h fb.1
  .exact gD h fb.1
  .exact viaK q
end
theorem xI{prog:Program}{w:al}{A:ao}(f:Bool)(hh:A.handled=none)(it a:Addr)(hne:a≠it)(items:Array Value):
  jp prog w A it [it,a] items.size (λi v=>items[i]?=some v) (λi h=>nQ f it a i h/\sC f a items h):=by
 cases f with
 |true=>exact T8 hh it a hne items
 |false=>exact Draws.list hh it a hne items
theorem Av(f:Bool)(a:Addr)(items:Array Value):uQ a (Ah f a) (sC f a items):=by
 cases f with
 |true=>exact λprog w A E s Q g q=>c7 g q
 |false=>exact λprog w A E s Q g q=>qz g q
theorem nQ.keep{f:Bool}{it a:Addr}{i:Nat}{h h':Heap}(x:nQ f it a i h)(k:∀o,h.get? it=some o->h'.get? it=some o):nQ f it a i h':=by
 cases f with
 |true=>obtain⟨o,e,r⟩:=x;exact⟨o,k o e,r⟩
 |false=>obtain⟨o,e,r⟩:=x;exact⟨o,k o e,r⟩
theorem sC.keep{f:Bool}{a:Addr}{items:Array Value}{h h':Heap}(x:sC f a items h)(k:∀o,h.get? a=some o->h'.get? a=some o):sC f a items h':=by
 cases f with
 |true=>obtain⟨o,e,r⟩:=x;exact⟨o,k o e,r⟩
 |false=>obtain⟨o,e,r⟩:=x;exact⟨o,k o e,r⟩
theorem nQ.obj{f:Bool}{it a:Addr}{i:Nat}{h:Heap}(x:nQ f it a i h):∃o,h.get? it=some o/\∀v,o.data≠.cell v:=by
 cases f with
 |true=>obtain⟨o,e,_,d⟩:=x;exact⟨o,e,λv z=>by rw[d]at z;cases z⟩
 |false=>obtain⟨o,e,_,d⟩:=x;exact⟨o,e,λv z=>by rw[d]at z;cases z⟩
theorem Ll(f:Bool)(a it:Addr){h:Heap}(e:h.get? it=some (Ah f a)):nQ f it a 0 h:=by
 cases f with
 |true=>exact⟨_,e,rfl,rfl⟩
 |false=>exact⟨_,e,rfl,rfl⟩
theorem Sn(f:Bool)(a:Addr):(Ah f a).isFreed=false:=by cases f<;>rfl
def Fw (K : ag) (f1 : Bool) (a : Addr) (f2 : Bool) (b : Addr) : It :=
  ⟨λi H => ∃ xs ys x y, jO f1 K H a xs ∧ jO f2 K H b ys ∧ xs[i]? = some x ∧ ys[i]? = some y,
   λi H v H' => ∃ p x y, H p = none ∧ v = .ref p ∧ H' = aY H p (.tup [x, y]) ∧ (∀ xs, jO f1 K H a xs → xs[i]? = some x) ∧ ∀ ys, jO f2 K H b ys → ys[i]? = some y,
   λi H => ∃ xs ys, jO f1 K H a xs ∧ jO f2 K H b ys ∧ (i = xs.length ∨ (i < xs.length ∧ i = ys.length))⟩
structure yM(z TI TO i1 i2:Addr):Prop where
 tiz:TI≠z
 toz:TO≠z
 i1z:i1≠z
 i2z:i2≠z
 tito:TI≠TO
 ti1:TI≠i1
 ti2:TI≠i2
 to1:TO≠i1
 to2:TO≠i2
 i12:i1≠i2
theorem yM.ap{z TI TO i1 i2 a b:Addr}(r:yM z TI TO i1 i2)(h:∀c∈[z,TI,TO,i1,i2],a≠c)(g:∀c∈[z,TI,TO,i1,i2],b≠c):uU z TI TO i1 i2 [i1,a] [i2,b] where
 tiz:=r.tiz
 toz:=r.toz
 tito:=r.tito
 ti1:=r.ti1
 ti2:=r.ti2
 z1:=λq=>by simp at q;rcases q with q |q;exact r.i1z q.symm;exact h z (by simp) q.symm
 z2:=λq=>by simp at q;rcases q with q |q;exact r.i2z q.symm;exact g z (by simp) q.symm
 to1:=λq=>by simp at q;rcases q with q |q;exact r.to1 q;exact h TO (by simp) q.symm
 to2:=λq=>by simp at q;rcases q with q |q;exact r.to2 q;exact g TO (by simp) q.symm
 i12:=λq=>by simp at q;rcases q with q |q;exact r.i12 q;exact g i1 (by simp) q.symm
 i21:=λq=>by simp at q;rcases q with q |q;exact r.i12 q.symm;exact h i2 (by simp) q.symm
 m1:=by simp
 m2:=by simp
theorem K4{P:Program}{w:al}{K:ag}{elts:List ah}{x1:Nat}{tp:ai}(f1 f2:Bool)(a b z TI TO i1 i2:Addr)(zr:yM z TI TO i1 i2):
  rW P w K (.Tuple elts x1 tp) (Fw K f1 a f2 b) [z,TI,TO,i1,i2] z (λi h=>gv h z TI TO .none/\dj h TI (.ref i1) (.ref i2)/\(∃u v,dj h TO u v)/\nQ f1 i1 a i h/\nQ f2 i2 b i h) where
 mem:=by simp
 obj:=λi h st c hc=>by
  obtain⟨e1,e2,⟨u,v,e3⟩,e4,e5⟩:=st;simp at hc;rcases hc with q |q |q |q |q
  .subst q
   exact⟨_,e1,λv z=>nomatch z⟩
  .subst q
   exact⟨_,e2,λv z=>nomatch z⟩
  .subst q
   exact⟨_,e3,λv z=>nomatch z⟩
  .subst q
   exact e4.obj
  .subst q
   exact e5.obj
 keep:=λi h h' st k=>by
  obtain⟨e1,e2,⟨u,v,e3⟩,e4,e5⟩:=st;exact⟨k z (by simp) _ e1,k TI (by simp) _ e2,⟨u,v,k TO (by simp) _ e3⟩,e4.keep λo q=>k i1 (by simp) o q,e5.keep λo q=>k i2 (by simp) o q⟩
 item:=by
  intro X hP hw hK hc i AL s σ H E I hf st hg;subst hP hw hK;obtain⟨xs,ys,x,y,hx,hy,ex,ey⟩:=hg;obtain⟨its,r1,p1,_⟩:=I.seqF hx;obtain⟨jts,r2,p2,_⟩:=I.seqF hy;obtain⟨ux,gx,rx⟩:=r1.get ex;obtain⟨uy,gy,ry⟩:=r2.get ey;obtain⟨e1,e2,⟨u,v,e3⟩,e4,e5⟩:=st;have na:∀c∈[z,TI,TO,i1,i2],a≠c:=λc hc=>I.apart (hf c hc) hx;have nb:∀c∈[z,TI,TO,i1,i2],b≠c:=λc hc=>I.apart (hf c hc) hy;have hd:X.A.in1.handled=none:=I.ok.hd hc;have D1:=xI (prog:=X.prog) (w:=X.w) f1 hd i1 a (na i1 (by simp)) its.toArray;have D2:=xI (prog:=X.prog) (w:=X.w) f2 hd i2 b (nb i2 (by simp)) jts.toArray;refine Wx D1 D2 (zr.ap na nb) e1 e2 e3 ⟨e4,p1⟩ ⟨e5,p2⟩ (ca.mp gx).1 (ca.mp gy).1 λh1 tk vx vy px py q1 q2 q3 q4 q5 k1=>⟨_,rfl,?_⟩;have ex':vx=ux:=by
   have:its[i]?=some vx:=by simpa using px
   rw[gx]at this;exact(bn this).symm
  have ey':vy=uy:=by
   have:jts[i]?=some vy:=by simpa using py
   rw[gy]at this;exact(bn this).symm
  subst ex' ey';have lt:∀c∈[z,TI,TO,i1,i2],c≠s.heap.objs.size:=λc hc=>by
   have:∃o,s.heap.get? c=some o:=by
    simp at hc;rcases hc with q |q |q |q |q
    .exact⟨_,q▸e1⟩
    .exact⟨_,q▸e2⟩
    .exact⟨_,q▸e3⟩
    .obtain⟨o,ho,_⟩:=e4.obj
     exact⟨o,q▸ho⟩
    .obtain⟨o,ho,_⟩:=e5.obj
     exact⟨o,q▸ho⟩
   obtain⟨o,ho⟩:=this;exact cv (bi ho)
  refine wpAny_letOwnedTupleGo_zip (s:={s with heap:=h1,toks:=tk}) q1 λh2 z2 sb2=>?_;have t2:h2.get? s.heap.objs.size=some {cls:=.type "tuple",data:=.seq #[vx,vy]}:=(sb2.2 _ (lt z (by simp)).symm).trans q5;have I2:aH X AL σ (aY H s.heap.objs.size (.tup [x,y])) {s with heap:=h2,toks:=tk}:=
   I.turnedNew hf (λc o hc q=>(sb2.2 c (λe=>hc (by simp[e]))).trans (k1 c o (λe=>hc (by simp[e])) (λe=>hc (by simp[e])) (λe=>hc (by simp[e])) (λe=>hc (by simp[e])) q)) (aj _)
    ⟨by show 2<=sizeLine;decide,[vx,vy],.cons rx (.cons ry .nil),⟨_,t2,rfl,_,rfl⟩⟩
  refine⟨.ref s.heap.objs.size,_,I2,rfl,⟨_,x,y,I.hok.fresh (aj _),rfl,rfl,λzs hz=>by rw[I.seqF_inj hz hx];exact ex,λzs hz=>by rw[I.seqF_inj hz hy];exact ey⟩,
   ⟨z2,(sb2.2 _ zr.tiz).trans (k1 _ _ zr.tiz zr.tito zr.ti1 zr.ti2 e2),⟨_,_,(sb2.2 _ zr.toz).trans q2⟩,q3.1.keep λo q=>(sb2.2 _ zr.i1z).trans q,q4.1.keep λo q=>(sb2.2 _ zr.i2z).trans q⟩,λc hc=>?_⟩
  rw[bS (lt c hc)];exact(hf c hc).1
 done:=by
  intro X hP hw hK hc i AL s σ H E I hf st hg;subst hP hw hK;obtain⟨xs,ys,hx,hy,fin⟩:=hg;obtain⟨its,r1,p1,_⟩:=I.seqF hx;obtain⟨jts,r2,p2,_⟩:=I.seqF hy;have l1:=r1.length;have l2:=r2.length;obtain⟨e1,e2,⟨u,v,e3⟩,e4,e5⟩:=st;have na:∀c∈[z,TI,TO,i1,i2],a≠c:=λc hc=>I.apart (hf c hc) hx;have nb:∀c∈[z,TI,TO,i1,i2],b≠c:=λc hc=>I.apart (hf c hc) hy;have hd:X.A.in1.handled=none:=I.ok.hd hc;have D1:=xI (prog:=X.prog) (w:=X.w) f1 hd i1 a (na i1 (by simp)) its.toArray;have D2:=xI (prog:=X.prog) (w:=X.w) f2 hd i2 b (nb i2 (by simp)) jts.toArray;refine Uw D1 D2 (zr.ap na nb) e1 e2 e3 ⟨e4,p1⟩ ⟨e5,p2⟩ (by rw[az,az,<-l1,<-l2];exact fin) λh' tk k=>⟨rfl,?_⟩;exact I.turnedL hf λc o hc q=>k c o (λe=>hc (by simp[e])) (λe=>hc (by simp[e])) (λe=>hc (by simp[e])) (λe=>hc (by simp[e])) q
 self:=λ_ _ _ _ _ st h=>wpAny_pyIter_zip st.1 h
section
variable{X:Cx}{elts:List ah}{x1:Nat}{tp:ai}
def aex(K:ag)(tl:TA):TI:=λσ H R=>tl σ H λvs H1=>∃f1 a f2 b xs ys,vs=[.ref a,.ref b]/\jO f1 K H1 a xs/\jO f2 K H1 b ys/\R (Fw K f1 a f2 b) H1
theorem ab0{l r:ah}{tl:TA}{p pos:ai}(hg:Gl X "zip")(hm:X.mg "zip"=none)(hl:PA X [l,r] tl)(hs:starEach [l,r] X.env=[(false,eval l X.env),(false,eval r X.env)]:=by rfl)(hs2:starEach [r] X.env=[(false,eval r X.env)]:=by rfl):
  PI X (.Tuple elts x1 tp) (.Call (.Name "zip" p) [l,r] [] pos) (aex X.K tl):=by
 intro AL s σ H R I h;refine Call_ (pV I hg hm boot_zip (oq (bH (hl pos AL s σ H _ I h) λus s1 hq=>?_) (by rw[hs,hs2]) (by rw[hs2];rfl)));rcases hq with⟨vs,H1,I1,r1,q1⟩;obtain⟨f1,a,f2,b,xs,ys,rfl,hx,hy,q⟩:=q1;obtain⟨u,v,rfl,ru,rv⟩:=Ru r1;cases ru;cases rv;obtain⟨its,_,p1,_⟩:=I1.seqF hx;obtain⟨jts,_,p2,_⟩:=I1.seqF hy;refine Mx (Av f1 a its.toArray) (Av f2 b jts.toArray) (λh g=>g.keep λo z=>ax _ z) p1 p2 (Sn _ _) (Sn _ _) λh' e1 e2 e3 e4 e5 k=>?_;refine wpAny_pyIter_zip (s:={s1 with heap:=h'}) e1 ?_;have zr:yM (s1.heap.objs.size+4) (s1.heap.objs.size+2) (s1.heap.objs.size+3) s1.heap.objs.size (s1.heap.objs.size+1):=by
  generalize s1.heap.objs.size=n;have g:∀i j:Nat,i≠j->((n:Nat)+i:Nat)≠n+j:=λi j h=>by omega
  exact⟨g 2 4 (by decide),g 3 4 (by decide),g 0 4 (by decide),g 1 4 (by decide),g 2 3 (by decide),g 2 0 (by decide),g 2 1 (by decide),g 3 0 (by decide),g 3 1 (by decide),g 0 1 (by decide)⟩
 refine⟨_,[s1.heap.objs.size+4,s1.heap.objs.size+2,s1.heap.objs.size+3,s1.heap.objs.size,s1.heap.objs.size+1],_,_,H1,rfl,I1.kept (t':=s1.toks) k,K4 f1 f2 a b _ _ _ _ _ zr,⟨e1,e2,⟨_,_,e3⟩,Ll f1 a _ e4,Ll f2 b _ e5⟩,λc hc=>?_,q⟩;have hb:s1.heap.objs.size<=c:=by
  simp only[cq,fz,or_false]at hc;rcases hc with q |q |q |q |q
  all_goals rw[q]
  all_goals first |exact aj _ |exact Nat.le_add_right _ _
 exact I1.fpOk hb (I1.hok.fresh hb)
end
theorem abI(K:ag):mj K (.type "int") (.type "bool")=some false:=by
 unfold mj PySem.W.kitCls;rw[if_neg (by decide)];show(if PySem.W.kitMeta "bool"=true then PySem.W.subIn K (.type "int") (.type "bool")else none)=some false;rw[if_pos (by decide+kernel)];show(fastBuiltinMro "int").map (·.contains (.type "bool"))=some false;decide+kernel
structure oS(K:ag)(x qual:Str)(st:Stmt)(f:Addr)(fd:cc)(ds:Array Value):Prop where
 ex:∃(oc:Value)(od:AF)(T:Addr)(oT:Obj)(n:Nat)(kV doc pm:Value)(an:AF)(cdv ct:Value)(osl:Array AE),
  fd=dn x qual (iE st) (eV st) (cX st) (.ref T) kV doc pm an cdv ct/\K.lookup f=some ⟨oc,od,.func fd,osl⟩/\jx K cdv qual=true/\K.lookup T=some oT/\oT.data=.seq ds n
 kp:fk K (.ref f)=true
section
variable{P:Program}{w:al}{K:ag}{mg:Str->AE}{base:Heap}
theorem oS.binds{x qual:Str}{st:Stmt}{f:Addr}{fd:cc}{ds:Array Value}{ps:List Str}{dd:AD}(F:oS K x qual st f fd ds)
  (h:∀(T:Addr)(kV doc pm:Value)(an:AF)(cdv ct:Value)(us:AD),(us++dd).length=ps.length->
   ∃k,bindArgs (dn x qual (iE st) (eV st) (cX st) (.ref T) kV doc pm an cdv ct) ⟨us,[]⟩=seqItems? (.ref T) >>= k/\k (some ds)=pure (ps.zip (us++dd))):jJ K fd ps dd:=by
 obtain⟨oc,od,T,oT,n,kV,doc,pm,an,cdv,ct,osl,rfl,lk,hcd,lT,hT⟩:=F.ex;intro s us hK hl;obtain⟨k,h1,h2⟩:=h T kV doc pm an cdv ct us hl;exact PySem.W.binds_K hK rfl lT hT h1 h2
theorem aaE{x qual:Str}{st:Stmt}{f T:Addr}{oT:Obj}{n:Nat}{ds:Array Value}{oc:Value}{od an:AF}{osl:Array AE}{kV doc pm cdv ct:Value}(l:K.lookup f=some ⟨oc,od,.func (dn x qual (iE st) (eV st) (cX st) (.ref T) kV doc pm an cdv ct),osl⟩)
  (c:jx K cdv qual=true)(k:fk K (.ref f)=true)(lT:K.lookup T=some oT)(hT:oT.data=.seq ds n):oS K x qual st f (dn x qual (iE st) (eV st) (cX st) (.ref T) kV doc pm an cdv ct) ds:=
 ⟨⟨oc,od,T,oT,n,kV,doc,pm,an,cdv,ct,osl,rfl,l,c,lT,hT⟩,k⟩
end
theorem Ps{X:Cx}{sc:Scope}{own:List Str}{cap:List (Nat×Str)}(so:Scope)(N:List Str)(hso:X.env.scope=so)(hN:X.N=N)(kind:sc.kind=.function)(names:∀y∈sc.names,y.2=.local->sc.names.lookup y.1=some .local)
  (nocell:∀y∈sc.names,y.2≠.cell)(free:∀y∈sc.names,y.2=.free->so.names.lookup y.1=some .cell)(at':∀p∈cap,N[p.1]?=some p.2)(hcap:∀p∈cap,sc.names.lookup p.2=some .free):gY X sc own cap:=
 ⟨kind,names,nocell,λy hy e=>by show X.env.scope.names.lookup y.1=_;rw[hso];exact free y hy e,λp hp=>by rw[hN];exact at' p hp,hcap⟩
theorem Jc(n d:Nat):HT.sIx (n+1) d (some (-1))=n:=by
 unfold HT.sIx;simp;omega
section
variable{X:Cx}
end
theorem fV.has{P:Program}{w:al}{H:Hp}{h:Heap}{a:Addr}{o:HO}(x:fV P w H h a o):∃u,h.get? a=some u:=by
 cases o with
 |lst xs=>obtain⟨_,_,_,_,e⟩:=x;exact⟨_,e⟩
 |tup xs=>obtain⟨_,_,_,u,e,_⟩:=x;exact⟨u,e⟩
 |dK kvs=>obtain⟨_,_,_,_,o,_,_,e,_⟩:=x;exact⟨_,e⟩
 |dT kvs=>obtain⟨_,_,_,_,o,_,_,e,_⟩:=x;exact⟨_,e⟩
 |set S n=>obtain⟨o,_,_,_,e,_⟩:=x;exact⟨_,e⟩
 |ins C dx fs=>obtain⟨_,_,_,e,_⟩:=x;exact⟨_,e⟩
 |own y=>exact x
 |xd fs=>obtain⟨_,⟨_,_,_,e,_⟩,_⟩:=x;exact⟨_,e⟩
 |rng lo hi=>obtain⟨_,_,_,e⟩:=x;exact⟨_,e⟩
 |frz ob u=>obtain⟨e,_⟩:=x;exact⟨_,e⟩
 |tbl ps=>exact⟨_,show h.get? a=some _ from x⟩
 |met f y=>exact⟨_,show h.get? a=some _ from x⟩
 |ext φ=>exact x.2.1
abbrev nA:AD:=[.type "ValueError",.type "Exception",.type "BaseException",.type "object"]
theorem aa0{K:ag}{h:Heap}{C:Addr}{bmB:AD}{newId:String}(X:K.In h)(q:jk K C bmB newId=true):
  ∃bm N nm qn bs hdct sn sub ab col dd k0 k1 k2 k3 k5 mN,h.get? C=some (excClassObj nm qn C N bs bm hdct sn sub ab col dd k0 k1 k2 k3 k5 newId)/\h.Ns N mN/\mN "__init__"=none/\OwnTail h bmB bm:=by
 unfold jk at q;split at q
 .rename_i dd cd sl ho
  split at q
  .rename_i C' bm k0 k1 k2 k3 n k5 hm hs
   simp only[jd,beq_iff_eq,c8]at q;obtain⟨⟨⟨⟨⟨z1,z2⟩,hdel⟩,ht⟩,hok⟩,hni⟩:=q;subst z1 z2;obtain⟨nm,bs,mro,ns,qn,hd,sn,sub,ab,col,del⟩:=cd;dsimp only at hm hdel hok hni;subst hm hdel;have hsl:sl=#[k0,k1,k2,k3,some (.builtin n),k5]:=by
    obtain⟨l⟩:=sl;simp only at hs;rw[hs]
   subst hsl;refine⟨bm,ns,nm,qn,bs,hd,sn,sub,ab,col,dd,k0,k1,k2,k3,k5,_,X _ _ ho,.of_isNs (PySem.W.isNs_of_in X hok),PySem.W.nsMap_none_of_in X hok hni,PySem.W.tail_of_in X ht⟩
  .cases q
 .cases q
def dW(P:Program)(w:al):jP:=λouter H s E e s'=>∃(x C t:Addr)(B:Heap)(H':Hp),e=.ref x/\s'.os=s.os/\jh s'.gens/\Un (dS outer) [] H H' s.heap s'.heap/\fJ P w H' s'.heap/\
 Heap.FlyingW B outer x (.ref C) (.ref t) s'.heap/\(∀b o,s'.heap.get? b=some o->(∃u,H' b=some u)\/(∃o',s.heap.get? b=some o'/\b∉dS outer)->B.get? b=some o)/\E (.ref C) none H'
theorem X9{P:Program}{w:al}{K:ag}{mg:Str->AE}{base:Heap}{N:List Str}{qual:Str}{scope:Scope}{f:Addr}{cd:Value}{A:ao}{outer:List bf}{AM:aa}{AN:Hp}{E:XK}
  {x:Str}{C:Addr}{txt:Str}{j:Nat}{np p1 cpos pos:ai}(hg:Gl (dC (dW P w) P w K mg base N qual scope f cd A outer AM AN E) x)(hm:mg x=some (.ref C))(hx:jk K C nA "ValueError.__new__"=true)
  (hd:(x==("__debug__":Str))=false:=by decide):
  PS (dC (dW P w) P w K mg base N qual scope f cd A outer AM AN E) (.Raise (some (.Call (.Name x np) [.Constant (.str txt) j p1] [] cpos)) none pos) (λ_ _ H=>E (.ref C) none H):=by
 intro AL s σ H D I h;obtain⟨bm,Nn,nm,qn,bs,hdct,sn,sub,ab,col,dd,k0,k1,k2,k3,k5,mN,hC,hN,hni,T⟩:=aa0 I.ok.mod.kin hx;refine wpAny_Raise_call_subT (C:=C) (nm:=nm) (q:=qn) (N:=Nn) (bs:=bs) (bm:=bm) (hdct:=hdct) (sn:=sn) (sub:=sub) (ab:=ab) (col:=col) (dd:=dd) (k0:=k0) (k1:=k1) (k2:=k2) (k3:=k3) (k5:=k5)
  PySem.F.excBase_ValueError (mN:=mN) (T.hasType (by decide)) (I.ok.hd rfl) rfl hni (Od I hg hm ⟨rfl,?_⟩ hd)
 refine vz (bH ((pN acX rH) cpos AL s σ H (λvs H1=>vs=[.str txt]/\H1=H) I ⟨rfl,rfl⟩) λus s2 q2=>?_);obtain⟨vs,H2,I2,r2,rfl,rfl⟩:=q2;have l2:=r2.length;refine⟨rfl,by rw[<-l2];show 1<=sizeLine;decide,I2.bk _ _ hC,hN.keeps I2.bk,T.keeps I2.bk,λh' e made=>?_⟩
 --the frame is left
 have stk:(dC (dW P w) P w K mg base N qual scope f cd A outer AM AN E).stack=envOfC qual scope AM.heap.objs.size f cd::outer:=rfl;have nfr:∀{b u},H2 b=some u->b∉dS (envOfC qual scope AM.heap.objs.size f cd::outer):=λ{b u} q z=>by
  rw[I2.stkFree b z]at q;cases q
 have nL:∀{b o},AM.heap.get? b=some o->b∉dS outer->b∉dS (envOfC qual scope AM.heap.objs.size f cd::outer):=λ{b o} q z y=>by
  rcases cq.mp (I2.stkSub b y)with g |g
  .exact absurd (cy (bi q) I2.ok.above) (by rw[g];exact iw _)
  .exact z g
 refine wpAny_leaves_madeW (base:=uo s2.heap (dS (envOfC qual scope AM.heap.objs.size f cd::outer))) (h:=s2.heap) (s:={s2 with heap:=h'}) I2.ok.frames rfl (λb o q=>yp _ q)
  (PySem.W.funFrames_hide I2.stack λenv he b hb=>va.mpr ⟨env,he,hb⟩) made λh'' t fl tup nb ups=>?_
 have keepB:∀b o,s2.heap.get? b=some o->b∉dS (envOfC qual scope AM.heap.objs.size f cd::outer)->h''.get? b=some o:=λb o q z=>fl.1 b o (uq _ q z);have upS:∀b o,s2.heap.get? b=some o->(∀vs,o.data≠.fields vs)->∃sl,h''.get? b=some {o with slots:=sl}:=λb o q z=>ups b o (made.keeps b o q) z;refine⟨e,C,t,_,H2,rfl,I2.os,I2.bare,⟨λb o q n hb _=>?_,λb o q n hb _=>?_,λb o q n _=>I2.base.free b o q n (by intro z;cases z),λb o q _=>?_,I2.base.tups,I2.base.frzs,I2.base.tbls⟩,λb u q=>?_,fl,λb o q z=>?_,h⟩
 .exact keepB b o (I2.base.keep b o q n hb (by intro z;cases z)) (nL q hb)
 .obtain⟨sl,g⟩:=I2.base.slot b o q n hb (by intro z;cases z)
  obtain⟨_,o',ho',hd'⟩:=I2.ok.funs.mem hb;have eo:o'=o:=by
   have ho2:AM.heap.get? b=some o':=ho';rw[q]at ho2;exact(bn ho2).symm
  subst eo;obtain⟨sl',g'⟩:=upS b _ g hd';exact⟨sl',g'⟩
 .obtain⟨o',g⟩:=I2.base.there b o q (by intro z;cases z)
  by_cases c:b∈dS (envOfC qual scope AM.heap.objs.size f cd::outer)
  .obtain⟨_,o2,ho2,hd2⟩:=I2.stack.mem c
   obtain⟨sl,g'⟩:=upS b o2 ho2 hd2;exact⟨_,g'⟩
  .exact⟨o',keepB b o' g c⟩
 .refine(I2.hok b u q).stay (λc v hc g=>keepB c v g ?_) (λ_ g=>g) λ_ _ g=>g
  rcases hc with z |z
  .rw[z]
   exact nfr q
  .exact nfr z
 .have go:∀{o2},s2.heap.get? b=some o2->b∉dS (envOfC qual scope AM.heap.objs.size f cd::outer)->(uo s2.heap (dS (envOfC qual scope AM.heap.objs.size f cd::outer))).get? b=some o:=λ{o2} g n=>by
   have:=keepB b o2 g n;have q':h''.get? b=some o:=q;rw[q']at this;cases this;exact uq _ g n
  rcases z with⟨u,z⟩|⟨o',z,nz⟩
  .obtain⟨o2,g⟩:=(I2.hok b u z).has
   exact go g (nfr z)
  .obtain⟨o2,g⟩:=I2.base.there b o' z (by intro z;cases z)
   exact go g (nL z nz)
section
variable{X:Cx}{AL:List (Addr×Obj)}{σ:St}{H H':Hp}{s s':aa}
theorem aH.flown{B h5:Heap}(I:aH X AL σ H s)(os:s'.os=s.os)(bare:jh s'.gens)(un:Un (dS X.stack) [] H H' s.heap s'.heap)(hok:fJ X.prog X.w H' s'.heap)
  (cov:∀b o,s'.heap.get? b=some o->(∃u,H' b=some u)\/(∃o',s.heap.get? b=some o'/\b∉dS X.stack)->B.get? b=some o)(fr:∀b∈dS X.stack,H' b=none)
  (st:B.StaysIn h5)(up:s'.heap.UpToSlots h5):aH X AL σ H' {s' with heap:=h5}:=by
 have nofr:∀{b u},H' b=some u->b∉dS X.stack:=λ{b u} q z=>by
  rw[fr b z]at q;cases q
 have frame:∀b∈dS X.stack,∃o sl,s.heap.get? b=some o/\H b=none/\h5.get? b=some {o with slots:=sl}:=λb hb=>by
  obtain⟨_,o,ho,hd⟩:=I.stack.mem hb;have hn:=I.stkFree b hb;obtain⟨sl,g⟩:=un.slot b o ho hn hb (by intro z;cases z);obtain⟨sl',g'⟩:=up b _ g hd;exact⟨o,sl',ho,hn,g'⟩
 refine I.call' (s':={s' with heap:=h5}) (ch:=[]) os ⟨λb o q n hb _=>?_,λb o q n hb _=>?_,un.free,λb o q _=>?_,un.tups,un.frzs,un.tbls⟩ (λb u q=>?_) bare λb z=>nomatch z
 .exact st b o (cov b o (un.keep b o q n hb (by intro z;cases z)) (.inr ⟨o,q,hb⟩))
 .obtain⟨o',sl,g1,_,g2⟩:=frame b hb
  rw[q]at g1;cases g1;exact⟨sl,g2⟩
 .by_cases c:b∈dS X.stack
  .obtain⟨o',sl,_,_,g2⟩:=frame b c
   exact⟨_,g2⟩
  .obtain⟨o',g⟩:=un.there b o q (by intro z;cases z)
   exact⟨o',st b o' (cov b o' g (.inr ⟨o,q,c⟩))⟩
 .refine(hok b u q).stay (λc v hc g=>st c v (cov c v g (.inl ?_))) (λ_ g=>g) λ_ _ g=>g
  rcases hc with z |z
  .exact⟨u,by rw[z];exact q⟩
  .exact⟨_,z⟩
end
section
variable{X:Cx}{k:Nat}{f:Addr}{fd:cc}{ps:List Str}{sp:Sp}{dvs:List V}{ds:AD}{E:XK}{x:Str}{p pos:ai}{e:ah}{es:List ah}{t:TA}
end
section
variable{P:Program}{w:al}{K:ag}{mg:Str->AE}{base:Heap}{CX:jP}
theorem jD.okX{x qual:Str}{st:Stmt}{f:Addr}{fd:cc}{N ps:List Str}{k:Nat}{sp:Sp}(F:jD K x qual st f fd)(S:iU N ps (cX st))(len:∀vs H Q E,sp vs H Q E->vs.length=ps.length)
  (hbody:∀(cdv:Value)(A:ao)(outer:List bf)(s:aa)(H:Hp)(vs:List V)(Q:VK)(E:XK),dN k (A.deeper (envOfC qual (cX st) s.heap.objs.size f cdv))->sp vs H Q E->
   ∃t,gK (dC CX P w K mg base N qual (cX st) f cdv A outer s H E) (eV st) t/\t {nx:=λ_ H'=>Q .non H',rt:=Q} (start N vs) H):eR P w K mg base CX (k+1) f fd ps sp:=by
 obtain⟨oc,od,kV,doc,pm,an,cdv,ct,osl,rfl,lk,hcd⟩:=F.ex;exact Nf lk hcd S len λA outer s H vs Q E hr hsp=>hbody cdv A outer s H vs Q E hr hsp
theorem oS.okX{x qual:Str}{st:Stmt}{f:Addr}{fd:cc}{ds:Array Value}{N ps:List Str}{k:Nat}{sp:Sp}(F:oS K x qual st f fd ds)(S:iU N ps (cX st))(len:∀vs H Q E,sp vs H Q E->vs.length=ps.length)
  (hbody:∀(cdv:Value)(A:ao)(outer:List bf)(s:aa)(H:Hp)(vs:List V)(Q:VK)(E:XK),dN k (A.deeper (envOfC qual (cX st) s.heap.objs.size f cdv))->sp vs H Q E->
   ∃t,gK (dC CX P w K mg base N qual (cX st) f cdv A outer s H E) (eV st) t/\t {nx:=λ_ H'=>Q .non H',rt:=Q} (start N vs) H):eR P w K mg base CX (k+1) f fd ps sp:=by
 obtain⟨oc,od,T,oT,n,kV,doc,pm,an,cdv,ct,osl,rfl,lk,hcd,_,_⟩:=F.ex;exact Nf lk hcd S len λA outer s H vs Q E hr hsp=>hbody cdv A outer s H vs Q E hr hsp
end
theorem aec{P:Program}{w:al}{K:ag}{mg:Str->AE}{base:Heap}{N:List Str}{qual:Str}{scope:Scope}{f:Addr}{cd:Value}{A:ao}{outer:List bf}{AM:aa}{AN:Hp}{E:XK}:
  xF (dW P w) (dC (dW P w) P w K mg base N qual scope f cd A outer AM AN E) E:=by
 intro AL σ H s e s' I c;obtain⟨x,C,t,B,H',rfl,os,bare,un,hok,fl,cov,hE⟩:=c;have fr:∀b∈dS (dC (dW P w) P w K mg base N qual scope f cd A outer AM AN E).stack,H' b=none:=λb hb=>by
  obtain⟨_,o,ho,hd⟩:=I.stack.mem hb;exact un.free b o ho (I.stkFree b hb) (by intro z;cases z)
 have nL:∀{b o},AM.heap.get? b=some o->b∉dS outer->b∉dS (envOfC qual scope AM.heap.objs.size f cd::outer):=λ{b o} q z y=>by
  rcases cq.mp (I.stkSub b y)with g |g
  .exact absurd (cy (bi q) I.ok.above) (by rw[g];exact iw _)
  .exact z g
 refine wpAny_leaves_onW (base:=B) I.ok.frames rfl fl λh' fl' up=>?_;have I5:=I.flown os bare un hok cov fr fl'.1 up;refine⟨x,C,t,B,H',rfl,os.trans I.os,bare,I5.base,I5.hok,fl',λb o q z=>?_,hE⟩;have go:∀{o2},B.get? b=some o2->B.get? b=some o:=λ{o2} g=>by
  have:=fl'.1 b o2 g;have q':h'.get? b=some o:=q;rw[q']at this;cases this;exact g
 rcases z with⟨u,z⟩|⟨o',z,nz⟩
 .obtain⟨o2,g⟩:=(hok b u z).has
  exact go (cov b o2 g (.inl ⟨u,z⟩))
 .obtain⟨o2,g⟩:=I.base.there b o' z (by intro z;cases z)
  obtain⟨o3,g3⟩:=un.there b o2 g (by intro z;cases z);exact go (cov b o3 g3 (.inr ⟨o2,g,nL z nz⟩))
section
variable{X:Cx}{AL:List (Addr×Obj)}{σ:St}{H:Hp}{s:aa}
end
section
variable{X:Cx}{AL:List (Addr×Obj)}{σ:St}{H:Hp}{s:aa}
end
section
variable{X:Cx}{k:Nat}{f:Addr}{fd:cc}{ps:List Str}{sp:Sp}{dvs:List V}{ds:AD}{x:Str}{p pos pos1 pos2 pos3 pc:ai}{e:ah}{es:List ah}{t:TA}{c n:Str}{C:Addr}{i:Nat}{AR:Stmt}{body:List Stmt}{newId:String}
end
open PySem.W PySem.Calls PySem.Builtin PySem.Builtin.Getset_descriptor
section
variable{prog:Program}{w:al}{A:ao}{E:Value->aa->Prop}{s:aa}{K:ag}{x D:Addr}{B:String}{R:ou->aa->Prop}
end
section
variable{X:Cx}{y D:Addr}{oe:Obj}
end
def iB(h:Heap)(l:AA)(a:Addr):Prop:=∃o its n,h.get? a=some o/\o.cls=.type "tuple"/\o.data=.seq its n/\bI (l.map V.int) its.toList
def jN(h:Heap)(ks:AB)(a:Addr):Prop:=∃o its n,h.get? a=some o/\o.cls=.type "tuple"/\o.data=.seq its n/\iu (λk v=>∃b,v=dg b/\iB h k b) ks its.toList
def hF(l:AA):Int:=reduceHash (xb (l.map hashInt))
def hN(l:AB):Int:=reduceHash (xb (l.map hF))
abbrev iK(prog:Program)(w:al):KeyKind prog w Int:=intKind prog w
theorem Tn:∀{l m:AA}{us:AD},bI (l.map V.int) us->bI (m.map V.int) us->l=m
 |[],[],_,_,_=>rfl
 |[],_::_,_,.nil,h=>nomatch h
 |_::_,[],_,.cons _ _,h=>nomatch h
 |i::l,j::m,_,.cons r t,.cons r' t'=>by
  obtain⟨x,e⟩:=r;obtain⟨y,e'⟩:=r';rw[e]at e';injection e' with e1;rw[e1,Tn t t']
section
variable{prog:Program}{w:al}{A:ao}{E:Value->aa->Prop}{s:aa}{h h':Heap}{a b d:Addr}
theorem iB.inj{x y:AA}(hx:iB h x a)(hy:iB h y a):x=y:=by
 obtain⟨o,its,n,e,_,f,r⟩:=hx;obtain⟨o',its',n',e',_,f',r'⟩:=hy;cases bn (e.symm.trans e');cases f.symm.trans f';exact Tn r r'
theorem jN.inj{x y:AB}(hx:jN h x a)(hy:jN h y a):x=y:=by
 obtain⟨o,its,n,e,_,f,r⟩:=hx;obtain⟨o',its',n',e',_,f',r'⟩:=hy;cases bn (e.symm.trans e');cases f.symm.trans f'
 revert r r'
 generalize its.toList=us;intro r
 induction r generalizing y with
 |nil=>intro r';cases r';rfl
 |cons p _ ih=>
  intro r';cases r' with
  |cons p' t'=>
   obtain⟨b,rfl,g⟩:=p;obtain⟨b',eb,g'⟩:=p';cases eb;rw[g.inj g',ih t']
theorem Cs{o o':Obj}{its:Array Value}{n:Nat}{es ep}(e:h.get? a=some o)(f:o.data=.seq its n)(e':h.get? d=some o')(f':o'.data=.dict es ep):a≠d:=λz=>by
 rw[z,e']at e;cases e;rw[f]at f';cases f'
theorem iB.keep{l:AA}{o':Obj}{es ep}(x:iB h l a)(e':h.get? d=some o')(f':o'.data=.dict es ep)(sb:ia d h h'):iB h' l a:=by
 obtain⟨o,its,n,e,c,f,r⟩:=x;exact⟨o,its,n,(sb.2 a (Cs e f e' f')).trans e,c,f,r⟩
theorem jN.keep{l:AB}{o':Obj}{es ep}(x:jN h l a)(e':h.get? d=some o')(f':o'.data=.dict es ep)(sb:ia d h h'):jN h' l a:=by
 obtain⟨o,its,n,e,c,f,r⟩:=x;exact⟨o,its,n,(sb.2 a (Cs e f e' f')).trans e,c,f,Paired.mapP r λ_ _ ⟨b,eb,g⟩=>⟨b,eb,g.keep e' f' sb⟩⟩
theorem Ka:∀{l:AA}{us:AD},bI (l.map V.int) us->ItemsAre (iK prog w) l us
 |[],_,.nil=>.nil
 |i::l,_,.cons r t=>by
  obtain⟨t',rfl⟩:=r;exact .cons (by simp[iK,intKind,Value.isInt]) (Ka t)
theorem iB.key{l:AA}(x:iB h l a):IsTupleKey (iK prog w) h l a:=by
 obtain⟨o,its,n,e,c,f,r⟩:=x;exact⟨o,its,n,e,c,f,Ka r⟩
theorem I0{α:Type}[DecidableEq α](z:α)(l m:List α):((cj (min l.length m.length)).all (λj=>decide (l.getD j z=m.getD j z))&&l.length==m.length)=decide (l=m):=by
 rw[re,jd,ka,decide_eq_true_iff];constructor
 .rintro⟨h1,h2⟩
  have hl:l.length=m.length:=by simpa using h2
  refine se hl λi g1 g2=>?_;have:=h1 i (by simp;omega);simpa[cg,g1,g2]using this
 .rintro rfl
  exact⟨λi _=>by simp,by simp⟩
theorem vU{α β:Type}{R:α->β->Prop}:∀{l:List α}{m:List β},iu R l m->l.length=m.length/\∀(j:Nat)(x:α)(y:β),l[j]?=some x->m[j]?=some y->R x y
 |_,_,.nil=>⟨rfl,λj x y h=>by simp at h⟩
 |_,_,.cons r t=>by
  obtain⟨e,g⟩:=vU t;refine⟨by rw[cr,cr,e],λj x y h1 h2=>?_⟩;cases j with
  |zero=>
   simp at h1 h2;rw[<-h1,<-h2];exact r
  |succ j=>exact g j x y (by simpa using h1) (by simpa using h2)
theorem So{α:Type}[DecidableEq α](z:α){R:α->Value->Prop}{x y:List α}{o o':Obj}{us vs:Array Value}{n n':Nat}(hu:A.units<cLine)(ha:s.heap.get? a=some o)(hc:o.cls=.type "tuple")(hd:o.data=.seq us n)(hb:s.heap.get? b=some o')(hc':o'.cls=.type "tuple")(hd':o'.data=.seq vs n')
  (rx:iu R x us.toList)(ry:iu R y vs.toList)(same:a=b->x=y)(eq:∀k l u v,R k u->R l v->jq A.in1 s u v (decide (k=l))):jq A s (.ref a) (.ref b) (decide (x=y)):=by
 by_cases ab:a=b
 .rw[decide_eq_true (same ab),ab]
  exact sf _
 .obtain⟨m1,g1⟩:=vU rx
  obtain⟨m2,g2⟩:=vU ry;have l1:x.length=us.size:=by simpa using m1
  have l2:y.length=vs.size:=by simpa using m2
  have:=xc (A:=A) (s:=s) (l:=a) (b:=b) (items:=us) (items2:=vs) (e:=λj=>decide (x.getD j z=y.getD j z)) ⟨o,ha,hc,n,hd⟩ ⟨o',hb,hc',n',hd'⟩ hu λj h1 h2=>by
   have i1:j<x.length:=by omega
   have i2:j<y.length:=by omega
   have e1:x.getD j z=x[j]:=by simp[cg,i1]
   have e2:y.getD j z=y[j]:=by simp[cg,i2]
   rw[e1,e2];exact eq _ _ _ _ (g1 j _ _ (ay i1) (by simp[h1])) (g2 j _ _ (ay i2) (by simp[h2]))
  rw[<-l1,<-l2,I0]at this;exact xf ab this
theorem Hb:∀{l:AA}{us:AD},bI (l.map V.int) us->iu (λ(i:Int) v=>∃t,v=oi i t) l us
 |[],_,.nil=>.nil
 |_::_,_,.cons r t=>.cons r (Hb t)
theorem iB.eq{x y:AA}(hu:A.units<cLine)(hx:iB s.heap x a)(hy:iB s.heap y b):jq A s (.ref a) (.ref b) (decide (x=y)):=by
 have inj:a=b->x=y:=λz=>by subst z;exact hx.inj hy
 obtain⟨o,us,n,e,c,f,r⟩:=hx;obtain⟨o',vs,n',e',c',f',r'⟩:=hy;refine So 0 hu e c f e' c' f' (Hb r) (Hb r') inj ?_
 rintro k l u v ⟨t,eu⟩ ⟨t',ev⟩
 subst eu ev;have:=c9 (A:=A.in1) (s:=s) k t l t';have e:(k==l)=decide (k=l):=by by_cases q:k=l<;>simp[q]
 rwa[e]at this
theorem jN.eq{x y:AB}(hu:A.units+1<cLine)(hx:jN s.heap x a)(hy:jN s.heap y b):jq A s (.ref a) (.ref b) (decide (x=y)):=by
 have inj:a=b->x=y:=λz=>by subst z;exact hx.inj hy
 obtain⟨o,us,n,e,c,f,r⟩:=hx;obtain⟨o',vs,n',e',c',f',r'⟩:=hy;refine So [] (xh hu) e c f e' c' f' r r' inj ?_
 rintro k l u v ⟨p,eu,g⟩ ⟨q,ev,g'⟩
 subst eu ev;exact g.eq hu g'
theorem Bk{Q:Array Int->aa->Prop}(hu:A.units<cLine):∀(ks:AB)(vs:AD)(t:Nat)(acc:Array Int),iu (λk v=>∃b,v=dg b/\iB s.heap k b) ks vs->
  (∀acc':Array Int,acc'.toList=acc.toList++ks.map hF->Q acc' {s with toks:=t+(ks.map λk=>k.length+1).sum})->
  wpAny (model prog w) A (forIn vs acc λx r=>do let h <-pyHash x;pure PUnit.unit;pure (wp (r.push h))) Q E {s with toks:=t}
 |[],_,t,acc,.nil,q=>ak (by simpa using q acc (by simp))
 |k::ks,_,t,acc,.cons ⟨b,eb,g⟩ r,q=>by
  subst eb;rw[qy];refine ae (ae (wpAny_pyHash_tuple (knd:=iK prog w) (s:={s with toks:=t}) hu g.key ?_));refine ae (ak (ak ?_));refine Bk hu ks _ (t+(k.length+1)) _ r λacc' e=>?_;have:=q acc' (by rw[e];simp[hF,tupleKeyHash,iK,intKind]);rw[aq,xi]at this;simpa[xj]using this
theorem jN.hash{ks:AB}{Q:Int->aa->Prop}(hu:A.units+1<cLine)(hk:jN s.heap ks a)(q:Q (hN ks) {s with toks:=s.toks+((ks.map λk=>k.length+1).sum+1)}):wpAny (model prog w) A (pyHash (.ref a)) Q E s:=by
 obtain⟨o,its,n,e,c,f,r⟩:=hk;refine PySem.W.pyHash_slot (T:="tuple") ⟨o,e,c⟩ F.slot_tuple_hash F.entry_tuple_hash (F.args_tuple_hash_1 _) (beq_builtin_none _) (.inr (xh hu)) ?_;show wpAny _ _ (zf (.ref a) >>= _) _ _ s;refine ae (wpAny_tupleItemsOf e f (ae ?_));rw[<-d7];refine Bk hu ks its.toList s.toks #[] r λacc ea=>?_;show wpAny _ _ (retInt (xb acc.toList)) _ _ _;rw[ea];exact ae (wpAny_mkInt (ak ⟨_,_,rfl,by simpa[hN,xj]using q⟩))
theorem Aj{n:Nat}{P:Value->Prop}(hP:∀v(Q:Bool->aa->Prop),P v->Q true s->wpAny (model prog w) A (eqIsQuiet n v) Q E s){o:Obj}{its:Array Value}{m:Nat}{Q:Bool->aa->Prop}(e:s.heap.get? a=some o)(c:o.cls=.type "tuple")(f:o.data=.seq its m)(r:∀v∈its.toList,P v)(q:Q true s):
  wpAny (model prog w) A (eqIsQuiet (n+1) (.ref a)) Q E s:=by
 have hT:s.TypeIs (.ref a) "tuple":=⟨o,e,c⟩;unfold eqIsQuiet;refine ae (wpAny_specialOf hT F.slot_tuple_eq.lookup (ae (xa hT isSubtype_tuple_tuple ?_)));rw[if_neg (by simp)];refine ae (kb e f (ae ?_));show wpAny _ _ (forIn its _ _) _ _ s;rw[<-d7];refine wpAny_forIn_list _ (λgB z s'=>s'=s/\z.1=none/\∀v∈gB,P v) _ ?_ ?_ _ _ ⟨rfl,rfl,r⟩
 .rintro v gB z s' ⟨rfl,hz,hr⟩
  refine ae (hP v _ (hr v bh) ?_);rw[if_neg (by simp)];exact ak ⟨rfl,rfl,λu hu=>hr u (bj _ hu)⟩
 .rintro⟨z1,z2⟩ s' ⟨rfl,hz,_⟩
  cases hz;exact ak q
theorem iB.quiet{n:Nat}{l:AA}{Q:Bool->aa->Prop}(hk:iB s.heap l a)(q:Q true s):wpAny (model prog w) A (eqIsQuiet (n+1) (.ref a)) Q E s:=by
 obtain⟨o,its,m,e,c,f,r⟩:=hk;refine Aj (P:=λv=>carriedByValue v=true) (λv Q' hv q'=>?_) e c f (Ka (prog:=prog) (w:=w) r).byValue q;rw[eqIsQuiet_byValue _ hv];exact ak q'
theorem jN.quiet{ks:AB}{Q:Bool->aa->Prop}(hk:jN s.heap ks a)(q:Q true s):wpAny (model prog w) A (eqIsQuiet 8 (.ref a)) Q E s:=by
 obtain⟨o,its,m,e,c,f,r⟩:=hk;refine Aj (P:=λv=>∃k b,v=.ref b/\iB s.heap k b) (λv Q' ⟨k,b,ev,g⟩ q'=>by subst ev;exact g.quiet (n:=6) q') e c f (λv hv=>?_) q;obtain⟨l1,g⟩:=vU r;obtain⟨i,hi,ev⟩:=rf.mp hv;have i1:i<ks.length:=by rw[l1];exact hi
 obtain⟨b,eb,gb⟩:=g i _ v (ay i1) (by rw[ay hi,ev]);exact⟨_,b,eb,gb⟩
end
def J4(prog:Program)(w:al):HeapKind prog w AB where
 is:=jN
 hash:=hN
 draws:=λks=>(ks.map λk=>k.length+1).sum+1
 room:=λA=>A.units+1<cLine
 inj:=λhx hy=>hx.inj hy
 keeps:=λx ho hd hs=>x.keep ho hd hs
 pyHash:=λhu hk h=>hk.hash hu h
 eqBool:=λhu hx hy h=>hx.eq hu hy _ _ _ _ h
 quiet:=λhk h=>hk.quiet h
def gH:Bool->Type
 |false=>AA
 |true=>AB
instance decK:(n:Bool)->DecidableEq (gH n)
 |false=>inferInstanceAs (DecidableEq AA)
 |true=>inferInstanceAs (DecidableEq AB)
def Au:(n:Bool)->gH n->Int
 |false=>hF
 |true=>hN
def mF(prog:Program)(w:al):(n:Bool)->HeapKind prog w (gH n)
 |false=>tupleKind (iK prog w)
 |true=>J4 prog w
theorem Tj{prog:Program}{w:al}:∀(n:Bool)(k:gH n),(mF prog w n).hash k=Au n k
 |false,_=>rfl
 |true,_=>rfl
theorem Na{prog:Program}{w:al}{A:ao}(hu:A.units+2<cLine):∀n:Bool,(mF prog w n).room A.in1
 |false=>xh hu
 |true=>hu
end L2
namespace L2.Pp
open PySem PySem.Spec PyProof.Rows Bn
section
inductive PV where
 |non |bl (b:Bool) |int (i:Int) |str (x:Str) |tup (xs:List PV) |lst (xs:List PV)
abbrev AH:=List PV
abbrev AI:=Option PV
inductive SO where
 |lst (xs:AH)
 |lol (xss:List AH)
 |dic (n:Bool) (kvs:List (PV×PV))
 |dol (n:Bool) (kvs:List (PV×AH))
abbrev aG:=List SO
inductive AV where
 |pv (v:PV) |ref (k:Nat)
abbrev AJ:=Option AV
abbrev AK:=List AV
abbrev bV:=List AJ
inductive bQ(α:Type) where
 |ok (a:α) (S:aG) |exc (n:Str) (S:aG) |fail
def bQ.bind{α β:Type}(r:bQ α)(k:α->aG->bQ β):bQ β:=match r with
 |.ok a S=>k a S
 |.exc n S=>.exc n S
 |.fail=>.fail
inductive cV where
 |nx (ρ:bV) (S:aG) |rt (v:AV) (S:aG) |bk (ρ:bV) (S:aG) |ct (ρ:bV) (S:aG) |exc (n:Str) (S:aG) |fail
def kS(K:ag)(c:Addr->Prop)(H:Hp)(a:Addr)(vs:List V):Prop:=
 (H a=some (.lst vs)/\¬c a)\/(∃o,H a=some (.frz o (.lst vs)))\/
  ∃(o:Obj)(its:Array Value)(n:Nat),K.lookup a=some o/\o.cls=.type "list"/\o.dict=none/\o.data=.seq its n/\its.size<=sizeLine/\bI vs its.toList
theorem kS.sq{K:ag}{c:Addr->Prop}{H:Hp}{a:Addr}{vs:List V}(h:kS K c H a vs):cJ K H a vs:=by
 rcases h with h |h |h
 .exact .inl (.inl h.1)
 .exact .inl (.inr h)
 .exact .inr h
mutual
def aR(K:ag)(c:Addr->Prop)(H:Hp):PV->V->Prop
 |.non,x=>x=.non
 |.bl b,x=>x=.bl b
 |.int i,x=>x=.int i
 |.str s,x=>x=.str s
 |.tup xs,x=>∃a vs,x=.ref a/\dJ K H a vs/\vs.length<=sizeLine/\aT K c H xs vs
 |.lst xs,x=>∃a vs,x=.ref a/\kS K c H a vs/\vs.length<=sizeLine/\aT K c H xs vs
def aT(K:ag)(c:Addr->Prop)(H:Hp):AH->List V->Prop
 |[],vs=>vs=[]
 |p::ps,vs=>∃v r,vs=v::r/\aR K c H p v/\aT K c H ps r
end
section
variable{K:ag}{c c':Addr->Prop}{H H':Hp}
mutual
theorem aR.mono(hT:∀a vs,dJ K H a vs->dJ K H' a vs)(hL:∀a vs,kS K c H a vs->kS K c' H' a vs):∀(v:PV)(x:V),aR K c H v x->aR K c' H' v x
 |.non,x,h=>h
 |.bl b,x,h=>h
 |.int i,x,h=>h
 |.str s,x,h=>h
 |.tup xs,x,h=>by
  unfold aR at h⊢;obtain⟨a,vs,e,t,z,r⟩:=h;exact⟨a,vs,e,hT a vs t,z,aT.mono hT hL xs vs r⟩
 |.lst xs,x,h=>by
  unfold aR at h⊢;obtain⟨a,vs,e,t,z,r⟩:=h;exact⟨a,vs,e,hL a vs t,z,aT.mono hT hL xs vs r⟩
theorem aT.mono(hT:∀a vs,dJ K H a vs->dJ K H' a vs)(hL:∀a vs,kS K c H a vs->kS K c' H' a vs):∀(v:AH)(x:List V),aT K c H v x->aT K c' H' v x
 |[],vs,h=>by
  unfold aT at h⊢;exact h
 |p::ps,vs,h=>by
  unfold aT at h⊢;obtain⟨v,r,e,h1,h2⟩:=h;exact⟨v,r,e,aR.mono hT hL p v h1,aT.mono hT hL ps r h2⟩
end
theorem aT.length:∀{xs:AH}{vs:List V},aT K c H xs vs->xs.length=vs.length
 |[],vs,h=>by
  unfold aT at h;rw[h];rfl
 |p::ps,vs,h=>by
  unfold aT at h;obtain⟨v,r,rfl,_,h2⟩:=h;rw[cr,cr,aT.length h2]
theorem aT.get:∀{xs:AH}{vs:List V}{i:Nat}{p:PV},aT K c H xs vs->xs[i]?=some p->∃v,vs[i]?=some v/\aR K c H p v
 |[],vs,i,p,h,e=>by simp at e
 |q::ps,vs,0,p,h,e=>by
  unfold aT at h;obtain⟨v,r,rfl,h1,_⟩:=h;simp at e;subst e;exact⟨v,rfl,h1⟩
 |q::ps,vs,i+1,p,h,e=>by
  unfold aT at h;obtain⟨v,r,rfl,_,h2⟩:=h;obtain⟨u,e1,e2⟩:=aT.get (i:=i) h2 (by simpa using e);exact⟨u,by simpa using e1,e2⟩
theorem aT.nil:aT K c H [] []:=by
 unfold aT;rfl
theorem aT.cons{p:PV}{v:V}{ps:AH}{vs:List V}(h:aR K c H p v)(t:aT K c H ps vs):aT K c H (p::ps) (v::vs):=by
 unfold aT;exact⟨v,vs,rfl,h,t⟩
theorem aT.append:∀{xs ys:AH}{vs ws:List V},aT K c H xs vs->aT K c H ys ws->aT K c H (xs++ys) (vs++ws)
 |[],ys,vs,ws,h,g=>by
  unfold aT at h;subst h;exact g
 |p::ps,ys,vs,ws,h,g=>by
  unfold aT at h;obtain⟨v,r,rfl,h1,h2⟩:=h;exact .cons h1 (h2.append g)
theorem aT.drop:∀{xs:AH}{vs:List V}(n:Nat),aT K c H xs vs->aT K c H (xs.drop n) (vs.drop n)
 |xs,vs,0,h=>by simpa using h
 |[],vs,n+1,h=>by
  unfold aT at h;subst h;simpa using aT.nil
 |p::ps,vs,n+1,h=>by
  unfold aT at h;obtain⟨v,r,rfl,_,h2⟩:=h;simpa using h2.drop n
theorem aT.take:∀{xs:AH}{vs:List V}(n:Nat),aT K c H xs vs->aT K c H (xs.take n) (vs.take n)
 |xs,vs,0,h=>by simpa using aT.nil
 |[],vs,n+1,h=>by
  unfold aT at h;subst h;simpa using aT.nil
 |p::ps,vs,n+1,h=>by
  unfold aT at h;obtain⟨v,r,rfl,h1,h2⟩:=h;simpa using aT.cons h1 (h2.take n)
theorem aT.eraseIdx:∀{xs:AH}{vs:List V}(n:Nat),aT K c H xs vs->aT K c H (xs.eraseIdx n) (vs.eraseIdx n)
 |[],vs,n,h=>by
  unfold aT at h;subst h;simpa using aT.nil
 |p::ps,vs,0,h=>by
  unfold aT at h;obtain⟨v,r,rfl,h1,h2⟩:=h;simpa using h2
 |p::ps,vs,n+1,h=>by
  unfold aT at h;obtain⟨v,r,rfl,h1,h2⟩:=h;simpa using aT.cons h1 (h2.eraseIdx n)
theorem aT.set{p:PV}{v:V}(g:aR K c H p v):∀{xs:AH}{vs:List V}(n:Nat),aT K c H xs vs->aT K c H (xs.set n p) (vs.set n v)
 |[],vs,n,h=>by
  unfold aT at h;subst h;simpa using aT.nil
 |q::ps,vs,0,h=>by
  unfold aT at h;obtain⟨v,r,rfl,h1,h2⟩:=h;simpa using aT.cons g h2
 |q::ps,vs,n+1,h=>by
  unfold aT at h;obtain⟨v,r,rfl,h1,h2⟩:=h;simpa using aT.cons h1 (aT.set g n h2)
end
structure Ph where
 f:List Addr
 w:Addr->Prop
 c:Addr->Prop
def yD(K:ag)(c:Addr->Prop)(H:Hp)(xss:List AH)(bs:List Addr):Prop:=
 xss.length=bs.length/\∀(i:Nat)(xs:AH)(b:Addr),xss[i]?=some xs->bs[i]?=some b->∃vs,H b=some (.lst vs)/\vs.length<=sizeLine/\aT K c H xs vs
def eD:(n:Bool)->gH n->PV
 |false,l=>.tup (kd PV.int l)
 |true,l=>.tup (kd (λr:AA=>PV.tup (r.map PV.int)) l)
def oD(es:Array DictEntry)(ep:Nat):Obj:={cls:=.type "dict",data:=.dict es ep}
def dO(a:Addr)(es:Array DictEntry)(ep:Nat):HO:=.ext λh=>h.get? a=some (oD es ep)
def jR(n:Bool)(x:gH n×Addr×Value):DictEntry:=⟨Au n x.1,.ref x.2.1,x.2.2⟩
def oZ(K:ag)(c:Addr->Prop)(H:Hp)(a:Addr)(n:Bool)(ks:AH)(us:AD):Prop:=
 ∃(xs:List (gH n×Addr×Value))(ep:Nat),H a=some (dO a (xs.map (jR n)).toArray ep)/\(a==sysModules)=false/\xs.length<=sizeLine/\(xs.map (·.1)).Nodup/\ks=xs.map (λx=>eD n x.1)/\aT K c H ks (xs.map λx=>V.ref x.2.1)/\us=xs.map (·.2.2)
def oQ(K:ag)(p:Ph)(H:Hp)(a:Addr):SO->Prop
 |.lst xs=>∃vs,H a=some (.lst vs)/\vs.length<=sizeLine/\aT K p.c H xs vs
 |.lol xss=>∃bs:List Addr,H a=some (.lst (bs.map V.ref))/\bs.length<=sizeLine/\bs.Nodup/\(∀b∈bs,p.w b/\b∉p.f)/\yD K p.c H xss bs
 |.dic n kvs=>∃us vs,oZ K p.c H a n (kvs.map (·.1)) us/\bI vs us/\aT K p.c H (kvs.map (·.2)) vs
 |.dol n kvs=>∃bs:List Addr,oZ K p.c H a n (kvs.map (·.1)) (bs.map dg)/\bs.Nodup/\(∀b∈bs,p.w b/\b∉p.f)/\yD K p.c H (kvs.map (·.2)) bs
theorem oZ.mono{K:ag}{c c':Addr->Prop}{H H':Hp}{a:Addr}{n:Bool}{ks:AH}{us:AD}(h:oZ K c H a n ks us)(ha:∀o,H a=some o->H' a=some o)(hR:∀xs vs,aT K c H xs vs->aT K c' H' xs vs):oZ K c' H' a n ks us:=by
 obtain⟨xs,ep,e,z,l,nd,ek,r,eu⟩:=h;exact⟨xs,ep,ha _ e,z,l,nd,ek,hR _ _ r,eu⟩
theorem oQ.mono{K:ag}{p p':Ph}{H H':Hp}{a:Addr}{o:SO}(h:oQ K p H a o)(ha:∀o,H a=some o->H' a=some o)
  (hb:∀b,p.w b->b∉p.f->(p'.w b/\b∉p'.f)/\∀vs,H b=some (.lst vs)->H' b=some (.lst vs))(hR:∀xs vs,aT K p.c H xs vs->aT K p'.c H' xs vs):oQ K p' H' a o:=by
 have lol:∀{xss:List AH}{bs:List Addr},(∀b∈bs,p.w b/\b∉p.f)->yD K p.c H xss bs->yD K p'.c H' xss bs:=λwf ⟨z,at_⟩=>⟨z,λi xs b e1 e2=>by
  obtain⟨vs,g1,g2,g3⟩:=at_ i xs b e1 e2;have m:=wf b (cx e2);exact⟨vs,(hb b m.1 m.2).2 vs g1,g2,hR xs vs g3⟩⟩
 cases o with
 |lst xs=>
  obtain⟨vs,e,l,r⟩:=h;exact⟨vs,ha _ e,l,hR xs vs r⟩
 |lol xss=>
  obtain⟨bs,e,l,nd,wf,z⟩:=h;exact⟨bs,ha _ e,l,nd,λb m=>(hb b (wf b m).1 (wf b m).2).1,lol wf z⟩
 |dic n kvs=>
  obtain⟨us,vs,d,v,r⟩:=h;exact⟨us,vs,d.mono ha hR,v,hR _ _ r⟩
 |dol n kvs=>
  obtain⟨bs,d,nd,wf,z⟩:=h;exact⟨bs,d.mono ha hR,nd,λb m=>(hb b (wf b m).1 (wf b m).2).1,lol wf z⟩
def Mb:HO->Prop
 |.lst _=>True
 |.dK _=>True
 |.dT _=>True
 |.ins _ _ _=>True
 |.ext _=>True
 |_=>False
structure aV(K:ag)(p:Ph)(S:aG)(H:Hp):Prop where
 nd:p.f.Nodup
 len:p.f.length=S.length
 sub:∀a∈p.f,p.w a
 wc:∀a,p.w a->p.c a
 mu:∀a,p.c a->∃o,H a=some o/\Mb o
 obj:∀(k:Nat)(a:Addr)(o:SO),p.f[k]?=some a->S[k]?=some o->oQ K p H a o
structure bP(p:Ph)(H:Hp)(q:Ph)(H':Hp):Prop where
 wc:∀a,p.w a->p.c a
 mu:∀a,p.c a->∃o,H a=some o/\Mb o
 pre:p.f <+:q.f
 mw:∀a,p.w a->q.w a
 mono:∀a,p.c a->q.c a
 nf:∀a∈q.f,a∉p.f->H a=none
 nw:∀a,q.w a->¬p.w a->H a=none
 nc:∀a,q.c a->¬p.c a->H a=none
 keep:∀a o,H a=some o->¬p.w a->H' a=some o
def bY(K:ag)(p:Ph)(H:Hp):AV->V->Prop
 |.pv v,x=>aR K p.c H v x
 |.ref k,x=>∃a,p.f[k]?=some a/\x=.ref a
abbrev gM(K:ag)(p:Ph)(H:Hp):AK->List V->Prop:=iu (bY K p H)
structure dL(K:ag)(p:Ph)(H:Hp)(ρ:bV)(σ:St):Prop where
 len:ρ.length=σ.length
 at_:∀(i:Nat)(v:AV),ρ[i]?=some (some v)->∃x,σ[i]?=some (some x)/\bY K p H v x
section
variable{K:ag}{p q r:Ph}{H H' H'':Hp}{S:aG}
theorem aV.step(s:aV K p S H):bP p H p H:=⟨s.wc,s.mu,jr,λ_ h=>h,λ_ h=>h,λ_ h g=>absurd h g,λ_ h g=>absurd h g,λ_ h g=>absurd h g,λ_ _ h _=>h⟩
theorem bP.trans(a:bP p H q H')(b:bP q H' r H''):bP p H r H'':=by
 have back:∀x,H' x=none->¬p.w x->H x=none:=λx h n=>by
  cases e:H x with
  |none=>rfl
  |some o=>rw[a.keep x o e n]at h;cases h
 refine⟨a.wc,a.mu,a.pre.trans b.pre,λx h=>b.mw x (a.mw x h),λx h=>b.mono x (a.mono x h),λx h n=>?_,λx h n=>?_,λx h n=>?_,λx o e n=>?_⟩
 .by_cases m:x∈q.f
  .exact a.nf x m n
  .have hn:=b.nf x h m
   refine back x hn λz=>?_;obtain⟨o,ho,_⟩:=b.mu x (a.mono x (a.wc x z));rw[hn]at ho;cases ho
 .by_cases m:q.w x
  .exact a.nw x m n
  .exact back x (b.nw x h m) n
 .by_cases m:q.c x
  .exact a.nc x m n
  .exact back x (b.nc x h m) λz=>n (a.wc x z)
 .refine b.keep x o (a.keep x o e n) λz=>?_
  rw[a.nw x z n]at e;cases e
theorem bP.tup(s:bP p H q H'){a:Addr}{vs:List V}(h:dJ K H a vs):dJ K H' a vs:=by
 have go:∀o,H a=some o->¬Mb o->H' a=some o:=λo e n=>s.keep a o e λz=>by
  obtain⟨u,e',m⟩:=s.mu a (s.wc a z);rw[e]at e';cases e';exact n m
 rcases h with(h |⟨o,h⟩) |h
 .exact .inl (.inl (go _ h (λz=>z)))
 .exact .inl (.inr ⟨o,go _ h (λz=>z)⟩)
 .exact .inr h
theorem bP.lat(s:bP p H q H'){a:Addr}{vs:List V}(h:kS K p.c H a vs):kS K q.c H' a vs:=by
 rcases h with⟨h,n⟩|⟨o,h⟩|h
 .refine .inl ⟨s.keep a _ h λz=>n (s.wc a z),λz=>?_⟩
  rw[s.nc a z n]at h;cases h
 .refine .inr (.inl ⟨o,s.keep a _ h λz=>?_⟩)
  obtain⟨u,e',m⟩:=s.mu a (s.wc a z);rw[h]at e';cases e';exact m
 .exact .inr (.inr h)
theorem bP.rep(s:bP p H q H'){v:PV}{x:V}(h:aR K p.c H v x):aR K q.c H' v x:=aR.mono (λ_ _=>s.tup) (λ_ _=>s.lat) v x h
theorem bP.reps(s:bP p H q H'){v:AH}{x:List V}(h:aT K p.c H v x):aT K q.c H' v x:=aT.mono (λ_ _=>s.tup) (λ_ _=>s.lat) v x h
theorem bP.at_(s:bP p H q H'){k:Nat}{a:Addr}(h:p.f[k]?=some a):q.f[k]?=some a:=by
 obtain⟨t,e⟩:=s.pre;rw[<-e,du (by
  have:=ca.mp h;exact this.1)]
 exact h
theorem bP.repA(s:bP p H q H'){v:AV}{x:V}(h:bY K p H v x):bY K q H' v x:=by
 cases v with
 |pv v=>exact s.rep h
 |ref k=>
  obtain⟨a,e,f⟩:=h;exact⟨a,s.at_ e,f⟩
theorem bP.repE(s:bP p H q H'){ρ:bV}{σ:St}(h:dL K p H ρ σ):dL K q H' ρ σ:=
 ⟨h.len,λi v e=>let⟨x,e1,e2⟩:=h.at_ i v e;⟨x,e1,s.repA e2⟩⟩
theorem aV.same(s:aV K p S H)(h:dR H H'):bP p H p H':=⟨s.wc,s.mu,jr,λ_ h=>h,λ_ h=>h,λ_ h g=>absurd h g,λ_ h g=>absurd h g,λ_ h g=>absurd h g,λa o e _=>h a o e⟩
theorem aV.ofSame(s:aV K p S H)(h:dR H H'):aV K p S H':=
 ⟨s.nd,s.len,s.sub,s.wc,λa m=>let⟨o,e,m⟩:=s.mu a m;⟨o,h a o e,m⟩,λk a o e1 e2=>by
  exact(s.obj k a o e1 e2).mono (λvs e=>h _ _ e) (λb w f=>⟨⟨w,f⟩,λvs e=>h _ _ e⟩) λxs vs=>(s.same h).reps⟩
theorem iM{a:Addr}{o:HO}(h:H a=none):dR H (aY H a o):=λb u e=>by
 rw[bS (gD e h)];exact e
end
section
variable{α β γ δ:Type}
def bU(K:ag)(cl:Str->Addr)(R:Ph->Hp->α->β->Prop)(p:Ph)(H:Hp)(r:bQ α)(Q:β->Hp->Prop)(E:XK):Prop:=match r with
 |.ok a S=>∀q H' x,bP p H q H'->aV K q S H'->R q H' a x->Q x H'
 |.exc n S=>∀q H',bP p H q H'->aV K q S H'->E (.ref (cl n)) none H'
 |.fail=>False
def eN(K:ag)(cl:Str->Addr)(p:Ph)(H:Hp)(r:cV)(D:nN)(E:XK):Prop:=match r with
 |.nx ρ S=>∀q H' σ,bP p H q H'->aV K q S H'->dL K q H' ρ σ->D.nx σ H'
 |.bk ρ S=>∀q H' σ,bP p H q H'->aV K q S H'->dL K q H' ρ σ->D.bk σ H'
 |.ct ρ S=>∀q H' σ,bP p H q H'->aV K q S H'->dL K q H' ρ σ->D.ct σ H'
 |.rt v S=>∀q H' x,bP p H q H'->aV K q S H'->bY K q H' v x->D.rt x H'
 |.exc n S=>∀q H',bP p H q H'->aV K q S H'->E (.ref (cl n)) none H'
 |.fail=>False
variable{K:ag}{cl:Str->Addr}{p q:Ph}{H H':Hp}{S:aG}{E:XK}{R:Ph->Hp->α->β->Prop}{R':Ph->Hp->γ->δ->Prop}
theorem bU.mono{r:bQ α}{Q:β->Hp->Prop}(h:bU K cl R p H r Q E)(s:bP p H q H'):bU K cl R q H' r Q E:=by
 cases r with
 |ok a S=>exact λq' H'' x s'=>h q' H'' x (s.trans s')
 |exc n S=>exact λq' H'' s'=>h q' H'' (s.trans s')
 |fail=>exact h
theorem eN.mono{r:cV}{D:nN}(h:eN K cl p H r D E)(s:bP p H q H'):eN K cl q H' r D E:=by
 cases r with
 |nx ρ S=>exact λq' H'' x s'=>h q' H'' x (s.trans s')
 |bk ρ S=>exact λq' H'' x s'=>h q' H'' x (s.trans s')
 |ct ρ S=>exact λq' H'' x s'=>h q' H'' x (s.trans s')
 |rt v S=>exact λq' H'' x s'=>h q' H'' x (s.trans s')
 |exc n S=>exact λq' H'' s'=>h q' H'' (s.trans s')
 |fail=>exact h
theorem bU.ret{a:α}{x:β}{Q:β->Hp->Prop}(h:bU K cl R p H (.ok a S) Q E)(s:aV K p S H)(r:R p H a x):Q x H:=h p H x s.step s r
theorem bU.same{a:α}{x:β}{Q:β->Hp->Prop}(h:bU K cl R p H (.ok a S) Q E)(s:aV K p S H)(e:dR H H')(r:R p H' a x):Q x H':=h p H' x (s.same e) (s.ofSame e) r
def tP(K:ag)(cl:Str->Addr)(E:XK)(R:Ph->Hp->α->β->Prop)(m:bV->aG->bQ α)(σ:St)(H:Hp)(Q:β->Hp->Prop):Prop:=
 ∃p S ρ,aV K p S H/\dL K p H ρ σ/\bU K cl R p H (m ρ S) Q E
def tS(K:ag)(cl:Str->Addr)(E:XK)(m:bV->aG->cV):TS:=λD σ H=>
 ∃p S ρ,aV K p S H/\dL K p H ρ σ/\eN K cl p H (m ρ S) D E
theorem cR{m:bV->aG->bQ α}{k:α->aG->bQ γ}{ρ:bV}{σ:St}{Q:δ->Hp->Prop}{T:β->Hp->Prop}(s:aV K p S H)(e:dL K p H ρ σ)(h:bU K cl R' p H ((m ρ S).bind k) Q E)
  (g:∀q H' a b S',bP p H q H'->aV K q S' H'->dL K q H' ρ σ->R q H' a b->bU K cl R' q H' (k a S') Q E->T b H'):tP K cl E R m σ H T:=by
 refine⟨p,S,ρ,s,e,?_⟩;cases z:m ρ S with
 |ok a S1=>
  rw[z]at h;exact λq H' b st sm r=>g q H' a b S1 st sm (st.repE e) r (bU.mono (r:=k a S1) h st)
 |exc n S1=>
  rw[z]at h;exact h
 |fail=>
  rw[z]at h;exact h
def cV.of{α:Type}(r:bQ α)(k:α->aG->cV):cV:=match r with
 |.ok a S=>k a S
 |.exc n S=>.exc n S
 |.fail=>.fail
theorem iT{m:bV->aG->bQ α}{k:α->aG->cV}{ρ:bV}{σ:St}{D:nN}{T:β->Hp->Prop}(s:aV K p S H)(e:dL K p H ρ σ)(h:eN K cl p H (cV.of (m ρ S) k) D E)
  (g:∀q H' a b S',bP p H q H'->aV K q S' H'->dL K q H' ρ σ->R q H' a b->eN K cl q H' (k a S') D E->T b H'):tP K cl E R m σ H T:=by
 refine⟨p,S,ρ,s,e,?_⟩;cases z:m ρ S with
 |ok a S1=>
  rw[z]at h;exact λq H' b st sm r=>g q H' a b S1 st sm (st.repE e) r (eN.mono (r:=k a S1) h st)
 |exc n S1=>
  rw[z]at h;exact h
 |fail=>
  rw[z]at h;exact h
end
end
abbrev RB:Ph->Hp->Bool->Bool->Prop:=λ_ _ a b=>a=b
abbrev ME:=bV->aG->bQ AV
abbrev MT:=bV->aG->bQ Bool
abbrev MA:=bV->aG->bQ AK
abbrev MS:=bV->aG->cV
section
variable(K:ag)(cl:Str->Addr)(E:XK)(X:Cx)
def aX(e:ah)(m:ME):Prop:=X.K=K->PE X e (tP K cl E (bY K) m)
def gC(e:ah)(m:MT):Prop:=X.K=K->PT X e (tP K cl E RB m)
def kC(e:ah)(m:MT):Prop:=X.K=K->PW X e (tP K cl E RB m)
def eW(es:List ah)(m:MA):Prop:=X.K=K->PA X es (tP K cl E (gM K) m)
def eH(st:Stmt)(m:MS):Prop:=X.K=K->PS X st (tS K cl E m)
def gS(st:List Stmt)(m:MS):Prop:=X.K=K->gK X st (tS K cl E m)
end
theorem PA.imp{X:Cx}{es:List ah}{t t':TA}(h:PA X es t)(i:∀σ H Q,t' σ H Q->t σ H Q):PA X es t':=λpos AL s σ H Q I q=>h pos AL s σ H Q I (i σ H Q q)
theorem PW.imp{X:Cx}{e:ah}{t t':TT}(h:PW X e t)(i:∀σ H Q,t' σ H Q->t σ H Q):PW X e t':=λwh AL s σ H Q I q=>h wh AL s σ H Q I (i σ H Q q)
def aA(i:Nat):ME:=λρ S=>match ρ[i]? with
 |some (some v)=>.ok v S
 |_=>.fail
def mC(v:PV):ME:=λ_ S=>.ok (.pv v) S
def rd(S:aG):AV->AI
 |.pv v=>some v
 |.ref k=>match S[k]? with
  |some (.lst xs)=>some (.lst xs)
  |_=>none
def iG(S:aG):AK->Option AH
 |[]=>some []
 |a::r=>match rd S a with
  |some v=>match iG S r with
   |some vs=>some (v::vs)
   |none=>none
  |none=>none
def jF(o:AI)(S:aG):bQ AV:=match o with
 |some r=>.ok (.pv r) S
 |none=>.fail
def uD(f:PV->AI)(a:AV)(S:aG):bQ AV:=jF ((rd S a).bind f) S
def lD(f:PV->PV->AI)(a b:AV)(S:aG):bQ AV:=jF ((rd S a).bind λx=>(rd S b).bind λy=>f x y) S
def bO(f:PV->AI)(ma:ME):ME:=λρ S=>(ma ρ S).bind λx S1=>uD f x S1
def aC(f:PV->PV->AI)(ma mb:ME):ME:=λρ S=>(ma ρ S).bind λx S1=>(mb ρ S1).bind λy S2=>lD f x y S2
def aD:MA:=λ_ S=>.ok [] S
def aB(ma:ME)(mr:MA):MA:=λρ S=>(ma ρ S).bind λx S1=>(mr ρ S1).bind λxs S2=>.ok (x::xs) S2
def oK:AK->Option AH
 |[]=>some []
 |.pv v::r=>match oK r with
  |some vs=>some (v::vs)
  |none=>none
 |.ref _::_=>none
def Rf(f:AH->AI)(xs:AK)(S:aG):bQ AV:=jF ((oK xs).bind f) S
def oN(f:AH->AI)(xs:AK)(S:aG):bQ AV:=jF ((iG S xs).bind f) S
def mR(f:AH->AI)(ma:MA):ME:=λρ S=>(ma ρ S).bind λxs S1=>oN f xs S1
def mN(f:AH->AI)(ma:MA):ME:=λρ S=>(ma ρ S).bind λxs S1=>Rf f xs S1
def dF(vs:AH):AI:=if vs.length<=16777216 then some (.tup vs)else none
def eP(vs:AH):AI:=if vs.length<=16777216 then some (.lst vs)else none
def lN:AV->aG->bQ Bool
 |.pv (.bl b),S=>.ok b S
 |_,_=>.fail
def bK(m:ME):MT:=λρ S=>(m ρ S).bind lN
def kP(m:MT):MT:=λρ S=>(m ρ S).bind λb S1=>.ok (!b) S1
def jY(m n:MT):MT:=λρ S=>(m ρ S).bind λb S1=>if b=true then n ρ S1 else .ok false S1
def oV(m n:MT):MT:=λρ S=>(m ρ S).bind λb S1=>if b=true then .ok true S1 else n ρ S1
def uF(m n:ME):ME:=λρ S=>(m ρ S).bind λx S1=>match x with
 |.pv (.bl true)=>n ρ S1
 |.pv (.bl false)=>.ok (.pv (.bl false)) S1
 |_=>.fail
def aeH(m n:ME):ME:=λρ S=>(m ρ S).bind λx S1=>match x with
 |.pv (.bl false)=>n ρ S1
 |.pv (.bl true)=>.ok (.pv (.bl true)) S1
 |_=>.fail
def qE:PV->AI
 |.bl b=>some (.bl (!b))
 |_=>none
def zI(c:MT)(a b:ME):ME:=λρ S=>(c ρ S).bind λt S1=>if t=true then a ρ S1 else b ρ S1
section
variable{K:ag}{cl:Str->Addr}{E:XK}{X:Cx}{a b c e:ah}{es:List ah}{ma mb mc m:ME}{mt nt:MT}{ms:MA}{pos:ai}
theorem abN(i:Nat){x:Str}(hN:X.N[i]?=some x:=by rfl)(hv:oX X.env.scope x:=by first |exact ik rfl |exact io (ik rfl) |exact io (io rfl))(hd:(x==("__debug__":Str))=false:=by decide)
  (hcd:(x==("__classdict__":Str))=false:=by decide):aX K cl E X (.Name x pos) (aA i):=λ_=>(pW hN hv hd hcd).imp λσ H Q ⟨p,S,ρ,s,e,h⟩=>by
 unfold aA at h;cases z:ρ[i]? with
 |none=>rw[z]at h;exact h.elim
 |some o=>
  cases o with
  |none=>rw[z]at h;exact h.elim
  |some v=>
   rw[z]at h;obtain⟨x,e1,e2⟩:=e.at_ i v z;exact⟨x,e1,bU.ret h s e2⟩
theorem ab2{i:Int}{j}:aX K cl E X (.Constant (.int i) j pos) (mC (.int i)):=λ_=>Jt.imp λσ H Q ⟨p,S,ρ,s,e,h⟩=>bU.ret (R:=bY K) (x:=.int i) h s (by show aR K p.c H (.int i) (.int i);unfold aR;rfl)
theorem adY{i:Bool}{j}:aX K cl E X (.Constant (.bool i) j pos) (mC (.bl i)):=λ_=>adx.imp λσ H Q ⟨p,S,ρ,s,e,h⟩=>bU.ret (R:=bY K) (x:=.bl i) h s (by show aR K p.c H (.bl i) (.bl i);unfold aR;rfl)
def fD(K:ag)(p:Ph)(H:Hp)(v:PV)(x:V):Prop:=aR K p.c H v x\/∃xs a vs,v=.lst xs/\x=.ref a/\H a=some (.lst vs)/\vs.length<=sizeLine/\aT K p.c H xs vs
theorem fD.int{p:Ph}{H:Hp}{i:Int}{x:V}(h:fD K p H (.int i) x):x=.int i:=by
 rcases h with h |⟨_,_,_,e,_⟩
 .unfold aR at h;exact h
 .cases e
theorem fD.bl{p:Ph}{H:Hp}{i:Bool}{x:V}(h:fD K p H (.bl i) x):x=.bl i:=by
 rcases h with h |⟨_,_,_,e,_⟩
 .unfold aR at h;exact h
 .cases e
theorem fD.str{p:Ph}{H:Hp}{i:Str}{x:V}(h:fD K p H (.str i) x):x=.str i:=by
 rcases h with h |⟨_,_,_,e,_⟩
 .unfold aR at h;exact h
 .cases e
theorem fD.non{p:Ph}{H:Hp}{x:V}(h:fD K p H .non x):x=.non:=by
 rcases h with h |⟨_,_,_,e,_⟩
 .unfold aR at h;exact h
 .cases e
theorem fD.tup{p:Ph}{H:Hp}{xs:AH}{x:V}(h:fD K p H (.tup xs) x):∃a vs,x=.ref a/\dJ K H a vs/\vs.length<=sizeLine/\aT K p.c H xs vs:=by
 rcases h with h |⟨_,_,_,e,_⟩
 .unfold aR at h;exact h
 .cases e
theorem fD.lst{p:Ph}{H:Hp}{xs:AH}{x:V}(h:fD K p H (.lst xs) x):∃a vs,x=.ref a/\cJ K H a vs/\vs.length<=sizeLine/\aT K p.c H xs vs:=by
 rcases h with h |⟨ys,a,vs,e,e2,h,z,r⟩
 .unfold aR at h
  obtain⟨a,vs,e,l,z,r⟩:=h;exact⟨a,vs,e,l.sq,z,r⟩
 .cases e
  exact⟨a,vs,e2,cJ.of h,z,r⟩
theorem tZ{p:Ph}{S:aG}{H:Hp}{a:AV}{v:PV}{x:V}(s:aV K p S H)(r:bY K p H a x)(e:rd S a=some v):fD K p H v x:=by
 cases a with
 |pv u=>cases e;exact .inl r
 |ref k=>
  obtain⟨a,e1,rfl⟩:=r;unfold rd at e;cases z:S[k]? with
  |none=>simp only[z]at e;cases e
  |some o=>
   cases o with
   |lst xs=>
    simp only[z]at e;cases e;obtain⟨vs,h,l,r⟩:=s.obj k a _ e1 z;exact .inr ⟨xs,a,vs,rfl,rfl,h,l,r⟩
   |lol _=>simp only[z]at e;cases e
   |dic _ _=>simp only[z]at e;cases e
   |dol _ _=>simp only[z]at e;cases e
abbrev Jf(K:ag)(p:Ph)(H:Hp):AH->List V->Prop:=iu (fD K p H)
theorem vO{p:Ph}{S:aG}{H:Hp}(s:aV K p S H):∀{as:AK}{vs:AH}{xs:List V},gM K p H as xs->iG S as=some vs->Jf K p H vs xs
 |[],vs,_,.nil,e=>by
  cases e;exact .nil
 |a::r,vs,_,.cons h t,e=>by
  unfold iG at e;cases z:rd S a with
  |none=>simp only[z]at e;cases e
  |some v=>
   simp only[z]at e;cases y:iG S r with
   |none=>simp only[y]at e;cases e
   |some us=>
    simp only[y]at e;cases e;exact .cons (tZ s h z) (vO s t y)
def iA(K:ag)(r:R2)(f:PV->PV->AI):Prop:=∀{p:Ph}{S:aG}{H:Hp}{a b c:PV}{x y:V}{Q:VK},aV K p S H->fD K p H a x->fD K p H b y->f a b=some c->
 (∀H' z,dR H H'->aR K p.c H' c z->Q z H')->r x y H Q
def yZ(K:ag)(r:V->Hp->VK->Prop)(f:PV->AI):Prop:=∀{p:Ph}{S:aG}{H:Hp}{a c:PV}{x:V}{Q:VK},aV K p S H->fD K p H a x->f a=some c->
 (∀H' z,dR H H'->aR K p.c H' c z->Q z H')->r x H Q
def CaS(K:ag)(r:List V->Hp->VK->Prop)(f:AH->AI):Prop:=∀{p:Ph}{S:aG}{H:Hp}{as:AH}{c:PV}{xs:List V}{Q:VK},aV K p S H->aT K p.c H as xs->f as=some c->
 (∀H' z,dR H H'->aR K p.c H' c z->Q z H')->r xs H Q
def lJ(K:ag)(r:List V->Hp->VK->Prop)(f:AH->AI):Prop:=∀{p:Ph}{S:aG}{H:Hp}{as:AH}{c:PV}{xs:List V}{Q:VK},aV K p S H->Jf K p H as xs->f as=some c->
 (∀H' z,dR H H'->aR K p.c H' c z->Q z H')->r xs H Q
theorem tO{p:Ph}{S:aG}{H:Hp}{o:AI}{Q:VK}(s:aV K p S H)(h:bU K cl (bY K) p H (jF o S) Q E):∃c,o=some c/\∀H' z,dR H H'->aR K p.c H' c z->Q z H':=by
 cases o with
 |none=>exact h.elim
 |some c=>exact⟨c,rfl,λH' z sm rz=>bU.same (R:=bY K) h s sm rz⟩
theorem vK{r:R2}{f:PV->PV->AI}(hf:iA K r f){p:Ph}{S:aG}{H:Hp}{a b:AV}{x y:V}{Q:VK}(s:aV K p S H)(ra:bY K p H a x)(rb:bY K p H b y)(h:bU K cl (bY K) p H (lD f a b S) Q E):r x y H Q:=by
 obtain⟨c,e,k⟩:=tO s h;cases z:rd S a with
 |none=>rw[z]at e;cases e
 |some v=>
  cases y:rd S b with
  |none=>rw[z,y]at e;cases e
  |some w=>
   rw[z,y]at e;exact hf s (tZ s ra z) (tZ s rb y) e k
theorem Kb{r:V->Hp->VK->Prop}{f:PV->AI}(hf:yZ K r f){p:Ph}{S:aG}{H:Hp}{a:AV}{x:V}{Q:VK}(s:aV K p S H)(ra:bY K p H a x)(h:bU K cl (bY K) p H (uD f a S) Q E):r x H Q:=by
 obtain⟨c,e,k⟩:=tO s h;cases z:rd S a with
 |none=>rw[z]at e;cases e
 |some v=>
  rw[z]at e;exact hf s (tZ s ra z) e k
theorem Fm{r:List V->Hp->VK->Prop}{f:AH->AI}(hf:lJ K r f){p:Ph}{S:aG}{H:Hp}{as:AK}{xs:List V}{Q:VK}(s:aV K p S H)(ra:gM K p H as xs)(h:bU K cl (bY K) p H (oN f as S) Q E):r xs H Q:=by
 obtain⟨c,e,k⟩:=tO s h;cases z:iG S as with
 |none=>rw[z]at e;cases e
 |some v=>
  rw[z]at e;exact hf s (vO s ra z) e k
theorem Fa{p:Ph}{H:Hp}:∀{as:AK}{vs:AH}{xs:List V},oK as=some vs->gM K p H as xs->aT K p.c H vs xs
 |[],vs,_,e,.nil=>by
  cases e;exact .nil
 |.pv v::r,vs,_,e,.cons h t=>by
  unfold oK at e;cases z:oK r with
  |none=>simp only[z]at e;cases e
  |some us=>
   simp only[z]at e;cases e;exact .cons h (Fa z t)
 |.ref k::r,vs,_,e,.cons h t=>by
  cases e
theorem Hl{r:List V->Hp->VK->Prop}{f:AH->AI}(hf:CaS K r f){p:Ph}{S:aG}{H:Hp}{as:AK}{xs:List V}{Q:VK}(s:aV K p S H)(ra:gM K p H as xs)(h:bU K cl (bY K) p H (Rf f as S) Q E):r xs H Q:=by
 obtain⟨c,e,k⟩:=tO s h;cases z:oK as with
 |none=>rw[z]at e;cases e
 |some v=>
  rw[z]at e;exact hf s (Fa z ra) e k
theorem qB{op:qi}{r:R2}{f:PV->PV->AI}(ho:eQ X (binaryOp op) r)(hf:iA X.K r f)(ha:aX K cl E X a ma)(hb:aX K cl E X b mb):aX K cl E X (.BinOp a op b pos) (aC f ma mb):=by
 intro hK;subst hK;refine(Gv ho (ha rfl) (hb rfl)).imp ?_
 rintro σ H Q ⟨p,S,ρ,s,e,h⟩
 exact cR s e h λq H1 a x S1 st s1 e1 r1 h1=>cR s1 e1 h1 λq2 H2 b y S2 st2 s2 e2 r2 h2=>vK hf s2 (st2.repA r1) r2 h2
theorem ad4{op:UnaryOp}{r:V->Hp->VK->Prop}{f:PV->AI}(ho:yY X (unaryOp op) r)(hf:yZ X.K r f)(ha:aX K cl E X a ma):aX K cl E X (.UnaryOp op a pos) (bO f ma):=by
 intro hK;subst hK;refine(adc ho (ha rfl)).imp ?_
 rintro σ H Q ⟨p,S,ρ,s,e,h⟩
 exact cR s e h λq H1 a x S1 st s1 e1 r1 h1=>Kb hf s1 r1 h1
theorem tV{op:ke}{r:R2}{f:PV->PV->AI}(ho:eQ X (compareOp op) r)(hf:iA X.K r f)(ha:aX K cl E X a ma)(hb:aX K cl E X b mb)(hm:behindInMarks op b=false):aX K cl E X (.Compare a [op] [b] pos) (aC f ma mb):=by
 intro hK;subst hK;refine(abn ho (ha rfl) (hb rfl) hm).imp ?_
 rintro σ H Q ⟨p,S,ρ,s,e,h⟩
 exact cR s e h λq H1 a x S1 st s1 e1 r1 h1=>cR s1 e1 h1 λq2 H2 b y S2 st2 s2 e2 r2 h2=>vK hf s2 (st2.repA r1) r2 h2
theorem Hu{p:Ph}{H:Hp}{v:AV}{x:V}(r:bY K p H v x){b:Bool}(e:v=.pv (.bl b)):x=.bl b:=by
 subst e;unfold bY aR at r;exact r
theorem Xm{p:Ph}{S:aG}{H:Hp}{v:AV}{x:V}{Q:Bool->Hp->Prop}(s:aV K p S H)(r:bY K p H v x)
  (h:bU K cl RB p H (lN v S) Q E):∃k,x=.bl k/\Q k H:=by
 cases v with
 |ref k=>exact h.elim
 |pv v=>
  cases v with
  |bl b=>exact⟨b,Hu r rfl,bU.ret (R:=RB) h s rfl⟩
  |_=>exact h.elim
theorem tG{op:ke}{r:R2}{f:PV->PV->AI}(ho:eQ X (compareOp op) r)(hf:iA X.K r f)(ha:aX K cl E X a ma)(hb:aX K cl E X b mb)(hm:behindInMarks op b=false):gC K cl E X (.Compare a [op] [b] pos) (bK (aC f ma mb)):=by
 intro hK;subst hK;refine(abf ho (ha rfl) (hb rfl) hm).imp ?_
 rintro σ H Q ⟨p,S,ρ,s,e,h⟩
 have z:tP X.K cl E (bY X.K) (aC f ma mb) σ H λx H'=>∃k,x=.bl k/\Q k H':=cR s e h λq H1 a x S1 st s1 e1 r1 h1=>Xm s1 r1 h1;obtain⟨p',S',ρ',s',e',h'⟩:=z;exact cR s' e' h' λq H1 a x S1 st s1 e1 r1 h1=>cR s1 e1 h1 λq2 H2 b y S2 st2 s2 e2 r2 h2=>vK hf s2 (st2.repA r1) r2 h2
theorem aas(ha:aX K cl E X a ma)(he:∀whole,isTrue a X.env whole=(do let v <-whole;standAt a.pos;holding [v] (truthy v)):=by intro _;rfl):gC K cl E X a (bK ma):=by
 intro hK;subst hK;refine(acK (ha rfl) he).imp ?_
 rintro σ H Q ⟨p,S,ρ,s,e,h⟩
 exact cR s e h λq H1 a x S1 st s1 e1 r1 h1=>Xm s1 r1 h1
theorem aab(ha:gC K cl E X a mt):gC K cl E X (.UnaryOp .Not a pos) (kP mt):=by
 intro hK;subst hK;refine(acl (ha rfl)).imp ?_
 rintro σ H Q ⟨p,S,ρ,s,e,h⟩
 exact cR s e h λq H1 a x S1 st s1 e1 r1 h1=>by
  cases r1;exact bU.ret (R:=RB) h1 s1 rfl
theorem L8(ha:gC K cl E X a mt):kC K cl E X (.BoolOp .And [a] pos) mt:=λhK=>Z6 (ha hK)
theorem aap(ha:gC K cl E X a mt):kC K cl E X (.BoolOp .Or [a] pos) mt:=λhK=>acg (ha hK)
theorem kC.pt(h:kC K cl E X a mt):gC K cl E X a mt:=λhK=>PW.pt (h hK)
theorem abE{gB:List ah}(ha:gC K cl E X a mt)(hb:kC K cl E X (.BoolOp .And (b::gB) pos) nt):kC K cl E X (.BoolOp .And (a::b::gB) pos) (jY mt nt):=by
 intro hK;subst hK;refine PW.imp (abW (ha rfl) (hb rfl)) ?_
 rintro σ H Q ⟨p,S,ρ,s,e,h⟩
 refine cR s e h λq H1 a x S1 st s1 e1 r1 h1=>?_;cases r1;cases a with
 |true=>exact⟨q,S1,ρ,s1,e1,h1⟩
 |false=>exact bU.ret (R:=RB) h1 s1 rfl
theorem acS{gB:List ah}(ha:gC K cl E X a mt)(hb:kC K cl E X (.BoolOp .Or (b::gB) pos) nt):kC K cl E X (.BoolOp .Or (a::b::gB) pos) (oV mt nt):=by
 intro hK;subst hK;refine PW.imp (aem (ha rfl) (hb rfl)) ?_
 rintro σ H Q ⟨p,S,ρ,s,e,h⟩
 refine cR s e h λq H1 a x S1 st s1 e1 r1 h1=>?_;cases r1;cases a with
 |true=>exact bU.ret (R:=RB) h1 s1 rfl
 |false=>exact⟨q,S1,ρ,s1,e1,h1⟩
theorem ace{gB:List ah}(ha:aX K cl E X a ma)(hb:aX K cl E X (.BoolOp .And (b::gB) pos) mb):aX K cl E X (.BoolOp .And (a::b::gB) pos) (uF ma mb):=by
 intro hK;subst hK;refine(ac3 (ha rfl) (hb rfl)).imp ?_
 rintro σ H Q ⟨p,S,ρ,s,e,h⟩
 refine cR s e h λq H1 a x S1 st s1 e1 r1 h1=>?_;cases a with
 |ref k=>exact h1.elim
 |pv v=>
  cases v with
  |bl b=>
   refine⟨b,Hu r1 rfl,?_⟩;cases b with
   |true=>exact⟨q,S1,ρ,s1,e1,h1⟩
   |false=>exact bU.ret (R:=bY X.K) h1 s1 (by show aR X.K q.c H1 _ _;unfold aR;rfl)
  |_=>exact h1.elim
theorem acu(ha:aX K cl E X a ma):aX K cl E X (.UnaryOp .Not a pos) (bO qE ma):=by
 intro hK;subst hK;refine(aca (ha rfl)).imp ?_
 rintro σ H Q ⟨p,S,ρ,s,e,h⟩
 refine cR s e h λq H1 a x S1 st s1 e1 r1 h1=>?_;refine Kb (r:=λx H Q=>∃c,x=.bl c/\Q (.bl (!c)) H) (f:=qE) (λ{p S H a c x Q} s r e k=>?_) s1 r1 h1;cases a with
 |bl b=>
  cases e;exact⟨b,r.bl,k H _ (dR.refl H) (by unfold aR;rfl)⟩
 |_=>cases e
theorem adZ(hc:gC K cl E X c mt)(ha:aX K cl E X a ma)(hb:aX K cl E X b mb):aX K cl E X (.IfExp c a b pos) (zI mt ma mb):=by
 intro hK;subst hK;refine(R0 (hc rfl) (ha rfl) (hb rfl)).imp ?_
 rintro σ H Q ⟨p,S,ρ,s,e,h⟩
 refine cR s e h λq H1 a x S1 st s1 e1 r1 h1=>?_;cases r1;cases a with
 |true=>exact⟨q,S1,ρ,s1,e1,h1⟩
 |false=>exact⟨q,S1,ρ,s1,e1,h1⟩
theorem aba:eW K cl E X [] aD:=λ_=>(PA.imp rH λσ H Q ⟨p,S,ρ,s,e,h⟩=>bU.ret (R:=gM K) h s .nil)
theorem M2(ha:aX K cl E X e m)(hr:eW K cl E X es ms)(hs:starEach (e::es) X.env=(false,eval e X.env)::starEach es X.env:=by rfl):eW K cl E X (e::es) (aB m ms):=by
 intro hK;subst hK;refine PA.imp (pN (ha rfl) (hr rfl) hs) ?_
 rintro σ H Q ⟨p,S,ρ,s,e,h⟩
 exact cR s e h λq H1 a x S1 st s1 e1 r1 h1=>cR s1 e1 h1 λq2 H2 b y S2 st2 s2 e2 r2 h2=>bU.ret (R:=gM X.K) h2 s2 (.cons (st2.repA r1) r2)
theorem pO{p:Ph}{S:aG}{H:Hp}{vs:AH}{xs:List V}{t:Addr}(s:aV K p S H)(r:aT K p.c H vs xs)(z:xs.length<=sizeLine)(ht:H t=none):aR K p.c (aY H t (.tup xs)) (.tup vs) (.ref t):=by
 unfold aR;exact⟨t,xs,rfl,dJ.of fH,z,(s.same (iM ht)).reps r⟩
theorem pP{p:Ph}{S:aG}{H:Hp}{vs:AH}{xs:List V}{t:Addr}(s:aV K p S H)(r:aT K p.c H vs xs)(z:xs.length<=sizeLine)(ht:H t=none):aR K p.c (aY H t (.lst xs)) (.lst vs) (.ref t):=by
 unfold aR;refine⟨t,xs,rfl,.inl ⟨fH,λc=>?_⟩,z,(s.same (iM ht)).reps r⟩;obtain⟨o,e,_⟩:=s.mu t c;rw[ht]at e;cases e
theorem jG:sizeLine=16777216:=kh
theorem acj{x1}(h:eW K cl E X es ms):aX K cl E X (.Tuple es x1 pos) (mN dF ms):=by
 intro hK;subst hK;refine(abX (h rfl)).imp ?_
 rintro σ H Q ⟨p,S,ρ,s,e,h⟩
 refine cR s e h λq H1 as xs S1 st s1 e1 r1 h1=>?_;refine Hl (r:=λxs H Q=>xs.length<=sizeLine/\∀t,H t=none->Q (.ref t) (aY H t (.tup xs))) (f:=dF) (λ{p S H as c xs Q} s r e k=>?_) s1 r1 h1;unfold dF at e;split at e
 .rename_i hl
  cases e;rw[r.length,<-jG]at hl;exact⟨hl,λt ht=>k _ _ (iM ht) (pO s r hl ht)⟩
 .cases e
theorem abQ(h:eW K cl E X es ms):aX K cl E X (.List es pos) (mN eP ms):=by
 intro hK;subst hK;refine(Xe (h rfl)).imp ?_
 rintro σ H Q ⟨p,S,ρ,s,e,h⟩
 refine cR s e h λq H1 as xs S1 st s1 e1 r1 h1=>?_;refine Hl (r:=λxs H Q=>xs.length<=sizeLine/\∀t,H t=none->Q (.ref t) (aY H t (.lst xs))) (f:=eP) (λ{p S H as c xs Q} s r e k=>?_) s1 r1 h1;unfold eP at e;split at e
 .rename_i hl
  cases e;rw[r.length,<-jG]at hl;exact⟨hl,λt ht=>k _ _ (iM ht) (pP s r hl ht)⟩
 .cases e
end
noncomputable section
open PySem PySem.Spec PyProof.Rows Bn
def dE:MS:=λρ S=>.nx ρ S
def aI(a b:MS):MS:=λρ S=>match a ρ S with
 |.nx ρ1 S1=>b ρ1 S1
 |r=>r
def dA(m:ME):MS:=λρ S=>cV.of (m ρ S) λ_ S1=>.nx ρ S1
def bG(m:ME):MS:=λρ S=>cV.of (m ρ S) λv S1=>.rt v S1
def oI:MS:=λ_ S=>.rt (.pv .non) S
def cS(c:MT)(a b:MS):MS:=λρ S=>cV.of (c ρ S) λt S1=>if t=true then a ρ S1 else b ρ S1
def aU(i:Nat)(m:ME):MS:=λρ S=>cV.of (m ρ S) λv S1=>.nx (ρ.set i (some v)) S1
def uP(i j:Nat)(m:MA):MS:=λρ S=>cV.of (m ρ S) λvs S1=>match vs with
 |[v,w]=>.nx ((ρ.set i (some v)).set j (some w)) S1
 |_=>.fail
abbrev GM:=PV->bV->Option bV
abbrev oW:=AH->bV->Option bV
def gN(i:Nat):GM:=λv ρ=>some (ρ.set i (some (.pv v)))
def eJ:oW:=λvs ρ=>match vs with
 |[]=>some ρ
 |_=>none
def cU(g:GM)(gs:oW):oW:=λvs ρ=>match vs with
 |[]=>none
 |v::r=>match g v ρ with
  |some ρ1=>gs r ρ1
  |none=>none
def gT(n:Nat)(gs:oW):GM:=λv ρ=>match v with
 |.tup vs=>if vs.length=n then gs vs ρ else none
 |_=>none
def yU(g:GM)(m:ME):MS:=λρ S=>cV.of (m ρ S) λv S1=>match v with
 |.pv v=>match g v ρ with
  |some ρ1=>.nx ρ1 S1
  |none=>.fail
 |_=>.fail
abbrev Gd:=List (Nat×AH)
def iP(G:Gd)(S:aG):Prop:=∀g∈G,S[g.1]?=some (.lst g.2)
theorem jS(S:aG):iP [] S:=λ_ h=>nomatch h
abbrev MI:=bV->aG->bQ (AH×Gd)
open Classical in
def dZ(G:Gd)(g:GM)(mb:MS):AH->bV->aG->cV
 |[],ρ,S=>if iP G S then .nx ρ S else .fail
 |x::r,ρ,S=>if iP G S then(match g x ρ with
  |none=>.fail
  |some ρ1=>match mb ρ1 S with
   |.nx ρ2 S2=>dZ G g mb r ρ2 S2
   |.ct ρ2 S2=>dZ G g mb r ρ2 S2
   |.bk ρ2 S2=>.nx ρ2 S2
   |.rt v S2=>.rt v S2
   |.exc n S2=>.exc n S2
   |.fail=>.fail)else .fail
def bJ(mi:MI)(g:GM)(mb:MS):MS:=λρ S=>cV.of (mi ρ S) λxs S1=>dZ xs.2 g mb xs.1 ρ S1
theorem fR{g:GM}{mb:MS}{ρ:bV}{S:aG}:dZ [] g mb [] ρ S=.nx ρ S:=by
 unfold dZ;rw[if_pos (jS S)]
theorem fG{g:GM}{mb:MS}{x:PV}{r:AH}{ρ:bV}{S:aG}:dZ [] g mb (x::r) ρ S=(match g x ρ with
  |none=>.fail
  |some ρ1=>match mb ρ1 S with
   |.nx ρ2 S2=>dZ [] g mb r ρ2 S2
   |.ct ρ2 S2=>dZ [] g mb r ρ2 S2
   |.bk ρ2 S2=>.nx ρ2 S2
   |.rt v S2=>.rt v S2
   |.exc n S2=>.exc n S2
   |.fail=>.fail):=by
 rw[dZ,if_pos (jS S)]
def eM(c:MT)(mb:MS):Nat->bV->aG->cV
 |0,_,_=>.fail
 |n+1,ρ,S=>cV.of (c ρ S) λt S1=>if t=true then(match mb ρ S1 with
   |.nx ρ2 S2=>eM c mb n ρ2 S2
   |.ct ρ2 S2=>eM c mb n ρ2 S2
   |.bk ρ2 S2=>.nx ρ2 S2
   |.rt v S2=>.rt v S2
   |.exc n S2=>.exc n S2
   |.fail=>.fail)else .nx ρ S1
open Classical in
def oC(c:MT)(mb:MS):MS:=λρ S=>if h:∃n,eM c mb n ρ S≠.fail then eM c mb h.choose ρ S else .fail
theorem cV.of_ok{α:Type}{r:bQ α}{k k':α->aG->cV}(h:∀a S,k a S≠.fail->k' a S=k a S)(n:cV.of r k≠.fail):cV.of r k'=cV.of r k:=by
 cases r with
 |ok a S=>exact h a S n
 |exc=>rfl
 |fail=>rfl
theorem Ba{c:MT}{mb:MS}:∀{n:Nat}{ρ:bV}{S:aG},eM c mb n ρ S≠.fail->eM c mb (n+1) ρ S=eM c mb n ρ S
 |0,_,_,h=>absurd rfl h
 |n+1,ρ,S,h=>by
  unfold eM at h;rw[eM]
  conv=>rhs;rw[eM]
  refine cV.of_ok (λt S1 h1=>?_) h
  by_cases ht:t=true
  .simp only[if_pos ht]at h1⊢
   cases z:mb ρ S1 with
   |nx ρ2 S2=>rw[z]at h1;exact Ba h1
   |ct ρ2 S2=>rw[z]at h1;exact Ba h1
   |_=>rfl
  .simp only[if_neg ht]at h1⊢
theorem Da{c:MT}{mb:MS}{n:Nat}{ρ:bV}{S:aG}(h:eM c mb n ρ S≠.fail):∀k,eM c mb (n+k) ρ S=eM c mb n ρ S
 |0=>rfl
 |k+1=>by
  have ih:=Da h k;rw[<-xj,Ba (by rw[ih];exact h),ih]
theorem Za{c:MT}{mb:MS}{n:Nat}{ρ:bV}{S:aG}{r:cV}(e:eM c mb n ρ S=r)(h:r≠.fail):oC c mb ρ S=r:=by
 have h':∃n,eM c mb n ρ S≠.fail:=⟨n,by rw[e];exact h⟩;unfold oC;rw[dif_pos h'];have e2:=h'.choose_spec;rcases Nat.le_total n h'.choose with l |l
 .obtain⟨k,q⟩:=d8 l
  rw[q,Da (by rw[e];exact h),e]
 .obtain⟨k,q⟩:=d8 l
  have z:=Da e2 k;rw[<-q,e]at z;exact z.symm
section
variable{K:ag}{cl:Str->Addr}{E:XK}{X:Cx}{a b c e tg:ah}{es:List ah}{m:ME}{mt:MT}{ms:MA}{b1 b2:MS}{st:Stmt}{sts sts':List Stmt}{pos:ai}
theorem dL.set{p:Ph}{H:Hp}{ρ:bV}{σ:St}{v:AV}{x:V}(h:dL K p H ρ σ)(r:bY K p H v x)(i:Nat):dL K p H (ρ.set i (some v)) (σ.set i (some x)):=by
 refine⟨by rw[fe,fe,h.len],λj u e=>?_⟩
 by_cases q:i=j
 .subst q
  by_cases l:i<ρ.length
  .rw[dq l]at e
   cases e;exact⟨x,dq (by rw[<-h.len];exact l),r⟩
  .rw[si (by rw[fe];omega)]at e
   cases e
 .rw[dr q]at e⊢
  exact h.at_ j u e
theorem V7:gS K cl E X [] dE:=λ_=>gK.imp aaL λD σ H ⟨p,S,ρ,s,e,h⟩=>h p H σ s.step s e
theorem eN.nxD{p:Ph}{H:Hp}{ρ:bV}{S:aG}{D:nN}(h:eN K cl p H (.nx ρ S) D E){σ:St}(s:aV K p S H)(e:dL K p H ρ σ):D.nx σ H:=h p H σ s.step s e
theorem B6(h1:eH K cl E X st b1)(h2:gS K cl E X sts b2):gS K cl E X (st::sts) (aI b1 b2):=by
 intro hK;subst hK;refine gK.imp (O9 (h1 rfl) (h2 rfl)) λD σ H ⟨p,S,ρ,s,e,h⟩=>⟨p,S,ρ,s,e,?_⟩;unfold aI at h;cases z:b1 ρ S with
 |nx ρ1 S1=>
  rw[z]at h;exact λq H' σ' stp sm ev=>⟨q,S1,ρ1,sm,ev,eN.mono (r:=b2 ρ1 S1) h stp⟩
 |bk ρ1 S1=>rw[z]at h;exact h
 |ct ρ1 S1=>rw[z]at h;exact h
 |rt v S1=>rw[z]at h;exact h
 |exc n S1=>rw[z]at h;exact h
 |fail=>rw[z]at h;exact h
theorem J1(h1:eH K cl E X st b1):gS K cl E X [st] b1:=λhK=>Kp (h1 hK)
theorem U3(he:aX K cl E X e m)(hs:swapsWith e none pos.line X.env=pure false:=by rfl):eH K cl E X (.Expr e pos) (dA m):=by
 intro hK;subst hK;refine PS.imp (aad (he rfl) hs) ?_
 rintro D σ H ⟨p,S,ρ,s,e,h⟩
 exact iT s e h λq H' a b S' stp sm ev r k=>eN.nxD k sm ev
theorem abB(he:aX K cl E X e m):eH K cl E X (.Return (some e) pos) (bG m):=by
 intro hK;subst hK;refine PS.imp (acF (he rfl)) ?_
 rintro D σ H ⟨p,S,ρ,s,e,h⟩
 exact iT s e h λq H' a b S' stp sm ev r k=>k q H' b sm.step sm r
theorem J3:eH K cl E X (.Return none pos) oI:=λ_=>PS.imp aaZ λD σ H ⟨p,S,ρ,s,e,h⟩=>h p H .non s.step s (by show aR K p.c H .non .non;unfold aR;rfl)
theorem acD(hc:gC K cl E X c mt)(ha:gS K cl E X sts b1)(hb:gS K cl E X sts' b2):eH K cl E X (.If c sts sts' pos) (cS mt b1 b2):=by
 intro hK;subst hK;refine PS.imp (adW (hc rfl) (ha rfl) (hb rfl)) ?_
 rintro D σ H ⟨p,S,ρ,s,e,h⟩
 refine iT s e h λq H' a b S' stp sm ev r k=>?_;cases r;cases a with
 |true=>exact⟨q,S',ρ,sm,ev,k⟩
 |false=>exact⟨q,S',ρ,sm,ev,k⟩
theorem Rp{i:Nat}{x:Str}{pos':ai}(hN:X.N.Nodup)(hi:X.N[i]?=some x)(hx:kT X.env.scope x)(he:aX K cl E X e m)(hs:swapsWith e (some (.Name x pos')) pos.line X.env=pure false:=by rfl)
  (hf:X.fn x=true\/X.env.scope.names.lookup x=some .local:=by first |exact .inl rfl |exact .inr rfl |assumption):eH K cl E X (.Assign [.Name x pos'] e pos) (aU i m):=by
 intro hK;subst hK;refine PS.imp (acM hN hi hx (he rfl) hs hf) ?_
 rintro D σ H ⟨p,S,ρ,s,e,h⟩
 exact iT s e h λq H' a b S' stp sm ev r k=>eN.nxD k sm (ev.set r i)
theorem aaQ{i j:Nat}{x y:Str}{px py pt:ai}{kt k2 fE}(hc:X.calm=true)(hN:X.N.Nodup)(hi:X.N[i]?=some x)(hj:X.N[j]?=some y)(hij:i≠j)
  (hx:X.env.scope.names.lookup x=some .local)(hy:X.env.scope.names.lookup y=some .local)(ha:eW K cl E X [a,b] ms)
  (hw:swappedStores [.Tuple [.Name x px,.Name y py] kt pt] (.Tuple [a,b] k2 fE) X.env=pure (some [x,y]))
  (hs:swapsWithSole [.Tuple [.Name x px,.Name y py] kt pt] (.Tuple [a,b] k2 fE) pos.line X.env=pure false:=by rfl):
  eH K cl E X (.Assign [.Tuple [.Name x px,.Name y py] kt pt] (.Tuple [a,b] k2 fE) pos) (uP i j ms):=by
 intro hK;subst hK;refine PS.imp (acz hc hN hi hj hij hx hy (ha rfl) hw hs) ?_
 rintro D σ H ⟨p,S,ρ,s,e,h⟩
 refine iT s e h λq H' vs xs S' stp sm ev r k=>?_;cases r with
 |nil=>exact k.elim
 |cons r1 rr=>
  cases rr with
  |nil=>exact k.elim
  |cons r2 rs=>
   cases rs with
   |nil=>exact⟨_,_,rfl,eN.nxD k sm ((ev.set r1 i).set r2 j)⟩
   |cons _ _=>exact k.elim
def gP(K:ag)(g:GM):TG:=λx σ H Q=>∃p S ρ v ρ',aV K p S H/\dL K p H ρ σ/\aR K p.c H v x/\g v ρ=some ρ'/\∀σ',dL K p H ρ' σ'->Q σ' H
def gPs(K:ag)(g:oW):nP:=λxs σ H Q=>∃p S ρ vs ρ',aV K p S H/\dL K p H ρ σ/\aT K p.c H vs xs/\g vs ρ=some ρ'/\∀σ',dL K p H ρ' σ'->Q σ' H
variable(K X)
def kQ(tg:ah)(g:GM):Prop:=X.K=K->PG X tg (gP K g)
def rV(ts:List ah)(g:oW):Prop:=X.K=K->mH X ts (gPs K g)
variable{K X}
theorem PG.imp{tg:ah}{t t':TG}(h:PG X tg t)(i:∀x σ H Q,t' x σ H Q->t x σ H Q):PG X tg t':=λAL s σ H v u Q I r q=>h AL s σ H v u Q I r (i v σ H Q q)
theorem mH.imp{ts:List ah}{t t':nP}(h:mH X ts t)(i:∀x σ H Q,t' x σ H Q->t x σ H Q):mH X ts t':=λAL s σ H v u Q I r q=>h AL s σ H v u Q I r (i v σ H Q q)
theorem Q5{i:Nat}{x:Str}(hN:X.N.Nodup)(hi:X.N[i]?=some x)(hx:kT X.env.scope x)(hf:X.fn x=true\/X.env.scope.names.lookup x=some .local:=by first |exact .inl rfl |exact .inr rfl |assumption):kQ K X (.Name x pos) (gN i):=
 λ_=>PG.imp (Dr hN hi hx hf) λx σ H Q ⟨p,S,ρ,v,ρ',s,ev,r,g,k⟩=>by
  cases g;exact k _ (ev.set (v:=.pv v) r i)
theorem N8:rV K X [] eJ:=λ_=>mH.imp aax λxs σ H Q ⟨p,S,ρ,vs,ρ',s,ev,r,g,k⟩=>by
 cases vs with
 |nil=>
  cases g;unfold aT at r;exact⟨r,k _ ev⟩
 |cons _ _=>cases g
theorem E7{g:GM}{gs:oW}(h1:kQ K X e g)(h2:rV K X es gs)(hs:(assignEach (e::es) X.env).map (·.2)=assign e X.env::(assignEach es X.env).map (·.2):=by rfl):rV K X (e::es) (cU g gs):=by
 intro hK;subst hK;refine mH.imp (K3 (h1 rfl) (h2 rfl) hs) ?_
 rintro xs σ H Q ⟨p,S,ρ,vs,ρ',s,ev,r,g1,k⟩
 cases vs with
 |nil=>cases g1
 |cons v vr=>
  unfold aT at r;obtain⟨x,xr,rfl,r1,r2⟩:=r;unfold cU at g1;cases z:g v ρ with
  |none=>simp only[z]at g1;cases g1
  |some ρ1=>
   simp only[z]at g1;exact⟨x,xr,rfl,p,S,ρ,v,ρ1,s,ev,r1,z,λσ' ev'=>⟨p,S,ρ1,vr,ρ',s,ev',r2,g1,k⟩⟩
theorem aaC{k:Nat}{gs:oW}{n:Nat}(hc:X.calm=true)(h:rV K X es gs)(hn:(assignEach es X.env).length=n:=by rfl)(hst:(assignEach es X.env).findIdx? (·.1)=none:=by rfl):kQ K X (.Tuple es k pos) (gT n gs):=by
 intro hK;subst hK;refine PG.imp (acP hc (h rfl) hn hst) ?_
 rintro x σ H Q ⟨p,S,ρ,v,ρ',s,ev,r,g1,k⟩
 cases v with
 |tup vs=>
  unfold aR at r;obtain⟨a,xs,rfl,t,z,r⟩:=r;unfold gT at g1;dsimp only at g1;split at g1
  .rename_i hl
   exact⟨a,xs,rfl,t,r.length.symm.trans hl,p,S,ρ,vs,ρ',s,ev,r,g1,k⟩
  .cases g1
 |_=>cases g1
theorem aaM{g:GM}(he:aX K cl E X e m)(hg:kQ K X tg g)(hs:swapsWithSole [tg] e pos.line X.env=pure false:=by rfl)(hw:swappedStores [tg] e X.env=pure none:=by rfl)
  (h1:(assignEach [tg] X.env).map (·.2)=[assign tg X.env]:=by rfl):eH K cl E X (.Assign [tg] e pos) (yU g m):=by
 intro hK;subst hK;refine PS.imp (wY (he rfl) (hg rfl) hs hw h1) ?_
 rintro D σ H ⟨p,S,ρ,s,e,h⟩
 refine iT s e h λq H' a b S' stp sm ev r k=>?_;cases a with
 |ref k'=>exact k.elim
 |pv v=>
  dsimp only at k;cases z:g v ρ with
  |none=>simp only[z]at k;exact k.elim
  |some ρ1=>
   simp only[z]at k;exact⟨q,S',ρ,v,ρ1,sm,ev,r,z,λσ' ev'=>eN.nxD k sm ev'⟩
def fI(K:ag)(p:Ph)(H:Hp)(xs:AH×Gd)(J:It):Prop:=xs.1.length<=sizeLine/\∀q H1 S1,bP p H q H1->aV K q S1 H1->iP xs.2 S1->
 (∀(i:Nat)(v:PV),xs.1[i]?=some v->J.go i H1/\∀x H2,J.yld i H1 x H2->dR H1 H2/\aR K q.c H2 v x)/\J.stop xs.1.length H1
theorem fI.step{p q:Ph}{H H':Hp}{xs:AH×Gd}{J:It}(h:fI K p H xs J)(s:bP p H q H'):fI K q H' xs J:=⟨h.1,λr H1 S1 t=>h.2 r H1 S1 (s.trans t)⟩
variable(K cl E X)
def PIp(tg iter:ah)(m:MI):Prop:=X.K=K->PI X tg iter (tP K cl E (fI K) m)
variable{K cl E X}
theorem PI.imp{tg iter:ah}{t t':TI}(h:PI X tg iter t)(i:∀σ H Q,t' σ H Q->t σ H Q):PI X tg iter t':=λAL s σ H R I q=>h AL s σ H R I (i σ H R q)
def aeD(K:ag)(tl:TE):TI:=λσ H R=>tl σ H λx H1=>∃a,x=.ref a/\(((∃xs,cJ K H1 a xs)/\R (yX K a) H1)\/((∃xs,dJ K H1 a xs)/\R (Fh K a) H1))
theorem Ts{l:ah}{tl:TE}(hl:PE X l tl):PI X tg l (aeD X.K tl):=by
 intro AL s σ H R I h;refine bH (hl AL s σ H _ I h) ?_
 rintro v s1 ⟨x,H1,I1,r1,q1⟩
 obtain⟨a,e,q⟩:=q1;subst e;cases r1;rcases q with⟨⟨xs,hq⟩,q⟩|⟨⟨xs,hq⟩,q⟩
 .obtain⟨its,rv,p,hz⟩:=I1.list hq
  refine qz p.isList ?_;refine⟨s1.heap.objs.size,[s1.heap.objs.size],_,_,H1,rfl,I1.kept (t':=s1.toks) λb o e=>ax _ e,Xz a _,⟨_,cw _ rfl,rfl,rfl⟩,λb hb=>?_,q⟩;have e:b=s1.heap.objs.size:=by simpa using hb
  subst e;exact I1.fpOk (aj _) (I1.hok.fresh (aj _))
 .obtain⟨its,rv,p,hz⟩:=I1.tuple hq
  refine c7 (show s1.heap.IsTuple a its.toArray from p) ?_;refine⟨s1.heap.objs.size,[s1.heap.objs.size],_,_,H1,rfl,I1.kept (t':=s1.toks) λb o e=>ax _ e,Iz a _,⟨_,cw _ rfl,rfl,rfl⟩,λb hb=>?_,q⟩;have e:b=s1.heap.objs.size:=by simpa using hb
  subst e;exact I1.fpOk (aj _) (I1.hok.fresh (aj _))
def bW:AV->aG->bQ (AH×Gd)
 |.pv (.lst xs),S=>.ok (xs,[]) S
 |.pv (.tup xs),S=>.ok (xs,[]) S
 |.ref k,S=>match S[k]? with
  |some (.lst xs)=>.ok (xs,[(k,xs)]) S
  |_=>.fail
 |_,_=>.fail
def bB(m:ME):MI:=λρ S=>(m ρ S).bind bW
theorem acA{p:Ph}{H:Hp}{xs:AH}{a:Addr}{vs:List V}(l:kS K p.c H a vs)(z:vs.length<=sizeLine)(r:aT K p.c H xs vs):fI K p H (xs,[]) (yX K a):=by
 refine⟨by rw[r.length];exact z,λq H1 S1 st _ _=>⟨λi v e=>?_,?_⟩⟩
 .have l1:=(st.lat l).sq
  obtain⟨x,e1,r1⟩:=(st.reps r).get e;refine⟨⟨vs,x,l1,e1⟩,λy H2 hy=>?_⟩;obtain⟨rfl,hy⟩:=hy;have:=(hy vs l1).symm.trans e1;cases this;exact⟨dR.refl _,r1⟩
 .exact⟨vs,(st.lat l).sq,by rw[r.length];exact aj _⟩
theorem ab4{p:Ph}{H:Hp}{xs:AH}{a:Addr}{vs:List V}(l:dJ K H a vs)(z:vs.length<=sizeLine)(r:aT K p.c H xs vs):fI K p H (xs,[]) (Fh K a):=by
 refine⟨by rw[r.length];exact z,λq H1 S1 st _ _=>⟨λi v e=>?_,?_⟩⟩
 .have l1:=st.tup l
  obtain⟨x,e1,r1⟩:=(st.reps r).get e;refine⟨⟨vs,x,l1,e1⟩,λy H2 hy=>?_⟩;obtain⟨rfl,hy⟩:=hy;have:=(hy vs l1).symm.trans e1;cases this;exact⟨dR.refl _,r1⟩
 .exact⟨vs,st.tup l,by rw[r.length];exact aj _⟩
theorem ab8{p:Ph}{H:Hp}{xs:AH}{a:Addr}{k:Nat}{n:xs.length<=sizeLine}(hf:p.f[k]?=some a):fI K p H (xs,[(k,xs)]) (yX K a):=by
 refine⟨n,λq H1 S1 st sm g=>?_⟩;have e0:S1[k]?=some (.lst xs):=g (k,xs) bh;obtain⟨vs,h1,l1,r1⟩:=sm.obj k a _ (st.at_ hf) e0;refine⟨λi v e=>?_,?_⟩
 .obtain⟨x,e1,r2⟩:=r1.get e
  refine⟨⟨vs,x,cJ.of h1,e1⟩,λy H2 hy=>?_⟩;obtain⟨rfl,hy⟩:=hy;have:=(hy vs (cJ.of h1)).symm.trans e1;cases this;exact⟨dR.refl _,r2⟩
 .exact⟨vs,cJ.of h1,by rw[r1.length];exact aj _⟩
theorem aaa(h:aX K cl E X e m):PIp K cl E X tg e (bB m):=by
 intro hK;subst hK;refine PI.imp (Ts (h rfl)) ?_
 rintro σ H R ⟨p,S,ρ,s,ev,h⟩
 refine cR s ev h λq H' v x S' stp sm ev r k=>?_;cases v with
 |ref j=>
  obtain⟨a,e,rfl⟩:=r;unfold bW at k;dsimp only at k;cases z:S'[j]? with
  |none=>rw[z]at k;exact k.elim
  |some o=>
   cases o with
   |lst xs=>
    rw[z]at k;obtain⟨vs,h1,l1,r1⟩:=sm.obj j a _ e z;exact⟨a,rfl,.inl ⟨⟨vs,cJ.of h1⟩,bU.ret (R:=fI X.K) k sm (ab8 (n:=by rw[r1.length];exact l1) e)⟩⟩
   |lol _=>rw[z]at k;exact k.elim
   |dic _ _=>rw[z]at k;exact k.elim
   |dol _ _=>rw[z]at k;exact k.elim
 |pv v=>
  cases v with
  |lst xs=>
   have r:aR X.K q.c H' (.lst xs) x:=r;unfold aR at r;obtain⟨a,vs,rfl,l,z,r⟩:=r;exact⟨a,rfl,.inl ⟨⟨vs,l.sq⟩,bU.ret (R:=fI X.K) k sm (acA l z r)⟩⟩
  |tup xs=>
   have r:aR X.K q.c H' (.tup xs) x:=r;unfold aR at r;obtain⟨a,vs,rfl,l,z,r⟩:=r;exact⟨a,rfl,.inr ⟨⟨vs,l⟩,bU.ret (R:=fI X.K) k sm (ab4 l z r)⟩⟩
  |_=>exact k.elim
def dH(lo:Int)(n:Nat):AH:=(cj n).map λi=>.int (lo+(i:Nat))
def gR:AK->aG->bQ (AH×Gd)
 |[.pv (.int j)],S1=>@ite _ (j<=16777216/\-16777216<=j) (sj _) (.ok (dH 0 j.toNat,[]) S1) .fail
 |_,_=>.fail
def cG(ms:MA):MI:=λρ S=>(ms ρ S).bind gR
def yL:AK->aG->bQ (AH×Gd)
 |[.pv (.int i),.pv (.int j)],S1=>@ite _ ((-4611686018427387904<=i/\i<4611686018427387904/\-4611686018427387904<=j/\j<4611686018427387904)/\j-i<=16777216) (sj _) (.ok (dH i (j-i).toNat,[]) S1) .fail
 |_,_=>.fail
def nY(ms:MA):MI:=λρ S=>(ms ρ S).bind yL
theorem Js{p:Ph}{H:Hp}{lo:Int}{n:Nat}(h:n<=sizeLine):fI K p H (dH lo n,[]) (uR lo n):=by
 have hl:(dH lo n).length=n:=by unfold dH;rw[am,d9]
 refine⟨by show(dH lo n).length<=_;rw[hl];exact h,λq H1 S1 st _ _=>⟨λi v e=>?_,?_⟩⟩
 .have hi:i<n:=by
   have:=(ca.mp (show(dH lo n)[i]?=some v from e)).1;omega
  refine⟨hi,λx H2 hy=>?_⟩;obtain⟨rfl,rfl⟩:=hy;have e:(dH lo n)[i]?=some v:=e;unfold dH at e;rw[bo,List.getElem?_range hi]at e;cases e;refine⟨dR.refl _,?_⟩;unfold aR;rfl
 .show n<=(dH lo n).length
  rw[hl];exact aj n
theorem Hz{p:ai}(hg:Gl X "range")(hm:X.mg "range"=none)(ha:eW K cl E X [a] ms)(hs:starEach [a] X.env=[(false,eval a X.env)]:=by rfl):PIp K cl E X tg (.Call (.Name "range" p) [a] [] pos) (cG ms):=by
 intro hK;subst hK;refine PI.imp (B0 hg hm (ha rfl) hs) ?_
 rintro σ H R ⟨p,S,ρ,s,ev,h⟩
 refine cR s ev h λq H' vs xs S' stp sm ev r k=>?_;unfold gR at k;split at k
 .rename_i j
  cases r with
  |cons r1 r2=>
   cases r2;rename_i x;have e:x=.int j:=by
    have r1:aR X.K q.c H' (.int j) x:=r1;unfold aR at r1;exact r1
   subst e;split at k
   .rename_i hj
    have hz:=jG;exact⟨j,rfl,by omega,by omega,bU.ret (R:=fI X.K) k sm (Js (by omega))⟩
   .exact k.elim
 .exact k.elim
theorem Cz{p:ai}(hg:Gl X "range")(hm:X.mg "range"=none)(ha:eW K cl E X [a,b] ms)(hs:starEach [a,b] X.env=[(false,eval a X.env),(false,eval b X.env)]:=by rfl)(hs2:starEach [b] X.env=[(false,eval b X.env)]:=by rfl):PIp K cl E X tg (.Call (.Name "range" p) [a,b] [] pos) (nY ms):=by
 intro hK;subst hK;refine PI.imp (B9 hg hm (ha rfl) hs hs2) ?_
 rintro σ H R ⟨p,S,ρ,s,ev,h⟩
 refine cR s ev h λq H' vs xs S' stp sm ev r k=>?_;unfold yL at k;split at k
 .rename_i i j
  cases r with
  |cons r1 r2=>
   cases r2 with
   |cons r2 r3=>
    cases r3;rename_i x y;have e:x=.int i:=by
     have r1:aR X.K q.c H' (.int i) x:=r1;unfold aR at r1;exact r1
    have e2:y=.int j:=by
     have r1:aR X.K q.c H' (.int j) y:=r2;unfold aR at r1;exact r1
    subst e e2;split at k
    .rename_i hj
     have hz:=jG;exact⟨i,j,rfl,by omega,bU.ret (R:=fI X.K) k sm (Js (by omega))⟩
    .exact k.elim
 .exact k.elim
theorem aaz{mi:MI}{g:GM}(hp:oo (model X.prog X.w) X.A X.env X.xe)(hc:X.calm=true)(hi:PIp K cl E X tg e mi)(hg:kQ K X tg g)(hb:gS K cl E X sts b1)
  (hs:∀x,foldedSetIterable e X.env x=pure x:=by intro _;rfl):eH K cl E X (.For tg e sts [] pos) (bJ mi g b1):=by
 intro hK;subst hK;refine PS.imp (Vt hp hc (hi rfl) (hg rfl) (hb rfl) hs) ?_
 rintro D σ H ⟨p,S,ρ,s,ev,h⟩
 refine iT s ev h λq H' xg J S' stp sm ev it k=>?_;obtain⟨xs,G⟩:=xg;refine⟨λi n σ H=>n=xs.length-i/\i<=xs.length/\∃p S ρ,aV X.K p S H/\dL X.K p H ρ σ/\fI X.K p H (xs,G) J/\eN X.K cl p H (dZ G g b1 (xs.drop i) ρ S) D E,⟨xs.length,by simp,fw _,q,S',ρ,sm,ev,it,by simpa using k⟩,?_⟩
 rintro i n σ1 H1 ⟨rfl,hi,p1,S1,ρ1,sm1,ev1,it1,k1⟩
 by_cases hlt:i<xs.length
 .have hx:xs[i]?=some xs[i]:=ay hlt
  rw[sk hlt]at k1;unfold dZ at k1;split at k1
  .rename_i gk
   obtain⟨g1,y1⟩:=(it1.2 p1 H1 S1 sm1.step sm1 gk).1 i _ hx;cases z:g xs[i] ρ1 with
   |none=>simp only[z]at k1;exact k1.elim
   |some ρ2=>
    simp only[z]at k1;refine .inr ⟨g1,λσ' H'=>i+1<=xs.length/\∃p S ρ,aV X.K p S H'/\dL X.K p H' ρ σ'/\fI X.K p H' (xs,G) J/\eN X.K cl p H' (dZ G g b1 (xs.drop (i+1)) ρ S) D E,λσ' H' hN=>⟨xs.length-(i+1),by omega,rfl,hN⟩,λx H2 hy=>?_⟩;obtain⟨same,rx⟩:=y1 x H2 hy;have st2:=sm1.same same;have sm2:=sm1.ofSame same;refine⟨p1,S1,ρ1,xs[i],ρ2,sm2,st2.repE ev1,rx,z,λσ3 ev3=>⟨p1,S1,ρ2,sm2,ev3,?_⟩⟩;have it2:=it1.step st2;cases y:b1 ρ2 S1 with
    |nx ρ4 S4=>
     rw[y]at k1;exact λq5 H5 σ5 st5 sm5 ev5=>⟨hlt,q5,S4,ρ4,sm5,ev5,it2.step st5,eN.mono (r:=dZ G g b1 (xs.drop (i+1)) ρ4 S4) k1 (st2.trans st5)⟩
    |ct ρ4 S4=>
     rw[y]at k1;exact λq5 H5 σ5 st5 sm5 ev5=>⟨hlt,q5,S4,ρ4,sm5,ev5,it2.step st5,eN.mono (r:=dZ G g b1 (xs.drop (i+1)) ρ4 S4) k1 (st2.trans st5)⟩
    |bk ρ4 S4=>rw[y]at k1;exact eN.mono (r:=.nx ρ4 S4) k1 st2
    |rt v S4=>rw[y]at k1;exact eN.mono (r:=.rt v S4) k1 st2
    |exc v S4=>rw[y]at k1;exact eN.mono (r:=.exc v S4) k1 st2
    |fail=>rw[y]at k1;exact k1.elim
  .exact k1.elim
 .have e:i=xs.length:=by omega
  subst e;rw[sr]at k1;unfold dZ at k1;split at k1
  .rename_i gk
   exact .inl ⟨(it1.2 p1 H1 S1 sm1.step sm1 gk).2,eN.nxD k1 sm1 ev1⟩
  .exact k1.elim
theorem Zz(hp:oo (model X.prog X.w) X.A X.env X.xe)(hc:gC K cl E X c mt)(hb:gS K cl E X sts b1):eH K cl E X (.While c sts [] pos) (oC mt b1):=by
 intro hK;subst hK;refine PS.imp (R5 hp (hc rfl) (hb rfl)) ?_
 rintro D σ H ⟨p,S,ρ,s,ev,h⟩
 unfold oC at h;split at h
 .rename_i hh
  refine⟨λn σ H=>∃p S ρ,aV X.K p S H/\dL X.K p H ρ σ/\eN X.K cl p H (eM mt b1 n ρ S) D E,⟨_,p,S,ρ,s,ev,h⟩,?_⟩
  rintro n σ1 H1 ⟨p1,S1,ρ1,sm1,ev1,k1⟩
  cases n with
  |zero=>exact k1.elim
  |succ n=>
   unfold eM at k1;refine iT sm1 ev1 k1 λq H2 t t' S2 stp sm2 ev2 r k2=>?_;cases r;cases t with
   |true=>
    rw[if_pos rfl]at k2⊢;refine⟨λσ' H'=>∃p S ρ,aV X.K p S H'/\dL X.K p H' ρ σ'/\eN X.K cl p H' (eM mt b1 n ρ S) D E,λσ' H' hN=>⟨n,xk n,hN⟩,q,S2,ρ1,sm2,ev2,?_⟩;cases y:b1 ρ1 S2 with
    |nx ρ4 S4=>
     rw[y]at k2;exact λq5 H5 σ5 st5 sm5 ev5=>⟨q5,S4,ρ4,sm5,ev5,eN.mono (r:=eM mt b1 n ρ4 S4) k2 st5⟩
    |ct ρ4 S4=>
     rw[y]at k2;exact λq5 H5 σ5 st5 sm5 ev5=>⟨q5,S4,ρ4,sm5,ev5,eN.mono (r:=eM mt b1 n ρ4 S4) k2 st5⟩
    |bk ρ4 S4=>rw[y]at k2;exact k2
    |rt v S4=>rw[y]at k2;exact k2
    |exc v S4=>rw[y]at k2;exact k2
    |fail=>rw[y]at k2;exact k2.elim
   |false=>
    rw[if_neg ie]at k2⊢;exact eN.nxD k2 sm2 ev2
 .exact h.elim
end
end
def jV(n:Nat)(xs:AK):bV:=xs.map some++zb (n-xs.length) none
def nC(n:Nat):AV->aG->bQ AV
 |.pv v,S=>.ok (.pv v) (S.take n)
 |.ref k,S=>if k<n then .ok (.ref k) (S.take n)else match S[k]? with
  |some (.lst xs)=>.ok (.ref n) (S.take n++[.lst xs])
  |some (.dic b kvs)=>.ok (.ref n) (S.take n++[.dic b kvs])
  |_=>.fail
def frz(n:Nat):bQ AV->bQ AV
 |.ok (.ref k) S=>if k<n then .ok (.ref k) S else match S[k]? with
  |some (.lst xs)=>.ok (.pv (.lst xs)) (S.take n)
  |_=>.fail
 |r=>r
def oG(n:Nat):cV->bQ AV
 |.rt v S=>nC n v S
 |.nx _ S=>.ok (.pv .non) (S.take n)
 |.exc e S=>.exc e (S.take n)
 |_=>.fail
def aS(np n:Nat)(b:MS)(xs:AK)(S:aG):bQ AV:=if xs.length=np then oG S.length (b (jV n xs) S)else .fail
def lE{α:Type}:bQ α->bQ α
 |.ok a S=>.ok a S
 |_=>.fail
abbrev FM:=AK->aG->bQ AV
def gZ(f:FM)(ds:AH)(ms:MA):ME:=λρ S=>(ms ρ S).bind λxs S1=>frz S1.length (f (xs++ds.map .pv) S1)
def aJ(f:FM)(ds:AH)(ms:MA):ME:=λρ S=>(ms ρ S).bind λxs S1=>frz S1.length (lE (f (xs++ds.map .pv) S1))
def uA(f:FM)(ds:AH)(ms:MA):ME:=λρ S=>(ms ρ S).bind λxs S1=>lE (f (xs++ds.map .pv) S1)
def lK(K:ag)(cl:Str->Addr)(f:FM):Sp:=λvs H Q E=>∃p S xs,aV K p S H/\gM K p H xs vs/\bU K cl (bY K) p H (f xs S) Q E
def lI(K:ag)(cl:Str->Addr)(f:FM):Sp:=λvs H Q _=>lK K cl f vs H Q E0
section
variable{K:ag}{cl:Str->Addr}{p q:Ph}{H H':Hp}{S S':aG}
theorem Mj{c c':Addr->Prop}(h:∀a,c a->c' a){a:Addr}{vs:List V}(l:kS K c' H a vs):kS K c H a vs:=by
 rcases l with⟨l,n⟩|l |l
 .exact .inl ⟨l,λz=>n (h a z)⟩
 .exact .inr (.inl l)
 .exact .inr (.inr l)
theorem pH{c c':Addr->Prop}(h:∀a,c a->c' a){ps:AH}{vs:List V}(r:aT K c' H ps vs):aT K c H ps vs:=aT.mono (λ_ _ t=>t) (λ_ _ l=>Mj h l) ps vs r
theorem Jj{c c':Addr->Prop}(h:∀a,c a->c' a){v:PV}{x:V}(r:aR K c' H v x):aR K c H v x:=aR.mono (λ_ _ t=>t) (λ_ _ l=>Mj h l) v x r
theorem Fy{f g:List Addr}(h:f <+:g):g.take f.length=f:=by
 obtain⟨t,e⟩:=h;rw[<-e,List.take_left]
theorem qT{α:Type}:∀{l:List α}{i j:Nat}{a:α},l.Nodup->l[i]?=some a->l[j]?=some a->i=j
 |[],i,j,a,_,e,_=>by simp at e
 |b::l,0,0,a,_,_,_=>rfl
 |b::l,0,j+1,a,n,e,f=>by
  simp at e f;subst e;exact absurd (cx f) (kx.mp n).1
 |b::l,i+1,0,a,n,e,f=>by
  simp at e f;subst f;exact absurd (cx e) (kx.mp n).1
 |b::l,i+1,j+1,a,n,e,f=>by
  exact congrArg (·+1) (qT (l:=l) (a:=a) (kx.mp n).2 (by simpa using e) (by simpa using f))
theorem aV.cutX(D:Addr->Prop)(s:aV K p S H)(st:bP p H q H')(s':aV K q S' H')(hD:∀b,D b->H b=none)(hq:(∀b,D b->b∈q.f)\/∀k o,S'[k]?=some o->k<S.length->∃xs,o=.lst xs):
  let r:Ph:=⟨p.f,λb=>q.w b/\¬D b,λb=>q.c b/\¬D b⟩
  bP p H r H'/\aV K r (S'.take S.length) H':=by
 intro r;have nD:∀a,p.c a->¬D a:=λa c d=>by
  obtain⟨o,ho,_⟩:=s.mu a c;rw[hD a d]at ho;cases ho
 have le:S.length<=S'.length:=by
  have:=st.pre.length_le;rw[<-s.len,<-s'.len];exact this
 refine⟨⟨s.wc,s.mu,jr,λa h=>⟨st.mw a h,nD a (s.wc a h)⟩,λa h=>⟨st.mono a h,nD a h⟩,λ_ h g=>absurd h g,λa h=>st.nw a h.1,λa h=>st.nc a h.1,st.keep⟩,s.nd,by rw[s.len,jm];omega,λa h=>⟨st.mw a (s.sub a h),nD a (s.wc a (s.sub a h))⟩,λa h=>⟨s'.wc a h.1,h.2⟩,λa h=>s'.mu a h.1,λk a o e1 e2=>?_⟩;have hk:k<S.length:=by
  have:=(ca.mp e1).1;rw[<-s.len];exact this
 have e2':S'[k]?=some o:=by
  rw[sv,if_pos hk]at e2;exact e2
 have z:=s'.obj k a o (st.at_ e1) e2';have shr:∀xs vs,aT K q.c H' xs vs->aT K r.c H' xs vs:=λxs vs=>pH (λb h=>h.1);have sub:∀b,b∉q.f->b∉p.f:=λb n h=>n (st.pre.subset h);rcases hq with hq |hq
 .exact z.mono (λ_ e=>e) (λb w f=>⟨⟨⟨w,λd=>f (hq b d)⟩,sub b f⟩,λ_ e=>e⟩) shr
 .obtain⟨xs,rfl⟩:=hq k o e2' hk
  obtain⟨vs,e,l,g⟩:=z;exact⟨vs,e,l,shr xs vs g⟩
theorem aV.cut(s:aV K p S H)(st:bP p H q H')(s':aV K q S' H'):bP p H ⟨p.f,λb=>q.w b/\¬False,λb=>q.c b/\¬False⟩ H'/\aV K ⟨p.f,λb=>q.w b/\¬False,λb=>q.c b/\¬False⟩ (S'.take S.length) H':=
 s.cutX (λ_=>False) st s' (λ_ h=>h.elim) (.inl λ_ h=>h.elim)
theorem Ib(s:aV K p S H)(st:bP p H q H')(sm:aV K q S' H'){k:Nat}{a:Addr}(e:q.f[k]?=some a)(hk:¬k<S.length):a∉p.f/\H a=none/\¬p.c a:=by
 have na:a∉p.f:=λhm=>by
  obtain⟨j,hj,ej⟩:=nu hm;have e2:q.f[j]?=some a:=st.at_ (by rw[ay hj,ej]);have hjk:j=k:=qT sm.nd e2 e;rw[s.len]at hj;omega
 have hn:=st.nf a (cx e) na;refine⟨na,hn,λc=>?_⟩;obtain⟨o,ho,_⟩:=s.mu a c;rw[hn]at ho;cases ho
theorem Lc{r:bQ AV}{Q:VK}{E:XK}(s:aV K p S H)(h:bU K cl (bY K) p H (frz S.length r) Q E):bU K cl (bY K) p H r Q E:=by
 cases r with
 |exc n S1=>exact h
 |fail=>exact h
 |ok v S1=>
  cases v with
  |pv v=>exact h
  |ref k=>
   have h:bU K cl (bY K) p H (if k<S.length then .ok (.ref k) S1 else match S1[k]? with
    |some (.lst xs)=>.ok (.pv (.lst xs)) (S1.take S.length)
    |_=>.fail) Q E:=h
   split at h
   .exact h
   .rename_i hk
    cases z:S1[k]? with
    |none=>rw[z]at h;exact h.elim
    |some o=>
     cases o with
     |lol _=>rw[z]at h;exact h.elim
     |dic _ _=>rw[z]at h;exact h.elim
     |dol _ _=>rw[z]at h;exact h.elim
     |lst xs=>
      rw[z]at h;intro q H' x st sm r;obtain⟨a,e,rfl⟩:=r;obtain⟨na,hn,nc⟩:=Ib s st sm e hk;obtain⟨st1,sm1⟩:=s.cutX (λb=>b=a) st sm (λb d=>d▸hn) (.inl λb d=>d▸cx e);obtain⟨vs,h1,l,r⟩:=sm.obj k a _ e z;refine h _ H' (.ref a) st1 sm1 ?_;show aR K (λb=>q.c b/\¬b=a) H' (.lst xs) (.ref a);unfold aR;exact⟨a,vs,rfl,.inl ⟨h1,λd=>d.2 rfl⟩,l,pH (λb h=>h.1) r⟩
theorem Ja{r:cV}{Q:VK}{E:XK}(s:aV K p S H)(h:bU K cl (bY K) p H (oG S.length r) Q E):eN K cl p H r {nx:=λ_ H'=>Q .non H',rt:=Q} E:=by
 cases r with
 |nx ρ S1=>
  intro q H' σ st sm ev;obtain⟨st1,sm1⟩:=s.cut st sm;exact h _ H' .non st1 sm1 (by show aR K (λb=>q.c b/\¬False) H' .non .non;unfold aR;rfl)
 |exc n S1=>
  intro q H' st sm;obtain⟨st1,sm1⟩:=s.cut st sm;exact h _ H' st1 sm1
 |rt v S1=>
  intro q H' x st sm r;obtain⟨st1,sm1⟩:=s.cut st sm;cases v with
  |pv v=>exact h _ H' x st1 sm1 (show aR K (λb=>q.c b/\¬False) H' v x from Jj (λb h=>h.1) r)
  |ref k=>
   obtain⟨a,e,rfl⟩:=r;have h:bU K cl (bY K) p H (if k<S.length then .ok (.ref k) (S1.take S.length)else match S1[k]? with
    |some (.lst xs)=>.ok (.ref S.length) (S1.take S.length++[.lst xs])
    |some (.dic b kvs)=>.ok (.ref S.length) (S1.take S.length++[.dic b kvs])
    |_=>.fail) Q E:=h
   split at h
   .rename_i hk
    refine h _ H' (.ref a) st1 sm1 ⟨a,?_,rfl⟩;show p.f[k]?=some a;have hf:=Fy st.pre;rw[<-hf,sv,if_pos (by rw[s.len];exact hk)];exact e
   .rename_i hk
    have fin:∀o,S1[k]?=some o->bU K cl (bY K) p H (.ok (.ref S.length) (S1.take S.length++[o])) Q E->Q (.ref a) H':=λo z h=>by
     obtain⟨na,hn,nc⟩:=Ib s st sm e hk;have l1:(S1.take S.length).length=S.length:=by rw[<-sm1.len,<-s.len]
     have ma:a∈q.f:=cx e;refine h ⟨p.f++[a],q.w,q.c⟩ H' (.ref a) ⟨s.wc,s.mu,⟨[a],rfl⟩,st.mw,st.mono,λb hb n=>?_,st.nw,st.nc,st.keep⟩ ⟨?_,?_,λb hb=>?_,sm.wc,sm.mu,λj b o e1 e2=>?_⟩ ⟨a,?_,rfl⟩
     .rcases ck.mp hb with z |z
      .exact absurd z n
      .have:b=a:=by simpa using z
       rw[this];exact hn
     .show(p.f++[a]).Nodup
      rw[nv];refine⟨s.nd,by simp,λb hb c hc z=>?_⟩;have:c=a:=by simpa using hc
      exact na (this▸z▸hb)
     .show(p.f++[a]).length=_
      rw[av,av,l1,s.len];rfl
     .rcases ck.mp hb with z |z
      .exact st.mw b (s.sub b z)
      .have:b=a:=by simpa using z
       rw[this];exact sm.sub a ma
     .by_cases hj:j<S.length
      .have e1':p.f[j]?=some b:=by
        have e1:(p.f++[a])[j]?=some b:=e1
        rwa[du (by rw[s.len];exact hj)]at e1
       rw[du (by rw[l1];exact hj),sv,if_pos hj]at e2;refine(sm.obj j b o (st.at_ e1') e2).mono (λ_ e=>e) (λc w f=>⟨⟨w,λm=>?_⟩,λ_ e=>e⟩) λ_ _ r=>r;rcases ck.mp m with z |z
       .exact f (st.pre.subset z)
       .have:c=a:=by simpa using z
        exact f (this▸ma)
      .have hj':j=S.length:=by
        have:=(ca.mp e2).1;rw[av,l1]at this;simp at this;omega
       subst hj';rw[de (by rw[l1];exact aj _),l1,gj]at e2;have e1:(p.f++[a])[S.length]?=some b:=e1;rw[<-s.len,de (aj _),gj]at e1;cases e1;cases e2;refine(sm.obj k a _ e z).mono (λ_ e=>e) (λc w f=>⟨⟨w,λm=>?_⟩,λ_ e=>e⟩) λ_ _ r=>r;rcases ck.mp m with z |z
       .exact f (st.pre.subset z)
       .have:c=a:=by simpa using z
        exact f (this▸ma)
     .show(p.f++[a])[S.length]?=some a
      rw[<-s.len,de (aj _),gj];rfl
    split at h
    .rename_i z
     exact fin _ z h
    .rename_i z
     exact fin _ z h
    .exact h.elim
 |bk ρ S1=>exact h.elim
 |ct ρ S1=>exact h.elim
 |fail=>exact h.elim
theorem vF{N:List Str}{xs:AK}{vs:List V}(r:gM K p H xs vs):dL K p H (jV N.length xs) (L2.start N vs):=by
 have go:∀{xs:AK}{vs:List V},gM K p H xs vs->xs.length=vs.length:=λ{xs vs} r=>by
  induction r with
  |nil=>rfl
  |cons _ _ ih=>rw[cr,cr,ih]
 have get:∀{xs:AK}{vs:List V},gM K p H xs vs->∀(i:Nat)(v:AV),xs[i]?=some v->∃x,vs[i]?=some x/\bY K p H v x:=λ{xs vs} r=>by
  induction r with
  |nil=>intro i v e;simp at e
  |cons h _ ih=>
   intro i v e;cases i with
   |zero=>
    simp at e;subst e;exact⟨_,rfl,h⟩
   |succ i=>simpa using ih i v (by simpa using e)
 have hl:=go r;refine⟨by unfold jV L2.start;simp[hl],λi v e=>?_⟩;unfold jV at e;unfold L2.start
 by_cases hi:i<xs.length
 .rw[du (by simpa using hi),bo]at e
  cases z:xs[i]? with
  |none=>rw[z]at e;cases e
  |some u=>
   rw[z]at e;cases e;obtain⟨x,e1,e2⟩:=get r i v z;refine⟨x,?_,e2⟩;rw[du (by rw[am,<-hl];exact hi),bo,e1];rfl
 .rw[de (by rw[am];omega),zd]at e
  split at e
  .cases e
  .cases e
end
section
variable{P:Program}{w:al}{K:ag}{mg:Str->AE}{base:Heap}{cl:Str->Addr}
theorem Kl{K:ag}{p:Ph}{H:Hp}{xs:AK}{vs:List V}(h:gM K p H xs vs):xs.length=vs.length:=by
 induction h with
 |nil=>rfl
 |cons _ _ ih=>rw[cr,cr,ih]
theorem We{np n:Nat}{b:MS}{vs:List V}{H:Hp}{Q:VK}{E:XK}(h:lK K cl (aS np n b) vs H Q E):vs.length=np:=by
 obtain⟨p,S,xs,sm,ra,h⟩:=h;unfold aS at h;split at h
 .rename_i e
  rw[<-Kl ra,e]
 .exact h.elim
theorem Nw{x qual:Str}{st:Stmt}{f:Addr}{fd:cc}{N ps:List Str}{k np n:Nat}{b:MS}(F:jD K x qual st f fd)(S:iU N ps (cX st))(hnp:ps.length=np)(hn:N.length=n)
  (hb:∀(cdv:Value)(A:ao)(outer:List bf)(s:aa)(H:Hp)(E:XK),dN k (A.deeper (envOfC qual (cX st) s.heap.objs.size f cdv))->gS K cl E0 (dC fM P w K mg base N qual (cX st) f cdv A outer s H E).nox (eV st) b):
  eR P w K mg base fM (k+1) f fd ps (lI K cl (aS np n b)):=by
 subst hnp hn;refine F.ok S (λvs H Q E h=>We h) λcdv A outer s H vs Q E hr h=>⟨_,hb cdv A outer s H E hr rfl,?_⟩;obtain⟨p,S,xs,sm,ra,h⟩:=h;unfold aS at h;split at h
 .exact⟨p,S,_,sm,vF ra,Ja sm h⟩
 .exact h.elim
theorem okX{x qual:Str}{st:Stmt}{f:Addr}{fd:cc}{N ps:List Str}{k np n:Nat}{b:MS}(F:jD K x qual st f fd)(S:iU N ps (cX st))(hnp:ps.length=np)(hn:N.length=n)
  (hb:∀(cdv:Value)(A:ao)(outer:List bf)(s:aa)(H:Hp)(E:XK),dN k (A.deeper (envOfC qual (cX st) s.heap.objs.size f cdv))->gS K cl E (dC (dW P w) P w K mg base N qual (cX st) f cdv A outer s H E) (eV st) b):
  eR P w K mg base (dW P w) (k+1) f fd ps (lK K cl (aS np n b)):=by
 subst hnp hn;refine F.okX S (λvs H Q E h=>We h) λcdv A outer s H vs Q E hr h=>⟨_,hb cdv A outer s H E hr rfl,?_⟩;obtain⟨p,S,xs,sm,ra,h⟩:=h;unfold aS at h;split at h
 .exact⟨p,S,_,sm,vF ra,Ja sm h⟩
 .exact h.elim
theorem aev{x qual:Str}{st:Stmt}{f:Addr}{fd:cc}{ds:Array Value}{N ps:List Str}{k np n:Nat}{b:MS}(F:oS K x qual st f fd ds)(S:iU N ps (cX st))(hnp:ps.length=np)(hn:N.length=n)
  (hb:∀(cdv:Value)(A:ao)(outer:List bf)(s:aa)(H:Hp)(E:XK),dN k (A.deeper (envOfC qual (cX st) s.heap.objs.size f cdv))->gS K cl E (dC (dW P w) P w K mg base N qual (cX st) f cdv A outer s H E) (eV st) b):
  eR P w K mg base (dW P w) (k+1) f fd ps (lK K cl (aS np n b)):=by
 subst hnp hn;refine F.okX S (λvs H Q E h=>We h) λcdv A outer s H vs Q E hr h=>⟨_,hb cdv A outer s H E hr rfl,?_⟩;obtain⟨p,S,xs,sm,ra,h⟩:=h;unfold aS at h;split at h
 .exact⟨p,S,_,sm,vF ra,Ja sm h⟩
 .exact h.elim
theorem x0{f:Addr}{fd:cc}{ps:List Str}{k:Nat}{g:FM}(F:eR P w K mg base (dW P w) k f fd ps (lK K cl g)):eR P w K mg base fM k f fd ps (lI K cl g):=
 ⟨λvs H Q E h=>F.len vs H Q E0 h,λA outer s H args us vs Q E hr e0 hb hv h=>qk (F.run A outer s H args us vs Q E0 hr e0 hb hv h) λr s' hq=>by
  cases r with
  |error e=>
   obtain⟨_,_,_,_,_,_,_,_,_,_,_,_,z⟩:=hq;exact z
  |ok fl=>
   cases fl with
   |ret u=>exact hq
   |next=>exact hq
   |brk=>exact hq
   |cont=>exact hq⟩
end
section
variable{K:ag}{cl:Str->Addr}{E:XK}{X:Cx}{e:ah}{es:List ah}{ms:MA}{pos p:ai}{k n:Nat}{f:Addr}{fd:cc}{ps:List Str}{g:FM}{x:Str}{dvs:List V}{ds:AD}{dv:AH}
theorem vA{p:Ph}{H:Hp}{xs ys:AK}{vs ws:List V}(h:gM K p H xs vs)(g:gM K p H ys ws):gM K p H (xs++ys) (vs++ws):=by
 induction h with
 |nil=>exact g
 |cons h _ ih=>exact .cons h ih
def Dv(dv:AH)(dvs:List V):Prop:=∀K p H,gM K p H (dv.map .pv) dvs
theorem Dv.nil:Dv [] []:=λ_ _ _=>.nil
theorem abc(F:eR X.prog X.w X.K X.mg X.base fM k f fd ps (lI K cl g))(hr:dN k X.A)(hg:Gl X x)(hm:X.mg x=some (.ref f))(hk:fk X.K (.ref f)=true)(hb:jJ X.K fd ps ds)(hd:bI dvs ds)(hv:Dv dv dvs)
  (ha:eW K cl E0 X (e::es) ms)(hdb:(x==("__debug__":Str))=false:=by decide)(he:starEach (e::es) X.env=(false,eval e X.env)::starEach es X.env:=by rfl)(hpl:(backTo pos (starEach es X.env)).any (·.1)=false:=by rfl):
  aX K cl E0 X (.Call (.Name x p) (e::es) [] pos) (gZ g dv ms):=by
 intro hK;refine PE.imp (tL F hr hg hm hk hb hd xS (ha hK) hdb he hpl) ?_
 rintro σ H Q ⟨p,S,ρ,s,ev,h⟩
 exact cR s ev h λq H' as xs S' stp sm ev r k=>⟨q,S',_,sm,vA r (hv K q H'),Lc sm k⟩
theorem Ck{α β:Type}{R:Ph->Hp->α->β->Prop}{p:Ph}{H:Hp}{r:bQ α}{Q:β->Hp->Prop}(h:bU K cl R p H (lE r) Q E):bU K cl R p H r Q E0:=by
 cases r with
 |ok a S=>exact h
 |exc n S=>exact h.elim
 |fail=>exact h.elim
theorem N9(F:eR X.prog X.w X.K X.mg X.base fM k f fd ps (lI K cl g))(hr:dN k X.A)(hg:Gl X x)(hm:X.mg x=some (.ref f))(hk:fk X.K (.ref f)=true)(hb:jJ X.K fd ps ds)(hd:bI dvs ds)(hv:Dv dv dvs)
  (ha:eW K cl E X (e::es) ms)(hdb:(x==("__debug__":Str))=false:=by decide)(he:starEach (e::es) X.env=(false,eval e X.env)::starEach es X.env:=by rfl)(hpl:(backTo pos (starEach es X.env)).any (·.1)=false:=by rfl):
  aX K cl E X (.Call (.Name x p) (e::es) [] pos) (aJ g dv ms):=by
 intro hK;refine PE.imp (tL F hr hg hm hk hb hd xS (ha hK) hdb he hpl) ?_
 rintro σ H Q ⟨p,S,ρ,s,ev,h⟩
 exact cR s ev h λq H' as xs S' stp sm ev r k=>⟨q,S',_,sm,vA r (hv K q H'),Ck (Lc sm k)⟩
theorem O4(F:eR X.prog X.w X.K X.mg X.base fM k f fd ps (lI K cl g))(hr:dN k X.A)(hg:Gl X x)(hm:X.mg x=some (.ref f))(hk:fk X.K (.ref f)=true)(hb:jJ X.K fd ps ds)(hd:bI dvs ds)(hv:Dv dv dvs)
  (ha:eW K cl E X (e::es) ms)(hdb:(x==("__debug__":Str))=false:=by decide)(he:starEach (e::es) X.env=(false,eval e X.env)::starEach es X.env:=by rfl)(hpl:(backTo pos (starEach es X.env)).any (·.1)=false:=by rfl):
  aX K cl E X (.Call (.Name x p) (e::es) [] pos) (uA g dv ms):=by
 intro hK;refine PE.imp (tL F hr hg hm hk hb hd xS (ha hK) hdb he hpl) ?_
 rintro σ H Q ⟨p,S,ρ,s,ev,h⟩
 exact cR s ev h λq H' as xs S' stp sm ev r k=>⟨q,S',_,sm,vA r (hv K q H'),Ck k⟩
theorem L7{P:Program}{w:al}{mg:Str->AE}{base:Heap}{N:List Str}{qual:Str}{scope:Scope}{fo:Addr}{cd:Value}{A:ao}{outer:List bf}{AM:aa}{AN:Hp}
  (F:eR P w K mg base (dW P w) k f fd ps (lK K cl g))(hr:dN k (dC (dW P w) P w K mg base N qual scope fo cd A outer AM AN E).A)(hg:Gl (dC (dW P w) P w K mg base N qual scope fo cd A outer AM AN E) x)(hm:mg x=some (.ref f))(hk:fk K (.ref f)=true)(hb:jJ K fd ps ds)(hd:bI dvs ds)(hv:Dv dv dvs)
  (ha:eW K cl E (dC (dW P w) P w K mg base N qual scope fo cd A outer AM AN E) (e::es) ms)(hdb:(x==("__debug__":Str))=false:=by decide)
  (he:starEach (e::es) (dC (dW P w) P w K mg base N qual scope fo cd A outer AM AN E).env=(false,eval e (dC (dW P w) P w K mg base N qual scope fo cd A outer AM AN E).env)::starEach es (dC (dW P w) P w K mg base N qual scope fo cd A outer AM AN E).env:=by rfl)
  (hpl:(backTo pos (starEach es (dC (dW P w) P w K mg base N qual scope fo cd A outer AM AN E).env)).any (·.1)=false:=by rfl):
  aX K cl E (dC (dW P w) P w K mg base N qual scope fo cd A outer AM AN E) (.Call (.Name x p) (e::es) [] pos) (gZ g dv ms):=by
 intro hK;refine PE.imp (tL F hr hg hm hk hb hd aec (ha hK) hdb he hpl) ?_
 rintro σ H Q ⟨p,S,ρ,s,ev,h⟩
 exact cR s ev h λq H' as xs S' stp sm ev r k=>⟨q,S',_,sm,vA r (hv K q H'),Lc sm k⟩
def rK(n:Str):MS:=λ_ S=>.exc n S
theorem A0{P:Program}{w:al}{mg:Str->AE}{base:Heap}{N:List Str}{qual:Str}{scope:Scope}{f:Addr}{cd:Value}{A:ao}{outer:List bf}{AM:aa}{AN:Hp}
  {txt:Str}{j:Nat}{np p1 cpos:ai}(hg:Gl (dC (dW P w) P w K mg base N qual scope f cd A outer AM AN E) x)(hm:mg x=some (.ref (cl x)))(hx:jk K (cl x) nA "ValueError.__new__"=true)
  (hd:(x==("__debug__":Str))=false:=by decide):
  eH K cl E (dC (dW P w) P w K mg base N qual scope f cd A outer AM AN E) (.Raise (some (.Call (.Name x np) [.Constant (.str txt) j p1] [] cpos)) none pos) (rK x):=
 λ_=>PS.imp (X9 hg hm hx hd) λD σ H ⟨p,S,ρ,s,ev,h⟩=>h p H s.step s
end
def bX(own:List Str)(cap:List (Nat×Str))(ρ:bV):bV:=own.map (λ_=>none)++cap.map λp=>(ρ[p.1]?).join
open Classical in
noncomputable def cD(G:Gd)(g:GM)(me:ME):AH->bV->aG->bQ AH
 |[],_,S=>if iP G S then .ok [] S else .fail
 |x::r,ρ,S=>if iP G S then(match g x ρ with
  |none=>.fail
  |some ρ1=>match me ρ1 S with
   |.ok (.pv y) S1=>match cD G g me r ρ1 S1 with
    |.ok ys S2=>.ok (y::ys) S2
    |_=>.fail
   |_=>.fail)else .fail
theorem eA{g:GM}{me:ME}{ρ:bV}{S:aG}:cD [] g me [] ρ S=.ok [] S:=by
 unfold cD;rw[if_pos (jS S)]
theorem eF{g:GM}{me:ME}{x:PV}{r:AH}{ρ:bV}{S:aG}:cD [] g me (x::r) ρ S=(match g x ρ with
  |none=>.fail
  |some ρ1=>match me ρ1 S with
   |.ok (.pv y) S1=>match cD [] g me r ρ1 S1 with
    |.ok ys S2=>.ok (y::ys) S2
    |_=>.fail
   |_=>.fail):=by
 rw[cD,if_pos (jS S)]
noncomputable def bC(own:List Str)(cap:List (Nat×Str))(mi:MI)(g:GM)(me:ME):ME:=λρ S=>(mi ρ S).bind λxs S1=>(cD xs.2 g me xs.1 (bX own cap ρ) S1).bind λys S2=>.ok (.pv (.lst ys)) S2
theorem Zi{G:Gd}{g:GM}{me:ME}:∀(xs:AH)(ρ:bV)(S:aG)(n:Str)(S':aG),cD G g me xs ρ S≠.exc n S'
 |[],_,_,_,_,e=>by
  unfold cD at e;split at e<;>cases e
 |x::r,ρ,S,n,S',e=>by
  unfold cD at e;split at e
  .split at e
   .cases e
   .split at e
    .split at e
     .cases e
     .cases e
    .cases e
  .cases e
theorem Oo{G:Gd}{g:GM}{me:ME}{xs zs:AH}{ρ:bV}{S S':aG}(e:cD G g me xs ρ S=.ok zs S'):iP G S:=by
 cases xs with
 |nil=>
  unfold cD at e;split at e
  .assumption
  .cases e
 |cons x r=>
  unfold cD at e;split at e
  .assumption
  .cases e
section
variable{K:ag}{cl:Str->Addr}{E:XK}{X:Cx}{p q:Ph}{H H':Hp}{S:aG}
theorem Qn{ρ:bV}{σ:St}{own:List Str}{cap:List (Nat×Str)}(h:dL K p H ρ σ):dL K p H (bX own cap ρ) (iQ own cap σ):=by
 refine⟨by unfold bX iQ;simp,λi v e=>?_⟩;unfold bX at e;unfold iQ
 by_cases hi:i<own.length
 .rw[du (by simpa using hi),bo,ay hi]at e
  cases e
 .rw[de (by rw[am];omega),bo,am]at e⊢
  cases z:cap[i-own.length]? with
  |none=>rw[z]at e;cases e
  |some c=>
   rw[z]at e;have e:(ρ[c.1]?).join=some v:=bn e;have e':ρ[c.1]?=some (some v):=by
    cases y:ρ[c.1]? with
    |none=>rw[y]at e;cases e
    |some o=>rw[y]at e;exact congrArg some e
   obtain⟨x,e1,e2⟩:=h.at_ c.1 v e';refine⟨x,?_,e2⟩;show some ((σ[c.1]?).join)=some (some x);rw[e1];rfl
def Ph.res(p:Ph)(D:Addr):Ph:=⟨p.f,λa=>p.w a\/a=D,λa=>p.c a\/a=D⟩
def Ph.hold(p:Ph)(D:Addr):Ph:=⟨p.f,λa=>p.w a/\a≠D,p.c⟩
def Ph.less(p:Ph)(D:Addr):Ph:=⟨p.f,λa=>p.w a/\a≠D,λa=>p.c a/\a≠D⟩
theorem aV.notin(s:aV K p S H){D:Addr}(h:H D=none):¬p.c D:=λc=>by
 obtain⟨o,e,_⟩:=s.mu D c;rw[h]at e;cases e
theorem aV.res(s:aV K p S H){D:Addr}{o:HO}(h:H D=none)(mo:Mb o):bP p H (p.res D) (aY H D o)/\aV K (p.res D) S (aY H D o):=by
 have st:bP p H (p.res D) (aY H D o):=⟨s.wc,s.mu,jr,λa h=>.inl h,λa h=>.inl h,λa h g=>absurd h g,λa x n=>x.elim (λz=>absurd z n) (λz=>by rw[z];exact h),λa x n=>x.elim (λz=>absurd z n) (λz=>by rw[z];exact h),λa u e _=>by
  rw[bS (gD e h)];exact e⟩
 refine⟨st,s.nd,s.len,λa h=>.inl (s.sub a h),λa x=>x.elim (λz=>.inl (s.wc a z)) .inr,λa x=>?_,λk a u e1 e2=>?_⟩
 .by_cases z:a=D
  .rw[z,fH]
   exact⟨o,rfl,mo⟩
  .rw[bS z]
   exact s.mu a (x.elim id λy=>absurd y z)
 .exact(s.obj k a u e1 e2).mono (λvs e=>by rw[bS (gD e h)];exact e) (λb w f=>⟨⟨.inl w,f⟩,λvs e=>by rw[bS (gD e h)];exact e⟩) λ_ _ r=>st.reps r
theorem aV.resHold(s:aV K p S H){D:Addr}{o:HO}(h:H D=none)(mo:Mb o):aV K ((p.res D).hold D) S (aY H D o):=by
 obtain⟨st,sm⟩:=s.res (o:=o) h mo;have ne:∀a,p.w a->a≠D:=λa w z=>s.notin h (z▸s.wc a w);refine⟨sm.nd,sm.len,λa m=>⟨sm.sub a m,ne a (s.sub a m)⟩,λa x=>sm.wc a x.1,sm.mu,λk a u e1 e2=>?_⟩;exact(s.obj k a u e1 e2).mono (λvs e=>by rw[bS (gD e h)];exact e) (λb w f=>⟨⟨⟨.inl w,ne b w⟩,f⟩,λvs e=>by rw[bS (gD e h)];exact e⟩) λ_ _ r=>st.reps r
theorem bP.unhold{D:Addr}(h:p.w D)(st:bP (p.hold D) H q H')(s:aV K p S H):bP p H ⟨q.f,λa=>q.w a\/a=D,q.c⟩ H':=
 ⟨s.wc,s.mu,st.pre,λa x=>by
  by_cases z:a=D
  .exact .inr z
  .exact .inl (st.mw a ⟨x,z⟩),st.mono,st.nf,λa x n=>by
  rcases x with x |x
  .exact st.nw a x λz=>n z.1
  .exact absurd (x▸h) n,st.nc,λa o e n=>st.keep a o e λz=>n z.1⟩
theorem aV.grow{D:Addr}{ys:List V}{o:HO}(s:aV K p S H)(sh:aV K (p.hold D) S H)(w:p.w D)(n:D∉p.f)(mo:Mb o):bP p H p (aY H D o)/\aV K p S (aY H D o)/\aV K (p.hold D) S (aY H D o):=by
 have st:bP p H p (aY H D o):=⟨s.wc,s.mu,jr,λ_ h=>h,λ_ h=>h,λ_ h g=>absurd h g,λ_ h g=>absurd h g,λ_ h g=>absurd h g,λa u e nw=>by
  rw[bS (λz:a=D=>nw (by rw[z];exact w))];exact e⟩
 have hm:∀a,p.c a->∃u,aY H D o a=some u/\Mb u:=λa x=>by
  by_cases z:a=D
  .rw[z,fH]
   exact⟨o,rfl,mo⟩
  .rw[bS z]
   exact s.mu a x
 refine⟨st,⟨s.nd,s.len,s.sub,s.wc,hm,λk a u e1 e2=>?_⟩,⟨sh.nd,sh.len,sh.sub,sh.wc,hm,λk a u e1 e2=>?_⟩⟩
 .have ne:a≠D:=λz=>n (z▸cx e1)
  exact(sh.obj k a u e1 e2).mono (λvs e=>by rw[bS ne];exact e) (λb w f=>⟨⟨w.1,f⟩,λvs e=>by rw[bS w.2];exact e⟩) λ_ _ r=>st.reps r
 .have ne:a≠D:=λz=>n (z▸cx e1)
  exact(sh.obj k a u e1 e2).mono (λvs e=>by rw[bS ne];exact e) (λb w f=>⟨⟨w,f⟩,λvs e=>by rw[bS w.2];exact e⟩) λ_ _ r=>st.reps r
theorem aV.toLess{D:Addr}(s:aV K (p.hold D) S H):aV K (p.less D) S H:=
 ⟨s.nd,s.len,s.sub,λa h=>⟨s.wc a h,h.2⟩,λa h=>s.mu a h.1,λk a o e1 e2=>
  (s.obj k a o e1 e2).mono (λ_ e=>e) (λb w f=>⟨⟨w,f⟩,λ_ e=>e⟩) λ_ _ r=>pH (λa h=>h.1) r⟩
theorem bP.toLess{D:Addr}(st:bP p H q H')(h:H D=none):bP p H (q.less D) H':=by
 have nD:∀a,p.c a->a≠D:=λa c z=>by
  obtain⟨o,e,_⟩:=st.mu a c;rw[z,h]at e;cases e
 exact⟨st.wc,st.mu,st.pre,λa x=>⟨st.mw a x,nD a (st.wc a x)⟩,λa x=>⟨st.mono a x,nD a x⟩,st.nf,λa x=>st.nw a x.1,λa x=>st.nc a x.1,st.keep⟩
variable{sc:Scope}{own:List Str}{cap:List (Nat×Str)}{elt target iter:ah}{pos:ai}{mi:MI}{g:GM}{me:ME}
theorem Im{σ:St}{ρ:bV}{xs zs:AH}{G:Gd}{J:It}{Q:VK}{D:Addr}{S2:aG}(sm:aV K p S H)(ev:dL K p H ρ σ)(it:fI K p H (xs,G) J)(z:cD G g me xs (bX own cap ρ) S=.ok zs S2)(hD:H D=none)
  (k:∀q H' vs,bP p H q H'->aV K q S2 H'->aV K (q.hold D) S2 H'->q.w D->D∉q.f->H' D=some (.lst vs)->vs.length<=sizeLine->aT K q.c H' zs vs->Q (.ref D) H'):
  uO J (gP K g) (tP K cl E0 (bY K) me) (iQ own cap σ) H D Q:=by
 obtain⟨st0,sm0⟩:=sm.res (D:=D) (o:=.lst []) hD trivial;have sh0:=sm.resHold (D:=D) (o:=.lst []) hD trivial;have nf0:D∉p.f:=λh=>sm.notin hD (sm.wc D (sm.sub D h));refine abr xs.length it.1 (λi σ1 H1 ys=>ys.length=i/\i<=xs.length/\H1 D=some (.lst ys)/\∃p1 S1 ρ1 us ws,(aV K p1 S1 H1/\aV K (p1.hold D) S1 H1)/\bP p H p1 H1/\p1.w D/\D∉p1.f/\dL K p1 H1 ρ1 σ1/\fI K p1 H1 (xs,G) J/\iP G S1/\aT K p1.c H1 us ys/\zs=us++ws/\cD G g me (xs.drop i) ρ1 S1=.ok ws S2) ?_ ?_ ?_ ?_ ?_
 .refine⟨rfl,fw _,fH,p.res D,S,bX own cap ρ,[],zs,⟨sm0,sh0⟩,st0,.inr rfl,nf0,Qn (st0.repE ev),it.step st0,?_,.nil,rfl,by simpa using z⟩
  exact Oo z
 .rintro i σ1 H1 ys ⟨h1,_,h2,_⟩
  exact⟨h1,h2⟩
 .rintro i σ1 H1 ys hi ⟨_,_,_,p1,S1,ρ1,us,ws,⟨sm1,sh1⟩,st1,w1,f1,ev1,it1,g1,_⟩
  exact((it1.2 p1 H1 S1 sm1.step sm1 g1).1 i xs[i] (ay hi)).1
 .rintro i σ1 H1 ys x H2 hi ⟨hl,_,hH,p1,S1,ρ1,us,ws,⟨sm1,sh1⟩,st1,w1,f1,ev1,it1,g1,r1,e1,c1⟩ hy
  obtain⟨same,rx⟩:=((it1.2 p1 H1 S1 sm1.step sm1 g1).1 i xs[i] (ay hi)).2 x H2 hy;rw[sk hi]at c1;unfold cD at c1;rw[if_pos g1]at c1;split at c1
  .cases c1
  .rename_i ρ2 gz
   split at c1
   .rename_i y S3 mz
    split at c1
    .rename_i vs S4 cz
     cases c1;have st2:=sm1.same same;have sm2:=sm1.ofSame same;have smh:=sh1.ofSame same;have stS:bP p H p1 H2:=st1.trans st2;refine⟨p1,S1,ρ1,xs[i],ρ2,sm2,st2.repE ev1,rx,gz,λσ3 ev3=>⟨p1.hold D,S1,ρ2,smh,⟨ev3.len,ev3.at_⟩,?_⟩⟩;rw[mz];intro q H4 y' st4 sm4 ry;have hD2:H2 D=some (.lst ys):=same _ _ hH;have hD4:H4 D=some (.lst ys):=st4.keep D _ hD2 λz=>z.2 rfl;have fq:D∉q.f:=λh=>by
      have:=st4.nf D h f1;rw[hD2]at this;cases this
     have stU:=bP.unhold w1 st4 sm2;have nq:¬q.w D:=λz=>by
      have:=st4.nw D z λy=>y.2 rfl;rw[hD2]at this;cases this
     have smU:aV K ⟨q.f,λa=>q.w a\/a=D,q.c⟩ S3 H4:=⟨sm4.nd,sm4.len,λa h=>.inl (sm4.sub a h),λa h=>h.elim (sm4.wc a) λz=>z▸st4.mono D (sm2.wc D w1),sm4.mu,λk a o e1 e2=>
      (sm4.obj k a o e1 e2).mono (λ_ e=>e) (λb w f=>⟨⟨.inl w,f⟩,λ_ e=>e⟩) λ_ _ r=>r⟩
     have shU:aV K (Ph.hold ⟨q.f,λa=>q.w a\/a=D,q.c⟩ D) S3 H4:=⟨sm4.nd,sm4.len,λa h=>⟨.inl (sm4.sub a h),λz=>nq (z▸sm4.sub a h)⟩,λa h=>smU.wc a h.1,sm4.mu,λk a o e1 e2=>
      (sm4.obj k a o e1 e2).mono (λ_ e=>e) (λb w f=>⟨⟨⟨.inl w,λz=>nq (z▸w)⟩,f⟩,λ_ e=>e⟩) λ_ _ r=>r⟩
     obtain⟨stG,smG,shG⟩:=smU.grow (ys:=ys) (D:=D) (o:=.lst (ys++[y'])) shU (.inr rfl) fq trivial;have stA:=st2.trans (stU.trans stG);refine ady hi hD4 ⟨by rw[av,hl];rfl,hi,fH,_,S3,ρ2,us++[y],vs,⟨smG,shG⟩,st1.trans stA,.inr rfl,fq,stG.repE (stU.repE ev3),it1.step stA,Oo cz,?_,by rw[e1,ix];rfl,cz⟩;exact(stA.reps r1).append (.cons (stG.rep ry) .nil)
    .cases c1
   .cases c1
 .rintro σ1 H1 ys ⟨hl,_,hH,p1,S1,ρ1,us,ws,⟨sm1,sh1⟩,st1,w1,f1,ev1,it1,g1,r1,e1,c1⟩
  rw[sr]at c1;unfold cD at c1;rw[if_pos g1]at c1;cases c1;refine⟨(it1.2 p1 H1 _ sm1.step sm1 g1).2,?_⟩;rw[ig]at e1;subst e1;exact k p1 H1 ys st1 sm1 sh1 w1 f1 hH (by rw[hl];exact it.1) r1
theorem Lb{σ:St}{ρ:bV}{xs:AH×Gd}{J:It}{Q:VK}{D:Addr}(sm:aV K p S H)(ev:dL K p H ρ σ)(it:fI K p H xs J)(k:bU K cl (bY K) p H ((cD xs.2 g me xs.1 (bX own cap ρ) S).bind λys S2=>.ok (.pv (.lst ys)) S2) Q E)(hD:H D=none):
  uO J (gP K g) (tP K cl E0 (bY K) me) (iQ own cap σ) H D Q:=by
 cases z:cD xs.2 g me xs.1 (bX own cap ρ) S with
 |fail=>rw[z]at k;exact k.elim
 |exc n S'=>exact absurd z (Zi _ _ _ _ _)
 |ok zs S2=>
  rw[z]at k;have k:∀q H' x,bP p H q H'->aV K q S2 H'->aR K q.c H' (.lst zs) x->Q x H':=k;refine Im sm ev it z hD λq H' vs st1 sm1 sh1 w1 f1 hH l1 r1=>?_;refine k (q.less D) H' (.ref D) (st1.toLess hD) sh1.toLess ?_;unfold aR;exact⟨D,vs,rfl,.inl ⟨hH,λz=>z.2 rfl⟩,l1,pH (λa h=>h.1) r1⟩
theorem Z7(k:gY X sc own cap)(hi:PIp K cl E X target iter mi)(hc:X.calm=true)(hg:∀C AM AN ex,kQ K (eI X sc (cK own cap) C AM AN ex) target g)(he:∀C AM AN ex,aX K cl E0 (eI X sc (cK own cap) C AM AN ex) elt me)
  (hs:∀x,foldedSetIterable iter X.env x=pure x:=by intro _;rfl):aX K cl E X (.ListComp elt [⟨target,iter,[],0⟩] sc pos) (bC own cap mi g me):=by
 intro hK;refine PE.imp (aaj k (hi hK) hc (λC AM AN ex=>hg C AM AN ex hK) (λC AM AN ex=>he C AM AN ex hK) hs) ?_
 rintro σ H Q ⟨p,S,ρ,s,ev,h⟩
 exact cR s ev h λq H' xs J S' stp sm ev it kk D hD=>Lb sm ev it kk hD
theorem J7{i:Nat}{x:Str}{py spos:ai}(hN:X.N.Nodup)(hx:X.N[i]?=some x)(hl:kT X.env.scope x)(k:gY X sc own cap)(hi:PIp K cl E X target iter mi)(hc:X.calm=true)(hg:∀C AM AN ex,kQ K (eI X sc (cK own cap) C AM AN ex) target g)(he:∀C AM AN ex,aX K cl E0 (eI X sc (cK own cap) C AM AN ex) elt me)
  (hs:∀x,foldedSetIterable iter X.env x=pure x:=by intro _;rfl)(hsw:swapsWith (.ListComp elt [⟨target,iter,[],0⟩] sc pos) (some (.Name x py)) spos.line X.env=pure true:=by rfl)
  (hf:X.fn x=true\/X.env.scope.names.lookup x=some .local:=by first |exact .inl rfl |exact .inr rfl |assumption):
  eH K cl E X (.Assign [.Name x py] (.ListComp elt [⟨target,iter,[],0⟩] sc pos) spos) (aU i (bC own cap mi g me)):=by
 intro hK;refine PS.imp (Bq hN hx hl k (hi hK) hc (λC AM AN ex=>hg C AM AN ex hK) (λC AM AN ex=>he C AM AN ex hK) hs hsw hf) ?_
 rintro D σ H ⟨p,S,ρ,s,ev,h⟩
 have h2:tP K cl E (bY K) (bC own cap mi g me) σ H λy H1=>D.nx (σ.set i (some y)) H1:=by
  refine⟨p,S,ρ,s,ev,?_⟩;unfold aU at h;cases z:bC own cap mi g me ρ S with
  |ok v S1=>
   rw[z]at h;exact λq H' y st sm r=>h q H' _ st sm ((st.repE ev).set r i)
  |exc n S1=>rw[z]at h;exact h
  |fail=>rw[z]at h;exact h
 obtain⟨p,S,ρ,s,ev,h⟩:=h2;exact cR s ev h λq H' xs J S' stp sm ev it kk B hB=>Lb sm ev it kk hB
end
def jI:List (Option Bool)->Option (List Bool)
 |[]=>some []
 |some b::r=>match jI r with
  |some bs=>some (b::bs)
  |none=>none
 |none::_=>none
theorem Ek:∀{l:List (Option Bool)}{bs:List Bool},jI l=some bs->bs.length=l.length
 |[],_,e=>by cases e;rfl
 |some b::r,bs,e=>by
  unfold jI at e;split at e
  .rename_i cs h
   cases e;rw[cr,cr,Ek h]
  .cases e
 |none::r,_,e=>by cases e
theorem Ma:∀{l:List (Option Bool)}{bs:List Bool}{i:Nat}{o:Option Bool},jI l=some bs->l[i]?=some o->∃b,o=some b/\bs[i]?=some b
 |[],_,i,o,_,h=>by simp at h
 |some b::r,bs,i,o,e,h=>by
  unfold jI at e;split at e
  .rename_i cs h'
   cases e;cases i with
   |zero=>
    simp at h;exact⟨b,h.symm,rfl⟩
   |succ i=>simpa using Ma h' (by simpa using h)
  .cases e
 |none::r,_,_,_,e,_=>by cases e
def aK:Nat->PV->PV->Option Bool
 |_,.non,.non=>some true
 |_,.bl a,.bl b=>some (a==b)
 |_,.int a,.int b=>some (a==b)
 |_,.str a,.str b=>some (a==b)
 |n+1,.tup xs,.tup ys=>match jI (ci (aK n) xs ys)with
  |some bs=>some (bs.all id&&xs.length==ys.length)
  |none=>none
 |n+1,.lst xs,.lst ys=>if xs.length=ys.length then(match jI (ci (aK n) xs ys)with
  |some bs=>some (bs.all id)
  |none=>none)else some false
 |_,_,_=>none
theorem vT(bs:List Bool):((cj bs.length).all λj=>bs.getD j true)=bs.all id:=by
 rw[re,ka,ka];constructor
 .intro h b hb
  obtain⟨j,hj,e⟩:=nu hb;have:=h j (by simpa using hj);simpa[cg,hj,e]using this
 .intro h j hj
  have hj:j<bs.length:=by simpa using hj
  have:=h bs[j] (gr hj);simpa[cg,hj]using this
section
variable{X:Cx}{AL:List (Addr×Obj)}{σ:St}{H:Hp}{s:aa}{c:Addr->Prop}
theorem wA{n:Nat}{xs ys:AH}{vs ws:List V}{its jts:AD}{bs:List Bool}{A:ao}
  (ih:∀(v w:PV)(x y:V)(u u':Value)(b:Bool),aR X.K c H v x->aR X.K c H w y->bT x u->bT y u'->aK n v w=some b->jq A s u u' b)
  (r1:aT X.K c H xs vs)(r2:aT X.K c H ys ws)(q1:bI vs its)(q2:bI ws jts)(e:jI (ci (aK n) xs ys)=some bs):
  ∀j(h1:j<its.toArray.size)(h2:j<jts.toArray.size),jq A s its.toArray[j] jts.toArray[j] (bs.getD j true):=λj h1 h2=>by
 have l1:=r1.length.trans q1.length;have l2:=r2.length.trans q2.length;have g1:j<xs.length:=by rw[l1];simpa using h1
 have g2:j<ys.length:=by rw[l2];simpa using h2
 obtain⟨x,ex,rx⟩:=r1.get (ay g1);obtain⟨y,ey,ry⟩:=r2.get (ay g2);obtain⟨u,eu,ru⟩:=q1.get ex;obtain⟨u',eu',ru'⟩:=q2.get ey;have hz:(ci (aK n) xs ys)[j]?=some (aK n xs[j] ys[j]):=by
  rw[f7,ay g1,ay g2]
 obtain⟨b,eb,eb'⟩:=Ma e hz;have e1:its.toArray[j]=u:=by
  rw[f8];rw[ay (by simpa using h1)]at eu;exact bn eu
 have e2:jts.toArray[j]=u':=by
  rw[f8];rw[ay (by simpa using h2)]at eu';exact bn eu'
 rw[e1,e2];have e3:bs.getD j true=b:=by simp[cg,eb']
 rw[e3];exact ih _ _ _ _ _ _ _ rx ry ru ru' eb
theorem tI{n:Nat}{xs ys:AH}{bs:List Bool}(e:jI (ci (aK n) xs ys)=some bs):bs.length=min xs.length ys.length:=by
 rw[Ek e,jo]
theorem Ql(n:Nat)(v w:PV)(x:V)(b:Bool)(nt:∀xs,v≠.tup xs)(nl:∀xs,v≠.lst xs)(h:aR X.K c H v x)(g:aR X.K c H w x)(e:aK n v w=some b):b=true:=by
 cases v with
 |tup xs=>exact absurd rfl (nt xs)
 |lst xs=>exact absurd rfl (nl xs)
 |non=>
  cases w<;>first |(unfold aK at e;simp at e;done) |skip
  unfold aK at e;cases e;rfl
 |bl i=>
  cases w<;>first |(unfold aK at e;simp at e;done) |skip
  unfold aR at h g;subst h;injection g with g';subst g';unfold aK at e;cases e;exact beq_self_eq_true _
 |int i=>
  cases w<;>first |(unfold aK at e;simp at e;done) |skip
  unfold aR at h g;subst h;injection g with g';subst g';unfold aK at e;cases e;exact beq_self_eq_true _
 |str i=>
  cases w<;>first |(unfold aK at e;simp at e;done) |skip
  unfold aR at h g;subst h;injection g with g';subst g';unfold aK at e;cases e;exact beq_self_eq_true _
theorem Rn(I:aH X AL σ H s):∀(n:Nat)(v w:PV)(x:V)(b:Bool),aR X.K c H v x->aR X.K c H w x->aK n v w=some b->b=true:=by
 intro n
 induction n with
 |zero=>
  intro v w x b h g e;cases v with
  |tup xs=>unfold aK at e;simp at e
  |lst xs=>unfold aK at e;simp at e
  |_=>exact Ql 0 _ w x b (by intro _ z;cases z) (by intro _ z;cases z) h g e
 |succ n ih=>
  have items:∀(xs ys:AH)(vs:List V)(bs:List Bool),aT X.K c H xs vs->aT X.K c H ys vs->jI (ci (aK n) xs ys)=some bs->bs.all id=true/\xs.length=ys.length:=λxs ys vs bs r1 r2 e=>by
   have ll:=r1.length.trans r2.length.symm;refine⟨?_,ll⟩;rw[ka];intro b hb;obtain⟨j,hj,ej⟩:=nu hb;have hj':=hj;rw[tI e]at hj';have g1:j<xs.length:=by omega
   have g2:j<ys.length:=by omega
   obtain⟨x,ex,rx⟩:=r1.get (ay g1);obtain⟨y,ey,ry⟩:=r2.get (ay g2);have:=ex.symm.trans ey;cases this;have hz:(ci (aK n) xs ys)[j]?=some (aK n xs[j] ys[j]):=by
    rw[f7,ay g1,ay g2]
   obtain⟨b',eb,eb'⟩:=Ma e hz;rw[ay hj,ej]at eb';cases eb';exact ih _ _ _ _ rx ry eb
  intro v w x b h g e;cases v with
  |tup xs=>
   cases w with
   |tup ys=>
    unfold aR at h g;obtain⟨a,vs,rfl,t1,_,r1⟩:=h;obtain⟨a',ws,e1,t2,_,r2⟩:=g;cases e1;have:=I.tuple_inj t1 t2;subst this;unfold aK at e;split at e
    .rename_i bs hb
     obtain⟨z1,z2⟩:=items xs ys vs bs r1 r2 hb;rw[z1,z2,beq_self_eq_true]at e;cases e;rfl
    .cases e
   |_=>unfold aK at e;simp at e
  |lst xs=>
   cases w with
   |lst ys=>
    unfold aR at h g;obtain⟨a,vs,rfl,t1,_,r1⟩:=h;obtain⟨a',ws,e1,t2,_,r2⟩:=g;cases e1;have:=I.list_inj t1.sq t2.sq;subst this;unfold aK at e;rw[if_pos (r1.length.trans r2.length.symm)]at e;split at e
    .rename_i bs hb
     obtain⟨z1,z2⟩:=items xs ys vs bs r1 r2 hb;rw[z1]at e;cases e;rfl
    .cases e
   |_=>unfold aK at e;simp at e
  |_=>exact Ql (n+1) _ w x b (by intro _ z;cases z) (by intro _ z;cases z) h g e
theorem Mt(I:aH X AL σ H s):∀(n:Nat)(v w:PV)(x y:V)(u u':Value)(b:Bool)(A:ao),A.units+n<cLine->aR X.K c H v x->aR X.K c H w y->bT x u->bT y u'->aK n v w=some b->ny A s u u' b/\jq A s u u' b:=by
 have flat:∀(n:Nat)(v w:PV)(x y:V)(u u':Value)(b:Bool)(A:ao),(∀xs,v≠.tup xs)->(∀xs,v≠.lst xs)->aR X.K c H v x->aR X.K c H w y->bT x u->bT y u'->aK n v w=some b->ny A s u u' b/\jq A s u u' b:=by
  intro n v w x y u u' b A nt nl h g r r' e;cases v with
  |tup xs=>exact absurd rfl (nt xs)
  |lst xs=>exact absurd rfl (nl xs)
  |non=>
   cases w<;>first |(unfold aK at e;simp at e;done) |skip
   unfold aR at h g;subst h g;cases r;cases r';unfold aK at e;cases e;exact⟨f9,sf _⟩
  |bl i=>
   cases w<;>first |(unfold aK at e;simp at e;done) |skip
   unfold aR at h g;subst h g;cases r;cases r';unfold aK at e;cases e;exact⟨g7 _ _,SeqAt.EqAt.bool_bool _ _⟩
  |int i=>
   cases w<;>first |(unfold aK at e;simp at e;done) |skip
   unfold aR at h g;subst h g;obtain⟨t,rfl⟩:=r;obtain⟨t',rfl⟩:=r';unfold aK at e;cases e;exact⟨g8 _ _ _ _,c9 _ _ _ _⟩
  |str i=>
   cases w<;>first |(unfold aK at e;simp at e;done) |skip
   unfold aR at h g;subst h g;obtain⟨t,rfl⟩:=r;obtain⟨t',rfl⟩:=r';unfold aK at e;cases e;exact⟨g9 _ _ _ _,SeqAt.EqAt.str_str _ _ _ _⟩
 have main:∀(n:Nat)(v w:PV)(x y:V)(u u':Value)(b:Bool)(A:ao),A.units+n<cLine->aR X.K c H v x->aR X.K c H w y->bT x u->bT y u'->aK n v w=some b->ny A s u u' b/\jq A s u u' b:=by
  intro n
  induction n with
  |zero=>
   intro v w x y u u' b A hu h g r r' e;cases v with
   |tup xs=>unfold aK at e;simp at e
   |lst xs=>unfold aK at e;simp at e
   |_=>exact flat 0 _ w x y u u' b A (by intro _ z;cases z) (by intro _ z;cases z) h g r r' e
  |succ n ih=>
   intro v w x y u u' b A hu h g r r' e;have hin:A.in1.units+n<cLine:=by show A.units+1+n<cLine;omega
   cases v with
   |tup xs=>
    cases w with
    |tup ys=>
     have hs:x=y->b=true:=λz=>Rn I (n+1) _ _ x b h (z▸g) e;unfold aR at h g;obtain⟨a,vs,rfl,t1,_,r1⟩:=h;obtain⟨a',ws,rfl,t2,_,r2⟩:=g;cases r;cases r';obtain⟨its,q1,p1,_⟩:=I.tuple t1;obtain⟨jts,q2,p2,_⟩:=I.tuple t2;unfold aK at e;split at e
     .rename_i bs hb
      cases e;have z:=xc (A:=A) (s:=s) (e:=λj=>bs.getD j true) (show s.heap.IsTuple a its.toArray from p1) (show s.heap.IsTuple a' jts.toArray from p2) (by omega)
       (wA (A:=A.in1) (λv w x y u u' b h1 h2 h3 h4 h5=>(ih v w x y u u' b A.in1 hin h1 h2 h3 h4 h5).2) r1 r2 q1 q2 hb)
      have l1:=r1.length.trans q1.length;have l2:=r2.length.trans q2.length;rw[az,az,<-l1,<-l2,<-tI hb,vT]at z;refine⟨z,?_⟩
      by_cases ha:a=a'
      .subst ha
       rw[hs rfl];exact sf _
      .exact xf ha z
     .cases e
    |_=>unfold aK at e;simp at e
   |lst xs=>
    cases w with
    |lst ys=>
     have hs:x=y->b=true:=λz=>Rn I (n+1) _ _ x b h (z▸g) e;unfold aR at h g;obtain⟨a,vs,rfl,t1,_,r1⟩:=h;obtain⟨a',ws,rfl,t2,_,r2⟩:=g;cases r;cases r';obtain⟨its,q1,p1,_⟩:=I.list t1.sq;obtain⟨jts,q2,p2,_⟩:=I.list t2.sq;have l1:=r1.length.trans q1.length;have l2:=r2.length.trans q2.length;have fin:ny A s (.ref a) (.ref a') b->ny A s (.ref a) (.ref a') b/\jq A s (.ref a) (.ref a') b:=λz=>by
      refine⟨z,?_⟩
      by_cases ha:a=a'
      .subst ha
       rw[hs rfl];exact sf _
      .exact xf ha z
     unfold aK at e;split at e
     .rename_i hl
      split at e
      .rename_i bs hb
       cases e;have z:=i4 (A:=A) (s:=s) (e:=λj=>bs.getD j true) p1.isList p2.isList (by rw[az,az];omega) (by omega)
        (wA (A:=A.in1) (λv w x y u u' b h1 h2 h3 h4 h5=>(ih v w x y u u' b A.in1 hin h1 h2 h3 h4 h5).2) r1 r2 q1 q2 hb)
       have hm:its.length=bs.length:=by rw[tI hb];omega
       rw[az,hm,vT]at z;exact fin z
      .cases e
     .rename_i hl
      cases e;exact fin (i5 p1.isList p2.isList (by rw[az,az];simp;omega) (by omega))
    |_=>unfold aK at e;simp at e
   |_=>exact flat (n+1) _ w x y u u' b A (by intro _ z;cases z) (by intro _ z;cases z) h g r r' e
 exact main
end
noncomputable section
open PySem PySem.Spec PyProof.Rows Bn
section
variable{X:Cx}
theorem Bv{AL:List (Addr×Obj)}{σ:St}{H:Hp}{s:aa}(I:aH X AL σ H s){p:Ph}{v w:PV}{x y:V}{u u':Value}{b:Bool}{A:ao}(hu:A.units+8<cLine)(h:fD X.K p H v x)(g:fD X.K p H w y)(r:bT x u)(r':bT y u')(e:aK 8 v w=some b):
  ny A s u u' b/\SeqAt.RcNeAt A s u u' (!b):=by
 have hin:A.in1.units+7<cLine:=by show A.units+1+7<cLine;omega
 cases v with
 |non=>
  cases w<;>first |(unfold aK at e;simp at e;done) |skip
  have h:=h.non;have g:=g.non;subst h g;cases r;cases r';unfold aK at e;cases e;exact⟨f9,SeqAt.RcNeAt.none_none⟩
 |bl i=>
  cases w<;>first |(unfold aK at e;simp at e;done) |skip
  have h:=h.bl;have g:=g.bl;subst h g;cases r;cases r';unfold aK at e;cases e;exact⟨g7 _ _,SeqAt.RcNeAt.bool_bool _ _⟩
 |int i=>
  cases w<;>first |(unfold aK at e;simp at e;done) |skip
  have h:=h.int;have g:=g.int;subst h g;obtain⟨t,rfl⟩:=r;obtain⟨t',rfl⟩:=r';unfold aK at e;cases e;exact⟨g8 _ _ _ _,SeqAt.RcNeAt.int_int _ _ _ _⟩
 |str i=>
  cases w<;>first |(unfold aK at e;simp at e;done) |skip
  have h:=h.str;have g:=g.str;subst h g;obtain⟨t,rfl⟩:=r;obtain⟨t',rfl⟩:=r';unfold aK at e;cases e;exact⟨g9 _ _ _ _,SeqAt.RcNeAt.str_str _ _ _ _⟩
 |tup xs=>
  cases w with
  |tup ys=>
   obtain⟨a,vs,rfl,t1,_,r1⟩:=h.tup;obtain⟨a',ws,rfl,t2,_,r2⟩:=g.tup;cases r;cases r';obtain⟨its,q1,p1,_⟩:=I.tuple t1;obtain⟨jts,q2,p2,_⟩:=I.tuple t2;unfold aK at e;split at e
   .rename_i bs hb
    cases e;have it:=wA (s:=s) (A:=A.in1) (λv w x y u u' b h1 h2 h3 h4 h5=>(Mt I 7 v w x y u u' b A.in1 hin h1 h2 h3 h4 h5).2) r1 r2 q1 q2 hb;have z:=xc (A:=A) (s:=s) (e:=λj=>bs.getD j true) (show s.heap.IsTuple a its.toArray from p1) (show s.heap.IsTuple a' jts.toArray from p2) (by omega) it;have z':=SeqAt.RcNeAt.tuples (A:=A) (s:=s) (e:=λj=>bs.getD j true) (show s.heap.IsTuple a its.toArray from p1) (show s.heap.IsTuple a' jts.toArray from p2) (by omega) it;have l1:=r1.length.trans q1.length;have l2:=r2.length.trans q2.length;rw[az,az,<-l1,<-l2,<-tI hb,vT]at z z';exact⟨z,z'⟩
   .cases e
  |_=>unfold aK at e;simp at e
 |lst xs=>
  cases w with
  |lst ys=>
   obtain⟨a,vs,rfl,t1,_,r1⟩:=h.lst;obtain⟨a',ws,rfl,t2,_,r2⟩:=g.lst;cases r;cases r';obtain⟨its,q1,p1,_⟩:=I.list t1;obtain⟨jts,q2,p2,_⟩:=I.list t2;have l1:=r1.length.trans q1.length;have l2:=r2.length.trans q2.length;unfold aK at e;split at e
   .rename_i hl
    split at e
    .rename_i bs hb
     cases e;have it:=wA (s:=s) (A:=A.in1) (λv w x y u u' b h1 h2 h3 h4 h5=>(Mt I 7 v w x y u u' b A.in1 hin h1 h2 h3 h4 h5).2) r1 r2 q1 q2 hb;have z:=i4 (A:=A) (s:=s) (e:=λj=>bs.getD j true) p1.isList p2.isList (by rw[az,az];omega) (by omega) it;have z':=SeqAt.RcNeAt.lists (A:=A) (s:=s) (e:=λj=>bs.getD j true) p1.isList p2.isList (by rw[az,az];omega) (by omega) it;have hm:its.length=bs.length:=by rw[tI hb];omega
     rw[az,hm,vT]at z z';exact⟨z,z'⟩
    .cases e
   .rename_i hl
    cases e;exact⟨i5 p1.isList p2.isList (by rw[az,az];simp;omega) (by omega),SeqAt.RcNeAt.lists_lengths p1.isList p2.isList (by rw[az,az];simp;omega) (by omega)⟩
  |_=>unfold aK at e;simp at e
def yT(K:ag)(neg:Bool):R2:=λx y H Q=>∃p v w b,fD K p H v x/\fD K p H w y/\aK 8 v w=some b/\Q (.bl (if neg then !b else b)) H
theorem Et(hu:X.A.units+8<cLine):eQ X (compareOp .Eq) (yT X.K false):=by
 intro AL s σ H x y v u Q I rx ry h;obtain⟨p,a,b,k,h1,h2,e,q⟩:=h;exact(Bv I hu h1 h2 rx ry e).1 X.prog X.w X.xe _ ⟨.bl k,H,I,rfl,q⟩
theorem Ss(hu:X.A.units+8<cLine):eQ X (compareOp .NotEq) (yT X.K true):=by
 intro AL s σ H x y v u Q I rx ry h;obtain⟨p,a,b,k,h1,h2,e,q⟩:=h;exact(Bv I hu h1 h2 rx ry e).2 X.prog X.w X.xe _ ⟨.bl (!k),H,I,rfl,q⟩
def cY(a b:PV):AI:=(aK 8 a b).map .bl
def jQ(a b:PV):AI:=(aK 8 a b).map λk=>.bl (!k)
theorem Jv{K:ag}:iA K (yT K false) cY:=λ{p S H a b c x y Q} s ra rb e k=>by
 unfold cY at e;cases z:aK 8 a b with
 |none=>rw[z]at e;cases e
 |some t=>
  rw[z]at e;cases e;exact⟨p,a,b,t,ra,rb,z,k H _ (dR.refl H) (by unfold aR;rfl)⟩
theorem Nv{K:ag}:iA K (yT K true) jQ:=λ{p S H a b c x y Q} s ra rb e k=>by
 unfold jQ at e;cases z:aK 8 a b with
 |none=>rw[z]at e;cases e
 |some t=>
  rw[z]at e;cases e;exact⟨p,a,b,t,ra,rb,z,k H _ (dR.refl H) (by unfold aR;rfl)⟩
def i2(f:Int->Int->AI):PV->PV->AI
 |.int a,.int b=>f a b
 |_,_=>none
open Classical in
def cI(C:Int->Int->Prop)(g:Int->Int->PV)(a b:Int):AI:=if C a b then some (g a b)else none
def zL:PV->V
 |.int i=>.int i
 |.bl b=>.bl b
 |.str s=>.str s
 |_=>.non
def Sf:PV->Bool
 |.int _=>true
 |.bl _=>true
 |.str _=>true
 |.non=>true
 |_=>false
theorem jH{K:ag}{c:Addr->Prop}{H:Hp}{v:PV}(h:Sf v=true):aR K c H v (zL v):=by
 cases v with
 |tup _=>cases h
 |lst _=>cases h
 |_=>unfold aR zL;rfl
theorem yO{K:ag}{C:Int->Int->Prop}{g:Int->Int->PV}{h:Int->Int->V}(fl:∀i j,Sf (g i j)=true/\zL (g i j)=h i j):iA K (rI C h) (i2 (cI C g)):=λ{p S H a b c x y Q} s ra rb e k=>by
 cases a with
 |int i=>
  cases b with
  |int j=>
   unfold i2 cI at e;dsimp only at e;split at e
   .rename_i hc
    cases e;refine⟨i,j,ra.int,rb.int,hc,?_⟩;rw[<-(fl i j).2];exact k H _ (dR.refl H) (jH (fl i j).1)
   .cases e
  |_=>cases e
 |_=>cases e
theorem yF{K:ag}{g:Int->Int->PV}{h:Int->Int->V}(fl:∀i j,Sf (g i j)=true/\zL (g i j)=h i j):iA K (kA h) (i2 λi j=>some (g i j)):=λ{p S H a b c x y Q} s ra rb e k=>by
 cases a with
 |int i=>
  cases b with
  |int j=>
   cases e;refine⟨i,j,ra.int,rb.int,?_⟩;rw[<-(fl i j).2];exact k H _ (dR.refl H) (jH (fl i j).1)
  |_=>cases e
 |_=>cases e
def rR(i j:Int):Prop:=Og i j\/(Bd 1000000 i/\Bd 1000000 j)
theorem rR.ok{i j:Int}(h:rR i j):IntMulOk i j:=by
 rcases h with h |h
 .exact h.ok
 have h1:=Dq h.1;have h2:=Dq h.2;unfold IntMulOk Builtin.Int.intTooBig bitsLine;intro c;simp only[jd,decide_eq_true_eq]at c;have:=c.2;omega
theorem aat:eQ X (binaryOp .Mult) (rI rR λi j=>.int (i*j)):=zM λ_ _ _ _ _ _ _ hc q=>mul_int q hc.ok
def bD:=i2 (cI rR λi j=>.int (i*j))
def iO:=i2 (cI rS λi j=>.int (i.fdiv j))
def gA:=i2 (cI (λ_ j=>j≠0) λi j=>.int (i.fmod j))
def gG:=i2 (cI yR λi j=>.int (i^j.toNat))
def dI:=i2 λi j=>some (.int (i-j))
def kB:=i2 λi j=>some (.bl (decide (i<j)))
def fLe:=i2 λi j=>some (.bl (decide (i<=j)))
def fP:=i2 λi j=>some (.bl (decide (j<i)))
def sI:=i2 λi j=>some (.bl (decide (j<=i)))
theorem adr{K:ag}:iA K (rI rR λi j=>.int (i*j)) bD:=yO λ_ _=>⟨rfl,rfl⟩
theorem abV{K:ag}:iA K (rI rS λi j=>.int (i.fdiv j)) iO:=yO λ_ _=>⟨rfl,rfl⟩
theorem aej{K:ag}:iA K (rI (λ_ j=>j≠0) λi j=>.int (i.fmod j)) gA:=yO λ_ _=>⟨rfl,rfl⟩
theorem ad9{K:ag}:iA K (rI yR λi j=>.int (i^j.toNat)) gG:=yO λ_ _=>⟨rfl,rfl⟩
theorem adT{K:ag}:iA K (kA λi j=>.int (i-j)) dI:=yF λ_ _=>⟨rfl,rfl⟩
theorem Lv{K:ag}:iA K (kA λi j=>.bl (decide (i<j))) kB:=yF λ_ _=>⟨rfl,rfl⟩
theorem Vv{K:ag}:iA K (kA λi j=>.bl (decide (j<i))) fP:=yF λ_ _=>⟨rfl,rfl⟩
theorem Kv{K:ag}:iA K (kA λi j=>.bl (decide (j<=i))) sI:=yF λ_ _=>⟨rfl,rfl⟩
def cB:PV->AI
 |.int i=>some (.int (-i))
 |_=>none
theorem aeq{K:ag}:yZ K (rU λi=>.int (-i)) cB:=λ{p S H a c x Q} s ra e k=>by
 cases a with
 |int i=>
  cases e;exact⟨i,ra.int,k H _ (dR.refl H) (jH (v:=.int (-i)) rfl)⟩
 |_=>cases e
def Tu(K:ag):R2:=λx y H Q=>∃l b xs zs,x=.ref l/\y=.ref b/\cJ K H l xs/\cJ K H b zs/\xs.length+zs.length<=sizeLine/\∀p,H p=none->Q (.ref p) (aY H p (.lst (xs++zs)))
theorem Z5:eQ X (binaryOp .Add) (Tu X.K):=by
 intro AL s σ H x y v u Q I rx ry h;obtain⟨l,b,xs,zs,rfl,rfl,hx,hy,hz,q⟩:=h;cases rx;cases ry;obtain⟨its,r1,p1,_⟩:=I.list hx;obtain⟨jts,r2,p2,_⟩:=I.list hy;obtain⟨⟨cls,dd,data,sl⟩,n,ho,hc,_,hd⟩:=p1;obtain⟨⟨cls2,dd2,data2,sl2⟩,n2,ho2,hc2,_,hd2⟩:=p2;simp only at hc hd hc2 hd2;subst hc hd hc2 hd2;have e:its.toArray++jts.toArray=(its++jts).toArray:=by simp
 have l1:=r1.length;have l2:=r2.length;refine ql ⟨_,ho,rfl⟩ ⟨_,ho2,rfl⟩ noFill_list_add seq_list_add PySem.F.slot_list_add PySem.F.entry_list_add (PySem.F.args_list_add_2 _ _) (list_addW l b its.toArray jts.toArray n n2 dd dd2 sl sl2 (by rw[az,az];omega)) ⟨ho,ho2,?_⟩;rw[e];exact⟨.ref _,_,I.lnew (t':=s.toks) (r1.append r2) (by rw[av];omega),rfl,q _ I.fresh⟩
def aF:PV->PV->AI
 |.int a,.int b=>some (.int (a+b))
 |.lst xs,.lst ys=>if xs.length+ys.length<=16777216 then some (.lst (xs++ys))else none
 |.tup xs,.tup ys=>if xs.length≠0/\ys.length≠0/\xs.length+ys.length<=16777216 then some (.tup (xs++ys))else none
 |_,_=>none
def Ou(K:ag):R2:=λx y H Q=>(kA λi j=>.int (i+j)) x y H Q\/Tu K x y H Q\/Tf K x y H Q
theorem abw:eQ X (binaryOp .Add) (Ou X.K):=eQ.or ac2 (eQ.or Z5 Vq)
theorem adM{K:ag}:iA K (Ou K) aF:=λ{p S H a b c x y Q} s ra rb e k=>by
 cases a with
 |int i=>
  cases b with
  |int j=>
   cases e;exact .inl ⟨i,j,ra.int,rb.int,k H _ (dR.refl H) (jH (v:=.int (i+j)) rfl)⟩
  |_=>cases e
 |lst xs=>
  cases b with
  |lst ys=>
   have e:(if xs.length+ys.length<=16777216 then some (PV.lst (xs++ys))else none)=some c:=e;split at e
   .rename_i hl
    cases e;obtain⟨a1,vs,rfl,l1,z1,r1⟩:=ra.lst;obtain⟨a2,ws,rfl,l2,z2,r2⟩:=rb.lst;have hz:vs.length+ws.length<=sizeLine:=by rw[<-r1.length,<-r2.length,jG];exact hl
    exact .inr (.inl ⟨a1,a2,vs,ws,rfl,rfl,l1,l2,hz,λt ht=>k _ _ (iM ht) (pP s (r1.append r2) (by rw[av];exact hz) ht)⟩)
   .cases e
  |_=>cases e
 |tup xs=>
  cases b with
  |tup ys=>
   have e:(if xs.length≠0/\ys.length≠0/\xs.length+ys.length<=16777216 then some (PV.tup (xs++ys))else none)=some c:=e;split at e
   .rename_i hl
    cases e;obtain⟨a1,vs,rfl,l1,z1,r1⟩:=ra.tup;obtain⟨a2,ws,rfl,l2,z2,r2⟩:=rb.tup;have hz:vs.length+ws.length<=sizeLine:=by rw[<-r1.length,<-r2.length,jG];exact hl.2.2
    refine .inr (.inr ⟨a1,a2,vs,ws,rfl,rfl,l1,l2,λq=>hl.1 (by rw[r1.length,q];rfl),hz,λq=>absurd (show ys.length=0 by rw[r2.length,q];rfl) hl.2.1,λ_ t ht=>k _ _ (iM ht) (pO s (r1.append r2) (by rw[av];exact hz) ht)⟩)
   .cases e
  |_=>cases e
 |_=>cases e
end
section
variable{K:ag}{cl:Str->Addr}{E:XK}{X:Cx}{a b e:ah}{es:List ah}{ma mb m:ME}{ms:MA}{pos p2:ai}
def aE:PV->PV->AI
 |.lst xs,.int i=>aZ xs i
 |.tup xs,.int i=>aZ xs i
 |_,_=>none
theorem wJ{c:Addr->Prop}{H:Hp}{xs:AH}{vs:List V}{i:Int}{v:PV}(r:aT K c H xs vs)(e:aZ xs i=some v):∃x,aZ vs i=some x/\aR K c H v x:=by
 unfold aZ at e⊢;rw[<-r.length];cases z:bA xs.length i with
 |none=>rw[z]at e;cases e
 |some j=>
  rw[z]at e;exact r.get e
theorem aeI:iA K (Qw K) aE:=λ{p S H a b c x y Q} s ra rb e k=>by
 cases b with
 |int i=>
  cases a with
  |lst xs=>
   obtain⟨a1,vs,rfl,l1,z1,r1⟩:=ra.lst;obtain⟨x,e1,r2⟩:=wJ r1 e;exact .inl ⟨a1,vs,i,x,rfl,rb.int,l1,e1,k H x (dR.refl H) r2⟩
  |tup xs=>
   obtain⟨a1,vs,rfl,l1,z1,r1⟩:=ra.tup;obtain⟨x,e1,r2⟩:=wJ r1 e;exact .inr (.inl ⟨a1,vs,i,x,rfl,rb.int,l1,e1,k H x (dR.refl H) r2⟩)
  |_=>cases e
 |_=>cases a<;>cases e
theorem ad6(ha:aX K cl E X a ma)(hb:aX K cl E X b mb)(hs:wS b:=by intro _ _;rfl):aX K cl E X (.Subscript a b pos) (aC aE ma mb):=by
 intro hK;subst hK;refine(Wf Us (ha rfl) (hb rfl) hs).imp ?_
 rintro σ H Q ⟨p,S,ρ,s,e,h⟩
 exact cR s e h λq H1 a x S1 st s1 e1 r1 h1=>cR s1 e1 h1 λq2 H2 b y S2 st2 s2 e2 r2 h2=>vK aeI s2 (st2.repA r1) r2 h2
abbrev MO:=bV->aG->bQ AG
def dM:MO:=λ_ S=>.ok none S
def fT:AV->aG->bQ AG
 |.pv (.int i),S=>.ok (some i) S
 |_,_=>.fail
def dD(m:ME):MO:=λρ S=>(m ρ S).bind fT
abbrev RO:Ph->Hp->AG->AG->Prop:=λ_ _ a b=>a=b
variable(K cl E X)
def sE(e:Option ah)(m:MO):Prop:=X.K=K->PO X e (tP K cl E RO m)
variable{K cl E X}
theorem PO.imp{e:Option ah}{t t':TO}(h:PO X e t)(i:∀σ H Q,t' σ H Q->t σ H Q):PO X e t':=λAL s σ H Q I q=>h AL s σ H Q I (i σ H Q q)
theorem K8:sE K cl E X none dM:=λ_=>PO.imp aaA λσ H Q ⟨p,S,ρ,s,e,h⟩=>bU.ret (R:=RO) h s rfl
theorem T9(h:aX K cl E X e m):sE K cl E X (some e) (dD m):=by
 intro hK;subst hK;refine PO.imp (aag (h rfl)) ?_
 rintro σ H Q ⟨p,S,ρ,s,e,h⟩
 refine cR s e h λq H1 a x S1 st s1 e1 r1 h1=>?_;unfold fT at h1;split at h1
 .rename_i i
  exact⟨i,(show fD X.K q H1 (.int i) x from .inl r1).int,bU.ret (R:=RO) h1 s1 rfl⟩
 .exact h1.elim
def iR(xs:AH)(lo hi:AG):AH:=(xs.drop (HT.sIx xs.length 0 lo)).take (HT.sIx xs.length xs.length hi-HT.sIx xs.length 0 lo)
def gL(v:PV)(lo hi:AG):AI:=match v with
 |.lst xs=>some (.lst (iR xs lo hi))
 |.tup xs=>if HT.sIx xs.length 0 lo=0/\HT.sIx xs.length xs.length hi=xs.length then none else some (.tup (iR xs lo hi))
 |_=>none
def dG(m:ME)(ml mh:MO):ME:=λρ S=>(m ρ S).bind λv S1=>(ml ρ S1).bind λlo S2=>(mh ρ S2).bind λhi S3=>jF ((rd S3 v).bind λx=>gL x lo hi) S3
theorem Qo{c:Addr->Prop}{H:Hp}{xs:AH}{vs:List V}{lo hi:AG}(r:aT K c H xs vs):aT K c H (iR xs lo hi) (oR vs lo hi):=by
 unfold iR oR;rw[<-r.length];exact(r.drop _).take _
theorem ad2{lo hi:Option ah}{ml mh:MO}(he:aX K cl E X e m)(hl:sE K cl E X lo ml)(hu:sE K cl E X hi mh):aX K cl E X (.Subscript e (.Slice lo hi none p2) pos) (dG m ml mh):=by
 intro hK;subst hK;refine(Q2 (pA.or aaT act) (he rfl) (hl rfl) (hu rfl)).imp ?_
 rintro σ H Q ⟨p,S,ρ,s,e,h⟩
 refine cR s e h λq H1 a x S1 st s1 e1 r1 h1=>cR s1 e1 h1 λq2 H2 lo lo' S2 st2 s2 e2 r2 h2=>cR s2 e2 h2 λq3 H3 hi hi' S3 eG s3 e3 r3 h3=>?_;cases r2;cases r3;have ra:=eG.repA (st2.repA r1);obtain⟨c,ec,k⟩:=tO s3 h3;cases z:rd S3 a with
 |none=>rw[z]at ec;cases ec
 |some v=>
  rw[z]at ec;have rv:=tZ s3 ra z;cases v with
  |lst xs=>
   have ec:some (PV.lst (iR xs lo hi))=some c:=ec;cases ec;obtain⟨a1,vs,rfl,l1,z1,r1⟩:=rv.lst;exact .inl ⟨a1,vs,rfl,l1,λt ht=>k _ _ (iM ht) (pP s3 (Qo r1) (gm (vC vs lo hi) z1) ht)⟩
  |tup xs=>
   obtain⟨a1,vs,rfl,l1,z1,r1⟩:=rv.tup;have ec:(if HT.sIx xs.length 0 lo=0/\HT.sIx xs.length xs.length hi=xs.length then none else some (PV.tup (iR xs lo hi)))=some c:=ec;split at ec
   .cases ec
   .rename_i hw
    cases ec;rw[r1.length]at hw;exact .inr ⟨a1,vs,rfl,l1,hw,λt ht=>k _ _ (iM ht) (pO s3 (Qo r1) (gm (vC vs lo hi) z1) ht)⟩
  |_=>cases ec
theorem sY{id:String}{r:List V->Hp->VK->Prop}{f:AH->AI}{x:Str}{p:ai}(hc:iX X (.builtin id) r)(hf:lJ X.K r f)(hg:Gl X x)(hm:X.mg x=none)(hv:bootBuiltins x=some (.builtin id))(ha:eW K cl E X (e::es) ms)(hn:x≠"__name__":=by decide)(hdb:(x==("__debug__":Str))=false:=by decide)
  (he:starEach (e::es) X.env=(false,eval e X.env)::starEach es X.env:=by rfl)(hpl:(backTo pos (starEach es X.env)).any (·.1)=false:=by rfl):aX K cl E X (.Call (.Name x p) (e::es) [] pos) (mR f ms):=by
 intro hK;subst hK;refine PE.imp (Vb hc hg hm hv (ha rfl) hn hdb he hpl) ?_
 rintro σ H Q ⟨p,S,ρ,s,ev,h⟩
 exact cR s ev h λq H' as xs S' stp sm ev r k=>Fm hf sm r k
theorem Db{T:String}{r:List V->Hp->VK->Prop}{f:AH->AI}{x:Str}{p:ai}(hc:iX X (.type T) r)(hf:lJ X.K r f)(hg:Gl X x)(hm:X.mg x=none)(hv:bootBuiltins x=some (.type T))(ha:eW K cl E X (e::es) ms)(hn:x≠"__name__":=by decide)(hdb:(x==("__debug__":Str))=false:=by decide)
  (he:starEach (e::es) X.env=(false,eval e X.env)::starEach es X.env:=by rfl)(hpl:(backTo pos (starEach es X.env)).any (·.1)=false:=by rfl):aX K cl E X (.Call (.Name x p) (e::es) [] pos) (mR f ms):=by
 intro hK;subst hK;refine PE.imp (vL hc hg hm hv (ha rfl) hn hdb he hpl) ?_
 rintro σ H Q ⟨p,S,ρ,s,ev,h⟩
 exact cR s ev h λq H' as xs S' stp sm ev r k=>Fm hf sm r k
def eC:AH->AI
 |[.lst xs]=>some (.int xs.length)
 |[.tup xs]=>some (.int xs.length)
 |_=>none
theorem aeh:lJ K (λxs H Q=>∃p ys,xs=[.ref p]/\(cJ K H p ys\/dJ K H p ys)/\Q (.int ys.length) H) eC:=λ{p S H as c xs Q} s ra e k=>by
 unfold eC at e;split at e
 .rename_i zs
  cases e;cases ra with
  |cons h t=>
   cases t;obtain⟨a,vs,rfl,l,z,r⟩:=h.lst;refine⟨a,vs,rfl,.inl l,?_⟩;rw[<-r.length];exact k H _ (dR.refl H) (jH (v:=.int zs.length) rfl)
 .rename_i zs
  cases e;cases ra with
  |cons h t=>
   cases t;obtain⟨a,vs,rfl,l,z,r⟩:=h.tup;refine⟨a,vs,rfl,.inr l,?_⟩;rw[<-r.length];exact k H _ (dR.refl H) (jH (v:=.int zs.length) rfl)
 .cases e
def qC:AH->AI
 |[.int i]=>some (.int (if i<0 then-i else i))
 |_=>none
theorem aea:lJ K (λxs H Q=>∃i,xs=[.int i]/\Q (.int (if i<0 then-i else i)) H) qC:=λ{p S H as c xs Q} s ra e k=>by
 unfold qC at e;split at e
 .rename_i i
  cases e;cases ra with
  |cons h t=>
   cases t;cases h.int;exact⟨i,rfl,k H _ (dR.refl H) (jH (v:=.int _) rfl)⟩
 .cases e
def fU:AH->AI
 |[.lst xs]=>some (.tup xs)
 |[.tup xs]=>some (.tup xs)
 |_=>none
theorem aaX:lJ K (λxs H Q=>∃p ys,xs=[.ref p]/\((cJ K H p ys/\∀l,H l=none->Q (.ref l) (aY H l (.tup ys)))\/(dJ K H p ys/\Q (.ref p) H))) fU:=λ{p S H as c xs Q} s ra e k=>by
 unfold fU at e;split at e
 .rename_i zs
  cases e;cases ra with
  |cons h t=>
   cases t;obtain⟨a,vs,rfl,l,z,r⟩:=h.lst;exact⟨a,vs,rfl,.inl ⟨l,λt ht=>k _ _ (iM ht) (pO s r z ht)⟩⟩
 .rename_i zs
  cases e;cases ra with
  |cons h t=>
   cases t;obtain⟨a,vs,rfl,l,z,r⟩:=h.tup;refine⟨a,vs,rfl,.inr ⟨l,k H _ (dR.refl H) ?_⟩⟩;unfold aR;exact⟨a,vs,rfl,l,z,r⟩
 .cases e
def oE:AH->AI
 |[.lst xs]=>some (.lst xs)
 |[.tup xs]=>some (.lst xs)
 |_=>none
theorem abq:lJ K (λxs H Q=>∃p ys,xs=[.ref p]/\(cJ K H p ys\/dJ K H p ys)/\∀l,H l=none->Q (.ref l) (aY H l (.lst ys))) oE:=λ{p S H as c xs Q} s ra e k=>by
 unfold oE at e;split at e
 .rename_i zs
  cases e;cases ra with
  |cons h t=>
   cases t;obtain⟨a,vs,rfl,l,z,r⟩:=h.lst;exact⟨a,vs,rfl,.inl l,λt ht=>k _ _ (iM ht) (pP s r z ht)⟩
 .rename_i zs
  cases e;cases ra with
  |cons h t=>
   cases t;obtain⟨a,vs,rfl,l,z,r⟩:=h.tup;exact⟨a,vs,rfl,.inr l,λt ht=>k _ _ (iM ht) (pP s r z ht)⟩
 .cases e
def kH:AH->Option (List Bool)
 |[]=>some []
 |.bl b::r=>match kH r with
  |some bs=>some (b::bs)
  |none=>none
 |_::_=>none
def iZ:AH->AI
 |[.lst xs]=>(kH xs).map λbs=>.bl (bs.all id)
 |_=>none
theorem Ho{c:Addr->Prop}{H:Hp}:∀{xs:AH}{bs:List Bool}{vs:List V},kH xs=some bs->aT K c H xs vs->vs=bs.map V.bl
 |[],bs,vs,e,r=>by
  cases e;unfold aT at r;exact r
 |.bl b::xs,bs,vs,e,r=>by
  unfold kH at e;split at e
  .rename_i cs h
   cases e;unfold aT at r;obtain⟨v,w,rfl,r1,r2⟩:=r;unfold aR at r1;rw[r1,Ho h r2];rfl
  .cases e
 |.non::_,_,_,e,_=>by cases e
 |.int _::_,_,_,e,_=>by cases e
 |.str _::_,_,_,e,_=>by cases e
 |.tup _::_,_,_,e,_=>by cases e
 |.lst _::_,_,_,e,_=>by cases e
theorem ads:lJ K (λxs H Q=>∃(a:Addr)(bs:List Bool),xs=[.ref a]/\cJ K H a (bs.map V.bl)/\Q (.bl (bs.all id)) H) iZ:=λ{p S H as c xs Q} s ra e k=>by
 unfold iZ at e;split at e
 .rename_i zs
  cases y:kH zs with
  |none=>rw[y]at e;cases e
  |some bs=>
   rw[y]at e;cases e;cases ra with
   |cons h t=>
    cases t;obtain⟨a,vs,rfl,l,z,r⟩:=h.lst;rw[Ho y r]at l;exact⟨a,bs,rfl,l,k H _ (dR.refl H) (jH (v:=.bl _) rfl)⟩
 .cases e
def jL:AH->AI
 |[.int i]=>some (.int i)
 |[.bl b]=>some (.int (if b then 1 else 0))
 |_=>none
theorem adh:lJ K (λxs H Q=>(∃i,xs=[.int i]/\Q (.int i) H)\/∃k,xs=[.bl k]/\Q (.int (if k then 1 else 0)) H) jL:=λ{p S H as c xs Q} s ra e k=>by
 unfold jL at e;split at e
 .rename_i i
  cases e;cases ra with
  |cons h t=>
   cases t;cases h.int;exact .inl ⟨i,rfl,k H _ (dR.refl H) (jH (v:=.int _) rfl)⟩
 .rename_i i
  cases e;cases ra with
  |cons h t=>
   cases t;cases h.bl;exact .inr ⟨i,rfl,k H _ (dR.refl H) (jH (v:=.int _) rfl)⟩
 .cases e
end
end
section
variable{K:ag}{cl:Str->Addr}{E:XK}{X:Cx}{a b c e l tg:ah}{es:List ah}{m ma mb:ME}{ms:MA}{pos:ai}{p q:Ph}{H H':Hp}{S:aG}
theorem aV.push(s:aV K p S H){D:Addr}{ps:AH}{vs:List V}(h:H D=none)(l:vs.length<=sizeLine)(r:aT K p.c H ps vs):
  let q:Ph:=⟨p.f++[D],λa=>p.w a\/a=D,λa=>p.c a\/a=D⟩
  bP p H q (aY H D (.lst vs))/\aV K q (S++[.lst ps]) (aY H D (.lst vs)):=by
 intro q;obtain⟨st0,sm0⟩:=s.res (D:=D) (o:=.lst vs) h trivial;have nf0:D∉p.f:=λz=>s.notin h (s.wc D (s.sub D z));refine⟨⟨st0.wc,st0.mu,⟨[D],rfl⟩,st0.mw,st0.mono,λa x n=>?_,st0.nw,st0.nc,st0.keep⟩,?_,by simp[q,s.len],λa x=>?_,sm0.wc,sm0.mu,λk a o e1 e2=>?_⟩
 .rcases ck.mp x with z |z
  .exact absurd z n
  .have:a=D:=by simpa using z
   rw[this];exact h
 .show(p.f++[D]).Nodup
  rw[nv];refine⟨s.nd,by simp,λa ha b hb z=>?_⟩;have:b=D:=by simpa using hb
  exact nf0 (this▸z▸ha)
 .rcases ck.mp x with z |z
  .exact .inl (s.sub a z)
  .exact .inr (by simpa using z)
 .by_cases hk:k<S.length
  .have e1':p.f[k]?=some a:=by
    have e1:(p.f++[D])[k]?=some a:=e1
    rwa[du (by rw[s.len];exact hk)]at e1
   rw[du hk]at e2;refine(s.obj k a o e1' e2).mono (λvs e=>by rw[bS (gD e h)];exact e) (λb w f=>⟨⟨.inl w,λm=>?_⟩,λvs e=>by rw[bS (gD e h)];exact e⟩) λ_ _ r=>st0.reps r;rcases ck.mp m with z |z
   .exact f z
   .have:b=D:=by simpa using z
    exact s.notin h (this▸s.wc b w)
  .have hk':k=S.length:=by
    have:=(ca.mp e2).1;simp at this;omega
   subst hk';rw[de (aj _),gj]at e2;have e1:(p.f++[D])[S.length]?=some a:=e1;rw[<-s.len,de (aj _),gj]at e1;cases e1;cases e2;exact⟨vs,fH,l,st0.reps r⟩
theorem aV.write(s:aV K p S H){D:Addr}{k:Nat}{ps:AH}{vs:List V}(h:p.f[k]?=some D)(hk:k<S.length)(l:vs.length<=sizeLine)(r:aT K p.c H ps vs):
  bP p H p (aY H D (.lst vs))/\aV K p (S.set k (.lst ps)) (aY H D (.lst vs)):=by
 have w:p.w D:=s.sub D (cx h);have st:bP p H p (aY H D (.lst vs)):=⟨s.wc,s.mu,jr,λ_ h=>h,λ_ h=>h,λ_ h g=>absurd h g,λ_ h g=>absurd h g,λ_ h g=>absurd h g,λa u e nw=>by
  rw[bS (λz:a=D=>nw (by rw[z];exact w))];exact e⟩
 refine⟨st,s.nd,by rw[fe];exact s.len,s.sub,s.wc,λa x=>?_,λj a o e1 e2=>?_⟩
 .by_cases z:a=D
  .rw[z,fH]
   exact⟨_,rfl,trivial⟩
  .rw[bS z]
   exact s.mu a x
 .by_cases hj:k=j
  .subst hj
   rw[h]at e1;cases e1;rw[dq hk]at e2;cases e2;exact⟨vs,fH,l,st.reps r⟩
  .rw[dr hj]at e2
   have ne:a≠D:=λq=>hj (qT s.nd h (q▸e1));exact(s.obj j a o e1 e2).mono (λvs e=>by rw[bS ne];exact e) (λb w f=>⟨⟨w,f⟩,λvs e=>by rw[bS (λz:b=D=>f (z▸cx h))];exact e⟩) λ_ _ r=>st.reps r
def nE(xs:AK)(S:aG):bQ AV:=match oK xs with
 |some vs=>if vs.length<=16777216 then .ok (.ref S.length) (S++[.lst vs])else .fail
 |none=>.fail
def fZ(ms:MA):ME:=λρ S=>(ms ρ S).bind nE
theorem abp(h:eW K cl E X es ms):aX K cl E X (.List es pos) (fZ ms):=by
 intro hK;subst hK;refine(Xe (h rfl)).imp ?_
 rintro σ H Q ⟨p,S,ρ,s,e,h⟩
 refine cR s e h λq H1 as xs S1 st s1 e1 r1 h1=>?_;unfold nE at h1;split at h1
 .rename_i vs hv
  split at h1
  .rename_i hl
   have r:=Fa hv r1;rw[r.length,<-jG]at hl;refine⟨hl,λt ht=>?_⟩;obtain⟨st2,sm2⟩:=s1.push ht hl r;exact h1 _ _ (.ref t) st2 sm2 ⟨t,by show(q.f++[t])[S1.length]?=some t;rw[<-s1.len,de (aj _),gj];rfl,rfl⟩
  .exact h1.elim
 .exact h1.elim
def kL(k:Nat)(ys:AK)(S:aG):bQ AV:=match ys with
 |[.pv y]=>match S[k]? with
  |some (.lst xs)=>if xs.length<16777216 then .ok (.pv .non) (S.set k (.lst (xs++[y])))else .fail
  |_=>.fail
 |_=>.fail
def fN{α:Type}(k:AV)(S:aG)(f:Nat->bQ α):bQ α:=match k with
 |.ref k=>(match S[k]? with
  |some (.dic _ _)=>.fail
  |some (.dol _ _)=>.fail
  |_=>f k)
 |_=>.fail
theorem wD{α:Type}(k:Nat)(S:aG)(f:Nat->bQ α):fN (.ref k) S f=.fail\/(fN (.ref k) S f=f k/\(∀n l,S[k]?≠some (.dic n l))/\∀n l,S[k]?≠some (.dol n l)):=by
 have e:fN (.ref k) S f=(match S[k]? with
  |some (.dic _ _)=>.fail
  |some (.dol _ _)=>.fail
  |_=>f k):=rfl
 rw[e];cases S[k]? with
 |none=>exact .inr ⟨rfl,λ_ _ z=>(nomatch z),λ_ _ z=>(nomatch z)⟩
 |some o=>
  cases o with
  |dic n l=>exact .inl rfl
  |dol n l=>exact .inl rfl
  |lst xs=>exact .inr ⟨rfl,λ_ _ z=>(nomatch z),λ_ _ z=>(nomatch z)⟩
  |lol xs=>exact .inr ⟨rfl,λ_ _ z=>(nomatch z),λ_ _ z=>(nomatch z)⟩
def eO(m:ME)(ms:MA):ME:=λρ S=>(m ρ S).bind λk S1=>fN k S1 λk=>(ms ρ S1).bind λys S2=>kL k ys S2
theorem Rc{k:Nat}{x:V}(s:aV K p S H)(r:bY K p H (.ref k) x)(n1:∀n l,S[k]?≠some (.dic n l))(n2:∀n l,S[k]?≠some (.dol n l)):Jh K "list" x H:=by
 obtain⟨a,e,rfl⟩:=r;have hk:k<S.length:=by
  have:=(ca.mp e).1;rw[<-s.len];exact this
 have z:=s.obj k a S[k] e (ay hk);cases y:S[k]with
 |lst xs=>
  rw[y]at z;obtain⟨vs,h,_⟩:=z;exact .inl ⟨rfl,vs,cJ.of h⟩
 |lol xss=>
  rw[y]at z;obtain⟨bs,h,_⟩:=z;exact .inl ⟨rfl,_,cJ.of h⟩
 |dic n l=>exact absurd (by rw[ay hk,y]) (n1 n l)
 |dol n l=>exact absurd (by rw[ay hk,y]) (n2 n l)
theorem F8{apos cpos:ai}(ho:aX K cl E X a m)(ha:eW K cl E X [e] ms)(hbase:attributeBase a "append" X.env (eval a X.env)=eval a X.env:=by rfl)
  (hfew:((backTo cpos (starEach [e] X.env)).all (λx=>!x.1)&&(backToKw cpos (keywordEach [] X.env)).all (λx=>x.1.isSome)&&decide (([e]:List ah).length+([]:List jb).length+(if([]:List jb).isEmpty then 0 else 1)<30))=true:=by rfl)
  (hline:(apos.endLine==cpos.line)=true:=by rfl)(hs:starEach [e] X.env=[(false,eval e X.env)]:=by rfl):aX K cl E X (.Call (.Attribute a "append" apos) [e] [] cpos) (eO m ms):=by
 intro hK;subst hK;refine PE.imp (Mf xl wg i6 sT (ho rfl) (ha rfl) hbase hfew hline hs rfl) ?_
 rintro σ H Q ⟨p,S,ρ,s,ev,h⟩
 refine cR s ev h λq H1 k x S1 st s1 e1 r1 h1=>?_;cases k with
 |pv v=>exact h1.elim
 |ref k=>
  have h1:bU X.K cl (bY X.K) q H1 (fN (.ref k) S1 λk=>(ms ρ S1).bind λys S2=>kL k ys S2) Q E:=h1;rcases wD k S1 (λk=>(ms ρ S1).bind λys S2=>kL k ys S2)with z |⟨z,n1,n2⟩
  .rw[z]at h1
   exact h1.elim
  rw[z]at h1;refine⟨Rc s1 r1 n1 n2,cR s1 e1 h1 λq2 H2 ys xs S2 st2 s2 e2 r2 h2=>?_⟩;obtain⟨a,ea,rfl⟩:=st2.repA r1;unfold kL at h2;split at h2
  .rename_i y
   cases r2 with
   |cons r3 r4=>
    cases r4;rename_i x;cases z:S2[k]? with
    |none=>rw[z]at h2;exact h2.elim
    |some o=>
     cases o with
     |lol _=>simp only[z]at h2;exact h2.elim
     |dic _ _=>simp only[z]at h2;exact h2.elim
     |dol _ _=>simp only[z]at h2;exact h2.elim
     |lst zs=>
      simp only[z]at h2;obtain⟨vs,h3,l3,r4⟩:=s2.obj k a _ ea z;split at h2
      .rename_i hl
       rw[r4.length]at hl;have hz:=jG;refine⟨a,vs,x,rfl,rfl,h3,by omega,?_⟩;obtain⟨eG,sm3⟩:=s2.write ea (ca.mp z).1 (ps:=zs++[y]) (vs:=vs++[x]) (by rw[av,jz];omega) (r4.append (.cons r3 .nil));exact h2 _ _ .non eG sm3 (by show aR X.K q2.c (aY H2 a (.lst (vs++[x]))) .non .non;unfold aR;rfl)
      .exact h2.elim
  .exact h2.elim
def pX(k:Nat)(ys:AK)(S:aG):bQ AV:=match ys with
 |[.pv (.int i)]=>if-9223372036854775808<=i/\i<9223372036854775808 then(match S[k]? with
  |some (.lst xs)=>match seqIndex? i xs.length with
   |some j=>match xs[j]? with
    |some v=>.ok (.pv v) (S.set k (.lst (xs.eraseIdx j)))
    |none=>.fail
   |none=>.fail
  |_=>.fail)else .fail
 |_=>.fail
def oP(m:ME)(ms:MA):ME:=λρ S=>(m ρ S).bind λk S1=>fN k S1 λk=>(ms ρ S1).bind λys S2=>pX k ys S2
theorem abZ{apos cpos:ai}(ho:aX K cl E X a m)(ha:eW K cl E X [e] ms)(hbase:attributeBase a "pop" X.env (eval a X.env)=eval a X.env:=by rfl)
  (hfew:((backTo cpos (starEach [e] X.env)).all (λx=>!x.1)&&(backToKw cpos (keywordEach [] X.env)).all (λx=>x.1.isSome)&&decide (([e]:List ah).length+([]:List jb).length+(if([]:List jb).isEmpty then 0 else 1)<30))=true:=by rfl)
  (hline:(apos.endLine==cpos.line)=true:=by rfl)(hs:starEach [e] X.env=[(false,eval e X.env)]:=by rfl):aX K cl E X (.Call (.Attribute a "pop" apos) [e] [] cpos) (oP m ms):=by
 intro hK;subst hK;refine PE.imp (Mf xl PySem.F.slot_list_pop PySem.F.type_list_pop N4 (ho rfl) (ha rfl) hbase hfew hline hs rfl) ?_
 rintro σ H Q ⟨p,S,ρ,s,ev,h⟩
 refine cR s ev h λq H1 k x S1 st s1 e1 r1 h1=>?_;cases k with
 |pv v=>exact h1.elim
 |ref k=>
  have h1:bU X.K cl (bY X.K) q H1 (fN (.ref k) S1 λk=>(ms ρ S1).bind λys S2=>pX k ys S2) Q E:=h1;rcases wD k S1 (λk=>(ms ρ S1).bind λys S2=>pX k ys S2)with z |⟨z,n1,n2⟩
  .rw[z]at h1
   exact h1.elim
  rw[z]at h1;refine⟨Rc s1 r1 n1 n2,cR s1 e1 h1 λq2 H2 ys xs S2 st2 s2 e2 r2 h2=>?_⟩;obtain⟨a,ea,rfl⟩:=st2.repA r1;unfold pX at h2;split at h2
  .rename_i i
   cases r2 with
   |cons r3 r4=>
    cases r4;rename_i x;have ex:x=.int i:=(show fD X.K q2 H2 (.int i) x from .inl r3).int;subst ex;split at h2
    .rename_i hi
     cases z:S2[k]? with
     |none=>rw[z]at h2;exact h2.elim
     |some o=>
      cases o with
      |lol _=>simp only[z]at h2;exact h2.elim
      |dic _ _=>simp only[z]at h2;exact h2.elim
      |dol _ _=>simp only[z]at h2;exact h2.elim
      |lst zs=>
       simp only[z]at h2;obtain⟨vs,h3,l3,r4⟩:=s2.obj k a _ ea z;cases y:seqIndex? i zs.length with
       |none=>simp only[y]at h2;exact h2.elim
       |some j=>
        simp only[y]at h2;cases yv:zs[j]? with
        |none=>simp only[yv]at h2;exact h2.elim
        |some v=>
         simp only[yv]at h2;obtain⟨u,eu,ru⟩:=r4.get yv;refine⟨a,vs,i,j,u,rfl,rfl,h3,hi.1,hi.2,by rw[<-r4.length];exact y,eu,?_⟩;obtain⟨eG,sm3⟩:=s2.write ea (ca.mp z).1 (ps:=zs.eraseIdx j) (vs:=vs.eraseIdx j) (gm (Jb vs j) l3) (r4.eraseIdx j);exact h2 _ _ u eG sm3 (eG.rep ru)
    .exact h2.elim
  .exact h2.elim
def oO(k:Nat)(i:AV)(v:AV)(S:aG):bQ Unit:=match i,v with
 |.pv (.int i),.pv v=>match S[k]? with
  |some (.lst xs)=>match bA xs.length i with
   |some j=>.ok () (S.set k (.lst (xs.set j v)))
   |none=>.fail
  |_=>.fail
 |_,_=>.fail
def jW(mo mi mv:ME):MS:=λρ S=>cV.of (mv ρ S) λv S1=>cV.of (mo ρ S1) λk S2=>cV.of (mi ρ S2) λi S3=>cV.of (fN k S3 λk=>oO k i v S3) λ_ S4=>.nx ρ S4
theorem A5{o i v:ah}{mo mi mv:ME}{tpos:ai}(hv:aX K cl E X v mv)(ho:aX K cl E X o mo)(hi:aX K cl E X i mi)
  (ha:∀v,assign (.Subscript o i tpos) X.env v=(do
   let ov <-holding [v] (eval o X.env)
   let iv <-holding [v,ov] (eval i X.env)
   standAt tpos
   holding [v,ov,iv] (setItem ov iv v)
   release [v,ov,iv] []):=by intro _;rfl)
  (hs:swapsWithSole [.Subscript o i tpos] v pos.line X.env=pure false:=by rfl)(hw:swappedStores [.Subscript o i tpos] v X.env=pure none:=by rfl)
  (h1:(assignEach [.Subscript o i tpos] X.env).map (·.2)=[assign (.Subscript o i tpos) X.env]:=by rfl):eH K cl E X (.Assign [.Subscript o i tpos] v pos) (jW mo mi mv):=by
 intro hK;subst hK;refine PS.imp (wY (hv rfl) (Zd (ho rfl) (hi rfl) On ha) hs hw h1) ?_
 rintro D σ H ⟨p,S,ρ,s,ev,h⟩
 refine iT s ev h λq H1 v x S1 st s1 e1 r1 h1=>?_;refine iT s1 e1 h1 λq2 H2 k y S2 st2 s2 e2 r2 h2=>?_;refine iT s2 e2 h2 λq3 H3 i z S3 eG s3 e3 r3 h3=>?_;cases k with
 |pv _=>exact h3.elim
 |ref k=>
  obtain⟨a,ea,rfl⟩:=eG.repA r2;have rv:=eG.repA (st2.repA r1);have h3:eN X.K cl q3 H3 (cV.of (fN (.ref k) S3 λk=>oO k i v S3) λ_ S4=>.nx ρ S4) D E:=h3;rcases wD k S3 (λk=>oO k i v S3)with z0 |⟨z0,_,_⟩
  .rw[z0]at h3
   exact h3.elim
  rw[z0]at h3;unfold oO at h3;split at h3
  .rename_i ii vv _
   have ez:z=.int ii:=(show fD X.K q3 H3 (.int ii) z from .inl r3).int;subst ez;cases w:S3[k]? with
   |none=>rw[w]at h3;exact h3.elim
   |some o=>
    cases o with
    |lol _=>simp only[w]at h3;exact h3.elim
    |dic _ _=>simp only[w]at h3;exact h3.elim
    |dol _ _=>simp only[w]at h3;exact h3.elim
    |lst zs=>
     simp only[w]at h3;obtain⟨vs,hh,ll,rr⟩:=s3.obj k a _ ea w;cases y:bA zs.length ii with
     |none=>simp only[y]at h3;exact h3.elim
     |some j=>
      simp only[y]at h3;refine⟨a,vs,ii,j,rfl,rfl,hh,by rw[<-rr.length];exact y,?_⟩;obtain⟨st4,sm4⟩:=s3.write ea (ca.mp w).1 (ps:=zs.set j vv) (vs:=vs.set j x) (by rw[fe];exact ll) (aT.set rv j rr);exact h3 _ _ _ st4 sm4 (st4.repE e3)
  .exact h3.elim
def gI:AH->AH->AH
 |x::xs,y::ys=>.tup [x,y]::gI xs ys
 |_,_=>[]
theorem Kc:∀(xs ys:AH),(gI xs ys).length=min xs.length ys.length
 |[],ys=>by cases ys<;>simp[gI]
 |x::xs,[]=>by simp[gI]
 |x::xs,y::ys=>by
  unfold gI;rw[cr,Kc xs ys,cr,cr];omega
theorem Rm:∀{xs ys:AH}{i:Nat}{v:PV},(gI xs ys)[i]?=some v->∃x y,xs[i]?=some x/\ys[i]?=some y/\v=.tup [x,y]
 |[],ys,i,v,e=>by cases ys<;>simp[gI]at e
 |x::xs,[],i,v,e=>by simp[gI]at e
 |x::xs,y::ys,0,v,e=>by
  unfold gI at e;simp at e;exact⟨x,y,rfl,rfl,e.symm⟩
 |x::xs,y::ys,i+1,v,e=>by
  unfold gI at e;obtain⟨a,b,h1,h2,h3⟩:=Rm (xs:=xs) (ys:=ys) (i:=i) (v:=v) (by simpa using e);exact⟨a,b,by simpa using h1,by simpa using h2,h3⟩
def nF:AK->aG->bQ (AH×Gd)
 |[a,b],S=>match bW a S with
  |.ok xs _=>match bW b S with
   |.ok ys _=>.ok (gI xs.1 ys.1,xs.2++ys.2) S
   |_=>.fail
  |_=>.fail
 |_,_=>.fail
def jA(ms:MA):MI:=λρ S=>(ms ρ S).bind nF
theorem Kn{a:AV}{x:V}{xs:AH×Gd}{S':aG}(s:aV K p S H)(r:bY K p H a x)(e:bW a S=.ok xs S'):∃f ad vs,x=.ref ad/\jO f K H ad vs/\xs.1.length<=sizeLine/\∀q H1 S1,bP p H q H1->aV K q S1 H1->iP xs.2 S1->∃vs,jO f K H1 ad vs/\aT K q.c H1 xs.1 vs:=by
 cases a with
 |ref j=>
  obtain⟨a,e1,rfl⟩:=r;unfold bW at e;dsimp only at e;cases z:S[j]? with
  |none=>rw[z]at e;cases e
  |some o=>
   cases o with
   |lol _=>rw[z]at e;cases e
   |dic _ _=>rw[z]at e;cases e
   |dol _ _=>rw[z]at e;cases e
   |lst ys=>
    rw[z]at e;cases e;obtain⟨vs,h1,l1,r1⟩:=s.obj j a _ e1 z;refine⟨false,a,vs,rfl,cJ.of h1,by rw[r1.length];exact l1,λq H1 S1 st sm g=>?_⟩;obtain⟨ws,h2,l2,r2⟩:=sm.obj j a _ (st.at_ e1) (g (j,ys) bh);exact⟨ws,cJ.of h2,r2⟩
 |pv v=>
  cases v with
  |lst ys=>
   cases e;have r:aR K p.c H (.lst ys) x:=r;unfold aR at r;obtain⟨a,vs,rfl,l,z,r⟩:=r;exact⟨false,a,vs,rfl,l.sq,by rw[r.length];exact z,λq H1 S1 st sm g=>⟨vs,(st.lat l).sq,st.reps r⟩⟩
  |tup ys=>
   cases e;have r:aR K p.c H (.tup ys) x:=r;unfold aR at r;obtain⟨a,vs,rfl,l,z,r⟩:=r;exact⟨true,a,vs,rfl,l,by rw[r.length];exact z,λq H1 S1 st sm g=>⟨vs,st.tup l,st.reps r⟩⟩
  |_=>cases e
theorem aac{elts:List ah}{x1:Nat}{tp p:ai}(hg:Gl X "zip")(hm:X.mg "zip"=none)(hl:eW K cl E X [a,b] ms)(hs:starEach [a,b] X.env=[(false,eval a X.env),(false,eval b X.env)]:=by rfl)(hs2:starEach [b] X.env=[(false,eval b X.env)]:=by rfl):
  PIp K cl E X (.Tuple elts x1 tp) (.Call (.Name "zip" p) [a,b] [] pos) (jA ms):=by
 intro hK;subst hK;refine PI.imp (ab0 hg hm (hl rfl) hs hs2) ?_
 rintro σ H R ⟨p,S,ρ,s,ev,h⟩
 refine cR s ev h λq H' as xs S' stp sm ev r k=>?_;unfold nF at k;split at k
 .rename_i u v
  cases r with
  |cons r1 r2=>
   cases r2 with
   |cons r2 r3=>
    cases r3;split at k
    .rename_i xs1 S1 hx
     split at k
     .rename_i ys1 S2 hy
      obtain⟨f1,a1,vs1,rfl,q1,z1,st1⟩:=Kn sm r1 hx;obtain⟨f2,a2,vs2,rfl,q2,z2,st2⟩:=Kn sm r2 hy;refine⟨f1,a1,f2,a2,vs1,vs2,rfl,q1,q2,bU.ret (R:=fI X.K) k sm ?_⟩;refine⟨by rw[Kc];omega,λq3 H3 S3 eG sm3 g3=>?_⟩;obtain⟨lM,w1,rr1⟩:=st1 q3 H3 S3 eG sm3 λg hg=>g3 g (kr _ hg);obtain⟨ws2,w2,rr2⟩:=st2 q3 H3 S3 eG sm3 λg hg=>g3 g (da _ hg);refine⟨λi v e=>?_,?_⟩
      .obtain⟨x,y,ex,ey,rfl⟩:=Rm e
       obtain⟨x',ex',rx⟩:=rr1.get ex;obtain⟨y',ey',ry⟩:=rr2.get ey;refine⟨⟨lM,ws2,x',y',w1,w2,ex',ey'⟩,λz H4 hz=>?_⟩;obtain⟨t,x2,y2,ht,rfl,rfl,g1,g2⟩:=hz;have e1:=(g1 lM w1).symm.trans ex';have e2:=(g2 ws2 w2).symm.trans ey';cases e1;cases e2;refine⟨iM ht,pO sm3 (.cons rx (.cons ry .nil)) (by show 2<=sizeLine;decide) ht⟩
      .refine⟨lM,ws2,w1,w2,?_⟩
       show(gI xs1.1 ys1.1).length=_\/_;rw[Kc,rr1.length,rr2.length];omega
     .exact k.elim
    .exact k.elim
 .exact k.elim
def jK:Nat->AH->AH
 |_,[]=>[]
 |n,x::xs=>.tup [.int n,x]::jK (n+1) xs
theorem Va:∀(n:Nat)(xs:AH),(jK n xs).length=xs.length
 |_,[]=>rfl
 |n,x::xs=>by
  unfold jK;rw[cr,Va (n+1) xs,cr]
theorem Jl:∀{n:Nat}{xs:AH}{i:Nat}{v:PV},(jK n xs)[i]?=some v->∃x,xs[i]?=some x/\v=.tup [.int ((n+i:Nat):Int),x]
 |n,[],i,v,e=>by simp[jK]at e
 |n,x::xs,0,v,e=>by
  unfold jK at e;simp at e;exact⟨x,rfl,e.symm⟩
 |n,x::xs,i+1,v,e=>by
  unfold jK at e;obtain⟨y,h1,h2⟩:=Jl (n:=n+1) (xs:=xs) (i:=i) (v:=v) (by simpa using e);refine⟨y,by simpa using h1,?_⟩;rw[h2,show n+1+i=n+(i+1) by omega]
def Ve:AK->aG->bQ (AH×Gd)
 |[.pv (.lst xs)],S=>.ok (jK 0 xs,[]) S
 |[.ref k],S=>match bW (.ref k) S with
  |.ok xs _=>.ok (jK 0 xs.1,xs.2) S
  |_=>.fail
 |_,_=>.fail
def xX(ms:MA):MI:=λρ S=>(ms ρ S).bind Ve
theorem Rs{xs:AH}{G:Gd}{a:Addr}(z:xs.length<=sizeLine)(st1:∀q H1 S1,bP p H q H1->aV K q S1 H1->iP G S1->∃vs,cJ K H1 a vs/\aT K q.c H1 xs vs):fI K p H (jK 0 xs,G) (Gh K a):=by
 refine⟨by rw[Va];exact z,λq3 H3 S3 eG sm3 g3=>?_⟩;obtain⟨lM,w1,rr1⟩:=st1 q3 H3 S3 eG sm3 g3;refine⟨λi v e=>?_,?_⟩
 .obtain⟨x,ex,rfl⟩:=Jl e
  obtain⟨x',ex',rx⟩:=rr1.get ex;refine⟨⟨lM,x',w1,ex'⟩,λz H4 hz=>?_⟩;obtain⟨t,y2,ht,rfl,rfl,g1⟩:=hz;have e1:=(g1 lM w1).symm.trans ex';cases e1;refine⟨iM ht,pO sm3 (.cons ?_ (.cons rx .nil)) (by show 2<=sizeLine;decide) ht⟩;rw[Nat.zero_add];exact jH (v:=.int _) rfl
 .refine⟨lM,w1,?_⟩
  show _<=(jK 0 xs).length;rw[Va,rr1.length];exact aj _
theorem V9{elts:List ah}{x1:Nat}{tp p:ai}(hg:Gl X "enumerate")(hm:X.mg "enumerate"=none)(hl:eW K cl E X [l] ms)(hs:starEach [l] X.env=[(false,eval l X.env)]:=by rfl):
  PIp K cl E X (.Tuple elts x1 tp) (.Call (.Name "enumerate" p) [l] [] pos) (xX ms):=by
 intro hK;subst hK;refine PI.imp (abC hg hm (hl rfl) hs) ?_
 rintro σ H R ⟨p,S,ρ,s,ev,h⟩
 refine cR s ev h λq H' as xs S' stp sm ev r k=>?_;unfold Ve at k;split at k
 .rename_i ys
  cases r with
  |cons r1 r2=>
   cases r2;rename_i x;have r1:aR X.K q.c H' (.lst ys) x:=r1;unfold aR at r1;obtain⟨a,vs,rfl,l,z,r⟩:=r1;exact⟨a,rfl,⟨vs,l.sq⟩,bU.ret (R:=fI X.K) k sm (Rs (by rw[r.length];exact z) λq H1 S1 st sm g=>⟨vs,(st.lat l).sq,st.reps r⟩)⟩
 .rename_i j
  cases r with
  |cons r1 r2=>
   cases r2;split at k
   .rename_i xs1 S1 hx
    obtain⟨a,e1,rfl⟩:=r1;cases z:S'[j]? with
    |none=>unfold bW at hx;simp only[z]at hx;cases hx
    |some o=>
     cases o with
     |lol _=>unfold bW at hx;simp only[z]at hx;cases hx
     |dic _ _=>unfold bW at hx;simp only[z]at hx;cases hx
     |dol _ _=>unfold bW at hx;simp only[z]at hx;cases hx
     |lst ys=>
      unfold bW at hx;simp only[z]at hx;cases hx;obtain⟨vs,h1,l1,r1⟩:=sm.obj j a _ e1 z;refine⟨a,rfl,⟨vs,cJ.of h1⟩,bU.ret (R:=fI X.K) k sm (Rs (by rw[r1.length];exact l1) λq H1 S1 st sm g=>?_)⟩;obtain⟨ws,h2,l2,r2⟩:=sm.obj j a _ (st.at_ e1) (g (j,ys) bh);exact⟨ws,cJ.of h2,r2⟩
   .exact k.elim
 .exact k.elim
end
theorem qL{A:ao}{k:Nat}(hr:dN k A):A.units+8<cLine:=by
 have:=hr.units;omega
section
variable{K:ag}{cl:Str->Addr}{E:XK}{X:Cx}{a b c e l tg:ah}{es:List ah}{m ma mb:ME}{ms:MA}{pos:ai}{p q:Ph}{H H':Hp}{S:aG}
def hJ(n:String):PV->AI
 |.int _=>if n="int" then some (.bl true)else if n="bool" then some (.bl false)else none
 |.tup _=>if n="tuple" then some (.bl true)else none
 |.lst _=>if n="list" then some (.bl true)else none
 |.str _=>if n="str" then some (.bl true)else none
 |.bl _=>if n="bool" then some (.bl true)else none
 |_=>none
theorem sZ(K:ag)(n:String):mj K (.type n) (.type n)=some true:=by
 unfold mj;rw[if_pos (beq_self_eq_true _)]
def Yv(K:ag)(n:String):V->Hp->VK->Prop:=λx H Q=>(∃t b,jZ K H x t/\mj K t (.type n)=some b/\Q (.bl b) H)\/(n="tuple"/\∃a xs,x=.ref a/\dJ K H a xs/\Q (.bl true) H)\/(n="list"/\∃a xs,x=.ref a/\cJ K H a xs/\Q (.bl true) H)
theorem G0(n:String):iX X (.builtin "isinstance") (λxs H Q=>∃x,xs=[x,.ty n]/\Yv X.K n x H Q):=by
 intro AL s σ H xs us Q I r h;obtain⟨x,rfl,h⟩:=h;obtain⟨u,c,rfl,rx,rc⟩:=Ru r;cases(show c=lq n from rc);rcases h with⟨t,b,ty,e,q⟩|⟨rfl,a,xs,rfl,t,q⟩|⟨rfl,a,xs,rfl,t,q⟩
 .exact D9 I rx ty e λtk=>⟨.bl b,H,I.tok tk,rfl,q⟩
 .cases rx
  obtain⟨its,_,⟨o,h1,h2,_⟩,_⟩:=I.tuple t;exact ja yz I.kIn ⟨o,h1,h2⟩ (sZ X.K "tuple") (λz=>nomatch z) λtk=>⟨.bl true,H,I.tok tk,rfl,q⟩
 .cases rx
  obtain⟨its,_,pl,_⟩:=I.list t;obtain⟨o,h1,h2,_⟩:=pl.isList;exact ja ve I.kIn ⟨o,h1,h2⟩ (sZ X.K "list") (λz=>nomatch z) λtk=>⟨.bl true,H,I.tok tk,rfl,q⟩
theorem ael(n:String):yZ K (Yv K n) (hJ n):=λ{p S H a c x Q} s ra e k=>by
 have fin:∀b,c=.bl b->Q (.bl b) H:=λb h=>by
  subst h;exact k H _ (dR.refl H) (by unfold aR;rfl)
 cases a with
 |int i=>
  cases ra.int;unfold hJ at e;dsimp only at e;split at e
  .rename_i hn
   cases e;subst hn;exact .inl ⟨_,true,.int i,sZ K _,fin _ rfl⟩
  .split at e
   .rename_i hn
    cases e;subst hn;exact .inl ⟨_,false,.int i,abI K,fin _ rfl⟩
   .cases e
 |bl i=>
  cases ra.bl;unfold hJ at e;dsimp only at e;split at e
  .rename_i hn
   cases e;subst hn;exact .inl ⟨_,true,.bl i,sZ K _,fin _ rfl⟩
  .cases e
 |str i=>
  cases ra.str;unfold hJ at e;dsimp only at e;split at e
  .rename_i hn
   cases e;subst hn;exact .inl ⟨_,true,.str i,sZ K _,fin _ rfl⟩
  .cases e
 |tup xs=>
  obtain⟨a,vs,rfl,t,_,_⟩:=ra.tup;unfold hJ at e;dsimp only at e;split at e
  .rename_i hn
   cases e;exact .inr (.inl ⟨hn,a,vs,rfl,t,fin _ rfl⟩)
  .cases e
 |lst xs=>
  obtain⟨a,vs,rfl,t,_,_⟩:=ra.lst;unfold hJ at e;dsimp only at e;split at e
  .rename_i hn
   cases e;exact .inr (.inr ⟨hn,a,vs,rfl,t,fin _ rfl⟩)
  .cases e
 |non=>cases e
theorem Oe{n:String}{t:Str}{p p2:ai}(hg:Gl X "isinstance")(hm:X.mg "isinstance"=none)(hgt:Gl X t)(hmt:X.mg t=none)(hv:bootBuiltins t=some (.type n))(ha:aX K cl E X a m)
  (htn:t≠"__name__":=by decide)(htd:(t==("__debug__":Str))=false:=by decide)
  (he:starEach [a,.Name t p2] X.env=(false,eval a X.env)::starEach [.Name t p2] X.env:=by rfl)(he2:starEach [.Name t p2] X.env=[(false,eval (.Name t p2) X.env)]:=by rfl)(hpl:(backTo pos (starEach [.Name t p2] X.env)).any (·.1)=false:=by rfl):
  aX K cl E X (.Call (.Name "isinstance" p) [a,.Name t p2] [] pos) (bO (hJ n) m):=by
 intro hK;subst hK;refine PE.imp (Vb (G0 n) hg hm PyProof.Rows.boot_isinstance (pN (ha rfl) (pN (Z4 hgt hmt hv (v:=.ty n) rfl htn htd) rH he2) he) (by decide) (by decide) he hpl) ?_
 rintro σ H Q ⟨p,S,ρ,s,ev,h⟩
 exact cR s ev h λq H' as x S' stp sm ev r k=>⟨x,rfl,Kb (ael n) sm r k⟩
def xU(K:ag):Sp:=λvs H Q _=>∃(a:Addr)(ns:AA),vs=[.ref a]/\cJ K H a (ns.map V.int)/\ns.length<=63/\∀H',Q (.bl true) H'
theorem abx{f:FM}(ht:∀ns:AA,ns.length<=63->∃S,f [.pv (.lst (ns.map .int))] []=.ok (.pv (.bl true)) S){vs:List V}{H:Hp}{Q:VK}{E:XK}(h:xU K vs H Q E):lI K cl f vs H Q E:=by
 obtain⟨a,ns,rfl,hS,hl,hQ⟩:=h;obtain⟨S,e⟩:=ht ns hl;have rs:∀(ns:AA),aT K (λ_=>False) H (ns.map .int) (ns.map V.int):=λns=>by
  induction ns with
  |nil=>exact .nil
  |cons n ns ih=>exact .cons (by unfold aR;rfl) ih
 refine⟨⟨[],λ_=>False,λ_=>False⟩,[],[.pv (.lst (ns.map .int))],⟨pk,rfl,(λ_ h=>absurd h (fz)),(λ_ h=>h),(λ_ h=>h.elim),(λk a o e=>by simp at e)⟩,.cons ?_ .nil,?_⟩
 .show aR K (λ_=>False) H (.lst (ns.map .int)) (.ref a)
  unfold aR;refine⟨a,_,rfl,?_,?_,rs ns⟩
  .rcases hS with(h |h) |h
   .exact .inl ⟨h,λz=>z⟩
   .exact .inr (.inl h)
   .exact .inr (.inr h)
  .rw[am,jG]
   omega
 .rw[e]
  intro q H' x st sm r;have r:aR K q.c H' (.bl true) x:=r;unfold aR at r;rw[r];exact hQ H'
end
section
variable{K:ag}{cl:Str->Addr}{E:XK}{X:Cx}{e:ah}{es:List ah}{ms:MA}{p q:Ph}{H H':Hp}{S:aG}
theorem dL.forget{ρ:bV}{σ:St}(h:dL K p H ρ σ)(i:Nat)(x:Option V):dL K p H (ρ.set i none) (σ.set i x):=by
 refine⟨by rw[fe,fe,h.len],λj u e=>?_⟩
 by_cases q:i=j
 .subst q
  by_cases l:i<ρ.length
  .rw[dq l]at e
   cases e
  .rw[si (by rw[fe];omega)]at e
   cases e
 .rw[dr q]at e⊢
  exact h.at_ j u e
variable{k:Nat}{f:Addr}{fd:cc}{ps:List Str}{g:FM}{dvs:List V}{ds:AD}{dv:AH}{x:Str}{pp pos pos1 pos2 pos3 pc:ai}{c n:Str}{i nn:Nat}{AR:Stmt}{body:List Stmt}{newId:String}{up:bV->bV}
end
end L2.Pp
namespace L2
open PySem PySem.Spec PyProof.Rows Bn
section
variable{X:Cx}{k:Nat}{f:Addr}{fd:cc}{ps:List Str}{sp:Sp}{dvs:List V}{ds:AD}{x:Str}{p pos pos1 pos2 pos3 pc:ai}{e:ah}{es:List ah}{t:TA}{c n:Str}{C:Addr}{i:Nat}{AR:Stmt}{body:List Stmt}{newId:String}
end
end L2
namespace L2.Pp
open PySem PySem.Spec PyProof.Rows Bn
section
variable{K:ag}{cl:Str->Addr}{E:XK}{X:Cx}{e:ah}{es:List ah}{ms:MA}{p q:Ph}{H H':Hp}{S:aG}
variable{k:Nat}{f:Addr}{fd:cc}{ps:List Str}{g:FM}{dvs:List V}{ds:AD}{dv:AH}{x:Str}{pp pos pos1 pos2 pos3 pc:ai}{c n:Str}{i nn:Nat}{AR:Stmt}{body:List Stmt}{newId:String}{up:bV->bV}
end
section
variable{prog:Program}{w:al}{A:ao}{E:Value->aa->Prop}{s:aa}
end
end L2.Pp
namespace L2
open PySem PyProof.Rows
end L2
namespace L2.Pp
open PySem
end L2.Pp
namespace L2
open PySem PySem.Spec PyProof.Rows Bn
section
variable{X:Cx}
theorem Wi(is:AA):∀j,j<=is.length->preSum (λi=>is.getD i 0) j=(is.take j).sum
 |0,_=>by simp[preSum]
 |j+1,h=>by
  have hj:j<is.length:=h;rw[preSum,Wi is j (by omega),List.take_add_one,ay hj,Option.toList_some,List.sum_append,List.sum_singleton];simp only[cg,ay hj,i7]
theorem Vz(hc:X.calm=true):iX X (.builtin "sum") (λxs H Q=>∃(a:Addr)(is:AA),xs=[.ref a]/\cJ X.K H a (is.map V.int)/\Q (.int is.sum) H):=by
 intro AL s σ H xs us Q I r h;obtain⟨a,is,rfl,hq,q⟩:=h;obtain⟨u,rfl,ru⟩:=kK r;cases ru;obtain⟨its,rv,pl,hz⟩:=I.list hq;have hl:is.length=its.length:=by
  have:=rv.length
  rwa[am]at this
 refine call_sum_walkG (qz pl.isList ?_);have ha:a<s.heap.objs.size:=by
  obtain⟨o,ho,_⟩:=pl.isList;exact bi ho
 refine⟨_,_,_,_,_,_,λi=>is.getD i 0,rfl,Walks.list (prog:=X.prog) (w:=X.w) (A:=X.A.in1) (show X.A.in1.handled=none from I.ok.hd hc) s.heap.objs.size a (cv ha) its.toArray,⟨⟨_,cw _ rfl,rfl,rfl⟩,Heap.IsList.at pl.isList λo e=>ax _ e⟩,λb hb=>?_,λi v hv=>?_,λh' tk t' kp=>?_⟩
 .have hb':b=s.heap.objs.size\/b=a:=by simpa using hb
  rw[je];rcases hb' with e |e<;>rw[e]
  .exact xk _
  .exact xn ha
 .have hv':its[i]?=some v:=by simpa using hv
  have hi:i<is.length:=by
   have:=(ca.mp hv').1;omega
  obtain⟨u,hu,ru⟩:=rv.get (i:=i) (x:=.int is[i]) (by rw[bo,ay hi];rfl);rw[hv']at hu;cases hu;obtain⟨t,ht⟩:=(show ∃t,v=oi is[i] t from ru);exact⟨t,by rw[ht];simp[cg,hi]⟩
 .have e:preSum (λi=>is.getD i 0) its.toArray.size=is.sum:=by
   rw[az,<-hl,Wi is _ (aj _),xo]
  show EP X AL σ Q (.int (preSum (λi=>is.getD i 0) its.toArray.size) t') _;rw[e];have I1:aH X AL σ H {s with heap:=s.heap.push {cls:=.type "list_iterator",data:=.fields #[.ref a,.int 0 0]},toks:=s.toks}:=I.kept λb o z=>ax _ z;have fp:fO X AL H s.heap.objs.size:=I.fpOk (aj _) (I.hok.fresh (aj _));obtain⟨f0,f1,f2,f3,f4,f5⟩:=fp;exact⟨.int is.sum,H,I1.turned (λb o hb z=>kp b o (by simpa using hb) z) f0 f1 f3 f4 f5,⟨t',rfl⟩,q⟩
theorem E3(is:AA):(cj is.length).any (λi=>is.getD i 0 !=0)=is.any (· !=0):=by
 rw[re,i8,i8];constructor
 .rintro⟨i,hi,z⟩
  have hi':i<is.length:=by simpa using hi
  exact⟨is[i],gr hi',by simpa[cg,hi']using z⟩
 .rintro⟨b,hb,z⟩
  obtain⟨i,hi,rfl⟩:=rf.mp hb;exact⟨i,by simpa using hi,by simpa[cg,hi]using z⟩
end
end L2
namespace L2.Pp
open PySem PySem.Spec PyProof.Rows Bn
section
variable{K:ag}{cl:Str->Addr}{E:XK}{X:Cx}
def kF:AH->Option AA
 |[]=>some []
 |.int b::r=>match kF r with
  |some bs=>some (b::bs)
  |none=>none
 |_::_=>none
theorem vQ{c:Addr->Prop}{H:Hp}:∀{xs:AH}{bs:AA}{vs:List V},kF xs=some bs->aT K c H xs vs->vs=bs.map V.int
 |[],bs,vs,e,r=>by
  cases e;unfold aT at r;exact r
 |.int b::xs,bs,vs,e,r=>by
  unfold kF at e;split at e
  .rename_i cs h
   cases e;unfold aT at r;obtain⟨v,w,rfl,r1,r2⟩:=r;unfold aR at r1;rw[r1,vQ h r2];rfl
  .cases e
 |.non::_,_,_,e,_=>by cases e
 |.bl _::_,_,_,e,_=>by cases e
 |.str _::_,_,_,e,_=>by cases e
 |.tup _::_,_,_,e,_=>by cases e
 |.lst _::_,_,_,e,_=>by cases e
def qD:AH->AI
 |[.lst xs]=>(kF xs).map λbs=>.int bs.sum
 |_=>none
theorem aeo:lJ K (λxs H Q=>∃(a:Addr)(is:AA),xs=[.ref a]/\cJ K H a (is.map V.int)/\Q (.int is.sum) H) qD:=λ{p S H as c xs Q} s ra e k=>by
 unfold qD at e;split at e
 .rename_i zs
  cases y:kF zs with
  |none=>rw[y]at e;cases e
  |some bs=>
   rw[y]at e;cases e;cases ra with
   |cons h t=>
    cases t;obtain⟨a,vs,rfl,l,z,r⟩:=h.lst;rw[vQ y r]at l;exact⟨a,bs,rfl,l,k H _ (dR.refl H) (jH (v:=.int _) rfl)⟩
 .cases e
end
section
variable{K:ag}{cl:Str->Addr}{E:XK}{X:Cx}{p q:Ph}{H H':Hp}{S:aG}
variable{sc:Scope}{own:List Str}{cap:List (Nat×Str)}{elt target iter:ah}{pos:ai}{mi:MI}{g:GM}{me:ME}
noncomputable def oJ(own:List Str)(cap:List (Nat×Str))(mi:MI)(g:GM)(me:ME):ME:=λρ S=>(mi ρ S).bind λxs S1=>(cD xs.2 g me xs.1 (bX own cap ρ) S1).bind λys S2=>.ok (.ref S2.length) (S2++[.lst ys])
theorem aV.adopt{zs:AH}{vs:List V}{D:Addr}(s:aV K q S H)(sh:aV K (q.hold D) S H)(w:q.w D)(n:D∉q.f)(h:H D=some (.lst vs))(l:vs.length<=sizeLine)(r:aT K q.c H zs vs):aV K ⟨q.f++[D],q.w,q.c⟩ (S++[.lst zs]) H:=by
 refine⟨nv.mpr ⟨s.nd,by simp,λa ha b hb=>?_⟩,by rw[av,av,s.len];rfl,λa ha=>?_,s.wc,s.mu,λk a o e1 e2=>?_⟩
 .have:b=D:=by simpa using hb
  intro z;exact n (by rw[<-this,<-z];exact ha)
 .rcases ck.mp ha with z |z
  .exact s.sub a z
  .have:a=D:=by simpa using z
   rw[this];exact w
 .have e1:(q.f++[D])[k]?=some a:=e1
  by_cases hk:k<q.f.length
  .rw[du hk]at e1
   rw[du (by rw[<-s.len];exact hk)]at e2;refine(sh.obj k a o e1 e2).mono (λ_ e=>e) (λb w f=>⟨⟨w.1,λm=>?_⟩,λ_ e=>e⟩) λ_ _ r=>r;rcases ck.mp m with z |z
   .exact f z
   .exact w.2 (by simpa using z)
  .have hk2:k=q.f.length:=by
    have:=(ca.mp e1).1;rw[av]at this;have:k<q.f.length+1:=this;omega
   subst hk2;rw[de (aj _),gj]at e1;rw[s.len,de (aj _),gj]at e2;cases e1;cases e2;exact⟨vs,h,l,r⟩
theorem Fz{σ:St}{ρ:bV}{xs:AH×Gd}{J:It}{Q:VK}{D:Addr}(sm:aV K p S H)(ev:dL K p H ρ σ)(it:fI K p H xs J)(k:bU K cl (bY K) p H ((cD xs.2 g me xs.1 (bX own cap ρ) S).bind λys S2=>.ok (.ref S2.length) (S2++[.lst ys])) Q E)(hD:H D=none):
  uO J (gP K g) (tP K cl E0 (bY K) me) (iQ own cap σ) H D Q:=by
 cases z:cD xs.2 g me xs.1 (bX own cap ρ) S with
 |fail=>rw[z]at k;exact k.elim
 |exc n S'=>exact absurd z (Zi _ _ _ _ _)
 |ok zs S2=>
  rw[z]at k;have k:∀q H' x,bP p H q H'->aV K q (S2++[.lst zs]) H'->bY K q H' (.ref S2.length) x->Q x H':=k;refine Im sm ev it z hD λq H' vs st1 sm1 sh1 w1 f1 hH l1 r1=>?_;have sm2:=sm1.adopt sh1 w1 f1 hH l1 r1;refine k ⟨q.f++[D],q.w,q.c⟩ H' (.ref D) ⟨st1.wc,st1.mu,st1.pre.trans (List.prefix_append _ _),st1.mw,st1.mono,λa ha n=>?_,st1.nw,st1.nc,st1.keep⟩ sm2 ⟨D,?_,rfl⟩
  .rcases ck.mp ha with y |y
   .exact st1.nf a y n
   .have:a=D:=by simpa using y
    rw[this];exact hD
  .show(q.f++[D])[S2.length]?=some D
   rw[<-sm1.len,de (aj _),gj];rfl
theorem B7{i:Nat}{x:Str}{py spos:ai}(hN:X.N.Nodup)(hx:X.N[i]?=some x)(hl:kT X.env.scope x)(k:gY X sc own cap)(hi:PIp K cl E X target iter mi)(hc:X.calm=true)(hg:∀C AM AN ex,kQ K (eI X sc (cK own cap) C AM AN ex) target g)(he:∀C AM AN ex,aX K cl E0 (eI X sc (cK own cap) C AM AN ex) elt me)
  (hs:∀x,foldedSetIterable iter X.env x=pure x:=by intro _;rfl)(hsw:swapsWith (.ListComp elt [⟨target,iter,[],0⟩] sc pos) (some (.Name x py)) spos.line X.env=pure true:=by rfl)
  (hf:X.fn x=true\/X.env.scope.names.lookup x=some .local:=by first |exact .inl rfl |exact .inr rfl |assumption):
  eH K cl E X (.Assign [.Name x py] (.ListComp elt [⟨target,iter,[],0⟩] sc pos) spos) (aU i (oJ own cap mi g me)):=by
 intro hK;refine PS.imp (Bq hN hx hl k (hi hK) hc (λC AM AN ex=>hg C AM AN ex hK) (λC AM AN ex=>he C AM AN ex hK) hs hsw hf) ?_
 rintro D σ H ⟨p,S,ρ,s,ev,h⟩
 have h2:tP K cl E (bY K) (oJ own cap mi g me) σ H λy H1=>D.nx (σ.set i (some y)) H1:=by
  refine⟨p,S,ρ,s,ev,?_⟩;unfold aU at h;cases z:oJ own cap mi g me ρ S with
  |ok v S1=>
   rw[z]at h;exact λq H' y st sm r=>h q H' _ st sm ((st.repE ev).set r i)
  |exc n S1=>rw[z]at h;exact h
  |fail=>rw[z]at h;exact h
 obtain⟨p,S,ρ,s,ev,h⟩:=h2;exact cR s ev h λq H' xs J S' stp sm ev it kk B hB=>Fz sm ev it kk hB
end
section
variable{K:ag}{cl:Str->Addr}{E:XK}{X:Cx}{e:ah}{m:ME}{pos p2:ai}
end
section
variable{K:ag}{cl:Str->Addr}{E:XK}{X:Cx}
end
end L2.Pp
namespace L2
open PySem PySem.Spec PyProof.Rows Bn
open PySem.W (KasT kas_sort kas_ask KatLex KatGo KatTups kat_run kat_kind kat_lt kat_one kas_item kat_snds)
def nJ{α:Type}(lt:Nat->Nat->Bool):KasT α->α
 |.ret a=>a
 |.ask i j k=>nJ lt (k (lt i j))
def iV{α:Type}(n:Nat):KasT α->Bool
 |.ret _=>true
 |.ask i j k=>decide (i<n)&&decide (j<n)&&iV n (k true)&&iV n (k false)
theorem Km{α:Type}{cmp:Nat->Nat->(Bool->aa->Prop)->aa->Prop}{lt:Nat->Nat->Bool}{n:Nat}{s:aa}(hc:∀i j(C:Bool->aa->Prop),i<n->j<n->C (lt i j) s->cmp i j C s):∀(t:KasT α)(Q:α->aa->Prop),iV n t=true->Q (nJ lt t) s->t.kasWp cmp Q s
 |.ret a,Q,_,h=>h
 |.ask i j k,Q,ok,h=>by
  unfold iV at ok;simp only[jd,decide_eq_true_eq]at ok;obtain⟨⟨⟨hi,hj⟩,h1⟩,h2⟩:=ok;refine hc i j _ hi hj (Km hc (k (lt i j)) Q ?_ h);cases lt i j
  .exact h2
  .exact h1
def rO(h:Heap)(v:Value)(us:AA):Prop:=∃a o its n,v=.ref a/\h.get? a=some o/\o.cls=.type "tuple"/\o.data=.seq (lb its) n/\bI (us.map V.int) its
section
variable{prog:Program}{w:al}{A:ao}{E:Value->aa->Prop}{s:aa}
theorem Lr{Q:Bool->aa->Prop}:∀(us vs:AA)(its jts:AD)(i:Nat)(fin:Bool),bI (us.map V.int) its->bI (vs.map V.int) jts->fin=decide (us.length<vs.length)->Q (HT.lexLt us vs) s->KatLex prog w A true fin Q (its.zip jts) i s
 |[],vs,its,jts,i,fin,h1,h2,hf,hQ=>by
  cases h1;cases vs with
  |nil=>
   subst hf;exact xp hQ
  |cons v vs=>
   have e:fin=true:=by rw[hf];simp
   subst e;exact xp hQ
 |u::us,[],its,jts,i,fin,h1,h2,hf,hQ=>by
  cases h2;have e:fin=false:=by rw[hf];simp
  subst e;rw[List.zip_nil_right];exact xp hQ
 |u::us,v::vs,its,jts,i,fin,h1,h2,hf,hQ=>by
  cases h1 with
  |cons r1 t1=>
   cases h2 with
   |cons r2 t2=>
    obtain⟨k1,rfl⟩:=r1;obtain⟨k2,rfl⟩:=r2;rw[List.zip_cons_cons];refine PySem.W.kat_cons (wpAny_eqBool_int ?_);rw[HT.lexLt_cons]at hQ
    by_cases e:u=v
    .rw[if_pos e]at hQ
     have b:(u==v)=true:=by simpa using e
     rw[b];exact PySem.W.kat_yes (Lr us vs _ _ (i+1) fin t1 t2 (by rw[hf];simp) hQ)
    .rw[if_neg e]at hQ
     have b:(u==v)=false:=by simpa using e
     rw[b];refine PySem.W.kat_no ?_
     by_cases hi:i=0
     .subst hi
      exact oneLt_int hQ
     .have b2:(true&&i==0)=false:=by simpa using hi
      rw[b2];exact kat_one _ _ (PySem.P.lt_int hQ)
theorem acV{x y:Value}{us vs:AA}{Q:Bool->aa->Prop}(hx:rO s.heap x us)(hy:rO s.heap y vs)(h:Q (HT.lexLt us vs) s):wpAny (model prog w) A (keyLt' (tuples' true) x y) Q E s:=by
 obtain⟨a,o,its,n,rfl,ho,hc,hd,r⟩:=hx;obtain⟨b,o2,jts,k,rfl,ho2,hc2,hd2,r2⟩:=hy;refine kat_lt ho hd ho2 hd2 ?_;have l1:=r.length;have l2:=r2.length;rw[am]at l1 l2;refine Lr us vs its jts 0 _ r r2 ?_ h;rw[az,az,l1,l2]
theorem Ij:∀(vs:AD)(uss:AB),vs.length=uss.length->(∀i,i<vs.length->rO s.heap (vs.getD i cu) (uss.getD i [])/\uss.getD i []≠[])->∃fs,KatTups s.heap vs fs/\fs.length=vs.length/\∀v∈fs,∃i t,v=.int i t
 |[],uss,_,_=>⟨[],trivial,rfl,λ_ h=>absurd h fz⟩
 |v::vs,[],hl,_=>by cases hl
 |v::vs,us::uss,hl,h=>by
  obtain⟨fs,k,l,q⟩:=Ij vs uss (by simpa using hl) λi hi=>by
   have:=h (i+1) (by simp;omega);simpa using this
  obtain⟨⟨a,o,its,n,e,ho,hc,hd,r⟩,ne⟩:=h 0 (by simp);have e:v=.ref a:=e;subst e;cases us with
  |nil=>exact absurd rfl ne
  |cons u us=>
   have r:bI (V.int u::us.map V.int) its:=r;cases r with
   |cons r1 t1=>
    obtain⟨t,rfl⟩:=r1;refine⟨.int u t::fs,KatTups.cons ho hc hd (by simp) k,by simp[l],λx hx=>?_⟩;rcases cq.mp hx with rfl |hx
    .exact⟨u,t,rfl⟩
    .exact q x hx
def dY(uss:AB):List Nat:=(nJ (λi j=>HT.lexLt (uss.getD i []) (uss.getD j [])) (jf uss.length)).toList
theorem Ix{a:Addr}{vs:AD}{uss:AB}{n:Nat}{P:oa->aa->Prop}(ho:s.heap.get? a=some (seqObj "list" vs.toArray n))(hl:vs.length=uss.length)(h2:2<=vs.length)(h64:vs.length<64)(ok:iV uss.length (jf uss.length)=true)
  (tu:∀i,i<vs.length->rO s.heap (vs.getD i cu) (uss.getD i [])/\uss.getD i []≠[])
  (h:P (.done (.ret .none)) {s with heap:=sortedHeap s.heap a vs (lb ((dY uss).map λi=>vs.getD i cu))}):
  wpAny (model prog w) A (Builtin.«list.sort» ⟨[.ref a],[]⟩) P E s:=by
 have ha:a<s.heap.objs.size:=bi ho;obtain⟨e1,ho1⟩:∃e1,(s.heap.update a (ij λ_=>(#[]:Array Value))).get? a=some (seqObj "list" #[] e1):=⟨_,xq ho λ_=>#[]⟩;have kp:∀b o,b≠a->s.heap.get? b=some o->(((s.heap.update a (ij λ_=>(#[]:Array Value))).push (seqObj "tuple" vs.toArray 0)).push (seqObj "list" #[] 0)).get? b=some o:=λb o hb e=>
  ax _ (ax _ ((xu _ _ _ _ hb).trans e))
 have tu2:∀i,i<vs.length->rO (((s.heap.update a (ij λ_=>(#[]:Array Value))).push (seqObj "tuple" vs.toArray 0)).push (seqObj "list" #[] 0)) (vs.getD i cu) (uss.getD i [])/\uss.getD i []≠[]:=λi hi=>by
  obtain⟨⟨b,o,its,m,e,hb,hc,hd,r⟩,ne⟩:=tu i hi;refine⟨⟨b,o,its,m,e,kp b o (λz=>?_) hb,hc,hd,r⟩,ne⟩;subst z;rw[ho]at hb;cases hb;have hc:lq "list"=lq "tuple":=hc;injection hc with hc;exact absurd hc (by decide)
 have na:(((s.heap.update a (ij λ_=>(#[]:Array Value))).push (seqObj "tuple" vs.toArray 0)).push (seqObj "list" #[] 0)).get? a=some (seqObj "list" #[] e1):=ax _ (ax _ ho1);rw[list_sort_plain];refine ae (listItems_at ho rfl ?_);refine ae (listUpdate_at ho rfl ?_ (by rw[az,kh];omega) (fw _));refine ae (seqEpoch_at ho1 rfl ?_);refine ae (wpAny_newTuple ?_ (by show vs.length<=_;rw[kh];omega));refine ae (wpAny_newList ?_ (fw _));refine jw ?_;show wpAny (model prog w) A _ P E {s with heap:=((s.heap.update a (ij λ_=>(#[]:Array Value))).push (seqObj "tuple" vs.toArray 0)).push (seqObj "list" #[] 0)};dsimp only;have hn2:¬vs.toArray.size<2:=by rw[az];omega
 rw[if_neg hn2,if_neg hn2];obtain⟨fs,kt,lf,qf⟩:=Ij (s:={s with heap:=((s.heap.update a (ij λ_=>(#[]:Array Value))).push (seqObj "tuple" vs.toArray 0)).push (seqObj "list" #[] 0)}) vs uss hl tu2;refine ae (kat_kind (T:=.type "int") kt (by omega) (λv hv=>?_) rfl ?_)
 .obtain⟨i,t,rfl⟩:=qf v hv
  exact .now
 have bt:(lq "int" !=lq "tuple")=true:=by decide
 rw[bt];refine ae (fj (kat_run (Q:=λst' s'=>∃p:Array Nat,p.size=vs.length/\arrOf st'=p.map (kas_item (vs.toArray.zip vs.toArray))/\failedOf st'=none/\p.toList=dY uss/\s'={s with heap:=((s.heap.update a (ij λ_=>(#[]:Array Value))).push (seqObj "tuple" vs.toArray 0)).push (seqObj "list" #[] 0)})
  (G:=λp s'=>p.toList=dY uss/\s'={s with heap:=((s.heap.update a (ij λ_=>(#[]:Array Value))).push (seqObj "tuple" vs.toArray 0)).push (seqObj "list" #[] 0)})
  rfl h2 h64 (λp' st' s' a1 a2 a3 a4=>⟨p',a1,a2,a3,a4⟩) ?_) ?_ λ_ _ e=>e)
 .rw[hl]
  refine Km (lt:=λi j=>HT.lexLt (uss.getD i []) (uss.getD j [])) (n:=uss.length) (λi j C hi hj hC=>?_) _ _ ok ⟨rfl,rfl⟩;exact acV (tu2 i (by omega)).1 (tu2 j (by omega)).1 hC
 rintro⟨⟨⟩,st'⟩ s' ⟨p,hp,har,hf,hpl,rfl⟩
 dsimp only;have hout:=kat_snds rfl har;have hsz:(lb (p.toList.map λi=>vs.getD i cu)).size=vs.length:=by rw[az,am,qg,hp]
 rw[hout];refine ae (seqEpoch_at na rfl ?_);refine ae (listUpdate_at na rfl ?_ (fw _) (gm (wk hsz) (by rw[kh];omega)));rw[hf];simp only[bne_self_eq_false,i9,if_false];refine ak ?_;rw[hpl];exact h
theorem Ny{l:Addr}{o:Obj}{T:String}{vs:AD}{uss:AB}{n:Nat}{Q:Value->aa->Prop}(hT:T="list"\/T="tuple")(ho:s.heap.get? l=some o)(hc:o.cls=.type T)(hd:o.data=.seq vs.toArray n)(hl:vs.length=uss.length)(h2:2<=vs.length)(h64:vs.length<64)(ok:iV uss.length (jf uss.length)=true)
  (tu:∀i,i<vs.length->rO s.heap (vs.getD i cu) (uss.getD i [])/\uss.getD i []≠[])
  (h:∀(h1 h':Heap)(c:Nat),(∀b o',s.heap.get? b=some o'->h1.get? b=some o')->(∀b o',h1.get? b=some o'->h'.get? b=some o')->h'.get? h1.objs.size=some (seqObj "list" (lb ((dY uss).map λi=>vs.getD i cu)) c)->Q (.ref h1.objs.size) {s with heap:=h'}):
  wpAny (model prog w) A (call (.builtin "sorted") [.ref l]) Q E s:=by
 refine PySem.Calls.call_function_entry kind_sorted plain_sorted entry_sorted (args_sorted1 _) ?_;unfold Builtin.«sorted»;refine ae (m:=checkCount "sorted" 1 1 _) (ak ?_);refine ae (wpAny_collect_seq l hT ho hc hd (λh1 k1=>?_) (by rw[az,kh];omega));refine ae (wpAny_newList ?_ (by rw[kh];simp;omega));have hoL:(h1.push (seqObj "list" vs.toArray 0)).get? h1.objs.size=some (seqObj "list" vs.toArray 0):=cw _ rfl;show wpAny _ _ _ _ _ {s with heap:=h1.push (seqObj "list" vs.toArray 0)};refine ae (jw (jc slot_list_sort ⟨_,hoL,rfl⟩ entry_list_sort ?body (args_list_sort _)))
 case body=>
  refine Ix (s:={s with heap:=h1.push (seqObj "list" vs.toArray 0)}) hoL hl h2 h64 ok (λi hi=>?_) ⟨_,rfl,ak ⟨_,rfl,?_⟩⟩
  .obtain⟨⟨b,o,its,m,e,hb,hc,hd,r⟩,ne⟩:=tu i hi
   exact⟨⟨b,o,its,m,e,ax _ (k1 b o hb),hc,hd,r⟩,ne⟩
  .obtain⟨e1,ho1⟩:∃e1,((h1.push (seqObj "list" vs.toArray 0)).update h1.objs.size (ij λ_=>(#[]:Array Value))).get? h1.objs.size=some (seqObj "list" #[] e1):=⟨_,xq hoL λ_=>#[]⟩
   have ho2:=ax (seqObj "list" #[] 0) (ax (seqObj "tuple" vs.toArray 0) ho1);obtain⟨e2,ho3⟩:∃e2,(sortedHeap (h1.push (seqObj "list" vs.toArray 0)) h1.objs.size vs (lb ((dY uss).map λi=>vs.getD i cu))).get? h1.objs.size=some (seqObj "list" (lb ((dY uss).map λi=>vs.getD i cu)) e2):=⟨_,xq ho2 λ_=>lb ((dY uss).map λi=>vs.getD i cu)⟩;refine h h1 _ e2 k1 (λb o' hb1=>?_) ho3;have hne:b≠h1.objs.size:=cv (bi hb1);exact(xu _ _ _ _ hne).trans (ax _ (ax _ ((xu _ _ _ _ hne).trans (ax _ hb1))))
end
def Cf(K:ag)(H:Hp)(ts:List V)(uss:AB):Prop:=ts.length=uss.length/\∀i t,ts[i]?=some t->∃a,t=.ref a/\dJ K H a ((uss.getD i []).map V.int)/\uss.getD i []≠[]
theorem Rz{X:Cx}:iX X (.builtin "sorted") (λxs H Q=>∃(a:Addr)(ts:List V)(uss:AB),xs=[.ref a]/\(cJ X.K H a ts\/dJ X.K H a ts)/\Cf X.K H ts uss/\2<=ts.length/\ts.length<64/\iV uss.length (jf uss.length)=true/\(dY uss).length<=64/\
  ∀l,H l=none->Q (.ref l) (aY H l (.lst ((dY uss).map λi=>ts.getD i .non)))):=by
 intro AL s σ H xs us Q I r h;obtain⟨a,ts,uss,rfl,hq,⟨hl,ht⟩,h2,h64,ok,hpl,q⟩:=h;obtain⟨u,rfl,ru⟩:=kK r;cases ru;have go:∀(its:AD)(T:String)(o:Obj)(n:Nat),bI ts its->(T="list"\/T="tuple")->s.heap.get? a=some o->o.cls=.type T->o.data=.seq its.toArray n->ts.length<=sizeLine->
   wpAny (model X.prog X.w) X.A (call (.builtin "sorted") [.ref a]) (EP X AL σ Q) X.xe s:=λits T o n rv hT ho hc hd hz=>by
  have hlen:=rv.length;refine Ny (uss:=uss) hT ho hc hd (by omega) (by omega) (by omega) ok (λi hi=>?_) λh1 h' c k1 k2 e=>?_
  .have hi':i<ts.length:=by omega
   obtain⟨b,e1,sq,ne⟩:=ht i ts[i] (ay hi');obtain⟨v,e2,rel⟩:=rv.get (ay hi');rw[e1]at rel;cases rel;obtain⟨jts,rj,⟨o2,ho2,hc2,m,hd2⟩,_⟩:=I.tuple sq;refine⟨⟨b,o2,jts,m,?_,ho2,hc2,hd2,rj⟩,ne⟩;rw[cg,e2];rfl
  .have I1:aH X AL σ H {s with heap:=h1,toks:=s.toks}:=I.kept k1
   have hz2:((dY uss).map λi=>ts.getD i .non).length<=sizeLine:=by
    rw[am,kh];omega
   have rel:∀ps:List Nat,bI (ps.map λi=>ts.getD i .non) (ps.map λi=>its.getD i cu):=λps=>by
    induction ps with
    |nil=>exact .nil
    |cons i ps ih=>
     refine .cons ?_ ih
     by_cases hi:i<ts.length
     .obtain⟨v,e2,rr⟩:=rv.get (ay hi)
      have q1:ts.getD i .non=ts[i]:=by simp[cg,hi]
      have q2:its.getD i cu=v:=by simp[cg,e2]
      show bT (ts.getD i .non) (its.getD i cu);rw[q1,q2];exact rr
     .have q1:ts.getD i .non=.non:=by simp[cg,hi]
      have q2:its.getD i cu=cu:=by simp[cg,show its.length<=i by omega]
      show bT (ts.getD i .non) (its.getD i cu);rw[q1,q2];rfl
   refine⟨.ref h1.objs.size,_,I1.laid (t':=s.toks) (o:=.lst ((dY uss).map λi=>ts.getD i .non)) k2 (aj _) ?_,rfl,q _ (I1.hok.fresh (aj _))⟩;exact⟨hz2,_,c,rel _,e⟩
 rcases hq with hq |hq
 .obtain⟨its,rv,pl,hz⟩:=I.list hq
  obtain⟨o,ho,hc,n,hd⟩:=pl.isList;exact go its "list" o n rv (.inl rfl) ho hc hd hz
 .obtain⟨its,rv,⟨o,ho,hc,n,hd⟩,hz⟩:=I.tuple hq
  exact go its "tuple" o n rv (.inr rfl) ho hc hd hz
end L2
namespace L2.Pp
open PySem PySem.Spec PyProof.Rows Bn
open PySem.W (kas_sort)
section
variable{K:ag}
def oF:AH->Option AB
 |[]=>some []
 |.tup us::r=>match kF us,oF r with
  |some is,some uss=>some (is::uss)
  |_,_=>none
 |_::_=>none
theorem No:∀{xs:AH}{uss:AB},oF xs=some uss->xs.length=uss.length
 |[],uss,e=>by cases e;rfl
 |.tup us::r,uss,e=>by
  unfold oF at e;split at e
  .rename_i is uss' h1 h2
   cases e;rw[cr,cr,No h2]
  .cases e
 |.non::_,_,e=>by cases e
 |.bl _::_,_,e=>by cases e
 |.int _::_,_,e=>by cases e
 |.str _::_,_,e=>by cases e
 |.lst _::_,_,e=>by cases e
theorem Zq{c:Addr->Prop}{H:Hp}:∀{xs:AH}{uss:AB}{vs:List V},oF xs=some uss->aT K c H xs vs->∀i t,vs[i]?=some t->∃a,t=.ref a/\dJ K H a ((uss.getD i []).map V.int)
 |[],uss,vs,e,r,i,t,h=>by
  unfold aT at r;subst r;simp at h
 |.tup us::r,uss,vs,e,rr,i,t,h=>by
  unfold oF at e;split at e
  .rename_i is uss' h1 h2
   cases e;unfold aT at rr;obtain⟨v,w,rfl,r1,r2⟩:=rr;cases i with
   |zero=>
    cases h;unfold aR at r1;obtain⟨a,ws,rfl,sq,_,r3⟩:=r1;rw[vQ h1 r3]at sq;exact⟨a,rfl,sq⟩
   |succ i=>
    have:=Zq h2 r2 i t (by simpa using h);simpa using this
  .cases e
 |.non::_,_,_,e,_,_,_,_=>by cases e
 |.bl _::_,_,_,e,_,_,_,_=>by cases e
 |.int _::_,_,_,e,_,_,_,_=>by cases e
 |.str _::_,_,_,e,_,_,_,_=>by cases e
 |.lst _::_,_,_,e,_,_,_,_=>by cases e
def Dg(uss:AB):Prop:=2<=uss.length/\uss.length<64/\iV uss.length (jf uss.length)=true/\(dY uss).length<=64/\∀us∈uss,us≠[]
def Bf(xs:AH)(uss:AB):AH:=(dY uss).map λi=>xs.getD i .non
open Classical in
noncomputable def rQ(xs:AH):AI:=match oF xs with
 |some uss=>if Dg uss then some (.lst (Bf xs uss))else none
 |none=>none
noncomputable def rA:AH->AI
 |[.lst xs]=>rQ xs
 |[.tup xs]=>rQ xs
 |_=>none
theorem Cl{c:Addr->Prop}{H:Hp}{xs:AH}{vs:List V}(r:aT K c H xs vs):∀ps:List Nat,aT K c H (ps.map λi=>xs.getD i .non) (ps.map λi=>vs.getD i .non)
 |[]=>.nil
 |i::ps=>by
  refine .cons ?_ (Cl r ps)
  by_cases hi:i<xs.length
  .obtain⟨v,e1,e2⟩:=r.get (ay hi)
   have q1:xs.getD i .non=xs[i]:=by simp[cg,hi]
   have q2:vs.getD i .non=v:=by simp[cg,e1]
   show aR K c H (xs.getD i .non) (vs.getD i .non);rw[q1,q2];exact e2
  .have hl:=r.length
   have q1:xs.getD i .non=.non:=by simp[cg,hi]
   have q2:vs.getD i .non=.non:=by simp[cg,show vs.length<=i by omega]
   show aR K c H (xs.getD i .non) (vs.getD i .non);rw[q1,q2];unfold aR;rfl
theorem acG:lJ K (λxs H Q=>∃(a:Addr)(ts:List V)(uss:AB),xs=[.ref a]/\(cJ K H a ts\/dJ K H a ts)/\Cf K H ts uss/\2<=ts.length/\ts.length<64/\iV uss.length (jf uss.length)=true/\(dY uss).length<=64/\
  ∀l,H l=none->Q (.ref l) (aY H l (.lst ((dY uss).map λi=>ts.getD i .non)))) rA:=λ{p S H as c xs Q} s ra e k=>by
 have key:∀(zs:AH)(a:Addr)(vs:List V),rQ zs=some c->(cJ K H a vs\/dJ K H a vs)->aT K p.c H zs vs->∃(a':Addr)(ts:List V)(uss:AB),[V.ref a]=[.ref a']/\(cJ K H a' ts\/dJ K H a' ts)/\Cf K H ts uss/\2<=ts.length/\ts.length<64/\iV uss.length (jf uss.length)=true/\(dY uss).length<=64/\
   ∀l,H l=none->Q (.ref l) (aY H l (.lst ((dY uss).map λi=>ts.getD i .non))):=λzs a vs e sq r=>by
  unfold rQ at e;split at e
  .rename_i uss hu
   split at e
   .rename_i hc
    cases e;obtain⟨c1,c2,c3,c4,c5⟩:=hc;have l1:=No hu;have l2:=r.length;refine⟨a,vs,uss,rfl,sq,⟨by omega,λi t h=>?_⟩,by omega,by omega,c3,c4,λl hl=>?_⟩
    .obtain⟨b,e1,e2⟩:=Zq hu r i t h
     have hi:i<uss.length:=by
      have:=(ca.mp h).1;omega
     refine⟨b,e1,e2,?_⟩;rw[cg,ay hi];exact c5 _ (gr hi)
    .refine k _ _ (iM hl) (pP s (Cl r _) ?_ hl)
     rw[am,jG];omega
   .cases e
  .cases e
 unfold rA at e;split at e
 .rename_i zs
  cases ra with
  |cons h t=>
   cases t;obtain⟨a,vs,rfl,l,z,r⟩:=h.lst;exact key zs a vs e (.inl l) r
 .rename_i zs
  cases ra with
  |cons h t=>
   cases t;obtain⟨a,vs,rfl,l,z,r⟩:=h.tup;exact key zs a vs e (.inr l) r
 .cases e
end
end L2.Pp
namespace L2
section
open PySem.W (KasT kas_sort)
theorem Qj{α:Type}{lt lt':Nat->Nat->Bool}{n:Nat}(h:∀i j,i<n->j<n->lt i j=lt' i j):∀t:KasT α,iV n t=true->nJ lt t=nJ lt' t
 |.ret a,_=>rfl
 |.ask i j k,ok=>by
  unfold iV at ok;simp only[jd,decide_eq_true_eq]at ok;obtain⟨⟨⟨hi,hj⟩,h1⟩,h2⟩:=ok;show nJ lt (k (lt i j))=nJ lt' (k (lt' i j));rw[<-h i j hi hj];refine Qj h (k (lt i j)) ?_;cases lt i j
  .exact h2
  .exact h1
theorem lX:∀u:AA,HT.lexLt u u=false
 |[]=>rfl
 |x::u=>by rw[HT.lexLt_cons,if_pos rfl,lX u]
theorem Pd:∀u v:AA,u=v\/HT.lexLt u v=true\/HT.lexLt v u=true
 |[],[]=>.inl rfl
 |[],_::_=>.inr (.inl rfl)
 |_::_,[]=>.inr (.inr rfl)
 |x::u,y::v=>by
  rw[HT.lexLt_cons,HT.lexLt_cons]
  by_cases h:x=y
  .subst h
   rw[if_pos rfl,if_pos rfl];rcases Pd u v with h |h |h
   .exact .inl (by rw[h])
   .exact .inr (.inl h)
   .exact .inr (.inr h)
  .rw[if_neg h,if_neg (λz=>h z.symm)]
   by_cases q:x<y
   .exact .inr (.inl (by simpa using q))
   .exact .inr (.inr (by simp;omega))
theorem vS:∀u v w:AA,HT.lexLt u v=true->HT.lexLt v w=true->HT.lexLt u w=true
 |[],[],_,h,_=>by cases h
 |[],_::_,[],_,h=>by cases h
 |[],_::_,_::_,_,_=>rfl
 |_::_,[],_,h,_=>by cases h
 |_::_,_::_,[],_,h=>by cases h
 |x::u,y::v,z::w,h1,h2=>by
  rw[HT.lexLt_cons]at h1 h2⊢
  by_cases e1:x=y
  .subst e1
   rw[if_pos rfl]at h1
   by_cases e2:x=z
   .rw[if_pos e2]at h2⊢
    exact vS u v w h1 h2
   .rw[if_neg e2]at h2⊢
    exact h2
  .rw[if_neg e1]at h1
   have h1:x<y:=by simpa using h1
   by_cases e2:y=z
   .subst e2
    rw[if_neg e1];simpa using h1
   .rw[if_neg e2]at h2
    have h2:y<z:=by simpa using h2
    rw[if_neg (by omega)];simp;omega
theorem K5{u v:AA}(h:HT.lexLt u v=true):HT.lexLt v u=false:=by
 cases q:HT.lexLt v u with
 |false=>rfl
 |true=>
  have:=vS u v u h q;rw[lX]at this;cases this
theorem O6{u v:AA}(h:HT.lexLt u v=false)(g:HT.lexLt v u=false):u=v:=by
 rcases Pd u v with e |e |e
 .exact e
 .rw[h]at e;cases e
 .rw[g]at e;cases e
def r3(a b c d e f:Bool):Bool:=(!(a&&b)||c)&&(!(d&&e)||f)
def zG(b:Nat->Nat->Bool)(n:Nat):Bool:=(cj n).all λi=>!(b i i)&&(cj n).all λj=>!(b i j&&b j i)&&(cj n).all λk=>(!(b i j&&b j k)||b i k)&&(b i j||b j k|| !(b i k))
def yA(b:Nat->Nat->Bool)(n:Nat)(ps:List (List Nat)):Bool:=let p:=(nJ b (jf n)).toList
 ps.contains p&&(cj n).all λi=>(cj n).all λj=>!(decide (i<j))|| !(b (p.getD j 0) (p.getD i 0))
def Ie:List (List Nat):=[[0,1,2],[0,2,1],[1,0,2],[1,2,0],[2,0,1],[2,1,0]]
def Ue:List (List Nat):=[[0,1,2,3],[0,1,3,2],[0,2,1,3],[0,2,3,1],[0,3,1,2],[0,3,2,1],[1,0,2,3],[1,0,3,2],[1,2,0,3],[1,2,3,0],[1,3,0,2],[1,3,2,0],
 [2,0,1,3],[2,0,3,1],[2,1,0,3],[2,1,3,0],[2,3,0,1],[2,3,1,0],[3,0,1,2],[3,0,2,1],[3,1,0,2],[3,1,2,0],[3,2,0,1],[3,2,1,0]]
def Eh(b01 b02 b10 b12 b20 b21:Bool)(i j:Nat):Bool:=match i,j with
 |0,1=>b01 |0,2=>b02 |1,0=>b10 |1,2=>b12 |2,0=>b20 |2,1=>b21 |_,_=>false
def Ch(b01 b02 b03 b10 b12 b13 b20 b21 b23 b30 b31 b32:Bool)(i j:Nat):Bool:=match i,j with
 |0,1=>b01 |0,2=>b02 |0,3=>b03 |1,0=>b10 |1,2=>b12 |1,3=>b13 |2,0=>b20 |2,1=>b21 |2,3=>b23 |3,0=>b30 |3,1=>b31 |3,2=>b32 |_,_=>false
theorem Cu:iV 3 (jf 3)=true:=by decide+kernel
theorem Vu:iV 4 (jf 4)=true:=by decide+kernel
theorem ae1:∀b01 b02 b10 b12 b20 b21:Bool,zG (Eh b01 b02 b10 b12 b20 b21) 3=true->yA (Eh b01 b02 b10 b12 b20 b21) 3 Ie=true:=by decide+kernel
theorem aeE:∀b01 b02 b03 b10 b12 b13 b20 b21 b23 b30 b31 b32:Bool,zG (Ch b01 b02 b03 b10 b12 b13 b20 b21 b23 b30 b31 b32) 4=true->yA (Ch b01 b02 b03 b10 b12 b13 b20 b21 b23 b30 b31 b32) 4 Ue=true:=by decide+kernel
theorem Yr{b:Nat->Nat->Bool}{n:Nat}{uss:AB}(h:∀i j,i<n->j<n->b i j=HT.lexLt (uss.getD i []) (uss.getD j [])):zG b n=true:=by
 unfold zG;simp only[ka,ur,jd,c8,Bool.or_eq_true,Bool.and_eq_false_imp];intro i hi;refine⟨by rw[h i i hi hi,lX],λj hj=>⟨λq=>?_,λk hk=>⟨?_,?_⟩⟩⟩
 .rw[h i j hi hj]at q
  rw[h j i hj hi,K5 q]
 .rw[h i j hi hj,h j k hj hk,h i k hi hk]
  cases q1:HT.lexLt (uss.getD i []) (uss.getD j [])with
  |false=>exact .inl λz=>by cases z
  |true=>
   cases q2:HT.lexLt (uss.getD j []) (uss.getD k [])with
   |false=>exact .inl λ_=>rfl
   |true=>exact .inr (vS _ _ _ q1 q2)
 .rw[h i j hi hj,h j k hj hk,h i k hi hk]
  cases q1:HT.lexLt (uss.getD i []) (uss.getD j [])with
  |true=>exact .inl (.inl rfl)
  |false=>
   cases q2:HT.lexLt (uss.getD j []) (uss.getD k [])with
   |true=>exact .inl (.inr rfl)
   |false=>
    refine .inr ?_;cases q3:HT.lexLt (uss.getD i []) (uss.getD k [])with
    |false=>rfl
    |true=>
     rcases Pd (uss.getD i []) (uss.getD j [])with e |e |e
     .rw[e]at q3;rw[q2]at q3;cases q3
     .rw[q1]at e;cases e
     .have:=vS _ _ _ e q3
      rw[q2]at this;cases this
end
section
open PySem.W (KasT kas_sort)
def eB(uss:AB):AB:=(dY uss).map λi=>uss.getD i []
def qK(u v:AA):Prop:=HT.lexLt v u=false
theorem Nk{uss:AB}{n:Nat}{ps:List (List Nat)}(hl:uss.length=n)(ok:iV n (jf n)=true){b:Nat->Nat->Bool}(hb:∀i j,i<n->j<n->b i j=HT.lexLt (uss.getD i []) (uss.getD j []))(good:yA b n ps=true)(hp:∀p∈ps,p.Perm (cj n)):
  dY uss∈ps/\(dY uss).Perm (cj n)/\(eB uss).Pairwise qK:=by
 have e:dY uss=(nJ b (jf n)).toList:=by
  unfold dY;rw[hl];exact congrArg uw (Qj (n:=n) (λi j hi hj=>(hb i j hi hj).symm) _ ok)
 unfold yA at good;simp only[jd,ka,ur]at good;rw[<-e]at good;obtain⟨g1,g2⟩:=good;have m:dY uss∈ps:=by simpa using g1
 have pm:=hp _ m;refine⟨m,pm,?_⟩;have ln:(dY uss).length=n:=by rw[pm.length_eq,d9]
 unfold eB;rw[List.pairwise_iff_getElem];intro i j hi hj hij;rw[am]at hi hj;have q:=g2 i (by omega) j (by omega);have pi:(dY uss).getD i 0=(dY uss)[i]:=by simp[cg,hi]
 have pj:(dY uss).getD j 0=(dY uss)[j]:=by simp[cg,hj]
 rw[pi,pj]at q;have li:(dY uss)[i]<n:=by
  have:=pm.subset (gr hi);simpa using this
 have lj:(dY uss)[j]<n:=by
  have:=pm.subset (gr hj);simpa using this
 rw[hb _ _ lj li]at q;simp only[xv];unfold qK;have d:decide (i<j)=true:=by simpa using hij
 rw[d]at q;simpa using q
theorem P7:∀p∈Ie,p.Perm (cj 3):=by decide
theorem Y4:∀p∈Ue,p.Perm (cj 4):=by decide
theorem To{uss:AB}(h:uss.length=3):dY uss∈Ie/\(dY uss).Perm (cj 3)/\(eB uss).Pairwise qK:=by
 match uss,h with
 |[u0,u1,u2],_=>
  have hb:∀i j,i<3->j<3->Eh (HT.lexLt u0 u1) (HT.lexLt u0 u2) (HT.lexLt u1 u0) (HT.lexLt u1 u2) (HT.lexLt u2 u0) (HT.lexLt u2 u1) i j=HT.lexLt (([u0,u1,u2]:AB).getD i []) (([u0,u1,u2]:AB).getD j []):=λi j hi hj=>by
   match i,j,hi,hj with
   |0,0,_,_=>exact(lX u0).symm
   |0,1,_,_=>rfl
   |0,2,_,_=>rfl
   |1,0,_,_=>rfl
   |1,1,_,_=>exact(lX u1).symm
   |1,2,_,_=>rfl
   |2,0,_,_=>rfl
   |2,1,_,_=>rfl
   |2,2,_,_=>exact(lX u2).symm
  exact Nk rfl Cu hb (ae1 _ _ _ _ _ _ (Yr hb)) P7
theorem Cp{uss:AB}(h:uss.length=4):dY uss∈Ue/\(dY uss).Perm (cj 4)/\(eB uss).Pairwise qK:=by
 match uss,h with
 |[u0,u1,u2,u3],_=>
  have hb:∀i j,i<4->j<4->Ch (HT.lexLt u0 u1) (HT.lexLt u0 u2) (HT.lexLt u0 u3) (HT.lexLt u1 u0) (HT.lexLt u1 u2) (HT.lexLt u1 u3) (HT.lexLt u2 u0) (HT.lexLt u2 u1) (HT.lexLt u2 u3) (HT.lexLt u3 u0) (HT.lexLt u3 u1) (HT.lexLt u3 u2) i j=HT.lexLt (([u0,u1,u2,u3]:AB).getD i []) (([u0,u1,u2,u3]:AB).getD j []):=λi j hi hj=>by
   match i,j,hi,hj with
   |0,0,_,_=>exact(lX u0).symm
   |0,1,_,_=>rfl
   |0,2,_,_=>rfl
   |0,3,_,_=>rfl
   |1,0,_,_=>rfl
   |1,1,_,_=>exact(lX u1).symm
   |1,2,_,_=>rfl
   |1,3,_,_=>rfl
   |2,0,_,_=>rfl
   |2,1,_,_=>rfl
   |2,2,_,_=>exact(lX u2).symm
   |2,3,_,_=>rfl
   |3,0,_,_=>rfl
   |3,1,_,_=>rfl
   |3,2,_,_=>rfl
   |3,3,_,_=>exact(lX u3).symm
  exact Nk rfl Vu hb (aeE _ _ _ _ _ _ _ _ _ _ _ _ (Yr hb)) Y4
theorem nT{uss:AB}(h:uss.length=3\/uss.length=4):(eB uss).Perm uss/\(eB uss).Pairwise qK:=by
 have key:∀n,uss.length=n->(dY uss).Perm (cj n)->(eB uss).Perm uss:=λn hn hp=>by
  have e:(cj n).map (λi=>uss.getD i [])=uss:=by
   refine se (by simp[hn]) λi h1 h2=>?_;have hi:i<uss.length:=h2;simp[cg,hi]
  have:=hp.map (λi=>uss.getD i []);rw[e]at this;exact this
 rcases h with h |h
 .obtain⟨_,hp,hs⟩:=To h
  exact⟨key 3 h hp,hs⟩
 .obtain⟨_,hp,hs⟩:=Cp h
  exact⟨key 4 h hp,hs⟩
theorem Gx{A B:AB}(hp:A.Perm B)(ha:A.Pairwise qK)(hb:B.Pairwise qK):A=B:=
 hp.eq_of_pairwise (λu v _ _ h g=>O6 g h) ha hb
theorem Ei{A B:AB}(hp:A.Perm B)(h:B.length=3\/B.length=4):eB A=eB B:=by
 obtain⟨p1,s1⟩:=nT (uss:=A) (by rw[hp.length_eq];exact h);obtain⟨p2,s2⟩:=nT h;exact Gx (p1.trans (hp.trans p2.symm)) s1 s2
end
open PySem PySem.Spec PyProof.Rows Bn
theorem abz{X:Cx}{sc1 sc:Scope}{own1 own:List Str}{cap1 cap:List (Nat×Str)}{C:Addr}{AM:aa}{AN:Hp}{ex:List Addr}(so:Scope)(hso:X.env.scope=so)(hk:so.kind=.function)(kind:sc.kind=.function)(names:∀y∈sc.names,y.2=.local->sc.names.lookup y.1=some .local)
  (nocell:∀y∈sc.names,y.2≠.cell)(free:∀y∈sc.names,y.2=.free->sc1.names.lookup y.1=some .free/\so.names.lookup y.1=some .cell)(at':∀p∈cap,(cK own1 cap1)[p.1]?=some p.2)(hcap:∀p∈cap,sc.names.lookup p.2=some .free):
  gY (eI X sc1 (cK own1 cap1) C AM AN ex) sc own cap:=
 ⟨kind,names,nocell,λy hy e=>by
  obtain⟨f1,f2⟩:=free y hy e;exact sQ (env:=X.env) (by rw[hso];exact hk) f1 (by show X.env.scope.names.lookup y.1=_;rw[hso];exact f2),at',hcap⟩
section
variable{M:ku}{A:ao}{E:Value->aa->Prop}{s:aa}
theorem Rx{scope:Scope}{globals:Addr}{closure:List (Str×Addr)}{qual:Str}{outer:bf}{Q:bf->aa->Prop}
  (hQ:Q (newEnv scope s.heap.objs.size globals (cellsFrom (s.heap.objs.size+1) scope.names closure) qual none .none (some outer) builtinsNs) {s with heap:=pushCells (s.heap.push {cls:=.type "dict",data:=.dict #[]}) scope.names}):
  wpAny M A (newFunctionEnv scope globals closure [] qual none .none (some outer)) Q E s:=by
 simp only[newFunctionEnv,Option.isSome_some,if_true];refine ae (wpAny_alloc ?_);refine ae (wpAny_layCells _ (λname kind cells=>by cases hkc:kind==ff<;>simp[hkc]) _ _ _ _ ?_);rw[show({s with heap:=s.heap.push {cls:=.type "dict",data:=.dict #[]}}:aa).heap.objs.size=s.heap.objs.size+1 from je ..];refine ae ?_;rw[ww];exact ak (ak hQ)
end
theorem Fe:∀(names:List (Str×fm))(n:Nat)(acc:List (Str×Addr)),(∀x y c,acc.lookup x=some c->acc.lookup y=some c->x=y)->(∀x c,acc.lookup x=some c->c<n)->
  ∀x y c,(cellsFrom n names acc).lookup x=some c->(cellsFrom n names acc).lookup y=some c->x=y
 |[],n,acc,hi,_,x,y,c,e1,e2=>hi x y c e1 e2
 |(name,kind)::r,n,acc,hi,hb,x,y,c,e1,e2=>by
  unfold cellsFrom at e1 e2
  by_cases k:(kind==ff)=true
  .rw[if_pos k]at e1 e2
   refine Fe r (n+1) _ (λx y c e1 e2=>?_) (λx c e=>?_) x y c e1 e2
   .rw[di]at e1 e2
    cases wx:x==name with
    |true=>
     cases wy:y==name with
     |true=>rw[beq_iff_eq.mp wx,beq_iff_eq.mp wy]
     |false=>
      rw[wx]at e1;rw[wy]at e2;cases e1;exact absurd (hb y _ e2) (iw _)
    |false=>
     cases wy:y==name with
     |true=>
      rw[wx]at e1;rw[wy]at e2;cases e2;exact absurd (hb x _ e1) (iw _)
     |false=>
      rw[wx]at e1;rw[wy]at e2;exact hi x y c e1 e2
   .rw[di]at e
    cases wx:x==name with
    |true=>
     rw[wx]at e;cases e;exact xk _
    |false=>
     rw[wx]at e;exact xn (hb x c e)
  .rw[if_neg k]at e1 e2
   exact Fe r n acc hi hb x y c e1 e2
theorem uB{n0:Nat}:∀(names:List (Str×fm))(n:Nat)(acc:List (Str×Addr))(x:Str),((∃c,acc.lookup x=some c/\n0<=c)\/(x,ff)∈names)->n0<=n->∃c,(cellsFrom n names acc).lookup x=some c/\n0<=c
 |[],n,acc,x,h,hn=>by
  rcases h with h |h
  .exact h
  .cases h
 |(name,kind)::r,n,acc,x,h,hn=>by
  unfold cellsFrom
  by_cases k:(kind==ff)=true
  .rw[if_pos k]
   refine uB r (n+1) _ x ?_ (xw hn);cases w:x==name with
   |true=>exact .inl ⟨n,by rw[di,w],hn⟩
   |false=>
    rcases h with⟨c,h,z⟩|h
    .exact .inl ⟨c,by rw[di,w];exact h,z⟩
    .rcases cq.mp h with z |z
     .cases z
      simp at w
     .exact .inr z
  .rw[if_neg k]
   refine uB r n acc x ?_ hn;rcases h with h |h
   .exact .inl h
   .rcases cq.mp h with z |z
    .cases z
     simp at k
    .exact .inr z
theorem Ld{n0:Nat}:∀(names:List (Str×fm))(n:Nat)(acc:List (Str×Addr))(x:Str)(c:Addr),n0<=n->(cellsFrom n names acc).lookup x=some c->n0<=c\/acc.lookup x=some c
 |[],n,acc,x,c,hn,e=>.inr e
 |(name,kind)::r,n,acc,x,c,hn,e=>by
  unfold cellsFrom at e
  by_cases k:(kind==ff)=true
  .rw[if_pos k]at e
   rcases Ld r (n+1) _ x c (xw hn) e with z |z
   .exact .inl z
   .rw[di]at z
    cases w:x==name with
    |true=>
     rw[w]at z;cases z;exact .inl hn
    |false=>
     rw[w]at z;exact .inr z
  .rw[if_neg k]at e
   exact Ld r n acc x c hn e
theorem xQ:∀(names:List (Str×fm))(n:Nat)(acc:List (Str×Addr))(x:Str),(x,ff)∉names->(cellsFrom n names acc).lookup x=acc.lookup x
 |[],n,acc,x,h=>rfl
 |(name,kind)::r,n,acc,x,h=>by
  unfold cellsFrom;have hr:(x,ff)∉r:=λz=>h (bj _ z)
  by_cases k:(kind==ff)=true
  .rw[if_pos k,xQ r _ _ x hr,di]
   cases w:x==name with
   |true=>
    refine absurd ?_ h;have e1:x=name:=by simpa using w
    have e2:kind=.cell:=by simpa using k
    rw[e1,e2];exact bh
   |false=>rfl
  .rw[if_neg k,xQ r _ _ x hr]
theorem Yc:∀(names:List (Str×fm))(h:Heap)(acc:List (Str×Addr)),(∀x c,acc.lookup x=some c->∃v,h.IsCell c v)->∀x c,(cellsFrom h.objs.size names acc).lookup x=some c->∃v,(pushCells h names).IsCell c v
 |[],h,acc,hc,x,c,e=>hc x c e
 |(name,kind)::r,h,acc,hc,x,c,e=>by
  unfold cellsFrom at e;unfold pushCells
  by_cases k:(kind==ff)=true
  .rw[if_pos k]at e⊢
   rw[<-je h {cls:=.type "cell",data:=.cell none}]at e;refine Yc r _ _ (λy c e=>?_) x c e;rw[di]at e;cases w:y==name with
   |true=>
    rw[w]at e;cases e;exact⟨none,_,cw _ rfl,rfl⟩
   |false=>
    rw[w]at e;obtain⟨v,z⟩:=hc y c e;exact⟨v,z.keeps λb o e=>ax _ e⟩
  .rw[if_neg k]at e⊢
   exact Yc r h acc hc x c e
theorem Xj{env:bf}:∀{names:List (Str×fm)}{x:Str},
  (let l:=(names.map λ(n,k)=>if(k==fx&&env.scope.kind== .function&&env.kindOf n==some .cell)then(n,ff)else(n,k)).lookup x;l=some .cell\/l=some .free)->(x,fx)∈names\/(x,ff)∈names
 |[],x,h=>by
  rcases h with h |h<;>cases h
 |(n,k)::r,x,h=>by
  dsimp only at h;rw[aq]at h;have ih:=@Xj env r x
  by_cases c:(k==fx&&env.scope.kind== .function&&env.kindOf n==some .cell)=true
  .have kf:k=.free:=by
    simp only[jd,beq_iff_eq]at c;exact c.1.1
   dsimp only at h;rw[if_pos c,di]at h;cases w:x==n with
   |true=>
    have hx:x=n:=by simpa using w
    rw[hx,<-kf];exact .inl bh
   |false=>
    rw[w]at h;exact(ih h).imp (bj _) (bj _)
  .dsimp only at h
   rw[if_neg c,di]at h;cases w:x==n with
   |true=>
    rw[w]at h;have hx:x=n:=by simpa using w
    rcases h with h |h
    .have kf:k=.cell:=bn h
     rw[hx,<-kf];exact .inr bh
    .have kf:k=.free:=bn h
     rw[hx,<-kf];exact .inl bh
   |false=>
    rw[w]at h;exact(ih h).imp (bj _) (bj _)
theorem Vj{env:bf}:∀{names:List (Str×fm)}{x:Str},names.lookup x=some .cell->
  (names.map λ(n,k)=>if(k==fx&&env.scope.kind== .function&&env.kindOf n==some .cell)then(n,ff)else(n,k)).lookup x=some .cell
 |[],x,h=>by cases h
 |(n,k)::r,x,h=>by
  rw[aq];dsimp only;rw[di]at h;cases w:x==n with
  |true=>
   rw[w]at h;have kf:k=.cell:=bn h;subst kf;rw[if_neg (by rw[show(ff==fx)=false from rfl];simp),di,w]
  |false=>
   rw[w]at h;have ih:=@Vj env r x h
   by_cases c:(k==fx&&env.scope.kind== .function&&env.kindOf n==some .cell)=true
   .rw[if_pos c,di,w]
    exact ih
   .rw[if_neg c,di,w]
    exact ih
def iW(X:Cx)(sc:Scope)(N:List Str)(C:Addr)(AM:aa)(AN:Hp)(ex:List Addr):Cx where
 prog:=X.prog
 w:=X.w
 K:=X.K
 mg:=X.mg
 base:=X.base
 A:=X.A
 N:=N
 AM:=AM
 AN:=AN
 env:=compEnvC sc (cellsFrom (C+1) sc.names (gO X.env sc.names [])) C X.env
 outer:=X.stack
 stack:=X.stack
 ex:=ex
 fn:=λx=>sc.names.lookup x==some .cell
 calm:=X.calm
 pn:=[]
 xe:=λ_ _=>False
structure oB(X:Cx)(sc:Scope)(own:List Str)(cap:List (Nat×Str)):Prop where
 kind:sc.kind=.function
 names:∀y∈sc.names,y.2=.local->sc.names.lookup y.1=some .local
 cells:∀y∈sc.names,y.2=.cell->sc.names.lookup y.1=some .cell
 free:∀y∈sc.names,y.2=.free->X.env.kindOf y.1=some .cell
 at':∀p∈cap,X.N[p.1]?=some p.2
 cap:∀p∈cap,sc.names.lookup p.2=some .free
section
variable{X:Cx}{sc:Scope}{own:List Str}{cap:List (Nat×Str)}{AL:List (Addr×Obj)}{σ:St}{H:Hp}{s:aa}{elt target iter:ah}{pos pos':ai}{wi:TI}{g:TG}{te:TE}{Q:VK}
theorem oB.has(k:oB X sc own cap)(ok:X.Ok):∀p∈sc.names,p.2=.free->∃c,X.env.cells.lookup p.1=some c:=λp hp e=>ok.has p.1 (.inl (k.free p hp e))
theorem aH.cmpC(k:oB X sc own cap){h4:Heap}{fp:List Addr}{t':Nat}(I:aH X AL σ H s)(hf:∀b∈fp,fO X AL H b)(hlt:∀b∈fp,b<s.heap.objs.size)
  (e4:h4=pushCells (s.heap.push {cls:=.type "dict",data:=.dict #[]}) sc.names):aH (iW X sc (cK own cap) s.heap.objs.size s H fp) [] (iQ own cap σ) H {s with heap:=h4,toks:=t'}:=by
 have kp:∀b o,s.heap.get? b=some o->h4.get? b=some o:=λb o e=>by
  rw[e4];exact xx _ _ b o (ax _ e)
 have hns:h4.Ns s.heap.objs.size (λ_=>none):=by
  rw[e4];exact(Heap.Ns.new ..).keeps λb o e=>xx _ _ b o e
 have hcl:∀y c,(gO X.env sc.names []).lookup y=some c->X.env.cells.lookup y=some c:=λy c e=>by
  rcases vG sc.names [] (k.has I.ok) y c e with z |z
  .cases z
  .exact z
 have clt:∀y c,X.env.cells.lookup y=some c->c<s.heap.objs.size:=λy c e=>by
  obtain⟨v,o,ho,_⟩:=I.cell y c e;exact bi ho
 have hfr:∀y c,(cellsFrom (s.heap.objs.size+1) sc.names (gO X.env sc.names [])).lookup y=some c->s.heap.objs.size<c\/X.env.cells.lookup y=some c:=λy c e=>
  (Ld (n0:=s.heap.objs.size+1) sc.names _ _ y c (aj _) e).imp (λz=>z) (hcl y c)
 have nst:∀b∈fp,b∉dS X.stack:=λb hb z=>by
  rcases cq.mp (I.stkSub b z)with e |e
  .exact(hf b hb).2.1 e
  .exact(hf b hb).2.2.1 e
 refine⟨⟨I.ok.mod,k.kind,I.ok.glob,I.ok.blt,aj _,λx y c h1 h2=>?_,λx hx=>?_,λx c hfn e=>?_,I.ok.hd,I.ok.frames,.inl rfl,λb hb=>⟨cv (hlt b hb),λx c e=>?_⟩,
  I.bs,gm I.ok.bsz I.sz,λb o e hb=>?_,nst,I.stack,I.stkFree⟩,rfl,I.bare,Un.kept kp,⟨_,hns,λi x v h1 h2 h3=>?_⟩,λx c e=>?_,I.hok.fresh (aj _),λx c e=>?_,λp hp=>absurd (show p∈([]:List (Addr×Obj)) from hp) (by simp),I.hok.kept kp,?_⟩
 .exact Fe sc.names _ _ (λx y c h1 h2=>I.ok.inj x y c (hcl x c h1) (hcl y c h2)) (λx c e=>xn (clt x c (hcl x c e))) x y c h1 h2
 .rcases Xj hx with z |z
  .by_cases m:(x,ff)∈sc.names
   .obtain⟨c,e,_⟩:=uB (n0:=0) sc.names (s.heap.objs.size+1) (gO X.env sc.names []) x (.inr m) (fw _)
    exact⟨c,e⟩
   .obtain⟨c,e⟩:=qS (env:=X.env) sc.names [] x (.inr z)
    exact⟨c,(xQ sc.names _ _ x m).trans e⟩
  .obtain⟨c,e,_⟩:=uB (n0:=0) sc.names (s.heap.objs.size+1) (gO X.env sc.names []) x (.inr z) (fw _)
   exact⟨c,e⟩
 .have hm:(x,ff)∈sc.names:=jn (by simpa[iW]using hfn)
  obtain⟨c',e',hc'⟩:=uB (n0:=s.heap.objs.size) sc.names (s.heap.objs.size+1) (gO X.env sc.names []) x (.inr hm) (kz _);have:=e'.symm.trans e;cases this;exact hc'
 .rcases hfr x c e with z |z
  .exact mf (wo (hlt b hb) z)
  .exact(hf b hb).2.2.2.2.1 x c z
 .rcases(hf b hb).2.2.2.1 with z |z
  .exact I.ok.noex b o e z
  .exact absurd (cy (bi (I.ok.bs b o e).1) z) (iw _)
 .have hN:(cK own cap)[i]?=some x:=h1
  unfold cK at hN;unfold iQ at h2
  by_cases hi:i<own.length
  .rw[du (by simpa using hi),bo]at h2
   cases e:own[i]? with
   |none=>rw[e]at h2;cases h2
   |some z=>rw[e]at h2;cases h2
  .rw[de (by simpa using hi),bo,am]at h2
   rw[de (by omega),bo]at hN;cases e:cap[i-own.length]? with
   |none=>rw[e]at h2;cases h2
   |some p=>
    rw[e]at h2 hN;have hp:p∈cap:=cx e;have hx:p.2=x:=bn hN;have hv:(σ[p.1]?).join=some v:=bn h2;have hv':σ[p.1]?=some (some v):=by
     cases e2:σ[p.1]? with
     |none=>rw[e2]at hv;cases hv
     |some z=>rw[e2]at hv;exact congrArg some hv
    have fr:=k.cap p hp;have nc:(p.2,ff)∉sc.names:=λz=>by
     have:=k.cells _ z rfl;rw[fr]at this;cases this
    have kc:X.env.kindOf p.2=some .cell:=k.free (p.2,.free) (jn fr) rfl;obtain⟨m0,_,hl⟩:=I.loc;obtain⟨u,ru,lk⟩:=hl p.1 p.2 v (k.at' p hp) hv' (.inr (.inl kc));refine⟨u,ru,?_⟩;rcases lk with⟨k1,_⟩|⟨_,c,ec,cell⟩
    .rw[kc]at k1
     cases k1
    .rw[<-hx]
     obtain⟨c',ec'⟩:=qS (env:=X.env) sc.names [] p.2 (.inr (jn fr));have:=(hcl _ _ ec').symm.trans ec;cases this;obtain⟨o,ho,hd⟩:=cell;exact .inr ⟨.inl (sQ I.ok.kind fr kc),c,(xQ sc.names _ _ p.2 nc).trans ec',o,kp c o ho,hd⟩
 .show ∃v,h4.IsCell c v
  rw[e4];refine Yc sc.names _ (gO X.env sc.names []) (λy c e=>?_) x c (by rw[je];exact e);obtain⟨v,z⟩:=I.cell y c (hcl y c e);exact⟨v,z.keeps λb o e=>ax _ e⟩
 .rcases hfr x c e with z |z
  .exact I.hok.fresh (oj z)
  .exact I.freeC x c z
 .unfold iQ
  show _=(cK own cap).length;unfold cK;rw[av,av,am,am,am]
theorem aH.uncmpC{s3 s':aa}{H3 H':Hp}{N:List Str}{σ':St}{C:Addr}{fp:List Addr}{pl:List (Addr×Obj)}(I:aH X AL σ H s)(hf:∀b∈fp,fO X AL H b)(u:Un (dS X.stack) fp H H3 s.heap s3.heap)(os:s3.os=s.os)
  (J:aH (iW X sc N C s3 H3 fp) pl σ' H' s'):aH X AL σ H' s':=by
 have os':s'.os=s.os:=(show s'.os=s3.os from J.os).trans os;refine I.call' (ch:=fp) os' (u.trans J.base) J.hok J.bare λb hb=>?_;obtain⟨_,f1,_,f3,f4,f5⟩:=hf b hb;exact⟨f3,f1,f4,f5⟩
theorem Wy{use:Option (Value->Sem Unit)}{Qf:Value->aa->Prop}(k:oB X sc own cap)(hi:PI X target iter wi)(hc:X.calm=true)
  (hg:∀C AM AN ex,PG (iW X sc (cK own cap) C AM AN ex) target g)(he:∀C AM AN ex,PE (iW X sc (cK own cap) C AM AN ex) elt te)(I:aH X AL σ H s)(h:uK own cap wi g te σ H Q)
  (fin:∀D C s' H' m,aH X AL σ H' s'->fO X AL H' C->s'.heap.Ns C m->Q (.ref D) H'->compPost (model X.prog X.w) X.A X.xe use Qf (.ref D) C (.ok .next) s')
  (hs:∀x,foldedSetIterable iter X.env x=pure x):
  wpAny (model X.prog X.w) X.A (comprehension (.ListComp elt [⟨target,iter,[],0⟩] sc pos) sc X.env pos' (newList []) false (eval iter X.env) use) Qf X.xe s:=by
 refine wq (use:=use) rfl hs (Sd (k.has I.ok)) k.kind k.names ?_;refine bH (hi AL s σ H _ I h) λv s1 h1=>bH h1 λitv s2 h2=>?_;obtain⟨it,fp,tn,J,H2,e,I2,T,st2,f2,hW⟩:=h2;subst e;refine ib (Rx ?_);have hsz:(s2.heap.push {cls:=.type "list",data:=.seq ([]:AD).toArray}).objs.size=s2.heap.objs.size+1:=je ..;have I3:aH X AL σ (aY H2 s2.heap.objs.size (.lst [])) {s2 with heap:=s2.heap.push {cls:=.type "list",data:=.seq ([]:AD).toArray},toks:=s2.toks}:=I2.lnew (ys:=[]) (its:=[]) .nil (fw _);have hD:H2 s2.heap.objs.size=none:=I2.fresh;have ltf:∀b∈fp,b<s2.heap.objs.size:=λb hb=>by
  obtain⟨o,ho,_⟩:=T.obj _ _ st2 b hb;exact bi ho
 have f3:∀b∈fp,fO X AL (aY H2 s2.heap.objs.size (.lst [])) b:=λb hb=>⟨by rw[bS (cv (ltf b hb))];exact(f2 b hb).1,(f2 b hb).2⟩;have un:Un (dS X.stack) fp H2 (aY H2 s2.heap.objs.size (.lst [])) s2.heap (s2.heap.push {cls:=.type "list",data:=.seq ([]:AD).toArray}):=Un.laid (λb u q=>ax _ q) (aj _) hD;have kp:∀b o,(s2.heap.push {cls:=.type "list",data:=.seq ([]:AD).toArray}).get? b=some o->(pushCells ((s2.heap.push {cls:=.type "list",data:=.seq ([]:AD).toArray}).push {cls:=.type "dict",data:=.dict #[]}) sc.names).get? b=some o:=λb o q=>xx _ _ b o (ax _ q);have J0:=I3.cmpC (t':=s2.toks) k f3 (λb hb=>cy (ltf b hb) (by rw[je];exact kz _)) rfl;have stat:∀{H':Hp},(∀b∈fp,H' b=none)->∀b∈fp,fO (iW X sc (cK own cap) (s2.heap.push {cls:=.type "list",data:=.seq ([]:AD).toArray}).objs.size {s2 with heap:=s2.heap.push {cls:=.type "list",data:=.seq ([]:AD).toArray},toks:=s2.toks} (aY H2 s2.heap.objs.size (.lst [])) fp) [] H' b:=λhn b hb=>
  ⟨hn b hb,(J0.ok.exf b hb).1,J0.ok.exfs b hb,.inl hb,(J0.ok.exf b hb).2,λp hp=>absurd (show p∈([]:List (Addr×Obj)) from hp) (by simp)⟩
 have st4:tn 0 (pushCells ((s2.heap.push {cls:=.type "list",data:=.seq ([]:AD).toArray}).push {cls:=.type "dict",data:=.dict #[]}) sc.names):=T.keep _ _ _ st2 λb hb o q=>kp b o (ax _ q);have fr0:∀b∈fp,(aY H2 s2.heap.objs.size (.lst [])) b=none:=λb hb=>(f3 b hb).1;have loop:codeAny (model X.prog X.w) X.A (.compLoop (.ListComp elt [⟨target,iter,[],0⟩] sc pos) 0 (.ref it) (.ref s2.heap.objs.size) (compEnvC sc (cellsFrom ((s2.heap.push {cls:=.type "list",data:=.seq ([]:AD).toArray}).objs.size+1) sc.names (gO X.env sc.names [])) (s2.heap.push {cls:=.type "list",data:=.seq ([]:AD).toArray}).objs.size X.env))
   (compPost (model X.prog X.w) X.A X.xe use Qf (.ref s2.heap.objs.size) (s2.heap.push {cls:=.type "list",data:=.seq ([]:AD).toArray}).objs.size) {s2 with heap:=(pushCells ((s2.heap.push {cls:=.type "list",data:=.seq ([]:AD).toArray}).push {cls:=.type "dict",data:=.dict #[]}) sc.names),toks:=s2.toks}:=by
  obtain⟨W,⟨m0,w0⟩,turn⟩:=hW s2.heap.objs.size hD;refine Sk (λn s'=>∃i σ' H' ys,aH (iW X sc (cK own cap) (s2.heap.push {cls:=.type "list",data:=.seq ([]:AD).toArray}).objs.size {s2 with heap:=s2.heap.push {cls:=.type "list",data:=.seq ([]:AD).toArray},toks:=s2.toks} (aY H2 s2.heap.objs.size (.lst [])) fp) [] σ' H' s'/\tn i s'.heap/\(∀b∈fp,H' b=none)/\W i n σ' H' ys) ?_ m0
   ⟨0,_,_,[],J0,st4,fr0,w0⟩
  rintro n s5 ⟨i,σ5,H5,ys,I5,st5,fr5,w5⟩
  obtain⟨hD5,w5⟩:=turn i n σ5 H5 ys w5;rcases w5 with⟨stop,qn⟩|⟨go,hlt,step⟩
  .refine bH (T.done (iW X sc (cK own cap) (s2.heap.push {cls:=.type "list",data:=.seq ([]:AD).toArray}).objs.size {s2 with heap:=s2.heap.push {cls:=.type "list",data:=.seq ([]:AD).toArray},toks:=s2.toks} (aY H2 s2.heap.objs.size (.lst [])) fp) rfl rfl rfl hc i [] s5 σ5 H5 _ I5 (stat fr5) st5 stop) ?_
   rintro r s6 ⟨hr,I6⟩
   subst hr;obtain⟨m,hn,_⟩:=id I6.loc;exact fin _ _ s6 H5 m (I2.uncmpC (s3:={s2 with heap:=s2.heap.push {cls:=.type "list",data:=.seq ([]:AD).toArray},toks:=s2.toks}) f2 un rfl I6) (I3.fpOk (aj _) I6.free) hn qn
  .refine bH (T.item (iW X sc (cK own cap) (s2.heap.push {cls:=.type "list",data:=.seq ([]:AD).toArray}).objs.size {s2 with heap:=s2.heap.push {cls:=.type "list",data:=.seq ([]:AD).toArray},toks:=s2.toks} (aY H2 s2.heap.objs.size (.lst [])) fp) rfl rfl rfl hc i [] s5 σ5 H5 _ I5 (stat fr5) st5 go) ?_
   rintro r s6 ⟨u,hr,h6⟩
   subst hr;refine bH h6 ?_
   rintro _ s7 ⟨x,H7,I7,r7,y7,st7,fr7⟩
   have I7':=I7.pinned (stat fr7) (T.obj _ _ st7);refine bH (hg _ _ _ _ _ s7 σ5 H7 x u _ I7' r7 (step x H7 y7)) ?_
   rintro _ s8 ⟨σ8,H8,I8,q8⟩
   refine bH (he _ _ _ _ _ s8 σ8 H8 _ I8 q8) ?_
   rintro v9 s9 ⟨y,H9,I9,r9,hD9,m',hm,w9⟩
   refine bH (sT _ s9 σ8 H9 (.ref s2.heap.objs.size) [y] (.ref s2.heap.objs.size) [v9] (λ_ H'=>H'=aY H9 s2.heap.objs.size (.lst (ys++[y]))) I9 rfl (.cons r9 .nil) ⟨_,ys,y,rfl,rfl,hD9,hlt,rfl⟩) ?_
   rintro _ s10 ⟨_,H10,I10,_,q10⟩
   subst q10;refine⟨m',hm,i+1,σ8,_,_,I10.unpinned,T.keep _ _ _ st7 λb hb o q=>(I10.pin (b,o) (da _ (da _ (lP hb q)))).1,λb hb=>?_,w9⟩;obtain⟨o,q,d⟩:=T.obj _ _ st7 b hb;exact(I10.pin (b,o) (da _ (da _ (lP hb q)))).2.1
 exact wr loop (T.self _ 0 _ _ _ st4 loop)
theorem S8(k:oB X sc own cap)(hi:PI X target iter wi)(hc:X.calm=true)
  (hg:∀C AM AN ex,PG (iW X sc (cK own cap) C AM AN ex) target g)(he:∀C AM AN ex,PE (iW X sc (cK own cap) C AM AN ex) elt te)
  (hs:∀x,foldedSetIterable iter X.env x=pure x:=by intro _;rfl):PE X (.ListComp elt [⟨target,iter,[],0⟩] sc pos) (uK own cap wi g te):=by
 intro AL s σ H Q I h;rw[wt];refine Wy (use:=none) k hi hc hg he I h (λD C s' H' m I' fC hn q=>?_) hs;refine⟨m,hn,λh' sb=>⟨.ref D,H',?_,rfl,q⟩⟩;obtain⟨f0,f1,f2,f3,f4,f5⟩:=fC;exact I'.turned (t':=s'.toks) (λb o hb e=>(sb.2 b hb).trans e) f0 f1 f3 f4 f5
theorem aay{X:Cx}{sc:Scope}{own:List Str}{cap:List (Nat×Str)}(so:Scope)(N:List Str)(hso:X.env.scope=so)(hN:X.N=N)(kind:sc.kind=.function)(names:∀y∈sc.names,y.2=.local->sc.names.lookup y.1=some .local)
  (cells:∀y∈sc.names,y.2=.cell->sc.names.lookup y.1=some .cell)(free:∀y∈sc.names,y.2=.free->so.names.lookup y.1=some .cell)(at':∀p∈cap,N[p.1]?=some p.2)(hcap:∀p∈cap,sc.names.lookup p.2=some .free):oB X sc own cap:=
 ⟨kind,names,cells,λy hy e=>by show X.env.scope.names.lookup y.1=_;rw[hso];exact free y hy e,λp hp=>by rw[hN];exact at' p hp,hcap⟩
theorem abk{X:Cx}{sc1 sc:Scope}{own1 own:List Str}{cap1 cap:List (Nat×Str)}{C:Addr}{AM:aa}{AN:Hp}{ex:List Addr}(so:Scope)(hso:X.env.scope=so)(hk:so.kind=.function)(kind:sc.kind=.function)(names:∀y∈sc.names,y.2=.local->sc.names.lookup y.1=some .local)
  (nocell:∀y∈sc.names,y.2≠.cell)(free:∀y∈sc.names,y.2=.free->sc1.names.lookup y.1=some .cell\/(sc1.names.lookup y.1=some .free/\so.names.lookup y.1=some .cell))(at':∀p∈cap,(cK own1 cap1)[p.1]?=some p.2)(hcap:∀p∈cap,sc.names.lookup p.2=some .free):
  gY (iW X sc1 (cK own1 cap1) C AM AN ex) sc own cap:=
 ⟨kind,names,nocell,λy hy e=>by
  rcases free y hy e with f |⟨f1,f2⟩
  .exact Vj (env:=X.env) f
  .exact sQ (env:=X.env) (by rw[hso];exact hk) f1 (by show X.env.scope.names.lookup y.1=_;rw[hso];exact f2),at',hcap⟩
end
end L2
namespace L2.Pp
open PySem PySem.Spec PyProof.Rows Bn
section
variable{K:ag}{cl:Str->Addr}{E:XK}{X:Cx}{p q:Ph}{H H':Hp}{S:aG}
variable{sc:Scope}{own:List Str}{cap:List (Nat×Str)}{elt target iter:ah}{pos:ai}{mi:MI}{g:GM}{me:ME}
theorem Q8(k:oB X sc own cap)(hi:PIp K cl E X target iter mi)(hc:X.calm=true)(hg:∀C AM AN ex,kQ K (iW X sc (cK own cap) C AM AN ex) target g)(he:∀C AM AN ex,aX K cl E0 (iW X sc (cK own cap) C AM AN ex) elt me)
  (hs:∀x,foldedSetIterable iter X.env x=pure x:=by intro _;rfl):aX K cl E X (.ListComp elt [⟨target,iter,[],0⟩] sc pos) (bC own cap mi g me):=by
 intro hK;refine PE.imp (S8 k (hi hK) hc (λC AM AN ex=>hg C AM AN ex hK) (λC AM AN ex=>he C AM AN ex hK) hs) ?_
 rintro σ H Q ⟨p,S,ρ,s,ev,h⟩
 exact cR s ev h λq H' xs J S' stp sm ev it kk D hD=>Lb sm ev it kk hD
end
noncomputable section
open PySem PySem.Spec PyProof.Rows Bn
def Ih(k:Nat)(S:aG):Prop:=∀(j:Nat)(o:SO),S[j]?=some o->j≠k->∃xs,o=.lst xs
def Pl(S:aG):Prop:=∀(j:Nat)(o:SO),S[j]?=some o->∃xs,o=.lst xs
section
variable{K:ag}{cl:Str->Addr}{E:XK}{X:Cx}{a e:ah}{m:ME}{ms:MA}{pos:ai}{p q:Ph}{H H':Hp}{S:aG}
theorem aV.pushO(s:aV K p S H){D:Addr}{o:SO}{ho:HO}(h:H D=none)(mo:Mb ho)(ob:oQ K ⟨p.f++[D],λa=>p.w a\/a=D,λa=>p.c a\/a=D⟩ (aY H D ho) D o):
  let q:Ph:=⟨p.f++[D],λa=>p.w a\/a=D,λa=>p.c a\/a=D⟩
  bP p H q (aY H D ho)/\aV K q (S++[o]) (aY H D ho):=by
 intro q;obtain⟨st0,sm0⟩:=s.res (D:=D) (o:=ho) h mo;have nf0:D∉p.f:=λz=>s.notin h (s.wc D (s.sub D z));refine⟨⟨st0.wc,st0.mu,⟨[D],rfl⟩,st0.mw,st0.mono,λa x n=>?_,st0.nw,st0.nc,st0.keep⟩,?_,by simp[q,s.len],λa x=>?_,sm0.wc,sm0.mu,λk a u e1 e2=>?_⟩
 .rcases ck.mp x with z |z
  .exact absurd z n
  .have:a=D:=by simpa using z
   rw[this];exact h
 .show(p.f++[D]).Nodup
  rw[nv];refine⟨s.nd,by simp,λa ha b hb z=>?_⟩;have:b=D:=by simpa using hb
  exact nf0 (this▸z▸ha)
 .rcases ck.mp x with z |z
  .exact .inl (s.sub a z)
  .exact .inr (by simpa using z)
 .by_cases hk:k<S.length
  .have e1':p.f[k]?=some a:=by
    have e1:(p.f++[D])[k]?=some a:=e1
    rwa[du (by rw[s.len];exact hk)]at e1
   rw[du hk]at e2;refine(s.obj k a u e1' e2).mono (λvs e=>by rw[bS (gD e h)];exact e) (λb w f=>⟨⟨.inl w,λm=>?_⟩,λvs e=>by rw[bS (gD e h)];exact e⟩) λ_ _ r=>st0.reps r;rcases ck.mp m with z |z
   .exact f z
   .have:b=D:=by simpa using z
    exact s.notin h (this▸s.wc b w)
  .have hk':k=S.length:=by
    have:=(ca.mp e2).1;simp at this;omega
   subst hk';rw[de (aj _),gj]at e2;have e1:(p.f++[D])[S.length]?=some a:=e1;rw[<-s.len,de (aj _),gj]at e1;cases e1;cases e2;exact ob
def Qu(xs:AK)(S:aG):bQ AV:=match(iG S xs).bind oE with
 |some (.lst vs)=>.ok (.ref S.length) (S++[.lol [vs]])
 |_=>.fail
def Tg(ms:MA):ME:=λρ S=>(ms ρ S).bind Qu
theorem Qr{as:AK}{xs:List V}{vs:AH}(s:aV K p S H)(r:gM K p H as xs)(h:(iG S as).bind oE=some (.lst vs)):
  ∃b ws,xs=[.ref b]/\(cJ K H b ws\/dJ K H b ws)/\ws.length<=sizeLine/\aT K p.c H vs ws:=by
 cases z:iG S as with
 |none=>rw[z]at h;cases h
 |some us=>
  rw[z]at h;have rr:=vO s r z;cases rr with
  |nil=>cases h
  |cons g t=>
   rename_i u x ut xt;cases t with
   |cons _ _=>cases u<;>cases h
   |nil=>
    cases u with
    |lst ws=>
     cases h;obtain⟨a,ws,rfl,l,z,r⟩:=g.lst;exact⟨a,ws,rfl,.inl l,z,r⟩
    |tup ws=>
     cases h;obtain⟨a,ws,rfl,l,z,r⟩:=g.tup;exact⟨a,ws,rfl,.inr l,z,r⟩
    |_=>cases h
theorem acp{x:Str}{p lp:ai}(hx:x="list")(hg:Gl X "list")(hm:X.mg "list"=none)(ha:eW K cl E X [e] ms)(he:starEach [e] X.env=[(false,eval e X.env)]:=by rfl)
  (hs:starEach [.Call (.Name x p) [e] [] pos] X.env=[(false,eval (.Call (.Name x p) [e] [] pos) X.env)]:=by rfl):aX K cl E X (.List [.Call (.Name x p) [e] [] pos] lp) (Tg ms):=by
 intro hK;subst hK hx;refine PE.imp (Xe (pN (vL zW hg hm (by decide+kernel) (ha rfl) (by decide) (by decide) he rfl) rH hs)) ?_
 rintro σ H Q ⟨p,S,ρ,s,ev,h⟩
 refine cR s ev h λq H1 as xs S1 st s1 e1 r1 h1=>?_;unfold Qu at h1;split at h1
 .rename_i vs hv
  obtain⟨b,ws,rfl,sq,hl,r⟩:=Qr s1 r1 hv;refine⟨b,ws,rfl,sq,λl hn=>⟨by show 1<=sizeLine;decide,λt ht=>?_⟩⟩;obtain⟨st2,sm2⟩:=s1.res (D:=l) (o:=.lst ws) hn trivial;have ne:l≠t:=λz=>by rw[<-z,fH]at ht;cases ht
  have nf:l∉q.f:=λz=>s1.notin hn (s1.wc l (s1.sub l z));have eG:=(sm2.res (D:=t) (o:=.lst [.ref l]) ht trivial).1;have ob:oQ X.K ⟨(q.res l).f++[t],λa=>(q.res l).w a\/a=t,λa=>(q.res l).c a\/a=t⟩ (aY (aY H1 l (.lst ws)) t (.lst [.ref l])) t (.lol [vs]):=by
   refine⟨[l],fH,by show 1<=sizeLine;decide,by simp,λc hc=>?_,rfl,λi ys c e1 e2=>?_⟩
   .have:c=l:=by simpa using hc
    subst this;refine⟨.inl (.inr rfl),λm=>?_⟩;rcases ck.mp m with z |z
    .exact nf z
    .exact ne (by simpa using z)
   .cases i with
    |zero=>
     cases e1;cases e2;exact⟨ws,by rw[bS ne,fH],hl,eG.reps (st2.reps r)⟩
    |succ i=>simp at e1
  obtain⟨st4,sm4⟩:=sm2.pushO (D:=t) (ho:=.lst [.ref l]) ht trivial ob;exact h1 _ _ (.ref t) (st2.trans st4) sm4 ⟨t,by show(q.f++[t])[S1.length]?=some t;rw[<-s1.len,de (aj _),gj];rfl,rfl⟩
 .exact h1.elim
def uM(k:Nat)(ys:AK)(S:aG):bQ AV:=match(iG S ys).bind oE,S[k]? with
 |some (.lst vs),some (.lol xss)=>if xss.length<16777216 then .ok (.pv .non) (S.set k (.lol (xss++[vs])))else .fail
 |_,_=>.fail
def uG(m:ME)(ms:MA):ME:=λρ S=>(m ρ S).bind λk S1=>fN k S1 λk=>(ms ρ S1).bind λys S2=>uM k ys S2
theorem aV.growL(s:aV K p S H){k:Nat}{D l:Addr}{xss:List AH}{bs:List Addr}{ys:AH}{ws:List V}(h:p.f[k]?=some D)(hS:S[k]?=some (.lol xss))(hn:H l=none)(hl:ws.length<=sizeLine)(r:aT K p.c H ys ws)(hH:H D=some (.lst (bs.map V.ref)))(hz:bs.length<sizeLine):
  bP p H (p.res l) (aY (aY H l (.lst ws)) D (.lst ((bs++[l]).map V.ref)))/\aV K (p.res l) (S.set k (.lol (xss++[ys]))) (aY (aY H l (.lst ws)) D (.lst ((bs++[l]).map V.ref))):=by
 obtain⟨st2,sm2⟩:=s.res (D:=l) (o:=.lst ws) hn trivial;have hk:k<S.length:=(ca.mp hS).1;have mD:D∈p.f:=cx h;have w:(p.res l).w D:=.inl (s.sub D mD);have neD:D≠l:=λz=>by rw[z,hn]at hH;cases hH
 have nl:l∉p.f:=λz=>s.notin hn (s.wc l (s.sub l z));have eG:bP (p.res l) (aY H l (.lst ws)) (p.res l) (aY (aY H l (.lst ws)) D (.lst ((bs++[l]).map V.ref))):=⟨sm2.wc,sm2.mu,jr,λ_ h=>h,λ_ h=>h,λ_ h g=>absurd h g,λ_ h g=>absurd h g,λ_ h g=>absurd h g,λa u e nw=>by
  rw[bS (λz:a=D=>nw (by rw[z];exact w))];exact e⟩
 refine⟨st2.trans eG,sm2.nd,by rw[fe];exact sm2.len,sm2.sub,sm2.wc,λa x=>?_,λj a o e1 e2=>?_⟩
 .by_cases z:a=D
  .rw[z,fH]
   exact⟨_,rfl,trivial⟩
  .rw[bS z]
   exact sm2.mu a x
 .by_cases hj:k=j
  .subst hj
   have e1:p.f[k]?=some a:=e1;rw[h]at e1;cases e1;rw[dq hk]at e2;cases e2;obtain⟨cs,g1,g2,g3,g4,g5,g6⟩:=s.obj k D _ h hS;rw[hH]at g1;have ec:bs=cs:=by
    have:=congrArg (λo=>match o with |some (HO.lst v)=>v |_=>[]) g1
    have:bs.map V.ref=cs.map V.ref:=this;exact j7 (λx y h=>by cases h;rfl) |>.mp this
   subst ec;have nb:∀b∈bs,b≠l:=λb hb z=>s.notin hn (z▸s.wc b (g4 b hb).1);refine⟨bs++[l],fH,by rw[av];exact hz,?_,λb hb=>?_,by rw[av,av,g5];rfl,λi xs b e1 e2=>?_⟩
   .rw[nv]
    exact⟨g3,by simp,λx hx y hy z=>nb x hx (by rw[z];simpa using hy)⟩
   .rcases ck.mp hb with z |z
    .exact⟨.inl (g4 b z).1,(g4 b z).2⟩
    .have:b=l:=by simpa using z
     subst this;exact⟨.inr rfl,nl⟩
   .by_cases hi:i<bs.length
    .rw[du hi]at e2
     rw[du (by rw[g5];exact hi)]at e1;obtain⟨vs,h1,h2,h3⟩:=g6 i xs b e1 e2;have hb:=g4 b (cx e2);exact⟨vs,by rw[bS (λz:b=D=>hb.2 (z▸mD)),bS (nb b (cx e2))];exact h1,h2,eG.reps (st2.reps h3)⟩
    .have hi':i=bs.length:=by
      have:=(ca.mp e2).1;rw[av]at this;have:i<bs.length+1:=this;omega
     subst hi';rw[de (aj _),gj]at e2;rw[<-g5,de (aj _),gj]at e1;cases e1;cases e2;exact⟨ws,by rw[bS (iz neD),fH],hl,eG.reps (st2.reps r)⟩
  .rw[dr hj]at e2
   have ne:a≠D:=λq=>hj (qT s.nd h (q▸e1));exact(sm2.obj j a o e1 e2).mono (λvs e=>by rw[bS ne];exact e) (λb w f=>⟨⟨w,f⟩,λvs e=>by rw[bS (λz:b=D=>f (z▸mD))];exact e⟩) λ_ _ r=>eG.reps r
theorem abi{x:Str}{p apos cpos:ai}(hx:x="list")(hg:Gl X "list")(hm:X.mg "list"=none)(ho:aX K cl E X a m)(ha:eW K cl E X [e] ms)(hbase:attributeBase a "append" X.env (eval a X.env)=eval a X.env:=by rfl)
  (hfew:((backTo cpos (starEach [.Call (.Name x p) [e] [] pos] X.env)).all (λx=>!x.1)&&(backToKw cpos (keywordEach [] X.env)).all (λx=>x.1.isSome)&&decide (([.Call (.Name x p) [e] [] pos]:List ah).length+([]:List jb).length+(if([]:List jb).isEmpty then 0 else 1)<30))=true:=by rfl)
  (hline:(apos.endLine==cpos.line)=true:=by rfl)(he:starEach [e] X.env=[(false,eval e X.env)]:=by rfl)(hs:starEach [.Call (.Name x p) [e] [] pos] X.env=[(false,eval (.Call (.Name x p) [e] [] pos) X.env)]:=by rfl):
  aX K cl E X (.Call (.Attribute a "append" apos) [.Call (.Name x p) [e] [] pos] [] cpos) (uG m ms):=by
 intro hK;subst hK hx;refine PE.imp (Mf xl wg i6 sT (ho rfl) (pN (vL zW hg hm (by decide+kernel) (ha rfl) (by decide) (by decide) he rfl) rH hs) hbase hfew hline hs rfl) ?_
 rintro σ H Q ⟨p,S,ρ,s,ev,h⟩
 refine cR s ev h λq H1 k x S1 st s1 e1 r1 h1=>?_;cases k with
 |pv v=>exact h1.elim
 |ref k=>
  have h1:bU X.K cl (bY X.K) q H1 (fN (.ref k) S1 λk=>(ms ρ S1).bind λys S2=>uM k ys S2) Q E:=h1;rcases wD k S1 (λk=>(ms ρ S1).bind λys S2=>uM k ys S2)with z |⟨z,n1,n2⟩
  .rw[z]at h1
   exact h1.elim
  rw[z]at h1;refine⟨Rc s1 r1 n1 n2,cR s1 e1 h1 λq2 H2 ys xs S2 st2 s2 e2 r2 h2=>?_⟩;obtain⟨a,ea,rfl⟩:=st2.repA r1;unfold uM at h2;split at h2
  .rename_i vs xss hv hS
   obtain⟨b,ws,rfl,sq,hl,r⟩:=Qr s2 r2 hv;split at h2
   .rename_i hz
    refine⟨b,ws,rfl,sq,λl hn=>?_⟩;obtain⟨bs,g1,g2,g3,g4,g5,g6⟩:=s2.obj k a _ ea hS;have hzz:=jG;have neA:a≠l:=λz=>by rw[z,hn]at g1;cases g1
    obtain⟨eG,sm3⟩:=s2.growL ea hS hn hl r g1 (by rw[<-g5];omega);refine⟨a,bs.map V.ref,.ref l,rfl,rfl,by rw[bS neA];exact g1,by rw[am,<-g5];omega,?_⟩;have:=h2 _ _ .non eG sm3 (by show aR X.K (q2.res l).c (aY (aY H2 l (.lst ws)) a (.lst ((bs++[l]).map V.ref))) .non .non;exact jH (v:=.non) rfl);rw[ee]at this;exact this
   .exact h2.elim
  .exact h2.elim
def Bg(m:Int)(xs:AH):Option AH:=match bA xs.length m with
 |some j=>match xs[j]? with
  |some (.int v)=>some (xs.set j (.int (1-v)))
  |_=>none
 |none=>none
def xR(m:Int):List AH->Option (List AH)
 |[]=>some []
 |xs::r=>match Bg m xs,xR m r with
  |some y,some ys=>some (y::ys)
  |_,_=>none
theorem Em{m:Int}:∀{xss yss:List AH},xR m xss=some yss->xss.length=yss.length/\∀(i:Nat)(xs:AH),xss[i]?=some xs->∃ys:AH,yss[i]?=some ys/\Bg m xs=some ys
 |[],yss,e=>by
  cases e;exact⟨rfl,λi xs h=>by simp at h⟩
 |xs::r,yss,e=>by
  unfold xR at e;split at e
  .rename_i y ys h1 h2
   cases e;obtain⟨l,g⟩:=Em h2;refine⟨by rw[cr,cr,l],λi zs h=>?_⟩;cases i with
   |zero=>
    cases h;exact⟨y,rfl,h1⟩
   |succ i=>simpa using g i zs (by simpa using h)
  .cases e
open Classical in
def yC(ics ic im:Nat):MS:=λρ S=>match ρ[ics]?,ρ[im]? with
 |some (some (.ref k)),some (some (.pv (.int m)))=>match S[k]? with
  |some (.lol xss)=>if Ih k S/\ic<ρ.length then(match xR m xss with
   |some yss=>.nx (ρ.set ic none) (S.set k (.lol yss))
   |none=>.fail)else .fail
  |_=>.fail
 |_,_=>.fail
theorem aV.inner(s:aV K p S H){k i:Nat}{D b:Addr}{xss:List AH}{bs:List Addr}{ys:AH}{ws:List V}(h:p.f[k]?=some D)(hS:S[k]?=some (.lol xss))(pl:Ih k S)(hH:H D=some (.lst (bs.map V.ref)))(hb:bs[i]?=some b)(hl:ws.length<=sizeLine)(r:aT K p.c H ys ws):
  bP p H p (aY H b (.lst ws))/\aV K p (S.set k (.lol (xss.set i ys))) (aY H b (.lst ws)):=by
 have hk:k<S.length:=(ca.mp hS).1;have mD:D∈p.f:=cx h;obtain⟨cs,g1,g2,g3,g4,g5,g6⟩:=s.obj k D _ h hS;rw[hH]at g1;have ec:bs=cs:=by
  have:=congrArg (λo=>match o with |some (HO.lst v)=>v |_=>[]) g1
  have:bs.map V.ref=cs.map V.ref:=this;exact j7 (λx y h=>by cases h;rfl) |>.mp this
 subst ec;have wb:=g4 b (cx hb);have st:bP p H p (aY H b (.lst ws)):=⟨s.wc,s.mu,jr,λ_ h=>h,λ_ h=>h,λ_ h g=>absurd h g,λ_ h g=>absurd h g,λ_ h g=>absurd h g,λa u e nw=>by
  rw[bS (λz:a=b=>nw (by rw[z];exact wb.1))];exact e⟩
 refine⟨st,s.nd,by rw[fe];exact s.len,s.sub,s.wc,λa x=>?_,λj a o e1 e2=>?_⟩
 .by_cases z:a=b
  .rw[z,fH]
   exact⟨_,rfl,trivial⟩
  .rw[bS z]
   exact s.mu a x
 .have ne:a≠b:=λz=>wb.2 (z▸cx e1)
  by_cases hj:k=j
  .subst hj
   rw[h]at e1;cases e1;rw[dq hk]at e2;cases e2;refine⟨bs,by rw[bS ne];exact hH,g2,g3,g4,by rw[fe];exact g5,λi' xs c e1 e2=>?_⟩
   by_cases hi:i=i'
   .subst hi
    rw[hb]at e2;cases e2;have hx:i<xss.length:=by
     rw[g5];exact(ca.mp hb).1
    rw[dq hx]at e1;cases e1;exact⟨ws,fH,hl,st.reps r⟩
   .rw[dr hi]at e1
    obtain⟨vs,h1,h2,h3⟩:=g6 i' xs c e1 e2;exact⟨vs,by rw[bS (λz:c=b=>hi (qT g3 hb (z▸e2)))];exact h1,h2,st.reps h3⟩
  .rw[dr hj]at e2
   obtain⟨xs,rfl⟩:=pl j o e2 (iz hj);obtain⟨vs,e,l,g⟩:=s.obj j a _ e1 e2;exact⟨vs,by rw[bS ne];exact e,l,st.reps g⟩
theorem G9{α:Type}{ys xs:List α}{i:Nat}{y:α}(l:xs.length=ys.length)(h:ys[i]?=some y):(ys.take i++xs.drop i).set i y=ys.take (i+1)++xs.drop (i+1):=by
 have hi:i<ys.length:=(ca.mp h).1;have hx:i<xs.length:=by omega
 have e:ys[i]=y:=(ca.mp h).2;rw[sk hx,List.set_append,if_neg (by rw[jm];omega),jm,xy (oj hi),gj,fg,List.take_succ_eq_append_getElem hi,e,ix];rfl
theorem En{α:Type}{l:List α}{i:Nat}{a b:α}:(l.set i a).set i b=l.set i b:=by simp
theorem aak{ics ic im:Nat}{c cs mm:Str}{p1 p2 p3 p4 p5 p6 p7 p8 p9 apos:ai}{j:Nat}(hp:oo (model X.prog X.w) X.A X.env X.xe)(hc:X.calm=true)(hN:X.N.Nodup)(h1:X.N[ics]?=some cs)(h2:X.N[ic]?=some c)(h3:X.N[im]?=some mm)
  (v1:oX X.env.scope cs)(v2:kT X.env.scope c)(v3:oX X.env.scope mm)(ne1:ics≠ic)(ne2:im≠ic)
  (ha:∀v,assign (.Subscript (.Name c p3) (.Name mm p4) p5) X.env v=(do
   let ov <-holding [v] (eval (.Name c p3) X.env)
   let iv <-holding [v,ov] (eval (.Name mm p4) X.env)
   standAt p5
   holding [v,ov,iv] (setItem ov iv v)
   release [v,ov,iv] []):=by intro _;rfl)
  (hs:swapsWithSole [.Subscript (.Name c p3) (.Name mm p4) p5] (.BinOp (.Constant (.int 1) j p6) .Sub (.Subscript (.Name c p7) (.Name mm p8) p9) p2) apos.line X.env=pure false:=by rfl)(hw:swappedStores [.Subscript (.Name c p3) (.Name mm p4) p5] (.BinOp (.Constant (.int 1) j p6) .Sub (.Subscript (.Name c p7) (.Name mm p8) p9) p2) X.env=pure none:=by rfl)
  (ht:(assignEach [.Subscript (.Name c p3) (.Name mm p4) p5] X.env).map (·.2)=[assign (.Subscript (.Name c p3) (.Name mm p4) p5) X.env]:=by rfl)
  (hpl:wS (.Name mm p8):=by intro _ _;rfl)
  (d1:(cs==("__debug__":Str))=false:=by decide)(d2:(c==("__debug__":Str))=false:=by decide)(d3:(mm==("__debug__":Str))=false:=by decide)
  (k1:(cs==("__classdict__":Str))=false:=by decide)(k2:(c==("__classdict__":Str))=false:=by decide)(k3:(mm==("__classdict__":Str))=false:=by decide)
  (hf:X.fn c=true\/X.env.scope.names.lookup c=some .local:=by first |exact .inl rfl |exact .inr rfl |assumption)
  (hfs:∀x,foldedSetIterable (.Name cs p1) X.env x=pure x:=by intro _;rfl){cp:ai}:
  eH K cl E X (.For (.Name c cp) (.Name cs p1) [.Assign [.Subscript (.Name c p3) (.Name mm p4) p5] (.BinOp (.Constant (.int 1) j p6) .Sub (.Subscript (.Name c p7) (.Name mm p8) p9) p2) apos] [] pos) (yC ics ic im):=by
 intro hK;subst hK;have vc:oX X.env.scope c:=v2.elim .inl λz=>.inr (.inl z);refine PS.imp (Vt hp hc (Ts (pW h1 v1 d1 k1)) (Dr hN h2 v2 hf) (Kp (wY (Gv Es Jt (Wf Us (pW h2 vc d2 k2) (pW h3 v3 d3 k3) hpl)) (Zd (pW h2 vc d2 k2) (pW h3 v3 d3 k3) On ha) hs hw ht)) hfs) ?_
 rintro D σ H ⟨p,S,ρ,s,ev,h⟩
 unfold yC at h;split at h
 .rename_i k m q1 q2
  split at h
  .rename_i xss hS
   split at h
   .rename_i plc
    obtain⟨pl,hic⟩:=plc;split at h
    .rename_i yss hy
     obtain⟨x,ex,rx⟩:=ev.at_ ics _ q1;obtain⟨a,ea,rfl⟩:=rx;obtain⟨ll,fl⟩:=Em hy;have hk:k<S.length:=(ca.mp hS).1;obtain⟨bs0,b1,b2,b3,b4,b5,b6⟩:=s.obj k a _ ea hS;have plx:∀zss,Ih k (S.set k (.lol zss)):=λzss j o e n=>by
      rw[dr (iz n)]at e;exact pl j o e n
     refine⟨.ref a,ex,a,rfl,.inl ⟨⟨_,cJ.of b1⟩,λi n σ1 H1=>n=xss.length-i/\i<=xss.length/\∃p1,bP p H p1 H1/\aV X.K p1 (S.set k (.lol (yss.take i++xss.drop i))) H1/\dL X.K p1 H1 (ρ.set ic none) σ1,⟨_,rfl,fw _,p,s.step,?_,?_⟩,?_⟩⟩
     .have e0:S.set k (.lol xss)=S:=by
       obtain⟨g1,g2⟩:=ca.mp hS;rw[<-g2];exact j8 g1
      simpa[e0]using s
     .have:=ev.forget ic ((σ[ic]?).join)
      have e0:σ.set ic (σ[ic]?).join=σ:=by
       by_cases hi:ic<σ.length
       .rw[ay hi]
        exact j8 hi
       .exact List.set_eq_of_length_le (by omega)
      rwa[e0]at this
     .rintro i n σ1 H1 ⟨rfl,hi,p1,st1,sm1,ev1⟩
      have e1:=st1.at_ ea;have hS1:(S.set k (.lol (yss.take i++xss.drop i)))[k]?=some (.lol (yss.take i++xss.drop i)):=dq hk;obtain⟨bs,c1,c2,c3,c4,c5,c6⟩:=sm1.obj k a _ e1 hS1;have lz:(yss.take i++xss.drop i).length=xss.length:=by
       rw[av,jm,ow];omega
      by_cases hlt:i<xss.length
      .have hib:i<bs.length:=by omega
       obtain⟨ys,ey,fy⟩:=fl i _ (ay hlt);have ez:(yss.take i++xss.drop i)[i]?=some xss[i]:=by
        rw[de (by rw[jm];omega),jm,xy (by omega),gj,List.getElem?_drop,Nat.add_zero];exact ay hlt
       obtain⟨vs,g1,g2,g3⟩:=c6 i _ _ ez (ay hib);unfold Bg at fy;split at fy
       .rename_i jj hj
        split at fy
        .rename_i v hv
         cases fy;obtain⟨u,eu,ru⟩:=g3.get hv;have:u=.int v:=by unfold aR at ru;exact ru
         subst this;obtain⟨xm,exm,rxm⟩:=ev1.at_ im (.pv (.int m)) (by rw[dr (iz ne2)];exact q2);have:xm=.int m:=by
          have rxm:aR X.K p1.c H1 (.int m) xm:=rxm;unfold aR at rxm;exact rxm
         subst this;refine .inr ⟨⟨_,.ref bs[i],cJ.of c1,by rw[bo,ay hib];rfl⟩,λσ' H'=>∃p2,bP p H p2 H'/\aV X.K p2 (S.set k (.lol (yss.take (i+1)++xss.drop (i+1)))) H'/\dL X.K p2 H' (ρ.set ic none) σ',λσ' H' hn=>⟨xss.length-(i+1),by omega,rfl,hlt,hn⟩,λx H2 hy=>?_⟩;obtain⟨rfl,hy⟩:=hy;have ey2:=hy _ (cJ.of c1);rw[bo,ay hib]at ey2;cases ey2;have hic1:ic<σ1.length:=by
          rw[<-ev1.len,fe];exact hic
         have sc:(σ1.set ic (some (V.ref bs[i])))[ic]?=some (some (.ref bs[i])):=dq hic1;have sm':(σ1.set ic (some (V.ref bs[i])))[im]?=some (some (.int m)):=by rw[dr (iz ne2)];exact exm
         have hj':bA vs.length m=some jj:=by rw[<-g3.length];exact hj
         have ha1:aZ vs m=some (.int v):=by unfold aZ;rw[hj'];exact eu
         obtain⟨st2,sm2⟩:=sm1.inner (ys:=xss[i].set jj (.int (1-v))) (ws:=vs.set jj (.int (1-v))) e1 hS1 (plx _) c1 (ay hib) (by rw[fe];exact g2) (aT.set (jH (v:=.int (1-v)) rfl) jj g3);rw[En,G9 ll ey]at sm2;have ev2:=(st2.repE ev1).forget ic (some (V.ref bs[i]));rw[En]at ev2;exact⟨_,sc,_,sm',.inl ⟨_,_,_,_,rfl,rfl,cJ.of g1,ha1,1,v,rfl,rfl,_,sc,_,sm',_,_,_,_,rfl,rfl,g1,hj',p1,st1.trans st2,sm2,ev2⟩⟩
        .cases fy
       .cases fy
      .have e:i=xss.length:=by omega
       subst e;refine .inl ⟨⟨_,cJ.of c1,by rw[am];omega⟩,?_⟩;rw[sr,ig,ll,xo]at sm1;exact h p1 H1 σ1 st1 sm1 ev1
    .exact h.elim
   .exact h.elim
  .exact h.elim
 .exact h.elim
open Classical in
def Qe(n:Nat):cV->bQ AV
 |.rt (.ref k) S=>match S[k]? with
  |some (.lol xss)=>if ¬k<n/\Pl (S.take n)then .ok (.pv (.lst (xss.map .lst))) (S.take n)else .fail
  |_=>.fail
 |_=>.fail
open Classical in
def sG(np n:Nat)(b:MS)(xs:AK)(S:aG):bQ AV:=if xs.length=np/\Pl S then Qe S.length (b (jV n xs) S)else .fail
def Ph.only(p:Ph):Ph:=⟨p.f,λa=>a∈p.f,p.c⟩
theorem aV.only(s:aV K p S H)(pl:Pl S):aV K p.only S H:=
 ⟨s.nd,s.len,λ_ h=>h,λa h=>s.wc a (s.sub a h),s.mu,λk a o e1 e2=>by
  obtain⟨xs,rfl⟩:=pl k o e2;exact s.obj k a _ e1 e2⟩
theorem Oy{as:AK}{vs:List V}(h:gM K p H as vs):gM K p.only H as vs:=by
 induction h with
 |nil=>exact .nil
 |cons h _ ih=>
  refine .cons ?_ ih;rename_i v x _ _ _;cases v with
  |pv v=>exact h
  |ref k=>exact h
theorem Gy{r:cV}{Q:VK}{E:XK}(s:aV K p S H)(pl:Pl S)(h:bU K cl (bY K) p H (Qe S.length r) Q E):eN K cl p.only H r {nx:=λ_ H'=>Q .non H',rt:=Q} E:=by
 cases r with
 |rt v S1=>
  cases v with
  |pv v=>exact h.elim
  |ref k=>
   unfold Qe at h;dsimp only at h;split at h
   .rename_i xss hS
    split at h
    .rename_i hc
     obtain⟨hk,plt⟩:=hc
     rintro q H' x st sm ⟨a,e,rfl⟩
     have s1:=s.only pl;obtain⟨na,hn,nc⟩:=Ib s1 st sm e hk;obtain⟨bs,g1,g2,g3,g4,g5,g6⟩:=sm.obj k a _ e hS;have fresh:∀b∈bs,H b=none:=λb hb=>st.nw b (g4 b hb).1 λm=>(g4 b hb).2 (st.pre.subset m);obtain⟨st1,sm1⟩:=s1.cutX (λb=>b=a\/b∈bs) st sm (λb d=>d.elim (λz=>z▸hn) (fresh b)) (.inr λj o e hj=>plt j o (by rw[sv,if_pos hj];exact e));refine h ⟨p.f,λb=>(q.w b/\¬(b=a\/b∈bs))\/p.w b,λb=>q.c b/\¬(b=a\/b∈bs)⟩ H' (.ref a) ⟨s.wc,s.mu,jr,λb h=>.inr h,st1.mono,λ_ h g=>absurd h g,λb h n=>?_,st1.nc,λb o e n=>st1.keep b o e λz=>n (s.sub b z)⟩
      ⟨s.nd,sm1.len,λb h=>.inr (s.sub b h),λb h=>h.elim (sm1.wc b) λz=>st1.mono b (s.wc b z),sm1.mu,λj b o e1 e2=>(sm1.obj j b o e1 e2).mono (λ_ e=>e) (λc w f=>⟨⟨.inl w,f⟩,λ_ e=>e⟩) λ_ _ r=>r⟩ ?_
     .rcases h with h |h
      .exact st1.nw b h λz=>n (s.sub b z)
      .exact absurd h n
     .show aR K (λb=>q.c b/\¬(b=a\/b∈bs)) H' (.lst (xss.map .lst)) (.ref a)
      unfold aR;refine⟨a,bs.map V.ref,rfl,.inl ⟨g1,λd=>d.2 (.inl rfl)⟩,by rw[am];exact g2,?_⟩;have go:∀(yss:List AH)(cs:List Addr),yss.length=cs.length->(∀c∈cs,c∈bs)->(∀(i:Nat)(xs:AH)(b:Addr),yss[i]?=some xs->cs[i]?=some b->∃vs,H' b=some (.lst vs)/\vs.length<=sizeLine/\aT K q.c H' xs vs)->aT K (λb=>q.c b/\¬(b=a\/b∈bs)) H' (yss.map .lst) (cs.map V.ref):=by
       intro yss
       induction yss with
       |nil=>
        intro cs l _ _;have:cs=[]:=sx.mp l.symm;subst this;exact .nil
       |cons ys r ih=>
        intro cs l hm hh;cases cs with
        |nil=>cases l
        |cons c t=>
         obtain⟨vs,k1,k2,k3⟩:=hh 0 ys c rfl rfl;refine .cons ?_ (ih t (by simpa using l) (λc h=>hm c (bj _ h)) λi xs b e1 e2=>hh (i+1) xs b (by simpa using e1) (by simpa using e2));unfold aR;exact⟨c,vs,rfl,.inl ⟨k1,λd=>d.2 (.inr (hm c bh))⟩,k2,pH (λb h=>h.1) k3⟩
      exact go xss bs g5 (λ_ h=>h) g6
    .exact h.elim
   .exact h.elim
 |nx ρ S1=>exact h.elim
 |exc n S1=>exact h.elim
 |bk ρ S1=>exact h.elim
 |ct ρ S1=>exact h.elim
 |fail=>exact h.elim
end
section
variable{P:Program}{w:al}{K:ag}{mg:Str->AE}{base:Heap}{cl:Str->Addr}
theorem abd{np n:Nat}{b:MS}{vs:List V}{H:Hp}{Q:VK}{E:XK}(h:lK K cl (sG np n b) vs H Q E):vs.length=np:=by
 obtain⟨p,S,xs,sm,ra,h⟩:=h;unfold sG at h;split at h
 .rename_i e
  rw[<-Kl ra,e.1]
 .exact h.elim
theorem okL{x qual:Str}{st:Stmt}{f:Addr}{fd:cc}{N ps:List Str}{k np n:Nat}{b:MS}(F:jD K x qual st f fd)(S:iU N ps (cX st))(hnp:ps.length=np)(hn:N.length=n)
  (hb:∀(cdv:Value)(A:ao)(outer:List bf)(s:aa)(H:Hp)(E:XK),dN k (A.deeper (envOfC qual (cX st) s.heap.objs.size f cdv))->gS K cl E0 (dC fM P w K mg base N qual (cX st) f cdv A outer s H E).nox (eV st) b):
  eR P w K mg base fM (k+1) f fd ps (lI K cl (sG np n b)):=by
 subst hnp hn;refine F.ok S (λvs H Q E h=>abd h) λcdv A outer s H vs Q E hr h=>⟨_,hb cdv A outer s H E hr rfl,?_⟩;obtain⟨p,S,xs,sm,ra,h⟩:=h;unfold sG at h;split at h
 .rename_i e
  exact⟨p.only,S,_,sm.only e.2,vF (Oy ra),Gy sm e.2 h⟩
 .exact h.elim
end
end
def zE(P:Program)(w:al)(K:ag)(mg:Str->AE)(base:Heap)(cl:Str->Addr)(x:Str)(k:Nat)(ps:List Str)(g:FM):Prop:=∃(a:Addr)(d:cc),eR P w K mg base fM k a d ps (lI K cl g)/\jJ K d ps []/\fk K (.ref a)=true/\mg x=some (.ref a)
section
variable{cl:Str->Addr}{E:XK}{X:Cx}{e:ah}{es:List ah}{ms:MA}{pos p:ai}{k k0:Nat}{ps:List Str}{g:FM}{x:Str}
theorem adq(C:zE X.prog X.w X.K X.mg X.base cl x k ps g)(hr:dN k0 X.A)(hk:k<=k0)(hg:Gl X x)(ha:eW X.K cl E X (e::es) ms)(hdb:(x==("__debug__":Str))=false:=by decide)(he:starEach (e::es) X.env=(false,eval e X.env)::starEach es X.env:=by rfl)(hpl:(backTo pos (starEach es X.env)).any (·.1)=false:=by rfl):
  aX X.K cl E X (.Call (.Name x p) (e::es) [] pos) (aJ g [] ms):=by
 obtain⟨a,d,G,b,kk,n⟩:=C;exact N9 G (hr.mono hk) hg n kk b .nil Dv.nil ha hdb he hpl
theorem adO(C:zE X.prog X.w X.K X.mg X.base cl x k ps g)(hr:dN k0 X.A)(hk:k<=k0)(hg:Gl X x)(ha:eW X.K cl E X (e::es) ms)(hdb:(x==("__debug__":Str))=false:=by decide)(he:starEach (e::es) X.env=(false,eval e X.env)::starEach es X.env:=by rfl)(hpl:(backTo pos (starEach es X.env)).any (·.1)=false:=by rfl):
  aX X.K cl E X (.Call (.Name x p) (e::es) [] pos) (uA g [] ms):=by
 obtain⟨a,d,G,b,kk,n⟩:=C;exact O4 G (hr.mono hk) hg n kk b .nil Dv.nil ha hdb he hpl
end
theorem Dz(l:Addr)(its:Array Value)(n:Nat)(b:Addr)(jts:Array Value)(k:Nat)(dd:AF)(sl:Array AE)(h0:¬(!its.isEmpty&&qr (its.size+jts.size))=true)(h1:its.size<=sizeLine)(h2:its.size+jts.size<=sizeLine+1):
  Meets (Builtin.«list.__iadd__» ⟨[.ref l,.ref b],[]⟩) (λ_ R s=>s.heap.get? l=some ⟨.type "list",none,.seq its n,#[]⟩/\s.heap.get? b=some ⟨.type "list",dd,.seq jts k,sl⟩/\R (.ok (.ret (dg l))) {s with heap:=s.heap.update l (ij λx=>x++jts),toks:=s.toks}):=
 .of_wp λprog w A R s h=>by
  obtain⟨hp,g,d,tk,os⟩:=s;obtain⟨hl,hb,h⟩:=h;have f1:=PySem.AutoSeq1.idx_int;have f2:=PySem.AutoSeq1.sub_tuple_tuple;have f3:=PySem.AutoSeq1.sub_list_list;have f4:=PySem.AutoSeq1.sub_tuple_list;have f5:=PySem.AutoSeq1.sub_list_tuple;have hz':(its++jts).size<=sizeLine+1:=by
   rw[Array.size_append];exact h2
  wp_walk using(wpAny_updateSeq hl rfl (hz:=h1) (_hz':=hz')),wpAny_loadPart' hl,wpAny_loadPart' hb
  exact⟨_,rfl,h⟩
section
variable{X:Cx}
def adb(K:ag):zH:=λx y H Q=>∃l b xs zs,x=.ref l/\y=.ref b/\H l=some (.lst xs)/\cJ K H b zs/\xs.length+zs.length<=sizeLine/\Q (.ref l) (aY H l (.lst (xs++zs)))
theorem acO:L2.PIp X .Add (adb X.K):=by
 intro AL s σ H x y v u Q I rx ry h;obtain⟨l,b,xs,zs,rfl,rfl,hx,hy,hz,q⟩:=h;cases rx;cases ry;obtain⟨z,its,n,r1,hl,e⟩:=I.lstM hx;obtain⟨jts,r2,p2,_⟩:=I.list hy;obtain⟨⟨cls2,dd2,data2,sl2⟩,n2,ho2,hc2,_,hd2⟩:=p2;simp only at hc2 hd2;subst hc2 hd2;have l1:=r1.length;have l2:=r2.length;have hsz:its.toArray.size+jts.toArray.size<=sizeLine:=by rw[az,az];omega
 have hlong:¬(!its.toArray.isEmpty&&qr (its.toArray.size+jts.toArray.size))=true:=by
  rw[J5 hsz,Bool.and_false];exact ie
 have ta:s.TypeIs (.ref l) "list":=⟨_,e,rfl⟩;have tb:s.TypeIs (.ref b) "list":=⟨_,ho2,rfl⟩;have hf:=j9.lookup;have hq:isSeqSlot (some (.builtin "list.__iadd__"))=true:=by decide+kernel
 have hfi:fillsInplaceSlot (.type "list") "add" (Operator.Add== .Add)=pure false:=by
  unfold fillsInplaceSlot;show(typeLookup (.type "list") (dunderI "add") >>= λfi=>pure (fi.isSome&& !isSeqSlot fi))=pure false;rw[hf,pure_bind,hq];rfl
 have hsi:seqSlot? (.type "list") (dunderI "add")=pure (some (.builtin "list.__iadd__")):=PySem.seqSlot_of hf hq;unfold inplaceOp;refine jw ?_;refine ae (wpAny_typeOf ta (ae (rm hfi ?_)));show wpAny _ _ (if false=true then _ else _) _ _ s;rw[if_neg ie];refine ae (wpAny_binaryOp1_none (nm:="add") ta tb noFill_list_add ?_);refine ae (rm hsi ?_);refine ae (ly ?_);refine we j9 ⟨_,e,rfl⟩ PySem.F.entry_list_iadd (PySem.F.args_list_iadd_2 _ _) (Dz l its.toArray n b jts.toArray n2 dd2 sl2 hlong (by rw[az];omega) (by omega)) ⟨e,ho2,?_⟩;refine⟨.ref l,_,I.lset (its':=its++jts) hx e (by simp) (r1.append r2) ?_,rfl,q⟩;rw[av];omega
end
section
variable{K:ag}{cl:Str->Addr}{E:XK}{X:Cx}{e:ah}{m:ME}{pos:ai}
def Rg(k:Nat)(ρ:bV)(v:AV)(S:aG):cV:=match v with
 |.pv (.lst ys)=>match S[k]? with
  |some (.lst xs)=>if xs.length+ys.length<=16777216 then .nx ρ (S.set k (.lst (xs++ys)))else .fail
  |_=>.fail
 |_=>.fail
def rP(i:Nat)(m:ME):MS:=λρ S=>match ρ[i]? with
 |some (some (.ref k))=>cV.of (m ρ S) (Rg k ρ)
 |_=>.fail
theorem J2{i:Nat}{x:Str}{pos':ai}(hN:X.N.Nodup)(hi:X.N[i]?=some x)(hx:kT X.env.scope x)(he:aX K cl E X e m)
  (hf:X.fn x=true\/X.env.scope.names.lookup x=some .local:=by first |exact .inl rfl |exact .inr rfl |assumption):eH K cl E X (.AugAssign (.Name x pos') .Add e pos) (rP i m):=by
 intro hK;subst hK;refine PS.imp (abR hN hi hx (he rfl) acO hf) ?_
 rintro D σ H ⟨p,S,ρ,s,ev,h⟩
 unfold rP at h;split at h
 .rename_i k hx0
  obtain⟨v,e1,r1⟩:=ev.at_ i _ hx0;refine⟨v,e1,iT s ev h λq H' a b S' stp sm ev' r z=>?_⟩;obtain⟨D0,ea,rfl⟩:=stp.repA r1;unfold Rg at z;split at z
  .rename_i ys
   obtain⟨b0,ws,rfl,sq,lw,rw0⟩:=(show fD X.K q H' (.lst ys) b from .inl r).lst;split at z
   .rename_i xs hS
    split at z
    .rename_i hl
     obtain⟨vs,h3,l3,r4⟩:=sm.obj k D0 _ ea hS;have hz:=jG;have n1:=r4.length;have n2:=rw0.length;obtain⟨eG,sm3⟩:=sm.write ea (ca.mp hS).1 (ps:=xs++ys) (vs:=vs++ws) (by rw[av];omega) (r4.append rw0);refine⟨D0,b0,vs,ws,rfl,rfl,h3,sq,by omega,?_⟩;have es:σ.set i (some (.ref D0))=σ:=by
      refine jt λj=>?_
      by_cases hj:i=j
      .subst hj
       rw[dq (ca.mp e1).1,e1]
      .rw[dr hj]
     show D.nx (σ.set i (some (.ref D0))) _;rw[es];exact eN.nxD (z.mono eG) sm3 (eG.repE ev')
    .exact z.elim
   .exact z.elim
  .exact z.elim
 .exact h.elim
end
section
variable{K:ag}{cl:Str->Addr}{E:XK}{X:Cx}
variable{a e:ah}{m:ME}{ms:MA}{pos:ai}
end
section
variable{K:ag}{cl:Str->Addr}{E:XK}{X:Cx}
def Ys(K:ag):R2:=λx y H Q=>∃a b ys,x=.ref a/\y=.ref b/\dJ K H a []/\dJ K H b ys/\Q (.ref b) H
theorem N6:eQ X (binaryOp .Add) (Ys X.K):=by
 intro AL s σ H x y v u Q I rx ry h;obtain⟨a,b,ys,rfl,rfl,ha,hb,q⟩:=h;cases rx;cases ry;obtain⟨its,r1,p1,_⟩:=I.tuple ha;obtain⟨jts,r2,p2,_⟩:=I.tuple hb;cases r1;obtain⟨⟨cls,dd,data,sl⟩,ho,hc,n,hd⟩:=p1;obtain⟨⟨cls2,dd2,data2,sl2⟩,ho2,hc2,n2,hd2⟩:=p2;simp only at hc hd hc2 hd2;subst hc hd hc2 hd2;exact ql ⟨_,ho,rfl⟩ ⟨_,ho2,rfl⟩ vj vk vm vn (vo _ _)
  (tuple_addW0 a b _ jts.toArray n n2 dd dd2 sl sl2 (by simp)) ⟨ho,ho2,⟨.ref b,H,I,rfl,q⟩⟩
def pZ:PV->PV->AI
 |.tup xs,.tup ys=>if xs.length+ys.length<=16777216 then some (.tup (xs++ys))else none
 |_,_=>none
def Hv(K:ag):R2:=λx y H Q=>Ys K x y H Q\/Tf K x y H Q
theorem aaq:eQ X (binaryOp .Add) (Hv X.K):=eQ.or N6 Vq
theorem fD.tupR{p:Ph}{H:Hp}{xs:AH}{x:V}(h:fD K p H (.tup xs) x):aR K p.c H (.tup xs) x:=by
 rcases h with h |⟨ys,a,vs,e,_⟩
 .exact h
 .cases e
theorem ab3:iA K (Hv K) pZ:=λ{p S H a b c x y Q} s ra rb e k=>by
 cases a with
 |tup xs=>
  cases b with
  |tup ys=>
   have e:(if xs.length+ys.length<=16777216 then some (PV.tup (xs++ys))else none)=some c:=e;split at e
   .rename_i hl
    cases e;have ra':=ra.tupR;have rb':=rb.tupR;obtain⟨a1,vs,rfl,l1,z1,r1⟩:=ra.tup;obtain⟨a2,ws,rfl,l2,z2,r2⟩:=rb.tup;have hz:vs.length+ws.length<=sizeLine:=by rw[<-r1.length,<-r2.length,jG];exact hl
    cases xs with
    |nil=>
     have hv:vs=[]:=k4 (by rw[<-r1.length];rfl);subst hv;exact .inl ⟨a1,a2,ws,rfl,rfl,l1,l2,k H _ (dR.refl H) rb'⟩
    |cons x0 xs=>
     refine .inr ⟨a1,a2,vs,ws,rfl,rfl,l1,l2,λq=>?_,hz,λq=>?_,λ_ t ht=>k _ _ (iM ht) (pO s (r1.append r2) (by rw[av];exact hz) ht)⟩
     .have:=r1.length
      rw[q]at this;cases this
     .have hy:ys=[]:=by
       have:=r2.length;rw[q]at this;exact k4 this
      subst hy;have e0:x0::xs++[]=x0::xs:=ig _;refine k H _ (dR.refl H) ?_;rw[e0];exact ra'
   .cases e
  |_=>cases e
 |_=>cases e
end
section
variable{K:ag}{cl:Str->Addr}{E:XK}{X:Cx}
def uT(K:ag)(mg:Str->AE)(x:Str)(pv:PV):Prop:=∃(u:Value)(v:V),mg x=some u/\bT v u/\∀c H,aR K c H pv v
theorem Tq{x:Str}{pv:PV}{pos:ai}(hg:Gl X x)(hm:uT K X.mg x pv)(hd:(x==("__debug__":Str))=false:=by decide):aX K cl E X (.Name x pos) (mC pv):=λ_=>by
 obtain⟨u,v,hm,r,hr⟩:=hm;exact(aa6 hg hm r hd).imp λσ H Q ⟨p,S,ρ,s,e,h⟩=>bU.ret (R:=bY K) (x:=v) h s (hr p.c H)
theorem mQ:∀c H,aT K c H [] []:=λc H=>by
 unfold aT;rfl
theorem fK{p:PV}{ps:AH}{v:V}{vs:List V}(h:∀c H,aR K c H p v)(t:∀c H,aT K c H ps vs):∀c H,aT K c H (p::ps) (v::vs):=λc H=>by
 unfold aT;exact⟨v,vs,rfl,h c H,t c H⟩
theorem iF{i:Int}:∀c H,aR K c H (.int i) (.int i):=λc H=>by
 unfold aR;rfl
theorem mS{a:Addr}{od:AF}{its:Array Value}{n:Nat}{sl:Array AE}{xs:AH}{vs:List V}(l:K.lookup a=some ⟨.type "tuple",od,.seq its n,sl⟩)(hs:its.size<=sizeLine)(hv:bI vs its.toList)(hl:vs.length<=sizeLine)(t:∀c H,aT K c H xs vs):∀c H,aR K c H (.tup xs) (.ref a):=λc H=>by
 unfold aR;exact⟨a,vs,rfl,.inr ⟨_,its,n,l,rfl,rfl,hs,hv⟩,hl,t c H⟩
end
section
variable{K:ag}{cl:Str->Addr}{E:XK}{X:Cx}
end
section
variable{K:ag}{cl:Str->Addr}{E:XK}{X:Cx}
variable{a e:ah}{m:ME}{ms:MA}{pos:ai}
end
section
variable{M:ku}{A:ao}{E:Value->aa->Prop}{s:aa}{env:bf}
end
section
variable{prog:Program}{w:al}{A:ao}{R:ou->aa->Prop}{s:aa}
end
end L2.Pp
namespace L2
open PySem PySem.Spec PyProof.Rows Bn
section
variable{X:Cx}{AL:List (Addr×Obj)}{σ:St}{H H':Hp}{s s':aa}
end
open L2.Pp
section
variable{P:Program}{w:al}{K:ag}{mg:Str->AE}{base:Heap}{N:List Str}{qual:Str}{scope:Scope}{f:Addr}{cd:Value}{A:ao}{outer:List bf}{AM:aa}{AN:Hp}{E:XK}
end
section
variable{P:Program}{w:al}{K:ag}{mg:Str->AE}{base:Heap}{N:List Str}{qual:Str}{scope:Scope}{f:Addr}{cd:Value}{A:ao}{outer:List bf}{AM:aa}{AN:Hp}{E:XK}
variable{sc:Scope}{own:List Str}{cap:List (Nat×Str)}{AL:List (Addr×Obj)}{σ:St}{H:Hp}{s:aa}{elt target iter:ah}{pos pos':ai}{wi:TI}{g:TG}{te:TE}{Q:VK}
end
end L2
namespace L2.Pp
open PySem PySem.Spec PyProof.Rows Bn
section
variable{K:ag}{cl:Str->Addr}{E:XK}{X:Cx}{p q:Ph}{H H':Hp}{S:aG}
variable{sc:Scope}{own:List Str}{cap:List (Nat×Str)}{elt target iter:ah}{pos:ai}{mi:MI}{g:GM}{me:ME}
end
section
variable{P:Program}{w:al}{K:ag}{mg:Str->AE}{base:Heap}{N:List Str}{qual:Str}{scope:Scope}{f:Addr}{cd:Value}{A:ao}{outer:List bf}{AM:aa}{AN:Hp}{E:XK}{cl:Str->Addr}
variable{sc:Scope}{own:List Str}{cap:List (Nat×Str)}{elt target iter:ah}{pos:ai}{mi:MI}{g:GM}{me:ME}{wi:TI}{tg:TG}{te:TE}
end
section
variable{K:ag}{cl:Str->Addr}{E:XK}{X:Cx}{e:ah}{es:List ah}{ms:MA}{pos p:ai}{k n:Nat}{f:Addr}{fd:cc}{ps:List Str}{g:FM}{x:Str}{dvs:List V}{ds:AD}{dv:AH}
end
section
variable{K:ag}{cl:Str->Addr}{E:XK}{X:Cx}
end
section
variable{K:ag}{cl:Str->Addr}{E:XK}{X:Cx}{a b e:ah}{m:ME}{ms:MA}{pos:ai}
end
end L2.Pp
namespace L2
open PySem PySem.Spec PyProof.Rows Bn
section
variable{X:Cx}{k:Nat}{f:Addr}{fd:cc}{ps:List Str}{sp:Sp}{dvs:List V}{ds:AD}{x:Str}{p pos pos1 pos2 pos3 pc:ai}{e a:ah}{es:List ah}{t:TA}{ta:TE}{te:XK->TE}{c n:Str}{C:Addr}{i:Nat}{AR:Stmt}{body:List Stmt}{newId:String}
end
end L2
namespace L2.Pp
open PySem PySem.Spec PyProof.Rows Bn
section
variable{K:ag}{cl:Str->Addr}{E:XK}{X:Cx}{a b c e:ah}{m mc:ME}{ms:MA}{pos:ai}{tg:ah}{ma mb:ME}
end
section
variable{K:ag}{cl:Str->Addr}{E:XK}{X:Cx}{e a:ah}{es:List ah}{ms:MA}{ma me:ME}{p q:Ph}{H H':Hp}{S:aG}
variable{k:Nat}{f:Addr}{fd:cc}{ps:List Str}{g:FM}{dvs:List V}{ds:AD}{dv:AH}{x:Str}{pp pos pos1 pos2 pos3 pc:ai}{c n:Str}{i nn:Nat}{AR:Stmt}{body:List Stmt}{newId:String}{up:bV->bV}
variable(K cl X)
variable{K cl X}
end
section
variable{K:ag}{cl:Str->Addr}{E:XK}{X:Cx}{a b:ah}{ma mb:ME}{pos:ai}
end
end L2.Pp
namespace L2
open PySem PySem.Spec PyProof.Rows Bn
section
variable{X:Cx}{k:Nat}{p pos pos1 pos2 pos3 pc:ai}{e:ah}{te:XK->TE}{c:Str}{C:Addr}{AR:Stmt}{body:List Stmt}{newId:String}
end
end L2
namespace L2.Pp
open PySem PySem.Spec PyProof.Rows Bn
section
variable{K:ag}{cl:Str->Addr}{E:XK}{X:Cx}{a b e:ah}{m me:ME}{ms:MA}{pos pos1 pos2 pos3 pc:ai}{c:Str}{nn:Nat}{AR:Stmt}{body:List Stmt}{newId:String}{up:bV->bV}
end
section
variable{M:ku}{A:ao}{E:Value->aa->Prop}{s:aa}{env:bf}
end
end L2.Pp
namespace L2
open PySem PySem.Spec PyProof.Rows Bn L2.Pp
section
variable{P:Program}{w:al}{K:ag}{mg:Str->AE}{base:Heap}{N:List Str}{qual:Str}{scope:Scope}{f:Addr}{cd:Value}{A:ao}{outer:List bf}{AM:aa}{AN:Hp}{E:XK}
variable{sc:Scope}{own:List Str}{cap:List (Nat×Str)}{AL:List (Addr×Obj)}{σ:St}{H:Hp}{s:aa}{elt target iter:ah}{pos pos':ai}{wi:TI}{g:TG}{te:TE}{Q:VK}
end
end L2
namespace L2.Pp
open PySem PySem.Spec PyProof.Rows Bn
section
variable{P:Program}{w:al}{K:ag}{mg:Str->AE}{base:Heap}{N:List Str}{qual:Str}{scope:Scope}{f:Addr}{cd:Value}{A:ao}{outer:List bf}{AM:aa}{AN:Hp}{E:XK}{cl:Str->Addr}
variable{sc:Scope}{own:List Str}{cap:List (Nat×Str)}{elt target iter:ah}{pos:ai}{mi:MI}{g:GM}{me:ME}
end
section
variable{K:ag}
end
section
variable{K:ag}{X:Cx}
end
end L2.Pp
namespace L2
open PySem PySem.Spec PyProof.Rows Bn
def yB(J:It)(g:TG)(tc:TT)(te:TE)(AQ:St)(H1:Hp)(D:Addr)(Q:VK):Prop:=
 ∃W:Nat->Nat->St->Hp->List V->Prop,(∃m,W 0 m AQ (aY H1 D (.lst [])) [])/\∀i m σ H ys,W i m σ H ys->H D=some (.lst ys)/\
  ((J.stop i H/\Q (.ref D) H)\/(J.go i H/\ys.length<sizeLine/\∀x H2,J.yld i H x H2->g x σ H2 λσ3 H3=>tc σ3 H3 λb HA=>if b=true then te σ3 HA λy H4=>H4 D=some (.lst ys)/\∃m',m'<m/\W (i+1) m' σ3 (aY H4 D (.lst (ys++[y]))) (ys++[y])else ∃m',m'<m/\W (i+1) m' σ3 HA ys))
def Ls(own:List Str)(cap:List (Nat×Str))(wi:TI)(g:TG)(tc:TT)(te:TE):TE:=λσ H Q=>wi σ H λJ H1=>∀D,H1 D=none->yB J g tc te (iQ own cap σ) H1 D Q
section
variable{prog:Program}{w:al}{A:ao}{R:ou->aa->Prop}{s:aa}
theorem Py{elt target iter cnd:ah}{sc:Scope}{pos:ai}{it acc:Value}{env:bf}(I:Nat->aa->Prop)
  (turn:∀n s,I n s->wpAny (model prog w) A (pyNext it) (λr s1=>match r with
   |none=>R (.ok .next) s1
   |some v=>wpAny (model prog w) A (letOwnedTupleGo target it v) (λ_ s2=>wpAny (model prog w) A (assign target env v) (λ_ s3=>wpAny (model prog w) A (isTrue cnd env (eval cnd env)) (λb sA=>if b=true then wpAny (model prog w) A (eval elt env)
     (λx s4=>wpAny (model prog w) A (call (.builtin "list.append") [acc,x]) (λ_ s5=>∃m,m<n/\I m s5) (λ_ _=>False) s4) (λ_ _=>False) sA else ∃m,m<n/\I m sA) (λ_ _=>False) s3) (λ_ _=>False) s2) (λ_ _=>False) s1) (λ_ _=>False) s)
  (n:Nat)(h:I n s):codeAny (model prog w) A (.compLoop (.ListComp elt [⟨target,iter,[cnd],0⟩] sc pos) 0 it acc env) R s:=by
 refine codeAny_loop rfl I (λn s hI=>?_) n h;show wpAny _ _ ((compTurn (.ListComp elt [⟨target,iter,[cnd],0⟩] sc pos) 0 it acc env).onRaise (λx=>do noteFrame x env;theTreesLotGoes x)) _ _ s;refine wpAny_noted ?_;rw[compTurn_list];refine ae (om (ae ?_));refine fj (turn n s hI) (λr s1 h1=>?_) λ_ _ z=>z.elim;cases r with
 |none=>exact ak h1
 |some v=>
  refine ae (fj h1 (λ_ s2 h2=>?_) λ_ _ z=>z.elim);refine ae (fj h2 (λ_ s3 h3=>?_) λ_ _ z=>z.elim);refine ae (wpAny_tests_one (fj h3 (λok sA hA=>?_) λ_ _ z=>z.elim));cases ok with
  |true=>
   rw[if_pos rfl]at hA⊢;refine ae (ae (fj hA (λx s4 h4=>?_) λ_ _ z=>z.elim));refine ae (fj h4 (λ_ s5 h5=>?_) λ_ _ z=>z.elim);exact ak (ak ⟨rfl,h5⟩)
  |false=>
   rw[if_neg ie]at hA⊢;exact ae (ak (ak ⟨rfl,hA⟩))
end
section
variable{X:Cx}{sc:Scope}{own:List Str}{cap:List (Nat×Str)}{AL:List (Addr×Obj)}{σ:St}{H:Hp}{s:aa}{elt target iter cnd:ah}{pos pos':ai}{wi:TI}{g:TG}{tc:TT}{te:TE}{Q:VK}
theorem Qz{use:Option (Value->Sem Unit)}{Qf:Value->aa->Prop}(k:gY X sc own cap)(hi:PI X target iter wi)(hc:X.calm=true)
  (hg:∀C AM AN ex,PG (eI X sc (cK own cap) C AM AN ex) target g)(ht:∀C AM AN ex,PT (eI X sc (cK own cap) C AM AN ex) cnd tc)(he:∀C AM AN ex,PE (eI X sc (cK own cap) C AM AN ex) elt te)(I:aH X AL σ H s)(h:Ls own cap wi g tc te σ H Q)
  (fin:∀D C s' H' m,aH X AL σ H' s'->fO X AL H' C->s'.heap.Ns C m->Q (.ref D) H'->compPost (model X.prog X.w) X.A X.xe use Qf (.ref D) C (.ok .next) s')
  (hs:∀x,foldedSetIterable iter X.env x=pure x):
  wpAny (model X.prog X.w) X.A (comprehension (.ListComp elt [⟨target,iter,[cnd],0⟩] sc pos) sc X.env pos' (newList []) false (eval iter X.env) use) Qf X.xe s:=by
 refine wq (use:=use) rfl hs (Sd (k.has I.ok)) k.kind k.names ?_;refine bH (hi AL s σ H _ I h) λv s1 h1=>bH h1 λitv s2 h2=>?_;obtain⟨it,fp,tn,J,H2,e,I2,T,st2,f2,hW⟩:=h2;subst e;refine ib (zw k.nocell (λy hy=>nomatch hy) (λh4 hns hsb=>?_) k.kind);have I3:aH X AL σ (aY H2 s2.heap.objs.size (.lst [])) {s2 with heap:=s2.heap.push {cls:=.type "list",data:=.seq ([]:AD).toArray},toks:=s2.toks}:=I2.lnew (ys:=[]) (its:=[]) .nil (fw _);have hD:H2 s2.heap.objs.size=none:=I2.fresh;have ltf:∀b∈fp,b<s2.heap.objs.size:=λb hb=>by
  obtain⟨o,ho,_⟩:=T.obj _ _ st2 b hb;exact bi ho
 have f3:∀b∈fp,fO X AL (aY H2 s2.heap.objs.size (.lst [])) b:=λb hb=>⟨by rw[bS (cv (ltf b hb))];exact(f2 b hb).1,(f2 b hb).2⟩;have un:Un (dS X.stack) fp H2 (aY H2 s2.heap.objs.size (.lst [])) s2.heap (s2.heap.push {cls:=.type "list",data:=.seq ([]:AD).toArray}):=Un.laid (λb u q=>ax _ q) (aj _) hD;have kp:∀b o,(s2.heap.push {cls:=.type "list",data:=.seq ([]:AD).toArray}).get? b=some o->h4.get? b=some o:=λb o q=>hsb.extBut b o (cv (bi q)) (ax _ q);have J0:=I3.cmp (t':=s2.toks+([]:List (Str×Value)).length) k f3 (λb hb=>cy (ltf b hb) (by rw[je];exact kz _)) hns kp;have stat:∀{H':Hp},(∀b∈fp,H' b=none)->∀b∈fp,fO (eI X sc (cK own cap) (s2.heap.push {cls:=.type "list",data:=.seq ([]:AD).toArray}).objs.size {s2 with heap:=s2.heap.push {cls:=.type "list",data:=.seq ([]:AD).toArray},toks:=s2.toks} (aY H2 s2.heap.objs.size (.lst [])) fp) [] H' b:=λhn b hb=>
  ⟨hn b hb,(J0.ok.exf b hb).1,J0.ok.exfs b hb,.inl hb,(J0.ok.exf b hb).2,λp hp=>absurd (show p∈([]:List (Addr×Obj)) from hp) (by simp)⟩
 have st4:tn 0 h4:=T.keep _ _ _ st2 λb hb o q=>kp b o (ax _ q);have fr0:∀b∈fp,(aY H2 s2.heap.objs.size (.lst [])) b=none:=λb hb=>(f3 b hb).1;have loop:codeAny (model X.prog X.w) X.A (.compLoop (.ListComp elt [⟨target,iter,[cnd],0⟩] sc pos) 0 (.ref it) (.ref s2.heap.objs.size) (compEnvC sc (gO X.env sc.names []) (s2.heap.push {cls:=.type "list",data:=.seq ([]:AD).toArray}).objs.size X.env))
   (compPost (model X.prog X.w) X.A X.xe use Qf (.ref s2.heap.objs.size) (s2.heap.push {cls:=.type "list",data:=.seq ([]:AD).toArray}).objs.size) {s2 with heap:=h4,toks:=s2.toks+([]:List (Str×Value)).length}:=by
  obtain⟨W,⟨m0,w0⟩,turn⟩:=hW s2.heap.objs.size hD;refine Py (λn s'=>∃i σ' H' ys,aH (eI X sc (cK own cap) (s2.heap.push {cls:=.type "list",data:=.seq ([]:AD).toArray}).objs.size {s2 with heap:=s2.heap.push {cls:=.type "list",data:=.seq ([]:AD).toArray},toks:=s2.toks} (aY H2 s2.heap.objs.size (.lst [])) fp) [] σ' H' s'/\tn i s'.heap/\(∀b∈fp,H' b=none)/\W i n σ' H' ys) ?_ m0
   ⟨0,_,_,[],J0,st4,fr0,w0⟩
  rintro n s5 ⟨i,σ5,H5,ys,I5,st5,fr5,w5⟩
  obtain⟨hD5,w5⟩:=turn i n σ5 H5 ys w5;rcases w5 with⟨stop,qn⟩|⟨go,hlt,step⟩
  .refine bH (T.done (eI X sc (cK own cap) (s2.heap.push {cls:=.type "list",data:=.seq ([]:AD).toArray}).objs.size {s2 with heap:=s2.heap.push {cls:=.type "list",data:=.seq ([]:AD).toArray},toks:=s2.toks} (aY H2 s2.heap.objs.size (.lst [])) fp) rfl rfl rfl hc i [] s5 σ5 H5 _ I5 (stat fr5) st5 stop) ?_
   rintro r s6 ⟨hr,I6⟩
   subst hr;obtain⟨m,hn,_⟩:=id I6.loc;exact fin _ _ s6 H5 m (I2.uncmp (s3:={s2 with heap:=s2.heap.push {cls:=.type "list",data:=.seq ([]:AD).toArray},toks:=s2.toks}) f2 un rfl I6) (I3.fpOk (aj _) I6.free) hn qn
  .refine bH (T.item (eI X sc (cK own cap) (s2.heap.push {cls:=.type "list",data:=.seq ([]:AD).toArray}).objs.size {s2 with heap:=s2.heap.push {cls:=.type "list",data:=.seq ([]:AD).toArray},toks:=s2.toks} (aY H2 s2.heap.objs.size (.lst [])) fp) rfl rfl rfl hc i [] s5 σ5 H5 _ I5 (stat fr5) st5 go) ?_
   rintro r s6 ⟨u,hr,h6⟩
   subst hr;refine bH h6 ?_
   rintro _ s7 ⟨x,H7,I7,r7,y7,st7,fr7⟩
   have I7':=I7.pinned (stat fr7) (T.obj _ _ st7);refine bH (hg _ _ _ _ _ s7 σ5 H7 x u _ I7' r7 (step x H7 y7)) ?_
   rintro _ s8 ⟨σ8,H8,I8,q8⟩
   refine bH (ht _ _ _ _ _ s8 σ8 H8 _ I8 q8) ?_
   rintro bb sA ⟨HA,IA,qA⟩
   cases bb with
   |true=>
    rw[if_pos rfl];rw[if_pos rfl]at qA;refine bH (he _ _ _ _ _ sA σ8 HA _ IA qA) ?_
    rintro v9 s9 ⟨y,H9,I9,r9,hD9,m',hm,w9⟩
    refine bH (sT _ s9 σ8 H9 (.ref s2.heap.objs.size) [y] (.ref s2.heap.objs.size) [v9] (λ_ H'=>H'=aY H9 s2.heap.objs.size (.lst (ys++[y]))) I9 rfl (.cons r9 .nil) ⟨_,ys,y,rfl,rfl,hD9,hlt,rfl⟩) ?_
    rintro _ s10 ⟨_,H10,I10,_,q10⟩
    subst q10;refine⟨m',hm,i+1,σ8,_,_,I10.unpinned,T.keep _ _ _ st7 λb hb o q=>(I10.pin (b,o) (da _ (da _ (lP hb q)))).1,λb hb=>?_,w9⟩;obtain⟨o,q,d⟩:=T.obj _ _ st7 b hb;exact(I10.pin (b,o) (da _ (da _ (lP hb q)))).2.1
   |false=>
    rw[if_neg ie];rw[if_neg ie]at qA;obtain⟨m',hm,w9⟩:=qA;refine⟨m',hm,i+1,σ8,_,_,IA.unpinned,T.keep _ _ _ st7 λb hb o q=>(IA.pin (b,o) (da _ (da _ (lP hb q)))).1,λb hb=>?_,w9⟩;obtain⟨o,q,d⟩:=T.obj _ _ st7 b hb;exact(IA.pin (b,o) (da _ (da _ (lP hb q)))).2.1
 exact wr loop (T.self _ 0 _ _ _ st4 loop)
theorem G6(k:gY X sc own cap)(hi:PI X target iter wi)(hc:X.calm=true)
  (hg:∀C AM AN ex,PG (eI X sc (cK own cap) C AM AN ex) target g)(ht:∀C AM AN ex,PT (eI X sc (cK own cap) C AM AN ex) cnd tc)(he:∀C AM AN ex,PE (eI X sc (cK own cap) C AM AN ex) elt te)
  (hs:∀x,foldedSetIterable iter X.env x=pure x:=by intro _;rfl):PE X (.ListComp elt [⟨target,iter,[cnd],0⟩] sc pos) (Ls own cap wi g tc te):=by
 intro AL s σ H Q I h;rw[wt];refine Qz (use:=none) k hi hc hg ht he I h (λD C s' H' m I' fC hn q=>?_) hs;refine⟨m,hn,λh' sb=>⟨.ref D,H',?_,rfl,q⟩⟩;obtain⟨f0,f1,f2,f3,f4,f5⟩:=fC;exact I'.turned (t':=s'.toks) (λb o hb e=>(sb.2 b hb).trans e) f0 f1 f3 f4 f5
end
end L2
namespace L2.Pp
open PySem PySem.Spec PyProof.Rows Bn
open Classical in
noncomputable def fS(G:Gd)(g:GM)(mc:MT)(me:ME):AH->bV->aG->bQ AH
 |[],_,S=>if iP G S then .ok [] S else .fail
 |x::r,ρ,S=>if iP G S then(match g x ρ with
  |none=>.fail
  |some ρ1=>match mc ρ1 S with
   |.ok true S0=>(match me ρ1 S0 with
    |.ok (.pv y) S1=>match fS G g mc me r ρ1 S1 with
     |.ok ys S2=>.ok (y::ys) S2
     |_=>.fail
    |_=>.fail)
   |.ok false S0=>fS G g mc me r ρ1 S0
   |_=>.fail)else .fail
theorem Ez{g:GM}{mc:MT}{me:ME}{ρ:bV}{S:aG}:fS [] g mc me [] ρ S=.ok [] S:=by
 unfold fS;rw[if_pos (jS S)]
theorem Xx{g:GM}{mc:MT}{me:ME}{x:PV}{r:AH}{ρ:bV}{S:aG}:fS [] g mc me (x::r) ρ S=(match g x ρ with
  |none=>.fail
  |some ρ1=>match mc ρ1 S with
   |.ok true S0=>(match me ρ1 S0 with
    |.ok (.pv y) S1=>match fS [] g mc me r ρ1 S1 with
     |.ok ys S2=>.ok (y::ys) S2
     |_=>.fail
    |_=>.fail)
   |.ok false S0=>fS [] g mc me r ρ1 S0
   |_=>.fail):=by
 rw[fS,if_pos (jS S)]
noncomputable def wZ(own:List Str)(cap:List (Nat×Str))(mi:MI)(g:GM)(mc:MT)(me:ME):ME:=λρ S=>(mi ρ S).bind λxs S1=>(fS xs.2 g mc me xs.1 (bX own cap ρ) S1).bind λys S2=>.ok (.pv (.lst ys)) S2
theorem Ri{G:Gd}{g:GM}{mc:MT}{me:ME}:∀(xs:AH)(ρ:bV)(S:aG)(n:Str)(S':aG),fS G g mc me xs ρ S≠.exc n S'
 |[],_,_,_,_,e=>by
  unfold fS at e;split at e<;>cases e
 |x::r,ρ,S,n,S',e=>by
  unfold fS at e;split at e
  .split at e
   .cases e
   .split at e
    .split at e
     .split at e<;>cases e
     .cases e
    .exact Ri r _ _ _ _ e
    .cases e
  .cases e
theorem Cb{G:Gd}{g:GM}{mc:MT}{me:ME}{xs zs:AH}{ρ:bV}{S S':aG}(e:fS G g mc me xs ρ S=.ok zs S'):iP G S:=by
 cases xs with
 |nil=>
  unfold fS at e;split at e
  .assumption
  .cases e
 |cons x r=>
  unfold fS at e;split at e
  .assumption
  .cases e
theorem P9{J:It}{g:TG}{tc:TT}{te:TE}{AQ:St}{H1:Hp}{D:Addr}{Q:VK}(n:Nat)(hn:n<=sizeLine)(Pv:Nat->St->Hp->List V->Prop)(h0:Pv 0 AQ (aY H1 D (.lst [])) [])
  (hl:∀i σ H ys,Pv i σ H ys->ys.length<=i/\H D=some (.lst ys))(hgo:∀i σ H ys,i<n->Pv i σ H ys->J.go i H)
  (hs:∀i σ H ys x H2,i<n->Pv i σ H ys->J.yld i H x H2->g x σ H2 λσ3 H3=>tc σ3 H3 λb HA=>if b=true then te σ3 HA λy H4=>H4 D=some (.lst ys)/\∃m',m'<n-i/\(m'=n-(i+1)/\i+1<=n/\Pv (i+1) σ3 (aY H4 D (.lst (ys++[y]))) (ys++[y]))else ∃m',m'<n-i/\(m'=n-(i+1)/\i+1<=n/\Pv (i+1) σ3 HA ys))
  (hd:∀σ H ys,Pv n σ H ys->J.stop n H/\Q (.ref D) H):yB J g tc te AQ H1 D Q:=by
 refine⟨λi m σ H ys=>m=n-i/\i<=n/\Pv i σ H ys,⟨n,rfl,fw _,h0⟩,?_⟩
 rintro i m σ H ys ⟨rfl,hi,p⟩
 obtain⟨l1,l2⟩:=hl i σ H ys p;refine⟨l2,?_⟩
 by_cases hlt:i<n
 .exact .inr ⟨hgo i σ H ys hlt p,by omega,λx H2 y=>hs i σ H ys x H2 hlt p y⟩
 .have e:i=n:=by omega
  subst e;exact .inl (hd σ H ys p)
theorem n1{n i:Nat}{P:Prop}(h:i<n)(p:P):∃m',m'<n-i/\(m'=n-(i+1)/\i+1<=n/\P):=⟨n-(i+1),by omega,rfl,h,p⟩
section
variable{K:ag}{cl:Str->Addr}{E:XK}{X:Cx}{p q:Ph}{H H':Hp}{S:aG}{sc:Scope}{own:List Str}{cap:List (Nat×Str)}{elt target iter cnd:ah}{pos:ai}{mi:MI}{g:GM}{mc:MT}{me:ME}
theorem Kz{σ:St}{ρ:bV}{xs zs:AH}{G:Gd}{J:It}{Q:VK}{D:Addr}{S2:aG}(sm:aV K p S H)(ev:dL K p H ρ σ)(it:fI K p H (xs,G) J)(z:fS G g mc me xs (bX own cap ρ) S=.ok zs S2)(hD:H D=none)
  (k:∀q H' vs,bP p H q H'->aV K q S2 H'->aV K (q.hold D) S2 H'->q.w D->D∉q.f->H' D=some (.lst vs)->vs.length<=sizeLine->aT K q.c H' zs vs->Q (.ref D) H'):
  yB J (gP K g) (tP K cl E0 RB mc) (tP K cl E0 (bY K) me) (iQ own cap σ) H D Q:=by
 obtain⟨st0,sm0⟩:=sm.res (D:=D) (o:=.lst []) hD trivial;have sh0:=sm.resHold (D:=D) (o:=.lst []) hD trivial;have nf0:D∉p.f:=λh=>sm.notin hD (sm.wc D (sm.sub D h));refine P9 xs.length it.1 (λi σ1 H1 ys=>ys.length<=i/\i<=xs.length/\H1 D=some (.lst ys)/\∃p1 S1 ρ1 us ws,(aV K p1 S1 H1/\aV K (p1.hold D) S1 H1)/\bP p H p1 H1/\p1.w D/\D∉p1.f/\dL K p1 H1 ρ1 σ1/\fI K p1 H1 (xs,G) J/\iP G S1/\aT K p1.c H1 us ys/\zs=us++ws/\fS G g mc me (xs.drop i) ρ1 S1=.ok ws S2) ?_ ?_ ?_ ?_ ?_
 .refine⟨aj _,fw _,fH,p.res D,S,bX own cap ρ,[],zs,⟨sm0,sh0⟩,st0,.inr rfl,nf0,Qn (st0.repE ev),it.step st0,?_,.nil,rfl,by simpa using z⟩
  exact Cb z
 .rintro i σ1 H1 ys ⟨h1,_,h2,_⟩
  exact⟨h1,h2⟩
 .rintro i σ1 H1 ys hi ⟨_,_,_,p1,S1,ρ1,us,ws,⟨sm1,sh1⟩,st1,w1,f1,ev1,it1,g1,_⟩
  exact((it1.2 p1 H1 S1 sm1.step sm1 g1).1 i xs[i] (ay hi)).1
 .rintro i σ1 H1 ys x H2 hi ⟨hl,_,hH,p1,S1,ρ1,us,ws,⟨sm1,sh1⟩,st1,w1,f1,ev1,it1,g1,r1,e1,c1⟩ hy
  obtain⟨same,rx⟩:=((it1.2 p1 H1 S1 sm1.step sm1 g1).1 i xs[i] (ay hi)).2 x H2 hy;rw[sk hi]at c1;unfold fS at c1;rw[if_pos g1]at c1;split at c1
  .cases c1
  .rename_i ρ2 gz
   have st2:=sm1.same same;have sm2:=sm1.ofSame same;have smh:=sh1.ofSame same;have hD2:H2 D=some (.lst ys):=same _ _ hH;have go:∀(q:Ph)(H4:Hp)(S3:aG)(σ3:St),dL K p1 H2 ρ2 σ3->bP (p1.hold D) H2 q H4->aV K q S3 H4->H4 D=some (.lst ys)/\∃q2:Ph,bP p1 H1 q2 H4/\aV K q2 S3 H4/\aV K (q2.hold D) S3 H4/\q2.w D/\D∉q2.f/\dL K q2 H4 ρ2 σ3/\q2.c=q.c:=λq H4 S3 σ3 ev3 st4 sm4=>by
    have hD4:H4 D=some (.lst ys):=st4.keep D _ hD2 λz=>z.2 rfl;have fq:D∉q.f:=λh=>by
     have:=st4.nf D h f1;rw[hD2]at this;cases this
    have stU:=bP.unhold w1 st4 sm2;have nq:¬q.w D:=λz=>by
     have:=st4.nw D z λy=>y.2 rfl;rw[hD2]at this;cases this
    have smU:aV K ⟨q.f,λa=>q.w a\/a=D,q.c⟩ S3 H4:=⟨sm4.nd,sm4.len,λa h=>.inl (sm4.sub a h),λa h=>h.elim (sm4.wc a) λz=>z▸st4.mono D (sm2.wc D w1),sm4.mu,λk a o e1 e2=>
     (sm4.obj k a o e1 e2).mono (λ_ e=>e) (λb w f=>⟨⟨.inl w,f⟩,λ_ e=>e⟩) λ_ _ r=>r⟩
    have shU:aV K (Ph.hold ⟨q.f,λa=>q.w a\/a=D,q.c⟩ D) S3 H4:=⟨sm4.nd,sm4.len,λa h=>⟨.inl (sm4.sub a h),λz=>nq (z▸sm4.sub a h)⟩,λa h=>smU.wc a h.1,sm4.mu,λk a o e1 e2=>
     (sm4.obj k a o e1 e2).mono (λ_ e=>e) (λb w f=>⟨⟨⟨.inl w,λz=>nq (z▸w)⟩,f⟩,λ_ e=>e⟩) λ_ _ r=>r⟩
    exact⟨hD4,_,st2.trans stU,smU,shU,.inr rfl,fq,stU.repE ev3,rfl⟩
   split at c1
   .rename_i SA mz
    split at c1
    .rename_i y S3 ez
     split at c1
     .rename_i vs S4 cz
      cases c1;refine⟨p1,S1,ρ1,xs[i],ρ2,sm2,st2.repE ev1,rx,gz,λσ3 ev3=>⟨p1.hold D,S1,ρ2,smh,⟨ev3.len,ev3.at_⟩,?_⟩⟩;rw[mz];intro q HA b stA smA rb;cases rb;rw[if_pos rfl];refine⟨q,SA,ρ2,smA,stA.repE (p:=p1.hold D) ⟨ev3.len,ev3.at_⟩,?_⟩;rw[ez];intro q4 H4 y' st4 sm4 ry;obtain⟨hD4,q2,stQ,smQ,shQ,wQ,fQ,evQ,cQ⟩:=go q4 H4 S3 σ3 ev3 (stA.trans st4) sm4;obtain⟨stG,smG,shG⟩:=smQ.grow (ys:=ys) (D:=D) (o:=.lst (ys++[y'])) shQ wQ fQ trivial;have stB:=stQ.trans stG;have ry:aR K q4.c H4 y y':=ry;rw[<-cQ]at ry;refine⟨hD4,n1 hi ⟨by rw[av];exact wd hl,hi,fH,q2,S3,ρ2,us++[y],vs,⟨smG,shG⟩,st1.trans stB,wQ,fQ,stG.repE evQ,it1.step stB,Cb cz,?_,by rw[e1,ix];rfl,cz⟩⟩;exact(stB.reps r1).append (.cons (stG.rep ry) .nil)
     .cases c1
    .cases c1
   .rename_i SA mz
    refine⟨p1,S1,ρ1,xs[i],ρ2,sm2,st2.repE ev1,rx,gz,λσ3 ev3=>⟨p1.hold D,S1,ρ2,smh,⟨ev3.len,ev3.at_⟩,?_⟩⟩;rw[mz];intro q HA b stA smA rb;cases rb;rw[if_neg ie];obtain⟨hD4,q2,stQ,smQ,shQ,wQ,fQ,evQ,cQ⟩:=go q HA SA σ3 ev3 stA smA;exact n1 hi ⟨xw hl,hi,hD4,q2,SA,ρ2,us,ws,⟨smQ,shQ⟩,st1.trans stQ,wQ,fQ,evQ,it1.step stQ,Cb c1,stQ.reps r1,e1,c1⟩
   .cases c1
 .rintro σ1 H1 ys ⟨hl,_,hH,p1,S1,ρ1,us,ws,⟨sm1,sh1⟩,st1,w1,f1,ev1,it1,g1,r1,e1,c1⟩
  rw[sr]at c1;unfold fS at c1;rw[if_pos g1]at c1;cases c1;refine⟨(it1.2 p1 H1 _ sm1.step sm1 g1).2,?_⟩;rw[ig]at e1;subst e1;exact k p1 H1 ys st1 sm1 sh1 w1 f1 hH (gm hl it.1) r1
theorem Xy{σ:St}{ρ:bV}{xs:AH×Gd}{J:It}{Q:VK}{D:Addr}(sm:aV K p S H)(ev:dL K p H ρ σ)(it:fI K p H xs J)(k:bU K cl (bY K) p H ((fS xs.2 g mc me xs.1 (bX own cap ρ) S).bind λys S2=>.ok (.pv (.lst ys)) S2) Q E)(hD:H D=none):
  yB J (gP K g) (tP K cl E0 RB mc) (tP K cl E0 (bY K) me) (iQ own cap σ) H D Q:=by
 cases z:fS xs.2 g mc me xs.1 (bX own cap ρ) S with
 |fail=>rw[z]at k;exact k.elim
 |exc n S'=>exact absurd z (Ri _ _ _ _ _)
 |ok zs S2=>
  rw[z]at k;have k:∀q H' x,bP p H q H'->aV K q S2 H'->aR K q.c H' (.lst zs) x->Q x H':=k;refine Kz sm ev it z hD λq H' vs st1 sm1 sh1 w1 f1 hH l1 r1=>?_;refine k (q.less D) H' (.ref D) (st1.toLess hD) sh1.toLess ?_;unfold aR;exact⟨D,vs,rfl,.inl ⟨hH,λz=>z.2 rfl⟩,l1,pH (λa h=>h.1) r1⟩
theorem J8(k:gY X sc own cap)(hi:PIp K cl E X target iter mi)(hc:X.calm=true)(hg:∀C AM AN ex,kQ K (eI X sc (cK own cap) C AM AN ex) target g)(ht:∀C AM AN ex,gC K cl E0 (eI X sc (cK own cap) C AM AN ex) cnd mc)(he:∀C AM AN ex,aX K cl E0 (eI X sc (cK own cap) C AM AN ex) elt me)
  (hs:∀x,foldedSetIterable iter X.env x=pure x:=by intro _;rfl):aX K cl E X (.ListComp elt [⟨target,iter,[cnd],0⟩] sc pos) (wZ own cap mi g mc me):=by
 intro hK;refine PE.imp (G6 k (hi hK) hc (λC AM AN ex=>hg C AM AN ex hK) (λC AM AN ex=>ht C AM AN ex hK) (λC AM AN ex=>he C AM AN ex hK) hs) ?_
 rintro σ H Q ⟨p,S,ρ,s,ev,h⟩
 exact cR s ev h λq H' xs J S' stp sm ev it kk D hD=>Xy sm ev it kk hD
end
end L2.Pp
namespace L2
open PySem PySem.Spec PyProof.Rows Bn
open L2.Pp
section
variable{X:Cx}{AL:List (Addr×Obj)}{σ:St}{H:Hp}{s:aa}{c:Addr->Prop}{a b:Addr}{n:Bool}{k:gH n}{ks:AH}{us:AD}
theorem Ol:∀{l:AA}{vs:List V},aT X.K c H (l.map PV.int) vs->vs=l.map V.int
 |[],vs,h=>by
  unfold kd aT at h;exact h
 |i::l,vs,h=>by
  rw[aq]at h;unfold aT at h;obtain⟨v,r,rfl,h1,h2⟩:=h;unfold aR at h1;rw[h1,Ol h2];rfl
theorem Oq(I:aH X AL σ H s){l:AA}(r:aR X.K c H (.tup (l.map PV.int)) (.ref b)):iB s.heap l b:=by
 unfold aR at r;obtain⟨a,vs,e,sq,_,r⟩:=r;cases e;obtain⟨its,rv,⟨o,ho,hc,m,hd⟩,_⟩:=I.tuple sq;rw[Ol r]at rv;exact⟨o,its.toArray,m,ho,hc,hd,by simpa using rv⟩
theorem Ak(I:aH X AL σ H s):∀{l:AB}{vs:List V}{its:AD},aT X.K c H (l.map λr:AA=>PV.tup (r.map PV.int)) vs->bI vs its->iu (λk v=>∃b,v=dg b/\iB s.heap k b) l its
 |[],vs,its,h,rv=>by
  unfold kd aT at h;subst h;cases rv;exact .nil
 |i::l,vs,its,h,rv=>by
  rw[aq]at h;unfold aT at h;obtain⟨v,r,rfl,h1,h2⟩:=h;cases rv with
  |cons e t=>
   have h1':=h1;unfold aR at h1';obtain⟨a,ws,rfl,_⟩:=h1';cases e;exact .cons ⟨_,rfl,Oq I h1⟩ (Ak I h2 t)
theorem Xd(I:aH X AL σ H s):∀{n:Bool}{k:gH n}{b:Addr},aR X.K c H (eD n k) (.ref b)->(mF X.prog X.w n).is s.heap k b
 |false,k,b,r=>iB.key (Oq I r)
 |true,k,b,r=>by
  have r:aR X.K c H (.tup (kd (λr:AA=>PV.tup (r.map PV.int)) k)) (.ref b):=r;unfold aR at r;obtain⟨a,vs,e,sq,_,r⟩:=r;cases e;obtain⟨its,rv,⟨o,ho,hc,m,hd⟩,_⟩:=I.tuple sq;exact⟨o,its.toArray,m,ho,hc,hd,by simpa using Ak I r rv⟩
theorem Ac:∀{l m:AA},l.map PV.int=m.map PV.int->l=m
 |[],[],_=>rfl
 |[],_::_,h=>by cases h
 |_::_,[],h=>by cases h
 |i::l,j::m,h=>by
  rw[aq,aq]at h;injection h with h1 h2;injection h1 with h1;rw[h1,Ac h2]
theorem qV:∀{n:Bool}{k k':gH n},eD n k=eD n k'->k=k'
 |false,k,k',h=>by
  unfold eD at h;injection h with h;exact Ac h
 |true,k,k',h=>by
  unfold eD at h;injection h with h;have go:∀{l m:AB},l.map (λr:AA=>PV.tup (r.map PV.int))=m.map (λr:AA=>PV.tup (r.map PV.int))->l=m:=by
   intro l
   induction l with
   |nil=>
    intro m h;cases m with
    |nil=>rfl
    |cons _ _=>cases h
   |cons x l ih=>
    intro m h;cases m with
    |nil=>cases h
    |cons y m=>
     rw[aq,aq]at h;injection h with h1 h2;injection h1 with h1;rw[Ac h1,ih h2]
  exact go h
theorem wJ:∀{ps:AH}{vs:List V}{i:Nat}{v:V},aT X.K c H ps vs->vs[i]?=some v->∃p,ps[i]?=some p/\aR X.K c H p v:=λ{ps vs i v} r e=>by
 have hi:i<ps.length:=by
  rw[r.length];exact(ca.mp e).1
 obtain⟨u,e1,e2⟩:=r.get (ay hi);rw[e]at e1;cases e1;exact⟨_,ay hi,e2⟩
theorem rT{es:Array DictEntry}{ep:Nat}(I:aH X AL σ H s)(h:H a=some (dO a es ep)):s.heap.get? a=some (oD es ep):=(I.hok a _ h).1
theorem L9{es:Array DictEntry}{ep:Nat}:(oD es ep).ExactDict:=⟨rfl,rfl,rfl⟩
theorem Vs(I:aH X AL σ H s){xs:List (gH n×Addr×Value)}{ep:Nat}(h:H a=some (dO a (xs.map (jR n)).toArray ep))(nd:(xs.map (·.1)).Nodup)(r:aT X.K c H (xs.map λx=>eD n x.1) (xs.map λx=>V.ref x.2.1)):
  s.heap.DictOfH (mF X.prog X.w n) a xs:=by
 refine⟨_,_,ep,rT I h,L9,rfl,?_,λx hx=>?_,nd⟩
 .have:jR n=entryOfKey (mF X.prog X.w n):=by
   funext x
   unfold jR entryOfKey;rw[Tj]
  simp[this]
 .obtain⟨i,hi,e⟩:=rf.mp hx
  obtain⟨p,e1,e2⟩:=wJ (i:=i) (v:=.ref x.2.1) r (by rw[bo,ay hi,e];rfl);rw[bo,ay hi,e]at e1;cases e1;exact Xd I e2
theorem Om{xs:List (gH n×Addr×Value)}(nd:(xs.map (·.1)).Nodup):
  (∃(i:Nat)(p:Addr×Value),xs[i]?=some (k,p)/\atKey xs k=some p)\/((∀i:Nat,(xs.map λx=>eD n x.1)[i]?≠some (eD n k))/\atKey xs k=none):=by
 by_cases h:∃(i:Nat)(p:Addr×Value),xs[i]?=some (k,p)
 .obtain⟨i,p,h⟩:=h
  exact .inl ⟨i,p,h,atKey_of_get nd h⟩
 .refine .inr ⟨λi e=>?_,atKey_none_of_get λj p e=>h ⟨j,p,e⟩⟩
  rw[bo]at e;cases z:xs[i]? with
  |none=>rw[z]at e;cases e
  |some x=>
   rw[z]at e;have e:eD n x.1=eD n k:=bn e;exact h ⟨i,x.2,by rw[z,<-qV e]⟩
def qH(K:ag)(H:Hp)(a b:Addr)(vs:List V)(Q:V->Prop)(N:Prop):Prop:=
 ∃(c:Addr->Prop)(n:Bool)(k:gH n)(ks:AH)(us:AD),oZ K c H a n ks us/\bI vs us/\aR K c H (eD n k) (.ref b)/\(∀(i:Nat)(v:V),ks[i]?=some (eD n k)->vs[i]?=some v->Q v)/\((∀i:Nat,ks[i]?≠some (eD n k))->N)
theorem Gr(I:aH X AL σ H s){vs:List V}{Q:V->Prop}{N:Prop}(g:qH X.K H a b vs Q N):∃(n:Bool)(k:gH n)(xs:List (gH n×Addr×Value)),(a==sysModules)=false/\s.heap.DictOfH (mF X.prog X.w n) a xs/\(mF X.prog X.w n).is s.heap k b/\
  ((∃p v,atKey xs k=some p/\bT v p.2/\Q v)\/(atKey xs k=none/\N)):=by
 obtain⟨c,n,k,ks,us,⟨xs,ep,e,z,l,nd,rfl,r,rfl⟩,rv,rk,q1,q2⟩:=g;refine⟨n,k,xs,z,Vs I e nd r,Xd I rk,?_⟩;rcases Om (k:=k) nd with⟨i,p,hx,ha⟩|⟨hn,ha⟩
 .have hi:=(ca.mp hx).1
  have hv:i<vs.length:=by
   rw[rv.length,am];exact hi
  obtain⟨u,e1,e2⟩:=rv.get (ay hv);rw[bo,hx]at e1;cases e1;exact .inl ⟨p,_,ha,e2,q1 i _ (by rw[bo,hx];rfl) (ay hv)⟩
 .exact .inr ⟨ha,q2 hn⟩
def abF(K:ag):V->List V->Hp->VK->Prop:=λx xs H Q=>∃a b z vs,x=.ref a/\xs=[.ref b,z]/\qH K H a b vs (λv=>Q v H) (Q z H)
theorem S7(hu:X.A.units+2<cLine):uW X "dict.get" (abF X.K):=by
 intro AL s σ H x xs v us Q I rx rv h;obtain⟨a,b,z,vs,rfl,rfl,g⟩:=h;cases rx;obtain⟨u1,u2,rfl,r1,r2⟩:=rv.two;cases r1;obtain⟨n,k,xs,hd,dd,hk,o⟩:=Gr I g;refine call_meetsIn k7 dd.typeIs PySem.F.entry_dict_get (PySem.F.args_dict_get_3 _ _ _) (meetsH_dict_get_default (mF X.prog X.w n) a b hd u2) ⟨Na hu n,k,xs,hk,dd,?_⟩;rcases o with⟨p,v,e,rv,q⟩|⟨e,q⟩
 .rw[e]
  exact⟨v,H,I.tok _,rv,q⟩
 .rw[e]
  exact⟨z,H,I.tok _,r2,q⟩
def ae8(K:ag):R2:=λx y H Q=>∃a b vs,x=.ref a/\y=.ref b/\qH K H a b vs (λv=>Q v H) False
theorem aaI(hu:X.A.units+2<cLine):mI X (ae8 X.K):=by
 intro value slice AL s σ H x y v u Q I rx ry h hs;obtain⟨a,b,vs,rfl,rfl,g⟩:=h;cases rx;cases ry;obtain⟨n,k,xs,hd,dd,hk,o⟩:=Gr I g;rcases o with⟨p,v,e,rv,q⟩|⟨e,q⟩
 .unfold subscriptTail
  refine ae ?_;rw[getitemInPython_of_ne dd.typeIs.not_modules];refine ae (wpAny_specialOf dd.typeIs PySem.F.slot_dict_getitem.lookup ?_);have fin:wpAny (model X.prog X.w) X.A (subscripted slice false (.ref a) (.ref b)) (λr s₃=>wpAny (model X.prog X.w) X.A (letTemporaryGo value (.ref a) r >>= λ_=>pure r) (EP X AL σ Q) X.xe s₃) X.xe s:=by
   rw[hs];exact wpAny_operating (wpAny_getItem_heap (Na hu n) hk dd e (ae (wpAny_letTemporaryGo (ak ⟨v,H,I.tok _,rv,q⟩))))
  first
   |exact ak (ae fin)
   |exact ae (ak (ae fin))
   |exact ae fin
 .exact q.elim
def pF(H:Hp)(a:Addr)(n:Bool)(ks:AH)(rs:List V)(us:AD):Prop:=
 ∃(xs:List (gH n×Addr×Value))(ep:Nat),H a=some (dO a (xs.map (jR n)).toArray ep)/\(a==sysModules)=false/\xs.length<=sizeLine/\(xs.map (·.1)).Nodup/\ks=xs.map (λx=>eD n x.1)/\rs=xs.map (λx=>V.ref x.2.1)/\us=xs.map (·.2.2)
theorem Ye{K:ag}(d:oZ K c H a n ks us):∃rs,pF H a n ks rs us/\aT K c H ks rs:=by
 obtain⟨xs,ep,e,z,l,nd,ek,r,eu⟩:=d;exact⟨_,⟨xs,ep,e,z,l,nd,ek,rfl,eu⟩,r⟩
theorem pF.at_{K:ag}{rs:List V}(d:pF H a n ks rs us)(r:aT K c H ks rs):oZ K c H a n ks us:=by
 obtain⟨xs,ep,e,z,l,nd,ek,er,eu⟩:=d;subst er;exact⟨xs,ep,e,z,l,nd,ek,r,eu⟩
def DPt(H:Hp)(a:Addr)(n:Bool)(ks:AH)(rs:List V)(us:AD)(k:gH n)(b:Addr)(u:Value)(H':Hp):Prop:=
 ∃es ep,H'=aY H a (dO a es ep)/\((∃i:Nat,ks[i]?=some (eD n k)/\pF H' a n ks rs (us.set i u))\/((∀i:Nat,ks[i]?≠some (eD n k))/\pF H' a n (ks++[eD n k]) (rs++[.ref b]) (us++[u])))
theorem Q6{xs:List (gH n×Addr×Value)}{i:Nat}{p:Addr×Value}{u:Value}(nd:(xs.map (·.1)).Nodup)(hx:xs[i]?=some (k,p)):(xs.map (putAt k u)).map (·.2.2)=(xs.map (·.2.2)).set i u:=by
 refine jt λj=>?_;have hi:=(ca.mp hx).1;rw[sy,am,bo,bo,bo]
 by_cases h:i=j
 .subst h
  rw[if_pos rfl,if_pos hi,hx];simp[putAt]
 .rw[if_neg h]
  cases z:xs[j]? with
  |none=>rfl
  |some x=>
   have:x.1≠k:=λe=>h (xz nd (p:=p) (q:=x.2) hx (by rw[z,<-e]));simp[putAt,this]
theorem U6{xs:List (gH n×Addr×Value)}{u:Value}:(xs.map (putAt k u)).map (λx=>V.ref x.2.1)=xs.map (λx=>V.ref x.2.1):=by
 rw[dh];refine dz λx _=>?_;simp only[k8,putAt];split<;>rfl
theorem O3{xs:List (gH n×Addr×Value)}{u:Value}:(xs.map (putAt k u)).map (λx=>eD n x.1)=xs.map (λx=>eD n x.1):=by
 rw[dh];refine dz λx _=>?_;simp only[k8,putAt];split<;>rfl
def aen(K:ag):yK:=λo i v H Q=>∃(a b:Addr)(c:Addr->Prop)(n:Bool)(k:gH n)(ks:AH)(rs:List V)(us:AD),o=.ref a/\i=.ref b/\pF H a n ks rs us/\aT K c H ks rs/\aR K c H (eD n k) (.ref b)/\us.length<sizeLine/\
 ∀u H',bT v u->DPt H a n ks rs us k b u H'->Q H'
theorem K7(hu:X.A.units+2<cLine):Eg X (aen X.K):=by
 intro AL s σ H o i v ov iv u Q I ro ri rv h;obtain⟨a,b,c,n,k,ks,rs,us,rfl,rfl,d,r,rk,hl,q⟩:=h;cases ro;cases ri;obtain⟨xs,ep,e,z,l,nd,rfl,rfl,rfl⟩:=d;have dd:=Vs I e nd r;rw[am]at hl;refine wpAny_setItem_heap (hsz:=l) (Na hu n) (Xd I rk) dd λh' dd' hs=>?_;obtain⟨ob,es,ep',ho,hex,hd,he,_,hnd⟩:=dd';have eob:ob=oD es ep':=by
  obtain⟨e1,e2,e3⟩:=hex;cases ob;simp only at e1 e2 e3 hd;subst e1 e2 e3 hd;rfl
 subst eob;have een:jR n=entryOfKey (mF X.prog X.w n):=by
  funext x
  unfold jR entryOfKey;rw[Tj]
 have ees:es=((storedH xs k b u).map (jR n)).toArray:=by
  rw[een,<-he]
 have I':aH X AL σ (aY H a (dO a es ep')) {s with heap:=h',toks:=s.toks+(mF X.prog X.w n).draws k}:=
  I.write (x:=a) (e:=a) (by rw[e];exact trivial) (.inl rfl) (λb' q' hb z'=>(hs.2 b' hb).trans z') ⟨_,ho⟩ ⟨ho,⟨_,ho⟩,λh1 h2 p kk=>kk _ p⟩
 refine⟨_,I',q u _ rv ⟨es,ep',rfl,?_⟩⟩;have hat:(aY H a (dO a es ep')) a=some (dO a ((storedH xs k b u).map (jR n)).toArray ep'):=by rw[fH,ees]
 rcases Om (k:=k) nd with⟨i,p,hx,ha⟩|⟨hn,ha⟩
 .refine .inl ⟨i,by rw[bo,hx];rfl,storedH xs k b u,ep',hat,z,?_,hnd,?_,?_,?_⟩
  .rw[td ha,am]
   exact l
  .rw[td ha,O3]
  .rw[td ha,U6]
  .rw[td ha,Q6 nd hx]
 .refine .inr ⟨hn,storedH xs k b u,ep',hat,z,?_,hnd,?_,?_,?_⟩
  .rw[tf ha,av]
   exact hl
  .rw[tf ha,ee]<;>rfl
  .rw[tf ha,ee]<;>rfl
  .rw[tf ha,ee]<;>rfl
def Sg(x:V)(H:Hp):Prop:=∃a es ep,x=.ref a/\H a=some (dO a es ep)
theorem ac1{o e:ah}{es:List ah}{to:TE}{t:TA}{name:Str}{apos cpos:ai}{id:String}{r:V->List V->Hp->VK->Prop}(slot:Slot "dict" name id)(hty:typeOf (.builtin id)=pure (.type "method_descriptor"))(hm:uW X id r)(ho:PE X o to)(ha:PA X (e::es) t)
  (hbase:attributeBase o name X.env (eval o X.env)=eval o X.env:=by rfl)
  (hfew:((backTo cpos (starEach (e::es) X.env)).all (λx=>!x.1)&&(backToKw cpos (keywordEach [] X.env)).all (λx=>x.1.isSome)
   &&decide ((e::es).length+([]:List jb).length+(if([]:List jb).isEmpty then 0 else 1)<30))=true:=by rfl)
  (hline:(apos.endLine==cpos.line)=true:=by rfl)(hs:starEach (e::es) X.env=(false,eval e X.env)::starEach es X.env:=by rfl)(hplain:(backTo cpos (starEach es X.env)).any (·.1)=false:=by rfl):
  PE X (.Call (.Attribute o name apos) (e::es) [] cpos) (λσ H Q=>to σ H λx H1=>Sg x H1/\t σ H1 λxs H2=>r x xs H2 Q):=by
 intro AL s σ H Q I h;refine zj hbase hfew hline rfl (bH (ho AL s σ H _ I h) λv s1 hq=>?_);rcases hq with⟨x,H1,I1,r1,⟨a,ds,ep,ex,hH⟩,q1⟩;subst ex;cases r1;have hg:=rT I1 hH;refine⟨"dict",id,k9,slot,hty,⟨_,hg,rfl⟩,λb eb=>?_,?_⟩
 .cases eb
  exact⟨_,hg,rfl⟩
 have hA:=ha cpos AL s1 σ H1 _ I1 q1;rw[hs]at hA⊢;refine vw (by show(false||(backTo cpos (starEach es X.env)).any (·.1))=false;rw[hplain]<;>rfl) (vz ?_);exact bH hA λus s2 ⟨vs,H2,I2,r2,q2⟩=>hm AL s2 σ H2 (.ref a) vs (.ref a) us Q I2 rfl r2 q2
theorem aaD(I:aH X AL σ H s):sysModules<s.heap.objs.size:=by
 have h:mainGlobals<s.heap.objs.size:=(I.mod.glob.keeps I.bk).lt;exact wo (by decide) h
theorem K0{pos:ai}:PE X (.Dict [] [] pos) (λ_ H Q=>∀p,H p=none->(p==sysModules)=false->Q (.ref p) (aY H p (dO p #[] 0))):=λAL s σ H Q I h=>
 wpAny_Dict_empty ⟨.ref s.heap.objs.size,_,I.laid (a:=s.heap.objs.size) (o:=dO s.heap.objs.size #[] 0) (t':=s.toks) (λ_ _ q=>ax _ q) (aj _) ⟨cw _ rfl,⟨_,cw _ rfl⟩,λh1 h2 p kk=>kk _ p⟩,rfl,
  h _ (I.hok.fresh (aj _)) (beq_eq_false_iff_ne.mpr (iz (cv (aaD I))))⟩
end
end L2
namespace L2.Pp
noncomputable section
open PySem PySem.Spec PyProof.Rows Bn
open Classical in
def jC{α:Type}(kvs:List (PV×α))(k:PV):Option Nat:=kvs.findIdx? λkv=>decide (kv.1=k)
def fL{α:Type}(kvs:List (PV×α))(k:PV):Option α:=match jC kvs k with
 |some i=>kvs[i]?.map (·.2)
 |none=>none
def hV{α:Type}(kvs:List (PV×α))(k:PV)(v:α):List (PV×α):=match jC kvs k with
 |some i=>kvs.set i (k,v)
 |none=>kvs++[(k,v)]
def yN(n:Bool)(k:PV):Prop:=∃k',k=eD n k'
theorem mT{α:Type}{kvs:List (PV×α)}{k:PV}{i:Nat}(h:jC kvs k=some i):∃v,kvs[i]?=some (k,v):=by
 unfold jC at h;obtain⟨hi,e,_⟩:=List.findIdx?_eq_some_iff_getElem.mp h;have e:kvs[i].1=k:=by simpa using e
 refine⟨kvs[i].2,?_⟩;rw[ay hi];congr 1;exact jg e rfl
theorem Fc{α:Type}{kvs:List (PV×α)}{k:PV}(h:jC kvs k=none)(i:Nat):(kvs.map (·.1))[i]?≠some k:=by
 unfold jC at h;rw[List.findIdx?_eq_none_iff]at h;intro e;rw[bo]at e;cases z:kvs[i]? with
 |none=>rw[z]at e;cases e
 |some x=>
  rw[z]at e;have:=h x (cx z);have e:x.1=k:=bn e;simp[e]at this
theorem Je{α:Type}{kvs:List (PV×α)}{k:PV}{i:Nat}(h:(kvs.map (·.1))[i]?=some k):∃j,jC kvs k=some j:=by
 cases z:jC kvs k with
 |some j=>exact⟨j,rfl⟩
 |none=>exact absurd h (Fc z i)
def jX(n:Bool):ME:=λ_ S=>.ok (.ref S.length) (S++[.dic n []])
open Classical in
def kI(d k:AV)(S:aG)(z:AJ):bQ AV:=match d,k with
 |.ref j,.pv k=>match S[j]? with
  |some (.dic n kvs)=>if yN n k then(match fL kvs k,z with
   |some v,_=>.ok (.pv v) S
   |none,some z=>.ok z S
   |none,none=>.fail)else .fail
  |_=>.fail
 |_,_=>.fail
def mG(md mk:ME):ME:=λρ S=>(md ρ S).bind λd S1=>(mk ρ S1).bind λk S2=>kI d k S2 none
def uL{α:Type}(d:AV)(S:aG)(f:bQ α):bQ α:=match d with
 |.ref j=>(match S[j]? with
  |some (.dic _ _)=>f
  |_=>.fail)
 |_=>.fail
def pY(md:ME)(ms:MA):ME:=λρ S=>(md ρ S).bind λd S1=>uL d S1 ((ms ρ S1).bind λks S2=>match ks with
 |[k,z]=>kI d k S2 (some z)
 |_=>.fail)
open Classical in
def lC(d k v:AV)(S:aG):bQ AV:=match d,k,v with
 |.ref j,.pv k,.pv v=>match S[j]? with
  |some (.dic n kvs)=>if yN n k/\kvs.length<16777216 then .ok (.pv .non) (S.set j (.dic n (hV kvs k v)))else .fail
  |_=>.fail
 |_,_,_=>.fail
def kJ(md mk mv:ME):MS:=λρ S=>cV.of (mv ρ S) λv S1=>cV.of (md ρ S1) λd S2=>cV.of (mk ρ S2) λk S3=>cV.of (lC d k v S3) λ_ S4=>.nx ρ S4
section
variable{K:ag}{cl:Str->Addr}{E:XK}{X:Cx}{p q:Ph}{H H':Hp}{S:aG}{a b e o i v:ah}{es:List ah}{m md mk mv:ME}{ms:MA}{pos:ai}
theorem aaP(n:Bool):aX K cl E X (.Dict [] [] pos) (jX n):=by
 intro hK;subst hK;refine PE.imp K0 ?_
 rintro σ H Q ⟨p,S,ρ,s,ev,h⟩ t ht hs
 have ob:oQ X.K ⟨p.f++[t],λa=>p.w a\/a=t,λa=>p.c a\/a=t⟩ (aY H t (dO t #[] 0)) t (.dic n []):=
  ⟨[],[],⟨[],0,fH,hs,fw _,pk,rfl,.nil,rfl⟩,.nil,.nil⟩
 obtain⟨st,sm⟩:=s.pushO ht (show Mb (dO t #[] 0) from trivial) ob;exact h _ _ (.ref t) st sm ⟨t,by show(p.f++[t])[S.length]?=some t;rw[<-s.len,de (aj _),gj];rfl,rfl⟩
theorem Zs(s:aV K p S H){j:Nat}{a:Addr}{n:Bool}{kvs:List (PV×PV)}{k:PV}{y:V}{Q:V->Prop}{N:Prop}(ej:p.f[j]?=some a)(z:S[j]?=some (.dic n kvs))(hk:yN n k)(ry:aR K p.c H k y)
  (q:∀v x,fL kvs k=some v->aR K p.c H v x->Q x)(qn:fL kvs k=none->N):∃b vs,y=.ref b/\qH K H a b vs Q N:=by
 obtain⟨k',rfl⟩:=hk;obtain⟨us,vs,d,rv,r⟩:=s.obj j a _ ej z;have ey:∃b,y=.ref b:=by
  cases n with
  |false=>
   have ry:aR K p.c H (.tup (kd PV.int k')) y:=ry;unfold aR at ry;obtain⟨b,_,e,_⟩:=ry;exact⟨b,e⟩
  |true=>
   have ry:aR K p.c H (.tup (kd (λr:AA=>PV.tup (r.map PV.int)) k')) y:=ry;unfold aR at ry;obtain⟨b,_,e,_⟩:=ry;exact⟨b,e⟩
 obtain⟨b,rfl⟩:=ey;have nd:∀i j:Nat,(kvs.map (·.1))[i]?=some (eD n k')->(kvs.map (·.1))[j]?=some (eD n k')->i=j:=by
  obtain⟨xs,ep,_,_,_,nd,ek,_⟩:=d;intro i j h1 h2;rw[ek,bo]at h1 h2;cases z1:xs[i]? with
  |none=>rw[z1]at h1;cases h1
  |some x=>
   cases z2:xs[j]? with
   |none=>rw[z2]at h2;cases h2
   |some y=>
    rw[z1]at h1;rw[z2]at h2;have e1:=qV (bn h1);have e2:=qV (bn h2);have e1:x.1=k':=e1;have e2:y.1=k':=e2;exact xz nd (p:=x.2) (q:=y.2) (k:=k') (by rw[z1,<-e1]) (by rw[z2,<-e2])
 refine⟨b,vs,rfl,p.c,n,k',_,us,d,rv,ry,λi x h1 h2=>?_,λhn=>qn ?_⟩
 .obtain⟨j',hj⟩:=Je h1
  obtain⟨v,hv⟩:=mT hj;have ei:j'=i:=nd j' i (by rw[bo,hv];rfl) h1;subst ei;obtain⟨x',e1,e2⟩:=r.get (i:=j') (p:=v) (by rw[bo,hv];rfl);rw[h2]at e1;cases e1;exact q v x (by unfold fL;rw[hj];simp[hv]) e2
 .cases z:jC kvs (eD n k')with
  |none=>unfold fL;rw[z]
  |some i=>
   obtain⟨v,hv⟩:=mT z;exact absurd (by rw[bo,hv];rfl) (hn i)
theorem Vk{d k:AV}{z:AJ}{x y:V}{Q:VK}(s:aV K p S H)(rd:bY K p H d x)(rk:bY K p H k y)(h:bU K cl (bY K) p H (kI d k S z) Q E):
  ∃a b vs,x=.ref a/\y=.ref b/\qH K H a b vs (λv=>Q v H) (∃w,z=some w/\∀u,bY K p H w u->Q u H):=by
 cases d with
 |pv _=>cases k<;>exact h.elim
 |ref j=>
  cases k with
  |ref _=>exact h.elim
  |pv k=>
   obtain⟨a,ej,rfl⟩:=rd;unfold kI at h;dsimp only at h;split at h
   .rename_i n kvs hS
    split at h
    .rename_i hk
     obtain⟨b,vs,e,g⟩:=Zs (y:=y) (Q:=λv=>Q v H) (N:=∃w,z=some w/\∀u,bY K p H w u->Q u H) s ej hS hk rk (λv x e r=>by
      rw[e]at h;exact bU.ret (R:=bY K) (a:=.pv v) h s r) (λe=>by
      rw[e]at h;cases z with
      |none=>exact h.elim
      |some w=>exact⟨w,rfl,λu r=>bU.ret (R:=bY K) h s r⟩)
     exact⟨a,b,vs,rfl,e,g⟩
    .exact h.elim
   .exact h.elim
theorem Nr{a b:Addr}{vs:List V}{Q Q':V->Prop}{N N':Prop}(g:qH K H a b vs Q N)(f:∀v,Q v->Q' v)(f':N->N'):qH K H a b vs Q' N':=by
 obtain⟨c,n,k,ks,us,d,rv,rk,q1,q2⟩:=g;exact⟨c,n,k,ks,us,d,rv,rk,λi v h1 h2=>f v (q1 i v h1 h2),λh=>f' (q2 h)⟩
theorem acb(hu:X.A.units+8<cLine)(ha:aX K cl E X a md)(hb:aX K cl E X b mk)(hs:wS b:=by intro _ _;rfl):aX K cl E X (.Subscript a b pos) (mG md mk):=by
 intro hK;subst hK;refine PE.imp (Wf (aaI (by omega)) (ha rfl) (hb rfl) hs) ?_
 rintro σ H Q ⟨p,S,ρ,s,ev,h⟩
 refine cR s ev h λq H1 d x S1 st s1 e1 r1 h1=>cR s1 e1 h1 λq2 H2 k y S2 st2 s2 e2 r2 h2=>?_;obtain⟨a,b,vs,ex,ey,g⟩:=Vk s2 (st2.repA r1) r2 h2;exact⟨a,b,vs,ex,ey,Nr g (λ_ h=>h) λ⟨w,e,_⟩=>nomatch e⟩
theorem C9{α β:Type}{R:Ph->Hp->α->β->Prop}{d:AV}{x:V}{f:bQ α}{Q:β->Hp->Prop}(s:aV K p S H)(rd:bY K p H d x)(h:bU K cl R p H (uL d S f) Q E):Sg x H/\bU K cl R p H f Q E:=by
 cases d with
 |pv _=>exact h.elim
 |ref j=>
  obtain⟨a,ej,rfl⟩:=rd;unfold uL at h;dsimp only at h;split at h
  .rename_i n kvs hS
   obtain⟨us,vs,⟨xs,ep,e,_⟩,_⟩:=s.obj j a _ ej hS;exact⟨⟨a,_,_,rfl,e⟩,h⟩
  .exact h.elim
theorem aan{apos cpos:ai}{f:ah}(hu:X.A.units+8<cLine)(ho:aX K cl E X o md)(ha:eW K cl E X [e,f] ms)(hbase:attributeBase o "get" X.env (eval o X.env)=eval o X.env:=by rfl)
  (hfew:((backTo cpos (starEach [e,f] X.env)).all (λx=>!x.1)&&(backToKw cpos (keywordEach [] X.env)).all (λx=>x.1.isSome)&&decide (([e,f]:List ah).length+([]:List jb).length+(if([]:List jb).isEmpty then 0 else 1)<30))=true:=by rfl)
  (hline:(apos.endLine==cpos.line)=true:=by rfl)(hs:starEach [e,f] X.env=(false,eval e X.env)::starEach [f] X.env:=by rfl)(hplain:(backTo cpos (starEach [f] X.env)).any (·.1)=false:=by rfl):aX K cl E X (.Call (.Attribute o "get" apos) [e,f] [] cpos) (pY md ms):=by
 intro hK;subst hK;refine PE.imp (ac1 k7 PySem.F.type_dict_get (S7 (by omega)) (ho rfl) (ha rfl) hbase hfew hline hs hplain) ?_
 rintro σ H Q ⟨p,S,ρ,s,ev,h⟩
 refine cR s ev h λq H1 d x S1 st s1 e1 r1 h1=>?_;obtain⟨hd,h1⟩:=C9 s1 r1 h1;refine⟨hd,cR s1 e1 h1 λq2 H2 ks ys S2 st2 s2 e2 r2 h2=>?_⟩;cases r2 with
 |nil=>exact h2.elim
 |cons r3 rr=>
  cases rr with
  |nil=>exact h2.elim
  |cons r4 rs=>
   cases rs with
   |nil=>
    obtain⟨a,b,vs,ex,ey,g⟩:=Vk s2 (st2.repA r1) r3 h2;exact⟨a,b,_,vs,ex,by rw[ey],Nr g (λ_ h=>h) λ⟨w',e,q'⟩=>by cases e;exact q' _ r4⟩
   |cons _ _=>exact h2.elim
theorem aV.writeO(s:aV K p S H){D:Addr}{k:Nat}{o:SO}{ho:HO}(h:p.f[k]?=some D)(hk:k<S.length)(mo:Mb ho)(ob:bP p H p (aY H D ho)->oQ K p (aY H D ho) D o):bP p H p (aY H D ho)/\aV K p (S.set k o) (aY H D ho):=by
 have w:p.w D:=s.sub D (cx h);have st:bP p H p (aY H D ho):=⟨s.wc,s.mu,jr,λ_ h=>h,λ_ h=>h,λ_ h g=>absurd h g,λ_ h g=>absurd h g,λ_ h g=>absurd h g,λa u e nw=>by
  rw[bS (λz:a=D=>nw (by rw[z];exact w))];exact e⟩
 refine⟨st,s.nd,by rw[fe];exact s.len,s.sub,s.wc,λa x=>?_,λj a u e1 e2=>?_⟩
 .by_cases z:a=D
  .rw[z,fH]
   exact⟨ho,rfl,mo⟩
  .rw[bS z]
   exact s.mu a x
 .by_cases hj:k=j
  .subst hj
   rw[dq hk]at e2;cases e2;rw[h]at e1;cases e1;exact ob st
  .rw[dr hj]at e2
   have ne:a≠D:=λz=>hj (qT s.nd h (by rw[z]at e1;exact e1));exact(s.obj j a u e1 e2).mono (λvs e=>by rw[bS ne];exact e) (λb w f=>⟨⟨w,f⟩,λvs e=>by rw[bS (λz:b=D=>f (z▸cx h))];exact e⟩) λ_ _ r=>st.reps r
theorem bI.setI{vs:List V}{us:AD}{x:V}{u:Value}(r:bI vs us)(rx:bT x u):∀i,bI (vs.set i x) (us.set i u):=λi=>r.set rx i
theorem aby{tpos:ai}(hu:X.A.units+8<cLine)(hv:aX K cl E X v mv)(ho:aX K cl E X o md)(hi:aX K cl E X i mk)
  (ha:∀v,assign (.Subscript o i tpos) X.env v=(do
   let ov <-holding [v] (eval o X.env)
   let iv <-holding [v,ov] (eval i X.env)
   standAt tpos
   holding [v,ov,iv] (setItem ov iv v)
   release [v,ov,iv] []):=by intro _;rfl)
  (hs:swapsWithSole [.Subscript o i tpos] v pos.line X.env=pure false:=by rfl)(hw:swappedStores [.Subscript o i tpos] v X.env=pure none:=by rfl)
  (h1:(assignEach [.Subscript o i tpos] X.env).map (·.2)=[assign (.Subscript o i tpos) X.env]:=by rfl):eH K cl E X (.Assign [.Subscript o i tpos] v pos) (kJ md mk mv):=by
 intro hK;subst hK;refine PS.imp (wY (hv rfl) (Zd (ho rfl) (hi rfl) (K7 (by omega)) ha) hs hw h1) ?_
 rintro D σ H ⟨p,S,ρ,s,ev,h⟩
 refine iT s ev h λq H1 v x S1 st s1 e1 r1 h1=>?_;refine iT s1 e1 h1 λq2 H2 d y S2 st2 s2 e2 r2 h2=>?_;refine iT s2 e2 h2 λq3 H3 k z S3 eG s3 e3 r3 h3=>?_;have r2:=eG.repA r2;have r1:=eG.repA (st2.repA r1);cases d with
 |pv _=>cases k<;>cases v<;>exact h3.elim
 |ref j=>
  cases k with
  |ref _=>cases v<;>exact h3.elim
  |pv k=>
   cases v with
   |ref _=>exact h3.elim
   |pv v=>
    obtain⟨a,ej,rfl⟩:=r2;have h3:eN X.K cl q3 H3 (cV.of (lC (.ref j) (.pv k) (.pv v) S3) λ_ S4=>.nx ρ S4) D E:=h3;unfold lC at h3;dsimp only at h3;cases hS:S3[j]? with
    |none=>simp only[hS]at h3;exact h3.elim
    |some o=>
     cases o with
     |lst _=>simp only[hS]at h3;exact h3.elim
     |lol _=>simp only[hS]at h3;exact h3.elim
     |dol _ _=>simp only[hS]at h3;exact h3.elim
     |dic n kvs=>
      simp only[hS]at h3
      by_cases hc:yN n k/\kvs.length<16777216
      .rw[if_pos hc]at h3
       obtain⟨⟨k',rfl⟩,hl⟩:=hc;obtain⟨us,vs,d,rv,r⟩:=s3.obj j a _ ej hS;have rk:aR X.K q3.c H3 (eD n k') z:=r3;have ez:∃b,z=.ref b:=by
        obtain⟨b,_,e,_⟩:=Zs (Q:=λ_=>True) (N:=True) s3 ej hS ⟨k',rfl⟩ rk (λ_ _ _ _=>trivial) λ_=>trivial;exact⟨b,e⟩
       obtain⟨b,rfl⟩:=ez;obtain⟨rs,dw,rr⟩:=Ye d;have lu:us.length=kvs.length:=by
        rw[<-rv.length,<-r.length,am]
       refine⟨a,b,q3.c,n,k',_,rs,us,rfl,rfl,dw,rr,rk,by rw[lu,jG];exact hl,λu H' ru hp=>?_⟩;obtain⟨es,ep,rfl,hp⟩:=hp;have hj:=(ca.mp hS).1;obtain⟨st4,sm4⟩:=s3.writeO (o:=.dic n (hV kvs (eD n k') v)) ej hj (show Mb (dO a es ep) from trivial) λst4=>by
        rcases hp with⟨i,hi,dw'⟩|⟨hn,dw'⟩
        .obtain⟨i',hi'⟩:=Je hi
         obtain⟨w,hw'⟩:=mT hi';have ei:i'=i:=by
          obtain⟨xs,_,_,_,_,nd,ek,_⟩:=dw;have g1:(kvs.map (·.1))[i']?=some (eD n k'):=by rw[bo,hw'];rfl
          rw[ek,bo]at g1 hi;cases z1:xs[i']? with
          |none=>rw[z1]at g1;cases g1
          |some x1=>
           cases z2:xs[i]? with
           |none=>rw[z2]at hi;cases hi
           |some x2=>
            rw[z1]at g1;rw[z2]at hi;have e1:x1.1=k':=qV (bn g1);have e2:x2.1=k':=qV (bn hi);exact xz nd (p:=x1.2) (q:=x2.2) (k:=k') (by rw[z1,<-e1]) (by rw[z2,<-e2])
         subst ei;have ek:hV kvs (eD n k') v=kvs.set i' (eD n k',v):=by unfold hV;rw[hi']
         refine⟨us.set i' u,vs.set i' x,?_,bI.setI rv ru i',?_⟩
         .rw[ek]
          have e1:(kvs.set i' (eD n k',v)).map (·.1)=kvs.map (·.1):=by
           rw[tj];refine jt λt=>?_;rw[sy];split
           .rename_i ht
            subst ht;rw[if_pos (by rw[am];exact(ca.mp hw').1),bo,hw'];rfl
           .rfl
          rw[e1];exact dw'.at_ (st4.reps rr)
         .rw[ek,tj]
          exact aT.set (st4.rep r1) i' (st4.reps r)
        .have ei:jC kvs (eD n k')=none:=by
          cases z0:jC kvs (eD n k')with
          |none=>rfl
          |some i=>
           obtain⟨w,hw'⟩:=mT z0;exact absurd (by rw[bo,hw'];rfl) (hn i)
         have ek:hV kvs (eD n k') v=kvs++[(eD n k',v)]:=by unfold hV;rw[ei]
         refine⟨us++[u],vs++[x],?_,bI.append rv (.cons ru .nil),?_⟩
         .rw[ek,ee]
          exact dw'.at_ ((st4.reps rr).append (.cons (st4.rep rk) .nil))
         .rw[ek,ee]
          exact(st4.reps r).append (.cons (st4.rep r1) .nil)
       exact h3 _ _ _ st4 sm4 (st4.repE e3)
      .rw[if_neg hc]at h3
       exact h3.elim
end
end
end L2.Pp
namespace L2
open PySem PySem.Spec PyProof.Rows Bn L2.Pp
section
variable{prog:Program}{w:al}{A:ao}{E:Value->aa->Prop}{s:aa}{it d i ep:Nat}{es:Array DictEntry}
theorem Rq{h:i<es.size}:(if(i:Int)<0 then none else es[(i:Int).toNat]?)=some es[i]:=by
 rw[if_neg (by omega),ky,l0 h]
theorem Hr{h:¬i<es.size}:(if(i:Int)<0 then none else es[(i:Int).toNat]?)=none:=by
 rw[if_neg (by omega),ky,Array.getElem?_eq_none (by omega)]
theorem Rt{Q:AE->aa->Prop}{h1:Heap}(hh:A.handled=none)(sb:ni it s.heap h1)(q:∀h',ni it s.heap h'->Q none {s with heap:=h'}):
  wpAny (model prog w) A.in1 (newExc (.type "StopIteration") [] >>= raiseNew (α:=oa)) (λ_ _=>False) (λe s'=>wpAny (model prog w) A (isInstance e (.type "StopIteration")) (λb s2=>b=true/\Q none s2) E s') {s with heap:=h1}:=by
 refine ae ?_;simp only[newExc,newTuple];refine ae (ib ?_ (by size_fits));refine ae (m:=firstArgMember _ _) (rm (a:=cu) (by first |rfl |(simp only[firstArgMember];rfl)) ?_)
 refine ib ?_ (by size_fits);simp only[raiseNew];refine ae (wpAny_handled ?_);rw[show A.in1.handled=none from hh];refine ae (ak (wpAny_throw ?_));exact xa (T:="StopIteration") (b:=true) ⟨_,cw _ rfl,rfl⟩ isSubtype_stop ⟨rfl,q _ ((sb.push _).push _)⟩
theorem Mr{Q:oa->aa->Prop}{E':Value->aa->Prop}(hit:s.heap.IsKeyIter it d i es.size ep)(hd:s.heap.get? d=some (oD es ep))
  (q1:∀h:i<es.size,∀h',h'.IsKeyIter it d (i+1) es.size ep->ia it s.heap h'->Q (.done (.ret es[i].key)) {s with heap:=h'})
  (q2:¬i<es.size->∀h',ia it s.heap h'->wpAny (model prog w) A.in1 (newExc (.type "StopIteration") [] >>= raiseNew (α:=oa)) Q E' {s with heap:=h'}):
  wpAny (model prog w) A.in1 (Builtin.«dict_keyiterator.__next__» ⟨[.ref it],[]⟩) Q E' s:=by
 obtain⟨o,ho,hc,hf⟩:=id hit;have nm:∀{s':aa}{R:Nat->aa->Prop},s'.TypeIs (.ref it) "dict_keyiterator"->R 0 s'->wpAny (model prog w) A.in1 (do let t <-typeNameOfWhole (.ref it);pure (if pr t then 2 else 0)) R E' s':=λhT r=>
  ae (wpAny_typeNameOfWhole_keyiter hT (ak (by rw[show pr "dict_keyiterator"=false by decide];exact r)))
 refine ae (ak (ae (ae (nm hit.typeIs (ae (wpAny_fieldsOf ho hf ?_))))));show wpAny _ _ (if(dg d==cu)=true then _ else _) _ _ s;rw[if_neg (show ¬((dg d==cu)=true) from ie)];refine ae (ak (ae (tm hd rfl ?_)));rw[if_neg (by simp)];refine ae (ak (ae (tq hd rfl ?_)));rw[if_neg (by simp)];refine ak ?_
 by_cases h:i<es.size
 .simp only[Rq (h:=h)]
  refine ae (nm hit.typeIs (ae (l7 hit.typeIs ?_)));show wpAny _ _ (setField (.ref it) 1 (rawInt ((i:Int)+1)) >>= _) _ _ s;refine ae (la ho hf (by simp) ?_);have hit':(s.heap.update it (tw (·.setIfInBounds 1 (rawInt ((i:Int)+1))))).IsKeyIter it d (i+1) es.size ep:=
   ⟨_,qq _ ho (wu (nh hf _)),(wv ..).trans hc,by rw[nh hf];simp[rawInt]⟩
  have tt:l8 {s with heap:=s.heap.update it (tw (·.setIfInBounds 1 (rawInt ((i:Int)+1))))} (.ref it) "dict_keyiterator":=hit'.typeIs;exact ae (jw (ae (l7 tt (ak (ak (q1 h _ hit' (ng ..)))))))
 .simp only[Hr (h:=h)]
  refine ae (nm hit.typeIs ?_);exact ae (la ho hf (by simp) (q2 h _ (ng ..)))
theorem Mp{Q:oa->aa->Prop}{E':Value->aa->Prop}(hit:s.heap.IsValIter it d i es.size ep)(hd:s.heap.get? d=some (oD es ep))
  (q1:∀h:i<es.size,∀h',h'.IsValIter it d (i+1) es.size ep->ia it s.heap h'->Q (.done (.ret es[i].val)) {s with heap:=h'})
  (q2:¬i<es.size->∀h',ia it s.heap h'->wpAny (model prog w) A.in1 (newExc (.type "StopIteration") [] >>= raiseNew (α:=oa)) Q E' {s with heap:=h'}):
  wpAny (model prog w) A.in1 (Builtin.«dict_valueiterator.__next__» ⟨[.ref it],[]⟩) Q E' s:=by
 obtain⟨o,ho,hc,hf⟩:=id hit;have nm:∀{s':aa}{R:Nat->aa->Prop},s'.TypeIs (.ref it) "dict_valueiterator"->R 0 s'->wpAny (model prog w) A.in1 (do let t <-typeNameOfWhole (.ref it);pure (if pr t then 2 else 0)) R E' s':=λhT r=>
  ae (wpAny_typeNameOfWhole_valiter hT (ak (by rw[show pr "dict_valueiterator"=false by decide];exact r)))
 refine ae (ak (ae (ae (nm hit.typeIs (ae (wpAny_fieldsOf ho hf ?_))))));show wpAny _ _ (if(dg d==cu)=true then _ else _) _ _ s;rw[if_neg (show ¬((dg d==cu)=true) from ie)];refine ae (ak (ae (tm hd rfl ?_)));rw[if_neg (by simp)];refine ae (ak (ae (tq hd rfl ?_)));rw[if_neg (by simp)];refine ak ?_
 by_cases h:i<es.size
 .simp only[Rq (h:=h)]
  refine ae (nm hit.typeIs (ae (ya hit.typeIs ?_)));show wpAny _ _ (setField (.ref it) 1 (rawInt ((i:Int)+1)) >>= _) _ _ s;refine ae (la ho hf (by simp) ?_);have hit':(s.heap.update it (tw (·.setIfInBounds 1 (rawInt ((i:Int)+1))))).IsValIter it d (i+1) es.size ep:=
   ⟨_,qq _ ho (wu (nh hf _)),(wv ..).trans hc,by rw[nh hf];simp[rawInt]⟩
  have tt:l8 {s with heap:=s.heap.update it (tw (·.setIfInBounds 1 (rawInt ((i:Int)+1))))} (.ref it) "dict_valueiterator":=hit'.typeIs;exact ae (jw (ae (ya tt (ae (ya tt (ak (ak (q1 h _ hit' (ng ..)))))))))
 .simp only[Hr (h:=h)]
  refine ae (nm hit.typeIs ?_);exact ae (la ho hf (by simp) (q2 h _ (ng ..)))
theorem abe{Q:AE->aa->Prop}(hit:s.heap.IsKeyIter it d i es.size ep)(hd:s.heap.get? d=some (oD es ep))(h:i<es.size)
  (q:∀h',h'.IsKeyIter it d (i+1) es.size ep->ia it s.heap h'->Q (some es[i].key) {s with heap:=h'}):wpAny (model prog w) A (pyNext (.ref it)) Q E s:=by
 unfold pyNext;exact ae (nr (jy (name:=dl "__next__") hit.typeIs pz (jc pz hit.typeIs l9
  (Mr hit hd (λ_ h' a b=>⟨_,rfl,ak (q h' a b)⟩) λn=>absurd h n) (m9 _))))
theorem abO{Q:AE->aa->Prop}(hh:A.handled=none)(hit:s.heap.IsKeyIter it d i es.size ep)(hd:s.heap.get? d=some (oD es ep))(h:¬i<es.size)
  (q:∀h',ni it s.heap h'->Q none {s with heap:=h'}):wpAny (model prog w) A (pyNext (.ref it)) Q E s:=by
 unfold pyNext;exact ae (nr (jy (name:=dl "__next__") hit.typeIs pz (jc pz hit.typeIs l9
  (Mr hit hd (λn=>absurd n h) λ_ h' sb=>fj (Rt (E:=E) hh sb.extBut q) (λ_ _ z=>z.elim) λe s2 z=>ae (bH z λb s3 ⟨hb,q3⟩=>by subst hb;exact ak q3)) (m9 _))))
theorem P6(hh:A.handled=none)(I d:Addr)(hne:d≠I)(es:Array DictEntry)(ep:Nat):
  Walks prog w A I [I,d] [I] es.size (λi v=>∃h:i<es.size,v=es[i].key) (λi h=>h.IsKeyIter I d i es.size ep/\h.get? d=some (oD es ep)) where
 sub:=λb hb=>by simp at hb;simp[hb]
 frame:=λ_ _ _ st hk=>⟨st.1.at λo e=>hk I (by simp) o e,hk d (by simp) _ st.2⟩
 item:=λi s Q E hi st hQ=>abe st.1 st.2 hi λh' hit' sb=>hQ _ h' s.toks ⟨hi,rfl⟩ ⟨hit',(sb.2 d hne).trans st.2⟩ λb o hb e=>sb.extBut b o (λz=>hb (by simp[z])) e
 done:=λs Q E st hQ=>abO hh st.1 st.2 (iw _) λh' eb=>hQ h' s.toks λb o hb e=>eb b o (λz=>hb (by simp[z])) e
 self:=λ_ _ _ _ st hQ=>wpAny_pyIter_keyiter st.1 hQ
theorem Z9{Q:AE->aa->Prop}(hit:s.heap.IsValIter it d i es.size ep)(hd:s.heap.get? d=some (oD es ep))(h:i<es.size)
  (q:∀h',h'.IsValIter it d (i+1) es.size ep->ia it s.heap h'->Q (some es[i].val) {s with heap:=h'}):wpAny (model prog w) A (pyNext (.ref it)) Q E s:=by
 unfold pyNext;exact ae (nr (jy (name:=dl "__next__") hit.typeIs qa (jc qa hit.typeIs o0
  (Mp hit hd (λ_ h' a b=>⟨_,rfl,ak (q h' a b)⟩) λn=>absurd h n) (o4 _))))
theorem acf{Q:AE->aa->Prop}(hh:A.handled=none)(hit:s.heap.IsValIter it d i es.size ep)(hd:s.heap.get? d=some (oD es ep))(h:¬i<es.size)
  (q:∀h',ni it s.heap h'->Q none {s with heap:=h'}):wpAny (model prog w) A (pyNext (.ref it)) Q E s:=by
 unfold pyNext;exact ae (nr (jy (name:=dl "__next__") hit.typeIs qa (jc qa hit.typeIs o0
  (Mp hit hd (λn=>absurd n h) λ_ h' sb=>fj (Rt (E:=E) hh sb.extBut q) (λ_ _ z=>z.elim) λe s2 z=>ae (bH z λb s3 ⟨hb,q3⟩=>by subst hb;exact ak q3)) (o4 _))))
theorem Y5(hh:A.handled=none)(I d:Addr)(hne:d≠I)(es:Array DictEntry)(ep:Nat):
  Walks prog w A I [I,d] [I] es.size (λi v=>∃h:i<es.size,v=es[i].val) (λi h=>h.IsValIter I d i es.size ep/\h.get? d=some (oD es ep)) where
 sub:=λb hb=>by simp at hb;simp[hb]
 frame:=λ_ _ _ st hk=>⟨st.1.at λo e=>hk I (by simp) o e,hk d (by simp) _ st.2⟩
 item:=λi s Q E hi st hQ=>Z9 st.1 st.2 hi λh' hit' sb=>hQ _ h' s.toks ⟨hi,rfl⟩ ⟨hit',(sb.2 d hne).trans st.2⟩ λb o hb e=>sb.extBut b o (λz=>hb (by simp[z])) e
 done:=λs Q E st hQ=>acf hh st.1 st.2 (iw _) λh' eb=>hQ h' s.toks λb o hb e=>eb b o (λz=>hb (by simp[z])) e
 self:=λ_ _ _ _ st hQ=>wpAny_pyIter_valiter st.1 hQ
theorem acs{Q:Value->aa->Prop}(ns:(d==sysModules)=false)(hd:s.heap.get? d=some (oD es ep))
  (q:Q (.ref s.heap.objs.size) {s with heap:=s.heap.push {cls:=.type "dict_keyiterator",data:=.fields #[.ref d,.int 0 0,.int es.size 0,.int ep 0]}}):wpAny (model prog w) A (pyIter (.ref d)) Q E s:=by
 have hT:s.TypeIs (.ref d) "dict":=⟨_,hd,rfl⟩;refine wpAny_pyIter_slot hT o5 (jc o5 hT F.entry_dict_iter ?_ (F.args_dict_iter_1 _));refine ae (ae (o6 hT (ak ?_)));show wpAny _ _ (tx d >>= _) _ _ s;unfold tx;rw[if_neg (by rw[ns];exact ie)];refine ae (ak (ae (tm hd rfl (ae (tq hd rfl ?_)))));exact ae (ib (ak ⟨_,rfl,"dict_keyiterator",_,⟨_,cw _ rfl,rfl⟩,pz.lookup,q⟩))
theorem ad1(ns:(d==sysModules)=false):PySem.W.KdlSrc prog w "dict" d d es.size (λi v=>∃h:i<es.size,v=es[i].key) (λh=>h.get? d=some (oD es ep)) where
 type:=λ_ hm=>⟨_,hm,rfl⟩
 there:=λ_ hm=>⟨bi hm,bi hm⟩
 keep:=λ_ _ hm hk=>hk d (.inl rfl) _ hm
 notList:=by decide
 notTuple:=by decide
 hint:=λ_ _ _ _ hm hq=>PySem.W.kdl_hint_dict ⟨_,hm,rfl⟩ hq
 iter:=λ_ _ hh hm=>⟨_,_,(λ_ _ hq=>acs ns hm hq),P6 hh _ d (cv (bi hm)) es ep,⟨⟨_,cw _ rfl,rfl,rfl⟩,ax _ hm⟩⟩
end
section
variable{X:Cx}
theorem Zx(hc:X.calm=true):iX X (.type "list") (λxs H Q=>∃(a:Addr)(n:Bool)(ks:AH)(rs:List V)(us:AD),xs=[.ref a]/\pF H a n ks rs us/\∀l,H l=none->Q (.ref l) (aY H l (.lst rs))):=by
 intro AL s σ H xs us Q I r h;obtain⟨a,n,ks,rs,us',rfl,d,q⟩:=h;obtain⟨u,rfl,ru⟩:=kK r;cases ru;obtain⟨ys,ep,e,z,l,nd,rfl,rfl,rfl⟩:=d;refine PySem.W.kdl_call (ad1 z) (I.ok.hd hc) (rT I e) (by simpa using l) λh' tk acc c hk hl hi=>?_;have ev:bI (ys.map λx=>V.ref x.2.1) acc.toList:=by
  have e1:acc.toList=ys.map λx=>dg x.2.1:=by
   refine jt λj=>?_;have hz:acc.size=ys.length:=by simpa using hi.1
   by_cases hj:j<ys.length
   .obtain⟨_,ej⟩:=hi.2 j acc[j] (by simp[hz,hj])
    rw[bo,ay hj,zk,l0 (by omega),ej];simp[jR]
   .rw[si (by simp;omega),si (by simp;omega)]
  rw[e1];clear e1 hi e q l nd
  induction ys with
  |nil=>exact .nil
  |cons y ys ih=>exact .cons rfl ih
 refine⟨.ref s.heap.objs.size,_,I.laid (t':=tk) (o:=.lst (ys.map λx=>V.ref x.2.1)) hk (aj _) ⟨by rw[am];exact l,acc.toList,c,ev,hl⟩,rfl,q _ (I.hok.fresh (aj _))⟩
def Nh(v a:Addr):HO:=.ext λh=>h.get? v=some {cls:=.type "dict_values",data:=.fields #[.ref a]}
theorem G3:uW X "dict.values" (λx xs H Q=>∃a es ep,x=.ref a/\xs=[]/\(a==sysModules)=false/\H a=some (dO a es ep)/\∀v,H v=none->Q (.ref v) (aY H v (Nh v a))):=by
 intro AL s σ H x xs v us Q I rx rv h;obtain⟨a,es,ep,rfl,rfl,ns,hH,q⟩:=h;cases rx;cases rv;have hd:=rT I hH;have hT:s.TypeIs (.ref a) "dict":=⟨_,hd,rfl⟩;refine jc o7 hT F.entry_dict_values ?_ (F.args_dict_values_1 _);refine ae (ae (o6 hT (ak ?_)));show wpAny _ _ (tx a >>= _) _ _ s;unfold tx;rw[if_neg (by rw[ns];exact ie)];refine ae (ak (ae (ib (ak ⟨_,rfl,?_⟩))));exact⟨.ref s.heap.objs.size,_,I.laid (t':=s.toks) (o:=Nh s.heap.objs.size a) (λ_ _ e=>ax _ e) (aj _) ⟨cw _ rfl,⟨_,cw _ rfl⟩,λh1 h2 p kk=>kk _ p⟩,rfl,q _ (I.hok.fresh (aj _))⟩
end
section
variable{prog:Program}{w:al}{A:ao}{E:Value->aa->Prop}{s:aa}{v d ep:Nat}{es:Array DictEntry}
theorem acJ{Q:Value->aa->Prop}(hv:s.heap.get? v=some {cls:=.type "dict_values",data:=.fields #[.ref d]})(hd:s.heap.get? d=some (oD es ep))
  (q:Q (.ref s.heap.objs.size) {s with heap:=s.heap.push {cls:=.type "dict_valueiterator",data:=.fields #[.ref d,.int 0 0,.int es.size 0,.int ep 0]}}):wpAny (model prog w) A (pyIter (.ref v)) Q E s:=by
 have hT:s.TypeIs (.ref v) "dict_values":=⟨_,hv,rfl⟩;refine wpAny_pyIter_slot hT o8 (jc o8 hT F.entry_dict_values_iter ?_ (F.args_dict_values_iter_1 _));unfold Builtin.«dict_values.__iter__» u9 v7;refine ae (ak (ae (ae (gn hv rfl (x:=.ref d) rfl (ak (ae ?_))))));refine ae (tm hd rfl (ae (tq hd rfl ?_)));simp only[show pr "dict_valueiterator"=false by decide,i9,if_false];exact ib (ak ⟨_,rfl,"dict_valueiterator",_,⟨_,cw _ rfl,rfl⟩,qa.lookup,q⟩)
end
section
variable{X:Cx}
theorem Oz(hc:X.calm=true):iX X (.builtin "any") (λxs H Q=>∃(v a:Addr)(n:Bool)(ks:AH)(rs:List V)(us:AD)(is:AA),xs=[.ref v]/\H v=some (Nh v a)/\pF H a n ks rs us/\bI (is.map V.int) us/\Q (.bl (is.any (· !=0))) H):=by
 intro AL s σ H xs us Q I r h;obtain⟨v,a,n,ks,rs,us',is,rfl,hv,d,rv,q⟩:=h;obtain⟨u,rfl,ru⟩:=kK r;cases ru;obtain⟨ys,ep,e,z,l,nd,rfl,rfl,rfl⟩:=d;have hd:=rT I e;have hl:is.length=ys.length:=by
  have:=rv.length
  rwa[am,am]at this
 have hw:s.heap.get? v=some {cls:=.type "dict_values",data:=.fields #[.ref a]}:=(I.hok v _ hv).1;have hsz:(ys.map (jR n)).toArray.size=is.length:=by simp[hl]
 refine call_any_walk (acJ hw hd ⟨_,_,_,_,_,_,λi=>is.getD i 0 !=0,rfl,Y5 (show X.A.in1.handled=none from I.ok.hd hc) s.heap.objs.size a (cv (bi hd)) _ ep,⟨⟨_,cw _ rfl,rfl,rfl⟩,ax _ hd⟩,λi x s' Q' E' hx hQ=>?_,λh' tk kp=>?_⟩)
 .obtain⟨hi,ex⟩:=hx
  have hi':i<is.length:=by rw[<-hsz];exact hi
  obtain⟨y,ey,ry⟩:=rv.get (i:=i) (x:=.int is[i]) (by rw[bo,ay hi'];rfl);have eq:x=y:=by
   rw[ex];rw[bo,ay (by omega)]at ey;have ey:=bn ey;rw[<-ey];simp[jR]
  subst eq;obtain⟨t,rfl⟩:=ry;have e1:is.getD i 0=is[i]:=by simp[cg,hi']
  have hQ':Q' (is.getD i 0 !=0) s':=hQ;rw[e1]at hQ';exact PySem.P.truthy_int hQ'
 .show EP X AL σ Q (.bool ((cj (ys.map (jR n)).toArray.size).any λi=>is.getD i 0 !=0)) _
  rw[hsz,E3];have I1:aH X AL σ H {s with heap:=s.heap.push {cls:=.type "dict_valueiterator",data:=.fields #[.ref a,.int 0 0,.int (ys.map (jR n)).toArray.size 0,.int ep 0]},toks:=s.toks}:=I.kept λb o z=>ax _ z;obtain⟨f0,f1,f2,f3,f4,f5⟩:=I.fpOk (aj s.heap.objs.size) (I.hok.fresh (aj _));exact⟨.bl (is.any (· !=0)),H,I1.turned (λb o hb z=>kp b o (by simpa using hb) z) f0 f1 f3 f4 f5,rfl,q⟩
theorem aaB{o:ah}{to:TE}{name:Str}{apos cpos:ai}{id:String}{r:V->List V->Hp->VK->Prop}(slot:Slot "dict" name id)(hty:typeOf (.builtin id)=pure (.type "method_descriptor"))(hm:uW X id r)(ho:PE X o to)
  (hbase:attributeBase o name X.env (eval o X.env)=eval o X.env:=by rfl)(hline:(apos.endLine==cpos.line)=true:=by rfl):PE X (.Call (.Attribute o name apos) [] [] cpos) (λσ H Q=>to σ H λx H1=>Sg x H1/\r x [] H1 Q):=by
 intro AL s σ H Q I h;refine wpAny_Call_method0_late hbase hline (bH (ho AL s σ H _ I h) λv s1 hq=>?_);rcases hq with⟨x,H1,I1,r1,⟨a,ds,ep,ex,hH⟩,q1⟩;subst ex;cases r1;have hg:=rT I1 hH;refine⟨"dict",id,k9,slot,hty,⟨_,hg,rfl⟩,λb eb=>?_,vw rfl (PySem.evalArgs_none (hm AL s1 σ H1 (.ref a) [] (.ref a) [] Q I1 rfl .nil q1))⟩;cases eb;exact⟨_,hg,rfl⟩
end
end L2
namespace L2.Pp
open PySem PySem.Spec PyProof.Rows Bn
def xE(d:AV)(S:aG):bQ AV:=match d with
 |.ref j=>(match S[j]? with
  |some (.dic _ kvs)=>.ok (.pv (.lst (kvs.map (·.1)))) S
  |_=>.fail)
 |_=>.fail
def uJ(ms:MA):ME:=λρ S=>(ms ρ S).bind λds S1=>match ds with
 |[d]=>xE d S1
 |_=>.fail
def uC(d:AV)(S:aG):bQ AV:=match d with
 |.ref j=>(match S[j]? with
  |some (.dic _ kvs)=>(match kF (kvs.map (·.2))with
   |some is=>.ok (.pv (.bl (is.any (· !=0)))) S
   |none=>.fail)
  |_=>.fail)
 |_=>.fail
def uE(m:ME):ME:=λρ S=>(m ρ S).bind λd S1=>uC d S1
section
variable{K:ag}{cl:Str->Addr}{E:XK}{X:Cx}{p q:Ph}{H H':Hp}{S:aG}{a b e o i v:ah}{es:List ah}{m md mk mv:ME}{ms:MA}{pos:ai}
theorem abm{x:Str}{px:ai}(hc:X.calm=true)(hg:Gl X x)(hm:X.mg x=none)(hv:bootBuiltins x=some (.type "list"))(ha:eW K cl E X [e] ms)(hn:x≠"__name__":=by decide)(hdb:(x==("__debug__":Str))=false:=by decide)
  (he:starEach [e] X.env=(false,eval e X.env)::starEach [] X.env:=by rfl)(hpl:(backTo pos (starEach [] X.env)).any (·.1)=false:=by rfl):aX K cl E X (.Call (.Name x px) [e] [] pos) (uJ ms):=by
 intro hK;subst hK;refine PE.imp (vL (Zx hc) hg hm hv (ha rfl) hn hdb he hpl) ?_
 rintro σ H Q ⟨p,S,ρ,s,ev,h⟩
 refine cR s ev h λq H1 ds xs S1 st s1 e1 r1 h1=>?_;rcases r1 with _ |⟨rj,_ |⟨_,_⟩⟩
 .exact h1.elim
 .rename_i d _
  rcases d with _ |j
  .exact h1.elim
  obtain⟨a,ej,er⟩:=rj;subst er;have h1:bU X.K cl (bY X.K) q H1 (xE (.ref j) S1) Q E:=h1;unfold xE at h1;dsimp only at h1;split at h1
  .rename_i n kvs hS
   obtain⟨us,vs,d,rv,r⟩:=s1.obj j a _ ej hS;obtain⟨rs,dw,rr⟩:=Ye d;refine⟨a,n,_,rs,us,rfl,dw,λl hl=>?_⟩;have hz:rs.length<=sizeLine:=by
    obtain⟨ys,_,_,_,lz,_,_,er,_⟩:=dw;rw[er,am];exact lz
   exact bU.same (R:=bY X.K) h1 s1 (iM hl) (pP s1 rr hz hl)
  .exact h1.elim
 .exact h1.elim
theorem aa9{x:Str}{px apos cpos:ai}(hc:X.calm=true)(hg:Gl X x)(hm:X.mg x=none)(hv:bootBuiltins x=some (.builtin "any"))(ho:aX K cl E X o m)(hbase:attributeBase o "values" X.env (eval o X.env)=eval o X.env:=by rfl)(hline:(apos.endLine==cpos.line)=true:=by rfl)
  (hn:x≠"__name__":=by decide)(hdb:(x==("__debug__":Str))=false:=by decide)
  (he:starEach [.Call (.Attribute o "values" apos) [] [] cpos] X.env=(false,eval (.Call (.Attribute o "values" apos) [] [] cpos) X.env)::starEach [] X.env:=by rfl)(hpl:(backTo pos (starEach [] X.env)).any (·.1)=false:=by rfl):
  aX K cl E X (.Call (.Name x px) [.Call (.Attribute o "values" apos) [] [] cpos] [] pos) (uE m):=by
 intro hK;subst hK;refine PE.imp (Vb (Oz hc) hg hm hv (pN (aaB o7 PySem.F.type_dict_values G3 (ho rfl) hbase hline) rH he) hn hdb he hpl) ?_
 rintro σ H Q ⟨p,S,ρ,s,ev,h⟩
 refine cR s ev h λq H1 d x S1 st s1 e1 r1 h1=>?_;cases d with
 |pv _=>exact h1.elim
 |ref j=>
  obtain⟨a,ej,rfl⟩:=r1;have h1:bU X.K cl (bY X.K) q H1 (uC (.ref j) S1) Q E:=h1;unfold uC at h1;dsimp only at h1;split at h1
  .rename_i n kvs hS
   split at h1
   .rename_i is hi
    obtain⟨us,vs,d,rv,r⟩:=s1.obj j a _ ej hS;obtain⟨rs,dw,rr⟩:=Ye d;obtain⟨ys,ep,ey,ns,lz,nd,ek,er,eu⟩:=dw;refine⟨⟨a,_,_,rfl,ey⟩,a,_,_,rfl,rfl,ns,ey,λv hv=>⟨v,a,n,_,rs,us,is,rfl,fH,⟨ys,ep,by rw[bS (gD ey hv)];exact ey,ns,lz,nd,ek,er,eu⟩,?_,?_⟩⟩
    .rw[<-vQ hi r]
     exact rv
    .exact bU.same (R:=bY X.K) h1 s1 (iM hv) (x:=.bl (is.any (· !=0))) (by unfold bY aR;rfl)
   .exact h1.elim
  .exact h1.elim
end
end L2.Pp
namespace L2
open PySem PySem.Spec PyProof.Rows Bn
section
variable{X:Cx}
end
section
variable{X:Cx}{sc:Scope}{own:List Str}{cap:List (Nat×Str)}{AL:List (Addr×Obj)}{σ:St}{H:Hp}{s:aa}{elt target iter:ah}{pos pos':ai}{wi:TI}{g:TG}{te:TE}{Q:VK}
end
end L2
namespace L2.Pp
open PySem PySem.Spec PyProof.Rows Bn
section
mutual
def oU:PV->Bool
 |.lst _=>false
 |.tup xs=>yP xs
 |_=>true
def yP:AH->Bool
 |[]=>true
 |x::r=>oU x&&yP r
end
def pU(f:FM)(ms:MA):ME:=λρ S=>(ms ρ S).bind λxs S1=>match iG S1 xs with
 |some vs=>(match f (vs.map .pv) []with
  |.ok (.pv v) _=>if oU v=true then .ok (.pv v) S1 else .fail
  |_=>.fail)
 |none=>.fail
section
variable{K:ag}{cl:Str->Addr}{E:XK}{X:Cx}{p q:Ph}{H H':Hp}{S:aG}{a b e o i v:ah}{es:List ah}{m ma mb md mk mv:ME}{ms:MA}{pos:ai}
mutual
theorem Wp{c c':Addr->Prop}:∀{v:PV}{x:V},aR K c H v x->oU v=true->aR K c' H v x
 |.non,_,h,_=>by unfold aR at h⊢;exact h
 |.bl _,_,h,_=>by unfold aR at h⊢;exact h
 |.int _,_,h,_=>by unfold aR at h⊢;exact h
 |.str _,_,h,_=>by unfold aR at h⊢;exact h
 |.lst _,_,_,n=>by unfold oU at n;cases n
 |.tup xs,_,h,n=>by
  unfold oU at n;unfold aR at h⊢;obtain⟨a,vs,e,t,z,r⟩:=h;exact⟨a,vs,e,t,z,Dn r n⟩
theorem Dn{c c':Addr->Prop}:∀{v:AH}{x:List V},aT K c H v x->yP v=true->aT K c' H v x
 |[],_,h,_=>by unfold aT at h⊢;exact h
 |p::ps,_,h,n=>by
  unfold yP at n;unfold aT at h⊢;obtain⟨v,r,e,h1,h2⟩:=h;have n:=yb.mp n;exact⟨v,r,e,Wp h1 n.1,Dn h2 n.2⟩
end
def Ph.none:Ph:=⟨[],λ_=>False,λ_=>False⟩
theorem Q1:aV K Ph.none [] H:=⟨pk,rfl,λ_ h=>(nomatch h),λ_ h=>h,λ_ h=>h.elim,λk a o e=>(nomatch e)⟩
theorem Pj:∀{vs:AH}{xs:List V},Jf K p H vs xs->gM K Ph.none H (vs.map .pv) xs
 |_,_,.nil=>.nil
 |_,_,.cons h t=>by
  refine .cons ?_ (Pj t);show aR K (λ_=>False) H _ _;rcases h with h |⟨xs,a,vs,rfl,rfl,h,z,r⟩
  .exact Jj (λ_ h=>h.elim) h
  .unfold aR
   exact⟨a,vs,rfl,.inl ⟨h,λz=>z⟩,z,pH (λ_ h=>h.elim) r⟩
theorem adV{g:FM}{k k0:Nat}{ps:List Str}{x:Str}{px:ai}(C:zE X.prog X.w X.K X.mg X.base cl x k ps g)(hr:dN k0 X.A)(hk:k<=k0)(hg:Gl X x)(ha:eW X.K cl E X (e::es) ms)(hdb:(x==("__debug__":Str))=false:=by decide)(he:starEach (e::es) X.env=(false,eval e X.env)::starEach es X.env:=by rfl)(hpl:(backTo pos (starEach es X.env)).any (·.1)=false:=by rfl):
  aX X.K cl E X (.Call (.Name x px) (e::es) [] pos) (pU g ms):=by
 obtain⟨a,d,G,b,kk,n⟩:=C;intro hK;refine PE.imp (tL G (hr.mono hk) hg n kk b .nil xS (ha rfl) hdb he hpl) ?_
 rintro σ H Q ⟨p,S,ρ,s,ev,h⟩
 refine cR s ev h λq H1 as xs S1 st sm ev r k=>?_;cases z:iG S1 as with
 |none=>simp only[z]at k;exact k.elim
 |some vs=>
  simp only[z]at k;have rr:=Pj (vO sm r z);have e0:xs++([]:List V)=xs:=ig xs;refine⟨Ph.none,[],vs.map .pv,Q1,by first |exact rr |(rw[e0];exact rr),?_⟩
  cases y:g (vs.map .pv) []with
  |fail=>simp only[y]at k;exact k.elim
  |exc n S'=>simp only[y]at k;exact k.elim
  |ok w S'=>
   cases w with
   |ref j=>simp only[y]at k;exact k.elim
   |pv w=>
    simp only[y]at k
    by_cases hn:oU w=true
    .rw[if_pos hn]at k
     intro q' H' x' st' sm' r';have same:dR H1 H':=λa o e=>st'.keep a o e λz=>z;exact bU.same (R:=bY X.K) k sm same (Wp r' hn)
    .rw[if_neg hn]at k
     exact k.elim
variable{sc:Scope}{own:List Str}{cap:List (Nat×Str)}{elt target iter:ah}{mi:MI}{g:GM}{me:ME}
end
end
section
variable{K:ag}{cl:Str->Addr}{E:XK}{X:Cx}{a b:ah}{ma mb:ME}{pos:ai}
end
section
variable{P:Program}{w:al}{K:ag}{mg:Str->AE}{base:Heap}{cl:Str->Addr}{x qual:Str}{st:Stmt}{f:Addr}{fd:cc}{N ps:List Str}{k np n:Nat}{b:MS}
variable{so sc sc1:Scope}{own own1:List Str}{cap cap1:List (Nat×Str)}{cd:Value}{A:ao}{outer:List bf}{s:aa}{H:Hp}{E:XK}{C:Addr}{AM:aa}{AN:Hp}{ex:List Addr}
theorem xV(a:sc.kind=.function:=by rfl)(b:∀y∈sc.names,y.2=.local->sc.names.lookup y.1=some .local:=by decide+kernel)(c:∀y∈sc.names,y.2≠.cell:=by decide+kernel)(d:∀y∈sc.names,y.2=.free->so.names.lookup y.1=some .cell:=by decide+kernel)(e:∀p∈cap,N[p.1]?=some p.2:=by decide+kernel)(g:∀p∈cap,sc.names.lookup p.2=some .free:=by decide+kernel):gY (dC fM P w K mg base N qual so f cd A outer s H E).nox sc own cap:=Ps so N rfl rfl a b c d e g
theorem abS(a:sc.kind=.function:=by rfl)(b:∀y∈sc.names,y.2=.local->sc.names.lookup y.1=some .local:=by decide+kernel)(c:∀y∈sc.names,y.2=.cell->sc.names.lookup y.1=some .cell:=by decide+kernel)(d:∀y∈sc.names,y.2=.free->so.names.lookup y.1=some .cell:=by decide+kernel)(e:∀p∈cap,N[p.1]?=some p.2:=by decide+kernel)(g:∀p∈cap,sc.names.lookup p.2=some .free:=by decide+kernel):oB (dC fM P w K mg base N qual so f cd A outer s H E).nox sc own cap:=aay so N rfl rfl a b c d e g
theorem wW(a:sc.kind=.function:=by rfl)(b:∀y∈sc.names,y.2=.local->sc.names.lookup y.1=some .local:=by decide+kernel)(c:∀y∈sc.names,y.2≠.cell:=by decide+kernel)(d:∀y∈sc.names,y.2=.free->sc1.names.lookup y.1=some .free/\so.names.lookup y.1=some .cell:=by decide+kernel)(e:∀p∈cap,(cK own1 cap1)[p.1]?=some p.2:=by decide+kernel)(g:∀p∈cap,sc.names.lookup p.2=some .free:=by decide+kernel)(hk:so.kind=.function:=by rfl):gY (eI (dC fM P w K mg base N qual so f cd A outer s H E).nox sc1 (cK own1 cap1) C AM AN ex) sc own cap:=abz so rfl hk a b c d e g
theorem wV(a:sc.kind=.function:=by rfl)(b:∀y∈sc.names,y.2=.local->sc.names.lookup y.1=some .local:=by decide+kernel)(c:∀y∈sc.names,y.2≠.cell:=by decide+kernel)(d:∀y∈sc.names,y.2=.free->sc1.names.lookup y.1=some .cell\/(sc1.names.lookup y.1=some .free/\so.names.lookup y.1=some .cell):=by decide+kernel)(e:∀p∈cap,(cK own1 cap1)[p.1]?=some p.2:=by decide+kernel)(g:∀p∈cap,sc.names.lookup p.2=some .free:=by decide+kernel)(hk:so.kind=.function:=by rfl):gY (iW (dC fM P w K mg base N qual so f cd A outer s H E).nox sc1 (cK own1 cap1) C AM AN ex) sc own cap:=abk so rfl hk a b c d e g
theorem bZ{N ps:List Str}{sc:Scope}(a:sc.kind=.function:=by rfl)(b:sc.isCoroutine=false:=by rfl)(c:sc.isGenerator=false:=by rfl)(d:N.Nodup:=by decide+kernel)(e:N.take ps.length=ps:=by rfl)(f:∀x∈ps,sc.names.lookup x=some .local\/sc.names.lookup x=some .cell:=by decide+kernel)(g:∀y∈sc.names,y.2≠.free:=by decide+kernel):iU N ps sc:=⟨a,b,c,d,e,f,g⟩
def yH(P:Program)(w:al)(K:ag)(mg:Str->AE)(base:Heap)(cl:Str->Addr)(x:Str)(k:Nat)(ps:List Str)(g:FM):Prop:=∃(a:Addr)(d:cc),eR P w K mg base (dW P w) k a d ps (lK K cl g)/\eR P w K mg base fM k a d ps (lI K cl g)/\jJ K d ps []/\fk K (.ref a)=true/\mg x=some (.ref a)
theorem Wv{g:FM}{a:Addr}{d:cc}(G:eR P w K mg base (dW P w) k a d ps (lK K cl g))(b:jJ K d ps [])(kp:fk K (.ref a)=true)(n:mg x=some (.ref a)):yH P w K mg base cl x k ps g:=⟨_,_,G,x0 G,b,kp,n⟩
theorem ac7{X:Cx}{e:ah}{es:List ah}{ms:MA}{pos p:ai}{k0:Nat}{g:FM}(C:yH X.prog X.w X.K X.mg X.base cl x k ps g)(hr:dN k0 X.A)(hk:k<=k0)(hg:Gl X x)(ha:eW X.K cl E0 X (e::es) ms)(hdb:(x==("__debug__":Str))=false:=by decide)(he:starEach (e::es) X.env=(false,eval e X.env)::starEach es X.env:=by rfl)(hpl:(backTo pos (starEach es X.env)).any (·.1)=false:=by rfl):
  aX X.K cl E0 X (.Call (.Name x p) (e::es) [] pos) (gZ g [] ms):=by
 obtain⟨a,d,_,G,b,kk,n⟩:=C;exact abc G (hr.mono hk) hg n kk b .nil Dv.nil ha hdb he hpl
end
structure Bx where
 P:Program
 w:al
 K:ag
 mg:Str->AE
 base:Heap
 cl:Str->Addr
abbrev cE(B:Bx)(x:Str)(k:Nat)(ps:List Str)(g:FM):Prop:=zE B.P B.w B.K B.mg B.base B.cl x k ps g
abbrev uV(B:Bx)(x:Str)(k:Nat)(ps:List Str)(g:FM):Prop:=yH B.P B.w B.K B.mg B.base B.cl x k ps g
def HF(K:ag)(x:Str)(st:Stmt):Prop:=∃(f:Addr)(fd:cc),df K mainGlobals x=some (some (.ref f))/\jD K x x st f fd
def XG(K:ag)(mg:Str->AE):Prop:=∃h:Heap,K.In h/\h.Ns mainGlobals mg
section
variable{B:Bx}{x:Str}{st:Stmt}{f:Addr}{fd:cc}{N ps:List Str}{k np n:Nat}{b:MS}
theorem Se(X:XG B.K B.mg)(q:HF B.K x st):∃f fd,jD B.K x x st f fd/\fk B.K (.ref f)=true/\B.mg x=some (.ref f):=by
 obtain⟨f,fd,a,F⟩:=q;obtain⟨h,X,G⟩:=X;exact⟨f,fd,F,F.kp,lc X G a⟩
theorem adl{K:ag}{oc:Value}{od an:AF}{osl:Array AE}{kV doc pm cdv ct:Value}(a:df K mainGlobals x=some (some (.ref f)))(l:K.lookup f=some ⟨oc,od,.func (dn x x (iE st) (eV st) (cX st) .none kV doc pm an cdv ct),osl⟩)
  (c:jx K cdv x=true)(k:fk K (.ref f)=true):HF K x st:=⟨_,_,a,Ds l c k⟩
theorem Bh(F:jD B.K x x st f fd)(h:∀(kV doc pm:Value)(an:AF)(cdv ct:Value)(us:AD),us.length=ps.length->bindArgs (dn x x (iE st) (eV st) (cX st) .none kV doc pm an cdv ct) ⟨us,[]⟩=pure (ps.zip us)):jJ B.K fd ps []:=F.binds λkV doc pm an cdv ct us hl=>h kV doc pm an cdv ct us hl
theorem cO(X:XG B.K B.mg)(q:HF B.K x st)(S:iU N ps (cX st))(hb:N.Nodup->∀(f:Addr)(cdv:Value)(A:ao)(outer:List bf)(s:aa)(H:Hp)(E:XK),dN k (A.deeper (envOfC x (cX st) s.heap.objs.size f cdv))->gS B.K B.cl E0 (dC fM B.P B.w B.K B.mg B.base N x (cX st) f cdv A outer s H E).nox (eV st) b)(hnp:ps.length=np:=by rfl)(hn:N.length=n:=by rfl)
  (h:∀(kV doc pm:Value)(an:AF)(cdv ct:Value)(us:AD),us.length=ps.length->bindArgs (dn x x (iE st) (eV st) (cX st) .none kV doc pm an cdv ct) ⟨us,[]⟩=pure (ps.zip us):=by intro _ _ _ _ _ _ us h;rcases us with _ |⟨_,_ |⟨_,_ |⟨_,_ |⟨_,_ |⟨_,_ |⟨_,_⟩⟩⟩⟩⟩⟩<;>first |(cases h;done) |rfl |(simp at h)):cE B x (k+1) ps (aS np n b):=by
 obtain⟨f,fd,F,kp,m⟩:=Se X q;exact⟨f,fd,Nw F S hnp hn λcdv A outer s H E hr=>hb S.nd f cdv A outer s H E hr,Bh F h,kp,m⟩
theorem mkL(X:XG B.K B.mg)(q:HF B.K x st)(S:iU N ps (cX st))(hb:N.Nodup->∀(f:Addr)(cdv:Value)(A:ao)(outer:List bf)(s:aa)(H:Hp)(E:XK),dN k (A.deeper (envOfC x (cX st) s.heap.objs.size f cdv))->gS B.K B.cl E0 (dC fM B.P B.w B.K B.mg B.base N x (cX st) f cdv A outer s H E).nox (eV st) b)(hnp:ps.length=np:=by rfl)(hn:N.length=n:=by rfl)
  (h:∀(kV doc pm:Value)(an:AF)(cdv ct:Value)(us:AD),us.length=ps.length->bindArgs (dn x x (iE st) (eV st) (cX st) .none kV doc pm an cdv ct) ⟨us,[]⟩=pure (ps.zip us):=by intro _ _ _ _ _ _ us h;rcases us with _ |⟨_,_ |⟨_,_ |⟨_,_ |⟨_,_ |⟨_,_ |⟨_,_⟩⟩⟩⟩⟩⟩<;>first |(cases h;done) |rfl |(simp at h)):cE B x (k+1) ps (sG np n b):=by
 obtain⟨f,fd,F,kp,m⟩:=Se X q;exact⟨f,fd,okL F S hnp hn λcdv A outer s H E hr=>hb S.nd f cdv A outer s H E hr,Bh F h,kp,m⟩
theorem Rh(X:XG B.K B.mg)(q:HF B.K x st)(S:iU N ps (cX st))(hb:N.Nodup->∀(f:Addr)(cdv:Value)(A:ao)(outer:List bf)(s:aa)(H:Hp)(E:XK),dN k (A.deeper (envOfC x (cX st) s.heap.objs.size f cdv))->gS B.K B.cl E (dC (dW B.P B.w) B.P B.w B.K B.mg B.base N x (cX st) f cdv A outer s H E) (eV st) b)(hnp:ps.length=np:=by rfl)(hn:N.length=n:=by rfl)
  (h:∀(kV doc pm:Value)(an:AF)(cdv ct:Value)(us:AD),us.length=ps.length->bindArgs (dn x x (iE st) (eV st) (cX st) .none kV doc pm an cdv ct) ⟨us,[]⟩=pure (ps.zip us):=by intro _ _ _ _ _ _ us h;rcases us with _ |⟨_,_ |⟨_,_ |⟨_,_ |⟨_,_ |⟨_,_ |⟨_,_⟩⟩⟩⟩⟩⟩<;>first |(cases h;done) |rfl |(simp at h)):uV B x (k+1) ps (aS np n b):=by
 obtain⟨f,fd,F,kp,m⟩:=Se X q;exact Wv (okX F S hnp hn λcdv A outer s H E hr=>hb S.nd f cdv A outer s H E hr) (Bh F h) kp m
theorem mkR(F:jD B.K x x st f fd)(S:iU N ps (cX st))(hb:N.Nodup->∀(f:Addr)(cdv:Value)(A:ao)(outer:List bf)(s:aa)(H:Hp)(E:XK),dN k (A.deeper (envOfC x (cX st) s.heap.objs.size f cdv))->gS B.K B.cl E0 (dC fM B.P B.w B.K B.mg B.base N x (cX st) f cdv A outer s H E).nox (eV st) b)(hnp:ps.length=np:=by rfl)(hn:N.length=n:=by rfl):eR B.P B.w B.K B.mg B.base fM (k+1) f fd ps (lI B.K B.cl (aS np n b)):=Nw F S hnp hn λcdv A outer s H E hr=>hb S.nd f cdv A outer s H E hr
theorem aeJ{dsv:Array Value}(F:oS B.K x x st f fd dsv)(S:iU N ps (cX st))(hb:N.Nodup->∀(f:Addr)(cdv:Value)(A:ao)(outer:List bf)(s:aa)(H:Hp)(E:XK),dN k (A.deeper (envOfC x (cX st) s.heap.objs.size f cdv))->gS B.K B.cl E (dC (dW B.P B.w) B.P B.w B.K B.mg B.base N x (cX st) f cdv A outer s H E) (eV st) b)(hnp:ps.length=np:=by rfl)(hn:N.length=n:=by rfl):eR B.P B.w B.K B.mg B.base (dW B.P B.w) (k+1) f fd ps (lK B.K B.cl (aS np n b)):=aev F S hnp hn λcdv A outer s H E hr=>hb S.nd f cdv A outer s H E hr
section
variable{X:Cx}{cl:Str->Addr}{E:XK}{e:ah}{es:List ah}{ms:MA}{pos p:ai}{k0:Nat}{g:FM}{dv:AH}
end
section
variable{P:Program}{w:al}{K:ag}{mg:Str->AE}{base:Heap}{qual:Str}{so sc:Scope}{own:List Str}{cap:List (Nat×Str)}{cd:Value}{A:ao}{outer:List bf}{s:aa}{H:Hp}{E:XK}
theorem wX(a:sc.kind=.function:=by rfl)(b:∀y∈sc.names,y.2=.local->sc.names.lookup y.1=some .local:=by decide+kernel)(c:∀y∈sc.names,y.2≠.cell:=by decide+kernel)(d:∀y∈sc.names,y.2=.free->so.names.lookup y.1=some .cell:=by decide+kernel)(e:∀p∈cap,N[p.1]?=some p.2:=by decide+kernel)(g:∀p∈cap,sc.names.lookup p.2=some .free:=by decide+kernel):gY (dC (dW P w) P w K mg base N qual so f cd A outer s H E) sc own cap:=Ps so N rfl rfl a b c d e g
end
end
section
variable{P:Program}{w:al}{K:ag}{mg:Str->AE}{base:Heap}{cl:Str->Addr}{E:XK}{x:Str}{k k0:Nat}{ps:List Str}{g:FM}{e:ah}{es:List ah}{ms:MA}{pos p:ai}
theorem adu{N:List Str}{qual:Str}{scope:Scope}{fo:Addr}{cd:Value}{A:ao}{outer:List bf}{AM:aa}{AN:Hp}(C:yH P w K mg base cl x k ps g)(hr:dN k0 (dC (dW P w) P w K mg base N qual scope fo cd A outer AM AN E).A)(hk:k<=k0)(hg:Gl (dC (dW P w) P w K mg base N qual scope fo cd A outer AM AN E) x)
  (ha:eW K cl E (dC (dW P w) P w K mg base N qual scope fo cd A outer AM AN E) (e::es) ms)(hdb:(x==("__debug__":Str))=false:=by decide)
  (he:starEach (e::es) (dC (dW P w) P w K mg base N qual scope fo cd A outer AM AN E).env=(false,eval e (dC (dW P w) P w K mg base N qual scope fo cd A outer AM AN E).env)::starEach es (dC (dW P w) P w K mg base N qual scope fo cd A outer AM AN E).env:=by rfl)
  (hpl:(backTo pos (starEach es (dC (dW P w) P w K mg base N qual scope fo cd A outer AM AN E).env)).any (·.1)=false:=by rfl):
  aX K cl E (dC (dW P w) P w K mg base N qual scope fo cd A outer AM AN E) (.Call (.Name x p) (e::es) [] pos) (gZ g [] ms):=by
 obtain⟨a,d,GX,_,b,kk,n⟩:=C;exact L7 GX (hr.mono hk) hg n kk b .nil Dv.nil ha hdb he hpl
end
theorem acy:bootBuiltins "len"=some (.builtin "len"):=by decide+kernel
theorem aci:bootBuiltins "abs"=some (.builtin "abs"):=by decide+kernel
theorem abY:bootBuiltins "all"=some (.builtin "all"):=by decide+kernel
theorem abM:bootBuiltins "any"=some (.builtin "any"):=by decide+kernel
theorem acm:bootBuiltins "sum"=some (.builtin "sum"):=by decide+kernel
theorem E8:bootBuiltins "sorted"=some (.builtin "sorted"):=by decide+kernel
theorem Bs:bootBuiltins "int"=some (.type "int"):=by decide+kernel
theorem aaV:bootBuiltins "bool"=some (.type "bool"):=by decide+kernel
theorem Kr:bootBuiltins "list"=some (.type "list"):=by decide+kernel
theorem Co:bootBuiltins "tuple"=some (.type "tuple"):=by decide+kernel
end L2.Pp
set_option Elab.async false
set_option compiler.extract_closed false
set_option bootstrap.genMatcherCode false
set_option maxRecDepth 100000
set_option maxHeartbeats 4000000
namespace Sc
noncomputable section
open PySem L2 Bn L2.Pp
abbrev As:Stmt:=aQ 5
abbrev Il:Stmt:=aQ 6
abbrev Cm:Stmt:=aQ 7
abbrev Ki:Stmt:=aQ 8
abbrev tN:Stmt:=aQ 10
abbrev Wr:Stmt:=aQ 11
abbrev Ro:Stmt:=aQ 13
abbrev Lj:Stmt:=aQ 12
abbrev Ii:Stmt:=aQ 14
abbrev Wu:Stmt:=aQ 15
abbrev Fo:Stmt:=aQ 16
abbrev Bi:Stmt:=aQ 17
abbrev Ms:Stmt:=aQ 18
abbrev Bm:Stmt:=aQ 22
abbrev Zp:Stmt:=aQ 23
abbrev Nj:Stmt:=aQ 25
abbrev Ai:Stmt:=aQ 26
abbrev Xo:Stmt:=aQ 27
abbrev Ui:Stmt:=aQ 29
abbrev Tr:Stmt:=aQ 30
abbrev Oj:Stmt:=aQ 31
abbrev Hs:Stmt:=aQ 32
abbrev Yk:Stmt:=aQ 34
abbrev Fi:Stmt:=aQ 35
abbrev Mq:Stmt:=aQ 36
abbrev Tt:Stmt:=aQ 38
abbrev Br:Stmt:=aQ 39
abbrev Qt:Stmt:=aQ 40
abbrev Yl:Stmt:=aQ 41
abbrev Xk:Stmt:=aQ 42
abbrev Wn:Stmt:=aQ 43
abbrev Rl:Stmt:=aQ 44
abbrev Ep:Stmt:=aQ 45
abbrev Zt:Stmt:=aQ 46
abbrev Wk:Stmt:=aQ 47
abbrev Yt:Stmt:=aQ 48
abbrev Pn:Stmt:=aQ 49
abbrev Wt:Stmt:=aQ 50
abbrev Uq:Stmt:=aQ 51
abbrev Zr:Stmt:=aQ 52
abbrev Zj:Stmt:=aQ 53
abbrev Pi:Stmt:=aQ 54
abbrev Di:Stmt:=aQ 55
abbrev Ao:Stmt:=aQ 56
abbrev Mn:Stmt:=aQ 57
abbrev Ht:Stmt:=aQ 58
abbrev Yp:Stmt:=aQ 59
abbrev Bp:Stmt:=aQ 60
abbrev Cr:Stmt:=aQ 61
abbrev Hi:Stmt:=aQ 62
abbrev Uh:Stmt:=aQ 63
abbrev Ni:Stmt:=aQ 64
abbrev Si:Stmt:=aQ 66
abbrev Ct:Stmt:=aQ 65
abbrev Ap:Stmt:=aQ 67
abbrev Bj:Stmt:=aQ 68
abbrev Ks:Stmt:=aQ 69
abbrev Ik:Stmt:=aQ 70
abbrev Uo:Stmt:=aQ 71
abbrev Xr:Stmt:=aQ 72
abbrev Mk:Stmt:=aQ 73
abbrev Ko:Stmt:=aQ 74
abbrev Gk:Stmt:=aQ 75
abbrev oM:Stmt:=aQ 76
def Yd:MS:=(aI (cS (bK (aC fP (aA 0) (mC (.int 0)))) (bG (mC (.int 1))) dE)
 (aI (cS (bK (aC kB (aA 0) (mC (.int 0)))) (bG (bO cB (mC (.int 1)))) dE)
 (bG (mC (.int 0)))))
def pR:FM:=aS 1 1 Yd
def Nb:MS:=(aI (oC (bK (aC jQ (aA 1) (mC (.int 0)))) (aI (aU 2 (aC gA (aA 0) (aA 1)))
 (aI (aU 0 (aA 1))
 (aU 1 (aA 2)))))
 (bG (mR qC (aB (aA 0) aD))))
def sV:FM:=aS 2 3 Nb
def Ta:MS:=(aI (aU 1 (mC (.int 0)))
 (aI (bJ (bB (aA 0)) (gN 2) (aU 1 (aJ sV [] (aB (aA 1) (aB (aA 2) aD)))))
 (bG (bC ["number"] [(1,"common")] (bB (aA 0)) (gN 0) (aC iO (aA 0) (aA 1))))))
def sW:FM:=aS 1 3 Ta
def zY:MS:=(aI (aU 1 (aC aE (wZ ["number"] [] (bB (aA 0)) (gN 0) (bK (aC jQ (aA 0) (mC (.int 0)))) (aA 0)) (mC (.int 0))))
 (bG (mR fU (aB (bC ["number"] [(1,"first")] (bB (aJ sW [] (aB (aA 0) aD))) (gN 0) (aC bD (aJ pR [] (aB (aA 1) aD)) (aA 0))) aD))))
def pG:FM:=aS 1 2 zY
def Zc:MS:=(aI (cS (bK (aC cY (aA 1) (mC (.int 0)))) (rK "NoPoint") dE)
 (bG (mR fU (aB (bC ["number"] [(1,"bottom")] (bB (aJ sW [] (aB (aC aF (mR oE (aB (aA 0) aD)) (mN eP (aB (aA 1) aD))) aD))) (gN 0) (aC bD (aJ pR [] (aB (aA 1) aD)) (aA 0))) aD))))
def tJ:FM:=aS 2 2 Zc
def Qc:MS:=(aI (aU 2 (bC ["one","other"] [(1,"q"),(0,"p")] (jA (aB (dG (aA 0) dM (dD (bO cB (mC (.int 1))))) (aB (dG (aA 1) dM (dD (bO cB (mC (.int 1))))) aD))) (gT 2 (cU (gN 0) (cU (gN 1) eJ))) (aC aF (aC bD (aA 0) (aC aE (aA 2) (bO cB (mC (.int 1))))) (aC bD (aA 1) (aC aE (aA 3) (bO cB (mC (.int 1))))))))
 (bG (gZ tJ [] (aB (aA 2) (aB (aC bD (aC aE (aA 0) (bO cB (mC (.int 1)))) (aC aE (aA 1) (bO cB (mC (.int 1))))) aD)))))
def kY:FM:=aS 2 3 Qc
def Hc:MS:=(bG (mR fU (aB (aC aF (bC ["number"] [] (bB (dG (aA 0) dM (dD (bO cB (mC (.int 1)))))) (gN 0) (bO cB (aA 0))) (mN eP (aB (aC aE (aA 0) (bO cB (mC (.int 1)))) aD))) aD)))
def wB:FM:=aS 1 1 Hc
def Qa:MS:=(bG (aJ kY [] (aB (aA 0) (aB (aJ wB [] (aB (aA 1) aD)) aD))))
def vJ:FM:=aS 2 2 Qa
def zU:MS:=(bG (bC ["near","far"] [(0,"start"),(1,"end")] (jA (aB (dG (aA 0) dM (dD (bO cB (mC (.int 1))))) (aB (dG (aA 1) dM (dD (bO cB (mC (.int 1))))) aD))) (gT 2 (cU (gN 0) (cU (gN 1) eJ))) (aC dI (aC bD (aA 1) (aC aE (aA 2) (bO cB (mC (.int 1))))) (aC bD (aA 0) (aC aE (aA 3) (bO cB (mC (.int 1))))))))
def lO:FM:=aS 2 2 zU
def Pf:MS:=(bG (mR qD (aB (bC ["one","other"] [] (jA (aB (aA 0) (aB (aA 1) aD))) (gT 2 (cU (gN 0) (cU (gN 1) eJ))) (aC bD (aA 0) (aA 1))) aD)))
def xW:FM:=aS 2 2 Pf
def vX:MS:=(aI (aU 1 (aC aE (aA 0) (mC (.int 0))))
 (aI (cS (bK (aC cY (mR eC (aB (aA 0) aD)) (mC (.int 1)))) (bG (mN eP (aB (bO cB (aC aE (aA 1) (mC (.int 1)))) (aB (aC aE (aA 1) (mC (.int 0))) aD)))) dE)
 (aI (aU 2 (aC aE (aA 0) (mC (.int 1))))
 (bG (mN eP (aB (aC dI (aC bD (aC aE (aA 1) (mC (.int 1))) (aC aE (aA 2) (mC (.int 2)))) (aC bD (aC aE (aA 1) (mC (.int 2))) (aC aE (aA 2) (mC (.int 1))))) (aB (aC dI (aC bD (aC aE (aA 1) (mC (.int 2))) (aC aE (aA 2) (mC (.int 0)))) (aC bD (aC aE (aA 1) (mC (.int 0))) (aC aE (aA 2) (mC (.int 2))))) (aB (aC dI (aC bD (aC aE (aA 1) (mC (.int 0))) (aC aE (aA 2) (mC (.int 1)))) (aC bD (aC aE (aA 1) (mC (.int 1))) (aC aE (aA 2) (mC (.int 0))))) aD))))))))
def pI:FM:=aS 1 3 vX
def uY:MS:=(aI (aU 1 (bC ["p"] [(0,"points")] (bB (dG (aA 0) (dD (mC (.int 1))) dM)) (gN 0) (aJ lO [] (aB (aC aE (aA 1) (mC (.int 0))) (aB (aA 0) aD)))))
 (bG (aJ xW [] (aB (aJ pI [] (aB (dG (aA 1) dM (dD (bO cB (mC (.int 1))))) aD)) (aB (aC aE (aA 1) (bO cB (mC (.int 1)))) aD)))))
def qN:FM:=aS 1 2 uY
def xC:MS:=(bG (aJ pR [] (aB (aJ qN [] (aB (aA 0) aD)) aD)))
def pS:FM:=aS 1 1 xC
def vP:MS:=(aI (aU 1 (mR rA (aB (aA 0) aD)))
 (aI (aU 2 (aJ pS [] (aB (aA 1) aD)))
 (aI (cS (bK (aC cY (aA 2) (mC (.int 0)))) (rK "Flat") dE)
 (aI (cS (bK (aC kB (aA 2) (mC (.int 0)))) (aU 1 (aC aF (dG (aA 1) dM (dD (bO cB (mC (.int 2))))) (mN eP (aB (aC aE (aA 1) (bO cB (mC (.int 1)))) (aB (aC aE (aA 1) (bO cB (mC (.int 2)))) aD))))) dE)
 (bG (mR fU (aB (aA 1) aD)))))))
def mL:FM:=aS 1 3 vP
def Jd:MS:=(aI (aU 1 (zI (bK (aC cY (mR eC (aB (aA 0) aD)) (mC (.int 3)))) (mC (.tup [.tup [.int 0,.int 1],.tup [.int 1,.int 2],.tup [.int 2,.int 0]])) (mC (.tup [.tup [.int 1,.int 2,.int 3],.tup [.int 0,.int 3,.int 2],.tup [.int 0,.int 1,.int 3],.tup [.int 0,.int 2,.int 1]]))))
 (bG (bC ["wall"] [(0,"piece")] (bB (aA 1)) (gN 0) (mR fU (aB (bC ["k"] [(1,"piece")] (bB (aA 0)) (gN 0) (aC aE (aA 1) (aA 0))) aD)))))
def tH:FM:=aS 1 2 Jd
def Sa:MS:=(bG (aC aF (aC aF (dG (aA 0) dM (dD (mC (.int 2)))) (mN dF (aB (mC (.int 0)) aD))) (dG (aA 0) (dD (mC (.int 2))) dM)))
def qR:FM:=aS 1 1 Sa
def zV:MS:=(cS (bK (aC cY (aC aE (aA 0) (mC (.int 2))) (mC (.int 0)))) (rK "Flat") dE)
def sO:FM:=aS 1 1 zV
def Uc:MS:=(aI (dA (gZ sO [] (aB (aA 1) aD)))
 (aI (aU 2 (fZ aD))
 (aI (bJ (bB (aA 0)) (gN 3) (aI (aU 4 (bC ["p"] [] (bB (aA 3)) (gN 0) (aJ qR [] (aB (aA 0) aD))))
 (aI (aU 5 (aC aF (aA 4) (bC ["p"] [(1,"arrow")] (bB (aA 4)) (gN 0) (aJ kY [] (aB (aA 0) (aB (aA 1) aD))))))
 (rP 2 (bC ["k"] [(5,"corners")] (cG (aB (mC (.int 3)) aD)) (gN 0) (gZ mL [] (aB (dG (aA 1) (dD (aA 0)) (dD (aC aF (aA 0) (mC (.int 4))))) aD)))))))
 (bG (mR fU (aB (aA 2) aD))))))
def mX:FM:=aS 2 6 Uc
def vB:MS:=(bG (aJ pG [] (aB (aJ pI [] (aB (bC ["p"] [(0,"wall")] (bB (dG (aA 0) (dD (mC (.int 1))) dM)) (gN 0) (aJ lO [] (aB (aC aE (aA 1) (mC (.int 0))) (aB (aA 0) aD)))) aD)) aD)))
def nS:FM:=aS 1 1 vB
def Ud:MS:=(aI (cS (bK (aC cY (mR eC (aB (aA 0) aD)) (mC (.int 2)))) (bG (mN eP (aB (aA 0) aD))) dE)
 (bG (bC ["k"] [(0,"wall")] (cG (aB (mR eC (aB (aA 0) aD)) aD)) (gN 0) (mN dF (aB (aC aE (aA 1) (aC dI (aA 0) (mC (.int 1)))) (aB (aC aE (aA 1) (aA 0)) aD))))))
def tK:FM:=aS 1 1 Ud
def Pa:MS:=(aI (aU 3 (aJ nS [] (aB (aA 1) aD)))
 (bJ (bB (aJ tK [] (aB (aA 1) aD))) (gT 2 (cU (gN 4) (cU (gN 5) eJ))) (aI (aU 6 (aJ pG [] (aB (aJ lO [] (aB (aA 4) (aB (aA 5) aD))) aD)))
 (bJ (bB (mN dF (aB (mN dF (aB (aA 4) (aB (aA 2) aD))) (aB (mN dF (aB (aA 5) (aB (bO cB (aA 2)) aD))) aD)))) (gT 2 (cU (gN 7) (cU (gN 8) eJ))) (aI (aU 9 (mN dF (aB (aA 3) (aB (aA 6) (aB (aA 7) aD)))))
 (kJ (aA 0) (aA 9) (aC aF (pY (aA 0) (aB (aA 9) (aB (mC (.int 0)) aD))) (aA 8))))))))
def sR:FM:=aS 3 10 Pa
def Pe:MS:=(aI (aU 2 (jX true))
 (aI (bJ (bB (mN dF (aB (mN dF (aB (aA 0) (aB (mC (.int 1)) aD))) (aB (mN dF (aB (aA 1) (aB (bO cB (mC (.int 1))) aD))) aD)))) (gT 2 (cU (gN 3) (cU (gN 4) eJ))) (bJ (bB (aA 3)) (gN 5) (bJ (bB (aJ tH [] (aB (aA 5) aD))) (gN 6) (dA (aJ sR [] (aB (aA 2) (aB (aA 6) (aB (aA 4) aD))))))))
 (bG (bO qE (uE (aA 2))))))
def tR:FM:=aS 2 7 Pe
def Ua:MS:=(bG (aC cY (aC aE (aA 0) (mC (.int 0))) (mC (.int 1))))
def vM:FM:=aS 1 1 Ua
def zR:MS:=(aI (cS (bK (aJ vM [] (aB (aA 1) aD))) (bG (aJ kY [] (aB (aA 0) (aB (aC aE (aA 1) (mC (.int 1))) aD)))) dE)
 (bG (aJ vJ [] (aB (aC aE (aA 1) (mC (.int 1))) (aB (aA 0) aD)))))
def nR:FM:=aS 2 2 zR
def Nc:MS:=(bG (mR fU (aB (bC ["piece"] [(1,"move")] (bB (aA 0)) (gN 0) (gZ mL [] (aB (bC ["p"] [(1,"move")] (bB (aA 0)) (gN 0) (aJ nR [] (aB (aA 0) (aB (aA 1) aD)))) aD))) aD)))
def wN:FM:=aS 2 2 Nc
def Le:MS:=(aI (aU 1 (fZ aD))
 (aI (bJ (xX (aB (dG (aA 0) dM (dD (mC (.int 63)))) aD)) (gT 2 (cU (gN 2) (cU (gN 3) eJ))) (cS (bK (aC sI (aA 3) (aC gG (mC (.int 10)) (mC (.int 18))))) (dA (eO (aA 1) (aB (aC dI (aA 3) (aC gG (mC (.int 10)) (mC (.int 18)))) aD))) (aI (aU 4 (aC gA (aC bD (aC aF (aC aF (aC aF (aA 3) (aC bD (aC bD (mC (.int 7)) (aA 2)) (aA 2))) (aC bD (mC (.int 13)) (aA 2))) (mC (.int 5))) (mC (.int 48271))) (mC (.int 2147483647))))
 (aI (aU 5 (aC gA (aC bD (aC aF (aC aF (aC aF (aA 3) (aC bD (aC bD (mC (.int 11)) (aA 2)) (aA 2))) (aC bD (mC (.int 17)) (aA 2))) (mC (.int 3))) (mC (.int 40692))) (mC (.int 2147483399))))
 (aI (aU 6 (aC gA (aC bD (aC aF (aC aF (aC aF (aA 3) (aC bD (aC bD (mC (.int 5)) (aA 2)) (aA 2))) (aC bD (mC (.int 29)) (aA 2))) (mC (.int 8))) (mC (.int 39373))) (mC (.int 2147483587))))
 (aI (aU 4 (aC gA (aC bD (aA 4) (mC (.int 52021))) (mC (.int 1000000007))))
 (aI (aU 5 (aC gA (aC bD (aA 5) (mC (.int 30011))) (mC (.int 998244353))))
 (aI (aU 6 (aC gA (aC bD (aA 6) (mC (.int 45989))) (mC (.int 1000000009))))
 (dA (eO (aA 1) (aB (aC aF (aC bD (aC aF (aC bD (aA 4) (mC (.int 998244353))) (aA 5)) (mC (.int 1000000009))) (aA 6)) aD)))))))))))
 (bG (aA 1))))
def tY:FM:=aS 1 7 Le
def wP:MS:=(aI (oC (jY (bK (aC fP (mR eC (aB (aA 0) aD)) (mC (.int 0)))) (bK (aC cY (aC aE (aA 0) (mC (.int 0))) (mC (.int 0))))) (dA (oP (aA 0) (aB (mC (.int 0)) aD))))
 (aI (cS (bK (aC cY (mR eC (aB (aA 0) aD)) (mC (.int 0)))) (bG (mC (.int 0))) dE)
 (aI (aU 2 (aC gA (aC aE (aA 0) (mC (.int 0))) (aA 1)))
 (aI (jW (aA 0) (mC (.int 0)) (aC iO (aC aE (aA 0) (mC (.int 0))) (aA 1)))
 (bG (aA 2))))))
def cC:FM:=aS 2 3 wP
def Me:MS:=(aI (aU 0 (mR qC (aB (aA 0) aD)))
 (aI (aU 1 (mR qC (aB (aA 1) aD)))
 (aI (oC (bK (aC fP (aA 1) (mC (.int 0)))) (uP 0 1 (aB (aA 1) (aB (aC gA (aA 0) (aA 1)) aD))))
 (bG (aA 0)))))
def tW:FM:=aS 2 2 Me
def vR:MS:=(aI (aU 1 (mC (.int 0)))
 (aI (bJ (bB (aA 0)) (gN 2) (aU 1 (aJ tW [] (aB (aA 1) (aB (aA 2) aD)))))
 (aI (cS (bK (aC cY (aA 1) (mC (.int 0)))) (bG (mR fU (aB (aA 0) aD))) dE)
 (bG (mR fU (aB (bC ["_law_number"] [(1,"_law_by")] (bB (aA 0)) (gN 0) (aC iO (aA 0) (aA 1))) aD))))))
def gW:FM:=aS 1 3 vR
def Fb:MS:=(aI (aU 1 (aJ gW [] (aB (aA 0) aD)))
 (aI (bJ (bB (aA 1)) (gN 2) (aI (cS (bK (aC fP (aA 2) (mC (.int 0)))) (bG (aA 1)) dE)
 (cS (bK (aC kB (aA 2) (mC (.int 0)))) (bG (mR fU (aB (bC ["_law_one"] [] (bB (aA 1)) (gN 0) (aC dI (mC (.int 0)) (aA 0))) aD))) dE)))
 (bG (aA 1))))
def mO:FM:=aS 1 3 Fb
def Ec:MS:=(bG (uF (bO (hJ "int") (aA 0)) (bO qE (bO (hJ "bool") (aA 0)))))
def tE:FM:=aS 1 1 Ec
def Eb:MS:=(aI (cS (oV (kP (bK (bO (hJ "tuple") (aA 0)))) (bK (aC jQ (mR eC (aB (aA 0) aD)) (aA 1)))) (bG (mC (.bl false))) dE)
 (bG (mR iZ (aB (bC ["_law_number"] [] (bB (aA 0)) (gN 0) (aJ tE [] (aB (aA 0) aD))) aD))))
def vN:FM:=aS 2 2 Eb
def Td:MS:=(aI (cS (bK (aC kB (aA 1) (mC (.int 0)))) (bG (aJ gW [] (aB (mN eP (aB (aC dI (mC (.int 0)) (aA 0)) (aB (aC dI (mC (.int 0)) (aA 1)) aD))) aD))) dE)
 (bG (aJ gW [] (aB (mN eP (aB (aA 0) (aB (aA 1) aD))) aD))))
def mW:FM:=aS 2 2 Td
def Ge:MS:=(bG (aJ mW [] (aB (aC aF (aC bD (aC aE (aA 0) (mC (.int 0))) (aC aE (aA 1) (mC (.int 1)))) (aC bD (aC aE (aA 1) (mC (.int 0))) (aC aE (aA 0) (mC (.int 1))))) (aB (aC bD (aC aE (aA 0) (mC (.int 1))) (aC aE (aA 1) (mC (.int 1)))) aD))))
def xN:FM:=aS 2 2 Ge
def Bb:MS:=(aI (aU 3 (bC ["_law_k"] [(2,"_law_way"),(1,"_law_q"),(0,"_law_p")] (cG (aB (aC dI (mR eC (aB (aA 0) aD)) (mC (.int 1))) aD)) (gN 0) (aC aF (aC bD (aC bD (aA 1) (aC aE (aA 3) (aA 0))) (aC aE (aA 2) (bO cB (mC (.int 1))))) (aC bD (aC aE (aA 2) (aA 0)) (aC aE (aA 3) (bO cB (mC (.int 1))))))))
 (bG (aJ gW [] (aB (aC aF (aA 3) (mN eP (aB (aC bD (aC aE (aA 0) (bO cB (mC (.int 1)))) (aC aE (aA 1) (bO cB (mC (.int 1))))) aD))) aD))))
def lR:FM:=aS 3 4 Bb
def He:MS:=(bG (bC ["_law_k"] [(1,"_law_q"),(0,"_law_p")] (cG (aB (aC dI (mR eC (aB (aA 0) aD)) (mC (.int 1))) aD)) (gN 0) (aC dI (aC bD (aC aE (aA 1) (aA 0)) (aC aE (aA 2) (bO cB (mC (.int 1))))) (aC bD (aC aE (aA 2) (aA 0)) (aC aE (aA 1) (bO cB (mC (.int 1))))))))
def nB:FM:=aS 2 2 He
def vZ:MS:=(aI (aU 2 (aC dI (aC bD (aC aE (aA 0) (mC (.int 1))) (aC aE (aA 1) (mC (.int 2)))) (aC bD (aC aE (aA 0) (mC (.int 2))) (aC aE (aA 1) (mC (.int 1))))))
 (aI (aU 3 (aC dI (aC bD (aC aE (aA 0) (mC (.int 2))) (aC aE (aA 1) (mC (.int 0)))) (aC bD (aC aE (aA 0) (mC (.int 0))) (aC aE (aA 1) (mC (.int 2))))))
 (aI (aU 4 (aC dI (aC bD (aC aE (aA 0) (mC (.int 0))) (aC aE (aA 1) (mC (.int 1)))) (aC bD (aC aE (aA 0) (mC (.int 1))) (aC aE (aA 1) (mC (.int 0))))))
 (bG (mN eP (aB (aA 2) (aB (aA 3) (aB (aA 4) aD))))))))
def mU:FM:=aS 2 5 vZ
def Wd:MS:=(bG (mR qD (aB (bC ["_law_one","_law_other"] [] (jA (aB (aA 0) (aB (aA 1) aD))) (gT 2 (cU (gN 0) (cU (gN 1) eJ))) (aC bD (aA 0) (aA 1))) aD)))
def tX:FM:=aS 2 2 Wd
def tM:MS:=(aI (cS (bK (aC cY (mR eC (aB (aA 0) aD)) (mC (.int 2)))) (bG (aC dI (aC bD (aC aE (aC aE (aA 0) (mC (.int 0))) (mC (.int 0))) (aC aE (aC aE (aA 0) (mC (.int 1))) (mC (.int 1)))) (aC bD (aC aE (aC aE (aA 0) (mC (.int 0))) (mC (.int 1))) (aC aE (aC aE (aA 0) (mC (.int 1))) (mC (.int 0)))))) dE)
 (bG (aJ tX [] (aB (aJ mU [] (aB (aC aE (aA 0) (mC (.int 0))) (aB (aC aE (aA 0) (mC (.int 1))) aD))) (aB (aC aE (aA 0) (mC (.int 2))) aD)))))
def mY:FM:=aS 1 1 tM
def xB:MS:=(bG (aJ mY [] (aB (bC ["_law_p"] [(0,"_law_points")] (bB (dG (aA 0) (dD (mC (.int 1))) dM)) (gN 0) (aJ nB [] (aB (aC aE (aA 1) (mC (.int 0))) (aB (aA 0) aD)))) aD)))
def oH:FM:=aS 1 1 xB
def vH:MS:=(aI (aU 1 (mR rA (aB (aA 0) aD)))
 (aI (cS (bK (aC kB (aJ oH [] (aB (aA 1) aD)) (mC (.int 0)))) (aU 1 (aC aF (dG (aA 1) dM (dD (bO cB (mC (.int 2))))) (mN eP (aB (aC aE (aA 1) (bO cB (mC (.int 1)))) (aB (aC aE (aA 1) (bO cB (mC (.int 2)))) aD))))) dE)
 (bG (mR fU (aB (aA 1) aD)))))
def lQ:FM:=aS 1 2 vH
def zX:MS:=(bG (aJ mO [] (aB (aJ mU [] (aB (aA 0) (aB (aA 1) aD))) aD)))
def qO:FM:=aS 2 2 zX
def zS:MS:=(bG (aJ mO [] (aB (aC aF (aJ nB [] (aB (aA 0) (aB (aA 1) aD))) (aJ mU [] (aB (aA 0) (aB (aA 1) aD)))) aD)))
def qM:FM:=aS 2 2 zS
def Ub:MS:=(aI (aU 3 (aJ mU [] (aB (aJ nB [] (aB (aA 0) (aB (aA 1) aD))) (aB (aJ nB [] (aB (aA 0) (aB (aA 2) aD))) aD))))
 (bG (aJ mO [] (aB (aC aF (bC ["_law_number"] [(0,"_law_p")] (bB (aA 3)) (gN 0) (aC bD (aA 0) (aC aE (aA 1) (mC (.int 3))))) (mN eP (aB (aC dI (mC (.int 0)) (aJ tX [] (aB (aA 3) (aB (aA 0) aD)))) aD))) aD))))
def qZ:FM:=aS 3 4 Ub
def Cc:MS:=(aI (yU (gT 4 (cU (gN 1) (cU (gN 2) (cU (gN 3) (cU (gN 4) eJ))))) (aA 0))
 (bG (mN eP (aB (mN dF (aB (aA 2) (aB (aA 3) (aB (aA 4) aD)))) (aB (mN dF (aB (aA 1) (aB (aA 4) (aB (aA 3) aD)))) (aB (mN dF (aB (aA 1) (aB (aA 2) (aB (aA 4) aD)))) (aB (mN dF (aB (aA 1) (aB (aA 3) (aB (aA 2) aD)))) aD)))))))
def mP:FM:=aS 1 5 Cc
def Ke:MS:=(kJ (aA 0) (aA 1) (aC aF (pY (aA 0) (aB (aA 1) (aB (mC (.int 0)) aD))) (aA 2)))
def kZ:FM:=aS 3 3 Ke
def wL:MS:=(aI (cS (bK (aC cY (mR eC (aB (aA 1) aD)) (mC (.int 3)))) (aI (bJ (cG (aB (mC (.int 3)) aD)) (gN 3) (aI (aU 4 (aC aE (aA 1) (aC dI (aA 3) (mC (.int 1)))))
 (aI (aU 5 (aC aE (aA 1) (aA 3)))
 (aI (aU 6 (aJ qO [] (aB (aA 4) (aB (aA 5) aD))))
 (aI (dA (aJ kZ [] (aB (aA 0) (aB (mN dF (aB (aA 6) (aB (aA 4) aD))) (aB (aA 2) aD)))))
 (dA (aJ kZ [] (aB (aA 0) (aB (mN dF (aB (aA 6) (aB (aA 5) aD))) (aB (aC dI (mC (.int 0)) (aA 2)) aD))))))))))
 oI) dE)
 (aI (aU 7 (jX true))
 (aI (bJ (cG (aB (mC (.int 4)) aD)) (gN 3) (bJ (cG (aB (aA 3) aD)) (gN 8) (aI (aU 6 (aJ qM [] (aB (aC aE (aA 1) (aA 8)) (aB (aC aE (aA 1) (aA 3)) aD))))
 (aI (kJ (aA 7) (mN dF (aB (aC aE (aA 1) (aA 8)) (aB (aC aE (aA 1) (aA 3)) aD))) (aA 6))
 (kJ (aA 7) (mN dF (aB (aC aE (aA 1) (aA 3)) (aB (aC aE (aA 1) (aA 8)) aD))) (aA 6))))))
 (bJ (bB (aJ mP [] (aB (aA 1) aD))) (gN 9) (aI (aU 10 (aJ qZ [] (aB (aC aE (aA 9) (mC (.int 0))) (aB (aC aE (aA 9) (mC (.int 1))) (aB (aC aE (aA 9) (mC (.int 2))) aD)))))
 (bJ (cG (aB (mC (.int 3)) aD)) (gN 3) (aI (aU 4 (aC aE (aA 9) (aC dI (aA 3) (mC (.int 1)))))
 (aI (aU 5 (aC aE (aA 9) (aA 3)))
 (aI (aU 6 (mG (aA 7) (mN dF (aB (aA 4) (aB (aA 5) aD)))))
 (aI (dA (aJ kZ [] (aB (aA 0) (aB (mN dF (aB (aA 10) (aB (aA 6) (aB (aA 4) aD)))) (aB (aA 2) aD)))))
 (dA (aJ kZ [] (aB (aA 0) (aB (mN dF (aB (aA 10) (aB (aA 6) (aB (aA 5) aD)))) (aB (aC dI (mC (.int 0)) (aA 2)) aD)))))))))))))))
def mV:FM:=aS 3 11 wL
def Dd:MS:=(aI (aU 2 (jX true))
 (aI (bJ (bB (aA 0)) (gN 3) (dA (aJ mV [] (aB (aA 2) (aB (aA 3) (aB (mC (.int 1)) aD))))))
 (aI (bJ (bB (aA 1)) (gN 3) (dA (aJ mV [] (aB (aA 2) (aB (aA 3) (aB (bO cB (mC (.int 1))) aD))))))
 (bG (mR iZ (aB (bC ["_law_key"] [(2,"_law_table")] (bB (uJ (aB (aA 2) aD))) (gN 0) (aC cY (mG (aA 1) (aA 0)) (mC (.int 0)))) aD))))))
def rC:FM:=aS 2 4 Dd
def Vc:MS:=(bG (aJ lQ [] (aB (bC ["_law_p"] [(2,"_law_far_here"),(1,"_law_way")] (bB (aA 0)) (gN 0) (aJ lR [] (aB (aA 0) (aB (aA 1) (aB (aA 2) aD))))) aD)))
def pM:FM:=aS 3 3 Vc
def zT:MS:=(aI (cS (oV (kP (bK (aJ vN [] (aB (aA 0) (aB (aC aF (aA 1) (mC (.int 1))) aD))))) (bK (aC kB (aC aE (aA 0) (bO cB (mC (.int 1)))) (mC (.int 1))))) (bG (mC (.bl false))) dE)
 (bG (aC cY (aJ gW [] (aB (aA 0) aD)) (aA 0))))
def sN:FM:=aS 2 2 zT
def zP:MS:=(aI (cS (oV (kP (bK (bO (hJ "tuple") (aA 0)))) (bK (aC jQ (mR eC (aB (aA 0) aD)) (aC aF (aA 1) (mC (.int 1)))))) (bG (mC (.bl false))) dE)
 (aI (cS (kP (bK (mR iZ (aB (bC ["_law_p"] [(1,"_law_many")] (bB (aA 0)) (gN 0) (aJ sN [] (aB (aA 0) (aB (aA 1) aD)))) aD)))) (bG (mC (.bl false))) dE)
 (bG (uF (aC jQ (aJ oH [] (aB (aA 0) aD)) (mC (.int 0))) (aC cY (aJ lQ [] (aB (aA 0) aD)) (aA 0))))))
def sM:FM:=aS 2 2 zP
def zZ:MS:=(aI (cS (kP (bK (bO (hJ "tuple") (aA 0)))) (bG (mC (.bl false))) dE)
 (bG (mR iZ (aB (bC ["_law_points"] [(1,"_law_many")] (bB (aA 0)) (gN 0) (aJ sM [] (aB (aA 0) (aB (aA 1) aD)))) aD))))
def uZ:FM:=aS 2 2 zZ
def Ca:MS:=(bG (aJ mY [] (aB (bC ["_law_corner"] [(0,"_law_corners")] (bB (dG (aA 0) (dD (mC (.int 1))) dM)) (gN 0) (bC ["_law_b","_law_c"] [] (jA (aB (aC aE (aA 1) (mC (.int 0))) (aB (aA 0) aD))) (gT 2 (cU (gN 0) (cU (gN 1) eJ))) (aC dI (aA 1) (aA 0)))) aD)))
def qP:FM:=aS 1 1 Ca
def Af:MS:=(aI (aU 3 (fZ aD))
 (aI (bJ (cG (aB (aC aF (aA 1) (mC (.int 1))) aD)) (gN 4) (dA (eO (aA 3) (aB (bC ["_law_m"] [(0,"_law_row_here"),(2,"_law_wide")] (cG (aB (aA 1) aD)) (gN 0) (aJ cC [] (aB (aA 1) (aB (aC aF (aA 2) (mC (.int 1))) aD)))) aD))))
 (aI (cS (bK (aC jQ (aJ qP [] (aB (aA 3) aD)) (mC (.int 0)))) (bG (aA 3)) dE)
 (bG (bC ["_law_k"] [(1,"_law_dims")] (nY (aB (bO cB (mC (.int 1))) (aB (aA 1) aD))) (gN 0) (bC ["_law_m"] [(0,"_law_k")] (cG (aB (aA 1) aD)) (gN 0) (mR jL (aB (aC cY (aA 0) (aA 1)) aD))))))))
def lY:FM:=aS 3 5 Af
def Hq:MS:=(aI (aU 1 (fZ (aB (mC (.int 0)) (aB (mC (.int 1)) (aB (mC (.int 2)) aD)))))
 (aI (aU 2 (fZ (aB (mC (.int 0)) (aB (mC (.int 0)) (aB (mC (.int 0)) aD)))))
 (aI (aU 3 (Tg (aB (aA 2) aD)))
 (aI (bJ (cG (aB (mC (.int 3)) aD)) (gN 4) (aI (jW (aA 2) (oP (aA 1) (aB (aJ cC [] (aB (aA 0) (aB (mR eC (aB (aA 1) aD)) aD))) aD)) (mC (.int 1)))
 (dA (uG (aA 3) (aB (aA 2) aD)))))
 (aI (bJ (cG (aB (mC (.int 3)) aD)) (gN 5) (cS (bK (aC cY (aJ cC [] (aB (aA 0) (aB (mC (.int 4)) aD))) (mC (.int 3)))) (yC 3 2 5) dE))
 (bG (aA 3)))))))
def wO:FM:=sG 1 6 Hq
def Aa:MS:=(aI (aU 3 (fZ aD))
 (aI (bJ (cG (aB (aJ cC [] (aB (aA 0) (aB (aC aF (aA 2) (mC (.int 1))) aD))) aD)) (gN 4) (aI (aU 5 (aJ cC [] (aB (aA 0) (aB (mC (.int 6)) aD))))
 (cS (jY (bK (aC cY (aA 5) (mC (.int 5)))) (bK (aC fP (mR eC (aB (aA 3) aD)) (mC (.int 0))))) (dA (eO (aA 3) (aB (aC aE (aA 3) (bO cB (mC (.int 1)))) aD))) (cS (bK (aC cY (aA 1) (mC (.int 2)))) (dA (eO (aA 3) (aB (aJ lY [] (aB (aA 0) (aB (mC (.int 2)) (aB (aC aF (mC (.int 1)) (mR jL (aB (aC cY (aA 5) (mC (.int 4))) aD))) aD)))) aD))) (cS (bK (aC fP (aA 5) (mC (.int 3)))) (dA (eO (aA 3) (aB (aJ lY [] (aB (aA 0) (aB (mC (.int 3)) (aB (mC (.int 1)) aD)))) aD))) (dA (eO (aA 3) (aB (aJ wO [] (aB (aA 0) aD)) aD))))))))
 (bG (aA 3))))
def sP:FM:=aS 3 6 Aa
def Re:MS:=(aI (aU 2 (aJ cC [] (aB (aA 0) (aB (mC (.int 4)) aD))))
 (aI (aU 3 (aC aE (mN eP (aB (mC (.int 0)) (aB (mC (.int 3)) (aB (mC (.int 9)) (aB (aC gG (mC (.int 10)) (mC (.int 12))) aD))))) (aA 2)))
 (aI (aU 4 (aC aF (mC (.int 1)) (aC bD (aJ cC [] (aB (aA 0) (aB (mC (.int 9)) aD))) (aC iO (aA 2) (mC (.int 2))))))
 (aI (aU 5 (bC ["_law_k"] [(3,"_law_wide"),(0,"_law_row_here")] (cG (aB (aA 1) aD)) (gN 0) (aC dI (aJ cC [] (aB (aA 2) (aB (aC aF (aC bD (mC (.int 2)) (aA 1)) (mC (.int 1))) aD))) (aA 1))))
 (bG (aJ gW [] (aB (aC aF (aA 5) (mN eP (aB (aA 4) aD))) aD)))))))
def mE:FM:=aS 2 6 Re
def Ea:MS:=(aI (aU 2 (fZ aD))
 (aI (bJ (cG (aB (aA 1) aD)) (gN 3) (aI (aU 4 (aJ cC [] (aB (aA 0) (aB (mC (.int 3)) aD))))
 (dA (eO (aA 2) (aB (aJ mW [] (aB (aC aF (mC (.int 1)) (aJ cC [] (aB (aA 0) (aB (aC aE (mN eP (aB (mC (.int 1)) (aB (mC (.int 7)) (aB (aC gG (mC (.int 10)) (mC (.int 9))) aD)))) (aA 4)) aD)))) (aB (aC aF (mC (.int 1)) (aJ cC [] (aB (aA 0) (aB (aC aE (mN eP (aB (mC (.int 1)) (aB (mC (.int 7)) (aB (aC gG (mC (.int 10)) (mC (.int 6))) aD)))) (aA 4)) aD)))) aD))) aD)))))
 (bG (aA 2))))
def sS:FM:=aS 2 5 Ea
def wI:MS:=(aI (aU 2 (mC (.int 1)))
 (aI (bJ (bB (aA 1)) (gN 3) (aU 2 (aC bD (aA 2) (aC aE (aA 3) (mC (.int 1))))))
 (aI (aU 4 (bC ["_law_number","_law_part"] [(2,"_law_under")] (jA (aB (aA 0) (aB (aA 1) aD))) (gT 2 (cU (gN 0) (cU (gN 1) eJ))) (aC bD (aC bD (aA 0) (aC aE (aA 1) (mC (.int 0)))) (aC iO (aA 2) (aC aE (aA 1) (mC (.int 1)))))))
 (bG (aJ gW [] (aB (aC aF (aA 4) (mN eP (aB (aA 2) aD))) aD))))))
def pL:FM:=aS 2 5 wI
def Fd:MS:=(aI (aU 3 (fZ aD))
 (aI (bJ (bB (aA 1)) (gN 4) (aI (aU 5 (aJ mE [] (aB (aA 0) (aB (mR eC (aB (aA 2) aD)) aD))))
 (dA (eO (aA 3) (aB (aJ lQ [] (aB (bC ["_law_corner"] [(5,"_law_far_here"),(2,"_law_stretch_here")] (bB (aA 4)) (gN 0) (aJ lR [] (aB (aJ pL [] (aB (aA 0) (aB (aA 2) aD))) (aB (aA 1) (aB (mC (.int 1)) aD))))) aD)) aD)))))
 (bG (aA 3))))
def wK:FM:=aS 3 6 Fd
def Xa:MS:=(bG (mN dF (aB (aC aE (aA 0) (mC (.int 0))) (aB (aC aE (aA 0) (mC (.int 1))) (aB (mC (.int 0)) (aB (aC aE (aA 0) (mC (.int 2))) aD))))))
def sX:FM:=aS 1 1 Xa
def Yb:MS:=(aI (aU 2 (aC aE (mN eP (aB (mC (.int 1)) (aB (mC (.int 3)) (aB (aC gG (mC (.int 10)) (mC (.int 9))) aD)))) (aJ cC [] (aB (aA 0) (aB (mC (.int 3)) aD)))))
 (aI (aU 3 (aC aE (mN eP (aB (mC (.int 1)) (aB (mC (.int 4)) (aB (aC gG (mC (.int 10)) (mC (.int 6))) aD)))) (aJ cC [] (aB (aA 0) (aB (mC (.int 3)) aD)))))
 (aI (aU 3 (aC aF (mC (.int 1)) (aJ cC [] (aB (aA 0) (aB (aA 3) aD)))))
 (aI (aU 4 (oJ ["_law_k"] [(2,"_law_wide"),(0,"_law_row_here")] (cG (aB (aA 1) aD)) (gN 0) (aC dI (aJ cC [] (aB (aA 2) (aB (aC aF (aC bD (mC (.int 2)) (aA 1)) (mC (.int 1))) aD))) (aA 1))))
 (aI (jW (aA 4) (bO cB (mC (.int 1))) (aC bD (aC aF (mC (.int 1)) (aJ cC [] (aB (aA 0) (aB (aA 2) aD)))) (aC dI (mC (.int 1)) (aC bD (mC (.int 2)) (aJ cC [] (aB (aA 0) (aB (mC (.int 2)) aD)))))))
 (aI (cS (bK (aC cY (aJ cC [] (aB (aA 0) (aB (mC (.int 8)) aD))) (mC (.int 7)))) (jW (aA 4) (bO cB (mC (.int 1))) (mC (.int 0))) dE)
 (bG (aJ gW [] (aB (aC aF (aA 4) (mN eP (aB (aA 3) aD))) aD)))))))))
def qW:FM:=aS 2 5 Yb
def La:MS:=(bG (aJ gW [] (aB (aC aF (bC ["_law_number"] [(1,"_law_share")] (bB (dG (aA 0) dM (dD (mC (.int 3))))) (gN 0) (aC bD (aC aE (aA 1) (mC (.int 0))) (aA 0))) (mN eP (aB (aC bD (aC aE (aA 1) (mC (.int 1))) (aC aE (aA 0) (mC (.int 3)))) aD))) aD)))
def kU:FM:=aS 2 2 La
def Zf:MS:=(aI (aU 1 (uA tY [] (aB (aA 0) aD)))
 (aI (aU 2 (aJ wK [] (aB (aA 1) (aB (aJ sP [] (aB (aA 1) (aB (mC (.int 2)) (aB (mC (.int 3)) aD)))) (aB (aJ sS [] (aB (aA 1) (aB (mC (.int 2)) aD))) aD)))))
 (aI (aU 3 (aJ qW [] (aB (aA 1) (aB (mC (.int 3)) aD))))
 (aI (cS (bK (aC cY (aC aE (aA 3) (mC (.int 2))) (mC (.int 0)))) (aU 3 (mN dF (aB (aC aE (aA 3) (mC (.int 0))) (aB (aC aE (aA 3) (mC (.int 1))) (aB (aC aE (aA 3) (mC (.int 3))) (aB (aC aE (aA 3) (mC (.int 3))) aD)))))) dE)
 (aI (aU 4 (aJ mW [] (aB (aC aF (mC (.int 1)) (aJ cC [] (aB (aA 1) (aB (mC (.int 9)) aD)))) (aB (aC aF (mC (.int 1)) (aJ cC [] (aB (aA 1) (aB (mC (.int 9)) aD)))) aD))))
 (aI (aU 5 (aJ mW [] (aB (aC aF (mC (.int 1)) (aJ cC [] (aB (aA 1) (aB (mC (.int 9)) aD)))) (aB (aC aF (mC (.int 1)) (aJ cC [] (aB (aA 1) (aB (mC (.int 9)) aD)))) aD))))
 (aI (aU 6 (gZ mX [] (aB (mR fU (aB (aA 2) aD)) (aB (aJ kU [] (aB (aA 3) (aB (aA 4) aD))) aD))))
 (aI (aU 7 (aJ wN [] (aB (gZ mX [] (aB (mR fU (aB (aA 2) aD)) (aB (aJ kU [] (aB (aA 3) (aB (aA 5) aD))) aD))) (aB (mN dF (aB (mC (.int 1)) (aB (aJ kU [] (aB (aA 3) (aB (aA 4) aD))) aD))) aD))))
 (aI (aU 8 (gZ mX [] (aB (mR fU (aB (aA 2) aD)) (aB (aJ kU [] (aB (aA 3) (aB (aJ xN [] (aB (aA 4) (aB (aA 5) aD))) aD))) aD))))
 (aI (bJ (bB (mN dF (aB (aA 6) (aB (aA 7) (aB (aA 8) aD))))) (gN 9) (cS (kP (bK (aJ uZ [] (aB (aA 9) (aB (mC (.int 3)) aD))))) (bG (mC (.bl false))) dE))
 (aI (cS (oV (kP (bK (pU rC (aB (aC pZ (aA 6) (aA 7)) (aB (aA 8) aD))))) (kP (bK (pU tR (aB (aA 8) (aB (aC pZ (aA 6) (aA 7)) aD)))))) (bG (mC (.bl false))) dE)
 (aI (aU 10 (aJ mE [] (aB (aA 1) (aB (mC (.int 2)) aD))))
 (aI (aU 11 (mR fU (aB (bC ["_law_points"] [(10,"_law_shift_here")] (bB (aA 2)) (gN 0) (aJ pM [] (aB (aA 0) (aB (mC (.int 1)) (aB (aA 1) aD))))) aD)))
 (aI (aU 12 (aJ sX [] (aB (aA 10) aD)))
 (aI (cS (kP (bK (pU rC (aB (gZ mX [] (aB (aA 11) (aB (aJ kU [] (aB (aA 3) (aB (aA 4) aD))) aD))) (aB (bC ["_law_points"] [(12,"_law_up")] (bB (aA 6)) (gN 0) (aJ pM [] (aB (aA 0) (aB (mC (.int 1)) (aB (aA 1) aD))))) aD))))) (bG (mC (.bl false))) dE)
 (aI (aU 13 (aJ cC [] (aB (aA 1) (aB (aC aF (mR eC (aB (aA 2) aD)) (mC (.int 1))) aD))))
 (aI (aU 14 (aC pZ (gZ mX [] (aB (mR fU (aB (dG (aA 2) dM (dD (aA 13))) aD)) (aB (aJ kU [] (aB (aA 3) (aB (aA 4) aD))) aD))) (gZ mX [] (aB (mR fU (aB (dG (aA 2) (dD (aA 13)) dM) aD)) (aB (aJ kU [] (aB (aA 3) (aB (aA 4) aD))) aD)))))
 (bG (aC cY (aA 14) (aA 6))))))))))))))))))))
def Lf:FM:=aS 1 15 Zf
abbrev wG(B:Bx):=cE B "sign" 1 ["number"] pR
abbrev Hk(B:Bx):=cE B "divisor" 1 ["one","other"] sV
abbrev Oa(B:Bx):=cE B "reduced" 2 ["numbers"] sW
abbrev zQ(B:Bx):=cE B "lowest_way" 3 ["numbers"] pG
abbrev Um(B:Bx):=uV B "point" 3 ["numbers","bottom"] tJ
abbrev vW(B:Bx):=cE B "added" 4 ["p","q"] kY
abbrev Jm(B:Bx):=cE B "turned" 1 ["p"] wB
abbrev Dj(B:Bx):=cE B "lessened" 5 ["p","q"] vJ
abbrev uX(B:Bx):=cE B "whole_arrow" 1 ["start","end"] lO
abbrev Nt(B:Bx):=cE B "dot" 1 ["u","v"] xW
abbrev Ob(B:Bx):=cE B "normal" 1 ["arrows"] pI
abbrev Vh(B:Bx):=cE B "determinant" 2 ["points"] qN
abbrev Op(B:Bx):=cE B "side" 3 ["points"] pS
abbrev Ha(B:Bx):=uV B "simplex" 4 ["points"] mL
abbrev Wm(B:Bx):=cE B "walls" 1 ["piece"] tH
abbrev Yi(B:Bx):=cE B "in_space" 1 ["p"] qR
abbrev Zh(B:Bx):=uV B "refuse_flat" 1 ["arrow"] sO
abbrev Do(B:Bx):=uV B "prism" 5 ["heap","arrow"] mX
abbrev Oi(B:Bx):=cE B "plane_way" 4 ["wall"] nS
abbrev Bo(B:Bx):=cE B "sides" 1 ["wall"] tK
abbrev Xi(B:Bx):=cE B "put_wall" 5 ["marks","wall","number"] sR
abbrev Fp(B:Bx):=cE B "same" 6 ["one","other"] tR
abbrev Kj(B:Bx):=cE B "is_push" 1 ["move"] vM
abbrev Xh(B:Bx):=cE B "moved_point" 6 ["p","move"] nR
abbrev Qm(B:Bx):=cE B "moved" 7 ["heap","move"] wN
abbrev Nq(B:Bx):=cE B "_law_row" 1 ["_law_script"] tY
abbrev nW(B:Bx):=cE B "_law_take" 1 ["_law_row_here","_law_many"] cC
abbrev Vr(B:Bx):=cE B "_law_gcd" 1 ["_law_one","_law_other"] tW
abbrev mK(B:Bx):=cE B "_law_lowest" 2 ["_law_numbers"] gW
abbrev vI(B:Bx):=cE B "_law_upward" 3 ["_law_numbers"] mO
abbrev Nl(B:Bx):=cE B "_law_whole" 1 ["_law_number"] tE
abbrev Uj(B:Bx):=cE B "_law_wholes" 2 ["_law_told","_law_many"] vN
abbrev vY(B:Bx):=cE B "_law_frac" 3 ["_law_top","_law_bottom"] mW
abbrev Xq(B:Bx):=cE B "_law_sum" 4 ["_law_one","_law_other"] xN
abbrev Ra(B:Bx):=cE B "_law_joined" 3 ["_law_p","_law_q","_law_way"] lR
abbrev wH(B:Bx):=cE B "_law_gap" 1 ["_law_p","_law_q"] nB
abbrev sU(B:Bx):=cE B "_law_cross" 1 ["_law_u","_law_v"] mU
abbrev Hd(B:Bx):=cE B "_law_dot" 1 ["_law_u","_law_v"] tX
abbrev Zb(B:Bx):=cE B "_law_turn" 2 ["_law_ways"] mY
abbrev Kd(B:Bx):=cE B "_law_det" 3 ["_law_points"] oH
abbrev vD(B:Bx):=cE B "_law_simplex" 4 ["_law_points"] lQ
abbrev Ci(B:Bx):=cE B "_law_flat_line" 4 ["_law_p","_law_q"] qO
abbrev Wh(B:Bx):=cE B "_law_space_line" 4 ["_law_p","_law_q"] qM
abbrev Tl(B:Bx):=cE B "_law_plane" 4 ["_law_p","_law_q","_law_r"] qZ
abbrev Kk(B:Bx):=cE B "_law_shuts" 1 ["_law_points"] mP
abbrev Yq(B:Bx):=cE B "_law_put" 1 ["_law_table","_law_key","_law_number"] kZ
abbrev Cn(B:Bx):=cE B "_law_mark" 5 ["_law_table","_law_points","_law_number"] mV
abbrev Sm(B:Bx):=cE B "_law_same" 6 ["_law_one","_law_other"] rC
abbrev Mm(B:Bx):=cE B "_law_gone" 5 ["_law_points","_law_way","_law_far_here"] pM
abbrev Yh(B:Bx):=cE B "_law_point_form" 3 ["_law_p","_law_many"] sN
abbrev Th(B:Bx):=cE B "_law_simplex_form" 5 ["_law_points","_law_many"] sM
abbrev Gi(B:Bx):=cE B "_law_heap_form" 6 ["_law_heap","_law_many"] uZ
abbrev Li(B:Bx):=cE B "_law_raw_turn" 3 ["_law_corners"] qP
abbrev Rr(B:Bx):=cE B "_law_raw" 4 ["_law_row_here","_law_dims","_law_wide"] lY
abbrev Xn(B:Bx):=cE B "_law_kuhn" 2 ["_law_row_here"] wO
abbrev Qi(B:Bx):=cE B "_law_raw_heap" 5 ["_law_row_here","_law_dims","_law_many"] sP
abbrev Qd(B:Bx):=cE B "_law_far" 3 ["_law_row_here","_law_dims"] mE
abbrev Cj(B:Bx):=cE B "_law_stretch" 4 ["_law_row_here","_law_dims"] sS
abbrev Gn(B:Bx):=cE B "_law_spot" 3 ["_law_corner","_law_stretch_here"] pL
abbrev Pm(B:Bx):=cE B "_law_laid" 5 ["_law_row_here","_law_heap","_law_stretch_here"] wK
abbrev Hj(B:Bx):=cE B "_law_raised" 1 ["_law_p"] sX
abbrev Qk(B:Bx):=cE B "_law_shift" 3 ["_law_row_here","_law_dims"] qW
abbrev Ti(B:Bx):=cE B "_law_part_of" 3 ["_law_far_here","_law_share"] kU
structure Mg(mg:Str->AE):Prop where
 m_abs:mg "abs"=none
 m_all:mg "all"=none
 m_any:mg "any"=none
 m_bool:mg "bool"=none
 m_enumerate:mg "enumerate"=none
 m_int:mg "int"=none
 m_isinstance:mg "isinstance"=none
 m_len:mg "len"=none
 m_list:mg "list"=none
 m_range:mg "range"=none
 m_sorted:mg "sorted"=none
 m_sum:mg "sum"=none
 m_tuple:mg "tuple"=none
 m_zip:mg "zip"=none
set_option hygiene false
local macro_rules | `(tactic|trivial)=> `(tactic|(first
 |(with_reducible show eW _ _ _ _ _ aD);exact aba
 |(with_reducible show eW _ _ _ _ _ (aB _ _));refine M2 ?_ ?_
 |(with_reducible show aX _ _ _ _ _ (aA _));exact abN _
 |(with_reducible show aX _ _ _ _ _ (mC (.int _)));(first |exact ab2 |exact Tq rfl (by assumption))
 |(with_reducible show aX _ _ _ _ _ (mC (.bl _)));exact adY
 |(with_reducible show aX _ _ _ _ _ (mC (.tup _)));exact Tq rfl (by assumption)
 |(with_reducible show aX _ _ _ _ _ (bO cB _));refine ad4 acR aeq ?_
 |(with_reducible show aX _ _ _ _ _ (bO qE _));refine acu ?_
 |(with_reducible show aX _ _ _ _ _ (aC pZ _ _));refine qB aaq ab3 ?_ ?_
 |(with_reducible show aX _ _ _ _ _ (aC aF _ _));refine qB abw adM ?_ ?_
 |(with_reducible show aX _ _ _ _ _ (aC dI _ _));refine qB Es adT ?_ ?_
 |(with_reducible show aX _ _ _ _ _ (aC bD _ _));refine qB aat adr ?_ ?_
 |(with_reducible show aX _ _ _ _ _ (aC iO _ _));refine qB K6 abV ?_ ?_
 |(with_reducible show aX _ _ _ _ _ (aC gA _ _));refine qB aaK aej ?_ ?_
 |(with_reducible show aX _ _ _ _ _ (aC gG _ _));refine qB abK ad9 ?_ ?_
 |(with_reducible show aX _ _ _ _ _ (aC aE _ _));refine ad6 ?_ ?_
 |(with_reducible show aX _ _ _ _ _ (aC cY _ _));refine tV (Et (qL hr)) Jv ?_ ?_ (lZ _)
 |(with_reducible show aX _ _ _ _ _ (aC jQ _ _));refine tV (Ss (qL hr)) Nv ?_ ?_ (lZ _)
 |(with_reducible show aX _ _ _ _ _ (aC kB _ _));refine tV Pu Lv ?_ ?_ (lZ _)
 |(with_reducible show aX _ _ _ _ _ (aC fP _ _));refine tV Ju Vv ?_ ?_ (lZ _)
 |(with_reducible show aX _ _ _ _ _ (aC sI _ _));refine tV Xu Kv ?_ ?_ (lZ _)
 |(with_reducible show gC _ _ _ _ _ (bK (aC cY _ _)));refine tG (Et (qL hr)) Jv ?_ ?_ (lZ _)
 |(with_reducible show gC _ _ _ _ _ (bK (aC jQ _ _)));refine tG (Ss (qL hr)) Nv ?_ ?_ (lZ _)
 |(with_reducible show gC _ _ _ _ _ (bK (aC kB _ _)));refine tG Pu Lv ?_ ?_ (lZ _)
 |(with_reducible show gC _ _ _ _ _ (bK (aC fP _ _)));refine tG Ju Vv ?_ ?_ (lZ _)
 |(with_reducible show gC _ _ _ _ _ (bK (aC sI _ _)));refine tG Xu Kv ?_ ?_ (lZ _)
 |(with_reducible show gC _ _ _ _ _ (bK _));refine aas ?_
 |(with_reducible show gC _ _ _ _ _ (kP _));refine aab ?_
 |(with_reducible show gC _ _ _ _ _ (jY _ _));refine kC.pt ?_
 |(with_reducible show gC _ _ _ _ _ (oV _ _));refine kC.pt ?_
 |(with_reducible show kC _ _ _ _ _ (jY _ _));refine abE ?_ ?_
 |(with_reducible show kC _ _ _ _ _ (oV _ _));refine acS ?_ ?_
 |(with_reducible show kC _ _ _ _ _ _);(first |refine L8 ?_ |refine aap ?_)
 |(with_reducible show aX _ _ _ _ _ (uF _ _));refine ace ?_ ?_
 |(with_reducible show aX _ _ _ _ _ (zI _ _ _));refine adZ ?_ ?_ ?_
 |(with_reducible show aX _ _ _ _ _ (mN dF _));refine acj ?_
 |(with_reducible show aX _ _ _ _ _ (mN eP _));refine abQ ?_
 |(with_reducible show aX _ _ _ _ _ (fZ _));refine abp ?_
 |(with_reducible show aX _ _ _ _ _ (dG _ _ _));refine ad2 ?_ ?_ ?_
 |(with_reducible show sE _ _ _ _ _ dM);exact K8
 |(with_reducible show sE _ _ _ _ _ (dD _));refine T9 ?_
 |(with_reducible show aX _ _ _ _ _ (pY _ _));refine aan (qL hr) ?_ ?_
 |(with_reducible show aX _ _ _ _ _ (mG _ _));refine acb (qL hr) ?_ ?_
 |(with_reducible show aX _ _ _ _ _ (jX _));exact aaP _
 |(with_reducible show aX _ _ _ _ _ (uJ _));refine abm rfl rfl m.m_list Kr ?_
 |(with_reducible show aX _ _ _ _ _ (uE _));refine aa9 rfl rfl m.m_any abM ?_
 |(with_reducible show aX _ _ _ _ _ (uG _ _));refine abi rfl rfl m.m_list ?_ ?_
 |(with_reducible show aX _ _ _ _ _ (Tg _));refine acp rfl rfl m.m_list ?_
 |(with_reducible show aX _ _ _ _ _ (eO _ _));refine F8 ?_ ?_
 |(with_reducible show aX _ _ _ _ _ (oP _ _));refine abZ ?_ ?_
 |(with_reducible show aX _ _ _ _ _ (pU _ _));refine adV (by assumption) hr (by decide) rfl ?_
 |(with_reducible show aX _ _ _ _ _ (gZ _ [] _));(first |refine adu (by assumption) hr (by decide) rfl ?_ |refine ac7 (by assumption) hr (by decide) rfl ?_)
 |(with_reducible show aX _ _ _ _ _ (aJ _ [] _));refine adq (by assumption) hr (by decide) rfl ?_
 |(with_reducible show aX _ _ _ _ _ (uA _ [] _));refine adO (by assumption) hr (by decide) rfl ?_
 |(with_reducible show aX _ _ _ _ _ (bO (hJ "int") _));refine Oe (n:="int") rfl m.m_isinstance rfl m.m_int Bs ?_
 |(with_reducible show aX _ _ _ _ _ (bO (hJ "bool") _));refine Oe (n:="bool") rfl m.m_isinstance rfl m.m_bool aaV ?_
 |(with_reducible show aX _ _ _ _ _ (bO (hJ "tuple") _));refine Oe (n:="tuple") rfl m.m_isinstance rfl m.m_tuple Co ?_
 |(with_reducible show aX _ _ _ _ _ (mR eC _));refine sY Ux aeh rfl m.m_len acy ?_
 |(with_reducible show aX _ _ _ _ _ (mR qC _));refine sY M9 aea rfl m.m_abs aci ?_
 |(with_reducible show aX _ _ _ _ _ (mR iZ _));refine sY (J6 rfl) ads rfl m.m_all abY ?_
 |(with_reducible show aX _ _ _ _ _ (mR fU _));refine Db Jx aaX rfl m.m_tuple Co ?_
 |(with_reducible show aX _ _ _ _ _ (mR oE _));refine Db zW abq rfl m.m_list Kr ?_
 |(with_reducible show aX _ _ _ _ _ (mR jL _));refine Db D4 adh rfl m.m_int Bs ?_
 |(with_reducible show aX _ _ _ _ _ (mR qD _));refine sY (Vz rfl) aeo rfl m.m_sum acm ?_
 |(with_reducible show aX _ _ _ _ _ (mR rA _));refine sY Rz acG rfl m.m_sorted E8 ?_
 |(with_reducible show aX _ _ _ _ _ (bC _ _ _ _ _));(first |refine Z7 (by first |exact xV |exact wX |exact wW |exact wV) ?_ rfl (λ_ _ _ _=> ?_) (λ_ _ _ _=> ?_) |refine Q8 abS ?_ rfl (λ_ _ _ _=> ?_) (λ_ _ _ _=> ?_))
 |(with_reducible show aX _ _ _ _ _ (wZ _ _ _ _ _ _));refine J8 (by first |exact xV |exact wX |exact wW |exact wV) ?_ rfl (λ_ _ _ _=> ?_) (λ_ _ _ _=> ?_) (λ_ _ _ _=> ?_)
 |(with_reducible show PIp _ _ _ _ _ _ (jA _));refine aac rfl m.m_zip ?_
 |(with_reducible show PIp _ _ _ _ _ _ (xX _));refine V9 rfl m.m_enumerate ?_
 |(with_reducible show PIp _ _ _ _ _ _ (cG _));refine Hz rfl m.m_range ?_
 |(with_reducible show PIp _ _ _ _ _ _ (nY _));refine Cz rfl m.m_range ?_
 |(with_reducible show PIp _ _ _ _ _ _ (bB _));refine aaa ?_
 |(with_reducible show kQ _ _ _ (gN _));exact Q5 (by first |exact nd |(show(cK _ _).Nodup;decide+kernel)) rfl (by first |exact ik rfl |exact io rfl)
 |(with_reducible show kQ _ _ _ (gT _ _));refine aaC rfl ?_
 |(with_reducible show rV _ _ _ eJ);exact N8
 |(with_reducible show rV _ _ _ (cU _ _));refine E7 ?_ ?_
 |(with_reducible show gS _ _ _ _ _ dE);exact V7
 |(with_reducible show gS _ _ _ _ _ (aI _ _));refine B6 ?_ ?_
 |(with_reducible show gS _ _ _ _ _ _);refine J1 ?_
 |(with_reducible show eH _ _ _ _ _ oI);exact J3
 |(with_reducible show eH _ _ _ _ _ (bG _));refine abB ?_
 |(with_reducible show eH _ _ _ _ _ (cS _ _ _));refine acD ?_ ?_ ?_
 |(with_reducible show eH _ _ _ _ _ (dA _));refine U3 ?_
 |(with_reducible show eH _ _ _ _ _ (rK _));exact A0 rfl (by assumption) (by assumption)
 |(with_reducible show eH _ _ _ _ _ (aU _ (oJ _ _ _ _ _)));refine B7 nd rfl (by first |exact ik rfl |exact io rfl) (by first |exact xV |exact wX |exact wW |exact wV) ?_ rfl (λ_ _ _ _=> ?_) (λ_ _ _ _=> ?_)
 |(with_reducible show eH _ _ _ _ _ (aU _ (bC _ _ _ _ _)));(first |refine J7 nd rfl (by first |exact ik rfl |exact io rfl) (by first |exact xV |exact wX |exact wW |exact wV) ?_ rfl (λ_ _ _ _=> ?_) (λ_ _ _ _=> ?_) |refine Rp nd rfl (by first |exact ik rfl |exact io rfl) ?_)
 |(with_reducible show eH _ _ _ _ _ (aU _ _));refine Rp nd rfl (by first |exact ik rfl |exact io rfl) ?_
 |(with_reducible show eH _ _ _ _ _ (uP _ _ _));refine aaQ rfl nd rfl rfl (by decide) rfl rfl ?_ rfl
 |(with_reducible show eH _ _ _ _ _ (yU _ _));refine aaM ?_ ?_
 |(with_reducible show eH _ _ _ _ _ (kJ _ _ _));refine aby (qL hr) ?_ ?_ ?_
 |(with_reducible show eH _ _ _ _ _ (jW _ _ _));refine A5 ?_ ?_ ?_
 |(with_reducible show eH _ _ _ _ _ (rP _ _));refine J2 nd rfl (by first |exact ik rfl |exact io rfl) ?_
 |(with_reducible show eH _ _ _ _ _ (oC _ _));refine Zz (by first |exact yc |exact yd) ?_ ?_
 |(with_reducible show eH _ _ _ _ _ (yC _ _ _));exact aak (by first |exact yc |exact yd) rfl nd rfl rfl rfl (by first |exact ik rfl |exact io (ik rfl)) (by first |exact ik rfl |exact io rfl) (by first |exact ik rfl |exact io (ik rfl)) (by decide) (by decide)
 |(with_reducible show eH _ _ _ _ _ (bJ _ _ _));refine aaz (by first |exact yc |exact yd) rfl ?_ ?_ ?_)<;>trivial)
set_option hygiene true
section
variable{B:Bx}(X:XG B.K B.mg)(m:Mg B.mg)
include X m
theorem aa7(h:HF B.K "sign" As):wG B:=cO (N:=["number"]) X h bZ λnd _ _ _ _ _ _ _ hr=>by unfold Yd;trivial
theorem Uy(h:HF B.K "divisor" Il):Hk B:=cO (N:=["one","other","rest"]) X h bZ λnd _ _ _ _ _ _ _ hr=>by unfold Nb;trivial
theorem Jz(h:HF B.K "reduced" Cm)(C_divisor:Hk B):Oa B:=cO (N:=["numbers","common","number"]) X h bZ λnd _ _ _ _ _ _ _ hr=>by unfold Ta;trivial
theorem Kx(h:HF B.K "lowest_way" Ki)(C_reduced:Oa B)(C_sign:wG B):zQ B:=cO (N:=["numbers","first"]) X h bZ λnd _ _ _ _ _ _ _ hr=>by unfold zY;trivial
theorem X8{f:Addr}{fd:cc}{dsv:Array Value}(F:oS B.K "point" "point" tN f fd dsv)(C_reduced:Oa B)(C_sign:wG B)(q_NoPoint:B.mg "NoPoint"=some (.ref (B.cl "NoPoint")))(x_NoPoint:jk B.K (B.cl "NoPoint") nA "ValueError.__new__"=true):eR B.P B.w B.K B.mg B.base (dW B.P B.w) 3 f fd ["numbers","bottom"] (lK B.K B.cl tJ):=aeJ (N:=["numbers","bottom"]) F bZ λnd _ _ _ _ _ _ _ hr=>by unfold Zc;trivial
theorem M6(h:HF B.K "added" Wr)(H_point:Um B):vW B:=cO (N:=["p","q","numbers"]) X h bZ λnd _ _ _ _ _ _ _ hr=>by unfold Qc;trivial
theorem B4(h:HF B.K "turned" Ro):Jm B:=cO (N:=["p"]) X h bZ λnd _ _ _ _ _ _ _ hr=>by unfold Hc;trivial
theorem Yx(h:HF B.K "lessened" Lj)(C_added:vW B)(C_turned:Jm B):Dj B:=cO (N:=["p","q"]) X h bZ λnd _ _ _ _ _ _ _ hr=>by unfold Qa;trivial
theorem Zw(h:HF B.K "whole_arrow" Ii):uX B:=cO (N:=["start","end"]) X h bZ λnd _ _ _ _ _ _ _ hr=>by unfold zU;trivial
theorem acW(h:HF B.K "dot" Wu):Nt B:=cO (N:=["u","v"]) X h bZ λnd _ _ _ _ _ _ _ hr=>by unfold Pf;trivial
theorem C4(h:HF B.K "normal" Fo):Ob B:=cO (N:=["arrows","u","v"]) X h bZ λnd _ _ _ _ _ _ _ hr=>by unfold vX;trivial
theorem Xw(h:HF B.K "determinant" Bi)(C_whole_arrow:uX B)(C_dot:Nt B)(C_normal:Ob B):Vh B:=cO (N:=["points","rows"]) X h bZ λnd _ _ _ _ _ _ _ hr=>by unfold uY;trivial
theorem Z8(h:HF B.K "side" Ms)(C_sign:wG B)(C_determinant:Vh B):Op B:=cO (N:=["points"]) X h bZ λnd _ _ _ _ _ _ _ hr=>by unfold xC;trivial
theorem Pz(h:HF B.K "simplex" Bm)(C_side:Op B)(q_Flat:B.mg "Flat"=some (.ref (B.cl "Flat")))(x_Flat:jk B.K (B.cl "Flat") nA "ValueError.__new__"=true):Ha B:=Rh (N:=["points","corners","turn"]) X h bZ λnd _ _ _ _ _ _ _ hr=>by unfold vP;trivial
theorem G5(h:HF B.K "walls" Zp)(gt_FLAT_WALLS:uT B.K B.mg "FLAT_WALLS" (.tup [.tup [.int 0,.int 1],.tup [.int 1,.int 2],.tup [.int 2,.int 0]]))(gt_SPACE_WALLS:uT B.K B.mg "SPACE_WALLS" (.tup [.tup [.int 1,.int 2,.int 3],.tup [.int 0,.int 3,.int 2],.tup [.int 0,.int 1,.int 3],.tup [.int 0,.int 2,.int 1]])):Wm B:=cO (N:=["piece","order"]) X h bZ λnd _ _ _ _ _ _ _ hr=>by unfold Jd;trivial
theorem Dy(h:HF B.K "in_space" Nj):Yi B:=cO (N:=["p"]) X h bZ λnd _ _ _ _ _ _ _ hr=>by unfold Sa;trivial
theorem Ax(h:HF B.K "refuse_flat" Ai)(q_Flat:B.mg "Flat"=some (.ref (B.cl "Flat")))(x_Flat:jk B.K (B.cl "Flat") nA "ValueError.__new__"=true):Zh B:=Rh (N:=["arrow"]) X h bZ λnd _ _ _ _ _ _ _ hr=>by unfold zV;trivial
theorem K9(h:HF B.K "prism" Xo)(H_refuse_flat:Zh B)(C_in_space:Yi B)(C_added:vW B)(H_simplex:Ha B):Do B:=Rh (N:=["heap","arrow","found","piece","low","corners"]) X h bZ λnd _ _ _ _ _ _ _ hr=>by unfold Uc;trivial
theorem Tx(h:HF B.K "plane_way" Ui)(C_lowest_way:zQ B)(C_normal:Ob B)(C_whole_arrow:uX B):Oi B:=cO (N:=["wall"]) X h bZ λnd _ _ _ _ _ _ _ hr=>by unfold vB;trivial
theorem O1(h:HF B.K "sides" Tr):Bo B:=cO (N:=["wall"]) X h bZ λnd _ _ _ _ _ _ _ hr=>by unfold Ud;trivial
theorem Hy(h:HF B.K "put_wall" Oj)(C_plane_way:Oi B)(C_sides:Bo B)(C_lowest_way:zQ B)(C_whole_arrow:uX B):Xi B:=cO (N:=["marks","wall","number","plane","start","end","line","p","mark","key"]) X h bZ λnd _ _ _ _ _ _ _ hr=>by unfold Pa;trivial
theorem aar(h:HF B.K "same" Hs)(C_walls:Wm B)(C_put_wall:Xi B):Fp B:=cO (N:=["one","other","marks","heap","number","piece","wall"]) X h bZ λnd _ _ _ _ _ _ _ hr=>by unfold Pe;trivial
theorem Nz(h:HF B.K "is_push" Yk):Kj B:=cO (N:=["move"]) X h bZ λnd _ _ _ _ _ _ _ hr=>by unfold Ua;trivial
theorem Ex(h:HF B.K "moved_point" Fi)(C_is_push:Kj B)(C_added:vW B)(C_lessened:Dj B):Xh B:=cO (N:=["p","move"]) X h bZ λnd _ _ _ _ _ _ _ hr=>by unfold zR;trivial
theorem O0(h:HF B.K "moved" Mq)(H_simplex:Ha B)(C_moved_point:Xh B):Qm B:=cO (N:=["heap","move"]) X h bZ λnd _ _ _ _ _ _ _ hr=>by unfold Nc;trivial
theorem Y9(h:HF B.K "_law_row" Tt):Nq B:=cO (N:=["_law_script","_law_row_here","_law_k","_law_cell","_law_one","_law_two","_law_three"]) X h bZ λnd _ _ _ _ _ _ _ hr=>by unfold Le;trivial
theorem Q7(h:HF B.K "_law_take" Br):nW B:=cO (N:=["_law_row_here","_law_many","_law_found"]) X h bZ λnd _ _ _ _ _ _ _ hr=>by unfold wP;trivial
theorem aaU(h:HF B.K "_law_gcd" Qt):Vr B:=cO (N:=["_law_one","_law_other"]) X h bZ λnd _ _ _ _ _ _ _ hr=>by unfold Me;trivial
theorem Ly(h:HF B.K "_law_lowest" Yl)(C_wgcd:Vr B):mK B:=cO (N:=["_law_numbers","_law_by","_law_number"]) X h bZ λnd _ _ _ _ _ _ _ hr=>by unfold vR;trivial
theorem Bz(h:HF B.K "_law_upward" Xk)(C_wlowest:mK B):vI B:=cO (N:=["_law_numbers","_law_told","_law_number"]) X h bZ λnd _ _ _ _ _ _ _ hr=>by unfold Fb;trivial
theorem D5(h:HF B.K "_law_whole" Wn):Nl B:=cO (N:=["_law_number"]) X h bZ λnd _ _ _ _ _ _ _ hr=>by unfold Ec;trivial
theorem My(h:HF B.K "_law_wholes" Rl)(C_wwhole:Nl B):Uj B:=cO (N:=["_law_told","_law_many"]) X h bZ λnd _ _ _ _ _ _ _ hr=>by unfold Eb;trivial
theorem O7(h:HF B.K "_law_frac" Ep)(C_wlowest:mK B):vY B:=cO (N:=["_law_top","_law_bottom"]) X h bZ λnd _ _ _ _ _ _ _ hr=>by unfold Td;trivial
theorem abt(h:HF B.K "_law_sum" Zt)(C_wfrac:vY B):Xq B:=cO (N:=["_law_one","_law_other"]) X h bZ λnd _ _ _ _ _ _ _ hr=>by unfold Ge;trivial
theorem Lz(h:HF B.K "_law_joined" Wk)(C_wlowest:mK B):Ra B:=cO (N:=["_law_p","_law_q","_law_way","_law_far_here"]) X h bZ λnd _ _ _ _ _ _ _ hr=>by unfold Bb;trivial
theorem abj(h:HF B.K "_law_gap" Yt):wH B:=cO (N:=["_law_p","_law_q"]) X h bZ λnd _ _ _ _ _ _ _ hr=>by unfold He;trivial
theorem A4(h:HF B.K "_law_cross" Pn):sU B:=cO (N:=["_law_u","_law_v","_law_x","_law_y","_law_z"]) X h bZ λnd _ _ _ _ _ _ _ hr=>by unfold vZ;trivial
theorem aah(h:HF B.K "_law_dot" Wt):Hd B:=cO (N:=["_law_u","_law_v"]) X h bZ λnd _ _ _ _ _ _ _ hr=>by unfold Wd;trivial
theorem M7(h:HF B.K "_law_turn" Uq)(C_wdot:Hd B)(C_wcross:sU B):Zb B:=cO (N:=["_law_ways"]) X h bZ λnd _ _ _ _ _ _ _ hr=>by unfold tM;trivial
theorem abh(h:HF B.K "_law_det" Zr)(C_wturn:Zb B)(C_wgap:wH B):Kd B:=cO (N:=["_law_points"]) X h bZ λnd _ _ _ _ _ _ _ hr=>by unfold xB;trivial
theorem Ay(h:HF B.K "_law_simplex" Zj)(C_wdet:Kd B):vD B:=cO (N:=["_law_points","_law_told"]) X h bZ λnd _ _ _ _ _ _ _ hr=>by unfold vH;trivial
theorem Hx(h:HF B.K "_law_flat_line" Pi)(C_wupward:vI B)(C_wcross:sU B):Ci B:=cO (N:=["_law_p","_law_q"]) X h bZ λnd _ _ _ _ _ _ _ hr=>by unfold zX;trivial
theorem Dx(h:HF B.K "_law_space_line" Di)(C_wupward:vI B)(C_wgap:wH B)(C_wcross:sU B):Wh B:=cO (N:=["_law_p","_law_q"]) X h bZ λnd _ _ _ _ _ _ _ hr=>by unfold zS;trivial
theorem E4(h:HF B.K "_law_plane" Ao)(C_wcross:sU B)(C_wgap:wH B)(C_wupward:vI B)(C_wdot:Hd B):Tl B:=cO (N:=["_law_p","_law_q","_law_r","_law_out"]) X h bZ λnd _ _ _ _ _ _ _ hr=>by unfold Ub;trivial
theorem Yz(h:HF B.K "_law_shuts" Mn):Kk B:=cO (N:=["_law_points","_law_p","_law_q","_law_r","_law_s"]) X h bZ λnd _ _ _ _ _ _ _ hr=>by unfold Cc;trivial
theorem aa5(h:HF B.K "_law_put" Ht):Yq B:=cO (N:=["_law_table","_law_key","_law_number"]) X h bZ λnd _ _ _ _ _ _ _ hr=>by unfold Ke;trivial
theorem P4(h:HF B.K "_law_mark" Yp)(C_wflat_line:Ci B)(C_wput:Yq B)(C_wspace_line:Wh B)(C_wshuts:Kk B)(C_wplane:Tl B):Cn B:=cO (N:=["_law_table","_law_points","_law_number","_law_k","_law_p","_law_q","_law_line","_law_lines","_law_m","_law_shut","_law_flat"]) X h bZ λnd _ _ _ _ _ _ _ hr=>by unfold wL;trivial
theorem S6(h:HF B.K "_law_same" Bp)(C_wmark:Cn B):Sm B:=cO (N:=["_law_one","_law_other","_law_table","_law_points"]) X h bZ λnd _ _ _ _ _ _ _ hr=>by unfold Dd;trivial
theorem S5(h:HF B.K "_law_gone" Cr)(C_wsimplex:vD B)(C_wjoined:Ra B):Mm B:=cO (N:=["_law_points","_law_way","_law_far_here"]) X h bZ λnd _ _ _ _ _ _ _ hr=>by unfold Vc;trivial
theorem Yw(h:HF B.K "_law_point_form" Hi)(C_wwholes:Uj B)(C_wlowest:mK B):Yh B:=cO (N:=["_law_p","_law_many"]) X h bZ λnd _ _ _ _ _ _ _ hr=>by unfold zT;trivial
theorem Tw(h:HF B.K "_law_simplex_form" Uh)(C_wpoint_form:Yh B)(C_wdet:Kd B)(C_wsimplex:vD B):Th B:=cO (N:=["_law_points","_law_many"]) X h bZ λnd _ _ _ _ _ _ _ hr=>by unfold zP;trivial
theorem Fx(h:HF B.K "_law_heap_form" Ni)(C_wsimplex_form:Th B):Gi B:=cO (N:=["_law_heap","_law_many"]) X h bZ λnd _ _ _ _ _ _ _ hr=>by unfold zZ;trivial
theorem Qx(h:HF B.K "_law_raw_turn" Si)(C_wturn:Zb B):Li B:=cO (N:=["_law_corners"]) X h bZ λnd _ _ _ _ _ _ _ hr=>by unfold Ca;trivial
theorem aaR(h:HF B.K "_law_raw" Ct)(C_wtake:nW B)(C_wraw_turn:Li B):Rr B:=cO (N:=["_law_row_here","_law_dims","_law_wide","_law_corners","_law_k"]) X h bZ λnd _ _ _ _ _ _ _ hr=>by unfold Af;trivial
theorem M3(h:HF B.K "_law_kuhn" Ap)(C_wtake:nW B):Xn B:=mkL (N:=["_law_row_here","_law_rest","_law_corner","_law_corners","_law_k","_law_m"]) X h bZ λnd _ _ _ _ _ _ _ hr=>by unfold Hq;trivial
theorem Px(h:HF B.K "_law_raw_heap" Bj)(C_wtake:nW B)(C_wraw:Rr B)(C_wkuhn:Xn B):Qi B:=cO (N:=["_law_row_here","_law_dims","_law_many","_law_heap","_law_k","_law_kind"]) X h bZ λnd _ _ _ _ _ _ _ hr=>by unfold Aa;trivial
theorem aau(h:HF B.K "_law_far" Ks)(C_wtake:nW B)(C_wlowest:mK B):Qd B:=cO (N:=["_law_row_here","_law_dims","_law_kind","_law_wide","_law_under","_law_far_here"]) X h bZ λnd _ _ _ _ _ _ _ hr=>by unfold Re;trivial
theorem By(h:HF B.K "_law_stretch" Ik)(C_wtake:nW B)(C_wfrac:vY B):Cj B:=cO (N:=["_law_row_here","_law_dims","_law_told","_law_k","_law_kind"]) X h bZ λnd _ _ _ _ _ _ _ hr=>by unfold Ea;trivial
theorem Q3(h:HF B.K "_law_spot" Uo)(C_wlowest:mK B):Gn B:=cO (N:=["_law_corner","_law_stretch_here","_law_under","_law_part","_law_far_here"]) X h bZ λnd _ _ _ _ _ _ _ hr=>by unfold wI;trivial
theorem Q4(h:HF B.K "_law_laid" Xr)(C_wfar:Qd B)(C_wsimplex:vD B)(C_wjoined:Ra B)(C_wspot:Gn B):Pm B:=cO (N:=["_law_row_here","_law_heap","_law_stretch_here","_law_told","_law_corners","_law_far_here"]) X h bZ λnd _ _ _ _ _ _ _ hr=>by unfold Fd;trivial
theorem Gz(h:HF B.K "_law_raised" Mk):Hj B:=cO (N:=["_law_p"]) X h bZ λnd _ _ _ _ _ _ _ hr=>by unfold Xa;trivial
theorem Wz(h:HF B.K "_law_shift" Ko)(C_wtake:nW B)(C_wlowest:mK B):Qk B:=cO (N:=["_law_row_here","_law_dims","_law_wide","_law_under","_law_far_here"]) X h bZ λnd _ _ _ _ _ _ _ hr=>by unfold Yb;trivial
theorem Ky(h:HF B.K "_law_part_of" Gk)(C_wlowest:mK B):Ti B:=cO (N:=["_law_far_here","_law_share"]) X h bZ λnd _ _ _ _ _ _ _ hr=>by unfold La;trivial
theorem aco{f:Addr}{fd:cc}(F:jD B.K "law" "law" oM f fd)(C_wrow:Nq B)(C_wlaid:Pm B)(C_wstretch:Cj B)(C_wraw_heap:Qi B)(C_wshift:Qk B)(C_wfrac:vY B)(C_wtake:nW B)(H_prism:Do B)(C_wpart_of:Ti B)(C_moved:Qm B)(C_wsum:Xq B)(C_wheap_form:Gi B)(C_wsame:Sm B)(C_same:Fp B)(C_wfar:Qd B)(C_wgone:Mm B)(C_wraised:Hj B):eR B.P B.w B.K B.mg B.base fM 8 f fd ["_law_script"] (lI B.K B.cl Lf):=mkR (N:=["_law_script","_law_row_here","_law_heap","_law_far_here","_law_one","_law_other","_law_low","_law_high","_law_whole_here","_law_told","_law_shift_here","_law_pushed_heap","_law_up","_law_at","_law_apart"]) F bZ λnd _ _ _ _ _ _ _ hr=>by unfold Zf;trivial
end
local macro_rules
 | `(tactic|simp! [$l,*] $[$loc:location]?)=>`(tactic|simp[jV,aI,cS,bK,kP,jY,oV,uF,aeH,zI,aC,bO,mR,mN,aB,aA,mC,aD,bQ.bind,uD,lD,oN,Rf,iG,rd,oK,jF,eC,dF,eP,cB,qE,lN,cV.of,bG,oI,dE,dA,aU,oG,nC,aJ,gZ,uA,qC,fU,oE,cY,jQ,frz,lE,$l,*] $[$loc]?)
theorem J9(S:aG)(k:Nat)(o:SO):(S.set k o).take S.length=S.set k o:=tz (by simp)
def fF(S:aG)(k:Nat)(ns:AA):Prop:=S[k]?=some (.lst (ns.map .int))
theorem fF.lt{S:aG}{k:Nat}{ns:AA}(h:fF S k ns):k<S.length:=(ca.mp h).1
theorem fF.set{S:aG}{k:Nat}{ns:AA}(h:fF S k ns)(ms:AA):fF (S.set k (.lst (ms.map .int))) k ms:=dq h.lt
theorem Wj{r:bV}{k:Nat}{m:AV}:∀(ns:AA)(S:aG),fF S k ns->∃n ns',eM (jY (bK (aC fP (mR eC (aB (aA 0) aD)) (mC (.int 0)))) (bK (aC cY (aC aE (aA 0) (mC (.int 0))) (mC (.int 0))))) (dA (oP (aA 0) (aB (mC (.int 0)) aD))) n (some (.ref k)::some m::r) S=.nx (some (.ref k)::some m::r) (S.set k (.lst (ns'.map .int)))/\ns'.length<=ns.length/\(ns'=[]\/∃i t,ns'=i::t/\i≠0)
 |[],S,h=>by
  refine⟨1,[],?_,aj _,.inl rfl⟩;have h':S[k]?=some (.lst []):=h;have e:S.set k (.lst (([]:AA).map .int))=S:=jt λi=>by
   by_cases q:k=i
   .subst q;rw[dq h.lt,h'];rfl
   .rw[dr q]
  rw[e];simp[eM,jY,bK,aC,mR,aB,aA,mC,aD,bQ.bind,oN,iG,rd,h',jF,eC,lD,fP,i2,lN,cV.of]
 |i::t,S,h=>by
  have h':S[k]?=some (.lst (.int i::t.map .int)):=h
  by_cases hi:i=0
  .subst hi
   have hr:fF (S.set k (.lst (t.map .int))) k t:=h.set t;obtain⟨n,ns',e,l,q⟩:=Wj (r:=r) (m:=m) t _ hr;refine⟨n+1,ns',?_,by simp;omega,q⟩;rw[kl]at e;rw[<-e];have hl:(0:Int)<(t.length:Int)+1:=by omega
   simp[eM,jY,bK,aC,mR,aB,aA,mC,aD,bQ.bind,oN,iG,rd,h',jF,eC,lD,fP,i2,lN,cV.of,aE,aZ,bA,cY,aK,dA,oP,fN,pX,seqIndex?,hl]
  .refine⟨1,i::t,?_,aj _,.inr ⟨i,t,rfl,hi⟩⟩
   have e:S.set k (.lst ((i::t).map .int))=S:=jt λj=>by
    by_cases q:k=j
    .subst q;rw[dq h.lt,h'];rfl
    .rw[dr q]
   rw[e];have hl:(0:Int)<(t.length:Int)+1:=by omega
   simp[eM,jY,bK,aC,mR,aB,aA,mC,aD,bQ.bind,oN,iG,rd,h',jF,eC,lD,fP,i2,lN,cV.of,aE,aZ,bA,cY,aK,hl,hi]
theorem gX{S:aG}{k:Nat}{ns:AA}{m:Int}(h:fF S k ns)(hm:0<m)(b:Bd 8000 m):∃(v:Int)(ns':AA),cC [.ref k,.pv (.int m)] S=.ok (.pv (.int v)) (S.set k (.lst (ns'.map .int)))/\0<=v/\v<m/\ns'.length<=ns.length:=by
 obtain⟨n,ns',e,l,q⟩:=Wj (r:=[none]) (m:=.pv (.int m)) ns S h;have hr:=h.set ns';have hl1:(S.set k (.lst (ns'.map .int))).length=S.length:=by simp
 have hss:∀x,(S.set k (.lst (ns'.map .int))).set k x=S.set k x:=λx=>kl ..;generalize hS1:S.set k (.lst (ns'.map .int))=S1 at e hr hl1 hss;have w:=Za e (by simp);rcases q with rfl |⟨i,t,rfl,hi⟩
 .refine⟨0,[],?_,qw 0,hm,fw _⟩
  rw[hS1];have hr':S1[k]?=some (.lst []):=hr;have tk:List.take S.length S1=S1:=tz (by omega);unfold cC aS wP;simp[jV,aI,w,cS,bK,aC,mR,aB,aA,mC,aD,bQ.bind,oN,iG,rd,hr',jF,eC,lD,cY,aK,lN,cV.of,bG,oG,nC,tk]
 .have hr':S1[k]?=some (.lst (.int i::t.map .int)):=hr
  refine⟨i.fmod m,i.fdiv m::t,?_,o9 i hm,Int.fmod_lt_of_pos i hm,l⟩;rw[<-hss];have tk:∀x,List.take S.length (S1.set k x)=S1.set k x:=λx=>tz (by simp;omega);have hl:¬((t.length:Int)+1=0):=by omega
  have hq:rS i m:=⟨by omega,b⟩;have hm0:m≠0:=by omega
  unfold cC aS wP;simp[jV,aI,w,cS,bK,aC,mR,aB,aA,mC,aD,bQ.bind,oN,iG,rd,hr',jF,eC,lD,cY,aK,lN,cV.of,bG,oG,nC,tk,dE,hl,aU,gA,iO,i2,cI,aE,aZ,bA,hm0,hq,jW,fN,oO]
theorem aN(i j:Int):fP (.int i) (.int j)=some (.bl (decide (j<i))):=rfl
theorem aO(i j:Int):kB (.int i) (.int j)=some (.bl (decide (i<j))):=rfl
theorem aM(i j:Int):sI (.int i) (.int j)=some (.bl (decide (j<=i))):=rfl
theorem aP(i j:Int):fLe (.int i) (.int j)=some (.bl (decide (i<=j))):=rfl
theorem aL(i j:Int):dI (.int i) (.int j)=some (.int (i-j)):=rfl
theorem lV{i j:Int}(h:rR i j):bD (.int i) (.int j)=some (.int (i*j)):=by
 simp[bD,i2,cI,h]
theorem pJ{i j:Int}(h:rS i j):iO (.int i) (.int j)=some (.int (i.fdiv j)):=by
 simp[iO,i2,cI,h]
theorem nZ{i j:Int}(h:j≠0):gA (.int i) (.int j)=some (.int (i.fmod j)):=by
 simp[gA,i2,cI,h]
theorem wR{i j:Int}(h:yR i j):gG (.int i) (.int j)=some (.int (i^j.toNat)):=by
 simp[gG,i2,cI,h]
theorem Vd(n:Int)(S:aG):pR [.pv (.int n)] S=.ok (.pv (.int (sg n))) S:=by
 unfold pR aS Yd sg
 by_cases h1:0<n
 .simp[jV,aI,cS,bK,aC,aA,mC,bQ.bind,lD,rd,jF,fP,i2,lN,cV.of,bG,oG,nC,h1]
 .by_cases h2:n<0
  .simp[jV,aI,cS,bK,aC,aA,mC,bQ.bind,lD,rd,jF,fP,kB,i2,lN,cV.of,bG,oG,nC,h1,h2,dE,bO,uD,cB]
  .simp[jV,aI,cS,bK,aC,aA,mC,bQ.bind,lD,rd,jF,fP,kB,i2,lN,cV.of,bG,oG,nC,h1,h2,dE,bO,uD,cB]
theorem Ji(S:aG):∀(m:Nat)(a b:Int)(x:AJ),b.natAbs<=m->∃(n:Nat)(g:Int)(x':AJ),eM (bK (aC jQ (aA 1) (mC (.int 0)))) (aI (aU 2 (aC gA (aA 0) (aA 1))) (aI (aU 0 (aA 1)) (aU 1 (aA 2)))) n [some (.pv (.int a)),some (.pv (.int b)),x] S=.nx [some (.pv (.int g)),some (.pv (.int 0)),x'] S/\g.natAbs=ce a b
 |0,a,b,x,h=>by
  have hb:b=0:=by omega
  subst hb;refine⟨1,a,x,?_,by simp⟩;simp! [eM,aE,aZ,bA,aK,aN,aO,aM,aP,aF,aL]
 |m+1,a,b,x,h=>by
  by_cases hb:b=0
  .subst hb
   refine⟨1,a,x,?_,by simp⟩;simp! [eM,aE,aZ,bA,aK,aN,aO,aM,aP,aF,aL]
  .have hl:=Pk a hb
   obtain⟨n,g,x',e,q⟩:=Ji S m b (a.fmod b) (some (.pv (.int (a.fmod b)))) (by omega);refine⟨n+1,g,x',?_,by rw[q,Vn]⟩;rw[<-e];simp! [eM,aE,aZ,bA,aK,aN,aO,aM,aP,aF,aL,nZ hb,hb]
theorem Vy(a b:Int)(S:aG):sV [.pv (.int a),.pv (.int b)] S=.ok (.pv (.int (ce a b:Nat))) S:=by
 obtain⟨n,g,x',e,q⟩:=Ji S b.natAbs a b none (aj _);have w:=Za e (by simp);unfold sV aS Nb;have hg:(if g<0 then-g else g)=((ce a b:Nat):Int):=by rw[<-q];exact Ce g
 simp! [aE,aZ,bA,aK,aN,aO,aM,aP,aF,aL,w,hg]
theorem Ml(S:aG):∀(m:Nat)(a b:Int),0<=a->0<=b->b.natAbs<=m->∃(n:Nat),eM (bK (aC fP (aA 1) (mC (.int 0)))) (uP 0 1 (aB (aA 1) (aB (aC gA (aA 0) (aA 1)) aD))) n [some (.pv (.int a)),some (.pv (.int b))] S=.nx [some (.pv (.int (ce a b:Nat))),some (.pv (.int 0))] S
 |0,a,b,ha,hb,h=>by
  have hb:b=0:=by omega
  subst hb;have ea:((ce a 0:Nat):Int)=a:=by simp;omega
  refine⟨1,?_⟩;rw[ea];simp! [eM,aE,aZ,bA,aK,aN,aO,aM,aP,aF,aL]
 |m+1,a,b,ha,hb,h=>by
  by_cases h0:b=0
  .subst h0
   have ea:((ce a 0:Nat):Int)=a:=by simp;omega
   refine⟨1,?_⟩;rw[ea];simp! [eM,aE,aZ,bA,aK,aN,aO,aM,aP,aF,aL]
  .have hl:=Pk a h0
   have hp:0<b:=by omega
   obtain⟨n,e⟩:=Ml S m b (a.fmod b) hb (o9 a hp) (by omega);refine⟨n+1,?_⟩;rw[<-Vn,<-e];simp! [eM,aE,aZ,bA,aK,aN,aO,aM,aP,aF,aL,nZ h0,hp,uP]
theorem ac6(a b:Int)(S:aG):tW [.pv (.int a),.pv (.int b)] S=.ok (.pv (.int (ce a b:Nat))) S:=by
 have ha:0<=(if a<0 then-a else a):=by split<;>omega
 have hb:0<=(if b<0 then-b else b):=by split<;>omega
 obtain⟨n,e⟩:=Ml S _ _ _ ha hb (aj _);have w:=Za e (by simp);have eg:ce (if a<0 then-a else a) (if b<0 then-b else b)=ce a b:=by
  rw[Ce,Ce];simp[ce]
 rw[eg]at w;unfold tW aS Me;simp! [aE,aZ,bA,aK,aN,aO,aM,aP,aF,aL,w]
theorem Qb(S:aG)(v2:AJ):∀(ns:AA)(g:Int)(a:AV),∃v',dZ [] (gN 2) (aU 1 (aJ tW [] (aB (aA 1) (aB (aA 2) aD)))) (ns.map .int) [some a,some (.pv (.int g)),v2] S=.nx [some a,some (.pv (.int (gl ns g))),v'] S
 |[],g,a=>⟨v2,fR⟩
 |n::ns,g,a=>by
  obtain⟨v',e⟩:=Qb S (some (.pv (.int n))) ns (ce g n:Nat) a;refine⟨v',?_⟩;show dZ [] _ _ (.int n::ns.map .int) _ S=_;rw[fG];simp! [gN,aE,aZ,bA,aK,aN,aO,aM,aP,aF,aL,ac6];exact e
theorem vV(S:aG)(g:Int)(hg:g≠0)(b:Bd 8000 g):∀(ns:AA)(x:AJ),cD [] (gN 0) (aC iO (aA 0) (aA 1)) (ns.map .int) [x,some (.pv (.int g))] S=.ok ((ns.map λn=>n.fdiv g).map .int) S
 |[],x=>eA
 |n::ns,x=>by
  have ih:=vV S g hg b ns (some (.pv (.int n)));show cD [] _ _ (.int n::ns.map .int) _ S=_;rw[eF];simp! [gN,aE,aZ,bA,aK,aN,aO,aM,aP,aF,aL,pJ (show rS n g from⟨hg,b⟩),ih]
theorem mM(ns:AA)(S:aG)(hb:∀n∈ns,Bd 8000 n):gW [.pv (.lst (ns.map .int))] S=.ok (.pv (.tup ((low ns).map .int))) S:=by
 obtain⟨v',e⟩:=Qb S none ns 0 (.pv (.lst (ns.map .int)));unfold gW aS vR
 by_cases h:gl ns 0=0
 .have el:low ns=ns:=by unfold low;rw[if_pos h]
  simp! [aE,aZ,bA,aK,aN,aO,aM,aP,aF,aL,bJ,bB,bW,e,h,el]
 .have el:low ns=ns.map λn=>n.fdiv (gl ns 0):=by
   unfold low;rw[if_neg h];exact dz λn hn=>(qx ((jU ns 0).2 n hn)).symm
  have bg:Bd 8000 (gl ns 0):=xZ (Bd.of (n:=0) (by simp) (og 8000)) hb;have ec:=vV S (gl ns 0) h bg ns none;simp! [aE,aZ,bA,aK,aN,aO,aM,aP,aF,aL,bJ,bB,bW,e,h,el,bC,bX,ec]
theorem U4(n:Int)(S:aG):tE [.pv (.int n)] S=.ok (.pv (.bl true)) S:=by
 unfold tE aS Ec;simp! [aE,aZ,bA,aK,aN,aO,aM,aP,aF,aL,hJ]
theorem Vi(S:aG):∀(ns:AA)(x:AJ),cD [] (gN 0) (aJ tE [] (aB (aA 0) aD)) (ns.map .int) [x] S=.ok (ns.map λ_=>.bl true) S
 |[],x=>eA
 |n::ns,x=>by
  have ih:=Vi S ns (some (.pv (.int n)));show cD [] _ _ (.int n::ns.map .int) _ S=_;rw[eF];simp! [gN,aE,aZ,bA,aK,aN,aO,aM,aP,aF,aL,U4,ih]
theorem Vm:∀(ns:AA),kH (ns.map λ_=>PV.bl true)=some (ns.map λ_=>true)
 |[]=>rfl
 |n::ns=>by
  show kH (.bl true::ns.map λ_=>PV.bl true)=_;unfold kH;rw[Vm ns];rfl
theorem D8(ns:AA)(S:aG):vN [.pv (.tup (ns.map .int)),.pv (.int ns.length)] S=.ok (.pv (.bl true)) S:=by
 unfold vN aS Eb;have e:=Vi S ns none;have ea:((ns.map λ_=>true).all id)=true:=by simp
 simp! [aE,aZ,bA,aK,aN,aO,aM,aP,aF,aL,hJ,bC,bB,bW,bX,e,iZ,Vm]
theorem Qq:∀(n:Nat)(ns:AA),jI (ci (aK n) (ns.map .int) (ns.map .int))=some (ns.map λ_=>true)
 |n,[]=>rfl
 |n,m::ns=>by
  have ih:=Qq n ns;simp only[aq,ua];have e:aK n (.int m) (.int m)=some true:=by cases n<;>simp[aK]
  rw[e];unfold jI;rw[ih]
theorem Vp(n:Nat)(ns:AA):aK (n+1) (.tup (ns.map .int)) (.tup (ns.map .int))=some true:=by
 rw[aK,Qq];simp
theorem Az(ns:AA)(S:aG)(hb:∀n∈ns,Bd 8000 n):gW [.pv (.tup (ns.map .int))] S=.ok (.pv (.tup ((low ns).map .int))) S:=by
 obtain⟨v',e⟩:=Qb S none ns 0 (.pv (.tup (ns.map .int)));unfold gW aS vR
 by_cases h:gl ns 0=0
 .have el:low ns=ns:=by unfold low;rw[if_pos h]
  simp! [aE,aZ,bA,aK,aN,aO,aM,aP,aF,aL,bJ,bB,bW,e,h,el]
 .have el:low ns=ns.map λn=>n.fdiv (gl ns 0):=by
   unfold low;rw[if_neg h];exact dz λn hn=>(qx ((jU ns 0).2 n hn)).symm
  have bg:Bd 8000 (gl ns 0):=xZ (Bd.of (n:=0) (by simp) (og 8000)) hb;have ec:=vV S (gl ns 0) h bg ns none;simp! [aE,aZ,bA,aK,aN,aO,aM,aP,aF,aL,bJ,bB,bW,e,h,el,bC,bX,ec]
theorem nG(i:Int){j:Int}(h1:-(2^64)<j)(h2:j<2^64):bD (.int i) (.int j)=some (.int (i*j)):=lV (.inl (.inr ⟨h1,h2⟩))
theorem Iw:gG (.int 10) (.int 18)=some (.int 1000000000000000000):=wR (i:=10) (j:=18) ⟨by decide,by decide,by decide⟩
theorem Bc{k:Nat}{a:AV}:∀(cs:AA)(n:Nat)(acc:AA)(S:aG)(v2 v3 v4 v5 v6:AJ),fF S k acc->acc.length+cs.length<=63->n+cs.length<=63->∃(acc':AA)(w2 w3 w4 w5 w6:AJ),dZ [] (gT 2 (cU (gN 2) (cU (gN 3) eJ))) ((cS (bK (aC sI (aA 3) (aC gG (mC (.int 10)) (mC (.int 18))))) (dA (eO (aA 1) (aB (aC dI (aA 3) (aC gG (mC (.int 10)) (mC (.int 18)))) aD))) (aI (aU 4 (aC gA (aC bD (aC aF (aC aF (aC aF (aA 3) (aC bD (aC bD (mC (.int 7)) (aA 2)) (aA 2))) (aC bD (mC (.int 13)) (aA 2))) (mC (.int 5))) (mC (.int 48271))) (mC (.int 2147483647))))
 (aI (aU 5 (aC gA (aC bD (aC aF (aC aF (aC aF (aA 3) (aC bD (aC bD (mC (.int 11)) (aA 2)) (aA 2))) (aC bD (mC (.int 17)) (aA 2))) (mC (.int 3))) (mC (.int 40692))) (mC (.int 2147483399))))
 (aI (aU 6 (aC gA (aC bD (aC aF (aC aF (aC aF (aA 3) (aC bD (aC bD (mC (.int 5)) (aA 2)) (aA 2))) (aC bD (mC (.int 29)) (aA 2))) (mC (.int 8))) (mC (.int 39373))) (mC (.int 2147483587))))
 (aI (aU 4 (aC gA (aC bD (aA 4) (mC (.int 52021))) (mC (.int 1000000007))))
 (aI (aU 5 (aC gA (aC bD (aA 5) (mC (.int 30011))) (mC (.int 998244353))))
 (aI (aU 6 (aC gA (aC bD (aA 6) (mC (.int 45989))) (mC (.int 1000000009))))
 (dA (eO (aA 1) (aB (aC aF (aC bD (aC aF (aC bD (aA 4) (mC (.int 998244353))) (aA 5)) (mC (.int 1000000009))) (aA 6)) aD))))))))))) (jK n (cs.map .int)) [some a,some (.ref k),v2,v3,v4,v5,v6] S=.nx [some a,some (.ref k),w2,w3,w4,w5,w6] (S.set k (.lst (acc'.map .int)))/\acc'.length<=63
 |[],n,acc,S,v2,v3,v4,v5,v6,h,hl,_=>by
  refine⟨acc,v2,v3,v4,v5,v6,?_,by simpa using hl⟩;have e:S.set k (.lst (acc.map .int))=S:=jt λj=>by
   by_cases q:k=j
   .subst q;rw[dq h.lt];exact h.symm
   .rw[dr q]
  rw[e];exact fR
 |x::cs,n,acc,S,v2,v3,v4,v5,v6,h,hl,hn=>by
  simp only[cr]at hl hn;have h':S[k]?=some (.lst (acc.map .int)):=h;have hlen:acc.length<16777216:=by omega
  have hk1:-(2^64)<(n:Int):=by omega
  have hk2:(n:Int)<2^64:=by omega
  by_cases c:(1000000000000000000:Int)<=x
  .obtain⟨acc',w2,w3,w4,w5,w6,e,q⟩:=Bc (k:=k) (a:=a) cs (n+1) (acc++[x-1000000000000000000]) (S.set k (.lst ((acc++[x-1000000000000000000]).map .int))) (some (.pv (.int n))) (some (.pv (.int x))) v4 v5 v6 (h.set _) (by simp;omega) (by omega)
   refine⟨acc',w2,w3,w4,w5,w6,?_,q⟩;rw[kl]at e;rw[<-e];show dZ [] _ _ (.tup [.int n,.int x]::jK (n+1) (cs.map .int)) _ S=_;rw[fG];simp! [gT,cU,eJ,gN,aE,aZ,bA,aK,aN,aO,aM,aP,aF,aL,Iw,c,eO,fN,kL,h',hlen]
  .obtain⟨acc',w2,w3,w4,w5,w6,e,q⟩:=Bc (k:=k) (a:=a) cs (n+1) (acc++[((((x+7*n*n+13*n+5)*48271).fmod 2147483647*52021).fmod 1000000007*998244353+(((x+11*n*n+17*n+3)*40692).fmod 2147483399*30011).fmod 998244353)*1000000009+(((x+5*n*n+29*n+8)*39373).fmod 2147483587*45989).fmod 1000000009]) (S.set k (.lst ((acc++[((((x+7*n*n+13*n+5)*48271).fmod 2147483647*52021).fmod 1000000007*998244353+(((x+11*n*n+17*n+3)*40692).fmod 2147483399*30011).fmod 998244353)*1000000009+(((x+5*n*n+29*n+8)*39373).fmod 2147483587*45989).fmod 1000000009]).map .int))) (some (.pv (.int n))) (some (.pv (.int x))) (some (.pv (.int ((((x+7*n*n+13*n+5)*48271).fmod 2147483647*52021).fmod 1000000007)))) (some (.pv (.int ((((x+11*n*n+17*n+3)*40692).fmod 2147483399*30011).fmod 998244353)))) (some (.pv (.int ((((x+5*n*n+29*n+8)*39373).fmod 2147483587*45989).fmod 1000000009)))) (h.set _) (by simp;omega) (by omega)
   refine⟨acc',w2,w3,w4,w5,w6,?_,q⟩;rw[kl]at e;rw[<-e];show dZ [] _ _ (.tup [.int n,.int x]::jK (n+1) (cs.map .int)) _ S=_;rw[fG];simp! [gT,cU,eJ,gN,aE,aZ,bA,aK,aN,aO,aM,aP,aF,aL,Iw,c,eO,fN,kL,h',hlen,nG _ hk1 hk2,nG _ (show-(2^64)<(48271:Int) by decide) (by decide),nG _ (show-(2^64)<(40692:Int) by decide) (by decide),nG _ (show-(2^64)<(39373:Int) by decide) (by decide),nG _ (show-(2^64)<(52021:Int) by decide) (by decide),nG _ (show-(2^64)<(30011:Int) by decide) (by decide),nG _ (show-(2^64)<(45989:Int) by decide) (by decide),nG _ (show-(2^64)<(998244353:Int) by decide) (by decide),nG _ (show-(2^64)<(1000000009:Int) by decide) (by decide),nZ (show(2147483647:Int)≠0 by decide),nZ (show(2147483399:Int)≠0 by decide),nZ (show(2147483587:Int)≠0 by decide),nZ (show(1000000007:Int)≠0 by decide),nZ (show(998244353:Int)≠0 by decide),nZ (show(1000000009:Int)≠0 by decide)]
theorem abT(ns:AA)(S:aG)(h:ns.length<=63):∃ms:AA,tY [.pv (.lst (ns.map .int))] S=.ok (.ref S.length) (S++[.lst (ms.map .int)])/\ms.length<=63:=by
 have hr:fF (S++[.lst []]) S.length []:=by unfold fF;simp
 obtain⟨ms,w2,w3,w4,w5,w6,e,q⟩:=Bc (a:=.pv (.lst (ns.map .int))) ns 0 [] (S++[.lst []]) none none none none none hr (by simpa using h) (by simpa using h);have ec:iR (ns.map .int) none (some 63)=ns.map .int:=by
  unfold iR;have e1:HT.sIx (ns.map PV.int).length 0 none=0:=rfl;have e2:HT.sIx (ns.map PV.int).length (ns.map PV.int).length (some 63)=(ns.map PV.int).length:=by
   have:=HT.sIx_nat (ns.map PV.int).length (ns.map PV.int).length 63;rw[show((63:Nat):Int)=63 from rfl]at this;rw[this,am];omega
  rw[e1,e2,List.drop_zero,Nat.sub_zero,xo]
 refine⟨ms,?_,q⟩;have es:(S++[SO.lst []]).set S.length (.lst (ms.map .int))=S++[.lst (ms.map .int)]:=by simp
 rw[es]at e;unfold tY aS Le;simp! [aE,aZ,bA,aK,aN,aO,aM,aP,aF,aL,bJ,fZ,nE,xX,dG,dM,dD,fT,gL,Ve,ec,e]
theorem abg{L:AA}(h:gl L 0≠0):(low L).map (gl L 0*·)=L:=by
 unfold low;rw[if_neg h,dh]
 conv=>rhs;rw[<-ph L]
 refine dz λn hn=>?_;show gl L 0*(n/gl L 0)=n;exact Int.mul_ediv_cancel' ((jU L 0).2 n hn)
theorem abo{L:AA}(h:gl L 0=1):low L=L:=by
 unfold low;rw[h,if_neg (by decide)]
 conv=>rhs;rw[<-ph L]
 exact dz λn _=>Int.ediv_one n
def PT(L:AA)(b:Int):AA:=(low (L++[b])).map (sg b*·)
theorem aeY{L:AA}{b:Int}(hb:b≠0):gl (L++[b]) 0≠0:=uI (kD L b) hb
theorem acr{L:AA}{b:Int}(hb:0<b):PT L b=low (L++[b]):=by
 unfold PT sg;rw[if_pos hb]
 conv=>rhs;rw[<-ph (low (L++[b]))]
 exact dz λn _=>ir n
theorem Lm(S:aG)(v2:AJ):∀(ns:AA)(g:Int)(a:AV),∃v',dZ [] (gN 2) (aU 1 (aJ sV [] (aB (aA 1) (aB (aA 2) aD)))) (ns.map .int) [some a,some (.pv (.int g)),v2] S=.nx [some a,some (.pv (.int (gl ns g))),v'] S
 |[],g,a=>⟨v2,fR⟩
 |n::ns,g,a=>by
  obtain⟨v',e⟩:=Lm S (some (.pv (.int n))) ns (ce g n:Nat) a;refine⟨v',?_⟩;show dZ [] _ _ (.int n::ns.map .int) _ S=_;rw[fG];simp! [gN,aE,aZ,bA,aK,aN,aO,aM,aP,aF,aL,Vy];exact e
theorem Dk(ns:AA)(S:aG)(hb:∀n∈ns,Bd 8000 n)(h:gl ns 0≠0):sW [.pv (.lst (ns.map .int))] S=.ok (.pv (.lst ((low ns).map .int))) S:=by
 obtain⟨v',e⟩:=Lm S none ns 0 (.pv (.lst (ns.map .int)));have el:low ns=ns.map λn=>n.fdiv (gl ns 0):=by
  unfold low;rw[if_neg h];exact dz λn hn=>(qx ((jU ns 0).2 n hn)).symm
 have bg:Bd 8000 (gl ns 0):=xZ (Bd.of (n:=0) (by simp) (og 8000)) hb;have ec:=vV S (gl ns 0) h bg ns none;unfold sW aS Ta;simp! [aE,aZ,bA,aK,aN,aO,aM,aP,aF,aL,bJ,bB,bW,e,h,el,bC,bX,ec]
theorem Sb(S:aG)(b:Int):∀(ns:AA)(x:AJ),cD [] (gN 0) (aC bD (aJ pR [] (aB (aA 1) aD)) (aA 0)) (ns.map .int) [x,some (.pv (.int b))] S=.ok ((ns.map (sg b*·)).map .int) S
 |[],x=>eA
 |n::ns,x=>by
  have ih:=Sb S b ns (some (.pv (.int n)));have hm:bD (.int (sg b)) (.int n)=some (.int (sg b*n)):=lV (.inl (.inl (P5 b)));show cD [] _ _ (.int n::ns.map .int) _ S=_;rw[eF];simp! [gN,aE,aZ,bA,aK,aN,aO,aM,aP,aF,aL,Vd,hm,ih]
theorem U7{w:PV}(L:AA)(b:Int)(S:aG)(hw:w=.lst (L.map .int)\/w=.tup (L.map .int))(hL:∀n∈L,Bd 8000 n)(bb:Bd 8000 b)(hb:b≠0)(hl:L.length<=100):tJ [.pv w,.pv (.int b)] S=.ok (.pv (.tup ((PT L b).map .int))) S:=by
 have e1:=Dk (L++[b]) S (λn hn=>by
  rcases ck.mp hn with z |z
  .exact hL n z
  .have:n=b:=by simpa using z
   rw[this];exact bb) (aeY hb)
 have e2:=Sb S b (low (L++[b])) none;have hz:L.length+1<=16777216:=by omega
 simp only[ee,aq,br]at e1;unfold PT tJ aS Zc;rcases hw with rfl |rfl<;>simp! [aE,aZ,bA,aK,aN,aO,aM,aP,aF,aL,hb,hz,e1,bB,bW,bC,bX,e2]
theorem V6(zs:AA)(z:Int):iR ((zs++[z]).map .int) none (some (-1))=zs.map .int:=by
 unfold iR;have e1:HT.sIx ((zs++[z]).map PV.int).length 0 none=0:=rfl;have e2:HT.sIx ((zs++[z]).map PV.int).length ((zs++[z]).map PV.int).length (some (-1))=zs.length:=by
  rw[am,av];exact Jc zs.length _
 rw[e1,e2];simp
theorem C3(zs:AA)(z:Int):¬(HT.sIx ((zs++[z]).map PV.int).length 0 none=0/\HT.sIx ((zs++[z]).map PV.int).length ((zs++[z]).map PV.int).length (some (-1))=((zs++[z]).map PV.int).length):=by
 rintro⟨_,e⟩
 have e2:HT.sIx ((zs++[z]).map PV.int).length ((zs++[z]).map PV.int).length (some (-1))=zs.length:=by
  rw[am,av];exact Jc zs.length _
 rw[e2,am,av]at e;simp at e
theorem tD(zs:AA)(z:Int):gL (.tup ((zs++[z]).map .int)) none (some (-1))=some (.tup (zs.map .int)):=by
 unfold gL;dsimp only;rw[if_neg (C3 zs z),V6]
theorem lU(zs:AA)(z:Int):aE (.tup ((zs++[z]).map .int)) (.int (-1))=some (.int z):=by
 show aZ ((zs++[z]).map PV.int) (-1)=_;rw[ee];exact M4 _ _
theorem jB{m:Int}(h0:0<=m)(h:m<1024):Bd 8000 m:=Bd.of (n:=1023) (by omega) (cy (show 1023<2^10 by decide) (zl (by decide) (by decide)))
theorem bR(n:Nat)(a b:Int):aK n (.int a) (.int b)=some (a==b):=by cases n<;>rfl
theorem mB{a b:Int}(h:Bd 2000 a)(g:Bd 2000 b):bD (.int a) (.int b)=some (.int (a*b)):=lV (.inr ⟨h.mono (by decide),g.mono (by decide)⟩)
structure Pt(n:Nat)(xs:AA)(w:Int):Prop where
 len:xs.length=n
 pos:0<w
 low:low (xs++[w])=xs++[w]
 bx:∀x∈xs,Bd 300 x
 bw:Bd 300 w
theorem Nm(S:aG)(PL QL:AH)(w v:Int)(hp:aE (.tup PL) (.int (-1))=some (.int w))(hq:aE (.tup QL) (.int (-1))=some (.int v))(bw:Bd 2000 w)(bv:Bd 2000 v):∀(xs ys:AA)(x y:AJ),xs.length=ys.length->(∀x∈xs,Bd 2000 x)->(∀y∈ys,Bd 2000 y)->
  cD [] (gT 2 (cU (gN 0) (cU (gN 1) eJ))) (aC aF (aC bD (aA 0) (aC aE (aA 2) (bO cB (mC (.int 1))))) (aC bD (aA 1) (aC aE (aA 3) (bO cB (mC (.int 1)))))) (gI (xs.map .int) (ys.map .int)) [x,y,some (.pv (.tup QL)),some (.pv (.tup PL))] S=.ok ((sm xs w ys v).map .int) S
 |[],ys,x,y,hl,_,_=>by
  have:ys=[]:=sx.mp hl.symm;subst this;exact eA
 |a::xs,[],x,y,hl,_,_=>by cases hl
 |a::xs,b::ys,x,y,hl,hx,hy=>by
  have ih:=Nm S PL QL w v hp hq bw bv xs ys (some (.pv (.int a))) (some (.pv (.int b))) (by simpa using hl) (λm hm=>hx m (bj _ hm)) (λm hm=>hy m (bj _ hm));have m1:=mB (hx a bh) bv;have m2:=mB (hy b bh) bw;show cD [] _ _ (.tup [.int a,.int b]::gI (xs.map .int) (ys.map .int)) _ S=_;rw[eF];simp! [gT,cU,eJ,gN,bR,aN,aO,aM,aP,aF,aL,hp,hq,m1,m2,ih,sm]
theorem adn{xs ys:AA}{w v:Int}{k:Nat}(hx:∀x∈xs,Bd k x)(hy:∀y∈ys,Bd k y)(hw:Bd k w)(hv:Bd k v):∀n∈sm xs w ys v,Bd (k+k+1) n:=λn hn=>by
 unfold sm at hn;obtain⟨i,hi,e⟩:=nu hn;rw[ub]at e;rw[<-e];exact((hx _ (gr _)).mul hv).add ((hy _ (gr _)).mul hw)
theorem Dc{xs ys:AA}{w v:Int}(S:aG)(hl:xs.length=ys.length)(h9:xs.length<=9)(hw:0<w)(hv:0<v)(hx:∀x∈xs,Bd 2000 x)(hy:∀y∈ys,Bd 2000 y)(bw:Bd 2000 w)(bv:Bd 2000 v):
  kY [.pv (.tup ((xs++[w]).map .int)),.pv (.tup ((ys++[v]).map .int))] S=.ok (.pv (.tup ((low (sm xs w ys v++[w*v])).map .int))) S:=by
 have ip:=lU xs w;have iq:=lU ys v;have sp:=tD xs w;have sq:=tD ys v;have ec:=Nm S _ _ w v ip iq bw bv xs ys none none hl hx hy;have mm:=mB bw bv;have hp:=aw hw hv;have ep:=U7 (w:=.lst ((sm xs w ys v).map .int)) (sm xs w ys v) (w*v) S (.inl rfl) (λn hn=>(adn hx hy bw bv n hn).mono (by decide)) ((bw.mul bv).mono (by decide)) (by omega) (by rw[ach hl];omega);rw[acr hp]at ep;generalize (xs++[w]).map PV.int=PL at ip sp ec;generalize (ys++[v]).map PV.int=QL at iq sq ec;unfold kY aS Qc;simp! [bR,aN,aO,aM,aP,aF,aL,bC,jA,nF,bW,dG,dM,dD,fT,sp,sq,bX,ec,ip,iq,mm,ep]
theorem Mo(S:aG):∀(ns:AA)(x:AJ),cD [] (gN 0) (bO cB (aA 0)) (ns.map .int) [x] S=.ok ((ns.map (- ·)).map .int) S
 |[],x=>eA
 |n::ns,x=>by
  have ih:=Mo S ns (some (.pv (.int n)));show cD [] _ _ (.int n::ns.map .int) _ S=_;rw[eF];simp! [gN,aE,aZ,bA,aK,aN,aO,aM,aP,aF,aL,ih]
theorem F9(xs:AA)(w:Int)(S:aG)(h9:xs.length<=9):wB [.pv (.tup ((xs++[w]).map .int))] S=.ok (.pv (.tup ((xs.map (- ·)++[w]).map .int))) S:=by
 have ip:=lU xs w;have sp:=tD xs w;have ec:=Mo S xs none;have hz:xs.length+1<=16777216:=by omega
 generalize (xs++[w]).map PV.int=PL at ip sp;unfold wB aS Hc;simp! [bR,aN,aO,aM,aP,aF,aL,bC,bB,bW,dG,dM,dD,fT,sp,bX,ec,ip,hz]
theorem Jy{xs ys:AA}{w v:Int}(S:aG)(hl:xs.length=ys.length)(h9:xs.length<=9)(hw:0<w)(hv:0<v)(hx:∀x∈xs,Bd 2000 x)(hy:∀y∈ys,Bd 2000 y)(bw:Bd 2000 w)(bv:Bd 2000 v):
  vJ [.pv (.tup ((xs++[w]).map .int)),.pv (.tup ((ys++[v]).map .int))] S=.ok (.pv (.tup ((low (sm xs w (ys.map (- ·)) v++[w*v])).map .int))) S:=by
 have e1:=F9 ys v S (by omega);have e2:=Dc (ys:=ys.map (- ·)) S (by rw[am];exact hl) h9 hw hv hx (λn hn=>by
  obtain⟨m,hm,rfl⟩:=gq.mp hn;exact(hy m hm).neg) bw bv
 generalize (xs++[w]).map PV.int=PL at e2;generalize (ys++[v]).map PV.int=QL at e1;generalize (ys.map (- ·)++[v]).map PV.int=RL at e1 e2;unfold vJ aS Qa;simp! [aE,aZ,bA,aK,aN,aO,aM,aP,aF,aL,e1,e2]
theorem Wo(way:Int)(a:PV)(S:aG):vM [.pv (.tup [.int way,a])] S=.ok (.pv (.bl (way==1))) S:=by
 unfold vM aS Ua;simp! [aE,aZ,bA,aK,aN,aO,aM,aP,aF,aL]
def mv(way:Int)(xs:AA)(w:Int)(ys:AA)(v:Int):AA:=if way=1 then low (sm xs w ys v++[w*v])else low (sm ys v (xs.map (- ·)) w++[v*w])
theorem T7{xs ys:AA}{w v:Int}(way:Int)(S:aG)(hl:xs.length=ys.length)(h9:xs.length<=9)(hw:0<w)(hv:0<v)(hx:∀x∈xs,Bd 2000 x)(hy:∀y∈ys,Bd 2000 y)(bw:Bd 2000 w)(bv:Bd 2000 v):
  nR [.pv (.tup ((xs++[w]).map .int)),.pv (.tup [.int way,.tup ((ys++[v]).map .int)])] S=.ok (.pv (.tup ((mv way xs w ys v).map .int))) S:=by
 have e1:=Dc S hl h9 hw hv hx hy bw bv;have e2:=Jy S hl.symm (by omega) hv hw hy hx bv bw;generalize (xs++[w]).map PV.int=PL at e1 e2;generalize (ys++[v]).map PV.int=QL at e1 e2;unfold mv nR aS zR
 by_cases h:way=1
 .simp! [aE,aZ,bA,aK,aN,aO,aM,aP,aF,aL,Wo,h,e1]
 .simp! [aE,aZ,bA,aK,aN,aO,aM,aP,aF,aL,Wo,h,e2]
theorem wT(zs:AA)(z:Int)(j:Nat)(h:j<zs.length):aE (.tup ((zs++[z]).map .int)) (.int (j:Nat))=some (.int (zs.getD j 0)):=by
 show aZ ((zs++[z]).map PV.int) (j:Int)=_;refine fA ?_;rw[bo,du h,ay h];simp[cg,h]
theorem Vo(S:aG)(PL QL:AH)(xs ys:AA)(w v way:Int)(hp:aE (.tup PL) (.int (-1))=some (.int w))(hq:aE (.tup QL) (.int (-1))=some (.int v))(hpj:∀j:Nat,j<xs.length->aE (.tup PL) (.int (j:Nat))=some (.int (xs.getD j 0)))(hqj:∀j:Nat,j<xs.length->aE (.tup QL) (.int (j:Nat))=some (.int (ys.getD j 0)))
  (hway:way=1\/way=-1)(bw:Bd 1000 w)(bv:Bd 1000 v)(hx:∀j,Bd 1000 (xs.getD j 0))(hy:∀j,Bd 1000 (ys.getD j 0)):∀(js:List Nat)(x:AJ),(∀j∈js,j<xs.length)->
  cD [] (gN 0) (aC aF (aC bD (aC bD (aA 1) (aC aE (aA 3) (aA 0))) (aC aE (aA 2) (bO cB (mC (.int 1))))) (aC bD (aC aE (aA 2) (aA 0)) (aC aE (aA 3) (bO cB (mC (.int 1)))))) (js.map λj=>.int (0+(j:Nat))) [x,some (.pv (.int way)),some (.pv (.tup QL)),some (.pv (.tup PL))] S=.ok ((js.map λj=>way*xs.getD j 0*v+ys.getD j 0*w).map .int) S
 |[],x,_=>eA
 |j::js,x,h=>by
  have ih:=Vo S PL QL xs ys w v way hp hq hpj hqj hway bw bv hx hy js (some (.pv (.int (0+(j:Nat))))) λi hi=>h i (bj _ hi);have e1:=hpj j (h j bh);have e2:=hqj j (h j bh);have b1:Bd 2 way:=by rcases hway with rfl |rfl<;>exact Bd.of (n:=1) (by decide) (by decide)
  have m0:=mB (b1.mono (show 2<=2000 by decide)) ((hx j).mono (show 1000<=2000 by decide));have m1:=mB ((b1.mul (hx j)).mono (show 2+1000<=2000 by decide)) (bv.mono (show 1000<=2000 by decide));have m2:=mB ((hy j).mono (show 1000<=2000 by decide)) (bw.mono (show 1000<=2000 by decide));show cD [] _ _ (.int (0+(j:Nat))::js.map λj=>.int (0+(j:Nat))) _ S=_;rw[eF];simp only[Int.zero_add]at ih⊢;generalize hX:xs.getD j 0=X at e1 m0 m1;generalize hY:ys.getD j 0=Y at e2 m2;simp! [gN,bR,aN,aO,aM,aP,aF,aL,e1,e2,hp,hq,m0,m1,m2,ih];simp only[q9]at hX hY;rw[hX,hY]
theorem wM{xs:AA}{k:Nat}(h:∀x∈xs,Bd k x)(j:Nat):Bd k (xs.getD j 0):=by
 by_cases hj:j<xs.length
 .have e:xs.getD j 0=xs[j]:=by simp[cg,hj]
  rw[e];exact h _ (gr hj)
 .have e:xs.getD j 0=0:=by simp[cg,hj]
  rw[e];exact Bd.of (n:=0) (by decide) (og k)
theorem Uk{xs ys:AA}(hl:xs.length=ys.length)(f:Int->Int->Int):(cj xs.length).map (λj=>f (xs.getD j 0) (ys.getD j 0))=ci f xs ys:=by
 refine se (by simp[hl]) λi h1 h2=>?_;have hi:i<xs.length:=by simpa using h1
 have hj:i<ys.length:=by omega
 simp[cg,hi,hj]
theorem D7{xs ys:AA}{w v way:Int}(S:aG)(hl:xs.length=ys.length)(h9:xs.length<=9)(hway:way=1\/way=-1)(hx:∀x∈xs,Bd 1000 x)(hy:∀y∈ys,Bd 1000 y)(bw:Bd 1000 w)(bv:Bd 1000 v):
  lR [.pv (.tup ((xs++[w]).map .int)),.pv (.tup ((ys++[v]).map .int)),.pv (.int way)] S=.ok (.pv (.tup ((low (ci (λx y=>way*x*v+y*w) xs ys++[w*v])).map .int))) S:=by
 have ip:=lU xs w;have iq:=lU ys v;have ec:=Vo S _ _ xs ys w v way ip iq (λj h=>wT xs w j h) (λj h=>wT ys v j (by omega)) hway bw bv (wM hx) (wM hy) (cj xs.length) none λj hj=>by simpa using hj
 have er:(cj xs.length).map (λj=>way*xs.getD j 0*v+ys.getD j 0*w)=ci (λx y=>way*x*v+y*w) xs ys:=Uk hl λx y=>way*x*v+y*w;rw[er]at ec;have mm:=mB (bw.mono (show 1000<=2000 by decide)) (bv.mono (show 1000<=2000 by decide));have b1:Bd 2 way:=by rcases hway with rfl |rfl<;>exact Bd.of (n:=1) (by decide) (by decide)
 have el:=mM (ci (λx y=>way*x*v+y*w) xs ys++[w*v]) S (λn hn=>by
  rcases ck.mp hn with z |z
  .obtain⟨i,hi,e⟩:=nu z
   rw[ub]at e;rw[<-e];exact((((b1.mul (hx _ (gr _))).mul bv).mono (show 2+1000+1000<=3000 by decide)).add (((hy _ (gr _)).mul bw).mono (show 1000+1000<=3000 by decide))).mono (by decide)
  .have:n=w*v:=by simpa using z
   rw[this];exact(bw.mul bv).mono (by decide))
 have hlen:((xs++[w]).map PV.int).length=xs.length+1:=by simp
 have hz:xs.length+1<=16777216:=by omega
 have hr:gR [.pv (.int (((xs.length+1:Nat):Int)-1))] S=.ok ((cj xs.length).map λj=>.int (0+(j:Nat)),[]) S:=by
  unfold gR;dsimp only;rw[if_pos ⟨by omega,by omega⟩];have:(((xs.length+1:Nat):Int)-1).toNat=xs.length:=by omega
  rw[this];rfl
 have hzl:(ci (λx y=>way*x*v+y*w) xs ys).length+1<=16777216:=by rw[jo];omega
 simp only[ee,aq,br]at el;generalize hZ:(ci (λx y=>way*x*v+y*w) xs ys).map PV.int=ZL at ec el;have hzl2:ZL.length+1<=16777216:=by rw[<-hZ,am];exact hzl
 generalize (cj xs.length).map (λj=>PV.int (0+(j:Nat)))=RL at ec hr;generalize hP:(xs++[w]).map PV.int=PL at ip ec hlen;generalize (ys++[v]).map PV.int=QL at iq ec;unfold lR aS Bb;have hr2:=hr;rw[<-hlen]at hr2;simp! [bR,aN,aO,aM,aP,aF,aL,bC,cG,hr2,bX,ec,ip,iq,mm,hzl2,el]
theorem Rb{k:Nat}{W:Int}(W0:0<=W)(W1:W<=1000000000000):∀(is:AH)(S:aG)(ns:AA)(x:AJ),fF S k ns->∃(xs ns':AA),cD [] (gN 0) (aC dI (aJ cC [] (aB (aA 2) (aB (aC aF (aC bD (mC (.int 2)) (aA 1)) (mC (.int 1))) aD))) (aA 1)) is [x,some (.pv (.int W)),some (.ref k)] S=.ok (xs.map .int) (S.set k (.lst (ns'.map .int)))/\xs.length=is.length/\∀n∈xs,Bd 50 n
 |[],S,ns,x,h=>by
  refine⟨[],ns,?_,rfl,λ_ h=>absurd h fz⟩;have e:S.set k (.lst (ns.map .int))=S:=jt λj=>by
   by_cases q:k=j
   .subst q;rw[dq h.lt];exact h.symm
   .rw[dr q]
  rw[e];exact eA
 |i::is,S,ns,x,h=>by
  obtain⟨t,n1,e1,t0,t1,_⟩:=gX (m:=2*W+1) h (by omega) ((Bd.of (k:=50) (n:=2000000000001) (by omega) (by decide)).mono (by decide));obtain⟨xs,n2,e2,l2,b2⟩:=Rb W0 W1 is _ n1 (some (.pv i)) (h.set n1);rw[kl]at e2;have m2:bD (.int 2) (.int W)=some (.int (2*W)):=lV (.inl (.inl ⟨by decide,by decide⟩));refine⟨(t-W)::xs,n2,?_,by simp[l2],λn hn=>?_⟩
  .rw[eF]
   generalize S.set k (.lst (n1.map .int))=S1 at e1 e2;simp! [gN,aE,aZ,bA,aK,aN,aO,aM,aP,aF,aL,m2,e1,e2]
  .rcases cq.mp hn with rfl |hn
   .exact Bd.of (n:=1000000000000) (by omega) (by decide)
   .exact b2 n hn
theorem adi{v:Int}(h0:0<=v)(h1:v<4):∃M:Int,aE (.lst [.int 0,.int 3,.int 9,.int 1000000000000]) (.int v)=some (.int M)/\0<=M/\M<=1000000000000:=by
 have c:v=0\/v=1\/v=2\/v=3:=by omega
 rcases c with rfl |rfl |rfl |rfl
 .exact⟨0,rfl,by decide,by decide⟩
 .exact⟨3,rfl,by decide,by decide⟩
 .exact⟨9,rfl,by decide,by decide⟩
 .exact⟨1000000000000,rfl,by decide,by decide⟩
theorem p12:gG (.int 10) (.int 12)=some (.int 1000000000000):=wR (i:=10) (j:=12) ⟨by decide,by decide,by decide⟩
theorem ado{v:Int}(h0:0<=v)(h1:v<4):0<=v.fdiv 2/\v.fdiv 2<=1:=by
 have c:v=0\/v=1\/v=2\/v=3:=by omega
 rcases c with rfl |rfl |rfl |rfl<;>decide
theorem ab1{n k:Nat}{L:AA}{b:Int}(hb:0<b)(hl:L.length=n)(hk:k<=300)(hL:∀x∈L,Bd k x)(bb:Bd k b):∃(zs:AA)(z:Int),low (L++[b])=zs++[z]/\Pt n zs z/\(∀x∈zs,Bd k x)/\Bd k z:=by
 obtain⟨zs,z,g,e,hg,hz,_,_,hzl⟩:=xM L hb;have hbd:=xA (k:=k) (ns:=L++[b]) λm hm=>by
  rcases ck.mp hm with y |y
  .exact hL m y
  .have:m=b:=by simpa using y
   rw[this];exact bb
 have hlow:=Md L hb;rw[e]at hbd hlow;have b1:∀x∈zs,Bd k x:=λx hx=>hbd x (kr _ hx);have b2:Bd k z:=hbd z (kD zs z);exact⟨zs,z,e,⟨hzl.trans hl,hz,hlow,λx hx=>(b1 x hx).mono hk,b2.mono hk⟩,b1,b2⟩
theorem Is{S:aG}{k:Nat}{ns:AA}(n:Nat)(hn:n=2\/n=3)(h:fF S k ns):∃(xs:AA)(w:Int)(ns':AA),mE [.ref k,.pv (.int n)] S=.ok (.pv (.tup ((xs++[w]).map .int))) (S.set k (.lst (ns'.map .int)))/\Pt n xs w/\(∀x∈xs,Bd 100 x)/\Bd 100 w:=by
 obtain⟨c,n1,e1,c0,c1,_⟩:=gX (m:=4) h (by decide) (jB (by decide) (by decide));obtain⟨M,em,M0,M1⟩:=adi c0 c1;obtain⟨t,n2,e2,t0,t1,_⟩:=gX (m:=9) (h.set n1) (by decide) (jB (by decide) (by decide));rw[kl]at e2;obtain⟨xs,n3,e3,l3,b3⟩:=Rb M0 M1 (dH 0 n) _ n2 none (h.set n2);rw[kl]at e3;have hc:=ado c0 c1;have mt:bD (.int t) (.int (c.fdiv 2))=some (.int (t*c.fdiv 2)):=lV (.inl (.inl ⟨by omega,by omega⟩));have qt:iO (.int c) (.int 2)=some (.int (c.fdiv 2)):=pJ ⟨by decide,jB (by decide) (by decide)⟩;have hm:0<=t*c.fdiv 2/\t*c.fdiv 2<=8:=by
  have c2:c.fdiv 2=0\/c.fdiv 2=1:=by omega
  rcases c2 with z |z<;>rw[z]<;>omega
 have lx:xs.length=n:=by rw[l3];unfold dH;simp
 generalize t*c.fdiv 2=tc at mt hm;obtain⟨zs,z,ez,P,b1,b2⟩:=ab1 (n:=n) (k:=100) (L:=xs) (b:=1+tc) (by omega) lx (by decide) (λx hx=>(b3 x hx).mono (by decide)) (Bd.of (n:=9) (by omega) (by decide));have el:=mM (xs++[1+tc]) (S.set k (.lst (n3.map .int))) (λm hm=>by
  rcases ck.mp hm with y |y
  .exact(b3 m y).mono (by decide)
  .have:m=1+tc:=by simpa using y
   rw[this];exact(Bd.of (k:=4) (n:=9) (by omega) (by decide)).mono (by decide))
 rw[ez]at el;refine⟨zs,z,n3,?_,P,b1,b2⟩;have tk3:=J9 S k (.lst (n3.map .int));have hz:xs.length+1<=16777216:=by omega
 generalize S.set k (.lst (n1.map .int))=S1 at e1 e2;generalize S.set k (.lst (n2.map .int))=S2 at e2 e3;generalize S.set k (.lst (n3.map .int))=S3 at e3 el tk3;have hr:gR [.pv (.int (n:Int))] S2=.ok (dH 0 n,[]) S2:=by
  unfold gR;dsimp only;rw[if_pos ⟨by omega,by omega⟩];rfl
 conv at el=>lhs;rw[ee]
 simp only[aq,br]at el;generalize (zs++[z]).map PV.int=ZL at el;unfold mE aS Re;simp! [bR,aN,aO,aM,aP,aF,aL,p12,e1,em,e2,mt,qt,bC,cG,hr,bX,e3,hz,el,tk3]
theorem Hm{way:Int}(h:way=1\/way=-1)(xs:AA)(w:Int)(ys:AA)(v:Int):low (ci (λx y=>way*x*v+y*w) xs ys++[w*v])=mv way xs w ys v:=by
 unfold mv;rcases h with rfl |rfl
 .rw[if_pos rfl,Sy]
 .rw[if_neg (by decide),Iy,dy w v]
structure Pq(n k:Nat)(xs:AA)(w:Int):Prop where
 len:xs.length=n
 pos:0<w
 low:low (xs++[w])=xs++[w]
 bx:∀x∈xs,Bd k x
 bw:Bd k w
def Vl(n:Nat)(xs:AA)(w:Int)(N:Nat->Int)(D:Int):Prop:=∀j,j<n->xs.getD j 0*D=N j*w
theorem Vl.self(n:Nat)(xs:AA)(w:Int):Vl n xs w (λj=>xs.getD j 0) w:=λ_ _=>rfl
theorem xD{a b c:Int}(h:0<c)(e:a*c=b*c):a=b:=r8 (by omega) e
theorem Pq.same{n k k':Nat}{xs ys:AA}{w v:Int}(P:Pq n k xs w)(Q:Pq n k' ys v)(h:∀j,j<n->xs.getD j 0*v=ys.getD j 0*w):xs++[w]=ys++[v]:=by
 rw[<-P.low,<-Q.low];refine An (k:=v) (m:=w) Q.pos P.pos (uI (kD xs w) (by have:=P.pos;omega)) ?_;rw[ee,ee];congr 1
 .refine se (by simp[P.len,Q.len]) λj h1 h2=>?_
  have hj:j<n:=by rw[<-P.len];simpa using h1
  have e:=h j hj;have a1:xs.getD j 0=xs[j]'(by rw[P.len];exact hj):=by simp[cg,P.len,hj]
  have a2:ys.getD j 0=ys[j]'(by rw[Q.len];exact hj):=by simp[cg,Q.len,hj]
  rw[a1,a2]at e;rw[xv,xv];rw[dy v,dy w];exact e
 .simp only[aq,br]
  rw[dy]
theorem aam{xs ys:AA}{f:Int->Int->Int}{j:Nat}(h1:j<xs.length)(h2:j<ys.length):(ci f xs ys).getD j 0=f (xs.getD j 0) (ys.getD j 0):=by
 have:j<(ci f xs ys).length:=by rw[jo];omega
 simp only[cg,ay this,ay h1,ay h2,i7,ub]
theorem adC{n k l:Nat}{way:Int}{xs ys:AA}{w v:Int}(hway:way=1\/way=-1)(P:Pq n k xs w)(Q:Pq n l ys v):∃(zs:AA)(z:Int),mv way xs w ys v=zs++[z]/\Pq n (k+l+1) zs z/\
  ∀(N M:Nat->Int)(D E:Int),Vl n xs w N D->Vl n ys v M E->0<D->0<E->Vl n zs z (λj=>way*N j*E+M j*D) (D*E):=by
 rw[<-Hm hway];have hb:=aw P.pos Q.pos;have hl:(ci (λx y=>way*x*v+y*w) xs ys).length=n:=by rw[jo,P.len,Q.len];omega
 obtain⟨zs,z,g,e,hg,hz,g1,g2,hzl⟩:=xM (ci (λx y=>way*x*v+y*w) xs ys) hb;have hlow:=Md (ci (λx y=>way*x*v+y*w) xs ys) hb;have hbd:=xA (k:=k+l+1) (ns:=ci (λx y=>way*x*v+y*w) xs ys++[w*v]) λm hm=>by
  rcases ck.mp hm with y |y
  .obtain⟨i,hi,e⟩:=nu y
   rw[ub]at e;rw[<-e];have b1:=(P.bx _ (gr (l:=xs) (n:=i) (by rw[jo]at hi;omega))).mul Q.bw;have b2:=(Q.bx _ (gr (l:=ys) (n:=i) (by rw[jo]at hi;omega))).mul P.bw;have b3:Bd (k+l) (way*xs[i]'(by rw[jo]at hi;omega)*v):=by
    rcases hway with rfl |rfl
    .rw[ir];exact b1
    .have:(-1:Int)*xs[i]'(by rw[jo]at hi;omega)*v=-(xs[i]'(by rw[jo]at hi;omega)*v):=by rw[my,ir,my]
     rw[this];exact b1.neg
   exact b3.add (b2.mono (by omega))
  .have:m=w*v:=by simpa using y
   rw[this];exact(P.bw.mul Q.bw).mono (by omega)
 rw[e]at hbd hlow;refine⟨zs,z,e,⟨hzl.trans hl,hz,hlow,λx hx=>hbd x (kr _ hx),hbd z (kD zs z)⟩,λN M D E a b hD hE j hj=>?_⟩;have h1:(ci (λx y=>way*x*v+y*w) xs ys).getD j 0=g*zs.getD j 0:=by
  rw[g1];have:j<zs.length:=by rw[hzl,hl];exact hj
  simp[cg,this]
 rw[aam (by rw[P.len];exact hj) (by rw[Q.len];exact hj)]at h1;have a1:=a j hj;have b1:=b j hj;generalize xs.getD j 0=X at a1 h1;generalize ys.getD j 0=Y at b1 h1;generalize zs.getD j 0=Z at h1⊢;show Z*(D*E)=(way*N j*E+M j*D)*z;generalize M j=B,N j=A at *;refine xD (c:=g*(w*v)) (aw hg hb) ?_;have p1:=P.pos;have p2:=Q.pos;have k1:(way*X*v+Y*w)*(D*E)=(way*A*E+B*D)*(w*v):=by grind
 have k2:Z*(D*E)*(g*(w*v))=(way*X*v+Y*w)*(D*E)*(w*v):=by rw[h1];grind
 rw[k2,k1,g2];grind
theorem Pt.pq{n k:Nat}{xs:AA}{w:Int}(P:Pt n xs w)(b:∀x∈xs,Bd k x)(bw:Bd k w):Pq n k xs w:=⟨P.len,P.pos,P.low,b,bw⟩
theorem Pq.mono{n k l:Nat}{xs:AA}{w:Int}(P:Pq n k xs w)(h:k<=l):Pq n l xs w:=⟨P.len,P.pos,P.low,λx hx=>(P.bx x hx).mono h,P.bw.mono h⟩
theorem Q9{xs:AA}{w:Int}{n k:Nat}(S:aG)(hk:k<=2000)(h:Pq n k xs w):sN [.pv (.tup ((xs++[w]).map .int)),.pv (.int n)] S=.ok (.pv (.bl true)) S:=by
 have e1:=D8 (xs++[w]) S;have hl:((xs++[w]).length:Int)=(n:Int)+1:=by simp[h.len]
 rw[hl]at e1;have ip:=lU xs w;have el:=Az (xs++[w]) S (λm hm=>by
  rcases ck.mp hm with z |z
  .exact(h.bx m z).mono (by omega)
  .have:m=w:=by simpa using z
   rw[this];exact h.bw.mono (by omega))
 rw[h.low]at el;have q:aK 8 (.tup ((xs++[w]).map .int)) (.tup ((xs++[w]).map .int))=some true:=Vp 7 _;have hw:¬w<1:=by have:=h.pos;omega
 generalize (xs++[w]).map PV.int=PL at e1 ip el q;unfold sN aS zT;simp! [bR,aN,aO,aM,aP,aF,aL,e1,ip,hw,el,q]
theorem ac4{n k l:Nat}{way:Int}{xs ys:AA}{w v:Int}(S:aG)(hn:n=2\/n=3)(P:Pq n k xs w)(Q:Pq n l ys v)(hk:k<=2000)(hl:l<=2000):nR [.pv (.tup ((xs++[w]).map .int)),.pv (.tup [.int way,.tup ((ys++[v]).map .int)])] S=.ok (.pv (.tup ((mv way xs w ys v).map .int))) S:=
 T7 way S (P.len.trans Q.len.symm) (by rw[P.len];omega) P.pos Q.pos (λx hx=>(P.bx x hx).mono hk) (λx hx=>(Q.bx x hx).mono hl) (P.bw.mono hk) (Q.bw.mono hl)
theorem aaF{n k l:Nat}{way:Int}{xs ys:AA}{w v:Int}(S:aG)(hn:n=2\/n=3)(hway:way=1\/way=-1)(P:Pq n k xs w)(Q:Pq n l ys v)(hk:k<=1000)(hl:l<=1000):lR [.pv (.tup ((xs++[w]).map .int)),.pv (.tup ((ys++[v]).map .int)),.pv (.int way)] S=.ok (.pv (.tup ((mv way xs w ys v).map .int))) S:=by
 have e:=D7 (way:=way) S (P.len.trans Q.len.symm) (by rw[P.len];omega) hway (λx hx=>(P.bx x hx).mono hk) (λx hx=>(Q.bx x hx).mono hl) (P.bw.mono hk) (Q.bw.mono hl);rw[Hm hway]at e;exact e
theorem Oc(t b:Int)(S:aG)(ht:Bd 8000 t)(hb:Bd 8000 b):mW [.pv (.int t),.pv (.int b)] S=.ok (.pv (.tup ((fr t b).map .int))) S:=by
 unfold mW aS Td fr;have e1:=mM [0-t,0-b] S (by
  intro n hn;rcases cq.mp hn with rfl |hn
  .rw[ji];exact ht.neg
  .have:n=0-b:=by simpa using hn
   rw[this,ji];exact hb.neg)
 have e2:=mM [t,b] S (by
  intro n hn;rcases cq.mp hn with rfl |hn
  .exact ht
  .have:n=b:=by simpa using hn
   rw[this];exact hb)
 by_cases h:b<0
 .simp only[aq,br,ji]at e1
  simp! [aE,aZ,bA,aK,aN,aO,aM,aP,aF,aL,h,e1]
 .simp only[aq,br]at e2
  simp! [aE,aZ,bA,aK,aN,aO,aM,aP,aF,aL,h,e2]
theorem Ga:∀is:AA,kF (is.map .int)=some is
 |[]=>rfl
 |i::is=>by
  have ih:=Ga is;show(match kF (is.map .int)with |some bs=>some (i::bs) |none=>none)=_
  rw[ih]
theorem Gm(is:AA):qD [.lst (is.map .int)]=some (.int is.sum):=by
 simp only[qD,Ga,uc]
def wa(xs:AA)(w:Int)(ys:AA)(v:Int):AA:=ci (λx y=>y*w-x*v) xs ys
theorem Aq(S:aG)(PL QL:AH)(w v:Int)(hp:aE (.tup PL) (.int (-1))=some (.int w))(hq:aE (.tup QL) (.int (-1))=some (.int v))(bw:Bd 2000 w)(bv:Bd 2000 v):∀(xs ys:AA)(x y:AJ),xs.length=ys.length->(∀x∈xs,Bd 2000 x)->(∀y∈ys,Bd 2000 y)->
  cD [] (gT 2 (cU (gN 0) (cU (gN 1) eJ))) (aC dI (aC bD (aA 1) (aC aE (aA 2) (bO cB (mC (.int 1))))) (aC bD (aA 0) (aC aE (aA 3) (bO cB (mC (.int 1)))))) (gI (xs.map .int) (ys.map .int)) [x,y,some (.pv (.tup PL)),some (.pv (.tup QL))] S=.ok ((wa xs w ys v).map .int) S
 |[],ys,x,y,hl,_,_=>by
  have:ys=[]:=sx.mp hl.symm;subst this;exact eA
 |a::xs,[],x,y,hl,_,_=>by cases hl
 |a::xs,b::ys,x,y,hl,hx,hy=>by
  have ih:=Aq S PL QL w v hp hq bw bv xs ys (some (.pv (.int a))) (some (.pv (.int b))) (by simpa using hl) (λm hm=>hx m (bj _ hm)) (λm hm=>hy m (bj _ hm));have m1:=mB (hx a bh) bv;have m2:=mB (hy b bh) bw;show cD [] _ _ (.tup [.int a,.int b]::gI (xs.map .int) (ys.map .int)) _ S=_;rw[eF];simp! [gT,cU,eJ,gN,bR,aN,aO,aM,aP,aF,aL,hp,hq,m1,m2,ih,wa]
theorem Jo{xs ys:AA}{w v:Int}(S:aG)(hl:xs.length=ys.length)(hx:∀x∈xs,Bd 2000 x)(hy:∀y∈ys,Bd 2000 y)(bw:Bd 2000 w)(bv:Bd 2000 v):
  lO [.pv (.tup ((xs++[w]).map .int)),.pv (.tup ((ys++[v]).map .int))] S=.ok (.pv (.lst ((wa xs w ys v).map .int))) S:=by
 have ip:=lU xs w;have iq:=lU ys v;have sp:=tD xs w;have sq:=tD ys v;have ec:=Aq S _ _ w v ip iq bw bv xs ys none none hl hx hy;generalize (xs++[w]).map PV.int=PL at ip sp ec;generalize (ys++[v]).map PV.int=QL at iq sq ec;unfold lO aS zU;simp! [bR,aN,aO,aM,aP,aF,aL,bC,jA,nF,bW,dG,dM,dD,fT,sp,sq,bX,ec]
theorem Gc(S:aG):∀(us vs:AA)(x y:AJ),(∀x∈us,Bd 100000 x)->(∀y∈vs,Bd 100000 y)->
  cD [] (gT 2 (cU (gN 0) (cU (gN 1) eJ))) (aC bD (aA 0) (aA 1)) (gI (us.map .int) (vs.map .int)) [x,y] S=.ok ((ci (·*·) us vs).map .int) S
 |[],vs,x,y,_,_=>by
  show cD [] _ _ [] _ S=_;exact eA
 |a::us,[],x,y,_,_=>by
  show cD [] _ _ [] _ S=_;exact eA
 |a::us,b::vs,x,y,hx,hy=>by
  have ih:=Gc S us vs (some (.pv (.int a))) (some (.pv (.int b))) (λm hm=>hx m (bj _ hm)) (λm hm=>hy m (bj _ hm));have m1:bD (.int a) (.int b)=some (.int (a*b)):=lV (.inr ⟨(hx a bh).mono (by decide),(hy b bh).mono (by decide)⟩);show cD [] _ _ (.tup [.int a,.int b]::gI (us.map .int) (vs.map .int)) _ S=_;rw[eF];simp! [gT,cU,eJ,gN,bR,aN,aO,aM,aP,aF,aL,m1,ih]
def dt(us vs:AA):Int:=(ci (·*·) us vs).sum
def Sq(A:PV)(us:AA):Prop:=A=.lst (us.map .int)\/A=.tup (us.map .int)
theorem Xs{A B:PV}{us vs:AA}(S:aG)(hA:Sq A us)(hB:Sq B vs)(hx:∀x∈us,Bd 100000 x)(hy:∀y∈vs,Bd 100000 y):xW [.pv A,.pv B] S=.ok (.pv (.int (dt us vs))) S:=by
 have ec:=Gc S us vs none none hx hy;have es:=Gm (ci (·*·) us vs);unfold dt;generalize (ci (·*·) us vs).map PV.int=ZL at ec es;generalize (ci (·*·) us vs).sum=Z at es;unfold xW aS Pf;rcases hA with rfl |rfl<;>rcases hB with rfl |rfl<;>
  (generalize us.map PV.int=UL at ec⊢;generalize vs.map PV.int=VL at ec⊢;simp! [bR,aN,aO,aM,aP,aF,aL,bC,jA,nF,bW,bX,ec,es])
theorem Fr{A B:PV}{us vs:AA}(S:aG)(hA:Sq A us)(hB:Sq B vs)(hx:∀x∈us,Bd 100000 x)(hy:∀y∈vs,Bd 100000 y):tX [.pv A,.pv B] S=.ok (.pv (.int (dt us vs))) S:=by
 have ec:=Gc S us vs none none hx hy;have es:=Gm (ci (·*·) us vs);unfold dt;generalize (ci (·*·) us vs).map PV.int=ZL at ec es;generalize (ci (·*·) us vs).sum=Z at es;unfold tX aS Wd;rcases hA with rfl |rfl<;>rcases hB with rfl |rfl<;>
  (generalize us.map PV.int=UL at ec⊢;generalize vs.map PV.int=VL at ec⊢;simp! [bR,aN,aO,aM,aP,aF,aL,bC,jA,nF,bW,bX,ec,es])
theorem iC{k l:Nat}{a b:Int}(h:Bd k a)(g:Bd l b)(hk:k<=1000000:=by decide)(hl:l<=1000000:=by decide):bD (.int a) (.int b)=some (.int (a*b)):=lV (.inr ⟨h.mono hk,g.mono hl⟩)
theorem Jp(a b:Int)(S:aG):pI [.pv (.lst [.lst [.int a,.int b]])] S=.ok (.pv (.lst [.int (-b),.int a])) S:=by
 unfold pI aS vX;simp! [aE,aZ,bA,aK,aN,aO,aM,aP,aF,aL]
theorem Lp{a b c d e f:Int}(S:aG)(ha:Bd 10000 a)(hb:Bd 10000 b)(hc:Bd 10000 c)(hd:Bd 10000 d)(he:Bd 10000 e)(hf:Bd 10000 f):pI [.pv (.lst [.lst [.int a,.int b,.int c],.lst [.int d,.int e,.int f]])] S=.ok (.pv (.lst [.int (b*f-c*e),.int (c*d-a*f),.int (a*e-b*d)])) S:=by
 have m1:=iC hb hf;have m2:=iC hc he;have m3:=iC hc hd;have m4:=iC ha hf;have m5:=iC ha he;have m6:=iC hb hd;unfold pI aS vX;simp! [aE,aZ,bA,aK,aN,aO,aM,aP,aF,aL,m1,m2,m3,m4,m5,m6]
theorem Io{A B:PV}{a b c d e f:Int}(S:aG)(hA:A=.lst [.int a,.int b,.int c])(hB:B=.lst [.int d,.int e,.int f])(ha:Bd 10000 a)(hb:Bd 10000 b)(hc:Bd 10000 c)(hd:Bd 10000 d)(he:Bd 10000 e)(hf:Bd 10000 f):mU [.pv A,.pv B] S=.ok (.pv (.lst [.int (b*f-c*e),.int (c*d-a*f),.int (a*e-b*d)])) S:=by
 have m1:=iC hb hf;have m2:=iC hc he;have m3:=iC hc hd;have m4:=iC ha hf;have m5:=iC ha he;have m6:=iC hb hd;unfold mU aS vZ;subst hA hB;simp! [aE,aZ,bA,aK,aN,aO,aM,aP,aF,aL,m1,m2,m3,m4,m5,m6]
structure P2(x y w:Int):Prop where
 bx:Bd 1000 x
 by_:Bd 1000 y
 bw:Bd 1000 w
 pos:0<w
structure P3(x y z w:Int):Prop where
 bx:Bd 1000 x
 by_:Bd 1000 y
 bz:Bd 1000 z
 bw:Bd 1000 w
 pos:0<w
abbrev v2(x y w:Int):PV:=.tup [.int x,.int y,.int w]
abbrev v3(x y z w:Int):PV:=.tup [.int x,.int y,.int z,.int w]
def Sv(A:PV)(L:AH):Prop:=A=.lst L\/A=.tup L
theorem Ov(p:PV)(L:AH):iR (p::L) (some 1) none=L:=by
 unfold iR;have e1:HT.sIx (p::L).length 0 (some 1)=1:=by
  rw[show(some (1:Int))=some ((1:Nat):Int) from rfl,HT.sIx_nat,cr];omega
 rw[e1];show((p::L).drop 1).take ((p::L).length-1)=L;simp
theorem uH(p:PV)(L:AH):gL (.lst (p::L)) (some 1) none=some (.lst L):=by
 unfold gL;dsimp only;rw[Ov]
theorem rN(p:PV)(L:AH):gL (.tup (p::L)) (some 1) none=some (.tup L):=by
 unfold gL;dsimp only;have e1:HT.sIx (p::L).length 0 (some 1)=1:=by
  rw[show(some (1:Int))=some ((1:Nat):Int) from rfl,HT.sIx_nat,cr];omega
 rw[if_neg (by rw[e1];simp),Ov]
theorem Ut(L:AH)(p:PV):gL (.lst (L++[p])) none (some (-1))=some (.lst L):=by
 unfold gL;dsimp only;unfold iR;have e1:HT.sIx (L++[p]).length (L++[p]).length (some (-1))=L.length:=by
  rw[av];exact Jc L.length _
 rw[e1];show some (PV.lst (((L++[p]).drop 0).take (L.length-0)))=_;simp
theorem xH{x0 y0 w0 x1 y1 w1:Int}(S:aG)(p:P2 x0 y0 w0)(q:P2 x1 y1 w1):lO [.pv (v2 x0 y0 w0),.pv (v2 x1 y1 w1)] S=.ok (.pv (.lst [.int (x1*w0-x0*w1),.int (y1*w0-y0*w1)])) S:=by
 have e:=Jo (xs:=[x0,y0]) (ys:=[x1,y1]) (w:=w0) (v:=w1) S rfl (by simp;exact⟨p.bx.mono (by decide),p.by_.mono (by decide)⟩) (by simp;exact⟨q.bx.mono (by decide),q.by_.mono (by decide)⟩) (p.bw.mono (by decide)) (q.bw.mono (by decide));exact e
theorem rJ{x0 y0 z0 w0 x1 y1 z1 w1:Int}(S:aG)(p:P3 x0 y0 z0 w0)(q:P3 x1 y1 z1 w1):lO [.pv (v3 x0 y0 z0 w0),.pv (v3 x1 y1 z1 w1)] S=.ok (.pv (.lst [.int (x1*w0-x0*w1),.int (y1*w0-y0*w1),.int (z1*w0-z0*w1)])) S:=by
 have e:=Jo (xs:=[x0,y0,z0]) (ys:=[x1,y1,z1]) (w:=w0) (v:=w1) S rfl (by simp;exact⟨p.bx.mono (by decide),p.by_.mono (by decide),p.bz.mono (by decide)⟩) (by simp;exact⟨q.bx.mono (by decide),q.by_.mono (by decide),q.bz.mono (by decide)⟩) (p.bw.mono (by decide)) (q.bw.mono (by decide));exact e
theorem sb{x0 w0 x1 w1:Int}(a:Bd 1000 x0)(b:Bd 1000 w0)(c:Bd 1000 x1)(d:Bd 1000 w1):Bd 2001 (x1*w0-x0*w1):=((c.mul b).mono (show 1000+1000<=2000 by decide)).sub ((a.mul d).mono (show 1000+1000<=2000 by decide))
theorem cb{a b c d:Int}(h1:Bd 2001 a)(h2:Bd 2001 b)(h3:Bd 2001 c)(h4:Bd 2001 d):Bd 4003 (a*b-c*d):=((h1.mul h2).mono (show 2001+2001<=4002 by decide)).sub ((h3.mul h4).mono (show 2001+2001<=4002 by decide))
def D2(x0 y0 w0 x1 y1 w1 x2 y2 w2:Int):Int:=w0*(x1*y2-y1*x2)-w1*(x0*y2-y0*x2)+w2*(x0*y1-y0*x1)
def D3(x0 y0 z0 w0 x1 y1 z1 w1 x2 y2 z2 w2 x3 y3 z3 w3:Int):Int:=
 w0*((y1*z2-z1*y2)*x3+(z1*x2-x1*z2)*y3+(x1*y2-y1*x2)*z3)-w1*((y0*z2-z0*y2)*x3+(z0*x2-x0*z2)*y3+(x0*y2-y0*x2)*z3)
 +w2*((y0*z1-z0*y1)*x3+(z0*x1-x0*z1)*y3+(x0*y1-y0*x1)*z3)-w3*((y0*z1-z0*y1)*x2+(z0*x1-x0*z1)*y2+(x0*y1-y0*x1)*z2)
theorem adR(x0 y0 w0 x1 y1 w1 x2 y2 w2:Int):dt [-(y1*w0-y0*w1),x1*w0-x0*w1] [x2*w0-x0*w2,y2*w0-y0*w2]=w0*D2 x0 y0 w0 x1 y1 w1 x2 y2 w2:=by
 simp only[dt,D2,ua,t7,xi,List.sum_nil];grind
theorem Cv(x0 y0 z0 w0 x1 y1 z1 w1 x2 y2 z2 w2 x3 y3 z3 w3:Int):dt [(y1*w0-y0*w1)*(z2*w0-z0*w2)-(z1*w0-z0*w1)*(y2*w0-y0*w2),(z1*w0-z0*w1)*(x2*w0-x0*w2)-(x1*w0-x0*w1)*(z2*w0-z0*w2),(x1*w0-x0*w1)*(y2*w0-y0*w2)-(y1*w0-y0*w1)*(x2*w0-x0*w2)] [x3*w0-x0*w3,y3*w0-y0*w3,z3*w0-z0*w3]=w0*w0*D3 x0 y0 z0 w0 x1 y1 z1 w1 x2 y2 z2 w2 x3 y3 z3 w3:=by
 simp only[dt,D3,ua,t7,xi,List.sum_nil];grind
theorem mZ{w d:Int}(h:0<w):sg (w*d)=sg d:=by
 unfold sg
 by_cases h1:0<d
 .rw[if_pos (aw h h1),if_pos h1]
 .by_cases h2:d<0
  .have:w*d<0:=t8 h h2
   rw[if_neg (by omega),if_pos this,if_neg h1,if_pos h2]
  .have:d=0:=by omega
   subst this;rw[oy]
theorem abv{A:PV}{x0 y0 w0 x1 y1 w1 x2 y2 w2:Int}(S:aG)(hA:Sv A [v2 x0 y0 w0,v2 x1 y1 w1,v2 x2 y2 w2])(p:P2 x0 y0 w0)(q:P2 x1 y1 w1)(r:P2 x2 y2 w2):qN [.pv A] S=.ok (.pv (.int (w0*D2 x0 y0 w0 x1 y1 w1 x2 y2 w2))) S:=by
 have a1:=xH S p q;have a2:=xH S p r;have bu:=sb p.bx p.bw q.bx q.bw;have bv:=sb p.by_ p.bw q.by_ q.bw;have bu2:=sb p.bx p.bw r.bx r.bw;have bv2:=sb p.by_ p.bw r.by_ r.bw;have id:=adR x0 y0 w0 x1 y1 w1 x2 y2 w2;generalize y2*w0-y0*w2=V1,x2*w0-x0*w2=V0,y1*w0-y0*w1=U1,x1*w0-x0*w1=U0,w0*D2 x0 y0 w0 x1 y1 w1 x2 y2 w2=D at *;have en:=Jp U0 U1 S;have ed:=Xs (A:=.lst [.int (-U1),.int U0]) (B:=.lst [.int V0,.int V1]) (us:=[-U1,U0]) (vs:=[V0,V1]) S (.inl rfl) (.inl rfl) (by simp;exact⟨bv.neg.mono (by decide),bu.mono (by decide)⟩) (by simp;exact⟨bu2.mono (by decide),bv2.mono (by decide)⟩);rw[id]at ed;have pre:=Ut [.lst [.int U0,.int U1]] (.lst [.int V0,.int V1]);simp only[ju,eh]at pre;generalize v2 x2 y2 w2=R,v2 x1 y1 w1=Q,v2 x0 y0 w0=P at *;unfold qN aS uY;rcases hA with rfl |rfl
 .have s1:=uH P [Q,R]
  simp! [aE,aZ,bA,aK,aN,aO,aM,aP,aF,aL,bC,bB,bW,dG,dM,dD,fT,s1,bX,eF,eA,gN,a1,a2,pre,en,ed]
 .have s1:=rN P [Q,R]
  simp! [aE,aZ,bA,aK,aN,aO,aM,aP,aF,aL,bC,bB,bW,dG,dM,dD,fT,s1,bX,eF,eA,gN,a1,a2,pre,en,ed]
theorem aa8{A:PV}{x0 y0 z0 w0 x1 y1 z1 w1 x2 y2 z2 w2 x3 y3 z3 w3:Int}(S:aG)(hA:Sv A [v3 x0 y0 z0 w0,v3 x1 y1 z1 w1,v3 x2 y2 z2 w2,v3 x3 y3 z3 w3])(p:P3 x0 y0 z0 w0)(q:P3 x1 y1 z1 w1)(r:P3 x2 y2 z2 w2)(s:P3 x3 y3 z3 w3):qN [.pv A] S=.ok (.pv (.int (w0*w0*D3 x0 y0 z0 w0 x1 y1 z1 w1 x2 y2 z2 w2 x3 y3 z3 w3))) S:=by
 have a1:=rJ S p q;have a2:=rJ S p r;have a3:=rJ S p s;have b1:=sb p.bx p.bw q.bx q.bw;have b2:=sb p.by_ p.bw q.by_ q.bw;have b3:=sb p.bz p.bw q.bz q.bw;have b4:=sb p.bx p.bw r.bx r.bw;have b5:=sb p.by_ p.bw r.by_ r.bw;have b6:=sb p.bz p.bw r.bz r.bw;have b7:=sb p.bx p.bw s.bx s.bw;have b8:=sb p.by_ p.bw s.by_ s.bw;have b9:=sb p.bz p.bw s.bz s.bw;have id:=Cv x0 y0 z0 w0 x1 y1 z1 w1 x2 y2 z2 w2 x3 y3 z3 w3;generalize z3*w0-z0*w3=T2,y3*w0-y0*w3=T1,x3*w0-x0*w3=T0,z2*w0-z0*w2=V2,y2*w0-y0*w2=V1,x2*w0-x0*w2=V0,z1*w0-z0*w1=U2,y1*w0-y0*w1=U1,x1*w0-x0*w1=U0,w0*w0*D3 x0 y0 z0 w0 x1 y1 z1 w1 x2 y2 z2 w2 x3 y3 z3 w3=D at *;have h:∀{a:Int},Bd 2001 a->Bd 10000 a:=λh=>h.mono (by decide);have h4:∀{a:Int},Bd 4003 a->Bd 100000 a:=λh=>h.mono (by decide);have h2:∀{a:Int},Bd 2001 a->Bd 100000 a:=λh=>h.mono (by decide);have en:=Lp S (h b1) (h b2) (h b3) (h b4) (h b5) (h b6);have c1:=cb b2 b6 b3 b5;have c2:=cb b3 b4 b1 b6;have c3:=cb b1 b5 b2 b4;have ed:=Xs (A:=.lst [.int (U1*V2-U2*V1),.int (U2*V0-U0*V2),.int (U0*V1-U1*V0)]) (B:=.lst [.int T0,.int T1,.int T2]) (us:=[U1*V2-U2*V1,U2*V0-U0*V2,U0*V1-U1*V0]) (vs:=[T0,T1,T2]) S (.inl rfl) (.inl rfl) (by simp;exact⟨h4 c1,h4 c2,h4 c3⟩) (by simp;exact⟨h2 b7,h2 b8,h2 b9⟩);rw[id]at ed;generalize U0*V1-U1*V0=N2,U2*V0-U0*V2=N1,U1*V2-U2*V1=N0 at *;have pre:=Ut [.lst [.int U0,.int U1,.int U2],.lst [.int V0,.int V1,.int V2]] (.lst [.int T0,.int T1,.int T2]);simp only[ju,eh]at pre;generalize v3 x3 y3 z3 w3=T,v3 x2 y2 z2 w2=R,v3 x1 y1 z1 w1=Q,v3 x0 y0 z0 w0=P at *;unfold qN aS uY;rcases hA with rfl |rfl
 .have s1:=uH P [Q,R,T]
  simp! [aE,aZ,bA,aK,aN,aO,aM,aP,aF,aL,bC,bB,bW,dG,dM,dD,fT,s1,bX,eF,eA,gN,a1,a2,a3,pre,en,ed]
 .have s1:=rN P [Q,R,T]
  simp! [aE,aZ,bA,aK,aN,aO,aM,aP,aF,aL,bC,bB,bW,dG,dM,dD,fT,s1,bX,eF,eA,gN,a1,a2,a3,pre,en,ed]
theorem O8{A:PV}{x0 y0 w0 x1 y1 w1 x2 y2 w2:Int}(S:aG)(hA:Sv A [v2 x0 y0 w0,v2 x1 y1 w1,v2 x2 y2 w2])(p:P2 x0 y0 w0)(q:P2 x1 y1 w1)(r:P2 x2 y2 w2):pS [.pv A] S=.ok (.pv (.int (sg (D2 x0 y0 w0 x1 y1 w1 x2 y2 w2)))) S:=by
 have e1:=abv S hA p q r;have e2:=Vd (w0*D2 x0 y0 w0 x1 y1 w1 x2 y2 w2) S;rw[mZ p.pos]at e2;unfold pS aS xC;simp! [aE,aZ,bA,aK,aN,aO,aM,aP,aF,aL,e1,e2]
theorem R7{A:PV}{x0 y0 z0 w0 x1 y1 z1 w1 x2 y2 z2 w2 x3 y3 z3 w3:Int}(S:aG)(hA:Sv A [v3 x0 y0 z0 w0,v3 x1 y1 z1 w1,v3 x2 y2 z2 w2,v3 x3 y3 z3 w3])(p:P3 x0 y0 z0 w0)(q:P3 x1 y1 z1 w1)(r:P3 x2 y2 z2 w2)(s:P3 x3 y3 z3 w3):pS [.pv A] S=.ok (.pv (.int (sg (D3 x0 y0 z0 w0 x1 y1 z1 w1 x2 y2 z2 w2 x3 y3 z3 w3)))) S:=by
 have e1:=aa8 S hA p q r s;have e2:=Vd (w0*w0*D3 x0 y0 z0 w0 x1 y1 z1 w1 x2 y2 z2 w2 x3 y3 z3 w3) S;rw[mZ (aw p.pos p.pos)]at e2;unfold pS aS xC;simp! [aE,aZ,bA,aK,aN,aO,aM,aP,aF,aL,e1,e2]
def Gp(n k:Nat)(v:PV):Prop:=∃xs w,v=.tup ((xs++[w]).map .int)/\Pq n k xs w
theorem Gp.two{v:PV}(h:Gp 2 1000 v):∃x y w,v=v2 x y w/\P2 x y w:=by
 obtain⟨xs,w,rfl,P⟩:=h
 match xs,P.len with
 |[x,y],_=>exact⟨x,y,w,rfl,P.bx x (by simp),P.bx y (by simp),P.bw,P.pos⟩
theorem Gp.three{v:PV}(h:Gp 3 1000 v):∃x y z w,v=v3 x y z w/\P3 x y z w:=by
 obtain⟨xs,w,rfl,P⟩:=h
 match xs,P.len with
 |[x,y,z],_=>exact⟨x,y,z,w,rfl,P.bx x (by simp),P.bx y (by simp),P.bx z (by simp),P.bw,P.pos⟩
theorem Dt{n k m:Nat}{v:PV}(h:Gp n k v):aK (m+1) v v=some true:=by
 obtain⟨xs,w,rfl,_⟩:=h;exact Vp m _
theorem Ia:∀L:AH,∀m,(∀v∈L,aK m v v=some true)->jI (ci (aK m) L L)=some (L.map λ_=>true)
 |[],m,_=>rfl
 |v::L,m,h=>by
  rw[ua,h v bh,jI,Ia L m λu hu=>h u (bj _ hu)];rfl
theorem abA{m:Nat}{L:AH}(h:∀v∈L,aK m v v=some true):aK (m+1) (.lst L) (.lst L)=some true:=by
 rw[aK,if_pos rfl,Ia L m h];simp
theorem Pb{m:Nat}{L:AH}(h:∀v∈L,aK m v v=some true):aK (m+1) (.tup L) (.tup L)=some true:=by
 rw[aK,Ia L m h];simp
theorem Hn(S:aG)(PL QL:AH)(xs ys:AA)(w v:Int)(hp:aE (.tup PL) (.int (-1))=some (.int w))(hq:aE (.tup QL) (.int (-1))=some (.int v))(hpj:∀j:Nat,j<xs.length->aE (.tup PL) (.int (j:Nat))=some (.int (xs.getD j 0)))(hqj:∀j:Nat,j<xs.length->aE (.tup QL) (.int (j:Nat))=some (.int (ys.getD j 0)))
  (bw:Bd 1000 w)(bv:Bd 1000 v)(hx:∀j,Bd 1000 (xs.getD j 0))(hy:∀j,Bd 1000 (ys.getD j 0)):∀(js:List Nat)(x:AJ),(∀j∈js,j<xs.length)->
  cD [] (gN 0) (aC dI (aC bD (aC aE (aA 1) (aA 0)) (aC aE (aA 2) (bO cB (mC (.int 1))))) (aC bD (aC aE (aA 2) (aA 0)) (aC aE (aA 1) (bO cB (mC (.int 1)))))) (js.map λj=>.int (0+(j:Nat))) [x,some (.pv (.tup QL)),some (.pv (.tup PL))] S=.ok ((js.map λj=>ys.getD j 0*w-xs.getD j 0*v).map .int) S
 |[],x,_=>eA
 |j::js,x,h=>by
  have ih:=Hn S PL QL xs ys w v hp hq hpj hqj bw bv hx hy js (some (.pv (.int (0+(j:Nat))))) λi hi=>h i (bj _ hi);have e1:=hpj j (h j bh);have e2:=hqj j (h j bh);have m1:=mB ((hx j).mono (show 1000<=2000 by decide)) (bv.mono (show 1000<=2000 by decide));have m2:=mB ((hy j).mono (show 1000<=2000 by decide)) (bw.mono (show 1000<=2000 by decide));show cD [] _ _ (.int (0+(j:Nat))::js.map λj=>.int (0+(j:Nat))) _ S=_;rw[eF];simp only[Int.zero_add]at ih⊢;generalize hX:xs.getD j 0=X at e1 m1;generalize hY:ys.getD j 0=Y at e2 m2;simp! [gN,bR,aN,aO,aM,aP,aF,aL,e1,e2,hp,hq,m1,m2,ih];simp only[q9]at hX hY;rw[hX,hY]
theorem Ft{xs ys:AA}{w v:Int}(S:aG)(hl:xs.length=ys.length)(h9:xs.length<=9)(hx:∀x∈xs,Bd 1000 x)(hy:∀y∈ys,Bd 1000 y)(bw:Bd 1000 w)(bv:Bd 1000 v):
  nB [.pv (.tup ((xs++[w]).map .int)),.pv (.tup ((ys++[v]).map .int))] S=.ok (.pv (.lst ((wa xs w ys v).map .int))) S:=by
 have ip:=lU xs w;have iq:=lU ys v;have ec:=Hn S _ _ xs ys w v ip iq (λj h=>wT xs w j h) (λj h=>wT ys v j (by omega)) bw bv (wM hx) (wM hy) (cj xs.length) none λj hj=>by simpa using hj
 have er:(cj xs.length).map (λj=>ys.getD j 0*w-xs.getD j 0*v)=wa xs w ys v:=Uk hl λx y=>y*w-x*v;rw[er]at ec;have hlen:((xs++[w]).map PV.int).length=xs.length+1:=by simp
 have hr:gR [.pv (.int (((xs.length+1:Nat):Int)-1))] S=.ok ((cj xs.length).map λj=>.int (0+(j:Nat)),[]) S:=by
  unfold gR;dsimp only;rw[if_pos ⟨by omega,by omega⟩];have:(((xs.length+1:Nat):Int)-1).toNat=xs.length:=by omega
  rw[this];rfl
 generalize (wa xs w ys v).map PV.int=ZL at ec;generalize (cj xs.length).map (λj=>PV.int (0+(j:Nat)))=RL at ec hr;generalize hP:(xs++[w]).map PV.int=PL at ip ec hlen;generalize (ys++[v]).map PV.int=QL at iq ec;unfold nB aS He;have hr2:=hr;rw[<-hlen]at hr2;simp! [bR,aN,aO,aM,aP,aF,aL,bC,cG,hr2,bX,ec]
theorem Mv{x0 y0 w0 x1 y1 w1:Int}(S:aG)(p:P2 x0 y0 w0)(q:P2 x1 y1 w1):nB [.pv (v2 x0 y0 w0),.pv (v2 x1 y1 w1)] S=.ok (.pv (.lst [.int (x1*w0-x0*w1),.int (y1*w0-y0*w1)])) S:=by
 have e:=Ft (xs:=[x0,y0]) (ys:=[x1,y1]) (w:=w0) (v:=w1) S rfl (by simp) (by simp;exact⟨p.bx,p.by_⟩) (by simp;exact⟨q.bx,q.by_⟩) p.bw q.bw;exact e
theorem rY{x0 y0 z0 w0 x1 y1 z1 w1:Int}(S:aG)(p:P3 x0 y0 z0 w0)(q:P3 x1 y1 z1 w1):nB [.pv (v3 x0 y0 z0 w0),.pv (v3 x1 y1 z1 w1)] S=.ok (.pv (.lst [.int (x1*w0-x0*w1),.int (y1*w0-y0*w1),.int (z1*w0-z0*w1)])) S:=by
 have e:=Ft (xs:=[x0,y0,z0]) (ys:=[x1,y1,z1]) (w:=w0) (v:=w1) S rfl (by simp) (by simp;exact⟨p.bx,p.by_,p.bz⟩) (by simp;exact⟨q.bx,q.by_,q.bz⟩) p.bw q.bw;exact e
theorem M5{A:PV}{x0 y0 w0 x1 y1 w1 x2 y2 w2:Int}(S:aG)(hA:Sv A [v2 x0 y0 w0,v2 x1 y1 w1,v2 x2 y2 w2])(p:P2 x0 y0 w0)(q:P2 x1 y1 w1)(r:P2 x2 y2 w2):oH [.pv A] S=.ok (.pv (.int (w0*D2 x0 y0 w0 x1 y1 w1 x2 y2 w2))) S:=by
 have a1:=Mv S p q;have a2:=Mv S p r;have bu:=sb p.bx p.bw q.bx q.bw;have bv:=sb p.by_ p.bw q.by_ q.bw;have bu2:=sb p.bx p.bw r.bx r.bw;have bv2:=sb p.by_ p.bw r.by_ r.bw;have id:(x1*w0-x0*w1)*(y2*w0-y0*w2)-(y1*w0-y0*w1)*(x2*w0-x0*w2)=w0*D2 x0 y0 w0 x1 y1 w1 x2 y2 w2:=by
  unfold D2;grind
 generalize y2*w0-y0*w2=V1,x2*w0-x0*w2=V0,y1*w0-y0*w1=U1,x1*w0-x0*w1=U0,w0*D2 x0 y0 w0 x1 y1 w1 x2 y2 w2=D at *;have m1:=iC bu bv2;have m2:=iC bv bu2;generalize v2 x2 y2 w2=R,v2 x1 y1 w1=Q,v2 x0 y0 w0=P at *;have et:mY [.pv (.lst [.lst [.int U0,.int U1],.lst [.int V0,.int V1]])] S=.ok (.pv (.int D)) S:=by
  unfold mY aS tM;simp! [aE,aZ,bA,aK,aN,aO,aM,aP,aF,aL,m1,m2,id]
 unfold oH aS xB;rcases hA with rfl |rfl
 .have s1:=uH P [Q,R]
  simp! [aE,aZ,bA,aK,aN,aO,aM,aP,aF,aL,bC,bB,bW,dG,dM,dD,fT,s1,bX,eF,eA,gN,a1,a2,et]
 .have s1:=rN P [Q,R]
  simp! [aE,aZ,bA,aK,aN,aO,aM,aP,aF,aL,bC,bB,bW,dG,dM,dD,fT,s1,bX,eF,eA,gN,a1,a2,et]
theorem R9{A:PV}{x0 y0 z0 w0 x1 y1 z1 w1 x2 y2 z2 w2 x3 y3 z3 w3:Int}(S:aG)(hA:Sv A [v3 x0 y0 z0 w0,v3 x1 y1 z1 w1,v3 x2 y2 z2 w2,v3 x3 y3 z3 w3])(p:P3 x0 y0 z0 w0)(q:P3 x1 y1 z1 w1)(r:P3 x2 y2 z2 w2)(s:P3 x3 y3 z3 w3):oH [.pv A] S=.ok (.pv (.int (w0*w0*D3 x0 y0 z0 w0 x1 y1 z1 w1 x2 y2 z2 w2 x3 y3 z3 w3))) S:=by
 have a1:=rY S p q;have a2:=rY S p r;have a3:=rY S p s;have b1:=sb p.bx p.bw q.bx q.bw;have b2:=sb p.by_ p.bw q.by_ q.bw;have b3:=sb p.bz p.bw q.bz q.bw;have b4:=sb p.bx p.bw r.bx r.bw;have b5:=sb p.by_ p.bw r.by_ r.bw;have b6:=sb p.bz p.bw r.bz r.bw;have b7:=sb p.bx p.bw s.bx s.bw;have b8:=sb p.by_ p.bw s.by_ s.bw;have b9:=sb p.bz p.bw s.bz s.bw;have id:=Cv x0 y0 z0 w0 x1 y1 z1 w1 x2 y2 z2 w2 x3 y3 z3 w3;generalize z3*w0-z0*w3=T2,y3*w0-y0*w3=T1,x3*w0-x0*w3=T0,z2*w0-z0*w2=V2,y2*w0-y0*w2=V1,x2*w0-x0*w2=V0,z1*w0-z0*w1=U2,y1*w0-y0*w1=U1,x1*w0-x0*w1=U0,w0*w0*D3 x0 y0 z0 w0 x1 y1 z1 w1 x2 y2 z2 w2 x3 y3 z3 w3=D at *;have h:∀{a:Int},Bd 2001 a->Bd 10000 a:=λh=>h.mono (by decide);have h4:∀{a:Int},Bd 4003 a->Bd 100000 a:=λh=>h.mono (by decide);have h2:∀{a:Int},Bd 2001 a->Bd 100000 a:=λh=>h.mono (by decide);have en:=Io (A:=.lst [.int U0,.int U1,.int U2]) (B:=.lst [.int V0,.int V1,.int V2]) S rfl rfl (h b1) (h b2) (h b3) (h b4) (h b5) (h b6);have c1:=cb b2 b6 b3 b5;have c2:=cb b3 b4 b1 b6;have c3:=cb b1 b5 b2 b4;have ed:=Fr (A:=.lst [.int (U1*V2-U2*V1),.int (U2*V0-U0*V2),.int (U0*V1-U1*V0)]) (B:=.lst [.int T0,.int T1,.int T2]) (us:=[U1*V2-U2*V1,U2*V0-U0*V2,U0*V1-U1*V0]) (vs:=[T0,T1,T2]) S (.inl rfl) (.inl rfl) (by simp;exact⟨h4 c1,h4 c2,h4 c3⟩) (by simp;exact⟨h2 b7,h2 b8,h2 b9⟩);rw[id]at ed;generalize v3 x3 y3 z3 w3=T,v3 x2 y2 z2 w2=R,v3 x1 y1 z1 w1=Q,v3 x0 y0 z0 w0=P,U0*V1-U1*V0=N2,U2*V0-U0*V2=N1,U1*V2-U2*V1=N0 at *;have et:mY [.pv (.lst [.lst [.int U0,.int U1,.int U2],.lst [.int V0,.int V1,.int V2],.lst [.int T0,.int T1,.int T2]])] S=.ok (.pv (.int D)) S:=by
  unfold mY aS tM;simp! [aE,aZ,bA,aK,aN,aO,aM,aP,aF,aL,en,ed]
 unfold oH aS xB;rcases hA with rfl |rfl
 .have s1:=uH P [Q,R,T]
  simp! [aE,aZ,bA,aK,aN,aO,aM,aP,aF,aL,bC,bB,bW,dG,dM,dD,fT,s1,bX,eF,eA,gN,a1,a2,a3,et]
 .have s1:=rN P [Q,R,T]
  simp! [aE,aZ,bA,aK,aN,aO,aM,aP,aF,aL,bC,bB,bW,dG,dM,dD,fT,s1,bX,eF,eA,gN,a1,a2,a3,et]
theorem aeC{S:aG}{k:Nat}{ns:AA}(n:Nat)(hn:n=2\/n=3)(h:fF S k ns):∃(v:PV)(ns':AA),mE [.ref k,.pv (.int n)] S=.ok (.pv v) (S.set k (.lst (ns'.map .int)))/\Gp n 100 v:=by
 obtain⟨xs,w,n1,e1,P,b1,b2⟩:=Is n hn h;exact⟨_,n1,e1,xs,w,rfl,P.pq b1 b2⟩
theorem Ur(ns:AA):∃g:Int,0<g/\ns=(low ns).map (g*·):=by
 by_cases h:gl ns 0=0
 .refine⟨1,by decide,?_⟩
  unfold low;rw[if_pos h];simp
 .have:=Ag ns 0 (qw 0)
  exact⟨gl ns 0,by omega,(abg h).symm⟩
theorem U5(ns:AA):low (ns.map (- ·))=(low ns).map (- ·):=by
 have e:gl (ns.map (- ·)) 0=gl ns 0:=by
  rw[<-aa2 ns];exact congrArg (λl=>gl l 0) (dz λx _=>by omega)
 unfold low;rw[e];split
 .rfl
 .rw[dh,dh]
  refine dz λx hx=>?_;exact Int.neg_ediv_of_dvd ((jU ns 0).2 x hx)
def B2(x0 y0 w0 x1 y1 w1:Int):AA:=[-(y1*w0-y0*w1),x1*w0-x0*w1,x0*y1-y0*x1]
def N3(x0 y0 z0 w0 x1 y1 z1 w1 x2 y2 z2 w2:Int):AA:=[(y1*w0-y0*w1)*(z2*w0-z0*w2)-(z1*w0-z0*w1)*(y2*w0-y0*w2),(z1*w0-z0*w1)*(x2*w0-x0*w2)-(x1*w0-x0*w1)*(z2*w0-z0*w2),(x1*w0-x0*w1)*(y2*w0-y0*w2)-(y1*w0-y0*w1)*(x2*w0-x0*w2)]
def B3(w0 x0 y0 z0 a b c:Int):AA:=[w0*a,w0*b,w0*c,-(a*x0+b*y0+c*z0)]
theorem aai{G:Gd}{g:GM}{me:ME}{x:PV}{r:AH}{ρ:bV}{S:aG}(h:iP G S):cD G g me (x::r) ρ S=(match g x ρ with
  |none=>.fail
  |some ρ1=>match me ρ1 S with
   |.ok (.pv y) S1=>match cD G g me r ρ1 S1 with
    |.ok ys S2=>.ok (y::ys) S2
    |_=>.fail
   |_=>.fail):=by
 rw[cD,if_pos h]
 all_goals rfl
theorem V8{G:Gd}{g:GM}{me:ME}{ρ:bV}{S:aG}(h:iP G S):cD G g me [] ρ S=.ok [] S:=by
 rw[cD,if_pos h]
theorem Zn(a b c x0 y0 w0 x1 y1 w1 x2 y2 w2:Int):D2 (a*x0) (a*y0) (a*w0) (b*x1) (b*y1) (b*w1) (c*x2) (c*y2) (c*w2)=a*b*c*D2 x0 y0 w0 x1 y1 w1 x2 y2 w2:=by
 unfold D2;grind
theorem Jn(a b c d x0 y0 z0 w0 x1 y1 z1 w1 x2 y2 z2 w2 x3 y3 z3 w3:Int):D3 (a*x0) (a*y0) (a*z0) (a*w0) (b*x1) (b*y1) (b*z1) (b*w1) (c*x2) (c*y2) (c*z2) (c*w2) (d*x3) (d*y3) (d*z3) (d*w3)=a*b*c*d*D3 x0 y0 z0 w0 x1 y1 z1 w1 x2 y2 z2 w2 x3 y3 z3 w3:=by
 unfold D3;grind
structure R2(x y w X Y D:Int):Prop where
 pos:0<w
 dos:0<D
 ex:x*D=X*w
 ey:y*D=Y*w
structure R3(x y z w X Y Z D:Int):Prop where
 pos:0<w
 dos:0<D
 ex:x*D=X*w
 ey:y*D=Y*w
 ez:z*D=Z*w
theorem Pq.p2{k:Nat}{x y w:Int}(P:Pq 2 k [x,y] w)(h:k<=1000):P2 x y w:=⟨(P.bx x (by simp)).mono h,(P.bx y (by simp)).mono h,P.bw.mono h,P.pos⟩
theorem Pq.p3{k:Nat}{x y z w:Int}(P:Pq 3 k [x,y,z] w)(h:k<=1000):P3 x y z w:=⟨(P.bx x (by simp)).mono h,(P.bx y (by simp)).mono h,(P.bx z (by simp)).mono h,P.bw.mono h,P.pos⟩
def jE:AH->Int
 |[.tup [.int x0,.int y0,.int w0],.tup [.int x1,.int y1,.int w1],.tup [.int x2,.int y2,.int w2]]=>sg (D2 x0 y0 w0 x1 y1 w1 x2 y2 w2)
 |[.tup [.int x0,.int y0,.int z0,.int w0],.tup [.int x1,.int y1,.int z1,.int w1],.tup [.int x2,.int y2,.int z2,.int w2],.tup [.int x3,.int y3,.int z3,.int w3]]=>sg (D3 x0 y0 z0 w0 x1 y1 z1 w1 x2 y2 z2 w2 x3 y3 z3 w3)
 |_=>0
theorem aa4{n:Nat}(hn:n=2\/n=3){A:PV}{L:AH}(S:aG)(hl:L.length=n+1)(hg:∀v∈L,Gp n 1000 v)(hA:Sv A L):pS [.pv A] S=.ok (.pv (.int (jE L))) S:=by
 rcases hn with rfl |rfl
 .match L,hl with
  |[P,Q,R],_=>
   obtain⟨x0,y0,w0,rfl,p⟩:=(hg P (by simp)).two;obtain⟨x1,y1,w1,rfl,q⟩:=(hg Q (by simp)).two;obtain⟨x2,y2,w2,rfl,r⟩:=(hg R (by simp)).two;exact O8 S hA p q r
 .match L,hl with
  |[P,Q,R,T],_=>
   obtain⟨x0,y0,z0,w0,rfl,p⟩:=(hg P (by simp)).three;obtain⟨x1,y1,z1,w1,rfl,q⟩:=(hg Q (by simp)).three;obtain⟨x2,y2,z2,w2,rfl,r⟩:=(hg R (by simp)).three;obtain⟨x3,y3,z3,w3,rfl,s⟩:=(hg T (by simp)).three;exact R7 S hA p q r s
theorem Qs(D:Int):sg (-D)=-sg D:=by
 unfold sg;split<;>split<;>(try split)<;>(try split)<;>omega
abbrev tv(us:AA):PV:=.tup (us.map .int)
def Gu(n k:Nat)(us:AA):Prop:=∃xs w,us=xs++[w]/\Pq n k xs w
theorem Gu.gp{n k:Nat}{us:AA}(h:Gu n k us):Gp n k (tv us):=by
 obtain⟨xs,w,rfl,P⟩:=h;exact⟨xs,w,rfl,P⟩
theorem Gu.ne{n k:Nat}{us:AA}(h:Gu n k us):us≠[]:=by
 obtain⟨xs,w,rfl,P⟩:=h;simp
theorem Oh{n k:Nat}{uss:AB}(h:∀us∈uss,Gu n k us):∀v∈uss.map tv,Gp n k v:=λv hv=>by
 obtain⟨us,hu,rfl⟩:=gq.mp hv;exact(h us hu).gp
theorem Sj:∀uss:AB,oF (uss.map tv)=some uss
 |[]=>rfl
 |us::uss=>by
  have ih:=Sj uss;show(match kF (us.map .int),oF (uss.map tv)with |some is,some uss=>some (is::uss) |_,_=>none)=_
  rw[ih,Ga]
theorem Jk{uss:AB}{n:Nat}(hl:uss.length=n)(hp:(dY uss).Perm (cj n)):Bf (uss.map tv) uss=(eB uss).map tv:=by
 unfold Bf eB;rw[dh];refine dz λi hi=>?_;have h:i<uss.length:=by
  have:=hp.subset hi;rw[hl];simpa using this
 simp[cg,h]
theorem Rj{A:PV}{uss:AB}(hl:uss.length=3\/uss.length=4)(hA:Sv A (uss.map tv))(hne:∀us∈uss,us≠[]):rA [A]=some (.lst ((eB uss).map tv)):=by
 have e:rQ (uss.map tv)=some (.lst ((eB uss).map tv)):=by
  unfold rQ;rw[Sj];dsimp only;rcases hl with h |h
  .obtain⟨_,hp,_⟩:=To h
   rw[if_pos (show Dg uss from⟨by omega,by omega,by rw[h];exact Cu,by rw[hp.length_eq];simp,hne⟩),Jk h hp]
  .obtain⟨_,hp,_⟩:=Cp h
   rw[if_pos (show Dg uss from⟨by omega,by omega,by rw[h];exact Vu,by rw[hp.length_eq];simp,hne⟩),Jk h hp]
 rcases hA with rfl |rfl
 .exact e
 .exact e
def qG{α:Type}:List α->List α
 |[a,b,c]=>[a,c,b]
 |[a,b,c,d]=>[a,b,d,c]
 |l=>l
theorem Fq{α β:Type}(f:α->β)(l:List α):(qG l).map f=qG (l.map f):=by
 rcases l with _ |⟨a,_ |⟨b,_ |⟨c,_ |⟨d,_ |⟨e,l⟩⟩⟩⟩⟩<;>rfl
theorem R6{α:Type}(l:List α):(qG l).Perm l:=by
 unfold qG;split
 .exact .cons _ (.swap _ _ _)
 .exact .cons _ (.cons _ (.swap _ _ _))
 .exact .refl _
def dU:AB->Int
 |[[x0,y0,w0],[x1,y1,w1],[x2,y2,w2]]=>D2 x0 y0 w0 x1 y1 w1 x2 y2 w2
 |[[x0,y0,z0,w0],[x1,y1,z1,w1],[x2,y2,z2,w2],[x3,y3,z3,w3]]=>D3 x0 y0 z0 w0 x1 y1 z1 w1 x2 y2 z2 w2 x3 y3 z3 w3
 |_=>0
theorem Gu.two{k:Nat}{us:AA}(h:Gu 2 k us)(hk:k<=1000):∃x y w,us=[x,y,w]/\P2 x y w:=by
 obtain⟨xs,w,rfl,P⟩:=h
 match xs,P.len,P with
 |[x,y],_,P=>exact⟨x,y,w,rfl,P.p2 hk⟩
theorem Gu.three{k:Nat}{us:AA}(h:Gu 3 k us)(hk:k<=1000):∃x y z w,us=[x,y,z,w]/\P3 x y z w:=by
 obtain⟨xs,w,rfl,P⟩:=h
 match xs,P.len,P with
 |[x,y,z],_,P=>exact⟨x,y,z,w,rfl,P.p3 hk⟩
theorem rF{n k:Nat}(hn:n=2\/n=3)(hk:k<=1000){uss:AB}(hl:uss.length=n+1)(hg:∀us∈uss,Gu n k us):jE (uss.map tv)=sg (dU uss):=by
 rcases hn with rfl |rfl
 .match uss,hl with
  |[a,b,c],_=>
   obtain⟨x0,y0,w0,rfl,_⟩:=(hg a (by simp)).two hk;obtain⟨x1,y1,w1,rfl,_⟩:=(hg b (by simp)).two hk;obtain⟨x2,y2,w2,rfl,_⟩:=(hg c (by simp)).two hk;rfl
 .match uss,hl with
  |[a,b,c,d],_=>
   obtain⟨x0,y0,z0,w0,rfl,_⟩:=(hg a (by simp)).three hk;obtain⟨x1,y1,z1,w1,rfl,_⟩:=(hg b (by simp)).three hk;obtain⟨x2,y2,z2,w2,rfl,_⟩:=(hg c (by simp)).three hk;obtain⟨x3,y3,z3,w3,rfl,_⟩:=(hg d (by simp)).three hk;rfl
def Pw(n:Nat)(us:AA):Prop:=∃xs w,us=xs++[w]/\xs.length=n/\0<w
theorem Pw.two{us:AA}(h:Pw 2 us):∃x y w,us=[x,y,w]/\0<w:=by
 obtain⟨xs,w,rfl,l,p⟩:=h
 match xs,l with
 |[x,y],_=>exact⟨x,y,w,rfl,p⟩
theorem Pw.three{us:AA}(h:Pw 3 us):∃x y z w,us=[x,y,z,w]/\0<w:=by
 obtain⟨xs,w,rfl,l,p⟩:=h
 match xs,l with
 |[x,y,z],_=>exact⟨x,y,z,w,rfl,p⟩
theorem Gu.pt{n k:Nat}{us:AA}(h:Gu n k us):Pw n us:=by
 obtain⟨xs,w,e,P⟩:=h;exact⟨xs,w,e,P.len,P.pos⟩
theorem dU2{x0 y0 w0 x1 y1 w1 x2 y2 w2:Int}:dU [[x0,y0,w0],[x1,y1,w1],[x2,y2,w2]]=D2 x0 y0 w0 x1 y1 w1 x2 y2 w2:=rfl
theorem dU3{x0 y0 z0 w0 x1 y1 z1 w1 x2 y2 z2 w2 x3 y3 z3 w3:Int}:dU [[x0,y0,z0,w0],[x1,y1,z1,w1],[x2,y2,z2,w2],[x3,y3,z3,w3]]=D3 x0 y0 z0 w0 x1 y1 z1 w1 x2 y2 z2 w2 x3 y3 z3 w3:=rfl
theorem Sr{n:Nat}(hn:n=2\/n=3){pre l:AB}{x y:AA}(hl:(pre++y::x::l).length=n+1)(hp:∀u∈pre++y::x::l,Pw n u):dU (pre++x::y::l)=-dU (pre++y::x::l):=by
 have hx:=hp x (by simp);have hy:=hp y (by simp);rcases hn with rfl |rfl
 .obtain⟨x0,y0,w0,rfl,_⟩:=hx.two
  obtain⟨x1,y1,w1,rfl,_⟩:=hy.two;have fin:∀c∈pre++l,∃x y w,c=[x,y,w]:=λc hc=>by
   obtain⟨x,y,w,e,_⟩:=(hp c (by simp at hc⊢;rcases hc with h |h<;>simp[h])).two;exact⟨x,y,w,e⟩
  match pre,l,hl,fin with
  |[],[c],_,fin |[c],[],_,fin=>
   obtain⟨x2,y2,w2,rfl⟩:=fin c (by simp);simp only[eh,ju,dU2,D2];grind
  |[],[],h,_=>simp at h
  |[],_::_::_,h,_=>simp at h
  |_::_::_,_,h,_=>simp at h;omega
  |[_],_::_,h,_=>simp at h
 .obtain⟨x0,y0,z0,w0,rfl,_⟩:=hx.three
  obtain⟨x1,y1,z1,w1,rfl,_⟩:=hy.three;have fin:∀c∈pre++l,∃x y z w,c=[x,y,z,w]:=λc hc=>by
   obtain⟨x,y,z,w,e,_⟩:=(hp c (by simp at hc⊢;rcases hc with h |h<;>simp[h])).three;exact⟨x,y,z,w,e⟩
  match pre,l,hl,fin with
  |[],[c,d],_,fin |[c],[d],_,fin |[c,d],[],_,fin=>
   obtain⟨x2,y2,z2,w2,rfl⟩:=fin c (by simp);obtain⟨x3,y3,z3,w3,rfl⟩:=fin d (by simp);simp only[eh,ju,dU3,D3];grind
  |[],[],h,_=>simp at h
  |[],[_],h,_=>simp at h
  |[],_::_::_::_,h,_=>simp at h
  |[_],[],h,_=>simp at h
  |[_],_::_::_,h,_=>simp at h
  |[_,_],_::_,h,_=>simp at h
  |_::_::_::_,_,h,_=>simp at h;omega
theorem Ir{n:Nat}(hn:n=2\/n=3){A B:AB}(h:A.Perm B):∀pre:AB,(pre++A).length=n+1->(∀u∈pre++A,Pw n u)->dU (pre++B)=dU (pre++A)\/dU (pre++B)=-dU (pre++A):=by
 induction h with
 |nil=>exact λpre _ _=>.inl rfl
 |cons x _ ih=>
  intro pre hl hp;have:=ih (pre++[x]) (by simpa using hl) (by simpa using hp);simpa using this
 |swap x y l=>exact λpre hl hp=>.inr (Sr hn hl hp)
 |trans h1 h2 ih1 ih2=>
  intro pre hl hp;have q1:=ih1 pre hl hp;have q2:=ih2 pre (by rw[<-(h1.append_left pre).length_eq];exact hl) λu hu=>hp u ((h1.append_left pre).mem_iff.mpr hu);omega
theorem Up{n k:Nat}(hn:n=2\/n=3)(hk:k<=1000){uss:AB}(hl:uss.length=n+1)(hg:∀us∈uss,Gu n k us):dU (eB uss)=dU uss\/dU (eB uss)=-dU uss:=
 Ir hn (nT (by omega)).1.symm [] hl λu hu=>(hg u hu).pt
theorem nH{n:Nat}(hn:n=2\/n=3){uss:AB}(hl:uss.length=n+1):uss.length=3\/uss.length=4:=by
 rcases hn with rfl |rfl
 .exact .inl hl
 .exact .inr hl
theorem X7{n:Nat}(hn:n=2\/n=3){uss:AB}(hl:uss.length=n+1)(hg:∀us∈uss,Gu n 1000 us):jE ((eB uss).map tv)=jE (uss.map tv)\/jE ((eB uss).map tv)=-jE (uss.map tv):=by
 have hp:=(nT (nH hn hl)).1;rw[rF hn (aj 1000) (by rw[hp.length_eq,hl]) (λus hu=>hg us (hp.subset hu)),rF hn (aj 1000) hl hg];rcases Up hn (aj 1000) hl hg with e |e
 .exact .inl (by rw[e])
 .exact .inr (by rw[e,Qs])
theorem Zo{n:Nat}(hn:n=2\/n=3){A:PV}{L:AH}(S:aG)(hl:L.length=n+1)(hg:∀v∈L,Gp n 1000 v)(hA:Sv A L):∃d:Int,oH [.pv A] S=.ok (.pv (.int d)) S/\sg d=jE L:=by
 rcases hn with rfl |rfl
 .match L,hl with
  |[P,Q,R],_=>
   obtain⟨x0,y0,w0,rfl,p⟩:=(hg P (by simp)).two;obtain⟨x1,y1,w1,rfl,q⟩:=(hg Q (by simp)).two;obtain⟨x2,y2,w2,rfl,r⟩:=(hg R (by simp)).two;exact⟨_,M5 S hA p q r,mZ p.pos⟩
 .match L,hl with
  |[P,Q,R,T],_=>
   obtain⟨x0,y0,z0,w0,rfl,p⟩:=(hg P (by simp)).three;obtain⟨x1,y1,z1,w1,rfl,q⟩:=(hg Q (by simp)).three;obtain⟨x2,y2,z2,w2,rfl,r⟩:=(hg R (by simp)).three;obtain⟨x3,y3,z3,w3,rfl,s⟩:=(hg T (by simp)).three;exact⟨_,R9 S hA p q r s,mZ (aw p.pos p.pos)⟩
def cF(uss:AB):AB:=if jE ((eB uss).map tv)<0 then qG (eB uss)else eB uss
theorem Uu{n:Nat}(hn:n=2\/n=3){L:AH}(hl:L.length=n+1):∃a b M,gL (.lst L) none (some (-2))=some (.lst M)/\aE (.lst L) (.int (-1))=some a/\aE (.lst L) (.int (-2))=some b/\aF (.lst M) (.lst [a,b])=some (.lst (qG L)):=by
 rcases hn with rfl |rfl
 .match L,hl with
  |[P,Q,R],_=>exact⟨R,Q,[P],rfl,rfl,rfl,rfl⟩
 .match L,hl with
  |[P,Q,R,T],_=>exact⟨T,R,[P,Q],rfl,rfl,rfl,rfl⟩
theorem Cy{n:Nat}(hn:n=2\/n=3){A:PV}{a:AV}{uss:AB}(S:aG)(ha:rd S a=some A)(hl:uss.length=n+1)(hg:∀us∈uss,Gu n 1000 us)(hA:Sv A (uss.map tv)):lQ [a] S=.ok (.pv (.tup ((cF uss).map tv))) S:=by
 have h34:uss.length=3\/uss.length=4:=by omega
 have e1:=Rj h34 hA λus hu=>(hg us hu).ne;obtain⟨pm,_⟩:=nT h34;have hl2:((eB uss).map tv).length=n+1:=by rw[am,pm.length_eq];exact hl
 have hg2:∀v∈(eB uss).map tv,Gp n 1000 v:=Oh λus hu=>hg us (pm.subset hu);obtain⟨d,e2,hd⟩:=Zo (A:=.lst ((eB uss).map tv)) hn S hl2 hg2 (.inl rfl);obtain⟨a1,b1,M,t1,t2,t3,t4⟩:=Uu hn hl2;unfold cF;have hlt:d<0↔jE ((eB uss).map tv)<0:=by
  rw[<-hd];unfold sg;split
  .omega
  .split<;>omega
 by_cases h:d<0
 .rw[if_pos (hlt.mp h),Fq]
  generalize (eB uss).map tv=L at *;unfold lQ aS vH;simp! [-rd,rd.eq_1,bR,aN,aO,aM,aP,aL,ha,e1,e2,h,dG,dM,dD,fT,t1,t2,t3,t4]
 .rw[if_neg (λz=>h (hlt.mpr z))]
  generalize (eB uss).map tv=L at *;unfold lQ aS vH;simp! [-rd,rd.eq_1,bR,aN,aO,aM,aP,aL,ha,e1,e2,h]
theorem vE{n:Nat}(hn:n=2\/n=3){A:PV}{uss:AB}(S:aG)(hl:uss.length=n+1)(hg:∀us∈uss,Gu n 1000 us)(hA:Sv A (uss.map tv)):lQ [.pv A] S=.ok (.pv (.tup ((cF uss).map tv))) S:=Cy hn S rfl hl hg hA
theorem Ej{n:Nat}(hn:n=2\/n=3){A:PV}{uss:AB}(S:aG)(hl:uss.length=n+1)(hg:∀us∈uss,Gu n 1000 us)(hA:Sv A (uss.map tv))(h0:jE (uss.map tv)≠0):mL [.pv A] S=.ok (.pv (.tup ((cF uss).map tv))) S:=by
 have h34:uss.length=3\/uss.length=4:=by omega
 have e1:=Rj h34 hA λus hu=>(hg us hu).ne;obtain⟨pm,_⟩:=nT h34;have hl2:((eB uss).map tv).length=n+1:=by rw[am,pm.length_eq];exact hl
 have hg2:∀v∈(eB uss).map tv,Gp n 1000 v:=Oh λus hu=>hg us (pm.subset hu);have e2:=aa4 (A:=.lst ((eB uss).map tv)) hn S hl2 hg2 (.inl rfl);have h1:jE ((eB uss).map tv)≠0:=by rcases X7 hn hl hg with e |e<;>omega
 obtain⟨a,b,M,t1,t2,t3,t4⟩:=Uu hn hl2;unfold cF
 by_cases h:jE ((eB uss).map tv)<0
 .rw[if_pos h,Fq]
  generalize (eB uss).map tv=L at *;generalize jE L=D at *;unfold mL aS vP;simp! [bR,aN,aO,aM,aP,aL,e1,e2,h,h1,dG,dM,dD,fT,t1,t2,t3,t4]
 .rw[if_neg h]
  generalize (eB uss).map tv=L at *;generalize jE L=D at *;unfold mL aS vP;simp! [bR,aN,aO,aM,aP,aL,e1,e2,h,h1]
theorem tF{uss:AB}(h:uss.length=3\/uss.length=4):(cF uss).Perm uss:=by
 obtain⟨pm,_⟩:=nT h;unfold cF;split
 .exact(R6 _).trans pm
 .exact pm
theorem aao{uss:AB}(h:uss.length=3\/uss.length=4):cF (cF uss)=cF uss:=by
 have e:=Ei (tF h) h;unfold cF at e⊢;rw[e]
theorem abJ{S:aG}{k j:Nat}{xs:AH}{v:PV}(hS:S[k]?=some (.lst xs))(hv:xs[j]?=some v)(hj:j<1000):pX k [.pv (.int (j:Int))] S=.ok (.pv v) (S.set k (.lst (xs.eraseIdx j))):=by
 have hl:=(ca.mp hv).1;have e:seqIndex? (j:Int) xs.length=some j:=by
  unfold seqIndex?;have h1:¬((j:Int)<0):=by omega
  have h2:(decide (0<=(j:Int))&&decide ((j:Int)<(xs.length:Int)))=true:=by
   simp only[jd,decide_eq_true_eq];omega
  simp only[h1,if_false];rw[if_pos h2,ky]
 unfold pX;dsimp only;rw[if_pos ⟨by omega,by omega⟩,hS];dsimp only;rw[e];dsimp only;rw[hv]
def wU:AB->Int
 |[]=>1
 |us::r=>us.getLastD 0*wU r
theorem Gu.mono{n k l:Nat}{us:AA}(h:Gu n k us)(hl:k<=l):Gu n l us:=by
 obtain⟨xs,w,e,P⟩:=h;exact⟨xs,w,e,P.mono hl⟩
theorem pK{d:Int}:sg d=0↔d=0:=by
 unfold sg;split
 .omega
 .split<;>omega
theorem Zu{d:Int}:sg d<0↔d<0:=by
 unfold sg;split
 .omega
 .split<;>omega
theorem abL{n k:Nat}(hn:n=2\/n=3)(hk:k<=1000){uss:AB}(hl:uss.length=n+1)(hg:∀us∈uss,Gu n k us):dU (qG uss)=-dU uss:=by
 rcases hn with rfl |rfl
 .match uss,hl with
  |[a,b,c],_=>
   obtain⟨x0,y0,w0,rfl,_⟩:=(hg a (by simp)).two hk;obtain⟨x1,y1,w1,rfl,_⟩:=(hg b (by simp)).two hk;obtain⟨x2,y2,w2,rfl,_⟩:=(hg c (by simp)).two hk;show D2 x0 y0 w0 x2 y2 w2 x1 y1 w1=-(D2 x0 y0 w0 x1 y1 w1 x2 y2 w2);unfold D2;grind
 .match uss,hl with
  |[a,b,c,d],_=>
   obtain⟨x0,y0,z0,w0,rfl,_⟩:=(hg a (by simp)).three hk;obtain⟨x1,y1,z1,w1,rfl,_⟩:=(hg b (by simp)).three hk;obtain⟨x2,y2,z2,w2,rfl,_⟩:=(hg c (by simp)).three hk;obtain⟨x3,y3,z3,w3,rfl,_⟩:=(hg d (by simp)).three hk;show D3 x0 y0 z0 w0 x1 y1 z1 w1 x3 y3 z3 w3 x2 y2 z2 w2=-(D3 x0 y0 z0 w0 x1 y1 z1 w1 x2 y2 z2 w2 x3 y3 z3 w3);unfold D3;grind
theorem Bt{n k:Nat}(hn:n=2\/n=3)(hk:k<=1000){uss:AB}(hl:uss.length=n+1)(hg:∀us∈uss,Gu n k us):dU (cF uss)=((dU uss).natAbs:Int):=by
 have hp:=(nT (nH hn hl)).1;have gs:∀us∈eB uss,Gu n k us:=λus hu=>hg us (hp.subset hu);have ls:(eB uss).length=n+1:=by rw[hp.length_eq,hl]
 have e:=Up hn hk hl hg;have s:=abL hn hk ls gs;have q:=rF hn hk ls gs;unfold cF;split
 .rename_i h
  rw[q,Zu]at h;rw[s];omega
 .rename_i h
  rw[q,Zu]at h;omega
theorem tQ{n k:Nat}:∀{uss:AB},(∀us∈uss,Gu n k us)->0<wU uss
 |[],_=>by decide
 |us::r,h=>by
  unfold wU;obtain⟨xs,w,rfl,P⟩:=h us bh;refine aw ?_ (tQ λu hu=>h u (bj _ hu));rw[show(xs++[w]).getLastD 0=w by simp];exact P.pos
theorem Vx{A B:AB}(hp:A.Perm B)(h:B.length=3\/B.length=4):cF A=cF B:=by
 unfold cF;rw[Ei hp h]
structure Sx(n k:Nat)(uss:AB):Prop where
 len:uss.length=n+1
 gu:∀us∈uss,Gu n k us
 nz:dU uss≠0
 cn:cF uss=uss
abbrev px(uss:AB):PV:=.tup (uss.map tv)
theorem Ef{n k:Nat}(hn:n=2\/n=3)(hk:k<=1000){uss:AB}(hl:uss.length=n+1)(hg:∀us∈uss,Gu n k us)(nz:dU uss≠0):Sx n k (cF uss):=by
 have hp:=tF (nH hn hl);refine⟨by rw[hp.length_eq,hl],λus hu=>hg us (hp.subset hu),?_,aao (nH hn hl)⟩;rw[Bt hn hk hl hg];omega
def jM(n:Nat)(A C:Nat->Int)(E:Int)(us us':AA):Prop:=∃xs w xs' w',us=xs++[w]/\us'=xs'++[w']/\xs.length=n/\xs'.length=n/\0<w/\0<w'/\∀j,j<n->xs'.getD j 0*(E*w)=(A j*xs.getD j 0+C j*w)*w'
theorem jM.two{A C:Nat->Int}{E:Int}{us us':AA}(h:jM 2 A C E us us'):∃x y w x' y' w',us=[x,y,w]/\us'=[x',y',w']/\x'*(E*w)=(A 0*x+C 0*w)*w'/\y'*(E*w)=(A 1*y+C 1*w)*w':=by
 obtain⟨xs,w,xs',w',rfl,rfl,l,l',_,_,h⟩:=h
 match xs,l,xs',l',h with
 |[x,y],_,[x',y'],_,h=>exact⟨x,y,w,x',y',w',rfl,rfl,h 0 (by decide),h 1 (by decide)⟩
theorem jM.three{A C:Nat->Int}{E:Int}{us us':AA}(h:jM 3 A C E us us'):∃x y z w x' y' z' w',us=[x,y,z,w]/\us'=[x',y',z',w']/\x'*(E*w)=(A 0*x+C 0*w)*w'/\y'*(E*w)=(A 1*y+C 1*w)*w'/\z'*(E*w)=(A 2*z+C 2*w)*w':=by
 obtain⟨xs,w,xs',w',rfl,rfl,l,l',_,_,h⟩:=h
 match xs,l,xs',l',h with
 |[x,y,z],_,[x',y',z'],_,h=>exact⟨x,y,z,w,x',y',z',w',rfl,rfl,h 0 (by decide),h 1 (by decide),h 2 (by decide)⟩
theorem adk(a b c d E x0 y0 w0 x1 y1 w1 x2 y2 w2:Int):D2 (a*x0+c*w0) (b*y0+d*w0) (E*w0) (a*x1+c*w1) (b*y1+d*w1) (E*w1) (a*x2+c*w2) (b*y2+d*w2) (E*w2)=a*b*E*D2 x0 y0 w0 x1 y1 w1 x2 y2 w2:=by
 unfold D2;grind
theorem adm(a b p c d e E x0 y0 z0 w0 x1 y1 z1 w1 x2 y2 z2 w2 x3 y3 z3 w3:Int):D3 (a*x0+c*w0) (b*y0+d*w0) (p*z0+e*w0) (E*w0) (a*x1+c*w1) (b*y1+d*w1) (p*z1+e*w1) (E*w1) (a*x2+c*w2) (b*y2+d*w2) (p*z2+e*w2) (E*w2) (a*x3+c*w3) (b*y3+d*w3) (p*z3+e*w3) (E*w3)=a*b*p*E*D3 x0 y0 z0 w0 x1 y1 z1 w1 x2 y2 z2 w2 x3 y3 z3 w3:=by
 unfold D3;grind
theorem cm(a b:Int){c:Int}(h:a*b=c):b*a=c:=by rw[dy];exact h
theorem Xv{A C:Nat->Int}{E:Int}{P Q R P' Q' R':AA}(h0:jM 2 A C E P P')(h1:jM 2 A C E Q Q')(h2:jM 2 A C E R R'):dU [P',Q',R']*(E*E*E*wU [P,Q,R])=A 0*A 1*E*dU [P,Q,R]*wU [P',Q',R']:=by
 obtain⟨x0,y0,w0,X0,Y0,W0,rfl,rfl,p,q⟩:=h0.two;obtain⟨x1,y1,w1,X1,Y1,W1,rfl,rfl,p1,q1⟩:=h1.two;obtain⟨x2,y2,w2,X2,Y2,W2,rfl,rfl,p2,q2⟩:=h2.two;have e:=Zn (E*w0) (E*w1) (E*w2) X0 Y0 W0 X1 Y1 W1 X2 Y2 W2;have f:=Zn W0 W1 W2 (A 0*x0+C 0*w0) (A 1*y0+C 1*w0) (E*w0) (A 0*x1+C 0*w1) (A 1*y1+C 1*w1) (E*w1) (A 0*x2+C 0*w2) (A 1*y2+C 1*w2) (E*w2);rw[adk]at f;rw[cm _ _ p,cm _ _ q,cm _ _ p1,cm _ _ q1,cm _ _ p2,cm _ _ q2,dy _ W0,dy _ W0,dy _ W0,dy _ W1,dy _ W1,dy _ W1,dy _ W2,dy _ W2,dy _ W2]at e;have g:=e.symm.trans f;show D2 X0 Y0 W0 X1 Y1 W1 X2 Y2 W2*(E*E*E*(w0*(w1*(w2*1))))=A 0*A 1*E*D2 x0 y0 w0 x1 y1 w1 x2 y2 w2*(W0*(W1*(W2*1)));generalize D2 X0 Y0 W0 X1 Y1 W1 X2 Y2 W2=d at g⊢;generalize D2 x0 y0 w0 x1 y1 w1 x2 y2 w2=d' at g⊢;clear e f p q p1 q1 p2 q2 h0 h1 h2;grind
theorem Uv{A C:Nat->Int}{E:Int}{P Q R T P' Q' R' T':AA}(h0:jM 3 A C E P P')(h1:jM 3 A C E Q Q')(h2:jM 3 A C E R R')(h3:jM 3 A C E T T'):dU [P',Q',R',T']*(E*E*E*E*wU [P,Q,R,T])=A 0*A 1*A 2*E*dU [P,Q,R,T]*wU [P',Q',R',T']:=by
 obtain⟨x0,y0,z0,w0,X0,Y0,Z0,W0,rfl,rfl,p,q,r⟩:=h0.three;obtain⟨x1,y1,z1,w1,X1,Y1,Z1,W1,rfl,rfl,p1,q1,r1⟩:=h1.three;obtain⟨x2,y2,z2,w2,X2,Y2,Z2,W2,rfl,rfl,p2,q2,r2⟩:=h2.three;obtain⟨x3,y3,z3,w3,X3,Y3,Z3,W3,rfl,rfl,p3,q3,r3⟩:=h3.three;have e:=Jn (E*w0) (E*w1) (E*w2) (E*w3) X0 Y0 Z0 W0 X1 Y1 Z1 W1 X2 Y2 Z2 W2 X3 Y3 Z3 W3;have f:=Jn W0 W1 W2 W3 (A 0*x0+C 0*w0) (A 1*y0+C 1*w0) (A 2*z0+C 2*w0) (E*w0) (A 0*x1+C 0*w1) (A 1*y1+C 1*w1) (A 2*z1+C 2*w1) (E*w1) (A 0*x2+C 0*w2) (A 1*y2+C 1*w2) (A 2*z2+C 2*w2) (E*w2) (A 0*x3+C 0*w3) (A 1*y3+C 1*w3) (A 2*z3+C 2*w3) (E*w3);rw[adm]at f;rw[cm _ _ p,cm _ _ q,cm _ _ r,cm _ _ p1,cm _ _ q1,cm _ _ r1,cm _ _ p2,cm _ _ q2,cm _ _ r2,cm _ _ p3,cm _ _ q3,cm _ _ r3]at e;have cW:∀a W:Int,a*W=W*a:=dy;rw[cW _ W0,cW _ W0,cW _ W0,cW _ W0,cW _ W1,cW _ W1,cW _ W1,cW _ W1,cW _ W2,cW _ W2,cW _ W2,cW _ W2,cW _ W3,cW _ W3,cW _ W3,cW _ W3]at e;have g:=e.symm.trans f;show D3 X0 Y0 Z0 W0 X1 Y1 Z1 W1 X2 Y2 Z2 W2 X3 Y3 Z3 W3*(E*E*E*E*(w0*(w1*(w2*(w3*1)))))=A 0*A 1*A 2*E*D3 x0 y0 z0 w0 x1 y1 z1 w1 x2 y2 z2 w2 x3 y3 z3 w3*(W0*(W1*(W2*(W3*1))));generalize D3 X0 Y0 Z0 W0 X1 Y1 Z1 W1 X2 Y2 Z2 W2 X3 Y3 Z3 W3=d at g⊢;generalize D3 x0 y0 z0 w0 x1 y1 z1 w1 x2 y2 z2 w2 x3 y3 z3 w3=d' at g⊢;clear e f p q r p1 q1 r1 p2 q2 r2 p3 q3 r3 h0 h1 h2 h3 cW;grind
def cM(way:Int)(f us:AA):AA:=mv way us.dropLast (us.getLastD 0) f.dropLast (f.getLastD 0)
theorem xG(way:Int)(xs:AA)(w:Int)(ys:AA)(v:Int):cM way (ys++[v]) (xs++[w])=mv way xs w ys v:=by
 unfold cM;simp
theorem fB{n k l:Nat}{way:Int}{us f:AA}(hway:way=1\/way=-1)(h:Gu n k us)(g:Gu n l f):Gu n (k+l+1) (cM way f us)/\jM n (λ_=>way*f.getLastD 0) (λj=>f.getD j 0) (f.getLastD 0) us (cM way f us):=by
 obtain⟨xs,w,rfl,P⟩:=h;obtain⟨ys,v,rfl,Q⟩:=g;rw[xG];obtain⟨zs,z,e,Z,hv⟩:=adC hway P Q;rw[e];refine⟨⟨zs,z,rfl,Z⟩,xs,w,zs,z,rfl,rfl,P.len,Z.len,P.pos,Z.pos,λj hj=>?_⟩;have a:=hv _ _ _ _ (Vl.self n xs w) (Vl.self n ys v) P.pos Q.pos j hj;rw[show(ys++[v]).getLastD 0=v by simp];have eg:(ys++[v]).getD j 0=ys.getD j 0:=by
  have:j<ys.length:=by rw[Q.len];exact hj
  simp[cg,du this]
 dsimp only at a⊢;rw[eg];generalize ys.getD j 0=y at a⊢;generalize xs.getD j 0=x at a⊢;generalize zs.getD j 0=t at a⊢;rw[dy v w,a];grind
theorem acQ{n k l:Nat}{way:Int}{us f:AA}(S:aG)(hn:n=2\/n=3)(h:Gu n k us)(g:Gu n l f)(hk:k<=2000)(hl:l<=2000):nR [.pv (tv us),.pv (.tup [.int way,tv f])] S=.ok (.pv (tv (cM way f us))) S:=by
 obtain⟨xs,w,rfl,P⟩:=h;obtain⟨ys,v,rfl,Q⟩:=g;rw[xG];exact ac4 S hn P Q hk hl
theorem Iq{n k l:Nat}{way:Int}{us f:AA}(S:aG)(hn:n=2\/n=3)(hway:way=1\/way=-1)(h:Gu n k us)(g:Gu n l f)(hk:k<=1000)(hl:l<=1000):lR [.pv (tv us),.pv (tv f),.pv (.int way)] S=.ok (.pv (tv (cM way f us))) S:=by
 obtain⟨xs,w,rfl,P⟩:=h;obtain⟨ys,v,rfl,Q⟩:=g;rw[xG];exact aaF S hn hway P Q hk hl
theorem E9{a b w v:Int}(hw:0<w)(hv:0<v)(h:a*w=b*v\/a*w=-(b*v)):(a.natAbs:Int)*w=(b.natAbs:Int)*v:=by
 have e:(a*w).natAbs=(b*v).natAbs:=by
  rcases h with h |h
  .rw[h]
  .rw[h,zm]
 rw[qs,qs]at e;have e1:((w.natAbs:Nat):Int)=w:=by omega
 have e2:((v.natAbs:Nat):Int)=v:=by omega
 have e3:((a.natAbs*w.natAbs:Nat):Int)=((b.natAbs*v.natAbs:Nat):Int):=by rw[e]
 rw[t9,t9,e1,e2]at e3;exact e3
theorem aeO{v d d' w w':Int}{way:Int}(hv:0<v)(hway:way=1\/way=-1)(h:d'*(v*v*v*w)=way*v*(way*v)*v*d*w'):d'*w=d*w':=by
 have e:(d'*w)*(v*v*v)=(d*w')*(v*v*v):=by rcases hway with rfl |rfl<;>grind
 exact xD (aw (aw hv hv) hv) e
theorem aeA{v d d' w w':Int}{way:Int}(hv:0<v)(hway:way=1\/way=-1)(h:d'*(v*v*v*v*w)=way*v*(way*v)*(way*v)*v*d*w'):d'*w=d*w'\/d'*w=-(d*w'):=by
 have p:=aw (aw (aw hv hv) hv) hv;rcases hway with rfl |rfl
 .left
  have e:(d'*w)*(v*v*v*v)=(d*w')*(v*v*v*v):=by grind
  exact xD p e
 .right
  have e:(d'*w)*(v*v*v*v)=(-(d*w'))*(v*v*v*v):=by grind
  exact xD p e
theorem pQ{n k l:Nat}{way:Int}{f:AA}{uss:AB}(hway:way=1\/way=-1)(hg:∀us∈uss,Gu n k us)(g:Gu n l f):∀us∈uss.map (cM way f),Gu n (k+l+1) us:=λus hu=>by
 obtain⟨u,hm,rfl⟩:=gq.mp hu;exact(fB hway (hg u hm) g).1
theorem Gu.lastpos{n k:Nat}{f:AA}(h:Gu n k f):0<f.getLastD 0:=by
 obtain⟨xs,w,rfl,P⟩:=h;rw[show(xs++[w]).getLastD 0=w by simp];exact P.pos
theorem acN{n k l:Nat}(hn:n=2\/n=3){way:Int}{f:AA}{uss:AB}(hway:way=1\/way=-1)(hl:uss.length=n+1)(hg:∀us∈uss,Gu n k us)(g:Gu n l f):((dU (uss.map (cM way f))).natAbs:Int)*wU uss=((dU uss).natAbs:Int)*wU (uss.map (cM way f)):=by
 have hv:=g.lastpos;have p1:=tQ hg;have p2:=tQ (pQ hway hg g);refine E9 p1 p2 ?_;rcases hn with rfl |rfl
 .match uss,hl,hg with
  |[a,b,c],_,hg=>
   have e:=Xv (fB hway (hg a (by simp)) g).2 (fB hway (hg b (by simp)) g).2 (fB hway (hg c (by simp)) g).2;exact .inl (aeO hv hway e)
 .match uss,hl,hg with
  |[a,b,c,d],_,hg=>
   have e:=Uv (fB hway (hg a (by simp)) g).2 (fB hway (hg b (by simp)) g).2 (fB hway (hg c (by simp)) g).2 (fB hway (hg d (by simp)) g).2;exact aeA hv hway e
theorem Vf{n k l:Nat}(hn:n=2\/n=3){way:Int}{f:AA}{uss:AB}(hway:way=1\/way=-1)(hl:uss.length=n+1)(hg:∀us∈uss,Gu n k us)(g:Gu n l f)(h:dU uss≠0):dU (uss.map (cM way f))≠0:=λz=>by
 have e:=acN hn hway hl hg g;rw[z]at e;have p2:=tQ (pQ hway hg g);have:((dU uss).natAbs:Int)*wU (uss.map (cM way f))≠0:=cf (by omega) (km p2);exact this (by rw[<-e];simp)
theorem nU{G:Gd}{S:aG}(hG:iP G S){me:ME}{tail:bV}{α:Type}(A B:α->PV):∀(L:List α)(x:AJ),(∀v∈L,me (some (.pv (A v))::tail) S=.ok (.pv (B v)) S)->cD G (gN 0) me (L.map A) (x::tail) S=.ok (L.map B) S
 |[],x,_=>V8 hG
 |v::L,x,h=>by
  have e:=h v bh;have e':=nU hG A B L (some (.pv (A v))) λu hu=>h u (bj _ hu);rw[aq,aai hG];simp[gN,e,e']
def eL(way:Int)(f:AA)(uss:AB):AB:=cF (uss.map (cM way f))
theorem xO{n k l:Nat}(hn:n=2\/n=3){way:Int}{f:AA}{uss:AB}(hway:way=1\/way=-1)(h:Sx n k uss)(g:Gu n l f)(hk:k+l+1<=1000):Sx n (k+l+1) (eL way f uss):=
 Ef hn hk (by rw[am];exact h.len) (pQ hway h.gu g) (Vf hn hway h.len h.gu g h.nz)
theorem acU{n k l:Nat}(hn:n=2\/n=3){way:Int}{f:AA}(S:aG)(hway:way=1\/way=-1){uss:AB}(h:Sx n k uss)(g:Gu n l f)(hk:k+l+1<=1000):cD [] (gN 0) (aJ nR [] (aB (aA 0) (aB (aA 1) aD))) (uss.map tv) [none,some (.pv (.tup [.int way,tv f]))] S=.ok ((uss.map (cM way f)).map tv) S:=by
 rw[dh];refine nU (jS S) tv (tv∘cM way f) uss none λus hu=>?_;have e:=acQ (way:=way) S hn (h.gu us hu) g (by omega) (by omega);simp! [aE,aZ,bA,aK,aN,aO,aM,aP,aF,aL,e]
theorem Mz{n k l:Nat}(hn:n=2\/n=3){way:Int}{f:AA}(S:aG)(hway:way=1\/way=-1){hs:AC}{A:PV}(hA:Sv A (hs.map px))(h:∀uss∈hs,Sx n k uss)(g:Gu n l f)(hk:k+l+1<=1000):wN [.pv A,.pv (.tup [.int way,tv f])] S=.ok (.pv (.tup ((hs.map (eL way f)).map px))) S:=by
 have e:cD [] (gN 0) (gZ mL [] (aB (bC ["p"] [(1,"move")] (bB (aA 0)) (gN 0) (aJ nR [] (aB (aA 0) (aB (aA 1) aD)))) aD)) (hs.map px) [none,some (.pv (.tup [.int way,tv f]))] S=.ok (hs.map λuss=>px (eL way f uss)) S:=by
  refine nU (jS S) px (λuss=>px (eL way f uss)) hs none λuss hu=>?_;have s:=h uss hu;have e1:=acU hn S hway s g hk;have e2:=Ej (uss:=uss.map (cM way f)) hn S (by rw[am];exact s.len) (λus hu=>(pQ hway s.gu g us hu).mono hk) (.inl rfl) (by
   rw[rF hn (k:=k+l+1) hk (by rw[am];exact s.len) (pQ hway s.gu g)];exact λz=>Vf hn hway s.len s.gu g s.nz (pK.mp z))
  rw[dh]at e1 e2;simp! [aE,aZ,bA,aK,aN,aO,aM,aP,aF,aL,bC,bX,bB,bW,e1,e2,eL]
 unfold wN aS Nc;rcases hA with rfl |rfl<;>simp! [aE,aZ,bA,aK,aN,aO,aM,aP,aF,aL,bC,bX,bB,bW,e,dh,Function.comp_def]
theorem Gu.two'{k:Nat}{us:AA}(h:Gu 2 k us):∃x y w,us=[x,y,w]/\0<w/\Bd k x/\Bd k y/\Bd k w:=by
 obtain⟨xs,w,rfl,P⟩:=h
 match xs,P.len,P with
 |[x,y],_,P=>exact⟨x,y,w,rfl,P.pos,P.bx x (by simp),P.bx y (by simp),P.bw⟩
theorem Gu.three'{k:Nat}{us:AA}(h:Gu 3 k us):∃x y z w,us=[x,y,z,w]/\0<w/\Bd k x/\Bd k y/\Bd k z/\Bd k w:=by
 obtain⟨xs,w,rfl,P⟩:=h
 match xs,P.len,P with
 |[x,y,z],_,P=>exact⟨x,y,z,w,rfl,P.pos,P.bx x (by simp),P.bx y (by simp),P.bx z (by simp),P.bw⟩
theorem mk{k l:Nat}{a b:Int}(h:Bd k a)(g:Bd l b)(hk:k<=100000)(hl:l<=100000):bD (.int a) (.int b)=some (.int (a*b)):=lV (.inr ⟨h.mono (by omega),g.mono (by omega)⟩)
abbrev fv(u:Int×Int):PV:=.tup [.int u.1,.int u.2]
def pl(u v:Int×Int):Int×Int:=((fr (u.1*v.2+v.1*u.2) (u.2*v.2)).getD 0 0,(fr (u.1*v.2+v.1*u.2) (u.2*v.2)).getD 1 0)
theorem Gj{n:Nat}(S:aG):∀(L:AH)(x:AJ),(∀v∈L,Gp n 1000 v)->cD [] (gN 0) (aJ sN [] (aB (aA 0) (aB (aA 1) aD))) L [x,some (.pv (.int n))] S=.ok (L.map λ_=>.bl true) S
 |[],x,_=>eA
 |v::L,x,h=>by
  have ih:=Gj (n:=n) S L (some (.pv v)) λu hu=>h u (bj _ hu);obtain⟨xs,w,rfl,P⟩:=h v bh;have e:=Q9 S (by decide) P;rw[eF];generalize (n:Int)=N,(xs++[w]).map PV.int=XL at *;simp! [gN,aE,aZ,bA,aK,aN,aO,aM,aP,aF,aL,e,ih]
theorem Bl:∀L:AH,iZ [.lst (L.map λ_=>.bl true)]=some (.bl true):=λL=>by
 have e:kH (L.map λ_=>PV.bl true)=some (L.map λ_=>true):=by
  induction L with
  |nil=>rfl
  |cons v L ih=>
   show(match kH (L.map λ_=>PV.bl true)with |some bs=>some (true::bs) |none=>none)=_
   rw[ih];rfl
 simp only[iZ,e,uc];simp
theorem X4{n:Nat}(hn:n=2\/n=3){uss:AB}(S:aG)(hl:uss.length=n+1)(hg:∀us∈uss,Gu n 1000 us)(h0:jE (uss.map tv)≠0)(hc:cF uss=uss):sM [.pv (.tup (uss.map tv)),.pv (.int n)] S=.ok (.pv (.bl true)) S:=by
 have gp:=Oh hg;have hl2:(uss.map tv).length=n+1:=by rw[am];exact hl
 have ec:=Gj S (uss.map tv) none gp;have ea:=Bl (uss.map tv);obtain⟨d,e2,hd⟩:=Zo (A:=.tup (uss.map tv)) hn S hl2 gp (.inr rfl);have hd0:d≠0:=λz=>h0 (by rw[<-hd,z];rfl);have hdb:(d==0)=false:=by simpa using hd0
 have e3:=vE (A:=.tup (uss.map tv)) hn S hl hg (.inr rfl);rw[hc]at e3;have q:aK 8 (.tup (uss.map tv)) (.tup (uss.map tv))=some true:=Pb λv hv=>Dt (m:=6) (gp v hv);have a3:aF (.int (n:Int)) (.int 1)=some (.int ((uss.map tv).length:Nat)):=by rw[aF,hl2];rfl
 generalize uss.map tv=L at *;generalize L.map (λ_=>PV.bl true)=BL at *;unfold sM aS zP;generalize (n:Int)=N at *;simp! [bR,aN,aO,aM,aP,aL,hJ,a3,bC,bB,bW,bX,ec,ea,e2,hdb,e3,q]
theorem aaY{n k l:Nat}(hn:n=2\/n=3){way:Int}{f:AA}(S:aG)(hway:way=1\/way=-1){uss:AB}(h:Sx n k uss)(g:Gu n l f)(hk:k+l+1<=1000):pM [.pv (px uss),.pv (.int way),.pv (tv f)] S=.ok (.pv (px (eL way f uss))) S:=by
 have e1:cD [] (gN 0) (aJ lR [] (aB (aA 0) (aB (aA 1) (aB (aA 2) aD)))) (uss.map tv) [none,some (.pv (tv f)),some (.pv (.int way))] S=.ok (uss.map (tv∘cM way f)) S:=by
  refine nU (jS S) tv (tv∘cM way f) uss none λus hu=>?_;have e:=Iq (way:=way) S hn hway (h.gu us hu) g (by omega) (by omega);simp! [aE,aZ,bA,aK,aN,aO,aM,aP,aF,aL,e]
 have e2:=vE (uss:=uss.map (cM way f)) (A:=.lst ((uss.map (cM way f)).map tv)) hn S (by rw[am];exact h.len) (λus hu=>(pQ hway h.gu g us hu).mono hk) (.inl rfl);rw[dh]at e2;unfold pM aS Vc;simp! [aE,aZ,bA,aK,aN,aO,aM,aP,aF,aL,bC,bX,bB,bW,e1,e2,eL]
theorem Gb{n k:Nat}(hn:n=2\/n=3)(S:aG){hs:AC}(h:∀uss∈hs,Sx n k uss)(hk:k<=1000):uZ [.pv (.tup (hs.map px)),.pv (.int n)] S=.ok (.pv (.bl true)) S:=by
 have e:cD [] (gN 0) (aJ sM [] (aB (aA 0) (aB (aA 1) aD))) (hs.map px) [none,some (.pv (.int n))] S=.ok (hs.map λ_=>.bl true) S:=by
  refine nU (jS S) px (λ_=>.bl true) hs none λuss hu=>?_;have s:=h uss hu;have e1:=X4 hn S s.len (λus hu=>(s.gu us hu).mono hk) (by rw[rF hn hk s.len s.gu];exact λz=>s.nz (pK.mp z)) s.cn;simp! [aE,aZ,bA,aK,aN,aO,aM,aP,aF,aL,e1]
 have ea:iZ [.lst (hs.map λ_=>PV.bl true)]=some (.bl true):=by
  have:=Bl (hs.map px);rw[dh]at this;exact this
 unfold uZ aS zZ;simp! [aE,aZ,bA,aK,aN,aO,aM,aP,aF,aL,hJ,bC,bX,bB,bW,e,ea]
theorem ac5{n k m:Nat}{uss:AB}(h:∀us∈uss,Gu n k us):aK (m+2) (px uss) (px uss)=some true:=
 Pb λv hv=>by
  obtain⟨us,hu,rfl⟩:=gq.mp hv;exact Dt (h us hu).gp
theorem Q0{n k m:Nat}{hs:AC}(h:∀uss∈hs,Sx n k uss):aK (m+3) (.tup (hs.map px)) (.tup (hs.map px))=some true/\aK (m+3) (.lst (hs.map px)) (.lst (hs.map px))=some true:=by
 have a:∀v∈hs.map px,aK (m+2) v v=some true:=λv hv=>by
  obtain⟨uss,hu,rfl⟩:=gq.mp hv;exact ac5 (h uss hu).gu
 exact⟨Pb a,abA a⟩
abbrev li(xs:AA):AH:=xs.map .int
abbrev lv(xs:AA):PV:=.lst (li xs)
abbrev dQ(xss:AB):PV:=.lst (xss.map lv)
structure Rw(n:Nat)(xss:AB):Prop where
 len:xss.length=n+1
 l:∀xs∈xss,xs.length=n
 b:∀xs∈xss,∀x∈xs,-8<x/\x<8
 nz:dU (xss.map (·++[1]))≠0
theorem Tk{α β:Type}(f:α->β):∀(R:List α)(j:Nat),(R.map f).eraseIdx j=(R.eraseIdx j).map f
 |[],j=>by simp
 |a::R,0=>by simp
 |a::R,j+1=>by simp[Tk f R j]
theorem ix3:∀v<3,bA 3 ((v:Nat):Int)=some v:=by decide
abbrev uS:MS:=(aI (jW (aA 2) (oP (aA 1) (aB (aJ cC [] (aB (aA 0) (aB (mR eC (aB (aA 1) aD)) aD))) aD)) (mC (.int 1)))
 (dA (uG (aA 3) (aB (aA 2) aD))))
theorem Of(ns:AA)(hl:AH)(R C:AA)(L:AB)(x4 x5:AJ)(hR0:0<R.length)(hR3:R.length<=3)(hv:∀v∈R,0<=v/\v<3)(hC:C.length=3)(hL:L.length<=9):
  ∃(j v:Nat)(ns':AA),j<R.length/\R[j]?=some (v:Int)/\uS [some (.ref 0),some (.ref 2),some (.ref 3),some (.ref 4),x4,x5] [.lst (li ns),.lst hl,.lst (li R),.lst (li C),.lol (L.map li)]
   = .nx [some (.ref 0),some (.ref 2),some (.ref 3),some (.ref 4),x4,x5] [.lst (li ns'),.lst hl,.lst (li (R.eraseIdx j)),.lst (li (C.set v 1)),.lol ((L++[C.set v 1]).map li)]:=by
 have hr:fF [.lst (li ns),.lst hl,.lst (li R),.lst (li C),.lol (L.map li)] 0 ns:=rfl;obtain⟨t,n1,e1,t0,t1,_⟩:=gX (m:=(R.length:Int)) hr (by omega) (jB (by omega) (by omega));simp only[fg]at e1;obtain⟨j,rfl⟩:∃j:Nat,t=(j:Int):=⟨t.toNat,by omega⟩;have hj:j<R.length:=by omega
 obtain⟨v,ev⟩:∃v:Nat,R[j]=(v:Int):=⟨R[j].toNat,by have:=hv _ (gr hj);omega⟩;have hv3:v<3:=by have:=hv _ (gr hj);omega
 have hq:R[j]?=some (v:Int):=by rw[ay hj,ev]
 have ep:=abJ (S:=[.lst (li n1),.lst hl,.lst (li R),.lst (li C),.lol (L.map li)]) (k:=2) (j:=j) (xs:=li R) (v:=.int v) rfl (by rw[bo,hq];rfl) (by omega);simp only[jv,fg]at ep;have er:(li R).eraseIdx j=li (R.eraseIdx j):=Tk _ _ _;rw[er]at ep;have ei:bA (li C).length (v:Int)=some v:=by
  rw[am,hC];exact ix3 v hv3
 have ec:(li C).set v (.int 1)=li (C.set v 1):=by simp[li,tj]
 refine⟨j,v,n1,hj,hq,?_⟩;have e1':cC [.ref 0,.pv (.int ((li R).length:Int))] [.lst (li ns),.lst hl,.lst (li R),.lst (li C),.lol (L.map li)]=.ok (.pv (.int (j:Int))) [.lst (li n1),.lst hl,.lst (li R),.lst (li C),.lol (L.map li)]:=by
  rw[am];exact e1
 have el:(L++[C.set v 1]).map li=L.map li++[li (C.set v 1)]:=by simp
 rw[el];have lz:(L.map li).length<16777216:=by rw[am];omega
 generalize li n1=NL1,li ns=NL,(j:Int)=J,li R=RL,li (R.eraseIdx j)=RE,li C=CL,li (C.set v 1)=CS,L.map li=LL at *;unfold uS;simp! [bR,aN,aO,aM,aP,aF,aL,jW,oO,oP,uG,uM,fN,e1',ep,ei,ec,lz]
def k6:AC:=[[[0,0,0],[1,0,0],[1,1,0],[1,1,1]],[[0,0,0],[1,0,0],[1,0,1],[1,1,1]],[[0,0,0],[0,1,0],[1,1,0],[1,1,1]],[[0,0,0],[0,1,0],[0,1,1],[1,1,1]],[[0,0,0],[0,0,1],[1,0,1],[1,1,1]],[[0,0,0],[0,0,1],[0,1,1],[1,1,1]]]
theorem afd{R:AA}{j v:Nat}{a b c:Int}(h:R=[a,b,c])(hj:j<R.length)(e:R[j]?=some (v:Int)):(j=0/\(v:Int)=a)\/(j=1/\(v:Int)=b)\/(j=2/\(v:Int)=c):=by
 subst h
 match j,hj,e with
 |0,_,e=>simp at e;exact .inl ⟨rfl,e.symm⟩
 |1,_,e=>simp at e;exact .inr (.inl ⟨rfl,e.symm⟩)
 |2,_,e=>simp at e;exact .inr (.inr ⟨rfl,e.symm⟩)
theorem aeK{R:AA}{j v:Nat}{a b:Int}(h:R=[a,b])(hj:j<R.length)(e:R[j]?=some (v:Int)):(j=0/\(v:Int)=a)\/(j=1/\(v:Int)=b):=by
 subst h
 match j,hj,e with
 |0,_,e=>simp at e;exact .inl ⟨rfl,e.symm⟩
 |1,_,e=>simp at e;exact .inr ⟨rfl,e.symm⟩
theorem afb{R:AA}{j v:Nat}{a:Int}(h:R=[a])(hj:j<R.length)(e:R[j]?=some (v:Int)):j=0/\(v:Int)=a:=by
 subst h
 match j,hj,e with
 |0,_,e=>simp at e;exact⟨rfl,e.symm⟩
theorem k3(ns:AA)(hl:AH)(R C:AA)(A:AB)(a b c:Nat)(x4 x5:AJ)(hR:R=[(c:Int)])(hc:c<3)(hC:C.length=3)(hA:A.length<=9)(ks:AC)(hk:A++[C.set c 1]∈ks):
  ∃(xss:AB)(ns':AA)(C':AA),xss∈ks/\dZ [] (gN 4) uS [.int 2] [some (.ref 0),some (.ref 2),some (.ref 3),some (.ref 4),x4,x5] [.lst (li ns),.lst hl,.lst (li R),.lst (li C),.lol (A.map li)]
   = .nx [some (.ref 0),some (.ref 2),some (.ref 3),some (.ref 4),some (.pv (.int 2)),x5] [.lst (li ns'),.lst hl,.lst [],.lst (li C'),.lol (xss.map li)]:=by
 obtain⟨j,v,n1,hj,e,h⟩:=Of ns hl R C A (some (.pv (.int 2))) x5 (by rw[hR];simp) (by rw[hR];simp) (by rw[hR];simp;omega) hC hA;obtain⟨rfl,ev⟩:=afb hR hj e;have:v=c:=by omega
 subst this;subst hR;refine⟨_,n1,C.set v 1,hk,?_⟩;rw[fG];simp only[gN,jv,fg];rw[h];exact fR
theorem k2(ns:AA)(hl:AH)(R C:AA)(A:AB)(b c:Nat)(x4 x5:AJ)(hR:R=[(b:Int),(c:Int)])(hb:b<3)(hc:c<3)(hC:C.length=3)(hA:A.length<=8)(ks:AC)(h1:A++[C.set b 1]++[(C.set b 1).set c 1]∈ks)(h2:A++[C.set c 1]++[(C.set c 1).set b 1]∈ks):
  ∃(xss:AB)(ns':AA)(C':AA),xss∈ks/\dZ [] (gN 4) uS [.int 1,.int 2] [some (.ref 0),some (.ref 2),some (.ref 3),some (.ref 4),x4,x5] [.lst (li ns),.lst hl,.lst (li R),.lst (li C),.lol (A.map li)]
   = .nx [some (.ref 0),some (.ref 2),some (.ref 3),some (.ref 4),some (.pv (.int 2)),x5] [.lst (li ns'),.lst hl,.lst [],.lst (li C'),.lol (xss.map li)]:=by
 obtain⟨j,v,n1,hj,e,h⟩:=Of ns hl R C A (some (.pv (.int 1))) x5 (by rw[hR];simp) (by rw[hR];simp) (by rw[hR];simp;omega) hC (by omega);rw[fG];simp only[gN,jv,fg];rw[h];rcases aeK hR hj e with⟨rfl,ev⟩|⟨rfl,ev⟩
 .have:v=b:=by omega
  subst this;subst hR;exact k3 n1 hl _ (C.set v 1) _ 0 0 c _ x5 rfl hc (by rw[fe];exact hC) (by simp;omega) ks h1
 .have:v=c:=by omega
  subst this;subst hR;exact k3 n1 hl _ (C.set v 1) _ 0 0 b _ x5 rfl hb (by rw[fe];exact hC) (by simp;omega) ks h2
theorem k1(ns:AA)(hl:AH)(x4 x5:AJ):
  ∃(xss:AB)(ns':AA)(C':AA),xss∈k6/\dZ [] (gN 4) uS [.int 0,.int 1,.int 2] [some (.ref 0),some (.ref 2),some (.ref 3),some (.ref 4),x4,x5] [.lst (li ns),.lst hl,.lst (li [0,1,2]),.lst (li [0,0,0]),.lol ([[0,0,0]].map li)]
   = .nx [some (.ref 0),some (.ref 2),some (.ref 3),some (.ref 4),some (.pv (.int 2)),x5] [.lst (li ns'),.lst hl,.lst [],.lst (li C'),.lol (xss.map li)]:=by
 obtain⟨j,v,n1,hj,e,h⟩:=Of ns hl [0,1,2] [0,0,0] [[0,0,0]] (some (.pv (.int 0))) x5 (by decide) (by decide) (by decide) rfl (by decide);rw[fG];simp only[gN,jv,fg];rw[h];rcases afd rfl hj e with⟨rfl,ev⟩|⟨rfl,ev⟩|⟨rfl,ev⟩
 .have:v=0:=by omega
  subst this;exact k2 n1 hl _ [1,0,0] _ 1 2 _ x5 rfl (by decide) (by decide) rfl (by decide) k6 (by decide) (by decide)
 .have:v=1:=by omega
  subst this;exact k2 n1 hl _ [0,1,0] _ 0 2 _ x5 rfl (by decide) (by decide) rfl (by decide) k6 (by decide) (by decide)
 .have:v=2:=by omega
  subst this;exact k2 n1 hl _ [0,0,1] _ 0 1 _ x5 rfl (by decide) (by decide) rfl (by decide) k6 (by decide) (by decide)
theorem A7(L:AH)(p:PV)(h:L≠[]):∃v∈L,aE (.lst L) (.int (-1))=some v:=by
 have hl:0<L.length:=List.length_pos_iff.mpr h;refine⟨L[L.length-1]'(by omega),gr _,?_⟩;show aZ L (-1)=_;unfold aZ;have e:bA L.length (-1)=some (L.length-1):=by
  unfold bA;rw[if_neg (by decide),if_pos (by omega)];congr 1;omega
 rw[e];exact ay _
theorem yI{x:Int}(h:-1000<x)(g:x<1000):Bd 10 x:=by
 unfold Bd;have:x.natAbs<1000:=by omega
 omega
theorem qI(S:aG){n:Nat}(h:n<=9):gR [.pv (.int (n:Int))] S=.ok (dH 0 n,[]) S:=by
 have e:gR [.pv (.int (n:Int))] S=@ite _ ((n:Int)<=16777216/\-16777216<=(n:Int)) (sj _) (.ok (dH 0 (n:Int).toNat,[]) S) .fail:=rfl;rw[e,if_pos ⟨by omega,by omega⟩,ky]
theorem X5{S:aG}{k:Nat}{ns:AA}(h:fF S k ns):S.set k (.lst (ns.map .int))=S:=jt λj=>by
 by_cases q:k=j
 .subst q
  rw[dq h.lt];exact h.symm
 .rw[dr q]
theorem Lo{k:Nat}{W:Int}(W0:0<=W)(W1:W<=2):∀(is:AH)(S:aG)(ns:AA)(x:AJ),fF S k ns->∃(xs ns':AA),cD [] (gN 0) (aJ cC [] (aB (aA 1) (aB (aC aF (aA 2) (mC (.int 1))) aD))) is [x,some (.ref k),some (.pv (.int W))] S=.ok (li xs) (S.set k (.lst (li ns')))/\xs.length=is.length/\∀n∈xs,0<=n/\n<=2
 |[],S,ns,x,h=>by
  refine⟨[],ns,?_,rfl,λ_ h=>absurd h fz⟩;rw[show S.set k (.lst (li ns))=S from X5 h];exact eA
 |i::is,S,ns,x,h=>by
  obtain⟨t,n1,e1,t0,t1,_⟩:=gX (m:=W+1) h (by omega) (jB (by omega) (by omega));obtain⟨xs,n2,e2,l2,b2⟩:=Lo W0 W1 is _ n1 (some (.pv i)) (h.set n1);rw[kl]at e2;refine⟨t::xs,n2,?_,by simp[l2],λn hn=>?_⟩
  .rw[eF]
   generalize S.set k (.lst (n1.map .int))=S1 at e1 e2;simp! [gN,aE,aZ,bA,aK,aN,aO,aM,aP,aF,aL,e1,e2]
  .rcases cq.mp hn with rfl |hn
   .omega
   .exact b2 n hn
abbrev rB:MS:=(dA (eO (aA 3) (aB (bC ["_law_m"] [(0,"_law_row_here"),(2,"_law_wide")] (cG (aB (aA 1) aD)) (gN 0) (aJ cC [] (aB (aA 1) (aB (aC aF (aA 2) (mC (.int 1))) aD)))) aD)))
theorem Eo{n:Nat}(hn:n<=9){W:Int}(W0:0<=W)(W1:W<=2)(hl:AH):∀(is:AH)(L:AB)(ns:AA)(x4:AJ),L.length+is.length<=99->∃(L':AB)(ns':AA)(y4:AJ),
  dZ [] (gN 4) rB is [some (.ref 0),some (.pv (.int (n:Int))),some (.pv (.int W)),some (.ref 2),x4] [.lst (li ns),.lst hl,.lst (L.map lv)]=.nx [some (.ref 0),some (.pv (.int (n:Int))),some (.pv (.int W)),some (.ref 2),y4] [.lst (li ns'),.lst hl,.lst ((L++L').map lv)]
   /\L'.length=is.length/\∀xs∈L',xs.length=n/\∀x∈xs,0<=x/\x<=2
 |[],L,ns,x4,h9=>⟨[],ns,x4,by rw[ig];exact fR,rfl,λ_ h=>absurd h fz⟩
 |i::is,L,ns,x4,h9=>by
  have hr:fF [.lst (li ns),.lst hl,.lst (L.map lv)] 0 ns:=rfl;obtain⟨xs,n1,e1,l1,b1⟩:=Lo W0 W1 (dH 0 n) _ ns none hr;simp only[fg]at e1;have h9:L.length+(is.length+1)<=99:=h9;obtain⟨L',n2,y4,e2,l2,b2⟩:=Eo hn W0 W1 hl is (L++[xs]) n1 (some (.pv i)) (by rw[av,jz];omega);refine⟨xs::L',n2,y4,?_,by simp[l2],λys hy=>?_⟩
  .rw[fG]
   have es:rB [some (.ref 0),some (.pv (.int (n:Int))),some (.pv (.int W)),some (.ref 2),some (.pv i)] [.lst (li ns),.lst hl,.lst (L.map lv)]=.nx [some (.ref 0),some (.pv (.int (n:Int))),some (.pv (.int W)),some (.ref 2),some (.pv i)] [.lst (li n1),.lst hl,.lst ((L++[xs]).map lv)]:=by
    have el:(L++[xs]).map lv=L.map lv++[lv xs]:=by simp
    rw[el];have lz:(L.map lv).length<16777216:=by rw[am];omega
    have rg:=qI [.lst (li ns),.lst hl,.lst (L.map lv)] hn;unfold rB;generalize (n:Int)=N,dH 0 n=IP,li ns=NL,L.map lv=LL at *;simp! [aE,aZ,bA,aK,aN,aO,aM,aP,aF,aL,eO,fN,kL,bC,bX,cG,rg,e1,lz]
   simp only[gN,jv,fg];rw[es];dsimp only;rw[e2,ix];rfl
  .rcases cq.mp hy with rfl |hy
   .exact⟨by rw[l1];unfold dH;simp,b1⟩
   .exact b2 ys hy
theorem acw{S:aG}{ti:Nat}{a b c d e f:Int}(h:S[ti]?=some (.lst [lv [a,b],lv [c,d],lv [e,f]]))(ha:0<=a/\a<=2)(hb:0<=b/\b<=2)(hc:0<=c/\c<=2)(hd:0<=d/\d<=2)(he:0<=e/\e<=2)(hf:0<=f/\f<=2):qP [.ref ti] S=.ok (.pv (.int (D2 a b 1 c d 1 e f 1))) S:=by
 have id:(c-a)*(f-b)-(d-b)*(e-a)=D2 a b 1 c d 1 e f 1:=by
  unfold D2;grind
 have b1:Bd 10 (c-a):=yI (by omega) (by omega);have b2:Bd 10 (d-b):=yI (by omega) (by omega);have b3:Bd 10 (e-a):=yI (by omega) (by omega);have b4:Bd 10 (f-b):=yI (by omega) (by omega);have m1:=iC b1 b4;have m2:=iC b2 b3;generalize D2 a b 1 c d 1 e f 1=D at *;have s1:=uH (lv [a,b]) [lv [c,d],lv [e,f]];have et:mY [.pv (.lst [.lst [.int (c-a),.int (d-b)],.lst [.int (e-a),.int (f-b)]])] S=.ok (.pv (.int D)) S:=by
  unfold mY aS tM;simp! [aE,aZ,bA,aK,aN,aO,aM,aP,aF,aL,m1,m2,id]
 unfold qP aS Ca;simp only[lv,li,aq,br]at h s1;simp! [aE,aZ,bA,aK,aN,aO,aM,aP,aF,aL,bC,bB,bW,dG,dM,dD,fT,h,s1,bX,eF,eA,gN,gT,cU,eJ,jA,nF,gI,et]
def sJ(n:Nat):AB:=if n=2 then[[0,0],[1,0],[0,1]] else[[0,0,0],[1,0,0],[0,1,0],[0,0,1]]
theorem acI{n:Nat}(hn:n=2\/n=3):Rw n (sJ n):=by
 rcases hn with rfl |rfl
 .exact⟨rfl,by decide,by decide,by decide⟩
 .exact⟨rfl,by decide,by decide,by decide⟩
theorem rgm(S:aG){n:Nat}(h:n<=9):yL [.pv (.int (-1)),.pv (.int (n:Int))] S=.ok (dH (-1) (n+1),[]) S:=by
 have e:yL [.pv (.int (-1)),.pv (.int (n:Int))] S=@ite _ ((-4611686018427387904<=(-1:Int)/\(-1:Int)<4611686018427387904/\-4611686018427387904<=(n:Int)/\(n:Int)<4611686018427387904)/\(n:Int)- -1<=16777216) (sj _) (.ok (dH (-1) ((n:Int)- -1).toNat,[]) S) .fail:=rfl;rw[e,if_pos ⟨⟨by decide,by decide,by omega,by omega⟩,by omega⟩];rw[show((n:Int)- -1).toNat=n+1 by omega]
theorem Cw{α:Type}{a:α}{S:aG}:lE (.ok a S)=.ok a S:=rfl
theorem Bw{n:Nat}{v:PV}{S:aG}:frz n (.ok (.pv v) S)=.ok (.pv v) S:=rfl
theorem aae{n:Nat}(hn:n=2\/n=3)(S:aG)(x0 x2 x3 x4:AJ):bC ["_law_k"] [(1,"_law_dims")] (nY (aB (bO cB (mC (.int 1))) (aB (aA 1) aD))) (gN 0) (bC ["_law_m"] [(0,"_law_k")] (cG (aB (aA 1) aD)) (gN 0) (mR jL (aB (aC cY (aA 0) (aA 1)) aD))) [x0,some (.pv (.int (n:Int))),x2,x3,x4] S=.ok (.pv (dQ (sJ n))) S:=by
 have r1:=λS=>qI S (n:=n) (by omega);have r2:=λS=>rgm S (n:=n) (by omega);rcases hn with rfl |rfl
 .have c2:((2:Nat):Int)=2:=rfl
  rw[c2]at r1 r2⊢;have i1:dH 0 2=[.int 0,.int 1]:=rfl;have i2:dH (-1) (2+1)=[.int (-1),.int 0,.int 1]:=rfl;rw[i1]at r1;rw[i2]at r2;simp! [bC,bX,cG,nY,aE,aZ,bA,aK,aN,aO,aM,aP,aF,aL,r1,r2,eF,eA,gN,jL,sJ]
 .have c2:((3:Nat):Int)=3:=rfl
  rw[c2]at r1 r2⊢;have i1:dH 0 3=[.int 0,.int 1,.int 2]:=rfl;have i2:dH (-1) (3+1)=[.int (-1),.int 0,.int 1,.int 2]:=rfl;rw[i1]at r1;rw[i2]at r2;simp! [bC,bX,cG,nY,aE,aZ,bA,aK,aN,aO,aM,aP,aF,aL,r1,r2,eF,eA,gN,jL,sJ]
abbrev hB:MS:=(aI (aU 5 (aJ cC [] (aB (aA 0) (aB (mC (.int 6)) aD))))
 (cS (jY (bK (aC cY (aA 5) (mC (.int 5)))) (bK (aC fP (mR eC (aB (aA 3) aD)) (mC (.int 0))))) (dA (eO (aA 3) (aB (aC aE (aA 3) (bO cB (mC (.int 1)))) aD))) (cS (bK (aC cY (aA 1) (mC (.int 2)))) (dA (eO (aA 3) (aB (aJ lY [] (aB (aA 0) (aB (mC (.int 2)) (aB (aC aF (mC (.int 1)) (mR jL (aB (aC cY (aA 5) (mC (.int 4))) aD))) aD)))) aD))) (cS (bK (aC fP (aA 5) (mC (.int 3)))) (dA (eO (aA 3) (aB (aJ lY [] (aB (aA 0) (aB (mC (.int 3)) (aB (mC (.int 1)) aD)))) aD))) (dA (eO (aA 3) (aB (aJ wO [] (aB (aA 0) aD)) aD)))))))
theorem tT{n k:Nat}{L:AA}{b:Int}(hb:0<b)(hl:L.length=n)(hL:∀x∈L,Bd k x)(bb:Bd k b):∃(zs:AA)(z:Int),low (L++[b])=zs++[z]/\Pq n k zs z/\∀j,j<n->zs.getD j 0*b=L.getD j 0*z:=by
 obtain⟨zs,z,g,e,hg,hz,g1,g2,hzl⟩:=xM L hb;have hlow:=Md L hb;have hbd:=xA (k:=k) (ns:=L++[b]) λm hm=>by
  rcases ck.mp hm with y |y
  .exact hL m y
  .have:m=b:=by simpa using y
   rw[this];exact bb
 rw[e]at hlow hbd;refine⟨zs,z,e,⟨hzl.trans hl,hz,hlow,λx hx=>hbd x (kr _ hx),hbd z (kD zs z)⟩,λj hj=>?_⟩;have hj':j<zs.length:=by omega
 have e1:L.getD j 0=g*zs.getD j 0:=by
  rw[g1];simp[cg,hj']
 rw[e1,g2];grind
structure Sp(u:Int×Int):Prop where
 p:0<u.1
 q:0<u.2
 bp:Bd 30 u.1
 bq:Bd 30 u.2
theorem p9:gG (.int 10) (.int 9)=some (.int 1000000000):=wR (i:=10) (j:=9) ⟨by decide,by decide,by decide⟩
theorem p6:gG (.int 10) (.int 6)=some (.int 1000000):=wR (i:=10) (j:=6) ⟨by decide,by decide,by decide⟩
theorem eG{v:Int}(h0:0<=v)(h1:v<3):∃M N:Int,aE (.lst [.int 1,.int 7,.int 1000000000]) (.int v)=some (.int M)/\aE (.lst [.int 1,.int 7,.int 1000000]) (.int v)=some (.int N)/\0<M/\M<=1000000000/\0<N/\N<=1000000:=by
 have:v=0\/v=1\/v=2:=by omega
 rcases this with rfl |rfl |rfl
 .exact⟨1,1,rfl,rfl,by decide,by decide,by decide,by decide⟩
 .exact⟨7,7,rfl,rfl,by decide,by decide,by decide,by decide⟩
 .exact⟨1000000000,1000000,rfl,rfl,by decide,by decide,by decide,by decide⟩
abbrev sB:MS:=(aI (aU 4 (aJ cC [] (aB (aA 0) (aB (mC (.int 3)) aD))))
 (dA (eO (aA 2) (aB (aJ mW [] (aB (aC aF (mC (.int 1)) (aJ cC [] (aB (aA 0) (aB (aC aE (mN eP (aB (mC (.int 1)) (aB (mC (.int 7)) (aB (aC gG (mC (.int 10)) (mC (.int 9))) aD)))) (aA 4)) aD)))) (aB (aC aF (mC (.int 1)) (aJ cC [] (aB (aA 0) (aB (aC aE (mN eP (aB (mC (.int 1)) (aB (mC (.int 7)) (aB (aC gG (mC (.int 10)) (mC (.int 6))) aD)))) (aA 4)) aD)))) aD))) aD))))
theorem ad5(ns:AA)(fs:List (Int×Int))(hl:fs.length<=9)(x1 x3 x4:AJ):∃(u:Int×Int)(ns':AA)(y4:AJ),sB [some (.ref 0),x1,some (.ref 1),x3,x4] [.lst (li ns),.lst (fs.map fv)]=.nx [some (.ref 0),x1,some (.ref 1),x3,y4] [.lst (li ns'),.lst ((fs++[u]).map fv)]/\Sp u:=by
 have hr:∀ms,fF [.lst (li ms),.lst (fs.map fv)] 0 ms:=λ_=>rfl;obtain⟨c,n1,e1,c0,c1,_⟩:=gX (m:=3) (hr ns) (by decide) (jB (by decide) (by decide));obtain⟨M,N,em,en,M0,M1,N0,N1⟩:=eG c0 c1;have bM:Bd 8000 M:=(Bd.of (k:=30) (n:=1000000000) (by omega) (by decide)).mono (by decide);have bN:Bd 8000 N:=(Bd.of (k:=30) (n:=1000000000) (by omega) (by decide)).mono (by decide);obtain⟨t,n2,e2,t0,t1,_⟩:=gX (m:=M) (hr n1) M0 bM;obtain⟨v,n3,e3,v0,v1,_⟩:=gX (m:=N) (hr n2) N0 bN;simp only[fg]at e1 e2 e3;have bt:Bd 30 (1+t):=Bd.of (n:=1000000000) (by omega) (by decide);have bv:Bd 30 (1+v):=Bd.of (n:=1000000000) (by omega) (by decide);have nz:1+v≠0:=by omega
 have e4:=Oc (1+t) (1+v) [.lst (li n3),.lst (fs.map fv)] (bt.mono (by decide)) (bv.mono (by decide));obtain⟨p,q,ef,hq,hpq⟩:=ad8 (t:=1+t) nz;obtain⟨b1,b2⟩:=ada bt bv ef;have hp:0<p:=by
  have h1:0<(1+t)*q:=aw (by omega) hq;rw[<-hpq]at h1;exact wn h1 (by omega)
 rw[ef]at e4;simp only[aq,br]at e4;refine⟨(p,q),n3,some (.pv (.int c)),?_,⟨hp,hq,b1,b2⟩⟩;have el:(fs++[(p,q)]).map fv=fs.map fv++[.tup [.int p,.int q]]:=by simp
 rw[el];have lz:(fs.map fv).length<16777216:=by rw[am];omega
 have e1:cC [.ref 0,.pv (.int 3)] [.lst (li ns),.lst (fs.map fv)]=.ok (.pv (.int c)) [.lst (li n1),.lst (fs.map fv)]:=e1;have e2:cC [.ref 0,.pv (.int M)] [.lst (li n1),.lst (fs.map fv)]=.ok (.pv (.int t)) [.lst (li n2),.lst (fs.map fv)]:=e2;have e3:cC [.ref 0,.pv (.int N)] [.lst (li n2),.lst (fs.map fv)]=.ok (.pv (.int v)) [.lst (li n3),.lst (fs.map fv)]:=e3;generalize fs.map fv=FL at *;unfold sB;simp! [bR,aN,aO,aM,aP,aF,aL,e1,p9,p6,em,en,e2,e3,e4,eO,fN,kL,lz]
theorem Bu(x1:AJ):∀(is:AH)(fs:List (Int×Int))(ns:AA)(x3 x4:AJ),(∀u∈fs,Sp u)->fs.length+is.length<=9->∃(fs':List (Int×Int))(ns':AA)(y3 y4:AJ),
  dZ [] (gN 3) sB is [some (.ref 0),x1,some (.ref 1),x3,x4] [.lst (li ns),.lst (fs.map fv)]=.nx [some (.ref 0),x1,some (.ref 1),y3,y4] [.lst (li ns'),.lst (fs'.map fv)]/\fs'.length=fs.length+is.length/\∀u∈fs',Sp u
 |[],fs,ns,x3,x4,hw,_=>⟨fs,ns,x3,x4,fR,rfl,hw⟩
 |i::is,fs,ns,x3,x4,hw,h9=>by
  have h9:fs.length+(is.length+1)<=9:=h9;obtain⟨u,n1,y4,e1,r1⟩:=ad5 ns fs (by omega) x1 (some (.pv i)) x4;obtain⟨fs',n2,z3,z4,e2,l2,r2⟩:=Bu x1 is (fs++[u]) n1 (some (.pv i)) y4 (λy hy=>by
   rcases ck.mp hy with z |z
   .exact hw y z
   .have:y=u:=by simpa using z
    rw[this];exact r1) (by rw[av,jz];omega)
  refine⟨fs',n2,z3,z4,?_,by rw[l2,av,jz];show _=fs.length+(is.length+1);omega,r2⟩;rw[fG];simp only[gN,jv,fg];rw[e1];exact e2
theorem Tz{n:Nat}(hn:n=2\/n=3)(ns:AA):∃(fs:List (Int×Int))(ns':AA),sS [.ref 0,.pv (.int (n:Int))] [.lst (li ns)]=.ok (.ref 1) [.lst (li ns'),.lst (fs.map fv)]/\fs.length=n/\∀u∈fs,Sp u:=by
 have hi:(dH 0 n).length=n:=by unfold dH;simp
 have rg:=qI [.lst (li ns),.lst []] (n:=n) (by omega);obtain⟨fs,n2,y3,y4,e2,l2,r2⟩:=Bu (some (.pv (.int (n:Int)))) (dH 0 n) [] ns none none (λ_ h=>absurd h fz) (by rw[hi];show 0+n<=9;omega);rw[hi]at l2;refine⟨fs,n2,?_,by rw[l2];show 0+n=n;omega,r2⟩;simp only[br]at e2;have hb:Ea=(aI (aU 2 (fZ aD)) (aI (bJ (cG (aB (aA 1) aD)) (gN 3) sB) (bG (aA 2)))):=rfl;unfold sS aS;rw[hb];generalize (n:Int)=N,dH 0 n=IP,fs.map fv=FL,sB=SB at *;simp! [aE,aZ,bA,aK,aN,aO,aM,aP,aF,aL,fZ,nE,bJ,cG,rg,e2]
def eX:List (Int×Int)->AA->AA
 |[u,v],[a,b]=>low ([a*u.1*v.2,b*v.1*u.2]++[1*u.2*v.2])
 |[u,v,t],[a,b,c]=>low ([a*u.1*(v.2*t.2),b*v.1*(u.2*t.2),c*t.1*(u.2*v.2)]++[1*u.2*v.2*t.2])
 |_,_=>[]
def Mh:List (Int×Int)->Nat->Int
 |[u,v],0=>u.1*v.2
 |[u,v],1=>v.1*u.2
 |[u,v,t],0=>u.1*(v.2*t.2)
 |[u,v,t],1=>v.1*(u.2*t.2)
 |[u,v,t],2=>t.1*(u.2*v.2)
 |_,_=>1
def Yg:List (Int×Int)->Int
 |[u,v]=>1*u.2*v.2
 |[u,v,t]=>1*u.2*v.2*t.2
 |_=>1
theorem Ad{n:Nat}(hn:n=2\/n=3)(S:aG){fs:List (Int×Int)}{xs:AA}(hf:fs.length=n)(h:∀u∈fs,Sp u)(hx:xs.length=n)(hb:∀x∈xs,-8<x/\x<8):pL [.pv (lv xs),.pv (.lst (fs.map fv))] S=.ok (.pv (tv (eX fs xs))) S/\Gu n 100 (eX fs xs)/\jM n (Mh fs) (λ_=>0) (Yg fs) (xs++[1]) (eX fs xs):=by
 have b3:∀{x:Int},-8<x/\x<8->Bd 3 x:=λh=>by
  unfold Bd;have:(2:Nat)^3=8:=rfl;omega
 have o1:Bd 1 (1:Int):=by unfold Bd;decide
 rcases hn with rfl |rfl
 .match fs,hf,h,xs,hx,hb with
  |[u,v],_,h,[a,b],_,hb=>
   have hu:=h u (by simp);have hv:=h v (by simp);have ba:=b3 (hb a (by simp));have bb:=b3 (hb b (by simp));have m1:=mk o1 hu.bq (by decide) (by decide);have m2:=mk (o1.mul hu.bq) hv.bq (by decide) (by decide);have d1:(1*u.2*v.2).fdiv u.2=v.2:=by rw[ir];exact qQ (by have:=hu.q;omega)
   have d2:(1*u.2*v.2).fdiv v.2=u.2:=by rw[ir,dy];exact qQ (by have:=hv.q;omega)
   have q1:iO (.int (1*u.2*v.2)) (.int u.2)=some (.int v.2):=by
    have e:=pJ (i:=1*u.2*v.2) (j:=u.2) ⟨by have:=hu.q;omega,hu.bq.mono (by decide)⟩;rw[d1]at e;exact e
   have q2:iO (.int (1*u.2*v.2)) (.int v.2)=some (.int u.2):=by
    have e:=pJ (i:=1*u.2*v.2) (j:=v.2) ⟨by have:=hv.q;omega,hv.bq.mono (by decide)⟩;rw[d2]at e;exact e
   have m3:=mk ba hu.bp (by decide) (by decide);have m4:=mk (ba.mul hu.bp) hv.bq (by decide) (by decide);have m5:=mk bb hv.bp (by decide) (by decide);have m6:=mk (bb.mul hv.bp) hu.bq (by decide) (by decide);have pE:0<1*u.2*v.2:=aw (aw (by decide) hu.q) hv.q;have bL:∀x∈[a*u.1*v.2,b*v.1*u.2],Bd 100 x:=by
    simp;exact⟨((ba.mul hu.bp).mul hv.bq).mono (by decide),((bb.mul hv.bp).mul hu.bq).mono (by decide)⟩
   have bE:Bd 100 (1*u.2*v.2):=((o1.mul hu.bq).mul hv.bq).mono (by decide);obtain⟨zs,z,el,Z,rel⟩:=tT (n:=2) pE rfl bL bE;have ew:=mM ([a*u.1*v.2,b*v.1*u.2]++[1*u.2*v.2]) S (by
    intro x hx;rcases ck.mp hx with y |y
    .exact(bL x y).mono (by decide)
    .have:x=1*u.2*v.2:=by simpa using y
     rw[this];exact bE.mono (by decide))
   have es:eX [u,v] [a,b]=zs++[z]:=el;refine⟨?_,by rw[es];exact⟨zs,z,rfl,Z⟩,[a,b],1,zs,z,rfl,es,rfl,Z.len,by decide,Z.pos,λj hj=>?_⟩
   .rw[el]at ew
    rw[es];simp only[aq,br,ju,eh]at ew;generalize hQ:1*u.2*v.2=Q at *;generalize hA:a*u.1*v.2=A at *;generalize hB:b*v.1*u.2=B at *;unfold pL aS wI;simp only[lv,li,aq,br];simp only[tv];generalize (zs++[z]).map PV.int=ZL at *;simp only[ir]at m1 m2 hQ;simp! [aE,aZ,bA,aK,aN,aO,aM,aP,aF,aL,bJ,bB,bW,fG,fR,gN,m1,m2,bC,bX,jA,nF,gI,eF,eA,gT,cU,eJ,m3,m4,m5,m6,q1,q2,ew]
   .have r:=rel j hj
    match j,hj with
    |0,_=>
     have r:zs.getD 0 0*(1*u.2*v.2)=a*u.1*v.2*z:=r;show zs.getD 0 0*(1*u.2*v.2*1)=(u.1*v.2*a+0*1)*z;rw[kg,r];grind
    |1,_=>
     have r:zs.getD 1 0*(1*u.2*v.2)=b*v.1*u.2*z:=r;show zs.getD 1 0*(1*u.2*v.2*1)=(v.1*u.2*b+0*1)*z;rw[kg,r];grind
 .match fs,hf,h,xs,hx,hb with
  |[u,v,t],_,h,[a,b,c],_,hb=>
   have hu:=h u (by simp);have hv:=h v (by simp);have ht:=h t (by simp);have ba:=b3 (hb a (by simp));have bb:=b3 (hb b (by simp));have bc:=b3 (hb c (by simp));have m1:=mk o1 hu.bq (by decide) (by decide);have m2:=mk (o1.mul hu.bq) hv.bq (by decide) (by decide);have m2':=mk ((o1.mul hu.bq).mul hv.bq) ht.bq (by decide) (by decide);have d1:(1*u.2*v.2*t.2).fdiv u.2=v.2*t.2:=by rw[ir,pf];exact qQ (by have:=hu.q;omega)
   have d2:(1*u.2*v.2*t.2).fdiv v.2=u.2*t.2:=by rw[show 1*u.2*v.2*t.2=v.2*(u.2*t.2) by grind];exact qQ (by have:=hv.q;omega)
   have d3:(1*u.2*v.2*t.2).fdiv t.2=u.2*v.2:=by rw[show 1*u.2*v.2*t.2=t.2*(u.2*v.2) by grind];exact qQ (by have:=ht.q;omega)
   have q1:iO (.int (1*u.2*v.2*t.2)) (.int u.2)=some (.int (v.2*t.2)):=by
    have e:=pJ (i:=1*u.2*v.2*t.2) (j:=u.2) ⟨by have:=hu.q;omega,hu.bq.mono (by decide)⟩;rw[d1]at e;exact e
   have q2:iO (.int (1*u.2*v.2*t.2)) (.int v.2)=some (.int (u.2*t.2)):=by
    have e:=pJ (i:=1*u.2*v.2*t.2) (j:=v.2) ⟨by have:=hv.q;omega,hv.bq.mono (by decide)⟩;rw[d2]at e;exact e
   have q3:iO (.int (1*u.2*v.2*t.2)) (.int t.2)=some (.int (u.2*v.2)):=by
    have e:=pJ (i:=1*u.2*v.2*t.2) (j:=t.2) ⟨by have:=ht.q;omega,ht.bq.mono (by decide)⟩;rw[d3]at e;exact e
   have m3:=mk ba hu.bp (by decide) (by decide);have m4:=mk (ba.mul hu.bp) (hv.bq.mul ht.bq) (by decide) (by decide);have m5:=mk bb hv.bp (by decide) (by decide);have m6:=mk (bb.mul hv.bp) (hu.bq.mul ht.bq) (by decide) (by decide);have m7:=mk bc ht.bp (by decide) (by decide);have m8:=mk (bc.mul ht.bp) (hu.bq.mul hv.bq) (by decide) (by decide);have pE:0<1*u.2*v.2*t.2:=aw (aw (aw (by decide) hu.q) hv.q) ht.q;have bL:∀x∈[a*u.1*(v.2*t.2),b*v.1*(u.2*t.2),c*t.1*(u.2*v.2)],Bd 100 x:=by
    simp;exact⟨((ba.mul hu.bp).mul (hv.bq.mul ht.bq)).mono (by decide),((bb.mul hv.bp).mul (hu.bq.mul ht.bq)).mono (by decide),((bc.mul ht.bp).mul (hu.bq.mul hv.bq)).mono (by decide)⟩
   have bE:Bd 100 (1*u.2*v.2*t.2):=(((o1.mul hu.bq).mul hv.bq).mul ht.bq).mono (by decide);obtain⟨zs,z,el,Z,rel⟩:=tT (n:=3) pE rfl bL bE;have ew:=mM ([a*u.1*(v.2*t.2),b*v.1*(u.2*t.2),c*t.1*(u.2*v.2)]++[1*u.2*v.2*t.2]) S (by
    intro x hx;rcases ck.mp hx with y |y
    .exact(bL x y).mono (by decide)
    .have:x=1*u.2*v.2*t.2:=by simpa using y
     rw[this];exact bE.mono (by decide))
   have es:eX [u,v,t] [a,b,c]=zs++[z]:=el;refine⟨?_,by rw[es];exact⟨zs,z,rfl,Z⟩,[a,b,c],1,zs,z,rfl,es,rfl,Z.len,by decide,Z.pos,λj hj=>?_⟩
   .rw[el]at ew
    rw[es];simp only[aq,br,ju,eh]at ew;generalize hQ:1*u.2*v.2*t.2=Q at *;generalize hA:a*u.1*(v.2*t.2)=A at *;generalize hB:b*v.1*(u.2*t.2)=B at *;generalize hC:c*t.1*(u.2*v.2)=C at *;unfold pL aS wI;simp only[lv,li,aq,br];simp only[tv];generalize (zs++[z]).map PV.int=ZL at *;simp only[ir]at m1 m2 m2' hQ;simp! [aE,aZ,bA,aK,aN,aO,aM,aP,aF,aL,bJ,bB,bW,fG,fR,gN,m1,m2,m2',bC,bX,jA,nF,gI,eF,eA,gT,cU,eJ,m3,m4,m5,m6,m7,m8,q1,q2,q3,ew]
   .have r:=rel j hj
    match j,hj with
    |0,_=>
     have r:zs.getD 0 0*(1*u.2*v.2*t.2)=a*u.1*(v.2*t.2)*z:=r;show zs.getD 0 0*(1*u.2*v.2*t.2*1)=(u.1*(v.2*t.2)*a+0*1)*z;rw[kg,r];grind
    |1,_=>
     have r:zs.getD 1 0*(1*u.2*v.2*t.2)=b*v.1*(u.2*t.2)*z:=r;show zs.getD 1 0*(1*u.2*v.2*t.2*1)=(v.1*(u.2*t.2)*b+0*1)*z;rw[kg,r];grind
    |2,_=>
     have r:zs.getD 2 0*(1*u.2*v.2*t.2)=c*t.1*(u.2*v.2)*z:=r;show zs.getD 2 0*(1*u.2*v.2*t.2*1)=(t.1*(u.2*v.2)*c+0*1)*z;rw[kg,r];grind
theorem aal{n:Nat}(hn:n=2\/n=3){fs:List (Int×Int)}(hf:fs.length=n)(h:∀u∈fs,Sp u):0<Yg fs/\∀j,j<n->0<Mh fs j:=by
 rcases hn with rfl |rfl
 .match fs,hf,h with
  |[u,v],_,h=>
   have hu:=h u (by simp);have hv:=h v (by simp);refine⟨aw (aw (by decide) hu.q) hv.q,λj hj=>?_⟩
   match j,hj with
   |0,_=>exact aw hu.p hv.q
   |1,_=>exact aw hv.p hu.q
 .match fs,hf,h with
  |[u,v,t],_,h=>
   have hu:=h u (by simp);have hv:=h v (by simp);have ht:=h t (by simp);refine⟨aw (aw (aw (by decide) hu.q) hv.q) ht.q,λj hj=>?_⟩
   match j,hj with
   |0,_=>exact aw hu.p (aw hv.q ht.q)
   |1,_=>exact aw hv.p (aw hu.q ht.q)
   |2,_=>exact aw ht.p (aw hu.q hv.q)
theorem P8{n:Nat}(hn:n=2\/n=3){fs:List (Int×Int)}(hf:fs.length=n)(h:∀u∈fs,Sp u){xss:AB}(w:Rw n xss):dU (xss.map (eX fs))≠0:=λz=>by
 have af:∀xs∈xss,jM n (Mh fs) (λ_=>0) (Yg fs) (xs++[1]) (eX fs xs):=λxs hx=>(Ad hn [] hf h (w.l xs hx) (w.b xs hx)).2.2;have gu:∀us∈xss.map (eX fs),Gu n 100 us:=λus hu=>by
  obtain⟨xs,hx,rfl⟩:=gq.mp hu;exact(Ad hn [] hf h (w.l xs hx) (w.b xs hx)).2.1
 have p2:=tQ gu;obtain⟨pe,pa⟩:=aal hn hf h;have nz:=w.nz;have wl:=w.len;clear w;rcases hn with rfl |rfl
 .match xss,wl,af,nz,p2,z with
  |[a,b,c],_,af,nz,p2,z=>
   have e:=Xv (af a (by simp)) (af b (by simp)) (af c (by simp));have z:dU [eX fs a,eX fs b,eX fs c]=0:=z;rw[z,gw]at e;exact cf (cf (km (aw (aw (pa 0 (by decide)) (pa 1 (by decide))) pe)) nz) (km p2) e.symm
 .match xss,wl,af,nz,p2,z with
  |[a,b,c,d],_,af,nz,p2,z=>
   have e:=Uv (af a (by simp)) (af b (by simp)) (af c (by simp)) (af d (by simp));have z:dU [eX fs a,eX fs b,eX fs c,eX fs d]=0:=z;rw[z,gw]at e;exact cf (cf (km (aw (aw (aw (pa 0 (by decide)) (pa 1 (by decide))) (pa 2 (by decide))) pe)) nz) (km p2) e.symm
abbrev lB:MS:=(aI (aU 5 (aJ mE [] (aB (aA 0) (aB (mR eC (aB (aA 2) aD)) aD))))
 (dA (eO (aA 3) (aB (aJ lQ [] (aB (bC ["_law_corner"] [(5,"_law_far_here"),(2,"_law_stretch_here")] (bB (aA 4)) (gN 0) (aJ lR [] (aB (aJ pL [] (aB (aA 0) (aB (aA 2) aD))) (aB (aA 1) (aB (mC (.int 1)) aD))))) aD)) aD))))
theorem ac9{n:Nat}(hn:n=2\/n=3)(ns:AA){fs:List (Int×Int)}(hf:fs.length=n)(h:∀u∈fs,Sp u)(gs:AC)(hg:gs.length<=99){xss:AB}(w:Rw n xss)(x1 x5:AJ):∃(uss:AB)(ns':AA)(y5:AJ),lB [some (.ref 0),x1,some (.pv (.lst (fs.map fv))),some (.ref 1),some (.pv (dQ xss)),x5] [.lst (li ns),.lst (gs.map px)]=.nx [some (.ref 0),x1,some (.pv (.lst (fs.map fv))),some (.ref 1),some (.pv (dQ xss)),y5] [.lst (li ns'),.lst ((gs++[uss]).map px)]/\Sx n 201 uss:=by
 have hr:fF [.lst (li ns),.lst (gs.map px)] 0 ns:=rfl;obtain⟨v,n1,e1,G⟩:=aeC n hn hr;simp only[fg]at e1;have e1:mE [.ref 0,.pv (.int (n:Int))] [.lst (li ns),.lst (gs.map px)]=.ok (.pv v) [.lst (li n1),.lst (gs.map px)]:=e1;obtain⟨ys,y,rfl,P⟩:=G;have Gf:Gu n 100 (ys++[y]):=⟨ys,y,rfl,P⟩;generalize ys++[y]=f at *;have sp:=λS xs (hx:xs∈xss)=>Ad hn S hf h (w.l xs hx) (w.b xs hx);have gu:∀us∈xss.map (eX fs),Gu n 100 us:=λus hu=>by
  obtain⟨xs,hx,rfl⟩:=gq.mp hu;exact(sp [] xs hx).2.1
 have hl:(xss.map (eX fs)).length=n+1:=by rw[am];exact w.len
 have nz:=P8 hn hf h w;have nz2:=Vf hn (way:=1) (.inl rfl) hl gu Gf nz;have gu2:=pQ (way:=1) (.inl rfl) gu Gf;have l2:((xss.map (eX fs)).map (cM 1 f)).length=n+1:=by rw[am];exact hl
 have S1:=Ef hn (k:=100+100+1) (by decide) l2 gu2 nz2;refine⟨_,n1,some (.pv (tv f)),?_,S1⟩;have el:(gs++[cF ((xss.map (eX fs)).map (cM 1 f))]).map px=gs.map px++[px (cF ((xss.map (eX fs)).map (cM 1 f)))]:=by simp
 rw[el];have lz:(gs.map px).length<16777216:=by rw[am];omega
 have ln:((fs.map fv).length:Int)=(n:Int):=by rw[am,hf]
 have ec:cD [] (gN 0) (aJ lR [] (aB (aJ pL [] (aB (aA 0) (aB (aA 2) aD))) (aB (aA 1) (aB (mC (.int 1)) aD)))) (xss.map lv) [none,some (.pv (tv f)),some (.pv (.lst (fs.map fv)))] [.lst (li n1),.lst (gs.map px)]=.ok (xss.map λxs=>tv (cM 1 f (eX fs xs))) [.lst (li n1),.lst (gs.map px)]:=by
  refine nU (jS _) lv (λxs=>tv (cM 1 f (eX fs xs))) xss none λxs hx=>?_;have a1:=(sp [.lst (li n1),.lst (gs.map px)] xs hx).1;have a2:=Iq (way:=1) [.lst (li n1),.lst (gs.map px)] hn (.inl rfl) (sp [] xs hx).2.1 Gf (by decide) (by decide);generalize gs.map px=GL,fs.map fv=FL,tv f=T4,lv xs=T3,tv (eX fs xs)=T2,tv (cM 1 f (eX fs xs))=T1 at *;simp! [aE,aZ,bA,aK,aN,aO,aM,aP,aF,aL,a1,a2]
 have es:=vE (uss:=(xss.map (eX fs)).map (cM 1 f)) (A:=.lst (((xss.map (eX fs)).map (cM 1 f)).map tv)) hn [.lst (li n1),.lst (gs.map px)] l2 (λus hu=>(gu2 us hu).mono (by decide)) (.inl rfl);have em:((xss.map (eX fs)).map (cM 1 f)).map tv=xss.map λxs=>tv (cM 1 f (eX fs xs)):=by rw[dh,dh];rfl
 rw[em]at es;have hv:dQ xss=.lst (xss.map lv):=rfl;have hp:∀L:AB,px L=.tup (L.map tv):=λ_=>rfl;rw[hv,hp];clear S1 nz2 gu2 l2 nz hl gu sp;generalize (n:Int)=N,gs.map px=GL,fs.map fv=FL,xss.map lv=XL,(xss.map λxs=>tv (cM 1 f (eX fs xs)))=TL,(cF ((xss.map (eX fs)).map (cM 1 f))).map tv=PX at *;have e1:mE [.ref 0,.pv (.int N)] [.lst (li ns),.lst GL]=.ok (.pv (tv f)) [.lst (li n1),.lst GL]:=e1;generalize tv f=TF at *;unfold lB;simp! [aE,aZ,bA,aK,aN,aO,aM,aP,aF,aL,ln,e1,eO,fN,kL,bC,bX,bB,bW,ec,es,lz]
theorem Mu{n:Nat}(hn:n=2\/n=3){fs:List (Int×Int)}(hf:fs.length=n)(h:∀u∈fs,Sp u)(x1:AJ):∀(hs:AC)(gs:AC)(ns:AA)(x4 x5:AJ),(∀xss∈hs,Rw n xss)->(∀uss∈gs,Sx n 201 uss)->gs.length+hs.length<=99->∃(gs':AC)(ns':AA)(y4 y5:AJ),
  dZ [] (gN 4) lB (hs.map dQ) [some (.ref 0),x1,some (.pv (.lst (fs.map fv))),some (.ref 1),x4,x5] [.lst (li ns),.lst (gs.map px)]=.nx [some (.ref 0),x1,some (.pv (.lst (fs.map fv))),some (.ref 1),y4,y5] [.lst (li ns'),.lst (gs'.map px)]/\gs'.length=gs.length+hs.length/\∀uss∈gs',Sx n 201 uss
 |[],gs,ns,x4,x5,_,hg,_=>⟨gs,ns,x4,x5,fR,rfl,hg⟩
 |xss::hs,gs,ns,x4,x5,hw,hg,h9=>by
  have h9:gs.length+(hs.length+1)<=99:=h9;obtain⟨uss,n1,y5,e1,r1⟩:=ac9 hn ns hf h gs (by omega) (hw xss bh) x1 x5;obtain⟨gs',n2,z4,z5,e2,l2,r2⟩:=Mu hn hf h x1 hs (gs++[uss]) n1 (some (.pv (dQ xss))) y5 (λy hy=>hw y (bj _ hy)) (λy hy=>by
   rcases ck.mp hy with z |z
   .exact hg y z
   .have:y=uss:=by simpa using z
    rw[this];exact r1) (by rw[av,jz];omega)
  refine⟨gs',n2,z4,z5,?_,by rw[l2,av,jz];show _=gs.length+(hs.length+1);omega,r2⟩;rw[aq,fG];simp only[gN,jv,fg];rw[e1];exact e2
theorem aav{n:Nat}(hn:n=2\/n=3)(ns:AA){fs:List (Int×Int)}(hf:fs.length=n)(h:∀u∈fs,Sp u){hs:AC}(hw:∀xss∈hs,Rw n xss)(h9:hs.length<=90):∃(gs:AC)(ns':AA),wK [.ref 0,.pv (.lst (hs.map dQ)),.pv (.lst (fs.map fv))] [.lst (li ns)]=.ok (.ref 1) [.lst (li ns'),.lst (gs.map px)]/\gs.length=hs.length/\∀uss∈gs,Sx n 201 uss:=by
 obtain⟨gs,n2,y4,y5,e2,l2,r2⟩:=Mu hn hf h (some (.pv (.lst (hs.map dQ)))) hs [] ns none none hw (λ_ h=>absurd h fz) (by show 0+hs.length<=99;omega);refine⟨gs,n2,?_,by rw[l2];show 0+hs.length=_;omega,r2⟩;simp only[br]at e2;have hb:Fd=(aI (aU 3 (fZ aD)) (aI (bJ (bB (aA 1)) (gN 4) lB) (bG (aA 3)))):=rfl;unfold wK aS;rw[hb];generalize fs.map fv=FL,hs.map dQ=HL,gs.map px=GL,lB=LB at *;simp! [aE,aZ,bA,aK,aN,aO,aM,aP,aF,aL,fZ,nE,bJ,bB,bW,e2]
theorem ae0{L:AA}(h:gl L 0=1):low L=L:=by
 unfold low;rw[h,if_neg (by decide)];simp
theorem Yo{L:AA}{w:Int}(hw:0<w)(e:low (L++[w])=L++[w]):gl (L++[w]) 0=1:=by
 have hg:=Ae (kD L w) (by omega);rw[Be (kD L w) (by omega),ee]at e;have e2:=(List.append_inj' e (by simp)).2;have e3:w/gl (L++[w]) 0=w:=by simpa using e2
 generalize gl (L++[w]) 0=g at *;have e4:=Int.mul_ediv_self_le (x:=w) (k:=g) (by omega);rw[e3]at e4
 by_cases h2:2<=g
 .have:=u4 h2 (show 0<=w by omega)
  omega
 .omega
def ra:AA->AA
 |[x,y,w]=>[x,y,0,w]
 |l=>l
theorem iH{k:Nat}{us:AA}(h:Gu 2 k us):Gu 3 k (ra us):=by
 obtain⟨xs,w,rfl,P⟩:=h
 match xs,P.len,P with
 |[x,y],_,P=>
  refine⟨[x,y,0],w,rfl,⟨rfl,P.pos,?_,λz hz=>?_,P.bw⟩⟩
  .have e:=Yo P.pos P.low
   refine ae0 ?_;rw[<-e];simp[gl]
  .have hz:z=x\/z=y\/z=0:=by simpa using hz
   rcases hz with rfl |rfl |rfl
   .exact P.bx _ (by simp)
   .exact P.bx _ (by simp)
   .unfold Bd
    exact og k
theorem wF{k:Nat}{us:AA}(S:aG)(h:Gu 2 k us):qR [.pv (tv us)] S=.ok (.pv (tv (ra us))) S/\sX [.pv (tv us)] S=.ok (.pv (tv (ra us))) S:=by
 obtain⟨xs,w,rfl,P⟩:=h
 match xs,P.len with
 |[x,y],_=>
  have s1:gL (.tup [.int x,.int y,.int w]) none (some 2)=some (.tup [.int x,.int y]):=rfl;have s2:gL (.tup [.int x,.int y,.int w]) (some 2) none=some (.tup [.int w]):=rfl;refine⟨?_,?_⟩
  .show qR [.pv (.tup [.int x,.int y,.int w])] S=.ok (.pv (.tup [.int x,.int y,.int 0,.int w])) S
   unfold qR aS Sa;simp! [aE,aZ,bA,aK,aN,aO,aM,aP,aF,aL,dG,dM,dD,fT,s1,s2,ra]
  .show sX [.pv (.tup [.int x,.int y,.int w])] S=.ok (.pv (.tup [.int x,.int y,.int 0,.int w])) S
   unfold sX aS Xa;simp! [aE,aZ,bA,aK,aN,aO,aM,aP,aF,aL]
theorem Su{l:Nat}{aQ:AA}(g:Gu 3 l aQ):aE (tv aQ) (.int 2)=some (.int (aQ.getD 2 0)):=by
 obtain⟨xs,w,rfl,P⟩:=g
 match xs,P.len with
 |[x,y,z],_=>rfl
theorem aaG{l:Nat}(S:aG){aQ:AA}(g:Gu 3 l aQ):sO [.pv (tv aQ)] S=if aQ.getD 2 0=0 then .exc "Flat" S else .ok (.pv .non) S:=by
 have e:=Su g;generalize aQ.getD 2 0=c,tv aQ=T at *;unfold sO aS zV
 by_cases h:c=0
 .subst h
  simp! [bR,aN,aO,aM,aP,aF,aL,e,rK]
 .simp! [bR,aN,aO,aM,aP,aF,aL,e,h]
theorem Lw{v:Int}(h0:0<=v)(h1:v<3):∃M N:Int,aE (.lst [.int 1,.int 3,.int 1000000000]) (.int v)=some (.int M)/\aE (.lst [.int 1,.int 4,.int 1000000]) (.int v)=some (.int N)/\0<M/\M<=1000000000/\0<N/\N<=1000000:=by
 have:v=0\/v=1\/v=2:=by omega
 rcases this with rfl |rfl |rfl
 .exact⟨1,1,rfl,rfl,by decide,by decide,by decide,by decide⟩
 .exact⟨3,4,rfl,rfl,by decide,by decide,by decide,by decide⟩
 .exact⟨1000000000,1000000,rfl,rfl,by decide,by decide,by decide,by decide⟩
theorem M8(ns:AA):∃(aQ ns':AA),qW [.ref 0,.pv (.int 3)] [.lst (li ns)]=.ok (.pv (tv aQ)) [.lst (li ns')]/\Gu 3 100 aQ:=by
 have hr:∀ms,fF [.lst (li ms)] 0 ms:=λ_=>rfl;have hr2:∀ms L,fF [.lst (li ms),.lst L] 0 ms:=λ_ _=>rfl;obtain⟨c,n1,e1,c0,c1,_⟩:=gX (m:=3) (hr ns) (by decide) (jB (by decide) (by decide));obtain⟨M,_,em,_,M0,M1,_,_⟩:=Lw c0 c1;obtain⟨d,n2,e2,d0,d1,_⟩:=gX (m:=3) (hr n1) (by decide) (jB (by decide) (by decide));obtain⟨_,N,_,en,_,_,N0,N1⟩:=Lw d0 d1;have bM:Bd 8000 M:=(Bd.of (k:=30) (n:=1000000000) (by omega) (by decide)).mono (by decide);have bN:Bd 8000 N:=(Bd.of (k:=30) (n:=1000000000) (by omega) (by decide)).mono (by decide);obtain⟨t,n3,e3,t0,t1,_⟩:=gX (m:=N) (hr n2) N0 bN;obtain⟨xs,n4,e4,l4,b4⟩:=Rb (W:=M) (by omega) (by omega) (dH 0 3) _ n3 none (hr n3);have l3:xs.length=3:=by rw[l4];rfl
 match xs,l3,b4,e4 with
 |[x,y,z],_,b4,e4=>
  obtain⟨p,n5,e5,p0,p1,_⟩:=gX (m:=M) (hr2 n4 [.int x,.int y,.int z]) M0 bM;obtain⟨q,n6,e6,q0,q1,_⟩:=gX (m:=2) (hr2 n5 [.int x,.int y,.int z]) (by decide) (jB (by decide) (by decide));obtain⟨s,n7,e7,s0,s1,_⟩:=gX (m:=8) (hr2 n6 [.int x,.int y,.int ((1+p)*(1-2*q))]) (by decide) (jB (by decide) (by decide));simp only[fg]at e1 e2 e3 e4 e5 e6 e7;have mq:bD (.int 2) (.int q)=some (.int (2*q)):=lV (.inl (.inl ⟨by decide,by decide⟩));have mp:bD (.int (1+p)) (.int (1-2*q))=some (.int ((1+p)*(1-2*q))):=lV (.inl (.inl ⟨by omega,by omega⟩));have rg:=qI [.lst (li n3)] (n:=3) (by decide);rw[show((3:Nat):Int)=3 from rfl]at rg;have bx:Bd 100 x:=(b4 x (by simp)).mono (by decide);have by':Bd 100 y:=(b4 y (by simp)).mono (by decide);have bv:Bd 100 ((1+p)*(1-2*q)):=by
   have hq:1-2*q=1\/1-2*q=-1:=by omega
   have b0:Bd 100 (1+p):=(Bd.of (k:=31) (n:=1000000001) (by omega) (by decide)).mono (by decide);rcases hq with e |e<;>rw[e]
   .rw[kg];exact b0
   .rw[wm,kg];exact b0.neg
  have bt:Bd 100 (1+t):=(Bd.of (k:=30) (n:=1000000000) (by omega) (by decide)).mono (by decide);have b00:Bd 100 (0:Int):=by unfold Bd;exact og 100
  have fin:∀(v:Int),Bd 100 v->∃aQ,Gu 3 100 aQ/\∀S,gW [.pv (.lst [.int x,.int y,.int v,.int (1+t)])] S=.ok (.pv (tv aQ)) S:=λv hv=>by
   have bL:∀u∈[x,y,v],Bd 100 u:=by
    simp;exact⟨bx,by',hv⟩
   obtain⟨zs,w,el,Z,_⟩:=tT (n:=3) (L:=[x,y,v]) (b:=1+t) (by omega) rfl bL bt;refine⟨zs++[w],⟨zs,w,rfl,Z⟩,λS=>?_⟩;have ew:=mM ([x,y,v]++[1+t]) S (by
    intro u hu;rcases ck.mp hu with a |a
    .exact(bL u a).mono (by decide)
    .have:u=1+t:=by simpa using a
     rw[this];exact bt.mono (by decide))
   rw[el]at ew;exact ew
  have e1:cC [.ref 0,.pv (.int 3)] [.lst (li ns)]=.ok (.pv (.int c)) [.lst (li n1)]:=e1;have e2:cC [.ref 0,.pv (.int 3)] [.lst (li n1)]=.ok (.pv (.int d)) [.lst (li n2)]:=e2;have e3:cC [.ref 0,.pv (.int N)] [.lst (li n2)]=.ok (.pv (.int t)) [.lst (li n3)]:=e3;have e5:cC [.ref 0,.pv (.int M)] [.lst (li n4),.lst [.int x,.int y,.int z]]=.ok (.pv (.int p)) [.lst (li n5),.lst [.int x,.int y,.int z]]:=e5;have e6:cC [.ref 0,.pv (.int 2)] [.lst (li n5),.lst [.int x,.int y,.int z]]=.ok (.pv (.int q)) [.lst (li n6),.lst [.int x,.int y,.int z]]:=e6;have i3:bA 3 (-1)=some 2:=rfl;generalize (1+p)*(1-2*q)=V at *;have e7:cC [.ref 0,.pv (.int 8)] [.lst (li n6),.lst [.int x,.int y,.int V]]=.ok (.pv (.int s)) [.lst (li n7),.lst [.int x,.int y,.int V]]:=e7;have e4:cD [] (gN 0) (aC dI (aJ cC [] (aB (aA 2) (aB (aC aF (aC bD (mC (.int 2)) (aA 1)) (mC (.int 1))) aD))) (aA 1)) (dH 0 3) [none,some (.pv (.int M)),some (.ref 0)] [.lst (li n3)]=.ok [.int x,.int y,.int z] [.lst (li n4)]:=e4;generalize hme:(aC dI (aJ cC [] (aB (aA 2) (aB (aC aF (aC bD (mC (.int 2)) (aA 1)) (mC (.int 1))) aD))) (aA 1))=ME1 at e4;have hb:Yb=(aI (aU 2 (aC aE (mN eP (aB (mC (.int 1)) (aB (mC (.int 3)) (aB (aC gG (mC (.int 10)) (mC (.int 9))) aD)))) (aJ cC [] (aB (aA 0) (aB (mC (.int 3)) aD)))))
 (aI (aU 3 (aC aE (mN eP (aB (mC (.int 1)) (aB (mC (.int 4)) (aB (aC gG (mC (.int 10)) (mC (.int 6))) aD)))) (aJ cC [] (aB (aA 0) (aB (mC (.int 3)) aD)))))
 (aI (aU 3 (aC aF (mC (.int 1)) (aJ cC [] (aB (aA 0) (aB (aA 3) aD)))))
 (aI (aU 4 (oJ ["_law_k"] [(2,"_law_wide"),(0,"_law_row_here")] (cG (aB (aA 1) aD)) (gN 0) ME1))
 (aI (jW (aA 4) (bO cB (mC (.int 1))) (aC bD (aC aF (mC (.int 1)) (aJ cC [] (aB (aA 0) (aB (aA 2) aD)))) (aC dI (mC (.int 1)) (aC bD (mC (.int 2)) (aJ cC [] (aB (aA 0) (aB (mC (.int 2)) aD)))))))
 (aI (cS (bK (aC cY (aJ cC [] (aB (aA 0) (aB (mC (.int 8)) aD))) (mC (.int 7)))) (jW (aA 4) (bO cB (mC (.int 1))) (mC (.int 0))) dE)
 (bG (aJ gW [] (aB (aC aF (aA 4) (mN eP (aB (aA 3) aD))) aD))))))))):=by rw[<-hme];rfl
  generalize dH 0 3=IP at*
  by_cases h7:s=7
  .obtain⟨aQ,G,el⟩:=fin 0 b00
   refine⟨aQ,n7,?_,G⟩;subst h7;have el:=el [.lst (li n7),.lst [.int x,.int y,.int 0]];generalize tv aQ=T at *;unfold qW aS;rw[hb];simp! [bR,aN,aO,aM,aP,aF,aL,p9,p6,e1,em,e2,en,e3,oJ,bX,cG,rg,e4,jW,oO,fN,e5,e6,e7,mq,mp,i3,el]
  .obtain⟨aQ,G,el⟩:=fin V bv
   refine⟨aQ,n7,?_,G⟩;have el:=el [.lst (li n7),.lst [.int x,.int y,.int V]];generalize tv aQ=T at *;unfold qW aS;rw[hb];simp! [bR,aN,aO,aM,aP,aF,aL,p9,p6,e1,em,e2,en,e3,oJ,bX,cG,rg,e4,jW,oO,fN,e5,e6,e7,mq,mp,i3,h7,el]
theorem O2(bs:List Bool):iZ [.lst (bs.map .bl)]=some (.bl (bs.all id)):=by
 have e:kH (bs.map PV.bl)=some bs:=by
  induction bs with
  |nil=>rfl
  |cons v L ih=>
   show(match kH (L.map PV.bl)with |some bs=>some (v::bs) |none=>none)=_
   rw[ih]
 simp only[iZ,e,uc]
def bd(p:List Nat):List Nat:=if p.head?=some 45 then p.tail else p
def kE(k:AB):PV:=.tup (k.map λr:AA=>PV.tup (r.map PV.int))
theorem Ze{k l:AB}(h:kE k=kE l):k=l:=qV (n:=true) h
abbrev cZ:Type:=AB×Int
def dB:List cZ->AB->Int
 |[],_=>0
 |c::C,k=>(if c.1=k then c.2 else 0)+dB C k
theorem kW(C D:List cZ)(k:AB):dB (C++D) k=dB C k+dB D k:=by
 induction C with
 |nil=>simp[dB]
 |cons c C ih=>simp[dB,ih];omega
def nM:AI->Int
 |some (.int i)=>i
 |_=>0
def gJ(kvs:List (PV×PV))(c:cZ):List (PV×PV):=hV kvs (kE c.1) (.int (nM (fL kvs (kE c.1))+c.2))
def eY(kvs:List (PV×PV))(C:List cZ):List (PV×PV):=C.foldl gJ kvs
theorem kX(kvs:List (PV×PV))(C D:List cZ):eY (eY kvs C) D=eY kvs (C++D):=by
 unfold eY;rw[List.foldl_append]
theorem Kt{kvs:List (PV×PV)}(nd:(kvs.map (·.1)).Nodup){i j:Nat}{k v w:PV}(h1:kvs[i]?=some (k,v))(h2:kvs[j]?=some (k,w)):i=j:=by
 have e1:(kvs.map (·.1))[i]?=some k:=by rw[bo,h1];rfl
 have e2:(kvs.map (·.1))[j]?=some k:=by rw[bo,h2];rfl
 exact(List.getElem?_inj (ca.mp e1).1 nd).mp (e1.trans e2.symm)
theorem nX{kvs:List (PV×PV)}(nd:(kvs.map (·.1)).Nodup){k v:PV}(h:(k,v)∈kvs):fL kvs k=some v:=by
 obtain⟨i,hi⟩:=qb.mp h;obtain⟨j,hj⟩:=Je (kvs:=kvs) (k:=k) (i:=i) (by rw[bo,hi];rfl);obtain⟨w,hw⟩:=mT hj;have e:=Kt nd hw hi;subst e;unfold fL;rw[hj];simp[hi]
theorem E6{kvs:List (PV×PV)}{k:PV}(h:∀v,(k,v)∉kvs):fL kvs k=none:=by
 unfold fL;cases z:jC kvs k with
 |none=>rfl
 |some i=>
  obtain⟨v,hv⟩:=mT z;exact absurd (cx hv) (h v)
theorem Wb{kvs:List (PV×PV)}(nd:(kvs.map (·.1)).Nodup){k v:PV}(x:PV×PV):x∈hV kvs k v↔(x=(k,v))\/(x.1≠k/\x∈kvs):=by
 unfold hV;cases z:jC kvs k with
 |none=>
  dsimp only;rw[ck,List.mem_singleton];constructor
  .rintro(h |h)
   .refine .inr ⟨λe=>?_,h⟩
    obtain⟨i,hi⟩:=qb.mp h;exact Fc z i (by rw[bo,hi,<-e];rfl)
   .exact .inl h
  .rintro(h |h)
   .exact .inr h
   .exact .inl h.2
 |some i=>
  dsimp only;obtain⟨w,hw⟩:=mT z;have hi:=(ca.mp hw).1;constructor
  .intro h
   obtain⟨j,hj⟩:=qb.mp h;rw[sy]at hj
   by_cases e:i=j
   .subst e
    rw[if_pos rfl,if_pos hi]at hj;exact .inl (bn hj).symm
   .rw[if_neg e]at hj
    refine .inr ⟨λek=>e (Kt nd hw (w:=x.2) (by rw[hj,<-ek])),cx hj⟩
  .rintro(h |⟨h1,h2⟩)
   .rw[h]
    exact cx (dq hi)
   .obtain⟨j,hj⟩:=qb.mp h2
    have e:i≠j:=λe=>by
     subst e;rw[hw]at hj;cases hj;exact h1 rfl
    exact cx (i:=j) (by rw[dr e];exact hj)
theorem rE{kvs:List (PV×PV)}(nd:(kvs.map (·.1)).Nodup){k v:PV}:((hV kvs k v).map (·.1)).Nodup/\(hV kvs k v).length<=kvs.length+1:=by
 unfold hV;cases z:jC kvs k with
 |none=>
  dsimp only;refine⟨?_,by rw[av];exact aj _⟩;rw[ee,nv];refine⟨nd,by simp,λa ha b hb=>?_⟩;have hb:b=k:=by simpa using hb
  rintro rfl
  subst hb;obtain⟨i,hi⟩:=qb.mp ha;exact Fc z i hi
 |some i=>
  dsimp only;obtain⟨w,hw⟩:=mT z;refine⟨?_,by rw[fe];exact kz _⟩;have e:(kvs.set i (k,v)).map (·.1)=kvs.map (·.1):=by
   rw[tj];refine jt λt=>?_;rw[sy];split
   .rename_i ht
    subst ht;rw[if_pos (by rw[am];exact(ca.mp hw).1),bo,hw];rfl
   .rfl
  rw[e];exact nd
structure Tb(kvs:List (PV×PV))(C:List cZ):Prop where
 int:∀x∈kvs,∃k i,x=(kE k,.int i)
 nd:(kvs.map (·.1)).Nodup
 val:∀k,(kE k,PV.int (dB C k))∈kvs\/((∀v,(kE k,v)∉kvs)/\dB C k=0)
 len:kvs.length<=C.length
theorem Tb.nil:Tb [] []:=⟨λ_ h=>absurd h fz,pk,λk=>.inr ⟨λ_ h=>absurd h fz,rfl⟩,aj _⟩
theorem Tb.get{kvs:List (PV×PV)}{C:List cZ}(h:Tb kvs C)(k:AB):fL kvs (kE k)=some (.int (dB C k))\/(fL kvs (kE k)=none/\dB C k=0):=by
 rcases h.val k with e |⟨e,z⟩
 .exact .inl (nX h.nd e)
 .exact .inr ⟨E6 e,z⟩
theorem Tb.vint{kvs:List (PV×PV)}{C:List cZ}(h:Tb kvs C)(k:AB):nM (fL kvs (kE k))=dB C k:=by
 rcases h.get k with e |⟨e,z⟩
 .rw[e];rfl
 .rw[e,z];rfl
theorem Tb.add{kvs:List (PV×PV)}{C:List cZ}(h:Tb kvs C)(c:cZ):Tb (gJ kvs c) (C++[c]):=by
 have hm:=λx=>Wb h.nd (k:=kE c.1) (v:=.int (dB C c.1+c.2)) x;have en:=rE h.nd (k:=kE c.1) (v:=.int (dB C c.1+c.2));unfold gJ;rw[h.vint];have sm:∀k,dB (C++[c]) k=dB C k+if c.1=k then c.2 else 0:=λk=>by rw[kW];simp[dB]
 refine⟨λx hx=>?_,en.1,λk=>?_,by rw[av];exact gm en.2 (wd h.len)⟩
 .rcases(hm x).mp hx with e |⟨_,e⟩
  .exact⟨_,_,e⟩
  .exact h.int x e
 .rw[sm]
  by_cases e:c.1=k
  .subst e
   rw[if_pos rfl];exact .inl ((hm _).mpr (.inl rfl))
  .rw[if_neg e,Int.add_zero]
   have ne:kE k≠kE c.1:=λz=>e (Ze z).symm;rcases h.val k with g |⟨g,z⟩
   .exact .inl ((hm _).mpr (.inr ⟨ne,g⟩))
   .refine .inr ⟨λv hv=>?_,z⟩
    rcases(hm _).mp hv with q |⟨_,q⟩
    .exact ne (congrArg Prod.fst q)
    .exact g v q
theorem Tb.adds{kvs:List (PV×PV)}{C:List cZ}(h:Tb kvs C):∀D:List cZ,Tb (eY kvs D) (C++D)
 |[]=>by rw[ig];exact h
 |c::D=>by
  have:=(h.add c).adds D;rw[ix]at this;exact this
theorem Zk:∀{L:List (PV×PV)},(∀x∈L,∃k i,x=(kE k,.int i))->∃is,kF (L.map (·.2))=some is/\∀b:Int,b∈is↔∃k,(kE k,PV.int b)∈L
 |[],_=>⟨[],rfl,λb=>by simp⟩
 |x::L,h=>by
  obtain⟨is,e,g⟩:=Zk (L:=L) λy hy=>h y (bj _ hy);obtain⟨k,i,rfl⟩:=h x bh;refine⟨i::is,by rw[aq];show(match kF (L.map (·.2))with |some bs=>some (i::bs) |none=>none)=_;rw[e],λb=>?_⟩
  rw[cq,g];constructor
  .rintro(rfl |⟨k',h'⟩)
   .exact⟨k,bh⟩
   .exact⟨k',bj _ h'⟩
  .rintro⟨k',h'⟩
   rcases cq.mp h' with q |q
   .have q2:=congrArg Prod.snd q
    injection q2 with q2;exact .inl q2
   .exact .inr ⟨k',q⟩
theorem acC{kvs:List (PV×PV)}{C:List cZ}(h:Tb kvs C):∃b,uC (.ref 0) [.dic true kvs]=.ok (.pv (.bl b)) [.dic true kvs]/\(b=false↔∀k,dB C k=0):=by
 obtain⟨is,e,g⟩:=Zk h.int;refine⟨is.any (· !=0),by unfold uC;simp[e],?_⟩;rw[yw];constructor
 .intro z k
  rcases h.val k with m |⟨_,m⟩
  .have:=z _ ((g _).mpr ⟨k,m⟩)
   simpa using this
  .exact m
 .intro z b hb
  obtain⟨k,hk⟩:=(g b).mp hb;rcases h.val k with m |⟨m,_⟩
  .have e1:=nX h.nd m
   have e2:=nX h.nd hk;rw[e1]at e2;have e3:dB C k=b:=by injection e2 with e2;injection e2
   rw[<-e3,z k];simp
  .exact absurd hk (m _)
theorem X6{kvs:List (PV×PV)}{C:List cZ}(h:Tb kvs C)(k:AB):kI (.ref 0) (.pv (kE k)) [.dic true kvs] (some (.pv (.int 0)))=.ok (.pv (.int (dB C k))) [.dic true kvs]:=by
 unfold kI;simp only[kn];rw[if_pos ⟨k,rfl⟩];rcases h.get k with e |⟨e,z⟩
 .rw[e]
 .rw[e,z]
theorem G7{kvs:List (PV×PV)}{C:List cZ}(h:Tb kvs C)(hl:C.length<=100000)(k:AB)(m:Int):lC (.ref 0) (.pv (kE k)) (.pv (.int (dB C k+m))) [.dic true kvs]=.ok (.pv .non) [.dic true (gJ kvs (k,m))]:=by
 unfold lC gJ;simp only[kn];have:=h.len;rw[if_pos ⟨⟨k,rfl⟩,by omega⟩,h.vint];rfl
def dX:AA->Int
 |[]=>0
 |n::r=>if n=0 then dX r else sg n
def aW(ns:AA):AA:=(low ns).map (dX ns*·)
theorem Sl(S:aG):∀(ns:AA)(x:AJ),fS [] (gN 0) (bK (aC jQ (aA 0) (mC (.int 0)))) (aA 0) (ns.map .int) [x] S=.ok ((ns.filter (λx=>!decide (x=0))).map .int) S
 |[],x=>Ez
 |n::ns,x=>by
  have ih:=Sl S ns (some (.pv (.int n)));show fS [] _ _ _ (.int n::ns.map .int) _ S=_;rw[Xx]
  by_cases h:n=0
  .subst h
   simp! [gN,aE,aZ,bA,aK,aN,aO,aM,aP,aF,aL,ih]
  .have hb:(!n==0)=true:=by simpa using h
   simp! [gN,aE,aZ,bA,aK,aN,aO,aM,aP,aF,aL,hb,ih,h]
theorem Zl:∀{ns:AA},(∃n∈ns,n≠0)->∃m L,ns.filter (λx=>!decide (x=0))=m::L/\sg m=dX ns
 |[],h=>by
  obtain⟨n,h,_⟩:=h;cases h
 |n::ns,h=>by
  by_cases e:n=0
  .subst e
   obtain⟨m,L,e1,e2⟩:=Zl (ns:=ns) (by
    obtain⟨k,hk,nk⟩:=h;rcases cq.mp hk with rfl |hk
    .exact absurd rfl nk
    .exact⟨k,hk,nk⟩)
   exact⟨m,L,by simpa using e1,by rw[e2];simp[dX]⟩
  .exact⟨n,ns.filter (λx=>!decide (x=0)),by simp[e],by simp[dX,e]⟩
theorem adK{ns:AA}(h:∃n∈ns,n≠0):gl ns 0≠0:=λe=>by
 obtain⟨n,hn,z⟩:=h;obtain⟨m,hm⟩:=(jU ns 0).2 n hn;rw[e]at hm;exact z (by rw[hm,gw])
theorem Nd(ns:AA)(S:aG)(hb:∀n∈ns,Bd 8000 n)(nz:∃n∈ns,n≠0):pG [.pv (.lst (ns.map .int))] S=.ok (.pv (tv (aW ns))) S:=by
 obtain⟨m,L,e1,e2⟩:=Zl nz;have ef:=Sl S ns none;rw[e1]at ef;have er:=Dk ns S hb (adK nz);have ec:=Sb S m (low ns) none;rw[e2]at ec;have i0:aE (.lst ((m::L).map .int)) (.int 0)=some (.int m):=fA (j:=0) rfl;unfold pG aS zY aW;generalize (m::L).map PV.int=ML at *;simp! [bR,aN,aO,aM,aP,aF,aL,wZ,bB,bW,bX,ef,i0,er,bC,ec]
theorem Xb{ns:AA}:aW (ns.map (- ·))=aW ns:=by
 unfold aW;have hf:∀l:AA,dX (l.map (- ·))=-dX l:=λl=>by
  induction l with
  |nil=>rfl
  |cons n l ih=>
   rw[aq];unfold dX
   by_cases h:n=0
   .subst h
    simpa using ih
   .rw[if_neg h,if_neg (by omega),Qs]
 rw[U5,hf,dh];refine dz λn _=>?_;simp[Int.neg_mul_neg]
def dP:AA->AA->AA
 |[x0,y0,w0],[x1,y1,w1]=>[x1*w0-x0*w1,y1*w0-y0*w1]
 |[x0,y0,z0,w0],[x1,y1,z1,w1]=>[x1*w0-x0*w1,y1*w0-y0*w1,z1*w0-z0*w1]
 |_,_=>[]
theorem fW{x0 y0 w0 x1 y1 w1:Int}:dP [x0,y0,w0] [x1,y1,w1]=[x1*w0-x0*w1,y1*w0-y0*w1]:=rfl
theorem fX{x0 y0 z0 w0 x1 y1 z1 w1:Int}:dP [x0,y0,z0,w0] [x1,y1,z1,w1]=[x1*w0-x0*w1,y1*w0-y0*w1,z1*w0-z0*w1]:=rfl
def eZ:AA->AA->AA
 |[a,b,c],[d,e,f]=>[b*f-c*e,c*d-a*f,a*e-b*d]
 |_,_=>[]
theorem nK{a b c d e f:Int}:eZ [a,b,c] [d,e,f]=[b*f-c*e,c*d-a*f,a*e-b*d]:=rfl
def cN:AB->AA
 |[p,q]=>(match dP p q with
  |[a,b]=>[-b,a]
  |_=>[])
 |[p,q,r]=>eZ (dP p q) (dP p r)
 |_=>[]
theorem lG{p q:AA}:cN [p,q]=(match dP p q with |[a,b]=>[-b,a] |_=>[]):=rfl
theorem lH{p q r:AA}:cN [p,q,r]=eZ (dP p q) (dP p r):=rfl
def sd(pi s e:AA)(n:Int):List cZ:=[([pi,aW (dP s e),s],n),([pi,aW (dP s e),e],-n)]
def iS:AB->List (AA×AA)
 |[p,q]=>[(p,q)]
 |[a,b,c]=>[(c,a),(a,b),(b,c)]
 |_=>[]
def cW(w:AB)(n:Int):List cZ:=(iS w).flatMap λx=>sd (aW (cN w)) x.1 x.2 n
structure Ar(s e:AA):Prop where
 eq:∀S,lO [.pv (tv s),.pv (tv e)] S=.ok (.pv (.lst ((dP s e).map .int))) S
 bd:∀n∈dP s e,Bd 8000 n
 nz:∃n∈dP s e,n≠0
theorem Ar.way{s e:AA}(h:Ar s e)(S:aG):pG [.pv (.lst ((dP s e).map .int))] S=.ok (.pv (tv (aW (dP s e)))) S:=Nd _ S h.bd h.nz
def Qh:MS:=(aI (aU 9 (mN dF (aB (aA 3) (aB (aA 6) (aB (aA 7) aD)))))
 (kJ (aA 0) (aA 9) (aC aF (pY (aA 0) (aB (aA 9) (aB (mC (.int 0)) aD))) (aA 8))))
theorem Ev{kvs:List (PV×PV)}{C:List cZ}(h:Tb kvs C)(hl:C.length<=100000)(pi d p:AA)(m:Int)(w1 w2 s4 s5 x9:AJ):
  Qh [some (.ref 0),w1,w2,some (.pv (tv pi)),s4,s5,some (.pv (tv d)),some (.pv (tv p)),some (.pv (.int m)),x9] [.dic true kvs]=.nx [some (.ref 0),w1,w2,some (.pv (tv pi)),s4,s5,some (.pv (tv d)),some (.pv (tv p)),some (.pv (.int m)),some (.pv (kE [pi,d,p]))] [.dic true (gJ kvs ([pi,d,p],m))]:=by
 have ek:PV.tup [tv pi,tv d,tv p]=kE [pi,d,p]:=rfl;have e1:=X6 h [pi,d,p];have e2:=G7 h hl [pi,d,p] m;unfold Qh;generalize tv p=T3,tv d=T2,tv pi=T1 at *;simp! [aE,aZ,bA,aK,aN,aO,aM,aP,aF,aL,pY,uL,kJ,ek,e1,e2]
def yV:MS:=(aI (aU 6 (aJ pG [] (aB (aJ lO [] (aB (aA 4) (aB (aA 5) aD))) aD)))
 (bJ (bB (mN dF (aB (mN dF (aB (aA 4) (aB (aA 2) aD))) (aB (mN dF (aB (aA 5) (aB (bO cB (aA 2)) aD))) aD)))) (gT 2 (cU (gN 7) (cU (gN 8) eJ))) Qh))
theorem adt{kvs:List (PV×PV)}{C:List cZ}(h:Tb kvs C)(hl:C.length<=90000){s e:AA}(a:Ar s e)(pi:AA)(n:Int)(w1 x6 x7 x8 x9:AJ):
  ∃y6 y7 y8 y9,yV [some (.ref 0),w1,some (.pv (.int n)),some (.pv (tv pi)),some (.pv (tv s)),some (.pv (tv e)),x6,x7,x8,x9] [.dic true kvs]=.nx [some (.ref 0),w1,some (.pv (.int n)),some (.pv (tv pi)),some (.pv (tv s)),some (.pv (tv e)),y6,y7,y8,y9] [.dic true (eY kvs (sd pi s e n))]:=by
 have h2:=h.add ([pi,aW (dP s e),s],n);have e1:=Ev h (by omega) pi (aW (dP s e)) s n w1 (some (.pv (.int n))) (some (.pv (tv s))) (some (.pv (tv e))) x9;have e2:=Ev h2 (by rw[av];simp;omega) pi (aW (dP s e)) e (-n) w1 (some (.pv (.int n))) (some (.pv (tv s))) (some (.pv (tv e))) (some (.pv (kE [pi,aW (dP s e),s])));have ea:=a.eq [.dic true kvs];have ew:=a.way [.dic true kvs];have et:eY kvs (sd pi s e n)=gJ (gJ kvs ([pi,aW (dP s e),s],n)) ([pi,aW (dP s e),e],-n):=rfl;rw[et];refine⟨some (.pv (tv (aW (dP s e)))),some (.pv (tv e)),some (.pv (.int (-n))),some (.pv (kE [pi,aW (dP s e),e])),?_⟩;unfold yV;generalize (dP s e).map PV.int=T5,tv pi=T4,tv (aW (dP s e))=T3,tv e=T2,tv s=T1 at *;simp! [aE,aZ,bA,aK,aN,aO,aM,aP,aF,aL,ea,ew,bJ,bB,bW,fG,fR,gT,cU,eJ,gN,e1,e2]
structure Wl(w:AB):Prop where
 ln:w.length=2\/w.length=3
 ar:∀x∈iS w,Ar x.1 x.2
 pl:∀S,nS [.pv (.tup (w.map tv))] S=.ok (.pv (tv (aW (cN w)))) S
theorem S9{w:AB}(h:w.length=2\/w.length=3)(S:aG):tK [.pv (.tup (w.map tv))] S=.ok (.pv (.lst ((iS w).map λx=>.tup [tv x.1,tv x.2]))) S:=by
 have rg:gR [.pv (.int 3)] S=.ok ([.int 0,.int 1,.int 2],[]) S:=by
  unfold gR;dsimp only;rw[if_pos (by decide)];rfl
 unfold tK aS Ud;rcases h with h |h
 .match w,h with
  |[a,b],_=>
   generalize hA:tv a=TA;generalize hB:tv b=TB;simp! [aE,aZ,bA,aK,aN,aO,aM,aP,aF,aL,iS,hA,hB]
 .match w,h with
  |[a,b,c],_=>
   generalize hA:tv a=TA;generalize hB:tv b=TB;generalize hC:tv c=TC;simp! [aE,aZ,bA,aK,aN,aO,aM,aP,aF,aL,iS,hA,hB,hC,bC,bX,cG,rg,eF,eA,gN]
def Ow:MS:=(aI (aU 3 (aJ nS [] (aB (aA 1) aD)))
 (bJ (bB (aJ tK [] (aB (aA 1) aD))) (gT 2 (cU (gN 4) (cU (gN 5) eJ))) yV))
theorem Yj{kvs0:List (PV×PV)}{C:List cZ}(pi:AA)(n:Int)(w1:AJ):∀(L:List (AA×AA))(kvs:List (PV×PV))(D:List cZ),Tb kvs (C++D)->(C++D).length+2*L.length<=90000->(∀x∈L,Ar x.1 x.2)->∀x4 x5 x6 x7 x8 x9,
  ∃y4 y5 y6 y7 y8 y9,dZ [] (gT 2 (cU (gN 4) (cU (gN 5) eJ))) yV (L.map λx=>.tup [tv x.1,tv x.2]) [some (.ref 0),w1,some (.pv (.int n)),some (.pv (tv pi)),x4,x5,x6,x7,x8,x9] [.dic true kvs]=.nx [some (.ref 0),w1,some (.pv (.int n)),some (.pv (tv pi)),y4,y5,y6,y7,y8,y9] [.dic true (eY kvs (L.flatMap λx=>sd pi x.1 x.2 n))]
 |[],kvs,D,h,hl,ha,x4,x5,x6,x7,x8,x9=>⟨x4,x5,x6,x7,x8,x9,fR⟩
 |x::L,kvs,D,h,hl,ha,x4,x5,x6,x7,x8,x9=>by
  rw[cr]at hl;obtain⟨z6,z7,z8,z9,e⟩:=adt h (by omega) (ha x bh) pi n w1 x6 x7 x8 x9;have h2:=h.adds (sd pi x.1 x.2 n);rw[ix]at h2;obtain⟨y4,y5,y6,y7,y8,y9,e2⟩:=Yj (kvs0:=kvs0) pi n w1 L _ _ h2 (by
   rw[<-ix,av];have:(sd pi x.1 x.2 n).length=2:=rfl;omega) (λy hy=>ha y (bj _ hy)) (some (.pv (tv x.1))) (some (.pv (tv x.2))) z6 z7 z8 z9
  refine⟨y4,y5,y6,y7,y8,y9,?_⟩;rw[kX]at e2;rw[aq,fG,dm];simp[gT,cU,eJ,gN,e,e2]
theorem aaS{kvs:List (PV×PV)}{C:List cZ}(h:Tb kvs C)(hl:C.length<=80000){w:AB}(hw:Wl w)(n:Int):sR [.ref 0,.pv (.tup (w.map tv)),.pv (.int n)] [.dic true kvs]=.ok (.pv .non) [.dic true (eY kvs (cW w n))]:=by
 have l3:(iS w).length<=3:=by
  rcases hw.ln with e |e
  .match w,e with
   |[a,b],_=>simp[iS]
  .match w,e with
   |[a,b,c],_=>simp[iS]
 obtain⟨y4,y5,y6,y7,y8,y9,e⟩:=Yj (kvs0:=kvs) (C:=C) (aW (cN w)) n (some (.pv (.tup (w.map tv)))) (iS w) kvs [] (by rw[ig];exact h) (by rw[ig];omega) hw.ar none none none none none none;have e1:=hw.pl [.dic true kvs];have e2:=S9 hw.ln [.dic true kvs];have hb:Pa=Ow:=rfl;unfold sR aS cW;rw[hb];unfold Ow;generalize tv (aW (cN w))=T3,(iS w).map (λx=>PV.tup [tv x.1,tv x.2])=T2,PV.tup (w.map tv)=T1 at *;simp! [aE,aZ,bA,aK,aN,aO,aM,aP,aF,aL,e1,e2,bJ,bB,bW,e]
def iN:AB->AC
 |[a,b,c]=>[[a,b],[b,c],[c,a]]
 |[a,b,c,d]=>[[b,c,d],[a,d,c],[a,b,d],[a,c,b]]
 |_=>[]
def cP(uss:AB)(n:Int):List cZ:=(iN uss).flatMap λw=>cW w n
def cH(hs:AC)(n:Int):List cZ:=hs.flatMap λuss=>cP uss n
structure Pc(uss:AB):Prop where
 ln:uss.length=3\/uss.length=4
 wl:∀w∈iN uss,Wl w
theorem R8{uss:AB}(h:uss.length=3\/uss.length=4)(S:aG):tH [.pv (px uss)] S=.ok (.pv (.lst ((iN uss).map λw=>.tup (w.map tv)))) S:=by
 unfold tH aS Jd;rcases h with h |h
 .match uss,h with
  |[a,b,c],_=>
   generalize hA:tv a=TA;generalize hB:tv b=TB;generalize hC:tv c=TC;simp! [aE,aZ,bA,aK,aN,aO,aM,aP,aF,aL,iN,hA,hB,hC,bC,bX,bB,bW,eF,eA,gN]
 .match uss,h with
  |[a,b,c,d],_=>
   generalize hA:tv a=TA;generalize hB:tv b=TB;generalize hC:tv c=TC;generalize hD:tv d=TD;simp! [aE,aZ,bA,aK,aN,aO,aM,aP,aF,aL,iN,hA,hB,hC,hD,bC,bX,bB,bW,eF,eA,gN]
theorem oA(w:AB)(n:Int):(cW w n).length<=6:=by
 unfold cW iS;split<;>simp[sd]
theorem Gs(uss:AB)(n:Int):(cP uss n).length<=24:=by
 unfold cP iN;split
 .rename_i a b c
  have h1:=oA [a,b] n;have h2:=oA [b,c] n;have h3:=oA [c,a] n;simp only[dm,ud,av,ye];omega
 .rename_i a b c d
  have h1:=oA [b,c,d] n;have h2:=oA [a,d,c] n;have h3:=oA [a,b,d] n;have h4:=oA [a,c,b] n;simp only[dm,ud,av,ye];omega
 .simp
def zC:MS:=(dA (aJ sR [] (aB (aA 2) (aB (aA 6) (aB (aA 4) aD)))))
def zJ:MS:=(bJ (bB (aJ tH [] (aB (aA 5) aD))) (gN 6) zC)
def Lh:MS:=(bJ (bB (aA 3)) (gN 5) zJ)
def Mw:MS:=(aI (aU 2 (jX true))
 (aI (bJ (bB (mN dF (aB (mN dF (aB (aA 0) (aB (mC (.int 1)) aD))) (aB (mN dF (aB (aA 1) (aB (bO cB (mC (.int 1))) aD))) aD)))) (gT 2 (cU (gN 3) (cU (gN 4) eJ))) Lh)
 (bG (bO qE (uE (aA 2))))))
theorem Fk{C:List cZ}(n:Int)(a0 a1 a3 a5:AJ):∀(L:AC)(kvs:List (PV×PV))(D:List cZ),Tb kvs (C++D)->(C++D).length+6*L.length<=80000->(∀w∈L,Wl w)->∀x6,
  ∃y6,dZ [] (gN 6) zC (L.map λw=>.tup (w.map tv)) [a0,a1,some (.ref 0),a3,some (.pv (.int n)),a5,x6] [.dic true kvs]=.nx [a0,a1,some (.ref 0),a3,some (.pv (.int n)),a5,y6] [.dic true (eY kvs (L.flatMap λw=>cW w n))]
 |[],kvs,D,h,hl,ha,x6=>⟨x6,fR⟩
 |w::L,kvs,D,h,hl,ha,x6=>by
  rw[cr]at hl;have e:=aaS h (by omega) (ha w bh) n;have h2:=h.adds (cW w n);rw[ix]at h2;obtain⟨y6,e2⟩:=Fk n a0 a1 a3 a5 L _ _ h2 (by
   rw[<-ix,av];have:=oA w n;omega) (λy hy=>ha y (bj _ hy)) (some (.pv (.tup (w.map tv))))
  refine⟨y6,?_⟩;rw[kX]at e2;rw[aq,fG,dm];generalize PV.tup (w.map tv)=T1 at *;have e3:zC [a0,a1,some (.ref 0),a3,some (.pv (.int n)),a5,some (.pv T1)] [.dic true kvs]=.nx [a0,a1,some (.ref 0),a3,some (.pv (.int n)),a5,some (.pv T1)] [.dic true (eY kvs (cW w n))]:=by
   unfold zC;simp! [aE,aZ,bA,aK,aN,aO,aM,aP,aF,aL,e]
  simp[gN,e3,e2]
theorem Ym{C:List cZ}(n:Int)(a0 a1 a3:AJ):∀(L:AC)(kvs:List (PV×PV))(D:List cZ),Tb kvs (C++D)->(C++D).length+24*L.length<=70000->(∀u∈L,Pc u)->∀x5 x6,
  ∃y5 y6,dZ [] (gN 5) zJ (L.map px) [a0,a1,some (.ref 0),a3,some (.pv (.int n)),x5,x6] [.dic true kvs]=.nx [a0,a1,some (.ref 0),a3,some (.pv (.int n)),y5,y6] [.dic true (eY kvs (cH L n))]
 |[],kvs,D,h,hl,ha,x5,x6=>⟨x5,x6,fR⟩
 |u::L,kvs,D,h,hl,ha,x5,x6=>by
  rw[cr]at hl;have hp:=ha u bh;have lw:(iN u).length<=4:=by
   rcases hp.ln with e |e
   .match u,e with
    |[a,b,c],_=>simp[iN]
   .match u,e with
    |[a,b,c,d],_=>simp[iN]
  obtain⟨z6,e⟩:=Fk (C:=C) n a0 a1 a3 (some (.pv (px u))) (iN u) kvs D h (by omega) hp.wl x6;have e1:=R8 hp.ln [.dic true kvs];have h2:=h.adds (cP u n);rw[ix]at h2;obtain⟨y5,y6,e2⟩:=Ym n a0 a1 a3 L _ _ h2 (by
   rw[<-ix,av];have:=Gs u n;omega) (λy hy=>ha y (bj _ hy)) (some (.pv (px u))) z6
  refine⟨y5,y6,?_⟩;rw[kX]at e2;have ec:cH (u::L) n=cP u n++cH L n:=dm;rw[aq,fG,ec];have e0:(iN u).flatMap (λw=>cW w n)=cP u n:=rfl;rw[e0]at e;generalize px u=T1,(iN u).map (λw=>PV.tup (w.map tv))=T2 at *;have e3:zJ [a0,a1,some (.ref 0),a3,some (.pv (.int n)),some (.pv T1),x6] [.dic true kvs]=.nx [a0,a1,some (.ref 0),a3,some (.pv (.int n)),some (.pv T1),z6] [.dic true (eY kvs (cP u n))]:=by
   unfold zJ;simp! [aE,aZ,bA,aK,aN,aO,aM,aP,aF,aL,bJ,bB,bW,e1,e]
  simp[gN,e3,e2]
theorem Yu{C:List cZ}{n:Int}{a0 a1 x5 x6:AJ}{A:PV}{hs:AC}{kvs:List (PV×PV)}(h:Tb kvs C)(hl:C.length+24*hs.length<=70000)(ha:∀u∈hs,Pc u)(hA:Sv A (hs.map px)):
  ∃y5 y6,Lh [a0,a1,some (.ref 0),some (.pv A),some (.pv (.int n)),x5,x6] [.dic true kvs]=.nx [a0,a1,some (.ref 0),some (.pv A),some (.pv (.int n)),y5,y6] [.dic true (eY kvs (cH hs n))]:=by
 obtain⟨y5,y6,e⟩:=Ym (C:=C) n a0 a1 (some (.pv A)) hs kvs [] (by rw[ig];exact h) (by rw[ig];exact hl) ha x5 x6;refine⟨y5,y6,?_⟩;unfold Lh;rcases hA with rfl |rfl<;>simp! [aE,aZ,bA,aK,aN,aO,aM,aP,aF,aL,bJ,bB,bW,e]
theorem aaf{A B:PV}{hs gs:AC}(hA:Sv A (hs.map px))(hB:Sv B (gs.map px))(h:∀u∈hs,Pc u)(g:∀u∈gs,Pc u)(lh:hs.length<=1000)(lg:gs.length<=1000):
  ∃b,tR [.pv A,.pv B] []=.ok (.pv (.bl b)) []/\(b=true↔∀k,dB (cH hs 1++cH gs (-1)) k=0):=by
 have h0:=Tb.nil;have cl:∀(hs:AC)(n:Int),(cH hs n).length<=24*hs.length:=λhs n=>by
  induction hs with
  |nil=>simp[cH]
  |cons u hs ih=>
   have e:cH (u::hs) n=cP u n++cH hs n:=dm;rw[e,av,cr];have:=Gs u n;omega
 obtain⟨y5,y6,e1⟩:=Yu (n:=1) (a0:=some (.pv A)) (a1:=some (.pv B)) (x5:=none) (x6:=none) h0 (by simp;omega) h hA;have h1:=h0.adds (cH hs 1);rw[eh]at h1;have l1:=cl hs 1;obtain⟨z5,z6,e2⟩:=Yu (n:=-1) (a0:=some (.pv A)) (a1:=some (.pv B)) (x5:=y5) (x6:=y6) h1 (by omega) g hB;have h2:=h1.adds (cH gs (-1));obtain⟨b,e3,eb⟩:=acC h2;refine⟨!b,?_,by rw[<-eb];cases b<;>simp⟩;have hb:Pe=Mw:=rfl;unfold tR aS;rw[hb];unfold Mw;simp! [aE,aZ,bA,aK,aN,aO,aM,aP,aF,aL,jX,bJ,bB,bW,fG,fR,gT,cU,eJ,gN,e1,e2,uE,e3]
theorem ar2{x0 y0 w0 x1 y1 w1:Int}(p:P2 x0 y0 w0)(q:P2 x1 y1 w1)(nz:¬(x1*w0-x0*w1=0/\y1*w0-y0*w1=0)):Ar [x0,y0,w0] [x1,y1,w1]:=by
 refine⟨λS=>xH S p q,λn hn=>?_,?_⟩
 .have hn:n=x1*w0-x0*w1\/n=y1*w0-y0*w1:=by simpa[fW,fX]using hn
  rcases hn with rfl |rfl
  .exact(sb p.bx p.bw q.bx q.bw).mono (by decide)
  .exact(sb p.by_ p.bw q.by_ q.bw).mono (by decide)
 .by_cases h:x1*w0-x0*w1=0
  .exact⟨_,by simp[fW,fX],λh2=>nz ⟨h,h2⟩⟩
  .exact⟨_,by simp[fW,fX],h⟩
theorem Zg{x0 y0 z0 w0 x1 y1 z1 w1:Int}(p:P3 x0 y0 z0 w0)(q:P3 x1 y1 z1 w1)(nz:¬(x1*w0-x0*w1=0/\y1*w0-y0*w1=0/\z1*w0-z0*w1=0)):Ar [x0,y0,z0,w0] [x1,y1,z1,w1]:=by
 refine⟨λS=>rJ S p q,λn hn=>?_,?_⟩
 .have hn:n=x1*w0-x0*w1\/n=y1*w0-y0*w1\/n=z1*w0-z0*w1:=by simpa[fW,fX]using hn
  rcases hn with rfl |rfl |rfl
  .exact(sb p.bx p.bw q.bx q.bw).mono (by decide)
  .exact(sb p.by_ p.bw q.by_ q.bw).mono (by decide)
  .exact(sb p.bz p.bw q.bz q.bw).mono (by decide)
 .by_cases h:x1*w0-x0*w1=0
  .by_cases h1:y1*w0-y0*w1=0
   .exact⟨_,by simp[fW,fX],λh2=>nz ⟨h,h1,h2⟩⟩
   .exact⟨y1*w0-y0*w1,by simp[fW,fX],h1⟩
  .exact⟨x1*w0-x0*w1,by simp[fW,fX],h⟩
theorem Kh{x0 y0 w0 x1 y1 w1:Int}(p:P2 x0 y0 w0)(q:P2 x1 y1 w1)(nz:¬(x1*w0-x0*w1=0/\y1*w0-y0*w1=0)):Wl [[x0,y0,w0],[x1,y1,w1]]:=by
 have a:=ar2 p q nz;refine⟨.inl rfl,λx hx=>?_,λS=>?_⟩
 .have hx:x=([x0,y0,w0],[x1,y1,w1]):=by simpa[iS]using hx
  subst hx;exact a
 .have e1:=xH S p q
  have e2:=Jp (x1*w0-x0*w1) (y1*w0-y0*w1) S;have e3:=Nd (cN [[x0,y0,w0],[x1,y1,w1]]) S (λn hn=>by
   have hn:n=-(y1*w0-y0*w1)\/n=x1*w0-x0*w1:=by simpa[lG,lH,fW,fX]using hn
   rcases hn with rfl |rfl
   .exact((sb p.by_ p.bw q.by_ q.bw).neg).mono (by decide)
   .exact(sb p.bx p.bw q.bx q.bw).mono (by decide)) (by
   by_cases h:x1*w0-x0*w1=0
   .exact⟨-(y1*w0-y0*w1),by simp[lG,lH,fW,fX],λh2=>nz ⟨h,by omega⟩⟩
   .exact⟨x1*w0-x0*w1,by simp[lG,lH,fW,fX],h⟩)
  have e4:(cN [[x0,y0,w0],[x1,y1,w1]]).map PV.int=[.int (-(y1*w0-y0*w1)),.int (x1*w0-x0*w1)]:=rfl;rw[e4]at e3;have i0:aE (.tup [v2 x0 y0 w0,v2 x1 y1 w1]) (.int 0)=some (v2 x0 y0 w0):=fA (j:=0) rfl;have sl:=rN (v2 x0 y0 w0) [v2 x1 y1 w1];show nS [.pv (.tup [v2 x0 y0 w0,v2 x1 y1 w1])] S=_;generalize v2 x1 y1 w1=B,v2 x0 y0 w0=A,y1*w0-y0*w1=v,x1*w0-x0*w1=u,tv (aW (cN [[x0,y0,w0],[x1,y1,w1]]))=R at *;unfold nS aS vB;simp! [bR,aN,aO,aM,aP,aF,aL,bC,bX,bB,dG,dM,dD,fT,sl,bW,eF,eA,gN,i0,e1,e2,e3]
theorem zF{x0 y0 z0 w0 x1 y1 z1 w1 x2 y2 z2 w2:Int}(p:P3 x0 y0 z0 w0)(q:P3 x1 y1 z1 w1)(r:P3 x2 y2 z2 w2)(nz:∃n∈cN [[x0,y0,z0,w0],[x1,y1,z1,w1],[x2,y2,z2,w2]],n≠0):Wl [[x0,y0,z0,w0],[x1,y1,z1,w1],[x2,y2,z2,w2]]:=by
 have hn:cN [[x0,y0,z0,w0],[x1,y1,z1,w1],[x2,y2,z2,w2]]=[(y1*w0-y0*w1)*(z2*w0-z0*w2)-(z1*w0-z0*w1)*(y2*w0-y0*w2),(z1*w0-z0*w1)*(x2*w0-x0*w2)-(x1*w0-x0*w1)*(z2*w0-z0*w2),(x1*w0-x0*w1)*(y2*w0-y0*w2)-(y1*w0-y0*w1)*(x2*w0-x0*w2)]:=rfl;rw[hn]at nz;have q0:=p.pos;have q1:=q.pos;have q2:=r.pos;have n01:¬(x1*w0-x0*w1=0/\y1*w0-y0*w1=0/\z1*w0-z0*w1=0):=λ⟨h1,h2,h3⟩=>by
  obtain⟨n,hm,h⟩:=nz;rw[h1,h2,h3]at hm;simp at hm;exact h hm
 have n20:¬(x0*w2-x2*w0=0/\y0*w2-y2*w0=0/\z0*w2-z2*w0=0):=λ⟨h1,h2,h3⟩=>by
  obtain⟨n,hm,h⟩:=nz;rw[show x2*w0-x0*w2=0 by omega,show y2*w0-y0*w2=0 by omega,show z2*w0-z0*w2=0 by omega]at hm;simp at hm;exact h hm
 have n12:¬(x2*w1-x1*w2=0/\y2*w1-y1*w2=0/\z2*w1-z1*w2=0):=λ⟨h1,h2,h3⟩=>by
  obtain⟨n,hm,h⟩:=nz;have g:w1*n=0:=by
   simp only[cq,fz,or_false]at hm;rcases hm with rfl |rfl |rfl<;>grind
  rcases ue.mp g with g |g
  .omega
  .exact h g
 refine⟨.inr rfl,λx hx=>?_,λS=>?_⟩
 .have hx:x=([x2,y2,z2,w2],[x0,y0,z0,w0])\/x=([x0,y0,z0,w0],[x1,y1,z1,w1])\/x=([x1,y1,z1,w1],[x2,y2,z2,w2]):=by simpa[iS]using hx
  rcases hx with rfl |rfl |rfl
  .exact Zg r p n20
  .exact Zg p q n01
  .exact Zg q r n12
 .have e1:=rJ S p q
  have e2:=rJ S p r;have b1:=sb p.bx p.bw q.bx q.bw;have b2:=sb p.by_ p.bw q.by_ q.bw;have b3:=sb p.bz p.bw q.bz q.bw;have b4:=sb p.bx p.bw r.bx r.bw;have b5:=sb p.by_ p.bw r.by_ r.bw;have b6:=sb p.bz p.bw r.bz r.bw;have m:(2001:Nat)<=10000:=by decide
  have e3:=Lp S (b1.mono m) (b2.mono m) (b3.mono m) (b4.mono m) (b5.mono m) (b6.mono m);have e4:=Nd (cN [[x0,y0,z0,w0],[x1,y1,z1,w1],[x2,y2,z2,w2]]) S (λn hm=>by
   rw[hn]at hm;simp only[cq,fz,or_false]at hm;rcases hm with rfl |rfl |rfl
   .exact(cb b2 b6 b3 b5).mono (by decide)
   .exact(cb b3 b4 b1 b6).mono (by decide)
   .exact(cb b1 b5 b2 b4).mono (by decide)) (by rw[hn];exact nz)
  generalize tv (aW (cN [[x0,y0,z0,w0],[x1,y1,z1,w1],[x2,y2,z2,w2]]))=R at *;rw[hn]at e4;have i0:aE (.tup [v3 x0 y0 z0 w0,v3 x1 y1 z1 w1,v3 x2 y2 z2 w2]) (.int 0)=some (v3 x0 y0 z0 w0):=fA (j:=0) rfl;have sl:=rN (v3 x0 y0 z0 w0) [v3 x1 y1 z1 w1,v3 x2 y2 z2 w2];show nS [.pv (.tup [v3 x0 y0 z0 w0,v3 x1 y1 z1 w1,v3 x2 y2 z2 w2])] S=_;clear nz hn n01 n12 n20 b1 b2 b3 b4 b5 b6;generalize L2.Pp.PV.tup [.int x2,.int y2,.int z2,.int w2]=T,L2.Pp.PV.tup [.int x1,.int y1,.int z1,.int w1]=B,L2.Pp.PV.tup [.int x0,.int y0,.int z0,.int w0]=A,z2*w0-z0*w2=v3,y2*w0-y0*w2=v2,x2*w0-x0*w2=v1,z1*w0-z0*w1=u3,y1*w0-y0*w1=u2,x1*w0-x0*w1=u1 at *;generalize u1*v2-u2*v1=k3,u3*v1-u1*v3=k2,u2*v3-u3*v2=k1 at *;simp only[aq,br]at e4;unfold nS aS vB;simp! [bR,aN,aO,aM,aP,aF,aL,bC,bX,bB,dG,dM,dD,fT,sl,bW,eF,eA,gN,i0,e1,e2,e3,e4]
theorem xP{x0 y0 z0 w0 x1 y1 z1 w1 x2 y2 z2 w2 x3 y3 z3 w3:Int}(p0:0<w0)(d:D3 x0 y0 z0 w0 x1 y1 z1 w1 x2 y2 z2 w2 x3 y3 z3 w3≠0):∃n∈cN [[x0,y0,z0,w0],[x1,y1,z1,w1],[x2,y2,z2,w2]],n≠0:=by
 apply u5;intro h;have hz:∀n∈cN [[x0,y0,z0,w0],[x1,y1,z1,w1],[x2,y2,z2,w2]],n=0:=λn hn=>u5 λc=>h ⟨n,hn,c⟩;have h1:(y1*w0-y0*w1)*(z2*w0-z0*w2)-(z1*w0-z0*w1)*(y2*w0-y0*w2)=0:=hz _ (by simp[lG,lH,nK,fW,fX]);have h2:(z1*w0-z0*w1)*(x2*w0-x0*w2)-(x1*w0-x0*w1)*(z2*w0-z0*w2)=0:=hz _ (by simp[lG,lH,nK,fW,fX]);have h3:(x1*w0-x0*w1)*(y2*w0-y0*w2)-(y1*w0-y0*w1)*(x2*w0-x0*w2)=0:=hz _ (by simp[lG,lH,nK,fW,fX]);have e:w0*w0*D3 x0 y0 z0 w0 x1 y1 z1 w1 x2 y2 z2 w2 x3 y3 z3 w3=((y1*w0-y0*w1)*(z2*w0-z0*w2)-(z1*w0-z0*w1)*(y2*w0-y0*w2))*(x3*w0-x0*w3)+((z1*w0-z0*w1)*(x2*w0-x0*w2)-(x1*w0-x0*w1)*(z2*w0-z0*w2))*(y3*w0-y0*w3)+((x1*w0-x0*w1)*(y2*w0-y0*w2)-(y1*w0-y0*w1)*(x2*w0-x0*w2))*(z3*w0-z0*w3):=by
  unfold D3;grind
 rw[h1,h2,h3,gw,gw,gw]at e;rcases ue.mp e with g |g
 .rcases ue.mp g with g |g<;>omega
 .exact d g
theorem afe(x0 y0 z0 w0 x1 y1 z1 w1 x2 y2 z2 w2 x3 y3 z3 w3:Int):D3 x1 y1 z1 w1 x2 y2 z2 w2 x3 y3 z3 w3 x0 y0 z0 w0=-D3 x0 y0 z0 w0 x1 y1 z1 w1 x2 y2 z2 w2 x3 y3 z3 w3:=by
 unfold D3;grind
theorem aeZ(x0 y0 z0 w0 x1 y1 z1 w1 x2 y2 z2 w2 x3 y3 z3 w3:Int):D3 x0 y0 z0 w0 x3 y3 z3 w3 x2 y2 z2 w2 x1 y1 z1 w1=-D3 x0 y0 z0 w0 x1 y1 z1 w1 x2 y2 z2 w2 x3 y3 z3 w3:=by
 unfold D3;grind
theorem aff(x0 y0 z0 w0 x1 y1 z1 w1 x2 y2 z2 w2 x3 y3 z3 w3:Int):D3 x0 y0 z0 w0 x1 y1 z1 w1 x3 y3 z3 w3 x2 y2 z2 w2=-D3 x0 y0 z0 w0 x1 y1 z1 w1 x2 y2 z2 w2 x3 y3 z3 w3:=by
 unfold D3;grind
theorem ae7(x0 y0 z0 w0 x1 y1 z1 w1 x2 y2 z2 w2 x3 y3 z3 w3:Int):D3 x0 y0 z0 w0 x2 y2 z2 w2 x1 y1 z1 w1 x3 y3 z3 w3=-D3 x0 y0 z0 w0 x1 y1 z1 w1 x2 y2 z2 w2 x3 y3 z3 w3:=by
 unfold D3;grind
theorem aei{n k:Nat}(hn:n=2\/n=3)(hk:k<=1000){uss:AB}(hl:uss.length=n+1)(hg:∀us∈uss,Gu n k us)(nz:dU uss≠0):Pc uss:=by
 rcases hn with rfl |rfl
 .match uss,hl with
  |[a,b,c],_=>
   obtain⟨x0,y0,w0,rfl,p0⟩:=(hg a (by simp)).two hk;obtain⟨x1,y1,w1,rfl,p1⟩:=(hg b (by simp)).two hk;obtain⟨x2,y2,w2,rfl,p2⟩:=(hg c (by simp)).two hk;have nz:D2 x0 y0 w0 x1 y1 w1 x2 y2 w2≠0:=nz;have q0:=p0.pos;have q1:=p1.pos;have q2:=p2.pos;refine⟨.inl rfl,λw hw=>?_⟩;have hw:w=[[x0,y0,w0],[x1,y1,w1]]\/w=[[x1,y1,w1],[x2,y2,w2]]\/w=[[x2,y2,w2],[x0,y0,w0]]:=by simpa[iN]using hw
   have key:∀{u D:Int},0<u->u*D=0->D=0:=λhu h=>by
    rcases ue.mp h with g |g
    .omega
    .exact g
   rcases hw with rfl |rfl |rfl
   .refine Kh p0 p1 λ⟨h1,h2⟩=>nz (key q0 ?_)
    have e:w0*D2 x0 y0 w0 x1 y1 w1 x2 y2 w2=(x1*w0-x0*w1)*(y2*w0-y0*w2)-(y1*w0-y0*w1)*(x2*w0-x0*w2):=by unfold D2;grind
    rw[e,h1,h2,gw,gw,yf]
   .refine Kh p1 p2 λ⟨h1,h2⟩=>nz (key q1 ?_)
    have e:w1*D2 x0 y0 w0 x1 y1 w1 x2 y2 w2=(x2*w1-x1*w2)*(y0*w1-y1*w0)-(y2*w1-y1*w2)*(x0*w1-x1*w0):=by unfold D2;grind
    rw[e,h1,h2,gw,gw,yf]
   .refine Kh p2 p0 λ⟨h1,h2⟩=>nz (key q2 ?_)
    have e:w2*D2 x0 y0 w0 x1 y1 w1 x2 y2 w2=(x0*w2-x2*w0)*(y1*w2-y2*w1)-(y0*w2-y2*w0)*(x1*w2-x2*w1):=by unfold D2;grind
    rw[e,h1,h2,gw,gw,yf]
 .match uss,hl with
  |[a,b,c,d],_=>
   obtain⟨x0,y0,z0,w0,rfl,p0⟩:=(hg a (by simp)).three hk;obtain⟨x1,y1,z1,w1,rfl,p1⟩:=(hg b (by simp)).three hk;obtain⟨x2,y2,z2,w2,rfl,p2⟩:=(hg c (by simp)).three hk;obtain⟨x3,y3,z3,w3,rfl,p3⟩:=(hg d (by simp)).three hk;have nz:D3 x0 y0 z0 w0 x1 y1 z1 w1 x2 y2 z2 w2 x3 y3 z3 w3≠0:=nz;refine⟨.inr rfl,λw hw=>?_⟩;have hw:w=[[x1,y1,z1,w1],[x2,y2,z2,w2],[x3,y3,z3,w3]]\/w=[[x0,y0,z0,w0],[x3,y3,z3,w3],[x2,y2,z2,w2]]\/w=[[x0,y0,z0,w0],[x1,y1,z1,w1],[x3,y3,z3,w3]]\/w=[[x0,y0,z0,w0],[x2,y2,z2,w2],[x1,y1,z1,w1]]:=by simpa[iN]using hw
   rcases hw with rfl |rfl |rfl |rfl
   .exact zF p1 p2 p3 (xP p1.pos (x3:=x0) (y3:=y0) (z3:=z0) (w3:=w0) (by rw[afe];omega))
   .exact zF p0 p3 p2 (xP p0.pos (x3:=x1) (y3:=y1) (z3:=z1) (w3:=w1) (by rw[aeZ];omega))
   .exact zF p0 p1 p3 (xP p0.pos (x3:=x2) (y3:=y2) (z3:=z2) (w3:=w2) (by rw[aff];omega))
   .exact zF p0 p2 p1 (xP p0.pos (x3:=x3) (y3:=y3) (z3:=z3) (w3:=w3) (by rw[ae7];omega))
theorem ad7{n:Nat}(hn:n=2){S:aG}{L:AB}(h:S[2]?=some (.lst (L.map lv)))(hl:L.length=n+1)(hb:∀xs∈L,xs.length=n/\∀x∈xs,0<=x/\x<=2):qP [.ref 2] S=.ok (.pv (.int (dU (L.map (·++[1]))))) S:=by
 subst hn
 .match L,hl,hb,h with
  |[A,B,C],_,hb,h=>
   have ga:=hb A (by simp);have gb:=hb B (by simp);have gc:=hb C (by simp);clear hb
   match A,ga.1,B,gb.1,C,gc.1 with
   |[a,b],_,[c,d],_,[e,f],_=>exact acw h (ga.2 a (by simp)) (ga.2 b (by simp)) (gb.2 c (by simp)) (gb.2 d (by simp)) (gc.2 e (by simp)) (gc.2 f (by simp))
theorem ab9{n:Nat}(hn:n=2){W:Int}(W0:0<=W)(W1:W<=2)(ns:AA)(hl:AH):∃(xss:AB)(ns':AA),frz 2 (lE (lY [.ref 0,.pv (.int (n:Int)),.pv (.int W)] [.lst (li ns),.lst hl]))=.ok (.pv (dQ xss)) [.lst (li ns'),.lst hl]/\Rw n xss:=by
 obtain⟨L,n1,y4,e1,l1,b1⟩:=Eo (n:=n) (by omega) W0 W1 hl (dH 0 (n+1)) [] ns none (by unfold dH;simp;omega);have hi:(dH 0 (n+1)).length=n+1:=by unfold dH;simp
 rw[hi]at l1;simp only[eh,br]at e1;have et:=ad7 (S:=[.lst (li n1),.lst hl,.lst (L.map lv)]) hn rfl l1 b1;have rg:=qI [.lst (li ns),.lst hl,.lst []] (n:=n+1) (by omega);have cn:((n+1:Nat):Int)=(n:Int)+1:=by omega
 rw[cn]at rg;have ed:=aae (.inl hn) [.lst (li n1),.lst hl,.lst (L.map lv)] (some (.ref 0)) (some (.pv (.int W))) (some (.ref 2)) y4;have hb:Af=(aI (aU 3 (fZ aD))
  (aI (bJ (cG (aB (aC aF (aA 1) (mC (.int 1))) aD)) (gN 4) rB)
  (aI (cS (bK (aC jQ (aJ qP [] (aB (aA 3) aD)) (mC (.int 0)))) (bG (aA 3)) dE)
  (bG (bC ["_law_k"] [(1,"_law_dims")] (nY (aB (bO cB (mC (.int 1))) (aB (aA 1) aD))) (gN 0) (bC ["_law_m"] [(0,"_law_k")] (cG (aB (aA 1) aD)) (gN 0) (mR jL (aB (aC cY (aA 0) (aA 1)) aD)))))))):=rfl
 generalize (bC ["_law_k"] [(1,"_law_dims")] (nY (aB (bO cB (mC (.int 1))) (aB (aA 1) aD))) (gN 0) (bC ["_law_m"] [(0,"_law_k")] (cG (aB (aA 1) aD)) (gN 0) (mR jL (aB (aC cY (aA 0) (aA 1)) aD))))=CD at ed hb;generalize rB=RB at e1 hb
 by_cases hd:dU (L.map (·++[1]))=0
 .refine⟨sJ n,n1,?_,acI (.inl hn)⟩
  rw[hd]at et;unfold lY aS;rw[hb];generalize (n:Int)=N,dH 0 (n+1)=IP,li n1=NL1,li ns=NL,L.map lv=LL,dQ (sJ n)=RV at *;simp! [aE,aZ,bA,aK,aN,aO,aM,aP,aF,aL,fZ,nE,bJ,cG,rg,e1,et,ed]
 .refine⟨L,n1,?_,⟨l1,λxs hx=>(b1 xs hx).1,λxs hx x hh=>by have:=(b1 xs hx).2 x hh;omega,hd⟩⟩
  unfold lY aS;rw[hb];have hv:dQ L=.lst (L.map lv):=rfl;rw[hv];generalize (n:Int)=N,dH 0 (n+1)=IP,li n1=NL1,li ns=NL,L.map lv=LL,dU (L.map (·++[1]))=d at *;simp! [aE,aZ,bA,aK,aN,aO,aM,aP,aF,aL,fZ,nE,bJ,cG,rg,e1,et,hd]
theorem adN{n:Nat}(hn:n=2)(ns:AA)(hs:AC)(hw:∀xss∈hs,Rw n xss)(hl:hs.length<=99)(x2 x4 x5:AJ):∃(xss:AB)(ns':AA)(y5:AJ),hB [some (.ref 0),some (.pv (.int (n:Int))),x2,some (.ref 1),x4,x5] [.lst (li ns),.lst (hs.map dQ)]=.nx [some (.ref 0),some (.pv (.int (n:Int))),x2,some (.ref 1),x4,y5] [.lst (li ns'),.lst ((hs++[xss]).map dQ)]/\Rw n xss:=by
 have hr:fF [.lst (li ns),.lst (hs.map dQ)] 0 ns:=rfl;obtain⟨t,n1,e1,t0,t1,_⟩:=gX (m:=6) hr (by decide) (jB (by decide) (by decide));simp only[fg]at e1;have e1:cC [.ref 0,.pv (.int 6)] [.lst (li ns),.lst (hs.map dQ)]=.ok (.pv (.int t)) [.lst (li n1),.lst (hs.map dQ)]:=e1;have lz:(hs.map dQ).length<16777216:=by rw[am];omega
 have lz':hs.length<16777216:=by omega
 have el:∀xss,(hs++[xss]).map dQ=hs.map dQ++[dQ xss]:=λxss=>by simp
 by_cases c1:t=5/\0<hs.length
 .obtain⟨v,hv,e2⟩:=A7 (hs.map dQ) .non (by
   intro z;have:=congrArg vh z;simp at this;rw[this]at c1;simp at c1)
  obtain⟨xss,hx,rfl⟩:=gq.mp hv;refine⟨xss,n1,some (.pv (.int t)),?_,hw xss hx⟩;rw[el];obtain⟨c1,c2⟩:=c1;subst c1;have c3:hs.map dQ≠[]:=λz=>by
   have:=congrArg vh z;simp at this;rw[this]at c2;simp at c2
  generalize hs.map dQ=HL,dQ xss=RV at *;unfold hB;simp! [-frz,-lE,bR,aN,aO,aM,aP,aF,aL,e1,eO,fN,kL,e2,lz,c3]
 .have c1':t=5->hs.map dQ=[]:=λz=>by
   have:hs.length=0:=by
    by_cases y:0<hs.length
    .exact absurd ⟨z,y⟩ c1
    .omega
   rw[sx.mp this];rfl
  have cA:∀(S:aG)(ρ:bV),ρ[5]?=some (some (.pv (.int t)))->ρ[3]?=some (some (.ref 1))->S[1]?=some (.lst (hs.map dQ))->jY (bK (aC cY (aA 5) (mC (.int 5)))) (bK (aC fP (mR eC (aB (aA 3) aD)) (mC (.int 0)))) ρ S=.ok false S:=λS ρ h5 h3 hS=>by
   cases z:t==5 with
   |false=>simp! [-frz,-lE,bR,aN,aO,aM,aP,aF,aL,h5,z]
   |true=>
    rw[c1' (by simpa using z)]at hS;simp! [-frz,-lE,bR,aN,aO,aM,aP,aF,aL,h5,h3,hS,z]
  generalize hA:jY (bK (aC cY (aA 5) (mC (.int 5)))) (bK (aC fP (mR eC (aB (aA 3) aD)) (mC (.int 0))))=MA at cA;have hBe:hB=(aI (aU 5 (aJ cC [] (aB (aA 0) (aB (mC (.int 6)) aD))))
   (cS MA (dA (eO (aA 3) (aB (aC aE (aA 3) (bO cB (mC (.int 1)))) aD))) (cS (bK (aC cY (aA 1) (mC (.int 2)))) (dA (eO (aA 3) (aB (aJ lY [] (aB (aA 0) (aB (mC (.int 2)) (aB (aC aF (mC (.int 1)) (mR jL (aB (aC cY (aA 5) (mC (.int 4))) aD))) aD)))) aD))) (cS (bK (aC fP (aA 5) (mC (.int 3)))) (dA (eO (aA 3) (aB (aJ lY [] (aB (aA 0) (aB (mC (.int 3)) (aB (mC (.int 1)) aD)))) aD))) (dA (eO (aA 3) (aB (aJ wO [] (aB (aA 0) aD)) aD))))))):=by rw[<-hA]
  rw[hBe];subst hn
  .obtain⟨xss,n2,e2,hw2⟩:=ab9 (n:=2) rfl (W:=1+(if t=4 then 1 else 0)) (by split<;>decide) (by split<;>decide) n1 (hs.map dQ)
   refine⟨xss,n2,some (.pv (.int t)),?_,hw2⟩;rw[el];have c2:((2:Nat):Int)=2:=rfl;rw[c2]at e2⊢;have cA':=cA [.lst (li n1),.lst (hs.map dQ)] [some (.ref 0),some (.pv (.int 2)),x2,some (.ref 1),x4,some (.pv (.int t))] rfl rfl rfl;generalize hs.map dQ=HL,dQ xss=RV at*
   by_cases z:t=4
   .subst z
    simp! [-frz,-lE,bR,aN,aO,aM,aP,aF,aL,e1,cA',eO,fN,kL,jL,Cw,Bw,lz]at e2⊢;simp[e2,lz,bQ.bind,cV.of]
   .rw[if_neg z]at e2
    have z':(t==4)=false:=by simpa using z
    simp! [-frz,-lE,bR,aN,aO,aM,aP,aF,aL,e1,cA',eO,fN,kL,jL,Cw,Bw,lz,z']at e2⊢;simp[e2,lz,bQ.bind,cV.of]
theorem Iu{n:Nat}(hn:n=2)(x2:AJ):∀(is:AH)(hs:AC)(ns:AA)(x4 x5:AJ),(∀xss∈hs,Rw n xss)->hs.length+is.length<=99->∃(hs':AC)(ns':AA)(y4 y5:AJ),
  dZ [] (gN 4) hB is [some (.ref 0),some (.pv (.int (n:Int))),x2,some (.ref 1),x4,x5] [.lst (li ns),.lst (hs.map dQ)]=.nx [some (.ref 0),some (.pv (.int (n:Int))),x2,some (.ref 1),y4,y5] [.lst (li ns'),.lst (hs'.map dQ)]/\hs'.length=hs.length+is.length/\∀xss∈hs',Rw n xss
 |[],hs,ns,x4,x5,hw,_=>⟨hs,ns,x4,x5,fR,rfl,hw⟩
 |i::is,hs,ns,x4,x5,hw,h9=>by
  have h9:hs.length+(is.length+1)<=99:=h9;obtain⟨xss,n1,y5,e1,r1⟩:=adN hn ns hs hw (by omega) x2 (some (.pv i)) x5;obtain⟨hs',n2,z4,z5,e2,l2,r2⟩:=Iu hn x2 is (hs++[xss]) n1 (some (.pv i)) y5 (λy hy=>by
   rcases ck.mp hy with z |z
   .exact hw y z
   .have:y=xss:=by simpa using z
    rw[this];exact r1) (by rw[av,jz];omega)
  refine⟨hs',n2,z4,z5,?_,by rw[l2,av,jz];show _=hs.length+(is.length+1);omega,r2⟩;rw[fG];simp only[gN,jv,fg];rw[e1];exact e2
theorem Ey{n M:Nat}(hn:n=2)(hM:M<=8)(ns:AA):∃(hs:AC)(ns':AA),sP [.ref 0,.pv (.int (n:Int)),.pv (.int (M:Int))] [.lst (li ns)]=.ok (.ref 1) [.lst (li ns'),.lst (hs.map dQ)]/\hs.length<=M/\∀xss∈hs,Rw n xss:=by
 have hr:fF [.lst (li ns),.lst []] 0 ns:=rfl;obtain⟨t,n1,e1,t0,t1,_⟩:=gX (m:=(M:Int)+1) hr (by omega) (jB (by omega) (by omega));simp only[fg]at e1;have e1:cC [.ref 0,.pv (.int ((M:Int)+1))] [.lst (li ns),.lst []]=.ok (.pv (.int t)) [.lst (li n1),.lst []]:=e1;obtain⟨m,rfl⟩:∃m:Nat,t=(m:Int):=⟨t.toNat,by omega⟩;have rg:=qI [.lst (li n1),.lst []] (n:=m) (by omega);have hi:(dH 0 m).length=m:=by unfold dH;simp
 obtain⟨hs,n2,y4,y5,e2,l2,r2⟩:=Iu hn (some (.pv (.int (M:Int)))) (dH 0 m) [] n1 none none (λ_ h=>absurd h fz) (by rw[hi];show 0+m<=99;omega);rw[hi]at l2;refine⟨hs,n2,?_,by rw[l2];show 0+m<=M;omega,r2⟩;simp only[br]at e2;have hb:Aa=(aI (aU 3 (fZ aD))
  (aI (bJ (cG (aB (aJ cC [] (aB (aA 0) (aB (aC aF (aA 2) (mC (.int 1))) aD))) aD)) (gN 4) hB)
  (bG (aA 3)))):=rfl
 unfold sP aS;rw[hb];generalize (M:Int)=MM,(n:Int)=N,(m:Int)=mm,dH 0 m=IP,hs.map dQ=HL,hB=HB at *;simp! [aE,aZ,bA,aK,aN,aO,aM,aP,aF,aL,fZ,nE,bJ,cG,e1,rg,e2]
theorem Ku{k:Int}(h:k≠0):sg k*sg k=1:=by
 unfold sg;(repeat' split)<;>omega
theorem Yn{k:Int}(hk:0<k)(l:AA):aW (l.map (k*·))=aW l:=by
 by_cases z:gl l 0=0
 .have e:l.map (k*·)=l:=by
   have h:=Mc z;clear z
   induction l with
   |nil=>rfl
   |cons n l ih=>rw[aq,ih λm hm=>h m (bj _ hm),h n (bh ..),oy]
  rw[e]
 .have hf:∀l:AA,dX (l.map (k*·))=dX l:=λl=>by
   induction l with
   |nil=>rfl
   |cons n l ih=>
    rw[aq];unfold dX
    by_cases h:n=0
    .subst h
     simpa using ih
    .rw[if_neg h,if_neg (cf (by omega) h),mZ hk]
  unfold aW;rw[Ab hk l z,hf]
theorem Zm{k:Int}(hk:k≠0)(l:AA):aW (l.map (k*·))=aW l:=by
 by_cases h:0<k
 .exact Yn h l
 .have e:l.map (k*·)=(l.map ((-k)*·)).map (- ·):=by
   rw[dh];refine dz λn _=>?_;show k*n=-(-k*n);rw[my,Int.neg_neg]
  rw[e,Xb,Yn (by omega) l]
theorem nV{u v:AA}{a b:Int}(ha:a≠0)(hb:b≠0)(h:u.map (a*·)=v.map (b*·)):aW u=aW v:=by
 rw[<-Zm ha,h,Zm hb]
theorem G8(ns:AA):∃g:Int,ns=(aW ns).map (g*·):=by
 by_cases z:gl ns 0=0
 .have h:=Mc z
  refine⟨0,?_⟩;have hl:(aW ns).length=ns.length:=by unfold aW;rw[am,Xp]
  generalize aW ns=D at hl;clear z
  induction ns generalizing D with
  |nil=>cases D with
   |nil=>rfl
   |cons a D=>simp at hl
  |cons n ns ih=>
   cases D with
   |nil=>simp at hl
   |cons a D=>
    rw[aq,<-ih (λm hm=>h m (bj _ hm)) D (by simpa using hl),h n (bh ..),gw]
 .obtain⟨g,_,e⟩:=Ur ns
  have hf:dX ns*dX ns=1:=by
   have:∀l:AA,gl l 0≠0->dX l*dX l=1:=λl=>by
    induction l with
    |nil=>intro h;exact absurd rfl h
    |cons n l ih=>
     intro h;unfold dX
     by_cases e:n=0
     .subst e
      rw[if_pos rfl];exact ih (by simpa[gl]using h)
     .rw[if_neg e]
      exact Ku e
   exact this ns z
  refine⟨g*dX ns,?_⟩;unfold aW;rw[dh];refine e.trans ?_;refine dz λn _=>?_;show g*n=g*dX ns*(dX ns*n);grind
def tk(pi d p:AA)(k:AB):Int:=if[pi,d,p]=k then 1 else 0
def Ed(pi s e:AA)(k:AB):Int:=tk pi (aW (dP s e)) s k-tk pi (aW (dP s e)) e k
theorem Lu(pi s e:AA)(n:Int)(k:AB):dB (sd pi s e n) k=n*Ed pi s e k:=by
 unfold sd Ed tk;simp only[dB];split<;>split<;>simp<;>omega
def W2(p q:AA)(k:AB):Int:=Ed (aW (cN [p,q])) p q k
def W3(p q r:AA)(k:AB):Int:=Ed (aW (cN [p,q,r])) r p k+Ed (aW (cN [p,q,r])) p q k+Ed (aW (cN [p,q,r])) q r k
def PS(uss:AB)(k:AB):Int:=match uss with
 |[a,b,c]=>W2 a b k+W2 b c k+W2 c a k
 |[a,b,c,d]=>W3 b c d k+W3 a d c k+W3 a b d k+W3 a c b k
 |_=>0
theorem adD{uss:AB}(h:uss.length=3\/uss.length=4)(n:Int)(k:AB):dB (cP uss n) k=n*PS uss k:=by
 rcases h with h |h
 .match uss,h with
  |[a,b,c],_=>
   simp only[cP,iN,cW,iS,dm,ud,ig,kW,Lu,PS,W2];generalize Ed _ a b k=A;generalize Ed _ b c k=B;generalize Ed _ c a k=C;grind
 .match uss,h with
  |[a,b,c,d],_=>
   simp only[cP,iN,cW,iS,dm,ud,ig,kW,Lu,PS,W3,qc];omega
theorem N5{n:Nat}(hn:n=2\/n=3){p q:AA}(hp:Pw n p)(hq:Pw n q):dP q p=(dP p q).map (- ·):=by
 rcases hn with rfl |rfl
 .obtain⟨x0,y0,w0,rfl,_⟩:=hp.two
  obtain⟨x1,y1,w1,rfl,_⟩:=hq.two;simp[fW,fX,yg]
 .obtain⟨x0,y0,z0,w0,rfl,_⟩:=hp.three
  obtain⟨x1,y1,z1,w1,rfl,_⟩:=hq.three;simp[fW,fX,yg]
theorem jT{n:Nat}(hn:n=2\/n=3){p q:AA}(hp:Pw n p)(hq:Pw n q)(pi:AA)(k:AB):Ed pi q p k=-Ed pi p q k:=by
 unfold Ed;rw[N5 hn hp hq,Xb];omega
theorem rD{p q:AA}(hp:Pw 2 p)(hq:Pw 2 q)(k:AB):W2 q p k=-W2 p q k:=by
 have e:cN [q,p]=(cN [p,q]).map (- ·):=by
  obtain⟨x0,y0,w0,rfl,_⟩:=hp.two;obtain⟨x1,y1,w1,rfl,_⟩:=hq.two;simp[lG,lH,fW,fX,yg]
 unfold W2;rw[e,Xb,jT (.inl rfl) hp hq]
theorem l3{a b c d e f:Int}(h:a=d)(g:b=e)(i:c=f):[a,b,c]=[d,e,f]:=by rw[h,g,i]
theorem adE{p q r:AA}(hp:Pw 3 p)(hq:Pw 3 q)(hr:Pw 3 r):aW (cN [q,p,r])=aW (cN [p,q,r]):=by
 obtain⟨x0,y0,z0,w0,rfl,p0⟩:=hp.three;obtain⟨x1,y1,z1,w1,rfl,p1⟩:=hq.three;obtain⟨x2,y2,z2,w2,rfl,p2⟩:=hr.three;refine nV (a:=w0) (b:=-w1) (by omega) (by omega) ?_;simp only[lG,lH,fW,fX,nK,aq,br];refine l3 ?_ ?_ ?_<;>grind
theorem adg{p q r:AA}(hp:Pw 3 p)(hq:Pw 3 q)(hr:Pw 3 r):aW (cN [p,r,q])=aW (cN [p,q,r]):=by
 obtain⟨x0,y0,z0,w0,rfl,p0⟩:=hp.three;obtain⟨x1,y1,z1,w1,rfl,p1⟩:=hq.three;obtain⟨x2,y2,z2,w2,rfl,p2⟩:=hr.three;refine nV (a:=1) (b:=-1) (by omega) (by omega) ?_;simp only[lG,lH,fW,fX,nK,aq,br];refine l3 ?_ ?_ ?_<;>grind
theorem qF{p q r:AA}(hp:Pw 3 p)(hq:Pw 3 q)(hr:Pw 3 r)(k:AB):W3 q p r k=-W3 p q r k:=by
 unfold W3;rw[adE hp hq hr,jT (.inr rfl) hq hr,jT (.inr rfl) hp hq,jT (.inr rfl) hr hp];omega
theorem kO{p q r:AA}(hp:Pw 3 p)(hq:Pw 3 q)(hr:Pw 3 r)(k:AB):W3 p r q k=-W3 p q r k:=by
 unfold W3;rw[adg hp hq hr,jT (.inr rfl) hq hr,jT (.inr rfl) hp hq,jT (.inr rfl) hr hp];omega
def sF(A B:AB):Prop:=∃s:Int,(s=1\/s=-1)/\dU B=s*dU A/\∀k,PS B k=s*PS A k
theorem sF.trans{A B C:AB}(h:sF A B)(g:sF B C):sF A C:=by
 obtain⟨s,hs,e1,e2⟩:=h;obtain⟨t,ht,e3,e4⟩:=g;refine⟨t*s,?_,by rw[e3,e1,pf],λk=>by rw[e4,e2,pf]⟩;rcases hs with rfl |rfl<;>rcases ht with rfl |rfl<;>simp
theorem aaW{n:Nat}(hn:n=2\/n=3){pre l:AB}{x y:AA}(hl:(pre++y::x::l).length=n+1)(hp:∀u∈pre++y::x::l,Pw n u):sF (pre++y::x::l) (pre++x::y::l):=by
 refine⟨-1,.inr rfl,(Sr hn hl hp).trans (by omega),λk=>?_⟩;have hx:=hp x (by simp);have hy:=hp y (by simp);rcases hn with rfl |rfl
 .match pre,l,hl with
  |[],[c],_=>
   have hc:=hp c (by simp);have h1:=rD hx hy k;have h2:=rD hx hc k;have h3:=rD hy hc k;simp only[PS,eh];omega
  |[c],[],_=>
   have hc:=hp c (by simp);have h1:=rD hx hy k;have h2:=rD hx hc k;have h3:=rD hy hc k;simp only[PS,eh,ju];omega
  |[],[],h=>simp at h
  |[],_::_::_,h=>simp at h
  |_::_::_,_,h=>simp at h;omega
  |[_],_::_,h=>simp at h
 .match pre,l,hl with
  |[],[c,d],_=>
   have hc:=hp c (by simp);have hd:=hp d (by simp);have a:=kO hy hd hc k;have b:=kO hx hc hd k;have e:=qF hy hx hd k;have f:=qF hx hc hy k;have g:=kO hc hy hx k;have i:=qF hy hc hx k;simp only[PS,eh];omega
  |[c],[d],_=>
   have hc:=hp c (by simp);have hd:=hp d (by simp);have a:=qF hy hx hd k;have b:=kO hc hy hd k;have e:=kO hc hd hx k;have f:=kO hc hx hy k;simp only[PS,eh,ju];omega
  |[c,d],[],_=>
   have hc:=hp c (by simp);have hd:=hp d (by simp);have a:=kO hd hy hx k;have b:=kO hc hx hy k;have e:=kO hc hy hd k;have f:=kO hc hd hx k;simp only[PS,eh,ju];omega
  |[],[],h=>simp at h
  |[],[_],h=>simp at h
  |[],_::_::_::_,h=>simp at h
  |[_],[],h=>simp at h
  |[_],_::_::_,h=>simp at h
  |[_,_],_::_,h=>simp at h
  |_::_::_::_,_,h=>simp at h;omega
theorem aaH{n:Nat}(hn:n=2\/n=3){A B:AB}(h:A.Perm B):∀pre:AB,(pre++A).length=n+1->(∀u∈pre++A,Pw n u)->sF (pre++A) (pre++B):=by
 induction h with
 |nil=>exact λpre _ _=>⟨1,.inl rfl,(ir _).symm,λk=>(ir _).symm⟩
 |cons x _ ih=>
  intro pre hl hp;have:=ih (pre++[x]) (by simpa using hl) (by simpa using hp);simpa using this
 |swap x y l=>exact λpre hl hp=>aaW hn hl hp
 |trans h1 h2 ih1 ih2=>
  intro pre hl hp;have e:∀u,u∈pre++_↔u∈pre++_:=λu=>(h1.append_left pre).mem_iff;exact(ih1 pre hl hp).trans (ih2 pre (by rw[<-(h1.append_left pre).length_eq];exact hl) λu hu=>hp u ((e u).mpr hu))
theorem ack{n k:Nat}(hn:n=2\/n=3)(hk:k<=1000){uss:AB}(hl:uss.length=n+1)(hg:∀us∈uss,Gu n k us)(nz:dU uss≠0)(kk:AB):PS (cF uss) kk=sg (dU uss)*PS uss kk:=by
 obtain⟨s,hs,e1,e2⟩:=aaH hn (tF (nH hn hl)).symm [] hl λu hu=>(hg u hu).pt;simp only[eh]at e1 e2;rw[Bt hn hk hl hg]at e1;rw[e2];congr 1;unfold sg;rcases hs with rfl |rfl<;>(repeat' split)<;>omega
def HS:AC->AB->Int
 |[],_=>0
 |u::hs,k=>PS u k+HS hs k
theorem Xf{n:Int}{k:AB}:∀{hs:AC},(∀u∈hs,u.length=3\/u.length=4)->dB (cH hs n) k=n*HS hs k
 |[],_=>by simp[cH,dB,HS]
 |u::hs,h=>by
  have ih:=Xf (n:=n) (k:=k) (hs:=hs) λv hv=>h v (bj _ hv);unfold cH at ih⊢;rw[dm,kW,ih,adD (h u bh),HS,qc]
theorem rM(hs gs:AC)(k:AB):HS (hs++gs) k=HS hs k+HS gs k:=by
 induction hs with
 |nil=>simp[HS]
 |cons u hs ih=>simp[HS,ih];omega
theorem gx{S:aG}{x y:SO}{i:Nat}(h:S[i]?=some y):(S++[x])[i]?=some y:=by
 rw[du (ca.mp h).1];exact h
theorem gs{S:aG}{x y:SO}{i j:Nat}(h:S[i]?=some y)(n:j≠i):(S.set j x)[i]?=some y:=by
 rw[dr n];exact h
theorem Qp(k n:Int):sg (k*n)=sg k*sg n:=by
 rcases yh k 0 with h |h |h<;>rcases yh n 0 with g |g |g
 .have:=Int.mul_pos_of_neg_of_neg h g;unfold sg;(repeat' split)<;>omega
 .subst g;simp[sg]
 .have:=Int.mul_neg_of_neg_of_pos h g;unfold sg;(repeat' split)<;>omega
 .subst h;simp[sg]
 .subst h;simp[sg]
 .subst h;simp[sg]
 .have:=t8 h g;unfold sg;(repeat' split)<;>omega
 .subst g;simp[sg]
 .have:=aw h g;unfold sg;(repeat' split)<;>omega
def bF(M a b c:Int)(p:AA):Prop:=∃x y z w,p=[x,y,z,w]/\0<w/\x*M=a*w/\y*M=b*w/\z*M=c*w
theorem bF.pw{M a b c:Int}{p:AA}(h:bF M a b c p):Pw 3 p:=by
 obtain⟨x,y,z,w,rfl,p,_⟩:=h;exact⟨[x,y,z],w,rfl,rfl,p⟩
theorem iY{M x0 w0 a0 x1 w1 a1:Int}(h0:x0*M=a0*w0)(h1:x1*M=a1*w1):M*(x1*w0-x0*w1)=w0*w1*(a1-a0):=by grind
theorem Ig{M w0 w1 w2 p q r s p' q' r' s':Int}(h1:M*p=w0*w1*p')(h2:M*q=w0*w2*q')(h3:M*r=w0*w1*r')(h4:M*s=w0*w2*s'):M*M*(p*q-r*s)=w0*w0*(w1*w2)*(p'*q'-r'*s'):=by
 have e:M*M*(p*q-r*s)=(M*p)*(M*q)-(M*r)*(M*s):=by grind
 rw[e,h1,h2,h3,h4];grind
theorem kG{M a0 b0 c0 a1 b1 c1 a2 b2 c2:Int}{p q r:AA}(hM:0<M)(h0:bF M a0 b0 c0 p)(h1:bF M a1 b1 c1 q)(h2:bF M a2 b2 c2 r):aW (cN [p,q,r])=aW [(b1-b0)*(c2-c0)-(c1-c0)*(b2-b0),(c1-c0)*(a2-a0)-(a1-a0)*(c2-c0),(a1-a0)*(b2-b0)-(b1-b0)*(a2-a0)]:=by
 obtain⟨x0,y0,z0,w0,rfl,p0,i0,j0,k0⟩:=h0;obtain⟨x1,y1,z1,w1,rfl,p1,i1,j1,k1⟩:=h1;obtain⟨x2,y2,z2,w2,rfl,p2,i2,j2,k2⟩:=h2;refine nV (a:=M*M) (b:=w0*w0*(w1*w2)) (cf (by omega) (by omega)) (cf (cf (by omega) (by omega)) (cf (by omega) (by omega))) ?_;simp only[lG,lH,fW,fX,nK,aq,br];refine l3 (Ig (iY j0 j1) (iY k0 k2) (iY k0 k1) (iY j0 j2)) (Ig (iY k0 k1) (iY i0 i2) (iY i0 i1) (iY k0 k2)) (Ig (iY i0 i1) (iY j0 j2) (iY j0 j1) (iY i0 i2))
theorem Jg{M a0 b0 c0 a1 b1 c1 a2 b2 c2 a3 b3 c3:Int}{p q r s:AA}(hM:0<M)(h0:bF M a0 b0 c0 p)(h1:bF M a1 b1 c1 q)(h2:bF M a2 b2 c2 r)(h3:bF M a3 b3 c3 s)(e1:a3=a0+a2-a1)(e2:b3=b0+b2-b1)(e3:c3=c0+c2-c1)(k:AB):W3 p q r k+W3 p r s k=W3 q r s k+W3 q s p k:=by
 subst e1 e2 e3;have f1:aW (cN [p,r,s])=aW (cN [p,q,r]):=by
  rw[kG hM h0 h1 h2,kG hM h0 h2 h3];congr 1;refine l3 ?_ ?_ ?_<;>grind
 have f2:aW (cN [q,r,s])=aW (cN [p,q,r]):=by
  rw[kG hM h0 h1 h2,kG hM h1 h2 h3];congr 1;refine l3 ?_ ?_ ?_<;>grind
 have f3:aW (cN [q,s,p])=aW (cN [p,q,r]):=by
  rw[kG hM h0 h1 h2,kG hM h1 h3 h0];congr 1;refine l3 ?_ ?_ ?_<;>grind
 unfold W3;rw[f1,f2,f3];have g1:=jT (.inr rfl) h0.pw h2.pw (aW (cN [p,q,r])) k;have g2:=jT (.inr rfl) h1.pw h3.pw (aW (cN [p,q,r])) k;omega
def d3(u1 u2 u3 v1 v2 v3 q1 q2 q3:Int):Int:=(u2*v3-u3*v2)*q1+(u3*v1-u1*v3)*q2+(u1*v2-u2*v1)*q3
theorem aeF(M a0 b0 c0 a1 b1 c1 a2 b2 c2 a3 b3 c3:Int):D3 a0 b0 c0 M a1 b1 c1 M a2 b2 c2 M a3 b3 c3 M=M*d3 (a1-a0) (b1-b0) (c1-c0) (a2-a0) (b2-b0) (c2-c0) (a3-a0) (b3-b0) (c3-c0):=by
 unfold D3 d3;grind
theorem afa(M x0 y0 z0 w0 x1 y1 z1 w1 x2 y2 z2 w2 x3 y3 z3 w3:Int):M*M*M*M*D3 x0 y0 z0 w0 x1 y1 z1 w1 x2 y2 z2 w2 x3 y3 z3 w3=D3 (x0*M) (y0*M) (z0*M) (w0*M) (x1*M) (y1*M) (z1*M) (w1*M) (x2*M) (y2*M) (z2*M) (w2*M) (x3*M) (y3*M) (z3*M) (w3*M):=by
 unfold D3;grind
theorem aey(M a0 b0 c0 w0 a1 b1 c1 w1 a2 b2 c2 w2 a3 b3 c3 w3:Int):D3 (a0*w0) (b0*w0) (c0*w0) (w0*M) (a1*w1) (b1*w1) (c1*w1) (w1*M) (a2*w2) (b2*w2) (c2*w2) (w2*M) (a3*w3) (b3*w3) (c3*w3) (w3*M)=w0*w1*w2*w3*D3 a0 b0 c0 M a1 b1 c1 M a2 b2 c2 M a3 b3 c3 M:=by
 unfold D3;grind
theorem kN{M a0 b0 c0 a1 b1 c1 a2 b2 c2 a3 b3 c3:Int}{p q r s:AA}(hM:0<M)(h0:bF M a0 b0 c0 p)(h1:bF M a1 b1 c1 q)(h2:bF M a2 b2 c2 r)(h3:bF M a3 b3 c3 s):sg (dU [p,q,r,s])=sg (d3 (a1-a0) (b1-b0) (c1-c0) (a2-a0) (b2-b0) (c2-c0) (a3-a0) (b3-b0) (c3-c0)):=by
 obtain⟨x0,y0,z0,w0,rfl,p0,i0,j0,k0⟩:=h0;obtain⟨x1,y1,z1,w1,rfl,p1,i1,j1,k1⟩:=h1;obtain⟨x2,y2,z2,w2,rfl,p2,i2,j2,k2⟩:=h2;obtain⟨x3,y3,z3,w3,rfl,p3,i3,j3,k3⟩:=h3;show sg (D3 _ _ _ _ _ _ _ _ _ _ _ _ _ _ _ _)=_;have e:=afa M x0 y0 z0 w0 x1 y1 z1 w1 x2 y2 z2 w2 x3 y3 z3 w3;rw[i0,j0,k0,i1,j1,k1,i2,j2,k2,i3,j3,k3,aey,aeF,<-pf]at e;rw[<-mZ (aw (aw (aw hM hM) hM) hM),e];exact mZ (aw (aw (aw (aw p0 p1) p2) p3) hM)
theorem rL{M a0 b0 c0 a1 b1 c1:Int}{p q:AA}(hM:0<M)(h0:bF M a0 b0 c0 p)(h1:bF M a1 b1 c1 q):aW (dP p q)=aW [a1-a0,b1-b0,c1-c0]:=by
 obtain⟨x0,y0,z0,w0,rfl,p0,i0,j0,k0⟩:=h0;obtain⟨x1,y1,z1,w1,rfl,p1,i1,j1,k1⟩:=h1;refine nV (a:=M) (b:=w0*w1) (by omega) (cf (by omega) (by omega)) ?_;simp only[fW,fX,aq,br];exact l3 (iY i0 i1) (iY j0 j1) (iY k0 k1)
theorem kM{a b c k:Int}(hk:k≠0){x y z:Int}(h1:x=k*a)(h2:y=k*b)(h3:z=k*c):aW [x,y,z]=aW [a,b,c]:=by
 subst h1 h2 h3;exact nV (a:=1) (b:=k) (by omega) hk (by simp)
theorem Ot{N p m q:AA}{k:AB}(h1:aW (dP p m)=aW (dP p q))(h2:aW (dP m q)=aW (dP p q)):Ed N p m k+Ed N m q k=Ed N p q k:=by
 unfold Ed;rw[h1,h2];omega
theorem Kf{M a0 b0 c0 a1 b1 c1 v1 v2 v3 s t:Int}{p q p1 q1 p2 q2:AA}(hM:0<M)(hs:0<s)(ht:0<t)(hp:bF M a0 b0 c0 p)(hq:bF M a1 b1 c1 q)(hp1:bF M (a0+s*v1) (b0+s*v2) (c0+s*v3) p1)(hq1:bF M (a1+s*v1) (b1+s*v2) (c1+s*v3) q1)(hp2:bF M (a0+(s+t)*v1) (b0+(s+t)*v2) (c0+(s+t)*v3) p2)(hq2:bF M (a1+(s+t)*v1) (b1+(s+t)*v2) (c1+(s+t)*v3) q2)(k:AB):W3 p q p2 k+W3 q q2 p2 k=W3 p q p1 k+W3 q q1 p1 k+W3 p1 q1 p2 k+W3 q1 q2 p2 k:=by
 have hst:s+t≠0:=by omega
 have f1:=(kG hM hp hq hp2).trans (kM hst (a:=(b1-b0)*v3-(c1-c0)*v2) (b:=(c1-c0)*v1-(a1-a0)*v3) (c:=(a1-a0)*v2-(b1-b0)*v1) (by grind) (by grind) (by grind));have f2:=(kG hM hq hq2 hp2).trans (kM hst (a:=(b1-b0)*v3-(c1-c0)*v2) (b:=(c1-c0)*v1-(a1-a0)*v3) (c:=(a1-a0)*v2-(b1-b0)*v1) (by grind) (by grind) (by grind));have f3:=(kG hM hp hq hp1).trans (kM (k:=s) (by omega) (a:=(b1-b0)*v3-(c1-c0)*v2) (b:=(c1-c0)*v1-(a1-a0)*v3) (c:=(a1-a0)*v2-(b1-b0)*v1) (by grind) (by grind) (by grind));have f4:=(kG hM hq hq1 hp1).trans (kM (k:=s) (by omega) (a:=(b1-b0)*v3-(c1-c0)*v2) (b:=(c1-c0)*v1-(a1-a0)*v3) (c:=(a1-a0)*v2-(b1-b0)*v1) (by grind) (by grind) (by grind));have f5:=(kG hM hp1 hq1 hp2).trans (kM (k:=t) (by omega) (a:=(b1-b0)*v3-(c1-c0)*v2) (b:=(c1-c0)*v1-(a1-a0)*v3) (c:=(a1-a0)*v2-(b1-b0)*v1) (by grind) (by grind) (by grind));have f6:=(kG hM hq1 hq2 hp2).trans (kM (k:=t) (by omega) (a:=(b1-b0)*v3-(c1-c0)*v2) (b:=(c1-c0)*v1-(a1-a0)*v3) (c:=(a1-a0)*v2-(b1-b0)*v1) (by grind) (by grind) (by grind));have d1:=(rL hM hp1 hp).trans (kM (k:=-s) (by omega) (a:=v1) (b:=v2) (c:=v3) (by grind) (by grind) (by grind));have d2:=(rL hM hp2 hp1).trans (kM (k:=-t) (by omega) (a:=v1) (b:=v2) (c:=v3) (by grind) (by grind) (by grind));have d3:=(rL hM hp2 hp).trans (kM (k:=-(s+t)) (by omega) (a:=v1) (b:=v2) (c:=v3) (by grind) (by grind) (by grind));have d4:=(rL hM hq hq1).trans (kM (k:=s) (by omega) (a:=v1) (b:=v2) (c:=v3) (by grind) (by grind) (by grind));have d5:=(rL hM hq1 hq2).trans (kM (k:=t) (by omega) (a:=v1) (b:=v2) (c:=v3) (by grind) (by grind) (by grind));have d6:=(rL hM hq hq2).trans (kM hst (a:=v1) (b:=v2) (c:=v3) (by grind) (by grind) (by grind));unfold W3;rw[f1,f2,f3,f4,f5,f6];generalize aW [(b1-b0)*v3-(c1-c0)*v2,(c1-c0)*v1-(a1-a0)*v3,(a1-a0)*v2-(b1-b0)*v1]=N;have g1:=jT (.inr rfl) hq.pw hp2.pw N k;have g2:=jT (.inr rfl) hq.pw hp1.pw N k;have g3:=jT (.inr rfl) hp1.pw hq1.pw N k;have g4:=jT (.inr rfl) hq1.pw hp2.pw N k;have m1:=Ot (N:=N) (k:=k) (d2.trans d3.symm) (d1.trans d3.symm);have m2:=Ot (N:=N) (k:=k) (d4.trans d6.symm) (d5.trans d6.symm);omega
def q4(p q r s:AA)(k:AB):Int:=W3 q r s k+W3 p s r k+W3 p q s k+W3 p r q k
theorem W6{p q r:AA}(hp:Pw 3 p)(hq:Pw 3 q)(hr:Pw 3 r)(k:AB):W3 p r q k=-W3 p q r k/\W3 q p r k=-W3 p q r k/\W3 q r p k=W3 p q r k/\W3 r p q k=W3 p q r k/\W3 r q p k=-W3 p q r k:=by
 have a:=kO hp hq hr k;have b:=qF hp hq hr k;have c:=kO hq hp hr k;have d:=qF hp hr hq k;have e:=qF hq hr hp k;omega
theorem stk{a b c d e f g h i:AA}{k:AB}(ap:Pw 3 a)(bp:Pw 3 b)(cp:Pw 3 c)(dp:Pw 3 d)(ep:Pw 3 e)(fp:Pw 3 f)(gp:Pw 3 g)(hp:Pw 3 h)(ip:Pw 3 i)(w0:W3 a b g k+W3 b h g k=W3 a b d k+W3 b e d k+W3 d e g k+W3 e h g k)(w1:W3 b c h k+W3 c i h k=W3 b c e k+W3 c f e k+W3 e f h k+W3 f i h k)(w2:W3 a c g k+W3 c i g k=W3 a c d k+W3 c f d k+W3 d f g k+W3 f i g k):q4 a b c g k+q4 b c g h k+q4 c g h i k=q4 a b c d k+q4 b c d e k+q4 c d e f k+q4 d e f g k+q4 e f g h k+q4 f g h i k:=by
 have p0:q4 a b c g k=0+W3 b c g k-W3 a c g k+W3 a b g k-W3 a b c k:=by
  have t1:=W6 ap cp gp k;have t3:=W6 ap bp cp k;unfold q4;omega
 have p1:q4 b c g h k=0+W3 c g h k-W3 b g h k+W3 b c h k-W3 b c g k:=by
  have t1:=W6 bp gp hp k;have t3:=W6 bp cp gp k;unfold q4;omega
 have p2:q4 c g h i k=0+W3 g h i k-W3 c h i k+W3 c g i k-W3 c g h k:=by
  have t1:=W6 cp hp ip k;have t3:=W6 cp gp hp k;unfold q4;omega
 have p3:q4 a b c d k=0+W3 b c d k-W3 a c d k+W3 a b d k-W3 a b c k:=by
  have t1:=W6 ap cp dp k;have t3:=W6 ap bp cp k;unfold q4;omega
 have p4:q4 b c d e k=0+W3 c d e k-W3 b d e k+W3 b c e k-W3 b c d k:=by
  have t1:=W6 bp dp ep k;have t3:=W6 bp cp dp k;unfold q4;omega
 have p5:q4 c d e f k=0+W3 d e f k-W3 c e f k+W3 c d f k-W3 c d e k:=by
  have t1:=W6 cp ep fp k;have t3:=W6 cp dp ep k;unfold q4;omega
 have p6:q4 d e f g k=0+W3 e f g k-W3 d f g k+W3 d e g k-W3 d e f k:=by
  have t1:=W6 dp fp gp k;have t3:=W6 dp ep fp k;unfold q4;omega
 have p7:q4 e f g h k=0+W3 f g h k-W3 e g h k+W3 e f h k-W3 e f g k:=by
  have t1:=W6 ep gp hp k;have t3:=W6 ep fp gp k;unfold q4;omega
 have p8:q4 f g h i k=0+W3 g h i k-W3 f h i k+W3 f g i k-W3 f g h k:=by
  have t1:=W6 fp hp ip k;have t3:=W6 fp gp hp k;unfold q4;omega
 have f0:0+W3 a b g k-W3 b g h k-W3 a b d k+W3 b d e k-W3 d e g k+W3 e g h k=0:=by
  have t1:=W6 bp gp hp k;have t3:=W6 bp dp ep k;have t5:=W6 ep gp hp k;omega
 have f1:0+W3 b c h k-W3 c h i k-W3 b c e k+W3 c e f k-W3 e f h k+W3 f h i k=0:=by
  have t1:=W6 cp hp ip k;have t3:=W6 cp ep fp k;have t5:=W6 fp hp ip k;omega
 have f2:0+W3 a c g k-W3 c g i k-W3 a c d k+W3 c d f k-W3 d f g k+W3 f g i k=0:=by
  have t1:=W6 cp gp ip k;have t3:=W6 cp dp fp k;have t5:=W6 fp gp ip k;omega
 rw[p0,p1,p2,p3,p4,p5,p6,p7,p8];clear p0 p1 p2 p3 p4 p5 p6 p7 p8 w0 w1 w2;omega
theorem stack{M x1 x2 x3 y1 y2 y3 z1 z2 z3 v1 v2 v3 s t:Int}{a b c d e f g h i:AA}(hM:0<M)(hs:0<s)(ht:0<t)(ha:bF M x1 x2 x3 a)(hb:bF M y1 y2 y3 b)(hc:bF M z1 z2 z3 c)(hd:bF M (x1+s*v1) (x2+s*v2) (x3+s*v3) d)(he:bF M (y1+s*v1) (y2+s*v2) (y3+s*v3) e)(hf:bF M (z1+s*v1) (z2+s*v2) (z3+s*v3) f)(hg:bF M (x1+(s+t)*v1) (x2+(s+t)*v2) (x3+(s+t)*v3) g)(hh:bF M (y1+(s+t)*v1) (y2+(s+t)*v2) (y3+(s+t)*v3) h)(hi:bF M (z1+(s+t)*v1) (z2+(s+t)*v2) (z3+(s+t)*v3) i)(k:AB):q4 a b c g k+q4 b c g h k+q4 c g h i k=q4 a b c d k+q4 b c d e k+q4 c d e f k+q4 d e f g k+q4 e f g h k+q4 f g h i k:=
 stk ha.pw hb.pw hc.pw hd.pw he.pw hf.pw hg.pw hh.pw hi.pw (Kf hM hs ht ha hb hd he hg hh k) (Kf hM hs ht hb hc he hf hh hi k) (Kf hM hs ht ha hc hd hf hg hi k)
theorem kR{n:Nat}(hn:n<=1000){p q r s:AA}(hp:Gu 3 n p)(hq:Gu 3 n q)(hr:Gu 3 n r)(hs:Gu 3 n s){S:Int}(e:sg (dU [p,q,r,s])=S)(hS:S≠0)(k:AB):PS (cF [p,q,r,s]) k=S*q4 p q r s k:=by
 have hg:∀us∈[p,q,r,s],Gu 3 n us:=λus hu=>by
  simp only[cq,fz,or_false]at hu;rcases hu with rfl |rfl |rfl |rfl<;>assumption
 rw[ack (.inr rfl) hn rfl hg (λz=>hS (by rw[<-e,z];rfl)) k,e];rfl
theorem nO{m d x:Int}(hm:0<m)(e:x=m*d):sg x=sg d:=by
 rw[e];exact mZ hm
theorem aew{n:Nat}(hn:n<=1000){M x1 x2 x3 y1 y2 y3 z1 z2 z3 v1 v2 v3 s t:Int}{a b c d e f g h i:AA}(hM:0<M)(hs:0<s)(ht:0<t)(ha:bF M x1 x2 x3 a)(hb:bF M y1 y2 y3 b)(hc:bF M z1 z2 z3 c)(hd:bF M (x1+s*v1) (x2+s*v2) (x3+s*v3) d)(he:bF M (y1+s*v1) (y2+s*v2) (y3+s*v3) e)(hf:bF M (z1+s*v1) (z2+s*v2) (z3+s*v3) f)(hg:bF M (x1+(s+t)*v1) (x2+(s+t)*v2) (x3+(s+t)*v3) g)(hh:bF M (y1+(s+t)*v1) (y2+(s+t)*v2) (y3+(s+t)*v3) h)(hi:bF M (z1+(s+t)*v1) (z2+(s+t)*v2) (z3+(s+t)*v3) i)(ga:Gu 3 n a)(gb:Gu 3 n b)(gc:Gu 3 n c)(gd:Gu 3 n d)(ge:Gu 3 n e)(gf:Gu 3 n f)(gg:Gu 3 n g)(gh:Gu 3 n h)(gi:Gu 3 n i)(nz:d3 (y1-x1) (y2-x2) (y3-x3) (z1-x1) (z2-x2) (z3-x3) v1 v2 v3≠0)(k:AB):HS [cF [a,b,c,g],cF [b,c,g,h],cF [c,g,h,i]] k=HS [cF [a,b,c,d],cF [b,c,d,e],cF [c,d,e,f]] k+HS [cF [d,e,f,g],cF [e,f,g,h],cF [f,g,h,i]] k:=by
 have hS:sg (d3 (y1-x1) (y2-x2) (y3-x3) (z1-x1) (z2-x2) (z3-x3) v1 v2 v3)≠0:=λz=>nz (pK.mp z);have hst:0<s+t:=by omega
 have e00:=kR hn ga gb gc gg ((kN hM ha hb hc hg).trans (nO (d:=d3 (y1-x1) (y2-x2) (y3-x3) (z1-x1) (z2-x2) (z3-x3) v1 v2 v3) hst (by unfold d3;grind))) hS k;have e01:=kR hn gb gc gg gh ((kN hM hb hc hg hh).trans (nO (d:=d3 (y1-x1) (y2-x2) (y3-x3) (z1-x1) (z2-x2) (z3-x3) v1 v2 v3) hst (by unfold d3;grind))) hS k;have e02:=kR hn gc gg gh gi ((kN hM hc hg hh hi).trans (nO (d:=d3 (y1-x1) (y2-x2) (y3-x3) (z1-x1) (z2-x2) (z3-x3) v1 v2 v3) hst (by unfold d3;grind))) hS k;have e10:=kR hn ga gb gc gd ((kN hM ha hb hc hd).trans (nO (d:=d3 (y1-x1) (y2-x2) (y3-x3) (z1-x1) (z2-x2) (z3-x3) v1 v2 v3) hs (by unfold d3;grind))) hS k;have e11:=kR hn gb gc gd ge ((kN hM hb hc hd he).trans (nO (d:=d3 (y1-x1) (y2-x2) (y3-x3) (z1-x1) (z2-x2) (z3-x3) v1 v2 v3) hs (by unfold d3;grind))) hS k;have e12:=kR hn gc gd ge gf ((kN hM hc hd he hf).trans (nO (d:=d3 (y1-x1) (y2-x2) (y3-x3) (z1-x1) (z2-x2) (z3-x3) v1 v2 v3) hs (by unfold d3;grind))) hS k;have e20:=kR hn gd ge gf gg ((kN hM hd he hf hg).trans (nO (d:=d3 (y1-x1) (y2-x2) (y3-x3) (z1-x1) (z2-x2) (z3-x3) v1 v2 v3) ht (by unfold d3;grind))) hS k;have e21:=kR hn ge gf gg gh ((kN hM he hf hg hh).trans (nO (d:=d3 (y1-x1) (y2-x2) (y3-x3) (z1-x1) (z2-x2) (z3-x3) v1 v2 v3) ht (by unfold d3;grind))) hS k;have e22:=kR hn gf gg gh gi ((kN hM hf hg hh hi).trans (nO (d:=d3 (y1-x1) (y2-x2) (y3-x3) (z1-x1) (z2-x2) (z3-x3) v1 v2 v3) ht (by unfold d3;grind))) hS k;simp only[HS];rw[e00,e01,e02,e10,e11,e12,e20,e21,e22];have st:=stack hM hs ht ha hb hc hd he hf hg hh hi k;generalize sg (d3 (y1-x1) (y2-x2) (y3-x3) (z1-x1) (z2-x2) (z3-x3) v1 v2 v3)=S at *;have e:=congrArg (S*·) st;simp only[qc]at e;omega
theorem bF.scale{M a b c m:Int}{p:AA}(h:bF M a b c p):bF (m*M) (m*a) (m*b) (m*c) p:=by
 obtain⟨x,y,z,w,e,p,h1,h2,h3⟩:=h;exact⟨x,y,z,w,e,p,by grind,by grind,by grind⟩
theorem bF.eq{M a b c:Int}(hM:0<M){k l:Nat}{p q:AA}(hp:Gu 3 k p)(hq:Gu 3 l q)(h:bF M a b c p)(g:bF M a b c q):p=q:=by
 obtain⟨xs,w,rfl,P⟩:=hp;obtain⟨ys,v,rfl,Q⟩:=hq
 match xs,P.len,P with
 |[x1,x2,x3],_,P=>
  match ys,Q.len,Q with
  |[y1,y2,y3],_,Q=>
   obtain⟨x,y,z,w',e,_,h1,h2,h3⟩:=h;obtain⟨x',y',z',v',e',_,g1,g2,g3⟩:=g;simp only[ju,eh,dk,and_true]at e e';obtain⟨rfl,rfl,rfl,rfl⟩:=e;obtain⟨rfl,rfl,rfl,rfl⟩:=e';have key:∀{s t a:Int},s*M=a*w->t*M=a*v->s*v=t*w:=λ{s t a} i j=>by
    refine r8 (a:=M) (by omega) ?_;have q1:s*v*M=s*M*v:=by grind
    have q2:t*w*M=t*M*w:=by grind
    rw[q1,q2,i,j];grind
   refine P.same Q λj hj=>?_
   match j,hj with
   |0,_=>exact key h1 g1
   |1,_=>exact key h2 g2
   |2,_=>exact key h3 g3
theorem bF.go{k l:Nat}{M a b c u v t:Int}{f us:AA}(h:bF M a b c us)(hu:Gu 3 k us)(hf:Gu 3 l f)(g:bF M u v t f):bF M (a+u) (b+v) (c+t) (cM 1 f us):=by
 obtain⟨G,A⟩:=fB (way:=1) (.inl rfl) hu hf;obtain⟨x',y',z',w',e',p',_⟩:=G.three';obtain⟨x,y,z,w,x2,y2,z2,w2,e1,e2,A1,A2,A3⟩:=A.three;obtain⟨x3,y3,z3,w3,e3,p3,h1,h2,h3⟩:=h;obtain⟨f1,f2,f3,e,rfl,p4,g1,g2,g3⟩:=g;rw[e1]at e3;rw[e']at e2;simp only[dk,and_true]at e3 e2;obtain⟨rfl,rfl,rfl,rfl⟩:=e3;obtain⟨rfl,rfl,rfl,rfl⟩:=e2;have ge:[f1,f2,f3,e].getLastD 0=e:=rfl;rw[ge,ir]at A1 A2 A3;have key:∀{x a f p u:Int},x*M=a*w->f*M=u*e->p*(e*w)=(e*x+f*w)*w'->p*M=(a+u)*w':=λ{x a f p u} i i' j=>by
  have n:e*w≠0:=cf (by omega) (by omega);refine u6 n ?_;have q1:e*w*(p*M)=(p*(e*w))*M:=by grind
  rw[q1,j];have q2:(e*x+f*w)*w'*M=e*w'*(x*M)+w*w'*(f*M):=by grind
  rw[q2,i,i'];grind
 exact⟨x',y',z',w',e',p',key h1 g1 A1,key h2 g2 A2,key h3 g3 A3⟩
def hU(f us:AA):AA:=cM 1 f (ra us)
def lL(f:AA):AB->AC
 |[p,q,r]=>[[ra p,ra q,ra r,hU f p],[ra q,ra r,hU f p,hU f q],[ra r,hU f p,hU f q,hU f r]]
 |_=>[]
def cT(f:AA)(uss:AB):AC:=(lL f uss).map cF
theorem bF.to{M a b c M' a' b' c':Int}{p:AA}(h:bF M a b c p)(e:M=M')(e1:a=a')(e2:b=b')(e3:c=c'):bF M' a' b' c' p:=by
 subst e e1 e2 e3;exact h
theorem rG{way:Int}{f:AA}{X:AB}(h:X.length=4):eL way f (cF X)=cF (X.map (cM way f)):=
 Vx ((tF (.inr h)).map _) (.inr (by rw[am,h]))
theorem Hf(x0 y0 w0 x1 y1 w1 x2 y2 w2 K n1 n2 n3:Int):d3 (x1*w0*w2*K-x0*w1*w2*K) (y1*w0*w2*K-y0*w1*w2*K) (0-0) (x2*w0*w1*K-x0*w1*w2*K) (y2*w0*w1*K-y0*w1*w2*K) (0-0) (w0*w1*w2*n1) (w0*w1*w2*n2) (w0*w1*w2*n3)=K*K*(w0*w1*w2)*(w0*w1*w2)*n3*D2 x0 y0 w0 x1 y1 w1 x2 y2 w2:=by
 unfold d3 D2;grind
theorem O5{k l:Nat}(hk:k+l+l+2<=1000){uss:AB}(h:Sx 2 k uss){fs ft fu:AA}(gs:Gu 3 l fs)(gt:Gu 3 l ft)(gu:Gu 3 l fu){n1 n2 n3 e s1 s2 t1 t2:Int}(he:0<e)(p1:0<s1)(p2:0<s2)(p3:0<t1)(p4:0<t2)(hn:n3≠0)(as:bF (s2*e) (s1*n1) (s1*n2) (s1*n3) fs)(bt:bF (t2*e) (t1*n1) (t1*n2) (t1*n3) ft)(au:bF (s2*t2*e) ((s1*t2+t1*s2)*n1) ((s1*t2+t1*s2)*n2) ((s1*t2+t1*s2)*n3) fu)(kk:AB):HS (cT fu uss) kk=HS (cT fs uss) kk+HS ((cT ft uss).map (eL 1 fs)) kk:=by
 have hl:=h.len;have hg:=h.gu;have nz:=h.nz;clear h
 match uss,hl,hg,nz with
 |[p,q,r],_,hg,nz=>
  have g0:=hg p (by simp);have g1:=hg q (by simp);have g2:=hg r (by simp);have r0:=iH g0;have r1:=iH g1;have r2:=iH g2;obtain⟨x0,y0,w0,rfl,q0,_⟩:=g0.two';obtain⟨x1,y1,w1,rfl,q1,_⟩:=g1.two';obtain⟨x2,y2,w2,rfl,q2,_⟩:=g2.two';have hW:0<w0*w1*w2:=aw (aw q0 q1) q2;have hK:0<s2*t2*e:=aw (aw p2 p4) he;have hM:=aw hW hK;have ha:bF (w0*w1*w2*(s2*t2*e)) (x0*w1*w2*(s2*t2*e)) (y0*w1*w2*(s2*t2*e)) 0 (ra [x0,y0,w0]):=⟨x0,y0,0,w0,rfl,q0,by grind,by grind,by grind⟩;have hb:bF (w0*w1*w2*(s2*t2*e)) (x1*w0*w2*(s2*t2*e)) (y1*w0*w2*(s2*t2*e)) 0 (ra [x1,y1,w1]):=⟨x1,y1,0,w1,rfl,q1,by grind,by grind,by grind⟩;have hc:bF (w0*w1*w2*(s2*t2*e)) (x2*w0*w1*(s2*t2*e)) (y2*w0*w1*(s2*t2*e)) 0 (ra [x2,y2,w2]):=⟨x2,y2,0,w2,rfl,q2,by grind,by grind,by grind⟩;have as':=(as.scale (m:=w0*w1*w2*t2)).to (M':=w0*w1*w2*(s2*t2*e)) (a':=s1*t2*(w0*w1*w2*n1)) (b':=s1*t2*(w0*w1*w2*n2)) (c':=s1*t2*(w0*w1*w2*n3)) (by grind) (by grind) (by grind) (by grind);have bt':=(bt.scale (m:=w0*w1*w2*s2)).to (M':=w0*w1*w2*(s2*t2*e)) (a':=t1*s2*(w0*w1*w2*n1)) (b':=t1*s2*(w0*w1*w2*n2)) (c':=t1*s2*(w0*w1*w2*n3)) (by grind) (by grind) (by grind) (by grind);have au':=(au.scale (m:=w0*w1*w2)).to (M':=w0*w1*w2*(s2*t2*e)) (a':=(s1*t2+t1*s2)*(w0*w1*w2*n1)) (b':=(s1*t2+t1*s2)*(w0*w1*w2*n2)) (c':=(s1*t2+t1*s2)*(w0*w1*w2*n3)) rfl (by grind) (by grind) (by grind);have nz':d3 (x1*w0*w2*(s2*t2*e)-x0*w1*w2*(s2*t2*e)) (y1*w0*w2*(s2*t2*e)-y0*w1*w2*(s2*t2*e)) (0-0) (x2*w0*w1*(s2*t2*e)-x0*w1*w2*(s2*t2*e)) (y2*w0*w1*(s2*t2*e)-y0*w1*w2*(s2*t2*e)) (0-0) (w0*w1*w2*n1) (w0*w1*w2*n2) (w0*w1*w2*n3)≠0:=by
   rw[Hf];exact cf (cf (cf (cf (cf (by omega) (by omega)) (by omega)) (by omega)) hn) nz
  have hs:0<s1*t2:=aw p1 p4;have ht:0<t1*s2:=aw p3 p2;have up:∀{a b c:Int}{o:AA},Gu 3 k o->bF (w0*w1*w2*(s2*t2*e)) a b c o->cM 1 fs (cM 1 ft o)=cM 1 fu o:=λ{a b c o} go ho=>by
   have G1:=(fB (way:=1) (.inl rfl) go gt).1;have A1:=ho.go go gt bt';exact bF.eq hM (fB (way:=1) (.inl rfl) G1 gs).1 (fB (way:=1) (.inl rfl) go gu).1 ((A1.go G1 gs as').to rfl (by grind) (by grind) (by grind)) (ho.go go gu au')
  have m:∀{o:AA},Gu 3 k o->Gu 3 1000 o:=λgo=>go.mono (by omega);have ms:∀{o:AA},Gu 3 k o->Gu 3 1000 (cM 1 fs o):=λgo=>(fB (way:=1) (.inl rfl) go gs).1.mono (by omega);have mu:∀{o:AA},Gu 3 k o->Gu 3 1000 (cM 1 fu o):=λgo=>(fB (way:=1) (.inl rfl) go gu).1.mono (by omega);have key:=aew (aj 1000) hM hs ht ha hb hc (ha.go r0 gs as') (hb.go r1 gs as') (hc.go r2 gs as') (ha.go r0 gu au') (hb.go r1 gu au') (hc.go r2 gu au') (m r0) (m r1) (m r2) (ms r0) (ms r1) (ms r2) (mu r0) (mu r1) (mu r2) nz' kk;have e0:=up r0 ha;have e1:=up r1 hb;have e2:=up r2 hc;simp only[cT,lL,hU,aq,br];rw[rG rfl,rG rfl,rG rfl];simp only[aq,br];rw[e0,e1,e2];exact key
theorem ae2{a b c d e f:AA}{k:AB}(ap:Pw 3 a)(bp:Pw 3 b)(cp:Pw 3 c)(dp:Pw 3 d)(ep:Pw 3 e)(fp:Pw 3 f)(w0:W3 a b e k+W3 a e d k=W3 b e d k+W3 b d a k)(w1:W3 b c f k+W3 b f e k=W3 c f e k+W3 c e b k)(w2:W3 a c f k+W3 a f d k=W3 c f d k+W3 c d a k):q4 b a c e k+q4 a c e d k+q4 c e d f k=-(q4 a b c d k+q4 b c d e k+q4 c d e f k):=by
 have p0:q4 b a c e k=0+W3 a c e k-W3 b c e k-W3 a b e k+W3 a b c k:=by
  have t1:=W6 bp cp ep k;have t2:=W6 ap bp ep k;have t3:=W6 ap bp cp k;unfold q4;omega
 have p1:q4 a c e d k=0-W3 c d e k+W3 a d e k+W3 a c d k-W3 a c e k:=by
  have t0:=W6 cp dp ep k;have t3:=W6 ap cp ep k;unfold q4;omega
 have p2:q4 c e d f k=0-W3 d e f k-W3 c d f k+W3 c e f k+W3 c d e k:=by
  have t0:=W6 dp ep fp k;have t1:=W6 cp dp fp k;unfold q4;omega
 have p3:q4 a b c d k=0+W3 b c d k-W3 a c d k+W3 a b d k-W3 a b c k:=by
  have t1:=W6 ap cp dp k;have t3:=W6 ap bp cp k;unfold q4;omega
 have p4:q4 b c d e k=0+W3 c d e k-W3 b d e k+W3 b c e k-W3 b c d k:=by
  have t1:=W6 bp dp ep k;have t3:=W6 bp cp dp k;unfold q4;omega
 have p5:q4 c d e f k=0+W3 d e f k-W3 c e f k+W3 c d f k-W3 c d e k:=by
  have t1:=W6 cp ep fp k;have t3:=W6 cp dp ep k;unfold q4;omega
 have f0:0+W3 a b e k-W3 a d e k+W3 b d e k-W3 a b d k=0:=by
  have t1:=W6 ap dp ep k;have t2:=W6 bp dp ep k;have t3:=W6 ap bp dp k;omega
 have f1:0+W3 b c f k-W3 b e f k+W3 c e f k-W3 b c e k=0:=by
  have t1:=W6 bp ep fp k;have t2:=W6 cp ep fp k;have t3:=W6 bp cp ep k;omega
 have f2:0+W3 a c f k-W3 a d f k+W3 c d f k-W3 a c d k=0:=by
  have t1:=W6 ap dp fp k;have t2:=W6 cp dp fp k;have t3:=W6 ap cp dp k;omega
 rw[p0,p1,p2,p3,p4,p5];clear p0 p1 p2 p3 p4 p5 w0 w1 w2;omega
theorem ae4{a b c d e f:AA}{k:AB}(ap:Pw 3 a)(bp:Pw 3 b)(cp:Pw 3 c)(dp:Pw 3 d)(ep:Pw 3 e)(fp:Pw 3 f)(w0:W3 a b e k+W3 a e d k=W3 b e d k+W3 b d a k)(w1:W3 b c f k+W3 b f e k=W3 c f e k+W3 c e b k)(w2:W3 a c f k+W3 a f d k=W3 c f d k+W3 c d a k):q4 a c b d k+q4 c b d f k+q4 b d f e k=-(q4 a b c d k+q4 b c d e k+q4 c d e f k):=by
 have p0:q4 a c b d k=0-W3 b c d k-W3 a b d k+W3 a c d k+W3 a b c k:=by
  have t0:=W6 bp cp dp k;have t1:=W6 ap bp dp k;unfold q4;omega
 have p1:q4 c b d f k=0+W3 b d f k-W3 c d f k-W3 b c f k+W3 b c d k:=by
  have t1:=W6 cp dp fp k;have t2:=W6 bp cp fp k;have t3:=W6 bp cp dp k;unfold q4;omega
 have p2:q4 b d f e k=0-W3 d e f k+W3 b e f k+W3 b d e k-W3 b d f k:=by
  have t0:=W6 dp ep fp k;have t3:=W6 bp dp fp k;unfold q4;omega
 have p3:q4 a b c d k=0+W3 b c d k-W3 a c d k+W3 a b d k-W3 a b c k:=by
  have t1:=W6 ap cp dp k;have t3:=W6 ap bp cp k;unfold q4;omega
 have p4:q4 b c d e k=0+W3 c d e k-W3 b d e k+W3 b c e k-W3 b c d k:=by
  have t1:=W6 bp dp ep k;have t3:=W6 bp cp dp k;unfold q4;omega
 have p5:q4 c d e f k=0+W3 d e f k-W3 c e f k+W3 c d f k-W3 c d e k:=by
  have t1:=W6 cp ep fp k;have t3:=W6 cp dp ep k;unfold q4;omega
 have f0:0+W3 a b e k-W3 a d e k+W3 b d e k-W3 a b d k=0:=by
  have t1:=W6 ap dp ep k;have t2:=W6 bp dp ep k;have t3:=W6 ap bp dp k;omega
 have f1:0+W3 b c f k-W3 b e f k+W3 c e f k-W3 b c e k=0:=by
  have t1:=W6 bp ep fp k;have t2:=W6 cp ep fp k;have t3:=W6 bp cp ep k;omega
 have f2:0+W3 a c f k-W3 a d f k+W3 c d f k-W3 a c d k=0:=by
  have t1:=W6 ap dp fp k;have t2:=W6 cp dp fp k;have t3:=W6 ap cp dp k;omega
 rw[p0,p1,p2,p3,p4,p5];clear p0 p1 p2 p3 p4 p5 w0 w1 w2;omega
theorem Dw{M x1 x2 x3 y1 y2 y3 z1 z2 z3 u1 u2 u3:Int}{a b c d e f:AA}(hM:0<M)(ha:bF M x1 x2 x3 a)(hb:bF M y1 y2 y3 b)(hc:bF M z1 z2 z3 c)(hd:bF M (x1+u1) (x2+u2) (x3+u3) d)(he:bF M (y1+u1) (y2+u2) (y3+u3) e)(hf:bF M (z1+u1) (z2+u2) (z3+u3) f):sg (dU [a,b,c,d])=sg (d3 (y1-x1) (y2-x2) (y3-x3) (z1-x1) (z2-x2) (z3-x3) u1 u2 u3)/\sg (dU [b,c,d,e])=sg (d3 (y1-x1) (y2-x2) (y3-x3) (z1-x1) (z2-x2) (z3-x3) u1 u2 u3)/\sg (dU [c,d,e,f])=sg (d3 (y1-x1) (y2-x2) (y3-x3) (z1-x1) (z2-x2) (z3-x3) u1 u2 u3):=by
 rw[kN hM ha hb hc hd,kN hM hb hc hd he,kN hM hc hd he hf];refine⟨congrArg sg ?_,congrArg sg ?_,congrArg sg ?_⟩<;>(unfold d3;grind)
theorem zK{n:Nat}(hn:n<=1000){M x1 x2 x3 y1 y2 y3 z1 z2 z3 u1 u2 u3:Int}{a b c d e f:AA}(hM:0<M)(ha:bF M x1 x2 x3 a)(hb:bF M y1 y2 y3 b)(hc:bF M z1 z2 z3 c)(hd:bF M (x1+u1) (x2+u2) (x3+u3) d)(he:bF M (y1+u1) (y2+u2) (y3+u3) e)(hf:bF M (z1+u1) (z2+u2) (z3+u3) f)(ga:Gu 3 n a)(gb:Gu 3 n b)(gc:Gu 3 n c)(gd:Gu 3 n d)(ge:Gu 3 n e)(gf:Gu 3 n f)(nz:d3 (y1-x1) (y2-x2) (y3-x3) (z1-x1) (z2-x2) (z3-x3) u1 u2 u3≠0)(k:AB):HS [cF [a,b,c,d],cF [b,c,d,e],cF [c,d,e,f]] k=sg (d3 (y1-x1) (y2-x2) (y3-x3) (z1-x1) (z2-x2) (z3-x3) u1 u2 u3)*(q4 a b c d k+q4 b c d e k+q4 c d e f k):=by
 obtain⟨s1,s2,s3⟩:=Dw hM ha hb hc hd he hf;have hS:sg (d3 (y1-x1) (y2-x2) (y3-x3) (z1-x1) (z2-x2) (z3-x3) u1 u2 u3)≠0:=λz=>nz (pK.mp z);have e1:=kR hn ga gb gc gd s1 hS k;have e2:=kR hn gb gc gd ge s2 hS k;have e3:=kR hn gc gd ge gf s3 hS k;simp only[HS];rw[e1,e2,e3,qc,qc];omega
theorem HS2{n:Nat}(hn:n<=1000){M x1 x2 x3 y1 y2 y3 z1 z2 z3 u1 u2 u3:Int}{a b c d e f:AA}(hM:0<M)(ha:bF M x1 x2 x3 a)(hb:bF M y1 y2 y3 b)(hc:bF M z1 z2 z3 c)(hd:bF M (x1+u1) (x2+u2) (x3+u3) d)(he:bF M (y1+u1) (y2+u2) (y3+u3) e)(hf:bF M (z1+u1) (z2+u2) (z3+u3) f)(ga:Gu 3 n a)(gb:Gu 3 n b)(gc:Gu 3 n c)(gd:Gu 3 n d)(ge:Gu 3 n e)(gf:Gu 3 n f)(nz:d3 (y1-x1) (y2-x2) (y3-x3) (z1-x1) (z2-x2) (z3-x3) u1 u2 u3≠0)(k:AB):HS [cF [b,a,c,e],cF [a,c,e,d],cF [c,e,d,f]] k=HS [cF [a,b,c,d],cF [b,c,d,e],cF [c,d,e,f]] k/\HS [cF [a,c,b,d],cF [c,b,d,f],cF [b,d,f,e]] k=HS [cF [a,b,c,d],cF [b,c,d,e],cF [c,d,e,f]] k:=by
 have w0:=Jg hM ha hb he hd (by omega) (by omega) (by omega) k;have w1:=Jg hM hb hc hf he (by omega) (by omega) (by omega) k;have w2:=Jg hM ha hc hf hd (by omega) (by omega) (by omega) k;have i1:d3 (x1-y1) (x2-y2) (x3-y3) (z1-y1) (z2-y2) (z3-y3) u1 u2 u3=(-1)*d3 (y1-x1) (y2-x2) (y3-x3) (z1-x1) (z2-x2) (z3-x3) u1 u2 u3:=by unfold d3;grind
 have i2:d3 (z1-x1) (z2-x2) (z3-x3) (y1-x1) (y2-x2) (y3-x3) u1 u2 u3=(-1)*d3 (y1-x1) (y2-x2) (y3-x3) (z1-x1) (z2-x2) (z3-x3) u1 u2 u3:=by unfold d3;grind
 have m1:sg (-1)=-1:=by decide
 constructor
 .rw[zK hn hM ha hb hc hd he hf ga gb gc gd ge gf nz k,zK hn hM hb ha hc he hd hf gb ga gc ge gd gf (by rw[i1];omega) k,ae2 ha.pw hb.pw hc.pw hd.pw he.pw hf.pw w0 w1 w2,i1,Qp,m1]
  grind
 .rw[zK hn hM ha hb hc hd he hf ga gb gc gd ge gf nz k,zK hn hM ha hc hb hd hf he ga gc gb gd gf ge (by rw[i2];omega) k,ae4 ha.pw hb.pw hc.pw hd.pw he.pw hf.pw w0 w1 w2,i2,Qp,m1]
  grind
theorem Cg{α:Type}{b c q r:α}(h:[b,c].Perm [q,r]):b=q/\c=r\/b=r/\c=q:=by
 have hb:b∈[q,r]:=h.mem_iff.mp (by simp);have hb:b=q\/b=r:=by simpa using hb
 rcases hb with rfl |rfl
 .exact .inl ⟨rfl,by simpa using h.cons_inv⟩
 .exact .inr ⟨rfl,by simpa using(h.trans (.swap ..)).cons_inv⟩
theorem ab7{α:Type}{A:List α}{p q r:α}(h:A.Perm [p,q,r]):A=[p,q,r]\/A=[q,p,r]\/A=[p,r,q]\/A=[q,r,p]\/A=[r,p,q]\/A=[r,q,p]:=by
 match A,h.length_eq,h with
 |[a,b,c],_,h=>
  have ha:a∈[p,q,r]:=h.mem_iff.mp (by simp);have ha:a=p\/a=q\/a=r:=by simpa using ha
  rcases ha with rfl |rfl |rfl
  .rcases Cg h.cons_inv with⟨rfl,rfl⟩|⟨rfl,rfl⟩<;>simp
  .rcases Cg (h.trans (.swap ..)).cons_inv with⟨rfl,rfl⟩|⟨rfl,rfl⟩<;>simp
  .rcases Cg ((h.trans (.cons _ (.swap ..))).trans (.swap ..)).cons_inv with⟨rfl,rfl⟩|⟨rfl,rfl⟩<;>simp
theorem xJ{k l:Nat}(hk:k+l+1<=1000){p q r f:AA}(g0:Gu 2 k p)(g1:Gu 2 k q)(g2:Gu 2 k r)(gf:Gu 3 l f)(hc:f.getD 2 0≠0)(nz:dU [p,q,r]≠0)(kk:AB):HS (cT f [q,p,r]) kk=HS (cT f [p,q,r]) kk/\HS (cT f [p,r,q]) kk=HS (cT f [p,q,r]) kk:=by
 have r0:=iH g0;have r1:=iH g1;have r2:=iH g2;obtain⟨x0,y0,w0,rfl,q0,_⟩:=g0.two';obtain⟨x1,y1,w1,rfl,q1,_⟩:=g1.two';obtain⟨x2,y2,w2,rfl,q2,_⟩:=g2.two';obtain⟨n1,n2,n3,e,rfl,he,_⟩:=gf.three';have hW:0<w0*w1*w2:=aw (aw q0 q1) q2;have hM:=aw hW he;have ha:bF (w0*w1*w2*e) (x0*w1*w2*e) (y0*w1*w2*e) 0 (ra [x0,y0,w0]):=⟨x0,y0,0,w0,rfl,q0,by grind,by grind,by grind⟩;have hb:bF (w0*w1*w2*e) (x1*w0*w2*e) (y1*w0*w2*e) 0 (ra [x1,y1,w1]):=⟨x1,y1,0,w1,rfl,q1,by grind,by grind,by grind⟩;have hd:bF (w0*w1*w2*e) (x2*w0*w1*e) (y2*w0*w1*e) 0 (ra [x2,y2,w2]):=⟨x2,y2,0,w2,rfl,q2,by grind,by grind,by grind⟩;have hf:bF (w0*w1*w2*e) (w0*w1*w2*n1) (w0*w1*w2*n2) (w0*w1*w2*n3) [n1,n2,n3,e]:=⟨n1,n2,n3,e,rfl,he,by grind,by grind,by grind⟩;have nz':d3 (x1*w0*w2*e-x0*w1*w2*e) (y1*w0*w2*e-y0*w1*w2*e) (0-0) (x2*w0*w1*e-x0*w1*w2*e) (y2*w0*w1*e-y0*w1*w2*e) (0-0) (w0*w1*w2*n1) (w0*w1*w2*n2) (w0*w1*w2*n3)≠0:=by
  rw[Hf];exact cf (cf (cf (cf (cf (by omega) (by omega)) (by omega)) (by omega)) hc) nz
 have m:∀{o:AA},Gu 3 k o->Gu 3 1000 o:=λgo=>go.mono (by omega);have mu:∀{o:AA},Gu 3 k o->Gu 3 1000 (cM 1 [n1,n2,n3,e] o):=λgo=>(fB (way:=1) (.inl rfl) go gf).1.mono (by omega);exact HS2 (aj 1000) hM ha hb hd (ha.go r0 gf hf) (hb.go r1 gf hf) (hd.go r2 gf hf) (m r0) (m r1) (m r2) (mu r0) (mu r1) (mu r2) nz' kk
theorem T6{k l:Nat}(hk:k+l+1<=1000){p q r f:AA}(g0:Gu 2 k p)(g1:Gu 2 k q)(g2:Gu 2 k r)(gf:Gu 3 l f)(hc:f.getD 2 0≠0)(nz:∀A:AB,A.Perm [p,q,r]->dU A≠0){A:AB}(h:A.Perm [p,q,r])(kk:AB):HS (cT f A) kk=HS (cT f [p,q,r]) kk:=by
 have N:=nz _ (.refl _);have N1:=nz [q,p,r] (.swap ..);have N2:=nz [p,r,q] (.cons _ (.swap ..));obtain⟨a1,a2⟩:=xJ hk g0 g1 g2 gf hc N kk;have b:=(xJ hk g1 g0 g2 gf hc N1 kk).2;obtain⟨c1,_⟩:=xJ hk g0 g2 g1 gf hc N2 kk;have N3:=nz [r,p,q] (List.Perm.trans (.swap ..) (.cons _ (.swap ..)));have d:=(xJ hk g2 g0 g1 gf hc N3 kk).2;rcases ab7 h with rfl |rfl |rfl |rfl |rfl |rfl
 .rfl
 .exact a1
 .exact a2
 .exact b.trans a1
 .exact c1.trans a2
 .exact d.trans (c1.trans a2)
theorem bF.self{k:Nat}{o:AA}(h:Gu 3 k o):∃x y z w,0<w/\bF w x y z o:=by
 obtain⟨x,y,z,w,rfl,p,_⟩:=h.three';exact⟨x,y,z,w,p,x,y,z,w,rfl,p,rfl,rfl,rfl⟩
theorem aaJ{k l m:Nat}{o f g:AA}(ho:Gu 3 k o)(hf:Gu 3 l f)(hg:Gu 3 m g):cM 1 f (cM 1 g o)=cM 1 g (cM 1 f o):=by
 obtain⟨x,y,z,w,p0,A⟩:=bF.self ho;obtain⟨a,b,c,e,p1,B⟩:=bF.self hf;obtain⟨a',b',c',e',p2,C⟩:=bF.self hg;have hM:0<w*e*e':=aw (aw p0 p1) p2;have A':=(A.scale (m:=e*e')).to (M':=w*e*e') (by grind) rfl rfl rfl;have B':=(B.scale (m:=w*e')).to (M':=w*e*e') (by grind) rfl rfl rfl;have C':=(C.scale (m:=w*e)).to (M':=w*e*e') (by grind) rfl rfl rfl;have G1:=(fB (way:=1) (.inl rfl) ho hg).1;have G2:=(fB (way:=1) (.inl rfl) ho hf).1;exact bF.eq hM (fB (way:=1) (.inl rfl) G1 hf).1 (fB (way:=1) (.inl rfl) G2 hg).1 ((A'.go ho hg C').go G1 hf B') (((A'.go ho hf B').go G2 hg C').to rfl (by omega) (by omega) (by omega))
theorem xT{k l:Nat}{o g:AA}(ho:Gu 2 k o)(hg:Gu 2 l g):ra (cM 1 g o)=cM 1 (ra g) (ra o):=by
 obtain⟨G,A⟩:=fB (way:=1) (.inl rfl) ho hg;obtain⟨x',y',w',e',p',_⟩:=G.two';obtain⟨x,y,w,x2,y2,w2,e1,e2,A1,A2⟩:=A.two;obtain⟨x3,y3,w3,e3,p3,_⟩:=ho.two';obtain⟨a,b,e,e4,p4,_⟩:=hg.two';have R1:=iH G;have R2:=iH ho;have R3:=iH hg;have R4:=(fB (way:=1) (.inl rfl) R2 R3).1;subst e4;rw[e1]at e3;rw[e']at e2;simp only[dk,and_true]at e3 e2;obtain⟨rfl,rfl,rfl⟩:=e3;obtain⟨rfl,rfl,rfl⟩:=e2;have ge:[a,b,e].getLastD 0=e:=rfl;rw[ge,ir]at A1 A2;have A1:x'*(e*w)=(e*x+a*w)*w':=A1;have A2:y'*(e*w)=(e*y+b*w)*w':=A2;have L:bF (e*w) (e*x+w*a) (e*y+w*b) (e*0+w*0) (ra [x',y',w']):=⟨x',y',0,w',rfl,p',by rw[A1];grind,by rw[A2];grind,by omega⟩;have O:bF (e*w) (e*x) (e*y) (e*0) (ra [x,y,w]):=⟨x,y,0,w,rfl,p3,by grind,by grind,by grind⟩;have F:bF (e*w) (w*a) (w*b) (w*0) (ra [a,b,e]):=⟨a,b,0,e,rfl,p4,by grind,by grind,by grind⟩;rw[e']at R1⊢;rw[e1]at R2 R4⊢;exact bF.eq (aw p4 p3) R1 R4 L (O.go R2 R3 F)
theorem aaN{k l m:Nat}(hk:k+l+m+2<=1000){uss:AB}(h:Sx 2 k uss){f g:AA}(gf:Gu 3 l f)(hc:f.getD 2 0≠0)(gg:Gu 2 m g)(kk:AB):HS (cT f (eL 1 g uss)) kk=HS ((cT f uss).map (eL 1 (ra g))) kk:=by
 have S:=xO (.inl rfl) (way:=1) (.inl rfl) h gg (by omega);have hl:=h.len;have hg:=h.gu;clear h
 match uss,hl,hg,S with
 |[p,q,r],_,hg,S=>
  have g0:=hg p (by simp);have g1:=hg q (by simp);have g2:=hg r (by simp);have m0:=(fB (way:=1) (.inl rfl) g0 gg).1;have m1:=(fB (way:=1) (.inl rfl) g1 gg).1;have m2:=(fB (way:=1) (.inl rfl) g2 gg).1;have em:eL 1 g [p,q,r]=cF [cM 1 g p,cM 1 g q,cM 1 g r]:=rfl;have P:(eL 1 g [p,q,r]).Perm [cM 1 g p,cM 1 g q,cM 1 g r]:=by rw[em];exact tF (.inl rfl)
  clear em;generalize eL 1 g [p,q,r]=X at S P⊢;have nz:∀A:AB,A.Perm [cM 1 g p,cM 1 g q,cM 1 g r]->dU A≠0:=λA hA z=>by
   have hp:=hA.trans P.symm;have:=Ir (.inl rfl) hp.symm [] (by rw[eh];exact S.len) λu hu=>(S.gu u (by simpa using hu)).pt;have nz:=S.nz;simp only[eh]at this;omega
  rw[T6 (by omega) m0 m1 m2 gf hc nz P kk];have rg:=iH gg;have u:∀{o:AA},Gu 2 k o->hU f (cM 1 g o)=cM 1 (ra g) (hU f o):=λgo=>by
   unfold hU;rw[xT go gg];exact aaJ (iH go) gf rg
  simp only[cT,lL,aq,br];rw[rG rfl,rG rfl,rG rfl,u g0,u g1,u g2,xT g0 gg,xT g1 gg,xT g2 gg];rfl
theorem Nu{A B C:AB->AC}{kk:AB}:∀{hs:AC},(∀u∈hs,HS (A u) kk=HS (B u) kk+HS (C u) kk)->HS (hs.flatMap A) kk=HS (hs.flatMap B) kk+HS (hs.flatMap C) kk
 |[],_=>by simp[HS]
 |u::hs,h=>by
  have ih:=Nu (hs:=hs) λv hv=>h v (bj _ hv);have e:=h u bh;rw[dm,dm,dm,rM,rM,rM,ih,e];omega
theorem Ws{D:AB->AB}{A B:AB->AC}{kk:AB}:∀{hs:AC},(∀u∈hs,HS (A (D u)) kk=HS (B u) kk)->HS ((hs.map D).flatMap A) kk=HS (hs.flatMap B) kk
 |[],_=>by simp[HS]
 |u::hs,h=>by
  have ih:=Ws (hs:=hs) λv hv=>h v (bj _ hv);have e:=h u bh;rw[aq,dm,dm,rM,rM,ih,e]
theorem Te{A:AB->AC}{D:AB->AB}:∀{hs:AC},(hs.flatMap A).map D=hs.flatMap λu=>(A u).map D
 |[]=>rfl
 |u::hs=>by rw[dm,dm,ee,Te]
theorem Qy{k l:Nat}(hk:k+l+l+2<=1000){hs:AC}(h:∀u∈hs,Sx 2 k u){fs ft fu:AA}(gs:Gu 3 l fs)(gt:Gu 3 l ft)(gu:Gu 3 l fu){n1 n2 n3 e s1 s2 t1 t2:Int}(he:0<e)(p1:0<s1)(p2:0<s2)(p3:0<t1)(p4:0<t2)(hn:n3≠0)(as:bF (s2*e) (s1*n1) (s1*n2) (s1*n3) fs)(bt:bF (t2*e) (t1*n1) (t1*n2) (t1*n3) ft)(au:bF (s2*t2*e) ((s1*t2+t1*s2)*n1) ((s1*t2+t1*s2)*n2) ((s1*t2+t1*s2)*n3) fu)(kk:AB):HS (hs.flatMap (cT fu)) kk=HS (hs.flatMap (cT fs)++(hs.flatMap (cT ft)).map (eL 1 fs)) kk:=by
 rw[rM,Te];exact Nu λu hu=>O5 hk (h u hu) gs gt gu he p1 p2 p3 p4 hn as bt au kk
theorem F0{k l m:Nat}(hk:k+l+m+2<=1000){hs:AC}(h:∀u∈hs,Sx 2 k u){f g:AA}(gf:Gu 3 l f)(hc:f.getD 2 0≠0)(gg:Gu 2 m g)(kk:AB):HS ((hs.map (eL 1 g)).flatMap (cT f)) kk=HS ((hs.flatMap (cT f)).map (eL 1 (ra g))) kk:=by
 rw[Te];exact Ws λu hu=>aaN hk (h u hu) gf hc gg kk
theorem Tp{k l:Nat}(hk:k+l+1<=1000){uss:AB}(h:Sx 2 k uss){f:AA}(gf:Gu 3 l f)(hc:f.getD 2 0≠0):∀t∈lL f uss,t.length=3+1/\(∀us∈t,Gu 3 (k+l+1) us)/\dU t≠0:=by
 have hl:=h.len;have hg:=h.gu;have nz:=h.nz;clear h
 match uss,hl,hg,nz with
 |[p,q,r],_,hg,nz=>
  have g0:=hg p (by simp);have g1:=hg q (by simp);have g2:=hg r (by simp);have r0:=iH g0;have r1:=iH g1;have r2:=iH g2;have u0:Gu 3 (k+l+1) (hU f p):=(fB (way:=1) (.inl rfl) r0 gf).1;have u1:Gu 3 (k+l+1) (hU f q):=(fB (way:=1) (.inl rfl) r1 gf).1;have u2:Gu 3 (k+l+1) (hU f r):=(fB (way:=1) (.inl rfl) r2 gf).1;have key:dU [ra p,ra q,ra r,hU f p]≠0/\dU [ra q,ra r,hU f p,hU f q]≠0/\dU [ra r,hU f p,hU f q,hU f r]≠0:=by
   clear u0 u1 u2;obtain⟨x0,y0,w0,rfl,q0,_⟩:=g0.two';obtain⟨x1,y1,w1,rfl,q1,_⟩:=g1.two';obtain⟨x2,y2,w2,rfl,q2,_⟩:=g2.two';obtain⟨n1,n2,n3,e,rfl,he,_⟩:=gf.three';have hW:0<w0*w1*w2:=aw (aw q0 q1) q2;have hM:=aw hW he;have ha:bF (w0*w1*w2*e) (x0*w1*w2*e) (y0*w1*w2*e) 0 (ra [x0,y0,w0]):=⟨x0,y0,0,w0,rfl,q0,by grind,by grind,by grind⟩;have hb:bF (w0*w1*w2*e) (x1*w0*w2*e) (y1*w0*w2*e) 0 (ra [x1,y1,w1]):=⟨x1,y1,0,w1,rfl,q1,by grind,by grind,by grind⟩;have hd:bF (w0*w1*w2*e) (x2*w0*w1*e) (y2*w0*w1*e) 0 (ra [x2,y2,w2]):=⟨x2,y2,0,w2,rfl,q2,by grind,by grind,by grind⟩;have hf:bF (w0*w1*w2*e) (w0*w1*w2*n1) (w0*w1*w2*n2) (w0*w1*w2*n3) [n1,n2,n3,e]:=⟨n1,n2,n3,e,rfl,he,by grind,by grind,by grind⟩;obtain⟨s1,s2,s3⟩:=Dw hM ha hb hd (ha.go r0 gf hf) (hb.go r1 gf hf) (hd.go r2 gf hf);rw[Hf]at s1 s2 s3;have N:∀{d:Int},sg d=sg (e*e*(w0*w1*w2)*(w0*w1*w2)*n3*D2 x0 y0 w0 x1 y1 w1 x2 y2 w2)->d≠0:=λ{d} i z=>by
    have i:=i.symm;rw[z,pK.mpr rfl,pK]at i;exact cf (cf (cf (cf (cf (by omega) (by omega)) (by omega)) (by omega)) hc) nz i
   exact⟨N s1,N s2,N s3⟩
  have r0:=r0.mono (show k<=k+l+1 by omega);have r1:=r1.mono (show k<=k+l+1 by omega);have r2:=r2.mono (show k<=k+l+1 by omega);intro t ht;have ht:t=[ra p,ra q,ra r,hU f p]\/t=[ra q,ra r,hU f p,hU f q]\/t=[ra r,hU f p,hU f q,hU f r]:=by simpa[lL]using ht
  rcases ht with rfl |rfl |rfl
  .exact⟨rfl,by simpa using⟨r0,r1,r2,u0⟩,key.1⟩
  .exact⟨rfl,by simpa using⟨r1,r2,u0,u1⟩,key.2.1⟩
  .exact⟨rfl,by simpa using⟨r2,u0,u1,u2⟩,key.2.2⟩
theorem abu(S:aG){n1 n2 n3 e s1 s2:Int}(h1:Bd 2000 n1)(h2:Bd 2000 n2)(h3:Bd 2000 n3)(h4:Bd 2000 e)(h5:Bd 2000 s1)(h6:Bd 2000 s2):kU [.pv (tv [n1,n2,n3,e]),.pv (.tup [.int s1,.int s2])] S=.ok (.pv (tv (low ([s1*n1,s1*n2,s1*n3]++[s2*e])))) S:=by
 have b:∀{s n:Int},Bd 2000 s->Bd 2000 n->Bd 8000 (s*n):=λhs hn=>(hs.mul hn).mono (by omega);have e1:=mM ([s1*n1,s1*n2,s1*n3]++[s2*e]) S (λn hn=>by
  have hn:n=s1*n1\/n=s1*n2\/n=s1*n3\/n=s2*e:=by simpa using hn
  rcases hn with rfl |rfl |rfl |rfl
  .exact b h5 h1
  .exact b h5 h2
  .exact b h5 h3
  .exact b h6 h4)
 have e1:gW [.pv (.lst [.int (s1*n1),.int (s1*n2),.int (s1*n3),.int (s2*e)])] S=.ok (.pv (tv (low ([s1*n1,s1*n2,s1*n3]++[s2*e])))) S:=e1;generalize low ([s1*n1,s1*n2,s1*n3]++[s2*e])=L at *;have m1:=mB h5 h1;have m2:=mB h5 h2;have m3:=mB h5 h3;have m4:=mB h6 h4;unfold kU aS La;simp! [aE,aZ,bA,aK,aN,aO,aM,aP,aF,aL,tv,bC,bB,bW,dG,dM,dD,fT,gL,iR,HT.sIx,bX,eF,eA,gN,m1,m2,m3,m4,e1]
theorem Wc{l m:Nat}(hl:l+m<=1000){n1 n2 n3 e s1 s2:Int}(h:Gu 3 l [n1,n2,n3,e])(b1:Bd m s1)(b2:Bd m s2)(p2:0<s2):∃f,(∀S,kU [.pv (tv [n1,n2,n3,e]),.pv (.tup [.int s1,.int s2])] S=.ok (.pv (tv f)) S)/\Gu 3 (l+m) f/\bF (s2*e) (s1*n1) (s1*n2) (s1*n3) f:=by
 obtain⟨x,y,z,w,e0,p,c1,c2,c3,c4⟩:=h.three';simp only[dk,and_true]at e0;obtain⟨rfl,rfl,rfl,rfl⟩:=e0;have q:∀{s n:Int},Bd m s->Bd l n->Bd (l+m) (s*n):=λhs hn=>(hs.mul hn).mono (by omega);obtain⟨zs,z,e1,P,v⟩:=tT (n:=3) (k:=l+m) (L:=[s1*n1,s1*n2,s1*n3]) (b:=s2*e) (aw p2 p) rfl (λx hx=>by
  have hx:x=s1*n1\/x=s1*n2\/x=s1*n3:=by simpa using hx
  rcases hx with rfl |rfl |rfl
  .exact q b1 c1
  .exact q b1 c2
  .exact q b1 c3) (q b2 c4)
 refine⟨zs++[z],λS=>?_,⟨zs,z,rfl,P⟩,?_⟩
 .rw[<-e1];exact abu S (c1.mono (by omega)) (c2.mono (by omega)) (c3.mono (by omega)) (c4.mono (by omega)) (b1.mono (by omega)) (b2.mono (by omega))
 .match zs,P.len,v with
  |[a,b,c],_,v=>exact⟨a,b,c,z,rfl,P.pos,v 0 (by omega),v 1 (by omega),v 2 (by omega)⟩
theorem Ee{n k l:Nat}{us f:AA}(S:aG)(hn:n=2\/n=3)(h:Gu n k us)(g:Gu n l f)(hk:k<=1000)(hl:l<=1000):kY [.pv (tv us),.pv (tv f)] S=.ok (.pv (tv (cM 1 f us))) S:=by
 obtain⟨xs,w,rfl,P⟩:=h;obtain⟨ys,v,rfl,Q⟩:=g;rw[xG];have e2:mv 1 xs w ys v=low (sm xs w ys v++[w*v]):=if_pos rfl;rw[e2];have l1:=P.len;have l2:=Q.len;exact Dc S (by omega) (by omega) P.pos Q.pos (λx hx=>(P.bx x hx).mono (by omega)) (λx hx=>(Q.bx x hx).mono (by omega)) (P.bw.mono (by omega)) (Q.bw.mono (by omega))
theorem aaO{k l:Nat}(hk:k+l+1<=1000){uss:AB}(h:Sx 2 k uss){f:AA}(g:Gu 3 l f)(hc:f.getD 2 0≠0):∀t∈lL f uss,t.length=3+1/\(∀us∈t,Gu 3 1000 us)/\dU t≠0:=λt ht=>
 let⟨a,b,c⟩:=Tp hk h g hc t ht
 ⟨a,λus hu=>(b us hu).mono hk,c⟩
theorem aed{k l:Nat}(hk:k+l+1<=1000){uss:AB}(h:Sx 2 k uss){f:AA}(g:Gu 3 l f)(hc:f.getD 2 0≠0)(S:aG):∀t∈lL f uss,mL [.pv (.lst (t.map tv))] S=.ok (.pv (px (cF t))) S/\lQ [.pv (.lst (t.map tv))] S=.ok (.pv (px (cF t))) S:=λt ht=>by
 obtain⟨a,b,c⟩:=aaO hk h g hc t ht;exact⟨Ej (A:=.lst (t.map tv)) (.inr rfl) S a b (.inl rfl) (by
   rw[rF (.inr rfl) (aj 1000) a b];exact λz=>c (pK.mp z)),vE (A:=.lst (t.map tv)) (.inr rfl) S a b (.inl rfl)⟩
theorem r03(S:aG):gR [.pv (.int 3)] S=.ok ([.int 0,.int 1,.int 2],[]) S:=by
 have rg:=qI S (n:=3) (by decide);rw[show((3:Nat):Int)=3 from rfl]at rg;exact rg
abbrev pB:MS:=(aI (aU 4 (bC ["p"] [] (bB (aA 3)) (gN 0) (aJ qR [] (aB (aA 0) aD)))) (aI (aU 5 (aC aF (aA 4) (bC ["p"] [(1,"arrow")] (bB (aA 4)) (gN 0) (aJ kY [] (aB (aA 0) (aB (aA 1) aD)))))) (rP 2 (bC ["k"] [(5,"corners")] (cG (aB (mC (.int 3)) aD)) (gN 0) (gZ mL [] (aB (dG (aA 1) (dD (aA 0)) (dD (aC aF (aA 0) (mC (.int 4))))) aD))))))
theorem aee{k l:Nat}(hk:k+l+1<=1000)(ms:AA){f:AA}(g:Gu 3 l f)(hc:f.getD 2 0≠0)(gs:AC)(hgs:gs.length<=90){uss:AB}(h:Sx 2 k uss)(x0 x4 x5:AJ):∃y4 y5:AJ,pB [x0,some (.pv (tv f)),some (.ref 1),some (.pv (px uss)),x4,x5] [.lst (li ms),.lst (gs.map px)]=.nx [x0,some (.pv (tv f)),some (.ref 1),some (.pv (px uss)),y4,y5] [.lst (li ms),.lst ((gs++cT f uss).map px)]:=by
 have sm4:=aed hk h g hc [.lst (li ms),.lst (gs.map px)];have lz:(gs.map px).length<=90:=by rw[am];exact hgs
 have hl:=h.len;have hg:=h.gu;clear h
 match uss,hl,hg,sm4 with
 |[p,q,r],_,hg,sm4=>
  have g0:=hg p (by simp);have g1:=hg q (by simp);have g2:=hg r (by simp);have i0:=(wF [.lst (li ms),.lst (gs.map px)] g0).1;have i1:=(wF [.lst (li ms),.lst (gs.map px)] g1).1;have i2:=(wF [.lst (li ms),.lst (gs.map px)] g2).1;have j0:kY [.pv (tv (ra p)),.pv (tv f)] [.lst (li ms),.lst (gs.map px)]=.ok (.pv (tv (hU f p))) [.lst (li ms),.lst (gs.map px)]:=Ee _ (.inr rfl) (iH g0) g (by omega) (by omega);have j1:kY [.pv (tv (ra q)),.pv (tv f)] [.lst (li ms),.lst (gs.map px)]=.ok (.pv (tv (hU f q))) [.lst (li ms),.lst (gs.map px)]:=Ee _ (.inr rfl) (iH g1) g (by omega) (by omega);have j2:kY [.pv (tv (ra r)),.pv (tv f)] [.lst (li ms),.lst (gs.map px)]=.ok (.pv (tv (hU f r))) [.lst (li ms),.lst (gs.map px)]:=Ee _ (.inr rfl) (iH g2) g (by omega) (by omega);have k0:=(sm4 [ra p,ra q,ra r,hU f p] (by simp[lL])).1;have k1:=(sm4 [ra q,ra r,hU f p,hU f q] (by simp[lL])).1;have k2:=(sm4 [ra r,hU f p,hU f q,hU f r] (by simp[lL])).1;simp only[aq,br]at k0 k1 k2;have ep:(gs++cT f [p,q,r]).map px=gs.map px++[px (cF [ra p,ra q,ra r,hU f p]),px (cF [ra q,ra r,hU f p,hU f q]),px (cF [ra r,hU f p,hU f q,hU f r])]:=by simp[cT,lL]
  have hp:px [p,q,r]=.tup [tv p,tv q,tv r]:=rfl;rw[ep,hp];clear sm4 hg g0 g1 g2 hc g ep hp;generalize gs.map px=GL,tv f=TF,tv r=T2,tv q=T1,tv p=T0,tv (ra r)=L2,tv (ra q)=L1,tv (ra p)=L0,tv (hU f r)=H2,tv (hU f q)=H1,tv (hU f p)=H0,px (cF [ra r,hU f p,hU f q,hU f r])=P2,px (cF [ra q,ra r,hU f p,hU f q])=P1,px (cF [ra p,ra q,ra r,hU f p])=P0 at *;have s0:gL (.lst [L0,L1,L2,H0,H1,H2]) (some 0) (some 4)=some (.lst [L0,L1,L2,H0]):=rfl;have s1:gL (.lst [L0,L1,L2,H0,H1,H2]) (some 1) (some 5)=some (.lst [L1,L2,H0,H1]):=rfl;have s2:gL (.lst [L0,L1,L2,H0,H1,H2]) (some 2) (some 6)=some (.lst [L2,H0,H1,H2]):=rfl;have hz:GL.length+3<=16777216:=by omega
  refine⟨some (.pv (.lst [L0,L1,L2])),some (.pv (.lst [L0,L1,L2,H0,H1,H2])),?_⟩;have rg:=r03 [.lst (li ms),.lst GL];unfold pB;simp! [aE,aZ,bA,aK,aN,aO,aM,aP,aF,aL,bC,bX,bB,bW,eF,eA,gN,i0,i1,i2,j0,j1,j2,cG,rg,dG,dD,fT,s0,s1,s2,k0,k1,k2,rP,Rg,hz]
theorem Fv{k l:Nat}(hk:k+l+1<=1000)(ms:AA){f:AA}(g:Gu 3 l f)(hc:f.getD 2 0≠0)(x0:AJ):∀(hs gs:AC)(x3 x4 x5:AJ),(∀uss∈hs,Sx 2 k uss)->gs.length+3*hs.length<=90->∃y3 y4 y5:AJ,dZ [] (gN 3) pB (hs.map px) [x0,some (.pv (tv f)),some (.ref 1),x3,x4,x5] [.lst (li ms),.lst (gs.map px)]=.nx [x0,some (.pv (tv f)),some (.ref 1),y3,y4,y5] [.lst (li ms),.lst ((gs++hs.flatMap (cT f)).map px)]
 |[],gs,x3,x4,x5,_,_=>⟨x3,x4,x5,by simp[fR]⟩
 |uss::hs,gs,x3,x4,x5,h,hl=>by
  have hl:gs.length+3*(hs.length+1)<=90:=hl;obtain⟨y4,y5,e1⟩:=aee hk ms g hc gs (by omega) (h uss (by simp)) x0 x4 x5;have l3:(cT f uss).length=3:=by
   have:=(h uss (by simp)).len
   match uss,this with
   |[_,_,_],_=>rfl
  obtain⟨z3,z4,z5,e2⟩:=Fv hk ms g hc x0 hs (gs++cT f uss) (some (.pv (px uss))) y4 y5 (λy hy=>h y (bj _ hy)) (by rw[av,l3];omega);refine⟨z3,z4,z5,?_⟩;rw[ix]at e2;rw[aq,fG,dm];simp only[gN,jv,fg];rw[e1];exact e2
theorem qU{k l:Nat}(ms:AA)(hk:k+l+1<=1000){hs:AC}(h9:hs.length<=9){A:PV}(hA:Sv A (hs.map px))(h:∀uss∈hs,Sx 2 k uss){f:AA}(g:Gu 3 l f)(hc:f.getD 2 0≠0):mX [.pv A,.pv (tv f)] [.lst (li ms)]=.ok (.pv (.tup ((hs.flatMap (cT f)).map px))) [.lst (li ms)]:=by
 have e0:=aaG [.lst (li ms)] g;rw[if_neg hc]at e0;obtain⟨y3,y4,y5,e⟩:=Fv hk ms g hc (some (.pv A)) hs [] none none none h (by simp only[ye];omega);rw[eh,br]at e;have hb:Uc=(aI (dA (gZ sO [] (aB (aA 1) aD))) (aI (aU 2 (fZ aD)) (aI (bJ (bB (aA 0)) (gN 3) pB) (bG (mR fU (aB (aA 2) aD)))))):=rfl;unfold mX aS;rw[hb];generalize tv f=T,(hs.flatMap (cT f)).map px=ML,pB=PB1 at *;rcases hA with rfl |rfl<;>(generalize hs.map px=HL at *;simp! [aE,aZ,bA,aK,aN,aO,aM,aP,aF,aL,e0,fZ,nE,bJ,bB,bW,e])
theorem sq{a b:MS}{ρ ρ':bV}{S S':aG}{r:cV}(h:a ρ S=.nx ρ' S')(g:b ρ' S'=r):aI a b ρ S=r:=by
 rw[aI,h];exact g
theorem adj{np n:Nat}{b:MS}{xs:AK}{S S':aG}{v:AV}{r:bQ AV}(hl:xs.length=np)(h:b (jV n xs) S=.rt v S')(hc:nC S.length v S'=r):aS np n b xs S=r:=by
 unfold aS;rw[if_pos hl,h];exact hc
theorem aeN(L:AH){a:Nat}(h:a<=L.length):gL (.lst L) none (some (a:Int))=some (.lst (L.take a)):=by
 unfold gL;dsimp only;unfold iR;rw[HT.sIx_nat];show some (PV.lst ((L.drop 0).take (_-0)))=_;simp
theorem aeu(L:AH){a:Nat}(h:a<=L.length):gL (.lst L) (some (a:Int)) none=some (.lst (L.drop a)):=by
 unfold gL;dsimp only;unfold iR;rw[HT.sIx_nat];show some (PV.lst ((L.drop (min a L.length)).take (L.length-min a L.length)))=_;rw[xy h,tz (by rw[ow];omega)]
theorem tkl{ns:AA}{L:AH}{T:aG}{k:Nat}(hl:L.length+k<=1000)(h0:0<L.length+k):∃(a:Nat)(n1:AA),cC [.ref 0,.pv (.int ((L.length+k:Nat):Int))] (.lst (li ns)::T)=.ok (.pv (.int (a:Int))) (.lst (li n1)::T)/\a<L.length+k:=by
 obtain⟨a,n1,e,a0,a1,_⟩:=gX (m:=((L.length+k:Nat):Int)) (show fF (.lst (li ns)::T) 0 ns from rfl) (by omega) (jB (by omega) (by omega));exact⟨a.toNat,n1,by rw[show((a.toNat:Nat):Int)=a by omega];exact e,by omega⟩
theorem Sx.mono{n k l:Nat}{u:AB}(h:Sx n k u)(hl:k<=l):Sx n l u:=⟨h.len,λus hu=>(h.gu us hu).mono hl,h.nz,h.cn⟩
theorem Am(S:aG):∀(ns:AA)(x:AJ),cD [] (gN 0) (aC dI (mC (.int 0)) (aA 0)) (ns.map .int) [x] S=.ok ((ns.map (- ·)).map .int) S
 |[],x=>eA
 |n::ns,x=>by
  rw[aq,eF];simp! [gN,aE,aZ,bA,aK,aN,aO,aM,aP,aF,aL,Am S ns]
theorem Jr(ns:AA):∃g:Int,g≠0/\ns=(aW ns).map (g*·):=by
 obtain⟨g,e⟩:=G8 ns
 by_cases h:g=0
 .refine⟨1,by decide,?_⟩
  have z:∀n∈ns,n=0:=λn hn=>by
   rw[e,h]at hn;obtain⟨m,_,rfl⟩:=gq.mp hn;exact gw m
  have z2:∀n∈aW ns,n=0:=λn hn=>by
   unfold aW at hn;obtain⟨m,hm,rfl⟩:=gq.mp hn;have:m=0:=by
    unfold low at hm;split at hm
    .exact z m hm
    .obtain⟨x,hx,rfl⟩:=gq.mp hm
     rw[z x hx,Int.zero_ediv]
   rw[this,oy]
  have l:ns.length=(aW ns).length:=by unfold aW;rw[am,Xp]
  have e1:=u7 z;have e2:=u7 z2;rw[e2,<-l,List.map_replicate];exact e1
 .exact⟨g,h,e⟩
abbrev Pr(u v:AA):Prop:=∃a b:Int,a≠0/\b≠0/\u.map (a*·)=v.map (b*·)
theorem iD{u v:AA}:aW u=aW v↔Pr u v:=by
 constructor
 .intro h
  obtain⟨g,hg,e⟩:=Jr u;obtain⟨k,hk,f⟩:=Jr v;refine⟨k,g,hk,hg,?_⟩;have e1:=congrArg (kd (k*·)) e;have f1:=congrArg (kd (g*·)) f;rw[e1,f1,h,dh,dh];refine dz λx _=>?_;show k*(g*x)=g*(k*x);grind
 .rintro⟨a,b,ha,hb,e⟩
  exact nV ha hb e
def ext:AA->AA->AA
 |[a,b,c],[x,y,z,t]=>[a*t,b*t,c*t,0-(a*x+b*y+c*z)]
 |_,_=>[]
theorem Lg{a b c x y z t:Int}:ext [a,b,c] [x,y,z,t]=[a*t,b*t,c*t,0-(a*x+b*y+c*z)]:=rfl
def sK:AA->AA->AA
 |[a,b,c],[x,y,z,t]=>[a*t,b*t,c*t,y*c-z*b,z*a-x*c,x*b-y*a]
 |_,_=>[]
theorem Ng{a b c x y z t:Int}:sK [a,b,c] [x,y,z,t]=[a*t,b*t,c*t,y*c-z*b,z*a-x*c,x*b-y*a]:=rfl
def exf:AA->AA->AA
 |[a,b],[x,y,t]=>[-(b*t),a*t,x*b-y*a]
 |_,_=>[]
def fY:AA->AA->AA
 |[x0,y0,z0,w0],[x1,y1,z1,w1]=>[x1*w0-x0*w1,y1*w0-y0*w1,z1*w0-z0*w1,y0*z1-z0*y1,z0*x1-x0*z1,x0*y1-y0*x1]
 |_,_=>[]
theorem Vg{x0 y0 z0 w0 x1 y1 z1 w1:Int}:fY [x0,y0,z0,w0] [x1,y1,z1,w1]=[x1*w0-x0*w1,y1*w0-y0*w1,z1*w0-z0*w1,y0*z1-z0*y1,z0*x1-x0*z1,x0*y1-y0*x1]:=rfl
theorem Np{a b c d e f x y z t:Int}(ht:0<t):Pr (ext [a,b,c] [x,y,z,t]) (ext [d,e,f] [x,y,z,t])↔Pr [a,b,c] [d,e,f]:=by
 constructor
 .rintro⟨k,l,hk,hl,h⟩
  simp only[Lg,aq,br,dk,and_true]at h;refine⟨k*t,l*t,cf hk (by omega),cf hl (by omega),?_⟩;obtain⟨h1,h2,h3,_⟩:=h;exact l3 (by grind) (by grind) (by grind)
 .rintro⟨k,l,hk,hl,h⟩
  simp only[aq,br,dk,and_true]at h;obtain⟨h1,h2,h3⟩:=h;refine⟨k,l,hk,hl,?_⟩;simp only[Lg,aq,br,dk,and_true];exact⟨by grind,by grind,by grind,by grind⟩
theorem Lq{a b c d e f x y z t:Int}(ht:0<t):Pr (sK [a,b,c] [x,y,z,t]) (sK [d,e,f] [x,y,z,t])↔Pr [a,b,c] [d,e,f]:=by
 constructor
 .rintro⟨k,l,hk,hl,h⟩
  simp only[Ng,aq,br,dk,and_true]at h;refine⟨k*t,l*t,cf hk (by omega),cf hl (by omega),?_⟩;obtain⟨h1,h2,h3,_⟩:=h;exact l3 (by grind) (by grind) (by grind)
 .rintro⟨k,l,hk,hl,h⟩
  simp only[aq,br,dk,and_true]at h;obtain⟨h1,h2,h3⟩:=h;refine⟨k,l,hk,hl,?_⟩;simp only[Ng,aq,br,dk,and_true];exact⟨by grind,by grind,by grind,by grind,by grind,by grind⟩
theorem Kq{a b d e x y t:Int}(ht:0<t):Pr (exf [a,b] [x,y,t]) (exf [d,e] [x,y,t])↔Pr [a,b] [d,e]:=by
 constructor
 .rintro⟨k,l,hk,hl,h⟩
  simp only[exf,aq,br,dk,and_true]at h;refine⟨k*t,l*t,cf hk (by omega),cf hl (by omega),?_⟩;obtain⟨h1,h2,_⟩:=h;simp only[aq,br,dk,and_true];exact⟨by grind,by grind⟩
 .rintro⟨k,l,hk,hl,h⟩
  simp only[aq,br,dk,and_true]at h;obtain⟨h1,h2⟩:=h;refine⟨k,l,hk,hl,?_⟩;simp only[exf,aq,br,dk,and_true];exact⟨by grind,by grind,by grind⟩
theorem adJ{x0 y0 z0 w0 x1 y1 z1 w1 x2 y2 z2 w2:Int}(h0:0<w0)(h1:0<w1)(h2:0<w2):Pr (ext (cN [[x0,y0,z0,w0],[x1,y1,z1,w1],[x2,y2,z2,w2]]) [x0,y0,z0,w0]) (ext (cN [[x0,y0,z0,w0],[x1,y1,z1,w1],[x2,y2,z2,w2]]) [x1,y1,z1,w1])/\Pr (ext (cN [[x0,y0,z0,w0],[x1,y1,z1,w1],[x2,y2,z2,w2]]) [x0,y0,z0,w0]) (ext (cN [[x0,y0,z0,w0],[x1,y1,z1,w1],[x2,y2,z2,w2]]) [x2,y2,z2,w2]):=by
 refine⟨⟨w1,w0,by omega,by omega,?_⟩,⟨w2,w0,by omega,by omega,?_⟩⟩<;>
 .simp only[Lg,lG,lH,nK,fW,fX,aq,br,dk,and_true]
  exact⟨by grind,by grind,by grind,by grind⟩
theorem acn{x0 y0 z0 w0 x1 y1 z1 w1:Int}(h0:0<w0)(h1:0<w1):Pr (fY [x0,y0,z0,w0] [x1,y1,z1,w1]) (sK (dP [x0,y0,z0,w0] [x1,y1,z1,w1]) [x0,y0,z0,w0])/\Pr (fY [x0,y0,z0,w0] [x1,y1,z1,w1]) (sK (dP [x0,y0,z0,w0] [x1,y1,z1,w1]) [x1,y1,z1,w1]):=by
 refine⟨⟨w0,1,by omega,by omega,?_⟩,⟨w1,1,by omega,by omega,?_⟩⟩<;>
 .simp only[Vg,Ng,fW,fX,aq,br,dk,and_true]
  exact⟨by grind,by grind,by grind,by grind,by grind,by grind⟩
theorem ab5{x0 y0 z0 w0 x1 y1 z1 w1:Int}:aW (fY [x1,y1,z1,w1] [x0,y0,z0,w0])=aW (fY [x0,y0,z0,w0] [x1,y1,z1,w1]):=nV (a:=1) (b:=-1) (by decide) (by decide) (by
 simp only[Vg,aq,br,dk,and_true];exact⟨by grind,by grind,by grind,by grind,by grind,by grind⟩)
theorem abG{x0 y0 w0 x1 y1 w1:Int}(h0:0<w0)(h1:0<w1):Pr (eZ [x0,y0,w0] [x1,y1,w1]) (exf (dP [x0,y0,w0] [x1,y1,w1]) [x0,y0,w0])/\Pr (eZ [x0,y0,w0] [x1,y1,w1]) (exf (dP [x0,y0,w0] [x1,y1,w1]) [x1,y1,w1]):=by
 refine⟨⟨w0,1,by omega,by omega,?_⟩,⟨w1,1,by omega,by omega,?_⟩⟩<;>
 .simp only[nK,exf,fW,fX,aq,br,dk,and_true]
  exact⟨by grind,by grind,by grind⟩
def Lk(n:Nat)(k l:AB):Prop:=
 (n=3/\∃a b c d e f x y z t:Int,0<t/\k=[aW [a,b,c],aW [d,e,f],[x,y,z,t]]/\l=[aW (ext [a,b,c] [x,y,z,t]),aW (sK [d,e,f] [x,y,z,t]),[x,y,z,t]])\/
 (n=2/\∃a b x y t:Int,0<t/\k=[aW [-b,a],aW [a,b],[x,y,t]]/\l=[aW (exf [a,b] [x,y,t]),[x,y,t]])
theorem Lk.iff{n:Nat}{k l k' l':AB}(h:Lk n k l)(h':Lk n k' l'):k=k'↔l=l':=by
 rcases h with⟨hn,a,b,c,d,e,f,x,y,z,t,ht,rfl,rfl⟩|⟨hn,a,b,x,y,t,ht,rfl,rfl⟩<;>
 rcases h' with⟨hn',a',b',c',d',e',f',x',y',z',t',ht',rfl,rfl⟩|⟨hn',a',b',x',y',t',ht',rfl,rfl⟩
 .have key:∀P:Prop,(P/\[x,y,z,t]=[x',y',z',t'])=([x,y,z,t]=[x',y',z',t']/\P):=λP=>by rw[and_comm]
  simp only[dk,and_true];constructor
  .rintro⟨h1,h2,rfl,rfl,rfl,rfl⟩
   exact⟨iD.mpr ((Np ht).mpr (iD.mp h1)),iD.mpr ((Lq ht).mpr (iD.mp h2)),rfl,rfl,rfl,rfl⟩
  .rintro⟨h1,h2,rfl,rfl,rfl,rfl⟩
   exact⟨iD.mpr ((Np ht).mp (iD.mp h1)),iD.mpr ((Lq ht).mp (iD.mp h2)),rfl,rfl,rfl,rfl⟩
 .omega
 .omega
 .simp only[dk,and_true]
  constructor
  .rintro⟨_,h2,rfl,rfl,rfl⟩
   exact⟨iD.mpr ((Kq ht).mpr (iD.mp h2)),rfl,rfl,rfl⟩
  .rintro⟨h1,rfl,rfl,rfl⟩
   have q:=(Kq ht).mp (iD.mp h1);refine⟨?_,iD.mpr q,rfl,rfl,rfl⟩;obtain⟨k,l,hk,hl,h⟩:=q;simp only[aq,br,dk,and_true]at h;refine nV hk hl ?_;simp only[aq,br,dk,and_true];exact⟨by grind,by grind⟩
def iJ(n:Nat):List cZ->List cZ->Prop
 |[],[]=>True
 |c::C,d::D=>(Lk n c.1 d.1/\c.2=d.2)/\iJ n C D
 |_,_=>False
theorem iJ.app{n:Nat}:∀{C D C' D':List cZ},iJ n C D->iJ n C' D'->iJ n (C++C') (D++D')
 |[],[],_,_,_,h=>h
 |c::C,d::D,_,_,h,h'=>⟨h.1,h.2.app h'⟩
theorem iJ.at{n:Nat}{k l:AB}(hk:Lk n k l):∀{C D:List cZ},iJ n C D->dB C k=dB D l
 |[],[],_=>rfl
 |c::C,d::D,h=>by
  unfold dB;rw[iJ.at hk h.2,h.1.2]
  by_cases e:c.1=k
  .rw[if_pos e,if_pos ((h.1.1.iff hk).mp e)]
  .rw[if_neg e,if_neg λz=>e ((h.1.1.iff hk).mpr z)]
theorem iJ.one{n:Nat}:∀{C D:List cZ},iJ n C D->(∀c∈C,∃d∈D,Lk n c.1 d.1)/\(∀d∈D,∃c∈C,Lk n c.1 d.1)
 |[],[],_=>⟨λ_ h=>absurd h fz,λ_ h=>absurd h fz⟩
 |c::C,d::D,h=>by
  have ih:=iJ.one h.2;refine⟨λx hx=>?_,λx hx=>?_⟩
  .rcases cq.mp hx with rfl |hx
   .exact⟨d,bh,h.1.1⟩
   .obtain⟨y,hy,z⟩:=ih.1 x hx
    exact⟨y,bj _ hy,z⟩
  .rcases cq.mp hx with rfl |hx
   .exact⟨c,bh,h.1.1⟩
   .obtain⟨y,hy,z⟩:=ih.2 x hx
    exact⟨y,bj _ hy,z⟩
theorem De{k:AB}:∀{C:List cZ},(∀c∈C,c.1≠k)->dB C k=0
 |[],_=>rfl
 |c::C,h=>by
  unfold dB;rw[if_neg (h c bh),De λd hd=>h d (bj _ hd)];rfl
theorem iJ.iff{n:Nat}{C D:List cZ}(h:iJ n C D):(∀k,dB C k=0)↔∀l,dB D l=0:=by
 constructor
 .intro z l
  by_cases q:∃d∈D,d.1=l
  .obtain⟨d,hd,rfl⟩:=q
   obtain⟨c,_,hc⟩:=h.one.2 d hd;rw[<-h.at hc];exact z _
  .exact De λd hd e=>q ⟨d,hd,e⟩
 .intro z k
  by_cases q:∃c∈C,c.1=k
  .obtain⟨c,hc,rfl⟩:=q
   obtain⟨d,_,hd⟩:=h.one.1 c hc;rw[h.at hd];exact z _
  .exact De λc hc e=>q ⟨c,hc,e⟩
abbrev oY:MS:=(aI (cS (bK (aC fP (aA 2) (mC (.int 0)))) (bG (aA 1)) dE) (cS (bK (aC kB (aA 2) (mC (.int 0)))) (bG (mR fU (aB (bC ["_law_one"] [] (bB (aA 1)) (gN 0) (aC dI (mC (.int 0)) (aA 0))) aD))) dE))
theorem Cq(S:aG)(TL:AA)(x0:AJ):∀(L:AA)(x2:AJ),(dX L=0/\∃y2,dZ [] (gN 2) oY (L.map .int) [x0,some (.pv (tv TL)),x2] S=.nx [x0,some (.pv (tv TL)),y2] S)\/(dX L≠0/\dZ [] (gN 2) oY (L.map .int) [x0,some (.pv (tv TL)),x2] S=.rt (.pv (tv (TL.map (dX L*·)))) S)
 |[],x2=>.inl ⟨rfl,x2,fR⟩
 |n::L,x2=>by
  rw[aq,fG];have ec:=Am S TL none;rcases yh n 0 with h |h |h
  .have hf:dX (n::L)=-1:=by
    unfold dX;rw[if_neg (by omega)];unfold sg
    (repeat' split)<;>omega
   rw[hf];refine .inr ⟨by decide,?_⟩;have e:TL.map (-1*·)=TL.map (- ·):=dz λx _=>by omega
   rw[e];have h1:¬0<n:=by omega
   unfold oY;show _=cV.rt (.pv (.tup ((TL.map (- ·)).map .int))) S;have ht:tv TL=.tup (TL.map .int):=rfl;rw[ht];generalize TL.map PV.int=T1,(TL.map (- ·)).map PV.int=T2 at *;simp! [gN,bR,aN,aO,aM,aP,aF,aL,h1,h,bC,bX,bB,bW,ec]
  .subst h
   have hf:dX (0::L)=dX L:=by simp[dX]
   rw[hf];have ih:=Cq S TL x0 L (some (.pv (.int 0)));have e:oY [x0,some (.pv (tv TL)),some (.pv (.int 0))] S=.nx [x0,some (.pv (tv TL)),some (.pv (.int 0))] S:=by
    unfold oY;generalize tv TL=T1;simp! [bR,aN,aO,aM,aP,aF,aL]
   simp only[gN,jv,fg,e];exact ih
  .have hf:dX (n::L)=1:=by
    unfold dX;rw[if_neg (by omega)];unfold sg
    (repeat' split)<;>omega
   rw[hf];refine .inr ⟨by decide,?_⟩;have e:TL.map (1*·)=TL:=by simp
   rw[e];unfold oY;generalize tv TL=T1;simp! [gN,bR,aN,aO,aM,aP,aF,aL,h]
theorem Wa(ns:AA)(S:aG)(hb:∀n∈ns,Bd 8000 n):mO [.pv (.lst (ns.map .int))] S=.ok (.pv (tv (aW ns))) S:=by
 have e1:=mM ns S hb;have e1:gW [.pv (.lst (ns.map .int))] S=.ok (.pv (tv (low ns))) S:=e1;have hf:∀{k:Int}(_:0<k)(l:AA),dX (l.map (k*·))=dX l:=λ{k} hk l=>by
  induction l with
  |nil=>rfl
  |cons n l ih=>
   rw[aq];unfold dX
   by_cases h:n=0
   .subst h
    simpa using ih
   .rw[if_neg h,if_neg (cf (by omega) h),mZ hk]
 have ef:dX ns=dX (low ns):=by
  obtain⟨g,hg,e⟩:=Ur ns;have:=hf hg (low ns);rw[<-e]at this;exact this
 have hb:Fb=(aI (aU 1 (aJ gW [] (aB (aA 0) aD))) (aI (bJ (bB (aA 1)) (gN 2) oY) (bG (aA 1)))):=rfl;unfold mO aS aW;rw[hb,ef];have ht:∀l:AA,tv l=.tup (l.map .int):=λ_=>rfl;have ih:=Cq S (low ns) (some (.pv (.lst (ns.map .int)))) (low ns) none;rw[ht]at e1 ih;rw[ht];generalize oY=UB at *;rcases ih with⟨z,y2,e2⟩|⟨z,e2⟩
 .rw[z]
  have e:(low ns).map (0*·)=low ns:=by
   have q:∀l:AA,dX l=0->l.map (0*·)=l:=λl=>by
    induction l with
    |nil=>intro _;rfl
    |cons n l ih=>
     intro h;unfold dX at h
     by_cases c:n=0
     .rw[if_pos c]at h
      rw[aq,ih h,c,gw]
     .rw[if_neg c]at h
      have:=Ku c;rw[h]at this;exact absurd this (by decide)
   exact q _ z
  rw[e];generalize ns.map PV.int=T2,(low ns).map PV.int=T1 at *;simp! [bR,aN,aO,aM,aP,aF,aL,bJ,bB,bW,e1,e2]
 .rw[ht]at e2
  generalize ns.map PV.int=T2,(low ns).map PV.int=T1,((low ns).map (dX (low ns)*·)).map PV.int=T3 at *;simp! [bR,aN,aO,aM,aP,aF,aL,bJ,bB,bW,e1,e2]
theorem Kw{a b c d e f:Int}{A B:PV}(S:aG)(hA:A=.tup [.int a,.int b,.int c]\/∃w,A=.tup [.int a,.int b,.int c,.int w])(hB:B=.tup [.int d,.int e,.int f]\/∃w,B=.tup [.int d,.int e,.int f,.int w])(ha:Bd 1000 a)(hb:Bd 1000 b)(hc:Bd 1000 c)(hd:Bd 1000 d)(he:Bd 1000 e)(hf:Bd 1000 f):mU [.pv A,.pv B] S=.ok (.pv (.lst [.int (b*f-c*e),.int (c*d-a*f),.int (a*e-b*d)])) S:=by
 have m1:=mk hb hf (by decide) (by decide);have m2:=mk hc he (by decide) (by decide);have m3:=mk hc hd (by decide) (by decide);have m4:=mk ha hf (by decide) (by decide);have m5:=mk ha he (by decide) (by decide);have m6:=mk hb hd (by decide) (by decide);obtain⟨a0,a1,a2⟩:aE A (.int 0)=some (.int a)/\aE A (.int 1)=some (.int b)/\aE A (.int 2)=some (.int c):=by
  rcases hA with rfl |⟨w,rfl⟩<;>exact⟨fA (j:=0) rfl,fA (j:=1) rfl,fA (j:=2) rfl⟩
 obtain⟨b0,b1,b2⟩:aE B (.int 0)=some (.int d)/\aE B (.int 1)=some (.int e)/\aE B (.int 2)=some (.int f):=by
  rcases hB with rfl |⟨w,rfl⟩<;>exact⟨fA (j:=0) rfl,fA (j:=1) rfl,fA (j:=2) rfl⟩
 unfold mU aS vZ;simp! [bR,aN,aO,aM,aP,aF,aL,a0,a1,a2,b0,b1,b2,m1,m2,m3,m4,m5,m6]
theorem iI{k:Nat}{a b c d:Int}(ha:Bd k a)(hb:Bd k b)(hc:Bd k c)(hd:Bd k d):Bd (k+k+1) (a*b-c*d):=(ha.mul hb).sub (hc.mul hd)
theorem Ic{x0 y0 w0 x1 y1 w1:Int}(S:aG)(p:P2 x0 y0 w0)(q:P2 x1 y1 w1):qO [.pv (tv [x0,y0,w0]),.pv (tv [x1,y1,w1])] S=.ok (.pv (tv (aW (eZ [x0,y0,w0] [x1,y1,w1])))) S:=by
 have c:=Kw S (A:=.tup [.int x0,.int y0,.int w0]) (B:=.tup [.int x1,.int y1,.int w1]) (.inl rfl) (.inl rfl) p.bx p.by_ p.bw q.bx q.by_ q.bw;have e:=Wa (eZ [x0,y0,w0] [x1,y1,w1]) S (λn hn=>by
  have hn:n=y0*w1-w0*y1\/n=w0*x1-x0*w1\/n=x0*y1-y0*x1:=by simpa[nK]using hn
  rcases hn with rfl |rfl |rfl
  .exact(iI p.by_ q.bw p.bw q.by_).mono (by decide)
  .exact(iI p.bw q.bx p.bx q.bw).mono (by decide)
  .exact(iI p.bx q.by_ p.by_ q.bx).mono (by decide))
 have e:mO [.pv (.lst [.int (y0*w1-w0*y1),.int (w0*x1-x0*w1),.int (x0*y1-y0*x1)])] S=_:=e;have ht:∀a b c:Int,tv [a,b,c]=.tup [.int a,.int b,.int c]:=λ_ _ _=>rfl;rw[ht,ht];generalize x0*y1-y0*x1=n3,w0*x1-x0*w1=n2,y0*w1-w0*y1=n1,tv (aW (eZ [x0,y0,w0] [x1,y1,w1]))=R at *;unfold qO aS zX;simp! [aE,aZ,bA,aK,aN,aO,aM,aP,aF,aL,c,e]
theorem qY{x0 y0 z0 w0 x1 y1 z1 w1:Int}(S:aG)(p:P3 x0 y0 z0 w0)(q:P3 x1 y1 z1 w1):qM [.pv (tv [x0,y0,z0,w0]),.pv (tv [x1,y1,z1,w1])] S=.ok (.pv (tv (aW (fY [x0,y0,z0,w0] [x1,y1,z1,w1])))) S:=by
 have g:=rY S p q;have c:=Kw S (A:=v3 x0 y0 z0 w0) (B:=v3 x1 y1 z1 w1) (.inr ⟨_,rfl⟩) (.inr ⟨_,rfl⟩) p.bx p.by_ p.bz q.bx q.by_ q.bz;have e:=Wa (fY [x0,y0,z0,w0] [x1,y1,z1,w1]) S (λn hn=>by
  have hn:n=x1*w0-x0*w1\/n=y1*w0-y0*w1\/n=z1*w0-z0*w1\/n=y0*z1-z0*y1\/n=z0*x1-x0*z1\/n=x0*y1-y0*x1:=by simpa[Vg]using hn
  rcases hn with rfl |rfl |rfl |rfl |rfl |rfl
  .exact(iI q.bx p.bw p.bx q.bw).mono (by decide)
  .exact(iI q.by_ p.bw p.by_ q.bw).mono (by decide)
  .exact(iI q.bz p.bw p.bz q.bw).mono (by decide)
  .exact(iI p.by_ q.bz p.bz q.by_).mono (by decide)
  .exact(iI p.bz q.bx p.bx q.bz).mono (by decide)
  .exact(iI p.bx q.by_ p.by_ q.bx).mono (by decide))
 have e:mO [.pv (.lst [.int (x1*w0-x0*w1),.int (y1*w0-y0*w1),.int (z1*w0-z0*w1),.int (y0*z1-z0*y1),.int (z0*x1-x0*z1),.int (x0*y1-y0*x1)])] S=_:=e;have ht:∀a b c d:Int,tv [a,b,c,d]=v3 a b c d:=λ_ _ _ _=>rfl;rw[ht,ht];generalize x0*y1-y0*x1=n6,z0*x1-x0*z1=n5,y0*z1-z0*y1=n4,z1*w0-z0*w1=n3,y1*w0-y0*w1=n2,x1*w0-x0*w1=n1,v3 x1 y1 z1 w1=B,v3 x0 y0 z0 w0=A,tv (aW (fY [x0,y0,z0,w0] [x1,y1,z1,w1]))=R at *;unfold qM aS zS;simp! [aE,aZ,bA,aK,aN,aO,aM,aP,aF,aL,g,c,e]
theorem wC{x0 y0 z0 w0 x1 y1 z1 w1 x2 y2 z2 w2:Int}(S:aG)(p:P3 x0 y0 z0 w0)(q:P3 x1 y1 z1 w1)(r:P3 x2 y2 z2 w2):qZ [.pv (tv [x0,y0,z0,w0]),.pv (tv [x1,y1,z1,w1]),.pv (tv [x2,y2,z2,w2])] S=.ok (.pv (tv (aW (ext (cN [[x0,y0,z0,w0],[x1,y1,z1,w1],[x2,y2,z2,w2]]) [x0,y0,z0,w0])))) S:=by
 have g1:=rY S p q;have g2:=rY S p r;have b1:=iI q.bx p.bw p.bx q.bw;have b2:=iI q.by_ p.bw p.by_ q.bw;have b3:=iI q.bz p.bw p.bz q.bw;have b4:=iI r.bx p.bw p.bx r.bw;have b5:=iI r.by_ p.bw p.by_ r.bw;have b6:=iI r.bz p.bw p.bz r.bw;have hn:cN [[x0,y0,z0,w0],[x1,y1,z1,w1],[x2,y2,z2,w2]]=eZ [x1*w0-x0*w1,y1*w0-y0*w1,z1*w0-z0*w1] [x2*w0-x0*w2,y2*w0-y0*w2,z2*w0-z0*w2]:=rfl;rw[hn];have ht:∀a b c d:Int,tv [a,b,c,d]=v3 a b c d:=λ_ _ _ _=>rfl;rw[ht,ht,ht];generalize z2*w0-z0*w2=t3,y2*w0-y0*w2=t2,x2*w0-x0*w2=t1,z1*w0-z0*w1=u3,y1*w0-y0*w1=u2,x1*w0-x0*w1=u1 at *;have c:=Io S (A:=.lst [.int u1,.int u2,.int u3]) (B:=.lst [.int t1,.int t2,.int t3]) rfl rfl (b1.mono (by decide)) (b2.mono (by decide)) (b3.mono (by decide)) (b4.mono (by decide)) (b5.mono (by decide)) (b6.mono (by decide));have d1:=iI b2 b6 b3 b5;have d2:=iI b3 b4 b1 b6;have d3:=iI b1 b5 b2 b4;have hc:eZ [u1,u2,u3] [t1,t2,t3]=[u2*t3-u3*t2,u3*t1-u1*t3,u1*t2-u2*t1]:=rfl;rw[hc];generalize u1*t2-u2*t1=n3,u3*t1-u1*t3=n2,u2*t3-u3*t2=n1 at *;have f:=Fr S (A:=.lst [.int n1,.int n2,.int n3]) (B:=v3 x0 y0 z0 w0) (us:=[n1,n2,n3]) (vs:=[x0,y0,z0,w0]) (.inl rfl) (.inr rfl) (by simp;exact⟨d1.mono (by decide),d2.mono (by decide),d3.mono (by decide)⟩) (by simp;exact⟨p.bx.mono (by decide),p.by_.mono (by decide),p.bz.mono (by decide),p.bw.mono (by decide)⟩);have hd:dt [n1,n2,n3] [x0,y0,z0,w0]=n1*x0+n2*y0+n3*z0:=by
  unfold dt;simp;omega
 rw[hd]at f;have m1:=mk d1 p.bw (by decide) (by decide);have m2:=mk d2 p.bw (by decide) (by decide);have m3:=mk d3 p.bw (by decide) (by decide);have hx:ext [n1,n2,n3] [x0,y0,z0,w0]=[n1*w0,n2*w0,n3*w0,0-(n1*x0+n2*y0+n3*z0)]:=rfl;have e:=Wa (ext [n1,n2,n3] [x0,y0,z0,w0]) S (λn hn=>by
  rw[hx]at hn;have hn:n=n1*w0\/n=n2*w0\/n=n3*w0\/n=0-(n1*x0+n2*y0+n3*z0):=by simpa using hn
  rcases hn with rfl |rfl |rfl |rfl
  .exact(d1.mul p.bw).mono (by decide)
  .exact(d2.mul p.bw).mono (by decide)
  .exact(d3.mul p.bw).mono (by decide)
  .rw[ji]
   exact((((d1.mul p.bx).add (d2.mul p.by_)).add ((d3.mul p.bz).mono (by decide))).neg).mono (by decide))
 rw[hx]at e⊢;have e:mO [.pv (.lst [.int (n1*w0),.int (n2*w0),.int (n3*w0),.int (0-(n1*x0+n2*y0+n3*z0))])] S=_:=e;have i3:aE (v3 x0 y0 z0 w0) (.int 3)=some (.int w0):=fA (j:=3) rfl;generalize n1*x0+n2*y0+n3*z0=N,tv (aW [n1*w0,n2*w0,n3*w0,0-(n1*x0+n2*y0+n3*z0)])=R at *;rw[ji]at e;generalize v3 x2 y2 z2 w2=C,v3 x1 y1 z1 w1=B,v3 x0 y0 z0 w0=A at *;generalize hq1:n1*w0=q1 at *;generalize hq2:n2*w0=q2 at *;generalize hq3:n3*w0=q3 at *;unfold qZ aS Ub;simp! [bR,aN,aO,aM,aP,aF,aL,bC,bX,bB,bW,eF,eA,gN,g1,g2,c,f,i3,m1,m2,m3,e]
theorem xK{kvs:List (PV×PV)}{C:List cZ}(h:Tb kvs C)(hl:C.length<=100000)(T:aG)(k:AB)(m:Int):kZ [.ref 0,.pv (kE k),.pv (.int m)] (.dic true kvs::T)=.ok (.pv .non) (.dic true (gJ kvs (k,m))::T):=by
 have e1:kI (.ref 0) (.pv (kE k)) (.dic true kvs::T) (some (.pv (.int 0)))=.ok (.pv (.int (dB C k))) (.dic true kvs::T):=by
  unfold kI;simp only[kn];rw[if_pos ⟨k,rfl⟩];rcases h.get k with e |⟨e,z⟩
  .rw[e]
  .rw[e,z]
 have e2:lC (.ref 0) (.pv (kE k)) (.pv (.int (dB C k+m))) (.dic true kvs::T)=.ok (.pv .non) (.dic true (gJ kvs (k,m))::T):=by
  unfold lC gJ;simp only[kn];have:=h.len;rw[if_pos ⟨⟨k,rfl⟩,by omega⟩,h.vint];rfl
 unfold kZ aS Ke;generalize kE k=K1 at *;simp! [aE,aZ,bA,aK,aN,aO,aM,aP,aF,aL,pY,uL,kJ,e1,e2]
def lF(s e:AA)(n:Int):List cZ:=[([aW (eZ s e),s],n),([aW (eZ s e),e],0-n)]
def lS(w:AB)(s e:AA)(n:Int):List cZ:=[([aW (ext (cN w) (w.headD [])),aW (fY s e),s],n),([aW (ext (cN w) (w.headD [])),aW (fY s e),e],0-n)]
def lW(w:AB)(n:Int):List cZ:=(iS w).flatMap λx=>lS w x.1 x.2 n
def lA(uss:AB)(n:Int):List cZ:=match uss with
 |[a,b,c]=>lF c a n++lF a b n++lF b c n
 |[a,b,c,d]=>(iN [a,b,c,d]).flatMap λw=>lW w n
 |_=>[]
def sD:MS:=(aI (aU 4 (aC aE (aA 1) (aC dI (aA 3) (mC (.int 1))))) (aI (aU 5 (aC aE (aA 1) (aA 3))) (aI (aU 6 (aJ qO [] (aB (aA 4) (aB (aA 5) aD)))) (aI (dA (aJ kZ [] (aB (aA 0) (aB (mN dF (aB (aA 6) (aB (aA 4) aD))) (aB (aA 2) aD))))) (dA (aJ kZ [] (aB (aA 0) (aB (mN dF (aB (aA 6) (aB (aA 5) aD))) (aB (aC dI (mC (.int 0)) (aA 2)) aD)))))))))
theorem Sh{kvs:List (PV×PV)}{C:List cZ}(h:Tb kvs C)(hl:C.length<=90000){U:PV}{p q:AA}{k:Int}(i1:aE U (.int (k-1))=some (tv p))(i2:aE U (.int k)=some (tv q))(el:∀S,qO [.pv (tv p),.pv (tv q)] S=.ok (.pv (tv (aW (eZ p q)))) S)(n:Int)(x4 x5 x6 x7 x8 x9 x10:AJ):∃y4 y5 y6,sD [some (.ref 0),some (.pv U),some (.pv (.int n)),some (.pv (.int k)),x4,x5,x6,x7,x8,x9,x10] [.dic true kvs]=.nx [some (.ref 0),some (.pv U),some (.pv (.int n)),some (.pv (.int k)),y4,y5,y6,x7,x8,x9,x10] [.dic true (eY kvs (lF p q n))]:=by
 have h2:=h.add ([aW (eZ p q),p],n);have e1:=xK h (by omega) [] [aW (eZ p q),p] n;have e2:=xK h2 (by rw[av];simp;omega) [] [aW (eZ p q),q] (0-n);have e0:=el [.dic true kvs];have et:eY kvs (lF p q n)=gJ (gJ kvs ([aW (eZ p q),p],n)) ([aW (eZ p q),q],0-n):=rfl;have k1:kE [aW (eZ p q),p]=.tup [tv (aW (eZ p q)),tv p]:=rfl;have k2:kE [aW (eZ p q),q]=.tup [tv (aW (eZ p q)),tv q]:=rfl;rw[et];rw[k1]at e1;rw[k2]at e2;refine⟨some (.pv (tv p)),some (.pv (tv q)),some (.pv (tv (aW (eZ p q)))),?_⟩;unfold sD;generalize tv q=T3,tv p=T2,tv (aW (eZ p q))=T1,gJ kvs ([aW (eZ p q),p],n)=K1,gJ (gJ kvs ([aW (eZ p q),p],n)) ([aW (eZ p q),q],0-n)=K2 at *;rw[ji]at e2;simp! [bR,aN,aO,aM,aP,aF,aL,i1,i2,e0,e1,e2]
theorem Hh(S:aG):gR [.pv (.int 3)] S=.ok ([.int 0,.int 1,.int 2],[]) S:=by
 unfold gR;dsimp only;rw[if_pos (by decide)];rfl
theorem Er{ls:List (PV×PV)}(nd:(ls.map (·.1)).Nodup)(k v:PV):fL (hV ls k v) k=some v:=nX (rE nd).1 ((Wb nd _).mpr (.inl rfl))
theorem Dp{ls:List (PV×PV)}(nd:(ls.map (·.1)).Nodup){k v k' u:PV}(h:k'≠k)(g:fL ls k'=some u):fL (hV ls k v) k'=some u:=by
 refine nX (rE nd).1 ((Wb nd _).mpr (.inr ⟨h,?_⟩));unfold fL at g;cases z:jC ls k' with
 |none=>rw[z]at g;cases g
 |some i=>
  rw[z]at g;obtain⟨w,hw⟩:=mT z;simp only[hw,uc,Option.some.injEq]at g;subst g;exact cx hw
abbrev eT(p q:AA):PV:=tv (aW (fY p q))
def fE(ls:List (PV×PV))(p q:AA):List (PV×PV):=hV (hV ls (kE [p,q]) (eT p q)) (kE [q,p]) (eT p q)
structure Ln(ls:List (PV×PV))(E:List (AA×AA)):Prop where
 nd:(ls.map (·.1)).Nodup
 len:ls.length<=2*E.length
 at_:∀x∈E,fL ls (kE [x.1,x.2])=some (eT x.1 x.2)/\fL ls (kE [x.2,x.1])=some (eT x.1 x.2)
theorem Ln.add{ls:List (PV×PV)}{E:List (AA×AA)}(h:Ln ls E){p q:AA}(sw:eT q p=eT p q):Ln (fE ls p q) ((p,q)::E):=by
 have n1:=rE h.nd (k:=kE [p,q]) (v:=eT p q);have n2:=rE n1.1 (k:=kE [q,p]) (v:=eT p q);have key:∀{s t:AA}{v:PV},((s=p/\t=q)->v=eT p q)->((s=q/\t=p)->v=eT p q)->(fL ls (kE [s,t])=some v\/(s=p/\t=q)\/(s=q/\t=p))->fL (fE ls p q) (kE [s,t])=some v:=λ{s t v} h1 h2 h3=>by
  unfold fE
  by_cases c:s=q/\t=p
  .rw[c.1,c.2,h2 c]
   exact Er n1.1 _ _
  .refine Dp n1.1 (λe=>c (by have:=Ze e;simpa using this)) ?_
   by_cases c':s=p/\t=q
   .rw[c'.1,c'.2,h1 c']
    exact Er h.nd _ _
   .refine Dp h.nd (λe=>c' (by have:=Ze e;simpa using this)) ?_
    rcases h3 with g |g |g
    .exact g
    .exact absurd g c'
    .exact absurd g c
 refine⟨n2.1,?_,λx hx=>?_⟩
 .have:=h.len
  have:=n1.2;have:=n2.2;unfold fE;rw[cr];omega
 .rcases cq.mp hx with rfl |hx
  .exact⟨key (λ_=>rfl) (λ_=>rfl) (.inr (.inl ⟨rfl,rfl⟩)),key (λ_=>rfl) (λ_=>rfl) (.inr (.inr ⟨rfl,rfl⟩))⟩
  .have g:=h.at_ x hx
   refine⟨key (λe=>by rw[e.1,e.2]) (λe=>by rw[e.1,e.2,sw]) (.inl g.1),key (λe=>by rw[e.1,e.2,sw]) (λe=>by rw[e.1,e.2]) (.inl g.2)⟩
theorem Ln.nil:Ln [] []:=⟨pk,aj _,λ_ h=>absurd h fz⟩
def pD:MS:=(aI (aU 6 (aJ qM [] (aB (aC aE (aA 1) (aA 8)) (aB (aC aE (aA 1) (aA 3)) aD)))) (aI (kJ (aA 7) (mN dF (aB (aC aE (aA 1) (aA 8)) (aB (aC aE (aA 1) (aA 3)) aD))) (aA 6)) (kJ (aA 7) (mN dF (aB (aC aE (aA 1) (aA 3)) (aB (aC aE (aA 1) (aA 8)) aD))) (aA 6))))
theorem sL{kvs ls:List (PV×PV)}{E:List (AA×AA)}(h:Ln ls E)(hl:E.length<=1000){U:PV}{p q:AA}{k m:Int}(i1:aE U (.int m)=some (tv p))(i2:aE U (.int k)=some (tv q))(el:∀S,qM [.pv (tv p),.pv (tv q)] S=.ok (.pv (eT p q)) S)(x2 x4 x5 x6 x9 x10:AJ):pD [some (.ref 0),some (.pv U),x2,some (.pv (.int k)),x4,x5,x6,some (.ref 1),some (.pv (.int m)),x9,x10] [.dic true kvs,.dic true ls]=.nx [some (.ref 0),some (.pv U),x2,some (.pv (.int k)),x4,x5,some (.pv (eT p q)),some (.ref 1),some (.pv (.int m)),x9,x10] [.dic true kvs,.dic true (fE ls p q)]:=by
 have e0:=el [.dic true kvs,.dic true ls];have n1:=rE h.nd (k:=kE [p,q]) (v:=eT p q);have hl':=h.len;have e1:lC (.ref 1) (.pv (kE [p,q])) (.pv (eT p q)) [.dic true kvs,.dic true ls]=.ok (.pv .non) [.dic true kvs,.dic true (hV ls (kE [p,q]) (eT p q))]:=by
  unfold lC;simp only[yi,kn];rw[if_pos ⟨⟨_,rfl⟩,by omega⟩];rfl
 have e2:lC (.ref 1) (.pv (kE [q,p])) (.pv (eT p q)) [.dic true kvs,.dic true (hV ls (kE [p,q]) (eT p q))]=.ok (.pv .non) [.dic true kvs,.dic true (fE ls p q)]:=by
  unfold lC;simp only[yi,kn];rw[if_pos ⟨⟨_,rfl⟩,by omega⟩];rfl
 have k1:kE [p,q]=.tup [tv p,tv q]:=rfl;have k2:kE [q,p]=.tup [tv q,tv p]:=rfl;rw[k1]at e1 e2;rw[k2]at e2;unfold pD;generalize tv q=T2,tv p=T1,eT p q=V,hV ls (.tup [tv p,tv q]) (eT p q)=L1,fE ls p q=L2 at *;simp! [bR,aN,aO,aM,aP,aF,aL,kJ,i1,i2,e0,e1,e2]
def zB:MS:=(aI (aU 4 (aC aE (aA 9) (aC dI (aA 3) (mC (.int 1))))) (aI (aU 5 (aC aE (aA 9) (aA 3))) (aI (aU 6 (mG (aA 7) (mN dF (aB (aA 4) (aB (aA 5) aD))))) (aI (dA (aJ kZ [] (aB (aA 0) (aB (mN dF (aB (aA 10) (aB (aA 6) (aB (aA 4) aD)))) (aB (aA 2) aD))))) (dA (aJ kZ [] (aB (aA 0) (aB (mN dF (aB (aA 10) (aB (aA 6) (aB (aA 5) aD)))) (aB (aC dI (mC (.int 0)) (aA 2)) aD)))))))))
theorem lM{kvs ls:List (PV×PV)}{C:List cZ}(h:Tb kvs C)(hl:C.length<=90000){W:PV}{w:AB}{p q:AA}{k:Int}(i1:aE W (.int (k-1))=some (tv p))(i2:aE W (.int k)=some (tv q))(hg:fL ls (kE [p,q])=some (eT p q))(n:Int)(x1 x4 x5 x6 x8:AJ):∃y4 y5 y6,zB [some (.ref 0),x1,some (.pv (.int n)),some (.pv (.int k)),x4,x5,x6,some (.ref 1),x8,some (.pv W),some (.pv (tv (aW (ext (cN w) (w.headD [])))))] [.dic true kvs,.dic true ls]=.nx [some (.ref 0),x1,some (.pv (.int n)),some (.pv (.int k)),y4,y5,y6,some (.ref 1),x8,some (.pv W),some (.pv (tv (aW (ext (cN w) (w.headD [])))))] [.dic true (eY kvs (lS w p q n)),.dic true ls]:=by
 generalize hP:aW (ext (cN w) (w.headD []))=P at *;have h2:=h.add ([P,aW (fY p q),p],n);have e1:=xK h (by omega) [.dic true ls] [P,aW (fY p q),p] n;have e2:=xK h2 (by rw[av];simp;omega) [.dic true ls] [P,aW (fY p q),q] (0-n);have e0:kI (.ref 1) (.pv (kE [p,q])) [.dic true kvs,.dic true ls] none=.ok (.pv (eT p q)) [.dic true kvs,.dic true ls]:=by
  unfold kI;simp only[yi,kn];rw[if_pos ⟨_,rfl⟩,hg]
 have et:eY kvs (lS w p q n)=gJ (gJ kvs ([P,aW (fY p q),p],n)) ([P,aW (fY p q),q],0-n):=by rw[<-hP];rfl
 have k0:kE [p,q]=.tup [tv p,tv q]:=rfl;have k1:kE [P,aW (fY p q),p]=.tup [tv P,eT p q,tv p]:=rfl;have k2:kE [P,aW (fY p q),q]=.tup [tv P,eT p q,tv q]:=rfl;rw[et];rw[k0]at e0;rw[k1]at e1;rw[k2]at e2;refine⟨some (.pv (tv p)),some (.pv (tv q)),some (.pv (eT p q)),?_⟩;unfold zB;generalize tv P=T4,tv q=T3,tv p=T2,eT p q=T1,gJ kvs ([P,aW (fY p q),p],n)=K1,gJ (gJ kvs ([P,aW (fY p q),p],n)) ([P,aW (fY p q),q],0-n)=K2 at *;rw[ji]at e2;simp! [bR,aN,aO,aM,aP,aF,aL,mG,i1,i2,e0,e1,e2]
def sH:MS:=(aI (aU 10 (aJ qZ [] (aB (aC aE (aA 9) (mC (.int 0))) (aB (aC aE (aA 9) (mC (.int 1))) (aB (aC aE (aA 9) (mC (.int 2))) aD))))) (bJ (cG (aB (mC (.int 3)) aD)) (gN 3) zB))
theorem zD{kvs ls:List (PV×PV)}{C:List cZ}(h:Tb kvs C)(hl:C.length<=80000){a b c:AA}(ep:∀S,qZ [.pv (tv a),.pv (tv b),.pv (tv c)] S=.ok (.pv (tv (aW (ext (cN [a,b,c]) a)))) S)(g1:fL ls (kE [c,a])=some (eT c a))(g2:fL ls (kE [a,b])=some (eT a b))(g3:fL ls (kE [b,c])=some (eT b c))(n:Int)(x1 x3 x4 x5 x6 x8 x10:AJ):∃y3 y4 y5 y6 y10,sH [some (.ref 0),x1,some (.pv (.int n)),x3,x4,x5,x6,some (.ref 1),x8,some (.pv (.tup [tv a,tv b,tv c])),x10] [.dic true kvs,.dic true ls]=.nx [some (.ref 0),x1,some (.pv (.int n)),y3,y4,y5,y6,some (.ref 1),x8,some (.pv (.tup [tv a,tv b,tv c])),y10] [.dic true (eY kvs (lW [a,b,c] n)),.dic true ls]:=by
 have ll:∀s e:AA,(lS [a,b,c] s e n).length=2:=λ_ _=>rfl;obtain⟨y4,y5,y6,e1⟩:=lM (W:=.tup [tv a,tv b,tv c]) (w:=[a,b,c]) (p:=c) (q:=a) (k:=0) h (by omega) rfl (fA (j:=0) rfl) g1 n x1 x4 x5 x6 x8;have h1:=h.adds (lS [a,b,c] c a n);obtain⟨z4,z5,z6,e2⟩:=lM (W:=.tup [tv a,tv b,tv c]) (w:=[a,b,c]) (p:=a) (q:=b) (k:=1) h1 (by rw[av,ll];omega) (fA (j:=0) rfl) (fA (j:=1) rfl) g2 n x1 y4 y5 y6 x8;have h2:=h1.adds (lS [a,b,c] a b n);obtain⟨t4,t5,t6,e3⟩:=lM (W:=.tup [tv a,tv b,tv c]) (w:=[a,b,c]) (p:=b) (q:=c) (k:=2) h2 (by rw[av,av,ll,ll];omega) (fA (j:=1) rfl) (fA (j:=2) rfl) g3 n x1 z4 z5 z6 x8;rw[kX]at e2 e3;rw[kX]at e3;have hW:lW [a,b,c] n=lS [a,b,c] c a n++lS [a,b,c] a b n++lS [a,b,c] b c n:=rfl;have ep:=ep [.dic true kvs,.dic true ls];have hh:[a,b,c].headD []=a:=rfl;rw[hh]at e1 e2 e3;refine⟨some (.pv (.int 2)),t4,t5,t6,some (.pv (tv (aW (ext (cN [a,b,c]) a)))),?_⟩;rw[hW];have i0:aE (.tup [tv a,tv b,tv c]) (.int 0)=some (tv a):=fA (j:=0) rfl;have i1:aE (.tup [tv a,tv b,tv c]) (.int 1)=some (tv b):=fA (j:=1) rfl;have i2:aE (.tup [tv a,tv b,tv c]) (.int 2)=some (tv c):=fA (j:=2) rfl;unfold sH;generalize tv c=T3,tv b=T2,tv a=T1,PV.tup [tv a,tv b,tv c]=W,tv (aW (ext (cN [a,b,c]) a))=T4,zB=FB at *;simp! [bR,aN,aO,aM,aP,aF,aL,i0,i1,i2,ep,bJ,cG,Hh,fG,fR,gN,e1,e2,e3]
theorem adP{kvs:List (PV×PV)}{C:List cZ}(h:Tb kvs C)(hl:C.length<=80000){x0 y0 w0 x1 y1 w1 x2 y2 w2:Int}(p0:P2 x0 y0 w0)(p1:P2 x1 y1 w1)(p2:P2 x2 y2 w2)(n:Int):mV [.ref 0,.pv (px [[x0,y0,w0],[x1,y1,w1],[x2,y2,w2]]),.pv (.int n)] [.dic true kvs]=.ok (.pv .non) [.dic true (eY kvs (lA [[x0,y0,w0],[x1,y1,w1],[x2,y2,w2]] n))]:=by
 have l1:=λS=>Ic S p2 p0;have l2:=λS=>Ic S p0 p1;have l3':=λS=>Ic S p1 p2;have hA:lA [[x0,y0,w0],[x1,y1,w1],[x2,y2,w2]] n=lF [x2,y2,w2] [x0,y0,w0] n++lF [x0,y0,w0] [x1,y1,w1] n++lF [x1,y1,w1] [x2,y2,w2] n:=rfl;have hU:px [[x0,y0,w0],[x1,y1,w1],[x2,y2,w2]]=.tup [tv [x0,y0,w0],tv [x1,y1,w1],tv [x2,y2,w2]]:=rfl;rw[hA,hU];generalize [x2,y2,w2]=c,[x1,y1,w1]=b,[x0,y0,w0]=a at *;have ll:∀s e:AA,(lF s e n).length=2:=λ_ _=>rfl;obtain⟨y4,y5,y6,e1⟩:=Sh (U:=.tup [tv a,tv b,tv c]) (p:=c) (q:=a) (k:=0) h (by omega) rfl (fA (j:=0) rfl) l1 n none none none none none none none;have h1:=h.adds (lF c a n);obtain⟨z4,z5,z6,e2⟩:=Sh (U:=.tup [tv a,tv b,tv c]) (p:=a) (q:=b) (k:=1) h1 (by rw[av,ll];omega) (fA (j:=0) rfl) (fA (j:=1) rfl) l2 n y4 y5 y6 none none none none;have h2:=h1.adds (lF a b n);obtain⟨t4,t5,t6,e3⟩:=Sh (U:=.tup [tv a,tv b,tv c]) (p:=b) (q:=c) (k:=2) h2 (by rw[av,av,ll,ll];omega) (fA (j:=1) rfl) (fA (j:=2) rfl) l3' n z4 z5 z6 none none none none;rw[kX]at e2 e3;rw[kX]at e3;have hb:wL=(aI (cS (bK (aC cY (mR eC (aB (aA 1) aD)) (mC (.int 3)))) (aI (bJ (cG (aB (mC (.int 3)) aD)) (gN 3) sD) oI) dE) (aI (aU 7 (jX true)) (aI (bJ (cG (aB (mC (.int 4)) aD)) (gN 3) (bJ (cG (aB (aA 3) aD)) (gN 8) pD)) (bJ (bB (aJ mP [] (aB (aA 1) aD))) (gN 9) sH)))):=rfl;unfold mV aS;rw[hb];generalize (aI (aU 7 (jX true)) (aI (bJ (cG (aB (mC (.int 4)) aD)) (gN 3) (bJ (cG (aB (aA 3) aD)) (gN 8) pD)) (bJ (bB (aJ mP [] (aB (aA 1) aD))) (gN 9) sH)))=MR;generalize tv c=T3,tv b=T2,tv a=T1,sD=FB at *;simp! [bR,aN,aO,aM,aP,aF,aL,bJ,cG,Hh,fG,fR,gN,e1,e2,e3]
theorem rg0(S:aG):gR [.pv (.int 0)] S=.ok ([],[]) S/\gR [.pv (.int 1)] S=.ok ([.int 0],[]) S/\gR [.pv (.int 2)] S=.ok ([.int 0,.int 1],[]) S/\gR [.pv (.int 4)] S=.ok ([.int 0,.int 1,.int 2,.int 3],[]) S:=by
 refine⟨?_,?_,?_,?_⟩<;>
 .unfold gR
  dsimp only;rw[if_pos (by decide)];rfl
theorem rX{x0 y0 z0 w0 x1 y1 z1 w1:Int}:eT [x1,y1,z1,w1] [x0,y0,z0,w0]=eT [x0,y0,z0,w0] [x1,y1,z1,w1]:=congrArg tv ab5
theorem adI{kvs:List (PV×PV)}{C:List cZ}(h:Tb kvs C)(hl:C.length<=70000){x0 y0 z0 w0 x1 y1 z1 w1 x2 y2 z2 w2 x3 y3 z3 w3:Int}(p0:P3 x0 y0 z0 w0)(p1:P3 x1 y1 z1 w1)(p2:P3 x2 y2 z2 w2)(p3:P3 x3 y3 z3 w3)(n:Int):mV [.ref 0,.pv (px [[x0,y0,z0,w0],[x1,y1,z1,w1],[x2,y2,z2,w2],[x3,y3,z3,w3]]),.pv (.int n)] [.dic true kvs]=.ok (.pv .non) [.dic true (eY kvs (lA [[x0,y0,z0,w0],[x1,y1,z1,w1],[x2,y2,z2,w2],[x3,y3,z3,w3]] n))]:=by
 have l1:=λS=>qY S p0 p1;have l2:=λS=>qY S p0 p2;have l3':=λS=>qY S p1 p2;have l4:=λS=>qY S p0 p3;have l5:=λS=>qY S p1 p3;have l6:=λS=>qY S p2 p3;have s1:=@rX x0 y0 z0 w0 x1 y1 z1 w1;have s2:=@rX x0 y0 z0 w0 x2 y2 z2 w2;have s3:=@rX x1 y1 z1 w1 x2 y2 z2 w2;have s4:=@rX x0 y0 z0 w0 x3 y3 z3 w3;have s5:=@rX x1 y1 z1 w1 x3 y3 z3 w3;have s6:=@rX x2 y2 z2 w2 x3 y3 z3 w3;have q1:=λS=>wC S p1 p2 p3;have q2:=λS=>wC S p0 p3 p2;have q3:=λS=>wC S p0 p1 p3;have q4:=λS=>wC S p0 p2 p1;generalize [x3,y3,z3,w3]=d,[x2,y2,z2,w2]=c,[x1,y1,z1,w1]=b,[x0,y0,z0,w0]=a at *;have hA:lA [a,b,c,d] n=lW [b,c,d] n++lW [a,d,c] n++lW [a,b,d] n++lW [a,c,b] n:=by
  show lW [b,c,d] n++(lW [a,d,c] n++(lW [a,b,d] n++(lW [a,c,b] n++[])))=_;rw[ig,ix,ix]
 have hU:px [a,b,c,d]=.tup [tv a,tv b,tv c,tv d]:=rfl;rw[hA,hU];have i0:aE (.tup [tv a,tv b,tv c,tv d]) (.int 0)=some (tv a):=fA (j:=0) rfl;have i1:aE (.tup [tv a,tv b,tv c,tv d]) (.int 1)=some (tv b):=fA (j:=1) rfl;have i2:aE (.tup [tv a,tv b,tv c,tv d]) (.int 2)=some (tv c):=fA (j:=2) rfl;have i3:aE (.tup [tv a,tv b,tv c,tv d]) (.int 3)=some (tv d):=fA (j:=3) rfl;have L1:=Ln.nil.add s1;have L2:=L1.add s2;have L3:=L2.add s3;have L4:=L3.add s4;have L5:=L4.add s5;have L6:=L5.add s6;have e1:=λx2 x4 x5 x6 x9 x10=>sL (kvs:=kvs) Ln.nil (by decide) i0 i1 l1 x2 x4 x5 x6 x9 x10;have e2:=λx2 x4 x5 x6 x9 x10=>sL (kvs:=kvs) L1 (by simp) i0 i2 l2 x2 x4 x5 x6 x9 x10;have e3:=λx2 x4 x5 x6 x9 x10=>sL (kvs:=kvs) L2 (by simp) i1 i2 l3' x2 x4 x5 x6 x9 x10;have e4:=λx2 x4 x5 x6 x9 x10=>sL (kvs:=kvs) L3 (by simp) i0 i3 l4 x2 x4 x5 x6 x9 x10;have e5:=λx2 x4 x5 x6 x9 x10=>sL (kvs:=kvs) L4 (by simp) i1 i3 l5 x2 x4 x5 x6 x9 x10;have e6:=λx2 x4 x5 x6 x9 x10=>sL (kvs:=kvs) L5 (by simp) i2 i3 l6 x2 x4 x5 x6 x9 x10;have g1:=L6.at_ (a,b) (by simp);have g2:=L6.at_ (a,c) (by simp);have g3:=L6.at_ (b,c) (by simp);have g4:=L6.at_ (a,d) (by simp);have g5:=L6.at_ (b,d) (by simp);have g6:=L6.at_ (c,d) (by simp);dsimp only at g1 g2 g3 g4 g5 g6;have ls:∃y3 y6 y8,(bJ (cG (aB (mC (.int 4)) aD)) (gN 3) (bJ (cG (aB (aA 3) aD)) (gN 8) pD)) [some (.ref 0),some (.pv (.tup [tv a,tv b,tv c,tv d])),some (.pv (.int n)),none,none,none,none,some (.ref 1),none,none,none] [.dic true kvs,.dic true []]=.nx [some (.ref 0),some (.pv (.tup [tv a,tv b,tv c,tv d])),some (.pv (.int n)),y3,none,none,y6,some (.ref 1),y8,none,none] [.dic true kvs,.dic true (fE (fE (fE (fE (fE (fE [] a b) a c) b c) a d) b d) c d)]:=by
  refine⟨some (.pv (.int 3)),some (.pv (eT c d)),some (.pv (.int 2)),?_⟩;clear L1 L2 L3 L4 L5 L6 g1 g2 g3 g4 g5 g6 l1 l2 l3' l4 l5 l6 s1 s2 s3 s4 s5 s6 q1 q2 q3 q4 i0 i1 i2 i3;generalize PV.tup [tv a,tv b,tv c,tv d]=U,pD=LB at *;simp! [bR,aN,aO,aM,aP,aF,aL,bJ,cG,Hh,rg0,fG,fR,gN,e1,e2,e3,e4,e5,e6]
 obtain⟨y3,y6,y8,el⟩:=ls;clear e1 e2 e3 e4 e5 e6 i0 i1 i2 i3 L1 L2 L3 L4 L5 L6;generalize fE (fE (fE (fE (fE (fE [] a b) a c) b c) a d) b d) c d=LS at *;have ll:∀u v t:AA,(lW [u,v,t] n).length=6:=λ_ _ _=>rfl;obtain⟨b3,b4,b5,b6,b10,f1⟩:=zD h (by omega) q1 (by rw[s5];exact g5.2) g3.1 g6.1 n (some (.pv (.tup [tv a,tv b,tv c,tv d]))) y3 none none y6 y8 none;have h1:=h.adds (lW [b,c,d] n);obtain⟨c3,c4,c5,c6,c10,f2⟩:=zD h1 (by rw[av,ll];omega) q2 (by rw[s2];exact g2.2) g4.1 (by rw[s6];exact g6.2) n (some (.pv (.tup [tv a,tv b,tv c,tv d]))) b3 b4 b5 b6 y8 b10;have h2:=h1.adds (lW [a,d,c] n);obtain⟨d3,d4,d5,d6,d10,f3⟩:=zD h2 (by rw[av,av,ll,ll];omega) q3 (by rw[s4];exact g4.2) g1.1 g5.1 n (some (.pv (.tup [tv a,tv b,tv c,tv d]))) c3 c4 c5 c6 y8 c10;have h3:=h2.adds (lW [a,b,d] n);obtain⟨j3,j4,j5,j6,j10,f4⟩:=zD h3 (by rw[av,av,av,ll,ll,ll];omega) q4 (by rw[s1];exact g1.2) g2.1 (by rw[s3];exact g3.2) n (some (.pv (.tup [tv a,tv b,tv c,tv d]))) d3 d4 d5 d6 y8 d10;rw[kX]at f2 f3 f4;rw[kX]at f3 f4;rw[kX]at f4;have es:∀S,mP [.pv (.tup [tv a,tv b,tv c,tv d])] S=.ok (.pv (.lst [.tup [tv b,tv c,tv d],.tup [tv a,tv d,tv c],.tup [tv a,tv b,tv d],.tup [tv a,tv c,tv b]])) S:=λS=>by
  generalize tv a=T1;generalize tv b=T2;generalize tv c=T3;generalize tv d=T4;unfold mP aS Cc;simp! [aE,aZ,bA,aK,aN,aO,aM,aP,aF,aL,yU,gT,cU,eJ,gN]
 have es:=es [.dic true kvs,.dic true LS];have hb:wL=(aI (cS (bK (aC cY (mR eC (aB (aA 1) aD)) (mC (.int 3)))) (aI (bJ (cG (aB (mC (.int 3)) aD)) (gN 3) sD) oI) dE) (aI (aU 7 (jX true)) (aI (bJ (cG (aB (mC (.int 4)) aD)) (gN 3) (bJ (cG (aB (aA 3) aD)) (gN 8) pD)) (bJ (bB (aJ mP [] (aB (aA 1) aD))) (gN 9) sH)))):=rfl;unfold mV aS;rw[hb];clear g1 g2 g3 g4 g5 g6 l1 l2 l3' l4 l5 l6 s1 s2 s3 s4 s5 s6 q1 q2 q3 q4 hb hA hU h1 h2 h3;generalize tv d=T4,tv c=T3,tv b=T2,tv a=T1,PV.tup [tv a,tv c,tv b]=W4,PV.tup [tv a,tv b,tv d]=W3,PV.tup [tv a,tv d,tv c]=W2,PV.tup [tv b,tv c,tv d]=W1,sH=WB,sD=FB,(bJ (cG (aB (mC (.int 4)) aD)) (gN 3) (bJ (cG (aB (aA 3) aD)) (gN 8) pD))=SL at *;have t1:(cS (bK (aC cY (mR eC (aB (aA 1) aD)) (mC (.int 3)))) (aI (bJ (cG (aB (mC (.int 3)) aD)) (gN 3) FB) oI) dE) [some (.ref 0),some (.pv (.tup [T1,T2,T3,T4])),some (.pv (.int n)),none,none,none,none,none,none,none,none] [.dic true kvs]=.nx [some (.ref 0),some (.pv (.tup [T1,T2,T3,T4])),some (.pv (.int n)),none,none,none,none,none,none,none,none] [.dic true kvs]:=by
  simp! [bR,aN,aO,aM,aP,aF,aL]
 have t2:(bJ (bB (aJ mP [] (aB (aA 1) aD))) (gN 9) WB) [some (.ref 0),some (.pv (.tup [T1,T2,T3,T4])),some (.pv (.int n)),y3,none,none,y6,some (.ref 1),y8,none,none] [.dic true kvs,.dic true LS]=.nx [some (.ref 0),some (.pv (.tup [T1,T2,T3,T4])),some (.pv (.int n)),j3,j4,j5,j6,some (.ref 1),y8,some (.pv W4),j10] [.dic true (eY kvs (lW [b,c,d] n++lW [a,d,c] n++lW [a,b,d] n++lW [a,c,b] n)),.dic true LS]:=by
  simp! [bR,aN,aO,aM,aP,aF,aL,bJ,bB,bW,es,fG,fR,gN,f1,f2,f3,f4]
 clear f1 f2 f3 f4 es;generalize (cS (bK (aC cY (mR eC (aB (aA 1) aD)) (mC (.int 3)))) (aI (bJ (cG (aB (mC (.int 3)) aD)) (gN 3) FB) oI) dE)=SI,(bJ (bB (aJ mP [] (aB (aA 1) aD))) (gN 9) WB)=SW,eY kvs (lW [b,c,d] n++lW [a,d,c] n++lW [a,b,d] n++lW [a,c,b] n)=KV at *;simp! [bR,aN,aO,aM,aP,aF,aL,jX,t1,el,t2]
theorem aeg{n k:Nat}(hn:n=2\/n=3)(hk:k<=1000){kvs:List (PV×PV)}{C:List cZ}(h:Tb kvs C)(hl:C.length<=70000){u:AB}(s:Sx n k u)(m:Int):mV [.ref 0,.pv (px u),.pv (.int m)] [.dic true kvs]=.ok (.pv .non) [.dic true (eY kvs (lA u m))]:=by
 have hg:=s.gu;have sl:=s.len;rcases hn with rfl |rfl
 .match u,sl with
  |[a,b,c],_=>
   obtain⟨x0,y0,w0,rfl,p0⟩:=(hg a (by simp)).two hk;obtain⟨x1,y1,w1,rfl,p1⟩:=(hg b (by simp)).two hk;obtain⟨x2,y2,w2,rfl,p2⟩:=(hg c (by simp)).two hk;exact adP h (by omega) p0 p1 p2 m
 .match u,sl with
  |[a,b,c,d],_=>
   obtain⟨x0,y0,z0,w0,rfl,p0⟩:=(hg a (by simp)).three hk;obtain⟨x1,y1,z1,w1,rfl,p1⟩:=(hg b (by simp)).three hk;obtain⟨x2,y2,z2,w2,rfl,p2⟩:=(hg c (by simp)).three hk;obtain⟨x3,y3,z3,w3,rfl,p3⟩:=(hg d (by simp)).three hk;exact adI h hl p0 p1 p2 p3 m
def cL(hs:AC)(m:Int):List cZ:=hs.flatMap λu=>lA u m
theorem Os{u:AB}(h:u.length=3\/u.length=4)(m:Int):(lA u m).length<=24:=by
 rcases h with h |h
 .match u,h with
  |[a,b,c],_=>exact(by decide:6<=24)
 .match u,h with
  |[a,b,c,d],_=>exact aj 24
def qJ(e:ME):MS:=(dA (aJ mV [] (aB (aA 2) (aB (aA 3) (aB e aD)))))
theorem Xc{n k:Nat}(hn:n=2\/n=3)(hk:k<=1000){e:ME}{m:Int}(he:∀ρ S,e ρ S=.ok (.pv (.int m)) S)(a0 a1:AJ):∀(L:AC)(kvs:List (PV×PV))(C:List cZ)(x3:AJ),Tb kvs C->C.length+24*L.length<=70000->(∀u∈L,Sx n k u)->∃y3,dZ [] (gN 3) (qJ e) (L.map px) [a0,a1,some (.ref 0),x3] [.dic true kvs]=.nx [a0,a1,some (.ref 0),y3] [.dic true (eY kvs (cL L m))]
 |[],kvs,C,x3,h,hl,ha=>⟨x3,fR⟩
 |u::L,kvs,C,x3,h,hl,ha=>by
  rw[cr]at hl;have su:=ha u bh;have e1:=aeg hn hk h (by omega) su m;have h2:=h.adds (lA u m);have:=Os (nH hn su.len) m;obtain⟨y3,e2⟩:=Xc hn hk he a0 a1 L _ _ (some (.pv (px u))) h2 (by rw[av];omega) λy hy=>ha y (bj _ hy);refine⟨y3,?_⟩;rw[kX]at e2;have ec:cL (u::L) m=lA u m++cL L m:=dm;rw[aq,fG,ec];have e3:qJ e [a0,a1,some (.ref 0),some (.pv (px u))] [.dic true kvs]=.nx [a0,a1,some (.ref 0),some (.pv (px u))] [.dic true (eY kvs (lA u m))]:=by
   unfold qJ;generalize px u=T1 at *;simp! [aE,aZ,bA,aK,aN,aO,aM,aP,aF,aL,he,e1]
  simp[gN,e3,e2]
theorem acY{kvs:List (PV×PV)}{C:List cZ}(h:Tb kvs C):∃b L,cD [] (gN 0) (aC cY (mG (aA 1) (aA 0)) (mC (.int 0))) (kvs.map (·.1)) [none,some (.ref 0)] [.dic true kvs]=.ok L [.dic true kvs]/\iZ [.lst L]=some (.bl b)/\(b=true↔∀k,dB C k=0):=by
 refine⟨kvs.all λx=>nM (some x.2)==0,kvs.map λx=>.bl (nM (some x.2)==0),?_,?_,?_⟩
 .refine nU (jS _) (λx:PV×PV=>x.1) (λx=>PV.bl (nM (some x.2)==0)) kvs none λx hx=>?_
  obtain⟨k,i,rfl⟩:=h.int x hx;have e:=nX h.nd hx;have e1:kI (.ref 0) (.pv (kE k)) [.dic true kvs] none=.ok (.pv (.int i)) [.dic true kvs]:=by
   unfold kI;simp only[kn];rw[if_pos ⟨k,rfl⟩,e]
  dsimp only[nM];generalize kE k=K1 at *;simp! [bR,aN,aO,aM,aP,aF,aL,mG,e1]
 .have e:=O2 (kvs.map λx=>nM (some x.2)==0)
  rw[dh]at e;refine e.trans ?_;rw[List.all_map];rfl
 .rw[ka]
  constructor
  .intro z k
   rcases h.val k with m |⟨_,m⟩
   .simpa[nM]using z _ m
   .exact m
  .intro z x hx
   obtain⟨k,i,rfl⟩:=h.int x hx;rcases h.val k with m |⟨m,_⟩
   .have e1:=nX h.nd m
    rw[nX h.nd hx]at e1;injection e1 with e1;injection e1 with e1;simp[nM,e1,z k]
   .exact absurd hx (m _)
theorem Dh{x0 y0 w0 x1 y1 w1:Int}(h0:0<w0)(h1:0<w1)(m:Int):iJ 2 (cW [[x0,y0,w0],[x1,y1,w1]] m) (lF [x0,y0,w0] [x1,y1,w1] m):=by
 have c:=@abG x0 y0 w0 x1 y1 w1 h0 h1;have e1:=iD.mpr c.1;have e2:=iD.mpr c.2;refine⟨⟨.inr ⟨rfl,_,_,_,_,_,h0,rfl,?_⟩,rfl⟩,⟨.inr ⟨rfl,_,_,_,_,_,h1,rfl,?_⟩,?_⟩,trivial⟩
 .show[aW (eZ [x0,y0,w0] [x1,y1,w1]),[x0,y0,w0]]=_
  rw[e1];rfl
 .show[aW (eZ [x0,y0,w0] [x1,y1,w1]),[x1,y1,w1]]=_
  rw[e2];rfl
 .show-m=0-m
  omega
theorem Fg{w:AB}{n1 n2 n3:Int}(hN:cN w=[n1,n2,n3]){x0 y0 z0 w0 x1 y1 z1 w1:Int}(h0:0<w0)(h1:0<w1)(eS:Pr (ext (cN w) (w.headD [])) (ext (cN w) [x0,y0,z0,w0]))(eE:Pr (ext (cN w) (w.headD [])) (ext (cN w) [x1,y1,z1,w1]))(m:Int):iJ 3 (sd (aW (cN w)) [x0,y0,z0,w0] [x1,y1,z1,w1] m) (lS w [x0,y0,z0,w0] [x1,y1,z1,w1] m):=by
 have c:=@acn x0 y0 z0 w0 x1 y1 z1 w1 h0 h1;have e1:=iD.mpr c.1;have e2:=iD.mpr c.2;have e3:=iD.mpr eS;have e4:=iD.mpr eE;refine⟨⟨.inl ⟨rfl,n1,n2,n3,x1*w0-x0*w1,y1*w0-y0*w1,z1*w0-z0*w1,x0,y0,z0,w0,h0,?_,?_⟩,rfl⟩,⟨.inl ⟨rfl,n1,n2,n3,x1*w0-x0*w1,y1*w0-y0*w1,z1*w0-z0*w1,x1,y1,z1,w1,h1,?_,?_⟩,?_⟩,trivial⟩
 .rw[<-hN]
  rfl
 .show[aW (ext (cN w) (w.headD [])),aW (fY [x0,y0,z0,w0] [x1,y1,z1,w1]),[x0,y0,z0,w0]]=_
  rw[e3,e1,hN];rfl
 .rw[<-hN]
  rfl
 .show[aW (ext (cN w) (w.headD [])),aW (fY [x0,y0,z0,w0] [x1,y1,z1,w1]),[x1,y1,z1,w1]]=_
  rw[e4,e2,hN];rfl
 .show-m=0-m
  omega
theorem zN{a b c:AA}(ha:Pw 3 a)(hb:Pw 3 b)(hc:Pw 3 c)(m:Int):iJ 3 (cW [a,b,c] m) (lW [a,b,c] m):=by
 obtain⟨x0,y0,z0,w0,rfl,h0⟩:=ha.three;obtain⟨x1,y1,z1,w1,rfl,h1⟩:=hb.three;obtain⟨x2,y2,z2,w2,rfl,h2⟩:=hc.three;have q:=@adJ x0 y0 z0 w0 x1 y1 z1 w1 x2 y2 z2 w2 h0 h1 h2;have r:Pr (ext (cN [[x0,y0,z0,w0],[x1,y1,z1,w1],[x2,y2,z2,w2]]) [x0,y0,z0,w0]) (ext (cN [[x0,y0,z0,w0],[x1,y1,z1,w1],[x2,y2,z2,w2]]) [x0,y0,z0,w0]):=⟨1,1,by decide,by decide,rfl⟩;exact(Fg (w:=[[x0,y0,z0,w0],[x1,y1,z1,w1],[x2,y2,z2,w2]]) rfl h2 h0 q.2 r m).app ((Fg (w:=[[x0,y0,z0,w0],[x1,y1,z1,w1],[x2,y2,z2,w2]]) rfl h0 h1 r q.1 m).app ((Fg (w:=[[x0,y0,z0,w0],[x1,y1,z1,w1],[x2,y2,z2,w2]]) rfl h1 h2 q.1 q.2 m).app (C':=[]) (D':=[]) trivial))
theorem aer{n:Nat}(hn:n=2\/n=3){u:AB}(hl:u.length=n+1)(hp:∀v∈u,Pw n v)(m:Int):∃D,iJ n (cP u m) D/\∀k,dB D k=dB (lA u m) k:=by
 rcases hn with rfl |rfl
 .match u,hl with
  |[a,b,c],_=>
   obtain⟨x0,y0,w0,rfl,h0⟩:=(hp a (by simp)).two;obtain⟨x1,y1,w1,rfl,h1⟩:=(hp b (by simp)).two;obtain⟨x2,y2,w2,rfl,h2⟩:=(hp c (by simp)).two;refine⟨_,(Dh h0 h1 m).app ((Dh h1 h2 m).app ((Dh h2 h0 m).app (C':=[]) (D':=[]) trivial)),λk=>?_⟩;show _=dB (lF _ _ m++lF _ _ m++lF _ _ m) k;simp only[kW,dB];omega
 .match u,hl with
  |[a,b,c,d],_=>
   have pa:=hp a (by simp);have pb:=hp b (by simp);have pc:=hp c (by simp);have pd:=hp d (by simp);exact⟨_,(zN pb pc pd m).app ((zN pa pd pc m).app ((zN pa pb pd m).app ((zN pa pc pb m).app (C':=[]) (D':=[]) trivial))),λk=>rfl⟩
theorem Ff{n k:Nat}(hn:n=2\/n=3)(m:Int):∀{hs:AC},(∀u∈hs,Sx n k u)->∃D,iJ n (cH hs m) D/\∀k,dB D k=dB (cL hs m) k
 |[],_=>⟨[],trivial,λ_=>rfl⟩
 |u::hs,h=>by
  obtain⟨D,l1,s1⟩:=Ff hn m (hs:=hs) λv hv=>h v (bj _ hv);have su:=h u bh;obtain⟨E,l2,s2⟩:=aer hn su.len (λv hv=>(su.gu v hv).pt) m;refine⟨E++D,l2.app l1,λk=>?_⟩;have ec:cL (u::hs) m=lA u m++cL hs m:=dm;rw[ec,kW,kW,s1,s2]
theorem abl{n k:Nat}(hn:n=2\/n=3)(hk:k<=1000){A B:PV}{hs gs:AC}(hA:Sv A (hs.map px))(hB:Sv B (gs.map px))(h:∀u∈hs,Sx n k u)(g:∀u∈gs,Sx n k u)(lh:hs.length<=1000)(lg:gs.length<=1000):∃b,rC [.pv A,.pv B] []=.ok (.pv (.bl b)) []/\(b=true↔∀l,dB (cL hs 1++cL gs (-1)) l=0):=by
 have cl:∀(hs:AC)(m:Int),(∀u∈hs,Sx n k u)->(cL hs m).length<=24*hs.length:=λhs m=>by
  induction hs with
  |nil=>intro _;simp[cL]
  |cons u hs ih=>
   intro h;have e:cL (u::hs) m=lA u m++cL hs m:=dm;rw[e,av,cr];have:=Os (nH hn (h u bh).len) m;have:=ih λv hv=>h v (bj _ hv);omega
 obtain⟨y3,e1⟩:=Xc hn hk (e:=(mC (.int 1))) (m:=1) (λ_ _=>rfl) (some (.pv A)) (some (.pv B)) hs [] [] none Tb.nil (by simp;omega) h;have h1:=Tb.nil.adds (cL hs 1);rw[eh]at h1;have l1:=cl hs 1 h;obtain⟨z3,e2⟩:=Xc hn hk (e:=(bO cB (mC (.int 1)))) (m:=-1) (λ_ _=>rfl) (some (.pv A)) (some (.pv B)) gs _ _ y3 h1 (by omega) g;have h2:=h1.adds (cL gs (-1));obtain⟨b,L,e3,e4,eb⟩:=acY h2;refine⟨b,?_,eb⟩;have hb:Dd=(aI (aU 2 (jX true)) (aI (bJ (bB (aA 0)) (gN 3) (qJ (mC (.int 1)))) (aI (bJ (bB (aA 1)) (gN 3) (qJ (bO cB (mC (.int 1))))) (bG (mR iZ (aB (bC ["_law_key"] [(2,"_law_table")] (bB (uJ (aB (aA 2) aD))) (gN 0) (aC cY (mG (aA 1) (aA 0)) (mC (.int 0)))) aD)))))):=rfl;unfold rC aS;rw[hb];generalize eY [] (cL hs 1)=K1,eY (eY [] (cL hs 1)) (cL gs (-1))=K2,gs.map px=GL,hs.map px=HL,(aC cY (mG (aA 1) (aA 0)) (mC (.int 0)))=B3,qJ (bO cB (mC (.int 1)))=B2,qJ (mC (.int 1))=B1 at *;rcases hA with rfl |rfl<;>rcases hB with rfl |rfl<;>
 simp! [bR,aN,aO,aM,aP,aF,aL,jX,bJ,bB,bW,e1,e2,bC,bX,uJ,xE,e3,e4]
theorem Dl{n k:Nat}(hn:n=2\/n=3)(hk:k<=1000){A B:PV}{hs gs:AC}(hA:Sv A (hs.map px))(hB:Sv B (gs.map px))(h:∀u∈hs,Sx n k u)(g:∀u∈gs,Sx n k u)(lh:hs.length<=1000)(lg:gs.length<=1000)(e:∀kk,HS hs kk=HS gs kk):rC [.pv A,.pv B] []=.ok (.pv (.bl true)) []/\tR [.pv B,.pv A] []=.ok (.pv (.bl true)) []:=by
 have c1:∀(m:Int) kk,dB (cH hs m) kk=m*HS gs kk:=λm kk=>by rw[Xf λu hu=>nH hn (h u hu).len,e]
 have c2:∀(m:Int) kk,dB (cH gs m) kk=m*HS gs kk:=λm kk=>Xf λu hu=>nH hn (g u hu).len;have pc:∀u,Sx n k u->Pc u:=λu s=>aei hn hk s.len s.gu s.nz;constructor
 .obtain⟨c,f,hc⟩:=abl hn hk hA hB h g lh lg
  obtain⟨D1,l1,s1⟩:=Ff hn 1 h;obtain⟨D2,l2,s2⟩:=Ff hn (-1) g;have q:=((l1.app l2).iff).mp λl=>by rw[kW,c1,c2];omega
  rw[f,hc.mpr λkk=>by rw[kW,<-s1,<-s2,<-kW];exact q kk]
 .obtain⟨b,f,hb⟩:=aaf hB hA (λu hu=>pc u (g u hu)) (λu hu=>pc u (h u hu)) lg lh
  rw[f,hb.mpr λkk=>by rw[kW,c1,c2];omega]
theorem Eu{t b:Int}{k:Nat}(ht:0<t)(hb:0<b)(bt:Bd k t)(bb:Bd k b):∃p q,fr t b=[p,q]/\0<p/\0<q/\p*b=t*q/\Bd k p/\Bd k q:=by
 obtain⟨zs,z,e,P,v⟩:=tT (n:=1) (L:=[t]) hb rfl (by simpa using bt) bb
 match zs,P.len,v,e,P with
 |[p],_,v,e,P=>
  have v0:p*b=t*z:=v 0 (by decide);refine⟨p,z,by unfold fr;rw[if_neg (by omega)];exact e,?_,P.pos,v0,P.bx p (by simp),P.bw⟩
  by_cases c:0<p
  .exact c
  .have:=u4 (Int.not_lt.mp c) (Int.le_of_lt hb)
   have:=aw ht P.pos;omega
theorem acv{l:Nat}{x y w:Int}(h:Gu 3 l [x,y,0,w]):Gu 3 l [x,y,w,w]:=by
 obtain⟨xs,v,e,P⟩:=h
 match xs,P.len,e,P with
 |[a,b,c],_,e,P=>
  have e:[x,y,0,w]=[a,b,c,v]:=e;cases e;have g:=Yo P.pos P.low;refine⟨[x,y,w],w,rfl,rfl,P.pos,abo ?_,λz hz=>?_,P.bw⟩
  .have g:((ce (ce (ce (ce 0 x) y) 0) w:Nat):Int)=1:=g
   show((ce (ce (ce (ce 0 x) y) w) w:Nat):Int)=1;rw[<-g];simp only[Int.gcd_zero_right,zq];generalize ce (ce 0 x) y=d;have:ce (d:Int) w∣w.natAbs:=Nat.gcd_dvd_right _ _;show((Nat.gcd (ce (d:Int) w) w.natAbs:Nat):Int)=_;rw[Nat.gcd_eq_left this]
  .have hz:z=x\/z=y\/z=w:=by simpa using hz
   rcases hz with rfl |rfl |rfl
   .exact P.bx _ (by simp)
   .exact P.bx _ (by simp)
   .exact P.bw
theorem bF.sum{s1 s2 t1 t2 u1 u2 n1 n2 n3 e:Int}{f:AA}(h:bF (u2*e) (u1*n1) (u1*n2) (u1*n3) f)(p:0<u2)(q:u1*(s2*t2)=(s1*t2+t1*s2)*u2):bF (s2*t2*e) ((s1*t2+t1*s2)*n1) ((s1*t2+t1*s2)*n2) ((s1*t2+t1*s2)*n3) f:=by
 obtain⟨x,y,z,w,e0,hw,a,b,c⟩:=h;have k:∀{x n:Int},x*(u2*e)=u1*n*w->x*(s2*t2*e)=(s1*t2+t1*s2)*n*w:=λ{x n} i=>by
  refine u6 (km p) ?_;have:u2*(x*(s2*t2*e))=x*(u2*e)*(s2*t2):=by grind
  rw[this,i];have:u1*n*w*(s2*t2)=u1*(s2*t2)*n*w:=by grind
  rw[this,q];grind
 exact⟨x,y,z,w,e0,hw,k a,k b,k c⟩
theorem bF.nz{s1 s2 n1 n2 n3 e:Int}{f:AA}(h:bF (s2*e) (s1*n1) (s1*n2) (s1*n3) f)(p:0<s1)(hn:n3≠0):f.getD 2 0≠0:=by
 obtain⟨x,y,z,w,rfl,hw,a,b,c⟩:=h;intro i;have i:z=0:=i;rw[i,gw]at c;exact cf (cf (km p) hn) (km hw) c.symm
theorem xY{k l:Nat}(hk:k+l+1<=1000){hs:AC}(h:∀u∈hs,Sx 2 k u){f:AA}(g:Gu 3 l f)(hc:f.getD 2 0≠0):∀u∈hs.flatMap (cT f),Sx 3 (k+l+1) u:=λu hu=>by
 obtain⟨x,hx,hy⟩:=List.mem_flatMap.mp hu;obtain⟨t,ht,rfl⟩:=gq.mp hy;obtain⟨a,b,c⟩:=Tp hk (h x hx) g hc t ht;exact Ef (.inr rfl) hk a b c
theorem pT{k:Nat}{f:AA}:∀{hs:AC},(∀u∈hs,Sx 2 k u)->(hs.flatMap (cT f)).length=3*hs.length
 |[],_=>rfl
 |u::hs,h=>by
  have l3:(cT f u).length=3:=by
   have:=(h u (by simp)).len
   match u,this with
   |[_,_,_],_=>rfl
  have ih:=pT (f:=f) (hs:=hs) λv hv=>h v (bj _ hv);rw[dm,av,l3,ih,cr];omega
theorem Iv(ns:AA):∃(t u p q:Int)(n1 n2:AA),cC [.ref 0,.pv (.int 9)] [.lst (li ns)]=.ok (.pv (.int t)) [.lst (li n1)]/\cC [.ref 0,.pv (.int 9)] [.lst (li n1)]=.ok (.pv (.int u)) [.lst (li n2)]/\mW [.pv (.int (1+t)),.pv (.int (1+u))] [.lst (li n2)]=.ok (.pv (.tup [.int p,.int q])) [.lst (li n2)]/\0<p/\0<q/\Bd 4 p/\Bd 4 q:=by
 have hr:∀k:AA,fF [.lst (li k)] 0 k:=λ_=>rfl;obtain⟨t,n1,e1,t0,t1,_⟩:=gX (m:=9) (hr ns) (by decide) (jB (by decide) (by decide));obtain⟨u,n2,e2,u0,u1,_⟩:=gX (m:=9) (hr n1) (by decide) (jB (by decide) (by decide));have b1:Bd 4 (1+t):=Bd.of (n:=9) (by omega) (by decide);have b2:Bd 4 (1+u):=Bd.of (n:=9) (by omega) (by decide);obtain⟨p,q,e3,p0,q0,_,c1,c2⟩:=Eu (t:=1+t) (b:=1+u) (by omega) (by omega) b1 b2;have e4:=Oc (1+t) (1+u) [.lst (li n2)] (b1.mono (by decide)) (b2.mono (by decide));rw[e3]at e4;exact⟨t,u,p,q,n1,n2,e1,e2,e4,p0,q0,c1,c2⟩
theorem abU{s1 s2 t1 t2:Int}(p1:0<s1)(p2:0<s2)(p3:0<t1)(p4:0<t2)(b1:Bd 4 s1)(b2:Bd 4 s2)(b3:Bd 4 t1)(b4:Bd 4 t2):∃u1 u2,(∀S,xN [.pv (.tup [.int s1,.int s2]),.pv (.tup [.int t1,.int t2])] S=.ok (.pv (.tup [.int u1,.int u2])) S)/\0<u1/\0<u2/\u1*(s2*t2)=(s1*t2+t1*s2)*u2/\Bd 9 u1/\Bd 9 u2:=by
 have k:Bd 9 (s1*t2+t1*s2):=(b1.mul b4).add (b3.mul b2);have k2:Bd 9 (s2*t2):=(b2.mul b4).mono (by decide);have:=aw p1 p4;have:=aw p3 p2;obtain⟨u1,u2,e,q1,q2,q3,q4,q5⟩:=Eu (t:=s1*t2+t1*s2) (b:=s2*t2) (by omega) (aw p2 p4) k k2;refine⟨u1,u2,λS=>?_,q1,q2,q3,q4,q5⟩;have e4:=Oc (s1*t2+t1*s2) (s2*t2) S (k.mono (by decide)) (k2.mono (by decide));rw[e]at e4;have e4:_=bQ.ok (AV.pv (.tup [.int u1,.int u2])) S:=e4;have m1:=iC b1 b4;have m2:=iC b3 b2;have m3:=iC b2 b4;unfold xN aS Ge;simp! [aE,aZ,bA,aK,aN,aO,aM,aP,aF,aL,m1,m2,m3,e4]
theorem abH(ns:AA):∃(aQ far:AA)(n1:AA),qW [.ref 0,.pv (.int 3)] [.lst (li ns)]=.ok (.pv (tv aQ)) [.lst (li n1)]/\(∀x0 x2,(cS (bK (aC cY (aC aE (aA 3) (mC (.int 2))) (mC (.int 0)))) (aU 3 (mN dF (aB (aC aE (aA 3) (mC (.int 0))) (aB (aC aE (aA 3) (mC (.int 1))) (aB (aC aE (aA 3) (mC (.int 3))) (aB (aC aE (aA 3) (mC (.int 3))) aD)))))) dE) [x0,some (.ref 0),x2,some (.pv (tv aQ)),none,none,none,none,none,none,none,none,none,none,none] [.lst (li n1)]=.nx [x0,some (.ref 0),x2,some (.pv (tv far)),none,none,none,none,none,none,none,none,none,none,none] [.lst (li n1)])/\Gu 3 100 far/\far.getD 2 0≠0:=by
 obtain⟨aQ,n1,e,G⟩:=M8 ns;have i2:=Su G;obtain⟨a,b,c,w,rfl,hw,_⟩:=G.three';have i2:aE (tv [a,b,c,w]) (.int 2)=some (.int c):=i2
 by_cases z:c=0
 .subst z
  refine⟨[a,b,0,w],[a,b,w,w],n1,e,λx0 x2=>?_,acv G,λi=>?_⟩
  .clear e i2 G
   simp! [aE,aZ,bA,aK,aN,aO,aM,aP,aF,aL,tv]
  .have i:w=0:=i
   omega
 .refine⟨[a,b,c,w],[a,b,c,w],n1,e,λx0 x2=>?_,G,z⟩
  have q:(c==0)=false:=by simpa using z
  clear e G;generalize tv [a,b,c,w]=T at *;simp! [bR,aN,aO,aM,aP,aF,aL,i2,q]
theorem Dm{n k l:Nat}(hn:n=2\/n=3)(S:aG){hs:AC}(h:∀u∈hs,Sx n k u){f:AA}(g:Gu n l f)(hk:k+l+1<=1000):cD [] (gN 0) (aJ pM [] (aB (aA 0) (aB (mC (.int 1)) (aB (aA 1) aD)))) (hs.map px) [none,some (.pv (tv f))] S=.ok ((hs.map (eL 1 f)).map px) S:=by
 have e:cD [] (gN 0) (aJ pM [] (aB (aA 0) (aB (mC (.int 1)) (aB (aA 1) aD)))) (hs.map px) [none,some (.pv (tv f))] S=.ok (hs.map λu=>px (eL 1 f u)) S:=by
  refine nU (jS _) px (λu=>px (eL 1 f u)) hs none λu hu=>?_;have a1:=aaY hn S (.inl rfl) (h u hu) g hk;generalize tv f=T4,px u=T3,px (eL 1 f u)=T2 at *;simp! [aE,aZ,bA,aK,aN,aO,aM,aP,aF,aL,a1]
 rw[dh];exact e
theorem N7(ns:AA)(h:ns.length<=63):∃S,Lf [.pv (.lst (ns.map .int))] []=.ok (.pv (.bl true)) S:=by
 have h3:(3:Nat)=2\/(3:Nat)=3:=.inr rfl;have hr:∀k:AA,fF [.lst (li k)] 0 k:=λ_=>rfl;obtain⟨ms,e0,_⟩:=abT ns [] h;have e0:tY [.pv (.lst (ns.map .int))] []=.ok (.ref 0) [.lst (li ms)]:=e0;obtain⟨rs,n1,e1,l1,r1⟩:=Ey (n:=2) (M:=3) rfl (by decide) ms;have e1:sP [.ref 0,.pv (.int 2),.pv (.int 3)] [.lst (li ms)]=.ok (.ref 1) [.lst (li n1),.lst (rs.map dQ)]:=e1;obtain⟨ss,n2,e2,l2,r2⟩:=Tz (n:=2) (.inl rfl) n1;have e2:sS [.ref 0,.pv (.int 2)] [.lst (li n1)]=.ok (.ref 1) [.lst (li n2),.lst (ss.map fv)]:=e2;obtain⟨gs,n3,e3,l3,r3⟩:=aav (.inl rfl) n2 l2 r2 r1 (by omega);have lg:gs.length<=3:=by omega
 obtain⟨aQ,far,n4,e4,t3,gF,hF⟩:=abH n3;obtain⟨a,b,c,e,rfl,he,_⟩:=gF.three';have hF:c≠0:=hF;obtain⟨x1,x2,s1,s2,n5,n6,e5,e6,e7,p1,p2,b1,b2⟩:=Iv n4;obtain⟨x3,x4,t1,t2,n7,n8,e8,e9,e10,p3,p4,b3,b4⟩:=Iv n6;obtain⟨u1,u2,e11,p5,p6,qu,b5,b6⟩:=abU p1 p2 p3 p4 b1 b2 b3 b4;obtain⟨fs,e12,g1,a1⟩:=Wc (m:=4) (by decide) gF b1 b2 p2;obtain⟨ft,e13,g2,a2⟩:=Wc (m:=4) (by decide) gF b3 b4 p4;obtain⟨fu,e14,g3,a3⟩:=Wc (m:=9) (by decide) gF b5 b6 p6;have z1:=a1.nz p1 hF;have z2:=a2.nz p3 hF;have z3:=a3.nz p5 hF;have a3:=a3.sum p6 qu;have g1:Gu 3 109 fs:=g1.mono (by decide);have g2:Gu 3 109 ft:=g2.mono (by decide);have g3:Gu 3 109 fu:=g3.mono (by decide);have e15:=qU (A:=.tup (gs.map px)) n8 (by decide) (show gs.length<=9 by omega) (.inr rfl) r3 g1 z1;have e16:=qU (A:=.tup (gs.map px)) n8 (by decide) (show gs.length<=9 by omega) (.inr rfl) r3 g2 z2;have e17:=qU (A:=.tup (gs.map px)) n8 (by decide) (show gs.length<=9 by omega) (.inr rfl) r3 g3 z3;have d1:=xY (by decide) r3 g1 z1;have d2:=xY (by decide) r3 g2 z2;have d3:=xY (by decide) r3 g3 z3;have e18:=Mz h3 [.lst (li n8)] (.inl rfl) (A:=.tup ((gs.flatMap (cT ft)).map px)) (.inr rfl) d2 g1 (by decide);have d4:∀u∈(gs.flatMap (cT ft)).map (eL 1 fs),Sx 3 421 u:=λu hu=>by
  obtain⟨x,hx,rfl⟩:=gq.mp hu;exact xO h3 (.inl rfl) (d2 x hx) g1 (by decide)
 have k1:=Gb h3 [.lst (li n8)] d1 (by decide);have k2:=Gb h3 [.lst (li n8)] d4 (by decide);have k3:=Gb h3 [.lst (li n8)] d3 (by decide);rw[show((3:Nat):Int)=3 from rfl]at k1 k2 k3;have m1:(gs.flatMap (cT fs)).length=3*gs.length:=pT r3;have m2:(gs.flatMap (cT ft)).length=3*gs.length:=pT r3;have m3:(gs.flatMap (cT fu)).length=3*gs.length:=pT r3;have bt:=Dl h3 (k:=421) (by decide) (A:=.tup ((gs.flatMap (cT fs)++(gs.flatMap (cT ft)).map (eL 1 fs)).map px)) (B:=.tup ((gs.flatMap (cT fu)).map px)) (.inr rfl) (.inr rfl) (λu hu=>by
  rcases ck.mp hu with y |y
  .exact(d1 u y).mono (by decide)
  .exact d4 u y) (λu hu=>(d3 u hu).mono (by decide)) (by rw[av,am];omega) (by omega) (λkk=>(Qy (by decide) r3 g1 g2 g3 he p1 p2 p3 p4 hF a1 a2 a3 kk).symm)
 rw[ee]at bt;have lz:((gs.flatMap (cT fs)).map px).length+(((gs.flatMap (cT ft)).map (eL 1 fs)).map px).length<=16777216:=by rw[am,am,am];omega
 obtain⟨xs,w,n9,e19,P,bx,bw⟩:=Is 2 (.inl rfl) (hr n8);have e19:mE [.ref 0,.pv (.int 2)] [.lst (li n8)]=.ok (.pv (tv (xs++[w]))) [.lst (li n9)]:=e19;have gV:Gu 2 100 (xs++[w]):=⟨xs,w,rfl,P.len,P.pos,P.low,bx,bw⟩;generalize xs++[w]=v at *;have e20:=Dm (.inl rfl) [.lst (li n9)] r3 gV (by decide);have e21:=(wF [.lst (li n9)] gV).2;have gU:=iH gV;have r4:∀u∈gs.map (eL 1 v),Sx 2 302 u:=λu hu=>by
  obtain⟨x,hx,rfl⟩:=gq.mp hu;exact xO (.inl rfl) (.inl rfl) (r3 x hx) gV (by decide)
 have e22:=qU (A:=.tup ((gs.map (eL 1 v)).map px)) n9 (by decide) (show(gs.map (eL 1 v)).length<=9 by rw[am];omega) (.inr rfl) r4 g1 z1;have d5:=xY (by decide) r4 g1 z1;have e23:=Dm h3 [.lst (li n9)] d1 gU (by decide);have b7:=(Dl h3 (k:=412) (by decide) (A:=.tup (((gs.map (eL 1 v)).flatMap (cT fs)).map px)) (B:=.lst (((gs.flatMap (cT fs)).map (eL 1 (ra v))).map px)) (.inr rfl) (.inl rfl) d5 (λu hu=>by
  obtain⟨x,hx,rfl⟩:=gq.mp hu;exact xO h3 (.inl rfl) (d1 x hx) gU (by decide)) (by rw[pT r4,am];omega) (by rw[am];omega) (F0 (by decide) r3 g1 z1 gV)).1
 obtain⟨i,n10,e24,il⟩:=tkl (ns:=n9) (L:=gs.map px) (T:=[]) (k:=1) (by simp;omega) (by simp);have e24:cC [.ref 0,.pv (.int (((gs.map px).length:Int)+1))] [.lst (li n9)]=.ok (.pv (.int (i:Int))) [.lst (li n10)]:=e24;rw[am]at il;have c1:=aeN (gs.map px) (a:=i) (by rw[am];omega);have c2:=aeu (gs.map px) (a:=i) (by rw[am];omega);rw[<-List.map_take]at c1;rw[<-List.map_drop]at c2;have r5:∀u∈gs.take i,Sx 2 201 u:=λu hu=>r3 u (List.mem_of_mem_take hu);have r6:∀u∈gs.drop i,Sx 2 201 u:=λu hu=>r3 u (List.mem_of_mem_drop hu);have l5:(gs.take i).length<=3:=by rw[jm];omega
 have l6:(gs.drop i).length<=3:=by rw[ow];omega
 have e25:=qU (A:=.tup ((gs.take i).map px)) n10 (by decide) (show(gs.take i).length<=9 by omega) (.inr rfl) r5 g1 z1;have e26:=qU (A:=.tup ((gs.drop i).map px)) n10 (by decide) (show(gs.drop i).length<=9 by omega) (.inr rfl) r6 g1 z1;have lw:(((gs.take i).flatMap (cT fs)).map px).length+(((gs.drop i).flatMap (cT fs)).map px).length<=16777216:=by rw[am,am,pT r5,pT r6];omega
 have q1:((gs.take i).flatMap (cT fs)).map px++((gs.drop i).flatMap (cT fs)).map px=(gs.flatMap (cT fs)).map px:=by
  rw[<-ee,<-List.flatMap_append,List.take_append_drop]
 have q2:aK 8 (.tup ((gs.flatMap (cT fs)).map px)) (.tup ((gs.flatMap (cT fs)).map px))=some true:=(Q0 (m:=5) d1).1;refine⟨[],?_⟩;clear r1 r2 r3 r4 r5 r6 d1 d2 d3 d4 d5 a1 a2 a3 g1 g2 g3 z1 z2 z3 gF gV gU m1 m2 m3;generalize ns.map PV.int=NL,tv aQ=F7,tv v=F6,tv (ra v)=F5,tv fu=F4,tv ft=F3,tv fs=F2,tv [a,b,c,e]=F1,ss.map fv=V5,rs.map dQ=V4,gs.map px=V3,(gs.map (eL 1 v)).map px=V2,(gs.flatMap (cT fu)).map px=V1,(gs.flatMap (cT ft)).map px=W9,(gs.flatMap (cT fs)).map px=W8,((gs.flatMap (cT ft)).map (eL 1 fs)).map px=W7,((gs.flatMap (cT fs)).map (eL 1 (ra v))).map px=W6,((gs.map (eL 1 v)).flatMap (cT fs)).map px=W5,(gs.drop i).map px=W4,(gs.take i).map px=W3,((gs.drop i).flatMap (cT fs)).map px=W2,((gs.take i).flatMap (cT fs)).map px=W1 at *;obtain⟨b8,b0⟩:=bt;unfold Lf Zf;apply adj rfl;apply sq;simp! [bR,aN,aO,aM,aP,aF,aL,jV,e0];exact⟨rfl,rfl⟩;apply sq;simp! [bR,aN,aO,aM,aP,aF,aL,e1,e2,e3];exact⟨rfl,rfl⟩;apply sq;simp! [bR,aN,aO,aM,aP,aF,aL,e4];exact⟨rfl,rfl⟩;apply sq;exact t3 _ _;apply sq;simp! [bR,aN,aO,aM,aP,aF,aL,e5,e6,e7];exact⟨rfl,rfl⟩;apply sq;simp! [bR,aN,aO,aM,aP,aF,aL,e8,e9,e10];exact⟨rfl,rfl⟩;apply sq;simp! [bR,aN,aO,aM,aP,aF,aL,e12,e15];exact⟨rfl,rfl⟩;apply sq;simp! [bR,aN,aO,aM,aP,aF,aL,e12,e13,e16,e18];exact⟨rfl,rfl⟩;apply sq;simp! [bR,aN,aO,aM,aP,aF,aL,e11,e14,e17];exact⟨rfl,rfl⟩;apply sq;simp! [bR,aN,aO,aM,aP,aF,aL,bJ,bB,bW,fG,fR,gN,k1,k2,k3];exact⟨rfl,rfl⟩;apply sq;simp! [bR,aN,aO,aM,aP,aF,aL,pU,oU,pZ,lz,b8,b0];exact⟨rfl,rfl⟩;apply sq;simp! [bR,aN,aO,aM,aP,aF,aL,e19];exact⟨rfl,rfl⟩;apply sq;simp! [bR,aN,aO,aM,aP,aF,aL,bC,bX,bB,bW,e20];exact⟨rfl,rfl⟩;apply sq;simp! [bR,aN,aO,aM,aP,aF,aL,e21];exact⟨rfl,rfl⟩;apply sq;simp! [bR,aN,aO,aM,aP,aF,aL,pU,oU,bC,bX,bB,bW,e12,e22,e23,b7];exact⟨rfl,rfl⟩;apply sq;simp! [bR,aN,aO,aM,aP,aF,aL,e24];exact⟨rfl,rfl⟩;apply sq;simp! [bR,aN,aO,aM,aP,aF,aL,dG,dM,dD,fT,c1,c2,e12,e25,e26,pZ,lw];exact⟨rfl,rfl⟩;simp! [bR,aN,aO,aM,aP,aF,aL,q1,q2];exact⟨rfl,rfl⟩;simp[nC]
theorem hF_k{K:ag}{x:Str}{st:Stmt}{f:Addr}{oc:Value}{od an:AF}{osl:Array AE}{kV doc pm cdv ct:Value}(a:df K mainGlobals x=some (some (.ref f)):=by k_is)(l:K.lookup f=some ⟨oc,od,.func (dn x x (iE st) (eV st) (cX st) .none kV doc pm an cdv ct),osl⟩:=by k_is)(c:jx K cdv x=true:=by k_is)(k:fk K (.ref f)=true:=by k_is):HF K x st:=adl a l c k
theorem all_mk{l:mx}{w:al}{K:ag}{h:Heap}{mg:Str->AE}{fa:Addr}(X:K.In h)(G:h.Ns mainGlobals mg)(hfa:mg "law"=some (.ref fa))
  (h38:HF K "_law_row" Tt)
  (h39:HF K "_law_take" Br)
  (h40:HF K "_law_gcd" Qt)
  (h41:HF K "_law_lowest" Yl)
  (h69:HF K "_law_far" Ks)
  (h50:HF K "_law_dot" Wt)
  (h49:HF K "_law_cross" Pn)
  (h51:HF K "_law_turn" Uq)
  (h48:HF K "_law_gap" Yt)
  (h52:HF K "_law_det" Zr)
  (h53:HF K "_law_simplex" Zj)
  (h47:HF K "_law_joined" Wk)
  (h71:HF K "_law_spot" Uo)
  (h72:HF K "_law_laid" Xr)
  (h45:HF K "_law_frac" Ep)
  (h70:HF K "_law_stretch" Ik)
  (h66:HF K "_law_raw_turn" Si)
  (h65:HF K "_law_raw" Ct)
  (h67:HF K "_law_kuhn" Ap)
  (h68:HF K "_law_raw_heap" Bj)
  (h74:HF K "_law_shift" Ko)
  (h26:HF K "refuse_flat" Ai)
  (h25:HF K "in_space" Nj)
  (h6:HF K "divisor" Il)
  (h7:HF K "reduced" Cm)
  (h5:HF K "sign" As)
  (h11:HF K "added" Wr)
  (h14:HF K "whole_arrow" Ii)
  (h15:HF K "dot" Wu)
  (h16:HF K "normal" Fo)
  (h17:HF K "determinant" Bi)
  (h18:HF K "side" Ms)
  (h22:HF K "simplex" Bm)
  (h27:HF K "prism" Xo)
  (h75:HF K "_law_part_of" Gk)
  (h34:HF K "is_push" Yk)
  (h13:HF K "turned" Ro)
  (h12:HF K "lessened" Lj)
  (h35:HF K "moved_point" Fi)
  (h36:HF K "moved" Mq)
  (h46:HF K "_law_sum" Zt)
  (h43:HF K "_law_whole" Wn)
  (h44:HF K "_law_wholes" Rl)
  (h62:HF K "_law_point_form" Hi)
  (h63:HF K "_law_simplex_form" Uh)
  (h64:HF K "_law_heap_form" Ni)
  (h42:HF K "_law_upward" Xk)
  (h54:HF K "_law_flat_line" Pi)
  (h58:HF K "_law_put" Ht)
  (h55:HF K "_law_space_line" Di)
  (h57:HF K "_law_shuts" Mn)
  (h56:HF K "_law_plane" Ao)
  (h59:HF K "_law_mark" Yp)
  (h60:HF K "_law_same" Bp)
  (h23:HF K "walls" Zp)
  (h8:HF K "lowest_way" Ki)
  (h29:HF K "plane_way" Ui)
  (h30:HF K "sides" Tr)
  (h31:HF K "put_wall" Oj)
  (h32:HF K "same" Hs)
  (h61:HF K "_law_gone" Cr)
  (h73:HF K "_law_raised" Mk)
  {f10:Addr}{od10 an10:AF}{sl10:Array AE}{oc10 kV10 dc10 pm10 cd10 ct10:Value}
  {T10:Addr}{tc10:Value}{td10:AF}{tl10:Array AE}{tn10:Nat}{tt10:db}
  (a10:df K mainGlobals "point"=some (some (.ref f10)))(l10:K.lookup f10=some ⟨oc10,od10,.func (dn "point" "point" (iE tN) (eV tN) (cX tN) (.ref T10) kV10 dc10 pm10 an10 cd10 ct10),sl10⟩)(c10:jx K cd10 "point"=true)(k10:fk K (.ref f10)=true)
  (t10:K.lookup T10=some ⟨tc10,td10,.seq #[.int 1 tt10] tn10,tl10⟩)
  {f76:Addr}{od76 an76:AF}{sl76:Array AE}{oc76 kV76 dc76 pm76 cd76 ct76:Value}
  (a76:df K mainGlobals "law"=some (some (.ref f76)))(l76:K.lookup f76=some ⟨oc76,od76,.func (dn "law" "law" (iE oM) (eV oM) (cX oM) .none kV76 dc76 pm76 an76 cd76 ct76),sl76⟩)(c76:jx K cd76 "law"=true)(k76:fk K (.ref f76)=true)
  (z1:df K mainGlobals "abs"=some none)
  (z2:df K mainGlobals "all"=some none)
  (z3:df K mainGlobals "any"=some none)
  (z4:df K mainGlobals "bool"=some none)
  (z5:df K mainGlobals "enumerate"=some none)
  (z6:df K mainGlobals "int"=some none)
  (z7:df K mainGlobals "isinstance"=some none)
  (z8:df K mainGlobals "len"=some none)
  (z9:df K mainGlobals "list"=some none)
  (z10:df K mainGlobals "range"=some none)
  (z11:df K mainGlobals "sorted"=some none)
  (z12:df K mainGlobals "sum"=some none)
  (z13:df K mainGlobals "tuple"=some none)
  (z14:df K mainGlobals "zip"=some none)
  {C1 C2:Addr}
  (y1:df K mainGlobals "Flat"=some (some (.ref C1)))(x1:jk K C1 nA "ValueError.__new__"=true)
  (y2:df K mainGlobals "NoPoint"=some (some (.ref C2)))(x2:jk K C2 nA "ValueError.__new__"=true)
  {gk1:db}
  {gk2:db}
  {GA2:Addr}{gd2:AF}{gn2:Nat}{gs2:Array AE}
  {gk3:db}
  {gk4:db}
  {GA3:Addr}{gd3:AF}{gn3:Nat}{gs3:Array AE}
  {gk5:db}
  {gk6:db}
  {GA4:Addr}{gd4:AF}{gn4:Nat}{gs4:Array AE}
  {GA1:Addr}{gd1:AF}{gn1:Nat}{gs1:Array AE}
  {gk7:db}
  {gk8:db}
  {gk9:db}
  {GA6:Addr}{gd6:AF}{gn6:Nat}{gs6:Array AE}
  {gk10:db}
  {gk11:db}
  {gk12:db}
  {GA7:Addr}{gd7:AF}{gn7:Nat}{gs7:Array AE}
  {gk13:db}
  {gk14:db}
  {gk15:db}
  {GA8:Addr}{gd8:AF}{gn8:Nat}{gs8:Array AE}
  {gk16:db}
  {gk17:db}
  {gk18:db}
  {GA9:Addr}{gd9:AF}{gn9:Nat}{gs9:Array AE}
  {GA5:Addr}{gd5:AF}{gn5:Nat}{gs5:Array AE}
  (v1:df K mainGlobals "FLAT_WALLS"=some (some (.ref GA1)))
  (v2:df K mainGlobals "SPACE_WALLS"=some (some (.ref GA5)))
  (vl1:K.lookup GA1=some ⟨.type "tuple",gd1,.seq #[.ref GA2,.ref GA3,.ref GA4] gn1,gs1⟩)
  (vl2:K.lookup GA2=some ⟨.type "tuple",gd2,.seq #[.int 0 gk1,.int 1 gk2] gn2,gs2⟩)
  (vl3:K.lookup GA3=some ⟨.type "tuple",gd3,.seq #[.int 1 gk3,.int 2 gk4] gn3,gs3⟩)
  (vl4:K.lookup GA4=some ⟨.type "tuple",gd4,.seq #[.int 2 gk5,.int 0 gk6] gn4,gs4⟩)
  (vl5:K.lookup GA5=some ⟨.type "tuple",gd5,.seq #[.ref GA6,.ref GA7,.ref GA8,.ref GA9] gn5,gs5⟩)
  (vl6:K.lookup GA6=some ⟨.type "tuple",gd6,.seq #[.int 1 gk7,.int 2 gk8,.int 3 gk9] gn6,gs6⟩)
  (vl7:K.lookup GA7=some ⟨.type "tuple",gd7,.seq #[.int 0 gk10,.int 3 gk11,.int 2 gk12] gn7,gs7⟩)
  (vl8:K.lookup GA8=some ⟨.type "tuple",gd8,.seq #[.int 0 gk13,.int 1 gk14,.int 3 gk15] gn8,gs8⟩)
  (vl9:K.lookup GA9=some ⟨.type "tuple",gd9,.seq #[.int 0 gk16,.int 2 gk17,.int 1 gk18] gn9,gs9⟩)
  :∃fd:cc,(∀(s:aa)(v:Value),mn s fd ⟨[v],[]⟩ [("_law_script",v)])/\∀base:Heap,K.In base->base.Ns mainGlobals mg->eR l.prog w K mg base fM 8 fa fd ["_law_script"] (xU K):=by
 let cl:Str->Addr:=λn=>if n="Flat" then C1 else if n="NoPoint" then C2 else 0
 have e:=hfa.symm.trans (lc X G a76);cases e;have F10:=aaE (st:=tN) l10 c10 k10 t10 rfl;have b10:=F10.binds (ps:=["numbers","bottom"]) (dd:=[]) λ_ _ _ _ _ _ _ us hl=>match us,hl with |[_,_],_=>⟨_,rfl,rfl⟩
 have n10:=lc X G a10;have F76:=Ds (st:=oM) l76 c76 k76;have m:Mg mg:=⟨iy X G z1,iy X G z2,iy X G z3,iy X G z4,iy X G z5,iy X G z6,iy X G z7,iy X G z8,iy X G z9,iy X G z10,iy X G z11,iy X G z12,iy X G z13,iy X G z14⟩;have gt_FLAT_WALLS:uT K mg "FLAT_WALLS" (.tup [.tup [.int 0,.int 1],.tup [.int 1,.int 2],.tup [.int 2,.int 0]]):=⟨_,.ref GA1,lc X G v1,rfl,(mS (vs:=[.ref GA2,.ref GA3,.ref GA4]) vl1 (by show 3<=fh;decide) (.cons rfl (.cons rfl (.cons rfl .nil))) (by show 3<=fh;decide) (fK (mS (vs:=[.int 0,.int 1]) vl2 (by show 2<=fh;decide) (.cons ⟨_,rfl⟩ (.cons ⟨_,rfl⟩ .nil)) (by show 2<=fh;decide) (fK iF (fK iF mQ))) (fK (mS (vs:=[.int 1,.int 2]) vl3 (by show 2<=fh;decide) (.cons ⟨_,rfl⟩ (.cons ⟨_,rfl⟩ .nil)) (by show 2<=fh;decide) (fK iF (fK iF mQ))) (fK (mS (vs:=[.int 2,.int 0]) vl4 (by show 2<=fh;decide) (.cons ⟨_,rfl⟩ (.cons ⟨_,rfl⟩ .nil)) (by show 2<=fh;decide) (fK iF (fK iF mQ))) mQ))))⟩;have gt_SPACE_WALLS:uT K mg "SPACE_WALLS" (.tup [.tup [.int 1,.int 2,.int 3],.tup [.int 0,.int 3,.int 2],.tup [.int 0,.int 1,.int 3],.tup [.int 0,.int 2,.int 1]]):=⟨_,.ref GA5,lc X G v2,rfl,(mS (vs:=[.ref GA6,.ref GA7,.ref GA8,.ref GA9]) vl5 (by show 4<=fh;decide) (.cons rfl (.cons rfl (.cons rfl (.cons rfl .nil)))) (by show 4<=fh;decide) (fK (mS (vs:=[.int 1,.int 2,.int 3]) vl6 (by show 3<=fh;decide) (.cons ⟨_,rfl⟩ (.cons ⟨_,rfl⟩ (.cons ⟨_,rfl⟩ .nil))) (by show 3<=fh;decide) (fK iF (fK iF (fK iF mQ)))) (fK (mS (vs:=[.int 0,.int 3,.int 2]) vl7 (by show 3<=fh;decide) (.cons ⟨_,rfl⟩ (.cons ⟨_,rfl⟩ (.cons ⟨_,rfl⟩ .nil))) (by show 3<=fh;decide) (fK iF (fK iF (fK iF mQ)))) (fK (mS (vs:=[.int 0,.int 1,.int 3]) vl8 (by show 3<=fh;decide) (.cons ⟨_,rfl⟩ (.cons ⟨_,rfl⟩ (.cons ⟨_,rfl⟩ .nil))) (by show 3<=fh;decide) (fK iF (fK iF (fK iF mQ)))) (fK (mS (vs:=[.int 0,.int 2,.int 1]) vl9 (by show 3<=fh;decide) (.cons ⟨_,rfl⟩ (.cons ⟨_,rfl⟩ (.cons ⟨_,rfl⟩ .nil))) (by show 3<=fh;decide) (fK iF (fK iF (fK iF mQ)))) mQ)))))⟩;refine⟨dn "law" "law" (iE oM) (eV oM) (cX oM) .none kV76 dc76 pm76 an76 cd76 ct76,λs v=>.of_eq rfl,λbase _ _=>?_⟩
 let B:Bx:=⟨l.prog,w,K,mg,base,cl⟩
 have Xg:XG B.K B.mg:=⟨h,X,G⟩;have m:Mg B.mg:=m;have q_Flat:B.mg "Flat"=some (.ref (B.cl "Flat")):=lc X G y1;have x_Flat:jk B.K (B.cl "Flat") nA "ValueError.__new__"=true:=x1;have q_NoPoint:B.mg "NoPoint"=some (.ref (B.cl "NoPoint")):=lc X G y2;have x_NoPoint:jk B.K (B.cl "NoPoint") nA "ValueError.__new__"=true:=x2;have C38:=Y9 Xg m h38;have C39:=Q7 Xg m h39;have C40:=aaU Xg m h40;have C41:=Ly Xg m h41 C40;have C69:=aau Xg m h69 C39 C41;have C50:=aah Xg m h50;have C49:=A4 Xg m h49;have C51:=M7 Xg m h51 C50 C49;have C48:=abj Xg m h48;have C52:=abh Xg m h52 C51 C48;have C53:=Ay Xg m h53 C52;have C47:=Lz Xg m h47 C41;have C71:=Q3 Xg m h71 C41;have C72:=Q4 Xg m h72 C69 C53 C47 C71;have C45:=O7 Xg m h45 C41;have C70:=By Xg m h70 C39 C45;have C66:=Qx Xg m h66 C51;have C65:=aaR Xg m h65 C39 C66;have C67:=M3 Xg m h67 C39;have C68:=Px Xg m h68 C39 C65 C67;have C74:=Wz Xg m h74 C39 C41;have H26:=Ax Xg m h26 q_Flat x_Flat;have C25:=Dy Xg m h25;have C6:=Uy Xg m h6;have C7:=Jz Xg m h7 C6;have C5:=aa7 Xg m h5;have G10:=X8 Xg m F10 C7 C5 q_NoPoint x_NoPoint;have H10:Um B:=Wv G10 b10 k10 n10;have C11:=M6 Xg m h11 H10;have C14:=Zw Xg m h14;have C15:=acW Xg m h15;have C16:=C4 Xg m h16;have C17:=Xw Xg m h17 C14 C15 C16;have C18:=Z8 Xg m h18 C5 C17;have H22:=Pz Xg m h22 C18 q_Flat x_Flat;have H27:=K9 Xg m h27 H26 C25 C11 H22;have C75:=Ky Xg m h75 C41;have C34:=Nz Xg m h34;have C13:=B4 Xg m h13;have C12:=Yx Xg m h12 C11 C13;have C35:=Ex Xg m h35 C34 C11 C12;have C36:=O0 Xg m h36 H22 C35;have C46:=abt Xg m h46 C45;have C43:=D5 Xg m h43;have C44:=My Xg m h44 C43;have C62:=Yw Xg m h62 C44 C41;have C63:=Tw Xg m h63 C62 C52 C53;have C64:=Fx Xg m h64 C63;have C42:=Bz Xg m h42 C41;have C54:=Hx Xg m h54 C42 C49;have C58:=aa5 Xg m h58;have C55:=Dx Xg m h55 C42 C48 C49;have C57:=Yz Xg m h57;have C56:=E4 Xg m h56 C49 C48 C42 C50;have C59:=P4 Xg m h59 C54 C58 C55 C57 C56;have C60:=S6 Xg m h60 C59;have C23:=G5 Xg m h23 gt_FLAT_WALLS gt_SPACE_WALLS;have C8:=Kx Xg m h8 C7 C5;have C29:=Tx Xg m h29 C8 C16 C14;have C30:=O1 Xg m h30;have C31:=Hy Xg m h31 C29 C30 C8 C14;have C32:=aar Xg m h32 C23 C31;have C61:=S5 Xg m h61 C53 C47;have C73:=Gz Xg m h73;exact(aco Xg m F76 C38 C72 C70 C68 C74 C45 C39 H27 C75 C36 C46 C64 C60 C32 C69 C61 C73).imp λvs H Q E h=>abx N7 h
theorem walk{l:mx}{q:Program}{loose:List Str}{XP:(Str->AE)->Heap->Prop}{YP:al->Heap->Prop}{d:DefRec}{K:lm->ag}(hn:l.most=some 63)(hdf:d.params.defaults=[])
  (hY:∀(w:al)(h:Heap),YP w h->(K w.params).In h)
  (F:∀(w:al)(mg:Str->AE)(fa:Addr)(h:Heap),(K w.params).In h->h.Ns mainGlobals mg->mg d.name=some (.ref fa)->
   ∃fd:cc,(∀(s:aa)(u:Value),mn s fd ⟨[u],[]⟩ [("_law_script",u)])/\∀base:Heap,(K w.params).In base->base.Ns mainGlobals mg->eR l.prog w (K w.params) mg base fM 8 fa fd ["_law_script"] (xU (K w.params))):
  PySem.W.WalkO q loose XP YP l.row.toRowW d [] (λf vs=>wj f vs):=
 L2.walk_of (n:=63) (k:=8) (x:="_law_script") (CX:=λ_=>fM) (sp:=λw=>xU (K w.params)) hn (by decide) hdf ⟨rfl,by decide,by decide⟩ hY F (λ_ _ a ns hl _ hS=>⟨a,ns,rfl,hS,hl,λ_=>rfl⟩) λ_ _ _ _ _ z=>z
end
end Sc
open PySem PySem.W PyProof.Rows
set_option maxRecDepth 100000 in
set_option maxHeartbeats 0 in
theorem PySem.Challenge.cw_scissorhall_k65_whole_stacked_holds : PySem.Challenge.rw_scissorhall_k65_whole_stacked.Holds := by
 w_on; refine holds_law Sc.wsaid λsaid=>?_
 refine holds_open (q:=Sc.VW) (loose:=[dl "point"]) (Xt:=λs=>xlAt Sc.VW [] s && recOk (uh (ui (uj oh))) s) (XP:=XL Sc.VW []) (Yf:=uf (kHook Sc.KK Sc.KA Sc.KE)) (Ya:=ug (kHook Sc.KK Sc.KA Sc.KE)) (YP:=Hook.says (kHook Sc.KK Sc.KA Sc.KE)) (N:=5260) Sc.left (Hook.of (kHook Sc.KK Sc.KA Sc.KE)) (Hook.keeps (kHook Sc.KK Sc.KA Sc.KE)) (λs e=>xl_of s (yb.mp e).1) XL.keeps (by rfl) (by rfl) (by rfl) (λs e=>recFacts_of (yb.mp e).2) (by rfl) (by first | assumption | decide +kernel) (by decide +kernel) ⟨rfl,rfl,rfl,rfl,rfl,by decide +kernel⟩ ?hw ?hc
 case hw=>w_witness2
 k_fill
 refine Sc.walk (l:=oh) rfl rfl (λw h Y=>PySem.W.kIn_of Y) ?F
 case F =>
  intro w mg fa h KX G hmg;refine' Sc.all_mk KX G hmg Sc.hF_k Sc.hF_k Sc.hF_k Sc.hF_k Sc.hF_k Sc.hF_k Sc.hF_k Sc.hF_k Sc.hF_k Sc.hF_k Sc.hF_k Sc.hF_k Sc.hF_k Sc.hF_k Sc.hF_k Sc.hF_k Sc.hF_k Sc.hF_k Sc.hF_k Sc.hF_k Sc.hF_k Sc.hF_k Sc.hF_k Sc.hF_k Sc.hF_k Sc.hF_k Sc.hF_k Sc.hF_k Sc.hF_k Sc.hF_k Sc.hF_k Sc.hF_k Sc.hF_k Sc.hF_k Sc.hF_k Sc.hF_k Sc.hF_k Sc.hF_k Sc.hF_k Sc.hF_k Sc.hF_k Sc.hF_k Sc.hF_k Sc.hF_k Sc.hF_k Sc.hF_k Sc.hF_k Sc.hF_k Sc.hF_k Sc.hF_k Sc.hF_k Sc.hF_k Sc.hF_k Sc.hF_k Sc.hF_k Sc.hF_k Sc.hF_k Sc.hF_k Sc.hF_k Sc.hF_k Sc.hF_k Sc.hF_k ?a10 ?l10 ?c10 ?k10 ?t10 ?a76 ?l76 ?c76 ?k76 ?z1 ?z2 ?z3 ?z4 ?z5 ?z6 ?z7 ?z8 ?z9 ?z10 ?z11 ?z12 ?z13 ?z14 ?y1 ?x1 ?y2 ?x2 ?v1 ?v2 ?vl1 ?vl2 ?vl3 ?vl4 ?vl5 ?vl6 ?vl7 ?vl8 ?vl9
  (case a10 | l10 | c10 | k10 | t10 | a76 | l76 | c76 | k76 | z1 | z2 | z3 | z4 | z5 | z6 | z7 | z8 | z9 | z10 | z11 | z12 | z13 | z14 | y1=>k_is)
  (case x1=>k_exc)
  (case y2=>k_is)
  (case x2=>k_exc)
  (case v1 | v2 | vl1 | vl2 | vl3 | vl4 | vl5 | vl6 | vl7 | vl8 | vl9=>k_is)
#print axioms PySem.Challenge.cw_scissorhall_k65_whole_stacked_holds
