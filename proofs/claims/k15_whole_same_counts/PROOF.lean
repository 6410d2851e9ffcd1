import PyProof.Rows.All
import KE.KFromBytes
import KE.KIsAll
import PyProof.EqAt
import PyProof.EqKinds
import PyProof.TupleCall
import PyProof.ZipIter
import PyProof.Draws
import PyProof.CompFree
import PyProof.NeKinds
import PyProof.NsDelKeeps
import PyProof.ExcArgsOwn
import PyProof.ExcAttrAll.ValueError
import KE.KSortTup
import PyProof.DictRoadsH
import Wide.Seal
import KE.KIntText
import PyProof.FitsReplace
import PyProof.StrWalks
import PyProof.CompMap
import KE.KDictList
import PySem.Challenge.RW_scissorhall_k15_whole_same_counts
set_option Elab.async false
set_option compiler.extract_closed false
set_option maxRecDepth 100000
set_option maxHeartbeats 0
open And renaming intro->ao
open Array renaming length_toList->kx,toList->ub,replicate->xf,append_assoc->yq,forIn_toList->d8
open Bool renaming and_eq_true->ja,false_ne_true->jh,eq_iff_iff->rf,and_eq_true_iff->xx,not_eq_true'->d6,false_eq_true->j1
open Classical renaming propDecidable->rn
open Decidable renaming byContradiction->o7
open False renaming elim->io
open ForInStep renaming yield->vq
open Function renaming comp_apply->j8
open Int renaming mul_pos->aw,gcd->bn,ne_of_gt->da,mul_comm->du,mul_ne_zero->ia,mul_neg->jo,neg_mul->jp,zero_sub->jq,zero_mul->jw,mul_zero->kb,mul_assoc->kd,one_mul->ke,toNat_natCast->la,mul_ediv_cancel_left->lc,natAbs_mul->nu,zero_add->pe,fdiv_eq_ediv_of_dvd->pf,mul_one->qi,gcd_zero_left->qu,mul_sub->qv,mul_eq_zero->td,neg_sub->tf,le_refl->ve,gcd_dvd_left->vg,gcd_dvd_right->vh,natAbs_natCast->vj,mul_neg_of_pos_of_neg->vk,neg_mul_neg->vm,natCast_mul->yf,sub_zero->yi,reduceLT->yj,natAbs_neg->zn,sub_eq_add_neg->zo,emod_nonneg->zq,natCast_nonneg->zt,gcd_mul_left->zu,pos_of_mul_pos_left->zw,fmod_nonneg_of_pos->o4
open List renaming length_map->ak,getElem?_eq_getElem->au,size_toArray->ax,map_cons->ay,mem_cons->bc,length_append->bf,mem_cons_of_mem->bh,mem_cons_self->bi,getElem?_map->bj,length_cons->bo,getElem?_eq_some_iff->ca,range->ce,zipWith->ci,getD->ck,mem_append->cq,map_nil->cr,mem_append_right->cu,mem_of_getElem?->cv,getElem?_set_self->de,set_cons_zero->dg,nil_append->dh,getElem?_append_right->di,length_set->dj,lookup_cons->dk,getElem?_set_ne->dz,getElem?_append_left->eh,map_map->fg,not_mem_nil->fi,getElem_mem->fj,append_assoc->fz,cons_append->gh,set_cons_succ->gi,append_nil->gv,map_append->ib,map_congr_left->iw,mem_map->ix,filterMap_cons->iy,length_singleton->jk,prefix_rfl->ju,replicate->jy,length_take->jz,length_zipWith->kh,flatMap_cons->ki,mem_append_left->ku,nodup_cons->kz,all_eq_true->lm,map->lq,toArray->mf,ext_getElem?->mj,set_set->mq,getElem?_concat_length->oj,length->pb,filterMap_map->pd,getElem_of_mem->ph,nodup_append->pk,length_eq_zero_iff->po,map_set->pq,mem_iff_getElem?->pz,length_drop->qm,forIn_cons->qw,sum_cons->rl,getElem?_eq_none->rm,drop_eq_getElem_cons->rp,drop_length->sa,getElem?_take->se,nodup_nil->sf,getElem?_set->sj,count_cons->sx,flatMap_nil->sy,range_succ_eq_map->tj,mem_range->tz,mem_filterMap->ue,of_mem_zip->uf,map_id->vn,forIn_nil->wg,ext_getElem->wo,mem_iff_getElem->wv,length_range->ww,take_length->xc,take_of_length_le->ya,getElem_zipWith->yb,zipWith_cons_cons->yc,zipWith_nil_left->yd,sum_nil->ye,getElem?_cons_zero->yg,mem_or_eq_of_mem_set->yh,eraseIdx_set_eq->yk,mem_filter->yr,getElem?_replicate->zc,length_replicate->zd,zipIdx_cons->a7,zipIdx_nil->a8,take_left->f6,getElem?_zipWith->f7,getElem_toArray->f8,any_eq_true->i9,getElem?_eq_none_iff->j0,map_inj_right->j2,set_getElem_self->j3,length_pos_iff->j4,min?_eq_some_iff->j5,eq_nil_of_length_eq_zero->j6,getD_eq_getElem?_getD->o5,length_nil->o6
open Nat renaming le_refl->aj,ne_of_lt->cw,lt_of_lt_of_le->db,le_trans->dy,zero_le->ft,sub_self->gg,lt_irrefl->jc,le_succ->lb,ne_of_gt->ng,le_of_lt->oo,pow_succ->qr,lt_of_le_of_lt->qt,two_pow_pos->sv,succ_le_succ->uz,le_of_eq->vd,lt_trans->vo,lt_of_succ_lt->wt,add_assoc->wu,lt_succ_self->wz,lt_succ_of_lt->xb,le_succ_of_le->xk,min_eq_left->xn,add_zero->xo,pow_le_pow_right->zm,eq_zero_or_pos->zp,exists_eq_add_of_le->d9
open Ne renaming symm->gr
open Option renaming getD_some->si,getD_none->zj
open Option.some renaming inj->cg
open Or renaming inl->fe,inr->gw
open Prod renaming ext->um
open PyProof.Rows renaming AllBare->jg,IntsAre->ni,callWith_type1->ox,slot_tuple_getitem->qo,assignInOrder_cons->ud,Subscript_->uo,get?_update_seq->xi,subscriptTail_builtinR->zh
open PyProof.Rows.IsTup renaming new->qh
open PySem renaming Shared->aa,wpAny_bind->ae,Expr->ag,Pos->ah,wpAny_pure->ai,World->am,Around->aq,Env->az,FuncData->cf,Tok->df,IsPair->dm,wpAny_mono->dr,sizeLine->fk,NameKind->fm,wpAny_field->fw,IsZip->fx,Paired->ig,wpAny_newObj_type->ir,Keyword->iz,wpAny_call_entry->ji,mem_of_lookup->jm,Draws->jr,sizeLine_eq->jx,wpAny_seqItems->kg,CmpOp->kj,wpAny_holding->kl,IsPart->km,wpAny_callSpecial?_slot->kn,Model->kw,wpAny_passesOwn->ky,wpAny_setField->ld,Params->mx,wpAny_execs_nil->my,BindsTo->nh,wpAny_setField_rec->og,Fin->oi,Operator->oq,wpAny_standAt->ot,wpAny_rule->ou,PassesOwn->ow,Result->oy,codeAny_mono->oz,wpAny_attempt->pg,wpAny_truthy_bool->qg,wpAny_Call_Name_kw->qj,concat_meets->qk,wpAny_letGo->qy,wpAny_onRaise->rc,storedH_old->sk,storedH_new->sr,wpAny_Name->ua,wpAny_execs_cons->uc,noFill_tuple_add->ug,seq_tuple_add->uh,seqIndex_of->uq,seqIndex_neg->ur,slot_list_getitem->uu,call->vb,wpAny_comprehension_free->vt,codeAny_compStart_list->vw,eval_ListComp->vz,wpAny_updateSeq_pair->wj,wpAny_isInstance->wk,wpAny_pyIter_list->wm,pushCells_keeps->xl,idxH_unique->xp,wpAny_dictEntries->xq,wpAny_dictEpoch->xu,wpAny_isOneOf_valiter->xw,wpAny_loadName_local->yu,wpAny_loadName_cell->yw,wpAny_isTrue_Compare1->yy,wpAny_getItem_list_slice->zk,wpAny_Call_method_late->zl,wpAny_newFunctionEnv->zy,wpAny_pyIter_tuple->d5,wpAny_isOneOf_keyiter->k4,wpAny_isSame_plain->o3
open PySem.Builtin.Dict renaming showsAll->m9
open PySem.Builtin.Dict_items renaming ownsTuple->pr,dictOf->q9,newIterator->r0
open PySem.Builtin.Int renaming intBits->zx
open PySem.Builtin.Slice renaming slicePlaces->ql,sliceAdjust->ul,sliceApplied->ze
open PySem.Builtin.SmallTypes renaming nextOf->ko,ownedTupleIsFree->qz,ownedTupleHandOut->c7
open PySem.Builtin.Tuple renaming tupleExact->qp,tupleHashOf->wn,tupleItemsOf->zf
open PySem.Calls renaming callWith_builtin->uv,evalArgs_plain->uw,Name_function_global->yx
open PySem.Challenge renaming pw_scissorhall_k15_whole_same_counts->qc,rw_scissorhall_k15_whole_same_counts->qd
open PySem.F renaming slot_dict_valueiterator_next->pw,slot_tuple_iterator_next->qx,slot_zip_next->re,slot_tuple_add->ui,entry_tuple_add->uj,args_tuple_add_2->uk,slot_list_append->va,plainAttrs_list->xa,entry_tuple_iterator_next->zz,args_tuple_iterator_next_1->a6,entry_zip_next->c8,args_zip_next_1->d4,type_list_append->i8,slot_dict_get->j7,plainAttrs_dict->j9,slot_dict_keyiterator_next->k8,entry_dict_valueiterator_next->l8,args_dict_valueiterator_next_1->m7,slot_dict_values->m8,slot_dict_values_iter->o0
open PySem.Heap renaming get?_push_of_some->av,lt_size->br,get?_push_size->cy,SameBut->ik,size_push->jd,ExtBut->oa,get?_update_self->qq,get?_update_ne->xj,get?_update_other->zi
open PySem.Heap.IsSliceOf renaming new->zg
open PySem.Heap.SameBut renaming update->nv
open PySem.NameKind renaming cell->fh,free->fu
open PySem.Obj renaming mapSeq->iu,data_mapFields->ny,mapFields->ss,isFreed_of_fields->wd,cls_mapFields->we
open PySem.P renaming truthy_int->yz
open PySem.Paired renaming length->yp
open PySem.PassesOwn renaming never->xy,leaving->xz
open PySem.SeqAt renaming EqAt->jt,RcAt->oh
open PySem.SeqAt.EqAt renaming same->rh,of_refs->wr,int_int->d7
open PySem.SeqAt.RcAt renaming tuples->wq,none_none->g7,bool_bool->i3,int_int->i4,str_str->i5,lists->i6,lists_lengths->i7
open PySem.Shared renaming TypeIs->k7
open PySem.Str renaming ofString->gj
open PySem.Value renaming none->cj,ref->ie,type->om,int->qe
open PySem.W renaming Frag->af,nsIn->dn,fnOf->dq,keepIn->ee,excIn->jb,kas_sort->je,mg_none_of->jf,codeIn->ka,mg_of->mn,OpenLaw->nj,methodObj->tm,hideAll->tq,hideAll_get->tx,kat_nil->xh,kHook->yo,of_hideAll->yt,callWith_K->za,cellsFrom_some->zb
open PySem.W.OpenLaw renaming row->yn,wellSaid->o9
open PySem.W.OpenRow renaming toRowW->ym
open Rat renaming intCast_mul->qa,intCast_add->yl,intCast_inj->o8
open Sum renaming inl->kq,inr->kr
abbrev AA:=List Int
abbrev AC:=List AA
abbrev AD:=List AC
abbrev AE:=List PySem.Value
abbrev AF:=Option PySem.Value
abbrev AG:=Option PySem.Addr
abbrev AH:=Option Int
namespace L2
open PySem
def gF(s:Stmt):Arguments:=match s with
 |.FunctionDef _ a _ _ _ _ _ _ _ _=>a
 |_=>{posonlyargs:=[],args:=[],vararg:=none,kwonlyargs:=[],kw_defaults:=[],kwarg:=none,defaults:=[]}
def eF(s:Stmt):List Stmt:=match s with
 |.FunctionDef _ _ b _ _ _ _ _ _ _=>b
 |_=>[]
def bY(s:Stmt):Scope:=match s with
 |.FunctionDef _ _ _ _ _ _ sc _ _ _=>sc
 |_=>{kind:=.function,names:=[],isGenerator:=false,isCoroutine:=false}
end L2
namespace Sc
noncomputable section
open PySem L2
def bB(i:Nat):Stmt:=qc.main.body.getD i (.Pass ⟨0,0,0,0⟩)
abbrev vs(s:String)(t:Nat):Value:=.str (gj s) t
abbrev vi(i:Int):Value:=.int i 0
abbrev vr(a:Nat):Value:=.ref a
abbrev fo(n:String)(i:Nat)(dV dc pm cd ct:Value):Obj:=⟨.type "function",none,.func (dq (gj n) (gj n) (gF (bB i)) (eF (bB i)) (bY (bB i)) dV .none dc pm none cd ct),#[]⟩
abbrev fc(l:AE):Obj:=⟨.type "code",none,.fields l.toArray,#[]⟩
abbrev Ft(n:String)(t l a r g:Nat)(x:AE):Obj:=fc (vs n t::vs n (t+1)::vs "/claim/cut.py" (t+2)::vi l::vi a::vi 0::vi 0::vi 3::vr r:: .bool true::vi g::vr (r+1):: .none::x)
abbrev fV(n:String)(t l a r g u:Nat):Obj:=Ft n t l a r g [vr (r+2),vr (r+3),vr (r+4),vi u,vi l,vs "/claim/cut.py" (u+1)]
abbrev fD(n:String)(t l a r g:Nat):Obj:=Ft n t l a r g [.none,.none,vr (r+2),vi (t+3),vi l,vs "/claim/cut.py" (t+4)]
abbrev fd(P:mx)(n:Nat)(l:List (String×Nat×Value)):Obj:=⟨.type "dict",none,.dict (l.map λe=>⟨PyData.keyHash P (gj e.1),.str (gj e.1) e.2.1,e.2.2⟩).toArray n,#[]⟩
abbrev vLq:Value:=vs "law_scissorhall_k15_whole_same_counts" 442
abbrev fzq (n:String)(i:Nat)(m:Value)(r:Nat):Obj:=fo n i .none .none m (vr r) .none
abbrev v0q:Value:=vs "scissorhall.lowest" 239
abbrev v1q:Value:=vs "scissorhall.heaps" 382
abbrev v2q:Value:=vs "scissorhall.points" 293
abbrev v3q:Value:=vs "scissorhall.simplexes" 329
noncomputable def KK(P:mx):af:=
 (nat_lit 3,fd P 59 [("__name__",165,vs "law_scissorhall_k15_whole_same_counts" 442),("__doc__",166,.none),("__package__",167,.none),("__loader__",168,(.builtin "__main__.__loader__#opaque")),("__spec__",169,.none),("__annotations__",170,vr 6),("__builtins__",171,vr 4),("__file__",173,vs "/claim/cut.py" 172),("__cached__",174,.none),("HallError",206,vr 24),("NoNumber",222,vr 37),("OnSide",238,vr 49),("sign",247,vr 58),("divisor",256,vr 65),("reduced",262,vr 70),("lowest_way",268,vr 75),("fraction",278,vr 83),("plus",286,vr 90),("total",292,vr 95),("whole_arrow",300,vr 100),("dot",306,vr 105),("normal",315,vr 112),("determinant",321,vr 117),("side",328,vr 124),("FLAT_WALLS",337,vr 128),("SPACE_WALLS",350,vr 133),("replaced",359,vr 140),("standing",365,vr 145),("walls",371,vr 150),("extent",381,vr 157),("size",389,vr 162),("count_at",400,vr 169),("plane_way",406,vr 174),("sides",412,vr 179),("put_wall",428,vr 186),("same",441,vr 193),("_law_row",456,vr 200),("_law_take",465,vr 207),("_law_gcd",473,vr 214),("_law_lowest",479,vr 219),("_law_joined",485,vr 224),("_law_gap",491,vr 229),("_law_cross",502,vr 236),("_law_dot",508,vr 241),("_law_turn",515,vr 248),("_law_det",521,vr 253),("_law_simplex",529,vr 260),("_law_gone",535,vr 265),("_law_raw",541,vr 270),("_law_raw_turn",547,vr 275),("_law_kuhn",559,vr 282),("_law_raw_heap",571,vr 289),("_law_spot",577,vr 294),("_law_split",583,vr 299),("_law_parted",594,vr 306),("_law_near",600,vr 311),("_law_aside",606,vr 316),("_law_told",615,vr 323),("law",621,vr 328)])::
 (nat_lit 23,fd P 3 [("__module__",196,vs "scissorhall.errors" 187),("__firstlineno__",200,(.int 2 199)),("__static_attributes__",201,vr 22),("__weakref__",203,vr 25),("__doc__",204,.none)])::
 (nat_lit 24,⟨(.type "type"),none,.cls {name:="HallError",bases:=[(.type "ValueError")],mro:=[vr 24,(.type "ValueError"),(.type "Exception"),(.type "BaseException"),(.type "object")],ns:=23,qualname:="HallError",hasDict:=true,subclasses:=[vr 37,vr 49]},#[some (vr 15),none,some (vs "HallError" 189),some (vs "HallError" 197),some (.builtin "ValueError.__new__"),some (.bool true)]⟩)::
 (nat_lit 36,fd P 2 [("__module__",214,vs "scissorhall.errors" 187),("__firstlineno__",218,(.int 4 217)),("__static_attributes__",219,vr 35),("__doc__",220,.none)])::
 (nat_lit 37,⟨(.type "type"),none,.cls {name:="NoNumber",bases:=[vr 24],mro:=[vr 37,vr 24,(.type "ValueError"),(.type "Exception"),(.type "BaseException"),(.type "object")],ns:=36,qualname:="NoNumber",hasDict:=true,subclasses:=[]},#[some (vr 28),none,some (vs "NoNumber" 207),some (vs "NoNumber" 215),some (.builtin "ValueError.__new__"),some (.bool true)]⟩)::
 (nat_lit 48,fd P 2 [("__module__",230,vs "scissorhall.errors" 187),("__firstlineno__",234,(.int 6 233)),("__static_attributes__",235,vr 47),("__doc__",236,.none)])::
 (nat_lit 49,⟨(.type "type"),none,.cls {name:="OnSide",bases:=[vr 24],mro:=[vr 49,vr 24,(.type "ValueError"),(.type "Exception"),(.type "BaseException"),(.type "object")],ns:=48,qualname:="OnSide",hasDict:=true,subclasses:=[]},#[some (vr 40),none,some (vs "OnSide" 223),some (vs "OnSide" 231),some (.builtin "ValueError.__new__"),some (.bool true)]⟩)::
 (nat_lit 57,fV "sign" 241 9 1 52 181 245)::
 (nat_lit 58,fzq "sign" 5 v0q 57)::
 (nat_lit 64,fV "divisor" 248 15 2 59 181 254)::
 (nat_lit 65,fzq "divisor" 6 v0q 64)::
 (nat_lit 69,fD "reduced" 257 21 1 66 181)::
 (nat_lit 70,fzq "reduced" 7 v0q 69)::
 (nat_lit 74,fD "lowest_way" 263 26 1 71 181)::
 (nat_lit 75,fzq "lowest_way" 8 v0q 74)::
 (nat_lit 76,⟨.type "tuple",none,.seq #[(.int 1 269)] 0,#[]⟩)::
 (nat_lit 82,fV "fraction" 270 29 2 77 181 276)::
 (nat_lit 83,fo "fraction" 9 (vr 76) .none v0q (vr 82) .none)::
 (nat_lit 89,fV "plus" 279 34 2 84 181 284)::
 (nat_lit 90,fzq "plus" 10 v0q 89)::
 (nat_lit 94,fD "total" 287 36 1 91 181)::
 (nat_lit 95,fzq "total" 11 v0q 94)::
 (nat_lit 99,fD "whole_arrow" 295 42 2 96 181)::
 (nat_lit 100,fzq "whole_arrow" 13 v2q 99)::
 (nat_lit 104,fD "dot" 301 44 2 101 181)::
 (nat_lit 105,fzq "dot" 14 v2q 104)::
 (nat_lit 111,fV "normal" 307 46 1 106 181 313)::
 (nat_lit 112,fzq "normal" 15 v2q 111)::
 (nat_lit 116,fD "determinant" 316 52 1 113 181)::
 (nat_lit 117,fzq "determinant" 16 v2q 116)::
 (nat_lit 123,fV "side" 322 55 1 118 181 326)::
 (nat_lit 124,fzq "side" 17 v2q 123)::
 (nat_lit 125,⟨.type "tuple",none,.seq #[(.int 0 331),(.int 1 332)] 0,#[]⟩)::
 (nat_lit 126,⟨.type "tuple",none,.seq #[(.int 1 333),(.int 2 334)] 0,#[]⟩)::
 (nat_lit 127,⟨.type "tuple",none,.seq #[(.int 2 335),(.int 0 336)] 0,#[]⟩)::
 (nat_lit 128,⟨.type "tuple",none,.seq #[vr 125,vr 126,vr 127] 0,#[]⟩)::
 (nat_lit 129,⟨.type "tuple",none,.seq #[(.int 1 338),(.int 2 339),(.int 3 340)] 0,#[]⟩)::
 (nat_lit 130,⟨.type "tuple",none,.seq #[(.int 0 341),(.int 3 342),(.int 2 343)] 0,#[]⟩)::
 (nat_lit 131,⟨.type "tuple",none,.seq #[(.int 0 344),(.int 1 345),(.int 3 346)] 0,#[]⟩)::
 (nat_lit 132,⟨.type "tuple",none,.seq #[(.int 0 347),(.int 2 348),(.int 1 349)] 0,#[]⟩)::
 (nat_lit 133,⟨.type "tuple",none,.seq #[vr 129,vr 130,vr 131,vr 132] 0,#[]⟩)::
 (nat_lit 139,fV "replaced" 351 60 3 134 181 357)::
 (nat_lit 140,fzq "replaced" 21 v3q 139)::
 (nat_lit 144,fD "standing" 360 62 2 141 181)::
 (nat_lit 145,fzq "standing" 22 v3q 144)::
 (nat_lit 149,fD "walls" 366 64 1 146 181)::
 (nat_lit 150,fzq "walls" 23 v3q 149)::
 (nat_lit 156,fV "extent" 372 67 1 151 181 379)::
 (nat_lit 157,fzq "extent" 24 v3q 156)::
 (nat_lit 161,fD "size" 384 74 1 158 181)::
 (nat_lit 162,fzq "size" 26 v1q 161)::
 (nat_lit 168,fV "count_at" 390 76 2 163 181 398)::
 (nat_lit 169,fzq "count_at" 27 v1q 168)::
 (nat_lit 173,fD "plane_way" 401 85 1 170 181)::
 (nat_lit 174,fzq "plane_way" 28 v1q 173)::
 (nat_lit 178,fD "sides" 407 87 1 175 181)::
 (nat_lit 179,fzq "sides" 29 v1q 178)::
 (nat_lit 185,fV "put_wall" 413 91 3 180 181 426)::
 (nat_lit 186,fzq "put_wall" 30 v1q 185)::
 (nat_lit 192,fV "same" 429 98 2 187 181 439)::
 (nat_lit 193,fzq "same" 31 v1q 192)::
 (nat_lit 199,fV "_law_row" 444 106 1 194 181 454)::
 (nat_lit 200,fzq "_law_row" 33 vLq 199)::
 (nat_lit 206,fV "_law_take" 457 120 2 201 181 463)::
 (nat_lit 207,fzq "_law_take" 34 vLq 206)::
 (nat_lit 213,fV "_law_gcd" 466 128 2 208 181 471)::
 (nat_lit 214,fzq "_law_gcd" 35 vLq 213)::
 (nat_lit 218,fD "_law_lowest" 474 134 1 215 181)::
 (nat_lit 219,fzq "_law_lowest" 36 vLq 218)::
 (nat_lit 223,fD "_law_joined" 480 141 3 220 181)::
 (nat_lit 224,fzq "_law_joined" 37 vLq 223)::
 (nat_lit 228,fD "_law_gap" 486 144 2 225 181)::
 (nat_lit 229,fzq "_law_gap" 38 vLq 228)::
 (nat_lit 235,fV "_law_cross" 492 146 2 230 181 500)::
 (nat_lit 236,fzq "_law_cross" 39 vLq 235)::
 (nat_lit 240,fD "_law_dot" 503 151 2 237 181)::
 (nat_lit 241,fzq "_law_dot" 40 vLq 240)::
 (nat_lit 247,fV "_law_turn" 509 153 1 242 181 513)::
 (nat_lit 248,fzq "_law_turn" 41 vLq 247)::
 (nat_lit 252,fD "_law_det" 516 157 1 249 181)::
 (nat_lit 253,fzq "_law_det" 42 vLq 252)::
 (nat_lit 259,fV "_law_simplex" 522 159 1 254 181 527)::
 (nat_lit 260,fzq "_law_simplex" 43 vLq 259)::
 (nat_lit 264,fD "_law_gone" 530 164 3 261 181)::
 (nat_lit 265,fzq "_law_gone" 44 vLq 264)::
 (nat_lit 269,fD "_law_raw" 536 166 3 266 181)::
 (nat_lit 270,fzq "_law_raw" 45 vLq 269)::
 (nat_lit 274,fD "_law_raw_turn" 542 173 1 271 181)::
 (nat_lit 275,fzq "_law_raw_turn" 46 vLq 274)::
 (nat_lit 281,fV "_law_kuhn" 548 175 1 276 181 557)::
 (nat_lit 282,fzq "_law_kuhn" 47 vLq 281)::
 (nat_lit 288,fV "_law_raw_heap" 560 187 3 283 181 569)::
 (nat_lit 289,fzq "_law_raw_heap" 48 vLq 288)::
 (nat_lit 293,fD "_law_spot" 572 200 2 290 181)::
 (nat_lit 294,fzq "_law_spot" 49 vLq 293)::
 (nat_lit 298,fD "_law_split" 578 206 2 295 181)::
 (nat_lit 299,fzq "_law_split" 50 vLq 298)::
 (nat_lit 305,fV "_law_parted" 584 220 2 300 181 592)::
 (nat_lit 306,fzq "_law_parted" 51 vLq 305)::
 (nat_lit 310,fD "_law_near" 595 231 2 307 181)::
 (nat_lit 311,fzq "_law_near" 52 vLq 310)::
 (nat_lit 315,fD "_law_aside" 601 237 3 312 181)::
 (nat_lit 316,fzq "_law_aside" 53 vLq 315)::
 (nat_lit 322,fV "_law_told" 607 246 2 317 181 613)::
 (nat_lit 323,fzq "_law_told" 54 vLq 322)::
 (nat_lit 327,fD "law" 616 253 1 324 181)::
 (nat_lit 328,fzq "law" 55 vLq 327)::[]
def KA:List Nat:=[3,23,24,36,37,48,49,57,58,64,65,69,70,74,75,76,82,83,89,90,94,95,99,100,104,105,111,112,116,117,123,124,125,126,127,128,129,130,131,132,133,139,140,144,145,149,150,156,157,161,162,168,169,173,174,178,179,185,186,192,193,199,200,206,207,213,214,218,219,223,224,228,229,235,236,240,241,247,248,252,253,259,260,264,265,269,270,274,275,281,282,288,289,293,294,298,299,305,306,310,311,315,316,322,323,327,328]
def VW:Program:={qc with main:={qc.main with body:=[bB 1,bB 2,bB 3,bB 5,bB 6,bB 7,bB 8,bB 10,bB 11,bB 13,bB 14,bB 15,bB 16,bB 17,bB 19,bB 20,bB 21,bB 22,bB 23,bB 24,bB 26,bB 27,bB 28,bB 29,bB 30,bB 31,bB 33,bB 34,bB 35,bB 36,bB 37,bB 38,bB 39,bB 40,bB 41,bB 42,bB 43,bB 44,bB 45,bB 46,bB 47,bB 48,bB 49,bB 50,bB 51,bB 52,bB 53,bB 54,bB 55]}}
theorem KE:∀P,KA=(KK P).map (·.1):=λ_=>by kernel_rfl
theorem wsaid:o9 qd=true:=by kernel_rfl
theorem left:PySem.W.LeftO qc VW [gj "fraction"] (λs=>PySem.W.xlAt VW [] s&&PySem.W.recOk (PySem.W.RowW.records (ym (yn qd))) s) (PySem.W.Hook.obs (yo KK KA KE)) (PySem.W.Hook.val (yo KK KA KE)) 4154:=by
 intro w
 kernel_rfl
end
end Sc
set_option maxHeartbeats 200000
set_option Elab.async false
set_option compiler.extract_closed false
set_option linter.all false
set_option maxRecDepth 100000
namespace L2
open PySem PySem.Spec PyProof.Rows
abbrev iC:=Sum Int Str
def Br:iC->Value->Bool
 |.inl k,v=>Value.isInt k v
 |.inr x,v=>Value.isStrOf x v
def ab3(w:am):iC->Int
 |.inl k=>hashInt k
 |.inr x=>hashStr w x
theorem lK:∀{k:iC}{v:Value},Br k v=true->(∃i t,k=kq i/\v=qe i t)\/(∃x t,k=kr x/\v=Value.str x t)
 |.inl i,v,h=>by
  obtain⟨t,e⟩:=Value.isInt_shape (k:=i) (v:=v) h;exact .inl ⟨i,t,rfl,e⟩
 |.inr x,v,h=>by
  obtain⟨t,e⟩:=Value.isStrOf_shape (x:=x) (v:=v) h;exact .inr ⟨x,t,rfl,e⟩
theorem aaI(a b:Int):decide ((kq a:iC)=kq b)=(a==b):=by
 by_cases e:a=b
 .subst e;simp
 .have h:¬(kq a:iC)=kq b:=λq=>e (Sum.inl.inj q)
  rw[decide_eq_false h];exact(beq_eq_false_iff_ne.mpr e).symm
theorem aay(a b:Str):decide ((kr a:iC)=kr b)=decide (a=b):=by
 by_cases e:a=b
 .subst e;simp
 .have h:¬(kr a:iC)=kr b:=λq=>e (Sum.inr.inj q)
  rw[decide_eq_false h,decide_eq_false e]
theorem aai(a:Int)(b:Str):decide ((kq a:iC)=kr b)=false:=decide_eq_false (λq=>nomatch q)
theorem W8(a:Str)(b:Int):decide ((kr a:iC)=kq b)=false:=decide_eq_false (λq=>nomatch q)
def Ga(prog:Program)(w:am):PySem.KeyKind prog w iC where
 is:=Br
 hash:=ab3 w
 inj:=λv a b ha hb=>by
  rcases lK ha with⟨i,t,rfl,rfl⟩|⟨x,t,rfl,rfl⟩
  .rcases lK hb with⟨j,u,rfl,e⟩|⟨y,u,rfl,e⟩
   .injection e with e1 _;rw[e1]
   .exact nomatch e
  .rcases lK hb with⟨j,u,rfl,e⟩|⟨y,u,rfl,e⟩
   .exact nomatch e
   .injection e with e1 _;rw[e1]
 byValue:=λk v h=>by
  rcases lK h with⟨i,t,rfl,rfl⟩|⟨x,t,rfl,rfl⟩<;>rfl
 pyHash:=λhv h=>by
  rcases lK hv with⟨i,t,rfl,rfl⟩|⟨x,t,rfl,rfl⟩
  .exact wpAny_pyHash_int h
  .exact wpAny_pyHash_str h
 eqBool:=λhu hv h=>by
  rcases lK hu with⟨i,t,rfl,rfl⟩|⟨x,t,rfl,rfl⟩
  .rcases lK hv with⟨j,u,rfl,rfl⟩|⟨y,u,rfl,rfl⟩
   .rw[aaI]at h;exact wpAny_eqBool_int h
   .rw[aai]at h;exact SeqAt.EqAt.int_str i t y u _ _ _ _ h
  .rcases lK hv with⟨j,u,rfl,rfl⟩|⟨y,u,rfl,rfl⟩
   .rw[W8]at h;exact SeqAt.EqAt.str_int x t j u _ _ _ _ h
   .rw[aay]at h;exact wpAny_eqBool_str h
 «strs»:=λk x t v h=>by
  rcases lK h with⟨i,u,rfl,e⟩|⟨y,u,rfl,e⟩
  .exact nomatch e
  .injection e with e1 _
   subst e1;cases v<;>rfl
inductive V where
 |non |bl (b:Bool) |int (i:Int) |str (x:Str) |byt (b:Array UInt8) |flt (b:UInt64) |ref (a:Addr) |ty (n:String)
 deriving DecidableEq
def bK:V->Value->Prop
 |.non,u=>u=cj
 |.bl b,u=>u=Value.bool b
 |.int i,u=>∃t,u=qe i t
 |.str x,u=>∃t,u=Value.str x t
 |.byt b,u=>∃t,u=Value.bytes b t
 |.flt b,u=>∃t,u=Value.float b t
 |.ref a,u=>u=ie a
 |.ty n,u=>u=om n
abbrev aZ:List V->AE->Prop:=ig bK
theorem aZ.length{xs:List V}{us:AE}(r:aZ xs us):xs.length=us.length:=yp r
theorem aZ.get:∀{xs:List V}{us:AE}{i:Nat}{x:V},aZ xs us->xs[i]?=some x->∃u,us[i]?=some u/\bK x u
 |_,_,_,_,.nil,e=>by simp at e
 |_,_,0,_,.cons r _,e=>by simp at e;subst e;exact⟨_,rfl,r⟩
 |_,_,i+1,x,.cons _ t,e=>by
  obtain⟨u,h1,h2⟩:=aZ.get (i:=i) (x:=x) t (by simpa using e);exact⟨u,by simpa using h1,h2⟩
theorem aZ.set{x:V}{u:Value}(r:bK x u):∀{xs:List V}{us:AE}(i:Nat),aZ xs us->aZ (xs.set i x) (us.set i u)
 |_,_,_,.nil=>.nil
 |_,_,0,.cons _ t=>.cons r t
 |_,_,i+1,.cons q t=>.cons q (aZ.set r i t)
theorem aZ.append:∀{xs ys:List V}{us ws:AE},aZ xs us->aZ ys ws->aZ (xs++ys) (us++ws)
 |_,_,_,_,.nil,s=>s
 |_,_,_,_,.cons r t,s=>.cons r (aZ.append t s)
theorem aZ.take:∀{xs:List V}{us:AE}(n:Nat),aZ xs us->aZ (xs.take n) (us.take n)
 |_,_,0,_=>.nil
 |_,_,_+1,.nil=>.nil
 |_,_,n+1,.cons r t=>.cons r (aZ.take n t)
theorem aZ.drop:∀{xs:List V}{us:AE}(n:Nat),aZ xs us->aZ (xs.drop n) (us.drop n)
 |_,_,0,r=>r
 |_,_,_+1,.nil=>.nil
 |_,_,n+1,.cons _ t=>aZ.drop n t
def Gs:Option V->AF->Prop
 |some v,some u=>bK v u
 |none,none=>True
 |_,_=>False
def KV{κ:Type}:List (κ×V)->List (κ×Value)->Prop:=ig λ(p:κ×V) (q:κ×Value)=>p.1=q.1/\bK p.2 q.2
def kV:iC->V
 |.inl i=>.int i
 |.inr x=>.str x
inductive HO where
 /--a list -/
 |lst (xs:List V)
 /--a tuple (never changes) -/
 |tup (xs:List V)
 /--a dict whose keys are ints and texts;one whose keys are tuples of ints and texts (the empty one is both) -/
 |dK (kvs:List (iC×V)) |dT (kvs:List (List iC×V))
 /--a set of ints:its members,its size -/
 |set (S:Int->Bool) (n:Nat)
 /--an instance of the class at C,its dict at dx,its attributes -/
 |ins (C dx:Addr) (fs:List (Str×V))
 /--the dict of the instance at x -/
 |own (x:Addr)
 /--the dict of an exception -/
 |xd (fs:List (Str×V))
 /--a bound method,f of x -/
 |met (f x:Addr)
 /--a range object lo,lo+1,.. below hi -/
 |rng (lo hi:Int)
 /--a thing that is known to the object (the script;a dict while a loop walks it):read,never written while it is so -/
 |frz (o:Obj) (u:HO)
 /--a code object's table -/
 |tbl (ps:Array Value)
 /--any other thing,by what is true of its one object (a def of one's own:SetO a S n:=HO.ext λh=>..) -/
 |ext (φ:Heap->Prop)
abbrev Hp:=Addr->Option HO
def aV(H:Hp)(a:Addr)(o:HO):Hp:=λb=>if b=a then some o else H b
theorem eT{H:Hp}{a:Addr}{o:HO}:aV H a o a=some o:=by unfold aV;rw[if_pos rfl]
theorem bO{H:Hp}{a b:Addr}{o:HO}(h:b≠a):aV H a o b=H b:=by unfold aV;rw[if_neg h]
theorem fS{H:Hp}{a b:Addr}{o:HO}(h:H a=some o)(h':H b=none):a≠b:=by
 intro e;subst e;rw[h]at h';cases h'
section
variable(P:Program)(w:am)
def gS(H:Hp)(h:Heap)(a:Addr):HO->Prop
 |.lst xs=>xs.length<=sizeLine/\∃(its:AE)(n:Nat),aZ xs its/\h.get? a=some {cls:=.type "list",data:=.seq its.toArray n}
 |.tup xs=>xs.length<=sizeLine/\∃its:AE,aZ xs its/\IsTup h a its.toArray
 |.dK kvs=>kvs.length<=sizeLine/\(a==sysModules)=false/\∃vs,KV kvs vs/\h.DictOf (Ga P w) a vs
 |.dT kvs=>kvs.length<=sizeLine/\(a==sysModules)=false/\∃xs:List (List iC×Addr×Value),
   ig (λ(p:List iC×V) (q:List iC×Addr×Value)=>p.1=q.1/\H q.2.1=some (.tup (p.1.map kV))/\bK p.2 q.2.2) kvs xs/\
   ∃o es ep,h.get? a=some o/\o.ExactDict/\o.data=.dict es ep/\es.toList=xs.map (entryOfKey (tupleKind (Ga P w)))/\(xs.map (·.1)).Nodup
 |.set S n=>h.SetOf (intKind P w) a S n
 |.ins C dx fs=>H dx=some (.own a)/\fs.length<=1000/\dx≠a/\h.get? a=some (PySem.W.instObj C dx)/\
   ∃mA,h.Ns1 dx mA/\(∀f,Gs (fs.lookup f) (mA f))/\PySem.Within mA (fs.map (·.1))
 |.own _=>∃o,h.get? a=some o
 |.xd fs=>∃mA,h.Ns1 a mA/\∀f,Gs (fs.lookup f) (mA f)
 |.rng lo hi=>∃t u v,h.get? a=some {cls:=.type "range",data:=.fields #[.int lo t,.int hi u,.int 1 v]}
 |.frz o u=>h.get? a=some o/\gS H h a u
 |.tbl ps=>h.get? a=some {cls:=.none,data:=.fields ps}
 |.met f x=>h.get? a=some (tm (.ref f) (.ref x))
 |.ext φ=>φ h/\(∃o,h.get? a=some o)/\∀h1 h2:Heap,φ h1->(∀o,h1.get? a=some o->h2.get? a=some o)->φ h2
def eZ(H:Hp)(h:Heap):Prop:=∀a o,H a=some o->gS P w H h a o
end
section
variable{P:Program}{w:am}{H H':Hp}{h h':Heap}{a:Addr}{o:HO}
theorem gS.lt(x:gS P w H h a o):a<h.objs.size:=by
 cases o with
 |lst xs=>obtain⟨_,_,_,_,e⟩:=x;exact br e
 |tup xs=>obtain⟨_,_,_,p⟩:=x;exact p.lt
 |dK kvs=>obtain⟨_,_,_,_,o,_,_,e,_⟩:=x;exact br e
 |dT kvs=>obtain⟨_,_,_,_,o,_,_,e,_⟩:=x;exact br e
 |set S n=>obtain⟨o,_,_,_,e,_⟩:=x;exact br e
 |ins C dx fs=>obtain⟨_,_,_,e,_⟩:=x;exact br e
 |own y=>obtain⟨_,e⟩:=x;exact br e
 |xd fs=>obtain⟨_,⟨_,_,_,e,_⟩,_⟩:=x;exact br e
 |rng lo hi=>obtain⟨_,_,_,e⟩:=x;exact br e
 |frz ob u=>obtain⟨e,_⟩:=x;exact br e
 |tbl ps=>exact br (show h.get? a=some _ from x)
 |met f y=>exact br (show h.get? a=some _ from x)
 |ext φ=>obtain⟨_,⟨_,e⟩,_⟩:=x;exact br e
theorem Paired.mapP{α β:Type}{F G:α->β->Prop}:∀{l₁:List α}{l₂:List β},ig F l₁ l₂->(∀a b,F a b->G a b)->ig G l₁ l₂
 |_,_,.nil,_=>.nil
 |_,_,.cons r t,f=>.cons (f _ _ r) (Paired.mapP t f)
theorem gS.stay(x:gS P w H h a o)(k:∀b u,(b=a\/H b=some (.own a))->h.get? b=some u->h'.get? b=some u)
  (ho:∀b,H b=some (.own a)->H' b=some (.own a))(ht:∀b xs,H b=some (.tup xs)->H' b=some (.tup xs)):gS P w H' h' a o:=by
 induction o with
 |lst xs=>obtain⟨z,its,n,r,e⟩:=x;exact⟨z,its,n,r,k _ _ (.inl rfl) e⟩
 |tup xs=>obtain⟨z,its,r,ob,e,c⟩:=x;exact⟨z,its,r,ob,k _ _ (.inl rfl) e,c⟩
 |dK kvs=>obtain⟨z,y,vs,r,ob,es,ep,e,c⟩:=x;exact⟨z,y,vs,r,ob,es,ep,k _ _ (.inl rfl) e,c⟩
 |dT kvs=>
  obtain⟨z,y,xs,r,ob,es,ep,e,c⟩:=x;exact⟨z,y,xs,Paired.mapP r λp q z=>⟨z.1,ht _ _ z.2.1,z.2.2⟩,ob,es,ep,k _ _ (.inl rfl) e,c⟩
 |set S n=>obtain⟨ob,es,ep,t,e,c⟩:=x;exact⟨ob,es,ep,t,k _ _ (.inl rfl) e,c⟩
 |ins C dx fs=>
  obtain⟨d,z,ne,e,mA,⟨od,es,ep,e2,c⟩,r⟩:=x;exact⟨ho _ d,z,ne,k _ _ (.inl rfl) e,mA,⟨od,es,ep,k _ _ (.inr d) e2,c⟩,r⟩
 |own y=>obtain⟨ob,e⟩:=x;exact⟨ob,k _ _ (.inl rfl) e⟩
 |xd fs=>obtain⟨mA,⟨od,es,ep,e,c⟩,r⟩:=x;exact⟨mA,⟨od,es,ep,k _ _ (.inl rfl) e,c⟩,r⟩
 |rng lo hi=>obtain⟨t,u,v,e⟩:=x;exact⟨t,u,v,k _ _ (.inl rfl) e⟩
 |frz ob u ih=>obtain⟨e,q⟩:=x;exact⟨k _ _ (.inl rfl) e,ih q⟩
 |tbl ps=>
  have e:h.get? a=some {cls:=.none,data:=.fields ps}:=x;show h'.get? a=some {cls:=.none,data:=.fields ps};exact k a _ (.inl rfl) e
 |met f y=>
  have e:h.get? a=some (tm (.ref f) (.ref y)):=x;show h'.get? a=some (tm (.ref f) (.ref y));exact k a _ (.inl rfl) e
 |ext φ=>obtain⟨p,⟨o,e⟩,st⟩:=x;exact⟨st _ _ p λo q=>k _ _ (.inl rfl) q,⟨o,k _ _ (.inl rfl) e⟩,st⟩
theorem eZ.lt(x:eZ P w H h)(e:H a=some o):a<h.objs.size:=(x a o e).lt
theorem eZ.fresh(x:eZ P w H h)(e:h.objs.size<=a):H a=none:=by
 cases q:H a with
 |none=>rfl
 |some u=>exact absurd (db (x.lt q) e) (jc _)
theorem eZ.kept(x:eZ P w H h)(k:∀b u,h.get? b=some u->h'.get? b=some u):eZ P w H h':=λa o e=>
 (x a o e).stay (λb u _ q=>k b u q) (λ_ q=>q) λ_ _ q=>q
theorem eZ.laid(x:eZ P w H h)(k:∀b u,h.get? b=some u->h'.get? b=some u)(hp:h.objs.size<=a)(new:gS P w (aV H a o) h' a o):eZ P w (aV H a o) h':=λb u e=>by
 have hn:=x.fresh hp
 by_cases hb:b=a
 .subst hb;rw[eT]at e;cases e;exact new
 .rw[bO hb]at e
  exact(x b u e).stay (λc v _ q=>k c v q) (λc q=>by rw[bO (fS q hn)];exact q) λc xs q=>by rw[bO (fS q hn)];exact q
end
def Rd(H:Hp)(a:Addr)(u:HO):Prop:=H a=some u\/∃o,H a=some (.frz o u)
theorem Rd.ok{P:Program}{w:am}{H:Hp}{h:Heap}{a:Addr}{u:HO}(r:Rd H a u)(x:eZ P w H h):gS P w H h a u:=by
 rcases r with r |⟨o,r⟩
 .exact x a u r
 .obtain⟨_,q⟩:=x a _ r
  exact q
def xN:Option HO->Prop
 |some (.lst _)=>True
 |some (.dK _)=>True
 |some (.dT _)=>True
 |some (.set _ _)=>True
 |some (.ins _ _ _)=>True
 |some (.ext _)=>True
 |_=>False
section
variable{P:Program}{w:am}{H:Hp}{h h':Heap}{x e:Addr}{o':HO}
theorem eZ.write(ok:eZ P w H h)(mu:xN (H x))(he:e=x\/H e=some (.own x))(k:∀b u,b≠e->h.get? b=some u->h'.get? b=some u)(heo:∃u,h'.get? e=some u)
  (new:gS P w (aV H x o') h' x o'):eZ P w (aV H x o') h':=λb u q=>by
 have nown:∀c y,H c=some (.own y)->c≠x:=λc y r z=>by subst z;rw[r]at mu;exact mu
 have ntup:∀c xs,H c=some (.tup xs)->c≠x:=λc xs r z=>by subst z;rw[r]at mu;exact mu
 by_cases hb:b=x
 .subst hb;rw[eT]at q;cases q;exact new
 .rw[bO hb]at q
  by_cases hbe:b=e
  .have q':H b=some (.own x):=by
    rcases he with z |z
    .exact absurd (hbe.trans z) hb
    .rw[hbe];exact z
   rw[q]at q';cases q';obtain⟨v,hv⟩:=heo;exact⟨v,by rw[hbe];exact hv⟩
  .refine(ok b u q).stay (λc v hc r=>k c v ?_ r) (λc r=>by rw[bO (nown c b r)];exact r) λc xs r=>by rw[bO (ntup c xs r)];exact r
   rcases hc with rfl |hc
   .exact hbe
   .rintro rfl
    rcases he with z |z
    .exact nown c b hc z
    .rw[hc]at z;cases z;exact hb rfl
end
structure Un(fs ex:List Addr)(H H':Hp)(h h':Heap):Prop where
 keep:∀b o,h.get? b=some o->H b=none->b∉fs->b∉ex->h'.get? b=some o
 slot:∀b o,h.get? b=some o->H b=none->b∈fs->b∉ex->∃sl,h'.get? b=some {o with slots:=sl}
 free:∀b o,h.get? b=some o->H b=none->b∉ex->H' b=none
 there:∀b o,h.get? b=some o->b∉ex->∃o',h'.get? b=some o'
 tups:∀b xs,H b=some (.tup xs)->H' b=some (.tup xs)
 frzs:∀b o u,H b=some (.frz o u)->H' b=some (.frz o u)
 tbls:∀b ps,H b=some (.tbl ps)->∃more,H' b=some (.tbl (ps++more))
section
variable{fs fs' ex ex':List Addr}{H H1 H2:Hp}{h h1 h2 h':Heap}{a x e:Addr}{o:HO}
theorem Un.any(u:Un fs ex H H1 h h1){b:Addr}{ob:Obj}(q:h.get? b=some ob)(n:H b=none)(hx:b∉ex):∃sl,h1.get? b=some {ob with slots:=sl}:=by
 by_cases hb:b∈fs
 .exact u.slot b ob q n hb hx
 .exact⟨ob.slots,u.keep b ob q n hb hx⟩
theorem Un.trans(a:Un fs ex H H1 h h1)(b:Un fs ex H1 H2 h1 h2):Un fs ex H H2 h h2 where
 keep:=λc ob q n hc hx=>b.keep c ob (a.keep c ob q n hc hx) (a.free c ob q n hx) hc hx
 slot:=λc ob q n hc hx=>by
  obtain⟨sl,e1⟩:=a.slot c ob q n hc hx;obtain⟨sl',e2⟩:=b.slot c _ e1 (a.free c ob q n hx) hc hx;exact⟨sl',e2⟩
 free:=λc ob q n hx=>by
  obtain⟨o',e1⟩:=a.there c ob q hx;exact b.free c o' e1 (a.free c ob q n hx) hx
 there:=λc ob q hx=>by
  obtain⟨o',e1⟩:=a.there c ob q hx;exact b.there c o' e1 hx
 tups:=λc xs q=>b.tups c xs (a.tups c xs q)
 frzs:=λc ob xs q=>b.frzs c ob xs (a.frzs c ob xs q)
 tbls:=λc ps q=>by
  obtain⟨m1,e1⟩:=a.tbls c ps q;obtain⟨m2,e2⟩:=b.tbls c _ e1;exact⟨m1++m2,by rw[e2,yq]⟩
theorem Un.kept(k:∀b u,h.get? b=some u->h'.get? b=some u):Un fs ex H H h h':=
 ⟨λb ob q _ _ _=>k b ob q,λb ob q _ _ _=>⟨ob.slots,k b ob q⟩,λ_ _ _ n _=>n,λb ob q _=>⟨ob,k b ob q⟩,λ_ _ q=>q,λ_ _ _ q=>q,λ_ ps q=>⟨#[],by rw[q];simp⟩⟩
theorem Un.refl:Un fs ex H H h h:=Un.kept λ_ _ q=>q
theorem Un.laid(k:∀b u,h.get? b=some u->h'.get? b=some u)(hp:h.objs.size<=a)(hn:H a=none):Un fs ex H (aV H a o) h h' where
 keep:=λb u q _ _ _=>k b u q
 slot:=λb u q _ _ _=>⟨u.slots,k b u q⟩
 free:=λb u q n _=>by rw[bO (cw (db (br q) hp))];exact n
 there:=λb u q _=>⟨u,k b u q⟩
 tups:=λb xs q=>by rw[bO (fS q hn)];exact q
 frzs:=λb u xs q=>by rw[bO (fS q hn)];exact q
 tbls:=λb ps q=>⟨#[],by rw[bO (fS q hn),q];simp⟩
theorem Un.write(mu:xN (H x))(he:e=x\/H e=some (.own x))(k:∀b u,b≠e->h.get? b=some u->h'.get? b=some u)(heo:∃u,h'.get? e=some u):Un fs ex H (aV H x o) h h':=by
 have hx:∀b,H b=none->b≠x:=λb n z=>by subst z;rw[n]at mu;exact mu
 have hb:∀b,H b=none->b≠e:=λb n z=>by
  subst z;rcases he with r |r
  .exact hx b n r
  .rw[n]at r;cases r
 have hm:∀b u,H b=some u->¬xN (some u)->b≠x:=λb u q nm z=>by subst z;rw[q]at mu;exact nm mu
 refine⟨λb u q n _ _=>k b u (hb b n) q,λb u q n _ _=>⟨u.slots,k b u (hb b n) q⟩,λb u q n _=>by rw[bO (hx b n)];exact n,λb u q _=>?_,
  λb xs q=>by rw[bO (hm b _ q λz=>z)];exact q,λb u xs q=>by rw[bO (hm b _ q λz=>z)];exact q,λb ps q=>⟨#[],by rw[bO (hm b _ q λz=>z),q];simp⟩⟩
 by_cases hbe:b=e
 .subst hbe;exact heo
 .exact⟨u,k b u hbe q⟩
end
def xW(h:Heap)(H:Hp):List Addr:=(ce h.objs.size).filter λa=>(H a).isSome
def lX(h:Heap)(H:Hp):Heap:=tq h (xW h H)
theorem Kx(h:Heap)(H:Hp):(lX h H).objs.size=h.objs.size:=PySem.W.hideAll_size _ _
theorem Yy{h:Heap}{H:Hp}{b:Addr}{o:Obj}(e:h.get? b=some o)(n:H b=none):(lX h H).get? b=some o:=
 tx _ e λhm=>by
  have q:(H b).isSome=true:=(yr.mp hm).2;rw[n]at q;simp at q
theorem N7{h:Heap}{H:Hp}{b:Addr}{o:Obj}(e:(lX h H).get? b=some o):h.get? b=some o/\H b=none:=by
 have e':h.get? b=some o:=yt (xW h H) e;refine⟨e',?_⟩;cases q:H b with
 |none=>rfl
 |some x=>
  have hm:b∈xW h H:=yr.mpr ⟨tz.mpr (br e'),by simp[q]⟩;have z:(lX h H).get? b=none:=PySem.W.hideAll_none (xW h H) hm;rw[z]at e;cases e
def K1(g h:Heap)(L:Addr):List (Addr×Obj):=(ce h.objs.size).filterMap λa=>if a=L\/(g.get? a).isSome=true then none else(h.get? a).map λo=>(a,o)
def gW(g h:Heap)(L d:Addr):List (Addr×Obj):=(K1 g h L).filter λp=>decide (p.1≠d)
structure Mod(K:af)(mg:Str->AF)(base:Heap):Prop where
 kin:K.In base
 glob:base.Ns mainGlobals mg
 blt:∃mb,base.Ns builtinsNs mb/\∀x:Str,x≠"__name__"->mb x=bootBuiltins x
 nolimit:base.NoLimit
structure Cx where
 prog:Program
 w:am
 K:af
 mg:Str->AF
 base:Heap
 A:aq
 N:List Str
 AN:aa
 AO:Hp
 env:az
 outer:List az
 stack:List az
 ex:List Addr
 fn:Str->Bool
 calm:Bool
 pn:List (Addr×Obj)
 xe:Value->aa->Prop
def dS(l:List az):List Addr:=l.filterMap (·.frame)
abbrev Cx.fs(X:Cx):List Addr:=dS X.outer
def nC(sc:Scope)(x:Str):Prop:=sc.names.lookup x=some .local\/sc.names.lookup x=some .cell\/sc.names.lookup x=some .free
def jP(sc:Scope)(x:Str):Prop:=sc.names.lookup x=some .local\/sc.names.lookup x=some .cell
def acl(env:az)(h:Heap)(m:Str->AF)(x:Str)(u:Value):Prop:=
 (env.kindOf x=some .local/\m x=some u)\/((env.kindOf x=some .cell\/env.kindOf x=some .free)/\∃c,env.cells.lookup x=some c/\h.IsCell c (some u))
structure Cx.Ok(X:Cx):Prop where
 mod:Mod X.K X.mg X.base
 kind:X.env.scope.kind=.function
 glob:X.env.globals=mainGlobals
 blt:X.env.builtins=builtinsNs
 above:X.AN.heap.objs.size<=X.env.locals
 inj:∀x y c,X.env.cells.lookup x=some c->X.env.cells.lookup y=some c->x=y
 has:∀x,(X.env.kindOf x=some .cell\/X.env.kindOf x=some .free)->∃c,X.env.cells.lookup x=some c
 cab:∀x c,X.fn x=true->X.env.cells.lookup x=some c->X.AN.heap.objs.size<=c
 hd:X.calm=true->X.A.handled=none
 frames:X.A.frames=some X.stack
 stk:X.stack=X.outer\/(X.stack=X.env::X.outer/\X.env.frame=some X.env.locals)
 exf:∀b∈X.ex,b≠X.env.locals/\∀x c,X.env.cells.lookup x=some c->c≠b
 bs:∀b o,X.base.get? b=some o->X.AN.heap.get? b=some o/\X.AO b=none
 bsz:X.base.objs.size<=X.AN.heap.objs.size
 noex:∀b o,X.base.get? b=some o->b∉X.ex
 exfs:∀b∈X.ex,b∉X.fs
 funs:X.AN.heap.FunFrames X.base X.outer
 frf:∀b∈X.fs,X.AO b=none
structure aF(X:Cx)(AM:List (Addr×Obj))(σ:List (Option V))(H:Hp)(s:aa):Prop where
 ok:X.Ok
 os:s.os=X.AN.os
 bare:jg s.gens
 base:Un X.fs X.ex X.AO H X.AN.heap s.heap
 loc:∃m,s.heap.Ns X.env.locals m/\∀(i:Nat)(x:Str)(v:V),X.N[i]?=some x->σ[i]?=some (some v)->nC X.env.scope x->∃u,bK v u/\acl X.env s.heap m x u
 cell:∀x c,X.env.cells.lookup x=some c->∃v,s.heap.IsCell c v
 free:H X.env.locals=none
 freeC:∀x c,X.env.cells.lookup x=some c->H c=none
 pin:∀p∈X.pn++AM,s.heap.get? p.1=some p.2/\H p.1=none/\p.1≠X.env.locals/\p.1∉X.fs/\∀v,p.2.data≠.cell v
 hok:eZ X.prog X.w H s.heap
 len:σ.length=X.N.length
section
variable{X:Cx}{AM:List (Addr×Obj)}{σ:List (Option V)}{H H':Hp}{s:aa}{h':Heap}
theorem Cx.Ok.nofr(ok:X.Ok){b:Addr}{o:Obj}(e:X.base.get? b=some o):b∉X.fs:=λhb=>by
 have:=(ok.funs.mem hb).1;rw[e]at this;cases this
theorem aF.bs(I:aF X AM σ H s):∀b o,X.base.get? b=some o->s.heap.get? b=some o/\H b=none:=λb o e=>
 ⟨I.base.keep b o (I.ok.bs b o e).1 (I.ok.bs b o e).2 (I.ok.nofr e) (I.ok.noex b o e),I.base.free b o (I.ok.bs b o e).1 (I.ok.bs b o e).2 (I.ok.noex b o e)⟩
theorem aF.bk(I:aF X AM σ H s):∀b o,X.base.get? b=some o->s.heap.get? b=some o:=λb o e=>(I.bs b o e).1
theorem aF.mod(I:aF X AM σ H s):Mod X.K X.mg X.base:=I.ok.mod
theorem aF.kIn(I:aF X AM σ H s):X.K.In s.heap:=I.ok.mod.kin.keeps I.bk
theorem aF.lt(I:aF X AM σ H s):X.env.locals<s.heap.objs.size:=let⟨_,hn,_⟩:=I.loc;hn.lt
theorem aF.sz(I:aF X AM σ H s):X.AN.heap.objs.size<=s.heap.objs.size:=dy I.ok.above (oo I.lt)
theorem aF.nofs(I:aF X AM σ H s){a:Addr}(h:s.heap.objs.size<=a):a∉X.fs:=λhb=>by
 obtain⟨_,o,ho,_⟩:=I.ok.funs.mem hb;exact absurd (db (br ho) (dy I.sz h)) (jc _)
theorem aF.cne(I:aF X AM σ H s):∀x c,X.env.cells.lookup x=some c->c≠X.env.locals:=λx c e z=>by
 obtain⟨v,o,ho,hd⟩:=I.cell x c e;obtain⟨m,⟨o',es,ep,ho',hd',_⟩,_⟩:=I.loc;rw[z,ho']at ho;cases ho;rw[hd']at hd;cases hd
theorem aF.funs(I:aF X AM σ H s):s.heap.FunFrames X.base X.outer:=by
 have all:∀(l:List az),(∀b∈dS l,b∈X.fs)->X.AN.heap.FunFrames X.base l->s.heap.FunFrames X.base l:=by
  intro l
  induction l with
  |nil=>intro _ _;trivial
  |cons env r ih=>
   intro hs hl;obtain⟨hk,⟨L,o,hf,hn,ho,hd⟩,hr⟩:=hl;have hL:L∈X.fs:=hs L (by unfold dS;rw[iy,hf];exact bi);obtain⟨sl,e⟩:=I.base.slot L o ho (I.ok.frf L hL) hL λz=>I.ok.exfs L z hL;exact⟨hk,⟨L,_,hf,hn,e,hd⟩,ih (λb hb=>hs b (by unfold dS;rw[iy,hf];exact bh _ hb)) hr⟩
 exact all X.outer (λ_ hb=>hb) I.ok.funs
theorem aF.stack(I:aF X AM σ H s):s.heap.FunFrames X.base X.stack:=by
 rcases I.ok.stk with e |⟨e,hf⟩
 .rw[e];exact I.funs
 .rw[e]
  obtain⟨m,hn,_⟩:=I.loc;refine .cons (by rw[I.ok.kind];decide) hf hn ?_ I.funs;exact Heap.get?_none_of_le (dy I.ok.bsz I.ok.above)
theorem aF.stkSub(I:aF X AM σ H s):∀b∈dS X.stack,b∈X.env.locals::X.fs:=λb hb=>by
 rcases I.ok.stk with e |⟨e,hf⟩
 .rw[e]at hb;exact bh _ hb
 .rw[e]at hb
  unfold dS at hb;rw[iy,hf]at hb;exact hb
theorem aF.stkFree(I:aF X AM σ H s):∀b∈dS X.stack,H b=none:=λb hb=>by
 rcases bc.mp (I.stkSub b hb)with e |hb
 .rw[e];exact I.free
 .obtain⟨_,o,ho,_⟩:=I.ok.funs.mem hb
  exact I.base.free b o ho (I.ok.frf b hb) λz=>I.ok.exfs b z hb
theorem aF.step{g':Array GenState}{t':Nat}{d':Drawn}{ch:List Addr}(I:aF X AM σ H s)
  (hch:∀b∈ch,(b∈X.ex\/X.AN.heap.objs.size<=b)/\b≠X.env.locals/\(∀x c,X.env.cells.lookup x=some c->c≠b)/\∀p∈X.pn++AM,p.1≠b)
  (keep:∀b o,b≠X.env.locals->b∉X.fs->b∉ch->s.heap.get? b=some o->H b=none->h'.get? b=some o)
  (slot:∀b o,b≠X.env.locals->b∈X.fs->b∉ch->s.heap.get? b=some o->H b=none->∃sl,h'.get? b=some {o with slots:=sl})(free:∀b o,b∉ch->s.heap.get? b=some o->H b=none->H' b=none)
  (there:∀b o,b∉ch->s.heap.get? b=some o->∃o',h'.get? b=some o')
  (tups:∀b xs,H b=some (.tup xs)->H' b=some (.tup xs))(frzs:∀b o u,H b=some (.frz o u)->H' b=some (.frz o u))(tbls:∀b ps,H b=some (.tbl ps)->∃more,H' b=some (.tbl (ps++more)))
  (ns:∀m,s.heap.Ns X.env.locals m->h'.Ns X.env.locals m)(hok:eZ X.prog X.w H' h')(hg:jg g'):
  aF X AM σ H' {s with heap:=h',gens:=g',drawn:=d',toks:=t'}:=by
 have neL:∀b o,X.AN.heap.get? b=some o->b≠X.env.locals:=λb o e=>cw (db (br e) I.ok.above);have neC:∀b o,X.AN.heap.get? b=some o->b∉X.ex->b∉ch:=λb o e hx hb=>by
  rcases(hch b hb).1 with z |z
  .exact hx z
  .exact absurd (db (br e) z) (jc _)
 have cellK:∀x c,X.env.cells.lookup x=some c->∀v,s.heap.IsCell c v->h'.IsCell c v:=λx c e v ⟨o,ho,hd⟩=>by
  have nch:c∉ch:=λz=>(hch c z).2.2.1 x c e rfl
  by_cases hc:c∈X.fs
  .obtain⟨sl,q⟩:=slot c o (I.cne x c e) hc nch ho (I.freeC x c e)
   exact⟨_,q,hd⟩
  .exact⟨o,keep c o (I.cne x c e) hc nch ho (I.freeC x c e),hd⟩
 refine⟨I.ok,I.os,hg,⟨λb o e n hb hx=>?_,λb o e n hb hx=>?_,λb o e n hx=>?_,λb o e hx=>?_,λb xs e=>tups b xs (I.base.tups b xs e),λb o xs e=>frzs b o xs (I.base.frzs b o xs e),λb ps e=>?_⟩,?_,λx c e=>?_,?_,λx c e=>?_,λp hp=>?_,hok,I.len⟩
 .exact keep b o (neL b o e) hb (neC b o e hx) (I.base.keep b o e n hb hx) (I.base.free b o e n hx)
 .obtain⟨sl,e1⟩:=I.base.slot b o e n hb hx
  obtain⟨sl',e2⟩:=slot b _ (neL b o e) hb (neC b o e hx) e1 (I.base.free b o e n hx);exact⟨sl',e2⟩
 .obtain⟨o',e1⟩:=I.base.there b o e hx
  exact free b o' (neC b o e hx) e1 (I.base.free b o e n hx)
 .obtain⟨o',e1⟩:=I.base.there b o e hx
  exact there b o' (neC b o e hx) e1
 .obtain⟨m1,e1⟩:=I.base.tbls b ps e
  obtain⟨m2,e2⟩:=tbls b _ e1;exact⟨m1++m2,by rw[e2,yq]⟩
 .obtain⟨m,hn,hl⟩:=I.loc
  refine⟨m,ns m hn,λi x v e1 e2 e3=>?_⟩;obtain⟨u,r,l⟩:=hl i x v e1 e2 e3;refine⟨u,r,?_⟩;rcases l with l |⟨k,c,e,z⟩
  .exact .inl l
  .exact .inr ⟨k,c,e,cellK x c e _ z⟩
 .obtain⟨v,z⟩:=I.cell x c e
  exact⟨v,cellK x c e v z⟩
 .obtain⟨m,⟨o,_,_,ho,_⟩,_⟩:=I.loc
  exact free _ o (λz=>(hch _ z).2.1 rfl) ho I.free
 .obtain⟨v,o,ho,hd⟩:=I.cell x c e
  exact free c o (λz=>(hch c z).2.2.1 x c e rfl) ho (I.freeC x c e)
 .obtain⟨e,n,ne,nf,d⟩:=I.pin p hp
  have nch:p.1∉ch:=λz=>(hch p.1 z).2.2.2 p hp rfl;exact⟨keep p.1 p.2 ne nf nch e n,free p.1 p.2 nch e n,ne,nf,d⟩
theorem aF.un{t':Nat}(I:aF X AM σ H s)(u:Un X.fs [] H H' s.heap h')(hok:eZ X.prog X.w H' h'):aF X AM σ H' {s with heap:=h',toks:=t'}:=by
 obtain⟨m,⟨o,es,ep,ho,r⟩,_⟩:=id I.loc;obtain⟨sl,hL⟩:=u.any ho I.free (by simp);exact I.step (g':=s.gens) (d':=s.drawn) (ch:=[]) (λ_ z=>nomatch z) (λb o _ hb _ e n=>u.keep b o e n hb (by simp)) (λb o _ hb _ e n=>u.slot b o e n hb (by simp)) (λb o _ e n=>u.free b o e n (by simp)) (λb o _ e=>u.there b o e (by simp)) u.tups u.frzs u.tbls (λm' hm=>by
  obtain⟨o',es',ep',ho',r'⟩:=hm;rw[ho]at ho';cases ho';exact⟨_,es',ep',hL,r'⟩) hok I.bare
theorem aF.call{g':Array GenState}{t':Nat}{d':Drawn}{ch:List Addr}(I:aF X AM σ H s)(u:Un (dS X.stack) ch H H' s.heap h')(hok:eZ X.prog X.w H' h')(hg:jg g')
  (hch:∀b∈ch,(b∈X.ex\/X.AN.heap.objs.size<=b)/\b≠X.env.locals/\(∀x c,X.env.cells.lookup x=some c->c≠b)/\∀p∈X.pn++AM,p.1≠b):
  aF X AM σ H' {s with heap:=h',gens:=g',drawn:=d',toks:=t'}:=by
 obtain⟨m,⟨o,es,ep,ho,r⟩,_⟩:=id I.loc;obtain⟨sl,hL⟩:=u.any ho I.free λz=>(hch _ z).2.1 rfl;exact I.step (ch:=ch) hch (λb o hL hb hc e n=>u.keep b o e n (λz=>(bc.mp (I.stkSub b z)).elim hL hb) hc) (λb o _ _ hc e n=>u.any e n hc) (λb o hc e n=>u.free b o e n hc) (λb o hc e=>u.there b o e hc) u.tups u.frzs u.tbls (λm' hm=>by
  obtain⟨o',es',ep',ho',r'⟩:=hm;rw[ho]at ho';cases ho';exact⟨_,es',ep',hL,r'⟩) hok hg
theorem aF.turned{t':Nat}{it:Addr}(I:aF X AM σ H s)(k:∀b o,b≠it->s.heap.get? b=some o->h'.get? b=some o)(hn:H it=none)(hL:it≠X.env.locals)
  (h1:it∈X.ex\/X.AN.heap.objs.size<=it)(h2:∀x c,X.env.cells.lookup x=some c->c≠it)(h3:∀p∈X.pn++AM,p.1≠it):aF X AM σ H {s with heap:=h',toks:=t'}:=by
 have nit:∀b u,H b=some u->b≠it:=λb u e z=>by rw[z,hn]at e;cases e
 refine I.step (g':=s.gens) (d':=s.drawn) (ch:=[it]) (λb hb=>?_) (λb o _ _ hc e _=>k b o (λz=>hc (by simp[z])) e) (λb o _ _ hc e _=>⟨o.slots,k b o (λz=>hc (by simp[z])) e⟩) (λ_ _ _ _ n=>n)
  (λb o hc e=>⟨o,k b o (λz=>hc (by simp[z])) e⟩) (λ_ _ e=>e) (λ_ _ _ e=>e) (λb ps e=>⟨#[],by rw[e];simp⟩) (λm hm=>?_) (λb u e=>?_) I.bare
 .have e:b=it:=by simpa using hb
  subst e;exact⟨h1,hL,h2,h3⟩
 .obtain⟨o,es,ep,ho,r⟩:=hm
  exact⟨o,es,ep,k _ o (gr hL) ho,r⟩
 .refine(I.hok b u e).stay (λc v hc q=>k c v ?_ q) (λ_ q=>q) λ_ _ q=>q
  rcases hc with z |z
  .rw[z];exact nit b u e
  .exact nit c _ z
theorem aF.tok(I:aF X AM σ H s)(t:Nat):aF X AM σ H {s with toks:=t}:=I.un (h':=s.heap) (t':=t) Un.refl I.hok
theorem aF.kept{t':Nat}(I:aF X AM σ H s)(k:∀b u,s.heap.get? b=some u->h'.get? b=some u):aF X AM σ H {s with heap:=h',toks:=t'}:=I.un (Un.kept k) (I.hok.kept k)
theorem aF.laid{a:Addr}{o:HO}{t':Nat}(I:aF X AM σ H s)(k:∀b u,s.heap.get? b=some u->h'.get? b=some u)(hp:s.heap.objs.size<=a)(new:gS X.prog X.w (aV H a o) h' a o):
  aF X AM σ (aV H a o) {s with heap:=h',toks:=t'}:=I.un (Un.laid k hp (I.hok.fresh hp)) (I.hok.laid k hp new)
theorem aF.write{x e:Addr}{o:HO}{t':Nat}(I:aF X AM σ H s)(mu:xN (H x))(he:e=x\/H e=some (.own x))(k:∀b u,b≠e->s.heap.get? b=some u->h'.get? b=some u)(heo:∃u,h'.get? e=some u)
  (new:gS X.prog X.w (aV H x o) h' x o):aF X AM σ (aV H x o) {s with heap:=h',toks:=t'}:=I.un (Un.write mu he k heo) (I.hok.write mu he k heo new)
theorem aF.pins_of{pins':List (Addr×Obj)}(I:aF X AM σ H s)(h:∀p∈pins',s.heap.get? p.1=some p.2/\H p.1=none/\p.1≠X.env.locals/\p.1∉X.fs/\∀v,p.2.data≠.cell v):aF X pins' σ H s:=
 ⟨I.ok,I.os,I.bare,I.base,I.loc,I.cell,I.free,I.freeC,λp hp=>(cq.mp hp).elim (λz=>I.pin p (ku _ z)) (h p),I.hok,I.len⟩
theorem Lk{N:List Str}(hN:N.Nodup){i j:Nat}{x:Str}(a:N[i]?=some x)(b:N[j]?=some x):i=j:=by
 obtain⟨h1,e1⟩:=ca.mp a;obtain⟨h2,e2⟩:=ca.mp b;exact(List.getElem_inj hN).mp (e1.trans e2.symm)
theorem Fx{M:kw}{A:aq}{E:Value->aa->Prop}{i:Nat}{x:Str}{v:V}{u:Value}{Q:Unit->aa->Prop}(I:aF X AM σ H s)(hN:X.N.Nodup)(hi:X.N[i]?=some x)(hx:jP X.env.scope x)(r:bK v u)
  (h:∀s',aF X AM (σ.set i (some v)) H s'->(∃a,ik a s.heap s'.heap/\(a=X.env.locals\/X.env.cells.lookup x=some a))->Q () s')(hf:X.fn x=true\/X.env.scope.names.lookup x=some .local:=by first |exact .inl rfl |exact .inr rfl |assumption):wpAny M A (storeName X.env x u) Q E s:=by
 obtain⟨m,hn,hl⟩:=id I.loc;have hcls:(X.env.scope.kind== .class||(X.env.scope.kind== .module&&X.env.locals !=X.env.globals))=false:=by rw[I.ok.kind];rfl
 have hiσ:i<σ.length:=by rw[I.len];exact(ca.mp hi).1
 have cne:=I.cne;have tracked:∀{a:Addr}{h':Heap},(∃o,s.heap.get? a=some o/\H a=none)->ik a s.heap h'->eZ X.prog X.w H h':=λ{a h'} ha hs b ob e=>by
  obtain⟨_,_,hfree⟩:=ha;refine(I.hok b ob e).stay (λc w' hc q=>(hs.2 c ?_).trans q) (λ_ q=>q) λ_ _ q=>q
  rintro rfl
  rcases hc with rfl |hc
  .rw[hfree]at e;cases e
  .rw[hfree]at hc;cases hc
 rcases hx with hk |hk
 .refine wpAny_storeName_local hk hn (λh' hn' hs=>?_) hcls
  obtain⟨oL,_,_,hoL,_⟩:=id hn;refine h _ ⟨I.ok,I.os,I.bare,⟨λb o e n hb hx=>?_,λb o e n hb hx=>?_,I.base.free,λb o e hx=>?_,I.base.tups,I.base.frzs,I.base.tbls⟩,⟨_,hn',λj y v' e1 e2 e3=>?_⟩,λy c e=>?_,I.free,I.freeC,λp hp=>?_,tracked ⟨oL,hoL,I.free⟩ hs,by simpa using I.len⟩ ⟨_,hs,.inl rfl⟩
  .exact(hs.2 b (cw (db (br e) I.ok.above))).trans (I.base.keep b o e n hb hx)
  .obtain⟨sl,e1⟩:=I.base.slot b o e n hb hx
   exact⟨sl,(hs.2 b (cw (db (br e) I.ok.above))).trans e1⟩
  .obtain⟨o',e1⟩:=I.base.there b o e hx
   exact⟨o',(hs.2 b (cw (db (br e) I.ok.above))).trans e1⟩
  .by_cases hj:j=i
   .subst hj
    rw[hi]at e1;cases e1;rw[de hiσ]at e2;cases e2;exact⟨u,r,.inl ⟨hk,by simp⟩⟩
   .rw[dz (gr hj)]at e2
    obtain⟨u',r',q⟩:=hl j y v' e1 e2 e3;refine⟨u',r',?_⟩;rcases q with⟨k,e⟩|⟨k,c,e,z⟩
    .refine .inl ⟨k,?_⟩
     have:y≠x:=λe=>hj (Lk hN e1 (e▸hi));simp[this,e]
    .exact .inr ⟨k,c,e,z.sameBut hs (cne y c e)⟩
  .obtain⟨w',z⟩:=I.cell y c e
   exact⟨w',z.sameBut hs (cne y c e)⟩
  .obtain⟨e,n,ne,nf,d⟩:=I.pin p hp
   exact⟨(hs.2 p.1 ne).trans e,n,ne,nf,d⟩
 .have hfn:X.fn x=true:=by
   rcases hf with z |z
   .exact z
   .rw[z]at hk;cases hk
  obtain⟨c,hc⟩:=I.ok.has x (.inl hk);obtain⟨w',z⟩:=I.cell x c hc;refine wpAny_storeName_cell I.ok.kind hk hc z (λh' hc' hs=>?_);obtain⟨oc,hoc,hocd⟩:=id z;refine h {s with heap:=h'} ⟨I.ok,I.os,I.bare,⟨λb o e n hb hx=>?_,λb o e n hb hx=>?_,I.base.free,λb o e hx=>?_,I.base.tups,I.base.frzs,I.base.tbls⟩,⟨m,hn.sameBut hs (gr (cne x c hc)),λj y v' e1 e2 e3=>?_⟩,λy c' e=>?_,I.free,I.freeC,λp hp=>?_,tracked ⟨oc,hoc,I.freeC x c hc⟩ hs,by simpa using I.len⟩ ⟨c,hs,.inr hc⟩
  .exact(hs.2 b (cw (db (br e) (I.ok.cab x c hfn hc)))).trans (I.base.keep b o e n hb hx)
  .obtain⟨sl,e1⟩:=I.base.slot b o e n hb hx
   exact⟨sl,(hs.2 b (cw (db (br e) (I.ok.cab x c hfn hc)))).trans e1⟩
  .obtain⟨o',e1⟩:=I.base.there b o e hx
   exact⟨o',(hs.2 b (cw (db (br e) (I.ok.cab x c hfn hc)))).trans e1⟩
  .by_cases hj:j=i
   .subst hj
    rw[hi]at e1;cases e1;rw[de hiσ]at e2;cases e2;exact⟨u,r,.inr ⟨.inl hk,c,hc,hc'⟩⟩
   .rw[dz (gr hj)]at e2
    obtain⟨u',r',q⟩:=hl j y v' e1 e2 e3;refine⟨u',r',?_⟩;rcases q with q |⟨k,c',e,z'⟩
    .exact .inl q
    .refine .inr ⟨k,c',e,z'.sameBut hs ?_⟩
     rintro rfl
     exact hj (Lk hN e1 (I.ok.inj _ _ _ e hc▸hi))
  .by_cases hcc:c'=c
   .subst hcc;exact⟨_,hc'⟩
   .obtain⟨w2,z2⟩:=I.cell y c' e
    exact⟨w2,z2.sameBut hs hcc⟩
  .obtain⟨e,n,ne,nf,d⟩:=I.pin p hp
   refine⟨(hs.2 p.1 ?_).trans e,n,ne,nf,d⟩;intro q;rw[q,hoc]at e;have q':oc=p.2:=cg e;exact d w' (by rw[<-q'];exact hocd)
theorem nR{M:kw}{A:aq}{E:Value->aa->Prop}{i:Nat}{x:Str}{v:V}{u:Value}{Q:Unit->aa->Prop}(I:aF X AM σ H s)(hN:X.N.Nodup)(hi:X.N[i]?=some x)(hx:jP X.env.scope x)(r:bK v u)
  (h:∀s',aF X AM (σ.set i (some v)) H s'->Q () s')(hf:X.fn x=true\/X.env.scope.names.lookup x=some .local:=by first |exact .inl rfl |exact .inr rfl |assumption):wpAny M A (storeName X.env x u) Q E s:=
 Fx I hN hi hx r (λs' I' _=>h s' I') hf
theorem aF.call'{s':aa}{ch:List Addr}(I:aF X AM σ H s)(ho:s'.os=s.os)(u:Un (dS X.stack) ch H H' s.heap s'.heap)(hok:eZ X.prog X.w H' s'.heap)(hg:jg s'.gens)
  (hch:∀b∈ch,(b∈X.ex\/X.AN.heap.objs.size<=b)/\b≠X.env.locals/\(∀x c,X.env.cells.lookup x=some c->c≠b)/\∀p∈X.pn++AM,p.1≠b):aF X AM σ H' s':=by
 obtain⟨h',g',d',t',o'⟩:=s';have e:o'=s.os:=ho;subst e;exact I.call (g':=g') (t':=t') (d':=d') u hok hg hch
end
abbrev XK:=Value->AG->Hp->Prop
abbrev St:=List (Option V)
abbrev VK:=V->Hp->Prop
abbrev TE:=St->Hp->VK->Prop
abbrev TT:=St->Hp->(Bool->Hp->Prop)->Prop
abbrev TA:=St->Hp->(List V->Hp->Prop)->Prop
structure lE where
 nx:St->Hp->Prop
 rt:VK
 bk:St->Hp->Prop:=λ_ _=>False
 ct:St->Hp->Prop:=λ_ _=>False
abbrev TS:=lE->St->Hp->Prop
def EP(X:Cx)(AM:List (Addr×Obj))(σ:St)(Q:VK)(u:Value)(s':aa):Prop:=∃v H',aF X AM σ H' s'/\bK v u/\Q v H'
def TP(X:Cx)(AM:List (Addr×Obj))(σ:St)(Q:Bool->Hp->Prop)(b:Bool)(s':aa):Prop:=∃H',aF X AM σ H' s'/\Q b H'
def AP(X:Cx)(AM:List (Addr×Obj))(σ:St)(Q:List V->Hp->Prop)(us:AE)(s':aa):Prop:=∃vs H',aF X AM σ H' s'/\aZ vs us/\Q vs H'
def SP(X:Cx)(AM:List (Addr×Obj))(D:lE)(f:Flow)(s':aa):Prop:=
 match f with
 |.next=>∃σ' H',aF X AM σ' H' s'/\D.nx σ' H'
 |.brk=>∃σ' H',aF X AM σ' H' s'/\D.bk σ' H'
 |.cont=>∃σ' H',aF X AM σ' H' s'/\D.ct σ' H'
 |.ret u=>∃v σ' H',aF X AM σ' H' s'/\bK v u/\D.rt v H'
def PE(X:Cx)(e:ag)(t:TE):Prop:=
 ∀(AM:List (Addr×Obj))(s:aa)(σ:St)(H:Hp)(Q:VK),aF X AM σ H s->t σ H Q->wpAny (model X.prog X.w) X.A (eval e X.env) (EP X AM σ Q) X.xe s
def PT(X:Cx)(e:ag)(t:TT):Prop:=
 ∀(AM:List (Addr×Obj))(s:aa)(σ:St)(H:Hp)(Q:Bool->Hp->Prop),aF X AM σ H s->t σ H Q->wpAny (model X.prog X.w) X.A (isTrue e X.env (eval e X.env)) (TP X AM σ Q) X.xe s
def PW(X:Cx)(e:ag)(t:TT):Prop:=
 ∀(whole:Sem Value)(AM:List (Addr×Obj))(s:aa)(σ:St)(H:Hp)(Q:Bool->Hp->Prop),aF X AM σ H s->t σ H Q->wpAny (model X.prog X.w) X.A (isTrue e X.env whole) (TP X AM σ Q) X.xe s
theorem PW.pt{X:Cx}{e:ag}{t:TT}(h:PW X e t):PT X e t:=h _
def PA(X:Cx)(es:List ag)(t:TA):Prop:=
 ∀(pos:ah)(AM:List (Addr×Obj))(s:aa)(σ:St)(H:Hp)(Q:List V->Hp->Prop),aF X AM σ H s->t σ H Q->wpAny (model X.prog X.w) X.A (spliced (backTo pos (starEach es X.env))) (AP X AM σ Q) X.xe s
def PS(X:Cx)(st:Stmt)(t:TS):Prop:=
 ∀(AM:List (Addr×Obj))(s:aa)(σ:St)(H:Hp)(D:lE),aF X AM σ H s->t D σ H->wpAny (model X.prog X.w) X.A (exec st X.env) (SP X AM D) X.xe s
def fK(X:Cx)(st:List Stmt)(t:TS):Prop:=
 ∀(AM:List (Addr×Obj))(s:aa)(σ:St)(H:Hp)(D:lE),aF X AM σ H s->t D σ H->wpAny (model X.prog X.w) X.A (execs st X.env) (SP X AM D) X.xe s
theorem bC{α:Type}{t:Sem α}{Q Q':α->aa->Prop}{M:kw}{A:aq}{E:Value->aa->Prop}{s:aa}(h:wpAny M A t Q E s)(hQ:∀a s,Q a s->Q' a s):wpAny M A t Q' E s:=dr h hQ λ_ _ x=>x
section
variable{X:Cx}
theorem bin{a b:ag}{ta tb:TE}(ha:PE X a ta)(hb:PE X b tb){AM:List (Addr×Obj)}{s:aa}{σ:St}{H:Hp}{R:V->V->Hp->Prop}(I:aF X AM σ H s)(h:ta σ H λx H1=>tb σ H1 λy H2=>R x y H2)
  {α:Type}{Q:α->aa->Prop}{f:Value->Value->Sem α}
  (hf:∀v u s2 x y H2,aF X AM σ H2 s2->bK x v->bK y u->R x y H2->wpAny (model X.prog X.w) X.A (f v u) Q X.xe s2):
  wpAny (model X.prog X.w) X.A (eval a X.env) (λv AQ=>wpAny (model X.prog X.w) X.A (eval b X.env) (λu AT=>wpAny (model X.prog X.w) X.A (f v u) Q X.xe AT) X.xe AQ) X.xe s:=by
 refine bC (ha AM s σ H _ I h) λv s1 ⟨x,H1,I1,r1,q1⟩=>?_;refine bC (hb AM s1 σ H1 _ I1 q1) λu s2 ⟨y,H2,I2,r2,q2⟩=>?_;exact hf v u s2 x y H2 I2 r1 r2 q2
def Us(i:Nat):TE:=λσ H Q=>∃v,σ[i]?=some (some v)/\Q v H
def tC(v:V):TE:=λ_ H Q=>Q v H
theorem oF{i:Nat}{x:Str}{pos:ah}(hN:X.N[i]?=some x)(hv:nC X.env.scope x)(hd:(x==("__debug__":Str))=false:=by decide)(hcd:(x==("__classdict__":Str))=false:=by decide):PE X (.Name x pos) (Us i):=by
 intro AM s σ H Q I h;obtain⟨v,e,h⟩:=h;obtain⟨m,hn,hl⟩:=I.loc;obtain⟨u,r,l⟩:=hl i x v hN e hv;have fin:EP X AM σ Q u s:=⟨v,H,I,r,h⟩;rcases l with⟨hk,hm⟩|⟨hk,c,hc,hcell⟩
 .exact ua (yu I.ok.kind hk hn hm fin) hd
 .rcases hk with hk |hk
  .exact ua (yw I.ok.kind hk hc hcell fin) hd
  .exact ua (wpAny_loadName_free I.ok.kind hk hc hcell fin hcd) hd
theorem vU{i j pos}:PE X (.Constant (.int i) j pos) (tC (.int i)):=λ_ _ _ H _ I h=>wpAny_Constant_int ⟨.int i,H,I.tok _,⟨_,rfl⟩,h⟩
theorem aaS{b j pos}:PE X (.Constant (.bool b) j pos) (tC (.bl b)):=λ_ _ _ H _ I h=>Constant_bool ⟨.bl b,H,I,rfl,h⟩
theorem Io{j pos}:PE X (.Constant .none j pos) (tC .non):=λ_ _ _ H _ I h=>Constant_none ⟨.non,H,I,rfl,h⟩
theorem aaN{x j pos}:PE X (.Constant (.str x) j pos) (tC (.str x)):=λ_ _ _ H _ I h=>Calls.Constant_str ⟨.str x,H,I.tok _,⟨_,rfl⟩,h⟩
def Gl(X:Cx)(x:Str):Prop:=X.env.kindOf x=some .globalImplicit
theorem rZ{E:Value->aa->Prop}{AM:List (Addr×Obj)}{s:aa}{σ:St}{H:Hp}{x:Str}{u:Value}{pos:ah}{Q:Value->aa->Prop}(I:aF X AM σ H s)(hg:Gl X x)(hm:X.mg x=some u)(h:Q u s)
  (hd:(x==("__debug__":Str))=false:=by decide):wpAny (model X.prog X.w) X.A (eval (.Name x pos) X.env) Q E s:=
 yx I.ok.kind hg (Calls.loadGlobal_global (by rw[I.ok.glob];exact I.mod.glob.keeps I.bk) hm h) hd
theorem pV{E:Value->aa->Prop}{AM:List (Addr×Obj)}{s:aa}{σ:St}{H:Hp}{x:Str}{u:Value}{pos:ah}{Q:Value->aa->Prop}(I:aF X AM σ H s)(hg:Gl X x)(hm:X.mg x=none)(hv:bootBuiltins x=some u)(h:Q u s)
  (hn:x≠"__name__":=by decide)(hd:(x==("__debug__":Str))=false:=by decide):wpAny (model X.prog X.w) X.A (eval (.Name x pos) X.env) Q E s:=by
 obtain⟨mb,h1,h2⟩:=I.mod.blt;exact yx I.ok.kind hg (Calls.loadGlobal_builtin (by rw[I.ok.glob];exact I.mod.glob.keeps I.bk) hm (by rw[I.ok.blt];exact h1.keeps I.bk) ((h2 x hn).trans hv) h) hd
theorem J7{x:Str}{v:V}{u:Value}{pos:ah}(hg:Gl X x)(hm:X.mg x=some u)(r:bK v u)(hd:(x==("__debug__":Str))=false:=by decide):PE X (.Name x pos) (tC v):=
 λ_ _ _ H _ I h=>rZ I hg hm ⟨v,H,I,r,h⟩ hd
variable{a b:ag}{ta tb:TE}{pos:ah}
def PC(X:Cx)(op:kj)(a b:ag)(t:TE):Prop:=
 ∀(AM:List (Addr×Obj))(s:aa)(σ:St)(H:Hp)(Q:VK),aF X AM σ H s->t σ H Q->
  wpAny (model X.prog X.w) X.A (eval a X.env) (λv AQ=>wpAny (model X.prog X.w) X.A (eval b X.env) (λu AT=>wpAny (model X.prog X.w) X.A (compareOp op v u) (EP X AM σ Q) X.xe AT) X.xe AQ) X.xe s
theorem Ez(b:ag){op:kj}(h:op≠.In)(h2:op≠.NotIn):behindInMarks op b=false:=by
 have e1:(op==CmpOp.In)=false:=by cases op<;>first |rfl |exact absurd rfl h
 have e2:(op==CmpOp.NotIn)=false:=by cases op<;>first |rfl |exact absurd rfl h2
 cases b<;>simp[behindInMarks,e1,e2]
def Zq(ta:TE):TE:=λσ H Q=>ta σ H λx H1=>Q (.bl (!decide (x=.non))) H1
theorem bK.none_iff{x:V}{v:Value}(r:bK x v):(v==cj)=decide (x=.non):=by
 cases x with
 |non=>cases r;rfl
 |bl _=>cases r;rfl
 |int _=>obtain⟨t,rfl⟩:=r;rfl
 |str _=>obtain⟨t,rfl⟩:=r;rfl
 |byt _=>obtain⟨t,rfl⟩:=r;rfl
 |flt _=>obtain⟨t,rfl⟩:=r;rfl
 |ref _=>cases r;rfl
 |ty _=>cases r;rfl
theorem J4{j pos'}(ha:PE X a ta):PC X .IsNot a (.Constant .none j pos') (Zq ta):=by
 intro AM s σ H Q I h;refine bC (ha AM s σ H _ I h) λv s1 ⟨x,H1,I1,r1,q1⟩=>?_;exact Constant_none (isnot_none_gen ⟨.bl _,H1,I1,by rw[r1.none_iff];rfl,q1⟩)
def tB(t:TE):TT:=λσ H Q=>t σ H λx H1=>∃c,x=.bl c/\Q c H1
theorem aaz{op:kj}{t:TE}(h:PC X op a b t)(h1:behindInMarks op b=false:=by first |exact Ez _ (by decide) (by decide) |rfl):PT X (.Compare a [op] [b] pos) (tB t):=by
 intro AM s σ H Q I hw;refine yy (bC (h AM s σ H _ I hw) λv s1 h1=>bC h1 λu s2 h2=>bC h2 λc s3 ⟨x,H1,I1,r1,q1⟩=>?_) h1;obtain⟨d,rfl,q⟩:=q1;cases r1;exact qg ⟨H1,I1,q⟩
variable{tA tB':TT}{gW:List ag}
def abU(t u:TT):TT:=λσ H Q=>t σ H λc H1=>if c=true then u σ H1 Q else Q false H1
def tOr(t u:TT):TT:=λσ H Q=>t σ H λc H1=>if c=true then Q true H1 else u σ H1 Q
theorem J6(ha:PT X a tA):PW X (.BoolOp .And [a] pos) tA:=by
 intro wh AM s σ H Q I h;refine isTrue_and (bC (ha AM s σ H Q I h) λc s1 e=>?_);cases c with
 |true=>exact isTrue_and_nil e
 |false=>exact e
theorem aab(ha:PT X a tA):PW X (.BoolOp .Or [a] pos) tA:=by
 intro wh AM s σ H Q I h;refine isTrue_or (bC (ha AM s σ H Q I h) λc s1 e=>?_);cases c with
 |false=>exact isTrue_or_nil e
 |true=>exact e
theorem S9(ha:PT X a tA)(hb:PW X (.BoolOp .And (b::gW) pos) tB'):PW X (.BoolOp .And (a::b::gW) pos) (abU tA tB'):=by
 intro wh AM s σ H Q I h;refine isTrue_and (bC (ha AM s σ H _ I h) λc s1 ⟨H1,I1,q1⟩=>?_);cases c with
 |true=>exact hb wh AM s1 σ H1 Q I1 q1
 |false=>exact⟨H1,I1,q1⟩
theorem abj(ha:PT X a tA)(hb:PW X (.BoolOp .Or (b::gW) pos) tB'):PW X (.BoolOp .Or (a::b::gW) pos) (tOr tA tB'):=by
 intro wh AM s σ H Q I h;refine isTrue_or (bC (ha AM s σ H _ I h) λc s1 ⟨H1,I1,q1⟩=>?_);cases c with
 |true=>exact⟨H1,I1,q1⟩
 |false=>exact hb wh AM s1 σ H1 Q I1 q1
def aaZ(ta:TE):TE:=λσ H Q=>ta σ H λx H1=>∃c,x=.bl c/\Q (.bl (!c)) H1
theorem Y4(ha:PE X a ta):PE X (.UnaryOp .Not a pos) (aaZ ta):=by
 intro AM s σ H Q I h;refine UnaryOp_ (bC (ha AM s σ H _ I h) λv s1 ⟨x,H1,I1,r1,q1⟩=>?_);obtain⟨c,rfl,q1⟩:=q1;cases r1;exact not_of (qg ⟨.bl (!c),H1,I1,rfl,q1⟩)
def tIf(t:TT)(ta tb:TE):TE:=λσ H Q=>t σ H λc H1=>if c=true then ta σ H1 Q else tb σ H1 Q
theorem A3{c:ag}(hc:PT X c tA)(ha:PE X a ta)(hb:PE X b tb):PE X (.IfExp c a b pos) (tIf tA ta tb):=by
 intro AM s σ H Q I h;refine wpAny_IfExp (bC (hc AM s σ H _ I h) λd s1 ⟨H1,I1,q1⟩=>?_);cases d with
 |true=>exact ha AM s1 σ H1 Q I1 q1
 |false=>exact hb AM s1 σ H1 Q I1 q1
end
def bT(K:af)(H:Hp)(a:Addr)(xs:List V):Prop:=
 Rd H a (.lst xs)\/
  ∃(o:Obj)(its:Array Value)(n:Nat),K.lookup a=some o/\o.cls=.type "list"/\o.dict=none/\o.data=.seq its n/\its.size<=sizeLine/\aZ xs its.toList
def dD(K:af)(H:Hp)(a:Addr)(xs:List V):Prop:=
 Rd H a (.tup xs)\/
  ∃(o:Obj)(its:Array Value)(n:Nat),K.lookup a=some o/\o.cls=.type "tuple"/\o.data=.seq its n/\its.size<=sizeLine/\aZ xs its.toList
def ack:Value->Option V
 |.none=>some .non
 |.bool b=>some (.bl b)
 |.int i _=>some (.int i)
 |.str x _=>some (.str x)
 |.bytes b _=>some (.byt b)
 |.float b _=>some (.flt b)
 |.ref a=>some (.ref a)
 |.type n=>some (.ty n)
 |_=>none
theorem bK.abs{x:V}{u:Value}(r:bK x u):ack u=some x:=by
 cases x with
 |non=>cases r;rfl
 |bl _=>cases r;rfl
 |int _=>obtain⟨t,rfl⟩:=r;rfl
 |str _=>obtain⟨t,rfl⟩:=r;rfl
 |byt _=>obtain⟨t,rfl⟩:=r;rfl
 |flt _=>obtain⟨t,rfl⟩:=r;rfl
 |ref _=>cases r;rfl
 |ty _=>cases r;rfl
theorem bK.inj{x y:V}{u:Value}(r:bK x u)(q:bK y u):x=y:=cg (r.abs.symm.trans q.abs)
theorem aZ.inj:∀{xs ys:List V}{us:AE},aZ xs us->aZ ys us->xs=ys
 |_,_,_,.nil,.nil=>rfl
 |_,_,_,.cons r t,.cons r' t'=>by rw[r.inj r',aZ.inj t t']
section
variable{X:Cx}{AM:List (Addr×Obj)}{σ:St}{H:Hp}{s:aa}{a:Addr}{xs ys:List V}
theorem bT.of{K:af}(h:H a=some (.lst xs)):bT K H a xs:=.inl (.inl h)
theorem dD.of{K:af}(h:H a=some (.tup xs)):dD K H a xs:=.inl (.inl h)
theorem aF.list(I:aF X AM σ H s)(h:bT X.K H a xs):∃its:AE,aZ xs its/\PlainL s.heap a its.toArray/\xs.length<=sizeLine:=by
 rcases h with h |⟨o,its,n,hk,hc,hd,hs,hz,r⟩
 .obtain⟨z,its,n,r,e⟩:=h.ok I.hok
  exact⟨its,r,⟨_,n,e,rfl,rfl,rfl⟩,z⟩
 .refine⟨its.toList,r,⟨o,n,I.kIn a o hk,hc,hd,by simpa using hs⟩,?_⟩
  have e:=r.length;simp only[kx]at e;omega
theorem aF.tuple(I:aF X AM σ H s)(h:dD X.K H a xs):∃its:AE,aZ xs its/\IsTup s.heap a its.toArray/\xs.length<=sizeLine:=by
 rcases h with h |⟨o,its,n,hk,hc,hs,hz,r⟩
 .obtain⟨z,its,r,p⟩:=h.ok I.hok
  exact⟨its,r,p,z⟩
 .refine⟨its.toList,r,⟨o,I.kIn a o hk,hc,n,by simpa using hs⟩,?_⟩
  have e:=r.length;simp only[kx]at e;omega
theorem aF.list_inj(I:aF X AM σ H s)(h:bT X.K H a xs)(h':bT X.K H a ys):xs=ys:=by
 obtain⟨its,r,⟨o,n,e,_,_,d⟩,_⟩:=I.list h;obtain⟨its',r',⟨o',n',e',_,_,d'⟩,_⟩:=I.list h';rw[e]at e';cases e';rw[d]at d';injection d' with d1 _;have:its=its':=by simpa using congrArg ub d1
 subst this;exact r.inj r'
theorem aF.tuple_inj(I:aF X AM σ H s)(h:dD X.K H a xs)(h':dD X.K H a ys):xs=ys:=by
 obtain⟨its,r,⟨o,e,_,n,d⟩,_⟩:=I.tuple h;obtain⟨its',r',⟨o',e',_,n',d'⟩,_⟩:=I.tuple h';rw[e]at e';cases e';rw[d]at d';injection d' with d1 _;have:its=its':=by simpa using congrArg ub d1
 subst this;exact r.inj r'
end
abbrev Cx.wish(X:Cx)(E:Value->aa->Prop):Cx:={X with xe:=E}
abbrev Cx.nox(X:Cx):Cx:=X.wish λ_ _=>False
theorem Cx.Ok.wish{X:Cx}(ok:X.Ok)(E:Value->aa->Prop):(X.wish E).Ok:=
 ⟨ok.mod,ok.kind,ok.glob,ok.blt,ok.above,ok.inj,ok.has,ok.cab,ok.hd,ok.frames,ok.stk,ok.exf,ok.bs,ok.bsz,ok.noex,ok.exfs,ok.funs,ok.frf⟩
theorem Cx.Ok.unwish{X:Cx}{E:Value->aa->Prop}(ok:(X.wish E).Ok):X.Ok:=
 ⟨ok.mod,ok.kind,ok.glob,ok.blt,ok.above,ok.inj,ok.has,ok.cab,ok.hd,ok.frames,ok.stk,ok.exf,ok.bs,ok.bsz,ok.noex,ok.exfs,ok.funs,ok.frf⟩
section
variable{X:Cx}{AM:List (Addr×Obj)}{σ:St}{H:Hp}{s:aa}{E:Value->aa->Prop}
theorem aF.wish(I:aF X AM σ H s)(E:Value->aa->Prop):aF (X.wish E) AM σ H s:=⟨I.ok.wish E,I.os,I.bare,I.base,I.loc,I.cell,I.free,I.freeC,I.pin,I.hok,I.len⟩
theorem aF.unwish(I:aF (X.wish E) AM σ H s):aF X AM σ H s:=⟨I.ok.unwish,I.os,I.bare,I.base,I.loc,I.cell,I.free,I.freeC,I.pin,I.hok,I.len⟩
theorem SP.unwish{D:lE}{f:Flow}{s':aa}(h:SP (X.wish E) AM D f s'):SP X AM D f s':=by
 cases f with
 |next=>obtain⟨σ',H',I,q⟩:=h;exact⟨σ',H',I.unwish,q⟩
 |brk=>obtain⟨σ',H',I,q⟩:=h;exact⟨σ',H',I.unwish,q⟩
 |cont=>obtain⟨σ',H',I,q⟩:=h;exact⟨σ',H',I.unwish,q⟩
 |ret u=>obtain⟨v,σ',H',I,r,q⟩:=h;exact⟨v,σ',H',I.unwish,r,q⟩
theorem fK.nox{st:List Stmt}{t:TS}(h:fK X.nox st t):fK X st t:=λAM s σ H D I hw=>
 dr (h AM s σ H D (I.wish _) hw) (λ_ _ q=>q.unwish) λ_ _ z=>io z
end
section
variable{X:Cx}{st:Stmt}{gW:List Stmt}{t u:TS}{e:ag}{te:TE}{pos:ah}
def aa2:TS:=λD σ H=>D.nx σ H
def acv(t u:TS):TS:=λD σ H=>t {D with nx:=u D} σ H
theorem K7:fK X [] aa2:=λ_ _ σ H _ I h=>my ⟨σ,H,I,h⟩
theorem Mz(h1:PS X st t)(h2:fK X gW u):fK X (st::gW) (acv t u):=by
 intro AM s σ H D I h;refine uc (bC (h1 AM s σ H {D with nx:=u D} I h) λf s1 q=>?_);cases f with
 |next=>
  obtain⟨σ',H',I',q⟩:=q;exact h2 AM s1 σ' H' D I' q
 |ret v=>exact q
 |brk=>exact q
 |cont=>exact q
theorem Oa(h1:PS X st t):fK X [st] t:=by
 intro AM s σ H D I h;refine uc (bC (h1 AM s σ H D I h) λf s1 q=>?_);cases f with
 |next=>exact my q
 |ret v=>exact q
 |brk=>exact q
 |cont=>exact q
theorem aF.quiet{AM:List (Addr×Obj)}{σ:St}{H:Hp}{s:aa}(I:aF X AM σ H s):interactive X.env=false:=by simp[interactive,I.ok.kind]
def abq(te:TE):TS:=λD σ H=>te σ H λ_ H1=>D.nx σ H1
theorem R3(he:PE X e te)(hs:swapsWith e none pos.line X.env=pure false:=by rfl):PS X (.Expr e pos) (abq te):=by
 intro AM s σ H D I h;exact wpAny_Expr_any (bC (he AM s σ H _ I h) λv s1 ⟨x,H1,I1,r1,q1⟩=>⟨σ,H1,I1,q1⟩) I.quiet hs
def ab4(te:TE):TS:=λD σ H=>te σ H D.rt
theorem Y7(he:PE X e te):PS X (.Return (some e) pos) (ab4 te):=by
 intro AM s σ H D I h;exact wpAny_Return_some (bC (he AM s σ H _ I h) λv s1 ⟨x,H1,I1,r1,q1⟩=>⟨x,σ,H1,I1,r1,q1⟩)
def acw(c:TT)(t u:TS):TS:=λD σ H=>c σ H λb H1=>if b=true then t D σ H1 else u D σ H1
theorem abC{c:ag}{a b:List Stmt}{tc:TT}(hc:PT X c tc)(ha:fK X a t)(hb:fK X b u):PS X (.If c a b pos) (acw tc t u):=by
 intro AM s σ H D I h;refine wpAny_If (bC (hc AM s σ H _ I h) λd s1 ⟨H1,I1,q1⟩=>?_);cases d with
 |true=>exact ha AM s1 σ H1 D I1 q1
 |false=>exact hb AM s1 σ H1 D I1 q1
end
abbrev TG:=V->St->Hp->(St->Hp->Prop)->Prop
abbrev lZ:=List V->St->Hp->(St->Hp->Prop)->Prop
def PG(X:Cx)(target:ag)(t:TG):Prop:=
 ∀(AM:List (Addr×Obj))(s:aa)(σ:St)(H:Hp)(v:V)(u:Value)(Q:St->Hp->Prop),aF X AM σ H s->bK v u->t v σ H Q->
  wpAny (model X.prog X.w) X.A (assign target X.env u) (λ_ s'=>∃σ' H',aF X AM σ' H' s'/\Q σ' H') X.xe s
def lI(X:Cx)(ts:List ag)(t:lZ):Prop:=
 ∀(AM:List (Addr×Obj))(s:aa)(σ:St)(H:Hp)(vs:List V)(us:AE)(Q:St->Hp->Prop),aF X AM σ H s->aZ vs us->t vs σ H Q->
  wpAny (model X.prog X.w) X.A (assignInOrder ((assignEach ts X.env).map (·.2)) us) (λ_ s'=>∃σ' H',aF X AM σ' H' s'/\Q σ' H') X.xe s
abbrev wY:=V->V->V->Hp->(Hp->Prop)->Prop
def Ee(X:Cx)(t:wY):Prop:=
 ∀(AM:List (Addr×Obj))(s:aa)(σ:St)(H:Hp)(o i v:V)(ov iv u:Value)(Q:Hp->Prop),aF X AM σ H s->bK o ov->bK i iv->bK v u->t o i v H Q->
  wpAny (model X.prog X.w) X.A (setItem ov iv u) (λ_ s'=>∃H',aF X AM σ H' s'/\Q H') X.xe s
abbrev xP:=V->V->Hp->VK->Prop
def PIp(X:Cx)(op:oq)(t:xP):Prop:=
 ∀(AM:List (Addr×Obj))(s:aa)(σ:St)(H:Hp)(x y:V)(v u:Value)(Q:VK),aF X AM σ H s->bK x v->bK y u->t x y H Q->
  wpAny (model X.prog X.w) X.A (inplaceOp op v u) (EP X AM σ Q) X.xe s
section
variable{X:Cx}{pos:ah}
def Kd(i:Nat):TG:=λv σ H Q=>Q (σ.set i (some v)) H
theorem Qm{i:Nat}{x:Str}(hN:X.N.Nodup)(hi:X.N[i]?=some x)(hx:jP X.env.scope x)(hf:X.fn x=true\/X.env.scope.names.lookup x=some .local:=by first |exact .inl rfl |exact .inr rfl |assumption):PG X (.Name x pos) (Kd i):=by
 intro AM s σ H v u Q I r h;exact wpAny_assign_Name (nR I hN hi hx r (λs' I'=>⟨_,H,I',h⟩) hf)
def abV:lZ:=λvs σ H Q=>vs=[]/\Q σ H
def abA(t:TG)(u:lZ):lZ:=λvs σ H Q=>∃v r,vs=v::r/\t v σ H λσ' H'=>u r σ' H' Q
theorem Q5:lI X [] abV:=by
 intro AM s σ H vs us Q I r h;obtain⟨e,h⟩:=h;subst e;cases r;exact assignInOrder_nil ⟨σ,H,I,h⟩
theorem Rz{e:ag}{es:List ag}{t:TG}{u:lZ}(h1:PG X e t)(h2:lI X es u)
  (hs:(assignEach (e::es) X.env).map (·.2)=assign e X.env::(assignEach es X.env).map (·.2):=by rfl):lI X (e::es) (abA t u):=by
 intro AM s σ H vs us Q I r h;obtain⟨v,vr,e1,h⟩:=h;subst e1;cases r with
 |cons r rr=>
  rw[hs];refine ud (bC (h1 AM s σ H _ _ _ I r h) λ_ s1 ⟨σ1,H1,I1,q1⟩=>?_);exact h2 AM s1 σ1 H1 _ _ Q I1 rr q1
def acd(K:af)(n:Nat)(t:lZ):TG:=λv σ H Q=>∃a xs,v=.ref a/\dD K H a xs/\xs.length=n/\t xs σ H Q
theorem Y6{es:List ag}{k:Nat}{t:lZ}{n:Nat}(hc:X.calm=true)(h:lI X es t)
  (hn:(assignEach es X.env).length=n:=by rfl)(hst:(assignEach es X.env).findIdx? (·.1)=none:=by rfl):PG X (.Tuple es k pos) (acd X.K n t):=by
 intro AM s σ H v u Q I r hw;obtain⟨a,xs,e1,hq,hl,hw⟩:=hw;subst e1;cases r;obtain⟨its,rv,ht,hz⟩:=I.tuple hq;refine assign_Tuple_tuple (I.ok.hd hc) ht (by simp[hn,<-hl,rv.length]) hst λh' hx=>?_;have I1:aF X AM σ H {s with heap:=h'}:=I.kept (t':=s.toks) λb o e=>hx b o (cw (br e)) e;exact h AM _ σ H xs _ Q I1 (by simpa using rv) hw
def act(to ti:TE)(t:wY):TG:=λv σ H Q=>to σ H λo H1=>ti σ H1 λi H2=>t o i v H2 λH3=>Q σ H3
theorem Gc{o i:ag}{to ti:TE}{t:wY}(ho:PE X o to)(hi:PE X i ti)(hs:Ee X t)
  (ha:∀v,assign (.Subscript o i pos) X.env v=(do
   let ov <-holding [v] (eval o X.env)
   let iv <-holding [v,ov] (eval i X.env)
   standAt pos
   holding [v,ov,iv] (setItem ov iv v)
   release [v,ov,iv] []):=by intro _;rfl):PG X (.Subscript o i pos) (act to ti t):=by
 intro AM s σ H v u Q I r h;rw[ha];refine ae (kl (bC (ho AM s σ H _ I h) λov s1 ⟨x,H1,I1,r1,q1⟩=>?_));refine ae (kl (bC (hi AM s1 σ H1 _ I1 q1) λiv s2 ⟨y,H2,I2,r2,q2⟩=>?_));refine ae (ot (ae (kl (bC (hs AM s2 σ H2 x y v ov iv u _ I2 r1 r2 r q2) λ_ s3 ⟨H3,I3,q3⟩=>?_))));exact wpAny_release ⟨σ,H3,I3,q3⟩
def Fe(te:TE)(g:TG):TS:=λD σ H=>te σ H λx H1=>g x σ H1 D.nx
theorem Gb{tg e:ag}{te:TE}{g:TG}(he:PE X e te)(hg:PG X tg g)(hs:swapsWithSole [tg] e pos.line X.env=pure false:=by rfl)(hw:swappedStores [tg] e X.env=pure none:=by rfl)
  (h1:(assignEach [tg] X.env).map (·.2)=[assign tg X.env]:=by rfl):PS X (.Assign [tg] e pos) (Fe te g):=by
 intro AM s σ H D I h;refine wpAny_Assign_stores (bC (he AM s σ H _ I h) λv s1 ⟨x,H1,I1,r1,q1⟩=>?_) hs hw;rw[h1];exact bC (hg AM s1 σ H1 x v _ I1 r1 q1) λ_ s2 q=>q
theorem Gq{i:Nat}{x:Str}{e:ag}{te:TE}{pos':ah}(hN:X.N.Nodup)(hi:X.N[i]?=some x)(hx:jP X.env.scope x)(he:PE X e te)(hs:swapsWith e (some (.Name x pos')) pos.line X.env=pure false:=by rfl)(hf:X.fn x=true\/X.env.scope.names.lookup x=some .local:=by first |exact .inl rfl |exact .inr rfl |assumption):
  PS X (.Assign [.Name x pos'] e pos) (Fe te (Kd i)):=by
 intro AM s σ H D I h;refine wpAny_Assign_Name (bC (he AM s σ H _ I h) λv s1 ⟨y,H1,I1,r1,q1⟩=>?_) hs;exact nR I1 hN hi hx r1 (λs2 I2=>⟨_,H1,I2,q1⟩) hf
def abQ(i j:Nat)(ta:TA):TS:=λD σ H=>ta σ H λvs H1=>∃v w,vs=[v,w]/\D.nx ((σ.set i (some v)).set j (some w)) H1
theorem aaE{i j:Nat}{x y:Str}{a b:ag}{ta:TA}{px py pt:ah}{kt k2 pt2}(hc:X.calm=true)(hN:X.N.Nodup)(hi:X.N[i]?=some x)(hj:X.N[j]?=some y)(hij:i≠j)
  (hx:X.env.scope.names.lookup x=some .local)(hy:X.env.scope.names.lookup y=some .local)(ha:PA X [a,b] ta)
  (hw:swappedStores [.Tuple [.Name x px,.Name y py] kt pt] (.Tuple [a,b] k2 pt2) X.env=pure (some [x,y]))
  (hs:swapsWithSole [.Tuple [.Name x px,.Name y py] kt pt] (.Tuple [a,b] k2 pt2) pos.line X.env=pure false:=by rfl):
  PS X (.Assign [.Tuple [.Name x px,.Name y py] kt pt] (.Tuple [a,b] k2 pt2) pos) (abQ i j ta):=by
 intro AM s σ H D I h;rw[exec_Assign_arm];refine ae (ot ?_);rw[hs];refine ae (ai ?_);rw[if_neg (by decide)];refine ae (Tuple_ (bC (ha _ AM s σ H _ I h) λus s1 ⟨vs,H1,I1,r1,q1⟩=>?_));obtain⟨v,w,e1,q1⟩:=q1;subst e1;obtain⟨u1,u2,rfl,rv,rw'⟩:∃u1 u2,us=[u1,u2]/\bK v u1/\bK w u2:=by
  cases r1 with
  |cons p q=>
   cases q with
   |cons p' q'=>
    cases q';exact⟨_,_,rfl,p,p'⟩
 refine ir ?_ (by show 2<=sizeLine;decide);have I2:aF X AM σ H1 {s1 with heap:=s1.heap.push {cls:=.type "tuple",data:=.seq [u1,u2].toArray}}:=I1.kept (t':=s1.toks) λb o e=>av _ e;rw[hw];refine ae (ai ?_);show wpAny (model X.prog X.w) X.A (do rule "assign.swapped-stores";let items <-unpackItems (.ref s1.heap.objs.size) 2 none;assignInOrder [λv=>bindName X.env y v,λv=>bindName X.env x v] items.reverse;pure Flow.next) _ _ _
 refine ae (ou (ae (unpackItems_tuple (items:=#[u1,u2]) (I.ok.hd hc) (qh s1.heap _) λh' hx'=>?_)));have I3:=I2.kept (h':=h') (t':=s1.toks) λb o e=>hx' b o (cw (br e)) e;show wpAny _ _ (assignInOrder [λv=>bindName X.env y v,λv=>bindName X.env x v] [u2,u1] >>= λ_=>pure Flow.next) _ _ _
 refine ae (ud (wpAny_bindName (nR I3 hN hj (.inl hy) rw' (λs2 I4=>?_) (.inr hy))));refine ud (wpAny_bindName (nR I4 hN hi (.inl hx) rv (λs3 I5=>assignInOrder_nil (ai ?_)) (.inr hx)));rw[List.set_comm _ _ (gr hij)]at I5;exact⟨_,H1,I5,q1⟩
def ab7(i:Nat)(te:TE)(ti:xP):TS:=λD σ H=>∃x,σ[i]?=some (some x)/\te σ H λy H1=>ti x y H1 λz H2=>D.nx (σ.set i (some z)) H2
theorem U8{i:Nat}{x:Str}{e:ag}{te:TE}{op:oq}{ti:xP}{pos':ah}(hN:X.N.Nodup)(hi:X.N[i]?=some x)(hx:jP X.env.scope x)(he:PE X e te)(ho:PIp X op ti)(hf:X.fn x=true\/X.env.scope.names.lookup x=some .local:=by first |exact .inl rfl |exact .inr rfl |assumption):
  PS X (.AugAssign (.Name x pos') op e pos) (ab7 i te ti):=by
 intro AM s σ H D I h;obtain⟨v,e1,h⟩:=h;obtain⟨m,hn,hl⟩:=I.loc;have vis:nC X.env.scope x:=by rcases hx with k |k;exact .inl k;exact .inr (.inl k)
 obtain⟨u,r,l⟩:=hl i x v hi e1 vis;refine wpAny_AugAssign_Name ?_;have go:wpAny (model X.prog X.w) X.A (eval e X.env) (λw AT=>wpAny (model X.prog X.w) X.A (inplaceOp op u w) (λr s₃=>wpAny (model X.prog X.w) X.A (storeName X.env x r) (λ_=>SP X AM D .next) X.xe s₃) X.xe AT) X.xe s:=by
  refine bC (he AM s σ H _ I h) λw s1 ⟨y,H1,I1,r1,q1⟩=>?_;refine bC (ho AM s1 σ H1 v y u w _ I1 r r1 q1) λz s2 ⟨zv,H2,I2,r2,q2⟩=>?_;exact nR I2 hN hi hx r2 (λs3 I3=>⟨_,H2,I3,q2⟩) hf
 rcases l with⟨hk,hm⟩|⟨hk,c,hc,hcell⟩
 .exact yu I.ok.kind hk hn hm go
 .rcases hk with hk |hk
  .exact yw I.ok.kind hk hc hcell go
  .rcases hx with k |k
   .have:X.env.scope.names.lookup x=some .free:=hk
    rw[k]at this;cases this
   .have:X.env.scope.names.lookup x=some .free:=hk
    rw[k]at this;cases this
def Oe(f:Int->Int->Int):xP:=λx y H Q=>∃i j,x=.int i/\y=.int j/\Q (.int (f i j)) H
theorem aao:PIp X .Add (Oe λi j=>i+j):=by
 intro AM s σ H x y v u Q I r1 r2 h;obtain⟨i,j,e1,e2,q⟩:=h;subst e1;subst e2;obtain⟨t,rfl⟩:=r1;obtain⟨t',rfl⟩:=r2;exact iadd_int ⟨.int _,H,I.tok _,⟨_,rfl⟩,q⟩
theorem W5:PIp X .Sub (Oe λi j=>i-j):=by
 intro AM s σ H x y v u Q I r1 r2 h;obtain⟨i,j,e1,e2,q⟩:=h;subst e1;subst e2;obtain⟨t,rfl⟩:=r1;obtain⟨t',rfl⟩:=r2;exact isub_int ⟨.int _,H,I.tok _,⟨_,rfl⟩,q⟩
end
section
variable{X:Cx}{pos:ah}
def V7(c:TT)(tb:TS):TS:=λD σ H=>∃W:Nat->St->Hp->Prop,(∃m,W m σ H)/\∀m σ H,W m σ H->
 c σ H λb H1=>if b=true then ∃N:St->Hp->Prop,(∀σ' H',N σ' H'->∃m',m'<m/\W m' σ' H')/\tb {D with nx:=N,ct:=N,bk:=D.nx} σ H1 else D.nx σ H1
theorem E2{c:ag}{body:List Stmt}{tc:TT}{tb:TS}(hp:ow (model X.prog X.w) X.A X.env X.xe)(hc:PT X c tc)(hb:fK X body tb):PS X (.While c body [] pos) (V7 tc tb):=by
 intro AM s σ H D I h;obtain⟨W,⟨m0,w0⟩,turn⟩:=h;refine wpAny_While (codeAny_whileLoop (λn s'=>∃σ' H',aF X AM σ' H' s'/\W n σ' H') ?_ m0 ⟨σ,H,I,w0⟩)
 rintro n s1 ⟨σ1,H1,I1,w1⟩
 refine ky hp (bC (hc AM s1 σ1 H1 _ I1 (turn n σ1 H1 w1)) λb s2 ⟨H2,I2,q2⟩=>?_);cases b with
 |true=>
  obtain⟨N,hN,q2⟩:=q2;rw[if_pos rfl];refine ky hp (bC (hb AM s2 σ1 H2 _ I2 q2) λf s3 q3=>?_);cases f with
  |next=>
   obtain⟨σ3,H3,I3,n3⟩:=q3;obtain⟨m',hm,w3⟩:=hN σ3 H3 n3;exact⟨m',hm,σ3,H3,I3,w3⟩
  |cont=>
   obtain⟨σ3,H3,I3,n3⟩:=q3;obtain⟨m',hm,w3⟩:=hN σ3 H3 n3;exact⟨m',hm,σ3,H3,I3,w3⟩
  |brk=>exact q3
  |ret v=>exact q3
 |false=>
  rw[if_neg jh];exact my ⟨σ1,H2,I2,q2⟩
end
structure It where
 go:Nat->Hp->Prop
 yld:Nat->Hp->V->Hp->Prop
 stop:Nat->Hp->Prop
def fG(X:Cx)(AM:List (Addr×Obj))(H:Hp)(b:Addr):Prop:=
 H b=none/\b≠X.env.locals/\b∉X.fs/\(b∈X.ex\/X.AN.heap.objs.size<=b)/\(∀x c,X.env.cells.lookup x=some c->c≠b)/\∀p∈X.pn++AM,p.1≠b
theorem aF.fpOk{X:Cx}{AM:List (Addr×Obj)}{σ:St}{H H':Hp}{s:aa}{b:Addr}(I:aF X AM σ H s)(hb:s.heap.objs.size<=b)(hn:H' b=none):fG X AM H' b:=by
 refine⟨hn,ng (db I.lt hb),I.nofs hb,.inr (dy I.sz hb),λx c e z=>?_,λp hp z=>?_⟩
 .obtain⟨v,q⟩:=I.cell x c e
  exact absurd (db q.lt (by rw[z];exact hb)) (jc _)
 .exact absurd (db (br (I.pin p hp).1) (by rw[z];exact hb)) (jc _)
structure qT(P:Program)(w:am)(K:af)(tg:ag)(J:It)(fp:List Addr)(it:Addr)(tn:Nat->Heap->Prop):Prop where
 mem:it∈fp
 obj:∀i h,tn i h->∀b∈fp,∃o,h.get? b=some o/\∀v,o.data≠.cell v
 keep:∀i h h',tn i h->(∀b∈fp,∀o,h.get? b=some o->h'.get? b=some o)->tn i h'
 item:∀(X:Cx),X.prog=P->X.w=w->X.K=K->X.calm=true->∀(i:Nat)(AM:List (Addr×Obj))(s:aa)(σ:St)(H:Hp)(E:Value->aa->Prop),aF X AM σ H s->(∀b∈fp,fG X AM H b)->tn i s.heap->J.go i H->
  wpAny (model P w) X.A (pyNext (.ref it)) (λr s1=>∃u,r=some u/\
   wpAny (model P w) X.A (letOwnedTupleGo tg (.ref it) u) (λ_ s2=>∃x H',aF X AM σ H' s2/\bK x u/\J.yld i H x H'/\tn (i+1) s2.heap/\∀b∈fp,H' b=none) E s1) E s
 done:∀(X:Cx),X.prog=P->X.w=w->X.K=K->X.calm=true->∀(i:Nat)(AM:List (Addr×Obj))(s:aa)(σ:St)(H:Hp)(E:Value->aa->Prop),aF X AM σ H s->(∀b∈fp,fG X AM H b)->tn i s.heap->J.stop i H->
  wpAny (model P w) X.A (pyNext (.ref it)) (λr s1=>r=none/\aF X AM σ H s1) E s
 self:∀(A:aq)(i:Nat)(s:aa)(Q:Value->aa->Prop)(E:Value->aa->Prop),tn i s.heap->Q (.ref it) s->wpAny (model P w) A (pyIter (.ref it)) Q E s
abbrev TI:=St->Hp->(It->Hp->Prop)->Prop
def Zs(X:Cx)(AM:List (Addr×Obj))(σ:St)(tg:ag)(R:It->Hp->Prop)(itv:Value)(s2:aa):Prop:=
 ∃(it:Addr)(fp:List Addr)(tn:Nat->Heap->Prop)(J:It)(H':Hp),itv=.ref it/\aF X AM σ H' s2/\qT X.prog X.w X.K tg J fp it tn/\tn 0 s2.heap/\(∀b∈fp,fG X AM H' b)/\R J H'
def PI(X:Cx)(tg iter:ag)(wi:TI):Prop:=
 ∀(AM:List (Addr×Obj))(s:aa)(σ:St)(H:Hp)(R:It->Hp->Prop),aF X AM σ H s->wi σ H R->
  wpAny (model X.prog X.w) X.A (eval iter X.env) (λv s1=>wpAny (model X.prog X.w) X.A (pyIter v) (Zs X AM σ tg R) X.xe s1) X.xe s
theorem Hd {M : kw} {A : aq} {E : Value → aa → Prop} {s : aa} {tg : ag} {it : Addr} {u : Value} {o : Obj} {n : String} {vs : Array Value} {Q : Unit → aa → Prop} (ho : s.heap.get? it = some o) (hc : o.cls = .type n) (hd : o.data = .fields vs)
    (hn : ["enumerate", "zip", "dict_itemiterator", "dict_reverseitemiterator", "odict_iterator", "itertools.zip_longest", "itertools.pairwise"].contains n = false) (hQ : Q () s) : wpAny M A (letOwnedTupleGo tg (.ref it) u) Q E s := by
  unfold letOwnedTupleGo;cases tg <;> first
    | exact ai hQ
    | (cases u <;> first
        | exact ai hQ
        | (refine ae (wpAny_load ho ?_)
           rw [hc, hd];show wpAny M A (if (["enumerate", "zip", "dict_itemiterator", "dict_reverseitemiterator", "odict_iterator", "itertools.zip_longest", "itertools.pairwise"].contains n && vs[0]? == some (rawInt _)) = true then _ else _) Q E s;rw [if_neg (by intro h; rw [hn, Bool.false_and] at h; cases h)];exact ai hQ))
def xM(K:af)(a:Addr):It:=
 ⟨λi H=>∃xs x,bT K H a xs/\xs[i]?=some x,λi H x H'=>H'=H/\∀xs,bT K H a xs->xs[i]?=some x,λi H=>∃xs,bT K H a xs/\xs.length<=i⟩
def We(K:af)(a:Addr):It:=
 ⟨λi H=>∃xs x,dD K H a xs/\xs[i]?=some x,λi H x H'=>H'=H/\∀xs,dD K H a xs->xs[i]?=some x,λi H=>∃xs,dD K H a xs/\xs.length<=i⟩
def tT(lo:Int)(n:Nat):It:=⟨λi _=>i<n,λi H x H'=>H'=H/\x=.int (lo+i),λi _=>n<=i⟩
theorem Zw{P:Program}{w:am}{K:af}{tg:ag}(a it:Addr):qT P w K tg (xM K a) [it] it (λi h=>h.IsListIter it a i) where
 mem:=by simp
 obj:=λi h st b hb=>by
  have e:b=it:=by simpa using hb
  subst e;obtain⟨o,e,c,d⟩:=st;exact⟨o,e,λv z=>by rw[d]at z;cases z⟩
 keep:=λi h h' st k=>st.at λo e=>k it (by simp) o e
 item:=by
  intro X hP hw hK hc i AM s σ H E I hf st hg;subst hP hw hK;obtain⟨xs,x,hq,hx⟩:=hg;obtain⟨its,rv,p,hz⟩:=I.list hq;obtain⟨u,hu,ru⟩:=rv.get hx;obtain⟨f0,f1,f2,f3,f4,f5⟩:=hf it (by simp);refine wpAny_pyNext_list_item st p.isList (x:=u) (by simpa using hu) λh' st' sb=>?_;have I1:aF X AM σ H {s with heap:=h'}:=I.turned (t':=s.toks) (λb o hb e=>(sb.2 b hb).trans e) f0 f1 f3 f4 f5;obtain⟨o,e,c,d⟩:=id st';exact⟨u,rfl,Hd (s:={s with heap:=h'}) e c d (by decide) ⟨x,H,I1,ru,⟨rfl,λys hy=>by rw[I.list_inj hy hq];exact hx⟩,st',λb hb=>(hf b hb).1⟩⟩
 done:=by
  intro X hP hw hK hc i AM s σ H E I hf st hg;subst hP hw hK;obtain⟨xs,hq,hx⟩:=hg;obtain⟨its,rv,p,hz⟩:=I.list hq;obtain⟨f0,f1,f2,f3,f4,f5⟩:=hf it (by simp);have hl:=rv.length;exact wpAny_pyNext_list_end (I.ok.hd hc) st p.isList (by simp;omega) λh' eb=>⟨rfl,I.turned (t':=s.toks) (λb o hb e=>eb b o hb e) f0 f1 f3 f4 f5⟩
 self:=λ_ _ _ _ _ st h=>wpAny_pyIter_listiter st h
theorem Mv{P:Program}{w:am}{K:af}{tg:ag}(a it:Addr):qT P w K tg (We K a) [it] it (λi h=>h.IsTupleIter it a i) where
 mem:=by simp
 obj:=λi h st b hb=>by
  have e:b=it:=by simpa using hb
  subst e;obtain⟨o,e,c,d⟩:=st;exact⟨o,e,λv z=>by rw[d]at z;cases z⟩
 keep:=λi h h' st k=>st.at λo e=>k it (by simp) o e
 item:=by
  intro X hP hw hK hc i AM s σ H E I hf st hg;subst hP hw hK;obtain⟨xs,x,hq,hx⟩:=hg;obtain⟨its,rv,p,hz⟩:=I.tuple hq;obtain⟨u,hu,ru⟩:=rv.get hx;obtain⟨f0,f1,f2,f3,f4,f5⟩:=hf it (by simp);refine wpAny_pyNext_tuple_item st (show s.heap.IsTuple a its.toArray from p) (x:=u) (by simpa using hu) λh' st' sb=>?_;have I1:aF X AM σ H {s with heap:=h'}:=I.turned (t':=s.toks) (λb o hb e=>(sb.2 b hb).trans e) f0 f1 f3 f4 f5;obtain⟨o,e,c,d⟩:=id st';exact⟨u,rfl,Hd (s:={s with heap:=h'}) e c d (by decide) ⟨x,H,I1,ru,⟨rfl,λys hy=>by rw[I.tuple_inj hy hq];exact hx⟩,st',λb hb=>(hf b hb).1⟩⟩
 done:=by
  intro X hP hw hK hc i AM s σ H E I hf st hg;subst hP hw hK;obtain⟨xs,hq,hx⟩:=hg;obtain⟨its,rv,p,hz⟩:=I.tuple hq;obtain⟨f0,f1,f2,f3,f4,f5⟩:=hf it (by simp);have hl:=rv.length;exact wpAny_pyNext_tuple_end (I.ok.hd hc) st (show s.heap.IsTuple a its.toArray from p) (by simp;omega) λh' eb=>⟨rfl,I.turned (t':=s.toks) (λb o hb e=>eb b o hb e) f0 f1 f3 f4 f5⟩
 self:=λ_ _ _ _ _ st h=>wpAny_pyIter_tupleiter st h
theorem Xv{P:Program}{w:am}{K:af}{tg:ag}(it:Addr)(lo:Int)(n:Nat):qT P w K tg (tT lo n) [it] it (λi h=>IsRangeIter h it (lo+(i:Nat)*1) ((n:Int)-(i:Nat)) 1) where
 mem:=by simp
 obj:=λi h st b hb=>by
  have e:b=it:=by simpa using hb
  subst e;exact⟨_,st,λv z=>by
   have z':Data.fields _=Data.cell v:=z;cases z'⟩
 keep:=λi h h' st k=>k it (by simp) _ st
 item:=by
  intro X hP hw hK hc i AM s σ H E I hf st hg;subst hP hw hK;obtain⟨f0,f1,f2,f3,f4,f5⟩:=hf it (by simp);have W:=Walks.range (prog:=X.prog) (w:=X.w) (I.ok.hd hc) it lo 1 n;refine W.item i s _ _ hg st λv h' tk hv st' kk=>?_;obtain⟨t,rfl⟩:=hv;have I1:aF X AM σ H {s with heap:=h',toks:=tk}:=I.turned (λb o hb e=>kk b o (by simpa using hb) e) f0 f1 f3 f4 f5;refine⟨_,rfl,Hd (s:={s with heap:=h',toks:=tk}) (n:="range_iterator") st' rfl rfl (by decide) ⟨.int (lo+i),H,I1,⟨t,?_⟩,⟨rfl,rfl⟩,st',λb hb=>(hf b hb).1⟩⟩;rw[qi]
 done:=by
  intro X hP hw hK hc i AM s σ H E I hf st hg;subst hP hw hK;obtain⟨f0,f1,f2,f3,f4,f5⟩:=hf it (by simp);exact wpAny_pyNext_range_end (I.ok.hd hc) st (by have:n<=i:=hg;omega) λh' eb=>⟨rfl,I.turned (t':=s.toks) (λb o hb e=>eb b o hb e) f0 f1 f3 f4 f5⟩
 self:=λ_ _ _ _ _ st h=>wpAny_pyIter_rangeiter st h
section
variable{X:Cx}{tg:ag}
theorem Xj{AM:List (Addr×Obj)}{σ:St}{H:Hp}{s:aa}{R:It->Hp->Prop}{E:Value->aa->Prop}{lo hi:Int}{t u v:df}{tk:Nat}(I:aF X AM σ H s)(h1:-(2^62)<=lo)(h2:lo<2^62)(h3:-(2^62)<=hi)(h4:hi<2^62)
  (q:R (tT lo (hi-lo).toNat) H):wpAny (model X.prog X.w) X.A (pyIter (.ref s.heap.objs.size)) (Zs X AM σ tg R) E {s with heap:=s.heap.push {cls:=.type "range",data:=.fields #[.int lo t,.int hi u,.int 1 v]},toks:=tk}:=by
 refine wpAny_pyIter_range (IsRange.new ..) (small_one h1 h2 h3 h4) ?_;have I1:aF X AM σ H {s with heap:=s.heap.push {cls:=.type "range",data:=.fields #[.int lo t,.int hi u,.int 1 v]},toks:=tk}:=I.kept λb o e=>av _ e;refine⟨(s.heap.push {cls:=.type "range",data:=.fields #[.int lo t,.int hi u,.int 1 v]}).objs.size,[(s.heap.push {cls:=.type "range",data:=.fields #[.int lo t,.int hi u,.int 1 v]}).objs.size],_,_,H,rfl,
  I1.kept (t':=tk) λb o e=>av _ e,Xv _ lo (hi-lo).toNat,?_,λb hb=>?_,q⟩
 .have e1:lo+((0:Nat):Int)*1=lo:=by simp
  have e2:(((hi-lo).toNat:Nat):Int)-((0:Nat):Int)=Builtin.Range.rangeSize lo hi 1:=by rw[rangeSize_one];split<;>omega
  show IsRangeIter _ _ (lo+((0:Nat):Int)*1) ((((hi-lo).toNat:Nat):Int)-((0:Nat):Int)) 1;rw[e1,e2];exact cy _ rfl
 .have e:b=(s.heap.push {cls:=.type "range",data:=.fields #[.int lo t,.int hi u,.int 1 v]}).objs.size:=by simpa using hb
  subst e;exact I1.fpOk (aj _) (I1.hok.fresh (aj _))
def abB(ta:TA):TI:=λσ H R=>ta σ H λvs H1=>∃j:Int,vs=[.int j]/\-(2^62)<=j/\j<2^62/\R (tT 0 j.toNat) H1
def abH(ta:TA):TI:=λσ H R=>ta σ H λvs H1=>∃i j:Int,vs=[.int i,.int j]/\(-(2^62)<=i/\i<2^62/\-(2^62)<=j/\j<2^62)/\R (tT i (j-i).toNat) H1
theorem Nw{a:ag}{ta:TA}{p pos:ah}(hg:Gl X "range")(hm:X.mg "range"=none)(ha:PA X [a] ta)(hs:starEach [a] X.env=[(false,eval a X.env)]:=by rfl):PI X tg (.Call (.Name "range" p) [a] [] pos) (abB ta):=by
 intro AM s σ H R I h;refine Call_ (pV I hg hm boot_range (ox (bC (ha pos AM s σ H _ I h) λus s1 ⟨vs,H1,I1,r1,q1⟩=>?_) hs rfl));obtain⟨j,e,q1,q2,q⟩:=q1;subst e;cases r1 with
 |cons r rr=>
  cases rr;obtain⟨t,rfl⟩:=r;exact call_range_1 (Xj I1 (by omega) (by omega) q1 q2 (by simpa using q))
theorem Ix{a b:ag}{ta:TA}{p pos:ah}(hg:Gl X "range")(hm:X.mg "range"=none)(ha:PA X [a,b] ta)(hs:starEach [a,b] X.env=[(false,eval a X.env),(false,eval b X.env)]:=by rfl)(hs2:starEach [b] X.env=[(false,eval b X.env)]:=by rfl):
  PI X tg (.Call (.Name "range" p) [a,b] [] pos) (abH ta):=by
 intro AM s σ H R I h;refine Call_ (pV I hg hm boot_range (ox (bC (ha pos AM s σ H _ I h) λus s1 ⟨vs,H1,I1,r1,q1⟩=>?_) (by rw[hs,hs2]) (by rw[hs2];rfl)));obtain⟨i,j,e,⟨q1,q2,q3,q4⟩,q⟩:=q1;subst e;cases r1 with
 |cons r rr=>
  cases rr with
  |cons r' rr=>
   cases rr;obtain⟨t,rfl⟩:=r;obtain⟨t',rfl⟩:=r';exact call_range_2 (Xj I1 q1 q2 q3 q4 q)
def ace(wi:TI)(g:TG)(tb:TS):TS:=λD σ H=>wi σ H λJ H1=>∃W:Nat->Nat->St->Hp->Prop,(∃m,W 0 m σ H1)/\∀i m σ H,W i m σ H->
 (J.stop i H/\D.nx σ H)\/(J.go i H/\∃N:St->Hp->Prop,(∀σ' H',N σ' H'->∃m',m'<m/\W (i+1) m' σ' H')/\∀x H',J.yld i H x H'->g x σ H' λσ2 H2=>tb {D with nx:=N,ct:=N,bk:=D.nx} σ2 H2)
def vY(fp:List Addr)(h:Heap):List (Addr×Obj):=fp.filterMap λb=>(h.get? b).map λo=>(b,o)
theorem kT{fp:List Addr}{h:Heap}{b:Addr}{o:Obj}(hb:b∈fp)(e:h.get? b=some o):(b,o)∈vY fp h:=ue.mpr ⟨b,hb,by rw[e];rfl⟩
theorem Ox{fp:List Addr}{h:Heap}{p:Addr×Obj}(hp:p∈vY fp h):p.1∈fp/\h.get? p.1=some p.2:=by
 obtain⟨b,hb,e⟩:=ue.mp hp;cases q:h.get? b with
 |none=>rw[q]at e;cases e
 |some o=>
  rw[q]at e;have e':(b,o)=p:=cg e;subst e';exact⟨hb,q⟩
theorem aF.pinned{AM:List (Addr×Obj)}{σ:St}{H:Hp}{s:aa}{fp:List Addr}(I:aF X AM σ H s)(hf:∀b∈fp,fG X AM H b)(ho:∀b∈fp,∃o,s.heap.get? b=some o/\∀v,o.data≠.cell v):aF X (AM++vY fp s.heap) σ H s:=
 I.pins_of λp hp=>(cq.mp hp).elim (λz=>I.pin p (cu _ z)) λz=>by
  obtain⟨hb,e⟩:=Ox z;obtain⟨f0,f1,f2,_⟩:=hf p.1 hb;obtain⟨o,e',d⟩:=ho p.1 hb;rw[e]at e';cases e';exact⟨e,f0,f1,f2,d⟩
theorem aF.unpinned{AM pl:List (Addr×Obj)}{σ:St}{H:Hp}{s:aa}(I:aF X (AM++pl) σ H s):aF X AM σ H s:=I.pins_of λp hp=>I.pin p (cu _ (ku _ hp))
theorem Ho{iter:ag}{body:List Stmt}{wi:TI}{g:TG}{tb:TS}{pos:ah}(hp:ow (model X.prog X.w) X.A X.env X.xe)(hc:X.calm=true)(hi:PI X tg iter wi)(hg:PG X tg g)(hb:fK X body tb)
  (hs:∀x,foldedSetIterable iter X.env x=pure x:=by intro _;rfl):PS X (.For tg iter body [] pos) (ace wi g tb):=by
 intro AM s σ H D I h;refine wpAny_For (bC (hi AM s σ H _ I h) λv s1 h1=>bC h1 λitv s2 h2=>?_) hs;obtain⟨it,fp,tn,J,H2,e,I2,T,st2,f2,W,⟨m0,w0⟩,turn⟩:=h2;subst e
 --what stays true of the iterator's objects through the loop
 have stat:∀{H':Hp},(∀b∈fp,H' b=none)->∀b∈fp,fG X AM H' b:=λhn b hb=>⟨hn b hb,(f2 b hb).2⟩;refine codeAny_forLoop_any (λn s'=>∃i σ' H',aF X AM σ' H' s'/\tn i s'.heap/\(∀b∈fp,H' b=none)/\W i n σ' H') ?_ m0 ⟨0,σ,H2,I2,st2,λb hb=>(f2 b hb).1,w0⟩
 rintro n s3 ⟨i,σ3,H3,I3,st3,fr3,w3⟩
 rcases turn i n σ3 H3 w3 with⟨stop,qn⟩|⟨go,N,hN,step⟩
 .refine ky hp (bC (T.done X rfl rfl rfl hc i AM s3 σ3 H3 X.xe I3 (stat fr3) st3 stop) λr s4 ⟨hr,I4⟩=>?_)
  subst hr;exact my ⟨σ3,H3,I4,qn⟩
 .refine ky hp (bC (T.item X rfl rfl rfl hc i AM s3 σ3 H3 X.xe I3 (stat fr3) st3 go) λr s4 ⟨u,hr,h4⟩=>?_)
  subst hr;refine ky hp (bC h4 λ_ s5 ⟨x,H5,I5,r5,y5,st5,fr5⟩=>?_);have I5':=I5.pinned (stat fr5) (T.obj _ _ st5);refine ky hp (bC (hg _ s5 σ3 H5 x u _ I5' r5 (step x H5 y5)) λ_ s6 ⟨σ6,H6,I6,q6⟩=>?_);refine ky hp (bC (hb _ s6 σ6 H6 _ I6 q6) λf s7 q7=>?_);have again:∀{σ7:St}{H7:Hp},aF X (AM++vY fp s5.heap) σ7 H7 s7->N σ7 H7->∃m,m<n/\∃i σ' H',aF X AM σ' H' s7/\tn i s7.heap/\(∀b∈fp,H' b=none)/\W i m σ' H':=λ{σ7 H7} I7 n7=>by
   obtain⟨m',hm,w7⟩:=hN σ7 H7 n7;refine⟨m',hm,i+1,σ7,H7,I7.unpinned,T.keep _ _ _ st5 λb hb o e=>(I7.pin (b,o) (cu _ (cu _ (kT hb e)))).1,λb hb=>?_,w7⟩;obtain⟨o,e,d⟩:=T.obj _ _ st5 b hb;exact(I7.pin (b,o) (cu _ (cu _ (kT hb e)))).2.1
  cases f with
  |next=>obtain⟨σ7,H7,I7,n7⟩:=q7;exact again I7 n7
  |cont=>obtain⟨σ7,H7,I7,n7⟩:=q7;exact again I7 n7
  |brk=>obtain⟨σ7,H7,I7,q7⟩:=q7;exact⟨σ7,H7,I7.unpinned,q7⟩
  |ret v=>obtain⟨x7,σ7,H7,I7,r7,q7⟩:=q7;exact⟨x7,σ7,H7,I7.unpinned,r7,q7⟩
end
abbrev R2:=V->V->Hp->VK->Prop
def dY(X:Cx)(f:Value->Value->Sem Value)(r:R2):Prop:=
 ∀(AM:List (Addr×Obj))(s:aa)(σ:St)(H:Hp)(x y:V)(v u:Value)(Q:VK),aF X AM σ H s->bK x v->bK y u->r x y H Q->
  wpAny (model X.prog X.w) X.A (f v u) (EP X AM σ Q) X.xe s
def xT(X:Cx)(f:Value->Sem Value)(r:V->Hp->VK->Prop):Prop:=
 ∀(AM:List (Addr×Obj))(s:aa)(σ:St)(H:Hp)(x:V)(v:Value)(Q:VK),aF X AM σ H s->bK x v->r x H Q->
  wpAny (model X.prog X.w) X.A (f v) (EP X AM σ Q) X.xe s
def jI(X:Cx)(f:Value)(r:List V->Hp->VK->Prop):Prop:=
 ∀(AM:List (Addr×Obj))(s:aa)(σ:St)(H:Hp)(xs:List V)(us:AE)(Q:VK),aF X AM σ H s->aZ xs us->r xs H Q->
  wpAny (model X.prog X.w) X.A (call f us) (EP X AM σ Q) X.xe s
def acp(X:Cx)(r:V->Hp->(Bool->Hp->Prop)->Prop):Prop:=
 ∀(AM:List (Addr×Obj))(s:aa)(σ:St)(H:Hp)(x:V)(v:Value)(Q:Bool->Hp->Prop),aF X AM σ H s->bK x v->r x H Q->
  wpAny (model X.prog X.w) X.A (truthy v) (TP X AM σ Q) X.xe s
def xQ(r:R2)(ta tb:TE):TE:=λσ H Q=>ta σ H λx H1=>tb σ H1 λy H2=>r x y H2 Q
def tUn(r:V->Hp->VK->Prop)(ta:TE):TE:=λσ H Q=>ta σ H λx H1=>r x H1 Q
def rI(C:Int->Int->Prop)(g:Int->Int->V):R2:=λx y H Q=>∃i j,x=.int i/\y=.int j/\C i j/\Q (g i j) H
def jR(g:Int->Int->V):R2:=λx y H Q=>∃i j,x=.int i/\y=.int j/\Q (g i j) H
def rU(g:Int->V):V->Hp->VK->Prop:=λx H Q=>∃i,x=.int i/\Q (g i) H
section
variable{X:Cx}{a b c:ag}{ta tb tc:TE}{pos:ah}
theorem Ce(ha:PE X a ta)(hb:PE X b tb){AM:List (Addr×Obj)}{s:aa}{σ:St}{H:Hp}{R:V->V->Hp->Prop}(I:aF X AM σ H s)
  (h:ta σ H λx H1=>tb σ H1 λy H2=>R x y H2){Q:Value->aa->Prop}{f:Value->Value->Sem Value}
  (hf:∀v u s2 x y H2,aF X AM σ H2 s2->bK x v->bK y u->R x y H2->wpAny (model X.prog X.w) X.A (f v u) Q X.xe s2):
  wpAny (model X.prog X.w) X.A (eval a X.env) (λv AQ=>wpAny (model X.prog X.w) X.A (eval b X.env) (λu AT=>wpAny (model X.prog X.w) X.A (f v u) Q X.xe AT) X.xe AQ) X.xe s:=by
 refine bC (ha AM s σ H _ I h) λv s1 ⟨x,H1,I1,r1,q1⟩=>?_;refine bC (hb AM s1 σ H1 _ I1 q1) λu s2 ⟨y,H2,I2,r2,q2⟩=>?_;exact hf v u s2 x y H2 I2 r1 r2 q2
theorem Sd{op:oq}{r:R2}(ho:dY X (binaryOp op) r)(ha:PE X a ta)(hb:PE X b tb):PE X (.BinOp a op b pos) (xQ r ta tb):=by
 intro AM s σ H Q I h;exact wpAny_BinOp (Ce ha hb I h λv u s2 x y H2 I2 rx ry q=>ho AM s2 σ H2 x y v u Q I2 rx ry q)
theorem Yr{op:UnaryOp}{r:V->Hp->VK->Prop}(ho:xT X (unaryOp op) r)(ha:PE X a ta):PE X (.UnaryOp op a pos) (tUn r ta):=by
 intro AM s σ H Q I h;exact UnaryOp_ (bC (ha AM s σ H _ I h) λv s1 ⟨x,H1,I1,r1,q1⟩=>ho AM s1 σ H1 x v Q I1 r1 q1)
theorem xO{f:Value->Value->Sem Value}{C:Int->Int->Prop}{g:Int->Int->Int}
  (rule:∀(i j:Int)(t u:df)(s:aa)(Q:Value->aa->Prop)(E:Value->aa->Prop),C i j->Q (.int (g i j) s.toks) {s with toks:=s.toks+1}->wpAny (model X.prog X.w) X.A (f (.int i t) (.int j u)) Q E s):
  dY X f (rI C λi j=>.int (g i j)):=by
 intro AM s σ H x y v u Q I rx ry h;obtain⟨i,j,rfl,rfl,hc,q⟩:=h;obtain⟨t,rfl⟩:=rx;obtain⟨t',rfl⟩:=ry;exact rule i j t t' s _ _ hc ⟨.int (g i j),H,I.tok _,⟨_,rfl⟩,q⟩
theorem Ws{f:Value->Value->Sem Value}{g:Int->Int->Int}
  (rule:∀(i j:Int)(t u:df)(s:aa)(Q:Value->aa->Prop)(E:Value->aa->Prop),Q (.int (g i j) s.toks) {s with toks:=s.toks+1}->wpAny (model X.prog X.w) X.A (f (.int i t) (.int j u)) Q E s):
  dY X f (jR λi j=>.int (g i j)):=by
 intro AM s σ H x y v u Q I rx ry h;obtain⟨i,j,rfl,rfl,q⟩:=h;obtain⟨t,rfl⟩:=rx;obtain⟨t',rfl⟩:=ry;exact rule i j t t' s _ _ ⟨.int (g i j),H,I.tok _,⟨_,rfl⟩,q⟩
theorem Yd{f:Value->Value->Sem Value}{g:Int->Int->Bool}
  (rule:∀(i j:Int)(t u:df)(s:aa)(Q:Value->aa->Prop)(E:Value->aa->Prop),Q (.bool (g i j)) s->wpAny (model X.prog X.w) X.A (f (.int i t) (.int j u)) Q E s):
  dY X f (jR λi j=>.bl (g i j)):=by
 intro AM s σ H x y v u Q I rx ry h;obtain⟨i,j,rfl,rfl,q⟩:=h;obtain⟨t,rfl⟩:=rx;obtain⟨t',rfl⟩:=ry;exact rule i j t t' s _ _ ⟨.bl (g i j),H,I,rfl,q⟩
def xG(i j:Int):Prop:=0<=j/\j<=1000000/\i.natAbs<2^64
def De(i j:Int):Prop:=(-(2^64)<i/\i<2^64)\/(-(2^64)<j/\j<2^64)
theorem De.ok{i j:Int}(h:De i j):IntMulOk i j:=by
 rcases h with⟨h1,h2⟩|⟨h1,h2⟩
 .exact .of_left (intBits_le_64 h1 h2)
 .exact .of_right (intBits_le_64 h1 h2)
theorem aaf:dY X (binaryOp .Add) (jR λi j=>.int (i+j)):=Ws λ_ _ _ _ _ _ _ q=>add_int q
theorem Fo:dY X (binaryOp .Sub) (jR λi j=>.int (i-j)):=Ws λ_ _ _ _ _ _ _ q=>sub_int q
theorem F6:dY X (binaryOp .Mod) (rI (λ_ j=>j≠0) λi j=>.int (i.fmod j)):=xO λ_ _ _ _ _ _ _ hc q=>mod_int' hc q
theorem Y5:dY X (binaryOp .Pow) (rI xG λi j=>.int (i^j.toNat)):=xO λ_ _ _ _ _ _ _ hc q=>pow_int_small hc.1 hc.2.1 hc.2.2 q
theorem unI{f:Value->Sem Value}{g:Int->Int}
  (rule:∀(i:Int)(t:df)(s:aa)(Q:Value->aa->Prop)(E:Value->aa->Prop),Q (.int (g i) s.toks) {s with toks:=s.toks+1}->wpAny (model X.prog X.w) X.A (f (.int i t)) Q E s):
  xT X f (rU λi=>.int (g i)):=by
 intro AM s σ H x v Q I rx h;obtain⟨i,rfl,q⟩:=h;obtain⟨t,rfl⟩:=rx;exact rule i t s _ _ ⟨.int (g i),H,I.tok _,⟨_,rfl⟩,q⟩
theorem Yp:xT X (unaryOp .USub) (rU λi=>.int (-i)):=unI λ_ _ _ _ _ q=>neg_int q
end
section
variable{X:Cx}{a b c:ag}{ta tb tc:TE}{pos:ah}
theorem Qr:dY X (compareOp .Lt) (jR λi j=>.bl (decide (i<j))):=Yd λ_ _ _ _ _ _ _ q=>lt_int q
theorem Pr:dY X (compareOp .Gt) (jR λi j=>.bl (decide (j<i))):=Yd λ_ _ _ _ _ _ _ q=>gt_int q
theorem Hr:dY X (compareOp .GtE) (jR λi j=>.bl (decide (j<=i))):=Yd λ_ _ _ _ _ _ _ q=>ge_int q
theorem dY.or{f:Value->Value->Sem Value}{r r':R2}(h:dY X f r)(h':dY X f r'):dY X f (λx y H Q=>r x y H Q\/r' x y H Q):=by
 intro AM s σ H x y v u Q I rx ry q;rcases q with q |q
 .exact h AM s σ H x y v u Q I rx ry q
 .exact h' AM s σ H x y v u Q I rx ry q
theorem iT(b:ag){op:kj}(h:op≠.In:=by decide)(h2:op≠.NotIn:=by decide):behindInMarks op b=false:=by
 have e1:(op==CmpOp.In)=false:=by cases op<;>first |rfl |exact absurd rfl h
 have e2:(op==CmpOp.NotIn)=false:=by cases op<;>first |rfl |exact absurd rfl h2
 cases b<;>simp[behindInMarks,e1,e2]
theorem L8{op:kj}{r:R2}(ho:dY X (compareOp op) r)(ha:PE X a ta)(hb:PE X b tb)(hm:behindInMarks op b=false):PE X (.Compare a [op] [b] pos) (xQ r ta tb):=by
 intro AM s σ H Q I h;exact wpAny_Compare1 (Ce ha hb I h λv u s2 x y H2 I2 rx ry q=>ho AM s2 σ H2 x y v u Q I2 rx ry q) hm
def abh(t:TE):TT:=λσ H Q=>t σ H λx H'=>∃k,x=.bl k/\Q k H'
theorem N8{op:kj}{r:R2}(ho:dY X (compareOp op) r)(ha:PE X a ta)(hb:PE X b tb)(hm:behindInMarks op b=false):PT X (.Compare a [op] [b] pos) (abh (xQ r ta tb)):=by
 intro AM s σ H Q I h;refine yy (bC (ha AM s σ H _ I h) λv s1 ⟨x,H1,I1,r1,q1⟩=>bC (hb AM s1 σ H1 _ I1 q1) λu s2 ⟨y,H2,I2,r2,q2⟩=>
  bC (ho AM s2 σ H2 x y v u _ I2 r1 r2 q2) λc s3 ⟨z,H3,I3,r3,k,e,q3⟩=>?_) hm
 subst e;cases r3;exact qg ⟨H3,I3,q3⟩
def Cs(K:af)(x:V)(H:Hp)(k:Bool):Prop:=
 match x with
 |.non=>k=false
 |.bl b=>k=b
 |.int i=>k=(i !=0)
 |.str y=>y.length<=sizeLine/\k=((y.length:Int) !=0)
 |.byt y=>y.size<=sizeLine/\k=((y.size:Int) !=0)
 |.ref p=>(∃xs,bT K H p xs/\k=!xs.isEmpty)\/(∃xs,dD K H p xs/\k=!xs.isEmpty)\/∃kvs,H p=some (.dK kvs)/\k=!kvs.isEmpty
 |_=>False
theorem Zu{κ:Type}{kvs:List (κ×V)}{vs:List (κ×Value)}(r:KV kvs vs):(!vs.isEmpty)=!kvs.isEmpty:=by
 cases r<;>rfl
theorem Ig{xs:List V}{its:AE}(r:aZ xs its):(!its.toArray.isEmpty)=!xs.isEmpty:=by
 cases r<;>simp
theorem qF:(sizeLine:Nat)<2^63:=by rw[jx];decide
theorem Z5:acp X (λx H Q=>∃k,Cs X.K x H k/\Q k H):=by
 intro AM s σ H x v Q I rx h;obtain⟨k,e,q⟩:=h;have hl:=qF;have hs:sizeLine=16777216:=jx;cases x with
 |non=>
  cases rx;have e':k=false:=e;subst e';exact truthy_none ⟨H,I,q⟩
 |bl b=>
  cases rx;have e':k=b:=e;subst e';exact qg ⟨H,I,q⟩
 |int i=>
  obtain⟨t,rfl⟩:=rx;have e':k=(i !=0):=e;subst e';exact yz ⟨H,I,q⟩
 |str y=>
  obtain⟨t,rfl⟩:=rx;obtain⟨hy,e'⟩:y.length<=sizeLine/\k=((y.length:Int) !=0):=e;subst e';exact PySem.P.truthy_str (by omega) ⟨H,I.tok _,q⟩
 |byt y=>
  obtain⟨t,rfl⟩:=rx;obtain⟨hy,e'⟩:y.size<=sizeLine/\k=((y.size:Int) !=0):=e;subst e';exact PySem.W.truthy_bytes (by omega) ⟨H,I.tok _,q⟩
 |ref p=>
  cases rx;have e':(∃xs,bT X.K H p xs/\k=!xs.isEmpty)\/(∃xs,dD X.K H p xs/\k=!xs.isEmpty)\/∃kvs,H p=some (.dK kvs)/\k=!kvs.isEmpty:=e;rcases e' with⟨xs,hx,e'⟩|⟨xs,hx,e'⟩|⟨kvs,hx,e'⟩
  .subst e'
   obtain⟨its,r,pl,hz⟩:=I.list hx;have hlen:=r.length;exact wpAny_truthy_list pl.isList (by simp only[ax];omega) ⟨H,I.tok _,by rw[Ig r];exact q⟩
  .subst e'
   obtain⟨its,r,pl,hz⟩:=I.tuple hx;have hlen:=r.length;exact truthy_tuple pl (by simp only[ax];omega) ⟨H,I.tok _,by rw[Ig r];exact q⟩
  .subst e'
   obtain⟨hz,hS,vs,r,m⟩:kvs.length<=sizeLine/\(p==sysModules)=false/\∃vs,KV kvs vs/\s.heap.DictOf (Ga X.prog X.w) p vs:=I.hok p _ hx;have hlen:kvs.length=vs.length:=yp r;exact wpAny_truthy_dict hS m (by omega) ⟨H,I.tok _,by rw[Zu r];exact q⟩
 |_=>exact(show False from e).elim
theorem D0(ha:PE X a ta)(he:∀whole,isTrue a X.env whole=(do let v <-whole;standAt a.pos;holding [v] (truthy v))):
  PT X a (λσ H Q=>ta σ H λx H'=>∃k,Cs X.K x H' k/\Q k H'):=by
 intro AM s σ H Q I h;exact isTrue_plain (bC (ha AM s σ H _ I h) λv s1 ⟨x,H1,I1,r1,q1⟩=>Z5 AM s1 σ H1 x v Q I1 r1 q1) (he _)
theorem kK{x:V}{us:AE}(r:aZ [x] us):∃u,us=[u]/\bK x u:=by
 cases r with
 |cons r1 r2=>cases r2;exact⟨_,rfl,r1⟩
theorem aa8{x y:V}{us:AE}(r:aZ [x,y] us):∃u w',us=[u,w']/\bK x u/\bK y w':=by
 cases r with
 |cons r1 r2=>
  cases r2 with
  |cons r3 r4=>cases r4;exact⟨_,_,rfl,r1,r3⟩
theorem A4:jI X (.builtin "abs") (λxs H Q=>∃i,xs=[.int i]/\Q (.int (if i<0 then-i else i)) H):=by
 intro AM s σ H xs us Q I r h;obtain⟨i,rfl,q⟩:=h;obtain⟨u,rfl,t,rfl⟩:=kK r;exact call_abs_int λu tk=>⟨.int (if i<0 then-i else i),H,I.tok _,⟨_,rfl⟩,q⟩
theorem Uw:jI X (.type "int") (λxs H Q=>(∃i,xs=[.int i]/\Q (.int i) H)\/∃k,xs=[.bl k]/\Q (.int (if k then 1 else 0)) H):=by
 intro AM s σ H xs us Q I r h;rcases h with⟨i,rfl,q⟩|⟨k,rfl,q⟩
 .obtain⟨u,rfl,t,rfl⟩:=kK r
  exact call_int_int ⟨.int i,H,I,⟨_,rfl⟩,q⟩
 .obtain⟨u,rfl,r1⟩:=kK r
  cases r1;exact call_int_bool ⟨.int (if k then 1 else 0),H,I.tok _,⟨_,rfl⟩,q⟩
end
section
variable{prog:Program}{w:am}{A:aq}{E:Value->aa->Prop}{s:aa}{K:af}{x dx C f:Addr}{mA:Str->AF}{name:Str}{v:Value}
end
section
variable{P:Program}{w:am}{H H':Hp}{h h':Heap}{a C dx:Addr}{fs fs':List (Str×V)}
end
structure eG(K:af)(C:Addr)(f:Str)(v:V)(u:Value):Prop where
 at_:PySem.W.findIn K (.ref C) f=some (some u)
 rel:bK v u
 get:PySem.W.specialIn K u "__get__"=some none
 cp:PySem.W.copiedNames.contains f=false
section
variable{X:Cx}{AM:List (Addr×Obj)}{σ:St}{H:Hp}{s:aa}{a C dx:Addr}{fs:List (Str×V)}{f:Str}{v:V}{A:aq}{E:Value->aa->Prop}
end
section
variable{X:Cx}{o e value:ag}{f:Str}{pos pos' tpos:ah}{ta tv:TE}
end
section
variable{X:Cx}{AM:List (Addr×Obj)}{σ:St}{H:Hp}{s:aa}{A:aq}{E:Value->aa->Prop}{Q:Value->aa->Prop}{c:Value}{b:Bool}
end
structure dI(k:Nat)(A:aq):Prop where
 hd:A.handled=none
 dp:A.depth+3*k+5<recursionLimit
 un:A.units+16*k+200<cLine
theorem dI.mono{j k:Nat}{A:aq}(r:dI k A)(h:j<=k):dI j A:=⟨r.hd,by have:=r.dp;omega,by have:=r.un;omega⟩
theorem dI.deeper{k:Nat}{A:aq}(r:dI (k+1) A)(env:az):dI k (A.deeper env):=
 ⟨r.hd,by have:=r.dp;show A.depth+1+3*k+5<_;omega,by have:=r.un;show A.units+3+16*k+200<_;omega⟩
theorem dI.depth{k:Nat}{A:aq}(r:dI k A):A.depth<recursionLimit:=by have:=r.dp;omega
theorem dI.units{k:Nat}{A:aq}(r:dI k A):A.units+64<cLine:=by have:=r.un;omega
def acr:TA:=λ_ H Q=>Q [] H
def aa1(ta:TE)(tr:TA):TA:=λσ H Q=>ta σ H λx H1=>tr σ H1 λxs H2=>Q (x::xs) H2
section
variable{X:Cx}{e:ag}{es:List ag}{te:TE}{t:TA}{pos:ah}
theorem sN:PA X [] acr:=λ_ _ _ _ H Q I h=>Calls.spliced_nil ⟨[],H,I,.nil,h⟩
theorem sE(ha:PE X e te)(hr:PA X es t)(hs:starEach (e::es) X.env=(false,eval e X.env)::starEach es X.env:=by rfl):PA X (e::es) (aa1 te t):=by
 intro pos AM s σ H Q I h;rw[hs];show wpAny _ _ (spliced ((false,eval e X.env)::backTo pos (starEach es X.env))) _ _ s;refine Calls.spliced_cons (bC (ha AM s σ H _ I h) λu s1 ⟨x,H1,I1,r1,q1⟩=>?_);exact bC (hr pos AM s1 σ H1 _ I1 q1) λus s2 ⟨xs,H2,I2,r2,q2⟩=>⟨x::xs,H2,I2,.cons r1 r2,q2⟩
def abW(t:TA):TE:=λσ H Q=>t σ H λxs H1=>xs.length<=sizeLine/\∀p,H1 p=none->Q (.ref p) (aV H1 p (.tup xs))
def acb(t:TA):TE:=λσ H Q=>t σ H λxs H1=>xs.length<=sizeLine/\∀p,H1 p=none->Q (.ref p) (aV H1 p (.lst xs))
theorem aaL{x1}(h:PA X es t):PE X (.Tuple es x1 pos) (abW t):=by
 intro AM s σ H Q I hq;refine wpAny_Tuple_spliced (bC (h pos AM s σ H _ I hq) λus s1 ⟨xs,H1,I1,r,z,q⟩=>⟨by rw[<-r.length];exact z,?_⟩);have hf:H1 s1.heap.objs.size=none:=I1.hok.fresh (aj _);refine⟨.ref s1.heap.objs.size,aV H1 s1.heap.objs.size (.tup xs),I1.laid (t':=s1.toks) (λb u e=>av _ e) (aj _) ?_,rfl,q _ hf⟩;exact⟨z,us,r,⟨_,cy _ rfl,rfl,_,rfl⟩⟩
theorem Jc(h:PA X es t):PE X (.List es pos) (acb t):=by
 intro AM s σ H Q I hq;refine wpAny_List_spliced (bC (h pos AM s σ H _ I hq) λus s1 ⟨xs,H1,I1,r,z,q⟩=>⟨by rw[<-r.length];exact z,?_⟩);have hf:H1 s1.heap.objs.size=none:=I1.hok.fresh (aj _);refine⟨.ref s1.heap.objs.size,aV H1 s1.heap.objs.size (.lst xs),I1.laid (t':=s1.toks) (λb u e=>av _ e) (aj _) ?_,rfl,q _ hf⟩;exact⟨z,us,0,r,cy _ rfl⟩
end
abbrev Sp:=List V->Hp->VK->XK->Prop
abbrev jA:=List az->Hp->aa->XK->Value->aa->Prop
structure wT(P:Program)(w:am)(K:af)(mg:Str->AF)(base:Heap)(A:aq)(outer:List az)(s:aa)(H:Hp):Prop where
 frames:A.frames=some outer
 mod:Mod K mg base
 bs:∀b o,base.get? b=some o->s.heap.get? b=some o/\H b=none
 bsz:base.objs.size<=s.heap.objs.size
 funs:s.heap.FunFrames base outer
 frf:∀b∈dS outer,H b=none
 hok:eZ P w H s.heap
 bare:jg s.gens
def CE(outer:List az)(P:Program)(w:am)(H:Hp)(s:aa)(Q:VK)(u:Value)(s':aa):Prop:=
 ∃v H',s'.os=s.os/\jg s'.gens/\Un (dS outer) [] H H' s.heap s'.heap/\eZ P w H' s'.heap/\bK v u/\Q v H'
def CR(CX:jA)(outer:List az)(P:Program)(w:am)(H:Hp)(s:aa)(Q:VK)(E:XK)(r:oy)(s':aa):Prop:=
 match r with
 |.ok (.ret u)=>CE outer P w H s Q u s'
 |.ok _=>False
 |.error e=>CX outer H s E e s'
structure dX(P:Program)(w:am)(K:af)(mg:Str->AF)(base:Heap)(CX:jA)(k:Nat)(f:Addr)(fd:cf)(ps:List Str)(sp:Sp):Prop where
 len:∀vs H Q E,sp vs H Q E->vs.length=ps.length
 run:∀(A:aq)(outer:List az)(s:aa)(H:Hp)(args:Args)(us:AE)(vs:List V)(Q:VK)(E:XK),dI k A->wT P w K mg base A outer s H->nh s fd args (ps.zip us)->aZ vs us->sp vs H Q E->
  codeAny (model P w) A (.call (.ref f) args) (CR CX outer P w H s Q E) s
theorem dX.imp{P:Program}{w:am}{K:af}{mg:Str->AF}{base:Heap}{CX:jA}{k:Nat}{f:Addr}{fd:cf}{ps:List Str}{sp sp':Sp}(F:dX P w K mg base CX k f fd ps sp)
  (h:∀vs H Q E,sp' vs H Q E->sp vs H Q E):dX P w K mg base CX k f fd ps sp':=
 ⟨λvs H Q E q=>F.len vs H Q E (h _ _ _ _ q),λA outer s H args us vs Q E hr he hb hv hs=>F.run A outer s H args us vs Q E hr he hb hv (h _ _ _ _ hs)⟩
section
variable{X:Cx}{AM:List (Addr×Obj)}{σ:St}{H:Hp}{s s':aa}
theorem aF.env0(I:aF X AM σ H s):wT X.prog X.w X.K X.mg X.base X.A X.stack s H:=
 ⟨I.ok.frames,I.ok.mod,I.bs,dy I.ok.bsz I.sz,I.stack,I.stkFree,I.hok,I.bare⟩
theorem aF.after{Q:VK}{u:Value}(I:aF X AM σ H s)(h:CE X.stack X.prog X.w H s Q u s'):EP X AM σ Q u s':=by
 obtain⟨v,H',os,bare,un,hok,r,q⟩:=h;obtain⟨hh,g,d,t,os'⟩:=s';obtain rfl:os'=s.os:=os;exact⟨v,H',I.call (h':=hh) (g':=g) (d':=d) (t':=t) (ch:=[]) un hok bare (λb z=>absurd z (by simp)),r,q⟩
end
def abF(sp:Sp)(dvs:List V)(E:XK)(t:TA):TE:=λσ H Q=>t σ H λvs H1=>sp (vs++dvs) H1 Q E
def gR(K:af)(fd:cf)(ps:List Str)(ds:AE):Prop:=
 ∀(s:aa)(us:AE),K.In s.heap->(us++ds).length=ps.length->nh s fd ⟨us,[]⟩ (ps.zip (us++ds))
theorem gR.all{K:af}{fd:cf}{ps:List Str}(h:∀us:AE,us.length=ps.length->bindArgs fd ⟨us,[]⟩=pure (ps.zip us)):gR K fd ps []:=λs us _ hl=>by
 rw[gv]at hl⊢;exact .of_eq (h us hl)
def Dc(CX:jA)(X:Cx)(E:XK):Prop:=∀(AM:List (Addr×Obj))(σ:St)(H:Hp)(s:aa)(e:Value)(s':aa),aF X AM σ H s->CX X.stack H s E e s'->X.xe e s'
section
variable{X:Cx}{CX:jA}{k:Nat}{f C:Addr}{fd:cf}{ps:List Str}{sp:Sp}{dvs:List V}{ds:AE}{E:XK}{x m:Str}{p pos apos:ah}{e o:ag}{es:List ag}{ta:TE}{t:TA}
theorem W6{AM:List (Addr×Obj)}{σ:St}{H:Hp}{s:aa}{Q:VK}{us:AE}{vs:List V}(F:dX X.prog X.w X.K X.mg X.base CX k f fd ps sp)(hr:dI k X.A)(hb:gR X.K fd ps ds)(hd:aZ dvs ds)(hx:Dc CX X E)
  (I:aF X AM σ H s)(r:aZ vs us)(h:sp (vs++dvs) H Q E):wpAny (model X.prog X.w) X.A (call (.ref f) us) (EP X AM σ Q) X.xe s:=by
 have r2:aZ (vs++dvs) (us++ds):=r.append hd;have hl:(us++ds).length=ps.length:=by rw[<-r2.length];exact F.len _ _ _ _ h
 refine wpAny_call (oz (F.run X.A X.stack s H ⟨us,[]⟩ (us++ds) (vs++dvs) Q E hr I.env0 (hb s us I.kIn hl) r2 h) λr s' hq=>?_);cases r with
 |error e=>exact hx AM σ H s e s' I hq
 |ok fl=>
  cases fl with
  |ret u=>exact I.after hq
  |next=>exact io hq
  |brk=>exact io hq
  |cont=>exact io hq
theorem vH(F:dX X.prog X.w X.K X.mg X.base CX k f fd ps sp)(hr:dI k X.A)(hg:Gl X x)(hm:X.mg x=some (.ref f))(hk:ee X.K (.ref f)=true)(hb:gR X.K fd ps ds)(hd:aZ dvs ds)(hx:Dc CX X E)
  (ha:PA X (e::es) t)(hdb:(x==("__debug__":Str))=false:=by decide)(he:starEach (e::es) X.env=(false,eval e X.env)::starEach es X.env:=by rfl)(hpl:(backTo pos (starEach es X.env)).any (·.1)=false:=by rfl):
  PE X (.Call (.Name x p) (e::es) [] pos) (abF sp dvs E t):=by
 intro AM s σ H Q I h;refine qj (rZ I hg hm ?_ hdb);refine za (h₀:=X.base) I.ok.mod.kin hk (bC (ha pos AM s σ H _ I h) λus s1 ⟨vs,H1,I1,r,q⟩=>⟨I1.kIn,?_⟩) he hpl;exact W6 F hr hb hd hx I1 r q
end
section
variable{X:Cx}{CX:jA}{k:Nat}{f C:Addr}{fd:cf}{ps ks:List Str}{sp:Sp}{E:XK}{x m:Str}{p pos apos kpos:ah}{e o:ag}{es:List ag}{kws:List iz}{te ta:TE}{t tk:TA}{nm:Option Str}
variable{g:AE->AE->AE}{gV:List V->List V->List V}
end
structure iD(N P:List Str)(sc:Scope):Prop where
 kind:sc.kind=.function
 co:sc.isCoroutine=false
 gen:sc.isGenerator=false
 nd:N.Nodup
 pre:N.take P.length=P
 par:∀x∈P,sc.names.lookup x=some .local\/sc.names.lookup x=some .cell
 nofree:∀y∈sc.names,y.2≠.free
theorem Si{kindOf:Str->Option fm}{x:Str}:∀{binds:List (Str×Value)}{m:Str->AF},(∀v,(x,v)∉binds)->bindL kindOf binds m x=m x
 |[],_,_=>rfl
 |(n,v)::r,m,h=>by
  unfold bindL;rw[Si λw hw=>h w (bh _ hw)];split
  .have:x≠n:=by rintro rfl;exact h v bi
   simp[this]
  .rfl
theorem Ki{kindOf:Str->Option fm}{x:Str}:∀{binds:List (Str×Value)}{m:Str->AF},(∀v,(x,v)∉binds)->bindC kindOf binds m x=m x
 |[],_,_=>rfl
 |(n,v)::r,m,h=>by
  unfold bindC;rw[Ki λw hw=>h w (bh _ hw)];split
  .rfl
  .have:x≠n:=by rintro rfl;exact h v bi
   simp[this]
theorem Ei{kindOf:Str->Option fm}{x:Str}{v:Value}:∀{P:List Str}{vs:AE}{i:Nat}{m:Str->AF},P.Nodup->P[i]?=some x->vs[i]?=some v->kindOf x=some .local->
  bindL kindOf (P.zip vs) m x=some v
 |[],_,_,_,_,h,_,_=>by simp at h
 |_::_,[],_,_,_,_,h,_=>by simp at h
 |p::P,w::vs,0,m,nd,h1,h2,hk=>by
  simp at h1 h2;subst h1;subst h2;show bindL kindOf ((p,w)::P.zip vs) m p=_;unfold bindL;rw[Si λv hv=>(kz.mp nd).1 (uf hv).1,if_pos hk];simp
 |p::P,w::vs,i+1,m,nd,h1,h2,hk=>by
  show bindL kindOf ((p,w)::P.zip vs) m x=_;unfold bindL;exact Ei (i:=i) (kz.mp nd).2 (by simpa using h1) (by simpa using h2) hk
theorem Di{kindOf:Str->Option fm}{x:Str}{v:Value}:∀{P:List Str}{vs:AE}{i:Nat}{m:Str->AF},P.Nodup->P[i]?=some x->vs[i]?=some v->kindOf x≠some .local->
  bindC kindOf (P.zip vs) m x=some v
 |[],_,_,_,_,h,_,_=>by simp at h
 |_::_,[],_,_,_,_,h,_=>by simp at h
 |p::P,w::vs,0,m,nd,h1,h2,hk=>by
  simp at h1 h2;subst h1;subst h2;show bindC kindOf ((p,w)::P.zip vs) m p=_;unfold bindC;rw[Ki λv hv=>(kz.mp nd).1 (uf hv).1,if_neg hk];simp
 |p::P,w::vs,i+1,m,nd,h1,h2,hk=>by
  show bindC kindOf ((p,w)::P.zip vs) m x=_;unfold bindC;exact Di (i:=i) (kz.mp nd).2 (by simpa using h1) (by simpa using h2) hk
def start(N:List Str)(vs:List V):St:=vs.map some++jy (N.length-vs.length) none
def eW(CX:jA)(P:Program)(w:am)(K:af)(mg:Str->AF)(base:Heap)(N:List Str)(qual:Str)(scope:Scope)(f:Addr)(cd:Value)(A:aq)(outer:List az)(s:aa)(H:Hp)(E:XK):Cx where
 prog:=P
 w:=w
 K:=K
 mg:=mg
 base:=base
 A:=A.deeper (envOfC qual scope s.heap.objs.size f cd)
 N:=N
 AN:=s
 AO:=H
 env:=envOfC qual scope s.heap.objs.size f cd
 outer:=outer
 stack:=envOfC qual scope s.heap.objs.size f cd::outer
 ex:=[]
 calm:=true
 fn:=λ_=>true
 pn:=[]
 xe:=λe s'=>wpAny (model P w) (A.deeper (envOfC qual scope s.heap.objs.size f cd)) (leaving (envOfC qual scope s.heap.objs.size f cd) e) (λ_ s''=>CX outer H s E e s'') (λe' s''=>CX outer H s E e' s'') s'
theorem Wj{sc:Scope}{n:Nat}{x:Str}(h:sc.names.lookup x=some .cell):∃c,(cellsFrom n sc.names []).lookup x=some c:=by
 have q:=zb sc.names n [] (.inl h);exact Option.isSome_iff_exists.mp q
theorem Rx{CX:jA}{P:Program}{w:am}{K:af}{mg:Str->AF}{base:Heap}{N ps:List Str}{qual:Str}{scope:Scope}{f:Addr}{cd:Value}{A:aq}{outer:List az}{s s1:aa}{H:Hp}{E:XK}{us:AE}{vs:List V}
  (S:iD N ps scope)(hd:A.handled=none)(e0:wT P w K mg base A outer s H)(hl:vs.length=ps.length)(r:aZ vs us)
  (x:InCallC s s.heap.objs.size (bindL (envOfC qual scope s.heap.objs.size f cd).kindOf (ps.zip us) λ_=>none) (cellsFrom (s.heap.objs.size+1) scope.names []) (bindC (envOfC qual scope s.heap.objs.size f cd).kindOf (ps.zip us) λ_=>none) s1):
  aF (eW CX P w K mg base N qual scope f cd A outer s H E) [] (start N vs) H s1:=by
 have hpl:ps.length<=N.length:=by have:=congrArg pb S.pre;rw[jz]at this;omega
 obtain⟨h1,tk,rfl,hk⟩:=x.done;have noA:∀b:Addr,b∉(eW CX P w K mg base N qual scope f cd A outer s H E).ex:=λb z=>absurd (show b∈([]:List Addr) from z) (by simp);refine⟨⟨e0.mod,S.kind,rfl,rfl,aj _,λy z c h1 h2=>?_,λy hy=>?_,λy c _ h=>?_,λ_=>hd,Around.frames_deeper e0.frames,.inr ⟨rfl,rfl⟩,λb z=>absurd z (noA b),e0.bs,e0.bsz,λb _ _=>noA b,λb z=>absurd z (noA b),e0.funs,e0.frf⟩,
  rfl,e0.bare,Un.kept hk,⟨_,x.toInCall.ns,λi y v h1 h2 h3=>?_⟩,λy c h=>⟨_,x.cell y c h⟩,e0.hok.fresh (aj _),λy c h=>?_,λp hp=>absurd (show p∈([]:List (Addr×Obj)) from hp) (by simp),e0.hok.kept hk,?_⟩
 .exact name_of_addr x.apart (jm h1) (jm h2)
 .have hy:scope.names.lookup y=some .cell\/scope.names.lookup y=some .free:=hy
  rcases hy with hy |hy
  .exact Wj hy
  .exact absurd rfl (S.nofree _ (jm hy))
 .exact oo (x.above y c (jm h))
 .have hi:i<vs.length:=by
   unfold start at h2
   by_cases hi:i<vs.length
   .exact hi
   .rw[di (by simpa using hi)]at h2
    rw[zc]at h2;split at h2<;>cases h2
  have ha:vs[i]?=some v:=by
   unfold start at h2;rw[eh (by simpa using hi),bj]at h2;cases e:vs[i]? with
   |none=>rw[e]at h2;cases h2
   |some a=>rw[e]at h2;cases h2;rfl
  obtain⟨u,hu,rv⟩:=r.get ha;have hp:ps[i]?=some y:=by
   rw[<-S.pre,List.getElem?_take_of_lt (by omega)];exact h1
  have ndP:ps.Nodup:=by rw[<-S.pre];exact S.nd.sublist (List.take_sublist _ _)
  refine⟨u,rv,?_⟩;rcases S.par y (cv hp)with k |k
  .exact .inl ⟨k,Ei ndP hp hu k⟩
  .obtain⟨c,e⟩:=Wj (n:=s.heap.objs.size+1) k
   refine .inr ⟨.inl k,c,e,?_⟩;have q:=x.cell y c e;rw[Di ndP hp hu (by show scope.names.lookup y≠_;rw[k];decide)]at q;exact q
 .exact e0.hok.fresh (oo (x.above y c (jm h)))
 .unfold start
  show _=N.length;rw[bf,ak,zd];omega
theorem Ld{CX:jA}{P:Program}{w:am}{K:af}{mg:Str->AF}{base:Heap}{k:Nat}{f:Addr}{name qual:Str}{params:Arguments}{body:List Stmt}{scope:Scope}{dV kV doc pm cdv ct oc:Value}{an od:AG}
  {osl:Array AF}{N ps:List Str}{sp:Sp}(lk:K.lookup f=some ⟨oc,od,.func (dq name qual params body scope dV kV doc pm an cdv ct),osl⟩)(hcd:ka K cdv qual=true)(S:iD N ps scope)
  (len:∀vs H Q E,sp vs H Q E->vs.length=ps.length)
  (hbody:∀(A:aq)(outer:List az)(s:aa)(H:Hp)(vs:List V)(Q:VK)(E:XK),dI k (A.deeper (envOfC qual scope s.heap.objs.size f cdv))->sp vs H Q E->
   ∃t,fK (eW CX P w K mg base N qual scope f cdv A outer s H E) body t/\t {nx:=λ_ H'=>Q .non H',rt:=Q} (start N vs) H):
  dX P w K mg base CX (k+1) f (dq name qual params body scope dV kV doc pm an cdv ct) ps sp:=by
 refine⟨len,λA outer s H args us vs Q E hr e0 hb r hsp=>?_⟩;have hl:=len _ _ _ _ hsp;have KX:K.In s.heap:=e0.mod.kin.keeps λb o e=>(e0.bs b o e).1;have lim:s.heap.NoLimit:=e0.mod.nolimit.keeps λb o e=>(e0.bs b o e).1;have hkind:∀y∈ps.zip us,scope.names.lookup y.1=some .local\/(scope.names.lookup y.1=some .cell/\((cellsFrom (s.heap.objs.size+1) scope.names []).lookup y.1).isSome=true):=λ⟨n,v⟩ hy=>by
  rcases S.par n (uf hy).1 with q |q
  .exact .inl q
  .exact .inr ⟨q,zb _ _ _ (.inl q)⟩
 refine codeAny_call_function hr.depth (KX _ _ lk) rfl S.co S.gen rfl (PySem.W.codeRec_of KX hcd) (hb _ _ _ _ ?_);refine wpAny_newFunctionEnv_cells S.kind hkind λenv he s1 x=>?_;subst he;refine⟨lim.keeps x.toInCall.keep,codeAny_func ?_⟩;obtain⟨t,ht,hq⟩:=hbody A outer s H vs Q E (hr.deeper _) hsp;have I:aF (eW CX P w K mg base N qual scope f cdv A outer s H E) [] (start N vs) H s1:=Rx S hr.hd e0 hl r x;refine dr (ht [] s1 (start N vs) H _ I hq) (λfl s' hs=>?_) λe s' hs=>hs;have fin:∀{σ':St}{H':Hp}{v:V}{u:Value},aF (eW CX P w K mg base N qual scope f cdv A outer s H E) [] σ' H' s'->bK v u->Q v H'->CE outer P w H s Q u s':=
  λ{σ' H' v u} J rv q=>⟨v,H',J.os,J.bare,J.base,J.hok,rv,q⟩
 cases fl with
 |ret u=>
  obtain⟨v,σ',H',J,rv,q⟩:=hs;exact fin J rv q
 |next=>
  obtain⟨σ',H',J,q⟩:=hs;exact fin (v:=V.non) (u:=cj) J rfl q
 |brk=>
  obtain⟨_,_,_,q⟩:=hs;exact io q
 |cont=>
  obtain⟨_,_,_,q⟩:=hs;exact io q
section
variable{X:Cx}{x:Str}{p pos:ah}{e:ag}{es:List ag}{t:TA}{id T:String}{r:List V->Hp->VK->Prop}
def Mt(r:List V->Hp->VK->Prop)(t:TA):TE:=λσ H Q=>t σ H λvs H1=>r vs H1 Q
theorem Mk(hc:jI X (.builtin id) r)(hg:Gl X x)(hm:X.mg x=none)(hv:bootBuiltins x=some (.builtin id))(ha:PA X (e::es) t)(hn:x≠"__name__":=by decide)(hdb:(x==("__debug__":Str))=false:=by decide)
  (he:starEach (e::es) X.env=(false,eval e X.env)::starEach es X.env:=by rfl)(hpl:(backTo pos (starEach es X.env)).any (·.1)=false:=by rfl):PE X (.Call (.Name x p) (e::es) [] pos) (Mt r t):=by
 intro AM s σ H Q I h;refine qj (pV I hg hm hv ?_ hn hdb);exact PyProof.Rows.callWith_builtin1 (bC (ha pos AM s σ H _ I h) λus s1 ⟨vs,H1,I1,r1,q1⟩=>hc AM s1 σ H1 vs us Q I1 r1 q1) he hpl
theorem uP(hc:jI X (.type T) r)(hg:Gl X x)(hm:X.mg x=none)(hv:bootBuiltins x=some (.type T))(ha:PA X (e::es) t)(hn:x≠"__name__":=by decide)(hdb:(x==("__debug__":Str))=false:=by decide)
  (he:starEach (e::es) X.env=(false,eval e X.env)::starEach es X.env:=by rfl)(hpl:(backTo pos (starEach es X.env)).any (·.1)=false:=by rfl):PE X (.Call (.Name x p) (e::es) [] pos) (Mt r t):=by
 intro AM s σ H Q I h;refine qj (pV I hg hm hv ?_ hn hdb);exact ox (bC (ha pos AM s σ H _ I h) λus s1 ⟨vs,H1,I1,r1,q1⟩=>hc AM s1 σ H1 vs us Q I1 r1 q1) he hpl
end
end L2
namespace HT
open PySem PyProof.Rows
def lexLt:AA->AA->Bool
 |[],[]=>false
 |[],_::_=>true
 |_::_,[]=>false
 |x::xs,y::ys=>if x=y then lexLt xs ys else decide (x<y)
theorem lexLt_cons(x y:Int)(xs ys:AA):lexLt (x::xs) (y::ys)=if x=y then lexLt xs ys else decide (x<y):=rfl
section
open PySem.SeqAt
open PySem.AutoSeq1 (wpAny_loadPart')
open PySem.MeetsSeq PySem.MeetsSeq2 PySem.MeetsSeq3
end
section
variable{prog:Program}{w:am}{A:aq}{E:Value->aa->Prop}{s:aa}
theorem cat_tup{t b:Addr}{vs ws:AE}{Q:Value->aa->Prop}(ht:IsTup s.heap t vs.toArray)(hb:IsTup s.heap b ws.toArray)(hv:vs≠[])
  (h1:ws=[]->Q (.ref t) s)(h2:ws≠[]->Q (.ref s.heap.objs.size) {s with heap:=s.heap.push {cls:=.type "tuple",data:=.seq (vs++ws).toArray}})
  (hsz:vs.length+ws.length<=sizeLine):wpAny (model prog w) A (binaryOp .Add (.ref t) (.ref b)) Q E s:=by
 obtain⟨⟨cls,dd,data,sl⟩,ho,hc,n,hd⟩:=id ht;obtain⟨⟨cls2,dd2,data2,sl2⟩,ho2,hc2,n2,hd2⟩:=id hb;simp only at hc hd hc2 hd2;subst hc hd hc2 hd2;have e:vs.toArray++ws.toArray=(vs++ws).toArray:=by simp
 by_cases hw:ws=[]
 .exact qk ⟨_,ho,rfl⟩ ⟨_,ho2,rfl⟩ ug uh ui uj (uk _ _)
   (tuple_addW1 t b vs.toArray ws.toArray n n2 dd dd2 sl sl2 (by simpa using hv) (by simp[hw])) ⟨ho,ho2,h1 hw⟩
 .refine qk ⟨_,ho,rfl⟩ ⟨_,ho2,rfl⟩ ug uh ui uj (uk _ _)
   (tuple_addW2 t b vs.toArray ws.toArray n n2 dd dd2 sl sl2 (by simpa using hv) (by simpa using hw) (by rw[ax,ax];exact hsz)) ⟨ho,ho2,?_⟩
  rw[e];exact h2 hw
def sIx(n d:Nat):AH->Nat
 |none=>d
 |some v=>if v<0 then(v+(n:Int)).toNat else min v.toNat n
theorem sIx_nat(n d k:Nat):sIx n d (some (k:Int))=min k n:=by
 show(if(k:Int)<0 then((k:Int)+(n:Int)).toNat else min (k:Int).toNat n)=min k n;rw[if_neg (by omega),la]
theorem U3(n d:Nat)(hd:d<=n)(o:AH):sIx n d o<=n:=by
 cases o with
 |none=>exact hd
 |some v=>
  show(if v<0 then(v+(n:Int)).toNat else min v.toNat n)<=n
  by_cases hv:v<0
  .rw[if_pos hv];omega
  .rw[if_neg hv];exact Nat.min_le_right _ _
theorem Kn(v:Int)(n d:Nat):(if v<0 then max (v+(n:Int)) 0 else min v (n:Int))=((sIx n d (some v):Nat):Int):=by
 show(if v<0 then max (v+(n:Int)) 0 else min v (n:Int))=(((if v<0 then(v+(n:Int)).toNat else min v.toNat n):Nat):Int)
 by_cases hv:v<0
 .simp only[if_pos hv];omega
 .simp only[if_neg hv];omega
theorem Jv(lo hi:AH)(n:Nat):ul lo hi 1 (n:Int)=(((sIx n 0 lo:Nat):Int),((sIx n n hi:Nat):Int)):=by
 have h1:¬((1:Int)<0):=by omega
 unfold ul;simp only[h1,if_false];refine um ?_ ?_
 .cases lo with
  |none=>rfl
  |some v=>exact Kn v n 0
 .cases hi with
  |none=>rfl
  |some v=>exact Kn v n n
theorem Bv(i j:Nat):ql (i:Int) (j:Int) 1=j-i:=by
 unfold ql;have h1:(1:Int)>0:=by omega
 simp only[h1,if_true,Int.ediv_one];split<;>omega
theorem Wg{v:Value}{o:AH}{Q:AH->aa->Prop}(p:km v o)(h:Q o s):wpAny (model prog w) A (Builtin.Slice.slicePartIndex v) Q E s:=by
 cases p with
 |none=>exact slicePart_none h
 |int i t=>exact slicePart_int h
theorem Pt{sl:Addr}{vl vu:Value}{lo hi:AH}{n:Nat}{Q:Int×Int×Nat->aa->Prop}(hs:s.heap.IsSliceOf sl vl vu .none)(pl:km vl lo)(pu:km vu hi)
  (h:Q (((sIx n 0 lo:Nat):Int),1,sIx n n hi-sIx n 0 lo) s):wpAny (model prog w) A (ze (.ref sl) (pure (n:Int))) Q E s:=by
 obtain⟨os,hos,hcs,hds⟩:=id hs;unfold ze Builtin.Slice.sliceFields;refine ae (ae (fw hos hds (x:=vl) rfl (ae (fw hos hds (x:=vu) rfl (ae (fw hos hds (x:=.none) rfl (ai ?_)))))));refine ae (slicePart_none ?_);show wpAny _ _ (if((1:Int)==0)=true then _ else _) _ _ s;rw[if_neg (by decide)];refine ae (Wg pl (ae (Wg pu (ae (ai ?_)))));show wpAny _ _ (match ul lo hi 1 (n:Int)with |(lo,hi)=>pure (lo,(1:Int),ql lo hi 1)) _ _ s
 rw[Jv lo hi n];show wpAny _ _ (pure (((sIx n 0 lo:Nat):Int),(1:Int),ql ((sIx n 0 lo:Nat):Int) ((sIx n n hi:Nat):Int) 1)) _ _ s;rw[Bv];exact ai h
theorem Iz(xs:Array Value)(i k:Nat):((ce k).filterMap λ(m:Nat)=>xs[((i:Int)+(m:Int)*1).toNat]?).toArray=((xs.toList.drop i).take k).toArray:=by
 have e:(λ(m:Nat)=>xs[((i:Int)+(m:Int)*1).toNat]?)=λm=>xs[i+m]?:=by
  funext m
  have:((i:Int)+(m:Int)*1).toNat=i+m:=by omega
  rw[this]
 rw[e];have:=pick_run xs i k;rw[pd]at this;have e2:((λx=>xs[x]?)∘λx=>i+x)=λm=>xs[i+m]?:=rfl;rw[e2]at this;rw[this]
theorem getItem_tuple_cut{t sl:Addr}{items:Array Value}{vl vu:Value}{lo hi:AH}{Q:Value->aa->Prop}(ht:IsTup s.heap t items)(hs:s.heap.IsSliceOf sl vl vu .none)(pl:km vl lo)(pu:km vu hi)
  (hw:¬(sIx items.size 0 lo=0/\sIx items.size items.size hi=items.size))
  (h:Q (.ref s.heap.objs.size) {s with heap:=s.heap.push {cls:=.type "tuple",data:=.seq ((items.toList.drop (sIx items.size 0 lo)).take (sIx items.size items.size hi-sIx items.size 0 lo)).toArray}})
  (hsz:items.size<=sizeLine):wpAny (model prog w) A (getItem (.ref t) (.ref sl)) Q E s:=by
 have htake:sizeOk (.seq ((items.toList.drop (sIx items.size 0 lo)).take (sIx items.size items.size hi-sIx items.size 0 lo)).toArray):=by
  show((items.toList.drop (sIx items.size 0 lo)).take (sIx items.size items.size hi-sIx items.size 0 lo)).toArray.size<=sizeLine;rw[ax,jz,qm,kx];omega
 have hj:sIx items.size items.size hi<=items.size:=U3 _ _ (aj _) hi;obtain⟨os,hos,hcs,hds⟩:=id hs;have hTs:s.TypeIs (.ref sl) "slice":=⟨os,hos,hcs⟩;unfold getItem
 try with_reducible refine kl ?_
 first |refine ae (ai ?_) |skip
 refine ae (wpAny_sequenceKey ht.typeIs (by decide) ?_);refine ae (kn (name:=gj "__getitem__") ht.typeIs qo
  (ji qo ht.typeIs entry_tuple_getitem ?_ (args_tuple_getitem _ _)))
 show wpAny _ _ (zf (.ref t) >>= _) _ _ s;refine ae (tupleItemsOf_ ht ?_);refine ae (wpAny_typeOf hTs ?_);rw[if_pos (by decide)];refine ae (Pt hs pl pu ?_);have hno:¬((((sIx items.size 0 lo:Nat):Int)==0&&(1:Int)==1&&(sIx items.size items.size hi-sIx items.size 0 lo)==items.size)=true):=by
  intro q;rw[ja,ja]at q;have q1:((sIx items.size 0 lo:Nat):Int)=0:=eq_of_beq q.1.1;have q2:sIx items.size items.size hi-sIx items.size 0 lo=items.size:=eq_of_beq q.2;exact hw ⟨by omega,by omega⟩
 show wpAny _ _ (if(((sIx items.size 0 lo:Nat):Int)==0&&(1:Int)==1&&(sIx items.size items.size hi-sIx items.size 0 lo)==items.size)=true then _ else _) _ _ s;rw[if_neg hno,Iz]
 first
  |exact ae (m:=qp _) (ir (ai ⟨_,rfl,ai h⟩) htake)
  |exact ae (m:=qp _) (ir (ae (ai (ai ⟨_,rfl,ai h⟩))) htake)
  |exact ae (ae (m:=qp _) (ir (ai (ai ⟨_,rfl,ai h⟩)) htake))
  |exact ae (ae (m:=qp _) (ir (ai ⟨_,rfl,ai h⟩) htake))
end
end HT
namespace L2
open PySem PySem.Spec PyProof.Rows
abbrev TO:=St->Hp->(AH->Hp->Prop)->Prop
def PO(X:Cx)(e:Option ag)(t:TO):Prop:=
 ∀(AM:List (Addr×Obj))(s:aa)(σ:St)(H:Hp)(Q:AH->Hp->Prop),aF X AM σ H s->t σ H Q->
  wpAny (model X.prog X.w) X.A (evalPart e X.env) (λu s'=>∃o H',aF X AM σ H' s'/\km u o/\Q o H') X.xe s
def N5:TO:=λ_ H Q=>Q none H
def aaU(t:TE):TO:=λσ H Q=>t σ H λx H1=>∃i,x=.int i/\Q (some i) H1
section
variable{X:Cx}{e:ag}{te:TE}{lo hi:Option ag}{tl th:TO}{pos p2:ah}
theorem K2:PO X none N5:=by
 intro AM s σ H Q I h;rw[evalPart_none];exact ai ⟨none,H,I,.none,h⟩
theorem Ra(h:PE X e te):PO X (some e) (aaU te):=by
 intro AM s σ H Q I hw;rw[evalPart_some];refine bC (h AM s σ H _ I hw) λu s1 ⟨x,H1,I1,r1,q1⟩=>?_;obtain⟨i,rfl,q⟩:=q1;obtain⟨t,rfl⟩:=r1;exact⟨some i,H1,I1,.int i t,q⟩
def nG(X:Cx)(r:V->AH->AH->Hp->VK->Prop):Prop:=
 ∀(AM:List (Addr×Obj))(s:aa)(σ:St)(H:Hp)(x:V)(v vl vu:Value)(lo hi:AH)(sl:Addr)(Q:VK),aF X AM σ H s->bK x v->s.heap.IsSliceOf sl vl vu .none->km vl lo->km vu hi->r x lo hi H Q->
  ∃T id,typeLookup (.type T) "__getitem__"=pure (some (.builtin id))/\s.TypeIs v T/\wpAny (model X.prog X.w) X.A (getItem v (.ref sl)) (EP X AM σ Q) X.xe s
theorem nG.or{r r':V->AH->AH->Hp->VK->Prop}(h:nG X r)(h':nG X r'):nG X (λx lo hi H Q=>r x lo hi H Q\/r' x lo hi H Q):=by
 intro AM s σ H x v vl vu lo hi sl Q I rx hs pl pu q;rcases q with q |q
 .exact h AM s σ H x v vl vu lo hi sl Q I rx hs pl pu q
 .exact h' AM s σ H x v vl vu lo hi sl Q I rx hs pl pu q
def tSl(r:V->AH->AH->Hp->VK->Prop)(te:TE)(tl th:TO):TE:=λσ H Q=>te σ H λx H1=>tl σ H1 λl H2=>th σ H2 λu H3=>r x l u H3 Q
theorem D4{r:V->AH->AH->Hp->VK->Prop}(hr:nG X r)(he:PE X e te)(hl:PO X lo tl)(hu:PO X hi th):PE X (.Subscript e (.Slice lo hi none p2) pos) (tSl r te tl th):=by
 intro AM s σ H Q I h;refine uo (bC (he AM s σ H _ I h) λv s1 ⟨x,H1,I1,r1,q1⟩=>?_);refine wpAny_Slice (bC (hl AM s1 σ H1 _ I1 q1) λvl s2 ⟨l,H2,I2,pl,q2⟩=>bC (hu AM s2 σ H2 _ I2 q2) λvu s3 ⟨u,H3,I3,pu,q3⟩=>?_);rw[evalPart_none];refine ai ?_;have I4:aF X AM σ H3 {s3 with heap:=s3.heap.push {cls:=.type "slice",data:=.fields #[vl,vu,.none]}}:=I3.kept (t':=s3.toks) λb ob q=>av _ q;obtain⟨T,id,hT,ht,hg⟩:=hr AM {s3 with heap:=s3.heap.push {cls:=.type "slice",data:=.fields #[vl,vu,.none]}} σ H3 x v vl vu l u s3.heap.objs.size Q I4 r1 (zg ..) pl pu q3;show wpAny (model X.prog X.w) X.A (subscriptTail e (.Slice lo hi none p2) v (.ref s3.heap.objs.size)) (EP X AM σ Q) X.xe {s3 with heap:=s3.heap.push {cls:=.type "slice",data:=.fields #[vl,vu,.none]}};exact tail_any (ops:=[.ref s3.heap.objs.size,v]) ht hT hg (by with_unfolding_all rfl)
def mW(xs:List V)(lo hi:AH):List V:=(xs.drop (HT.sIx xs.length 0 lo)).take (HT.sIx xs.length xs.length hi-HT.sIx xs.length 0 lo)
theorem uD(xs:List V)(lo hi:AH):(mW xs lo hi).length<=xs.length:=by
 unfold mW;rw[jz,qm];omega
def ab5(K:af):V->AH->AH->Hp->VK->Prop:=λx lo hi H Q=>∃a xs,x=.ref a/\dD K H a xs/\
 ¬(HT.sIx xs.length 0 lo=0/\HT.sIx xs.length xs.length hi=xs.length)/\∀p,H p=none->Q (.ref p) (aV H p (.tup (mW xs lo hi)))
theorem W4:nG X (ab5 X.K):=by
 intro AM s σ H x v vl vu lo hi sl Q I rx hs pl pu h;obtain⟨a,xs,rfl,hx,hw,q⟩:=h;cases rx;obtain⟨its,r,ht,hz⟩:=I.tuple hx;have hlen:its.toArray.size=xs.length:=by rw[ax];exact r.length.symm
 refine⟨"tuple",_,qo.lookup,ht.typeIs,?_⟩;refine HT.getItem_tuple_cut ht hs pl pu (by rw[hlen];exact hw) ?_ (by rw[hlen];exact hz);rw[hlen];refine⟨.ref s.heap.objs.size,_,I.laid (t':=s.toks) (o:=.tup (mW xs lo hi)) (λb ob q=>av _ q) (aj _) ?_,rfl,q _ (I.hok.fresh (aj _))⟩;exact⟨dy (uD xs lo hi) hz,_,(r.drop (HT.sIx xs.length 0 lo)).take (HT.sIx xs.length xs.length hi-HT.sIx xs.length 0 lo),qh _ _⟩
def Vc(K:af):R2:=λx y H Q=>∃a b xs ys,x=.ref a/\y=.ref b/\dD K H a xs/\dD K H b ys/\xs≠[]/\xs.length+ys.length<=sizeLine/\
 (ys=[]->Q (.ref a) H)/\(ys≠[]->∀p,H p=none->Q (.ref p) (aV H p (.tup (xs++ys))))
theorem aZ.nil_iff{xs:List V}{us:AE}(r:aZ xs us):us=[]↔xs=[]:=by
 cases r with
 |nil=>simp
 |cons _ _=>simp
theorem Mm:dY X (binaryOp .Add) (Vc X.K):=by
 intro AM s σ H x y v u Q I rx ry h;obtain⟨a,b,xs,ys,rfl,rfl,ha,hb,hx,hz,q1,q2⟩:=h;cases rx;cases ry;obtain⟨its,r1,p1,_⟩:=I.tuple ha;obtain⟨its2,r2,p2,_⟩:=I.tuple hb;refine HT.cat_tup p1 p2 (λz=>hx (r1.nil_iff.mp z)) (λz=>⟨.ref a,H,I,rfl,q1 (r2.nil_iff.mp z)⟩) (λz=>?_) (by rw[<-r1.length,<-r2.length];exact hz);refine⟨.ref s.heap.objs.size,_,I.laid (t':=s.toks) (o:=.tup (xs++ys)) (λb ob q=>av _ q) (aj _) ?_,rfl,q2 (λw=>z (r2.nil_iff.mpr w)) _ (I.hok.fresh (aj _))⟩;exact⟨by rw[bf];exact hz,_,r1.append r2,qh _ _⟩
end
def aW(n:Nat)(i:Int):Option Nat:=if 0<=i then(if i<n then some i.toNat else none)else if-(n:Int)<=i then some (i+n).toNat else none
def aX{α:Type}(xs:List α)(i:Int):Option α:=(aW xs.length i).bind λj=>xs[j]?
theorem Dn{n:Nat}{i:Int}{j:Nat}(h:aW n i=some j):seqIndex? i n=some j/\j<n/\-(n:Int)<=i/\i<n:=by
 unfold aW at h
 by_cases h0:0<=i
 .rw[if_pos h0]at h
  by_cases h1:i<n
  .rw[if_pos h1]at h
   have e:i.toNat=j:=cg h;exact⟨by rw[uq h0 h1,e],by omega,by omega,h1⟩
  .rw[if_neg h1]at h;cases h
 .rw[if_neg h0]at h
  by_cases h1:-(n:Int)<=i
  .rw[if_pos h1]at h
   have e:(i+n).toNat=j:=cg h;exact⟨by rw[ur (by omega) h1,e],by omega,h1,by omega⟩
  .rw[if_neg h1]at h;cases h
theorem Ha{α:Type}{xs:List α}{i:Int}{v:α}(h:aX xs i=some v):∃j,seqIndex? i xs.length=some j/\xs[j]?=some v/\j<xs.length/\-(xs.length:Int)<=i/\i<xs.length:=by
 unfold aX at h;cases e:aW xs.length i with
 |none=>rw[e]at h;cases h
 |some j=>
  rw[e]at h;obtain⟨h1,h2,h3,h4⟩:=Dn e;exact⟨j,h1,h,h2,h3,h4⟩
theorem kW{α:Type}{xs:List α}{j:Nat}{v:α}(h:xs[j]?=some v):aX xs (j:Int)=some v:=by
 have hj:j<xs.length:=(ca.mp h).1;have e:aW xs.length (j:Int)=some j:=by
  unfold aW;rw[if_pos (by omega),if_pos (by omega)];simp
 unfold aX;rw[e];exact h
theorem E1{α:Type}(xs:List α)(v:α):aX (xs++[v]) (-1)=some v:=by
 have hl:(xs++[v]).length=xs.length+1:=by simp
 have e:aW (xs++[v]).length (-1)=some xs.length:=by
  unfold aW;rw[hl,if_neg (by decide),if_pos (by omega)];congr 1;omega
 unfold aX;rw[e];show(xs++[v])[xs.length]?=some v;simp
def vG(b:ag):Prop:=∀o i,subscripted b false o i=operate [o,i] (getItem o i)
def lH(X:Cx)(r:R2):Prop:=
 ∀(value slice:ag)(AM:List (Addr×Obj))(s:aa)(σ:St)(H:Hp)(x y:V)(v u:Value)(Q:VK),aF X AM σ H s->bK x v->bK y u->r x y H Q->
  subscripted slice false v u=operate [v,u] (getItem v u)->wpAny (model X.prog X.w) X.A (subscriptTail value slice v u) (EP X AM σ Q) X.xe s
def tR(X:Cx)(id:String)(r:V->List V->Hp->VK->Prop):Prop:=
 ∀(AM:List (Addr×Obj))(s:aa)(σ:St)(H:Hp)(x:V)(xs:List V)(v:Value)(us:AE)(Q:VK),aF X AM σ H s->bK x v->aZ xs us->r x xs H Q->
  wpAny (model X.prog X.w) X.A (call (.builtin id) (v::us)) (EP X AM σ Q) X.xe s
section
variable{X:Cx}{a b:ag}{ta tb:TE}{pos:ah}
theorem lH.or{r r':R2}(h:lH X r)(h':lH X r'):lH X (λx y H Q=>r x y H Q\/r' x y H Q):=by
 intro value slice AM s σ H x y v u Q I rx ry q hs;rcases q with q |q
 .exact h value slice AM s σ H x y v u Q I rx ry q hs
 .exact h' value slice AM s σ H x y v u Q I rx ry q hs
theorem Qc{r:R2}(hr:lH X r)(ha:PE X a ta)(hb:PE X b tb)(hs:vG b):PE X (.Subscript a b pos) (xQ r ta tb):=by
 intro AM s σ H Q I h;exact uo (Ce ha hb I h λv u s2 x y H2 I2 rx ry q=>hr a b AM s2 σ H2 x y v u Q I2 rx ry q (hs _ _))
def Vs(K:af):R2:=λx y H Q=>∃p xs i v,x=.ref p/\y=.int i/\bT K H p xs/\aX xs i=some v/\Q v H
def Ss(K:af):R2:=λx y H Q=>∃p xs i v,x=.ref p/\y=.int i/\dD K H p xs/\aX xs i=some v/\Q v H
def Es:R2:=λx y H Q=>∃z i c,x=.str z/\y=.int i/\z.length<=sizeLine/\aX z.cps.toList i=some c/\Q (.str ⟨#[c]⟩) H
theorem P4:lH X (Vs X.K):=by
 intro value slice AM s σ H x y v u Q I rx ry h hs;obtain⟨p,xs,i,z,rfl,rfl,hq,he,q⟩:=h;cases rx;obtain⟨t,rfl⟩:=ry;obtain⟨its,r,pl,hz⟩:=I.list hq;obtain⟨j,h1,h2,h3,h4,h5⟩:=Ha he;obtain⟨w,ew,rw'⟩:=r.get h2;have hl:=r.length;have hn:=qF;have fin:EP X AM σ Q w s:=⟨z,H,I,rw',q⟩
 by_cases h0:0<=i
 .have hj:i.toNat=j:=by
   rw[uq h0 h5]at h1;exact cg h1
  exact item_listR pl.isList h0 (by omega) (by rw[hj];simpa using ew) fin hs
 .have hj:(i+(its.toArray.size:Int)).toNat=j:=by
   rw[ur (by omega) h4]at h1;rw[ax,<-hl];exact cg h1
  exact zh (x:=w) pl.isList.typeIs uu.lookup
   (wpAny_getItem_list_neg (Q:=λr s'=>r=w/\EP X AM σ Q r s') pl.isList (by omega) (by rw[ax]<;>omega) (by omega) (by rw[hj];simpa using ew) ⟨rfl,fin⟩) hs
theorem aaK:lH X (Ss X.K):=by
 intro value slice AM s σ H x y v u Q I rx ry h hs;obtain⟨p,xs,i,z,rfl,rfl,hq,he,q⟩:=h;cases rx;obtain⟨t,rfl⟩:=ry;obtain⟨its,r,pl,hz⟩:=I.tuple hq;obtain⟨j,h1,h2,h3,h4,h5⟩:=Ha he;obtain⟨w,ew,rw'⟩:=r.get h2;have hl:=r.length;have hn:=qF;have fin:EP X AM σ Q w s:=⟨z,H,I,rw',q⟩;exact zh (x:=w) pl.typeIs qo.lookup
  (getItem_tuple (j:=j) (Q:=λr s'=>r=w/\EP X AM σ Q r s') pl (by omega) (by omega) (by rw[ax,<-hl];exact h1) (by simpa using ew) ⟨rfl,fin⟩) hs
theorem Z4:lH X Es:=by
 intro value slice AM s σ H x y v u Q I rx ry h hs;obtain⟨z,i,c,rfl,rfl,hz,he,q⟩:=h;obtain⟨t,rfl⟩:=rx;obtain⟨t',rfl⟩:=ry;obtain⟨j,h1,h2,h3,h4,h5⟩:=Ha he;have hl:z.cps.toList.length=z.length:=by simp[Str.length]
 rw[hl]at h1 h4 h5;have hn:=qF;exact tail_any (typeIs_str s z t) slot_str_getitem.lookup (getItem_str (c:=c) (by
  have e1:decide (i< -(2^63:Int))=false:=decide_eq_false (by omega);have e2:decide (i>=2^63)=false:=decide_eq_false (by omega);rw[e1,e2,Bool.or_false]) (by rw[h1];simpa using h2) ⟨.str ⟨#[c]⟩,H,I.tok _,⟨_,rfl⟩,q⟩) hs
def Ct(K:af):R2:=λx y H Q=>Vs K x y H Q\/Ss K x y H Q\/Es x y H Q
theorem Ap:lH X (Ct X.K):=P4.or (aaK.or Z4)
theorem Rv(its:AE)(n j:Nat)(u:Value):iu (·.setIfInBounds j u) {cls:=.type "list",data:=.seq its.toArray n}={cls:=.type "list",data:=.seq (its.set j u).toArray n}:=by
 simp[iu]
theorem aF.lst{AM:List (Addr×Obj)}{σ:St}{H:Hp}{s:aa}{p:Addr}{xs:List V}(I:aF X AM σ H s)(h:H p=some (.lst xs)):
  ∃(its:AE)(n:Nat),aZ xs its/\s.heap.get? p=some {cls:=.type "list",data:=.seq its.toArray n}/\xs.length<=sizeLine:=by
 obtain⟨z,its,n,r,e⟩:=I.hok p _ h;exact⟨its,n,r,e,z⟩
theorem aF.lstUpd{AM:List (Addr×Obj)}{σ:St}{H:Hp}{s:aa}{p:Addr}{xs ys:List V}{its its':AE}{n n':Nat}{f:Obj->Obj}(I:aF X AM σ H s)(h:H p=some (.lst xs))
  (ho:s.heap.get? p=some {cls:=.type "list",data:=.seq its.toArray n})(hf:f {cls:=.type "list",data:=.seq its.toArray n}={cls:=.type "list",data:=.seq its'.toArray n'})(r:aZ ys its')(hz:ys.length<=sizeLine)(t:Nat):
  aF X AM σ (aV H p (.lst ys)) {s with heap:=s.heap.update p f,toks:=t}:=by
 have e:(s.heap.update p f).get? p=some {cls:=.type "list",data:=.seq its'.toArray n'}:=by
  rw[qq f ho (by rw[hf]<;>rfl),hf]
 refine I.write (x:=p) (e:=p) (by rw[h];trivial) (.inl rfl) (λb u hb q=>(zi _ _ (gr hb)).trans q) ⟨_,e⟩ ?_;exact⟨hz,its',n',r,e⟩
def abM:V->V->V->Hp->(Hp->Prop)->Prop:=λo i v H Q=>∃p xs k j,o=.ref p/\i=.int k/\H p=some (.lst xs)/\aW xs.length k=some j/\Q (aV H p (.lst (xs.set j v)))
theorem Vj:Ee X abM:=by
 intro AM s σ H o i v ov iv u Q I ro ri rv h;obtain⟨p,xs,k,j,rfl,rfl,hp,hj,q⟩:=h;cases ro;obtain⟨t,rfl⟩:=ri;obtain⟨its,n,r,ho,hz⟩:=I.lst hp;obtain⟨h1,h2,h3,h4⟩:=Dn hj;have hl:=r.length;have hn:=qF;have I':aF X AM σ (aV H p (.lst (xs.set j v))) {s with heap:=s.heap.update p (iu (·.setIfInBounds j u))}:=
  I.lstUpd hp ho (Rv its n j u) (r.set rv j) (by rw[dj];exact hz) s.toks
 by_cases h0:0<=k
 .have hk:k.toNat=j:=by
   rw[uq h0 h4]at h1;exact cg h1
  exact PySem.W.ki_setAt ho h0 (by omega) (by rw[ax,<-hl];exact h4) (by rw[hk];exact⟨_,I',q⟩)
 .have hk:(k+(its.toArray.size:Int)).toNat=j:=by
   rw[ur (by omega) h3]at h1;rw[ax,<-hl];exact cg h1
  exact PySem.W.ki_setBack ho (by omega) (by rw[ax,<-hl];exact h3) (by omega) (by rw[hk];exact⟨_,I',q⟩)
theorem Fu(lo hi:AH)(n:Nat):(sliceBounds lo hi none n).1=((HT.sIx n 0 lo:Nat):Int)/\(sliceBounds lo hi none n).2.1=((HT.sIx n n hi:Nat):Int)/\(sliceBounds lo hi none n).2.2=1:=by
 refine⟨?_,?_,rfl⟩
 .cases lo with
  |none=>simp[sliceBounds,HT.sIx]
  |some i=>
   simp only[sliceBounds,HT.sIx,zj,show(1:Int)>0 by decide,if_true]
   by_cases h:i<0
   .simp only[h,if_true]<;>omega
   .simp only[h,if_false]<;>omega
 .cases hi with
  |none=>simp[sliceBounds,HT.sIx]
  |some i=>
   simp only[sliceBounds,HT.sIx,zj,show(1:Int)>0 by decide,if_true]
   by_cases h:i<0
   .simp only[h,if_true]<;>omega
   .simp only[h,if_false]<;>omega
theorem Yt(its:AE)(lo hi:AH):slicePick its.toArray lo hi none=((its.drop (HT.sIx its.length 0 lo)).take (HT.sIx its.length its.length hi-HT.sIx its.length 0 lo)).toArray:=by
 obtain⟨h1,h2,h3⟩:=Fu lo hi its.toArray.size;unfold slicePick;rw[h1,h2,h3];simp only[sliceRange_one,pick_run,ax]<;>rfl
def ab0(K:af):V->AH->AH->Hp->VK->Prop:=λx lo hi H Q=>∃a xs,x=.ref a/\bT K H a xs/\∀p,H p=none->Q (.ref p) (aV H p (.lst (mW xs lo hi)))
theorem J8:nG X (ab0 X.K):=by
 intro AM s σ H x v vl vu lo hi sl Q I rx hs pl pu h;obtain⟨a,xs,rfl,hx,q⟩:=h;cases rx;obtain⟨its,r,ht,hz⟩:=I.list hx;have hlen:=r.length;refine⟨"list",_,uu.lookup,ht.isList.typeIs,?_⟩;refine zk ht.isList hs pl pu .none (by simp) ?_ (by rw[ax]<;>omega);rw[Yt,<-hlen];refine⟨.ref s.heap.objs.size,_,I.laid (t':=s.toks) (o:=.lst (mW xs lo hi)) (λb ob q=>av _ q) (aj _) ?_,rfl,q _ (I.hok.fresh (aj _))⟩;exact⟨dy (uD xs lo hi) hz,_,0,(r.drop (HT.sIx xs.length 0 lo)).take (HT.sIx xs.length xs.length hi-HT.sIx xs.length 0 lo),cy _ rfl⟩
theorem Ju:jI X (.builtin "len") (λxs H Q=>∃p ys,xs=[.ref p]/\(bT X.K H p ys\/dD X.K H p ys)/\Q (.int ys.length) H):=by
 intro AM s σ H xs us Q I r h;obtain⟨p,ys,rfl,hq,q⟩:=h;obtain⟨u,rfl,rx⟩:=kK r;cases rx;have hn:=qF;rcases hq with hq |hq
 .obtain⟨its,r',pl,hz⟩:=I.list hq
  have hlen:=r'.length;exact Calls.call_len_list pl.isList (by simp only[ax]<;>omega) ⟨.int ys.length,H,I.tok _,⟨s.toks+1,by rw[ax,hlen]⟩,q⟩
 .obtain⟨its,r',pl,hz⟩:=I.tuple hq
  have hlen:=r'.length;exact len_tuple pl (by simp only[ax]<;>omega) ⟨.int ys.length,H,I.tok _,⟨s.toks+1,by rw[ax,hlen]⟩,q⟩
theorem uC:jI X (.type "list") (λxs H Q=>∃p ys,xs=[.ref p]/\(bT X.K H p ys\/dD X.K H p ys)/\∀l,H l=none->Q (.ref l) (aV H l (.lst ys))):=by
 intro AM s σ H xs us Q I r h;obtain⟨p,ys,rfl,hq,q⟩:=h;obtain⟨u,rfl,rx⟩:=kK r;cases rx;have fin:∀(its:AE),aZ ys its->ys.length<=sizeLine->∀(h':Heap)(c':Nat),(∀b o',s.heap.get? b=some o'->h'.get? b=some o')->
   h'.get? s.heap.objs.size=some {cls:=.type "list",dict:=none,data:=.seq its.toArray c',slots:=#[]}->EP X AM σ Q (.ref s.heap.objs.size) {s with heap:=h'}:=λits r' hz h' c' kp e=>
  ⟨.ref s.heap.objs.size,_,I.laid (t':=s.toks) kp (aj _) (show gS X.prog X.w _ h' _ (.lst ys) from⟨hz,its,c',r',e⟩),rfl,q _ (I.hok.fresh (aj _))⟩
 rcases hq with hq |hq
 .obtain⟨its,r',pl,hz⟩:=I.list hq
  have hlen:=r'.length;obtain⟨o,ho,hc,n,hd⟩:=pl.isList;exact call_list_seq p (.inl rfl) ho hc hd (λh' c' kp e=>fin its r' hz h' c' kp e) (by simp only[ax]<;>omega)
 .obtain⟨its,r',pl,hz⟩:=I.tuple hq
  have hlen:=r'.length;obtain⟨o,ho,hc,n,hd⟩:=pl;exact call_list_seq p (.inr rfl) ho hc hd (λh' c' kp e=>fin its r' hz h' c' kp e) (by simp only[ax]<;>omega)
theorem Au:jI X (.type "tuple") (λxs H Q=>∃p ys,xs=[.ref p]/\((bT X.K H p ys/\∀l,H l=none->Q (.ref l) (aV H l (.tup ys)))\/(dD X.K H p ys/\Q (.ref p) H))):=by
 intro AM s σ H xs us Q I r h;obtain⟨p,ys,rfl,h⟩:=h;obtain⟨u,rfl,rx⟩:=kK r;cases rx;rcases h with⟨hq,q⟩|⟨hq,q⟩
 .obtain⟨its,r',pl,hz⟩:=I.list hq
  have hlen:=r'.length;refine call_tuple_list pl.isList (λh' kp=>?_) (by simp only[ax]<;>omega);have I1:aF X AM σ H {s with heap:=h'}:=I.kept (t':=s.toks) kp;have I2:aF X AM σ (aV H h'.objs.size (.tup ys)) {s with heap:=h'.push {cls:=.type "tuple",data:=.seq its.toArray}}:=
   I1.laid (t':=s.toks) (λb o e=>av _ e) (aj _) (show gS X.prog X.w _ _ _ (.tup ys) from⟨hz,its,r',qh _ _⟩)
  exact⟨.ref h'.objs.size,_,I2,rfl,q _ (I1.hok.fresh (aj _))⟩
 .obtain⟨its,r',pl,hz⟩:=I.tuple hq
  exact call_tuple_same pl ⟨.ref p,H,I,rfl,q⟩
def Af(K:af)(T:String)(x:V)(H:Hp):Prop:=match x with
 |.str _=>T="str"
 |.int _=>T="int"
 |.ref p=>(T="list"/\∃xs,bT K H p xs)\/(T="tuple"/\∃o,K.lookup p=some o/\o.cls=.type "tuple"/\o.dict=none)\/
   (T="dict"/\((∃kvs,H p=some (.dK kvs))\/∃kvs,H p=some (.dT kvs)))\/(T="set"/\∃S n,H p=some (.set S n))
 |_=>False
theorem aan{AM:List (Addr×Obj)}{σ:St}{H:Hp}{s:aa}{T:String}{x:V}{v:Value}(I:aF X AM σ H s)(r:bK x v)(ty:Af X.K T x H):
  s.TypeIs v T/\∀a,v=.ref a->∃ob,s.heap.get? a=some ob/\ob.dict=none:=by
 cases x with
 |str z=>
  obtain⟨t,rfl⟩:=r;cases(show T="str" from ty);exact⟨typeIs_str s z t,λ_ e=>nomatch e⟩
 |int i=>
  obtain⟨t,rfl⟩:=r;cases(show T="int" from ty);exact⟨typeIs_int s i t,λ_ e=>nomatch e⟩
 |ref p=>
  cases r;rcases ty with⟨rfl,xs,hq⟩|⟨rfl,o,hk,hc,hd⟩|⟨rfl,hk⟩|⟨rfl,S,n,hk⟩
  .obtain⟨its,_,pl,_⟩:=I.list hq
   refine⟨pl.isList.typeIs,λa e=>?_⟩;cases e;obtain⟨o,n,e,c,hd,_⟩:=pl;exact⟨o,e,hd⟩
  .refine⟨⟨o,I.kIn p o hk,hc⟩,λa e=>?_⟩
   cases e;exact⟨o,I.kIn _ o hk,hd⟩
  .have z:∃o,s.heap.get? p=some o/\o.ExactDict:=by
    rcases hk with⟨kvs,hk⟩|⟨kvs,hk⟩
    .obtain⟨_,_,_,_,o,_,_,e,ex,_⟩:=I.hok p _ hk
     exact⟨o,e,ex⟩
    .obtain⟨_,_,_,_,o,_,_,e,ex,_⟩:=I.hok p _ hk
     exact⟨o,e,ex⟩
   obtain⟨o,e,ex⟩:=z;refine⟨⟨o,e,ex.1⟩,λa e2=>?_⟩;cases e2;exact⟨o,e,ex.2.1⟩
  .obtain⟨o,_,_,_,e,ex,_⟩:=I.hok p _ hk
   refine⟨⟨o,e,ex.1⟩,λa e2=>?_⟩;cases e2;exact⟨o,e,ex.2.1⟩
 |_=>exact io ty
def tBM(K:af)(T:String)(r:V->List V->Hp->VK->Prop)(to:TE)(t:TA):TE:=λσ H Q=>to σ H λx H1=>Af K T x H1/\t σ H1 λxs H2=>r x xs H2 Q
variable{o e:ag}{es:List ag}{to:TE}{t:TA}{name:Str}{apos cpos:ah}{T id:String}{r:V->List V->Hp->VK->Prop}
theorem Yc(pa:PlainAttrs T)(slot:Slot T name id)(hty:typeOf (.builtin id)=pure (.type "method_descriptor"))(hm:tR X id r)(ho:PE X o to)(ha:PA X (e::es) t)
  (hbase:attributeBase o name X.env (eval o X.env)=eval o X.env:=by rfl)
  (hfew:((backTo cpos (starEach (e::es) X.env)).all (λx=>!x.1)&&(backToKw cpos (keywordEach [] X.env)).all (λx=>x.1.isSome)
   &&decide ((e::es).length+([]:List iz).length+(if([]:List iz).isEmpty then 0 else 1)<30))=true:=by rfl)
  (hline:(apos.endLine==cpos.line)=true:=by rfl)(hs:starEach (e::es) X.env=(false,eval e X.env)::starEach es X.env:=by rfl)(hplain:(backTo cpos (starEach es X.env)).any (·.1)=false:=by rfl):
  PE X (.Call (.Attribute o name apos) (e::es) [] cpos) (tBM X.K T r to t):=by
 intro AM s σ H Q I h;refine zl hbase hfew hline rfl (bC (ho AM s σ H _ I h) λv s1 ⟨x,H1,I1,r1,ty,q1⟩=>?_);obtain⟨h1,h2⟩:=aan I1 r1 ty;refine⟨T,id,pa,slot,hty,h1,h2,?_⟩;have hA:=ha cpos AM s1 σ H1 _ I1 q1;rw[hs]at hA⊢;refine uv (by show(false||(backTo cpos (starEach es X.env)).any (·.1))=false;rw[hplain]<;>rfl) (uw ?_);exact bC hA λus s2 ⟨vs,H2,I2,r2,q2⟩=>hm AM s2 σ H2 x vs v us Q I2 r1 r2 q2
end
def Ys(X:Cx)(id:String)(r:V->List V->Hp->VK->Prop):Prop:=
 ∀(AM:List (Addr×Obj))(s:aa)(σ:St)(H:Hp)(x:V)(xs:List V)(v:Value)(us:AE)(Q:VK),aF X AM σ H s->bK x v->aZ xs us->r x xs H Q->
  wpAny (model X.prog X.w) X.A (call (.builtin id) (v::us)) (EP X AM σ Q) X.xe s
theorem aZ.one:∀{x:V}{us:AE},aZ [x] us->∃u,us=[u]/\bK x u
 |_,_,.cons r .nil=>⟨_,rfl,r⟩
theorem aZ.two:∀{x y:V}{us:AE},aZ [x,y] us->∃u v,us=[u,v]/\bK x u/\bK y v
 |_,_,_,.cons r (.cons q .nil)=>⟨_,_,rfl,r,q⟩
theorem aZ.eraseIdx:∀{xs:List V}{us:AE}(i:Nat),aZ xs us->aZ (xs.eraseIdx i) (us.eraseIdx i)
 |_,_,_,.nil=>.nil
 |_,_,0,.cons _ t=>t
 |_,_,i+1,.cons r t=>.cons r (aZ.eraseIdx i t)
theorem zK{α:Type}:∀(l:List α)(i:Nat),(l.eraseIdx i).length<=l.length
 |[],_=>aj _
 |_::_,0=>lb _
 |_::r,i+1=>uz (zK r i)
section
variable{X:Cx}{AM:List (Addr×Obj)}{σ:St}{H:Hp}{s:aa}{l b:Addr}{xs ys zs:List V}
theorem aF.lset{its its':AE}{n:Nat}{f:Array Value->Array Value}{t':Nat}(I:aF X AM σ H s)(hH:H l=some (.lst xs))
  (e:s.heap.get? l=some {cls:=.type "list",data:=.seq its.toArray n})(hf:f its.toArray=its'.toArray)(hv:aZ ys its')(hz:ys.length<=sizeLine):
  aF X AM σ (aV H l (.lst ys)) {s with heap:=s.heap.update l (iu f),toks:=t'}:=by
 have q:=PySem.IsL.update e f;rw[hf]at q;refine I.write (x:=l) (e:=l) (by rw[hH];exact trivial) (.inl rfl) (λb' u hb hu=>(zi s.heap (iu f) (gr hb)).trans hu) ⟨_,q⟩ ?_;exact⟨hz,its',_,hv,q⟩
theorem aF.lnew{its:AE}{t':Nat}(I:aF X AM σ H s)(hv:aZ ys its)(hz:ys.length<=sizeLine):
  aF X AM σ (aV H s.heap.objs.size (.lst ys)) {s with heap:=s.heap.push {cls:=.type "list",data:=.seq its.toArray},toks:=t'}:=
 I.laid (λ_ _ q=>av _ q) (aj _) ⟨hz,its,0,hv,cy _ rfl⟩
theorem aF.fresh(I:aF X AM σ H s):H s.heap.objs.size=none:=I.hok.fresh (aj _)
theorem aF.lstM(I:aF X AM σ H s)(hH:H l=some (.lst xs)):xs.length<=sizeLine/\∃(its:AE)(n:Nat),aZ xs its/\xs.length=its.length/\s.heap.get? l=some {cls:=.type "list",data:=.seq its.toArray n}:=by
 obtain⟨z,its,n,r,e⟩:=I.hok l _ hH;exact⟨z,its,n,r,r.length,e⟩
end
section
variable{X:Cx}
def K4:V->List V->Hp->VK->Prop:=λx vs H Q=>∃l xs y,x=.ref l/\vs=[y]/\H l=some (.lst xs)/\xs.length<sizeLine/\Q .non (aV H l (.lst (xs++[y])))
theorem rR:Ys X "list.append" K4:=by
 intro AM s σ H x vs v us Q I rx rv h;obtain⟨l,xs,y,rfl,rfl,hH,hz,q⟩:=h;cases rx;obtain⟨u,rfl,ru⟩:=rv.one;obtain⟨z,its,n,r,hl,e⟩:=I.lstM hH;refine call_meets va ⟨_,e,rfl⟩ F.entry_list_append (F.args_list_append_2 _ _) (PySem.list_append l its.toArray n u (by rw[ax];omega)) ⟨e,?_⟩;refine⟨.non,_,I.lset (its':=its++[u]) hH e (by simp) (r.append (.cons ru .nil)) ?_,rfl,q⟩;rw[bf,jk];omega
def Y9:V->List V->Hp->VK->Prop:=λx vs H Q=>∃l xs i k y,x=.ref l/\vs=[.int i]/\H l=some (.lst xs)/\-(2^63)<=i/\i<2^63/\seqIndex? i xs.length=some k/\xs[k]?=some y/\Q y (aV H l (.lst (xs.eraseIdx k)))
theorem Uy:Ys X "list.pop" Y9:=by
 intro AM s σ H x vs v us Q I rx rv h;obtain⟨l,xs,i,k,y,rfl,rfl,hH,h1,h2,hk,hy,q⟩:=h;cases rx;obtain⟨u,rfl,ru⟩:=rv.one;obtain⟨t,rfl⟩:=ru;obtain⟨z,its,n,r,hl,e⟩:=I.lstM hH;obtain⟨w,hw,rw'⟩:=r.get hy;refine call_meets F.slot_list_pop ⟨_,e,rfl⟩ F.entry_list_pop (F.args_list_pop_2 _ _)
  (MeetsSeq.list_pop_at l its.toArray n i t k w (fitsIndex_both h1 h2) (by rw[ax,<-hl];exact hk) (by rw[<-Array.getElem?_toList];exact hw) (by rw[ax];omega)) ⟨e,?_⟩
 refine⟨y,_,I.lset (its':=its.eraseIdx k) hH e ?_ (r.eraseIdx k) ?_,rw',q⟩
 .show its.toArray.eraseIdxIfInBounds k=(its.eraseIdx k).toArray
  rw[List.eraseIdxIfInBounds_toArray]
 .have:=zK xs k
  omega
end
section
variable{prog:Program}{w:am}{A:aq}{E:Value->aa->Prop}{s:aa}
end
section
variable{X:Cx}
end
end L2
namespace Att
open PySem PySem.W PySem.Calls PyProof.Rows
theorem Qt{P:mx}{h:Heap}:∀(ns:AA)(vs:AE),WellAll P h vs (ns.map WData.int)->ni vs ns:=by
 intro ns
 induction ns with
 |nil=>
  intro vs w;rw[cr]at w;cases w;exact .nil
 |cons n ns ih=>
  intro vs w;rw[ay]at w;cases w with
  |cons a b=>
   cases a;exact .cons _ _ (ih _ b)
theorem Sw{l:nj}{n:Nat}(hn:l.most=some n){P:mx}{h:Heap}{args:List WData}{vals:AE}
  (hpre:l.row.toRowW.claim.pre args=true)(hwl:WellAll P h vals args):
  ∃a vs ns,vals=[ie a]/\args=[WData.list (ns.map WData.int)]/\h.get? a=some {cls:=.type "list",data:=.seq vs.toArray}/\ni vs ns/\ns.length<=n:=by
 have hsh:WShape.hasAll [] args [.list .int]=true:=(pre_splitW hpre).1;have hc:l.pre.holds [] {args:=args}=true:=(pre_splitW hpre).2;obtain⟨d,r,rfl,h1,h2⟩:=hasAllW_cons hsh;obtain rfl:=hasAllW_nil h2;obtain⟨xs,rfl,h3⟩:=hasW_list h1;obtain⟨ns,rfl⟩:=items_int h3;have hlen:ns.length<=n:=by
  unfold OpenLaw.pre at hc;have h4:(WTm.not (.lt (.lit (.int (n:Int))) (.len (.arg 0)))).holds [] {args:=[.list (ns.map .int)]}=true:=by
   have h4:=(holds_andW hc).1;rw[hn]at h4;exact h4
  have h5:=condW_of h4 (w_not (w_lt w_lit (w_len_list (w_arg rfl))));rw[ak]at h5;refine Nat.le_of_not_lt λq=>?_;have q':(n:Int)<((ns.length:Nat):Int):=by omega
  first
   |(rw[decide_eq_true q']at h5;exact absurd h5 (by decide))
   |(simp at h5;omega)
 cases hwl with
 |cons w1 w2=>
  cases w2;cases w1 with
  |list ho hall=>exact⟨_,_,ns,rfl,rfl,ho,Qt ns _ hall,hlen⟩
theorem Iw(l:nj)(args:List WData):l.row.toRowW.claim.post args (.bool true) args=true:=
 postW_of (r:=l.row.toRowW) (X:=(true==true))
  (show WShape.has [] (.bool true) .bool=true by first |rfl |decide |simp[WShape.has,WShape.arms,WShape.armsAll])
  (show(WTm.eq .res (.lit (.bool true))).value [] {args:=args,res:=some (.bool true),after:=args}=some (.bool (true==true)) from w_eq_bool (w_res rfl) w_lit) rfl
theorem attach_call{l:nj}{n:Nat}{q:Program}{loose:List Str}{XP:(Str->AF)->Heap->Prop}{YP:am->Heap->Prop}{d:DefRec}
  (hn:l.most=some n)(hdf:d.params.defaults=[])
  (call:∀(w:am)(AN AQ:aa)(mg mb:Str->AF)(fa:Addr)(o:Obj)(pm cd doc:Value)(a:Addr)(vs:AE)(ns:AA),
   Ground q loose [] XP w AN mg mb AQ.heap->YP w AQ.heap->
   AQ.heap.get? fa=some o->o.data=.func (docDef d.name d.params d.body d.scope pm cd doc)->AQ.heap.CodeRec cd d.name->mg d.name=some (.ref fa)->
   AQ.heap.get? a=some {cls:=.type "list",data:=.seq vs.toArray}->ni vs ns->ns.length<=n->AQ.gens=#[]->
   codeAny (model l.prog w) callerA (.call (.ref fa) ⟨[.ref a],[]⟩) (λr s'=>r=.ok (.ret (.bool true))/\OldK AQ.heap s'.heap/\s'.os=AQ.os/\jg s'.gens) AQ):
  WalkO q loose XP YP l.row.toRowW d [] (λf vs=>vb f vs):=by
 intro w AN AQ mg mb G Y fa o pm cd doc dV kV ho hd hcd hD hmg hg args vals as hpre hlay hrd hwl hlo;obtain rfl:dV=.none:=Dflts.none hD hdf;obtain rfl:kV=.none:=Dflts.noKw hD;obtain⟨a,vs,ns,rfl,rfl,hobj,hints,hlen⟩:=Sw hn hpre hwl;refine enter_call (oz (call w AN AQ mg mb fa o pm cd doc a vs ns G Y ho (fd_plain hd) hcd hmg hobj hints hlen hg) λr s' hq=>?_);obtain⟨rfl,h2,h3,h4⟩:=hq;exact⟨.inl ⟨.bool true,.bool true,[],rfl,λ_=>rfl,.bool true,Iw l _,λ_=>⟨List.Pairwise.nil,λ_ hm=>(nomatch hm)⟩⟩,h2,h3,h4⟩
section
variable{prog:Program}{w:am}{A:aq}{E:Value->aa->Prop}{s:aa}{K:Frag}
end
end Att
namespace L2
open PySem PySem.Spec PyProof.Rows
theorem Zh:∀{vs:AE}{ns:AA},ni vs ns->aZ (ns.map V.int) vs
 |_,_,.nil=>.nil
 |_,_,.cons n t h=>.cons ⟨t,rfl⟩ (Zh h)
def Xd(H:Hp):Prop:=∀b,H b=none\/∃o xs,H b=some (.frz o (.lst xs))
theorem A0{P:Program}{w:am}{K:af}{mg mb:Str->AF}{CX:jA}{k:Nat}{fa a:Addr}{fd:cf}{x:Str}{sp:Sp}{AQ:aa}{vs:AE}{ns:AA}
  (KX:K.In AQ.heap)(hns:AQ.heap.Ns mainGlobals mg)(hb:AQ.heap.Ns builtinsNs mb)(hbb:∀x:Str,x≠"__name__"->mb x=bootBuiltins x)(hlim:AQ.heap.NoLimit)(hg:AQ.gens=#[])
  (ha:AQ.heap.get? a=some {cls:=.type "list",data:=.seq vs.toArray})(hi:ni vs ns)(hl:ns.length<=sizeLine)(hr:dI k callerA)
  (F:∀base:Heap,K.In base->base.Ns mainGlobals mg->dX P w K mg base CX k fa fd [x] sp)(hbind:∀(s:aa)(u:Value),nh s fd ⟨[u],[]⟩ [(x,u)])
  (hsp:∀H:Hp,Xd H->bT K H a (ns.map V.int)->sp [.ref a] H (λv _=>v=.bl true) λ_ _ _=>False)
  (hCX:∀H e s',CX [] H AQ (λ_ _ _=>False) e s'->False):
  codeAny (model P w) callerA (.call (.ref fa) ⟨[.ref a],[]⟩) (λr s'=>r=.ok (.ret (.bool true))/\OldK AQ.heap s'.heap/\s'.os=AQ.os/\jg s'.gens) AQ:=by
 have rv:=Zh hi;have lenV:=hi.length
 --from an abstract heap in which nothing but the script may be tracked
 have core:∀H:Hp,Xd H->bT K H a (ns.map V.int)->eZ P w H AQ.heap->(∀b,H b≠none->b=a)->(H a≠none->K.lookup a=none)->
   codeAny (model P w) callerA (.call (.ref fa) ⟨[.ref a],[]⟩) (λr s'=>r=.ok (.ret (.bool true))/\OldK AQ.heap s'.heap/\s'.os=AQ.os/\jg s'.gens) AQ:=by
  intro H hO hS hok hA hK;have base_of:∀{b:Addr}{o:Obj},AQ.heap.get? b=some o->H b=none->(lX AQ.heap H).get? b=some o:=λe n=>Yy e n;have noA:∀{b:Addr}{o:Obj}{es:Array DictEntry}{ep:Nat},AQ.heap.get? b=some o->o.data=.dict es ep->H b=none:=λ{b o es ep} e d=>by
   cases q:H b with
   |none=>rfl
   |some u=>
    have e':b=a:=hA b (by rw[q];simp);subst e';rw[ha]at e;cases e;have d':Data.seq vs.toArray _=Data.dict es ep:=d;cases d'
  have nsK:∀{b:Addr}{m:Str->AF},AQ.heap.Ns b m->(lX AQ.heap H).Ns b m:=λ{b m} ⟨o,es,ep,e,d,r⟩=>⟨o,es,ep,base_of e (noA e d),d,r⟩;have hKb:K.In (lX AQ.heap H):=λb o e=>base_of (KX b o e) (by
   cases q:H b with
   |none=>rfl
   |some u=>
    have e':b=a:=hA b (by rw[q];simp);subst e';rw[hK (by rw[q];simp)]at e;cases e)
  have hM:Mod K mg (lX AQ.heap H):=⟨hKb,nsK hns,⟨mb,nsK hb,hbb⟩,let⟨mc,h1,h2⟩:=hlim;⟨mc,nsK h1,h2⟩⟩;have e0:wT P w K mg (lX AQ.heap H) callerA [] AQ H:=⟨rfl,hM,λb o e=>N7 e,vd (Kx _ _),trivial,λb hb=>absurd (show b∈([]:List Addr) from hb) (by simp),hok,.of_eq hg⟩;refine oz ((F _ hKb (nsK hns)).run callerA [] AQ H ⟨[.ref a],[]⟩ [.ref a] [.ref a] _ _ hr e0 (hbind AQ (.ref a)) (.cons rfl .nil) (hsp H hO hS)) λr s' h=>?_;cases r with
  |error e=>exact(hCX H e s' h).elim
  |ok fl=>
   cases fl with
   |next=>exact io h
   |brk=>exact io h
   |cont=>exact io h
   |ret u=>
    obtain⟨v,H',os,bare,un,hok',r',q⟩:=h;have q':v=.bl true:=q;subst q';obtain rfl:u=Value.bool true:=r';refine⟨rfl,OldK.of_keep λb o e=>?_,os,bare⟩;cases q:H b with
    |none=>exact un.keep b o e q (by intro z;exact absurd (show b∈([]:List Addr) from z) (by simp)) (by simp)
    |some u=>
     rcases hO b with z |⟨ob,xs,z⟩
     .rw[q]at z;cases z
     .have z2:=un.frzs b ob _ z
      obtain⟨e1,_⟩:=hok b _ z;obtain⟨e2,_⟩:=hok' b _ z2;rw[e]at e1;cases e1;exact e2
 cases hk:K.lookup a with
 |some o=>
  --the script is one of the module's own objects
  have e:=KX a o hk;rw[ha]at e;cases e;refine core (λ_=>none) (λ_=>.inl rfl) (.inr ⟨_,vs.toArray,_,hk,rfl,rfl,rfl,by rw[ax,lenV];exact hl,by simpa using rv⟩) (λb u z=>by have z':(none:Option HO)=some u:=z;cases z') (λb z=>absurd rfl z) λz=>absurd rfl z
 |none=>
  refine core (λb=>if b=a then some (.frz {cls:=.type "list",data:=.seq vs.toArray} (.lst (ns.map V.int)))else none) (λb=>?_) (.inl (.inr ⟨{cls:=.type "list",data:=.seq vs.toArray},if_pos rfl⟩)) (λb u z=>?_) (λb z=>?_) λ_=>hk
  .by_cases hb:b=a
   .exact .inr ⟨_,_,if_pos hb⟩
   .exact .inl (if_neg hb)
  .by_cases hb:b=a
   .have z':=(if_pos hb).symm.trans z
    cases z';subst hb;exact⟨ha,by rw[ak];exact hl,vs,_,rv,ha⟩
   .have z':=(if_neg hb).symm.trans z
    cases z'
  .by_cases hb:b=a
   .exact hb
   .exact absurd (if_neg hb) z
theorem walk_of{l:nj}{n k:Nat}{q:Program}{loose:List Str}{XP:(Str->AF)->Heap->Prop}{YP:am->Heap->Prop}{d:DefRec}{K:mx->af}{CX:am->jA}{sp:am->Sp}{x:Str}
  (hn:l.most=some n)(hn2:n<=sizeLine)(hdf:d.params.defaults=[])(hr:dI k callerA)
  (hY:∀(w:am)(h:Heap),YP w h->(K w.params).In h)
  (F:∀(w:am)(mg:Str->AF)(fa:Addr)(h:Heap),(K w.params).In h->h.Ns mainGlobals mg->mg d.name=some (.ref fa)->
   ∃fd:cf,(∀(s:aa)(u:Value),nh s fd ⟨[u],[]⟩ [(x,u)])/\
    ∀base:Heap,(K w.params).In base->base.Ns mainGlobals mg->dX l.prog w (K w.params) mg base (CX w) k fa fd [x] (sp w))
  (hsp:∀(w:am)(H:Hp)(a:Addr)(ns:AA),ns.length<=n->Xd H->bT (K w.params) H a (ns.map V.int)->sp w [.ref a] H (λv _=>v=.bl true) λ_ _ _=>False)
  (hCX:∀(w:am)(H:Hp)(s:aa)(e:Value)(s':aa),CX w [] H s (λ_ _ _=>False) e s'->False):
  PySem.W.WalkO q loose XP YP l.row.toRowW d [] (λf vs=>vb f vs):=by
 refine Att.attach_call hn hdf λw AN AQ mg mb fa o pm cd doc a vs ns G Y ho hd hcd hmg hobj hints hlen hg=>?_;have KX:=hY w _ Y;obtain⟨fd,hb,hF⟩:=F w mg fa _ KX G.T.g hmg;exact A0 KX G.T.g G.T.b G.T.builtins G.T.nolimit hg hobj hints (dy hlen hn2) hr hF hb (λH hO hS=>hsp w H a ns hlen hO hS) λH e s'=>hCX w H AQ e s'
abbrev fA:jA:=λ_ _ _ _ _ _=>False
abbrev E0:XK:=λ_ _ _=>False
theorem wL{X:Cx}:Dc fA X E0:=λ_ _ _ _ _ _ _ h=>h.elim
structure iJ(K:af)(x qual:Str)(st:Stmt)(f:Addr)(fd:cf):Prop where
 ex:∃(oc:Value)(od:AG)(kV doc pm:Value)(an:AG)(cdv ct:Value)(osl:Array AF),
  fd=dq x qual (gF st) (eF st) (bY st) .none kV doc pm an cdv ct/\K.lookup f=some ⟨oc,od,.func fd,osl⟩/\ka K cdv qual=true
 kp:ee K (.ref f)=true
section
variable{P:Program}{w:am}{K:af}{mg:Str->AF}{base:Heap}
theorem iJ.ok{x qual:Str}{st:Stmt}{f:Addr}{fd:cf}{N ps:List Str}{k:Nat}{sp:Sp}(F:iJ K x qual st f fd)(S:iD N ps (bY st))(len:∀vs H Q E,sp vs H Q E->vs.length=ps.length)
  (hbody:∀(cdv:Value)(A:aq)(outer:List az)(s:aa)(H:Hp)(vs:List V)(Q:VK)(E:XK),dI k (A.deeper (envOfC qual (bY st) s.heap.objs.size f cdv))->sp vs H Q E->
   ∃t,fK (eW fA P w K mg base N qual (bY st) f cdv A outer s H E).nox (eF st) t/\t {nx:=λ_ H'=>Q .non H',rt:=Q} (start N vs) H):dX P w K mg base fA (k+1) f fd ps sp:=by
 obtain⟨oc,od,kV,doc,pm,an,cdv,ct,osl,rfl,lk,hcd⟩:=F.ex;refine Ld lk hcd S len λA outer s H vs Q E hr hsp=>?_;obtain⟨t,h,q⟩:=hbody cdv A outer s H vs Q E hr hsp;exact⟨t,h.nox,q⟩
theorem iJ.binds{x qual:Str}{st:Stmt}{f:Addr}{fd:cf}{ps:List Str}(F:iJ K x qual st f fd)
  (h:∀(kV doc pm:Value)(an:AG)(cdv ct:Value)(us:AE),us.length=ps.length->bindArgs (dq x qual (gF st) (eF st) (bY st) .none kV doc pm an cdv ct) ⟨us,[]⟩=pure (ps.zip us)):gR K fd ps []:=by
 obtain⟨oc,od,kV,doc,pm,an,cdv,ct,osl,rfl,lk,hcd⟩:=F.ex;exact .all (h kV doc pm an cdv ct)
theorem Qo{x qual:Str}{st:Stmt}{f:Addr}{oc:Value}{od an:AG}{osl:Array AF}{kV doc pm cdv ct:Value}(l:K.lookup f=some ⟨oc,od,.func (dq x qual (gF st) (eF st) (bY st) .none kV doc pm an cdv ct),osl⟩)
  (c:ka K cdv qual=true)(k:ee K (.ref f)=true):iJ K x qual st f (dq x qual (gF st) (eF st) (bY st) .none kV doc pm an cdv ct):=⟨⟨oc,od,kV,doc,pm,an,cdv,ct,osl,rfl,l,c⟩,k⟩
end
section
variable{X:Cx}
theorem pv(i:Nat){x:Str}{pos:ah}(hN:X.N[i]?=some x:=by rfl)(hv:nC X.env.scope x:=by first |exact fe rfl |exact gw (fe rfl) |exact gw (gw rfl))(hd:(x==("__debug__":Str))=false:=by decide)
  (hcd:(x==("__classdict__":Str))=false:=by decide):PE X (.Name x pos) (Us i):=oF hN hv hd hcd
end
def dH(H H':Hp):Prop:=∀b o,H b=some o->H' b=some o
theorem dH.refl(H:Hp):dH H H:=λ_ _ h=>h
end L2
namespace Bn
def Bd(k:Nat)(i:Int):Prop:=i.natAbs<2^k
theorem Bd.mono{j k:Nat}{i:Int}(h:Bd j i)(l:j<=k):Bd k i:=db h (zm (by decide) l)
theorem Bd.mul{j k:Nat}{a b:Int}(h:Bd j a)(g:Bd k b):Bd (j+k) (a*b):=by
 unfold Bd at *;rw[nu,Nat.pow_add];exact Nat.mul_lt_mul'' h g
theorem Bd.add{k:Nat}{a b:Int}(h:Bd k a)(g:Bd k b):Bd (k+1) (a+b):=by
 unfold Bd at *;rw[qr];have:=Int.natAbs_add_le a b;omega
theorem Bd.neg{k:Nat}{a:Int}(h:Bd k a):Bd k (-a):=by
 unfold Bd at *;rw[zn];exact h
theorem Bd.sub{k:Nat}{a b:Int}(h:Bd k a)(g:Bd k b):Bd (k+1) (a-b):=by
 rw[zo];exact h.add g.neg
theorem Bd.le{k:Nat}{a b:Int}(h:Bd k b)(l:a.natAbs<=b.natAbs):Bd k a:=qt l h
theorem Bd.of{k n:Nat}{a:Int}(l:a.natAbs<=n)(h:n<2^k):Bd k a:=qt l h
theorem Bd.log{k:Nat}{a:Int}(h:Bd k a)(hk:0<k):a.natAbs.log2<k:=by
 rcases zp a.natAbs with z |z
 .rw[z]
  exact qt (vd (by decide)) hk
 .exact(Nat.log2_lt (ng z)).mpr h
theorem Vh(a:Int){b:Int}(h:b≠0):(a.fmod b).natAbs<b.natAbs:=by
 rw[Int.fmod_eq_emod];have h1:=zq a h;have h2:a%b<(b.natAbs:Int):=Int.emod_lt a h
 by_cases c:0<=b\/b∣a
 .rw[if_pos c]
  omega
 .rw[if_neg c]
  have hb:b<0:=by omega
  have h3:a%b≠0:=λz=>c (.inr (Int.dvd_of_emod_eq_zero z));have h4:b.natAbs=(-b).toNat:=by omega
  omega
theorem Jk(a b:Int):bn b (a.fmod b)=bn a b:=by
 rw[Int.fmod_def,du,Int.gcd_sub_mul_right_right,Int.gcd_comm]
theorem Vb(x:Int):(if x<0 then-x else x)=(x.natAbs:Int):=by
 split<;>omega
def gl:AA->Int->Int
 |[],g=>g
 |n::r,g=>gl r (bn g n:Nat)
def low(ns:AA):AA:=if gl ns 0=0 then ns else ns.map (· /gl ns 0)
theorem Uq:∀(ns:AA)(g:Int),0<=g->0<=gl ns g
 |[],_,h=>h
 |_::r,_,_=>Uq r _ (zt _)
theorem Po(k:Int):∀(ns:AA)(g:Int),0<=g->gl (ns.map (k*·)) ((k.natAbs:Int)*g)=(k.natAbs:Int)*gl ns g
 |[],_,_=>rfl
 |n::r,g,h=>by
  show gl (r.map (k*·)) ((bn ((k.natAbs:Int)*g) (k*n):Nat):Int)=(k.natAbs:Int)*gl r _;have e:((bn ((k.natAbs:Int)*g) (k*n):Nat):Int)=(k.natAbs:Int)*((bn g n:Nat):Int):=by
   rcases Int.natAbs_eq k with q |q
   .rw[<-q,zu]
    have:(k.natAbs:Int)=k:=q.symm
    push_cast
    rw[this]
   .have e2:k*n=(k.natAbs:Int)*(-n):=by rw[jo,<-jp,<-q]
    rw[e2,zu,Int.gcd_neg]
    push_cast
    simp
  rw[e];exact Po k r _ (zt _)
theorem uV(k:Int)(ns:AA):gl (ns.map (k*·)) 0=(k.natAbs:Int)*gl ns 0:=by
 have:=Po k ns 0 (ve 0)
 rwa[kb]at this
theorem rT{k:Int}(h:0<k)(ns:AA):gl ns 0≠0->low (ns.map (k*·))=low ns:=λz=>by
 have hk:(k.natAbs:Int)=k:=by omega
 have e:=uV k ns;rw[hk]at e;have nz:k*gl ns 0≠0:=ia (by omega) z;unfold low;rw[e,if_neg nz,if_neg z,fg];refine iw λn _=>?_;show k*n/(k*gl ns 0)=n/gl ns 0;exact Int.mul_ediv_mul_of_pos _ _ h
theorem jX:∀(ns:AA)(g:Int),gl ns g∣g/\∀n∈ns,gl ns g∣n
 |[],g=>⟨Int.dvd_refl g,λ_ h=>nomatch h⟩
 |m::r,g=>by
  obtain⟨h1,h2⟩:=jX r ((bn g m:Nat):Int);refine⟨Int.dvd_trans h1 (vg ..),λn hn=>?_⟩;rcases bc.mp hn with q |q
  .subst q
   exact Int.dvd_trans h1 (vh ..)
  .exact h2 n q
theorem Cn{ns:AA}(h:gl ns 0=0):∀n∈ns,n=0:=λn hn=>by
 have:=(jX ns 0).2 n hn;rw[h]at this;exact Int.zero_dvd.mp this
theorem sY{ns:AA}{n:Int}(hn:n∈ns)(h:n≠0):gl ns 0≠0:=λz=>h (Cn z n hn)
theorem qD{ns:AA}{n:Int}(hn:n∈ns)(h:n≠0):0<gl ns 0:=by
 have h1:=Uq ns 0 (ve 0);have h2:=sY hn h;omega
theorem sL{ns:AA}{n:Int}(hn:n∈ns)(h:n≠0):low ns=ns.map (· /gl ns 0):=by
 unfold low;rw[if_neg (sY hn h)]
theorem Bd.gcd{k:Nat}{a b:Int}(h:Bd k a)(g:Bd k b):Bd k (bn a b:Nat):=by
 unfold Bd at *;rw[vj];rcases zp a.natAbs with z |z
 .have:a=0:=by omega
  subst this;rw[qu];exact g
 .exact qt (Nat.gcd_le_left _ z) h
theorem Pd{k:Nat}:∀{ns:AA}{g:Int},Bd k g->(∀n∈ns,Bd k n)->Bd k (gl ns g)
 |[],_,h,_=>h
 |n::r,g,h,hn=>by
  show Bd k (gl r _);exact Pd (ns:=r) (h.gcd (hn n bi)) λm hm=>hn m (bh _ hm)
theorem Ic{k:Nat}{ns:AA}(h:∀n∈ns,Bd k n):∀n∈low ns,Bd k n:=λn hn=>by
 unfold low at hn
 by_cases c:gl ns 0=0
 .rw[if_pos c]at hn
  exact h n hn
 .rw[if_neg c]at hn
  obtain⟨m,hm,rfl⟩:=ix.mp hn;refine(h m hm).le ?_;have d:=(jX ns 0).2 m hm;obtain⟨q,e⟩:=d;rw[e,lc _ c,nu];exact Nat.le_mul_of_pos_left _ (by omega)
def fr(t b:Int):AA:=if b<0 then low [0-t,0-b] else low [t,b]
theorem jL(a b:Int):b∈[a,b]:=bh _ bi
theorem M4(ns:AA):gl (ns.map (-1*·)) 0=gl ns 0:=by
 have:=uV (-1) ns;simpa using this
theorem U7{t b:Int}(h:b≠0):fr (-t) (-b)=fr t b:=by
 unfold fr
 by_cases c:b<0
 .have c':¬(-b<0):=by omega
  rw[if_pos c,if_neg c',jq,jq]
 .have c':-b<0:=by omega
  rw[if_neg c,if_pos c',Int.sub_neg,Int.sub_neg,pe,pe]
theorem Mf{k t b:Int}(hk:0<k)(h:b≠0):fr (k*t) (k*b)=fr t b:=by
 unfold fr;have e1:([k*t,k*b]:AA)=[t,b].map (k*·):=rfl;have e2:([0-k*t,0-k*b]:AA)=[0-t,0-b].map (k*·):=by
  show _=[k*(0-t),k*(0-b)];rw[qv,qv,kb]
 by_cases c:b<0
 .rw[if_pos c,if_pos (vk hk c),e2]
  exact rT hk _ (sY (jL _ _) (by omega))
 .have c':¬(k*b<0):=by
   have:0<k*b:=aw hk (by omega);omega
  rw[if_neg c,if_neg c',e1];exact rT hk _ (sY (jL _ _) h)
theorem Hk{k t b:Int}(hk:k≠0)(h:b≠0):fr (k*t) (k*b)=fr t b:=by
 by_cases c:0<k
 .exact Mf c h
 .have c':0< -k:=by omega
  have hb:k*b≠0:=ia hk h;rw[<-U7 hb,<-jp,<-jp];exact Mf c' h
theorem zQ{t b t' b':Int}(h:b≠0)(h':b'≠0)(e:t*b'=t'*b):fr t b=fr t' b':=by
 rw[<-Hk h' h,<-Hk (k:=b) h h',du b' t,e,du t' b,du b' b]
theorem Ad{t b:Int}(h:b≠0):∃p q:Int,fr t b=[p,q]/\0<q/\p*b=t*q:=by
 have go:∀{t b:Int},0<b->∃p q:Int,low [t,b]=[p,q]/\0<q/\p*b=t*q:=λ{t b} hb=>by
  have nz:b≠0:=by omega
  have gp:=qD (jL t b) nz;refine⟨t/gl [t,b] 0,b/gl [t,b] 0,sL (jL t b) nz,?_,?_⟩
  .obtain⟨m,e⟩:=(jX [t,b] 0).2 b (jL t b)
   have:b/gl [t,b] 0=m:=by
    conv=>lhs;lhs;rw[e]
    exact lc _ (by omega)
   rw[this];have hm:0<m*gl [t,b] 0:=by rw[du,<-e];exact hb
   exact zw hm gp
  .obtain⟨m,e⟩:=(jX [t,b] 0).2 b (jL t b)
   obtain⟨n,f⟩:=(jX [t,b] 0).2 t bi;have e1:b/gl [t,b] 0=m:=by
    conv=>lhs;lhs;rw[e]
    exact lc _ (by omega)
   have e2:t/gl [t,b] 0=n:=by
    conv=>lhs;lhs;rw[f]
    exact lc _ (by omega)
   rw[e1,e2]
   conv=>lhs;rhs;rw[e]
   conv=>rhs;lhs;rw[f]
   rw[Int.mul_left_comm,kd]
 unfold fr
 by_cases c:b<0
 .rw[if_pos c]
  obtain⟨p,q,e1,e2,e3⟩:=go (t:=0-t) (b:=0-b) (by omega);refine⟨p,q,e1,e2,?_⟩;rw[jq,jq,jo,jp]at e3;omega
 .rw[if_neg c]
  exact go (by omega)
def sg(n:Int):Int:=if 0<n then 1 else if n<0 then-1 else 0
theorem Tj{b:Int}(h:b≠0):(0<b/\sg b=1)\/(b<0/\sg b=-1):=by
 unfold sg
 by_cases c:0<b
 .exact .inl ⟨c,if_pos c⟩
 .have d:b<0:=by omega
  exact .inr ⟨d,by rw[if_neg c,if_pos d]⟩
theorem E9(b:Int):-(2^64)<sg b/\sg b<2^64:=by
 unfold sg;split
 .decide
 .split<;>decide
theorem qC(t b:Int):gl [t,b] 0=(bn t b:Nat):=by
 show((bn ((bn 0 t:Nat):Int) b:Nat):Int)=_;rw[qu];congr 1
theorem Pg{g n:Int}(h:g≠0):(g*n).fdiv g=n:=by
 rw[pf ⟨n,rfl⟩,lc _ h]
theorem Cf{g n:Int}(h:g≠0):(g*n).fdiv (-1*g)=-n:=by
 have e:g*n=(-1*g)*(-n):=by
  rw[jp,ke,vm]
 rw[e];exact Pg (by omega)
theorem Cw{t b:Int}(h:b≠0):[t.fdiv (sg b*(bn t b:Nat)),b.fdiv (sg b*(bn t b:Nat))]=fr t b:=by
 have gp:=qD (jL t b) h;rw[qC]at gp;have gn:((bn t b:Nat):Int)≠0:=by omega
 obtain⟨n,en⟩:=vg (a:=t) (b:=b);obtain⟨m,em⟩:=vh (a:=t) (b:=b);have ht:t=((bn t b:Nat):Int)*n:=en;have hb:b=((bn t b:Nat):Int)*m:=em;generalize hg:((bn t b:Nat):Int)=g at *;rcases Tj h with⟨c,s⟩|⟨c,s⟩
 .rw[s,ke]
  have e1:fr t b=[t/g,b/g]:=by
   unfold fr;rw[if_neg (by omega),sL (jL t b) h,qC,hg];rfl
  have e2:t.fdiv g=t/g:=pf ⟨n,ht⟩;have e3:b.fdiv g=b/g:=pf ⟨m,hb⟩;rw[e1,e2,e3]
 .rw[s]
  have e1:fr t b=[(0-t)/g,(0-b)/g]:=by
   unfold fr;rw[if_pos c,sL (jL (0-t) (0-b)) (by omega),qC,jq,jq,Int.neg_gcd,Int.gcd_neg,hg];rfl
  have e2:t.fdiv (-1*g)=-n:=by
   conv=>lhs;lhs;rw[ht]
   exact Cf gn
  have e3:b.fdiv (-1*g)=-m:=by
   conv=>lhs;lhs;rw[hb]
   exact Cf gn
  have e4:(0-t)/g=-n:=by
   rw[ht,jq,<-jo,lc _ gn]
  have e5:(0-b)/g=-m:=by
   rw[hb,jq,<-jo,lc _ gn]
  rw[e1,e2,e3,e4,e5]
theorem Pm(n:Int):∀(l:AA)(g:Int),gl (l++[n]) g=(bn (gl l g) n:Nat)
 |[],g=>rfl
 |m::r,g=>Pm n r _
theorem Xq{k:Nat}{t b p q:Int}(ht:Bd k t)(hb:Bd k b)(e:fr t b=[p,q]):Bd k p/\Bd k q:=by
 have go:∀{x y:Int},Bd k x->Bd k y->low [x,y]=[p,q]->Bd k p/\Bd k q:=λ{x y} hx hy e=>by
  have h:=Ic (k:=k) (ns:=[x,y]) λn hn=>by
   rcases bc.mp hn with z |z
   .rw[z];exact hx
   .have z':n=y:=by simpa using z
    rw[z'];exact hy
  rw[e]at h;exact⟨h p bi,h q (jL _ _)⟩
 unfold fr at e;split at e
 .exact go (by rw[jq];exact ht.neg) (by rw[jq];exact hb.neg) e
 .exact go ht hb e
theorem Gh{t b p q:Int}(h:b≠0)(e:fr t b=[p,q]):bn p q=1:=by
 have go:∀{x y:Int},y≠0->low [x,y]=[p,q]->bn p q=1:=λ{x y} hy e=>by
  rw[sL (jL x y) hy,qC]at e;have gp:=qD (jL x y) hy;rw[qC]at gp;have e1:x/((bn x y:Nat):Int)=p:=by injection e
  have e2:y/((bn x y:Nat):Int)=q:=by
   injection e with _ e;injection e
  rw[<-e1,<-e2,Int.gcd_ediv (vg ..) (vh ..),vj];exact Nat.div_self (by omega)
 unfold fr at e;split at e
 .exact go (by omega) e
 .exact go h e
theorem Tz{k m:Int}(hk:0<k)(hm:0<m){A B:AA}(hA:gl A 0≠0)(e:A.map (k*·)=B.map (m*·)):low A=low B:=by
 have hB:gl B 0≠0:=λz=>by
  have h:=uV k A;rw[e,uV m B,z,kb]at h;have:(k.natAbs:Int)*gl A 0≠0:=ia (by omega) hA;exact this h.symm
 rw[<-rT hk A hA,e,rT hm B hB]
theorem Rp(b:Int):∀(ns:AA)(g:Int),gl ns (bn g b:Nat)=(bn (gl ns g) b:Nat)
 |[],_=>rfl
 |n::r,g=>by
  show gl r ((bn ((bn g b:Nat):Int) n:Nat):Int)=((bn (gl r _) b:Nat):Int);rw[<-Rp b r,Int.gcd_assoc,Int.gcd_comm b n,<-Int.gcd_assoc]
theorem Ab{ns:AA}{b:Int}(hb:0<b):gl (ns++[b]) 0=gl ns b:=by
 rw[Pm,<-Rp,qu];congr 1;omega
theorem nS(ns:AA)(b:Int):b∈ns++[b]:=cu _ bi
theorem Y8{ns:AA}{b:Int}(hb:0<b):low (ns++[b])=(ns.map λn=>n.fdiv (gl ns b))++[b.fdiv (gl ns b)]/\0<gl ns b:=by
 have gp:=qD (nS ns b) (by omega);rw[Ab hb]at gp;refine⟨?_,gp⟩;rw[sL (nS ns b) (by omega),Ab hb,ib];have e:∀n:Int,n/gl ns b=n.fdiv (gl ns b):=λn=>(Int.fdiv_eq_ediv_of_nonneg n (Int.le_of_lt gp)).symm;simp only[e,ay,cr]
theorem Bc(ns:AA){b:Int}(hb:0<b):∃(zs:AA)(z g:Int),low (ns++[b])=zs++[z]/\0<g/\0<z/\ns=zs.map (g*·)/\b=g*z/\zs.length=ns.length:=by
 obtain⟨e,gp⟩:=Y8 (ns:=ns) hb;have dv:=jX (ns++[b]) 0;rw[Ab hb]at dv;have ex:∀n∈ns++[b],gl ns b*n.fdiv (gl ns b)=n:=λn hn=>by
  obtain⟨q,e⟩:=dv.2 n hn
  conv=>lhs;rhs;rw[e]
  rw[Pg (by omega)];exact e.symm
 refine⟨_,_,gl ns b,e,gp,?_,?_,(ex b (nS ns b)).symm,ak _⟩
 .have h:=ex b (nS ns b)
  have:0<b.fdiv (gl ns b)*gl ns b:=by rw[du,h];exact hb
  exact zw this gp
 .rw[fg]
  conv=>lhs;rw[<-vn ns]
  refine iw λn hn=>?_;exact(ex n (ku _ hn)).symm
theorem Yn(ns:AA){b:Int}(hb:0<b):low (low (ns++[b]))=low (ns++[b]):=by
 obtain⟨zs,z,g,e,hg,hz,e1,e2,_⟩:=Bc ns hb;rw[e];refine Tz (k:=g) (m:=1) hg (by decide) (sY (nS zs z) (by omega)) ?_ |>.trans e;rw[ib,<-e1];show ns++[g*z]=(ns++[b]).map (1*·);rw[<-e2]
 conv=>lhs;rw[<-vn (ns++[b])]
 refine iw λn _=>?_;exact(ke n).symm
def sm(xs:AA)(w:Int)(ys:AA)(v:Int):AA:=ci (λx y=>x*v+y*w) xs ys
theorem Zr{xs ys:AA}{f g:Int->Int->Int}(h:∀x y,f x y=g x y):ci f xs ys=ci g xs ys:=by
 have:f=g:=funext λx=>funext λy=>h x y;rw[this]
theorem Xu(xs:AA)(w:Int)(ys:AA)(v:Int):ci (λx y=>1*x*v+y*w) xs ys=sm xs w ys v:=Zr λx y=>by rw[ke]
theorem Mu(xs:AA)(w:Int)(ys:AA)(v:Int):ci (λy x=>-1*y*w+x*v) ys xs=sm xs w (ys.map (- ·)) v:=by
 unfold sm;rw[List.zipWith_map_right,List.zipWith_comm];refine Zr λx y=>?_;rw[jp,ke];exact Int.add_comm _ _
end Bn
namespace L2
open PySem PySem.Spec PyProof.Rows Bn
section
variable{X:Cx}
theorem Zn{k:Nat}{i:Int}(h:Bd k i):zx i<=k:=by
 unfold zx;split
 .exact ft _
 .rename_i c
  have z:i.natAbs≠0:=by
   intro q;have:i=0:=by omega
   subst this;exact c rfl
  have:=(Nat.log2_lt z).mpr h;omega
def oI(_ j:Int):Prop:=j≠0/\Bd 8000 j
theorem Wz:dY X (binaryOp .FloorDiv) (rI oI λi j=>.int (i.fdiv j)):=
 xO λ_ _ _ _ _ _ _ hc q=>floordiv_int hc.1 q (.inl (PyProof.noPylong_of_log2 (vo (hc.2.log (by decide)) (by decide))))
theorem PS.imp{st:Stmt}{t t':TS}(h:PS X st t)(i:∀D σ H,t' D σ H->t D σ H):PS X st t':=λAM s σ H D I q=>h AM s σ H D I (i D σ H q)
theorem fK.imp{st:List Stmt}{t t':TS}(h:fK X st t)(i:∀D σ H,t' D σ H->t D σ H):fK X st t':=λAM s σ H D I q=>h AM s σ H D I (i D σ H q)
theorem PE.imp{e:ag}{t t':TE}(h:PE X e t)(i:∀σ H Q,t' σ H Q->t σ H Q):PE X e t':=λAM s σ H Q I q=>h AM s σ H Q I (i σ H Q q)
theorem PT.imp{e:ag}{t t':TT}(h:PT X e t)(i:∀σ H Q,t' σ H Q->t σ H Q):PT X e t':=λAM s σ H Q I q=>h AM s σ H Q I (i σ H Q q)
theorem aF.turnedNew{AM:List (Addr×Obj)}{σ:St}{H:Hp}{s:aa}{h':Heap}{t':Nat}{ch:List Addr}{a:Addr}{o:HO}(I:aF X AM σ H s)(hf:∀b∈ch,fG X AM H b)
  (k:∀b u,b∉ch->s.heap.get? b=some u->h'.get? b=some u)(hp:s.heap.objs.size<=a)(new:gS X.prog X.w (aV H a o) h' a o):
  aF X AM σ (aV H a o) {s with heap:=h',toks:=t'}:=by
 have hn:H a=none:=I.hok.fresh hp;have nch:∀b u,H b=some u->b∉ch:=λb u e z=>by
  rw[(hf b z).1]at e;cases e
 have nea:∀b u,H b=some u->b≠a:=λb u e=>fS e hn;refine I.step (g':=s.gens) (d':=s.drawn) (ch:=ch) (λb hb=>?_) (λb u _ _ hc e _=>k b u hc e) (λb u _ _ hc e _=>⟨u.slots,k b u hc e⟩) (λb u _ e n=>?_)
  (λb u hc e=>⟨u,k b u hc e⟩) (λb xs e=>?_) (λb u v e=>?_) (λb ps e=>⟨#[],?_⟩) (λm hm=>?_) (λb u e=>?_) I.bare
 .obtain⟨_,f1,_,f3,f4,f5⟩:=hf b hb
  exact⟨f3,f1,f4,f5⟩
 .rw[bO (cw (db (br e) hp))]
  exact n
 .rw[bO (nea b _ e)]
  exact e
 .rw[bO (nea b _ e)]
  exact e
 .rw[bO (nea b _ e),e]
  simp
 .obtain⟨ob,es,ep,ho,r⟩:=hm
  exact⟨ob,es,ep,k _ ob (λz=>(hf _ z).2.1 rfl) ho,r⟩
 .by_cases hb:b=a
  .subst hb
   rw[eT]at e;cases e;exact new
  .rw[bO hb]at e
   refine(I.hok b u e).stay (λc v hc q=>k c v ?_ q) (λc q=>?_) λc xs q=>?_
   .rcases hc with z |z
    .rw[z]
     exact nch b u e
    .exact nch c _ z
   .rw[bO (nea c _ q)]
    exact q
   .rw[bO (nea c _ q)]
    exact q
theorem aF.turnedL{AM:List (Addr×Obj)}{σ:St}{H:Hp}{s:aa}{h':Heap}{t':Nat}{ch:List Addr}(I:aF X AM σ H s)(hf:∀b∈ch,fG X AM H b)
  (k:∀b u,b∉ch->s.heap.get? b=some u->h'.get? b=some u):aF X AM σ H {s with heap:=h',toks:=t'}:=by
 have nch:∀b u,H b=some u->b∉ch:=λb u e z=>by
  rw[(hf b z).1]at e;cases e
 refine I.step (g':=s.gens) (d':=s.drawn) (ch:=ch) (λb hb=>?_) (λb u _ _ hc e _=>k b u hc e) (λb u _ _ hc e _=>⟨u.slots,k b u hc e⟩) (λb u _ e n=>n)
  (λb u hc e=>⟨u,k b u hc e⟩) (λb xs e=>e) (λb u v e=>e) (λb ps e=>⟨#[],?_⟩) (λm hm=>?_) (λb u e=>?_) I.bare
 .obtain⟨_,f1,_,f3,f4,f5⟩:=hf b hb
  exact⟨f3,f1,f4,f5⟩
 .rw[e]
  simp
 .obtain⟨ob,es,ep,ho,r⟩:=hm
  exact⟨ob,es,ep,k _ ob (λz=>(hf _ z).2.1 rfl) ho,r⟩
 .refine(I.hok b u e).stay (λc v hc q=>k c v ?_ q) (λc q=>q) λc xs q=>q
  rcases hc with z |z
  .rw[z]
   exact nch b u e
  .exact nch c _ z
end
def Bf (K : af) (a : Addr) : It :=
  ⟨λi H => ∃ xs x, bT K H a xs ∧ xs[i]? = some x,
   λi H x H' => ∃ p y, H p = none ∧ x = .ref p ∧ H' = aV H p (.tup [.int i, y]) ∧ ∀ xs, bT K H a xs → xs[i]? = some y,
   λi H => ∃ xs, bT K H a xs ∧ xs.length ≤ i⟩
theorem Hw{P:Program}{w:am}{K:af}{elts:List ag}{x1:Nat}{tp:ah}(a e it:Addr)(hne:e≠it):
  qT P w K (.Tuple elts x1 tp) (Bf K a) [e,it] e (λi h=>(∃old,IsEnum h e it (i:Int) old)/\h.IsListIter it a i) where
 mem:=by simp
 obj:=λi h st b hb=>by
  obtain⟨⟨old,q⟩,o,e1,c,d⟩:=st;rcases bc.mp hb with z |z
  .subst z
   exact⟨_,q,λv z=>nomatch z⟩
  .have z':b=it:=by simpa using z
   subst z';exact⟨o,e1,λv z=>by rw[d]at z;cases z⟩
 keep:=λi h h' st k=>⟨let⟨old,q⟩:=st.1;⟨old,k e (by simp) _ q⟩,st.2.at λo q=>k it (by simp) o q⟩
 item:=by
  intro X hP hw hK hc i AM s σ H E I hf st hg;subst hP hw hK;obtain⟨xs,x,hq,hx⟩:=hg;obtain⟨its,rv,pl,hz⟩:=I.list hq;obtain⟨u,hu,ru⟩:=rv.get hx;obtain⟨⟨old,he⟩,hit⟩:=st;refine wpAny_pyNext_enum_item he hit pl.isList (x:=u) (by simpa using hu) hne λh1 ho1 hit1 ht1 hs1 hk1=>⟨_,rfl,?_⟩;have lt1:e<s.heap.objs.size:=br he;refine wpAny_letOwnedTupleGo_enum (s:={s with heap:=h1,toks:=s.toks+1}) ho1 λh2 he2 sb2=>?_;have ht2:h2.get? s.heap.objs.size=some {cls:=.type "tuple",data:=.seq #[.int i s.toks,u]}:=(sb2.2 _ (ng lt1)).trans ht1;have I2:aF X AM σ (aV H s.heap.objs.size (.tup [.int i,x])) {s with heap:=h2,toks:=s.toks+1}:=
   I.turnedNew hf (λb o hb q=>(sb2.2 b (λz=>hb (by simp[z]))).trans (hk1 b o (λz=>hb (by simp[z])) (λz=>hb (by simp[z])) q)) (aj _)
    ⟨by show 2<=sizeLine;decide,[.int i s.toks,u],.cons ⟨_,rfl⟩ (.cons ru .nil),⟨_,ht2,rfl,_,rfl⟩⟩
  refine⟨.ref s.heap.objs.size,_,I2,rfl,⟨_,x,I.hok.fresh (aj _),rfl,rfl,λys hy=>by rw[I.list_inj hy hq];exact hx⟩,⟨⟨_,by simpa using he2⟩,hit1.at λo q=>(sb2.2 it hne.symm).trans q⟩,λb hb=>?_⟩;have hb':=(hf b hb).1;have lt:b≠s.heap.objs.size:=by
   rcases bc.mp hb with z |z
   .subst z
    exact cw lt1
   .have z':b=it:=by simpa using z
    subst z';obtain⟨o,q,_⟩:=hit;exact cw (br q)
  rw[bO lt];exact hb'
 done:=by
  intro X hP hw hK hc i AM s σ H E I hf st hg;subst hP hw hK;obtain⟨xs,hq,hx⟩:=hg;obtain⟨its,rv,pl,hz⟩:=I.list hq;obtain⟨⟨old,he⟩,hit⟩:=st;have hl:=rv.length;exact wpAny_pyNext_enum_end (I.ok.hd hc) he hit pl.isList (by simp;omega) λh' eb=>⟨rfl,I.turnedL (t':=s.toks) hf λb o hb q=>eb b o (λz=>hb (by simp[z])) q⟩
 self:=λ_ _ _ _ _ st h=>let⟨_,q⟩:=st.1;wpAny_pyIter_enum q h
section
variable{X:Cx}{elts:List ag}{x1:Nat}{tp:ah}
def aaP(K:af)(tl:TA):TI:=λσ H R=>tl σ H λvs H1=>∃a,vs=[.ref a]/\(∃xs,bT K H1 a xs)/\R (Bf K a) H1
theorem L9{l:ag}{tl:TA}{p pos:ah}(hg:Gl X "enumerate")(hm:X.mg "enumerate"=none)(hl:PA X [l] tl)(hs:starEach [l] X.env=[(false,eval l X.env)]:=by rfl):
  PI X (.Tuple elts x1 tp) (.Call (.Name "enumerate" p) [l] [] pos) (aaP X.K tl):=by
 intro AM s σ H R I h;refine Call_ (pV I hg hm boot_enumerate (ox (bC (hl pos AM s σ H _ I h) λus s1 ⟨vs,H1,I1,r1,q1⟩=>?_) hs rfl));obtain⟨a,rfl,⟨xs,hq⟩,q⟩:=q1;obtain⟨u,rfl,ru⟩:=kK r1;cases ru;obtain⟨its,rv,pl,hz⟩:=I1.list hq;refine call_enumerate_list pl.isList λh' he hit hsz k=>?_;have I2:aF X AM σ H1 {s1 with heap:=h'}:=I1.kept (t':=s1.toks) k;refine wpAny_pyIter_enum (s:={s1 with heap:=h'}) he ?_;refine⟨s1.heap.objs.size+1,[s1.heap.objs.size+1,s1.heap.objs.size],_,_,H1,rfl,I2,Hw a _ _ (Nat.succ_ne_self _),⟨⟨_,he⟩,hit⟩,λb hb=>?_,q⟩;have hb':s1.heap.objs.size<=b:=by
  rcases bc.mp hb with z |z
  .rw[z]
   exact lb _
  .have z':b=s1.heap.objs.size:=by simpa using z
   rw[z'];exact aj _
 exact I1.fpOk hb' (I1.hok.fresh hb')
end
def fX(env:az):List (Str×fm)->List (Str×Addr)->List (Str×Addr)
 |[],acc=>acc
 |p::r,acc=>if(p.2== .free)=true then fX env r ((p.1,(env.cells.lookup p.1).getD 0)::acc)else fX env r acc
theorem La{sc:Scope}{env:az}(h:∀p∈sc.names,p.2=.free->∃c,env.cells.lookup p.1=some c):closureFor sc env=pure (fX env sc.names []):=by
 unfold closureFor;have go:∀(l:List (Str×fm))(acc:List (Str×Addr)),(∀p∈l,p.2=.free->∃c,env.cells.lookup p.1=some c)->
   (forIn l acc (λx r=>if(x.2==fu)=true then do let a <-cellOf env x.1;pure (vq ((x.1,a)::r))else pure (vq r)):Sem _)=pure (fX env l acc):=by
  intro l
  induction l with
  |nil=>intro acc _;rfl
  |cons p r ih=>
   intro acc hp;rw[qw];have hr:=λacc'=>ih acc' λq hq=>hp q (bh _ hq)
   by_cases c:(p.2==fu)=true
   .obtain⟨a,ea⟩:=hp p bi (by simpa using c)
    have e1:cellOf env p.1=pure a:=by unfold cellOf;rw[ea]
    rw[if_pos c,e1];simp only[pure_bind];rw[hr];show _=pure (if(p.2== .free)=true then _ else _);rw[if_pos c,ea];rfl
   .rw[if_neg c]
    simp only[pure_bind];rw[hr];show _=pure (if(p.2== .free)=true then _ else _);rw[if_neg c]
 have e:=go sc.names [] h;show(forIn sc.names [] _ >>= λr=>pure r)=_;rw[bind_pure];exact e
theorem uL{env:az}:∀(l:List (Str×fm))(acc:List (Str×Addr)),(∀p∈l,p.2=.free->∃c,env.cells.lookup p.1=some c)->
  ∀y c,(fX env l acc).lookup y=some c->acc.lookup y=some c\/env.cells.lookup y=some c
 |[],acc,_,y,c,e=>.inl e
 |p::r,acc,h,y,c,e=>by
  have hr:∀q∈r,q.2=.free->∃c,env.cells.lookup q.1=some c:=λq hq=>h q (bh _ hq);unfold fX at e
  by_cases k:(p.2==fu)=true
  .rw[if_pos k]at e
   obtain⟨a,ea⟩:=h p bi (by simpa using k);rcases uL r _ hr y c e with z |z
   .rw[dk]at z
    cases w:y==p.1 with
    |true=>
     rw[w,ea]at z;have hy:y=p.1:=by simpa using w
     rw[hy,ea];exact .inr z
    |false=>
     rw[w]at z;exact .inl z
   .exact .inr z
  .rw[if_neg k]at e
   exact uL r acc hr y c e
theorem pM{env:az}:∀(l:List (Str×fm))(acc:List (Str×Addr))(y:Str),((∃c,acc.lookup y=some c)\/(y,fu)∈l)->∃c,(fX env l acc).lookup y=some c
 |[],acc,y,h=>by
  rcases h with h |h
  .exact h
  .cases h
 |p::r,acc,y,h=>by
  unfold fX
  by_cases k:(p.2==fu)=true
  .rw[if_pos k]
   refine pM r _ y ?_;cases w:y==p.1 with
   |true=>exact .inl ⟨_,by rw[dk,w]⟩
   |false=>
    rcases h with⟨c,h⟩|h
    .exact .inl ⟨c,by rw[dk,w];exact h⟩
    .rcases bc.mp h with z |z
     .rw[<-z]at w
      simp at w
     .exact .inr z
  .rw[if_neg k]
   refine pM r _ y ?_;rcases h with h |h
   .exact .inl h
   .rcases bc.mp h with z |z
    .rw[<-z]at k
     simp at k
    .exact .inr z
theorem Hf{env:az}:∀{names:List (Str×fm)}{x:Str},(∀y∈names,y.2≠.cell)->
  (let l:=(names.map λ(n,k)=>if(k==fu&&env.scope.kind== .function&&env.kindOf n==some .cell)then(n,fh)else(n,k)).lookup x;l=some .cell\/l=some .free)->(x,fu)∈names
 |[],x,_,h=>by
  rcases h with h |h<;>cases h
 |(n,k)::r,x,hc,h=>by
  dsimp only at h;rw[ay]at h;have ih:=@Hf env r x λy hy=>hc y (bh _ hy);have nk:k≠.cell:=hc (n,k) bi
  by_cases c:(k==fu&&env.scope.kind== .function&&env.kindOf n==some .cell)=true
  .have kf:k=.free:=by
    simp only[ja,beq_iff_eq]at c;exact c.1.1
   dsimp only at h;rw[if_pos c,dk]at h;cases w:x==n with
   |true=>
    have hx:x=n:=by simpa using w
    rw[hx,<-kf];exact bi
   |false=>
    rw[w]at h;exact bh _ (ih h)
  .dsimp only at h
   rw[if_neg c,dk]at h;cases w:x==n with
   |true=>
    rw[w]at h;have hx:x=n:=by simpa using w
    have kf:k=.free:=by
     rcases h with h |h
     .exact absurd (cg h) nk
     .exact cg h
    rw[hx,<-kf];exact bi
   |false=>
    rw[w]at h;exact bh _ (ih h)
def eD(X:Cx)(sc:Scope)(N:List Str)(C:Addr)(AN:aa)(AO:Hp)(ex:List Addr):Cx where
 prog:=X.prog
 w:=X.w
 K:=X.K
 mg:=X.mg
 base:=X.base
 A:=X.A
 N:=N
 AN:=AN
 AO:=AO
 env:=compEnvC sc (fX X.env sc.names []) C X.env
 outer:=X.stack
 stack:=X.stack
 ex:=ex
 fn:=λ_=>false
 calm:=X.calm
 pn:=[]
 xe:=λ_ _=>False
def iH(own:List Str)(cap:List (Nat×Str))(σ:St):St:=own.map (λ_=>none)++cap.map λp=>(σ[p.1]?).join
def bW(own:List Str)(cap:List (Nat×Str)):List Str:=own++cap.map (·.2)
def xB(J:It)(g:TG)(te:TE)(AR:St)(H1:Hp)(D:Addr)(Q:VK):Prop:=
 ∃W:Nat->Nat->St->Hp->List V->Prop,(∃m,W 0 m AR (aV H1 D (.lst [])) [])/\∀i m σ H ys,W i m σ H ys->H D=some (.lst ys)/\
  ((J.stop i H/\Q (.ref D) H)\/(J.go i H/\ys.length<sizeLine/\∀x H2,J.yld i H x H2->g x σ H2 λσ3 H3=>te σ3 H3 λy H4=>H4 D=some (.lst ys)/\∃m',m'<m/\W (i+1) m' σ3 (aV H4 D (.lst (ys++[y]))) (ys++[y])))
def sT(own:List Str)(cap:List (Nat×Str))(wi:TI)(g:TG)(te:TE):TE:=λσ H Q=>wi σ H λJ H1=>∀D,H1 D=none->xB J g te (iH own cap σ) H1 D Q
def Nx(n:Nat)(Pv:Nat->St->Hp->List V->Prop)(D:Addr)(i:Nat)(ys:List V)(σ:St)(y:V)(H:Hp):Prop:=
 H D=some (.lst ys)/\∃m,m<n-i/\(m=n-(i+1)/\i+1<=n/\Pv (i+1) σ (aV H D (.lst (ys++[y]))) (ys++[y]))
theorem aaV{n:Nat}{Pv:Nat->St->Hp->List V->Prop}{D:Addr}{i:Nat}{ys:List V}{σ:St}{y:V}{H:Hp}(h:i<n)(hD:H D=some (.lst ys))(p:Pv (i+1) σ (aV H D (.lst (ys++[y]))) (ys++[y])):Nx n Pv D i ys σ y H:=
 ⟨hD,n-(i+1),by omega,rfl,h,p⟩
theorem Q1{J:It}{g:TG}{te:TE}{AR:St}{H1:Hp}{D:Addr}{Q:VK}(n:Nat)(hn:n<=sizeLine)(Pv:Nat->St->Hp->List V->Prop)(h0:Pv 0 AR (aV H1 D (.lst [])) [])
  (hl:∀i σ H ys,Pv i σ H ys->ys.length=i/\H D=some (.lst ys))(hgo:∀i σ H ys,i<n->Pv i σ H ys->J.go i H)
  (hs:∀i σ H ys x H2,i<n->Pv i σ H ys->J.yld i H x H2->g x σ H2 λσ3 H3=>te σ3 H3 λy H4=>Nx n Pv D i ys σ3 y H4)
  (hd:∀σ H ys,Pv n σ H ys->J.stop n H/\Q (.ref D) H):xB J g te AR H1 D Q:=by
 refine⟨λi m σ H ys=>m=n-i/\i<=n/\Pv i σ H ys,⟨n,rfl,ft _,h0⟩,?_⟩
 rintro i m σ H ys ⟨rfl,hi,p⟩
 obtain⟨l1,l2⟩:=hl i σ H ys p;refine⟨l2,?_⟩
 by_cases hlt:i<n
 .exact .inr ⟨hgo i σ H ys hlt p,by omega,λx H2 y=>hs i σ H ys x H2 hlt p y⟩
 .have e:i=n:=by omega
  subst e;exact .inl (hd σ H ys p)
section
variable{prog:Program}{w:am}{A:aq}{R:oy->aa->Prop}{s:aa}
theorem Mi{elt target iter:ag}{sc:Scope}{pos:ah}{it acc:Value}{env:az}(I:Nat->aa->Prop)
  (turn:∀n s,I n s->wpAny (model prog w) A (pyNext it) (λr s1=>match r with
   |none=>R (.ok .next) s1
   |some v=>wpAny (model prog w) A (letOwnedTupleGo target it v) (λ_ s2=>wpAny (model prog w) A (assign target env v) (λ_ s3=>wpAny (model prog w) A (eval elt env)
     (λx s4=>wpAny (model prog w) A (call (.builtin "list.append") [acc,x]) (λ_ s5=>∃m,m<n/\I m s5) (λ_ _=>False) s4) (λ_ _=>False) s3) (λ_ _=>False) s2) (λ_ _=>False) s1) (λ_ _=>False) s)
  (n:Nat)(h:I n s):codeAny (model prog w) A (.compLoop (.ListComp elt [⟨target,iter,[],0⟩] sc pos) 0 it acc env) R s:=by
 refine codeAny_loop rfl I (λn s hI=>?_) n h;show wpAny _ _ ((compTurn (.ListComp elt [⟨target,iter,[],0⟩] sc pos) 0 it acc env).onRaise (λx=>do noteFrame x env;theTreesLotGoes x)) _ _ s;refine wpAny_noted ?_;rw[compTurn_list1];refine ae (ot (ae ?_));refine dr (turn n s hI) (λr s1 h1=>?_) λ_ _ z=>z.elim;cases r with
 |none=>exact ai h1
 |some v=>
  refine ae (dr h1 (λ_ s2 h2=>?_) λ_ _ z=>z.elim);refine ae (dr h2 (λ_ s3 h3=>?_) λ_ _ z=>z.elim);refine ae (ae (dr h3 (λx s4 h4=>?_) λ_ _ z=>z.elim));refine ae (dr h4 (λ_ s5 h5=>?_) λ_ _ z=>z.elim);exact ai (ai ⟨rfl,h5⟩)
end
structure gO(X:Cx)(sc:Scope)(own:List Str)(cap:List (Nat×Str)):Prop where
 kind:sc.kind=.function
 names:∀y∈sc.names,y.2=.local->sc.names.lookup y.1=some .local
 nocell:∀y∈sc.names,y.2≠.cell
 free:∀y∈sc.names,y.2=.free->X.env.kindOf y.1=some .cell
 at':∀p∈cap,X.N[p.1]?=some p.2
 cap:∀p∈cap,sc.names.lookup p.2=some .free
section
variable{X:Cx}{sc:Scope}{own:List Str}{cap:List (Nat×Str)}{AM:List (Addr×Obj)}{σ:St}{H:Hp}{s:aa}
theorem gO.has(k:gO X sc own cap)(ok:X.Ok):∀p∈sc.names,p.2=.free->∃c,X.env.cells.lookup p.1=some c:=λp hp e=>ok.has p.1 (.inl (k.free p hp e))
theorem rF{env:az}:∀{names:List (Str×fm)}{x:Str},env.scope.kind=.function->names.lookup x=some .free->env.kindOf x=some .cell->
  (names.map λ(n,k)=>if(k==fu&&env.scope.kind== .function&&env.kindOf n==some .cell)then(n,fh)else(n,k)).lookup x=some .cell
 |[],x,_,h,_=>by cases h
 |(n,k)::r,x,hk,h,hx=>by
  rw[ay];dsimp only;rw[dk]at h;cases w:x==n with
  |true=>
   rw[w]at h;have e:x=n:=by simpa using w
   have kf:k=.free:=cg h;have c:(k==fu&&env.scope.kind== .function&&env.kindOf n==some .cell)=true:=by
    rw[kf,hk,<-e,hx];decide
   rw[if_pos c,dk,w]
  |false=>
   rw[w]at h;have ih:=@rF env r x hk h hx
   by_cases c:(k==fu&&env.scope.kind== .function&&env.kindOf n==some .cell)=true
   .rw[if_pos c,dk,w]
    exact ih
   .rw[if_neg c,dk,w]
    exact ih
theorem aF.cmp(k:gO X sc own cap){h4:Heap}{fp:List Addr}{m:Str->AF}{t':Nat}(I:aF X AM σ H s)(hf:∀b∈fp,fG X AM H b)(hlt:∀b∈fp,b<s.heap.objs.size)(hns:h4.Ns s.heap.objs.size m)
  (kp:∀b o,s.heap.get? b=some o->h4.get? b=some o):aF (eD X sc (bW own cap) s.heap.objs.size s H fp) [] (iH own cap σ) H {s with heap:=h4,toks:=t'}:=by
 have hcl:∀y c,(fX X.env sc.names []).lookup y=some c->X.env.cells.lookup y=some c:=λy c e=>by
  rcases uL sc.names [] (k.has I.ok) y c e with z |z
  .cases z
  .exact z
 have nst:∀b∈fp,b∉dS X.stack:=λb hb z=>by
  rcases bc.mp (I.stkSub b z)with e |e
  .exact(hf b hb).2.1 e
  .exact(hf b hb).2.2.1 e
 refine⟨⟨I.ok.mod,k.kind,I.ok.glob,I.ok.blt,aj _,λx y c h1 h2=>I.ok.inj x y c (hcl x c h1) (hcl y c h2),λx hx=>?_,λx c e=>(nomatch e),I.ok.hd,I.ok.frames,.inl rfl,λb hb=>⟨cw (hlt b hb),λx c e=>(hf b hb).2.2.2.2.1 x c (hcl x c e)⟩,
  I.bs,dy I.ok.bsz I.sz,λb o e hb=>?_,nst,I.stack,I.stkFree⟩,rfl,I.bare,Un.kept kp,⟨m,hns,λi x v h1 h2 h3=>?_⟩,λx c e=>?_,I.hok.fresh (aj _),λx c e=>I.freeC x c (hcl x c e),λp hp=>absurd (show p∈([]:List (Addr×Obj)) from hp) (by simp),I.hok.kept kp,?_⟩
 .exact pM sc.names [] x (.inr (Hf k.nocell hx))
 .rcases(hf b hb).2.2.2.1 with z |z
  .exact I.ok.noex b o e z
  .exact absurd (db (br (I.ok.bs b o e).1) z) (jc _)
 .have hN:(bW own cap)[i]?=some x:=h1
  unfold bW at hN;unfold iH at h2
  by_cases hi:i<own.length
  .rw[eh (by simpa using hi),bj]at h2
   cases e:own[i]? with
   |none=>rw[e]at h2;cases h2
   |some z=>rw[e]at h2;cases h2
  .rw[di (by simpa using hi),bj,ak]at h2
   rw[di (by omega),bj]at hN;cases e:cap[i-own.length]? with
   |none=>rw[e]at h2;cases h2
   |some p=>
    rw[e]at h2 hN;have hp:p∈cap:=cv e;have hx:p.2=x:=cg hN;have hv:(σ[p.1]?).join=some v:=cg h2;have hv':σ[p.1]?=some (some v):=by
     cases e2:σ[p.1]? with
     |none=>rw[e2]at hv;cases hv
     |some z=>rw[e2]at hv;exact congrArg some hv
    have fr:=k.cap p hp;have kc:X.env.kindOf p.2=some .cell:=k.free (p.2,.free) (jm fr) rfl;obtain⟨m0,_,hl⟩:=I.loc;obtain⟨u,ru,lk⟩:=hl p.1 p.2 v (k.at' p hp) hv' (.inr (.inl kc));refine⟨u,ru,?_⟩;rcases lk with⟨k1,_⟩|⟨_,c,ec,cell⟩
    .rw[kc]at k1
     cases k1
    .rw[<-hx]
     obtain⟨c',ec'⟩:=pM (env:=X.env) sc.names [] p.2 (.inr (jm fr));have:=(hcl _ _ ec').symm.trans ec;cases this;obtain⟨o,ho,hd⟩:=cell;exact .inr ⟨.inl (rF I.ok.kind fr kc),c,ec',o,kp c o ho,hd⟩
 .obtain⟨v,o,ho,hd⟩:=I.cell x c (hcl x c e)
  exact⟨v,o,kp c o ho,hd⟩
 .unfold iH
  show _=(bW own cap).length;unfold bW;rw[bf,bf,ak,ak,ak]
theorem aF.uncmp{s3 s':aa}{H3 H':Hp}{N:List Str}{σ':St}{C:Addr}{fp:List Addr}{pl:List (Addr×Obj)}(I:aF X AM σ H s)(hf:∀b∈fp,fG X AM H b)(u:Un (dS X.stack) fp H H3 s.heap s3.heap)(os:s3.os=s.os)
  (J:aF (eD X sc N C s3 H3 fp) pl σ' H' s'):aF X AM σ H' s':=by
 have os':s'.os=s.os:=(show s'.os=s3.os from J.os).trans os;refine I.call' (ch:=fp) os' (u.trans J.base) J.hok J.bare λb hb=>?_;obtain⟨_,f1,_,f3,f4,f5⟩:=hf b hb;exact⟨f3,f1,f4,f5⟩
end
section
variable{X:Cx}{sc:Scope}{own:List Str}{cap:List (Nat×Str)}{AM:List (Addr×Obj)}{σ:St}{H:Hp}{s:aa}{elt target iter:ag}{pos pos':ah}{wi:TI}{g:TG}{te:TE}{Q:VK}
theorem Li{use:Option (Value->Sem Unit)}{Qf:Value->aa->Prop}(k:gO X sc own cap)(hi:PI X target iter wi)(hc:X.calm=true)
  (hg:∀C AN AO ex,PG (eD X sc (bW own cap) C AN AO ex) target g)(he:∀C AN AO ex,PE (eD X sc (bW own cap) C AN AO ex) elt te)(I:aF X AM σ H s)(h:sT own cap wi g te σ H Q)
  (fin:∀D C s' H' m,aF X AM σ H' s'->fG X AM H' C->s'.heap.Ns C m->Q (.ref D) H'->compPost (model X.prog X.w) X.A X.xe use Qf (.ref D) C (.ok .next) s')
  (hs:∀x,foldedSetIterable iter X.env x=pure x):
  wpAny (model X.prog X.w) X.A (comprehension (.ListComp elt [⟨target,iter,[],0⟩] sc pos) sc X.env pos' (newList []) false (eval iter X.env) use) Qf X.xe s:=by
 refine vt (use:=use) rfl hs (La (k.has I.ok)) k.kind k.names ?_;refine bC (hi AM s σ H _ I h) λv s1 h1=>bC h1 λitv s2 h2=>?_;obtain⟨it,fp,tn,J,H2,e,I2,T,st2,f2,hW⟩:=h2;subst e;refine ir (zy k.nocell (λy hy=>nomatch hy) (λh4 hns hsb=>?_) k.kind);have I3:aF X AM σ (aV H2 s2.heap.objs.size (.lst [])) {s2 with heap:=s2.heap.push {cls:=.type "list",data:=.seq ([]:AE).toArray},toks:=s2.toks}:=I2.lnew (ys:=[]) (its:=[]) .nil (ft _);have hD:H2 s2.heap.objs.size=none:=I2.fresh;have ltf:∀b∈fp,b<s2.heap.objs.size:=λb hb=>by
  obtain⟨o,ho,_⟩:=T.obj _ _ st2 b hb;exact br ho
 have f3:∀b∈fp,fG X AM (aV H2 s2.heap.objs.size (.lst [])) b:=λb hb=>⟨by rw[bO (cw (ltf b hb))];exact(f2 b hb).1,(f2 b hb).2⟩;have un:Un (dS X.stack) fp H2 (aV H2 s2.heap.objs.size (.lst [])) s2.heap (s2.heap.push {cls:=.type "list",data:=.seq ([]:AE).toArray}):=Un.laid (λb u q=>av _ q) (aj _) hD;have kp:∀b o,(s2.heap.push {cls:=.type "list",data:=.seq ([]:AE).toArray}).get? b=some o->h4.get? b=some o:=λb o q=>hsb.extBut b o (cw (br q)) (av _ q);have J0:=I3.cmp (t':=s2.toks+([]:List (Str×Value)).length) k f3 (λb hb=>db (ltf b hb) (by rw[jd];exact lb _)) hns kp;have stat:∀{H':Hp},(∀b∈fp,H' b=none)->∀b∈fp,fG (eD X sc (bW own cap) (s2.heap.push {cls:=.type "list",data:=.seq ([]:AE).toArray}).objs.size {s2 with heap:=s2.heap.push {cls:=.type "list",data:=.seq ([]:AE).toArray},toks:=s2.toks} (aV H2 s2.heap.objs.size (.lst [])) fp) [] H' b:=λhn b hb=>
  ⟨hn b hb,(J0.ok.exf b hb).1,J0.ok.exfs b hb,.inl hb,(J0.ok.exf b hb).2,λp hp=>absurd (show p∈([]:List (Addr×Obj)) from hp) (by simp)⟩
 have st4:tn 0 h4:=T.keep _ _ _ st2 λb hb o q=>kp b o (av _ q);have fr0:∀b∈fp,(aV H2 s2.heap.objs.size (.lst [])) b=none:=λb hb=>(f3 b hb).1;have loop:codeAny (model X.prog X.w) X.A (.compLoop (.ListComp elt [⟨target,iter,[],0⟩] sc pos) 0 (.ref it) (.ref s2.heap.objs.size) (compEnvC sc (fX X.env sc.names []) (s2.heap.push {cls:=.type "list",data:=.seq ([]:AE).toArray}).objs.size X.env))
   (compPost (model X.prog X.w) X.A X.xe use Qf (.ref s2.heap.objs.size) (s2.heap.push {cls:=.type "list",data:=.seq ([]:AE).toArray}).objs.size) {s2 with heap:=h4,toks:=s2.toks+([]:List (Str×Value)).length}:=by
  obtain⟨W,⟨m0,w0⟩,turn⟩:=hW s2.heap.objs.size hD;refine Mi (λn s'=>∃i σ' H' ys,aF (eD X sc (bW own cap) (s2.heap.push {cls:=.type "list",data:=.seq ([]:AE).toArray}).objs.size {s2 with heap:=s2.heap.push {cls:=.type "list",data:=.seq ([]:AE).toArray},toks:=s2.toks} (aV H2 s2.heap.objs.size (.lst [])) fp) [] σ' H' s'/\tn i s'.heap/\(∀b∈fp,H' b=none)/\W i n σ' H' ys) ?_ m0
   ⟨0,_,_,[],J0,st4,fr0,w0⟩
  rintro n s5 ⟨i,σ5,H5,ys,I5,st5,fr5,w5⟩
  obtain⟨hD5,w5⟩:=turn i n σ5 H5 ys w5;rcases w5 with⟨stop,qn⟩|⟨go,hlt,step⟩
  .refine bC (T.done (eD X sc (bW own cap) (s2.heap.push {cls:=.type "list",data:=.seq ([]:AE).toArray}).objs.size {s2 with heap:=s2.heap.push {cls:=.type "list",data:=.seq ([]:AE).toArray},toks:=s2.toks} (aV H2 s2.heap.objs.size (.lst [])) fp) rfl rfl rfl hc i [] s5 σ5 H5 _ I5 (stat fr5) st5 stop) λr s6 ⟨hr,I6⟩=>?_
   subst hr;obtain⟨m,hn,_⟩:=id I6.loc;exact fin _ _ s6 H5 m (I2.uncmp (s3:={s2 with heap:=s2.heap.push {cls:=.type "list",data:=.seq ([]:AE).toArray},toks:=s2.toks}) f2 un rfl I6) (I3.fpOk (aj _) I6.free) hn qn
  .refine bC (T.item (eD X sc (bW own cap) (s2.heap.push {cls:=.type "list",data:=.seq ([]:AE).toArray}).objs.size {s2 with heap:=s2.heap.push {cls:=.type "list",data:=.seq ([]:AE).toArray},toks:=s2.toks} (aV H2 s2.heap.objs.size (.lst [])) fp) rfl rfl rfl hc i [] s5 σ5 H5 _ I5 (stat fr5) st5 go) λr s6 ⟨u,hr,h6⟩=>?_
   subst hr;refine bC h6 λ_ s7 ⟨x,H7,I7,r7,y7,st7,fr7⟩=>?_;have I7':=I7.pinned (stat fr7) (T.obj _ _ st7);refine bC (hg _ _ _ _ _ s7 σ5 H7 x u _ I7' r7 (step x H7 y7)) λ_ s8 ⟨σ8,H8,I8,q8⟩=>?_;refine bC (he _ _ _ _ _ s8 σ8 H8 _ I8 q8) λv9 s9 ⟨y,H9,I9,r9,hD9,m',hm,w9⟩=>?_;refine bC (rR _ s9 σ8 H9 (.ref s2.heap.objs.size) [y] (.ref s2.heap.objs.size) [v9] (λ_ H'=>H'=aV H9 s2.heap.objs.size (.lst (ys++[y]))) I9 rfl (.cons r9 .nil) ⟨_,ys,y,rfl,rfl,hD9,hlt,rfl⟩) λ_ s10 ⟨_,H10,I10,_,q10⟩=>?_;subst q10;refine⟨m',hm,i+1,σ8,_,_,I10.unpinned,T.keep _ _ _ st7 λb hb o q=>(I10.pin (b,o) (cu _ (cu _ (kT hb q)))).1,λb hb=>?_,w9⟩;obtain⟨o,q,d⟩:=T.obj _ _ st7 b hb;exact(I10.pin (b,o) (cu _ (cu _ (kT hb q)))).2.1
 exact vw loop (T.self _ 0 _ _ _ st4 loop)
theorem N3(k:gO X sc own cap)(hi:PI X target iter wi)(hc:X.calm=true)
  (hg:∀C AN AO ex,PG (eD X sc (bW own cap) C AN AO ex) target g)(he:∀C AN AO ex,PE (eD X sc (bW own cap) C AN AO ex) elt te)
  (hs:∀x,foldedSetIterable iter X.env x=pure x:=by intro _;rfl):PE X (.ListComp elt [⟨target,iter,[],0⟩] sc pos) (sT own cap wi g te):=by
 intro AM s σ H Q I h;rw[vz];refine Li (use:=none) k hi hc hg he I h (λD C s' H' m I' fC hn q=>?_) hs;refine⟨m,hn,λh' sb=>⟨.ref D,H',?_,rfl,q⟩⟩;obtain⟨f0,f1,f2,f3,f4,f5⟩:=fC;exact I'.turned (t':=s'.toks) (λb o hb e=>(sb.2 b hb).trans e) f0 f1 f3 f4 f5
theorem O8{i:Nat}{x:Str}{py spos:ah}(hN:X.N.Nodup)(hx:X.N[i]?=some x)(hl:jP X.env.scope x)(k:gO X sc own cap)(hi:PI X target iter wi)(hc:X.calm=true)
  (hg:∀C AN AO ex,PG (eD X sc (bW own cap) C AN AO ex) target g)(he:∀C AN AO ex,PE (eD X sc (bW own cap) C AN AO ex) elt te)
  (hs:∀x,foldedSetIterable iter X.env x=pure x:=by intro _;rfl)(hsw:swapsWith (.ListComp elt [⟨target,iter,[],0⟩] sc pos) (some (.Name x py)) spos.line X.env=pure true:=by rfl)
  (hf:X.fn x=true\/X.env.scope.names.lookup x=some .local:=by first |exact .inl rfl |exact .inr rfl |assumption):
  PS X (.Assign [.Name x py] (.ListComp elt [⟨target,iter,[],0⟩] sc pos) spos) (Fe (sT own cap wi g te) (Kd i)):=by
 intro AM s σ H D I h;rw[exec_Assign_Name_used _ _ _ _ hsw];refine ae (ot (ae ?_));show wpAny _ X.A (comprehension (.ListComp elt [⟨target,iter,[],0⟩] sc pos) sc X.env _ (newList []) false (eval iter X.env) (some (assign (.Name x py) X.env)) >>= λ_=>pure ()) _ _ s;refine ae (bC (Li (use:=some (assign (.Name x py) X.env)) (Qf:=λ_ s'=>SP X AM D .next s') k hi hc hg he I h (λB C s' H' m I' fC hn q=>?_) hs) λ_ s' hq=>ai (ai hq))
 show wpAny _ _ (assign (.Name x py) X.env (.ref B)) _ _ s';obtain⟨o,es,ep,ho,hd,r⟩:=hn;obtain⟨f0,f1,f2,f3,f4,f5⟩:=fC;have I'':aF X (AM++[(C,o)]) σ H' s':=I'.pins_of λp hp=>(cq.mp hp).elim (λz=>I'.pin p (cu _ z)) λz=>by
  have e:p=(C,o):=by simpa using z
  subst e;exact⟨ho,f0,f1,f2,λv z=>by rw[hd]at z;cases z⟩
 refine wpAny_assign_Name (nR I'' hN hx hl (v:=.ref B) rfl (λs2 I2=>?_) hf);have pC:=I2.pin (C,o) (by simp);refine⟨m,⟨o,es,ep,pC.1,hd,r⟩,λh' sb=>⟨_,H',?_,q⟩⟩;exact(I2.unpinned).turned (t':=s2.toks) (λb o hb e=>(sb.2 b hb).trans e) f0 f1 f3 f4 f5
end
section
variable{X:Cx}
end
section
variable{prog:Program}{w:am}{A:aq}{E:Value->aa->Prop}{s:aa}
theorem Gv{it t:Addr}{i:Nat}{items:Array Value}{x:Value}{Q:Value->aa->Prop}(git:s.heap.IsTupleIter it t i)(gt:s.heap.IsTuple t items)(gx:items[i]?=some x)
  (gQ:∀h',h'.IsTupleIter it t (i+1)->ik it s.heap h'->Q x {s with heap:=h'}):wpAny (model prog w) A (ko (.ref it)) Q E s:=by
 obtain⟨o,go,gc,gd⟩:=id git;obtain⟨ol,gol,_,nl,gdl⟩:=gt;unfold ko;refine ae (kn (name:=gj "__next__") git.typeIs qx (ji qx git.typeIs zz ?_ (a6 _)));show wpAny _ _ (field (.ref it) 0 >>= _) _ _ s;refine ae (fw go gd (x:=.ref t) rfl ?_);show wpAny _ _ (if(ie t==cj)=true then _ else _) _ _ s;rw[if_neg (show ¬((ie t==cj)=true) from jh)];show wpAny _ _ (field (.ref it) 1 >>= _) _ _ s;refine ae (fw go gd (x:=.int i 0) rfl ?_);show wpAny _ _ (seqItems? (.ref t) >>= _) _ _ s;refine ae (kg gol gdl ?_);simp only[la,gx];refine ae (ld go gd (by simp) (ai ⟨_,rfl,ai (gQ _ ?_ (nv ..))⟩));refine⟨_,qq _ go (wd (ny gd _)),(we ..).trans gc,?_⟩;rw[ny gd];simp[rawInt]
theorem Vt{it t:Addr}{i:Nat}{items:Array Value}{Q:Value->aa->Prop}(hh:A.handled=none)(git:s.heap.IsTupleIter it t i)(gt:s.heap.IsTuple t items)(gx:items[i]?=none)
  (gE:∀h' e,oa it s.heap h'->(∃o,h'.get? e=some o/\o.cls=.type "StopIteration")->E (.ref e) {s with heap:=h'}):wpAny (model prog w) A (ko (.ref it)) Q E s:=by
 obtain⟨o,go,gc,gd⟩:=id git;obtain⟨ol,gol,_,nl,gdl⟩:=gt;unfold ko;refine ae (kn (name:=gj "__next__") git.typeIs qx (ji qx git.typeIs zz ?_ (a6 _)));show wpAny _ _ (field (.ref it) 0 >>= _) _ _ s;refine ae (fw go gd (x:=.ref t) rfl ?_);show wpAny _ _ (if(ie t==cj)=true then _ else _) _ _ s;rw[if_neg (show ¬((ie t==cj)=true) from jh)];show wpAny _ _ (field (.ref it) 1 >>= _) _ _ s;refine ae (fw go gd (x:=.int i 0) rfl ?_);show wpAny _ _ (seqItems? (.ref t) >>= _) _ _ s;refine ae (kg gol gdl ?_);simp only[la,gx]
 first
  |refine ae (ou (ae (ld go gd (by simp) (ae (qy ?_)))))
  |refine ae (ou (ae (ld go gd (by simp) ?_)))
 show wpAny _ _ (newExc (.type "StopIteration") [] >>= _) _ _ _;refine ae ?_;simp only[newExc,newTuple];refine ae (ir ?_ (by size_fits));refine ae (m:=firstArgMember _ _) (wpAny_of_eq (a:=cj) (by first |rfl |(simp only[firstArgMember];rfl)) ?_)
 refine ir ?_ (by size_fits);simp only[raiseNew];refine ae (wpAny_handled ?_)
 first
  |rw[show A.in1.handled=none from hh]
  |rw[hh]
 refine ae (ai (wpAny_throw ?_));exact gE _ _ (((nv ..).extBut.push _).push _) ⟨_,cy _ rfl,rfl⟩
end
theorem Hz{prog:Program}{w:am}{A:aq}(hh:A.handled=none)(it t:Addr)(hne:t≠it)(items:Array Value):
  jr prog w A it [it,t] items.size (λi v=>items[i]?=some v) (λi h=>h.IsTupleIter it t i/\h.IsTuple t items) where
 live:=λ_ _ st=>let⟨o,ho,_⟩:=st.1;⟨o,ho⟩
 frame:=λ_ _ _ st hk=>⟨let⟨o,ho,r⟩:=st.1;⟨o,hk it (by simp) o ho,r⟩,let⟨o,ho,r⟩:=st.2;⟨o,hk t (by simp) o ho,r⟩⟩
 item:=λi s Q E hi st hQ=>by
  refine Gv st.1 st.2 (x:=items[i]) (by simp[hi]) λh' hit' hs'=>?_;exact hQ _ h' s.toks (by simp[hi]) ⟨hit',st.2.extBut hs'.extBut hne⟩ hs'
 done:=λs Q E st hE=>Vt hh st.1 st.2 (by simp) hE
structure tQ(z TI TO i1 i2:Addr)(fp1 fp2:List Addr):Prop where
 tiz:TI≠z
 toz:TO≠z
 tito:TI≠TO
 ti1:TI≠i1
 ti2:TI≠i2
 z1:z∉fp1
 z2:z∉fp2
 to1:TO∉fp1
 to2:TO∉fp2
 i12:i1∉fp2
 i21:i2∉fp1
 m1:i1∈fp1
 m2:i2∈fp2
section
variable{prog:Program}{w:am}{A:aq}{E:Value->aa->Prop}{s:aa}{z TI TO i1 i2:Addr}{fp1 fp2:List Addr}{n1 n2 i:Nat}{P1 P2:Nat->Value->Prop}{S1 S2:Nat->Heap->Prop}{a b:Value}
theorem Mx{Q:Value->aa->Prop}(D1:jr prog w A i1 fp1 n1 P1 S1)(D2:jr prog w A i2 fp2 n2 P2 S2)(ap:tQ z TI TO i1 i2 fp1 fp2)(gz:fx s.heap z TI TO .none)(gTI:dm s.heap TI (.ref i1) (.ref i2))(gTO:dm s.heap TO a b)
  (g1:S1 i s.heap)(g2:S2 i s.heap)(l1:i<n1)(l2:i<n2)
  (gQ:∀h' tk x y,P1 i x->P2 i y->fx h' z TI TO (rawInt s.heap.objs.size)->dm h' TO x y->S1 (i+1) h'->S2 (i+1) h'->dm h' s.heap.objs.size x y->
   (∀c o,c≠z->c≠TO->c≠i1->c≠i2->s.heap.get? c=some o->h'.get? c=some o)->Q (.ref s.heap.objs.size) {s with heap:=h',toks:=tk}):
  wpAny (model prog w) A (Builtin.«zip.__next__» ⟨[.ref z],[]⟩) (λfin s'=>∃v,fin=.done (.ret v)/\Q v s') E s:=by
 have nz1:i1≠z:=λq=>ap.z1 (q▸ap.m1);have nz2:i2≠z:=λq=>ap.z2 (q▸ap.m2);have nt1:TO≠i1:=λq=>ap.to1 (q▸ap.m1);have nt2:TO≠i2:=λq=>ap.to2 (q▸ap.m2);show wpAny _ _ (field (.ref z) 2 >>= _) _ _ _;refine ae (fw gz rfl (x:=.bool false) rfl ?_);show wpAny _ _ (field (.ref z) 3 >>= _) _ _ _;refine ae (fw gz rfl (x:=.ref TI) rfl ?_);refine ae (kg gTI rfl ?_);show wpAny _ _ (qz (.ref z) >>= _) _ _ _;refine ae ?_;unfold qz;refine ae (fw gz rfl (x:=.none) rfl (ai ?_));simp only[if_true];refine ae (ou ?_);refine ae (fw gz rfl (x:=.ref TO) rfl ?_);refine ae (og gz (by simp) λh1 gz1 s1=>?_)
 replace gz1:fx h1 z TI TO .ellipsis:=gz1
 refine ae ?_;simp only[a7,a8,qw,wg];refine ae (ae (rc ?_));show wpAny _ _ (ko (.ref i1) >>= _) _ _ _;refine ae (D1.item i _ _ _ l1 (D1.frame _ _ _ g1 λc hc o q=>s1.extBut c o (λe=>ap.z1 (e▸hc)) q) λx h2 tk2 px g1' s2=>ai ?_);have gTO2:dm h2 TO a b:=s2.extBut _ _ nt1 (s1.extBut _ _ ap.toz gTO);refine ae (kg gTO2 rfl ?_);refine ae (wj (s:={s with heap:=h2,toks:=tk2}) gTO2 λh3 gTO3 s3=>?_)
 replace gTO3:dm h3 TO x b:=gTO3
 replace s3:ik TO h2 h3:=s3
 refine ae (qy (ai ?_));refine ae (ae (rc ?_));show wpAny _ _ (ko (.ref i2) >>= _) _ _ _;have g2':S2 i h3:=D2.frame _ _ _ g2 λc hc o q=>s3.extBut c o (λe=>ap.to2 (e▸hc)) (s2.extBut c o (λe=>ap.i12 (e▸hc)) (s1.extBut c o (λe=>ap.z2 (e▸hc)) q));refine ae (D2.item i _ _ _ l2 g2' λy h4 tk4 py g2'' s4=>ai ?_)
 replace s4:ik i2 h3 h4:=s4
 have gTO4:dm h4 TO x b:=s4.extBut _ _ nt2 gTO3;refine ae (kg gTO4 rfl ?_);refine ae (wj (s:={s with heap:=h4,toks:=tk4}) gTO4 λh5 gTO5 s5=>?_)
 replace gTO5:dm h5 TO x y:=gTO5
 replace s5:ik TO h4 h5:=s5
 refine ae (qy (ai (ai ?_)));refine ae (kg gTO5 rfl ?_);refine ae (wpAny_newTuple ?_);have hsz:h5.objs.size=s.heap.objs.size:=by rw[s5.1,s4.1,s3.1,s2.1,s1.1]
 have gz5:fx h5 z TI TO .ellipsis:=s5.extBut _ _ ap.toz.symm (s4.extBut _ _ nz2.symm (s3.extBut _ _ ap.toz.symm (s2.extBut _ _ nz1.symm gz1)));have k5:∀c o,c≠z->c≠TO->c≠i1->c≠i2->s.heap.get? c=some o->h5.get? c=some o:=λc o c1 c2 c3 c4 q=>s5.extBut _ _ c2 (s4.extBut _ _ c4 (s3.extBut _ _ c2 (s2.extBut _ _ c3 (s1.extBut _ _ c1 q))));have g15:S1 (i+1) h5:=D1.frame _ _ _ g1' λc hc o q=>s5.extBut c o (λe=>ap.to1 (e▸hc)) (s4.extBut c o (λe=>ap.i21 (e▸hc)) (s3.extBut c o (λe=>ap.to1 (e▸hc)) q));have g25:S2 (i+1) h5:=D2.frame _ _ _ g2'' λc hc o q=>s5.extBut c o (λe=>ap.to2 (e▸hc)) q;have zlt:z<h5.objs.size:=br gz5;show wpAny _ _ (c7 (.ref z) (.ref h5.objs.size) >>= _) _ _ _;refine ae ?_;unfold c7;have gz6:fx (h5.push {cls:=.type "tuple",data:=.seq #[x,y]}) z TI TO .ellipsis:=av _ gz5;refine ae (og gz6 (by simp) λh7 gz7 s7=>?_)
 replace gz7:fx h7 z TI TO (rawInt h5.objs.size):=gz7
 refine og gz7 (by simp) λh8 gz8 s8=>?_
 replace gz8:fx h8 z TI TO (rawInt h5.objs.size):=gz8
 have up:∀c o,c≠z->h5.get? c=some o->h8.get? c=some o:=λc o c1 q=>s8.extBut _ _ c1 (s7.extBut _ _ c1 (av _ q));have gT8:dm h8 h5.objs.size x y:=s8.extBut _ _ (ng zlt) (s7.extBut _ _ (ng zlt) (cy _ rfl));rw[hsz]at gz8 gT8;refine ai ⟨_,rfl,?_⟩;show Q (.ref h5.objs.size) _;rw[hsz];exact gQ h8 _ x y px py gz8 (up _ _ ap.toz gTO5) (D1.frame _ _ _ g15 λc hc o q=>up c o (λe=>ap.z1 (e▸hc)) q) (D2.frame _ _ _ g25 λc hc o q=>up c o (λe=>ap.z2 (e▸hc)) q) gT8 λc o c1 c2 c3 c4 q=>up c o c1 (k5 c o c1 c2 c3 c4 q)
theorem Qx{Q:Fin->aa->Prop}(D1:jr prog w A i1 fp1 n1 P1 S1)(D2:jr prog w A i2 fp2 n2 P2 S2)(ap:tQ z TI TO i1 i2 fp1 fp2)(gz:fx s.heap z TI TO .none)(gTI:dm s.heap TI (.ref i1) (.ref i2))(gTO:dm s.heap TO a b)
  (g1:S1 i s.heap)(g2:S2 i s.heap)(fin:i=n1\/(i<n1/\i=n2))
  (gE:∀h' tk e,(∀c o,c≠z->c≠TO->c≠i1->c≠i2->s.heap.get? c=some o->h'.get? c=some o)->(∃o,h'.get? e=some o/\o.cls=.type "StopIteration")->E (.ref e) {s with heap:=h',toks:=tk}):
  wpAny (model prog w) A (Builtin.«zip.__next__» ⟨[.ref z],[]⟩) Q E s:=by
 have nz1:i1≠z:=λq=>ap.z1 (q▸ap.m1);have nz2:i2≠z:=λq=>ap.z2 (q▸ap.m2);have nt1:TO≠i1:=λq=>ap.to1 (q▸ap.m1);have nt2:TO≠i2:=λq=>ap.to2 (q▸ap.m2);show wpAny _ _ (field (.ref z) 2 >>= _) _ _ _;refine ae (fw gz rfl (x:=.bool false) rfl ?_);show wpAny _ _ (field (.ref z) 3 >>= _) _ _ _;refine ae (fw gz rfl (x:=.ref TI) rfl ?_);refine ae (kg gTI rfl ?_);show wpAny _ _ (qz (.ref z) >>= _) _ _ _;refine ae ?_;unfold qz;refine ae (fw gz rfl (x:=.none) rfl (ai ?_));simp only[if_true];refine ae (ou ?_);refine ae (fw gz rfl (x:=.ref TO) rfl ?_);refine ae (og gz (by simp) λh1 gz1 s1=>?_)
 replace gz1:fx h1 z TI TO .ellipsis:=gz1
 refine ae ?_;simp only[a7,a8,qw,wg];refine ae (ae (rc ?_));show wpAny _ _ (ko (.ref i1) >>= _) _ _ _;have g1':S1 i h1:=D1.frame _ _ _ g1 λc hc o q=>s1.extBut c o (λe=>ap.z1 (e▸hc)) q;rcases fin with e1 |⟨l1,e2⟩
 .subst e1
  refine ae (D1.done _ _ _ g1' λh2 e s2 he=>?_);obtain⟨oe,hoe,hce⟩:=he;have gz2:fx h2 z TI TO .ellipsis:=s2 _ _ nz1.symm gz1;have hez:e≠z:=λq=>by
   subst q;rw[gz2]at hoe;cases hoe;simp at hce
  refine og (s:={s with heap:=h2}) gz2 (by simp) λh3 _ s3=>?_;exact gE h3 _ e (λc o c1 _ c3 _ q=>s3.extBut _ _ c1 (s2 _ _ c3 (s1.extBut _ _ c1 q))) ⟨oe,s3.extBut _ _ hez hoe,hce⟩
 .subst e2
  refine ae (D1.item i _ _ _ l1 g1' λx h2 tk2 px g1'' s2=>ai ?_);have gTO2:dm h2 TO a b:=s2.extBut _ _ nt1 (s1.extBut _ _ ap.toz gTO);refine ae (kg gTO2 rfl ?_);refine ae (wj (s:={s with heap:=h2,toks:=tk2}) gTO2 λh3 gTO3 s3=>?_)
  replace s3:ik TO h2 h3:=s3
  refine ae (qy (ai ?_));refine ae (ae (rc ?_));show wpAny _ _ (ko (.ref i2) >>= _) _ _ _;have g2':S2 i h3:=D2.frame _ _ _ g2 λc hc o q=>s3.extBut c o (λe=>ap.to2 (e▸hc)) (s2.extBut c o (λe=>ap.i12 (e▸hc)) (s1.extBut c o (λe=>ap.z2 (e▸hc)) q));refine ae (D2.done _ _ _ g2' λh4 e s4 he=>?_)
  replace s4:oa i2 h3 h4:=s4
  obtain⟨oe,hoe,hce⟩:=he;have gz4:fx h4 z TI TO .ellipsis:=s4 _ _ nz2.symm (s3.extBut _ _ ap.toz.symm (s2.extBut _ _ nz1.symm gz1));have hez:e≠z:=λq=>by
   subst q;rw[gz4]at hoe;cases hoe;simp at hce
  refine og (s:={s with heap:=h4,toks:=tk2}) gz4 (by simp) λh5 _ s5=>?_;exact gE h5 _ e (λc o c1 c2 c3 c4 q=>s5.extBut _ _ c1 (s4 _ _ c4 (s3.extBut _ _ c2 (s2.extBut _ _ c3 (s1.extBut _ _ c1 q))))) ⟨oe,s5.extBut _ _ hez hoe,hce⟩
theorem Tu{Q:AF->aa->Prop}(D1:jr prog w A.in1 i1 fp1 n1 P1 S1)(D2:jr prog w A.in1 i2 fp2 n2 P2 S2)(ap:tQ z TI TO i1 i2 fp1 fp2)(gz:fx s.heap z TI TO .none)(gTI:dm s.heap TI (.ref i1) (.ref i2))(gTO:dm s.heap TO a b)
  (g1:S1 i s.heap)(g2:S2 i s.heap)(l1:i<n1)(l2:i<n2)
  (gQ:∀h' tk x y,P1 i x->P2 i y->fx h' z TI TO (rawInt s.heap.objs.size)->dm h' TO x y->S1 (i+1) h'->S2 (i+1) h'->dm h' s.heap.objs.size x y->
   (∀c o,c≠z->c≠TO->c≠i1->c≠i2->s.heap.get? c=some o->h'.get? c=some o)->Q (some (.ref s.heap.objs.size)) {s with heap:=h',toks:=tk}):
  wpAny (model prog w) A (pyNext (.ref z)) Q E s:=by
 have gT:s.TypeIs (.ref z) "zip":=⟨_,gz,rfl⟩;unfold pyNext;refine ae (pg (kn (name:=gj "__next__") gT re (ji re gT c8 ?_ (d4 _))));exact Mx D1 D2 ap gz gTI gTO g1 g2 l1 l2 λh' tk x y p1 p2 e1 e2 e3 e4 e5 e6=>ai (gQ h' tk x y p1 p2 e1 e2 e3 e4 e5 e6)
theorem Rt{Q:AF->aa->Prop}(D1:jr prog w A.in1 i1 fp1 n1 P1 S1)(D2:jr prog w A.in1 i2 fp2 n2 P2 S2)(ap:tQ z TI TO i1 i2 fp1 fp2)(gz:fx s.heap z TI TO .none)(gTI:dm s.heap TI (.ref i1) (.ref i2))(gTO:dm s.heap TO a b)
  (g1:S1 i s.heap)(g2:S2 i s.heap)(fin:i=n1\/(i<n1/\i=n2))
  (gQ:∀h' tk,(∀c o,c≠z->c≠TO->c≠i1->c≠i2->s.heap.get? c=some o->h'.get? c=some o)->Q none {s with heap:=h',toks:=tk}):wpAny (model prog w) A (pyNext (.ref z)) Q E s:=by
 have gT:s.TypeIs (.ref z) "zip":=⟨_,gz,rfl⟩;unfold pyNext;refine ae (pg (kn (name:=gj "__next__") gT re (ji re gT c8 ?_ (d4 _))));refine Qx D1 D2 ap gz gTI gTO g1 g2 fin λh' tk e hk he=>?_;obtain⟨o,ho,hc⟩:=he;refine ae (wk (T:="StopIteration") (b:=true) ⟨o,ho,hc⟩ isSubtype_stop ?_);exact ai (gQ _ _ hk)
end
abbrev xJ(h:Heap)(o1:Obj):Heap:=h.push o1
abbrev wP(h:Heap)(o1 o2:Obj):Heap:=(xJ h o1).push o2
abbrev xC(h:Heap)(o1 o2:Obj):Heap:=(wP h o1 o2).push {cls:=.type "tuple",data:=.seq #[.ref h.objs.size,.ref (xJ h o1).objs.size]}
abbrev wZ(h:Heap)(o1 o2:Obj):Heap:=(xC h o1 o2).push {cls:=.type "tuple",data:=.seq #[.none,.none]}
abbrev qR(h:Heap)(o1 o2:Obj):Heap:=(wZ h o1 o2).push {cls:=.type "zip",data:=.fields #[.none,.bool false,.bool false,.ref (wP h o1 o2).objs.size,.ref (xC h o1 o2).objs.size]}
def tH(l:Addr)(o:Obj)(G:Heap->Prop):Prop:=
 ∀(prog:Program)(w:am)(A:aq)(E:Value->aa->Prop)(s:aa)(Q:Value->aa->Prop),G s.heap->Q (.ref s.heap.objs.size) {s with heap:=s.heap.push o}->wpAny (model prog w) A (pyIter (.ref l)) Q E s
theorem Kw(l1 l2:Addr)(o1 o2:Obj)(G1 G2:Heap->Prop)(p1:tH l1 o1 G1)(p2:tH l2 o2 G2)(k2:∀h,G2 h->G2 (h.push o1)):
  Meets (Builtin.«zip.__new__» ⟨[.type "zip",.ref l1,.ref l2],[]⟩) (λ_ R s=>G1 s.heap/\G2 s.heap/\R (.ok (.ret (.ref (wZ s.heap o1 o2).objs.size))) {s with heap:=qR s.heap o1 o2}):=
 .of_wp λprog w A R s h=>by
  obtain⟨hp,g,d,tk,os⟩:=s;obtain⟨g1,g2,h⟩:=h;have hsub:=sub_zip;have q1:=λ(A':aq) (E':Value->aa->Prop) (Q':Value->aa->Prop)=>p1 prog w A' E' ⟨hp,g,d,tk,os⟩ Q' g1;have q2:=λ(A':aq) (E':Value->aa->Prop) (Q':Value->aa->Prop)=>p2 prog w A' E' ⟨hp.push o1,g,d,tk,os⟩ Q' (k2 _ g2)
  wp_walk using q1 _ _ _,q2 _ _ _
  exact⟨_,rfl,h⟩
theorem Eu{prog:Program}{w:am}{A:aq}{E:Value->aa->Prop}{s:aa}{l1 l2:Addr}{o1 o2:Obj}{G1 G2:Heap->Prop}{Q:Value->aa->Prop}(p1:tH l1 o1 G1)(p2:tH l2 o2 G2)(k2:∀h,G2 h->G2 (h.push o1))(g1:G1 s.heap)(g2:G2 s.heap)
  (f1:o1.isFreed=false)(f2:o2.isFreed=false)
  (h:∀h',fx h' (s.heap.objs.size+4) (s.heap.objs.size+2) (s.heap.objs.size+3) .none->dm h' (s.heap.objs.size+2) (.ref s.heap.objs.size) (.ref (s.heap.objs.size+1))->dm h' (s.heap.objs.size+3) .none .none->
   h'.get? s.heap.objs.size=some o1->h'.get? (s.heap.objs.size+1)=some o2->(∀c o,s.heap.get? c=some o->h'.get? c=some o)->Q (.ref (s.heap.objs.size+4)) {s with heap:=h'}):
  wpAny (model prog w) A (call (.type "zip") [.ref l1,.ref l2]) Q E s:=by
 refine callType_new F.called_zip (by decide) (F.typeCall_zip_2 _ _) (F.newCall_zip_2 _ _) (λobj=>F.args_object_init_3 obj _ _) F.entry_zip_new (Kw l1 l2 o1 o2 G1 G2 p1 p2 k2) ⟨g1,g2,?_⟩;have e1:(xJ s.heap o1).objs.size=s.heap.objs.size+1:=jd ..;have e2:(wP s.heap o1 o2).objs.size=s.heap.objs.size+2:=by rw[jd,e1]
 have e3:(xC s.heap o1 o2).objs.size=s.heap.objs.size+3:=by rw[jd,e2]
 have e4:(wZ s.heap o1 o2).objs.size=s.heap.objs.size+4:=by rw[jd,e3]
 have r5:(qR s.heap o1 o2).get? (wZ s.heap o1 o2).objs.size=some _:=cy _ rfl;have r4:(qR s.heap o1 o2).get? (xC s.heap o1 o2).objs.size=some _:=av _ (cy _ rfl);have r3:(qR s.heap o1 o2).get? (wP s.heap o1 o2).objs.size=some _:=av _ (av _ (cy _ rfl));have r2:(qR s.heap o1 o2).get? (xJ s.heap o1).objs.size=some o2:=av _ (av _ (av _ (cy _ f2)));have r1:(qR s.heap o1 o2).get? s.heap.objs.size=some o1:=av _ (av _ (av _ (av _ (cy _ f1))));show _/\_;rw[e2,e3,e4]at r5;rw[e1,e2]at r3;rw[e3]at r4;rw[e1]at r2;rw[e4];exact⟨⟨_,r5,rfl⟩,h _ r5 r3 r4 r1 r2 λc o q=>av _ (av _ (av _ (av _ (av _ q))))⟩
def jD(f:Bool)(K:af)(H:Hp)(a:Addr)(xs:List V):Prop:=match f with
 |true=>dD K H a xs
 |false=>bT K H a xs
def mE(f:Bool)(it a:Addr)(i:Nat)(h:Heap):Prop:=match f with
 |true=>h.IsTupleIter it a i
 |false=>h.IsListIter it a i
def qU(f:Bool)(a:Addr)(items:Array Value)(h:Heap):Prop:=match f with
 |true=>h.IsTuple a items
 |false=>h.IsList a items
def Ze(f:Bool)(a:Addr):Obj:=match f with
 |true=>{cls:=.type "tuple_iterator",data:=.fields #[.ref a,.int 0 0]}
 |false=>{cls:=.type "list_iterator",data:=.fields #[.ref a,.int 0 0]}
section
variable{X:Cx}{AM:List (Addr×Obj)}{σ:St}{H:Hp}{s:aa}{a:Addr}{xs ys:List V}{f:Bool}
theorem aF.seqF(I:aF X AM σ H s)(h:jD f X.K H a xs):∃its:AE,aZ xs its/\qU f a its.toArray s.heap/\xs.length<=sizeLine:=by
 cases f with
 |true=>
  obtain⟨its,r,p,z⟩:=I.tuple h;exact⟨its,r,p,z⟩
 |false=>
  obtain⟨its,r,p,z⟩:=I.list h;exact⟨its,r,p.isList,z⟩
theorem aF.seqF_inj(I:aF X AM σ H s)(h:jD f X.K H a xs)(h':jD f X.K H a ys):xs=ys:=by
 cases f with
 |true=>exact I.tuple_inj h h'
 |false=>exact I.list_inj h h'
theorem aF.apart{b:Addr}(I:aF X AM σ H s)(fb:fG X AM H b)(h:jD f X.K H a xs):a≠b:=by
 have viaK:∀{o:Obj},X.K.lookup a=some o->a≠b:=λ{o} q e=>by
  have hb:X.base.get? b=some o:=e▸I.ok.mod.kin a o q;rcases fb.2.2.2.1 with z |z
  .exact I.ok.noex b o hb z
  .exact absurd (db (br (I.ok.bs b o hb).1) z) (jc _)
 cases f with
 |true=>
  rcases h with(h |⟨o,h⟩) |⟨o,_,_,q,_⟩
  .exact fS h fb.1
  .exact fS h fb.1
  .exact viaK q
 |false=>
  rcases h with(h |⟨o,h⟩) |⟨o,_,_,q,_⟩
  .exact fS h fb.1
  .exact fS h fb.1
  .exact viaK q
end
theorem vZ{prog:Program}{w:am}{A:aq}(f:Bool)(hh:A.handled=none)(it a:Addr)(hne:a≠it)(items:Array Value):
  jr prog w A it [it,a] items.size (λi v=>items[i]?=some v) (λi h=>mE f it a i h/\qU f a items h):=by
 cases f with
 |true=>exact Hz hh it a hne items
 |false=>exact Draws.list hh it a hne items
theorem Mr(f:Bool)(a:Addr)(items:Array Value):tH a (Ze f a) (qU f a items):=by
 cases f with
 |true=>exact λprog w A E s Q g q=>d5 g q
 |false=>exact λprog w A E s Q g q=>wm g q
theorem mE.keep{f:Bool}{it a:Addr}{i:Nat}{h h':Heap}(x:mE f it a i h)(k:∀o,h.get? it=some o->h'.get? it=some o):mE f it a i h':=by
 cases f with
 |true=>obtain⟨o,e,r⟩:=x;exact⟨o,k o e,r⟩
 |false=>obtain⟨o,e,r⟩:=x;exact⟨o,k o e,r⟩
theorem qU.keep{f:Bool}{a:Addr}{items:Array Value}{h h':Heap}(x:qU f a items h)(k:∀o,h.get? a=some o->h'.get? a=some o):qU f a items h':=by
 cases f with
 |true=>obtain⟨o,e,r⟩:=x;exact⟨o,k o e,r⟩
 |false=>obtain⟨o,e,r⟩:=x;exact⟨o,k o e,r⟩
theorem mE.obj{f:Bool}{it a:Addr}{i:Nat}{h:Heap}(x:mE f it a i h):∃o,h.get? it=some o/\∀v,o.data≠.cell v:=by
 cases f with
 |true=>obtain⟨o,e,_,d⟩:=x;exact⟨o,e,λv z=>by rw[d]at z;cases z⟩
 |false=>obtain⟨o,e,_,d⟩:=x;exact⟨o,e,λv z=>by rw[d]at z;cases z⟩
theorem Sh(f:Bool)(a it:Addr){h:Heap}(e:h.get? it=some (Ze f a)):mE f it a 0 h:=by
 cases f with
 |true=>exact⟨_,e,rfl,rfl⟩
 |false=>exact⟨_,e,rfl,rfl⟩
theorem Dk(f:Bool)(a:Addr):(Ze f a).isFreed=false:=by cases f<;>rfl
def Ht (K : af) (f1 : Bool) (a : Addr) (f2 : Bool) (b : Addr) : It :=
  ⟨λi H => ∃ xs ys x y, jD f1 K H a xs ∧ jD f2 K H b ys ∧ xs[i]? = some x ∧ ys[i]? = some y,
   λi H v H' => ∃ p x y, H p = none ∧ v = .ref p ∧ H' = aV H p (.tup [x, y]) ∧ (∀ xs, jD f1 K H a xs → xs[i]? = some x) ∧ ∀ ys, jD f2 K H b ys → ys[i]? = some y,
   λi H => ∃ xs ys, jD f1 K H a xs ∧ jD f2 K H b ys ∧ (i = xs.length ∨ (i < xs.length ∧ i = ys.length))⟩
structure xE(z TI TO i1 i2:Addr):Prop where
 tiz:TI≠z
 toz:TO≠z
 i1z:i1≠z
 i2z:i2≠z
 tito:TI≠TO
 ti1:TI≠i1
 ti2:TI≠i2
 to1:TO≠i1
 to2:TO≠i2
 i12:i1≠i2
theorem xE.ap{z TI TO i1 i2 a b:Addr}(r:xE z TI TO i1 i2)(h:∀c∈[z,TI,TO,i1,i2],a≠c)(g:∀c∈[z,TI,TO,i1,i2],b≠c):tQ z TI TO i1 i2 [i1,a] [i2,b] where
 tiz:=r.tiz
 toz:=r.toz
 tito:=r.tito
 ti1:=r.ti1
 ti2:=r.ti2
 z1:=λq=>by simp at q;rcases q with q |q;exact r.i1z q.symm;exact h z (by simp) q.symm
 z2:=λq=>by simp at q;rcases q with q |q;exact r.i2z q.symm;exact g z (by simp) q.symm
 to1:=λq=>by simp at q;rcases q with q |q;exact r.to1 q;exact h TO (by simp) q.symm
 to2:=λq=>by simp at q;rcases q with q |q;exact r.to2 q;exact g TO (by simp) q.symm
 i12:=λq=>by simp at q;rcases q with q |q;exact r.i12 q;exact g i1 (by simp) q.symm
 i21:=λq=>by simp at q;rcases q with q |q;exact r.i12 q.symm;exact h i2 (by simp) q.symm
 m1:=by simp
 m2:=by simp
theorem Jy{P:Program}{w:am}{K:af}{elts:List ag}{x1:Nat}{tp:ah}(f1 f2:Bool)(a b z TI TO i1 i2:Addr)(zr:xE z TI TO i1 i2):
  qT P w K (.Tuple elts x1 tp) (Ht K f1 a f2 b) [z,TI,TO,i1,i2] z (λi h=>fx h z TI TO .none/\dm h TI (.ref i1) (.ref i2)/\(∃u v,dm h TO u v)/\mE f1 i1 a i h/\mE f2 i2 b i h) where
 mem:=by simp
 obj:=λi h st c hc=>by
  obtain⟨e1,e2,⟨u,v,e3⟩,e4,e5⟩:=st;simp at hc;rcases hc with q |q |q |q |q
  .subst q
   exact⟨_,e1,λv z=>nomatch z⟩
  .subst q
   exact⟨_,e2,λv z=>nomatch z⟩
  .subst q
   exact⟨_,e3,λv z=>nomatch z⟩
  .subst q
   exact e4.obj
  .subst q
   exact e5.obj
 keep:=λi h h' st k=>by
  obtain⟨e1,e2,⟨u,v,e3⟩,e4,e5⟩:=st;exact⟨k z (by simp) _ e1,k TI (by simp) _ e2,⟨u,v,k TO (by simp) _ e3⟩,e4.keep λo q=>k i1 (by simp) o q,e5.keep λo q=>k i2 (by simp) o q⟩
 item:=by
  intro X hP hw hK hc i AM s σ H E I hf st hg;subst hP hw hK;obtain⟨xs,ys,x,y,hx,hy,ex,ey⟩:=hg;obtain⟨its,r1,p1,_⟩:=I.seqF hx;obtain⟨jts,r2,p2,_⟩:=I.seqF hy;obtain⟨ux,gx,rx⟩:=r1.get ex;obtain⟨uy,gy,ry⟩:=r2.get ey;obtain⟨e1,e2,⟨u,v,e3⟩,e4,e5⟩:=st;have na:∀c∈[z,TI,TO,i1,i2],a≠c:=λc hc=>I.apart (hf c hc) hx;have nb:∀c∈[z,TI,TO,i1,i2],b≠c:=λc hc=>I.apart (hf c hc) hy;have hd:X.A.in1.handled=none:=I.ok.hd hc;have D1:=vZ (prog:=X.prog) (w:=X.w) f1 hd i1 a (na i1 (by simp)) its.toArray;have D2:=vZ (prog:=X.prog) (w:=X.w) f2 hd i2 b (nb i2 (by simp)) jts.toArray;refine Tu D1 D2 (zr.ap na nb) e1 e2 e3 ⟨e4,p1⟩ ⟨e5,p2⟩ (ca.mp gx).1 (ca.mp gy).1 λh1 tk vx vy px py q1 q2 q3 q4 q5 k1=>⟨_,rfl,?_⟩;have ex':vx=ux:=by
   have:its[i]?=some vx:=by simpa using px
   rw[gx]at this;exact(cg this).symm
  have ey':vy=uy:=by
   have:jts[i]?=some vy:=by simpa using py
   rw[gy]at this;exact(cg this).symm
  subst ex' ey';have lt:∀c∈[z,TI,TO,i1,i2],c≠s.heap.objs.size:=λc hc=>by
   have:∃o,s.heap.get? c=some o:=by
    simp at hc;rcases hc with q |q |q |q |q
    .exact⟨_,q▸e1⟩
    .exact⟨_,q▸e2⟩
    .exact⟨_,q▸e3⟩
    .obtain⟨o,ho,_⟩:=e4.obj
     exact⟨o,q▸ho⟩
    .obtain⟨o,ho,_⟩:=e5.obj
     exact⟨o,q▸ho⟩
   obtain⟨o,ho⟩:=this;exact cw (br ho)
  refine wpAny_letOwnedTupleGo_zip (s:={s with heap:=h1,toks:=tk}) q1 λh2 z2 sb2=>?_;have t2:h2.get? s.heap.objs.size=some {cls:=.type "tuple",data:=.seq #[vx,vy]}:=(sb2.2 _ (lt z (by simp)).symm).trans q5;have I2:aF X AM σ (aV H s.heap.objs.size (.tup [x,y])) {s with heap:=h2,toks:=tk}:=
   I.turnedNew hf (λc o hc q=>(sb2.2 c (λe=>hc (by simp[e]))).trans (k1 c o (λe=>hc (by simp[e])) (λe=>hc (by simp[e])) (λe=>hc (by simp[e])) (λe=>hc (by simp[e])) q)) (aj _)
    ⟨by show 2<=sizeLine;decide,[vx,vy],.cons rx (.cons ry .nil),⟨_,t2,rfl,_,rfl⟩⟩
  refine⟨.ref s.heap.objs.size,_,I2,rfl,⟨_,x,y,I.hok.fresh (aj _),rfl,rfl,λzs hz=>by rw[I.seqF_inj hz hx];exact ex,λzs hz=>by rw[I.seqF_inj hz hy];exact ey⟩,
   ⟨z2,(sb2.2 _ zr.tiz).trans (k1 _ _ zr.tiz zr.tito zr.ti1 zr.ti2 e2),⟨_,_,(sb2.2 _ zr.toz).trans q2⟩,q3.1.keep λo q=>(sb2.2 _ zr.i1z).trans q,q4.1.keep λo q=>(sb2.2 _ zr.i2z).trans q⟩,λc hc=>?_⟩
  rw[bO (lt c hc)];exact(hf c hc).1
 done:=by
  intro X hP hw hK hc i AM s σ H E I hf st hg;subst hP hw hK;obtain⟨xs,ys,hx,hy,fin⟩:=hg;obtain⟨its,r1,p1,_⟩:=I.seqF hx;obtain⟨jts,r2,p2,_⟩:=I.seqF hy;have l1:=r1.length;have l2:=r2.length;obtain⟨e1,e2,⟨u,v,e3⟩,e4,e5⟩:=st;have na:∀c∈[z,TI,TO,i1,i2],a≠c:=λc hc=>I.apart (hf c hc) hx;have nb:∀c∈[z,TI,TO,i1,i2],b≠c:=λc hc=>I.apart (hf c hc) hy;have hd:X.A.in1.handled=none:=I.ok.hd hc;have D1:=vZ (prog:=X.prog) (w:=X.w) f1 hd i1 a (na i1 (by simp)) its.toArray;have D2:=vZ (prog:=X.prog) (w:=X.w) f2 hd i2 b (nb i2 (by simp)) jts.toArray;refine Rt D1 D2 (zr.ap na nb) e1 e2 e3 ⟨e4,p1⟩ ⟨e5,p2⟩ (by rw[ax,ax,<-l1,<-l2];exact fin) λh' tk k=>⟨rfl,?_⟩;exact I.turnedL hf λc o hc q=>k c o (λe=>hc (by simp[e])) (λe=>hc (by simp[e])) (λe=>hc (by simp[e])) (λe=>hc (by simp[e])) q
 self:=λ_ _ _ _ _ st h=>wpAny_pyIter_zip st.1 h
section
variable{X:Cx}{elts:List ag}{x1:Nat}{tp:ah}
def acu(K:af)(tl:TA):TI:=λσ H R=>tl σ H λvs H1=>∃f1 a f2 b xs ys,vs=[.ref a,.ref b]/\jD f1 K H1 a xs/\jD f2 K H1 b ys/\R (Ht K f1 a f2 b) H1
theorem aaC{l r:ag}{tl:TA}{p pos:ah}(hg:Gl X "zip")(hm:X.mg "zip"=none)(hl:PA X [l,r] tl)(hs:starEach [l,r] X.env=[(false,eval l X.env),(false,eval r X.env)]:=by rfl)(hs2:starEach [r] X.env=[(false,eval r X.env)]:=by rfl):
  PI X (.Tuple elts x1 tp) (.Call (.Name "zip" p) [l,r] [] pos) (acu X.K tl):=by
 intro AM s σ H R I h;refine Call_ (pV I hg hm boot_zip (ox (bC (hl pos AM s σ H _ I h) λus s1 ⟨vs,H1,I1,r1,q1⟩=>?_) (by rw[hs,hs2]) (by rw[hs2];rfl)));obtain⟨f1,a,f2,b,xs,ys,rfl,hx,hy,q⟩:=q1;obtain⟨u,v,rfl,ru,rv⟩:=aa8 r1;cases ru;cases rv;obtain⟨its,_,p1,_⟩:=I1.seqF hx;obtain⟨jts,_,p2,_⟩:=I1.seqF hy;refine Eu (Mr f1 a its.toArray) (Mr f2 b jts.toArray) (λh g=>g.keep λo z=>av _ z) p1 p2 (Dk _ _) (Dk _ _) λh' e1 e2 e3 e4 e5 k=>?_;refine wpAny_pyIter_zip (s:={s1 with heap:=h'}) e1 ?_;have zr:xE (s1.heap.objs.size+4) (s1.heap.objs.size+2) (s1.heap.objs.size+3) s1.heap.objs.size (s1.heap.objs.size+1):=by
  generalize s1.heap.objs.size=n;have g:∀i j:Nat,i≠j->((n:Nat)+i:Nat)≠n+j:=λi j h=>by omega
  exact⟨g 2 4 (by decide),g 3 4 (by decide),g 0 4 (by decide),g 1 4 (by decide),g 2 3 (by decide),g 2 0 (by decide),g 2 1 (by decide),g 3 0 (by decide),g 3 1 (by decide),g 0 1 (by decide)⟩
 refine⟨_,[s1.heap.objs.size+4,s1.heap.objs.size+2,s1.heap.objs.size+3,s1.heap.objs.size,s1.heap.objs.size+1],_,_,H1,rfl,I1.kept (t':=s1.toks) k,Jy f1 f2 a b _ _ _ _ _ zr,⟨e1,e2,⟨_,_,e3⟩,Sh f1 a _ e4,Sh f2 b _ e5⟩,λc hc=>?_,q⟩;have hb:s1.heap.objs.size<=c:=by
  simp only[bc,fi,or_false]at hc;rcases hc with q |q |q |q |q
  all_goals rw[q]
  all_goals first |exact aj _ |exact Nat.le_add_right _ _
 exact I1.fpOk hb (I1.hok.fresh hb)
end
structure mX(K:af)(x qual:Str)(st:Stmt)(f:Addr)(fd:cf)(ds:Array Value):Prop where
 ex:∃(oc:Value)(od:AG)(T:Addr)(oT:Obj)(n:Nat)(kV doc pm:Value)(an:AG)(cdv ct:Value)(osl:Array AF),
  fd=dq x qual (gF st) (eF st) (bY st) (.ref T) kV doc pm an cdv ct/\K.lookup f=some ⟨oc,od,.func fd,osl⟩/\ka K cdv qual=true/\K.lookup T=some oT/\oT.data=.seq ds n
 kp:ee K (.ref f)=true
section
variable{P:Program}{w:am}{K:af}{mg:Str->AF}{base:Heap}
theorem mX.binds{x qual:Str}{st:Stmt}{f:Addr}{fd:cf}{ds:Array Value}{ps:List Str}{dd:AE}(F:mX K x qual st f fd ds)
  (h:∀(T:Addr)(kV doc pm:Value)(an:AG)(cdv ct:Value)(us:AE),(us++dd).length=ps.length->
   ∃k,bindArgs (dq x qual (gF st) (eF st) (bY st) (.ref T) kV doc pm an cdv ct) ⟨us,[]⟩=seqItems? (.ref T) >>= k/\k (some ds)=pure (ps.zip (us++dd))):gR K fd ps dd:=by
 obtain⟨oc,od,T,oT,n,kV,doc,pm,an,cdv,ct,osl,rfl,lk,hcd,lT,hT⟩:=F.ex;intro s us hK hl;obtain⟨k,h1,h2⟩:=h T kV doc pm an cdv ct us hl;exact PySem.W.binds_K hK rfl lT hT h1 h2
theorem O1{x qual:Str}{st:Stmt}{f T:Addr}{oT:Obj}{n:Nat}{ds:Array Value}{oc:Value}{od an:AG}{osl:Array AF}{kV doc pm cdv ct:Value}(l:K.lookup f=some ⟨oc,od,.func (dq x qual (gF st) (eF st) (bY st) (.ref T) kV doc pm an cdv ct),osl⟩)
  (c:ka K cdv qual=true)(k:ee K (.ref f)=true)(lT:K.lookup T=some oT)(hT:oT.data=.seq ds n):mX K x qual st f (dq x qual (gF st) (eF st) (bY st) (.ref T) kV doc pm an cdv ct) ds:=
 ⟨⟨oc,od,T,oT,n,kV,doc,pm,an,cdv,ct,osl,rfl,l,c,lT,hT⟩,k⟩
end
theorem aaA{X:Cx}{sc:Scope}{own:List Str}{cap:List (Nat×Str)}(so:Scope)(N:List Str)(hso:X.env.scope=so)(hN:X.N=N)(kind:sc.kind=.function)(names:∀y∈sc.names,y.2=.local->sc.names.lookup y.1=some .local)
  (nocell:∀y∈sc.names,y.2≠.cell)(free:∀y∈sc.names,y.2=.free->so.names.lookup y.1=some .cell)(at':∀p∈cap,N[p.1]?=some p.2)(hcap:∀p∈cap,sc.names.lookup p.2=some .free):gO X sc own cap:=
 ⟨kind,names,nocell,λy hy e=>by show X.env.scope.names.lookup y.1=_;rw[hso];exact free y hy e,λp hp=>by rw[hN];exact at' p hp,hcap⟩
theorem zR(n d:Nat):HT.sIx (n+1) d (some (-1))=n:=by
 unfold HT.sIx;simp;omega
section
variable{X:Cx}
end
theorem gS.has{P:Program}{w:am}{H:Hp}{h:Heap}{a:Addr}{o:HO}(x:gS P w H h a o):∃u,h.get? a=some u:=by
 cases o with
 |lst xs=>obtain⟨_,_,_,_,e⟩:=x;exact⟨_,e⟩
 |tup xs=>obtain⟨_,_,_,u,e,_⟩:=x;exact⟨u,e⟩
 |dK kvs=>obtain⟨_,_,_,_,o,_,_,e,_⟩:=x;exact⟨_,e⟩
 |dT kvs=>obtain⟨_,_,_,_,o,_,_,e,_⟩:=x;exact⟨_,e⟩
 |set S n=>obtain⟨o,_,_,_,e,_⟩:=x;exact⟨_,e⟩
 |ins C dx fs=>obtain⟨_,_,_,e,_⟩:=x;exact⟨_,e⟩
 |own y=>exact x
 |xd fs=>obtain⟨_,⟨_,_,_,e,_⟩,_⟩:=x;exact⟨_,e⟩
 |rng lo hi=>obtain⟨_,_,_,e⟩:=x;exact⟨_,e⟩
 |frz ob u=>obtain⟨e,_⟩:=x;exact⟨_,e⟩
 |tbl ps=>exact⟨_,show h.get? a=some _ from x⟩
 |met f y=>exact⟨_,show h.get? a=some _ from x⟩
 |ext φ=>exact x.2.1
abbrev kH:AE:=[.type "ValueError",.type "Exception",.type "BaseException",.type "object"]
theorem Sl{K:af}{h:Heap}{C:Addr}{bmB:AE}{newId:String}(X:K.In h)(q:jb K C bmB newId=true):
  ∃bm N nm qn bs hdct sn sub ab col dd k0 k1 k2 k3 k5 mN,h.get? C=some (excClassObj nm qn C N bs bm hdct sn sub ab col dd k0 k1 k2 k3 k5 newId)/\h.Ns N mN/\mN "__init__"=none/\OwnTail h bmB bm:=by
 unfold jb at q;split at q
 .rename_i dd cd sl ho
  split at q
  .rename_i C' bm k0 k1 k2 k3 n k5 hm hs
   simp only[ja,beq_iff_eq,d6]at q;obtain⟨⟨⟨⟨⟨z1,z2⟩,hdel⟩,ht⟩,hok⟩,hni⟩:=q;subst z1 z2;obtain⟨nm,bs,mro,ns,qn,hd,sn,sub,ab,col,del⟩:=cd;dsimp only at hm hdel hok hni;subst hm hdel;have hsl:sl=#[k0,k1,k2,k3,some (.builtin n),k5]:=by
    obtain⟨l⟩:=sl;simp only at hs;rw[hs]
   subst hsl;refine⟨bm,ns,nm,qn,bs,hd,sn,sub,ab,col,dd,k0,k1,k2,k3,k5,_,X _ _ ho,.of_isNs (PySem.W.isNs_of_in X hok),PySem.W.nsMap_none_of_in X hok hni,PySem.W.tail_of_in X ht⟩
  .cases q
 .cases q
def fI(P:Program)(w:am):jA:=λouter H s E e s'=>∃(x C t:Addr)(B:Heap)(H':Hp),e=.ref x/\s'.os=s.os/\jg s'.gens/\Un (dS outer) [] H H' s.heap s'.heap/\eZ P w H' s'.heap/\
 Heap.FlyingW B outer x (.ref C) (.ref t) s'.heap/\(∀b o,s'.heap.get? b=some o->(∃u,H' b=some u)\/(∃o',s.heap.get? b=some o'/\b∉dS outer)->B.get? b=some o)/\E (.ref C) none H'
theorem Vz{P:Program}{w:am}{K:af}{mg:Str->AF}{base:Heap}{N:List Str}{qual:Str}{scope:Scope}{f:Addr}{cd:Value}{A:aq}{outer:List az}{AN:aa}{AO:Hp}{E:XK}
  {x:Str}{C:Addr}{txt:Str}{j:Nat}{np p1 cpos pos:ah}(hg:Gl (eW (fI P w) P w K mg base N qual scope f cd A outer AN AO E) x)(hm:mg x=some (.ref C))(hx:jb K C kH "ValueError.__new__"=true)
  (hd:(x==("__debug__":Str))=false:=by decide):
  PS (eW (fI P w) P w K mg base N qual scope f cd A outer AN AO E) (.Raise (some (.Call (.Name x np) [.Constant (.str txt) j p1] [] cpos)) none pos) (λ_ _ H=>E (.ref C) none H):=by
 intro AM s σ H D I h;obtain⟨bm,Nn,nm,qn,bs,hdct,sn,sub,ab,col,dd,k0,k1,k2,k3,k5,mN,hC,hN,hni,T⟩:=Sl I.ok.mod.kin hx;refine wpAny_Raise_call_subT (C:=C) (nm:=nm) (q:=qn) (N:=Nn) (bs:=bs) (bm:=bm) (hdct:=hdct) (sn:=sn) (sub:=sub) (ab:=ab) (col:=col) (dd:=dd) (k0:=k0) (k1:=k1) (k2:=k2) (k3:=k3) (k5:=k5)
  PySem.F.excBase_ValueError (mN:=mN) (T.hasType (by decide)) (I.ok.hd rfl) rfl hni (rZ I hg hm ⟨rfl,?_⟩ hd)
 refine uw (bC ((sE aaN sN) cpos AM s σ H (λvs H1=>vs=[.str txt]/\H1=H) I ⟨rfl,rfl⟩) λus s2 q2=>?_);obtain⟨vs,H2,I2,r2,rfl,rfl⟩:=q2;have l2:=r2.length;refine⟨rfl,by rw[<-l2];show 1<=sizeLine;decide,I2.bk _ _ hC,hN.keeps I2.bk,T.keeps I2.bk,λh' e made=>?_⟩
 --the frame is left
 have stk:(eW (fI P w) P w K mg base N qual scope f cd A outer AN AO E).stack=envOfC qual scope AN.heap.objs.size f cd::outer:=rfl;have nfr:∀{b u},H2 b=some u->b∉dS (envOfC qual scope AN.heap.objs.size f cd::outer):=λ{b u} q z=>by
  rw[I2.stkFree b z]at q;cases q
 have nL:∀{b o},AN.heap.get? b=some o->b∉dS outer->b∉dS (envOfC qual scope AN.heap.objs.size f cd::outer):=λ{b o} q z y=>by
  rcases bc.mp (I2.stkSub b y)with g |g
  .exact absurd (db (br q) I2.ok.above) (by rw[g];exact jc _)
  .exact z g
 refine wpAny_leaves_madeW (base:=tq s2.heap (dS (envOfC qual scope AN.heap.objs.size f cd::outer))) (h:=s2.heap) (s:={s2 with heap:=h'}) I2.ok.frames rfl (λb o q=>yt _ q)
  (PySem.W.funFrames_hide I2.stack λenv he b hb=>ue.mpr ⟨env,he,hb⟩) made λh'' t fl tup nb ups=>?_
 have keepB:∀b o,s2.heap.get? b=some o->b∉dS (envOfC qual scope AN.heap.objs.size f cd::outer)->h''.get? b=some o:=λb o q z=>fl.1 b o (tx _ q z);have upS:∀b o,s2.heap.get? b=some o->(∀vs,o.data≠.fields vs)->∃sl,h''.get? b=some {o with slots:=sl}:=λb o q z=>ups b o (made.keeps b o q) z;refine⟨e,C,t,_,H2,rfl,I2.os,I2.bare,⟨λb o q n hb _=>?_,λb o q n hb _=>?_,λb o q n _=>I2.base.free b o q n (by intro z;cases z),λb o q _=>?_,I2.base.tups,I2.base.frzs,I2.base.tbls⟩,λb u q=>?_,fl,λb o q z=>?_,h⟩
 .exact keepB b o (I2.base.keep b o q n hb (by intro z;cases z)) (nL q hb)
 .obtain⟨sl,g⟩:=I2.base.slot b o q n hb (by intro z;cases z)
  obtain⟨_,o',ho',hd'⟩:=I2.ok.funs.mem hb;have eo:o'=o:=by
   have ho2:AN.heap.get? b=some o':=ho';rw[q]at ho2;exact(cg ho2).symm
  subst eo;obtain⟨sl',g'⟩:=upS b _ g hd';exact⟨sl',g'⟩
 .obtain⟨o',g⟩:=I2.base.there b o q (by intro z;cases z)
  by_cases c:b∈dS (envOfC qual scope AN.heap.objs.size f cd::outer)
  .obtain⟨_,o2,ho2,hd2⟩:=I2.stack.mem c
   obtain⟨sl,g'⟩:=upS b o2 ho2 hd2;exact⟨_,g'⟩
  .exact⟨o',keepB b o' g c⟩
 .refine(I2.hok b u q).stay (λc v hc g=>keepB c v g ?_) (λ_ g=>g) λ_ _ g=>g
  rcases hc with z |z
  .rw[z]
   exact nfr q
  .exact nfr z
 .have go:∀{o2},s2.heap.get? b=some o2->b∉dS (envOfC qual scope AN.heap.objs.size f cd::outer)->(tq s2.heap (dS (envOfC qual scope AN.heap.objs.size f cd::outer))).get? b=some o:=λ{o2} g n=>by
   have:=keepB b o2 g n;have q':h''.get? b=some o:=q;rw[q']at this;cases this;exact tx _ g n
  rcases z with⟨u,z⟩|⟨o',z,nz⟩
  .obtain⟨o2,g⟩:=(I2.hok b u z).has
   exact go g (nfr z)
  .obtain⟨o2,g⟩:=I2.base.there b o' z (by intro z;cases z)
   exact go g (nL z nz)
section
variable{X:Cx}{AM:List (Addr×Obj)}{σ:St}{H H':Hp}{s s':aa}
theorem aF.flown{B h5:Heap}(I:aF X AM σ H s)(os:s'.os=s.os)(bare:jg s'.gens)(un:Un (dS X.stack) [] H H' s.heap s'.heap)(hok:eZ X.prog X.w H' s'.heap)
  (cov:∀b o,s'.heap.get? b=some o->(∃u,H' b=some u)\/(∃o',s.heap.get? b=some o'/\b∉dS X.stack)->B.get? b=some o)(fr:∀b∈dS X.stack,H' b=none)
  (st:B.StaysIn h5)(up:s'.heap.UpToSlots h5):aF X AM σ H' {s' with heap:=h5}:=by
 have nofr:∀{b u},H' b=some u->b∉dS X.stack:=λ{b u} q z=>by
  rw[fr b z]at q;cases q
 have frame:∀b∈dS X.stack,∃o sl,s.heap.get? b=some o/\H b=none/\h5.get? b=some {o with slots:=sl}:=λb hb=>by
  obtain⟨_,o,ho,hd⟩:=I.stack.mem hb;have hn:=I.stkFree b hb;obtain⟨sl,g⟩:=un.slot b o ho hn hb (by intro z;cases z);obtain⟨sl',g'⟩:=up b _ g hd;exact⟨o,sl',ho,hn,g'⟩
 refine I.call' (s':={s' with heap:=h5}) (ch:=[]) os ⟨λb o q n hb _=>?_,λb o q n hb _=>?_,un.free,λb o q _=>?_,un.tups,un.frzs,un.tbls⟩ (λb u q=>?_) bare λb z=>nomatch z
 .exact st b o (cov b o (un.keep b o q n hb (by intro z;cases z)) (.inr ⟨o,q,hb⟩))
 .obtain⟨o',sl,g1,_,g2⟩:=frame b hb
  rw[q]at g1;cases g1;exact⟨sl,g2⟩
 .by_cases c:b∈dS X.stack
  .obtain⟨o',sl,_,_,g2⟩:=frame b c
   exact⟨_,g2⟩
  .obtain⟨o',g⟩:=un.there b o q (by intro z;cases z)
   exact⟨o',st b o' (cov b o' g (.inr ⟨o,q,c⟩))⟩
 .refine(hok b u q).stay (λc v hc g=>st c v (cov c v g (.inl ?_))) (λ_ g=>g) λ_ _ g=>g
  rcases hc with z |z
  .exact⟨u,by rw[z];exact q⟩
  .exact⟨_,z⟩
end
section
variable{X:Cx}{k:Nat}{f:Addr}{fd:cf}{ps:List Str}{sp:Sp}{dvs:List V}{ds:AE}{E:XK}{x:Str}{p pos:ah}{e:ag}{es:List ag}{t:TA}
theorem R8{AM:List (Addr×Obj)}{σ:St}{H:Hp}{s:aa}{Q:VK}{us:AE}{vs:List V}{Ex:Value->aa->Prop}(F:dX X.prog X.w X.K X.mg X.base (fI X.prog X.w) k f fd ps sp)(hr:dI k X.A)(hb:gR X.K fd ps ds)(hd:aZ dvs ds)
  (I:aF X AM σ H s)(r:aZ vs us)(h:sp (vs++dvs) H Q E)(hx:∀e s',fI X.prog X.w X.stack H s E e s'->Ex e s'):wpAny (model X.prog X.w) X.A (call (.ref f) us) (EP X AM σ Q) Ex s:=by
 have r2:aZ (vs++dvs) (us++ds):=r.append hd;have hl:(us++ds).length=ps.length:=by rw[<-r2.length];exact F.len _ _ _ _ h
 refine wpAny_call (oz (F.run X.A X.stack s H ⟨us,[]⟩ (us++ds) (vs++dvs) Q E hr I.env0 (hb s us I.kIn hl) r2 h) λrr s' hq=>?_);cases rr with
 |error e=>exact hx e s' hq
 |ok fl=>
  cases fl with
  |ret u=>exact I.after hq
  |next=>exact io hq
  |brk=>exact io hq
  |cont=>exact io hq
theorem C3{AM:List (Addr×Obj)}{σ:St}{H:Hp}{s:aa}{Q:VK}{Ex:Value->aa->Prop}(hxe:X.xe=λ_ _=>False)(F:dX X.prog X.w X.K X.mg X.base (fI X.prog X.w) k f fd ps sp)(hr:dI k X.A)(hg:Gl X x)(hm:X.mg x=some (.ref f))(hk:ee X.K (.ref f)=true)
  (hb:gR X.K fd ps ds)(hd:aZ dvs ds)(ha:PA X (e::es) t)(I:aF X AM σ H s)(h:t σ H λvs H1=>sp (vs++dvs) H1 Q E)
  (hx:∀s1 H1 e s',aF X AM σ H1 s1->fI X.prog X.w X.stack H1 s1 E e s'->Ex e s')
  (hdb:(x==("__debug__":Str))=false:=by decide)(he:starEach (e::es) X.env=(false,eval e X.env)::starEach es X.env:=by rfl)(hpl:(backTo pos (starEach es X.env)).any (·.1)=false:=by rfl):
  wpAny (model X.prog X.w) X.A (eval (.Call (.Name x p) (e::es) [] pos) X.env) (EP X AM σ Q) Ex s:=by
 refine qj (rZ I hg hm ?_ hdb);refine za (h₀:=X.base) I.ok.mod.kin hk (dr (ha pos AM s σ H _ I h) (λus s1 q1=>?_) λ_ _ z=>?_) he hpl
 .obtain⟨vs,H1,I1,r,q⟩:=q1
  exact⟨I1.kIn,R8 F hr hb hd I1 r q λe s' c=>hx s1 H1 e s' I1 c⟩
 .rw[hxe]at z
  exact z.elim
end
section
variable{P:Program}{w:am}{K:af}{mg:Str->AF}{base:Heap}{CX:jA}
theorem iJ.okX{x qual:Str}{st:Stmt}{f:Addr}{fd:cf}{N ps:List Str}{k:Nat}{sp:Sp}(F:iJ K x qual st f fd)(S:iD N ps (bY st))(len:∀vs H Q E,sp vs H Q E->vs.length=ps.length)
  (hbody:∀(cdv:Value)(A:aq)(outer:List az)(s:aa)(H:Hp)(vs:List V)(Q:VK)(E:XK),dI k (A.deeper (envOfC qual (bY st) s.heap.objs.size f cdv))->sp vs H Q E->
   ∃t,fK (eW CX P w K mg base N qual (bY st) f cdv A outer s H E) (eF st) t/\t {nx:=λ_ H'=>Q .non H',rt:=Q} (start N vs) H):dX P w K mg base CX (k+1) f fd ps sp:=by
 obtain⟨oc,od,kV,doc,pm,an,cdv,ct,osl,rfl,lk,hcd⟩:=F.ex;exact Ld lk hcd S len λA outer s H vs Q E hr hsp=>hbody cdv A outer s H vs Q E hr hsp
theorem mX.okX{x qual:Str}{st:Stmt}{f:Addr}{fd:cf}{ds:Array Value}{N ps:List Str}{k:Nat}{sp:Sp}(F:mX K x qual st f fd ds)(S:iD N ps (bY st))(len:∀vs H Q E,sp vs H Q E->vs.length=ps.length)
  (hbody:∀(cdv:Value)(A:aq)(outer:List az)(s:aa)(H:Hp)(vs:List V)(Q:VK)(E:XK),dI k (A.deeper (envOfC qual (bY st) s.heap.objs.size f cdv))->sp vs H Q E->
   ∃t,fK (eW CX P w K mg base N qual (bY st) f cdv A outer s H E) (eF st) t/\t {nx:=λ_ H'=>Q .non H',rt:=Q} (start N vs) H):dX P w K mg base CX (k+1) f fd ps sp:=by
 obtain⟨oc,od,T,oT,n,kV,doc,pm,an,cdv,ct,osl,rfl,lk,hcd,_,_⟩:=F.ex;exact Ld lk hcd S len λA outer s H vs Q E hr hsp=>hbody cdv A outer s H vs Q E hr hsp
end
section
variable{X:Cx}{AM:List (Addr×Obj)}{σ:St}{H:Hp}{s:aa}
end
abbrev Cx.mk1(X:Cx)(x:Addr)(l:List (Addr×Obj)):Cx:={X with A:=X.A.mark (some (.ref x)),calm:=false,pn:=l++X.pn,xe:=λ_ _=>False}
section
variable{X:Cx}{AM:List (Addr×Obj)}{σ:St}{H:Hp}{s:aa}
theorem Cx.Ok.mk1(ok:X.Ok)(x:Addr)(l:List (Addr×Obj)):(X.mk1 x l).Ok:=
 ⟨ok.mod,ok.kind,ok.glob,ok.blt,ok.above,ok.inj,ok.has,ok.cab,λz=>(by cases z),ok.frames,ok.stk,ok.exf,ok.bs,ok.bsz,ok.noex,ok.exfs,ok.funs,ok.frf⟩
theorem aF.mk1(I:aF X AM σ H s)(x:Addr)(l:List (Addr×Obj))(h:∀p∈l,s.heap.get? p.1=some p.2/\H p.1=none/\p.1≠X.env.locals/\p.1∉X.fs/\∀v,p.2.data≠.cell v):aF (X.mk1 x l) AM σ H s:=
 ⟨I.ok.mk1 x l,I.os,I.bare,I.base,I.loc,I.cell,I.free,I.freeC,λp hp=>by
  rw[fz]at hp;exact(cq.mp hp).elim (h p) (I.pin p),I.hok,I.len⟩
theorem aF.unmk1{x:Addr}{l:List (Addr×Obj)}(ok:X.Ok)(I:aF (X.mk1 x l) AM σ H s):aF X AM σ H s:=
 ⟨ok,I.os,I.bare,I.base,I.loc,I.cell,I.free,I.freeC,λp hp=>I.pin p (by rw[fz];exact cu _ hp),I.hok,I.len⟩
end
theorem Cl{a b c:Heap}(h1:a.UpToSlots b)(h2:b.UpToSlots c):a.UpToSlots c:=λx o q d=>by
 obtain⟨sl,g⟩:=h1 x o q d;obtain⟨sl',g'⟩:=h2 x _ g d;exact⟨sl',g'⟩
section
variable{X:Cx}{k:Nat}{f:Addr}{fd:cf}{ps:List Str}{sp:Sp}{dvs:List V}{ds:AE}{x:Str}{p pos pos1 pos2 pos3 pc:ah}{e:ag}{es:List ag}{t:TA}{c n:Str}{C:Addr}{i:Nat}{AS:Stmt}{body:List Stmt}{newId:String}
end
open PySem.W PySem.Calls PySem.Builtin PySem.Builtin.Getset_descriptor
section
variable{prog:Program}{w:am}{A:aq}{E:Value->aa->Prop}{s:aa}{K:af}{x D:Addr}{B:String}{R:oy->aa->Prop}
end
section
variable{X:Cx}{y D:Addr}{oe:Obj}
end
def gD(h:Heap)(l:AA)(a:Addr):Prop:=∃o its n,h.get? a=some o/\o.cls=.type "tuple"/\o.data=.seq its n/\aZ (l.map V.int) its.toList
def iZ(h:Heap)(ks:AC)(a:Addr):Prop:=∃o its n,h.get? a=some o/\o.cls=.type "tuple"/\o.data=.seq its n/\ig (λk v=>∃b,v=ie b/\gD h k b) ks its.toList
def hF(l:AA):Int:=reduceHash (wn (l.map hashInt))
def hN(l:AC):Int:=reduceHash (wn (l.map hF))
abbrev iK(prog:Program)(w:am):KeyKind prog w Int:=intKind prog w
theorem Kk:∀{l m:AA}{us:AE},aZ (l.map V.int) us->aZ (m.map V.int) us->l=m
 |[],[],_,_,_=>rfl
 |[],_::_,_,.nil,h=>nomatch h
 |_::_,[],_,.cons _ _,h=>nomatch h
 |i::l,j::m,_,.cons r t,.cons r' t'=>by
  obtain⟨x,e⟩:=r;obtain⟨y,e'⟩:=r';rw[e]at e';injection e' with e1;rw[e1,Kk t t']
section
variable{prog:Program}{w:am}{A:aq}{E:Value->aa->Prop}{s:aa}{h h':Heap}{a b d:Addr}
theorem gD.inj{x y:AA}(hx:gD h x a)(hy:gD h y a):x=y:=by
 obtain⟨o,its,n,e,_,f,r⟩:=hx;obtain⟨o',its',n',e',_,f',r'⟩:=hy;cases cg (e.symm.trans e');cases f.symm.trans f';exact Kk r r'
theorem iZ.inj{x y:AC}(hx:iZ h x a)(hy:iZ h y a):x=y:=by
 obtain⟨o,its,n,e,_,f,r⟩:=hx;obtain⟨o',its',n',e',_,f',r'⟩:=hy;cases cg (e.symm.trans e');cases f.symm.trans f'
 revert r r'
 generalize its.toList=us;intro r
 induction r generalizing y with
 |nil=>intro r';cases r';rfl
 |cons p _ ih=>
  intro r';cases r' with
  |cons p' t'=>
   obtain⟨b,rfl,g⟩:=p;obtain⟨b',eb,g'⟩:=p';cases eb;rw[g.inj g',ih t']
theorem No{o o':Obj}{its:Array Value}{n:Nat}{es ep}(e:h.get? a=some o)(f:o.data=.seq its n)(e':h.get? d=some o')(f':o'.data=.dict es ep):a≠d:=λz=>by
 rw[z,e']at e;cases e;rw[f]at f';cases f'
theorem gD.keep{l:AA}{o':Obj}{es ep}(x:gD h l a)(e':h.get? d=some o')(f':o'.data=.dict es ep)(sb:ik d h h'):gD h' l a:=by
 obtain⟨o,its,n,e,c,f,r⟩:=x;exact⟨o,its,n,(sb.2 a (No e f e' f')).trans e,c,f,r⟩
theorem iZ.keep{l:AC}{o':Obj}{es ep}(x:iZ h l a)(e':h.get? d=some o')(f':o'.data=.dict es ep)(sb:ik d h h'):iZ h' l a:=by
 obtain⟨o,its,n,e,c,f,r⟩:=x;exact⟨o,its,n,(sb.2 a (No e f e' f')).trans e,c,f,Paired.mapP r λ_ _ ⟨b,eb,g⟩=>⟨b,eb,g.keep e' f' sb⟩⟩
theorem yS:∀{l:AA}{us:AE},aZ (l.map V.int) us->ItemsAre (iK prog w) l us
 |[],_,.nil=>.nil
 |i::l,_,.cons r t=>by
  obtain⟨t',rfl⟩:=r;exact .cons (by simp[iK,intKind,Value.isInt]) (yS t)
theorem gD.key{l:AA}(x:gD h l a):IsTupleKey (iK prog w) h l a:=by
 obtain⟨o,its,n,e,c,f,r⟩:=x;exact⟨o,its,n,e,c,f,yS r⟩
theorem B0{α:Type}[DecidableEq α](z:α)(l m:List α):((ce (min l.length m.length)).all (λj=>decide (l.getD j z=m.getD j z))&&l.length==m.length)=decide (l=m):=by
 rw[rf,ja,lm,decide_eq_true_iff];constructor
 .rintro⟨h1,h2⟩
  have hl:l.length=m.length:=by simpa using h2
  refine wo hl λi g1 g2=>?_;have:=h1 i (by simp;omega);simpa[ck,g1,g2]using this
 .rintro rfl
  exact⟨λi _=>by simp,by simp⟩
theorem uX{α β:Type}{R:α->β->Prop}:∀{l:List α}{m:List β},ig R l m->l.length=m.length/\∀(j:Nat)(x:α)(y:β),l[j]?=some x->m[j]?=some y->R x y
 |_,_,.nil=>⟨rfl,λj x y h=>by simp at h⟩
 |_,_,.cons r t=>by
  obtain⟨e,g⟩:=uX t;refine⟨by rw[bo,bo,e],λj x y h1 h2=>?_⟩;cases j with
  |zero=>
   simp at h1 h2;rw[<-h1,<-h2];exact r
  |succ j=>exact g j x y (by simpa using h1) (by simpa using h2)
theorem Qj{α:Type}[DecidableEq α](z:α){R:α->Value->Prop}{x y:List α}{o o':Obj}{us vs:Array Value}{n n':Nat}(hu:A.units<cLine)(ha:s.heap.get? a=some o)(hc:o.cls=.type "tuple")(hd:o.data=.seq us n)(hb:s.heap.get? b=some o')(hc':o'.cls=.type "tuple")(hd':o'.data=.seq vs n')
  (rx:ig R x us.toList)(ry:ig R y vs.toList)(same:a=b->x=y)(eq:∀k l u v,R k u->R l v->jt A.in1 s u v (decide (k=l))):jt A s (.ref a) (.ref b) (decide (x=y)):=by
 by_cases ab:a=b
 .rw[decide_eq_true (same ab),ab]
  exact rh _
 .obtain⟨m1,g1⟩:=uX rx
  obtain⟨m2,g2⟩:=uX ry;have l1:x.length=us.size:=by simpa using m1
  have l2:y.length=vs.size:=by simpa using m2
  have:=wq (A:=A) (s:=s) (l:=a) (b:=b) (items:=us) (items2:=vs) (e:=λj=>decide (x.getD j z=y.getD j z)) ⟨o,ha,hc,n,hd⟩ ⟨o',hb,hc',n',hd'⟩ hu λj h1 h2=>by
   have i1:j<x.length:=by omega
   have i2:j<y.length:=by omega
   have e1:x.getD j z=x[j]:=by simp[ck,i1]
   have e2:y.getD j z=y[j]:=by simp[ck,i2]
   rw[e1,e2];exact eq _ _ _ _ (g1 j _ _ (au i1) (by simp[h1])) (g2 j _ _ (au i2) (by simp[h2]))
  rw[<-l1,<-l2,B0]at this;exact wr ab this
theorem zC:∀{l:AA}{us:AE},aZ (l.map V.int) us->ig (λ(i:Int) v=>∃t,v=qe i t) l us
 |[],_,.nil=>.nil
 |_::_,_,.cons r t=>.cons r (zC t)
theorem gD.eq{x y:AA}(hu:A.units<cLine)(hx:gD s.heap x a)(hy:gD s.heap y b):jt A s (.ref a) (.ref b) (decide (x=y)):=by
 have inj:a=b->x=y:=λz=>by subst z;exact hx.inj hy
 obtain⟨o,us,n,e,c,f,r⟩:=hx;obtain⟨o',vs,n',e',c',f',r'⟩:=hy;refine Qj 0 hu e c f e' c' f' (zC r) (zC r') inj λk l u v ⟨t,eu⟩ ⟨t',ev⟩=>?_;subst eu ev;have:=d7 (A:=A.in1) (s:=s) k t l t';have e:(k==l)=decide (k=l):=by by_cases q:k=l<;>simp[q]
 rwa[e]at this
theorem iZ.eq{x y:AC}(hu:A.units+1<cLine)(hx:iZ s.heap x a)(hy:iZ s.heap y b):jt A s (.ref a) (.ref b) (decide (x=y)):=by
 have inj:a=b->x=y:=λz=>by subst z;exact hx.inj hy
 obtain⟨o,us,n,e,c,f,r⟩:=hx;obtain⟨o',vs,n',e',c',f',r'⟩:=hy;refine Qj [] (wt hu) e c f e' c' f' r r' inj λk l u v ⟨p,eu,g⟩ ⟨q,ev,g'⟩=>?_;subst eu ev;exact g.eq hu g'
theorem Eg{Q:Array Int->aa->Prop}(hu:A.units<cLine):∀(ks:AC)(vs:AE)(t:Nat)(acc:Array Int),ig (λk v=>∃b,v=ie b/\gD s.heap k b) ks vs->
  (∀acc':Array Int,acc'.toList=acc.toList++ks.map hF->Q acc' {s with toks:=t+(ks.map λk=>k.length+1).sum})->
  wpAny (model prog w) A (forIn vs acc λx r=>do let h <-pyHash x;pure PUnit.unit;pure (vq (r.push h))) Q E {s with toks:=t}
 |[],_,t,acc,.nil,q=>ai (by simpa using q acc (by simp))
 |k::ks,_,t,acc,.cons ⟨b,eb,g⟩ r,q=>by
  subst eb;rw[qw];refine ae (ae (wpAny_pyHash_tuple (knd:=iK prog w) (s:={s with toks:=t}) hu g.key ?_));refine ae (ai (ai ?_));refine Eg hu ks _ (t+(k.length+1)) _ r λacc' e=>?_;have:=q acc' (by rw[e];simp[hF,tupleKeyHash,iK,intKind]);rw[ay,rl]at this;simpa[wu]using this
theorem iZ.hash{ks:AC}{Q:Int->aa->Prop}(hu:A.units+1<cLine)(hk:iZ s.heap ks a)(q:Q (hN ks) {s with toks:=s.toks+((ks.map λk=>k.length+1).sum+1)}):wpAny (model prog w) A (pyHash (.ref a)) Q E s:=by
 obtain⟨o,its,n,e,c,f,r⟩:=hk;refine PySem.W.pyHash_slot (T:="tuple") ⟨o,e,c⟩ F.slot_tuple_hash F.entry_tuple_hash (F.args_tuple_hash_1 _) (beq_builtin_none _) (.inr (wt hu)) ?_;show wpAny _ _ (zf (.ref a) >>= _) _ _ s;refine ae (wpAny_tupleItemsOf e f (ae ?_));rw[<-d8];refine Eg hu ks its.toList s.toks #[] r λacc ea=>?_;show wpAny _ _ (retInt (wn acc.toList)) _ _ _;rw[ea];exact ae (wpAny_mkInt (ai ⟨_,_,rfl,by simpa[hN,wu]using q⟩))
theorem Rf{n:Nat}{P:Value->Prop}(hP:∀v(Q:Bool->aa->Prop),P v->Q true s->wpAny (model prog w) A (eqIsQuiet n v) Q E s){o:Obj}{its:Array Value}{m:Nat}{Q:Bool->aa->Prop}(e:s.heap.get? a=some o)(c:o.cls=.type "tuple")(f:o.data=.seq its m)(r:∀v∈its.toList,P v)(q:Q true s):
  wpAny (model prog w) A (eqIsQuiet (n+1) (.ref a)) Q E s:=by
 have hT:s.TypeIs (.ref a) "tuple":=⟨o,e,c⟩;unfold eqIsQuiet;refine ae (wpAny_specialOf hT F.slot_tuple_eq.lookup (ae (wk hT isSubtype_tuple_tuple ?_)));rw[if_neg (by simp)];refine ae (kg e f (ae ?_));show wpAny _ _ (forIn its _ _) _ _ s;rw[<-d8];refine wpAny_forIn_list _ (λgW z s'=>s'=s/\z.1=none/\∀v∈gW,P v) _ ?_ ?_ _ _ ⟨rfl,rfl,r⟩
 .rintro v gW z s' ⟨rfl,hz,hr⟩
  refine ae (hP v _ (hr v bi) ?_);rw[if_neg (by simp)];exact ai ⟨rfl,rfl,λu hu=>hr u (bh _ hu)⟩
 .rintro⟨z1,z2⟩ s' ⟨rfl,hz,_⟩
  cases hz;exact ai q
theorem gD.quiet{n:Nat}{l:AA}{Q:Bool->aa->Prop}(hk:gD s.heap l a)(q:Q true s):wpAny (model prog w) A (eqIsQuiet (n+1) (.ref a)) Q E s:=by
 obtain⟨o,its,m,e,c,f,r⟩:=hk;refine Rf (P:=λv=>carriedByValue v=true) (λv Q' hv q'=>?_) e c f (yS (prog:=prog) (w:=w) r).byValue q;rw[eqIsQuiet_byValue _ hv];exact ai q'
theorem iZ.quiet{ks:AC}{Q:Bool->aa->Prop}(hk:iZ s.heap ks a)(q:Q true s):wpAny (model prog w) A (eqIsQuiet 8 (.ref a)) Q E s:=by
 obtain⟨o,its,m,e,c,f,r⟩:=hk;refine Rf (P:=λv=>∃k b,v=.ref b/\gD s.heap k b) (λv Q' ⟨k,b,ev,g⟩ q'=>by subst ev;exact g.quiet (n:=6) q') e c f (λv hv=>?_) q;obtain⟨l1,g⟩:=uX r;obtain⟨i,hi,ev⟩:=wv.mp hv;have i1:i<ks.length:=by rw[l1];exact hi
 obtain⟨b,eb,gb⟩:=g i _ v (au i1) (by rw[au hi,ev]);exact⟨_,b,eb,gb⟩
end
def A1(prog:Program)(w:am):HeapKind prog w AC where
 is:=iZ
 hash:=hN
 draws:=λks=>(ks.map λk=>k.length+1).sum+1
 room:=λA=>A.units+1<cLine
 inj:=λhx hy=>hx.inj hy
 keeps:=λx ho hd hs=>x.keep ho hd hs
 pyHash:=λhu hk h=>hk.hash hu h
 eqBool:=λhu hx hy h=>hx.eq hu hy _ _ _ _ h
 quiet:=λhk h=>hk.quiet h
def fT:Bool->Type
 |false=>AA
 |true=>AC
instance decK:(n:Bool)->DecidableEq (fT n)
 |false=>inferInstanceAs (DecidableEq AA)
 |true=>inferInstanceAs (DecidableEq AC)
def Yq:(n:Bool)->fT n->Int
 |false=>hF
 |true=>hN
def lC(prog:Program)(w:am):(n:Bool)->HeapKind prog w (fT n)
 |false=>tupleKind (iK prog w)
 |true=>A1 prog w
theorem Dh{prog:Program}{w:am}:∀(n:Bool)(k:fT n),(lC prog w n).hash k=Yq n k
 |false,_=>rfl
 |true,_=>rfl
theorem yN{prog:Program}{w:am}{A:aq}(hu:A.units+2<cLine):∀n:Bool,(lC prog w n).room A.in1
 |false=>wt hu
 |true=>hu
end L2
namespace L2.Pp
open PySem PySem.Spec PyProof.Rows Bn
section
inductive PV where
 |non |bl (b:Bool) |int (i:Int) |str (x:Str) |tup (xs:List PV) |lst (xs:List PV)
abbrev AI:=List PV
abbrev AJ:=Option PV
inductive SO where
 |lst (xs:AI)
 |lol (xss:List AI)
 |dic (n:Bool) (kvs:List (PV×PV))
 |dol (n:Bool) (kvs:List (PV×AI))
abbrev aH:=List SO
inductive AV where
 |pv (v:PV) |ref (k:Nat)
abbrev AK:=Option AV
abbrev AL:=List AV
abbrev bM:=List AK
inductive bG(α:Type) where
 |ok (a:α) (S:aH) |exc (n:Str) (S:aH) |fail
def bG.bind{α β:Type}(r:bG α)(k:α->aH->bG β):bG β:=match r with
 |.ok a S=>k a S
 |.exc n S=>.exc n S
 |.fail=>.fail
inductive bV where
 |nx (ρ:bM) (S:aH) |rt (v:AV) (S:aH) |bk (ρ:bM) (S:aH) |ct (ρ:bM) (S:aH) |exc (n:Str) (S:aH) |fail
def kD(K:af)(c:Addr->Prop)(H:Hp)(a:Addr)(vs:List V):Prop:=
 (H a=some (.lst vs)/\¬c a)\/(∃o,H a=some (.frz o (.lst vs)))\/
  ∃(o:Obj)(its:Array Value)(n:Nat),K.lookup a=some o/\o.cls=.type "list"/\o.dict=none/\o.data=.seq its n/\its.size<=sizeLine/\aZ vs its.toList
theorem kD.sq{K:af}{c:Addr->Prop}{H:Hp}{a:Addr}{vs:List V}(h:kD K c H a vs):bT K H a vs:=by
 rcases h with h |h |h
 .exact .inl (.inl h.1)
 .exact .inl (.inr h)
 .exact .inr h
mutual
def aP(K:af)(c:Addr->Prop)(H:Hp):PV->V->Prop
 |.non,x=>x=.non
 |.bl b,x=>x=.bl b
 |.int i,x=>x=.int i
 |.str s,x=>x=.str s
 |.tup xs,x=>∃a vs,x=.ref a/\dD K H a vs/\vs.length<=sizeLine/\aQ K c H xs vs
 |.lst xs,x=>∃a vs,x=.ref a/\kD K c H a vs/\vs.length<=sizeLine/\aQ K c H xs vs
def aQ(K:af)(c:Addr->Prop)(H:Hp):AI->List V->Prop
 |[],vs=>vs=[]
 |p::ps,vs=>∃v r,vs=v::r/\aP K c H p v/\aQ K c H ps r
end
section
variable{K:af}{c c':Addr->Prop}{H H':Hp}
mutual
theorem aP.mono(hT:∀a vs,dD K H a vs->dD K H' a vs)(hL:∀a vs,kD K c H a vs->kD K c' H' a vs):∀(v:PV)(x:V),aP K c H v x->aP K c' H' v x
 |.non,x,h=>h
 |.bl b,x,h=>h
 |.int i,x,h=>h
 |.str s,x,h=>h
 |.tup xs,x,h=>by
  unfold aP at h⊢;obtain⟨a,vs,e,t,z,r⟩:=h;exact⟨a,vs,e,hT a vs t,z,aQ.mono hT hL xs vs r⟩
 |.lst xs,x,h=>by
  unfold aP at h⊢;obtain⟨a,vs,e,t,z,r⟩:=h;exact⟨a,vs,e,hL a vs t,z,aQ.mono hT hL xs vs r⟩
theorem aQ.mono(hT:∀a vs,dD K H a vs->dD K H' a vs)(hL:∀a vs,kD K c H a vs->kD K c' H' a vs):∀(v:AI)(x:List V),aQ K c H v x->aQ K c' H' v x
 |[],vs,h=>by
  unfold aQ at h⊢;exact h
 |p::ps,vs,h=>by
  unfold aQ at h⊢;obtain⟨v,r,e,h1,h2⟩:=h;exact⟨v,r,e,aP.mono hT hL p v h1,aQ.mono hT hL ps r h2⟩
end
theorem aQ.length:∀{xs:AI}{vs:List V},aQ K c H xs vs->xs.length=vs.length
 |[],vs,h=>by
  unfold aQ at h;rw[h];rfl
 |p::ps,vs,h=>by
  unfold aQ at h;obtain⟨v,r,rfl,_,h2⟩:=h;rw[bo,bo,aQ.length h2]
theorem aQ.get:∀{xs:AI}{vs:List V}{i:Nat}{p:PV},aQ K c H xs vs->xs[i]?=some p->∃v,vs[i]?=some v/\aP K c H p v
 |[],vs,i,p,h,e=>by simp at e
 |q::ps,vs,0,p,h,e=>by
  unfold aQ at h;obtain⟨v,r,rfl,h1,_⟩:=h;simp at e;subst e;exact⟨v,rfl,h1⟩
 |q::ps,vs,i+1,p,h,e=>by
  unfold aQ at h;obtain⟨v,r,rfl,_,h2⟩:=h;obtain⟨u,e1,e2⟩:=aQ.get (i:=i) h2 (by simpa using e);exact⟨u,by simpa using e1,e2⟩
theorem aQ.nil:aQ K c H [] []:=by
 unfold aQ;rfl
theorem aQ.cons{p:PV}{v:V}{ps:AI}{vs:List V}(h:aP K c H p v)(t:aQ K c H ps vs):aQ K c H (p::ps) (v::vs):=by
 unfold aQ;exact⟨v,vs,rfl,h,t⟩
theorem aQ.append:∀{xs ys:AI}{vs ws:List V},aQ K c H xs vs->aQ K c H ys ws->aQ K c H (xs++ys) (vs++ws)
 |[],ys,vs,ws,h,g=>by
  unfold aQ at h;subst h;exact g
 |p::ps,ys,vs,ws,h,g=>by
  unfold aQ at h;obtain⟨v,r,rfl,h1,h2⟩:=h;exact .cons h1 (h2.append g)
theorem aQ.drop:∀{xs:AI}{vs:List V}(n:Nat),aQ K c H xs vs->aQ K c H (xs.drop n) (vs.drop n)
 |xs,vs,0,h=>by simpa using h
 |[],vs,n+1,h=>by
  unfold aQ at h;subst h;simpa using aQ.nil
 |p::ps,vs,n+1,h=>by
  unfold aQ at h;obtain⟨v,r,rfl,_,h2⟩:=h;simpa using h2.drop n
theorem aQ.take:∀{xs:AI}{vs:List V}(n:Nat),aQ K c H xs vs->aQ K c H (xs.take n) (vs.take n)
 |xs,vs,0,h=>by simpa using aQ.nil
 |[],vs,n+1,h=>by
  unfold aQ at h;subst h;simpa using aQ.nil
 |p::ps,vs,n+1,h=>by
  unfold aQ at h;obtain⟨v,r,rfl,h1,h2⟩:=h;simpa using aQ.cons h1 (h2.take n)
theorem aQ.eraseIdx:∀{xs:AI}{vs:List V}(n:Nat),aQ K c H xs vs->aQ K c H (xs.eraseIdx n) (vs.eraseIdx n)
 |[],vs,n,h=>by
  unfold aQ at h;subst h;simpa using aQ.nil
 |p::ps,vs,0,h=>by
  unfold aQ at h;obtain⟨v,r,rfl,h1,h2⟩:=h;simpa using h2
 |p::ps,vs,n+1,h=>by
  unfold aQ at h;obtain⟨v,r,rfl,h1,h2⟩:=h;simpa using aQ.cons h1 (h2.eraseIdx n)
theorem aQ.set{p:PV}{v:V}(g:aP K c H p v):∀{xs:AI}{vs:List V}(n:Nat),aQ K c H xs vs->aQ K c H (xs.set n p) (vs.set n v)
 |[],vs,n,h=>by
  unfold aQ at h;subst h;simpa using aQ.nil
 |q::ps,vs,0,h=>by
  unfold aQ at h;obtain⟨v,r,rfl,h1,h2⟩:=h;simpa using aQ.cons g h2
 |q::ps,vs,n+1,h=>by
  unfold aQ at h;obtain⟨v,r,rfl,h1,h2⟩:=h;simpa using aQ.cons h1 (aQ.set g n h2)
end
structure Ph where
 f:List Addr
 w:Addr->Prop
 c:Addr->Prop
def wK(K:af)(c:Addr->Prop)(H:Hp)(xss:List AI)(bs:List Addr):Prop:=
 xss.length=bs.length/\∀(i:Nat)(xs:AI)(b:Addr),xss[i]?=some xs->bs[i]?=some b->∃vs,H b=some (.lst vs)/\vs.length<=sizeLine/\aQ K c H xs vs
def dR:(n:Bool)->fT n->PV
 |false,l=>.tup (lq PV.int l)
 |true,l=>.tup (lq (λr:AA=>PV.tup (r.map PV.int)) l)
def oD(es:Array DictEntry)(ep:Nat):Obj:={cls:=.type "dict",data:=.dict es ep}
def dO(a:Addr)(es:Array DictEntry)(ep:Nat):HO:=.ext λh=>h.get? a=some (oD es ep)
def jO(n:Bool)(x:fT n×Addr×Value):DictEntry:=⟨Yq n x.1,.ref x.2.1,x.2.2⟩
def nJ(K:af)(c:Addr->Prop)(H:Hp)(a:Addr)(n:Bool)(ks:AI)(us:AE):Prop:=
 ∃(xs:List (fT n×Addr×Value))(ep:Nat),H a=some (dO a (xs.map (jO n)).toArray ep)/\(a==sysModules)=false/\xs.length<=sizeLine/\(xs.map (·.1)).Nodup/\ks=xs.map (λx=>dR n x.1)/\aQ K c H ks (xs.map λx=>V.ref x.2.1)/\us=xs.map (·.2.2)
def mU(K:af)(p:Ph)(H:Hp)(a:Addr):SO->Prop
 |.lst xs=>∃vs,H a=some (.lst vs)/\vs.length<=sizeLine/\aQ K p.c H xs vs
 |.lol xss=>∃bs:List Addr,H a=some (.lst (bs.map V.ref))/\bs.length<=sizeLine/\bs.Nodup/\(∀b∈bs,p.w b/\b∉p.f)/\wK K p.c H xss bs
 |.dic n kvs=>∃us vs,nJ K p.c H a n (kvs.map (·.1)) us/\aZ vs us/\aQ K p.c H (kvs.map (·.2)) vs
 |.dol n kvs=>∃bs:List Addr,nJ K p.c H a n (kvs.map (·.1)) (bs.map ie)/\bs.Nodup/\(∀b∈bs,p.w b/\b∉p.f)/\wK K p.c H (kvs.map (·.2)) bs
theorem nJ.mono{K:af}{c c':Addr->Prop}{H H':Hp}{a:Addr}{n:Bool}{ks:AI}{us:AE}(h:nJ K c H a n ks us)(ha:∀o,H a=some o->H' a=some o)(hR:∀xs vs,aQ K c H xs vs->aQ K c' H' xs vs):nJ K c' H' a n ks us:=by
 obtain⟨xs,ep,e,z,l,nd,ek,r,eu⟩:=h;exact⟨xs,ep,ha _ e,z,l,nd,ek,hR _ _ r,eu⟩
theorem mU.mono{K:af}{p p':Ph}{H H':Hp}{a:Addr}{o:SO}(h:mU K p H a o)(ha:∀o,H a=some o->H' a=some o)
  (hb:∀b,p.w b->b∉p.f->(p'.w b/\b∉p'.f)/\∀vs,H b=some (.lst vs)->H' b=some (.lst vs))(hR:∀xs vs,aQ K p.c H xs vs->aQ K p'.c H' xs vs):mU K p' H' a o:=by
 have lol:∀{xss:List AI}{bs:List Addr},(∀b∈bs,p.w b/\b∉p.f)->wK K p.c H xss bs->wK K p'.c H' xss bs:=λwf ⟨z,at_⟩=>⟨z,λi xs b e1 e2=>by
  obtain⟨vs,g1,g2,g3⟩:=at_ i xs b e1 e2;have m:=wf b (cv e2);exact⟨vs,(hb b m.1 m.2).2 vs g1,g2,hR xs vs g3⟩⟩
 cases o with
 |lst xs=>
  obtain⟨vs,e,l,r⟩:=h;exact⟨vs,ha _ e,l,hR xs vs r⟩
 |lol xss=>
  obtain⟨bs,e,l,nd,wf,z⟩:=h;exact⟨bs,ha _ e,l,nd,λb m=>(hb b (wf b m).1 (wf b m).2).1,lol wf z⟩
 |dic n kvs=>
  obtain⟨us,vs,d,v,r⟩:=h;exact⟨us,vs,d.mono ha hR,v,hR _ _ r⟩
 |dol n kvs=>
  obtain⟨bs,d,nd,wf,z⟩:=h;exact⟨bs,d.mono ha hR,nd,λb m=>(hb b (wf b m).1 (wf b m).2).1,lol wf z⟩
def Mb:HO->Prop
 |.lst _=>True
 |.dK _=>True
 |.dT _=>True
 |.ins _ _ _=>True
 |.ext _=>True
 |_=>False
structure aU(K:af)(p:Ph)(S:aH)(H:Hp):Prop where
 nd:p.f.Nodup
 len:p.f.length=S.length
 sub:∀a∈p.f,p.w a
 wc:∀a,p.w a->p.c a
 mu:∀a,p.c a->∃o,H a=some o/\Mb o
 obj:∀(k:Nat)(a:Addr)(o:SO),p.f[k]?=some a->S[k]?=some o->mU K p H a o
structure bI(p:Ph)(H:Hp)(q:Ph)(H':Hp):Prop where
 wc:∀a,p.w a->p.c a
 mu:∀a,p.c a->∃o,H a=some o/\Mb o
 pre:p.f <+:q.f
 mw:∀a,p.w a->q.w a
 mono:∀a,p.c a->q.c a
 nf:∀a∈q.f,a∉p.f->H a=none
 nw:∀a,q.w a->¬p.w a->H a=none
 nc:∀a,q.c a->¬p.c a->H a=none
 keep:∀a o,H a=some o->¬p.w a->H' a=some o
def bR(K:af)(p:Ph)(H:Hp):AV->V->Prop
 |.pv v,x=>aP K p.c H v x
 |.ref k,x=>∃a,p.f[k]?=some a/\x=.ref a
abbrev fW(K:af)(p:Ph)(H:Hp):AL->List V->Prop:=ig (bR K p H)
structure dE(K:af)(p:Ph)(H:Hp)(ρ:bM)(σ:St):Prop where
 len:ρ.length=σ.length
 at_:∀(i:Nat)(v:AV),ρ[i]?=some (some v)->∃x,σ[i]?=some (some x)/\bR K p H v x
section
variable{K:af}{p q r:Ph}{H H' H'':Hp}{S:aH}
theorem aU.step(s:aU K p S H):bI p H p H:=⟨s.wc,s.mu,ju,λ_ h=>h,λ_ h=>h,λ_ h g=>absurd h g,λ_ h g=>absurd h g,λ_ h g=>absurd h g,λ_ _ h _=>h⟩
theorem bI.trans(a:bI p H q H')(b:bI q H' r H''):bI p H r H'':=by
 have back:∀x,H' x=none->¬p.w x->H x=none:=λx h n=>by
  cases e:H x with
  |none=>rfl
  |some o=>rw[a.keep x o e n]at h;cases h
 refine⟨a.wc,a.mu,a.pre.trans b.pre,λx h=>b.mw x (a.mw x h),λx h=>b.mono x (a.mono x h),λx h n=>?_,λx h n=>?_,λx h n=>?_,λx o e n=>?_⟩
 .by_cases m:x∈q.f
  .exact a.nf x m n
  .have hn:=b.nf x h m
   refine back x hn λz=>?_;obtain⟨o,ho,_⟩:=b.mu x (a.mono x (a.wc x z));rw[hn]at ho;cases ho
 .by_cases m:q.w x
  .exact a.nw x m n
  .exact back x (b.nw x h m) n
 .by_cases m:q.c x
  .exact a.nc x m n
  .exact back x (b.nc x h m) λz=>n (a.wc x z)
 .refine b.keep x o (a.keep x o e n) λz=>?_
  rw[a.nw x z n]at e;cases e
theorem bI.tup(s:bI p H q H'){a:Addr}{vs:List V}(h:dD K H a vs):dD K H' a vs:=by
 have go:∀o,H a=some o->¬Mb o->H' a=some o:=λo e n=>s.keep a o e λz=>by
  obtain⟨u,e',m⟩:=s.mu a (s.wc a z);rw[e]at e';cases e';exact n m
 rcases h with(h |⟨o,h⟩) |h
 .exact .inl (.inl (go _ h (λz=>z)))
 .exact .inl (.inr ⟨o,go _ h (λz=>z)⟩)
 .exact .inr h
theorem bI.lat(s:bI p H q H'){a:Addr}{vs:List V}(h:kD K p.c H a vs):kD K q.c H' a vs:=by
 rcases h with⟨h,n⟩|⟨o,h⟩|h
 .refine .inl ⟨s.keep a _ h λz=>n (s.wc a z),λz=>?_⟩
  rw[s.nc a z n]at h;cases h
 .refine .inr (.inl ⟨o,s.keep a _ h λz=>?_⟩)
  obtain⟨u,e',m⟩:=s.mu a (s.wc a z);rw[h]at e';cases e';exact m
 .exact .inr (.inr h)
theorem bI.rep(s:bI p H q H'){v:PV}{x:V}(h:aP K p.c H v x):aP K q.c H' v x:=aP.mono (λ_ _=>s.tup) (λ_ _=>s.lat) v x h
theorem bI.reps(s:bI p H q H'){v:AI}{x:List V}(h:aQ K p.c H v x):aQ K q.c H' v x:=aQ.mono (λ_ _=>s.tup) (λ_ _=>s.lat) v x h
theorem bI.at_(s:bI p H q H'){k:Nat}{a:Addr}(h:p.f[k]?=some a):q.f[k]?=some a:=by
 obtain⟨t,e⟩:=s.pre;rw[<-e,eh (by
  have:=ca.mp h;exact this.1)]
 exact h
theorem bI.repA(s:bI p H q H'){v:AV}{x:V}(h:bR K p H v x):bR K q H' v x:=by
 cases v with
 |pv v=>exact s.rep h
 |ref k=>
  obtain⟨a,e,f⟩:=h;exact⟨a,s.at_ e,f⟩
theorem bI.repE(s:bI p H q H'){ρ:bM}{σ:St}(h:dE K p H ρ σ):dE K q H' ρ σ:=
 ⟨h.len,λi v e=>let⟨x,e1,e2⟩:=h.at_ i v e;⟨x,e1,s.repA e2⟩⟩
theorem aU.same(s:aU K p S H)(h:dH H H'):bI p H p H':=⟨s.wc,s.mu,ju,λ_ h=>h,λ_ h=>h,λ_ h g=>absurd h g,λ_ h g=>absurd h g,λ_ h g=>absurd h g,λa o e _=>h a o e⟩
theorem aU.ofSame(s:aU K p S H)(h:dH H H'):aU K p S H':=
 ⟨s.nd,s.len,s.sub,s.wc,λa m=>let⟨o,e,m⟩:=s.mu a m;⟨o,h a o e,m⟩,λk a o e1 e2=>by
  exact(s.obj k a o e1 e2).mono (λvs e=>h _ _ e) (λb w f=>⟨⟨w,f⟩,λvs e=>h _ _ e⟩) λxs vs=>(s.same h).reps⟩
theorem gK{a:Addr}{o:HO}(h:H a=none):dH H (aV H a o):=λb u e=>by
 rw[bO (fS e h)];exact e
end
section
variable{α β γ δ:Type}
def bN(K:af)(cl:Str->Addr)(R:Ph->Hp->α->β->Prop)(p:Ph)(H:Hp)(r:bG α)(Q:β->Hp->Prop)(E:XK):Prop:=match r with
 |.ok a S=>∀q H' x,bI p H q H'->aU K q S H'->R q H' a x->Q x H'
 |.exc n S=>∀q H',bI p H q H'->aU K q S H'->E (.ref (cl n)) none H'
 |.fail=>False
def eC(K:af)(cl:Str->Addr)(p:Ph)(H:Hp)(r:bV)(D:lE)(E:XK):Prop:=match r with
 |.nx ρ S=>∀q H' σ,bI p H q H'->aU K q S H'->dE K q H' ρ σ->D.nx σ H'
 |.bk ρ S=>∀q H' σ,bI p H q H'->aU K q S H'->dE K q H' ρ σ->D.bk σ H'
 |.ct ρ S=>∀q H' σ,bI p H q H'->aU K q S H'->dE K q H' ρ σ->D.ct σ H'
 |.rt v S=>∀q H' x,bI p H q H'->aU K q S H'->bR K q H' v x->D.rt x H'
 |.exc n S=>∀q H',bI p H q H'->aU K q S H'->E (.ref (cl n)) none H'
 |.fail=>False
variable{K:af}{cl:Str->Addr}{p q:Ph}{H H':Hp}{S:aH}{E:XK}{R:Ph->Hp->α->β->Prop}{R':Ph->Hp->γ->δ->Prop}
theorem bN.mono{r:bG α}{Q:β->Hp->Prop}(h:bN K cl R p H r Q E)(s:bI p H q H'):bN K cl R q H' r Q E:=by
 cases r with
 |ok a S=>exact λq' H'' x s'=>h q' H'' x (s.trans s')
 |exc n S=>exact λq' H'' s'=>h q' H'' (s.trans s')
 |fail=>exact h
theorem eC.mono{r:bV}{D:lE}(h:eC K cl p H r D E)(s:bI p H q H'):eC K cl q H' r D E:=by
 cases r with
 |nx ρ S=>exact λq' H'' x s'=>h q' H'' x (s.trans s')
 |bk ρ S=>exact λq' H'' x s'=>h q' H'' x (s.trans s')
 |ct ρ S=>exact λq' H'' x s'=>h q' H'' x (s.trans s')
 |rt v S=>exact λq' H'' x s'=>h q' H'' x (s.trans s')
 |exc n S=>exact λq' H'' s'=>h q' H'' (s.trans s')
 |fail=>exact h
theorem bN.ret{a:α}{x:β}{Q:β->Hp->Prop}(h:bN K cl R p H (.ok a S) Q E)(s:aU K p S H)(r:R p H a x):Q x H:=h p H x s.step s r
theorem bN.same{a:α}{x:β}{Q:β->Hp->Prop}(h:bN K cl R p H (.ok a S) Q E)(s:aU K p S H)(e:dH H H')(r:R p H' a x):Q x H':=h p H' x (s.same e) (s.ofSame e) r
def tP(K:af)(cl:Str->Addr)(E:XK)(R:Ph->Hp->α->β->Prop)(m:bM->aH->bG α)(σ:St)(H:Hp)(Q:β->Hp->Prop):Prop:=
 ∃p S ρ,aU K p S H/\dE K p H ρ σ/\bN K cl R p H (m ρ S) Q E
def tS(K:af)(cl:Str->Addr)(E:XK)(m:bM->aH->bV):TS:=λD σ H=>
 ∃p S ρ,aU K p S H/\dE K p H ρ σ/\eC K cl p H (m ρ S) D E
theorem bU{m:bM->aH->bG α}{k:α->aH->bG γ}{ρ:bM}{σ:St}{Q:δ->Hp->Prop}{T:β->Hp->Prop}(s:aU K p S H)(e:dE K p H ρ σ)(h:bN K cl R' p H ((m ρ S).bind k) Q E)
  (g:∀q H' a b S',bI p H q H'->aU K q S' H'->dE K q H' ρ σ->R q H' a b->bN K cl R' q H' (k a S') Q E->T b H'):tP K cl E R m σ H T:=by
 refine⟨p,S,ρ,s,e,?_⟩;cases z:m ρ S with
 |ok a S1=>
  rw[z]at h;exact λq H' b st sm r=>g q H' a b S1 st sm (st.repE e) r (bN.mono (r:=k a S1) h st)
 |exc n S1=>
  rw[z]at h;exact h
 |fail=>
  rw[z]at h;exact h
def bV.of{α:Type}(r:bG α)(k:α->aH->bV):bV:=match r with
 |.ok a S=>k a S
 |.exc n S=>.exc n S
 |.fail=>.fail
theorem iR{m:bM->aH->bG α}{k:α->aH->bV}{ρ:bM}{σ:St}{D:lE}{T:β->Hp->Prop}(s:aU K p S H)(e:dE K p H ρ σ)(h:eC K cl p H (bV.of (m ρ S) k) D E)
  (g:∀q H' a b S',bI p H q H'->aU K q S' H'->dE K q H' ρ σ->R q H' a b->eC K cl q H' (k a S') D E->T b H'):tP K cl E R m σ H T:=by
 refine⟨p,S,ρ,s,e,?_⟩;cases z:m ρ S with
 |ok a S1=>
  rw[z]at h;exact λq H' b st sm r=>g q H' a b S1 st sm (st.repE e) r (eC.mono (r:=k a S1) h st)
 |exc n S1=>
  rw[z]at h;exact h
 |fail=>
  rw[z]at h;exact h
end
end
abbrev RB:Ph->Hp->Bool->Bool->Prop:=λ_ _ a b=>a=b
abbrev ME:=bM->aH->bG AV
abbrev MT:=bM->aH->bG Bool
abbrev MA:=bM->aH->bG AL
abbrev MS:=bM->aH->bV
section
variable(K:af)(cl:Str->Addr)(E:XK)(X:Cx)
def aT(e:ag)(m:ME):Prop:=X.K=K->PE X e (tP K cl E (bR K) m)
def fJ(e:ag)(m:MT):Prop:=X.K=K->PT X e (tP K cl E RB m)
def jQ(e:ag)(m:MT):Prop:=X.K=K->PW X e (tP K cl E RB m)
def eM(es:List ag)(m:MA):Prop:=X.K=K->PA X es (tP K cl E (fW K) m)
def eO(st:Stmt)(m:MS):Prop:=X.K=K->PS X st (tS K cl E m)
def fY(st:List Stmt)(m:MS):Prop:=X.K=K->fK X st (tS K cl E m)
end
theorem PA.imp{X:Cx}{es:List ag}{t t':TA}(h:PA X es t)(i:∀σ H Q,t' σ H Q->t σ H Q):PA X es t':=λpos AM s σ H Q I q=>h pos AM s σ H Q I (i σ H Q q)
theorem PW.imp{X:Cx}{e:ag}{t t':TT}(h:PW X e t)(i:∀σ H Q,t' σ H Q->t σ H Q):PW X e t':=λwh AM s σ H Q I q=>h wh AM s σ H Q I (i σ H Q q)
def aA(i:Nat):ME:=λρ S=>match ρ[i]? with
 |some (some v)=>.ok v S
 |_=>.fail
def mC(v:PV):ME:=λ_ S=>.ok (.pv v) S
def rd(S:aH):AV->AJ
 |.pv v=>some v
 |.ref k=>match S[k]? with
  |some (.lst xs)=>some (.lst xs)
  |_=>none
def fP(S:aH):AL->Option AI
 |[]=>some []
 |a::r=>match rd S a with
  |some v=>match fP S r with
   |some vs=>some (v::vs)
   |none=>none
  |none=>none
def gC(o:AJ)(S:aH):bG AV:=match o with
 |some r=>.ok (.pv r) S
 |none=>.fail
def qK(f:PV->AJ)(a:AV)(S:aH):bG AV:=gC ((rd S a).bind f) S
def jZ(f:PV->PV->AJ)(a b:AV)(S:aH):bG AV:=gC ((rd S a).bind λx=>(rd S b).bind λy=>f x y) S
def bQ(f:PV->AJ)(ma:ME):ME:=λρ S=>(ma ρ S).bind λx S1=>qK f x S1
def aC(f:PV->PV->AJ)(ma mb:ME):ME:=λρ S=>(ma ρ S).bind λx S1=>(mb ρ S1).bind λy S2=>jZ f x y S2
def aD:MA:=λ_ S=>.ok [] S
def aB(ma:ME)(mr:MA):MA:=λρ S=>(ma ρ S).bind λx S1=>(mr ρ S1).bind λxs S2=>.ok (x::xs) S2
def jY:AL->Option AI
 |[]=>some []
 |.pv v::r=>match jY r with
  |some vs=>some (v::vs)
  |none=>none
 |.ref _::_=>none
def wI(f:AI->AJ)(xs:AL)(S:aH):bG AV:=gC ((jY xs).bind f) S
def lV(f:AI->AJ)(xs:AL)(S:aH):bG AV:=gC ((fP S xs).bind f) S
def mR(f:AI->AJ)(ma:MA):ME:=λρ S=>(ma ρ S).bind λxs S1=>lV f xs S1
def mN(f:AI->AJ)(ma:MA):ME:=λρ S=>(ma ρ S).bind λxs S1=>wI f xs S1
def eR(vs:AI):AJ:=if vs.length<=16777216 then some (.tup vs)else none
def fH(vs:AI):AJ:=if vs.length<=16777216 then some (.lst vs)else none
def jT:AV->aH->bG Bool
 |.pv (.bl b),S=>.ok b S
 |_,_=>.fail
def bF(m:ME):MT:=λρ S=>(m ρ S).bind jT
def Hs(m:MT):MT:=λρ S=>(m ρ S).bind λb S1=>.ok (!b) S1
def gJ(m n:MT):MT:=λρ S=>(m ρ S).bind λb S1=>if b=true then n ρ S1 else .ok false S1
def pA(m n:MT):MT:=λρ S=>(m ρ S).bind λb S1=>if b=true then .ok true S1 else n ρ S1
def Vr(m n:ME):ME:=λρ S=>(m ρ S).bind λx S1=>match x with
 |.pv (.bl true)=>n ρ S1
 |.pv (.bl false)=>.ok (.pv (.bl false)) S1
 |_=>.fail
def Rs(m n:ME):ME:=λρ S=>(m ρ S).bind λx S1=>match x with
 |.pv (.bl false)=>n ρ S1
 |.pv (.bl true)=>.ok (.pv (.bl true)) S1
 |_=>.fail
def mV:PV->AJ
 |.bl b=>some (.bl (!b))
 |_=>none
def oS(c:MT)(a b:ME):ME:=λρ S=>(c ρ S).bind λt S1=>if t=true then a ρ S1 else b ρ S1
section
variable{K:af}{cl:Str->Addr}{E:XK}{X:Cx}{a b c e:ag}{es:List ag}{ma mb mc m:ME}{mt nt:MT}{ms:MA}{pos:ah}
theorem vS(i:Nat){x:Str}(hN:X.N[i]?=some x:=by rfl)(hv:nC X.env.scope x:=by first |exact fe rfl |exact gw (fe rfl) |exact gw (gw rfl))(hd:(x==("__debug__":Str))=false:=by decide)
  (hcd:(x==("__classdict__":Str))=false:=by decide):aT K cl E X (.Name x pos) (aA i):=λ_=>(oF hN hv hd hcd).imp λσ H Q ⟨p,S,ρ,s,e,h⟩=>by
 unfold aA at h;cases z:ρ[i]? with
 |none=>rw[z]at h;exact h.elim
 |some o=>
  cases o with
  |none=>rw[z]at h;exact h.elim
  |some v=>
   rw[z]at h;obtain⟨x,e1,e2⟩:=e.at_ i v z;exact⟨x,e1,bN.ret h s e2⟩
theorem Z6{i:Int}{j}:aT K cl E X (.Constant (.int i) j pos) (mC (.int i)):=λ_=>vU.imp λσ H Q ⟨p,S,ρ,s,e,h⟩=>bN.ret (R:=bR K) (x:=.int i) h s (by show aP K p.c H (.int i) (.int i);unfold aP;rfl)
theorem abk{i:Bool}{j}:aT K cl E X (.Constant (.bool i) j pos) (mC (.bl i)):=λ_=>aaS.imp λσ H Q ⟨p,S,ρ,s,e,h⟩=>bN.ret (R:=bR K) (x:=.bl i) h s (by show aP K p.c H (.bl i) (.bl i);unfold aP;rfl)
theorem V5{j}:aT K cl E X (.Constant .none j pos) (mC .non):=λ_=>Io.imp λσ H Q ⟨p,S,ρ,s,e,h⟩=>bN.ret (R:=bR K) (x:=.non) h s (by show aP K p.c H .non .non;unfold aP;rfl)
def eP(K:af)(p:Ph)(H:Hp)(v:PV)(x:V):Prop:=aP K p.c H v x\/∃xs a vs,v=.lst xs/\x=.ref a/\H a=some (.lst vs)/\vs.length<=sizeLine/\aQ K p.c H xs vs
theorem eP.int{p:Ph}{H:Hp}{i:Int}{x:V}(h:eP K p H (.int i) x):x=.int i:=by
 rcases h with h |⟨_,_,_,e,_⟩
 .unfold aP at h;exact h
 .cases e
theorem eP.bl{p:Ph}{H:Hp}{i:Bool}{x:V}(h:eP K p H (.bl i) x):x=.bl i:=by
 rcases h with h |⟨_,_,_,e,_⟩
 .unfold aP at h;exact h
 .cases e
theorem eP.str{p:Ph}{H:Hp}{i:Str}{x:V}(h:eP K p H (.str i) x):x=.str i:=by
 rcases h with h |⟨_,_,_,e,_⟩
 .unfold aP at h;exact h
 .cases e
theorem eP.non{p:Ph}{H:Hp}{x:V}(h:eP K p H .non x):x=.non:=by
 rcases h with h |⟨_,_,_,e,_⟩
 .unfold aP at h;exact h
 .cases e
theorem eP.tup{p:Ph}{H:Hp}{xs:AI}{x:V}(h:eP K p H (.tup xs) x):∃a vs,x=.ref a/\dD K H a vs/\vs.length<=sizeLine/\aQ K p.c H xs vs:=by
 rcases h with h |⟨_,_,_,e,_⟩
 .unfold aP at h;exact h
 .cases e
theorem eP.lst{p:Ph}{H:Hp}{xs:AI}{x:V}(h:eP K p H (.lst xs) x):∃a vs,x=.ref a/\bT K H a vs/\vs.length<=sizeLine/\aQ K p.c H xs vs:=by
 rcases h with h |⟨ys,a,vs,e,e2,h,z,r⟩
 .unfold aP at h
  obtain⟨a,vs,e,l,z,r⟩:=h;exact⟨a,vs,e,l.sq,z,r⟩
 .cases e
  exact⟨a,vs,e2,bT.of h,z,r⟩
theorem lR{p:Ph}{S:aH}{H:Hp}{a:AV}{v:PV}{x:V}(s:aU K p S H)(r:bR K p H a x)(e:rd S a=some v):eP K p H v x:=by
 cases a with
 |pv u=>cases e;exact .inl r
 |ref k=>
  obtain⟨a,e1,rfl⟩:=r;unfold rd at e;cases z:S[k]? with
  |none=>simp only[z]at e;cases e
  |some o=>
   cases o with
   |lst xs=>
    simp only[z]at e;cases e;obtain⟨vs,h,l,r⟩:=s.obj k a _ e1 z;exact .inr ⟨xs,a,vs,rfl,rfl,h,l,r⟩
   |lol _=>simp only[z]at e;cases e
   |dic _ _=>simp only[z]at e;cases e
   |dol _ _=>simp only[z]at e;cases e
abbrev Jd(K:af)(p:Ph)(H:Hp):AI->List V->Prop:=ig (eP K p H)
theorem rS{p:Ph}{S:aH}{H:Hp}(s:aU K p S H):∀{as:AL}{vs:AI}{xs:List V},fW K p H as xs->fP S as=some vs->Jd K p H vs xs
 |[],vs,_,.nil,e=>by
  cases e;exact .nil
 |a::r,vs,_,.cons h t,e=>by
  unfold fP at e;cases z:rd S a with
  |none=>simp only[z]at e;cases e
  |some v=>
   simp only[z]at e;cases y:fP S r with
   |none=>simp only[y]at e;cases e
   |some us=>
    simp only[y]at e;cases e;exact .cons (lR s h z) (rS s t y)
def gB(K:af)(r:R2)(f:PV->PV->AJ):Prop:=∀{p:Ph}{S:aH}{H:Hp}{a b c:PV}{x y:V}{Q:VK},aU K p S H->eP K p H a x->eP K p H b y->f a b=some c->
 (∀H' z,dH H H'->aP K p.c H' c z->Q z H')->r x y H Q
def Je(K:af)(r:V->Hp->VK->Prop)(f:PV->AJ):Prop:=∀{p:Ph}{S:aH}{H:Hp}{a c:PV}{x:V}{Q:VK},aU K p S H->eP K p H a x->f a=some c->
 (∀H' z,dH H H'->aP K p.c H' c z->Q z H')->r x H Q
def CaS(K:af)(r:List V->Hp->VK->Prop)(f:AI->AJ):Prop:=∀{p:Ph}{S:aH}{H:Hp}{as:AI}{c:PV}{xs:List V}{Q:VK},aU K p S H->aQ K p.c H as xs->f as=some c->
 (∀H' z,dH H H'->aP K p.c H' c z->Q z H')->r xs H Q
def kO(K:af)(r:List V->Hp->VK->Prop)(f:AI->AJ):Prop:=∀{p:Ph}{S:aH}{H:Hp}{as:AI}{c:PV}{xs:List V}{Q:VK},aU K p S H->Jd K p H as xs->f as=some c->
 (∀H' z,dH H H'->aP K p.c H' c z->Q z H')->r xs H Q
theorem pT{p:Ph}{S:aH}{H:Hp}{o:AJ}{Q:VK}(s:aU K p S H)(h:bN K cl (bR K) p H (gC o S) Q E):∃c,o=some c/\∀H' z,dH H H'->aP K p.c H' c z->Q z H':=by
 cases o with
 |none=>exact h.elim
 |some c=>exact⟨c,rfl,λH' z sm rz=>bN.same (R:=bR K) h s sm rz⟩
theorem uN{r:R2}{f:PV->PV->AJ}(hf:gB K r f){p:Ph}{S:aH}{H:Hp}{a b:AV}{x y:V}{Q:VK}(s:aU K p S H)(ra:bR K p H a x)(rb:bR K p H b y)(h:bN K cl (bR K) p H (jZ f a b S) Q E):r x y H Q:=by
 obtain⟨c,e,k⟩:=pT s h;cases z:rd S a with
 |none=>rw[z]at e;cases e
 |some v=>
  cases y:rd S b with
  |none=>rw[z,y]at e;cases e
  |some w=>
   rw[z,y]at e;exact hf s (lR s ra z) (lR s rb y) e k
theorem yZ{r:V->Hp->VK->Prop}{f:PV->AJ}(hf:Je K r f){p:Ph}{S:aH}{H:Hp}{a:AV}{x:V}{Q:VK}(s:aU K p S H)(ra:bR K p H a x)(h:bN K cl (bR K) p H (qK f a S) Q E):r x H Q:=by
 obtain⟨c,e,k⟩:=pT s h;cases z:rd S a with
 |none=>rw[z]at e;cases e
 |some v=>
  rw[z]at e;exact hf s (lR s ra z) e k
theorem Vi{r:List V->Hp->VK->Prop}{f:AI->AJ}(hf:kO K r f){p:Ph}{S:aH}{H:Hp}{as:AL}{xs:List V}{Q:VK}(s:aU K p S H)(ra:fW K p H as xs)(h:bN K cl (bR K) p H (lV f as S) Q E):r xs H Q:=by
 obtain⟨c,e,k⟩:=pT s h;cases z:fP S as with
 |none=>rw[z]at e;cases e
 |some v=>
  rw[z]at e;exact hf s (rS s ra z) e k
theorem yL{p:Ph}{H:Hp}:∀{as:AL}{vs:AI}{xs:List V},jY as=some vs->fW K p H as xs->aQ K p.c H vs xs
 |[],vs,_,e,.nil=>by
  cases e;exact .nil
 |.pv v::r,vs,_,e,.cons h t=>by
  unfold jY at e;cases z:jY r with
  |none=>simp only[z]at e;cases e
  |some us=>
   simp only[z]at e;cases e;exact .cons h (yL z t)
 |.ref k::r,vs,_,e,.cons h t=>by
  cases e
theorem Xi{r:List V->Hp->VK->Prop}{f:AI->AJ}(hf:CaS K r f){p:Ph}{S:aH}{H:Hp}{as:AL}{xs:List V}{Q:VK}(s:aU K p S H)(ra:fW K p H as xs)(h:bN K cl (bR K) p H (wI f as S) Q E):r xs H Q:=by
 obtain⟨c,e,k⟩:=pT s h;cases z:jY as with
 |none=>rw[z]at e;cases e
 |some v=>
  rw[z]at e;exact hf s (yL z ra) e k
theorem oM{op:oq}{r:R2}{f:PV->PV->AJ}(ho:dY X (binaryOp op) r)(hf:gB X.K r f)(ha:aT K cl E X a ma)(hb:aT K cl E X b mb):aT K cl E X (.BinOp a op b pos) (aC f ma mb):=by
 intro hK;subst hK;refine(Sd ho (ha rfl) (hb rfl)).imp λσ H Q ⟨p,S,ρ,s,e,h⟩=>?_;exact bU s e h λq H1 a x S1 st s1 e1 r1 h1=>bU s1 e1 h1 λq2 H2 b y S2 st2 s2 e2 r2 h2=>uN hf s2 (st2.repA r1) r2 h2
theorem abI{op:UnaryOp}{r:V->Hp->VK->Prop}{f:PV->AJ}(ho:xT X (unaryOp op) r)(hf:Je X.K r f)(ha:aT K cl E X a ma):aT K cl E X (.UnaryOp op a pos) (bQ f ma):=by
 intro hK;subst hK;refine(Yr ho (ha rfl)).imp λσ H Q ⟨p,S,ρ,s,e,h⟩=>?_;exact bU s e h λq H1 a x S1 st s1 e1 r1 h1=>yZ hf s1 r1 h1
theorem oC{op:kj}{r:R2}{f:PV->PV->AJ}(ho:dY X (compareOp op) r)(hf:gB X.K r f)(ha:aT K cl E X a ma)(hb:aT K cl E X b mb)(hm:behindInMarks op b=false):aT K cl E X (.Compare a [op] [b] pos) (aC f ma mb):=by
 intro hK;subst hK;refine(L8 ho (ha rfl) (hb rfl) hm).imp λσ H Q ⟨p,S,ρ,s,e,h⟩=>?_;exact bU s e h λq H1 a x S1 st s1 e1 r1 h1=>bU s1 e1 h1 λq2 H2 b y S2 st2 s2 e2 r2 h2=>uN hf s2 (st2.repA r1) r2 h2
theorem aby{p:Ph}{H:Hp}{v:AV}{x:V}(r:bR K p H v x){b:Bool}(e:v=.pv (.bl b)):x=.bl b:=by
 subst e;unfold bR aP at r;exact r
theorem Fj{p:Ph}{S:aH}{H:Hp}{v:AV}{x:V}{Q:Bool->Hp->Prop}(s:aU K p S H)(r:bR K p H v x)
  (h:bN K cl RB p H (jT v S) Q E):∃k,x=.bl k/\Q k H:=by
 cases v with
 |ref k=>exact h.elim
 |pv v=>
  cases v with
  |bl b=>exact⟨b,aby r rfl,bN.ret (R:=RB) h s rfl⟩
  |_=>exact h.elim
theorem nY{op:kj}{r:R2}{f:PV->PV->AJ}(ho:dY X (compareOp op) r)(hf:gB X.K r f)(ha:aT K cl E X a ma)(hb:aT K cl E X b mb)(hm:behindInMarks op b=false):fJ K cl E X (.Compare a [op] [b] pos) (bF (aC f ma mb)):=by
 intro hK;subst hK;refine(N8 ho (ha rfl) (hb rfl) hm).imp λσ H Q ⟨p,S,ρ,s,e,h⟩=>?_;have z:tP X.K cl E (bR X.K) (aC f ma mb) σ H λx H'=>∃k,x=.bl k/\Q k H':=bU s e h λq H1 a x S1 st s1 e1 r1 h1=>Fj s1 r1 h1;obtain⟨p',S',ρ',s',e',h'⟩:=z;exact bU s' e' h' λq H1 a x S1 st s1 e1 r1 h1=>bU s1 e1 h1 λq2 H2 b y S2 st2 s2 e2 r2 h2=>uN hf s2 (st2.repA r1) r2 h2
theorem Xx(ha:fJ K cl E X a mt):jQ K cl E X (.BoolOp .And [a] pos) mt:=λhK=>J6 (ha hK)
theorem M9(ha:fJ K cl E X a mt):jQ K cl E X (.BoolOp .Or [a] pos) mt:=λhK=>aab (ha hK)
theorem jQ.pt(h:jQ K cl E X a mt):fJ K cl E X a mt:=λhK=>PW.pt (h hK)
theorem Q9{gW:List ag}(ha:fJ K cl E X a mt)(hb:jQ K cl E X (.BoolOp .And (b::gW) pos) nt):jQ K cl E X (.BoolOp .And (a::b::gW) pos) (gJ mt nt):=by
 intro hK;subst hK;refine PW.imp (S9 (ha rfl) (hb rfl)) λσ H Q ⟨p,S,ρ,s,e,h⟩=>?_;refine bU s e h λq H1 a x S1 st s1 e1 r1 h1=>?_;cases r1;cases a with
 |true=>exact⟨q,S1,ρ,s1,e1,h1⟩
 |false=>exact bN.ret (R:=RB) h1 s1 rfl
theorem aaG{gW:List ag}(ha:fJ K cl E X a mt)(hb:jQ K cl E X (.BoolOp .Or (b::gW) pos) nt):jQ K cl E X (.BoolOp .Or (a::b::gW) pos) (pA mt nt):=by
 intro hK;subst hK;refine PW.imp (abj (ha rfl) (hb rfl)) λσ H Q ⟨p,S,ρ,s,e,h⟩=>?_;refine bU s e h λq H1 a x S1 st s1 e1 r1 h1=>?_;cases r1;cases a with
 |true=>exact bN.ret (R:=RB) h1 s1 rfl
 |false=>exact⟨q,S1,ρ,s1,e1,h1⟩
theorem U9(ha:aT K cl E X a ma):aT K cl E X (.UnaryOp .Not a pos) (bQ mV ma):=by
 intro hK;subst hK;refine(Y4 (ha rfl)).imp λσ H Q ⟨p,S,ρ,s,e,h⟩=>?_;refine bU s e h λq H1 a x S1 st s1 e1 r1 h1=>?_;refine yZ (r:=λx H Q=>∃c,x=.bl c/\Q (.bl (!c)) H) (f:=mV) (λ{p S H a c x Q} s r e k=>?_) s1 r1 h1;cases a with
 |bl b=>
  cases e;exact⟨b,r.bl,k H _ (dH.refl H) (by unfold aP;rfl)⟩
 |_=>cases e
theorem abb(hc:fJ K cl E X c mt)(ha:aT K cl E X a ma)(hb:aT K cl E X b mb):aT K cl E X (.IfExp c a b pos) (oS mt ma mb):=by
 intro hK;subst hK;refine(A3 (hc rfl) (ha rfl) (hb rfl)).imp λσ H Q ⟨p,S,ρ,s,e,h⟩=>?_;refine bU s e h λq H1 a x S1 st s1 e1 r1 h1=>?_;cases r1;cases a with
 |true=>exact⟨q,S1,ρ,s1,e1,h1⟩
 |false=>exact⟨q,S1,ρ,s1,e1,h1⟩
theorem Gn:eM K cl E X [] aD:=λ_=>(PA.imp sN λσ H Q ⟨p,S,ρ,s,e,h⟩=>bN.ret (R:=fW K) h s .nil)
theorem Fa(ha:aT K cl E X e m)(hr:eM K cl E X es ms)(hs:starEach (e::es) X.env=(false,eval e X.env)::starEach es X.env:=by rfl):eM K cl E X (e::es) (aB m ms):=by
 intro hK;subst hK;refine PA.imp (sE (ha rfl) (hr rfl) hs) λσ H Q ⟨p,S,ρ,s,e,h⟩=>?_;exact bU s e h λq H1 a x S1 st s1 e1 r1 h1=>bU s1 e1 h1 λq2 H2 b y S2 st2 s2 e2 r2 h2=>bN.ret (R:=fW X.K) h2 s2 (.cons (st2.repA r1) r2)
theorem nV{p:Ph}{S:aH}{H:Hp}{vs:AI}{xs:List V}{t:Addr}(s:aU K p S H)(r:aQ K p.c H vs xs)(z:xs.length<=sizeLine)(ht:H t=none):aP K p.c (aV H t (.tup xs)) (.tup vs) (.ref t):=by
 unfold aP;exact⟨t,xs,rfl,dD.of eT,z,(s.same (gK ht)).reps r⟩
theorem nU{p:Ph}{S:aH}{H:Hp}{vs:AI}{xs:List V}{t:Addr}(s:aU K p S H)(r:aQ K p.c H vs xs)(z:xs.length<=sizeLine)(ht:H t=none):aP K p.c (aV H t (.lst xs)) (.lst vs) (.ref t):=by
 unfold aP;refine⟨t,xs,rfl,.inl ⟨eT,λc=>?_⟩,z,(s.same (gK ht)).reps r⟩;obtain⟨o,e,_⟩:=s.mu t c;rw[ht]at e;cases e
theorem iP:sizeLine=16777216:=jx
theorem X7{x1}(h:eM K cl E X es ms):aT K cl E X (.Tuple es x1 pos) (mN eR ms):=by
 intro hK;subst hK;refine(aaL (h rfl)).imp λσ H Q ⟨p,S,ρ,s,e,h⟩=>?_;refine bU s e h λq H1 as xs S1 st s1 e1 r1 h1=>?_;refine Xi (r:=λxs H Q=>xs.length<=sizeLine/\∀t,H t=none->Q (.ref t) (aV H t (.tup xs))) (f:=eR) (λ{p S H as c xs Q} s r e k=>?_) s1 r1 h1;unfold eR at e;split at e
 .rename_i hl
  cases e;rw[r.length,<-iP]at hl;exact⟨hl,λt ht=>k _ _ (gK ht) (nV s r hl ht)⟩
 .cases e
theorem aaF(h:eM K cl E X es ms):aT K cl E X (.List es pos) (mN fH ms):=by
 intro hK;subst hK;refine(Jc (h rfl)).imp λσ H Q ⟨p,S,ρ,s,e,h⟩=>?_;refine bU s e h λq H1 as xs S1 st s1 e1 r1 h1=>?_;refine Xi (r:=λxs H Q=>xs.length<=sizeLine/\∀t,H t=none->Q (.ref t) (aV H t (.lst xs))) (f:=fH) (λ{p S H as c xs Q} s r e k=>?_) s1 r1 h1;unfold fH at e;split at e
 .rename_i hl
  cases e;rw[r.length,<-iP]at hl;exact⟨hl,λt ht=>k _ _ (gK ht) (nU s r hl ht)⟩
 .cases e
end
noncomputable section
open PySem PySem.Spec PyProof.Rows Bn
def eB:MS:=λρ S=>.nx ρ S
def aI(a b:MS):MS:=λρ S=>match a ρ S with
 |.nx ρ1 S1=>b ρ1 S1
 |r=>r
def dM(m:ME):MS:=λρ S=>bV.of (m ρ S) λ_ S1=>.nx ρ S1
def bH(m:ME):MS:=λρ S=>bV.of (m ρ S) λv S1=>.rt v S1
def Sr:MS:=λ_ S=>.rt (.pv .non) S
def cO(c:MT)(a b:MS):MS:=λρ S=>bV.of (c ρ S) λt S1=>if t=true then a ρ S1 else b ρ S1
def aS(i:Nat)(m:ME):MS:=λρ S=>bV.of (m ρ S) λv S1=>.nx (ρ.set i (some v)) S1
def tO(i j:Nat)(m:MA):MS:=λρ S=>bV.of (m ρ S) λvs S1=>match vs with
 |[v,w]=>.nx ((ρ.set i (some v)).set j (some w)) S1
 |_=>.fail
abbrev GM:=PV->bM->Option bM
abbrev nI:=AI->bM->Option bM
def gN(i:Nat):GM:=λv ρ=>some (ρ.set i (some (.pv v)))
def dW:nI:=λvs ρ=>match vs with
 |[]=>some ρ
 |_=>none
def bX(g:GM)(gs:nI):nI:=λvs ρ=>match vs with
 |[]=>none
 |v::r=>match g v ρ with
  |some ρ1=>gs r ρ1
  |none=>none
def gT(n:Nat)(gs:nI):GM:=λv ρ=>match v with
 |.tup vs=>if vs.length=n then gs vs ρ else none
 |_=>none
abbrev Gd:=List (Nat×AI)
def gY(G:Gd)(S:aH):Prop:=∀g∈G,S[g.1]?=some (.lst g.2)
theorem kG(S:aH):gY [] S:=λ_ h=>nomatch h
abbrev MI:=bM->aH->bG (AI×Gd)
open Classical in
def dN(G:Gd)(g:GM)(mb:MS):AI->bM->aH->bV
 |[],ρ,S=>if gY G S then .nx ρ S else .fail
 |x::r,ρ,S=>if gY G S then(match g x ρ with
  |none=>.fail
  |some ρ1=>match mb ρ1 S with
   |.nx ρ2 S2=>dN G g mb r ρ2 S2
   |.ct ρ2 S2=>dN G g mb r ρ2 S2
   |.bk ρ2 S2=>.nx ρ2 S2
   |.rt v S2=>.rt v S2
   |.exc n S2=>.exc n S2
   |.fail=>.fail)else .fail
def bS(mi:MI)(g:GM)(mb:MS):MS:=λρ S=>bV.of (mi ρ S) λxs S1=>dN xs.2 g mb xs.1 ρ S1
theorem fO{g:GM}{mb:MS}{ρ:bM}{S:aH}:dN [] g mb [] ρ S=.nx ρ S:=by
 unfold dN;rw[if_pos (kG S)]
theorem eK{g:GM}{mb:MS}{x:PV}{r:AI}{ρ:bM}{S:aH}:dN [] g mb (x::r) ρ S=(match g x ρ with
  |none=>.fail
  |some ρ1=>match mb ρ1 S with
   |.nx ρ2 S2=>dN [] g mb r ρ2 S2
   |.ct ρ2 S2=>dN [] g mb r ρ2 S2
   |.bk ρ2 S2=>.nx ρ2 S2
   |.rt v S2=>.rt v S2
   |.exc n S2=>.exc n S2
   |.fail=>.fail):=by
 rw[dN,if_pos (kG S)]
def dL(c:MT)(mb:MS):Nat->bM->aH->bV
 |0,_,_=>.fail
 |n+1,ρ,S=>bV.of (c ρ S) λt S1=>if t=true then(match mb ρ S1 with
   |.nx ρ2 S2=>dL c mb n ρ2 S2
   |.ct ρ2 S2=>dL c mb n ρ2 S2
   |.bk ρ2 S2=>.nx ρ2 S2
   |.rt v S2=>.rt v S2
   |.exc n S2=>.exc n S2
   |.fail=>.fail)else .nx ρ S1
open Classical in
def jW(c:MT)(mb:MS):MS:=λρ S=>if h:∃n,dL c mb n ρ S≠.fail then dL c mb h.choose ρ S else .fail
theorem bV.of_ok{α:Type}{r:bG α}{k k':α->aH->bV}(h:∀a S,k a S≠.fail->k' a S=k a S)(n:bV.of r k≠.fail):bV.of r k'=bV.of r k:=by
 cases r with
 |ok a S=>exact h a S n
 |exc=>rfl
 |fail=>rfl
theorem yI{c:MT}{mb:MS}:∀{n:Nat}{ρ:bM}{S:aH},dL c mb n ρ S≠.fail->dL c mb (n+1) ρ S=dL c mb n ρ S
 |0,_,_,h=>absurd rfl h
 |n+1,ρ,S,h=>by
  unfold dL at h;rw[dL]
  conv=>rhs;rw[dL]
  refine bV.of_ok (λt S1 h1=>?_) h
  by_cases ht:t=true
  .simp only[if_pos ht]at h1⊢
   cases z:mb ρ S1 with
   |nx ρ2 S2=>rw[z]at h1;exact yI h1
   |ct ρ2 S2=>rw[z]at h1;exact yI h1
   |_=>rfl
  .simp only[if_neg ht]at h1⊢
theorem yM{c:MT}{mb:MS}{n:Nat}{ρ:bM}{S:aH}(h:dL c mb n ρ S≠.fail):∀k,dL c mb (n+k) ρ S=dL c mb n ρ S
 |0=>rfl
 |k+1=>by
  have ih:=yM h k;rw[<-wu,yI (by rw[ih];exact h),ih]
theorem rQ{c:MT}{mb:MS}{n:Nat}{ρ:bM}{S:aH}{r:bV}(e:dL c mb n ρ S=r)(h:r≠.fail):jW c mb ρ S=r:=by
 have h':∃n,dL c mb n ρ S≠.fail:=⟨n,by rw[e];exact h⟩;unfold jW;rw[dif_pos h'];have e2:=h'.choose_spec;rcases Nat.le_total n h'.choose with l |l
 .obtain⟨k,q⟩:=d9 l
  rw[q,yM (by rw[e];exact h),e]
 .obtain⟨k,q⟩:=d9 l
  have z:=yM e2 k;rw[<-q,e]at z;exact z.symm
section
variable{K:af}{cl:Str->Addr}{E:XK}{X:Cx}{a b c e tg:ag}{es:List ag}{m:ME}{mt:MT}{ms:MA}{b1 b2:MS}{st:Stmt}{sts sts':List Stmt}{pos:ah}
theorem dE.set{p:Ph}{H:Hp}{ρ:bM}{σ:St}{v:AV}{x:V}(h:dE K p H ρ σ)(r:bR K p H v x)(i:Nat):dE K p H (ρ.set i (some v)) (σ.set i (some x)):=by
 refine⟨by rw[dj,dj,h.len],λj u e=>?_⟩
 by_cases q:i=j
 .subst q
  by_cases l:i<ρ.length
  .rw[de l]at e
   cases e;exact⟨x,de (by rw[<-h.len];exact l),r⟩
  .rw[rm (by rw[dj];omega)]at e
   cases e
 .rw[dz q]at e⊢
  exact h.at_ j u e
theorem Bz:fY K cl E X [] eB:=λ_=>fK.imp K7 λD σ H ⟨p,S,ρ,s,e,h⟩=>h p H σ s.step s e
theorem eC.nxD{p:Ph}{H:Hp}{ρ:bM}{S:aH}{D:lE}(h:eC K cl p H (.nx ρ S) D E){σ:St}(s:aU K p S H)(e:dE K p H ρ σ):D.nx σ H:=h p H σ s.step s e
theorem zF(h1:eO K cl E X st b1)(h2:fY K cl E X sts b2):fY K cl E X (st::sts) (aI b1 b2):=by
 intro hK;subst hK;refine fK.imp (Mz (h1 rfl) (h2 rfl)) λD σ H ⟨p,S,ρ,s,e,h⟩=>⟨p,S,ρ,s,e,?_⟩;unfold aI at h;cases z:b1 ρ S with
 |nx ρ1 S1=>
  rw[z]at h;exact λq H' σ' cR sm ev=>⟨q,S1,ρ1,sm,ev,eC.mono (r:=b2 ρ1 S1) h cR⟩
 |bk ρ1 S1=>rw[z]at h;exact h
 |ct ρ1 S1=>rw[z]at h;exact h
 |rt v S1=>rw[z]at h;exact h
 |exc n S1=>rw[z]at h;exact h
 |fail=>rw[z]at h;exact h
theorem Ej(h1:eO K cl E X st b1):fY K cl E X [st] b1:=λhK=>Oa (h1 hK)
theorem Yz(he:aT K cl E X e m)(hs:swapsWith e none pos.line X.env=pure false:=by rfl):eO K cl E X (.Expr e pos) (dM m):=by
 intro hK;subst hK;refine PS.imp (R3 (he rfl) hs) λD σ H ⟨p,S,ρ,s,e,h⟩=>?_;exact iR s e h λq H' a b S' cR sm ev r k=>eC.nxD k sm ev
theorem Jn(he:aT K cl E X e m):eO K cl E X (.Return (some e) pos) (bH m):=by
 intro hK;subst hK;refine PS.imp (Y7 (he rfl)) λD σ H ⟨p,S,ρ,s,e,h⟩=>?_;exact iR s e h λq H' a b S' cR sm ev r k=>k q H' b sm.step sm r
theorem V3(hc:fJ K cl E X c mt)(ha:fY K cl E X sts b1)(hb:fY K cl E X sts' b2):eO K cl E X (.If c sts sts' pos) (cO mt b1 b2):=by
 intro hK;subst hK;refine PS.imp (abC (hc rfl) (ha rfl) (hb rfl)) λD σ H ⟨p,S,ρ,s,e,h⟩=>?_;refine iR s e h λq H' a b S' cR sm ev r k=>?_;cases r;cases a with
 |true=>exact⟨q,S',ρ,sm,ev,k⟩
 |false=>exact⟨q,S',ρ,sm,ev,k⟩
theorem Db{i:Nat}{x:Str}{pos':ah}(hN:X.N.Nodup)(hi:X.N[i]?=some x)(hx:jP X.env.scope x)(he:aT K cl E X e m)(hs:swapsWith e (some (.Name x pos')) pos.line X.env=pure false:=by rfl)
  (hf:X.fn x=true\/X.env.scope.names.lookup x=some .local:=by first |exact .inl rfl |exact .inr rfl |assumption):eO K cl E X (.Assign [.Name x pos'] e pos) (aS i m):=by
 intro hK;subst hK;refine PS.imp (Gq hN hi hx (he rfl) hs hf) λD σ H ⟨p,S,ρ,s,e,h⟩=>?_;exact iR s e h λq H' a b S' cR sm ev r k=>eC.nxD k sm (ev.set r i)
theorem G5{i j:Nat}{x y:Str}{px py pt:ah}{kt k2 pt2}(hc:X.calm=true)(hN:X.N.Nodup)(hi:X.N[i]?=some x)(hj:X.N[j]?=some y)(hij:i≠j)
  (hx:X.env.scope.names.lookup x=some .local)(hy:X.env.scope.names.lookup y=some .local)(ha:eM K cl E X [a,b] ms)
  (hw:swappedStores [.Tuple [.Name x px,.Name y py] kt pt] (.Tuple [a,b] k2 pt2) X.env=pure (some [x,y]))
  (hs:swapsWithSole [.Tuple [.Name x px,.Name y py] kt pt] (.Tuple [a,b] k2 pt2) pos.line X.env=pure false:=by rfl):
  eO K cl E X (.Assign [.Tuple [.Name x px,.Name y py] kt pt] (.Tuple [a,b] k2 pt2) pos) (tO i j ms):=by
 intro hK;subst hK;refine PS.imp (aaE hc hN hi hj hij hx hy (ha rfl) hw hs) λD σ H ⟨p,S,ρ,s,e,h⟩=>?_;refine iR s e h λq H' vs xs S' cR sm ev r k=>?_;cases r with
 |nil=>exact k.elim
 |cons r1 rr=>
  cases rr with
  |nil=>exact k.elim
  |cons r2 rs=>
   cases rs with
   |nil=>exact⟨_,_,rfl,eC.nxD k sm ((ev.set r1 i).set r2 j)⟩
   |cons _ _=>exact k.elim
def gP(K:af)(g:GM):TG:=λx σ H Q=>∃p S ρ v ρ',aU K p S H/\dE K p H ρ σ/\aP K p.c H v x/\g v ρ=some ρ'/\∀σ',dE K p H ρ' σ'->Q σ' H
def gPs(K:af)(g:nI):lZ:=λxs σ H Q=>∃p S ρ vs ρ',aU K p S H/\dE K p H ρ σ/\aQ K p.c H vs xs/\g vs ρ=some ρ'/\∀σ',dE K p H ρ' σ'->Q σ' H
variable(K X)
def lG(tg:ag)(g:GM):Prop:=X.K=K->PG X tg (gP K g)
def qS(ts:List ag)(g:nI):Prop:=X.K=K->lI X ts (gPs K g)
variable{K X}
theorem PG.imp{tg:ag}{t t':TG}(h:PG X tg t)(i:∀x σ H Q,t' x σ H Q->t x σ H Q):PG X tg t':=λAM s σ H v u Q I r q=>h AM s σ H v u Q I r (i v σ H Q q)
theorem lI.imp{ts:List ag}{t t':lZ}(h:lI X ts t)(i:∀x σ H Q,t' x σ H Q->t x σ H Q):lI X ts t':=λAM s σ H v u Q I r q=>h AM s σ H v u Q I r (i v σ H Q q)
theorem D6{i:Nat}{x:Str}(hN:X.N.Nodup)(hi:X.N[i]?=some x)(hx:jP X.env.scope x)(hf:X.fn x=true\/X.env.scope.names.lookup x=some .local:=by first |exact .inl rfl |exact .inr rfl |assumption):lG K X (.Name x pos) (gN i):=
 λ_=>PG.imp (Qm hN hi hx hf) λx σ H Q ⟨p,S,ρ,v,ρ',s,ev,r,g,k⟩=>by
  cases g;exact k _ (ev.set (v:=.pv v) r i)
theorem D5:qS K X [] dW:=λ_=>lI.imp Q5 λxs σ H Q ⟨p,S,ρ,vs,ρ',s,ev,r,g,k⟩=>by
 cases vs with
 |nil=>
  cases g;unfold aQ at r;exact⟨r,k _ ev⟩
 |cons _ _=>cases g
theorem Wx{g:GM}{gs:nI}(h1:lG K X e g)(h2:qS K X es gs)(hs:(assignEach (e::es) X.env).map (·.2)=assign e X.env::(assignEach es X.env).map (·.2):=by rfl):qS K X (e::es) (bX g gs):=by
 intro hK;subst hK;refine lI.imp (Rz (h1 rfl) (h2 rfl) hs) λxs σ H Q ⟨p,S,ρ,vs,ρ',s,ev,r,g1,k⟩=>?_;cases vs with
 |nil=>cases g1
 |cons v vr=>
  unfold aQ at r;obtain⟨x,xr,rfl,r1,r2⟩:=r;unfold bX at g1;cases z:g v ρ with
  |none=>simp only[z]at g1;cases g1
  |some ρ1=>
   simp only[z]at g1;exact⟨x,xr,rfl,p,S,ρ,v,ρ1,s,ev,r1,z,λσ' ev'=>⟨p,S,ρ1,vr,ρ',s,ev',r2,g1,k⟩⟩
theorem Q7{k:Nat}{gs:nI}{n:Nat}(hc:X.calm=true)(h:qS K X es gs)(hn:(assignEach es X.env).length=n:=by rfl)(hst:(assignEach es X.env).findIdx? (·.1)=none:=by rfl):lG K X (.Tuple es k pos) (gT n gs):=by
 intro hK;subst hK;refine PG.imp (Y6 hc (h rfl) hn hst) λx σ H Q ⟨p,S,ρ,v,ρ',s,ev,r,g1,k⟩=>?_;cases v with
 |tup vs=>
  unfold aP at r;obtain⟨a,xs,rfl,t,z,r⟩:=r;unfold gT at g1;dsimp only at g1;split at g1
  .rename_i hl
   exact⟨a,xs,rfl,t,r.length.symm.trans hl,p,S,ρ,vs,ρ',s,ev,r,g1,k⟩
  .cases g1
 |_=>cases g1
def eY(K:af)(p:Ph)(H:Hp)(xs:AI×Gd)(J:It):Prop:=xs.1.length<=sizeLine/\∀q H1 S1,bI p H q H1->aU K q S1 H1->gY xs.2 S1->
 (∀(i:Nat)(v:PV),xs.1[i]?=some v->J.go i H1/\∀x H2,J.yld i H1 x H2->dH H1 H2/\aP K q.c H2 v x)/\J.stop xs.1.length H1
theorem eY.step{p q:Ph}{H H':Hp}{xs:AI×Gd}{J:It}(h:eY K p H xs J)(s:bI p H q H'):eY K q H' xs J:=⟨h.1,λr H1 S1 t=>h.2 r H1 S1 (s.trans t)⟩
variable(K cl E X)
def PIp(tg iter:ag)(m:MI):Prop:=X.K=K->PI X tg iter (tP K cl E (eY K) m)
variable{K cl E X}
theorem PI.imp{tg iter:ag}{t t':TI}(h:PI X tg iter t)(i:∀σ H Q,t' σ H Q->t σ H Q):PI X tg iter t':=λAM s σ H R I q=>h AM s σ H R I (i σ H R q)
def acf(K:af)(tl:TE):TI:=λσ H R=>tl σ H λx H1=>∃a,x=.ref a/\(((∃xs,bT K H1 a xs)/\R (xM K a) H1)\/((∃xs,dD K H1 a xs)/\R (We K a) H1))
theorem Ko{l:ag}{tl:TE}(hl:PE X l tl):PI X tg l (acf X.K tl):=by
 intro AM s σ H R I h;refine bC (hl AM s σ H _ I h) λv s1 ⟨x,H1,I1,r1,q1⟩=>?_;obtain⟨a,e,q⟩:=q1;subst e;cases r1;rcases q with⟨⟨xs,hq⟩,q⟩|⟨⟨xs,hq⟩,q⟩
 .obtain⟨its,rv,p,hz⟩:=I1.list hq
  refine wm p.isList ?_;refine⟨s1.heap.objs.size,[s1.heap.objs.size],_,_,H1,rfl,I1.kept (t':=s1.toks) λb o e=>av _ e,Zw a _,⟨_,cy _ rfl,rfl,rfl⟩,λb hb=>?_,q⟩;have e:b=s1.heap.objs.size:=by simpa using hb
  subst e;exact I1.fpOk (aj _) (I1.hok.fresh (aj _))
 .obtain⟨its,rv,p,hz⟩:=I1.tuple hq
  refine d5 (show s1.heap.IsTuple a its.toArray from p) ?_;refine⟨s1.heap.objs.size,[s1.heap.objs.size],_,_,H1,rfl,I1.kept (t':=s1.toks) λb o e=>av _ e,Mv a _,⟨_,cy _ rfl,rfl,rfl⟩,λb hb=>?_,q⟩;have e:b=s1.heap.objs.size:=by simpa using hb
  subst e;exact I1.fpOk (aj _) (I1.hok.fresh (aj _))
def cK:AV->aH->bG (AI×Gd)
 |.pv (.lst xs),S=>.ok (xs,[]) S
 |.pv (.tup xs),S=>.ok (xs,[]) S
 |.ref k,S=>match S[k]? with
  |some (.lst xs)=>.ok (xs,[(k,xs)]) S
  |_=>.fail
 |_,_=>.fail
def bJ(m:ME):MI:=λρ S=>(m ρ S).bind cK
theorem X5{p:Ph}{H:Hp}{xs:AI}{a:Addr}{vs:List V}(l:kD K p.c H a vs)(z:vs.length<=sizeLine)(r:aQ K p.c H xs vs):eY K p H (xs,[]) (xM K a):=by
 refine⟨by rw[r.length];exact z,λq H1 S1 st _ _=>⟨λi v e=>?_,?_⟩⟩
 .have l1:=(st.lat l).sq
  obtain⟨x,e1,r1⟩:=(st.reps r).get e;refine⟨⟨vs,x,l1,e1⟩,λy H2 hy=>?_⟩;obtain⟨rfl,hy⟩:=hy;have:=(hy vs l1).symm.trans e1;cases this;exact⟨dH.refl _,r1⟩
 .exact⟨vs,(st.lat l).sq,by rw[r.length];exact aj _⟩
theorem aat{p:Ph}{H:Hp}{xs:AI}{a:Addr}{vs:List V}(l:dD K H a vs)(z:vs.length<=sizeLine)(r:aQ K p.c H xs vs):eY K p H (xs,[]) (We K a):=by
 refine⟨by rw[r.length];exact z,λq H1 S1 st _ _=>⟨λi v e=>?_,?_⟩⟩
 .have l1:=st.tup l
  obtain⟨x,e1,r1⟩:=(st.reps r).get e;refine⟨⟨vs,x,l1,e1⟩,λy H2 hy=>?_⟩;obtain⟨rfl,hy⟩:=hy;have:=(hy vs l1).symm.trans e1;cases this;exact⟨dH.refl _,r1⟩
 .exact⟨vs,st.tup l,by rw[r.length];exact aj _⟩
theorem X6{p:Ph}{H:Hp}{xs:AI}{a:Addr}{k:Nat}{n:xs.length<=sizeLine}(hf:p.f[k]?=some a):eY K p H (xs,[(k,xs)]) (xM K a):=by
 refine⟨n,λq H1 S1 st sm g=>?_⟩;have e0:S1[k]?=some (.lst xs):=g (k,xs) bi;obtain⟨vs,h1,l1,r1⟩:=sm.obj k a _ (st.at_ hf) e0;refine⟨λi v e=>?_,?_⟩
 .obtain⟨x,e1,r2⟩:=r1.get e
  refine⟨⟨vs,x,bT.of h1,e1⟩,λy H2 hy=>?_⟩;obtain⟨rfl,hy⟩:=hy;have:=(hy vs (bT.of h1)).symm.trans e1;cases this;exact⟨dH.refl _,r2⟩
 .exact⟨vs,bT.of h1,by rw[r1.length];exact aj _⟩
theorem P8(h:aT K cl E X e m):PIp K cl E X tg e (bJ m):=by
 intro hK;subst hK;refine PI.imp (Ko (h rfl)) λσ H R ⟨p,S,ρ,s,ev,h⟩=>?_;refine bU s ev h λq H' v x S' cR sm ev r k=>?_;cases v with
 |ref j=>
  obtain⟨a,e,rfl⟩:=r;unfold cK at k;dsimp only at k;cases z:S'[j]? with
  |none=>rw[z]at k;exact k.elim
  |some o=>
   cases o with
   |lst xs=>
    rw[z]at k;obtain⟨vs,h1,l1,r1⟩:=sm.obj j a _ e z;exact⟨a,rfl,.inl ⟨⟨vs,bT.of h1⟩,bN.ret (R:=eY X.K) k sm (X6 (n:=by rw[r1.length];exact l1) e)⟩⟩
   |lol _=>rw[z]at k;exact k.elim
   |dic _ _=>rw[z]at k;exact k.elim
   |dol _ _=>rw[z]at k;exact k.elim
 |pv v=>
  cases v with
  |lst xs=>
   have r:aP X.K q.c H' (.lst xs) x:=r;unfold aP at r;obtain⟨a,vs,rfl,l,z,r⟩:=r;exact⟨a,rfl,.inl ⟨⟨vs,l.sq⟩,bN.ret (R:=eY X.K) k sm (X5 l z r)⟩⟩
  |tup xs=>
   have r:aP X.K q.c H' (.tup xs) x:=r;unfold aP at r;obtain⟨a,vs,rfl,l,z,r⟩:=r;exact⟨a,rfl,.inr ⟨⟨vs,l⟩,bN.ret (R:=eY X.K) k sm (aat l z r)⟩⟩
  |_=>exact k.elim
def cB(lo:Int)(n:Nat):AI:=(ce n).map λi=>.int (lo+(i:Nat))
def iV:AL->aH->bG (AI×Gd)
 |[.pv (.int j)],S1=>@ite _ (j<=16777216/\-16777216<=j) (rn _) (.ok (cB 0 j.toNat,[]) S1) .fail
 |_,_=>.fail
def bZ(ms:MA):MI:=λρ S=>(ms ρ S).bind iV
def wO:AL->aH->bG (AI×Gd)
 |[.pv (.int i),.pv (.int j)],S1=>@ite _ ((-4611686018427387904<=i/\i<4611686018427387904/\-4611686018427387904<=j/\j<4611686018427387904)/\j-i<=16777216) (rn _) (.ok (cB i (j-i).toNat,[]) S1) .fail
 |_,_=>.fail
def kU(ms:MA):MI:=λρ S=>(ms ρ S).bind wO
theorem Cp{p:Ph}{H:Hp}{lo:Int}{n:Nat}(h:n<=sizeLine):eY K p H (cB lo n,[]) (tT lo n):=by
 have hl:(cB lo n).length=n:=by unfold cB;rw[ak,ww]
 refine⟨by show(cB lo n).length<=_;rw[hl];exact h,λq H1 S1 st _ _=>⟨λi v e=>?_,?_⟩⟩
 .have hi:i<n:=by
   have:=(ca.mp (show(cB lo n)[i]?=some v from e)).1;omega
  refine⟨hi,λx H2 hy=>?_⟩;obtain⟨rfl,rfl⟩:=hy;have e:(cB lo n)[i]?=some v:=e;unfold cB at e;rw[bj,List.getElem?_range hi]at e;cases e;refine⟨dH.refl _,?_⟩;unfold aP;rfl
 .show n<=(cB lo n).length
  rw[hl];exact aj n
theorem Fv{p:ah}(hg:Gl X "range")(hm:X.mg "range"=none)(ha:eM K cl E X [a] ms)(hs:starEach [a] X.env=[(false,eval a X.env)]:=by rfl):PIp K cl E X tg (.Call (.Name "range" p) [a] [] pos) (bZ ms):=by
 intro hK;subst hK;refine PI.imp (Nw hg hm (ha rfl) hs) λσ H R ⟨p,S,ρ,s,ev,h⟩=>?_;refine bU s ev h λq H' vs xs S' cR sm ev r k=>?_;unfold iV at k;split at k
 .rename_i j
  cases r with
  |cons r1 r2=>
   cases r2;rename_i x;have e:x=.int j:=by
    have r1:aP X.K q.c H' (.int j) x:=r1;unfold aP at r1;exact r1
   subst e;split at k
   .rename_i hj
    have hz:=iP;exact⟨j,rfl,by omega,by omega,bN.ret (R:=eY X.K) k sm (Cp (by omega))⟩
   .exact k.elim
 .exact k.elim
theorem Kv{p:ah}(hg:Gl X "range")(hm:X.mg "range"=none)(ha:eM K cl E X [a,b] ms)(hs:starEach [a,b] X.env=[(false,eval a X.env),(false,eval b X.env)]:=by rfl)(hs2:starEach [b] X.env=[(false,eval b X.env)]:=by rfl):PIp K cl E X tg (.Call (.Name "range" p) [a,b] [] pos) (kU ms):=by
 intro hK;subst hK;refine PI.imp (Ix hg hm (ha rfl) hs hs2) λσ H R ⟨p,S,ρ,s,ev,h⟩=>?_;refine bU s ev h λq H' vs xs S' cR sm ev r k=>?_;unfold wO at k;split at k
 .rename_i i j
  cases r with
  |cons r1 r2=>
   cases r2 with
   |cons r2 r3=>
    cases r3;rename_i x y;have e:x=.int i:=by
     have r1:aP X.K q.c H' (.int i) x:=r1;unfold aP at r1;exact r1
    have e2:y=.int j:=by
     have r1:aP X.K q.c H' (.int j) y:=r2;unfold aP at r1;exact r1
    subst e e2;split at k
    .rename_i hj
     have hz:=iP;exact⟨i,j,rfl,by omega,bN.ret (R:=eY X.K) k sm (Cp (by omega))⟩
    .exact k.elim
 .exact k.elim
theorem R6{mi:MI}{g:GM}(hp:ow (model X.prog X.w) X.A X.env X.xe)(hc:X.calm=true)(hi:PIp K cl E X tg e mi)(hg:lG K X tg g)(hb:fY K cl E X sts b1)
  (hs:∀x,foldedSetIterable e X.env x=pure x:=by intro _;rfl):eO K cl E X (.For tg e sts [] pos) (bS mi g b1):=by
 intro hK;subst hK;refine PS.imp (Ho hp hc (hi rfl) (hg rfl) (hb rfl) hs) λD σ H ⟨p,S,ρ,s,ev,h⟩=>?_;refine iR s ev h λq H' xg J S' cR sm ev it k=>?_;obtain⟨xs,G⟩:=xg;refine⟨λi n σ H=>n=xs.length-i/\i<=xs.length/\∃p S ρ,aU X.K p S H/\dE X.K p H ρ σ/\eY X.K p H (xs,G) J/\eC X.K cl p H (dN G g b1 (xs.drop i) ρ S) D E,⟨xs.length,by simp,ft _,q,S',ρ,sm,ev,it,by simpa using k⟩,?_⟩
 rintro i n σ1 H1 ⟨rfl,hi,p1,S1,ρ1,sm1,ev1,it1,k1⟩
 by_cases hlt:i<xs.length
 .have hx:xs[i]?=some xs[i]:=au hlt
  rw[rp hlt]at k1;unfold dN at k1;split at k1
  .rename_i gk
   obtain⟨g1,y1⟩:=(it1.2 p1 H1 S1 sm1.step sm1 gk).1 i _ hx;cases z:g xs[i] ρ1 with
   |none=>simp only[z]at k1;exact k1.elim
   |some ρ2=>
    simp only[z]at k1;refine .inr ⟨g1,λσ' H'=>i+1<=xs.length/\∃p S ρ,aU X.K p S H'/\dE X.K p H' ρ σ'/\eY X.K p H' (xs,G) J/\eC X.K cl p H' (dN G g b1 (xs.drop (i+1)) ρ S) D E,λσ' H' hN=>⟨xs.length-(i+1),by omega,rfl,hN⟩,λx H2 hy=>?_⟩;obtain⟨same,rx⟩:=y1 x H2 hy;have st2:=sm1.same same;have sm2:=sm1.ofSame same;refine⟨p1,S1,ρ1,xs[i],ρ2,sm2,st2.repE ev1,rx,z,λσ3 ev3=>⟨p1,S1,ρ2,sm2,ev3,?_⟩⟩;have it2:=it1.step st2;cases y:b1 ρ2 S1 with
    |nx ρ4 S4=>
     rw[y]at k1;exact λq5 H5 σ5 st5 sm5 ev5=>⟨hlt,q5,S4,ρ4,sm5,ev5,it2.step st5,eC.mono (r:=dN G g b1 (xs.drop (i+1)) ρ4 S4) k1 (st2.trans st5)⟩
    |ct ρ4 S4=>
     rw[y]at k1;exact λq5 H5 σ5 st5 sm5 ev5=>⟨hlt,q5,S4,ρ4,sm5,ev5,it2.step st5,eC.mono (r:=dN G g b1 (xs.drop (i+1)) ρ4 S4) k1 (st2.trans st5)⟩
    |bk ρ4 S4=>rw[y]at k1;exact eC.mono (r:=.nx ρ4 S4) k1 st2
    |rt v S4=>rw[y]at k1;exact eC.mono (r:=.rt v S4) k1 st2
    |exc v S4=>rw[y]at k1;exact eC.mono (r:=.exc v S4) k1 st2
    |fail=>rw[y]at k1;exact k1.elim
  .exact k1.elim
 .have e:i=xs.length:=by omega
  subst e;rw[sa]at k1;unfold dN at k1;split at k1
  .rename_i gk
   exact .inl ⟨(it1.2 p1 H1 S1 sm1.step sm1 gk).2,eC.nxD k1 sm1 ev1⟩
  .exact k1.elim
theorem Dx(hp:ow (model X.prog X.w) X.A X.env X.xe)(hc:fJ K cl E X c mt)(hb:fY K cl E X sts b1):eO K cl E X (.While c sts [] pos) (jW mt b1):=by
 intro hK;subst hK;refine PS.imp (E2 hp (hc rfl) (hb rfl)) λD σ H ⟨p,S,ρ,s,ev,h⟩=>?_;unfold jW at h;split at h
 .rename_i hh
  refine⟨λn σ H=>∃p S ρ,aU X.K p S H/\dE X.K p H ρ σ/\eC X.K cl p H (dL mt b1 n ρ S) D E,⟨_,p,S,ρ,s,ev,h⟩,?_⟩
  rintro n σ1 H1 ⟨p1,S1,ρ1,sm1,ev1,k1⟩
  cases n with
  |zero=>exact k1.elim
  |succ n=>
   unfold dL at k1;refine iR sm1 ev1 k1 λq H2 t t' S2 cR sm2 ev2 r k2=>?_;cases r;cases t with
   |true=>
    rw[if_pos rfl]at k2⊢;refine⟨λσ' H'=>∃p S ρ,aU X.K p S H'/\dE X.K p H' ρ σ'/\eC X.K cl p H' (dL mt b1 n ρ S) D E,λσ' H' hN=>⟨n,wz n,hN⟩,q,S2,ρ1,sm2,ev2,?_⟩;cases y:b1 ρ1 S2 with
    |nx ρ4 S4=>
     rw[y]at k2;exact λq5 H5 σ5 st5 sm5 ev5=>⟨q5,S4,ρ4,sm5,ev5,eC.mono (r:=dL mt b1 n ρ4 S4) k2 st5⟩
    |ct ρ4 S4=>
     rw[y]at k2;exact λq5 H5 σ5 st5 sm5 ev5=>⟨q5,S4,ρ4,sm5,ev5,eC.mono (r:=dL mt b1 n ρ4 S4) k2 st5⟩
    |bk ρ4 S4=>rw[y]at k2;exact k2
    |rt v S4=>rw[y]at k2;exact k2
    |exc v S4=>rw[y]at k2;exact k2
    |fail=>rw[y]at k2;exact k2.elim
   |false=>
    rw[if_neg jh]at k2⊢;exact eC.nxD k2 sm2 ev2
 .exact h.elim
end
end
def gL(n:Nat)(xs:AL):bM:=xs.map some++jy (n-xs.length) none
def jG(n:Nat):AV->aH->bG AV
 |.pv v,S=>.ok (.pv v) (S.take n)
 |.ref k,S=>if k<n then .ok (.ref k) (S.take n)else match S[k]? with
  |some (.lst xs)=>.ok (.ref n) (S.take n++[.lst xs])
  |some (.dic b kvs)=>.ok (.ref n) (S.take n++[.dic b kvs])
  |_=>.fail
def frz(n:Nat):bG AV->bG AV
 |.ok (.ref k) S=>if k<n then .ok (.ref k) S else match S[k]? with
  |some (.lst xs)=>.ok (.pv (.lst xs)) (S.take n)
  |_=>.fail
 |r=>r
def jV(n:Nat):bV->bG AV
 |.rt v S=>jG n v S
 |.nx _ S=>.ok (.pv .non) (S.take n)
 |.exc e S=>.exc e (S.take n)
 |_=>.fail
def aY(np n:Nat)(b:MS)(xs:AL)(S:aH):bG AV:=if xs.length=np then jV S.length (b (gL n xs) S)else .fail
def jF{α:Type}:bG α->bG α
 |.ok a S=>.ok a S
 |_=>.fail
abbrev FM:=AL->aH->bG AV
def oK(f:FM)(ds:AI)(ms:MA):ME:=λρ S=>(ms ρ S).bind λxs S1=>frz S1.length (f (xs++ds.map .pv) S1)
def aR(f:FM)(ds:AI)(ms:MA):ME:=λρ S=>(ms ρ S).bind λxs S1=>frz S1.length (jF (f (xs++ds.map .pv) S1))
def oB(f:FM)(ds:AI)(ms:MA):ME:=λρ S=>(ms ρ S).bind λxs S1=>jF (f (xs++ds.map .pv) S1)
def kP(K:af)(cl:Str->Addr)(f:FM):Sp:=λvs H Q E=>∃p S xs,aU K p S H/\fW K p H xs vs/\bN K cl (bR K) p H (f xs S) Q E
def kN(K:af)(cl:Str->Addr)(f:FM):Sp:=λvs H Q _=>kP K cl f vs H Q E0
section
variable{K:af}{cl:Str->Addr}{p q:Ph}{H H':Hp}{S S':aH}
theorem Kg{c c':Addr->Prop}(h:∀a,c a->c' a){a:Addr}{vs:List V}(l:kD K c' H a vs):kD K c H a vs:=by
 rcases l with⟨l,n⟩|l |l
 .exact .inl ⟨l,λz=>n (h a z)⟩
 .exact .inr (.inl l)
 .exact .inr (.inr l)
theorem nP{c c':Addr->Prop}(h:∀a,c a->c' a){ps:AI}{vs:List V}(r:aQ K c' H ps vs):aQ K c H ps vs:=aQ.mono (λ_ _ t=>t) (λ_ _ l=>Kg h l) ps vs r
theorem Gg{c c':Addr->Prop}(h:∀a,c a->c' a){v:PV}{x:V}(r:aP K c' H v x):aP K c H v x:=aP.mono (λ_ _ t=>t) (λ_ _ l=>Kg h l) v x r
theorem Uu{f g:List Addr}(h:f <+:g):g.take f.length=f:=by
 obtain⟨t,e⟩:=h;rw[<-e,f6]
theorem pJ{α:Type}:∀{l:List α}{i j:Nat}{a:α},l.Nodup->l[i]?=some a->l[j]?=some a->i=j
 |[],i,j,a,_,e,_=>by simp at e
 |b::l,0,0,a,_,_,_=>rfl
 |b::l,0,j+1,a,n,e,f=>by
  simp at e f;subst e;exact absurd (cv f) (kz.mp n).1
 |b::l,i+1,0,a,n,e,f=>by
  simp at e f;subst f;exact absurd (cv e) (kz.mp n).1
 |b::l,i+1,j+1,a,n,e,f=>by
  exact congrArg (·+1) (pJ (l:=l) (a:=a) (kz.mp n).2 (by simpa using e) (by simpa using f))
theorem aU.cutX(D:Addr->Prop)(s:aU K p S H)(st:bI p H q H')(s':aU K q S' H')(hD:∀b,D b->H b=none)(hq:(∀b,D b->b∈q.f)\/∀k o,S'[k]?=some o->k<S.length->∃xs,o=.lst xs):
  let r:Ph:=⟨p.f,λb=>q.w b/\¬D b,λb=>q.c b/\¬D b⟩
  bI p H r H'/\aU K r (S'.take S.length) H':=by
 intro r;have nD:∀a,p.c a->¬D a:=λa c d=>by
  obtain⟨o,ho,_⟩:=s.mu a c;rw[hD a d]at ho;cases ho
 have le:S.length<=S'.length:=by
  have:=st.pre.length_le;rw[<-s.len,<-s'.len];exact this
 refine⟨⟨s.wc,s.mu,ju,λa h=>⟨st.mw a h,nD a (s.wc a h)⟩,λa h=>⟨st.mono a h,nD a h⟩,λ_ h g=>absurd h g,λa h=>st.nw a h.1,λa h=>st.nc a h.1,st.keep⟩,s.nd,by rw[s.len,jz];omega,λa h=>⟨st.mw a (s.sub a h),nD a (s.wc a (s.sub a h))⟩,λa h=>⟨s'.wc a h.1,h.2⟩,λa h=>s'.mu a h.1,λk a o e1 e2=>?_⟩;have hk:k<S.length:=by
  have:=(ca.mp e1).1;rw[<-s.len];exact this
 have e2':S'[k]?=some o:=by
  rw[se,if_pos hk]at e2;exact e2
 have z:=s'.obj k a o (st.at_ e1) e2';have shr:∀xs vs,aQ K q.c H' xs vs->aQ K r.c H' xs vs:=λxs vs=>nP (λb h=>h.1);have sub:∀b,b∉q.f->b∉p.f:=λb n h=>n (st.pre.subset h);rcases hq with hq |hq
 .exact z.mono (λ_ e=>e) (λb w f=>⟨⟨⟨w,λd=>f (hq b d)⟩,sub b f⟩,λ_ e=>e⟩) shr
 .obtain⟨xs,rfl⟩:=hq k o e2' hk
  obtain⟨vs,e,l,g⟩:=z;exact⟨vs,e,l,shr xs vs g⟩
theorem aU.cut(s:aU K p S H)(st:bI p H q H')(s':aU K q S' H'):bI p H ⟨p.f,λb=>q.w b/\¬False,λb=>q.c b/\¬False⟩ H'/\aU K ⟨p.f,λb=>q.w b/\¬False,λb=>q.c b/\¬False⟩ (S'.take S.length) H':=
 s.cutX (λ_=>False) st s' (λ_ h=>h.elim) (.inl λ_ h=>h.elim)
theorem zL(s:aU K p S H)(st:bI p H q H')(sm:aU K q S' H'){k:Nat}{a:Addr}(e:q.f[k]?=some a)(hk:¬k<S.length):a∉p.f/\H a=none/\¬p.c a:=by
 have na:a∉p.f:=λhm=>by
  obtain⟨j,hj,ej⟩:=ph hm;have e2:q.f[j]?=some a:=st.at_ (by rw[au hj,ej]);have hjk:j=k:=pJ sm.nd e2 e;rw[s.len]at hj;omega
 have hn:=st.nf a (cv e) na;refine⟨na,hn,λc=>?_⟩;obtain⟨o,ho,_⟩:=s.mu a c;rw[hn]at ho;cases ho
theorem zX{r:bG AV}{Q:VK}{E:XK}(s:aU K p S H)(h:bN K cl (bR K) p H (frz S.length r) Q E):bN K cl (bR K) p H r Q E:=by
 cases r with
 |exc n S1=>exact h
 |fail=>exact h
 |ok v S1=>
  cases v with
  |pv v=>exact h
  |ref k=>
   have h:bN K cl (bR K) p H (if k<S.length then .ok (.ref k) S1 else match S1[k]? with
    |some (.lst xs)=>.ok (.pv (.lst xs)) (S1.take S.length)
    |_=>.fail) Q E:=h
   split at h
   .exact h
   .rename_i hk
    cases z:S1[k]? with
    |none=>rw[z]at h;exact h.elim
    |some o=>
     cases o with
     |lol _=>rw[z]at h;exact h.elim
     |dic _ _=>rw[z]at h;exact h.elim
     |dol _ _=>rw[z]at h;exact h.elim
     |lst xs=>
      rw[z]at h;intro q H' x st sm r;obtain⟨a,e,rfl⟩:=r;obtain⟨na,hn,nc⟩:=zL s st sm e hk;obtain⟨st1,sm1⟩:=s.cutX (λb=>b=a) st sm (λb d=>d▸hn) (.inl λb d=>d▸cv e);obtain⟨vs,h1,l,r⟩:=sm.obj k a _ e z;refine h _ H' (.ref a) st1 sm1 ?_;show aP K (λb=>q.c b/\¬b=a) H' (.lst xs) (.ref a);unfold aP;exact⟨a,vs,rfl,.inl ⟨h1,λd=>d.2 rfl⟩,l,nP (λb h=>h.1) r⟩
theorem yT{r:bV}{Q:VK}{E:XK}(s:aU K p S H)(h:bN K cl (bR K) p H (jV S.length r) Q E):eC K cl p H r {nx:=λ_ H'=>Q .non H',rt:=Q} E:=by
 cases r with
 |nx ρ S1=>
  intro q H' σ st sm ev;obtain⟨st1,sm1⟩:=s.cut st sm;exact h _ H' .non st1 sm1 (by show aP K (λb=>q.c b/\¬False) H' .non .non;unfold aP;rfl)
 |exc n S1=>
  intro q H' st sm;obtain⟨st1,sm1⟩:=s.cut st sm;exact h _ H' st1 sm1
 |rt v S1=>
  intro q H' x st sm r;obtain⟨st1,sm1⟩:=s.cut st sm;cases v with
  |pv v=>exact h _ H' x st1 sm1 (show aP K (λb=>q.c b/\¬False) H' v x from Gg (λb h=>h.1) r)
  |ref k=>
   obtain⟨a,e,rfl⟩:=r;have h:bN K cl (bR K) p H (if k<S.length then .ok (.ref k) (S1.take S.length)else match S1[k]? with
    |some (.lst xs)=>.ok (.ref S.length) (S1.take S.length++[.lst xs])
    |some (.dic b kvs)=>.ok (.ref S.length) (S1.take S.length++[.dic b kvs])
    |_=>.fail) Q E:=h
   split at h
   .rename_i hk
    refine h _ H' (.ref a) st1 sm1 ⟨a,?_,rfl⟩;show p.f[k]?=some a;have hf:=Uu st.pre;rw[<-hf,se,if_pos (by rw[s.len];exact hk)];exact e
   .rename_i hk
    have fin:∀o,S1[k]?=some o->bN K cl (bR K) p H (.ok (.ref S.length) (S1.take S.length++[o])) Q E->Q (.ref a) H':=λo z h=>by
     obtain⟨na,hn,nc⟩:=zL s st sm e hk;have l1:(S1.take S.length).length=S.length:=by rw[<-sm1.len,<-s.len]
     have ma:a∈q.f:=cv e;refine h ⟨p.f++[a],q.w,q.c⟩ H' (.ref a) ⟨s.wc,s.mu,⟨[a],rfl⟩,st.mw,st.mono,λb hb n=>?_,st.nw,st.nc,st.keep⟩ ⟨?_,?_,λb hb=>?_,sm.wc,sm.mu,λj b o e1 e2=>?_⟩ ⟨a,?_,rfl⟩
     .rcases cq.mp hb with z |z
      .exact absurd z n
      .have:b=a:=by simpa using z
       rw[this];exact hn
     .show(p.f++[a]).Nodup
      rw[pk];refine⟨s.nd,by simp,λb hb c hc z=>?_⟩;have:c=a:=by simpa using hc
      exact na (this▸z▸hb)
     .show(p.f++[a]).length=_
      rw[bf,bf,l1,s.len];rfl
     .rcases cq.mp hb with z |z
      .exact st.mw b (s.sub b z)
      .have:b=a:=by simpa using z
       rw[this];exact sm.sub a ma
     .by_cases hj:j<S.length
      .have e1':p.f[j]?=some b:=by
        have e1:(p.f++[a])[j]?=some b:=e1
        rwa[eh (by rw[s.len];exact hj)]at e1
       rw[eh (by rw[l1];exact hj),se,if_pos hj]at e2;refine(sm.obj j b o (st.at_ e1') e2).mono (λ_ e=>e) (λc w f=>⟨⟨w,λm=>?_⟩,λ_ e=>e⟩) λ_ _ r=>r;rcases cq.mp m with z |z
       .exact f (st.pre.subset z)
       .have:c=a:=by simpa using z
        exact f (this▸ma)
      .have hj':j=S.length:=by
        have:=(ca.mp e2).1;rw[bf,l1]at this;simp at this;omega
       subst hj';rw[di (by rw[l1];exact aj _),l1,gg]at e2;have e1:(p.f++[a])[S.length]?=some b:=e1;rw[<-s.len,di (aj _),gg]at e1;cases e1;cases e2;refine(sm.obj k a _ e z).mono (λ_ e=>e) (λc w f=>⟨⟨w,λm=>?_⟩,λ_ e=>e⟩) λ_ _ r=>r;rcases cq.mp m with z |z
       .exact f (st.pre.subset z)
       .have:c=a:=by simpa using z
        exact f (this▸ma)
     .show(p.f++[a])[S.length]?=some a
      rw[<-s.len,di (aj _),gg];rfl
    split at h
    .rename_i z
     exact fin _ z h
    .rename_i z
     exact fin _ z h
    .exact h.elim
 |bk ρ S1=>exact h.elim
 |ct ρ S1=>exact h.elim
 |fail=>exact h.elim
theorem uI{N:List Str}{xs:AL}{vs:List V}(r:fW K p H xs vs):dE K p H (gL N.length xs) (L2.start N vs):=by
 have go:∀{xs:AL}{vs:List V},fW K p H xs vs->xs.length=vs.length:=λ{xs vs} r=>by
  induction r with
  |nil=>rfl
  |cons _ _ ih=>rw[bo,bo,ih]
 have get:∀{xs:AL}{vs:List V},fW K p H xs vs->∀(i:Nat)(v:AV),xs[i]?=some v->∃x,vs[i]?=some x/\bR K p H v x:=λ{xs vs} r=>by
  induction r with
  |nil=>intro i v e;simp at e
  |cons h _ ih=>
   intro i v e;cases i with
   |zero=>
    simp at e;subst e;exact⟨_,rfl,h⟩
   |succ i=>simpa using ih i v (by simpa using e)
 have hl:=go r;refine⟨by unfold gL L2.start;simp[hl],λi v e=>?_⟩;unfold gL at e;unfold L2.start
 by_cases hi:i<xs.length
 .rw[eh (by simpa using hi),bj]at e
  cases z:xs[i]? with
  |none=>rw[z]at e;cases e
  |some u=>
   rw[z]at e;cases e;obtain⟨x,e1,e2⟩:=get r i v z;refine⟨x,?_,e2⟩;rw[eh (by rw[ak,<-hl];exact hi),bj,e1];rfl
 .rw[di (by rw[ak];omega),zc]at e
  split at e
  .cases e
  .cases e
end
section
variable{P:Program}{w:am}{K:af}{mg:Str->AF}{base:Heap}{cl:Str->Addr}
theorem Ai{K:af}{p:Ph}{H:Hp}{xs:AL}{vs:List V}(h:fW K p H xs vs):xs.length=vs.length:=by
 induction h with
 |nil=>rfl
 |cons _ _ ih=>rw[bo,bo,ih]
theorem Ub{np n:Nat}{b:MS}{vs:List V}{H:Hp}{Q:VK}{E:XK}(h:kP K cl (aY np n b) vs H Q E):vs.length=np:=by
 obtain⟨p,S,xs,sm,ra,h⟩:=h;unfold aY at h;split at h
 .rename_i e
  rw[<-Ai ra,e]
 .exact h.elim
theorem Bt{x qual:Str}{st:Stmt}{f:Addr}{fd:cf}{N ps:List Str}{k np n:Nat}{b:MS}(F:iJ K x qual st f fd)(S:iD N ps (bY st))(hnp:ps.length=np)(hn:N.length=n)
  (hb:∀(cdv:Value)(A:aq)(outer:List az)(s:aa)(H:Hp)(E:XK),dI k (A.deeper (envOfC qual (bY st) s.heap.objs.size f cdv))->fY K cl E0 (eW fA P w K mg base N qual (bY st) f cdv A outer s H E).nox (eF st) b):
  dX P w K mg base fA (k+1) f fd ps (kN K cl (aY np n b)):=by
 subst hnp hn;refine F.ok S (λvs H Q E h=>Ub h) λcdv A outer s H vs Q E hr h=>⟨_,hb cdv A outer s H E hr rfl,?_⟩;obtain⟨p,S,xs,sm,ra,h⟩:=h;unfold aY at h;split at h
 .exact⟨p,S,_,sm,uI ra,yT sm h⟩
 .exact h.elim
theorem okX{x qual:Str}{st:Stmt}{f:Addr}{fd:cf}{N ps:List Str}{k np n:Nat}{b:MS}(F:iJ K x qual st f fd)(S:iD N ps (bY st))(hnp:ps.length=np)(hn:N.length=n)
  (hb:∀(cdv:Value)(A:aq)(outer:List az)(s:aa)(H:Hp)(E:XK),dI k (A.deeper (envOfC qual (bY st) s.heap.objs.size f cdv))->fY K cl E (eW (fI P w) P w K mg base N qual (bY st) f cdv A outer s H E) (eF st) b):
  dX P w K mg base (fI P w) (k+1) f fd ps (kP K cl (aY np n b)):=by
 subst hnp hn;refine F.okX S (λvs H Q E h=>Ub h) λcdv A outer s H vs Q E hr h=>⟨_,hb cdv A outer s H E hr rfl,?_⟩;obtain⟨p,S,xs,sm,ra,h⟩:=h;unfold aY at h;split at h
 .exact⟨p,S,_,sm,uI ra,yT sm h⟩
 .exact h.elim
theorem acx{x qual:Str}{st:Stmt}{f:Addr}{fd:cf}{ds:Array Value}{N ps:List Str}{k np n:Nat}{b:MS}(F:mX K x qual st f fd ds)(S:iD N ps (bY st))(hnp:ps.length=np)(hn:N.length=n)
  (hb:∀(cdv:Value)(A:aq)(outer:List az)(s:aa)(H:Hp)(E:XK),dI k (A.deeper (envOfC qual (bY st) s.heap.objs.size f cdv))->fY K cl E (eW (fI P w) P w K mg base N qual (bY st) f cdv A outer s H E) (eF st) b):
  dX P w K mg base (fI P w) (k+1) f fd ps (kP K cl (aY np n b)):=by
 subst hnp hn;refine F.okX S (λvs H Q E h=>Ub h) λcdv A outer s H vs Q E hr h=>⟨_,hb cdv A outer s H E hr rfl,?_⟩;obtain⟨p,S,xs,sm,ra,h⟩:=h;unfold aY at h;split at h
 .exact⟨p,S,_,sm,uI ra,yT sm h⟩
 .exact h.elim
theorem x0{f:Addr}{fd:cf}{ps:List Str}{k:Nat}{g:FM}(F:dX P w K mg base (fI P w) k f fd ps (kP K cl g)):dX P w K mg base fA k f fd ps (kN K cl g):=
 ⟨λvs H Q E h=>F.len vs H Q E0 h,λA outer s H args us vs Q E hr e0 hb hv h=>oz (F.run A outer s H args us vs Q E0 hr e0 hb hv h) λr s' hq=>by
  cases r with
  |error e=>
   obtain⟨_,_,_,_,_,_,_,_,_,_,_,_,z⟩:=hq;exact z
  |ok fl=>
   cases fl with
   |ret u=>exact hq
   |next=>exact hq
   |brk=>exact hq
   |cont=>exact hq⟩
end
section
variable{K:af}{cl:Str->Addr}{E:XK}{X:Cx}{e:ag}{es:List ag}{ms:MA}{pos p:ah}{k n:Nat}{f:Addr}{fd:cf}{ps:List Str}{g:FM}{x:Str}{dvs:List V}{ds:AE}{dv:AI}
theorem uB{p:Ph}{H:Hp}{xs ys:AL}{vs ws:List V}(h:fW K p H xs vs)(g:fW K p H ys ws):fW K p H (xs++ys) (vs++ws):=by
 induction h with
 |nil=>exact g
 |cons h _ ih=>exact .cons h ih
def Dv(dv:AI)(dvs:List V):Prop:=∀K p H,fW K p H (dv.map .pv) dvs
theorem Dv.nil:Dv [] []:=λ_ _ _=>.nil
theorem Q0(F:dX X.prog X.w X.K X.mg X.base fA k f fd ps (kN K cl g))(hr:dI k X.A)(hg:Gl X x)(hm:X.mg x=some (.ref f))(hk:ee X.K (.ref f)=true)(hb:gR X.K fd ps ds)(hd:aZ dvs ds)(hv:Dv dv dvs)
  (ha:eM K cl E0 X (e::es) ms)(hdb:(x==("__debug__":Str))=false:=by decide)(he:starEach (e::es) X.env=(false,eval e X.env)::starEach es X.env:=by rfl)(hpl:(backTo pos (starEach es X.env)).any (·.1)=false:=by rfl):
  aT K cl E0 X (.Call (.Name x p) (e::es) [] pos) (oK g dv ms):=by
 intro hK;refine PE.imp (vH F hr hg hm hk hb hd wL (ha hK) hdb he hpl) λσ H Q ⟨p,S,ρ,s,ev,h⟩=>?_;exact bU s ev h λq H' as xs S' cR sm ev r k=>⟨q,S',_,sm,uB r (hv K q H'),zX sm k⟩
theorem Ng{α β:Type}{R:Ph->Hp->α->β->Prop}{p:Ph}{H:Hp}{r:bG α}{Q:β->Hp->Prop}(h:bN K cl R p H (jF r) Q E):bN K cl R p H r Q E0:=by
 cases r with
 |ok a S=>exact h
 |exc n S=>exact h.elim
 |fail=>exact h.elim
theorem Cz(F:dX X.prog X.w X.K X.mg X.base fA k f fd ps (kN K cl g))(hr:dI k X.A)(hg:Gl X x)(hm:X.mg x=some (.ref f))(hk:ee X.K (.ref f)=true)(hb:gR X.K fd ps ds)(hd:aZ dvs ds)(hv:Dv dv dvs)
  (ha:eM K cl E X (e::es) ms)(hdb:(x==("__debug__":Str))=false:=by decide)(he:starEach (e::es) X.env=(false,eval e X.env)::starEach es X.env:=by rfl)(hpl:(backTo pos (starEach es X.env)).any (·.1)=false:=by rfl):
  aT K cl E X (.Call (.Name x p) (e::es) [] pos) (aR g dv ms):=by
 intro hK;refine PE.imp (vH F hr hg hm hk hb hd wL (ha hK) hdb he hpl) λσ H Q ⟨p,S,ρ,s,ev,h⟩=>?_;exact bU s ev h λq H' as xs S' cR sm ev r k=>⟨q,S',_,sm,uB r (hv K q H'),Ng (zX sm k)⟩
theorem Hy(F:dX X.prog X.w X.K X.mg X.base fA k f fd ps (kN K cl g))(hr:dI k X.A)(hg:Gl X x)(hm:X.mg x=some (.ref f))(hk:ee X.K (.ref f)=true)(hb:gR X.K fd ps ds)(hd:aZ dvs ds)(hv:Dv dv dvs)
  (ha:eM K cl E X (e::es) ms)(hdb:(x==("__debug__":Str))=false:=by decide)(he:starEach (e::es) X.env=(false,eval e X.env)::starEach es X.env:=by rfl)(hpl:(backTo pos (starEach es X.env)).any (·.1)=false:=by rfl):
  aT K cl E X (.Call (.Name x p) (e::es) [] pos) (oB g dv ms):=by
 intro hK;refine PE.imp (vH F hr hg hm hk hb hd wL (ha hK) hdb he hpl) λσ H Q ⟨p,S,ρ,s,ev,h⟩=>?_;exact bU s ev h λq H' as xs S' cR sm ev r k=>⟨q,S',_,sm,uB r (hv K q H'),Ng k⟩
def qE(n:Str):MS:=λ_ S=>.exc n S
theorem Mw{P:Program}{w:am}{mg:Str->AF}{base:Heap}{N:List Str}{qual:Str}{scope:Scope}{f:Addr}{cd:Value}{A:aq}{outer:List az}{AN:aa}{AO:Hp}
  {txt:Str}{j:Nat}{np p1 cpos:ah}(hg:Gl (eW (fI P w) P w K mg base N qual scope f cd A outer AN AO E) x)(hm:mg x=some (.ref (cl x)))(hx:jb K (cl x) kH "ValueError.__new__"=true)
  (hd:(x==("__debug__":Str))=false:=by decide):
  eO K cl E (eW (fI P w) P w K mg base N qual scope f cd A outer AN AO E) (.Raise (some (.Call (.Name x np) [.Constant (.str txt) j p1] [] cpos)) none pos) (qE x):=
 λ_=>PS.imp (Vz hg hm hx hd) λD σ H ⟨p,S,ρ,s,ev,h⟩=>h p H s.step s
end
def cG(own:List Str)(cap:List (Nat×Str))(ρ:bM):bM:=own.map (λ_=>none)++cap.map λp=>(ρ[p.1]?).join
open Classical in
noncomputable def cD(G:Gd)(g:GM)(me:ME):AI->bM->aH->bG AI
 |[],_,S=>if gY G S then .ok [] S else .fail
 |x::r,ρ,S=>if gY G S then(match g x ρ with
  |none=>.fail
  |some ρ1=>match me ρ1 S with
   |.ok (.pv y) S1=>match cD G g me r ρ1 S1 with
    |.ok ys S2=>.ok (y::ys) S2
    |_=>.fail
   |_=>.fail)else .fail
theorem dZ{g:GM}{me:ME}{ρ:bM}{S:aH}:cD [] g me [] ρ S=.ok [] S:=by
 unfold cD;rw[if_pos (kG S)]
theorem eA{g:GM}{me:ME}{x:PV}{r:AI}{ρ:bM}{S:aH}:cD [] g me (x::r) ρ S=(match g x ρ with
  |none=>.fail
  |some ρ1=>match me ρ1 S with
   |.ok (.pv y) S1=>match cD [] g me r ρ1 S1 with
    |.ok ys S2=>.ok (y::ys) S2
    |_=>.fail
   |_=>.fail):=by
 rw[cD,if_pos (kG S)]
noncomputable def bE(own:List Str)(cap:List (Nat×Str))(mi:MI)(g:GM)(me:ME):ME:=λρ S=>(mi ρ S).bind λxs S1=>(cD xs.2 g me xs.1 (cG own cap ρ) S1).bind λys S2=>.ok (.pv (.lst ys)) S2
theorem Nu{G:Gd}{g:GM}{me:ME}:∀(xs:AI)(ρ:bM)(S:aH)(n:Str)(S':aH),cD G g me xs ρ S≠.exc n S'
 |[],_,_,_,_,e=>by
  unfold cD at e;split at e<;>cases e
 |x::r,ρ,S,n,S',e=>by
  unfold cD at e;split at e
  .split at e
   .cases e
   .split at e
    .split at e
     .cases e
     .cases e
    .cases e
  .cases e
theorem Zj{G:Gd}{g:GM}{me:ME}{xs zs:AI}{ρ:bM}{S S':aH}(e:cD G g me xs ρ S=.ok zs S'):gY G S:=by
 cases xs with
 |nil=>
  unfold cD at e;split at e
  .assumption
  .cases e
 |cons x r=>
  unfold cD at e;split at e
  .assumption
  .cases e
section
variable{K:af}{cl:Str->Addr}{E:XK}{X:Cx}{p q:Ph}{H H':Hp}{S:aH}
theorem Nk{ρ:bM}{σ:St}{own:List Str}{cap:List (Nat×Str)}(h:dE K p H ρ σ):dE K p H (cG own cap ρ) (iH own cap σ):=by
 refine⟨by unfold cG iH;simp,λi v e=>?_⟩;unfold cG at e;unfold iH
 by_cases hi:i<own.length
 .rw[eh (by simpa using hi),bj,au hi]at e
  cases e
 .rw[di (by rw[ak];omega),bj,ak]at e⊢
  cases z:cap[i-own.length]? with
  |none=>rw[z]at e;cases e
  |some c=>
   rw[z]at e;have e:(ρ[c.1]?).join=some v:=cg e;have e':ρ[c.1]?=some (some v):=by
    cases y:ρ[c.1]? with
    |none=>rw[y]at e;cases e
    |some o=>rw[y]at e;exact congrArg some e
   obtain⟨x,e1,e2⟩:=h.at_ c.1 v e';refine⟨x,?_,e2⟩;show some ((σ[c.1]?).join)=some (some x);rw[e1];rfl
def Ph.res(p:Ph)(D:Addr):Ph:=⟨p.f,λa=>p.w a\/a=D,λa=>p.c a\/a=D⟩
def Ph.hold(p:Ph)(D:Addr):Ph:=⟨p.f,λa=>p.w a/\a≠D,p.c⟩
def Ph.less(p:Ph)(D:Addr):Ph:=⟨p.f,λa=>p.w a/\a≠D,λa=>p.c a/\a≠D⟩
theorem aU.notin(s:aU K p S H){D:Addr}(h:H D=none):¬p.c D:=λc=>by
 obtain⟨o,e,_⟩:=s.mu D c;rw[h]at e;cases e
theorem aU.res(s:aU K p S H){D:Addr}{o:HO}(h:H D=none)(mo:Mb o):bI p H (p.res D) (aV H D o)/\aU K (p.res D) S (aV H D o):=by
 have st:bI p H (p.res D) (aV H D o):=⟨s.wc,s.mu,ju,λa h=>.inl h,λa h=>.inl h,λa h g=>absurd h g,λa x n=>x.elim (λz=>absurd z n) (λz=>by rw[z];exact h),λa x n=>x.elim (λz=>absurd z n) (λz=>by rw[z];exact h),λa u e _=>by
  rw[bO (fS e h)];exact e⟩
 refine⟨st,s.nd,s.len,λa h=>.inl (s.sub a h),λa x=>x.elim (λz=>.inl (s.wc a z)) .inr,λa x=>?_,λk a u e1 e2=>?_⟩
 .by_cases z:a=D
  .rw[z,eT]
   exact⟨o,rfl,mo⟩
  .rw[bO z]
   exact s.mu a (x.elim id λy=>absurd y z)
 .exact(s.obj k a u e1 e2).mono (λvs e=>by rw[bO (fS e h)];exact e) (λb w f=>⟨⟨.inl w,f⟩,λvs e=>by rw[bO (fS e h)];exact e⟩) λ_ _ r=>st.reps r
theorem aU.resHold(s:aU K p S H){D:Addr}{o:HO}(h:H D=none)(mo:Mb o):aU K ((p.res D).hold D) S (aV H D o):=by
 obtain⟨st,sm⟩:=s.res (o:=o) h mo;have ne:∀a,p.w a->a≠D:=λa w z=>s.notin h (z▸s.wc a w);refine⟨sm.nd,sm.len,λa m=>⟨sm.sub a m,ne a (s.sub a m)⟩,λa x=>sm.wc a x.1,sm.mu,λk a u e1 e2=>?_⟩;exact(s.obj k a u e1 e2).mono (λvs e=>by rw[bO (fS e h)];exact e) (λb w f=>⟨⟨⟨.inl w,ne b w⟩,f⟩,λvs e=>by rw[bO (fS e h)];exact e⟩) λ_ _ r=>st.reps r
theorem bI.unhold{D:Addr}(h:p.w D)(st:bI (p.hold D) H q H')(s:aU K p S H):bI p H ⟨q.f,λa=>q.w a\/a=D,q.c⟩ H':=
 ⟨s.wc,s.mu,st.pre,λa x=>by
  by_cases z:a=D
  .exact .inr z
  .exact .inl (st.mw a ⟨x,z⟩),st.mono,st.nf,λa x n=>by
  rcases x with x |x
  .exact st.nw a x λz=>n z.1
  .exact absurd (x▸h) n,st.nc,λa o e n=>st.keep a o e λz=>n z.1⟩
theorem aU.grow{D:Addr}{ys:List V}{o:HO}(s:aU K p S H)(sh:aU K (p.hold D) S H)(w:p.w D)(n:D∉p.f)(mo:Mb o):bI p H p (aV H D o)/\aU K p S (aV H D o)/\aU K (p.hold D) S (aV H D o):=by
 have st:bI p H p (aV H D o):=⟨s.wc,s.mu,ju,λ_ h=>h,λ_ h=>h,λ_ h g=>absurd h g,λ_ h g=>absurd h g,λ_ h g=>absurd h g,λa u e nw=>by
  rw[bO (λz:a=D=>nw (by rw[z];exact w))];exact e⟩
 have hm:∀a,p.c a->∃u,aV H D o a=some u/\Mb u:=λa x=>by
  by_cases z:a=D
  .rw[z,eT]
   exact⟨o,rfl,mo⟩
  .rw[bO z]
   exact s.mu a x
 refine⟨st,⟨s.nd,s.len,s.sub,s.wc,hm,λk a u e1 e2=>?_⟩,⟨sh.nd,sh.len,sh.sub,sh.wc,hm,λk a u e1 e2=>?_⟩⟩
 .have ne:a≠D:=λz=>n (z▸cv e1)
  exact(sh.obj k a u e1 e2).mono (λvs e=>by rw[bO ne];exact e) (λb w f=>⟨⟨w.1,f⟩,λvs e=>by rw[bO w.2];exact e⟩) λ_ _ r=>st.reps r
 .have ne:a≠D:=λz=>n (z▸cv e1)
  exact(sh.obj k a u e1 e2).mono (λvs e=>by rw[bO ne];exact e) (λb w f=>⟨⟨w,f⟩,λvs e=>by rw[bO w.2];exact e⟩) λ_ _ r=>st.reps r
theorem aU.toLess{D:Addr}(s:aU K (p.hold D) S H):aU K (p.less D) S H:=
 ⟨s.nd,s.len,s.sub,λa h=>⟨s.wc a h,h.2⟩,λa h=>s.mu a h.1,λk a o e1 e2=>
  (s.obj k a o e1 e2).mono (λ_ e=>e) (λb w f=>⟨⟨w,f⟩,λ_ e=>e⟩) λ_ _ r=>nP (λa h=>h.1) r⟩
theorem bI.toLess{D:Addr}(st:bI p H q H')(h:H D=none):bI p H (q.less D) H':=by
 have nD:∀a,p.c a->a≠D:=λa c z=>by
  obtain⟨o,e,_⟩:=st.mu a c;rw[z,h]at e;cases e
 exact⟨st.wc,st.mu,st.pre,λa x=>⟨st.mw a x,nD a (st.wc a x)⟩,λa x=>⟨st.mono a x,nD a x⟩,st.nf,λa x=>st.nw a x.1,λa x=>st.nc a x.1,st.keep⟩
variable{sc:Scope}{own:List Str}{cap:List (Nat×Str)}{elt target iter:ag}{pos:ah}{mi:MI}{g:GM}{me:ME}
theorem Vx{σ:St}{ρ:bM}{xs zs:AI}{G:Gd}{J:It}{Q:VK}{D:Addr}{S2:aH}(sm:aU K p S H)(ev:dE K p H ρ σ)(it:eY K p H (xs,G) J)(z:cD G g me xs (cG own cap ρ) S=.ok zs S2)(hD:H D=none)
  (k:∀q H' vs,bI p H q H'->aU K q S2 H'->aU K (q.hold D) S2 H'->q.w D->D∉q.f->H' D=some (.lst vs)->vs.length<=sizeLine->aQ K q.c H' zs vs->Q (.ref D) H'):
  xB J (gP K g) (tP K cl E0 (bR K) me) (iH own cap σ) H D Q:=by
 obtain⟨st0,sm0⟩:=sm.res (D:=D) (o:=.lst []) hD trivial;have sh0:=sm.resHold (D:=D) (o:=.lst []) hD trivial;have nf0:D∉p.f:=λh=>sm.notin hD (sm.wc D (sm.sub D h));refine Q1 xs.length it.1 (λi σ1 H1 ys=>ys.length=i/\i<=xs.length/\H1 D=some (.lst ys)/\∃p1 S1 ρ1 us ws,(aU K p1 S1 H1/\aU K (p1.hold D) S1 H1)/\bI p H p1 H1/\p1.w D/\D∉p1.f/\dE K p1 H1 ρ1 σ1/\eY K p1 H1 (xs,G) J/\gY G S1/\aQ K p1.c H1 us ys/\zs=us++ws/\cD G g me (xs.drop i) ρ1 S1=.ok ws S2) ?_ ?_ ?_ ?_ ?_
 .refine⟨rfl,ft _,eT,p.res D,S,cG own cap ρ,[],zs,⟨sm0,sh0⟩,st0,.inr rfl,nf0,Nk (st0.repE ev),it.step st0,?_,.nil,rfl,by simpa using z⟩
  exact Zj z
 .rintro i σ1 H1 ys ⟨h1,_,h2,_⟩
  exact⟨h1,h2⟩
 .rintro i σ1 H1 ys hi ⟨_,_,_,p1,S1,ρ1,us,ws,⟨sm1,sh1⟩,st1,w1,f1,ev1,it1,g1,_⟩
  exact((it1.2 p1 H1 S1 sm1.step sm1 g1).1 i xs[i] (au hi)).1
 .rintro i σ1 H1 ys x H2 hi ⟨hl,_,hH,p1,S1,ρ1,us,ws,⟨sm1,sh1⟩,st1,w1,f1,ev1,it1,g1,r1,e1,c1⟩ hy
  obtain⟨same,rx⟩:=((it1.2 p1 H1 S1 sm1.step sm1 g1).1 i xs[i] (au hi)).2 x H2 hy;rw[rp hi]at c1;unfold cD at c1;rw[if_pos g1]at c1;split at c1
  .cases c1
  .rename_i ρ2 gz
   split at c1
   .rename_i y S3 mz
    split at c1
    .rename_i vs S4 cz
     cases c1;have st2:=sm1.same same;have sm2:=sm1.ofSame same;have smh:=sh1.ofSame same;have stS:bI p H p1 H2:=st1.trans st2;refine⟨p1,S1,ρ1,xs[i],ρ2,sm2,st2.repE ev1,rx,gz,λσ3 ev3=>⟨p1.hold D,S1,ρ2,smh,⟨ev3.len,ev3.at_⟩,?_⟩⟩;rw[mz];intro q H4 y' st4 sm4 ry;have hD2:H2 D=some (.lst ys):=same _ _ hH;have hD4:H4 D=some (.lst ys):=st4.keep D _ hD2 λz=>z.2 rfl;have fq:D∉q.f:=λh=>by
      have:=st4.nf D h f1;rw[hD2]at this;cases this
     have stU:=bI.unhold w1 st4 sm2;have nq:¬q.w D:=λz=>by
      have:=st4.nw D z λy=>y.2 rfl;rw[hD2]at this;cases this
     have smU:aU K ⟨q.f,λa=>q.w a\/a=D,q.c⟩ S3 H4:=⟨sm4.nd,sm4.len,λa h=>.inl (sm4.sub a h),λa h=>h.elim (sm4.wc a) λz=>z▸st4.mono D (sm2.wc D w1),sm4.mu,λk a o e1 e2=>
      (sm4.obj k a o e1 e2).mono (λ_ e=>e) (λb w f=>⟨⟨.inl w,f⟩,λ_ e=>e⟩) λ_ _ r=>r⟩
     have shU:aU K (Ph.hold ⟨q.f,λa=>q.w a\/a=D,q.c⟩ D) S3 H4:=⟨sm4.nd,sm4.len,λa h=>⟨.inl (sm4.sub a h),λz=>nq (z▸sm4.sub a h)⟩,λa h=>smU.wc a h.1,sm4.mu,λk a o e1 e2=>
      (sm4.obj k a o e1 e2).mono (λ_ e=>e) (λb w f=>⟨⟨⟨.inl w,λz=>nq (z▸w)⟩,f⟩,λ_ e=>e⟩) λ_ _ r=>r⟩
     obtain⟨stG,smG,shG⟩:=smU.grow (ys:=ys) (D:=D) (o:=.lst (ys++[y'])) shU (.inr rfl) fq trivial;have stA:=st2.trans (stU.trans stG);refine aaV hi hD4 ⟨by rw[bf,hl];rfl,hi,eT,_,S3,ρ2,us++[y],vs,⟨smG,shG⟩,st1.trans stA,.inr rfl,fq,stG.repE (stU.repE ev3),it1.step stA,Zj cz,?_,by rw[e1,fz];rfl,cz⟩;exact(stA.reps r1).append (.cons (stG.rep ry) .nil)
    .cases c1
   .cases c1
 .rintro σ1 H1 ys ⟨hl,_,hH,p1,S1,ρ1,us,ws,⟨sm1,sh1⟩,st1,w1,f1,ev1,it1,g1,r1,e1,c1⟩
  rw[sa]at c1;unfold cD at c1;rw[if_pos g1]at c1;cases c1;refine⟨(it1.2 p1 H1 _ sm1.step sm1 g1).2,?_⟩;rw[gv]at e1;subst e1;exact k p1 H1 ys st1 sm1 sh1 w1 f1 hH (by rw[hl];exact it.1) r1
theorem zM{σ:St}{ρ:bM}{xs:AI×Gd}{J:It}{Q:VK}{D:Addr}(sm:aU K p S H)(ev:dE K p H ρ σ)(it:eY K p H xs J)(k:bN K cl (bR K) p H ((cD xs.2 g me xs.1 (cG own cap ρ) S).bind λys S2=>.ok (.pv (.lst ys)) S2) Q E)(hD:H D=none):
  xB J (gP K g) (tP K cl E0 (bR K) me) (iH own cap σ) H D Q:=by
 cases z:cD xs.2 g me xs.1 (cG own cap ρ) S with
 |fail=>rw[z]at k;exact k.elim
 |exc n S'=>exact absurd z (Nu _ _ _ _ _)
 |ok zs S2=>
  rw[z]at k;have k:∀q H' x,bI p H q H'->aU K q S2 H'->aP K q.c H' (.lst zs) x->Q x H':=k;refine Vx sm ev it z hD λq H' vs st1 sm1 sh1 w1 f1 hH l1 r1=>?_;refine k (q.less D) H' (.ref D) (st1.toLess hD) sh1.toLess ?_;unfold aP;exact⟨D,vs,rfl,.inl ⟨hH,λz=>z.2 rfl⟩,l1,nP (λa h=>h.1) r1⟩
theorem M2(k:gO X sc own cap)(hi:PIp K cl E X target iter mi)(hc:X.calm=true)(hg:∀C AN AO ex,lG K (eD X sc (bW own cap) C AN AO ex) target g)(he:∀C AN AO ex,aT K cl E0 (eD X sc (bW own cap) C AN AO ex) elt me)
  (hs:∀x,foldedSetIterable iter X.env x=pure x:=by intro _;rfl):aT K cl E X (.ListComp elt [⟨target,iter,[],0⟩] sc pos) (bE own cap mi g me):=by
 intro hK;refine PE.imp (N3 k (hi hK) hc (λC AN AO ex=>hg C AN AO ex hK) (λC AN AO ex=>he C AN AO ex hK) hs) λσ H Q ⟨p,S,ρ,s,ev,h⟩=>?_;exact bU s ev h λq H' xs J S' cR sm ev it kk D hD=>zM sm ev it kk hD
theorem Py{i:Nat}{x:Str}{py spos:ah}(hN:X.N.Nodup)(hx:X.N[i]?=some x)(hl:jP X.env.scope x)(k:gO X sc own cap)(hi:PIp K cl E X target iter mi)(hc:X.calm=true)(hg:∀C AN AO ex,lG K (eD X sc (bW own cap) C AN AO ex) target g)(he:∀C AN AO ex,aT K cl E0 (eD X sc (bW own cap) C AN AO ex) elt me)
  (hs:∀x,foldedSetIterable iter X.env x=pure x:=by intro _;rfl)(hsw:swapsWith (.ListComp elt [⟨target,iter,[],0⟩] sc pos) (some (.Name x py)) spos.line X.env=pure true:=by rfl)
  (hf:X.fn x=true\/X.env.scope.names.lookup x=some .local:=by first |exact .inl rfl |exact .inr rfl |assumption):
  eO K cl E X (.Assign [.Name x py] (.ListComp elt [⟨target,iter,[],0⟩] sc pos) spos) (aS i (bE own cap mi g me)):=by
 intro hK;refine PS.imp (O8 hN hx hl k (hi hK) hc (λC AN AO ex=>hg C AN AO ex hK) (λC AN AO ex=>he C AN AO ex hK) hs hsw hf) λD σ H ⟨p,S,ρ,s,ev,h⟩=>?_;have h2:tP K cl E (bR K) (bE own cap mi g me) σ H λy H1=>D.nx (σ.set i (some y)) H1:=by
  refine⟨p,S,ρ,s,ev,?_⟩;unfold aS at h;cases z:bE own cap mi g me ρ S with
  |ok v S1=>
   rw[z]at h;exact λq H' y st sm r=>h q H' _ st sm ((st.repE ev).set r i)
  |exc n S1=>rw[z]at h;exact h
  |fail=>rw[z]at h;exact h
 obtain⟨p,S,ρ,s,ev,h⟩:=h2;exact bU s ev h λq H' xs J S' cR sm ev it kk B hB=>zM sm ev it kk hB
end
def kI:List (Option Bool)->Option (List Bool)
 |[]=>some []
 |some b::r=>match kI r with
  |some bs=>some (b::bs)
  |none=>none
 |none::_=>none
theorem Dg:∀{l:List (Option Bool)}{bs:List Bool},kI l=some bs->bs.length=l.length
 |[],_,e=>by cases e;rfl
 |some b::r,bs,e=>by
  unfold kI at e;split at e
  .rename_i cs h
   cases e;rw[bo,bo,Dg h]
  .cases e
 |none::r,_,e=>by cases e
theorem yP:∀{l:List (Option Bool)}{bs:List Bool}{i:Nat}{o:Option Bool},kI l=some bs->l[i]?=some o->∃b,o=some b/\bs[i]?=some b
 |[],_,i,o,_,h=>by simp at h
 |some b::r,bs,i,o,e,h=>by
  unfold kI at e;split at e
  .rename_i cs h'
   cases e;cases i with
   |zero=>
    simp at h;exact⟨b,h.symm,rfl⟩
   |succ i=>simpa using yP h' (by simpa using h)
  .cases e
 |none::r,_,_,_,e,_=>by cases e
def aJ:Nat->PV->PV->Option Bool
 |_,.non,.non=>some true
 |_,.bl a,.bl b=>some (a==b)
 |_,.int a,.int b=>some (a==b)
 |_,.str a,.str b=>some (a==b)
 |n+1,.tup xs,.tup ys=>match kI (ci (aJ n) xs ys)with
  |some bs=>some (bs.all id&&xs.length==ys.length)
  |none=>none
 |n+1,.lst xs,.lst ys=>if xs.length=ys.length then(match kI (ci (aJ n) xs ys)with
  |some bs=>some (bs.all id)
  |none=>none)else some false
 |_,_,_=>none
theorem uM(bs:List Bool):((ce bs.length).all λj=>bs.getD j true)=bs.all id:=by
 rw[rf,lm,lm];constructor
 .intro h b hb
  obtain⟨j,hj,e⟩:=ph hb;have:=h j (by simpa using hj);simpa[ck,hj,e]using this
 .intro h j hj
  have hj:j<bs.length:=by simpa using hj
  have:=h bs[j] (fj hj);simpa[ck,hj]using this
section
variable{X:Cx}{AM:List (Addr×Obj)}{σ:St}{H:Hp}{s:aa}{c:Addr->Prop}
theorem uU{n:Nat}{xs ys:AI}{vs ws:List V}{its jts:AE}{bs:List Bool}{A:aq}
  (ih:∀(v w:PV)(x y:V)(u u':Value)(b:Bool),aP X.K c H v x->aP X.K c H w y->bK x u->bK y u'->aJ n v w=some b->jt A s u u' b)
  (r1:aQ X.K c H xs vs)(r2:aQ X.K c H ys ws)(q1:aZ vs its)(q2:aZ ws jts)(e:kI (ci (aJ n) xs ys)=some bs):
  ∀j(h1:j<its.toArray.size)(h2:j<jts.toArray.size),jt A s its.toArray[j] jts.toArray[j] (bs.getD j true):=λj h1 h2=>by
 have l1:=r1.length.trans q1.length;have l2:=r2.length.trans q2.length;have g1:j<xs.length:=by rw[l1];simpa using h1
 have g2:j<ys.length:=by rw[l2];simpa using h2
 obtain⟨x,ex,rx⟩:=r1.get (au g1);obtain⟨y,ey,ry⟩:=r2.get (au g2);obtain⟨u,eu,ru⟩:=q1.get ex;obtain⟨u',eu',ru'⟩:=q2.get ey;have hz:(ci (aJ n) xs ys)[j]?=some (aJ n xs[j] ys[j]):=by
  rw[f7,au g1,au g2]
 obtain⟨b,eb,eb'⟩:=yP e hz;have e1:its.toArray[j]=u:=by
  rw[f8];rw[au (by simpa using h1)]at eu;exact cg eu
 have e2:jts.toArray[j]=u':=by
  rw[f8];rw[au (by simpa using h2)]at eu';exact cg eu'
 rw[e1,e2];have e3:bs.getD j true=b:=by simp[ck,eb']
 rw[e3];exact ih _ _ _ _ _ _ _ rx ry ru ru' eb
theorem sD{n:Nat}{xs ys:AI}{bs:List Bool}(e:kI (ci (aJ n) xs ys)=some bs):bs.length=min xs.length ys.length:=by
 rw[Dg e,kh]
theorem Gi(n:Nat)(v w:PV)(x:V)(b:Bool)(nt:∀xs,v≠.tup xs)(nl:∀xs,v≠.lst xs)(h:aP X.K c H v x)(g:aP X.K c H w x)(e:aJ n v w=some b):b=true:=by
 cases v with
 |tup xs=>exact absurd rfl (nt xs)
 |lst xs=>exact absurd rfl (nl xs)
 |non=>
  cases w<;>first |(unfold aJ at e;simp at e;done) |skip
  unfold aJ at e;cases e;rfl
 |bl i=>
  cases w<;>first |(unfold aJ at e;simp at e;done) |skip
  unfold aP at h g;subst h;injection g with g';subst g';unfold aJ at e;cases e;exact beq_self_eq_true _
 |int i=>
  cases w<;>first |(unfold aJ at e;simp at e;done) |skip
  unfold aP at h g;subst h;injection g with g';subst g';unfold aJ at e;cases e;exact beq_self_eq_true _
 |str i=>
  cases w<;>first |(unfold aJ at e;simp at e;done) |skip
  unfold aP at h g;subst h;injection g with g';subst g';unfold aJ at e;cases e;exact beq_self_eq_true _
theorem Yi(I:aF X AM σ H s):∀(n:Nat)(v w:PV)(x:V)(b:Bool),aP X.K c H v x->aP X.K c H w x->aJ n v w=some b->b=true:=by
 intro n
 induction n with
 |zero=>
  intro v w x b h g e;cases v with
  |tup xs=>unfold aJ at e;simp at e
  |lst xs=>unfold aJ at e;simp at e
  |_=>exact Gi 0 _ w x b (by intro _ z;cases z) (by intro _ z;cases z) h g e
 |succ n ih=>
  have items:∀(xs ys:AI)(vs:List V)(bs:List Bool),aQ X.K c H xs vs->aQ X.K c H ys vs->kI (ci (aJ n) xs ys)=some bs->bs.all id=true/\xs.length=ys.length:=λxs ys vs bs r1 r2 e=>by
   have ll:=r1.length.trans r2.length.symm;refine⟨?_,ll⟩;rw[lm];intro b hb;obtain⟨j,hj,ej⟩:=ph hb;have hj':=hj;rw[sD e]at hj';have g1:j<xs.length:=by omega
   have g2:j<ys.length:=by omega
   obtain⟨x,ex,rx⟩:=r1.get (au g1);obtain⟨y,ey,ry⟩:=r2.get (au g2);have:=ex.symm.trans ey;cases this;have hz:(ci (aJ n) xs ys)[j]?=some (aJ n xs[j] ys[j]):=by
    rw[f7,au g1,au g2]
   obtain⟨b',eb,eb'⟩:=yP e hz;rw[au hj,ej]at eb';cases eb';exact ih _ _ _ _ rx ry eb
  intro v w x b h g e;cases v with
  |tup xs=>
   cases w with
   |tup ys=>
    unfold aP at h g;obtain⟨a,vs,rfl,t1,_,r1⟩:=h;obtain⟨a',ws,e1,t2,_,r2⟩:=g;cases e1;have:=I.tuple_inj t1 t2;subst this;unfold aJ at e;split at e
    .rename_i bs hb
     obtain⟨z1,z2⟩:=items xs ys vs bs r1 r2 hb;rw[z1,z2,beq_self_eq_true]at e;cases e;rfl
    .cases e
   |_=>unfold aJ at e;simp at e
  |lst xs=>
   cases w with
   |lst ys=>
    unfold aP at h g;obtain⟨a,vs,rfl,t1,_,r1⟩:=h;obtain⟨a',ws,e1,t2,_,r2⟩:=g;cases e1;have:=I.list_inj t1.sq t2.sq;subst this;unfold aJ at e;rw[if_pos (r1.length.trans r2.length.symm)]at e;split at e
    .rename_i bs hb
     obtain⟨z1,z2⟩:=items xs ys vs bs r1 r2 hb;rw[z1]at e;cases e;rfl
    .cases e
   |_=>unfold aJ at e;simp at e
  |_=>exact Gi (n+1) _ w x b (by intro _ z;cases z) (by intro _ z;cases z) h g e
theorem Mo(I:aF X AM σ H s):∀(n:Nat)(v w:PV)(x y:V)(u u':Value)(b:Bool)(A:aq),A.units+n<cLine->aP X.K c H v x->aP X.K c H w y->bK x u->bK y u'->aJ n v w=some b->oh A s u u' b/\jt A s u u' b:=by
 have flat:∀(n:Nat)(v w:PV)(x y:V)(u u':Value)(b:Bool)(A:aq),(∀xs,v≠.tup xs)->(∀xs,v≠.lst xs)->aP X.K c H v x->aP X.K c H w y->bK x u->bK y u'->aJ n v w=some b->oh A s u u' b/\jt A s u u' b:=by
  intro n v w x y u u' b A nt nl h g r r' e;cases v with
  |tup xs=>exact absurd rfl (nt xs)
  |lst xs=>exact absurd rfl (nl xs)
  |non=>
   cases w<;>first |(unfold aJ at e;simp at e;done) |skip
   unfold aP at h g;subst h g;cases r;cases r';unfold aJ at e;cases e;exact⟨g7,rh _⟩
  |bl i=>
   cases w<;>first |(unfold aJ at e;simp at e;done) |skip
   unfold aP at h g;subst h g;cases r;cases r';unfold aJ at e;cases e;exact⟨i3 _ _,SeqAt.EqAt.bool_bool _ _⟩
  |int i=>
   cases w<;>first |(unfold aJ at e;simp at e;done) |skip
   unfold aP at h g;subst h g;obtain⟨t,rfl⟩:=r;obtain⟨t',rfl⟩:=r';unfold aJ at e;cases e;exact⟨i4 _ _ _ _,d7 _ _ _ _⟩
  |str i=>
   cases w<;>first |(unfold aJ at e;simp at e;done) |skip
   unfold aP at h g;subst h g;obtain⟨t,rfl⟩:=r;obtain⟨t',rfl⟩:=r';unfold aJ at e;cases e;exact⟨i5 _ _ _ _,SeqAt.EqAt.str_str _ _ _ _⟩
 have main:∀(n:Nat)(v w:PV)(x y:V)(u u':Value)(b:Bool)(A:aq),A.units+n<cLine->aP X.K c H v x->aP X.K c H w y->bK x u->bK y u'->aJ n v w=some b->oh A s u u' b/\jt A s u u' b:=by
  intro n
  induction n with
  |zero=>
   intro v w x y u u' b A hu h g r r' e;cases v with
   |tup xs=>unfold aJ at e;simp at e
   |lst xs=>unfold aJ at e;simp at e
   |_=>exact flat 0 _ w x y u u' b A (by intro _ z;cases z) (by intro _ z;cases z) h g r r' e
  |succ n ih=>
   intro v w x y u u' b A hu h g r r' e;have hin:A.in1.units+n<cLine:=by show A.units+1+n<cLine;omega
   cases v with
   |tup xs=>
    cases w with
    |tup ys=>
     have hs:x=y->b=true:=λz=>Yi I (n+1) _ _ x b h (z▸g) e;unfold aP at h g;obtain⟨a,vs,rfl,t1,_,r1⟩:=h;obtain⟨a',ws,rfl,t2,_,r2⟩:=g;cases r;cases r';obtain⟨its,q1,p1,_⟩:=I.tuple t1;obtain⟨jts,q2,p2,_⟩:=I.tuple t2;unfold aJ at e;split at e
     .rename_i bs hb
      cases e;have z:=wq (A:=A) (s:=s) (e:=λj=>bs.getD j true) (show s.heap.IsTuple a its.toArray from p1) (show s.heap.IsTuple a' jts.toArray from p2) (by omega)
       (uU (A:=A.in1) (λv w x y u u' b h1 h2 h3 h4 h5=>(ih v w x y u u' b A.in1 hin h1 h2 h3 h4 h5).2) r1 r2 q1 q2 hb)
      have l1:=r1.length.trans q1.length;have l2:=r2.length.trans q2.length;rw[ax,ax,<-l1,<-l2,<-sD hb,uM]at z;refine⟨z,?_⟩
      by_cases ha:a=a'
      .subst ha
       rw[hs rfl];exact rh _
      .exact wr ha z
     .cases e
    |_=>unfold aJ at e;simp at e
   |lst xs=>
    cases w with
    |lst ys=>
     have hs:x=y->b=true:=λz=>Yi I (n+1) _ _ x b h (z▸g) e;unfold aP at h g;obtain⟨a,vs,rfl,t1,_,r1⟩:=h;obtain⟨a',ws,rfl,t2,_,r2⟩:=g;cases r;cases r';obtain⟨its,q1,p1,_⟩:=I.list t1.sq;obtain⟨jts,q2,p2,_⟩:=I.list t2.sq;have l1:=r1.length.trans q1.length;have l2:=r2.length.trans q2.length;have fin:oh A s (.ref a) (.ref a') b->oh A s (.ref a) (.ref a') b/\jt A s (.ref a) (.ref a') b:=λz=>by
      refine⟨z,?_⟩
      by_cases ha:a=a'
      .subst ha
       rw[hs rfl];exact rh _
      .exact wr ha z
     unfold aJ at e;split at e
     .rename_i hl
      split at e
      .rename_i bs hb
       cases e;have z:=i6 (A:=A) (s:=s) (e:=λj=>bs.getD j true) p1.isList p2.isList (by rw[ax,ax];omega) (by omega)
        (uU (A:=A.in1) (λv w x y u u' b h1 h2 h3 h4 h5=>(ih v w x y u u' b A.in1 hin h1 h2 h3 h4 h5).2) r1 r2 q1 q2 hb)
       have hm:its.length=bs.length:=by rw[sD hb];omega
       rw[ax,hm,uM]at z;exact fin z
      .cases e
     .rename_i hl
      cases e;exact fin (i7 p1.isList p2.isList (by rw[ax,ax];simp;omega) (by omega))
    |_=>unfold aJ at e;simp at e
   |_=>exact flat (n+1) _ w x y u u' b A (by intro _ z;cases z) (by intro _ z;cases z) h g r r' e
 exact main
end
noncomputable section
open PySem PySem.Spec PyProof.Rows Bn
section
variable{X:Cx}
theorem Vq{AM:List (Addr×Obj)}{σ:St}{H:Hp}{s:aa}(I:aF X AM σ H s){p:Ph}{v w:PV}{x y:V}{u u':Value}{b:Bool}{A:aq}(hu:A.units+8<cLine)(h:eP X.K p H v x)(g:eP X.K p H w y)(r:bK x u)(r':bK y u')(e:aJ 8 v w=some b):
  oh A s u u' b/\SeqAt.RcNeAt A s u u' (!b):=by
 have hin:A.in1.units+7<cLine:=by show A.units+1+7<cLine;omega
 cases v with
 |non=>
  cases w<;>first |(unfold aJ at e;simp at e;done) |skip
  have h:=h.non;have g:=g.non;subst h g;cases r;cases r';unfold aJ at e;cases e;exact⟨g7,SeqAt.RcNeAt.none_none⟩
 |bl i=>
  cases w<;>first |(unfold aJ at e;simp at e;done) |skip
  have h:=h.bl;have g:=g.bl;subst h g;cases r;cases r';unfold aJ at e;cases e;exact⟨i3 _ _,SeqAt.RcNeAt.bool_bool _ _⟩
 |int i=>
  cases w<;>first |(unfold aJ at e;simp at e;done) |skip
  have h:=h.int;have g:=g.int;subst h g;obtain⟨t,rfl⟩:=r;obtain⟨t',rfl⟩:=r';unfold aJ at e;cases e;exact⟨i4 _ _ _ _,SeqAt.RcNeAt.int_int _ _ _ _⟩
 |str i=>
  cases w<;>first |(unfold aJ at e;simp at e;done) |skip
  have h:=h.str;have g:=g.str;subst h g;obtain⟨t,rfl⟩:=r;obtain⟨t',rfl⟩:=r';unfold aJ at e;cases e;exact⟨i5 _ _ _ _,SeqAt.RcNeAt.str_str _ _ _ _⟩
 |tup xs=>
  cases w with
  |tup ys=>
   obtain⟨a,vs,rfl,t1,_,r1⟩:=h.tup;obtain⟨a',ws,rfl,t2,_,r2⟩:=g.tup;cases r;cases r';obtain⟨its,q1,p1,_⟩:=I.tuple t1;obtain⟨jts,q2,p2,_⟩:=I.tuple t2;unfold aJ at e;split at e
   .rename_i bs hb
    cases e;have it:=uU (s:=s) (A:=A.in1) (λv w x y u u' b h1 h2 h3 h4 h5=>(Mo I 7 v w x y u u' b A.in1 hin h1 h2 h3 h4 h5).2) r1 r2 q1 q2 hb;have z:=wq (A:=A) (s:=s) (e:=λj=>bs.getD j true) (show s.heap.IsTuple a its.toArray from p1) (show s.heap.IsTuple a' jts.toArray from p2) (by omega) it;have z':=SeqAt.RcNeAt.tuples (A:=A) (s:=s) (e:=λj=>bs.getD j true) (show s.heap.IsTuple a its.toArray from p1) (show s.heap.IsTuple a' jts.toArray from p2) (by omega) it;have l1:=r1.length.trans q1.length;have l2:=r2.length.trans q2.length;rw[ax,ax,<-l1,<-l2,<-sD hb,uM]at z z';exact⟨z,z'⟩
   .cases e
  |_=>unfold aJ at e;simp at e
 |lst xs=>
  cases w with
  |lst ys=>
   obtain⟨a,vs,rfl,t1,_,r1⟩:=h.lst;obtain⟨a',ws,rfl,t2,_,r2⟩:=g.lst;cases r;cases r';obtain⟨its,q1,p1,_⟩:=I.list t1;obtain⟨jts,q2,p2,_⟩:=I.list t2;have l1:=r1.length.trans q1.length;have l2:=r2.length.trans q2.length;unfold aJ at e;split at e
   .rename_i hl
    split at e
    .rename_i bs hb
     cases e;have it:=uU (s:=s) (A:=A.in1) (λv w x y u u' b h1 h2 h3 h4 h5=>(Mo I 7 v w x y u u' b A.in1 hin h1 h2 h3 h4 h5).2) r1 r2 q1 q2 hb;have z:=i6 (A:=A) (s:=s) (e:=λj=>bs.getD j true) p1.isList p2.isList (by rw[ax,ax];omega) (by omega) it;have z':=SeqAt.RcNeAt.lists (A:=A) (s:=s) (e:=λj=>bs.getD j true) p1.isList p2.isList (by rw[ax,ax];omega) (by omega) it;have hm:its.length=bs.length:=by rw[sD hb];omega
     rw[ax,hm,uM]at z z';exact⟨z,z'⟩
    .cases e
   .rename_i hl
    cases e;exact⟨i7 p1.isList p2.isList (by rw[ax,ax];simp;omega) (by omega),SeqAt.RcNeAt.lists_lengths p1.isList p2.isList (by rw[ax,ax];simp;omega) (by omega)⟩
  |_=>unfold aJ at e;simp at e
def xK(K:af)(neg:Bool):R2:=λx y H Q=>∃p v w b,eP K p H v x/\eP K p H w y/\aJ 8 v w=some b/\Q (.bl (if neg then !b else b)) H
theorem Aq(hu:X.A.units+8<cLine):dY X (compareOp .Eq) (xK X.K false):=by
 intro AM s σ H x y v u Q I rx ry h;obtain⟨p,a,b,k,h1,h2,e,q⟩:=h;exact(Vq I hu h1 h2 rx ry e).1 X.prog X.w X.xe _ ⟨.bl k,H,I,rfl,q⟩
theorem So(hu:X.A.units+8<cLine):dY X (compareOp .NotEq) (xK X.K true):=by
 intro AM s σ H x y v u Q I rx ry h;obtain⟨p,a,b,k,h1,h2,e,q⟩:=h;exact(Vq I hu h1 h2 rx ry e).2 X.prog X.w X.xe _ ⟨.bl (!k),H,I,rfl,q⟩
def cS(a b:PV):AJ:=(aJ 8 a b).map .bl
def fZ(a b:PV):AJ:=(aJ 8 a b).map λk=>.bl (!k)
theorem Xs{K:af}:gB K (xK K false) cS:=λ{p S H a b c x y Q} s ra rb e k=>by
 unfold cS at e;cases z:aJ 8 a b with
 |none=>rw[z]at e;cases e
 |some t=>
  rw[z]at e;cases e;exact⟨p,a,b,t,ra,rb,z,k H _ (dH.refl H) (by unfold aP;rfl)⟩
theorem Ms{K:af}:gB K (xK K true) fZ:=λ{p S H a b c x y Q} s ra rb e k=>by
 unfold fZ at e;cases z:aJ 8 a b with
 |none=>rw[z]at e;cases e
 |some t=>
  rw[z]at e;cases e;exact⟨p,a,b,t,ra,rb,z,k H _ (dH.refl H) (by unfold aP;rfl)⟩
def i2(f:Int->Int->AJ):PV->PV->AJ
 |.int a,.int b=>f a b
 |_,_=>none
open Classical in
def cI(C:Int->Int->Prop)(g:Int->Int->PV)(a b:Int):AJ:=if C a b then some (g a b)else none
def xX:PV->V
 |.int i=>.int i
 |.bl b=>.bl b
 |.str s=>.str s
 |_=>.non
def Fd:PV->Bool
 |.int _=>true
 |.bl _=>true
 |.str _=>true
 |.non=>true
 |_=>false
theorem iQ{K:af}{c:Addr->Prop}{H:Hp}{v:PV}(h:Fd v=true):aP K c H v (xX v):=by
 cases v with
 |tup _=>cases h
 |lst _=>cases h
 |_=>unfold aP xX;rfl
theorem wX{K:af}{C:Int->Int->Prop}{g:Int->Int->PV}{h:Int->Int->V}(fl:∀i j,Fd (g i j)=true/\xX (g i j)=h i j):gB K (rI C h) (i2 (cI C g)):=λ{p S H a b c x y Q} s ra rb e k=>by
 cases a with
 |int i=>
  cases b with
  |int j=>
   unfold i2 cI at e;dsimp only at e;split at e
   .rename_i hc
    cases e;refine⟨i,j,ra.int,rb.int,hc,?_⟩;rw[<-(fl i j).2];exact k H _ (dH.refl H) (iQ (fl i j).1)
   .cases e
  |_=>cases e
 |_=>cases e
theorem wS{K:af}{g:Int->Int->PV}{h:Int->Int->V}(fl:∀i j,Fd (g i j)=true/\xX (g i j)=h i j):gB K (jR h) (i2 λi j=>some (g i j)):=λ{p S H a b c x y Q} s ra rb e k=>by
 cases a with
 |int i=>
  cases b with
  |int j=>
   cases e;refine⟨i,j,ra.int,rb.int,?_⟩;rw[<-(fl i j).2];exact k H _ (dH.refl H) (iQ (fl i j).1)
  |_=>cases e
 |_=>cases e
def oN(i j:Int):Prop:=De i j\/(Bd 1000000 i/\Bd 1000000 j)
theorem oN.ok{i j:Int}(h:oN i j):IntMulOk i j:=by
 rcases h with h |h
 .exact h.ok
 have h1:=Zn h.1;have h2:=Zn h.2;unfold IntMulOk Builtin.Int.intTooBig bitsLine;intro c;simp only[ja,decide_eq_true_eq]at c;have:=c.2;omega
theorem K8:dY X (binaryOp .Mult) (rI oN λi j=>.int (i*j)):=xO λ_ _ _ _ _ _ _ hc q=>mul_int q hc.ok
def bA:=i2 (cI oN λi j=>.int (i*j))
def jK:=i2 (cI oI λi j=>.int (i.fdiv j))
def fB:=i2 (cI (λ_ j=>j≠0) λi j=>.int (i.fmod j))
def lW:=i2 (cI xG λi j=>.int (i^j.toNat))
def eQ:=i2 λi j=>some (.int (i-j))
def mZ:=i2 λi j=>some (.bl (decide (i<j)))
def fLe:=i2 λi j=>some (.bl (decide (i<=j)))
def eI:=i2 λi j=>some (.bl (decide (j<i)))
def rA:=i2 λi j=>some (.bl (decide (j<=i)))
theorem abz{K:af}:gB K (rI oN λi j=>.int (i*j)) bA:=wX λ_ _=>⟨rfl,rfl⟩
theorem W9{K:af}:gB K (rI oI λi j=>.int (i.fdiv j)) jK:=wX λ_ _=>⟨rfl,rfl⟩
theorem aa7{K:af}:gB K (rI (λ_ j=>j≠0) λi j=>.int (i.fmod j)) fB:=wX λ_ _=>⟨rfl,rfl⟩
theorem abt{K:af}:gB K (rI xG λi j=>.int (i^j.toNat)) lW:=wX λ_ _=>⟨rfl,rfl⟩
theorem aaY{K:af}:gB K (jR λi j=>.int (i-j)) eQ:=wS λ_ _=>⟨rfl,rfl⟩
theorem Ds{K:af}:gB K (jR λi j=>.bl (decide (i<j))) mZ:=wS λ_ _=>⟨rfl,rfl⟩
theorem Ls{K:af}:gB K (jR λi j=>.bl (decide (j<i))) eI:=wS λ_ _=>⟨rfl,rfl⟩
theorem Js{K:af}:gB K (jR λi j=>.bl (decide (j<=i))) rA:=wS λ_ _=>⟨rfl,rfl⟩
def cE:PV->AJ
 |.int i=>some (.int (-i))
 |_=>none
theorem aa6{K:af}:Je K (rU λi=>.int (-i)) cE:=λ{p S H a c x Q} s ra e k=>by
 cases a with
 |int i=>
  cases e;exact⟨i,ra.int,k H _ (dH.refl H) (iQ (v:=.int (-i)) rfl)⟩
 |_=>cases e
def Jr(K:af):R2:=λx y H Q=>∃l b xs zs,x=.ref l/\y=.ref b/\bT K H l xs/\bT K H b zs/\xs.length+zs.length<=sizeLine/\∀p,H p=none->Q (.ref p) (aV H p (.lst (xs++zs)))
theorem J9:dY X (binaryOp .Add) (Jr X.K):=by
 intro AM s σ H x y v u Q I rx ry h;obtain⟨l,b,xs,zs,rfl,rfl,hx,hy,hz,q⟩:=h;cases rx;cases ry;obtain⟨its,r1,p1,_⟩:=I.list hx;obtain⟨jts,r2,p2,_⟩:=I.list hy;obtain⟨⟨cls,dd,data,sl⟩,n,ho,hc,_,hd⟩:=p1;obtain⟨⟨cls2,dd2,data2,sl2⟩,n2,ho2,hc2,_,hd2⟩:=p2;simp only at hc hd hc2 hd2;subst hc hd hc2 hd2;have e:its.toArray++jts.toArray=(its++jts).toArray:=by simp
 have l1:=r1.length;have l2:=r2.length;refine qk ⟨_,ho,rfl⟩ ⟨_,ho2,rfl⟩ noFill_list_add seq_list_add PySem.F.slot_list_add PySem.F.entry_list_add (PySem.F.args_list_add_2 _ _) (list_addW l b its.toArray jts.toArray n n2 dd dd2 sl sl2 (by rw[ax,ax];omega)) ⟨ho,ho2,?_⟩;rw[e];exact⟨.ref _,_,I.lnew (t':=s.toks) (r1.append r2) (by rw[bf];omega),rfl,q _ I.fresh⟩
def aG:PV->PV->AJ
 |.int a,.int b=>some (.int (a+b))
 |.lst xs,.lst ys=>if xs.length+ys.length<=16777216 then some (.lst (xs++ys))else none
 |.tup xs,.tup ys=>if xs.length≠0/\ys.length≠0/\xs.length+ys.length<=16777216 then some (.tup (xs++ys))else none
 |_,_=>none
def Lr(K:af):R2:=λx y H Q=>(jR λi j=>.int (i+j)) x y H Q\/Jr K x y H Q\/Vc K x y H Q
theorem El:dY X (binaryOp .Add) (Lr X.K):=dY.or aaf (dY.or J9 Mm)
theorem abu{K:af}:gB K (Lr K) aG:=λ{p S H a b c x y Q} s ra rb e k=>by
 cases a with
 |int i=>
  cases b with
  |int j=>
   cases e;exact .inl ⟨i,j,ra.int,rb.int,k H _ (dH.refl H) (iQ (v:=.int (i+j)) rfl)⟩
  |_=>cases e
 |lst xs=>
  cases b with
  |lst ys=>
   have e:(if xs.length+ys.length<=16777216 then some (PV.lst (xs++ys))else none)=some c:=e;split at e
   .rename_i hl
    cases e;obtain⟨a1,vs,rfl,l1,z1,r1⟩:=ra.lst;obtain⟨a2,ws,rfl,l2,z2,r2⟩:=rb.lst;have hz:vs.length+ws.length<=sizeLine:=by rw[<-r1.length,<-r2.length,iP];exact hl
    exact .inr (.inl ⟨a1,a2,vs,ws,rfl,rfl,l1,l2,hz,λt ht=>k _ _ (gK ht) (nU s (r1.append r2) (by rw[bf];exact hz) ht)⟩)
   .cases e
  |_=>cases e
 |tup xs=>
  cases b with
  |tup ys=>
   have e:(if xs.length≠0/\ys.length≠0/\xs.length+ys.length<=16777216 then some (PV.tup (xs++ys))else none)=some c:=e;split at e
   .rename_i hl
    cases e;obtain⟨a1,vs,rfl,l1,z1,r1⟩:=ra.tup;obtain⟨a2,ws,rfl,l2,z2,r2⟩:=rb.tup;have hz:vs.length+ws.length<=sizeLine:=by rw[<-r1.length,<-r2.length,iP];exact hl.2.2
    refine .inr (.inr ⟨a1,a2,vs,ws,rfl,rfl,l1,l2,λq=>hl.1 (by rw[r1.length,q];rfl),hz,λq=>absurd (show ys.length=0 by rw[r2.length,q];rfl) hl.2.1,λ_ t ht=>k _ _ (gK ht) (nV s (r1.append r2) (by rw[bf];exact hz) ht)⟩)
   .cases e
  |_=>cases e
 |_=>cases e
end
section
variable{K:af}{cl:Str->Addr}{E:XK}{X:Cx}{a b e:ag}{es:List ag}{ma mb m:ME}{ms:MA}{pos p2:ah}
def aE:PV->PV->AJ
 |.lst xs,.int i=>aX xs i
 |.tup xs,.int i=>aX xs i
 |_,_=>none
theorem vA{c:Addr->Prop}{H:Hp}{xs:AI}{vs:List V}{i:Int}{v:PV}(r:aQ K c H xs vs)(e:aX xs i=some v):∃x,aX vs i=some x/\aP K c H v x:=by
 unfold aX at e⊢;rw[<-r.length];cases z:aW xs.length i with
 |none=>rw[z]at e;cases e
 |some j=>
  rw[z]at e;exact r.get e
theorem acq:gB K (Ct K) aE:=λ{p S H a b c x y Q} s ra rb e k=>by
 cases b with
 |int i=>
  cases a with
  |lst xs=>
   obtain⟨a1,vs,rfl,l1,z1,r1⟩:=ra.lst;obtain⟨x,e1,r2⟩:=vA r1 e;exact .inl ⟨a1,vs,i,x,rfl,rb.int,l1,e1,k H x (dH.refl H) r2⟩
  |tup xs=>
   obtain⟨a1,vs,rfl,l1,z1,r1⟩:=ra.tup;obtain⟨x,e1,r2⟩:=vA r1 e;exact .inr (.inl ⟨a1,vs,i,x,rfl,rb.int,l1,e1,k H x (dH.refl H) r2⟩)
  |_=>cases e
 |_=>cases a<;>cases e
theorem aa5(ha:aT K cl E X a ma)(hb:aT K cl E X b mb)(hs:vG b:=by intro _ _;rfl):aT K cl E X (.Subscript a b pos) (aC aE ma mb):=by
 intro hK;subst hK;refine(Qc Ap (ha rfl) (hb rfl) hs).imp λσ H Q ⟨p,S,ρ,s,e,h⟩=>?_;exact bU s e h λq H1 a x S1 st s1 e1 r1 h1=>bU s1 e1 h1 λq2 H2 b y S2 st2 s2 e2 r2 h2=>uN acq s2 (st2.repA r1) r2 h2
abbrev MO:=bM->aH->bG AH
def cV:MO:=λ_ S=>.ok none S
def fE:AV->aH->bG AH
 |.pv (.int i),S=>.ok (some i) S
 |_,_=>.fail
def dJ(m:ME):MO:=λρ S=>(m ρ S).bind fE
abbrev RO:Ph->Hp->AH->AH->Prop:=λ_ _ a b=>a=b
variable(K cl E X)
def nH(e:Option ag)(m:MO):Prop:=X.K=K->PO X e (tP K cl E RO m)
variable{K cl E X}
theorem PO.imp{e:Option ag}{t t':TO}(h:PO X e t)(i:∀σ H Q,t' σ H Q->t σ H Q):PO X e t':=λAM s σ H Q I q=>h AM s σ H Q I (i σ H Q q)
theorem Xz:nH K cl E X none cV:=λ_=>PO.imp K2 λσ H Q ⟨p,S,ρ,s,e,h⟩=>bN.ret (R:=RO) h s rfl
theorem D8(h:aT K cl E X e m):nH K cl E X (some e) (dJ m):=by
 intro hK;subst hK;refine PO.imp (Ra (h rfl)) λσ H Q ⟨p,S,ρ,s,e,h⟩=>?_;refine bU s e h λq H1 a x S1 st s1 e1 r1 h1=>?_;unfold fE at h1;split at h1
 .rename_i i
  exact⟨i,(show eP X.K q H1 (.int i) x from .inl r1).int,bN.ret (R:=RO) h1 s1 rfl⟩
 .exact h1.elim
def iX(xs:AI)(lo hi:AH):AI:=(xs.drop (HT.sIx xs.length 0 lo)).take (HT.sIx xs.length xs.length hi-HT.sIx xs.length 0 lo)
def iM(v:PV)(lo hi:AH):AJ:=match v with
 |.lst xs=>some (.lst (iX xs lo hi))
 |.tup xs=>if HT.sIx xs.length 0 lo=0/\HT.sIx xs.length xs.length hi=xs.length then none else some (.tup (iX xs lo hi))
 |_=>none
def dP(m:ME)(ml mh:MO):ME:=λρ S=>(m ρ S).bind λv S1=>(ml ρ S1).bind λlo S2=>(mh ρ S2).bind λhi S3=>gC ((rd S3 v).bind λx=>iM x lo hi) S3
theorem Dj{c:Addr->Prop}{H:Hp}{xs:AI}{vs:List V}{lo hi:AH}(r:aQ K c H xs vs):aQ K c H (iX xs lo hi) (mW vs lo hi):=by
 unfold iX mW;rw[<-r.length];exact(r.drop _).take _
theorem abc{lo hi:Option ag}{ml mh:MO}(he:aT K cl E X e m)(hl:nH K cl E X lo ml)(hu:nH K cl E X hi mh):aT K cl E X (.Subscript e (.Slice lo hi none p2) pos) (dP m ml mh):=by
 intro hK;subst hK;refine(D4 (nG.or J8 W4) (he rfl) (hl rfl) (hu rfl)).imp λσ H Q ⟨p,S,ρ,s,e,h⟩=>?_;refine bU s e h λq H1 a x S1 st s1 e1 r1 h1=>bU s1 e1 h1 λq2 H2 lo lo' S2 st2 s2 e2 r2 h2=>bU s2 e2 h2 λq3 H3 hi hi' S3 st3 s3 e3 r3 h3=>?_;cases r2;cases r3;have ra:=st3.repA (st2.repA r1);obtain⟨c,ec,k⟩:=pT s3 h3;cases z:rd S3 a with
 |none=>rw[z]at ec;cases ec
 |some v=>
  rw[z]at ec;have rv:=lR s3 ra z;cases v with
  |lst xs=>
   have ec:some (PV.lst (iX xs lo hi))=some c:=ec;cases ec;obtain⟨a1,vs,rfl,l1,z1,r1⟩:=rv.lst;exact .inl ⟨a1,vs,rfl,l1,λt ht=>k _ _ (gK ht) (nU s3 (Dj r1) (dy (uD vs lo hi) z1) ht)⟩
  |tup xs=>
   obtain⟨a1,vs,rfl,l1,z1,r1⟩:=rv.tup;have ec:(if HT.sIx xs.length 0 lo=0/\HT.sIx xs.length xs.length hi=xs.length then none else some (PV.tup (iX xs lo hi)))=some c:=ec;split at ec
   .cases ec
   .rename_i hw
    cases ec;rw[r1.length]at hw;exact .inr ⟨a1,vs,rfl,l1,hw,λt ht=>k _ _ (gK ht) (nV s3 (Dj r1) (dy (uD vs lo hi) z1) ht)⟩
  |_=>cases ec
theorem rX{id:String}{r:List V->Hp->VK->Prop}{f:AI->AJ}{x:Str}{p:ah}(hc:jI X (.builtin id) r)(hf:kO X.K r f)(hg:Gl X x)(hm:X.mg x=none)(hv:bootBuiltins x=some (.builtin id))(ha:eM K cl E X (e::es) ms)(hn:x≠"__name__":=by decide)(hdb:(x==("__debug__":Str))=false:=by decide)
  (he:starEach (e::es) X.env=(false,eval e X.env)::starEach es X.env:=by rfl)(hpl:(backTo pos (starEach es X.env)).any (·.1)=false:=by rfl):aT K cl E X (.Call (.Name x p) (e::es) [] pos) (mR f ms):=by
 intro hK;subst hK;refine PE.imp (Mk hc hg hm hv (ha rfl) hn hdb he hpl) λσ H Q ⟨p,S,ρ,s,ev,h⟩=>?_;exact bU s ev h λq H' as xs S' cR sm ev r k=>Vi hf sm r k
theorem zG{T:String}{r:List V->Hp->VK->Prop}{f:AI->AJ}{x:Str}{p:ah}(hc:jI X (.type T) r)(hf:kO X.K r f)(hg:Gl X x)(hm:X.mg x=none)(hv:bootBuiltins x=some (.type T))(ha:eM K cl E X (e::es) ms)(hn:x≠"__name__":=by decide)(hdb:(x==("__debug__":Str))=false:=by decide)
  (he:starEach (e::es) X.env=(false,eval e X.env)::starEach es X.env:=by rfl)(hpl:(backTo pos (starEach es X.env)).any (·.1)=false:=by rfl):aT K cl E X (.Call (.Name x p) (e::es) [] pos) (mR f ms):=by
 intro hK;subst hK;refine PE.imp (uP hc hg hm hv (ha rfl) hn hdb he hpl) λσ H Q ⟨p,S,ρ,s,ev,h⟩=>?_;exact bU s ev h λq H' as xs S' cR sm ev r k=>Vi hf sm r k
def cL:AI->AJ
 |[.lst xs]=>some (.int xs.length)
 |[.tup xs]=>some (.int xs.length)
 |_=>none
theorem abm:kO K (λxs H Q=>∃p ys,xs=[.ref p]/\(bT K H p ys\/dD K H p ys)/\Q (.int ys.length) H) cL:=λ{p S H as c xs Q} s ra e k=>by
 unfold cL at e;split at e
 .rename_i zs
  cases e;cases ra with
  |cons h t=>
   cases t;obtain⟨a,vs,rfl,l,z,r⟩:=h.lst;refine⟨a,vs,rfl,.inl l,?_⟩;rw[<-r.length];exact k H _ (dH.refl H) (iQ (v:=.int zs.length) rfl)
 .rename_i zs
  cases e;cases ra with
  |cons h t=>
   cases t;obtain⟨a,vs,rfl,l,z,r⟩:=h.tup;refine⟨a,vs,rfl,.inr l,?_⟩;rw[<-r.length];exact k H _ (dH.refl H) (iQ (v:=.int zs.length) rfl)
 .cases e
def kL:AI->AJ
 |[.int i]=>some (.int (if i<0 then-i else i))
 |_=>none
theorem abr:kO K (λxs H Q=>∃i,xs=[.int i]/\Q (.int (if i<0 then-i else i)) H) kL:=λ{p S H as c xs Q} s ra e k=>by
 unfold kL at e;split at e
 .rename_i i
  cases e;cases ra with
  |cons h t=>
   cases t;cases h.int;exact⟨i,rfl,k H _ (dH.refl H) (iQ (v:=.int _) rfl)⟩
 .cases e
def gZ:AI->AJ
 |[.lst xs]=>some (.tup xs)
 |[.tup xs]=>some (.tup xs)
 |_=>none
theorem M5:kO K (λxs H Q=>∃p ys,xs=[.ref p]/\((bT K H p ys/\∀l,H l=none->Q (.ref l) (aV H l (.tup ys)))\/(dD K H p ys/\Q (.ref p) H))) gZ:=λ{p S H as c xs Q} s ra e k=>by
 unfold gZ at e;split at e
 .rename_i zs
  cases e;cases ra with
  |cons h t=>
   cases t;obtain⟨a,vs,rfl,l,z,r⟩:=h.lst;exact⟨a,vs,rfl,.inl ⟨l,λt ht=>k _ _ (gK ht) (nV s r z ht)⟩⟩
 .rename_i zs
  cases e;cases ra with
  |cons h t=>
   cases t;obtain⟨a,vs,rfl,l,z,r⟩:=h.tup;refine⟨a,vs,rfl,.inr ⟨l,k H _ (dH.refl H) ?_⟩⟩;unfold aP;exact⟨a,vs,rfl,l,z,r⟩
 .cases e
def hU:AI->AJ
 |[.lst xs]=>some (.lst xs)
 |[.tup xs]=>some (.lst xs)
 |_=>none
theorem O5:kO K (λxs H Q=>∃p ys,xs=[.ref p]/\(bT K H p ys\/dD K H p ys)/\∀l,H l=none->Q (.ref l) (aV H l (.lst ys))) hU:=λ{p S H as c xs Q} s ra e k=>by
 unfold hU at e;split at e
 .rename_i zs
  cases e;cases ra with
  |cons h t=>
   cases t;obtain⟨a,vs,rfl,l,z,r⟩:=h.lst;exact⟨a,vs,rfl,.inl l,λt ht=>k _ _ (gK ht) (nU s r z ht)⟩
 .rename_i zs
  cases e;cases ra with
  |cons h t=>
   cases t;obtain⟨a,vs,rfl,l,z,r⟩:=h.tup;exact⟨a,vs,rfl,.inr l,λt ht=>k _ _ (gK ht) (nU s r z ht)⟩
 .cases e
def iA:AI->AJ
 |[.int i]=>some (.int i)
 |[.bl b]=>some (.int (if b then 1 else 0))
 |_=>none
theorem abE:kO K (λxs H Q=>(∃i,xs=[.int i]/\Q (.int i) H)\/∃k,xs=[.bl k]/\Q (.int (if k then 1 else 0)) H) iA:=λ{p S H as c xs Q} s ra e k=>by
 unfold iA at e;split at e
 .rename_i i
  cases e;cases ra with
  |cons h t=>
   cases t;cases h.int;exact .inl ⟨i,rfl,k H _ (dH.refl H) (iQ (v:=.int _) rfl)⟩
 .rename_i i
  cases e;cases ra with
  |cons h t=>
   cases t;cases h.bl;exact .inr ⟨i,rfl,k H _ (dH.refl H) (iQ (v:=.int _) rfl)⟩
 .cases e
end
end
section
variable{K:af}{cl:Str->Addr}{E:XK}{X:Cx}{a b c e l tg:ag}{es:List ag}{m ma mb:ME}{ms:MA}{pos:ah}{p q:Ph}{H H':Hp}{S:aH}
theorem aU.push(s:aU K p S H){D:Addr}{ps:AI}{vs:List V}(h:H D=none)(l:vs.length<=sizeLine)(r:aQ K p.c H ps vs):
  let q:Ph:=⟨p.f++[D],λa=>p.w a\/a=D,λa=>p.c a\/a=D⟩
  bI p H q (aV H D (.lst vs))/\aU K q (S++[.lst ps]) (aV H D (.lst vs)):=by
 intro q;obtain⟨st0,sm0⟩:=s.res (D:=D) (o:=.lst vs) h trivial;have nf0:D∉p.f:=λz=>s.notin h (s.wc D (s.sub D z));refine⟨⟨st0.wc,st0.mu,⟨[D],rfl⟩,st0.mw,st0.mono,λa x n=>?_,st0.nw,st0.nc,st0.keep⟩,?_,by simp[q,s.len],λa x=>?_,sm0.wc,sm0.mu,λk a o e1 e2=>?_⟩
 .rcases cq.mp x with z |z
  .exact absurd z n
  .have:a=D:=by simpa using z
   rw[this];exact h
 .show(p.f++[D]).Nodup
  rw[pk];refine⟨s.nd,by simp,λa ha b hb z=>?_⟩;have:b=D:=by simpa using hb
  exact nf0 (this▸z▸ha)
 .rcases cq.mp x with z |z
  .exact .inl (s.sub a z)
  .exact .inr (by simpa using z)
 .by_cases hk:k<S.length
  .have e1':p.f[k]?=some a:=by
    have e1:(p.f++[D])[k]?=some a:=e1
    rwa[eh (by rw[s.len];exact hk)]at e1
   rw[eh hk]at e2;refine(s.obj k a o e1' e2).mono (λvs e=>by rw[bO (fS e h)];exact e) (λb w f=>⟨⟨.inl w,λm=>?_⟩,λvs e=>by rw[bO (fS e h)];exact e⟩) λ_ _ r=>st0.reps r;rcases cq.mp m with z |z
   .exact f z
   .have:b=D:=by simpa using z
    exact s.notin h (this▸s.wc b w)
  .have hk':k=S.length:=by
    have:=(ca.mp e2).1;simp at this;omega
   subst hk';rw[di (aj _),gg]at e2;have e1:(p.f++[D])[S.length]?=some a:=e1;rw[<-s.len,di (aj _),gg]at e1;cases e1;cases e2;exact⟨vs,eT,l,st0.reps r⟩
theorem aU.write(s:aU K p S H){D:Addr}{k:Nat}{ps:AI}{vs:List V}(h:p.f[k]?=some D)(hk:k<S.length)(l:vs.length<=sizeLine)(r:aQ K p.c H ps vs):
  bI p H p (aV H D (.lst vs))/\aU K p (S.set k (.lst ps)) (aV H D (.lst vs)):=by
 have w:p.w D:=s.sub D (cv h);have st:bI p H p (aV H D (.lst vs)):=⟨s.wc,s.mu,ju,λ_ h=>h,λ_ h=>h,λ_ h g=>absurd h g,λ_ h g=>absurd h g,λ_ h g=>absurd h g,λa u e nw=>by
  rw[bO (λz:a=D=>nw (by rw[z];exact w))];exact e⟩
 refine⟨st,s.nd,by rw[dj];exact s.len,s.sub,s.wc,λa x=>?_,λj a o e1 e2=>?_⟩
 .by_cases z:a=D
  .rw[z,eT]
   exact⟨_,rfl,trivial⟩
  .rw[bO z]
   exact s.mu a x
 .by_cases hj:k=j
  .subst hj
   rw[h]at e1;cases e1;rw[de hk]at e2;cases e2;exact⟨vs,eT,l,st.reps r⟩
  .rw[dz hj]at e2
   have ne:a≠D:=λq=>hj (pJ s.nd h (q▸e1));exact(s.obj j a o e1 e2).mono (λvs e=>by rw[bO ne];exact e) (λb w f=>⟨⟨w,f⟩,λvs e=>by rw[bO (λz:b=D=>f (z▸cv h))];exact e⟩) λ_ _ r=>st.reps r
def jJ(xs:AL)(S:aH):bG AV:=match jY xs with
 |some vs=>if vs.length<=16777216 then .ok (.ref S.length) (S++[.lst vs])else .fail
 |none=>.fail
def eE(ms:MA):ME:=λρ S=>(ms ρ S).bind jJ
theorem G6(h:eM K cl E X es ms):aT K cl E X (.List es pos) (eE ms):=by
 intro hK;subst hK;refine(Jc (h rfl)).imp λσ H Q ⟨p,S,ρ,s,e,h⟩=>?_;refine bU s e h λq H1 as xs S1 st s1 e1 r1 h1=>?_;unfold jJ at h1;split at h1
 .rename_i vs hv
  split at h1
  .rename_i hl
   have r:=yL hv r1;rw[r.length,<-iP]at hl;refine⟨hl,λt ht=>?_⟩;obtain⟨st2,sm2⟩:=s1.push ht hl r;exact h1 _ _ (.ref t) st2 sm2 ⟨t,by show(q.f++[t])[S1.length]?=some t;rw[<-s1.len,di (aj _),gg];rfl,rfl⟩
  .exact h1.elim
 .exact h1.elim
def xF(xs:AL)(S:aH):bG AV:=match(fP S xs).bind hU with
 |some (.lst vs)=>.ok (.ref S.length) (S++[.lst vs])
 |_=>.fail
def qL(ms:MA):ME:=λρ S=>(ms ρ S).bind xF
theorem E8{x:Str}{p:ah}(hx:x="list")(hg:Gl X "list")(hm:X.mg "list"=none)(ha:eM K cl E X [e] ms)(he:starEach [e] X.env=[(false,eval e X.env)]:=by rfl):aT K cl E X (.Call (.Name x p) [e] [] pos) (qL ms):=by
 intro hK;subst hK hx;refine PE.imp (uP uC hg hm (by decide+kernel) (ha rfl) (by decide) (by decide) he rfl) λσ H Q ⟨p,S,ρ,s,ev,h⟩=>?_;refine bU s ev h λq H1 as xs S1 st s1 e1 r1 h1=>?_;unfold xF at h1;cases z:fP S1 as with
 |none=>rw[z]at h1;exact h1.elim
 |some us=>
  rw[z]at h1;have rr:=rS s1 r1 z;have fin:∀(vs:AI)(ws:List V)(a:Addr),aQ X.K q.c H1 vs ws->ws.length<=sizeLine->bN X.K cl (bR X.K) q H1 (.ok (.ref S1.length) (S1++[.lst vs])) Q E->∀l,H1 l=none->Q (.ref l) (aV H1 l (.lst ws)):=λvs ws a r hl k t ht=>by
   obtain⟨st2,sm2⟩:=s1.push ht hl r;exact k _ _ (.ref t) st2 sm2 ⟨t,by show(q.f++[t])[S1.length]?=some t;rw[<-s1.len,di (aj _),gg];rfl,rfl⟩
  cases rr with
  |nil=>exact h1.elim
  |cons h t=>
   rename_i u x ut xt;cases t with
   |cons _ _=>cases u<;>exact h1.elim
   |nil=>
    cases u with
    |lst vs=>
     obtain⟨a,ws,rfl,l,z,r⟩:=h.lst;exact⟨a,ws,rfl,.inl l,fin vs ws a r z h1⟩
    |tup vs=>
     obtain⟨a,ws,rfl,l,z,r⟩:=h.tup;exact⟨a,ws,rfl,.inr l,fin vs ws a r z h1⟩
    |_=>exact h1.elim
def gM(k:Nat)(ys:AL)(S:aH):bG AV:=match ys with
 |[.pv y]=>match S[k]? with
  |some (.lst xs)=>if xs.length<16777216 then .ok (.pv .non) (S.set k (.lst (xs++[y])))else .fail
  |_=>.fail
 |_=>.fail
def eL{α:Type}(k:AV)(S:aH)(f:Nat->bG α):bG α:=match k with
 |.ref k=>(match S[k]? with
  |some (.dic _ _)=>.fail
  |some (.dol _ _)=>.fail
  |_=>f k)
 |_=>.fail
theorem uY{α:Type}(k:Nat)(S:aH)(f:Nat->bG α):eL (.ref k) S f=.fail\/(eL (.ref k) S f=f k/\(∀n l,S[k]?≠some (.dic n l))/\∀n l,S[k]?≠some (.dol n l)):=by
 have e:eL (.ref k) S f=(match S[k]? with
  |some (.dic _ _)=>.fail
  |some (.dol _ _)=>.fail
  |_=>f k):=rfl
 rw[e];cases S[k]? with
 |none=>exact .inr ⟨rfl,λ_ _ z=>(nomatch z),λ_ _ z=>(nomatch z)⟩
 |some o=>
  cases o with
  |dic n l=>exact .inl rfl
  |dol n l=>exact .inl rfl
  |lst xs=>exact .inr ⟨rfl,λ_ _ z=>(nomatch z),λ_ _ z=>(nomatch z)⟩
  |lol xs=>exact .inr ⟨rfl,λ_ _ z=>(nomatch z),λ_ _ z=>(nomatch z)⟩
def dF(m:ME)(ms:MA):ME:=λρ S=>(m ρ S).bind λk S1=>eL k S1 λk=>(ms ρ S1).bind λys S2=>gM k ys S2
theorem Qa{k:Nat}{x:V}(s:aU K p S H)(r:bR K p H (.ref k) x)(n1:∀n l,S[k]?≠some (.dic n l))(n2:∀n l,S[k]?≠some (.dol n l)):Af K "list" x H:=by
 obtain⟨a,e,rfl⟩:=r;have hk:k<S.length:=by
  have:=(ca.mp e).1;rw[<-s.len];exact this
 have z:=s.obj k a S[k] e (au hk);cases y:S[k]with
 |lst xs=>
  rw[y]at z;obtain⟨vs,h,_⟩:=z;exact .inl ⟨rfl,vs,bT.of h⟩
 |lol xss=>
  rw[y]at z;obtain⟨bs,h,_⟩:=z;exact .inl ⟨rfl,_,bT.of h⟩
 |dic n l=>exact absurd (by rw[au hk,y]) (n1 n l)
 |dol n l=>exact absurd (by rw[au hk,y]) (n2 n l)
theorem Tx{apos cpos:ah}(ho:aT K cl E X a m)(ha:eM K cl E X [e] ms)(hbase:attributeBase a "append" X.env (eval a X.env)=eval a X.env:=by rfl)
  (hfew:((backTo cpos (starEach [e] X.env)).all (λx=>!x.1)&&(backToKw cpos (keywordEach [] X.env)).all (λx=>x.1.isSome)&&decide (([e]:List ag).length+([]:List iz).length+(if([]:List iz).isEmpty then 0 else 1)<30))=true:=by rfl)
  (hline:(apos.endLine==cpos.line)=true:=by rfl)(hs:starEach [e] X.env=[(false,eval e X.env)]:=by rfl):aT K cl E X (.Call (.Attribute a "append" apos) [e] [] cpos) (dF m ms):=by
 intro hK;subst hK;refine PE.imp (Yc xa va i8 rR (ho rfl) (ha rfl) hbase hfew hline hs rfl) λσ H Q ⟨p,S,ρ,s,ev,h⟩=>?_;refine bU s ev h λq H1 k x S1 st s1 e1 r1 h1=>?_;cases k with
 |pv v=>exact h1.elim
 |ref k=>
  have h1:bN X.K cl (bR X.K) q H1 (eL (.ref k) S1 λk=>(ms ρ S1).bind λys S2=>gM k ys S2) Q E:=h1;rcases uY k S1 (λk=>(ms ρ S1).bind λys S2=>gM k ys S2)with z |⟨z,n1,n2⟩
  .rw[z]at h1
   exact h1.elim
  rw[z]at h1;refine⟨Qa s1 r1 n1 n2,bU s1 e1 h1 λq2 H2 ys xs S2 st2 s2 e2 r2 h2=>?_⟩;obtain⟨a,ea,rfl⟩:=st2.repA r1;unfold gM at h2;split at h2
  .rename_i y
   cases r2 with
   |cons r3 r4=>
    cases r4;rename_i x;cases z:S2[k]? with
    |none=>rw[z]at h2;exact h2.elim
    |some o=>
     cases o with
     |lol _=>simp only[z]at h2;exact h2.elim
     |dic _ _=>simp only[z]at h2;exact h2.elim
     |dol _ _=>simp only[z]at h2;exact h2.elim
     |lst zs=>
      simp only[z]at h2;obtain⟨vs,h3,l3,r4⟩:=s2.obj k a _ ea z;split at h2
      .rename_i hl
       rw[r4.length]at hl;have hz:=iP;refine⟨a,vs,x,rfl,rfl,h3,by omega,?_⟩;obtain⟨st3,sm3⟩:=s2.write ea (ca.mp z).1 (ps:=zs++[y]) (vs:=vs++[x]) (by rw[bf,jk];omega) (r4.append (.cons r3 .nil));exact h2 _ _ .non st3 sm3 (by show aP X.K q2.c (aV H2 a (.lst (vs++[x]))) .non .non;unfold aP;rfl)
      .exact h2.elim
  .exact h2.elim
def oH(k:Nat)(ys:AL)(S:aH):bG AV:=match ys with
 |[.pv (.int i)]=>if-9223372036854775808<=i/\i<9223372036854775808 then(match S[k]? with
  |some (.lst xs)=>match seqIndex? i xs.length with
   |some j=>match xs[j]? with
    |some v=>.ok (.pv v) (S.set k (.lst (xs.eraseIdx j)))
    |none=>.fail
   |none=>.fail
  |_=>.fail)else .fail
 |_=>.fail
def kM(m:ME)(ms:MA):ME:=λρ S=>(m ρ S).bind λk S1=>eL k S1 λk=>(ms ρ S1).bind λys S2=>oH k ys S2
theorem aam{apos cpos:ah}(ho:aT K cl E X a m)(ha:eM K cl E X [e] ms)(hbase:attributeBase a "pop" X.env (eval a X.env)=eval a X.env:=by rfl)
  (hfew:((backTo cpos (starEach [e] X.env)).all (λx=>!x.1)&&(backToKw cpos (keywordEach [] X.env)).all (λx=>x.1.isSome)&&decide (([e]:List ag).length+([]:List iz).length+(if([]:List iz).isEmpty then 0 else 1)<30))=true:=by rfl)
  (hline:(apos.endLine==cpos.line)=true:=by rfl)(hs:starEach [e] X.env=[(false,eval e X.env)]:=by rfl):aT K cl E X (.Call (.Attribute a "pop" apos) [e] [] cpos) (kM m ms):=by
 intro hK;subst hK;refine PE.imp (Yc xa PySem.F.slot_list_pop PySem.F.type_list_pop Uy (ho rfl) (ha rfl) hbase hfew hline hs rfl) λσ H Q ⟨p,S,ρ,s,ev,h⟩=>?_;refine bU s ev h λq H1 k x S1 st s1 e1 r1 h1=>?_;cases k with
 |pv v=>exact h1.elim
 |ref k=>
  have h1:bN X.K cl (bR X.K) q H1 (eL (.ref k) S1 λk=>(ms ρ S1).bind λys S2=>oH k ys S2) Q E:=h1;rcases uY k S1 (λk=>(ms ρ S1).bind λys S2=>oH k ys S2)with z |⟨z,n1,n2⟩
  .rw[z]at h1
   exact h1.elim
  rw[z]at h1;refine⟨Qa s1 r1 n1 n2,bU s1 e1 h1 λq2 H2 ys xs S2 st2 s2 e2 r2 h2=>?_⟩;obtain⟨a,ea,rfl⟩:=st2.repA r1;unfold oH at h2;split at h2
  .rename_i i
   cases r2 with
   |cons r3 r4=>
    cases r4;rename_i x;have ex:x=.int i:=(show eP X.K q2 H2 (.int i) x from .inl r3).int;subst ex;split at h2
    .rename_i hi
     cases z:S2[k]? with
     |none=>rw[z]at h2;exact h2.elim
     |some o=>
      cases o with
      |lol _=>simp only[z]at h2;exact h2.elim
      |dic _ _=>simp only[z]at h2;exact h2.elim
      |dol _ _=>simp only[z]at h2;exact h2.elim
      |lst zs=>
       simp only[z]at h2;obtain⟨vs,h3,l3,r4⟩:=s2.obj k a _ ea z;cases y:seqIndex? i zs.length with
       |none=>simp only[y]at h2;exact h2.elim
       |some j=>
        simp only[y]at h2;cases yv:zs[j]? with
        |none=>simp only[yv]at h2;exact h2.elim
        |some v=>
         simp only[yv]at h2;obtain⟨u,eu,ru⟩:=r4.get yv;refine⟨a,vs,i,j,u,rfl,rfl,h3,hi.1,hi.2,by rw[<-r4.length];exact y,eu,?_⟩;obtain⟨st3,sm3⟩:=s2.write ea (ca.mp z).1 (ps:=zs.eraseIdx j) (vs:=vs.eraseIdx j) (dy (zK vs j) l3) (r4.eraseIdx j);exact h2 _ _ u st3 sm3 (st3.rep ru)
    .exact h2.elim
  .exact h2.elim
def mS(k:Nat)(i:AV)(v:AV)(S:aH):bG Unit:=match i,v with
 |.pv (.int i),.pv v=>match S[k]? with
  |some (.lst xs)=>match aW xs.length i with
   |some j=>.ok () (S.set k (.lst (xs.set j v)))
   |none=>.fail
  |_=>.fail
 |_,_=>.fail
def kJ(mo mi mv:ME):MS:=λρ S=>bV.of (mv ρ S) λv S1=>bV.of (mo ρ S1) λk S2=>bV.of (mi ρ S2) λi S3=>bV.of (eL k S3 λk=>mS k i v S3) λ_ S4=>.nx ρ S4
theorem Xw{o i v:ag}{mo mi mv:ME}{tpos:ah}(hv:aT K cl E X v mv)(ho:aT K cl E X o mo)(hi:aT K cl E X i mi)
  (ha:∀v,assign (.Subscript o i tpos) X.env v=(do
   let ov <-holding [v] (eval o X.env)
   let iv <-holding [v,ov] (eval i X.env)
   standAt tpos
   holding [v,ov,iv] (setItem ov iv v)
   release [v,ov,iv] []):=by intro _;rfl)
  (hs:swapsWithSole [.Subscript o i tpos] v pos.line X.env=pure false:=by rfl)(hw:swappedStores [.Subscript o i tpos] v X.env=pure none:=by rfl)
  (h1:(assignEach [.Subscript o i tpos] X.env).map (·.2)=[assign (.Subscript o i tpos) X.env]:=by rfl):eO K cl E X (.Assign [.Subscript o i tpos] v pos) (kJ mo mi mv):=by
 intro hK;subst hK;refine PS.imp (Gb (hv rfl) (Gc (ho rfl) (hi rfl) Vj ha) hs hw h1) λD σ H ⟨p,S,ρ,s,ev,h⟩=>?_;refine iR s ev h λq H1 v x S1 st s1 e1 r1 h1=>?_;refine iR s1 e1 h1 λq2 H2 k y S2 st2 s2 e2 r2 h2=>?_;refine iR s2 e2 h2 λq3 H3 i z S3 st3 s3 e3 r3 h3=>?_;cases k with
 |pv _=>exact h3.elim
 |ref k=>
  obtain⟨a,ea,rfl⟩:=st3.repA r2;have rv:=st3.repA (st2.repA r1);have h3:eC X.K cl q3 H3 (bV.of (eL (.ref k) S3 λk=>mS k i v S3) λ_ S4=>.nx ρ S4) D E:=h3;rcases uY k S3 (λk=>mS k i v S3)with z0 |⟨z0,_,_⟩
  .rw[z0]at h3
   exact h3.elim
  rw[z0]at h3;unfold mS at h3;split at h3
  .rename_i ii vv _
   have ez:z=.int ii:=(show eP X.K q3 H3 (.int ii) z from .inl r3).int;subst ez;cases w:S3[k]? with
   |none=>rw[w]at h3;exact h3.elim
   |some o=>
    cases o with
    |lol _=>simp only[w]at h3;exact h3.elim
    |dic _ _=>simp only[w]at h3;exact h3.elim
    |dol _ _=>simp only[w]at h3;exact h3.elim
    |lst zs=>
     simp only[w]at h3;obtain⟨vs,hh,ll,rr⟩:=s3.obj k a _ ea w;cases y:aW zs.length ii with
     |none=>simp only[y]at h3;exact h3.elim
     |some j=>
      simp only[y]at h3;refine⟨a,vs,ii,j,rfl,rfl,hh,by rw[<-rr.length];exact y,?_⟩;obtain⟨st4,sm4⟩:=s3.write ea (ca.mp w).1 (ps:=zs.set j vv) (vs:=vs.set j x) (by rw[dj];exact ll) (aQ.set rv j rr);exact h3 _ _ _ st4 sm4 (st4.repE e3)
  .exact h3.elim
def fR:AI->AI->AI
 |x::xs,y::ys=>.tup [x,y]::fR xs ys
 |_,_=>[]
theorem zV:∀(xs ys:AI),(fR xs ys).length=min xs.length ys.length
 |[],ys=>by cases ys<;>simp[fR]
 |x::xs,[]=>by simp[fR]
 |x::xs,y::ys=>by
  unfold fR;rw[bo,zV xs ys,bo,bo];omega
theorem Bj:∀{xs ys:AI}{i:Nat}{v:PV},(fR xs ys)[i]?=some v->∃x y,xs[i]?=some x/\ys[i]?=some y/\v=.tup [x,y]
 |[],ys,i,v,e=>by cases ys<;>simp[fR]at e
 |x::xs,[],i,v,e=>by simp[fR]at e
 |x::xs,y::ys,0,v,e=>by
  unfold fR at e;simp at e;exact⟨x,y,rfl,rfl,e.symm⟩
 |x::xs,y::ys,i+1,v,e=>by
  unfold fR at e;obtain⟨a,b,h1,h2,h3⟩:=Bj (xs:=xs) (ys:=ys) (i:=i) (v:=v) (by simpa using e);exact⟨a,b,by simpa using h1,by simpa using h2,h3⟩
def lD:AL->aH->bG (AI×Gd)
 |[a,b],S=>match cK a S with
  |.ok xs _=>match cK b S with
   |.ok ys _=>.ok (fR xs.1 ys.1,xs.2++ys.2) S
   |_=>.fail
  |_=>.fail
 |_,_=>.fail
def gU(ms:MA):MI:=λρ S=>(ms ρ S).bind lD
theorem Bk{a:AV}{x:V}{xs:AI×Gd}{S':aH}(s:aU K p S H)(r:bR K p H a x)(e:cK a S=.ok xs S'):∃f ad vs,x=.ref ad/\jD f K H ad vs/\xs.1.length<=sizeLine/\∀q H1 S1,bI p H q H1->aU K q S1 H1->gY xs.2 S1->∃vs,jD f K H1 ad vs/\aQ K q.c H1 xs.1 vs:=by
 cases a with
 |ref j=>
  obtain⟨a,e1,rfl⟩:=r;unfold cK at e;dsimp only at e;cases z:S[j]? with
  |none=>rw[z]at e;cases e
  |some o=>
   cases o with
   |lol _=>rw[z]at e;cases e
   |dic _ _=>rw[z]at e;cases e
   |dol _ _=>rw[z]at e;cases e
   |lst ys=>
    rw[z]at e;cases e;obtain⟨vs,h1,l1,r1⟩:=s.obj j a _ e1 z;refine⟨false,a,vs,rfl,bT.of h1,by rw[r1.length];exact l1,λq H1 S1 st sm g=>?_⟩;obtain⟨ws,h2,l2,r2⟩:=sm.obj j a _ (st.at_ e1) (g (j,ys) bi);exact⟨ws,bT.of h2,r2⟩
 |pv v=>
  cases v with
  |lst ys=>
   cases e;have r:aP K p.c H (.lst ys) x:=r;unfold aP at r;obtain⟨a,vs,rfl,l,z,r⟩:=r;exact⟨false,a,vs,rfl,l.sq,by rw[r.length];exact z,λq H1 S1 st sm g=>⟨vs,(st.lat l).sq,st.reps r⟩⟩
  |tup ys=>
   cases e;have r:aP K p.c H (.tup ys) x:=r;unfold aP at r;obtain⟨a,vs,rfl,l,z,r⟩:=r;exact⟨true,a,vs,rfl,l,by rw[r.length];exact z,λq H1 S1 st sm g=>⟨vs,st.tup l,st.reps r⟩⟩
  |_=>cases e
theorem K0{elts:List ag}{x1:Nat}{tp p:ah}(hg:Gl X "zip")(hm:X.mg "zip"=none)(hl:eM K cl E X [a,b] ms)(hs:starEach [a,b] X.env=[(false,eval a X.env),(false,eval b X.env)]:=by rfl)(hs2:starEach [b] X.env=[(false,eval b X.env)]:=by rfl):
  PIp K cl E X (.Tuple elts x1 tp) (.Call (.Name "zip" p) [a,b] [] pos) (gU ms):=by
 intro hK;subst hK;refine PI.imp (aaC hg hm (hl rfl) hs hs2) λσ H R ⟨p,S,ρ,s,ev,h⟩=>?_;refine bU s ev h λq H' as xs S' cR sm ev r k=>?_;unfold lD at k;split at k
 .rename_i u v
  cases r with
  |cons r1 r2=>
   cases r2 with
   |cons r2 r3=>
    cases r3;split at k
    .rename_i xs1 S1 hx
     split at k
     .rename_i ys1 S2 hy
      obtain⟨f1,a1,vs1,rfl,q1,z1,st1⟩:=Bk sm r1 hx;obtain⟨f2,a2,vs2,rfl,q2,z2,st2⟩:=Bk sm r2 hy;refine⟨f1,a1,f2,a2,vs1,vs2,rfl,q1,q2,bN.ret (R:=eY X.K) k sm ?_⟩;refine⟨by rw[zV];omega,λq3 H3 S3 st3 sm3 g3=>?_⟩;obtain⟨ws1,w1,rr1⟩:=st1 q3 H3 S3 st3 sm3 λg hg=>g3 g (ku _ hg);obtain⟨ws2,w2,rr2⟩:=st2 q3 H3 S3 st3 sm3 λg hg=>g3 g (cu _ hg);refine⟨λi v e=>?_,?_⟩
      .obtain⟨x,y,ex,ey,rfl⟩:=Bj e
       obtain⟨x',ex',rx⟩:=rr1.get ex;obtain⟨y',ey',ry⟩:=rr2.get ey;refine⟨⟨ws1,ws2,x',y',w1,w2,ex',ey'⟩,λz H4 hz=>?_⟩;obtain⟨t,x2,y2,ht,rfl,rfl,g1,g2⟩:=hz;have e1:=(g1 ws1 w1).symm.trans ex';have e2:=(g2 ws2 w2).symm.trans ey';cases e1;cases e2;refine⟨gK ht,nV sm3 (.cons rx (.cons ry .nil)) (by show 2<=sizeLine;decide) ht⟩
      .refine⟨ws1,ws2,w1,w2,?_⟩
       show(fR xs1.1 ys1.1).length=_\/_;rw[zV,rr1.length,rr2.length];omega
     .exact k.elim
    .exact k.elim
 .exact k.elim
def iU:Nat->AI->AI
 |_,[]=>[]
 |n,x::xs=>.tup [.int n,x]::iU (n+1) xs
theorem zD:∀(n:Nat)(xs:AI),(iU n xs).length=xs.length
 |_,[]=>rfl
 |n,x::xs=>by
  unfold iU;rw[bo,zD (n+1) xs,bo]
theorem Lh:∀{n:Nat}{xs:AI}{i:Nat}{v:PV},(iU n xs)[i]?=some v->∃x,xs[i]?=some x/\v=.tup [.int ((n+i:Nat):Int),x]
 |n,[],i,v,e=>by simp[iU]at e
 |n,x::xs,0,v,e=>by
  unfold iU at e;simp at e;exact⟨x,rfl,e.symm⟩
 |n,x::xs,i+1,v,e=>by
  unfold iU at e;obtain⟨y,h1,h2⟩:=Lh (n:=n+1) (xs:=xs) (i:=i) (v:=v) (by simpa using e);refine⟨y,by simpa using h1,?_⟩;rw[h2,show n+1+i=n+(i+1) by omega]
def Rb:AL->aH->bG (AI×Gd)
 |[.pv (.lst xs)],S=>.ok (iU 0 xs,[]) S
 |[.ref k],S=>match cK (.ref k) S with
  |.ok xs _=>.ok (iU 0 xs.1,xs.2) S
  |_=>.fail
 |_,_=>.fail
def wH(ms:MA):MI:=λρ S=>(ms ρ S).bind Rb
theorem Uo{xs:AI}{G:Gd}{a:Addr}(z:xs.length<=sizeLine)(st1:∀q H1 S1,bI p H q H1->aU K q S1 H1->gY G S1->∃vs,bT K H1 a vs/\aQ K q.c H1 xs vs):eY K p H (iU 0 xs,G) (Bf K a):=by
 refine⟨by rw[zD];exact z,λq3 H3 S3 st3 sm3 g3=>?_⟩;obtain⟨ws1,w1,rr1⟩:=st1 q3 H3 S3 st3 sm3 g3;refine⟨λi v e=>?_,?_⟩
 .obtain⟨x,ex,rfl⟩:=Lh e
  obtain⟨x',ex',rx⟩:=rr1.get ex;refine⟨⟨ws1,x',w1,ex'⟩,λz H4 hz=>?_⟩;obtain⟨t,y2,ht,rfl,rfl,g1⟩:=hz;have e1:=(g1 ws1 w1).symm.trans ex';cases e1;refine⟨gK ht,nV sm3 (.cons ?_ (.cons rx .nil)) (by show 2<=sizeLine;decide) ht⟩;rw[Nat.zero_add];exact iQ (v:=.int _) rfl
 .refine⟨ws1,w1,?_⟩
  show _<=(iU 0 xs).length;rw[zD,rr1.length];exact aj _
theorem Oz{elts:List ag}{x1:Nat}{tp p:ah}(hg:Gl X "enumerate")(hm:X.mg "enumerate"=none)(hl:eM K cl E X [l] ms)(hs:starEach [l] X.env=[(false,eval l X.env)]:=by rfl):
  PIp K cl E X (.Tuple elts x1 tp) (.Call (.Name "enumerate" p) [l] [] pos) (wH ms):=by
 intro hK;subst hK;refine PI.imp (L9 hg hm (hl rfl) hs) λσ H R ⟨p,S,ρ,s,ev,h⟩=>?_;refine bU s ev h λq H' as xs S' cR sm ev r k=>?_;unfold Rb at k;split at k
 .rename_i ys
  cases r with
  |cons r1 r2=>
   cases r2;rename_i x;have r1:aP X.K q.c H' (.lst ys) x:=r1;unfold aP at r1;obtain⟨a,vs,rfl,l,z,r⟩:=r1;exact⟨a,rfl,⟨vs,l.sq⟩,bN.ret (R:=eY X.K) k sm (Uo (by rw[r.length];exact z) λq H1 S1 st sm g=>⟨vs,(st.lat l).sq,st.reps r⟩)⟩
 .rename_i j
  cases r with
  |cons r1 r2=>
   cases r2;split at k
   .rename_i xs1 S1 hx
    obtain⟨a,e1,rfl⟩:=r1;cases z:S'[j]? with
    |none=>unfold cK at hx;simp only[z]at hx;cases hx
    |some o=>
     cases o with
     |lol _=>unfold cK at hx;simp only[z]at hx;cases hx
     |dic _ _=>unfold cK at hx;simp only[z]at hx;cases hx
     |dol _ _=>unfold cK at hx;simp only[z]at hx;cases hx
     |lst ys=>
      unfold cK at hx;simp only[z]at hx;cases hx;obtain⟨vs,h1,l1,r1⟩:=sm.obj j a _ e1 z;refine⟨a,rfl,⟨vs,bT.of h1⟩,bN.ret (R:=eY X.K) k sm (Uo (by rw[r1.length];exact l1) λq H1 S1 st sm g=>?_)⟩;obtain⟨ws,h2,l2,r2⟩:=sm.obj j a _ (st.at_ e1) (g (j,ys) bi);exact⟨ws,bT.of h2,r2⟩
   .exact k.elim
 .exact k.elim
end
theorem qW{A:aq}{k:Nat}(hr:dI k A):A.units+8<cLine:=by
 have:=hr.units;omega
section
variable{K:af}{cl:Str->Addr}{E:XK}{X:Cx}{a b c e l tg:ag}{es:List ag}{m ma mb:ME}{ms:MA}{pos:ah}{p q:Ph}{H H':Hp}{S:aH}
def Ae(f:Int->Int->Int)(i:Nat)(ρ:bM)(v:AV)(S:aH):bV:=match ρ[i]? with
 |some (some (.pv (.int x)))=>match v with
  |.pv (.int y)=>.nx (ρ.set i (some (.pv (.int (f x y))))) S
  |_=>.fail
 |_=>.fail
def qQ(f:Int->Int->Int)(i:Nat)(m:ME):MS:=λρ S=>match ρ[i]? with
 |some (some (.pv (.int _)))=>bV.of (m ρ S) (Ae f i ρ)
 |_=>.fail
theorem Kj{i:Nat}{x:Str}{op:oq}{f:Int->Int->Int}{pos':ah}(hN:X.N.Nodup)(hi:X.N[i]?=some x)(hx:jP X.env.scope x)(he:aT K cl E X e m)(ho:L2.PIp X op (Oe f))
  (hf:X.fn x=true\/X.env.scope.names.lookup x=some .local:=by first |exact .inl rfl |exact .inr rfl |assumption):eO K cl E X (.AugAssign (.Name x pos') op e pos) (qQ f i m):=by
 intro hK;subst hK;refine PS.imp (U8 hN hi hx (he rfl) ho hf) λD σ H ⟨p,S,ρ,s,ev,h⟩=>?_;unfold qQ at h;split at h
 .rename_i x0 hx0
  obtain⟨v,e1,r1⟩:=ev.at_ i _ hx0;refine⟨v,e1,iR s ev h λq H' a b S' cR sm ev' r k=>?_⟩;have ev2:v=.int x0:=(show eP X.K p H (.int x0) v from .inl r1).int;unfold Ae at k;rw[hx0]at k;dsimp only at k;split at k
  .rename_i y0
   have eb:b=.int y0:=(show eP X.K q H' (.int y0) b from .inl r).int;exact⟨x0,y0,ev2,eb,eC.nxD k sm (ev'.set (v:=.pv (.int (f x0 y0))) (x:=.int (f x0 y0)) (by show aP X.K q.c H' _ _;unfold aP;rfl) i)⟩
  .exact k.elim
 .exact h.elim
def wN(K:af):Sp:=λvs H Q _=>∃(a:Addr)(ns:AA),vs=[.ref a]/\bT K H a (ns.map V.int)/\ns.length<=63/\∀H',Q (.bl true) H'
theorem N9{f:FM}(ht:∀ns:AA,ns.length<=63->∃S,f [.pv (.lst (ns.map .int))] []=.ok (.pv (.bl true)) S){vs:List V}{H:Hp}{Q:VK}{E:XK}(h:wN K vs H Q E):kN K cl f vs H Q E:=by
 obtain⟨a,ns,rfl,hS,hl,hQ⟩:=h;obtain⟨S,e⟩:=ht ns hl;have rs:∀(ns:AA),aQ K (λ_=>False) H (ns.map .int) (ns.map V.int):=λns=>by
  induction ns with
  |nil=>exact .nil
  |cons n ns ih=>exact .cons (by unfold aP;rfl) ih
 refine⟨⟨[],λ_=>False,λ_=>False⟩,[],[.pv (.lst (ns.map .int))],⟨sf,rfl,(λ_ h=>absurd h (fi)),(λ_ h=>h),(λ_ h=>h.elim),(λk a o e=>by simp at e)⟩,.cons ?_ .nil,?_⟩
 .show aP K (λ_=>False) H (.lst (ns.map .int)) (.ref a)
  unfold aP;refine⟨a,_,rfl,?_,?_,rs ns⟩
  .rcases hS with(h |h) |h
   .exact .inl ⟨h,λz=>z⟩
   .exact .inr (.inl h)
   .exact .inr (.inr h)
  .rw[ak,iP]
   omega
 .rw[e]
  intro q H' x st sm r;have r:aP K q.c H' (.bl true) x:=r;unfold aP at r;rw[r];exact hQ H'
end
section
variable{K:af}{cl:Str->Addr}{E:XK}{X:Cx}{e:ag}{es:List ag}{ms:MA}{p q:Ph}{H H':Hp}{S:aH}
theorem dE.forget{ρ:bM}{σ:St}(h:dE K p H ρ σ)(i:Nat)(x:Option V):dE K p H (ρ.set i none) (σ.set i x):=by
 refine⟨by rw[dj,dj,h.len],λj u e=>?_⟩
 by_cases q:i=j
 .subst q
  by_cases l:i<ρ.length
  .rw[de l]at e
   cases e
  .rw[rm (by rw[dj];omega)]at e
   cases e
 .rw[dz q]at e⊢
  exact h.at_ j u e
variable{k:Nat}{f:Addr}{fd:cf}{ps:List Str}{g:FM}{dvs:List V}{ds:AE}{dv:AI}{x:Str}{pp pos pos1 pos2 pos3 pc:ah}{c n:Str}{i nn:Nat}{AS:Stmt}{body:List Stmt}{newId:String}{up:bM->bM}
end
end L2.Pp
namespace L2
open PySem PySem.Spec PyProof.Rows Bn
section
variable{X:Cx}{k:Nat}{f:Addr}{fd:cf}{ps:List Str}{sp:Sp}{dvs:List V}{ds:AE}{x:Str}{p pos pos1 pos2 pos3 pc:ah}{e:ag}{es:List ag}{t:TA}{c n:Str}{C:Addr}{i:Nat}{AS:Stmt}{body:List Stmt}{newId:String}
end
end L2
namespace L2.Pp
open PySem PySem.Spec PyProof.Rows Bn
section
variable{K:af}{cl:Str->Addr}{E:XK}{X:Cx}{e:ag}{es:List ag}{ms:MA}{p q:Ph}{H H':Hp}{S:aH}
variable{k:Nat}{f:Addr}{fd:cf}{ps:List Str}{g:FM}{dvs:List V}{ds:AE}{dv:AI}{x:Str}{pp pos pos1 pos2 pos3 pc:ah}{c n:Str}{i nn:Nat}{AS:Stmt}{body:List Stmt}{newId:String}{up:bM->bM}
end
section
variable{prog:Program}{w:am}{A:aq}{E:Value->aa->Prop}{s:aa}
end
end L2.Pp
namespace L2
open PySem PyProof.Rows
end L2
namespace L2.Pp
open PySem
end L2.Pp
namespace L2
open PySem PySem.Spec PyProof.Rows Bn
section
variable{X:Cx}
theorem Sf(is:AA):∀j,j<=is.length->preSum (λi=>is.getD i 0) j=(is.take j).sum
 |0,_=>by simp[preSum]
 |j+1,h=>by
  have hj:j<is.length:=h;rw[preSum,Sf is j (by omega),List.take_add_one,au hj,Option.toList_some,List.sum_append,List.sum_singleton];simp only[ck,au hj,si]
theorem Ax(hc:X.calm=true):jI X (.builtin "sum") (λxs H Q=>∃(a:Addr)(is:AA),xs=[.ref a]/\bT X.K H a (is.map V.int)/\Q (.int is.sum) H):=by
 intro AM s σ H xs us Q I r h;obtain⟨a,is,rfl,hq,q⟩:=h;obtain⟨u,rfl,ru⟩:=kK r;cases ru;obtain⟨its,rv,pl,hz⟩:=I.list hq;have hl:is.length=its.length:=by
  have:=rv.length
  rwa[ak]at this
 refine call_sum_walkG (wm pl.isList ?_);have ha:a<s.heap.objs.size:=by
  obtain⟨o,ho,_⟩:=pl.isList;exact br ho
 refine⟨_,_,_,_,_,_,λi=>is.getD i 0,rfl,Walks.list (prog:=X.prog) (w:=X.w) (A:=X.A.in1) (show X.A.in1.handled=none from I.ok.hd hc) s.heap.objs.size a (cw ha) its.toArray,⟨⟨_,cy _ rfl,rfl,rfl⟩,Heap.IsList.at pl.isList λo e=>av _ e⟩,λb hb=>?_,λi v hv=>?_,λh' tk t' kp=>?_⟩
 .have hb':b=s.heap.objs.size\/b=a:=by simpa using hb
  rw[jd];rcases hb' with e |e<;>rw[e]
  .exact wz _
  .exact xb ha
 .have hv':its[i]?=some v:=by simpa using hv
  have hi:i<is.length:=by
   have:=(ca.mp hv').1;omega
  obtain⟨u,hu,ru⟩:=rv.get (i:=i) (x:=.int is[i]) (by rw[bj,au hi];rfl);rw[hv']at hu;cases hu;obtain⟨t,ht⟩:=(show ∃t,v=qe is[i] t from ru);exact⟨t,by rw[ht];simp[ck,hi]⟩
 .have e:preSum (λi=>is.getD i 0) its.toArray.size=is.sum:=by
   rw[ax,<-hl,Sf is _ (aj _),xc]
  show EP X AM σ Q (.int (preSum (λi=>is.getD i 0) its.toArray.size) t') _;rw[e];have I1:aF X AM σ H {s with heap:=s.heap.push {cls:=.type "list_iterator",data:=.fields #[.ref a,.int 0 0]},toks:=s.toks}:=I.kept λb o z=>av _ z;have fp:fG X AM H s.heap.objs.size:=I.fpOk (aj _) (I.hok.fresh (aj _));obtain⟨f0,f1,f2,f3,f4,f5⟩:=fp;exact⟨.int is.sum,H,I1.turned (λb o hb z=>kp b o (by simpa using hb) z) f0 f1 f3 f4 f5,⟨t',rfl⟩,q⟩
theorem Vw(is:AA):(ce is.length).any (λi=>is.getD i 0 !=0)=is.any (· !=0):=by
 rw[rf,i9,i9];constructor
 .rintro⟨i,hi,z⟩
  have hi':i<is.length:=by simpa using hi
  exact⟨is[i],fj hi',by simpa[ck,hi']using z⟩
 .rintro⟨b,hb,z⟩
  obtain⟨i,hi,rfl⟩:=wv.mp hb;exact⟨i,by simpa using hi,by simpa[ck,hi]using z⟩
end
end L2
namespace L2.Pp
open PySem PySem.Spec PyProof.Rows Bn
section
variable{K:af}{cl:Str->Addr}{E:XK}{X:Cx}
def iF:AI->Option AA
 |[]=>some []
 |.int b::r=>match iF r with
  |some bs=>some (b::bs)
  |none=>none
 |_::_=>none
theorem rN{c:Addr->Prop}{H:Hp}:∀{xs:AI}{bs:AA}{vs:List V},iF xs=some bs->aQ K c H xs vs->vs=bs.map V.int
 |[],bs,vs,e,r=>by
  cases e;unfold aQ at r;exact r
 |.int b::xs,bs,vs,e,r=>by
  unfold iF at e;split at e
  .rename_i cs h
   cases e;unfold aQ at r;obtain⟨v,w,rfl,r1,r2⟩:=r;unfold aP at r1;rw[r1,rN h r2];rfl
  .cases e
 |.non::_,_,_,e,_=>by cases e
 |.bl _::_,_,_,e,_=>by cases e
 |.str _::_,_,_,e,_=>by cases e
 |.tup _::_,_,_,e,_=>by cases e
 |.lst _::_,_,_,e,_=>by cases e
def oO:AI->AJ
 |[.lst xs]=>(iF xs).map λbs=>.int bs.sum
 |_=>none
theorem aaQ:kO K (λxs H Q=>∃(a:Addr)(is:AA),xs=[.ref a]/\bT K H a (is.map V.int)/\Q (.int is.sum) H) oO:=λ{p S H as c xs Q} s ra e k=>by
 unfold oO at e;split at e
 .rename_i zs
  cases y:iF zs with
  |none=>rw[y]at e;cases e
  |some bs=>
   rw[y]at e;cases e;cases ra with
   |cons h t=>
    cases t;obtain⟨a,vs,rfl,l,z,r⟩:=h.lst;rw[rN y r]at l;exact⟨a,bs,rfl,l,k H _ (dH.refl H) (iQ (v:=.int _) rfl)⟩
 .cases e
end
section
variable{K:af}{cl:Str->Addr}{E:XK}{X:Cx}{p q:Ph}{H H':Hp}{S:aH}
variable{sc:Scope}{own:List Str}{cap:List (Nat×Str)}{elt target iter:ag}{pos:ah}{mi:MI}{g:GM}{me:ME}
end
def iI{α:Type}(xs:List α)(lo hi:AH)(st:Int):List α:=
 (sliceRange (sliceBounds lo hi (some st) xs.length).1 (sliceBounds lo hi (some st) xs.length).2.1 (sliceBounds lo hi (some st) xs.length).2.2).filterMap (xs[·]?)
theorem Xf(its:AE)(lo hi:AH)(st:Int):slicePick its.toArray lo hi (some st)=(iI its lo hi st).toArray:=by
 unfold slicePick iI;rw[ax];simp only[List.getElem?_toArray]
theorem Pi{α β:Type}{R:α->β->Prop}:∀{xs:List α}{ys:List β}(ks:List Nat),xs.length=ys.length->(ks.filterMap (xs[·]?)).length=(ks.filterMap (ys[·]?)).length
 |xs,ys,[],_=>rfl
 |xs,ys,k::ks,h=>by
  have ih:=Pi (R:=R) (xs:=xs) (ys:=ys) ks h
  by_cases hk:k<xs.length
  .have hk2:k<ys.length:=by omega
   rw[iy,iy,au hk,au hk2];simp[ih]
  .rw[iy,iy,rm (by omega),rm (by omega)]
   exact ih
theorem Uj{α:Type}(xs:List α)(lo hi:AH)(st:Int):(iI xs lo hi st).length<=xs.length:=by
 have e:=slicePick_size_le (xf xs.length cj) lo hi (some st);have e2:(iI xs lo hi st).length=(slicePick (xf xs.length cj) lo hi (some st)).size:=by
  have:=Xf (jy xs.length cj) lo hi st;rw[show xf xs.length cj=(jy xs.length cj).toArray by simp,this,ax];unfold iI;rw[zd];exact Pi (R:=λ_ _=>True) _ (by simp)
 rw[e2];simpa using e
section
variable{K:af}{cl:Str->Addr}{E:XK}{X:Cx}{e:ag}{m:ME}{pos p2:ah}
theorem aZ.at_{xs:List V}{us:AE}(r:aZ xs us):∀{k:Nat}{x:V},xs[k]?=some x->∃u,us[k]?=some u/\bK x u:=λ{k x} h=>by
 obtain⟨u,e1,e2⟩:=r.get h;exact⟨u,e1,e2⟩
theorem aZ.pick{xs:List V}{us:AE}(r:aZ xs us):∀ks:List Nat,aZ (ks.filterMap (xs[·]?)) (ks.filterMap (us[·]?))
 |[]=>.nil
 |k::ks=>by
  have ih:=aZ.pick r ks;rw[iy,iy];cases h:xs[k]? with
  |none=>
   have:us[k]?=none:=by
    rw[j0]at h⊢;rw[<-r.length];exact h
   rw[this];exact ih
  |some x=>
   obtain⟨u,e1,e2⟩:=aZ.at_ r h;rw[e1];exact .cons e2 ih
theorem aQ.pick{c:Addr->Prop}{H:Hp}{xs:AI}{us:List V}(r:aQ K c H xs us):∀ks:List Nat,aQ K c H (ks.filterMap (xs[·]?)) (ks.filterMap (us[·]?))
 |[]=>.nil
 |k::ks=>by
  have ih:=aQ.pick r ks;rw[iy,iy];cases h:xs[k]? with
  |none=>
   have:us[k]?=none:=by
    rw[j0]at h⊢;rw[<-r.length];exact h
   rw[this];exact ih
  |some x=>
   obtain⟨u,e1,e2⟩:=r.get h;rw[e1];exact .cons e2 ih
def Ps(v:PV)(lo hi:AH)(st:Int):AJ:=match v with
 |.lst xs=>some (.lst (iI xs lo hi st))
 |_=>none
def oP(m:ME)(ml mh:MO)(st:Int):ME:=λρ S=>(m ρ S).bind λv S1=>(ml ρ S1).bind λlo S2=>(mh ρ S2).bind λhi S3=>gC ((rd S3 v).bind λx=>Ps x lo hi st) S3
def ab8(K:af)(st:Int)(te:TE)(tl th:TO):TE:=λσ H Q=>te σ H λx H1=>tl σ H1 λl H2=>th σ H2 λu H3=>∃a xs,x=.ref a/\bT K H3 a xs/\∀p,H3 p=none->Q (.ref p) (aV H3 p (.lst (iI xs l u st)))
theorem Ew{lo hi:Option ag}{es:ag}{te:TE}{tl th:TO}{st:Int}(h0:st≠0)(he:PE X e te)(hl:PO X lo tl)(hu:PO X hi th)(hst:PO X (some es) λ_ H Q=>Q (some st) H):PE X (.Subscript e (.Slice lo hi (some es) p2) pos) (ab8 X.K st te tl th):=by
 intro AM s σ H Q I h;refine uo (bC (he AM s σ H _ I h) λv s1 ⟨x,H1,I1,r1,q1⟩=>?_);refine wpAny_Slice (bC (hl AM s1 σ H1 _ I1 q1) λvl s2 ⟨l,H2,I2,pl,q2⟩=>bC (hu AM s2 σ H2 _ I2 q2) λvu s3 ⟨u,H3,I3,pu,q3⟩=>?_);refine bC (hst AM s3 σ H3 (λo H'=>o=some st/\H'=H3) I3 ⟨rfl,rfl⟩) λvs s4 ⟨o,H4,I4,ps,eo,eH⟩=>?_;subst eo eH;obtain⟨a,xs,rfl,hx,q⟩:=q3;cases r1;have I5:aF X AM σ H4 {s4 with heap:=s4.heap.push {cls:=.type "slice",data:=.fields #[vl,vu,vs]}}:=I4.kept (t':=s4.toks) λb ob q=>av _ q;obtain⟨its,r,ht,hz⟩:=I5.list hx;have hlen:=r.length;have hg:wpAny (model X.prog X.w) X.A (getItem (.ref a) (.ref s4.heap.objs.size)) (EP X AM σ Q) X.xe {s4 with heap:=s4.heap.push {cls:=.type "slice",data:=.fields #[vl,vu,vs]}}:=by
  refine zk ht.isList (zg ..) pl pu ps (by simpa using h0) ?_ (by rw[ax]<;>omega);rw[Xf];refine⟨.ref _,_,I5.laid (t':=s4.toks) (o:=.lst (iI xs l u st)) (λb ob q=>av _ q) (aj _) ?_,rfl,q _ (I5.hok.fresh (aj _))⟩;refine⟨dy (Uj xs l u st) hz,_,0,?_,cy _ rfl⟩;unfold iI;rw[hlen];exact aZ.pick r _
 show wpAny (model X.prog X.w) X.A (subscriptTail e (.Slice lo hi (some es) p2) (.ref a) (.ref s4.heap.objs.size)) (EP X AM σ Q) X.xe {s4 with heap:=s4.heap.push {cls:=.type "slice",data:=.fields #[vl,vu,vs]}};exact tail_any (ops:=[.ref a,.ref s4.heap.objs.size]) (T:="list") ht.isList.typeIs uu.lookup hg (by with_unfolding_all rfl)
theorem Lo{lo hi:Option ag}{es:ag}{ml mh:MO}{st:Int}(he:aT K cl E X e m)(hl:nH K cl E X lo ml)(hu:nH K cl E X hi mh)(hst:PO X (some es) λ_ H Q=>Q (some st) H)(h0:st≠0):aT K cl E X (.Subscript e (.Slice lo hi (some es) p2) pos) (oP m ml mh st):=by
 intro hK;subst hK;refine(Ew h0 (he rfl) (hl rfl) (hu rfl) hst).imp λσ H Q ⟨p,S,ρ,s,e,h⟩=>?_;refine bU s e h λq H1 a x S1 st s1 e1 r1 h1=>bU s1 e1 h1 λq2 H2 lo lo' S2 st2 s2 e2 r2 h2=>bU s2 e2 h2 λq3 H3 hi hi' S3 st3 s3 e3 r3 h3=>?_;cases r2;cases r3;have ra:=st3.repA (st2.repA r1);obtain⟨c,ec,k⟩:=pT s3 h3;cases z:rd S3 a with
 |none=>rw[z]at ec;cases ec
 |some v=>
  rw[z]at ec;have rv:=lR s3 ra z;cases v with
  |lst xs=>
   have ec:some (PV.lst (iI xs lo hi _))=some c:=ec;cases ec;obtain⟨a1,vs,rfl,l1,z1,r1⟩:=rv.lst;refine⟨a1,vs,rfl,l1,λt ht=>k _ _ (gK ht) (nU s3 ?_ (dy (Uj vs lo hi _) z1) ht)⟩;unfold iI;rw[r1.length];exact aQ.pick r1 _
  |_=>cases ec
theorem F8{j:Nat}{p1 p2:ah}:PO X (some (.UnaryOp .USub (.Constant (.int 1) j p1) p2)) λ_ H Q=>Q (some (-1)) H:=by
 intro AM s σ H Q I h;exact(Ra (Yr Yp vU)) AM s σ H Q I ⟨1,rfl,-1,rfl,h⟩
theorem aaq{i:Int}{j:Nat}{p1:ah}:PO X (some (.Constant (.int i) j p1)) λ_ H Q=>Q (some i) H:=by
 intro AM s σ H Q I h;exact(Ra vU) AM s σ H Q I ⟨i,rfl,h⟩
end
section
variable{K:af}{cl:Str->Addr}{E:XK}{X:Cx}
end
end L2.Pp
namespace L2
open PySem PySem.Spec PyProof.Rows Bn
open PySem.W (KasT kas_sort kas_ask KatLex KatGo KatTups kat_run kat_kind kat_lt kat_one kas_item kat_snds)
def lY{α:Type}(lt:Nat->Nat->Bool):KasT α->α
 |.ret a=>a
 |.ask i j k=>lY lt (k (lt i j))
def iG{α:Type}(n:Nat):KasT α->Bool
 |.ret _=>true
 |.ask i j k=>decide (i<n)&&decide (j<n)&&iG n (k true)&&iG n (k false)
theorem Yj{α:Type}{cmp:Nat->Nat->(Bool->aa->Prop)->aa->Prop}{lt:Nat->Nat->Bool}{n:Nat}{s:aa}(hc:∀i j(C:Bool->aa->Prop),i<n->j<n->C (lt i j) s->cmp i j C s):∀(t:KasT α)(Q:α->aa->Prop),iG n t=true->Q (lY lt t) s->t.kasWp cmp Q s
 |.ret a,Q,_,h=>h
 |.ask i j k,Q,ok,h=>by
  unfold iG at ok;simp only[ja,decide_eq_true_eq]at ok;obtain⟨⟨⟨hi,hj⟩,h1⟩,h2⟩:=ok;refine hc i j _ hi hj (Yj hc (k (lt i j)) Q ?_ h);cases lt i j
  .exact h2
  .exact h1
def qM(h:Heap)(v:Value)(us:AA):Prop:=∃a o its n,v=.ref a/\h.get? a=some o/\o.cls=.type "tuple"/\o.data=.seq (mf its) n/\aZ (us.map V.int) its
section
variable{prog:Program}{w:am}{A:aq}{E:Value->aa->Prop}{s:aa}
theorem Fl{Q:Bool->aa->Prop}:∀(us vs:AA)(its jts:AE)(i:Nat)(fin:Bool),aZ (us.map V.int) its->aZ (vs.map V.int) jts->fin=decide (us.length<vs.length)->Q (HT.lexLt us vs) s->KatLex prog w A true fin Q (its.zip jts) i s
 |[],vs,its,jts,i,fin,h1,h2,hf,hQ=>by
  cases h1;cases vs with
  |nil=>
   subst hf;exact xh hQ
  |cons v vs=>
   have e:fin=true:=by rw[hf];simp
   subst e;exact xh hQ
 |u::us,[],its,jts,i,fin,h1,h2,hf,hQ=>by
  cases h2;have e:fin=false:=by rw[hf];simp
  subst e;rw[List.zip_nil_right];exact xh hQ
 |u::us,v::vs,its,jts,i,fin,h1,h2,hf,hQ=>by
  cases h1 with
  |cons r1 t1=>
   cases h2 with
   |cons r2 t2=>
    obtain⟨k1,rfl⟩:=r1;obtain⟨k2,rfl⟩:=r2;rw[List.zip_cons_cons];refine PySem.W.kat_cons (wpAny_eqBool_int ?_);rw[HT.lexLt_cons]at hQ
    by_cases e:u=v
    .rw[if_pos e]at hQ
     have b:(u==v)=true:=by simpa using e
     rw[b];exact PySem.W.kat_yes (Fl us vs _ _ (i+1) fin t1 t2 (by rw[hf];simp) hQ)
    .rw[if_neg e]at hQ
     have b:(u==v)=false:=by simpa using e
     rw[b];refine PySem.W.kat_no ?_
     by_cases hi:i=0
     .subst hi
      exact oneLt_int hQ
     .have b2:(true&&i==0)=false:=by simpa using hi
      rw[b2];exact kat_one _ _ (PySem.P.lt_int hQ)
theorem aaa{x y:Value}{us vs:AA}{Q:Bool->aa->Prop}(hx:qM s.heap x us)(hy:qM s.heap y vs)(h:Q (HT.lexLt us vs) s):wpAny (model prog w) A (keyLt' (tuples' true) x y) Q E s:=by
 obtain⟨a,o,its,n,rfl,ho,hc,hd,r⟩:=hx;obtain⟨b,o2,jts,k,rfl,ho2,hc2,hd2,r2⟩:=hy;refine kat_lt ho hd ho2 hd2 ?_;have l1:=r.length;have l2:=r2.length;rw[ak]at l1 l2;refine Fl us vs its jts 0 _ r r2 ?_ h;rw[ax,ax,l1,l2]
theorem Eh:∀(vs:AE)(uss:AC),vs.length=uss.length->(∀i,i<vs.length->qM s.heap (vs.getD i cj) (uss.getD i [])/\uss.getD i []≠[])->∃fs,KatTups s.heap vs fs/\fs.length=vs.length/\∀v∈fs,∃i t,v=.int i t
 |[],uss,_,_=>⟨[],trivial,rfl,λ_ h=>absurd h fi⟩
 |v::vs,[],hl,_=>by cases hl
 |v::vs,us::uss,hl,h=>by
  obtain⟨fs,k,l,q⟩:=Eh vs uss (by simpa using hl) λi hi=>by
   have:=h (i+1) (by simp;omega);simpa using this
  obtain⟨⟨a,o,its,n,e,ho,hc,hd,r⟩,ne⟩:=h 0 (by simp);have e:v=.ref a:=e;subst e;cases us with
  |nil=>exact absurd rfl ne
  |cons u us=>
   have r:aZ (V.int u::us.map V.int) its:=r;cases r with
   |cons r1 t1=>
    obtain⟨t,rfl⟩:=r1;refine⟨.int u t::fs,KatTups.cons ho hc hd (by simp) k,by simp[l],λx hx=>?_⟩;rcases bc.mp hx with rfl |hx
    .exact⟨u,t,rfl⟩
    .exact q x hx
def dQ(uss:AC):List Nat:=(lY (λi j=>HT.lexLt (uss.getD i []) (uss.getD j [])) (je uss.length)).toList
theorem Bu{a:Addr}{vs:AE}{uss:AC}{n:Nat}{P:oi->aa->Prop}(ho:s.heap.get? a=some (seqObj "list" vs.toArray n))(hl:vs.length=uss.length)(h2:2<=vs.length)(h64:vs.length<64)(ok:iG uss.length (je uss.length)=true)
  (tu:∀i,i<vs.length->qM s.heap (vs.getD i cj) (uss.getD i [])/\uss.getD i []≠[])
  (h:P (.done (.ret .none)) {s with heap:=sortedHeap s.heap a vs (mf ((dQ uss).map λi=>vs.getD i cj))}):
  wpAny (model prog w) A (Builtin.«list.sort» ⟨[.ref a],[]⟩) P E s:=by
 have ha:a<s.heap.objs.size:=br ho;obtain⟨e1,ho1⟩:∃e1,(s.heap.update a (iu λ_=>(#[]:Array Value))).get? a=some (seqObj "list" #[] e1):=⟨_,xi ho λ_=>#[]⟩;have kp:∀b o,b≠a->s.heap.get? b=some o->(((s.heap.update a (iu λ_=>(#[]:Array Value))).push (seqObj "tuple" vs.toArray 0)).push (seqObj "list" #[] 0)).get? b=some o:=λb o hb e=>
  av _ (av _ ((xj _ _ _ _ hb).trans e))
 have tu2:∀i,i<vs.length->qM (((s.heap.update a (iu λ_=>(#[]:Array Value))).push (seqObj "tuple" vs.toArray 0)).push (seqObj "list" #[] 0)) (vs.getD i cj) (uss.getD i [])/\uss.getD i []≠[]:=λi hi=>by
  obtain⟨⟨b,o,its,m,e,hb,hc,hd,r⟩,ne⟩:=tu i hi;refine⟨⟨b,o,its,m,e,kp b o (λz=>?_) hb,hc,hd,r⟩,ne⟩;subst z;rw[ho]at hb;cases hb;have hc:om "list"=om "tuple":=hc;injection hc with hc;exact absurd hc (by decide)
 have na:(((s.heap.update a (iu λ_=>(#[]:Array Value))).push (seqObj "tuple" vs.toArray 0)).push (seqObj "list" #[] 0)).get? a=some (seqObj "list" #[] e1):=av _ (av _ ho1);rw[list_sort_plain];refine ae (listItems_at ho rfl ?_);refine ae (listUpdate_at ho rfl ?_ (by rw[ax,jx];omega) (ft _));refine ae (seqEpoch_at ho1 rfl ?_);refine ae (wpAny_newTuple ?_ (by show vs.length<=_;rw[jx];omega));refine ae (wpAny_newList ?_ (ft _));refine kl ?_;show wpAny (model prog w) A _ P E {s with heap:=((s.heap.update a (iu λ_=>(#[]:Array Value))).push (seqObj "tuple" vs.toArray 0)).push (seqObj "list" #[] 0)};dsimp only;have hn2:¬vs.toArray.size<2:=by rw[ax];omega
 rw[if_neg hn2,if_neg hn2];obtain⟨fs,kt,lf,qf⟩:=Eh (s:={s with heap:=((s.heap.update a (iu λ_=>(#[]:Array Value))).push (seqObj "tuple" vs.toArray 0)).push (seqObj "list" #[] 0)}) vs uss hl tu2;refine ae (kat_kind (T:=.type "int") kt (by omega) (λv hv=>?_) rfl ?_)
 .obtain⟨i,t,rfl⟩:=qf v hv
  exact .now
 have bt:(om "int" !=om "tuple")=true:=by decide
 rw[bt];refine ae (dr (kat_run (Q:=λst' s'=>∃p:Array Nat,p.size=vs.length/\arrOf st'=p.map (kas_item (vs.toArray.zip vs.toArray))/\failedOf st'=none/\p.toList=dQ uss/\s'={s with heap:=((s.heap.update a (iu λ_=>(#[]:Array Value))).push (seqObj "tuple" vs.toArray 0)).push (seqObj "list" #[] 0)})
  (G:=λp s'=>p.toList=dQ uss/\s'={s with heap:=((s.heap.update a (iu λ_=>(#[]:Array Value))).push (seqObj "tuple" vs.toArray 0)).push (seqObj "list" #[] 0)})
  rfl h2 h64 (λp' st' s' a1 a2 a3 a4=>⟨p',a1,a2,a3,a4⟩) ?_) ?_ λ_ _ e=>e)
 .rw[hl]
  refine Yj (lt:=λi j=>HT.lexLt (uss.getD i []) (uss.getD j [])) (n:=uss.length) (λi j C hi hj hC=>?_) _ _ ok ⟨rfl,rfl⟩;exact aaa (tu2 i (by omega)).1 (tu2 j (by omega)).1 hC
 rintro⟨⟨⟩,st'⟩ s' ⟨p,hp,har,hf,hpl,rfl⟩
 dsimp only;have hout:=kat_snds rfl har;have hsz:(mf (p.toList.map λi=>vs.getD i cj)).size=vs.length:=by rw[ax,ak,kx,hp]
 rw[hout];refine ae (seqEpoch_at na rfl ?_);refine ae (listUpdate_at na rfl ?_ (ft _) (dy (vd hsz) (by rw[jx];omega)));rw[hf];simp only[bne_self_eq_false,j1,if_false];refine ai ?_;rw[hpl];exact h
theorem Nv{l:Addr}{o:Obj}{T:String}{vs:AE}{uss:AC}{n:Nat}{Q:Value->aa->Prop}(hT:T="list"\/T="tuple")(ho:s.heap.get? l=some o)(hc:o.cls=.type T)(hd:o.data=.seq vs.toArray n)(hl:vs.length=uss.length)(h2:2<=vs.length)(h64:vs.length<64)(ok:iG uss.length (je uss.length)=true)
  (tu:∀i,i<vs.length->qM s.heap (vs.getD i cj) (uss.getD i [])/\uss.getD i []≠[])
  (h:∀(h1 h':Heap)(c:Nat),(∀b o',s.heap.get? b=some o'->h1.get? b=some o')->(∀b o',h1.get? b=some o'->h'.get? b=some o')->h'.get? h1.objs.size=some (seqObj "list" (mf ((dQ uss).map λi=>vs.getD i cj)) c)->Q (.ref h1.objs.size) {s with heap:=h'}):
  wpAny (model prog w) A (call (.builtin "sorted") [.ref l]) Q E s:=by
 refine PySem.Calls.call_function_entry kind_sorted plain_sorted entry_sorted (args_sorted1 _) ?_;unfold Builtin.«sorted»;refine ae (m:=checkCount "sorted" 1 1 _) (ai ?_);refine ae (wpAny_collect_seq l hT ho hc hd (λh1 k1=>?_) (by rw[ax,jx];omega));refine ae (wpAny_newList ?_ (by rw[jx];simp;omega));have hoL:(h1.push (seqObj "list" vs.toArray 0)).get? h1.objs.size=some (seqObj "list" vs.toArray 0):=cy _ rfl;show wpAny _ _ _ _ _ {s with heap:=h1.push (seqObj "list" vs.toArray 0)};refine ae (kl (ji slot_list_sort ⟨_,hoL,rfl⟩ entry_list_sort ?body (args_list_sort _)))
 case body=>
  refine Bu (s:={s with heap:=h1.push (seqObj "list" vs.toArray 0)}) hoL hl h2 h64 ok (λi hi=>?_) ⟨_,rfl,ai ⟨_,rfl,?_⟩⟩
  .obtain⟨⟨b,o,its,m,e,hb,hc,hd,r⟩,ne⟩:=tu i hi
   exact⟨⟨b,o,its,m,e,av _ (k1 b o hb),hc,hd,r⟩,ne⟩
  .obtain⟨e1,ho1⟩:∃e1,((h1.push (seqObj "list" vs.toArray 0)).update h1.objs.size (iu λ_=>(#[]:Array Value))).get? h1.objs.size=some (seqObj "list" #[] e1):=⟨_,xi hoL λ_=>#[]⟩
   have ho2:=av (seqObj "list" #[] 0) (av (seqObj "tuple" vs.toArray 0) ho1);obtain⟨e2,ho3⟩:∃e2,(sortedHeap (h1.push (seqObj "list" vs.toArray 0)) h1.objs.size vs (mf ((dQ uss).map λi=>vs.getD i cj))).get? h1.objs.size=some (seqObj "list" (mf ((dQ uss).map λi=>vs.getD i cj)) e2):=⟨_,xi ho2 λ_=>mf ((dQ uss).map λi=>vs.getD i cj)⟩;refine h h1 _ e2 k1 (λb o' hb1=>?_) ho3;have hne:b≠h1.objs.size:=cw (br hb1);exact(xj _ _ _ _ hne).trans (av _ (av _ ((xj _ _ _ _ hne).trans (av _ hb1))))
end
def Cd(K:af)(H:Hp)(ts:List V)(uss:AC):Prop:=ts.length=uss.length/\∀i t,ts[i]?=some t->∃a,t=.ref a/\dD K H a ((uss.getD i []).map V.int)/\uss.getD i []≠[]
theorem Yu{X:Cx}:jI X (.builtin "sorted") (λxs H Q=>∃(a:Addr)(ts:List V)(uss:AC),xs=[.ref a]/\(bT X.K H a ts\/dD X.K H a ts)/\Cd X.K H ts uss/\2<=ts.length/\ts.length<64/\iG uss.length (je uss.length)=true/\(dQ uss).length<=64/\
  ∀l,H l=none->Q (.ref l) (aV H l (.lst ((dQ uss).map λi=>ts.getD i .non)))):=by
 intro AM s σ H xs us Q I r h;obtain⟨a,ts,uss,rfl,hq,⟨hl,ht⟩,h2,h64,ok,hpl,q⟩:=h;obtain⟨u,rfl,ru⟩:=kK r;cases ru;have go:∀(its:AE)(T:String)(o:Obj)(n:Nat),aZ ts its->(T="list"\/T="tuple")->s.heap.get? a=some o->o.cls=.type T->o.data=.seq its.toArray n->ts.length<=sizeLine->
   wpAny (model X.prog X.w) X.A (call (.builtin "sorted") [.ref a]) (EP X AM σ Q) X.xe s:=λits T o n rv hT ho hc hd hz=>by
  have hlen:=rv.length;refine Nv (uss:=uss) hT ho hc hd (by omega) (by omega) (by omega) ok (λi hi=>?_) λh1 h' c k1 k2 e=>?_
  .have hi':i<ts.length:=by omega
   obtain⟨b,e1,sq,ne⟩:=ht i ts[i] (au hi');obtain⟨v,e2,rel⟩:=rv.get (au hi');rw[e1]at rel;cases rel;obtain⟨jts,rj,⟨o2,ho2,hc2,m,hd2⟩,_⟩:=I.tuple sq;refine⟨⟨b,o2,jts,m,?_,ho2,hc2,hd2,rj⟩,ne⟩;rw[ck,e2];rfl
  .have I1:aF X AM σ H {s with heap:=h1,toks:=s.toks}:=I.kept k1
   have hz2:((dQ uss).map λi=>ts.getD i .non).length<=sizeLine:=by
    rw[ak,jx];omega
   have rel:∀ps:List Nat,aZ (ps.map λi=>ts.getD i .non) (ps.map λi=>its.getD i cj):=λps=>by
    induction ps with
    |nil=>exact .nil
    |cons i ps ih=>
     refine .cons ?_ ih
     by_cases hi:i<ts.length
     .obtain⟨v,e2,rr⟩:=rv.get (au hi)
      have q1:ts.getD i .non=ts[i]:=by simp[ck,hi]
      have q2:its.getD i cj=v:=by simp[ck,e2]
      show bK (ts.getD i .non) (its.getD i cj);rw[q1,q2];exact rr
     .have q1:ts.getD i .non=.non:=by simp[ck,hi]
      have q2:its.getD i cj=cj:=by simp[ck,show its.length<=i by omega]
      show bK (ts.getD i .non) (its.getD i cj);rw[q1,q2];rfl
   refine⟨.ref h1.objs.size,_,I1.laid (t':=s.toks) (o:=.lst ((dQ uss).map λi=>ts.getD i .non)) k2 (aj _) ?_,rfl,q _ (I1.hok.fresh (aj _))⟩;exact⟨hz2,_,c,rel _,e⟩
 rcases hq with hq |hq
 .obtain⟨its,rv,pl,hz⟩:=I.list hq
  obtain⟨o,ho,hc,n,hd⟩:=pl.isList;exact go its "list" o n rv (.inl rfl) ho hc hd hz
 .obtain⟨its,rv,⟨o,ho,hc,n,hd⟩,hz⟩:=I.tuple hq
  exact go its "tuple" o n rv (.inr rfl) ho hc hd hz
end L2
namespace L2.Pp
open PySem PySem.Spec PyProof.Rows Bn
open PySem.W (kas_sort)
section
variable{K:af}
def mM:AI->Option AC
 |[]=>some []
 |.tup us::r=>match iF us,mM r with
  |some is,some uss=>some (is::uss)
  |_,_=>none
 |_::_=>none
theorem Wk:∀{xs:AI}{uss:AC},mM xs=some uss->xs.length=uss.length
 |[],uss,e=>by cases e;rfl
 |.tup us::r,uss,e=>by
  unfold mM at e;split at e
  .rename_i is uss' h1 h2
   cases e;rw[bo,bo,Wk h2]
  .cases e
 |.non::_,_,e=>by cases e
 |.bl _::_,_,e=>by cases e
 |.int _::_,_,e=>by cases e
 |.str _::_,_,e=>by cases e
 |.lst _::_,_,e=>by cases e
theorem Dl{c:Addr->Prop}{H:Hp}:∀{xs:AI}{uss:AC}{vs:List V},mM xs=some uss->aQ K c H xs vs->∀i t,vs[i]?=some t->∃a,t=.ref a/\dD K H a ((uss.getD i []).map V.int)
 |[],uss,vs,e,r,i,t,h=>by
  unfold aQ at r;subst r;simp at h
 |.tup us::r,uss,vs,e,rr,i,t,h=>by
  unfold mM at e;split at e
  .rename_i is uss' h1 h2
   cases e;unfold aQ at rr;obtain⟨v,w,rfl,r1,r2⟩:=rr;cases i with
   |zero=>
    cases h;unfold aP at r1;obtain⟨a,ws,rfl,sq,_,r3⟩:=r1;rw[rN h1 r3]at sq;exact⟨a,rfl,sq⟩
   |succ i=>
    have:=Dl h2 r2 i t (by simpa using h);simpa using this
  .cases e
 |.non::_,_,_,e,_,_,_,_=>by cases e
 |.bl _::_,_,_,e,_,_,_,_=>by cases e
 |.int _::_,_,_,e,_,_,_,_=>by cases e
 |.str _::_,_,_,e,_,_,_,_=>by cases e
 |.lst _::_,_,_,e,_,_,_,_=>by cases e
def Wc(uss:AC):Prop:=2<=uss.length/\uss.length<64/\iG uss.length (je uss.length)=true/\(dQ uss).length<=64/\∀us∈uss,us≠[]
def Oc(xs:AI)(uss:AC):AI:=(dQ uss).map λi=>xs.getD i .non
open Classical in
noncomputable def qJ(xs:AI):AJ:=match mM xs with
 |some uss=>if Wc uss then some (.lst (Oc xs uss))else none
 |none=>none
noncomputable def sF:AI->AJ
 |[.lst xs]=>qJ xs
 |[.tup xs]=>qJ xs
 |_=>none
theorem Ti{c:Addr->Prop}{H:Hp}{xs:AI}{vs:List V}(r:aQ K c H xs vs):∀ps:List Nat,aQ K c H (ps.map λi=>xs.getD i .non) (ps.map λi=>vs.getD i .non)
 |[]=>.nil
 |i::ps=>by
  refine .cons ?_ (Ti r ps)
  by_cases hi:i<xs.length
  .obtain⟨v,e1,e2⟩:=r.get (au hi)
   have q1:xs.getD i .non=xs[i]:=by simp[ck,hi]
   have q2:vs.getD i .non=v:=by simp[ck,e1]
   show aP K c H (xs.getD i .non) (vs.getD i .non);rw[q1,q2];exact e2
  .have hl:=r.length
   have q1:xs.getD i .non=.non:=by simp[ck,hi]
   have q2:vs.getD i .non=.non:=by simp[ck,show vs.length<=i by omega]
   show aP K c H (xs.getD i .non) (vs.getD i .non);rw[q1,q2];unfold aP;rfl
theorem W7:kO K (λxs H Q=>∃(a:Addr)(ts:List V)(uss:AC),xs=[.ref a]/\(bT K H a ts\/dD K H a ts)/\Cd K H ts uss/\2<=ts.length/\ts.length<64/\iG uss.length (je uss.length)=true/\(dQ uss).length<=64/\
  ∀l,H l=none->Q (.ref l) (aV H l (.lst ((dQ uss).map λi=>ts.getD i .non)))) sF:=λ{p S H as c xs Q} s ra e k=>by
 have key:∀(zs:AI)(a:Addr)(vs:List V),qJ zs=some c->(bT K H a vs\/dD K H a vs)->aQ K p.c H zs vs->∃(a':Addr)(ts:List V)(uss:AC),[V.ref a]=[.ref a']/\(bT K H a' ts\/dD K H a' ts)/\Cd K H ts uss/\2<=ts.length/\ts.length<64/\iG uss.length (je uss.length)=true/\(dQ uss).length<=64/\
   ∀l,H l=none->Q (.ref l) (aV H l (.lst ((dQ uss).map λi=>ts.getD i .non))):=λzs a vs e sq r=>by
  unfold qJ at e;split at e
  .rename_i uss hu
   split at e
   .rename_i hc
    cases e;obtain⟨c1,c2,c3,c4,c5⟩:=hc;have l1:=Wk hu;have l2:=r.length;refine⟨a,vs,uss,rfl,sq,⟨by omega,λi t h=>?_⟩,by omega,by omega,c3,c4,λl hl=>?_⟩
    .obtain⟨b,e1,e2⟩:=Dl hu r i t h
     have hi:i<uss.length:=by
      have:=(ca.mp h).1;omega
     refine⟨b,e1,e2,?_⟩;rw[ck,au hi];exact c5 _ (fj hi)
    .refine k _ _ (gK hl) (nU s (Ti r _) ?_ hl)
     rw[ak,iP];omega
   .cases e
  .cases e
 unfold sF at e;split at e
 .rename_i zs
  cases ra with
  |cons h t=>
   cases t;obtain⟨a,vs,rfl,l,z,r⟩:=h.lst;exact key zs a vs e (.inl l) r
 .rename_i zs
  cases ra with
  |cons h t=>
   cases t;obtain⟨a,vs,rfl,l,z,r⟩:=h.tup;exact key zs a vs e (.inr l) r
 .cases e
end
end L2.Pp
namespace L2
section
open PySem.W (KasT kas_sort)
theorem Qg{α:Type}{lt lt':Nat->Nat->Bool}{n:Nat}(h:∀i j,i<n->j<n->lt i j=lt' i j):∀t:KasT α,iG n t=true->lY lt t=lY lt' t
 |.ret a,_=>rfl
 |.ask i j k,ok=>by
  unfold iG at ok;simp only[ja,decide_eq_true_eq]at ok;obtain⟨⟨⟨hi,hj⟩,h1⟩,h2⟩:=ok;show lY lt (k (lt i j))=lY lt' (k (lt' i j));rw[<-h i j hi hj];refine Qg h (k (lt i j)) ?_;cases lt i j
  .exact h2
  .exact h1
theorem kX:∀u:AA,HT.lexLt u u=false
 |[]=>rfl
 |x::u=>by rw[HT.lexLt_cons,if_pos rfl,kX u]
theorem Fb:∀u v:AA,u=v\/HT.lexLt u v=true\/HT.lexLt v u=true
 |[],[]=>.inl rfl
 |[],_::_=>.inr (.inl rfl)
 |_::_,[]=>.inr (.inr rfl)
 |x::u,y::v=>by
  rw[HT.lexLt_cons,HT.lexLt_cons]
  by_cases h:x=y
  .subst h
   rw[if_pos rfl,if_pos rfl];rcases Fb u v with h |h |h
   .exact .inl (by rw[h])
   .exact .inr (.inl h)
   .exact .inr (.inr h)
  .rw[if_neg h,if_neg (λz=>h z.symm)]
   by_cases q:x<y
   .exact .inr (.inl (by simpa using q))
   .exact .inr (.inr (by simp;omega))
theorem uO:∀u v w:AA,HT.lexLt u v=true->HT.lexLt v w=true->HT.lexLt u w=true
 |[],[],_,h,_=>by cases h
 |[],_::_,[],_,h=>by cases h
 |[],_::_,_::_,_,_=>rfl
 |_::_,[],_,h,_=>by cases h
 |_::_,_::_,[],_,h=>by cases h
 |x::u,y::v,z::w,h1,h2=>by
  rw[HT.lexLt_cons]at h1 h2⊢
  by_cases e1:x=y
  .subst e1
   rw[if_pos rfl]at h1
   by_cases e2:x=z
   .rw[if_pos e2]at h2⊢
    exact uO u v w h1 h2
   .rw[if_neg e2]at h2⊢
    exact h2
  .rw[if_neg e1]at h1
   have h1:x<y:=by simpa using h1
   by_cases e2:y=z
   .subst e2
    rw[if_neg e1];simpa using h1
   .rw[if_neg e2]at h2
    have h2:y<z:=by simpa using h2
    rw[if_neg (by omega)];simp;omega
theorem By{u v:AA}(h:HT.lexLt u v=true):HT.lexLt v u=false:=by
 cases q:HT.lexLt v u with
 |false=>rfl
 |true=>
  have:=uO u v u h q;rw[kX]at this;cases this
theorem E4{u v:AA}(h:HT.lexLt u v=false)(g:HT.lexLt v u=false):u=v:=by
 rcases Fb u v with e |e |e
 .exact e
 .rw[h]at e;cases e
 .rw[g]at e;cases e
def r3(a b c d e f:Bool):Bool:=(!(a&&b)||c)&&(!(d&&e)||f)
def yB(b:Nat->Nat->Bool)(n:Nat):Bool:=(ce n).all λi=>!(b i i)&&(ce n).all λj=>!(b i j&&b j i)&&(ce n).all λk=>(!(b i j&&b j k)||b i k)&&(b i j||b j k|| !(b i k))
def wC(b:Nat->Nat->Bool)(n:Nat)(ps:List (List Nat)):Bool:=let p:=(lY b (je n)).toList
 ps.contains p&&(ce n).all λi=>(ce n).all λj=>!(decide (i<j))|| !(b (p.getD j 0) (p.getD i 0))
def Sb:List (List Nat):=[[0,1,2],[0,2,1],[1,0,2],[1,2,0],[2,0,1],[2,1,0]]
def Zb:List (List Nat):=[[0,1,2,3],[0,1,3,2],[0,2,1,3],[0,2,3,1],[0,3,1,2],[0,3,2,1],[1,0,2,3],[1,0,3,2],[1,2,0,3],[1,2,3,0],[1,3,0,2],[1,3,2,0],
 [2,0,1,3],[2,0,3,1],[2,1,0,3],[2,1,3,0],[2,3,0,1],[2,3,1,0],[3,0,1,2],[3,0,2,1],[3,1,0,2],[3,1,2,0],[3,2,0,1],[3,2,1,0]]
def Me(b01 b02 b10 b12 b20 b21:Bool)(i j:Nat):Bool:=match i,j with
 |0,1=>b01 |0,2=>b02 |1,0=>b10 |1,2=>b12 |2,0=>b20 |2,1=>b21 |_,_=>false
def Re(b01 b02 b03 b10 b12 b13 b20 b21 b23 b30 b31 b32:Bool)(i j:Nat):Bool:=match i,j with
 |0,1=>b01 |0,2=>b02 |0,3=>b03 |1,0=>b10 |1,2=>b12 |1,3=>b13 |2,0=>b20 |2,1=>b21 |2,3=>b23 |3,0=>b30 |3,1=>b31 |3,2=>b32 |_,_=>false
theorem Qq:iG 3 (je 3)=true:=by decide+kernel
theorem As:iG 4 (je 4)=true:=by decide+kernel
theorem acg:∀b01 b02 b10 b12 b20 b21:Bool,yB (Me b01 b02 b10 b12 b20 b21) 3=true->wC (Me b01 b02 b10 b12 b20 b21) 3 Sb=true:=by decide+kernel
theorem acj:∀b01 b02 b03 b10 b12 b13 b20 b21 b23 b30 b31 b32:Bool,yB (Re b01 b02 b03 b10 b12 b13 b20 b21 b23 b30 b31 b32) 4=true->wC (Re b01 b02 b03 b10 b12 b13 b20 b21 b23 b30 b31 b32) 4 Zb=true:=by decide+kernel
theorem Zp{b:Nat->Nat->Bool}{n:Nat}{uss:AC}(h:∀i j,i<n->j<n->b i j=HT.lexLt (uss.getD i []) (uss.getD j [])):yB b n=true:=by
 unfold yB;simp only[lm,tz,ja,d6,Bool.or_eq_true,Bool.and_eq_false_imp];intro i hi;refine⟨by rw[h i i hi hi,kX],λj hj=>⟨λq=>?_,λk hk=>⟨?_,?_⟩⟩⟩
 .rw[h i j hi hj]at q
  rw[h j i hj hi,By q]
 .rw[h i j hi hj,h j k hj hk,h i k hi hk]
  cases q1:HT.lexLt (uss.getD i []) (uss.getD j [])with
  |false=>exact .inl λz=>by cases z
  |true=>
   cases q2:HT.lexLt (uss.getD j []) (uss.getD k [])with
   |false=>exact .inl λ_=>rfl
   |true=>exact .inr (uO _ _ _ q1 q2)
 .rw[h i j hi hj,h j k hj hk,h i k hi hk]
  cases q1:HT.lexLt (uss.getD i []) (uss.getD j [])with
  |true=>exact .inl (.inl rfl)
  |false=>
   cases q2:HT.lexLt (uss.getD j []) (uss.getD k [])with
   |true=>exact .inl (.inr rfl)
   |false=>
    refine .inr ?_;cases q3:HT.lexLt (uss.getD i []) (uss.getD k [])with
    |false=>rfl
    |true=>
     rcases Fb (uss.getD i []) (uss.getD j [])with e |e |e
     .rw[e]at q3;rw[q2]at q3;cases q3
     .rw[q1]at e;cases e
     .have:=uO _ _ _ e q3
      rw[q2]at this;cases this
end
section
open PySem.W (KasT kas_sort)
def eV(uss:AC):AC:=(dQ uss).map λi=>uss.getD i []
def pE(u v:AA):Prop:=HT.lexLt v u=false
theorem Uh{uss:AC}{n:Nat}{ps:List (List Nat)}(hl:uss.length=n)(ok:iG n (je n)=true){b:Nat->Nat->Bool}(hb:∀i j,i<n->j<n->b i j=HT.lexLt (uss.getD i []) (uss.getD j []))(good:wC b n ps=true)(hp:∀p∈ps,p.Perm (ce n)):
  dQ uss∈ps/\(dQ uss).Perm (ce n)/\(eV uss).Pairwise pE:=by
 have e:dQ uss=(lY b (je n)).toList:=by
  unfold dQ;rw[hl];exact congrArg ub (Qg (n:=n) (λi j hi hj=>(hb i j hi hj).symm) _ ok)
 unfold wC at good;simp only[ja,lm,tz]at good;rw[<-e]at good;obtain⟨g1,g2⟩:=good;have m:dQ uss∈ps:=by simpa using g1
 have pm:=hp _ m;refine⟨m,pm,?_⟩;have ln:(dQ uss).length=n:=by rw[pm.length_eq,ww]
 unfold eV;rw[List.pairwise_iff_getElem];intro i j hi hj hij;rw[ak]at hi hj;have q:=g2 i (by omega) j (by omega);have pi:(dQ uss).getD i 0=(dQ uss)[i]:=by simp[ck,hi]
 have pj:(dQ uss).getD j 0=(dQ uss)[j]:=by simp[ck,hj]
 rw[pi,pj]at q;have li:(dQ uss)[i]<n:=by
  have:=pm.subset (fj hi);simpa using this
 have lj:(dQ uss)[j]<n:=by
  have:=pm.subset (fj hj);simpa using this
 rw[hb _ _ lj li]at q;simp only[List.getElem_map];unfold pE;have d:decide (i<j)=true:=by simpa using hij
 rw[d]at q;simpa using q
theorem A2:∀p∈Sb,p.Perm (ce 3):=by decide
theorem C0:∀p∈Zb,p.Perm (ce 4):=by decide
theorem Al{uss:AC}(h:uss.length=3):dQ uss∈Sb/\(dQ uss).Perm (ce 3)/\(eV uss).Pairwise pE:=by
 match uss,h with
 |[u0,u1,u2],_=>
  have hb:∀i j,i<3->j<3->Me (HT.lexLt u0 u1) (HT.lexLt u0 u2) (HT.lexLt u1 u0) (HT.lexLt u1 u2) (HT.lexLt u2 u0) (HT.lexLt u2 u1) i j=HT.lexLt (([u0,u1,u2]:AC).getD i []) (([u0,u1,u2]:AC).getD j []):=λi j hi hj=>by
   match i,j,hi,hj with
   |0,0,_,_=>exact(kX u0).symm
   |0,1,_,_=>rfl
   |0,2,_,_=>rfl
   |1,0,_,_=>rfl
   |1,1,_,_=>exact(kX u1).symm
   |1,2,_,_=>rfl
   |2,0,_,_=>rfl
   |2,1,_,_=>rfl
   |2,2,_,_=>exact(kX u2).symm
  exact Uh rfl Qq hb (acg _ _ _ _ _ _ (Zp hb)) A2
theorem Xl{uss:AC}(h:uss.length=4):dQ uss∈Zb/\(dQ uss).Perm (ce 4)/\(eV uss).Pairwise pE:=by
 match uss,h with
 |[u0,u1,u2,u3],_=>
  have hb:∀i j,i<4->j<4->Re (HT.lexLt u0 u1) (HT.lexLt u0 u2) (HT.lexLt u0 u3) (HT.lexLt u1 u0) (HT.lexLt u1 u2) (HT.lexLt u1 u3) (HT.lexLt u2 u0) (HT.lexLt u2 u1) (HT.lexLt u2 u3) (HT.lexLt u3 u0) (HT.lexLt u3 u1) (HT.lexLt u3 u2) i j=HT.lexLt (([u0,u1,u2,u3]:AC).getD i []) (([u0,u1,u2,u3]:AC).getD j []):=λi j hi hj=>by
   match i,j,hi,hj with
   |0,0,_,_=>exact(kX u0).symm
   |0,1,_,_=>rfl
   |0,2,_,_=>rfl
   |0,3,_,_=>rfl
   |1,0,_,_=>rfl
   |1,1,_,_=>exact(kX u1).symm
   |1,2,_,_=>rfl
   |1,3,_,_=>rfl
   |2,0,_,_=>rfl
   |2,1,_,_=>rfl
   |2,2,_,_=>exact(kX u2).symm
   |2,3,_,_=>rfl
   |3,0,_,_=>rfl
   |3,1,_,_=>rfl
   |3,2,_,_=>rfl
   |3,3,_,_=>exact(kX u3).symm
  exact Uh rfl As hb (acj _ _ _ _ _ _ _ _ _ _ _ _ (Zp hb)) C0
theorem pH{uss:AC}(h:uss.length=3\/uss.length=4):(eV uss).Perm uss/\(eV uss).Pairwise pE:=by
 have key:∀n,uss.length=n->(dQ uss).Perm (ce n)->(eV uss).Perm uss:=λn hn hp=>by
  have e:(ce n).map (λi=>uss.getD i [])=uss:=by
   refine wo (by simp[hn]) λi h1 h2=>?_;have hi:i<uss.length:=h2;simp[ck,hi]
  have:=hp.map (λi=>uss.getD i []);rw[e]at this;exact this
 rcases h with h |h
 .obtain⟨_,hp,hs⟩:=Al h
  exact⟨key 3 h hp,hs⟩
 .obtain⟨_,hp,hs⟩:=Xl h
  exact⟨key 4 h hp,hs⟩
theorem Wt{A B:AC}(hp:A.Perm B)(ha:A.Pairwise pE)(hb:B.Pairwise pE):A=B:=
 hp.eq_of_pairwise (λu v _ _ h g=>E4 g h) ha hb
theorem Df{A B:AC}(hp:A.Perm B)(h:B.length=3\/B.length=4):eV A=eV B:=by
 obtain⟨p1,s1⟩:=pH (uss:=A) (by rw[hp.length_eq];exact h);obtain⟨p2,s2⟩:=pH h;exact Wt (p1.trans (hp.trans p2.symm)) s1 s2
end
open PySem PySem.Spec PyProof.Rows Bn
theorem R0{X:Cx}{sc1 sc:Scope}{own1 own:List Str}{cap1 cap:List (Nat×Str)}{C:Addr}{AN:aa}{AO:Hp}{ex:List Addr}(so:Scope)(hso:X.env.scope=so)(hk:so.kind=.function)(kind:sc.kind=.function)(names:∀y∈sc.names,y.2=.local->sc.names.lookup y.1=some .local)
  (nocell:∀y∈sc.names,y.2≠.cell)(free:∀y∈sc.names,y.2=.free->sc1.names.lookup y.1=some .free/\so.names.lookup y.1=some .cell)(at':∀p∈cap,(bW own1 cap1)[p.1]?=some p.2)(hcap:∀p∈cap,sc.names.lookup p.2=some .free):
  gO (eD X sc1 (bW own1 cap1) C AN AO ex) sc own cap:=
 ⟨kind,names,nocell,λy hy e=>by
  obtain⟨f1,f2⟩:=free y hy e;exact rF (env:=X.env) (by rw[hso];exact hk) f1 (by show X.env.scope.names.lookup y.1=_;rw[hso];exact f2),at',hcap⟩
section
variable{M:kw}{A:aq}{E:Value->aa->Prop}{s:aa}
theorem Du{scope:Scope}{globals:Addr}{closure:List (Str×Addr)}{qual:Str}{outer:az}{Q:az->aa->Prop}
  (hQ:Q (newEnv scope s.heap.objs.size globals (cellsFrom (s.heap.objs.size+1) scope.names closure) qual none .none (some outer) builtinsNs) {s with heap:=pushCells (s.heap.push {cls:=.type "dict",data:=.dict #[]}) scope.names}):
  wpAny M A (newFunctionEnv scope globals closure [] qual none .none (some outer)) Q E s:=by
 simp only[newFunctionEnv,Option.isSome_some,if_true];refine ae (wpAny_alloc ?_);refine ae (wpAny_layCells _ (λname kind cells=>by cases hkc:kind==fh<;>simp[hkc]) _ _ _ _ ?_);rw[show({s with heap:=s.heap.push {cls:=.type "dict",data:=.dict #[]}}:aa).heap.objs.size=s.heap.objs.size+1 from jd ..];refine ae ?_;rw[wg];exact ai (ai hQ)
end
theorem Ib:∀(names:List (Str×fm))(n:Nat)(acc:List (Str×Addr)),(∀x y c,acc.lookup x=some c->acc.lookup y=some c->x=y)->(∀x c,acc.lookup x=some c->c<n)->
  ∀x y c,(cellsFrom n names acc).lookup x=some c->(cellsFrom n names acc).lookup y=some c->x=y
 |[],n,acc,hi,_,x,y,c,e1,e2=>hi x y c e1 e2
 |(name,kind)::r,n,acc,hi,hb,x,y,c,e1,e2=>by
  unfold cellsFrom at e1 e2
  by_cases k:(kind==fh)=true
  .rw[if_pos k]at e1 e2
   refine Ib r (n+1) _ (λx y c e1 e2=>?_) (λx c e=>?_) x y c e1 e2
   .rw[dk]at e1 e2
    cases wx:x==name with
    |true=>
     cases wy:y==name with
     |true=>rw[beq_iff_eq.mp wx,beq_iff_eq.mp wy]
     |false=>
      rw[wx]at e1;rw[wy]at e2;cases e1;exact absurd (hb y _ e2) (jc _)
    |false=>
     cases wy:y==name with
     |true=>
      rw[wx]at e1;rw[wy]at e2;cases e2;exact absurd (hb x _ e1) (jc _)
     |false=>
      rw[wx]at e1;rw[wy]at e2;exact hi x y c e1 e2
   .rw[dk]at e
    cases wx:x==name with
    |true=>
     rw[wx]at e;cases e;exact wz _
    |false=>
     rw[wx]at e;exact xb (hb x c e)
  .rw[if_neg k]at e1 e2
   exact Ib r n acc hi hb x y c e1 e2
theorem sO{n0:Nat}:∀(names:List (Str×fm))(n:Nat)(acc:List (Str×Addr))(x:Str),((∃c,acc.lookup x=some c/\n0<=c)\/(x,fh)∈names)->n0<=n->∃c,(cellsFrom n names acc).lookup x=some c/\n0<=c
 |[],n,acc,x,h,hn=>by
  rcases h with h |h
  .exact h
  .cases h
 |(name,kind)::r,n,acc,x,h,hn=>by
  unfold cellsFrom
  by_cases k:(kind==fh)=true
  .rw[if_pos k]
   refine sO r (n+1) _ x ?_ (xk hn);cases w:x==name with
   |true=>exact .inl ⟨n,by rw[dk,w],hn⟩
   |false=>
    rcases h with⟨c,h,z⟩|h
    .exact .inl ⟨c,by rw[dk,w];exact h,z⟩
    .rcases bc.mp h with z |z
     .cases z
      simp at w
     .exact .inr z
  .rw[if_neg k]
   refine sO r n acc x ?_ hn;rcases h with h |h
   .exact .inl h
   .rcases bc.mp h with z |z
    .cases z
     simp at k
    .exact .inr z
theorem Ja{n0:Nat}:∀(names:List (Str×fm))(n:Nat)(acc:List (Str×Addr))(x:Str)(c:Addr),n0<=n->(cellsFrom n names acc).lookup x=some c->n0<=c\/acc.lookup x=some c
 |[],n,acc,x,c,hn,e=>.inr e
 |(name,kind)::r,n,acc,x,c,hn,e=>by
  unfold cellsFrom at e
  by_cases k:(kind==fh)=true
  .rw[if_pos k]at e
   rcases Ja r (n+1) _ x c (xk hn) e with z |z
   .exact .inl z
   .rw[dk]at z
    cases w:x==name with
    |true=>
     rw[w]at z;cases z;exact .inl hn
    |false=>
     rw[w]at z;exact .inr z
  .rw[if_neg k]at e
   exact Ja r n acc x c hn e
theorem vQ:∀(names:List (Str×fm))(n:Nat)(acc:List (Str×Addr))(x:Str),(x,fh)∉names->(cellsFrom n names acc).lookup x=acc.lookup x
 |[],n,acc,x,h=>rfl
 |(name,kind)::r,n,acc,x,h=>by
  unfold cellsFrom;have hr:(x,fh)∉r:=λz=>h (bh _ z)
  by_cases k:(kind==fh)=true
  .rw[if_pos k,vQ r _ _ x hr,dk]
   cases w:x==name with
   |true=>
    refine absurd ?_ h;have e1:x=name:=by simpa using w
    have e2:kind=.cell:=by simpa using k
    rw[e1,e2];exact bi
   |false=>rfl
  .rw[if_neg k,vQ r _ _ x hr]
theorem Sa:∀(names:List (Str×fm))(h:Heap)(acc:List (Str×Addr)),(∀x c,acc.lookup x=some c->∃v,h.IsCell c v)->∀x c,(cellsFrom h.objs.size names acc).lookup x=some c->∃v,(pushCells h names).IsCell c v
 |[],h,acc,hc,x,c,e=>hc x c e
 |(name,kind)::r,h,acc,hc,x,c,e=>by
  unfold cellsFrom at e;unfold pushCells
  by_cases k:(kind==fh)=true
  .rw[if_pos k]at e⊢
   rw[<-jd h {cls:=.type "cell",data:=.cell none}]at e;refine Sa r _ _ (λy c e=>?_) x c e;rw[dk]at e;cases w:y==name with
   |true=>
    rw[w]at e;cases e;exact⟨none,_,cy _ rfl,rfl⟩
   |false=>
    rw[w]at e;obtain⟨v,z⟩:=hc y c e;exact⟨v,z.keeps λb o e=>av _ e⟩
  .rw[if_neg k]at e⊢
   exact Sa r h acc hc x c e
theorem Sg{env:az}:∀{names:List (Str×fm)}{x:Str},
  (let l:=(names.map λ(n,k)=>if(k==fu&&env.scope.kind== .function&&env.kindOf n==some .cell)then(n,fh)else(n,k)).lookup x;l=some .cell\/l=some .free)->(x,fu)∈names\/(x,fh)∈names
 |[],x,h=>by
  rcases h with h |h<;>cases h
 |(n,k)::r,x,h=>by
  dsimp only at h;rw[ay]at h;have ih:=@Sg env r x
  by_cases c:(k==fu&&env.scope.kind== .function&&env.kindOf n==some .cell)=true
  .have kf:k=.free:=by
    simp only[ja,beq_iff_eq]at c;exact c.1.1
   dsimp only at h;rw[if_pos c,dk]at h;cases w:x==n with
   |true=>
    have hx:x=n:=by simpa using w
    rw[hx,<-kf];exact .inl bi
   |false=>
    rw[w]at h;exact(ih h).imp (bh _) (bh _)
  .dsimp only at h
   rw[if_neg c,dk]at h;cases w:x==n with
   |true=>
    rw[w]at h;have hx:x=n:=by simpa using w
    rcases h with h |h
    .have kf:k=.cell:=cg h
     rw[hx,<-kf];exact .inr bi
    .have kf:k=.free:=cg h
     rw[hx,<-kf];exact .inl bi
   |false=>
    rw[w]at h;exact(ih h).imp (bh _) (bh _)
theorem Hh{env:az}:∀{names:List (Str×fm)}{x:Str},names.lookup x=some .cell->
  (names.map λ(n,k)=>if(k==fu&&env.scope.kind== .function&&env.kindOf n==some .cell)then(n,fh)else(n,k)).lookup x=some .cell
 |[],x,h=>by cases h
 |(n,k)::r,x,h=>by
  rw[ay];dsimp only;rw[dk]at h;cases w:x==n with
  |true=>
   rw[w]at h;have kf:k=.cell:=cg h;subst kf;rw[if_neg (by rw[show(fh==fu)=false from rfl];simp),dk,w]
  |false=>
   rw[w]at h;have ih:=@Hh env r x h
   by_cases c:(k==fu&&env.scope.kind== .function&&env.kindOf n==some .cell)=true
   .rw[if_pos c,dk,w]
    exact ih
   .rw[if_neg c,dk,w]
    exact ih
def iE(X:Cx)(sc:Scope)(N:List Str)(C:Addr)(AN:aa)(AO:Hp)(ex:List Addr):Cx where
 prog:=X.prog
 w:=X.w
 K:=X.K
 mg:=X.mg
 base:=X.base
 A:=X.A
 N:=N
 AN:=AN
 AO:=AO
 env:=compEnvC sc (cellsFrom (C+1) sc.names (fX X.env sc.names [])) C X.env
 outer:=X.stack
 stack:=X.stack
 ex:=ex
 fn:=λx=>sc.names.lookup x==some .cell
 calm:=X.calm
 pn:=[]
 xe:=λ_ _=>False
structure mP(X:Cx)(sc:Scope)(own:List Str)(cap:List (Nat×Str)):Prop where
 kind:sc.kind=.function
 names:∀y∈sc.names,y.2=.local->sc.names.lookup y.1=some .local
 cells:∀y∈sc.names,y.2=.cell->sc.names.lookup y.1=some .cell
 free:∀y∈sc.names,y.2=.free->X.env.kindOf y.1=some .cell
 at':∀p∈cap,X.N[p.1]?=some p.2
 cap:∀p∈cap,sc.names.lookup p.2=some .free
section
variable{X:Cx}{sc:Scope}{own:List Str}{cap:List (Nat×Str)}{AM:List (Addr×Obj)}{σ:St}{H:Hp}{s:aa}{elt target iter:ag}{pos pos':ah}{wi:TI}{g:TG}{te:TE}{Q:VK}
theorem mP.has(k:mP X sc own cap)(ok:X.Ok):∀p∈sc.names,p.2=.free->∃c,X.env.cells.lookup p.1=some c:=λp hp e=>ok.has p.1 (.inl (k.free p hp e))
theorem aF.cmpC(k:mP X sc own cap){h4:Heap}{fp:List Addr}{t':Nat}(I:aF X AM σ H s)(hf:∀b∈fp,fG X AM H b)(hlt:∀b∈fp,b<s.heap.objs.size)
  (e4:h4=pushCells (s.heap.push {cls:=.type "dict",data:=.dict #[]}) sc.names):aF (iE X sc (bW own cap) s.heap.objs.size s H fp) [] (iH own cap σ) H {s with heap:=h4,toks:=t'}:=by
 have kp:∀b o,s.heap.get? b=some o->h4.get? b=some o:=λb o e=>by
  rw[e4];exact xl _ _ b o (av _ e)
 have hns:h4.Ns s.heap.objs.size (λ_=>none):=by
  rw[e4];exact(Heap.Ns.new ..).keeps λb o e=>xl _ _ b o e
 have hcl:∀y c,(fX X.env sc.names []).lookup y=some c->X.env.cells.lookup y=some c:=λy c e=>by
  rcases uL sc.names [] (k.has I.ok) y c e with z |z
  .cases z
  .exact z
 have clt:∀y c,X.env.cells.lookup y=some c->c<s.heap.objs.size:=λy c e=>by
  obtain⟨v,o,ho,_⟩:=I.cell y c e;exact br ho
 have hfr:∀y c,(cellsFrom (s.heap.objs.size+1) sc.names (fX X.env sc.names [])).lookup y=some c->s.heap.objs.size<c\/X.env.cells.lookup y=some c:=λy c e=>
  (Ja (n0:=s.heap.objs.size+1) sc.names _ _ y c (aj _) e).imp (λz=>z) (hcl y c)
 have nst:∀b∈fp,b∉dS X.stack:=λb hb z=>by
  rcases bc.mp (I.stkSub b z)with e |e
  .exact(hf b hb).2.1 e
  .exact(hf b hb).2.2.1 e
 refine⟨⟨I.ok.mod,k.kind,I.ok.glob,I.ok.blt,aj _,λx y c h1 h2=>?_,λx hx=>?_,λx c hfn e=>?_,I.ok.hd,I.ok.frames,.inl rfl,λb hb=>⟨cw (hlt b hb),λx c e=>?_⟩,
  I.bs,dy I.ok.bsz I.sz,λb o e hb=>?_,nst,I.stack,I.stkFree⟩,rfl,I.bare,Un.kept kp,⟨_,hns,λi x v h1 h2 h3=>?_⟩,λx c e=>?_,I.hok.fresh (aj _),λx c e=>?_,λp hp=>absurd (show p∈([]:List (Addr×Obj)) from hp) (by simp),I.hok.kept kp,?_⟩
 .exact Ib sc.names _ _ (λx y c h1 h2=>I.ok.inj x y c (hcl x c h1) (hcl y c h2)) (λx c e=>xb (clt x c (hcl x c e))) x y c h1 h2
 .rcases Sg hx with z |z
  .by_cases m:(x,fh)∈sc.names
   .obtain⟨c,e,_⟩:=sO (n0:=0) sc.names (s.heap.objs.size+1) (fX X.env sc.names []) x (.inr m) (ft _)
    exact⟨c,e⟩
   .obtain⟨c,e⟩:=pM (env:=X.env) sc.names [] x (.inr z)
    exact⟨c,(vQ sc.names _ _ x m).trans e⟩
  .obtain⟨c,e,_⟩:=sO (n0:=0) sc.names (s.heap.objs.size+1) (fX X.env sc.names []) x (.inr z) (ft _)
   exact⟨c,e⟩
 .have hm:(x,fh)∈sc.names:=jm (by simpa[iE]using hfn)
  obtain⟨c',e',hc'⟩:=sO (n0:=s.heap.objs.size) sc.names (s.heap.objs.size+1) (fX X.env sc.names []) x (.inr hm) (lb _);have:=e'.symm.trans e;cases this;exact hc'
 .rcases hfr x c e with z |z
  .exact ng (vo (hlt b hb) z)
  .exact(hf b hb).2.2.2.2.1 x c z
 .rcases(hf b hb).2.2.2.1 with z |z
  .exact I.ok.noex b o e z
  .exact absurd (db (br (I.ok.bs b o e).1) z) (jc _)
 .have hN:(bW own cap)[i]?=some x:=h1
  unfold bW at hN;unfold iH at h2
  by_cases hi:i<own.length
  .rw[eh (by simpa using hi),bj]at h2
   cases e:own[i]? with
   |none=>rw[e]at h2;cases h2
   |some z=>rw[e]at h2;cases h2
  .rw[di (by simpa using hi),bj,ak]at h2
   rw[di (by omega),bj]at hN;cases e:cap[i-own.length]? with
   |none=>rw[e]at h2;cases h2
   |some p=>
    rw[e]at h2 hN;have hp:p∈cap:=cv e;have hx:p.2=x:=cg hN;have hv:(σ[p.1]?).join=some v:=cg h2;have hv':σ[p.1]?=some (some v):=by
     cases e2:σ[p.1]? with
     |none=>rw[e2]at hv;cases hv
     |some z=>rw[e2]at hv;exact congrArg some hv
    have fr:=k.cap p hp;have nc:(p.2,fh)∉sc.names:=λz=>by
     have:=k.cells _ z rfl;rw[fr]at this;cases this
    have kc:X.env.kindOf p.2=some .cell:=k.free (p.2,.free) (jm fr) rfl;obtain⟨m0,_,hl⟩:=I.loc;obtain⟨u,ru,lk⟩:=hl p.1 p.2 v (k.at' p hp) hv' (.inr (.inl kc));refine⟨u,ru,?_⟩;rcases lk with⟨k1,_⟩|⟨_,c,ec,cell⟩
    .rw[kc]at k1
     cases k1
    .rw[<-hx]
     obtain⟨c',ec'⟩:=pM (env:=X.env) sc.names [] p.2 (.inr (jm fr));have:=(hcl _ _ ec').symm.trans ec;cases this;obtain⟨o,ho,hd⟩:=cell;exact .inr ⟨.inl (rF I.ok.kind fr kc),c,(vQ sc.names _ _ p.2 nc).trans ec',o,kp c o ho,hd⟩
 .show ∃v,h4.IsCell c v
  rw[e4];refine Sa sc.names _ (fX X.env sc.names []) (λy c e=>?_) x c (by rw[jd];exact e);obtain⟨v,z⟩:=I.cell y c (hcl y c e);exact⟨v,z.keeps λb o e=>av _ e⟩
 .rcases hfr x c e with z |z
  .exact I.hok.fresh (oo z)
  .exact I.freeC x c z
 .unfold iH
  show _=(bW own cap).length;unfold bW;rw[bf,bf,ak,ak,ak]
theorem aF.uncmpC{s3 s':aa}{H3 H':Hp}{N:List Str}{σ':St}{C:Addr}{fp:List Addr}{pl:List (Addr×Obj)}(I:aF X AM σ H s)(hf:∀b∈fp,fG X AM H b)(u:Un (dS X.stack) fp H H3 s.heap s3.heap)(os:s3.os=s.os)
  (J:aF (iE X sc N C s3 H3 fp) pl σ' H' s'):aF X AM σ H' s':=by
 have os':s'.os=s.os:=(show s'.os=s3.os from J.os).trans os;refine I.call' (ch:=fp) os' (u.trans J.base) J.hok J.bare λb hb=>?_;obtain⟨_,f1,_,f3,f4,f5⟩:=hf b hb;exact⟨f3,f1,f4,f5⟩
theorem Av{use:Option (Value->Sem Unit)}{Qf:Value->aa->Prop}(k:mP X sc own cap)(hi:PI X target iter wi)(hc:X.calm=true)
  (hg:∀C AN AO ex,PG (iE X sc (bW own cap) C AN AO ex) target g)(he:∀C AN AO ex,PE (iE X sc (bW own cap) C AN AO ex) elt te)(I:aF X AM σ H s)(h:sT own cap wi g te σ H Q)
  (fin:∀D C s' H' m,aF X AM σ H' s'->fG X AM H' C->s'.heap.Ns C m->Q (.ref D) H'->compPost (model X.prog X.w) X.A X.xe use Qf (.ref D) C (.ok .next) s')
  (hs:∀x,foldedSetIterable iter X.env x=pure x):
  wpAny (model X.prog X.w) X.A (comprehension (.ListComp elt [⟨target,iter,[],0⟩] sc pos) sc X.env pos' (newList []) false (eval iter X.env) use) Qf X.xe s:=by
 refine vt (use:=use) rfl hs (La (k.has I.ok)) k.kind k.names ?_;refine bC (hi AM s σ H _ I h) λv s1 h1=>bC h1 λitv s2 h2=>?_;obtain⟨it,fp,tn,J,H2,e,I2,T,st2,f2,hW⟩:=h2;subst e;refine ir (Du ?_);have hsz:(s2.heap.push {cls:=.type "list",data:=.seq ([]:AE).toArray}).objs.size=s2.heap.objs.size+1:=jd ..;have I3:aF X AM σ (aV H2 s2.heap.objs.size (.lst [])) {s2 with heap:=s2.heap.push {cls:=.type "list",data:=.seq ([]:AE).toArray},toks:=s2.toks}:=I2.lnew (ys:=[]) (its:=[]) .nil (ft _);have hD:H2 s2.heap.objs.size=none:=I2.fresh;have ltf:∀b∈fp,b<s2.heap.objs.size:=λb hb=>by
  obtain⟨o,ho,_⟩:=T.obj _ _ st2 b hb;exact br ho
 have f3:∀b∈fp,fG X AM (aV H2 s2.heap.objs.size (.lst [])) b:=λb hb=>⟨by rw[bO (cw (ltf b hb))];exact(f2 b hb).1,(f2 b hb).2⟩;have un:Un (dS X.stack) fp H2 (aV H2 s2.heap.objs.size (.lst [])) s2.heap (s2.heap.push {cls:=.type "list",data:=.seq ([]:AE).toArray}):=Un.laid (λb u q=>av _ q) (aj _) hD;have kp:∀b o,(s2.heap.push {cls:=.type "list",data:=.seq ([]:AE).toArray}).get? b=some o->(pushCells ((s2.heap.push {cls:=.type "list",data:=.seq ([]:AE).toArray}).push {cls:=.type "dict",data:=.dict #[]}) sc.names).get? b=some o:=λb o q=>xl _ _ b o (av _ q);have J0:=I3.cmpC (t':=s2.toks) k f3 (λb hb=>db (ltf b hb) (by rw[jd];exact lb _)) rfl;have stat:∀{H':Hp},(∀b∈fp,H' b=none)->∀b∈fp,fG (iE X sc (bW own cap) (s2.heap.push {cls:=.type "list",data:=.seq ([]:AE).toArray}).objs.size {s2 with heap:=s2.heap.push {cls:=.type "list",data:=.seq ([]:AE).toArray},toks:=s2.toks} (aV H2 s2.heap.objs.size (.lst [])) fp) [] H' b:=λhn b hb=>
  ⟨hn b hb,(J0.ok.exf b hb).1,J0.ok.exfs b hb,.inl hb,(J0.ok.exf b hb).2,λp hp=>absurd (show p∈([]:List (Addr×Obj)) from hp) (by simp)⟩
 have st4:tn 0 (pushCells ((s2.heap.push {cls:=.type "list",data:=.seq ([]:AE).toArray}).push {cls:=.type "dict",data:=.dict #[]}) sc.names):=T.keep _ _ _ st2 λb hb o q=>kp b o (av _ q);have fr0:∀b∈fp,(aV H2 s2.heap.objs.size (.lst [])) b=none:=λb hb=>(f3 b hb).1;have loop:codeAny (model X.prog X.w) X.A (.compLoop (.ListComp elt [⟨target,iter,[],0⟩] sc pos) 0 (.ref it) (.ref s2.heap.objs.size) (compEnvC sc (cellsFrom ((s2.heap.push {cls:=.type "list",data:=.seq ([]:AE).toArray}).objs.size+1) sc.names (fX X.env sc.names [])) (s2.heap.push {cls:=.type "list",data:=.seq ([]:AE).toArray}).objs.size X.env))
   (compPost (model X.prog X.w) X.A X.xe use Qf (.ref s2.heap.objs.size) (s2.heap.push {cls:=.type "list",data:=.seq ([]:AE).toArray}).objs.size) {s2 with heap:=(pushCells ((s2.heap.push {cls:=.type "list",data:=.seq ([]:AE).toArray}).push {cls:=.type "dict",data:=.dict #[]}) sc.names),toks:=s2.toks}:=by
  obtain⟨W,⟨m0,w0⟩,turn⟩:=hW s2.heap.objs.size hD;refine Mi (λn s'=>∃i σ' H' ys,aF (iE X sc (bW own cap) (s2.heap.push {cls:=.type "list",data:=.seq ([]:AE).toArray}).objs.size {s2 with heap:=s2.heap.push {cls:=.type "list",data:=.seq ([]:AE).toArray},toks:=s2.toks} (aV H2 s2.heap.objs.size (.lst [])) fp) [] σ' H' s'/\tn i s'.heap/\(∀b∈fp,H' b=none)/\W i n σ' H' ys) ?_ m0
   ⟨0,_,_,[],J0,st4,fr0,w0⟩
  rintro n s5 ⟨i,σ5,H5,ys,I5,st5,fr5,w5⟩
  obtain⟨hD5,w5⟩:=turn i n σ5 H5 ys w5;rcases w5 with⟨stop,qn⟩|⟨go,hlt,step⟩
  .refine bC (T.done (iE X sc (bW own cap) (s2.heap.push {cls:=.type "list",data:=.seq ([]:AE).toArray}).objs.size {s2 with heap:=s2.heap.push {cls:=.type "list",data:=.seq ([]:AE).toArray},toks:=s2.toks} (aV H2 s2.heap.objs.size (.lst [])) fp) rfl rfl rfl hc i [] s5 σ5 H5 _ I5 (stat fr5) st5 stop) λr s6 ⟨hr,I6⟩=>?_
   subst hr;obtain⟨m,hn,_⟩:=id I6.loc;exact fin _ _ s6 H5 m (I2.uncmpC (s3:={s2 with heap:=s2.heap.push {cls:=.type "list",data:=.seq ([]:AE).toArray},toks:=s2.toks}) f2 un rfl I6) (I3.fpOk (aj _) I6.free) hn qn
  .refine bC (T.item (iE X sc (bW own cap) (s2.heap.push {cls:=.type "list",data:=.seq ([]:AE).toArray}).objs.size {s2 with heap:=s2.heap.push {cls:=.type "list",data:=.seq ([]:AE).toArray},toks:=s2.toks} (aV H2 s2.heap.objs.size (.lst [])) fp) rfl rfl rfl hc i [] s5 σ5 H5 _ I5 (stat fr5) st5 go) λr s6 ⟨u,hr,h6⟩=>?_
   subst hr;refine bC h6 λ_ s7 ⟨x,H7,I7,r7,y7,st7,fr7⟩=>?_;have I7':=I7.pinned (stat fr7) (T.obj _ _ st7);refine bC (hg _ _ _ _ _ s7 σ5 H7 x u _ I7' r7 (step x H7 y7)) λ_ s8 ⟨σ8,H8,I8,q8⟩=>?_;refine bC (he _ _ _ _ _ s8 σ8 H8 _ I8 q8) λv9 s9 ⟨y,H9,I9,r9,hD9,m',hm,w9⟩=>?_;refine bC (rR _ s9 σ8 H9 (.ref s2.heap.objs.size) [y] (.ref s2.heap.objs.size) [v9] (λ_ H'=>H'=aV H9 s2.heap.objs.size (.lst (ys++[y]))) I9 rfl (.cons r9 .nil) ⟨_,ys,y,rfl,rfl,hD9,hlt,rfl⟩) λ_ s10 ⟨_,H10,I10,_,q10⟩=>?_;subst q10;refine⟨m',hm,i+1,σ8,_,_,I10.unpinned,T.keep _ _ _ st7 λb hb o q=>(I10.pin (b,o) (cu _ (cu _ (kT hb q)))).1,λb hb=>?_,w9⟩;obtain⟨o,q,d⟩:=T.obj _ _ st7 b hb;exact(I10.pin (b,o) (cu _ (cu _ (kT hb q)))).2.1
 exact vw loop (T.self _ 0 _ _ _ st4 loop)
theorem Jz(k:mP X sc own cap)(hi:PI X target iter wi)(hc:X.calm=true)
  (hg:∀C AN AO ex,PG (iE X sc (bW own cap) C AN AO ex) target g)(he:∀C AN AO ex,PE (iE X sc (bW own cap) C AN AO ex) elt te)
  (hs:∀x,foldedSetIterable iter X.env x=pure x:=by intro _;rfl):PE X (.ListComp elt [⟨target,iter,[],0⟩] sc pos) (sT own cap wi g te):=by
 intro AM s σ H Q I h;rw[vz];refine Av (use:=none) k hi hc hg he I h (λD C s' H' m I' fC hn q=>?_) hs;refine⟨m,hn,λh' sb=>⟨.ref D,H',?_,rfl,q⟩⟩;obtain⟨f0,f1,f2,f3,f4,f5⟩:=fC;exact I'.turned (t':=s'.toks) (λb o hb e=>(sb.2 b hb).trans e) f0 f1 f3 f4 f5
theorem L5{X:Cx}{sc:Scope}{own:List Str}{cap:List (Nat×Str)}(so:Scope)(N:List Str)(hso:X.env.scope=so)(hN:X.N=N)(kind:sc.kind=.function)(names:∀y∈sc.names,y.2=.local->sc.names.lookup y.1=some .local)
  (cells:∀y∈sc.names,y.2=.cell->sc.names.lookup y.1=some .cell)(free:∀y∈sc.names,y.2=.free->so.names.lookup y.1=some .cell)(at':∀p∈cap,N[p.1]?=some p.2)(hcap:∀p∈cap,sc.names.lookup p.2=some .free):mP X sc own cap:=
 ⟨kind,names,cells,λy hy e=>by show X.env.scope.names.lookup y.1=_;rw[hso];exact free y hy e,λp hp=>by rw[hN];exact at' p hp,hcap⟩
theorem G3{X:Cx}{sc1 sc:Scope}{own1 own:List Str}{cap1 cap:List (Nat×Str)}{C:Addr}{AN:aa}{AO:Hp}{ex:List Addr}(so:Scope)(hso:X.env.scope=so)(hk:so.kind=.function)(kind:sc.kind=.function)(names:∀y∈sc.names,y.2=.local->sc.names.lookup y.1=some .local)
  (nocell:∀y∈sc.names,y.2≠.cell)(free:∀y∈sc.names,y.2=.free->sc1.names.lookup y.1=some .cell\/(sc1.names.lookup y.1=some .free/\so.names.lookup y.1=some .cell))(at':∀p∈cap,(bW own1 cap1)[p.1]?=some p.2)(hcap:∀p∈cap,sc.names.lookup p.2=some .free):
  gO (iE X sc1 (bW own1 cap1) C AN AO ex) sc own cap:=
 ⟨kind,names,nocell,λy hy e=>by
  rcases free y hy e with f |⟨f1,f2⟩
  .exact Hh (env:=X.env) f
  .exact rF (env:=X.env) (by rw[hso];exact hk) f1 (by show X.env.scope.names.lookup y.1=_;rw[hso];exact f2),at',hcap⟩
end
end L2
namespace L2.Pp
open PySem PySem.Spec PyProof.Rows Bn
section
variable{K:af}{cl:Str->Addr}{E:XK}{X:Cx}{p q:Ph}{H H':Hp}{S:aH}
variable{sc:Scope}{own:List Str}{cap:List (Nat×Str)}{elt target iter:ag}{pos:ah}{mi:MI}{g:GM}{me:ME}
theorem D9(k:mP X sc own cap)(hi:PIp K cl E X target iter mi)(hc:X.calm=true)(hg:∀C AN AO ex,lG K (iE X sc (bW own cap) C AN AO ex) target g)(he:∀C AN AO ex,aT K cl E0 (iE X sc (bW own cap) C AN AO ex) elt me)
  (hs:∀x,foldedSetIterable iter X.env x=pure x:=by intro _;rfl):aT K cl E X (.ListComp elt [⟨target,iter,[],0⟩] sc pos) (bE own cap mi g me):=by
 intro hK;refine PE.imp (Jz k (hi hK) hc (λC AN AO ex=>hg C AN AO ex hK) (λC AN AO ex=>he C AN AO ex hK) hs) λσ H Q ⟨p,S,ρ,s,ev,h⟩=>?_;exact bU s ev h λq H' xs J S' cR sm ev it kk D hD=>zM sm ev it kk hD
end
noncomputable section
open PySem PySem.Spec PyProof.Rows Bn
def xU(k:Nat)(S:aH):Prop:=∀(j:Nat)(o:SO),S[j]?=some o->j≠k->∃xs,o=.lst xs
def Pl(S:aH):Prop:=∀(j:Nat)(o:SO),S[j]?=some o->∃xs,o=.lst xs
section
variable{K:af}{cl:Str->Addr}{E:XK}{X:Cx}{a e:ag}{m:ME}{ms:MA}{pos:ah}{p q:Ph}{H H':Hp}{S:aH}
theorem aU.pushO(s:aU K p S H){D:Addr}{o:SO}{ho:HO}(h:H D=none)(mo:Mb ho)(ob:mU K ⟨p.f++[D],λa=>p.w a\/a=D,λa=>p.c a\/a=D⟩ (aV H D ho) D o):
  let q:Ph:=⟨p.f++[D],λa=>p.w a\/a=D,λa=>p.c a\/a=D⟩
  bI p H q (aV H D ho)/\aU K q (S++[o]) (aV H D ho):=by
 intro q;obtain⟨st0,sm0⟩:=s.res (D:=D) (o:=ho) h mo;have nf0:D∉p.f:=λz=>s.notin h (s.wc D (s.sub D z));refine⟨⟨st0.wc,st0.mu,⟨[D],rfl⟩,st0.mw,st0.mono,λa x n=>?_,st0.nw,st0.nc,st0.keep⟩,?_,by simp[q,s.len],λa x=>?_,sm0.wc,sm0.mu,λk a u e1 e2=>?_⟩
 .rcases cq.mp x with z |z
  .exact absurd z n
  .have:a=D:=by simpa using z
   rw[this];exact h
 .show(p.f++[D]).Nodup
  rw[pk];refine⟨s.nd,by simp,λa ha b hb z=>?_⟩;have:b=D:=by simpa using hb
  exact nf0 (this▸z▸ha)
 .rcases cq.mp x with z |z
  .exact .inl (s.sub a z)
  .exact .inr (by simpa using z)
 .by_cases hk:k<S.length
  .have e1':p.f[k]?=some a:=by
    have e1:(p.f++[D])[k]?=some a:=e1
    rwa[eh (by rw[s.len];exact hk)]at e1
   rw[eh hk]at e2;refine(s.obj k a u e1' e2).mono (λvs e=>by rw[bO (fS e h)];exact e) (λb w f=>⟨⟨.inl w,λm=>?_⟩,λvs e=>by rw[bO (fS e h)];exact e⟩) λ_ _ r=>st0.reps r;rcases cq.mp m with z |z
   .exact f z
   .have:b=D:=by simpa using z
    exact s.notin h (this▸s.wc b w)
  .have hk':k=S.length:=by
    have:=(ca.mp e2).1;simp at this;omega
   subst hk';rw[di (aj _),gg]at e2;have e1:(p.f++[D])[S.length]?=some a:=e1;rw[<-s.len,di (aj _),gg]at e1;cases e1;cases e2;exact ob
def Qd(xs:AL)(S:aH):bG AV:=match(fP S xs).bind hU with
 |some (.lst vs)=>.ok (.ref S.length) (S++[.lol [vs]])
 |_=>.fail
def tI(ms:MA):ME:=λρ S=>(ms ρ S).bind Qd
theorem Hn{as:AL}{xs:List V}{vs:AI}(s:aU K p S H)(r:fW K p H as xs)(h:(fP S as).bind hU=some (.lst vs)):
  ∃b ws,xs=[.ref b]/\(bT K H b ws\/dD K H b ws)/\ws.length<=sizeLine/\aQ K p.c H vs ws:=by
 cases z:fP S as with
 |none=>rw[z]at h;cases h
 |some us=>
  rw[z]at h;have rr:=rS s r z;cases rr with
  |nil=>cases h
  |cons g t=>
   rename_i u x ut xt;cases t with
   |cons _ _=>cases u<;>cases h
   |nil=>
    cases u with
    |lst ws=>
     cases h;obtain⟨a,ws,rfl,l,z,r⟩:=g.lst;exact⟨a,ws,rfl,.inl l,z,r⟩
    |tup ws=>
     cases h;obtain⟨a,ws,rfl,l,z,r⟩:=g.tup;exact⟨a,ws,rfl,.inr l,z,r⟩
    |_=>cases h
theorem T8{x:Str}{p lp:ah}(hx:x="list")(hg:Gl X "list")(hm:X.mg "list"=none)(ha:eM K cl E X [e] ms)(he:starEach [e] X.env=[(false,eval e X.env)]:=by rfl)
  (hs:starEach [.Call (.Name x p) [e] [] pos] X.env=[(false,eval (.Call (.Name x p) [e] [] pos) X.env)]:=by rfl):aT K cl E X (.List [.Call (.Name x p) [e] [] pos] lp) (tI ms):=by
 intro hK;subst hK hx;refine PE.imp (Jc (sE (uP uC hg hm (by decide+kernel) (ha rfl) (by decide) (by decide) he rfl) sN hs)) λσ H Q ⟨p,S,ρ,s,ev,h⟩=>?_;refine bU s ev h λq H1 as xs S1 st s1 e1 r1 h1=>?_;unfold Qd at h1;split at h1
 .rename_i vs hv
  obtain⟨b,ws,rfl,sq,hl,r⟩:=Hn s1 r1 hv;refine⟨b,ws,rfl,sq,λl hn=>⟨by show 1<=sizeLine;decide,λt ht=>?_⟩⟩;obtain⟨st2,sm2⟩:=s1.res (D:=l) (o:=.lst ws) hn trivial;have ne:l≠t:=λz=>by rw[<-z,eT]at ht;cases ht
  have nf:l∉q.f:=λz=>s1.notin hn (s1.wc l (s1.sub l z));have st3:=(sm2.res (D:=t) (o:=.lst [.ref l]) ht trivial).1;have ob:mU X.K ⟨(q.res l).f++[t],λa=>(q.res l).w a\/a=t,λa=>(q.res l).c a\/a=t⟩ (aV (aV H1 l (.lst ws)) t (.lst [.ref l])) t (.lol [vs]):=by
   refine⟨[l],eT,by show 1<=sizeLine;decide,by simp,λc hc=>?_,rfl,λi ys c e1 e2=>?_⟩
   .have:c=l:=by simpa using hc
    subst this;refine⟨.inl (.inr rfl),λm=>?_⟩;rcases cq.mp m with z |z
    .exact nf z
    .exact ne (by simpa using z)
   .cases i with
    |zero=>
     cases e1;cases e2;exact⟨ws,by rw[bO ne,eT],hl,st3.reps (st2.reps r)⟩
    |succ i=>simp at e1
  obtain⟨st4,sm4⟩:=sm2.pushO (D:=t) (ho:=.lst [.ref l]) ht trivial ob;exact h1 _ _ (.ref t) (st2.trans st4) sm4 ⟨t,by show(q.f++[t])[S1.length]?=some t;rw[<-s1.len,di (aj _),gg];rfl,rfl⟩
 .exact h1.elim
def tK(k:Nat)(ys:AL)(S:aH):bG AV:=match(fP S ys).bind hU,S[k]? with
 |some (.lst vs),some (.lol xss)=>if xss.length<16777216 then .ok (.pv .non) (S.set k (.lol (xss++[vs])))else .fail
 |_,_=>.fail
def sZ(m:ME)(ms:MA):ME:=λρ S=>(m ρ S).bind λk S1=>eL k S1 λk=>(ms ρ S1).bind λys S2=>tK k ys S2
theorem aU.growL(s:aU K p S H){k:Nat}{D l:Addr}{xss:List AI}{bs:List Addr}{ys:AI}{ws:List V}(h:p.f[k]?=some D)(hS:S[k]?=some (.lol xss))(hn:H l=none)(hl:ws.length<=sizeLine)(r:aQ K p.c H ys ws)(hH:H D=some (.lst (bs.map V.ref)))(hz:bs.length<sizeLine):
  bI p H (p.res l) (aV (aV H l (.lst ws)) D (.lst ((bs++[l]).map V.ref)))/\aU K (p.res l) (S.set k (.lol (xss++[ys]))) (aV (aV H l (.lst ws)) D (.lst ((bs++[l]).map V.ref))):=by
 obtain⟨st2,sm2⟩:=s.res (D:=l) (o:=.lst ws) hn trivial;have hk:k<S.length:=(ca.mp hS).1;have mD:D∈p.f:=cv h;have w:(p.res l).w D:=.inl (s.sub D mD);have neD:D≠l:=λz=>by rw[z,hn]at hH;cases hH
 have nl:l∉p.f:=λz=>s.notin hn (s.wc l (s.sub l z));have st3:bI (p.res l) (aV H l (.lst ws)) (p.res l) (aV (aV H l (.lst ws)) D (.lst ((bs++[l]).map V.ref))):=⟨sm2.wc,sm2.mu,ju,λ_ h=>h,λ_ h=>h,λ_ h g=>absurd h g,λ_ h g=>absurd h g,λ_ h g=>absurd h g,λa u e nw=>by
  rw[bO (λz:a=D=>nw (by rw[z];exact w))];exact e⟩
 refine⟨st2.trans st3,sm2.nd,by rw[dj];exact sm2.len,sm2.sub,sm2.wc,λa x=>?_,λj a o e1 e2=>?_⟩
 .by_cases z:a=D
  .rw[z,eT]
   exact⟨_,rfl,trivial⟩
  .rw[bO z]
   exact sm2.mu a x
 .by_cases hj:k=j
  .subst hj
   have e1:p.f[k]?=some a:=e1;rw[h]at e1;cases e1;rw[de hk]at e2;cases e2;obtain⟨cs,g1,g2,g3,g4,g5,g6⟩:=s.obj k D _ h hS;rw[hH]at g1;have ec:bs=cs:=by
    have:=congrArg (λo=>match o with |some (HO.lst v)=>v |_=>[]) g1
    have:bs.map V.ref=cs.map V.ref:=this;exact j2 (λx y h=>by cases h;rfl) |>.mp this
   subst ec;have nb:∀b∈bs,b≠l:=λb hb z=>s.notin hn (z▸s.wc b (g4 b hb).1);refine⟨bs++[l],eT,by rw[bf];exact hz,?_,λb hb=>?_,by rw[bf,bf,g5];rfl,λi xs b e1 e2=>?_⟩
   .rw[pk]
    exact⟨g3,by simp,λx hx y hy z=>nb x hx (by rw[z];simpa using hy)⟩
   .rcases cq.mp hb with z |z
    .exact⟨.inl (g4 b z).1,(g4 b z).2⟩
    .have:b=l:=by simpa using z
     subst this;exact⟨.inr rfl,nl⟩
   .by_cases hi:i<bs.length
    .rw[eh hi]at e2
     rw[eh (by rw[g5];exact hi)]at e1;obtain⟨vs,h1,h2,h3⟩:=g6 i xs b e1 e2;have hb:=g4 b (cv e2);exact⟨vs,by rw[bO (λz:b=D=>hb.2 (z▸mD)),bO (nb b (cv e2))];exact h1,h2,st3.reps (st2.reps h3)⟩
    .have hi':i=bs.length:=by
      have:=(ca.mp e2).1;rw[bf]at this;have:i<bs.length+1:=this;omega
     subst hi';rw[di (aj _),gg]at e2;rw[<-g5,di (aj _),gg]at e1;cases e1;cases e2;exact⟨ws,by rw[bO (gr neD),eT],hl,st3.reps (st2.reps r)⟩
  .rw[dz hj]at e2
   have ne:a≠D:=λq=>hj (pJ s.nd h (q▸e1));exact(sm2.obj j a o e1 e2).mono (λvs e=>by rw[bO ne];exact e) (λb w f=>⟨⟨w,f⟩,λvs e=>by rw[bO (λz:b=D=>f (z▸mD))];exact e⟩) λ_ _ r=>st3.reps r
theorem N4{x:Str}{p apos cpos:ah}(hx:x="list")(hg:Gl X "list")(hm:X.mg "list"=none)(ho:aT K cl E X a m)(ha:eM K cl E X [e] ms)(hbase:attributeBase a "append" X.env (eval a X.env)=eval a X.env:=by rfl)
  (hfew:((backTo cpos (starEach [.Call (.Name x p) [e] [] pos] X.env)).all (λx=>!x.1)&&(backToKw cpos (keywordEach [] X.env)).all (λx=>x.1.isSome)&&decide (([.Call (.Name x p) [e] [] pos]:List ag).length+([]:List iz).length+(if([]:List iz).isEmpty then 0 else 1)<30))=true:=by rfl)
  (hline:(apos.endLine==cpos.line)=true:=by rfl)(he:starEach [e] X.env=[(false,eval e X.env)]:=by rfl)(hs:starEach [.Call (.Name x p) [e] [] pos] X.env=[(false,eval (.Call (.Name x p) [e] [] pos) X.env)]:=by rfl):
  aT K cl E X (.Call (.Attribute a "append" apos) [.Call (.Name x p) [e] [] pos] [] cpos) (sZ m ms):=by
 intro hK;subst hK hx;refine PE.imp (Yc xa va i8 rR (ho rfl) (sE (uP uC hg hm (by decide+kernel) (ha rfl) (by decide) (by decide) he rfl) sN hs) hbase hfew hline hs rfl) λσ H Q ⟨p,S,ρ,s,ev,h⟩=>?_;refine bU s ev h λq H1 k x S1 st s1 e1 r1 h1=>?_;cases k with
 |pv v=>exact h1.elim
 |ref k=>
  have h1:bN X.K cl (bR X.K) q H1 (eL (.ref k) S1 λk=>(ms ρ S1).bind λys S2=>tK k ys S2) Q E:=h1;rcases uY k S1 (λk=>(ms ρ S1).bind λys S2=>tK k ys S2)with z |⟨z,n1,n2⟩
  .rw[z]at h1
   exact h1.elim
  rw[z]at h1;refine⟨Qa s1 r1 n1 n2,bU s1 e1 h1 λq2 H2 ys xs S2 st2 s2 e2 r2 h2=>?_⟩;obtain⟨a,ea,rfl⟩:=st2.repA r1;unfold tK at h2;split at h2
  .rename_i vs xss hv hS
   obtain⟨b,ws,rfl,sq,hl,r⟩:=Hn s2 r2 hv;split at h2
   .rename_i hz
    refine⟨b,ws,rfl,sq,λl hn=>?_⟩;obtain⟨bs,g1,g2,g3,g4,g5,g6⟩:=s2.obj k a _ ea hS;have hzz:=iP;have neA:a≠l:=λz=>by rw[z,hn]at g1;cases g1
    obtain⟨st3,sm3⟩:=s2.growL ea hS hn hl r g1 (by rw[<-g5];omega);refine⟨a,bs.map V.ref,.ref l,rfl,rfl,by rw[bO neA];exact g1,by rw[ak,<-g5];omega,?_⟩;have:=h2 _ _ .non st3 sm3 (by show aP X.K (q2.res l).c (aV (aV H2 l (.lst ws)) a (.lst ((bs++[l]).map V.ref))) .non .non;exact iQ (v:=.non) rfl);rw[ib]at this;exact this
   .exact h2.elim
  .exact h2.elim
def wB(m:Int)(xs:AI):Option AI:=match aW xs.length m with
 |some j=>match xs[j]? with
  |some (.int v)=>some (xs.set j (.int (1-v)))
  |_=>none
 |none=>none
def qN(m:Int):List AI->Option (List AI)
 |[]=>some []
 |xs::r=>match wB m xs,qN m r with
  |some y,some ys=>some (y::ys)
  |_,_=>none
theorem Nh{m:Int}:∀{xss yss:List AI},qN m xss=some yss->xss.length=yss.length/\∀(i:Nat)(xs:AI),xss[i]?=some xs->∃ys:AI,yss[i]?=some ys/\wB m xs=some ys
 |[],yss,e=>by
  cases e;exact⟨rfl,λi xs h=>by simp at h⟩
 |xs::r,yss,e=>by
  unfold qN at e;split at e
  .rename_i y ys h1 h2
   cases e;obtain⟨l,g⟩:=Nh h2;refine⟨by rw[bo,bo,l],λi zs h=>?_⟩;cases i with
   |zero=>
    cases h;exact⟨y,rfl,h1⟩
   |succ i=>simpa using g i zs (by simpa using h)
  .cases e
open Classical in
def oJ(ics ic im:Nat):MS:=λρ S=>match ρ[ics]?,ρ[im]? with
 |some (some (.ref k)),some (some (.pv (.int m)))=>match S[k]? with
  |some (.lol xss)=>if xU k S/\ic<ρ.length then(match qN m xss with
   |some yss=>.nx (ρ.set ic none) (S.set k (.lol yss))
   |none=>.fail)else .fail
  |_=>.fail
 |_,_=>.fail
theorem aU.inner(s:aU K p S H){k i:Nat}{D b:Addr}{xss:List AI}{bs:List Addr}{ys:AI}{ws:List V}(h:p.f[k]?=some D)(hS:S[k]?=some (.lol xss))(pl:xU k S)(hH:H D=some (.lst (bs.map V.ref)))(hb:bs[i]?=some b)(hl:ws.length<=sizeLine)(r:aQ K p.c H ys ws):
  bI p H p (aV H b (.lst ws))/\aU K p (S.set k (.lol (xss.set i ys))) (aV H b (.lst ws)):=by
 have hk:k<S.length:=(ca.mp hS).1;have mD:D∈p.f:=cv h;obtain⟨cs,g1,g2,g3,g4,g5,g6⟩:=s.obj k D _ h hS;rw[hH]at g1;have ec:bs=cs:=by
  have:=congrArg (λo=>match o with |some (HO.lst v)=>v |_=>[]) g1
  have:bs.map V.ref=cs.map V.ref:=this;exact j2 (λx y h=>by cases h;rfl) |>.mp this
 subst ec;have wb:=g4 b (cv hb);have st:bI p H p (aV H b (.lst ws)):=⟨s.wc,s.mu,ju,λ_ h=>h,λ_ h=>h,λ_ h g=>absurd h g,λ_ h g=>absurd h g,λ_ h g=>absurd h g,λa u e nw=>by
  rw[bO (λz:a=b=>nw (by rw[z];exact wb.1))];exact e⟩
 refine⟨st,s.nd,by rw[dj];exact s.len,s.sub,s.wc,λa x=>?_,λj a o e1 e2=>?_⟩
 .by_cases z:a=b
  .rw[z,eT]
   exact⟨_,rfl,trivial⟩
  .rw[bO z]
   exact s.mu a x
 .have ne:a≠b:=λz=>wb.2 (z▸cv e1)
  by_cases hj:k=j
  .subst hj
   rw[h]at e1;cases e1;rw[de hk]at e2;cases e2;refine⟨bs,by rw[bO ne];exact hH,g2,g3,g4,by rw[dj];exact g5,λi' xs c e1 e2=>?_⟩
   by_cases hi:i=i'
   .subst hi
    rw[hb]at e2;cases e2;have hx:i<xss.length:=by
     rw[g5];exact(ca.mp hb).1
    rw[de hx]at e1;cases e1;exact⟨ws,eT,hl,st.reps r⟩
   .rw[dz hi]at e1
    obtain⟨vs,h1,h2,h3⟩:=g6 i' xs c e1 e2;exact⟨vs,by rw[bO (λz:c=b=>hi (pJ g3 hb (z▸e2)))];exact h1,h2,st.reps h3⟩
  .rw[dz hj]at e2
   obtain⟨xs,rfl⟩:=pl j o e2 (gr hj);obtain⟨vs,e,l,g⟩:=s.obj j a _ e1 e2;exact⟨vs,by rw[bO ne];exact e,l,st.reps g⟩
theorem E3{α:Type}{ys xs:List α}{i:Nat}{y:α}(l:xs.length=ys.length)(h:ys[i]?=some y):(ys.take i++xs.drop i).set i y=ys.take (i+1)++xs.drop (i+1):=by
 have hi:i<ys.length:=(ca.mp h).1;have hx:i<xs.length:=by omega
 have e:ys[i]=y:=(ca.mp h).2;rw[rp hx,List.set_append,if_neg (by rw[jz];omega),jz,xn (oo hi),gg,dg,List.take_succ_eq_append_getElem hi,e,fz];rfl
theorem Fk{α:Type}{l:List α}{i:Nat}{a b:α}:(l.set i a).set i b=l.set i b:=by simp
theorem M8{ics ic im:Nat}{c cs mm:Str}{p1 p2 p3 p4 p5 p6 p7 p8 p9 apos:ah}{j:Nat}(hp:ow (model X.prog X.w) X.A X.env X.xe)(hc:X.calm=true)(hN:X.N.Nodup)(h1:X.N[ics]?=some cs)(h2:X.N[ic]?=some c)(h3:X.N[im]?=some mm)
  (v1:nC X.env.scope cs)(v2:jP X.env.scope c)(v3:nC X.env.scope mm)(ne1:ics≠ic)(ne2:im≠ic)
  (ha:∀v,assign (.Subscript (.Name c p3) (.Name mm p4) p5) X.env v=(do
   let ov <-holding [v] (eval (.Name c p3) X.env)
   let iv <-holding [v,ov] (eval (.Name mm p4) X.env)
   standAt p5
   holding [v,ov,iv] (setItem ov iv v)
   release [v,ov,iv] []):=by intro _;rfl)
  (hs:swapsWithSole [.Subscript (.Name c p3) (.Name mm p4) p5] (.BinOp (.Constant (.int 1) j p6) .Sub (.Subscript (.Name c p7) (.Name mm p8) p9) p2) apos.line X.env=pure false:=by rfl)(hw:swappedStores [.Subscript (.Name c p3) (.Name mm p4) p5] (.BinOp (.Constant (.int 1) j p6) .Sub (.Subscript (.Name c p7) (.Name mm p8) p9) p2) X.env=pure none:=by rfl)
  (ht:(assignEach [.Subscript (.Name c p3) (.Name mm p4) p5] X.env).map (·.2)=[assign (.Subscript (.Name c p3) (.Name mm p4) p5) X.env]:=by rfl)
  (hpl:vG (.Name mm p8):=by intro _ _;rfl)
  (d1:(cs==("__debug__":Str))=false:=by decide)(d2:(c==("__debug__":Str))=false:=by decide)(d3:(mm==("__debug__":Str))=false:=by decide)
  (k1:(cs==("__classdict__":Str))=false:=by decide)(k2:(c==("__classdict__":Str))=false:=by decide)(k3:(mm==("__classdict__":Str))=false:=by decide)
  (hf:X.fn c=true\/X.env.scope.names.lookup c=some .local:=by first |exact .inl rfl |exact .inr rfl |assumption)
  (hfs:∀x,foldedSetIterable (.Name cs p1) X.env x=pure x:=by intro _;rfl){cp:ah}:
  eO K cl E X (.For (.Name c cp) (.Name cs p1) [.Assign [.Subscript (.Name c p3) (.Name mm p4) p5] (.BinOp (.Constant (.int 1) j p6) .Sub (.Subscript (.Name c p7) (.Name mm p8) p9) p2) apos] [] pos) (oJ ics ic im):=by
 intro hK;subst hK;have vc:nC X.env.scope c:=v2.elim .inl λz=>.inr (.inl z);refine PS.imp (Ho hp hc (Ko (oF h1 v1 d1 k1)) (Qm hN h2 v2 hf) (Oa (Gb (Sd Fo vU (Qc Ap (oF h2 vc d2 k2) (oF h3 v3 d3 k3) hpl)) (Gc (oF h2 vc d2 k2) (oF h3 v3 d3 k3) Vj ha) hs hw ht)) hfs) λD σ H ⟨p,S,ρ,s,ev,h⟩=>?_;unfold oJ at h;split at h
 .rename_i k m q1 q2
  split at h
  .rename_i xss hS
   split at h
   .rename_i eS
    obtain⟨pl,hic⟩:=eS;split at h
    .rename_i yss hy
     obtain⟨x,ex,rx⟩:=ev.at_ ics _ q1;obtain⟨a,ea,rfl⟩:=rx;obtain⟨ll,fl⟩:=Nh hy;have hk:k<S.length:=(ca.mp hS).1;obtain⟨bs0,b1,b2,b3,b4,b5,b6⟩:=s.obj k a _ ea hS;have plx:∀zss,xU k (S.set k (.lol zss)):=λzss j o e n=>by
      rw[dz (gr n)]at e;exact pl j o e n
     refine⟨.ref a,ex,a,rfl,.inl ⟨⟨_,bT.of b1⟩,λi n σ1 H1=>n=xss.length-i/\i<=xss.length/\∃p1,bI p H p1 H1/\aU X.K p1 (S.set k (.lol (yss.take i++xss.drop i))) H1/\dE X.K p1 H1 (ρ.set ic none) σ1,⟨_,rfl,ft _,p,s.step,?_,?_⟩,?_⟩⟩
     .have e0:S.set k (.lol xss)=S:=by
       obtain⟨g1,g2⟩:=ca.mp hS;rw[<-g2];exact j3 g1
      simpa[e0]using s
     .have:=ev.forget ic ((σ[ic]?).join)
      have e0:σ.set ic (σ[ic]?).join=σ:=by
       by_cases hi:ic<σ.length
       .rw[au hi]
        exact j3 hi
       .exact List.set_eq_of_length_le (by omega)
      rwa[e0]at this
     .rintro i n σ1 H1 ⟨rfl,hi,p1,st1,sm1,ev1⟩
      have e1:=st1.at_ ea;have hS1:(S.set k (.lol (yss.take i++xss.drop i)))[k]?=some (.lol (yss.take i++xss.drop i)):=de hk;obtain⟨bs,c1,c2,c3,c4,c5,c6⟩:=sm1.obj k a _ e1 hS1;have lz:(yss.take i++xss.drop i).length=xss.length:=by
       rw[bf,jz,qm];omega
      by_cases hlt:i<xss.length
      .have hib:i<bs.length:=by omega
       obtain⟨ys,ey,fy⟩:=fl i _ (au hlt);have ez:(yss.take i++xss.drop i)[i]?=some xss[i]:=by
        rw[di (by rw[jz];omega),jz,xn (by omega),gg,List.getElem?_drop,xo];exact au hlt
       obtain⟨vs,g1,g2,g3⟩:=c6 i _ _ ez (au hib);unfold wB at fy;split at fy
       .rename_i jj hj
        split at fy
        .rename_i v hv
         cases fy;obtain⟨u,eu,ru⟩:=g3.get hv;have:u=.int v:=by unfold aP at ru;exact ru
         subst this;obtain⟨xm,exm,rxm⟩:=ev1.at_ im (.pv (.int m)) (by rw[dz (gr ne2)];exact q2);have:xm=.int m:=by
          have rxm:aP X.K p1.c H1 (.int m) xm:=rxm;unfold aP at rxm;exact rxm
         subst this;refine .inr ⟨⟨_,.ref bs[i],bT.of c1,by rw[bj,au hib];rfl⟩,λσ' H'=>∃p2,bI p H p2 H'/\aU X.K p2 (S.set k (.lol (yss.take (i+1)++xss.drop (i+1)))) H'/\dE X.K p2 H' (ρ.set ic none) σ',λσ' H' hn=>⟨xss.length-(i+1),by omega,rfl,hlt,hn⟩,λx H2 hy=>?_⟩;obtain⟨rfl,hy⟩:=hy;have ey2:=hy _ (bT.of c1);rw[bj,au hib]at ey2;cases ey2;have hic1:ic<σ1.length:=by
          rw[<-ev1.len,dj];exact hic
         have sc:(σ1.set ic (some (V.ref bs[i])))[ic]?=some (some (.ref bs[i])):=de hic1;have sm':(σ1.set ic (some (V.ref bs[i])))[im]?=some (some (.int m)):=by rw[dz (gr ne2)];exact exm
         have hj':aW vs.length m=some jj:=by rw[<-g3.length];exact hj
         have ha1:aX vs m=some (.int v):=by unfold aX;rw[hj'];exact eu
         obtain⟨st2,sm2⟩:=sm1.inner (ys:=xss[i].set jj (.int (1-v))) (ws:=vs.set jj (.int (1-v))) e1 hS1 (plx _) c1 (au hib) (by rw[dj];exact g2) (aQ.set (iQ (v:=.int (1-v)) rfl) jj g3);rw[Fk,E3 ll ey]at sm2;have ev2:=(st2.repE ev1).forget ic (some (V.ref bs[i]));rw[Fk]at ev2;exact⟨_,sc,_,sm',.inl ⟨_,_,_,_,rfl,rfl,bT.of g1,ha1,1,v,rfl,rfl,_,sc,_,sm',_,_,_,_,rfl,rfl,g1,hj',p1,st1.trans st2,sm2,ev2⟩⟩
        .cases fy
       .cases fy
      .have e:i=xss.length:=by omega
       subst e;refine .inl ⟨⟨_,bT.of c1,by rw[ak];omega⟩,?_⟩;rw[sa,gv,ll,xc]at sm1;exact h p1 H1 σ1 st1 sm1 ev1
    .exact h.elim
   .exact h.elim
  .exact h.elim
 .exact h.elim
open Classical in
def vK(n:Nat):bV->bG AV
 |.rt (.ref k) S=>match S[k]? with
  |some (.lol xss)=>if ¬k<n/\Pl (S.take n)then .ok (.pv (.lst (xss.map .lst))) (S.take n)else .fail
  |_=>.fail
 |_=>.fail
open Classical in
def oU(np n:Nat)(b:MS)(xs:AL)(S:aH):bG AV:=if xs.length=np/\Pl S then vK S.length (b (gL n xs) S)else .fail
def Ph.only(p:Ph):Ph:=⟨p.f,λa=>a∈p.f,p.c⟩
theorem aU.only(s:aU K p S H)(pl:Pl S):aU K p.only S H:=
 ⟨s.nd,s.len,λ_ h=>h,λa h=>s.wc a (s.sub a h),s.mu,λk a o e1 e2=>by
  obtain⟨xs,rfl⟩:=pl k o e2;exact s.obj k a _ e1 e2⟩
theorem Ov{as:AL}{vs:List V}(h:fW K p H as vs):fW K p.only H as vs:=by
 induction h with
 |nil=>exact .nil
 |cons h _ ih=>
  refine .cons ?_ ih;rename_i v x _ _ _;cases v with
  |pv v=>exact h
  |ref k=>exact h
theorem Ou{r:bV}{Q:VK}{E:XK}(s:aU K p S H)(pl:Pl S)(h:bN K cl (bR K) p H (vK S.length r) Q E):eC K cl p.only H r {nx:=λ_ H'=>Q .non H',rt:=Q} E:=by
 cases r with
 |rt v S1=>
  cases v with
  |pv v=>exact h.elim
  |ref k=>
   unfold vK at h;dsimp only at h;split at h
   .rename_i xss hS
    split at h
    .rename_i hc
     obtain⟨hk,plt⟩:=hc
     rintro q H' x st sm ⟨a,e,rfl⟩
     have s1:=s.only pl;obtain⟨na,hn,nc⟩:=zL s1 st sm e hk;obtain⟨bs,g1,g2,g3,g4,g5,g6⟩:=sm.obj k a _ e hS;have fresh:∀b∈bs,H b=none:=λb hb=>st.nw b (g4 b hb).1 λm=>(g4 b hb).2 (st.pre.subset m);obtain⟨st1,sm1⟩:=s1.cutX (λb=>b=a\/b∈bs) st sm (λb d=>d.elim (λz=>z▸hn) (fresh b)) (.inr λj o e hj=>plt j o (by rw[se,if_pos hj];exact e));refine h ⟨p.f,λb=>(q.w b/\¬(b=a\/b∈bs))\/p.w b,λb=>q.c b/\¬(b=a\/b∈bs)⟩ H' (.ref a) ⟨s.wc,s.mu,ju,λb h=>.inr h,st1.mono,λ_ h g=>absurd h g,λb h n=>?_,st1.nc,λb o e n=>st1.keep b o e λz=>n (s.sub b z)⟩
      ⟨s.nd,sm1.len,λb h=>.inr (s.sub b h),λb h=>h.elim (sm1.wc b) λz=>st1.mono b (s.wc b z),sm1.mu,λj b o e1 e2=>(sm1.obj j b o e1 e2).mono (λ_ e=>e) (λc w f=>⟨⟨.inl w,f⟩,λ_ e=>e⟩) λ_ _ r=>r⟩ ?_
     .rcases h with h |h
      .exact st1.nw b h λz=>n (s.sub b z)
      .exact absurd h n
     .show aP K (λb=>q.c b/\¬(b=a\/b∈bs)) H' (.lst (xss.map .lst)) (.ref a)
      unfold aP;refine⟨a,bs.map V.ref,rfl,.inl ⟨g1,λd=>d.2 (.inl rfl)⟩,by rw[ak];exact g2,?_⟩;have go:∀(yss:List AI)(cs:List Addr),yss.length=cs.length->(∀c∈cs,c∈bs)->(∀(i:Nat)(xs:AI)(b:Addr),yss[i]?=some xs->cs[i]?=some b->∃vs,H' b=some (.lst vs)/\vs.length<=sizeLine/\aQ K q.c H' xs vs)->aQ K (λb=>q.c b/\¬(b=a\/b∈bs)) H' (yss.map .lst) (cs.map V.ref):=by
       intro yss
       induction yss with
       |nil=>
        intro cs l _ _;have:cs=[]:=po.mp l.symm;subst this;exact .nil
       |cons ys r ih=>
        intro cs l hm hh;cases cs with
        |nil=>cases l
        |cons c t=>
         obtain⟨vs,k1,k2,k3⟩:=hh 0 ys c rfl rfl;refine .cons ?_ (ih t (by simpa using l) (λc h=>hm c (bh _ h)) λi xs b e1 e2=>hh (i+1) xs b (by simpa using e1) (by simpa using e2));unfold aP;exact⟨c,vs,rfl,.inl ⟨k1,λd=>d.2 (.inr (hm c bi))⟩,k2,nP (λb h=>h.1) k3⟩
      exact go xss bs g5 (λ_ h=>h) g6
    .exact h.elim
   .exact h.elim
 |nx ρ S1=>exact h.elim
 |exc n S1=>exact h.elim
 |bk ρ S1=>exact h.elim
 |ct ρ S1=>exact h.elim
 |fail=>exact h.elim
end
section
variable{P:Program}{w:am}{K:af}{mg:Str->AF}{base:Heap}{cl:Str->Addr}
theorem L3{np n:Nat}{b:MS}{vs:List V}{H:Hp}{Q:VK}{E:XK}(h:kP K cl (oU np n b) vs H Q E):vs.length=np:=by
 obtain⟨p,S,xs,sm,ra,h⟩:=h;unfold oU at h;split at h
 .rename_i e
  rw[<-Ai ra,e.1]
 .exact h.elim
theorem okL{x qual:Str}{st:Stmt}{f:Addr}{fd:cf}{N ps:List Str}{k np n:Nat}{b:MS}(F:iJ K x qual st f fd)(S:iD N ps (bY st))(hnp:ps.length=np)(hn:N.length=n)
  (hb:∀(cdv:Value)(A:aq)(outer:List az)(s:aa)(H:Hp)(E:XK),dI k (A.deeper (envOfC qual (bY st) s.heap.objs.size f cdv))->fY K cl E0 (eW fA P w K mg base N qual (bY st) f cdv A outer s H E).nox (eF st) b):
  dX P w K mg base fA (k+1) f fd ps (kN K cl (oU np n b)):=by
 subst hnp hn;refine F.ok S (λvs H Q E h=>L3 h) λcdv A outer s H vs Q E hr h=>⟨_,hb cdv A outer s H E hr rfl,?_⟩;obtain⟨p,S,xs,sm,ra,h⟩:=h;unfold oU at h;split at h
 .rename_i e
  exact⟨p.only,S,_,sm.only e.2,uI (Ov ra),Ou sm e.2 h⟩
 .exact h.elim
end
end
def wM(v:AV)(S:aH):bG Bool:=match rd S v with
 |some (.lst xs)=>.ok (!xs.isEmpty) S
 |some (.tup xs)=>.ok (!xs.isEmpty) S
 |some (.int i)=>.ok (i !=0) S
 |some (.bl b)=>.ok b S
 |_=>.fail
def tJ(m:ME):MT:=λρ S=>(m ρ S).bind wM
theorem Fg{K:af}{c:Addr->Prop}{H:Hp}{xs:AI}{vs:List V}(r:aQ K c H xs vs):vs.isEmpty=xs.isEmpty:=by
 have:=r.length;cases xs<;>cases vs<;>simp_all
theorem L0{K:af}{cl:Str->Addr}{E:XK}{X:Cx}{a:ag}{ma:ME}(ha:aT K cl E X a ma)(he:∀whole,isTrue a X.env whole=(do let v <-whole;standAt a.pos;holding [v] (truthy v)):=by intro _;rfl):fJ K cl E X a (tJ ma):=by
 intro hK;subst hK;refine(D0 (ha rfl) he).imp λσ H Q ⟨p,S,ρ,s,e,h⟩=>?_;refine bU s e h λq H1 a x S1 st s1 e1 r1 h1=>?_;unfold wM at h1;cases z:rd S1 a with
 |none=>rw[z]at h1;exact h1.elim
 |some v=>
  rw[z]at h1;have rr:=lR s1 r1 z;cases v with
  |lst xs=>
   obtain⟨b,vs,rfl,l,_,r⟩:=rr.lst;exact⟨_,.inl ⟨vs,l,by rw[Fg r]⟩,bN.ret (R:=RB) h1 s1 rfl⟩
  |tup xs=>
   obtain⟨b,vs,rfl,l,_,r⟩:=rr.tup;exact⟨_,.inr (.inl ⟨vs,l,by rw[Fg r]⟩),bN.ret (R:=RB) h1 s1 rfl⟩
  |int i=>
   cases rr.int;exact⟨_,rfl,bN.ret (R:=RB) h1 s1 rfl⟩
  |bl i=>
   cases rr.bl;exact⟨_,rfl,bN.ret (R:=RB) h1 s1 rfl⟩
  |_=>exact h1.elim
def xR(P:Program)(w:am)(K:af)(mg:Str->AF)(base:Heap)(cl:Str->Addr)(x:Str)(k:Nat)(ps:List Str)(g:FM):Prop:=∃(a:Addr)(d:cf),dX P w K mg base fA k a d ps (kN K cl g)/\gR K d ps []/\ee K (.ref a)=true/\mg x=some (.ref a)
section
variable{cl:Str->Addr}{E:XK}{X:Cx}{e:ag}{es:List ag}{ms:MA}{pos p:ah}{k k0:Nat}{ps:List Str}{g:FM}{x:Str}
theorem abn(C:xR X.prog X.w X.K X.mg X.base cl x k ps g)(hr:dI k0 X.A)(hk:k<=k0)(hg:Gl X x)(ha:eM X.K cl E X (e::es) ms)(hdb:(x==("__debug__":Str))=false:=by decide)(he:starEach (e::es) X.env=(false,eval e X.env)::starEach es X.env:=by rfl)(hpl:(backTo pos (starEach es X.env)).any (·.1)=false:=by rfl):
  aT X.K cl E X (.Call (.Name x p) (e::es) [] pos) (aR g [] ms):=by
 obtain⟨a,d,G,b,kk,n⟩:=C;exact Cz G (hr.mono hk) hg n kk b .nil Dv.nil ha hdb he hpl
theorem abL(C:xR X.prog X.w X.K X.mg X.base cl x k ps g)(hr:dI k0 X.A)(hk:k<=k0)(hg:Gl X x)(ha:eM X.K cl E X (e::es) ms)(hdb:(x==("__debug__":Str))=false:=by decide)(he:starEach (e::es) X.env=(false,eval e X.env)::starEach es X.env:=by rfl)(hpl:(backTo pos (starEach es X.env)).any (·.1)=false:=by rfl):
  aT X.K cl E X (.Call (.Name x p) (e::es) [] pos) (oB g [] ms):=by
 obtain⟨a,d,G,b,kk,n⟩:=C;exact Hy G (hr.mono hk) hg n kk b .nil Dv.nil ha hdb he hpl
end
section
variable{X:Cx}
end
section
variable{K:af}{cl:Str->Addr}{E:XK}{X:Cx}{e:ag}{m:ME}{pos:ah}
end
section
variable{K:af}{cl:Str->Addr}{E:XK}{X:Cx}
theorem Am:∀{is:AA}{its:AE},aZ (is.map V.int) its->ni its is
 |[],_,.nil=>.nil
 |_::_,_,.cons r t=>by
  obtain⟨tk,rfl⟩:=r;exact .cons _ tk (Am t)
theorem Ow(hc:X.calm=true):jI X (.builtin "min") (λxs H Q=>∃(a:Addr)(is:AA),xs=[.ref a]/\bT X.K H a (is.map V.int)/\is≠[]/\∀M,M∈is->(∀b∈is,M<=b)->Q (.int M) H):=by
 intro AM s σ H xs us Q I r h;obtain⟨a,is,rfl,hq,hne,q⟩:=h;obtain⟨u,rfl,ru⟩:=kK r;cases ru;obtain⟨its,rv,pl,hz⟩:=I.list hq;have hi:=Am rv;have hl:=pl.isList;obtain⟨xs,e⟩:=hi.allInts.items;have hns:is=xs.toList.map (·.1):=by rw[<-hi.numsOf,<-nums_intItems,<-e]
 have hsz:0<xs.size:=by
  have h3:0<is.length:=j4.mpr hne;rw[hns,ak,kx]at h3;exact h3
 rw[e]at hl;refine min_intList (I.ok.hd hc) hl hsz λv h' tk hv hk=>?_;obtain⟨t,rfl⟩:=intItems_at hv;obtain⟨h1,h2⟩:=argBest_lt (numAt xs) (xs.size-1);refine⟨.int _,H,I.kept (h':=h') (t':=tk) hk,⟨t,rfl⟩,q _ ?_ λa ha=>?_⟩
 .rw[hns,numAt_eq]
  exact getD_mem (by rw[ak,kx];omega)
 .rw[hns]at ha
  obtain⟨j,hj,rfl⟩:=mem_getD ha;rw[ak,kx]at hj;rw[<-numAt_eq];exact h2 j (by omega)
def tM:AI->AJ
 |[.lst xs]=>(iF xs).bind λbs=>bs.min?.map .int
 |_=>none
theorem aaT:kO K (λxs H Q=>∃(a:Addr)(is:AA),xs=[.ref a]/\bT K H a (is.map V.int)/\is≠[]/\∀M,M∈is->(∀b∈is,M<=b)->Q (.int M) H) tM:=λ{p S H as c xs Q} s ra e k=>by
 unfold tM at e;split at e
 .rename_i zs
  cases y:iF zs with
  |none=>rw[y]at e;cases e
  |some bs=>
   rw[y]at e;cases ra with
   |cons h t=>
    cases t;obtain⟨a,vs,rfl,l,z,r⟩:=h.lst;rw[rN y r]at l;have e:bs.min?.map PV.int=some c:=e;cases y2:bs.min? with
    |none=>rw[y2]at e;cases e
    |some m=>
     rw[y2]at e;cases e;refine⟨a,bs,rfl,l,λz=>?_,λM hM hle=>?_⟩
     .rw[z]at y2
      cases y2
     .have e2:bs.min?=some M:=j5.mpr ⟨hM,hle⟩
      rw[y2]at e2;cases e2;exact k H _ (dH.refl H) (iQ (v:=.int _) rfl)
 .cases e
variable{a e:ag}{m:ME}{ms:MA}{pos:ah}
def jM:PV->AJ
 |.non=>some (.bl false)
 |_=>some (.bl true)
theorem O4{σ:St}{H:Hp}{Q:VK}(z:tP X.K cl E (bR X.K) (bQ jM m) σ H Q):Zq (tP X.K cl E (bR X.K) m) σ H Q:=by
 obtain⟨p,S,ρ,s,ev,h⟩:=z;refine bU s ev h λq H' as x S' cR sm ev r k=>?_;refine yZ (r:=λx H Q=>Q (.bl (!decide (x=.non))) H) (f:=jM) (λ{p S H a c x Q} s ra e k=>?_) sm r k;have z:c=.bl (!decide (x=.non)):=by
  cases a with
  |non=>cases ra.non;cases e;rfl
  |int i=>cases ra.int;cases e;rfl
  |bl i=>cases ra.bl;cases e;rfl
  |str i=>cases ra.str;cases e;rfl
  |tup xs=>obtain⟨a,vs,rfl,_⟩:=ra.tup;cases e;rfl
  |lst xs=>obtain⟨a,vs,rfl,_⟩:=ra.lst;cases e;rfl
 subst z;exact k H _ (dH.refl H) (by unfold aP;rfl)
theorem aau{j pos'}(ha:aT K cl E X a m):fJ K cl E X (.Compare a [.IsNot] [.Constant .none j pos'] pos) (bF (bQ jM m)):=by
 intro hK;subst hK;refine(aaz (J4 (ha rfl))).imp λσ H Q ⟨p,S,ρ,s,e,h⟩=>?_;have z:tP X.K cl E (bR X.K) (bQ jM m) σ H λx H'=>∃k,x=.bl k/\Q k H':=bU s e h λq H1 a x S1 st s1 e1 r1 h1=>Fj s1 r1 h1;exact O4 z
end
section
variable{K:af}{cl:Str->Addr}{E:XK}{X:Cx}
def Oq(K:af):R2:=λx y H Q=>∃a b ys,x=.ref a/\y=.ref b/\dD K H a []/\dD K H b ys/\Q (.ref b) H
theorem D7:dY X (binaryOp .Add) (Oq X.K):=by
 intro AM s σ H x y v u Q I rx ry h;obtain⟨a,b,ys,rfl,rfl,ha,hb,q⟩:=h;cases rx;cases ry;obtain⟨its,r1,p1,_⟩:=I.tuple ha;obtain⟨jts,r2,p2,_⟩:=I.tuple hb;cases r1;obtain⟨⟨cls,dd,data,sl⟩,ho,hc,n,hd⟩:=p1;obtain⟨⟨cls2,dd2,data2,sl2⟩,ho2,hc2,n2,hd2⟩:=p2;simp only at hc hd hc2 hd2;subst hc hd hc2 hd2;exact qk ⟨_,ho,rfl⟩ ⟨_,ho2,rfl⟩ ug uh ui uj (uk _ _)
  (tuple_addW0 a b _ jts.toArray n n2 dd dd2 sl sl2 (by simp)) ⟨ho,ho2,⟨.ref b,H,I,rfl,q⟩⟩
def qI:PV->PV->AJ
 |.tup xs,.tup ys=>if xs.length+ys.length<=16777216 then some (.tup (xs++ys))else none
 |_,_=>none
def Fr(K:af):R2:=λx y H Q=>Oq K x y H Q\/Vc K x y H Q
theorem K6:dY X (binaryOp .Add) (Fr X.K):=dY.or D7 Mm
theorem eP.tupR{p:Ph}{H:Hp}{xs:AI}{x:V}(h:eP K p H (.tup xs) x):aP K p.c H (.tup xs) x:=by
 rcases h with h |⟨ys,a,vs,e,_⟩
 .exact h
 .cases e
theorem aaJ:gB K (Fr K) qI:=λ{p S H a b c x y Q} s ra rb e k=>by
 cases a with
 |tup xs=>
  cases b with
  |tup ys=>
   have e:(if xs.length+ys.length<=16777216 then some (PV.tup (xs++ys))else none)=some c:=e;split at e
   .rename_i hl
    cases e;have ra':=ra.tupR;have rb':=rb.tupR;obtain⟨a1,vs,rfl,l1,z1,r1⟩:=ra.tup;obtain⟨a2,ws,rfl,l2,z2,r2⟩:=rb.tup;have hz:vs.length+ws.length<=sizeLine:=by rw[<-r1.length,<-r2.length,iP];exact hl
    cases xs with
    |nil=>
     have hv:vs=[]:=j6 (by rw[<-r1.length];rfl);subst hv;exact .inl ⟨a1,a2,ws,rfl,rfl,l1,l2,k H _ (dH.refl H) rb'⟩
    |cons x0 xs=>
     refine .inr ⟨a1,a2,vs,ws,rfl,rfl,l1,l2,λq=>?_,hz,λq=>?_,λ_ t ht=>k _ _ (gK ht) (nV s (r1.append r2) (by rw[bf];exact hz) ht)⟩
     .have:=r1.length
      rw[q]at this;cases this
     .have hy:ys=[]:=by
       have:=r2.length;rw[q]at this;exact j6 this
      subst hy;have e0:x0::xs++[]=x0::xs:=gv _;refine k H _ (dH.refl H) ?_;rw[e0];exact ra'
   .cases e
  |_=>cases e
 |_=>cases e
end
section
variable{K:af}{cl:Str->Addr}{E:XK}{X:Cx}
def tY(K:af)(mg:Str->AF)(x:Str)(pv:PV):Prop:=∃(u:Value)(v:V),mg x=some u/\bK v u/\∀c H,aP K c H pv v
theorem Ll{x:Str}{pv:PV}{pos:ah}(hg:Gl X x)(hm:tY K X.mg x pv)(hd:(x==("__debug__":Str))=false:=by decide):aT K cl E X (.Name x pos) (mC pv):=λ_=>by
 obtain⟨u,v,hm,r,hr⟩:=hm;exact(J7 hg hm r hd).imp λσ H Q ⟨p,S,ρ,s,e,h⟩=>bN.ret (R:=bR K) (x:=v) h s (hr p.c H)
theorem lO:∀c H,aQ K c H [] []:=λc H=>by
 unfold aQ;rfl
theorem eX{p:PV}{ps:AI}{v:V}{vs:List V}(h:∀c H,aP K c H p v)(t:∀c H,aQ K c H ps vs):∀c H,aQ K c H (p::ps) (v::vs):=λc H=>by
 unfold aQ;exact⟨v,vs,rfl,h c H,t c H⟩
theorem gG{i:Int}:∀c H,aP K c H (.int i) (.int i):=λc H=>by
 unfold aP;rfl
theorem lN{a:Addr}{od:AG}{its:Array Value}{n:Nat}{sl:Array AF}{xs:AI}{vs:List V}(l:K.lookup a=some ⟨.type "tuple",od,.seq its n,sl⟩)(hs:its.size<=sizeLine)(hv:aZ vs its.toList)(hl:vs.length<=sizeLine)(t:∀c H,aQ K c H xs vs):∀c H,aP K c H (.tup xs) (.ref a):=λc H=>by
 unfold aP;exact⟨a,vs,rfl,.inr ⟨_,its,n,l,rfl,rfl,hs,hv⟩,hl,t c H⟩
end
section
variable{K:af}{cl:Str->Addr}{E:XK}{X:Cx}
end
section
variable{K:af}{cl:Str->Addr}{E:XK}{X:Cx}
variable{a e:ag}{m:ME}{ms:MA}{pos:ah}
end
section
variable{M:kw}{A:aq}{E:Value->aa->Prop}{s:aa}{env:az}
end
section
variable{prog:Program}{w:am}{A:aq}{R:oy->aa->Prop}{s:aa}
end
end L2.Pp
namespace L2
open PySem PySem.Spec PyProof.Rows Bn
section
variable{X:Cx}{AM:List (Addr×Obj)}{σ:St}{H H':Hp}{s s':aa}
end
open L2.Pp
section
variable{P:Program}{w:am}{K:af}{mg:Str->AF}{base:Heap}{N:List Str}{qual:Str}{scope:Scope}{f:Addr}{cd:Value}{A:aq}{outer:List az}{AN:aa}{AO:Hp}{E:XK}
end
section
variable{P:Program}{w:am}{K:af}{mg:Str->AF}{base:Heap}{N:List Str}{qual:Str}{scope:Scope}{f:Addr}{cd:Value}{A:aq}{outer:List az}{AN:aa}{AO:Hp}{E:XK}
variable{sc:Scope}{own:List Str}{cap:List (Nat×Str)}{AM:List (Addr×Obj)}{σ:St}{H:Hp}{s:aa}{elt target iter:ag}{pos pos':ah}{wi:TI}{g:TG}{te:TE}{Q:VK}
end
end L2
namespace L2.Pp
open PySem PySem.Spec PyProof.Rows Bn
section
variable{K:af}{cl:Str->Addr}{E:XK}{X:Cx}{p q:Ph}{H H':Hp}{S:aH}
variable{sc:Scope}{own:List Str}{cap:List (Nat×Str)}{elt target iter:ag}{pos:ah}{mi:MI}{g:GM}{me:ME}
end
section
variable{P:Program}{w:am}{K:af}{mg:Str->AF}{base:Heap}{N:List Str}{qual:Str}{scope:Scope}{f:Addr}{cd:Value}{A:aq}{outer:List az}{AN:aa}{AO:Hp}{E:XK}{cl:Str->Addr}
variable{sc:Scope}{own:List Str}{cap:List (Nat×Str)}{elt target iter:ag}{pos:ah}{mi:MI}{g:GM}{me:ME}{wi:TI}{tg:TG}{te:TE}
end
section
variable{K:af}{cl:Str->Addr}{E:XK}{X:Cx}{e:ag}{es:List ag}{ms:MA}{pos p:ah}{k n:Nat}{f:Addr}{fd:cf}{ps:List Str}{g:FM}{x:Str}{dvs:List V}{ds:AE}{dv:AI}
end
section
variable{K:af}{cl:Str->Addr}{E:XK}{X:Cx}
end
section
variable{K:af}{cl:Str->Addr}{E:XK}{X:Cx}{a b e:ag}{m:ME}{ms:MA}{pos:ah}
end
end L2.Pp
namespace L2
open PySem PySem.Spec PyProof.Rows Bn
def oR(X:Cx)(e:ag)(te:XK->TE):Prop:=
 ∀(AM:List (Addr×Obj))(s:aa)(σ:St)(H:Hp)(Q:VK)(E:XK)(Ex:Value->aa->Prop),aF X AM σ H s->te E σ H Q->
  (∀s1 H1 e' s',aF X AM σ H1 s1->fI X.prog X.w X.stack H1 s1 E e' s'->Ex e' s')->wpAny (model X.prog X.w) X.A (eval e X.env) (EP X AM σ Q) Ex s
section
variable{X:Cx}{k:Nat}{f:Addr}{fd:cf}{ps:List Str}{sp:Sp}{dvs:List V}{ds:AE}{x:Str}{p pos pos1 pos2 pos3 pc:ah}{e a:ag}{es:List ag}{t:TA}{ta:TE}{te:XK->TE}{c n:Str}{C:Addr}{i:Nat}{AS:Stmt}{body:List Stmt}{newId:String}
theorem Gz(hxe:X.xe=λ_ _=>False)(F:dX X.prog X.w X.K X.mg X.base (fI X.prog X.w) k f fd ps sp)(hr:dI k X.A)(hg:Gl X x)(hm:X.mg x=some (.ref f))(hkp:ee X.K (.ref f)=true)
  (hb:gR X.K fd ps ds)(hd:aZ dvs ds)(ha:PA X (e::es) t)
  (hdb:(x==("__debug__":Str))=false:=by decide)(he:starEach (e::es) X.env=(false,eval e X.env)::starEach es X.env:=by rfl)(hpl:(backTo pos (starEach es X.env)).any (·.1)=false:=by rfl):
  oR X (.Call (.Name x p) (e::es) [] pos) (λE σ H Q=>t σ H λvs H1=>sp (vs++dvs) H1 Q E):=
 λAM s σ H Q E Ex I h hx=>C3 hxe F hr hg hm hkp hb hd ha I h hx hdb he hpl
end
end L2
namespace L2.Pp
open PySem PySem.Spec PyProof.Rows Bn
section
variable{K:af}{cl:Str->Addr}{E:XK}{X:Cx}{a b c e:ag}{m mc:ME}{ms:MA}{pos:ah}{tg:ag}{ma mb:ME}
end
section
variable{K:af}{cl:Str->Addr}{E:XK}{X:Cx}{e a:ag}{es:List ag}{ms:MA}{ma me:ME}{p q:Ph}{H H':Hp}{S:aH}
variable{k:Nat}{f:Addr}{fd:cf}{ps:List Str}{g:FM}{dvs:List V}{ds:AE}{dv:AI}{x:Str}{pp pos pos1 pos2 pos3 pc:ah}{c n:Str}{i nn:Nat}{AS:Stmt}{body:List Stmt}{newId:String}{up:bM->bM}
variable(K cl X)
def Nt(e:ag)(m:ME):Prop:=X.K=K->oR X e λE=>tP K cl E (bR K) m
variable{K cl X}
def sK(f:FM)(ds:AI)(ms:MA):ME:=λρ S=>(jF (ms ρ S)).bind λxs S1=>frz S1.length (f (xs++ds.map .pv) S1)
theorem oR.imp{te te':XK->TE}(h:oR X e te)(i:∀E σ H Q,te' E σ H Q->te E σ H Q):oR X e te':=λAM s σ H Q E Ex I q hx=>h AM s σ H Q E Ex I (i E σ H Q q) hx
theorem K3(hxe:X.xe=λ_ _=>False)(F:dX X.prog X.w X.K X.mg X.base (fI X.prog X.w) k f fd ps (kP K cl g))(hr:dI k X.A)(hg:Gl X x)(hm:X.mg x=some (.ref f))(hkp:ee X.K (.ref f)=true)
  (hb:gR X.K fd ps ds)(hd:aZ dvs ds)(hv:Dv dv dvs)(ha:eM K cl E0 X (e::es) ms)
  (hdb:(x==("__debug__":Str))=false:=by decide)(he:starEach (e::es) X.env=(false,eval e X.env)::starEach es X.env:=by rfl)(hpl:(backTo pos (starEach es X.env)).any (·.1)=false:=by rfl):
  Nt K cl X (.Call (.Name x pp) (e::es) [] pos) (sK g dv ms):=by
 intro hK;refine oR.imp (Gz hxe F hr hg hm hkp hb hd (ha hK) hdb he hpl) λE σ H Q ⟨p,S,ρ,s,ev,h⟩=>?_;refine⟨p,S,ρ,s,ev,?_⟩;unfold sK at h;cases z:ms ρ S with
 |ok xs S1=>
  rw[z]at h;intro q H1 vs st sm r;exact⟨q,S1,xs++dv.map .pv,sm,uB r (hv K q H1),zX sm (bN.mono h st)⟩
 |exc m S1=>rw[z]at h;exact h.elim
 |fail=>rw[z]at h;exact h.elim
def sP(me:ME)(c:Str)(nn j:Nat)(up:bM->bM):MS:=λρ S=>if ρ.length=nn then(match me ρ S with
 |.ok v S2=>.nx (ρ.set j (some v)) S2
 |.exc n S2=>if n=c then .nx (up ρ) S2 else .fail
 |.fail=>.fail)else .fail
end
section
variable{K:af}{cl:Str->Addr}{E:XK}{X:Cx}{a b:ag}{ma mb:ME}{pos:ah}
end
end L2.Pp
namespace L2
open PySem PySem.Spec PyProof.Rows Bn
section
variable{X:Cx}{k:Nat}{p pos pos1 pos2 pos3 pc:ah}{e:ag}{te:XK->TE}{c:Str}{C:Addr}{AS:Stmt}{body:List Stmt}{newId:String}
theorem K5{jv:Nat}{xv:Str}{posv:ah}{ts:TS}(stk:X.stack=X.env::X.outer)(hN:X.N.Nodup)
  (hgc:Gl X c)(hmc:X.mg c=some (.ref C))(hxC:jb X.K C kH newId=true)(he:oR X e te)
  (hjv:X.N[jv]?=some xv)(hxv:jP X.env.scope xv)(hs:∀y,fK (X.mk1 y []) (AS::body) ts)
  (hsw:swapsWith e (some (.Name xv posv)) pos1.line X.env=pure false:=by rfl)
  (hfv:X.fn xv=true\/X.env.scope.names.lookup xv=some .local:=by first |exact .inl rfl |exact .inr rfl |assumption)
  (hfr:X.env.frame=some X.env.locals:=by rfl)
  (hdc:(c==("__debug__":Str))=false:=by decide):
  PS X (.Try [.Assign [.Name xv posv] e pos1] [.ExceptHandler (some (.Name c pc)) none (AS::body) pos2] [] [] pos3)
   (λD σ H=>te (λcls _ H2=>cls=.ref C/\ts D σ H2) σ H (λv H2=>D.nx (σ.set jv (some v)) H2)):=by
 intro AM s σ H D I h;refine wpAny_Try_except (uc (wpAny_Assign_Name (dr (he AM s σ H _ _ _ I h (λs1 H1 e' s' I1 cx=>?_)) (λv s1 q=>?_) λe' s1 z=>z) hsw));rotate_left
 .obtain⟨v,H1,I1,rv,q⟩:=q
  exact nR I1 hN hjv hxv rv (λs2 I2=>my (my ⟨_,H1,I2,q⟩)) hfv
 obtain⟨y,C',tt,B,H',rfl,os,bare,un,hok,fl,cov,hE⟩:=cx;obtain⟨hC',hts⟩:=hE;cases hC';rw[stk]at fl;have fr:∀b∈dS X.stack,H' b=none:=λb hb=>by
  obtain⟨_,o,ho,hd⟩:=I1.stack.mem hb;exact un.free b o ho (I1.stkFree b hb) (by intro z;cases z)
 have ff:X.A.frames=some (X.env::X.outer):=by rw[I.ok.frames,stk]
 refine wpAny_looks_onW (base:=B) ff hfr fl λh2 held up2=>?_;refine wpAny_landsW (base:=B) held λh3 fl3 up3=>?_;have up:=Cl up2 up3;have I3:=I1.flown os bare un hok cov fr fl3.1 up;refine wpAny_handleBy_cons ?_ (by intro z;cases z);refine codeAny_handlers_test (rZ (X:=X.mk1 y []) (I3.mk1 y [] λp hp=>nomatch hp) hgc hmc ?_ hdc);obtain⟨bm,Nn,nm,qn,bs,hdct,sn,sub,ab,col,dd,k0,k1,k2,k3,k5,mN,hC,hNs,hni,T⟩:=Sl I.ok.mod.kin hxC;obtain⟨oe,vs,TT,oT,tts,hoe,⟨hcls,_⟩,hdat,_⟩:=fl3.2.2.2;refine wpAny_excMatches_sub_self (I3.bk _ _ hC) hoe hcls (T.hasType (by decide)) ?_;refine codeAny_handlers_suite (lands_againW (base:=B) fl3 λh4 fl4 up4=>?_);have I4:=I1.flown os bare un hok cov fr fl4.1 (Cl up up4);have I5:aF (X.mk1 y []) AM σ H' _:=I4.mk1 y [] λp hp=>nomatch hp;refine dr (hs y AM _ _ H' _ I5 hts) (λfl s7 q7=>?_) λ_ _ z=>io z;cases fl with
 |next=>obtain⟨σ',H7,I7,q⟩:=q7;exact⟨_,_,I7.unmk1 I.ok,q⟩
 |brk=>obtain⟨σ',H7,I7,q⟩:=q7;exact⟨_,_,I7.unmk1 I.ok,q⟩
 |cont=>obtain⟨σ',H7,I7,q⟩:=q7;exact⟨_,_,I7.unmk1 I.ok,q⟩
 |ret u=>obtain⟨v,σ',H7,I7,r,q⟩:=q7;exact⟨v,_,_,I7.unmk1 I.ok,r,q⟩
end
end L2
namespace L2.Pp
open PySem PySem.Spec PyProof.Rows Bn
section
variable{K:af}{cl:Str->Addr}{E:XK}{X:Cx}{a b e:ag}{m me:ME}{ms:MA}{pos pos1 pos2 pos3 pc:ah}{c:Str}{nn:Nat}{AS:Stmt}{body:List Stmt}{newId:String}{up:bM->bM}
theorem B3{jv:Nat}{xv:Str}{posv:ah}{ts:TS}(stk:X.stack=X.env::X.outer)(hN:X.N.Nodup)
  (hgc:Gl X c)(hmc:X.mg c=some (.ref (cl c)))(hxC:jb X.K (cl c) kH newId=true)(he:Nt K cl X e me)
  (hjv:X.N[jv]?=some xv)(hxv:jP X.env.scope xv)(hs:∀y,fK (X.mk1 y []) (AS::body) ts)
  (hts:∀(D:lE)(σ:St)(H:Hp)(p:Ph)(S:aH)(ρ:bM),aU K p S H->σ.length=nn->dE K p H ρ σ->(∀H' σ',dH H H'->dE K p H' (up ρ) σ'->D.nx σ' H')->ts D σ H)
  (hsw:swapsWith e (some (.Name xv posv)) pos1.line X.env=pure false:=by rfl)
  (hfv:X.fn xv=true\/X.env.scope.names.lookup xv=some .local:=by first |exact .inl rfl |exact .inr rfl |assumption)
  (hfr:X.env.frame=some X.env.locals:=by rfl)
  (hdc:(c==("__debug__":Str))=false:=by decide):
  eO K cl E0 X (.Try [.Assign [.Name xv posv] e pos1] [.ExceptHandler (some (.Name c pc)) none (AS::body) pos2] [] [] pos3) (sP me c nn jv up):=by
 intro hK;refine PS.imp (K5 stk hN hgc hmc hxC (he hK) hjv hxv hs hsw hfv hfr hdc) λD σ H ⟨p,S,ρ,s,ev,h⟩=>?_;unfold sP at h;split at h
 .rename_i hl
  refine⟨p,S,ρ,s,ev,?_⟩;cases z:me ρ S with
  |ok v S2=>
   simp only[z]at h;intro q2 H2 y st2 sm2 r2;exact h q2 H2 _ st2 sm2 ((st2.repE ev).set r2 jv)
  |exc m S2=>
   simp only[z]at h;split at h
   .rename_i hm
    subst hm;intro q2 H2 st2 sm2;refine⟨rfl,hts D σ H2 q2 S2 ρ sm2 (by rw[<-ev.len];exact hl) (st2.repE ev) λH' σ' hs e'=>h q2 H' σ' (st2.trans (sm2.same hs)) (sm2.ofSame hs) e'⟩
   .exact h.elim
  |fail=>simp only[z]at h;exact h.elim
 .exact h.elim
end
section
variable{M:kw}{A:aq}{E:Value->aa->Prop}{s:aa}{env:az}
end
end L2.Pp
namespace L2
open PySem PySem.Spec PyProof.Rows Bn L2.Pp
section
variable{P:Program}{w:am}{K:af}{mg:Str->AF}{base:Heap}{N:List Str}{qual:Str}{scope:Scope}{f:Addr}{cd:Value}{A:aq}{outer:List az}{AN:aa}{AO:Hp}{E:XK}
variable{sc:Scope}{own:List Str}{cap:List (Nat×Str)}{AM:List (Addr×Obj)}{σ:St}{H:Hp}{s:aa}{elt target iter:ag}{pos pos':ah}{wi:TI}{g:TG}{te:TE}{Q:VK}
end
end L2
namespace L2.Pp
open PySem PySem.Spec PyProof.Rows Bn
section
variable{P:Program}{w:am}{K:af}{mg:Str->AF}{base:Heap}{N:List Str}{qual:Str}{scope:Scope}{f:Addr}{cd:Value}{A:aq}{outer:List az}{AN:aa}{AO:Hp}{E:XK}{cl:Str->Addr}
variable{sc:Scope}{own:List Str}{cap:List (Nat×Str)}{elt target iter:ag}{pos:ah}{mi:MI}{g:GM}{me:ME}
end
section
variable{K:af}
end
section
variable{K:af}{X:Cx}
end
end L2.Pp
namespace L2
open PySem PySem.Spec PyProof.Rows Bn
def wE(J:It)(g:TG)(tc:TT)(te:TE)(AR:St)(H1:Hp)(D:Addr)(Q:VK):Prop:=
 ∃W:Nat->Nat->St->Hp->List V->Prop,(∃m,W 0 m AR (aV H1 D (.lst [])) [])/\∀i m σ H ys,W i m σ H ys->H D=some (.lst ys)/\
  ((J.stop i H/\Q (.ref D) H)\/(J.go i H/\ys.length<sizeLine/\∀x H2,J.yld i H x H2->g x σ H2 λσ3 H3=>tc σ3 H3 λb HA=>if b=true then te σ3 HA λy H4=>H4 D=some (.lst ys)/\∃m',m'<m/\W (i+1) m' σ3 (aV H4 D (.lst (ys++[y]))) (ys++[y])else ∃m',m'<m/\W (i+1) m' σ3 HA ys))
def Ro(own:List Str)(cap:List (Nat×Str))(wi:TI)(g:TG)(tc:TT)(te:TE):TE:=λσ H Q=>wi σ H λJ H1=>∀D,H1 D=none->wE J g tc te (iH own cap σ) H1 D Q
section
variable{prog:Program}{w:am}{A:aq}{R:oy->aa->Prop}{s:aa}
theorem Tv{elt target iter cnd:ag}{sc:Scope}{pos:ah}{it acc:Value}{env:az}(I:Nat->aa->Prop)
  (turn:∀n s,I n s->wpAny (model prog w) A (pyNext it) (λr s1=>match r with
   |none=>R (.ok .next) s1
   |some v=>wpAny (model prog w) A (letOwnedTupleGo target it v) (λ_ s2=>wpAny (model prog w) A (assign target env v) (λ_ s3=>wpAny (model prog w) A (isTrue cnd env (eval cnd env)) (λb sA=>if b=true then wpAny (model prog w) A (eval elt env)
     (λx s4=>wpAny (model prog w) A (call (.builtin "list.append") [acc,x]) (λ_ s5=>∃m,m<n/\I m s5) (λ_ _=>False) s4) (λ_ _=>False) sA else ∃m,m<n/\I m sA) (λ_ _=>False) s3) (λ_ _=>False) s2) (λ_ _=>False) s1) (λ_ _=>False) s)
  (n:Nat)(h:I n s):codeAny (model prog w) A (.compLoop (.ListComp elt [⟨target,iter,[cnd],0⟩] sc pos) 0 it acc env) R s:=by
 refine codeAny_loop rfl I (λn s hI=>?_) n h;show wpAny _ _ ((compTurn (.ListComp elt [⟨target,iter,[cnd],0⟩] sc pos) 0 it acc env).onRaise (λx=>do noteFrame x env;theTreesLotGoes x)) _ _ s;refine wpAny_noted ?_;rw[compTurn_list];refine ae (ot (ae ?_));refine dr (turn n s hI) (λr s1 h1=>?_) λ_ _ z=>z.elim;cases r with
 |none=>exact ai h1
 |some v=>
  refine ae (dr h1 (λ_ s2 h2=>?_) λ_ _ z=>z.elim);refine ae (dr h2 (λ_ s3 h3=>?_) λ_ _ z=>z.elim);refine ae (wpAny_tests_one (dr h3 (λok sA hA=>?_) λ_ _ z=>z.elim));cases ok with
  |true=>
   rw[if_pos rfl]at hA⊢;refine ae (ae (dr hA (λx s4 h4=>?_) λ_ _ z=>z.elim));refine ae (dr h4 (λ_ s5 h5=>?_) λ_ _ z=>z.elim);exact ai (ai ⟨rfl,h5⟩)
  |false=>
   rw[if_neg jh]at hA⊢;exact ae (ai (ai ⟨rfl,hA⟩))
end
section
variable{X:Cx}{sc:Scope}{own:List Str}{cap:List (Nat×Str)}{AM:List (Addr×Obj)}{σ:St}{H:Hp}{s:aa}{elt target iter cnd:ag}{pos pos':ah}{wi:TI}{g:TG}{tc:TT}{te:TE}{Q:VK}
theorem Aw{use:Option (Value->Sem Unit)}{Qf:Value->aa->Prop}(k:gO X sc own cap)(hi:PI X target iter wi)(hc:X.calm=true)
  (hg:∀C AN AO ex,PG (eD X sc (bW own cap) C AN AO ex) target g)(ht:∀C AN AO ex,PT (eD X sc (bW own cap) C AN AO ex) cnd tc)(he:∀C AN AO ex,PE (eD X sc (bW own cap) C AN AO ex) elt te)(I:aF X AM σ H s)(h:Ro own cap wi g tc te σ H Q)
  (fin:∀D C s' H' m,aF X AM σ H' s'->fG X AM H' C->s'.heap.Ns C m->Q (.ref D) H'->compPost (model X.prog X.w) X.A X.xe use Qf (.ref D) C (.ok .next) s')
  (hs:∀x,foldedSetIterable iter X.env x=pure x):
  wpAny (model X.prog X.w) X.A (comprehension (.ListComp elt [⟨target,iter,[cnd],0⟩] sc pos) sc X.env pos' (newList []) false (eval iter X.env) use) Qf X.xe s:=by
 refine vt (use:=use) rfl hs (La (k.has I.ok)) k.kind k.names ?_;refine bC (hi AM s σ H _ I h) λv s1 h1=>bC h1 λitv s2 h2=>?_;obtain⟨it,fp,tn,J,H2,e,I2,T,st2,f2,hW⟩:=h2;subst e;refine ir (zy k.nocell (λy hy=>nomatch hy) (λh4 hns hsb=>?_) k.kind);have I3:aF X AM σ (aV H2 s2.heap.objs.size (.lst [])) {s2 with heap:=s2.heap.push {cls:=.type "list",data:=.seq ([]:AE).toArray},toks:=s2.toks}:=I2.lnew (ys:=[]) (its:=[]) .nil (ft _);have hD:H2 s2.heap.objs.size=none:=I2.fresh;have ltf:∀b∈fp,b<s2.heap.objs.size:=λb hb=>by
  obtain⟨o,ho,_⟩:=T.obj _ _ st2 b hb;exact br ho
 have f3:∀b∈fp,fG X AM (aV H2 s2.heap.objs.size (.lst [])) b:=λb hb=>⟨by rw[bO (cw (ltf b hb))];exact(f2 b hb).1,(f2 b hb).2⟩;have un:Un (dS X.stack) fp H2 (aV H2 s2.heap.objs.size (.lst [])) s2.heap (s2.heap.push {cls:=.type "list",data:=.seq ([]:AE).toArray}):=Un.laid (λb u q=>av _ q) (aj _) hD;have kp:∀b o,(s2.heap.push {cls:=.type "list",data:=.seq ([]:AE).toArray}).get? b=some o->h4.get? b=some o:=λb o q=>hsb.extBut b o (cw (br q)) (av _ q);have J0:=I3.cmp (t':=s2.toks+([]:List (Str×Value)).length) k f3 (λb hb=>db (ltf b hb) (by rw[jd];exact lb _)) hns kp;have stat:∀{H':Hp},(∀b∈fp,H' b=none)->∀b∈fp,fG (eD X sc (bW own cap) (s2.heap.push {cls:=.type "list",data:=.seq ([]:AE).toArray}).objs.size {s2 with heap:=s2.heap.push {cls:=.type "list",data:=.seq ([]:AE).toArray},toks:=s2.toks} (aV H2 s2.heap.objs.size (.lst [])) fp) [] H' b:=λhn b hb=>
  ⟨hn b hb,(J0.ok.exf b hb).1,J0.ok.exfs b hb,.inl hb,(J0.ok.exf b hb).2,λp hp=>absurd (show p∈([]:List (Addr×Obj)) from hp) (by simp)⟩
 have st4:tn 0 h4:=T.keep _ _ _ st2 λb hb o q=>kp b o (av _ q);have fr0:∀b∈fp,(aV H2 s2.heap.objs.size (.lst [])) b=none:=λb hb=>(f3 b hb).1;have loop:codeAny (model X.prog X.w) X.A (.compLoop (.ListComp elt [⟨target,iter,[cnd],0⟩] sc pos) 0 (.ref it) (.ref s2.heap.objs.size) (compEnvC sc (fX X.env sc.names []) (s2.heap.push {cls:=.type "list",data:=.seq ([]:AE).toArray}).objs.size X.env))
   (compPost (model X.prog X.w) X.A X.xe use Qf (.ref s2.heap.objs.size) (s2.heap.push {cls:=.type "list",data:=.seq ([]:AE).toArray}).objs.size) {s2 with heap:=h4,toks:=s2.toks+([]:List (Str×Value)).length}:=by
  obtain⟨W,⟨m0,w0⟩,turn⟩:=hW s2.heap.objs.size hD;refine Tv (λn s'=>∃i σ' H' ys,aF (eD X sc (bW own cap) (s2.heap.push {cls:=.type "list",data:=.seq ([]:AE).toArray}).objs.size {s2 with heap:=s2.heap.push {cls:=.type "list",data:=.seq ([]:AE).toArray},toks:=s2.toks} (aV H2 s2.heap.objs.size (.lst [])) fp) [] σ' H' s'/\tn i s'.heap/\(∀b∈fp,H' b=none)/\W i n σ' H' ys) ?_ m0
   ⟨0,_,_,[],J0,st4,fr0,w0⟩
  rintro n s5 ⟨i,σ5,H5,ys,I5,st5,fr5,w5⟩
  obtain⟨hD5,w5⟩:=turn i n σ5 H5 ys w5;rcases w5 with⟨stop,qn⟩|⟨go,hlt,step⟩
  .refine bC (T.done (eD X sc (bW own cap) (s2.heap.push {cls:=.type "list",data:=.seq ([]:AE).toArray}).objs.size {s2 with heap:=s2.heap.push {cls:=.type "list",data:=.seq ([]:AE).toArray},toks:=s2.toks} (aV H2 s2.heap.objs.size (.lst [])) fp) rfl rfl rfl hc i [] s5 σ5 H5 _ I5 (stat fr5) st5 stop) λr s6 ⟨hr,I6⟩=>?_
   subst hr;obtain⟨m,hn,_⟩:=id I6.loc;exact fin _ _ s6 H5 m (I2.uncmp (s3:={s2 with heap:=s2.heap.push {cls:=.type "list",data:=.seq ([]:AE).toArray},toks:=s2.toks}) f2 un rfl I6) (I3.fpOk (aj _) I6.free) hn qn
  .refine bC (T.item (eD X sc (bW own cap) (s2.heap.push {cls:=.type "list",data:=.seq ([]:AE).toArray}).objs.size {s2 with heap:=s2.heap.push {cls:=.type "list",data:=.seq ([]:AE).toArray},toks:=s2.toks} (aV H2 s2.heap.objs.size (.lst [])) fp) rfl rfl rfl hc i [] s5 σ5 H5 _ I5 (stat fr5) st5 go) λr s6 ⟨u,hr,h6⟩=>?_
   subst hr;refine bC h6 λ_ s7 ⟨x,H7,I7,r7,y7,st7,fr7⟩=>?_;have I7':=I7.pinned (stat fr7) (T.obj _ _ st7);refine bC (hg _ _ _ _ _ s7 σ5 H7 x u _ I7' r7 (step x H7 y7)) λ_ s8 ⟨σ8,H8,I8,q8⟩=>?_;refine bC (ht _ _ _ _ _ s8 σ8 H8 _ I8 q8) λbb sA ⟨HA,IA,qA⟩=>?_;cases bb with
   |true=>
    rw[if_pos rfl];rw[if_pos rfl]at qA;refine bC (he _ _ _ _ _ sA σ8 HA _ IA qA) λv9 s9 ⟨y,H9,I9,r9,hD9,m',hm,w9⟩=>?_;refine bC (rR _ s9 σ8 H9 (.ref s2.heap.objs.size) [y] (.ref s2.heap.objs.size) [v9] (λ_ H'=>H'=aV H9 s2.heap.objs.size (.lst (ys++[y]))) I9 rfl (.cons r9 .nil) ⟨_,ys,y,rfl,rfl,hD9,hlt,rfl⟩) λ_ s10 ⟨_,H10,I10,_,q10⟩=>?_;subst q10;refine⟨m',hm,i+1,σ8,_,_,I10.unpinned,T.keep _ _ _ st7 λb hb o q=>(I10.pin (b,o) (cu _ (cu _ (kT hb q)))).1,λb hb=>?_,w9⟩;obtain⟨o,q,d⟩:=T.obj _ _ st7 b hb;exact(I10.pin (b,o) (cu _ (cu _ (kT hb q)))).2.1
   |false=>
    rw[if_neg jh];rw[if_neg jh]at qA;obtain⟨m',hm,w9⟩:=qA;refine⟨m',hm,i+1,σ8,_,_,IA.unpinned,T.keep _ _ _ st7 λb hb o q=>(IA.pin (b,o) (cu _ (cu _ (kT hb q)))).1,λb hb=>?_,w9⟩;obtain⟨o,q,d⟩:=T.obj _ _ st7 b hb;exact(IA.pin (b,o) (cu _ (cu _ (kT hb q)))).2.1
 exact vw loop (T.self _ 0 _ _ _ st4 loop)
theorem Dz(k:gO X sc own cap)(hi:PI X target iter wi)(hc:X.calm=true)
  (hg:∀C AN AO ex,PG (eD X sc (bW own cap) C AN AO ex) target g)(ht:∀C AN AO ex,PT (eD X sc (bW own cap) C AN AO ex) cnd tc)(he:∀C AN AO ex,PE (eD X sc (bW own cap) C AN AO ex) elt te)
  (hs:∀x,foldedSetIterable iter X.env x=pure x:=by intro _;rfl):PE X (.ListComp elt [⟨target,iter,[cnd],0⟩] sc pos) (Ro own cap wi g tc te):=by
 intro AM s σ H Q I h;rw[vz];refine Aw (use:=none) k hi hc hg ht he I h (λD C s' H' m I' fC hn q=>?_) hs;refine⟨m,hn,λh' sb=>⟨.ref D,H',?_,rfl,q⟩⟩;obtain⟨f0,f1,f2,f3,f4,f5⟩:=fC;exact I'.turned (t':=s'.toks) (λb o hb e=>(sb.2 b hb).trans e) f0 f1 f3 f4 f5
end
end L2
namespace L2.Pp
open PySem PySem.Spec PyProof.Rows Bn
open Classical in
noncomputable def fF(G:Gd)(g:GM)(mc:MT)(me:ME):AI->bM->aH->bG AI
 |[],_,S=>if gY G S then .ok [] S else .fail
 |x::r,ρ,S=>if gY G S then(match g x ρ with
  |none=>.fail
  |some ρ1=>match mc ρ1 S with
   |.ok true S0=>(match me ρ1 S0 with
    |.ok (.pv y) S1=>match fF G g mc me r ρ1 S1 with
     |.ok ys S2=>.ok (y::ys) S2
     |_=>.fail
    |_=>.fail)
   |.ok false S0=>fF G g mc me r ρ1 S0
   |_=>.fail)else .fail
theorem Qv{g:GM}{mc:MT}{me:ME}{ρ:bM}{S:aH}:fF [] g mc me [] ρ S=.ok [] S:=by
 unfold fF;rw[if_pos (kG S)]
theorem Vu{g:GM}{mc:MT}{me:ME}{x:PV}{r:AI}{ρ:bM}{S:aH}:fF [] g mc me (x::r) ρ S=(match g x ρ with
  |none=>.fail
  |some ρ1=>match mc ρ1 S with
   |.ok true S0=>(match me ρ1 S0 with
    |.ok (.pv y) S1=>match fF [] g mc me r ρ1 S1 with
     |.ok ys S2=>.ok (y::ys) S2
     |_=>.fail
    |_=>.fail)
   |.ok false S0=>fF [] g mc me r ρ1 S0
   |_=>.fail):=by
 rw[fF,if_pos (kG S)]
noncomputable def vN(own:List Str)(cap:List (Nat×Str))(mi:MI)(g:GM)(mc:MT)(me:ME):ME:=λρ S=>(mi ρ S).bind λxs S1=>(fF xs.2 g mc me xs.1 (cG own cap ρ) S1).bind λys S2=>.ok (.pv (.lst ys)) S2
theorem Jf{G:Gd}{g:GM}{mc:MT}{me:ME}:∀(xs:AI)(ρ:bM)(S:aH)(n:Str)(S':aH),fF G g mc me xs ρ S≠.exc n S'
 |[],_,_,_,_,e=>by
  unfold fF at e;split at e<;>cases e
 |x::r,ρ,S,n,S',e=>by
  unfold fF at e;split at e
  .split at e
   .cases e
   .split at e
    .split at e
     .split at e<;>cases e
     .cases e
    .exact Jf r _ _ _ _ e
    .cases e
  .cases e
theorem zE{G:Gd}{g:GM}{mc:MT}{me:ME}{xs zs:AI}{ρ:bM}{S S':aH}(e:fF G g mc me xs ρ S=.ok zs S'):gY G S:=by
 cases xs with
 |nil=>
  unfold fF at e;split at e
  .assumption
  .cases e
 |cons x r=>
  unfold fF at e;split at e
  .assumption
  .cases e
theorem Zx{J:It}{g:TG}{tc:TT}{te:TE}{AR:St}{H1:Hp}{D:Addr}{Q:VK}(n:Nat)(hn:n<=sizeLine)(Pv:Nat->St->Hp->List V->Prop)(h0:Pv 0 AR (aV H1 D (.lst [])) [])
  (hl:∀i σ H ys,Pv i σ H ys->ys.length<=i/\H D=some (.lst ys))(hgo:∀i σ H ys,i<n->Pv i σ H ys->J.go i H)
  (hs:∀i σ H ys x H2,i<n->Pv i σ H ys->J.yld i H x H2->g x σ H2 λσ3 H3=>tc σ3 H3 λb HA=>if b=true then te σ3 HA λy H4=>H4 D=some (.lst ys)/\∃m',m'<n-i/\(m'=n-(i+1)/\i+1<=n/\Pv (i+1) σ3 (aV H4 D (.lst (ys++[y]))) (ys++[y]))else ∃m',m'<n-i/\(m'=n-(i+1)/\i+1<=n/\Pv (i+1) σ3 HA ys))
  (hd:∀σ H ys,Pv n σ H ys->J.stop n H/\Q (.ref D) H):wE J g tc te AR H1 D Q:=by
 refine⟨λi m σ H ys=>m=n-i/\i<=n/\Pv i σ H ys,⟨n,rfl,ft _,h0⟩,?_⟩
 rintro i m σ H ys ⟨rfl,hi,p⟩
 obtain⟨l1,l2⟩:=hl i σ H ys p;refine⟨l2,?_⟩
 by_cases hlt:i<n
 .exact .inr ⟨hgo i σ H ys hlt p,by omega,λx H2 y=>hs i σ H ys x H2 hlt p y⟩
 .have e:i=n:=by omega
  subst e;exact .inl (hd σ H ys p)
theorem n1{n i:Nat}{P:Prop}(h:i<n)(p:P):∃m',m'<n-i/\(m'=n-(i+1)/\i+1<=n/\P):=⟨n-(i+1),by omega,rfl,h,p⟩
section
variable{K:af}{cl:Str->Addr}{E:XK}{X:Cx}{p q:Ph}{H H':Hp}{S:aH}{sc:Scope}{own:List Str}{cap:List (Nat×Str)}{elt target iter cnd:ag}{pos:ah}{mi:MI}{g:GM}{mc:MT}{me:ME}
theorem Uv{σ:St}{ρ:bM}{xs zs:AI}{G:Gd}{J:It}{Q:VK}{D:Addr}{S2:aH}(sm:aU K p S H)(ev:dE K p H ρ σ)(it:eY K p H (xs,G) J)(z:fF G g mc me xs (cG own cap ρ) S=.ok zs S2)(hD:H D=none)
  (k:∀q H' vs,bI p H q H'->aU K q S2 H'->aU K (q.hold D) S2 H'->q.w D->D∉q.f->H' D=some (.lst vs)->vs.length<=sizeLine->aQ K q.c H' zs vs->Q (.ref D) H'):
  wE J (gP K g) (tP K cl E0 RB mc) (tP K cl E0 (bR K) me) (iH own cap σ) H D Q:=by
 obtain⟨st0,sm0⟩:=sm.res (D:=D) (o:=.lst []) hD trivial;have sh0:=sm.resHold (D:=D) (o:=.lst []) hD trivial;have nf0:D∉p.f:=λh=>sm.notin hD (sm.wc D (sm.sub D h));refine Zx xs.length it.1 (λi σ1 H1 ys=>ys.length<=i/\i<=xs.length/\H1 D=some (.lst ys)/\∃p1 S1 ρ1 us ws,(aU K p1 S1 H1/\aU K (p1.hold D) S1 H1)/\bI p H p1 H1/\p1.w D/\D∉p1.f/\dE K p1 H1 ρ1 σ1/\eY K p1 H1 (xs,G) J/\gY G S1/\aQ K p1.c H1 us ys/\zs=us++ws/\fF G g mc me (xs.drop i) ρ1 S1=.ok ws S2) ?_ ?_ ?_ ?_ ?_
 .refine⟨aj _,ft _,eT,p.res D,S,cG own cap ρ,[],zs,⟨sm0,sh0⟩,st0,.inr rfl,nf0,Nk (st0.repE ev),it.step st0,?_,.nil,rfl,by simpa using z⟩
  exact zE z
 .rintro i σ1 H1 ys ⟨h1,_,h2,_⟩
  exact⟨h1,h2⟩
 .rintro i σ1 H1 ys hi ⟨_,_,_,p1,S1,ρ1,us,ws,⟨sm1,sh1⟩,st1,w1,f1,ev1,it1,g1,_⟩
  exact((it1.2 p1 H1 S1 sm1.step sm1 g1).1 i xs[i] (au hi)).1
 .rintro i σ1 H1 ys x H2 hi ⟨hl,_,hH,p1,S1,ρ1,us,ws,⟨sm1,sh1⟩,st1,w1,f1,ev1,it1,g1,r1,e1,c1⟩ hy
  obtain⟨same,rx⟩:=((it1.2 p1 H1 S1 sm1.step sm1 g1).1 i xs[i] (au hi)).2 x H2 hy;rw[rp hi]at c1;unfold fF at c1;rw[if_pos g1]at c1;split at c1
  .cases c1
  .rename_i ρ2 gz
   have st2:=sm1.same same;have sm2:=sm1.ofSame same;have smh:=sh1.ofSame same;have hD2:H2 D=some (.lst ys):=same _ _ hH;have go:∀(q:Ph)(H4:Hp)(S3:aH)(σ3:St),dE K p1 H2 ρ2 σ3->bI (p1.hold D) H2 q H4->aU K q S3 H4->H4 D=some (.lst ys)/\∃q2:Ph,bI p1 H1 q2 H4/\aU K q2 S3 H4/\aU K (q2.hold D) S3 H4/\q2.w D/\D∉q2.f/\dE K q2 H4 ρ2 σ3/\q2.c=q.c:=λq H4 S3 σ3 ev3 st4 sm4=>by
    have hD4:H4 D=some (.lst ys):=st4.keep D _ hD2 λz=>z.2 rfl;have fq:D∉q.f:=λh=>by
     have:=st4.nf D h f1;rw[hD2]at this;cases this
    have stU:=bI.unhold w1 st4 sm2;have nq:¬q.w D:=λz=>by
     have:=st4.nw D z λy=>y.2 rfl;rw[hD2]at this;cases this
    have smU:aU K ⟨q.f,λa=>q.w a\/a=D,q.c⟩ S3 H4:=⟨sm4.nd,sm4.len,λa h=>.inl (sm4.sub a h),λa h=>h.elim (sm4.wc a) λz=>z▸st4.mono D (sm2.wc D w1),sm4.mu,λk a o e1 e2=>
     (sm4.obj k a o e1 e2).mono (λ_ e=>e) (λb w f=>⟨⟨.inl w,f⟩,λ_ e=>e⟩) λ_ _ r=>r⟩
    have shU:aU K (Ph.hold ⟨q.f,λa=>q.w a\/a=D,q.c⟩ D) S3 H4:=⟨sm4.nd,sm4.len,λa h=>⟨.inl (sm4.sub a h),λz=>nq (z▸sm4.sub a h)⟩,λa h=>smU.wc a h.1,sm4.mu,λk a o e1 e2=>
     (sm4.obj k a o e1 e2).mono (λ_ e=>e) (λb w f=>⟨⟨⟨.inl w,λz=>nq (z▸w)⟩,f⟩,λ_ e=>e⟩) λ_ _ r=>r⟩
    exact⟨hD4,_,st2.trans stU,smU,shU,.inr rfl,fq,stU.repE ev3,rfl⟩
   split at c1
   .rename_i SA mz
    split at c1
    .rename_i y S3 ez
     split at c1
     .rename_i vs S4 cz
      cases c1;refine⟨p1,S1,ρ1,xs[i],ρ2,sm2,st2.repE ev1,rx,gz,λσ3 ev3=>⟨p1.hold D,S1,ρ2,smh,⟨ev3.len,ev3.at_⟩,?_⟩⟩;rw[mz];intro q HA b stA smA rb;cases rb;rw[if_pos rfl];refine⟨q,SA,ρ2,smA,stA.repE (p:=p1.hold D) ⟨ev3.len,ev3.at_⟩,?_⟩;rw[ez];intro q4 H4 y' st4 sm4 ry;obtain⟨hD4,q2,stQ,smQ,shQ,wQ,fQ,evQ,cQ⟩:=go q4 H4 S3 σ3 ev3 (stA.trans st4) sm4;obtain⟨stG,smG,shG⟩:=smQ.grow (ys:=ys) (D:=D) (o:=.lst (ys++[y'])) shQ wQ fQ trivial;have stB:=stQ.trans stG;have ry:aP K q4.c H4 y y':=ry;rw[<-cQ]at ry;refine⟨hD4,n1 hi ⟨by rw[bf];exact uz hl,hi,eT,q2,S3,ρ2,us++[y],vs,⟨smG,shG⟩,st1.trans stB,wQ,fQ,stG.repE evQ,it1.step stB,zE cz,?_,by rw[e1,fz];rfl,cz⟩⟩;exact(stB.reps r1).append (.cons (stG.rep ry) .nil)
     .cases c1
    .cases c1
   .rename_i SA mz
    refine⟨p1,S1,ρ1,xs[i],ρ2,sm2,st2.repE ev1,rx,gz,λσ3 ev3=>⟨p1.hold D,S1,ρ2,smh,⟨ev3.len,ev3.at_⟩,?_⟩⟩;rw[mz];intro q HA b stA smA rb;cases rb;rw[if_neg jh];obtain⟨hD4,q2,stQ,smQ,shQ,wQ,fQ,evQ,cQ⟩:=go q HA SA σ3 ev3 stA smA;exact n1 hi ⟨xk hl,hi,hD4,q2,SA,ρ2,us,ws,⟨smQ,shQ⟩,st1.trans stQ,wQ,fQ,evQ,it1.step stQ,zE c1,stQ.reps r1,e1,c1⟩
   .cases c1
 .rintro σ1 H1 ys ⟨hl,_,hH,p1,S1,ρ1,us,ws,⟨sm1,sh1⟩,st1,w1,f1,ev1,it1,g1,r1,e1,c1⟩
  rw[sa]at c1;unfold fF at c1;rw[if_pos g1]at c1;cases c1;refine⟨(it1.2 p1 H1 _ sm1.step sm1 g1).2,?_⟩;rw[gv]at e1;subst e1;exact k p1 H1 ys st1 sm1 sh1 w1 f1 hH (dy hl it.1) r1
theorem Hv{σ:St}{ρ:bM}{xs:AI×Gd}{J:It}{Q:VK}{D:Addr}(sm:aU K p S H)(ev:dE K p H ρ σ)(it:eY K p H xs J)(k:bN K cl (bR K) p H ((fF xs.2 g mc me xs.1 (cG own cap ρ) S).bind λys S2=>.ok (.pv (.lst ys)) S2) Q E)(hD:H D=none):
  wE J (gP K g) (tP K cl E0 RB mc) (tP K cl E0 (bR K) me) (iH own cap σ) H D Q:=by
 cases z:fF xs.2 g mc me xs.1 (cG own cap ρ) S with
 |fail=>rw[z]at k;exact k.elim
 |exc n S'=>exact absurd z (Jf _ _ _ _ _)
 |ok zs S2=>
  rw[z]at k;have k:∀q H' x,bI p H q H'->aU K q S2 H'->aP K q.c H' (.lst zs) x->Q x H':=k;refine Uv sm ev it z hD λq H' vs st1 sm1 sh1 w1 f1 hH l1 r1=>?_;refine k (q.less D) H' (.ref D) (st1.toLess hD) sh1.toLess ?_;unfold aP;exact⟨D,vs,rfl,.inl ⟨hH,λz=>z.2 rfl⟩,l1,nP (λa h=>h.1) r1⟩
theorem Vy(k:gO X sc own cap)(hi:PIp K cl E X target iter mi)(hc:X.calm=true)(hg:∀C AN AO ex,lG K (eD X sc (bW own cap) C AN AO ex) target g)(ht:∀C AN AO ex,fJ K cl E0 (eD X sc (bW own cap) C AN AO ex) cnd mc)(he:∀C AN AO ex,aT K cl E0 (eD X sc (bW own cap) C AN AO ex) elt me)
  (hs:∀x,foldedSetIterable iter X.env x=pure x:=by intro _;rfl):aT K cl E X (.ListComp elt [⟨target,iter,[cnd],0⟩] sc pos) (vN own cap mi g mc me):=by
 intro hK;refine PE.imp (Dz k (hi hK) hc (λC AN AO ex=>hg C AN AO ex hK) (λC AN AO ex=>ht C AN AO ex hK) (λC AN AO ex=>he C AN AO ex hK) hs) λσ H Q ⟨p,S,ρ,s,ev,h⟩=>?_;exact bU s ev h λq H' xs J S' cR sm ev it kk D hD=>Hv sm ev it kk hD
end
end L2.Pp
namespace L2
open PySem PySem.Spec PyProof.Rows Bn
open L2.Pp
section
variable{X:Cx}{AM:List (Addr×Obj)}{σ:St}{H:Hp}{s:aa}{c:Addr->Prop}{a b:Addr}{n:Bool}{k:fT n}{ks:AI}{us:AE}
theorem Qh:∀{l:AA}{vs:List V},aQ X.K c H (l.map PV.int) vs->vs=l.map V.int
 |[],vs,h=>by
  unfold lq aQ at h;exact h
 |i::l,vs,h=>by
  rw[ay]at h;unfold aQ at h;obtain⟨v,r,rfl,h1,h2⟩:=h;unfold aP at h1;rw[h1,Qh h2];rfl
theorem Ml(I:aF X AM σ H s){l:AA}(r:aP X.K c H (.tup (l.map PV.int)) (.ref b)):gD s.heap l b:=by
 unfold aP at r;obtain⟨a,vs,e,sq,_,r⟩:=r;cases e;obtain⟨its,rv,⟨o,ho,hc,m,hd⟩,_⟩:=I.tuple sq;rw[Qh r]at rv;exact⟨o,its.toArray,m,ho,hc,hd,by simpa using rv⟩
theorem Yg(I:aF X AM σ H s):∀{l:AC}{vs:List V}{its:AE},aQ X.K c H (l.map λr:AA=>PV.tup (r.map PV.int)) vs->aZ vs its->ig (λk v=>∃b,v=ie b/\gD s.heap k b) l its
 |[],vs,its,h,rv=>by
  unfold lq aQ at h;subst h;cases rv;exact .nil
 |i::l,vs,its,h,rv=>by
  rw[ay]at h;unfold aQ at h;obtain⟨v,r,rfl,h1,h2⟩:=h;cases rv with
  |cons e t=>
   have h1':=h1;unfold aP at h1';obtain⟨a,ws,rfl,_⟩:=h1';cases e;exact .cons ⟨_,rfl,Ml I h1⟩ (Yg I h2 t)
theorem Yb(I:aF X AM σ H s):∀{n:Bool}{k:fT n}{b:Addr},aP X.K c H (dR n k) (.ref b)->(lC X.prog X.w n).is s.heap k b
 |false,k,b,r=>gD.key (Ml I r)
 |true,k,b,r=>by
  have r:aP X.K c H (.tup (lq (λr:AA=>PV.tup (r.map PV.int)) k)) (.ref b):=r;unfold aP at r;obtain⟨a,vs,e,sq,_,r⟩:=r;cases e;obtain⟨its,rv,⟨o,ho,hc,m,hd⟩,_⟩:=I.tuple sq;exact⟨o,its.toArray,m,ho,hc,hd,by simpa using Yg I r rv⟩
theorem zZ:∀{l m:AA},l.map PV.int=m.map PV.int->l=m
 |[],[],_=>rfl
 |[],_::_,h=>by cases h
 |_::_,[],h=>by cases h
 |i::l,j::m,h=>by
  rw[ay,ay]at h;injection h with h1 h2;injection h1 with h1;rw[h1,zZ h2]
theorem pR:∀{n:Bool}{k k':fT n},dR n k=dR n k'->k=k'
 |false,k,k',h=>by
  unfold dR at h;injection h with h;exact zZ h
 |true,k,k',h=>by
  unfold dR at h;injection h with h;have go:∀{l m:AC},l.map (λr:AA=>PV.tup (r.map PV.int))=m.map (λr:AA=>PV.tup (r.map PV.int))->l=m:=by
   intro l
   induction l with
   |nil=>
    intro m h;cases m with
    |nil=>rfl
    |cons _ _=>cases h
   |cons x l ih=>
    intro m h;cases m with
    |nil=>cases h
    |cons y m=>
     rw[ay,ay]at h;injection h with h1 h2;injection h1 with h1;rw[zZ h1,ih h2]
  exact go h
theorem vA:∀{ps:AI}{vs:List V}{i:Nat}{v:V},aQ X.K c H ps vs->vs[i]?=some v->∃p,ps[i]?=some p/\aP X.K c H p v:=λ{ps vs i v} r e=>by
 have hi:i<ps.length:=by
  rw[r.length];exact(ca.mp e).1
 obtain⟨u,e1,e2⟩:=r.get (au hi);rw[e]at e1;cases e1;exact⟨_,au hi,e2⟩
theorem sR{es:Array DictEntry}{ep:Nat}(I:aF X AM σ H s)(h:H a=some (dO a es ep)):s.heap.get? a=some (oD es ep):=(I.hok a _ h).1
theorem Pz{es:Array DictEntry}{ep:Nat}:(oD es ep).ExactDict:=⟨rfl,rfl,rfl⟩
theorem Cq(I:aF X AM σ H s){xs:List (fT n×Addr×Value)}{ep:Nat}(h:H a=some (dO a (xs.map (jO n)).toArray ep))(nd:(xs.map (·.1)).Nodup)(r:aQ X.K c H (xs.map λx=>dR n x.1) (xs.map λx=>V.ref x.2.1)):
  s.heap.DictOfH (lC X.prog X.w n) a xs:=by
 refine⟨_,_,ep,sR I h,Pz,rfl,?_,λx hx=>?_,nd⟩
 .have:jO n=entryOfKey (lC X.prog X.w n):=by
   funext x
   unfold jO entryOfKey;rw[Dh]
  simp[this]
 .obtain⟨i,hi,e⟩:=wv.mp hx
  obtain⟨p,e1,e2⟩:=vA (i:=i) (v:=.ref x.2.1) r (by rw[bj,au hi,e];rfl);rw[bj,au hi,e]at e1;cases e1;exact Yb I e2
theorem Pj{xs:List (fT n×Addr×Value)}(nd:(xs.map (·.1)).Nodup):
  (∃(i:Nat)(p:Addr×Value),xs[i]?=some (k,p)/\atKey xs k=some p)\/((∀i:Nat,(xs.map λx=>dR n x.1)[i]?≠some (dR n k))/\atKey xs k=none):=by
 by_cases h:∃(i:Nat)(p:Addr×Value),xs[i]?=some (k,p)
 .obtain⟨i,p,h⟩:=h
  exact .inl ⟨i,p,h,atKey_of_get nd h⟩
 .refine .inr ⟨λi e=>?_,atKey_none_of_get λj p e=>h ⟨j,p,e⟩⟩
  rw[bj]at e;cases z:xs[i]? with
  |none=>rw[z]at e;cases e
  |some x=>
   rw[z]at e;have e:dR n x.1=dR n k:=cg e;exact h ⟨i,x.2,by rw[z,<-pR e]⟩
def oX(K:af)(H:Hp)(a b:Addr)(vs:List V)(Q:V->Prop)(N:Prop):Prop:=
 ∃(c:Addr->Prop)(n:Bool)(k:fT n)(ks:AI)(us:AE),nJ K c H a n ks us/\aZ vs us/\aP K c H (dR n k) (.ref b)/\(∀(i:Nat)(v:V),ks[i]?=some (dR n k)->vs[i]?=some v->Q v)/\((∀i:Nat,ks[i]?≠some (dR n k))->N)
theorem Ul(I:aF X AM σ H s){vs:List V}{Q:V->Prop}{N:Prop}(g:oX X.K H a b vs Q N):∃(n:Bool)(k:fT n)(xs:List (fT n×Addr×Value)),(a==sysModules)=false/\s.heap.DictOfH (lC X.prog X.w n) a xs/\(lC X.prog X.w n).is s.heap k b/\
  ((∃p v,atKey xs k=some p/\bK v p.2/\Q v)\/(atKey xs k=none/\N)):=by
 obtain⟨c,n,k,ks,us,⟨xs,ep,e,z,l,nd,rfl,r,rfl⟩,rv,rk,q1,q2⟩:=g;refine⟨n,k,xs,z,Cq I e nd r,Yb I rk,?_⟩;rcases Pj (k:=k) nd with⟨i,p,hx,ha⟩|⟨hn,ha⟩
 .have hi:=(ca.mp hx).1
  have hv:i<vs.length:=by
   rw[rv.length,ak];exact hi
  obtain⟨u,e1,e2⟩:=rv.get (au hv);rw[bj,hx]at e1;cases e1;exact .inl ⟨p,_,ha,e2,q1 i _ (by rw[bj,hx];rfl) (au hv)⟩
 .exact .inr ⟨ha,q2 hn⟩
def aal(K:af):V->List V->Hp->VK->Prop:=λx xs H Q=>∃a b z vs,x=.ref a/\xs=[.ref b,z]/\oX K H a b vs (λv=>Q v H) (Q z H)
theorem A7(hu:X.A.units+2<cLine):tR X "dict.get" (aal X.K):=by
 intro AM s σ H x xs v us Q I rx rv h;obtain⟨a,b,z,vs,rfl,rfl,g⟩:=h;cases rx;obtain⟨u1,u2,rfl,r1,r2⟩:=rv.two;cases r1;obtain⟨n,k,xs,hd,dd,hk,o⟩:=Ul I g;refine call_meetsIn j7 dd.typeIs PySem.F.entry_dict_get (PySem.F.args_dict_get_3 _ _ _) (meetsH_dict_get_default (lC X.prog X.w n) a b hd u2) ⟨yN hu n,k,xs,hk,dd,?_⟩;rcases o with⟨p,v,e,rv,q⟩|⟨e,q⟩
 .rw[e]
  exact⟨v,H,I.tok _,rv,q⟩
 .rw[e]
  exact⟨z,H,I.tok _,r2,q⟩
def aco(K:af):R2:=λx y H Q=>∃a b vs,x=.ref a/\y=.ref b/\oX K H a b vs (λv=>Q v H) False
theorem L1(hu:X.A.units+2<cLine):lH X (aco X.K):=by
 intro value slice AM s σ H x y v u Q I rx ry h hs;obtain⟨a,b,vs,rfl,rfl,g⟩:=h;cases rx;cases ry;obtain⟨n,k,xs,hd,dd,hk,o⟩:=Ul I g;rcases o with⟨p,v,e,rv,q⟩|⟨e,q⟩
 .unfold subscriptTail
  refine ae ?_;rw[getitemInPython_of_ne dd.typeIs.not_modules];refine ae (wpAny_specialOf dd.typeIs PySem.F.slot_dict_getitem.lookup ?_);have fin:wpAny (model X.prog X.w) X.A (subscripted slice false (.ref a) (.ref b)) (λr s₃=>wpAny (model X.prog X.w) X.A (letTemporaryGo value (.ref a) r >>= λ_=>pure r) (EP X AM σ Q) X.xe s₃) X.xe s:=by
   rw[hs];exact wpAny_operating (wpAny_getItem_heap (yN hu n) hk dd e (ae (wpAny_letTemporaryGo (ai ⟨v,H,I.tok _,rv,q⟩))))
  first
   |exact ai (ae fin)
   |exact ae (ai (ae fin))
   |exact ae fin
 .exact q.elim
def oV(H:Hp)(a:Addr)(n:Bool)(ks:AI)(rs:List V)(us:AE):Prop:=
 ∃(xs:List (fT n×Addr×Value))(ep:Nat),H a=some (dO a (xs.map (jO n)).toArray ep)/\(a==sysModules)=false/\xs.length<=sizeLine/\(xs.map (·.1)).Nodup/\ks=xs.map (λx=>dR n x.1)/\rs=xs.map (λx=>V.ref x.2.1)/\us=xs.map (·.2.2)
theorem Bq{K:af}(d:nJ K c H a n ks us):∃rs,oV H a n ks rs us/\aQ K c H ks rs:=by
 obtain⟨xs,ep,e,z,l,nd,ek,r,eu⟩:=d;exact⟨_,⟨xs,ep,e,z,l,nd,ek,rfl,eu⟩,r⟩
theorem oV.at_{K:af}{rs:List V}(d:oV H a n ks rs us)(r:aQ K c H ks rs):nJ K c H a n ks us:=by
 obtain⟨xs,ep,e,z,l,nd,ek,er,eu⟩:=d;subst er;exact⟨xs,ep,e,z,l,nd,ek,r,eu⟩
def DPt(H:Hp)(a:Addr)(n:Bool)(ks:AI)(rs:List V)(us:AE)(k:fT n)(b:Addr)(u:Value)(H':Hp):Prop:=
 ∃es ep,H'=aV H a (dO a es ep)/\((∃i:Nat,ks[i]?=some (dR n k)/\oV H' a n ks rs (us.set i u))\/((∀i:Nat,ks[i]?≠some (dR n k))/\oV H' a n (ks++[dR n k]) (rs++[.ref b]) (us++[u])))
theorem A9{xs:List (fT n×Addr×Value)}{i:Nat}{p:Addr×Value}{u:Value}(nd:(xs.map (·.1)).Nodup)(hx:xs[i]?=some (k,p)):(xs.map (putAt k u)).map (·.2.2)=(xs.map (·.2.2)).set i u:=by
 refine mj λj=>?_;have hi:=(ca.mp hx).1;rw[sj,ak,bj,bj,bj]
 by_cases h:i=j
 .subst h
  rw[if_pos rfl,if_pos hi,hx];simp[putAt]
 .rw[if_neg h]
  cases z:xs[j]? with
  |none=>rfl
  |some x=>
   have:x.1≠k:=λe=>h (xp nd (p:=p) (q:=x.2) hx (by rw[z,<-e]));simp[putAt,this]
theorem Ly{xs:List (fT n×Addr×Value)}{u:Value}:(xs.map (putAt k u)).map (λx=>V.ref x.2.1)=xs.map (λx=>V.ref x.2.1):=by
 rw[fg];refine iw λx _=>?_;simp only[j8,putAt];split<;>rfl
theorem Wy{xs:List (fT n×Addr×Value)}{u:Value}:(xs.map (putAt k u)).map (λx=>dR n x.1)=xs.map (λx=>dR n x.1):=by
 rw[fg];refine iw λx _=>?_;simp only[j8,putAt];split<;>rfl
def aa4(K:af):wY:=λo i v H Q=>∃(a b:Addr)(c:Addr->Prop)(n:Bool)(k:fT n)(ks:AI)(rs:List V)(us:AE),o=.ref a/\i=.ref b/\oV H a n ks rs us/\aQ K c H ks rs/\aP K c H (dR n k) (.ref b)/\us.length<sizeLine/\
 ∀u H',bK v u->DPt H a n ks rs us k b u H'->Q H'
theorem Uz(hu:X.A.units+2<cLine):Ee X (aa4 X.K):=by
 intro AM s σ H o i v ov iv u Q I ro ri rv h;obtain⟨a,b,c,n,k,ks,rs,us,rfl,rfl,d,r,rk,hl,q⟩:=h;cases ro;cases ri;obtain⟨xs,ep,e,z,l,nd,rfl,rfl,rfl⟩:=d;have dd:=Cq I e nd r;rw[ak]at hl;refine wpAny_setItem_heap (hsz:=l) (yN hu n) (Yb I rk) dd λh' dd' hs=>?_;obtain⟨ob,es,ep',ho,hex,hd,he,_,hnd⟩:=dd';have eob:ob=oD es ep':=by
  obtain⟨e1,e2,e3⟩:=hex;cases ob;simp only at e1 e2 e3 hd;subst e1 e2 e3 hd;rfl
 subst eob;have een:jO n=entryOfKey (lC X.prog X.w n):=by
  funext x
  unfold jO entryOfKey;rw[Dh]
 have ees:es=((storedH xs k b u).map (jO n)).toArray:=by
  rw[een,<-he]
 have I':aF X AM σ (aV H a (dO a es ep')) {s with heap:=h',toks:=s.toks+(lC X.prog X.w n).draws k}:=
  I.write (x:=a) (e:=a) (by rw[e];exact trivial) (.inl rfl) (λb' q' hb z'=>(hs.2 b' hb).trans z') ⟨_,ho⟩ ⟨ho,⟨_,ho⟩,λh1 h2 p kk=>kk _ p⟩
 refine⟨_,I',q u _ rv ⟨es,ep',rfl,?_⟩⟩;have hat:(aV H a (dO a es ep')) a=some (dO a ((storedH xs k b u).map (jO n)).toArray ep'):=by rw[eT,ees]
 rcases Pj (k:=k) nd with⟨i,p,hx,ha⟩|⟨hn,ha⟩
 .refine .inl ⟨i,by rw[bj,hx];rfl,storedH xs k b u,ep',hat,z,?_,hnd,?_,?_,?_⟩
  .rw[sk ha,ak]
   exact l
  .rw[sk ha,Wy]
  .rw[sk ha,Ly]
  .rw[sk ha,A9 nd hx]
 .refine .inr ⟨hn,storedH xs k b u,ep',hat,z,?_,hnd,?_,?_,?_⟩
  .rw[sr ha,bf]
   exact hl
  .rw[sr ha,ib]<;>rfl
  .rw[sr ha,ib]<;>rfl
  .rw[sr ha,ib]<;>rfl
def Be(x:V)(H:Hp):Prop:=∃a es ep,x=.ref a/\H a=some (dO a es ep)
theorem X4{o e:ag}{es:List ag}{to:TE}{t:TA}{name:Str}{apos cpos:ah}{id:String}{r:V->List V->Hp->VK->Prop}(slot:Slot "dict" name id)(hty:typeOf (.builtin id)=pure (.type "method_descriptor"))(hm:tR X id r)(ho:PE X o to)(ha:PA X (e::es) t)
  (hbase:attributeBase o name X.env (eval o X.env)=eval o X.env:=by rfl)
  (hfew:((backTo cpos (starEach (e::es) X.env)).all (λx=>!x.1)&&(backToKw cpos (keywordEach [] X.env)).all (λx=>x.1.isSome)
   &&decide ((e::es).length+([]:List iz).length+(if([]:List iz).isEmpty then 0 else 1)<30))=true:=by rfl)
  (hline:(apos.endLine==cpos.line)=true:=by rfl)(hs:starEach (e::es) X.env=(false,eval e X.env)::starEach es X.env:=by rfl)(hplain:(backTo cpos (starEach es X.env)).any (·.1)=false:=by rfl):
  PE X (.Call (.Attribute o name apos) (e::es) [] cpos) (λσ H Q=>to σ H λx H1=>Be x H1/\t σ H1 λxs H2=>r x xs H2 Q):=by
 intro AM s σ H Q I h;refine zl hbase hfew hline rfl (bC (ho AM s σ H _ I h) λv s1 ⟨x,H1,I1,r1,⟨a,ds,ep,ex,hH⟩,q1⟩=>?_);subst ex;cases r1;have hg:=sR I1 hH;refine⟨"dict",id,j9,slot,hty,⟨_,hg,rfl⟩,λb eb=>?_,?_⟩
 .cases eb
  exact⟨_,hg,rfl⟩
 have hA:=ha cpos AM s1 σ H1 _ I1 q1;rw[hs]at hA⊢;refine uv (by show(false||(backTo cpos (starEach es X.env)).any (·.1))=false;rw[hplain]<;>rfl) (uw ?_);exact bC hA λus s2 ⟨vs,H2,I2,r2,q2⟩=>hm AM s2 σ H2 (.ref a) vs (.ref a) us Q I2 rfl r2 q2
theorem Q6(I:aF X AM σ H s):sysModules<s.heap.objs.size:=by
 have h:mainGlobals<s.heap.objs.size:=(I.mod.glob.keeps I.bk).lt;exact vo (by decide) h
theorem Sy{pos:ah}:PE X (.Dict [] [] pos) (λ_ H Q=>∀p,H p=none->(p==sysModules)=false->Q (.ref p) (aV H p (dO p #[] 0))):=λAM s σ H Q I h=>
 wpAny_Dict_empty ⟨.ref s.heap.objs.size,_,I.laid (a:=s.heap.objs.size) (o:=dO s.heap.objs.size #[] 0) (t':=s.toks) (λ_ _ q=>av _ q) (aj _) ⟨cy _ rfl,⟨_,cy _ rfl⟩,λh1 h2 p kk=>kk _ p⟩,rfl,
  h _ (I.hok.fresh (aj _)) (beq_eq_false_iff_ne.mpr (gr (cw (Q6 I))))⟩
end
end L2
namespace L2.Pp
noncomputable section
open PySem PySem.Spec PyProof.Rows Bn
open Classical in
def jC{α:Type}(kvs:List (PV×α))(k:PV):Option Nat:=kvs.findIdx? λkv=>decide (kv.1=k)
def jN{α:Type}(kvs:List (PV×α))(k:PV):Option α:=match jC kvs k with
 |some i=>kvs[i]?.map (·.2)
 |none=>none
def kA{α:Type}(kvs:List (PV×α))(k:PV)(v:α):List (PV×α):=match jC kvs k with
 |some i=>kvs.set i (k,v)
 |none=>kvs++[(k,v)]
def xI(n:Bool)(k:PV):Prop:=∃k',k=dR n k'
theorem mG{α:Type}{kvs:List (PV×α)}{k:PV}{i:Nat}(h:jC kvs k=some i):∃v,kvs[i]?=some (k,v):=by
 unfold jC at h;obtain⟨hi,e,_⟩:=List.findIdx?_eq_some_iff_getElem.mp h;have e:kvs[i].1=k:=by simpa using e
 refine⟨kvs[i].2,?_⟩;rw[au hi];congr 1;exact um e rfl
theorem zN{α:Type}{kvs:List (PV×α)}{k:PV}(h:jC kvs k=none)(i:Nat):(kvs.map (·.1))[i]?≠some k:=by
 unfold jC at h;rw[List.findIdx?_eq_none_iff]at h;intro e;rw[bj]at e;cases z:kvs[i]? with
 |none=>rw[z]at e;cases e
 |some x=>
  rw[z]at e;have:=h x (cv z);have e:x.1=k:=cg e;simp[e]at this
theorem Hc{α:Type}{kvs:List (PV×α)}{k:PV}{i:Nat}(h:(kvs.map (·.1))[i]?=some k):∃j,jC kvs k=some j:=by
 cases z:jC kvs k with
 |some j=>exact⟨j,rfl⟩
 |none=>exact absurd h (zN z i)
def sU(n:Bool):ME:=λ_ S=>.ok (.ref S.length) (S++[.dic n []])
open Classical in
def qO(d k:AV)(S:aH)(z:AK):bG AV:=match d,k with
 |.ref j,.pv k=>match S[j]? with
  |some (.dic n kvs)=>if xI n k then(match jN kvs k,z with
   |some v,_=>.ok (.pv v) S
   |none,some z=>.ok z S
   |none,none=>.fail)else .fail
  |_=>.fail
 |_,_=>.fail
def abS(md mk:ME):ME:=λρ S=>(md ρ S).bind λd S1=>(mk ρ S1).bind λk S2=>qO d k S2 none
def wG{α:Type}(d:AV)(S:aH)(f:bG α):bG α:=match d with
 |.ref j=>(match S[j]? with
  |some (.dic _ _)=>f
  |_=>.fail)
 |_=>.fail
def tE(md:ME)(ms:MA):ME:=λρ S=>(md ρ S).bind λd S1=>wG d S1 ((ms ρ S1).bind λks S2=>match ks with
 |[k,z]=>qO d k S2 (some z)
 |_=>.fail)
open Classical in
def sW(d k v:AV)(S:aH):bG AV:=match d,k,v with
 |.ref j,.pv k,.pv v=>match S[j]? with
  |some (.dic n kvs)=>if xI n k/\kvs.length<16777216 then .ok (.pv .non) (S.set j (.dic n (kA kvs k v)))else .fail
  |_=>.fail
 |_,_,_=>.fail
def tG(md mk mv:ME):MS:=λρ S=>bV.of (mv ρ S) λv S1=>bV.of (md ρ S1) λd S2=>bV.of (mk ρ S2) λk S3=>bV.of (sW d k v S3) λ_ S4=>.nx ρ S4
section
variable{K:af}{cl:Str->Addr}{E:XK}{X:Cx}{p q:Ph}{H H':Hp}{S:aH}{a b e o i v:ag}{es:List ag}{m md mk mv:ME}{ms:MA}{pos:ah}
theorem O2(n:Bool):aT K cl E X (.Dict [] [] pos) (sU n):=by
 intro hK;subst hK;refine PE.imp Sy λσ H Q ⟨p,S,ρ,s,ev,h⟩ t ht hs=>?_;have ob:mU X.K ⟨p.f++[t],λa=>p.w a\/a=t,λa=>p.c a\/a=t⟩ (aV H t (dO t #[] 0)) t (.dic n []):=
  ⟨[],[],⟨[],0,eT,hs,ft _,sf,rfl,.nil,rfl⟩,.nil,.nil⟩
 obtain⟨st,sm⟩:=s.pushO ht (show Mb (dO t #[] 0) from trivial) ob;exact h _ _ (.ref t) st sm ⟨t,by show(p.f++[t])[S.length]?=some t;rw[<-s.len,di (aj _),gg];rfl,rfl⟩
theorem Wp(s:aU K p S H){j:Nat}{a:Addr}{n:Bool}{kvs:List (PV×PV)}{k:PV}{y:V}{Q:V->Prop}{N:Prop}(ej:p.f[j]?=some a)(z:S[j]?=some (.dic n kvs))(hk:xI n k)(ry:aP K p.c H k y)
  (q:∀v x,jN kvs k=some v->aP K p.c H v x->Q x)(qn:jN kvs k=none->N):∃b vs,y=.ref b/\oX K H a b vs Q N:=by
 obtain⟨k',rfl⟩:=hk;obtain⟨us,vs,d,rv,r⟩:=s.obj j a _ ej z;have ey:∃b,y=.ref b:=by
  cases n with
  |false=>
   have ry:aP K p.c H (.tup (lq PV.int k')) y:=ry;unfold aP at ry;obtain⟨b,_,e,_⟩:=ry;exact⟨b,e⟩
  |true=>
   have ry:aP K p.c H (.tup (lq (λr:AA=>PV.tup (r.map PV.int)) k')) y:=ry;unfold aP at ry;obtain⟨b,_,e,_⟩:=ry;exact⟨b,e⟩
 obtain⟨b,rfl⟩:=ey;have nd:∀i j:Nat,(kvs.map (·.1))[i]?=some (dR n k')->(kvs.map (·.1))[j]?=some (dR n k')->i=j:=by
  obtain⟨xs,ep,_,_,_,nd,ek,_⟩:=d;intro i j h1 h2;rw[ek,bj]at h1 h2;cases z1:xs[i]? with
  |none=>rw[z1]at h1;cases h1
  |some x=>
   cases z2:xs[j]? with
   |none=>rw[z2]at h2;cases h2
   |some y=>
    rw[z1]at h1;rw[z2]at h2;have e1:=pR (cg h1);have e2:=pR (cg h2);have e1:x.1=k':=e1;have e2:y.1=k':=e2;exact xp nd (p:=x.2) (q:=y.2) (k:=k') (by rw[z1,<-e1]) (by rw[z2,<-e2])
 refine⟨b,vs,rfl,p.c,n,k',_,us,d,rv,ry,λi x h1 h2=>?_,λhn=>qn ?_⟩
 .obtain⟨j',hj⟩:=Hc h1
  obtain⟨v,hv⟩:=mG hj;have ei:j'=i:=nd j' i (by rw[bj,hv];rfl) h1;subst ei;obtain⟨x',e1,e2⟩:=r.get (i:=j') (p:=v) (by rw[bj,hv];rfl);rw[h2]at e1;cases e1;exact q v x (by unfold jN;rw[hj];simp[hv]) e2
 .cases z:jC kvs (dR n k')with
  |none=>unfold jN;rw[z]
  |some i=>
   obtain⟨v,hv⟩:=mG z;exact absurd (by rw[bj,hv];rfl) (hn i)
theorem Oi{d k:AV}{z:AK}{x y:V}{Q:VK}(s:aU K p S H)(rd:bR K p H d x)(rk:bR K p H k y)(h:bN K cl (bR K) p H (qO d k S z) Q E):
  ∃a b vs,x=.ref a/\y=.ref b/\oX K H a b vs (λv=>Q v H) (∃w,z=some w/\∀u,bR K p H w u->Q u H):=by
 cases d with
 |pv _=>cases k<;>exact h.elim
 |ref j=>
  cases k with
  |ref _=>exact h.elim
  |pv k=>
   obtain⟨a,ej,rfl⟩:=rd;unfold qO at h;dsimp only at h;split at h
   .rename_i n kvs hS
    split at h
    .rename_i hk
     obtain⟨b,vs,e,g⟩:=Wp (y:=y) (Q:=λv=>Q v H) (N:=∃w,z=some w/\∀u,bR K p H w u->Q u H) s ej hS hk rk (λv x e r=>by
      rw[e]at h;exact bN.ret (R:=bR K) (a:=.pv v) h s r) (λe=>by
      rw[e]at h;cases z with
      |none=>exact h.elim
      |some w=>exact⟨w,rfl,λu r=>bN.ret (R:=bR K) h s r⟩)
     exact⟨a,b,vs,rfl,e,g⟩
    .exact h.elim
   .exact h.elim
theorem Mn{a b:Addr}{vs:List V}{Q Q':V->Prop}{N N':Prop}(g:oX K H a b vs Q N)(f:∀v,Q v->Q' v)(f':N->N'):oX K H a b vs Q' N':=by
 obtain⟨c,n,k,ks,us,d,rv,rk,q1,q2⟩:=g;exact⟨c,n,k,ks,us,d,rv,rk,λi v h1 h2=>f v (q1 i v h1 h2),λh=>f' (q2 h)⟩
theorem abO(hu:X.A.units+8<cLine)(ha:aT K cl E X a md)(hb:aT K cl E X b mk)(hs:vG b:=by intro _ _;rfl):aT K cl E X (.Subscript a b pos) (abS md mk):=by
 intro hK;subst hK;refine PE.imp (Qc (L1 (by omega)) (ha rfl) (hb rfl) hs) λσ H Q ⟨p,S,ρ,s,ev,h⟩=>?_;refine bU s ev h λq H1 d x S1 st s1 e1 r1 h1=>bU s1 e1 h1 λq2 H2 k y S2 st2 s2 e2 r2 h2=>?_;obtain⟨a,b,vs,ex,ey,g⟩:=Oi s2 (st2.repA r1) r2 h2;exact⟨a,b,vs,ex,ey,Mn g (λ_ h=>h) λ⟨w,e,_⟩=>nomatch e⟩
theorem Ww{α β:Type}{R:Ph->Hp->α->β->Prop}{d:AV}{x:V}{f:bG α}{Q:β->Hp->Prop}(s:aU K p S H)(rd:bR K p H d x)(h:bN K cl R p H (wG d S f) Q E):Be x H/\bN K cl R p H f Q E:=by
 cases d with
 |pv _=>exact h.elim
 |ref j=>
  obtain⟨a,ej,rfl⟩:=rd;unfold wG at h;dsimp only at h;split at h
  .rename_i n kvs hS
   obtain⟨us,vs,⟨xs,ep,e,_⟩,_⟩:=s.obj j a _ ej hS;exact⟨⟨a,_,_,rfl,e⟩,h⟩
  .exact h.elim
theorem G7{apos cpos:ah}{f:ag}(hu:X.A.units+8<cLine)(ho:aT K cl E X o md)(ha:eM K cl E X [e,f] ms)(hbase:attributeBase o "get" X.env (eval o X.env)=eval o X.env:=by rfl)
  (hfew:((backTo cpos (starEach [e,f] X.env)).all (λx=>!x.1)&&(backToKw cpos (keywordEach [] X.env)).all (λx=>x.1.isSome)&&decide (([e,f]:List ag).length+([]:List iz).length+(if([]:List iz).isEmpty then 0 else 1)<30))=true:=by rfl)
  (hline:(apos.endLine==cpos.line)=true:=by rfl)(hs:starEach [e,f] X.env=(false,eval e X.env)::starEach [f] X.env:=by rfl)(hplain:(backTo cpos (starEach [f] X.env)).any (·.1)=false:=by rfl):aT K cl E X (.Call (.Attribute o "get" apos) [e,f] [] cpos) (tE md ms):=by
 intro hK;subst hK;refine PE.imp (X4 j7 PySem.F.type_dict_get (A7 (by omega)) (ho rfl) (ha rfl) hbase hfew hline hs hplain) λσ H Q ⟨p,S,ρ,s,ev,h⟩=>?_;refine bU s ev h λq H1 d x S1 st s1 e1 r1 h1=>?_;obtain⟨hd,h1⟩:=Ww s1 r1 h1;refine⟨hd,bU s1 e1 h1 λq2 H2 ks ys S2 st2 s2 e2 r2 h2=>?_⟩;cases r2 with
 |nil=>exact h2.elim
 |cons r3 rr=>
  cases rr with
  |nil=>exact h2.elim
  |cons r4 rs=>
   cases rs with
   |nil=>
    obtain⟨a,b,vs,ex,ey,g⟩:=Oi s2 (st2.repA r1) r3 h2;exact⟨a,b,_,vs,ex,by rw[ey],Mn g (λ_ h=>h) λ⟨w',e,q'⟩=>by cases e;exact q' _ r4⟩
   |cons _ _=>exact h2.elim
theorem aU.writeO(s:aU K p S H){D:Addr}{k:Nat}{o:SO}{ho:HO}(h:p.f[k]?=some D)(hk:k<S.length)(mo:Mb ho)(ob:bI p H p (aV H D ho)->mU K p (aV H D ho) D o):bI p H p (aV H D ho)/\aU K p (S.set k o) (aV H D ho):=by
 have w:p.w D:=s.sub D (cv h);have st:bI p H p (aV H D ho):=⟨s.wc,s.mu,ju,λ_ h=>h,λ_ h=>h,λ_ h g=>absurd h g,λ_ h g=>absurd h g,λ_ h g=>absurd h g,λa u e nw=>by
  rw[bO (λz:a=D=>nw (by rw[z];exact w))];exact e⟩
 refine⟨st,s.nd,by rw[dj];exact s.len,s.sub,s.wc,λa x=>?_,λj a u e1 e2=>?_⟩
 .by_cases z:a=D
  .rw[z,eT]
   exact⟨ho,rfl,mo⟩
  .rw[bO z]
   exact s.mu a x
 .by_cases hj:k=j
  .subst hj
   rw[de hk]at e2;cases e2;rw[h]at e1;cases e1;exact ob st
  .rw[dz hj]at e2
   have ne:a≠D:=λz=>hj (pJ s.nd h (by rw[z]at e1;exact e1));exact(s.obj j a u e1 e2).mono (λvs e=>by rw[bO ne];exact e) (λb w f=>⟨⟨w,f⟩,λvs e=>by rw[bO (λz:b=D=>f (z▸cv h))];exact e⟩) λ_ _ r=>st.reps r
theorem aZ.setI{vs:List V}{us:AE}{x:V}{u:Value}(r:aZ vs us)(rx:bK x u):∀i,aZ (vs.set i x) (us.set i u):=λi=>r.set rx i
theorem P6{tpos:ah}(hu:X.A.units+8<cLine)(hv:aT K cl E X v mv)(ho:aT K cl E X o md)(hi:aT K cl E X i mk)
  (ha:∀v,assign (.Subscript o i tpos) X.env v=(do
   let ov <-holding [v] (eval o X.env)
   let iv <-holding [v,ov] (eval i X.env)
   standAt tpos
   holding [v,ov,iv] (setItem ov iv v)
   release [v,ov,iv] []):=by intro _;rfl)
  (hs:swapsWithSole [.Subscript o i tpos] v pos.line X.env=pure false:=by rfl)(hw:swappedStores [.Subscript o i tpos] v X.env=pure none:=by rfl)
  (h1:(assignEach [.Subscript o i tpos] X.env).map (·.2)=[assign (.Subscript o i tpos) X.env]:=by rfl):eO K cl E X (.Assign [.Subscript o i tpos] v pos) (tG md mk mv):=by
 intro hK;subst hK;refine PS.imp (Gb (hv rfl) (Gc (ho rfl) (hi rfl) (Uz (by omega)) ha) hs hw h1) λD σ H ⟨p,S,ρ,s,ev,h⟩=>?_;refine iR s ev h λq H1 v x S1 st s1 e1 r1 h1=>?_;refine iR s1 e1 h1 λq2 H2 d y S2 st2 s2 e2 r2 h2=>?_;refine iR s2 e2 h2 λq3 H3 k z S3 st3 s3 e3 r3 h3=>?_;have r2:=st3.repA r2;have r1:=st3.repA (st2.repA r1);cases d with
 |pv _=>cases k<;>cases v<;>exact h3.elim
 |ref j=>
  cases k with
  |ref _=>cases v<;>exact h3.elim
  |pv k=>
   cases v with
   |ref _=>exact h3.elim
   |pv v=>
    obtain⟨a,ej,rfl⟩:=r2;have h3:eC X.K cl q3 H3 (bV.of (sW (.ref j) (.pv k) (.pv v) S3) λ_ S4=>.nx ρ S4) D E:=h3;unfold sW at h3;dsimp only at h3;cases hS:S3[j]? with
    |none=>simp only[hS]at h3;exact h3.elim
    |some o=>
     cases o with
     |lst _=>simp only[hS]at h3;exact h3.elim
     |lol _=>simp only[hS]at h3;exact h3.elim
     |dol _ _=>simp only[hS]at h3;exact h3.elim
     |dic n kvs=>
      simp only[hS]at h3
      by_cases hc:xI n k/\kvs.length<16777216
      .rw[if_pos hc]at h3
       obtain⟨⟨k',rfl⟩,hl⟩:=hc;obtain⟨us,vs,d,rv,r⟩:=s3.obj j a _ ej hS;have rk:aP X.K q3.c H3 (dR n k') z:=r3;have ez:∃b,z=.ref b:=by
        obtain⟨b,_,e,_⟩:=Wp (Q:=λ_=>True) (N:=True) s3 ej hS ⟨k',rfl⟩ rk (λ_ _ _ _=>trivial) λ_=>trivial;exact⟨b,e⟩
       obtain⟨b,rfl⟩:=ez;obtain⟨rs,dw,rr⟩:=Bq d;have lu:us.length=kvs.length:=by
        rw[<-rv.length,<-r.length,ak]
       refine⟨a,b,q3.c,n,k',_,rs,us,rfl,rfl,dw,rr,rk,by rw[lu,iP];exact hl,λu H' ru hp=>?_⟩;obtain⟨es,ep,rfl,hp⟩:=hp;have hj:=(ca.mp hS).1;obtain⟨st4,sm4⟩:=s3.writeO (o:=.dic n (kA kvs (dR n k') v)) ej hj (show Mb (dO a es ep) from trivial) λst4=>by
        rcases hp with⟨i,hi,dw'⟩|⟨hn,dw'⟩
        .obtain⟨i',hi'⟩:=Hc hi
         obtain⟨w,hw'⟩:=mG hi';have ei:i'=i:=by
          obtain⟨xs,_,_,_,_,nd,ek,_⟩:=dw;have g1:(kvs.map (·.1))[i']?=some (dR n k'):=by rw[bj,hw'];rfl
          rw[ek,bj]at g1 hi;cases z1:xs[i']? with
          |none=>rw[z1]at g1;cases g1
          |some x1=>
           cases z2:xs[i]? with
           |none=>rw[z2]at hi;cases hi
           |some x2=>
            rw[z1]at g1;rw[z2]at hi;have e1:x1.1=k':=pR (cg g1);have e2:x2.1=k':=pR (cg hi);exact xp nd (p:=x1.2) (q:=x2.2) (k:=k') (by rw[z1,<-e1]) (by rw[z2,<-e2])
         subst ei;have ek:kA kvs (dR n k') v=kvs.set i' (dR n k',v):=by unfold kA;rw[hi']
         refine⟨us.set i' u,vs.set i' x,?_,aZ.setI rv ru i',?_⟩
         .rw[ek]
          have e1:(kvs.set i' (dR n k',v)).map (·.1)=kvs.map (·.1):=by
           rw[pq];refine mj λt=>?_;rw[sj];split
           .rename_i ht
            subst ht;rw[if_pos (by rw[ak];exact(ca.mp hw').1),bj,hw'];rfl
           .rfl
          rw[e1];exact dw'.at_ (st4.reps rr)
         .rw[ek,pq]
          exact aQ.set (st4.rep r1) i' (st4.reps r)
        .have ei:jC kvs (dR n k')=none:=by
          cases z0:jC kvs (dR n k')with
          |none=>rfl
          |some i=>
           obtain⟨w,hw'⟩:=mG z0;exact absurd (by rw[bj,hw'];rfl) (hn i)
         have ek:kA kvs (dR n k') v=kvs++[(dR n k',v)]:=by unfold kA;rw[ei]
         refine⟨us++[u],vs++[x],?_,aZ.append rv (.cons ru .nil),?_⟩
         .rw[ek,ib]
          exact dw'.at_ ((st4.reps rr).append (.cons (st4.rep rk) .nil))
         .rw[ek,ib]
          exact(st4.reps r).append (.cons (st4.rep r1) .nil)
       exact h3 _ _ _ st4 sm4 (st4.repE e3)
      .rw[if_neg hc]at h3
       exact h3.elim
end
end
end L2.Pp
namespace L2
open PySem PySem.Spec PyProof.Rows Bn L2.Pp
section
variable{prog:Program}{w:am}{A:aq}{E:Value->aa->Prop}{s:aa}{it d i ep:Nat}{es:Array DictEntry}
theorem Yl{h:i<es.size}:(if(i:Int)<0 then none else es[(i:Int).toNat]?)=some es[i]:=by
 rw[if_neg (by omega),la,Array.getElem?_eq_getElem h]
theorem Fm{h:¬i<es.size}:(if(i:Int)<0 then none else es[(i:Int).toNat]?)=none:=by
 rw[if_neg (by omega),la,Array.getElem?_eq_none (by omega)]
theorem To{Q:AF->aa->Prop}{h1:Heap}(hh:A.handled=none)(sb:oa it s.heap h1)(q:∀h',oa it s.heap h'->Q none {s with heap:=h'}):
  wpAny (model prog w) A.in1 (newExc (.type "StopIteration") [] >>= raiseNew (α:=oi)) (λ_ _=>False) (λe s'=>wpAny (model prog w) A (isInstance e (.type "StopIteration")) (λb s2=>b=true/\Q none s2) E s') {s with heap:=h1}:=by
 refine ae ?_;simp only[newExc,newTuple];refine ae (ir ?_ (by size_fits));refine ae (m:=firstArgMember _ _) (wpAny_of_eq (a:=cj) (by first |rfl |(simp only[firstArgMember];rfl)) ?_)
 refine ir ?_ (by size_fits);simp only[raiseNew];refine ae (wpAny_handled ?_);rw[show A.in1.handled=none from hh];refine ae (ai (wpAny_throw ?_));exact wk (T:="StopIteration") (b:=true) ⟨_,cy _ rfl,rfl⟩ isSubtype_stop ⟨rfl,q _ ((sb.push _).push _)⟩
theorem H0{Q:oi->aa->Prop}{E':Value->aa->Prop}(hit:s.heap.IsKeyIter it d i es.size ep)(hd:s.heap.get? d=some (oD es ep))
  (q1:∀h:i<es.size,∀h',h'.IsKeyIter it d (i+1) es.size ep->ik it s.heap h'->Q (.done (.ret es[i].key)) {s with heap:=h'})
  (q2:¬i<es.size->∀h',ik it s.heap h'->wpAny (model prog w) A.in1 (newExc (.type "StopIteration") [] >>= raiseNew (α:=oi)) Q E' {s with heap:=h'}):
  wpAny (model prog w) A.in1 (Builtin.«dict_keyiterator.__next__» ⟨[.ref it],[]⟩) Q E' s:=by
 obtain⟨o,ho,hc,hf⟩:=id hit;have nm:∀{s':aa}{R:Nat->aa->Prop},s'.TypeIs (.ref it) "dict_keyiterator"->R 0 s'->wpAny (model prog w) A.in1 (do let t <-typeNameOfWhole (.ref it);pure (if pr t then 2 else 0)) R E' s':=λhT r=>
  ae (wpAny_typeNameOfWhole_keyiter hT (ai (by rw[show pr "dict_keyiterator"=false by decide];exact r)))
 refine ae (ai (ae (ae (nm hit.typeIs (ae (wpAny_fieldsOf ho hf ?_))))));show wpAny _ _ (if(ie d==cj)=true then _ else _) _ _ s;rw[if_neg (show ¬((ie d==cj)=true) from jh)];refine ae (ai (ae (xq hd rfl ?_)));rw[if_neg (by simp)];refine ae (ai (ae (xu hd rfl ?_)));rw[if_neg (by simp)];refine ai ?_
 by_cases h:i<es.size
 .simp only[Yl (h:=h)]
  refine ae (nm hit.typeIs (ae (k4 hit.typeIs ?_)));show wpAny _ _ (setField (.ref it) 1 (rawInt ((i:Int)+1)) >>= _) _ _ s;refine ae (ld ho hf (by simp) ?_);have hit':(s.heap.update it (ss (·.setIfInBounds 1 (rawInt ((i:Int)+1))))).IsKeyIter it d (i+1) es.size ep:=
   ⟨_,qq _ ho (wd (ny hf _)),(we ..).trans hc,by rw[ny hf];simp[rawInt]⟩
  have tt:k7 {s with heap:=s.heap.update it (ss (·.setIfInBounds 1 (rawInt ((i:Int)+1))))} (.ref it) "dict_keyiterator":=hit'.typeIs;exact ae (kl (ae (k4 tt (ai (ai (q1 h _ hit' (nv ..)))))))
 .simp only[Fm (h:=h)]
  refine ae (nm hit.typeIs ?_);exact ae (ld ho hf (by simp) (q2 h _ (nv ..)))
theorem Xm{Q:oi->aa->Prop}{E':Value->aa->Prop}(hit:s.heap.IsValIter it d i es.size ep)(hd:s.heap.get? d=some (oD es ep))
  (q1:∀h:i<es.size,∀h',h'.IsValIter it d (i+1) es.size ep->ik it s.heap h'->Q (.done (.ret es[i].val)) {s with heap:=h'})
  (q2:¬i<es.size->∀h',ik it s.heap h'->wpAny (model prog w) A.in1 (newExc (.type "StopIteration") [] >>= raiseNew (α:=oi)) Q E' {s with heap:=h'}):
  wpAny (model prog w) A.in1 (Builtin.«dict_valueiterator.__next__» ⟨[.ref it],[]⟩) Q E' s:=by
 obtain⟨o,ho,hc,hf⟩:=id hit;have nm:∀{s':aa}{R:Nat->aa->Prop},s'.TypeIs (.ref it) "dict_valueiterator"->R 0 s'->wpAny (model prog w) A.in1 (do let t <-typeNameOfWhole (.ref it);pure (if pr t then 2 else 0)) R E' s':=λhT r=>
  ae (wpAny_typeNameOfWhole_valiter hT (ai (by rw[show pr "dict_valueiterator"=false by decide];exact r)))
 refine ae (ai (ae (ae (nm hit.typeIs (ae (wpAny_fieldsOf ho hf ?_))))));show wpAny _ _ (if(ie d==cj)=true then _ else _) _ _ s;rw[if_neg (show ¬((ie d==cj)=true) from jh)];refine ae (ai (ae (xq hd rfl ?_)));rw[if_neg (by simp)];refine ae (ai (ae (xu hd rfl ?_)));rw[if_neg (by simp)];refine ai ?_
 by_cases h:i<es.size
 .simp only[Yl (h:=h)]
  refine ae (nm hit.typeIs (ae (xw hit.typeIs ?_)));show wpAny _ _ (setField (.ref it) 1 (rawInt ((i:Int)+1)) >>= _) _ _ s;refine ae (ld ho hf (by simp) ?_);have hit':(s.heap.update it (ss (·.setIfInBounds 1 (rawInt ((i:Int)+1))))).IsValIter it d (i+1) es.size ep:=
   ⟨_,qq _ ho (wd (ny hf _)),(we ..).trans hc,by rw[ny hf];simp[rawInt]⟩
  have tt:k7 {s with heap:=s.heap.update it (ss (·.setIfInBounds 1 (rawInt ((i:Int)+1))))} (.ref it) "dict_valueiterator":=hit'.typeIs;exact ae (kl (ae (xw tt (ae (xw tt (ai (ai (q1 h _ hit' (nv ..)))))))))
 .simp only[Fm (h:=h)]
  refine ae (nm hit.typeIs ?_);exact ae (ld ho hf (by simp) (q2 h _ (nv ..)))
theorem abP{Q:AF->aa->Prop}(hh:A.handled=none)(hit:s.heap.IsKeyIter it d i es.size ep)(hd:s.heap.get? d=some (oD es ep))(h:¬i<es.size)
  (q:∀h',oa it s.heap h'->Q none {s with heap:=h'}):wpAny (model prog w) A (pyNext (.ref it)) Q E s:=by
 unfold pyNext;exact ae (pg (kn (name:=gj "__next__") hit.typeIs k8 (ji k8 hit.typeIs F.entry_dict_keyiterator_next
  (H0 hit hd (λn=>absurd n h) λ_ h' sb=>dr (To (E:=E) hh sb.extBut q) (λ_ _ z=>z.elim) λe s2 z=>ae (bC z λb s3 ⟨hb,q3⟩=>by subst hb;exact ai q3)) (F.args_dict_keyiterator_next_1 _))))
theorem Q8{Q:AF->aa->Prop}(hit:s.heap.IsValIter it d i es.size ep)(hd:s.heap.get? d=some (oD es ep))(h:i<es.size)
  (q:∀h',h'.IsValIter it d (i+1) es.size ep->ik it s.heap h'->Q (some es[i].val) {s with heap:=h'}):wpAny (model prog w) A (pyNext (.ref it)) Q E s:=by
 unfold pyNext;exact ae (pg (kn (name:=gj "__next__") hit.typeIs pw (ji pw hit.typeIs l8
  (Xm hit hd (λ_ h' a b=>⟨_,rfl,ai (q h' a b)⟩) λn=>absurd h n) (m7 _))))
theorem U5{Q:AF->aa->Prop}(hh:A.handled=none)(hit:s.heap.IsValIter it d i es.size ep)(hd:s.heap.get? d=some (oD es ep))(h:¬i<es.size)
  (q:∀h',oa it s.heap h'->Q none {s with heap:=h'}):wpAny (model prog w) A (pyNext (.ref it)) Q E s:=by
 unfold pyNext;exact ae (pg (kn (name:=gj "__next__") hit.typeIs pw (ji pw hit.typeIs l8
  (Xm hit hd (λn=>absurd n h) λ_ h' sb=>dr (To (E:=E) hh sb.extBut q) (λ_ _ z=>z.elim) λe s2 z=>ae (bC z λb s3 ⟨hb,q3⟩=>by subst hb;exact ai q3)) (m7 _))))
theorem C4(hh:A.handled=none)(I d:Addr)(hne:d≠I)(es:Array DictEntry)(ep:Nat):
  Walks prog w A I [I,d] [I] es.size (λi v=>∃h:i<es.size,v=es[i].val) (λi h=>h.IsValIter I d i es.size ep/\h.get? d=some (oD es ep)) where
 sub:=λb hb=>by simp at hb;simp[hb]
 frame:=λ_ _ _ st hk=>⟨st.1.at λo e=>hk I (by simp) o e,hk d (by simp) _ st.2⟩
 item:=λi s Q E hi st hQ=>Q8 st.1 st.2 hi λh' hit' sb=>hQ _ h' s.toks ⟨hi,rfl⟩ ⟨hit',(sb.2 d hne).trans st.2⟩ λb o hb e=>sb.extBut b o (λz=>hb (by simp[z])) e
 done:=λs Q E st hQ=>U5 hh st.1 st.2 (jc _) λh' eb=>hQ h' s.toks λb o hb e=>eb b o (λz=>hb (by simp[z])) e
 self:=λ_ _ _ _ st hQ=>wpAny_pyIter_valiter st.1 hQ
end
section
variable{X:Cx}
def Le(v a:Addr):HO:=.ext λh=>h.get? v=some {cls:=.type "dict_values",data:=.fields #[.ref a]}
theorem Lx:tR X "dict.values" (λx xs H Q=>∃a es ep,x=.ref a/\xs=[]/\(a==sysModules)=false/\H a=some (dO a es ep)/\∀v,H v=none->Q (.ref v) (aV H v (Le v a))):=by
 intro AM s σ H x xs v us Q I rx rv h;obtain⟨a,es,ep,rfl,rfl,ns,hH,q⟩:=h;cases rx;cases rv;have hd:=sR I hH;have hT:s.TypeIs (.ref a) "dict":=⟨_,hd,rfl⟩;refine ji m8 hT F.entry_dict_values ?_ (F.args_dict_values_1 _);refine ae (ae (wpAny_notOrdered_dict hT (ai ?_)));show wpAny _ _ (m9 a >>= _) _ _ s;unfold m9;rw[if_neg (by rw[ns];exact jh)];refine ae (ai (ae (ir (ai ⟨_,rfl,?_⟩))));exact⟨.ref s.heap.objs.size,_,I.laid (t':=s.toks) (o:=Le s.heap.objs.size a) (λ_ _ e=>av _ e) (aj _) ⟨cy _ rfl,⟨_,cy _ rfl⟩,λh1 h2 p kk=>kk _ p⟩,rfl,q _ (I.hok.fresh (aj _))⟩
end
section
variable{prog:Program}{w:am}{A:aq}{E:Value->aa->Prop}{s:aa}{v d ep:Nat}{es:Array DictEntry}
theorem T6{Q:Value->aa->Prop}(hv:s.heap.get? v=some {cls:=.type "dict_values",data:=.fields #[.ref d]})(hd:s.heap.get? d=some (oD es ep))
  (q:Q (.ref s.heap.objs.size) {s with heap:=s.heap.push {cls:=.type "dict_valueiterator",data:=.fields #[.ref d,.int 0 0,.int es.size 0,.int ep 0]}}):wpAny (model prog w) A (pyIter (.ref v)) Q E s:=by
 have hT:s.TypeIs (.ref v) "dict_values":=⟨_,hv,rfl⟩;refine wpAny_pyIter_slot hT o0 (ji o0 hT F.entry_dict_values_iter ?_ (F.args_dict_values_iter_1 _));unfold Builtin.«dict_values.__iter__» q9 r0;refine ae (ai (ae (ae (fw hv rfl (x:=.ref d) rfl (ai (ae ?_))))));refine ae (xq hd rfl (ae (xu hd rfl ?_)));simp only[show pr "dict_valueiterator"=false by decide,j1,if_false];exact ir (ai ⟨_,rfl,"dict_valueiterator",_,⟨_,cy _ rfl,rfl⟩,pw.lookup,q⟩)
end
section
variable{X:Cx}
theorem Ev(hc:X.calm=true):jI X (.builtin "any") (λxs H Q=>∃(v a:Addr)(n:Bool)(ks:AI)(rs:List V)(us:AE)(is:AA),xs=[.ref v]/\H v=some (Le v a)/\oV H a n ks rs us/\aZ (is.map V.int) us/\Q (.bl (is.any (· !=0))) H):=by
 intro AM s σ H xs us Q I r h;obtain⟨v,a,n,ks,rs,us',is,rfl,hv,d,rv,q⟩:=h;obtain⟨u,rfl,ru⟩:=kK r;cases ru;obtain⟨ys,ep,e,z,l,nd,rfl,rfl,rfl⟩:=d;have hd:=sR I e;have hl:is.length=ys.length:=by
  have:=rv.length
  rwa[ak,ak]at this
 have hw:s.heap.get? v=some {cls:=.type "dict_values",data:=.fields #[.ref a]}:=(I.hok v _ hv).1;have hsz:(ys.map (jO n)).toArray.size=is.length:=by simp[hl]
 refine call_any_walk (T6 hw hd ⟨_,_,_,_,_,_,λi=>is.getD i 0 !=0,rfl,C4 (show X.A.in1.handled=none from I.ok.hd hc) s.heap.objs.size a (cw (br hd)) _ ep,⟨⟨_,cy _ rfl,rfl,rfl⟩,av _ hd⟩,λi x s' Q' E' hx hQ=>?_,λh' tk kp=>?_⟩)
 .obtain⟨hi,ex⟩:=hx
  have hi':i<is.length:=by rw[<-hsz];exact hi
  obtain⟨y,ey,ry⟩:=rv.get (i:=i) (x:=.int is[i]) (by rw[bj,au hi'];rfl);have eq:x=y:=by
   rw[ex];rw[bj,au (by omega)]at ey;have ey:=cg ey;rw[<-ey];simp[jO]
  subst eq;obtain⟨t,rfl⟩:=ry;have e1:is.getD i 0=is[i]:=by simp[ck,hi']
  have hQ':Q' (is.getD i 0 !=0) s':=hQ;rw[e1]at hQ';exact yz hQ'
 .show EP X AM σ Q (.bool ((ce (ys.map (jO n)).toArray.size).any λi=>is.getD i 0 !=0)) _
  rw[hsz,Vw];have I1:aF X AM σ H {s with heap:=s.heap.push {cls:=.type "dict_valueiterator",data:=.fields #[.ref a,.int 0 0,.int (ys.map (jO n)).toArray.size 0,.int ep 0]},toks:=s.toks}:=I.kept λb o z=>av _ z;obtain⟨f0,f1,f2,f3,f4,f5⟩:=I.fpOk (aj s.heap.objs.size) (I.hok.fresh (aj _));exact⟨.bl (is.any (· !=0)),H,I1.turned (λb o hb z=>kp b o (by simpa using hb) z) f0 f1 f3 f4 f5,rfl,q⟩
theorem R9{o:ag}{to:TE}{name:Str}{apos cpos:ah}{id:String}{r:V->List V->Hp->VK->Prop}(slot:Slot "dict" name id)(hty:typeOf (.builtin id)=pure (.type "method_descriptor"))(hm:tR X id r)(ho:PE X o to)
  (hbase:attributeBase o name X.env (eval o X.env)=eval o X.env:=by rfl)(hline:(apos.endLine==cpos.line)=true:=by rfl):PE X (.Call (.Attribute o name apos) [] [] cpos) (λσ H Q=>to σ H λx H1=>Be x H1/\r x [] H1 Q):=by
 intro AM s σ H Q I h;refine wpAny_Call_method0_late hbase hline (bC (ho AM s σ H _ I h) λv s1 ⟨x,H1,I1,r1,⟨a,ds,ep,ex,hH⟩,q1⟩=>?_);subst ex;cases r1;have hg:=sR I1 hH;refine⟨"dict",id,j9,slot,hty,⟨_,hg,rfl⟩,λb eb=>?_,uv rfl (PySem.evalArgs_none (hm AM s1 σ H1 (.ref a) [] (.ref a) [] Q I1 rfl .nil q1))⟩;cases eb;exact⟨_,hg,rfl⟩
end
end L2
namespace L2.Pp
open PySem PySem.Spec PyProof.Rows Bn
def abN(d:AV)(S:aH):bG AV:=match d with
 |.ref j=>(match S[j]? with
  |some (.dic _ kvs)=>.ok (.pv (.lst (kvs.map (·.1)))) S
  |_=>.fail)
 |_=>.fail
def sQ(d:AV)(S:aH):bG AV:=match d with
 |.ref j=>(match S[j]? with
  |some (.dic _ kvs)=>(match iF (kvs.map (·.2))with
   |some is=>.ok (.pv (.bl (is.any (· !=0)))) S
   |none=>.fail)
  |_=>.fail)
 |_=>.fail
def tD(m:ME):ME:=λρ S=>(m ρ S).bind λd S1=>sQ d S1
section
variable{K:af}{cl:Str->Addr}{E:XK}{X:Cx}{p q:Ph}{H H':Hp}{S:aH}{a b e o i v:ag}{es:List ag}{m md mk mv:ME}{ms:MA}{pos:ah}
theorem K9{x:Str}{px apos cpos:ah}(hc:X.calm=true)(hg:Gl X x)(hm:X.mg x=none)(hv:bootBuiltins x=some (.builtin "any"))(ho:aT K cl E X o m)(hbase:attributeBase o "values" X.env (eval o X.env)=eval o X.env:=by rfl)(hline:(apos.endLine==cpos.line)=true:=by rfl)
  (hn:x≠"__name__":=by decide)(hdb:(x==("__debug__":Str))=false:=by decide)
  (he:starEach [.Call (.Attribute o "values" apos) [] [] cpos] X.env=(false,eval (.Call (.Attribute o "values" apos) [] [] cpos) X.env)::starEach [] X.env:=by rfl)(hpl:(backTo pos (starEach [] X.env)).any (·.1)=false:=by rfl):
  aT K cl E X (.Call (.Name x px) [.Call (.Attribute o "values" apos) [] [] cpos] [] pos) (tD m):=by
 intro hK;subst hK;refine PE.imp (Mk (Ev hc) hg hm hv (sE (R9 m8 PySem.F.type_dict_values Lx (ho rfl) hbase hline) sN he) hn hdb he hpl) λσ H Q ⟨p,S,ρ,s,ev,h⟩=>?_;refine bU s ev h λq H1 d x S1 st s1 e1 r1 h1=>?_;cases d with
 |pv _=>exact h1.elim
 |ref j=>
  obtain⟨a,ej,rfl⟩:=r1;have h1:bN X.K cl (bR X.K) q H1 (sQ (.ref j) S1) Q E:=h1;unfold sQ at h1;dsimp only at h1;split at h1
  .rename_i n kvs hS
   split at h1
   .rename_i is hi
    obtain⟨us,vs,d,rv,r⟩:=s1.obj j a _ ej hS;obtain⟨rs,dw,rr⟩:=Bq d;obtain⟨ys,ep,ey,ns,lz,nd,ek,er,eu⟩:=dw;refine⟨⟨a,_,_,rfl,ey⟩,a,_,_,rfl,rfl,ns,ey,λv hv=>⟨v,a,n,_,rs,us,is,rfl,eT,⟨ys,ep,by rw[bO (fS ey hv)];exact ey,ns,lz,nd,ek,er,eu⟩,?_,?_⟩⟩
    .rw[<-rN hi r]
     exact rv
    .exact bN.same (R:=bR X.K) h1 s1 (gK hv) (x:=.bl (is.any (· !=0))) (by unfold bR aP;rfl)
   .exact h1.elim
  .exact h1.elim
end
end L2.Pp
namespace L2
open PySem PySem.Spec PyProof.Rows Bn
section
variable{X:Cx}
def Se(n:Bool):R2:=λx y H Q=>∃a b,x=.bl a/\y=.bl b/\Q (.bl ((a==b) !=n)) H
theorem Ur:dY X (compareOp .Is) (Se false):=by
 intro AM s σ H x y v u Q I rx ry h;obtain⟨a,b,rfl,rfl,q⟩:=h;cases rx;cases ry;exact ae (o3 rfl (ai ⟨.bl (a==b),H,I,by cases a<;>cases b<;>rfl,by simpa using q⟩))
theorem Vm:dY X (compareOp .IsNot) (Se true):=by
 intro AM s σ H x y v u Q I rx ry h;obtain⟨a,b,rfl,rfl,q⟩:=h;cases rx;cases ry;exact ae (o3 rfl (ai ⟨.bl (!(a==b)),H,I,by cases a<;>cases b<;>rfl,by cases a<;>cases b<;>simpa using q⟩))
end
section
variable{X:Cx}{sc:Scope}{own:List Str}{cap:List (Nat×Str)}{AM:List (Addr×Obj)}{σ:St}{H:Hp}{s:aa}{elt target iter:ag}{pos pos':ah}{wi:TI}{g:TG}{te:TE}{Q:VK}
end
end L2
namespace L2.Pp
open PySem PySem.Spec PyProof.Rows Bn
section
def nE(n:Bool):PV->PV->AJ
 |.bl a,.bl b=>some (.bl ((a==b) !=n))
 |_,_=>none
mutual
def pB:PV->Bool
 |.lst _=>false
 |.tup xs=>wV xs
 |_=>true
def wV:AI->Bool
 |[]=>true
 |x::r=>pB x&&wV r
end
def sM(f:FM)(ms:MA):ME:=λρ S=>(ms ρ S).bind λxs S1=>match fP S1 xs with
 |some vs=>(match f (vs.map .pv) []with
  |.ok (.pv v) _=>if pB v=true then .ok (.pv v) S1 else .fail
  |_=>.fail)
 |none=>.fail
section
variable{K:af}{cl:Str->Addr}{E:XK}{X:Cx}{p q:Ph}{H H':Hp}{S:aH}{a b e o i v:ag}{es:List ag}{m ma mb md mk mv:ME}{ms:MA}{pos:ah}
theorem xH(n:Bool):gB K (Se n) (nE n):=λ{p S H a b c x y Q} s ra rb e k=>by
 cases a with
 |bl a=>
  cases b with
  |bl b=>
   cases e;exact⟨a,b,ra.bl,rb.bl,k H _ (dH.refl H) (by unfold aP;rfl)⟩
  |_=>cases e
 |_=>cases e
mutual
theorem Ym{c c':Addr->Prop}:∀{v:PV}{x:V},aP K c H v x->pB v=true->aP K c' H v x
 |.non,_,h,_=>by unfold aP at h⊢;exact h
 |.bl _,_,h,_=>by unfold aP at h⊢;exact h
 |.int _,_,h,_=>by unfold aP at h⊢;exact h
 |.str _,_,h,_=>by unfold aP at h⊢;exact h
 |.lst _,_,_,n=>by unfold pB at n;cases n
 |.tup xs,_,h,n=>by
  unfold pB at n;unfold aP at h⊢;obtain⟨a,vs,e,t,z,r⟩:=h;exact⟨a,vs,e,t,z,Nj r n⟩
theorem Nj{c c':Addr->Prop}:∀{v:AI}{x:List V},aQ K c H v x->wV v=true->aQ K c' H v x
 |[],_,h,_=>by unfold aQ at h⊢;exact h
 |p::ps,_,h,n=>by
  unfold wV at n;unfold aQ at h⊢;obtain⟨v,r,e,h1,h2⟩:=h;have n:=xx.mp n;exact⟨v,r,e,Ym h1 n.1,Nj h2 n.2⟩
end
def Ph.none:Ph:=⟨[],λ_=>False,λ_=>False⟩
theorem Lz:aU K Ph.none [] H:=⟨sf,rfl,λ_ h=>(nomatch h),λ_ h=>h,λ_ h=>h.elim,λk a o e=>(nomatch e)⟩
theorem Lg:∀{vs:AI}{xs:List V},Jd K p H vs xs->fW K Ph.none H (vs.map .pv) xs
 |_,_,.nil=>.nil
 |_,_,.cons h t=>by
  refine .cons ?_ (Lg t);show aP K (λ_=>False) H _ _;rcases h with h |⟨xs,a,vs,rfl,rfl,h,z,r⟩
  .exact Gg (λ_ h=>h.elim) h
  .unfold aP
   exact⟨a,vs,rfl,.inl ⟨h,λz=>z⟩,z,nP (λ_ h=>h.elim) r⟩
theorem abl{g:FM}{k k0:Nat}{ps:List Str}{x:Str}{px:ah}(C:xR X.prog X.w X.K X.mg X.base cl x k ps g)(hr:dI k0 X.A)(hk:k<=k0)(hg:Gl X x)(ha:eM X.K cl E X (e::es) ms)(hdb:(x==("__debug__":Str))=false:=by decide)(he:starEach (e::es) X.env=(false,eval e X.env)::starEach es X.env:=by rfl)(hpl:(backTo pos (starEach es X.env)).any (·.1)=false:=by rfl):
  aT X.K cl E X (.Call (.Name x px) (e::es) [] pos) (sM g ms):=by
 obtain⟨a,d,G,b,kk,n⟩:=C;intro hK;refine PE.imp (vH G (hr.mono hk) hg n kk b .nil wL (ha rfl) hdb he hpl) λσ H Q ⟨p,S,ρ,s,ev,h⟩=>?_;refine bU s ev h λq H1 as xs S1 st sm ev r k=>?_;cases z:fP S1 as with
 |none=>simp only[z]at k;exact k.elim
 |some vs=>
  simp only[z]at k;have rr:=Lg (rS sm r z);have e0:xs++([]:List V)=xs:=gv xs;refine⟨Ph.none,[],vs.map .pv,Lz,by first |exact rr |(rw[e0];exact rr),?_⟩
  cases y:g (vs.map .pv) []with
  |fail=>simp only[y]at k;exact k.elim
  |exc n S'=>simp only[y]at k;exact k.elim
  |ok w S'=>
   cases w with
   |ref j=>simp only[y]at k;exact k.elim
   |pv w=>
    simp only[y]at k
    by_cases hn:pB w=true
    .rw[if_pos hn]at k
     intro q' H' x' st' sm' r';have same:dH H1 H':=λa o e=>st'.keep a o e λz=>z;exact bN.same (R:=bR X.K) k sm same (Ym r' hn)
    .rw[if_neg hn]at k
     exact k.elim
variable{sc:Scope}{own:List Str}{cap:List (Nat×Str)}{elt target iter:ag}{mi:MI}{g:GM}{me:ME}
end
end
def sV(ma mb:ME):ME:=λρ S=>(ma ρ S).bind λx S1=>(mb ρ S1).bind λy S2=>match rd S2 x,rd S2 y with
 |some (.lst xs),some (.lst ys)=>if xs.length+ys.length<=16777216 then .ok (.ref S2.length) (S2++[.lst (xs++ys)])else .fail
 |_,_=>.fail
section
variable{K:af}{cl:Str->Addr}{E:XK}{X:Cx}{a b:ag}{ma mb:ME}{pos:ah}
theorem N6(ha:aT K cl E X a ma)(hb:aT K cl E X b mb):aT K cl E X (.BinOp a .Add b pos) (sV ma mb):=by
 intro hK;subst hK;refine PE.imp (Sd El (ha rfl) (hb rfl)) λσ H Q ⟨p,S,ρ,s,e,h⟩=>?_;refine bU s e h λq H1 x u S1 st s1 e1 r1 h1=>bU s1 e1 h1 λq2 H2 y w S2 st2 s2 e2 r2 h2=>?_;have r1:=st2.repA r1;cases z1:rd S2 x with
 |none=>simp only[z1]at h2;exact h2.elim
 |some vx=>
  cases z2:rd S2 y with
  |none=>simp only[z1,z2]at h2;exact h2.elim
  |some vy=>
   simp only[z1,z2]at h2;cases vx with
   |lst xs=>
    cases vy with
    |lst ys=>
     dsimp only at h2
     by_cases hl:xs.length+ys.length<=16777216
     .rw[if_pos hl]at h2
      obtain⟨a1,vs,rfl,l1,_,rr⟩:=(lR s2 r1 z1).lst;obtain⟨a2,ws,rfl,l2,_,rw'⟩:=(lR s2 r2 z2).lst;have hz:vs.length+ws.length<=sizeLine:=by rw[<-rr.length,<-rw'.length,iP];exact hl
      refine .inr (.inl ⟨a1,a2,vs,ws,rfl,rfl,l1,l2,hz,λt ht=>?_⟩);obtain⟨st3,sm3⟩:=s2.push ht (by rw[bf];exact hz) (rr.append rw');exact h2 _ _ (.ref t) st3 sm3 ⟨t,by show(q2.f++[t])[S2.length]?=some t;rw[<-s2.len,di (aj _),gg];rfl,rfl⟩
     .rw[if_neg hl]at h2
      exact h2.elim
    |_=>exact h2.elim
   |_=>cases vy<;>exact h2.elim
end
section
variable{P:Program}{w:am}{K:af}{mg:Str->AF}{base:Heap}{cl:Str->Addr}{x qual:Str}{st:Stmt}{f:Addr}{fd:cf}{N ps:List Str}{k np n:Nat}{b:MS}
variable{so sc sc1:Scope}{own own1:List Str}{cap cap1:List (Nat×Str)}{cd:Value}{A:aq}{outer:List az}{s:aa}{H:Hp}{E:XK}{C:Addr}{AN:aa}{AO:Hp}{ex:List Addr}
theorem Rc(a:sc.kind=.function:=by rfl)(b:∀y∈sc.names,y.2=.local->sc.names.lookup y.1=some .local:=by decide+kernel)(c:∀y∈sc.names,y.2≠.cell:=by decide+kernel)(d:∀y∈sc.names,y.2=.free->so.names.lookup y.1=some .cell:=by decide+kernel)(e:∀p∈cap,N[p.1]?=some p.2:=by decide+kernel)(g:∀p∈cap,sc.names.lookup p.2=some .free:=by decide+kernel):gO (eW fA P w K mg base N qual so f cd A outer s H E).nox sc own cap:=aaA so N rfl rfl a b c d e g
theorem Z7(a:sc.kind=.function:=by rfl)(b:∀y∈sc.names,y.2=.local->sc.names.lookup y.1=some .local:=by decide+kernel)(c:∀y∈sc.names,y.2=.cell->sc.names.lookup y.1=some .cell:=by decide+kernel)(d:∀y∈sc.names,y.2=.free->so.names.lookup y.1=some .cell:=by decide+kernel)(e:∀p∈cap,N[p.1]?=some p.2:=by decide+kernel)(g:∀p∈cap,sc.names.lookup p.2=some .free:=by decide+kernel):mP (eW fA P w K mg base N qual so f cd A outer s H E).nox sc own cap:=L5 so N rfl rfl a b c d e g
theorem Lb(a:sc.kind=.function:=by rfl)(b:∀y∈sc.names,y.2=.local->sc.names.lookup y.1=some .local:=by decide+kernel)(c:∀y∈sc.names,y.2≠.cell:=by decide+kernel)(d:∀y∈sc.names,y.2=.free->sc1.names.lookup y.1=some .free/\so.names.lookup y.1=some .cell:=by decide+kernel)(e:∀p∈cap,(bW own1 cap1)[p.1]?=some p.2:=by decide+kernel)(g:∀p∈cap,sc.names.lookup p.2=some .free:=by decide+kernel)(hk:so.kind=.function:=by rfl):gO (eD (eW fA P w K mg base N qual so f cd A outer s H E).nox sc1 (bW own1 cap1) C AN AO ex) sc own cap:=R0 so rfl hk a b c d e g
theorem Kc(a:sc.kind=.function:=by rfl)(b:∀y∈sc.names,y.2=.local->sc.names.lookup y.1=some .local:=by decide+kernel)(c:∀y∈sc.names,y.2≠.cell:=by decide+kernel)(d:∀y∈sc.names,y.2=.free->sc1.names.lookup y.1=some .cell\/(sc1.names.lookup y.1=some .free/\so.names.lookup y.1=some .cell):=by decide+kernel)(e:∀p∈cap,(bW own1 cap1)[p.1]?=some p.2:=by decide+kernel)(g:∀p∈cap,sc.names.lookup p.2=some .free:=by decide+kernel)(hk:so.kind=.function:=by rfl):gO (iE (eW fA P w K mg base N qual so f cd A outer s H E).nox sc1 (bW own1 cap1) C AN AO ex) sc own cap:=G3 so rfl hk a b c d e g
theorem cU{N ps:List Str}{sc:Scope}(a:sc.kind=.function:=by rfl)(b:sc.isCoroutine=false:=by rfl)(c:sc.isGenerator=false:=by rfl)(d:N.Nodup:=by decide+kernel)(e:N.take ps.length=ps:=by rfl)(f:∀x∈ps,sc.names.lookup x=some .local\/sc.names.lookup x=some .cell:=by decide+kernel)(g:∀y∈sc.names,y.2≠.free:=by decide+kernel):iD N ps sc:=⟨a,b,c,d,e,f,g⟩
def He(P:Program)(w:am)(K:af)(mg:Str->AF)(base:Heap)(cl:Str->Addr)(x:Str)(k:Nat)(ps:List Str)(g:FM):Prop:=∃(a:Addr)(d:cf),dX P w K mg base (fI P w) k a d ps (kP K cl g)/\dX P w K mg base fA k a d ps (kN K cl g)/\gR K d ps []/\ee K (.ref a)=true/\mg x=some (.ref a)
theorem Ks{g:FM}{a:Addr}{d:cf}(G:dX P w K mg base (fI P w) k a d ps (kP K cl g))(b:gR K d ps [])(kp:ee K (.ref a)=true)(n:mg x=some (.ref a)):He P w K mg base cl x k ps g:=⟨_,_,G,x0 G,b,kp,n⟩
theorem aaO{X:Cx}{e:ag}{es:List ag}{ms:MA}{pos p:ah}{k0:Nat}{g:FM}(C:He X.prog X.w X.K X.mg X.base cl x k ps g)(hr:dI k0 X.A)(hk:k<=k0)(hg:Gl X x)(ha:eM X.K cl E0 X (e::es) ms)(hdb:(x==("__debug__":Str))=false:=by decide)(he:starEach (e::es) X.env=(false,eval e X.env)::starEach es X.env:=by rfl)(hpl:(backTo pos (starEach es X.env)).any (·.1)=false:=by rfl):
  aT X.K cl E0 X (.Call (.Name x p) (e::es) [] pos) (oK g [] ms):=by
 obtain⟨a,d,_,G,b,kk,n⟩:=C;exact Q0 G (hr.mono hk) hg n kk b .nil Dv.nil ha hdb he hpl
end
structure Bx where
 P:Program
 w:am
 K:af
 mg:Str->AF
 base:Heap
 cl:Str->Addr
abbrev cX(B:Bx)(x:Str)(k:Nat)(ps:List Str)(g:FM):Prop:=xR B.P B.w B.K B.mg B.base B.cl x k ps g
abbrev Ie(B:Bx)(x:Str)(k:Nat)(ps:List Str)(g:FM):Prop:=He B.P B.w B.K B.mg B.base B.cl x k ps g
def HF(K:af)(x:Str)(st:Stmt):Prop:=∃(f:Addr)(fd:cf),dn K mainGlobals x=some (some (.ref f))/\iJ K x x st f fd
def XG(K:af)(mg:Str->AF):Prop:=∃h:Heap,K.In h/\h.Ns mainGlobals mg
section
variable{B:Bx}{x:Str}{st:Stmt}{f:Addr}{fd:cf}{N ps:List Str}{k np n:Nat}{b:MS}
theorem Pb(X:XG B.K B.mg)(q:HF B.K x st):∃f fd,iJ B.K x x st f fd/\ee B.K (.ref f)=true/\B.mg x=some (.ref f):=by
 obtain⟨f,fd,a,F⟩:=q;obtain⟨h,X,G⟩:=X;exact⟨f,fd,F,F.kp,mn X G a⟩
theorem abg{K:af}{oc:Value}{od an:AG}{osl:Array AF}{kV doc pm cdv ct:Value}(a:dn K mainGlobals x=some (some (.ref f)))(l:K.lookup f=some ⟨oc,od,.func (dq x x (gF st) (eF st) (bY st) .none kV doc pm an cdv ct),osl⟩)
  (c:ka K cdv x=true)(k:ee K (.ref f)=true):HF K x st:=⟨_,_,a,Qo l c k⟩
theorem Pe(F:iJ B.K x x st f fd)(h:∀(kV doc pm:Value)(an:AG)(cdv ct:Value)(us:AE),us.length=ps.length->bindArgs (dq x x (gF st) (eF st) (bY st) .none kV doc pm an cdv ct) ⟨us,[]⟩=pure (ps.zip us)):gR B.K fd ps []:=F.binds λkV doc pm an cdv ct us hl=>h kV doc pm an cdv ct us hl
theorem dG(X:XG B.K B.mg)(q:HF B.K x st)(S:iD N ps (bY st))(hb:N.Nodup->∀(f:Addr)(cdv:Value)(A:aq)(outer:List az)(s:aa)(H:Hp)(E:XK),dI k (A.deeper (envOfC x (bY st) s.heap.objs.size f cdv))->fY B.K B.cl E0 (eW fA B.P B.w B.K B.mg B.base N x (bY st) f cdv A outer s H E).nox (eF st) b)(hnp:ps.length=np:=by rfl)(hn:N.length=n:=by rfl)
  (h:∀(kV doc pm:Value)(an:AG)(cdv ct:Value)(us:AE),us.length=ps.length->bindArgs (dq x x (gF st) (eF st) (bY st) .none kV doc pm an cdv ct) ⟨us,[]⟩=pure (ps.zip us):=by intro _ _ _ _ _ _ us h;rcases us with _ |⟨_,_ |⟨_,_ |⟨_,_ |⟨_,_ |⟨_,_ |⟨_,_⟩⟩⟩⟩⟩⟩<;>first |(cases h;done) |rfl |(simp at h)):cX B x (k+1) ps (aY np n b):=by
 obtain⟨f,fd,F,kp,m⟩:=Pb X q;exact⟨f,fd,Bt F S hnp hn λcdv A outer s H E hr=>hb S.nd f cdv A outer s H E hr,Pe F h,kp,m⟩
theorem mkL(X:XG B.K B.mg)(q:HF B.K x st)(S:iD N ps (bY st))(hb:N.Nodup->∀(f:Addr)(cdv:Value)(A:aq)(outer:List az)(s:aa)(H:Hp)(E:XK),dI k (A.deeper (envOfC x (bY st) s.heap.objs.size f cdv))->fY B.K B.cl E0 (eW fA B.P B.w B.K B.mg B.base N x (bY st) f cdv A outer s H E).nox (eF st) b)(hnp:ps.length=np:=by rfl)(hn:N.length=n:=by rfl)
  (h:∀(kV doc pm:Value)(an:AG)(cdv ct:Value)(us:AE),us.length=ps.length->bindArgs (dq x x (gF st) (eF st) (bY st) .none kV doc pm an cdv ct) ⟨us,[]⟩=pure (ps.zip us):=by intro _ _ _ _ _ _ us h;rcases us with _ |⟨_,_ |⟨_,_ |⟨_,_ |⟨_,_ |⟨_,_ |⟨_,_⟩⟩⟩⟩⟩⟩<;>first |(cases h;done) |rfl |(simp at h)):cX B x (k+1) ps (oU np n b):=by
 obtain⟨f,fd,F,kp,m⟩:=Pb X q;exact⟨f,fd,okL F S hnp hn λcdv A outer s H E hr=>hb S.nd f cdv A outer s H E hr,Pe F h,kp,m⟩
theorem mkX(X:XG B.K B.mg)(q:HF B.K x st)(S:iD N ps (bY st))(hb:N.Nodup->∀(f:Addr)(cdv:Value)(A:aq)(outer:List az)(s:aa)(H:Hp)(E:XK),dI k (A.deeper (envOfC x (bY st) s.heap.objs.size f cdv))->fY B.K B.cl E (eW (fI B.P B.w) B.P B.w B.K B.mg B.base N x (bY st) f cdv A outer s H E) (eF st) b)(hnp:ps.length=np:=by rfl)(hn:N.length=n:=by rfl)
  (h:∀(kV doc pm:Value)(an:AG)(cdv ct:Value)(us:AE),us.length=ps.length->bindArgs (dq x x (gF st) (eF st) (bY st) .none kV doc pm an cdv ct) ⟨us,[]⟩=pure (ps.zip us):=by intro _ _ _ _ _ _ us h;rcases us with _ |⟨_,_ |⟨_,_ |⟨_,_ |⟨_,_ |⟨_,_ |⟨_,_⟩⟩⟩⟩⟩⟩<;>first |(cases h;done) |rfl |(simp at h)):Ie B x (k+1) ps (aY np n b):=by
 obtain⟨f,fd,F,kp,m⟩:=Pb X q;exact Ks (okX F S hnp hn λcdv A outer s H E hr=>hb S.nd f cdv A outer s H E hr) (Pe F h) kp m
theorem mkR(F:iJ B.K x x st f fd)(S:iD N ps (bY st))(hb:N.Nodup->∀(f:Addr)(cdv:Value)(A:aq)(outer:List az)(s:aa)(H:Hp)(E:XK),dI k (A.deeper (envOfC x (bY st) s.heap.objs.size f cdv))->fY B.K B.cl E0 (eW fA B.P B.w B.K B.mg B.base N x (bY st) f cdv A outer s H E).nox (eF st) b)(hnp:ps.length=np:=by rfl)(hn:N.length=n:=by rfl):dX B.P B.w B.K B.mg B.base fA (k+1) f fd ps (kN B.K B.cl (aY np n b)):=Bt F S hnp hn λcdv A outer s H E hr=>hb S.nd f cdv A outer s H E hr
theorem aca{dsv:Array Value}(F:mX B.K x x st f fd dsv)(S:iD N ps (bY st))(hb:N.Nodup->∀(f:Addr)(cdv:Value)(A:aq)(outer:List az)(s:aa)(H:Hp)(E:XK),dI k (A.deeper (envOfC x (bY st) s.heap.objs.size f cdv))->fY B.K B.cl E (eW (fI B.P B.w) B.P B.w B.K B.mg B.base N x (bY st) f cdv A outer s H E) (eF st) b)(hnp:ps.length=np:=by rfl)(hn:N.length=n:=by rfl):dX B.P B.w B.K B.mg B.base (fI B.P B.w) (k+1) f fd ps (kP B.K B.cl (aY np n b)):=acx F S hnp hn λcdv A outer s H E hr=>hb S.nd f cdv A outer s H E hr
section
variable{X:Cx}{cl:Str->Addr}{E:XK}{e:ag}{es:List ag}{ms:MA}{pos p:ah}{k0:Nat}{g:FM}{dv:AI}
end
section
variable{P:Program}{w:am}{K:af}{mg:Str->AF}{base:Heap}{qual:Str}{so sc:Scope}{own:List Str}{cap:List (Nat×Str)}{cd:Value}{A:aq}{outer:List az}{s:aa}{H:Hp}{E:XK}
end
end
section
variable{P:Program}{w:am}{K:af}{mg:Str->AF}{base:Heap}{cl:Str->Addr}{E:XK}{x:Str}{k k0:Nat}{ps:List Str}{g:FM}{e:ag}{es:List ag}{ms:MA}{pos p:ah}
end
theorem aaD:bootBuiltins "len"=some (.builtin "len"):=by decide+kernel
theorem aac:bootBuiltins "abs"=some (.builtin "abs"):=by decide+kernel
theorem V4:bootBuiltins "any"=some (.builtin "any"):=by decide+kernel
theorem aas:bootBuiltins "sum"=some (.builtin "sum"):=by decide+kernel
theorem aar:bootBuiltins "min"=some (.builtin "min"):=by decide+kernel
theorem Gw:bootBuiltins "sorted"=some (.builtin "sorted"):=by decide+kernel
theorem X8:bootBuiltins "int"=some (.type "int"):=by decide+kernel
theorem O9:bootBuiltins "list"=some (.type "list"):=by decide+kernel
theorem B7:bootBuiltins "tuple"=some (.type "tuple"):=by decide+kernel
end L2.Pp
set_option Elab.async false
set_option compiler.extract_closed false
set_option maxRecDepth 100000
set_option maxHeartbeats 4000000
namespace Sc
noncomputable section
open PySem L2 Bn L2.Pp
abbrev Iq:Stmt:=bB 5
abbrev Mh:Stmt:=bB 6
abbrev Kh:Stmt:=bB 7
abbrev Kf:Stmt:=bB 8
abbrev rM:Stmt:=bB 9
abbrev Lp:Stmt:=bB 10
abbrev Bm:Stmt:=bB 11
abbrev Ff:Stmt:=bB 13
abbrev Nr:Stmt:=bB 14
abbrev Uk:Stmt:=bB 15
abbrev Gf:Stmt:=bB 16
abbrev Zo:Stmt:=bB 17
abbrev Og:Stmt:=bB 21
abbrev Ug:Stmt:=bB 22
abbrev Rl:Stmt:=bB 23
abbrev Lj:Stmt:=bB 24
abbrev Kp:Stmt:=bB 26
abbrev Bh:Stmt:=bB 27
abbrev Vf:Stmt:=bB 28
abbrev Rm:Stmt:=bB 29
abbrev Hg:Stmt:=bB 30
abbrev Dp:Stmt:=bB 31
abbrev Fp:Stmt:=bB 33
abbrev Ln:Stmt:=bB 34
abbrev Hq:Stmt:=bB 35
abbrev Fi:Stmt:=bB 36
abbrev Ji:Stmt:=bB 37
abbrev Ep:Stmt:=bB 38
abbrev Jj:Stmt:=bB 39
abbrev Qp:Stmt:=bB 40
abbrev An:Stmt:=bB 41
abbrev Lq:Stmt:=bB 42
abbrev Zg:Stmt:=bB 43
abbrev Ol:Stmt:=bB 44
abbrev Wf:Stmt:=bB 46
abbrev Yo:Stmt:=bB 45
abbrev Jm:Stmt:=bB 47
abbrev Pf:Stmt:=bB 48
abbrev Ql:Stmt:=bB 49
abbrev Ik:Stmt:=bB 50
abbrev Qi:Stmt:=bB 51
abbrev Tm:Stmt:=bB 52
abbrev Cj:Stmt:=bB 53
abbrev Nl:Stmt:=bB 54
abbrev mT:Stmt:=bB 55
def Nb:MS:=(aI (cO (bF (aC eI (aA 0) (mC (.int 0)))) (bH (mC (.int 1))) eB)
 (aI (cO (bF (aC mZ (aA 0) (mC (.int 0)))) (bH (bQ cE (mC (.int 1)))) eB)
 (bH (mC (.int 0)))))
def oE:FM:=aY 1 1 Nb
def zI:MS:=(aI (jW (bF (aC fZ (aA 1) (mC (.int 0)))) (aI (aS 2 (aC fB (aA 0) (aA 1)))
 (aI (aS 0 (aA 1))
 (aS 1 (aA 2)))))
 (bH (mR kL (aB (aA 0) aD))))
def pL:FM:=aY 2 3 zI
def zJ:MS:=(aI (aS 1 (mC (.int 0)))
 (aI (bS (bJ (aA 0)) (gN 2) (aS 1 (aR pL [] (aB (aA 1) (aB (aA 2) aD)))))
 (bH (bE ["number"] [(1,"common")] (bJ (aA 0)) (gN 0) (aC jK (aA 0) (aA 1))))))
def uQ:FM:=aY 1 3 zJ
def yG:MS:=(aI (aS 1 (aC aE (vN ["number"] [] (bJ (aA 0)) (gN 0) (bF (aC fZ (aA 0) (mC (.int 0)))) (aA 0)) (mC (.int 0))))
 (bH (mR gZ (aB (bE ["number"] [(1,"first")] (bJ (aR uQ [] (aB (aA 0) aD))) (gN 0) (aC bA (aR oE [] (aB (aA 1) aD)) (aA 0))) aD))))
def nO:FM:=aY 1 2 yG
def yO:MS:=(aI (cO (bF (aC cS (aA 1) (mC (.int 0)))) (qE "NoNumber") eB)
 (aI (aS 2 (aC bA (aR oE [] (aB (aA 1) aD)) (aR pL [] (aB (aA 0) (aB (aA 1) aD)))))
 (bH (mN eR (aB (aC jK (aA 0) (aA 2)) (aB (aC jK (aA 1) (aA 2)) aD))))))
def pG:FM:=aY 2 3 yO
def Qb:MS:=(bH (oK pG [] (aB (aC aG (aC bA (aC aE (aA 0) (mC (.int 0))) (aC aE (aA 1) (mC (.int 1)))) (aC bA (aC aE (aA 1) (mC (.int 0))) (aC aE (aA 0) (mC (.int 1))))) (aB (aC bA (aC aE (aA 0) (mC (.int 1))) (aC aE (aA 1) (mC (.int 1)))) aD))))
def oG:FM:=aY 2 2 Qb
def Eb:MS:=(aI (jW (bF (aC eI (mR cL (aB (aA 0) aD)) (mC (.int 1)))) (aI (aS 1 (bE ["one","other"] [] (gU (aB (oP (aA 0) cV cV (2)) (aB (oP (aA 0) (dJ (mC (.int 1))) cV (2)) aD))) (gT 2 (bX (gN 0) (bX (gN 1) dW))) (aR oG [] (aB (aA 0) (aB (aA 1) aD)))))
 (aS 0 (aC aG (aA 1) (dP (aA 0) (dJ (aC bA (mC (.int 2)) (mR cL (aB (aA 1) aD)))) cV)))))
 (bH (oS (tJ (aA 0)) (aC aE (aA 0) (mC (.int 0))) (mN eR (aB (mC (.int 0)) (aB (mC (.int 1)) aD))))))
def vF:FM:=aY 1 2 Eb
def yE:MS:=(bH (bE ["near","far"] [(0,"start"),(1,"end")] (gU (aB (dP (aA 0) cV (dJ (bQ cE (mC (.int 1))))) (aB (dP (aA 1) cV (dJ (bQ cE (mC (.int 1))))) aD))) (gT 2 (bX (gN 0) (bX (gN 1) dW))) (aC eQ (aC bA (aA 1) (aC aE (aA 2) (bQ cE (mC (.int 1))))) (aC bA (aA 0) (aC aE (aA 3) (bQ cE (mC (.int 1))))))))
def kS:FM:=aY 2 2 yE
def Tc:MS:=(bH (mR oO (aB (bE ["one","other"] [] (gU (aB (aA 0) (aB (aA 1) aD))) (gT 2 (bX (gN 0) (bX (gN 1) dW))) (aC bA (aA 0) (aA 1))) aD)))
def wD:FM:=aY 2 2 Tc
def uT:MS:=(aI (aS 1 (aC aE (aA 0) (mC (.int 0))))
 (aI (cO (bF (aC cS (mR cL (aB (aA 0) aD)) (mC (.int 1)))) (bH (mN fH (aB (bQ cE (aC aE (aA 1) (mC (.int 1)))) (aB (aC aE (aA 1) (mC (.int 0))) aD)))) eB)
 (aI (aS 2 (aC aE (aA 0) (mC (.int 1))))
 (bH (mN fH (aB (aC eQ (aC bA (aC aE (aA 1) (mC (.int 1))) (aC aE (aA 2) (mC (.int 2)))) (aC bA (aC aE (aA 1) (mC (.int 2))) (aC aE (aA 2) (mC (.int 1))))) (aB (aC eQ (aC bA (aC aE (aA 1) (mC (.int 2))) (aC aE (aA 2) (mC (.int 0)))) (aC bA (aC aE (aA 1) (mC (.int 0))) (aC aE (aA 2) (mC (.int 2))))) (aB (aC eQ (aC bA (aC aE (aA 1) (mC (.int 0))) (aC aE (aA 2) (mC (.int 1)))) (aC bA (aC aE (aA 1) (mC (.int 1))) (aC aE (aA 2) (mC (.int 0))))) aD))))))))
def nQ:FM:=aY 1 3 uT
def uA:MS:=(aI (aS 1 (bE ["p"] [(0,"points")] (bJ (dP (aA 0) (dJ (mC (.int 1))) cV)) (gN 0) (aR kS [] (aB (aC aE (aA 1) (mC (.int 0))) (aB (aA 0) aD)))))
 (bH (aR wD [] (aB (aR nQ [] (aB (dP (aA 1) cV (dJ (bQ cE (mC (.int 1))))) aD)) (aB (aC aE (aA 1) (bQ cE (mC (.int 1)))) aD)))))
def nN:FM:=aY 1 2 uA
def vT:MS:=(bH (aR oE [] (aB (aR nN [] (aB (aA 0) aD)) aD)))
def mO:FM:=aY 1 1 vT
def yV:MS:=(bH (aC qI (aC qI (dP (aA 0) cV (dJ (aA 1))) (mN eR (aB (aA 2) aD))) (dP (aA 0) (dJ (aC aG (aA 1) (mC (.int 1)))) cV)))
def pI:FM:=aY 3 3 yV
def yW:MS:=(bH (mR tM (aB (bE ["k"] [(0,"piece"),(1,"p")] (bZ (aB (mR cL (aB (aA 0) aD)) aD)) (gN 0) (aR mO [] (aB (aR pI [] (aB (aA 1) (aB (aA 0) (aB (aA 2) aD)))) aD))) aD)))
def rG:FM:=aY 2 2 yW
def Pa:MS:=(aI (aS 1 (oS (bF (aC cS (mR cL (aB (aA 0) aD)) (mC (.int 3)))) (mC (.tup [.tup [.int 0,.int 1],.tup [.int 1,.int 2],.tup [.int 2,.int 0]])) (mC (.tup [.tup [.int 1,.int 2,.int 3],.tup [.int 0,.int 3,.int 2],.tup [.int 0,.int 1,.int 3],.tup [.int 0,.int 2,.int 1]]))))
 (bH (bE ["wall"] [(0,"piece")] (bJ (aA 1)) (gN 0) (mR gZ (aB (bE ["k"] [(1,"piece")] (bJ (aA 0)) (gN 0) (aC aE (aA 1) (aA 0))) aD)))))
def sI:FM:=aY 1 2 Pa
def uR:MS:=(aI (aS 1 (oS (bF (aC cS (mR cL (aB (aA 0) aD)) (mC (.int 3)))) (mC (.int 2)) (mC (.int 6))))
 (aI (aS 2 (aA 1))
 (aI (bS (bJ (dP (aA 0) (dJ (mC (.int 1))) cV)) (gN 3) (aS 2 (aC bA (aC bA (aA 2) (aC aE (aC aE (aA 0) (mC (.int 0))) (bQ cE (mC (.int 1))))) (aC aE (aA 3) (bQ cE (mC (.int 1)))))))
 (bH (oK pG [] (aB (aR nN [] (aB (aA 0) aD)) (aB (aA 2) aD)))))))
def pO:FM:=aY 1 4 uR
def Xb:MS:=(bH (aR vF [] (aB (bE ["piece"] [] (bJ (aA 0)) (gN 0) (aR pO [] (aB (aA 0) aD))) aD)))
def nZ:FM:=aY 1 1 Xb
def rK:MS:=(aI (aS 2 (mC (.int 0)))
 (aI (bS (bJ (aA 0)) (gN 3) (aI (aS 4 (aR rG [] (aB (aA 3) (aB (aA 1) aD))))
 (aI (cO (bF (aC cS (aA 4) (mC (.int 0)))) (qE "OnSide") eB)
 (cO (bF (aC eI (aA 4) (mC (.int 0)))) (qQ (λi j=>i+j) 2 (mC (.int 1))) eB))))
 (bH (aA 2))))
def rH:FM:=aY 2 5 rK
def uG:MS:=(bH (aR nO [] (aB (aR nQ [] (aB (bE ["p"] [(0,"wall")] (bJ (dP (aA 0) (dJ (mC (.int 1))) cV)) (gN 0) (aR kS [] (aB (aC aE (aA 1) (mC (.int 0))) (aB (aA 0) aD)))) aD)) aD)))
def mF:FM:=aY 1 1 uG
def Ia:MS:=(aI (cO (bF (aC cS (mR cL (aB (aA 0) aD)) (mC (.int 2)))) (bH (mN fH (aB (aA 0) aD))) eB)
 (bH (bE ["k"] [(0,"wall")] (bZ (aB (mR cL (aB (aA 0) aD)) aD)) (gN 0) (mN eR (aB (aC aE (aA 1) (aC eQ (aA 0) (mC (.int 1)))) (aB (aC aE (aA 1) (aA 0)) aD))))))
def sC:FM:=aY 1 1 Ia
def yU:MS:=(aI (aS 3 (aR mF [] (aB (aA 1) aD)))
 (bS (bJ (aR sC [] (aB (aA 1) aD))) (gT 2 (bX (gN 4) (bX (gN 5) dW))) (aI (aS 6 (aR nO [] (aB (aR kS [] (aB (aA 4) (aB (aA 5) aD))) aD)))
 (bS (bJ (mN eR (aB (mN eR (aB (aA 4) (aB (aA 2) aD))) (aB (mN eR (aB (aA 5) (aB (bQ cE (aA 2)) aD))) aD)))) (gT 2 (bX (gN 7) (bX (gN 8) dW))) (aI (aS 9 (mN eR (aB (aA 3) (aB (aA 6) (aB (aA 7) aD)))))
 (tG (aA 0) (aA 9) (aC aG (tE (aA 0) (aB (aA 9) (aB (mC (.int 0)) aD))) (aA 8))))))))
def rL:FM:=aY 3 10 yU
def Wb:MS:=(aI (aS 2 (sU true))
 (aI (bS (bJ (mN eR (aB (mN eR (aB (aA 0) (aB (mC (.int 1)) aD))) (aB (mN eR (aB (aA 1) (aB (bQ cE (mC (.int 1))) aD))) aD)))) (gT 2 (bX (gN 3) (bX (gN 4) dW))) (bS (bJ (aA 3)) (gN 5) (bS (bJ (aR sI [] (aB (aA 5) aD))) (gN 6) (dM (aR rL [] (aB (aA 2) (aB (aA 6) (aB (aA 4) aD))))))))
 (bH (bQ mV (tD (aA 2))))))
def qB:FM:=aY 2 7 Wb
def Lc:MS:=(aI (aS 1 (eE aD))
 (aI (bS (wH (aB (dP (aA 0) cV (dJ (mC (.int 63)))) aD)) (gT 2 (bX (gN 2) (bX (gN 3) dW))) (cO (bF (aC rA (aA 3) (aC lW (mC (.int 10)) (mC (.int 18))))) (dM (dF (aA 1) (aB (aC eQ (aA 3) (aC lW (mC (.int 10)) (mC (.int 18)))) aD))) (aI (aS 4 (aC fB (aC bA (aC aG (aC aG (aC aG (aA 3) (aC bA (aC bA (mC (.int 7)) (aA 2)) (aA 2))) (aC bA (mC (.int 13)) (aA 2))) (mC (.int 5))) (mC (.int 48271))) (mC (.int 2147483647))))
 (aI (aS 5 (aC fB (aC bA (aC aG (aC aG (aC aG (aA 3) (aC bA (aC bA (mC (.int 11)) (aA 2)) (aA 2))) (aC bA (mC (.int 17)) (aA 2))) (mC (.int 3))) (mC (.int 40692))) (mC (.int 2147483399))))
 (aI (aS 6 (aC fB (aC bA (aC aG (aC aG (aC aG (aA 3) (aC bA (aC bA (mC (.int 5)) (aA 2)) (aA 2))) (aC bA (mC (.int 29)) (aA 2))) (mC (.int 8))) (mC (.int 39373))) (mC (.int 2147483587))))
 (aI (aS 4 (aC fB (aC bA (aA 4) (mC (.int 52021))) (mC (.int 1000000007))))
 (aI (aS 5 (aC fB (aC bA (aA 5) (mC (.int 30011))) (mC (.int 998244353))))
 (aI (aS 6 (aC fB (aC bA (aA 6) (mC (.int 45989))) (mC (.int 1000000009))))
 (dM (dF (aA 1) (aB (aC aG (aC bA (aC aG (aC bA (aA 4) (mC (.int 998244353))) (aA 5)) (mC (.int 1000000009))) (aA 6)) aD)))))))))))
 (bH (aA 1))))
def pW:FM:=aY 1 7 Lc
def vB:MS:=(aI (jW (gJ (bF (aC eI (mR cL (aB (aA 0) aD)) (mC (.int 0)))) (bF (aC cS (aC aE (aA 0) (mC (.int 0))) (mC (.int 0))))) (dM (kM (aA 0) (aB (mC (.int 0)) aD))))
 (aI (cO (bF (aC cS (mR cL (aB (aA 0) aD)) (mC (.int 0)))) (bH (mC (.int 0))) eB)
 (aI (aS 2 (aC fB (aC aE (aA 0) (mC (.int 0))) (aA 1)))
 (aI (kJ (aA 0) (mC (.int 0)) (aC jK (aC aE (aA 0) (mC (.int 0))) (aA 1)))
 (bH (aA 2))))))
def dC:FM:=aY 2 3 vB
def Kb:MS:=(aI (aS 0 (mR kL (aB (aA 0) aD)))
 (aI (aS 1 (mR kL (aB (aA 1) aD)))
 (aI (jW (bF (aC eI (aA 1) (mC (.int 0)))) (tO 0 1 (aB (aA 1) (aB (aC fB (aA 0) (aA 1)) aD))))
 (bH (aA 0)))))
def sJ:FM:=aY 2 2 Kb
def yY:MS:=(aI (aS 1 (mC (.int 0)))
 (aI (bS (bJ (aA 0)) (gN 2) (aS 1 (aR sJ [] (aB (aA 1) (aB (aA 2) aD)))))
 (aI (cO (bF (aC cS (aA 1) (mC (.int 0)))) (bH (mR gZ (aB (aA 0) aD))) eB)
 (bH (mR gZ (aB (bE ["_law_number"] [(1,"_law_by")] (bJ (aA 0)) (gN 0) (aC jK (aA 0) (aA 1))) aD))))))
def jU:FM:=aY 1 3 yY
def zH:MS:=(aI (aS 3 (bE ["_law_k"] [(2,"_law_way"),(1,"_law_q"),(0,"_law_p")] (bZ (aB (aC eQ (mR cL (aB (aA 0) aD)) (mC (.int 1))) aD)) (gN 0) (aC aG (aC bA (aC bA (aA 1) (aC aE (aA 3) (aA 0))) (aC aE (aA 2) (bQ cE (mC (.int 1))))) (aC bA (aC aE (aA 2) (aA 0)) (aC aE (aA 3) (bQ cE (mC (.int 1))))))))
 (bH (aR jU [] (aB (aC aG (aA 3) (mN fH (aB (aC bA (aC aE (aA 0) (bQ cE (mC (.int 1)))) (aC aE (aA 1) (bQ cE (mC (.int 1))))) aD))) aD))))
def lM:FM:=aY 3 4 zH
def Ac:MS:=(bH (bE ["_law_k"] [(1,"_law_q"),(0,"_law_p")] (bZ (aB (aC eQ (mR cL (aB (aA 0) aD)) (mC (.int 1))) aD)) (gN 0) (aC eQ (aC bA (aC aE (aA 1) (aA 0)) (aC aE (aA 2) (bQ cE (mC (.int 1))))) (aC bA (aC aE (aA 2) (aA 0)) (aC aE (aA 1) (bQ cE (mC (.int 1))))))))
def qG:FM:=aY 2 2 Ac
def zY:MS:=(aI (aS 2 (aC eQ (aC bA (aC aE (aA 0) (mC (.int 1))) (aC aE (aA 1) (mC (.int 2)))) (aC bA (aC aE (aA 0) (mC (.int 2))) (aC aE (aA 1) (mC (.int 1))))))
 (aI (aS 3 (aC eQ (aC bA (aC aE (aA 0) (mC (.int 2))) (aC aE (aA 1) (mC (.int 0)))) (aC bA (aC aE (aA 0) (mC (.int 0))) (aC aE (aA 1) (mC (.int 2))))))
 (aI (aS 4 (aC eQ (aC bA (aC aE (aA 0) (mC (.int 0))) (aC aE (aA 1) (mC (.int 1)))) (aC bA (aC aE (aA 0) (mC (.int 1))) (aC aE (aA 1) (mC (.int 0))))))
 (bH (mN fH (aB (aA 2) (aB (aA 3) (aB (aA 4) aD))))))))
def uS:FM:=aY 2 5 zY
def Ob:MS:=(bH (mR oO (aB (bE ["_law_one","_law_other"] [] (gU (aB (aA 0) (aB (aA 1) aD))) (gT 2 (bX (gN 0) (bX (gN 1) dW))) (aC bA (aA 0) (aA 1))) aD)))
def vX:FM:=aY 2 2 Ob
def pS:MS:=(aI (cO (bF (aC cS (mR cL (aB (aA 0) aD)) (mC (.int 2)))) (bH (aC eQ (aC bA (aC aE (aC aE (aA 0) (mC (.int 0))) (mC (.int 0))) (aC aE (aC aE (aA 0) (mC (.int 1))) (mC (.int 1)))) (aC bA (aC aE (aC aE (aA 0) (mC (.int 0))) (mC (.int 1))) (aC aE (aC aE (aA 0) (mC (.int 1))) (mC (.int 0)))))) eB)
 (bH (aR vX [] (aB (aR uS [] (aB (aC aE (aA 0) (mC (.int 0))) (aB (aC aE (aA 0) (mC (.int 1))) aD))) (aB (aC aE (aA 0) (mC (.int 2))) aD)))))
def kF:FM:=aY 1 1 pS
def vL:MS:=(bH (aR kF [] (aB (bE ["_law_p"] [(0,"_law_points")] (bJ (dP (aA 0) (dJ (mC (.int 1))) cV)) (gN 0) (aR qG [] (aB (aC aE (aA 1) (mC (.int 0))) (aB (aA 0) aD)))) aD)))
def oA:FM:=aY 1 1 vL
def uJ:MS:=(aI (aS 1 (mR sF (aB (aA 0) aD)))
 (aI (cO (bF (aC mZ (aR oA [] (aB (aA 1) aD)) (mC (.int 0)))) (aS 1 (aC aG (dP (aA 1) cV (dJ (bQ cE (mC (.int 2))))) (mN fH (aB (aC aE (aA 1) (bQ cE (mC (.int 1)))) (aB (aC aE (aA 1) (bQ cE (mC (.int 2)))) aD))))) eB)
 (bH (mR gZ (aB (aA 1) aD)))))
def jE:FM:=aY 1 2 uJ
def Va:MS:=(bH (aR jE [] (aB (bE ["_law_p"] [(2,"_law_far"),(1,"_law_way")] (bJ (aA 0)) (gN 0) (aR lM [] (aB (aA 0) (aB (aA 1) (aB (aA 2) aD))))) aD)))
def sG:FM:=aY 3 3 Va
def uF:MS:=(bH (aR kF [] (aB (bE ["_law_corner"] [(0,"_law_corners")] (bJ (dP (aA 0) (dJ (mC (.int 1))) cV)) (gN 0) (bE ["_law_b","_law_c"] [] (gU (aB (aC aE (aA 1) (mC (.int 0))) (aB (aA 0) aD))) (gT 2 (bX (gN 0) (bX (gN 1) dW))) (aC eQ (aA 1) (aA 0)))) aD)))
def lJ:FM:=aY 1 1 uF
def wA:MS:=(aI (aS 3 (eE aD))
 (aI (bS (bZ (aB (aC aG (aA 1) (mC (.int 1))) aD)) (gN 4) (dM (dF (aA 3) (aB (bE ["_law_m"] [(0,"_law_row_here"),(2,"_law_wide")] (bZ (aB (aA 1) aD)) (gN 0) (aR dC [] (aB (aA 1) (aB (aC aG (aA 2) (mC (.int 1))) aD)))) aD))))
 (aI (cO (bF (aC fZ (aR lJ [] (aB (aA 3) aD)) (mC (.int 0)))) (bH (aA 3)) eB)
 (bH (bE ["_law_k"] [(1,"_law_dims")] (kU (aB (bQ cE (mC (.int 1))) (aB (aA 1) aD))) (gN 0) (bE ["_law_m"] [(0,"_law_k")] (bZ (aB (aA 1) aD)) (gN 0) (mR iA (aB (aC cS (aA 0) (aA 1)) aD))))))))
def hV:FM:=aY 3 5 wA
def vC:MS:=(aI (aS 1 (eE (aB (mC (.int 0)) (aB (mC (.int 1)) (aB (mC (.int 2)) aD)))))
 (aI (aS 2 (eE (aB (mC (.int 0)) (aB (mC (.int 0)) (aB (mC (.int 0)) aD)))))
 (aI (aS 3 (tI (aB (aA 2) aD)))
 (aI (bS (bZ (aB (mC (.int 3)) aD)) (gN 4) (aI (kJ (aA 2) (kM (aA 1) (aB (aR dC [] (aB (aA 0) (aB (mR cL (aB (aA 1) aD)) aD))) aD)) (mC (.int 1)))
 (dM (sZ (aA 3) (aB (aA 2) aD)))))
 (aI (bS (bZ (aB (mC (.int 3)) aD)) (gN 5) (cO (bF (aC cS (aR dC [] (aB (aA 0) (aB (mC (.int 4)) aD))) (mC (.int 3)))) (oJ 3 2 5) eB))
 (bH (aA 3)))))))
def pU:FM:=oU 1 6 vC
def yH:MS:=(aI (aS 3 (eE aD))
 (aI (bS (bZ (aB (aR dC [] (aB (aA 0) (aB (aC aG (aA 2) (mC (.int 1))) aD))) aD)) (gN 4) (aI (aS 5 (aR dC [] (aB (aA 0) (aB (mC (.int 6)) aD))))
 (cO (gJ (bF (aC cS (aA 5) (mC (.int 5)))) (bF (aC eI (mR cL (aB (aA 3) aD)) (mC (.int 0))))) (dM (dF (aA 3) (aB (aC aE (aA 3) (bQ cE (mC (.int 1)))) aD))) (cO (bF (aC cS (aA 1) (mC (.int 2)))) (dM (dF (aA 3) (aB (aR hV [] (aB (aA 0) (aB (mC (.int 2)) (aB (aC aG (mC (.int 1)) (mR iA (aB (aC cS (aA 5) (mC (.int 4))) aD))) aD)))) aD))) (cO (bF (aC eI (aA 5) (mC (.int 3)))) (dM (dF (aA 3) (aB (aR hV [] (aB (aA 0) (aB (mC (.int 3)) (aB (mC (.int 1)) aD)))) aD))) (dM (dF (aA 3) (aB (aR pU [] (aB (aA 0) aD)) aD))))))))
 (bH (aA 3))))
def pF:FM:=aY 3 6 yH
def vD:MS:=(aI (aS 2 (mC (.int 1)))
 (aI (bS (bJ (aA 1)) (gN 3) (aS 2 (aC bA (aA 2) (aC aE (aA 3) (mC (.int 1))))))
 (aI (aS 4 (bE ["_law_number","_law_part"] [(2,"_law_under")] (gU (aB (aA 0) (aB (aA 1) aD))) (gT 2 (bX (gN 0) (bX (gN 1) dW))) (aC bA (aC bA (aA 0) (aC aE (aA 1) (mC (.int 0)))) (aC jK (aA 2) (aC aE (aA 1) (mC (.int 1)))))))
 (bH (aR jU [] (aB (aC aG (aA 4) (mN fH (aB (aA 2) aD))) aD))))))
def mJ:FM:=aY 2 5 vD
def zW:MS:=(aI (aS 2 (aR dC [] (aB (aA 0) (aB (mR cL (aB (aA 1) aD)) aD))))
 (aI (aS 3 (aC fB (aC aG (aC aG (aA 2) (mC (.int 1))) (aR dC [] (aB (aA 0) (aB (aC eQ (mR cL (aB (aA 1) aD)) (mC (.int 1))) aD)))) (mR cL (aB (aA 1) aD))))
 (aI (aS 4 (aC aG (mC (.int 1)) (aR dC [] (aB (aA 0) (aB (mC (.int 3)) aD)))))
 (aI (aS 5 (aC aG (mC (.int 1)) (aR dC [] (aB (aA 0) (aB (mC (.int 3)) aD)))))
 (aI (aS 6 (aC aE (aA 1) (aA 2)))
 (aI (aS 7 (aC aE (aA 1) (aA 3)))
 (aI (aS 8 (bE ["_law_k"] [(4,"_law_u"),(7,"_law_q"),(5,"_law_v"),(6,"_law_p")] (bZ (aB (aC eQ (mR cL (aB (aA 6) aD)) (mC (.int 1))) aD)) (gN 0) (aC aG (aC bA (aC bA (aA 1) (aC aE (aA 4) (aA 0))) (aC aE (aA 2) (bQ cE (mC (.int 1))))) (aC bA (aC bA (aA 3) (aC aE (aA 2) (aA 0))) (aC aE (aA 4) (bQ cE (mC (.int 1))))))))
 (aI (aS 9 (aR jU [] (aB (aC aG (aA 8) (mN fH (aB (aC bA (aC bA (aC aG (aA 4) (aA 5)) (aC aE (aA 6) (bQ cE (mC (.int 1))))) (aC aE (aA 7) (bQ cE (mC (.int 1))))) aD))) aD)))
 (aI (aS 10 (qL (aB (aA 1) aD)))
 (aI (kJ (aA 10) (aA 2) (aA 9))
 (aI (aS 11 (qL (aB (aA 1) aD)))
 (aI (kJ (aA 11) (aA 3) (aA 9))
 (bH (mN fH (aB (aR jE [] (aB (aA 10) aD)) (aB (aR jE [] (aB (aA 11) aD)) aD))))))))))))))))
def pN:FM:=aY 2 12 zW
def zB:MS:=(aI (aS 2 (eE aD))
 (aI (bS (bJ (aA 1)) (gN 3) (cO (bF (aC eI (aR dC [] (aB (aA 0) (aB (mC (.int 3)) aD))) (mC (.int 0)))) (aS 2 (sV (aA 2) (aR pN [] (aB (aA 0) (aB (aA 3) aD))))) (dM (dF (aA 2) (aB (aA 3) aD)))))
 (aI (aS 4 (eE aD))
 (aI (jW (bF (aC eI (mR cL (aB (aA 2) aD)) (mC (.int 0)))) (dM (dF (aA 4) (aB (kM (aA 2) (aB (aR dC [] (aB (aA 0) (aB (mR cL (aB (aA 2) aD)) aD))) aD)) aD))))
 (bH (aA 4))))))
def lL:FM:=aY 2 5 zB
def Ta:MS:=(aI (aS 2 (eE aD))
 (aI (bS (bJ (aA 1)) (gN 3) (aI (aS 4 (bE ["_law_k"] [(0,"_law_row_here")] (bZ (aB (aC eQ (mR cL (aB (aA 3) aD)) (mC (.int 1))) aD)) (gN 0) (aC eQ (aR dC [] (aB (aA 1) (aB (mC (.int 3)) aD))) (mC (.int 1)))))
 (dM (dF (aA 2) (aB (aR sG [] (aB (aA 3) (aB (mC (.int 1)) (aB (mR gZ (aB (aC aG (aA 4) (mN fH (aB (mC (.int 1)) aD))) aD)) aD)))) aD)))))
 (bH (aA 2))))
def rY:FM:=aY 2 5 Ta
def Ba:MS:=(aI (aS 3 (eE aD))
 (aI (bS (bZ (aB (mC (.int 2)) aD)) (gN 4) (aI (aS 5 (aC aE (aA 1) (aR dC [] (aB (aA 0) (aB (mR cL (aB (aA 1) aD)) aD)))))
 (dM (dF (aA 3) (aB (aC aE (aA 5) (aR dC [] (aB (aA 0) (aB (mR cL (aB (aA 5) aD)) aD)))) aD)))))
 (aI (aS 6 (aR lM [] (aB (aC aE (aA 3) (mC (.int 0))) (aB (aC aE (aA 3) (mC (.int 1))) (aB (mC (.int 1)) aD)))))
 (aI (aS 7 (aR jU [] (aB (aC aG (mR hU (aB (dP (aA 6) cV (dJ (bQ cE (mC (.int 1))))) aD)) (mN fH (aB (aC bA (mC (.int 2)) (aC aE (aA 6) (bQ cE (mC (.int 1))))) aD))) aD)))
 (aI (aS 8 (bE ["_law_k"] [(0,"_law_row_here")] (bZ (aB (aA 2) aD)) (gN 0) (aC eQ (aR dC [] (aB (aA 1) (aB (mC (.int 9)) aD))) (mC (.int 4)))))
 (bH (aR lM [] (aB (aA 7) (aB (aR jU [] (aB (aC aG (aA 8) (mN fH (aB (mC (.int 101)) aD))) aD)) (aB (mC (.int 1)) aD))))))))))
def rW:FM:=aY 3 9 Ba
def Wm:MS:=(aI (aS 2 (mC .non))
 (aI (sP (sK rH [] (aB (aA 0) (aB (aA 1) aD))) "OnSide" 3 2 (λρ=>(ρ.set 2 (some (.pv .non)))))
 (bH (aA 2))))
def mK:FM:=aY 2 3 Wm
def Wd:MS:=(aI (aS 1 (oB pW [] (aB (aA 0) aD)))
 (aI (aS 2 (aC aG (mC (.int 2)) (aR dC [] (aB (aA 1) (aB (mC (.int 2)) aD)))))
 (aI (aS 3 (aR pF [] (aB (aA 1) (aB (aA 2) (aB (mC (.int 3)) aD)))))
 (aI (cO (bF (aC cS (mR cL (aB (aA 3) aD)) (mC (.int 0)))) (aS 3 (mN fH (aB (aR hV [] (aB (aA 1) (aB (aA 2) (aB (mC (.int 1)) aD)))) aD))) eB)
 (aI (aS 4 (bE ["_law_k"] [] (bZ (aB (aA 2) aD)) (gN 0) (mN eR (aB (mC (.int 1)) (aB (mC (.int 1)) aD)))))
 (aI (aS 5 (aR rY [] (aB (aA 1) (aB (bE ["_law_corners"] [(4,"_law_one")] (bJ (aA 3)) (gN 0) (aR jE [] (aB (bE ["_law_c"] [(1,"_law_one")] (bJ (aA 0)) (gN 0) (aR mJ [] (aB (aA 0) (aB (aA 1) aD)))) aD))) aD))))
 (aI (aS 6 (aR lL [] (aB (aA 1) (aB (aR lL [] (aB (aA 1) (aB (aA 5) aD))) aD))))
 (aI (cO (pA (bF (aC (nE true) (sM qB (aB (aA 5) (aB (aA 6) aD))) (mC (.bl true)))) (bF (aC fZ (aR nZ [] (aB (aA 5) aD)) (aR nZ [] (aB (aA 6) aD))))) (bH (mC (.bl false))) eB)
 (aI (bS (bZ (aB (mC (.int 4)) aD)) (gN 7) (aI (aS 8 (aR rW [] (aB (aA 1) (aB (aA 5) (aB (aA 2) aD)))))
 (aI (aS 9 (aR mK [] (aB (aA 5) (aB (aA 8) aD))))
 (aI (aS 10 (aR mK [] (aB (aA 6) (aB (aA 8) aD))))
 (cO (gJ (bF (bQ jM (aA 9))) (gJ (bF (bQ jM (aA 10))) (bF (aC fZ (aA 9) (aA 10))))) (bH (mC (.bl false))) eB)))))
 (bH (mC (.bl true))))))))))))
def Dd:FM:=aY 1 11 Wd
abbrev vJ(B:Bx):=cX B "sign" 1 ["number"] oE
abbrev yQ(B:Bx):=cX B "divisor" 1 ["one","other"] pL
abbrev Tg(B:Bx):=cX B "reduced" 2 ["numbers"] uQ
abbrev yF(B:Bx):=cX B "lowest_way" 3 ["numbers"] nO
abbrev yJ(B:Bx):=Ie B "fraction" 2 ["top","bottom"] pG
abbrev Zl(B:Bx):=cX B "plus" 3 ["one","other"] oG
abbrev Ak(B:Bx):=cX B "total" 4 ["parts"] vF
abbrev tZ(B:Bx):=cX B "whole_arrow" 1 ["start","end"] kS
abbrev Bp(B:Bx):=cX B "dot" 1 ["u","v"] wD
abbrev yX(B:Bx):=cX B "normal" 1 ["arrows"] nQ
abbrev yD(B:Bx):=cX B "determinant" 2 ["points"] nN
abbrev On(B:Bx):=cX B "side" 3 ["points"] mO
abbrev Cg(B:Bx):=cX B "replaced" 1 ["row","place","value"] pI
abbrev Uf(B:Bx):=cX B "standing" 4 ["piece","p"] rG
abbrev Rk(B:Bx):=cX B "walls" 1 ["piece"] sI
abbrev Th(B:Bx):=cX B "extent" 3 ["piece"] pO
abbrev Il(B:Bx):=cX B "size" 5 ["heap"] nZ
abbrev Zf(B:Bx):=Ie B "count_at" 5 ["heap","p"] rH
abbrev Of(B:Bx):=cX B "plane_way" 4 ["wall"] mF
abbrev Yk(B:Bx):=cX B "sides" 1 ["wall"] sC
abbrev Tf(B:Bx):=cX B "put_wall" 5 ["marks","wall","number"] rL
abbrev Jl(B:Bx):=cX B "same" 6 ["one","other"] qB
abbrev Um(B:Bx):=cX B "_law_row" 1 ["_law_script"] pW
abbrev lP(B:Bx):=cX B "_law_take" 1 ["_law_row_here","_law_many"] dC
abbrev Rn(B:Bx):=cX B "_law_gcd" 1 ["_law_one","_law_other"] sJ
abbrev rJ(B:Bx):=cX B "_law_lowest" 2 ["_law_numbers"] jU
abbrev yR(B:Bx):=cX B "_law_joined" 3 ["_law_p","_law_q","_law_way"] lM
abbrev Im(B:Bx):=cX B "_law_gap" 1 ["_law_p","_law_q"] qG
abbrev Ii(B:Bx):=cX B "_law_cross" 1 ["_law_u","_law_v"] uS
abbrev Dm(B:Bx):=cX B "_law_dot" 1 ["_law_u","_law_v"] vX
abbrev zS(B:Bx):=cX B "_law_turn" 2 ["_law_ways"] kF
abbrev Hl(B:Bx):=cX B "_law_det" 3 ["_law_points"] oA
abbrev uE(B:Bx):=cX B "_law_simplex" 4 ["_law_points"] jE
abbrev Pk(B:Bx):=cX B "_law_gone" 5 ["_law_points","_law_way","_law_far"] sG
abbrev Nf(B:Bx):=cX B "_law_raw_turn" 3 ["_law_corners"] lJ
abbrev Ua(B:Bx):=cX B "_law_raw" 4 ["_law_row_here","_law_dims","_law_wide"] hV
abbrev Ek(B:Bx):=cX B "_law_kuhn" 2 ["_law_row_here"] pU
abbrev Lf(B:Bx):=cX B "_law_raw_heap" 5 ["_law_row_here","_law_dims","_law_many"] pF
abbrev Zi(B:Bx):=cX B "_law_spot" 3 ["_law_corner","_law_stretch"] mJ
abbrev Ui(B:Bx):=cX B "_law_split" 5 ["_law_row_here","_law_points"] pN
abbrev Ch(B:Bx):=cX B "_law_parted" 6 ["_law_row_here","_law_heap"] lL
abbrev Mj(B:Bx):=cX B "_law_near" 6 ["_law_row_here","_law_heap"] rY
abbrev Jh(B:Bx):=cX B "_law_aside" 4 ["_law_row_here","_law_heap","_law_dims"] rW
abbrev Aj(B:Bx):=cX B "_law_told" 6 ["_law_heap","_law_p"] mK
structure Mg(mg:Str->AF):Prop where
 m_abs:mg "abs"=none
 m_any:mg "any"=none
 m_enumerate:mg "enumerate"=none
 m_int:mg "int"=none
 m_len:mg "len"=none
 m_list:mg "list"=none
 m_min:mg "min"=none
 m_range:mg "range"=none
 m_sorted:mg "sorted"=none
 m_sum:mg "sum"=none
 m_tuple:mg "tuple"=none
 m_zip:mg "zip"=none
set_option hygiene false
local macro_rules | `(tactic|trivial)=> `(tactic|(first
 |(with_reducible show eM _ _ _ _ _ aD);exact Gn
 |(with_reducible show eM _ _ _ _ _ (aB _ _));refine Fa ?_ ?_
 |(with_reducible show aT _ _ _ _ _ (aA _));exact vS _
 |(with_reducible show aT _ _ _ _ _ (mC (.int _)));(first |exact Z6 |exact Ll rfl (by assumption))
 |(with_reducible show aT _ _ _ _ _ (mC (.bl _)));exact abk
 |(with_reducible show aT _ _ _ _ _ (mC (.tup _)));exact Ll rfl (by assumption)
 |(with_reducible show aT _ _ _ _ _ (bQ cE _));refine abI Yp aa6 ?_
 |(with_reducible show aT _ _ _ _ _ (bQ mV _));refine U9 ?_
 |(with_reducible show aT _ _ _ _ _ (sV _ _));refine N6 ?_ ?_
 |(with_reducible show aT _ _ _ _ _ (aC qI _ _));refine oM K6 aaJ ?_ ?_
 |(with_reducible show aT _ _ _ _ _ (aC aG _ _));refine oM El abu ?_ ?_
 |(with_reducible show aT _ _ _ _ _ (aC eQ _ _));refine oM Fo aaY ?_ ?_
 |(with_reducible show aT _ _ _ _ _ (aC bA _ _));refine oM K8 abz ?_ ?_
 |(with_reducible show aT _ _ _ _ _ (aC jK _ _));refine oM Wz W9 ?_ ?_
 |(with_reducible show aT _ _ _ _ _ (aC fB _ _));refine oM F6 aa7 ?_ ?_
 |(with_reducible show aT _ _ _ _ _ (aC lW _ _));refine oM Y5 abt ?_ ?_
 |(with_reducible show aT _ _ _ _ _ (aC aE _ _));refine aa5 ?_ ?_
 |(with_reducible show aT _ _ _ _ _ (aC (nE false) _ _));refine oC Ur (xH false) ?_ ?_ (iT _)
 |(with_reducible show aT _ _ _ _ _ (aC (nE true) _ _));refine oC Vm (xH true) ?_ ?_ (iT _)
 |(with_reducible show aT _ _ _ _ _ (aC cS _ _));refine oC (Aq (qW hr)) Xs ?_ ?_ (iT _)
 |(with_reducible show aT _ _ _ _ _ (aC fZ _ _));refine oC (So (qW hr)) Ms ?_ ?_ (iT _)
 |(with_reducible show aT _ _ _ _ _ (aC mZ _ _));refine oC Qr Ds ?_ ?_ (iT _)
 |(with_reducible show aT _ _ _ _ _ (aC eI _ _));refine oC Pr Ls ?_ ?_ (iT _)
 |(with_reducible show aT _ _ _ _ _ (aC rA _ _));refine oC Hr Js ?_ ?_ (iT _)
 |(with_reducible show fJ _ _ _ _ _ (bF (aC (nE false) _ _)));refine nY Ur (xH false) ?_ ?_ (iT _)
 |(with_reducible show fJ _ _ _ _ _ (bF (aC (nE true) _ _)));refine nY Vm (xH true) ?_ ?_ (iT _)
 |(with_reducible show fJ _ _ _ _ _ (bF (aC cS _ _)));refine nY (Aq (qW hr)) Xs ?_ ?_ (iT _)
 |(with_reducible show fJ _ _ _ _ _ (bF (aC fZ _ _)));refine nY (So (qW hr)) Ms ?_ ?_ (iT _)
 |(with_reducible show fJ _ _ _ _ _ (bF (aC mZ _ _)));refine nY Qr Ds ?_ ?_ (iT _)
 |(with_reducible show fJ _ _ _ _ _ (bF (aC eI _ _)));refine nY Pr Ls ?_ ?_ (iT _)
 |(with_reducible show fJ _ _ _ _ _ (bF (aC rA _ _)));refine nY Hr Js ?_ ?_ (iT _)
 |(with_reducible show fJ _ _ _ _ _ (bF (bQ jM _)));refine aau ?_
 |(with_reducible show fJ _ _ _ _ _ (tJ _));refine L0 ?_
 |(with_reducible show fJ _ _ _ _ _ (gJ _ _));refine jQ.pt ?_
 |(with_reducible show fJ _ _ _ _ _ (pA _ _));refine jQ.pt ?_
 |(with_reducible show jQ _ _ _ _ _ (gJ _ _));refine Q9 ?_ ?_
 |(with_reducible show jQ _ _ _ _ _ (pA _ _));refine aaG ?_ ?_
 |(with_reducible show jQ _ _ _ _ _ _);(first |refine Xx ?_ |refine M9 ?_)
 |(with_reducible show aT _ _ _ _ _ (oS _ _ _));refine abb ?_ ?_ ?_
 |(with_reducible show aT _ _ _ _ _ (mN eR _));refine X7 ?_
 |(with_reducible show aT _ _ _ _ _ (mN fH _));refine aaF ?_
 |(with_reducible show aT _ _ _ _ _ (eE _));refine G6 ?_
 |(with_reducible show aT _ _ _ _ _ (oP _ _ _ _));(first |refine Lo ?_ ?_ ?_ F8 (by decide) |refine Lo ?_ ?_ ?_ aaq (by decide))
 |(with_reducible show aT _ _ _ _ _ (dP _ _ _));refine abc ?_ ?_ ?_
 |(with_reducible show nH _ _ _ _ _ cV);exact Xz
 |(with_reducible show nH _ _ _ _ _ (dJ _));refine D8 ?_
 |(with_reducible show aT _ _ _ _ _ (tE _ _));refine G7 (qW hr) ?_ ?_
 |(with_reducible show aT _ _ _ _ _ (sU _));exact O2 _
 |(with_reducible show aT _ _ _ _ _ (tD _));refine K9 rfl rfl m.m_any V4 ?_
 |(with_reducible show aT _ _ _ _ _ (sZ _ _));refine N4 rfl rfl m.m_list ?_ ?_
 |(with_reducible show aT _ _ _ _ _ (tI _));refine T8 rfl rfl m.m_list ?_
 |(with_reducible show aT _ _ _ _ _ (dF _ _));refine Tx ?_ ?_
 |(with_reducible show aT _ _ _ _ _ (kM _ _));refine aam ?_ ?_
 |(with_reducible show aT _ _ _ _ _ (sM _ _));refine abl (by assumption) hr (by decide) rfl ?_
 |(with_reducible show aT _ _ _ _ _ (oK _ [] _));refine aaO (by assumption) hr (by decide) rfl ?_
 |(with_reducible show aT _ _ _ _ _ (aR _ [] _));refine abn (by assumption) hr (by decide) rfl ?_
 |(with_reducible show aT _ _ _ _ _ (oB _ [] _));refine abL (by assumption) hr (by decide) rfl ?_
 |(with_reducible show aT _ _ _ _ _ (qL _));refine E8 rfl rfl m.m_list ?_
 |(with_reducible show aT _ _ _ _ _ (mR cL _));refine rX Ju abm rfl m.m_len aaD ?_
 |(with_reducible show aT _ _ _ _ _ (mR kL _));refine rX A4 abr rfl m.m_abs aac ?_
 |(with_reducible show aT _ _ _ _ _ (mR gZ _));refine zG Au M5 rfl m.m_tuple B7 ?_
 |(with_reducible show aT _ _ _ _ _ (mR hU _));refine zG uC O5 rfl m.m_list O9 ?_
 |(with_reducible show aT _ _ _ _ _ (mR iA _));refine zG Uw abE rfl m.m_int X8 ?_
 |(with_reducible show aT _ _ _ _ _ (mR oO _));refine rX (Ax rfl) aaQ rfl m.m_sum aas ?_
 |(with_reducible show aT _ _ _ _ _ (mR sF _));refine rX Yu W7 rfl m.m_sorted Gw ?_
 |(with_reducible show aT _ _ _ _ _ (mR tM _));refine rX (Ow rfl) aaT rfl m.m_min aar ?_
 |(with_reducible show aT _ _ _ _ _ (bE _ _ _ _ _));(first |refine M2 (by first |exact Rc |exact Lb |exact Kc) ?_ rfl (λ_ _ _ _=> ?_) (λ_ _ _ _=> ?_) |refine D9 Z7 ?_ rfl (λ_ _ _ _=> ?_) (λ_ _ _ _=> ?_))
 |(with_reducible show aT _ _ _ _ _ (vN _ _ _ _ _ _));refine Vy (by first |exact Rc |exact Lb |exact Kc) ?_ rfl (λ_ _ _ _=> ?_) (λ_ _ _ _=> ?_) (λ_ _ _ _=> ?_)
 |(with_reducible show PIp _ _ _ _ _ _ (gU _));refine K0 rfl m.m_zip ?_
 |(with_reducible show PIp _ _ _ _ _ _ (wH _));refine Oz rfl m.m_enumerate ?_
 |(with_reducible show PIp _ _ _ _ _ _ (bZ _));refine Fv rfl m.m_range ?_
 |(with_reducible show PIp _ _ _ _ _ _ (kU _));refine Kv rfl m.m_range ?_
 |(with_reducible show PIp _ _ _ _ _ _ (bJ _));refine P8 ?_
 |(with_reducible show lG _ _ _ (gN _));exact D6 (by first |exact nd |(show(bW _ _).Nodup;decide+kernel)) rfl (by first |exact fe rfl |exact gw rfl)
 |(with_reducible show lG _ _ _ (gT _ _));refine Q7 rfl ?_
 |(with_reducible show qS _ _ _ dW);exact D5
 |(with_reducible show qS _ _ _ (bX _ _));refine Wx ?_ ?_
 |(with_reducible show fY _ _ _ _ _ eB);exact Bz
 |(with_reducible show fY _ _ _ _ _ (aI _ _));refine zF ?_ ?_
 |(with_reducible show fY _ _ _ _ _ _);refine Ej ?_
 |(with_reducible show eO _ _ _ _ _ (bH _));refine Jn ?_
 |(with_reducible show eO _ _ _ _ _ (cO _ _ _));refine V3 ?_ ?_ ?_
 |(with_reducible show eO _ _ _ _ _ (dM _));refine Yz ?_
 |(with_reducible show eO _ _ _ _ _ (qE _));exact Mw rfl (by assumption) (by assumption)
 |(with_reducible show eO _ _ _ _ _ (aS _ (bE _ _ _ _ _)));(first |refine Py nd rfl (by first |exact fe rfl |exact gw rfl) (by first |exact Rc |exact Lb |exact Kc) ?_ rfl (λ_ _ _ _=> ?_) (λ_ _ _ _=> ?_) |refine Db nd rfl (by first |exact fe rfl |exact gw rfl) ?_)
 |(with_reducible show eO _ _ _ _ _ (aS _ _));refine Db nd rfl (by first |exact fe rfl |exact gw rfl) ?_
 |(with_reducible show eO _ _ _ _ _ (tO _ _ _));refine G5 rfl nd rfl rfl (by decide) rfl rfl ?_ rfl
 |(with_reducible show eO _ _ _ _ _ (tG _ _ _));refine P6 (qW hr) ?_ ?_ ?_
 |(with_reducible show eO _ _ _ _ _ (kJ _ _ _));refine Xw ?_ ?_ ?_
 |(with_reducible show eO _ _ _ _ _ (qQ _ _ _));(first |refine Kj nd rfl (by first |exact fe rfl |exact gw rfl) ?_ aao |refine Kj nd rfl (by first |exact fe rfl |exact gw rfl) ?_ W5)
 |(with_reducible show eO _ _ _ _ _ (jW _ _));refine Dx (by first |exact xy |exact xz) ?_ ?_
 |(with_reducible show eO _ _ _ _ _ (oJ _ _ _));exact M8 (by first |exact xy |exact xz) rfl nd rfl rfl rfl (by first |exact fe rfl |exact gw (fe rfl)) (by first |exact fe rfl |exact gw rfl) (by first |exact fe rfl |exact gw (fe rfl)) (by decide) (by decide)
 |(with_reducible show eO _ _ _ _ _ (bS _ _ _));refine R6 (by first |exact xy |exact xz) rfl ?_ ?_ ?_)<;>trivial)
set_option hygiene true
section
variable{B:Bx}(X:XG B.K B.mg)(m:Mg B.mg)
include X m
theorem F5(h:HF B.K "sign" Iq):vJ B:=dG (N:=["number"]) X h cU λnd _ _ _ _ _ _ _ hr=>by unfold Nb;trivial
theorem Wv(h:HF B.K "divisor" Mh):yQ B:=dG (N:=["one","other","rest"]) X h cU λnd _ _ _ _ _ _ _ hr=>by unfold zI;trivial
theorem Bw(h:HF B.K "reduced" Kh)(C_divisor:yQ B):Tg B:=dG (N:=["numbers","common","number"]) X h cU λnd _ _ _ _ _ _ _ hr=>by unfold zJ;trivial
theorem Zt(h:HF B.K "lowest_way" Kf)(C_reduced:Tg B)(C_sign:vJ B):yF B:=dG (N:=["numbers","first"]) X h cU λnd _ _ _ _ _ _ _ hr=>by unfold yG;trivial
theorem Su{f:Addr}{fd:cf}{dsv:Array Value}(F:mX B.K "fraction" "fraction" rM f fd dsv)(C_sign:vJ B)(C_divisor:yQ B)(q_NoNumber:B.mg "NoNumber"=some (.ref (B.cl "NoNumber")))(x_NoNumber:jb B.K (B.cl "NoNumber") kH "ValueError.__new__"=true):dX B.P B.w B.K B.mg B.base (fI B.P B.w) 2 f fd ["top","bottom"] (kP B.K B.cl pG):=aca (N:=["top","bottom","common"]) F cU λnd _ _ _ _ _ _ _ hr=>by unfold yO;trivial
theorem P7(h:HF B.K "plus" Lp)(H_fraction:yJ B):Zl B:=dG (N:=["one","other"]) X h cU λnd _ _ _ _ _ _ _ hr=>by unfold Qb;trivial
theorem A5(h:HF B.K "total" Bm)(C_plus:Zl B):Ak B:=dG (N:=["parts","pairs"]) X h cU λnd _ _ _ _ _ _ _ hr=>by unfold Eb;trivial
theorem Ut(h:HF B.K "whole_arrow" Ff):tZ B:=dG (N:=["start","end"]) X h cU λnd _ _ _ _ _ _ _ hr=>by unfold yE;trivial
theorem aaw(h:HF B.K "dot" Nr):Bp B:=dG (N:=["u","v"]) X h cU λnd _ _ _ _ _ _ _ hr=>by unfold Tc;trivial
theorem Ux(h:HF B.K "normal" Uk):yX B:=dG (N:=["arrows","u","v"]) X h cU λnd _ _ _ _ _ _ _ hr=>by unfold uT;trivial
theorem Tt(h:HF B.K "determinant" Gf)(C_whole_arrow:tZ B)(C_dot:Bp B)(C_normal:yX B):yD B:=dG (N:=["points","rows"]) X h cU λnd _ _ _ _ _ _ _ hr=>by unfold uA;trivial
theorem L6(h:HF B.K "side" Zo)(C_sign:vJ B)(C_determinant:yD B):On B:=dG (N:=["points"]) X h cU λnd _ _ _ _ _ _ _ hr=>by unfold vT;trivial
theorem Wu(h:HF B.K "replaced" Og):Cg B:=dG (N:=["row","place","value"]) X h cU λnd _ _ _ _ _ _ _ hr=>by unfold yV;trivial
theorem Ku(h:HF B.K "standing" Ug)(C_side:On B)(C_replaced:Cg B):Uf B:=dG (N:=["piece","p"]) X h cU λnd _ _ _ _ _ _ _ hr=>by unfold yW;trivial
theorem Ey(h:HF B.K "walls" Rl)(gt_FLAT_WALLS:tY B.K B.mg "FLAT_WALLS" (.tup [.tup [.int 0,.int 1],.tup [.int 1,.int 2],.tup [.int 2,.int 0]]))(gt_SPACE_WALLS:tY B.K B.mg "SPACE_WALLS" (.tup [.tup [.int 1,.int 2,.int 3],.tup [.int 0,.int 3,.int 2],.tup [.int 0,.int 1,.int 3],.tup [.int 0,.int 2,.int 1]])):Rk B:=dG (N:=["piece","order"]) X h cU λnd _ _ _ _ _ _ _ hr=>by unfold Pa;trivial
theorem Hx(h:HF B.K "extent" Lj)(H_fraction:yJ B)(C_determinant:yD B):Th B:=dG (N:=["piece","share","bottom","p"]) X h cU λnd _ _ _ _ _ _ _ hr=>by unfold uR;trivial
theorem F2(h:HF B.K "size" Kp)(C_total:Ak B)(C_extent:Th B):Il B:=dG (N:=["heap"]) X h cU λnd _ _ _ _ _ _ _ hr=>by unfold Xb;trivial
theorem Pu(h:HF B.K "count_at" Bh)(C_standing:Uf B)(q_OnSide:B.mg "OnSide"=some (.ref (B.cl "OnSide")))(x_OnSide:jb B.K (B.cl "OnSide") kH "ValueError.__new__"=true):Zf B:=mkX (N:=["heap","p","count","piece","stand"]) X h cU λnd _ _ _ _ _ _ _ hr=>by unfold rK;trivial
theorem Cu(h:HF B.K "plane_way" Vf)(C_lowest_way:yF B)(C_normal:yX B)(C_whole_arrow:tZ B):Of B:=dG (N:=["wall"]) X h cU λnd _ _ _ _ _ _ _ hr=>by unfold uG;trivial
theorem Kz(h:HF B.K "sides" Rm):Yk B:=dG (N:=["wall"]) X h cU λnd _ _ _ _ _ _ _ hr=>by unfold Ia;trivial
theorem Qu(h:HF B.K "put_wall" Hg)(C_plane_way:Of B)(C_sides:Yk B)(C_lowest_way:yF B)(C_whole_arrow:tZ B):Tf B:=dG (N:=["marks","wall","number","plane","start","end","line","p","mark","key"]) X h cU λnd _ _ _ _ _ _ _ hr=>by unfold yU;trivial
theorem O6(h:HF B.K "same" Dp)(C_walls:Rk B)(C_put_wall:Tf B):Jl B:=dG (N:=["one","other","marks","heap","number","piece","wall"]) X h cU λnd _ _ _ _ _ _ _ hr=>by unfold Wb;trivial
theorem F4(h:HF B.K "_law_row" Fp):Um B:=dG (N:=["_law_script","_law_row_here","_law_k","_law_cell","_law_one","_law_two","_law_three"]) X h cU λnd _ _ _ _ _ _ _ hr=>by unfold Lc;trivial
theorem B5(h:HF B.K "_law_take" Ln):lP B:=dG (N:=["_law_row_here","_law_many","_law_found"]) X h cU λnd _ _ _ _ _ _ _ hr=>by unfold vB;trivial
theorem F7(h:HF B.K "_law_gcd" Hq):Rn B:=dG (N:=["_law_one","_law_other"]) X h cU λnd _ _ _ _ _ _ _ hr=>by unfold Kb;trivial
theorem Cv(h:HF B.K "_law_lowest" Fi)(C_wgcd:Rn B):rJ B:=dG (N:=["_law_numbers","_law_by","_law_number"]) X h cU λnd _ _ _ _ _ _ _ hr=>by unfold yY;trivial
theorem Vv(h:HF B.K "_law_joined" Ji)(C_wlowest:rJ B):yR B:=dG (N:=["_law_p","_law_q","_law_way","_law_far"]) X h cU λnd _ _ _ _ _ _ _ hr=>by unfold zH;trivial
theorem J5(h:HF B.K "_law_gap" Ep):Im B:=dG (N:=["_law_p","_law_q"]) X h cU λnd _ _ _ _ _ _ _ hr=>by unfold Ac;trivial
theorem Yw(h:HF B.K "_law_cross" Jj):Ii B:=dG (N:=["_law_u","_law_v","_law_x","_law_y","_law_z"]) X h cU λnd _ _ _ _ _ _ _ hr=>by unfold zY;trivial
theorem M1(h:HF B.K "_law_dot" Qp):Dm B:=dG (N:=["_law_u","_law_v"]) X h cU λnd _ _ _ _ _ _ _ hr=>by unfold Ob;trivial
theorem Ry(h:HF B.K "_law_turn" An)(C_wdot:Dm B)(C_wcross:Ii B):zS B:=dG (N:=["_law_ways"]) X h cU λnd _ _ _ _ _ _ _ hr=>by unfold pS;trivial
theorem J3(h:HF B.K "_law_det" Lq)(C_wturn:zS B)(C_wgap:Im B):Hl B:=dG (N:=["_law_points"]) X h cU λnd _ _ _ _ _ _ _ hr=>by unfold vL;trivial
theorem Lu(h:HF B.K "_law_simplex" Zg)(C_wdet:Hl B):uE B:=dG (N:=["_law_points","_law_told_here"]) X h cU λnd _ _ _ _ _ _ _ hr=>by unfold uJ;trivial
theorem A8(h:HF B.K "_law_gone" Ol)(C_wsimplex:uE B)(C_wjoined:yR B):Pk B:=dG (N:=["_law_points","_law_way","_law_far"]) X h cU λnd _ _ _ _ _ _ _ hr=>by unfold Va;trivial
theorem Iu(h:HF B.K "_law_raw_turn" Wf)(C_wturn:zS B):Nf B:=dG (N:=["_law_corners"]) X h cU λnd _ _ _ _ _ _ _ hr=>by unfold uF;trivial
theorem R7(h:HF B.K "_law_raw" Yo)(C_wtake:lP B)(C_wraw_turn:Nf B):Ua B:=dG (N:=["_law_row_here","_law_dims","_law_wide","_law_corners","_law_k"]) X h cU λnd _ _ _ _ _ _ _ hr=>by unfold wA;trivial
theorem B6(h:HF B.K "_law_kuhn" Jm)(C_wtake:lP B):Ek B:=mkL (N:=["_law_row_here","_law_rest","_law_corner","_law_corners","_law_k","_law_m"]) X h cU λnd _ _ _ _ _ _ _ hr=>by unfold vC;trivial
theorem Hu(h:HF B.K "_law_raw_heap" Pf)(C_wtake:lP B)(C_wraw:Ua B)(C_wkuhn:Ek B):Lf B:=dG (N:=["_law_row_here","_law_dims","_law_many","_law_heap","_law_k","_law_kind"]) X h cU λnd _ _ _ _ _ _ _ hr=>by unfold yH;trivial
theorem Fy(h:HF B.K "_law_spot" Ql)(C_wlowest:rJ B):Zi B:=dG (N:=["_law_corner","_law_stretch","_law_under","_law_part","_law_far"]) X h cU λnd _ _ _ _ _ _ _ hr=>by unfold vD;trivial
theorem Lw(h:HF B.K "_law_split" Ik)(C_wtake:lP B)(C_wlowest:rJ B)(C_wsimplex:uE B):Ui B:=dG (N:=["_law_row_here","_law_points","_law_i","_law_j","_law_u","_law_v","_law_p","_law_q","_law_far","_law_middle","_law_one","_law_other"]) X h cU λnd _ _ _ _ _ _ _ hr=>by unfold zW;trivial
theorem Zv(h:HF B.K "_law_parted" Qi)(C_wtake:lP B)(C_wsplit:Ui B):Ch B:=dG (N:=["_law_row_here","_law_heap","_law_left","_law_points","_law_told_here"]) X h cU λnd _ _ _ _ _ _ _ hr=>by unfold zB;trivial
theorem Gy(h:HF B.K "_law_near" Tm)(C_wtake:lP B)(C_wgone:Pk B):Mj B:=dG (N:=["_law_row_here","_law_heap","_law_told_here","_law_points","_law_far"]) X h cU λnd _ _ _ _ _ _ _ hr=>by unfold Ta;trivial
theorem Px(h:HF B.K "_law_aside" Cj)(C_wtake:lP B)(C_wjoined:yR B)(C_wlowest:rJ B):Jh B:=dG (N:=["_law_row_here","_law_heap","_law_dims","_law_few","_law_k","_law_points","_law_far","_law_half","_law_aside_here"]) X h cU λnd _ _ _ _ _ _ _ hr=>by unfold Ba;trivial
theorem Fz(h:HF B.K "_law_told" Nl)(H_count_at:Zf B)(q_OnSide:B.mg "OnSide"=some (.ref (B.cl "OnSide")))(x_OnSide:jb B.K (B.cl "OnSide") kH "ValueError.__new__"=true):Aj B:=dG (N:=["_law_heap","_law_p","_law_found"]) X h cU λnd _ _ _ _ _ _ _ hr=>by obtain⟨a_count_at,d_count_at,GX_count_at,G_count_at,rK,k_count_at,n_count_at⟩:=H_count_at;exact(zF (Db (i:=2) nd rfl (fe rfl) V5) (zF (B3 (jv:=2) (nn:=3) (c:="OnSide") (up:=λρ=>(ρ.set 2 (some (.pv .non)))) rfl nd rfl q_OnSide x_OnSide (K3 rfl GX_count_at (hr.mono (by decide)) rfl n_count_at k_count_at rK .nil Dv.nil (Fa (vS 0) (Fa (vS 1) Gn))) rfl (fe rfl) (λy=>(Oa (Gq (i:=2) nd rfl (fe rfl) Io))) (λD σ H p S ρ sm hl ev k=>by match σ,hl,ev with |[s0,s1,s2],_,ev=>exact k _ _ (dH.refl _) (ev.set (v:=.pv .non) (x:=.non) (by show aP _ _ _ _ _;unfold aP;rfl) 2))) (Ej (Jn (vS 2)))))
theorem X9{f:Addr}{fd:cf}(F:iJ B.K "law" "law" mT f fd)(C_wrow:Um B)(C_wtake:lP B)(C_wraw_heap:Lf B)(C_wraw:Ua B)(C_wnear:Mj B)(C_wsimplex:uE B)(C_wspot:Zi B)(C_wparted:Ch B)(C_same:Jl B)(C_size:Il B)(C_waside:Jh B)(C_wtold:Aj B):dX B.P B.w B.K B.mg B.base fA 7 f fd ["_law_script"] (kN B.K B.cl Dd):=mkR (N:=["_law_script","_law_row_here","_law_dims","_law_raw_here","_law_one","_law_heap","_law_other","_law_k","_law_p","_law_left","_law_right"]) F cU λnd _ _ _ _ _ _ _ hr=>by unfold Wd;trivial
end
def EC:=ao @gL.eq_1 (ao @aI.eq_1 (ao @cO.eq_1 (ao @bF.eq_1 (ao @Hs.eq_1 (ao @gJ.eq_1 (ao @pA.eq_1 (ao @Vr.eq_1 (ao @Rs.eq_1 (ao @oS.eq_1 (ao @aC.eq_1 (ao @bQ.eq_1 (ao @mR.eq_1 (ao @mN.eq_1 (ao @aB.eq_1 (ao @aA.eq_1 (ao @mC.eq_1 (ao @aD.eq_1 (ao @bG.bind.eq_1 (ao @bG.bind.eq_2 (ao @bG.bind.eq_3 (ao @qK.eq_1 (ao @jZ.eq_1 (ao @lV.eq_1 (ao @wI.eq_1 (ao @fP.eq_1 (ao @fP.eq_2 (ao @rd.eq_1 (ao @rd.eq_2 (ao @jY.eq_1 (ao @jY.eq_2 (ao @jY.eq_3 (ao @gC.eq_1 (ao @gC.eq_2 (ao @cL.eq_1 (ao @cL.eq_2 (ao @cL.eq_3 (ao @eR.eq_1 (ao @fH.eq_1 (ao @cE.eq_1 (ao @cE.eq_2 (ao @mV.eq_1 (ao @mV.eq_2 (ao @jT.eq_1 (ao @jT.eq_2 (ao @bV.of.eq_1 (ao @bV.of.eq_2 (ao @bV.of.eq_3 (ao @bH.eq_1 (ao @Sr.eq_1 (ao @eB.eq_1 (ao @dM.eq_1 (ao @aS.eq_1 (ao @jV.eq_1 (ao @jV.eq_2 (ao @jV.eq_3 (ao @jV.eq_4 (ao @jG.eq_1 (ao @jG.eq_2 (ao @aR.eq_1 (ao @oK.eq_1 (ao @oB.eq_1 (ao @kL.eq_1 (ao @gZ.eq_1 (ao @gZ.eq_2 (ao @hU.eq_1 (ao @hU.eq_2 (ao @cS.eq_1 (ao @fZ.eq_1 (ao @frz.eq_1 (ao @frz.eq_2 (ao @jF.eq_1 @jF.eq_2)))))))))))))))))))))))))))))))))))))))))))))))))))))))))))))))))))))))
local macro_rules
 | `(tactic|simp! [$l,*] $[$loc:location]?)=>`(tactic|simp[gL,aI,cO,bF,Hs,gJ,pA,Vr,Rs,oS,aC,bQ,mR,mN,aB,aA,mC,aD,bG.bind,qK,jZ,lV,wI,fP,rd,jY,gC,cL,eR,fH,cE,mV,jT,bV.of,bH,Sr,eB,dM,aS,jV,jG,aR,oK,oB,kL,gZ,hU,cS,fZ,frz,jF,$l,*] $[$loc]?)

def eJ(S:aH)(k:Nat)(ns:AA):Prop:=S[k]?=some (.lst (ns.map .int))
theorem eJ.lt{S:aH}{k:Nat}{ns:AA}(h:eJ S k ns):k<S.length:=(ca.mp h).1
theorem eJ.set{S:aH}{k:Nat}{ns:AA}(h:eJ S k ns)(ms:AA):eJ (S.set k (.lst (ms.map .int))) k ms:=de h.lt
theorem Fh{r:bM}{k:Nat}{m:AV}:∀(ns:AA)(S:aH),eJ S k ns->∃n ns',dL (gJ (bF (aC eI (mR cL (aB (aA 0) aD)) (mC (.int 0)))) (bF (aC cS (aC aE (aA 0) (mC (.int 0))) (mC (.int 0))))) (dM (kM (aA 0) (aB (mC (.int 0)) aD))) n (some (.ref k)::some m::r) S=.nx (some (.ref k)::some m::r) (S.set k (.lst (ns'.map .int)))/\ns'.length<=ns.length/\(ns'=[]\/∃i t,ns'=i::t/\i≠0)
 |[],S,h=>by
  refine⟨1,[],?_,aj _,.inl rfl⟩;have h':S[k]?=some (.lst []):=h;have e:S.set k (.lst (([]:AA).map .int))=S:=mj λi=>by
   by_cases q:k=i
   .subst q;rw[de h.lt,h'];rfl
   .rw[dz q]
  rw[e];simp[dL,gJ,bF,aC,mR,aB,aA,mC,aD,bG.bind,lV,fP,rd,h',gC,cL,jZ,eI,i2,jT,bV.of]
 |i::t,S,h=>by
  have h':S[k]?=some (.lst (.int i::t.map .int)):=h
  by_cases hi:i=0
  .subst hi
   have hr:eJ (S.set k (.lst (t.map .int))) k t:=h.set t;obtain⟨n,ns',e,l,q⟩:=Fh (r:=r) (m:=m) t _ hr;refine⟨n+1,ns',?_,by simp;omega,q⟩;rw[mq]at e;rw[<-e];have hl:(0:Int)<(t.length:Int)+1:=by omega
   simp[dL,gJ,bF,aC,mR,aB,aA,mC,aD,bG.bind,lV,fP,rd,h',gC,cL,jZ,eI,i2,jT,bV.of,aE,aX,aW,cS,aJ,dM,kM,eL,oH,seqIndex?,hl]
  .refine⟨1,i::t,?_,aj _,.inr ⟨i,t,rfl,hi⟩⟩
   have e:S.set k (.lst ((i::t).map .int))=S:=mj λj=>by
    by_cases q:k=j
    .subst q;rw[de h.lt,h'];rfl
    .rw[dz q]
   rw[e];have hl:(0:Int)<(t.length:Int)+1:=by omega
   simp[dL,gJ,bF,aC,mR,aB,aA,mC,aD,bG.bind,lV,fP,rd,h',gC,cL,jZ,eI,i2,jT,bV.of,aE,aX,aW,cS,aJ,hl,hi]
theorem iS{S:aH}{k:Nat}{ns:AA}{m:Int}(h:eJ S k ns)(hm:0<m)(b:Bd 8000 m):∃(v:Int)(ns':AA),dC [.ref k,.pv (.int m)] S=.ok (.pv (.int v)) (S.set k (.lst (ns'.map .int)))/\0<=v/\v<m/\ns'.length<=ns.length:=by
 obtain⟨n,ns',e,l,q⟩:=Fh (r:=[none]) (m:=.pv (.int m)) ns S h;have hr:=h.set ns';have hl1:(S.set k (.lst (ns'.map .int))).length=S.length:=by simp
 have hss:∀x,(S.set k (.lst (ns'.map .int))).set k x=S.set k x:=λx=>mq ..;generalize hS1:S.set k (.lst (ns'.map .int))=S1 at e hr hl1 hss;have w:=rQ e (by simp);rcases q with rfl |⟨i,t,rfl,hi⟩
 .refine⟨0,[],?_,ve 0,hm,ft _⟩
  rw[hS1];have hr':S1[k]?=some (.lst []):=hr;have tk:List.take S.length S1=S1:=ya (by omega);unfold dC aY vB;simp[gL,aI,w,cO,bF,aC,mR,aB,aA,mC,aD,bG.bind,lV,fP,rd,hr',gC,cL,jZ,cS,aJ,jT,bV.of,bH,jV,jG,tk]
 .have hr':S1[k]?=some (.lst (.int i::t.map .int)):=hr
  refine⟨i.fmod m,i.fdiv m::t,?_,o4 i hm,Int.fmod_lt_of_pos i hm,l⟩;rw[<-hss];have tk:∀x,List.take S.length (S1.set k x)=S1.set k x:=λx=>ya (by simp;omega);have hl:¬((t.length:Int)+1=0):=by omega
  have hq:oI i m:=⟨by omega,b⟩;have hm0:m≠0:=by omega
  unfold dC aY vB;simp[gL,aI,w,cO,bF,aC,mR,aB,aA,mC,aD,bG.bind,lV,fP,rd,hr',gC,cL,jZ,cS,aJ,jT,bV.of,bH,jV,jG,tk,eB,hl,aS,fB,jK,i2,cI,aE,aX,aW,hm0,hq,kJ,eL,mS]
theorem aO(i j:Int):eI (.int i) (.int j)=some (.bl (decide (j<i))):=rfl
theorem aL(i j:Int):mZ (.int i) (.int j)=some (.bl (decide (i<j))):=rfl
theorem aN(i j:Int):rA (.int i) (.int j)=some (.bl (decide (j<=i))):=rfl
theorem aM(i j:Int):fLe (.int i) (.int j)=some (.bl (decide (i<=j))):=rfl
theorem aK(i j:Int):eQ (.int i) (.int j)=some (.int (i-j)):=rfl
theorem mI{i j:Int}(h:oN i j):bA (.int i) (.int j)=some (.int (i*j)):=by
 simp[bA,i2,cI,h]
theorem uW{i j:Int}(h:oI i j):jK (.int i) (.int j)=some (.int (i.fdiv j)):=by
 simp[jK,i2,cI,h]
theorem lQ{i j:Int}(h:j≠0):fB (.int i) (.int j)=some (.int (i.fmod j)):=by
 simp[fB,i2,cI,h]
theorem G0{i j:Int}(h:xG i j):lW (.int i) (.int j)=some (.int (i^j.toNat)):=by
 simp[lW,i2,cI,h]
theorem vI(n:Int)(S:aH):oE [.pv (.int n)] S=.ok (.pv (.int (sg n))) S:=by
 unfold oE aY Nb sg
 by_cases h1:0<n
 .simp[gL,aI,cO,bF,aC,aA,mC,bG.bind,jZ,rd,gC,eI,i2,jT,bV.of,bH,jV,jG,h1]
 .by_cases h2:n<0
  .simp[gL,aI,cO,bF,aC,aA,mC,bG.bind,jZ,rd,gC,eI,mZ,i2,jT,bV.of,bH,jV,jG,h1,h2,eB,bQ,qK,cE]
  .simp[gL,aI,cO,bF,aC,aA,mC,bG.bind,jZ,rd,gC,eI,mZ,i2,jT,bV.of,bH,jV,jG,h1,h2,eB,bQ,qK,cE]
theorem Ef(S:aH):∀(m:Nat)(a b:Int)(x:AK),b.natAbs<=m->∃(n:Nat)(g:Int)(x':AK),dL (bF (aC fZ (aA 1) (mC (.int 0)))) (aI (aS 2 (aC fB (aA 0) (aA 1))) (aI (aS 0 (aA 1)) (aS 1 (aA 2)))) n [some (.pv (.int a)),some (.pv (.int b)),x] S=.nx [some (.pv (.int g)),some (.pv (.int 0)),x'] S/\g.natAbs=bn a b
 |0,a,b,x,h=>by
  have hb:b=0:=by omega
  subst hb;refine⟨1,a,x,?_,by simp⟩;simp! [dL,aE,aX,aW,aJ,aO,aL,aN,aM,aG,aK]
 |m+1,a,b,x,h=>by
  by_cases hb:b=0
  .subst hb
   refine⟨1,a,x,?_,by simp⟩;simp! [dL,aE,aX,aW,aJ,aO,aL,aN,aM,aG,aK]
  .have hl:=Vh a hb
   obtain⟨n,g,x',e,q⟩:=Ef S m b (a.fmod b) (some (.pv (.int (a.fmod b)))) (by omega);refine⟨n+1,g,x',?_,by rw[q,Jk]⟩;rw[<-e];simp! [dL,aE,aX,aW,aJ,aO,aL,aN,aM,aG,aK,lQ hb,hb]
theorem Vg(a b:Int)(S:aH):pL [.pv (.int a),.pv (.int b)] S=.ok (.pv (.int (bn a b:Nat))) S:=by
 obtain⟨n,g,x',e,q⟩:=Ef S b.natAbs a b none (aj _);have w:=rQ e (by simp);unfold pL aY zI;have hg:(if g<0 then-g else g)=((bn a b:Nat):Int):=by rw[<-q];exact Vb g
 simp! [aE,aX,aW,aJ,aO,aL,aN,aM,aG,aK,w,hg]
theorem Ri(S:aH):∀(m:Nat)(a b:Int),0<=a->0<=b->b.natAbs<=m->∃(n:Nat),dL (bF (aC eI (aA 1) (mC (.int 0)))) (tO 0 1 (aB (aA 1) (aB (aC fB (aA 0) (aA 1)) aD))) n [some (.pv (.int a)),some (.pv (.int b))] S=.nx [some (.pv (.int (bn a b:Nat))),some (.pv (.int 0))] S
 |0,a,b,ha,hb,h=>by
  have hb:b=0:=by omega
  subst hb;have ea:((bn a 0:Nat):Int)=a:=by simp;omega
  refine⟨1,?_⟩;rw[ea];simp! [dL,aE,aX,aW,aJ,aO,aL,aN,aM,aG,aK]
 |m+1,a,b,ha,hb,h=>by
  by_cases h0:b=0
  .subst h0
   have ea:((bn a 0:Nat):Int)=a:=by simp;omega
   refine⟨1,?_⟩;rw[ea];simp! [dL,aE,aX,aW,aJ,aO,aL,aN,aM,aG,aK]
  .have hl:=Vh a h0
   have hp:0<b:=by omega
   obtain⟨n,e⟩:=Ri S m b (a.fmod b) hb (o4 a hp) (by omega);refine⟨n+1,?_⟩;rw[<-Jk,<-e];simp! [dL,aE,aX,aW,aJ,aO,aL,aN,aM,aG,aK,lQ h0,hp,tO]
theorem V8(a b:Int)(S:aH):sJ [.pv (.int a),.pv (.int b)] S=.ok (.pv (.int (bn a b:Nat))) S:=by
 have ha:0<=(if a<0 then-a else a):=by split<;>omega
 have hb:0<=(if b<0 then-b else b):=by split<;>omega
 obtain⟨n,e⟩:=Ri S _ _ _ ha hb (aj _);have w:=rQ e (by simp);have eg:bn (if a<0 then-a else a) (if b<0 then-b else b)=bn a b:=by
  rw[Vb,Vb];simp[bn]
 rw[eg]at w;unfold sJ aY Kb;simp! [aE,aX,aW,aJ,aO,aL,aN,aM,aG,aK,w]
theorem Oj(S:aH)(v2:AK):∀(ns:AA)(g:Int)(a:AV),∃v',dN [] (gN 2) (aS 1 (aR sJ [] (aB (aA 1) (aB (aA 2) aD)))) (ns.map .int) [some a,some (.pv (.int g)),v2] S=.nx [some a,some (.pv (.int (gl ns g))),v'] S
 |[],g,a=>⟨v2,fO⟩
 |n::ns,g,a=>by
  obtain⟨v',e⟩:=Oj S (some (.pv (.int n))) ns (bn g n:Nat) a;refine⟨v',?_⟩;show dN [] _ _ (.int n::ns.map .int) _ S=_;rw[eK];simp! [gN,aE,aX,aW,aJ,aO,aL,aN,aM,aG,aK,V8];exact e
theorem zT(S:aH)(g:Int)(hg:g≠0)(b:Bd 8000 g):∀(ns:AA)(x:AK),cD [] (gN 0) (aC jK (aA 0) (aA 1)) (ns.map .int) [x,some (.pv (.int g))] S=.ok ((ns.map λn=>n.fdiv g).map .int) S
 |[],x=>dZ
 |n::ns,x=>by
  have ih:=zT S g hg b ns (some (.pv (.int n)));show cD [] _ _ (.int n::ns.map .int) _ S=_;rw[eA];simp! [gN,aE,aX,aW,aJ,aO,aL,aN,aM,aG,aK,uW (show oI n g from⟨hg,b⟩),ih]
theorem rP(ns:AA)(S:aH)(hb:∀n∈ns,Bd 8000 n):jU [.pv (.lst (ns.map .int))] S=.ok (.pv (.tup ((low ns).map .int))) S:=by
 obtain⟨v',e⟩:=Oj S none ns 0 (.pv (.lst (ns.map .int)));unfold jU aY yY
 by_cases h:gl ns 0=0
 .have el:low ns=ns:=by unfold low;rw[if_pos h]
  simp! [aE,aX,aW,aJ,aO,aL,aN,aM,aG,aK,bS,bJ,cK,e,h,el]
 .have el:low ns=ns.map λn=>n.fdiv (gl ns 0):=by
   unfold low;rw[if_neg h];exact iw λn hn=>(pf ((jX ns 0).2 n hn)).symm
  have bg:Bd 8000 (gl ns 0):=Pd (Bd.of (n:=0) (by simp) (sv 8000)) hb;have ec:=zT S (gl ns 0) h bg ns none;simp! [aE,aX,aW,aJ,aO,aL,aN,aM,aG,aK,bS,bJ,cK,e,h,el,bE,cG,ec]
theorem lU(i:Int){j:Int}(h1:-(2^64)<j)(h2:j<2^64):bA (.int i) (.int j)=some (.int (i*j)):=mI (.inl (.inr ⟨h1,h2⟩))
theorem Kt:lW (.int 10) (.int 18)=some (.int 1000000000000000000):=G0 (i:=10) (j:=18) ⟨by decide,by decide,by decide⟩
theorem Da{k:Nat}{a:AV}:∀(cs:AA)(n:Nat)(acc:AA)(S:aH)(v2 v3 v4 v5 v6:AK),eJ S k acc->acc.length+cs.length<=63->n+cs.length<=63->∃(acc':AA)(w2 w3 w4 w5 w6:AK),dN [] (gT 2 (bX (gN 2) (bX (gN 3) dW))) ((cO (bF (aC rA (aA 3) (aC lW (mC (.int 10)) (mC (.int 18))))) (dM (dF (aA 1) (aB (aC eQ (aA 3) (aC lW (mC (.int 10)) (mC (.int 18)))) aD))) (aI (aS 4 (aC fB (aC bA (aC aG (aC aG (aC aG (aA 3) (aC bA (aC bA (mC (.int 7)) (aA 2)) (aA 2))) (aC bA (mC (.int 13)) (aA 2))) (mC (.int 5))) (mC (.int 48271))) (mC (.int 2147483647))))
 (aI (aS 5 (aC fB (aC bA (aC aG (aC aG (aC aG (aA 3) (aC bA (aC bA (mC (.int 11)) (aA 2)) (aA 2))) (aC bA (mC (.int 17)) (aA 2))) (mC (.int 3))) (mC (.int 40692))) (mC (.int 2147483399))))
 (aI (aS 6 (aC fB (aC bA (aC aG (aC aG (aC aG (aA 3) (aC bA (aC bA (mC (.int 5)) (aA 2)) (aA 2))) (aC bA (mC (.int 29)) (aA 2))) (mC (.int 8))) (mC (.int 39373))) (mC (.int 2147483587))))
 (aI (aS 4 (aC fB (aC bA (aA 4) (mC (.int 52021))) (mC (.int 1000000007))))
 (aI (aS 5 (aC fB (aC bA (aA 5) (mC (.int 30011))) (mC (.int 998244353))))
 (aI (aS 6 (aC fB (aC bA (aA 6) (mC (.int 45989))) (mC (.int 1000000009))))
 (dM (dF (aA 1) (aB (aC aG (aC bA (aC aG (aC bA (aA 4) (mC (.int 998244353))) (aA 5)) (mC (.int 1000000009))) (aA 6)) aD))))))))))) (iU n (cs.map .int)) [some a,some (.ref k),v2,v3,v4,v5,v6] S=.nx [some a,some (.ref k),w2,w3,w4,w5,w6] (S.set k (.lst (acc'.map .int)))/\acc'.length<=63
 |[],n,acc,S,v2,v3,v4,v5,v6,h,hl,_=>by
  refine⟨acc,v2,v3,v4,v5,v6,?_,by simpa using hl⟩;have e:S.set k (.lst (acc.map .int))=S:=mj λj=>by
   by_cases q:k=j
   .subst q;rw[de h.lt];exact h.symm
   .rw[dz q]
  rw[e];exact fO
 |x::cs,n,acc,S,v2,v3,v4,v5,v6,h,hl,hn=>by
  simp only[bo]at hl hn;have h':S[k]?=some (.lst (acc.map .int)):=h;have hlen:acc.length<16777216:=by omega
  have hk1:-(2^64)<(n:Int):=by omega
  have hk2:(n:Int)<2^64:=by omega
  by_cases c:(1000000000000000000:Int)<=x
  .obtain⟨acc',w2,w3,w4,w5,w6,e,q⟩:=Da (k:=k) (a:=a) cs (n+1) (acc++[x-1000000000000000000]) (S.set k (.lst ((acc++[x-1000000000000000000]).map .int))) (some (.pv (.int n))) (some (.pv (.int x))) v4 v5 v6 (h.set _) (by simp;omega) (by omega)
   refine⟨acc',w2,w3,w4,w5,w6,?_,q⟩;rw[mq]at e;rw[<-e];show dN [] _ _ (.tup [.int n,.int x]::iU (n+1) (cs.map .int)) _ S=_;rw[eK];simp! [gT,bX,dW,gN,aE,aX,aW,aJ,aO,aL,aN,aM,aG,aK,Kt,c,dF,eL,gM,h',hlen]
  .obtain⟨acc',w2,w3,w4,w5,w6,e,q⟩:=Da (k:=k) (a:=a) cs (n+1) (acc++[((((x+7*n*n+13*n+5)*48271).fmod 2147483647*52021).fmod 1000000007*998244353+(((x+11*n*n+17*n+3)*40692).fmod 2147483399*30011).fmod 998244353)*1000000009+(((x+5*n*n+29*n+8)*39373).fmod 2147483587*45989).fmod 1000000009]) (S.set k (.lst ((acc++[((((x+7*n*n+13*n+5)*48271).fmod 2147483647*52021).fmod 1000000007*998244353+(((x+11*n*n+17*n+3)*40692).fmod 2147483399*30011).fmod 998244353)*1000000009+(((x+5*n*n+29*n+8)*39373).fmod 2147483587*45989).fmod 1000000009]).map .int))) (some (.pv (.int n))) (some (.pv (.int x))) (some (.pv (.int ((((x+7*n*n+13*n+5)*48271).fmod 2147483647*52021).fmod 1000000007)))) (some (.pv (.int ((((x+11*n*n+17*n+3)*40692).fmod 2147483399*30011).fmod 998244353)))) (some (.pv (.int ((((x+5*n*n+29*n+8)*39373).fmod 2147483587*45989).fmod 1000000009)))) (h.set _) (by simp;omega) (by omega)
   refine⟨acc',w2,w3,w4,w5,w6,?_,q⟩;rw[mq]at e;rw[<-e];show dN [] _ _ (.tup [.int n,.int x]::iU (n+1) (cs.map .int)) _ S=_;rw[eK];simp! [gT,bX,dW,gN,aE,aX,aW,aJ,aO,aL,aN,aM,aG,aK,Kt,c,dF,eL,gM,h',hlen,lU _ hk1 hk2,lU _ (show-(2^64)<(48271:Int) by decide) (by decide),lU _ (show-(2^64)<(40692:Int) by decide) (by decide),lU _ (show-(2^64)<(39373:Int) by decide) (by decide),lU _ (show-(2^64)<(52021:Int) by decide) (by decide),lU _ (show-(2^64)<(30011:Int) by decide) (by decide),lU _ (show-(2^64)<(45989:Int) by decide) (by decide),lU _ (show-(2^64)<(998244353:Int) by decide) (by decide),lU _ (show-(2^64)<(1000000009:Int) by decide) (by decide),lQ (show(2147483647:Int)≠0 by decide),lQ (show(2147483399:Int)≠0 by decide),lQ (show(2147483587:Int)≠0 by decide),lQ (show(1000000007:Int)≠0 by decide),lQ (show(998244353:Int)≠0 by decide),lQ (show(1000000009:Int)≠0 by decide)]
theorem aae(ns:AA)(S:aH)(h:ns.length<=63):∃ms:AA,pW [.pv (.lst (ns.map .int))] S=.ok (.ref S.length) (S++[.lst (ms.map .int)])/\ms.length<=63:=by
 have hr:eJ (S++[.lst []]) S.length []:=by unfold eJ;simp
 obtain⟨ms,w2,w3,w4,w5,w6,e,q⟩:=Da (a:=.pv (.lst (ns.map .int))) ns 0 [] (S++[.lst []]) none none none none none hr (by simpa using h) (by simpa using h);have ec:iX (ns.map .int) none (some 63)=ns.map .int:=by
  unfold iX;have e1:HT.sIx (ns.map PV.int).length 0 none=0:=rfl;have e2:HT.sIx (ns.map PV.int).length (ns.map PV.int).length (some 63)=(ns.map PV.int).length:=by
   have:=HT.sIx_nat (ns.map PV.int).length (ns.map PV.int).length 63;rw[show((63:Nat):Int)=63 from rfl]at this;rw[this,ak];omega
  rw[e1,e2,List.drop_zero,Nat.sub_zero,xc]
 refine⟨ms,?_,q⟩;have es:(S++[SO.lst []]).set S.length (.lst (ms.map .int))=S++[.lst (ms.map .int)]:=by simp
 rw[es]at e;unfold pW aY Lc;simp! [aE,aX,aW,aJ,aO,aL,aN,aM,aG,aK,bS,eE,jJ,wH,dP,cV,dJ,fE,iM,Rb,ec,e]
theorem Wn{L:AA}(h:gl L 0=1):low L=L:=by
 unfold low;rw[h,if_neg (by decide)]
 conv=>rhs;rw[<-vn L]
 exact iw λn _=>Int.ediv_one n
theorem Ij(S:aH)(v2:AK):∀(ns:AA)(g:Int)(a:AV),∃v',dN [] (gN 2) (aS 1 (aR pL [] (aB (aA 1) (aB (aA 2) aD)))) (ns.map .int) [some a,some (.pv (.int g)),v2] S=.nx [some a,some (.pv (.int (gl ns g))),v'] S
 |[],g,a=>⟨v2,fO⟩
 |n::ns,g,a=>by
  obtain⟨v',e⟩:=Ij S (some (.pv (.int n))) ns (bn g n:Nat) a;refine⟨v',?_⟩;show dN [] _ _ (.int n::ns.map .int) _ S=_;rw[eK];simp! [gN,aE,aX,aW,aJ,aO,aL,aN,aM,aG,aK,Vg];exact e
theorem Yv(ns:AA)(S:aH)(hb:∀n∈ns,Bd 8000 n)(h:gl ns 0≠0):uQ [.pv (.lst (ns.map .int))] S=.ok (.pv (.lst ((low ns).map .int))) S:=by
 obtain⟨v',e⟩:=Ij S none ns 0 (.pv (.lst (ns.map .int)));have el:low ns=ns.map λn=>n.fdiv (gl ns 0):=by
  unfold low;rw[if_neg h];exact iw λn hn=>(pf ((jX ns 0).2 n hn)).symm
 have bg:Bd 8000 (gl ns 0):=Pd (Bd.of (n:=0) (by simp) (sv 8000)) hb;have ec:=zT S (gl ns 0) h bg ns none;unfold uQ aY zJ;simp! [aE,aX,aW,aJ,aO,aL,aN,aM,aG,aK,bS,bJ,cK,e,h,el,bE,cG,ec]
theorem Hj(S:aH)(b:Int):∀(ns:AA)(x:AK),cD [] (gN 0) (aC bA (aR oE [] (aB (aA 1) aD)) (aA 0)) (ns.map .int) [x,some (.pv (.int b))] S=.ok ((ns.map (sg b*·)).map .int) S
 |[],x=>dZ
 |n::ns,x=>by
  have ih:=Hj S b ns (some (.pv (.int n)));have hm:bA (.int (sg b)) (.int n)=some (.int (sg b*n)):=mI (.inl (.inl (E9 b)));show cD [] _ _ (.int n::ns.map .int) _ S=_;rw[eA];simp! [gN,aE,aX,aW,aJ,aO,aL,aN,aM,aG,aK,vI,hm,ih]
theorem B4(zs:AA)(z:Int):iX ((zs++[z]).map .int) none (some (-1))=zs.map .int:=by
 unfold iX;have e1:HT.sIx ((zs++[z]).map PV.int).length 0 none=0:=rfl;have e2:HT.sIx ((zs++[z]).map PV.int).length ((zs++[z]).map PV.int).length (some (-1))=zs.length:=by
  rw[ak,bf];exact zR zs.length _
 rw[e1,e2];simp
theorem Fw(zs:AA)(z:Int):¬(HT.sIx ((zs++[z]).map PV.int).length 0 none=0/\HT.sIx ((zs++[z]).map PV.int).length ((zs++[z]).map PV.int).length (some (-1))=((zs++[z]).map PV.int).length):=by
 rintro⟨_,e⟩
 have e2:HT.sIx ((zs++[z]).map PV.int).length ((zs++[z]).map PV.int).length (some (-1))=zs.length:=by
  rw[ak,bf];exact zR zs.length _
 rw[e2,ak,bf]at e;simp at e
theorem Ea(zs:AA)(z:Int):iM (.tup ((zs++[z]).map .int)) none (some (-1))=some (.tup (zs.map .int)):=by
 unfold iM;dsimp only;rw[if_neg (Fw zs z),B4]
theorem nT(zs:AA)(z:Int):aE (.tup ((zs++[z]).map .int)) (.int (-1))=some (.int z):=by
 show aX ((zs++[z]).map PV.int) (-1)=_;rw[ib];exact E1 _ _
theorem iL{m:Int}(h0:0<=m)(h:m<1024):Bd 8000 m:=Bd.of (n:=1023) (by omega) (db (show 1023<2^10 by decide) (zm (by decide) (by decide)))
theorem bP(n:Nat)(a b:Int):aJ n (.int a) (.int b)=some (a==b):=by cases n<;>rfl
theorem mB{a b:Int}(h:Bd 2000 a)(g:Bd 2000 b):bA (.int a) (.int b)=some (.int (a*b)):=mI (.inr ⟨h.mono (by decide),g.mono (by decide)⟩)
def mv(way:Int)(xs:AA)(w:Int)(ys:AA)(v:Int):AA:=if way=1 then low (sm xs w ys v++[w*v])else low (sm ys v (xs.map (- ·)) w++[v*w])
theorem vO(zs:AA)(z:Int)(j:Nat)(h:j<zs.length):aE (.tup ((zs++[z]).map .int)) (.int (j:Nat))=some (.int (zs.getD j 0)):=by
 show aX ((zs++[z]).map PV.int) (j:Int)=_;refine kW ?_;rw[bj,eh h,au h];simp[ck,h]
theorem Vn(S:aH)(PL QL:AI)(xs ys:AA)(w v way:Int)(hp:aE (.tup PL) (.int (-1))=some (.int w))(hq:aE (.tup QL) (.int (-1))=some (.int v))(hpj:∀j:Nat,j<xs.length->aE (.tup PL) (.int (j:Nat))=some (.int (xs.getD j 0)))(hqj:∀j:Nat,j<xs.length->aE (.tup QL) (.int (j:Nat))=some (.int (ys.getD j 0)))
  (hway:way=1\/way=-1)(bw:Bd 1000 w)(bv:Bd 1000 v)(hx:∀j,Bd 1000 (xs.getD j 0))(hy:∀j,Bd 1000 (ys.getD j 0)):∀(js:List Nat)(x:AK),(∀j∈js,j<xs.length)->
  cD [] (gN 0) (aC aG (aC bA (aC bA (aA 1) (aC aE (aA 3) (aA 0))) (aC aE (aA 2) (bQ cE (mC (.int 1))))) (aC bA (aC aE (aA 2) (aA 0)) (aC aE (aA 3) (bQ cE (mC (.int 1)))))) (js.map λj=>.int (0+(j:Nat))) [x,some (.pv (.int way)),some (.pv (.tup QL)),some (.pv (.tup PL))] S=.ok ((js.map λj=>way*xs.getD j 0*v+ys.getD j 0*w).map .int) S
 |[],x,_=>dZ
 |j::js,x,h=>by
  have ih:=Vn S PL QL xs ys w v way hp hq hpj hqj hway bw bv hx hy js (some (.pv (.int (0+(j:Nat))))) λi hi=>h i (bh _ hi);have e1:=hpj j (h j bi);have e2:=hqj j (h j bi);have b1:Bd 2 way:=by rcases hway with rfl |rfl<;>exact Bd.of (n:=1) (by decide) (by decide)
  have m0:=mB (b1.mono (show 2<=2000 by decide)) ((hx j).mono (show 1000<=2000 by decide));have m1:=mB ((b1.mul (hx j)).mono (show 2+1000<=2000 by decide)) (bv.mono (show 1000<=2000 by decide));have m2:=mB ((hy j).mono (show 1000<=2000 by decide)) (bw.mono (show 1000<=2000 by decide));show cD [] _ _ (.int (0+(j:Nat))::js.map λj=>.int (0+(j:Nat))) _ S=_;rw[eA];simp only[pe]at ih⊢;generalize hX:xs.getD j 0=X at e1 m0 m1;generalize hY:ys.getD j 0=Y at e2 m2;simp! [gN,bP,aO,aL,aN,aM,aG,aK,e1,e2,hp,hq,m0,m1,m2,ih];simp only[o5]at hX hY;rw[hX,hY]
theorem vE{xs:AA}{k:Nat}(h:∀x∈xs,Bd k x)(j:Nat):Bd k (xs.getD j 0):=by
 by_cases hj:j<xs.length
 .have e:xs.getD j 0=xs[j]:=by simp[ck,hj]
  rw[e];exact h _ (fj hj)
 .have e:xs.getD j 0=0:=by simp[ck,hj]
  rw[e];exact Bd.of (n:=0) (by decide) (sv k)
theorem Rh{xs ys:AA}(hl:xs.length=ys.length)(f:Int->Int->Int):(ce xs.length).map (λj=>f (xs.getD j 0) (ys.getD j 0))=ci f xs ys:=by
 refine wo (by simp[hl]) λi h1 h2=>?_;have hi:i<xs.length:=by simpa using h1
 have hj:i<ys.length:=by omega
 simp[ck,hi,hj]
theorem Jw{xs ys:AA}{w v way:Int}(S:aH)(hl:xs.length=ys.length)(h9:xs.length<=9)(hway:way=1\/way=-1)(hx:∀x∈xs,Bd 1000 x)(hy:∀y∈ys,Bd 1000 y)(bw:Bd 1000 w)(bv:Bd 1000 v):
  lM [.pv (.tup ((xs++[w]).map .int)),.pv (.tup ((ys++[v]).map .int)),.pv (.int way)] S=.ok (.pv (.tup ((low (ci (λx y=>way*x*v+y*w) xs ys++[w*v])).map .int))) S:=by
 have ip:=nT xs w;have iq:=nT ys v;have ec:=Vn S _ _ xs ys w v way ip iq (λj h=>vO xs w j h) (λj h=>vO ys v j (by omega)) hway bw bv (vE hx) (vE hy) (ce xs.length) none λj hj=>by simpa using hj
 have er:(ce xs.length).map (λj=>way*xs.getD j 0*v+ys.getD j 0*w)=ci (λx y=>way*x*v+y*w) xs ys:=Rh hl λx y=>way*x*v+y*w;rw[er]at ec;have mm:=mB (bw.mono (show 1000<=2000 by decide)) (bv.mono (show 1000<=2000 by decide));have b1:Bd 2 way:=by rcases hway with rfl |rfl<;>exact Bd.of (n:=1) (by decide) (by decide)
 have el:=rP (ci (λx y=>way*x*v+y*w) xs ys++[w*v]) S (λn hn=>by
  rcases cq.mp hn with z |z
  .obtain⟨i,hi,e⟩:=ph z
   rw[yb]at e;rw[<-e];exact((((b1.mul (hx _ (fj _))).mul bv).mono (show 2+1000+1000<=3000 by decide)).add (((hy _ (fj _)).mul bw).mono (show 1000+1000<=3000 by decide))).mono (by decide)
  .have:n=w*v:=by simpa using z
   rw[this];exact(bw.mul bv).mono (by decide))
 have hlen:((xs++[w]).map PV.int).length=xs.length+1:=by simp
 have hz:xs.length+1<=16777216:=by omega
 have hr:iV [.pv (.int (((xs.length+1:Nat):Int)-1))] S=.ok ((ce xs.length).map λj=>.int (0+(j:Nat)),[]) S:=by
  unfold iV;dsimp only;rw[if_pos ⟨by omega,by omega⟩];have:(((xs.length+1:Nat):Int)-1).toNat=xs.length:=by omega
  rw[this];rfl
 have hzl:(ci (λx y=>way*x*v+y*w) xs ys).length+1<=16777216:=by rw[kh];omega
 simp only[ib,ay,cr]at el;generalize hZ:(ci (λx y=>way*x*v+y*w) xs ys).map PV.int=ZL at ec el;have hzl2:ZL.length+1<=16777216:=by rw[<-hZ,ak];exact hzl
 generalize (ce xs.length).map (λj=>PV.int (0+(j:Nat)))=RL at ec hr;generalize hP:(xs++[w]).map PV.int=PL at ip ec hlen;generalize (ys++[v]).map PV.int=QL at iq ec;unfold lM aY zH;have hr2:=hr;rw[<-hlen]at hr2;simp! [bP,aO,aL,aN,aM,aG,aK,bE,bZ,hr2,cG,ec,ip,iq,mm,hzl2,el]
theorem Bi{way:Int}(h:way=1\/way=-1)(xs:AA)(w:Int)(ys:AA)(v:Int):low (ci (λx y=>way*x*v+y*w) xs ys++[w*v])=mv way xs w ys v:=by
 unfold mv;rcases h with rfl |rfl
 .rw[if_pos rfl,Xu]
 .rw[if_neg (by decide),Mu,du w v]
structure Pq(n k:Nat)(xs:AA)(w:Int):Prop where
 len:xs.length=n
 pos:0<w
 low:low (xs++[w])=xs++[w]
 bx:∀x∈xs,Bd k x
 bw:Bd k w
def Vl(n:Nat)(xs:AA)(w:Int)(N:Nat->Int)(D:Int):Prop:=∀j,j<n->xs.getD j 0*D=N j*w
theorem Vl.self(n:Nat)(xs:AA)(w:Int):Vl n xs w (λj=>xs.getD j 0) w:=λ_ _=>rfl
theorem vV{a b c:Int}(h:0<c)(e:a*c=b*c):a=b:=Int.eq_of_mul_eq_mul_right (by omega) e
theorem Q3{xs ys:AA}{f:Int->Int->Int}{j:Nat}(h1:j<xs.length)(h2:j<ys.length):(ci f xs ys).getD j 0=f (xs.getD j 0) (ys.getD j 0):=by
 have:j<(ci f xs ys).length:=by rw[kh];omega
 simp only[ck,au this,au h1,au h2,si,yb]
theorem abJ{n k l:Nat}{way:Int}{xs ys:AA}{w v:Int}(hway:way=1\/way=-1)(P:Pq n k xs w)(Q:Pq n l ys v):∃(zs:AA)(z:Int),mv way xs w ys v=zs++[z]/\Pq n (k+l+1) zs z/\
  ∀(N M:Nat->Int)(D E:Int),Vl n xs w N D->Vl n ys v M E->0<D->0<E->Vl n zs z (λj=>way*N j*E+M j*D) (D*E):=by
 rw[<-Bi hway];have hb:=aw P.pos Q.pos;have hl:(ci (λx y=>way*x*v+y*w) xs ys).length=n:=by rw[kh,P.len,Q.len];omega
 obtain⟨zs,z,g,e,hg,hz,g1,g2,hzl⟩:=Bc (ci (λx y=>way*x*v+y*w) xs ys) hb;have hlow:=Yn (ci (λx y=>way*x*v+y*w) xs ys) hb;have hbd:=Ic (k:=k+l+1) (ns:=ci (λx y=>way*x*v+y*w) xs ys++[w*v]) λm hm=>by
  rcases cq.mp hm with y |y
  .obtain⟨i,hi,e⟩:=ph y
   rw[yb]at e;rw[<-e];have b1:=(P.bx _ (fj (l:=xs) (n:=i) (by rw[kh]at hi;omega))).mul Q.bw;have b2:=(Q.bx _ (fj (l:=ys) (n:=i) (by rw[kh]at hi;omega))).mul P.bw;have b3:Bd (k+l) (way*xs[i]'(by rw[kh]at hi;omega)*v):=by
    rcases hway with rfl |rfl
    .rw[ke];exact b1
    .have:(-1:Int)*xs[i]'(by rw[kh]at hi;omega)*v=-(xs[i]'(by rw[kh]at hi;omega)*v):=by rw[jp,ke,jp]
     rw[this];exact b1.neg
   exact b3.add (b2.mono (by omega))
  .have:m=w*v:=by simpa using y
   rw[this];exact(P.bw.mul Q.bw).mono (by omega)
 rw[e]at hbd hlow;refine⟨zs,z,e,⟨hzl.trans hl,hz,hlow,λx hx=>hbd x (ku _ hx),hbd z (nS zs z)⟩,λN M D E a b hD hE j hj=>?_⟩;have h1:(ci (λx y=>way*x*v+y*w) xs ys).getD j 0=g*zs.getD j 0:=by
  rw[g1];have:j<zs.length:=by rw[hzl,hl];exact hj
  simp[ck,this]
 rw[Q3 (by rw[P.len];exact hj) (by rw[Q.len];exact hj)]at h1;have a1:=a j hj;have b1:=b j hj;generalize xs.getD j 0=X at a1 h1;generalize ys.getD j 0=Y at b1 h1;generalize zs.getD j 0=Z at h1⊢;show Z*(D*E)=(way*N j*E+M j*D)*z;generalize M j=B,N j=A at *;refine vV (c:=g*(w*v)) (aw hg hb) ?_;have p1:=P.pos;have p2:=Q.pos;have k1:(way*X*v+Y*w)*(D*E)=(way*A*E+B*D)*(w*v):=by grind
 have k2:Z*(D*E)*(g*(w*v))=(way*X*v+Y*w)*(D*E)*(w*v):=by rw[h1];grind
 rw[k2,k1,g2];grind
theorem Pq.mono{n k l:Nat}{xs:AA}{w:Int}(P:Pq n k xs w)(h:k<=l):Pq n l xs w:=⟨P.len,P.pos,P.low,λx hx=>(P.bx x hx).mono h,P.bw.mono h⟩
theorem M6{n k l:Nat}{way:Int}{xs ys:AA}{w v:Int}(S:aH)(hn:n=2\/n=3)(hway:way=1\/way=-1)(P:Pq n k xs w)(Q:Pq n l ys v)(hk:k<=1000)(hl:l<=1000):lM [.pv (.tup ((xs++[w]).map .int)),.pv (.tup ((ys++[v]).map .int)),.pv (.int way)] S=.ok (.pv (.tup ((mv way xs w ys v).map .int))) S:=by
 have e:=Jw (way:=way) S (P.len.trans Q.len.symm) (by rw[P.len];omega) hway (λx hx=>(P.bx x hx).mono hk) (λx hx=>(Q.bx x hx).mono hl) (P.bw.mono hk) (Q.bw.mono hl);rw[Bi hway]at e;exact e
theorem hrg(S:aH):iV [.pv (.int 3)] S=.ok ([.int 0,.int 1,.int 2],[]) S:=by
 have h:cB 0 (3:Int).toNat=[.int 0,.int 1,.int 2]:=rfl;rw[<-h];unfold iV;dsimp only;rw[if_pos ⟨by omega,by omega⟩]
theorem yK(t b:Int)(S:aH)(ht:Bd 7000 t)(hb:Bd 7000 b)(h:b≠0):pG [.pv (.int t),.pv (.int b)] S=.ok (.pv (.tup ((fr t b).map .int))) S:=by
 have gb:Bd 7000 ((bn t b:Nat):Int):=ht.gcd hb;have sb:Bd 2 (sg b):=by
  unfold sg;split
  .unfold Bd;simp
  .split<;>(unfold Bd;simp)
 have mb:oN (sg b) (bn t b:Nat):=.inr ⟨sb.mono (by decide),gb.mono (by decide)⟩;have nz:sg b*(bn t b:Nat)≠0:=by
  have gp:=qD (jL t b) h;rw[qC]at gp;rcases Tj h with⟨_,s⟩|⟨_,s⟩<;>rw[s]<;>omega
 have qb:∀x,oI x (sg b*(bn t b:Nat)):=λx=>⟨nz,(sb.mul gb).mono (by decide)⟩;rw[<-Cw h];unfold pG aY yO;simp! [aE,aX,aW,aJ,aO,aL,aN,aM,aG,aK,h,vI,Vg,mI mb,uW (qb t),uW (qb b)]
theorem uK:∀is:AA,iF (is.map .int)=some is
 |[]=>rfl
 |i::is=>by
  have ih:=uK is;show(match iF (is.map .int)with |some bs=>some (i::bs) |none=>none)=_
  rw[ih]
theorem Ci(is:AA):oO [.lst (is.map .int)]=some (.int is.sum):=by
 simp only[oO,uK,Option.map_some]
def wa(xs:AA)(w:Int)(ys:AA)(v:Int):AA:=ci (λx y=>y*w-x*v) xs ys
theorem Hm(S:aH)(PL QL:AI)(w v:Int)(hp:aE (.tup PL) (.int (-1))=some (.int w))(hq:aE (.tup QL) (.int (-1))=some (.int v))(bw:Bd 2000 w)(bv:Bd 2000 v):∀(xs ys:AA)(x y:AK),xs.length=ys.length->(∀x∈xs,Bd 2000 x)->(∀y∈ys,Bd 2000 y)->
  cD [] (gT 2 (bX (gN 0) (bX (gN 1) dW))) (aC eQ (aC bA (aA 1) (aC aE (aA 2) (bQ cE (mC (.int 1))))) (aC bA (aA 0) (aC aE (aA 3) (bQ cE (mC (.int 1)))))) (fR (xs.map .int) (ys.map .int)) [x,y,some (.pv (.tup PL)),some (.pv (.tup QL))] S=.ok ((wa xs w ys v).map .int) S
 |[],ys,x,y,hl,_,_=>by
  have:ys=[]:=po.mp hl.symm;subst this;exact dZ
 |a::xs,[],x,y,hl,_,_=>by cases hl
 |a::xs,b::ys,x,y,hl,hx,hy=>by
  have ih:=Hm S PL QL w v hp hq bw bv xs ys (some (.pv (.int a))) (some (.pv (.int b))) (by simpa using hl) (λm hm=>hx m (bh _ hm)) (λm hm=>hy m (bh _ hm));have m1:=mB (hx a bi) bv;have m2:=mB (hy b bi) bw;show cD [] _ _ (.tup [.int a,.int b]::fR (xs.map .int) (ys.map .int)) _ S=_;rw[eA];simp! [gT,bX,dW,gN,bP,aO,aL,aN,aM,aG,aK,hp,hq,m1,m2,ih,wa]
theorem Vk{xs ys:AA}{w v:Int}(S:aH)(hl:xs.length=ys.length)(hx:∀x∈xs,Bd 2000 x)(hy:∀y∈ys,Bd 2000 y)(bw:Bd 2000 w)(bv:Bd 2000 v):
  kS [.pv (.tup ((xs++[w]).map .int)),.pv (.tup ((ys++[v]).map .int))] S=.ok (.pv (.lst ((wa xs w ys v).map .int))) S:=by
 have ip:=nT xs w;have iq:=nT ys v;have sp:=Ea xs w;have sq:=Ea ys v;have ec:=Hm S _ _ w v ip iq bw bv xs ys none none hl hx hy;generalize (xs++[w]).map PV.int=PL at ip sp ec;generalize (ys++[v]).map PV.int=QL at iq sq ec;unfold kS aY yE;simp! [bP,aO,aL,aN,aM,aG,aK,bE,gU,lD,cK,dP,cV,dJ,fE,sp,sq,cG,ec]
theorem zO(S:aH):∀(us vs:AA)(x y:AK),(∀x∈us,Bd 100000 x)->(∀y∈vs,Bd 100000 y)->
  cD [] (gT 2 (bX (gN 0) (bX (gN 1) dW))) (aC bA (aA 0) (aA 1)) (fR (us.map .int) (vs.map .int)) [x,y] S=.ok ((ci (·*·) us vs).map .int) S
 |[],vs,x,y,_,_=>by
  show cD [] _ _ [] _ S=_;exact dZ
 |a::us,[],x,y,_,_=>by
  show cD [] _ _ [] _ S=_;exact dZ
 |a::us,b::vs,x,y,hx,hy=>by
  have ih:=zO S us vs (some (.pv (.int a))) (some (.pv (.int b))) (λm hm=>hx m (bh _ hm)) (λm hm=>hy m (bh _ hm));have m1:bA (.int a) (.int b)=some (.int (a*b)):=mI (.inr ⟨(hx a bi).mono (by decide),(hy b bi).mono (by decide)⟩);show cD [] _ _ (.tup [.int a,.int b]::fR (us.map .int) (vs.map .int)) _ S=_;rw[eA];simp! [gT,bX,dW,gN,bP,aO,aL,aN,aM,aG,aK,m1,ih]
def dt(us vs:AA):Int:=(ci (·*·) us vs).sum
def Sq(A:PV)(us:AA):Prop:=A=.lst (us.map .int)\/A=.tup (us.map .int)
theorem Ip{A B:PV}{us vs:AA}(S:aH)(hA:Sq A us)(hB:Sq B vs)(hx:∀x∈us,Bd 100000 x)(hy:∀y∈vs,Bd 100000 y):wD [.pv A,.pv B] S=.ok (.pv (.int (dt us vs))) S:=by
 have ec:=zO S us vs none none hx hy;have es:=Ci (ci (·*·) us vs);unfold dt;generalize (ci (·*·) us vs).map PV.int=ZL at ec es;generalize (ci (·*·) us vs).sum=Z at es;unfold wD aY Tc;rcases hA with rfl |rfl<;>rcases hB with rfl |rfl<;>
  (generalize us.map PV.int=UL at ec⊢;generalize vs.map PV.int=VL at ec⊢;simp! [bP,aO,aL,aN,aM,aG,aK,bE,gU,lD,cK,cG,ec,es])
theorem Zm{A B:PV}{us vs:AA}(S:aH)(hA:Sq A us)(hB:Sq B vs)(hx:∀x∈us,Bd 100000 x)(hy:∀y∈vs,Bd 100000 y):vX [.pv A,.pv B] S=.ok (.pv (.int (dt us vs))) S:=by
 have ec:=zO S us vs none none hx hy;have es:=Ci (ci (·*·) us vs);unfold dt;generalize (ci (·*·) us vs).map PV.int=ZL at ec es;generalize (ci (·*·) us vs).sum=Z at es;unfold vX aY Ob;rcases hA with rfl |rfl<;>rcases hB with rfl |rfl<;>
  (generalize us.map PV.int=UL at ec⊢;generalize vs.map PV.int=VL at ec⊢;simp! [bP,aO,aL,aN,aM,aG,aK,bE,gU,lD,cK,cG,ec,es])
theorem fM{k l:Nat}{a b:Int}(h:Bd k a)(g:Bd l b)(hk:k<=1000000:=by decide)(hl:l<=1000000:=by decide):bA (.int a) (.int b)=some (.int (a*b)):=mI (.inr ⟨h.mono hk,g.mono hl⟩)
theorem Xn(a b:Int)(S:aH):nQ [.pv (.lst [.lst [.int a,.int b]])] S=.ok (.pv (.lst [.int (-b),.int a])) S:=by
 unfold nQ aY uT;simp! [aE,aX,aW,aJ,aO,aL,aN,aM,aG,aK]
theorem Bl{a b c d e f:Int}(S:aH)(ha:Bd 10000 a)(hb:Bd 10000 b)(hc:Bd 10000 c)(hd:Bd 10000 d)(he:Bd 10000 e)(hf:Bd 10000 f):nQ [.pv (.lst [.lst [.int a,.int b,.int c],.lst [.int d,.int e,.int f]])] S=.ok (.pv (.lst [.int (b*f-c*e),.int (c*d-a*f),.int (a*e-b*d)])) S:=by
 have m1:=fM hb hf;have m2:=fM hc he;have m3:=fM hc hd;have m4:=fM ha hf;have m5:=fM ha he;have m6:=fM hb hd;unfold nQ aY uT;simp! [aE,aX,aW,aJ,aO,aL,aN,aM,aG,aK,m1,m2,m3,m4,m5,m6]
theorem Sj{A B:PV}{a b c d e f:Int}(S:aH)(hA:A=.lst [.int a,.int b,.int c])(hB:B=.lst [.int d,.int e,.int f])(ha:Bd 10000 a)(hb:Bd 10000 b)(hc:Bd 10000 c)(hd:Bd 10000 d)(he:Bd 10000 e)(hf:Bd 10000 f):uS [.pv A,.pv B] S=.ok (.pv (.lst [.int (b*f-c*e),.int (c*d-a*f),.int (a*e-b*d)])) S:=by
 have m1:=fM hb hf;have m2:=fM hc he;have m3:=fM hc hd;have m4:=fM ha hf;have m5:=fM ha he;have m6:=fM hb hd;unfold uS aY zY;subst hA hB;simp! [aE,aX,aW,aJ,aO,aL,aN,aM,aG,aK,m1,m2,m3,m4,m5,m6]
structure P2(x y w:Int):Prop where
 bx:Bd 1000 x
 by_:Bd 1000 y
 bw:Bd 1000 w
 pos:0<w
structure P3(x y z w:Int):Prop where
 bx:Bd 1000 x
 by_:Bd 1000 y
 bz:Bd 1000 z
 bw:Bd 1000 w
 pos:0<w
abbrev v2(x y w:Int):PV:=.tup [.int x,.int y,.int w]
abbrev v3(x y z w:Int):PV:=.tup [.int x,.int y,.int z,.int w]
def Sv(A:PV)(L:AI):Prop:=A=.lst L\/A=.tup L
theorem Qs(p:PV)(L:AI):iX (p::L) (some 1) none=L:=by
 unfold iX;have e1:HT.sIx (p::L).length 0 (some 1)=1:=by
  rw[show(some (1:Int))=some ((1:Nat):Int) from rfl,HT.sIx_nat,bo];omega
 rw[e1];show((p::L).drop 1).take ((p::L).length-1)=L;simp
theorem qP(p:PV)(L:AI):iM (.lst (p::L)) (some 1) none=some (.lst L):=by
 unfold iM;dsimp only;rw[Qs]
theorem mQ(p:PV)(L:AI):iM (.tup (p::L)) (some 1) none=some (.tup L):=by
 unfold iM;dsimp only;have e1:HT.sIx (p::L).length 0 (some 1)=1:=by
  rw[show(some (1:Int))=some ((1:Nat):Int) from rfl,HT.sIx_nat,bo];omega
 rw[if_neg (by rw[e1];simp),Qs]
theorem Co(L:AI)(p:PV):iM (.lst (L++[p])) none (some (-1))=some (.lst L):=by
 unfold iM;dsimp only;unfold iX;have e1:HT.sIx (L++[p]).length (L++[p]).length (some (-1))=L.length:=by
  rw[bf];exact zR L.length _
 rw[e1];show some (PV.lst (((L++[p]).drop 0).take (L.length-0)))=_;simp
theorem vP{x0 y0 w0 x1 y1 w1:Int}(S:aH)(p:P2 x0 y0 w0)(q:P2 x1 y1 w1):kS [.pv (v2 x0 y0 w0),.pv (v2 x1 y1 w1)] S=.ok (.pv (.lst [.int (x1*w0-x0*w1),.int (y1*w0-y0*w1)])) S:=by
 have e:=Vk (xs:=[x0,y0]) (ys:=[x1,y1]) (w:=w0) (v:=w1) S rfl (by simp;exact⟨p.bx.mono (by decide),p.by_.mono (by decide)⟩) (by simp;exact⟨q.bx.mono (by decide),q.by_.mono (by decide)⟩) (p.bw.mono (by decide)) (q.bw.mono (by decide));exact e
theorem pX{x0 y0 z0 w0 x1 y1 z1 w1:Int}(S:aH)(p:P3 x0 y0 z0 w0)(q:P3 x1 y1 z1 w1):kS [.pv (v3 x0 y0 z0 w0),.pv (v3 x1 y1 z1 w1)] S=.ok (.pv (.lst [.int (x1*w0-x0*w1),.int (y1*w0-y0*w1),.int (z1*w0-z0*w1)])) S:=by
 have e:=Vk (xs:=[x0,y0,z0]) (ys:=[x1,y1,z1]) (w:=w0) (v:=w1) S rfl (by simp;exact⟨p.bx.mono (by decide),p.by_.mono (by decide),p.bz.mono (by decide)⟩) (by simp;exact⟨q.bx.mono (by decide),q.by_.mono (by decide),q.bz.mono (by decide)⟩) (p.bw.mono (by decide)) (q.bw.mono (by decide));exact e
theorem sb{x0 w0 x1 w1:Int}(a:Bd 1000 x0)(b:Bd 1000 w0)(c:Bd 1000 x1)(d:Bd 1000 w1):Bd 2001 (x1*w0-x0*w1):=((c.mul b).mono (show 1000+1000<=2000 by decide)).sub ((a.mul d).mono (show 1000+1000<=2000 by decide))
theorem cb{a b c d:Int}(h1:Bd 2001 a)(h2:Bd 2001 b)(h3:Bd 2001 c)(h4:Bd 2001 d):Bd 4003 (a*b-c*d):=((h1.mul h2).mono (show 2001+2001<=4002 by decide)).sub ((h3.mul h4).mono (show 2001+2001<=4002 by decide))
def D2(x0 y0 w0 x1 y1 w1 x2 y2 w2:Int):Int:=w0*(x1*y2-y1*x2)-w1*(x0*y2-y0*x2)+w2*(x0*y1-y0*x1)
def D3(x0 y0 z0 w0 x1 y1 z1 w1 x2 y2 z2 w2 x3 y3 z3 w3:Int):Int:=
 w0*((y1*z2-z1*y2)*x3+(z1*x2-x1*z2)*y3+(x1*y2-y1*x2)*z3)-w1*((y0*z2-z0*y2)*x3+(z0*x2-x0*z2)*y3+(x0*y2-y0*x2)*z3)
 +w2*((y0*z1-z0*y1)*x3+(z0*x1-x0*z1)*y3+(x0*y1-y0*x1)*z3)-w3*((y0*z1-z0*y1)*x2+(z0*x1-x0*z1)*y2+(x0*y1-y0*x1)*z2)
theorem aaX(x0 y0 w0 x1 y1 w1 x2 y2 w2:Int):dt [-(y1*w0-y0*w1),x1*w0-x0*w1] [x2*w0-x0*w2,y2*w0-y0*w2]=w0*D2 x0 y0 w0 x1 y1 w1 x2 y2 w2:=by
 simp only[dt,D2,yc,yd,rl,ye];grind
theorem Rq(x0 y0 z0 w0 x1 y1 z1 w1 x2 y2 z2 w2 x3 y3 z3 w3:Int):dt [(y1*w0-y0*w1)*(z2*w0-z0*w2)-(z1*w0-z0*w1)*(y2*w0-y0*w2),(z1*w0-z0*w1)*(x2*w0-x0*w2)-(x1*w0-x0*w1)*(z2*w0-z0*w2),(x1*w0-x0*w1)*(y2*w0-y0*w2)-(y1*w0-y0*w1)*(x2*w0-x0*w2)] [x3*w0-x0*w3,y3*w0-y0*w3,z3*w0-z0*w3]=w0*w0*D3 x0 y0 z0 w0 x1 y1 z1 w1 x2 y2 z2 w2 x3 y3 z3 w3:=by
 simp only[dt,D3,yc,yd,rl,ye];grind
theorem gI{w d:Int}(h:0<w):sg (w*d)=sg d:=by
 unfold sg
 by_cases h1:0<d
 .rw[if_pos (aw h h1),if_pos h1]
 .by_cases h2:d<0
  .have:w*d<0:=vk h h2
   rw[if_neg (by omega),if_pos this,if_neg h1,if_pos h2]
  .have:d=0:=by omega
   subst this;rw[kb]
theorem En{A:PV}{x0 y0 w0 x1 y1 w1 x2 y2 w2:Int}(S:aH)(hA:Sv A [v2 x0 y0 w0,v2 x1 y1 w1,v2 x2 y2 w2])(p:P2 x0 y0 w0)(q:P2 x1 y1 w1)(r:P2 x2 y2 w2):nN [.pv A] S=.ok (.pv (.int (w0*D2 x0 y0 w0 x1 y1 w1 x2 y2 w2))) S:=by
 have a1:=vP S p q;have a2:=vP S p r;have bu:=sb p.bx p.bw q.bx q.bw;have bv:=sb p.by_ p.bw q.by_ q.bw;have bu2:=sb p.bx p.bw r.bx r.bw;have bv2:=sb p.by_ p.bw r.by_ r.bw;have id:=aaX x0 y0 w0 x1 y1 w1 x2 y2 w2;generalize y2*w0-y0*w2=V1,x2*w0-x0*w2=V0,y1*w0-y0*w1=U1,x1*w0-x0*w1=U0,w0*D2 x0 y0 w0 x1 y1 w1 x2 y2 w2=D at *;have en:=Xn U0 U1 S;have ed:=Ip (A:=.lst [.int (-U1),.int U0]) (B:=.lst [.int V0,.int V1]) (us:=[-U1,U0]) (vs:=[V0,V1]) S (.inl rfl) (.inl rfl) (by simp;exact⟨bv.neg.mono (by decide),bu.mono (by decide)⟩) (by simp;exact⟨bu2.mono (by decide),bv2.mono (by decide)⟩);rw[id]at ed;have pre:=Co [.lst [.int U0,.int U1]] (.lst [.int V0,.int V1]);simp only[gh,dh]at pre;generalize v2 x2 y2 w2=R,v2 x1 y1 w1=Q,v2 x0 y0 w0=P at *;unfold nN aY uA;rcases hA with rfl |rfl
 .have s1:=qP P [Q,R]
  simp! [aE,aX,aW,aJ,aO,aL,aN,aM,aG,aK,bE,bJ,cK,dP,cV,dJ,fE,s1,cG,eA,dZ,gN,a1,a2,pre,en,ed]
 .have s1:=mQ P [Q,R]
  simp! [aE,aX,aW,aJ,aO,aL,aN,aM,aG,aK,bE,bJ,cK,dP,cV,dJ,fE,s1,cG,eA,dZ,gN,a1,a2,pre,en,ed]
theorem Tn{A:PV}{x0 y0 z0 w0 x1 y1 z1 w1 x2 y2 z2 w2 x3 y3 z3 w3:Int}(S:aH)(hA:Sv A [v3 x0 y0 z0 w0,v3 x1 y1 z1 w1,v3 x2 y2 z2 w2,v3 x3 y3 z3 w3])(p:P3 x0 y0 z0 w0)(q:P3 x1 y1 z1 w1)(r:P3 x2 y2 z2 w2)(s:P3 x3 y3 z3 w3):nN [.pv A] S=.ok (.pv (.int (w0*w0*D3 x0 y0 z0 w0 x1 y1 z1 w1 x2 y2 z2 w2 x3 y3 z3 w3))) S:=by
 have a1:=pX S p q;have a2:=pX S p r;have a3:=pX S p s;have b1:=sb p.bx p.bw q.bx q.bw;have b2:=sb p.by_ p.bw q.by_ q.bw;have b3:=sb p.bz p.bw q.bz q.bw;have b4:=sb p.bx p.bw r.bx r.bw;have b5:=sb p.by_ p.bw r.by_ r.bw;have b6:=sb p.bz p.bw r.bz r.bw;have b7:=sb p.bx p.bw s.bx s.bw;have b8:=sb p.by_ p.bw s.by_ s.bw;have b9:=sb p.bz p.bw s.bz s.bw;have id:=Rq x0 y0 z0 w0 x1 y1 z1 w1 x2 y2 z2 w2 x3 y3 z3 w3;generalize z3*w0-z0*w3=T2,y3*w0-y0*w3=T1,x3*w0-x0*w3=T0,z2*w0-z0*w2=V2,y2*w0-y0*w2=V1,x2*w0-x0*w2=V0,z1*w0-z0*w1=U2,y1*w0-y0*w1=U1,x1*w0-x0*w1=U0,w0*w0*D3 x0 y0 z0 w0 x1 y1 z1 w1 x2 y2 z2 w2 x3 y3 z3 w3=D at *;have h:∀{a:Int},Bd 2001 a->Bd 10000 a:=λh=>h.mono (by decide);have h4:∀{a:Int},Bd 4003 a->Bd 100000 a:=λh=>h.mono (by decide);have h2:∀{a:Int},Bd 2001 a->Bd 100000 a:=λh=>h.mono (by decide);have en:=Bl S (h b1) (h b2) (h b3) (h b4) (h b5) (h b6);have c1:=cb b2 b6 b3 b5;have c2:=cb b3 b4 b1 b6;have c3:=cb b1 b5 b2 b4;have ed:=Ip (A:=.lst [.int (U1*V2-U2*V1),.int (U2*V0-U0*V2),.int (U0*V1-U1*V0)]) (B:=.lst [.int T0,.int T1,.int T2]) (us:=[U1*V2-U2*V1,U2*V0-U0*V2,U0*V1-U1*V0]) (vs:=[T0,T1,T2]) S (.inl rfl) (.inl rfl) (by simp;exact⟨h4 c1,h4 c2,h4 c3⟩) (by simp;exact⟨h2 b7,h2 b8,h2 b9⟩);rw[id]at ed;generalize U0*V1-U1*V0=N2,U2*V0-U0*V2=N1,U1*V2-U2*V1=N0 at *;have pre:=Co [.lst [.int U0,.int U1,.int U2],.lst [.int V0,.int V1,.int V2]] (.lst [.int T0,.int T1,.int T2]);simp only[gh,dh]at pre;generalize v3 x3 y3 z3 w3=T,v3 x2 y2 z2 w2=R,v3 x1 y1 z1 w1=Q,v3 x0 y0 z0 w0=P at *;unfold nN aY uA;rcases hA with rfl |rfl
 .have s1:=qP P [Q,R,T]
  simp! [aE,aX,aW,aJ,aO,aL,aN,aM,aG,aK,bE,bJ,cK,dP,cV,dJ,fE,s1,cG,eA,dZ,gN,a1,a2,a3,pre,en,ed]
 .have s1:=mQ P [Q,R,T]
  simp! [aE,aX,aW,aJ,aO,aL,aN,aM,aG,aK,bE,bJ,cK,dP,cV,dJ,fE,s1,cG,eA,dZ,gN,a1,a2,a3,pre,en,ed]
theorem Iy{A:PV}{x0 y0 w0 x1 y1 w1 x2 y2 w2:Int}(S:aH)(hA:Sv A [v2 x0 y0 w0,v2 x1 y1 w1,v2 x2 y2 w2])(p:P2 x0 y0 w0)(q:P2 x1 y1 w1)(r:P2 x2 y2 w2):mO [.pv A] S=.ok (.pv (.int (sg (D2 x0 y0 w0 x1 y1 w1 x2 y2 w2)))) S:=by
 have e1:=En S hA p q r;have e2:=vI (w0*D2 x0 y0 w0 x1 y1 w1 x2 y2 w2) S;rw[gI p.pos]at e2;unfold mO aY vT;simp! [aE,aX,aW,aJ,aO,aL,aN,aM,aG,aK,e1,e2]
theorem Dy{A:PV}{x0 y0 z0 w0 x1 y1 z1 w1 x2 y2 z2 w2 x3 y3 z3 w3:Int}(S:aH)(hA:Sv A [v3 x0 y0 z0 w0,v3 x1 y1 z1 w1,v3 x2 y2 z2 w2,v3 x3 y3 z3 w3])(p:P3 x0 y0 z0 w0)(q:P3 x1 y1 z1 w1)(r:P3 x2 y2 z2 w2)(s:P3 x3 y3 z3 w3):mO [.pv A] S=.ok (.pv (.int (sg (D3 x0 y0 z0 w0 x1 y1 z1 w1 x2 y2 z2 w2 x3 y3 z3 w3)))) S:=by
 have e1:=Tn S hA p q r s;have e2:=vI (w0*w0*D3 x0 y0 z0 w0 x1 y1 z1 w1 x2 y2 z2 w2 x3 y3 z3 w3) S;rw[gI (aw p.pos p.pos)]at e2;unfold mO aY vT;simp! [aE,aX,aW,aJ,aO,aL,aN,aM,aG,aK,e1,e2]
def Gp(n k:Nat)(v:PV):Prop:=∃xs w,v=.tup ((xs++[w]).map .int)/\Pq n k xs w
theorem Gp.two{v:PV}(h:Gp 2 1000 v):∃x y w,v=v2 x y w/\P2 x y w:=by
 obtain⟨xs,w,rfl,P⟩:=h
 match xs,P.len with
 |[x,y],_=>exact⟨x,y,w,rfl,P.bx x (by simp),P.bx y (by simp),P.bw,P.pos⟩
theorem Gp.three{v:PV}(h:Gp 3 1000 v):∃x y z w,v=v3 x y z w/\P3 x y z w:=by
 obtain⟨xs,w,rfl,P⟩:=h
 match xs,P.len with
 |[x,y,z],_=>exact⟨x,y,z,w,rfl,P.bx x (by simp),P.bx y (by simp),P.bx z (by simp),P.bw,P.pos⟩
theorem Gj(S:aH)(PL QL:AI)(xs ys:AA)(w v:Int)(hp:aE (.tup PL) (.int (-1))=some (.int w))(hq:aE (.tup QL) (.int (-1))=some (.int v))(hpj:∀j:Nat,j<xs.length->aE (.tup PL) (.int (j:Nat))=some (.int (xs.getD j 0)))(hqj:∀j:Nat,j<xs.length->aE (.tup QL) (.int (j:Nat))=some (.int (ys.getD j 0)))
  (bw:Bd 1000 w)(bv:Bd 1000 v)(hx:∀j,Bd 1000 (xs.getD j 0))(hy:∀j,Bd 1000 (ys.getD j 0)):∀(js:List Nat)(x:AK),(∀j∈js,j<xs.length)->
  cD [] (gN 0) (aC eQ (aC bA (aC aE (aA 1) (aA 0)) (aC aE (aA 2) (bQ cE (mC (.int 1))))) (aC bA (aC aE (aA 2) (aA 0)) (aC aE (aA 1) (bQ cE (mC (.int 1)))))) (js.map λj=>.int (0+(j:Nat))) [x,some (.pv (.tup QL)),some (.pv (.tup PL))] S=.ok ((js.map λj=>ys.getD j 0*w-xs.getD j 0*v).map .int) S
 |[],x,_=>dZ
 |j::js,x,h=>by
  have ih:=Gj S PL QL xs ys w v hp hq hpj hqj bw bv hx hy js (some (.pv (.int (0+(j:Nat))))) λi hi=>h i (bh _ hi);have e1:=hpj j (h j bi);have e2:=hqj j (h j bi);have m1:=mB ((hx j).mono (show 1000<=2000 by decide)) (bv.mono (show 1000<=2000 by decide));have m2:=mB ((hy j).mono (show 1000<=2000 by decide)) (bw.mono (show 1000<=2000 by decide));show cD [] _ _ (.int (0+(j:Nat))::js.map λj=>.int (0+(j:Nat))) _ S=_;rw[eA];simp only[pe]at ih⊢;generalize hX:xs.getD j 0=X at e1 m1;generalize hY:ys.getD j 0=Y at e2 m2;simp! [gN,bP,aO,aL,aN,aM,aG,aK,e1,e2,hp,hq,m1,m2,ih];simp only[o5]at hX hY;rw[hX,hY]
theorem Kq{xs ys:AA}{w v:Int}(S:aH)(hl:xs.length=ys.length)(h9:xs.length<=9)(hx:∀x∈xs,Bd 1000 x)(hy:∀y∈ys,Bd 1000 y)(bw:Bd 1000 w)(bv:Bd 1000 v):
  qG [.pv (.tup ((xs++[w]).map .int)),.pv (.tup ((ys++[v]).map .int))] S=.ok (.pv (.lst ((wa xs w ys v).map .int))) S:=by
 have ip:=nT xs w;have iq:=nT ys v;have ec:=Gj S _ _ xs ys w v ip iq (λj h=>vO xs w j h) (λj h=>vO ys v j (by omega)) bw bv (vE hx) (vE hy) (ce xs.length) none λj hj=>by simpa using hj
 have er:(ce xs.length).map (λj=>ys.getD j 0*w-xs.getD j 0*v)=wa xs w ys v:=Rh hl λx y=>y*w-x*v;rw[er]at ec;have hlen:((xs++[w]).map PV.int).length=xs.length+1:=by simp
 have hr:iV [.pv (.int (((xs.length+1:Nat):Int)-1))] S=.ok ((ce xs.length).map λj=>.int (0+(j:Nat)),[]) S:=by
  unfold iV;dsimp only;rw[if_pos ⟨by omega,by omega⟩];have:(((xs.length+1:Nat):Int)-1).toNat=xs.length:=by omega
  rw[this];rfl
 generalize (wa xs w ys v).map PV.int=ZL at ec;generalize (ce xs.length).map (λj=>PV.int (0+(j:Nat)))=RL at ec hr;generalize hP:(xs++[w]).map PV.int=PL at ip ec hlen;generalize (ys++[v]).map PV.int=QL at iq ec;unfold qG aY Ac;have hr2:=hr;rw[<-hlen]at hr2;simp! [bP,aO,aL,aN,aM,aG,aK,bE,bZ,hr2,cG,ec]
theorem Ts{x0 y0 w0 x1 y1 w1:Int}(S:aH)(p:P2 x0 y0 w0)(q:P2 x1 y1 w1):qG [.pv (v2 x0 y0 w0),.pv (v2 x1 y1 w1)] S=.ok (.pv (.lst [.int (x1*w0-x0*w1),.int (y1*w0-y0*w1)])) S:=by
 have e:=Kq (xs:=[x0,y0]) (ys:=[x1,y1]) (w:=w0) (v:=w1) S rfl (by simp) (by simp;exact⟨p.bx,p.by_⟩) (by simp;exact⟨q.bx,q.by_⟩) p.bw q.bw;exact e
theorem Ge{x0 y0 z0 w0 x1 y1 z1 w1:Int}(S:aH)(p:P3 x0 y0 z0 w0)(q:P3 x1 y1 z1 w1):qG [.pv (v3 x0 y0 z0 w0),.pv (v3 x1 y1 z1 w1)] S=.ok (.pv (.lst [.int (x1*w0-x0*w1),.int (y1*w0-y0*w1),.int (z1*w0-z0*w1)])) S:=by
 have e:=Kq (xs:=[x0,y0,z0]) (ys:=[x1,y1,z1]) (w:=w0) (v:=w1) S rfl (by simp) (by simp;exact⟨p.bx,p.by_,p.bz⟩) (by simp;exact⟨q.bx,q.by_,q.bz⟩) p.bw q.bw;exact e
theorem Sz{A:PV}{x0 y0 w0 x1 y1 w1 x2 y2 w2:Int}(S:aH)(hA:Sv A [v2 x0 y0 w0,v2 x1 y1 w1,v2 x2 y2 w2])(p:P2 x0 y0 w0)(q:P2 x1 y1 w1)(r:P2 x2 y2 w2):oA [.pv A] S=.ok (.pv (.int (w0*D2 x0 y0 w0 x1 y1 w1 x2 y2 w2))) S:=by
 have a1:=Ts S p q;have a2:=Ts S p r;have bu:=sb p.bx p.bw q.bx q.bw;have bv:=sb p.by_ p.bw q.by_ q.bw;have bu2:=sb p.bx p.bw r.bx r.bw;have bv2:=sb p.by_ p.bw r.by_ r.bw;have id:(x1*w0-x0*w1)*(y2*w0-y0*w2)-(y1*w0-y0*w1)*(x2*w0-x0*w2)=w0*D2 x0 y0 w0 x1 y1 w1 x2 y2 w2:=by
  unfold D2;grind
 generalize y2*w0-y0*w2=V1,x2*w0-x0*w2=V0,y1*w0-y0*w1=U1,x1*w0-x0*w1=U0,w0*D2 x0 y0 w0 x1 y1 w1 x2 y2 w2=D at *;have m1:=fM bu bv2;have m2:=fM bv bu2;generalize v2 x2 y2 w2=R,v2 x1 y1 w1=Q,v2 x0 y0 w0=P at *;have et:kF [.pv (.lst [.lst [.int U0,.int U1],.lst [.int V0,.int V1]])] S=.ok (.pv (.int D)) S:=by
  unfold kF aY pS;simp! [aE,aX,aW,aJ,aO,aL,aN,aM,aG,aK,m1,m2,id]
 unfold oA aY vL;rcases hA with rfl |rfl
 .have s1:=qP P [Q,R]
  simp! [aE,aX,aW,aJ,aO,aL,aN,aM,aG,aK,bE,bJ,cK,dP,cV,dJ,fE,s1,cG,eA,dZ,gN,a1,a2,et]
 .have s1:=mQ P [Q,R]
  simp! [aE,aX,aW,aJ,aO,aL,aN,aM,aG,aK,bE,bJ,cK,dP,cV,dJ,fE,s1,cG,eA,dZ,gN,a1,a2,et]
theorem Ay{A:PV}{x0 y0 z0 w0 x1 y1 z1 w1 x2 y2 z2 w2 x3 y3 z3 w3:Int}(S:aH)(hA:Sv A [v3 x0 y0 z0 w0,v3 x1 y1 z1 w1,v3 x2 y2 z2 w2,v3 x3 y3 z3 w3])(p:P3 x0 y0 z0 w0)(q:P3 x1 y1 z1 w1)(r:P3 x2 y2 z2 w2)(s:P3 x3 y3 z3 w3):oA [.pv A] S=.ok (.pv (.int (w0*w0*D3 x0 y0 z0 w0 x1 y1 z1 w1 x2 y2 z2 w2 x3 y3 z3 w3))) S:=by
 have a1:=Ge S p q;have a2:=Ge S p r;have a3:=Ge S p s;have b1:=sb p.bx p.bw q.bx q.bw;have b2:=sb p.by_ p.bw q.by_ q.bw;have b3:=sb p.bz p.bw q.bz q.bw;have b4:=sb p.bx p.bw r.bx r.bw;have b5:=sb p.by_ p.bw r.by_ r.bw;have b6:=sb p.bz p.bw r.bz r.bw;have b7:=sb p.bx p.bw s.bx s.bw;have b8:=sb p.by_ p.bw s.by_ s.bw;have b9:=sb p.bz p.bw s.bz s.bw;have id:=Rq x0 y0 z0 w0 x1 y1 z1 w1 x2 y2 z2 w2 x3 y3 z3 w3;generalize z3*w0-z0*w3=T2,y3*w0-y0*w3=T1,x3*w0-x0*w3=T0,z2*w0-z0*w2=V2,y2*w0-y0*w2=V1,x2*w0-x0*w2=V0,z1*w0-z0*w1=U2,y1*w0-y0*w1=U1,x1*w0-x0*w1=U0,w0*w0*D3 x0 y0 z0 w0 x1 y1 z1 w1 x2 y2 z2 w2 x3 y3 z3 w3=D at *;have h:∀{a:Int},Bd 2001 a->Bd 10000 a:=λh=>h.mono (by decide);have h4:∀{a:Int},Bd 4003 a->Bd 100000 a:=λh=>h.mono (by decide);have h2:∀{a:Int},Bd 2001 a->Bd 100000 a:=λh=>h.mono (by decide);have en:=Sj (A:=.lst [.int U0,.int U1,.int U2]) (B:=.lst [.int V0,.int V1,.int V2]) S rfl rfl (h b1) (h b2) (h b3) (h b4) (h b5) (h b6);have c1:=cb b2 b6 b3 b5;have c2:=cb b3 b4 b1 b6;have c3:=cb b1 b5 b2 b4;have ed:=Zm (A:=.lst [.int (U1*V2-U2*V1),.int (U2*V0-U0*V2),.int (U0*V1-U1*V0)]) (B:=.lst [.int T0,.int T1,.int T2]) (us:=[U1*V2-U2*V1,U2*V0-U0*V2,U0*V1-U1*V0]) (vs:=[T0,T1,T2]) S (.inl rfl) (.inl rfl) (by simp;exact⟨h4 c1,h4 c2,h4 c3⟩) (by simp;exact⟨h2 b7,h2 b8,h2 b9⟩);rw[id]at ed;generalize v3 x3 y3 z3 w3=T,v3 x2 y2 z2 w2=R,v3 x1 y1 z1 w1=Q,v3 x0 y0 z0 w0=P,U0*V1-U1*V0=N2,U2*V0-U0*V2=N1,U1*V2-U2*V1=N0 at *;have et:kF [.pv (.lst [.lst [.int U0,.int U1,.int U2],.lst [.int V0,.int V1,.int V2],.lst [.int T0,.int T1,.int T2]])] S=.ok (.pv (.int D)) S:=by
  unfold kF aY pS;simp! [aE,aX,aW,aJ,aO,aL,aN,aM,aG,aK,en,ed]
 unfold oA aY vL;rcases hA with rfl |rfl
 .have s1:=qP P [Q,R,T]
  simp! [aE,aX,aW,aJ,aO,aL,aN,aM,aG,aK,bE,bJ,cK,dP,cV,dJ,fE,s1,cG,eA,dZ,gN,a1,a2,a3,et]
 .have s1:=mQ P [Q,R,T]
  simp! [aE,aX,aW,aJ,aO,aL,aN,aM,aG,aK,bE,bJ,cK,dP,cV,dJ,fE,s1,cG,eA,dZ,gN,a1,a2,a3,et]
theorem Zz(ns:AA):low (ns.map (- ·))=(low ns).map (- ·):=by
 have e:gl (ns.map (- ·)) 0=gl ns 0:=by
  rw[<-M4 ns];exact congrArg (λl=>gl l 0) (iw λx _=>by omega)
 unfold low;rw[e];split
 .rfl
 .rw[fg,fg]
  refine iw λx hx=>?_;exact Int.neg_ediv_of_dvd ((jX ns 0).2 x hx)
def B2(x0 y0 w0 x1 y1 w1:Int):AA:=[-(y1*w0-y0*w1),x1*w0-x0*w1,x0*y1-y0*x1]
theorem G4{G:Gd}{g:GM}{me:ME}{x:PV}{r:AI}{ρ:bM}{S:aH}(h:gY G S):cD G g me (x::r) ρ S=(match g x ρ with
  |none=>.fail
  |some ρ1=>match me ρ1 S with
   |.ok (.pv y) S1=>match cD G g me r ρ1 S1 with
    |.ok ys S2=>.ok (y::ys) S2
    |_=>.fail
   |_=>.fail):=by
 rw[cD,if_pos h]
 all_goals rfl
theorem Yx{G:Gd}{g:GM}{me:ME}{ρ:bM}{S:aH}(h:gY G S):cD G g me [] ρ S=.ok [] S:=by
 rw[cD,if_pos h]
theorem Sk(a b c x0 y0 w0 x1 y1 w1 x2 y2 w2:Int):D2 (a*x0) (a*y0) (a*w0) (b*x1) (b*y1) (b*w1) (c*x2) (c*y2) (c*w2)=a*b*c*D2 x0 y0 w0 x1 y1 w1 x2 y2 w2:=by
 unfold D2;grind
theorem Rj(a b c d x0 y0 z0 w0 x1 y1 z1 w1 x2 y2 z2 w2 x3 y3 z3 w3:Int):D3 (a*x0) (a*y0) (a*z0) (a*w0) (b*x1) (b*y1) (b*z1) (b*w1) (c*x2) (c*y2) (c*z2) (c*w2) (d*x3) (d*y3) (d*z3) (d*w3)=a*b*c*d*D3 x0 y0 z0 w0 x1 y1 z1 w1 x2 y2 z2 w2 x3 y3 z3 w3:=by
 unfold D3;grind
structure R2(x y w X Y D:Int):Prop where
 pos:0<w
 dos:0<D
 ex:x*D=X*w
 ey:y*D=Y*w
theorem Pq.p2{k:Nat}{x y w:Int}(P:Pq 2 k [x,y] w)(h:k<=1000):P2 x y w:=⟨(P.bx x (by simp)).mono h,(P.bx y (by simp)).mono h,P.bw.mono h,P.pos⟩
theorem Pq.p3{k:Nat}{x y z w:Int}(P:Pq 3 k [x,y,z] w)(h:k<=1000):P3 x y z w:=⟨(P.bx x (by simp)).mono h,(P.bx y (by simp)).mono h,(P.bx z (by simp)).mono h,P.bw.mono h,P.pos⟩
def tU:AI->Int
 |[.tup [.int x0,.int y0,.int w0],.tup [.int x1,.int y1,.int w1],.tup [.int x2,.int y2,.int w2]]=>sg (D2 x0 y0 w0 x1 y1 w1 x2 y2 w2)
 |[.tup [.int x0,.int y0,.int z0,.int w0],.tup [.int x1,.int y1,.int z1,.int w1],.tup [.int x2,.int y2,.int z2,.int w2],.tup [.int x3,.int y3,.int z3,.int w3]]=>sg (D3 x0 y0 z0 w0 x1 y1 z1 w1 x2 y2 z2 w2 x3 y3 z3 w3)
 |_=>0
theorem F1{n:Nat}(hn:n=2\/n=3){A:PV}{L:AI}(S:aH)(hl:L.length=n+1)(hg:∀v∈L,Gp n 1000 v)(hA:Sv A L):mO [.pv A] S=.ok (.pv (.int (tU L))) S:=by
 rcases hn with rfl |rfl
 .match L,hl with
  |[P,Q,R],_=>
   obtain⟨x0,y0,w0,rfl,p⟩:=(hg P (by simp)).two;obtain⟨x1,y1,w1,rfl,q⟩:=(hg Q (by simp)).two;obtain⟨x2,y2,w2,rfl,r⟩:=(hg R (by simp)).two;exact Iy S hA p q r
 .match L,hl with
  |[P,Q,R,T],_=>
   obtain⟨x0,y0,z0,w0,rfl,p⟩:=(hg P (by simp)).three;obtain⟨x1,y1,z1,w1,rfl,q⟩:=(hg Q (by simp)).three;obtain⟨x2,y2,z2,w2,rfl,r⟩:=(hg R (by simp)).three;obtain⟨x3,y3,z3,w3,rfl,s⟩:=(hg T (by simp)).three;exact Dy S hA p q r s
theorem vW(D:Int):sg (-D)=-sg D:=by
 unfold sg;split<;>split<;>(try split)<;>(try split)<;>omega
abbrev tv(us:AA):PV:=.tup (us.map .int)
def Gu(n k:Nat)(us:AA):Prop:=∃xs w,us=xs++[w]/\Pq n k xs w
theorem Gu.gp{n k:Nat}{us:AA}(h:Gu n k us):Gp n k (tv us):=by
 obtain⟨xs,w,rfl,P⟩:=h;exact⟨xs,w,rfl,P⟩
theorem Gu.ne{n k:Nat}{us:AA}(h:Gu n k us):us≠[]:=by
 obtain⟨xs,w,rfl,P⟩:=h;simp
theorem At{n k:Nat}{uss:AC}(h:∀us∈uss,Gu n k us):∀v∈uss.map tv,Gp n k v:=λv hv=>by
 obtain⟨us,hu,rfl⟩:=ix.mp hv;exact(h us hu).gp
theorem Ah:∀uss:AC,mM (uss.map tv)=some uss
 |[]=>rfl
 |us::uss=>by
  have ih:=Ah uss;show(match iF (us.map .int),mM (uss.map tv)with |some is,some uss=>some (is::uss) |_,_=>none)=_
  rw[ih,uK]
theorem Xh{uss:AC}{n:Nat}(hl:uss.length=n)(hp:(dQ uss).Perm (ce n)):Oc (uss.map tv) uss=(eV uss).map tv:=by
 unfold Oc eV;rw[fg];refine iw λi hi=>?_;have h:i<uss.length:=by
  have:=hp.subset hi;rw[hl];simpa using this
 simp[ck,h]
theorem Iv{A:PV}{uss:AC}(hl:uss.length=3\/uss.length=4)(hA:Sv A (uss.map tv))(hne:∀us∈uss,us≠[]):sF [A]=some (.lst ((eV uss).map tv)):=by
 have e:qJ (uss.map tv)=some (.lst ((eV uss).map tv)):=by
  unfold qJ;rw[Ah];dsimp only;rcases hl with h |h
  .obtain⟨_,hp,_⟩:=Al h
   rw[if_pos (show Wc uss from⟨by omega,by omega,by rw[h];exact Qq,by rw[hp.length_eq];simp,hne⟩),Xh h hp]
  .obtain⟨_,hp,_⟩:=Xl h
   rw[if_pos (show Wc uss from⟨by omega,by omega,by rw[h];exact As,by rw[hp.length_eq];simp,hne⟩),Xh h hp]
 rcases hA with rfl |rfl
 .exact e
 .exact e
def oQ{α:Type}:List α->List α
 |[a,b,c]=>[a,c,b]
 |[a,b,c,d]=>[a,b,d,c]
 |l=>l
theorem P9{α β:Type}(f:α->β)(l:List α):(oQ l).map f=oQ (l.map f):=by
 rcases l with _ |⟨a,_ |⟨b,_ |⟨c,_ |⟨d,_ |⟨e,l⟩⟩⟩⟩⟩<;>rfl
theorem B8{α:Type}(l:List α):(oQ l).Perm l:=by
 unfold oQ;split
 .exact .cons _ (.swap _ _ _)
 .exact .cons _ (.cons _ (.swap _ _ _))
 .exact .refl _
def dU:AC->Int
 |[[x0,y0,w0],[x1,y1,w1],[x2,y2,w2]]=>D2 x0 y0 w0 x1 y1 w1 x2 y2 w2
 |[[x0,y0,z0,w0],[x1,y1,z1,w1],[x2,y2,z2,w2],[x3,y3,z3,w3]]=>D3 x0 y0 z0 w0 x1 y1 z1 w1 x2 y2 z2 w2 x3 y3 z3 w3
 |_=>0
theorem Gu.two{k:Nat}{us:AA}(h:Gu 2 k us)(hk:k<=1000):∃x y w,us=[x,y,w]/\P2 x y w:=by
 obtain⟨xs,w,rfl,P⟩:=h
 match xs,P.len,P with
 |[x,y],_,P=>exact⟨x,y,w,rfl,P.p2 hk⟩
theorem Gu.three{k:Nat}{us:AA}(h:Gu 3 k us)(hk:k<=1000):∃x y z w,us=[x,y,z,w]/\P3 x y z w:=by
 obtain⟨xs,w,rfl,P⟩:=h
 match xs,P.len,P with
 |[x,y,z],_,P=>exact⟨x,y,z,w,rfl,P.p3 hk⟩
theorem Vo{n k:Nat}(hn:n=2\/n=3)(hk:k<=1000){uss:AC}(hl:uss.length=n+1)(hg:∀us∈uss,Gu n k us):tU (uss.map tv)=sg (dU uss):=by
 rcases hn with rfl |rfl
 .match uss,hl with
  |[a,b,c],_=>
   obtain⟨x0,y0,w0,rfl,_⟩:=(hg a (by simp)).two hk;obtain⟨x1,y1,w1,rfl,_⟩:=(hg b (by simp)).two hk;obtain⟨x2,y2,w2,rfl,_⟩:=(hg c (by simp)).two hk;rfl
 .match uss,hl with
  |[a,b,c,d],_=>
   obtain⟨x0,y0,z0,w0,rfl,_⟩:=(hg a (by simp)).three hk;obtain⟨x1,y1,z1,w1,rfl,_⟩:=(hg b (by simp)).three hk;obtain⟨x2,y2,z2,w2,rfl,_⟩:=(hg c (by simp)).three hk;obtain⟨x3,y3,z3,w3,rfl,_⟩:=(hg d (by simp)).three hk;rfl
def Pw(n:Nat)(us:AA):Prop:=∃xs w,us=xs++[w]/\xs.length=n/\0<w
theorem Pw.two{us:AA}(h:Pw 2 us):∃x y w,us=[x,y,w]/\0<w:=by
 obtain⟨xs,w,rfl,l,p⟩:=h
 match xs,l with
 |[x,y],_=>exact⟨x,y,w,rfl,p⟩
theorem Pw.three{us:AA}(h:Pw 3 us):∃x y z w,us=[x,y,z,w]/\0<w:=by
 obtain⟨xs,w,rfl,l,p⟩:=h
 match xs,l with
 |[x,y,z],_=>exact⟨x,y,z,w,rfl,p⟩
theorem Gu.pt{n k:Nat}{us:AA}(h:Gu n k us):Pw n us:=by
 obtain⟨xs,w,e,P⟩:=h;exact⟨xs,w,e,P.len,P.pos⟩
theorem dU2{x0 y0 w0 x1 y1 w1 x2 y2 w2:Int}:dU [[x0,y0,w0],[x1,y1,w1],[x2,y2,w2]]=D2 x0 y0 w0 x1 y1 w1 x2 y2 w2:=rfl
theorem dU3{x0 y0 z0 w0 x1 y1 z1 w1 x2 y2 z2 w2 x3 y3 z3 w3:Int}:dU [[x0,y0,z0,w0],[x1,y1,z1,w1],[x2,y2,z2,w2],[x3,y3,z3,w3]]=D3 x0 y0 z0 w0 x1 y1 z1 w1 x2 y2 z2 w2 x3 y3 z3 w3:=rfl
theorem uZ{n:Nat}(hn:n=2\/n=3){pre l:AC}{x y:AA}(hl:(pre++y::x::l).length=n+1)(hp:∀u∈pre++y::x::l,Pw n u):dU (pre++x::y::l)=-dU (pre++y::x::l):=by
 have hx:=hp x (by simp);have hy:=hp y (by simp);rcases hn with rfl |rfl
 .obtain⟨x0,y0,w0,rfl,_⟩:=hx.two
  obtain⟨x1,y1,w1,rfl,_⟩:=hy.two;have fin:∀c∈pre++l,∃x y w,c=[x,y,w]:=λc hc=>by
   obtain⟨x,y,w,e,_⟩:=(hp c (by simp at hc⊢;rcases hc with h |h<;>simp[h])).two;exact⟨x,y,w,e⟩
  match pre,l,hl,fin with
  |[],[c],_,fin |[c],[],_,fin=>
   obtain⟨x2,y2,w2,rfl⟩:=fin c (by simp);simp only[dh,gh,dU2,D2];grind
  |[],[],h,_=>simp at h
  |[],_::_::_,h,_=>simp at h
  |_::_::_,_,h,_=>simp at h;omega
  |[_],_::_,h,_=>simp at h
 .obtain⟨x0,y0,z0,w0,rfl,_⟩:=hx.three
  obtain⟨x1,y1,z1,w1,rfl,_⟩:=hy.three;have fin:∀c∈pre++l,∃x y z w,c=[x,y,z,w]:=λc hc=>by
   obtain⟨x,y,z,w,e,_⟩:=(hp c (by simp at hc⊢;rcases hc with h |h<;>simp[h])).three;exact⟨x,y,z,w,e⟩
  match pre,l,hl,fin with
  |[],[c,d],_,fin |[c],[d],_,fin |[c,d],[],_,fin=>
   obtain⟨x2,y2,z2,w2,rfl⟩:=fin c (by simp);obtain⟨x3,y3,z3,w3,rfl⟩:=fin d (by simp);simp only[dh,gh,dU3,D3];grind
  |[],[],h,_=>simp at h
  |[],[_],h,_=>simp at h
  |[],_::_::_::_,h,_=>simp at h
  |[_],[],h,_=>simp at h
  |[_],_::_::_,h,_=>simp at h
  |[_,_],_::_,h,_=>simp at h
  |_::_::_::_,_,h,_=>simp at h;omega
theorem O3{n:Nat}(hn:n=2\/n=3){A B:AC}(h:A.Perm B):∀pre:AC,(pre++A).length=n+1->(∀u∈pre++A,Pw n u)->dU (pre++B)=dU (pre++A)\/dU (pre++B)=-dU (pre++A):=by
 induction h with
 |nil=>exact λpre _ _=>.inl rfl
 |cons x _ ih=>
  intro pre hl hp;have:=ih (pre++[x]) (by simpa using hl) (by simpa using hp);simpa using this
 |swap x y l=>exact λpre hl hp=>.inr (uZ hn hl hp)
 |trans h1 h2 ih1 ih2=>
  intro pre hl hp;have q1:=ih1 pre hl hp;have q2:=ih2 pre (by rw[<-(h1.append_left pre).length_eq];exact hl) λu hu=>hp u ((h1.append_left pre).mem_iff.mpr hu);omega
theorem R4{n k:Nat}(hn:n=2\/n=3)(hk:k<=1000){uss:AC}(hl:uss.length=n+1)(hg:∀us∈uss,Gu n k us):dU (eV uss)=dU uss\/dU (eV uss)=-dU uss:=
 O3 hn (pH (by omega)).1.symm [] hl λu hu=>(hg u hu).pt
theorem jH{n:Nat}(hn:n=2\/n=3){uss:AC}(hl:uss.length=n+1):uss.length=3\/uss.length=4:=by
 rcases hn with rfl |rfl
 .exact .inl hl
 .exact .inr hl
theorem S7{n:Nat}(hn:n=2\/n=3){A:PV}{L:AI}(S:aH)(hl:L.length=n+1)(hg:∀v∈L,Gp n 1000 v)(hA:Sv A L):∃d:Int,oA [.pv A] S=.ok (.pv (.int d)) S/\sg d=tU L:=by
 rcases hn with rfl |rfl
 .match L,hl with
  |[P,Q,R],_=>
   obtain⟨x0,y0,w0,rfl,p⟩:=(hg P (by simp)).two;obtain⟨x1,y1,w1,rfl,q⟩:=(hg Q (by simp)).two;obtain⟨x2,y2,w2,rfl,r⟩:=(hg R (by simp)).two;exact⟨_,Sz S hA p q r,gI p.pos⟩
 .match L,hl with
  |[P,Q,R,T],_=>
   obtain⟨x0,y0,z0,w0,rfl,p⟩:=(hg P (by simp)).three;obtain⟨x1,y1,z1,w1,rfl,q⟩:=(hg Q (by simp)).three;obtain⟨x2,y2,z2,w2,rfl,r⟩:=(hg R (by simp)).three;obtain⟨x3,y3,z3,w3,rfl,s⟩:=(hg T (by simp)).three;exact⟨_,Ay S hA p q r s,gI (aw p.pos p.pos)⟩
def cC(uss:AC):AC:=if tU ((eV uss).map tv)<0 then oQ (eV uss)else eV uss
theorem abD{n:Nat}(hn:n=2\/n=3){L:AI}(hl:L.length=n+1):∃a b M,iM (.lst L) none (some (-2))=some (.lst M)/\aE (.lst L) (.int (-1))=some a/\aE (.lst L) (.int (-2))=some b/\aG (.lst M) (.lst [a,b])=some (.lst (oQ L)):=by
 rcases hn with rfl |rfl
 .match L,hl with
  |[P,Q,R],_=>exact⟨R,Q,[P],rfl,rfl,rfl,rfl⟩
 .match L,hl with
  |[P,Q,R,T],_=>exact⟨T,R,[P,Q],rfl,rfl,rfl,rfl⟩
theorem Ag{n:Nat}(hn:n=2\/n=3){A:PV}{a:AV}{uss:AC}(S:aH)(ha:rd S a=some A)(hl:uss.length=n+1)(hg:∀us∈uss,Gu n 1000 us)(hA:Sv A (uss.map tv)):jE [a] S=.ok (.pv (.tup ((cC uss).map tv))) S:=by
 have h34:uss.length=3\/uss.length=4:=by omega
 have e1:=Iv h34 hA λus hu=>(hg us hu).ne;obtain⟨pm,_⟩:=pH h34;have hl2:((eV uss).map tv).length=n+1:=by rw[ak,pm.length_eq];exact hl
 have hg2:∀v∈(eV uss).map tv,Gp n 1000 v:=At λus hu=>hg us (pm.subset hu);obtain⟨d,e2,hd⟩:=S7 (A:=.lst ((eV uss).map tv)) hn S hl2 hg2 (.inl rfl);obtain⟨a1,b1,M,t1,t2,t3,t4⟩:=abD hn hl2;unfold cC;have hlt:d<0↔tU ((eV uss).map tv)<0:=by
  rw[<-hd];unfold sg;split
  .omega
  .split<;>omega
 by_cases h:d<0
 .rw[if_pos (hlt.mp h),P9]
  generalize (eV uss).map tv=L at *;unfold jE aY uJ;simp[EC,bP,aO,aL,aN,aM,aK,ha,e1,e2,h,dP,cV,dJ,fE,t1,t2,t3,t4]
 .rw[if_neg (λz=>h (hlt.mpr z))]
  generalize (eV uss).map tv=L at *;unfold jE aY uJ;simp[EC,bP,aO,aL,aN,aM,aK,ha,e1,e2,h]
theorem Bg{n:Nat}(hn:n=2\/n=3){A:PV}{uss:AC}(S:aH)(hl:uss.length=n+1)(hg:∀us∈uss,Gu n 1000 us)(hA:Sv A (uss.map tv)):jE [.pv A] S=.ok (.pv (.tup ((cC uss).map tv))) S:=Ag hn S rfl hl hg hA
theorem pP{uss:AC}(h:uss.length=3\/uss.length=4):(cC uss).Perm uss:=by
 obtain⟨pm,_⟩:=pH h;unfold cC;split
 .exact(B8 _).trans pm
 .exact pm
theorem Q2{uss:AC}(h:uss.length=3\/uss.length=4):cC (cC uss)=cC uss:=by
 have e:=Df (pP h) h;unfold cC at e⊢;rw[e]
theorem Jp{S:aH}{k j:Nat}{xs:AI}{v:PV}(hS:S[k]?=some (.lst xs))(hv:xs[j]?=some v)(hj:j<1000):oH k [.pv (.int (j:Int))] S=.ok (.pv v) (S.set k (.lst (xs.eraseIdx j))):=by
 have hl:=(ca.mp hv).1;have e:seqIndex? (j:Int) xs.length=some j:=by
  unfold seqIndex?;have h1:¬((j:Int)<0):=by omega
  have h2:(decide (0<=(j:Int))&&decide ((j:Int)<(xs.length:Int)))=true:=by
   simp only[ja,decide_eq_true_eq];omega
  simp only[h1,if_false];rw[if_pos h2,la]
 unfold oH;dsimp only;rw[if_pos ⟨by omega,by omega⟩,hS];dsimp only;rw[e];dsimp only;rw[hv]
def wU:AC->Int
 |[]=>1
 |us::r=>us.getLastD 0*wU r
theorem Gu.mono{n k l:Nat}{us:AA}(h:Gu n k us)(hl:k<=l):Gu n l us:=by
 obtain⟨xs,w,e,P⟩:=h;exact⟨xs,w,e,P.mono hl⟩
theorem Km{d:Int}:sg d=0↔d=0:=by
 unfold sg;split
 .omega
 .split<;>omega
theorem Tr{d:Int}:sg d<0↔d<0:=by
 unfold sg;split
 .omega
 .split<;>omega
theorem Z8{n k:Nat}(hn:n=2\/n=3)(hk:k<=1000){uss:AC}(hl:uss.length=n+1)(hg:∀us∈uss,Gu n k us):dU (oQ uss)=-dU uss:=by
 rcases hn with rfl |rfl
 .match uss,hl with
  |[a,b,c],_=>
   obtain⟨x0,y0,w0,rfl,_⟩:=(hg a (by simp)).two hk;obtain⟨x1,y1,w1,rfl,_⟩:=(hg b (by simp)).two hk;obtain⟨x2,y2,w2,rfl,_⟩:=(hg c (by simp)).two hk;show D2 x0 y0 w0 x2 y2 w2 x1 y1 w1=-(D2 x0 y0 w0 x1 y1 w1 x2 y2 w2);unfold D2;grind
 .match uss,hl with
  |[a,b,c,d],_=>
   obtain⟨x0,y0,z0,w0,rfl,_⟩:=(hg a (by simp)).three hk;obtain⟨x1,y1,z1,w1,rfl,_⟩:=(hg b (by simp)).three hk;obtain⟨x2,y2,z2,w2,rfl,_⟩:=(hg c (by simp)).three hk;obtain⟨x3,y3,z3,w3,rfl,_⟩:=(hg d (by simp)).three hk;show D3 x0 y0 z0 w0 x1 y1 z1 w1 x3 y3 z3 w3 x2 y2 z2 w2=-(D3 x0 y0 z0 w0 x1 y1 z1 w1 x2 y2 z2 w2 x3 y3 z3 w3);unfold D3;grind
theorem lS{n k:Nat}(hn:n=2\/n=3)(hk:k<=1000){uss:AC}(hl:uss.length=n+1)(hg:∀us∈uss,Gu n k us):dU (cC uss)=((dU uss).natAbs:Int):=by
 have hp:=(pH (jH hn hl)).1;have gs:∀us∈eV uss,Gu n k us:=λus hu=>hg us (hp.subset hu);have ls:(eV uss).length=n+1:=by rw[hp.length_eq,hl]
 have e:=R4 hn hk hl hg;have s:=Z8 hn hk ls gs;have q:=Vo hn hk ls gs;unfold cC;split
 .rename_i h
  rw[q,Tr]at h;rw[s];omega
 .rename_i h
  rw[q,Tr]at h;omega
theorem Cb{A B:AC}(h:A.Perm B):wU A=wU B:=by
 induction h with
 |nil=>rfl
 |cons x _ ih=>unfold wU;rw[ih]
 |swap x y l=>unfold wU wU;rw[<-kd,<-kd,du (y.getLastD 0)]
 |trans _ _ i1 i2=>exact i1.trans i2
theorem kZ{n k:Nat}:∀{uss:AC},(∀us∈uss,Gu n k us)->0<wU uss
 |[],_=>by decide
 |us::r,h=>by
  unfold wU;obtain⟨xs,w,rfl,P⟩:=h us bi;refine aw ?_ (kZ λu hu=>h u (bh _ hu));rw[show(xs++[w]).getLastD 0=w by simp];exact P.pos
theorem uH{A B:AC}(hp:A.Perm B)(h:B.length=3\/B.length=4):cC A=cC B:=by
 unfold cC;rw[Df hp h]
structure Sx(n k:Nat)(uss:AC):Prop where
 len:uss.length=n+1
 gu:∀us∈uss,Gu n k us
 nz:dU uss≠0
 cn:cC uss=uss
abbrev px(uss:AC):PV:=.tup (uss.map tv)
theorem wJ{n k:Nat}(hn:n=2\/n=3)(hk:k<=1000){uss:AC}(hl:uss.length=n+1)(hg:∀us∈uss,Gu n k us)(nz:dU uss≠0):Sx n k (cC uss):=by
 have hp:=pP (jH hn hl);refine⟨by rw[hp.length_eq,hl],λus hu=>hg us (hp.subset hu),?_,Q2 (jH hn hl)⟩;rw[lS hn hk hl hg];omega
def kB(n:Nat)(A C:Nat->Int)(E:Int)(us us':AA):Prop:=∃xs w xs' w',us=xs++[w]/\us'=xs'++[w']/\xs.length=n/\xs'.length=n/\0<w/\0<w'/\∀j,j<n->xs'.getD j 0*(E*w)=(A j*xs.getD j 0+C j*w)*w'
theorem kB.two{A C:Nat->Int}{E:Int}{us us':AA}(h:kB 2 A C E us us'):∃x y w x' y' w',us=[x,y,w]/\us'=[x',y',w']/\x'*(E*w)=(A 0*x+C 0*w)*w'/\y'*(E*w)=(A 1*y+C 1*w)*w':=by
 obtain⟨xs,w,xs',w',rfl,rfl,l,l',_,_,h⟩:=h
 match xs,l,xs',l',h with
 |[x,y],_,[x',y'],_,h=>exact⟨x,y,w,x',y',w',rfl,rfl,h 0 (by decide),h 1 (by decide)⟩
theorem kB.three{A C:Nat->Int}{E:Int}{us us':AA}(h:kB 3 A C E us us'):∃x y z w x' y' z' w',us=[x,y,z,w]/\us'=[x',y',z',w']/\x'*(E*w)=(A 0*x+C 0*w)*w'/\y'*(E*w)=(A 1*y+C 1*w)*w'/\z'*(E*w)=(A 2*z+C 2*w)*w':=by
 obtain⟨xs,w,xs',w',rfl,rfl,l,l',_,_,h⟩:=h
 match xs,l,xs',l',h with
 |[x,y,z],_,[x',y',z'],_,h=>exact⟨x,y,z,w,x',y',z',w',rfl,rfl,h 0 (by decide),h 1 (by decide),h 2 (by decide)⟩
theorem aa0(a b c d E x0 y0 w0 x1 y1 w1 x2 y2 w2:Int):D2 (a*x0+c*w0) (b*y0+d*w0) (E*w0) (a*x1+c*w1) (b*y1+d*w1) (E*w1) (a*x2+c*w2) (b*y2+d*w2) (E*w2)=a*b*E*D2 x0 y0 w0 x1 y1 w1 x2 y2 w2:=by
 unfold D2;grind
theorem abi(a b p c d e E x0 y0 z0 w0 x1 y1 z1 w1 x2 y2 z2 w2 x3 y3 z3 w3:Int):D3 (a*x0+c*w0) (b*y0+d*w0) (p*z0+e*w0) (E*w0) (a*x1+c*w1) (b*y1+d*w1) (p*z1+e*w1) (E*w1) (a*x2+c*w2) (b*y2+d*w2) (p*z2+e*w2) (E*w2) (a*x3+c*w3) (b*y3+d*w3) (p*z3+e*w3) (E*w3)=a*b*p*E*D3 x0 y0 z0 w0 x1 y1 z1 w1 x2 y2 z2 w2 x3 y3 z3 w3:=by
 unfold D3;grind
theorem cm(a b:Int){c:Int}(h:a*b=c):b*a=c:=by rw[du];exact h
theorem acs{A C:Nat->Int}{E:Int}{P Q R P' Q' R':AA}(h0:kB 2 A C E P P')(h1:kB 2 A C E Q Q')(h2:kB 2 A C E R R'):dU [P',Q',R']*(E*E*E*wU [P,Q,R])=A 0*A 1*E*dU [P,Q,R]*wU [P',Q',R']:=by
 obtain⟨x0,y0,w0,X0,Y0,W0,rfl,rfl,p,q⟩:=h0.two;obtain⟨x1,y1,w1,X1,Y1,W1,rfl,rfl,p1,q1⟩:=h1.two;obtain⟨x2,y2,w2,X2,Y2,W2,rfl,rfl,p2,q2⟩:=h2.two;have e:=Sk (E*w0) (E*w1) (E*w2) X0 Y0 W0 X1 Y1 W1 X2 Y2 W2;have f:=Sk W0 W1 W2 (A 0*x0+C 0*w0) (A 1*y0+C 1*w0) (E*w0) (A 0*x1+C 0*w1) (A 1*y1+C 1*w1) (E*w1) (A 0*x2+C 0*w2) (A 1*y2+C 1*w2) (E*w2);rw[aa0]at f;rw[cm _ _ p,cm _ _ q,cm _ _ p1,cm _ _ q1,cm _ _ p2,cm _ _ q2,du _ W0,du _ W0,du _ W0,du _ W1,du _ W1,du _ W1,du _ W2,du _ W2,du _ W2]at e;have g:=e.symm.trans f;show D2 X0 Y0 W0 X1 Y1 W1 X2 Y2 W2*(E*E*E*(w0*(w1*(w2*1))))=A 0*A 1*E*D2 x0 y0 w0 x1 y1 w1 x2 y2 w2*(W0*(W1*(W2*1)));generalize D2 X0 Y0 W0 X1 Y1 W1 X2 Y2 W2=d at g⊢;generalize D2 x0 y0 w0 x1 y1 w1 x2 y2 w2=d' at g⊢;clear e f p q p1 q1 p2 q2 h0 h1 h2;grind
theorem ab9{A C:Nat->Int}{E:Int}{P Q R T P' Q' R' T':AA}(h0:kB 3 A C E P P')(h1:kB 3 A C E Q Q')(h2:kB 3 A C E R R')(h3:kB 3 A C E T T'):dU [P',Q',R',T']*(E*E*E*E*wU [P,Q,R,T])=A 0*A 1*A 2*E*dU [P,Q,R,T]*wU [P',Q',R',T']:=by
 obtain⟨x0,y0,z0,w0,X0,Y0,Z0,W0,rfl,rfl,p,q,r⟩:=h0.three;obtain⟨x1,y1,z1,w1,X1,Y1,Z1,W1,rfl,rfl,p1,q1,r1⟩:=h1.three;obtain⟨x2,y2,z2,w2,X2,Y2,Z2,W2,rfl,rfl,p2,q2,r2⟩:=h2.three;obtain⟨x3,y3,z3,w3,X3,Y3,Z3,W3,rfl,rfl,p3,q3,r3⟩:=h3.three;have e:=Rj (E*w0) (E*w1) (E*w2) (E*w3) X0 Y0 Z0 W0 X1 Y1 Z1 W1 X2 Y2 Z2 W2 X3 Y3 Z3 W3;have f:=Rj W0 W1 W2 W3 (A 0*x0+C 0*w0) (A 1*y0+C 1*w0) (A 2*z0+C 2*w0) (E*w0) (A 0*x1+C 0*w1) (A 1*y1+C 1*w1) (A 2*z1+C 2*w1) (E*w1) (A 0*x2+C 0*w2) (A 1*y2+C 1*w2) (A 2*z2+C 2*w2) (E*w2) (A 0*x3+C 0*w3) (A 1*y3+C 1*w3) (A 2*z3+C 2*w3) (E*w3);rw[abi]at f;rw[cm _ _ p,cm _ _ q,cm _ _ r,cm _ _ p1,cm _ _ q1,cm _ _ r1,cm _ _ p2,cm _ _ q2,cm _ _ r2,cm _ _ p3,cm _ _ q3,cm _ _ r3]at e;have cW:∀a W:Int,a*W=W*a:=du;rw[cW _ W0,cW _ W0,cW _ W0,cW _ W0,cW _ W1,cW _ W1,cW _ W1,cW _ W1,cW _ W2,cW _ W2,cW _ W2,cW _ W2,cW _ W3,cW _ W3,cW _ W3,cW _ W3]at e;have g:=e.symm.trans f;show D3 X0 Y0 Z0 W0 X1 Y1 Z1 W1 X2 Y2 Z2 W2 X3 Y3 Z3 W3*(E*E*E*E*(w0*(w1*(w2*(w3*1)))))=A 0*A 1*A 2*E*D3 x0 y0 z0 w0 x1 y1 z1 w1 x2 y2 z2 w2 x3 y3 z3 w3*(W0*(W1*(W2*(W3*1))));generalize D3 X0 Y0 Z0 W0 X1 Y1 Z1 W1 X2 Y2 Z2 W2 X3 Y3 Z3 W3=d at g⊢;generalize D3 x0 y0 z0 w0 x1 y1 z1 w1 x2 y2 z2 w2 x3 y3 z3 w3=d' at g⊢;clear e f p q r p1 q1 r1 p2 q2 r2 p3 q3 r3 h0 h1 h2 h3 cW;grind
def gX(way:Int)(f us:AA):AA:=mv way us.dropLast (us.getLastD 0) f.dropLast (f.getLastD 0)
theorem Np(way:Int)(xs:AA)(w:Int)(ys:AA)(v:Int):gX way (ys++[v]) (xs++[w])=mv way xs w ys v:=by
 unfold gX;simp
theorem kY{n k l:Nat}{way:Int}{us f:AA}(hway:way=1\/way=-1)(h:Gu n k us)(g:Gu n l f):Gu n (k+l+1) (gX way f us)/\kB n (λ_=>way*f.getLastD 0) (λj=>f.getD j 0) (f.getLastD 0) us (gX way f us):=by
 obtain⟨xs,w,rfl,P⟩:=h;obtain⟨ys,v,rfl,Q⟩:=g;rw[Np];obtain⟨zs,z,e,Z,hv⟩:=abJ hway P Q;rw[e];refine⟨⟨zs,z,rfl,Z⟩,xs,w,zs,z,rfl,rfl,P.len,Z.len,P.pos,Z.pos,λj hj=>?_⟩;have a:=hv _ _ _ _ (Vl.self n xs w) (Vl.self n ys v) P.pos Q.pos j hj;rw[show(ys++[v]).getLastD 0=v by simp];have eg:(ys++[v]).getD j 0=ys.getD j 0:=by
  have:j<ys.length:=by rw[Q.len];exact hj
  simp[ck,eh this]
 dsimp only at a⊢;rw[eg];generalize ys.getD j 0=y at a⊢;generalize xs.getD j 0=x at a⊢;generalize zs.getD j 0=t at a⊢;rw[du v w,a];grind
theorem Ka{n k l:Nat}{way:Int}{us f:AA}(S:aH)(hn:n=2\/n=3)(hway:way=1\/way=-1)(h:Gu n k us)(g:Gu n l f)(hk:k<=1000)(hl:l<=1000):lM [.pv (tv us),.pv (tv f),.pv (.int way)] S=.ok (.pv (tv (gX way f us))) S:=by
 obtain⟨xs,w,rfl,P⟩:=h;obtain⟨ys,v,rfl,Q⟩:=g;rw[Np];exact M6 S hn hway P Q hk hl
theorem Tw{a b w v:Int}(hw:0<w)(hv:0<v)(h:a*w=b*v\/a*w=-(b*v)):(a.natAbs:Int)*w=(b.natAbs:Int)*v:=by
 have e:(a*w).natAbs=(b*v).natAbs:=by
  rcases h with h |h
  .rw[h]
  .rw[h,zn]
 rw[nu,nu]at e;have e1:((w.natAbs:Nat):Int)=w:=by omega
 have e2:((v.natAbs:Nat):Int)=v:=by omega
 have e3:((a.natAbs*w.natAbs:Nat):Int)=((b.natAbs*v.natAbs:Nat):Int):=by rw[e]
 rw[yf,yf,e1,e2]at e3;exact e3
theorem ab6{v d d' w w':Int}{way:Int}(hv:0<v)(hway:way=1\/way=-1)(h:d'*(v*v*v*w)=way*v*(way*v)*v*d*w'):d'*w=d*w':=by
 have e:(d'*w)*(v*v*v)=(d*w')*(v*v*v):=by rcases hway with rfl |rfl<;>grind
 exact vV (aw (aw hv hv) hv) e
theorem ach{v d d' w w':Int}{way:Int}(hv:0<v)(hway:way=1\/way=-1)(h:d'*(v*v*v*v*w)=way*v*(way*v)*(way*v)*v*d*w'):d'*w=d*w'\/d'*w=-(d*w'):=by
 have p:=aw (aw (aw hv hv) hv) hv;rcases hway with rfl |rfl
 .left
  have e:(d'*w)*(v*v*v*v)=(d*w')*(v*v*v*v):=by grind
  exact vV p e
 .right
  have e:(d'*w)*(v*v*v*v)=(-(d*w'))*(v*v*v*v):=by grind
  exact vV p e
theorem vM{n k l:Nat}{way:Int}{f:AA}{uss:AC}(hway:way=1\/way=-1)(hg:∀us∈uss,Gu n k us)(g:Gu n l f):∀us∈uss.map (gX way f),Gu n (k+l+1) us:=λus hu=>by
 obtain⟨u,hm,rfl⟩:=ix.mp hu;exact(kY hway (hg u hm) g).1
theorem Gu.lastpos{n k:Nat}{f:AA}(h:Gu n k f):0<f.getLastD 0:=by
 obtain⟨xs,w,rfl,P⟩:=h;rw[show(xs++[w]).getLastD 0=w by simp];exact P.pos
theorem aad{n k l:Nat}(hn:n=2\/n=3){way:Int}{f:AA}{uss:AC}(hway:way=1\/way=-1)(hl:uss.length=n+1)(hg:∀us∈uss,Gu n k us)(g:Gu n l f):((dU (uss.map (gX way f))).natAbs:Int)*wU uss=((dU uss).natAbs:Int)*wU (uss.map (gX way f)):=by
 have hv:=g.lastpos;have p1:=kZ hg;have p2:=kZ (vM hway hg g);refine Tw p1 p2 ?_;rcases hn with rfl |rfl
 .match uss,hl,hg with
  |[a,b,c],_,hg=>
   have e:=acs (kY hway (hg a (by simp)) g).2 (kY hway (hg b (by simp)) g).2 (kY hway (hg c (by simp)) g).2;exact .inl (ab6 hv hway e)
 .match uss,hl,hg with
  |[a,b,c,d],_,hg=>
   have e:=ab9 (kY hway (hg a (by simp)) g).2 (kY hway (hg b (by simp)) g).2 (kY hway (hg c (by simp)) g).2 (kY hway (hg d (by simp)) g).2;exact ach hv hway e
theorem abp{n k l:Nat}(hn:n=2\/n=3){way:Int}{f:AA}{uss:AC}(hway:way=1\/way=-1)(hl:uss.length=n+1)(hg:∀us∈uss,Gu n k us)(g:Gu n l f)(h:dU uss≠0):dU (uss.map (gX way f))≠0:=λz=>by
 have e:=aad hn hway hl hg g;rw[z]at e;have p2:=kZ (vM hway hg g);have:((dU uss).natAbs:Int)*wU (uss.map (gX way f))≠0:=ia (by omega) (da p2);exact this (by rw[<-e];simp)
theorem pK{G:Gd}{S:aH}(hG:gY G S){me:ME}{tail:bM}{α:Type}(A B:α->PV):∀(L:List α)(x:AK),(∀v∈L,me (some (.pv (A v))::tail) S=.ok (.pv (B v)) S)->cD G (gN 0) me (L.map A) (x::tail) S=.ok (L.map B) S
 |[],x,_=>Yx hG
 |v::L,x,h=>by
  have e:=h v bi;have e':=pK hG A B L (some (.pv (A v))) λu hu=>h u (bh _ hu);rw[ay,G4 hG];simp[gN,e,e']
def pD(way:Int)(f:AA)(uss:AC):AC:=cC (uss.map (gX way f))
theorem aaB{n k l:Nat}(hn:n=2\/n=3){way:Int}{f:AA}{uss:AC}(hway:way=1\/way=-1)(h:Sx n k uss)(g:Gu n l f)(hk:k+l+1<=1000):Sx n (k+l+1) (pD way f uss):=
 wJ hn hk (by rw[ak];exact h.len) (vM hway h.gu g) (abp hn hway h.len h.gu g h.nz)
theorem Tq{k:Nat}{x0 y0 w0 x1 y1 w1 x2 y2 w2:Int}(a0:Bd k x0)(b0:Bd k y0)(c0:Bd k w0)(a1:Bd k x1)(b1:Bd k y1)(c1:Bd k w1)(a2:Bd k x2)(b2:Bd k y2)(c2:Bd k w2):Bd (3*k+3) (D2 x0 y0 w0 x1 y1 w1 x2 y2 w2):=by
 have m:∀{a b:Int},Bd k a->Bd k b->Bd (2*k) (a*b):=λh g=>(h.mul g).mono (by omega);have s:∀{a b c d:Int},Bd k a->Bd k b->Bd k c->Bd k d->Bd (2*k+1) (a*b-c*d):=λh g i j=>(m h g).sub (m i j);have t:∀{w e:Int},Bd k w->Bd (2*k+1) e->Bd (3*k+1) (w*e):=λh g=>(h.mul g).mono (by omega);unfold D2;exact((t c0 (s a1 b2 b1 a2)).sub (t c1 (s a0 b2 b0 a2))).add ((t c2 (s a0 b1 b0 a1)).mono (by omega))
theorem Gr{k:Nat}{x0 y0 z0 w0 x1 y1 z1 w1 x2 y2 z2 w2 x3 y3 z3 w3:Int}(a0:Bd k x0)(b0:Bd k y0)(d0:Bd k z0)(c0:Bd k w0)(a1:Bd k x1)(b1:Bd k y1)(d1:Bd k z1)(c1:Bd k w1)(a2:Bd k x2)(b2:Bd k y2)(d2:Bd k z2)(c2:Bd k w2)(a3:Bd k x3)(b3:Bd k y3)(d3:Bd k z3)(c3:Bd k w3):Bd (4*k+6) (D3 x0 y0 z0 w0 x1 y1 z1 w1 x2 y2 z2 w2 x3 y3 z3 w3):=by
 have m:∀{a b:Int},Bd k a->Bd k b->Bd (2*k) (a*b):=λh g=>(h.mul g).mono (by omega);have s:∀{a b c d:Int},Bd k a->Bd k b->Bd k c->Bd k d->Bd (2*k+1) (a*b-c*d):=λh g i j=>(m h g).sub (m i j);have t:∀{e w:Int},Bd (2*k+1) e->Bd k w->Bd (3*k+1) (e*w):=λh g=>(h.mul g).mono (by omega);have u:∀{e f g w:Int},Bd (3*k+1) e->Bd (3*k+1) f->Bd (3*k+1) g->Bd k w->Bd (4*k+3) (w*(e+f+g)):=λh i j l=>(l.mul ((h.add i).add (j.mono (by omega)))).mono (by omega);unfold D3;refine(((u (t (s b1 d2 d1 b2) a3) (t (s d1 a2 a1 d2) b3) (t (s a1 b2 b1 a2) d3) c0).sub (u (t (s b0 d2 d0 b2) a3) (t (s d0 a2 a0 d2) b3) (t (s a0 b2 b0 a2) d3) c1)).add ((u (t (s b0 d1 d0 b1) a3) (t (s d0 a1 a0 d1) b3) (t (s a0 b1 b0 a1) d3) c2).mono (by omega))).sub ((u (t (s b0 d1 d0 b1) a2) (t (s d0 a1 a0 d1) b2) (t (s a0 b1 b0 a1) d2) c3).mono (by omega))
theorem Gu.two'{k:Nat}{us:AA}(h:Gu 2 k us):∃x y w,us=[x,y,w]/\0<w/\Bd k x/\Bd k y/\Bd k w:=by
 obtain⟨xs,w,rfl,P⟩:=h
 match xs,P.len,P with
 |[x,y],_,P=>exact⟨x,y,w,rfl,P.pos,P.bx x (by simp),P.bx y (by simp),P.bw⟩
theorem Gu.three'{k:Nat}{us:AA}(h:Gu 3 k us):∃x y z w,us=[x,y,z,w]/\0<w/\Bd k x/\Bd k y/\Bd k z/\Bd k w:=by
 obtain⟨xs,w,rfl,P⟩:=h
 match xs,P.len,P with
 |[x,y,z],_,P=>exact⟨x,y,z,w,rfl,P.pos,P.bx x (by simp),P.bx y (by simp),P.bx z (by simp),P.bw⟩
def sh(n:Nat):Int:=if n=2 then 2 else 6
theorem qH(n:Nat):0<sh n:=by
 unfold sh;split<;>decide
theorem nF:Bd 3 (6:Int):=by unfold Bd;decide
theorem qV:Bd 3 (2:Int):=by unfold Bd;decide
theorem aag{n k:Nat}(hn:n=2\/n=3){uss:AC}(hl:uss.length=n+1)(hg:∀us∈uss,Gu n k us):Bd (4*k+6) (dU uss)/\Bd (4*k+6) (sh n*wU uss):=by
 have b1:Bd 1 (1:Int):=by unfold Bd;decide
 rcases hn with rfl |rfl
 .match uss,hl,hg with
  |[a,b,c],_,hg=>
   obtain⟨x0,y0,w0,rfl,q0,a0,b0,c0⟩:=(hg a (by simp)).two';obtain⟨x1,y1,w1,rfl,q1,a1,b1',c1⟩:=(hg b (by simp)).two';obtain⟨x2,y2,w2,rfl,q2,a2,b2,c2⟩:=(hg c (by simp)).two';refine⟨(Tq a0 b0 c0 a1 b1' c1 a2 b2 c2).mono (by omega),?_⟩;show Bd _ (2*(w0*(w1*(w2*1))));exact(qV.mul (c0.mul (c1.mul (c2.mul b1)))).mono (by omega)
 .match uss,hl,hg with
  |[a,b,c,d],_,hg=>
   obtain⟨x0,y0,z0,w0,rfl,q0,a0,b0,d0,c0⟩:=(hg a (by simp)).three';obtain⟨x1,y1,z1,w1,rfl,q1,a1,b1',d1,c1⟩:=(hg b (by simp)).three';obtain⟨x2,y2,z2,w2,rfl,q2,a2,b2,d2,c2⟩:=(hg c (by simp)).three';obtain⟨x3,y3,z3,w3,rfl,q3,a3,b3,d3,c3⟩:=(hg d (by simp)).three';refine⟨Gr a0 b0 d0 c0 a1 b1' d1 c1 a2 b2 d2 c2 a3 b3 d3 c3,?_⟩;show Bd _ (6*(w0*(w1*(w2*(w3*1)))));exact(nF.mul (c0.mul (c1.mul (c2.mul (c3.mul b1))))).mono (by omega)
def vf(n:Nat)(uss:AC):AA:=fr (dU uss) (sh n*wU uss)
theorem mk{k l:Nat}{a b:Int}(h:Bd k a)(g:Bd l b)(hk:k<=100000)(hl:l<=100000):bA (.int a) (.int b)=some (.int (a*b)):=mI (.inr ⟨h.mono (by omega),g.mono (by omega)⟩)
theorem Jx{n k:Nat}(hn:n=2\/n=3)(hk:k<=900){uss:AC}(S:aH)(h:Sx n k uss):pO [.pv (px uss)] S=.ok (.pv (tv (vf n uss))) S:=by
 have hl:=h.len;have hg:=h.gu;clear h;rcases hn with rfl |rfl
 .match uss,hl,hg with
  |[a,b,c],_,hg=>
   obtain⟨x0,y0,w0,rfl,q0,a0,b0,c0⟩:=(hg a (by simp)).two';obtain⟨x1,y1,w1,rfl,q1,a1,b1,c1⟩:=(hg b (by simp)).two';obtain⟨x2,y2,w2,rfl,q2,a2,b2,c2⟩:=(hg c (by simp)).two';have u:∀{x:Int},Bd k x->Bd 1000 x:=λh=>h.mono (by omega);have e:=En (A:=.tup [v2 x0 y0 w0,v2 x1 y1 w1,v2 x2 y2 w2]) S (.inr rfl) ⟨u a0,u b0,u c0,q0⟩ ⟨u a1,u b1,u c1,q1⟩ ⟨u a2,u b2,u c2,q2⟩;have bD:=Tq a0 b0 c0 a1 b1 c1 a2 b2 c2;have m1:=mk qV c0 (by omega) (by omega);have m2:=mk (qV.mul c0) c1 (by omega) (by omega);have m3:=mk ((qV.mul c0).mul c1) c0 (by omega) (by omega);have m4:=mk (((qV.mul c0).mul c1).mul c0) c2 (by omega) (by omega);have nz:(2:Int)*w0*w1*w0*w2≠0:=da (aw (aw (aw (aw (by decide) q0) q1) q0) q2);have f:=yK (w0*D2 x0 y0 w0 x1 y1 w1 x2 y2 w2) (2*w0*w1*w0*w2) S ((c0.mul bD).mono (by omega)) (((((qV.mul c0).mul c1).mul c0).mul c2).mono (by omega)) nz;have ev:vf 2 [[x0,y0,w0],[x1,y1,w1],[x2,y2,w2]]=fr (w0*D2 x0 y0 w0 x1 y1 w1 x2 y2 w2) (2*w0*w1*w0*w2):=by
    unfold vf;refine zQ (da (aw (qH 2) (kZ hg))) nz ?_;show D2 x0 y0 w0 x1 y1 w1 x2 y2 w2*_=w0*D2 x0 y0 w0 x1 y1 w1 x2 y2 w2*(2*(w0*(w1*(w2*1))));generalize D2 x0 y0 w0 x1 y1 w1 x2 y2 w2=d;grind
   rw[ev];generalize D2 x0 y0 w0 x1 y1 w1 x2 y2 w2=d at e f⊢;unfold pO aY uR;simp only[ay,cr,px,tv];simp! [aE,aX,aW,aJ,aO,aL,aN,aM,aG,aK,bS,bJ,dP,dJ,cV,fE,cK,mQ,eK,fO,gN,m1,m2,m3,m4,e,f]
 .match uss,hl,hg with
  |[a,b,c,d],_,hg=>
   obtain⟨x0,y0,z0,w0,rfl,q0,a0,b0,d0,c0⟩:=(hg a (by simp)).three';obtain⟨x1,y1,z1,w1,rfl,q1,a1,b1,d1,c1⟩:=(hg b (by simp)).three';obtain⟨x2,y2,z2,w2,rfl,q2,a2,b2,d2,c2⟩:=(hg c (by simp)).three';obtain⟨x3,y3,z3,w3,rfl,q3,a3,b3,d3,c3⟩:=(hg d (by simp)).three';have u:∀{x:Int},Bd k x->Bd 1000 x:=λh=>h.mono (by omega);have e:=Tn (A:=.tup [v3 x0 y0 z0 w0,v3 x1 y1 z1 w1,v3 x2 y2 z2 w2,v3 x3 y3 z3 w3]) S (.inr rfl) ⟨u a0,u b0,u d0,u c0,q0⟩ ⟨u a1,u b1,u d1,u c1,q1⟩ ⟨u a2,u b2,u d2,u c2,q2⟩ ⟨u a3,u b3,u d3,u c3,q3⟩;have bD:=Gr a0 b0 d0 c0 a1 b1 d1 c1 a2 b2 d2 c2 a3 b3 d3 c3;have m1:=mk nF c0 (by omega) (by omega);have m2:=mk (nF.mul c0) c1 (by omega) (by omega);have m3:=mk ((nF.mul c0).mul c1) c0 (by omega) (by omega);have m4:=mk (((nF.mul c0).mul c1).mul c0) c2 (by omega) (by omega);have m5:=mk ((((nF.mul c0).mul c1).mul c0).mul c2) c0 (by omega) (by omega);have m6:=mk (((((nF.mul c0).mul c1).mul c0).mul c2).mul c0) c3 (by omega) (by omega);have nz:(6:Int)*w0*w1*w0*w2*w0*w3≠0:=da (aw (aw (aw (aw (aw (aw (by decide) q0) q1) q0) q2) q0) q3);have f:=yK (w0*w0*D3 x0 y0 z0 w0 x1 y1 z1 w1 x2 y2 z2 w2 x3 y3 z3 w3) (6*w0*w1*w0*w2*w0*w3) S (((c0.mul c0).mul bD).mono (by omega)) (((((((nF.mul c0).mul c1).mul c0).mul c2).mul c0).mul c3).mono (by omega)) nz;have ev:vf 3 [[x0,y0,z0,w0],[x1,y1,z1,w1],[x2,y2,z2,w2],[x3,y3,z3,w3]]=fr (w0*w0*D3 x0 y0 z0 w0 x1 y1 z1 w1 x2 y2 z2 w2 x3 y3 z3 w3) (6*w0*w1*w0*w2*w0*w3):=by
    unfold vf;refine zQ (da (aw (qH 3) (kZ hg))) nz ?_;show D3 x0 y0 z0 w0 x1 y1 z1 w1 x2 y2 z2 w2 x3 y3 z3 w3*_=w0*w0*D3 x0 y0 z0 w0 x1 y1 z1 w1 x2 y2 z2 w2 x3 y3 z3 w3*(6*(w0*(w1*(w2*(w3*1)))));generalize D3 x0 y0 z0 w0 x1 y1 z1 w1 x2 y2 z2 w2 x3 y3 z3 w3=d;grind
   rw[ev];generalize D3 x0 y0 z0 w0 x1 y1 z1 w1 x2 y2 z2 w2 x3 y3 z3 w3=d at e f⊢;unfold pO aY uR;simp only[ay,cr,px,tv];simp! [aE,aX,aW,aJ,aO,aL,aN,aM,aG,aK,bS,bJ,dP,dJ,cV,fE,cK,mQ,eK,fO,gN,m1,m2,m3,m4,m5,m6,e,f]
theorem abK{n k:Nat}(hn:n=2\/n=3){uss:AC}(h:Sx n k uss):∃p q,vf n uss=[p,q]/\0<q/\Bd (4*k+6) p/\Bd (4*k+6) q:=by
 have nz:=da (aw (qH n) (kZ h.gu));obtain⟨p,q,e,hq,_⟩:=Ad (t:=dU uss) nz;obtain⟨b1,b2⟩:=aag hn h.len h.gu;obtain⟨b3,b4⟩:=Xq b1 b2 e;exact⟨p,q,e,hq,b3,b4⟩
theorem J2{n k l:Nat}(hn:n=2\/n=3){way:Int}{f:AA}(S:aH)(hway:way=1\/way=-1){uss:AC}(h:Sx n k uss)(g:Gu n l f)(hk:k+l+1<=1000):sG [.pv (px uss),.pv (.int way),.pv (tv f)] S=.ok (.pv (px (pD way f uss))) S:=by
 have e1:cD [] (gN 0) (aR lM [] (aB (aA 0) (aB (aA 1) (aB (aA 2) aD)))) (uss.map tv) [none,some (.pv (tv f)),some (.pv (.int way))] S=.ok (uss.map (tv∘gX way f)) S:=by
  refine pK (kG S) tv (tv∘gX way f) uss none λus hu=>?_;have e:=Ka (way:=way) S hn hway (h.gu us hu) g (by omega) (by omega);simp! [aE,aX,aW,aJ,aO,aL,aN,aM,aG,aK,e]
 have e2:=Bg (uss:=uss.map (gX way f)) (A:=.lst ((uss.map (gX way f)).map tv)) hn S (by rw[ak];exact h.len) (λus hu=>(vM hway h.gu g us hu).mono hk) (.inl rfl);rw[fg]at e2;unfold sG aY Va;simp! [aE,aX,aW,aJ,aO,aL,aN,aM,aG,aK,bE,cG,bJ,cK,e1,e2,pD]
abbrev li(xs:AA):AI:=xs.map .int
abbrev lv(xs:AA):PV:=.lst (li xs)
abbrev cM(xss:AC):PV:=.lst (xss.map lv)
structure Rw(n:Nat)(xss:AC):Prop where
 len:xss.length=n+1
 l:∀xs∈xss,xs.length=n
 b:∀xs∈xss,∀x∈xs,-8<x/\x<8
 nz:dU (xss.map (·++[1]))≠0
theorem zA{α β:Type}(f:α->β):∀(R:List α)(j:Nat),(R.map f).eraseIdx j=(R.eraseIdx j).map f
 |[],j=>by simp
 |a::R,0=>by simp
 |a::R,j+1=>by simp[zA f R j]
theorem ix3:∀v<3,aW 3 ((v:Nat):Int)=some v:=by decide
abbrev oY:MS:=(aI (kJ (aA 2) (kM (aA 1) (aB (aR dC [] (aB (aA 0) (aB (mR cL (aB (aA 1) aD)) aD))) aD)) (mC (.int 1)))
 (dM (sZ (aA 3) (aB (aA 2) aD))))
abbrev qY:MS:=(cO (bF (aC cS (aR dC [] (aB (aA 0) (aB (mC (.int 4)) aD))) (mC (.int 3)))) (oJ 3 2 5) eB)
theorem Mc(ns:AA)(hl:AI)(R C:AA)(L:AC)(x4 x5:AK)(hR0:0<R.length)(hR3:R.length<=3)(hv:∀v∈R,0<=v/\v<3)(hC:C.length=3)(hL:L.length<=9):
  ∃(j v:Nat)(ns':AA),j<R.length/\R[j]?=some (v:Int)/\oY [some (.ref 0),some (.ref 2),some (.ref 3),some (.ref 4),x4,x5] [.lst (li ns),.lst hl,.lst (li R),.lst (li C),.lol (L.map li)]
   = .nx [some (.ref 0),some (.ref 2),some (.ref 3),some (.ref 4),x4,x5] [.lst (li ns'),.lst hl,.lst (li (R.eraseIdx j)),.lst (li (C.set v 1)),.lol ((L++[C.set v 1]).map li)]:=by
 have hr:eJ [.lst (li ns),.lst hl,.lst (li R),.lst (li C),.lol (L.map li)] 0 ns:=rfl;obtain⟨t,n1,e1,t0,t1,_⟩:=iS (m:=(R.length:Int)) hr (by omega) (iL (by omega) (by omega));simp only[dg]at e1;obtain⟨j,rfl⟩:∃j:Nat,t=(j:Int):=⟨t.toNat,by omega⟩;have hj:j<R.length:=by omega
 obtain⟨v,ev⟩:∃v:Nat,R[j]=(v:Int):=⟨R[j].toNat,by have:=hv _ (fj hj);omega⟩;have hv3:v<3:=by have:=hv _ (fj hj);omega
 have hq:R[j]?=some (v:Int):=by rw[au hj,ev]
 have ep:=Jp (S:=[.lst (li n1),.lst hl,.lst (li R),.lst (li C),.lol (L.map li)]) (k:=2) (j:=j) (xs:=li R) (v:=.int v) rfl (by rw[bj,hq];rfl) (by omega);simp only[gi,dg]at ep;have er:(li R).eraseIdx j=li (R.eraseIdx j):=zA _ _ _;rw[er]at ep;have ei:aW (li C).length (v:Int)=some v:=by
  rw[ak,hC];exact ix3 v hv3
 have ec:(li C).set v (.int 1)=li (C.set v 1):=by simp[li,pq]
 refine⟨j,v,n1,hj,hq,?_⟩;have e1':dC [.ref 0,.pv (.int ((li R).length:Int))] [.lst (li ns),.lst hl,.lst (li R),.lst (li C),.lol (L.map li)]=.ok (.pv (.int (j:Int))) [.lst (li n1),.lst hl,.lst (li R),.lst (li C),.lol (L.map li)]:=by
  rw[ak];exact e1
 have el:(L++[C.set v 1]).map li=L.map li++[li (C.set v 1)]:=by simp
 rw[el];have lz:(L.map li).length<16777216:=by rw[ak];omega
 generalize li n1=NL1,li ns=NL,(j:Int)=J,li R=RL,li (R.eraseIdx j)=RE,li C=CL,li (C.set v 1)=CS,L.map li=LL at *;unfold oY;simp! [bP,aO,aL,aN,aM,aG,aK,kJ,mS,kM,sZ,tK,eL,e1',ep,ei,ec,lz]
def k6:AD:=[[[0,0,0],[1,0,0],[1,1,0],[1,1,1]],[[0,0,0],[1,0,0],[1,0,1],[1,1,1]],[[0,0,0],[0,1,0],[1,1,0],[1,1,1]],[[0,0,0],[0,1,0],[0,1,1],[1,1,1]],[[0,0,0],[0,0,1],[1,0,1],[1,1,1]],[[0,0,0],[0,0,1],[0,1,1],[1,1,1]]]
theorem acm{R:AA}{j v:Nat}{a b c:Int}(h:R=[a,b,c])(hj:j<R.length)(e:R[j]?=some (v:Int)):(j=0/\(v:Int)=a)\/(j=1/\(v:Int)=b)\/(j=2/\(v:Int)=c):=by
 subst h
 match j,hj,e with
 |0,_,e=>simp at e;exact .inl ⟨rfl,e.symm⟩
 |1,_,e=>simp at e;exact .inr (.inl ⟨rfl,e.symm⟩)
 |2,_,e=>simp at e;exact .inr (.inr ⟨rfl,e.symm⟩)
theorem abT{R:AA}{j v:Nat}{a b:Int}(h:R=[a,b])(hj:j<R.length)(e:R[j]?=some (v:Int)):(j=0/\(v:Int)=a)\/(j=1/\(v:Int)=b):=by
 subst h
 match j,hj,e with
 |0,_,e=>simp at e;exact .inl ⟨rfl,e.symm⟩
 |1,_,e=>simp at e;exact .inr ⟨rfl,e.symm⟩
theorem abZ{R:AA}{j v:Nat}{a:Int}(h:R=[a])(hj:j<R.length)(e:R[j]?=some (v:Int)):j=0/\(v:Int)=a:=by
 subst h
 match j,hj,e with
 |0,_,e=>simp at e;exact⟨rfl,e.symm⟩
theorem k3(ns:AA)(hl:AI)(R C:AA)(A:AC)(a b c:Nat)(x4 x5:AK)(hR:R=[(c:Int)])(hc:c<3)(hC:C.length=3)(hA:A.length<=9)(ks:AD)(hk:A++[C.set c 1]∈ks):
  ∃(xss:AC)(ns':AA)(C':AA),xss∈ks/\dN [] (gN 4) oY [.int 2] [some (.ref 0),some (.ref 2),some (.ref 3),some (.ref 4),x4,x5] [.lst (li ns),.lst hl,.lst (li R),.lst (li C),.lol (A.map li)]
   = .nx [some (.ref 0),some (.ref 2),some (.ref 3),some (.ref 4),some (.pv (.int 2)),x5] [.lst (li ns'),.lst hl,.lst [],.lst (li C'),.lol (xss.map li)]:=by
 obtain⟨j,v,n1,hj,e,h⟩:=Mc ns hl R C A (some (.pv (.int 2))) x5 (by rw[hR];simp) (by rw[hR];simp) (by rw[hR];simp;omega) hC hA;obtain⟨rfl,ev⟩:=abZ hR hj e;have:v=c:=by omega
 subst this;subst hR;refine⟨_,n1,C.set v 1,hk,?_⟩;rw[eK];simp only[gN,gi,dg];rw[h];exact fO
theorem k2(ns:AA)(hl:AI)(R C:AA)(A:AC)(b c:Nat)(x4 x5:AK)(hR:R=[(b:Int),(c:Int)])(hb:b<3)(hc:c<3)(hC:C.length=3)(hA:A.length<=8)(ks:AD)(h1:A++[C.set b 1]++[(C.set b 1).set c 1]∈ks)(h2:A++[C.set c 1]++[(C.set c 1).set b 1]∈ks):
  ∃(xss:AC)(ns':AA)(C':AA),xss∈ks/\dN [] (gN 4) oY [.int 1,.int 2] [some (.ref 0),some (.ref 2),some (.ref 3),some (.ref 4),x4,x5] [.lst (li ns),.lst hl,.lst (li R),.lst (li C),.lol (A.map li)]
   = .nx [some (.ref 0),some (.ref 2),some (.ref 3),some (.ref 4),some (.pv (.int 2)),x5] [.lst (li ns'),.lst hl,.lst [],.lst (li C'),.lol (xss.map li)]:=by
 obtain⟨j,v,n1,hj,e,h⟩:=Mc ns hl R C A (some (.pv (.int 1))) x5 (by rw[hR];simp) (by rw[hR];simp) (by rw[hR];simp;omega) hC (by omega);rw[eK];simp only[gN,gi,dg];rw[h];rcases abT hR hj e with⟨rfl,ev⟩|⟨rfl,ev⟩
 .have:v=b:=by omega
  subst this;subst hR;exact k3 n1 hl _ (C.set v 1) _ 0 0 c _ x5 rfl hc (by rw[dj];exact hC) (by simp;omega) ks h1
 .have:v=c:=by omega
  subst this;subst hR;exact k3 n1 hl _ (C.set v 1) _ 0 0 b _ x5 rfl hb (by rw[dj];exact hC) (by simp;omega) ks h2
theorem k1(ns:AA)(hl:AI)(x4 x5:AK):
  ∃(xss:AC)(ns':AA)(C':AA),xss∈k6/\dN [] (gN 4) oY [.int 0,.int 1,.int 2] [some (.ref 0),some (.ref 2),some (.ref 3),some (.ref 4),x4,x5] [.lst (li ns),.lst hl,.lst (li [0,1,2]),.lst (li [0,0,0]),.lol ([[0,0,0]].map li)]
   = .nx [some (.ref 0),some (.ref 2),some (.ref 3),some (.ref 4),some (.pv (.int 2)),x5] [.lst (li ns'),.lst hl,.lst [],.lst (li C'),.lol (xss.map li)]:=by
 obtain⟨j,v,n1,hj,e,h⟩:=Mc ns hl [0,1,2] [0,0,0] [[0,0,0]] (some (.pv (.int 0))) x5 (by decide) (by decide) (by decide) rfl (by decide);rw[eK];simp only[gN,gi,dg];rw[h];rcases acm rfl hj e with⟨rfl,ev⟩|⟨rfl,ev⟩|⟨rfl,ev⟩
 .have:v=0:=by omega
  subst this;exact k2 n1 hl _ [1,0,0] _ 1 2 _ x5 rfl (by decide) (by decide) rfl (by decide) k6 (by decide) (by decide)
 .have:v=1:=by omega
  subst this;exact k2 n1 hl _ [0,1,0] _ 0 2 _ x5 rfl (by decide) (by decide) rfl (by decide) k6 (by decide) (by decide)
 .have:v=2:=by omega
  subst this;exact k2 n1 hl _ [0,0,1] _ 0 1 _ x5 rfl (by decide) (by decide) rfl (by decide) k6 (by decide) (by decide)
def rE(m:Nat)(xs:AA):AA:=xs.set m (1-xs.getD m 0)
theorem Qy{m:Nat}{xs:AA}(h:xs.length=3)(hm:m<3):wB (m:Int) (li xs)=some (li (rE m xs)):=by
 match xs,h,m,hm with
 |[a,b,c],_,0,_=>rfl
 |[a,b,c],_,1,_=>rfl
 |[a,b,c],_,2,_=>rfl
theorem Ck{m:Nat}(hm:m<3):∀{L:AC},(∀xs∈L,xs.length=3)->qN (m:Int) (L.map li)=some ((L.map (rE m)).map li)
 |[],_=>rfl
 |xs::L,h=>by
  have e1:=Qy (h xs bi) hm;have e2:=Ck hm λys hy=>h ys (bh _ hy);simp only[ay];unfold qN;rw[e1,e2]
theorem abx{a b c d:AI}{L:List AI}:xU 4 [.lst a,.lst b,.lst c,.lst d,.lol L]:=λj o e n=>by
 match j,e with
 |0,e=>cases e;exact⟨_,rfl⟩
 |1,e=>cases e;exact⟨_,rfl⟩
 |2,e=>cases e;exact⟨_,rfl⟩
 |3,e=>cases e;exact⟨_,rfl⟩
 |4,e=>exact absurd rfl n
 |j+5,e=>simp at e
def kR(b:Bool)(m:Nat)(L:AC):AC:=if b then L.map (rE m)else L
theorem Xc(m:Nat)(hm:m<3)(ns:AA)(a b c:AI)(L:AC)(hL:∀xs∈L,xs.length=3)(x2 x4:AK):
  ∃(f:Bool)(ns':AA)(y2:AK),qY [some (.ref 0),some (.ref 2),x2,some (.ref 4),x4,some (.pv (.int (m:Int)))] [.lst (li ns),.lst a,.lst b,.lst c,.lol (L.map li)]
   = .nx [some (.ref 0),some (.ref 2),y2,some (.ref 4),x4,some (.pv (.int (m:Int)))] [.lst (li ns'),.lst a,.lst b,.lst c,.lol ((kR f m L).map li)]:=by
 have hr:eJ [.lst (li ns),.lst a,.lst b,.lst c,.lol (L.map li)] 0 ns:=rfl;obtain⟨t,n1,e1,t0,t1,_⟩:=iS (m:=4) hr (by decide) (iL (by decide) (by decide));simp only[dg]at e1;have e1:dC [.ref 0,.pv (.int 4)] [.lst (li ns),.lst a,.lst b,.lst c,.lol (L.map li)]=.ok (.pv (.int t)) [.lst (li n1),.lst a,.lst b,.lst c,.lol (L.map li)]:=e1;have ef:=Ck hm hL
 by_cases h:t=3
 .refine⟨true,n1,none,?_⟩
  have hf:oJ 3 2 5 [some (.ref 0),some (.ref 2),x2,some (.ref 4),x4,some (.pv (.int (m:Int)))] [.lst (li n1),.lst a,.lst b,.lst c,.lol (L.map li)]=.nx [some (.ref 0),some (.ref 2),none,some (.ref 4),x4,some (.pv (.int (m:Int)))] [.lst (li n1),.lst a,.lst b,.lst c,.lol ((L.map (rE m)).map li)]:=by
   unfold oJ;dsimp only[List.getElem?_cons_succ,yg];rw[if_pos ⟨abx,by simp⟩,ef];rfl
  unfold qY;have:kR true m L=L.map (rE m):=rfl;rw[this];simp! [aE,aX,aW,aJ,aO,aL,aN,aM,aG,aK,e1,h,hf]
 .refine⟨false,n1,x2,?_⟩
  unfold qY;have:kR false m L=L:=rfl;rw[this];simp! [aE,aX,aW,aJ,aO,aL,aN,aM,aG,aK,e1,h]
theorem Ma{b:Bool}{m:Nat}{L:AC}(h:∀xs∈L,xs.length=3):∀xs∈kR b m L,xs.length=3:=by
 unfold kR;split
 .intro xs hx
  obtain⟨ys,hy,rfl⟩:=ix.mp hx;unfold rE;rw[dj];exact h ys hy
 .exact h
def Ke(xss:AC):Bool:=decide (xss.length=4)&&xss.all (λxs=>decide (xs.length=3)&&xs.all λx=>decide (-8<x)&&decide (x<8))&&decide (dU (xss.map (·++[1]))≠0)
theorem Z9{xss:AC}(h:Ke xss=true):Rw 3 xss:=by
 unfold Ke at h;simp only[ja,decide_eq_true_eq,lm]at h;exact⟨h.1.1,λxs hx=>(h.1.2 xs hx).1,λxs hx x hh=>(h.1.2 xs hx).2 x hh,h.2⟩
theorem k48:∀xss∈k6,∀a b c:Bool,Ke (kR c 2 (kR b 1 (kR a 0 xss)))=true:=by decide+kernel
theorem aah:∀xss∈k6,∀xs∈xss,xs.length=3:=by decide
theorem Et{a b:AI}:Pl [.lst a,.lst b]:=λj o e=>by
 match j,e with
 |0,e=>cases e;exact⟨_,rfl⟩
 |1,e=>cases e;exact⟨_,rfl⟩
 |j+2,e=>simp at e
theorem O7(ns:AA)(hl:AI):∃(xss:AC)(ns':AA),pU [.ref 0] [.lst (li ns),.lst hl]=.ok (.pv (cM xss)) [.lst (li ns'),.lst hl]/\Rw 3 xss:=by
 obtain⟨L,n1,C,hm,e1⟩:=k1 ns hl none none;have l0:=aah L hm;obtain⟨fa,n2,y2,e2⟩:=Xc 0 (by decide) n1 hl [] (li C) L l0 (some (.ref 3)) (some (.pv (.int 2)));obtain⟨fb,n3,y3,e3⟩:=Xc 1 (by decide) n2 hl [] (li C) _ (Ma l0) y2 (some (.pv (.int 2)));obtain⟨fc,n4,y4,e4⟩:=Xc 2 (by decide) n3 hl [] (li C) _ (Ma (Ma l0)) y3 (some (.pv (.int 2)));have c0:((0:Nat):Int)=0:=rfl;have c1:((1:Nat):Int)=1:=rfl;have c2:((2:Nat):Int)=2:=rfl;rw[c0]at e2;rw[c1]at e3;rw[c2]at e4;have hw:=k48 L hm fa fb fc;generalize kR fc 2 (kR fb 1 (kR fa 0 L))=X at hw e4;refine⟨X,n4,?_,Z9 hw⟩;have ex:(X.map li).map PV.lst=X.map lv:=by rw[fg];rfl
 have e5:dN [] (gN 5) qY [.int 0,.int 1,.int 2] [some (.ref 0),some (.ref 2),some (.ref 3),some (.ref 4),some (.pv (.int 2)),none] [.lst (li n1),.lst hl,.lst [],.lst (li C),.lol (L.map li)]
   = .nx [some (.ref 0),some (.ref 2),y4,some (.ref 4),some (.pv (.int 2)),some (.pv (.int 2))] [.lst (li n4),.lst hl,.lst [],.lst (li C),.lol (X.map li)]:=by
  rw[eK];simp only[gN,gi,dg];rw[e2];dsimp only;rw[eK];simp only[gN,gi,dg];rw[e3];dsimp only;rw[eK];simp only[gN,gi,dg];rw[e4];exact fO
 unfold pU oU;rw[if_pos ⟨rfl,Et⟩];have eb:vC (gL 6 [.ref 0]) [.lst (li ns),.lst hl]=.rt (.ref 4) [.lst (li n4),.lst hl,.lst [],.lst (li C),.lol (X.map li)]:=by
  simp only[li,ay,cr]at e1;have hb:vC=(aI (aS 1 (eE (aB (mC (.int 0)) (aB (mC (.int 1)) (aB (mC (.int 2)) aD)))))
   (aI (aS 2 (eE (aB (mC (.int 0)) (aB (mC (.int 0)) (aB (mC (.int 0)) aD)))))
   (aI (aS 3 (tI (aB (aA 2) aD)))
   (aI (bS (bZ (aB (mC (.int 3)) aD)) (gN 4) oY)
   (aI (bS (bZ (aB (mC (.int 3)) aD)) (gN 5) qY)
   (bH (aA 3))))))):=rfl
  rw[hb];generalize oY=B1,qY=B2 at *;simp! [aE,aX,aW,aJ,aO,aL,aN,aM,aG,aK,eE,jJ,tI,Qd,bS,bZ,hrg,e1,e5]
 rw[eb];unfold vK;simp[Et,ex]
theorem Dw(L:AI)(p:PV)(h:L≠[]):∃v∈L,aE (.lst L) (.int (-1))=some v:=by
 have hl:0<L.length:=j4.mpr h;refine⟨L[L.length-1]'(by omega),fj _,?_⟩;show aX L (-1)=_;unfold aX;have e:aW L.length (-1)=some (L.length-1):=by
  unfold aW;rw[if_neg (by decide),if_pos (by omega)];congr 1;omega
 rw[e];exact au _
theorem tN{x:Int}(h:-1000<x)(g:x<1000):Bd 10 x:=by
 unfold Bd;have:x.natAbs<1000:=by omega
 omega
theorem jS(S:aH){n:Nat}(h:n<=9):iV [.pv (.int (n:Int))] S=.ok (cB 0 n,[]) S:=by
 have e:iV [.pv (.int (n:Int))] S=@ite _ ((n:Int)<=16777216/\-16777216<=(n:Int)) (rn _) (.ok (cB 0 (n:Int).toNat,[]) S) .fail:=rfl;rw[e,if_pos ⟨by omega,by omega⟩,la]
theorem My{S:aH}{k:Nat}{ns:AA}(h:eJ S k ns):S.set k (.lst (ns.map .int))=S:=mj λj=>by
 by_cases q:k=j
 .subst q
  rw[de h.lt];exact h.symm
 .rw[dz q]
theorem Ca{k:Nat}{W:Int}(W0:0<=W)(W1:W<=2):∀(is:AI)(S:aH)(ns:AA)(x:AK),eJ S k ns->∃(xs ns':AA),cD [] (gN 0) (aR dC [] (aB (aA 1) (aB (aC aG (aA 2) (mC (.int 1))) aD))) is [x,some (.ref k),some (.pv (.int W))] S=.ok (li xs) (S.set k (.lst (li ns')))/\xs.length=is.length/\∀n∈xs,0<=n/\n<=2
 |[],S,ns,x,h=>by
  refine⟨[],ns,?_,rfl,λ_ h=>absurd h fi⟩;rw[show S.set k (.lst (li ns))=S from My h];exact dZ
 |i::is,S,ns,x,h=>by
  obtain⟨t,n1,e1,t0,t1,_⟩:=iS (m:=W+1) h (by omega) (iL (by omega) (by omega));obtain⟨xs,n2,e2,l2,b2⟩:=Ca W0 W1 is _ n1 (some (.pv i)) (h.set n1);rw[mq]at e2;refine⟨t::xs,n2,?_,by simp[l2],λn hn=>?_⟩
  .rw[eA]
   generalize S.set k (.lst (n1.map .int))=S1 at e1 e2;simp! [gN,aE,aX,aW,aJ,aO,aL,aN,aM,aG,aK,e1,e2]
  .rcases bc.mp hn with rfl |hn
   .omega
   .exact b2 n hn
abbrev rB:MS:=(dM (dF (aA 3) (aB (bE ["_law_m"] [(0,"_law_row_here"),(2,"_law_wide")] (bZ (aB (aA 1) aD)) (gN 0) (aR dC [] (aB (aA 1) (aB (aC aG (aA 2) (mC (.int 1))) aD)))) aD)))
theorem Gk{n:Nat}(hn:n<=9){W:Int}(W0:0<=W)(W1:W<=2)(hl:AI):∀(is:AI)(L:AC)(ns:AA)(x4:AK),L.length+is.length<=99->∃(L':AC)(ns':AA)(y4:AK),
  dN [] (gN 4) rB is [some (.ref 0),some (.pv (.int (n:Int))),some (.pv (.int W)),some (.ref 2),x4] [.lst (li ns),.lst hl,.lst (L.map lv)]=.nx [some (.ref 0),some (.pv (.int (n:Int))),some (.pv (.int W)),some (.ref 2),y4] [.lst (li ns'),.lst hl,.lst ((L++L').map lv)]
   /\L'.length=is.length/\∀xs∈L',xs.length=n/\∀x∈xs,0<=x/\x<=2
 |[],L,ns,x4,h9=>⟨[],ns,x4,by rw[gv];exact fO,rfl,λ_ h=>absurd h fi⟩
 |i::is,L,ns,x4,h9=>by
  have hr:eJ [.lst (li ns),.lst hl,.lst (L.map lv)] 0 ns:=rfl;obtain⟨xs,n1,e1,l1,b1⟩:=Ca W0 W1 (cB 0 n) _ ns none hr;simp only[dg]at e1;have h9:L.length+(is.length+1)<=99:=h9;obtain⟨L',n2,y4,e2,l2,b2⟩:=Gk hn W0 W1 hl is (L++[xs]) n1 (some (.pv i)) (by rw[bf,jk];omega);refine⟨xs::L',n2,y4,?_,by simp[l2],λys hy=>?_⟩
  .rw[eK]
   have es:rB [some (.ref 0),some (.pv (.int (n:Int))),some (.pv (.int W)),some (.ref 2),some (.pv i)] [.lst (li ns),.lst hl,.lst (L.map lv)]=.nx [some (.ref 0),some (.pv (.int (n:Int))),some (.pv (.int W)),some (.ref 2),some (.pv i)] [.lst (li n1),.lst hl,.lst ((L++[xs]).map lv)]:=by
    have el:(L++[xs]).map lv=L.map lv++[lv xs]:=by simp
    rw[el];have lz:(L.map lv).length<16777216:=by rw[ak];omega
    have rg:=jS [.lst (li ns),.lst hl,.lst (L.map lv)] hn;unfold rB;generalize (n:Int)=N,cB 0 n=IP,li ns=NL,L.map lv=LL at *;simp! [aE,aX,aW,aJ,aO,aL,aN,aM,aG,aK,dF,eL,gM,bE,cG,bZ,rg,e1,lz]
   simp only[gN,gi,dg];rw[es];dsimp only;rw[e2,fz];rfl
  .rcases bc.mp hy with rfl |hy
   .exact⟨by rw[l1];unfold cB;simp,b1⟩
   .exact b2 ys hy
theorem V6{S:aH}{ti:Nat}{a b c d e f:Int}(h:S[ti]?=some (.lst [lv [a,b],lv [c,d],lv [e,f]]))(ha:0<=a/\a<=2)(hb:0<=b/\b<=2)(hc:0<=c/\c<=2)(hd:0<=d/\d<=2)(he:0<=e/\e<=2)(hf:0<=f/\f<=2):lJ [.ref ti] S=.ok (.pv (.int (D2 a b 1 c d 1 e f 1))) S:=by
 have id:(c-a)*(f-b)-(d-b)*(e-a)=D2 a b 1 c d 1 e f 1:=by
  unfold D2;grind
 have b1:Bd 10 (c-a):=tN (by omega) (by omega);have b2:Bd 10 (d-b):=tN (by omega) (by omega);have b3:Bd 10 (e-a):=tN (by omega) (by omega);have b4:Bd 10 (f-b):=tN (by omega) (by omega);have m1:=fM b1 b4;have m2:=fM b2 b3;generalize D2 a b 1 c d 1 e f 1=D at *;have s1:=qP (lv [a,b]) [lv [c,d],lv [e,f]];have et:kF [.pv (.lst [.lst [.int (c-a),.int (d-b)],.lst [.int (e-a),.int (f-b)]])] S=.ok (.pv (.int D)) S:=by
  unfold kF aY pS;simp! [aE,aX,aW,aJ,aO,aL,aN,aM,aG,aK,m1,m2,id]
 unfold lJ aY uF;simp only[lv,li,ay,cr]at h s1;simp! [aE,aX,aW,aJ,aO,aL,aN,aM,aG,aK,bE,bJ,cK,dP,cV,dJ,fE,h,s1,cG,eA,dZ,gN,gT,bX,dW,gU,lD,fR,et]
theorem aav{S:aH}{ti:Nat}{x0 y0 z0 x1 y1 z1 x2 y2 z2 x3 y3 z3:Int}(h:S[ti]?=some (.lst [lv [x0,y0,z0],lv [x1,y1,z1],lv [x2,y2,z2],lv [x3,y3,z3]]))(hb:∀x∈[x0,y0,z0,x1,y1,z1,x2,y2,z2,x3,y3,z3],0<=x/\x<=2):lJ [.ref ti] S=.ok (.pv (.int (D3 x0 y0 z0 1 x1 y1 z1 1 x2 y2 z2 1 x3 y3 z3 1))) S:=by
 have id:dt [(y1-y0)*(z2-z0)-(z1-z0)*(y2-y0),(z1-z0)*(x2-x0)-(x1-x0)*(z2-z0),(x1-x0)*(y2-y0)-(y1-y0)*(x2-x0)] [x3-x0,y3-y0,z3-z0]=D3 x0 y0 z0 1 x1 y1 z1 1 x2 y2 z2 1 x3 y3 z3 1:=by
  simp only[dt,D3,yc,yd,rl,ye];grind
 simp only[bc,fi,or_false,forall_eq_or_imp,forall_eq]at hb;have q:∀{a b:Int},(0<=a/\a<=2)->(0<=b/\b<=2)->Bd 10 (a-b):=λh g=>tN (by omega) (by omega);obtain⟨hx0,hy0,hz0,hx1,hy1,hz1,hx2,hy2,hz2,hx3,hy3,hz3⟩:=hb;have b1:=q hx1 hx0;have b2:=q hy1 hy0;have b3:=q hz1 hz0;have b4:=q hx2 hx0;have b5:=q hy2 hy0;have b6:=q hz2 hz0;have b7:=q hx3 hx0;have b8:=q hy3 hy0;have b9:=q hz3 hz0;clear hx0 hy0 hz0 hx1 hy1 hz1 hx2 hy2 hz2 hx3 hy3 hz3 q;generalize D3 x0 y0 z0 1 x1 y1 z1 1 x2 y2 z2 1 x3 y3 z3 1=D at *;have s1:=qP (lv [x0,y0,z0]) [lv [x1,y1,z1],lv [x2,y2,z2],lv [x3,y3,z3]];have et:kF [.pv (.lst [.lst [.int (x1-x0),.int (y1-y0),.int (z1-z0)],.lst [.int (x2-x0),.int (y2-y0),.int (z2-z0)],.lst [.int (x3-x0),.int (y3-y0),.int (z3-z0)]])] S=.ok (.pv (.int D)) S:=by
  generalize z3-z0=T2,y3-y0=T1,x3-x0=T0,z2-z0=V2,y2-y0=V1,x2-x0=V0,z1-z0=U2,y1-y0=U1,x1-x0=U0 at *;have u:∀{a:Int},Bd 10 a->Bd 10000 a:=λh=>h.mono (by decide);have u2:∀{a:Int},Bd 10 a->Bd 100000 a:=λh=>h.mono (by decide);have cc:∀{a b c d:Int},Bd 10 a->Bd 10 b->Bd 10 c->Bd 10 d->Bd 100000 (a*b-c*d):=λh1 h2 h3 h4=>(((h1.mul h2).mono (show 10+10<=20 by decide)).sub ((h3.mul h4).mono (show 10+10<=20 by decide))).mono (by decide);have en:=Sj (A:=.lst [.int U0,.int U1,.int U2]) (B:=.lst [.int V0,.int V1,.int V2]) S rfl rfl (u b1) (u b2) (u b3) (u b4) (u b5) (u b6);have ed:=Zm (A:=.lst [.int (U1*V2-U2*V1),.int (U2*V0-U0*V2),.int (U0*V1-U1*V0)]) (B:=.lst [.int T0,.int T1,.int T2]) (us:=[U1*V2-U2*V1,U2*V0-U0*V2,U0*V1-U1*V0]) (vs:=[T0,T1,T2]) S (.inl rfl) (.inl rfl) (by simp;exact⟨cc b2 b6 b3 b5,cc b3 b4 b1 b6,cc b1 b5 b2 b4⟩) (by simp;exact⟨u2 b7,u2 b8,u2 b9⟩);rw[id]at ed;generalize U0*V1-U1*V0=N2,U2*V0-U0*V2=N1,U1*V2-U2*V1=N0 at *;unfold kF aY pS;simp! [aE,aX,aW,aJ,aO,aL,aN,aM,aG,aK,en,ed]
 unfold lJ aY uF;simp only[lv,li,ay,cr]at h s1;simp! [aE,aX,aW,aJ,aO,aL,aN,aM,aG,aK,bE,bJ,cK,dP,cV,dJ,fE,h,s1,cG,eA,dZ,gN,gT,bX,dW,gU,lD,fR,et]
theorem Xr{n:Nat}(hn:n=2\/n=3){S:aH}{ti:Nat}{L:AC}(h:S[ti]?=some (.lst (L.map lv)))(hl:L.length=n+1)(hb:∀xs∈L,xs.length=n/\∀x∈xs,0<=x/\x<=2):lJ [.ref ti] S=.ok (.pv (.int (dU (L.map (·++[1]))))) S:=by
 rcases hn with rfl |rfl
 .match L,hl,hb,h with
  |[A,B,C],_,hb,h=>
   have ga:=hb A (by simp);have gb:=hb B (by simp);have gc:=hb C (by simp);clear hb
   match A,ga.1,B,gb.1,C,gc.1 with
   |[a,b],_,[c,d],_,[e,f],_=>exact V6 h (ga.2 a (by simp)) (ga.2 b (by simp)) (gb.2 c (by simp)) (gb.2 d (by simp)) (gc.2 e (by simp)) (gc.2 f (by simp))
 .match L,hl,hb,h with
  |[A,B,C,D],_,hb,h=>
   have ga:=hb A (by simp);have gb:=hb B (by simp);have gc:=hb C (by simp);have gd:=hb D (by simp);clear hb
   match A,ga.1,B,gb.1,C,gc.1,D,gd.1 with
   |[x0,y0,z0],_,[x1,y1,z1],_,[x2,y2,z2],_,[x3,y3,z3],_=>
    refine aav h λx hx=>?_;rw[show[x0,y0,z0,x1,y1,z1,x2,y2,z2,x3,y3,z3]=[x0,y0,z0]++([x1,y1,z1]++([x2,y2,z2]++[x3,y3,z3])) from rfl]at hx;rcases cq.mp hx with z |z
    .exact ga.2 x z
    .rcases cq.mp z with z |z
     .exact gb.2 x z
     .rcases cq.mp z with z |z
      .exact gc.2 x z
      .exact gd.2 x z
def nM(n:Nat):AC:=if n=2 then[[0,0],[1,0],[0,1]] else[[0,0,0],[1,0,0],[0,1,0],[0,0,1]]
theorem Nq{n:Nat}(hn:n=2\/n=3):Rw n (nM n):=by
 rcases hn with rfl |rfl
 .exact⟨rfl,by decide,by decide,by decide⟩
 .exact⟨rfl,by decide,by decide,by decide⟩
theorem rgm(S:aH){n:Nat}(h:n<=9):wO [.pv (.int (-1)),.pv (.int (n:Int))] S=.ok (cB (-1) (n+1),[]) S:=by
 have e:wO [.pv (.int (-1)),.pv (.int (n:Int))] S=@ite _ ((-4611686018427387904<=(-1:Int)/\(-1:Int)<4611686018427387904/\-4611686018427387904<=(n:Int)/\(n:Int)<4611686018427387904)/\(n:Int)- -1<=16777216) (rn _) (.ok (cB (-1) ((n:Int)- -1).toNat,[]) S) .fail:=rfl;rw[e,if_pos ⟨⟨by decide,by decide,by omega,by omega⟩,by omega⟩];rw[show((n:Int)- -1).toNat=n+1 by omega]
theorem yC{α:Type}{a:α}{S:aH}:jF (.ok a S)=.ok a S:=rfl
theorem xY{n:Nat}{v:PV}{S:aH}:frz n (.ok (.pv v) S)=.ok (.pv v) S:=rfl
theorem Pn{n:Nat}(hn:n=2\/n=3)(S:aH)(x0 x2 x3 x4:AK):bE ["_law_k"] [(1,"_law_dims")] (kU (aB (bQ cE (mC (.int 1))) (aB (aA 1) aD))) (gN 0) (bE ["_law_m"] [(0,"_law_k")] (bZ (aB (aA 1) aD)) (gN 0) (mR iA (aB (aC cS (aA 0) (aA 1)) aD))) [x0,some (.pv (.int (n:Int))),x2,x3,x4] S=.ok (.pv (cM (nM n))) S:=by
 have r1:=λS=>jS S (n:=n) (by omega);have r2:=λS=>rgm S (n:=n) (by omega);rcases hn with rfl |rfl
 .have c2:((2:Nat):Int)=2:=rfl
  rw[c2]at r1 r2⊢;have i1:cB 0 2=[.int 0,.int 1]:=rfl;have i2:cB (-1) (2+1)=[.int (-1),.int 0,.int 1]:=rfl;rw[i1]at r1;rw[i2]at r2;simp! [bE,cG,bZ,kU,aE,aX,aW,aJ,aO,aL,aN,aM,aG,aK,r1,r2,eA,dZ,gN,iA,nM]
 .have c2:((3:Nat):Int)=3:=rfl
  rw[c2]at r1 r2⊢;have i1:cB 0 3=[.int 0,.int 1,.int 2]:=rfl;have i2:cB (-1) (3+1)=[.int (-1),.int 0,.int 1,.int 2]:=rfl;rw[i1]at r1;rw[i2]at r2;simp! [bE,cG,bZ,kU,aE,aX,aW,aJ,aO,aL,aN,aM,aG,aK,r1,r2,eA,dZ,gN,iA,nM]
theorem Oo{n:Nat}(hn:n=2\/n=3){W:Int}(W0:0<=W)(W1:W<=2)(ns:AA)(hl:AI):∃(xss:AC)(ns':AA),frz 2 (jF (hV [.ref 0,.pv (.int (n:Int)),.pv (.int W)] [.lst (li ns),.lst hl]))=.ok (.pv (cM xss)) [.lst (li ns'),.lst hl]/\Rw n xss:=by
 obtain⟨L,n1,y4,e1,l1,b1⟩:=Gk (n:=n) (by omega) W0 W1 hl (cB 0 (n+1)) [] ns none (by unfold cB;simp;omega);have hi:(cB 0 (n+1)).length=n+1:=by unfold cB;simp
 rw[hi]at l1;simp only[dh,cr]at e1;have et:=Xr (ti:=2) (S:=[.lst (li n1),.lst hl,.lst (L.map lv)]) hn rfl l1 b1;have rg:=jS [.lst (li ns),.lst hl,.lst []] (n:=n+1) (by omega);have cn:((n+1:Nat):Int)=(n:Int)+1:=by omega
 rw[cn]at rg;have ed:=Pn hn [.lst (li n1),.lst hl,.lst (L.map lv)] (some (.ref 0)) (some (.pv (.int W))) (some (.ref 2)) y4;have hb:wA=(aI (aS 3 (eE aD))
  (aI (bS (bZ (aB (aC aG (aA 1) (mC (.int 1))) aD)) (gN 4) rB)
  (aI (cO (bF (aC fZ (aR lJ [] (aB (aA 3) aD)) (mC (.int 0)))) (bH (aA 3)) eB)
  (bH (bE ["_law_k"] [(1,"_law_dims")] (kU (aB (bQ cE (mC (.int 1))) (aB (aA 1) aD))) (gN 0) (bE ["_law_m"] [(0,"_law_k")] (bZ (aB (aA 1) aD)) (gN 0) (mR iA (aB (aC cS (aA 0) (aA 1)) aD)))))))):=rfl
 generalize (bE ["_law_k"] [(1,"_law_dims")] (kU (aB (bQ cE (mC (.int 1))) (aB (aA 1) aD))) (gN 0) (bE ["_law_m"] [(0,"_law_k")] (bZ (aB (aA 1) aD)) (gN 0) (mR iA (aB (aC cS (aA 0) (aA 1)) aD))))=CD at ed hb;generalize rB=RB at e1 hb
 by_cases hd:dU (L.map (·++[1]))=0
 .refine⟨nM n,n1,?_,Nq hn⟩
  rw[hd]at et;unfold hV aY;rw[hb];generalize (n:Int)=N,cB 0 (n+1)=IP,li n1=NL1,li ns=NL,L.map lv=LL,cM (nM n)=RV at *;simp! [aE,aX,aW,aJ,aO,aL,aN,aM,aG,aK,eE,jJ,bS,bZ,rg,e1,et,ed]
 .refine⟨L,n1,?_,⟨l1,λxs hx=>(b1 xs hx).1,λxs hx x hh=>by have:=(b1 xs hx).2 x hh;omega,hd⟩⟩
  unfold hV aY;rw[hb];have hv:cM L=.lst (L.map lv):=rfl;rw[hv];generalize (n:Int)=N,cB 0 (n+1)=IP,li n1=NL1,li ns=NL,L.map lv=LL,dU (L.map (·++[1]))=d at *;simp! [aE,aX,aW,aJ,aO,aL,aN,aM,aG,aK,eE,jJ,bS,bZ,rg,e1,et,hd]
abbrev hB:MS:=(aI (aS 5 (aR dC [] (aB (aA 0) (aB (mC (.int 6)) aD))))
 (cO (gJ (bF (aC cS (aA 5) (mC (.int 5)))) (bF (aC eI (mR cL (aB (aA 3) aD)) (mC (.int 0))))) (dM (dF (aA 3) (aB (aC aE (aA 3) (bQ cE (mC (.int 1)))) aD))) (cO (bF (aC cS (aA 1) (mC (.int 2)))) (dM (dF (aA 3) (aB (aR hV [] (aB (aA 0) (aB (mC (.int 2)) (aB (aC aG (mC (.int 1)) (mR iA (aB (aC cS (aA 5) (mC (.int 4))) aD))) aD)))) aD))) (cO (bF (aC eI (aA 5) (mC (.int 3)))) (dM (dF (aA 3) (aB (aR hV [] (aB (aA 0) (aB (mC (.int 3)) (aB (mC (.int 1)) aD)))) aD))) (dM (dF (aA 3) (aB (aR pU [] (aB (aA 0) aD)) aD)))))))
theorem abd{n:Nat}(hn:n=2\/n=3)(ns:AA)(hs:AD)(hw:∀xss∈hs,Rw n xss)(hl:hs.length<=99)(x2 x4 x5:AK):∃(xss:AC)(ns':AA)(y5:AK),hB [some (.ref 0),some (.pv (.int (n:Int))),x2,some (.ref 1),x4,x5] [.lst (li ns),.lst (hs.map cM)]=.nx [some (.ref 0),some (.pv (.int (n:Int))),x2,some (.ref 1),x4,y5] [.lst (li ns'),.lst ((hs++[xss]).map cM)]/\Rw n xss:=by
 have hr:eJ [.lst (li ns),.lst (hs.map cM)] 0 ns:=rfl;obtain⟨t,n1,e1,t0,t1,_⟩:=iS (m:=6) hr (by decide) (iL (by decide) (by decide));simp only[dg]at e1;have e1:dC [.ref 0,.pv (.int 6)] [.lst (li ns),.lst (hs.map cM)]=.ok (.pv (.int t)) [.lst (li n1),.lst (hs.map cM)]:=e1;have lz:(hs.map cM).length<16777216:=by rw[ak];omega
 have lz':hs.length<16777216:=by omega
 have el:∀xss,(hs++[xss]).map cM=hs.map cM++[cM xss]:=λxss=>by simp
 by_cases c1:t=5/\0<hs.length
 .obtain⟨v,hv,e2⟩:=Dw (hs.map cM) .non (by
   intro z;have:=congrArg pb z;simp at this;rw[this]at c1;simp at c1)
  obtain⟨xss,hx,rfl⟩:=ix.mp hv;refine⟨xss,n1,some (.pv (.int t)),?_,hw xss hx⟩;rw[el];obtain⟨c1,c2⟩:=c1;subst c1;have c3:hs.map cM≠[]:=λz=>by
   have:=congrArg pb z;simp at this;rw[this]at c2;simp at c2
  generalize hs.map cM=HL,cM xss=RV at *;unfold hB;simp[EC,bP,aO,aL,aN,aM,aG,aK,e1,dF,eL,gM,e2,lz,c3]
 .have c1':t=5->hs.map cM=[]:=λz=>by
   have:hs.length=0:=by
    by_cases y:0<hs.length
    .exact absurd ⟨z,y⟩ c1
    .omega
   rw[po.mp this];rfl
  have cA:∀(S:aH)(ρ:bM),ρ[5]?=some (some (.pv (.int t)))->ρ[3]?=some (some (.ref 1))->S[1]?=some (.lst (hs.map cM))->gJ (bF (aC cS (aA 5) (mC (.int 5)))) (bF (aC eI (mR cL (aB (aA 3) aD)) (mC (.int 0)))) ρ S=.ok false S:=λS ρ h5 h3 hS=>by
   cases z:t==5 with
   |false=>simp[EC,bP,aO,aL,aN,aM,aG,aK,h5,z]
   |true=>
    rw[c1' (by simpa using z)]at hS;simp[EC,bP,aO,aL,aN,aM,aG,aK,h5,h3,hS,z]
  generalize hA:gJ (bF (aC cS (aA 5) (mC (.int 5)))) (bF (aC eI (mR cL (aB (aA 3) aD)) (mC (.int 0))))=MA at cA;have hBe:hB=(aI (aS 5 (aR dC [] (aB (aA 0) (aB (mC (.int 6)) aD))))
   (cO MA (dM (dF (aA 3) (aB (aC aE (aA 3) (bQ cE (mC (.int 1)))) aD))) (cO (bF (aC cS (aA 1) (mC (.int 2)))) (dM (dF (aA 3) (aB (aR hV [] (aB (aA 0) (aB (mC (.int 2)) (aB (aC aG (mC (.int 1)) (mR iA (aB (aC cS (aA 5) (mC (.int 4))) aD))) aD)))) aD))) (cO (bF (aC eI (aA 5) (mC (.int 3)))) (dM (dF (aA 3) (aB (aR hV [] (aB (aA 0) (aB (mC (.int 3)) (aB (mC (.int 1)) aD)))) aD))) (dM (dF (aA 3) (aB (aR pU [] (aB (aA 0) aD)) aD))))))):=by rw[<-hA]
  rw[hBe];rcases hn with rfl |rfl
  .obtain⟨xss,n2,e2,hw2⟩:=Oo (n:=2) (.inl rfl) (W:=1+(if t=4 then 1 else 0)) (by split<;>decide) (by split<;>decide) n1 (hs.map cM)
   refine⟨xss,n2,some (.pv (.int t)),?_,hw2⟩;rw[el];have c2:((2:Nat):Int)=2:=rfl;rw[c2]at e2⊢;have cA':=cA [.lst (li n1),.lst (hs.map cM)] [some (.ref 0),some (.pv (.int 2)),x2,some (.ref 1),x4,some (.pv (.int t))] rfl rfl rfl;generalize hs.map cM=HL,cM xss=RV at*
   by_cases z:t=4
   .subst z
    simp[EC,bP,aO,aL,aN,aM,aG,aK,e1,cA',dF,eL,gM,iA,yC,xY,lz]at e2⊢;simp[e2,lz,bG.bind,bV.of]
   .rw[if_neg z]at e2
    have z':(t==4)=false:=by simpa using z
    simp[EC,bP,aO,aL,aN,aM,aG,aK,e1,cA',dF,eL,gM,iA,yC,xY,lz,z']at e2⊢;simp[e2,lz,bG.bind,bV.of]
  .have c3:((3:Nat):Int)=3:=rfl
   rw[c3];have cA':=cA [.lst (li n1),.lst (hs.map cM)] [some (.ref 0),some (.pv (.int 3)),x2,some (.ref 1),x4,some (.pv (.int t))] rfl rfl rfl
   by_cases z:3<t
   .obtain⟨xss,n2,e2,hw2⟩:=Oo (n:=3) (.inr rfl) (W:=1) (by decide) (by decide) n1 (hs.map cM)
    refine⟨xss,n2,some (.pv (.int t)),?_,hw2⟩;rw[el];rw[c3]at e2;generalize hs.map cM=HL,cM xss=RV at *;simp[EC,bP,aO,aL,aN,aM,aG,aK,e1,cA',dF,eL,gM,yC,xY,z];simp[e2,lz,bG.bind,bV.of]
   .obtain⟨xss,n2,e2,hw2⟩:=O7 n1 (hs.map cM)
    refine⟨xss,n2,some (.pv (.int t)),?_,hw2⟩;rw[el];generalize hs.map cM=HL,cM xss=RV at *;simp[EC,bP,aO,aL,aN,aM,aG,aK,e1,cA',dF,eL,gM,yC,xY,z,e2,lz]
theorem Kr{n:Nat}(hn:n=2\/n=3)(x2:AK):∀(is:AI)(hs:AD)(ns:AA)(x4 x5:AK),(∀xss∈hs,Rw n xss)->hs.length+is.length<=99->∃(hs':AD)(ns':AA)(y4 y5:AK),
  dN [] (gN 4) hB is [some (.ref 0),some (.pv (.int (n:Int))),x2,some (.ref 1),x4,x5] [.lst (li ns),.lst (hs.map cM)]=.nx [some (.ref 0),some (.pv (.int (n:Int))),x2,some (.ref 1),y4,y5] [.lst (li ns'),.lst (hs'.map cM)]/\hs'.length=hs.length+is.length/\∀xss∈hs',Rw n xss
 |[],hs,ns,x4,x5,hw,_=>⟨hs,ns,x4,x5,fO,rfl,hw⟩
 |i::is,hs,ns,x4,x5,hw,h9=>by
  have h9:hs.length+(is.length+1)<=99:=h9;obtain⟨xss,n1,y5,e1,r1⟩:=abd hn ns hs hw (by omega) x2 (some (.pv i)) x5;obtain⟨hs',n2,z4,z5,e2,l2,r2⟩:=Kr hn x2 is (hs++[xss]) n1 (some (.pv i)) y5 (λy hy=>by
   rcases cq.mp hy with z |z
   .exact hw y z
   .have:y=xss:=by simpa using z
    rw[this];exact r1) (by rw[bf,jk];omega)
  refine⟨hs',n2,z4,z5,?_,by rw[l2,bf,jk];show _=hs.length+(is.length+1);omega,r2⟩;rw[eK];simp only[gN,gi,dg];rw[e1];exact e2
theorem Ru{n M:Nat}(hn:n=2\/n=3)(hM:M<=8)(ns:AA):∃(hs:AD)(ns':AA),pF [.ref 0,.pv (.int (n:Int)),.pv (.int (M:Int))] [.lst (li ns)]=.ok (.ref 1) [.lst (li ns'),.lst (hs.map cM)]/\hs.length<=M/\∀xss∈hs,Rw n xss:=by
 have hr:eJ [.lst (li ns),.lst []] 0 ns:=rfl;obtain⟨t,n1,e1,t0,t1,_⟩:=iS (m:=(M:Int)+1) hr (by omega) (iL (by omega) (by omega));simp only[dg]at e1;have e1:dC [.ref 0,.pv (.int ((M:Int)+1))] [.lst (li ns),.lst []]=.ok (.pv (.int t)) [.lst (li n1),.lst []]:=e1;obtain⟨m,rfl⟩:∃m:Nat,t=(m:Int):=⟨t.toNat,by omega⟩;have rg:=jS [.lst (li n1),.lst []] (n:=m) (by omega);have hi:(cB 0 m).length=m:=by unfold cB;simp
 obtain⟨hs,n2,y4,y5,e2,l2,r2⟩:=Kr hn (some (.pv (.int (M:Int)))) (cB 0 m) [] n1 none none (λ_ h=>absurd h fi) (by rw[hi];show 0+m<=99;omega);rw[hi]at l2;refine⟨hs,n2,?_,by rw[l2];show 0+m<=M;omega,r2⟩;simp only[cr]at e2;have hb:yH=(aI (aS 3 (eE aD))
  (aI (bS (bZ (aB (aR dC [] (aB (aA 0) (aB (aC aG (aA 2) (mC (.int 1))) aD))) aD)) (gN 4) hB)
  (bH (aA 3)))):=rfl
 unfold pF aY;rw[hb];generalize (M:Int)=MM,(n:Int)=N,(m:Int)=mm,cB 0 m=IP,hs.map cM=HL,hB=HB at *;simp! [aE,aX,aW,aJ,aO,aL,aN,aM,aG,aK,eE,jJ,bS,bZ,e1,rg,e2]
theorem Jb{n k:Nat}{L:AA}{b:Int}(hb:0<b)(hl:L.length=n)(hL:∀x∈L,Bd k x)(bb:Bd k b):∃(zs:AA)(z:Int),low (L++[b])=zs++[z]/\Pq n k zs z/\∀j,j<n->zs.getD j 0*b=L.getD j 0*z:=by
 obtain⟨zs,z,g,e,hg,hz,g1,g2,hzl⟩:=Bc L hb;have hlow:=Yn L hb;have hbd:=Ic (k:=k) (ns:=L++[b]) λm hm=>by
  rcases cq.mp hm with y |y
  .exact hL m y
  .have:m=b:=by simpa using y
   rw[this];exact bb
 rw[e]at hlow hbd;refine⟨zs,z,e,⟨hzl.trans hl,hz,hlow,λx hx=>hbd x (ku _ hx),hbd z (nS zs z)⟩,λj hj=>?_⟩;have hj':j<zs.length:=by omega
 have e1:L.getD j 0=g*zs.getD j 0:=by
  rw[g1];simp[ck,hj']
 rw[e1,g2];grind
def eS:AA->Int->Int
 |[],f=>f
 |s::L,f=>if s<0 then-1 else eS L (if s=0 then 0 else f)
def iB(uss:AC)(p:AA):AA:=(ce uss.length).map λj=>sg (dU (uss.set j p))
def cN(uss:AC)(p:AA):Int:=eS (iB uss p) 1
theorem oW(d:Int):sg d=-1\/sg d=0\/sg d=1:=by
 unfold sg;split
 .exact .inr (.inr rfl)
 .split
  .exact .inl rfl
  .exact .inr (.inl rfl)
theorem Em:∀(L:AA)(f:Int),(f=-1\/f=0\/f=1)->(∀s∈L,s=-1\/s=0\/s=1)->(f=-1->L.foldl min f=-1)/\(f≠-1->L.foldl min f=eS L f)
 |[],f,_,_=>⟨λh=>h,λ_=>rfl⟩
 |s::L,f,hf,h=>by
  have hs:=h s (by simp);have ih:=λf hf=>Em L f hf λx hx=>h x (bh _ hx);refine⟨λz=>?_,λz=>?_⟩
  .show L.foldl min (min f s)=-1
   have e:min f s=-1:=by rcases hs with rfl |rfl |rfl<;>subst z<;>decide
   rw[e];exact(ih (-1) (.inl rfl)).1 rfl
  .show L.foldl min (min f s)=if s<0 then-1 else eS L (if s=0 then 0 else f)
   rcases hs with rfl |rfl |rfl
   .have e:min f (-1)=-1:=by rcases hf with rfl |rfl |rfl<;>decide
    rw[e,if_pos (by decide)];exact(ih (-1) (.inl rfl)).1 rfl
   .have e:min f 0=0:=by rcases hf with rfl |rfl |rfl<;>first |decide |exact absurd rfl z
    rw[e,if_neg (by decide),if_pos rfl];exact(ih 0 (.inr (.inl rfl))).2 (by decide)
   .have e:min f 1=f:=by rcases hf with rfl |rfl |rfl<;>decide
    rw[e,if_neg (by decide),if_neg (by decide)];exact(ih f hf).2 z
theorem Xa{L:AA}(hne:L≠[])(h:∀s∈L,s=-1\/s=0\/s=1):L.min?=some (eS L 1):=by
 match L,hne,h with
 |s::L,_,h=>
  have e:=(Em (s::L) 1 (.inr (.inr rfl)) h).2 (by decide);have hs:=h s (by simp);have e1:min 1 s=s:=by rcases hs with rfl |rfl |rfl<;>decide
  have e2:(s::L).foldl min 1=L.foldl min s:=by
   show L.foldl min (min 1 s)=_;rw[e1]
  rw[<-e,e2];rfl
theorem xD:∀(L:AA)(f:Int),(f=-1\/f=0\/f=1)->(eS L f=-1\/eS L f=0\/eS L f=1)
 |[],f,hf=>hf
 |s::L,f,hf=>by
  unfold eS;split
  .exact .inl rfl
  .split
   .exact xD L 0 (.inr (.inl rfl))
   .exact xD L f hf
theorem acn(uss:AC)(p:AA):cN uss p=-1\/cN uss p=0\/cN uss p=1:=xD _ 1 (.inr (.inr rfl))
theorem aak{n k:Nat}{uss:AC}{p:AA}(h:∀us∈uss,Gu n k us)(g:Gu n k p)(j:Nat):∀us∈uss.set j p,Gu n k us:=λus hu=>by
 rcases yh hu with z |z
 .exact h us z
 .rw[z];exact g
theorem aaM{n:Nat}(hn:n=2\/n=3){uss:AC}{p:AA}(hl:uss.length=n+1)(S:aH){j:Nat}(hj:j<n+1):pI [.pv (px uss),.pv (.int (j:Int)),.pv (tv p)] S=.ok (.pv (px (uss.set j p))) S:=by
 have go:∀(L M R:AI)(a b:AJ),iM (px uss) none (some (j:Int))=some (.tup L)->iM (px uss) (some ((j:Int)+1)) none=some (.tup R)->L.length+1+R.length<=100->px (uss.set j p)=.tup (L++[tv p]++R)->pI [.pv (px uss),.pv (.int (j:Int)),.pv (tv p)] S=.ok (.pv (px (uss.set j p))) S:=λL M R a b h1 h2 hz h3=>by
  have t1:qI (.tup L) (.tup [tv p])=some (.tup (L++[tv p])):=by
   show(if L.length+1<=16777216 then some (PV.tup (L++[tv p]))else none)=_;rw[if_pos (by omega)]
  have t2:qI (.tup (L++[tv p])) (.tup R)=some (.tup (L++[tv p]++R)):=by
   show(if(L++[tv p]).length+R.length<=16777216 then some (PV.tup (L++[tv p]++R))else none)=_;rw[if_pos (by rw[bf,jk];omega)]
  rw[h3];generalize (j:Int)=J,tv p=T,px uss=P,L++[tv p]=U,L++[tv p]++R=V at *;unfold pI aY yV;simp! [aE,aX,aW,aJ,aO,aL,aN,aM,aG,aK,dP,cV,dJ,fE,h1,h2,t1,t2]
 rcases hn with rfl |rfl
 .match uss,hl,j,hj with
  |[a,b,c],_,0,_=>exact go [] [] [tv b,tv c] none none rfl rfl (by simp) rfl
  |[a,b,c],_,1,_=>exact go [tv a] [] [tv c] none none rfl rfl (by simp) rfl
  |[a,b,c],_,2,_=>exact go [tv a,tv b] [] [] none none rfl rfl (by simp) rfl
 .match uss,hl,j,hj with
  |[a,b,c,d],_,0,_=>exact go [] [] [tv b,tv c,tv d] none none rfl rfl (by simp) rfl
  |[a,b,c,d],_,1,_=>exact go [tv a] [] [tv c,tv d] none none rfl rfl (by simp) rfl
  |[a,b,c,d],_,2,_=>exact go [tv a,tv b] [] [tv d] none none rfl rfl (by simp) rfl
  |[a,b,c,d],_,3,_=>exact go [tv a,tv b,tv c] [] [] none none rfl rfl (by simp) rfl
theorem Nz(m:Nat):cB 0 m=(ce m).map λj:Nat=>PV.int (j:Int):=by
 unfold cB;refine iw λj _=>?_;simp
theorem Zy{n k:Nat}(hn:n=2\/n=3)(hk:k<=1000){uss:AC}{p:AA}(h:Sx n k uss)(g:Gu n 1000 p)(S:aH):rG [.pv (px uss),.pv (tv p)] S=.ok (.pv (.int (cN uss p))) S:=by
 have hl:=h.len;have hg:∀us∈uss,Gu n 1000 us:=λus hu=>(h.gu us hu).mono hk;have ec:cD [] (gN 0) (aR mO [] (aB (aR pI [] (aB (aA 1) (aB (aA 0) (aB (aA 2) aD)))) aD)) ((ce (n+1)).map λj:Nat=>PV.int (j:Int)) [none,some (.pv (px uss)),some (.pv (tv p))] S=.ok ((ce (n+1)).map λj=>.int (sg (dU (uss.set j p)))) S:=by
  refine pK (kG S) (λj:Nat=>PV.int (j:Int)) (λj=>.int (sg (dU (uss.set j p)))) (ce (n+1)) none λj hj=>?_;have e1:=aaM hn (p:=p) hl S (j:=j) (by simpa using hj);have hl2:(uss.set j p).length=n+1:=by rw[dj];exact hl
  have hg2:=aak hg g j;have e2:=F1 (A:=px (uss.set j p)) (L:=(uss.set j p).map tv) hn S (by rw[ak];exact hl2) (At hg2) (.inr rfl);rw[Vo hn (aj 1000) hl2 hg2]at e2;generalize (j:Int)=J,tv p=T,px uss=P0,px (uss.set j p)=P1 at *;simp! [aE,aX,aW,aJ,aO,aL,aN,aM,aG,aK,e1,e2]
 have rg:=jS S (n:=n+1) (by omega);rw[Nz]at rg;have es:((ce (n+1)).map λj=>sg (dU (uss.set j p)))=iB uss p:=by
  unfold iB;rw[hl]
 have em:((ce (n+1)).map λj=>PV.int (sg (dU (uss.set j p))))=(iB uss p).map .int:=by
  rw[<-es,fg];rfl
 rw[em]at ec;have hm:tM [.lst ((iB uss p).map .int)]=some (.int (cN uss p)):=by
  show((iF ((iB uss p).map .int)).bind λbs=>bs.min?.map PV.int)=_;rw[uK];show(iB uss p).min?.map PV.int=_;rw[Xa (L:=iB uss p) (by
   unfold iB;rw[hl];intro z;have:=congrArg pb z;simp at this) (λs hs=>by
   unfold iB at hs;obtain⟨j,_,rfl⟩:=ix.mp hs;exact oW _)]
  rfl
 have ln:((uss.map tv).length:Int)=((n+1:Nat):Int):=by rw[ak,hl]
 have hp:px uss=.tup (uss.map tv):=rfl;rw[hp]at ec⊢;generalize ((n+1:Nat):Int)=N1,tv p=T,uss.map tv=UL,((ce (n+1)).map λj:Nat=>PV.int (j:Int))=RL,(iB uss p).map PV.int=SL at *;unfold rG aY yW;simp! [aE,aX,aW,aJ,aO,aL,aN,aM,aG,aK,ln,bE,cG,bZ,rg,ec,hm]
abbrev nK:MS:=(aI (aS 4 (aR rG [] (aB (aA 3) (aB (aA 1) aD))))
 (aI (cO (bF (aC cS (aA 4) (mC (.int 0)))) (qE "OnSide") eB)
 (cO (bF (aC eI (aA 4) (mC (.int 0)))) (qQ (λi j=>i+j) 2 (mC (.int 1))) eB)))
theorem Nm{n k:Nat}(hn:n=2\/n=3)(hk:k<=1000){p:AA}(g:Gu n 1000 p)(S:aH)(x0:AK):∀(hs:AD)(c:Int)(x3 x4:AK),(∀uss∈hs,Sx n k uss)->
  ((∃uss∈hs,cN uss p=0)/\dN [] (gN 3) nK (hs.map px) [x0,some (.pv (tv p)),some (.pv (.int c)),x3,x4] S=.exc "OnSide" S)\/
  ((∀uss∈hs,cN uss p≠0)/\∃y3 y4,dN [] (gN 3) nK (hs.map px) [x0,some (.pv (tv p)),some (.pv (.int c)),x3,x4] S=.nx [x0,some (.pv (tv p)),some (.pv (.int (c+((hs.map λuss=>cN uss p).count 1:Nat)))),y3,y4] S)
 |[],c,x3,x4,_=>.inr ⟨λ_ h=>absurd h fi,x3,x4,by simp[fO]⟩
 |uss::hs,c,x3,x4,h=>by
  have e:=Zy hn hk (h uss (by simp)) g S;have s3:=acn uss p
  by_cases c0:cN uss p=0
  .left
   refine⟨⟨uss,by simp,c0⟩,?_⟩;rw[c0]at e;have st:nK [x0,some (.pv (tv p)),some (.pv (.int c)),some (.pv (px uss)),x4] S=.exc "OnSide" S:=by
    generalize tv p=T,px uss=P at *;unfold nK;simp! [aE,aX,aW,aJ,aO,aL,aN,aM,aG,aK,e,qE]
   rw[ay,eK];simp only[gN,gi,dg];rw[st]
  .have st:nK [x0,some (.pv (tv p)),some (.pv (.int c)),some (.pv (px uss)),x4] S=.nx [x0,some (.pv (tv p)),some (.pv (.int (c+if cN uss p=1 then 1 else 0))),some (.pv (px uss)),some (.pv (.int (cN uss p)))] S:=by
    generalize cN uss p=s,tv p=T,px uss=P at *;unfold nK;rcases s3 with rfl |rfl |rfl
    .simp! [aE,aX,aW,aJ,aO,aL,aN,aM,aG,aK,e]
    .exact absurd rfl c0
    .simp! [aE,aX,aW,aJ,aO,aL,aN,aM,aG,aK,e,qQ,Ae]
   rcases Nm hn hk g S x0 hs (c+if cN uss p=1 then 1 else 0) (some (.pv (px uss))) (some (.pv (.int (cN uss p)))) (λy hy=>h y (bh _ hy))with⟨⟨y,hy,z⟩,ih⟩|⟨z,y3,y4,ih⟩
   .left
    refine⟨⟨y,bh _ hy,z⟩,?_⟩;rw[ay,eK];simp only[gN,gi,dg];rw[st];exact ih
   .right
    refine⟨λy hy=>?_,y3,y4,?_⟩
    .rcases bc.mp hy with rfl |hy
     .exact c0
     .exact z y hy
    .rw[ay,eK]
     simp only[gN,gi,dg];rw[st];have ec:c+(((uss::hs).map λuss=>cN uss p).count 1:Nat)=c+(if cN uss p=1 then 1 else 0)+((hs.map λuss=>cN uss p).count 1:Nat):=by
      rw[ay,sx]
      by_cases c1:cN uss p=1
      .rw[c1]
       simp;omega
      .have:(cN uss p==1)=false:=by simpa using c1
       rw[this,if_neg c1];simp
     rw[ec];exact ih
theorem count_eq{n k:Nat}(hn:n=2\/n=3)(hk:k<=1000){p:AA}(g:Gu n 1000 p)(S:aH){hs:AD}{A:PV}(hA:Sv A (hs.map px))(h:∀uss∈hs,Sx n k uss):
  ((∃uss∈hs,cN uss p=0)/\rH [.pv A,.pv (tv p)] S=.exc "OnSide" S)\/((∀uss∈hs,cN uss p≠0)/\rH [.pv A,.pv (tv p)] S=.ok (.pv (.int ((hs.map λuss=>cN uss p).count 1:Nat))) S):=by
 have L:=Nm hn hk g S (some (.pv A)) hs 0 none none h;have hb:rK=(aI (aS 2 (mC (.int 0)))
 (aI (bS (bJ (aA 0)) (gN 3) nK)
 (bH (aA 2)))):=rfl
 have tk:S.take S.length=S:=by simp
 have z0:(0:Int)+((hs.map λuss=>cN uss p).count 1:Nat)=((hs.map λuss=>cN uss p).count 1:Nat):=by omega
 rw[z0]at L;unfold rH aY;rw[hb];generalize tv p=T,(((hs.map λuss=>cN uss p).count 1:Nat):Int)=C,nK=CB1 at *;rcases L with⟨a,b⟩|⟨a,y3,y4,b⟩
 .left
  refine⟨a,?_⟩;rcases hA with rfl |rfl<;>(generalize hs.map px=HL at *;simp! [aE,aX,aW,aJ,aO,aL,aN,aM,aG,aK,bS,bJ,cK,b])
 .right
  refine⟨a,?_⟩;rcases hA with rfl |rfl<;>(generalize hs.map px=HL at *;simp! [aE,aX,aW,aJ,aO,aL,aN,aM,aG,aK,bS,bJ,cK,b])
theorem Vd{m c:Int}(hm:0<m)(bm:Bd 8000 m)(R:aH):∀(is:AI)(ns:AA)(x:AK),∃xs ns':AA,cD [] (gN 0) (aC eQ (aR dC [] (aB (aA 1) (aB (mC (.int m)) aD))) (mC (.int c))) is [x,some (.ref 0)] (.lst (li ns)::R)=.ok (li xs) (.lst (li ns')::R)/\xs.length=is.length/\∀y∈xs,-c<=y/\y<m-c
 |[],ns,x=>⟨[],ns,dZ,rfl,λ_ h=>absurd h fi⟩
 |i::is,ns,x=>by
  obtain⟨t,n1,e1,t0,t1,_⟩:=iS (m:=m) (show eJ (.lst (li ns)::R) 0 ns from rfl) hm bm;simp only[dg]at e1;have e1:dC [.ref 0,.pv (.int m)] (.lst (li ns)::R)=.ok (.pv (.int t)) (.lst (li n1)::R):=e1;obtain⟨xs,n2,e2,l2,b2⟩:=Vd (c:=c) hm bm R is n1 (some (.pv i));refine⟨(t-c)::xs,n2,?_,by rw[bo,bo,l2],λy hy=>?_⟩
  .rw[eA]
   simp! [gN,aE,aX,aW,aJ,aO,aL,aN,aM,aG,aK,e1,e2]
  .rcases bc.mp hy with rfl |hy
   .omega
   .exact b2 y hy
def bd(p:List Nat):List Nat:=if p.head?=some 45 then p.tail else p
def kE(k:AC):PV:=.tup (k.map λr:AA=>PV.tup (r.map PV.int))
theorem aaH{k l:AC}(h:kE k=kE l):k=l:=pR (n:=true) h
abbrev eG:Type:=AC×Int
def eU:List eG->AC->Int
 |[],_=>0
 |c::C,k=>(if c.1=k then c.2 else 0)+eU C k
theorem rO(C D:List eG)(k:AC):eU (C++D) k=eU C k+eU D k:=by
 induction C with
 |nil=>simp[eU]
 |cons c C ih=>simp[eU,ih];omega
def Os:AJ->Int
 |some (.int i)=>i
 |_=>0
def mY(kvs:List (PV×PV))(c:eG):List (PV×PV):=kA kvs (kE c.1) (.int (Os (jN kvs (kE c.1))+c.2))
def jB(kvs:List (PV×PV))(C:List eG):List (PV×PV):=C.foldl mY kvs
theorem Bb(kvs:List (PV×PV))(C D:List eG):jB (jB kvs C) D=jB kvs (C++D):=by
 unfold jB;rw[List.foldl_append]
theorem Tp{kvs:List (PV×PV)}(nd:(kvs.map (·.1)).Nodup){i j:Nat}{k v w:PV}(h1:kvs[i]?=some (k,v))(h2:kvs[j]?=some (k,w)):i=j:=by
 have e1:(kvs.map (·.1))[i]?=some k:=by rw[bj,h1];rfl
 have e2:(kvs.map (·.1))[j]?=some k:=by rw[bj,h2];rfl
 exact(List.getElem?_inj (ca.mp e1).1 nd).mp (e1.trans e2.symm)
theorem zP{kvs:List (PV×PV)}(nd:(kvs.map (·.1)).Nodup){k v:PV}(h:(k,v)∈kvs):jN kvs k=some v:=by
 obtain⟨i,hi⟩:=pz.mp h;obtain⟨j,hj⟩:=Hc (kvs:=kvs) (k:=k) (i:=i) (by rw[bj,hi];rfl);obtain⟨w,hw⟩:=mG hj;have e:=Tp nd hw hi;subst e;unfold jN;rw[hj];simp[hi]
theorem Gx{kvs:List (PV×PV)}{k:PV}(h:∀v,(k,v)∉kvs):jN kvs k=none:=by
 unfold jN;cases z:jC kvs k with
 |none=>rfl
 |some i=>
  obtain⟨v,hv⟩:=mG z;exact absurd (cv hv) (h v)
theorem Ny{kvs:List (PV×PV)}(nd:(kvs.map (·.1)).Nodup){k v:PV}(x:PV×PV):x∈kA kvs k v↔(x=(k,v))\/(x.1≠k/\x∈kvs):=by
 unfold kA;cases z:jC kvs k with
 |none=>
  dsimp only;rw[cq,List.mem_singleton];constructor
  .rintro(h |h)
   .refine .inr ⟨λe=>?_,h⟩
    obtain⟨i,hi⟩:=pz.mp h;exact zN z i (by rw[bj,hi,<-e];rfl)
   .exact .inl h
  .rintro(h |h)
   .exact .inr h
   .exact .inl h.2
 |some i=>
  dsimp only;obtain⟨w,hw⟩:=mG z;have hi:=(ca.mp hw).1;constructor
  .intro h
   obtain⟨j,hj⟩:=pz.mp h;rw[sj]at hj
   by_cases e:i=j
   .subst e
    rw[if_pos rfl,if_pos hi]at hj;exact .inl (cg hj).symm
   .rw[if_neg e]at hj
    refine .inr ⟨λek=>e (Tp nd hw (w:=x.2) (by rw[hj,<-ek])),cv hj⟩
  .rintro(h |⟨h1,h2⟩)
   .rw[h]
    exact cv (de hi)
   .obtain⟨j,hj⟩:=pz.mp h2
    have e:i≠j:=λe=>by
     subst e;rw[hw]at hj;cases hj;exact h1 rfl
    exact cv (i:=j) (by rw[dz e];exact hj)
theorem J1{kvs:List (PV×PV)}(nd:(kvs.map (·.1)).Nodup){k v:PV}:((kA kvs k v).map (·.1)).Nodup/\(kA kvs k v).length<=kvs.length+1:=by
 unfold kA;cases z:jC kvs k with
 |none=>
  dsimp only;refine⟨?_,by rw[bf];exact aj _⟩;rw[ib,pk];refine⟨nd,by simp,λa ha b hb=>?_⟩;have hb:b=k:=by simpa using hb
  rintro rfl
  subst hb;obtain⟨i,hi⟩:=pz.mp ha;exact zN z i hi
 |some i=>
  dsimp only;obtain⟨w,hw⟩:=mG z;refine⟨?_,by rw[dj];exact lb _⟩;have e:(kvs.set i (k,v)).map (·.1)=kvs.map (·.1):=by
   rw[pq];refine mj λt=>?_;rw[sj];split
   .rename_i ht
    subst ht;rw[if_pos (by rw[ak];exact(ca.mp hw).1),bj,hw];rfl
   .rfl
  rw[e];exact nd
structure Tb(kvs:List (PV×PV))(C:List eG):Prop where
 int:∀x∈kvs,∃k i,x=(kE k,.int i)
 nd:(kvs.map (·.1)).Nodup
 val:∀k,(kE k,PV.int (eU C k))∈kvs\/((∀v,(kE k,v)∉kvs)/\eU C k=0)
 len:kvs.length<=C.length
theorem Tb.nil:Tb [] []:=⟨λ_ h=>absurd h fi,sf,λk=>.inr ⟨λ_ h=>absurd h fi,rfl⟩,aj _⟩
theorem Tb.get{kvs:List (PV×PV)}{C:List eG}(h:Tb kvs C)(k:AC):jN kvs (kE k)=some (.int (eU C k))\/(jN kvs (kE k)=none/\eU C k=0):=by
 rcases h.val k with e |⟨e,z⟩
 .exact .inl (zP h.nd e)
 .exact .inr ⟨Gx e,z⟩
theorem Tb.vint{kvs:List (PV×PV)}{C:List eG}(h:Tb kvs C)(k:AC):Os (jN kvs (kE k))=eU C k:=by
 rcases h.get k with e |⟨e,z⟩
 .rw[e];rfl
 .rw[e,z];rfl
theorem Tb.add{kvs:List (PV×PV)}{C:List eG}(h:Tb kvs C)(c:eG):Tb (mY kvs c) (C++[c]):=by
 have hm:=λx=>Ny h.nd (k:=kE c.1) (v:=.int (eU C c.1+c.2)) x;have en:=J1 h.nd (k:=kE c.1) (v:=.int (eU C c.1+c.2));unfold mY;rw[h.vint];have sm:∀k,eU (C++[c]) k=eU C k+if c.1=k then c.2 else 0:=λk=>by rw[rO];simp[eU]
 refine⟨λx hx=>?_,en.1,λk=>?_,by rw[bf];exact dy en.2 (uz h.len)⟩
 .rcases(hm x).mp hx with e |⟨_,e⟩
  .exact⟨_,_,e⟩
  .exact h.int x e
 .rw[sm]
  by_cases e:c.1=k
  .subst e
   rw[if_pos rfl];exact .inl ((hm _).mpr (.inl rfl))
  .rw[if_neg e,Int.add_zero]
   have ne:kE k≠kE c.1:=λz=>e (aaH z).symm;rcases h.val k with g |⟨g,z⟩
   .exact .inl ((hm _).mpr (.inr ⟨ne,g⟩))
   .refine .inr ⟨λv hv=>?_,z⟩
    rcases(hm _).mp hv with q |⟨_,q⟩
    .exact ne (congrArg Prod.fst q)
    .exact g v q
theorem Tb.adds{kvs:List (PV×PV)}{C:List eG}(h:Tb kvs C):∀D:List eG,Tb (jB kvs D) (C++D)
 |[]=>by rw[gv];exact h
 |c::D=>by
  have:=(h.add c).adds D;rw[fz]at this;exact this
theorem Wh:∀{L:List (PV×PV)},(∀x∈L,∃k i,x=(kE k,.int i))->∃is,iF (L.map (·.2))=some is/\∀b:Int,b∈is↔∃k,(kE k,PV.int b)∈L
 |[],_=>⟨[],rfl,λb=>by simp⟩
 |x::L,h=>by
  obtain⟨is,e,g⟩:=Wh (L:=L) λy hy=>h y (bh _ hy);obtain⟨k,i,rfl⟩:=h x bi;refine⟨i::is,by rw[ay];show(match iF (L.map (·.2))with |some bs=>some (i::bs) |none=>none)=_;rw[e],λb=>?_⟩
  rw[bc,g];constructor
  .rintro(rfl |⟨k',h'⟩)
   .exact⟨k,bi⟩
   .exact⟨k',bh _ h'⟩
  .rintro⟨k',h'⟩
   rcases bc.mp h' with q |q
   .have q2:=congrArg Prod.snd q
    injection q2 with q2;exact .inl q2
   .exact .inr ⟨k',q⟩
theorem aap{kvs:List (PV×PV)}{C:List eG}(h:Tb kvs C):∃b,sQ (.ref 0) [.dic true kvs]=.ok (.pv (.bl b)) [.dic true kvs]/\(b=false↔∀k,eU C k=0):=by
 obtain⟨is,e,g⟩:=Wh h.int;refine⟨is.any (· !=0),by unfold sQ;simp[e],?_⟩;rw[List.any_eq_false];constructor
 .intro z k
  rcases h.val k with m |⟨_,m⟩
  .have:=z _ ((g _).mpr ⟨k,m⟩)
   simpa using this
  .exact m
 .intro z b hb
  obtain⟨k,hk⟩:=(g b).mp hb;rcases h.val k with m |⟨m,_⟩
  .have e1:=zP h.nd m
   have e2:=zP h.nd hk;rw[e1]at e2;have e3:eU C k=b:=by injection e2 with e2;injection e2
   rw[<-e3,z k];simp
  .exact absurd hk (m _)
theorem B9{kvs:List (PV×PV)}{C:List eG}(h:Tb kvs C)(k:AC):qO (.ref 0) (.pv (kE k)) [.dic true kvs] (some (.pv (.int 0)))=.ok (.pv (.int (eU C k))) [.dic true kvs]:=by
 unfold qO;simp only[yg];rw[if_pos ⟨k,rfl⟩];rcases h.get k with e |⟨e,z⟩
 .rw[e]
 .rw[e,z]
theorem Az{kvs:List (PV×PV)}{C:List eG}(h:Tb kvs C)(hl:C.length<=100000)(k:AC)(m:Int):sW (.ref 0) (.pv (kE k)) (.pv (.int (eU C k+m))) [.dic true kvs]=.ok (.pv .non) [.dic true (mY kvs (k,m))]:=by
 unfold sW mY;simp only[yg];have:=h.len;rw[if_pos ⟨⟨k,rfl⟩,by omega⟩,h.vint];rfl
def kQ:AA->Int
 |[]=>0
 |n::r=>if n=0 then kQ r else sg n
def cJ(ns:AA):AA:=(low ns).map (kQ ns*·)
theorem Ni(S:aH):∀(ns:AA)(x:AK),fF [] (gN 0) (bF (aC fZ (aA 0) (mC (.int 0)))) (aA 0) (ns.map .int) [x] S=.ok ((ns.filter (λx=>!decide (x=0))).map .int) S
 |[],x=>Qv
 |n::ns,x=>by
  have ih:=Ni S ns (some (.pv (.int n)));show fF [] _ _ _ (.int n::ns.map .int) _ S=_;rw[Vu]
  by_cases h:n=0
  .subst h
   simp! [gN,aE,aX,aW,aJ,aO,aL,aN,aM,aG,aK,ih]
  .have hb:(!n==0)=true:=by simpa using h
   simp! [gN,aE,aX,aW,aJ,aO,aL,aN,aM,aG,aK,hb,ih,h]
theorem Wi:∀{ns:AA},(∃n∈ns,n≠0)->∃m L,ns.filter (λx=>!decide (x=0))=m::L/\sg m=kQ ns
 |[],h=>by
  obtain⟨n,h,_⟩:=h;cases h
 |n::ns,h=>by
  by_cases e:n=0
  .subst e
   obtain⟨m,L,e1,e2⟩:=Wi (ns:=ns) (by
    obtain⟨k,hk,nk⟩:=h;rcases bc.mp hk with rfl |hk
    .exact absurd rfl nk
    .exact⟨k,hk,nk⟩)
   exact⟨m,L,by simpa using e1,by rw[e2];simp[kQ]⟩
  .exact⟨n,ns.filter (λx=>!decide (x=0)),by simp[e],by simp[kQ,e]⟩
theorem aa9{ns:AA}(h:∃n∈ns,n≠0):gl ns 0≠0:=λe=>by
 obtain⟨n,hn,z⟩:=h;obtain⟨m,hm⟩:=(jX ns 0).2 n hn;rw[e]at hm;exact z (by rw[hm,jw])
theorem Za(ns:AA)(S:aH)(hb:∀n∈ns,Bd 8000 n)(nz:∃n∈ns,n≠0):nO [.pv (.lst (ns.map .int))] S=.ok (.pv (tv (cJ ns))) S:=by
 obtain⟨m,L,e1,e2⟩:=Wi nz;have ef:=Ni S ns none;rw[e1]at ef;have er:=Yv ns S hb (aa9 nz);have ec:=Hj S m (low ns) none;rw[e2]at ec;have i0:aE (.lst ((m::L).map .int)) (.int 0)=some (.int m):=kW (j:=0) rfl;unfold nO aY yG cJ;generalize (m::L).map PV.int=ML at *;simp! [bP,aO,aL,aN,aM,aG,aK,vN,bJ,cK,cG,ef,i0,er,bE,ec]
theorem pQ{ns:AA}:cJ (ns.map (- ·))=cJ ns:=by
 unfold cJ;have hf:∀l:AA,kQ (l.map (- ·))=-kQ l:=λl=>by
  induction l with
  |nil=>rfl
  |cons n l ih=>
   rw[ay];unfold kQ
   by_cases h:n=0
   .subst h
    simpa using ih
   .rw[if_neg h,if_neg (by omega),vW]
 rw[Zz,hf,fg];refine iw λn _=>?_;simp[vm]
def cF:AA->AA->AA
 |[x0,y0,w0],[x1,y1,w1]=>[x1*w0-x0*w1,y1*w0-y0*w1]
 |[x0,y0,z0,w0],[x1,y1,z1,w1]=>[x1*w0-x0*w1,y1*w0-y0*w1,z1*w0-z0*w1]
 |_,_=>[]
def oZ:AA->AA->AA
 |[a,b,c],[d,e,f]=>[b*f-c*e,c*d-a*f,a*e-b*d]
 |_,_=>[]
def cT:AC->AA
 |[p,q]=>(match cF p q with
  |[a,b]=>[-b,a]
  |_=>[])
 |[p,q,r]=>oZ (cF p q) (cF p r)
 |_=>[]
def sd(pi s e:AA)(n:Int):List eG:=[([pi,cJ (cF s e),s],n),([pi,cJ (cF s e),e],-n)]
def iO:AC->List (AA×AA)
 |[p,q]=>[(p,q)]
 |[a,b,c]=>[(c,a),(a,b),(b,c)]
 |_=>[]
def cW(w:AC)(n:Int):List eG:=(iO w).flatMap λx=>sd (cJ (cT w)) x.1 x.2 n
structure Ar(s e:AA):Prop where
 eq:∀S,kS [.pv (tv s),.pv (tv e)] S=.ok (.pv (.lst ((cF s e).map .int))) S
 bd:∀n∈cF s e,Bd 8000 n
 nz:∃n∈cF s e,n≠0
theorem Ar.way{s e:AA}(h:Ar s e)(S:aH):nO [.pv (.lst ((cF s e).map .int))] S=.ok (.pv (tv (cJ (cF s e)))) S:=Za _ S h.bd h.nz
def Xe:MS:=(aI (aS 9 (mN eR (aB (aA 3) (aB (aA 6) (aB (aA 7) aD)))))
 (tG (aA 0) (aA 9) (aC aG (tE (aA 0) (aB (aA 9) (aB (mC (.int 0)) aD))) (aA 8))))
theorem Er{kvs:List (PV×PV)}{C:List eG}(h:Tb kvs C)(hl:C.length<=100000)(pi d p:AA)(m:Int)(w1 w2 s4 s5 x9:AK):
  Xe [some (.ref 0),w1,w2,some (.pv (tv pi)),s4,s5,some (.pv (tv d)),some (.pv (tv p)),some (.pv (.int m)),x9] [.dic true kvs]=.nx [some (.ref 0),w1,w2,some (.pv (tv pi)),s4,s5,some (.pv (tv d)),some (.pv (tv p)),some (.pv (.int m)),some (.pv (kE [pi,d,p]))] [.dic true (mY kvs ([pi,d,p],m))]:=by
 have ek:PV.tup [tv pi,tv d,tv p]=kE [pi,d,p]:=rfl;have e1:=B9 h [pi,d,p];have e2:=Az h hl [pi,d,p] m;unfold Xe;generalize tv p=T3,tv d=T2,tv pi=T1 at *;simp! [aE,aX,aW,aJ,aO,aL,aN,aM,aG,aK,tE,wG,tG,ek,e1,e2]
def xL:MS:=(aI (aS 6 (aR nO [] (aB (aR kS [] (aB (aA 4) (aB (aA 5) aD))) aD)))
 (bS (bJ (mN eR (aB (mN eR (aB (aA 4) (aB (aA 2) aD))) (aB (mN eR (aB (aA 5) (aB (bQ cE (aA 2)) aD))) aD)))) (gT 2 (bX (gN 7) (bX (gN 8) dW))) Xe))
theorem aa3{kvs:List (PV×PV)}{C:List eG}(h:Tb kvs C)(hl:C.length<=90000){s e:AA}(a:Ar s e)(pi:AA)(n:Int)(w1 x6 x7 x8 x9:AK):
  ∃y6 y7 y8 y9,xL [some (.ref 0),w1,some (.pv (.int n)),some (.pv (tv pi)),some (.pv (tv s)),some (.pv (tv e)),x6,x7,x8,x9] [.dic true kvs]=.nx [some (.ref 0),w1,some (.pv (.int n)),some (.pv (tv pi)),some (.pv (tv s)),some (.pv (tv e)),y6,y7,y8,y9] [.dic true (jB kvs (sd pi s e n))]:=by
 have h2:=h.add ([pi,cJ (cF s e),s],n);have e1:=Er h (by omega) pi (cJ (cF s e)) s n w1 (some (.pv (.int n))) (some (.pv (tv s))) (some (.pv (tv e))) x9;have e2:=Er h2 (by rw[bf];simp;omega) pi (cJ (cF s e)) e (-n) w1 (some (.pv (.int n))) (some (.pv (tv s))) (some (.pv (tv e))) (some (.pv (kE [pi,cJ (cF s e),s])));have ea:=a.eq [.dic true kvs];have ew:=a.way [.dic true kvs];have et:jB kvs (sd pi s e n)=mY (mY kvs ([pi,cJ (cF s e),s],n)) ([pi,cJ (cF s e),e],-n):=rfl;rw[et];refine⟨some (.pv (tv (cJ (cF s e)))),some (.pv (tv e)),some (.pv (.int (-n))),some (.pv (kE [pi,cJ (cF s e),e])),?_⟩;unfold xL;generalize (cF s e).map PV.int=T5,tv pi=T4,tv (cJ (cF s e))=T3,tv e=T2,tv s=T1 at *;simp! [aE,aX,aW,aJ,aO,aL,aN,aM,aG,aK,ea,ew,bS,bJ,cK,eK,fO,gT,bX,dW,gN,e1,e2]
structure Wl(w:AC):Prop where
 ln:w.length=2\/w.length=3
 ar:∀x∈iO w,Ar x.1 x.2
 pl:∀S,mF [.pv (.tup (w.map tv))] S=.ok (.pv (tv (cJ (cT w)))) S
theorem Oy{w:AC}(h:w.length=2\/w.length=3)(S:aH):sC [.pv (.tup (w.map tv))] S=.ok (.pv (.lst ((iO w).map λx=>.tup [tv x.1,tv x.2]))) S:=by
 have rg:iV [.pv (.int 3)] S=.ok ([.int 0,.int 1,.int 2],[]) S:=by
  unfold iV;dsimp only;rw[if_pos (by decide)];rfl
 unfold sC aY Ia;rcases h with h |h
 .match w,h with
  |[a,b],_=>
   generalize hA:tv a=TA;generalize hB:tv b=TB;simp! [aE,aX,aW,aJ,aO,aL,aN,aM,aG,aK,iO,hA,hB]
 .match w,h with
  |[a,b,c],_=>
   generalize hA:tv a=TA;generalize hB:tv b=TB;generalize hC:tv c=TC;simp! [aE,aX,aW,aJ,aO,aL,aN,aM,aG,aK,iO,hA,hB,hC,bE,cG,bZ,rg,eA,dZ,gN]
def Jt:MS:=(aI (aS 3 (aR mF [] (aB (aA 1) aD)))
 (bS (bJ (aR sC [] (aB (aA 1) aD))) (gT 2 (bX (gN 4) (bX (gN 5) dW))) xL))
theorem Jg{kvs0:List (PV×PV)}{C:List eG}(pi:AA)(n:Int)(w1:AK):∀(L:List (AA×AA))(kvs:List (PV×PV))(D:List eG),Tb kvs (C++D)->(C++D).length+2*L.length<=90000->(∀x∈L,Ar x.1 x.2)->∀x4 x5 x6 x7 x8 x9,
  ∃y4 y5 y6 y7 y8 y9,dN [] (gT 2 (bX (gN 4) (bX (gN 5) dW))) xL (L.map λx=>.tup [tv x.1,tv x.2]) [some (.ref 0),w1,some (.pv (.int n)),some (.pv (tv pi)),x4,x5,x6,x7,x8,x9] [.dic true kvs]=.nx [some (.ref 0),w1,some (.pv (.int n)),some (.pv (tv pi)),y4,y5,y6,y7,y8,y9] [.dic true (jB kvs (L.flatMap λx=>sd pi x.1 x.2 n))]
 |[],kvs,D,h,hl,ha,x4,x5,x6,x7,x8,x9=>⟨x4,x5,x6,x7,x8,x9,fO⟩
 |x::L,kvs,D,h,hl,ha,x4,x5,x6,x7,x8,x9=>by
  rw[bo]at hl;obtain⟨z6,z7,z8,z9,e⟩:=aa3 h (by omega) (ha x bi) pi n w1 x6 x7 x8 x9;have h2:=h.adds (sd pi x.1 x.2 n);rw[fz]at h2;obtain⟨y4,y5,y6,y7,y8,y9,e2⟩:=Jg (kvs0:=kvs0) pi n w1 L _ _ h2 (by
   rw[<-fz,bf];have:(sd pi x.1 x.2 n).length=2:=rfl;omega) (λy hy=>ha y (bh _ hy)) (some (.pv (tv x.1))) (some (.pv (tv x.2))) z6 z7 z8 z9
  refine⟨y4,y5,y6,y7,y8,y9,?_⟩;rw[Bb]at e2;rw[ay,eK,ki];simp[gT,bX,dW,gN,e,e2]
theorem Q4{kvs:List (PV×PV)}{C:List eG}(h:Tb kvs C)(hl:C.length<=80000){w:AC}(hw:Wl w)(n:Int):rL [.ref 0,.pv (.tup (w.map tv)),.pv (.int n)] [.dic true kvs]=.ok (.pv .non) [.dic true (jB kvs (cW w n))]:=by
 have l3:(iO w).length<=3:=by
  rcases hw.ln with e |e
  .match w,e with
   |[a,b],_=>simp[iO]
  .match w,e with
   |[a,b,c],_=>simp[iO]
 obtain⟨y4,y5,y6,y7,y8,y9,e⟩:=Jg (kvs0:=kvs) (C:=C) (cJ (cT w)) n (some (.pv (.tup (w.map tv)))) (iO w) kvs [] (by rw[gv];exact h) (by rw[gv];omega) hw.ar none none none none none none;have e1:=hw.pl [.dic true kvs];have e2:=Oy hw.ln [.dic true kvs];have hb:yU=Jt:=rfl;unfold rL aY cW;rw[hb];unfold Jt;generalize tv (cJ (cT w))=T3,(iO w).map (λx=>PV.tup [tv x.1,tv x.2])=T2,PV.tup (w.map tv)=T1 at *;simp! [aE,aX,aW,aJ,aO,aL,aN,aM,aG,aK,e1,e2,bS,bJ,cK,e]
def hJ:AC->AD
 |[a,b,c]=>[[a,b],[b,c],[c,a]]
 |[a,b,c,d]=>[[b,c,d],[a,d,c],[a,b,d],[a,c,b]]
 |_=>[]
def cP(uss:AC)(n:Int):List eG:=(hJ uss).flatMap λw=>cW w n
def cH(hs:AD)(n:Int):List eG:=hs.flatMap λuss=>cP uss n
structure Pc(uss:AC):Prop where
 ln:uss.length=3\/uss.length=4
 wl:∀w∈hJ uss,Wl w
theorem A6{uss:AC}(h:uss.length=3\/uss.length=4)(S:aH):sI [.pv (px uss)] S=.ok (.pv (.lst ((hJ uss).map λw=>.tup (w.map tv)))) S:=by
 unfold sI aY Pa;rcases h with h |h
 .match uss,h with
  |[a,b,c],_=>
   generalize hA:tv a=TA;generalize hB:tv b=TB;generalize hC:tv c=TC;simp! [aE,aX,aW,aJ,aO,aL,aN,aM,aG,aK,hJ,hA,hB,hC,bE,cG,bJ,cK,eA,dZ,gN]
 .match uss,h with
  |[a,b,c,d],_=>
   generalize hA:tv a=TA;generalize hB:tv b=TB;generalize hC:tv c=TC;generalize hD:tv d=TD;simp! [aE,aX,aW,aJ,aO,aL,aN,aM,aG,aK,hJ,hA,hB,hC,hD,bE,cG,bJ,cK,eA,dZ,gN]
theorem mL(w:AC)(n:Int):(cW w n).length<=6:=by
 unfold cW iO;split<;>simp[sd]
theorem Mp(uss:AC)(n:Int):(cP uss n).length<=24:=by
 unfold cP hJ;split
 .rename_i a b c
  have h1:=mL [a,b] n;have h2:=mL [b,c] n;have h3:=mL [c,a] n;simp only[ki,sy,bf,o6];omega
 .rename_i a b c d
  have h1:=mL [b,c,d] n;have h2:=mL [a,d,c] n;have h3:=mL [a,b,d] n;have h4:=mL [a,c,b] n;simp only[ki,sy,bf,o6];omega
 .simp
def xV:MS:=(dM (aR rL [] (aB (aA 2) (aB (aA 6) (aB (aA 4) aD)))))
def xS:MS:=(bS (bJ (aR sI [] (aB (aA 5) aD))) (gN 6) xV)
def Te:MS:=(bS (bJ (aA 3)) (gN 5) xS)
def Ot:MS:=(aI (aS 2 (sU true))
 (aI (bS (bJ (mN eR (aB (mN eR (aB (aA 0) (aB (mC (.int 1)) aD))) (aB (mN eR (aB (aA 1) (aB (bQ cE (mC (.int 1))) aD))) aD)))) (gT 2 (bX (gN 3) (bX (gN 4) dW))) Te)
 (bH (bQ mV (tD (aA 2))))))
theorem Rg{C:List eG}(n:Int)(a0 a1 a3 a5:AK):∀(L:AD)(kvs:List (PV×PV))(D:List eG),Tb kvs (C++D)->(C++D).length+6*L.length<=80000->(∀w∈L,Wl w)->∀x6,
  ∃y6,dN [] (gN 6) xV (L.map λw=>.tup (w.map tv)) [a0,a1,some (.ref 0),a3,some (.pv (.int n)),a5,x6] [.dic true kvs]=.nx [a0,a1,some (.ref 0),a3,some (.pv (.int n)),a5,y6] [.dic true (jB kvs (L.flatMap λw=>cW w n))]
 |[],kvs,D,h,hl,ha,x6=>⟨x6,fO⟩
 |w::L,kvs,D,h,hl,ha,x6=>by
  rw[bo]at hl;have e:=Q4 h (by omega) (ha w bi) n;have h2:=h.adds (cW w n);rw[fz]at h2;obtain⟨y6,e2⟩:=Rg n a0 a1 a3 a5 L _ _ h2 (by
   rw[<-fz,bf];have:=mL w n;omega) (λy hy=>ha y (bh _ hy)) (some (.pv (.tup (w.map tv))))
  refine⟨y6,?_⟩;rw[Bb]at e2;rw[ay,eK,ki];generalize PV.tup (w.map tv)=T1 at *;have e3:xV [a0,a1,some (.ref 0),a3,some (.pv (.int n)),a5,some (.pv T1)] [.dic true kvs]=.nx [a0,a1,some (.ref 0),a3,some (.pv (.int n)),a5,some (.pv T1)] [.dic true (jB kvs (cW w n))]:=by
   unfold xV;simp! [aE,aX,aW,aJ,aO,aL,aN,aM,aG,aK,e]
  simp[gN,e3,e2]
theorem Qk{C:List eG}(n:Int)(a0 a1 a3:AK):∀(L:AD)(kvs:List (PV×PV))(D:List eG),Tb kvs (C++D)->(C++D).length+24*L.length<=70000->(∀u∈L,Pc u)->∀x5 x6,
  ∃y5 y6,dN [] (gN 5) xS (L.map px) [a0,a1,some (.ref 0),a3,some (.pv (.int n)),x5,x6] [.dic true kvs]=.nx [a0,a1,some (.ref 0),a3,some (.pv (.int n)),y5,y6] [.dic true (jB kvs (cH L n))]
 |[],kvs,D,h,hl,ha,x5,x6=>⟨x5,x6,fO⟩
 |u::L,kvs,D,h,hl,ha,x5,x6=>by
  rw[bo]at hl;have hp:=ha u bi;have lw:(hJ u).length<=4:=by
   rcases hp.ln with e |e
   .match u,e with
    |[a,b,c],_=>simp[hJ]
   .match u,e with
    |[a,b,c,d],_=>simp[hJ]
  obtain⟨z6,e⟩:=Rg (C:=C) n a0 a1 a3 (some (.pv (px u))) (hJ u) kvs D h (by omega) hp.wl x6;have e1:=A6 hp.ln [.dic true kvs];have h2:=h.adds (cP u n);rw[fz]at h2;obtain⟨y5,y6,e2⟩:=Qk n a0 a1 a3 L _ _ h2 (by
   rw[<-fz,bf];have:=Mp u n;omega) (λy hy=>ha y (bh _ hy)) (some (.pv (px u))) z6
  refine⟨y5,y6,?_⟩;rw[Bb]at e2;have ec:cH (u::L) n=cP u n++cH L n:=ki;rw[ay,eK,ec];have e0:(hJ u).flatMap (λw=>cW w n)=cP u n:=rfl;rw[e0]at e;generalize px u=T1,(hJ u).map (λw=>PV.tup (w.map tv))=T2 at *;have e3:xS [a0,a1,some (.ref 0),a3,some (.pv (.int n)),some (.pv T1),x6] [.dic true kvs]=.nx [a0,a1,some (.ref 0),a3,some (.pv (.int n)),some (.pv T1),z6] [.dic true (jB kvs (cP u n))]:=by
   unfold xS;simp! [aE,aX,aW,aJ,aO,aL,aN,aM,aG,aK,bS,bJ,cK,e1,e]
  simp[gN,e3,e2]
theorem Wq{C:List eG}{n:Int}{a0 a1 x5 x6:AK}{A:PV}{hs:AD}{kvs:List (PV×PV)}(h:Tb kvs C)(hl:C.length+24*hs.length<=70000)(ha:∀u∈hs,Pc u)(hA:Sv A (hs.map px)):
  ∃y5 y6,Te [a0,a1,some (.ref 0),some (.pv A),some (.pv (.int n)),x5,x6] [.dic true kvs]=.nx [a0,a1,some (.ref 0),some (.pv A),some (.pv (.int n)),y5,y6] [.dic true (jB kvs (cH hs n))]:=by
 obtain⟨y5,y6,e⟩:=Qk (C:=C) n a0 a1 (some (.pv A)) hs kvs [] (by rw[gv];exact h) (by rw[gv];exact hl) ha x5 x6;refine⟨y5,y6,?_⟩;unfold Te;rcases hA with rfl |rfl<;>simp! [aE,aX,aW,aJ,aO,aL,aN,aM,aG,aK,bS,bJ,cK,e]
theorem M3{A B:PV}{hs gs:AD}(hA:Sv A (hs.map px))(hB:Sv B (gs.map px))(h:∀u∈hs,Pc u)(g:∀u∈gs,Pc u)(lh:hs.length<=1000)(lg:gs.length<=1000):
  ∃b,qB [.pv A,.pv B] []=.ok (.pv (.bl b)) []/\(b=true↔∀k,eU (cH hs 1++cH gs (-1)) k=0):=by
 have h0:=Tb.nil;have cl:∀(hs:AD)(n:Int),(cH hs n).length<=24*hs.length:=λhs n=>by
  induction hs with
  |nil=>simp[cH]
  |cons u hs ih=>
   have e:cH (u::hs) n=cP u n++cH hs n:=ki;rw[e,bf,bo];have:=Mp u n;omega
 obtain⟨y5,y6,e1⟩:=Wq (n:=1) (a0:=some (.pv A)) (a1:=some (.pv B)) (x5:=none) (x6:=none) h0 (by simp;omega) h hA;have h1:=h0.adds (cH hs 1);rw[dh]at h1;have l1:=cl hs 1;obtain⟨z5,z6,e2⟩:=Wq (n:=-1) (a0:=some (.pv A)) (a1:=some (.pv B)) (x5:=y5) (x6:=y6) h1 (by omega) g hB;have h2:=h1.adds (cH gs (-1));obtain⟨b,e3,eb⟩:=aap h2;refine⟨!b,?_,by rw[<-eb];cases b<;>simp⟩;have hb:Wb=Ot:=rfl;unfold qB aY;rw[hb];unfold Ot;simp! [aE,aX,aW,aJ,aO,aL,aN,aM,aG,aK,sU,bS,bJ,cK,eK,fO,gT,bX,dW,gN,e1,e2,tD,e3]
theorem ar2{x0 y0 w0 x1 y1 w1:Int}(p:P2 x0 y0 w0)(q:P2 x1 y1 w1)(nz:¬(x1*w0-x0*w1=0/\y1*w0-y0*w1=0)):Ar [x0,y0,w0] [x1,y1,w1]:=by
 refine⟨λS=>vP S p q,λn hn=>?_,?_⟩
 .have hn:n=x1*w0-x0*w1\/n=y1*w0-y0*w1:=by simpa[cF]using hn
  rcases hn with rfl |rfl
  .exact(sb p.bx p.bw q.bx q.bw).mono (by decide)
  .exact(sb p.by_ p.bw q.by_ q.bw).mono (by decide)
 .by_cases h:x1*w0-x0*w1=0
  .exact⟨_,by simp[cF],λh2=>nz ⟨h,h2⟩⟩
  .exact⟨_,by simp[cF],h⟩
theorem Ye{x0 y0 z0 w0 x1 y1 z1 w1:Int}(p:P3 x0 y0 z0 w0)(q:P3 x1 y1 z1 w1)(nz:¬(x1*w0-x0*w1=0/\y1*w0-y0*w1=0/\z1*w0-z0*w1=0)):Ar [x0,y0,z0,w0] [x1,y1,z1,w1]:=by
 refine⟨λS=>pX S p q,λn hn=>?_,?_⟩
 .have hn:n=x1*w0-x0*w1\/n=y1*w0-y0*w1\/n=z1*w0-z0*w1:=by simpa[cF]using hn
  rcases hn with rfl |rfl |rfl
  .exact(sb p.bx p.bw q.bx q.bw).mono (by decide)
  .exact(sb p.by_ p.bw q.by_ q.bw).mono (by decide)
  .exact(sb p.bz p.bw q.bz q.bw).mono (by decide)
 .by_cases h:x1*w0-x0*w1=0
  .by_cases h1:y1*w0-y0*w1=0
   .exact⟨_,by simp[cF],λh2=>nz ⟨h,h1,h2⟩⟩
   .exact⟨y1*w0-y0*w1,by simp[cF],h1⟩
  .exact⟨x1*w0-x0*w1,by simp[cF],h⟩
theorem Qe{x0 y0 w0 x1 y1 w1:Int}(p:P2 x0 y0 w0)(q:P2 x1 y1 w1)(nz:¬(x1*w0-x0*w1=0/\y1*w0-y0*w1=0)):Wl [[x0,y0,w0],[x1,y1,w1]]:=by
 have a:=ar2 p q nz;refine⟨.inl rfl,λx hx=>?_,λS=>?_⟩
 .have hx:x=([x0,y0,w0],[x1,y1,w1]):=by simpa[iO]using hx
  subst hx;exact a
 .have e1:=vP S p q
  have e2:=Xn (x1*w0-x0*w1) (y1*w0-y0*w1) S;have e3:=Za (cT [[x0,y0,w0],[x1,y1,w1]]) S (λn hn=>by
   have hn:n=-(y1*w0-y0*w1)\/n=x1*w0-x0*w1:=by simpa[cT,cF]using hn
   rcases hn with rfl |rfl
   .exact((sb p.by_ p.bw q.by_ q.bw).neg).mono (by decide)
   .exact(sb p.bx p.bw q.bx q.bw).mono (by decide)) (by
   by_cases h:x1*w0-x0*w1=0
   .exact⟨-(y1*w0-y0*w1),by simp[cT,cF],λh2=>nz ⟨h,by omega⟩⟩
   .exact⟨x1*w0-x0*w1,by simp[cT,cF],h⟩)
  have e4:(cT [[x0,y0,w0],[x1,y1,w1]]).map PV.int=[.int (-(y1*w0-y0*w1)),.int (x1*w0-x0*w1)]:=rfl;rw[e4]at e3;have i0:aE (.tup [v2 x0 y0 w0,v2 x1 y1 w1]) (.int 0)=some (v2 x0 y0 w0):=kW (j:=0) rfl;have sl:=mQ (v2 x0 y0 w0) [v2 x1 y1 w1];show mF [.pv (.tup [v2 x0 y0 w0,v2 x1 y1 w1])] S=_;generalize v2 x1 y1 w1=B,v2 x0 y0 w0=A,y1*w0-y0*w1=v,x1*w0-x0*w1=u,tv (cJ (cT [[x0,y0,w0],[x1,y1,w1]]))=R at *;unfold mF aY uG;simp! [bP,aO,aL,aN,aM,aG,aK,bE,cG,bJ,dP,cV,dJ,fE,sl,cK,eA,dZ,gN,i0,e1,e2,e3]
theorem yA{x0 y0 z0 w0 x1 y1 z1 w1 x2 y2 z2 w2:Int}(p:P3 x0 y0 z0 w0)(q:P3 x1 y1 z1 w1)(r:P3 x2 y2 z2 w2)(nz:∃n∈cT [[x0,y0,z0,w0],[x1,y1,z1,w1],[x2,y2,z2,w2]],n≠0):Wl [[x0,y0,z0,w0],[x1,y1,z1,w1],[x2,y2,z2,w2]]:=by
 have hn:cT [[x0,y0,z0,w0],[x1,y1,z1,w1],[x2,y2,z2,w2]]=[(y1*w0-y0*w1)*(z2*w0-z0*w2)-(z1*w0-z0*w1)*(y2*w0-y0*w2),(z1*w0-z0*w1)*(x2*w0-x0*w2)-(x1*w0-x0*w1)*(z2*w0-z0*w2),(x1*w0-x0*w1)*(y2*w0-y0*w2)-(y1*w0-y0*w1)*(x2*w0-x0*w2)]:=rfl;rw[hn]at nz;have q0:=p.pos;have q1:=q.pos;have q2:=r.pos;have n01:¬(x1*w0-x0*w1=0/\y1*w0-y0*w1=0/\z1*w0-z0*w1=0):=λ⟨h1,h2,h3⟩=>by
  obtain⟨n,hm,h⟩:=nz;rw[h1,h2,h3]at hm;simp at hm;exact h hm
 have n20:¬(x0*w2-x2*w0=0/\y0*w2-y2*w0=0/\z0*w2-z2*w0=0):=λ⟨h1,h2,h3⟩=>by
  obtain⟨n,hm,h⟩:=nz;rw[show x2*w0-x0*w2=0 by omega,show y2*w0-y0*w2=0 by omega,show z2*w0-z0*w2=0 by omega]at hm;simp at hm;exact h hm
 have n12:¬(x2*w1-x1*w2=0/\y2*w1-y1*w2=0/\z2*w1-z1*w2=0):=λ⟨h1,h2,h3⟩=>by
  obtain⟨n,hm,h⟩:=nz;have g:w1*n=0:=by
   simp only[bc,fi,or_false]at hm;rcases hm with rfl |rfl |rfl<;>grind
  rcases td.mp g with g |g
  .omega
  .exact h g
 refine⟨.inr rfl,λx hx=>?_,λS=>?_⟩
 .have hx:x=([x2,y2,z2,w2],[x0,y0,z0,w0])\/x=([x0,y0,z0,w0],[x1,y1,z1,w1])\/x=([x1,y1,z1,w1],[x2,y2,z2,w2]):=by simpa[iO]using hx
  rcases hx with rfl |rfl |rfl
  .exact Ye r p n20
  .exact Ye p q n01
  .exact Ye q r n12
 .have e1:=pX S p q
  have e2:=pX S p r;have b1:=sb p.bx p.bw q.bx q.bw;have b2:=sb p.by_ p.bw q.by_ q.bw;have b3:=sb p.bz p.bw q.bz q.bw;have b4:=sb p.bx p.bw r.bx r.bw;have b5:=sb p.by_ p.bw r.by_ r.bw;have b6:=sb p.bz p.bw r.bz r.bw;have m:(2001:Nat)<=10000:=by decide
  have e3:=Bl S (b1.mono m) (b2.mono m) (b3.mono m) (b4.mono m) (b5.mono m) (b6.mono m);have e4:=Za (cT [[x0,y0,z0,w0],[x1,y1,z1,w1],[x2,y2,z2,w2]]) S (λn hm=>by
   rw[hn]at hm;simp only[bc,fi,or_false]at hm;rcases hm with rfl |rfl |rfl
   .exact(cb b2 b6 b3 b5).mono (by decide)
   .exact(cb b3 b4 b1 b6).mono (by decide)
   .exact(cb b1 b5 b2 b4).mono (by decide)) (by rw[hn];exact nz)
  generalize tv (cJ (cT [[x0,y0,z0,w0],[x1,y1,z1,w1],[x2,y2,z2,w2]]))=R at *;rw[hn]at e4;have i0:aE (.tup [v3 x0 y0 z0 w0,v3 x1 y1 z1 w1,v3 x2 y2 z2 w2]) (.int 0)=some (v3 x0 y0 z0 w0):=kW (j:=0) rfl;have sl:=mQ (v3 x0 y0 z0 w0) [v3 x1 y1 z1 w1,v3 x2 y2 z2 w2];show mF [.pv (.tup [v3 x0 y0 z0 w0,v3 x1 y1 z1 w1,v3 x2 y2 z2 w2])] S=_;clear nz hn n01 n12 n20 b1 b2 b3 b4 b5 b6;generalize L2.Pp.PV.tup [.int x2,.int y2,.int z2,.int w2]=T,L2.Pp.PV.tup [.int x1,.int y1,.int z1,.int w1]=B,L2.Pp.PV.tup [.int x0,.int y0,.int z0,.int w0]=A,z2*w0-z0*w2=v3,y2*w0-y0*w2=v2,x2*w0-x0*w2=v1,z1*w0-z0*w1=u3,y1*w0-y0*w1=u2,x1*w0-x0*w1=u1 at *;generalize u1*v2-u2*v1=k3,u3*v1-u1*v3=k2,u2*v3-u3*v2=k1 at *;simp only[ay,cr]at e4;unfold mF aY uG;simp! [bP,aO,aL,aN,aM,aG,aK,bE,cG,bJ,dP,cV,dJ,fE,sl,cK,eA,dZ,gN,i0,e1,e2,e3,e4]
theorem vR{x0 y0 z0 w0 x1 y1 z1 w1 x2 y2 z2 w2 x3 y3 z3 w3:Int}(p0:0<w0)(d:D3 x0 y0 z0 w0 x1 y1 z1 w1 x2 y2 z2 w2 x3 y3 z3 w3≠0):∃n∈cT [[x0,y0,z0,w0],[x1,y1,z1,w1],[x2,y2,z2,w2]],n≠0:=by
 apply o7;intro h;have hz:∀n∈cT [[x0,y0,z0,w0],[x1,y1,z1,w1],[x2,y2,z2,w2]],n=0:=λn hn=>o7 λc=>h ⟨n,hn,c⟩;have h1:(y1*w0-y0*w1)*(z2*w0-z0*w2)-(z1*w0-z0*w1)*(y2*w0-y0*w2)=0:=hz _ (by simp[cT,oZ,cF]);have h2:(z1*w0-z0*w1)*(x2*w0-x0*w2)-(x1*w0-x0*w1)*(z2*w0-z0*w2)=0:=hz _ (by simp[cT,oZ,cF]);have h3:(x1*w0-x0*w1)*(y2*w0-y0*w2)-(y1*w0-y0*w1)*(x2*w0-x0*w2)=0:=hz _ (by simp[cT,oZ,cF]);have e:w0*w0*D3 x0 y0 z0 w0 x1 y1 z1 w1 x2 y2 z2 w2 x3 y3 z3 w3=((y1*w0-y0*w1)*(z2*w0-z0*w2)-(z1*w0-z0*w1)*(y2*w0-y0*w2))*(x3*w0-x0*w3)+((z1*w0-z0*w1)*(x2*w0-x0*w2)-(x1*w0-x0*w1)*(z2*w0-z0*w2))*(y3*w0-y0*w3)+((x1*w0-x0*w1)*(y2*w0-y0*w2)-(y1*w0-y0*w1)*(x2*w0-x0*w2))*(z3*w0-z0*w3):=by
  unfold D3;grind
 rw[h1,h2,h3,jw,jw,jw]at e;rcases td.mp e with g |g
 .rcases td.mp g with g |g<;>omega
 .exact d g
theorem ab2(x0 y0 z0 w0 x1 y1 z1 w1 x2 y2 z2 w2 x3 y3 z3 w3:Int):D3 x1 y1 z1 w1 x2 y2 z2 w2 x3 y3 z3 w3 x0 y0 z0 w0=-D3 x0 y0 z0 w0 x1 y1 z1 w1 x2 y2 z2 w2 x3 y3 z3 w3:=by
 unfold D3;grind
theorem ab1(x0 y0 z0 w0 x1 y1 z1 w1 x2 y2 z2 w2 x3 y3 z3 w3:Int):D3 x0 y0 z0 w0 x3 y3 z3 w3 x2 y2 z2 w2 x1 y1 z1 w1=-D3 x0 y0 z0 w0 x1 y1 z1 w1 x2 y2 z2 w2 x3 y3 z3 w3:=by
 unfold D3;grind
theorem abR(x0 y0 z0 w0 x1 y1 z1 w1 x2 y2 z2 w2 x3 y3 z3 w3:Int):D3 x0 y0 z0 w0 x1 y1 z1 w1 x3 y3 z3 w3 x2 y2 z2 w2=-D3 x0 y0 z0 w0 x1 y1 z1 w1 x2 y2 z2 w2 x3 y3 z3 w3:=by
 unfold D3;grind
theorem aci(x0 y0 z0 w0 x1 y1 z1 w1 x2 y2 z2 w2 x3 y3 z3 w3:Int):D3 x0 y0 z0 w0 x2 y2 z2 w2 x1 y1 z1 w1 x3 y3 z3 w3=-D3 x0 y0 z0 w0 x1 y1 z1 w1 x2 y2 z2 w2 x3 y3 z3 w3:=by
 unfold D3;grind
theorem abv{n k:Nat}(hn:n=2\/n=3)(hk:k<=1000){uss:AC}(hl:uss.length=n+1)(hg:∀us∈uss,Gu n k us)(nz:dU uss≠0):Pc uss:=by
 rcases hn with rfl |rfl
 .match uss,hl with
  |[a,b,c],_=>
   obtain⟨x0,y0,w0,rfl,p0⟩:=(hg a (by simp)).two hk;obtain⟨x1,y1,w1,rfl,p1⟩:=(hg b (by simp)).two hk;obtain⟨x2,y2,w2,rfl,p2⟩:=(hg c (by simp)).two hk;have nz:D2 x0 y0 w0 x1 y1 w1 x2 y2 w2≠0:=nz;have q0:=p0.pos;have q1:=p1.pos;have q2:=p2.pos;refine⟨.inl rfl,λw hw=>?_⟩;have hw:w=[[x0,y0,w0],[x1,y1,w1]]\/w=[[x1,y1,w1],[x2,y2,w2]]\/w=[[x2,y2,w2],[x0,y0,w0]]:=by simpa[hJ]using hw
   have key:∀{u D:Int},0<u->u*D=0->D=0:=λhu h=>by
    rcases td.mp h with g |g
    .omega
    .exact g
   rcases hw with rfl |rfl |rfl
   .refine Qe p0 p1 λ⟨h1,h2⟩=>nz (key q0 ?_)
    have e:w0*D2 x0 y0 w0 x1 y1 w1 x2 y2 w2=(x1*w0-x0*w1)*(y2*w0-y0*w2)-(y1*w0-y0*w1)*(x2*w0-x0*w2):=by unfold D2;grind
    rw[e,h1,h2,jw,jw,yi]
   .refine Qe p1 p2 λ⟨h1,h2⟩=>nz (key q1 ?_)
    have e:w1*D2 x0 y0 w0 x1 y1 w1 x2 y2 w2=(x2*w1-x1*w2)*(y0*w1-y1*w0)-(y2*w1-y1*w2)*(x0*w1-x1*w0):=by unfold D2;grind
    rw[e,h1,h2,jw,jw,yi]
   .refine Qe p2 p0 λ⟨h1,h2⟩=>nz (key q2 ?_)
    have e:w2*D2 x0 y0 w0 x1 y1 w1 x2 y2 w2=(x0*w2-x2*w0)*(y1*w2-y2*w1)-(y0*w2-y2*w0)*(x1*w2-x2*w1):=by unfold D2;grind
    rw[e,h1,h2,jw,jw,yi]
 .match uss,hl with
  |[a,b,c,d],_=>
   obtain⟨x0,y0,z0,w0,rfl,p0⟩:=(hg a (by simp)).three hk;obtain⟨x1,y1,z1,w1,rfl,p1⟩:=(hg b (by simp)).three hk;obtain⟨x2,y2,z2,w2,rfl,p2⟩:=(hg c (by simp)).three hk;obtain⟨x3,y3,z3,w3,rfl,p3⟩:=(hg d (by simp)).three hk;have nz:D3 x0 y0 z0 w0 x1 y1 z1 w1 x2 y2 z2 w2 x3 y3 z3 w3≠0:=nz;refine⟨.inr rfl,λw hw=>?_⟩;have hw:w=[[x1,y1,z1,w1],[x2,y2,z2,w2],[x3,y3,z3,w3]]\/w=[[x0,y0,z0,w0],[x3,y3,z3,w3],[x2,y2,z2,w2]]\/w=[[x0,y0,z0,w0],[x1,y1,z1,w1],[x3,y3,z3,w3]]\/w=[[x0,y0,z0,w0],[x2,y2,z2,w2],[x1,y1,z1,w1]]:=by simpa[hJ]using hw
   rcases hw with rfl |rfl |rfl |rfl
   .exact yA p1 p2 p3 (vR p1.pos (x3:=x0) (y3:=y0) (z3:=z0) (w3:=w0) (by rw[ab2];omega))
   .exact yA p0 p3 p2 (vR p0.pos (x3:=x1) (y3:=y1) (z3:=z1) (w3:=w1) (by rw[ab1];omega))
   .exact yA p0 p1 p3 (vR p0.pos (x3:=x2) (y3:=y2) (z3:=z2) (w3:=w2) (by rw[abR];omega))
   .exact yA p0 p2 p1 (vR p0.pos (x3:=x3) (y3:=y3) (z3:=z3) (w3:=w3) (by rw[aci];omega))
theorem Xk{k:Int}(hk:0<k)(l:AA):cJ (l.map (k*·))=cJ l:=by
 by_cases z:gl l 0=0
 .have e:l.map (k*·)=l:=by
   have h:=Cn z;clear z
   induction l with
   |nil=>rfl
   |cons n l ih=>rw[ay,ih λm hm=>h m (bh _ hm),h n (bi ..),kb]
  rw[e]
 .have hf:∀l:AA,kQ (l.map (k*·))=kQ l:=λl=>by
   induction l with
   |nil=>rfl
   |cons n l ih=>
    rw[ay];unfold kQ
    by_cases h:n=0
    .subst h
     simpa using ih
    .rw[if_neg h,if_neg (ia (by omega) h),gI hk]
  unfold cJ;rw[rT hk l z,hf]
theorem Tk{k:Int}(hk:k≠0)(l:AA):cJ (l.map (k*·))=cJ l:=by
 by_cases h:0<k
 .exact Xk h l
 .have e:l.map (k*·)=(l.map ((-k)*·)).map (- ·):=by
   rw[fg];refine iw λn _=>?_;show k*n=-(-k*n);rw[jp,Int.neg_neg]
  rw[e,pQ,Xk (by omega) l]
theorem rV{u v:AA}{a b:Int}(ha:a≠0)(hb:b≠0)(h:u.map (a*·)=v.map (b*·)):cJ u=cJ v:=by
 rw[<-Tk ha,h,Tk hb]
def tk(pi d p:AA)(k:AC):Int:=if[pi,d,p]=k then 1 else 0
def Ed(pi s e:AA)(k:AC):Int:=tk pi (cJ (cF s e)) s k-tk pi (cJ (cF s e)) e k
theorem Dr(pi s e:AA)(n:Int)(k:AC):eU (sd pi s e n) k=n*Ed pi s e k:=by
 unfold sd Ed tk;simp only[eU];split<;>split<;>simp<;>omega
def W2(p q:AA)(k:AC):Int:=Ed (cJ (cT [p,q])) p q k
def W3(p q r:AA)(k:AC):Int:=Ed (cJ (cT [p,q,r])) r p k+Ed (cJ (cT [p,q,r])) p q k+Ed (cJ (cT [p,q,r])) q r k
def PS(uss:AC)(k:AC):Int:=match uss with
 |[a,b,c]=>W2 a b k+W2 b c k+W2 c a k
 |[a,b,c,d]=>W3 b c d k+W3 a d c k+W3 a b d k+W3 a c b k
 |_=>0
theorem abG{uss:AC}(h:uss.length=3\/uss.length=4)(n:Int)(k:AC):eU (cP uss n) k=n*PS uss k:=by
 rcases h with h |h
 .match uss,h with
  |[a,b,c],_=>
   simp only[cP,hJ,cW,iO,ki,sy,gv,rO,Dr,PS,W2];generalize Ed _ a b k=A;generalize Ed _ b c k=B;generalize Ed _ c a k=C;grind
 .match uss,h with
  |[a,b,c,d],_=>
   simp only[cP,hJ,cW,iO,ki,sy,gv,rO,Dr,PS,W3,Int.mul_add];omega
theorem Aa{n:Nat}(hn:n=2\/n=3){p q:AA}(hp:Pw n p)(hq:Pw n q):cF q p=(cF p q).map (- ·):=by
 rcases hn with rfl |rfl
 .obtain⟨x0,y0,w0,rfl,_⟩:=hp.two
  obtain⟨x1,y1,w1,rfl,_⟩:=hq.two;simp[cF,tf]
 .obtain⟨x0,y0,z0,w0,rfl,_⟩:=hp.three
  obtain⟨x1,y1,z1,w1,rfl,_⟩:=hq.three;simp[cF,tf]
theorem mH{n:Nat}(hn:n=2\/n=3){p q:AA}(hp:Pw n p)(hq:Pw n q)(pi:AA)(k:AC):Ed pi q p k=-Ed pi p q k:=by
 unfold Ed;rw[Aa hn hp hq,pQ];omega
theorem nW{p q:AA}(hp:Pw 2 p)(hq:Pw 2 q)(k:AC):W2 q p k=-W2 p q k:=by
 have e:cT [q,p]=(cT [p,q]).map (- ·):=by
  obtain⟨x0,y0,w0,rfl,_⟩:=hp.two;obtain⟨x1,y1,w1,rfl,_⟩:=hq.two;simp[cT,cF,tf]
 unfold W2;rw[e,pQ,mH (.inl rfl) hp hq]
theorem l3{a b c d e f:Int}(h:a=d)(g:b=e)(i:c=f):[a,b,c]=[d,e,f]:=by rw[h,g,i]
theorem Nc{p q r:AA}(hp:Pw 3 p)(hq:Pw 3 q)(hr:Pw 3 r):cJ (cT [q,p,r])=cJ (cT [p,q,r]):=by
 obtain⟨x0,y0,z0,w0,rfl,p0⟩:=hp.three;obtain⟨x1,y1,z1,w1,rfl,p1⟩:=hq.three;obtain⟨x2,y2,z2,w2,rfl,p2⟩:=hr.three;refine rV (a:=w0) (b:=-w1) (by omega) (by omega) ?_;simp only[cT,cF,oZ,ay,cr];refine l3 ?_ ?_ ?_<;>grind
theorem aaR{p q r:AA}(hp:Pw 3 p)(hq:Pw 3 q)(hr:Pw 3 r):cJ (cT [p,r,q])=cJ (cT [p,q,r]):=by
 obtain⟨x0,y0,z0,w0,rfl,p0⟩:=hp.three;obtain⟨x1,y1,z1,w1,rfl,p1⟩:=hq.three;obtain⟨x2,y2,z2,w2,rfl,p2⟩:=hr.three;refine rV (a:=1) (b:=-1) (by omega) (by omega) ?_;simp only[cT,cF,oZ,ay,cr];refine l3 ?_ ?_ ?_<;>grind
theorem xA{p q r:AA}(hp:Pw 3 p)(hq:Pw 3 q)(hr:Pw 3 r)(k:AC):W3 q p r k=-W3 p q r k:=by
 unfold W3;rw[Nc hp hq hr,mH (.inr rfl) hq hr,mH (.inr rfl) hp hq,mH (.inr rfl) hr hp];omega
theorem iW{p q r:AA}(hp:Pw 3 p)(hq:Pw 3 q)(hr:Pw 3 r)(k:AC):W3 p r q k=-W3 p q r k:=by
 unfold W3;rw[aaR hp hq hr,mH (.inr rfl) hq hr,mH (.inr rfl) hp hq,mH (.inr rfl) hr hp];omega
def rC(A B:AC):Prop:=∃s:Int,(s=1\/s=-1)/\dU B=s*dU A/\∀k,PS B k=s*PS A k
theorem rC.trans{A B C:AC}(h:rC A B)(g:rC B C):rC A C:=by
 obtain⟨s,hs,e1,e2⟩:=h;obtain⟨t,ht,e3,e4⟩:=g;refine⟨t*s,?_,by rw[e3,e1,kd],λk=>by rw[e4,e2,kd]⟩;rcases hs with rfl |rfl<;>rcases ht with rfl |rfl<;>simp
theorem M7{n:Nat}(hn:n=2\/n=3){pre l:AC}{x y:AA}(hl:(pre++y::x::l).length=n+1)(hp:∀u∈pre++y::x::l,Pw n u):rC (pre++y::x::l) (pre++x::y::l):=by
 refine⟨-1,.inr rfl,(uZ hn hl hp).trans (by omega),λk=>?_⟩;have hx:=hp x (by simp);have hy:=hp y (by simp);rcases hn with rfl |rfl
 .match pre,l,hl with
  |[],[c],_=>
   have hc:=hp c (by simp);have h1:=nW hx hy k;have h2:=nW hx hc k;have h3:=nW hy hc k;simp only[PS,dh];omega
  |[c],[],_=>
   have hc:=hp c (by simp);have h1:=nW hx hy k;have h2:=nW hx hc k;have h3:=nW hy hc k;simp only[PS,dh,gh];omega
  |[],[],h=>simp at h
  |[],_::_::_,h=>simp at h
  |_::_::_,_,h=>simp at h;omega
  |[_],_::_,h=>simp at h
 .match pre,l,hl with
  |[],[c,d],_=>
   have hc:=hp c (by simp);have hd:=hp d (by simp);have a:=iW hy hd hc k;have b:=iW hx hc hd k;have e:=xA hy hx hd k;have f:=xA hx hc hy k;have g:=iW hc hy hx k;have i:=xA hy hc hx k;simp only[PS,dh];omega
  |[c],[d],_=>
   have hc:=hp c (by simp);have hd:=hp d (by simp);have a:=xA hy hx hd k;have b:=iW hc hy hd k;have e:=iW hc hd hx k;have f:=iW hc hx hy k;simp only[PS,dh,gh];omega
  |[c,d],[],_=>
   have hc:=hp c (by simp);have hd:=hp d (by simp);have a:=iW hd hy hx k;have b:=iW hc hx hy k;have e:=iW hc hy hd k;have f:=iW hc hd hx k;simp only[PS,dh,gh];omega
  |[],[],h=>simp at h
  |[],[_],h=>simp at h
  |[],_::_::_::_,h=>simp at h
  |[_],[],h=>simp at h
  |[_],_::_::_,h=>simp at h
  |[_,_],_::_,h=>simp at h
  |_::_::_::_,_,h=>simp at h;omega
theorem L4{n:Nat}(hn:n=2\/n=3){A B:AC}(h:A.Perm B):∀pre:AC,(pre++A).length=n+1->(∀u∈pre++A,Pw n u)->rC (pre++A) (pre++B):=by
 induction h with
 |nil=>exact λpre _ _=>⟨1,.inl rfl,(ke _).symm,λk=>(ke _).symm⟩
 |cons x _ ih=>
  intro pre hl hp;have:=ih (pre++[x]) (by simpa using hl) (by simpa using hp);simpa using this
 |swap x y l=>exact λpre hl hp=>M7 hn hl hp
 |trans h1 h2 ih1 ih2=>
  intro pre hl hp;have e:∀u,u∈pre++_↔u∈pre++_:=λu=>(h1.append_left pre).mem_iff;exact(ih1 pre hl hp).trans (ih2 pre (by rw[<-(h1.append_left pre).length_eq];exact hl) λu hu=>hp u ((e u).mpr hu))
theorem Cc{n k:Nat}(hn:n=2\/n=3)(hk:k<=1000){uss:AC}(hl:uss.length=n+1)(hg:∀us∈uss,Gu n k us)(nz:dU uss≠0)(kk:AC):PS (cC uss) kk=sg (dU uss)*PS uss kk:=by
 obtain⟨s,hs,e1,e2⟩:=L4 hn (pP (jH hn hl)).symm [] hl λu hu=>(hg u hu).pt;simp only[dh]at e1 e2;rw[lS hn hk hl hg]at e1;rw[e2];congr 1;unfold sg;rcases hs with rfl |rfl<;>(repeat' split)<;>omega
def HS:AD->AC->Int
 |[],_=>0
 |u::hs,k=>PS u k+HS hs k
theorem Uc{n:Int}{k:AC}:∀{hs:AD},(∀u∈hs,u.length=3\/u.length=4)->eU (cH hs n) k=n*HS hs k
 |[],_=>by simp[cH,eU,HS]
 |u::hs,h=>by
  have ih:=Uc (n:=n) (k:=k) (hs:=hs) λv hv=>h v (bh _ hv);unfold cH at ih⊢;rw[ki,rO,ih,abG (h u bi),HS,Int.mul_add]
theorem U4(hs gs:AD)(k:AC):HS (hs++gs) k=HS hs k+HS gs k:=by
 induction hs with
 |nil=>simp[HS]
 |cons u hs ih=>simp[HS,ih];omega
theorem R5{n:Nat}(hn:n=2\/n=3){A B:PV}{hs gs:AD}(hA:Sv A (hs.map px))(hB:Sv B (gs.map px))(h:∀u∈hs,Sx n 900 u)(g:∀u∈gs,Sx n 900 u)(lh:hs.length<=1000)(lg:gs.length<=1000){t:Bool}(ht:t=true↔∀k,HS hs k=HS gs k):qB [.pv A,.pv B] []=.ok (.pv (.bl t)) []:=by
 have pc:∀u,Sx n 900 u->Pc u:=λu s=>abv hn (by decide) s.len s.gu s.nz;obtain⟨b,e,hb⟩:=M3 hA hB (λu hu=>pc u (h u hu)) (λu hu=>pc u (g u hu)) lh lg;have eb:b=t:=by
  rw[rf,hb,ht];refine forall_congr' λk=>?_;rw[rO,Uc λu hu=>jH hn (h u hu).len,Uc λu hu=>jH hn (g u hu).len];omega
 rw[e,eb]
theorem gx{S:aH}{x y:SO}{i:Nat}(h:S[i]?=some y):(S++[x])[i]?=some y:=by
 rw[eh (ca.mp h).1];exact h
theorem gs{S:aH}{x y:SO}{i j:Nat}(h:S[i]?=some y)(n:j≠i):(S.set j x)[i]?=some y:=by
 rw[dz n];exact h
def fU(n:Nat)(u v:Int)(p q m:AA):Prop:=Pw n m/\∀j,j<=n->m.getD j 0*((u+v)*p.getD n 0*q.getD n 0)=(u*p.getD j 0*q.getD n 0+v*q.getD j 0*p.getD n 0)*m.getD n 0
theorem fU.symm{n:Nat}{u v:Int}{p q m:AA}(h:fU n u v p q m):fU n v u q p m:=⟨h.1,λj hj=>by
 have:=h.2 j hj;grind⟩
theorem fU.three{u v:Int}{x0 y0 z0 w0 x1 y1 z1 w1:Int}{m:AA}(h:fU 3 u v [x0,y0,z0,w0] [x1,y1,z1,w1] m):∃x y z w,m=[x,y,z,w]/\0<w/\x*((u+v)*w0*w1)=(u*x0*w1+v*x1*w0)*w/\y*((u+v)*w0*w1)=(u*y0*w1+v*y1*w0)*w/\z*((u+v)*w0*w1)=(u*z0*w1+v*z1*w0)*w:=by
 obtain⟨x,y,z,w,rfl,p⟩:=h.1.three;exact⟨x,y,z,w,rfl,p,h.2 0 (by decide),h.2 1 (by decide),h.2 2 (by decide)⟩
theorem fU.two{u v:Int}{x0 y0 w0 x1 y1 w1:Int}{m:AA}(h:fU 2 u v [x0,y0,w0] [x1,y1,w1] m):∃x y w,m=[x,y,w]/\0<w/\x*((u+v)*w0*w1)=(u*x0*w1+v*x1*w0)*w/\y*((u+v)*w0*w1)=(u*y0*w1+v*y1*w0)*w:=by
 obtain⟨x,y,w,rfl,p⟩:=h.1.two;exact⟨x,y,w,rfl,p,h.2 0 (by decide),h.2 1 (by decide)⟩
theorem lB{u v x0 w0 x1 w1 x w:Int}(h:x*((u+v)*w0*w1)=(u*x0*w1+v*x1*w0)*w):(u+v)*w1*(x*w0-x0*w)=v*w*(x1*w0-x0*w1):=by grind
theorem O0{n:Nat}(hn:n=2\/n=3){u v:Int}(hu:0<u)(hv:0<v){p q m:AA}(hp:Pw n p)(hq:Pw n q)(h:fU n u v p q m):∃a b:Int,a≠0/\b≠0/\(cF p m).map (a*·)=(cF p q).map (b*·):=by
 rcases hn with rfl |rfl
 .obtain⟨x0,y0,w0,rfl,p0⟩:=hp.two
  obtain⟨x1,y1,w1,rfl,p1⟩:=hq.two;obtain⟨x,y,w,rfl,p2,h1,h2⟩:=h.two;refine⟨(u+v)*w1,v*w,ia (by omega) (by omega),ia (by omega) (by omega),?_⟩;simp only[cF,ay,cr];rw[lB h1,lB h2]
 .obtain⟨x0,y0,z0,w0,rfl,p0⟩:=hp.three
  obtain⟨x1,y1,z1,w1,rfl,p1⟩:=hq.three;obtain⟨x,y,z,w,rfl,p2,h1,h2,h3⟩:=h.three;refine⟨(u+v)*w1,v*w,ia (by omega) (by omega),ia (by omega) (by omega),?_⟩;simp only[cF,ay,cr];rw[lB h1,lB h2,lB h3]
theorem Tl{n:Nat}(hn:n=2\/n=3){u v:Int}(hu:0<u)(hv:0<v){p q m:AA}(hp:Pw n p)(hq:Pw n q)(h:fU n u v p q m):cJ (cF p m)=cJ (cF p q):=by
 obtain⟨a,b,ha,hb,e⟩:=O0 hn hu hv hp hq h;exact rV ha hb e
theorem Xp{n:Nat}(hn:n=2\/n=3){u v:Int}(hu:0<u)(hv:0<v){p q m:AA}(hp:Pw n p)(hq:Pw n q)(h:fU n u v p q m)(pi:AA)(k:AC):Ed pi p m k+Ed pi m q k=Ed pi p q k:=by
 have e1:=Tl hn hu hv hp hq h;have e2:cJ (cF m q)=cJ (cF p q):=by
  rw[Aa hn hq h.1,pQ,Tl hn hv hu hq hp h.symm,Aa hn hp hq,pQ]
 unfold Ed;rw[e1,e2];omega
theorem V9{u v:Int}(hu:0<u)(hv:0<v){p q m:AA}(hp:Pw 2 p)(hq:Pw 2 q)(h:fU 2 u v p q m)(k:AC):W2 p m k+W2 m q k=W2 p q k:=by
 have nr:∀{p q m:AA}{u v:Int},0<u->0<v->Pw 2 p->Pw 2 q->fU 2 u v p q m->cJ (cT [p,m])=cJ (cT [p,q]):=λ{p q m u v} hu hv hp hq h=>by
  obtain⟨x0,y0,w0,rfl,p0⟩:=hp.two;obtain⟨x1,y1,w1,rfl,p1⟩:=hq.two;obtain⟨x,y,w,rfl,p2,h1,h2⟩:=h.two;refine rV (a:=(u+v)*w1) (b:=v*w) (ia (by omega) (by omega)) (ia (by omega) (by omega)) ?_;simp only[cT,cF,ay,cr];rw[jo,jo,lB h1,lB h2]
 have e1:=nr hu hv hp hq h;have e2:=nr hv hu hq hp h.symm;have sw:∀{p q:AA},Pw 2 p->Pw 2 q->cJ (cT [q,p])=cJ (cT [p,q]):=λ{p q} hp hq=>by
  obtain⟨x0,y0,w0,rfl,_⟩:=hp.two;obtain⟨x1,y1,w1,rfl,_⟩:=hq.two;rw[show cT [[x1,y1,w1],[x0,y0,w0]]=(cT [[x0,y0,w0],[x1,y1,w1]]).map (- ·) by simp[cT,cF,tf],pQ]
 unfold W2;rw[e1,<-sw h.1 hq,e2,sw hp hq];exact Xp (.inl rfl) hu hv hp hq h _ k
theorem Lm{u v:Int}(hu:0<u)(hv:0<v){p q m r:AA}(hp:Pw 3 p)(hq:Pw 3 q)(hr:Pw 3 r)(h:fU 3 u v p q m):cJ (cT [p,m,r])=cJ (cT [p,q,r]):=by
 obtain⟨x0,y0,z0,w0,rfl,p0⟩:=hp.three;obtain⟨x1,y1,z1,w1,rfl,p1⟩:=hq.three;obtain⟨x2,y2,z2,w2,rfl,p2⟩:=hr.three;obtain⟨x,y,z,w,rfl,p3,h1,h2,h3⟩:=h.three;refine rV (a:=(u+v)*w1) (b:=v*w) (ia (by omega) (by omega)) (ia (by omega) (by omega)) ?_;have g1:=lB h1;have g2:=lB h2;have g3:=lB h3;simp only[cT,cF,oZ,ay,cr];have key:∀{A B a b c d s t:Int},A*a=B*b->A*c=B*d->A*(a*s-c*t)=B*(b*s-d*t):=λ{A B a b c d s t} e f=>by
  rw[qv,<-kd,<-kd,e,f,qv,kd,kd]
 exact l3 (key g2 g3) (key g3 g1) (key g1 g2)
theorem Xo{u v:Int}(hu:0<u)(hv:0<v){p q m r:AA}(hp:Pw 3 p)(hq:Pw 3 q)(hr:Pw 3 r)(h:fU 3 u v p q m)(k:AC):W3 p m r k+W3 m q r k=W3 p q r k:=by
 have e1:=Lm hu hv hp hq hr h;have e2:=Lm hv hu hq hp hr h.symm;have e3:=Nc hq h.1 hr;have e4:=Nc hp hq hr;have e5:=Xp (.inr rfl) hu hv hp hq h (cJ (cT [p,q,r])) k;have e6:=mH (.inr rfl) h.1 hr (cJ (cT [p,q,r])) k;unfold W3;rw[e1,e3,e2,e4];omega
theorem Jq{n:Nat}(hn:n=2\/n=3){u v:Int}(hu:0<u)(hv:0<v){p q m:AA}{R:AC}(hl:(p::q::R).length=n+1)(hp:∀x∈p::q::R,Pw n x)(h:fU n u v p q m):(∀k,PS (m::q::R) k+PS (p::m::R) k=PS (p::q::R) k)/\sg (dU (m::q::R))=sg (dU (p::q::R))/\sg (dU (p::m::R))=sg (dU (p::q::R)):=by
 have h1:=hp p (by simp);have h2:=hp q (by simp);rcases hn with rfl |rfl
 .match R,hl with
  |[r],_=>
   have h3:=hp r (by simp);refine⟨λk=>?_,?_⟩
   .have e1:=V9 hu hv h1 h2 h k
    have e2:=nW h.1 h3 k;simp only[PS];omega
   .obtain⟨x0,y0,w0,rfl,p0⟩:=h1.two
    obtain⟨x1,y1,w1,rfl,p1⟩:=h2.two;obtain⟨x2,y2,w2,rfl,p2⟩:=h3.two;obtain⟨x,y,w,rfl,p3,g1,g2⟩:=h.two;have c0:0<(u+v)*w0*w1:=aw (aw (by omega) p0) p1;have c1:(u+v)*w0*w1*D2 x y w x1 y1 w1 x2 y2 w2=u*w1*w*D2 x0 y0 w0 x1 y1 w1 x2 y2 w2:=by unfold D2;grind
    have c2:(u+v)*w0*w1*D2 x0 y0 w0 x y w x2 y2 w2=v*w0*w*D2 x0 y0 w0 x1 y1 w1 x2 y2 w2:=by unfold D2;grind
    show sg (D2 _ _ _ _ _ _ _ _ _)=sg (D2 _ _ _ _ _ _ _ _ _)/\sg (D2 _ _ _ _ _ _ _ _ _)=_;rw[<-gI c0,c1,gI (aw (aw hu p1) p3)];refine⟨rfl,?_⟩;rw[<-gI c0,c2,gI (aw (aw hv p0) p3)];rfl
 .match R,hl with
  |[r,s],_=>
   have h3:=hp r (by simp);have h4:=hp s (by simp);refine⟨λk=>?_,?_⟩
   .have e1:=Xo hu hv h1 h2 h3 h k
    have e2:=Xo hu hv h1 h2 h4 h k;have e3:=iW h.1 h3 h4 k;have f1:=iW h.1 h2 h3 k;have f2:=iW h1 h.1 h3 k;have f3:=iW h1 h2 h3 k;simp only[PS];omega
   .obtain⟨x0,y0,z0,w0,rfl,p0⟩:=h1.three
    obtain⟨x1,y1,z1,w1,rfl,p1⟩:=h2.three;obtain⟨x2,y2,z2,w2,rfl,p2⟩:=h3.three;obtain⟨x3,y3,z3,w3,rfl,p4⟩:=h4.three;obtain⟨x,y,z,w,rfl,p3,g1,g2,g3⟩:=h.three;have c0:0<(u+v)*w0*w1:=aw (aw (by omega) p0) p1;have ex:∀(x y z w a b c d:Int),(x*a+y*b+z*c+w*d)*((u+v)*w0*w1)=x*((u+v)*w0*w1)*a+y*((u+v)*w0*w1)*b+z*((u+v)*w0*w1)*c+w*((u+v)*w0*w1)*d:=λx y z w a b c d=>by grind
    have c1:(u+v)*w0*w1*D3 x y z w x1 y1 z1 w1 x2 y2 z2 w2 x3 y3 z3 w3=u*w1*w*D3 x0 y0 z0 w0 x1 y1 z1 w1 x2 y2 z2 w2 x3 y3 z3 w3:=by
     unfold D3;grind
    have c2:(u+v)*w0*w1*D3 x0 y0 z0 w0 x y z w x2 y2 z2 w2 x3 y3 z3 w3=v*w0*w*D3 x0 y0 z0 w0 x1 y1 z1 w1 x2 y2 z2 w2 x3 y3 z3 w3:=by
     unfold D3;grind
    show sg (D3 _ _ _ _ _ _ _ _ _ _ _ _ _ _ _ _)=sg (D3 _ _ _ _ _ _ _ _ _ _ _ _ _ _ _ _)/\sg (D3 _ _ _ _ _ _ _ _ _ _ _ _ _ _ _ _)=_;rw[<-gI c0,c1,gI (aw (aw hu p1) p3)];refine⟨rfl,?_⟩;rw[<-gI c0,c2,gI (aw (aw hv p0) p3)];rfl
theorem sq{a b:MS}{ρ ρ':bM}{S S':aH}{r:bV}(h:a ρ S=.nx ρ' S')(g:b ρ' S'=r):aI a b ρ S=r:=by
 rw[aI,h];exact g
theorem Ud{np n:Nat}{b:MS}{xs:AL}{S S':aH}{v:AV}{r:bG AV}(hl:xs.length=np)(h:b (gL n xs) S=.rt v S')(hc:jG S.length v S'=r):aY np n b xs S=r:=by
 unfold aY;rw[if_pos hl,h];exact hc
theorem Ih{S:aH}{me:ME}{α:Type}(A B C:α->PV):∀(L:List α)(x y:AK),(∀v∈L,me [some (.pv (A v)),some (.pv (B v))] S=.ok (.pv (C v)) S)->cD [] (gT 2 (bX (gN 0) (bX (gN 1) dW))) me (L.map λv=>.tup [A v,B v]) [x,y] S=.ok (L.map C) S
 |[],x,y,_=>dZ
 |v::L,x,y,h=>by
  have e:=h v bi;have e':=Ih A B C L (some (.pv (A v))) (some (.pv (B v))) λu hu=>h u (bh _ hu);rw[ay,eA];simp[gN,gT,bX,dW,e,e']
theorem abX(L:AI){a:Nat}(h:a<=L.length):iM (.lst L) (some (a:Int)) none=some (.lst (L.drop a)):=by
 unfold iM;dsimp only;unfold iX;rw[HT.sIx_nat];show some (PV.lst ((L.drop (min a L.length)).take (L.length-min a L.length)))=_;rw[xn h,ya (by rw[qm];omega)]
theorem Dt{ns:AA}{L:AI}{T:aH}{k:Nat}(hl:L.length+k<=1000)(h0:0<L.length+k):∃(a:Nat)(n1:AA),dC [.ref 0,.pv (.int ((L.length+k:Nat):Int))] (.lst (li ns)::T)=.ok (.pv (.int (a:Int))) (.lst (li n1)::T)/\a<L.length+k:=by
 obtain⟨a,n1,e,a0,a1,_⟩:=iS (m:=((L.length+k:Nat):Int)) (show eJ (.lst (li ns)::T) 0 ns from rfl) (by omega) (iL (by omega) (by omega));exact⟨a.toNat,n1,by rw[show((a.toNat:Nat):Int)=a by omega];exact e,by omega⟩
theorem Zd(xs:AA):low (xs++[1])=xs++[1]:=by
 refine Wn ?_;have d:=(jX (xs++[1]) 0).2 1 (by simp);have p:=qD (ns:=xs++[1]) (n:=1) (by simp) (by decide);have:=Int.le_of_dvd (by decide) d;omega
abbrev kC(n:Nat):AI:=jy n (.tup [.int 1,.int 1])
theorem Rr{n:Nat}(hn:n=2\/n=3)(S:aH){xs:AA}(hx:xs.length=n)(hb:∀x∈xs,-8<x/\x<8):mJ [.pv (lv xs),.pv (.lst (kC n))] S=.ok (.pv (tv (xs++[1]))) S/\Gu n 3 (xs++[1]):=by
 have b3:∀{x:Int},-8<x/\x<8->Bd 3 x:=λh=>by
  unfold Bd;have:(2:Nat)^3=8:=rfl;omega
 have o1:Bd 3 (1:Int):=b3 (by decide);have m1:∀x:Int,Bd 3 x->bA (.int x) (.int 1)=some (.int x):=λx h=>by
  have:=mk h o1 (by decide) (by decide);rw[qi]at this;exact this
 have q1:jK (.int 1) (.int 1)=some (.int 1):=uW (i:=1) (j:=1) ⟨by decide,o1.mono (by decide)⟩;have bL:∀x∈xs++[1],Bd 3 x:=by
  intro x h;rcases cq.mp h with y |y
  .exact b3 (hb x y)
  .have:x=1:=by simpa using y
   rw[this];exact o1
 have ew:=rP (xs++[1]) S λx h=>(bL x h).mono (by decide);rw[Zd]at ew;refine⟨?_,xs,1,rfl,hx,by decide,Zd xs,λx h=>b3 (hb x h),o1⟩;have m0:=m1 1 o1;rcases hn with rfl |rfl
 .match xs,hx,hb,ew with
  |[a,b],_,hb,ew=>
   have ma:=m1 a (b3 (hb a (by simp)));have mb:=m1 b (b3 (hb b (by simp)));simp only[ay,cr,gh,dh]at ew;unfold mJ aY vD;simp only[lv,li,tv,kC,jy,ay,cr,gh,dh];simp! [aE,aX,aW,aJ,aO,aL,aN,aM,aG,aK,bS,bJ,cK,eK,fO,gN,m0,bE,cG,gU,lD,fR,eA,dZ,gT,bX,dW,ma,mb,q1,ew]
 .match xs,hx,hb,ew with
  |[a,b,c],_,hb,ew=>
   have ma:=m1 a (b3 (hb a (by simp)));have mb:=m1 b (b3 (hb b (by simp)));have mc:=m1 c (b3 (hb c (by simp)));simp only[ay,cr,gh,dh]at ew;unfold mJ aY vD;simp only[lv,li,tv,kC,jy,ay,cr,gh,dh];simp! [aE,aX,aW,aJ,aO,aL,aN,aM,aG,aK,bS,bJ,cK,eK,fO,gN,m0,bE,cG,gU,lD,fR,eA,dZ,gT,bX,dW,ma,mb,mc,q1,ew]
theorem Zk{A B:AD}(h:A.Perm B)(k:AC):HS A k=HS B k:=by
 induction h with
 |nil=>rfl
 |cons x _ ih=>simp only[HS,ih]
 |swap x y l=>simp only[HS];omega
 |trans _ _ ih1 ih2=>exact ih1.trans ih2
abbrev fv(u:Int×Int):PV:=.tup [.int u.1,.int u.2]
def pl(u v:Int×Int):Int×Int:=((fr (u.1*v.2+v.1*u.2) (u.2*v.2)).getD 0 0,(fr (u.1*v.2+v.1*u.2) (u.2*v.2)).getD 1 0)
structure Fq(k:Nat)(u:Int×Int):Prop where
 pos:0<u.2
 b1:Bd k u.1
 b2:Bd k u.2
 lo:bn u.1 u.2=1
theorem Fq.mono{k l:Nat}{u:Int×Int}(h:Fq k u)(hl:k<=l):Fq l u:=⟨h.pos,h.b1.mono hl,h.b2.mono hl,h.lo⟩
theorem Od{k:Nat}{u v:Int×Int}(h:Fq k u)(g:Fq k v):fr (u.1*v.2+v.1*u.2) (u.2*v.2)=[(pl u v).1,(pl u v).2]/\Fq (2*k+1) (pl u v)/\(pl u v).1*(u.2*v.2)=(u.1*v.2+v.1*u.2)*(pl u v).2:=by
 have nz:u.2*v.2≠0:=da (aw h.pos g.pos);obtain⟨p,q,e,hq,c⟩:=Ad (t:=u.1*v.2+v.1*u.2) nz;have bt:Bd (2*k+1) (u.1*v.2+v.1*u.2):=by
  have:=(h.b1.mul g.b2).add (g.b1.mul h.b2);exact this.mono (by omega)
 have bb:Bd (2*k+1) (u.2*v.2):=(h.b2.mul g.b2).mono (by omega);obtain⟨b3,b4⟩:=Xq bt bb e;have ep:pl u v=(p,q):=by unfold pl;rw[e];rfl
 rw[ep];exact⟨e,⟨hq,b3,b4,Gh nz e⟩,c⟩
theorem L7{k:Nat}{u v:Int×Int}(S:aH)(h:Fq k u)(g:Fq k v)(hk:2*k+1<=7000):oG [.pv (fv u),.pv (fv v)] S=.ok (.pv (fv (pl u v))) S:=by
 have nz:u.2*v.2≠0:=da (aw h.pos g.pos);have bt:Bd 7000 (u.1*v.2+v.1*u.2):=by
  have:=(h.b1.mul g.b2).add (g.b1.mul h.b2);exact this.mono (by omega)
 have e:=yK (u.1*v.2+v.1*u.2) (u.2*v.2) S bt ((h.b2.mul g.b2).mono (by omega)) nz;rw[(Od h g).1]at e;simp only[ay,cr]at e;have m1:=mk h.b1 g.b2 (by omega) (by omega);have m2:=mk g.b1 h.b2 (by omega) (by omega);have m3:=mk h.b2 g.b2 (by omega) (by omega);unfold oG aY Qb;simp! [aE,aX,aW,aJ,aO,aL,aN,aM,aG,aK,m1,m2,m3,e]
def cR:List (Int×Int)->List (Int×Int)
 |a::b::L=>pl a b::cR L
 |L=>L
abbrev wW:MS:=(aI (aS 1 (bE ["one","other"] [] (gU (aB (oP (aA 0) cV cV (2)) (aB (oP (aA 0) (dJ (mC (.int 1))) cV (2)) aD))) (gT 2 (bX (gN 0) (bX (gN 1) dW))) (aR oG [] (aB (aA 0) (aB (aA 1) aD)))))
 (aS 0 (aC aG (aA 1) (dP (aA 0) (dJ (aC bA (mC (.int 2)) (mR cL (aB (aA 1) aD)))) cV))))
def ev{α:Type}:List α->List α
 |a::_::L=>a::ev L
 |L=>L
def od{α:Type}:List α->List α
 |_::b::L=>b::od L
 |_=>[]
def eN:List (Int×Int)->List ((Int×Int)×(Int×Int))
 |a::b::L=>(a,b)::eN L
 |_=>[]
theorem Cr{α:Type}:∀L:List α,(ce ((L.length+1)/2)).filterMap (λk=>L[2*k]?)=ev L
 |[]=>by simp[ev]
 |[a]=>by simp[ev]
 |a::b::L=>by
  have h:((a::b::L).length+1)/2=(L.length+1)/2+1:=by simp only[bo];omega
  have ih:=Cr L;rw[h,tj,iy,pd];show a::_=a::ev L;rw[<-ih];rfl
theorem Ir{α:Type}:∀L:List α,(ce (L.length/2)).filterMap (λk=>L[2*k+1]?)=od L
 |[]=>by simp[od]
 |[a]=>by simp[od]
 |a::b::L=>by
  have h:(a::b::L).length/2=L.length/2+1:=by simp only[bo];omega
  have ih:=Ir L;rw[h,tj,iy,pd];show b::_=b::od L;rw[<-ih];rfl
theorem abf{α:Type}(L:List α):iI L none none 2=ev L:=by
 rw[<-Cr];unfold iI sliceBounds sliceRange;simp only[si];have h:(if(2:Int)>0 then if(if(2:Int)>0 then(0:Int)else(L.length:Int)-1)<(if(2:Int)>0 then(L.length:Int)else-1)then((if(2:Int)>0 then(L.length:Int)else-1)-(if(2:Int)>0 then(0:Int)else(L.length:Int)-1)+2-1)/2 else 0 else if(if(2:Int)>0 then(0:Int)else(L.length:Int)-1)>(if(2:Int)>0 then(L.length:Int)else-1)then((if(2:Int)>0 then(0:Int)else(L.length:Int)-1)-(if(2:Int)>0 then(L.length:Int)else-1)-2-1)/ -2 else 0).toNat=(L.length+1)/2:=by
  simp only[gt_iff_lt,yj,↓reduceIte];split<;>omega
 rw[h,pd];congr 1
 funext k
 show L[((if(2:Int)>0 then(0:Int)else(L.length:Int)-1)+2*(k:Int)).toNat]?=L[2*k]?;congr 1;simp only[gt_iff_lt,yj,↓reduceIte];omega
theorem aaW{α:Type}(L:List α)(hl:0<L.length):iI L (some 1) none 2=od L:=by
 rw[<-Ir];unfold iI sliceBounds sliceRange;have m:max (0:Int) (min 1 (L.length:Int))=1:=by omega
 simp only[si,gt_iff_lt,yj,↓reduceIte,m];have h:(if(1:Int)<(L.length:Int)then((L.length:Int)-1+2-1)/2 else 0).toNat=L.length/2:=by
  split<;>omega
 rw[h,pd];congr 1
 funext k
 show L[(1+2*(k:Int)).toNat]?=L[2*k+1]?;congr 1;omega
theorem Wo{α β:Type}(f:α->β):∀L:List α,ev (L.map f)=(ev L).map f
 |[]=>rfl
 |[_]=>rfl
 |a::b::L=>by
  show f a::ev (L.map f)=f a::(ev L).map f;rw[Wo f L]
theorem Op{α β:Type}(f:α->β):∀L:List α,od (L.map f)=(od L).map f
 |[]=>rfl
 |[_]=>rfl
 |a::b::L=>by
  show f b::od (L.map f)=f b::(od L).map f;rw[Op f L]
theorem Dq:∀L:List (Int×Int),fR ((ev L).map fv) ((od L).map fv)=(eN L).map λw=>PV.tup [fv w.1,fv w.2]
 |[]=>rfl
 |[_]=>rfl
 |a::b::L=>by
  show PV.tup [fv a,fv b]::fR ((ev L).map fv) ((od L).map fv)=PV.tup [fv a,fv b]::(eN L).map _;rw[Dq L]
theorem Go:∀L:List (Int×Int),cR L=((eN L).map λw=>pl w.1 w.2)++L.drop (2*(eN L).length)/\2*(eN L).length<=L.length/\∀w∈eN L,w.1∈L/\w.2∈L
 |[]=>⟨rfl,aj _,λ_ h=>nomatch h⟩
 |[_]=>⟨rfl,by simp[eN],λ_ h=>nomatch h⟩
 |a::b::L=>by
  obtain⟨h1,h2,h3⟩:=Go L;refine⟨?_,by simp only[eN,bo];omega,λw hw=>?_⟩
  .show pl a b::cR L=pl a b::(((eN L).map λw=>pl w.1 w.2)++(a::b::L).drop (2*((eN L).length+1)))
   rw[h1,show 2*((eN L).length+1)=2*(eN L).length+1+1 by omega];rfl
  .rcases bc.mp hw with rfl |hw
   .exact⟨by simp,by simp⟩
   .exact⟨by simp[(h3 w hw).1],by simp[(h3 w hw).2]⟩
theorem Xy{k:Nat}(S:aH)(x:AK)(hk:2*k+1<=7000)(L:List (Int×Int))(h2:2<=L.length)(hl:L.length<=1000)(h:∀u∈L,Fq k u):∃y,wW [some (.pv (.lst (L.map fv))),x] S=.nx [some (.pv (.lst ((cR L).map fv))),y] S:=by
 obtain⟨s1,s2,s3⟩:=Go L;have e1:=abf (L.map fv);rw[Wo]at e1;have e2:=aaW (L.map fv) (by rw[ak];omega);rw[Op]at e2;have e3:=Dq L;have e4:cD [] (gT 2 (bX (gN 0) (bX (gN 1) dW))) (aR oG [] (aB (aA 0) (aB (aA 1) aD))) ((eN L).map λw=>PV.tup [fv w.1,fv w.2]) [none,none] S=.ok ((eN L).map λw=>fv (pl w.1 w.2)) S:=by
  refine Ih (λw:(Int×Int)×(Int×Int)=>fv w.1) (λw=>fv w.2) (λw=>fv (pl w.1 w.2)) (eN L) none none λw hw=>?_;have p:=L7 S (h _ (s3 w hw).1) (h _ (s3 w hw).2) hk;generalize fv w.2=B,fv w.1=A,fv (pl w.1 w.2)=R at *;simp! [aE,aX,aW,aJ,aO,aL,aN,aM,aG,aK,p]
 have e5:=abX (L.map fv) (a:=2*(eN L).length) (by rw[ak];exact s2);have e7:((eN L).map λw=>fv (pl w.1 w.2)).length=(eN L).length:=ak ..;have e6:bA (.int 2) (.int ((((eN L).map λw=>fv (pl w.1 w.2)).length:Nat):Int))=some (.int ((2*(eN L).length:Nat):Int)):=by
  rw[e7];exact mI (.inl (.inl ⟨by decide,by omega⟩))
 have e8:((eN L).map λw=>fv (pl w.1 w.2)).length+((L.map fv).drop (2*(eN L).length)).length<=16777216:=by simp;omega
 have e9:(cR L).map fv=((eN L).map λw=>fv (pl w.1 w.2))++(L.map fv).drop (2*(eN L).length):=by
  rw[s1,ib,fg,List.map_drop];rfl
 rw[e9];generalize 2*(eN L).length=c2,L.map fv=LL,(od L).map fv=OL,(ev L).map fv=EL,(L.map fv).drop (2*(eN L).length)=DL,(((eN L).map λw=>fv (pl w.1 w.2)):AI)=PL,(((eN L).map λw=>PV.tup [fv w.1,fv w.2]):AI)=ZL at *;refine⟨some (.pv (.lst PL)),?_⟩;unfold wW;generalize (aR oG [] (aB (aA 0) (aB (aA 1) aD)))=ME1 at *;refine sq (ρ':=[some (.pv (.lst LL)),some (.pv (.lst PL))]) (S':=S) ?_ ?_
 .simp! [aE,aX,aW,aJ,aO,aL,aN,aM,aG,aK,bE,cG,gU,lD,oP,Ps,cV,dJ,fE,cK,e1,e2,e3,e4]
 .simp! [aE,aX,aW,aJ,aO,aL,aN,aM,aG,aK,dP,cV,dJ,fE,e5,e6,e8]
theorem Na:∀(L:List (Int×Int)),(cR L).length=(L.length+1)/2
 |[]=>rfl
 |[_]=>by simp[cR]
 |a::b::L=>by
  unfold cR;rw[bo,bo,bo,Na L];omega
theorem Hb{k:Nat}:∀(L:List (Int×Int)),(∀u∈L,Fq k u)->∀u∈cR L,Fq (2*k+1) u
 |[],h,u,hu=>by cases hu
 |[a],h,u,hu=>(h u hu).mono (by omega)
 |a::b::L,h,u,hu=>by
  unfold cR at hu;rcases bc.mp hu with rfl |hu
  .exact(Od (h a (by simp)) (h b (by simp))).2.1
  .exact Hb L (λv hv=>h v (bh _ (bh _ hv))) u hu
def fN:Nat->List (Int×Int)->List (Int×Int)
 |0,L=>L
 |m+1,L=>if L.length<=1 then L else fN m (cR L)
abbrev tL:MT:=bF (aC eI (mR cL (aB (aA 0) aD)) (mC (.int 1)))
theorem Hi(S:aH):∀(m k:Nat)(L:List (Int×Int))(x:AK),L.length<=1000->L.length<=2^m->2^m*(k+1)<=7000->(∀u∈L,Fq k u)->∃n y,dL tL wW n [some (.pv (.lst (L.map fv))),x] S=.nx [some (.pv (.lst ((fN m L).map fv))),y] S/\(fN m L).length<=1
 |m,k,L,x,h10,hm,hk,h=>by
  by_cases h1:L.length<=1
  .refine⟨1,x,?_,?_⟩
   .have c:tL [some (.pv (.lst (L.map fv))),x] S=.ok false S:=by
     unfold tL;have:decide ((1:Int)<(L.length:Int))=false:=by simp;omega
     simp! [aE,aX,aW,aJ,aO,aL,aN,aM,aG,aK,this]
    have er:fN m L=L:=by
     cases m with
     |zero=>rfl
     |succ m=>unfold fN;rw[if_pos h1]
    unfold dL;rw[c,er];rfl
   .cases m with
    |zero=>exact h1
    |succ m=>unfold fN;rw[if_pos h1];exact h1
  .match m,hm,hk with
   |0,hm,_=>exact absurd hm (by simpa using h1)
   |m+1,hm,hk=>
    have hk2:2*k+1<=7000:=by
     have:2<=2^(m+1):=by
      rw[qr];have:=sv m;omega
     have:=Nat.mul_le_mul_right (k+1) this;omega
    obtain⟨y,e⟩:=Xy S x hk2 L (by omega) h10 h;have hl:=Na L;have hp:2^(m+1)=2*2^m:=by rw[qr];omega
    obtain⟨n,z,e2,l2⟩:=Hi S m (2*k+1) (cR L) y (by omega) (by omega) (by
     rw[hp]at hk;have:2*2^m*(k+1)=2^m*(2*k+1+1):=by
      rw[Nat.mul_comm 2,Nat.mul_assoc];congr 1
     omega) (Hb L h)
    have er:fN (m+1) L=fN m (cR L):=by
     show(if L.length<=1 then L else fN m (cR L))=_;rw[if_neg h1]
    refine⟨n+1,z,?_,by rw[er];exact l2⟩;have c:tL [some (.pv (.lst (L.map fv))),x] S=.ok true S:=by
     unfold tL;have:decide ((1:Int)<(L.length:Int))=true:=by simp;omega
     simp! [aE,aX,aW,aJ,aO,aL,aN,aM,aG,aK,this]
    unfold dL;rw[c,er];show(match wW _ S with |.nx ρ2 S2=>_ |.ct ρ2 S2=>_ |.bk ρ2 S2=>_ |.rt v S2=>_ |.exc n S2=>_ |.fail=>_)=_
    rw[e];exact e2
def lF(L:List (Int×Int)):Int×Int:=match fN 4 L with
 |[]=>(0,1)
 |u::_=>u
theorem Cy(S:aH){m k:Nat}{L:List (Int×Int)}(h10:L.length<=1000)(hm:L.length<=2^m)(m4:m<=4)(hk:2^m*(k+1)<=7000)(h:∀u∈L,Fq k u):vF [.pv (.lst (L.map fv))] S=.ok (.pv (fv (lF L))) S:=by
 obtain⟨n,y,e,l⟩:=Hi S m k L none h10 hm hk h;have w:=rQ e (by simp);have er:∀(i j:Nat)(L:List (Int×Int)),i<=j->(fN i L).length<=1->fN j L=fN i L:=by
  intro i
  induction i with
  |zero=>
   intro j L _ hl;cases j with
   |zero=>rfl
   |succ j=>
    show(if L.length<=1 then L else _)=L;have hl:L.length<=1:=hl;rw[if_pos hl]
  |succ i ih=>
   intro j L hij hl;cases j with
   |zero=>omega
   |succ j=>
    show(if L.length<=1 then L else fN j (cR L))=(if L.length<=1 then L else fN i (cR L));split
    .rfl
    .rename_i hn
     have hl:(if L.length<=1 then L else fN i (cR L)).length<=1:=hl;rw[if_neg hn]at hl;exact ih j (cR L) (by omega) hl
 have e4:=er m 4 L m4 l;unfold lF;rw[e4];generalize fN m L=R at w l;unfold vF aY Eb
 match R,l with
 |[],_=>
  simp only[cr]at w;simp! [aE,aX,aW,aJ,aO,aL,aN,aM,aG,aK,w,tJ,wM]
 |[u],_=>
  simp only[ay,cr]at w;simp! [aE,aX,aW,aJ,aO,aL,aN,aM,aG,aK,w,tJ,wM]
def vp(n:Nat)(uss:AC):Int×Int:=((vf n uss).getD 0 0,(vf n uss).getD 1 0)
theorem sS{n k:Nat}(hn:n=2\/n=3){uss:AC}(h:Sx n k uss):tv (vf n uss)=fv (vp n uss)/\Fq (4*k+6) (vp n uss):=by
 obtain⟨p,q,e,hq,b1,b2⟩:=abK hn h;have ep:vp n uss=(p,q):=by unfold vp;rw[e];rfl
 rw[ep,e];exact⟨rfl,hq,b1,b2,Gh (da (aw (qH n) (kZ h.gu))) e⟩
theorem Qn{n k m:Nat}(hn:n=2\/n=3)(S:aH){hs:AD}{A:PV}(hA:Sv A (hs.map px))(h:∀uss∈hs,Sx n k uss)(hk:k<=900)(h10:hs.length<=1000)(hm:hs.length<=2^m)(m4:m<=4)(hb:2^m*(4*k+7)<=7000):nZ [.pv A] S=.ok (.pv (fv (lF (hs.map (vp n))))) S:=by
 have e:cD [] (gN 0) (aR pO [] (aB (aA 0) aD)) (hs.map px) [none] S=.ok (hs.map λuss=>fv (vp n uss)) S:=by
  refine pK (kG S) px (λuss=>fv (vp n uss)) hs none λuss hu=>?_;have e1:=Jx hn hk S (h uss hu);rw[(sS hn (h uss hu)).1]at e1;simp! [aE,aX,aW,aJ,aO,aL,aN,aM,aG,aK,e1]
 have t:=Cy S (L:=hs.map (vp n)) (m:=m) (k:=4*k+6) (by simpa using h10) (by simpa using hm) m4 hb (λu hu=>by
  obtain⟨uss,hm,rfl⟩:=ix.mp hu;exact(sS hn (h uss hm)).2)
 rw[fg]at t;have et:(hs.map λuss=>fv (vp n uss))=hs.map (fv∘vp n):=rfl;rw[et]at e;unfold nZ aY Xb;rcases hA with rfl |rfl<;>simp! [aE,aX,aW,aJ,aO,aL,aN,aM,aG,aK,bE,cG,bJ,cK,e,t]
def Fin(n k:Nat)(P:AC)(X:AD):Prop:=X=[P]\/∃(p q m:AA)(R:AC)(u v:Int),0<u/\0<v/\fU n u v p q m/\Gu n k m/\P.Perm (p::q::R)/\X=[cC (m::q::R),cC (p::m::R)]
def tW(n k:Nat):AD->AD->Prop
 |[],gs=>gs=[]
 |P::hs,gs=>∃X Y,Fin n k P X/\tW n k hs Y/\gs=X++Y
theorem zU{α:Type}:∀{L:List α}{i:Nat}{x:α},L[i]?=some x->L.Perm (x::L.eraseIdx i)
 |a::L,0,x,h=>by
  simp at h;subst h;exact List.Perm.refl _
 |a::L,i+1,x,h=>((zU (L:=L) (i:=i) (by simpa using h)).cons a).trans (List.Perm.swap x a _)
theorem C9{α:Type}{P:List α}{i j:Nat}{p q m:α}(hij:i≠j)(hp:P[i]?=some p)(hq:P[j]?=some q):∃R,P.Perm (p::q::R)/\(P.set i m).Perm (m::q::R)/\(P.set j m).Perm (p::m::R):=by
 have one:∀{L:List α}{i:Nat}{x:α},L[i]?=some x->L.Perm (x::L.eraseIdx i):=zU;have il:i<P.length:=(ca.mp hp).1;have jl:j<P.length:=(ca.mp hq).1;have s1:(P.set i m).Perm (m::P.eraseIdx i):=by
  have:=one (L:=P.set i m) (i:=i) (x:=m) (de il);rw[yk]at this;exact this
 have s2:(P.set j m).Perm (p::(P.set j m).eraseIdx i):=one (by rw[dz (gr hij)];exact hp);rcases Nat.lt_or_ge j i with c |c
 .have hq':(P.eraseIdx i)[j]?=some q:=by rw[List.getElem?_eraseIdx_of_lt c];exact hq
  have jl':j<(P.eraseIdx i).length:=(ca.mp hq').1;refine⟨(P.eraseIdx i).eraseIdx j,(one hp).trans ((one hq').cons _),s1.trans ((one hq').cons _),?_⟩;rw[List.eraseIdx_set_gt c]at s2;have:=one (L:=(P.eraseIdx i).set j m) (i:=j) (x:=m) (de jl');rw[yk]at this;exact s2.trans (this.cons _)
 .have c':i<j:=by omega
  have hq':(P.eraseIdx i)[j-1]?=some q:=by rw[List.getElem?_eraseIdx_of_ge (by omega),Nat.sub_add_cancel (by omega)];exact hq
  have jl':j-1<(P.eraseIdx i).length:=(ca.mp hq').1;refine⟨(P.eraseIdx i).eraseIdx (j-1),(one hp).trans ((one hq').cons _),s1.trans ((one hq').cons _),?_⟩;rw[List.eraseIdx_set_lt c']at s2;have:=one (L:=(P.eraseIdx i).set (j-1) m) (i:=j-1) (x:=m) (de jl');rw[yk]at this;exact s2.trans (this.cons _)
theorem abw{n k l:Nat}(hn:n=2\/n=3)(hkl:k<=l)(hl:l<=1000){u v:Int}(hu:0<u)(hv:0<v){P:AC}(h:Sx n k P){i j:Nat}{p q m:AA}(hij:i≠j)(hp:P[i]?=some p)(hq:P[j]?=some q)(hm:fU n u v p q m)(gm:Gu n l m):Fin n l P [cC (P.set i m),cC (P.set j m)]/\Sx n l (cC (P.set i m))/\Sx n l (cC (P.set j m)):=by
 obtain⟨R,q0,q1,q2⟩:=C9 (m:=m) hij hp hq;have g0:∀x∈p::q::R,Gu n k x:=λx hx=>h.gu x (q0.mem_iff.mpr hx);have l0:(p::q::R).length=n+1:=by rw[<-q0.length_eq];exact h.len
 have l1:(m::q::R).length=n+1:=l0;have l2:(p::m::R).length=n+1:=l0;have g1:∀x∈m::q::R,Gu n l x:=λx hx=>by
  rcases bc.mp hx with rfl |hx
  .exact gm
  .exact(g0 x (bh _ hx)).mono hkl
 have g2:∀x∈p::m::R,Gu n l x:=λx hx=>by
  rcases bc.mp hx with rfl |hx
  .exact(g0 x (by simp)).mono hkl
  .rcases bc.mp hx with rfl |hx
   .exact gm
   .exact(g0 x (by simp[hx])).mono hkl
 obtain⟨e,d1,d2⟩:=Jq hn hu hv l0 (λx hx=>(g0 x hx).pt) hm;have c0:cC (p::q::R)=P:=by rw[<-uH q0 (jH hn l0)];exact h.cn
 have c1:cC (P.set i m)=cC (m::q::R):=uH q1 (jH hn l1);have c2:cC (P.set j m)=cC (p::m::R):=uH q2 (jH hn l2);have nz0:dU (p::q::R)≠0:=λz=>by
  have:=lS hn (dy hkl hl) l0 g0;rw[c0,z]at this;exact h.nz this
 have nz1:dU (m::q::R)≠0:=λz=>by
  rw[z]at d1;exact nz0 (Km.mp d1.symm)
 have nz2:dU (p::m::R)≠0:=λz=>by
  rw[z]at d2;exact nz0 (Km.mp d2.symm)
 rw[c1,c2];exact⟨.inr ⟨p,q,m,R,u,v,hu,hv,hm,gm,q0,rfl⟩,wJ hn hl l1 g1 nz1,wJ hn hl l2 g2 nz2⟩
abbrev Ue:ME:=(aC aG (aC bA (aC bA (aA 1) (aC aE (aA 4) (aA 0))) (aC aE (aA 2) (bQ cE (mC (.int 1))))) (aC bA (aC bA (aA 3) (aC aE (aA 2) (aA 0))) (aC aE (aA 4) (bQ cE (mC (.int 1))))))
theorem sH{S:aH}{p q:PV}{j u v x y a b:Int}{k:Nat}(hk:k<=1000)(e1:aE p (.int j)=some (.int x))(e2:aE q (.int j)=some (.int y))(e3:aE p (.int (-1))=some (.int a))(e4:aE q (.int (-1))=some (.int b))(hu:Bd 3 u)(hv:Bd 3 v)(hx:Bd k x)(hy:Bd k y)(ha:Bd k a)(hb:Bd k b):Ue [some (.pv (.int j)),some (.pv (.int u)),some (.pv q),some (.pv (.int v)),some (.pv p)] S=.ok (.pv (.int (u*x*b+v*y*a))) S:=by
 have m1:=fM hu hx (by decide) (by omega);have m2:=fM (hu.mul hx) hb (by omega) (by omega);have m3:=fM hv hy (by decide) (by omega);have m4:=fM (hv.mul hy) ha (by omega) (by omega);unfold Ue;simp! [bP,aO,aL,aN,aM,aG,aK,e1,e2,e3,e4,m1,m2,m3,m4]
theorem sX{k:Nat}{u v x y a b:Int}(hu:Bd 3 u)(hv:Bd 3 v)(hx:Bd k x)(hy:Bd k y)(ha:Bd k a)(hb:Bd k b):Bd (2*k+6) (u*x*b+v*y*a):=((((hu.mul hx).mul hb).mono (show 3+k+k<=2*k+3 by omega)).add (((hv.mul hy).mul ha).mono (show 3+k+k<=2*k+3 by omega))).mono (by omega)
theorem iY{n k:Nat}{us:AA}(h:Gu n k us):∀x∈us,Bd k x:=λx hx=>by
 obtain⟨xs,w,rfl,P⟩:=h;rcases cq.mp hx with h |h
 .exact P.bx x h
 .have:x=w:=by simpa using h
  rw[this];exact P.bw
theorem abo{n k:Nat}(hn:n=2\/n=3)(hk:k<=410){p q:AA}(gp:Gu n k p)(gq:Gu n k q){u v:Int}(u0:0<u)(u1:u<=3)(v0:0<v)(v1:v<=3):∃(L:AA)(a b:Int)(m:AA),L.length=n/\aE (tv p) (.int (-1))=some (.int a)/\aE (tv q) (.int (-1))=some (.int b)/\Bd k a/\Bd k b/\(∀S,cD [] (gN 0) Ue (cB 0 n) [none,some (.pv (.int u)),some (.pv (tv q)),some (.pv (.int v)),some (.pv (tv p))] S=.ok (L.map .int) S)/\(∀S,jU [.pv (.lst (L.map .int++[.int ((u+v)*a*b)]))] S=.ok (.pv (tv m)) S)/\fU n u v p q m/\Gu n (2*k+6) m:=by
 have hu:Bd 3 u:=Bd.of (n:=3) (by omega) (by decide);have hv:Bd 3 v:=Bd.of (n:=3) (by omega) (by decide);have huv:Bd 6 (u+v):=Bd.of (n:=6) (by omega) (by decide);have fin:∀{L:AA}{a b:Int},L.length=n->(∀x∈L,Bd (2*k+6) x)->0<a->0<b->Bd k a->Bd k b->∃zs z,(∀S,jU [.pv (.lst (L.map .int++[.int ((u+v)*a*b)]))] S=.ok (.pv (tv (zs++[z]))) S)/\zs.length=n/\0<z/\(∀j,j<n->zs.getD j 0*((u+v)*a*b)=L.getD j 0*z)/\Gu n (2*k+6) (zs++[z]):=λ{L a b} hl hL a0 b0 ha hb=>by
  have bb:Bd (2*k+6) ((u+v)*a*b):=((huv.mul ha).mul hb).mono (by omega);obtain⟨zs,z,e1,P,e2⟩:=Jb (n:=n) (k:=2*k+6) (L:=L) (b:=(u+v)*a*b) (aw (aw (by omega) a0) b0) hl hL bb;refine⟨zs,z,λS=>?_,P.len,P.pos,e2,zs,z,rfl,P⟩;have e:=rP (L++[(u+v)*a*b]) S λx hx=>by
   rcases cq.mp hx with h |h
   .exact(hL x h).mono (by omega)
   .have:x=(u+v)*a*b:=by simpa using h
    rw[this];exact bb.mono (by omega)
  rw[e1,ib]at e;exact e
 rcases hn with rfl |rfl
 .obtain⟨x0,y0,w0,rfl,P⟩:=gp.two (by omega)
  obtain⟨x1,y1,w1,rfl,Q⟩:=gq.two (by omega);have bp:Bd k x0/\Bd k y0/\Bd k w0:=⟨iY gp _ (by simp),iY gp _ (by simp),iY gp _ (by simp)⟩;have bq:Bd k x1/\Bd k y1/\Bd k w1:=⟨iY gq _ (by simp),iY gq _ (by simp),iY gq _ (by simp)⟩;obtain⟨p1,p2,p3⟩:=bp;obtain⟨q1,q2,q3⟩:=bq;obtain⟨zs,z,e1,l1,z0,e2,G⟩:=fin (L:=[u*x0*w1+v*x1*w0,u*y0*w1+v*y1*w0]) (a:=w0) (b:=w1) rfl (λx hx=>by
   simp only[bc,fi,or_false]at hx;rcases hx with rfl |rfl
   .exact sX hu hv p1 q1 p3 q3
   .exact sX hu hv p2 q2 p3 q3) P.pos Q.pos p3 q3
  have f3:aE (tv [x0,y0,w0]) (.int (-1))=some (.int w0):=rfl;have f4:aE (tv [x1,y1,w1]) (.int (-1))=some (.int w1):=rfl;refine⟨_,w0,w1,zs++[z],rfl,f3,f4,p3,q3,λS=>?_,e1,⟨⟨zs,z,rfl,l1,z0⟩,λj hj=>?_⟩,G⟩
  .have s0:=sH (S:=S) (k:=k) (by omega) (j:=0) (p:=tv [x0,y0,w0]) (q:=tv [x1,y1,w1]) rfl rfl f3 f4 hu hv p1 q1 p3 q3
   have s1:=sH (S:=S) (k:=k) (by omega) (j:=1) (p:=tv [x0,y0,w0]) (q:=tv [x1,y1,w1]) rfl rfl f3 f4 hu hv p2 q2 p3 q3;have i1:cB 0 2=[.int 0,.int 1]:=rfl;rw[i1];generalize tv [x1,y1,w1]=T2,tv [x0,y0,w0]=T1 at *;simp[eA,dZ,gN,s0,s1]
  .match zs,l1 with
   |[a,b],_=>
    have h0:=e2 0 (by decide);have h1:=e2 1 (by decide)
    match j,hj with
    |0,_=>exact h0
    |1,_=>exact h1
    |2,_=>
     show z*((u+v)*w0*w1)=(u*w0*w1+v*w1*w0)*z;grind
 .obtain⟨x0,y0,t0,w0,rfl,P⟩:=gp.three (by omega)
  obtain⟨x1,y1,t1,w1,rfl,Q⟩:=gq.three (by omega);have bp:Bd k x0/\Bd k y0/\Bd k t0/\Bd k w0:=⟨iY gp _ (by simp),iY gp _ (by simp),iY gp _ (by simp),iY gp _ (by simp)⟩;have bq:Bd k x1/\Bd k y1/\Bd k t1/\Bd k w1:=⟨iY gq _ (by simp),iY gq _ (by simp),iY gq _ (by simp),iY gq _ (by simp)⟩;obtain⟨p1,p2,p4,p3⟩:=bp;obtain⟨q1,q2,q4,q3⟩:=bq;obtain⟨zs,z,e1,l1,z0,e2,G⟩:=fin (L:=[u*x0*w1+v*x1*w0,u*y0*w1+v*y1*w0,u*t0*w1+v*t1*w0]) (a:=w0) (b:=w1) rfl (λx hx=>by
   simp only[bc,fi,or_false]at hx;rcases hx with rfl |rfl |rfl
   .exact sX hu hv p1 q1 p3 q3
   .exact sX hu hv p2 q2 p3 q3
   .exact sX hu hv p4 q4 p3 q3) P.pos Q.pos p3 q3
  have f3:aE (tv [x0,y0,t0,w0]) (.int (-1))=some (.int w0):=rfl;have f4:aE (tv [x1,y1,t1,w1]) (.int (-1))=some (.int w1):=rfl;refine⟨_,w0,w1,zs++[z],rfl,f3,f4,p3,q3,λS=>?_,e1,⟨⟨zs,z,rfl,l1,z0⟩,λj hj=>?_⟩,G⟩
  .have s0:=sH (S:=S) (k:=k) (by omega) (j:=0) (p:=tv [x0,y0,t0,w0]) (q:=tv [x1,y1,t1,w1]) rfl rfl f3 f4 hu hv p1 q1 p3 q3
   have s1:=sH (S:=S) (k:=k) (by omega) (j:=1) (p:=tv [x0,y0,t0,w0]) (q:=tv [x1,y1,t1,w1]) rfl rfl f3 f4 hu hv p2 q2 p3 q3;have s2:=sH (S:=S) (k:=k) (by omega) (j:=2) (p:=tv [x0,y0,t0,w0]) (q:=tv [x1,y1,t1,w1]) rfl rfl f3 f4 hu hv p4 q4 p3 q3;have i1:cB 0 3=[.int 0,.int 1,.int 2]:=rfl;rw[i1];generalize tv [x1,y1,t1,w1]=T2,tv [x0,y0,t0,w0]=T1 at *;simp[eA,dZ,gN,s0,s1,s2]
  .match zs,l1 with
   |[a,b,c],_=>
    have h0:=e2 0 (by decide);have h1:=e2 1 (by decide);have h2:=e2 2 (by decide)
    match j,hj with
    |0,_=>exact h0
    |1,_=>exact h1
    |2,_=>exact h2
    |3,_=>
     show z*((u+v)*w0*w1)=(u*w0*w1+v*w1*w0)*z;grind
theorem E7{n k:Nat}(hn:n=2\/n=3)(hk:k<=410){S:aH}{ns:AA}(h:eJ S 0 ns){P:AC}(hP:Sx n k P):∃(A B:AC)(ns':AA),pN [.ref 0,.pv (px P)] S=.ok (.pv (.lst [px A,px B])) (S.set 0 (.lst (ns'.map .int)))/\Fin n (2*k+6) P [A,B]/\Sx n (2*k+6) A/\Sx n (2*k+6) B:=by
 have hl:=hP.len;have l0:(P.map tv).length=n+1:=by rw[ak];exact hl
 obtain⟨i,n1,e1,i0,i1,_⟩:=iS (m:=((P.map tv).length:Int)) h (by omega) (iL (by omega) (by omega));obtain⟨t,n2,e2,t0,t1,_⟩:=iS (m:=(n:Int)) (h.set n1) (by omega) (iL (by omega) (by omega));obtain⟨u,n3,e3,u0,u1,_⟩:=iS (m:=3) ((h.set n1).set n2) (by decide) (iL (by decide) (by decide));obtain⟨v,n4,e4,v0,v1,_⟩:=iS (m:=3) (((h.set n1).set n2).set n3) (by decide) (iL (by decide) (by decide));simp only[mq]at e2 e3 e4;have h4:eJ (S.set 0 (.lst (n4.map .int))) 0 n4:=h.set n4;obtain⟨jn,ej,jl,ij⟩:∃jn:Nat,(i+1+t).fmod ((P.map tv).length:Int)=(jn:Int)/\jn<n+1/\i≠(jn:Int):=by
  rw[l0];rw[Int.fmod_eq_emod_of_nonneg _ (by omega)];have b0:=zq (i+1+t) (b:=((n+1:Nat):Int)) (by omega);have b1:=Int.emod_lt_of_pos (i+1+t) (b:=((n+1:Nat):Int)) (by omega);refine⟨((i+1+t)%((n+1:Nat):Int)).toNat,by omega,by omega,?_⟩;rcases hn with rfl |rfl<;>omega
 obtain⟨iN,rfl⟩:∃iN:Nat,i=(iN:Int):=⟨i.toNat,by omega⟩;have il:iN<P.length:=by omega
 have jl2:jn<P.length:=by omega
 have gp:=hP.gu _ (fj il);have gq:=hP.gu _ (fj jl2);obtain⟨L,a,b,m,hL,ea,eb,ba,bb,ec,el,Md,Gm⟩:=abo hn hk gp gq (u:=1+u) (v:=1+v) (by omega) (by omega) (by omega) (by omega);have ip:aE (.tup (P.map tv)) (.int (iN:Int))=some (tv P[iN]):=kW (by rw[bj,au il];rfl);have iq:aE (.tup (P.map tv)) (.int (jn:Int))=some (tv P[jn]):=kW (by rw[bj,au jl2];rfl);obtain⟨hh,sA,sB⟩:=abw hn (show k<=2*k+6 by omega) (by omega) (u:=1+u) (v:=1+v) (by omega) (by omega) hP (i:=iN) (j:=jn) (by omega) (au il) (au jl2) Md Gm;refine⟨cC (P.set iN m),cC (P.set jn m),n4,?_,hh,sA,sB⟩;have gA:∀(x:Nat),∀us∈P.set x m,Gu n 1000 us:=λx us hu=>by
  rcases yh hu with z |z
  .exact(hP.gu us z).mono (by omega)
  .rw[z];exact Gm.mono (by omega)
 have lA:∀x,(P.set x m).length=n+1:=λx=>by rw[dj];exact hl
 have mo:fB (.int ((iN:Int)+1+t)) (.int ((P.map tv).length:Int))=some (.int (jn:Int)):=by rw[<-ej];exact lQ (by omega)
 have hn1:((P.map tv).length:Int)-1=(n:Int):=by omega
 have rg:=jS (S.set 0 (.lst (n4.map .int))) (n:=n) (by omega);have lp:∃TL,tv P[iN]=.tup TL/\(TL.length:Int)-1=(n:Int):=by
  obtain⟨xs,w,e,Q⟩:=gp;refine⟨(P[iN]).map .int,rfl,?_⟩;rw[e];have:=Q.len;simp;omega
 obtain⟨TL,lp,hn2⟩:=lp;have m1:=fM (show Bd 6 ((1+u)+(1+v)) from Bd.of (n:=6) (by omega) (by decide)) ba (by decide) (by omega);have m2:=fM ((show Bd 6 ((1+u)+(1+v)) from Bd.of (n:=6) (by omega) (by decide)).mul ba) bb (by omega) (by omega);have el:=el (S.set 0 (.lst (n4.map .int)));have ec:=ec (S.set 0 (.lst (n4.map .int)));have lz:(L.map PV.int).length+1<=16777216:=by
  have:=ec;have q:L.length=n:=hL;rw[ak];omega
 have s4:(S.set 0 (SO.lst (n4.map .int))).length=S.length:=by simp
 have rdx:∀(x c:Nat)(S':aH),S'[c]?=some (.lst ((P.map tv).set x (tv m)))->jE [.ref c] S'=.ok (.pv (.tup ((cC (P.set x m)).map tv))) S':=λx c S' hc=>Ag (A:=.lst ((P.set x m).map tv)) hn S' (by rw[pq];simp only[rd];rw[hc]) (lA x) (gA x) (.inl rfl);have hx:∀x:Nat,x<n+1->aW (P.map tv).length (x:Int)=some x:=λx hx=>by
  unfold aW;rw[if_pos (by omega),if_pos (by omega)];simp
 have hi:=hx iN (by omega);have hj:=hx jn jl;have lo:hU [.tup (P.map tv)]=some (.lst (P.map tv)):=by simp[hU]
 rw[lp]at ip ea ec;have e2:dC [.ref 0,.pv (.int (n:Int))] (S.set 0 (.lst (n1.map .int)))=.ok (.pv (.int t)) (S.set 0 (.lst (n2.map .int))):=e2;show pN [.ref 0,.pv (.tup (P.map tv))] S=.ok (.pv (.lst [.tup ((cC (P.set iN m)).map tv),.tup ((cC (P.set jn m)).map tv)])) (S.set 0 (.lst (n4.map .int)));have r1:=rdx iN;have r2:=rdx jn;clear gp gq hh sA sB gA lA hP Md Gm ij ej i1 hl h h4 l0 ba bb lp rdx hx;generalize L.map PV.int=LL,P.map tv=PL,tv m=TM,tv P[jn]=TQ,S.set 0 (SO.lst (n1.map .int))=S1,S.set 0 (SO.lst (n2.map .int))=S2,S.set 0 (SO.lst (n3.map .int))=S3,S.set 0 (SO.lst (n4.map .int))=S4,(cC (P.set jn m)).map tv=CB,(cC (P.set iN m)).map tv=CA at *;have g1:(S4++[SO.lst PL])[S4.length]?=some (.lst PL):=oj;have E5:(S4++[SO.lst PL]).set S4.length (.lst (PL.set iN TM))=S4++[.lst (PL.set iN TM)]:=by simp
 have q5:(S4++[SO.lst (PL.set iN TM)])[S4.length]?=some (.lst (PL.set iN TM)):=oj;have t5:(S4++[SO.lst (PL.set iN TM)]).take S.length=S4:=by rw[<-s4,f6]
 have l5:S.length<=(S4++[SO.lst (PL.set iN TM)]).length:=by simp;omega
 generalize S4++[SO.lst (PL.set iN TM)]=S5 at *;have g2:(S5++[SO.lst PL])[S5.length]?=some (.lst PL):=oj;have E6:(S5++[SO.lst PL]).set S5.length (.lst (PL.set jn TM))=S5++[.lst (PL.set jn TM)]:=by simp
 have rd1:=r1 S4.length (S5++[.lst (PL.set jn TM)]) (gx q5);have rd2:=r2 S5.length (S5++[.lst (PL.set jn TM)]) oj;have tk:(S5++[SO.lst (PL.set jn TM)]).take S.length=S4:=by rw[List.take_append_of_le_length l5,t5]
 generalize (jn:Int)=j,(iN:Int)=i,S5++[SO.lst (PL.set jn TM)]=S6 at *;unfold pN zW;apply Ud rfl;rw[show gL 12 [AV.ref 0,.pv (.tup PL)]=[some (.ref 0),some (.pv (.tup PL)),none,none,none,none,none,none,none,none,none,none] from rfl];apply sq;simp! [bP,aO,aL,aN,aM,aG,aK,e1];exact⟨rfl,rfl⟩;apply sq;simp! [bP,aO,aL,aN,aM,aG,aK,hn1,e2,mo];exact⟨rfl,rfl⟩;apply sq;simp! [bP,aO,aL,aN,aM,aG,aK,e3];exact⟨rfl,rfl⟩;apply sq;simp! [bP,aO,aL,aN,aM,aG,aK,e4];exact⟨rfl,rfl⟩;apply sq;simp! [bP,aO,aL,aN,aM,aG,aK,ip];exact⟨rfl,rfl⟩;apply sq;simp! [bP,aO,aL,aN,aM,aG,aK,iq];exact⟨rfl,rfl⟩;apply sq;simp! [bP,aO,aL,aN,aM,aG,aK,bE,cG,bZ,hn2,rg,ec];exact⟨rfl,rfl⟩;apply sq;simp! [bP,aO,aL,aN,aM,aG,aK,ea,eb,m1,m2,lz,el];exact⟨rfl,rfl⟩;apply sq;simp! [bP,aO,aL,aN,aM,aG,aK,qL,xF,lo];exact⟨rfl,rfl⟩;apply sq;simp! [bP,aO,aL,aN,aM,aG,aK,kJ,mS,eL,g1,hi,E5];exact⟨rfl,rfl⟩;apply sq;simp! [bP,aO,aL,aN,aM,aG,aK,qL,xF,lo];exact⟨rfl,rfl⟩;apply sq;simp! [bP,aO,aL,aN,aM,aG,aK,kJ,mS,eL,g2,hj,E6];exact⟨rfl,rfl⟩;simp! [bP,aO,aL,aN,aM,aG,aK,rd1,rd2];exact⟨rfl,rfl⟩;simp[jG,tk]
theorem Sx.mono{n k l:Nat}{u:AC}(h:Sx n k u)(hl:k<=l):Sx n l u:=⟨h.len,λus hu=>(h.gu us hu).mono hl,h.nz,h.cn⟩
def rD:MS:=(cO (bF (aC eI (aR dC [] (aB (aA 0) (aB (mC (.int 3)) aD))) (mC (.int 0)))) (aS 2 (sV (aA 2) (aR pN [] (aB (aA 0) (aB (aA 3) aD))))) (dM (dF (aA 2) (aB (aA 3) aD))))
def qZ:MT:=(bF (aC eI (mR cL (aB (aA 2) aD)) (mC (.int 0))))
def tV:MS:=(dM (dF (aA 4) (aB (kM (aA 2) (aB (aR dC [] (aB (aA 0) (aB (mR cL (aB (aA 2) aD)) aD))) aD)) aD)))
theorem P5{n k:Nat}(hn:n=2\/n=3)(hk:k<=410){S:aH}{ns:AA}{c:Nat}{G:AD}(h:eJ S 0 ns)(hc:S[c]?=some (.lst (G.map px)))(c1:1<=c)(hG:G.length<=1000){P:AC}(hP:Sx n k P)(x1 x4:AK):∃(S':aH)(c':Nat)(X:AD)(ns':AA),rD [some (.ref 0),x1,some (.ref c),some (.pv (px P)),x4] S=.nx [some (.ref 0),x1,some (.ref c'),some (.pv (px P)),x4] S'/\eJ S' 0 ns'/\S'[c']?=some (.lst ((G++X).map px))/\1<=c'/\Fin n (2*k+6) P X/\(∀u∈X,Sx n (2*k+6) u)/\X.length<=2/\0<X.length:=by
 obtain⟨t,n1,e1,t0,t1,_⟩:=iS (m:=3) h (by decide) (iL (by decide) (by decide));have h1:=h.set n1;have hc1:(S.set 0 (SO.lst (n1.map .int)))[c]?=some (.lst (G.map px)):=gs hc (by omega);have cl:c<S.length:=(ca.mp hc).1
 by_cases z:0<t
 .obtain⟨A,B,n2,e2,hh,sA,sB⟩:=E7 hn hk h1 hP
  rw[mq]at e2;have hc2:(S.set 0 (SO.lst (n2.map .int)))[c]?=some (.lst (G.map px)):=gs hc (by omega);refine⟨S.set 0 (SO.lst (n2.map .int))++[.lst (G.map px++[px A,px B])],S.length,[A,B],n2,?_,gx (h.set n2),?_,by omega,hh,?_,by simp,by simp⟩
  .have lz:(G.map px).length+2<=16777216:=by rw[ak];omega
   have ll:(S.set 0 (SO.lst (n2.map .int))).length=S.length:=by simp
   rw[<-ll];unfold rD;generalize S.set 0 (SO.lst (n2.map .int))=S2,S.set 0 (SO.lst (n1.map .int))=S1,G.map px=GL,px P=XP,px B=XB,px A=XA at *;simp! [bP,aO,aL,aN,aM,aG,aK,e1,z,sV,e2,hc2,lz]
  .have ll:(S.set 0 (SO.lst (n2.map .int))).length=S.length:=by simp
   rw[<-ll,oj];simp
  .intro u hu
   simp only[bc,fi,or_false]at hu;rcases hu with rfl |rfl
   .exact sA
   .exact sB
 .refine⟨(S.set 0 (SO.lst (n1.map .int))).set c (.lst (G.map px++[px P])),c,[P],n1,?_,gs h1 (by omega),?_,c1,.inl rfl,?_,by simp,by simp⟩
  .have lz:(G.map px).length<16777216:=by rw[ak];omega
   unfold rD;generalize S.set 0 (SO.lst (n1.map .int))=S1,G.map px=GL,px P=XP at *;simp! [bP,aO,aL,aN,aM,aG,aK,e1,z,dF,eL,gM,hc1,lz]
  .rw[de (by simp;omega)]
   simp
  .intro u hu
   simp only[bc,fi,or_false]at hu;subst hu;exact hP.mono (by omega)
theorem Cm{n k:Nat}(hn:n=2\/n=3)(hk:k<=410)(x1 x4:AK):∀(hs G:AD)(S:aH)(ns:AA)(c:Nat)(x3:AK),eJ S 0 ns->S[c]?=some (.lst (G.map px))->1<=c->(∀u∈hs,Sx n k u)->(∀u∈G,Sx n (2*k+6) u)->G.length+2*hs.length<=200->∃(S':aH)(c':Nat)(G':AD)(ns':AA)(y3:AK),dN [] (gN 3) rD (hs.map px) [some (.ref 0),x1,some (.ref c),x3,x4] S=.nx [some (.ref 0),x1,some (.ref c'),y3,x4] S'/\eJ S' 0 ns'/\S'[c']?=some (.lst (G'.map px))/\1<=c'/\(∃Y,G'=G++Y/\tW n (2*k+6) hs Y)/\(∀u∈G',Sx n (2*k+6) u)/\G'.length<=G.length+2*hs.length/\G.length+hs.length<=G'.length
 |[],G,S,ns,c,x3,h,hc,c1,_,hG,_=>⟨S,c,G,ns,x3,fO,h,hc,c1,⟨[],by simp,rfl⟩,hG,by simp,by simp⟩
 |P::hs,G,S,ns,c,x3,h,hc,c1,hh,hG,hl=>by
  have hl:G.length+2*(hs.length+1)<=200:=hl;obtain⟨S1,cc,X,n1,e1,r1,g1,d1,q1,s1,l1,l2⟩:=P5 hn hk h hc c1 (by omega) (hh P bi) x1 x4;obtain⟨S2,c2,G2,n2,y3,e2,r2,g2,d2,q2,s2,l3,l4⟩:=Cm hn hk x1 x4 hs (G++X) S1 n1 cc (some (.pv (px P))) r1 g1 d1 (λu hu=>hh u (bh _ hu)) (λu hu=>by
   rcases cq.mp hu with z |z
   .exact hG u z
   .exact s1 u z) (by rw[bf];omega)
  refine⟨S2,c2,G2,n2,y3,?_,r2,g2,d2,?_,s2,by rw[bf]at l3;simp only[bo];omega,by rw[bf]at l4;simp only[bo];omega⟩
  .rw[ay,eK]
   simp only[gN,gi,dg];rw[e1];exact e2
  .obtain⟨Y,e,y⟩:=q2
   exact⟨X++Y,by rw[e,fz],X,Y,q1,y,rfl⟩
theorem Bo{n l:Nat}(x1 x3:AK){c d:Nat}(c1:1<=c)(d1:1<=d)(cd:c≠d):∀(m:Nat)(G T:AD)(S:aH)(ns:AA),G.length=m->eJ S 0 ns->S[c]?=some (.lst (G.map px))->S[d]?=some (.lst (T.map px))->(∀u∈G,Sx n l u)->(∀u∈T,Sx n l u)->G.length+T.length<=500->∃(S':aH)(T':AD)(ns':AA),dL qZ tV (m+1) [some (.ref 0),x1,some (.ref c),x3,some (.ref d)] S=.nx [some (.ref 0),x1,some (.ref c),x3,some (.ref d)] S'/\eJ S' 0 ns'/\S'[d]?=some (.lst (T'.map px))/\T'.Perm (T++G)/\(∀u∈T',Sx n l u)/\T'.length=T.length+G.length
 |0,G,T,S,ns,hm,h,hc,hd,_,hT,_=>by
  have e:G=[]:=po.mp hm;subst e;refine⟨S,T,ns,?_,h,hd,by simp,hT,by simp⟩;have hc:S[c]?=some (.lst []):=hc;unfold qZ;simp! [dL,bP,aO,aL,aN,aM,aG,aK,hc]
 |m+1,G,T,S,ns,hm,h,hc,hd,hG,hT,hl=>by
  obtain⟨t,n1,e1,t0,t1,_⟩:=iS (m:=((G.map px).length:Int)) h (by rw[ak];omega) (iL (by omega) (by rw[ak];omega));obtain⟨j,rfl⟩:∃j:Nat,t=j:=⟨t.toNat,by omega⟩;rw[ak]at t1;have jl:j<G.length:=by omega
  have hc1:(S.set 0 (SO.lst (n1.map .int)))[c]?=some (.lst (G.map px)):=gs hc (by omega);have hp:=Jp (k:=c) (j:=j) (v:=px G[j]) hc1 (by rw[bj,au jl];rfl) (by omega);rw[zA]at hp;have cl:c<S.length:=(ca.mp hc).1;have dl:d<S.length:=(ca.mp hd).1;have hd2:((S.set 0 (SO.lst (n1.map .int))).set c (.lst ((G.eraseIdx j).map px)))[d]?=some (.lst (T.map px)):=gs (gs hd (by omega)) cd;have pm:=zU (L:=G) (au jl);have le:(G.eraseIdx j).length=m:=by
   have:=pm.length_eq;simp only[bo]at this;omega
  obtain⟨S',T',n2,e2,r2,g2,q2,s2,l2⟩:=Bo x1 x3 c1 d1 cd m (G.eraseIdx j) (T++[G[j]]) (((S.set 0 (SO.lst (n1.map .int))).set c (.lst ((G.eraseIdx j).map px))).set d (.lst (T.map px++[px G[j]]))) n1 le (gs (gs (h.set n1) (by omega)) (by omega)) (gs (de (by simp;omega)) (gr cd)) (by rw[de (by simp;omega)];simp) (λu hu=>hG u (pm.mem_iff.mpr (bh _ hu))) (λu hu=>by
   rcases cq.mp hu with z |z
   .exact hT u z
   .have:u=G[j]:=by simpa using z
    rw[this];exact hG _ (fj jl)) (by rw[bf,jk];omega)
  refine⟨S',T',n2,?_,r2,g2,?_,s2,by rw[l2,bf,jk];omega⟩
  .have ec:qZ [some (.ref 0),x1,some (.ref c),x3,some (.ref d)] S=.ok true S:=by
    have gl:0<(G.map px).length:=by rw[ak];omega
    unfold qZ;generalize G.map px=GL at *;simp! [bP,aO,aL,aN,aM,aG,aK,hc,gl]
   have eb:tV [some (.ref 0),x1,some (.ref c),x3,some (.ref d)] S=.nx [some (.ref 0),x1,some (.ref c),x3,some (.ref d)] (((S.set 0 (SO.lst (n1.map .int))).set c (.lst ((G.eraseIdx j).map px))).set d (.lst (T.map px++[px G[j]]))):=by
    have lz:(T.map px).length<16777216:=by rw[ak];omega
    unfold tV;clear ec e2 r2 g2 q2 s2 l2;generalize S.set 0 (SO.lst (n1.map .int))=S1,T.map px=TL,G.map px=GL,(G.eraseIdx j).map px=EL,px G[j]=XP at *;generalize S1.set c (.lst EL)=S2 at *;simp! [bP,aO,aL,aN,aM,aG,aK,dF,eL,hd,kM,hc,e1,hc1,hp,gM,hd2,lz]
   rw[dL,ec];simp only[bV.of,↓reduceIte,eb,e2]
  .exact q2.trans (by rw[fz];exact(pm.symm.append_left T))
theorem Oh{n k:Nat}(hn:n=2\/n=3)(hk:k<=410)(ns:AA){hs:AD}(hh:∀u∈hs,Sx n k u)(hl:hs.length<=90):∃(gs:AD)(ns':AA),lL [.ref 0,.pv (.lst (hs.map px))] [.lst (ns.map .int)]=.ok (.ref 1) [.lst (ns'.map .int),.lst (gs.map px)]/\(∃Y,tW n (2*k+6) hs Y/\gs.Perm Y)/\(∀u∈gs,Sx n (2*k+6) u)/\gs.length<=2*hs.length/\hs.length<=gs.length:=by
 obtain⟨S1,c,G,n1,y3,e1,r1,g1,c1,q1,s1,l1,l1'⟩:=Cm hn hk (some (.pv (.lst (hs.map px)))) none hs [] [.lst (ns.map .int),.lst []] ns 1 none rfl rfl (by decide) hh (by simp) (by simp;omega);have cl:c<S1.length:=(ca.mp g1).1;obtain⟨S2,T,n2,e2,r2,g2,q2,s2,l2⟩:=Bo (some (.pv (.lst (hs.map px)))) y3 c1 (d:=S1.length) (by omega) (by omega) G.length G [] (S1++[.lst []]) n1 rfl (gx r1) (gx g1) oj s1 (by simp) (by simp at l1⊢;omega);have w:=rQ e2 (by simp);refine⟨T,n2,?_,?_,s2,by simp at l1 l2;omega,by simp at l1' l2;omega⟩;rotate_left
 .obtain⟨Y,e,y⟩:=q1
  rw[dh]at e q2;exact⟨Y,y,e▸q2⟩
 have tk:S2.take 1=[.lst (n2.map .int)]:=by
  have h0:S2[0]?=some (.lst (n2.map .int)):=r2
  match S2,h0 with
  |x::_,h0=>simp at h0;subst h0;rfl
 have d1:¬S1.length<1:=by omega
 have hb:zB=(aI (aS 2 (eE aD)) (aI (bS (bJ (aA 1)) (gN 3) rD) (aI (aS 4 (eE aD)) (aI (jW qZ tV) (bH (aA 4)))))):=rfl;unfold lL aY;rw[hb];clear e2;generalize rD=PB,jW qZ tV=WW,hs.map px=HL,T.map px=TL at *;have a1:(aS 4 (eE aD)) [some (.ref 0),some (.pv (.lst HL)),some (.ref c),y3,none] S1=.nx [some (.ref 0),some (.pv (.lst HL)),some (.ref c),y3,some (.ref S1.length)] (S1++[.lst []]):=by
  simp! [bP,aO,aL,aN,aM,aG,aK,eE,jJ]
 generalize S1.length=d,S1++[SO.lst []]=S3 at *;simp! [bP,aO,aL,aN,aM,aG,aK,eE,jJ,bS,bJ,cK]at a1⊢;simp! [bP,aO,aL,aN,aM,aG,aK,e1,a1,w,g2,tk,d1]<;>omega
theorem Zc{n:Nat}(hn:n=2\/n=3){u v:Int}{p q m:AA}(hp:Pw n p)(hq:Pw n q)(h:fU n u v p q m){Y:AC}(hY:∀y∈Y,Pw n y)(hl:Y.length=n):(u+v)*p.getD n 0*q.getD n 0*dU (m::Y)=u*q.getD n 0*m.getD n 0*dU (p::Y)+v*p.getD n 0*m.getD n 0*dU (q::Y):=by
 rcases hn with rfl |rfl
 .obtain⟨x0,y0,w0,rfl,_⟩:=hp.two
  obtain⟨x1,y1,w1,rfl,_⟩:=hq.two;obtain⟨x,y,w,rfl,_,g1,g2⟩:=h.two
  match Y,hl with
  |[a,b],_=>
   obtain⟨x2,y2,w2,rfl,_⟩:=(hY a (by simp)).two;obtain⟨x3,y3,w3,rfl,_⟩:=(hY b (by simp)).two;show(u+v)*w0*w1*D2 x y w x2 y2 w2 x3 y3 w3=u*w1*w*D2 x0 y0 w0 x2 y2 w2 x3 y3 w3+v*w0*w*D2 x1 y1 w1 x2 y2 w2 x3 y3 w3;unfold D2;grind
 .obtain⟨x0,y0,z0,w0,rfl,_⟩:=hp.three
  obtain⟨x1,y1,z1,w1,rfl,_⟩:=hq.three;obtain⟨x,y,z,w,rfl,_,g1,g2,g3⟩:=h.three
  match Y,hl with
  |[a,b,c],_=>
   obtain⟨x2,y2,z2,w2,rfl,_⟩:=(hY a (by simp)).three;obtain⟨x3,y3,z3,w3,rfl,_⟩:=(hY b (by simp)).three;obtain⟨x4,y4,z4,w4,rfl,_⟩:=(hY c (by simp)).three;show(u+v)*w0*w1*D3 x y z w x2 y2 z2 w2 x3 y3 z3 w3 x4 y4 z4 w4=u*w1*w*D3 x0 y0 z0 w0 x2 y2 z2 w2 x3 y3 z3 w3 x4 y4 z4 w4+v*w0*w*D3 x1 y1 z1 w1 x2 y2 z2 w2 x3 y3 z3 w3 x4 y4 z4 w4;unfold D3;grind
theorem wF{n:Nat}(hn:n=2\/n=3){x y:AA}{l:AC}(hl:l.length+1=n)(hp:∀u∈y::x::l,Pw n u):dU (x::y::l)=-dU (y::x::l):=uZ hn (pre:=[]) (by simp;omega) (by simpa using hp)
theorem Pw.w{n:Nat}{p:AA}(h:Pw n p):0<p.getD n 0/\p.getLastD 0=p.getD n 0:=by
 obtain⟨xs,w,rfl,l,hw⟩:=h;have e:(xs++[w]).getD n 0=w:=by rw[<-l];simp
 rw[e];exact⟨hw,by simp⟩
theorem Td{n:Nat}(hn:n=2\/n=3){u v:Int}{p q m:AA}(hp:Pw n p)(hq:Pw n q)(h:fU n u v p q m){R:AC}(hR:∀y∈R,Pw n y)(hl:R.length+1=n):(u+v)*p.getD n 0*q.getD n 0*dU (m::q::R)=u*q.getD n 0*m.getD n 0*dU (p::q::R)/\(u+v)*p.getD n 0*q.getD n 0*dU (p::m::R)=v*p.getD n 0*m.getD n 0*dU (p::q::R):=by
 have qs:∀y∈q::R,Pw n y:=λy hy=>by
  rcases bc.mp hy with rfl |hy
  .exact hq
  .exact hR y hy
 have ps:∀y∈p::R,Pw n y:=λy hy=>by
  rcases bc.mp hy with rfl |hy
  .exact hp
  .exact hR y hy
 have e1:=Zc hn hp hq h qs (by rw[bo];exact hl);have e2:=Zc hn hp hq h ps (by rw[bo];exact hl);have z:∀{y:AA},Pw n y->dU (y::y::R)=0:=λ{y} hy=>by
  have:=wF hn (x:=y) (y:=y) hl (λu hu=>by
   rcases bc.mp hu with rfl |hu
   .exact hy
   .rcases bc.mp hu with rfl |hu
    .exact hy
    .exact hR u hu)
  omega
 have s1:=wF hn (x:=p) (y:=m) hl (λu hu=>by
  rcases bc.mp hu with rfl |hu
  .exact h.1
  .exact ps u hu)
 have s2:=wF hn (x:=p) (y:=q) hl (λu hu=>by
  rcases bc.mp hu with rfl |hu
  .exact hq
  .exact ps u hu)
 rw[z hq,kb,Int.add_zero]at e1;rw[z hp,kb,pe]at e2;refine⟨e1,?_⟩;rw[s1,s2,jo,jo,e2]
theorem Wr{M a c d:Int}(hM:0<M)(hc:0<c)(e:M*a=c*d):M*(a.natAbs:Int)=c*(d.natAbs:Int):=by
 have h:=congrArg Int.natAbs e;rw[nu,nu]at h;have h:=congrArg (λx:Nat=>(x:Int)) h;simp only[yf]at h;rw[show((M.natAbs:Nat):Int)=M by omega,show((c.natAbs:Nat):Int)=c by omega]at h;exact h
def fL(n:Nat):AD->Rat
 |[]=>0
 |u::hs=>(dU u:Rat)/((sh n*wU u:Int):Rat)+fL n hs
theorem S8(n:Nat)(A B:AD):fL n (A++B)=fL n A+fL n B:=by
 induction A with
 |nil=>show fL n B=0+fL n B;grind
 |cons u A ih=>simp only[gh,fL,ih];grind
theorem Ao{n:Nat}{A B:AD}(h:A.Perm B):fL n A=fL n B:=by
 induction h with
 |nil=>rfl
 |cons x _ ih=>simp only[fL,ih]
 |swap x y l=>simp only[fL];grind
 |trans _ _ ih1 ih2=>exact ih1.trans ih2
theorem m0{a b:Rat}(ha:a≠0)(hb:b≠0):a*b≠0:=λz=>by
 rcases Rat.mul_eq_zero.mp z with z |z
 .exact ha z
 .exact hb z
theorem F0{dA dB d u v w w0 w1 c:Rat}(hw:w≠0)(h0:w0≠0)(h1:w1≠0)(hc:c≠0)(hu:u+v≠0)(e1:(u+v)*w0*w1*dA=u*w1*w*d)(e2:(u+v)*w0*w1*dB=v*w0*w*d):dA/(c*(w*w1))+dB/(c*(w0*w))=d/(c*(w0*w1)):=by
 have f1:dA=u*w*d/((u+v)*w0):=by grind
 have f2:dB=v*w*d/((u+v)*w1):=by grind
 rw[f1,f2];have n1:=m0 hc (m0 hw h1);have n2:=m0 hc (m0 h0 hw);have n3:=m0 hc (m0 h0 h1);have n4:=m0 hu h1;have n5:=m0 hu h0;grind
theorem i0{i:Int}(h:i≠0):(i:Rat)≠0:=λz=>h (o8.mp (z.trans (by rfl:(0:Rat)=((0:Int):Rat))))
theorem Om{n k l:Nat}(hn:n=2\/n=3)(hkl:k<=l)(hl:l<=1000){P:AC}(h:Sx n k P){p q m:AA}{R:AC}{u v:Int}(hu:0<u)(hv:0<v)(hm:fU n u v p q m)(gm:Gu n l m)(pm:P.Perm (p::q::R)):R.length+1=n/\(∀x∈p::q::R,Gu n l x)/\(∀x∈m::q::R,Gu n l x)/\(∀x∈p::m::R,Gu n l x)/\cC (p::q::R)=P/\dU (p::q::R)≠0/\dU (m::q::R)≠0/\dU (p::m::R)≠0:=by
 have g0:∀x∈p::q::R,Gu n l x:=λx hx=>(h.gu x (pm.mem_iff.mpr hx)).mono hkl;have l0:(p::q::R).length=n+1:=by rw[<-pm.length_eq];exact h.len
 have lr:R.length+1=n:=by simp only[bo]at l0;omega
 have c0:cC (p::q::R)=P:=by rw[<-uH pm (jH hn l0)];exact h.cn
 have n0:dU (p::q::R)≠0:=λz=>by
  have:=lS hn hl l0 g0;rw[c0,z]at this;exact h.nz this
 have hp:=(g0 p (by simp)).pt;have hq:=(g0 q (by simp)).pt;obtain⟨e1,e2⟩:=Td hn hp hq hm (R:=R) (λy hy=>(g0 y (by simp[hy])).pt) lr;have w0:=hp.w.1;have w1:=hq.w.1;have w:=hm.1.w.1;refine⟨lr,g0,λx hx=>?_,λx hx=>?_,c0,n0,λz=>?_,λz=>?_⟩
 .rcases bc.mp hx with rfl |hx
  .exact gm
  .exact g0 x (bh _ hx)
 .rcases bc.mp hx with rfl |hx
  .exact g0 _ (by simp)
  .rcases bc.mp hx with rfl |hx
   .exact gm
   .exact g0 x (by simp[hx])
 .rw[z,kb]at e1
  exact ia (da (aw (aw hu w1) w)) n0 e1.symm
 .rw[z,kb]at e2
  exact ia (da (aw (aw hv w0) w)) n0 e2.symm
theorem T7{n k l:Nat}(hn:n=2\/n=3)(hkl:k<=l)(hl:l<=1000){P:AC}{X:AD}(h:Sx n k P)(f:Fin n l P X):(∀kk,HS X kk=PS P kk)/\fL n X=fL n [P]:=by
 rcases f with rfl |⟨p,q,m,R,u,v,hu,hv,hm,gm,pm,rfl⟩
 .exact⟨λkk=>by simp[HS],rfl⟩
 .obtain⟨lr,g0,g1,g2,c0,n0,n1,n2⟩:=Om hn hkl hl h hu hv hm gm pm
  have l0:∀a b:AA,(a::b::R).length=n+1:=λa b=>by simp only[bo];omega
  constructor
  .obtain⟨e,d1,d2⟩:=Jq hn hu hv (l0 p q) (λx hx=>(g0 x hx).pt) hm
   intro kk;simp only[HS];rw[Cc hn hl (l0 m q) g1 n1,Cc hn hl (l0 p m) g2 n2,d1,d2]
   conv=>rhs;rw[<-c0]
   rw[Cc hn hl (l0 p q) g0 n0,<-e kk];grind
  .have hp:=(g0 p (by simp)).pt
   have hq:=(g0 q (by simp)).pt;obtain⟨e1,e2⟩:=Td hn hp hq hm (R:=R) (λy hy=>(g0 y (by simp[hy])).pt) lr;obtain⟨w0,f0⟩:=hp.w;obtain⟨w1,f1⟩:=hq.w;obtain⟨w,f⟩:=hm.1.w;have hM:=aw (aw (show 0<u+v by omega) w0) w1;have e1:=Wr hM (aw (aw hu w1) w) e1;have e2:=Wr hM (aw (aw hv w0) w) e2;rw[<-lS hn hl (l0 m q) g1,<-lS hn hl (l0 p q) g0,c0]at e1;rw[<-lS hn hl (l0 p m) g2,<-lS hn hl (l0 p q) g0,c0]at e2;have wR:0<sh n*wU R:=aw (qH n) (kZ λy hy=>g0 y (by simp[hy]));have k1:sh n*wU (cC (m::q::R))=sh n*wU R*(m.getD n 0*q.getD n 0):=by
    rw[Cb (pP (jH hn (l0 m q)))];simp only[wU,f,f1];grind
   have k2:sh n*wU (cC (p::m::R))=sh n*wU R*(p.getD n 0*m.getD n 0):=by
    rw[Cb (pP (jH hn (l0 p m)))];simp only[wU,f,f0];grind
   have k3:sh n*wU P=sh n*wU R*(p.getD n 0*q.getD n 0):=by
    rw[Cb pm];simp only[wU,f0,f1];grind
   simp only[fL];rw[k1,k2,k3];generalize m.getD n 0=W,q.getD n 0=W1,p.getD n 0=W0,sh n*wU R=c,dU P=d,dU (cC (p::m::R))=dB,dU (cC (m::q::R))=dA at *;have r1:=congrArg (λi:Int=>(i:Rat)) e1;have r2:=congrArg (λi:Int=>(i:Rat)) e2;simp only[qa,yl]at r1 r2⊢;have:=F0 (i0 (da w)) (i0 (da w0)) (i0 (da w1)) (i0 (da wR)) (u:=(u:Rat)) (v:=(v:Rat)) (by rw[<-yl];exact i0 (by omega)) r1 r2;grind
theorem Ec{n k l:Nat}(hn:n=2\/n=3)(hkl:k<=l)(hl:l<=1000):∀{hs gs:AD},(∀u∈hs,Sx n k u)->tW n l hs gs->(∀kk,HS gs kk=HS hs kk)/\fL n gs=fL n hs
 |[],gs,_,h=>by
  have h:gs=[]:=h;subst h;exact⟨λ_=>rfl,rfl⟩
 |P::hs,gs,s,h=>by
  obtain⟨X,Y,f,c,rfl⟩:=h;obtain⟨a1,a2⟩:=T7 hn hkl hl (s P bi) f;obtain⟨b1,b2⟩:=Ec hn hkl hl (λu hu=>s u (bh _ hu)) c;refine⟨λkk=>by rw[U4,a1,b1,HS],?_⟩;rw[S8,a2,b2];simp only[fL];grind
def Fs(q:AA)(M:AC):AA:=(ce M.length).map λj=>sg (dU (M.set j q))*sg (dU M)
theorem gH(x y:Int):sg (-x)*sg (-y)=sg x*sg y:=by rw[vW,vW,vm]
theorem F3{n:Nat}(hn:n=2\/n=3){q:AA}(hq:Pw n q){l1 l2:AC}(h:l1.Perm l2):∀pre:AC,(∀us∈pre++l1,Pw n us)->(pre++l1).length=n+1->(Fs q (pre++l1)).Perm (Fs q (pre++l2)):=by
 induction h with
 |nil=>intro pre _ _;exact .refl _
 |cons x _ ih=>
  intro pre h4 hl;have:=ih (pre++[x]) (by simpa using h4) (by simpa using hl);simpa using this
 |swap x y l=>
  intro pre h4 hl;have sw:∀(pre l:AC)(x y:AA),(pre++y::x::l).length=n+1->(∀u∈pre++y::x::l,Pw n u)->dU (pre++x::y::l)=-dU (pre++y::x::l):=λpre l x y=>uZ hn;have hx:=h4 x (by simp);have hy:=h4 y (by simp);have al:∀c∈pre++l,Pw n c:=λc hc=>h4 c (by simp at hc⊢;rcases hc with h |h<;>simp[h]);rcases hn with rfl |rfl
  .match pre,l,hl,al with
   |[],[c],_,al=>
    have hc:=al c (by simp);have e1:=sw [] [c] x y rfl (by simp[hx,hy,hc]);have e2:=sw [] [c] x q rfl (by simp[hx,hq,hc]);have e3:=sw [] [c] q y rfl (by simp[hy,hq,hc]);have e4:=sw [] [q] x y rfl (by simp[hx,hy,hq]);simp only[dh]at e1 e2 e3 e4;show([sg (dU [q,x,c])*sg (dU [y,x,c]),sg (dU [y,q,c])*sg (dU [y,x,c]),sg (dU [y,x,q])*sg (dU [y,x,c])]:AA).Perm [sg (dU [q,y,c])*sg (dU [x,y,c]),sg (dU [x,q,c])*sg (dU [x,y,c]),sg (dU [x,y,q])*sg (dU [x,y,c])];rw[e1,e2,e3,e4,gH,gH,gH];exact .swap _ _ _
   |[a],[],_,al=>
    have ha:=al a (by simp);have e1:=sw [a] [] x y rfl (by simp[hx,hy,ha]);have e2:=sw [a] [] x q rfl (by simp[hx,hq,ha]);have e3:=sw [a] [] q y rfl (by simp[hy,hq,ha]);have e4:=sw [q] [] x y rfl (by simp[hx,hy,hq]);simp only[gh,dh]at e1 e2 e3 e4;show([sg (dU [q,y,x])*sg (dU [a,y,x]),sg (dU [a,q,x])*sg (dU [a,y,x]),sg (dU [a,y,q])*sg (dU [a,y,x])]:AA).Perm [sg (dU [q,x,y])*sg (dU [a,x,y]),sg (dU [a,q,y])*sg (dU [a,x,y]),sg (dU [a,x,q])*sg (dU [a,x,y])];rw[e1,e2,e3,e4,gH,gH,gH];exact .cons _ (.swap _ _ _)
   |[],[],h,_=>simp at h
   |[],_::_::_,h,_=>simp at h
   |_::_::_,_,h,_=>simp at h;omega
   |[_],_::_,h,_=>simp at h
  .match pre,l,hl,al with
   |[],[c,d],_,al=>
    have hc:=al c (by simp);have hd:=al d (by simp);have e1:=sw [] [c,d] x y rfl (by simp[hx,hy,hc,hd]);have e2:=sw [] [c,d] x q rfl (by simp[hx,hq,hc,hd]);have e3:=sw [] [c,d] q y rfl (by simp[hy,hq,hc,hd]);have e4:=sw [] [q,d] x y rfl (by simp[hx,hy,hq,hd]);have e5:=sw [] [c,q] x y rfl (by simp[hx,hy,hq,hc]);simp only[dh]at e1 e2 e3 e4 e5;show([sg (dU [q,x,c,d])*sg (dU [y,x,c,d]),sg (dU [y,q,c,d])*sg (dU [y,x,c,d]),sg (dU [y,x,q,d])*sg (dU [y,x,c,d]),sg (dU [y,x,c,q])*sg (dU [y,x,c,d])]:AA).Perm [sg (dU [q,y,c,d])*sg (dU [x,y,c,d]),sg (dU [x,q,c,d])*sg (dU [x,y,c,d]),sg (dU [x,y,q,d])*sg (dU [x,y,c,d]),sg (dU [x,y,c,q])*sg (dU [x,y,c,d])];rw[e1,e2,e3,e4,e5,gH,gH,gH,gH];exact .swap _ _ _
   |[a],[d],_,al=>
    have ha:=al a (by simp);have hd:=al d (by simp);have e1:=sw [a] [d] x y rfl (by simp[hx,hy,ha,hd]);have e2:=sw [a] [d] x q rfl (by simp[hx,hq,ha,hd]);have e3:=sw [a] [d] q y rfl (by simp[hy,hq,ha,hd]);have e4:=sw [q] [d] x y rfl (by simp[hx,hy,hq,hd]);have e5:=sw [a] [q] x y rfl (by simp[hx,hy,hq,ha]);simp only[gh,dh]at e1 e2 e3 e4 e5;show([sg (dU [q,y,x,d])*sg (dU [a,y,x,d]),sg (dU [a,q,x,d])*sg (dU [a,y,x,d]),sg (dU [a,y,q,d])*sg (dU [a,y,x,d]),sg (dU [a,y,x,q])*sg (dU [a,y,x,d])]:AA).Perm [sg (dU [q,x,y,d])*sg (dU [a,x,y,d]),sg (dU [a,q,y,d])*sg (dU [a,x,y,d]),sg (dU [a,x,q,d])*sg (dU [a,x,y,d]),sg (dU [a,x,y,q])*sg (dU [a,x,y,d])];rw[e1,e2,e3,e4,e5,gH,gH,gH,gH];exact .cons _ (.swap _ _ _)
   |[a,b],[],_,al=>
    have ha:=al a (by simp);have hb:=al b (by simp);have e1:=sw [a,b] [] x y rfl (by simp[hx,hy,ha,hb]);have e2:=sw [a,b] [] x q rfl (by simp[hx,hq,ha,hb]);have e3:=sw [a,b] [] q y rfl (by simp[hy,hq,ha,hb]);have e4:=sw [q,b] [] x y rfl (by simp[hx,hy,hq,hb]);have e5:=sw [a,q] [] x y rfl (by simp[hx,hy,hq,ha]);simp only[gh,dh]at e1 e2 e3 e4 e5;show([sg (dU [q,b,y,x])*sg (dU [a,b,y,x]),sg (dU [a,q,y,x])*sg (dU [a,b,y,x]),sg (dU [a,b,q,x])*sg (dU [a,b,y,x]),sg (dU [a,b,y,q])*sg (dU [a,b,y,x])]:AA).Perm [sg (dU [q,b,x,y])*sg (dU [a,b,x,y]),sg (dU [a,q,x,y])*sg (dU [a,b,x,y]),sg (dU [a,b,q,y])*sg (dU [a,b,x,y]),sg (dU [a,b,x,q])*sg (dU [a,b,x,y])];rw[e1,e2,e3,e4,e5,gH,gH,gH,gH];exact .cons _ (.cons _ (.swap _ _ _))
   |[],[],h,_=>simp at h
   |[],[_],h,_=>simp at h
   |[],_::_::_::_,h,_=>simp at h
   |[_],[],h,_=>simp at h
   |[_],_::_::_,h,_=>simp at h
   |[_,_],_::_,h,_=>simp at h
   |_::_::_::_,_,h,_=>simp at h;omega
 |trans p1 p2 ih1 ih2=>
  intro pre h4 hl;refine(ih1 pre h4 hl).trans (ih2 pre (λus hu=>h4 us ((p1.append_left pre).mem_iff.mpr hu)) ?_);rw[<-(p1.append_left pre).length_eq];exact hl
theorem Fs3(q:AA)(M:AC):∀s∈Fs q M,s=-1\/s=0\/s=1:=λs hs=>by
 unfold Fs at hs;obtain⟨j,_,rfl⟩:=ix.mp hs;rcases oW (dU (M.set j q))with a |a |a<;>rcases oW (dU M)with b |b |b<;>rw[a,b]<;>decide
theorem Fc{n k:Nat}(hn:n=2\/n=3)(hk:k<=1000){L:AC}{q:AA}(hl:L.length=n+1)(hg:∀us∈L,Gu n k us)(hq:Gu n 1000 q)(nz:dU L≠0):cN (cC L) q=eS (Fs q L) 1:=by
 have hp:=pP (jH hn hl);have e:=lS hn hk hl hg;have s1:sg (dU (cC L))=1:=by
  unfold sg;rw[if_pos (by omega)]
 have ef:Fs q (cC L)=iB (cC L) q:=by
  unfold Fs iB;rw[s1];simp
 have pm:(Fs q L).Perm (Fs q (cC L)):=F3 hn hq.pt hp.symm [] (λus hu=>(hg us (by simpa using hu)).pt) (by simpa using hl);rw[ef]at pm;have ne1:Fs q L≠[]:=λz=>by
  have:=congrArg pb z;unfold Fs at this;rw[ak,ww,hl]at this;cases this
 have m1:=Xa ne1 (Fs3 q L);have ne2:iB (cC L) q≠[]:=λz=>by
  rw[z]at pm;exact ne1 pm.eq_nil
 have m2:=Xa ne2 (λs hs=>by
  unfold iB at hs;obtain⟨j,_,rfl⟩:=ix.mp hs;exact oW _)
 have m3:(iB (cC L) q).min?=some (eS (Fs q L) 1):=by
  rw[j5]at m1⊢;exact⟨pm.mem_iff.mp m1.1,λb hb=>m1.2 b (pm.mem_iff.mpr hb)⟩
 rw[m2]at m3;exact cg m3
theorem Bs:∀(C:AA),eS C 0=if eS C 1=-1 then-1 else 0
 |[]=>rfl
 |s::C=>by
  unfold eS;have ih:=Bs C
  by_cases h:s<0
  .simp[h]
  .rw[if_neg h,if_neg h]
   by_cases z:s=0
   .simp only[z,↓reduceIte]
    rw[ih];split<;>simp
   .simp only[z,↓reduceIte]
    exact ih
theorem Sn{a b t:Int}{C:AA}(ha:a=-1\/a=0\/a=1)(hb:b=-1\/b=0\/b=1)(ht:t=-1\/t=0\/t=1)(h1:0<=b->a<=0->a≠b->t=1)(h2:b<=0->0<=a->a≠b->t=-1)(h3:a=0->b=0->t=0)(nA:eS (a::t::C) 1≠0)(nB:eS (-t::b::C) 1≠0):eS (a::b::C) 1≠0/\((if eS (a::b::C) 1=1 then 1 else 0):Nat)=(if eS (a::t::C) 1=1 then 1 else 0)+(if eS (-t::b::C) 1=1 then 1 else 0):=by
 have e0:=Bs C;rcases ha with rfl |rfl |rfl<;>rcases hb with rfl |rfl |rfl<;>rcases ht with rfl |rfl |rfl<;>rcases xD C 1 (.inr (.inr rfl))with g |g |g<;>rw[g]at e0<;>simp[eS,e0,g]at h1 h2 h3 nA nB⊢
theorem Ve(x:Int):(0<x/\sg x=1)\/(x=0/\sg x=0)\/(x<0/\sg x=-1):=by
 unfold sg;split
 .omega
 .split<;>omega
theorem abY{M A B a b t:Int}(hM:0<M)(hA:0<A)(hB:0<B)(e:M*t=A*b-B*a):(0<=sg b->sg a<=0->sg a≠sg b->sg t=1)/\(sg b<=0->0<=sg a->sg a≠sg b->sg t=-1)/\(sg a=0->sg b=0->sg t=0):=by
 have st:sg t=sg (A*b-B*a):=by rw[<-e,gI hM]
 rw[st];have p:∀{x y:Int},0<x->0<y->0<x*y:=aw;have q:∀{x y:Int},0<x->y<0->x*y<0:=vk;rcases Ve a with⟨a1,a2⟩|⟨a1,a2⟩|⟨a1,a2⟩<;>rcases Ve b with⟨b1,b2⟩|⟨b1,b2⟩|⟨b1,b2⟩<;>rw[a2,b2]<;>simp only[sg]<;>refine⟨λ_ _ _=>?_,λ_ _ _=>?_,λ_ _=>?_⟩<;>first
  |omega
  |(have:=p hA b1;have:=p hB a1;split<;>omega)
  |(have:=p hA b1;have:=q hB a1;split<;>omega)
  |(have:=q hA b1;have:=p hB a1;split<;>first |omega |(split<;>omega))
  |(have:=p hA b1;subst a1;split<;>first |omega |(split<;>omega))
  |(have:=q hA b1;subst a1;split<;>first |omega |(split<;>omega))
  |(have:=p hB a1;subst b1;split<;>first |omega |(split<;>omega))
  |(have:=q hB a1;subst b1;split<;>first |omega |(split<;>omega))
  |(subst a1 b1;simp)
theorem aaj(x a b:AA)(R:AC):Fs x (a::b::R)=(sg (dU (x::b::R))*sg (dU (a::b::R)))::(sg (dU (a::x::R))*sg (dU (a::b::R)))::(ce R.length).map λj=>sg (dU (a::b::R.set j x))*sg (dU (a::b::R)):=by
 unfold Fs;rw[bo,bo,tj,ay,fg,tj,ay,fg];rfl
theorem G8{n k l:Nat}(hn:n=2\/n=3)(hkl:k<=l)(hl:l<=1000){P:AC}{X:AD}(h:Sx n k P)(f:Fin n l P X){x:AA}(gx:Gu n 1000 x)(nX:∀u∈X,cN u x≠0):cN P x≠0/\(X.map λu=>cN u x).count 1=if cN P x=1 then 1 else 0:=by
 rcases f with rfl |⟨p,q,m,R,u,v,hu,hv,hm,gm,pm,rfl⟩
 .refine⟨nX P (by simp),?_⟩
  simp[sx]
 .obtain⟨lr,g0,g1,g2,c0,n0,n1,n2⟩:=Om hn hkl hl h hu hv hm gm pm
  have l0:∀a b:AA,(a::b::R).length=n+1:=λa b=>by simp only[bo];omega
  have hp:=(g0 p (by simp)).pt;have hq:=(g0 q (by simp)).pt;have hR:∀y∈R,Pw n y:=λy hy=>(g0 y (by simp[hy])).pt;have w0:=hp.w.1;have w1:=hq.w.1;have w:=hm.1.w.1;have hM:=aw (aw (show 0<u+v by omega) w0) w1;have hA:=aw (aw hu w1) w;have hB:=aw (aw hv w0) w;have hx:=gx.pt;have S:∀{R':AC},(∀y∈R',Pw n y)->R'.length+1=n->sg (dU (m::q::R'))=sg (dU (p::q::R'))/\sg (dU (p::m::R'))=sg (dU (p::q::R')):=λ{R'} a b=>by
   obtain⟨e1,e2⟩:=Td hn hp hq hm a b;constructor
   .rw[<-gI hM,e1,gI hA]
   .rw[<-gI hM,e2,gI hB]
  have tw:∀{a b:AA},Pw n a->Pw n b->dU (a::b::R)=-dU (b::a::R):=λ{a b} ha hb=>wF hn lr λy hy=>by
   rcases bc.mp hy with rfl |hy
   .exact hb
   .rcases bc.mp hy with rfl |hy
    .exact ha
    .exact hR y hy
  have e3:=Zc hn hp hq hm (Y:=x::R) (λy hy=>by
   rcases bc.mp hy with rfl |hy
   .exact hx
   .exact hR y hy) (by rw[bo];exact lr)
  rw[tw hq hx,jo,<-zo]at e3;obtain⟨t1,t2,t3⟩:=abY hM hA hB e3;have q0:=Fc hn hl (l0 p q) g0 gx n0;have q1:=Fc hn hl (l0 m q) g1 gx n1;have q2:=Fc hn hl (l0 p m) g2 gx n2;rw[c0]at q0;have set_R:∀j,(∀y∈R.set j x,Pw n y)/\(R.set j x).length+1=n:=λj=>⟨λy hy=>by
   rcases yh hy with z |z
   .exact hR y z
   .rw[z];exact hx,by rw[dj];exact lr⟩
  rw[aaj]at q0 q1 q2;rw[(S hR lr).1]at q1;rw[(S hR lr).2,tw hx hm.1,vW]at q2;simp only[λj=>(S (set_R j).1 (set_R j).2).1]at q1;simp only[λj=>(S (set_R j).1 (set_R j).2).2]at q2;generalize ((ce R.length).map λj=>sg (dU (p::q::R.set j x))*sg (dU (p::q::R)))=C at *;have a3:=oW (dU (x::q::R));have b3:=oW (dU (p::x::R));have d3:=oW (dU (m::x::R));have s3:sg (dU (p::q::R))=1\/sg (dU (p::q::R))=-1:=by
   rcases Ve (dU (p::q::R))with z |z |z
   .exact .inl z.2
   .exact absurd z.1 n0
   .exact .inr z.2
  have nA:=nX _ (bi);have nB:=nX (cC (p::m::R)) (by simp);rw[q1]at nA;rw[q2]at nB;rw[q0];simp only[ay,cr,q1,q2,sx,List.count_nil];generalize sg (dU (p::q::R))=s,sg (dU (m::x::R))=t,sg (dU (p::x::R))=b,sg (dU (x::q::R))=a at *;rw[jp]at nB⊢;have core:(eS (a*s::b*s::C) 1≠0/\((if eS (a*s::b*s::C) 1=1 then 1 else 0):Nat)=(if eS (a*s::t*s::C) 1=1 then 1 else 0)+(if eS (-(t*s)::b*s::C) 1=1 then 1 else 0)):=by
   rcases s3 with rfl |rfl
   .simp only[qi]at nA nB⊢
    exact Sn a3 b3 d3 t1 t2 t3 nA nB
   .simp only[jo,qi]at nA nB⊢
    exact Sn (by omega) (by omega) (by omega) (by omega) (by omega) (by omega) nA nB
  refine⟨core.1,?_⟩;rw[core.2];simp only[beq_iff_eq];omega
theorem Wa{n k l:Nat}(hn:n=2\/n=3)(hkl:k<=l)(hl:l<=1000){x:AA}(gx:Gu n 1000 x):∀{hs gs:AD},(∀u∈hs,Sx n k u)->tW n l hs gs->(∀u∈gs,cN u x≠0)->(∀u∈hs,cN u x≠0)/\(hs.map λu=>cN u x).count 1=(gs.map λu=>cN u x).count 1
 |[],gs,_,h,_=>by
  have h:gs=[]:=h;subst h;exact⟨λ_ h=>(nomatch h),rfl⟩
 |P::hs,gs,s,h,nz=>by
  obtain⟨X,Y,f,c,rfl⟩:=h;obtain⟨a1,a2⟩:=G8 hn hkl hl (s P bi) f gx λu hu=>nz u (ku _ hu);obtain⟨b1,b2⟩:=Wa hn hkl hl gx (λu hu=>s u (bh _ hu)) c λu hu=>nz u (cu _ hu);refine⟨λu hu=>?_,?_⟩
  .rcases bc.mp hu with rfl |hu
   .exact a1
   .exact b1 u hu
  .rw[ib,List.count_append,a2,<-b2,ay,sx]
   simp only[beq_iff_eq];omega
def rs:List (Int×Int)->Rat
 |[]=>0
 |u::L=>(u.1:Rat)/(u.2:Rat)+rs L
theorem aba{k:Nat}{u v:Int×Int}(h:Fq k u)(g:Fq k v):((pl u v).1:Rat)/((pl u v).2:Rat)=(u.1:Rat)/u.2+(v.1:Rat)/v.2:=by
 obtain⟨_,f,e⟩:=Od h g;have r:=congrArg (λi:Int=>(i:Rat)) e;simp only[qa,yl]at r;have n1:=i0 (da h.pos);have n2:=i0 (da g.pos);have n3:=i0 (da f.pos);have n4:=m0 n1 n2;grind
theorem Up{k:Nat}:∀(L:List (Int×Int)),(∀u∈L,Fq k u)->rs (cR L)=rs L
 |[],_=>rfl
 |[_],_=>rfl
 |a::b::L,h=>by
  show((pl a b).1:Rat)/((pl a b).2:Rat)+rs (cR L)=(a.1:Rat)/a.2+((b.1:Rat)/b.2+rs L);rw[Up L λu hu=>h u (by simp[hu]),aba (h a (by simp)) (h b (by simp))];grind
theorem Eo:∀(m k:Nat)(L:List (Int×Int)),(∀u∈L,Fq k u)->rs (fN m L)=rs L/\∃l,∀u∈fN m L,Fq l u
 |0,k,L,h=>⟨rfl,k,h⟩
 |m+1,k,L,h=>by
  unfold fN;split
  .exact⟨rfl,k,h⟩
  .obtain⟨a,b⟩:=Eo m (2*k+1) (cR L) (Hb L h)
   exact⟨a.trans (Up L h),b⟩
theorem Kl:∀(m:Nat)(L:List (Int×Int)),L.length<=2^m->(fN m L).length<=1
 |0,L,h=>h
 |m+1,L,h=>by
  unfold fN;split
  .assumption
  .refine Kl m (cR L) ?_
   rw[Na];have:2^(m+1)=2*2^m:=by rw[qr];omega
   omega
theorem Jo{k:Nat}{L:List (Int×Int)}(hl:L.length<=16)(h:∀u∈L,Fq k u):((lF L).1:Rat)/((lF L).2:Rat)=rs L/\∃l,Fq l (lF L):=by
 obtain⟨e,l,f⟩:=Eo 4 k L h;have z:=Kl 4 L hl;unfold lF;rw[<-e]
 match fN 4 L,z,f with
 |[],_,_=>exact⟨by simp only[rs];grind,1,by decide,by unfold Bd;decide,by unfold Bd;decide,by decide⟩
 |[u],_,f=>exact⟨by simp only[rs];grind,l,f u (by simp)⟩
theorem abe{k l:Nat}{u v:Int×Int}(h:Fq k u)(g:Fq l v)(e:(u.1:Rat)/u.2=(v.1:Rat)/v.2):u=v:=by
 have n1:=i0 (da h.pos);have n2:=i0 (da g.pos);have c:(u.1:Rat)*v.2=v.1*u.2:=by grind
 rw[<-qa,<-qa]at c;have c:=zQ (da h.pos) (da g.pos) (o8.mp c);have s:∀{p q:Int},0<q->bn p q=1->fr p q=[p,q]:=λ{p q} hq hg=>by
  unfold fr;rw[if_neg (by omega)];refine Wn ?_;show((bn ((bn 0 p:Nat):Int) q:Nat):Int)=1;rw[qu];show((Nat.gcd ((p.natAbs:Int)).natAbs q.natAbs:Nat):Int)=1;rw[vj];exact congrArg (λx:Nat=>(x:Int)) hg
 rw[s h.pos h.lo,s g.pos g.lo]at c;injection c with c1 c2;injection c2 with c2;exact um c1 c2
theorem Nd{n k:Nat}(hn:n=2\/n=3):∀{hs:AD},(∀u∈hs,Sx n k u)->rs (hs.map (vp n))=fL n hs
 |[],_=>rfl
 |u::hs,h=>by
  have ih:=Nd hn (hs:=hs) λv hv=>h v (bh _ hv);have s:=h u bi;have f:=(sS hn s).2;have wp:0<sh n*wU u:=aw (qH n) (kZ s.gu);obtain⟨p,q,e,hq,c⟩:=Ad (t:=dU u) (da wp);have e:vp n u=(p,q):=by unfold vp vf;rw[e];rfl
  rw[ay];unfold rs fL;rw[ih,e];have r:=congrArg (λi:Int=>(i:Rat)) c;have n1:=i0 (da wp);have n2:=i0 (da hq);generalize sh n*wU u=W at *;simp only[qa]at r;have:(p:Rat)/q=(dU u:Rat)/W:=by grind
  rw[this]
theorem Qw{n k l:Nat}(hn:n=2\/n=3){hs gs:AD}(h:∀u∈hs,Sx n k u)(g:∀u∈gs,Sx n l u)(lh:hs.length<=16)(lg:gs.length<=16)(e:fL n gs=fL n hs):lF (hs.map (vp n))=lF (gs.map (vp n)):=by
 obtain⟨a1,_,a2⟩:=Jo (k:=4*k+6) (L:=hs.map (vp n)) (by rw[ak];exact lh) λu hu=>by
  obtain⟨x,hx,rfl⟩:=ix.mp hu;exact(sS hn (h x hx)).2
 obtain⟨b1,_,b2⟩:=Jo (k:=4*l+6) (L:=gs.map (vp n)) (by rw[ak];exact lg) λu hu=>by
  obtain⟨x,hx,rfl⟩:=ix.mp hu;exact(sS hn (g x hx)).2
 exact abe a2 b2 (by rw[a1,b1,Nd hn h,Nd hn g,e])
theorem Yh{n:Nat}(hn:n<=9){W:Int}(W0:0<=W)(W1:W<=2):∀(is:AI)(L:AC)(ns:AA)(x4:AK),L.length+is.length<=99->∃(L':AC)(ns':AA)(y4:AK),
  dN [] (gN 4) rB is [some (.ref 0),some (.pv (.int (n:Int))),some (.pv (.int W)),some (.ref 1),x4] [.lst (li ns),.lst (L.map lv)]=.nx [some (.ref 0),some (.pv (.int (n:Int))),some (.pv (.int W)),some (.ref 1),y4] [.lst (li ns'),.lst ((L++L').map lv)]
   /\L'.length=is.length/\∀xs∈L',xs.length=n/\∀x∈xs,0<=x/\x<=2
 |[],L,ns,x4,h9=>⟨[],ns,x4,by rw[gv];exact fO,rfl,λ_ h=>absurd h fi⟩
 |i::is,L,ns,x4,h9=>by
  have hr:eJ [.lst (li ns),.lst (L.map lv)] 0 ns:=rfl;obtain⟨xs,n1,e1,l1,b1⟩:=Ca W0 W1 (cB 0 n) _ ns none hr;simp only[dg]at e1;have h9:L.length+(is.length+1)<=99:=h9;obtain⟨L',n2,y4,e2,l2,b2⟩:=Yh hn W0 W1 is (L++[xs]) n1 (some (.pv i)) (by rw[bf,jk];omega);refine⟨xs::L',n2,y4,?_,by simp[l2],λys hy=>?_⟩
  .rw[eK]
   have es:rB [some (.ref 0),some (.pv (.int (n:Int))),some (.pv (.int W)),some (.ref 1),some (.pv i)] [.lst (li ns),.lst (L.map lv)]=.nx [some (.ref 0),some (.pv (.int (n:Int))),some (.pv (.int W)),some (.ref 1),some (.pv i)] [.lst (li n1),.lst ((L++[xs]).map lv)]:=by
    have el:(L++[xs]).map lv=L.map lv++[lv xs]:=by simp
    rw[el];have lz:(L.map lv).length<16777216:=by rw[ak];omega
    have rg:=jS [.lst (li ns),.lst (L.map lv)] hn;unfold rB;generalize (n:Int)=N,cB 0 n=IP,li ns=NL,L.map lv=LL at *;simp! [kL,gZ,hU,aE,aX,aW,cS,fZ,aJ,aO,aL,aN,aM,aG,aK,frz,jF,dF,eL,gM,bE,cG,bZ,rg,e1,lz]
   simp only[gN,gi,dg];rw[es];dsimp only;rw[e2,fz];rfl
  .rcases bc.mp hy with rfl |hy
   .exact⟨by rw[l1];unfold cB;simp,b1⟩
   .exact b2 ys hy
theorem M0{n:Nat}(hn:n=2\/n=3){W:Int}(W0:0<=W)(W1:W<=2)(ns:AA):∃(xss:AC)(ns':AA),frz 1 (jF (hV [.ref 0,.pv (.int (n:Int)),.pv (.int W)] [.lst (li ns)]))=.ok (.pv (cM xss)) [.lst (li ns')]/\Rw n xss:=by
 obtain⟨L,n1,y4,e1,l1,b1⟩:=Yh (n:=n) (by omega) W0 W1 (cB 0 (n+1)) [] ns none (by unfold cB;simp;omega);have hi:(cB 0 (n+1)).length=n+1:=by unfold cB;simp
 rw[hi]at l1;simp only[dh,cr]at e1;have et:=Xr (ti:=1) (S:=[.lst (li n1),.lst (L.map lv)]) hn rfl l1 b1;have rg:=jS [.lst (li ns),.lst []] (n:=n+1) (by omega);have cn:((n+1:Nat):Int)=(n:Int)+1:=by omega
 rw[cn]at rg;have ed:=Pn hn [.lst (li n1),.lst (L.map lv)] (some (.ref 0)) (some (.pv (.int W))) (some (.ref 1)) y4;have hb:wA=(aI (aS 3 (eE aD))
  (aI (bS (bZ (aB (aC aG (aA 1) (mC (.int 1))) aD)) (gN 4) rB)
  (aI (cO (bF (aC fZ (aR lJ [] (aB (aA 3) aD)) (mC (.int 0)))) (bH (aA 3)) eB)
  (bH (bE ["_law_k"] [(1,"_law_dims")] (kU (aB (bQ cE (mC (.int 1))) (aB (aA 1) aD))) (gN 0) (bE ["_law_m"] [(0,"_law_k")] (bZ (aB (aA 1) aD)) (gN 0) (mR iA (aB (aC cS (aA 0) (aA 1)) aD)))))))):=rfl
 generalize (bE ["_law_k"] [(1,"_law_dims")] (kU (aB (bQ cE (mC (.int 1))) (aB (aA 1) aD))) (gN 0) (bE ["_law_m"] [(0,"_law_k")] (bZ (aB (aA 1) aD)) (gN 0) (mR iA (aB (aC cS (aA 0) (aA 1)) aD))))=CD at ed hb;generalize rB=RB at e1 hb
 by_cases hd:dU (L.map (·++[1]))=0
 .refine⟨nM n,n1,?_,Nq hn⟩
  rw[hd]at et;unfold hV aY;rw[hb];generalize (n:Int)=N,cB 0 (n+1)=IP,li n1=NL1,li ns=NL,L.map lv=LL,cM (nM n)=RV at *;simp! [kL,gZ,hU,aE,aX,aW,cS,fZ,aJ,aO,aL,aN,aM,aG,aK,frz,jF,eE,jJ,bS,bZ,rg,e1,et,ed]
 .refine⟨L,n1,?_,⟨l1,λxs hx=>(b1 xs hx).1,λxs hx x hh=>by have:=(b1 xs hx).2 x hh;omega,hd⟩⟩
  unfold hV aY;rw[hb];have hv:cM L=.lst (L.map lv):=rfl;rw[hv];generalize (n:Int)=N,cB 0 (n+1)=IP,li n1=NL1,li ns=NL,L.map lv=LL,dU (L.map (·++[1]))=d at *;simp! [kL,gZ,hU,aE,aX,aW,cS,fZ,aJ,aO,aL,aN,aM,aG,aK,frz,jF,eE,jJ,bS,bZ,rg,e1,et,hd]
theorem Lv{n:Nat}(hn:n=2\/n=3)(S:aH){hs:AD}(hw:∀xss∈hs,Rw n xss):∃gs:AD,cD [] (gN 0) (aR jE [] (aB (bE ["_law_c"] [(1,"_law_one")] (bJ (aA 0)) (gN 0) (aR mJ [] (aB (aA 0) (aB (aA 1) aD)))) aD)) (hs.map cM) [none,some (.pv (.lst (kC n)))] S=.ok (gs.map px) S/\gs.length=hs.length/\∀u∈gs,Sx n 3 u:=by
 refine⟨hs.map λxss=>cC (xss.map (·++[1])),?_,by rw[ak],λu hu=>?_⟩
 .rw[fg]
  refine pK (kG _) cM (λxss=>px (cC (xss.map (·++[1])))) hs none λxss hx=>?_;have w:=hw xss hx;have sp:=λxs (hx:xs∈xss)=>Rr hn S (w.l xs hx) (w.b xs hx);have e1:cD [] (gN 0) (aR mJ [] (aB (aA 0) (aB (aA 1) aD))) (xss.map lv) [none,some (.pv (.lst (kC n)))] S=.ok (xss.map λxs=>tv (xs++[1])) S:=by
   refine pK (kG _) lv (λxs=>tv (xs++[1])) xss none λxs hx=>?_;have a1:=(sp xs hx).1;generalize kC n=FL,lv xs=T3,tv (xs++[1])=T2 at *;simp! [aE,aX,aW,aJ,aO,aL,aN,aM,aG,aK,a1]
  have es:=Bg (uss:=xss.map (·++[1])) (A:=.lst ((xss.map (·++[1])).map tv)) hn S (by rw[ak];exact w.len) (λus hu=>by
   obtain⟨xs,hx,rfl⟩:=ix.mp hu;exact(sp xs hx).2.mono (by decide)) (.inl rfl)
  rw[fg]at es;have es:jE [.pv (.lst (xss.map λxs=>tv (xs++[1])))] S=.ok (.pv (px (cC (xss.map (·++[1]))))) S:=es;have hv:cM xss=.lst (xss.map lv):=rfl;rw[hv];generalize kC n=FL,xss.map lv=XL,(xss.map λxs=>tv (xs++[1]))=TL,px (cC (xss.map (·++[1])))=PX at *;simp! [aE,aX,aW,aJ,aO,aL,aN,aM,aG,aK,bE,cG,bJ,cK,e1,es]
 .obtain⟨xss,hx,rfl⟩:=ix.mp hu
  have w:=hw xss hx;refine wJ hn (k:=3) (by decide) (by rw[ak];exact w.len) (λus hu=>?_) w.nz;obtain⟨xs,hx,rfl⟩:=ix.mp hu;exact(Rr hn [] (w.l xs hx) (w.b xs hx)).2
abbrev tX:MS:=(aI (aS 4 (bE ["_law_k"] [(0,"_law_row_here")] (bZ (aB (aC eQ (mR cL (aB (aA 3) aD)) (mC (.int 1))) aD)) (gN 0) (aC eQ (aR dC [] (aB (aA 1) (aB (mC (.int 3)) aD))) (mC (.int 1))))) (dM (dF (aA 2) (aB (aR sG [] (aB (aA 3) (aB (mC (.int 1)) (aB (mR gZ (aB (aC aG (aA 4) (mN fH (aB (mC (.int 1)) aD))) aD)) aD)))) aD))))
theorem aax{n k:Nat}(hn:n=2\/n=3)(hk:k<=100)(ns:AA){G:AD}(hG:G.length<=90){u:AC}(h:Sx n k u)(x1 x4:AK):∃(v:AC)(ns':AA)(y4:AK),tX [some (.ref 0),x1,some (.ref 1),some (.pv (px u)),x4] [.lst (li ns),.lst (G.map px)]=.nx [some (.ref 0),x1,some (.ref 1),some (.pv (px u)),y4] [.lst (li ns'),.lst ((G++[v]).map px)]/\Sx n (k+3) v:=by
 obtain⟨xs,n1,e1,l1,b1⟩:=Vd (m:=3) (c:=1) (by decide) (iL (by decide) (by decide)) [.lst (G.map px)] (cB 0 n) ns none;have lx:xs.length=n:=by rw[l1];unfold cB;simp
 have bd:∀{x:Int},-1<=x->x<3->Bd 2 x:=λa b=>Bd.of (n:=3) (by omega) (by decide);have gf:Gu n 2 (xs++[1]):=⟨xs,1,rfl,lx,by decide,Zd xs,λx hx=>bd (by have:=b1 x hx;omega) (by have:=b1 x hx;omega),bd (by decide) (by decide)⟩;have e2:=J2 hn [.lst (li n1),.lst (G.map px)] (way:=1) (.inl rfl) h gf (by omega);have rg:=jS [.lst (li ns),.lst (G.map px)] (n:=n) (by omega);have ln:((u.map tv).length:Int)-1=(n:Int):=by rw[ak,h.len];omega
 refine⟨pD 1 (xs++[1]) u,n1,some (.pv (.lst (li xs))),?_,aaB hn (.inl rfl) h gf (by omega)⟩;have lz:(G.map px).length<16777216:=by rw[ak];omega
 have ly:(li xs).length+1<=16777216:=by simp;omega
 have ep:(G++[pD 1 (xs++[1]) u]).map px=G.map px++[px (pD 1 (xs++[1]) u)]:=by simp
 have et:tv (xs++[1])=.tup (li xs++[.int 1]):=by simp[tv,li]
 have hp:px u=.tup (u.map tv):=rfl;rw[et]at e2;rw[ep];rw[hp]at e2⊢;clear h gf b1 l1;generalize (n:Int)=N,cB 0 n=IP,li xs=XL,G.map px=GL,u.map tv=UL,px (pD 1 (xs++[1]) u)=PM at *;unfold tX;simp! [bP,aO,aL,aN,aM,aG,aK,ln,bE,cG,bZ,rg,e1,ly,e2,dF,eL,gM,lz]
theorem Do{n k:Nat}(hn:n=2\/n=3)(hk:k<=100)(x1:AK):∀(hs G:AD)(ns:AA)(x3 x4:AK),(∀u∈hs,Sx n k u)->(∀u∈G,Sx n (k+3) u)->G.length+hs.length<=90->∃(G':AD)(ns':AA)(y3 y4:AK),dN [] (gN 3) tX (hs.map px) [some (.ref 0),x1,some (.ref 1),x3,x4] [.lst (li ns),.lst (G.map px)]=.nx [some (.ref 0),x1,some (.ref 1),y3,y4] [.lst (li ns'),.lst (G'.map px)]/\(∀u∈G',Sx n (k+3) u)/\G'.length=G.length+hs.length
 |[],G,ns,x3,x4,_,hG,_=>⟨G,ns,x3,x4,fO,hG,rfl⟩
 |u::hs,G,ns,x3,x4,h,hG,hl=>by
  have hl:G.length+(hs.length+1)<=90:=hl;obtain⟨v,n1,y4,e1,s1⟩:=aax hn hk ns (G:=G) (by omega) (h u bi) x1 x4;obtain⟨G',n2,z3,z4,e2,s2,l2⟩:=Do hn hk x1 hs (G++[v]) n1 (some (.pv (px u))) y4 (λw hw=>h w (bh _ hw)) (λw hw=>by
   rcases cq.mp hw with z |z
   .exact hG w z
   .have:w=v:=by simpa using z
    rw[this];exact s1) (by rw[bf,jk];omega)
  refine⟨G',n2,z3,z4,?_,s2,by rw[l2,bf,jk,bo];omega⟩;rw[ay,eK];simp only[gN,gi,dg];rw[e1];exact e2
theorem I0{n k:Nat}(hn:n=2\/n=3)(hk:k<=100)(ns:AA){hs:AD}(h:∀u∈hs,Sx n k u)(hl:hs.length<=90):∃(gs:AD)(ns':AA),rY [.ref 0,.pv (.lst (hs.map px))] [.lst (li ns)]=.ok (.ref 1) [.lst (li ns'),.lst (gs.map px)]/\(∀u∈gs,Sx n (k+3) u)/\gs.length=hs.length:=by
 obtain⟨G,n1,y3,y4,e,s,l⟩:=Do hn hk (some (.pv (.lst (hs.map px)))) hs [] ns none none h (by simp) (by simpa using hl);refine⟨G,n1,?_,s,by simpa using l⟩;rw[cr]at e;have hb:Ta=(aI (aS 2 (eE aD)) (aI (bS (bJ (aA 1)) (gN 3) tX) (bH (aA 2)))):=rfl;unfold rY aY;rw[hb];generalize hs.map px=HL,G.map px=GL,tX=NB at *;simp! [bP,aO,aL,aN,aM,aG,aK,eE,jJ,bS,bJ,cK,e]
theorem Sm{n k:Nat}(hn:n=2\/n=3)(hk:k<=1000){p:AA}(g:Gu n 1000 p)(S:aH){hs:AD}(h:∀uss∈hs,Sx n k uss):
  mK [.pv (.lst (hs.map px)),.pv (tv p)] S=.ok (.pv .non) S\/((∀uss∈hs,cN uss p≠0)/\mK [.pv (.lst (hs.map px)),.pv (tv p)] S=.ok (.pv (.int ((hs.map λuss=>cN uss p).count 1:Nat))) S):=by
 have c:=count_eq hn hk g S (A:=.lst (hs.map px)) (.inl rfl) h;generalize hs.map px=HL,tv p=T,(((hs.map λuss=>cN uss p).count 1:Nat):Int)=C at *;unfold mK aY Wm;rcases c with⟨a,e⟩|⟨a,e⟩
 .left
  simp! [aE,aX,aW,aJ,aO,aL,aN,aM,aG,aK,sP,sK,e]
 .right
  refine⟨a,?_⟩;simp! [aE,aX,aW,aJ,aO,aL,aN,aM,aG,aK,sP,sK,e]
abbrev xZ:MS:=(aI (aS 5 (aC aE (aA 1) (aR dC [] (aB (aA 0) (aB (mR cL (aB (aA 1) aD)) aD))))) (dM (dF (aA 3) (aB (aC aE (aA 5) (aR dC [] (aB (aA 0) (aB (mR cL (aB (aA 5) aD)) aD)))) aD))))
theorem Mq{n k:Nat}{hs:AD}(h:∀u∈hs,Sx n k u)(h0:0<hs.length)(h9:hs.length<=90)(n9:n<=9)(ns:AA)(T:AC)(hT:T.length<=90)(x2 x4 x5 x6 x7 x8:AK):∃(p:AA)(ns':AA)(y5:AK),xZ [some (.ref 0),some (.pv (.lst (hs.map px))),x2,some (.ref 1),x4,x5,x6,x7,x8] [.lst (li ns),.lst (T.map tv)]=.nx [some (.ref 0),some (.pv (.lst (hs.map px))),x2,some (.ref 1),x4,y5,x6,x7,x8] [.lst (li ns'),.lst ((T++[p]).map tv)]/\Gu n k p:=by
 obtain⟨i,n1,e1,il⟩:=Dt (ns:=ns) (L:=hs.map px) (T:=[.lst (T.map tv)]) (k:=0) (by simp;omega) (by simp;omega);rw[xo]at e1 il;rw[ak]at il;have i1:aE (.lst (hs.map px)) (.int (i:Int))=some (px hs[i]):=kW (by rw[bj,au il];rfl);have su:=h _ (fj il);obtain⟨j,n2,e2,jl⟩:=Dt (ns:=n1) (L:=(hs[i]).map tv) (T:=[.lst (T.map tv)]) (k:=0) (by rw[ak,su.len];omega) (by rw[ak,su.len];omega);rw[xo]at e2 jl;rw[ak]at jl;have i2:aE (.tup ((hs[i]).map tv)) (.int (j:Int))=some (tv (hs[i])[j]):=kW (by rw[bj,au jl];rfl);refine⟨(hs[i])[j],n2,some (.pv (px hs[i])),?_,su.gu _ (fj jl)⟩;have lz:(T.map tv).length<16777216:=by rw[ak];omega
 have ep:(T++[(hs[i])[j]]).map tv=T.map tv++[tv (hs[i])[j]]:=by simp
 have hp:px hs[i]=.tup ((hs[i]).map tv):=rfl;rw[ep];rw[hp]at i1⊢;clear h su ep hp;generalize T.map tv=TL,hs.map px=HL,(hs[i]).map tv=UL,tv (hs[i])[j]=TP at *;unfold xZ;simp! [bP,aO,aL,aN,aM,aG,aK,e1,i1,e2,i2,dF,eL,gM,lz]
theorem Qz{n k:Nat}(hn:n=2\/n=3)(hk:k<=100){hs:AD}(h:∀u∈hs,Sx n k u)(h0:0<hs.length)(h9:hs.length<=90)(ns:AA):∃(p:AA)(ns':AA),rW [.ref 0,.pv (.lst (hs.map px)),.pv (.int (n:Int))] [.lst (li ns)]=.ok (.pv (tv p)) [.lst (li ns')]/\Gu n 1000 p:=by
 obtain⟨p,n1,y5,e1,gp⟩:=Mq h h0 h9 (by omega) ns [] (by simp) (some (.pv (.int (n:Int)))) (some (.pv (.int 0))) none none none none;obtain⟨q,n2,z5,e2,gq⟩:=Mq h h0 h9 (by omega) n1 [p] (by simp) (some (.pv (.int (n:Int)))) (some (.pv (.int 1))) y5 none none none;simp only[dh,ay,cr,gh]at e1 e2;have e3:=Ka (way:=1) [.lst (li n2),.lst [tv p,tv q]] hn (.inl rfl) gp gq (by omega) (by omega);have g3:=(kY (way:=1) (.inl rfl) gp gq).1;obtain⟨xs,w,ef,P⟩:=g3;rw[ef]at e3;have a1:=Ea xs w;have a2:=nT xs w;have a3:=fM (show Bd 2 (2:Int) from Bd.of (n:=2) (by decide) (by decide)) P.bw (by decide) (by omega);have b2:Bd (k+k+3) (2*w):=((show Bd 2 (2:Int) from Bd.of (n:=2) (by decide) (by decide)).mul P.bw).mono (by omega);obtain⟨zs,z,e4,Q,_⟩:=Jb (n:=n) (k:=k+k+3) (L:=xs) (b:=2*w) (by have:=P.pos;omega) P.len (λx hx=>(P.bx x hx).mono (by omega)) b2;have e5:=rP (xs++[2*w]) [.lst (li n2),.lst [tv p,tv q]] (λx hx=>by
  rcases cq.mp hx with y |y
  .exact(P.bx x y).mono (by omega)
  .have:x=2*w:=by simpa using y
   rw[this];exact b2.mono (by omega))
 rw[e4]at e5;have g5:Gu n (k+k+3) (zs++[z]):=⟨zs,z,rfl,Q⟩;obtain⟨ys,n3,e6,l6,b6⟩:=Vd (m:=9) (c:=4) (by decide) (iL (by decide) (by decide)) [.lst [tv p,tv q]] (cB 0 n) n2 none;have ly:ys.length=n:=by rw[l6];unfold cB;simp
 have by7:∀x∈ys,Bd 7 x:=λx hx=>Bd.of (n:=9) (by have:=b6 x hx;omega) (by decide);have b101:Bd 7 (101:Int):=Bd.of (n:=101) (by decide) (by decide);obtain⟨vs',v,e7,R,_⟩:=Jb (n:=n) (k:=7) (L:=ys) (b:=101) (by decide) ly by7 b101;have e8:=rP (ys++[101]) [.lst (li n3),.lst [tv p,tv q]] (λx hx=>by
  rcases cq.mp hx with y |y
  .exact(by7 x y).mono (by decide)
  .have:x=101:=by simpa using y
   rw[this];exact b101.mono (by decide))
 rw[e7]at e8;have g8:Gu n 7 (vs'++[v]):=⟨vs',v,rfl,R⟩;have e9:=Ka (way:=1) [.lst (li n3),.lst [tv p,tv q]] hn (.inl rfl) g5 g8 (by omega) (by decide);have g9:=(kY (way:=1) (.inl rfl) g5 g8).1.mono (show k+k+3+7+1<=1000 by omega);refine⟨gX 1 (vs'++[v]) (zs++[z]),n3,?_,g9⟩;have rg:=jS [.lst (li n2),.lst [tv p,tv q]] (n:=n) (by omega);have r2:=jS [.lst (li ns),.lst []] (n:=2) (by decide);have r2:iV [.pv (.int 2)] [.lst (li ns),.lst []]=.ok ([.int 0,.int 1],[]) [.lst (li ns),.lst []]:=r2;have lx:(xs.map PV.int).length+1<=16777216:=by rw[ak,P.len];omega
 have lv:(ys.map PV.int).length+1<=16777216:=by rw[ak,ly];omega
 rw[ib,ay,cr]at e5 e8;have et:∀(xs:AA)(w:Int),tv (xs++[w])=.tup ((xs++[w]).map .int):=λ_ _=>rfl;rw[et]at e3;clear h gp gq P Q R g5 g8 g9 b6 by7;generalize hW:(xs++[w]).map PV.int=XW at *;generalize tv (gX 1 (vs'++[v]) (zs++[z]))=TR at *;have e5:jU [.pv (.lst (xs.map PV.int++[.int (2*w)]))] [.lst (li n2),.lst [tv p,tv q]]=.ok (.pv (tv (zs++[z]))) [.lst (li n2),.lst [tv p,tv q]]:=e5;have e8:jU [.pv (.lst (ys.map PV.int++[.int 101]))] [.lst (li n3),.lst [tv p,tv q]]=.ok (.pv (tv (vs'++[v]))) [.lst (li n3),.lst [tv p,tv q]]:=e8;generalize tv (vs'++[v])=TV,tv (zs++[z])=TZ at *;have e6:cD _ _ _ _ _ _=bG.ok (ys.map PV.int) _:=e6;generalize (n:Int)=N,cB 0 n=IP,tv q=TQ,tv p=TP,hs.map px=HL,xs.map PV.int=XL,ys.map PV.int=YL at *;have tF:(bS (bZ (aB (mC (.int 2)) aD)) (gN 4) xZ) [some (.ref 0),some (.pv (.lst HL)),some (.pv (.int N)),some (.ref 1),none,none,none,none,none] [.lst (li ns),.lst []]=.nx [some (.ref 0),some (.pv (.lst HL)),some (.pv (.int N)),some (.ref 1),some (.pv (.int 1)),z5,none,none,none] [.lst (li n2),.lst [TP,TQ]]:=by
  generalize xZ=AB at *;simp! [bP,aO,aL,aN,aM,aG,aK,bS,bZ,r2,eK,fO,gN,e1,e2]
 unfold rW Ba;apply Ud rfl;apply sq;simp! [bP,aO,aL,aN,aM,aG,aK,gL,eE,jJ];exact⟨rfl,rfl⟩;refine sq tF ?_;have i0:aE (.lst [TP,TQ]) (.int 0)=some TP:=kW (j:=0) rfl;have i1:aE (.lst [TP,TQ]) (.int 1)=some TQ:=kW (j:=1) rfl;apply sq;simp! [bP,aO,aL,aN,aM,aG,aK,i0,i1,e3];exact⟨rfl,rfl⟩;apply sq;simp! [bP,aO,aL,aN,aM,aG,aK,dP,cV,dJ,fE,a1,a2,a3,lx,e5];exact⟨rfl,rfl⟩;apply sq;simp! [bP,aO,aL,aN,aM,aG,aK,bE,cG,bZ,rg,e6];exact⟨rfl,rfl⟩;simp! [bP,aO,aL,aN,aM,aG,aK,lv,e8,e9];exact⟨rfl,rfl⟩;simp[jG]
abbrev qX:MS:=(aI (aS 8 (aR rW [] (aB (aA 1) (aB (aA 5) (aB (aA 2) aD))))) (aI (aS 9 (aR mK [] (aB (aA 5) (aB (aA 8) aD)))) (aI (aS 10 (aR mK [] (aB (aA 6) (aB (aA 8) aD)))) (cO (gJ (bF (bQ jM (aA 9))) (gJ (bF (bQ jM (aA 10))) (bF (aC fZ (aA 9) (aA 10))))) (bH (mC (.bl false))) eB))))
abbrev rq(x0:AK)(N:Int)(x3 x4 a b x7 x8 x9 x10:AK):bM:=[x0,some (.ref 0),some (.pv (.int N)),x3,x4,a,b,x7,x8,x9,x10]
theorem U6{n k l:Nat}(hn:n=2\/n=3)(hk:k<=100)(hl:l<=1000){hs gs:AD}(h:∀u∈hs,Sx n k u)(g:∀u∈gs,Sx n l u)(h0:0<hs.length)(h9:hs.length<=90)(hC:∀p,Gu n 1000 p->(∀u∈gs,cN u p≠0)->(hs.map λu=>cN u p).count 1=(gs.map λu=>cN u p).count 1)(x0 x3 x4 x7 x8 x9 x10:AK)(ns:AA):∃(ns':AA)(y8 y9 y10:AK),qX (rq x0 n x3 x4 (some (.pv (.lst (hs.map px)))) (some (.pv (.lst (gs.map px)))) x7 x8 x9 x10) [.lst (li ns)]=.nx (rq x0 n x3 x4 (some (.pv (.lst (hs.map px)))) (some (.pv (.lst (gs.map px)))) x7 y8 y9 y10) [.lst (li ns')]:=by
 obtain⟨p,n1,e1,gp⟩:=Qz hn hk h h0 h9 ns;have t1:=Sm hn (by omega) gp [.lst (li n1)] h;have t2:=Sm hn hl gp [.lst (li n1)] g;have c:=hC p gp;generalize (gs.map λu=>cN u p).count 1=c2,(hs.map λu=>cN u p).count 1=c1 at *;clear hC;refine⟨n1,some (.pv (tv p)),?_⟩;generalize (n:Int)=N,gs.map px=GL,hs.map px=HL,tv p=T at *;unfold qX rq;rcases t1 with t1 |⟨_,t1⟩
 .rcases t2 with t2 |⟨_,t2⟩
  .refine⟨some (.pv .non),some (.pv .non),?_⟩
   simp! [aE,aX,aW,aJ,aO,aL,aN,aM,aG,aK,e1,t1,t2,jM]
  .refine⟨some (.pv .non),some (.pv (.int c2)),?_⟩
   simp! [aE,aX,aW,aJ,aO,aL,aN,aM,aG,aK,e1,t1,t2,jM]
 .rcases t2 with t2 |⟨z,t2⟩
  .refine⟨some (.pv (.int c1)),some (.pv .non),?_⟩
   simp! [aE,aX,aW,aJ,aO,aL,aN,aM,aG,aK,e1,t1,t2,jM]
  .have c:=c z
   subst c;refine⟨some (.pv (.int c1)),some (.pv (.int c1)),?_⟩;simp! [aE,aX,aW,aJ,aO,aL,aN,aM,aG,aK,e1,t1,t2,jM]
theorem Vp{n k l:Nat}(hn:n=2\/n=3)(hk:k<=100)(hl:l<=1000){hs gs:AD}(h:∀u∈hs,Sx n k u)(g:∀u∈gs,Sx n l u)(h0:0<hs.length)(h9:hs.length<=90)(hC:∀p,Gu n 1000 p->(∀u∈gs,cN u p≠0)->(hs.map λu=>cN u p).count 1=(gs.map λu=>cN u p).count 1)(x0 x3 x4:AK):∀(is:AI)(x7 x8 x9 x10:AK)(ns:AA),∃(ns':AA)(y7 y8 y9 y10:AK),dN [] (gN 7) qX is (rq x0 n x3 x4 (some (.pv (.lst (hs.map px)))) (some (.pv (.lst (gs.map px)))) x7 x8 x9 x10) [.lst (li ns)]=.nx (rq x0 n x3 x4 (some (.pv (.lst (hs.map px)))) (some (.pv (.lst (gs.map px)))) y7 y8 y9 y10) [.lst (li ns')]
 |[],x7,x8,x9,x10,ns=>⟨ns,x7,x8,x9,x10,fO⟩
 |i::is,x7,x8,x9,x10,ns=>by
  obtain⟨n1,y8,y9,y10,e1⟩:=U6 hn hk hl h g h0 h9 hC x0 x3 x4 (some (.pv i)) x8 x9 x10 ns;obtain⟨n2,z7,z8,z9,z10,e2⟩:=Vp hn hk hl h g h0 h9 hC x0 x3 x4 is (some (.pv i)) y8 y9 y10 n1;refine⟨n2,z7,z8,z9,z10,?_⟩;rw[eK];simp only[gN,rq,gi,dg];unfold rq at e1 e2;rw[e1];exact e2
theorem Ky(ns:AA)(h:ns.length<=63):∃S,Dd [.pv (.lst (ns.map .int))] []=.ok (.pv (.bl true)) S:=by
 obtain⟨ms,e0,_⟩:=aae ns [] h;have e0:pW [.pv (.lst (ns.map .int))] []=.ok (.ref 0) [.lst (li ms)]:=e0;obtain⟨d,n1,e1,d0,d1,_⟩:=iS (m:=2) (show eJ [.lst (li ms)] 0 ms from rfl) (by decide) (iL (by decide) (by decide));have e1:dC [.ref 0,.pv (.int 2)] [.lst (li ms)]=.ok (.pv (.int d)) [.lst (li n1)]:=e1;obtain⟨n,en,hn⟩:∃n:Nat,2+d=(n:Int)/\(n=2\/n=3):=⟨(2+d).toNat,by omega,by omega⟩;have a2:aG (.int 2) (.int d)=some (.int n):=by rw[aG,en]
 obtain⟨r1,n2,e2,l2,w2⟩:=Ru hn (M:=3) (by decide) n1;have e2:pF [.ref 0,.pv (.int (n:Int)),.pv (.int 3)] [.lst (li n1)]=.ok (.ref 1) [.lst (li n2),.lst (r1.map cM)]:=e2;obtain⟨rs',n3,t3,l3,l3',w3⟩:∃(rs':AD)(n3:AA),(∀x0,(cO (bF (aC cS (mR cL (aB (aA 3) aD)) (mC (.int 0)))) (aS 3 (mN fH (aB (aR hV [] (aB (aA 1) (aB (aA 2) (aB (mC (.int 1)) aD)))) aD))) eB) (rq x0 n (some (.pv (.lst (r1.map cM)))) none none none none none none none) [.lst (li n2)]=.nx (rq x0 n (some (.pv (.lst (rs'.map cM)))) none none none none none none none) [.lst (li n3)])/\0<rs'.length/\rs'.length<=3/\∀xss∈rs',Rw n xss:=by
  by_cases z:r1.length=0
  .obtain⟨xss,n3,e3,w⟩:=M0 hn (W:=1) (by decide) (by decide) n2
   have z:r1=[]:=po.mp z;subst z;refine⟨[xss],n3,λx0=>?_,by simp,by simp,by simpa using w⟩;rw[ay,cr];clear e2;generalize (n:Int)=N,cM xss=RX at *;simp! [bP,aO,aL,aN,aM,aG,aK,rq]at e3⊢;simp[e3,bG.bind,bV.of,gC,jY,fH]
  .refine⟨r1,n2,λx0=>?_,by omega,l2,w2⟩
   have z:(((r1.map cM).length:Int)==0)=false:=by rw[ak];simpa using z
   clear e2;generalize (n:Int)=N,r1.map cM=RL at *;simp! [bP,aO,aL,aN,aM,aG,aK,rq,z]
 have rg:=jS [.lst (li n3)] (n:=n) (by omega);have ec:cD [] (gN 0) (mN eR (aB (mC (.int 1)) (aB (mC (.int 1)) aD))) (cB 0 n) [none] [.lst (li n3)]=.ok (kC n) [.lst (li n3)]:=by
  rcases hn with rfl |rfl
  .show cD _ _ _ [.int 0,.int 1] _ _=_
   simp! [aE,aX,aW,aJ,aO,aL,aN,aM,aG,aK,eA,dZ,gN,kC,jy]
  .show cD _ _ _ [.int 0,.int 1,.int 2] _ _=_
   simp! [aE,aX,aW,aJ,aO,aL,aN,aM,aG,aK,eA,dZ,gN,kC,jy]
 obtain⟨ps,e4,l4,s4⟩:=Lv hn [.lst (li n3)] w3;obtain⟨hs,n5,e5,s5,l5⟩:=I0 hn (k:=3) (by decide) n3 s4 (by omega);obtain⟨qs,n6,e6,⟨Y,cY,pY⟩,s6,l6,_⟩:=Oh hn (k:=6) (by decide) n5 s5 (by omega);obtain⟨gs,n7,e7,⟨Z,cZ,pZ⟩,s7,l7,_⟩:=Oh hn (k:=18) (by decide) n6 s6 (by omega);have e6:lL [.ref 0,.pv (.lst (hs.map px))] [.lst (li n5)]=.ok (.ref 1) [.lst (li n6),.lst (qs.map px)]:=e6;have e7:lL [.ref 0,.pv (.lst (qs.map px))] [.lst (li n6)]=.ok (.ref 1) [.lst (li n7),.lst (gs.map px)]:=e7;have s7:∀u∈gs,Sx n 42 u:=s7;obtain⟨c1,c2⟩:=Ec hn (by decide) (by decide) s5 cY;obtain⟨c3,c4⟩:=Ec hn (by decide) (by decide) s6 cZ;have d1:∀kk,HS hs kk=HS gs kk:=λkk=>by rw[Zk pZ,c3,Zk pY,c1]
 have d2:fL n gs=fL n hs:=by rw[Ao pZ,c4,Ao pY,c2]
 have hC:∀p,Gu n 1000 p->(∀u∈gs,cN u p≠0)->(hs.map λu=>cN u p).count 1=(gs.map λu=>cN u p).count 1:=λp gp nz=>by
  obtain⟨a1,a2⟩:=Wa hn (by decide) (by decide) gp s6 cZ λu hu=>nz u (pZ.mem_iff.mpr hu);obtain⟨b1,b2⟩:=Wa hn (by decide) (by decide) gp s5 cY λu hu=>a1 u (pY.mem_iff.mpr hu);rw[b2,<-(pY.map _).count_eq,a2,<-(pZ.map _).count_eq]
 have f1:=R5 hn (A:=.lst (hs.map px)) (B:=.lst (gs.map px)) (.inl rfl) (.inl rfl) (λu hu=>(s5 u hu).mono (by decide)) (λu hu=>(s7 u hu).mono (by decide)) (by omega) (by omega) (t:=true) (by simpa using d1);have f2:=Qn hn [.lst (li n7)] (A:=.lst (hs.map px)) (m:=4) (.inl rfl) s5 (by decide) (by omega) (by omega) (by decide) (by decide);have f3:=Qn hn [.lst (li n7)] (A:=.lst (gs.map px)) (m:=4) (.inl rfl) s7 (by decide) (by omega) (by omega) (by decide) (by decide);rw[<-Qw hn s5 s7 (by omega) (by omega) d2]at f3;obtain⟨n8,y7,y8,y9,y10,e8⟩:=Vp hn (k:=6) (l:=42) (by decide) (by decide) s5 s7 (by omega) (by omega) hC (some (.pv (.lst (ns.map .int)))) (some (.pv (.lst (rs'.map cM)))) (some (.pv (.lst (kC n)))) [.int 0,.int 1,.int 2,.int 3] none none none none n7;have r4:iV [.pv (.int 4)] [.lst (li n7)]=.ok ([.int 0,.int 1,.int 2,.int 3],[]) [.lst (li n7)]:=jS [.lst (li n7)] (n:=4) (by decide);have t3:=t3 (some (.pv (.lst (ns.map .int))));refine⟨[],?_⟩;clear w2 w3 s4 s5 s6 s7 cY cZ pY pZ c1 c2 c3 c4 d1 d2 hC;generalize lF (hs.map (vp n))=tt at *;have q1:aJ 8 (fv tt) (fv tt)=some true:=by simp[fv,aJ,kI]
 generalize (n:Int)=N,ns.map PV.int=NL,cB 0 n=IP,kC n=FL,rs'.map cM=R2,r1.map cM=R1,ps.map px=PL,gs.map px=GL,qs.map px=QL,hs.map px=HL,fv tt=TT at *;unfold rq at e8;have tF:(bS (bZ (aB (mC (.int 4)) aD)) (gN 7) qX) [some (.pv (.lst NL)),some (.ref 0),some (.pv (.int N)),some (.pv (.lst R2)),some (.pv (.lst FL)),some (.pv (.lst HL)),some (.pv (.lst GL)),none,none,none,none] [.lst (li n7)]=.nx [some (.pv (.lst NL)),some (.ref 0),some (.pv (.int N)),some (.pv (.lst R2)),some (.pv (.lst FL)),some (.pv (.lst HL)),some (.pv (.lst GL)),y7,y8,y9,y10] [.lst (li n8)]:=by
  generalize qX=LB at *;simp! [bP,aO,aL,aN,aM,aG,aK,bS,bZ,r4,e8]
 have hb:Wd=(aI (aS 1 (oB pW [] (aB (aA 0) aD))) (aI (aS 2 (aC aG (mC (.int 2)) (aR dC [] (aB (aA 1) (aB (mC (.int 2)) aD))))) (aI (aS 3 (aR pF [] (aB (aA 1) (aB (aA 2) (aB (mC (.int 3)) aD))))) (aI (cO (bF (aC cS (mR cL (aB (aA 3) aD)) (mC (.int 0)))) (aS 3 (mN fH (aB (aR hV [] (aB (aA 1) (aB (aA 2) (aB (mC (.int 1)) aD)))) aD))) eB) (aI (aS 4 (bE ["_law_k"] [] (bZ (aB (aA 2) aD)) (gN 0) (mN eR (aB (mC (.int 1)) (aB (mC (.int 1)) aD))))) (aI (aS 5 (aR rY [] (aB (aA 1) (aB (bE ["_law_corners"] [(4,"_law_one")] (bJ (aA 3)) (gN 0) (aR jE [] (aB (bE ["_law_c"] [(1,"_law_one")] (bJ (aA 0)) (gN 0) (aR mJ [] (aB (aA 0) (aB (aA 1) aD)))) aD))) aD)))) (aI (aS 6 (aR lL [] (aB (aA 1) (aB (aR lL [] (aB (aA 1) (aB (aA 5) aD))) aD)))) (aI (cO (pA (bF (aC (nE true) (sM qB (aB (aA 5) (aB (aA 6) aD))) (mC (.bl true)))) (bF (aC fZ (aR nZ [] (aB (aA 5) aD)) (aR nZ [] (aB (aA 6) aD))))) (bH (mC (.bl false))) eB) (aI (bS (bZ (aB (mC (.int 4)) aD)) (gN 7) qX) (bH (mC (.bl true)))))))))))):=rfl;unfold Dd;rw[hb];apply Ud rfl;apply sq;simp! [bP,aO,aL,aN,aM,aG,aK,gL,e0];exact⟨rfl,rfl⟩;apply sq;simp! [bP,aO,aL,aN,aM,aK,e1,a2];exact⟨rfl,rfl⟩;apply sq;simp! [bP,aO,aL,aN,aM,aG,aK,e2];exact⟨rfl,rfl⟩;refine sq t3 ?_;unfold rq;apply sq;simp! [bP,aO,aL,aN,aM,aG,aK,bE,cG,bZ,rg,ec];exact⟨rfl,rfl⟩;apply sq;simp! [bP,aO,aL,aN,aM,aG,aK,bE,cG,bJ,cK,e4,e5];exact⟨rfl,rfl⟩;apply sq;simp! [bP,aO,aL,aN,aM,aG,aK,e6,e7];exact⟨rfl,rfl⟩;apply sq;simp! [bP,aO,aL,aN,aM,aG,aK,sM,pB,nE,f1,f2,f3,q1];exact⟨rfl,rfl⟩;refine sq tF ?_;simp! [bP,aO,aL,aN,aM,aG,aK];exact⟨rfl,rfl⟩;simp[jG]
theorem hF_k{K:af}{x:Str}{st:Stmt}{f:Addr}{oc:Value}{od an:AG}{osl:Array AF}{kV doc pm cdv ct:Value}(a:dn K mainGlobals x=some (some (.ref f)):=by k_is)(l:K.lookup f=some ⟨oc,od,.func (dq x x (gF st) (eF st) (bY st) .none kV doc pm an cdv ct),osl⟩:=by k_is)(c:ka K cdv x=true:=by k_is)(k:ee K (.ref f)=true:=by k_is):HF K x st:=abg a l c k
theorem all_mk{l:nj}{w:am}{K:af}{h:Heap}{mg:Str->AF}{fa:Addr}(X:K.In h)(G:h.Ns mainGlobals mg)(hfa:mg "law"=some (.ref fa))
  (h33:HF K "_law_row" Fp)
  (h34:HF K "_law_take" Ln)
  (h40:HF K "_law_dot" Qp)
  (h39:HF K "_law_cross" Jj)
  (h41:HF K "_law_turn" An)
  (h46:HF K "_law_raw_turn" Wf)
  (h45:HF K "_law_raw" Yo)
  (h47:HF K "_law_kuhn" Jm)
  (h48:HF K "_law_raw_heap" Pf)
  (h38:HF K "_law_gap" Ep)
  (h42:HF K "_law_det" Lq)
  (h43:HF K "_law_simplex" Zg)
  (h35:HF K "_law_gcd" Hq)
  (h36:HF K "_law_lowest" Fi)
  (h37:HF K "_law_joined" Ji)
  (h44:HF K "_law_gone" Ol)
  (h52:HF K "_law_near" Tm)
  (h49:HF K "_law_spot" Ql)
  (h50:HF K "_law_split" Ik)
  (h51:HF K "_law_parted" Qi)
  (h23:HF K "walls" Rl)
  (h6:HF K "divisor" Mh)
  (h7:HF K "reduced" Kh)
  (h5:HF K "sign" Iq)
  (h8:HF K "lowest_way" Kf)
  (h15:HF K "normal" Uk)
  (h13:HF K "whole_arrow" Ff)
  (h28:HF K "plane_way" Vf)
  (h29:HF K "sides" Rm)
  (h30:HF K "put_wall" Hg)
  (h31:HF K "same" Dp)
  (h10:HF K "plus" Lp)
  (h11:HF K "total" Bm)
  (h14:HF K "dot" Nr)
  (h16:HF K "determinant" Gf)
  (h24:HF K "extent" Lj)
  (h26:HF K "size" Kp)
  (h53:HF K "_law_aside" Cj)
  (h17:HF K "side" Zo)
  (h21:HF K "replaced" Og)
  (h22:HF K "standing" Ug)
  (h27:HF K "count_at" Bh)
  (h54:HF K "_law_told" Nl)
  {f9:Addr}{od9 an9:AG}{sl9:Array AF}{oc9 kV9 dc9 pm9 cd9 ct9:Value}
  {T9:Addr}{tc9:Value}{td9:AG}{tl9:Array AF}{tn9:Nat}{tt9:df}
  (a9:dn K mainGlobals "fraction"=some (some (.ref f9)))(l9:K.lookup f9=some ⟨oc9,od9,.func (dq "fraction" "fraction" (gF rM) (eF rM) (bY rM) (.ref T9) kV9 dc9 pm9 an9 cd9 ct9),sl9⟩)(c9:ka K cd9 "fraction"=true)(k9:ee K (.ref f9)=true)
  (t9:K.lookup T9=some ⟨tc9,td9,.seq #[.int 1 tt9] tn9,tl9⟩)
  {f55:Addr}{od55 an55:AG}{sl55:Array AF}{oc55 kV55 dc55 pm55 cd55 ct55:Value}
  (a55:dn K mainGlobals "law"=some (some (.ref f55)))(l55:K.lookup f55=some ⟨oc55,od55,.func (dq "law" "law" (gF mT) (eF mT) (bY mT) .none kV55 dc55 pm55 an55 cd55 ct55),sl55⟩)(c55:ka K cd55 "law"=true)(k55:ee K (.ref f55)=true)
  (z1:dn K mainGlobals "abs"=some none)
  (z2:dn K mainGlobals "any"=some none)
  (z3:dn K mainGlobals "enumerate"=some none)
  (z4:dn K mainGlobals "int"=some none)
  (z5:dn K mainGlobals "len"=some none)
  (z6:dn K mainGlobals "list"=some none)
  (z7:dn K mainGlobals "min"=some none)
  (z8:dn K mainGlobals "range"=some none)
  (z9:dn K mainGlobals "sorted"=some none)
  (z10:dn K mainGlobals "sum"=some none)
  (z11:dn K mainGlobals "tuple"=some none)
  (z12:dn K mainGlobals "zip"=some none)
  {C1 C2:Addr}
  (y1:dn K mainGlobals "NoNumber"=some (some (.ref C1)))(x1:jb K C1 kH "ValueError.__new__"=true)
  (y2:dn K mainGlobals "OnSide"=some (some (.ref C2)))(x2:jb K C2 kH "ValueError.__new__"=true)
  {gk1:df}
  {gk2:df}
  {GA2:Addr}{gd2:AG}{gn2:Nat}{gs2:Array AF}
  {gk3:df}
  {gk4:df}
  {GA3:Addr}{gd3:AG}{gn3:Nat}{gs3:Array AF}
  {gk5:df}
  {gk6:df}
  {GA4:Addr}{gd4:AG}{gn4:Nat}{gs4:Array AF}
  {GA1:Addr}{gd1:AG}{gn1:Nat}{gs1:Array AF}
  {gk7:df}
  {gk8:df}
  {gk9:df}
  {GA6:Addr}{gd6:AG}{gn6:Nat}{gs6:Array AF}
  {gk10:df}
  {gk11:df}
  {gk12:df}
  {GA7:Addr}{gd7:AG}{gn7:Nat}{gs7:Array AF}
  {gk13:df}
  {gk14:df}
  {gk15:df}
  {GA8:Addr}{gd8:AG}{gn8:Nat}{gs8:Array AF}
  {gk16:df}
  {gk17:df}
  {gk18:df}
  {GA9:Addr}{gd9:AG}{gn9:Nat}{gs9:Array AF}
  {GA5:Addr}{gd5:AG}{gn5:Nat}{gs5:Array AF}
  (v1:dn K mainGlobals "FLAT_WALLS"=some (some (.ref GA1)))
  (v2:dn K mainGlobals "SPACE_WALLS"=some (some (.ref GA5)))
  (vl1:K.lookup GA1=some ⟨.type "tuple",gd1,.seq #[.ref GA2,.ref GA3,.ref GA4] gn1,gs1⟩)
  (vl2:K.lookup GA2=some ⟨.type "tuple",gd2,.seq #[.int 0 gk1,.int 1 gk2] gn2,gs2⟩)
  (vl3:K.lookup GA3=some ⟨.type "tuple",gd3,.seq #[.int 1 gk3,.int 2 gk4] gn3,gs3⟩)
  (vl4:K.lookup GA4=some ⟨.type "tuple",gd4,.seq #[.int 2 gk5,.int 0 gk6] gn4,gs4⟩)
  (vl5:K.lookup GA5=some ⟨.type "tuple",gd5,.seq #[.ref GA6,.ref GA7,.ref GA8,.ref GA9] gn5,gs5⟩)
  (vl6:K.lookup GA6=some ⟨.type "tuple",gd6,.seq #[.int 1 gk7,.int 2 gk8,.int 3 gk9] gn6,gs6⟩)
  (vl7:K.lookup GA7=some ⟨.type "tuple",gd7,.seq #[.int 0 gk10,.int 3 gk11,.int 2 gk12] gn7,gs7⟩)
  (vl8:K.lookup GA8=some ⟨.type "tuple",gd8,.seq #[.int 0 gk13,.int 1 gk14,.int 3 gk15] gn8,gs8⟩)
  (vl9:K.lookup GA9=some ⟨.type "tuple",gd9,.seq #[.int 0 gk16,.int 2 gk17,.int 1 gk18] gn9,gs9⟩)
  :∃fd:cf,(∀(s:aa)(v:Value),nh s fd ⟨[v],[]⟩ [("_law_script",v)])/\∀base:Heap,K.In base->base.Ns mainGlobals mg->dX l.prog w K mg base fA 7 fa fd ["_law_script"] (wN K):=by
 let cl:Str->Addr:=λn=>if n="NoNumber" then C1 else if n="OnSide" then C2 else 0
 have e:=hfa.symm.trans (mn X G a55);cases e;have F9:=O1 (st:=rM) l9 c9 k9 t9 rfl;have b9:=F9.binds (ps:=["top","bottom"]) (dd:=[]) λ_ _ _ _ _ _ _ us hl=>match us,hl with |[_,_],_=>⟨_,rfl,rfl⟩
 have n9:=mn X G a9;have F55:=Qo (st:=mT) l55 c55 k55;have m:Mg mg:=⟨jf X G z1,jf X G z2,jf X G z3,jf X G z4,jf X G z5,jf X G z6,jf X G z7,jf X G z8,jf X G z9,jf X G z10,jf X G z11,jf X G z12⟩;have gt_FLAT_WALLS:tY K mg "FLAT_WALLS" (.tup [.tup [.int 0,.int 1],.tup [.int 1,.int 2],.tup [.int 2,.int 0]]):=⟨_,.ref GA1,mn X G v1,rfl,(lN (vs:=[.ref GA2,.ref GA3,.ref GA4]) vl1 (by show 3<=fk;decide) (.cons rfl (.cons rfl (.cons rfl .nil))) (by show 3<=fk;decide) (eX (lN (vs:=[.int 0,.int 1]) vl2 (by show 2<=fk;decide) (.cons ⟨_,rfl⟩ (.cons ⟨_,rfl⟩ .nil)) (by show 2<=fk;decide) (eX gG (eX gG lO))) (eX (lN (vs:=[.int 1,.int 2]) vl3 (by show 2<=fk;decide) (.cons ⟨_,rfl⟩ (.cons ⟨_,rfl⟩ .nil)) (by show 2<=fk;decide) (eX gG (eX gG lO))) (eX (lN (vs:=[.int 2,.int 0]) vl4 (by show 2<=fk;decide) (.cons ⟨_,rfl⟩ (.cons ⟨_,rfl⟩ .nil)) (by show 2<=fk;decide) (eX gG (eX gG lO))) lO))))⟩;have gt_SPACE_WALLS:tY K mg "SPACE_WALLS" (.tup [.tup [.int 1,.int 2,.int 3],.tup [.int 0,.int 3,.int 2],.tup [.int 0,.int 1,.int 3],.tup [.int 0,.int 2,.int 1]]):=⟨_,.ref GA5,mn X G v2,rfl,(lN (vs:=[.ref GA6,.ref GA7,.ref GA8,.ref GA9]) vl5 (by show 4<=fk;decide) (.cons rfl (.cons rfl (.cons rfl (.cons rfl .nil)))) (by show 4<=fk;decide) (eX (lN (vs:=[.int 1,.int 2,.int 3]) vl6 (by show 3<=fk;decide) (.cons ⟨_,rfl⟩ (.cons ⟨_,rfl⟩ (.cons ⟨_,rfl⟩ .nil))) (by show 3<=fk;decide) (eX gG (eX gG (eX gG lO)))) (eX (lN (vs:=[.int 0,.int 3,.int 2]) vl7 (by show 3<=fk;decide) (.cons ⟨_,rfl⟩ (.cons ⟨_,rfl⟩ (.cons ⟨_,rfl⟩ .nil))) (by show 3<=fk;decide) (eX gG (eX gG (eX gG lO)))) (eX (lN (vs:=[.int 0,.int 1,.int 3]) vl8 (by show 3<=fk;decide) (.cons ⟨_,rfl⟩ (.cons ⟨_,rfl⟩ (.cons ⟨_,rfl⟩ .nil))) (by show 3<=fk;decide) (eX gG (eX gG (eX gG lO)))) (eX (lN (vs:=[.int 0,.int 2,.int 1]) vl9 (by show 3<=fk;decide) (.cons ⟨_,rfl⟩ (.cons ⟨_,rfl⟩ (.cons ⟨_,rfl⟩ .nil))) (by show 3<=fk;decide) (eX gG (eX gG (eX gG lO)))) lO)))))⟩;refine⟨dq "law" "law" (gF mT) (eF mT) (bY mT) .none kV55 dc55 pm55 an55 cd55 ct55,λs v=>.of_eq rfl,λbase _ _=>?_⟩
 let B:Bx:=⟨l.prog,w,K,mg,base,cl⟩
 have Xg:XG B.K B.mg:=⟨h,X,G⟩;have m:Mg B.mg:=m;have q_NoNumber:B.mg "NoNumber"=some (.ref (B.cl "NoNumber")):=mn X G y1;have x_NoNumber:jb B.K (B.cl "NoNumber") kH "ValueError.__new__"=true:=x1;have q_OnSide:B.mg "OnSide"=some (.ref (B.cl "OnSide")):=mn X G y2;have x_OnSide:jb B.K (B.cl "OnSide") kH "ValueError.__new__"=true:=x2;have C33:=F4 Xg m h33;have C34:=B5 Xg m h34;have C40:=M1 Xg m h40;have C39:=Yw Xg m h39;have C41:=Ry Xg m h41 C40 C39;have C46:=Iu Xg m h46 C41;have C45:=R7 Xg m h45 C34 C46;have C47:=B6 Xg m h47 C34;have C48:=Hu Xg m h48 C34 C45 C47;have C38:=J5 Xg m h38;have C42:=J3 Xg m h42 C41 C38;have C43:=Lu Xg m h43 C42;have C35:=F7 Xg m h35;have C36:=Cv Xg m h36 C35;have C37:=Vv Xg m h37 C36;have C44:=A8 Xg m h44 C43 C37;have C52:=Gy Xg m h52 C34 C44;have C49:=Fy Xg m h49 C36;have C50:=Lw Xg m h50 C34 C36 C43;have C51:=Zv Xg m h51 C34 C50;have C23:=Ey Xg m h23 gt_FLAT_WALLS gt_SPACE_WALLS;have C6:=Wv Xg m h6;have C7:=Bw Xg m h7 C6;have C5:=F5 Xg m h5;have C8:=Zt Xg m h8 C7 C5;have C15:=Ux Xg m h15;have C13:=Ut Xg m h13;have C28:=Cu Xg m h28 C8 C15 C13;have C29:=Kz Xg m h29;have C30:=Qu Xg m h30 C28 C29 C8 C13;have C31:=O6 Xg m h31 C23 C30;have G9:=Su Xg m F9 C5 C6 q_NoNumber x_NoNumber;have H9:yJ B:=Ks G9 b9 k9 n9;have C10:=P7 Xg m h10 H9;have C11:=A5 Xg m h11 C10;have C14:=aaw Xg m h14;have C16:=Tt Xg m h16 C13 C14 C15;have C24:=Hx Xg m h24 H9 C16;have C26:=F2 Xg m h26 C11 C24;have C53:=Px Xg m h53 C34 C37 C36;have C17:=L6 Xg m h17 C5 C16;have C21:=Wu Xg m h21;have C22:=Ku Xg m h22 C17 C21;have H27:=Pu Xg m h27 C22 q_OnSide x_OnSide;have C54:=Fz Xg m h54 H27 q_OnSide x_OnSide;exact(X9 Xg m F55 C33 C34 C48 C45 C52 C43 C49 C51 C31 C26 C53 C54).imp λvs H Q E h=>N9 Ky h
theorem walk{l:nj}{q:Program}{loose:List Str}{XP:(Str->AF)->Heap->Prop}{YP:am->Heap->Prop}{d:DefRec}{K:mx->af}(hn:l.most=some 63)(hdf:d.params.defaults=[])
  (hY:∀(w:am)(h:Heap),YP w h->(K w.params).In h)
  (F:∀(w:am)(mg:Str->AF)(fa:Addr)(h:Heap),(K w.params).In h->h.Ns mainGlobals mg->mg d.name=some (.ref fa)->
   ∃fd:cf,(∀(s:aa)(u:Value),nh s fd ⟨[u],[]⟩ [("_law_script",u)])/\∀base:Heap,(K w.params).In base->base.Ns mainGlobals mg->dX l.prog w (K w.params) mg base fA 7 fa fd ["_law_script"] (wN (K w.params))):
  PySem.W.WalkO q loose XP YP l.row.toRowW d [] (λf vs=>vb f vs):=
 L2.walk_of (n:=63) (k:=7) (x:="_law_script") (CX:=λ_=>fA) (sp:=λw=>wN (K w.params)) hn (by decide) hdf ⟨rfl,by decide,by decide⟩ hY F (λ_ _ a ns hl _ hS=>⟨a,ns,rfl,hS,hl,λ_=>rfl⟩) λ_ _ _ _ _ z=>z
end
end Sc
open PySem PySem.W PyProof.Rows
set_option maxRecDepth 100000 in
set_option maxHeartbeats 0 in
theorem PySem.Challenge.cw_scissorhall_k15_whole_same_counts_holds : PySem.Challenge.rw_scissorhall_k15_whole_same_counts.Holds := by
 w_on; refine holds_law Sc.wsaid λsaid=>?_
 refine holds_open (q:=Sc.VW) (loose:=[gj "fraction"]) (Xt:=λs=>xlAt Sc.VW [] s && recOk (RowW.records (ym (yn qd))) s) (XP:=XL Sc.VW []) (Yf:=Hook.obs (kHook Sc.KK Sc.KA Sc.KE)) (Ya:=Hook.val (kHook Sc.KK Sc.KA Sc.KE)) (YP:=Hook.says (kHook Sc.KK Sc.KA Sc.KE)) (N:=4154) Sc.left (Hook.of (kHook Sc.KK Sc.KA Sc.KE)) (Hook.keeps (kHook Sc.KK Sc.KA Sc.KE)) (λs e=>xl_of s (xx.mp e).1) XL.keeps (by rfl) (by rfl) (by rfl) (λs e=>recFacts_of (xx.mp e).2) (by rfl) (by first | assumption | decide +kernel) (by decide +kernel) ⟨rfl,rfl,rfl,rfl,rfl,by decide +kernel⟩ ?hw ?hc
 case hw=>w_witness2
 k_fill
 refine Sc.walk (l:=qd) rfl rfl (λw h Y=>PySem.W.kIn_of Y) ?F
 case F =>
  intro w mg fa h KX G hmg;refine' Sc.all_mk KX G hmg Sc.hF_k Sc.hF_k Sc.hF_k Sc.hF_k Sc.hF_k Sc.hF_k Sc.hF_k Sc.hF_k Sc.hF_k Sc.hF_k Sc.hF_k Sc.hF_k Sc.hF_k Sc.hF_k Sc.hF_k Sc.hF_k Sc.hF_k Sc.hF_k Sc.hF_k Sc.hF_k Sc.hF_k Sc.hF_k Sc.hF_k Sc.hF_k Sc.hF_k Sc.hF_k Sc.hF_k Sc.hF_k Sc.hF_k Sc.hF_k Sc.hF_k Sc.hF_k Sc.hF_k Sc.hF_k Sc.hF_k Sc.hF_k Sc.hF_k Sc.hF_k Sc.hF_k Sc.hF_k Sc.hF_k Sc.hF_k Sc.hF_k ?a9 ?l9 ?c9 ?k9 ?t9 ?a55 ?l55 ?c55 ?k55 ?z1 ?z2 ?z3 ?z4 ?z5 ?z6 ?z7 ?z8 ?z9 ?z10 ?z11 ?z12 ?y1 ?x1 ?y2 ?x2 ?v1 ?v2 ?vl1 ?vl2 ?vl3 ?vl4 ?vl5 ?vl6 ?vl7 ?vl8 ?vl9
  (case a9 | l9 | c9 | k9 | t9 | a55 | l55 | c55 | k55 | z1 | z2 | z3 | z4 | z5 | z6 | z7 | z8 | z9 | z10 | z11 | z12 | y1=>k_is)
  (case x1=>k_exc)
  (case y2=>k_is)
  (case x2=>k_exc)
  (case v1 | v2 | vl1 | vl2 | vl3 | vl4 | vl5 | vl6 | vl7 | vl8 | vl9=>k_is)
#print axioms PySem.Challenge.cw_scissorhall_k15_whole_same_counts_holds
