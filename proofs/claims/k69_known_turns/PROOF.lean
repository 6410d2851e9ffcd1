import PyProof.Rows.All
import KE.KFromBytes
import KE.KIsAll
import PyProof.EqAt
import PyProof.EqKinds
import PyProof.TupleCall
import PyProof.ZipIter
import PyProof.Draws
import PyProof.CompFree
import PyProof.NeKinds
import PyProof.NsDelKeeps
import PyProof.ExcArgsOwn
import PyProof.ExcAttrAll.ValueError
import KE.KSortTup
import PyProof.DictRoadsH
import Wide.Seal
import KE.KIntText
import PyProof.FitsReplace
import PyProof.StrWalks
import PyProof.CompMap
import KE.KDictList
import KE.KMinKey
import PyProof.AutoListH
import PyProof.Rows.SetFrom
import PyProof.FactsAll.set
import PySem.Challenge.RW_scissorhall_k69_known_turns
set_option Elab.async false
set_option compiler.extract_closed false
set_option bootstrap.genMatcherCode false
set_option maxRecDepth 100000
set_option maxHeartbeats 0
open Array renaming length_toList->jz,getElem?_eq_getElem->om,getElem?_toList->wt,toList->za,replicate->l8,ext'->p8,getElem?_eq_some_iff->t5,append_assoc->AA,forIn_toList->CB,getElem?_eq_none->DF
open Bool renaming and_eq_true->gr,false_ne_true->jf,not_eq_true'->ss,false_eq_true->tf,and_false->yb,eq_iff_iff->i4,or_eq_true->n8,and_eq_true_iff->p6
open Classical renaming propDecidable->CD
open False renaming elim->jr
open ForInStep renaming yield->g6
open Function renaming comp_def->EX
open Int renaming mul_pos->az,gcd->bi,ne_of_gt->cv,mul_comm->ga,one_mul->jd,mul_ne_zero->jl,mul_one->jt,zero_sub->jw,neg_mul->kr,zero_mul->oy,toNat_natCast->qm,mul_ediv_cancel_left->qo,mul_zero->sf,natAbs_mul->ug,mul_neg->uh,gcd_zero_left->ui,fdiv_eq_ediv_of_dvd->uj,le_refl->xa,zero_add->xb,pos_of_mul_pos_left->xc,mul_assoc->xf,eq_of_mul_eq_mul_right->yl,natAbs_neg->d6,gcd_dvd_left->d7,gcd_dvd_right->d8,natAbs_natCast->f6,le_of_lt->f7,reduceLT->t8,natCast_nonneg->BG,gcd_mul_left->BH,mul_neg_of_pos_of_neg->BJ,neg_mul_neg->BK,fmod_nonneg_of_pos->EK,natCast_mul->EN,eq_of_mul_eq_mul_left->EV
open List renaming length_map->aw,size_toArray->ay,getElem?_eq_getElem->bf,length_cons->bo,mem_cons_self->ce,map_cons->cf,getD->cg,range->ci,mem_cons_of_mem->cj,getElem?_map->cq,mem_cons->cr,length_append->cx,getElem?_eq_some_iff->da,zipWith->dh,mem_append->dk,mem_map->dq,mem_append_right->dz,map_map->ff,lookup_cons->fh,getElem?_append_right->fu,mem_of_getElem?->fy,getElem?_append_left->ib,all_eq_true->ie,map_nil->ig,map_congr_left->ij,map_append->ik,not_mem_nil->iu,toArray->iw,getElem_mem->jm,filterMap_cons->jo,getElem?_set_self->jq,getElem?_set_ne->jy,replicate->kb,append_nil->kg,length_set->kq,nodup_cons->la,map->lm,prefix_rfl->lp,length_zipWith->lq,ext_getElem?->mf,set_cons_zero->mx,mem_append_left->ng,length_drop->ny,length_range->oi,append_assoc->oj,nil_append->ox,lookup->qe,length_take->qk,zip_cons_cons->ql,getElem?_eq_none->qr,nodup_append->qs,set_set->qy,length_replicate->rn,nodup_nil->sv,take_of_length_le->tj,set_cons_succ->tw,length->ue,filterMap_map->uf,ext_getElem->uo,getElem_of_mem->uq,sum_append->ur,mem_singleton->vd,cons_append->vh,flatMap_cons->vj,mem_filter->vn,map_id->xh,forIn_cons->xi,mem_iff_getElem->xk,drop_eq_getElem_cons->xu,drop_length->xv,pairwise_cons->ye,getD_eq_getElem?_getD->yk,mem_range->yy,mem_filterMap->zc,of_mem_zip->zk,getElem?_replicate->zl,zip_nil_right->zo,length_nil->zq,length_singleton->d5,forIn_nil->i7,sum_cons->j9,getElem?_take->l5,take_length->l7,pairwise_iff_getElem->o0,perm_singleton->t6,getElem_zipWith->t7,foldl_cons->u6,length_filter_le->u7,perm_middle->u8,mem_flatMap->u9,map_flatMap->v7,zipIdx_cons->BR,zipIdx_nil->BS,getElem?_zipWith->CF,getElem_toArray->CG,getElem?_toArray->CT,getElem?_eq_none_iff->CU,max?_eq_some_iff->DE,pairwise_map->DQ,getElem?_set->DU,eq_nil_of_length_eq_zero->DW,drop_zero->DX,findIdx?->ED,perm_nil->EG,replicate_succ->EH,length_eq_zero_iff->EM,range_succ_eq_map->EO,map_drop->EQ,append_of_mem->EU,max?_mem->EW,getElem?_cons_zero->EY,any_eq_true->EZ,take_left'->FA,flatMap_append->FC
open Nat renaming le_refl->aq,ne_of_lt->df,zero_le->du,lt_of_lt_of_le->fg,le_trans->gm,lt_irrefl->jc,sub_self->ji,ne_of_gt->ky,lt_succ_self->qh,le_succ->qj,lt_of_le_of_lt->se,le_of_eq->ud,lt_succ_of_lt->uu,le_of_lt->vo,pow_le_pow_right->wv,pow_succ->wz,min_eq_right->yg,two_pow_pos->yj,succ_le_succ->c7,lt_trans->g5,lt_of_succ_lt->j8,add_assoc->k7,zero_add->l6,le_succ_of_le->o3,eq_zero_or_pos->BF,exists_eq_add_of_le->CC,min_eq_left->DY,mul_le_mul_right->ER
open Ne renaming symm->jp
open Option renaming getD_some->xx,getD_none->BB,map_some->DT
open Option.some renaming inj->ck
open Or renaming inr->eh,inl->ic
open Prod renaming ext->jn,fst->u5
open Prod.mk renaming inj->y8
open PyProof.Rows renaming IntsAre->jv,AllBare->kn,IsTup->ph,get?_update_seq->sy,callWith_type1->ub,listUpdate_at->uw,seqEpoch_at->uz,slot_tuple_getitem->wk,SortKind->yf,assignInOrder_cons->zb,Subscript_->zw,callWith_builtin1->AR,subscriptTail_builtinR->BA,boot_isinstance->CQ
open PyProof.Rows.F renaming plain_set_update_loop->yi,entry_set_update_loop->EE
open PyProof.Rows.IsTup renaming new->vq
open PySem renaming Shared->aa,wpAny_bind->ae,Expr->ai,wpAny_pure->aj,Pos->ak,World->ar,Around->ax,Tok->bj,Env->ca,FuncData->de,sizeLine->di,Paired->fk,IsPair->gh,Sem->gq,sizeLine_eq->ia,wpAny_mono->im,wpAny_newObj_type->io,wpAny_holding->ix,NameKind->ja,IsZip->je,Keyword->jg,wpAny_field->jh,wpAny_call_entry->jk,wpAny_rule->ka,wpAny_seqItems->kd,mem_of_lookup->ko,Draws->ku,wpAny_callSpecial?_slot->lc,codeAny_builtin->mn,wpAny_setState_of->mq,CmpOp->nh,wpAny_truthy_bool->ni,Result->nj,codeAny_mono->nu,IsPart->nv,wpAny_setField->og,wpAny_letGo->oh,plainId_quiet->ot,Model->pk,wpAny_passesOwn->qd,wpAny_Call_Name_kw->qi,wpAny_of_eq->qp,storedH_new->qu,Params->re,BindsTo->rm,wpAny_setField_rec->sj,wpAny_attempt->sk,SetTable->tq,Operator->tz,wpAny_standAt->ua,wpAny_pyIter_list->uk,wpAny_isInstance->ul,Fin->uv,atKey_none_of_get->vb,wpAny_tryCatch->ve,intKind_is->vf,wpAny_execs_nil->vp,PassesOwn->vt,wpAny_loadPart'->wg,wpAny_typeOf->wm,call_meets->wq,call->wu,wpAny_onRaise->xo,wpAny_newList->xy,wpAny_updateSeq->ya,numAt_eq->yc,Within->yt,wpAny_Name->yz,wpAny_call->zj,concat_meets->zt,seqIndex_of->zx,seqIndex_neg->zy,slot_list_getitem->zz,wpAny_comprehension_free->g7,codeAny_compStart_list->g8,eval_ListComp->g9,wpAny_handled->i5,wpAny_throw->i6,wpAny_updateSeq_pair->i8,wpAny_newTuple->i9,isSubtype_stop->j4,wpAny_specialOf->k8,wpAny_collect_seq->m9,pushCells_keeps->o4,intItems_at->o5,wpAny_fieldsOf->o6,wpAny_dictEntries->o7,wpAny_pyIter_slot->o8,isSubtype_type->p9,wpAny_askSetting->q9,wpAny_loadName_local->AC,wpAny_loadName_cell->AD,wpAny_Constant_int->AE,wpAny_isTrue_Compare1->AG,wpAny_getItem_list_slice->BC,wpAny_Call_method_late->BD,wpAny_newFunctionEnv->BM,wpAny_pyIter_tuple->BX,wpAny_isOneOf_keyiter->DH,wpAny_notOrdered_dict->DN,builtinLookup_eq_fast->EA
open PySem.Around renaming under_plainId->oq,under->zh
open PySem.AutoSeq1 renaming sub_tuple_tuple->AS
open PySem.Builtin renaming sorted->DB
open PySem.Builtin.Builtins renaming bindParams->FE
open PySem.Builtin.Dict renaming showsAll->DO
open PySem.Builtin.Dict_items renaming ownsTuple->DG
open PySem.Builtin.Frozenset renaming sizeOf->FF,newClass->FG,updateFrom->FH
open PySem.Builtin.Int renaming intBits->BL
open PySem.Builtin.List renaming listTooLong->wo
open PySem.Builtin.Slice renaming slicePlaces->wj,sliceAdjust->zu,sliceApplied->AX
open PySem.Builtin.SmallTypes renaming nextOf->oa,ownedTupleIsFree->xn,ownedTupleHandOut->BU
open PySem.Builtin.Tuple renaming tupleExact->wn,tupleHashOf->j5,tupleItemsOf->AY
open PySem.Calls renaming evalArgs_plain->a8,Name_function_global->AF,spliced_cons->AN,callWith_builtin->BE,call_function_entry->DA
open PySem.Challenge renaming pw_scissorhall_k69_known_turns->qz,rw_scissorhall_k69_known_turns->tx
open PySem.Code renaming isFrame->zi
open PySem.F renaming called_set->ou,plain_max_loop->qv,slot_dict_keyiterator_next->vc,slot_tuple_iterator_next->xl,slot_zip_next->xp,plainAttrs_list->xw,slot_list_append->c8,entry_max_loop->p7,slot_tuple_add->AT,entry_tuple_add->AU,args_tuple_add_2->AW,entry_tuple_iterator_next->BN,args_tuple_iterator_next_1->BO,entry_zip_next->BV,args_zip_next_1->BW,type_list_append->CP,slot_list_iadd->DC,entry_list_iadd->DD,entry_dict_keyiterator_next->DJ,args_dict_keyiterator_next_1->DK,slot_dict_iter->DM,plain_list_iadd->DP,slot_dict_setdefault->DS,slot_list_insert->DZ,plain_set_new->EF
open PySem.Heap renaming get?_push_of_some->av,lt_size->bh,get?_push_size->cy,SameBut->il,size_push->iz,get?_update_self->lg,get?_update_other->lh,ExtBut->si,get?_update_ne->td
open PySem.Heap.IsSliceOf renaming new->AZ
open PySem.Heap.SameBut renaming update->kj
open PySem.NameKind renaming cell->ir,free->jb
open PySem.Obj renaming mapSeq->fz,data_mapFields->xm,mapFields->yd,isFreed_of_fields->BP,cls_mapFields->BQ,data_mapDictKeys->DR
open PySem.Paired renaming length->y9
open PySem.PassesOwn renaming never->EI,leaving->EJ
open PySem.SeqAt renaming EqAt->ki,RcAt->su
open PySem.SeqAt.EqAt renaming same->xq,int_int->zn,of_refs->j7
open PySem.SeqAt.RcAt renaming tuples->j6,none_none->CH,bool_bool->CI,int_int->CJ,str_str->CK,lists->CN,lists_lengths->CO
open PySem.SetTable renaming grown->qx,below->yh,fits->s0
open PySem.Shared renaming TypeIs->DI
open PySem.Str renaming ofString->dj
open PySem.Value renaming none->br,ref->cw,int->kx,bool->rf,str->vm,float->yr,scannable->EC
open PySem.W renaming Frag->ah,nsIn->dg,fnOf->fj,keepIn->ft,findIn->iy,mg_none_of->jj,kia_one->ju,kas_sort->jx,codeIn->kh,emptyDict->kz,KasT->lu,mg_of->mj,instObj->my,kitOne->nr,excIn->qq,isFn->rh,OpenLaw->rq,kat_nil->sx,plainGet->uc,kHook->vk,lookIn->vw,hasDictIn->vz,makesIn->wb,methodObj->yu,hideAll->yw,hideAll_get->yx,plainGet_of->zd,plainOver->ze,takerIn->zf,kitx_list->zg,xlAt->v8,recOk->w8,of_hideAll->AB,handedIn->AH,specialIn->AI,methodCall_KW->AJ,kitx_tuple->AK,kitx_dict->AM,callWith_K->AO,cellsFrom_some->AQ,kitCls->BY,kitMeta->BZ,subIn->CA,kat_cons->CV,kat_yes->CW,kat_no->CY,KatGo->DV
open PySem.W.Hook renaming obs->ym,val->yn
open PySem.W.KatTups renaming cons->CZ
open PySem.W.OpenLaw renaming row->yq,wellSaid->FD
open PySem.W.OpenRow renaming toRowW->yp
open PySem.W.RowW renaming records->yo
open PySem.Walks renaming list->xj
open PySem.pickOrder renaming go->EB
open Rat renaming intCast_mul->km,intCast_inj->u4,intCast_add->ES
open Sum renaming inl->oz,inr->pf
open True renaming intro->qg
noncomputable abbrev FI:=List Int
noncomputable abbrev FJ:=List FI
noncomputable abbrev FK:=List FJ
noncomputable abbrev FN:=List PySem.Value
noncomputable abbrev FO:=Option PySem.Value
noncomputable abbrev FQ:=Option PySem.Addr
noncomputable abbrev FR:=Option Int
namespace L2
open PySem
noncomputable def gC(s:Stmt):Arguments:=match s with
 |.FunctionDef _ a _ _ _ _ _ _ _ _=>a
 |_=>{posonlyargs:=[],args:=[],vararg:=none,kwonlyargs:=[],kw_defaults:=[],kwarg:=none,defaults:=[]}
noncomputable def dM(s:Stmt):List Stmt:=match s with
 |.FunctionDef _ _ b _ _ _ _ _ _ _=>b
 |_=>[]
noncomputable def cB(s:Stmt):Scope:=match s with
 |.FunctionDef _ _ _ _ _ _ sc _ _ _=>sc
 |_=>{kind:=.function,names:=[],isGenerator:=false,isCoroutine:=false}
end L2
namespace Sc
noncomputable section
open PySem L2
noncomputable def bD(i:Nat):Stmt:=qz.main.body.getD i (.Pass ⟨0,0,0,0⟩)
noncomputable abbrev vs(s:String)(t:Nat):Value:=.str (dj s) t
noncomputable abbrev vi(i:Int):Value:=.int i 0
noncomputable abbrev vr(a:Nat):Value:=.ref a
noncomputable abbrev fo(n:String)(i:Nat)(dV dc pm cd ct:Value):Obj:=⟨.type "function",none,.func (fj (dj n) (dj n) (gC (bD i)) (dM (bD i)) (cB (bD i)) dV .none dc pm none cd ct),#[]⟩
noncomputable def vK(i j:Nat):Stmt:=match bD i with
 |.ClassDef _ _ _ b _ _ _ _ _ _ _=>b.getD j (.Pass ⟨0,0,0,0⟩)
 |_=>.Pass ⟨0,0,0,0⟩
noncomputable abbrev Qg(n q:String)(i j:Nat)(pm cd ct:Value):Obj:=⟨.type "function",none,.func (fj (dj n) (dj q) (gC (vK i j)) (dM (vK i j)) (cB (vK i j)) .none .none .none pm none cd ct),#[]⟩
noncomputable abbrev fc(l:FN):Obj:=⟨.type "code",none,.fields l.toArray,#[]⟩
noncomputable abbrev Fv(n:String)(t l a r g:Nat)(x:FN):Obj:=fc (vs n t::vs n (t+1)::vs "/claim/cut.py" (t+2)::vi l::vi a::vi 0::vi 0::vi 3::vr r:: .bool true::vi g::vr (r+1):: .none::x)
noncomputable abbrev fB(n:String)(t l a r g u:Nat):Obj:=Fv n t l a r g [vr (r+2),vr (r+3),vr (r+4),vi u,vi l,vs "/claim/cut.py" (u+1)]
noncomputable abbrev fZ(n:String)(t l a r g:Nat):Obj:=Fv n t l a r g [.none,.none,vr (r+2),vi (t+3),vi l,vs "/claim/cut.py" (t+4)]
noncomputable abbrev fd(P:re)(n:Nat)(l:List (String×Nat×Value)):Obj:=⟨.type "dict",none,.dict (l.map λe=>⟨PyData.keyHash P (dj e.1),.str (dj e.1) e.2.1,e.2.2⟩).toArray n,#[]⟩
noncomputable abbrev vLq:Value:=vs "law_scissorhall_k69_known_turns" 509
noncomputable abbrev fzq (n:String)(i:Nat)(m:Value)(r:Nat):Obj:=fo n i .none .none m (vr r) .none
noncomputable abbrev v0q:Value:=vs "scissorhall.lowest" 248
noncomputable abbrev v1q:Value:=vs "scissorhall.turns" 383
noncomputable abbrev v2q:Value:=vs "scissorhall.points" 310
noncomputable abbrev v3q:Value:=vs "scissorhall.sums" 361
noncomputable def KK(P:re):ah:=
 (nat_lit 3,fd P 63 [("__name__",165,vs "law_scissorhall_k69_known_turns" 509),("__doc__",166,.none),("__package__",167,.none),("__loader__",168,(.builtin "__main__.__loader__#opaque")),("__spec__",169,.none),("__annotations__",170,vr 6),("__builtins__",171,vr 4),("__file__",173,vs "/claim/cut.py" 172),("__cached__",174,.none),("HallError",206,vr 24),("NoNumber",222,vr 37),("TooSteep",247,vr 56),("sign",256,vr 65),("divisor",265,vr 72),("reduced",271,vr 77),("lowest_way",277,vr 82),("fraction",287,vr 90),("plus",295,vr 97),("total",301,vr 102),("times",309,vr 109),("whole_arrow",317,vr 114),("dot",323,vr 119),("normal",332,vr 126),("FLAT_WALLS",341,vr 130),("SPACE_WALLS",354,vr 135),("walls",360,vr 140),("along",368,vr 145),("side_share",376,vr 152),("summed",382,vr 157),("STEEPEST",386,(.int 300 385)),("EDGES",411,vr 164),("Frame",445,vr 184),("odd_primes",454,vr 195),("without_squares",463,vr 202),("inverse",478,vr 209),("value_at",490,vr 216),("edge_rows",496,vr 221),("frame_rows",502,vr 226),("turn_sum",508,vr 231),("_law_take",519,vr 238),("_law_row",532,vr 245),("_law_gcd",540,vr 252),("_law_lowest",546,vr 257),("_law_frac",554,vr 264),("_law_far",560,vr 269),("_law_dot",566,vr 274),("_law_cross",577,vr 281),("_law_turn",584,vr 288),("_law_gap",590,vr 293),("_law_det",596,vr 298),("_law_simplex",604,vr 305),("_law_joined",610,vr 310),("_law_spot",616,vr 315),("_law_laid",622,vr 320),("_law_times",630,vr 327),("_law_handed",638,vr 334),("_law_whole",645,vr 341),("_law_wholes",651,vr 346),("_law_told_sums",659,vr 353),("_law_cut_corner",665,vr 358),("_law_middle",676,vr 365),("_law_size_by",684,vr 372),("law",690,vr 377)])::
 (nat_lit 23,fd P 3 [("__module__",196,vs "scissorhall.errors" 187),("__firstlineno__",200,(.int 2 199)),("__static_attributes__",201,vr 22),("__weakref__",203,vr 25),("__doc__",204,.none)])::
 (nat_lit 24,⟨(.type "type"),none,.cls {name:="HallError",bases:=[(.type "ValueError")],mro:=[vr 24,(.type "ValueError"),(.type "Exception"),(.type "BaseException"),(.type "object")],ns:=23,qualname:="HallError",hasDict:=true,subclasses:=[vr 37,vr 56]},#[some (vr 15),none,some (vs "HallError" 189),some (vs "HallError" 197),some (.builtin "ValueError.__new__"),some (.bool true)]⟩)::
 (nat_lit 36,fd P 2 [("__module__",214,vs "scissorhall.errors" 187),("__firstlineno__",218,(.int 4 217)),("__static_attributes__",219,vr 35),("__doc__",220,.none)])::
 (nat_lit 37,⟨(.type "type"),none,.cls {name:="NoNumber",bases:=[vr 24],mro:=[vr 37,vr 24,(.type "ValueError"),(.type "Exception"),(.type "BaseException"),(.type "object")],ns:=36,qualname:="NoNumber",hasDict:=true,subclasses:=[]},#[some (vr 28),none,some (vs "NoNumber" 207),some (vs "NoNumber" 215),some (.builtin "ValueError.__new__"),some (.bool true)]⟩)::
 (nat_lit 52,fc [vs "__init__" 235,vs "TooSteep.__init__" 236,vs "/claim/cut.py" 237,vi 8,vi 2,vi 0,vi 0,vi 3,vr 47,(.bool true),vi 181,vr 48,.none,vr 49,vr 50,vr 51,vi 240,vi 8,vs "/claim/cut.py" 241])::
 (nat_lit 53,Qg "__init__" "TooSteep.__init__" 3 0 (vs "scissorhall.errors" 187) (vr 52) .none)::
 (nat_lit 55,fd P 2 [("__module__",230,vs "scissorhall.errors" 187),("__firstlineno__",234,(.int 6 233)),("__init__",242,vr 53),("__static_attributes__",244,vr 54),("__doc__",245,.none)])::
 (nat_lit 56,⟨(.type "type"),none,.cls {name:="TooSteep",bases:=[vr 24],mro:=[vr 56,vr 24,(.type "ValueError"),(.type "Exception"),(.type "BaseException"),(.type "object")],ns:=55,qualname:="TooSteep",hasDict:=true,subclasses:=[]},#[some (vr 40),none,some (vs "TooSteep" 223),some (vs "TooSteep" 231),some (.builtin "ValueError.__new__"),some (.bool true)]⟩)::
 (nat_lit 64,fB "sign" 250 11 1 59 181 254)::
 (nat_lit 65,fzq "sign" 5 v0q 64)::
 (nat_lit 71,fB "divisor" 257 17 2 66 181 263)::
 (nat_lit 72,fzq "divisor" 6 v0q 71)::
 (nat_lit 76,fZ "reduced" 266 23 1 73 181)::
 (nat_lit 77,fzq "reduced" 7 v0q 76)::
 (nat_lit 81,fZ "lowest_way" 272 28 1 78 181)::
 (nat_lit 82,fzq "lowest_way" 8 v0q 81)::
 (nat_lit 83,⟨.type "tuple",none,.seq #[(.int 1 278)] 0,#[]⟩)::
 (nat_lit 89,fB "fraction" 279 31 2 84 181 285)::
 (nat_lit 90,fo "fraction" 9 (vr 83) .none v0q (vr 89) .none)::
 (nat_lit 96,fB "plus" 288 36 2 91 181 293)::
 (nat_lit 97,fzq "plus" 10 v0q 96)::
 (nat_lit 101,fZ "total" 296 38 1 98 181)::
 (nat_lit 102,fzq "total" 11 v0q 101)::
 (nat_lit 108,fB "times" 302 43 2 103 181 307)::
 (nat_lit 109,fzq "times" 12 v0q 108)::
 (nat_lit 113,fZ "whole_arrow" 312 46 2 110 181)::
 (nat_lit 114,fzq "whole_arrow" 14 v2q 113)::
 (nat_lit 118,fZ "dot" 318 48 2 115 181)::
 (nat_lit 119,fzq "dot" 15 v2q 118)::
 (nat_lit 125,fB "normal" 324 50 1 120 181 330)::
 (nat_lit 126,fzq "normal" 16 v2q 125)::
 (nat_lit 127,⟨.type "tuple",none,.seq #[(.int 0 335),(.int 1 336)] 0,#[]⟩)::
 (nat_lit 128,⟨.type "tuple",none,.seq #[(.int 1 337),(.int 2 338)] 0,#[]⟩)::
 (nat_lit 129,⟨.type "tuple",none,.seq #[(.int 2 339),(.int 0 340)] 0,#[]⟩)::
 (nat_lit 130,⟨.type "tuple",none,.seq #[vr 127,vr 128,vr 129] 0,#[]⟩)::
 (nat_lit 131,⟨.type "tuple",none,.seq #[(.int 1 342),(.int 2 343),(.int 3 344)] 0,#[]⟩)::
 (nat_lit 132,⟨.type "tuple",none,.seq #[(.int 0 345),(.int 3 346),(.int 2 347)] 0,#[]⟩)::
 (nat_lit 133,⟨.type "tuple",none,.seq #[(.int 0 348),(.int 1 349),(.int 3 350)] 0,#[]⟩)::
 (nat_lit 134,⟨.type "tuple",none,.seq #[(.int 0 351),(.int 2 352),(.int 1 353)] 0,#[]⟩)::
 (nat_lit 135,⟨.type "tuple",none,.seq #[vr 131,vr 132,vr 133,vr 134] 0,#[]⟩)::
 (nat_lit 139,fZ "walls" 355 59 1 136 181)::
 (nat_lit 140,fzq "walls" 20 (vs "scissorhall.simplexes" 333) 139)::
 (nat_lit 144,fZ "along" 363 63 2 141 181)::
 (nat_lit 145,fzq "along" 22 v3q 144)::
 (nat_lit 151,fB "side_share" 369 67 2 146 181 374)::
 (nat_lit 152,fzq "side_share" 23 v3q 151)::
 (nat_lit 156,fZ "summed" 377 69 1 153 181)::
 (nat_lit 157,fzq "summed" 24 v3q 156)::
 (nat_lit 158,⟨.type "tuple",none,.seq #[(.int 0 387),(.int 1 388),(.int 2 389),(.int 3 390)] 0,#[]⟩)::
 (nat_lit 159,⟨.type "tuple",none,.seq #[(.int 0 391),(.int 2 392),(.int 1 393),(.int 3 394)] 0,#[]⟩)::
 (nat_lit 160,⟨.type "tuple",none,.seq #[(.int 0 395),(.int 3 396),(.int 1 397),(.int 2 398)] 0,#[]⟩)::
 (nat_lit 161,⟨.type "tuple",none,.seq #[(.int 1 399),(.int 2 400),(.int 0 401),(.int 3 402)] 0,#[]⟩)::
 (nat_lit 162,⟨.type "tuple",none,.seq #[(.int 1 403),(.int 3 404),(.int 0 405),(.int 2 406)] 0,#[]⟩)::
 (nat_lit 163,⟨.type "tuple",none,.seq #[(.int 2 407),(.int 3 408),(.int 0 409),(.int 1 410)] 0,#[]⟩)::
 (nat_lit 164,⟨.type "tuple",none,.seq #[vr 158,vr 159,vr 160,vr 161,vr 162,vr 163] 0,#[]⟩)::
 (nat_lit 175,fc [vs "__init__" 424,vs "Frame.__init__" 425,vs "/claim/cut.py" 426,vi 80,vi 2,vi 0,vi 0,vi 3,vr 172,(.bool true),vi 181,vr 173,.none,.none,.none,vr 174,vi 427,vi 80,vs "/claim/cut.py" 428])::
 (nat_lit 176,Qg "__init__" "Frame.__init__" 28 0 v1q (vr 175) .none)::
 (nat_lit 180,fc [vs "steepness" 430,vs "Frame.steepness" 431,vs "/claim/cut.py" 432,vi 84,vi 1,vi 0,vi 0,vi 3,vr 177,(.bool true),vi 181,vr 178,.none,.none,.none,vr 179,vi 433,vi 84,vs "/claim/cut.py" 434])::
 (nat_lit 181,Qg "steepness" "Frame.steepness" 28 1 v1q (vr 180) .none)::
 (nat_lit 183,fd P 4 [("__module__",419,vs "scissorhall.turns" 383),("__firstlineno__",423,(.int 78 422)),("__init__",429,vr 176),("steepness",435,vr 181),("__static_attributes__",438,vr 182),("__dict__",440,vr 185),("__weakref__",442,vr 186),("__doc__",443,.none)])::
 (nat_lit 184,⟨(.type "type"),none,.cls {name:="Frame",bases:=[(.type "object")],mro:=[vr 184,(.type "object")],ns:=183,qualname:="Frame",hasDict:=true,subclasses:=[]},#[none,none,some (vs "Frame" 412),some (vs "Frame" 420),some (.builtin "object.__new__"),some (.bool true)]⟩)::
 (nat_lit 194,fB "odd_primes" 446 87 1 189 181 452)::
 (nat_lit 195,fzq "odd_primes" 29 v1q 194)::
 (nat_lit 201,fB "without_squares" 455 99 1 196 181 461)::
 (nat_lit 202,fzq "without_squares" 30 v1q 201)::
 (nat_lit 208,fB "inverse" 464 108 2 203 181 476)::
 (nat_lit 209,fzq "inverse" 31 v1q 208)::
 (nat_lit 215,fB "value_at" 479 122 4 210 181 488)::
 (nat_lit 216,fzq "value_at" 32 v1q 215)::
 (nat_lit 220,fZ "edge_rows" 491 134 4 217 181)::
 (nat_lit 221,fzq "edge_rows" 33 v1q 220)::
 (nat_lit 225,fZ "frame_rows" 497 148 1 222 181)::
 (nat_lit 226,fzq "frame_rows" 34 v1q 225)::
 (nat_lit 230,fZ "turn_sum" 503 157 1 227 181)::
 (nat_lit 231,fzq "turn_sum" 35 v1q 230)::
 (nat_lit 237,fB "_law_take" 511 167 2 232 181 517)::
 (nat_lit 238,fzq "_law_take" 37 vLq 237)::
 (nat_lit 244,fB "_law_row" 520 175 1 239 181 530)::
 (nat_lit 245,fzq "_law_row" 38 vLq 244)::
 (nat_lit 251,fB "_law_gcd" 533 189 2 246 181 538)::
 (nat_lit 252,fzq "_law_gcd" 39 vLq 251)::
 (nat_lit 256,fZ "_law_lowest" 541 195 1 253 181)::
 (nat_lit 257,fzq "_law_lowest" 40 vLq 256)::
 (nat_lit 263,fB "_law_frac" 547 202 2 258 181 552)::
 (nat_lit 264,fzq "_law_frac" 41 vLq 263)::
 (nat_lit 268,fZ "_law_far" 555 206 2 265 181)::
 (nat_lit 269,fzq "_law_far" 42 vLq 268)::
 (nat_lit 273,fZ "_law_dot" 561 212 2 270 181)::
 (nat_lit 274,fzq "_law_dot" 43 vLq 273)::
 (nat_lit 280,fB "_law_cross" 567 214 2 275 181 575)::
 (nat_lit 281,fzq "_law_cross" 44 vLq 280)::
 (nat_lit 287,fB "_law_turn" 578 219 1 282 181 582)::
 (nat_lit 288,fzq "_law_turn" 45 vLq 287)::
 (nat_lit 292,fZ "_law_gap" 585 223 2 289 181)::
 (nat_lit 293,fzq "_law_gap" 46 vLq 292)::
 (nat_lit 297,fZ "_law_det" 591 225 1 294 181)::
 (nat_lit 298,fzq "_law_det" 47 vLq 297)::
 (nat_lit 304,fB "_law_simplex" 597 227 1 299 181 602)::
 (nat_lit 305,fzq "_law_simplex" 48 vLq 304)::
 (nat_lit 309,fZ "_law_joined" 605 232 3 306 181)::
 (nat_lit 310,fzq "_law_joined" 49 vLq 309)::
 (nat_lit 314,fZ "_law_spot" 611 235 2 311 181)::
 (nat_lit 315,fzq "_law_spot" 50 vLq 314)::
 (nat_lit 319,fZ "_law_laid" 617 241 3 316 181)::
 (nat_lit 320,fzq "_law_laid" 51 vLq 319)::
 (nat_lit 326,fB "_law_times" 623 247 2 321 181 628)::
 (nat_lit 327,fzq "_law_times" 52 vLq 326)::
 (nat_lit 333,fB "_law_handed" 631 249 2 328 181 636)::
 (nat_lit 334,fzq "_law_handed" 53 vLq 333)::
 (nat_lit 340,fB "_law_whole" 639 253 1 335 181 643)::
 (nat_lit 341,fzq "_law_whole" 54 vLq 340)::
 (nat_lit 345,fZ "_law_wholes" 646 255 2 342 181)::
 (nat_lit 346,fzq "_law_wholes" 55 vLq 345)::
 (nat_lit 352,fB "_law_told_sums" 652 259 1 347 181 657)::
 (nat_lit 353,fzq "_law_told_sums" 56 vLq 352)::
 (nat_lit 357,fZ "_law_cut_corner" 660 266 1 354 181)::
 (nat_lit 358,fzq "_law_cut_corner" 57 vLq 357)::
 (nat_lit 364,fB "_law_middle" 666 274 1 359 181 674)::
 (nat_lit 365,fzq "_law_middle" 58 vLq 364)::
 (nat_lit 371,fB "_law_size_by" 677 282 1 366 181 682)::
 (nat_lit 372,fzq "_law_size_by" 59 vLq 371)::
 (nat_lit 376,fZ "law" 685 285 1 373 181)::
 (nat_lit 377,fzq "law" 60 vLq 376)::[]
noncomputable def KA:List Nat:=[3,23,24,36,37,52,53,55,56,64,65,71,72,76,77,81,82,83,89,90,96,97,101,102,108,109,113,114,118,119,125,126,127,128,129,130,131,132,133,134,135,139,140,144,145,151,152,156,157,158,159,160,161,162,163,164,175,176,180,181,183,184,194,195,201,202,208,209,215,216,220,221,225,226,230,231,237,238,244,245,251,252,256,257,263,264,268,269,273,274,280,281,287,288,292,293,297,298,304,305,309,310,314,315,319,320,326,327,333,334,340,341,345,346,352,353,357,358,364,365,371,372,376,377]
noncomputable def VW:Program:={qz with main:={qz.main with body:=[bD 1,bD 2,bD 3,bD 5,bD 6,bD 7,bD 8,bD 10,bD 11,bD 12,bD 14,bD 15,bD 16,bD 18,bD 19,bD 20,bD 22,bD 23,bD 24,bD 26,bD 27,bD 28,bD 29,bD 30,bD 31,bD 32,bD 33,bD 34,bD 35,bD 37,bD 38,bD 39,bD 40,bD 41,bD 42,bD 43,bD 44,bD 45,bD 46,bD 47,bD 48,bD 49,bD 50,bD 51,bD 52,bD 53,bD 54,bD 55,bD 56,bD 57,bD 58,bD 59,bD 60]}}
theorem KE:∀P,KA=(KK P).map (·.1):=λ_=>by kernel_rfl
theorem wsaid:FD tx=true:=by kernel_rfl
open PySem.W PyProof.Rows PySem.Spec
noncomputable abbrev RN(w:ar):=openEnds treeTable qz w 4886
noncomputable abbrev LW:=looseW VW [dj "fraction"]
theorem aek:∀w,(RN w).map (λs=>ym (vk KK KA KE) s)=some (yn (vk KK KA KE) w):=by
 intro w
 kernel_rfl
theorem adW:∀w,(RN w).map (λs=>seen ((recsOf VW).map (·.name)) (ownsOf VW) [] {s with gens:=#[]})=some (expectedOf VW):=by
 intro w
 kernel_rfl
theorem ad4:∀w,(RN w).map (λs=>s.heap.bltView)=some (bltViewBooted):=by
 intro w
 kernel_rfl
theorem ad7:∀w,(RN w).map (λs=>s.heap.keysOk LW ((recsOf VW).map (·.name)) ((litsOf VW).map (·.1)) ((clssOf VW LW).map (·.name)))=some (true):=by
 intro w
 kernel_rfl
theorem adh:∀w,(RN w).map (λs=>s.heap.accountedOkI (importedModules qz.main.body)&&(s.heap.isNs mainGlobals&&s.heap.isNs builtinsNs&&tablesOk VW s.heap)&&((λs=>v8 VW [] s&&w8 (yo (yp (yq tx))) s) s&&(s.gens.size==0)))=some (true):=by
 intro w
 kernel_rfl
theorem adw:∀w,(RN w).map (λs=>tabsOk VW s)=some (true):=by
 intro w
 kernel_rfl
theorem adn:∀w,(RN w).map (λs=>(pinSeenD VW (drecsOf VW) s,plainSeenD VW [dj "fraction"] s,clsSeenW VW [dj "fraction"] s))=some (pinGoodD (drecsOf VW),plainGoodD VW [dj "fraction"],clsGoodW VW [dj "fraction"]):=by
 intro w
 kernel_rfl
theorem ac8:∀w,(RN w).map (λs=>plainSeenE VW LW s)=some (plainGoodE VW LW):=by
 intro w
 kernel_rfl
theorem adL:∀w,(RN w).map (λs=>wideSeen VW s)=some (wideGood VW):=by
 intro w
 kernel_rfl
theorem bz(h:k=true)(h2:(a&&(n&&m&&t)&&(x&&g))=true):(k&&a&&n&&m&&t&&x&&g)=true:=by grind
theorem afg{A B C P Q R T V Y:Type}{o:Option aa}{y:Y}{G:aa->Y}{k a n m t x g f:aa->Bool}{b:aa->B}{c:aa->C}{p:aa->P}{q:aa->Q}{r:aa->R}{u:aa->T}{v:aa->V}{b':B}{c':C}{p':P}{q':Q}{r':R}{u':T}{v':V}(hA:o.map G=some y)(hB:o.map b=some b')(hC:o.map c=some c')(hD:o.map k=some true)(hE:o.map (λs=>a s&&(n s&&m s&&t s)&&(x s&&g s))=some true)(hF:o.map f=some true)
  (hG:o.map (λs=>(p s,q s,r s))=some (p',q',r'))(hH:o.map u=some u')(hI:o.map v=some v'):o.map (λs=>((b s,c s,(k s&&a s&&n s&&m s&&t s&&x s&&g s),f s,p s,u s,q s,v s,r s),G s))=some ((b',c',true,true,p',u',q',v',r'),y):=by
 cases o with
 |none=>cases hA
 |some s=>
  have G1:=y8 (ck hG);have G2:=y8 G1.2;exact congrArg some (jn (jn (ck hB) (jn (ck hC) (jn (bz (ck hD) (ck hE)) (jn (ck hF) (jn G1.1 (jn (ck hH) (jn G2.1 (jn (ck hI) G2.2)))))))) (ck hA))
theorem left:LeftO qz VW [dj "fraction"] (λs=>v8 VW [] s&&w8 (yo (yp (yq tx))) s) (ym (vk KK KA KE)) (yn (vk KK KA KE)) 4886:=λw=>afg (A:=Nat) (aek w) (adW w) (ad4 w) (ad7 w) (adh w) (adw w) (adn w) (ac8 w) (adL w)
end
end Sc
set_option maxHeartbeats 200000
set_option Elab.async false
set_option compiler.extract_closed false
set_option bootstrap.genMatcherCode false
set_option linter.all false
set_option maxRecDepth 100000
namespace L2
open PySem PySem.Spec PyProof.Rows
noncomputable abbrev hJ:=Sum Int Str
noncomputable def Xs:hJ->Value->Bool
 |.inl k,v=>Value.isInt k v
 |.inr x,v=>Value.isStrOf x v
noncomputable def aeC(w:ar):hJ->Int
 |.inl k=>hashInt k
 |.inr x=>hashStr w x
theorem mP:∀{k:hJ}{v:Value},Xs k v=true->(∃i t,k=oz i/\v=kx i t)\/(∃x t,k=pf x/\v=vm x t)
 |.inl i,v,h=>by
  obtain⟨t,e⟩:=Value.isInt_shape   h;exact .inl ⟨i,t,rfl,e⟩
 |.inr x,v,h=>by
  obtain⟨t,e⟩:=Value.isStrOf_shape   h;exact .inr ⟨x,t,rfl,e⟩
theorem acV(a b:Int):decide ((oz a:hJ)=oz b)=(a==b):=by
 by_cases e:a=b
 .subst e;simp
 .have h:¬(oz a:hJ)=oz b:=λq=>e (Sum.inl.inj q)
  rw[decide_eq_false h];exact(beq_eq_false_iff_ne.mpr e).symm
theorem abE(a b:Str):decide ((pf a:hJ)=pf b)=decide (a=b):=by
 simp_all
theorem acL(a:Int)(b:Str):decide ((oz a:hJ)=pf b)=false:=rfl
theorem abf(a:Str)(b:Int):decide ((pf a:hJ)=oz b)=false:=rfl
noncomputable def Bc(prog:Program)(w:ar):PySem.KeyKind prog w hJ where
 is:=Xs
 hash:=aeC w
 inj:=λv a b ha hb=>by
  rcases mP ha with⟨i,t,rfl,rfl⟩|⟨x,t,rfl,rfl⟩
  .rcases mP hb with⟨j,u,rfl,e⟩|⟨y,u,rfl,e⟩
   .injection e with e1 _;rw[e1]
   .exact nomatch e
  .rcases mP hb with⟨j,u,rfl,e⟩|⟨y,u,rfl,e⟩
   .exact nomatch e
   .injection e with e1 _;rw[e1]
 byValue:=λk v h=>by
  rcases mP h with⟨i,t,rfl,rfl⟩|⟨x,t,rfl,rfl⟩<;>rfl
 pyHash:=λhv h=>by
  rcases mP hv with⟨i,t,rfl,rfl⟩|⟨x,t,rfl,rfl⟩
  .exact wpAny_pyHash_int h
  .exact wpAny_pyHash_str h
 eqBool:=λhu hv h=>by
  rcases mP hu with⟨i,t,rfl,rfl⟩|⟨x,t,rfl,rfl⟩
  .rcases mP hv with⟨j,u,rfl,rfl⟩|⟨y,u,rfl,rfl⟩
   .rw[acV]at h;exact wpAny_eqBool_int h
   .rw[acL]at h;exact SeqAt.EqAt.int_str i t y u _ _ _ _ h
  .rcases mP hv with⟨j,u,rfl,rfl⟩|⟨y,u,rfl,rfl⟩
   .rw[abf]at h;exact SeqAt.EqAt.str_int x t j u _ _ _ _ h
   .rw[abE]at h;exact wpAny_eqBool_str h
 «strs»:=λk x t v h=>by
  rcases mP h with⟨i,u,rfl,e⟩|⟨y,u,rfl,e⟩
  .exact nomatch e
  .injection e with e1 _
   subst e1;cases v<;>rfl
inductive V where
 |non |bl (b:Bool) |int (i:Int) |str (x:Str) |byt (b:Array UInt8) |flt (b:UInt64) |ref (a:Addr) |ty (n:String)
 deriving DecidableEq
noncomputable def bK:V->Value->Prop
 |.non,u=>u=br
 |.bl b,u=>u=rf b
 |.int i,u=>∃t,u=kx i t
 |.str x,u=>∃t,u=vm x t
 |.byt b,u=>∃t,u=Value.bytes b t
 |.flt b,u=>∃t,u=yr b t
 |.ref a,u=>u=cw a
 |.ty n,u=>u=Value.type n
noncomputable abbrev bB:List V->FN->Prop:=fk bK
theorem bB.length(r:bB xs us):xs.length=us.length:=y9 r
theorem bB.get:∀{xs:List V}{us:FN}{i:Nat}{x:V},bB xs us->xs[i]?=some x->∃u,us[i]?=some u/\bK x u
 |_,_,_,_,.nil,e=>by simp at e
 |_,_,0,_,.cons r _,e=>by simp at e;subst e;exact⟨_,rfl,r⟩
 |_,_,i+1,x,.cons _ t,e=>by
  obtain⟨u,h1,h2⟩:=bB.get   t (by simpa using e);exact⟨u,by simpa using h1,h2⟩
theorem bB.set(r:bK x u):∀{xs:List V}{us:FN}(i:Nat),bB xs us->bB (xs.set i x) (us.set i u)
 |_,_,_,.nil=>.nil
 |_,_,0,.cons _ t=>.cons r t
 |_,_,i+1,.cons q t=>.cons q (bB.set r i t)
theorem bB.append:∀{xs ys:List V}{us ws:FN},bB xs us->bB ys ws->bB (xs++ys) (us++ws)
 |_,_,_,_,.nil,s=>s
 |_,_,_,_,.cons r t,s=>.cons r (bB.append t s)
theorem bB.take:∀{xs:List V}{us:FN}(n:Nat),bB xs us->bB (xs.take n) (us.take n)
 |_,_,0,_=>.nil
 |_,_,_+1,.nil=>.nil
 |_,_,n+1,.cons r t=>.cons r (bB.take n t)
theorem bB.drop:∀{xs:List V}{us:FN}(n:Nat),bB xs us->bB (xs.drop n) (us.drop n)
 |_,_,0,r=>r
 |_,_,_+1,.nil=>.nil
 |_,_,n+1,.cons _ t=>bB.drop n t
noncomputable def mG:Option V->FO->Prop
 |some v,some u=>bK v u
 |none,none=>True
 |_,_=>False
noncomputable def KV:List (κ×V)->List (κ×Value)->Prop:=fk λ(p:κ×V) (q:κ×Value)=>p.1=q.1/\bK p.2 q.2
noncomputable def kV:hJ->V
 |.inl i=>.int i
 |.inr x=>.str x
inductive HO where
 /--a list -/
 |lst (xs:List V)
 /--a tuple (never changes) -/
 |tup (xs:List V)
 /--a dict whose keys are ints and texts;one whose keys are tuples of ints and texts (the empty one is both) -/
 |dK (kvs:List (hJ×V)) |dT (kvs:List (List hJ×V))
 /--a set of ints:its members,its size -/
 |set (S:Int->Bool) (n:Nat)
 /--an instance of the class at C,its dict at dx,its attributes -/
 |ins (C dx:Addr) (fs:List (Str×V))
 /--the dict of the instance at x -/
 |own (x:Addr)
 /--the dict of an exception -/
 |xd (fs:List (Str×V))
 /--a bound method,f of x -/
 |met (f x:Addr)
 /--a range object lo,lo+1,.. below hi -/
 |rng (lo hi:Int)
 /--a thing that is known to the object (the script;a dict while a loop walks it):read,never written while it is so -/
 |frz (o:Obj) (u:HO)
 /--a code object's table -/
 |tbl (ps:Array Value)
 /--any other thing,by what is true of its one object (a def of one's own:SetO a S n:=HO.ext λh=>..) -/
 |ext (φ:Heap->Prop)
noncomputable abbrev Hp:=Addr->Option HO
noncomputable def aS(H:Hp)(a:Addr)(o:HO):Hp:=λb=>if b=a then some o else H b
theorem eI:aS H a o a=some o:=by unfold aS;rw[if_pos rfl]
theorem bO{a b:Addr}{o:HO}(h:b≠a):aS H a o b=H b:=by unfold aS;rw[if_neg h]
theorem gB{H:Hp}{a b:Addr}{o:HO}(h:H a=some o)(h':H b=none):a≠b:=by
 intro e;simp_all
section
variable(P:Program)(w:ar)
noncomputable def fG(H:Hp)(h:Heap)(a:Addr):HO->Prop
 |.lst xs=>xs.length<=sizeLine/\∃(its:FN)(n:Nat),bB xs its/\h.get? a=some {cls:=.type "list",data:=.seq its.toArray n}
 |.tup xs=>(xs.length<=sizeLine/\∃o,h.get? a=some o/\o.dict=none)/\∃its:FN,bB xs its/\ph h a its.toArray
 |.dK kvs=>kvs.length<=sizeLine/\(a==sysModules)=false/\∃vs,KV kvs vs/\h.DictOf (Bc P w) a vs
 |.dT kvs=>kvs.length<=sizeLine/\(a==sysModules)=false/\∃xs:List (List hJ×Addr×Value),
   fk (λ(p:List hJ×V) (q:List hJ×Addr×Value)=>p.1=q.1/\H q.2.1=some (.tup (p.1.map kV))/\bK p.2 q.2.2) kvs xs/\
   ∃o es ep,h.get? a=some o/\o.ExactDict/\o.data=.dict es ep/\es.toList=xs.map (entryOfKey (tupleKind (Bc P w)))/\(xs.map (·.1)).Nodup
 |.set S n=>h.SetOf (intKind P w) a S n
 |.ins C dx fs=>H dx=some (.own a)/\fs.length<=1000/\dx≠a/\h.get? a=some (my C dx)/\
   ∃mA,h.Ns1 dx mA/\(∀f,mG (fs.lookup f) (mA f))/\yt mA (fs.map (·.1))
 |.own _=>∃o,h.get? a=some o
 |.xd fs=>∃mA,h.Ns1 a mA/\∀f,mG (fs.lookup f) (mA f)
 |.rng lo hi=>∃t u v,h.get? a=some {cls:=.type "range",data:=.fields #[.int lo t,.int hi u,.int 1 v]}
 |.frz o u=>h.get? a=some o/\fG H h a u
 |.tbl ps=>h.get? a=some {cls:=.none,data:=.fields ps}
 |.met f x=>h.get? a=some (yu (.ref f) (.ref x))
 |.ext φ=>φ h/\(∃o,h.get? a=some o)/\∀h1 h2:Heap,φ h1->(∀o,h1.get? a=some o->h2.get? a=some o)->φ h2
noncomputable def eT(H:Hp)(h:Heap):Prop:=∀a o,H a=some o->fG P w H h a o
end
section
variable{P:Program}{w:ar}{H H':Hp}{h h':Heap}{a:Addr}{o:HO}
theorem fG.lt(x:fG P w H h a o):a<h.objs.size:=by
 cases o with
 |lst xs=>obtain⟨_,_,_,_,e⟩:=x;exact bh e
 |tup xs=>obtain⟨_,_,_,p⟩:=x;exact p.lt
 |dK kvs=>obtain⟨_,_,_,_,o,_,_,e,_⟩:=x;exact bh e
 |dT kvs=>obtain⟨_,_,_,_,o,_,_,e,_⟩:=x;exact bh e
 |set S n=>obtain⟨o,_,_,_,e,_⟩:=x;exact bh e
 |ins C dx fs=>obtain⟨_,_,_,e,_⟩:=x;exact bh e
 |own y=>obtain⟨_,e⟩:=x;exact bh e
 |xd fs=>obtain⟨_,⟨_,_,_,e,_⟩,_⟩:=x;exact bh e
 |rng lo hi=>obtain⟨_,_,_,e⟩:=x;exact bh e
 |frz ob u=>obtain⟨e,_⟩:=x;exact bh e
 |tbl ps=>exact bh (show h.get? a=some _ from x)
 |met f y=>exact bh (show h.get? a=some _ from x)
 |ext φ=>obtain⟨_,⟨_,e⟩,_⟩:=x;exact bh e
theorem Paired.mapP:∀{l₁:List α}{l₂:List β},fk F l₁ l₂->(∀a b,F a b->G a b)->fk G l₁ l₂
 |_,_,.nil,_=>.nil
 |_,_,.cons r t,f=>.cons (f _ _ r) (Paired.mapP t f)
theorem fG.stay(x:fG P w H h a o)(k:∀b u,(b=a\/H b=some (.own a))->h.get? b=some u->h'.get? b=some u)
  (ho:∀b,H b=some (.own a)->H' b=some (.own a))(ht:∀b xs,H b=some (.tup xs)->H' b=some (.tup xs)):fG P w H' h' a o:=by
 induction o with
 |lst xs=>obtain⟨z,its,n,r,e⟩:=x;exact⟨z,its,n,r,k _ _ (.inl rfl) e⟩
 |tup xs=>obtain⟨⟨z,o9,e9,d9⟩,its,r,ob,e,c⟩:=x;exact⟨⟨z,o9,k _ _ (.inl rfl) e9,d9⟩,its,r,ob,k _ _ (.inl rfl) e,c⟩
 |dK kvs=>obtain⟨z,y,vs,r,ob,es,ep,e,c⟩:=x;exact⟨z,y,vs,r,ob,es,ep,k _ _ (.inl rfl) e,c⟩
 |dT kvs=>
  obtain⟨z,y,xs,r,ob,es,ep,e,c⟩:=x;exact⟨z,y,xs,Paired.mapP r λp q z=>⟨z.1,ht _ _ z.2.1,z.2.2⟩,ob,es,ep,k _ _ (.inl rfl) e,c⟩
 |set S n=>obtain⟨ob,es,ep,t,e,c⟩:=x;exact⟨ob,es,ep,t,k _ _ (.inl rfl) e,c⟩
 |ins C dx fs=>
  obtain⟨d,z,ne,e,mA,⟨od,es,ep,e2,c⟩,r⟩:=x;exact⟨ho _ d,z,ne,k _ _ (.inl rfl) e,mA,⟨od,es,ep,k _ _ (.inr d) e2,c⟩,r⟩
 |own y=>obtain⟨ob,e⟩:=x;exact⟨ob,k _ _ (.inl rfl) e⟩
 |xd fs=>obtain⟨mA,⟨od,es,ep,e,c⟩,r⟩:=x;exact⟨mA,⟨od,es,ep,k _ _ (.inl rfl) e,c⟩,r⟩
 |rng lo hi=>obtain⟨t,u,v,e⟩:=x;exact⟨t,u,v,k _ _ (.inl rfl) e⟩
 |frz ob u ih=>obtain⟨e,q⟩:=x;exact⟨k _ _ (.inl rfl) e,ih q⟩
 |tbl ps=>
  have e:=x;exact k a _ (.inl rfl) e
 |met f y=>
  have e:=x;exact k a _ (.inl rfl) e
 |ext φ=>obtain⟨p,⟨o,e⟩,st⟩:=x;exact⟨st _ _ p λo q=>k _ _ (.inl rfl) q,⟨o,k _ _ (.inl rfl) e⟩,st⟩
theorem eT.lt(x:eT P w H h)(e:H a=some o):a<h.objs.size:=(x a o e).lt
theorem eT.fresh(x:eT P w H h)(e:h.objs.size<=a):H a=none:=by
 cases q:H a with
 |none=>rfl
 |some u=>exact absurd (fg (x.lt q) e) (jc _)
theorem eT.kept(x:eT P w H h)(k:∀b u,h.get? b=some u->h'.get? b=some u):eT P w H h':=λa o e=>
 (x a o e).stay (λb u _ q=>k b u q) (λ_ q=>q) λ_ _ q=>q
theorem eT.laid(x:eT P w H h)(k:∀b u,h.get? b=some u->h'.get? b=some u)(hp:h.objs.size<=a)(new:fG P w (aS H a o) h' a o):eT P w (aS H a o) h':=λb u e=>by
 have hn:=x.fresh hp
 by_cases hb:b=a
 .subst hb;rw[eI]at e;simp_all
 .rw[bO hb]at e
  exact(x b u e).stay (λc v _ q=>k c v q) (λc q=>by rw[bO (gB q hn)];exact q) λc xs q=>by rw[bO (gB q hn)];exact q
end
noncomputable def Rd(H:Hp)(a:Addr)(u:HO):Prop:=H a=some u\/∃o,H a=some (.frz o u)
theorem Rd.ok{H:Hp}{h:Heap}{a:Addr}{u:HO}(r:Rd H a u)(x:eT P w H h):fG P w H h a u:=by
 rcases r with r |⟨o,r⟩
 .exact x a u r
 .obtain⟨_,q⟩:=x a _ r
  exact q
noncomputable def zJ:Option HO->Prop
 |some (.lst _)=>True
 |some (.dK _)=>True
 |some (.dT _)=>True
 |some (.set _ _)=>True
 |some (.ins _ _ _)=>True
 |some (.ext _)=>True
 |_=>False
section
variable{P:Program}{w:ar}{H:Hp}{h h':Heap}{x e:Addr}{o':HO}
theorem eT.write(ok:eT P w H h)(mu:zJ (H x))(he:e=x\/H e=some (.own x))(k:∀b u,b≠e->h.get? b=some u->h'.get? b=some u)(heo:∃u,h'.get? e=some u)
  (new:fG P w (aS H x o') h' x o'):eT P w (aS H x o') h':=λb u q=>by
 have nown:∀c y,H c=some (.own y)->c≠x:=λc y r z=>by subst z;rw[r]at mu;exact mu
 have ntup:∀c xs,H c=some (.tup xs)->c≠x:=λc xs r z=>by subst z;rw[r]at mu;exact mu
 by_cases hb:b=x
 .subst hb;rw[eI]at q;cases q;exact new
 .rw[bO hb]at q
  by_cases hbe:b=e
  .have q':H b=some (.own x):=by
    rcases he with z |z
    .exact absurd (hbe.trans z) hb
    .rw[hbe];exact z
   rw[q]at q';cases q';obtain⟨v,hv⟩:=heo;exact⟨v,by rw[hbe];exact hv⟩
  .refine(ok b u q).stay (λc v hc r=>k c v ?_ r) (λc r=>by rw[bO (nown c b r)];exact r) λc xs r=>by rw[bO (ntup c xs r)];exact r
   rcases hc with rfl |hc
   .exact hbe
   .rintro rfl
    rcases he with z |z
    .exact nown c b hc z
    .grind
end
structure Un(fs ex:List Addr)(H H':Hp)(h h':Heap):Prop where
 keep:∀b o,h.get? b=some o->H b=none->b∉fs->b∉ex->h'.get? b=some o
 slot:∀b o,h.get? b=some o->H b=none->b∈fs->b∉ex->∃sl,h'.get? b=some {o with slots:=sl}
 free:∀b o,h.get? b=some o->H b=none->b∉ex->H' b=none
 there:∀b o,h.get? b=some o->b∉ex->∃o',h'.get? b=some o'
 tups:∀b xs,H b=some (.tup xs)->H' b=some (.tup xs)
 frzs:∀b o u,H b=some (.frz o u)->H' b=some (.frz o u)
 tbls:∀b ps,H b=some (.tbl ps)->∃more,H' b=some (.tbl (ps++more))
section
variable{fs ex:List Addr}{H H1 H2:Hp}{h h1 h2 h':Heap}{a x e:Addr}{o:HO}
theorem Un.any(u:Un fs ex H H1 h h1){b:Addr}{ob:Obj}(q:h.get? b=some ob)(n:H b=none)(hx:b∉ex):∃sl,h1.get? b=some {ob with slots:=sl}:=by
 by_cases hb:b∈fs
 .exact u.slot b _ q n hb hx
 .exact⟨ob.slots,u.keep b ob q n hb hx⟩
theorem Un.trans(a:Un fs ex H H1 h h1)(b:Un fs ex H1 H2 h1 h2):Un fs ex H H2 h h2 where
 keep:=λc ob q n hc hx=>b.keep c _ (a.keep c _ q n hc hx) (a.free c _ q n hx) hc hx
 slot:=λc ob q n hc hx=>by
  obtain⟨sl,e1⟩:=a.slot c _ q n hc hx;obtain⟨sl',e2⟩:=b.slot c _ e1 (a.free c _ q n hx) hc hx;exact⟨sl',e2⟩
 free:=λc ob q n hx=>by
  obtain⟨o',e1⟩:=a.there c _ q hx;exact b.free c _ e1 (a.free c _ q n hx) hx
 there:=λc ob q hx=>by
  obtain⟨o',e1⟩:=a.there c _ q hx;exact b.there c _ e1 hx
 tups:=λc xs q=>b.tups c _ (a.tups c _ q)
 frzs:=λc ob xs q=>b.frzs c _ _ (a.frzs c _ _ q)
 tbls:=λc ps q=>by
  obtain⟨m1,e1⟩:=a.tbls c _ q;obtain⟨m2,e2⟩:=b.tbls c _ e1;exact⟨m1++m2,by rw[e2,AA]⟩
theorem Un.kept(k:∀b u,h.get? b=some u->h'.get? b=some u):Un fs ex H H h h':=
 ⟨λb ob q _ _ _=>k b _ q,λb ob q _ _ _=>⟨ob.slots,k b ob q⟩,λ_ _ _ n _=>n,λb ob q _=>⟨ob,k b _ q⟩,λ_ _ q=>q,λ_ _ _ q=>q,λ_ ps q=>⟨#[],by rw[q];simp⟩⟩
theorem Un.refl:Un fs ex H H h h:=Un.kept λ_ _ q=>q
theorem Un.laid(k:∀b u,h.get? b=some u->h'.get? b=some u)(hp:h.objs.size<=a)(hn:H a=none):Un fs ex H (aS H a o) h h' where
 keep:=λb u q _ _ _=>k b u q
 slot:=λb u q _ _ _=>⟨u.slots,k b u q⟩
 free:=λb u q n _=>by rw[bO (df (fg (bh q) hp))];exact n
 there:=λb u q _=>⟨u,k b u q⟩
 tups:=λb xs q=>by rw[bO (gB q hn)];exact q
 frzs:=λb u xs q=>by rw[bO (gB q hn)];exact q
 tbls:=λb ps q=>⟨#[],by rw[bO (gB q hn),q];simp⟩
theorem Un.write(mu:zJ (H x))(he:e=x\/H e=some (.own x))(k:∀b u,b≠e->h.get? b=some u->h'.get? b=some u)(heo:∃u,h'.get? e=some u):Un fs ex H (aS H x o) h h':=by
 have hx:∀b,H b=none->b≠x:=λb n z=>by subst z;rw[n]at mu;exact mu
 have hb:∀b,H b=none->b≠e:=λb n z=>by
  simp_all
 have hm:∀b u,H b=some u->¬zJ (some u)->b≠x:=λb u q nm z=>by simp_all
 refine⟨λb u q n _ _=>k b u (hb b n) q,λb u q n _ _=>⟨u.slots,k b u (hb b n) q⟩,λb u q n _=>by rw[bO (hx b n)];exact n,λb u q _=>?_,
  λb xs q=>by rw[bO (hm b _ q λz=>z)];exact q,λb u xs q=>by rw[bO (hm b _ q λz=>z)];exact q,λb ps q=>⟨#[],by rw[bO (hm b _ q λz=>z),q];simp⟩⟩
 by_cases hbe:b=e
 .simp_all
 .exact⟨u,k b u hbe q⟩
end
noncomputable def zB(h:Heap)(H:Hp):List Addr:=(ci h.objs.size).filter λa=>(H a).isSome
noncomputable def nB(h:Heap)(H:Hp):Heap:=yw h (zB h H)
theorem B9(h:Heap)(H:Hp):(nB h H).objs.size=h.objs.size:=PySem.W.hideAll_size _ _
theorem M9{H:Hp}{b:Addr}{o:Obj}(e:h.get? b=some o)(n:H b=none):(nB h H).get? b=some o:=
 yx _ e λhm=>by
  have q:=(vn.mp hm).2;rw[n]at q;simp at q
theorem Y8(e:(nB h H).get? b=some o):h.get? b=some o/\H b=none:=by
 have e':=AB _ e;refine⟨e',?_⟩;cases q:H b with
 |none=>rfl
 |some x=>
  have hm:b∈zB h H:=vn.mpr ⟨yy.mpr (bh e'),by simp[q]⟩;have z:(nB h H).get? b=none:=PySem.W.hideAll_none _ hm;simp_all
noncomputable def aaU(g h:Heap)(L:Addr):List (Addr×Obj):=(ci h.objs.size).filterMap λa=>if a=L\/(g.get? a).isSome=true then none else(h.get? a).map λo=>(a,o)
noncomputable def eR(g h:Heap)(L d:Addr):List (Addr×Obj):=(aaU g h L).filter λp=>decide (p.1≠d)
structure Mod(K:ah)(mg:Str->FO)(base:Heap):Prop where
 kin:K.In base
 glob:base.Ns mainGlobals mg
 blt:∃mb,base.Ns builtinsNs mb/\∀x:Str,x≠"__name__"->mb x=bootBuiltins x
 nolimit:base.NoLimit
structure Cx where
 prog:Program
 w:ar
 K:ah
 mg:Str->FO
 base:Heap
 A:ax
 N:List Str
 FY:aa
 FZ:Hp
 env:ca
 outer:List ca
 stack:List ca
 ex:List Addr
 fn:Str->Bool
 calm:Bool
 pn:List (Addr×Obj)
 xe:Value->aa->Prop
noncomputable def eG(l:List ca):List Addr:=l.filterMap (·.frame)
noncomputable abbrev Cx.fs(X:Cx):List Addr:=eG X.outer
noncomputable def nK(sc:Scope)(x:Str):Prop:=sc.names.lookup x=some .local\/sc.names.lookup x=some .cell\/sc.names.lookup x=some .free
noncomputable def kX(sc:Scope)(x:Str):Prop:=sc.names.lookup x=some .local\/sc.names.lookup x=some .cell
noncomputable def afa(env:ca)(h:Heap)(m:Str->FO)(x:Str)(u:Value):Prop:=
 (env.kindOf x=some .local/\m x=some u)\/((env.kindOf x=some .cell\/env.kindOf x=some .free)/\∃c,env.cells.lookup x=some c/\h.IsCell c (some u))
structure Cx.Ok(X:Cx):Prop where
 mod:Mod X.K X.mg X.base
 kind:X.env.scope.kind=.function
 glob:X.env.globals=mainGlobals
 blt:X.env.builtins=builtinsNs
 above:X.FY.heap.objs.size<=X.env.locals
 inj:∀x y c,X.env.cells.lookup x=some c->X.env.cells.lookup y=some c->x=y
 has:∀x,(X.env.kindOf x=some .cell\/X.env.kindOf x=some .free)->∃c,X.env.cells.lookup x=some c
 cab:∀x c,X.fn x=true->X.env.cells.lookup x=some c->X.FY.heap.objs.size<=c
 hd:X.calm=true->X.A.handled=none
 frames:X.A.frames=some X.stack
 stk:X.stack=X.outer\/(X.stack=X.env::X.outer/\X.env.frame=some X.env.locals)
 exf:∀b∈X.ex,b≠X.env.locals/\∀x c,X.env.cells.lookup x=some c->c≠b
 bs:∀b o,X.base.get? b=some o->X.FY.heap.get? b=some o/\X.FZ b=none
 bsz:X.base.objs.size<=X.FY.heap.objs.size
 noex:∀b o,X.base.get? b=some o->b∉X.ex
 exfs:∀b∈X.ex,b∉X.fs
 funs:X.FY.heap.FunFrames X.base X.outer
 frf:∀b∈X.fs,X.FZ b=none
structure aG(X:Cx)(FX:List (Addr×Obj))(σ:List (Option V))(H:Hp)(s:aa):Prop where
 ok:X.Ok
 os:s.os=X.FY.os
 bare:kn s.gens
 base:Un X.fs X.ex X.FZ H X.FY.heap s.heap
 loc:∃m,s.heap.Ns X.env.locals m/\∀(i:Nat)(x:Str)(v:V),X.N[i]?=some x->σ[i]?=some (some v)->nK X.env.scope x->∃u,bK v u/\afa X.env s.heap m x u
 cell:∀x c,X.env.cells.lookup x=some c->∃v,s.heap.IsCell c v
 free:H X.env.locals=none
 freeC:∀x c,X.env.cells.lookup x=some c->H c=none
 pin:∀p∈X.pn++FX,s.heap.get? p.1=some p.2/\H p.1=none/\p.1≠X.env.locals/\p.1∉X.fs/\∀v,p.2.data≠.cell v
 hok:eT X.prog X.w H s.heap
 len:σ.length=X.N.length
section
variable{X:Cx}{FX:List (Addr×Obj)}{σ:List (Option V)}{H H':Hp}{s:aa}{h':Heap}
theorem Cx.Ok.nofr(ok:X.Ok){b:Addr}{o:Obj}(e:X.base.get? b=some o):b∉X.fs:=λhb=>by
 have:=(ok.funs.mem hb).1;simp_all
theorem aG.bs(I:aG X FX σ H s):∀b o,X.base.get? b=some o->s.heap.get? b=some o/\H b=none:=λb o e=>
 ⟨I.base.keep b o (I.ok.bs b o e).1 (I.ok.bs b o e).2 (I.ok.nofr e) (I.ok.noex b o e),I.base.free b o (I.ok.bs b o e).1 (I.ok.bs b o e).2 (I.ok.noex b o e)⟩
theorem aG.bk(I:aG X FX σ H s):∀b o,X.base.get? b=some o->s.heap.get? b=some o:=λb o e=>(I.bs b o e).1
theorem aG.mod(I:aG X FX σ H s):Mod X.K X.mg X.base:=I.ok.mod
theorem aG.kIn(I:aG X FX σ H s):X.K.In s.heap:=I.ok.mod.kin.keeps I.bk
theorem aG.lt(I:aG X FX σ H s):X.env.locals<s.heap.objs.size:=let⟨_,hn,_⟩:=I.loc;hn.lt
theorem aG.sz(I:aG X FX σ H s):X.FY.heap.objs.size<=s.heap.objs.size:=gm I.ok.above (vo I.lt)
theorem aG.nofs(I:aG X FX σ H s){a:Addr}(h:s.heap.objs.size<=a):a∉X.fs:=λhb=>by
 obtain⟨_,o,ho,_⟩:=I.ok.funs.mem hb;exact absurd (fg (bh ho) (gm I.sz h)) (jc _)
theorem aG.cne(I:aG X FX σ H s):∀x c,X.env.cells.lookup x=some c->c≠X.env.locals:=λx c e z=>by
 obtain⟨v,o,ho,hd⟩:=I.cell x c e;obtain⟨m,⟨o',es,ep,ho',hd',_⟩,_⟩:=I.loc;grind
theorem aG.funs(I:aG X FX σ H s):s.heap.FunFrames X.base X.outer:=by
 have all:∀ l,(∀b∈eG l,b∈X.fs)->X.FY.heap.FunFrames X.base l->s.heap.FunFrames X.base l:=by
  intro l
  induction l with
  |nil=>intro _ _;trivial
  |cons env r ih=>
   intro hs hl;obtain⟨hk,⟨L,o,hf,hn,ho,hd⟩,hr⟩:=hl;have hL:=hs L (by unfold eG;rw[jo,hf];exact ce);obtain⟨sl,e⟩:=I.base.slot L o ho (I.ok.frf L hL) hL λz=>I.ok.exfs L z hL;exact⟨hk,⟨L,_,hf,hn,e,hd⟩,ih (λb hb=>hs b (by unfold eG;rw[jo,hf];exact cj _ hb)) hr⟩
 exact all _ (λ_ hb=>hb) I.ok.funs
theorem aG.stack(I:aG X FX σ H s):s.heap.FunFrames X.base X.stack:=by
 rcases I.ok.stk with e |⟨e,hf⟩
 .rw[e];exact I.funs
 .rw[e]
  obtain⟨m,hn,_⟩:=I.loc;refine .cons (by rw[I.ok.kind];decide) hf hn ?_ I.funs;exact Heap.get?_none_of_le (gm I.ok.bsz I.ok.above)
theorem aG.stkSub(I:aG X FX σ H s):∀b∈eG X.stack,b∈X.env.locals::X.fs:=λb hb=>by
 rcases I.ok.stk with e |⟨e,hf⟩
 .rw[e]at hb;exact cj _ hb
 .rw[e]at hb
  unfold eG at hb;rw[jo,hf]at hb;exact hb
theorem aG.stkFree(I:aG X FX σ H s):∀b∈eG X.stack,H b=none:=λb hb=>by
 rcases cr.mp (I.stkSub b hb)with e |hb
 .rw[e];exact I.free
 .obtain⟨_,o,ho,_⟩:=I.ok.funs.mem hb
  exact I.base.free b o ho (I.ok.frf b hb) λz=>I.ok.exfs b z hb
theorem aG.step{t':Nat}{d':Drawn}{ch:List Addr}(I:aG X FX σ H s)
  (hch:∀b∈ch,(b∈X.ex\/X.FY.heap.objs.size<=b)/\b≠X.env.locals/\(∀x c,X.env.cells.lookup x=some c->c≠b)/\∀p∈X.pn++FX,p.1≠b)
  (keep:∀b o,b≠X.env.locals->b∉X.fs->b∉ch->s.heap.get? b=some o->H b=none->h'.get? b=some o)
  (slot:∀b o,b≠X.env.locals->b∈X.fs->b∉ch->s.heap.get? b=some o->H b=none->∃sl,h'.get? b=some {o with slots:=sl})(free:∀b o,b∉ch->s.heap.get? b=some o->H b=none->H' b=none)
  (there:∀b o,b∉ch->s.heap.get? b=some o->∃o',h'.get? b=some o')
  (tups:∀b xs,H b=some (.tup xs)->H' b=some (.tup xs))(frzs:∀b o u,H b=some (.frz o u)->H' b=some (.frz o u))(tbls:∀b ps,H b=some (.tbl ps)->∃more,H' b=some (.tbl (ps++more)))
  (ns:∀m,s.heap.Ns X.env.locals m->h'.Ns X.env.locals m)(hok:eT X.prog X.w H' h')(hg:kn g'):
  aG X FX σ H' {s with heap:=h',gens:=g',drawn:=d',toks:=t'}:=by
 have neL:∀b o,X.FY.heap.get? b=some o->b≠X.env.locals:=λb o e=>df (fg (bh e) I.ok.above);have neC:∀b o,X.FY.heap.get? b=some o->b∉X.ex->b∉ch:=λb o e hx hb=>by
  rcases(hch b hb).1 with z |z
  .exact hx z
  .exact absurd (fg (bh e) z) (jc _)
 have cellK:∀x c,X.env.cells.lookup x=some c->∀v,s.heap.IsCell c v->h'.IsCell c v:=λx c e v ⟨o,ho,hd⟩=>by
  have nch:c∉ch:=λz=>(hch c z).2.2.1 x c e rfl
  by_cases hc:c∈X.fs
  .obtain⟨sl,q⟩:=slot c o (I.cne x c e) hc nch ho (I.freeC x c e)
   exact⟨_,q,hd⟩
  .exact⟨o,keep c o (I.cne x c e) hc nch ho (I.freeC x c e),hd⟩
 refine⟨I.ok,I.os,hg,⟨λb o e n hb hx=>?_,λb o e n hb hx=>?_,λb o e n hx=>?_,λb o e hx=>?_,λb xs e=>tups b xs (I.base.tups b xs e),λb o xs e=>frzs b o xs (I.base.frzs b o xs e),λb ps e=>?_⟩,?_,λx c e=>?_,?_,λx c e=>?_,λp hp=>?_,hok,I.len⟩
 .exact keep b o (neL b o e) hb (neC b o e hx) (I.base.keep b o e n hb hx) (I.base.free b o e n hx)
 .obtain⟨sl,e1⟩:=I.base.slot b o e n hb hx
  obtain⟨sl',e2⟩:=slot b _ (neL b o e) hb (neC b o e hx) e1 (I.base.free b o e n hx);exact⟨sl',e2⟩
 .obtain⟨o',e1⟩:=I.base.there b o e hx
  exact free b o' (neC b o e hx) e1 (I.base.free b o e n hx)
 .obtain⟨o',e1⟩:=I.base.there b o e hx
  exact there b o' (neC b o e hx) e1
 .obtain⟨m1,e1⟩:=I.base.tbls b ps e
  obtain⟨m2,e2⟩:=tbls b _ e1;exact⟨m1++m2,by rw[e2,AA]⟩
 .obtain⟨m,hn,hl⟩:=I.loc
  refine⟨m,ns m hn,λi x v e1 e2 e3=>?_⟩;obtain⟨u,r,l⟩:=hl i x v e1 e2 e3;refine⟨u,r,?_⟩;rcases l with l |⟨k,c,e,z⟩
  .exact .inl l
  .exact .inr ⟨k,c,e,cellK x c e _ z⟩
 .obtain⟨v,z⟩:=I.cell x c e
  exact⟨v,cellK x c e v z⟩
 .obtain⟨m,⟨o,_,_,ho,_⟩,_⟩:=I.loc
  exact free _ o (λz=>(hch _ z).2.1 rfl) ho I.free
 .obtain⟨v,o,ho,hd⟩:=I.cell x c e
  exact free c o (λz=>(hch c z).2.2.1 x c e rfl) ho (I.freeC x c e)
 .obtain⟨e,n,ne,nf,d⟩:=I.pin p hp
  have nch:p.1∉ch:=λz=>(hch p.1 z).2.2.2 p hp rfl;exact⟨keep p.1 p.2 ne nf nch e n,free p.1 p.2 nch e n,ne,nf,d⟩
theorem aG.un(I:aG X FX σ H s)(u:Un X.fs [] H H' s.heap h')(hok:eT X.prog X.w H' h'):aG X FX σ H' {s with heap:=h',toks:=t'}:=by
 obtain⟨m,⟨o,es,ep,ho,r⟩,_⟩:=id I.loc;obtain⟨sl,hL⟩:=u.any ho I.free (by simp);exact I.step   (ch:=[]) (λ_ z=>nomatch z) (λb o _ hb _ e n=>u.keep b o e n hb (by simp)) (λb o _ hb _ e n=>u.slot b o e n hb (by simp)) (λb o _ e n=>u.free b o e n (by simp)) (λb o _ e=>u.there b o e (by simp)) u.tups u.frzs u.tbls (λm' hm=>by
  obtain⟨o',es',ep',ho',r'⟩:=hm;rw[ho]at ho';cases ho';exact⟨_,es',ep',hL,r'⟩) hok I.bare
theorem aG.call{d':Drawn}{ch:List Addr}(I:aG X FX σ H s)(u:Un (eG X.stack) ch H H' s.heap h')(hok:eT X.prog X.w H' h')(hg:kn g')
  (hch:∀b∈ch,(b∈X.ex\/X.FY.heap.objs.size<=b)/\b≠X.env.locals/\(∀x c,X.env.cells.lookup x=some c->c≠b)/\∀p∈X.pn++FX,p.1≠b):
  aG X FX σ H' {s with heap:=h',gens:=g',drawn:=d',toks:=t'}:=by
 obtain⟨m,⟨o,es,ep,ho,r⟩,_⟩:=id I.loc;obtain⟨sl,hL⟩:=u.any ho I.free λz=>(hch _ z).2.1 rfl;exact I.step  hch (λb o hL hb hc e n=>u.keep b o e n (λz=>(cr.mp (I.stkSub b z)).elim hL hb) hc) (λb o _ _ hc e n=>u.any e n hc) (λb o hc e n=>u.free b o e n hc) (λb o hc e=>u.there b o e hc) u.tups u.frzs u.tbls (λm' hm=>by
  obtain⟨o',es',ep',ho',r'⟩:=hm;rw[ho]at ho';cases ho';exact⟨_,es',ep',hL,r'⟩) hok hg
theorem aG.turned{it:Addr}(I:aG X FX σ H s)(k:∀b o,b≠it->s.heap.get? b=some o->h'.get? b=some o)(hn:H it=none)(hL:it≠X.env.locals)
  (h1:it∈X.ex\/X.FY.heap.objs.size<=it)(h2:∀x c,X.env.cells.lookup x=some c->c≠it)(h3:∀p∈X.pn++FX,p.1≠it):aG X FX σ H {s with heap:=h',toks:=t'}:=by
 have nit:∀b u,H b=some u->b≠it:=λb u e z=>by simp_all
 refine I.step   (ch:=[it]) (λb hb=>?_) (λb o _ _ hc e _=>k b o (λz=>hc (by simp[z])) e) (λb o _ _ hc e _=>⟨o.slots,k b o (λz=>hc (by simp[z])) e⟩) (λ_ _ _ _ n=>n)
  (λb o hc e=>⟨o,k b o (λz=>hc (by simp[z])) e⟩) (λ_ _ e=>e) (λ_ _ _ e=>e) (λb ps e=>⟨#[],by rw[e];simp⟩) (λm hm=>?_) (λb u e=>?_) I.bare
 .have e:=by simpa using hb
  subst e;exact⟨h1,hL,h2,h3⟩
 .obtain⟨o,es,ep,ho,r⟩:=hm
  exact⟨o,es,ep,k _ o (jp hL) ho,r⟩
 .refine(I.hok b u e).stay (λc v hc q=>k c v ?_ q) (λ_ q=>q) λ_ _ q=>q
  rcases hc with z |z
  .rw[z];exact nit b u e
  .exact nit c _ z
theorem aG.tok(I:aG X FX σ H s)(t:Nat):aG X FX σ H {s with toks:=t}:=I.un   Un.refl I.hok
theorem aG.kept(I:aG X FX σ H s)(k:∀b u,s.heap.get? b=some u->h'.get? b=some u):aG X FX σ H {s with heap:=h',toks:=t'}:=I.un (Un.kept k) (I.hok.kept k)
theorem aG.laid{a:Addr}{o:HO}{t':Nat}(I:aG X FX σ H s)(k:∀b u,s.heap.get? b=some u->h'.get? b=some u)(hp:s.heap.objs.size<=a)(new:fG X.prog X.w (aS H a o) h' a o):
  aG X FX σ (aS H a o) {s with heap:=h',toks:=t'}:=I.un (Un.laid k hp (I.hok.fresh hp)) (I.hok.laid k hp new)
theorem aG.write(I:aG X FX σ H s)(mu:zJ (H x))(he:e=x\/H e=some (.own x))(k:∀b u,b≠e->s.heap.get? b=some u->h'.get? b=some u)(heo:∃u,h'.get? e=some u)
  (new:fG X.prog X.w (aS H x o) h' x o):aG X FX σ (aS H x o) {s with heap:=h',toks:=t'}:=I.un (Un.write mu he k heo) (I.hok.write mu he k heo new)
theorem aG.pins_of(I:aG X FX σ H s)(h:∀p∈pins',s.heap.get? p.1=some p.2/\H p.1=none/\p.1≠X.env.locals/\p.1∉X.fs/\∀v,p.2.data≠.cell v):aG X pins' σ H s:=
 ⟨I.ok,I.os,I.bare,I.base,I.loc,I.cell,I.free,I.freeC,λp hp=>(dk.mp hp).elim (λz=>I.pin p (ng _ z)) (h p),I.hok,I.len⟩
theorem Hm{N:List Str}(hN:N.Nodup){i j:Nat}{x:Str}(a:N[i]?=some x)(b:N[j]?=some x):i=j:=by
 obtain⟨h1,e1⟩:=da.mp a;obtain⟨h2,e2⟩:=da.mp b;exact(List.getElem_inj hN).mp (e1.trans e2.symm)
theorem Rz{M:pk}{A:ax}{E:Value->aa->Prop}{i:Nat}{x:Str}{v:V}{u:Value}{Q:Unit->aa->Prop}(I:aG X FX σ H s)(hN:X.N.Nodup)(hi:X.N[i]?=some x)(hx:kX X.env.scope x)(r:bK v u)
  (h:∀s',aG X FX (σ.set i (some v)) H s'->(∃a,il a s.heap s'.heap/\(a=X.env.locals\/X.env.cells.lookup x=some a))->Q () s')(hf:X.fn x=true\/X.env.scope.names.lookup x=some .local:=by first |exact .inl rfl |exact .inr rfl |assumption):wpAny M A (storeName X.env x u) Q E s:=by
 obtain⟨m,hn,hl⟩:=id I.loc;have hcls:(X.env.scope.kind== .class||(X.env.scope.kind== .module&&X.env.locals !=X.env.globals))=false:=by rw[I.ok.kind];rfl
 have hiσ:i<σ.length:=by rw[I.len];exact(da.mp hi).1
 have cne:=I.cne;have tracked:∀{a:Addr}{h':Heap},(∃o,s.heap.get? a=some o/\H a=none)->il a s.heap h'->eT X.prog X.w H h':=λ{a h'} ha hs b ob e=>by
  obtain⟨_,_,hfree⟩:=ha;refine(I.hok b ob e).stay (λc w' hc q=>(hs.2 c ?_).trans q) (λ_ q=>q) λ_ _ q=>q
  rintro rfl
  rcases hc with rfl |hc
  .rw[hfree]at e;cases e
  .rw[hfree]at hc;cases hc
 rcases hx with hk |hk
 .refine wpAny_storeName_local hk hn (λh' hn' hs=>?_) hcls
  obtain⟨oL,_,_,hoL,_⟩:=id hn;refine h _ ⟨I.ok,I.os,I.bare,⟨λb o e n hb hx=>?_,λb o e n hb hx=>?_,I.base.free,λb o e hx=>?_,I.base.tups,I.base.frzs,I.base.tbls⟩,⟨_,hn',λj y v' e1 e2 e3=>?_⟩,λy c e=>?_,I.free,I.freeC,λp hp=>?_,tracked ⟨oL,hoL,I.free⟩ hs,by simpa using I.len⟩ ⟨_,hs,.inl rfl⟩
  .exact(hs.2 b (df (fg (bh e) I.ok.above))).trans (I.base.keep b o e n hb hx)
  .obtain⟨sl,e1⟩:=I.base.slot b o e n hb hx
   exact⟨sl,(hs.2 b (df (fg (bh e) I.ok.above))).trans e1⟩
  .obtain⟨o',e1⟩:=I.base.there b o e hx
   exact⟨o',(hs.2 b (df (fg (bh e) I.ok.above))).trans e1⟩
  .by_cases hj:j=i
   .subst hj
    rw[hi]at e1;cases e1;rw[jq hiσ]at e2;cases e2;exact⟨u,r,.inl ⟨hk,by simp⟩⟩
   .rw[jy (jp hj)]at e2
    obtain⟨u',r',q⟩:=hl j y v' e1 e2 e3;refine⟨u',r',?_⟩;rcases q with⟨k,e⟩|⟨k,c,e,z⟩
    .refine .inl ⟨k,?_⟩
     have:y≠x:=λe=>hj (Hm hN e1 (e▸hi));simp[this,e]
    .exact .inr ⟨k,c,e,z.sameBut hs (cne y c e)⟩
  .obtain⟨w',z⟩:=I.cell y c e
   exact⟨w',z.sameBut hs (cne y c e)⟩
  .obtain⟨e,n,ne,nf,d⟩:=I.pin p hp
   exact⟨(hs.2 p.1 ne).trans e,n,ne,nf,d⟩
 .have hfn:X.fn x=true:=by
   rcases hf with z |z
   .exact z
   .rw[z]at hk;cases hk
  obtain⟨c,hc⟩:=I.ok.has x (.inl hk);obtain⟨w',z⟩:=I.cell x c hc;refine wpAny_storeName_cell I.ok.kind hk hc z (λh' hc' hs=>?_);obtain⟨oc,hoc,hocd⟩:=id z;refine h {s with heap:=h'} ⟨I.ok,I.os,I.bare,⟨λb o e n hb hx=>?_,λb o e n hb hx=>?_,I.base.free,λb o e hx=>?_,I.base.tups,I.base.frzs,I.base.tbls⟩,⟨m,hn.sameBut hs (jp (cne x c hc)),λj y v' e1 e2 e3=>?_⟩,λy c' e=>?_,I.free,I.freeC,λp hp=>?_,tracked ⟨oc,hoc,I.freeC x c hc⟩ hs,by simpa using I.len⟩ ⟨c,hs,.inr hc⟩
  .exact(hs.2 b (df (fg (bh e) (I.ok.cab x c hfn hc)))).trans (I.base.keep b o e n hb hx)
  .obtain⟨sl,e1⟩:=I.base.slot b o e n hb hx
   exact⟨sl,(hs.2 b (df (fg (bh e) (I.ok.cab x c hfn hc)))).trans e1⟩
  .obtain⟨o',e1⟩:=I.base.there b o e hx
   exact⟨o',(hs.2 b (df (fg (bh e) (I.ok.cab x c hfn hc)))).trans e1⟩
  .by_cases hj:j=i
   .subst hj
    rw[hi]at e1;cases e1;rw[jq hiσ]at e2;cases e2;exact⟨u,r,.inr ⟨.inl hk,c,hc,hc'⟩⟩
   .rw[jy (jp hj)]at e2
    obtain⟨u',r',q⟩:=hl j y v' e1 e2 e3;refine⟨u',r',?_⟩;rcases q with q |⟨k,c',e,z'⟩
    .exact .inl q
    .refine .inr ⟨k,c',e,z'.sameBut hs ?_⟩
     rintro rfl
     exact hj (Hm hN e1 (I.ok.inj _ _ _ e hc▸hi))
  .by_cases hcc:c'=c
   .subst hcc;exact⟨_,hc'⟩
   .obtain⟨w2,z2⟩:=I.cell y c' e
    exact⟨w2,z2.sameBut hs hcc⟩
  .obtain⟨e,n,ne,nf,d⟩:=I.pin p hp
   refine⟨(hs.2 p.1 ?_).trans e,n,ne,nf,d⟩;intro q;rw[q,hoc]at e;have q':oc=p.2:=ck e;exact d w' (by rw[<-q'];exact hocd)
theorem rA{i:Nat}{x:Str}{v:V}{u:Value}{Q:Unit->aa->Prop}(I:aG X FX σ H s)(hN:X.N.Nodup)(hi:X.N[i]?=some x)(hx:kX X.env.scope x)(r:bK v u)
  (h:∀s',aG X FX (σ.set i (some v)) H s'->Q () s')(hf:X.fn x=true\/X.env.scope.names.lookup x=some .local:=by first |exact .inl rfl |exact .inr rfl |assumption):wpAny M A (storeName X.env x u) Q E s:=
 Rz I hN hi hx r (λs' I' _=>h _ I') hf
theorem aG.call'{ch:List Addr}(I:aG X FX σ H s)(ho:s'.os=s.os)(u:Un (eG X.stack) ch H H' s.heap s'.heap)(hok:eT X.prog X.w H' s'.heap)(hg:kn s'.gens)
  (hch:∀b∈ch,(b∈X.ex\/X.FY.heap.objs.size<=b)/\b≠X.env.locals/\(∀x c,X.env.cells.lookup x=some c->c≠b)/\∀p∈X.pn++FX,p.1≠b):aG X FX σ H' s':=by
 obtain⟨h',g',d',t',o'⟩:=s';have e:o'=s.os:=ho;subst e;exact I.call    u hok hg hch
end
noncomputable abbrev XK:=Value->FQ->Hp->Prop
noncomputable abbrev St:=List (Option V)
noncomputable abbrev VK:=V->Hp->Prop
noncomputable abbrev TE:=St->Hp->VK->Prop
noncomputable abbrev TT:=St->Hp->(Bool->Hp->Prop)->Prop
noncomputable abbrev TA:=St->Hp->(List V->Hp->Prop)->Prop
structure lK where
 nx:St->Hp->Prop
 rt:VK
 bk:St->Hp->Prop:=λ_ _=>False
 ct:St->Hp->Prop:=λ_ _=>False
noncomputable abbrev TS:=lK->St->Hp->Prop
noncomputable def EP(X:Cx)(FX:List (Addr×Obj))(σ:St)(Q:VK)(u:Value)(s':aa):Prop:=∃v H',aG X FX σ H' s'/\bK v u/\Q v H'
noncomputable def TP(X:Cx)(FX:List (Addr×Obj))(σ:St)(Q:Bool->Hp->Prop)(b:Bool)(s':aa):Prop:=∃H',aG X FX σ H' s'/\Q b H'
noncomputable def AP(X:Cx)(FX:List (Addr×Obj))(σ:St)(Q:List V->Hp->Prop)(us:FN)(s':aa):Prop:=∃vs H',aG X FX σ H' s'/\bB vs us/\Q vs H'
noncomputable def SP(X:Cx)(FX:List (Addr×Obj))(D:lK)(f:Flow)(s':aa):Prop:=
 match f with
 |.next=>∃σ' H',aG X FX σ' H' s'/\D.nx σ' H'
 |.brk=>∃σ' H',aG X FX σ' H' s'/\D.bk σ' H'
 |.cont=>∃σ' H',aG X FX σ' H' s'/\D.ct σ' H'
 |.ret u=>∃v σ' H',aG X FX σ' H' s'/\bK v u/\D.rt v H'
noncomputable def PE(X:Cx)(e:ai)(t:TE):Prop:=
 ∀(FX:List (Addr×Obj))(s:aa)(σ:St)(H:Hp)(Q:VK),aG X FX σ H s->t σ H Q->wpAny (model X.prog X.w) X.A (eval e X.env) (EP X FX σ Q) X.xe s
noncomputable def PT(X:Cx)(e:ai)(t:TT):Prop:=
 ∀(FX:List (Addr×Obj))(s:aa)(σ:St)(H:Hp)(Q:Bool->Hp->Prop),aG X FX σ H s->t σ H Q->wpAny (model X.prog X.w) X.A (isTrue e X.env (eval e X.env)) (TP X FX σ Q) X.xe s
noncomputable def PW(X:Cx)(e:ai)(t:TT):Prop:=
 ∀(whole:gq Value)(FX:List (Addr×Obj))(s:aa)(σ:St)(H:Hp)(Q:Bool->Hp->Prop),aG X FX σ H s->t σ H Q->wpAny (model X.prog X.w) X.A (isTrue e X.env whole) (TP X FX σ Q) X.xe s
theorem PW.pt(h:PW X e t):PT X e t:=h _
noncomputable def PA(X:Cx)(es:List ai)(t:TA):Prop:=
 ∀(pos:ak)(FX:List (Addr×Obj))(s:aa)(σ:St)(H:Hp)(Q:List V->Hp->Prop),aG X FX σ H s->t σ H Q->wpAny (model X.prog X.w) X.A (spliced (backTo pos (starEach es X.env))) (AP X FX σ Q) X.xe s
noncomputable def PS(X:Cx)(st:Stmt)(t:TS):Prop:=
 ∀(FX:List (Addr×Obj))(s:aa)(σ:St)(H:Hp)(D:lK),aG X FX σ H s->t D σ H->wpAny (model X.prog X.w) X.A (exec st X.env) (SP X FX D) X.xe s
noncomputable def eZ(X:Cx)(st:List Stmt)(t:TS):Prop:=
 ∀(FX:List (Addr×Obj))(s:aa)(σ:St)(H:Hp)(D:lK),aG X FX σ H s->t D σ H->wpAny (model X.prog X.w) X.A (execs st X.env) (SP X FX D) X.xe s
theorem bC{M:pk}{A:ax}{E:Value->aa->Prop}{s:aa}(h:wpAny M A t Q E s)(hQ:∀a s,Q a s->Q' a s):wpAny M A t Q' E s:=im h hQ λ_ _ x=>x
section
variable{X:Cx}
theorem bin{ta tb:TE}(ha:PE X a ta)(hb:PE X b tb){FX:List (Addr×Obj)}{s:aa}{σ:St}{H:Hp}{R:V->V->Hp->Prop}(I:aG X FX σ H s)(h:ta σ H λx H1=>tb σ H1 λy H2=>R x y H2)
  {α:Type}{Q:α->aa->Prop}{f:Value->Value->gq α}
  (hf:∀v u s2 x y H2,aG X FX σ H2 s2->bK x v->bK y u->R x y H2->wpAny (model X.prog X.w) X.A (f v u) Q X.xe s2):
  wpAny (model X.prog X.w) X.A (eval a X.env) (λv GA=>wpAny (model X.prog X.w) X.A (eval b X.env) (λu GD=>wpAny (model X.prog X.w) X.A (f v u) Q X.xe GD) X.xe GA) X.xe s:=by
 refine bC (ha _ s _ H _ I h) ?_
 rintro v s1 ⟨x,H1,I1,r1,q1⟩
 refine bC (hb _ _ _ _ _ I1 q1) ?_
 rintro u s2 ⟨y,H2,I2,r2,q2⟩
 exact hf v u _ x y _ I2 r1 r2 q2
noncomputable def Wu(i:Nat):TE:=λσ H Q=>∃v,σ[i]?=some (some v)/\Q v H
noncomputable def tC(v:V):TE:=λ_ H Q=>Q v H
theorem rM{pos:ak}(hN:X.N[i]?=some x)(hv:nK X.env.scope x)(hd:(x==("__debug__":Str))=false:=by decide)(hcd:(x==("__classdict__":Str))=false:=by decide):PE X (.Name x pos) (Wu i):=by
 intro FX s σ H Q I h;obtain⟨v,e,h⟩:=h;obtain⟨m,hn,hl⟩:=I.loc;obtain⟨u,r,l⟩:=hl i x v hN e hv;have fin:EP X FX σ Q u s:=⟨v,H,I,r,h⟩;rcases l with⟨hk,hm⟩|⟨hk,c,hc,hcell⟩
 .exact yz (AC I.ok.kind hk hn hm fin) hd
 .rcases hk with hk |hk
  .exact yz (AD I.ok.kind hk hc hcell fin) hd
  .exact yz (wpAny_loadName_free I.ok.kind hk hc hcell fin hcd) hd
theorem Zc:PE X (.Constant (.int i) j pos) (tC (.int i)):=λ_ _ _ H _ I h=>AE ⟨.int i,H,I.tok _,⟨_,rfl⟩,h⟩
theorem aed:PE X (.Constant (.bool b) j pos) (tC (.bl b)):=λ_ _ _ H _ I h=>Constant_bool ⟨.bl b,H,I,rfl,h⟩
theorem acz:PE X (.Constant (.str x) j pos) (tC (.str x)):=λ_ _ _ H _ I h=>Calls.Constant_str ⟨.str x,H,I.tok _,⟨_,rfl⟩,h⟩
noncomputable def Gl(X:Cx)(x:Str):Prop:=X.env.kindOf x=some .globalImplicit
theorem xB{FX:List (Addr×Obj)}{s:aa}{σ:St}{H:Hp}{x:Str}{u:Value}{pos:ak}{Q:Value->aa->Prop}(I:aG X FX σ H s)(hg:Gl X x)(hm:X.mg x=some u)(h:Q u s)
  (hd:(x==("__debug__":Str))=false:=by decide):wpAny (model X.prog X.w) X.A (eval (.Name x pos) X.env) Q E s:=
 AF I.ok.kind hg (Calls.loadGlobal_global (by rw[I.ok.glob];exact I.mod.glob.keeps I.bk) hm h) hd
theorem mS{E:Value->aa->Prop}{FX:List (Addr×Obj)}{s:aa}{σ:St}{H:Hp}{x:Str}{u:Value}{pos:ak}{Q:Value->aa->Prop}(I:aG X FX σ H s)(hg:Gl X x)(hm:X.mg x=none)(hv:bootBuiltins x=some u)(h:Q u s)
  (hn:x≠"__name__":=by decide)(hd:(x==("__debug__":Str))=false:=by decide):wpAny (model X.prog X.w) X.A (eval (.Name x pos) X.env) Q E s:=by
 obtain⟨mb,h1,h2⟩:=I.mod.blt;exact AF I.ok.kind hg (Calls.loadGlobal_builtin (by rw[I.ok.glob];exact I.mod.glob.keeps I.bk) hm (by rw[I.ok.blt];exact h1.keeps I.bk) ((h2 x hn).trans hv) h) hd
theorem aaP{u:Value}{pos:ak}(hg:Gl X x)(hm:X.mg x=some u)(r:bK v u)(hd:(x==("__debug__":Str))=false:=by decide):PE X (.Name x pos) (tC v):=
 λ_ _ _ H _ I h=>xB I hg hm ⟨v,H,I,r,h⟩ hd
theorem So{u:Value}{pos:ak}(hg:Gl X x)(hm:X.mg x=none)(hv:bootBuiltins x=some u)(r:bK v u)(hn:x≠"__name__":=by decide)(hd:(x==("__debug__":Str))=false:=by decide):PE X (.Name x pos) (tC v):=
 λ_ _ _ H _ I h=>mS I hg hm hv ⟨v,H,I,r,h⟩ hn hd
variable{a b:ai}{ta tb:TE}{pos:ak}
noncomputable def PC(X:Cx)(op:nh)(a b:ai)(t:TE):Prop:=
 ∀(FX:List (Addr×Obj))(s:aa)(σ:St)(H:Hp)(Q:VK),aG X FX σ H s->t σ H Q->
  wpAny (model X.prog X.w) X.A (eval a X.env) (λv GA=>wpAny (model X.prog X.w) X.A (eval b X.env) (λu GD=>wpAny (model X.prog X.w) X.A (compareOp op v u) (EP X FX σ Q) X.xe GD) X.xe GA) X.xe s
theorem C3(b:ai){op:nh}(h:op≠.In)(h2:op≠.NotIn):behindInMarks op b=false:=by
 have e1:(op==CmpOp.In)=false:=by grind
 have e2:(op==CmpOp.NotIn)=false:=by grind
 cases b<;>simp[behindInMarks,e1,e2]
noncomputable def tB(t:TE):TT:=λσ H Q=>t σ H λx H1=>∃c,x=.bl c/\Q c H1
theorem aem(h:PC X op a b t)(h1:behindInMarks op b=false:=by first |exact C3 _ (by decide) (by decide) |rfl):PT X (.Compare a [op] [b] pos) (tB t):=by
 intro FX s σ H Q I hw;refine AG (bC (h _ s _ H _ I hw) λv s1 h1=>bC h1 λu s2 h2=>bC h2 λc s3 hq=>?_) h1;rcases hq with⟨x,H1,I1,r1,q1⟩;obtain⟨d,rfl,q⟩:=q1;cases r1;exact ni ⟨H1,I1,q⟩
theorem acm(h:PE X e t)(he:∀whole,isTrue e X.env whole=(do let v <-whole;standAt e.pos;holding [v] (truthy v)):=by intro _;rfl):PT X e (tB t):=by
 intro FX s σ H Q I hw;refine isTrue_plain (bC (h _ s _ H _ I hw) λv s1 hq=>?_) (he _);rcases hq with⟨x,H1,I1,r1,q1⟩;obtain⟨d,rfl,q⟩:=q1;cases r1;exact ni ⟨H1,I1,q⟩
variable{tA tB':TT}{eR:List ai}
noncomputable def ae7(t u:TT):TT:=λσ H Q=>t σ H λc H1=>if c=true then u σ H1 Q else Q false H1
noncomputable def tOr(t u:TT):TT:=λσ H Q=>t σ H λc H1=>if c=true then Q true H1 else u σ H1 Q
noncomputable def aev(t:TT):TT:=λσ H Q=>t σ H λc H1=>Q (!c) H1
theorem aaF(ha:PT X a tA):PW X (.BoolOp .And [a] pos) tA:=by
 intro wh FX s σ H Q I h;refine isTrue_and (bC (ha _ s _ H Q I h) λc s1 e=>?_);cases c with
 |true=>exact isTrue_and_nil e
 |false=>exact e
theorem abP(ha:PT X a tA):PW X (.BoolOp .Or [a] pos) tA:=by
 intro wh FX s σ H Q I h;refine isTrue_or (bC (ha _ s _ H Q I h) λc s1 e=>?_);cases c with
 |false=>exact isTrue_or_nil e
 |true=>exact e
theorem acB(ha:PT X a tA)(hb:PW X (.BoolOp .And (b::eR) pos) tB'):PW X (.BoolOp .And (a::b::eR) pos) (ae7 tA tB'):=by
 intro wh FX s σ H Q I h;refine isTrue_and (bC (ha _ s _ H _ I h) λc s1 hq=>?_);rcases hq with⟨H1,I1,q1⟩;cases c with
 |true=>exact hb _ _ _ _ _ Q I1 q1
 |false=>exact⟨H1,I1,q1⟩
theorem aea(ha:PT X a tA)(hb:PW X (.BoolOp .Or (b::eR) pos) tB'):PW X (.BoolOp .Or (a::b::eR) pos) (tOr tA tB'):=by
 intro wh FX s σ H Q I h;refine isTrue_or (bC (ha _ s _ H _ I h) λc s1 hq=>?_);rcases hq with⟨H1,I1,q1⟩;cases c with
 |true=>exact⟨H1,I1,q1⟩
 |false=>exact hb _ _ _ _ _ Q I1 q1
theorem acg(ha:PT X a tA):PT X (.UnaryOp .Not a pos) (aev tA):=by
 intro FX s σ H Q I h;exact isTrue_not (ha _ s _ H _ I h)
noncomputable def adz(ta tb:TE):TE:=λσ H Q=>ta σ H λx H1=>∃c,x=.bl c/\if c=true then tb σ H1 Q else Q (.bl false) H1
noncomputable def adf(ta:TE):TE:=λσ H Q=>ta σ H λx H1=>∃c,x=.bl c/\Q (.bl (!c)) H1
theorem ab1(ha:PE X a ta)(hb:PE X (.BoolOp .And (b::eR) pos) tb):PE X (.BoolOp .And (a::b::eR) pos) (adz ta tb):=by
 intro FX s σ H Q I h;refine BoolOp_and (bC (ha _ s _ H _ I h) λv s1 hq=>?_);rcases hq with⟨x,H1,I1,r1,q1⟩;obtain⟨c,rfl,q1⟩:=q1;cases r1;refine ni ?_;cases c with
 |true=>exact hb _ _ _ _ Q I1 q1
 |false=>exact⟨.bl _,H1,I1,rfl,q1⟩
theorem acv(ha:PE X a ta):PE X (.UnaryOp .Not a pos) (adf ta):=by
 intro FX s σ H Q I h;refine UnaryOp_ (bC (ha _ s _ H _ I h) λv s1 hq=>?_);rcases hq with⟨x,H1,I1,r1,q1⟩;obtain⟨c,rfl,q1⟩:=q1;cases r1;exact not_of (ni ⟨.bl _,H1,I1,rfl,q1⟩)
noncomputable def tIf(t:TT)(ta tb:TE):TE:=λσ H Q=>t σ H λc H1=>if c=true then ta σ H1 Q else tb σ H1 Q
theorem L8(hc:PT X c tA)(ha:PE X a ta)(hb:PE X b tb):PE X (.IfExp c a b pos) (tIf tA ta tb):=by
 intro FX s σ H Q I h;refine wpAny_IfExp (bC (hc _ s _ H _ I h) λd s1 hq=>?_);rcases hq with⟨H1,I1,q1⟩;cases d with
 |true=>exact ha _ _ _ _ Q I1 q1
 |false=>exact hb _ _ _ _ Q I1 q1
end
noncomputable def bS(K:ah)(H:Hp)(a:Addr)(xs:List V):Prop:=
 Rd H a (.lst xs)\/
  ∃(o:Obj)(its:Array Value)(n:Nat),K.lookup a=some o/\o.cls=.type "list"/\o.dict=none/\o.data=.seq its n/\its.size<=sizeLine/\bB xs its.toList
noncomputable def cO(K:ah)(H:Hp)(a:Addr)(xs:List V):Prop:=
 Rd H a (.tup xs)\/
  ∃(o:Obj)(its:Array Value)(n:Nat),K.lookup a=some o/\(o.cls=.type "tuple"/\o.dict=none)/\o.data=.seq its n/\its.size<=sizeLine/\bB xs its.toList
noncomputable def ae6:Value->Option V
 |.none=>some .non
 |.bool b=>some (.bl b)
 |.int i _=>some (.int i)
 |.str x _=>some (.str x)
 |.bytes b _=>some (.byt b)
 |.float b _=>some (.flt b)
 |.ref a=>some (.ref a)
 |.type n=>some (.ty n)
 |_=>none
theorem bK.abs(r:bK x u):ae6 u=some x:=by
 cases x with
 |non=>cases r;rfl
 |bl _=>cases r;rfl
 |int _=>obtain⟨t,rfl⟩:=r;rfl
 |str _=>obtain⟨t,rfl⟩:=r;rfl
 |byt _=>obtain⟨t,rfl⟩:=r;rfl
 |flt _=>obtain⟨t,rfl⟩:=r;rfl
 |ref _=>cases r;rfl
 |ty _=>cases r;rfl
theorem bK.inj{u:Value}(r:bK x u)(q:bK y u):x=y:=ck (r.abs.symm.trans q.abs)
theorem bB.inj:∀{xs ys:List V}{us:FN},bB xs us->bB ys us->xs=ys
 |_,_,_,.nil,.nil=>rfl
 |_,_,_,.cons r t,.cons r' t'=>by rw[r.inj r',bB.inj t t']
section
variable{X:Cx}{FX:List (Addr×Obj)}{σ:St}{H:Hp}{s:aa}{a:Addr}{xs ys:List V}
theorem bS.of{K:ah}(h:H a=some (.lst xs)):bS K H a xs:=.inl (.inl h)
theorem cO.of{K:ah}(h:H a=some (.tup xs)):cO K H a xs:=.inl (.inl h)
theorem aG.list(I:aG X FX σ H s)(h:bS X.K H a xs):∃its:FN,bB xs its/\PlainL s.heap a its.toArray/\xs.length<=sizeLine:=by
 rcases h with h |⟨o,its,n,hk,hc,hd,hs,hz,r⟩
 .obtain⟨z,its,n,r,e⟩:=h.ok I.hok
  exact⟨its,r,⟨_,n,e,rfl,rfl,rfl⟩,z⟩
 .refine⟨its.toList,r,⟨o,n,I.kIn a o hk,hc,hd,by simpa using hs⟩,?_⟩
  have e:=r.length;grind
theorem aG.tuple(I:aG X FX σ H s)(h:cO X.K H a xs):∃its:FN,bB xs its/\ph s.heap a its.toArray/\xs.length<=sizeLine:=by
 rcases h with h |⟨o,its,n,hk,hc,hs,hz,r⟩
 .obtain⟨z,its,r,p⟩:=h.ok I.hok
  exact⟨its,r,p,z.1⟩
 .refine⟨its.toList,r,⟨o,I.kIn a o hk,hc.1,n,by simpa using hs⟩,?_⟩
  have e:=r.length;grind
theorem aG.list_inj(I:aG X FX σ H s)(h:bS X.K H a xs)(h':bS X.K H a ys):xs=ys:=by
 obtain⟨its,r,⟨o,n,e,_,_,d⟩,_⟩:=I.list h;obtain⟨its',r',⟨o',n',e',_,_,d'⟩,_⟩:=I.list h';rw[e]at e';cases e';rw[d]at d';injection d' with d1 _;have:=by simpa using congrArg za d1
 subst this;exact r.inj r'
theorem aG.tuple_inj(I:aG X FX σ H s)(h:cO X.K H a xs)(h':cO X.K H a ys):xs=ys:=by
 obtain⟨its,r,⟨o,e,_,n,d⟩,_⟩:=I.tuple h;obtain⟨its',r',⟨o',e',_,n',d'⟩,_⟩:=I.tuple h';rw[e]at e';cases e';rw[d]at d';injection d' with d1 _;have:=by simpa using congrArg za d1
 subst this;exact r.inj r'
end
noncomputable abbrev Cx.wish(X:Cx)(E:Value->aa->Prop):Cx:={X with xe:=E}
noncomputable abbrev Cx.nox(X:Cx):Cx:=X.wish λ_ _=>False
theorem Cx.Ok.wish{X:Cx}(ok:X.Ok)(E:Value->aa->Prop):(X.wish E).Ok:=
 ⟨ok.mod,ok.kind,ok.glob,ok.blt,ok.above,ok.inj,ok.has,ok.cab,ok.hd,ok.frames,ok.stk,ok.exf,ok.bs,ok.bsz,ok.noex,ok.exfs,ok.funs,ok.frf⟩
theorem Cx.Ok.unwish{X:Cx}{E:Value->aa->Prop}(ok:(X.wish E).Ok):X.Ok:=
 ⟨ok.mod,ok.kind,ok.glob,ok.blt,ok.above,ok.inj,ok.has,ok.cab,ok.hd,ok.frames,ok.stk,ok.exf,ok.bs,ok.bsz,ok.noex,ok.exfs,ok.funs,ok.frf⟩
section
variable{X:Cx}{FX:List (Addr×Obj)}{σ:St}{H:Hp}{s:aa}{E:Value->aa->Prop}
theorem aG.wish(I:aG X FX σ H s)(E:Value->aa->Prop):aG (X.wish E) FX σ H s:=⟨I.ok.wish E,I.os,I.bare,I.base,I.loc,I.cell,I.free,I.freeC,I.pin,I.hok,I.len⟩
theorem aG.unwish(I:aG (X.wish E) FX σ H s):aG X FX σ H s:=⟨I.ok.unwish,I.os,I.bare,I.base,I.loc,I.cell,I.free,I.freeC,I.pin,I.hok,I.len⟩
theorem SP.unwish(h:SP (X.wish E) FX D f s'):SP X FX D f s':=by
 cases f with
 |next=>obtain⟨σ',H',I,q⟩:=h;exact⟨σ',H',I.unwish,q⟩
 |brk=>obtain⟨σ',H',I,q⟩:=h;exact⟨σ',H',I.unwish,q⟩
 |cont=>obtain⟨σ',H',I,q⟩:=h;exact⟨σ',H',I.unwish,q⟩
 |ret u=>obtain⟨v,σ',H',I,r,q⟩:=h;exact⟨v,σ',H',I.unwish,r,q⟩
theorem eZ.nox{st:List Stmt}{t:TS}(h:eZ X.nox st t):eZ X st t:=λFX s σ H D I hw=>
 im (h _ s _ H D (I.wish _) hw) (λ_ _ q=>q.unwish) λ_ _ z=>jr z
end
section
variable{X:Cx}{st:Stmt}{eR:List Stmt}{t u:TS}{e:ai}{te:TE}{pos:ak}
noncomputable def adj:TS:=λD σ H=>D.nx σ H
noncomputable def aeV(t u:TS):TS:=λD σ H=>t {D with nx:=u D} σ H
theorem Bo:eZ X [] adj:=λ_ _ σ H _ I h=>vp ⟨σ,H,I,h⟩
theorem wJ(h1:PS X st t)(h2:eZ X eR u):eZ X (st::eR) (aeV t u):=by
 intro FX s σ H D I h;refine wpAny_execs_cons (bC (h1 _ s _ H _ I h) λf s1 q=>?_);cases f with
 |next=>
  obtain⟨σ',H',I',q⟩:=q;exact h2 _ _ _ _ D I' q
 |ret v=>exact q
 |brk=>exact q
 |cont=>exact q
theorem U6(h1:PS X st t):eZ X [st] t:=by
 intro FX s σ H D I h;refine wpAny_execs_cons (bC (h1 _ s _ H D I h) λf s1 q=>?_);cases f with
 |next=>exact vp q
 |ret v=>exact q
 |brk=>exact q
 |cont=>exact q
theorem aG.quiet{σ:St}{H:Hp}{s:aa}(I:aG X FX σ H s):interactive X.env=false:=by simp[interactive,I.ok.kind]
noncomputable def adK(te:TE):TS:=λD σ H=>te σ H λ_ H1=>D.nx σ H1
theorem aag(he:PE X e te)(hs:swapsWith e none pos.line X.env=pure false:=by rfl):PS X (.Expr e pos) (adK te):=by
 intro FX s σ H D I h;exact wpAny_Expr_any (bC (he _ s _ H _ I h) λv s1 ⟨x,H1,I1,r1,q1⟩=>⟨σ,H1,I1,q1⟩) I.quiet hs
noncomputable def aeP(te:TE):TS:=λD σ H=>te σ H D.rt
theorem ace(he:PE X e te):PS X (.Return (some e) pos) (aeP te):=by
 intro FX s σ H D I h;exact wpAny_Return_some (bC (he _ s _ H _ I h) λv s1 ⟨x,H1,I1,r1,q1⟩=>⟨x,σ,H1,I1,r1,q1⟩)
noncomputable def aeF(c:TT)(t u:TS):TS:=λD σ H=>c σ H λb H1=>if b=true then t D σ H1 else u D σ H1
theorem ady{tc:TT}(hc:PT X c tc)(ha:eZ X a t)(hb:eZ X b u):PS X (.If c a b pos) (aeF tc t u):=by
 intro FX s σ H D I h;refine wpAny_If (bC (hc _ s _ H _ I h) λd s1 hq=>?_);rcases hq with⟨H1,I1,q1⟩;cases d with
 |true=>exact ha _ _ _ _ D I1 q1
 |false=>exact hb _ _ _ _ D I1 q1
end
noncomputable abbrev TG:=V->St->Hp->(St->Hp->Prop)->Prop
noncomputable abbrev nH:=List V->St->Hp->(St->Hp->Prop)->Prop
noncomputable def PG(X:Cx)(target:ai)(t:TG):Prop:=
 ∀(FX:List (Addr×Obj))(s:aa)(σ:St)(H:Hp)(v:V)(u:Value)(Q:St->Hp->Prop),aG X FX σ H s->bK v u->t v σ H Q->
  wpAny (model X.prog X.w) X.A (assign target X.env u) (λ_ s'=>∃σ' H',aG X FX σ' H' s'/\Q σ' H') X.xe s
noncomputable def mI(X:Cx)(ts:List ai)(t:nH):Prop:=
 ∀(FX:List (Addr×Obj))(s:aa)(σ:St)(H:Hp)(vs:List V)(us:FN)(Q:St->Hp->Prop),aG X FX σ H s->bB vs us->t vs σ H Q->
  wpAny (model X.prog X.w) X.A (assignInOrder ((assignEach ts X.env).map (·.2)) us) (λ_ s'=>∃σ' H',aG X FX σ' H' s'/\Q σ' H') X.xe s
noncomputable abbrev Bf:=V->V->V->Hp->(Hp->Prop)->Prop
noncomputable def Mu(X:Cx)(t:Bf):Prop:=
 ∀(FX:List (Addr×Obj))(s:aa)(σ:St)(H:Hp)(o i v:V)(ov iv u:Value)(Q:Hp->Prop),aG X FX σ H s->bK o ov->bK i iv->bK v u->t o i v H Q->
  wpAny (model X.prog X.w) X.A (setItem ov iv u) (λ_ s'=>∃H',aG X FX σ H' s'/\Q H') X.xe s
noncomputable abbrev uX:=V->V->Hp->VK->Prop
noncomputable def PIp(X:Cx)(op:tz)(t:uX):Prop:=
 ∀(FX:List (Addr×Obj))(s:aa)(σ:St)(H:Hp)(x y:V)(v u:Value)(Q:VK),aG X FX σ H s->bK x v->bK y u->t x y H Q->
  wpAny (model X.prog X.w) X.A (inplaceOp op v u) (EP X FX σ Q) X.xe s
section
variable{X:Cx}{pos:ak}
noncomputable def Je(i:Nat):TG:=λv σ H Q=>Q (σ.set i (some v)) H
theorem aau(hN:X.N.Nodup)(hi:X.N[i]?=some x)(hx:kX X.env.scope x)(hf:X.fn x=true\/X.env.scope.names.lookup x=some .local:=by first |exact .inl rfl |exact .inr rfl |assumption):PG X (.Name x pos) (Je i):=by
 intro FX s σ H v u Q I r h;exact wpAny_assign_Name (rA I hN hi hx r (λs' I'=>⟨_,H,I',h⟩) hf)
noncomputable def aeB:nH:=λvs σ H Q=>vs=[]/\Q σ H
noncomputable def adA(t:TG)(u:nH):nH:=λvs σ H Q=>∃v r,vs=v::r/\t v σ H λσ' H'=>u r σ' H' Q
theorem aa4:mI X [] aeB:=by
 intro FX s σ H vs us Q I r h;obtain⟨e,h⟩:=h;exact assignInOrder_nil ⟨σ,H,I,h⟩
theorem R3{t:TG}{u:nH}(h1:PG X e t)(h2:mI X es u)
  (hs:(assignEach (e::es) X.env).map (·.2)=assign e X.env::(assignEach es X.env).map (·.2):=by rfl):mI X (e::es) (adA t u):=by
 intro FX s σ H vs us Q I r h;obtain⟨v,vr,e1,h⟩:=h;subst e1;cases r with
 |cons r rr=>
  rw[hs];refine zb (bC (h1 _ s _ H _ _ _ I r h) λ_ s1 hq=>?_);rcases hq with⟨σ1,H1,I1,q1⟩;exact h2 _ _ _ _ _ _ Q I1 rr q1
noncomputable def aeG(K:ah)(n:Nat)(t:nH):TG:=λv σ H Q=>∃a xs,v=.ref a/\cO K H a xs/\xs.length=n/\t xs σ H Q
theorem abN{k:Nat}{t:nH}{n:Nat}(hc:X.calm=true)(h:mI X es t)
  (hn:(assignEach es X.env).length=n:=by rfl)(hst:(assignEach es X.env).findIdx? (·.1)=none:=by rfl):PG X (.Tuple es k pos) (aeG X.K n t):=by
 intro FX s σ H v u Q I r hw;obtain⟨a,xs,e1,hq,hl,hw⟩:=hw;subst e1;cases r;obtain⟨its,rv,ht,hz⟩:=I.tuple hq;refine assign_Tuple_tuple (I.ok.hd hc) ht (by simp[hn,<-hl,rv.length]) hst λh' hx=>?_;have I1:=I.kept (t':=s.toks) λb o e=>hx b o (df (bh e)) e;exact h FX _ σ H xs _ Q I1 (by simpa using rv) hw
noncomputable def aeK(to ti:TE)(t:Bf):TG:=λv σ H Q=>to σ H λo H1=>ti σ H1 λi H2=>t o i v H2 λH3=>Q σ H3
theorem aci{to ti:TE}{t:Bf}(ho:PE X o to)(hi:PE X i ti)(hs:Mu X t)
  (ha:∀v,assign (.Subscript o i pos) X.env v=(do
   let ov <-holding [v] (eval o X.env)
   let iv <-holding [v,ov] (eval i X.env)
   standAt pos
   holding [v,ov,iv] (setItem ov iv v)
   release [v,ov,iv] []):=by intro _;rfl):PG X (.Subscript o i pos) (aeK to ti t):=by
 intro FX s σ H v u Q I r h;rw[ha];refine ae (ix (bC (ho _ s _ H _ I h) λov s1 hq=>?_));rcases hq with⟨x,H1,I1,r1,q1⟩;refine ae (ix (bC (hi _ _ _ _ _ I1 q1) λiv s2 hq=>?_));rcases hq with⟨y,H2,I2,r2,q2⟩;refine ae (ua (ae (ix (bC (hs _ _ _ _ x y v _ _ u _ I2 r1 r2 r q2) λ_ s3 hq=>?_))));rcases hq with⟨H3,I3,q3⟩;exact wpAny_release ⟨σ,H3,I3,q3⟩
noncomputable def Ef(te:TE)(g:TG):TS:=λD σ H=>te σ H λx H1=>g x σ H1 D.nx
theorem aca{tg e:ai}{te:TE}{g:TG}(he:PE X e te)(hg:PG X tg g)(hs:swapsWithSole [tg] e pos.line X.env=pure false:=by rfl)(hw:swappedStores [tg] e X.env=pure none:=by rfl)
  (h1:(assignEach [tg] X.env).map (·.2)=[assign tg X.env]:=by rfl):PS X (.Assign [tg] e pos) (Ef te g):=by
 intro FX s σ H D I h;refine wpAny_Assign_stores (bC (he _ s _ H _ I h) λv s1 hq=>?_) hs hw;rcases hq with⟨x,H1,I1,r1,q1⟩;rw[h1];exact bC (hg _ _ _ _ x v _ I1 r1 q1) λ_ s2 q=>q
theorem abK{pos':ak}(hN:X.N.Nodup)(hi:X.N[i]?=some x)(hx:kX X.env.scope x)(he:PE X e te)(hs:swapsWith e (some (.Name x pos')) pos.line X.env=pure false:=by rfl)(hf:X.fn x=true\/X.env.scope.names.lookup x=some .local:=by first |exact .inl rfl |exact .inr rfl |assumption):
  PS X (.Assign [.Name x pos'] e pos) (Ef te (Je i)):=by
 intro FX s σ H D I h;refine wpAny_Assign_Name (bC (he _ s _ H _ I h) λv s1 hq=>?_) hs;rcases hq with⟨y,H1,I1,r1,q1⟩;exact rA I1 hN hi hx r1 (λs2 I2=>⟨_,H1,I2,q1⟩) hf
noncomputable def aeU(i j:Nat)(ta:TA):TS:=λD σ H=>ta σ H λvs H1=>∃v w,vs=[v,w]/\D.nx ((σ.set i (some v)).set j (some w)) H1
theorem abr{x y:Str}{a b:ai}{ta:TA}{px py pt:ak}{kt k2 pt2}(hc:X.calm=true)(hN:X.N.Nodup)(hi:X.N[i]?=some x)(hj:X.N[j]?=some y)(hij:i≠j)
  (hx:X.env.scope.names.lookup x=some .local)(hy:X.env.scope.names.lookup y=some .local)(ha:PA X [a,b] ta)
  (hw:swappedStores [.Tuple [.Name x px,.Name y py] kt pt] (.Tuple [a,b] k2 pt2) X.env=pure (some [x,y]))
  (hs:swapsWithSole [.Tuple [.Name x px,.Name y py] kt pt] (.Tuple [a,b] k2 pt2) pos.line X.env=pure false:=by rfl):
  PS X (.Assign [.Tuple [.Name x px,.Name y py] kt pt] (.Tuple [a,b] k2 pt2) pos) (aeU i j ta):=by
 intro FX s σ H D I h;refine ae (ua ?_);rw[hs];refine ae (aj ?_);refine ae (Tuple_ (bC (ha _ FX s σ H _ I h) λus s1 hq=>?_));rcases hq with⟨vs,H1,I1,r1,q1⟩;obtain⟨v,w,e1,q1⟩:=q1;subst e1;obtain⟨u1,u2,rfl,rv,rw'⟩:∃u1 u2,us=[u1,u2]/\bK v u1/\bK w u2:=by
  cases r1 with
  |cons p q=>
   cases q with
   |cons p' q'=>
    cases q';exact⟨_,_,rfl,p,p'⟩
 refine io ?_ (by show 2<=sizeLine;decide);have I2:aG X FX σ H1 {s1 with heap:=s1.heap.push {cls:=.type "tuple",data:=.seq [u1,u2].toArray}}:=I1.kept  λb o e=>av _ e;rw[hw];refine ae (aj ?_);refine ae (ka (ae (unpackItems_tuple (items:=#[u1,u2]) (I.ok.hd hc) (vq s1.heap _) λh' hx'=>?_)));have I3:=I2.kept (h':=h') (t':=s1.toks) λb o e=>hx' b o (df (bh e)) e;refine ae (zb (wpAny_bindName (rA I3 hN hj (.inl hy) rw' (λs2 I4=>?_) (.inr hy))));refine zb (wpAny_bindName (rA I4 hN hi (.inl hx) rv (λs3 I5=>assignInOrder_nil (aj ?_)) (.inr hx)));rw[List.set_comm _ _ (jp hij)]at I5;exact⟨_,H1,I5,q1⟩
noncomputable def aew(i:Nat)(te:TE)(ti:uX):TS:=λD σ H=>∃x,σ[i]?=some (some x)/\te σ H λy H1=>ti x y H1 λz H2=>D.nx (σ.set i (some z)) H2
theorem Ir{te:TE}{op:tz}{ti:uX}{pos':ak}(hN:X.N.Nodup)(hi:X.N[i]?=some x)(hx:kX X.env.scope x)(he:PE X e te)(ho:PIp X op ti)(hf:X.fn x=true\/X.env.scope.names.lookup x=some .local:=by first |exact .inl rfl |exact .inr rfl |assumption):
  PS X (.AugAssign (.Name x pos') op e pos) (aew i te ti):=by
 intro FX s σ H D I h;obtain⟨v,e1,h⟩:=h;obtain⟨m,hn,hl⟩:=I.loc;have vis:nK X.env.scope x:=by rcases hx with k |k;exact .inl k;exact .inr (.inl k)
 obtain⟨u,r,l⟩:=hl i x v hi e1 vis;refine wpAny_AugAssign_Name ?_;have go:wpAny (model X.prog X.w) X.A (eval e X.env) (λw GD=>wpAny (model X.prog X.w) X.A (inplaceOp op u w) (λr s₃=>wpAny (model X.prog X.w) X.A (storeName X.env x r) (λ_=>SP X FX D .next) X.xe s₃) X.xe GD) X.xe s:=by
  refine bC (he FX s σ H _ I h) ?_
  rintro w s1 ⟨y,H1,I1,r1,q1⟩
  refine bC (ho FX s1 σ H1 v y u w _ I1 r r1 q1) ?_
  rintro z s2 ⟨zv,H2,I2,r2,q2⟩
  exact rA I2 hN hi hx r2 (λs3 I3=>⟨_,H2,I3,q2⟩) hf
 rcases l with⟨hk,hm⟩|⟨hk,c,hc,hcell⟩
 .exact AC I.ok.kind hk hn hm go
 .rcases hk with hk |hk
  .exact AD I.ok.kind hk hc hcell go
  .rcases hx with k |k
   .have:X.env.scope.names.lookup x=some .free:=hk
    rw[k]at this;cases this
   .have:X.env.scope.names.lookup x=some .free:=hk
    rw[k]at this;cases this
noncomputable def Ag(f:Int->Int->Int):uX:=λx y H Q=>∃i j,x=.int i/\y=.int j/\Q (.int (f i j)) H
theorem abj:PIp X .Add (Ag λi j=>i+j):=by
 intro FX s σ H x y v u Q I r1 r2 h;obtain⟨i,j,e1,e2,q⟩:=h;subst e1;subst e2;obtain⟨t,rfl⟩:=r1;obtain⟨t',rfl⟩:=r2;exact iadd_int ⟨.int _,H,I.tok _,⟨_,rfl⟩,q⟩
theorem acC:PIp X .Sub (Ag λi j=>i-j):=by
 intro FX s σ H x y v u Q I r1 r2 h;obtain⟨i,j,e1,e2,q⟩:=h;subst e1;subst e2;obtain⟨t,rfl⟩:=r1;obtain⟨t',rfl⟩:=r2;exact isub_int ⟨.int _,H,I.tok _,⟨_,rfl⟩,q⟩
noncomputable def abZ(c:TT)(tb:TS):TS:=λD σ H=>∃W:Nat->St->Hp->Prop,(∃m,W m σ H)/\∀m σ H,W m σ H->
 c σ H λb H1=>if b=true then ∃N:St->Hp->Prop,(∀σ' H',N σ' H'->∃m',m'<m/\W m' σ' H')/\tb {D with nx:=N,ct:=N,bk:=D.nx} σ H1 else D.nx σ H1
theorem J4{body:List Stmt}{tc:TT}{tb:TS}(hp:vt (model X.prog X.w) X.A X.env X.xe)(hc:PT X c tc)(hb:eZ X body tb):PS X (.While c body [] pos) (abZ tc tb):=by
 intro FX s σ H D I h;obtain⟨W,⟨m0,w0⟩,turn⟩:=h;refine wpAny_While (codeAny_whileLoop (λn s'=>∃σ' H',aG X FX σ' H' s'/\W n σ' H') ?_ m0 ⟨σ,H,I,w0⟩)
 rintro n s1 ⟨σ1,H1,I1,w1⟩
 refine qd hp (bC (hc FX s1 σ1 H1 _ I1 (turn n σ1 H1 w1)) λb s2 hq=>?_);rcases hq with⟨H2,I2,q2⟩;cases b with
 |true=>
  obtain⟨N,hN,q2⟩:=q2;refine qd hp (bC (hb FX s2 σ1 H2 _ I2 q2) λf s3 q3=>?_);cases f with
  |next=>
   obtain⟨σ3,H3,I3,n3⟩:=q3;obtain⟨m',hm,w3⟩:=hN σ3 H3 n3;exact⟨m',hm,σ3,H3,I3,w3⟩
  |cont=>
   obtain⟨σ3,H3,I3,n3⟩:=q3;obtain⟨m',hm,w3⟩:=hN σ3 H3 n3;exact⟨m',hm,σ3,H3,I3,w3⟩
  |brk=>exact q3
  |ret v=>exact q3
 |false=>
  exact vp ⟨σ1,H2,I2,q2⟩
end
structure It where
 go:Nat->Hp->Prop
 yld:Nat->Hp->V->Hp->Prop
 stop:Nat->Hp->Prop
noncomputable def eY(X:Cx)(FX:List (Addr×Obj))(H:Hp)(b:Addr):Prop:=
 H b=none/\b≠X.env.locals/\b∉X.fs/\(b∈X.ex\/X.FY.heap.objs.size<=b)/\(∀x c,X.env.cells.lookup x=some c->c≠b)/\∀p∈X.pn++FX,p.1≠b
theorem aG.fpOk{σ:St}{H H':Hp}{s:aa}{b:Addr}(I:aG X FX σ H s)(hb:s.heap.objs.size<=b)(hn:H' b=none):eY X FX H' b:=by
 refine⟨hn,ky (fg I.lt hb),I.nofs hb,.inr (gm I.sz hb),λx c e z=>?_,λp hp z=>?_⟩
 .obtain⟨v,q⟩:=I.cell x c e
  exact absurd (fg q.lt (by simp_all)) (jc _)
 .exact absurd (fg (bh (I.pin p hp).1) (by simp_all)) (jc _)
structure sJ(P:Program)(w:ar)(K:ah)(tg:ai)(J:It)(fp:List Addr)(it:Addr)(tn:Nat->Heap->Prop):Prop where
 mem:it∈fp
 obj:∀i h,tn i h->∀b∈fp,∃o,h.get? b=some o/\∀v,o.data≠.cell v
 keep:∀i h h',tn i h->(∀b∈fp,∀o,h.get? b=some o->h'.get? b=some o)->tn i h'
 item:∀(X:Cx),X.prog=P->X.w=w->X.K=K->X.calm=true->∀(i:Nat)(FX:List (Addr×Obj))(s:aa)(σ:St)(H:Hp)(E:Value->aa->Prop),aG X FX σ H s->(∀b∈fp,eY X FX H b)->tn i s.heap->J.go i H->
  wpAny (model P w) X.A (pyNext (.ref it)) (λr s1=>∃u,r=some u/\
   wpAny (model P w) X.A (letOwnedTupleGo tg (.ref it) u) (λ_ s2=>∃x H',aG X FX σ H' s2/\bK x u/\J.yld i H x H'/\tn (i+1) s2.heap/\∀b∈fp,H' b=none) E s1) E s
 done:∀(X:Cx),X.prog=P->X.w=w->X.K=K->X.calm=true->∀(i:Nat)(FX:List (Addr×Obj))(s:aa)(σ:St)(H:Hp)(E:Value->aa->Prop),aG X FX σ H s->(∀b∈fp,eY X FX H b)->tn i s.heap->J.stop i H->
  wpAny (model P w) X.A (pyNext (.ref it)) (λr s1=>r=none/\aG X FX σ H s1) E s
 self:∀(A:ax)(i:Nat)(s:aa)(Q:Value->aa->Prop)(E:Value->aa->Prop),tn i s.heap->Q (.ref it) s->wpAny (model P w) A (pyIter (.ref it)) Q E s
noncomputable abbrev TI:=St->Hp->(It->Hp->Prop)->Prop
noncomputable def Lv(X:Cx)(FX:List (Addr×Obj))(σ:St)(tg:ai)(R:It->Hp->Prop)(itv:Value)(s2:aa):Prop:=
 ∃(it:Addr)(fp:List Addr)(tn:Nat->Heap->Prop)(J:It)(H':Hp),itv=.ref it/\aG X FX σ H' s2/\sJ X.prog X.w X.K tg J fp it tn/\tn 0 s2.heap/\(∀b∈fp,eY X FX H' b)/\R J H'
noncomputable def PI(X:Cx)(tg iter:ai)(wi:TI):Prop:=
 ∀(FX:List (Addr×Obj))(s:aa)(σ:St)(H:Hp)(R:It->Hp->Prop),aG X FX σ H s->wi σ H R->
  wpAny (model X.prog X.w) X.A (eval iter X.env) (λv s1=>wpAny (model X.prog X.w) X.A (pyIter v) (Lv X FX σ tg R) X.xe s1) X.xe s
theorem Ye {M : pk} {A : ax} {E : Value → aa → Prop} {s : aa} {tg : ai} {it : Addr} {u : Value} {o : Obj} {n : String} {vs : Array Value} {Q : Unit → aa → Prop} (ho : s.heap.get? it = some o) (hc : o.cls = .type n) (hd : o.data = .fields vs)
    (hn : ["enumerate", "zip", "dict_itemiterator", "dict_reverseitemiterator", "odict_iterator", "itertools.zip_longest", "itertools.pairwise"].contains n = false) (hQ : Q () s) : wpAny M A (letOwnedTupleGo tg (.ref it) u) Q E s := by
  unfold letOwnedTupleGo;cases tg <;> first
    | exact aj hQ
    | (cases u <;> first
        | exact aj hQ
        | (refine ae (wpAny_load ho ?_)
           rw [hc, hd];show wpAny M A (if (["enumerate", "zip", "dict_itemiterator", "dict_reverseitemiterator", "odict_iterator", "itertools.zip_longest", "itertools.pairwise"].contains n && vs[0]? == some (rawInt _)) = true then _ else _) Q E s;rw [if_neg (by intro h; rw [hn, Bool.false_and] at h; cases h)];exact aj hQ))
noncomputable def zE(K:ah)(a:Addr):It:=
 ⟨λi H=>∃xs x,bS K H a xs/\xs[i]?=some x,λi H x H'=>H'=H/\∀xs,bS K H a xs->xs[i]?=some x,λi H=>∃xs,bS K H a xs/\xs.length<=i⟩
noncomputable def Fg(K:ah)(a:Addr):It:=
 ⟨λi H=>∃xs x,cO K H a xs/\xs[i]?=some x,λi H x H'=>H'=H/\∀xs,cO K H a xs->xs[i]?=some x,λi H=>∃xs,cO K H a xs/\xs.length<=i⟩
noncomputable def zI(lo:Int)(n:Nat):It:=⟨λi _=>i<n,λi H x H'=>H'=H/\x=.int (lo+i),λi _=>n<=i⟩
theorem Tz{w:ar}{K:ah}{tg:ai}(a it:Addr):sJ P w K tg (zE K a) [it] it (λi h=>h.IsListIter it a i) where
 mem:=by simp
 obj:=λi h st b hb=>by
  have e:b=it:=by simpa using hb
  subst e;obtain⟨o,e,c,d⟩:=st;exact⟨o,e,λv z=>by rw[d]at z;cases z⟩
 keep:=λi h h' st k=>st.at λo e=>k it (by simp) o e
 item:=by
  intro X hP hw hK hc i FX s σ H E I hf st hg;subst hP hw hK;obtain⟨xs,x,hq,hx⟩:=hg;obtain⟨its,rv,p,hz⟩:=I.list hq;obtain⟨u,hu,ru⟩:=rv.get hx;obtain⟨f0,f1,f2,f3,f4,f5⟩:=hf it (by simp);refine wpAny_pyNext_list_item st p.isList (x:=u) (by simpa using hu) λh' st' sb=>?_;have I1:=I.turned (t':=s.toks) (λb o hb e=>(sb.2 b hb).trans e) f0 f1 f3 f4 f5;obtain⟨o,e,c,d⟩:=id st';exact⟨u,rfl,Ye  e c d (by decide) ⟨x,H,I1,ru,⟨rfl,λys hy=>by rw[I.list_inj hy hq];exact hx⟩,st',λb hb=>(hf b hb).1⟩⟩
 done:=by
  intro X hP hw hK hc i FX s σ H E I hf st hg;subst hP hw hK;obtain⟨xs,hq,hx⟩:=hg;obtain⟨its,rv,p,hz⟩:=I.list hq;obtain⟨f0,f1,f2,f3,f4,f5⟩:=hf it (by simp);have hl:=rv.length;exact wpAny_pyNext_list_end (I.ok.hd hc) st p.isList (by simp;omega) λh' eb=>⟨rfl,I.turned (t':=s.toks) (λb o hb e=>eb b o hb e) f0 f1 f3 f4 f5⟩
 self:=λ_ _ _ _ _ st h=>wpAny_pyIter_listiter st h
theorem Cy{P:Program}{w:ar}{K:ah}{tg:ai}(a it:Addr):sJ P w K tg (Fg K a) [it] it (λi h=>h.IsTupleIter it a i) where
 mem:=by simp
 obj:=λi h st b hb=>by
  have e:b=it:=by simpa using hb
  subst e;obtain⟨o,e,c,d⟩:=st;exact⟨o,e,λv z=>by rw[d]at z;cases z⟩
 keep:=λi h h' st k=>st.at λo e=>k it (by simp) o e
 item:=by
  intro X hP hw hK hc i FX s σ H E I hf st hg;subst hP hw hK;obtain⟨xs,x,hq,hx⟩:=hg;obtain⟨its,rv,p,hz⟩:=I.tuple hq;obtain⟨u,hu,ru⟩:=rv.get hx;obtain⟨f0,f1,f2,f3,f4,f5⟩:=hf it (by simp);refine wpAny_pyNext_tuple_item st (show s.heap.IsTuple a its.toArray from p) (x:=u) (by simpa using hu) λh' st' sb=>?_;have I1:=I.turned (t':=s.toks) (λb o hb e=>(sb.2 b hb).trans e) f0 f1 f3 f4 f5;obtain⟨o,e,c,d⟩:=id st';exact⟨u,rfl,Ye  e c d (by decide) ⟨x,H,I1,ru,⟨rfl,λys hy=>by rw[I.tuple_inj hy hq];exact hx⟩,st',λb hb=>(hf b hb).1⟩⟩
 done:=by
  intro X hP hw hK hc i FX s σ H E I hf st hg;subst hP hw hK;obtain⟨xs,hq,hx⟩:=hg;obtain⟨its,rv,p,hz⟩:=I.tuple hq;obtain⟨f0,f1,f2,f3,f4,f5⟩:=hf it (by simp);have hl:=rv.length;exact wpAny_pyNext_tuple_end (I.ok.hd hc) st (show s.heap.IsTuple a its.toArray from p) (by simp;omega) λh' eb=>⟨rfl,I.turned (t':=s.toks) (λb o hb e=>eb b o hb e) f0 f1 f3 f4 f5⟩
 self:=λ_ _ _ _ _ st h=>wpAny_pyIter_tupleiter st h
theorem Ly{w:ar}{K:ah}{tg:ai}(it:Addr)(lo:Int)(n:Nat):sJ P w K tg (zI lo n) [it] it (λi h=>IsRangeIter h it (lo+(i:Nat)*1) ((n:Int)-(i:Nat)) 1) where
 mem:=by simp
 obj:=λi h st b hb=>by
  simp_all
 keep:=λi h h' st k=>k it (by simp) _ st
 item:=by
  intro X hP hw hK hc i FX s σ H E I hf st hg;subst hP hw hK;obtain⟨f0,f1,f2,f3,f4,f5⟩:=hf it (by simp);have W:=Walks.range (prog:=X.prog) (w:=X.w) (I.ok.hd hc) it lo 1 n;refine W.item i s _ _ hg st λv h' tk hv st' kk=>?_;obtain⟨t,rfl⟩:=hv;have I1:aG X FX σ H {s with heap:=h',toks:=tk}:=I.turned (λb o hb e=>kk b o (by simpa using hb) e) f0 f1 f3 f4 f5;refine⟨_,rfl,Ye   st' rfl rfl (by decide) ⟨.int (lo+i),H,I1,⟨t,?_⟩,⟨rfl,rfl⟩,st',λb hb=>(hf b hb).1⟩⟩;rw[jt]
 done:=by
  intro X hP hw hK hc i FX s σ H E I hf st hg;subst hP hw hK;obtain⟨f0,f1,f2,f3,f4,f5⟩:=hf it (by simp);exact wpAny_pyNext_range_end (I.ok.hd hc) st (by have:n<=i:=hg;omega) λh' eb=>⟨rfl,I.turned  (λb o hb e=>eb b o hb e) f0 f1 f3 f4 f5⟩
 self:=λ_ _ _ _ _ st h=>wpAny_pyIter_rangeiter st h
section
variable{X:Cx}{tg:ai}
theorem P5{σ:St}{H:Hp}{s:aa}{R:It->Hp->Prop}{E:Value->aa->Prop}{lo hi:Int}{t u v:bj}{tk:Nat}(I:aG X FX σ H s)(h1:-(2^62)<=lo)(h2:lo<2^62)(h3:-(2^62)<=hi)(h4:hi<2^62)
  (q:R (zI lo (hi-lo).toNat) H):wpAny (model X.prog X.w) X.A (pyIter (.ref s.heap.objs.size)) (Lv X FX σ tg R) E {s with heap:=s.heap.push {cls:=.type "range",data:=.fields #[.int lo t,.int hi u,.int 1 v]},toks:=tk}:=by
 refine wpAny_pyIter_range (IsRange.new ..) (small_one h1 h2 h3 h4) ?_;have I1:aG X _ _ H {s with heap:=s.heap.push {cls:=.type "range",data:=.fields #[.int lo t,.int hi u,.int 1 v]},toks:=tk}:=I.kept λb o e=>av _ e;refine⟨(s.heap.push _).objs.size,[(s.heap.push _).objs.size],_,_,H,rfl,
  I1.kept  λb o e=>av _ e,Ly _ _ _,?_,λb hb=>?_,q⟩
 .have e1:lo+(0:Nat)*1=lo:=by simp
  have e2:((hi-lo).toNat:Nat)-(0:Nat)=Builtin.Range.rangeSize lo hi 1:=by rw[rangeSize_one];grind
  show IsRangeIter _ _ _ _ 1;rw[e1,e2];exact cy _ rfl
 .have e:b=(s.heap.push {cls:=.type "range",data:=.fields #[.int lo t,.int hi u,.int 1 v]}).objs.size:=by simpa using hb
  subst e;exact I1.fpOk (aq _) (I1.hok.fresh (aq _))
noncomputable def ac9(ta:TA):TI:=λσ H R=>ta σ H λvs H1=>∃j:Int,vs=[.int j]/\-(2^62)<=j/\j<2^62/\R (zI 0 j.toNat) H1
theorem Jz{ta:TA}{p pos:ak}(hg:Gl X "range")(hm:X.mg "range"=none)(ha:PA X [a] ta)(hs:starEach [a] X.env=[(false,eval a X.env)]:=by rfl):PI X tg (.Call (.Name "range" p) [a] [] pos) (ac9 ta):=by
 intro FX s σ H R I h;refine Call_ (mS I hg hm boot_range (ub (bC (ha pos FX s σ H _ I h) λus s1 hq=>?_) hs rfl));rcases hq with⟨vs,H1,I1,r1,q1⟩;obtain⟨j,e,q1,q2,q⟩:=q1;subst e;cases r1 with
 |cons r rr=>
  cases rr;obtain⟨t,rfl⟩:=r;exact call_range_1 (P5 I1 (by omega) (by omega) q1 q2 (by simpa using q))
noncomputable def aeA(wi:TI)(g:TG)(tb:TS):TS:=λD σ H=>wi σ H λJ H1=>∃W:Nat->Nat->St->Hp->Prop,(∃m,W 0 m σ H1)/\∀i m σ H,W i m σ H->
 (J.stop i H/\D.nx σ H)\/(J.go i H/\∃N:St->Hp->Prop,(∀σ' H',N σ' H'->∃m',m'<m/\W (i+1) m' σ' H')/\∀x H',J.yld i H x H'->g x σ H' λσ2 H2=>tb {D with nx:=N,ct:=N,bk:=D.nx} σ2 H2)
noncomputable def xN(fp:List Addr)(h:Heap):List (Addr×Obj):=fp.filterMap λb=>(h.get? b).map λo=>(b,o)
theorem lY{b:Addr}{o:Obj}(hb:b∈fp)(e:h.get? b=some o):(b,o)∈xN fp h:=zc.mpr ⟨b,hb,by rw[e];rfl⟩
theorem A5(hp:p∈xN fp h):p.1∈fp/\h.get? p.1=some p.2:=by
 obtain⟨b,hb,e⟩:=zc.mp hp;cases q:h.get? b with
 |none=>simp_all
 |some o=>
  rw[q]at e;have e':=ck e;subst e';exact⟨hb,q⟩
theorem aG.pinned{σ:St}{H:Hp}{s:aa}{fp:List Addr}(I:aG X FX σ H s)(hf:∀b∈fp,eY X FX H b)(ho:∀b∈fp,∃o,s.heap.get? b=some o/\∀v,o.data≠.cell v):aG X (FX++xN fp s.heap) σ H s:=
 I.pins_of λp hp=>(dk.mp hp).elim (λz=>I.pin p (dz _ z)) λz=>by
  obtain⟨hb,e⟩:=A5 z;obtain⟨f0,f1,f2,_⟩:=hf _ hb;obtain⟨o,e',d⟩:=ho _ hb;rw[e]at e';cases e';exact⟨e,f0,f1,f2,d⟩
theorem aG.unpinned{σ:St}{H:Hp}{s:aa}(I:aG X (FX++pl) σ H s):aG X FX σ H s:=I.pins_of λp hp=>I.pin p (dz _ (ng _ hp))
theorem abg{iter:ai}{body:List Stmt}{wi:TI}{g:TG}{tb:TS}{pos:ak}(hp:vt (model X.prog X.w) X.A X.env X.xe)(hc:X.calm=true)(hi:PI X tg iter wi)(hg:PG X tg g)(hb:eZ X body tb)
  (hs:∀x,foldedSetIterable iter X.env x=pure x:=by intro _;rfl):PS X (.For tg iter body [] pos) (aeA wi g tb):=by
 intro FX s σ H D I h;refine wpAny_For (bC (hi FX s σ H _ I h) λv s1 h1=>bC h1 λitv s2 h2=>?_) hs;obtain⟨it,fp,tn,J,H2,e,I2,T,st2,f2,W,⟨m0,w0⟩,turn⟩:=h2;subst e
 --what stays true of the iterator's objects through the loop
 have stat:∀{H':Hp},(∀b∈fp,H' b=none)->∀b∈fp,eY X FX H' b:=λhn b hb=>⟨hn b hb,(f2 b hb).2⟩;refine codeAny_forLoop_any (λn s'=>∃i σ' H',aG X FX σ' H' s'/\tn i s'.heap/\(∀b∈fp,H' b=none)/\W i n σ' H') ?_ m0 ⟨0,σ,H2,I2,st2,λb hb=>(f2 b hb).1,w0⟩
 rintro n s3 ⟨i,σ3,H3,I3,st3,fr3,w3⟩
 rcases turn i n σ3 H3 w3 with⟨stop,qn⟩|⟨go,N,hN,step⟩
 .refine qd hp (bC (T.done X rfl rfl rfl hc i FX s3 σ3 H3 X.xe I3 (stat fr3) st3 stop) λr s4 hq=>?_)
  rcases hq with⟨hr,I4⟩;subst hr;exact vp ⟨σ3,H3,I4,qn⟩
 .refine qd hp (bC (T.item X rfl rfl rfl hc i FX s3 σ3 H3 X.xe I3 (stat fr3) st3 go) λr s4 hq=>?_)
  rcases hq with⟨u,hr,h4⟩;subst hr;refine qd hp (bC h4 λ_ s5 hq=>?_);rcases hq with⟨x,H5,I5,r5,y5,st5,fr5⟩;have I5':=I5.pinned (stat fr5) (T.obj _ _ st5);refine qd hp (bC (hg _ s5 σ3 H5 x u _ I5' r5 (step x H5 y5)) λ_ s6 hq=>?_);rcases hq with⟨σ6,H6,I6,q6⟩;refine qd hp (bC (hb _ s6 σ6 H6 _ I6 q6) λf s7 q7=>?_);have again:∀{σ7:St}{H7:Hp},aG X (FX++xN fp s5.heap) σ7 H7 s7->N σ7 H7->∃m,m<n/\∃i σ' H',aG X FX σ' H' s7/\tn i s7.heap/\(∀b∈fp,H' b=none)/\W i m σ' H':=λ{σ7 H7} I7 n7=>by
   obtain⟨m',hm,w7⟩:=hN σ7 H7 n7;refine⟨m',hm,i+1,σ7,H7,I7.unpinned,T.keep _ _ _ st5 λb hb o e=>(I7.pin (b,o) (dz _ (dz _ (lY hb e)))).1,λb hb=>?_,w7⟩;obtain⟨o,e,d⟩:=T.obj _ _ st5 b hb;exact(I7.pin (b,o) (dz _ (dz _ (lY hb e)))).2.1
  cases f with
  |next=>obtain⟨σ7,H7,I7,n7⟩:=q7;exact again I7 n7
  |cont=>obtain⟨σ7,H7,I7,n7⟩:=q7;exact again I7 n7
  |brk=>obtain⟨σ7,H7,I7,q7⟩:=q7;exact⟨σ7,H7,I7.unpinned,q7⟩
  |ret v=>obtain⟨x7,σ7,H7,I7,r7,q7⟩:=q7;exact⟨x7,σ7,H7,I7.unpinned,r7,q7⟩
end
noncomputable abbrev R2:=V->V->Hp->VK->Prop
noncomputable def dX(X:Cx)(f:Value->Value->gq Value)(r:R2):Prop:=
 ∀(FX:List (Addr×Obj))(s:aa)(σ:St)(H:Hp)(x y:V)(v u:Value)(Q:VK),aG X FX σ H s->bK x v->bK y u->r x y H Q->
  wpAny (model X.prog X.w) X.A (f v u) (EP X FX σ Q) X.xe s
noncomputable def yY(X:Cx)(f:Value->gq Value)(r:V->Hp->VK->Prop):Prop:=
 ∀(FX:List (Addr×Obj))(s:aa)(σ:St)(H:Hp)(x:V)(v:Value)(Q:VK),aG X FX σ H s->bK x v->r x H Q->
  wpAny (model X.prog X.w) X.A (f v) (EP X FX σ Q) X.xe s
noncomputable def jC(X:Cx)(f:Value)(r:List V->Hp->VK->Prop):Prop:=
 ∀(FX:List (Addr×Obj))(s:aa)(σ:St)(H:Hp)(xs:List V)(us:FN)(Q:VK),aG X FX σ H s->bB xs us->r xs H Q->
  wpAny (model X.prog X.w) X.A (call f us) (EP X FX σ Q) X.xe s
noncomputable def aeH(X:Cx)(r:V->Hp->(Bool->Hp->Prop)->Prop):Prop:=
 ∀(FX:List (Addr×Obj))(s:aa)(σ:St)(H:Hp)(x:V)(v:Value)(Q:Bool->Hp->Prop),aG X FX σ H s->bK x v->r x H Q->
  wpAny (model X.prog X.w) X.A (truthy v) (TP X FX σ Q) X.xe s
noncomputable def zA(r:R2)(ta tb:TE):TE:=λσ H Q=>ta σ H λx H1=>tb σ H1 λy H2=>r x y H2 Q
noncomputable def tUn(r:V->Hp->VK->Prop)(ta:TE):TE:=λσ H Q=>ta σ H λx H1=>r x H1 Q
noncomputable def rI(C:Int->Int->Prop)(g:Int->Int->V):R2:=λx y H Q=>∃i j,x=.int i/\y=.int j/\C i j/\Q (g i j) H
noncomputable def jK(g:Int->Int->V):R2:=λx y H Q=>∃i j,x=.int i/\y=.int j/\Q (g i j) H
noncomputable def rU(g:Int->V):V->Hp->VK->Prop:=λx H Q=>∃i,x=.int i/\Q (g i) H
section
variable{X:Cx}{a b:ai}{ta tb:TE}{pos:ak}
theorem Jf(ha:PE X a ta)(hb:PE X b tb){FX:List (Addr×Obj)}{s:aa}{σ:St}{H:Hp}{R:V->V->Hp->Prop}(I:aG X FX σ H s)
  (h:ta σ H λx H1=>tb σ H1 λy H2=>R x y H2){Q:Value->aa->Prop}{f:Value->Value->gq Value}
  (hf:∀v u s2 x y H2,aG X FX σ H2 s2->bK x v->bK y u->R x y H2->wpAny (model X.prog X.w) X.A (f v u) Q X.xe s2):
  wpAny (model X.prog X.w) X.A (eval a X.env) (λv GA=>wpAny (model X.prog X.w) X.A (eval b X.env) (λu GD=>wpAny (model X.prog X.w) X.A (f v u) Q X.xe GD) X.xe GA) X.xe s:=by
 refine bC (ha _ s _ H _ I h) ?_
 rintro v s1 ⟨x,H1,I1,r1,q1⟩
 refine bC (hb _ _ _ _ _ I1 q1) ?_
 rintro u s2 ⟨y,H2,I2,r2,q2⟩
 exact hf v u _ x y _ I2 r1 r2 q2
theorem ac4(ho:dX X (binaryOp op) r)(ha:PE X a ta)(hb:PE X b tb):PE X (.BinOp a op b pos) (zA r ta tb):=by
 intro FX s σ H Q I h;exact wpAny_BinOp (Jf ha hb I h λv u s2 x y H2 I2 rx ry q=>ho _ _ _ _ x y v u Q I2 rx ry q)
theorem Zs(ho:yY X (unaryOp op) r)(ha:PE X a ta):PE X (.UnaryOp op a pos) (tUn r ta):=by
 intro FX s σ H Q I h;exact UnaryOp_ (bC (ha _ s _ H _ I h) λv s1 ⟨x,H1,I1,r1,q1⟩=>ho _ _ _ _ x v Q I1 r1 q1)
theorem yX{C:Int->Int->Prop}{g:Int->Int->Int}
  (rule:∀(i j:Int)(t u:bj)(s:aa)(Q:Value->aa->Prop)(E:Value->aa->Prop),C i j->Q (.int (g i j) s.toks) {s with toks:=s.toks+1}->wpAny (model X.prog X.w) X.A (f (.int i t) (.int j u)) Q E s):
  dX X f (rI C λi j=>.int (g i j)):=by
 intro FX s σ H x y v u Q I rx ry h;obtain⟨i,j,rfl,rfl,hc,q⟩:=h;obtain⟨t,rfl⟩:=rx;obtain⟨t',rfl⟩:=ry;exact rule i j t _ s _ _ hc ⟨.int _,H,I.tok _,⟨_,rfl⟩,q⟩
theorem Ju{g:Int->Int->Int}
  (rule:∀(i j:Int)(t u:bj)(s:aa)(Q:Value->aa->Prop)(E:Value->aa->Prop),Q (.int (g i j) s.toks) {s with toks:=s.toks+1}->wpAny (model X.prog X.w) X.A (f (.int i t) (.int j u)) Q E s):
  dX X f (jK λi j=>.int (g i j)):=by
 intro FX s σ H x y v u Q I rx ry h;obtain⟨i,j,rfl,rfl,q⟩:=h;obtain⟨t,rfl⟩:=rx;obtain⟨t',rfl⟩:=ry;exact rule i j t _ s _ _ ⟨.int _,H,I.tok _,⟨_,rfl⟩,q⟩
theorem yT{g:Int->Int->Bool}
  (rule:∀(i j:Int)(t u:bj)(s:aa)(Q:Value->aa->Prop)(E:Value->aa->Prop),Q (.bool (g i j)) s->wpAny (model X.prog X.w) X.A (f (.int i t) (.int j u)) Q E s):
  dX X f (jK λi j=>.bl (g i j)):=by
 intro FX s σ H x y v u Q I rx ry h;obtain⟨i,j,rfl,rfl,q⟩:=h;obtain⟨t,rfl⟩:=rx;obtain⟨t',rfl⟩:=ry;exact rule i j t _ s _ _ ⟨.bl _,H,I,rfl,q⟩
noncomputable def yS(i j:Int):Prop:=0<=j/\j<=1000000/\i.natAbs<2^64
noncomputable def Mf(i j:Int):Prop:=(-(2^64)<i/\i<2^64)\/(-(2^64)<j/\j<2^64)
theorem Mf.ok(h:Mf i j):IntMulOk i j:=by
 rcases h with⟨h1,h2⟩|⟨h1,h2⟩
 .exact .of_left (intBits_le_64 h1 h2)
 .exact .of_right (intBits_le_64 h1 h2)
theorem acn:dX X (binaryOp .Add) (jK λi j=>.int (i+j)):=Ju λ_ _ _ _ _ _ _ q=>add_int q
theorem acX:dX X (binaryOp .Sub) (jK λi j=>.int (i-j)):=Ju λ_ _ _ _ _ _ _ q=>sub_int q
theorem S6:dX X (binaryOp .Mod) (rI (λ_ j=>j≠0) λi j=>.int (i.fmod j)):=yX λ_ _ _ _ _ _ _ hc q=>mod_int' hc q
theorem abX:dX X (binaryOp .Pow) (rI yS λi j=>.int (i^j.toNat)):=yX λ_ _ _ _ _ _ _ hc q=>pow_int_small hc.1 hc.2.1 hc.2.2 q
theorem unI{g:Int->Int}
  (rule:∀(i:Int)(t:bj)(s:aa)(Q:Value->aa->Prop)(E:Value->aa->Prop),Q (.int (g i) s.toks) {s with toks:=s.toks+1}->wpAny (model X.prog X.w) X.A (f (.int i t)) Q E s):
  yY X f (rU λi=>.int (g i)):=by
 intro FX s σ H x v Q I rx h;obtain⟨i,rfl,q⟩:=h;obtain⟨t,rfl⟩:=rx;exact rule i t s _ _ ⟨.int _,H,I.tok _,⟨_,rfl⟩,q⟩
theorem Gs:yY X (unaryOp .USub) (rU λi=>.int (-i)):=unI λ_ _ _ _ _ q=>neg_int q
theorem Ct:dX X (compareOp .Lt) (jK λi j=>.bl (decide (i<j))):=yT λ_ _ _ _ _ _ _ q=>lt_int q
theorem Us:dX X (compareOp .LtE) (jK λi j=>.bl (decide (i<=j))):=yT λ_ _ _ _ _ _ _ q=>le_int q
theorem Js:dX X (compareOp .Gt) (jK λi j=>.bl (decide (j<i))):=yT λ_ _ _ _ _ _ _ q=>gt_int q
theorem Bt:dX X (compareOp .GtE) (jK λi j=>.bl (decide (j<=i))):=yT λ_ _ _ _ _ _ _ q=>ge_int q
theorem dX.or(h:dX X f r)(h':dX X f r'):dX X f (λx y H Q=>r x y H Q\/r' x y H Q):=by
 intro FX s σ H x y v u Q I rx ry q;rcases q with q |q
 .exact h _ s _ H x y v u Q I rx ry q
 .exact h' _ s _ H x y v u Q I rx ry q
theorem kP(b:ai){op:nh}(h:op≠.In:=by decide)(h2:op≠.NotIn:=by decide):behindInMarks op b=false:=by
 have e1:(op==CmpOp.In)=false:=by grind
 have e2:(op==CmpOp.NotIn)=false:=by grind
 cases b<;>simp[behindInMarks,e1,e2]
theorem aal(ho:dX X (compareOp op) r)(ha:PE X a ta)(hb:PE X b tb)(hm:behindInMarks op b=false):PE X (.Compare a [op] [b] pos) (zA r ta tb):=by
 intro FX s σ H Q I h;exact wpAny_Compare1 (Jf ha hb I h λv u s2 x y H2 I2 rx ry q=>ho _ _ _ _ x y v u Q I2 rx ry q) hm
noncomputable def adO(t:TE):TT:=λσ H Q=>t σ H λx H'=>∃k,x=.bl k/\Q k H'
theorem aar(ho:dX X (compareOp op) r)(ha:PE X a ta)(hb:PE X b tb)(hm:behindInMarks op b=false):PT X (.Compare a [op] [b] pos) (adO (zA r ta tb)):=by
 intro FX s σ H Q I h;refine AG (bC (ha _ s _ H _ I h) λv s1 ⟨x,H1,I1,r1,q1⟩=>bC (hb _ _ _ _ _ I1 q1) λu s2 ⟨y,H2,I2,r2,q2⟩=>
  bC (ho _ _ _ _ x y v u _ I2 r1 r2 q2) λc s3 ⟨z,H3,I3,r3,k,e,q3⟩=>?_) hm
 subst e;cases r3;exact ni ⟨H3,I3,q3⟩
noncomputable def Wt(K:ah)(x:V)(H:Hp)(k:Bool):Prop:=
 match x with
 |.non=>k=false
 |.bl b=>k=b
 |.int i=>k=(i !=0)
 |.str y=>y.length<=sizeLine/\k=((y.length:Int) !=0)
 |.byt y=>y.size<=sizeLine/\k=((y.size:Int) !=0)
 |.ref p=>(∃xs,bS K H p xs/\k=!xs.isEmpty)\/(∃xs,cO K H p xs/\k=!xs.isEmpty)\/∃kvs,H p=some (.dK kvs)/\k=!kvs.isEmpty
 |_=>False
theorem Oy(r:KV kvs vs):(!vs.isEmpty)=!kvs.isEmpty:=by
 cases r<;>rfl
theorem Hj(r:bB xs its):(!its.toArray.isEmpty)=!xs.isEmpty:=by
 cases r<;>simp
theorem rK:(sizeLine:Nat)<2^63:=by decide
theorem acf:aeH X (λx H Q=>∃k,Wt X.K x H k/\Q k H):=by
 intro FX s σ H x v Q I rx h;obtain⟨k,e,q⟩:=h;have hl:=rK;have hs:sizeLine=16777216:=ia;cases x with
 |non=>
  cases rx;have e':k=false:=e;subst e';exact truthy_none ⟨H,I,q⟩
 |bl b=>
  cases rx;have e':k=b:=e;subst e';exact ni ⟨H,I,q⟩
 |int i=>
  obtain⟨t,rfl⟩:=rx;have e':k=(i !=0):=e;subst e';exact PySem.P.truthy_int ⟨H,I,q⟩
 |str y=>
  obtain⟨t,rfl⟩:=rx;obtain⟨hy,e'⟩:y.length<=sizeLine/\k=((y.length:Int) !=0):=e;subst e';exact PySem.P.truthy_str (by omega) ⟨H,I.tok _,q⟩
 |byt y=>
  obtain⟨t,rfl⟩:=rx;obtain⟨hy,e'⟩:y.size<=sizeLine/\k=((y.size:Int) !=0):=e;subst e';exact PySem.W.truthy_bytes (by omega) ⟨H,I.tok _,q⟩
 |ref p=>
  cases rx;have e':=e;rcases e' with⟨xs,hx,e'⟩|⟨xs,hx,e'⟩|⟨kvs,hx,e'⟩
  .subst e'
   obtain⟨its,r,pl,hz⟩:=I.list hx;have hlen:=r.length;exact wpAny_truthy_list pl.isList (by simp only[ay];omega) ⟨H,I.tok _,by rw[Hj r];exact q⟩
  .subst e'
   obtain⟨its,r,pl,hz⟩:=I.tuple hx;have hlen:=r.length;exact truthy_tuple pl (by simp only[ay];omega) ⟨H,I.tok _,by rw[Hj r];exact q⟩
  .subst e'
   obtain⟨hz,hS,vs,r,m⟩:kvs.length<=sizeLine/\(p==sysModules)=false/\∃vs,KV kvs vs/\s.heap.DictOf (Bc X.prog X.w) p vs:=I.hok p _ hx;have hlen:kvs.length=vs.length:=y9 r;exact wpAny_truthy_dict hS m (by omega) ⟨H,I.tok _,by rw[Oy r];exact q⟩
 |_=>exact(show False from e).elim
theorem S5(ha:PE X a ta)(he:∀whole,isTrue a X.env whole=(do let v <-whole;standAt a.pos;holding [v] (truthy v))):
  PT X a (λσ H Q=>ta σ H λx H'=>∃k,Wt X.K x H' k/\Q k H'):=by
 intro FX s σ H Q I h;exact isTrue_plain (bC (ha _ s _ H _ I h) λv s1 ⟨x,H1,I1,r1,q1⟩=>acf _ _ _ _ x v Q I1 r1 q1) (he _)
theorem jY(r:bB [x] us):∃u,us=[u]/\bK x u:=by
 cases r with
 |cons r1 r2=>cases r2;exact⟨_,rfl,r1⟩
theorem Qs(r:bB [x,y] us):∃u w',us=[u,w']/\bK x u/\bK y w':=by
 cases r with
 |cons r1 r2=>
  cases r2 with
  |cons r3 r4=>cases r4;exact⟨_,_,rfl,r1,r3⟩
theorem R1:jC X (.builtin "abs") (λxs H Q=>∃i,xs=[.int i]/\Q (.int (if i<0 then-i else i)) H):=by
 intro FX s σ H xs us Q I r h;obtain⟨i,rfl,q⟩:=h;obtain⟨u,rfl,t,rfl⟩:=jY r;exact call_abs_int λu tk=>⟨.int _,H,I.tok _,⟨_,rfl⟩,q⟩
end
structure qC(h:Heap)(x dx C:Addr)(mA:Str->FO):Prop where
 obj:h.get? x=some (my C dx)
 ns:h.Ns1 dx mA
 ne:dx≠x
theorem Sz{h:Heap}{dx:Addr}{mA:Str->FO}(n:h.Ns1 dx mA):∃od,h.get? dx=some od/\∀name,vw name od=some (mA name):=by
 obtain⟨o,es,ep,ho,hd,hk,_,hm⟩:=n;refine⟨o,ho,λname=>?_⟩;have e:=hm name;unfold nsFind findBy at e;rw[<-Array.find?_toList]at e;unfold vw;rw[hd];dsimp only;split
 .rename_i y q
  rw[q]at e;exact congrArg _ e
 .rename_i q
  rw[q]at e;have a:es.toList.any (·.refKey)=false:=by
   rw[List.any_eq_false];intro y hy;obtain⟨z,t,hkey⟩:=hk y (Array.mem_toList_iff.mp hy);simp[DictEntry.refKey,hkey]
  have a':¬es.toList.any (·.refKey)=true:=by rw[a];exact jf
  rw[if_neg a'];exact congrArg _ e
theorem qC.look(I:qC h x dx C mA):∃od,PySem.W.InstAt h x (my C dx) C (some od)/\∀name,vw name od=some (mA name):=
 let⟨od,ho,hl⟩:=Sz I.ns
 ⟨od,⟨I.obj,rfl,rfl,ho⟩,hl⟩
section
variable{prog:Program}{w:ar}{A:ax}{E:Value->aa->Prop}{s:aa}{K:ah}{x dx C f:Addr}{mA:Str->FO}{name:Str}{v:Value}
theorem S7{Q:Value->aa->Prop}(X:K.In s.heap)(I:qC s.heap x dx C mA)(hg:uc K C name=true)(hh:vz K C=true)
  (ha:iy K (.ref C) name=some none)(hv:mA name=some v)(hv':AH v=true)(h:Q v {s with toks:=s.toks+1}):
  wpAny (model prog w) A (getAttr (.ref x) name expr) Q E s:=by
 obtain⟨od,J,hl⟩:=I.look;exact PySem.W.get_value X J (zd hg).1 (PySem.W.findObj_own hh ha rfl (by rw[hl,hv])) hv' h
theorem O2{Q:Value×FN->aa->Prop}(X:K.In s.heap)(I:qC s.heap x dx C mA)(hg:uc K C name=true)
  (hf:iy K (.ref C) name=some (some (.ref f)))(ht:rh K (.ref f)=true)(hv:mA name=none)(h:Q (.ref f,[.ref x]) s):
  wpAny (model prog w) A (getMethod (.ref x) name pl) Q E s:=by
 obtain⟨od,J,hl⟩:=I.look;exact PySem.W.method_fn X J (zd hg).1 (zd hg).2 hf (beq_iff_eq.mp ht) (by show(vw _ _).map _=some _;rw[hl,hv];rfl) h
theorem S9{Q:Unit->aa->Prop}(X:K.In s.heap)(I:qC s.heap x dx C mA)
  (hs:iy K (.ref C) "__setattr__"=some (some (.builtin "object.__setattr__")))(hp:ze K C=true)(ht:zf K C name=some none)(hh:vz K C=true)
  (hw:yt mA ns)(hsz:ns.length<=sizeLine)
  (h:∀h',qC h' x dx C (λy=>if y=name then some v else mA y)->il dx s.heap h'->Q () {s with heap:=h',toks:=s.toks+2}):
  wpAny (model prog w) A (setAttr (.ref x) name v) Q E s:=by
 obtain⟨od,J,hl⟩:=I.look;refine PySem.W.set_plain X J hs (PySem.W.osa_open   X J hp ht λb=>?_);obtain⟨cd,hc,hd'⟩:=PySem.W.any_some hh;have hx:=I.obj;refine ae (aj (ae (ae (wpAny_loadPart hx (ae (PySem.W.Looks.here  (PySem.W.looks_clsIn X hc) ?_))))));rw[hd'];refine aj  (ae (aj (ae ?_)));refine wpAny_nsSet1  I.ns λh' hn2 hs2=>?_;obtain⟨oD,esD,epD,hoD,hdD,hcD⟩:=hn2.count (PySem.Within.cons name v hw);refine ae (wpAny_lookBehind hoD (by rw[hdD];exact pastItsLine_dict (gm hcD (by rw[bo];omega))) ?_);exact aj (h _ ⟨(hs2.2 _ (jp I.ne)).trans I.obj,hn2,I.ne⟩ hs2)
theorem M7{vs:FN}{kw:List (Str×Value)}(X:K.In s.heap)(hm:wb K C=true)
  (hi:iy K (.ref C) "__init__"=some (some (.ref f)))(hf:PySem.W.typeIn K (.ref f)=some (.type "function"))
  (h:codeAny (model prog w) (A.under (.builtin "type.__call__" ⟨.ref C::vs,kw⟩)) (.call (.ref f) ⟨.ref (s.heap.objs.size+1)::vs,kw⟩) (PySem.W.InitBack (s.heap.objs.size+1) R)
   {s with heap:=(s.heap.push kz).push (my C s.heap.objs.size)}):
  codeAny (model prog w) A (.call (.ref C) ⟨vs,kw⟩) R s:=PySem.W.make_core (PySem.W.makes_of X hm) (PySem.W.looks_findIn X hi) (λself=>PySem.W.bind_fn X _ hf) (.inl rfl) h
end
noncomputable def iF(f:Str)(v:V):List (Str×V)->List (Str×V)
 |[]=>[(f,v)]
 |(g,x)::r=>if g=f then(g,v)::r else(g,x)::iF f v r
theorem Zh(f g:Str)(v:V):∀fs:List (Str×V),(iF f v fs).lookup g=if g=f then some v else fs.lookup g
 |[]=>by
  show qe g [(f,v)]=_
  by_cases h:g=f
  .have hb:=beq_iff_eq.mpr h
   simp only[qe,hb,if_pos h]
  .have hb:=beq_eq_false_iff_ne.mpr h
   simp only[qe,hb,if_neg h]
 |(k,x)::r=>by
  have ih:=Zh f g v r;rw[show iF f v _=(if k=f then(k,v)::r else(k,x)::iF f v r) from rfl]
  by_cases hk:k=f
  .rw[if_pos hk]
   by_cases h:g=k
   .have hb:=beq_iff_eq.mpr h
    simp only[qe,hb,if_pos (h.trans hk)]
   .have hb:=beq_eq_false_iff_ne.mpr h
    simp only[qe,hb,if_neg (λe:g=f=>h (e.trans hk.symm))]
  .rw[if_neg hk]
   by_cases h:g=k
   .have hb:=beq_iff_eq.mpr h
    simp only[qe,hb,if_neg (λe=>hk (h.symm.trans e))]
   .have hb:=beq_eq_false_iff_ne.mpr h
    simp only[qe,hb];exact ih
theorem Ua(f:Str)(v:V):∀fs:List (Str×V),f∈(iF f v fs).map (·.1)/\∀g,g∈fs.map (·.1)->g∈(iF f v fs).map (·.1)
 |[]=>⟨by simp[iF],λg h=>by simp at h⟩
 |(k,x)::r=>by
  obtain⟨i1,i2⟩:=Ua f v r;rw[show iF f v _=(if k=f then(k,v)::r else(k,x)::iF f v r) from rfl]
  by_cases hk:k=f
  .rw[if_pos hk]
   grind
  .rw[if_neg hk]
   refine⟨?_,λg h=>?_⟩
   .exact cj _ i1
   .rcases cr.mp h with e |e
    .exact cr.mpr (.inl e)
    .exact cj _ (i2 g e)
theorem Vh(f:Str)(v:V):∀fs:List (Str×V),(iF f v fs).length<=fs.length+1
 |[]=>by simp[iF]
 |(k,x)::r=>by
  have ih:=Vh f v r;rw[show iF f v _=if k=f then(k,v)::r else(k,x)::iF f v r from rfl]
  grind
theorem mG.some_of(r:mG (some v) o):∃u,o=some u/\bK v u:=by
 cases o with
 |none=>exact(show False from r).elim
 |some u=>exact⟨u,rfl,r⟩
theorem mG.none_of(r:mG none o):o=none:=by
 cases o with
 |none=>rfl
 |some u=>exact(show False from r).elim
theorem Wy(r:bK v u):AH u=true:=by
 cases v with
 |non=>cases show u=br from r;rfl
 |bl b=>cases show u=rf b from r;rfl
 |int i=>obtain⟨t,e⟩:=show ∃t,u=kx i t from r;cases e;rfl
 |str x=>obtain⟨t,e⟩:=show ∃t,u=vm x t from r;cases e;rfl
 |byt b=>obtain⟨t,e⟩:=show ∃t,u=Value.bytes b t from r;cases e;rfl
 |flt b=>obtain⟨t,e⟩:=show ∃t,u=yr b t from r;cases e;rfl
 |ref a=>cases show u=cw a from r;rfl
 |ty n=>cases show u=Value.type n from r;rfl
section
variable{P:Program}{w:ar}{H:Hp}{h:Heap}{a C dx:Addr}{fs:List (Str×V)}
theorem xA(hok:eT P w H h)(e:H a=some (.ins C dx fs)):∃mA,qC h a dx C mA/\(∀f,mG (fs.lookup f) (mA f))/\yt mA (fs.map (·.1))/\fs.length<=1000/\H dx=some (.own a):=by
 obtain⟨d,z,ne,ob,mA,n,r,q⟩:=show fG P w H h a _ from hok a _ e;exact⟨mA,⟨ob,n,ne⟩,r,q,z,d⟩
end
structure iI(K:ah)(C:Addr):Prop where
 pg:uc K C Str.empty=true
 hd:vz K C=true
 po:ze K C=true
 sa:iy K (.ref C) "__setattr__"=some (some (.builtin "object.__setattr__"))
theorem iI.get{K:ah}{C:Addr}(c:iI K C)(f:Str):uc K C f=true:=c.pg
noncomputable def lE(K:ah)(C:Addr)(f:Str):Prop:=iy K (.ref C) f=some none
theorem lE.taker{K:ah}{C:Addr}{f:Str}(n:lE K C f):zf K C f=some none:=by
 unfold zf;rw[show iy K _ f=some _ from n];rfl
structure vI(K:ah)(C:Addr)(f:Str)(v:V)(u:Value):Prop where
 at_:iy K (.ref C) f=some (some u)
 rel:bK v u
 get:AI K u "__get__"=some none
 cp:PySem.W.copiedNames.contains f=false
structure uV(K:ah)(C:Addr)(m:Str)(f:Addr):Prop where
 at_:iy K (.ref C) m=some (some (.ref f))
 fn:rh K (.ref f)=true
 kp:ft K (.ref f)=true
section
variable{X:Cx}{FX:List (Addr×Obj)}{σ:St}{H:Hp}{s:aa}{a C dx:Addr}{fs:List (Str×V)}{f:Str}{v:V}{A:ax}{E:Value->aa->Prop}
theorem Tx{Q:Value->aa->Prop}(I:aG X FX σ H s)(e:H a=some (.ins C dx fs))(c:iI X.K C)(n:lE X.K C f)(l:fs.lookup f=some v)
  (h:∀u s',aG X FX σ H s'->bK v u->Q u s'):wpAny (model X.prog X.w) A (getAttr (.ref a) f b) Q E s:=by
 obtain⟨mA,O,r,_,_,_⟩:=xA I.hok e;obtain⟨u,hu,ru⟩:=mG.some_of   (by rw[<-l];exact r f);exact S7 I.kIn O (c.get f) c.hd n hu (Wy ru) (h u _ (I.tok _) ru)
theorem Yi{Q:Value×FN->aa->Prop}(I:aG X FX σ H s)(e:H a=some (.ins C dx fs))(c:iI X.K C)(k:uV X.K C m g)(l:fs.lookup m=none)
  (h:Q (.ref g,[.ref a]) s):wpAny (model X.prog X.w) A (getMethod (.ref a) m pl) Q E s:=by
 obtain⟨mA,O,r,_,_,_⟩:=xA I.hok e;have hn:=mG.none_of (by rw[<-l];exact r m);exact O2 I.kIn O (c.get m) k.at_ k.fn hn h
theorem Xx{u:Value}{Q:Unit->aa->Prop}(I:aG X FX σ H s)(e:H a=some (.ins C dx fs))(c:iI X.K C)(n:lE X.K C f)(hl:fs.length<1000)(ry:bK y u)
  (h:∀s',aG X FX σ (aS H a (.ins C dx (iF f y fs))) s'->Q () s'):wpAny (model X.prog X.w) A (setAttr (.ref a) f u) Q E s:=by
 obtain⟨mA,O,r,wi,_,ho⟩:=xA I.hok e;have hz:(fs.map (·.1)).length<=sizeLine:=by rw[aw,ia];omega
 refine S9 I.kIn O c.sa c.po n.taker c.hd wi hz λh' O' sb=>h _ ?_;have hd:∃o,h'.get? dx=some o:=let⟨o,_,_,e',_⟩:=O'.ns;⟨o,e'⟩;refine I.write   (by rw[e];exact qg) (.inr ho) (λb q hb z=>(sb.2 b hb).trans z) hd ?_;refine⟨by rw[bO O.ne];exact ho,?_,O.ne,O'.obj,_,O'.ns,λg=>?_,λg hg=>?_⟩
 .have:=Vh f y fs;omega
 .rw[Zh]
  by_cases q:g=f
  .rw[if_pos q,if_pos q];exact ry
  .rw[if_neg q,if_neg q];exact r g
 .by_cases q:g=f
  .rw[q];exact(Ua f y fs).1
  .refine(Ua f y fs).2 g (wi g λz=>hg ?_)
   show(if g=f then some u else mA g)=none;rw[if_neg q];exact z
theorem aG.made(I:aG X FX σ H s):aG X FX σ (aS (aS H s.heap.objs.size (.own (s.heap.objs.size+1))) (s.heap.objs.size+1) (.ins C s.heap.objs.size []))
  {s with heap:=(s.heap.push kz).push (my C s.heap.objs.size)}:=by
 have e1:(s.heap.push _).get? _=some kz:=cy _ rfl;have e2:=by
  have:=cy (s.heap.push kz) (o:=my C s.heap.objs.size) rfl
  rwa[iz]at this
 have e3:(s.heap.push _).Ns _ _:=⟨kz,#[],_,e1,rfl,λe he=>absurd he (by simp),λ_=>rfl⟩;have I1:=I.laid  (o:=.own (s.heap.objs.size+1))  (t':=s.toks) (λb u q=>av _ q) (aq _) ⟨_,e1⟩;refine I1.laid    (λb u q=>av _ q) (ud (iz _ _)) ?_;have ne:s.heap.objs.size≠s.heap.objs.size+1:=df (qh _);refine⟨by rw[bO ne,eI],du _,ne,e2,λ_=>none,(Heap.Ns1.of_empty e3).at λo q=>av _ q,λ_=>qg,λy hy=>absurd rfl hy⟩
theorem T6{env:ca}{e:ai}{f:Str}{pos:ak}{s:aa}{Q:Value->aa->Prop}(hb:attributeBase e f env (eval e env)=eval e env)
  (h:wpAny (model prog w) A (eval e env) (λo GA=>wpAny (model prog w) A (getAttr o f true) Q E GA) E s):wpAny (model prog w) A (eval (.Attribute e f pos) env) Q E s:=
 Attribute_any_ h (by rw[arm_eval_Attribute,hb])
end
noncomputable def aeY(K:ah)(ta:TE)(f:Str):TE:=λσ H Q=>ta σ H λx H1=>∃a C dx fs v,x=.ref a/\H1 a=some (.ins C dx fs)/\iI K C/\lE K C f/\fs.lookup f=some v/\Q v H1
noncomputable def aeW(K:ah)(ta tv:TE)(f:Str):TS:=λD σ H=>tv σ H λy H1=>ta σ H1 λx H2=>∃a C dx fs,x=.ref a/\H2 a=some (.ins C dx fs)/\iI K C/\lE K C f/\fs.length<1000/\
 D.nx σ (aS H2 a (.ins C dx (iF f y fs)))
section
variable{X:Cx}{o e value:ai}{f:Str}{pos pos':ak}{ta tv:TE}
theorem acD(he:PE X e ta)(hb:attributeBase e f X.env (eval e X.env)=eval e X.env):PE X (.Attribute e f pos) (aeY X.K ta f):=by
 intro FX s σ H Q I h;refine T6 hb (bC (he _ s _ H _ I h) λu s1 hq=>?_);rcases hq with⟨x,H1,I1,rx,a,C,dx,fs,v,ex,ea,c,n,l,q⟩;subst ex;obtain rfl:u=cw a:=rx;exact Tx I1 ea c n l λu' s2 I2 ru=>⟨v,H1,I2,ru,q⟩
theorem abh(ha:PE X o ta)(hv:PE X value tv)(hs:swapsWith value (some (.Attribute o f pos')) pos.line X.env=pure false):PS X (.Assign [.Attribute o f pos'] value pos) (aeW X.K ta tv f):=by
 intro FX s σ H D I h;refine plainObj_wpAny_Assign_Attribute (bC (hv FX s σ H _ I h) λu s1 ⟨y,H1,I1,ry,q⟩=>bC (ha FX s1 σ H1 _ I1 q) λov s2 hq=>?_) hs;rcases hq with⟨x,H2,I2,rx,a,C,dx,fs,ex,ea,c,n,l,q2⟩;subst ex;obtain rfl:ov=cw a:=rx;exact Xx I2 ea c n l ry λs3 I3=>⟨σ,_,I3,q2⟩
theorem aaa{m:Str}{apos:ak}{args:List ai}{FX:List (Addr×Obj)}{s:aa}{σ:St}{H:Hp}{Q:Value->aa->Prop}{te:TE}(he:PE X e te)(I:aG X FX σ H s)
  (h:te σ H λx H1=>∃a C dx fs g,x=.ref a/\H1 a=some (.ins C dx fs)/\iI X.K C/\uV X.K C m g/\fs.lookup m=none/\
   ∀s1,aG X FX σ H1 s1->wpAny (model X.prog X.w) X.A (callWith pos (.ref g) [.ref a] (backTo pos (starEach args X.env)) (backToKw pos (keywordEach [] X.env))) Q X.xe s1)
  (ht:eval (.Call (.Attribute e m apos) args [] pos) X.env=(do
   let ov <-eval e X.env
   standAt apos.atName
   let (f,first) <-holding [ov] (getMethod ov m pl)
   callWith pos f first (backTo pos (starEach args X.env)) (backToKw pos (keywordEach [] X.env)))):
  wpAny (model X.prog X.w) X.A (eval (.Call (.Attribute e m apos) args [] pos) X.env) Q X.xe s:=by
 refine AJ  (bC (he _ s _ H _ I h) λu s1 hq=>?_) ht;rcases hq with⟨x,H1,I1,rx,a,C,dx,fs,g,ex,ea,c,k,l,q⟩;subst ex;obtain rfl:u=cw a:=rx;exact Yi I1 ea c k l (q _ I1)
end
section
variable{X:Cx}{FX:List (Addr×Obj)}{σ:St}{H:Hp}{s:aa}{A:ax}{E:Value->aa->Prop}{Q:Value->aa->Prop}{c:Value}{b:Bool}
inductive kA(K:ah)(H:Hp):V->Value->Prop where
 |non:kA K H .non (.type "NoneType")
 |bl (x:Bool):kA K H (.bl x) (.type "bool")
 |int (i:Int):kA K H (.int i) (.type "int")
 |str (x:Str):kA K H (.str x) (.type "str")
 |flt (x:UInt64):kA K H (.flt x) (.type "float")
 |lst {a:Addr} {xs:List V} (e:H a=some (.lst xs)):kA K H (.ref a) (.type "list")
 |frz {a:Addr} {o:Obj} {xs:List V} (e:H a=some (.frz o (.lst xs))):kA K H (.ref a) (.type "list")
 |tup {a:Addr} {xs:List V} (e:H a=some (.tup xs)):kA K H (.ref a) (.type "tuple")
 |dK {a:Addr} {kvs:List (hJ×V)} (e:H a=some (.dK kvs)):kA K H (.ref a) (.type "dict")
 |dT {a:Addr} {kvs:List (List hJ×V)} (e:H a=some (.dT kvs)):kA K H (.ref a) (.type "dict")
 |ins {a C dx:Addr} {fs:List (Str×V)} (e:H a=some (.ins C dx fs)) (cl:iI K C) (ha:iy K (.ref C) "__class__"=some (some (.builtin "object.__class__")))
   (hn:AI K (.builtin "object.__class__") "__get__"=some (some (.builtin "getset_descriptor.__get__"))) (htk:PySem.W.takesIn K (.builtin "object.__class__")=some true)
   (hm:PySem.W.mroIn K C (.type "object")=some true):kA K H (.ref a) (.ref C)
theorem B7{u t:Value}(I:aG X FX σ H s)(rx:bK x u)(ty:kA X.K H x t)(e:nr X.K t c=some b)(h:∀tk,Q (.bool b) {s with toks:=tk}):
  wpAny (model X.prog X.w) A (call (.builtin "isinstance") [u,c]) Q E s:=by
 cases ty with
 |non=>cases(show u=br from rx);exact ju PySem.W.kitx_none I.kIn qg e (λz=>nomatch z) h
 |bl y=>cases(show u=rf y from rx);exact ju PySem.W.kitx_bool I.kIn qg e (λz=>nomatch z) h
 |int i=>obtain⟨t,q⟩:=(show ∃t,u=kx i t from rx);cases q;exact ju PySem.W.kitx_int I.kIn qg e (λz=>nomatch z) h
 |str y=>obtain⟨t,q⟩:=(show ∃t,u=vm y t from rx);cases q;exact ju PySem.W.kitx_str I.kIn qg e (λz=>nomatch z) h
 |flt y=>obtain⟨t,q⟩:=(show ∃t,u=yr y t from rx);cases q;exact ju PySem.W.kitx_float I.kIn qg e (λz=>nomatch z) h
 |@lst a xs ea=>
  cases(show u=cw a from rx);obtain⟨_,_,n,_,h1⟩:=(show fG X.prog X.w H s.heap a (.lst xs) from I.hok a _ ea);exact ju zg I.kIn ⟨_,h1,rfl⟩ e (λz=>nomatch z) h
 |@frz a ob xs ea=>
  cases(show u=cw a from rx);obtain⟨_,_,_,n,_,h1⟩:=(show fG X.prog X.w H s.heap a _ from I.hok a _ ea);exact ju zg I.kIn ⟨_,h1,rfl⟩ e (λz=>nomatch z) h
 |@tup a xs ea=>
  cases(show u=cw a from rx);obtain⟨_,_,_,p⟩:=(show fG X.prog X.w H s.heap a (.tup xs) from I.hok a _ ea);obtain⟨o,h1,h2,_⟩:=p;exact ju AK I.kIn ⟨o,h1,h2⟩ e (λz=>nomatch z) h
 |@dK a kvs ea=>
  cases(show u=cw a from rx);obtain⟨_,_,vs,_,p⟩:=(show fG X.prog X.w H s.heap a (.dK kvs) from I.hok a _ ea);obtain⟨o,es,ep,h1,h2,_⟩:=p;exact ju AM I.kIn ⟨o,h1,h2.1⟩ e (λz=>nomatch z) h
 |@dT a kvs ea=>
  cases(show u=cw a from rx);obtain⟨_,_,xs,_,o,es,ep,h1,h2,_⟩:=(show fG X.prog X.w H s.heap a (.dT kvs) from I.hok a _ ea);exact ju AM I.kIn ⟨o,h1,h2.1⟩ e (λz=>nomatch z) h
 |@ins a C dx fs ea cl ha hn htk hm=>
  cases(show u=cw a from rx);obtain⟨mA,O,_⟩:=xA I.hok ea;obtain⟨od,J,_⟩:=O.look;exact ju (PySem.W.kitx_own (cl.get _) cl.hd ha hn htk hm) I.kIn J e (λz=>nomatch z) h
end
structure cP(k:Nat)(A:ax):Prop where
 hd:A.handled=none
 dp:A.depth+3*k+5<recursionLimit
 un:A.units+16*k+200<cLine
theorem cP.mono{j k:Nat}{A:ax}(r:cP k A)(h:j<=k):cP j A:=⟨r.hd,by have:=r.dp;omega,by have:=r.un;omega⟩
theorem cP.deeper(r:cP (k+1) A)(env:ca):cP k (A.deeper env):=
 ⟨r.hd,by have:=r.dp;show A.depth+1+3*k+5<_;omega,by have:=r.un;show A.units+3+16*k+200<_;omega⟩
theorem Ox{A:ax}{C:Addr}{us:FN}{kw:List (Str×Value)}:(A.under (.builtin "type.__call__" ⟨.ref C::us,kw⟩)).depth=A.depth+1:=rfl
theorem Vx{A:ax}{C:Addr}{us:FN}{kw:List (Str×Value)}:(A.under (.builtin "type.__call__" ⟨.ref C::us,kw⟩)).units=A.units+1:=rfl
theorem cP.make(r:cP (k+1) A)(C:Addr)(us:FN)(kw:List (Str×Value)):cP k (A.under (.builtin "type.__call__" ⟨.ref C::us,kw⟩)):=
 ⟨r.hd,by have:=r.dp;rw[Ox];omega,by have:=r.un;rw[Vx];omega⟩
theorem cP.depth(r:cP k A):A.depth<recursionLimit:=by have:=r.dp;omega
theorem cP.units(r:cP k A):A.units+64<cLine:=by have:=r.un;omega
noncomputable def Ru:TA:=λ_ H Q=>Q [] H
noncomputable def aef(ta:TE)(tr:TA):TA:=λσ H Q=>ta σ H λx H1=>tr σ H1 λxs H2=>Q (x::xs) H2
section
variable{X:Cx}{e:ai}{es:List ai}{te:TE}{t:TA}{pos:ak}
theorem nX:PA X [] Ru:=λ_ _ _ _ H Q I h=>Calls.spliced_nil ⟨[],H,I,.nil,h⟩
theorem mE(ha:PE X e te)(hr:PA X es t)(hs:starEach (e::es) X.env=(false,eval e X.env)::starEach es X.env:=by rfl):PA X (e::es) (aef te t):=by
 intro pos FX s σ H Q I h;rw[hs];show wpAny _ _ (spliced ((false,eval e _)::backTo _ _)) _ _ s;refine AN (bC (ha _ s _ H _ I h) λu s1 hq=>?_);rcases hq with⟨x,H1,I1,r1,q1⟩;exact bC (hr _ _ _ _ _ _ I1 q1) λus s2 ⟨xs,H2,I2,r2,q2⟩=>⟨x::xs,H2,I2,.cons r1 r2,q2⟩
noncomputable def aeO(t:TA):TE:=λσ H Q=>t σ H λxs H1=>xs.length<=sizeLine/\∀p,H1 p=none->Q (.ref p) (aS H1 p (.tup xs))
noncomputable def ae1(t:TA):TE:=λσ H Q=>t σ H λxs H1=>xs.length<=sizeLine/\∀p,H1 p=none->Q (.ref p) (aS H1 p (.lst xs))
theorem acF(h:PA X es t):PE X (.Tuple es x1 pos) (aeO t):=by
 intro FX s σ H Q I hq;refine wpAny_Tuple_spliced (bC (h _ _ s _ H _ I hq) λus s1 ⟨xs,H1,I1,r,z,q⟩=>⟨by rw[<-r.length];exact z,?_⟩);have hf:=I1.hok.fresh (aq _);refine⟨.ref _,aS _ _ _,I1.laid  (λb u e=>av _ e) (aq _) ?_,rfl,q _ hf⟩;exact⟨⟨z,_,cy _ rfl,rfl⟩,us,r,⟨_,cy _ rfl,rfl,_,rfl⟩⟩
theorem Zd(h:PA X es t):PE X (.List es pos) (ae1 t):=by
 intro FX s σ H Q I hq;refine wpAny_List_spliced (bC (h _ _ s _ H _ I hq) λus s1 ⟨xs,H1,I1,r,z,q⟩=>⟨by rw[<-r.length];exact z,?_⟩);have hf:=I1.hok.fresh (aq _);refine⟨.ref _,aS _ _ _,I1.laid  (λb u e=>av _ e) (aq _) ?_,rfl,q _ hf⟩;exact⟨z,us,0,r,cy _ rfl⟩
end
noncomputable abbrev Sp:=List V->Hp->VK->XK->Prop
noncomputable abbrev jR:=List ca->Hp->aa->XK->Value->aa->Prop
structure qG(P:Program)(w:ar)(K:ah)(mg:Str->FO)(base:Heap)(A:ax)(outer:List ca)(s:aa)(H:Hp):Prop where
 frames:A.frames=some outer
 mod:Mod K mg base
 bs:∀b o,base.get? b=some o->s.heap.get? b=some o/\H b=none
 bsz:base.objs.size<=s.heap.objs.size
 funs:s.heap.FunFrames base outer
 frf:∀b∈eG outer,H b=none
 hok:eT P w H s.heap
 bare:kn s.gens
noncomputable def CE(outer:List ca)(P:Program)(w:ar)(H:Hp)(s:aa)(Q:VK)(u:Value)(s':aa):Prop:=
 ∃v H',s'.os=s.os/\kn s'.gens/\Un (eG outer) [] H H' s.heap s'.heap/\eT P w H' s'.heap/\bK v u/\Q v H'
noncomputable def CR(CX:jR)(outer:List ca)(P:Program)(w:ar)(H:Hp)(s:aa)(Q:VK)(E:XK)(r:nj)(s':aa):Prop:=
 match r with
 |.ok (.ret u)=>CE outer P w H s Q u s'
 |.ok _=>False
 |.error e=>CX outer H s E e s'
structure dC(P:Program)(w:ar)(K:ah)(mg:Str->FO)(base:Heap)(CX:jR)(k:Nat)(f:Addr)(fd:de)(ps:List Str)(sp:Sp):Prop where
 len:∀vs H Q E,sp vs H Q E->vs.length=ps.length
 run:∀(A:ax)(outer:List ca)(s:aa)(H:Hp)(args:Args)(us:FN)(vs:List V)(Q:VK)(E:XK),cP k A->qG P w K mg base A outer s H->rm s fd args (ps.zip us)->bB vs us->sp vs H Q E->
  codeAny (model P w) A (.call (.ref f) args) (CR CX outer P w H s Q E) s
theorem dC.imp{K:ah}{mg:Str->FO}{base:Heap}{CX:jR}{k:Nat}{f:Addr}{fd:de}{ps:List Str}{sp sp':Sp}(F:dC P w K mg base CX k f fd ps sp)
  (h:∀vs H Q E,sp' vs H Q E->sp vs H Q E):dC P w K mg base CX k f fd ps sp':=
 ⟨λvs H Q E q=>F.len _ H Q E (h _ _ _ _ q),λA outer s H args us vs Q E hr he hb hv hs=>F.run A _ s H _ _ _ Q E hr he hb hv (h _ _ _ _ hs)⟩
theorem qG.make{K:ah}{mg:Str->FO}{base:Heap}{A:ax}{outer:List ca}{s:aa}{H:Hp}(e:qG P w K mg base A outer s H)(C:Addr)(us:FN)(kw:List (Str×Value)):
  qG P w K mg base (A.under (.builtin "type.__call__" ⟨.ref C::us,kw⟩)) outer s H:=⟨by first |exact e.frames |grind,e.mod,e.bs,e.bsz,e.funs,e.frf,e.hok,e.bare⟩
section
variable{X:Cx}{FX:List (Addr×Obj)}{σ:St}{H:Hp}{s s':aa}
theorem aG.env0(I:aG X FX σ H s):qG X.prog X.w X.K X.mg X.base X.A X.stack s H:=
 ⟨I.ok.frames,I.ok.mod,I.bs,gm I.ok.bsz I.sz,I.stack,I.stkFree,I.hok,I.bare⟩
theorem aG.after(I:aG X FX σ H s)(h:CE X.stack X.prog X.w H s Q u s'):EP X FX σ Q u s':=by
 obtain⟨v,H',os,bare,un,hok,r,q⟩:=h;obtain⟨hh,g,d,t,os'⟩:=s';obtain rfl:os'=s.os:=os;exact⟨v,H',I.call      un hok bare λb z=>absurd z (by simp),r,q⟩
end
noncomputable def adJ(sp:Sp)(dvs:List V)(E:XK)(t:TA):TE:=λσ H Q=>t σ H λvs H1=>sp (vs++dvs) H1 Q E
noncomputable def adk(C:Addr)(m:Str)(sp:Sp)(dvs:List V)(E:XK)(ta:TE)(t:TA):TE:=λσ H Q=>ta σ H λx H1=>∃a dx fs,x=.ref a/\H1 a=some (.ins C dx fs)/\fs.lookup m=none/\
 t σ H1 λvs H2=>sp (x::(vs++dvs)) H2 Q E
noncomputable def adv(C:Addr)(sp:Sp)(dvs:List V)(E:XK)(t:TA):TE:=λσ H Q=>t σ H λvs H1=>∀x dx,H1 x=none->H1 dx=none->dx≠x->
 sp (.ref x::(vs++dvs)) (aS (aS H1 dx (.own x)) x (.ins C dx [])) (λv H2=>v=.non/\Q (.ref x) H2) E
noncomputable def gG(K:ah)(fd:de)(ps:List Str)(ds:FN):Prop:=
 ∀(s:aa)(us:FN),K.In s.heap->(us++ds).length=ps.length->rm s fd ⟨us,[]⟩ (ps.zip (us++ds))
theorem gG.all{K:ah}{fd:de}{ps:List Str}(h:∀us:FN,us.length=ps.length->bindArgs fd ⟨us,[]⟩=pure (ps.zip us)):gG K fd ps []:=λs us _ hl=>by
 rw[kg]at hl⊢;exact .of_eq (h _ hl)
noncomputable def rQ(CX:jR)(X:Cx)(E:XK):Prop:=∀(FX:List (Addr×Obj))(σ:St)(H:Hp)(s:aa)(e:Value)(s':aa),aG X FX σ H s->CX X.stack H s E e s'->X.xe e s'
section
variable{X:Cx}{CX:jR}{k:Nat}{f C:Addr}{fd:de}{ps:List Str}{sp:Sp}{dvs:List V}{ds:FN}{E:XK}{x m:Str}{p pos apos:ak}{e o:ai}{es:List ai}{ta:TE}{t:TA}
theorem Ur{σ:St}{H:Hp}{s:aa}{Q:VK}{us:FN}{vs:List V}(F:dC X.prog X.w X.K X.mg X.base CX k f fd ps sp)(hr:cP k X.A)(hb:gG X.K fd ps ds)(hd:bB dvs ds)(hx:rQ CX X E)
  (I:aG X FX σ H s)(r:bB vs us)(h:sp (vs++dvs) H Q E):wpAny (model X.prog X.w) X.A (call (.ref f) us) (EP X FX σ Q) X.xe s:=by
 have r2:=r.append hd;have hl:(us++ds).length=ps.length:=by rw[<-r2.length];exact F.len _ _ _ _ h
 refine zj (nu (F.run _ _ s H _ _ _ Q E hr I.env0 (hb s _ I.kIn hl) r2 h) λr s' hq=>?_);cases r with
 |error e=>exact hx _ _ H s e _ I hq
 |ok fl=>
  cases fl with
  |ret u=>exact I.after hq
  |next=>exact jr hq
  |brk=>exact jr hq
  |cont=>exact jr hq
theorem tJ(F:dC X.prog X.w X.K X.mg X.base CX k f fd ps sp)(hr:cP k X.A)(hg:Gl X x)(hm:X.mg x=some (.ref f))(hk:ft X.K (.ref f)=true)(hb:gG X.K fd ps ds)(hd:bB dvs ds)(hx:rQ CX X E)
  (ha:PA X (e::es) t)(hdb:(x==("__debug__":Str))=false:=by decide)(he:starEach (e::es) X.env=(false,eval e X.env)::starEach es X.env:=by rfl)(hpl:(backTo pos (starEach es X.env)).any (·.1)=false:=by rfl):
  PE X (.Call (.Name x p) (e::es) [] pos) (adJ sp dvs E t):=by
 intro FX s σ H Q I h;refine qi (xB I hg hm ?_ hdb);refine AO  I.ok.mod.kin hk (bC (ha _ _ s _ H _ I h) λus s1 ⟨vs,H1,I1,r,q⟩=>⟨I1.kIn,?_⟩) he hpl;exact Ur F hr hb hd hx I1 r q
theorem Q0(he:PE X o ta)(c:iI X.K C)(hm:uV X.K C m f)(F:dC X.prog X.w X.K X.mg X.base CX k f fd ps sp)(hr:cP k X.A)(hb:gG X.K fd ps ds)(hd:bB dvs ds)(hx:rQ CX X E)
  (ht:eval (.Call (.Attribute o m apos) [] [] pos) X.env=(do
   let ov <-eval o X.env
   standAt apos.atName
   let (f,first) <-holding [ov] (getMethod ov m pl)
   callWith pos f first (backTo pos (starEach [] X.env)) (backToKw pos (keywordEach [] X.env))):=by rfl):
  PE X (.Call (.Attribute o m apos) [] [] pos) (adk C m sp dvs E ta Ru):=by
 intro FX s σ H Q I h;refine AJ  (bC (he _ s _ H _ I h) λu s1 hq=>?_) ht;rcases hq with⟨x,H1,I1,rx,a,dx,fs,ex,ea,l,q⟩;subst ex;obtain rfl:u=cw a:=rx;refine Yi I1 ea c hm l ?_;exact PySem.W.callWith_K0 (first:=[.ref a]) I1.kIn hm.kp (Ur (us:=[.ref a]) (vs:=[.ref a]) F hr hb hd hx I1 (.cons rfl .nil) q)
structure Mk(K:ah)(C f:Addr):Prop where
 makes:wb K C=true
 init:iy K (.ref C) "__init__"=some (some (.ref f))
 fn:rh K (.ref f)=true
 kp:ft K (.ref C)=true
theorem G6{σ:St}{H:Hp}{s:aa}{Q:VK}{us:FN}{vs:List V}(M:Mk X.K C f)(F:dC X.prog X.w X.K X.mg X.base CX k f fd ps sp)(hr:cP (k+1) X.A)(hb:gG X.K fd ps ds)(hd:bB dvs ds)
  (hx:rQ CX X E)(I:aG X FX σ H s)(r:bB vs us)
  (h:∀x dx,H x=none->H dx=none->dx≠x->sp (.ref x::(vs++dvs)) (aS (aS H dx (.own x)) x (.ins C dx [])) (λv H2=>v=.non/\Q (.ref x) H2) E):
  wpAny (model X.prog X.w) X.A (call (.ref C) us) (EP X FX σ Q) X.xe s:=by
 have hq:=h (s.heap.objs.size+1) _ (I.hok.fresh (qj _)) (I.hok.fresh (aq _)) (df (qh _));have I2:=aG.made (C:=C) I;have r2:bB (V.ref (s.heap.objs.size+1)::(vs++dvs)) _:=.cons rfl (r.append hd);have hl:=by
  have e:=r2.length;rw[F.len _ _ _ _ hq]at e;exact e.symm
 refine zj (M7  I.kIn M.makes M.init (beq_iff_eq.mp M.fn) (nu (F.run _ _ _ _ _ (cw _::(us++ds)) _ _ E (hr.make C _ _)
  (I2.env0.make C _ _) (hb _ _ I2.kIn hl) r2 hq) λr s' hq'=>?_))
 cases r with
 |error e=>exact hx _ _ _ _ e _ I2 hq'
 |ok fl=>
  cases fl with
  |ret u=>
   obtain⟨v,H',I3,rv,ev,q3⟩:=I2.after hq';subst ev;exact⟨rv,⟨V.ref _,H',I3,rfl,q3⟩⟩
  |next=>exact jr hq'
  |brk=>exact jr hq'
  |cont=>exact jr hq'
theorem aa3(M:Mk X.K C f)(F:dC X.prog X.w X.K X.mg X.base CX k f fd ps sp)(hr:cP (k+1) X.A)(hg:Gl X x)(hm:X.mg x=some (.ref C))(hb:gG X.K fd ps ds)(hd:bB dvs ds)(hx:rQ CX X E)
  (ha:PA X (e::es) t)(hdb:(x==("__debug__":Str))=false:=by decide)(he:starEach (e::es) X.env=(false,eval e X.env)::starEach es X.env:=by rfl)(hpl:(backTo pos (starEach es X.env)).any (·.1)=false:=by rfl):
  PE X (.Call (.Name x p) (e::es) [] pos) (adv C sp dvs E t):=by
 intro FX s σ H Q I h;refine qi (xB I hg hm ?_ hdb);refine AO  I.ok.mod.kin M.kp (bC (ha _ _ s _ H _ I h) λus s1 ⟨vs,H1,I1,r,q⟩=>⟨I1.kIn,?_⟩) he hpl;exact G6 M F hr hb hd hx I1 r q
end
structure jW(N P:List Str)(sc:Scope):Prop where
 kind:sc.kind=.function
 co:sc.isCoroutine=false
 gen:sc.isGenerator=false
 nd:N.Nodup
 pre:N.take P.length=P
 par:∀x∈P,sc.names.lookup x=some .local\/sc.names.lookup x=some .cell
 nofree:∀y∈sc.names,y.2≠.free
theorem Al{kindOf:Str->Option ja}{x:Str}:∀{binds:List (Str×Value)}{m:Str->FO},(∀v,(x,v)∉binds)->bindL kindOf binds m x=m x
 |[],_,_=>rfl
 |(n,v)::r,m,h=>by
  unfold bindL;rw[Al λw hw=>h w (cj _ hw)];split
  .have:x≠n:=by rintro rfl;exact h v ce
   simp[this]
  .rfl
theorem Xk{kindOf:Str->Option ja}{x:Str}:∀{binds:List (Str×Value)}{m:Str->FO},(∀v,(x,v)∉binds)->bindC kindOf binds m x=m x
 |[],_,_=>rfl
 |(n,v)::r,m,h=>by
  unfold bindC;rw[Xk λw hw=>h w (cj _ hw)];split
  .rfl
  .have:x≠n:=by rintro rfl;exact h v ce
   simp[this]
theorem Wj{kindOf:Str->Option ja}{x:Str}{v:Value}:∀{P:List Str}{vs:FN}{i:Nat}{m:Str->FO},P.Nodup->P[i]?=some x->vs[i]?=some v->kindOf x=some .local->
  bindL kindOf (P.zip vs) m x=some v
 |[],_,_,_,_,h,_,_=>by simp at h
 |_::_,[],_,_,_,_,h,_=>by simp at h
 |p::P,w::vs,0,m,nd,h1,h2,hk=>by
  simp at h1 h2;subst h1;subst h2;show bindL _ ((p,w)::P.zip vs) m p=_;unfold bindL;rw[Al λv hv=>(la.mp nd).1 (zk hv).1,if_pos hk];simp
 |p::P,w::vs,i+1,m,nd,h1,h2,hk=>by
  unfold bindL;exact Wj  (la.mp nd).2 (by simpa using h1) (by simpa using h2) hk
theorem Fk{kindOf:Str->Option ja}{x:Str}{v:Value}:∀{P:List Str}{vs:FN}{i:Nat}{m:Str->FO},P.Nodup->P[i]?=some x->vs[i]?=some v->kindOf x≠some .local->
  bindC kindOf (P.zip vs) m x=some v
 |[],_,_,_,_,h,_,_=>by simp at h
 |_::_,[],_,_,_,_,h,_=>by simp at h
 |p::P,w::vs,0,m,nd,h1,h2,hk=>by
  simp at h1 h2;subst h1;subst h2;show bindC _ ((p,w)::P.zip vs) m p=_;unfold bindC;rw[Xk λv hv=>(la.mp nd).1 (zk hv).1,if_neg hk];simp
 |p::P,w::vs,i+1,m,nd,h1,h2,hk=>by
  unfold bindC;exact Fk  (la.mp nd).2 (by simpa using h1) (by simpa using h2) hk
noncomputable def start(N:List Str)(vs:List V):St:=vs.map some++kb (N.length-vs.length) none
noncomputable def eW(CX:jR)(P:Program)(w:ar)(K:ah)(mg:Str->FO)(base:Heap)(N:List Str)(qual:Str)(scope:Scope)(f:Addr)(cd:Value)(A:ax)(outer:List ca)(s:aa)(H:Hp)(E:XK):Cx where
 prog:=P
 w:=w
 K:=K
 mg:=mg
 base:=base
 A:=A.deeper (envOfC qual scope s.heap.objs.size f cd)
 N:=N
 FY:=s
 FZ:=H
 env:=envOfC qual scope s.heap.objs.size f cd
 outer:=outer
 stack:=envOfC qual scope s.heap.objs.size f cd::outer
 ex:=[]
 calm:=true
 fn:=λ_=>true
 pn:=[]
 xe:=λe s'=>wpAny (model P w) (A.deeper (envOfC qual scope s.heap.objs.size f cd)) (leaving (envOfC qual scope s.heap.objs.size f cd) e) (λ_ s''=>CX outer H s E e s'') (λe' s''=>CX outer H s E e' s'') s'
theorem Wm{sc:Scope}{n:Nat}{x:Str}(h:sc.names.lookup x=some .cell):∃c,(cellsFrom n sc.names []).lookup x=some c:=by
 have q:=AQ _ n [] (.inl h);exact Option.isSome_iff_exists.mp q
theorem Ry{P:Program}{w:ar}{K:ah}{mg:Str->FO}{base:Heap}{N ps:List Str}{qual:Str}{scope:Scope}{f:Addr}{cd:Value}{A:ax}{outer:List ca}{s s1:aa}{H:Hp}{E:XK}{us:FN}{vs:List V}
  (S:jW N ps scope)(hd:A.handled=none)(e0:qG P w K mg base A outer s H)(hl:vs.length=ps.length)(r:bB vs us)
  (x:InCallC s s.heap.objs.size (bindL (envOfC qual scope s.heap.objs.size f cd).kindOf (ps.zip us) λ_=>none) (cellsFrom (s.heap.objs.size+1) scope.names []) (bindC (envOfC qual scope s.heap.objs.size f cd).kindOf (ps.zip us) λ_=>none) s1):
  aG (eW CX P w K mg base N qual scope f cd A outer s H E) [] (start N vs) H s1:=by
 have hpl:ps.length<=N.length:=by have:=congrArg ue S.pre;rw[qk]at this;omega
 obtain⟨h1,tk,rfl,hk⟩:=x.done;have noA:∀b:Addr,b∉(eW CX P w K mg base N qual scope f cd A outer s H E).ex:=λb z=>absurd (show b∈[] from z) (by simp);refine⟨⟨e0.mod,S.kind,rfl,rfl,aq _,λy z c h1 h2=>?_,λy hy=>?_,λy c _ h=>?_,λ_=>hd,Around.frames_deeper e0.frames,.inr ⟨rfl,rfl⟩,λb z=>absurd z (noA b),e0.bs,e0.bsz,λb _ _=>noA b,λb z=>absurd z (noA b),e0.funs,e0.frf⟩,
  rfl,e0.bare,Un.kept hk,⟨_,x.toInCall.ns,λi y v h1 h2 h3=>?_⟩,λy c h=>⟨_,x.cell y c h⟩,e0.hok.fresh (aq _),λy c h=>?_,λp hp=>absurd (show p∈[] from hp) (by simp),e0.hok.kept hk,?_⟩
 .exact name_of_addr x.apart (ko h1) (ko h2)
 .have hy:=hy
  rcases hy with hy |hy
  .exact Wm hy
  .exact absurd rfl (S.nofree _ (ko hy))
 .exact vo (x.above y c (ko h))
 .have hi:i<vs.length:=by
   unfold start at h2
   by_cases hi:i<vs.length
   .exact hi
   .rw[fu (by simpa using hi)]at h2
    rw[zl]at h2;split at h2<;>cases h2
  have ha:vs[i]?=some v:=by
   unfold start at h2;rw[ib (by simpa using hi),cq]at h2;cases e:vs[i]?<;>simp_all
  obtain⟨u,hu,rv⟩:=r.get ha;have hp:ps[i]?=some y:=by
   rw[<-S.pre,List.getElem?_take_of_lt (by omega)];exact h1
  have ndP:ps.Nodup:=by rw[<-S.pre];exact S.nd.sublist (List.take_sublist _ _)
  refine⟨u,rv,?_⟩;rcases S.par y (fy hp)with k |k
  .exact .inl ⟨k,Wj ndP hp hu k⟩
  .obtain⟨c,e⟩:=Wm  k
   refine .inr ⟨.inl k,c,e,?_⟩;have q:=x.cell y c e;rw[Fk ndP hp hu (by show scope.names.lookup y≠_;rw[k];decide)]at q;exact q
 .exact e0.hok.fresh (vo (x.above y c (ko h)))
 .unfold start
  show _=N.length;rw[cx,aw,rn];omega
theorem Kt{P:Program}{w:ar}{K:ah}{mg:Str->FO}{base:Heap}{k:Nat}{f:Addr}{name qual:Str}{params:Arguments}{body:List Stmt}{scope:Scope}{dV kV doc pm cdv ct oc:Value}{an od:FQ}
  {osl:Array FO}{N ps:List Str}{sp:Sp}(lk:K.lookup f=some ⟨oc,od,.func (fj name qual params body scope dV kV doc pm an cdv ct),osl⟩)(hcd:kh K cdv qual=true)(S:jW N ps scope)
  (len:∀vs H Q E,sp vs H Q E->vs.length=ps.length)
  (hbody:∀(A:ax)(outer:List ca)(s:aa)(H:Hp)(vs:List V)(Q:VK)(E:XK),cP k (A.deeper (envOfC qual scope s.heap.objs.size f cdv))->sp vs H Q E->
   ∃t,eZ (eW CX P w K mg base N qual scope f cdv A outer s H E) body t/\t {nx:=λ_ H'=>Q .non H',rt:=Q} (start N vs) H):
  dC P w K mg base CX (k+1) f (fj name qual params body scope dV kV doc pm an cdv ct) ps sp:=by
 refine⟨len,λA outer s H args us vs Q E hr e0 hb r hsp=>?_⟩;have hl:=len _ _ _ _ hsp;have KX:=e0.mod.kin.keeps λb o e=>(e0.bs b o e).1;have lim:=e0.mod.nolimit.keeps λb o e=>(e0.bs b o e).1;have hkind:∀y∈ps.zip us,scope.names.lookup y.1=some _\/(scope.names.lookup y.1=some _/\((cellsFrom (s.heap.objs.size+1) _ []).lookup y.1).isSome=true):=λ⟨n,v⟩ hy=>by
  rcases S.par n (zk hy).1 with q |q
  .exact .inl q
  .exact .inr ⟨q,AQ _ _ _ (.inl q)⟩
 refine codeAny_call_function hr.depth (KX _ _ lk) rfl S.co S.gen rfl (PySem.W.codeRec_of KX hcd) (hb _ _ _ _ ?_);refine wpAny_newFunctionEnv_cells S.kind hkind λenv he s1 x=>?_;subst he;refine⟨lim.keeps x.toInCall.keep,codeAny_func ?_⟩;obtain⟨t,ht,hq⟩:=hbody A _ s H vs Q E (hr.deeper _) hsp;have I:aG (eW CX P w K mg _ N qual _ f cdv A _ s H E) [] _ H s1:=Ry S hr.hd e0 hl r x;refine im (ht [] s1 _ H _ I hq) (λfl s' hs=>?_) λe s' hs=>hs;have fin:∀{σ':St}{H':Hp}{v:V}{u:Value},aG (eW CX P w K mg base N qual scope f cdv A _ s H E) [] σ' H' s'->bK v u->Q v H'->CE outer P w H s Q u s':=
  λ{σ' H' v u} J rv q=>⟨v,H',J.os,J.bare,J.base,J.hok,rv,q⟩
 cases fl with
 |ret u=>
  obtain⟨v,σ',H',J,rv,q⟩:=hs;exact fin J rv q
 |next=>
  obtain⟨σ',H',J,q⟩:=hs;exact fin (v:=V.non)  J rfl q
 |brk=>
  obtain⟨_,_,_,q⟩:=hs;exact jr q
 |cont=>
  obtain⟨_,_,_,q⟩:=hs;exact jr q
section
variable{X:Cx}{x:Str}{p pos:ak}{e:ai}{es:List ai}{t:TA}{id T:String}{r:List V->Hp->VK->Prop}
noncomputable def Zu(r:List V->Hp->VK->Prop)(t:TA):TE:=λσ H Q=>t σ H λvs H1=>r vs H1 Q
theorem wF(hc:jC X (.builtin id) r)(hg:Gl X x)(hm:X.mg x=none)(hv:bootBuiltins x=some (.builtin id))(ha:PA X (e::es) t)(hn:x≠"__name__":=by decide)(hdb:(x==("__debug__":Str))=false:=by decide)
  (he:starEach (e::es) X.env=(false,eval e X.env)::starEach es X.env:=by rfl)(hpl:(backTo pos (starEach es X.env)).any (·.1)=false:=by rfl):PE X (.Call (.Name x p) (e::es) [] pos) (Zu r t):=by
 intro FX s σ H Q I h;refine qi (mS I hg hm hv ?_ hn hdb);exact AR (bC (ha _ _ s _ H _ I h) λus s1 ⟨vs,H1,I1,r1,q1⟩=>hc _ _ _ _ _ _ Q I1 r1 q1) he hpl
theorem Xj(hc:jC X (.type T) r)(hg:Gl X x)(hm:X.mg x=none)(hv:bootBuiltins x=some (.type T))(ha:PA X (e::es) t)(hn:x≠"__name__":=by decide)(hdb:(x==("__debug__":Str))=false:=by decide)
  (he:starEach (e::es) X.env=(false,eval e X.env)::starEach es X.env:=by rfl)(hpl:(backTo pos (starEach es X.env)).any (·.1)=false:=by rfl):PE X (.Call (.Name x p) (e::es) [] pos) (Zu r t):=by
 intro FX s σ H Q I h;refine qi (mS I hg hm hv ?_ hn hdb);exact ub (bC (ha _ _ s _ H _ I h) λus s1 ⟨vs,H1,I1,r1,q1⟩=>hc _ _ _ _ _ _ Q I1 r1 q1) he hpl
end
end L2
namespace HT
open PySem PyProof.Rows
noncomputable def lexLt:FI->FI->Bool
 |[],[]=>false
 |[],_::_=>true
 |_::_,[]=>false
 |x::xs,y::ys=>if x=y then lexLt xs ys else decide (x<y)
theorem lexLt_cons(x y:Int)(xs ys:FI):lexLt (x::xs) (y::ys)=if x=y then lexLt xs ys else decide (x<y):=rfl
theorem Jw:lexLt [] []=false:=rfl
theorem Xv(y:Int)(ys:FI):lexLt [] (y::ys)=true:=rfl
theorem Wv(x:Int)(xs:FI):lexLt (x::xs) []=false:=rfl
theorem O9(A:ax)(s:aa)(a:Int)(t:bj)(c:Int)(u:bj):∃e,ki A s (.int a t) (.int c u) e/\(e=true↔a=c):=
 ⟨ a==c,zn a t c u,by simp⟩
theorem J7(A:ax)(s:aa)(a:Int)(t:bj)(c:Int)(u:bj)(prog:Program)(w:ar)(E:Value->aa->Prop)(Q:Value->aa->Prop)(h:Q (.bool (decide (a<c))) s):
  wpAny (model prog w) A (richCompare .Lt (.int a t) (.int c u)) Q E s:=
 (PyProof.Rows.lt_int h:wpAny (model prog w) A (compareOp .Lt (.int a t) (.int c u)) Q E s)
section
open PySem.SeqAt
open PySem.AutoSeq1 (wpAny_loadPart')
open PySem.MeetsSeq PySem.MeetsSeq2 PySem.MeetsSeq3
theorem Hw(l b:Addr)(items items2:Array Value)(n n2:Nat)(dd dd2:FQ)(sl sl2:Array FO)(ns ms:FI)(hi:jv items.toList ns)(hj:jv items2.toList ms):
  Meets (Builtin.«tuple.__lt__» ⟨[.ref l,.ref b],[]⟩)
   (λ_ R s=>s.heap.get? l=some {cls:=.type "tuple",dict:=dd,data:=.seq items n,slots:=sl}/\s.heap.get? b=some {cls:=.type "tuple",dict:=dd2,data:=.seq items2 n2,slots:=sl2}/\
    R (.ok (.ret (.bool (lexLt ns ms)))) s):=
 .of_wp λprog w A R s h=>by
  obtain⟨hp,g,d,tk,os⟩:=s;obtain⟨hl,hb,h⟩:=h;have f2:=AS;have z1:items.size=ns.length:=by rw[<-hi.length];simp
  have z2:items2.size=ms.length:=by rw[<-hj.length];simp
  wp_walk using wg hl,wg hb,wpAny_forIn_list _ (λeR b s'=>b.1=none/\s'=⟨hp,g,d,tk,os⟩/\∃(vs ws:FN)(ns' ms':FI),eR=vs.zip ws/\
   jv vs ns'/\jv ws ms'/\ns'.length+items2.size=ms'.length+items.size/\R (.ok (.ret (.bool (lexLt ns' ms')))) ⟨hp,g,d,tk,os⟩) _
  case turn=>
   rintro⟨y,x⟩ eR b s' ⟨hb',rfl,vs,ws,ns',ms',hz,hvi,hwi,hlen,hR⟩
   cases hvi with
   |nil=>rw[List.zip_nil_left]at hz;cases hz
   |cons a t hvi'=>
    cases hwi with
    |nil=>rw[zo]at hz;cases hz
    |cons c u hwi'=>
     rw[ql]at hz;injection hz with hyx hrest;injection hyx with hy hx;subst hy hx;rw[lexLt_cons]at hR;simp only[bo]at hlen;obtain⟨e,he,hiff⟩:=O9 A.in1 ⟨hp,g,d,tk,os⟩ a t c u;refine ae (he prog w _ _ ?_);cases e with
     |true=>
      rw[if_pos (hiff.mp rfl)]at hR
      wp_walk
      exact⟨rfl,rfl,_,_,_,_,hrest,hvi',hwi',by omega,hR⟩
     |false=>
      rw[if_neg (λq=>absurd (hiff.mpr q) jf)]at hR;have hri:=J7 A.in1 ⟨hp,g,d,tk,os⟩ a t c u prog w
      wp_walk using hri
      exact⟨_,rfl,by simpa using hR⟩
  case fin=>
   rintro⟨b1,b2⟩ s' ⟨hb',rfl,vs,ws,ns',ms',hz,hvi,hwi,hlen,hR⟩
   simp only at hb';subst hb';have hv:lexLt ns' ms'=decide (items.size<items2.size):=by
    cases hvi with
    |nil=>
     cases hwi with
     |nil=>
      simp only[zq]at hlen;rw[Jw];exact(decide_eq_false (by omega)).symm
     |cons c u hw=>
      simp only[zq,bo]at hlen;rw[Xv];exact(decide_eq_true (by omega)).symm
    |cons a t hv=>
     cases hwi with
     |nil=>
      simp only[zq,bo]at hlen;rw[Wv];exact(decide_eq_false (by omega)).symm
     |cons c u hw=>
      rw[ql]at hz;cases hz
   rw[hv]at hR
   wp_walk
   exact⟨_,rfl,by simpa[Builtin.Tuple.tupleCompareSizes]using hR⟩
  case h=>
   exact⟨rfl,rfl,items.toList,items2.toList,ns,ms,rfl,hi,hj,by omega,h⟩
end
section
variable{prog:Program}{w:ar}{A:ax}{E:Value->aa->Prop}{s:aa}
theorem lt_tupInts{items items2:Array Value}{ns ms:FI}{Q:Value->aa->Prop}(hl:ph s.heap l items)(hb:ph s.heap b items2)(hi:jv items.toList ns)(hj:jv items2.toList ms)
  (hu:A.units<cLine)(h:Q (.bool (lexLt ns ms)) s):wpAny (model prog w) A (compareOp .Lt (.ref l) (.ref b)) Q E s:=by
 obtain⟨⟨cls,dd,data,sl⟩,ho,hc,n,hd⟩:=id hl;obtain⟨⟨cls2,dd2,data2,sl2⟩,ho2,hc2,n2,hd2⟩:=id hb;simp only at hc hd hc2 hd2;subst hc hd hc2 hd2;exact richCompare_meets_room (op:=.Lt) ⟨_,ho,rfl⟩ ⟨_,ho2,rfl⟩ PySem.F.slot_tuple_lt PySem.F.entry_tuple_lt (PySem.F.args_tuple_lt_2 _ _) (Hw l b _ _ n _ _ _ _ _ _ _ hi hj)
  ⟨ho,ho2,show rf _ ≠Value.notImplemented/\Q _ s from⟨(by grind),h⟩⟩ hu
theorem cat_tup{vs ws:FN}{Q:Value->aa->Prop}(ht:ph s.heap t vs.toArray)(hb:ph s.heap b ws.toArray)(hv:vs≠[])
  (h1:ws=[]->Q (.ref t) s)(h2:ws≠[]->Q (.ref s.heap.objs.size) {s with heap:=s.heap.push {cls:=.type "tuple",data:=.seq (vs++ws).toArray}})
  (hsz:vs.length+ws.length<=sizeLine):wpAny (model prog w) A (binaryOp .Add (.ref t) (.ref b)) Q E s:=by
 obtain⟨⟨cls,dd,data,sl⟩,ho,hc,n,hd⟩:=id ht;obtain⟨⟨cls2,dd2,data2,sl2⟩,ho2,hc2,n2,hd2⟩:=id hb;simp only at hc hd hc2 hd2;subst hc hd hc2 hd2;have e:vs.toArray++ws.toArray=(vs++ws).toArray:=by simp
 by_cases hw:ws=[]
 .exact zt ⟨_,ho,rfl⟩ ⟨_,ho2,rfl⟩ noFill_tuple_add seq_tuple_add AT AU (AW _ _)
   (tuple_addW1 t b _ _ n n2 dd _ sl _ (by simpa using hv) (by simp[hw])) ⟨ho,ho2,h1 hw⟩
 .refine zt ⟨_,ho,rfl⟩ ⟨_,ho2,rfl⟩ noFill_tuple_add seq_tuple_add AT AU (AW _ _)
   (tuple_addW2 t b _ _ n _ _ _ _ _ (by simpa using hv) (by simpa using hw) (by exact hsz)) ⟨ho,ho2,?_⟩
  rw[e];exact h2 hw
noncomputable def sIx(n d:Nat):FR->Nat
 |none=>d
 |some v=>if v<0 then(v+(n:Int)).toNat else min v.toNat n
theorem sIx_nat(n d k:Nat):sIx n d (some (k:Int))=min k n:=rfl
theorem ab0(n d:Nat)(hd:d<=n)(o:FR):sIx n d o<=n:=by
 cases o with
 |none=>exact hd
 |some v=>
  show(if v<0 then(v+n).toNat else min _ n)<=n
  grind
theorem Do(v:Int)(n d:Nat):(if v<0 then max (v+(n:Int)) 0 else min v (n:Int))=((sIx n d (some v):Nat):Int):=by
 show(if v<0 then max _ 0 else min v n)=if v<0 then(v+n).toNat else min _ n
 grind
theorem Rx(lo hi:FR)(n:Nat):zu lo hi 1 (n:Int)=(((sIx n 0 lo:Nat):Int),((sIx n n hi:Nat):Int)):=by
 refine jn ?_ ?_
 .cases lo with
  |none=>rfl
  |some v=>exact Do v n 0
 .cases hi with
  |none=>rfl
  |some v=>exact Do v n n
theorem Dy(i j:Nat):wj (i:Int) (j:Int) 1=j-i:=by
 unfold wj;grind
theorem Si{v:Value}{o:FR}{Q:FR->aa->Prop}(p:nv v o)(h:Q o s):wpAny (model prog w) A (Builtin.Slice.slicePartIndex v) Q E s:=by
 cases p with
 |none=>exact slicePart_none h
 |int i t=>exact slicePart_int h
theorem Tv{vl vu:Value}{lo hi:FR}{n:Nat}{Q:Int×Int×Nat->aa->Prop}(hs:s.heap.IsSliceOf sl vl vu .none)(pl:nv vl lo)(pu:nv vu hi)
  (h:Q (((sIx n 0 lo:Nat):Int),1,sIx n n hi-sIx n 0 lo) s):wpAny (model prog w) A (AX (.ref sl) (pure (n:Int))) Q E s:=by
 obtain⟨os,hos,hcs,hds⟩:=id hs;refine ae (ae (jh hos hds (x:=vl) rfl (ae (jh hos hds (x:=vu) rfl (ae (jh hos hds (x:=.none) rfl (aj ?_)))))));refine ae (slicePart_none ?_);refine ae (Si pl (ae (Si pu (ae (aj ?_)))));show wpAny _ _ (match zu _ _ 1 n with |(lo,hi)=>pure (lo,(1:Int),wj lo hi 1)) _ _ s
 rw[Rx _ _ n];show wpAny _ _ (pure _) _ _ s;rw[Dy];exact aj h
theorem K1(xs:Array Value)(i k:Nat):((ci k).filterMap λ(m:Nat)=>xs[((i:Int)+(m:Int)*1).toNat]?).toArray=((xs.toList.drop i).take k).toArray:=by
 have e:(λ(m:Nat)=>xs[((i:Int)+(m:Int)*1).toNat]?)=λm=>xs[i+m]?:=by
  funext m
  have:((i:Int)+(m:Int)*1).toNat=i+m:=by omega
  rw[this]
 rw[e];have:=pick_run xs i k;rw[uf]at this;have e2:((λx=>xs[x]?)∘λx=>i+x)=λm=>xs[i+m]?:=rfl;rw[e2]at this;rw[this]
theorem getItem_tuple_cut{items:Array Value}{vl vu:Value}{lo hi:FR}{Q:Value->aa->Prop}(ht:ph s.heap t items)(hs:s.heap.IsSliceOf sl vl vu .none)(pl:nv vl lo)(pu:nv vu hi)
  (hw:¬(sIx items.size 0 lo=0/\sIx items.size items.size hi=items.size))
  (h:Q (.ref s.heap.objs.size) {s with heap:=s.heap.push {cls:=.type "tuple",data:=.seq ((items.toList.drop (sIx items.size 0 lo)).take (sIx items.size items.size hi-sIx items.size 0 lo)).toArray}})
  (hsz:items.size<=sizeLine):wpAny (model prog w) A (getItem (.ref t) (.ref sl)) Q E s:=by
 have htake:sizeOk (.seq ((items.toList.drop (sIx items.size 0 lo)).take (sIx items.size items.size hi-sIx items.size 0 lo)).toArray):=by
  show((items.toList.drop _).take _).toArray.size<=sizeLine;rw[ay,qk,ny,jz];omega
 obtain⟨os,hos,hcs,hds⟩:=id hs;have hTs:s.TypeIs (.ref sl) "slice":=⟨os,hos,hcs⟩;unfold getItem
 try with_reducible refine ix ?_
 refine ae (wpAny_sequenceKey ht.typeIs (by decide) ?_);refine ae (lc  ht.typeIs wk
  (jk wk ht.typeIs entry_tuple_getitem ?_ (args_tuple_getitem _ _)))
 show wpAny _ _ (AY (.ref t) >>= _) _ _ s;refine ae (tupleItemsOf_ ht ?_);refine ae (wm hTs ?_);refine ae (Tv hs pl pu ?_);have hno:¬((((sIx items.size 0 lo:Nat):Int)==0&&(1:Int)==1&&(sIx items.size items.size hi-sIx items.size 0 lo)==items.size)=true):=by
  grind
 show wpAny _ _ (if(((sIx items.size 0 lo:Nat):Int)==0&&(1:Int)==1&&(sIx items.size items.size hi-sIx items.size 0 lo)==items.size)=true then _ else _) _ _ s;rw[if_neg hno,K1]
 first
  |exact ae  (io (aj ⟨_,rfl,aj h⟩) htake)
  |grind
  |grind
  |grind
end
end HT
namespace L2
open PySem PySem.Spec PyProof.Rows
noncomputable abbrev TO:=St->Hp->(FR->Hp->Prop)->Prop
noncomputable def PO(X:Cx)(e:Option ai)(t:TO):Prop:=
 ∀(FX:List (Addr×Obj))(s:aa)(σ:St)(H:Hp)(Q:FR->Hp->Prop),aG X FX σ H s->t σ H Q->
  wpAny (model X.prog X.w) X.A (evalPart e X.env) (λu s'=>∃o H',aG X FX σ H' s'/\nv u o/\Q o H') X.xe s
noncomputable def W6:TO:=λ_ H Q=>Q none H
noncomputable def adR(t:TE):TO:=λσ H Q=>t σ H λx H1=>∃i,x=.int i/\Q (some i) H1
theorem Dj{ns:FI}:∀{us:FN},bB (ns.map V.int) us->jv us ns:=by
 induction ns with
 |nil=>intro us r;cases r;exact .nil
 |cons n ns ih=>
  intro us r;cases r with
  |cons r1 r2=>
   obtain⟨t,e⟩:=r1;subst e;exact .cons n t (ih r2)
section
variable{X:Cx}{e:ai}{te:TE}{lo hi:Option ai}{tl th:TO}{pos p2:ak}
theorem T5:PO X none W6:=by
 intro FX s σ H Q I h;exact aj ⟨none,H,I,.none,h⟩
theorem Yb(h:PE X e te):PO X (some e) (adR te):=by
 intro FX s σ H Q I hw;refine bC (h _ s _ H _ I hw) ?_
 rintro u s1 ⟨x,H1,I1,r1,q1⟩
 obtain⟨i,rfl,q⟩:=q1;obtain⟨t,rfl⟩:=r1;exact⟨some i,H1,I1,.int i t,q⟩
noncomputable def oQ(X:Cx)(r:V->FR->FR->Hp->VK->Prop):Prop:=
 ∀(FX:List (Addr×Obj))(s:aa)(σ:St)(H:Hp)(x:V)(v vl vu:Value)(lo hi:FR)(sl:Addr)(Q:VK),aG X FX σ H s->bK x v->s.heap.IsSliceOf sl vl vu .none->nv vl lo->nv vu hi->r x lo hi H Q->
  ∃T id,typeLookup (.type T) "__getitem__"=pure (some (.builtin id))/\s.TypeIs v T/\wpAny (model X.prog X.w) X.A (getItem v (.ref sl)) (EP X FX σ Q) X.xe s
theorem oQ.or(h:oQ X r)(h':oQ X r'):oQ X (λx lo hi H Q=>r x lo hi H Q\/r' x lo hi H Q):=by
 intro FX s σ H x v vl vu lo hi sl Q I rx hs pl pu q;rcases q with q |q
 .exact h _ s _ H x v _ _ _ _ _ Q I rx hs pl pu q
 .exact h' _ s _ H x v _ _ _ _ _ Q I rx hs pl pu q
noncomputable def tSl(r:V->FR->FR->Hp->VK->Prop)(te:TE)(tl th:TO):TE:=λσ H Q=>te σ H λx H1=>tl σ H1 λl H2=>th σ H2 λu H3=>r x l u H3 Q
theorem N7(hr:oQ X r)(he:PE X e te)(hl:PO X lo tl)(hu:PO X hi th):PE X (.Subscript e (.Slice lo hi none p2) pos) (tSl r te tl th):=by
 intro FX s σ H Q I h;refine zw (bC (he _ s _ H _ I h) λv s1 hq=>?_);rcases hq with⟨x,H1,I1,r1,q1⟩;refine wpAny_Slice (bC (hl _ _ _ _ _ I1 q1) λvl s2 ⟨l,H2,I2,pl,q2⟩=>bC (hu _ _ _ _ _ I2 q2) λvu s3 hq=>?_);rcases hq with⟨u,H3,I3,pu,q3⟩;refine aj ?_;have I4:aG X _ _ _ {s3 with heap:=s3.heap.push {cls:=.type "slice",data:=.fields #[vl,vu,.none]}}:=I3.kept  λb ob q=>av _ q;obtain⟨T,id,hT,ht,hg⟩:=hr _ _ _ _ x v _ _ l u s3.heap.objs.size Q I4 r1 (AZ ..) pl pu q3;exact tail_any  ht hT hg (rfl)
noncomputable def oM(xs:List V)(lo hi:FR):List V:=(xs.drop (HT.sIx xs.length 0 lo)).take (HT.sIx xs.length xs.length hi-HT.sIx xs.length 0 lo)
theorem vP(xs:List V)(lo hi:FR):(oM xs lo hi).length<=xs.length:=by
 unfold oM;rw[qk,ny];omega
noncomputable def afd(K:ah):V->FR->FR->Hp->VK->Prop:=λx lo hi H Q=>∃a xs,x=.ref a/\cO K H a xs/\
 ¬(HT.sIx xs.length 0 lo=0/\HT.sIx xs.length xs.length hi=xs.length)/\∀p,H p=none->Q (.ref p) (aS H p (.tup (oM xs lo hi)))
theorem abM:oQ X (afd X.K):=by
 intro FX s σ H x v vl vu lo hi sl Q I rx hs pl pu h;obtain⟨a,xs,rfl,hx,hw,q⟩:=h;cases rx;obtain⟨its,r,ht,hz⟩:=I.tuple hx;have hlen:its.toArray.size=xs.length:=by exact r.length.symm
 refine⟨"tuple",_,wk.lookup,ht.typeIs,?_⟩;refine HT.getItem_tuple_cut ht hs pl pu (by rw[hlen];exact hw) ?_ (by rw[hlen];exact hz);rw[hlen];refine⟨.ref _,_,I.laid   (λb ob q=>av _ q) (aq _) ?_,rfl,q _ (I.hok.fresh (aq _))⟩;exact⟨⟨gm (vP _ _ _) hz,_,cy _ rfl,rfl⟩,_,(r.drop _).take _,vq _ _⟩
noncomputable def Ks(K:ah):R2:=λx y H Q=>∃a b xs ys,x=.ref a/\y=.ref b/\cO K H a xs/\cO K H b ys/\xs≠[]/\xs.length+ys.length<=sizeLine/\
 (ys=[]->Q (.ref a) H)/\(ys≠[]->∀p,H p=none->Q (.ref p) (aS H p (.tup (xs++ys))))
theorem bB.nil_iff(r:bB xs us):us=[]↔xs=[]:=by
 cases r<;>simp_all
theorem aaT:dX X (binaryOp .Add) (Ks X.K):=by
 intro FX s σ H x y v u Q I rx ry h;obtain⟨a,b,xs,ys,rfl,rfl,ha,hb,hx,hz,q1,q2⟩:=h;cases rx;cases ry;obtain⟨its,r1,p1,_⟩:=I.tuple ha;obtain⟨its2,r2,p2,_⟩:=I.tuple hb;refine HT.cat_tup p1 p2 (λz=>hx (r1.nil_iff.mp z)) (λz=>⟨.ref a,H,I,rfl,q1 (r2.nil_iff.mp z)⟩) (λz=>?_) (by rw[<-r1.length,<-r2.length];exact hz);refine⟨.ref _,_,I.laid   (λb ob q=>av _ q) (aq _) ?_,rfl,q2 (λw=>z (r2.nil_iff.mpr w)) _ (I.hok.fresh (aq _))⟩;exact⟨⟨by rw[cx];exact hz,_,cy _ rfl,rfl⟩,_,r1.append r2,vq _ _⟩
end
noncomputable def aY(n:Nat)(i:Int):Option Nat:=if 0<=i then(if i<n then some i.toNat else none)else if-(n:Int)<=i then some (i+n).toNat else none
noncomputable def aX{α:Type}(xs:List α)(i:Int):Option α:=(aY xs.length i).bind λj=>xs[j]?
theorem Eo{j:Nat}(h:aY n i=some j):seqIndex? i n=some j/\j<n/\-(n:Int)<=i/\i<n:=by
 unfold aY at h
 by_cases h0:0<=i
 .rw[if_pos h0]at h
  by_cases h1:i<n
  .rw[if_pos h1]at h
   have e:=ck h;exact⟨by rw[zx h0 h1,e],by omega,by omega,h1⟩
  .simp_all
 .rw[if_neg h0]at h
  by_cases h1:-n<=i
  .rw[if_pos h1]at h
   have e:=ck h;exact⟨by rw[zy (by omega) h1,e],by omega,h1,by omega⟩
  .simp_all
theorem Ec(h:aX xs i=some v):∃j,seqIndex? i xs.length=some j/\xs[j]?=some v/\j<xs.length/\-(xs.length:Int)<=i/\i<xs.length:=by
 unfold aX at h;cases e:aY _ i with
 |none=>rw[e]at h;cases h
 |some j=>
  rw[e]at h;obtain⟨h1,h2,h3,h4⟩:=Eo e;exact⟨j,h1,h,h2,h3,h4⟩
theorem rJ{j:Nat}{v:α}(h:xs[j]?=some v):aX xs (j:Int)=some v:=by
 have hj:=(da.mp h).1;have e:aY xs.length j=some j:=by
  unfold aY;simp_all
 unfold aX;rw[e];exact h
theorem K8(xs:List α)(v:α):aX (xs++[v]) (-1)=some v:=by
 have hl:(xs++[v]).length=xs.length+1:=by simp
 have e:aY (xs++[v]).length (-1)=some xs.length:=by
  unfold aY;grind
 unfold aX;rw[e];simp
noncomputable def Qc(b:ai):Prop:=∀o i,subscripted b false o i=operate [o,i] (getItem o i)
noncomputable def mO(X:Cx)(r:R2):Prop:=
 ∀(value slice:ai)(FX:List (Addr×Obj))(s:aa)(σ:St)(H:Hp)(x y:V)(v u:Value)(Q:VK),aG X FX σ H s->bK x v->bK y u->r x y H Q->
  subscripted slice false v u=operate [v,u] (getItem v u)->wpAny (model X.prog X.w) X.A (subscriptTail value slice v u) (EP X FX σ Q) X.xe s
noncomputable def Gg(X:Cx)(id:String)(r:V->List V->Hp->VK->Prop):Prop:=
 ∀(FX:List (Addr×Obj))(s:aa)(σ:St)(H:Hp)(x:V)(xs:List V)(v:Value)(us:FN)(Q:VK),aG X FX σ H s->bK x v->bB xs us->r x xs H Q->
  wpAny (model X.prog X.w) X.A (call (.builtin id) (v::us)) (EP X FX σ Q) X.xe s
section
variable{X:Cx}{a b:ai}{ta tb:TE}{pos:ak}
theorem mO.or(h:mO X r)(h':mO X r'):mO X (λx y H Q=>r x y H Q\/r' x y H Q):=by
 intro value slice FX s σ H x y v u Q I rx ry q hs;rcases q with q |q
 .exact h _ _ _ s _ H x y v u Q I rx ry q hs
 .exact h' _ _ _ s _ H x y v u Q I rx ry q hs
theorem At(hr:mO X r)(ha:PE X a ta)(hb:PE X b tb)(hs:Qc b):PE X (.Subscript a b pos) (zA r ta tb):=by
 intro FX s σ H Q I h;exact zw (Jf ha hb I h λv u s2 x y H2 I2 rx ry q=>hr a b _ _ _ _ x y v u Q I2 rx ry q (hs _ _))
noncomputable def Uu(K:ah):R2:=λx y H Q=>∃p xs i v,x=.ref p/\y=.int i/\bS K H p xs/\aX xs i=some v/\Q v H
noncomputable def Yt(K:ah):R2:=λx y H Q=>∃p xs i v,x=.ref p/\y=.int i/\cO K H p xs/\aX xs i=some v/\Q v H
noncomputable def Tu:R2:=λx y H Q=>∃z i c,x=.str z/\y=.int i/\z.length<=sizeLine/\aX z.cps.toList i=some c/\Q (.str ⟨#[c]⟩) H
theorem aaQ:mO X (Uu X.K):=by
 intro value slice FX s σ H x y v u Q I rx ry h hs;obtain⟨p,xs,i,z,rfl,rfl,hq,he,q⟩:=h;cases rx;obtain⟨t,rfl⟩:=ry;obtain⟨its,r,pl,hz⟩:=I.list hq;obtain⟨j,h1,h2,h3,h4,h5⟩:=Ec he;obtain⟨w,ew,rw'⟩:=r.get h2;have hl:=r.length;have hn:=rK;have fin:EP X FX σ Q w s:=⟨z,H,I,rw',q⟩
 by_cases h0:0<=i
 .have hj:=by
   rw[zx h0 h5]at h1;exact ck h1
  exact item_listR pl.isList h0 (by omega) (by rw[hj];simpa using ew) fin hs
 .have hj:(i+(its.toArray.size:Int)).toNat=j:=by
   rw[zy (by omega) h4]at h1;rw[ay,<-hl];exact ck h1
  exact BA (x:=w) pl.isList.typeIs zz.lookup
   (wpAny_getItem_list_neg  pl.isList (by omega) (by rw[ay]<;>omega) (by omega) (by rw[hj];simpa using ew) ⟨rfl,fin⟩) hs
theorem abq:mO X (Yt X.K):=by
 intro value slice FX s σ H x y v u Q I rx ry h hs;obtain⟨p,xs,i,z,rfl,rfl,hq,he,q⟩:=h;cases rx;obtain⟨t,rfl⟩:=ry;obtain⟨its,r,pl,hz⟩:=I.tuple hq;obtain⟨j,h1,h2,h3,h4,h5⟩:=Ec he;obtain⟨w,ew,rw'⟩:=r.get h2;have hl:=r.length;have hn:=rK;have fin:EP X FX σ Q w s:=⟨z,H,I,rw',q⟩;exact BA  pl.typeIs wk.lookup
  (getItem_tuple   pl (by omega) (by omega) (by rw[ay,<-hl];exact h1) (by simpa using ew) ⟨rfl,fin⟩) hs
theorem abU:mO X Tu:=by
 intro value slice FX s σ H x y v u Q I rx ry h hs;obtain⟨z,i,c,rfl,rfl,hz,he,q⟩:=h;obtain⟨t,rfl⟩:=rx;obtain⟨t',rfl⟩:=ry;obtain⟨j,h1,h2,h3,h4,h5⟩:=Ec he;have hl:z.cps.toList.length=z.length:=by simp[Str.length]
 rw[hl]at h1 h4 h5;have hn:=rK;exact tail_any (typeIs_str s z t) slot_str_getitem.lookup (getItem_str (c:=c) (by
  grind) (by rw[h1];simpa using h2) ⟨.str ⟨#[c]⟩,H,I.tok _,⟨_,rfl⟩,q⟩) hs
noncomputable def Ev(K:ah):R2:=λx y H Q=>Uu K x y H Q\/Yt K x y H Q\/Tu x y H Q
theorem abe:mO X (Ev X.K):=aaQ.or (abq.or abU)
theorem Kx(its:FN)(n j:Nat)(u:Value):fz (·.setIfInBounds j u) {cls:=.type "list",data:=.seq its.toArray n}={cls:=.type "list",data:=.seq (its.set j u).toArray n}:=by
 simp[fz]
theorem aG.lst{σ:St}{H:Hp}{s:aa}{p:Addr}{xs:List V}(I:aG X FX σ H s)(h:H p=some (.lst xs)):
  ∃(its:FN)(n:Nat),bB xs its/\s.heap.get? p=some {cls:=.type "list",data:=.seq its.toArray n}/\xs.length<=sizeLine:=by
 obtain⟨z,its,n,r,e⟩:=I.hok p _ h;exact⟨its,n,r,e,z⟩
theorem aG.lstUpd{σ:St}{H:Hp}{s:aa}{p:Addr}{xs ys:List V}{its its':FN}{n n':Nat}{f:Obj->Obj}(I:aG X FX σ H s)(h:H p=some (.lst xs))
  (ho:s.heap.get? p=some {cls:=.type "list",data:=.seq its.toArray n})(hf:f {cls:=.type "list",data:=.seq its.toArray n}={cls:=.type "list",data:=.seq its'.toArray n'})(r:bB ys its')(hz:ys.length<=sizeLine)(t:Nat):
  aG X FX σ (aS H p (.lst ys)) {s with heap:=s.heap.update p f,toks:=t}:=by
 have e:(s.heap.update p f).get? p=some {cls:=.type "list",data:=.seq its'.toArray n'}:=by
  rw[lg f ho (by rw[hf]<;>rfl),hf]
 refine I.write   (by rw[h];trivial) (.inl rfl) (λb u hb q=>(lh _ _ (jp hb)).trans q) ⟨_,e⟩ ?_;exact⟨hz,its',n',r,e⟩
noncomputable def adm:V->V->V->Hp->(Hp->Prop)->Prop:=λo i v H Q=>∃p xs k j,o=.ref p/\i=.int k/\H p=some (.lst xs)/\aY xs.length k=some j/\Q (aS H p (.lst (xs.set j v)))
theorem O3:Mu X adm:=by
 intro FX s σ H o i v ov iv u Q I ro ri rv h;obtain⟨p,xs,k,j,rfl,rfl,hp,hj,q⟩:=h;cases ro;obtain⟨t,rfl⟩:=ri;obtain⟨its,n,r,ho,hz⟩:=I.lst hp;obtain⟨h1,h2,h3,h4⟩:=Eo hj;have hl:=r.length;have hn:=rK;have I':=
  I.lstUpd hp ho (Kx its n j u) (r.set rv j) (by rw[kq];exact hz) s.toks
 by_cases h0:0<=k
 .have hk:=by
   rw[zx h0 h4]at h1;exact ck h1
  exact PySem.W.ki_setAt ho h0 (by omega) (by rw[ay,<-hl];exact h4) (by rw[hk];exact⟨_,I',q⟩)
 .have hk:(k+its.toArray.size).toNat=j:=by
   rw[zy (by omega) h3]at h1;rw[ay,<-hl];exact ck h1
  exact PySem.W.ki_setBack ho (by omega) (by rw[ay,<-hl];exact h3) (by omega) (by rw[hk];exact⟨_,I',q⟩)
theorem Ow(lo hi:FR)(n:Nat):(sliceBounds lo hi none n).1=((HT.sIx n 0 lo:Nat):Int)/\(sliceBounds lo hi none n).2.1=((HT.sIx n n hi:Nat):Int)/\(sliceBounds lo hi none n).2.2=1:=by
 refine⟨?_,?_,rfl⟩
 .cases lo with
  |none=>simp[sliceBounds,HT.sIx]
  |some i=>
   simp only[sliceBounds,HT.sIx,BB,show(1:Int)>0 by decide,if_true]
   by_cases h:i<0
   .simp only[h,if_true]<;>omega
   .simp only[h,if_false]<;>omega
 .cases hi with
  |none=>simp[sliceBounds,HT.sIx]
  |some i=>
   simp only[sliceBounds,HT.sIx,BB,show(1:Int)>0 by decide,if_true]
   by_cases h:i<0
   .simp only[h,if_true]<;>omega
   .simp only[h,if_false]<;>omega
theorem Fw(its:FN)(lo hi:FR):slicePick its.toArray lo hi none=((its.drop (HT.sIx its.length 0 lo)).take (HT.sIx its.length its.length hi-HT.sIx its.length 0 lo)).toArray:=by
 obtain⟨h1,h2,h3⟩:=Ow _ _ _;unfold slicePick;rw[h1,h2,h3];simp only[sliceRange_one,pick_run]<;>rfl
noncomputable def aeZ(K:ah):V->FR->FR->Hp->VK->Prop:=λx lo hi H Q=>∃a xs,x=.ref a/\bS K H a xs/\∀p,H p=none->Q (.ref p) (aS H p (.lst (oM xs lo hi)))
theorem aaj:oQ X (aeZ X.K):=by
 intro FX s σ H x v vl vu lo hi sl Q I rx hs pl pu h;obtain⟨a,xs,rfl,hx,q⟩:=h;cases rx;obtain⟨its,r,ht,hz⟩:=I.list hx;have hlen:=r.length;refine⟨"list",_,zz.lookup,ht.isList.typeIs,?_⟩;refine BC ht.isList hs pl pu .none (by simp) ?_ (by grind);rw[Fw,<-hlen];refine⟨.ref _,_,I.laid   (λb ob q=>av _ q) (aq _) ?_,rfl,q _ (I.hok.fresh (aq _))⟩;exact⟨gm (vP _ _ _) hz,_,0,(r.drop _).take _,cy _ rfl⟩
theorem Nw:jC X (.builtin "len") (λxs H Q=>∃p ys,xs=[.ref p]/\(bS X.K H p ys\/cO X.K H p ys)/\Q (.int ys.length) H):=by
 intro FX s σ H xs us Q I r h;obtain⟨p,ys,rfl,hq,q⟩:=h;obtain⟨u,rfl,rx⟩:=jY r;cases rx;have hn:=rK;rcases hq with hq |hq
 .obtain⟨its,r',pl,hz⟩:=I.list hq
  have hlen:=r'.length;exact Calls.call_len_list pl.isList (by simp only[ay]<;>omega) ⟨.int _,H,I.tok _,⟨s.toks+1,by rw[ay,hlen]⟩,q⟩
 .obtain⟨its,r',pl,hz⟩:=I.tuple hq
  have hlen:=r'.length;exact len_tuple pl (by simp only[ay]<;>omega) ⟨.int _,H,I.tok _,⟨s.toks+1,by rw[ay,hlen]⟩,q⟩
theorem Sh:jC X (.type "list") (λxs H Q=>∃p ys,xs=[.ref p]/\(bS X.K H p ys\/cO X.K H p ys)/\∀l,H l=none->Q (.ref l) (aS H l (.lst ys))):=by
 intro FX s σ H xs us Q I r h;obtain⟨p,ys,rfl,hq,q⟩:=h;obtain⟨u,rfl,rx⟩:=jY r;cases rx;have fin:∀ its,bB _ _->ys.length<=sizeLine->∀(h':Heap)c',(∀b o',s.heap.get? b=some _->h'.get? b=some _)->
   h'.get? _=some _->EP X _ _ Q (.ref _) {s with heap:=h'}:=λits r' hz h' c' kp e=>
  ⟨.ref _,_,I.laid  kp (aq _) (show fG _ _ _ _ _ (.lst _) from⟨hz,its,c',r',e⟩),rfl,q _ (I.hok.fresh (aq _))⟩
 rcases hq with hq |hq
 .obtain⟨its,r',pl,hz⟩:=I.list hq
  have hlen:=r'.length;obtain⟨o,ho,hc,n,hd⟩:=pl.isList;exact call_list_seq p (.inl rfl) ho hc hd (λh' c' kp e=>fin _ r' hz _ _ kp e) (by simp only[ay]<;>omega)
 .obtain⟨its,r',pl,hz⟩:=I.tuple hq
  have hlen:=r'.length;obtain⟨o,ho,hc,n,hd⟩:=pl;exact call_list_seq p (.inr rfl) ho hc hd (λh' c' kp e=>fin _ r' hz _ _ kp e) (by simp only[ay]<;>omega)
theorem Iw:jC X (.type "tuple") (λxs H Q=>∃p ys,xs=[.ref p]/\((bS X.K H p ys/\∀l,H l=none->Q (.ref l) (aS H l (.tup ys)))\/(cO X.K H p ys/\Q (.ref p) H))):=by
 intro FX s σ H xs us Q I r h;obtain⟨p,ys,rfl,h⟩:=h;obtain⟨u,rfl,rx⟩:=jY r;cases rx;rcases h with⟨hq,q⟩|⟨hq,q⟩
 .obtain⟨its,r',pl,hz⟩:=I.list hq
  have hlen:=r'.length;refine call_tuple_list pl.isList (λh' kp=>?_) (by grind);have I1:=I.kept (t':=s.toks) kp;have I2:aG X _ _ _ {s with heap:=h'.push _}:=
   I1.laid  (λb o e=>av _ e) (aq _) (show fG _ _ _ _ _ (.tup _) from⟨⟨hz,_,cy _ rfl,rfl⟩,its,r',vq _ _⟩)
  exact⟨.ref _,_,I2,rfl,q _ (I1.hok.fresh (aq _))⟩
 .obtain⟨its,r',pl,hz⟩:=I.tuple hq
  exact call_tuple_same pl ⟨.ref p,H,I,rfl,q⟩
noncomputable def Xf(K:ah)(T:String)(x:V)(H:Hp):Prop:=match x with
 |.str _=>T="str"
 |.int _=>T="int"
 |.ref p=>(T="list"/\∃xs,bS K H p xs)\/(T="tuple"/\∃o,K.lookup p=some o/\o.cls=.type "tuple"/\o.dict=none)\/
   (T="dict"/\((∃kvs,H p=some (.dK kvs))\/∃kvs,H p=some (.dT kvs)))\/(T="set"/\∃S n,H p=some (.set S n))
 |_=>False
theorem acY{σ:St}{H:Hp}{s:aa}{T:String}{x:V}{v:Value}(I:aG X FX σ H s)(r:bK x v)(ty:Xf X.K T x H):
  s.TypeIs v T/\∀a,v=.ref a->∃ob,s.heap.get? a=some ob/\ob.dict=none:=by
 cases x with
 |str z=>
  obtain⟨t,rfl⟩:=r;cases(show T="str" from ty);exact⟨typeIs_str s z t,λ_ e=>nomatch e⟩
 |int i=>
  obtain⟨t,rfl⟩:=r;cases(show T="int" from ty);exact⟨typeIs_int s i t,λ_ e=>nomatch e⟩
 |ref p=>
  cases r;rcases ty with⟨rfl,xs,hq⟩|⟨rfl,o,hk,hc,hd⟩|⟨rfl,hk⟩|⟨rfl,S,n,hk⟩
  .obtain⟨its,_,pl,_⟩:=I.list hq
   refine⟨pl.isList.typeIs,λa e=>?_⟩;cases e;obtain⟨o,n,e,c,hd,_⟩:=pl;exact⟨o,e,hd⟩
  .refine⟨⟨o,I.kIn p o hk,hc⟩,λa e=>?_⟩
   cases e;exact⟨o,I.kIn _ o hk,hd⟩
  .have z:∃o,s.heap.get? p=some o/\o.ExactDict:=by
    rcases hk with⟨kvs,hk⟩|⟨kvs,hk⟩
    .obtain⟨_,_,_,_,o,_,_,e,ex,_⟩:=I.hok p _ hk
     exact⟨o,e,ex⟩
    .obtain⟨_,_,_,_,o,_,_,e,ex,_⟩:=I.hok p _ hk
     exact⟨o,e,ex⟩
   obtain⟨o,e,ex⟩:=z;refine⟨⟨o,e,ex.1⟩,λa e2=>?_⟩;cases e2;exact⟨o,e,ex.2.1⟩
  .obtain⟨o,_,_,_,e,ex,_⟩:=I.hok p _ hk
   refine⟨⟨o,e,ex.1⟩,λa e2=>?_⟩;cases e2;exact⟨o,e,ex.2.1⟩
 |_=>exact jr ty
noncomputable def tBM(K:ah)(T:String)(r:V->List V->Hp->VK->Prop)(to:TE)(t:TA):TE:=λσ H Q=>to σ H λx H1=>Xf K T x H1/\t σ H1 λxs H2=>r x xs H2 Q
variable{o e:ai}{es:List ai}{to:TE}{t:TA}{name:Str}{apos cpos:ak}{T id:String}{r:V->List V->Hp->VK->Prop}
theorem xT(pa:PlainAttrs T)(slot:Slot T name id)(hty:typeOf (.builtin id)=pure (.type "method_descriptor"))(hm:Gg X id r)(ho:PE X o to)(ha:PA X (e::es) t)
  (hbase:attributeBase o name X.env (eval o X.env)=eval o X.env:=by rfl)
  (hfew:((backTo cpos (starEach (e::es) X.env)).all (λx=>!x.1)&&(backToKw cpos (keywordEach [] X.env)).all (λx=>x.1.isSome)
   &&decide ((e::es).length+([]:List jg).length+(if([]:List jg).isEmpty then 0 else 1)<30))=true:=by rfl)
  (hline:(apos.endLine==cpos.line)=true:=by rfl)(hs:starEach (e::es) X.env=(false,eval e X.env)::starEach es X.env:=by rfl)(hplain:(backTo cpos (starEach es X.env)).any (·.1)=false:=by rfl):
  PE X (.Call (.Attribute o name apos) (e::es) [] cpos) (tBM X.K T r to t):=by
 intro FX s σ H Q I h;refine BD hbase hfew hline rfl (bC (ho _ s _ H _ I h) λv s1 hq=>?_);rcases hq with⟨x,H1,I1,r1,ty,q1⟩;obtain⟨h1,h2⟩:=acY I1 r1 ty;refine⟨T,id,pa,slot,hty,h1,h2,?_⟩;have hA:=ha cpos _ _ _ _ _ I1 q1;rw[hs]at hA⊢;refine BE (by show(false||(backTo _ _).any _)=false;rw[hplain]<;>rfl) (a8 ?_);exact bC hA λus s2 ⟨vs,H2,I2,r2,q2⟩=>hm _ _ _ _ x _ v us Q I2 r1 r2 q2
end
noncomputable def Bg(X:Cx)(id:String)(r:V->List V->Hp->VK->Prop):Prop:=
 ∀(FX:List (Addr×Obj))(s:aa)(σ:St)(H:Hp)(x:V)(xs:List V)(v:Value)(us:FN)(Q:VK),aG X FX σ H s->bK x v->bB xs us->r x xs H Q->
  wpAny (model X.prog X.w) X.A (call (.builtin id) (v::us)) (EP X FX σ Q) X.xe s
theorem bB.one:∀{x:V}{us:FN},bB [x] us->∃u,us=[u]/\bK x u:=by
 rintro _ _ (_ |⟨r,_ |_⟩)
 exact⟨_,rfl,r⟩
theorem bB.two:∀{x y:V}{us:FN},bB [x,y] us->∃u v,us=[u,v]/\bK x u/\bK y v:=by
 rintro _ _ _ (_ |⟨r,_ |⟨q,_ |_⟩⟩)
 exact⟨_,_,rfl,r,q⟩
theorem bB.eraseIdx:∀{xs:List V}{us:FN}(i:Nat),bB xs us->bB (xs.eraseIdx i) (us.eraseIdx i)
 |_,_,_,.nil=>.nil
 |_,_,0,.cons _ t=>t
 |_,_,i+1,.cons r t=>.cons r (bB.eraseIdx i t)
theorem Xa{α:Type}:∀(l:List α)(i:Nat),(l.eraseIdx i).length<=l.length
 |[],_=>aq _
 |_::_,0=>qj _
 |_::r,i+1=>c7 (Xa r i)
section
variable{X:Cx}{FX:List (Addr×Obj)}{σ:St}{H:Hp}{s:aa}{l:Addr}{xs ys:List V}
theorem aG.lset{its its':FN}{n:Nat}{f:Array Value->Array Value}{t':Nat}(I:aG X FX σ H s)(hH:H l=some (.lst xs))
  (e:s.heap.get? l=some {cls:=.type "list",data:=.seq its.toArray n})(hf:f its.toArray=its'.toArray)(hv:bB ys its')(hz:ys.length<=sizeLine):
  aG X FX σ (aS H l (.lst ys)) {s with heap:=s.heap.update l (fz f),toks:=t'}:=by
 have q:=PySem.IsL.update e f;rw[hf]at q;refine I.write   (by rw[hH];exact trivial) (.inl rfl) (λb' u hb hu=>(lh _ _ (jp hb)).trans hu) ⟨_,q⟩ ?_;exact⟨hz,its',_,hv,q⟩
theorem aG.lnew(I:aG X FX σ H s)(hv:bB ys its)(hz:ys.length<=sizeLine):
  aG X FX σ (aS H s.heap.objs.size (.lst ys)) {s with heap:=s.heap.push {cls:=.type "list",data:=.seq its.toArray},toks:=t'}:=
 I.laid (λ_ _ q=>av _ q) (aq _) ⟨hz,its,0,hv,cy _ rfl⟩
theorem aG.fresh(I:aG X FX σ H s):H s.heap.objs.size=none:=I.hok.fresh (aq _)
theorem aG.lstM(I:aG X FX σ H s)(hH:H l=some (.lst xs)):xs.length<=sizeLine/\∃(its:FN)(n:Nat),bB xs its/\xs.length=its.length/\s.heap.get? l=some {cls:=.type "list",data:=.seq its.toArray n}:=by
 obtain⟨z,its,n,r,e⟩:=I.hok l _ hH;exact⟨z,its,n,r,r.length,e⟩
theorem P4(h:n<=sizeLine):wo n=false:=by
 unfold wo;grind
end
section
variable{X:Cx}
noncomputable def V6:V->List V->Hp->VK->Prop:=λx vs H Q=>∃l xs y,x=.ref l/\vs=[y]/\H l=some (.lst xs)/\xs.length<sizeLine/\Q .non (aS H l (.lst (xs++[y])))
theorem sX:Bg X "list.append" V6:=by
 intro FX s σ H x vs v us Q I rx rv h;obtain⟨l,xs,y,rfl,rfl,hH,hz,q⟩:=h;cases rx;obtain⟨u,rfl,ru⟩:=rv.one;obtain⟨z,its,n,r,hl,e⟩:=I.lstM hH;refine wq c8 ⟨_,e,rfl⟩ F.entry_list_append (F.args_list_append_2 _ _) (PySem.list_append l _ n u (by grind)) ⟨e,?_⟩;refine⟨.non,_,I.lset  hH e (by simp) (r.append (.cons ru .nil)) ?_,rfl,q⟩;grind
noncomputable def abk:V->List V->Hp->VK->Prop:=λx vs H Q=>∃l xs i k y,x=.ref l/\vs=[.int i]/\H l=some (.lst xs)/\-(2^63)<=i/\i<2^63/\seqIndex? i xs.length=some k/\xs[k]?=some y/\Q y (aS H l (.lst (xs.eraseIdx k)))
theorem D9:Bg X "list.pop" abk:=by
 intro FX s σ H x vs v us Q I rx rv h;obtain⟨l,xs,i,k,y,rfl,rfl,hH,h1,h2,hk,hy,q⟩:=h;cases rx;obtain⟨u,rfl,ru⟩:=rv.one;obtain⟨t,rfl⟩:=ru;obtain⟨z,its,n,r,hl,e⟩:=I.lstM hH;obtain⟨w,hw,rw'⟩:=r.get hy;refine wq F.slot_list_pop ⟨_,e,rfl⟩ F.entry_list_pop (F.args_list_pop_2 _ _)
  (MeetsSeq.list_pop_at l _ n i t k w (fitsIndex_both h1 h2) (by rw[ay,<-hl];exact hk) (by rw[<-wt];exact hw) (by rw[ay];omega)) ⟨e,?_⟩
 refine⟨y,_,I.lset  hH e ?_ (r.eraseIdx k) ?_,rw',q⟩
 .rw[List.eraseIdxIfInBounds_toArray]
 .have:=Xa xs k
  omega
end
end L2
namespace Att
open PySem PySem.W PySem.Calls PyProof.Rows
theorem Uv:∀(ns:FI)(vs:FN),WellAll P h vs (ns.map WData.int)->jv vs ns:=by
 intro ns
 induction ns with
 |nil=>
  intro vs w;cases w;exact .nil
 |cons n ns ih=>
  intro vs w;cases w with
  |cons a b=>
   cases a;exact .cons _ _ (ih _ b)
theorem A3{l:rq}{n:Nat}(hn:l.most=some n){P:re}{h:Heap}{args:List WData}{vals:FN}
  (hpre:l.row.toRowW.claim.pre args=true)(hwl:WellAll P h vals args):
  ∃a vs ns,vals=[cw a]/\args=[WData.list (ns.map WData.int)]/\h.get? a=some {cls:=.type "list",data:=.seq vs.toArray}/\jv vs ns/\ns.length<=n:=by
 have hsh:WShape.hasAll [] _ [.list _]=true:=(pre_splitW hpre).1;have hc:l.pre.holds [] _=true:=(pre_splitW hpre).2;obtain⟨d,r,rfl,h1,h2⟩:=hasAllW_cons hsh;obtain rfl:=hasAllW_nil h2;obtain⟨xs,rfl,h3⟩:=hasW_list h1;obtain⟨ns,rfl⟩:=items_int h3;have hlen:=by
  have h4:=by
   have h4:=(holds_andW hc).1;rw[hn]at h4;exact h4
  have h5:=condW_of h4 rfl;first
   |grind
   |(simp at h5;omega)
 cases hwl with
 |cons w1 w2=>
  cases w2;cases w1 with
  |list ho hall=>exact⟨_,_,ns,rfl,rfl,ho,Uv _ _ hall,hlen⟩
theorem Nz(l:rq)(args:List WData):l.row.toRowW.claim.post args (.bool true) args=true:=
 postW_of  
  rfl
  (show(WTm.eq _ _).value _ _=some _ from w_eq_bool rfl w_lit) rfl
theorem attach_call{l:rq}{n:Nat}{q:Program}{loose:List Str}{XP:(Str->FO)->Heap->Prop}{YP:ar->Heap->Prop}{d:DefRec}
  (hn:l.most=some n)(hdf:d.params.defaults=[])
  (call:∀(w:ar)(FY GA:aa)(mg mb:Str->FO)(fa:Addr)(o:Obj)(pm cd doc:Value)(a:Addr)(vs:FN)(ns:FI),
   Ground q loose [] XP w FY mg mb GA.heap->YP w GA.heap->
   GA.heap.get? fa=some o->o.data=.func (docDef d.name d.params d.body d.scope pm cd doc)->GA.heap.CodeRec cd d.name->mg d.name=some (.ref fa)->
   GA.heap.get? a=some {cls:=.type "list",data:=.seq vs.toArray}->jv vs ns->ns.length<=n->GA.gens=#[]->
   codeAny (model l.prog w) callerA (.call (.ref fa) ⟨[.ref a],[]⟩) (λr s'=>r=.ok (.ret (.bool true))/\OldK GA.heap s'.heap/\s'.os=GA.os/\kn s'.gens) GA):
  WalkO q loose XP YP l.row.toRowW d [] (λf vs=>wu f vs):=by
 intro w FY GA mg mb G Y fa o pm cd doc dV kV ho hd hcd hD hmg hg args vals as hpre hlay hrd hwl hlo;obtain rfl:dV=.none:=Dflts.none hD hdf;obtain rfl:kV=.none:=Dflts.noKw hD;obtain⟨a,vs,ns,rfl,rfl,hobj,hints,hlen⟩:=A3 hn hpre hwl;refine enter_call (nu (call w _ _ _ _ _ o _ _ _ a _ _ G Y ho (fd_plain hd) hcd hmg hobj hints hlen hg) λr s' hq=>?_);obtain⟨rfl,h2,h3,h4⟩:=hq;exact⟨.inl ⟨.bool _,.bool _,[],rfl,λ_=>rfl,.bool _,Nz l _,λ_=>⟨List.Pairwise.nil,(by grind)⟩⟩,h2,h3,h4⟩
end Att
namespace L2
open PySem PySem.Spec PyProof.Rows
theorem Dk:∀{vs:FN}{ns:FI},jv vs ns->bB (ns.map V.int) vs
 |_,_,.nil=>.nil
 |_,_,.cons n t h=>.cons ⟨t,rfl⟩ (Dk h)
noncomputable def Df(H:Hp):Prop:=∀b,H b=none\/∃o xs,H b=some (.frz o (.lst xs))
theorem G5{P:Program}{w:ar}{K:ah}{mg mb:Str->FO}{CX:jR}{k:Nat}{fa a:Addr}{fd:de}{x:Str}{sp:Sp}{GA:aa}{vs:FN}{ns:FI}
  (KX:K.In GA.heap)(hns:GA.heap.Ns mainGlobals mg)(hb:GA.heap.Ns builtinsNs mb)(hbb:∀x:Str,x≠"__name__"->mb x=bootBuiltins x)(hlim:GA.heap.NoLimit)(hg:GA.gens=#[])
  (ha:GA.heap.get? a=some {cls:=.type "list",data:=.seq vs.toArray})(hi:jv vs ns)(hl:ns.length<=sizeLine)(hr:cP k callerA)
  (F:∀base:Heap,K.In base->base.Ns mainGlobals mg->dC P w K mg base CX k fa fd [x] sp)(hbind:∀(s:aa)(u:Value),rm s fd ⟨[u],[]⟩ [(x,u)])
  (hsp:∀H:Hp,Df H->bS K H a (ns.map V.int)->sp [.ref a] H (λv _=>v=.bl true) λ_ _ _=>False)
  (hCX:∀H e s',CX [] H GA (λ_ _ _=>False) e s'->False):
  codeAny (model P w) callerA (.call (.ref fa) ⟨[.ref a],[]⟩) (λr s'=>r=.ok (.ret (.bool true))/\OldK GA.heap s'.heap/\s'.os=GA.os/\kn s'.gens) GA:=by
 have rv:=Dk hi;have lenV:=hi.length
 --from an abstract heap in which nothing but the script may be tracked
 have core:∀H:Hp,Df H->bS K H a (ns.map V.int)->eT P w H GA.heap->(∀b,H b≠none->b=a)->(H a≠none->K.lookup a=none)->
   codeAny (model P w) callerA (.call (.ref fa) ⟨[.ref a],[]⟩) (λr s'=>r=.ok (.ret (.bool true))/\OldK GA.heap s'.heap/\s'.os=GA.os/\kn s'.gens) GA:=by
  intro H hO hS hok hA hK;have base_of:∀{b:Addr}{o:Obj},GA.heap.get? b=some o->H b=none->(nB GA.heap H).get? b=some o:=λe n=>M9 e n;have noA:∀{b:Addr}{o:Obj}{es:Array DictEntry}{ep:Nat},GA.heap.get? b=some o->o.data=.dict es ep->H b=none:=λ{b o es ep} e d=>by
   cases q:H b with
   |none=>rfl
   |some u=>
    have e':b=a:=hA b (by rw[q];simp);subst e';rw[ha]at e;cases e;have d':Data.seq vs.toArray _=Data.dict es ep:=d;cases d'
  have nsK:∀{b:Addr}{m:Str->FO},GA.heap.Ns b m->(nB GA.heap H).Ns b m:=λ{b m} ⟨o,es,ep,e,d,r⟩=>⟨o,es,ep,base_of e (noA e d),d,r⟩;have hKb:K.In (nB GA.heap H):=λb o e=>base_of (KX b o e) (by
   cases q:H b with
   |none=>rfl
   |some u=>
    have e':b=a:=hA b (by rw[q];simp);subst e';rw[hK (by rw[q];simp)]at e;cases e)
  have hM:Mod K mg (nB GA.heap H):=⟨hKb,nsK hns,⟨mb,nsK hb,hbb⟩,let⟨mc,h1,h2⟩:=hlim;⟨mc,nsK h1,h2⟩⟩;have e0:qG P w K mg (nB GA.heap H) callerA [] GA H:=⟨rfl,hM,λb o e=>Y8 e,ud (B9 _ _),trivial,λb hb=>absurd (show b∈([]:List Addr) from hb) (by simp),hok,.of_eq hg⟩;refine nu ((F _ hKb (nsK hns)).run callerA [] GA H ⟨[.ref a],[]⟩ [.ref a] [.ref a] _ _ hr e0 (hbind GA (.ref a)) (.cons rfl .nil) (hsp H hO hS)) λr s' h=>?_;cases r with
  |error e=>exact(hCX H e s' h).elim
  |ok fl=>
   cases fl with
   |next=>exact jr h
   |brk=>exact jr h
   |cont=>exact jr h
   |ret u=>
    obtain⟨v,H',os,bare,un,hok',r',q⟩:=h;have q':v=.bl true:=q;subst q';obtain rfl:u=rf true:=r';refine⟨rfl,OldK.of_keep λb o e=>?_,os,bare⟩;cases q:H b with
    |none=>exact un.keep b o e q (by intro z;exact absurd (show b∈([]:List Addr) from z) (by simp)) (by simp)
    |some u=>
     rcases hO b with z |⟨ob,xs,z⟩
     .rw[q]at z;cases z
     .have z2:=un.frzs b ob _ z
      obtain⟨e1,_⟩:=hok b _ z;obtain⟨e2,_⟩:=hok' b _ z2;rw[e]at e1;cases e1;exact e2
 cases hk:K.lookup a with
 |some o=>
  --the script is one of the module's own objects
  have e:=KX a o hk;rw[ha]at e;cases e;refine core (λ_=>none) (λ_=>.inl rfl) (.inr ⟨_,vs.toArray,_,hk,rfl,rfl,rfl,by rw[ay,lenV];exact hl,by simpa using rv⟩) (λb u z=>by have z':(none:Option HO)=some u:=z;cases z') (λb z=>absurd rfl z) λz=>absurd rfl z
 |none=>
  refine core (λb=>if b=a then some _ else none) (λb=>?_) (.inl (.inr ⟨{cls:=.type "list",data:=.seq vs.toArray},if_pos rfl⟩)) (λb u z=>?_) (λb z=>?_) λ_=>hk
  .by_cases hb:b=a
   .exact .inr ⟨_,_,if_pos hb⟩
   .exact .inl (if_neg hb)
  .by_cases hb:b=a
   .have z':=(if_pos hb).symm.trans z
    cases z';subst hb;exact⟨ha,by rw[aw];exact hl,vs,_,rv,ha⟩
   .have z':=(if_neg hb).symm.trans z
    cases z'
  .by_cases hb:b=a
   .exact hb
   .exact absurd (if_neg hb) z
theorem walk_of{l:rq}{n k:Nat}{q:Program}{loose:List Str}{XP:(Str->FO)->Heap->Prop}{YP:ar->Heap->Prop}{d:DefRec}{K:re->ah}{CX:ar->jR}{sp:ar->Sp}{x:Str}
  (hn:l.most=some n)(hn2:n<=sizeLine)(hdf:d.params.defaults=[])(hr:cP k callerA)
  (hY:∀(w:ar)(h:Heap),YP w h->(K w.params).In h)
  (F:∀(w:ar)(mg:Str->FO)(fa:Addr)(h:Heap),(K w.params).In h->h.Ns mainGlobals mg->mg d.name=some (.ref fa)->
   ∃fd:de,(∀(s:aa)(u:Value),rm s fd ⟨[u],[]⟩ [(x,u)])/\
    ∀base:Heap,(K w.params).In base->base.Ns mainGlobals mg->dC l.prog w (K w.params) mg base (CX w) k fa fd [x] (sp w))
  (hsp:∀(w:ar)(H:Hp)(a:Addr)(ns:FI),ns.length<=n->Df H->bS (K w.params) H a (ns.map V.int)->sp w [.ref a] H (λv _=>v=.bl true) λ_ _ _=>False)
  (hCX:∀(w:ar)(H:Hp)(s:aa)(e:Value)(s':aa),CX w [] H s (λ_ _ _=>False) e s'->False):
  PySem.W.WalkO q loose XP YP l.row.toRowW d [] (λf vs=>wu f vs):=by
 refine Att.attach_call hn hdf λw FY GA mg mb fa o pm cd doc a vs ns G Y ho hd hcd hmg hobj hints hlen hg=>?_;have KX:=hY w _ Y;obtain⟨fd,hb,hF⟩:=F w _ _ _ KX G.T.g hmg;exact G5 KX G.T.g G.T.b G.T.builtins G.T.nolimit hg hobj hints (gm hlen hn2) hr hF hb (λH hO hS=>hsp w H a _ hlen hO hS) λH e s'=>hCX w H _ e _
noncomputable abbrev dR:jR:=λ_ _ _ _ _ _=>False
noncomputable abbrev E0:XK:=λ_ _ _=>False
theorem pS:rQ dR X E0:=λ_ _ _ _ _ _ _ h=>h.elim
structure kH(K:ah)(x qual:Str)(st:Stmt)(f:Addr)(fd:de):Prop where
 ex:∃(oc:Value)(od:FQ)(kV doc pm:Value)(an:FQ)(cdv ct:Value)(osl:Array FO),
  fd=fj x qual (gC st) (dM st) (cB st) .none kV doc pm an cdv ct/\K.lookup f=some ⟨oc,od,.func fd,osl⟩/\kh K cdv qual=true
 kp:ft K (.ref f)=true
section
variable{P:Program}{w:ar}{K:ah}{mg:Str->FO}{base:Heap}
theorem kH.ok{st:Stmt}{f:Addr}{fd:de}{N ps:List Str}{k:Nat}{sp:Sp}(F:kH K x qual st f fd)(S:jW N ps (cB st))(len:∀vs H Q E,sp vs H Q E->vs.length=ps.length)
  (hbody:∀(cdv:Value)(A:ax)(outer:List ca)(s:aa)(H:Hp)(vs:List V)(Q:VK)(E:XK),cP k (A.deeper (envOfC qual (cB st) s.heap.objs.size f cdv))->sp vs H Q E->
   ∃t,eZ (eW dR P w K mg base N qual (cB st) f cdv A outer s H E).nox (dM st) t/\t {nx:=λ_ H'=>Q .non H',rt:=Q} (start N vs) H):dC P w K mg base dR (k+1) f fd ps sp:=by
 obtain⟨oc,od,kV,doc,pm,an,cdv,ct,osl,rfl,lk,hcd⟩:=F.ex;refine Kt lk hcd S len λA outer s H vs Q E hr hsp=>?_;obtain⟨t,h,q⟩:=hbody _ A _ s H _ Q E hr hsp;exact⟨t,h.nox,q⟩
theorem kH.binds{st:Stmt}{f:Addr}{fd:de}{ps:List Str}(F:kH K x qual st f fd)
  (h:∀(kV doc pm:Value)(an:FQ)(cdv ct:Value)(us:FN),us.length=ps.length->bindArgs (fj x qual (gC st) (dM st) (cB st) .none kV doc pm an cdv ct) ⟨us,[]⟩=pure (ps.zip us)):gG K fd ps []:=by
 obtain⟨oc,od,kV,doc,pm,an,cdv,ct,osl,rfl,lk,hcd⟩:=F.ex;exact .all (h _ _ _ _ _ _)
theorem Dd{st:Stmt}{f:Addr}{oc:Value}{od an:FQ}{osl:Array FO}{kV doc pm cdv ct:Value}(l:K.lookup f=some ⟨oc,od,.func (fj x qual (gC st) (dM st) (cB st) .none kV doc pm an cdv ct),osl⟩)
  (c:kh K cdv qual=true)(k:ft K (.ref f)=true):kH K x qual st f (fj x qual (gC st) (dM st) (cB st) .none kV doc pm an cdv ct):=⟨⟨oc,od,kV,doc,pm,an,cdv,ct,osl,rfl,l,c⟩,k⟩
end
section
variable{X:Cx}
theorem pv(i:Nat){x:Str}{pos:ak}(hN:X.N[i]?=some x:=by rfl)(hv:nK X.env.scope x:=by first |exact ic rfl |exact eh (ic rfl) |exact eh (eh rfl))(hd:(x==("__debug__":Str))=false:=by decide)
  (hcd:(x==("__classdict__":Str))=false:=by decide):PE X (.Name x pos) (Wu i):=rM hN hv hd hcd
end
noncomputable def cN(H H':Hp):Prop:=∀b o,H b=some o->H' b=some o
theorem cN.refl(H:Hp):cN H H:=λ_ _ h=>h
theorem cN.trans(a:cN H H1)(b:cN H1 H2):cN H H2:=λc o h=>b c o (a c o h)
end L2
namespace Bn
noncomputable def Bd(k:Nat)(i:Int):Prop:=i.natAbs<2^k
theorem Bd.mono{i:Int}(h:Bd j i)(l:j<=k):Bd k i:=fg h (wv (by decide) l)
theorem Bd.mul{a b:Int}(h:Bd j a)(g:Bd k b):Bd (j+k) (a*b):=by
 unfold Bd ;rw[ug,Nat.pow_add];exact Nat.mul_lt_mul'' h g
theorem Bd.add(h:Bd k a)(g:Bd k b):Bd (k+1) (a+b):=by
 unfold Bd at *;rw[wz];have:=Int.natAbs_add_le a b;omega
theorem Bd.neg(h:Bd k a):Bd k (-a):=by
 unfold Bd ;rw[d6];exact h
theorem Bd.sub(h:Bd k a)(g:Bd k b):Bd (k+1) (a-b):=h.add g.neg
theorem Bd.le{a b:Int}(h:Bd k b)(l:a.natAbs<=b.natAbs):Bd k a:=se l h
theorem Bd.of{k n:Nat}{a:Int}(l:a.natAbs<=n)(h:n<2^k):Bd k a:=se l h
theorem Bd.log(h:Bd k a)(hk:0<k):a.natAbs.log2<k:=by
 rcases BF a.natAbs with z |z
 .rw[z]
  simp_all
 .exact(Nat.log2_lt (ky z)).mpr h
theorem Yj(a:Int){b:Int}(h:b≠0):(a.fmod b).natAbs<b.natAbs:=by
 rw[Int.fmod_eq_emod];have h1:=Int.emod_nonneg a h;have h2:=Int.emod_lt a h
 by_cases c:0<=b\/b∣a
 .rw[if_pos c]
  omega
 .rw[if_neg c]
  omega
theorem Cm(a b:Int):bi b (a.fmod b)=bi a b:=by
 rw[Int.fmod_def,ga,Int.gcd_sub_mul_right_right,Int.gcd_comm]
theorem Md(x:Int):(if x<0 then-x else x)=(x.natAbs:Int):=by grind
noncomputable def gl:FI->Int->Int
 |[],g=>g
 |n::r,g=>gl r (bi g n:Nat)
noncomputable def low(ns:FI):FI:=if gl ns 0=0 then ns else ns.map (· /gl ns 0)
theorem Le:∀(ns:FI)(g:Int),0<=g->0<=gl ns g
 |[],_,h=>h
 |_::r,_,_=>Le r _ (BG _)
theorem Oq(k:Int):∀(ns:FI)(g:Int),0<=g->gl (ns.map (k*·)) ((k.natAbs:Int)*g)=(k.natAbs:Int)*gl ns g
 |[],_,_=>rfl
 |n::r,g,h=>by
  show gl _ (bi _ (k*n):Nat)=k.natAbs*gl r _;have e:bi ((k.natAbs:Int)*g) (k*n)=k.natAbs*(bi g n:Int):=by
   rcases Int.natAbs_eq k with q |q
   .rw[<-q,BH]
    have:=q.symm
    push_cast
    rw[this]
   .have e2:k*n=k.natAbs*-n:=by rw[uh,<-kr,<-q]
    rw[e2,BH,Int.gcd_neg]
    simp
  rw[e];exact Oq k r _ (BG _)
theorem wP(k:Int)(ns:FI):gl (ns.map (k*·)) 0=(k.natAbs:Int)*gl ns 0:=by
 have:=Oq k ns 0 (xa 0)
 rwa[sf]at this
theorem qT(h:0<k)(ns:FI):gl ns 0≠0->low (ns.map (k*·))=low ns:=λz=>by
 have hk:k.natAbs=k:=by omega
 have e:=wP k ns;rw[hk]at e;have nz:k*gl _ 0≠0:=jl (by omega) z;unfold low;rw[e,if_neg nz,if_neg z,ff];refine ij λn _=>?_;exact Int.mul_ediv_mul_of_pos _ _ h
theorem kO:∀(ns:FI)(g:Int),gl ns g∣g/\∀n∈ns,gl ns g∣n
 |[],g=>⟨Int.dvd_refl g,by grind ⟩
 |m::r,g=>by
  obtain⟨h1,h2⟩:=kO r _;refine⟨Int.dvd_trans h1 (d7 ..),λn hn=>?_⟩;rcases cr.mp hn with q |q
  .subst q
   exact Int.dvd_trans h1 (d8 ..)
  .exact h2 n q
theorem Jc(h:gl ns 0=0):∀n∈ns,n=0:=λn hn=>by
 have:=(kO _ 0).2 n hn;rw[h]at this;exact Int.zero_dvd.mp this
theorem uC(hn:n∈ns)(h:n≠0):gl ns 0≠0:=λz=>h (Jc z n hn)
theorem uB(hn:n∈ns)(h:n≠0):0<gl ns 0:=by
 have h1:=Le ns 0 (xa 0);have h2:=uC hn h;omega
theorem uA(hn:n∈ns)(h:n≠0):low ns=ns.map (· /gl ns 0):=by
 unfold low;rw[if_neg (uC hn h)]
theorem Bd.gcd(h:Bd k a)(g:Bd k b):Bd k (bi a b:Nat):=by
 rcases BF a.natAbs with z |z
 .have:a=0:=by omega
  subst this;rw[ui];exact g
 .exact se (Nat.gcd_le_left _ z) h
theorem Ie:∀{ns:FI}{g:Int},Bd k g->(∀n∈ns,Bd k n)->Bd k (gl ns g)
 |[],_,h,_=>h
 |n::r,g,h,hn=>Ie (ns:=r) (h.gcd (hn n ce)) λm hm=>hn m (cj _ hm)
theorem xE{ns:FI}(h:∀n∈ns,Bd k n):∀n∈low ns,Bd k n:=λn hn=>by
 unfold low at hn
 by_cases c:gl ns 0=0
 .rw[if_pos c]at hn
  exact h n hn
 .rw[if_neg c]at hn
  obtain⟨m,hm,rfl⟩:=dq.mp hn;refine(h m hm).le ?_;have d:=(kO _ 0).2 m hm;obtain⟨q,e⟩:=d;rw[e,qo _ c,ug];exact Nat.le_mul_of_pos_left _ (by omega)
theorem Lp(ns:FI):(low ns).length=ns.length:=by
 unfold low;split
 .rfl
 .rw[aw]
noncomputable def fr(t b:Int):FI:=if b<0 then low [0-t,0-b] else low [t,b]
theorem kB(a b:Int):b∈[a,b]:=cj _ ce
theorem U3(ns:FI):gl (ns.map (-1*·)) 0=gl ns 0:=by
 have:=wP (-1) ns;simpa using this
theorem abO{t b:Int}(h:b≠0):fr (-t) (-b)=fr t b:=by
 unfold fr
 grind
theorem Nh{k t b:Int}(hk:0<k)(h:b≠0):fr (k*t) (k*b)=fr t b:=by
 unfold fr;have e1:([k*t,k*b]:FI)=[t,b].map (k*·):=rfl;have e2:([0-k*t,0-k*b]:FI)=[0-t,0-b].map (k*·):=by
  show _=[k*(0-t),k*(0-b)];rw[Int.mul_sub,Int.mul_sub,sf]
 by_cases c:b<0
 .rw[if_pos c,if_pos (BJ hk c),e2]
  exact qT hk _ (uC (kB _ _) (by omega))
 .have c':¬(k*b<0):=by
   have:0<k*b:=az hk (by omega);omega
  rw[if_neg c,if_neg c',e1];exact qT hk _ (uC (kB _ _) h)
theorem Vm{k t b:Int}(hk:k≠0)(h:b≠0):fr (k*t) (k*b)=fr t b:=by
 by_cases c:0<k
 .exact Nh c h
 .have c':0< -k:=by omega
  have hb:=jl hk h;rw[<-abO hb,<-kr,<-kr];exact Nh c' h
theorem Im{t b t' b':Int}(h:b≠0)(h':b'≠0)(e:t*b'=t'*b):fr t b=fr t' b':=by
 rw[<-Vm h' h,<-Vm  h h',ga _ t,e,ga _ b,ga _ b]
theorem rV{t b:Int}(h:b≠0):∃p q:Int,fr t b=[p,q]/\0<q/\p*b=t*q:=by
 have go:∀{t b:Int},0<b->∃p q:Int,low [t,b]=[p,q]/\0<q/\p*b=t*q:=λ{t b} hb=>by
  have nz:b≠0:=by omega
  have gp:=uB (kB t b) nz;refine⟨t/gl [t,b] 0,b/gl [t,b] 0,uA (kB t b) nz,?_,?_⟩
  .obtain⟨m,e⟩:=(kO [t,b] 0).2 b (kB t b)
   have:b/gl [t,b] 0=m:=by
    conv=>lhs;lhs;rw[e]
    exact qo _ (by omega)
   rw[this];have hm:0<m*gl [t,b] 0:=by rw[ga,<-e];exact hb
   exact xc hm gp
  .obtain⟨m,e⟩:=(kO [t,b] 0).2 b (kB t b)
   obtain⟨n,f⟩:=(kO [t,b] 0).2 t ce;have e1:b/gl [t,b] 0=m:=by
    conv=>lhs;lhs;rw[e]
    exact qo _ (by omega)
   have e2:t/gl [t,b] 0=n:=by
    conv=>lhs;lhs;rw[f]
    exact qo _ (by omega)
   rw[e1,e2]
   conv=>lhs;rhs;rw[e]
   conv=>rhs;lhs;rw[f]
   rw[Int.mul_left_comm,xf]
 unfold fr
 by_cases c:b<0
 .rw[if_pos c]
  obtain⟨p,q,e1,e2,e3⟩:=go  (b:=0-b) (by omega);refine⟨p,q,e1,e2,?_⟩;grind
 .rw[if_neg c]
  exact go (by omega)
noncomputable def sg(n:Int):Int:=if 0<n then 1 else if n<0 then-1 else 0
theorem Pm(h:b≠0):(0<b/\sg b=1)\/(b<0/\sg b=-1):=by
 unfold sg
 by_cases c:0<b
 .exact .inl ⟨c,if_pos c⟩
 .have d:b<0:=by omega
  exact .inr ⟨d,by rw[if_neg c,if_pos d]⟩
theorem K7(b:Int):-(2^64)<sg b/\sg b<2^64:=by
 unfold sg;split
 .decide
 .split<;>decide
theorem rL(t b:Int):gl [t,b] 0=(bi t b:Nat):=by
 show(bi _ b:Int)=_;rw[ui];rfl
theorem oZ{g n:Int}(h:g≠0):(g*n).fdiv g=n:=by
 simp_all
theorem Wg(h:g≠0):(g*n).fdiv (-1*g)=-n:=by
 have e:g*n=(-1*g)*(-n):=by
  rw[kr,jd,BK]
 rw[e];exact oZ (by omega)
theorem Ez{t b:Int}(h:b≠0):[t.fdiv (sg b*(bi t b:Nat)),b.fdiv (sg b*(bi t b:Nat))]=fr t b:=by
 have gp:=uB (kB t b) h;rw[rL]at gp;have gn:(bi t b:Int)≠0:=by omega
 obtain⟨n,en⟩:=d7 (a:=t) (b:=b);obtain⟨m,em⟩:=d8 (a:=t) (b:=b);have ht:=en;have hb:=em;generalize hg:(bi t b:Int)=g at *;rcases Pm h with⟨c,s⟩|⟨c,s⟩
 .rw[s,jd]
  have e1:fr t b=[t/g,b/g]:=by
   unfold fr;rw[if_neg (by omega),uA (kB t b) h,rL,hg];rfl
  have e2:=uj ⟨n,ht⟩;have e3:=uj ⟨m,hb⟩;rw[e1,e2,e3]
 .rw[s]
  have e1:fr t b=[(0-t)/g,(0-b)/g]:=by
   unfold fr;rw[if_pos c,uA (kB (0-t) (0-b)) (by omega),rL,jw,jw,Int.neg_gcd,Int.gcd_neg,hg];rfl
  have e2:t.fdiv (-1*g)=-n:=by
   conv=>lhs;lhs;rw[ht]
   exact Wg gn
  have e3:b.fdiv (-1*g)=-m:=by
   conv=>lhs;lhs;rw[hb]
   exact Wg gn
  have e4:(0-t)/g=-n:=by
   rw[ht,jw,<-uh,qo _ gn]
  have e5:(0-b)/g=-m:=by
   rw[hb,jw,<-uh,qo _ gn]
  rw[e1,e2,e3,e4,e5]
theorem Wp(n:Int):∀(l:FI)(g:Int),gl (l++[n]) g=(bi (gl l g) n:Nat)
 |[],g=>rfl
 |m::r,g=>Wp n r _
theorem yD(ht:Bd k t)(hb:Bd k b)(e:fr t b=[p,q]):Bd k p/\Bd k q:=by
 have go:∀{x y:Int},Bd k x->Bd k y->low _=[p,q]->Bd k p/\Bd k q:=λ{x y} hx hy e=>by
  have h:=xE  (ns:=[x,y]) λn hn=>by
   rcases cr.mp hn with z |z
   .rw[z];exact hx
   .simp_all
  rw[e]at h;exact⟨h p ce,h q (kB _ _)⟩
 unfold fr at e;split at e
 .exact go (by rw[jw];exact ht.neg) (by rw[jw];exact hb.neg) e
 .exact go ht hb e
theorem Da{t b p q:Int}(h:b≠0)(e:fr t b=[p,q]):bi p q=1:=by
 have go:∀{x y:Int},y≠0->low [x,y]=[p,q]->bi p q=1:=λ{x y} hy e=>by
  rw[uA (kB x y) hy,rL]at e;have gp:=uB (kB x y) hy;rw[rL]at gp;have e1:x/((bi x y:Nat):Int)=p:=by injection e
  have e2:y/((bi x y:Nat):Int)=q:=by
   injection e with _ e;injection e
  rw[<-e1,<-e2,Int.gcd_ediv (d7 ..) (d8 ..),f6];exact Nat.div_self (by omega)
 unfold fr at e;split at e
 .exact go (by omega) e
 .exact go h e
theorem K2(hk:0<k)(hm:0<m){A B:FI}(hA:gl A 0≠0)(e:A.map (k*·)=B.map (m*·)):low A=low B:=by
 have hB:gl B 0≠0:=λz=>by
  have h:=wP k A;rw[e,wP m B,z,sf]at h;have:k.natAbs*gl A 0≠0:=jl (by omega) hA;exact this h.symm
 rw[<-qT hk A hA,e,qT hm B hB]
theorem Zq(b:Int):∀(ns:FI)(g:Int),gl ns (bi g b:Nat)=(bi (gl ns g) b:Nat)
 |[],_=>rfl
 |n::r,g=>by
  show gl r _=bi (gl r _) b;rw[<-Zq b r,Int.gcd_assoc,Int.gcd_comm b n,<-Int.gcd_assoc]
theorem Zb{b:Int}(hb:0<b):gl (ns++[b]) 0=gl ns b:=by
 rw[Wp,<-Zq,ui];grind
theorem nU(ns:FI)(b:Int):b∈ns++[b]:=dz _ ce
theorem abF{b:Int}(hb:0<b):low (ns++[b])=(ns.map λn=>n.fdiv (gl ns b))++[b.fdiv (gl ns b)]/\0<gl ns b:=by
 have gp:=uB (nU ns b) (by omega);rw[Zb hb]at gp;refine⟨?_,gp⟩;rw[uA (nU _ b) (by omega),Zb hb,ik];have e:=λn=>(Int.fdiv_eq_ediv_of_nonneg n (f7 gp)).symm;simp_all
theorem xQ(ns:FI){b:Int}(hb:0<b):∃(zs:FI)(z g:Int),low (ns++[b])=zs++[z]/\0<g/\0<z/\ns=zs.map (g*·)/\b=g*z/\zs.length=ns.length:=by
 obtain⟨e,gp⟩:=abF (ns:=ns) hb;have dv:=kO (ns++[b]) 0;rw[Zb hb]at dv;have ex:∀n∈ns++[b],gl ns b*n.fdiv (gl ns b)=n:=λn hn=>by
  obtain⟨q,e⟩:=dv.2 n hn
  conv=>lhs;rhs;rw[e]
  rw[oZ (by omega)];exact e.symm
 refine⟨_,_,gl ns b,e,gp,?_,?_,(ex b (nU ns b)).symm,aw _⟩
 .have h:=ex b (nU ns b)
  have:0<b.fdiv (gl ns b)*gl ns b:=by rw[ga,h];exact hb
  exact xc this gp
 .rw[ff]
  conv=>lhs;rw[<-xh ns]
  refine ij λn hn=>?_;exact(ex n (ng _ hn)).symm
theorem Vc(ns:FI){b:Int}(hb:0<b):low (low (ns++[b]))=low (ns++[b]):=by
 obtain⟨zs,z,g,e,hg,hz,e1,e2,_⟩:=xQ ns hb;rw[e];refine K2 (k:=g) (m:=1) hg (by decide) (uC (nU zs z) (by omega)) ?_ |>.trans e;rw[ik,<-e1];show ns++[g*z]=(ns++[b]).map (1*·);rw[<-e2]
 conv=>lhs;rw[<-xh (ns++[b])]
 refine ij λn _=>?_;exact(jd n).symm
noncomputable def sm(xs:FI)(w:Int)(ys:FI)(v:Int):FI:=dh (λx y=>x*v+y*w) xs ys
theorem Rt{xs ys:FI}{f g:Int->Int->Int}(h:∀x y,f x y=g x y):dh f xs ys=dh g xs ys:=by
 have:f=g:=funext λx=>funext λy=>h x y;rw[this]
theorem Ey(xs:FI)(w:Int)(ys:FI)(v:Int):dh (λx y=>1*x*v+y*w) xs ys=sm xs w ys v:=Rt λx y=>by rw[jd]
theorem Ax(xs:FI)(w:Int)(ys:FI)(v:Int):dh (λy x=>-1*y*w+x*v) ys xs=sm xs w (ys.map (- ·)) v:=by
 unfold sm;rw[List.zipWith_map_right,List.zipWith_comm];refine Rt λx y=>?_;rw[kr,jd];exact Int.add_comm _ _
end Bn
namespace L2
open PySem PySem.Spec PyProof.Rows Bn
section
variable{X:Cx}
theorem Zp(h:Bd k i):BL i<=k:=by
 unfold BL;split
 .exact du _
 .have z:i.natAbs≠0:=by
   grind
  have:=(Nat.log2_lt z).mpr h;omega
noncomputable def pP(_ j:Int):Prop:=j≠0/\Bd 8000 j
theorem G7:dX X (binaryOp .FloorDiv) (rI pP λi j=>.int (i.fdiv j)):=
 yX λ_ _ _ _ _ _ _ hc q=>floordiv_int hc.1 q (.inl (PyProof.noPylong_of_log2 (g5 (hc.2.log (by decide)) (by decide))))
theorem PS.imp{st:Stmt}{t t':TS}(h:PS X st t)(i:∀D σ H,t' D σ H->t D σ H):PS X st t':=λFX s σ H D I q=>h _ s _ H D I (i D _ H q)
theorem eZ.imp{st:List Stmt}{t t':TS}(h:eZ X st t)(i:∀D σ H,t' D σ H->t D σ H):eZ X st t':=λFX s σ H D I q=>h _ s _ H D I (i D _ H q)
theorem PE.imp(h:PE X e t)(i:∀σ H Q,t' σ H Q->t σ H Q):PE X e t':=λFX s σ H Q I q=>h _ s _ H Q I (i _ H Q q)
theorem PT.imp(h:PT X e t)(i:∀σ H Q,t' σ H Q->t σ H Q):PT X e t':=λFX s σ H Q I q=>h _ s _ H Q I (i _ H Q q)
theorem aG.turnedNew{σ:St}{H:Hp}{s:aa}{h':Heap}{t':Nat}{ch:List Addr}{a:Addr}{o:HO}(I:aG X FX σ H s)(hf:∀b∈ch,eY X FX H b)
  (k:∀b u,b∉ch->s.heap.get? b=some u->h'.get? b=some u)(hp:s.heap.objs.size<=a)(new:fG X.prog X.w (aS H a o) h' a o):
  aG X FX σ (aS H a o) {s with heap:=h',toks:=t'}:=by
 have hn:=I.hok.fresh hp;have nch:∀b u,H b=some u->b∉ch:=λb u e z=>by
  rw[(hf b z).1]at e;cases e
 have nea:∀b u,H b=some u->b≠a:=λb u e=>gB e hn;refine I.step    (λb hb=>?_) (λb u _ _ hc e _=>k b u hc e) (λb u _ _ hc e _=>⟨u.slots,k b u hc e⟩) (λb u _ e n=>?_)
  (λb u hc e=>⟨u,k b u hc e⟩) (λb xs e=>?_) (λb u v e=>?_) (λb ps e=>⟨#[],?_⟩) (λm hm=>?_) (λb u e=>?_) I.bare
 .obtain⟨_,f1,_,f3,f4,f5⟩:=hf b hb
  exact⟨f3,f1,f4,f5⟩
 .rw[bO (df (fg (bh e) hp))]
  exact n
 .rw[bO (nea b _ e)]
  exact e
 .rw[bO (nea b _ e)]
  exact e
 .rw[bO (nea b _ e),e]
  simp
 .obtain⟨ob,es,ep,ho,r⟩:=hm
  exact⟨ob,es,ep,k _ ob (λz=>(hf _ z).2.1 rfl) ho,r⟩
 .by_cases hb:b=a
  .subst hb
   rw[eI]at e;cases e;exact new
  .rw[bO hb]at e
   refine(I.hok b u e).stay (λc v hc q=>k c v ?_ q) (λc q=>?_) λc xs q=>?_
   .rcases hc with z |z
    .rw[z]
     exact nch b u e
    .exact nch c _ z
   .rw[bO (nea c _ q)]
    exact q
   .rw[bO (nea c _ q)]
    exact q
theorem aG.turnedL{σ:St}{H:Hp}{s:aa}{h':Heap}{t':Nat}{ch:List Addr}(I:aG X FX σ H s)(hf:∀b∈ch,eY X FX H b)
  (k:∀b u,b∉ch->s.heap.get? b=some u->h'.get? b=some u):aG X FX σ H {s with heap:=h',toks:=t'}:=by
 have nch:∀b u,H b=some u->b∉ch:=λb u e z=>by
  rw[(hf b z).1]at e;cases e
 refine I.step    (λb hb=>?_) (λb u _ _ hc e _=>k b u hc e) (λb u _ _ hc e _=>⟨u.slots,k b u hc e⟩) (λb u _ e n=>n)
  (λb u hc e=>⟨u,k b u hc e⟩) (λb xs e=>e) (λb u v e=>e) (λb ps e=>⟨#[],?_⟩) (λm hm=>?_) (λb u e=>?_) I.bare
 .obtain⟨_,f1,_,f3,f4,f5⟩:=hf b hb
  exact⟨f3,f1,f4,f5⟩
 .simp_all
 .obtain⟨ob,es,ep,ho,r⟩:=hm
  exact⟨ob,es,ep,k _ _ (λz=>(hf _ z).2.1 rfl) ho,r⟩
 .refine(I.hok b u e).stay (λc v hc q=>k c v ?_ q) (λc q=>q) λc xs q=>q
  rcases hc with z |z
  .rw[z]
   exact nch b u e
  .exact nch c _ z
end
noncomputable def Hg (K : ah) (a : Addr) : It :=
  ⟨λi H => ∃ xs x, bS K H a xs ∧ xs[i]? = some x,
   λi H x H' => ∃ p y, H p = none ∧ x = .ref p ∧ H' = aS H p (.tup [.int i, y]) ∧ ∀ xs, bS K H a xs → xs[i]? = some y,
   λi H => ∃ xs, bS K H a xs ∧ xs.length ≤ i⟩
theorem A9{P:Program}{w:ar}{K:ah}{elts:List ai}{x1:Nat}{tp:ak}(a e it:Addr)(hne:e≠it):
  sJ P w K (.Tuple elts x1 tp) (Hg K a) [e,it] e (λi h=>(∃old,IsEnum h e it (i:Int) old)/\h.IsListIter it a i) where
 mem:=by simp
 obj:=λi h st b hb=>by
  obtain⟨⟨old,q⟩,o,e1,c,d⟩:=st;rcases cr.mp hb with z |z
  .subst z
   exact⟨_,q,λv z=>nomatch z⟩
  .have z':b=it:=by simpa using z
   subst z';exact⟨o,e1,λv z=>by rw[d]at z;cases z⟩
 keep:=λi h h' st k=>⟨let⟨old,q⟩:=st.1;⟨old,k e (by simp) _ q⟩,st.2.at λo q=>k it (by simp) o q⟩
 item:=by
  intro X hP hw hK hc i FX s σ H E I hf st hg;subst hP hw hK;obtain⟨xs,x,hq,hx⟩:=hg;obtain⟨its,rv,pl,hz⟩:=I.list hq;obtain⟨u,hu,ru⟩:=rv.get hx;obtain⟨⟨old,he⟩,hit⟩:=st;refine wpAny_pyNext_enum_item he hit pl.isList (x:=u) (by simpa using hu) hne λh1 ho1 hit1 ht1 hs1 hk1=>⟨_,rfl,?_⟩;have lt1:e<s.heap.objs.size:=bh he;refine wpAny_letOwnedTupleGo_enum  ho1 λh2 he2 sb2=>?_;have ht2:=(sb2.2 _ (ky lt1)).trans ht1;have I2:aG X FX σ (aS H s.heap.objs.size (.tup [.int i,x])) {s with heap:=h2,toks:=s.toks+1}:=
   I.turnedNew hf (λb o hb q=>(sb2.2 b (λz=>hb (by simp[z]))).trans (hk1 b o (λz=>hb (by simp[z])) (λz=>hb (by simp[z])) q)) (aq _)
    ⟨⟨by show 2<=sizeLine;decide,_,ht2,rfl⟩,[.int i s.toks,u],.cons ⟨_,rfl⟩ (.cons ru .nil),⟨_,ht2,rfl,_,rfl⟩⟩
  refine⟨.ref s.heap.objs.size,_,I2,rfl,⟨_,x,I.hok.fresh (aq _),rfl,rfl,λys hy=>by rw[I.list_inj hy hq];exact hx⟩,⟨⟨_,by simpa using he2⟩,hit1.at λo q=>(sb2.2 it hne.symm).trans q⟩,λb hb=>?_⟩;have hb':=(hf b hb).1;have lt:b≠s.heap.objs.size:=by
   rcases cr.mp hb with z |z
   .subst z
    exact df lt1
   .have z':b=it:=by simpa using z
    subst z';obtain⟨o,q,_⟩:=hit;exact df (bh q)
  rw[bO lt];exact hb'
 done:=by
  intro X hP hw hK hc i FX s σ H E I hf st hg;subst hP hw hK;obtain⟨xs,hq,hx⟩:=hg;obtain⟨its,rv,pl,hz⟩:=I.list hq;obtain⟨⟨old,he⟩,hit⟩:=st;have hl:=rv.length;exact wpAny_pyNext_enum_end (I.ok.hd hc) he hit pl.isList (by simp;omega) λh' eb=>⟨rfl,I.turnedL (t':=s.toks) hf λb o hb q=>eb b o (λz=>hb (by simp[z])) q⟩
 self:=λ_ _ _ _ _ st h=>let⟨_,q⟩:=st.1;wpAny_pyIter_enum q h
section
variable{X:Cx}{elts:List ai}{x1:Nat}{tp:ak}
noncomputable def aeg(K:ah)(tl:TA):TI:=λσ H R=>tl σ H λvs H1=>∃a,vs=[.ref a]/\(∃xs,bS K H1 a xs)/\R (Hg K a) H1
theorem aaB{tl:TA}{p pos:ak}(hg:Gl X "enumerate")(hm:X.mg "enumerate"=none)(hl:PA X [l] tl)(hs:starEach [l] X.env=[(false,eval l X.env)]:=by rfl):
  PI X (.Tuple elts x1 tp) (.Call (.Name "enumerate" p) [l] [] pos) (aeg X.K tl):=by
 intro FX s σ H R I h;refine Call_ (mS I hg hm boot_enumerate (ub (bC (hl _ FX s σ H _ I h) λus s1 hq=>?_) hs rfl));rcases hq with⟨vs,H1,I1,r1,q1⟩;obtain⟨a,rfl,⟨xs,hq⟩,q⟩:=q1;obtain⟨u,rfl,ru⟩:=jY r1;cases ru;obtain⟨its,rv,pl,hz⟩:=I1.list hq;refine call_enumerate_list pl.isList λh' he hit hsz k=>?_;have I2:=I1.kept (t':=s1.toks) k;refine wpAny_pyIter_enum  he ?_;refine⟨s1.heap.objs.size+1,[s1.heap.objs.size+1,s1.heap.objs.size],_,_,H1,rfl,I2,A9 a _ _ (Nat.succ_ne_self _),⟨⟨_,he⟩,hit⟩,λb hb=>?_,q⟩;have hb':s1.heap.objs.size<=b:=by
  rcases cr.mp hb with z |z
  .simp_all
  .have z':=by simpa using z
   rw[z'];exact aq _
 exact I1.fpOk hb' (I1.hok.fresh hb')
end
noncomputable def gI(env:ca):List (Str×ja)->List (Str×Addr)->List (Str×Addr)
 |[],acc=>acc
 |p::r,acc=>if(p.2== .free)=true then gI env r ((p.1,(env.cells.lookup p.1).getD 0)::acc)else gI env r acc
theorem Lc(h:∀p∈sc.names,p.2=.free->∃c,env.cells.lookup p.1=some c):closureFor sc env=pure (gI env sc.names []):=by
 unfold closureFor;have go:∀ l acc,(∀p∈l,p.2=.free->∃c,env.cells.lookup p.1=some c)->
   (forIn l acc (λx r=>if(x.2==jb)=true then do let a <-cellOf env x.1;pure (g6 ((x.1,a)::r))else pure (g6 r)):gq _)=pure (gI env l acc):=by
  intro l
  induction l with
  |nil=>intro acc _;rfl
  |cons p r ih=>
   intro acc hp;rw[xi];have hr:=λacc'=>ih acc' λq hq=>hp q (cj _ hq)
   by_cases c:(p.2==jb)=true
   .obtain⟨a,ea⟩:=hp p ce (by simpa using c)
    have e1:cellOf env p.1=pure a:=by unfold cellOf;rw[ea]
    rw[if_pos c,e1];simp only[pure_bind];rw[hr];show _=pure (if(p.2== .free)=true then _ else _);rw[if_pos c,ea];rfl
   .rw[if_neg c]
    simp only[pure_bind];rw[hr];show _=pure (if(p.2== .free)=true then _ else _);rw[if_neg c]
 have e:=go _ [] h;rw[bind_pure];exact e
theorem vU{env:ca}:∀(l:List (Str×ja))(acc:List (Str×Addr)),(∀p∈l,p.2=.free->∃c,env.cells.lookup p.1=some c)->
  ∀y c,(gI env l acc).lookup y=some c->acc.lookup y=some c\/env.cells.lookup y=some c
 |[],acc,_,y,c,e=>.inl e
 |p::r,acc,h,y,c,e=>by
  have hr:=λq hq=>h q (cj _ hq);unfold gI at e
  by_cases k:(p.2==jb)=true
  .rw[if_pos k]at e
   obtain⟨a,ea⟩:=h p ce (by simpa using k);rcases vU r _ hr y c e with z |z
   .rw[fh]at z
    cases w:y==p.1 with
    |true=>
     simp_all
    |false=>
     rw[w]at z;exact .inl z
   .exact .inr z
  .rw[if_neg k]at e
   exact vU r _ hr y c e
theorem qV:∀(l:List (Str×ja))(acc:List (Str×Addr))(y:Str),((∃c,acc.lookup y=some c)\/(y,jb)∈l)->∃c,(gI env l acc).lookup y=some c
 |[],acc,y,h=>by
  rcases h with h |h
  .exact h
  .cases h
 |p::r,acc,y,h=>by
  unfold gI
  by_cases k:(p.2==jb)=true
  .rw[if_pos k]
   refine qV r _ y ?_;cases w:y==p.1 with
   |true=>exact .inl ⟨_,by rw[fh,w]⟩
   |false=>
    rcases h with⟨c,h⟩|h
    .exact .inl ⟨c,by rw[fh,w];exact h⟩
    .rcases cr.mp h with z |z
     .rw[<-z]at w
      simp at w
     .exact .inr z
  .rw[if_neg k]
   refine qV r _ y ?_;rcases h with h |h
   .exact .inl h
   .rcases cr.mp h with z |z
    .rw[<-z]at k
     simp at k
    .exact .inr z
theorem Oh{env:ca}:∀{names:List (Str×ja)}{x:Str},(∀y∈names,y.2≠.cell)->
  (let l:=(names.map λ(n,k)=>if(k==jb&&env.scope.kind== .function&&env.kindOf n==some .cell)then(n,ir)else(n,k)).lookup x;l=some .cell\/l=some .free)->(x,jb)∈names
 |[],x,_,h=>by
  rcases h with h |h<;>cases h
 |(n,k)::r,x,hc,h=>by
  dsimp only at h;rw[cf]at h;have ih:=@Oh env r x λy hy=>hc y (cj _ hy);have nk:k≠.cell:=hc (n,k) ce
  by_cases c:(k==jb&&env.scope.kind== .function&&env.kindOf n==some .cell)=true
  .have kf:k=.free:=by
    simp only[gr,beq_iff_eq]at c;exact c.1.1
   dsimp only at h;rw[if_pos c,fh]at h;cases w:x==n with
   |true=>
    have hx:x=n:=by simpa using w
    rw[hx,<-kf];exact ce
   |false=>
    rw[w]at h;exact cj _ (ih h)
  .dsimp only at h
   rw[if_neg c,fh]at h;cases w:x==n with
   |true=>
    rw[w]at h;have hx:x=n:=by simpa using w
    have kf:k=.free:=by
     rcases h with h |h
     .exact absurd (ck h) nk
     .exact ck h
    rw[hx,<-kf];exact ce
   |false=>
    rw[w]at h;exact cj _ (ih h)
noncomputable def dH(X:Cx)(sc:Scope)(N:List Str)(C:Addr)(FY:aa)(FZ:Hp)(ex:List Addr):Cx where
 prog:=X.prog
 w:=X.w
 K:=X.K
 mg:=X.mg
 base:=X.base
 A:=X.A
 N:=N
 FY:=FY
 FZ:=FZ
 env:=compEnvC sc (gI X.env sc.names []) C X.env
 outer:=X.stack
 stack:=X.stack
 ex:=ex
 fn:=λ_=>false
 calm:=X.calm
 pn:=[]
 xe:=λ_ _=>False
noncomputable def iS(own:List Str)(cap:List (Nat×Str))(σ:St):St:=own.map (λ_=>none)++cap.map λp=>(σ[p.1]?).join
noncomputable def bW(own:List Str)(cap:List (Nat×Str)):List Str:=own++cap.map (·.2)
noncomputable def uS(J:It)(g:TG)(te:TE)(GB:St)(H1:Hp)(D:Addr)(Q:VK):Prop:=
 ∃W:Nat->Nat->St->Hp->List V->Prop,(∃m,W 0 m GB (aS H1 D (.lst [])) [])/\∀i m σ H ys,W i m σ H ys->H D=some (.lst ys)/\
  ((J.stop i H/\Q (.ref D) H)\/(J.go i H/\ys.length<sizeLine/\∀x H2,J.yld i H x H2->g x σ H2 λσ3 H3=>te σ3 H3 λy H4=>H4 D=some (.lst ys)/\∃m',m'<m/\W (i+1) m' σ3 (aS H4 D (.lst (ys++[y]))) (ys++[y])))
noncomputable def uI(own:List Str)(cap:List (Nat×Str))(wi:TI)(g:TG)(te:TE):TE:=λσ H Q=>wi σ H λJ H1=>∀D,H1 D=none->uS J g te (iS own cap σ) H1 D Q
noncomputable def Nx(n:Nat)(Pv:Nat->St->Hp->List V->Prop)(D:Addr)(i:Nat)(ys:List V)(σ:St)(y:V)(H:Hp):Prop:=
 H D=some (.lst ys)/\∃m,m<n-i/\(m=n-(i+1)/\i+1<=n/\Pv (i+1) σ (aS H D (.lst (ys++[y]))) (ys++[y]))
theorem adY{D:Addr}{i:Nat}{ys:List V}{σ:St}{y:V}{H:Hp}(h:i<n)(hD:H D=some (.lst ys))(p:Pv (i+1) σ (aS H D (.lst (ys++[y]))) (ys++[y])):Nx n Pv D i ys σ y H:=
 ⟨hD,n-(i+1),by omega,rfl,h,p⟩
theorem aaD{g:TG}{te:TE}{GB:St}{H1:Hp}{D:Addr}{Q:VK}(n:Nat)(hn:n<=sizeLine)(Pv:Nat->St->Hp->List V->Prop)(h0:Pv 0 GB (aS H1 D (.lst [])) [])
  (hl:∀i σ H ys,Pv i σ H ys->ys.length=i/\H D=some (.lst ys))(hgo:∀i σ H ys,i<n->Pv i σ H ys->J.go i H)
  (hs:∀i σ H ys x H2,i<n->Pv i σ H ys->J.yld i H x H2->g x σ H2 λσ3 H3=>te σ3 H3 λy H4=>Nx n Pv D i ys σ3 y H4)
  (hd:∀σ H ys,Pv n σ H ys->J.stop n H/\Q (.ref D) H):uS J g te GB H1 D Q:=by
 refine⟨λi m σ H ys=>m=n-i/\i<=n/\Pv i σ H ys,⟨n,rfl,du _,h0⟩,?_⟩
 rintro i m σ H ys ⟨rfl,hi,p⟩
 obtain⟨l1,l2⟩:=hl i _ H _ p;refine⟨l2,?_⟩
 by_cases hlt:i<n
 .exact .inr ⟨hgo i _ H _ hlt p,by omega,λx H2 y=>hs i _ H _ x _ hlt p y⟩
 .grind
section
variable{prog:Program}{w:ar}{A:ax}{R:nj->aa->Prop}{s:aa}
theorem Uj{elt target iter:ai}{sc:Scope}{pos:ak}{it acc:Value}{env:ca}(I:Nat->aa->Prop)
  (turn:∀n s,I n s->wpAny (model prog w) A (pyNext it) (λr s1=>match r with
   |none=>R (.ok .next) s1
   |some v=>wpAny (model prog w) A (letOwnedTupleGo target it v) (λ_ s2=>wpAny (model prog w) A (assign target env v) (λ_ s3=>wpAny (model prog w) A (eval elt env)
     (λx s4=>wpAny (model prog w) A (call (.builtin "list.append") [acc,x]) (λ_ s5=>∃m,m<n/\I m s5) (λ_ _=>False) s4) (λ_ _=>False) s3) (λ_ _=>False) s2) (λ_ _=>False) s1) (λ_ _=>False) s)
  (n:Nat)(h:I n s):codeAny (model prog w) A (.compLoop (.ListComp elt [⟨target,iter,[],0⟩] sc pos) 0 it acc env) R s:=by
 refine codeAny_loop rfl I (λn s hI=>?_) n h;refine wpAny_noted ?_;rw[compTurn_list1];refine ae (ua (ae ?_));refine im (turn n s hI) (λr s1 h1=>?_) λ_ _ z=>z.elim;cases r with
 |none=>exact aj h1
 |some v=>
  refine ae (im h1 (λ_ s2 h2=>?_) λ_ _ z=>z.elim);refine ae (im h2 (λ_ s3 h3=>?_) λ_ _ z=>z.elim);refine ae (ae (im h3 (λx s4 h4=>?_) λ_ _ z=>z.elim));refine ae (im h4 (λ_ s5 h5=>?_) λ_ _ z=>z.elim);exact aj (aj ⟨rfl,h5⟩)
end
structure gY(X:Cx)(sc:Scope)(own:List Str)(cap:List (Nat×Str)):Prop where
 kind:sc.kind=.function
 names:∀y∈sc.names,y.2=.local->sc.names.lookup y.1=some .local
 nocell:∀y∈sc.names,y.2≠.cell
 free:∀y∈sc.names,y.2=.free->X.env.kindOf y.1=some .cell
 at':∀p∈cap,X.N[p.1]?=some p.2
 cap:∀p∈cap,sc.names.lookup p.2=some .free
section
variable{X:Cx}{sc:Scope}{own:List Str}{cap:List (Nat×Str)}{FX:List (Addr×Obj)}{σ:St}{H:Hp}{s:aa}
theorem gY.has(k:gY X sc own cap)(ok:X.Ok):∀p∈sc.names,p.2=.free->∃c,X.env.cells.lookup p.1=some c:=λp hp e=>ok.has _ (.inl (k.free p hp e))
theorem sS{env:ca}:∀{names:List (Str×ja)}{x:Str},env.scope.kind=.function->names.lookup x=some .free->env.kindOf x=some .cell->
  (names.map λ(n,k)=>if(k==jb&&env.scope.kind== .function&&env.kindOf n==some .cell)then(n,ir)else(n,k)).lookup x=some .cell
 |[],x,_,h,_=>by cases h
 |(n,k)::r,x,hk,h,hx=>by
  rw[cf];dsimp only;rw[fh]at h;cases w:x==n with
  |true=>
   rw[w]at h;have e:=by simpa using w
   have kf:=ck h;have c:(k==jb&&env.scope.kind== .function&&env.kindOf n==some .cell)=true:=by
    rw[kf,hk,<-e,hx];decide
   rw[if_pos c,fh,w]
  |false=>
   rw[w]at h;have ih:=@sS env r x hk h hx
   by_cases c:(k==jb&&env.scope.kind== .function&&env.kindOf n==some .cell)=true
   .rw[if_pos c,fh,w]
    exact ih
   .rw[if_neg c,fh,w]
    exact ih
theorem aG.cmp(k:gY X sc own cap){h4:Heap}{fp:List Addr}{m:Str->FO}{t':Nat}(I:aG X FX σ H s)(hf:∀b∈fp,eY X FX H b)(hlt:∀b∈fp,b<s.heap.objs.size)(hns:h4.Ns s.heap.objs.size m)
  (kp:∀b o,s.heap.get? b=some o->h4.get? b=some o):aG (dH X sc (bW own cap) s.heap.objs.size s H fp) [] (iS own cap σ) H {s with heap:=h4,toks:=t'}:=by
 have hcl:∀y c,(gI X.env sc.names []).lookup y=some c->X.env.cells.lookup y=some c:=λy c e=>by
  rcases vU sc.names [] (k.has I.ok) y c e with z |z
  .cases z
  .exact z
 have nst:∀b∈fp,b∉eG X.stack:=λb hb z=>by
  rcases cr.mp (I.stkSub b z)with e |e
  .exact(hf b hb).2.1 e
  .exact(hf b hb).2.2.1 e
 refine⟨⟨I.ok.mod,k.kind,I.ok.glob,I.ok.blt,aq _,λx y c h1 h2=>I.ok.inj x y c (hcl x c h1) (hcl y c h2),λx hx=>?_,λx c e=>(nomatch e),I.ok.hd,I.ok.frames,.inl rfl,λb hb=>⟨df (hlt b hb),λx c e=>(hf b hb).2.2.2.2.1 x c (hcl x c e)⟩,
  I.bs,gm I.ok.bsz I.sz,λb o e hb=>?_,nst,I.stack,I.stkFree⟩,rfl,I.bare,Un.kept kp,⟨m,hns,λi x v h1 h2 h3=>?_⟩,λx c e=>?_,I.hok.fresh (aq _),λx c e=>I.freeC x c (hcl x c e),λp hp=>absurd (show p∈([]:List (Addr×Obj)) from hp) (by simp),I.hok.kept kp,?_⟩
 .exact qV sc.names [] x (.inr (Oh k.nocell hx))
 .rcases(hf b hb).2.2.2.1 with z |z
  .exact I.ok.noex b o e z
  .exact absurd (fg (bh (I.ok.bs b o e).1) z) (jc _)
 .have hN:(bW own cap)[i]?=some x:=h1
  unfold bW at hN;unfold iS at h2
  by_cases hi:i<own.length
  .rw[ib (by simpa using hi),cq]at h2
   cases e:own[i]? with
   |none=>rw[e]at h2;cases h2
   |some z=>rw[e]at h2;cases h2
  .rw[fu (by simpa using hi),cq,aw]at h2
   rw[fu (by omega),cq]at hN;cases e:cap[i-own.length]? with
   |none=>rw[e]at h2;cases h2
   |some p=>
    rw[e]at h2 hN;have hp:p∈cap:=fy e;have hx:p.2=x:=ck hN;have hv:(σ[p.1]?).join=some v:=ck h2;have hv':σ[p.1]?=some (some v):=by
     cases e2:σ[p.1]? with
     |none=>rw[e2]at hv;cases hv
     |some z=>rw[e2]at hv;exact congrArg some hv
    have fr:=k.cap p hp;have kc:X.env.kindOf p.2=some .cell:=k.free (p.2,.free) (ko fr) rfl;obtain⟨m0,_,hl⟩:=I.loc;obtain⟨u,ru,lk⟩:=hl p.1 p.2 v (k.at' p hp) hv' (.inr (.inl kc));refine⟨u,ru,?_⟩;rcases lk with⟨k1,_⟩|⟨_,c,ec,cell⟩
    .rw[kc]at k1
     cases k1
    .rw[<-hx]
     obtain⟨c',ec'⟩:=qV (env:=X.env) sc.names [] p.2 (.inr (ko fr));have:=(hcl _ _ ec').symm.trans ec;cases this;obtain⟨o,ho,hd⟩:=cell;exact .inr ⟨.inl (sS I.ok.kind fr kc),c,ec',o,kp c o ho,hd⟩
 .obtain⟨v,o,ho,hd⟩:=I.cell x c (hcl x c e)
  exact⟨v,o,kp c o ho,hd⟩
 .unfold iS
  show _=(bW own cap).length;unfold bW;rw[cx,cx,aw,aw,aw]
theorem aG.uncmp{H3 H':Hp}{N:List Str}{σ':St}{C:Addr}{fp:List Addr}{pl:List (Addr×Obj)}(I:aG X FX σ H s)(hf:∀b∈fp,eY X FX H b)(u:Un (eG X.stack) fp H H3 s.heap s3.heap)(os:s3.os=s.os)
  (J:aG (dH X sc N C s3 H3 fp) pl σ' H' s'):aG X FX σ H' s':=by
 have os':=(show s'.os=s3.os from J.os).trans os;refine I.call'  os' (u.trans J.base) J.hok J.bare λb hb=>?_;obtain⟨_,f1,_,f3,f4,f5⟩:=hf b hb;exact⟨f3,f1,f4,f5⟩
end
section
variable{X:Cx}{sc:Scope}{own:List Str}{cap:List (Nat×Str)}{FX:List (Addr×Obj)}{σ:St}{H:Hp}{s:aa}{elt target iter:ai}{pos pos':ak}{wi:TI}{g:TG}{te:TE}{Q:VK}
theorem Qj{use:Option (Value->gq Unit)}{Qf:Value->aa->Prop}(k:gY X sc own cap)(hi:PI X target iter wi)(hc:X.calm=true)
  (hg:∀C FY FZ ex,PG (dH X sc (bW own cap) C FY FZ ex) target g)(he:∀C FY FZ ex,PE (dH X sc (bW own cap) C FY FZ ex) elt te)(I:aG X FX σ H s)(h:uI own cap wi g te σ H Q)
  (fin:∀D C s' H' m,aG X FX σ H' s'->eY X FX H' C->s'.heap.Ns C m->Q (.ref D) H'->compPost (model X.prog X.w) X.A X.xe use Qf (.ref D) C (.ok .next) s')
  (hs:∀x,foldedSetIterable iter X.env x=pure x):
  wpAny (model X.prog X.w) X.A (comprehension (.ListComp elt [⟨target,iter,[],0⟩] sc pos) sc X.env pos' (newList []) false (eval iter X.env) use) Qf X.xe s:=by
 refine g7 (use:=use) rfl hs (Lc (k.has I.ok)) k.kind k.names ?_;refine bC (hi FX s σ H _ I h) λv s1 h1=>bC h1 λitv s2 h2=>?_;obtain⟨it,fp,tn,J,H2,e,I2,T,st2,f2,hW⟩:=h2;subst e;refine io (BM k.nocell (λy hy=>nomatch hy) (λh4 hns hsb=>?_) k.kind);have I3:aG X FX σ (aS H2 s2.heap.objs.size (.lst [])) {s2 with heap:=s2.heap.push {cls:=.type "list",data:=.seq ([]:FN).toArray},toks:=s2.toks}:=I2.lnew (ys:=[]) (its:=[]) .nil (du _);have hD:H2 s2.heap.objs.size=none:=I2.fresh;have ltf:∀b∈fp,b<s2.heap.objs.size:=λb hb=>by
  obtain⟨o,ho,_⟩:=T.obj _ _ st2 b hb;exact bh ho
 have f3:∀b∈fp,eY X FX (aS H2 s2.heap.objs.size (.lst [])) b:=λb hb=>⟨by rw[bO (df (ltf b hb))];exact(f2 b hb).1,(f2 b hb).2⟩;have un:Un (eG X.stack) fp H2 (aS H2 s2.heap.objs.size (.lst [])) s2.heap (s2.heap.push {cls:=.type "list",data:=.seq ([]:FN).toArray}):=Un.laid (λb u q=>av _ q) (aq _) hD;have kp:∀b o,(s2.heap.push {cls:=.type "list",data:=.seq ([]:FN).toArray}).get? b=some o->h4.get? b=some o:=λb o q=>hsb.extBut b o (df (bh q)) (av _ q);have J0:=I3.cmp (t':=s2.toks+([]:List (Str×Value)).length) k f3 (λb hb=>fg (ltf b hb) (by rw[iz];exact qj _)) hns kp;have stat:∀{H':Hp},(∀b∈fp,H' b=none)->∀b∈fp,eY _ [] H' b:=λhn b hb=>
  ⟨hn b hb,(J0.ok.exf b hb).1,J0.ok.exfs b hb,.inl hb,(J0.ok.exf b hb).2,λp hp=>absurd (show p∈([]:List (Addr×Obj)) from hp) (by simp)⟩
 have st4:tn 0 h4:=T.keep _ _ _ st2 λb hb o q=>kp b o (av _ q);have fr0:∀b∈fp,(aS H2 s2.heap.objs.size (.lst [])) b=none:=λb hb=>(f3 b hb).1;have loop:codeAny (model X.prog X.w) X.A (.compLoop (.ListComp elt [⟨target,iter,[],0⟩] sc pos) 0 (.ref it) (.ref s2.heap.objs.size) (compEnvC sc (gI X.env sc.names []) (s2.heap.push {cls:=.type "list",data:=.seq ([]:FN).toArray}).objs.size X.env))
   (compPost (model X.prog X.w) X.A X.xe use Qf (.ref s2.heap.objs.size) (s2.heap.push {cls:=.type "list",data:=.seq ([]:FN).toArray}).objs.size) {s2 with heap:=h4,toks:=s2.toks+([]:List (Str×Value)).length}:=by
  obtain⟨W,⟨m0,w0⟩,turn⟩:=hW s2.heap.objs.size hD;refine Uj (λn s'=>∃i σ' H' ys,aG (dH X sc (bW own cap) (s2.heap.push {cls:=.type "list",data:=.seq ([]:FN).toArray}).objs.size {s2 with heap:=s2.heap.push {cls:=.type "list",data:=.seq ([]:FN).toArray},toks:=s2.toks} (aS H2 s2.heap.objs.size (.lst [])) fp) [] σ' H' s'/\tn i s'.heap/\(∀b∈fp,H' b=none)/\W i n σ' H' ys) ?_ m0
   ⟨0,_,_,[],J0,st4,fr0,w0⟩
  rintro n s5 ⟨i,σ5,H5,ys,I5,st5,fr5,w5⟩
  obtain⟨hD5,w5⟩:=turn i n σ5 H5 ys w5;rcases w5 with⟨stop,qn⟩|⟨go,hlt,step⟩
  .refine bC (T.done (dH X sc (bW own cap) (s2.heap.push {cls:=.type "list",data:=.seq ([]:FN).toArray}).objs.size {s2 with heap:=s2.heap.push {cls:=.type "list",data:=.seq ([]:FN).toArray},toks:=s2.toks} (aS H2 s2.heap.objs.size (.lst [])) fp) rfl rfl rfl hc i [] s5 σ5 H5 _ I5 (stat fr5) st5 stop) ?_
   rintro r s6 ⟨hr,I6⟩
   subst hr;obtain⟨m,hn,_⟩:=id I6.loc;exact fin _ _ s6 H5 m (I2.uncmp (s3:={s2 with heap:=s2.heap.push {cls:=.type "list",data:=.seq ([]:FN).toArray},toks:=s2.toks}) f2 un rfl I6) (I3.fpOk (aq _) I6.free) hn qn
  .refine bC (T.item (dH X sc (bW own cap) (s2.heap.push {cls:=.type "list",data:=.seq ([]:FN).toArray}).objs.size {s2 with heap:=s2.heap.push {cls:=.type "list",data:=.seq ([]:FN).toArray},toks:=s2.toks} (aS H2 s2.heap.objs.size (.lst [])) fp) rfl rfl rfl hc i [] s5 σ5 H5 _ I5 (stat fr5) st5 go) ?_
   rintro r s6 ⟨u,hr,h6⟩
   subst hr;refine bC h6 ?_
   rintro _ s7 ⟨x,H7,I7,r7,y7,st7,fr7⟩
   have I7':=I7.pinned (stat fr7) (T.obj _ _ st7);refine bC (hg _ _ _ _ _ s7 σ5 H7 x u _ I7' r7 (step x H7 y7)) ?_
   rintro _ s8 ⟨σ8,H8,I8,q8⟩
   refine bC (he _ _ _ _ _ s8 σ8 H8 _ I8 q8) ?_
   rintro v9 s9 ⟨y,H9,I9,r9,hD9,m',hm,w9⟩
   refine bC (sX _ s9 σ8 H9 (.ref s2.heap.objs.size) [y] (.ref s2.heap.objs.size) [v9] (λ_ H'=>H'=aS H9 s2.heap.objs.size (.lst (ys++[y]))) I9 rfl (.cons r9 .nil) ⟨_,ys,y,rfl,rfl,hD9,hlt,rfl⟩) ?_
   rintro _ s10 ⟨_,H10,I10,_,q10⟩
   subst q10;refine⟨m',hm,i+1,σ8,_,_,I10.unpinned,T.keep _ _ _ st7 λb hb o q=>(I10.pin (b,o) (dz _ (dz _ (lY hb q)))).1,λb hb=>?_,w9⟩;obtain⟨o,q,d⟩:=T.obj _ _ st7 b hb;exact(I10.pin (b,o) (dz _ (dz _ (lY hb q)))).2.1
 exact g8 loop (T.self _ 0 _ _ _ st4 loop)
theorem aaZ(k:gY X sc own cap)(hi:PI X target iter wi)(hc:X.calm=true)
  (hg:∀C FY FZ ex,PG (dH X sc (bW own cap) C FY FZ ex) target g)(he:∀C FY FZ ex,PE (dH X sc (bW own cap) C FY FZ ex) elt te)
  (hs:∀x,foldedSetIterable iter X.env x=pure x:=by intro _;rfl):PE X (.ListComp elt [⟨target,iter,[],0⟩] sc pos) (uI own cap wi g te):=by
 intro FX s σ H Q I h;refine Qj  k hi hc hg he I h (λD C s' H' m I' fC hn q=>?_) hs;refine⟨m,hn,λh' sb=>⟨.ref D,H',?_,rfl,q⟩⟩;obtain⟨f0,f1,f2,f3,f4,f5⟩:=fC;exact I'.turned  (λb o hb e=>(sb.2 b hb).trans e) f0 f1 f3 f4 f5
theorem Fo{py spos:ak}(hN:X.N.Nodup)(hx:X.N[i]?=some x)(hl:kX X.env.scope x)(k:gY X sc own cap)(hi:PI X target iter wi)(hc:X.calm=true)
  (hg:∀C FY FZ ex,PG (dH X sc (bW own cap) C FY FZ ex) target g)(he:∀C FY FZ ex,PE (dH X sc (bW own cap) C FY FZ ex) elt te)
  (hs:∀x,foldedSetIterable iter X.env x=pure x:=by intro _;rfl)(hsw:swapsWith (.ListComp elt [⟨target,iter,[],0⟩] sc pos) (some (.Name x py)) spos.line X.env=pure true:=by rfl)
  (hf:X.fn x=true\/X.env.scope.names.lookup x=some .local:=by first |exact .inl rfl |exact .inr rfl |assumption):
  PS X (.Assign [.Name x py] (.ListComp elt [⟨target,iter,[],0⟩] sc pos) spos) (Ef (uI own cap wi g te) (Je i)):=by
 intro FX s σ H D I h;rw[exec_Assign_Name_used _ _ _ _ hsw];refine ae (ua (ae ?_));refine ae (bC (Qj   k hi hc hg he I h (λB C s' H' m I' fC hn q=>?_) hs) λ_ s' hq=>aj (aj hq))
 obtain⟨o,es,ep,ho,hd,r⟩:=hn;obtain⟨f0,f1,f2,f3,f4,f5⟩:=fC;have I'':aG X (FX++[(C,o)]) σ H' s':=I'.pins_of λp hp=>(dk.mp hp).elim (λz=>I'.pin p (dz _ z)) λz=>by
  have e:=by simpa using z
  subst e;exact⟨ho,f0,f1,f2,λv z=>by rw[hd]at z;cases z⟩
 refine wpAny_assign_Name (rA I'' hN hx hl (v:=.ref B) rfl (λs2 I2=>?_) hf);have pC:=I2.pin (C,o) (by simp);refine⟨m,⟨o,es,ep,pC.1,hd,r⟩,λh' sb=>⟨_,H',?_,q⟩⟩;exact(I2.unpinned).turned  (λb o hb e=>(sb.2 b hb).trans e) f0 f1 f3 f4 f5
end
section
variable{X:Cx}
theorem D8(hc:X.calm=true):jC X (.builtin "all") (λxs H Q=>∃(a:Addr)(bs:List Bool),xs=[.ref a]/\bS X.K H a (bs.map V.bl)/\Q (.bl (bs.all id)) H):=by
 intro FX s σ H xs us Q I r h;obtain⟨a,bs,rfl,hq,q⟩:=h;obtain⟨u,rfl,ru⟩:=jY r;cases ru;obtain⟨its,rv,pl,hz⟩:=I.list hq;have hl:bs.length=its.length:=by
  have:=rv.length
  rwa[aw]at this
 refine call_all_walk (uk pl.isList ?_);have ha:a<s.heap.objs.size:=by
  obtain⟨o,ho,_⟩:=pl.isList;exact bh ho
 refine⟨_,_,_,_,_,_,λi=>bs.getD i true,rfl,xj  (w:=X.w)  (show X.A.in1.handled=none from I.ok.hd hc) _ a (df ha) its.toArray,⟨⟨_,cy _ rfl,rfl,rfl⟩,Heap.IsList.at pl.isList λo e=>av _ e⟩,λi v s' Q' E' hv hQ=>?_,λh' tk kp=>?_⟩
 .have hv':=by simpa using hv
  have hi:i<bs.length:=by
   grind
  obtain⟨u,hu,ru⟩:=rv.get (i:=i)  (by rw[cq,bf hi];rfl);rw[hv']at hu;cases hu;cases(show v=rf bs[i] from ru);have e:bs.getD i true=bs[i]:=by simp[cg,hi]
  have hQ':Q' (bs.getD i true) s':=hQ;rw[e]at hQ';exact ni hQ'
 .have e:(ci its.toArray.size).all (λi=>bs.getD i true)=bs.all id:=by
   rw[ay,<-hl,i4,ie,ie];constructor
   .intro z b hb
    obtain⟨i,hi,rfl⟩:=xk.mp hb;have:=z i (by simpa using hi);simpa[cg,hi]using this
   .intro z i hi
    have hi':=by simpa using hi
    have:=z bs[i] (jm hi');simpa[cg,hi']using this
  rw[e];have I1:aG X FX σ H {s with heap:=s.heap.push {cls:=.type "list_iterator",data:=.fields #[.ref a,.int 0 0]},toks:=s.toks}:=I.kept λb o z=>av _ z;have fp:=I.fpOk (aq _) (I.hok.fresh (aq _));obtain⟨f0,f1,f2,f3,f4,f5⟩:=fp;exact⟨.bl (bs.all id),H,I1.turned (λb o hb z=>kp b o (by simpa using hb) z) f0 f1 f3 f4 f5,rfl,q⟩
end
section
variable{prog:Program}{w:ar}{A:ax}{E:Value->aa->Prop}{s:aa}
theorem Px{items:Array Value}{x:Value}{Q:Value->aa->Prop}(git:s.heap.IsTupleIter it t i)(gt:s.heap.IsTuple t items)(gx:items[i]?=some x)
  (gQ:∀h',h'.IsTupleIter it t (i+1)->il it s.heap h'->Q x {s with heap:=h'}):wpAny (model prog w) A (oa (.ref it)) Q E s:=by
 obtain⟨o,go,gc,gd⟩:=id git;obtain⟨ol,gol,_,nl,gdl⟩:=gt;refine ae (lc  git.typeIs xl (jk xl git.typeIs BN ?_ (BO _)));show wpAny _ _ (field _ 0 >>= _) _ _ s;refine ae (jh go gd (x:=.ref t) rfl ?_);refine ae (jh go gd (x:=.int i 0) rfl ?_);refine ae (kd gol gdl ?_);simp only[qm,gx];refine ae (og go gd (by simp) (aj ⟨_,rfl,aj (gQ _ ?_ (kj ..))⟩));refine⟨_,lg _ go (BP (xm gd _)),(BQ ..).trans gc,?_⟩;rw[xm gd];simp[rawInt]
theorem Zv{it t:Addr}{i:Nat}{items:Array Value}{Q:Value->aa->Prop}(hh:A.handled=none)(git:s.heap.IsTupleIter it t i)(gt:s.heap.IsTuple t items)(gx:items[i]?=none)
  (gE:∀h' e,si it s.heap h'->(∃o,h'.get? e=some o/\o.cls=.type "StopIteration")->E (.ref e) {s with heap:=h'}):wpAny (model prog w) A (oa (.ref it)) Q E s:=by
 obtain⟨o,go,gc,gd⟩:=id git;obtain⟨ol,gol,_,nl,gdl⟩:=gt;unfold oa;refine ae (lc (name:=dj "__next__") git.typeIs xl (jk xl git.typeIs BN ?_ (BO _)));show wpAny _ _ (field (.ref it) 0 >>= _) _ _ s;refine ae (jh go gd (x:=.ref t) rfl ?_);show wpAny _ _ (if(cw t==br)=true then _ else _) _ _ s;rw[if_neg (show ¬((cw t==br)=true) from jf)];show wpAny _ _ (field (.ref it) 1 >>= _) _ _ s;refine ae (jh go gd (x:=.int i 0) rfl ?_);show wpAny _ _ (seqItems? (.ref t) >>= _) _ _ s;refine ae (kd gol gdl ?_);simp only[qm,gx]
 first
  |refine ae (ka (ae (og go gd (by simp) (ae (oh ?_)))))
  |refine ae (ka (ae (og go gd (by simp) ?_)))
 refine ae ?_;simp only[newExc,newTuple];refine ae (io ?_ (by size_fits));refine ae (m:=firstArgMember _ _) (qp (a:=br) (by first |rfl |(simp only[firstArgMember];rfl)) ?_)
 refine io ?_ (by size_fits);simp only[raiseNew];refine ae (i5 ?_)
 first
  |rw[show A.in1.handled=none from hh]
  |rw[hh]
 refine ae (aj (i6 ?_));exact gE _ _ (((kj ..).extBut.push _).push _) ⟨_,cy _ rfl,rfl⟩
end
theorem N9(hh:A.handled=none)(it t:Addr)(hne:t≠it)(items:Array Value):
  ku prog w A it [it,t] items.size (λi v=>items[i]?=some v) (λi h=>h.IsTupleIter it t i/\h.IsTuple t items) where
 live:=λ_ _ st=>let⟨o,ho,_⟩:=st.1;⟨o,ho⟩
 frame:=λ_ _ _ st hk=>⟨let⟨o,ho,r⟩:=st.1;⟨o,hk _ (by simp) o ho,r⟩,let⟨o,ho,r⟩:=st.2;⟨o,hk t (by simp) o ho,r⟩⟩
 item:=λi s Q E hi st hQ=>by
  refine Px st.1 st.2 (x:=items[i]) (by simp[hi]) λh' hit' hs'=>?_;exact hQ _ _ _ (by simp[hi]) ⟨hit',st.2.extBut hs'.extBut hne⟩ hs'
 done:=λs Q E st hE=>Zv hh st.1 st.2 (by simp) hE
structure vC(z TI TO i1 i2:Addr)(fp1 fp2:List Addr):Prop where
 tiz:TI≠z
 toz:TO≠z
 tito:TI≠TO
 ti1:TI≠i1
 ti2:TI≠i2
 z1:z∉fp1
 z2:z∉fp2
 to1:TO∉fp1
 to2:TO∉fp2
 i12:i1∉fp2
 i21:i2∉fp1
 m1:i1∈fp1
 m2:i2∈fp2
section
variable{prog:Program}{w:ar}{A:ax}{E:Value->aa->Prop}{s:aa}{z TI TO i1 i2:Addr}{fp1 fp2:List Addr}{n1 n2 i:Nat}{P1 P2:Nat->Value->Prop}{S1 S2:Nat->Heap->Prop}{a b:Value}
theorem Cz{Q:Value->aa->Prop}(D1:ku prog w A i1 fp1 n1 P1 S1)(D2:ku prog w A i2 fp2 n2 P2 S2)(ap:vC z TI TO i1 i2 fp1 fp2)(gz:je s.heap z TI TO .none)(gTI:gh s.heap TI (.ref i1) (.ref i2))(gTO:gh s.heap TO a b)
  (g1:S1 i s.heap)(g2:S2 i s.heap)(l1:i<n1)(l2:i<n2)
  (gQ:∀h' tk x y,P1 i x->P2 i y->je h' z TI TO (rawInt s.heap.objs.size)->gh h' TO x y->S1 (i+1) h'->S2 (i+1) h'->gh h' s.heap.objs.size x y->
   (∀c o,c≠z->c≠TO->c≠i1->c≠i2->s.heap.get? c=some o->h'.get? c=some o)->Q (.ref s.heap.objs.size) {s with heap:=h',toks:=tk}):
  wpAny (model prog w) A (Builtin.«zip.__next__» ⟨[.ref z],[]⟩) (λfin s'=>∃v,fin=.done (.ret v)/\Q v s') E s:=by
 have nz1:i1≠z:=λq=>ap.z1 (q▸ap.m1);have nz2:i2≠z:=λq=>ap.z2 (q▸ap.m2);have nt1:TO≠i1:=λq=>ap.to1 (q▸ap.m1);have nt2:TO≠i2:=λq=>ap.to2 (q▸ap.m2);show wpAny _ _ (field (.ref z) 2 >>= _) _ _ _;refine ae (jh gz rfl (x:=.bool false) rfl ?_);show wpAny _ _ (field (.ref z) 3 >>= _) _ _ _;refine ae (jh gz rfl (x:=.ref TI) rfl ?_);refine ae (kd gTI rfl ?_);show wpAny _ _ (xn (.ref z) >>= _) _ _ _;refine ae ?_;unfold xn;refine ae (jh gz rfl (x:=.none) rfl (aj ?_));simp only[if_true];refine ae (ka ?_);refine ae (jh gz rfl (x:=.ref TO) rfl ?_);refine ae (sj gz (by simp) λh1 gz1 s1=>?_)
 replace gz1:je h1 z TI TO .ellipsis:=gz1
 refine ae ?_;simp only[BR,BS,xi,i7];refine ae (ae (xo ?_));show wpAny _ _ (oa (.ref i1) >>= _) _ _ _;refine ae (D1.item i _ _ _ l1 (D1.frame _ _ _ g1 λc hc o q=>s1.extBut c o (λe=>ap.z1 (e▸hc)) q) λx h2 tk2 px g1' s2=>aj ?_);have gTO2:gh h2 TO a b:=s2.extBut _ _ nt1 (s1.extBut _ _ ap.toz gTO);refine ae (kd gTO2 rfl ?_);refine ae (i8 (s:={s with heap:=h2,toks:=tk2}) gTO2 λh3 gTO3 s3=>?_)
 replace gTO3:gh h3 TO x b:=gTO3
 replace s3:il TO h2 h3:=s3
 refine ae (oh (aj ?_));refine ae (ae (xo ?_));show wpAny _ _ (oa (.ref i2) >>= _) _ _ _;have g2':S2 i h3:=D2.frame _ _ _ g2 λc hc o q=>s3.extBut c o (λe=>ap.to2 (e▸hc)) (s2.extBut c o (λe=>ap.i12 (e▸hc)) (s1.extBut c o (λe=>ap.z2 (e▸hc)) q));refine ae (D2.item i _ _ _ l2 g2' λy h4 tk4 py g2'' s4=>aj ?_)
 replace s4:il i2 h3 h4:=s4
 have gTO4:gh h4 TO x b:=s4.extBut _ _ nt2 gTO3;refine ae (kd gTO4 rfl ?_);refine ae (i8 (s:={s with heap:=h4,toks:=tk4}) gTO4 λh5 gTO5 s5=>?_)
 replace gTO5:gh h5 TO x y:=gTO5
 replace s5:il TO h4 h5:=s5
 refine ae (oh (aj (aj ?_)));refine ae (kd gTO5 rfl ?_);refine ae (i9 ?_);have hsz:h5.objs.size=s.heap.objs.size:=by rw[s5.1,s4.1,s3.1,s2.1,s1.1]
 have gz5:je h5 z TI TO .ellipsis:=s5.extBut _ _ ap.toz.symm (s4.extBut _ _ nz2.symm (s3.extBut _ _ ap.toz.symm (s2.extBut _ _ nz1.symm gz1)));have k5:∀c o,c≠z->c≠TO->c≠i1->c≠i2->s.heap.get? c=some o->h5.get? c=some o:=λc o c1 c2 c3 c4 q=>s5.extBut _ _ c2 (s4.extBut _ _ c4 (s3.extBut _ _ c2 (s2.extBut _ _ c3 (s1.extBut _ _ c1 q))));have g15:S1 (i+1) h5:=D1.frame _ _ _ g1' λc hc o q=>s5.extBut c o (λe=>ap.to1 (e▸hc)) (s4.extBut c o (λe=>ap.i21 (e▸hc)) (s3.extBut c o (λe=>ap.to1 (e▸hc)) q));have g25:S2 (i+1) h5:=D2.frame _ _ _ g2'' λc hc o q=>s5.extBut c o (λe=>ap.to2 (e▸hc)) q;have zlt:z<h5.objs.size:=bh gz5;show wpAny _ _ (BU (.ref z) (.ref h5.objs.size) >>= _) _ _ _;refine ae ?_;unfold BU;have gz6:je (h5.push {cls:=.type "tuple",data:=.seq #[x,y]}) z TI TO .ellipsis:=av _ gz5;refine ae (sj gz6 (by simp) λh7 gz7 s7=>?_)
 replace gz7:je h7 z TI TO (rawInt h5.objs.size):=gz7
 refine sj gz7 (by simp) λh8 gz8 s8=>?_
 replace gz8:je h8 z TI TO (rawInt h5.objs.size):=gz8
 have up:∀c o,c≠z->h5.get? c=some o->h8.get? c=some o:=λc o c1 q=>s8.extBut _ _ c1 (s7.extBut _ _ c1 (av _ q));have gT8:gh h8 h5.objs.size x y:=s8.extBut _ _ (ky zlt) (s7.extBut _ _ (ky zlt) (cy _ rfl));rw[hsz]at gz8 gT8;refine aj ⟨_,rfl,?_⟩;show Q (.ref h5.objs.size) _;rw[hsz];exact gQ h8 _ x y px py gz8 (up _ _ ap.toz gTO5) (D1.frame _ _ _ g15 λc hc o q=>up c o (λe=>ap.z1 (e▸hc)) q) (D2.frame _ _ _ g25 λc hc o q=>up c o (λe=>ap.z2 (e▸hc)) q) gT8 λc o c1 c2 c3 c4 q=>up c o c1 (k5 c o c1 c2 c3 c4 q)
theorem A7{Q:Fin->aa->Prop}(D1:ku prog w A i1 fp1 n1 P1 S1)(D2:ku prog w A i2 fp2 n2 P2 S2)(ap:vC z TI TO i1 i2 fp1 fp2)(gz:je s.heap z TI TO .none)(gTI:gh s.heap TI (.ref i1) (.ref i2))(gTO:gh s.heap TO a b)
  (g1:S1 i s.heap)(g2:S2 i s.heap)(fin:i=n1\/(i<n1/\i=n2))
  (gE:∀h' tk e,(∀c o,c≠z->c≠TO->c≠i1->c≠i2->s.heap.get? c=some o->h'.get? c=some o)->(∃o,h'.get? e=some o/\o.cls=.type "StopIteration")->E (.ref e) {s with heap:=h',toks:=tk}):
  wpAny (model prog w) A (Builtin.«zip.__next__» ⟨[.ref z],[]⟩) Q E s:=by
 have nz1:i1≠z:=λq=>ap.z1 (q▸ap.m1);have nz2:i2≠z:=λq=>ap.z2 (q▸ap.m2);have nt1:TO≠i1:=λq=>ap.to1 (q▸ap.m1);have nt2:TO≠i2:=λq=>ap.to2 (q▸ap.m2);show wpAny _ _ (field (.ref z) 2 >>= _) _ _ _;refine ae (jh gz rfl (x:=.bool false) rfl ?_);show wpAny _ _ (field (.ref z) 3 >>= _) _ _ _;refine ae (jh gz rfl (x:=.ref TI) rfl ?_);refine ae (kd gTI rfl ?_);show wpAny _ _ (xn (.ref z) >>= _) _ _ _;refine ae ?_;unfold xn;refine ae (jh gz rfl (x:=.none) rfl (aj ?_));simp only[if_true];refine ae (ka ?_);refine ae (jh gz rfl (x:=.ref TO) rfl ?_);refine ae (sj gz (by simp) λh1 gz1 s1=>?_)
 replace gz1:je h1 z TI TO .ellipsis:=gz1
 refine ae ?_;simp only[BR,BS,xi,i7];refine ae (ae (xo ?_));show wpAny _ _ (oa (.ref i1) >>= _) _ _ _;have g1':S1 i h1:=D1.frame _ _ _ g1 λc hc o q=>s1.extBut c o (λe=>ap.z1 (e▸hc)) q;rcases fin with e1 |⟨l1,e2⟩
 .subst e1
  refine ae (D1.done _ _ _ g1' λh2 e s2 he=>?_);obtain⟨oe,hoe,hce⟩:=he;have gz2:je h2 z TI TO .ellipsis:=s2 _ _ nz1.symm gz1;have hez:e≠z:=λq=>by
   subst q;rw[gz2]at hoe;cases hoe;simp at hce
  refine sj (s:={s with heap:=h2}) gz2 (by simp) λh3 _ s3=>?_;exact gE h3 _ e (λc o c1 _ c3 _ q=>s3.extBut _ _ c1 (s2 _ _ c3 (s1.extBut _ _ c1 q))) ⟨oe,s3.extBut _ _ hez hoe,hce⟩
 .subst e2
  refine ae (D1.item i _ _ _ l1 g1' λx h2 tk2 px g1'' s2=>aj ?_);have gTO2:gh h2 TO a b:=s2.extBut _ _ nt1 (s1.extBut _ _ ap.toz gTO);refine ae (kd gTO2 rfl ?_);refine ae (i8 (s:={s with heap:=h2,toks:=tk2}) gTO2 λh3 gTO3 s3=>?_)
  replace s3:il TO h2 h3:=s3
  refine ae (oh (aj ?_));refine ae (ae (xo ?_));show wpAny _ _ (oa (.ref i2) >>= _) _ _ _;have g2':S2 i h3:=D2.frame _ _ _ g2 λc hc o q=>s3.extBut c o (λe=>ap.to2 (e▸hc)) (s2.extBut c o (λe=>ap.i12 (e▸hc)) (s1.extBut c o (λe=>ap.z2 (e▸hc)) q));refine ae (D2.done _ _ _ g2' λh4 e s4 he=>?_)
  replace s4:si i2 h3 h4:=s4
  obtain⟨oe,hoe,hce⟩:=he;have gz4:je h4 z TI TO .ellipsis:=s4 _ _ nz2.symm (s3.extBut _ _ ap.toz.symm (s2.extBut _ _ nz1.symm gz1));have hez:e≠z:=λq=>by
   subst q;rw[gz4]at hoe;cases hoe;simp at hce
  refine sj (s:={s with heap:=h4,toks:=tk2}) gz4 (by simp) λh5 _ s5=>?_;exact gE h5 _ e (λc o c1 c2 c3 c4 q=>s5.extBut _ _ c1 (s4 _ _ c4 (s3.extBut _ _ c2 (s2.extBut _ _ c3 (s1.extBut _ _ c1 q))))) ⟨oe,s5.extBut _ _ hez hoe,hce⟩
theorem Yw{Q:FO->aa->Prop}(D1:ku prog w A.in1 i1 fp1 n1 P1 S1)(D2:ku prog w A.in1 i2 fp2 n2 P2 S2)(ap:vC z TI TO i1 i2 fp1 fp2)(gz:je s.heap z TI TO .none)(gTI:gh s.heap TI (.ref i1) (.ref i2))(gTO:gh s.heap TO a b)
  (g1:S1 i s.heap)(g2:S2 i s.heap)(l1:i<n1)(l2:i<n2)
  (gQ:∀h' tk x y,P1 i x->P2 i y->je h' z TI TO (rawInt s.heap.objs.size)->gh h' TO x y->S1 (i+1) h'->S2 (i+1) h'->gh h' s.heap.objs.size x y->
   (∀c o,c≠z->c≠TO->c≠i1->c≠i2->s.heap.get? c=some o->h'.get? c=some o)->Q (some (.ref s.heap.objs.size)) {s with heap:=h',toks:=tk}):
  wpAny (model prog w) A (pyNext (.ref z)) Q E s:=by
 have gT:s.TypeIs (.ref z) _:=⟨_,gz,rfl⟩;refine ae (sk (lc  gT xp (jk xp gT BV ?_ (BW _))));exact Cz D1 D2 ap gz gTI gTO g1 g2 l1 l2 λh' tk x y p1 p2 e1 e2 e3 e4 e5 e6=>aj (gQ _ _ x y p1 p2 e1 e2 e3 e4 e5 e6)
theorem Vv{Q:FO->aa->Prop}(D1:ku prog w A.in1 i1 fp1 n1 P1 S1)(D2:ku prog w A.in1 i2 fp2 n2 P2 S2)(ap:vC z TI TO i1 i2 fp1 fp2)(gz:je s.heap z TI TO .none)(gTI:gh s.heap TI (.ref i1) (.ref i2))(gTO:gh s.heap TO a b)
  (g1:S1 i s.heap)(g2:S2 i s.heap)(fin:i=n1\/(i<n1/\i=n2))
  (gQ:∀h' tk,(∀c o,c≠z->c≠TO->c≠i1->c≠i2->s.heap.get? c=some o->h'.get? c=some o)->Q none {s with heap:=h',toks:=tk}):wpAny (model prog w) A (pyNext (.ref z)) Q E s:=by
 have gT:s.TypeIs (.ref z) _:=⟨_,gz,rfl⟩;refine ae (sk (lc  gT xp (jk xp gT BV ?_ (BW _))));refine A7 D1 D2 ap gz gTI gTO g1 g2 fin λh' tk e hk he=>?_;obtain⟨o,ho,hc⟩:=he;refine ae (ul   ⟨o,ho,hc⟩ j4 ?_);exact aj (gQ _ _ hk)
end
noncomputable abbrev yP(h:Heap)(o1:Obj):Heap:=h.push o1
noncomputable abbrev yJ(h:Heap)(o1 o2:Obj):Heap:=(yP h o1).push o2
noncomputable abbrev yQ(h:Heap)(o1 o2:Obj):Heap:=(yJ h o1 o2).push {cls:=.type "tuple",data:=.seq #[.ref h.objs.size,.ref (yP h o1).objs.size]}
noncomputable abbrev yF(h:Heap)(o1 o2:Obj):Heap:=(yQ h o1 o2).push {cls:=.type "tuple",data:=.seq #[.none,.none]}
noncomputable abbrev sD(h:Heap)(o1 o2:Obj):Heap:=(yF h o1 o2).push {cls:=.type "zip",data:=.fields #[.none,.bool false,.bool false,.ref (yJ h o1 o2).objs.size,.ref (yQ h o1 o2).objs.size]}
noncomputable def uL(l:Addr)(o:Obj)(G:Heap->Prop):Prop:=
 ∀(prog:Program)(w:ar)(A:ax)(E:Value->aa->Prop)(s:aa)(Q:Value->aa->Prop),G s.heap->Q (.ref s.heap.objs.size) {s with heap:=s.heap.push o}->wpAny (model prog w) A (pyIter (.ref l)) Q E s
theorem Iz(l1 l2:Addr)(o1 o2:Obj)(G1 G2:Heap->Prop)(p1:uL l1 o1 G1)(p2:uL l2 o2 G2)(k2:∀h,G2 h->G2 (h.push o1)):
  Meets (Builtin.«zip.__new__» ⟨[.type "zip",.ref l1,.ref l2],[]⟩) (λ_ R s=>G1 s.heap/\G2 s.heap/\R (.ok (.ret (.ref (yF s.heap o1 o2).objs.size))) {s with heap:=sD s.heap o1 o2}):=
 .of_wp λprog w A R s h=>by
  obtain⟨hp,g,d,tk,os⟩:=s;obtain⟨g1,g2,h⟩:=h;have hsub:=sub_zip;have q1:=λ(A':ax) (E':Value->aa->Prop) (Q':Value->aa->Prop)=>p1 prog w A' E' ⟨hp,g,d,tk,os⟩ Q' g1;have q2:=λ(A':ax) (E':Value->aa->Prop) (Q':Value->aa->Prop)=>p2 prog w A' E' ⟨hp.push o1,g,d,tk,os⟩ Q' (k2 _ g2)
  wp_walk using q1 _ _ _,q2 _ _ _
  exact⟨_,rfl,h⟩
theorem Sw{prog:Program}{w:ar}{A:ax}{E:Value->aa->Prop}{s:aa}{l1 l2:Addr}{o1 o2:Obj}{G1 G2:Heap->Prop}{Q:Value->aa->Prop}(p1:uL l1 o1 G1)(p2:uL l2 o2 G2)(k2:∀h,G2 h->G2 (h.push o1))(g1:G1 s.heap)(g2:G2 s.heap)
  (f1:o1.isFreed=false)(f2:o2.isFreed=false)
  (h:∀h',je h' (s.heap.objs.size+4) (s.heap.objs.size+2) (s.heap.objs.size+3) .none->gh h' (s.heap.objs.size+2) (.ref s.heap.objs.size) (.ref (s.heap.objs.size+1))->gh h' (s.heap.objs.size+3) .none .none->
   h'.get? s.heap.objs.size=some o1->h'.get? (s.heap.objs.size+1)=some o2->(∀c o,s.heap.get? c=some o->h'.get? c=some o)->Q (.ref (s.heap.objs.size+4)) {s with heap:=h'}):
  wpAny (model prog w) A (call (.type "zip") [.ref l1,.ref l2]) Q E s:=by
 refine callType_new F.called_zip (by decide) (F.typeCall_zip_2 _ _) (F.newCall_zip_2 _ _) (λobj=>F.args_object_init_3 obj _ _) F.entry_zip_new (Iz l1 l2 o1 o2 G1 G2 p1 p2 k2) ⟨g1,g2,?_⟩;have e1:(yP s.heap o1).objs.size=s.heap.objs.size+1:=iz ..;have e2:(yJ s.heap o1 o2).objs.size=s.heap.objs.size+2:=by rw[iz,e1]
 have e3:(yQ s.heap o1 o2).objs.size=s.heap.objs.size+3:=by rw[iz,e2]
 have e4:(yF s.heap o1 o2).objs.size=s.heap.objs.size+4:=by rw[iz,e3]
 have r5:(sD s.heap o1 o2).get? (yF s.heap o1 o2).objs.size=some _:=cy _ rfl;have r4:(sD s.heap o1 o2).get? (yQ s.heap o1 o2).objs.size=some _:=av _ (cy _ rfl);have r3:(sD s.heap o1 o2).get? (yJ s.heap o1 o2).objs.size=some _:=av _ (av _ (cy _ rfl));have r2:(sD s.heap o1 o2).get? (yP s.heap o1).objs.size=some o2:=av _ (av _ (av _ (cy _ f2)));have r1:(sD s.heap o1 o2).get? s.heap.objs.size=some o1:=av _ (av _ (av _ (av _ (cy _ f1))));show _/\_;rw[e2,e3,e4]at r5;rw[e1,e2]at r3;rw[e3]at r4;rw[e1]at r2;rw[e4];exact⟨⟨_,r5,rfl⟩,h _ r5 r3 r4 r1 r2 λc o q=>av _ (av _ (av _ (av _ (av _ q))))⟩
noncomputable def jU(f:Bool)(K:ah)(H:Hp)(a:Addr)(xs:List V):Prop:=match f with
 |true=>cO K H a xs
 |false=>bS K H a xs
noncomputable def nG(f:Bool)(it a:Addr)(i:Nat)(h:Heap):Prop:=match f with
 |true=>h.IsTupleIter it a i
 |false=>h.IsListIter it a i
noncomputable def sF(f:Bool)(a:Addr)(items:Array Value)(h:Heap):Prop:=match f with
 |true=>h.IsTuple a items
 |false=>h.IsList a items
noncomputable def Dg(f:Bool)(a:Addr):Obj:=match f with
 |true=>{cls:=.type "tuple_iterator",data:=.fields #[.ref a,.int 0 0]}
 |false=>{cls:=.type "list_iterator",data:=.fields #[.ref a,.int 0 0]}
section
variable{X:Cx}{FX:List (Addr×Obj)}{σ:St}{H:Hp}{s:aa}{a:Addr}{xs ys:List V}{f:Bool}
theorem aG.seqF(I:aG X FX σ H s)(h:jU f X.K H a xs):∃its:FN,bB xs its/\sF f a its.toArray s.heap/\xs.length<=sizeLine:=by
 cases f with
 |true=>
  obtain⟨its,r,p,z⟩:=I.tuple h;exact⟨its,r,p,z⟩
 |false=>
  obtain⟨its,r,p,z⟩:=I.list h;exact⟨its,r,p.isList,z⟩
theorem aG.seqF_inj(I:aG X FX σ H s)(h:jU f X.K H a xs)(h':jU f X.K H a ys):xs=ys:=by
 cases f with
 |true=>exact I.tuple_inj h h'
 |false=>exact I.list_inj h h'
theorem aG.apart(I:aG X FX σ H s)(fb:eY X FX H b)(h:jU f X.K H a xs):a≠b:=by
 have viaK:∀{o:Obj},X.K.lookup a=some o->a≠b:=λ{o} q e=>by
  have hb:=e▸I.ok.mod.kin a o q;rcases fb.2.2.2.1 with z |z
  .exact I.ok.noex b o hb z
  .exact absurd (fg (bh (I.ok.bs b o hb).1) z) (jc _)
 cases f with
 |true=>
  rcases h with(h |⟨o,h⟩) |⟨o,_,_,q,_⟩
  .exact gB h fb.1
  .exact gB h fb.1
  .exact viaK q
 |false=>
  rcases h with(h |⟨o,h⟩) |⟨o,_,_,q,_⟩
  .exact gB h fb.1
  .exact gB h fb.1
  .exact viaK q
end
theorem xJ(f:Bool)(hh:A.handled=none)(it a:Addr)(hne:a≠it)(items:Array Value):
  ku prog w A it [it,a] items.size (λi v=>items[i]?=some v) (λi h=>nG f it a i h/\sF f a items h):=by
 cases f with
 |true=>exact N9 hh _ a hne _
 |false=>exact Draws.list hh _ a hne _
theorem Ts(f:Bool)(a:Addr)(items:Array Value):uL a (Dg f a) (sF f a items):=by
 cases f with
 |true=>exact λprog w A E s Q g q=>BX g q
 |false=>exact λprog w A E s Q g q=>uk g q
theorem nG.keep(x:nG f it a i h)(k:∀o,h.get? it=some o->h'.get? it=some o):nG f it a i h':=by
 cases f with
 |true=>obtain⟨o,e,r⟩:=x;exact⟨o,k o e,r⟩
 |false=>obtain⟨o,e,r⟩:=x;exact⟨o,k o e,r⟩
theorem sF.keep(x:sF f a items h)(k:∀o,h.get? a=some o->h'.get? a=some o):sF f a items h':=by
 cases f with
 |true=>obtain⟨o,e,r⟩:=x;exact⟨o,k o e,r⟩
 |false=>obtain⟨o,e,r⟩:=x;exact⟨o,k o e,r⟩
theorem nG.obj(x:nG f it a i h):∃o,h.get? it=some o/\∀v,o.data≠.cell v:=by
 cases f with
 |true=>obtain⟨o,e,_,d⟩:=x;exact⟨o,e,λv z=>by rw[d]at z;cases z⟩
 |false=>obtain⟨o,e,_,d⟩:=x;exact⟨o,e,λv z=>by rw[d]at z;cases z⟩
theorem Qk(f:Bool)(a it:Addr){h:Heap}(e:h.get? it=some (Dg f a)):nG f it a 0 h:=by
 cases f with
 |true=>exact⟨_,e,rfl,rfl⟩
 |false=>exact⟨_,e,rfl,rfl⟩
theorem Zl(f:Bool)(a:Addr):(Dg f a).isFreed=false:=by cases f<;>rfl
noncomputable def Jv (K : ah) (f1 : Bool) (a : Addr) (f2 : Bool) (b : Addr) : It :=
  ⟨λi H => ∃ xs ys x y, jU f1 K H a xs ∧ jU f2 K H b ys ∧ xs[i]? = some x ∧ ys[i]? = some y,
   λi H v H' => ∃ p x y, H p = none ∧ v = .ref p ∧ H' = aS H p (.tup [x, y]) ∧ (∀ xs, jU f1 K H a xs → xs[i]? = some x) ∧ ∀ ys, jU f2 K H b ys → ys[i]? = some y,
   λi H => ∃ xs ys, jU f1 K H a xs ∧ jU f2 K H b ys ∧ (i = xs.length ∨ (i < xs.length ∧ i = ys.length))⟩
structure yG(z TI TO i1 i2:Addr):Prop where
 tiz:TI≠z
 toz:TO≠z
 i1z:i1≠z
 i2z:i2≠z
 tito:TI≠TO
 ti1:TI≠i1
 ti2:TI≠i2
 to1:TO≠i1
 to2:TO≠i2
 i12:i1≠i2
theorem yG.ap{z TI TO i1 i2 a b:Addr}(r:yG z TI TO i1 i2)(h:∀c∈[z,TI,TO,i1,i2],a≠c)(g:∀c∈[z,TI,TO,i1,i2],b≠c):vC z TI TO i1 i2 [i1,a] [i2,b] where
 tiz:=r.tiz
 toz:=r.toz
 tito:=r.tito
 ti1:=r.ti1
 ti2:=r.ti2
 z1:=λq=>by simp at q;rcases q with q |q;exact r.i1z q.symm;exact h z (by simp) q.symm
 z2:=λq=>by simp at q;rcases q with q |q;exact r.i2z q.symm;exact g z (by simp) q.symm
 to1:=λq=>by simp at q;rcases q with q |q;exact r.to1 q;exact h TO (by simp) q.symm
 to2:=λq=>by simp at q;rcases q with q |q;exact r.to2 q;exact g TO (by simp) q.symm
 i12:=λq=>by simp at q;rcases q with q |q;exact r.i12 q;exact g i1 (by simp) q.symm
 i21:=λq=>by simp at q;rcases q with q |q;exact r.i12 q.symm;exact h i2 (by simp) q.symm
 m1:=by simp
 m2:=by simp
theorem R4{P:Program}{w:ar}{K:ah}{elts:List ai}{x1:Nat}{tp:ak}(f1 f2:Bool)(a b z TI TO i1 i2:Addr)(zr:yG z TI TO i1 i2):
  sJ P w K (.Tuple elts x1 tp) (Jv K f1 a f2 b) [z,TI,TO,i1,i2] z (λi h=>je h z TI TO .none/\gh h TI (.ref i1) (.ref i2)/\(∃u v,gh h TO u v)/\nG f1 i1 a i h/\nG f2 i2 b i h) where
 mem:=by simp
 obj:=λi h st c hc=>by
  obtain⟨e1,e2,⟨u,v,e3⟩,e4,e5⟩:=st;simp at hc;rcases hc with q |q |q |q |q
  .subst q
   exact⟨_,e1,λv z=>nomatch z⟩
  .subst q
   exact⟨_,e2,λv z=>nomatch z⟩
  .subst q
   exact⟨_,e3,λv z=>nomatch z⟩
  .subst q
   exact e4.obj
  .subst q
   exact e5.obj
 keep:=λi h h' st k=>by
  obtain⟨e1,e2,⟨u,v,e3⟩,e4,e5⟩:=st;exact⟨k z (by simp) _ e1,k TI (by simp) _ e2,⟨u,v,k TO (by simp) _ e3⟩,e4.keep λo q=>k i1 (by simp) o q,e5.keep λo q=>k i2 (by simp) o q⟩
 item:=by
  intro X hP hw hK hc i FX s σ H E I hf st hg;subst hP hw hK;obtain⟨xs,ys,x,y,hx,hy,ex,ey⟩:=hg;obtain⟨its,r1,p1,_⟩:=I.seqF hx;obtain⟨jts,r2,p2,_⟩:=I.seqF hy;obtain⟨ux,gx,rx⟩:=r1.get ex;obtain⟨uy,gy,ry⟩:=r2.get ey;obtain⟨e1,e2,⟨u,v,e3⟩,e4,e5⟩:=st;have na:∀c∈[z,TI,TO,i1,i2],a≠c:=λc hc=>I.apart (hf c hc) hx;have nb:∀c∈[z,TI,TO,i1,i2],b≠c:=λc hc=>I.apart (hf c hc) hy;have hd:X.A.in1.handled=none:=I.ok.hd hc;have D1:=xJ (prog:=X.prog) (w:=X.w) f1 hd i1 a (na i1 (by simp)) its.toArray;have D2:=xJ (prog:=X.prog) (w:=X.w) f2 hd i2 b (nb i2 (by simp)) jts.toArray;refine Yw D1 D2 (zr.ap na nb) e1 e2 e3 ⟨e4,p1⟩ ⟨e5,p2⟩ (da.mp gx).1 (da.mp gy).1 λh1 tk vx vy px py q1 q2 q3 q4 q5 k1=>⟨_,rfl,?_⟩;have ex':vx=ux:=by
   have:its[i]?=some vx:=by simpa using px
   rw[gx]at this;exact(ck this).symm
  have ey':vy=uy:=by
   have:jts[i]?=some vy:=by simpa using py
   rw[gy]at this;exact(ck this).symm
  subst ex' ey';have lt:∀c∈[z,TI,TO,i1,i2],c≠s.heap.objs.size:=λc hc=>by
   have:∃o,s.heap.get? c=some o:=by
    simp at hc;rcases hc with q |q |q |q |q
    .exact⟨_,q▸e1⟩
    .exact⟨_,q▸e2⟩
    .exact⟨_,q▸e3⟩
    .obtain⟨o,ho,_⟩:=e4.obj
     exact⟨o,q▸ho⟩
    .obtain⟨o,ho,_⟩:=e5.obj
     exact⟨o,q▸ho⟩
   obtain⟨o,ho⟩:=this;exact df (bh ho)
  refine wpAny_letOwnedTupleGo_zip (s:={s with heap:=h1,toks:=tk}) q1 λh2 z2 sb2=>?_;have t2:=(sb2.2 _ (lt z (by simp)).symm).trans q5;have I2:aG X FX σ (aS H s.heap.objs.size (.tup [x,y])) {s with heap:=h2,toks:=tk}:=
   I.turnedNew hf (λc o hc q=>(sb2.2 c (λe=>hc (by simp[e]))).trans (k1 c o (λe=>hc (by simp[e])) (λe=>hc (by simp[e])) (λe=>hc (by simp[e])) (λe=>hc (by simp[e])) q)) (aq _)
    ⟨⟨by show 2<=sizeLine;decide,_,t2,rfl⟩,[vx,vy],.cons rx (.cons ry .nil),⟨_,t2,rfl,_,rfl⟩⟩
  refine⟨.ref s.heap.objs.size,_,I2,rfl,⟨_,x,y,I.hok.fresh (aq _),rfl,rfl,λzs hz=>by rw[I.seqF_inj hz hx];exact ex,λzs hz=>by rw[I.seqF_inj hz hy];exact ey⟩,
   ⟨z2,(sb2.2 _ zr.tiz).trans (k1 _ _ zr.tiz zr.tito zr.ti1 zr.ti2 e2),⟨_,_,(sb2.2 _ zr.toz).trans q2⟩,q3.1.keep λo q=>(sb2.2 _ zr.i1z).trans q,q4.1.keep λo q=>(sb2.2 _ zr.i2z).trans q⟩,λc hc=>?_⟩
  rw[bO (lt c hc)];exact(hf c hc).1
 done:=by
  intro X hP hw hK hc i FX s σ H E I hf st hg;subst hP hw hK;obtain⟨xs,ys,hx,hy,fin⟩:=hg;obtain⟨its,r1,p1,_⟩:=I.seqF hx;obtain⟨jts,r2,p2,_⟩:=I.seqF hy;have l1:=r1.length;have l2:=r2.length;obtain⟨e1,e2,⟨u,v,e3⟩,e4,e5⟩:=st;have na:∀c∈[z,TI,TO,i1,i2],a≠c:=λc hc=>I.apart (hf c hc) hx;have nb:∀c∈[z,TI,TO,i1,i2],b≠c:=λc hc=>I.apart (hf c hc) hy;have hd:X.A.in1.handled=none:=I.ok.hd hc;have D1:=xJ (prog:=X.prog) (w:=X.w) f1 hd i1 a (na i1 (by simp)) its.toArray;have D2:=xJ (prog:=X.prog) (w:=X.w) f2 hd i2 b (nb i2 (by simp)) jts.toArray;refine Vv D1 D2 (zr.ap na nb) e1 e2 e3 ⟨e4,p1⟩ ⟨e5,p2⟩ (by rw[ay,ay,<-l1,<-l2];exact fin) λh' tk k=>⟨rfl,?_⟩;exact I.turnedL hf λc o hc q=>k c o (λe=>hc (by simp[e])) (λe=>hc (by simp[e])) (λe=>hc (by simp[e])) (λe=>hc (by simp[e])) q
 self:=λ_ _ _ _ _ st h=>wpAny_pyIter_zip st.1 h
section
variable{X:Cx}{elts:List ai}{x1:Nat}{tp:ak}
noncomputable def ae9(K:ah)(tl:TA):TI:=λσ H R=>tl σ H λvs H1=>∃f1 a f2 b xs ys,vs=[.ref a,.ref b]/\jU f1 K H1 a xs/\jU f2 K H1 b ys/\R (Jv K f1 a f2 b) H1
theorem acu{tl:TA}{p pos:ak}(hg:Gl X "zip")(hm:X.mg "zip"=none)(hl:PA X [l,r] tl)(hs:starEach [l,r] X.env=[(false,eval l X.env),(false,eval r X.env)]:=by rfl)(hs2:starEach [r] X.env=[(false,eval r X.env)]:=by rfl):
  PI X (.Tuple elts x1 tp) (.Call (.Name "zip" p) [l,r] [] pos) (ae9 X.K tl):=by
 intro FX s σ H R I h;refine Call_ (mS I hg hm boot_zip (ub (bC (hl pos FX s σ H _ I h) λus s1 hq=>?_) (by rw[hs,hs2]) (by rw[hs2];rfl)));rcases hq with⟨vs,H1,I1,r1,q1⟩;obtain⟨f1,a,f2,b,xs,ys,rfl,hx,hy,q⟩:=q1;obtain⟨u,v,rfl,ru,rv⟩:=Qs r1;cases ru;cases rv;obtain⟨its,_,p1,_⟩:=I1.seqF hx;obtain⟨jts,_,p2,_⟩:=I1.seqF hy;refine Sw (Ts f1 a its.toArray) (Ts f2 b jts.toArray) (λh g=>g.keep λo z=>av _ z) p1 p2 (Zl _ _) (Zl _ _) λh' e1 e2 e3 e4 e5 k=>?_;refine wpAny_pyIter_zip  e1 ?_;have zr:yG (s1.heap.objs.size+4) (s1.heap.objs.size+2) (s1.heap.objs.size+3) s1.heap.objs.size (s1.heap.objs.size+1):=by
  generalize s1.heap.objs.size=n;have g:∀i j:Nat,i≠j->((n:Nat)+i:Nat)≠n+j:=λi j h=>by omega
  exact⟨g 2 4 (by decide),g 3 4 (by decide),g 0 4 (by decide),g 1 4 (by decide),g 2 3 (by decide),g 2 0 (by decide),g 2 1 (by decide),g 3 0 (by decide),g 3 1 (by decide),g 0 1 (by decide)⟩
 refine⟨_,[s1.heap.objs.size+4,s1.heap.objs.size+2,s1.heap.objs.size+3,s1.heap.objs.size,s1.heap.objs.size+1],_,_,H1,rfl,I1.kept  k,R4 f1 f2 a b _ _ _ _ _ zr,⟨e1,e2,⟨_,_,e3⟩,Qk f1 a _ e4,Qk f2 b _ e5⟩,λc hc=>?_,q⟩;have hb:s1.heap.objs.size<=c:=by
  simp only[cr,iu,or_false]at hc;rcases hc with q |q |q |q |q
  all_goals rw[q]
  all_goals first |exact aq _ |exact Nat.le_add_right _ _
 exact I1.fpOk hb (I1.hok.fresh hb)
end
theorem acy(K:ah):nr K (.type "int") (.type "bool")=some false:=by
 unfold nr BY;rw[if_neg (by decide)];show(if BZ "bool"=true then CA K (.type "int") (.type "bool")else none)=some false;rw[if_pos (by decide+kernel)];show(fastBuiltinMro "int").map (·.contains (.type "bool"))=some false;decide+kernel
structure oJ(K:ah)(x qual:Str)(st:Stmt)(f:Addr)(fd:de)(ds:Array Value):Prop where
 ex:∃(oc:Value)(od:FQ)(T:Addr)(oT:Obj)(n:Nat)(kV doc pm:Value)(an:FQ)(cdv ct:Value)(osl:Array FO),
  fd=fj x qual (gC st) (dM st) (cB st) (.ref T) kV doc pm an cdv ct/\K.lookup f=some ⟨oc,od,.func fd,osl⟩/\kh K cdv qual=true/\K.lookup T=some oT/\oT.data=.seq ds n
 kp:ft K (.ref f)=true
section
variable{K:ah}
theorem oJ.binds{st:Stmt}{f:Addr}{fd:de}{ds:Array Value}{ps:List Str}{dd:FN}(F:oJ K x qual st f fd ds)
  (h:∀(T:Addr)(kV doc pm:Value)(an:FQ)(cdv ct:Value)(us:FN),(us++dd).length=ps.length->
   ∃k,bindArgs (fj x qual (gC st) (dM st) (cB st) (.ref T) kV doc pm an cdv ct) ⟨us,[]⟩=seqItems? (.ref T) >>= k/\k (some ds)=pure (ps.zip (us++dd))):gG K fd ps dd:=by
 obtain⟨oc,od,T,oT,n,kV,doc,pm,an,cdv,ct,osl,rfl,lk,hcd,lT,hT⟩:=F.ex;intro s us hK hl;obtain⟨k,h1,h2⟩:=h T _ _ _ _ _ _ _ hl;exact PySem.W.binds_K hK rfl lT hT h1 h2
theorem aah{st:Stmt}{f T:Addr}{oT:Obj}{n:Nat}{ds:Array Value}{oc:Value}{od an:FQ}{osl:Array FO}{kV doc pm cdv ct:Value}(l:K.lookup f=some ⟨oc,od,.func (fj x qual (gC st) (dM st) (cB st) (.ref T) kV doc pm an cdv ct),osl⟩)
  (c:kh K cdv qual=true)(k:ft K (.ref f)=true)(lT:K.lookup T=some oT)(hT:oT.data=.seq ds n):oJ K x qual st f (fj x qual (gC st) (dM st) (cB st) (.ref T) kV doc pm an cdv ct) ds:=
 ⟨⟨oc,od,T,oT,n,kV,doc,pm,an,cdv,ct,osl,rfl,l,c,lT,hT⟩,k⟩
end
theorem abD{cap:List (Nat×Str)}(so:Scope)(N:List Str)(hso:X.env.scope=so)(hN:X.N=N)(kind:sc.kind=.function)(names:∀y∈sc.names,y.2=.local->sc.names.lookup y.1=some .local)
  (nocell:∀y∈sc.names,y.2≠.cell)(free:∀y∈sc.names,y.2=.free->so.names.lookup y.1=some .cell)(at':∀p∈cap,N[p.1]?=some p.2)(hcap:∀p∈cap,sc.names.lookup p.2=some .free):gY X sc own cap:=
 ⟨kind,names,nocell,λy hy e=>by show X.env.scope.names.lookup _=_;rw[hso];exact free y hy e,λp hp=>by rw[hN];exact at' p hp,hcap⟩
theorem Bm(n d:Nat):HT.sIx (n+1) d (some (-1))=n:=by
 unfold HT.sIx;grind
theorem fG.has(x:fG P w H h a o):∃u,h.get? a=some u:=by
 cases o with
 |lst xs=>obtain⟨_,_,_,_,e⟩:=x;exact⟨_,e⟩
 |tup xs=>obtain⟨_,_,_,u,e,_⟩:=x;exact⟨u,e⟩
 |dK kvs=>obtain⟨_,_,_,_,o,_,_,e,_⟩:=x;exact⟨_,e⟩
 |dT kvs=>obtain⟨_,_,_,_,o,_,_,e,_⟩:=x;exact⟨_,e⟩
 |set S n=>obtain⟨o,_,_,_,e,_⟩:=x;exact⟨_,e⟩
 |ins C dx fs=>obtain⟨_,_,_,e,_⟩:=x;exact⟨_,e⟩
 |own y=>exact x
 |xd fs=>obtain⟨_,⟨_,_,_,e,_⟩,_⟩:=x;exact⟨_,e⟩
 |rng lo hi=>obtain⟨_,_,_,e⟩:=x;exact⟨_,e⟩
 |frz ob u=>obtain⟨e,_⟩:=x;exact⟨_,e⟩
 |tbl ps=>exact⟨_,show h.get? a=some _ from x⟩
 |met f y=>exact⟨_,show h.get? a=some _ from x⟩
 |ext φ=>exact x.2.1
abbrev tW:FN:=[.type "ValueError",.type "Exception",.type "BaseException",.type "object"]
theorem Z5{K:ah}{h:Heap}{C:Addr}{bmB:FN}{newId:String}(X:K.In h)(q:qq K C bmB newId=true):
  ∃bm N nm qn bs hdct sn sub ab col dd k0 k1 k2 k3 k5 mN,h.get? C=some (excClassObj nm qn C N bs bm hdct sn sub ab col dd k0 k1 k2 k3 k5 newId)/\h.Ns N mN/\mN "__init__"=none/\OwnTail h bmB bm:=by
 unfold qq at q;split at q
 .rename_i dd cd sl ho
  split at q
  .rename_i C' bm k0 k1 k2 k3 n k5 hm hs
   simp only[gr,beq_iff_eq,ss]at q;obtain⟨⟨⟨⟨⟨z1,z2⟩,hdel⟩,ht⟩,hok⟩,hni⟩:=q;subst z1 z2;obtain⟨nm,bs,mro,ns,qn,hd,sn,sub,ab,col,del⟩:=cd;dsimp only at hm hdel hok hni;subst hm hdel;have hsl:sl=#[k0,k1,k2,k3,some (.builtin n),k5]:=by
    obtain⟨l⟩:=sl;simp only at hs;rw[hs]
   subst hsl;refine⟨bm,ns,nm,qn,bs,hd,sn,sub,ab,col,dd,k0,k1,k2,k3,k5,_,X _ _ ho,.of_isNs (PySem.W.isNs_of_in X hok),PySem.W.nsMap_none_of_in X hok hni,PySem.W.tail_of_in X ht⟩
  .cases q
 .cases q
noncomputable def kJ(P:Program)(w:ar):jR:=λouter H s E e s'=>∃(x C t:Addr)(B:Heap)(H':Hp),e=.ref x/\s'.os=s.os/\kn s'.gens/\Un (eG outer) [] H H' s.heap s'.heap/\eT P w H' s'.heap/\
 Heap.FlyingW B outer x (.ref C) (.ref t) s'.heap/\(∀b o,s'.heap.get? b=some o->(∃u,H' b=some u)\/(∃o',s.heap.get? b=some o'/\b∉eG outer)->B.get? b=some o)/\E (.ref C) none H'
theorem P9{P:Program}{w:ar}{K:ah}{mg:Str->FO}{base:Heap}{N:List Str}{qual:Str}{scope:Scope}{f:Addr}{cd:Value}{A:ax}{outer:List ca}{FY:aa}{FZ:Hp}{E:XK}
  {x:Str}{C:Addr}{txt:Str}{j:Nat}{np p1 cpos pos:ak}(hg:Gl (eW (kJ P w) P w K mg base N qual scope f cd A outer FY FZ E) x)(hm:mg x=some (.ref C))(hx:qq K C tW "ValueError.__new__"=true)
  (hd:(x==("__debug__":Str))=false:=by decide):
  PS (eW (kJ P w) P w K mg base N qual scope f cd A outer FY FZ E) (.Raise (some (.Call (.Name x np) [.Constant (.str txt) j p1] [] cpos)) none pos) (λ_ _ H=>E (.ref C) none H):=by
 intro FX s σ H D I h;obtain⟨bm,Nn,nm,qn,bs,hdct,sn,sub,ab,col,dd,k0,k1,k2,k3,k5,mN,hC,hN,hni,T⟩:=Z5 I.ok.mod.kin hx;refine wpAny_Raise_call_subT (C:=C) (nm:=nm) (q:=qn) (N:=Nn) (bs:=bs) (bm:=bm) (hdct:=hdct) (sn:=sn) (sub:=sub) (ab:=ab) (col:=col) (dd:=dd) (k0:=k0) (k1:=k1) (k2:=k2) (k3:=k3) (k5:=k5)
  PySem.F.excBase_ValueError (mN:=mN) (T.hasType (by decide)) (I.ok.hd rfl) rfl hni (xB I hg hm ⟨rfl,?_⟩ hd)
 refine a8 (bC ((mE acz nX) cpos FX s σ H (λvs H1=>vs=[.str txt]/\H1=H) I ⟨rfl,rfl⟩) λus s2 q2=>?_);obtain⟨vs,H2,I2,r2,rfl,rfl⟩:=q2;have l2:=r2.length;refine⟨rfl,by rw[<-l2];show 1<=sizeLine;decide,I2.bk _ _ hC,hN.keeps I2.bk,T.keeps I2.bk,λh' e made=>?_⟩
 --the frame is left
 have nfr:∀{b u},H2 b=some u->b∉eG (envOfC qual scope FY.heap.objs.size f cd::outer):=λ{b u} q z=>by
  rw[I2.stkFree b z]at q;cases q
 have nL:∀{b o},FY.heap.get? b=some o->b∉eG outer->b∉eG (envOfC qual scope FY.heap.objs.size f cd::outer):=λ{b o} q z y=>by
  rcases cr.mp (I2.stkSub b y)with g |g
  .exact absurd (fg (bh q) I2.ok.above) (by rw[g];exact jc _)
  .exact z g
 refine wpAny_leaves_madeW (base:=yw s2.heap (eG (envOfC qual scope FY.heap.objs.size f cd::outer))) (h:=s2.heap)  I2.ok.frames rfl (λb o q=>AB _ q)
  (PySem.W.funFrames_hide I2.stack λenv he b hb=>zc.mpr ⟨env,he,hb⟩) made λh'' t fl tup nb ups=>?_
 have keepB:=λb o q z=>fl.1 b o (yx _ q z);have upS:=λb o q z=>ups b o (made.keeps b o q) z;refine⟨e,C,t,_,H2,rfl,I2.os,I2.bare,⟨λb o q n hb _=>?_,λb o q n hb _=>?_,λb o q n _=>I2.base.free b o q n (by intro z;cases z),λb o q _=>?_,I2.base.tups,I2.base.frzs,I2.base.tbls⟩,λb u q=>?_,fl,λb o q z=>?_,h⟩
 .exact keepB b o (I2.base.keep b o q n hb (by intro z;cases z)) (nL q hb)
 .obtain⟨sl,g⟩:=I2.base.slot b o q n hb (by intro z;cases z)
  obtain⟨_,o',ho',hd'⟩:=I2.ok.funs.mem hb;have eo:o'=o:=by
   have ho2:FY.heap.get? b=some o':=ho';rw[q]at ho2;exact(ck ho2).symm
  subst eo;obtain⟨sl',g'⟩:=upS b _ g hd';exact⟨sl',g'⟩
 .obtain⟨o',g⟩:=I2.base.there b o q (by intro z;cases z)
  by_cases c:b∈eG (envOfC qual scope FY.heap.objs.size f cd::outer)
  .obtain⟨_,o2,ho2,hd2⟩:=I2.stack.mem c
   obtain⟨sl,g'⟩:=upS b o2 ho2 hd2;exact⟨_,g'⟩
  .exact⟨o',keepB b o' g c⟩
 .refine(I2.hok b u q).stay (λc v hc g=>keepB c v g ?_) (λ_ g=>g) λ_ _ g=>g
  rcases hc with z |z
  .rw[z]
   exact nfr q
  .exact nfr z
 .have go:=λ{o2} g n=>by
   have:=keepB b o2 g n;have q':h''.get? b=some o:=q;rw[q']at this;cases this;exact yx _ g n
  rcases z with⟨u,z⟩|⟨o',z,nz⟩
  .obtain⟨o2,g⟩:=(I2.hok b u z).has
   exact go g (nfr z)
  .obtain⟨o2,g⟩:=I2.base.there b o' z (by intro z;cases z)
   exact go g (nL z nz)
section
variable{P:Program}{w:ar}{K:ah}{mg:Str->FO}{base:Heap}{CX:jR}
theorem oJ.okX{st:Stmt}{f:Addr}{fd:de}{ds:Array Value}{N ps:List Str}{k:Nat}{sp:Sp}(F:oJ K x qual st f fd ds)(S:jW N ps (cB st))(len:∀vs H Q E,sp vs H Q E->vs.length=ps.length)
  (hbody:∀(cdv:Value)(A:ax)(outer:List ca)(s:aa)(H:Hp)(vs:List V)(Q:VK)(E:XK),cP k (A.deeper (envOfC qual (cB st) s.heap.objs.size f cdv))->sp vs H Q E->
   ∃t,eZ (eW CX P w K mg base N qual (cB st) f cdv A outer s H E) (dM st) t/\t {nx:=λ_ H'=>Q .non H',rt:=Q} (start N vs) H):dC P w K mg base CX (k+1) f fd ps sp:=by
 obtain⟨oc,od,T,oT,n,kV,doc,pm,an,cdv,ct,osl,rfl,lk,hcd,_,_⟩:=F.ex;exact Kt lk hcd S len λA outer s H vs Q E hr hsp=>hbody _ A _ s H _ Q E hr hsp
end
open PySem.W PySem.Calls PySem.Builtin PySem.Builtin.Getset_descriptor
noncomputable def gA(h:Heap)(l:FI)(a:Addr):Prop:=∃o its n,h.get? a=some o/\o.cls=.type "tuple"/\o.data=.seq its n/\bB (l.map V.int) its.toList
noncomputable def jS(h:Heap)(ks:FJ)(a:Addr):Prop:=∃o its n,h.get? a=some o/\o.cls=.type "tuple"/\o.data=.seq its n/\fk (λk v=>∃b,v=cw b/\gA h k b) ks its.toList
noncomputable def hF(l:FI):Int:=reduceHash (j5 (l.map hashInt))
noncomputable def hN(l:FJ):Int:=reduceHash (j5 (l.map hF))
noncomputable abbrev iK(prog:Program)(w:ar):KeyKind prog w Int:=intKind prog w
theorem Dm:∀{l m:FI}{us:FN},bB (l.map V.int) us->bB (m.map V.int) us->l=m
 |[],[],_,_,_=>rfl
 |[],_::_,_,.nil,h=>nomatch h
 |_::_,[],_,.cons _ _,h=>nomatch h
 |i::l,j::m,_,.cons r t,.cons r' t'=>by
  obtain⟨x,e⟩:=r;obtain⟨y,e'⟩:=r';rw[e]at e';injection e' with e1;rw[e1,Dm t t']
section
variable{prog:Program}{w:ar}{A:ax}{E:Value->aa->Prop}{s:aa}{h h':Heap}{a b d:Addr}
theorem gA.inj(hx:gA h x a)(hy:gA h y a):x=y:=by
 obtain⟨o,its,n,e,_,f,r⟩:=hx;obtain⟨o',its',n',e',_,f',r'⟩:=hy;cases ck (e.symm.trans e');cases f.symm.trans f';exact Dm r r'
theorem jS.inj(hx:jS h x a)(hy:jS h y a):x=y:=by
 obtain⟨o,its,n,e,_,f,r⟩:=hx;obtain⟨o',its',n',e',_,f',r'⟩:=hy;cases ck (e.symm.trans e');cases f.symm.trans f'
 revert r r'
 generalize its.toList=us;intro r
 induction r generalizing y with
 |nil=>intro r';cases r';rfl
 |cons p _ ih=>
  intro r';cases r' with
  |cons p' t'=>
   obtain⟨b,rfl,g⟩:=p;obtain⟨b',eb,g'⟩:=p';cases eb;rw[g.inj g',ih t']
theorem Vq{its:Array Value}{n:Nat}{es ep}(e:h.get? a=some o)(f:o.data=.seq its n)(e':h.get? d=some o')(f':o'.data=.dict es ep):a≠d:=λz=>by
 grind
theorem gA.keep(x:gA h l a)(e':h.get? d=some o')(f':o'.data=.dict es ep)(sb:il d h h'):gA h' l a:=by
 obtain⟨o,its,n,e,c,f,r⟩:=x;exact⟨o,its,n,(sb.2 a (Vq e f e' f')).trans e,c,f,r⟩
theorem jS.keep(x:jS h l a)(e':h.get? d=some o')(f':o'.data=.dict es ep)(sb:il d h h'):jS h' l a:=by
 obtain⟨o,its,n,e,c,f,r⟩:=x;exact⟨o,its,n,(sb.2 a (Vq e f e' f')).trans e,c,f,Paired.mapP r λ_ _ ⟨b,eb,g⟩=>⟨b,eb,g.keep e' f' sb⟩⟩
theorem Ka:∀{l:FI}{us:FN},bB (l.map V.int) us->ItemsAre (iK prog w) l us
 |[],_,.nil=>.nil
 |i::l,_,.cons r t=>by
  obtain⟨t',rfl⟩:=r;exact .cons (by simp[iK,intKind,Value.isInt]) (Ka t)
theorem gA.key(x:gA h l a):IsTupleKey (iK prog w) h l a:=by
 obtain⟨o,its,n,e,c,f,r⟩:=x;exact⟨o,its,n,e,c,f,Ka r⟩
theorem K9{α:Type}[DecidableEq α](z:α)(l m:List α):((ci (min l.length m.length)).all (λj=>decide (l.getD j z=m.getD j z))&&l.length==m.length)=decide (l=m):=by
 rw[i4,gr,ie,decide_eq_true_iff];constructor
 .rintro⟨h1,h2⟩
  have hl:=by simpa using h2
  refine uo hl λi g1 g2=>?_;have:=h1 i (by grind);simpa[cg,g1,g2]using this
 .rintro rfl
  exact⟨λi _=>by simp,by simp⟩
theorem wI{R:α->β->Prop}:∀{l:List α}{m:List β},fk R l m->l.length=m.length/\∀(j:Nat)(x:α)(y:β),l[j]?=some x->m[j]?=some y->R x y
 |_,_,.nil=>⟨rfl,λj x y h=>by simp at h⟩
 |_,_,.cons r t=>by
  obtain⟨e,g⟩:=wI t;refine⟨by rw[bo,bo,e],λj x y h1 h2=>?_⟩;cases j with
  |zero=>
   simp at h1 h2;rw[<-h1,<-h2];exact r
  |succ j=>exact g j x y (by simpa using h1) (by simpa using h2)
theorem Sl[DecidableEq α](z:α){R:α->Value->Prop}{x y:List α}{o o':Obj}{us vs:Array Value}{n n':Nat}(hu:A.units<cLine)(ha:s.heap.get? a=some o)(hc:o.cls=.type "tuple")(hd:o.data=.seq us n)(hb:s.heap.get? b=some o')(hc':o'.cls=.type "tuple")(hd':o'.data=.seq vs n')
  (rx:fk R x us.toList)(ry:fk R y vs.toList)(same:a=b->x=y)(eq:∀k l u v,R k u->R l v->ki A.in1 s u v (decide (k=l))):ki A s (.ref a) (.ref b) (decide (x=y)):=by
 by_cases ab:a=b
 .rw[decide_eq_true (same ab),ab]
  exact xq _
 .obtain⟨m1,g1⟩:=wI rx
  obtain⟨m2,g2⟩:=wI ry;have l1:=by simpa using m1
  have l2:=by simpa using m2
  have:=j6 (A:=A) (s:=s) (l:=a) (b:=b)   (e:=λj=>decide (x.getD j z=y.getD j z)) ⟨o,ha,hc,n,hd⟩ ⟨o',hb,hc',n',hd'⟩ hu λj h1 h2=>by
   have i1:j<x.length:=by omega
   have i2:j<y.length:=by omega
   have e1:x.getD j z=x[j]:=by simp[cg,i1]
   have e2:y.getD j z=y[j]:=by simp[cg,i2]
   rw[e1,e2];exact eq _ _ _ _ (g1 j _ _ (bf i1) (by simp[h1])) (g2 j _ _ (bf i2) (by simp[h2]))
  rw[<-l1,<-l2,K9]at this;exact j7 ab this
theorem Wa:∀{l:FI}{us:FN},bB (l.map V.int) us->fk (λ(i:Int) v=>∃t,v=kx i t) l us
 |[],_,.nil=>.nil
 |_::_,_,.cons r t=>.cons r (Wa t)
theorem gA.eq(hu:A.units<cLine)(hx:gA s.heap x a)(hy:gA s.heap y b):ki A s (.ref a) (.ref b) (decide (x=y)):=by
 have inj:a=b->x=y:=λz=>by subst z;exact hx.inj hy
 obtain⟨o,us,n,e,c,f,r⟩:=hx;obtain⟨o',vs,n',e',c',f',r'⟩:=hy;refine Sl 0 hu e c f e' c' f' (Wa r) (Wa r') inj ?_
 rintro k l u v ⟨t,eu⟩ ⟨t',ev⟩
 subst eu ev;have:=zn (A:=A.in1) (s:=s) k t l t';have e:(k==l)=decide (k=l):=by grind
 simp_all
theorem jS.eq(hu:A.units+1<cLine)(hx:jS s.heap x a)(hy:jS s.heap y b):ki A s (.ref a) (.ref b) (decide (x=y)):=by
 have inj:a=b->x=y:=λz=>by subst z;exact hx.inj hy
 obtain⟨o,us,n,e,c,f,r⟩:=hx;obtain⟨o',vs,n',e',c',f',r'⟩:=hy;refine Sl [] (j8 hu) e c f e' c' f' r r' inj ?_
 rintro k l u v ⟨p,eu,g⟩ ⟨q,ev,g'⟩
 subst eu ev;exact g.eq hu g'
theorem Ni(hu:A.units<cLine):∀(ks:FJ)(vs:FN)(t:Nat)(acc:Array Int),fk (λk v=>∃b,v=cw b/\gA s.heap k b) ks vs->
  (∀acc':Array Int,acc'.toList=acc.toList++ks.map hF->Q acc' {s with toks:=t+(ks.map λk=>k.length+1).sum})->
  wpAny (model prog w) A (forIn vs acc λx r=>do let h <-pyHash x;pure PUnit.unit;pure (g6 (r.push h))) Q E {s with toks:=t}
 |[],_,t,acc,.nil,q=>aj (by simpa using q acc (by simp))
 |k::ks,_,t,acc,.cons ⟨b,eb,g⟩ r,q=>by
  subst eb;rw[xi];refine ae (ae (wpAny_pyHash_tuple   hu g.key ?_));refine ae (aj (aj ?_));refine Ni hu ks _ (t+(k.length+1)) _ r λacc' e=>?_;have:=q acc' (by rw[e];simp[hF,tupleKeyHash,iK,intKind]);simpa[k7]using this
theorem jS.hash{Q:Int->aa->Prop}(hu:A.units+1<cLine)(hk:jS s.heap ks a)(q:Q (hN ks) {s with toks:=s.toks+((ks.map λk=>k.length+1).sum+1)}):wpAny (model prog w) A (pyHash (.ref a)) Q E s:=by
 obtain⟨o,its,n,e,c,f,r⟩:=hk;refine PySem.W.pyHash_slot  ⟨o,e,c⟩ F.slot_tuple_hash F.entry_tuple_hash (F.args_tuple_hash_1 _) (beq_builtin_none _) (.inr (j8 hu)) ?_;show wpAny _ _ (AY _ >>= _) _ _ s;refine ae (wpAny_tupleItemsOf e f (ae ?_));rw[<-CB];refine Ni hu ks _ _ #[] r λacc ea=>?_;show wpAny _ _ (retInt (j5 _)) _ _ _;rw[ea];exact ae (wpAny_mkInt (aj ⟨_,_,rfl,by simpa[hN,k7]using q⟩))
theorem Ai{P:Value->Prop}(hP:∀v(Q:Bool->aa->Prop),P v->Q true s->wpAny (model prog w) A (eqIsQuiet n v) Q E s){o:Obj}{its:Array Value}{m:Nat}{Q:Bool->aa->Prop}(e:s.heap.get? a=some o)(c:o.cls=.type "tuple")(f:o.data=.seq its m)(r:∀v∈its.toList,P v)(q:Q true s):
  wpAny (model prog w) A (eqIsQuiet (n+1) (.ref a)) Q E s:=by
 have hT:s.TypeIs (.ref a) _:=⟨o,e,c⟩;unfold eqIsQuiet;refine ae (k8 hT F.slot_tuple_eq.lookup (ae (ul hT isSubtype_tuple_tuple ?_)));refine ae (kd e f (ae ?_));rw[<-CB];refine wpAny_forIn_list _ (λeR z s'=>s'=s/\z.1=none/\∀v∈eR,P v) _ ?_ ?_ _ _ ⟨rfl,rfl,r⟩
 .rintro v eR z s' ⟨rfl,hz,hr⟩
  refine ae (hP v _ (hr v ce) ?_);exact aj ⟨rfl,rfl,λu hu=>hr u (cj _ hu)⟩
 .rintro⟨z1,z2⟩ s' ⟨rfl,hz,_⟩
  cases hz;exact aj q
theorem gA.quiet{l:FI}{Q:Bool->aa->Prop}(hk:gA s.heap l a)(q:Q true s):wpAny (model prog w) A (eqIsQuiet (n+1) (.ref a)) Q E s:=by
 obtain⟨o,its,m,e,c,f,r⟩:=hk;refine Ai  (λv Q' hv q'=>?_) e c f (Ka (prog:=prog) (w:=w) r).byValue q;rw[eqIsQuiet_byValue _ hv];exact aj q'
theorem jS.quiet(hk:jS s.heap ks a)(q:Q true s):wpAny (model prog w) A (eqIsQuiet 8 (.ref a)) Q E s:=by
 obtain⟨o,its,m,e,c,f,r⟩:=hk;refine Ai (P:=λv=>∃k b,v=.ref b/\gA s.heap k b) (λv Q' ⟨k,b,ev,g⟩ q'=>by subst ev;exact g.quiet  q') e c f (λv hv=>?_) q;obtain⟨l1,g⟩:=wI r;obtain⟨i,hi,ev⟩:=xk.mp hv;have i1:i<ks.length:=by rw[l1];exact hi
 obtain⟨b,eb,gb⟩:=g i _ v (bf i1) (by rw[bf hi,ev]);exact⟨_,b,eb,gb⟩
end
noncomputable def R6(prog:Program)(w:ar):HeapKind prog w FJ where
 is:=jS
 hash:=hN
 draws:=λks=>(ks.map λk=>k.length+1).sum+1
 room:=λA=>A.units+1<cLine
 inj:=λhx hy=>hx.inj hy
 keeps:=λx ho hd hs=>x.keep ho hd hs
 pyHash:=λhu hk h=>hk.hash hu h
 eqBool:=λhu hx hy h=>hx.eq hu hy _ _ _ _ h
 quiet:=λhk h=>hk.quiet h
noncomputable def gZ:Bool->Type
 |false=>FI
 |true=>FJ
instance decK:(n:Bool)->DecidableEq (gZ n)
 |false=>inferInstanceAs (DecidableEq FI)
 |true=>inferInstanceAs (DecidableEq FJ)
noncomputable def Nt:(n:Bool)->gZ n->Int
 |false=>hF
 |true=>hN
noncomputable def lG(prog:Program)(w:ar):(n:Bool)->HeapKind prog w (gZ n)
 |false=>tupleKind (iK prog w)
 |true=>R6 prog w
theorem Ji:∀(n:Bool)(k:gZ n),(lG prog w n).hash k=Nt n k
 |false,_=>rfl
 |true,_=>rfl
theorem Mi{A:ax}(hu:A.units+2<cLine):∀n:Bool,(lG prog w n).room A.in1
 |false=>j8 hu
 |true=>hu
end L2
namespace L2.Pp
open PySem PySem.Spec PyProof.Rows Bn
section
inductive PV where
 |non |bl (b:Bool) |int (i:Int) |str (x:Str) |tup (xs:List PV) |lst (xs:List PV) |obj (C:Str) (ns:List Str) (fs:List PV)
noncomputable abbrev FS:=List PV
noncomputable abbrev FT:=Option PV
inductive SO where
 |lst (xs:FS)
 |lol (xss:List FS)
 |dic (n:Bool) (kvs:List (PV×PV))
 |dol (n:Bool) (kvs:List (PV×FS))
noncomputable abbrev aI:=List SO
inductive AV where
 |pv (v:PV) |ref (k:Nat)
noncomputable abbrev FV:=Option AV
noncomputable abbrev FW:=List AV
noncomputable abbrev bM:=List FV
inductive bI(α:Type) where
 |ok (a:α) (S:aI) |exc (n:Str) (S:aI) |fail
noncomputable def bI.bind(r:bI α)(k:α->aI->bI β):bI β:=match r with
 |.ok a S=>k a S
 |.exc n S=>.exc n S
 |.fail=>.fail
inductive cA where
 |nx (ρ:bM) (S:aI) |rt (v:AV) (S:aI) |bk (ρ:bM) (S:aI) |ct (ρ:bM) (S:aI) |exc (n:Str) (S:aI) |fail
noncomputable def kW(K:ah)(c:Addr->Prop)(H:Hp)(a:Addr)(vs:List V):Prop:=
 (H a=some (.lst vs)/\¬c a)\/(∃o,H a=some (.frz o (.lst vs)))\/
  ∃(o:Obj)(its:Array Value)(n:Nat),K.lookup a=some o/\o.cls=.type "list"/\o.dict=none/\o.data=.seq its n/\its.size<=sizeLine/\bB vs its.toList
theorem kW.sq{K:ah}{c:Addr->Prop}{H:Hp}{a:Addr}{vs:List V}(h:kW K c H a vs):bS K H a vs:=by
 rcases h with h |h |h
 .exact .inl (.inl h.1)
 .exact .inl (.inr h)
 .exact .inr h
mutual
noncomputable def aL(K:ah)(c:Addr->Prop)(H:Hp):PV->V->Prop
 |.non,x=>x=.non
 |.bl b,x=>x=.bl b
 |.int i,x=>x=.int i
 |.str s,x=>x=.str s
 |.tup xs,x=>∃a vs,x=.ref a/\cO K H a vs/\vs.length<=sizeLine/\aM K c H xs vs
 |.lst xs,x=>∃a vs,x=.ref a/\kW K c H a vs/\vs.length<=sizeLine/\aM K c H xs vs
 |.obj C ns fs,x=>∃a dx vs D,x=.ref a/\(H a=some (.ins D dx (ns.zip vs))/\¬c a)/\dg K mainGlobals C=some (some (.ref D))/\ns.length=vs.length/\aM K c H fs vs
noncomputable def aM(K:ah)(c:Addr->Prop)(H:Hp):FS->List V->Prop
 |[],vs=>vs=[]
 |p::ps,vs=>∃v r,vs=v::r/\aL K c H p v/\aM K c H ps r
end
section
variable{K:ah}{c c':Addr->Prop}{H H':Hp}
mutual
theorem aL.mono(hT:∀a vs,cO K H a vs->cO K H' a vs)(hL:∀a vs,kW K c H a vs->kW K c' H' a vs)(hO:∀a C dx fs,H a=some (.ins C dx fs)/\¬c a->H' a=some (.ins C dx fs)/\¬c' a):∀(v:PV)(x:V),aL K c H v x->aL K c' H' v x
 |.non,x,h=>h
 |.bl b,x,h=>h
 |.int i,x,h=>h
 |.str s,x,h=>h
 |.tup xs,x,h=>by
  unfold aL at h⊢;obtain⟨a,vs,e,t,z,r⟩:=h;exact⟨a,vs,e,hT a vs t,z,aM.mono hT hL hO xs vs r⟩
 |.lst xs,x,h=>by
  unfold aL at h⊢;obtain⟨a,vs,e,t,z,r⟩:=h;exact⟨a,vs,e,hL a vs t,z,aM.mono hT hL hO xs vs r⟩
 |.obj C ns fs,x,h=>by
  unfold aL at h⊢;obtain⟨a,dx,vs,D,e,t,n,z,r⟩:=h;exact⟨a,dx,vs,D,e,hO a D dx _ t,n,z,aM.mono hT hL hO fs vs r⟩
theorem aM.mono(hT:∀a vs,cO K H a vs->cO K H' a vs)(hL:∀a vs,kW K c H a vs->kW K c' H' a vs)(hO:∀a C dx fs,H a=some (.ins C dx fs)/\¬c a->H' a=some (.ins C dx fs)/\¬c' a):∀(v:FS)(x:List V),aM K c H v x->aM K c' H' v x
 |[],vs,h=>by
  unfold aM at h⊢;exact h
 |p::ps,vs,h=>by
  unfold aM at h⊢;obtain⟨v,r,e,h1,h2⟩:=h;exact⟨v,r,e,aL.mono hT hL hO p v h1,aM.mono hT hL hO ps r h2⟩
end
theorem aM.length:∀{xs:FS}{vs:List V},aM K c H xs vs->xs.length=vs.length
 |[],vs,h=>by
  rw[h];rfl
 |p::ps,vs,h=>by
  obtain⟨v,r,rfl,_,h2⟩:=h;rw[bo,bo,aM.length h2]
theorem aM.get:∀{xs:FS}{vs:List V}{i:Nat}{p:PV},aM K c H xs vs->xs[i]?=some p->∃v,vs[i]?=some v/\aL K c H p v
 |[],vs,i,p,h,e=>by simp at e
 |q::ps,vs,0,p,h,e=>by
  obtain⟨v,r,rfl,h1,_⟩:=h;simp at e;subst e;exact⟨v,rfl,h1⟩
 |q::ps,vs,i+1,p,h,e=>by
  obtain⟨v,r,rfl,_,h2⟩:=h;obtain⟨u,e1,e2⟩:=aM.get  h2 (by simpa using e);exact⟨u,by simpa using e1,e2⟩
theorem aM.nil:aM K c H [] []:=rfl
theorem aM.cons(h:aL K c H p v)(t:aM K c H ps vs):aM K c H (p::ps) (v::vs):=⟨v,vs,rfl,h,t⟩
theorem aM.append:∀{xs ys:FS}{vs ws:List V},aM K c H xs vs->aM K c H ys ws->aM K c H (xs++ys) (vs++ws)
 |[],ys,vs,ws,h,g=>by
  subst h;exact g
 |p::ps,ys,vs,ws,h,g=>by
  obtain⟨v,r,rfl,h1,h2⟩:=h;exact .cons h1 (h2.append g)
theorem aM.drop:∀{xs:FS}{vs:List V}(n:Nat),aM K c H xs vs->aM K c H (xs.drop n) (vs.drop n)
 |xs,vs,0,h=>by simpa using h
 |[],vs,n+1,h=>by
  subst h;rfl
 |p::ps,vs,n+1,h=>by
  obtain⟨v,r,rfl,_,h2⟩:=h;simpa using h2.drop n
theorem aM.take:∀{xs:FS}{vs:List V}(n:Nat),aM K c H xs vs->aM K c H (xs.take n) (vs.take n)
 |xs,vs,0,h=>rfl
 |[],vs,n+1,h=>by
  subst h;rfl
 |p::ps,vs,n+1,h=>by
  obtain⟨v,r,rfl,h1,h2⟩:=h;simpa using aM.cons h1 (h2.take n)
theorem aM.eraseIdx:∀{xs:FS}{vs:List V}(n:Nat),aM K c H xs vs->aM K c H (xs.eraseIdx n) (vs.eraseIdx n)
 |[],vs,n,h=>by
  subst h;rfl
 |p::ps,vs,0,h=>by
  obtain⟨v,r,rfl,h1,h2⟩:=h;simpa using h2
 |p::ps,vs,n+1,h=>by
  obtain⟨v,r,rfl,h1,h2⟩:=h;simpa using aM.cons h1 (h2.eraseIdx n)
theorem aM.set(g:aL K c H p v):∀{xs:FS}{vs:List V}(n:Nat),aM K c H xs vs->aM K c H (xs.set n p) (vs.set n v)
 |[],vs,n,h=>by
  subst h;rfl
 |q::ps,vs,0,h=>by
  obtain⟨v,r,rfl,h1,h2⟩:=h;simpa using aM.cons g h2
 |q::ps,vs,n+1,h=>by
  obtain⟨v,r,rfl,h1,h2⟩:=h;simpa using aM.cons h1 (aM.set g n h2)
end
structure Ph where
 f:List Addr
 w:Addr->Prop
 c:Addr->Prop
noncomputable def xW(K:ah)(c:Addr->Prop)(H:Hp)(xss:List FS)(bs:List Addr):Prop:=
 xss.length=bs.length/\∀(i:Nat)(xs:FS)(b:Addr),xss[i]?=some xs->bs[i]?=some b->∃vs,H b=some (.lst vs)/\vs.length<=sizeLine/\aM K c H xs vs
noncomputable def dB:(n:Bool)->gZ n->PV
 |false,l=>.tup (lm PV.int l)
 |true,l=>.tup (lm (λr:FI=>PV.tup (r.map PV.int)) l)
noncomputable def oD(es:Array DictEntry)(ep:Nat):Obj:={cls:=.type "dict",data:=.dict es ep}
noncomputable def dO(a:Addr)(es:Array DictEntry)(ep:Nat):HO:=.ext λh=>h.get? a=some (oD es ep)
noncomputable def nO(n:Bool)(x:gZ n×Addr×Value):DictEntry:=⟨Nt n x.1,.ref x.2.1,x.2.2⟩
noncomputable def oR(K:ah)(c:Addr->Prop)(H:Hp)(a:Addr)(n:Bool)(ks:FS)(us:FN):Prop:=
 ∃(xs:List (gZ n×Addr×Value))(ep:Nat),H a=some (dO a (xs.map (nO n)).toArray ep)/\(a==sysModules)=false/\xs.length<=sizeLine/\(xs.map (·.1)).Nodup/\ks=xs.map (λx=>dB n x.1)/\aM K c H ks (xs.map λx=>V.ref x.2.1)/\us=xs.map (·.2.2)
noncomputable def sC(K:ah)(p:Ph)(H:Hp)(a:Addr):SO->Prop
 |.lst xs=>∃vs,H a=some (.lst vs)/\vs.length<=sizeLine/\aM K p.c H xs vs
 |.lol xss=>∃bs:List Addr,H a=some (.lst (bs.map V.ref))/\bs.length<=sizeLine/\bs.Nodup/\(∀b∈bs,p.w b/\b∉p.f)/\xW K p.c H xss bs
 |.dic n kvs=>∃us vs,oR K p.c H a n (kvs.map (·.1)) us/\bB vs us/\aM K p.c H (kvs.map (·.2)) vs
 |.dol n kvs=>∃bs:List Addr,oR K p.c H a n (kvs.map (·.1)) (bs.map cw)/\bs.Nodup/\(∀b∈bs,p.w b/\b∉p.f)/\xW K p.c H (kvs.map (·.2)) bs
theorem oR.mono{K:ah}{c c':Addr->Prop}{H H':Hp}{a:Addr}{n:Bool}{ks:FS}{us:FN}(h:oR K c H a n ks us)(ha:∀o,H a=some o->H' a=some o)(hR:∀xs vs,aM K c H xs vs->aM K c' H' xs vs):oR K c' H' a n ks us:=by
 obtain⟨xs,ep,e,z,l,nd,ek,r,eu⟩:=h;exact⟨xs,ep,ha _ e,z,l,nd,ek,hR _ _ r,eu⟩
theorem sC.mono{K:ah}{p p':Ph}{H H':Hp}{a:Addr}{o:SO}(h:sC K p H a o)(ha:∀o,H a=some o->H' a=some o)
  (hb:∀b,p.w b->b∉p.f->(p'.w b/\b∉p'.f)/\∀vs,H b=some (.lst vs)->H' b=some (.lst vs))(hR:∀xs vs,aM K p.c H xs vs->aM K p'.c H' xs vs):sC K p' H' a o:=by
 have lol:∀{xss:List _}{bs:List _},(∀b∈bs,p.w b/\b∉p.f)->xW K p.c H xss bs->xW K _ _ _ _:=λwf ⟨z,at_⟩=>⟨z,λi xs b e1 e2=>by
  obtain⟨vs,g1,g2,g3⟩:=at_ i _ b e1 e2;have m:=wf b (fy e2);exact⟨vs,(hb b m.1 m.2).2 _ g1,g2,hR _ _ g3⟩⟩
 cases o with
 |lst xs=>
  obtain⟨vs,e,l,r⟩:=h;exact⟨vs,ha _ e,l,hR _ _ r⟩
 |lol xss=>
  obtain⟨bs,e,l,nd,wf,z⟩:=h;exact⟨bs,ha _ e,l,nd,λb m=>(hb b (wf b m).1 (wf b m).2).1,lol wf z⟩
 |dic n kvs=>
  obtain⟨us,vs,d,v,r⟩:=h;exact⟨us,vs,d.mono ha hR,v,hR _ _ r⟩
 |dol n kvs=>
  obtain⟨bs,d,nd,wf,z⟩:=h;exact⟨bs,d.mono ha hR,nd,λb m=>(hb b (wf b m).1 (wf b m).2).1,lol wf z⟩
noncomputable def Mb:HO->Prop
 |.lst _=>True
 |.dK _=>True
 |.dT _=>True
 |.ins _ _ _=>True
 |.ext _=>True
 |_=>False
structure aW(K:ah)(p:Ph)(S:aI)(H:Hp):Prop where
 nd:p.f.Nodup
 len:p.f.length=S.length
 sub:∀a∈p.f,p.w a
 wc:∀a,p.w a->p.c a
 mu:∀a,p.c a->∃o,H a=some o/\Mb o
 obj:∀(k:Nat)(a:Addr)(o:SO),p.f[k]?=some a->S[k]?=some o->sC K p H a o
structure bF(p:Ph)(H:Hp)(q:Ph)(H':Hp):Prop where
 wc:∀a,p.w a->p.c a
 mu:∀a,p.c a->∃o,H a=some o/\Mb o
 pre:p.f <+:q.f
 mw:∀a,p.w a->q.w a
 mono:∀a,p.c a->q.c a
 nf:∀a∈q.f,a∉p.f->H a=none
 nw:∀a,q.w a->¬p.w a->H a=none
 nc:∀a,q.c a->¬p.c a->H a=none
 keep:∀a o,H a=some o->¬p.w a->H' a=some o
noncomputable def bY(K:ah)(p:Ph)(H:Hp):AV->V->Prop
 |.pv v,x=>aL K p.c H v x
 |.ref k,x=>∃a,p.f[k]?=some a/\x=.ref a
noncomputable abbrev gH(K:ah)(p:Ph)(H:Hp):FW->List V->Prop:=fk (bY K p H)
structure cU(K:ah)(p:Ph)(H:Hp)(ρ:bM)(σ:St):Prop where
 len:ρ.length=σ.length
 at_:∀(i:Nat)(v:AV),ρ[i]?=some (some v)->∃x,σ[i]?=some (some x)/\bY K p H v x
section
variable{K:ah}{p q r:Ph}{H H' H'':Hp}{S:aI}
theorem aW.step(s:aW K p S H):bF p H p H:=⟨s.wc,s.mu,lp,λ_ h=>h,λ_ h=>h,λ_ h g=>absurd h g,λ_ h g=>absurd h g,λ_ h g=>absurd h g,λ_ _ h _=>h⟩
theorem bF.trans(a:bF p H q H')(b:bF q H' r H''):bF p H r H'':=by
 have back:∀x,H' x=none->¬p.w x->H x=none:=λx h n=>by
  cases e:H x with
  |none=>rfl
  |some o=>rw[a.keep x o e n]at h;cases h
 refine⟨a.wc,a.mu,a.pre.trans b.pre,λx h=>b.mw x (a.mw x h),λx h=>b.mono x (a.mono x h),λx h n=>?_,λx h n=>?_,λx h n=>?_,λx o e n=>?_⟩
 .by_cases m:x∈q.f
  .exact a.nf x m n
  .have hn:=b.nf x h m
   refine back x hn λz=>?_;obtain⟨o,ho,_⟩:=b.mu x (a.mono x (a.wc x z));simp_all
 .by_cases m:q.w x
  .exact a.nw x m n
  .exact back x (b.nw x h m) n
 .by_cases m:q.c x
  .exact a.nc x m n
  .exact back x (b.nc x h m) λz=>n (a.wc x z)
 .refine b.keep x o (a.keep x o e n) λz=>?_
  rw[a.nw x z n]at e;cases e
theorem bF.tup(s:bF p H q H'){a:Addr}{vs:List V}(h:cO K H a vs):cO K H' a vs:=by
 have go:∀o,H a=some o->¬Mb o->H' a=some o:=λo e n=>s.keep a o e λz=>by
  obtain⟨u,e',m⟩:=s.mu a (s.wc a z);simp_all
 rcases h with(h |⟨o,h⟩) |h
 .exact .inl (.inl (go _ h λz=>z))
 .exact .inl (.inr ⟨o,go _ h λz=>z ⟩)
 .exact .inr h
theorem bF.lat(s:bF p H q H'){a:Addr}{vs:List V}(h:kW K p.c H a vs):kW K q.c H' a vs:=by
 rcases h with⟨h,n⟩|⟨o,h⟩|h
 .refine .inl ⟨s.keep a _ h λz=>n (s.wc a z),λz=>?_⟩
  rw[s.nc a z n]at h;cases h
 .refine .inr (.inl ⟨o,s.keep a _ h λz=>?_⟩)
  obtain⟨u,e',m⟩:=s.mu a (s.wc a z);rw[h]at e';cases e';exact m
 .exact .inr (.inr h)
theorem bF.oat(s:bF p H q H'){a C dx:Addr}{fs:List (Str×V)}(h:H a=some (.ins C dx fs)/\¬p.c a):H' a=some (.ins C dx fs)/\¬q.c a:=by
 refine⟨s.keep a _ h.1 λz=>h.2 (s.wc a z),λz=>?_⟩;have e:=s.nc a z h.2;simp_all
theorem bF.rep(s:bF p H q H'){v:PV}{x:V}(h:aL K p.c H v x):aL K q.c H' v x:=aL.mono (λ_ _=>s.tup) (λ_ _=>s.lat) (λ_ _ _ _=>s.oat) v x h
theorem bF.reps(s:bF p H q H'){v:FS}{x:List V}(h:aM K p.c H v x):aM K q.c H' v x:=aM.mono (λ_ _=>s.tup) (λ_ _=>s.lat) (λ_ _ _ _=>s.oat) v x h
theorem bF.at_(s:bF p H q H'){k:Nat}{a:Addr}(h:p.f[k]?=some a):q.f[k]?=some a:=by
 obtain⟨t,e⟩:=s.pre;rw[<-e,ib (by
  have:=da.mp h;exact this.1)]
 exact h
theorem bF.repA(s:bF p H q H'){v:AV}{x:V}(h:bY K p H v x):bY K q H' v x:=by
 cases v with
 |pv v=>exact s.rep h
 |ref k=>
  obtain⟨a,e,f⟩:=h;exact⟨a,s.at_ e,f⟩
theorem bF.repAs(s:bF p H q H'):∀{v:FW}{x:List V},gH K p H v x->gH K q H' v x
 |_,_,.nil=>.nil
 |_,_,.cons h t=>.cons (s.repA h) (s.repAs t)
theorem bF.repE(s:bF p H q H'){ρ:bM}{σ:St}(h:cU K p H ρ σ):cU K q H' ρ σ:=
 ⟨h.len,λi v e=>let⟨x,e1,e2⟩:=h.at_ i v e;⟨x,e1,s.repA e2⟩⟩
theorem aW.same(s:aW K p S H)(h:cN H H'):bF p H p H':=⟨s.wc,s.mu,lp,λ_ h=>h,λ_ h=>h,λ_ h g=>absurd h g,λ_ h g=>absurd h g,λ_ h g=>absurd h g,λa o e _=>h a o e⟩
theorem aW.ofSame(s:aW K p S H)(h:cN H H'):aW K p S H':=
 ⟨s.nd,s.len,s.sub,s.wc,λa m=>let⟨o,e,m⟩:=s.mu a m;⟨o,h a o e,m⟩,λk a o e1 e2=>(s.obj k a o e1 e2).mono (λvs e=>h _ _ e) (λb w f=>⟨⟨w,f⟩,λvs e=>h _ _ e⟩) λxs vs=>(s.same h).reps ⟩
theorem fS(h:H a=none):cN H (aS H a o):=λb u e=>by
 rw[bO (gB e h)];exact e
end
section
variable{α β γ δ:Type}
noncomputable def bU(K:ah)(cl:Str->Addr)(R:Ph->Hp->α->β->Prop)(p:Ph)(H:Hp)(r:bI α)(Q:β->Hp->Prop)(E:XK):Prop:=match r with
 |.ok a S=>∀q H' x,bF p H q H'->aW K q S H'->R q H' a x->Q x H'
 |.exc n S=>∀q H',bF p H q H'->aW K q S H'->E (.ref (cl n)) none H'
 |.fail=>False
noncomputable def dD(K:ah)(cl:Str->Addr)(p:Ph)(H:Hp)(r:cA)(D:lK)(E:XK):Prop:=match r with
 |.nx ρ S=>∀q H' σ,bF p H q H'->aW K q S H'->cU K q H' ρ σ->D.nx σ H'
 |.bk ρ S=>∀q H' σ,bF p H q H'->aW K q S H'->cU K q H' ρ σ->D.bk σ H'
 |.ct ρ S=>∀q H' σ,bF p H q H'->aW K q S H'->cU K q H' ρ σ->D.ct σ H'
 |.rt v S=>∀q H' x,bF p H q H'->aW K q S H'->bY K q H' v x->D.rt x H'
 |.exc n S=>∀q H',bF p H q H'->aW K q S H'->E (.ref (cl n)) none H'
 |.fail=>False
variable{K:ah}{cl:Str->Addr}{p q:Ph}{H H':Hp}{S:aI}{E:XK}{R:Ph->Hp->α->β->Prop}{R':Ph->Hp->γ->δ->Prop}
theorem bU.mono(h:bU K cl R p H r Q E)(s:bF p H q H'):bU K cl R q H' r Q E:=by
 cases r with
 |ok a S=>exact λq' H'' x s'=>h _ _ x (s.trans s')
 |exc n S=>exact λq' H'' s'=>h _ _ (s.trans s')
 |fail=>exact h
theorem dD.mono(h:dD K cl p H r D E)(s:bF p H q H'):dD K cl q H' r D E:=by
 cases r with
 |nx ρ S=>exact λq' H'' x s'=>h _ _ x (s.trans s')
 |bk ρ S=>exact λq' H'' x s'=>h _ _ x (s.trans s')
 |ct ρ S=>exact λq' H'' x s'=>h _ _ x (s.trans s')
 |rt v S=>exact λq' H'' x s'=>h _ _ x (s.trans s')
 |exc n S=>exact λq' H'' s'=>h _ _ (s.trans s')
 |fail=>exact h
theorem bU.ret{Q:β->Hp->Prop}(h:bU K cl R p H (.ok a S) Q E)(s:aW K p S H)(r:R p H a x):Q x H:=h p H x s.step s r
theorem bU.same{Q:β->Hp->Prop}(h:bU K cl R p H (.ok a S) Q E)(s:aW K p S H)(e:cN H H')(r:R p H' a x):Q x H':=h p _ x (s.same e) (s.ofSame e) r
noncomputable def tP(K:ah)(cl:Str->Addr)(E:XK)(R:Ph->Hp->α->β->Prop)(m:bM->aI->bI α)(σ:St)(H:Hp)(Q:β->Hp->Prop):Prop:=
 ∃p S ρ,aW K p S H/\cU K p H ρ σ/\bU K cl R p H (m ρ S) Q E
noncomputable def tS(K:ah)(cl:Str->Addr)(E:XK)(m:bM->aI->cA):TS:=λD σ H=>
 ∃p S ρ,aW K p S H/\cU K p H ρ σ/\dD K cl p H (m ρ S) D E
theorem bT{ρ:bM}{σ:St}{Q:δ->Hp->Prop}{T:β->Hp->Prop}(s:aW K p S H)(e:cU K p H ρ σ)(h:bU K cl R' p H ((m ρ S).bind k) Q E)
  (g:∀q H' a b S',bF p H q H'->aW K q S' H'->cU K q H' ρ σ->R q H' a b->bU K cl R' q H' (k a S') Q E->T b H'):tP K cl E R m σ H T:=by
 refine⟨p,S,ρ,s,e,?_⟩;cases z:m _ S with
 |ok a S1=>
  rw[z]at h;exact λq H' b st sm r=>g q _ a b _ st sm (st.repE e) r (bU.mono  h st)
 |exc n S1=>
  rw[z]at h;exact h
 |fail=>
  rw[z]at h;exact h
noncomputable def cA.of(r:bI α)(k:α->aI->cA):cA:=match r with
 |.ok a S=>k a S
 |.exc n S=>.exc n S
 |.fail=>.fail
theorem kL{ρ:bM}{σ:St}{D:lK}{T:β->Hp->Prop}(s:aW K p S H)(e:cU K p H ρ σ)(h:dD K cl p H (cA.of (m ρ S) k) D E)
  (g:∀q H' a b S',bF p H q H'->aW K q S' H'->cU K q H' ρ σ->R q H' a b->dD K cl q H' (k a S') D E->T b H'):tP K cl E R m σ H T:=by
 refine⟨p,S,ρ,s,e,?_⟩;cases z:m _ S with
 |ok a S1=>
  rw[z]at h;exact λq H' b st sm r=>g q _ a b _ st sm (st.repE e) r (dD.mono  h st)
 |exc n S1=>
  rw[z]at h;exact h
 |fail=>
  rw[z]at h;exact h
end
end
noncomputable abbrev RB:Ph->Hp->Bool->Bool->Prop:=λ_ _ a b=>a=b
noncomputable abbrev ME:=bM->aI->bI AV
noncomputable abbrev MT:=bM->aI->bI Bool
noncomputable abbrev MA:=bM->aI->bI FW
noncomputable abbrev MS:=bM->aI->cA
section
variable(K:ah)(cl:Str->Addr)(E:XK)(X:Cx)
noncomputable def aT(e:ai)(m:ME):Prop:=X.K=K->PE X e (tP K cl E (bY K) m)
noncomputable def eS(e:ai)(m:MT):Prop:=X.K=K->PT X e (tP K cl E RB m)
noncomputable def kK(e:ai)(m:MT):Prop:=X.K=K->PW X e (tP K cl E RB m)
noncomputable def dS(es:List ai)(m:MA):Prop:=X.K=K->PA X es (tP K cl E (gH K) m)
noncomputable def dY(st:Stmt)(m:MS):Prop:=X.K=K->PS X st (tS K cl E m)
noncomputable def fY(st:List Stmt)(m:MS):Prop:=X.K=K->eZ X st (tS K cl E m)
end
theorem PA.imp(h:PA X es t)(i:∀σ H Q,t' σ H Q->t σ H Q):PA X es t':=λpos FX s σ H Q I q=>h _ _ s _ H Q I (i _ H Q q)
theorem PW.imp(h:PW X e t)(i:∀σ H Q,t' σ H Q->t σ H Q):PW X e t':=λwh FX s σ H Q I q=>h _ _ s _ H Q I (i _ H Q q)
noncomputable def aB(i:Nat):ME:=λρ S=>match ρ[i]? with
 |some (some v)=>.ok v S
 |_=>.fail
noncomputable def mC(v:PV):ME:=λ_ S=>.ok (.pv v) S
noncomputable def rd(S:aI):AV->FT
 |.pv v=>some v
 |.ref k=>match S[k]? with
  |some (.lst xs)=>some (.lst xs)
  |_=>none
noncomputable def iE(S:aI):FW->Option FS
 |[]=>some []
 |a::r=>match rd S a with
  |some v=>match iE S r with
   |some vs=>some (v::vs)
   |none=>none
  |none=>none
noncomputable def iJ(o:FT)(S:aI):bI AV:=match o with
 |some r=>.ok (.pv r) S
 |none=>.fail
noncomputable def uF(f:PV->FT)(a:AV)(S:aI):bI AV:=iJ ((rd S a).bind f) S
noncomputable def lI(f:PV->PV->FT)(a b:AV)(S:aI):bI AV:=iJ ((rd S a).bind λx=>(rd S b).bind λy=>f x y) S
noncomputable def bV(f:PV->FT)(ma:ME):ME:=λρ S=>(ma ρ S).bind λx S1=>uF f x S1
noncomputable def aC(f:PV->PV->FT)(ma mb:ME):ME:=λρ S=>(ma ρ S).bind λx S1=>(mb ρ S1).bind λy S2=>lI f x y S2
noncomputable def aF:MA:=λ_ S=>.ok [] S
noncomputable def aD(ma:ME)(mr:MA):MA:=λρ S=>(ma ρ S).bind λx S1=>(mr ρ S1).bind λxs S2=>.ok (x::xs) S2
noncomputable def oI:FW->Option FS
 |[]=>some []
 |.pv v::r=>match oI r with
  |some vs=>some (v::vs)
  |none=>none
 |.ref _::_=>none
noncomputable def We(f:FS->FT)(xs:FW)(S:aI):bI AV:=iJ ((oI xs).bind f) S
noncomputable def oF(f:FS->FT)(xs:FW)(S:aI):bI AV:=iJ ((iE S xs).bind f) S
noncomputable def mR(f:FS->FT)(ma:MA):ME:=λρ S=>(ma ρ S).bind λxs S1=>oF f xs S1
noncomputable def mN(f:FS->FT)(ma:MA):ME:=λρ S=>(ma ρ S).bind λxs S1=>We f xs S1
noncomputable def fI(vs:FS):FT:=if vs.length<=16777216 then some (.tup vs)else none
noncomputable def fX(vs:FS):FT:=if vs.length<=16777216 then some (.lst vs)else none
noncomputable def lS:AV->aI->bI Bool
 |.pv (.bl b),S=>.ok b S
 |_,_=>.fail
noncomputable def bG(m:ME):MT:=λρ S=>(m ρ S).bind lS
noncomputable def oN(m:MT):MT:=λρ S=>(m ρ S).bind λb S1=>.ok (!b) S1
noncomputable def kU(m n:MT):MT:=λρ S=>(m ρ S).bind λb S1=>if b=true then n ρ S1 else .ok false S1
noncomputable def oS(m n:MT):MT:=λρ S=>(m ρ S).bind λb S1=>if b=true then .ok true S1 else n ρ S1
noncomputable def uG(m n:ME):ME:=λρ S=>(m ρ S).bind λx S1=>match x with
 |.pv (.bl true)=>n ρ S1
 |.pv (.bl false)=>.ok (.pv (.bl false)) S1
 |_=>.fail
noncomputable def aex(m n:ME):ME:=λρ S=>(m ρ S).bind λx S1=>match x with
 |.pv (.bl false)=>n ρ S1
 |.pv (.bl true)=>.ok (.pv (.bl true)) S1
 |_=>.fail
noncomputable def uQ:PV->FT
 |.bl b=>some (.bl (!b))
 |_=>none
noncomputable def qH(c:MT)(a b:ME):ME:=λρ S=>(c ρ S).bind λt S1=>if t=true then a ρ S1 else b ρ S1
section
variable{K:ah}{cl:Str->Addr}{E:XK}{X:Cx}{a b c e:ai}{es:List ai}{ma mb m:ME}{mt nt:MT}{ms:MA}{pos:ak}
theorem acK(i:Nat){x:Str}(hN:X.N[i]?=some x:=by rfl)(hv:nK X.env.scope x:=by first |exact ic rfl |exact eh (ic rfl) |exact eh (eh rfl))(hd:(x==("__debug__":Str))=false:=by decide)
  (hcd:(x==("__classdict__":Str))=false:=by decide):aT K cl E X (.Name x pos) (aB i):=λ_=>(rM hN hv hd hcd).imp λσ H Q ⟨p,S,ρ,s,e,h⟩=>by
 unfold aB at h;cases z:ρ[i]? with
 |none=>rw[z]at h;exact h.elim
 |some o=>
  cases o with
  |none=>rw[z]at h;exact h.elim
  |some v=>
   rw[z]at h;obtain⟨x,e1,e2⟩:=e.at_ i v z;exact⟨x,e1,bU.ret h s e2⟩
theorem abB:aT K cl E X (.Constant (.int i) j pos) (mC (.int i)):=λ_=>Zc.imp λσ H Q ⟨p,S,ρ,s,e,h⟩=>bU.ret   h s rfl
theorem ad5:aT K cl E X (.Constant (.bool i) j pos) (mC (.bl i)):=λ_=>aed.imp λσ H Q ⟨p,S,ρ,s,e,h⟩=>bU.ret   h s rfl
noncomputable def dQ(K:ah)(p:Ph)(H:Hp)(v:PV)(x:V):Prop:=aL K p.c H v x\/∃xs a vs,v=.lst xs/\x=.ref a/\H a=some (.lst vs)/\vs.length<=sizeLine/\aM K p.c H xs vs
theorem dQ.int(h:dQ K p H (.int i) x):x=.int i:=by
 rcases h with h |⟨_,_,_,e,_⟩
 .exact h
 .cases e
theorem dQ.bl(h:dQ K p H (.bl i) x):x=.bl i:=by
 rcases h with h |⟨_,_,_,e,_⟩
 .exact h
 .cases e
theorem dQ.str(h:dQ K p H (.str i) x):x=.str i:=by
 rcases h with h |⟨_,_,_,e,_⟩
 .exact h
 .cases e
theorem dQ.non(h:dQ K p H .non x):x=.non:=by
 rcases h with h |⟨_,_,_,e,_⟩
 .exact h
 .cases e
theorem dQ.obj{fs:FS}{x:V}(h:dQ K p H (.obj C ns fs) x):∃a dx vs D,x=.ref a/\(H a=some (.ins D dx (ns.zip vs))/\¬p.c a)/\dg K mainGlobals C=some (some (.ref D))/\ns.length=vs.length/\aM K p.c H fs vs:=by
 rcases h with h |⟨_,_,_,e,_⟩
 .exact h
 .cases e
theorem dQ.tup{xs:FS}{x:V}(h:dQ K p H (.tup xs) x):∃a vs,x=.ref a/\cO K H a vs/\vs.length<=sizeLine/\aM K p.c H xs vs:=by
 rcases h with h |⟨_,_,_,e,_⟩
 .exact h
 .cases e
theorem dQ.lst{xs:FS}{x:V}(h:dQ K p H (.lst xs) x):∃a vs,x=.ref a/\bS K H a vs/\vs.length<=sizeLine/\aM K p.c H xs vs:=by
 rcases h with h |⟨ys,a,vs,e,e2,h,z,r⟩
 .obtain⟨a,vs,e,l,z,r⟩:=h;exact⟨a,vs,e,l.sq,z,r⟩
 .cases e
  exact⟨a,vs,e2,bS.of h,z,r⟩
theorem pL{a:AV}{v:PV}{x:V}(s:aW K p S H)(r:bY K p H a x)(e:rd S a=some v):dQ K p H v x:=by
 cases a with
 |pv u=>cases e;exact .inl r
 |ref k=>
  obtain⟨a,e1,rfl⟩:=r;unfold rd at e;cases z:S[k]? with
  |none=>simp_all
  |some o=>
   cases o with
   |lst xs=>
    simp only[z]at e;cases e;obtain⟨vs,h,l,r⟩:=s.obj k a _ e1 z;exact .inr ⟨xs,a,vs,rfl,rfl,h,l,r⟩
   |lol _=>simp_all
   |dic _ _=>simp_all
   |dol _ _=>simp_all
noncomputable abbrev Oe(K:ah)(p:Ph)(H:Hp):FS->List V->Prop:=fk (dQ K p H)
theorem wC(s:aW K p S H):∀{as:FW}{vs:FS}{xs:List V},gH K p H as xs->iE S as=some vs->Oe K p H vs xs
 |[],vs,_,.nil,e=>by
  cases e;exact .nil
 |a::r,vs,_,.cons h t,e=>by
  unfold iE at e;cases z:rd S a with
  |none=>simp_all
  |some v=>
   simp only[z]at e;cases y:iE S r with
   |none=>simp_all
   |some us=>
    simp only[y]at e;cases e;exact .cons (pL s h z) (wC s t y)
noncomputable def gS(K:ah)(r:R2)(f:PV->PV->FT):Prop:=∀{p:Ph}{S:aI}{H:Hp}{a b c:PV}{x y:V}{Q:VK},aW K p S H->dQ K p H a x->dQ K p H b y->f a b=some c->
 (∀H' z,cN H H'->aL K p.c H' c z->Q z H')->r x y H Q
noncomputable def vJ(K:ah)(r:V->Hp->VK->Prop)(f:PV->FT):Prop:=∀{p:Ph}{S:aI}{H:Hp}{a c:PV}{x:V}{Q:VK},aW K p S H->dQ K p H a x->f a=some c->
 (∀H' z,cN H H'->aL K p.c H' c z->Q z H')->r x H Q
noncomputable def CaS(K:ah)(r:List V->Hp->VK->Prop)(f:FS->FT):Prop:=∀{p:Ph}{S:aI}{H:Hp}{as:FS}{c:PV}{xs:List V}{Q:VK},aW K p S H->aM K p.c H as xs->f as=some c->
 (∀H' z,cN H H'->aL K p.c H' c z->Q z H')->r xs H Q
noncomputable def jV(K:ah)(r:List V->Hp->VK->Prop)(f:FS->FT):Prop:=∀{p:Ph}{S:aI}{H:Hp}{as:FS}{c:PV}{xs:List V}{Q:VK},aW K p S H->Oe K p H as xs->f as=some c->
 (∀H' z,cN H H'->aL K p.c H' c z->Q z H')->r xs H Q
theorem pI{Q:VK}(s:aW K p S H)(h:bU K cl (bY K) p H (iJ o S) Q E):∃c,o=some c/\∀H' z,cN H H'->aL K p.c H' c z->Q z H':=by
 cases o with
 |none=>exact h.elim
 |some c=>exact⟨c,rfl,λH' z sm rz=>bU.same  h s sm rz⟩
theorem vX(hf:gS K r f){p:Ph}{S:aI}{H:Hp}{a b:AV}{x y:V}{Q:VK}(s:aW K p S H)(ra:bY K p H a x)(rb:bY K p H b y)(h:bU K cl (bY K) p H (lI f a b S) Q E):r x y H Q:=by
 obtain⟨c,e,k⟩:=pI s h;cases z:rd S a with
 |none=>simp_all
 |some v=>
  cases y:rd S b with
  |none=>simp_all
  |some w=>
   rw[z,y]at e;exact hf s (pL s ra z) (pL s rb y) e k
theorem sZ(hf:vJ K r f){p:Ph}{S:aI}{H:Hp}{a:AV}{x:V}{Q:VK}(s:aW K p S H)(ra:bY K p H a x)(h:bU K cl (bY K) p H (uF f a S) Q E):r x H Q:=by
 obtain⟨c,e,k⟩:=pI s h;cases z:rd S a with
 |none=>simp_all
 |some v=>
  rw[z]at e;exact hf s (pL s ra z) e k
theorem wD(hf:jV K r f){p:Ph}{S:aI}{H:Hp}{as:FW}{xs:List V}{Q:VK}(s:aW K p S H)(ra:gH K p H as xs)(h:bU K cl (bY K) p H (oF f as S) Q E):r xs H Q:=by
 obtain⟨c,e,k⟩:=pI s h;cases z:iE S as with
 |none=>simp_all
 |some v=>
  rw[z]at e;exact hf s (wC s ra z) e k
theorem La:∀{as:FW}{vs:FS}{xs:List V},oI as=some vs->gH K p H as xs->aM K p.c H vs xs
 |[],vs,_,e,.nil=>by
  cases e;exact .nil
 |.pv v::r,vs,_,e,.cons h t=>by
  unfold oI at e;cases z:oI r with
  |none=>simp_all
  |some us=>
   simp only[z]at e;cases e;exact .cons h (La z t)
 |.ref k::r,vs,_,e,.cons h t=>by
  cases e
theorem Gk(hf:CaS K r f){p:Ph}{S:aI}{H:Hp}{as:FW}{xs:List V}{Q:VK}(s:aW K p S H)(ra:gH K p H as xs)(h:bU K cl (bY K) p H (We f as S) Q E):r xs H Q:=by
 obtain⟨c,e,k⟩:=pI s h;cases z:oI as with
 |none=>simp_all
 |some v=>
  rw[z]at e;exact hf s (La z ra) e k
theorem rX(ho:dX X (binaryOp op) r)(hf:gS X.K r f)(ha:aT K cl E X a ma)(hb:aT K cl E X b mb):aT K cl E X (.BinOp a op b pos) (aC f ma mb):=by
 intro hK;subst hK;refine(ac4 ho (ha rfl) (hb rfl)).imp ?_
 rintro σ H Q ⟨p,S,ρ,s,e,h⟩
 exact bT s e h λq H1 a x S1 st s1 e1 r1 h1=>bT s1 e1 h1 λq2 H2 b y S2 st2 s2 e2 r2 h2=>vX hf s2 (st2.repA r1) r2 h2
theorem adx(ho:yY X (unaryOp op) r)(hf:vJ X.K r f)(ha:aT K cl E X a ma):aT K cl E X (.UnaryOp op a pos) (bV f ma):=by
 intro hK;subst hK;refine(Zs ho (ha rfl)).imp ?_
 rintro σ H Q ⟨p,S,ρ,s,e,h⟩
 exact bT s e h λq H1 a x S1 st s1 e1 r1 h1=>sZ hf s1 r1 h1
theorem rN(ho:dX X (compareOp op) r)(hf:gS X.K r f)(ha:aT K cl E X a ma)(hb:aT K cl E X b mb)(hm:behindInMarks op b=false):aT K cl E X (.Compare a [op] [b] pos) (aC f ma mb):=by
 intro hK;subst hK;refine(aal ho (ha rfl) (hb rfl) hm).imp ?_
 rintro σ H Q ⟨p,S,ρ,s,e,h⟩
 exact bT s e h λq H1 a x S1 st s1 e1 r1 h1=>bT s1 e1 h1 λq2 H2 b y S2 st2 s2 e2 r2 h2=>vX hf s2 (st2.repA r1) r2 h2
theorem Jt(r:bY K p H v x){b:Bool}(e:v=.pv (.bl b)):x=.bl b:=by
 subst e;exact r
theorem En(s:aW K p S H)(r:bY K p H v x)
  (h:bU K cl RB p H (lS v S) Q E):∃k,x=.bl k/\Q k H:=by
 cases v with
 |ref k=>exact h.elim
 |pv v=>
  cases v with
  |bl b=>exact⟨b,Jt r rfl,bU.ret  h s rfl⟩
  |_=>exact h.elim
theorem rG(ho:dX X (compareOp op) r)(hf:gS X.K r f)(ha:aT K cl E X a ma)(hb:aT K cl E X b mb)(hm:behindInMarks op b=false):eS K cl E X (.Compare a [op] [b] pos) (bG (aC f ma mb)):=by
 intro hK;subst hK;refine(aar ho (ha rfl) (hb rfl) hm).imp ?_
 rintro σ H Q ⟨p,S,ρ,s,e,h⟩
 have z:tP _ _ E (bY _) _ _ H _:=bT s e h λq H1 a x S1 st s1 e1 r1 h1=>En s1 r1 h1;obtain⟨p',S',ρ',s',e',h'⟩:=z;exact bT s' e' h' λq H1 a x S1 st s1 e1 r1 h1=>bT s1 e1 h1 λq2 H2 b y S2 st2 s2 e2 r2 h2=>vX hf s2 (st2.repA r1) r2 h2
theorem aa6(ha:aT K cl E X a ma)(he:∀whole,isTrue a X.env whole=(do let v <-whole;standAt a.pos;holding [v] (truthy v)):=by intro _;rfl):eS K cl E X a (bG ma):=by
 intro hK;subst hK;refine(acm (ha rfl) he).imp ?_
 rintro σ H Q ⟨p,S,ρ,s,e,h⟩
 exact bT s e h λq H1 a x S1 st s1 e1 r1 h1=>En s1 r1 h1
theorem aai(ha:eS K cl E X a mt):eS K cl E X (.UnaryOp .Not a pos) (oN mt):=by
 intro hK;subst hK;refine(acg (ha rfl)).imp ?_
 rintro σ H Q ⟨p,S,ρ,s,e,h⟩
 exact bT s e h λq H1 a x S1 st s1 e1 r1 h1=>by
  cases r1;exact bU.ret  h1 s1 rfl
theorem M8(ha:eS K cl E X a mt):kK K cl E X (.BoolOp .And [a] pos) mt:=λhK=>aaF (ha hK)
theorem aav(ha:eS K cl E X a mt):kK K cl E X (.BoolOp .Or [a] pos) mt:=λhK=>abP (ha hK)
theorem kK.pt(h:kK K cl E X a mt):eS K cl E X a mt:=λhK=>PW.pt (h hK)
theorem aaA{eR:List ai}(ha:eS K cl E X a mt)(hb:kK K cl E X (.BoolOp .And (b::eR) pos) nt):kK K cl E X (.BoolOp .And (a::b::eR) pos) (kU mt nt):=by
 intro hK;subst hK;refine PW.imp (acB (ha rfl) (hb rfl)) ?_
 rintro σ H Q ⟨p,S,ρ,s,e,h⟩
 refine bT s e h λq H1 a x S1 st s1 e1 r1 h1=>?_;cases r1;cases a with
 |true=>exact⟨q,S1,ρ,s1,e1,h1⟩
 |false=>exact bU.ret  h1 s1 rfl
theorem acO{eR:List ai}(ha:eS K cl E X a mt)(hb:kK K cl E X (.BoolOp .Or (b::eR) pos) nt):kK K cl E X (.BoolOp .Or (a::b::eR) pos) (oS mt nt):=by
 intro hK;subst hK;refine PW.imp (aea (ha rfl) (hb rfl)) ?_
 rintro σ H Q ⟨p,S,ρ,s,e,h⟩
 refine bT s e h λq H1 a x S1 st s1 e1 r1 h1=>?_;cases r1;cases a with
 |true=>exact bU.ret  h1 s1 rfl
 |false=>exact⟨q,S1,ρ,s1,e1,h1⟩
theorem acx{eR:List ai}(ha:aT K cl E X a ma)(hb:aT K cl E X (.BoolOp .And (b::eR) pos) mb):aT K cl E X (.BoolOp .And (a::b::eR) pos) (uG ma mb):=by
 intro hK;subst hK;refine(ab1 (ha rfl) (hb rfl)).imp ?_
 rintro σ H Q ⟨p,S,ρ,s,e,h⟩
 refine bT s e h λq H1 a x S1 st s1 e1 r1 h1=>?_;cases a with
 |ref k=>exact h1.elim
 |pv v=>
  cases v with
  |bl b=>
   refine⟨b,Jt r1 rfl,?_⟩;cases b with
   |true=>exact⟨q,S1,ρ,s1,e1,h1⟩
   |false=>exact bU.ret  h1 s1 (by rfl)
  |_=>exact h1.elim
theorem acs(ha:aT K cl E X a ma):aT K cl E X (.UnaryOp .Not a pos) (bV uQ ma):=by
 intro hK;subst hK;refine(acv (ha rfl)).imp ?_
 rintro σ H Q ⟨p,S,ρ,s,e,h⟩
 refine bT s e h λq H1 a x S1 st s1 e1 r1 h1=>?_;refine sZ (r:=λx H Q=>∃c,x=.bl c/\Q (.bl !c) H)  (λ{p S H a c x Q} s r e k=>?_) s1 r1 h1;cases a with
 |bl b=>
  cases e;exact⟨b,r.bl,k H _ (cN.refl H) (rfl)⟩
 |_=>cases e
theorem adV(hc:eS K cl E X c mt)(ha:aT K cl E X a ma)(hb:aT K cl E X b mb):aT K cl E X (.IfExp c a b pos) (qH mt ma mb):=by
 intro hK;subst hK;refine(L8 (hc rfl) (ha rfl) (hb rfl)).imp ?_
 rintro σ H Q ⟨p,S,ρ,s,e,h⟩
 refine bT s e h λq H1 a x S1 st s1 e1 r1 h1=>?_;cases r1;cases a with
 |true=>exact⟨q,S1,ρ,s1,e1,h1⟩
 |false=>exact⟨q,S1,ρ,s1,e1,h1⟩
theorem W5:dS K cl E X [] aF:=λ_=>PA.imp nX λσ H Q ⟨p,S,ρ,s,e,h⟩=>bU.ret  h s .nil
theorem R7(ha:aT K cl E X e m)(hr:dS K cl E X es ms)(hs:starEach (e::es) X.env=(false,eval e X.env)::starEach es X.env:=by rfl):dS K cl E X (e::es) (aD m ms):=by
 intro hK;subst hK;refine PA.imp (mE (ha rfl) (hr rfl) hs) ?_
 rintro σ H Q ⟨p,S,ρ,s,e,h⟩
 exact bT s e h λq H1 a x S1 st s1 e1 r1 h1=>bT s1 e1 h1 λq2 H2 b y S2 st2 s2 e2 r2 h2=>bU.ret  h2 s2 (.cons (st2.repA r1) r2)
theorem rF(s:aW K p S H)(r:aM K p.c H vs xs)(z:xs.length<=sizeLine)(ht:H t=none):aL K p.c (aS H t (.tup xs)) (.tup vs) (.ref t):=⟨t,xs,rfl,cO.of eI,z,(s.same (fS ht)).reps r⟩
theorem lC(s:aW K p S H)(r:aM K p.c H vs xs)(z:xs.length<=sizeLine)(ht:H t=none):aL K p.c (aS H t (.lst xs)) (.lst vs) (.ref t):=by
 refine⟨t,xs,rfl,.inl ⟨eI,λc=>?_⟩,z,(s.same (fS ht)).reps r⟩;obtain⟨o,e,_⟩:=s.mu t c;grind
theorem iP:sizeLine=16777216:=ia
theorem acl(h:dS K cl E X es ms):aT K cl E X (.Tuple es x1 pos) (mN fI ms):=by
 intro hK;subst hK;refine(acF (h rfl)).imp ?_
 rintro σ H Q ⟨p,S,ρ,s,e,h⟩
 refine bT s e h λq H1 as xs S1 st s1 e1 r1 h1=>?_;refine Gk (r:=λxs H Q=>xs.length<=sizeLine/\∀t,H t=none->Q (.ref t) (aS H t (.tup xs)))  (λ{p S H as c xs Q} s r e k=>?_) s1 r1 h1;unfold fI at e;split at e
 .rename_i hl
  cases e;rw[r.length]at hl;exact⟨hl,λt ht=>k _ _ (fS ht) (rF s r hl ht)⟩
 .cases e
theorem abo(h:dS K cl E X es ms):aT K cl E X (.List es pos) (mN fX ms):=by
 intro hK;subst hK;refine(Zd (h rfl)).imp ?_
 rintro σ H Q ⟨p,S,ρ,s,e,h⟩
 refine bT s e h λq H1 as xs S1 st s1 e1 r1 h1=>?_;refine Gk (r:=λxs H Q=>xs.length<=sizeLine/\∀t,H t=none->Q (.ref t) (aS H t (.lst xs)))  (λ{p S H as c xs Q} s r e k=>?_) s1 r1 h1;unfold fX at e;split at e
 .rename_i hl
  cases e;rw[r.length]at hl;exact⟨hl,λt ht=>k _ _ (fS ht) (lC s r hl ht)⟩
 .cases e
end
noncomputable section
open PySem PySem.Spec PyProof.Rows Bn
noncomputable def eO:MS:=λρ S=>.nx ρ S
noncomputable def aJ(a b:MS):MS:=λρ S=>match a ρ S with
 |.nx ρ1 S1=>b ρ1 S1
 |r=>r
noncomputable def fF(m:ME):MS:=λρ S=>cA.of (m ρ S) λ_ S1=>.nx ρ S1
noncomputable def bJ(m:ME):MS:=λρ S=>cA.of (m ρ S) λv S1=>.rt v S1
noncomputable def adX:MS:=λ_ S=>.rt (.pv .non) S
noncomputable def dZ(c:MT)(a b:MS):MS:=λρ S=>cA.of (c ρ S) λt S1=>if t=true then a ρ S1 else b ρ S1
noncomputable def aU(i:Nat)(m:ME):MS:=λρ S=>cA.of (m ρ S) λv S1=>.nx (ρ.set i (some v)) S1
noncomputable def uO(i j:Nat)(m:MA):MS:=λρ S=>cA.of (m ρ S) λvs S1=>match vs with
 |[v,w]=>.nx ((ρ.set i (some v)).set j (some w)) S1
 |_=>.fail
noncomputable abbrev GM:=PV->bM->Option bM
noncomputable abbrev oU:=FS->bM->Option bM
noncomputable def gN(i:Nat):GM:=λv ρ=>some (ρ.set i (some (.pv v)))
noncomputable def eB:oU:=λvs ρ=>match vs with
 |[]=>some ρ
 |_=>none
noncomputable def cG(g:GM)(gs:oU):oU:=λvs ρ=>match vs with
 |[]=>none
 |v::r=>match g v ρ with
  |some ρ1=>gs r ρ1
  |none=>none
noncomputable def gT(n:Nat)(gs:oU):GM:=λv ρ=>match v with
 |.tup vs=>if vs.length=n then gs vs ρ else none
 |_=>none
noncomputable abbrev Gd:=List (Nat×FS)
noncomputable def iO(G:Gd)(S:aI):Prop:=∀g∈G,S[g.1]?=some (.lst g.2)
theorem iZ(S:aI):iO [] S:=λ_ h=>nomatch h
noncomputable abbrev MI:=bM->aI->bI (FS×Gd)
open Classical in
noncomputable def dA(G:Gd)(g:GM)(mb:MS):FS->bM->aI->cA
 |[],ρ,S=>if iO G S then .nx ρ S else .fail
 |x::r,ρ,S=>if iO G S then(match g x ρ with
  |none=>.fail
  |some ρ1=>match mb ρ1 S with
   |.nx ρ2 S2=>dA G g mb r ρ2 S2
   |.ct ρ2 S2=>dA G g mb r ρ2 S2
   |.bk ρ2 S2=>.nx ρ2 S2
   |.rt v S2=>.rt v S2
   |.exc n S2=>.exc n S2
   |.fail=>.fail)else .fail
noncomputable def cX(mi:MI)(g:GM)(mb:MS):MS:=λρ S=>cA.of (mi ρ S) λxs S1=>dA xs.2 g mb xs.1 ρ S1
theorem iA:dA [] g mb [] ρ S=.nx ρ S:=by
 unfold dA;rw[if_pos (iZ S)]
theorem gW{r:FS}{ρ:bM}{S:aI}:dA [] g mb (x::r) ρ S=(match g x ρ with
  |none=>.fail
  |some ρ1=>match mb ρ1 S with
   |.nx ρ2 S2=>dA [] g mb r ρ2 S2
   |.ct ρ2 S2=>dA [] g mb r ρ2 S2
   |.bk ρ2 S2=>.nx ρ2 S2
   |.rt v S2=>.rt v S2
   |.exc n S2=>.exc n S2
   |.fail=>.fail):=by
 rw[dA,if_pos (iZ S)]
noncomputable def cM(c:MT)(mb:MS):Nat->bM->aI->cA
 |0,_,_=>.fail
 |n+1,ρ,S=>cA.of (c ρ S) λt S1=>if t=true then(match mb ρ S1 with
   |.nx ρ2 S2=>cM c mb n ρ2 S2
   |.ct ρ2 S2=>cM c mb n ρ2 S2
   |.bk ρ2 S2=>.nx ρ2 S2
   |.rt v S2=>.rt v S2
   |.exc n S2=>.exc n S2
   |.fail=>.fail)else .nx ρ S1
open Classical in
noncomputable def fE(c:MT)(mb:MS):MS:=λρ S=>if h:∃n,cM c mb n ρ S≠.fail then cM c mb h.choose ρ S else .fail
theorem cA.of_ok{k k':α->aI->cA}(h:∀a S,k a S≠.fail->k' a S=k a S)(n:cA.of r k≠.fail):cA.of r k'=cA.of r k:=by
 cases r with
 |ok a S=>exact h a S n
 |exc=>rfl
 |fail=>rfl
theorem zU{mb:MS}:∀{n:Nat}{ρ:bM}{S:aI},cM c mb n ρ S≠.fail->cM c mb (n+1) ρ S=cM c mb n ρ S
 |0,_,_,h=>absurd rfl h
 |n+1,ρ,S,h=>by
  refine cA.of_ok (λt S1 h1=>?_) h
  by_cases ht:t=true
  .simp only[if_pos ht]at h1⊢
   cases z:mb _ _ with
   |nx ρ2 S2=>rw[z]at h1;exact zU h1
   |ct ρ2 S2=>rw[z]at h1;exact zU h1
   |_=>rfl
  .simp only[if_neg ht]
theorem Ia(h:cM c mb n ρ S≠.fail):∀k,cM c mb (n+k) ρ S=cM c mb n ρ S
 |0=>rfl
 |k+1=>by
  have ih:=Ia h k;rw[<-k7,zU (by rw[ih];exact h),ih]
theorem iY(e:cM c mb n ρ S=r)(h:r≠.fail):fE c mb ρ S=r:=by
 have h':∃n,cM c _ n _ S≠.fail:=⟨n,by rw[e];exact h⟩;unfold fE;rw[dif_pos _];have e2:=h'.choose_spec;rcases Nat.le_total n h'.choose with l |l
 .obtain⟨k,q⟩:=CC l
  rw[q,Ia (by rw[e];exact h),e]
 .obtain⟨k,q⟩:=CC l
  have z:=Ia e2 k;rw[<-q,e]at z;exact z.symm
section
variable{K:ah}{cl:Str->Addr}{E:XK}{X:Cx}{a b c e tg:ai}{es:List ai}{m:ME}{mt:MT}{ms:MA}{b1 b2:MS}{st:Stmt}{sts sts':List Stmt}{pos:ak}
theorem cU.set{ρ:bM}{σ:St}{v:AV}{x:V}(h:cU K p H ρ σ)(r:bY K p H v x)(i:Nat):cU K p H (ρ.set i (some v)) (σ.set i (some x)):=by
 refine⟨by rw[kq,kq,h.len],λj u e=>?_⟩
 by_cases q:i=j
 .subst q
  by_cases l:i<ρ.length
  .rw[jq l]at e
   cases e;exact⟨x,jq (by rw[<-h.len];exact l),r⟩
  .simp_all
 .rw[jy q]at e⊢
  exact h.at_ j u e
theorem N5:fY K cl E X [] eO:=λ_=>eZ.imp Bo λD σ H ⟨p,S,ρ,s,e,h⟩=>h p H _ s.step s e
theorem dD.nxD(h:dD K cl p H (.nx ρ S) D E){σ:St}(s:aW K p S H)(e:cU K p H ρ σ):D.nx σ H:=h p H _ s.step s e
theorem Uy(h1:dY K cl E X st b1)(h2:fY K cl E X sts b2):fY K cl E X (st::sts) (aJ b1 b2):=by
 intro hK;subst hK;refine eZ.imp (wJ (h1 rfl) (h2 rfl)) λD σ H ⟨p,S,ρ,s,e,h⟩=>⟨p,S,ρ,s,e,?_⟩;unfold aJ at h;cases z:b1 _ S with
 |nx ρ1 S1=>
  rw[z]at h;exact λq H' σ' bR sm ev=>⟨q,S1,ρ1,sm,ev,dD.mono  h bR⟩
 |bk ρ1 S1=>rw[z]at h;exact h
 |ct ρ1 S1=>rw[z]at h;exact h
 |rt v S1=>rw[z]at h;exact h
 |exc n S1=>rw[z]at h;exact h
 |fail=>rw[z]at h;exact h
theorem E6(h1:dY K cl E X st b1):fY K cl E X [st] b1:=λhK=>U6 (h1 hK)
theorem O1(he:aT K cl E X e m)(hs:swapsWith e none pos.line X.env=pure false:=by rfl):dY K cl E X (.Expr e pos) (fF m):=by
 intro hK;subst hK;refine PS.imp (aag (he rfl) hs) ?_
 rintro D σ H ⟨p,S,ρ,s,e,h⟩
 exact kL s e h λq H' a b S' bR sm ev r k=>dD.nxD k sm ev
theorem W4(he:aT K cl E X e m):dY K cl E X (.Return (some e) pos) (bJ m):=by
 intro hK;subst hK;refine PS.imp (ace (he rfl)) ?_
 rintro D σ H ⟨p,S,ρ,s,e,h⟩
 exact kL s e h λq H' a b S' bR sm ev r k=>k q _ b sm.step sm r
theorem ab6(hc:eS K cl E X c mt)(ha:fY K cl E X sts b1)(hb:fY K cl E X sts' b2):dY K cl E X (.If c sts sts' pos) (dZ mt b1 b2):=by
 intro hK;subst hK;refine PS.imp (ady (hc rfl) (ha rfl) (hb rfl)) ?_
 rintro D σ H ⟨p,S,ρ,s,e,h⟩
 refine kL s e h λq H' a b S' bR sm ev r k=>?_;cases r;cases a with
 |true=>exact⟨q,S',ρ,sm,ev,k⟩
 |false=>exact⟨q,S',ρ,sm,ev,k⟩
theorem Qp(hN:X.N.Nodup)(hi:X.N[i]?=some x)(hx:kX X.env.scope x)(he:aT K cl E X e m)(hs:swapsWith e (some (.Name x pos')) pos.line X.env=pure false:=by rfl)
  (hf:X.fn x=true\/X.env.scope.names.lookup x=some .local:=by first |exact .inl rfl |exact .inr rfl |assumption):dY K cl E X (.Assign [.Name x pos'] e pos) (aU i m):=by
 intro hK;subst hK;refine PS.imp (abK hN hi hx (he rfl) hs hf) ?_
 rintro D σ H ⟨p,S,ρ,s,e,h⟩
 exact kL s e h λq H' a b S' bR sm ev r k=>dD.nxD k sm (ev.set r i)
theorem abc{x y:Str}{px py pt:ak}{kt k2 pt2}(hc:X.calm=true)(hN:X.N.Nodup)(hi:X.N[i]?=some x)(hj:X.N[j]?=some y)(hij:i≠j)
  (hx:X.env.scope.names.lookup x=some .local)(hy:X.env.scope.names.lookup y=some .local)(ha:dS K cl E X [a,b] ms)
  (hw:swappedStores [.Tuple [.Name x px,.Name y py] kt pt] (.Tuple [a,b] k2 pt2) X.env=pure (some [x,y]))
  (hs:swapsWithSole [.Tuple [.Name x px,.Name y py] kt pt] (.Tuple [a,b] k2 pt2) pos.line X.env=pure false:=by rfl):
  dY K cl E X (.Assign [.Tuple [.Name x px,.Name y py] kt pt] (.Tuple [a,b] k2 pt2) pos) (uO i j ms):=by
 intro hK;subst hK;refine PS.imp (abr hc hN hi hj hij hx hy (ha rfl) hw hs) ?_
 rintro D σ H ⟨p,S,ρ,s,e,h⟩
 refine kL s e h λq H' vs xs S' bR sm ev r k=>?_;cases r with
 |nil=>exact k.elim
 |cons r1 rr=>
  cases rr with
  |nil=>exact k.elim
  |cons r2 rs=>
   cases rs with
   |nil=>exact⟨_,_,rfl,dD.nxD k sm ((ev.set r1 i).set r2 j)⟩
   |cons _ _=>exact k.elim
noncomputable def gP(K:ah)(g:GM):TG:=λx σ H Q=>∃p S ρ v ρ',aW K p S H/\cU K p H ρ σ/\aL K p.c H v x/\g v ρ=some ρ'/\∀σ',cU K p H ρ' σ'->Q σ' H
noncomputable def gPs(K:ah)(g:oU):nH:=λxs σ H Q=>∃p S ρ vs ρ',aW K p S H/\cU K p H ρ σ/\aM K p.c H vs xs/\g vs ρ=some ρ'/\∀σ',cU K p H ρ' σ'->Q σ' H
variable(K X)
noncomputable def lQ(tg:ai)(g:GM):Prop:=X.K=K->PG X tg (gP K g)
noncomputable def sH(ts:List ai)(g:oU):Prop:=X.K=K->mI X ts (gPs K g)
variable{K X}
theorem PG.imp(h:PG X tg t)(i:∀x σ H Q,t' x σ H Q->t x σ H Q):PG X tg t':=λFX s σ H v u Q I r q=>h _ s _ H v u Q I r (i v _ H Q q)
theorem mI.imp(h:mI X ts t)(i:∀x σ H Q,t' x σ H Q->t x σ H Q):mI X ts t':=λFX s σ H v u Q I r q=>h _ s _ H v u Q I r (i v _ H Q q)
theorem O4(hN:X.N.Nodup)(hi:X.N[i]?=some x)(hx:kX X.env.scope x)(hf:X.fn x=true\/X.env.scope.names.lookup x=some .local:=by first |exact .inl rfl |exact .inr rfl |assumption):lQ K X (.Name x pos) (gN i):=
 λ_=>PG.imp (aau hN hi hx hf) λx σ H Q ⟨p,S,ρ,v,ρ',s,ev,r,g,k⟩=>by
  cases g;exact k _ (ev.set (v:=.pv v) r i)
theorem F8:sH K X [] eB:=λ_=>mI.imp aa4 λxs σ H Q ⟨p,S,ρ,vs,ρ',s,ev,r,g,k⟩=>by
 cases vs with
 |nil=>
  cases g;exact⟨r,k _ ev⟩
 |cons _ _=>cases g
theorem B8(h1:lQ K X e g)(h2:sH K X es gs)(hs:(assignEach (e::es) X.env).map (·.2)=assign e X.env::(assignEach es X.env).map (·.2):=by rfl):sH K X (e::es) (cG g gs):=by
 intro hK;subst hK;refine mI.imp (R3 (h1 rfl) (h2 rfl) hs) ?_
 rintro xs σ H Q ⟨p,S,ρ,vs,ρ',s,ev,r,g1,k⟩
 cases vs with
 |nil=>cases g1
 |cons v vr=>
  obtain⟨x,xr,rfl,r1,r2⟩:=r;unfold cG at g1;cases z:g v ρ with
  |none=>simp_all
  |some ρ1=>
   simp only[z]at g1;exact⟨x,xr,rfl,p,S,ρ,v,ρ1,s,ev,r1,z,λσ' ev'=>⟨p,S,ρ1,vr,ρ',s,ev',r2,g1,k⟩⟩
theorem X5{k:Nat}{gs:oU}{n:Nat}(hc:X.calm=true)(h:sH K X es gs)(hn:(assignEach es X.env).length=n:=by rfl)(hst:(assignEach es X.env).findIdx? (·.1)=none:=by rfl):lQ K X (.Tuple es k pos) (gT n gs):=by
 intro hK;subst hK;refine PG.imp (abN hc (h rfl) hn hst) ?_
 rintro x σ H Q ⟨p,S,ρ,v,ρ',s,ev,r,g1,k⟩
 cases v with
 |tup vs=>
  obtain⟨a,xs,rfl,t,z,r⟩:=r;unfold gT at g1;dsimp only at g1;split at g1
  .rename_i hl
   exact⟨a,xs,rfl,t,r.length.symm.trans hl,p,S,ρ,vs,ρ',s,ev,r,g1,k⟩
  .cases g1
 |_=>cases g1
noncomputable def eQ(K:ah)(p:Ph)(H:Hp)(xs:FS×Gd)(J:It):Prop:=xs.1.length<=sizeLine/\∀q H1 S1,bF p H q H1->aW K q S1 H1->iO xs.2 S1->
 (∀(i:Nat)(v:PV),xs.1[i]?=some v->J.go i H1/\∀x H2,J.yld i H1 x H2->cN H1 H2/\aL K q.c H2 v x)/\J.stop xs.1.length H1
theorem eQ.step{H H':Hp}{xs:FS×Gd}{J:It}(h:eQ K p H xs J)(s:bF p H q H'):eQ K q H' xs J:=⟨h.1,λr H1 S1 t=>h.2 r _ _ (s.trans t)⟩
variable(K cl E X)
noncomputable def PIp(tg iter:ai)(m:MI):Prop:=X.K=K->PI X tg iter (tP K cl E (eQ K) m)
variable{K cl E X}
theorem PI.imp(h:PI X tg iter t)(i:∀σ H Q,t' σ H Q->t σ H Q):PI X tg iter t':=λFX s σ H R I q=>h _ s _ H R I (i _ H R q)
noncomputable def aeR(K:ah)(tl:TE):TI:=λσ H R=>tl σ H λx H1=>∃a,x=.ref a/\(((∃xs,bS K H1 a xs)/\R (zE K a) H1)\/((∃xs,cO K H1 a xs)/\R (Fg K a) H1))
theorem abR{tl:TE}(hl:PE X l tl):PI X tg l (aeR X.K tl):=by
 intro FX s σ H R I h;refine bC (hl _ s _ H _ I h) ?_
 rintro v s1 ⟨x,H1,I1,r1,q1⟩
 obtain⟨a,e,q⟩:=q1;subst e;cases r1;rcases q with⟨⟨xs,hq⟩,q⟩|⟨⟨xs,hq⟩,q⟩
 .obtain⟨its,rv,p,hz⟩:=I1.list hq
  refine uk p.isList ?_;refine⟨s1.heap.objs.size,[s1.heap.objs.size],_,_,H1,rfl,I1.kept  λb o e=>av _ e,Tz a _,⟨_,cy _ rfl,rfl,rfl⟩,λb hb=>?_,q⟩;have e:=by simpa using hb
  subst e;exact I1.fpOk (aq _) (I1.hok.fresh (aq _))
 .obtain⟨its,rv,p,hz⟩:=I1.tuple hq
  refine BX (show s1.heap.IsTuple a _ from p) ?_;refine⟨s1.heap.objs.size,[s1.heap.objs.size],_,_,H1,rfl,I1.kept  λb o e=>av _ e,Cy a _,⟨_,cy _ rfl,rfl,rfl⟩,λb hb=>?_,q⟩;have e:=by simpa using hb
  subst e;exact I1.fpOk (aq _) (I1.hok.fresh (aq _))
noncomputable def cH:AV->aI->bI (FS×Gd)
 |.pv (.lst xs),S=>.ok (xs,[]) S
 |.pv (.tup xs),S=>.ok (xs,[]) S
 |.ref k,S=>match S[k]? with
  |some (.lst xs)=>.ok (xs,[(k,xs)]) S
  |_=>.fail
 |_,_=>.fail
noncomputable def bP(m:ME):MI:=λρ S=>(m ρ S).bind cH
theorem abi{H:Hp}{xs:FS}{a:Addr}{vs:List V}(l:kW K p.c H a vs)(z:vs.length<=sizeLine)(r:aM K p.c H xs vs):eQ K p H (xs,[]) (zE K a):=by
 refine⟨by rw[r.length];exact z,λq H1 S1 st _ _=>⟨λi v e=>?_,?_⟩⟩
 .have l1:=(st.lat l).sq
  obtain⟨x,e1,r1⟩:=(st.reps r).get e;refine⟨⟨vs,x,l1,e1⟩,λy H2 hy=>?_⟩;obtain⟨rfl,hy⟩:=hy;have:=(hy _ l1).symm.trans e1;cases this;exact⟨cN.refl _,r1⟩
 .exact⟨vs,(st.lat l).sq,by rw[r.length];exact aq _⟩
theorem acA{H:Hp}{xs:FS}{a:Addr}{vs:List V}(l:cO K H a vs)(z:vs.length<=sizeLine)(r:aM K p.c H xs vs):eQ K p H (xs,[]) (Fg K a):=by
 refine⟨by rw[r.length];exact z,λq H1 S1 st _ _=>⟨λi v e=>?_,?_⟩⟩
 .have l1:=st.tup l
  obtain⟨x,e1,r1⟩:=(st.reps r).get e;refine⟨⟨vs,x,l1,e1⟩,λy H2 hy=>?_⟩;obtain⟨rfl,hy⟩:=hy;have:=(hy _ l1).symm.trans e1;cases this;exact⟨cN.refl _,r1⟩
 .exact⟨vs,st.tup l,by rw[r.length];exact aq _⟩
theorem acI{xs:FS}{a:Addr}{k:Nat}{n:xs.length<=sizeLine}(hf:p.f[k]?=some a):eQ K p H (xs,[(k,xs)]) (zE K a):=by
 refine⟨n,λq H1 S1 st sm g=>?_⟩;have e0:S1[k]?=some (.lst xs):=g _ ce;obtain⟨vs,h1,l1,r1⟩:=sm.obj k a _ (st.at_ hf) e0;refine⟨λi v e=>?_,?_⟩
 .obtain⟨x,e1,r2⟩:=r1.get e
  refine⟨⟨vs,x,bS.of h1,e1⟩,λy H2 hy=>?_⟩;obtain⟨rfl,hy⟩:=hy;have:=(hy vs (bS.of h1)).symm.trans e1;cases this;exact⟨cN.refl _,r2⟩
 .exact⟨vs,bS.of h1,by rw[r1.length];exact aq _⟩
theorem aay(h:aT K cl E X e m):PIp K cl E X tg e (bP m):=by
 intro hK;subst hK;refine PI.imp (abR (h rfl)) ?_
 rintro σ H R ⟨p,S,ρ,s,ev,h⟩
 refine bT s ev h λq H' v x S' bR sm ev r k=>?_;cases v with
 |ref j=>
  obtain⟨a,e,rfl⟩:=r;unfold cH at k;dsimp only at k;cases z:S'[j]? with
  |none=>rw[z]at k;exact k.elim
  |some o=>
   cases o with
   |lst xs=>
    rw[z]at k;obtain⟨vs,h1,l1,r1⟩:=sm.obj j a _ e z;exact⟨a,rfl,.inl ⟨⟨vs,bS.of h1⟩,bU.ret  k sm (acI (n:=by rw[r1.length];exact l1) e)⟩⟩
   |lol _=>rw[z]at k;exact k.elim
   |dic _ _=>rw[z]at k;exact k.elim
   |dol _ _=>rw[z]at k;exact k.elim
 |pv v=>
  cases v with
  |lst xs=>
   have r:=r;obtain⟨a,vs,rfl,l,z,r⟩:=r;exact⟨a,rfl,.inl ⟨⟨vs,l.sq⟩,bU.ret  k sm (abi l z r)⟩⟩
  |tup xs=>
   have r:=r;obtain⟨a,vs,rfl,l,z,r⟩:=r;exact⟨a,rfl,.inr ⟨⟨vs,l⟩,bU.ret  k sm (acA l z r)⟩⟩
  |_=>exact k.elim
noncomputable def eU(lo:Int)(n:Nat):FS:=(ci n).map λi=>.int (lo+(i:Nat))
noncomputable def kT:FW->aI->bI (FS×Gd)
 |[.pv (.int j)],S1=>@ite _ (j<=16777216/\-16777216<=j) (CD _) (.ok (eU 0 j.toNat,[]) S1) .fail
 |_,_=>.fail
noncomputable def eJ(ms:MA):MI:=λρ S=>(ms ρ S).bind kT
theorem acM{lo:Int}{n:Nat}(h:n<=sizeLine):eQ K p H (eU lo n,[]) (zI lo n):=by
 have hl:(eU lo n).length=n:=by unfold eU;rw[aw,oi]
 refine⟨by rw[hl];exact h,λq H1 S1 st _ _=>⟨λi v e=>?_,?_⟩⟩
 .have hi:i<n:=by
   grind
  refine⟨hi,λx H2 hy=>?_⟩;obtain⟨rfl,rfl⟩:=hy;unfold eU at e;rw[cq,List.getElem?_range hi]at e;cases e;refine⟨cN.refl _,?_⟩;rfl
 .rw[hl];exact aq n
theorem Jy(hg:Gl X "range")(hm:X.mg "range"=none)(ha:dS K cl E X [a] ms)(hs:starEach [a] X.env=[(false,eval a X.env)]:=by rfl):PIp K cl E X tg (.Call (.Name "range" p) [a] [] pos) (eJ ms):=by
 intro hK;subst hK;refine PI.imp (Jz hg hm (ha rfl) hs) ?_
 rintro σ H R ⟨p,S,ρ,s,ev,h⟩
 refine bT s ev h λq H' vs xs S' bR sm ev r k=>?_;unfold kT at k;split at k
 .rename_i j
  cases r with
  |cons r1 r2=>
   cases r2;have e:=by
    have r1:=r1;exact r1
   subst e;split at k
   .have hz:=iP;exact⟨j,rfl,by omega,by omega,bU.ret  k sm (acM (by omega))⟩
   .exact k.elim
 .exact k.elim
theorem aaq{mi:MI}{g:GM}(hp:vt (model X.prog X.w) X.A X.env X.xe)(hc:X.calm=true)(hi:PIp K cl E X tg e mi)(hg:lQ K X tg g)(hb:fY K cl E X sts b1)
  (hs:∀x,foldedSetIterable e X.env x=pure x:=by intro _;rfl):dY K cl E X (.For tg e sts [] pos) (cX mi g b1):=by
 intro hK;subst hK;refine PS.imp (abg hp hc (hi rfl) (hg rfl) (hb rfl) hs) ?_
 rintro D σ H ⟨p,S,ρ,s,ev,h⟩
 refine kL s ev h λq H' xg J S' bR sm ev it k=>?_;obtain⟨xs,G⟩:=xg;refine⟨λi n σ H=>n=xs.length-i/\i<=xs.length/\∃p S ρ,aW X.K p S H/\cU X.K p H ρ σ/\eQ X.K p H (xs,G) J/\dD X.K cl p H (dA G g b1 (xs.drop i) ρ S) D E,⟨xs.length,by simp,du _,q,S',ρ,sm,ev,it,by simpa using k⟩,?_⟩
 rintro i n σ1 H1 ⟨rfl,hi,p1,S1,ρ1,sm1,ev1,it1,k1⟩
 by_cases hlt:i<xs.length
 .have hx:xs[i]?=some xs[i]:=bf hlt
  rw[xu hlt]at k1;unfold dA at k1;split at k1
  .rename_i gk
   obtain⟨g1,y1⟩:=(it1.2 p1 H1 S1 sm1.step sm1 gk).1 i _ hx;cases z:g xs[i] ρ1 with
   |none=>simp only[z]at k1;exact k1.elim
   |some ρ2=>
    simp only[z]at k1;refine .inr ⟨g1,λσ' H'=>i+1<=xs.length/\∃p S ρ,aW X.K p S H'/\cU X.K p H' ρ σ'/\eQ X.K p H' (xs,G) J/\dD X.K cl p H' (dA G g b1 (xs.drop (i+1)) ρ S) D E,λσ' H' hN=>⟨xs.length-(i+1),by omega,rfl,hN⟩,λx H2 hy=>?_⟩;obtain⟨same,rx⟩:=y1 x H2 hy;have st2:=sm1.same same;have sm2:=sm1.ofSame same;refine⟨p1,S1,ρ1,xs[i],ρ2,sm2,st2.repE ev1,rx,z,λσ3 ev3=>⟨p1,S1,ρ2,sm2,ev3,?_⟩⟩;have it2:=it1.step st2;cases y:b1 ρ2 S1 with
    |nx ρ4 S4=>
     rw[y]at k1;exact λq5 H5 σ5 st5 sm5 ev5=>⟨hlt,q5,S4,ρ4,sm5,ev5,it2.step st5,dD.mono  k1 (st2.trans st5)⟩
    |ct ρ4 S4=>
     rw[y]at k1;exact λq5 H5 σ5 st5 sm5 ev5=>⟨hlt,q5,S4,ρ4,sm5,ev5,it2.step st5,dD.mono  k1 (st2.trans st5)⟩
    |bk ρ4 S4=>rw[y]at k1;exact dD.mono (r:=.nx ρ4 S4) k1 st2
    |rt v S4=>rw[y]at k1;exact dD.mono (r:=.rt v S4) k1 st2
    |exc v S4=>rw[y]at k1;exact dD.mono (r:=.exc v S4) k1 st2
    |fail=>rw[y]at k1;exact k1.elim
  .exact k1.elim
 .have e:i=xs.length:=by omega
  subst e;rw[xv]at k1;unfold dA at k1;split at k1
  .rename_i gk
   exact .inl ⟨(it1.2 p1 H1 S1 sm1.step sm1 gk).2,dD.nxD k1 sm1 ev1⟩
  .exact k1.elim
theorem Kz(hp:vt (model X.prog X.w) X.A X.env X.xe)(hc:eS K cl E X c mt)(hb:fY K cl E X sts b1):dY K cl E X (.While c sts [] pos) (fE mt b1):=by
 intro hK;subst hK;refine PS.imp (J4 hp (hc rfl) (hb rfl)) ?_
 rintro D σ H ⟨p,S,ρ,s,ev,h⟩
 unfold fE at h;split at h
 .refine⟨λn σ H=>∃p S ρ,aW X.K p S H/\cU X.K p H ρ σ/\dD X.K cl p H (cM mt b1 n ρ S) D E,⟨_,p,S,ρ,s,ev,h⟩,?_⟩
  rintro n σ1 H1 ⟨p1,S1,ρ1,sm1,ev1,k1⟩
  cases n with
  |zero=>exact k1.elim
  |succ n=>
   refine kL sm1 ev1 k1 λq H2 t t' S2 bR sm2 ev2 r k2=>?_;cases r;cases t with
   |true=>
    refine⟨λσ' H'=>∃p S ρ,aW X.K p S H'/\cU X.K p H' ρ σ'/\dD X.K cl p H' _ D E,λσ' H' hN=>⟨n,qh n,hN⟩,q,S2,ρ1,sm2,ev2,?_⟩;cases y:b1 ρ1 S2 with
    |nx ρ4 S4=>
     rw[y]at k2;exact λq5 H5 σ5 st5 sm5 ev5=>⟨q5,S4,ρ4,sm5,ev5,dD.mono  k2 st5⟩
    |ct ρ4 S4=>
     rw[y]at k2;exact λq5 H5 σ5 st5 sm5 ev5=>⟨q5,S4,ρ4,sm5,ev5,dD.mono  k2 st5⟩
    |bk ρ4 S4=>rw[y]at k2;exact k2
    |rt v S4=>rw[y]at k2;exact k2
    |exc v S4=>rw[y]at k2;exact k2
    |fail=>rw[y]at k2;exact k2.elim
   |false=>
    exact dD.nxD k2 sm2 ev2
 .exact h.elim
end
end
noncomputable def iD(n:Nat)(xs:FW):bM:=xs.map some++kb (n-xs.length) none
noncomputable def jZ(n:Nat):AV->aI->bI AV
 |.pv v,S=>.ok (.pv v) (S.take n)
 |.ref k,S=>if k<n then .ok (.ref k) (S.take n)else match S[k]? with
  |some (.lst xs)=>.ok (.ref n) (S.take n++[.lst xs])
  |some (.dic b kvs)=>.ok (.ref n) (S.take n++[.dic b kvs])
  |_=>.fail
noncomputable def frz(n:Nat):bI AV->bI AV
 |.ok (.ref k) S=>if k<n then .ok (.ref k) S else match S[k]? with
  |some (.lst xs)=>.ok (.pv (.lst xs)) (S.take n)
  |_=>.fail
 |r=>r
noncomputable def mF(n:Nat):cA->bI AV
 |.rt v S=>jZ n v S
 |.nx _ S=>.ok (.pv .non) (S.take n)
 |.exc e S=>.exc e (S.take n)
 |_=>.fail
noncomputable def aZ(np n:Nat)(b:MS)(xs:FW)(S:aI):bI AV:=if xs.length=np then mF S.length (b (iD n xs) S)else .fail
noncomputable def pU:bI α->bI α
 |.ok a S=>.ok a S
 |_=>.fail
noncomputable abbrev FM:=FW->aI->bI AV
noncomputable def mZ(f:FM)(ds:FS)(ms:MA):ME:=λρ S=>(ms ρ S).bind λxs S1=>frz S1.length (f (xs++ds.map .pv) S1)
noncomputable def bA(f:FM)(ds:FS)(ms:MA):ME:=λρ S=>(ms ρ S).bind λxs S1=>frz S1.length (pU (f (xs++ds.map .pv) S1))
noncomputable def tY(f:FM)(ds:FS)(ms:MA):ME:=λρ S=>(ms ρ S).bind λxs S1=>pU (f (xs++ds.map .pv) S1)
noncomputable def oO(K:ah)(cl:Str->Addr)(f:FM):Sp:=λvs H Q E=>∃p S xs,aW K p S H/\gH K p H xs vs/\bU K cl (bY K) p H (f xs S) Q E
noncomputable def jP(K:ah)(cl:Str->Addr)(f:FM):Sp:=λvs H Q _=>oO K cl f vs H Q E0
section
variable{K:ah}{cl:Str->Addr}{p q:Ph}{H H':Hp}{S S':aI}
theorem Fj(h:∀a,c a->c' a){a:Addr}{vs:List V}(l:kW K c' H a vs):kW K c H a vs:=by
 rcases l with⟨l,n⟩|l |l
 .exact .inl ⟨l,λz=>n (h a z)⟩
 .exact .inr (.inl l)
 .exact .inr (.inr l)
theorem nQ(h:∀a,c a->c' a){ps:FS}{vs:List V}(r:aM K c' H ps vs):aM K c H ps vs:=aM.mono (λ_ _ t=>t) (λ_ _ l=>Fj h l) (λ_ _ _ _ e=>⟨e.1,λz=>e.2 (h _ z)⟩) _ _ r
theorem zZ(h:∀a,c a->c' a){v:PV}{x:V}(r:aL K c' H v x):aL K c H v x:=aL.mono (λ_ _ t=>t) (λ_ _ l=>Fj h l) (λ_ _ _ _ e=>⟨e.1,λz=>e.2 (h _ z)⟩) v x r
theorem Gx{f g:List Addr}(h:f <+:g):g.take f.length=f:=by
 obtain⟨t,e⟩:=h;rw[<-e,List.take_left]
theorem nodup_idx{α:Type}:∀{l:List α}{i j:Nat}{a:α},l.Nodup->l[i]?=some a->l[j]?=some a->i=j
 |[],i,j,a,_,e,_=>by simp at e
 |b::l,0,0,a,_,_,_=>rfl
 |b::l,0,j+1,a,n,e,f=>by
  simp at e f;subst e;exact absurd (fy f) (la.mp n).1
 |b::l,i+1,0,a,n,e,f=>by
  simp at e f;subst f;exact absurd (fy e) (la.mp n).1
 |b::l,i+1,j+1,a,n,e,f=>congrArg (·+1) (nodup_idx (l:=l) (a:=a) (la.mp n).2 (by simpa using e) (by simpa using f))
theorem aW.cutX(D:Addr->Prop)(s:aW K p S H)(st:bF p H q H')(s':aW K q S' H')(hD:∀b,D b->H b=none)(hq:(∀b,D b->b∈q.f)\/∀k o,S'[k]?=some o->k<S.length->∃xs,o=.lst xs):
  let r:Ph:=⟨p.f,λb=>q.w b/\¬D b,λb=>q.c b/\¬D b⟩
  bF p H r H'/\aW K r (S'.take S.length) H':=by
 intro r;have nD:∀a,p.c a->¬D a:=λa c d=>by
  obtain⟨o,ho,_⟩:=s.mu a c;rw[hD a d]at ho;cases ho
 have le:S.length<=S'.length:=by
  have:=st.pre.length_le;rw[<-s.len,<-s'.len];exact this
 refine⟨⟨s.wc,s.mu,lp,λa h=>⟨st.mw a h,nD a (s.wc a h)⟩,λa h=>⟨st.mono a h,nD a h⟩,λ_ h g=>absurd h g,λa h=>st.nw a h.1,λa h=>st.nc a h.1,st.keep⟩,s.nd,by rw[s.len,qk];omega,λa h=>⟨st.mw a (s.sub a h),nD a (s.wc a (s.sub a h))⟩,λa h=>⟨s'.wc a h.1,h.2⟩,λa h=>s'.mu a h.1,λk a o e1 e2=>?_⟩;have hk:k<S.length:=by
  have:=(da.mp e1).1;rw[<-s.len];exact this
 have e2':=by
  rw[l5,if_pos hk]at e2;exact e2
 have z:=s'.obj k a o (st.at_ e1) e2';have cL:∀xs vs,aM K _ H' xs vs->aM K r.c H' xs vs:=λxs vs=>nQ (λb h=>h.1);have sub:∀b,b∉q.f->b∉p.f:=λb n h=>n (st.pre.subset h);rcases hq with hq |hq
 .exact z.mono (λ_ e=>e) (λb w f=>⟨⟨⟨w,λd=>f (hq b d)⟩,sub b f⟩,λ_ e=>e⟩) cL
 .obtain⟨xs,rfl⟩:=hq k o e2' hk
  obtain⟨vs,e,l,g⟩:=z;exact⟨vs,e,l,cL xs vs g⟩
theorem aW.cut(s:aW K p S H)(st:bF p H q H')(s':aW K q S' H'):bF p H ⟨p.f,λb=>q.w b/\¬False,λb=>q.c b/\¬False⟩ H'/\aW K ⟨p.f,λb=>q.w b/\¬False,λb=>q.c b/\¬False⟩ (S'.take S.length) H':=
 s.cutX _ st s' (λ_ h=>h.elim) (.inl λ_ h=>h.elim)
theorem Db(s:aW K p S H)(st:bF p H q H')(sm:aW K q S' H'){k:Nat}{a:Addr}(e:q.f[k]?=some a)(hk:¬k<S.length):a∉p.f/\H a=none/\¬p.c a:=by
 have na:a∉p.f:=λhm=>by
  obtain⟨j,hj,ej⟩:=uq hm;have e2:=st.at_ (by rw[bf hj,ej]);have hjk:j=k:=nodup_idx sm.nd e2 e;rw[s.len]at hj;omega
 have hn:=st.nf a (fy e) na;refine⟨na,hn,λc=>?_⟩;obtain⟨o,ho,_⟩:=s.mu a c;grind
theorem Vb{Q:VK}{E:XK}(s:aW K p S H)(h:bU K cl (bY K) p H (frz S.length r) Q E):bU K cl (bY K) p H r Q E:=by
 cases r with
 |exc n S1=>exact h
 |fail=>exact h
 |ok v S1=>
  cases v with
  |pv v=>exact h
  |ref k=>
   have h:bU K _ _ p H (if k<S.length then .ok _ _ else match S1[k]? with
    |some (.lst _)=>.ok _ _
    |_=>.fail) Q E:=h
   split at h
   .exact h
   .rename_i hk
    cases z:S1[k]? with
    |none=>rw[z]at h;exact h.elim
    |some o=>
     cases o with
     |lol _=>rw[z]at h;exact h.elim
     |dic _ _=>rw[z]at h;exact h.elim
     |dol _ _=>rw[z]at h;exact h.elim
     |lst xs=>
      rw[z]at h;intro q H' x st sm r;obtain⟨a,e,rfl⟩:=r;obtain⟨na,hn,nc⟩:=Db s st sm e hk;obtain⟨st1,sm1⟩:=s.cutX (λb=>b=a) st sm (λb d=>d▸hn) (.inl λb d=>d▸fy e);obtain⟨vs,h1,l,r⟩:=sm.obj k a _ e z;refine h _ _ _ st1 sm1 ?_;exact⟨a,vs,rfl,.inl ⟨h1,λd=>d.2 rfl⟩,l,nQ (λb h=>h.1) r⟩
theorem Kj{r:cA}{Q:VK}{E:XK}(s:aW K p S H)(h:bU K cl (bY K) p H (mF S.length r) Q E):dD K cl p H r {nx:=λ_ H'=>Q .non H',rt:=Q} E:=by
 cases r with
 |nx ρ S1=>
  intro q H' σ st sm ev;obtain⟨st1,sm1⟩:=s.cut st sm;exact h _ H' .non st1 sm1 (by show aL K (λb=>q.c b/\¬False) H' .non .non;unfold aL;rfl)
 |exc n S1=>
  intro q H' st sm;obtain⟨st1,sm1⟩:=s.cut st sm;exact h _ H' st1 sm1
 |rt v S1=>
  intro q H' x st sm r;obtain⟨st1,sm1⟩:=s.cut st sm;cases v with
  |pv v=>exact h _ H' x st1 sm1 (show aL K (λb=>q.c b/\¬False) H' v x from zZ (λb h=>h.1) r)
  |ref k=>
   obtain⟨a,e,rfl⟩:=r;have h:bU K cl (bY K) p H (if k<S.length then .ok (.ref k) (S1.take S.length)else match S1[k]? with
    |some (.lst xs)=>.ok (.ref S.length) (S1.take S.length++[.lst xs])
    |some (.dic b kvs)=>.ok (.ref S.length) (S1.take S.length++[.dic b kvs])
    |_=>.fail) Q E:=h
   split at h
   .rename_i hk
    refine h _ H' (.ref a) st1 sm1 ⟨a,?_,rfl⟩;show p.f[k]?=some a;have hf:=Gx st.pre;rw[<-hf,l5,if_pos (by rw[s.len];exact hk)];exact e
   .rename_i hk
    have fin:∀o,S1[k]?=some o->bU K cl (bY K) p H (.ok (.ref S.length) (S1.take S.length++[o])) Q E->Q (.ref a) H':=λo z h=>by
     obtain⟨na,hn,nc⟩:=Db s st sm e hk;have l1:(S1.take S.length).length=S.length:=by rw[<-sm1.len,<-s.len]
     have ma:a∈q.f:=fy e;refine h ⟨p.f++[a],q.w,q.c⟩ H' (.ref a) ⟨s.wc,s.mu,⟨[a],rfl⟩,st.mw,st.mono,λb hb n=>?_,st.nw,st.nc,st.keep⟩ ⟨?_,?_,λb hb=>?_,sm.wc,sm.mu,λj b o e1 e2=>?_⟩ ⟨a,?_,rfl⟩
     .rcases dk.mp hb with z |z
      .exact absurd z n
      .have:b=a:=by simpa using z
       rw[this];exact hn
     .show(p.f++[a]).Nodup
      rw[qs];refine⟨s.nd,by simp,λb hb c hc z=>?_⟩;have:c=a:=by simpa using hc
      exact na (this▸z▸hb)
     .show(p.f++[a]).length=_
      rw[cx,cx,l1,s.len];rfl
     .rcases dk.mp hb with z |z
      .exact st.mw b (s.sub b z)
      .have:b=a:=by simpa using z
       rw[this];exact sm.sub a ma
     .by_cases hj:j<S.length
      .have e1':p.f[j]?=some b:=by
        have e1:(p.f++[a])[j]?=some b:=e1
        rwa[ib (by rw[s.len];exact hj)]at e1
       rw[ib (by rw[l1];exact hj),l5,if_pos hj]at e2;refine(sm.obj j b o (st.at_ e1') e2).mono (λ_ e=>e) (λc w f=>⟨⟨w,λm=>?_⟩,λ_ e=>e⟩) λ_ _ r=>r;rcases dk.mp m with z |z
       .exact f (st.pre.subset z)
       .have:c=a:=by simpa using z
        exact f (this▸ma)
      .have hj':j=S.length:=by
        have:=(da.mp e2).1;rw[cx,l1]at this;simp at this;omega
       subst hj';rw[fu (by rw[l1];exact aq _),l1,ji]at e2;have e1:(p.f++[a])[S.length]?=some b:=e1;rw[<-s.len,fu (aq _),ji]at e1;cases e1;cases e2;refine(sm.obj k a _ e z).mono (λ_ e=>e) (λc w f=>⟨⟨w,λm=>?_⟩,λ_ e=>e⟩) λ_ _ r=>r;rcases dk.mp m with z |z
       .exact f (st.pre.subset z)
       .have:c=a:=by simpa using z
        exact f (this▸ma)
     .show(p.f++[a])[S.length]?=some a
      rw[<-s.len,fu (aq _),ji];rfl
    split at h
    .rename_i z
     exact fin _ z h
    .rename_i z
     exact fin _ z h
    .exact h.elim
 |bk ρ S1=>exact h.elim
 |ct ρ S1=>exact h.elim
 |fail=>exact h.elim
theorem Ja{xs:FW}{vs:List V}(r:gH K p H xs vs):cU K p H (iD N.length xs) (L2.start N vs):=by
 have go:∀{xs:FW}{vs:List V},gH K p H xs vs->xs.length=vs.length:=λ{xs vs} r=>by
  induction r with
  |nil=>rfl
  |cons _ _ ih=>rw[bo,bo,ih]
 have get:∀{xs:FW}{vs:List V},gH K p H xs vs->∀(i:Nat)(v:AV),xs[i]?=some v->∃x,vs[i]?=some x/\bY K p H v x:=λ{xs vs} r=>by
  induction r with
  |nil=>intro i v e;simp at e
  |cons h _ ih=>
   intro i v e;cases i with
   |zero=>
    simp at e;subst e;exact⟨_,rfl,h⟩
   |succ i=>simpa using ih i v (by simpa using e)
 have hl:=go r;refine⟨by unfold iD L2.start;simp[hl],λi v e=>?_⟩;unfold iD at e;unfold L2.start
 by_cases hi:i<xs.length
 .rw[ib (by simpa using hi),cq]at e
  cases z:xs[i]? with
  |none=>rw[z]at e;cases e
  |some u=>
   rw[z]at e;cases e;obtain⟨x,e1,e2⟩:=get r i v z;refine⟨x,?_,e2⟩;rw[ib (by rw[aw,<-hl];exact hi),cq,e1];rfl
 .rw[fu (by rw[aw];omega),zl]at e
  split at e
  .cases e
  .cases e
end
section
variable{P:Program}{w:ar}{K:ah}{mg:Str->FO}{base:Heap}{cl:Str->Addr}
theorem Bk(h:gH K p H xs vs):xs.length=vs.length:=by
 induction h<;>simp_all
theorem Jq(h:oO K cl (aZ np n b) vs H Q E):vs.length=np:=by
 obtain⟨p,S,xs,sm,ra,h⟩:=h;unfold aZ at h;split at h
 .rename_i e
  rw[<-Bk ra,e]
 .exact h.elim
theorem Ng{st:Stmt}{f:Addr}{fd:de}{N ps:List Str}{k np n:Nat}{b:MS}(F:kH K x qual st f fd)(S:jW N ps (cB st))(hnp:ps.length=np)(hn:N.length=n)
  (hb:∀(cdv:Value)(A:ax)(outer:List ca)(s:aa)(H:Hp)(E:XK),cP k (A.deeper (envOfC qual (cB st) s.heap.objs.size f cdv))->fY K cl E0 (eW dR P w K mg base N qual (cB st) f cdv A outer s H E).nox (dM st) b):
  dC P w K mg base dR (k+1) f fd ps (jP K cl (aZ np n b)):=by
 subst hnp hn;refine F.ok S (λvs H Q E h=>Jq h) λcdv A outer s H vs Q E hr h=>⟨_,hb _ A _ s H E hr rfl,?_⟩;obtain⟨p,S,xs,sm,ra,h⟩:=h;unfold aZ at h;split at h
 .exact⟨p,S,_,sm,Ja ra,Kj sm h⟩
 .exact h.elim
theorem aeu{st:Stmt}{f:Addr}{fd:de}{ds:Array Value}{N ps:List Str}{k np n:Nat}{b:MS}(F:oJ K x qual st f fd ds)(S:jW N ps (cB st))(hnp:ps.length=np)(hn:N.length=n)
  (hb:∀(cdv:Value)(A:ax)(outer:List ca)(s:aa)(H:Hp)(E:XK),cP k (A.deeper (envOfC qual (cB st) s.heap.objs.size f cdv))->fY K cl E (eW (kJ P w) P w K mg base N qual (cB st) f cdv A outer s H E) (dM st) b):
  dC P w K mg base (kJ P w) (k+1) f fd ps (oO K cl (aZ np n b)):=by
 subst hnp hn;refine F.okX S (λvs H Q E h=>Jq h) λcdv A outer s H vs Q E hr h=>⟨_,hb _ A _ s H E hr rfl,?_⟩;obtain⟨p,S,xs,sm,ra,h⟩:=h;unfold aZ at h;split at h
 .exact⟨p,S,_,sm,Ja ra,Kj sm h⟩
 .exact h.elim
theorem x0{k:Nat}{g:FM}(F:dC P w K mg base (kJ P w) k f fd ps (oO K cl g)):dC P w K mg base dR k f fd ps (jP K cl g):=
 ⟨λvs H Q E h=>F.len _ H Q _ h,λA outer s H args us vs Q E hr e0 hb hv h=>nu (F.run A _ s H _ _ _ Q _ hr e0 hb hv h) λr s' hq=>by
  cases r with
  |error e=>
   obtain⟨_,_,_,_,_,_,_,_,_,_,_,_,z⟩:=hq;exact z
  |ok fl=>
   cases fl with
   |ret u=>exact hq
   |next=>exact hq
   |brk=>exact hq
   |cont=>exact hq⟩
end
section
variable{K:ah}{cl:Str->Addr}{E:XK}{X:Cx}{e:ai}{es:List ai}{ms:MA}{pos p:ak}{k n:Nat}{f:Addr}{fd:de}{ps:List Str}{g:FM}{x:Str}{dvs:List V}{ds:FN}{dv:FS}
theorem zS{p:Ph}{H:Hp}{xs ys:FW}{vs ws:List V}(h:gH K p H xs vs)(g:gH K p H ys ws):gH K p H (xs++ys) (vs++ws):=by
 induction h with
 |nil=>exact g
 |cons h _ ih=>exact .cons h ih
noncomputable def Dv(dv:FS)(dvs:List V):Prop:=∀K p H,gH K p H (dv.map .pv) dvs
theorem Dv.nil:Dv [] []:=λ_ _ _=>.nil
theorem aaV(F:dC X.prog X.w X.K X.mg X.base dR k f fd ps (jP K cl g))(hr:cP k X.A)(hg:Gl X x)(hm:X.mg x=some (.ref f))(hk:ft X.K (.ref f)=true)(hb:gG X.K fd ps ds)(hd:bB dvs ds)(hv:Dv dv dvs)
  (ha:dS K cl E0 X (e::es) ms)(hdb:(x==("__debug__":Str))=false:=by decide)(he:starEach (e::es) X.env=(false,eval e X.env)::starEach es X.env:=by rfl)(hpl:(backTo pos (starEach es X.env)).any (·.1)=false:=by rfl):
  aT K cl E0 X (.Call (.Name x p) (e::es) [] pos) (mZ g dv ms):=by
 intro hK;refine PE.imp (tJ F hr hg hm hk hb hd pS (ha hK) hdb he hpl) ?_
 rintro σ H Q ⟨p,S,ρ,s,ev,h⟩
 exact bT s ev h λq H' as xs S' bR sm ev r k=>⟨q,S',_,sm,zS r (hv K q _),Vb sm k⟩
theorem Aa{p:Ph}{H:Hp}{r:bI α}{Q:β->Hp->Prop}(h:bU K cl R p H (pU r) Q E):bU K cl R p H r Q E0:=by
 cases r with
 |ok a S=>exact h
 |exc n S=>exact h.elim
 |fail=>exact h.elim
theorem R0(F:dC X.prog X.w X.K X.mg X.base dR k f fd ps (jP K cl g))(hr:cP k X.A)(hg:Gl X x)(hm:X.mg x=some (.ref f))(hk:ft X.K (.ref f)=true)(hb:gG X.K fd ps ds)(hd:bB dvs ds)(hv:Dv dv dvs)
  (ha:dS K cl E X (e::es) ms)(hdb:(x==("__debug__":Str))=false:=by decide)(he:starEach (e::es) X.env=(false,eval e X.env)::starEach es X.env:=by rfl)(hpl:(backTo pos (starEach es X.env)).any (·.1)=false:=by rfl):
  aT K cl E X (.Call (.Name x p) (e::es) [] pos) (bA g dv ms):=by
 intro hK;refine PE.imp (tJ F hr hg hm hk hb hd pS (ha hK) hdb he hpl) ?_
 rintro σ H Q ⟨p,S,ρ,s,ev,h⟩
 exact bT s ev h λq H' as xs S' bR sm ev r k=>⟨q,S',_,sm,zS r (hv K q _),Aa (Vb sm k)⟩
theorem E2(F:dC X.prog X.w X.K X.mg X.base dR k f fd ps (jP K cl g))(hr:cP k X.A)(hg:Gl X x)(hm:X.mg x=some (.ref f))(hk:ft X.K (.ref f)=true)(hb:gG X.K fd ps ds)(hd:bB dvs ds)(hv:Dv dv dvs)
  (ha:dS K cl E X (e::es) ms)(hdb:(x==("__debug__":Str))=false:=by decide)(he:starEach (e::es) X.env=(false,eval e X.env)::starEach es X.env:=by rfl)(hpl:(backTo pos (starEach es X.env)).any (·.1)=false:=by rfl):
  aT K cl E X (.Call (.Name x p) (e::es) [] pos) (tY g dv ms):=by
 intro hK;refine PE.imp (tJ F hr hg hm hk hb hd pS (ha hK) hdb he hpl) ?_
 rintro σ H Q ⟨p,S,ρ,s,ev,h⟩
 exact bT s ev h λq H' as xs S' bR sm ev r k=>⟨q,S',_,sm,zS r (hv K q _),Aa k⟩
noncomputable def Ge(n:Str):MS:=λ_ S=>.exc n S
theorem Fz{N:List Str}{qual:Str}{scope:Scope}{f:Addr}{cd:Value}{A:ax}{outer:List ca}{FY:aa}{FZ:Hp}
  {txt:Str}{j:Nat}{np p1 cpos:ak}(hg:Gl (eW (kJ P w) P w K mg base N qual scope f cd A outer FY FZ E) x)(hm:mg x=some (.ref (cl x)))(hx:qq K (cl x) tW "ValueError.__new__"=true)
  (hd:(x==("__debug__":Str))=false:=by decide):
  dY K cl E (eW (kJ P w) P w K mg base N qual scope f cd A outer FY FZ E) (.Raise (some (.Call (.Name x np) [.Constant (.str txt) j p1] [] cpos)) none pos) (Ge x):=
 λ_=>PS.imp (P9 hg hm hx hd) λD σ H ⟨p,S,ρ,s,ev,h⟩=>h p H s.step s
end
noncomputable def cD(own:List Str)(cap:List (Nat×Str))(ρ:bM):bM:=own.map (λ_=>none)++cap.map λp=>(ρ[p.1]?).join
open Classical in
noncomputable def bX(G:Gd)(g:GM)(me:ME):FS->bM->aI->bI FS
 |[],_,S=>if iO G S then .ok [] S else .fail
 |x::r,ρ,S=>if iO G S then(match g x ρ with
  |none=>.fail
  |some ρ1=>match me ρ1 S with
   |.ok (.pv y) S1=>match bX G g me r ρ1 S1 with
    |.ok ys S2=>.ok (y::ys) S2
    |_=>.fail
   |_=>.fail)else .fail
theorem fD:bX [] g me [] ρ S=.ok [] S:=by
 unfold bX;rw[if_pos (iZ S)]
theorem fR{r:FS}{ρ:bM}{S:aI}:bX [] g me (x::r) ρ S=(match g x ρ with
  |none=>.fail
  |some ρ1=>match me ρ1 S with
   |.ok (.pv y) S1=>match bX [] g me r ρ1 S1 with
    |.ok ys S2=>.ok (y::ys) S2
    |_=>.fail
   |_=>.fail):=by
 rw[bX,if_pos (iZ S)]
noncomputable def bH(own:List Str)(cap:List (Nat×Str))(mi:MI)(g:GM)(me:ME):ME:=λρ S=>(mi ρ S).bind λxs S1=>(bX xs.2 g me xs.1 (cD own cap ρ) S1).bind λys S2=>.ok (.pv (.lst ys)) S2
theorem Xh{me:ME}:∀(xs:FS)(ρ:bM)(S:aI)(n:Str)(S':aI),bX G g me xs ρ S≠.exc n S'
 |[],_,_,_,_,e=>by
  unfold bX at e;grind
 |x::r,ρ,S,n,S',e=>by
  unfold bX at e;split at e
  .split at e
   .cases e
   .split at e
    .split at e
     .cases e
     .cases e
    grind
  grind
theorem Rn{xs zs:FS}{ρ:bM}{S S':aI}(e:bX G g me xs ρ S=.ok zs S'):iO G S:=by
 cases xs with
 |nil=>
  unfold bX at e;split at e<;>grind
 |cons x r=>
  unfold bX at e;split at e
  .assumption
  grind
section
variable{K:ah}{cl:Str->Addr}{E:XK}{X:Cx}{p q:Ph}{H H':Hp}{S:aI}
theorem Tn{own:List Str}{cap:List (Nat×Str)}(h:cU K p H ρ σ):cU K p H (cD own cap ρ) (iS own cap σ):=by
 refine⟨by unfold cD iS;simp,λi v e=>?_⟩;unfold cD at e;unfold iS
 by_cases hi:i<own.length
 .rw[ib (by simpa using hi),cq,bf hi]at e
  cases e
 .rw[fu (by rw[aw];omega),cq,aw]at e⊢
  cases z:cap[i-own.length]? with
  |none=>rw[z]at e;cases e
  |some c=>
   rw[z]at e;have e:(ρ[c.1]?).join=some v:=ck e;have e':ρ[c.1]?=some (some v):=by
    cases y:ρ[c.1]? with
    |none=>rw[y]at e;cases e
    |some o=>rw[y]at e;exact congrArg some e
   obtain⟨x,e1,e2⟩:=h.at_ c.1 v e';refine⟨x,?_,e2⟩;show some ((σ[c.1]?).join)=some (some x);rw[e1];rfl
noncomputable def Ph.res(p:Ph)(D:Addr):Ph:=⟨p.f,λa=>p.w a\/a=D,λa=>p.c a\/a=D⟩
noncomputable def Ph.hold(p:Ph)(D:Addr):Ph:=⟨p.f,λa=>p.w a/\a≠D,p.c⟩
noncomputable def Ph.less(p:Ph)(D:Addr):Ph:=⟨p.f,λa=>p.w a/\a≠D,λa=>p.c a/\a≠D⟩
theorem aW.notin(s:aW K p S H){D:Addr}(h:H D=none):¬p.c D:=λc=>by
 obtain⟨o,e,_⟩:=s.mu D c;grind
theorem aW.res(s:aW K p S H){D:Addr}{o:HO}(h:H D=none)(mo:Mb o):bF p H (p.res D) (aS H D o)/\aW K (p.res D) S (aS H D o):=by
 have st:bF p H (p.res D) (aS H D o):=⟨s.wc,s.mu,lp,λa h=>.inl h,λa h=>.inl h,λa h g=>absurd h g,λa x n=>x.elim (λz=>absurd z n) λz=>by rw[z];exact h,λa x n=>x.elim (λz=>absurd z n) λz=>by rw[z];exact h,λa u e _=>by
  rw[bO (gB e h)];exact e⟩
 refine⟨st,s.nd,s.len,λa h=>.inl (s.sub a h),λa x=>x.elim (λz=>.inl (s.wc a z)) .inr,λa x=>?_,λk a u e1 e2=>?_⟩
 .by_cases z:a=D
  .rw[z,eI]
   exact⟨o,rfl,mo⟩
  .rw[bO z]
   exact s.mu a (x.elim id λy=>absurd y z)
 .exact(s.obj k a u e1 e2).mono (λvs e=>by rw[bO (gB e h)];exact e) (λb w f=>⟨⟨.inl w,f⟩,λvs e=>by rw[bO (gB e h)];exact e⟩) λ_ _ r=>st.reps r
theorem aW.resHold(s:aW K p S H){D:Addr}{o:HO}(h:H D=none)(mo:Mb o):aW K ((p.res D).hold D) S (aS H D o):=by
 obtain⟨st,sm⟩:=s.res  h mo;have ne:∀a,p.w a->a≠D:=λa w z=>s.notin h (z▸s.wc a w);refine⟨sm.nd,sm.len,λa m=>⟨sm.sub a m,ne a (s.sub a m)⟩,λa x=>sm.wc a x.1,sm.mu,λk a u e1 e2=>?_⟩;exact(s.obj k a u e1 e2).mono (λvs e=>by rw[bO (gB e h)];exact e) (λb w f=>⟨⟨⟨.inl w,ne b w⟩,f⟩,λvs e=>by rw[bO (gB e h)];exact e⟩) λ_ _ r=>st.reps r
theorem bF.unhold(h:p.w D)(st:bF (p.hold D) H q H')(s:aW K p S H):bF p H ⟨q.f,λa=>q.w a\/a=D,q.c⟩ H':=
 ⟨s.wc,s.mu,st.pre,λa x=>by
  by_cases z:a=D
  .exact .inr z
  .exact .inl (st.mw a ⟨x,z⟩),st.mono,st.nf,λa x n=>by
  rcases x with x |x
  .exact st.nw a x λz=>n z.1
  .exact absurd (x▸h) n,st.nc,λa o e n=>st.keep a o e λz=>n z.1⟩
theorem aW.grow{ys:List V}{o:HO}(s:aW K p S H)(sh:aW K (p.hold D) S H)(w:p.w D)(n:D∉p.f)(mo:Mb o):bF p H p (aS H D o)/\aW K p S (aS H D o)/\aW K (p.hold D) S (aS H D o):=by
 have st:bF p H p (aS H D o):=⟨s.wc,s.mu,lp,λ_ h=>h,λ_ h=>h,λ_ h g=>absurd h g,λ_ h g=>absurd h g,λ_ h g=>absurd h g,λa u e nw=>by
  rw[bO (λz=>nw (by rw[z];exact w))];exact e⟩
 have hm:∀a,p.c a->∃u,aS H D o a=some u/\Mb u:=λa x=>by
  by_cases z:a=D
  .rw[z,eI]
   exact⟨o,rfl,mo⟩
  .rw[bO z]
   exact s.mu a x
 refine⟨st,⟨s.nd,s.len,s.sub,s.wc,hm,λk a u e1 e2=>?_⟩,⟨sh.nd,sh.len,sh.sub,sh.wc,hm,λk a u e1 e2=>?_⟩⟩
 .have ne:a≠D:=λz=>n (z▸fy e1)
  exact(sh.obj k a u e1 e2).mono (λvs e=>by rw[bO ne];exact e) (λb w f=>⟨⟨w.1,f⟩,λvs e=>by rw[bO w.2];exact e⟩) λ_ _ r=>st.reps r
 .have ne:a≠D:=λz=>n (z▸fy e1)
  exact(sh.obj k a u e1 e2).mono (λvs e=>by rw[bO ne];exact e) (λb w f=>⟨⟨w,f⟩,λvs e=>by rw[bO w.2];exact e⟩) λ_ _ r=>st.reps r
theorem aW.toLess(s:aW K (p.hold D) S H):aW K (p.less D) S H:=
 ⟨s.nd,s.len,s.sub,λa h=>⟨s.wc a h,h.2⟩,λa h=>s.mu a h.1,λk a o e1 e2=>
  (s.obj k a o e1 e2).mono (λ_ e=>e) (λb w f=>⟨⟨w,f⟩,λ_ e=>e⟩) λ_ _ r=>nQ (λa h=>h.1) r⟩
theorem bF.toLess(st:bF p H q H')(h:H D=none):bF p H (q.less D) H':=by
 have nD:∀a,p.c a->a≠D:=λa c z=>by
  obtain⟨o,e,_⟩:=st.mu a c;simp_all
 exact⟨st.wc,st.mu,st.pre,λa x=>⟨st.mw a x,nD a (st.wc a x)⟩,λa x=>⟨st.mono a x,nD a x⟩,st.nf,λa x=>st.nw a x.1,λa x=>st.nc a x.1,st.keep⟩
variable{sc:Scope}{own:List Str}{cap:List (Nat×Str)}{elt target iter:ai}{pos:ak}{mi:MI}{g:GM}{me:ME}
theorem Mj{σ:St}{ρ:bM}{xs zs:FS}{G:Gd}{J:It}{Q:VK}{D:Addr}{S2:aI}(sm:aW K p S H)(ev:cU K p H ρ σ)(it:eQ K p H (xs,G) J)(z:bX G g me xs (cD own cap ρ) S=.ok zs S2)(hD:H D=none)
  (k:∀q H' vs,bF p H q H'->aW K q S2 H'->aW K (q.hold D) S2 H'->q.w D->D∉q.f->H' D=some (.lst vs)->vs.length<=sizeLine->aM K q.c H' zs vs->Q (.ref D) H'):
  uS J (gP K g) (tP K cl E0 (bY K) me) (iS own cap σ) H D Q:=by
 obtain⟨st0,sm0⟩:=sm.res (D:=D) (o:=.lst []) hD trivial;have sh0:=sm.resHold (D:=D) (o:=.lst []) hD trivial;have nf0:D∉p.f:=λh=>sm.notin hD (sm.wc D (sm.sub D h));refine aaD xs.length it.1 (λi σ1 H1 ys=>ys.length=i/\i<=xs.length/\H1 D=some (.lst ys)/\∃p1 S1 ρ1 us ws,(aW K p1 S1 H1/\aW K (p1.hold D) S1 H1)/\bF p H p1 H1/\p1.w D/\D∉p1.f/\cU K p1 H1 ρ1 σ1/\eQ K p1 H1 (xs,G) J/\iO G S1/\aM K p1.c H1 us ys/\zs=us++ws/\bX G g me (xs.drop i) ρ1 S1=.ok ws S2) ?_ ?_ ?_ ?_ ?_
 .refine⟨rfl,du _,eI,p.res D,S,cD own cap ρ,[],zs,⟨sm0,sh0⟩,st0,.inr rfl,nf0,Tn (st0.repE ev),it.step st0,?_,.nil,rfl,by simpa using z⟩
  exact Rn z
 .rintro i σ1 H1 ys ⟨h1,_,h2,_⟩
  exact⟨h1,h2⟩
 .rintro i σ1 H1 ys hi ⟨_,_,_,p1,S1,ρ1,us,ws,⟨sm1,sh1⟩,st1,w1,f1,ev1,it1,g1,_⟩
  exact((it1.2 p1 H1 S1 sm1.step sm1 g1).1 i xs[i] (bf hi)).1
 .rintro i σ1 H1 ys x H2 hi ⟨hl,_,hH,p1,S1,ρ1,us,ws,⟨sm1,sh1⟩,st1,w1,f1,ev1,it1,g1,r1,e1,c1⟩ hy
  obtain⟨same,rx⟩:=((it1.2 p1 H1 S1 sm1.step sm1 g1).1 i xs[i] (bf hi)).2 x H2 hy;rw[xu hi]at c1;unfold bX at c1;rw[if_pos g1]at c1;split at c1
  .cases c1
  .rename_i ρ2 gz
   split at c1
   .rename_i y S3 mz
    split at c1
    .rename_i vs S4 cz
     cases c1;have st2:=sm1.same same;have sm2:=sm1.ofSame same;have smh:=sh1.ofSame same;have stS:bF p H p1 H2:=st1.trans st2;refine⟨p1,S1,ρ1,xs[i],ρ2,sm2,st2.repE ev1,rx,gz,λσ3 ev3=>⟨p1.hold D,S1,ρ2,smh,⟨ev3.len,ev3.at_⟩,?_⟩⟩;rw[mz];intro q H4 y' st4 sm4 ry;have hD2:H2 D=some (.lst ys):=same _ _ hH;have hD4:H4 D=some (.lst ys):=st4.keep D _ hD2 λz=>z.2 rfl;have fq:D∉q.f:=λh=>by
      have:=st4.nf D h f1;rw[hD2]at this;cases this
     have stU:=bF.unhold w1 st4 sm2;have nq:¬q.w D:=λz=>by
      have:=st4.nw D z λy=>y.2 rfl;rw[hD2]at this;cases this
     have smU:aW K ⟨q.f,λa=>q.w a\/a=D,q.c⟩ S3 H4:=⟨sm4.nd,sm4.len,λa h=>.inl (sm4.sub a h),λa h=>h.elim (sm4.wc a) λz=>z▸st4.mono D (sm2.wc D w1),sm4.mu,λk a o e1 e2=>
      (sm4.obj k a o e1 e2).mono (λ_ e=>e) (λb w f=>⟨⟨.inl w,f⟩,λ_ e=>e⟩) λ_ _ r=>r⟩
     have shU:aW K (Ph.hold ⟨q.f,λa=>q.w a\/a=D,q.c⟩ D) S3 H4:=⟨sm4.nd,sm4.len,λa h=>⟨.inl (sm4.sub a h),λz=>nq (z▸sm4.sub a h)⟩,λa h=>smU.wc a h.1,sm4.mu,λk a o e1 e2=>
      (sm4.obj k a o e1 e2).mono (λ_ e=>e) (λb w f=>⟨⟨⟨.inl w,λz=>nq (z▸w)⟩,f⟩,λ_ e=>e⟩) λ_ _ r=>r⟩
     obtain⟨stG,smG,shG⟩:=smU.grow (ys:=ys) (D:=D) (o:=.lst (ys++[y'])) shU (.inr rfl) fq trivial;have stA:=st2.trans (stU.trans stG);refine adY hi hD4 ⟨by rw[cx,hl];rfl,hi,eI,_,S3,ρ2,us++[y],vs,⟨smG,shG⟩,st1.trans stA,.inr rfl,fq,stG.repE (stU.repE ev3),it1.step stA,Rn cz,?_,by rw[e1,oj];rfl,cz⟩;exact(stA.reps r1).append (.cons (stG.rep ry) .nil)
    .cases c1
   .cases c1
 .rintro σ1 H1 ys ⟨hl,_,hH,p1,S1,ρ1,us,ws,⟨sm1,sh1⟩,st1,w1,f1,ev1,it1,g1,r1,e1,c1⟩
  rw[xv]at c1;unfold bX at c1;rw[if_pos g1]at c1;cases c1;refine⟨(it1.2 p1 H1 _ sm1.step sm1 g1).2,?_⟩;rw[kg]at e1;subst e1;exact k p1 H1 ys st1 sm1 sh1 w1 f1 hH (by rw[hl];exact it.1) r1
theorem Qa{ρ:bM}{xs:FS×Gd}{J:It}{Q:VK}{D:Addr}(sm:aW K p S H)(ev:cU K p H ρ σ)(it:eQ K p H xs J)(k:bU K cl (bY K) p H ((bX xs.2 g me xs.1 (cD own cap ρ) S).bind λys S2=>.ok (.pv (.lst ys)) S2) Q E)(hD:H D=none):
  uS J (gP K g) (tP K cl E0 (bY K) me) (iS own cap σ) H D Q:=by
 cases z:bX _ g _ _ _ S with
 |fail=>rw[z]at k;exact k.elim
 |exc n S'=>exact absurd z (Xh _ _ _ _ _)
 |ok zs S2=>
  rw[z]at k;have k:=k;refine Mj sm ev it z hD λq H' vs st1 sm1 sh1 w1 f1 hH l1 r1=>?_;refine k _ _ _ (st1.toLess hD) sh1.toLess ?_;exact⟨D,vs,rfl,.inl ⟨hH,λz=>z.2 rfl⟩,l1,nQ (λa h=>h.1) r1⟩
theorem aan(k:gY X sc own cap)(hi:PIp K cl E X target iter mi)(hc:X.calm=true)(hg:∀C FY FZ ex,lQ K (dH X sc (bW own cap) C FY FZ ex) target g)(he:∀C FY FZ ex,aT K cl E0 (dH X sc (bW own cap) C FY FZ ex) elt me)
  (hs:∀x,foldedSetIterable iter X.env x=pure x:=by intro _;rfl):aT K cl E X (.ListComp elt [⟨target,iter,[],0⟩] sc pos) (bH own cap mi g me):=by
 intro hK;refine PE.imp (aaZ k (hi hK) hc (λC FY FZ ex=>hg C _ _ _ hK) (λC FY FZ ex=>he C _ _ _ hK) hs) ?_
 rintro σ H Q ⟨p,S,ρ,s,ev,h⟩
 exact bT s ev h λq H' xs J S' bR sm ev it kk D hD=>Qa sm ev it kk hD
theorem J9{py spos:ak}(hN:X.N.Nodup)(hx:X.N[i]?=some x)(hl:kX X.env.scope x)(k:gY X sc own cap)(hi:PIp K cl E X target iter mi)(hc:X.calm=true)(hg:∀C FY FZ ex,lQ K (dH X sc (bW own cap) C FY FZ ex) target g)(he:∀C FY FZ ex,aT K cl E0 (dH X sc (bW own cap) C FY FZ ex) elt me)
  (hs:∀x,foldedSetIterable iter X.env x=pure x:=by intro _;rfl)(hsw:swapsWith (.ListComp elt [⟨target,iter,[],0⟩] sc pos) (some (.Name x py)) spos.line X.env=pure true:=by rfl)
  (hf:X.fn x=true\/X.env.scope.names.lookup x=some .local:=by first |exact .inl rfl |exact .inr rfl |assumption):
  dY K cl E X (.Assign [.Name x py] (.ListComp elt [⟨target,iter,[],0⟩] sc pos) spos) (aU i (bH own cap mi g me)):=by
 intro hK;refine PS.imp (Fo hN hx hl k (hi hK) hc (λC FY FZ ex=>hg C FY FZ ex hK) (λC FY FZ ex=>he C FY FZ ex hK) hs hsw hf) ?_
 rintro D σ H ⟨p,S,ρ,s,ev,h⟩
 have h2:tP K cl E (bY K) (bH own cap mi g me) σ H λy H1=>D.nx (σ.set i (some y)) H1:=by
  refine⟨p,S,ρ,s,ev,?_⟩;unfold aU at h;cases z:bH _ _ mi g me ρ S with
  |ok v S1=>
   rw[z]at h;exact λq H' y st sm r=>h q H' _ st sm ((st.repE ev).set r i)
  |exc n S1=>rw[z]at h;exact h
  |fail=>rw[z]at h;exact h
 obtain⟨p,S,ρ,s,ev,h⟩:=h2;exact bT s ev h λq H' xs J S' bR sm ev it kk B hB=>Qa sm ev it kk hB
end
noncomputable def jN:List (Option Bool)->Option (List Bool)
 |[]=>some []
 |some b::r=>match jN r with
  |some bs=>some (b::bs)
  |none=>none
 |none::_=>none
theorem Li:∀{l:List (Option Bool)}{bs:List Bool},jN l=some bs->bs.length=l.length
 |[],_,e=>by cases e;rfl
 |some b::r,bs,e=>by
  unfold jN at e;split at e
  .rename_i cs h
   cases e;rw[bo,bo,Li h]
  .cases e
 |none::r,_,e=>by cases e
theorem Ga:∀{l:List (Option Bool)}{bs:List Bool}{i:Nat}{o:Option Bool},jN l=some bs->l[i]?=some o->∃b,o=some b/\bs[i]?=some b
 |[],_,i,o,_,h=>by simp at h
 |some b::r,bs,i,o,e,h=>by
  unfold jN at e;split at e
  .rename_i cs h'
   cases e;cases i with
   |zero=>
    simp at h;exact⟨b,h.symm,rfl⟩
   |succ i=>simpa using Ga h' (by simpa using h)
  .cases e
 |none::r,_,_,_,e,_=>by cases e
noncomputable def aK:Nat->PV->PV->Option Bool
 |_,.non,.non=>some true
 |_,.bl a,.bl b=>some (a==b)
 |_,.int a,.int b=>some (a==b)
 |_,.str a,.str b=>some (a==b)
 |n+1,.tup xs,.tup ys=>match jN (dh (aK n) xs ys)with
  |some bs=>some (bs.all id&&xs.length==ys.length)
  |none=>none
 |n+1,.lst xs,.lst ys=>if xs.length=ys.length then(match jN (dh (aK n) xs ys)with
  |some bs=>some (bs.all id)
  |none=>none)else some false
 |_,_,_=>none
theorem vW(bs:List Bool):((ci bs.length).all λj=>bs.getD j true)=bs.all id:=by
 rw[i4,ie,ie];constructor
 .intro h b hb
  obtain⟨j,hj,e⟩:=uq hb;have:=h j (by simpa using hj);simpa[cg,hj,e]using this
 .intro h j hj
  have hj:=by simpa using hj
  have:=h _ (jm hj);simpa[cg,hj]using this
section
variable{X:Cx}{FX:List (Addr×Obj)}{σ:St}{H:Hp}{s:aa}{c:Addr->Prop}
theorem wG{xs ys:FS}{vs ws:List V}{its jts:FN}{bs:List Bool}{A:ax}
  (ih:∀(v w:PV)(x y:V)(u u':Value)(b:Bool),aL X.K c H v x->aL X.K c H w y->bK x u->bK y u'->aK n v w=some b->ki A s u u' b)
  (r1:aM X.K c H xs vs)(r2:aM X.K c H ys ws)(q1:bB vs its)(q2:bB ws jts)(e:jN (dh (aK n) xs ys)=some bs):
  ∀j(h1:j<its.toArray.size)(h2:j<jts.toArray.size),ki A s its.toArray[j] jts.toArray[j] (bs.getD j true):=λj h1 h2=>by
 have l1:=r1.length.trans q1.length;have l2:=r2.length.trans q2.length;have g1:j<xs.length:=by rw[l1];simpa using h1
 have g2:j<ys.length:=by rw[l2];simpa using h2
 obtain⟨x,ex,rx⟩:=r1.get (bf g1);obtain⟨y,ey,ry⟩:=r2.get (bf g2);obtain⟨u,eu,ru⟩:=q1.get ex;obtain⟨u',eu',ru'⟩:=q2.get ey;have hz:(dh (aK n) xs ys)[j]?=some (aK n xs[j] ys[j]):=by
  rw[CF,bf g1,bf g2]
 obtain⟨b,eb,eb'⟩:=Ga e hz;have e1:its.toArray[j]=u:=by
  rw[CG];rw[bf (by simpa using h1)]at eu;exact ck eu
 have e2:jts.toArray[j]=u':=by
  rw[CG];rw[bf (by simpa using h2)]at eu';exact ck eu'
 rw[e1,e2];have e3:bs.getD j true=b:=by simp[cg,eb']
 rw[e3];exact ih _ _ _ _ _ _ _ rx ry ru ru' eb
theorem tK{xs ys:FS}{bs:List Bool}(e:jN (dh (aK n) xs ys)=some bs):bs.length=min xs.length ys.length:=by
 rw[Li e,lq]
theorem Yk(n:Nat)(v w:PV)(x:V)(b:Bool)(nt:∀xs,v≠.tup xs)(nl:∀xs,v≠.lst xs)(h:aL X.K c H v x)(g:aL X.K c H w x)(e:aK n v w=some b):b=true:=by
 cases v with
 |tup xs=>exact absurd rfl (nt xs)
 |lst xs=>exact absurd rfl (nl xs)
 |obj C ns fs=>cases w<;>(unfold aK at e;simp at e)
 |non=>
  cases w<;>first |(unfold aK at e;simp at e;done) |skip
  unfold aK at e;cases e;rfl
 |bl i=>
  cases w<;>first |(unfold aK at e;simp at e;done) |skip
  subst h;injection g with g';subst g';unfold aK at e;cases e;exact beq_self_eq_true _
 |int i=>
  cases w<;>first |(unfold aK at e;simp at e;done) |skip
  subst h;injection g with g';subst g';unfold aK at e;cases e;exact beq_self_eq_true _
 |str i=>
  cases w<;>first |(unfold aK at e;simp at e;done) |skip
  subst h;injection g with g';subst g';unfold aK at e;cases e;exact beq_self_eq_true _
theorem Rl(I:aG X FX σ H s):∀(n:Nat)(v w:PV)(x:V)(b:Bool),aL X.K c H v x->aL X.K c H w x->aK n v w=some b->b=true:=by
 intro n
 induction n with
 |zero=>
  intro v w x b h g e;cases v with
  |tup xs=>unfold aK at e;simp at e
  |lst xs=>unfold aK at e;simp at e
  |_=>exact Yk 0 _ w x b (by intro _ z;cases z) (by intro _ z;cases z) h g e
 |succ n ih=>
  have items:∀(xs ys:FS)(vs:List V)(bs:List Bool),aM X.K c H xs vs->aM X.K c H ys vs->jN (dh (aK n) xs ys)=some bs->bs.all id=true/\xs.length=ys.length:=λxs ys vs bs r1 r2 e=>by
   have ll:=r1.length.trans r2.length.symm;refine⟨?_,ll⟩;rw[ie];intro b hb;obtain⟨j,hj,ej⟩:=uq hb;have hj':=hj;rw[tK e]at hj';have g1:j<xs.length:=by omega
   have g2:j<ys.length:=by omega
   obtain⟨x,ex,rx⟩:=r1.get (bf g1);obtain⟨y,ey,ry⟩:=r2.get (bf g2);have:=ex.symm.trans ey;cases this;have hz:(dh (aK n) xs ys)[j]?=some (aK n xs[j] ys[j]):=by
    rw[CF,bf g1,bf g2]
   obtain⟨b',eb,eb'⟩:=Ga e hz;rw[bf hj,ej]at eb';cases eb';exact ih _ _ _ _ rx ry eb
  intro v w x b h g e;cases v with
  |tup xs=>
   cases w with
   |tup ys=>
    unfold aL at h g;obtain⟨a,vs,rfl,t1,_,r1⟩:=h;obtain⟨a',ws,e1,t2,_,r2⟩:=g;cases e1;have:=I.tuple_inj t1 t2;subst this;unfold aK at e;split at e
    .rename_i bs hb
     obtain⟨z1,z2⟩:=items xs ys vs bs r1 r2 hb;rw[z1,z2,beq_self_eq_true]at e;cases e;rfl
    .cases e
   |_=>unfold aK at e;simp at e
  |lst xs=>
   cases w with
   |lst ys=>
    unfold aL at h g;obtain⟨a,vs,rfl,t1,_,r1⟩:=h;obtain⟨a',ws,e1,t2,_,r2⟩:=g;cases e1;have:=I.list_inj t1.sq t2.sq;subst this;unfold aK at e;rw[if_pos (r1.length.trans r2.length.symm)]at e;split at e
    .rename_i bs hb
     obtain⟨z1,z2⟩:=items xs ys vs bs r1 r2 hb;rw[z1]at e;cases e;rfl
    .cases e
   |_=>unfold aK at e;simp at e
  |_=>exact Yk (n+1) _ w x b (by intro _ z;cases z) (by intro _ z;cases z) h g e
theorem Rq(I:aG X FX σ H s):∀(n:Nat)(v w:PV)(x y:V)(u u':Value)(b:Bool)(A:ax),A.units+n<cLine->aL X.K c H v x->aL X.K c H w y->bK x u->bK y u'->aK n v w=some b->su A s u u' b/\ki A s u u' b:=by
 have flat:∀(n:Nat)(v w:PV)(x y:V)(u u':Value)(b:Bool)(A:ax),(∀xs,v≠.tup xs)->(∀xs,v≠.lst xs)->aL X.K c H v x->aL X.K c H w y->bK x u->bK y u'->aK n v w=some b->su A s u u' b/\ki A s u u' b:=by
  intro n v w x y u u' b A nt nl h g r r' e;cases v with
  |tup xs=>exact absurd rfl (nt xs)
  |lst xs=>exact absurd rfl (nl xs)
  |obj C ns fs=>cases w<;>(unfold aK at e;simp at e)
  |non=>
   cases w<;>first |(unfold aK at e;simp at e;done) |skip
   unfold aL at h g;subst h g;cases r;cases r';unfold aK at e;cases e;exact⟨CH,xq _⟩
  |bl i=>
   cases w<;>first |(unfold aK at e;simp at e;done) |skip
   unfold aL at h g;subst h g;cases r;cases r';unfold aK at e;cases e;exact⟨CI _ _,SeqAt.EqAt.bool_bool _ _⟩
  |int i=>
   cases w<;>first |(unfold aK at e;simp at e;done) |skip
   unfold aL at h g;subst h g;obtain⟨t,rfl⟩:=r;obtain⟨t',rfl⟩:=r';unfold aK at e;cases e;exact⟨CJ _ _ _ _,zn _ _ _ _⟩
  |str i=>
   cases w<;>first |(unfold aK at e;simp at e;done) |skip
   unfold aL at h g;subst h g;obtain⟨t,rfl⟩:=r;obtain⟨t',rfl⟩:=r';unfold aK at e;cases e;exact⟨CK _ _ _ _,SeqAt.EqAt.str_str _ _ _ _⟩
 have main:∀(n:Nat)(v w:PV)(x y:V)(u u':Value)(b:Bool)(A:ax),A.units+n<cLine->aL X.K c H v x->aL X.K c H w y->bK x u->bK y u'->aK n v w=some b->su A s u u' b/\ki A s u u' b:=by
  intro n
  induction n with
  |zero=>
   intro v w x y u u' b A hu h g r r' e;cases v with
   |tup xs=>unfold aK at e;simp at e
   |lst xs=>unfold aK at e;simp at e
   |_=>exact flat 0 _ w x y u u' b A (by intro _ z;cases z) (by intro _ z;cases z) h g r r' e
  |succ n ih=>
   intro v w x y u u' b A hu h g r r' e;have hin:A.in1.units+n<cLine:=by show A.units+1+n<cLine;omega
   cases v with
   |tup xs=>
    cases w with
    |tup ys=>
     have hs:x=y->b=true:=λz=>Rl I (n+1) _ _ x b h (z▸g) e;unfold aL at h g;obtain⟨a,vs,rfl,t1,_,r1⟩:=h;obtain⟨a',ws,rfl,t2,_,r2⟩:=g;cases r;cases r';obtain⟨its,q1,p1,_⟩:=I.tuple t1;obtain⟨jts,q2,p2,_⟩:=I.tuple t2;unfold aK at e;split at e
     .rename_i bs hb
      cases e;have z:=j6 (A:=A) (s:=s) (e:=λj=>bs.getD j true) (show s.heap.IsTuple a its.toArray from p1) (show s.heap.IsTuple a' jts.toArray from p2) (by omega)
       (wG (A:=A.in1) (λv w x y u u' b h1 h2 h3 h4 h5=>(ih v w x y u u' b A.in1 hin h1 h2 h3 h4 h5).2) r1 r2 q1 q2 hb)
      have l1:=r1.length.trans q1.length;have l2:=r2.length.trans q2.length;rw[ay,ay,<-l1,<-l2,<-tK hb,vW]at z;refine⟨z,?_⟩
      by_cases ha:a=a'
      .subst ha
       rw[hs rfl];exact xq _
      .exact j7 ha z
     .cases e
    |_=>unfold aK at e;simp at e
   |lst xs=>
    cases w with
    |lst ys=>
     have hs:x=y->b=true:=λz=>Rl I (n+1) _ _ x b h (z▸g) e;unfold aL at h g;obtain⟨a,vs,rfl,t1,_,r1⟩:=h;obtain⟨a',ws,rfl,t2,_,r2⟩:=g;cases r;cases r';obtain⟨its,q1,p1,_⟩:=I.list t1.sq;obtain⟨jts,q2,p2,_⟩:=I.list t2.sq;have l1:=r1.length.trans q1.length;have l2:=r2.length.trans q2.length;have fin:su A s (.ref a) (.ref a') b->su A s (.ref a) (.ref a') b/\ki A s (.ref a) (.ref a') b:=λz=>by
      refine⟨z,?_⟩
      by_cases ha:a=a'
      .subst ha
       rw[hs rfl];exact xq _
      .exact j7 ha z
     unfold aK at e;split at e
     .rename_i hl
      split at e
      .rename_i bs hb
       cases e;have z:=CN (A:=A) (s:=s) (e:=λj=>bs.getD j true) p1.isList p2.isList (by rw[ay,ay];omega) (by omega)
        (wG (A:=A.in1) (λv w x y u u' b h1 h2 h3 h4 h5=>(ih v w x y u u' b A.in1 hin h1 h2 h3 h4 h5).2) r1 r2 q1 q2 hb)
       have hm:its.length=bs.length:=by rw[tK hb];omega
       rw[ay,hm,vW]at z;exact fin z
      .cases e
     .rename_i hl
      cases e;exact fin (CO p1.isList p2.isList (by rw[ay,ay];simp;omega) (by omega))
    |_=>unfold aK at e;simp at e
   |_=>exact flat (n+1) _ w x y u u' b A (by intro _ z;cases z) (by intro _ z;cases z) h g r r' e
 exact main
end
noncomputable section
open PySem PySem.Spec PyProof.Rows Bn
section
variable{X:Cx}
theorem Ws{FX:List (Addr×Obj)}{σ:St}{H:Hp}{s:aa}(I:aG X FX σ H s){p:Ph}{v w:PV}{x y:V}{u u':Value}{b:Bool}{A:ax}(hu:A.units+8<cLine)(h:dQ X.K p H v x)(g:dQ X.K p H w y)(r:bK x u)(r':bK y u')(e:aK 8 v w=some b):
  su A s u u' b/\SeqAt.RcNeAt A s u u' (!b):=by
 have hin:A.in1.units+7<cLine:=by show A.units+1+7<cLine;omega
 cases v with
 |obj C ns fs=>cases w<;>(unfold aK at e;simp at e)
 |non=>
  cases w<;>first |(unfold aK at e;simp at e;done) |skip
  have h:=h.non;have g:=g.non;subst h g;cases r;cases r';unfold aK at e;cases e;exact⟨CH,SeqAt.RcNeAt.none_none⟩
 |bl i=>
  cases w<;>first |(unfold aK at e;simp at e;done) |skip
  have h:=h.bl;have g:=g.bl;subst h g;cases r;cases r';unfold aK at e;cases e;exact⟨CI _ _,SeqAt.RcNeAt.bool_bool _ _⟩
 |int i=>
  cases w<;>first |(unfold aK at e;simp at e;done) |skip
  have h:=h.int;have g:=g.int;subst h g;obtain⟨t,rfl⟩:=r;obtain⟨t',rfl⟩:=r';unfold aK at e;cases e;exact⟨CJ _ _ _ _,SeqAt.RcNeAt.int_int _ _ _ _⟩
 |str i=>
  cases w<;>first |(unfold aK at e;simp at e;done) |skip
  have h:=h.str;have g:=g.str;subst h g;obtain⟨t,rfl⟩:=r;obtain⟨t',rfl⟩:=r';unfold aK at e;cases e;exact⟨CK _ _ _ _,SeqAt.RcNeAt.str_str _ _ _ _⟩
 |tup xs=>
  cases w with
  |tup ys=>
   obtain⟨a,vs,rfl,t1,_,r1⟩:=h.tup;obtain⟨a',ws,rfl,t2,_,r2⟩:=g.tup;cases r;cases r';obtain⟨its,q1,p1,_⟩:=I.tuple t1;obtain⟨jts,q2,p2,_⟩:=I.tuple t2;unfold aK at e;split at e
   .rename_i bs hb
    cases e;have it:=wG (s:=s) (A:=A.in1) (λv w x y u u' b h1 h2 h3 h4 h5=>(Rq I 7 v w x y u u' b A.in1 hin h1 h2 h3 h4 h5).2) r1 r2 q1 q2 hb;have z:=j6 (A:=A) (s:=s) (e:=λj=>bs.getD j true) (show s.heap.IsTuple a its.toArray from p1) (show s.heap.IsTuple a' jts.toArray from p2) (by omega) it;have z':=SeqAt.RcNeAt.tuples (A:=A) (s:=s) (e:=λj=>bs.getD j true) (show s.heap.IsTuple a its.toArray from p1) (show s.heap.IsTuple a' jts.toArray from p2) (by omega) it;have l1:=r1.length.trans q1.length;have l2:=r2.length.trans q2.length;rw[ay,ay,<-l1,<-l2,<-tK hb,vW]at z z';exact⟨z,z'⟩
   .cases e
  |_=>unfold aK at e;simp at e
 |lst xs=>
  cases w with
  |lst ys=>
   obtain⟨a,vs,rfl,t1,_,r1⟩:=h.lst;obtain⟨a',ws,rfl,t2,_,r2⟩:=g.lst;cases r;cases r';obtain⟨its,q1,p1,_⟩:=I.list t1;obtain⟨jts,q2,p2,_⟩:=I.list t2;have l1:=r1.length.trans q1.length;have l2:=r2.length.trans q2.length;unfold aK at e;split at e
   .rename_i hl
    split at e
    .rename_i bs hb
     cases e;have it:=wG (s:=s) (A:=A.in1) (λv w x y u u' b h1 h2 h3 h4 h5=>(Rq I 7 v w x y u u' b A.in1 hin h1 h2 h3 h4 h5).2) r1 r2 q1 q2 hb;have z:=CN (A:=A) (s:=s) (e:=λj=>bs.getD j true) p1.isList p2.isList (by rw[ay,ay];omega) (by omega) it;have z':=SeqAt.RcNeAt.lists (A:=A) (s:=s) (e:=λj=>bs.getD j true) p1.isList p2.isList (by rw[ay,ay];omega) (by omega) it;have hm:its.length=bs.length:=by rw[tK hb];omega
     rw[ay,hm,vW]at z z';exact⟨z,z'⟩
    .cases e
   .rename_i hl
    cases e;exact⟨CO p1.isList p2.isList (by rw[ay,ay];simp;omega) (by omega),SeqAt.RcNeAt.lists_lengths p1.isList p2.isList (by rw[ay,ay];simp;omega) (by omega)⟩
  |_=>unfold aK at e;simp at e
noncomputable def yK(K:ah)(neg:Bool):R2:=λx y H Q=>∃p v w b,dQ K p H v x/\dQ K p H w y/\aK 8 v w=some b/\Q (.bl (if neg then !b else b)) H
theorem Gr(hu:X.A.units+8<cLine):dX X (compareOp .Eq) (yK X.K false):=by
 intro FX s σ H x y v u Q I rx ry h;obtain⟨p,a,b,k,h1,h2,e,q⟩:=h;exact(Ws I hu h1 h2 rx ry e).1 _ _ _ _ ⟨.bl k,H,I,rfl,q⟩
theorem Cr(hu:X.A.units+8<cLine):dX X (compareOp .NotEq) (yK X.K true):=by
 intro FX s σ H x y v u Q I rx ry h;obtain⟨p,a,b,k,h1,h2,e,q⟩:=h;exact(Ws I hu h1 h2 rx ry e).2 _ _ _ _ ⟨.bl _,H,I,rfl,q⟩
noncomputable def dP(a b:PV):FT:=(aK 8 a b).map .bl
noncomputable def gM(a b:PV):FT:=(aK 8 a b).map λk=>.bl (!k)
theorem Ut{K:ah}:gS K (yK K false) dP:=λ{p S H a b c x y Q} s ra rb e k=>by
 unfold dP at e;cases z:aK 8 a b with
 |none=>simp_all
 |some t=>
  rw[z]at e;cases e;exact⟨p,a,b,t,ra,rb,z,k H _ (cN.refl H) (by rfl)⟩
theorem Au{K:ah}:gS K (yK K true) gM:=λ{p S H a b c x y Q} s ra rb e k=>by
 unfold gM at e;cases z:aK 8 a b with
 |none=>simp_all
 |some t=>
  rw[z]at e;cases e;exact⟨p,a,b,t,ra,rb,z,k H _ (cN.refl H) (by rfl)⟩
noncomputable def i2(f:Int->Int->FT):PV->PV->FT
 |.int a,.int b=>f a b
 |_,_=>none
open Classical in
noncomputable def cI(C:Int->Int->Prop)(g:Int->Int->PV)(a b:Int):FT:=if C a b then some (g a b)else none
noncomputable def zF:PV->V
 |.int i=>.int i
 |.bl b=>.bl b
 |.str s=>.str s
 |_=>.non
noncomputable def Re:PV->Bool
 |.int _=>true
 |.bl _=>true
 |.str _=>true
 |.non=>true
 |_=>false
theorem lA{K:ah}{c:Addr->Prop}{H:Hp}{v:PV}(h:Re v=true):aL K c H v (zF v):=by
 cases v with
 |tup _=>cases h
 |lst _=>cases h
 |obj _ _ _=>cases h
 |_=>rfl
theorem yR{K:ah}{C:Int->Int->Prop}{g:Int->Int->PV}{h:Int->Int->V}(fl:∀i j,Re (g i j)=true/\zF (g i j)=h i j):gS K (rI C h) (i2 (cI C g)):=λ{p S H a b c x y Q} s ra rb e k=>by
 cases a with
 |int i=>
  cases b with
  |int j=>
   unfold i2 cI at e;dsimp only at e;split at e
   .rename_i hc
    cases e;refine⟨i,j,ra.int,rb.int,hc,?_⟩;rw[<-(fl i j).2];exact k H _ (cN.refl H) (lA (fl i j).1)
   .cases e
  |_=>cases e
 |_=>cases e
theorem uU{K:ah}{g:Int->Int->PV}{h:Int->Int->V}(fl:∀i j,Re (g i j)=true/\zF (g i j)=h i j):gS K (jK h) (i2 λi j=>some (g i j)):=λ{p S H a b c x y Q} s ra rb e k=>by
 cases a with
 |int i=>
  cases b with
  |int j=>
   cases e;refine⟨i,j,ra.int,rb.int,?_⟩;rw[<-(fl i j).2];exact k H _ (cN.refl H) (lA (fl i j).1)
  |_=>cases e
 |_=>cases e
noncomputable def pR(i j:Int):Prop:=Mf i j\/(Bd 1000000 i/\Bd 1000000 j)
theorem pR.ok(h:pR i j):IntMulOk i j:=by
 rcases h with h |h
 .exact h.ok
 have h1:=Zp h.1;have h2:=Zp h.2;unfold IntMulOk Builtin.Int.intTooBig bitsLine;grind
theorem X6:dX X (binaryOp .Mult) (rI pR λi j=>.int (i*j)):=yX λ_ _ _ _ _ _ _ hc q=>mul_int q hc.ok
noncomputable def aV:=i2 (cI pR λi j=>.int (i*j))
noncomputable def dI:=i2 (cI pP λi j=>.int (i.fdiv j))
noncomputable def cV:=i2 (cI (λ_ j=>j≠0) λi j=>.int (i.fmod j))
noncomputable def jG:=i2 (cI yS λi j=>.int (i^j.toNat))
noncomputable def eP:=i2 λi j=>some (.int (i-j))
noncomputable def mK:=i2 λi j=>some (.bl (decide (i<j)))
noncomputable def nM:=i2 λi j=>some (.bl (decide (i<=j)))
noncomputable def gK:=i2 λi j=>some (.bl (decide (j<i)))
noncomputable def sN:=i2 λi j=>some (.bl (decide (j<=i)))
theorem adb{K:ah}:gS K (rI pR λi j=>.int (i*j)) aV:=yR λ_ _=>⟨rfl,rfl⟩
theorem acd{K:ah}:gS K (rI pP λi j=>.int (i.fdiv j)) dI:=yR λ_ _=>⟨rfl,rfl⟩
theorem adU{K:ah}:gS K (rI (λ_ j=>j≠0) λi j=>.int (i.fmod j)) cV:=yR λ_ _=>⟨rfl,rfl⟩
theorem adZ{K:ah}:gS K (rI yS λi j=>.int (i^j.toNat)) jG:=yR λ_ _=>⟨rfl,rfl⟩
theorem ad9{K:ah}:gS K (jK λi j=>.int (i-j)) eP:=uU λ_ _=>⟨rfl,rfl⟩
theorem Ou{K:ah}:gS K (jK λi j=>.bl (decide (i<j))) mK:=uU λ_ _=>⟨rfl,rfl⟩
theorem Cu{K:ah}:gS K (jK λi j=>.bl (decide (i<=j))) nM:=uU λ_ _=>⟨rfl,rfl⟩
theorem Fu{K:ah}:gS K (jK λi j=>.bl (decide (j<i))) gK:=uU λ_ _=>⟨rfl,rfl⟩
theorem Lu{K:ah}:gS K (jK λi j=>.bl (decide (j<=i))) sN:=uU λ_ _=>⟨rfl,rfl⟩
noncomputable def dL:PV->FT
 |.int i=>some (.int (-i))
 |_=>none
theorem aei{K:ah}:vJ K (rU λi=>.int (-i)) dL:=λ{p S H a c x Q} s ra e k=>by
 cases a with
 |int i=>
  cases e;exact⟨i,ra.int,k H _ (cN.refl H) rfl ⟩
 |_=>cases e
noncomputable def Tt(K:ah):R2:=λx y H Q=>∃l b xs zs,x=.ref l/\y=.ref b/\bS K H l xs/\bS K H b zs/\xs.length+zs.length<=sizeLine/\∀p,H p=none->Q (.ref p) (aS H p (.lst (xs++zs)))
theorem aaH:dX X (binaryOp .Add) (Tt X.K):=by
 intro FX s σ H x y v u Q I rx ry h;obtain⟨l,b,xs,zs,rfl,rfl,hx,hy,hz,q⟩:=h;cases rx;cases ry;obtain⟨its,r1,p1,_⟩:=I.list hx;obtain⟨jts,r2,p2,_⟩:=I.list hy;obtain⟨⟨cls,dd,data,sl⟩,n,ho,hc,_,hd⟩:=p1;obtain⟨⟨cls2,dd2,data2,sl2⟩,n2,ho2,hc2,_,hd2⟩:=p2;simp only at hc hd hc2 hd2;subst hc hd hc2 hd2;have e:its.toArray++jts.toArray=(its++jts).toArray:=by simp
 have l1:=r1.length;have l2:=r2.length;refine zt ⟨_,ho,rfl⟩ ⟨_,ho2,rfl⟩ noFill_list_add seq_list_add PySem.F.slot_list_add PySem.F.entry_list_add (PySem.F.args_list_add_2 _ _) (list_addW l b _ _ n n2 dd dd2 sl sl2 (by grind)) ⟨ho,ho2,?_⟩;rw[e];exact⟨.ref _,_,I.lnew  (r1.append r2) (by rw[cx];omega),rfl,q _ I.fresh⟩
noncomputable def aH:PV->PV->FT
 |.int a,.int b=>some (.int (a+b))
 |.lst xs,.lst ys=>if xs.length+ys.length<=16777216 then some (.lst (xs++ys))else none
 |.tup xs,.tup ys=>if xs.length≠0/\ys.length≠0/\xs.length+ys.length<=16777216 then some (.tup (xs++ys))else none
 |_,_=>none
noncomputable def Rs(K:ah):R2:=λx y H Q=>(jK λi j=>.int (i+j)) x y H Q\/Tt K x y H Q\/Ks K x y H Q
theorem W8:dX X (binaryOp .Add) (Rs X.K):=dX.or acn (dX.or aaH aaT)
theorem adT{K:ah}:gS K (Rs K) aH:=λ{p S H a b c x y Q} s ra rb e k=>by
 cases a with
 |int i=>
  cases b with
  |int j=>
   cases e;exact .inl ⟨i,j,ra.int,rb.int,k H _ (cN.refl H) (lA  rfl)⟩
  |_=>cases e
 |lst xs=>
  cases b with
  |lst ys=>
   have e:(if xs.length+ys.length<=16777216 then some (PV.lst (xs++ys))else none)=some c:=e;split at e
   .rename_i hl
    cases e;obtain⟨a1,vs,rfl,l1,z1,r1⟩:=ra.lst;obtain⟨a2,ws,rfl,l2,z2,r2⟩:=rb.lst;have hz:vs.length+ws.length<=sizeLine:=by rw[<-r1.length,<-r2.length,iP];exact hl
    exact .inr (.inl ⟨a1,a2,vs,ws,rfl,rfl,l1,l2,hz,λt ht=>k _ _ (fS ht) (lC s (r1.append r2) (by rw[cx];exact hz) ht)⟩)
   .cases e
  |_=>cases e
 |tup xs=>
  cases b with
  |tup ys=>
   have e:(if xs.length≠0/\ys.length≠0/\xs.length+ys.length<=16777216 then some (PV.tup (xs++ys))else none)=some c:=e;split at e
   .rename_i hl
    cases e;obtain⟨a1,vs,rfl,l1,z1,r1⟩:=ra.tup;obtain⟨a2,ws,rfl,l2,z2,r2⟩:=rb.tup;have hz:vs.length+ws.length<=sizeLine:=by rw[<-r1.length,<-r2.length,iP];exact hl.2.2
    refine .inr (.inr ⟨a1,a2,vs,ws,rfl,rfl,l1,l2,λq=>hl.1 (by rw[r1.length,q];rfl),hz,λq=>absurd (show ys.length=0 by rw[r2.length,q];rfl) hl.2.1,λ_ t ht=>k _ _ (fS ht) (rF s (r1.append r2) (by rw[cx];exact hz) ht)⟩)
   .cases e
  |_=>cases e
 |_=>cases e
end
section
variable{K:ah}{cl:Str->Addr}{E:XK}{X:Cx}{a b e:ai}{es:List ai}{ma mb m:ME}{ms:MA}{pos p2:ak}
noncomputable def aE:PV->PV->FT
 |.lst xs,.int i=>aX xs i
 |.tup xs,.int i=>aX xs i
 |_,_=>none
theorem wS(r:aM K c H xs vs)(e:aX xs i=some v):∃x,aX vs i=some x/\aL K c H v x:=by
 unfold aX at e⊢;rw[<-r.length];cases z:aY _ i with
 |none=>simp_all
 |some j=>
  rw[z]at e;exact r.get e
theorem afh:gS K (Ev K) aE:=λ{p S H a b c x y Q} s ra rb e k=>by
 cases b with
 |int i=>
  cases a with
  |lst xs=>
   obtain⟨a1,vs,rfl,l1,z1,r1⟩:=ra.lst;obtain⟨x,e1,r2⟩:=wS r1 e;exact .inl ⟨a1,vs,i,x,rfl,rb.int,l1,e1,k H x (cN.refl H) r2⟩
  |tup xs=>
   obtain⟨a1,vs,rfl,l1,z1,r1⟩:=ra.tup;obtain⟨x,e1,r2⟩:=wS r1 e;exact .inr (.inl ⟨a1,vs,i,x,rfl,rb.int,l1,e1,k H x (cN.refl H) r2⟩)
  |_=>cases e
 |_=>cases a<;>cases e
theorem aej(ha:aT K cl E X a ma)(hb:aT K cl E X b mb)(hs:Qc b:=by intro _ _;rfl):aT K cl E X (.Subscript a b pos) (aC aE ma mb):=by
 intro hK;subst hK;refine(At abe (ha rfl) (hb rfl) hs).imp ?_
 rintro σ H Q ⟨p,S,ρ,s,e,h⟩
 exact bT s e h λq H1 a x S1 st s1 e1 r1 h1=>bT s1 e1 h1 λq2 H2 b y S2 st2 s2 e2 r2 h2=>vX afh s2 (st2.repA r1) r2 h2
noncomputable abbrev MO:=bM->aI->bI FR
noncomputable def eN:MO:=λ_ S=>.ok none S
noncomputable def kQ:AV->aI->bI FR
 |.pv (.int i),S=>.ok (some i) S
 |_,_=>.fail
noncomputable def fK(m:ME):MO:=λρ S=>(m ρ S).bind kQ
noncomputable abbrev RO:Ph->Hp->FR->FR->Prop:=λ_ _ a b=>a=b
variable(K cl E X)
noncomputable def oV(e:Option ai)(m:MO):Prop:=X.K=K->PO X e (tP K cl E RO m)
variable{K cl E X}
theorem PO.imp{e:Option ai}{t t':TO}(h:PO X e t)(i:∀σ H Q,t' σ H Q->t σ H Q):PO X e t':=λFX s σ H Q I q=>h _ s _ H Q I (i _ H Q q)
theorem Q6:oV K cl E X none eN:=λ_=>PO.imp T5 λσ H Q ⟨p,S,ρ,s,e,h⟩=>bU.ret (R:=RO) h s rfl
theorem D7(h:aT K cl E X e m):oV K cl E X (some e) (fK m):=by
 intro hK;subst hK;refine PO.imp (Yb (h rfl)) ?_
 rintro σ H Q ⟨p,S,ρ,s,e,h⟩
 refine bT s e h λq H1 a x S1 st s1 e1 r1 h1=>?_;unfold kQ at h1;split at h1
 .rename_i i
  exact⟨i,(show dQ _ q _ _ x from .inl r1).int,bU.ret (R:=RO) h1 s1 rfl⟩
 .exact h1.elim
noncomputable def kD(xs:FS)(lo hi:FR):FS:=(xs.drop (HT.sIx xs.length 0 lo)).take (HT.sIx xs.length xs.length hi-HT.sIx xs.length 0 lo)
noncomputable def lU(v:PV)(lo hi:FR):FT:=match v with
 |.lst xs=>some (.lst (kD xs lo hi))
 |.tup xs=>if HT.sIx xs.length 0 lo=0/\HT.sIx xs.length xs.length hi=xs.length then none else some (.tup (kD xs lo hi))
 |_=>none
noncomputable def gL(m:ME)(ml mh:MO):ME:=λρ S=>(m ρ S).bind λv S1=>(ml ρ S1).bind λlo S2=>(mh ρ S2).bind λhi S3=>iJ ((rd S3 v).bind λx=>lU x lo hi) S3
theorem Lm{lo hi:FR}(r:aM K c H xs vs):aM K c H (kD xs lo hi) (oM vs lo hi):=by
 unfold kD oM;rw[<-r.length];exact(r.drop _).take _
theorem adM{lo hi:Option ai}{ml mh:MO}(he:aT K cl E X e m)(hl:oV K cl E X lo ml)(hu:oV K cl E X hi mh):aT K cl E X (.Subscript e (.Slice lo hi none p2) pos) (gL m ml mh):=by
 intro hK;subst hK;refine(N7 (oQ.or aaj abM) (he rfl) (hl rfl) (hu rfl)).imp ?_
 rintro σ H Q ⟨p,S,ρ,s,e,h⟩
 refine bT s e h λq H1 a x S1 st s1 e1 r1 h1=>bT s1 e1 h1 λq2 H2 lo lo' S2 st2 s2 e2 r2 h2=>bT s2 e2 h2 λq3 H3 hi hi' S3 st3 s3 e3 r3 h3=>?_;cases r2;cases r3;have ra:=st3.repA (st2.repA r1);obtain⟨c,ec,k⟩:=pI s3 h3;cases z:rd S3 a with
 |none=>rw[z]at ec;cases ec
 |some v=>
  rw[z]at ec;have rv:=pL s3 ra z;cases v with
  |lst xs=>
   cases ec;obtain⟨a1,vs,rfl,l1,z1,r1⟩:=rv.lst;exact .inl ⟨a1,vs,rfl,l1,λt ht=>k _ _ (fS ht) (lC s3 (Lm r1) (gm (vP vs lo hi) z1) ht)⟩
  |tup xs=>
   obtain⟨a1,vs,rfl,l1,z1,r1⟩:=rv.tup;have ec:(if HT.sIx _ 0 lo=0/\HT.sIx _ _ hi=xs.length then none else some _)=some c:=ec;split at ec
   .cases ec
   .rename_i hw
    cases ec;rw[r1.length]at hw;exact .inr ⟨a1,vs,rfl,l1,hw,λt ht=>k _ _ (fS ht) (rF s3 (Lm r1) (gm (vP vs lo hi) z1) ht)⟩
  |_=>cases ec
theorem pG{id:String}{r:List V->Hp->VK->Prop}{f:FS->FT}{x:Str}{p:ak}(hc:jC X (.builtin id) r)(hf:jV X.K r f)(hg:Gl X x)(hm:X.mg x=none)(hv:bootBuiltins x=some (.builtin id))(ha:dS K cl E X (e::es) ms)(hn:x≠"__name__":=by decide)(hdb:(x==("__debug__":Str))=false:=by decide)
  (he:starEach (e::es) X.env=(false,eval e X.env)::starEach es X.env:=by rfl)(hpl:(backTo pos (starEach es X.env)).any (·.1)=false:=by rfl):aT K cl E X (.Call (.Name x p) (e::es) [] pos) (mR f ms):=by
 intro hK;subst hK;refine PE.imp (wF hc hg hm hv (ha rfl) hn hdb he hpl) ?_
 rintro σ H Q ⟨p,S,ρ,s,ev,h⟩
 exact bT s ev h λq H' as xs S' bR sm ev r k=>wD hf sm r k
theorem Jl{p:ak}(hc:jC X (.type T) r)(hf:jV X.K r f)(hg:Gl X x)(hm:X.mg x=none)(hv:bootBuiltins x=some (.type T))(ha:dS K cl E X (e::es) ms)(hn:x≠"__name__":=by decide)(hdb:(x==("__debug__":Str))=false:=by decide)
  (he:starEach (e::es) X.env=(false,eval e X.env)::starEach es X.env:=by rfl)(hpl:(backTo pos (starEach es X.env)).any (·.1)=false:=by rfl):aT K cl E X (.Call (.Name x p) (e::es) [] pos) (mR f ms):=by
 intro hK;subst hK;refine PE.imp (Xj hc hg hm hv (ha rfl) hn hdb he hpl) ?_
 rintro σ H Q ⟨p,S,ρ,s,ev,h⟩
 exact bT s ev h λq H' as xs S' bR sm ev r k=>wD hf sm r k
noncomputable def dJ:FS->FT
 |[.lst xs]=>some (.int xs.length)
 |[.tup xs]=>some (.int xs.length)
 |_=>none
theorem ad6:jV K (λxs H Q=>∃p ys,xs=[.ref p]/\(bS K H p ys\/cO K H p ys)/\Q (.int ys.length) H) dJ:=λ{p S H as c xs Q} s ra e k=>by
 unfold dJ at e;split at e
 .cases e;cases ra with
  |cons h t=>
   cases t;obtain⟨a,vs,rfl,l,z,r⟩:=h.lst;refine⟨a,vs,rfl,.inl l,?_⟩;rw[<-r.length];exact k H _ (cN.refl H) (lA  rfl)
 .cases e;cases ra with
  |cons h t=>
   cases t;obtain⟨a,vs,rfl,l,z,r⟩:=h.tup;refine⟨a,vs,rfl,.inr l,?_⟩;rw[<-r.length];exact k H _ (cN.refl H) (lA  rfl)
 .cases e
noncomputable def eD:FS->FT
 |[.int i]=>some (.int (if i<0 then-i else i))
 |_=>none
theorem adI:jV K (λxs H Q=>∃i,xs=[.int i]/\Q (.int (if i<0 then-i else i)) H) eD:=λ{p S H as c xs Q} s ra e k=>by
 unfold eD at e;split at e
 .rename_i i
  cases e;cases ra with
  |cons h t=>
   cases t;cases h.int;exact⟨i,rfl,k H _ (cN.refl H) (lA  rfl)⟩
 .cases e
noncomputable def lD:FS->FT
 |[.lst xs]=>some (.tup xs)
 |[.tup xs]=>some (.tup xs)
 |_=>none
theorem aa2:jV K (λxs H Q=>∃p ys,xs=[.ref p]/\((bS K H p ys/\∀l,H l=none->Q (.ref l) (aS H l (.tup ys)))\/(cO K H p ys/\Q (.ref p) H))) lD:=λ{p S H as c xs Q} s ra e k=>by
 unfold lD at e;split at e
 .cases e;cases ra with
  |cons h t=>
   cases t;obtain⟨a,vs,rfl,l,z,r⟩:=h.lst;exact⟨a,vs,rfl,.inl ⟨l,λt ht=>k _ _ (fS ht) (rF s r z ht)⟩⟩
 .cases e;cases ra with
  |cons h t=>
   cases t;obtain⟨a,vs,rfl,l,z,r⟩:=h.tup;refine⟨a,vs,rfl,.inr ⟨l,k H _ (cN.refl H) ?_⟩⟩;exact⟨a,vs,rfl,l,z,r⟩
 .cases e
noncomputable def oB:FS->FT
 |[.lst xs]=>some (.lst xs)
 |[.tup xs]=>some (.lst xs)
 |_=>none
theorem aaN:jV K (λxs H Q=>∃p ys,xs=[.ref p]/\(bS K H p ys\/cO K H p ys)/\∀l,H l=none->Q (.ref l) (aS H l (.lst ys))) oB:=λ{p S H as c xs Q} s ra e k=>by
 unfold oB at e;split at e
 .cases e;cases ra with
  |cons h t=>
   cases t;obtain⟨a,vs,rfl,l,z,r⟩:=h.lst;exact⟨a,vs,rfl,.inl l,λt ht=>k _ _ (fS ht) (lC s r z ht)⟩
 .cases e;cases ra with
  |cons h t=>
   cases t;obtain⟨a,vs,rfl,l,z,r⟩:=h.tup;exact⟨a,vs,rfl,.inr l,λt ht=>k _ _ (fS ht) (lC s r z ht)⟩
 .cases e
noncomputable def sB:FS->Option (List Bool)
 |[]=>some []
 |.bl b::r=>match sB r with
  |some bs=>some (b::bs)
  |none=>none
 |_::_=>none
noncomputable def uK:FS->FT
 |[.lst xs]=>(sB xs).map λbs=>.bl (bs.all id)
 |_=>none
theorem Vn:∀{xs:FS}{bs:List Bool}{vs:List V},sB xs=some bs->aM K c H xs vs->vs=bs.map V.bl
 |[],bs,vs,e,r=>by
  cases e;exact r
 |.bl b::xs,bs,vs,e,r=>by
  unfold sB at e;split at e
  .rename_i cs h
   cases e;obtain⟨v,w,rfl,r1,r2⟩:=r;rw[r1,Vn h r2];rfl
  .cases e
 |.non::_,_,_,e,_=>by cases e
 |.int _::_,_,_,e,_=>by cases e
 |.str _::_,_,_,e,_=>by cases e
 |.tup _::_,_,_,e,_=>by cases e
 |.lst _::_,_,_,e,_=>by cases e
theorem adp:jV K (λxs H Q=>∃(a:Addr)(bs:List Bool),xs=[.ref a]/\bS K H a (bs.map V.bl)/\Q (.bl (bs.all id)) H) uK:=λ{p S H as c xs Q} s ra e k=>by
 unfold uK at e;split at e
 .rename_i zs
  cases y:sB zs with
  |none=>simp_all
  |some bs=>
   rw[y]at e;cases e;cases ra with
   |cons h t=>
    cases t;obtain⟨a,vs,rfl,l,z,r⟩:=h.lst;rw[Vn y r]at l;exact⟨a,bs,rfl,l,k H _ (cN.refl H) (lA  rfl)⟩
 .cases e
end
end
section
variable{K:ah}{cl:Str->Addr}{E:XK}{X:Cx}{a b c e l:ai}{es:List ai}{m:ME}{ms:MA}{pos:ak}{p q:Ph}{H H':Hp}{S:aI}
theorem aW.push(s:aW K p S H){D:Addr}{ps:FS}{vs:List V}(h:H D=none)(l:vs.length<=sizeLine)(r:aM K p.c H ps vs):
  let q:Ph:=⟨p.f++[D],λa=>p.w a\/a=D,λa=>p.c a\/a=D⟩
  bF p H q (aS H D (.lst vs))/\aW K q (S++[.lst ps]) (aS H D (.lst vs)):=by
 intro q;obtain⟨st0,sm0⟩:=s.res (D:=D) (o:=.lst vs) h trivial;have nf0:D∉p.f:=λz=>s.notin h (s.wc D (s.sub D z));refine⟨⟨st0.wc,st0.mu,⟨[D],rfl⟩,st0.mw,st0.mono,λa x n=>?_,st0.nw,st0.nc,st0.keep⟩,?_,by simp[q,s.len],λa x=>?_,sm0.wc,sm0.mu,λk a o e1 e2=>?_⟩
 .rcases dk.mp x with z |z
  .exact absurd z n
  .have:a=D:=by simpa using z
   rw[this];exact h
 .show(p.f++[D]).Nodup
  rw[qs];refine⟨s.nd,by simp,λa ha b hb z=>?_⟩;have:b=D:=by simpa using hb
  exact nf0 (this▸z▸ha)
 .rcases dk.mp x with z |z
  .exact .inl (s.sub a z)
  .exact .inr (by simpa using z)
 .by_cases hk:k<S.length
  .have e1':p.f[k]?=some a:=by
    have e1:(p.f++[D])[k]?=some a:=e1
    rwa[ib (by rw[s.len];exact hk)]at e1
   rw[ib hk]at e2;refine(s.obj k a o e1' e2).mono (λvs e=>by rw[bO (gB e h)];exact e) (λb w f=>⟨⟨.inl w,λm=>?_⟩,λvs e=>by rw[bO (gB e h)];exact e⟩) λ_ _ r=>st0.reps r;rcases dk.mp m with z |z
   .exact f z
   .have:b=D:=by simpa using z
    exact s.notin h (this▸s.wc b w)
  .have hk':k=S.length:=by
    have:=(da.mp e2).1;simp at this;omega
   subst hk';rw[fu (aq _),ji]at e2;have e1:(p.f++[D])[S.length]?=some a:=e1;rw[<-s.len,fu (aq _),ji]at e1;cases e1;cases e2;exact⟨vs,eI,l,st0.reps r⟩
theorem aW.write(s:aW K p S H){D:Addr}{k:Nat}{ps:FS}{vs:List V}(h:p.f[k]?=some D)(hk:k<S.length)(l:vs.length<=sizeLine)(r:aM K p.c H ps vs):
  bF p H p (aS H D (.lst vs))/\aW K p (S.set k (.lst ps)) (aS H D (.lst vs)):=by
 have w:=s.sub D (fy h);have st:bF p H p (aS H D (.lst vs)):=⟨s.wc,s.mu,lp,λ_ h=>h,λ_ h=>h,λ_ h g=>absurd h g,λ_ h g=>absurd h g,λ_ h g=>absurd h g,λa u e nw=>by
  rw[bO (λz=>nw (by rw[z];exact w))];exact e⟩
 refine⟨st,s.nd,by rw[kq];exact s.len,s.sub,s.wc,λa x=>?_,λj a o e1 e2=>?_⟩
 .by_cases z:a=D
  .rw[z,eI]
   exact⟨_,rfl,trivial⟩
  .rw[bO z]
   exact s.mu a x
 .by_cases hj:k=j
  .subst hj
   rw[h]at e1;cases e1;rw[jq hk]at e2;cases e2;exact⟨vs,eI,l,st.reps r⟩
  .rw[jy hj]at e2
   have ne:a≠D:=λq=>hj (nodup_idx s.nd h (q▸e1));exact(s.obj j a o e1 e2).mono (λvs e=>by rw[bO ne];exact e) (λb w f=>⟨⟨w,f⟩,λvs e=>by rw[bO (λz:b=D=>f (z▸fy h))];exact e⟩) λ_ _ r=>st.reps r
noncomputable def lH(xs:FW)(S:aI):bI AV:=match oI xs with
 |some vs=>if vs.length<=16777216 then .ok (.ref S.length) (S++[.lst vs])else .fail
 |none=>.fail
noncomputable def gF(ms:MA):ME:=λρ S=>(ms ρ S).bind lH
theorem V5(h:dS K cl E X es ms):aT K cl E X (.List es pos) (gF ms):=by
 intro hK;subst hK;refine(Zd (h rfl)).imp ?_
 rintro σ H Q ⟨p,S,ρ,s,e,h⟩
 refine bT s e h λq H1 as xs S1 st s1 e1 r1 h1=>?_;unfold lH at h1;split at h1
 .rename_i vs hv
  split at h1
  .rename_i hl
   have r:=La hv r1;rw[r.length]at hl;refine⟨hl,λt ht=>?_⟩;obtain⟨st2,sm2⟩:=s1.push ht hl r;exact h1 _ _ _ st2 sm2 ⟨t,by rw[<-s1.len,fu (aq _),ji];rfl,rfl⟩
  .exact h1.elim
 .exact h1.elim
noncomputable def Rf(xs:FW)(S:aI):bI AV:=match(iE S xs).bind oB with
 |some (.lst vs)=>.ok (.ref S.length) (S++[.lst vs])
 |_=>.fail
noncomputable def yE(ms:MA):ME:=λρ S=>(ms ρ S).bind Rf
theorem Q5{x:Str}{p:ak}(hx:x="list")(hg:Gl X "list")(hm:X.mg "list"=none)(ha:dS K cl E X [e] ms)(he:starEach [e] X.env=[(false,eval e X.env)]:=by rfl):aT K cl E X (.Call (.Name x p) [e] [] pos) (yE ms):=by
 intro hK;subst hK hx;refine PE.imp (Xj Sh hg hm (by decide+kernel) (ha rfl) (by decide) (by decide) he rfl) ?_
 rintro σ H Q ⟨p,S,ρ,s,ev,h⟩
 refine bT s ev h λq H1 as xs S1 st s1 e1 r1 h1=>?_;unfold Rf at h1;cases z:iE S1 as with
 |none=>rw[z]at h1;exact h1.elim
 |some us=>
  rw[z]at h1;have rr:=wC s1 r1 z;have fin:∀(vs:FS)(ws:List V)(a:Addr),aM X.K q.c H1 vs ws->ws.length<=sizeLine->bU X.K cl (bY X.K) q H1 (.ok (.ref S1.length) (S1++[.lst vs])) Q E->∀l,H1 l=none->Q (.ref l) (aS H1 l (.lst ws)):=λvs ws a r hl k t ht=>by
   obtain⟨st2,sm2⟩:=s1.push ht hl r;exact k _ _ (.ref t) st2 sm2 ⟨t,by show(q.f++[t])[S1.length]?=some t;rw[<-s1.len,fu (aq _),ji];rfl,rfl⟩
  cases rr with
  |nil=>exact h1.elim
  |cons h t=>
   rename_i u x ut xt;cases t with
   |cons _ _=>cases u<;>exact h1.elim
   |nil=>
    cases u with
    |lst vs=>
     obtain⟨a,ws,rfl,l,z,r⟩:=h.lst;exact⟨a,ws,rfl,.inl l,fin vs ws a r z h1⟩
    |tup vs=>
     obtain⟨a,ws,rfl,l,z,r⟩:=h.tup;exact⟨a,ws,rfl,.inr l,fin vs ws a r z h1⟩
    |_=>exact h1.elim
noncomputable def lJ(k:Nat)(ys:FW)(S:aI):bI AV:=match ys with
 |[.pv y]=>match S[k]? with
  |some (.lst xs)=>if xs.length<16777216 then .ok (.pv .non) (S.set k (.lst (xs++[y])))else .fail
  |_=>.fail
 |_=>.fail
noncomputable def fH(k:AV)(S:aI)(f:Nat->bI α):bI α:=match k with
 |.ref k=>(match S[k]? with
  |some (.dic _ _)=>.fail
  |some (.dol _ _)=>.fail
  |_=>f k)
 |_=>.fail
theorem wL(k:Nat)(S:aI)(f:Nat->bI α):fH (.ref k) S f=.fail\/(fH (.ref k) S f=f k/\(∀n l,S[k]?≠some (.dic n l))/\∀n l,S[k]?≠some (.dol n l)):=by
 have e:fH (.ref k) S f=match S[k]? with
  |some (.dic _ _)=>.fail
  |some (.dol _ _)=>.fail
  |_=>f k:=rfl
 rw[e];cases S[k]? with
 |none=>exact .inr ⟨rfl,λ_ _ z=>(nomatch z),λ_ _ z=>nomatch z ⟩
 |some o=>
  cases o with
  |dic n l=>exact .inl rfl
  |dol n l=>exact .inl rfl
  |lst xs=>exact .inr ⟨rfl,λ_ _ z=>(nomatch z),λ_ _ z=>nomatch z ⟩
  |lol xs=>exact .inr ⟨rfl,λ_ _ z=>(nomatch z),λ_ _ z=>nomatch z ⟩
noncomputable def gO(m:ME)(ms:MA):ME:=λρ S=>(m ρ S).bind λk S1=>fH k S1 λk=>(ms ρ S1).bind λys S2=>lJ k ys S2
theorem Mc(s:aW K p S H)(r:bY K p H (.ref k) x)(n1:∀n l,S[k]?≠some (.dic n l))(n2:∀n l,S[k]?≠some (.dol n l)):Xf K "list" x H:=by
 obtain⟨a,e,rfl⟩:=r;have hk:k<S.length:=by
  have:=(da.mp e).1;rw[<-s.len];exact this
 have z:=s.obj k a _ e (bf hk);cases y:S[k]with
 |lst xs=>
  rw[y]at z;obtain⟨vs,h,_⟩:=z;exact .inl ⟨rfl,vs,bS.of h⟩
 |lol xss=>
  rw[y]at z;obtain⟨bs,h,_⟩:=z;exact .inl ⟨rfl,_,bS.of h⟩
 |dic n l=>exact absurd (by rw[bf hk,y]) (n1 n l)
 |dol n l=>exact absurd (by rw[bf hk,y]) (n2 n l)
theorem Uz{apos cpos:ak}(ho:aT K cl E X a m)(ha:dS K cl E X [e] ms)(hbase:attributeBase a "append" X.env (eval a X.env)=eval a X.env:=by rfl)
  (hfew:((backTo cpos (starEach [e] X.env)).all (λx=>!x.1)&&(backToKw cpos (keywordEach [] X.env)).all (λx=>x.1.isSome)&&decide (([e]:List ai).length+([]:List jg).length+(if([]:List jg).isEmpty then 0 else 1)<30))=true:=by rfl)
  (hline:(apos.endLine==cpos.line)=true:=by rfl)(hs:starEach [e] X.env=[(false,eval e X.env)]:=by rfl):aT K cl E X (.Call (.Attribute a "append" apos) [e] [] cpos) (gO m ms):=by
 intro hK;subst hK;refine PE.imp (xT xw c8 CP sX (ho rfl) (ha rfl) hbase hfew hline hs rfl) ?_
 rintro σ H Q ⟨p,S,ρ,s,ev,h⟩
 refine bT s ev h λq H1 k x S1 st s1 e1 r1 h1=>?_;cases k with
 |pv v=>exact h1.elim
 |ref k=>
  have h1:=h1;rcases wL k S1 _ with z |⟨z,n1,n2⟩
  .rw[z]at h1
   exact h1.elim
  rw[z]at h1;refine⟨Mc s1 r1 n1 n2,bT s1 e1 h1 λq2 H2 ys xs S2 st2 s2 e2 r2 h2=>?_⟩;obtain⟨a,ea,rfl⟩:=st2.repA r1;unfold lJ at h2;split at h2
  .rename_i y
   cases r2 with
   |cons r3 r4=>
    cases r4;rename_i x;cases z:S2[k]? with
    |none=>rw[z]at h2;exact h2.elim
    |some o=>
     cases o with
     |lol _=>simp only[z]at h2;exact h2.elim
     |dic _ _=>simp only[z]at h2;exact h2.elim
     |dol _ _=>simp only[z]at h2;exact h2.elim
     |lst zs=>
      simp only[z]at h2;obtain⟨vs,h3,l3,r4⟩:=s2.obj k a _ ea z;split at h2
      .rename_i hl
       rw[r4.length]at hl;have hz:=iP;refine⟨a,vs,x,rfl,rfl,h3,by omega,?_⟩;obtain⟨st3,fA⟩:=s2.write ea (da.mp z).1 (ps:=zs++[y]) (vs:=vs++[x]) (by rw[cx,d5];omega) (r4.append (.cons r3 .nil));exact h2 _ _ .non st3 fA (by rfl)
      .exact h2.elim
  .exact h2.elim
noncomputable def pW(k:Nat)(ys:FW)(S:aI):bI AV:=match ys with
 |[.pv (.int i)]=>if-9223372036854775808<=i/\i<9223372036854775808 then(match S[k]? with
  |some (.lst xs)=>match seqIndex? i xs.length with
   |some j=>match xs[j]? with
    |some v=>.ok (.pv v) (S.set k (.lst (xs.eraseIdx j)))
    |none=>.fail
   |none=>.fail
  |_=>.fail)else .fail
 |_=>.fail
noncomputable def pZ(m:ME)(ms:MA):ME:=λρ S=>(m ρ S).bind λk S1=>fH k S1 λk=>(ms ρ S1).bind λys S2=>pW k ys S2
theorem acJ{apos cpos:ak}(ho:aT K cl E X a m)(ha:dS K cl E X [e] ms)(hbase:attributeBase a "pop" X.env (eval a X.env)=eval a X.env:=by rfl)
  (hfew:((backTo cpos (starEach [e] X.env)).all (λx=>!x.1)&&(backToKw cpos (keywordEach [] X.env)).all (λx=>x.1.isSome)&&decide (([e]:List ai).length+([]:List jg).length+(if([]:List jg).isEmpty then 0 else 1)<30))=true:=by rfl)
  (hline:(apos.endLine==cpos.line)=true:=by rfl)(hs:starEach [e] X.env=[(false,eval e X.env)]:=by rfl):aT K cl E X (.Call (.Attribute a "pop" apos) [e] [] cpos) (pZ m ms):=by
 intro hK;subst hK;refine PE.imp (xT xw PySem.F.slot_list_pop PySem.F.type_list_pop D9 (ho rfl) (ha rfl) hbase hfew hline hs rfl) ?_
 rintro σ H Q ⟨p,S,ρ,s,ev,h⟩
 refine bT s ev h λq H1 k x S1 st s1 e1 r1 h1=>?_;cases k with
 |pv v=>exact h1.elim
 |ref k=>
  have h1:=h1;rcases wL k S1 (λk=>(ms ρ S1).bind λys S2=>pW k ys S2)with z |⟨z,n1,n2⟩
  .rw[z]at h1
   exact h1.elim
  rw[z]at h1;refine⟨Mc s1 r1 n1 n2,bT s1 e1 h1 λq2 H2 ys xs S2 st2 s2 e2 r2 h2=>?_⟩;obtain⟨a,ea,rfl⟩:=st2.repA r1;unfold pW at h2;split at h2
  .rename_i i
   cases r2 with
   |cons r3 r4=>
    cases r4;rename_i x;have ex:x=.int i:=(show dQ X.K q2 H2 (.int i) x from .inl r3).int;subst ex;split at h2
    .rename_i hi
     cases z:S2[k]? with
     |none=>rw[z]at h2;exact h2.elim
     |some o=>
      cases o with
      |lol _=>simp only[z]at h2;exact h2.elim
      |dic _ _=>simp only[z]at h2;exact h2.elim
      |dol _ _=>simp only[z]at h2;exact h2.elim
      |lst zs=>
       simp only[z]at h2;obtain⟨vs,h3,l3,r4⟩:=s2.obj k a _ ea z;cases y:seqIndex? i zs.length with
       |none=>simp only[y]at h2;exact h2.elim
       |some j=>
        simp only[y]at h2;cases yv:zs[j]? with
        |none=>simp only[yv]at h2;exact h2.elim
        |some v=>
         simp only[yv]at h2;obtain⟨u,eu,ru⟩:=r4.get yv;refine⟨a,vs,i,j,u,rfl,rfl,h3,hi.1,hi.2,by rw[<-r4.length];exact y,eu,?_⟩;obtain⟨st3,fA⟩:=s2.write ea (da.mp z).1 (ps:=zs.eraseIdx j) (vs:=vs.eraseIdx j) (gm (Xa vs j) l3) (r4.eraseIdx j);exact h2 _ _ u st3 fA (st3.rep ru)
    .exact h2.elim
  .exact h2.elim
noncomputable def pT(k:Nat)(i:AV)(v:AV)(S:aI):bI Unit:=match i,v with
 |.pv (.int i),.pv v=>match S[k]? with
  |some (.lst xs)=>match aY xs.length i with
   |some j=>.ok () (S.set k (.lst (xs.set j v)))
   |none=>.fail
  |_=>.fail
 |_,_=>.fail
noncomputable def nY(mo mi mv:ME):MS:=λρ S=>cA.of (mv ρ S) λv S1=>cA.of (mo ρ S1) λk S2=>cA.of (mi ρ S2) λi S3=>cA.of (fH k S3 λk=>pT k i v S3) λ_ S4=>.nx ρ S4
theorem A8{o i v:ai}{mo mi mv:ME}{tpos:ak}(hv:aT K cl E X v mv)(ho:aT K cl E X o mo)(hi:aT K cl E X i mi)
  (ha:∀v,assign (.Subscript o i tpos) X.env v=(do
   let ov <-holding [v] (eval o X.env)
   let iv <-holding [v,ov] (eval i X.env)
   standAt tpos
   holding [v,ov,iv] (setItem ov iv v)
   release [v,ov,iv] []):=by intro _;rfl)
  (hs:swapsWithSole [.Subscript o i tpos] v pos.line X.env=pure false:=by rfl)(hw:swappedStores [.Subscript o i tpos] v X.env=pure none:=by rfl)
  (h1:(assignEach [.Subscript o i tpos] X.env).map (·.2)=[assign (.Subscript o i tpos) X.env]:=by rfl):dY K cl E X (.Assign [.Subscript o i tpos] v pos) (nY mo mi mv):=by
 intro hK;subst hK;refine PS.imp (aca (hv rfl) (aci (ho rfl) (hi rfl) O3 ha) hs hw h1) ?_
 rintro D σ H ⟨p,S,ρ,s,ev,h⟩
 refine kL s ev h λq H1 v x S1 st s1 e1 r1 h1=>?_;refine kL s1 e1 h1 λq2 H2 k y S2 st2 s2 e2 r2 h2=>?_;refine kL s2 e2 h2 λq3 H3 i z S3 st3 s3 e3 r3 h3=>?_;cases k with
 |pv _=>exact h3.elim
 |ref k=>
  obtain⟨a,ea,rfl⟩:=st3.repA r2;have rv:=st3.repA (st2.repA r1);have h3:=h3;rcases wL k S3 (λk=>pT k i v S3)with z0 |⟨z0,_,_⟩
  .rw[z0]at h3
   exact h3.elim
  rw[z0]at h3;unfold pT at h3;split at h3
  .rename_i ii vv _
   have ez:z=.int ii:=(show dQ X.K q3 H3 (.int ii) z from .inl r3).int;subst ez;cases w:S3[k]? with
   |none=>rw[w]at h3;exact h3.elim
   |some o=>
    cases o with
    |lol _=>simp only[w]at h3;exact h3.elim
    |dic _ _=>simp only[w]at h3;exact h3.elim
    |dol _ _=>simp only[w]at h3;exact h3.elim
    |lst zs=>
     simp only[w]at h3;obtain⟨vs,hh,ll,rr⟩:=s3.obj k a _ ea w;cases y:aY zs.length ii with
     |none=>simp only[y]at h3;exact h3.elim
     |some j=>
      simp only[y]at h3;refine⟨a,vs,ii,j,rfl,rfl,hh,by rw[<-rr.length];exact y,?_⟩;obtain⟨st4,sm4⟩:=s3.write ea (da.mp w).1   (by rw[kq];exact ll) (aM.set rv j rr);exact h3 _ _ _ st4 sm4 (st4.repE e3)
  .exact h3.elim
noncomputable def eX:FS->FS->FS
 |x::xs,y::ys=>.tup [x,y]::eX xs ys
 |_,_=>[]
theorem Nb:∀(xs ys:FS),(eX xs ys).length=min xs.length ys.length
 |[],ys=>rfl
 |x::xs,[]=>rfl
 |x::xs,y::ys=>by
  unfold eX;rw[bo,Nb _ _,bo,bo];omega
theorem Tl:∀{xs ys:FS}{i:Nat}{v:PV},(eX xs ys)[i]?=some v->∃x y,xs[i]?=some x/\ys[i]?=some y/\v=.tup [x,y]
 |[],ys,i,v,e=>by cases ys<;>simp[eX]at e
 |x::xs,[],i,v,e=>by simp[eX]at e
 |x::xs,y::ys,0,v,e=>by
  unfold eX at e;simp at e;exact⟨x,y,rfl,rfl,e.symm⟩
 |x::xs,y::ys,i+1,v,e=>by
  unfold eX at e;obtain⟨a,b,h1,h2,h3⟩:=Tl     (by simpa using e);exact⟨a,b,by simpa using h1,by simpa using h2,h3⟩
noncomputable def mU:FW->aI->bI (FS×Gd)
 |[a,b],S=>match cH a S with
  |.ok xs _=>match cH b S with
   |.ok ys _=>.ok (eX xs.1 ys.1,xs.2++ys.2) S
   |_=>.fail
  |_=>.fail
 |_,_=>.fail
noncomputable def iV(ms:MA):MI:=λρ S=>(ms ρ S).bind mU
theorem Nl{a:AV}{x:V}{xs:FS×Gd}{S':aI}(s:aW K p S H)(r:bY K p H a x)(e:cH a S=.ok xs S'):∃f ad vs,x=.ref ad/\jU f K H ad vs/\xs.1.length<=sizeLine/\∀q H1 S1,bF p H q H1->aW K q S1 H1->iO xs.2 S1->∃vs,jU f K H1 ad vs/\aM K q.c H1 xs.1 vs:=by
 cases a with
 |ref j=>
  obtain⟨a,e1,rfl⟩:=r;unfold cH at e;dsimp only at e;cases z:S[j]? with
  |none=>rw[z]at e;cases e
  |some o=>
   cases o with
   |lol _=>rw[z]at e;cases e
   |dic _ _=>rw[z]at e;cases e
   |dol _ _=>rw[z]at e;cases e
   |lst ys=>
    rw[z]at e;cases e;obtain⟨vs,h1,l1,r1⟩:=s.obj j a _ e1 z;refine⟨false,a,vs,rfl,bS.of h1,by rw[r1.length];exact l1,λq H1 S1 st sm g=>?_⟩;obtain⟨ws,h2,l2,r2⟩:=sm.obj j a _ (st.at_ e1) (g (j,ys) ce);exact⟨ws,bS.of h2,r2⟩
 |pv v=>
  cases v with
  |lst ys=>
   cases e;have r:=r;obtain⟨a,vs,rfl,l,z,r⟩:=r;exact⟨false,a,vs,rfl,l.sq,by rw[r.length];exact z,λq H1 S1 st sm g=>⟨vs,(st.lat l).sq,st.reps r⟩⟩
  |tup ys=>
   cases e;have r:=r;obtain⟨a,vs,rfl,l,z,r⟩:=r;exact⟨true,a,vs,rfl,l,by rw[r.length];exact z,λq H1 S1 st sm g=>⟨vs,st.tup l,st.reps r⟩⟩
  |_=>cases e
theorem Y4{elts:List ai}{x1:Nat}{tp p:ak}(hg:Gl X "zip")(hm:X.mg "zip"=none)(hl:dS K cl E X [a,b] ms)(hs:starEach [a,b] X.env=[(false,eval a X.env),(false,eval b X.env)]:=by rfl)(hs2:starEach [b] X.env=[(false,eval b X.env)]:=by rfl):
  PIp K cl E X (.Tuple elts x1 tp) (.Call (.Name "zip" p) [a,b] [] pos) (iV ms):=by
 intro hK;subst hK;refine PI.imp (acu hg hm (hl rfl) hs hs2) ?_
 rintro σ H R ⟨p,S,ρ,s,ev,h⟩
 refine bT s ev h λq H' as xs S' bR sm ev r k=>?_;unfold mU at k;split at k
 .rename_i u v
  cases r with
  |cons r1 r2=>
   cases r2 with
   |cons r2 r3=>
    cases r3;split at k
    .rename_i xs1 S1 hx
     split at k
     .rename_i ys1 S2 hy
      obtain⟨f1,a1,vs1,rfl,q1,z1,st1⟩:=Nl sm r1 hx;obtain⟨f2,a2,vs2,rfl,q2,z2,st2⟩:=Nl sm r2 hy;refine⟨f1,a1,f2,a2,vs1,vs2,rfl,q1,q2,bU.ret (R:=eQ X.K) k sm ?_⟩;refine⟨by rw[Nb];omega,λq3 H3 S3 st3 fA g3=>?_⟩;obtain⟨ws1,w1,rr1⟩:=st1 q3 H3 S3 st3 fA λg hg=>g3 g (ng _ hg);obtain⟨ws2,w2,rr2⟩:=st2 q3 H3 S3 st3 fA λg hg=>g3 g (dz _ hg);refine⟨λi v e=>?_,?_⟩
      .obtain⟨x,y,ex,ey,rfl⟩:=Tl e
       obtain⟨x',ex',rx⟩:=rr1.get ex;obtain⟨y',ey',ry⟩:=rr2.get ey;refine⟨⟨ws1,ws2,x',y',w1,w2,ex',ey'⟩,λz H4 hz=>?_⟩;obtain⟨t,x2,y2,ht,rfl,rfl,g1,g2⟩:=hz;have e1:=(g1 ws1 w1).symm.trans ex';have e2:=(g2 ws2 w2).symm.trans ey';cases e1;cases e2;refine⟨fS ht,rF fA (.cons rx (.cons ry .nil)) (by show 2<=sizeLine;decide) ht⟩
      .refine⟨ws1,ws2,w1,w2,?_⟩
       show(eX xs1.1 ys1.1).length=_\/_;rw[Nb,rr1.length,rr2.length];omega
     .exact k.elim
    .exact k.elim
 .exact k.elim
noncomputable def jO:Nat->FS->FS
 |_,[]=>[]
 |n,x::xs=>.tup [.int n,x]::jO (n+1) xs
theorem Ra:∀(n:Nat)(xs:FS),(jO n xs).length=xs.length
 |_,[]=>rfl
 |n,x::xs=>by
  unfold jO;rw[bo,Ra _ _,bo]
theorem Vk:∀{n:Nat}{xs:FS}{i:Nat}{v:PV},(jO n xs)[i]?=some v->∃x,xs[i]?=some x/\v=.tup [.int ((n+i:Nat):Int),x]
 |n,[],i,v,e=>by simp[jO]at e
 |n,x::xs,0,v,e=>by
  unfold jO at e;simp at e;exact⟨x,rfl,e.symm⟩
 |n,x::xs,i+1,v,e=>by
  unfold jO at e;obtain⟨y,h1,h2⟩:=Vk (n:=n+1)    (by simpa using e);refine⟨y,by simpa using h1,?_⟩;grind
noncomputable def Fd:FW->aI->bI (FS×Gd)
 |[.pv (.lst xs)],S=>.ok (jO 0 xs,[]) S
 |[.ref k],S=>match cH (.ref k) S with
  |.ok xs _=>.ok (jO 0 xs.1,xs.2) S
  |_=>.fail
 |_,_=>.fail
noncomputable def yB(ms:MA):MI:=λρ S=>(ms ρ S).bind Fd
theorem Dr{G:Gd}{a:Addr}(z:xs.length<=sizeLine)(st1:∀q H1 S1,bF p H q H1->aW K q S1 H1->iO G S1->∃vs,bS K H1 a vs/\aM K q.c H1 xs vs):eQ K p H (jO 0 xs,G) (Hg K a):=by
 refine⟨by rw[Ra];exact z,λq3 H3 S3 st3 fA g3=>?_⟩;obtain⟨ws1,w1,rr1⟩:=st1 _ _ _ st3 fA g3;refine⟨λi v e=>?_,?_⟩
 .obtain⟨x,ex,rfl⟩:=Vk e
  obtain⟨x',ex',rx⟩:=rr1.get ex;refine⟨⟨ws1,x',w1,ex'⟩,λz H4 hz=>?_⟩;obtain⟨t,y2,ht,rfl,rfl,g1⟩:=hz;have e1:=(g1 _ w1).symm.trans ex';cases e1;refine⟨fS ht,rF fA (.cons ?_ (.cons rx .nil)) (by show 2<=sizeLine;decide) ht⟩;rw[l6];exact lA  rfl
 .refine⟨ws1,w1,?_⟩
  rw[Ra,rr1.length];exact aq _
theorem K5{x1:Nat}{tp p:ak}(hg:Gl X "enumerate")(hm:X.mg "enumerate"=none)(hl:dS K cl E X [l] ms)(hs:starEach [l] X.env=[(false,eval l X.env)]:=by rfl):
  PIp K cl E X (.Tuple elts x1 tp) (.Call (.Name "enumerate" p) [l] [] pos) (yB ms):=by
 intro hK;subst hK;refine PI.imp (aaB hg hm (hl rfl) hs) ?_
 rintro σ H R ⟨p,S,ρ,s,ev,h⟩
 refine bT s ev h λq H' as xs S' bR sm ev r k=>?_;unfold Fd at k;split at k
 .rename_i ys
  cases r with
  |cons r1 r2=>
   cases r2;rename_i x;have r1:=r1;unfold aL at r1;obtain⟨a,vs,rfl,l,z,r⟩:=r1;exact⟨a,rfl,⟨vs,l.sq⟩,bU.ret (R:=eQ X.K) k sm (Dr (by rw[r.length];exact z) λq H1 S1 st sm g=>⟨vs,(st.lat l).sq,st.reps r⟩)⟩
 .rename_i j
  cases r with
  |cons r1 r2=>
   cases r2;split at k
   .rename_i xs1 S1 hx
    obtain⟨a,e1,rfl⟩:=r1;cases z:S'[j]? with
    |none=>unfold cH at hx;simp only[z]at hx;cases hx
    |some o=>
     cases o with
     |lol _=>unfold cH at hx;simp only[z]at hx;cases hx
     |dic _ _=>unfold cH at hx;simp only[z]at hx;cases hx
     |dol _ _=>unfold cH at hx;simp only[z]at hx;cases hx
     |lst ys=>
      unfold cH at hx;simp only[z]at hx;cases hx;obtain⟨vs,h1,l1,r1⟩:=sm.obj j a _ e1 z;refine⟨a,rfl,⟨vs,bS.of h1⟩,bU.ret (R:=eQ X.K) k sm (Dr (by rw[r1.length];exact l1) λq H1 S1 st sm g=>?_)⟩;obtain⟨ws,h2,l2,r2⟩:=sm.obj j a _ (st.at_ e1) (g (j,ys) ce);exact⟨ws,bS.of h2,r2⟩
   .exact k.elim
 .exact k.elim
end
theorem qL{k:Nat}(hr:cP k A):A.units+8<cLine:=by
 have:=hr.units;omega
section
variable{K:ah}{cl:Str->Addr}{E:XK}{X:Cx}{a b c e:ai}{m:ME}{pos:ak}{p q:Ph}{H H':Hp}{S:aI}
noncomputable def kS(n:String):PV->FT
 |.int _=>if n="int" then some (.bl true)else if n="bool" then some (.bl false)else none
 |.tup _=>if n="tuple" then some (.bl true)else none
 |.lst _=>if n="list" then some (.bl true)else none
 |.str _=>if n="str" then some (.bl true)else none
 |.bl _=>if n="bool" then some (.bl true)else none
 |_=>none
theorem tE(K:ah)(n:String):nr K (.type n) (.type n)=some true:=by
 unfold nr;rw[if_pos (beq_self_eq_true _)]
noncomputable def Cf(K:ah)(n:String):V->Hp->VK->Prop:=λx H Q=>(∃t b,kA K H x t/\nr K t (.type n)=some b/\Q (.bl b) H)\/(n="tuple"/\∃a xs,x=.ref a/\cO K H a xs/\Q (.bl true) H)\/(n="list"/\∃a xs,x=.ref a/\bS K H a xs/\Q (.bl true) H)
theorem Tj(n:String):jC X (.builtin "isinstance") (λxs H Q=>∃x,xs=[x,.ty n]/\Cf X.K n x H Q):=by
 intro FX s σ H xs us Q I r h;obtain⟨x,rfl,h⟩:=h;obtain⟨u,c,rfl,rx,rc⟩:=Qs r;cases show c=Value.type n from rc;rcases h with⟨t,b,ty,e,q⟩|⟨rfl,a,xs,rfl,t,q⟩|⟨rfl,a,xs,rfl,t,q⟩
 .exact B7 I rx ty e λtk=>⟨.bl b,H,I.tok _,rfl,q⟩
 .cases rx
  obtain⟨its,_,⟨o,h1,h2,_⟩,_⟩:=I.tuple t;exact ju AK I.kIn ⟨o,h1,h2⟩ (tE _ _) (λz=>nomatch z) λtk=>⟨.bl _,H,I.tok _,rfl,q⟩
 .cases rx
  obtain⟨its,_,pl,_⟩:=I.list t;obtain⟨o,h1,h2,_⟩:=pl.isList;exact ju zg I.kIn ⟨o,h1,h2⟩ (tE _ _) (λz=>nomatch z) λtk=>⟨.bl _,H,I.tok _,rfl,q⟩
theorem ac3(n:String):vJ K (Cf K n) (kS n):=λ{p S H a c x Q} s ra e k=>by
 have fin:∀b,c=.bl b->Q (.bl b) H:=λb h=>by
  subst h;exact k H _ (cN.refl H) (by unfold aL;rfl)
 cases a with
 |int i=>
  cases ra.int;unfold kS at e;dsimp only at e;split at e
  .rename_i hn
   cases e;subst hn;exact .inl ⟨_,true,.int i,tE K _,fin _ rfl⟩
  .split at e
   .rename_i hn
    cases e;subst hn;exact .inl ⟨_,false,.int i,acy K,fin _ rfl⟩
   .cases e
 |bl i=>
  cases ra.bl;unfold kS at e;dsimp only at e;split at e
  .rename_i hn
   cases e;subst hn;exact .inl ⟨_,true,.bl i,tE K _,fin _ rfl⟩
  .cases e
 |str i=>
  cases ra.str;unfold kS at e;dsimp only at e;split at e
  .rename_i hn
   cases e;subst hn;exact .inl ⟨_,true,.str i,tE K _,fin _ rfl⟩
  .cases e
 |tup xs=>
  obtain⟨a,vs,rfl,t,_,_⟩:=ra.tup;unfold kS at e;dsimp only at e;split at e
  .rename_i hn
   cases e;exact .inr (.inl ⟨hn,a,vs,rfl,t,fin _ rfl⟩)
  .cases e
 |lst xs=>
  obtain⟨a,vs,rfl,t,_,_⟩:=ra.lst;unfold kS at e;dsimp only at e;split at e
  .rename_i hn
   cases e;exact .inr (.inr ⟨hn,a,vs,rfl,t,fin _ rfl⟩)
  .cases e
 |non=>cases e
 |obj C ns fs=>cases e
theorem Bs{t:Str}{p p2:ak}(hg:Gl X "isinstance")(hm:X.mg "isinstance"=none)(hgt:Gl X t)(hmt:X.mg t=none)(hv:bootBuiltins t=some (.type n))(ha:aT K cl E X a m)
  (htn:t≠"__name__":=by decide)(htd:(t==("__debug__":Str))=false:=by decide)
  (he:starEach [a,.Name t p2] X.env=(false,eval a X.env)::starEach [.Name t p2] X.env:=by rfl)(he2:starEach [.Name t p2] X.env=[(false,eval (.Name t p2) X.env)]:=by rfl)(hpl:(backTo pos (starEach [.Name t p2] X.env)).any (·.1)=false:=by rfl):
  aT K cl E X (.Call (.Name "isinstance" p) [a,.Name t p2] [] pos) (bV (kS n) m):=by
 intro hK;subst hK;refine PE.imp (wF (Tj n) hg hm CQ (mE (ha rfl) (mE (So hgt hmt hv (v:=.ty n) rfl htn htd) nX he2) he) (by decide) (rfl) he hpl) ?_
 rintro σ H Q ⟨p,S,ρ,s,ev,h⟩
 exact bT s ev h λq H' as x S' bR sm ev r k=>⟨x,rfl,sZ (ac3 n) sm r k⟩
noncomputable def yM(f:Int->Int->Int)(i:Nat)(ρ:bM)(v:AV)(S:aI):cA:=match ρ[i]? with
 |some (some (.pv (.int x)))=>match v with
  |.pv (.int y)=>.nx (ρ.set i (some (.pv (.int (f x y))))) S
  |_=>.fail
 |_=>.fail
noncomputable def oH(f:Int->Int->Int)(i:Nat)(m:ME):MS:=λρ S=>match ρ[i]? with
 |some (some (.pv (.int _)))=>cA.of (m ρ S) (yM f i ρ)
 |_=>.fail
theorem An{op:tz}{f:Int->Int->Int}{pos':ak}(hN:X.N.Nodup)(hi:X.N[i]?=some x)(hx:kX X.env.scope x)(he:aT K cl E X e m)(ho:L2.PIp X op (Ag f))
  (hf:X.fn x=true\/X.env.scope.names.lookup x=some .local:=by first |exact .inl rfl |exact .inr rfl |assumption):dY K cl E X (.AugAssign (.Name x pos') op e pos) (oH f i m):=by
 intro hK;subst hK;refine PS.imp (Ir hN hi hx (he rfl) ho hf) ?_
 rintro D σ H ⟨p,S,ρ,s,ev,h⟩
 unfold oH at h;split at h
 .rename_i x0 hx0
  obtain⟨v,e1,r1⟩:=ev.at_ i _ hx0;refine⟨v,e1,kL s ev h λq H' a b S' bR sm ev' r k=>?_⟩;have ev2:=(show dQ _ p H _ v from .inl r1).int;unfold yM at k;rw[hx0]at k;dsimp only at k;split at k
  .rename_i y0
   have eb:=(show dQ _ q H' _ b from .inl r).int;exact⟨x0,y0,ev2,eb,dD.nxD k sm (ev'.set   (by rfl) i)⟩
  .exact k.elim
 .exact h.elim
noncomputable def xX(K:ah):Sp:=λvs H Q _=>∃(a:Addr)(ns:FI),vs=[.ref a]/\bS K H a (ns.map V.int)/\ns.length<=63/\∀H',Q (.bl true) H'
theorem Y9(ht:∀ns:FI,ns.length<=63->∃S,f [.pv (.lst (ns.map .int))] []=.ok (.pv (.bl true)) S){vs:List V}{H:Hp}{Q:VK}{E:XK}(h:xX K vs H Q E):jP K cl f vs H Q E:=by
 obtain⟨a,ns,rfl,hS,hl,hQ⟩:=h;obtain⟨S,e⟩:=ht _ hl;have rs:∀(ns:FI),aM K (λ_=>False) H (ns.map .int) (ns.map _):=λns=>by
  induction ns with
  |nil=>rfl
  |cons n ns ih=>exact .cons (by rfl) ih
 refine⟨⟨[],λ_=>False,λ_=>False⟩,[],[.pv (.lst (ns.map .int))],⟨sv,rfl,(λ_ h=>absurd h iu),λ_ h=>h,λ_ h=>h.elim,λk a o e=>by simp at e ⟩,.cons ?_ .nil,?_⟩
 .refine⟨a,_,rfl,?_,?_,rs _ ⟩
  .rcases hS with(h |h) |h
   .exact .inl ⟨h,λz=>z⟩
   .exact .inr (.inl h)
   .exact .inr (.inr h)
  .rw[aw,iP]<;>grind
 .rw[e]
  intro q H' x st sm r;have r:=r;rw[r];exact hQ _
end
end L2.Pp
namespace L2
open PySem PySem.Spec PyProof.Rows Bn
section
variable{X:Cx}
theorem Uh(is:FI):∀j,j<=is.length->preSum (λi=>is.getD i 0) j=(is.take j).sum
 |0,_=>by simp[preSum]
 |j+1,h=>by
  have hj:j<is.length:=h;rw[preSum,Uh _ j (by omega),List.take_add_one,bf hj,Option.toList_some,ur,List.sum_singleton];simp only[cg,bf hj,xx]
theorem Sy(hc:X.calm=true):jC X (.builtin "sum") (λxs H Q=>∃(a:Addr)(is:FI),xs=[.ref a]/\bS X.K H a (is.map V.int)/\Q (.int is.sum) H):=by
 intro FX s σ H xs us Q I r h;obtain⟨a,is,rfl,hq,q⟩:=h;obtain⟨u,rfl,ru⟩:=jY r;cases ru;obtain⟨its,rv,pl,hz⟩:=I.list hq;have hl:=by
  have:=rv.length
  rwa[aw]at this
 refine call_sum_walkG (uk pl.isList ?_);have ha:a<s.heap.objs.size:=by
  obtain⟨o,ho,_⟩:=pl.isList;exact bh ho
 refine⟨_,_,_,_,_,_,λi=>is.getD i 0,rfl,xj    (show X.A.in1.handled=none from I.ok.hd hc) _ a (df ha) _,⟨⟨_,cy _ rfl,rfl,rfl⟩,Heap.IsList.at pl.isList λo e=>av _ e⟩,λb hb=>?_,λi v hv=>?_,λh' tk t' kp=>?_⟩
 .have hb':=by simpa using hb
  rw[iz];rcases hb' with e |e<;>rw[e]
  .exact qh _
  .exact uu ha
 .have hv':=by simpa using hv
  have hi:i<is.length:=by
   grind
  obtain⟨u,hu,ru⟩:=rv.get   (by rw[cq,bf hi];rfl);rw[hv']at hu;cases hu;obtain⟨t,ht⟩:=(show ∃t,v=kx is[i] t from ru);exact⟨t,by rw[ht];simp[cg,hi]⟩
 .have e:preSum (λi=>is.getD i 0) its.toArray.size=is.sum:=by
   rw[ay,<-hl,Uh is _ (aq _),l7]
  rw[e];have I1:aG X FX σ H {s with heap:=s.heap.push {cls:=.type "list_iterator",data:=.fields #[.ref a,.int 0 0]},toks:=s.toks}:=I.kept λb o z=>av _ z;have fp:=I.fpOk (aq _) (I.hok.fresh (aq _));obtain⟨f0,f1,f2,f3,f4,f5⟩:=fp;exact⟨.int is.sum,H,I1.turned (λb o hb z=>kp b o (by simpa using hb) z) f0 f1 f3 f4 f5,⟨t',rfl⟩,q⟩
end
end L2
namespace L2.Pp
open PySem PySem.Spec PyProof.Rows Bn
section
variable{K:ah}
noncomputable def fV:FS->Option FI
 |[]=>some []
 |.int b::r=>match fV r with
  |some bs=>some (b::bs)
  |none=>none
 |_::_=>none
theorem pD:∀{xs:FS}{bs:FI}{vs:List V},fV xs=some bs->aM K c H xs vs->vs=bs.map V.int
 |[],bs,vs,e,r=>by
  cases e;exact r
 |.int b::xs,bs,vs,e,r=>by
  unfold fV at e;split at e
  .rename_i cs h
   cases e;obtain⟨v,w,rfl,r1,r2⟩:=r;rw[r1,pD h r2];rfl
  .cases e
 |.non::_,_,_,e,_=>by cases e
 |.bl _::_,_,_,e,_=>by cases e
 |.str _::_,_,_,e,_=>by cases e
 |.tup _::_,_,_,e,_=>by cases e
 |.lst _::_,_,_,e,_=>by cases e
noncomputable def lL:FS->FT
 |[.lst xs]=>(fV xs).map λbs=>.int bs.sum
 |_=>none
theorem ac2:jV K (λxs H Q=>∃(a:Addr)(is:FI),xs=[.ref a]/\bS K H a (is.map V.int)/\Q (.int is.sum) H) lL:=λ{p S H as c xs Q} s ra e k=>by
 unfold lL at e;split at e
 .rename_i zs
  cases y:fV zs with
  |none=>simp_all
  |some bs=>
   rw[y]at e;cases e;cases ra with
   |cons h t=>
    cases t;obtain⟨a,vs,rfl,l,z,r⟩:=h.lst;rw[pD y r]at l;exact⟨a,bs,rfl,l,k H _ (cN.refl H) (lA  rfl)⟩
 .cases e
end
section
variable{K:ah}{cl:Str->Addr}{E:XK}{X:Cx}{p q:Ph}{H H':Hp}{S:aI}
variable{sc:Scope}{own:List Str}{cap:List (Nat×Str)}{elt target iter:ai}{pos:ak}{mi:MI}{g:GM}{me:ME}
noncomputable def pV(own:List Str)(cap:List (Nat×Str))(mi:MI)(g:GM)(me:ME):ME:=λρ S=>(mi ρ S).bind λxs S1=>(bX xs.2 g me xs.1 (cD own cap ρ) S1).bind λys S2=>.ok (.ref S2.length) (S2++[.lst ys])
theorem aW.adopt{zs:FS}{vs:List V}{D:Addr}(s:aW K q S H)(sh:aW K (q.hold D) S H)(w:q.w D)(n:D∉q.f)(h:H D=some (.lst vs))(l:vs.length<=sizeLine)(r:aM K q.c H zs vs):aW K ⟨q.f++[D],q.w,q.c⟩ (S++[.lst zs]) H:=by
 refine⟨qs.mpr ⟨s.nd,by simp,λa ha b hb=>?_⟩,by rw[cx,cx,s.len];rfl,λa ha=>?_,s.wc,s.mu,λk a o e1 e2=>?_⟩
 .have:b=D:=by simpa using hb
  intro z;exact n (by rw[<-this,<-z];exact ha)
 .rcases dk.mp ha with z |z
  .exact s.sub a z
  .have:a=D:=by simpa using z
   rw[this];exact w
 .have e1:(q.f++[D])[k]?=some a:=e1
  by_cases hk:k<q.f.length
  .rw[ib hk]at e1
   rw[ib (by rw[<-s.len];exact hk)]at e2;refine(sh.obj k a o e1 e2).mono (λ_ e=>e) (λb w f=>⟨⟨w.1,λm=>?_⟩,λ_ e=>e⟩) λ_ _ r=>r;rcases dk.mp m with z |z
   .exact f z
   .exact w.2 (by simpa using z)
  .have hk2:k=q.f.length:=by
    have:=(da.mp e1).1;rw[cx]at this;have:k<q.f.length+1:=this;omega
   subst hk2;rw[fu (aq _),ji]at e1;rw[s.len,fu (aq _),ji]at e2;cases e1;cases e2;exact⟨vs,h,l,r⟩
theorem Iy{ρ:bM}{xs:FS×Gd}{J:It}{Q:VK}{D:Addr}(sm:aW K p S H)(ev:cU K p H ρ σ)(it:eQ K p H xs J)(k:bU K cl (bY K) p H ((bX xs.2 g me xs.1 (cD own cap ρ) S).bind λys S2=>.ok (.ref S2.length) (S2++[.lst ys])) Q E)(hD:H D=none):
  uS J (gP K g) (tP K cl E0 (bY K) me) (iS own cap σ) H D Q:=by
 cases z:bX xs.2 g me xs.1 _ S with
 |fail=>rw[z]at k;exact k.elim
 |exc n S'=>exact absurd z (Xh _ _ _ _ _)
 |ok zs S2=>
  rw[z]at k;have k:=k;refine Mj sm ev it z hD λq H' vs st1 sm1 sh1 w1 f1 hH l1 r1=>?_;have sm2:=sm1.adopt sh1 w1 f1 hH l1 r1;refine k ⟨q.f++[D],q.w,q.c⟩ H' (.ref D) ⟨st1.wc,st1.mu,st1.pre.trans (List.prefix_append _ _),st1.mw,st1.mono,λa ha n=>?_,st1.nw,st1.nc,st1.keep⟩ sm2 ⟨D,?_,rfl⟩
  .rcases dk.mp ha with y |y
   .exact st1.nf a y n
   .have:a=D:=by simpa using y
    rw[this];exact hD
  .rw[<-sm1.len,fu (aq _),ji];rfl
theorem A1{py spos:ak}(hN:X.N.Nodup)(hx:X.N[i]?=some x)(hl:kX X.env.scope x)(k:gY X sc own cap)(hi:PIp K cl E X target iter mi)(hc:X.calm=true)(hg:∀C FY FZ ex,lQ K (dH X sc (bW own cap) C FY FZ ex) target g)(he:∀C FY FZ ex,aT K cl E0 (dH X sc (bW own cap) C FY FZ ex) elt me)
  (hs:∀x,foldedSetIterable iter X.env x=pure x:=by intro _;rfl)(hsw:swapsWith (.ListComp elt [⟨target,iter,[],0⟩] sc pos) (some (.Name x py)) spos.line X.env=pure true:=by rfl)
  (hf:X.fn x=true\/X.env.scope.names.lookup x=some .local:=by first |exact .inl rfl |exact .inr rfl |assumption):
  dY K cl E X (.Assign [.Name x py] (.ListComp elt [⟨target,iter,[],0⟩] sc pos) spos) (aU i (pV own cap mi g me)):=by
 intro hK;refine PS.imp (Fo hN hx hl k (hi hK) hc (λC FY FZ ex=>hg C FY FZ ex hK) (λC FY FZ ex=>he C FY FZ ex hK) hs hsw hf) ?_
 rintro D σ H ⟨p,S,ρ,s,ev,h⟩
 have h2:tP K cl E (bY K) (pV own cap mi g me) σ H λy H1=>D.nx (σ.set i (some y)) H1:=by
  refine⟨p,S,ρ,s,ev,?_⟩;unfold aU at h;cases z:pV _ _ mi g me ρ S with
  |ok v S1=>
   rw[z]at h;exact λq H' y st sm r=>h q H' _ st sm ((st.repE ev).set r i)
  |exc n S1=>rw[z]at h;exact h
  |fail=>rw[z]at h;exact h
 obtain⟨p,S,ρ,s,ev,h⟩:=h2;exact bT s ev h λq H' xs J S' bR sm ev it kk B hB=>Iy sm ev it kk hB
end
noncomputable def jD{α:Type}(xs:List α)(lo hi:FR)(st:Int):List α:=
 (sliceRange (sliceBounds lo hi (some st) xs.length).1 (sliceBounds lo hi (some st) xs.length).2.1 (sliceBounds lo hi (some st) xs.length).2.2).filterMap (xs[·]?)
theorem Ei(its:FN)(lo hi:FR)(st:Int):slicePick its.toArray lo hi (some st)=(jD its lo hi st).toArray:=by
 unfold slicePick jD;simp_all
theorem Oj{α β:Type}{R:α->β->Prop}:∀{xs:List α}{ys:List β}(ks:List Nat),xs.length=ys.length->(ks.filterMap (xs[·]?)).length=(ks.filterMap (ys[·]?)).length
 |xs,ys,[],_=>rfl
 |xs,ys,k::ks,h=>by
  have ih:=Oj (R:=R)   ks h
  by_cases hk:k<xs.length
  .simp_all
  .grind
theorem Ml(xs:List α)(lo hi:FR)(st:Int):(jD xs lo hi st).length<=xs.length:=by
 have e:=slicePick_size_le (l8 xs.length br) lo hi (some st);have e2:(jD xs lo hi st).length=(slicePick (l8 xs.length br) lo hi (some st)).size:=by
  have:=Ei (kb xs.length br) lo hi st;rw[show l8 _ _=(kb xs.length br).toArray by simp,this];unfold jD;rw[rn];exact Oj (R:=λ_ _=>True) _ (by simp)
 simp_all
section
variable{K:ah}{cl:Str->Addr}{E:XK}{X:Cx}{e:ai}{m:ME}{pos p2:ak}
theorem bB.at_(r:bB xs us):∀{k:Nat}{x:V},xs[k]?=some x->∃u,us[k]?=some u/\bK x u:=λ{k x} h=>by
 obtain⟨u,e1,e2⟩:=r.get h;exact⟨u,e1,e2⟩
theorem bB.pick(r:bB xs us):∀ks:List Nat,bB (ks.filterMap (xs[·]?)) (ks.filterMap (us[·]?))
 |[]=>.nil
 |k::ks=>by
  have ih:=bB.pick r ks;rw[jo,jo];cases h:xs[k]? with
  |none=>
   have:us[k]?=none:=by
    rw[CU]at h⊢;rw[<-r.length];exact h
   rw[this];exact ih
  |some x=>
   obtain⟨u,e1,e2⟩:=bB.at_ r h;rw[e1];exact .cons e2 ih
theorem aM.pick{xs:FS}{us:List V}(r:aM K c H xs us):∀ks:List Nat,aM K c H (ks.filterMap (xs[·]?)) (ks.filterMap (us[·]?))
 |[]=>.nil
 |k::ks=>by
  have ih:=aM.pick r ks;rw[jo,jo];cases h:xs[k]? with
  |none=>
   have:us[k]?=none:=by
    rw[CU]at h⊢;rw[<-r.length];exact h
   rw[this];exact ih
  |some x=>
   obtain⟨u,e1,e2⟩:=r.get h;rw[e1];exact .cons e2 ih
noncomputable def Vu(v:PV)(lo hi:FR)(st:Int):FT:=match v with
 |.lst xs=>some (.lst (jD xs lo hi st))
 |_=>none
noncomputable def qD(m:ME)(ml mh:MO)(st:Int):ME:=λρ S=>(m ρ S).bind λv S1=>(ml ρ S1).bind λlo S2=>(mh ρ S2).bind λhi S3=>iJ ((rd S3 v).bind λx=>Vu x lo hi st) S3
noncomputable def aeo(K:ah)(st:Int)(te:TE)(tl th:TO):TE:=λσ H Q=>te σ H λx H1=>tl σ H1 λl H2=>th σ H2 λu H3=>∃a xs,x=.ref a/\bS K H3 a xs/\∀p,H3 p=none->Q (.ref p) (aS H3 p (.lst (jD xs l u st)))
theorem Oz{lo hi:Option ai}{es:ai}{te:TE}{tl th:TO}{st:Int}(h0:st≠0)(he:PE X e te)(hl:PO X lo tl)(hu:PO X hi th)(hst:PO X (some es) λ_ H Q=>Q (some st) H):PE X (.Subscript e (.Slice lo hi (some es) p2) pos) (aeo X.K st te tl th):=by
 intro FX s σ H Q I h;refine zw (bC (he FX s σ H _ I h) λv s1 hq=>?_);rcases hq with⟨x,H1,I1,r1,q1⟩;refine wpAny_Slice (bC (hl FX s1 σ H1 _ I1 q1) λvl s2 ⟨l,H2,I2,pl,q2⟩=>bC (hu FX s2 σ H2 _ I2 q2) λvu s3 hq=>?_);rcases hq with⟨u,H3,I3,pu,q3⟩;refine bC (hst FX s3 σ H3 (λo H'=>o=some st/\H'=H3) I3 ⟨rfl,rfl⟩) ?_
 rintro vs s4 ⟨o,H4,I4,ps,eo,eH⟩
 subst eo eH;obtain⟨a,xs,rfl,hx,q⟩:=q3;cases r1;have I5:aG X FX σ H4 {s4 with heap:=s4.heap.push {cls:=.type "slice",data:=.fields #[vl,vu,vs]}}:=I4.kept  λb ob q=>av _ q;obtain⟨its,r,ht,hz⟩:=I5.list hx;have hlen:=r.length;have hg:wpAny (model X.prog X.w) X.A (getItem (.ref a) (.ref s4.heap.objs.size)) (EP X FX σ Q) X.xe {s4 with heap:=s4.heap.push {cls:=.type "slice",data:=.fields #[vl,vu,vs]}}:=by
  refine BC ht.isList (AZ ..) pl pu ps (by simpa using h0) ?_ (by grind);rw[Ei];refine⟨.ref _,_,I5.laid   (λb ob q=>av _ q) (aq _) ?_,rfl,q _ (I5.hok.fresh (aq _))⟩;refine⟨gm (Ml xs l u st) hz,_,0,?_,cy _ rfl⟩;unfold jD;rw[hlen];exact bB.pick r _
 exact tail_any   ht.isList.typeIs zz.lookup hg (rfl)
theorem Ar{lo hi:Option ai}{es:ai}{ml mh:MO}{st:Int}(he:aT K cl E X e m)(hl:oV K cl E X lo ml)(hu:oV K cl E X hi mh)(hst:PO X (some es) λ_ H Q=>Q (some st) H)(h0:st≠0):aT K cl E X (.Subscript e (.Slice lo hi (some es) p2) pos) (qD m ml mh st):=by
 intro hK;subst hK;refine(Oz h0 (he rfl) (hl rfl) (hu rfl) hst).imp ?_
 rintro σ H Q ⟨p,S,ρ,s,e,h⟩
 refine bT s e h λq H1 a x S1 st s1 e1 r1 h1=>bT s1 e1 h1 λq2 H2 lo lo' S2 st2 s2 e2 r2 h2=>bT s2 e2 h2 λq3 H3 hi hi' S3 st3 s3 e3 r3 h3=>?_;cases r2;cases r3;have ra:=st3.repA (st2.repA r1);obtain⟨c,ec,k⟩:=pI s3 h3;cases z:rd S3 a with
 |none=>rw[z]at ec;cases ec
 |some v=>
  rw[z]at ec;have rv:=pL s3 ra z;cases v with
  |lst xs=>
   cases ec;obtain⟨a1,vs,rfl,l1,z1,r1⟩:=rv.lst;refine⟨a1,vs,rfl,l1,λt ht=>k _ _ (fS ht) (lC s3 ?_ (gm (Ml vs lo hi _) z1) ht)⟩;unfold jD;rw[r1.length];exact aM.pick r1 _
  |_=>cases ec
theorem aaW{j:Nat}{p1 p2:ak}:PO X (some (.UnaryOp .USub (.Constant (.int 1) j p1) p2)) λ_ H Q=>Q (some (-1)) H:=by
 intro FX s σ H Q I h;exact(Yb (Zs Gs Zc)) FX s σ H Q I ⟨1,rfl,-1,rfl,h⟩
theorem acH:PO X (some (.Constant (.int i) j p1)) λ_ H Q=>Q (some i) H:=by
 intro FX s σ H Q I h;exact Yb Zc _ s _ H Q I ⟨i,rfl,h⟩
end
section
noncomputable def sM(neg:Bool)(i:Int)(is:FI):Bool:=if neg then !(is.any (· ==i))else is.any (· ==i)
end
end L2.Pp
namespace L2
open PySem PySem.Spec PyProof.Rows Bn
open PySem.W (KasT kas_sort kas_ask KatLex KatGo KatTups kat_run kat_kind kat_lt kat_one kas_item kat_snds)
noncomputable def nC(lt:Nat->Nat->Bool):lu α->α
 |.ret a=>a
 |.ask i j k=>nC lt (k (lt i j))
noncomputable def jB(n:Nat):lu α->Bool
 |.ret _=>true
 |.ask i j k=>decide (i<n)&&decide (j<n)&&jB n (k true)&&jB n (k false)
theorem Ql{cmp:Nat->Nat->(Bool->aa->Prop)->aa->Prop}{lt:Nat->Nat->Bool}{n:Nat}{s:aa}(hc:∀i j(C:Bool->aa->Prop),i<n->j<n->C (lt i j) s->cmp i j C s):∀(t:lu α)(Q:α->aa->Prop),jB n t=true->Q (nC lt t) s->t.kasWp cmp Q s
 |.ret a,Q,_,h=>h
 |.ask i j k,Q,ok,h=>by
  unfold jB at ok;simp only[gr,decide_eq_true_eq]at ok;obtain⟨⟨⟨hi,hj⟩,h1⟩,h2⟩:=ok;refine hc i j _ hi hj (Ql hc _ Q ?_ h);cases lt i j
  .exact h2
  .exact h1
noncomputable def oG(h:Heap)(v:Value)(us:FI):Prop:=∃a o its n,v=.ref a/\h.get? a=some o/\o.cls=.type "tuple"/\o.data=.seq (iw its) n/\bB (us.map V.int) its
section
variable{prog:Program}{w:ar}{A:ax}{E:Value->aa->Prop}{s:aa}
theorem Oo{Q:Bool->aa->Prop}:∀(us vs:FI)(its jts:FN)(i:Nat)(fin:Bool),bB (us.map V.int) its->bB (vs.map V.int) jts->fin=decide (us.length<vs.length)->Q (HT.lexLt us vs) s->KatLex prog w A true fin Q (its.zip jts) i s
 |[],vs,its,jts,i,fin,h1,h2,hf,hQ=>by
  cases h1;cases vs with
  |nil=>
   subst hf;exact sx hQ
  |cons v vs=>
   have e:fin=true:=by rw[hf];simp
   subst e;exact sx hQ
 |u::us,[],its,jts,i,fin,h1,h2,hf,hQ=>by
  cases h2;have e:fin=false:=by rw[hf];simp
  subst e;rw[zo];exact sx hQ
 |u::us,v::vs,its,jts,i,fin,h1,h2,hf,hQ=>by
  cases h1 with
  |cons r1 t1=>
   cases h2 with
   |cons r2 t2=>
    obtain⟨k1,rfl⟩:=r1;obtain⟨k2,rfl⟩:=r2;rw[ql];refine CV (wpAny_eqBool_int ?_);rw[HT.lexLt_cons]at hQ
    by_cases e:u=v
    .rw[if_pos e]at hQ
     have b:(u==v)=true:=by simpa using e
     rw[b];exact CW (Oo us vs _ _ (i+1) fin t1 t2 (by rw[hf];simp) hQ)
    .rw[if_neg e]at hQ
     have b:(u==v)=false:=by simpa using e
     rw[b];refine CY ?_
     by_cases hi:i=0
     .subst hi
      exact oneLt_int hQ
     .have b2:(true&&i==0)=false:=by simpa using hi
      rw[b2];exact kat_one _ _ (PySem.P.lt_int hQ)
theorem Er{us vs:FI}{Q:Bool->aa->Prop}(hx:oG s.heap x us)(hy:oG s.heap y vs)(h:Q (HT.lexLt us vs) s):wpAny (model prog w) A (keyLt' (tuples' true) x y) Q E s:=by
 obtain⟨a,o,its,n,rfl,ho,hc,hd,r⟩:=hx;obtain⟨b,o2,jts,k,rfl,ho2,hc2,hd2,r2⟩:=hy;refine kat_lt ho hd ho2 hd2 ?_;have l1:=r.length;have l2:=r2.length;rw[aw]at l1 l2;refine Oo _ _ its jts 0 _ r r2 ?_ h;simp_all
theorem Ea:∀(vs:FN)(uss:FJ),vs.length=uss.length->(∀i,i<vs.length->oG s.heap (vs.getD i br) (uss.getD i [])/\uss.getD i []≠[])->∃fs,KatTups s.heap vs fs/\fs.length=vs.length/\∀v∈fs,∃i t,v=.int i t
 |[],uss,_,_=>⟨[],trivial,rfl,λ_ h=>absurd h iu⟩
 |v::vs,[],hl,_=>by cases hl
 |v::vs,us::uss,hl,h=>by
  obtain⟨fs,k,l,q⟩:=Ea vs uss (by simpa using hl) λi hi=>by
   have:=h (i+1) (by simp;omega);simpa using this
  obtain⟨⟨a,o,its,n,e,ho,hc,hd,r⟩,ne⟩:=h 0 (by simp);subst e;cases us with
  |nil=>exact absurd rfl ne
  |cons u us=>
   cases r with
   |cons r1 t1=>
    obtain⟨t,rfl⟩:=r1;refine⟨.int u t::fs,CZ ho hc hd (by simp) k,by simp[l],λx hx=>?_⟩;rcases cr.mp hx with rfl |hx
    .exact⟨u,t,rfl⟩
    .exact q x hx
noncomputable def cZ(uss:FJ):List Nat:=(nC (λi j=>HT.lexLt (uss.getD i []) (uss.getD j [])) (jx uss.length)).toList
theorem Dw{a:Addr}{vs:FN}{uss:FJ}{n:Nat}{P:uv->aa->Prop}(ho:s.heap.get? a=some (seqObj "list" vs.toArray n))(hl:vs.length=uss.length)(h2:2<=vs.length)(h64:vs.length<64)(ok:jB uss.length (jx uss.length)=true)
  (tu:∀i,i<vs.length->oG s.heap (vs.getD i br) (uss.getD i [])/\uss.getD i []≠[])
  (h:P (.done (.ret .none)) {s with heap:=sortedHeap s.heap a vs (iw ((cZ uss).map λi=>vs.getD i br))}):
  wpAny (model prog w) A (Builtin.«list.sort» ⟨[.ref a],[]⟩) P E s:=by
 obtain⟨e1,ho1⟩:∃e1,(s.heap.update a (fz λ_=>(#[]:Array Value))).get? a=some (seqObj "list" #[] e1):=⟨_,sy ho λ_=>#[]⟩;have kp:∀b o,b≠a->s.heap.get? b=some o->(((s.heap.update a (fz λ_=>(#[]:Array Value))).push (seqObj "tuple" vs.toArray 0)).push (seqObj "list" #[] 0)).get? b=some o:=λb o hb e=>
  av _ (av _ ((td _ _ _ _ hb).trans e))
 have tu2:∀i,i<vs.length->oG _ (vs.getD i br) (uss.getD i [])/\uss.getD i []≠[]:=λi hi=>by
  obtain⟨⟨b,o,its,m,e,hb,hc,hd,r⟩,ne⟩:=tu i hi;refine⟨⟨b,o,its,m,e,kp b o (λz=>?_) hb,hc,hd,r⟩,ne⟩;subst z;rw[ho]at hb;cases hb;have hc:=hc;injection hc with hc;exact absurd hc (by decide)
 have na:(((s.heap.update a (fz λ_=>(#[]:Array Value))).push (seqObj "tuple" vs.toArray 0)).push (seqObj "list" #[] 0)).get? a=some (seqObj "list" #[] e1):=av _ (av _ ho1);rw[list_sort_plain];refine ae (listItems_at ho rfl ?_);refine ae (uw ho rfl ?_ (by rw[ay,ia];omega) (du _));refine ae (uz ho1 rfl ?_);refine ae (i9 ?_ (by show vs.length<=_;rw[ia];omega));refine ae (xy ?_ (du _));refine ix ?_;have hn2:¬vs.toArray.size<2:=by rw[ay];omega
 rw[if_neg hn2,if_neg hn2];obtain⟨fs,kt,lf,qf⟩:=Ea (s:={s with heap:=((s.heap.update a (fz λ_=>(#[]:Array Value))).push (seqObj "tuple" vs.toArray 0)).push (seqObj "list" #[] 0)}) vs uss hl tu2;refine ae (kat_kind (T:=.type "int") kt (by omega) (λv hv=>?_) rfl ?_)
 .obtain⟨i,t,rfl⟩:=qf v hv
  exact .now
 refine ae (im (kat_run (Q:=λst' s'=>∃p:Array Nat,p.size=vs.length/\arrOf st'=p.map (kas_item (vs.toArray.zip vs.toArray))/\failedOf st'=none/\p.toList=cZ uss/\s'={s with heap:=((s.heap.update a (fz λ_=>(#[]:Array Value))).push (seqObj "tuple" vs.toArray 0)).push (seqObj "list" #[] 0)})
  
  rfl h2 h64 (λp' st' s' a1 a2 a3 a4=>⟨p',a1,a2,a3,a4⟩) ?_) ?_ λ_ _ e=>e)
 .rw[hl]
  refine Ql  (n:=uss.length) (λi j C hi hj hC=>?_) _ _ ok ⟨rfl,rfl⟩;exact Er (tu2 i (by omega)).1 (tu2 j (by omega)).1 hC
 rintro⟨⟨⟩,st'⟩ s' ⟨p,hp,har,hf,hpl,rfl⟩
 dsimp only;have hout:=kat_snds rfl har;have hsz:(iw (p.toList.map λi=>vs.getD i br)).size=vs.length:=by rw[ay,aw,jz,hp]
 rw[hout];refine ae (uz na rfl ?_);refine ae (uw na rfl ?_ (du _) (gm (ud hsz) (by rw[ia];omega)));rw[hf];simp only[bne_self_eq_false,tf,if_false];refine aj ?_;rw[hpl];exact h
theorem Ix{T:String}{vs:FN}{uss:FJ}{n:Nat}{Q:Value->aa->Prop}(hT:T="list"\/T="tuple")(ho:s.heap.get? l=some o)(hc:o.cls=.type T)(hd:o.data=.seq vs.toArray n)(hl:vs.length=uss.length)(h2:2<=vs.length)(h64:vs.length<64)(ok:jB uss.length (jx uss.length)=true)
  (tu:∀i,i<vs.length->oG s.heap (vs.getD i br) (uss.getD i [])/\uss.getD i []≠[])
  (h:∀(h1 h':Heap)(c:Nat),(∀b o',s.heap.get? b=some o'->h1.get? b=some o')->(∀b o',h1.get? b=some o'->h'.get? b=some o')->h'.get? h1.objs.size=some (seqObj "list" (iw ((cZ uss).map λi=>vs.getD i br)) c)->Q (.ref h1.objs.size) {s with heap:=h'}):
  wpAny (model prog w) A (call (.builtin "sorted") [.ref l]) Q E s:=by
 refine DA kind_sorted plain_sorted entry_sorted (args_sorted1 _) ?_;unfold DB;refine ae (m:=checkCount "sorted" 1 1 _) (aj ?_);refine ae (m9 l hT ho hc hd (λh1 k1=>?_) (by rw[ay,ia];omega));refine ae (xy ?_ (by rw[ia];simp;omega));have hoL:(h1.push (seqObj "list" vs.toArray 0)).get? h1.objs.size=some _:=cy _ rfl;show wpAny _ _ _ _ _ {s with heap:=h1.push (seqObj "list" vs.toArray 0)};refine ae (ix (jk slot_list_sort ⟨_,hoL,rfl⟩ entry_list_sort ?body (args_list_sort _)))
 case body=>
  refine Dw  hoL hl h2 h64 ok (λi hi=>?_) ⟨_,rfl,aj ⟨_,rfl,?_⟩⟩
  .obtain⟨⟨b,o,its,m,e,hb,hc,hd,r⟩,ne⟩:=tu i hi
   exact⟨⟨b,o,its,m,e,av _ (k1 b o hb),hc,hd,r⟩,ne⟩
  .obtain⟨e1,ho1⟩:∃e1,((h1.push (seqObj "list" vs.toArray 0)).update h1.objs.size (fz λ_=>#[])).get? h1.objs.size=some (seqObj "list" #[] e1):=⟨_,sy hoL λ_=>#[]⟩
   have ho2:=av (seqObj "list" #[] 0) (av (seqObj "tuple" vs.toArray 0) ho1);obtain⟨e2,ho3⟩:∃e2,(sortedHeap (h1.push (seqObj "list" vs.toArray 0)) h1.objs.size vs (iw ((cZ uss).map λi=>vs.getD i br))).get? h1.objs.size=some _:=⟨_,sy ho2 _ ⟩;refine h h1 _ e2 k1 (λb o' hb1=>?_) ho3;have hne:=df (bh hb1);exact(td _ _ _ _ hne).trans (av _ (av _ ((td _ _ _ _ hne).trans (av _ hb1))))
end
noncomputable def rW(K:ah)(H:Hp)(ts:List V)(uss:FJ):Prop:=ts.length=uss.length/\∀i t,ts[i]?=some t->∃a,t=.ref a/\cO K H a ((uss.getD i []).map V.int)/\uss.getD i []≠[]
theorem Ky{X:Cx}:jC X (.builtin "sorted") (λxs H Q=>∃(a:Addr)(ts:List V)(uss:FJ),xs=[.ref a]/\(bS X.K H a ts\/cO X.K H a ts)/\rW X.K H ts uss/\2<=ts.length/\ts.length<64/\jB uss.length (jx uss.length)=true/\(cZ uss).length<=64/\
  ∀l,H l=none->Q (.ref l) (aS H l (.lst ((cZ uss).map λi=>ts.getD i .non)))):=by
 intro FX s σ H xs us Q I r h;obtain⟨a,ts,uss,rfl,hq,⟨hl,ht⟩,h2,h64,ok,hpl,q⟩:=h;obtain⟨u,rfl,ru⟩:=jY r;cases ru;have go:∀(its:FN)(T:String)(o:Obj)(n:Nat),bB ts its->(T="list"\/T="tuple")->s.heap.get? a=some o->o.cls=.type T->o.data=.seq its.toArray n->ts.length<=sizeLine->
   wpAny (model X.prog X.w) X.A _ (EP X FX σ Q) X.xe s:=λits T o n rv hT ho hc hd hz=>by
  have hlen:=rv.length;refine Ix (uss:=uss) hT ho hc hd (by omega) (by omega) (by omega) ok (λi hi=>?_) λh1 h' c k1 k2 e=>?_
  .have hi':i<ts.length:=by omega
   obtain⟨b,e1,sq,ne⟩:=ht i ts[i] (bf hi');obtain⟨v,e2,rel⟩:=rv.get (bf hi');rw[e1]at rel;cases rel;obtain⟨jts,rj,⟨o2,ho2,hc2,m,hd2⟩,_⟩:=I.tuple sq;refine⟨⟨b,o2,jts,m,?_,ho2,hc2,hd2,rj⟩,ne⟩;rw[cg,e2];rfl
  .have I1:aG X FX σ H {s with heap:=h1,toks:=s.toks}:=I.kept k1
   have hz2:((cZ uss).map λi=>ts.getD i .non).length<=sizeLine:=by
    rw[aw,ia];omega
   have rel:∀ps:List Nat,bB (ps.map λi=>ts.getD i .non) (ps.map λi=>its.getD i br):=λps=>by
    induction ps with
    |nil=>exact .nil
    |cons i ps ih=>
     refine .cons ?_ ih
     by_cases hi:i<ts.length
     .obtain⟨v,e2,rr⟩:=rv.get (bf hi)
      have q1:ts.getD i .non=ts[i]:=by simp[cg,hi]
      have q2:its.getD i br=v:=by simp[cg,e2]
      show bK (ts.getD i .non) (its.getD i br);rw[q1,q2];exact rr
     .have q1:ts.getD i .non=.non:=by simp[cg,hi]
      have q2:its.getD i br=br:=by grind
      show bK (ts.getD i .non) (its.getD i br);rw[q1,q2];rfl
   refine⟨.ref h1.objs.size,_,I1.laid (t':=s.toks)  k2 (aq _) ?_,rfl,q _ (I1.hok.fresh (aq _))⟩;exact⟨hz2,_,c,rel _,e⟩
 rcases hq with hq |hq
 .obtain⟨its,rv,pl,hz⟩:=I.list hq
  obtain⟨o,ho,hc,n,hd⟩:=pl.isList;exact go its "list" o n rv (.inl rfl) ho hc hd hz
 .obtain⟨its,rv,⟨o,ho,hc,n,hd⟩,hz⟩:=I.tuple hq
  exact go its "tuple" o n rv (.inr rfl) ho hc hd hz
end L2
namespace L2.Pp
open PySem PySem.Spec PyProof.Rows Bn
open PySem.W (kas_sort)
section
variable{K:ah}
noncomputable def iC:FS->Option FJ
 |[]=>some []
 |.tup us::r=>match fV us,iC r with
  |some is,some uss=>some (is::uss)
  |_,_=>none
 |_::_=>none
theorem wM:∀{xs:FS}{uss:FJ},iC xs=some uss->xs.length=uss.length
 |[],uss,e=>by cases e;rfl
 |.tup _::r,uss,e=>by
  unfold iC at e;split at e
  .rename_i is uss' h1 h2
   cases e;rw[bo,bo,wM h2]
  .cases e
 |.non::_,_,e=>by cases e
 |.bl _::_,_,e=>by cases e
 |.int _::_,_,e=>by cases e
 |.str _::_,_,e=>by cases e
 |.lst _::_,_,e=>by cases e
theorem Xb:∀{xs:FS}{uss:FJ}{vs:List V},iC xs=some uss->aM K c H xs vs->∀i t,vs[i]?=some t->∃a,t=.ref a/\cO K H a ((uss.getD i []).map V.int)
 |[],uss,vs,e,r,i,t,h=>by
  subst r;simp at h
 |.tup us::r,uss,vs,e,rr,i,t,h=>by
  unfold iC at e;split at e
  .rename_i is uss' h1 h2
   cases e;obtain⟨v,w,rfl,r1,r2⟩:=rr;cases i with
   |zero=>
    cases h;obtain⟨a,ws,rfl,sq,_,r3⟩:=r1;rw[pD h1 r3]at sq;exact⟨a,rfl,sq⟩
   |succ i=>
    have:=Xb h2 r2 i t (by simpa using h);simpa using this
  .cases e
 |.non::_,_,_,e,_,_,_,_=>by cases e
 |.bl _::_,_,_,e,_,_,_,_=>by cases e
 |.int _::_,_,_,e,_,_,_,_=>by cases e
 |.str _::_,_,_,e,_,_,_,_=>by cases e
 |.lst _::_,_,_,e,_,_,_,_=>by cases e
noncomputable def Te(uss:FJ):Prop:=2<=uss.length/\uss.length<64/\jB uss.length (jx uss.length)=true/\(cZ uss).length<=64/\∀us∈uss,us≠[]
noncomputable def Qe(xs:FS)(uss:FJ):FS:=(cZ uss).map λi=>xs.getD i .non
open Classical in
noncomputable def rY(xs:FS):FT:=match iC xs with
 |some uss=>if Te uss then some (.lst (Qe xs uss))else none
 |none=>none
noncomputable def tF:FS->FT
 |[.lst xs]=>rY xs
 |[.tup xs]=>rY xs
 |_=>none
theorem vY{xs:FS}{vs:List V}(r:aM K c H xs vs):∀ps:List Nat,aM K c H (ps.map λi=>xs.getD i .non) (ps.map λi=>vs.getD i .non)
 |[]=>.nil
 |i::ps=>by
  refine .cons ?_ (vY r _)
  by_cases hi:i<xs.length
  .obtain⟨v,e1,e2⟩:=r.get (bf hi)
   simp_all
  .have hl:=r.length
   have q1:xs.getD i .non=.non:=by simp[cg,hi]
   have q2:vs.getD i .non=.non:=by simp_all
   show aL K c H (xs.getD i _) (vs.getD i _);rw[q1,q2];rfl
theorem abn:jV K (λxs H Q=>∃(a:Addr)(ts:List V)(uss:FJ),xs=[.ref a]/\(bS K H a ts\/cO K H a ts)/\rW K H ts uss/\2<=ts.length/\ts.length<64/\jB uss.length (jx uss.length)=true/\(cZ uss).length<=64/\
  ∀l,H l=none->Q (.ref l) (aS H l (.lst ((cZ uss).map λi=>ts.getD i .non)))) tF:=λ{p S H as c xs Q} s ra e k=>by
 have key:∀(zs:FS)(a:Addr)(vs:List V),rY zs=some c->(bS K H a vs\/cO K H a vs)->aM K p.c H zs vs->∃(a':Addr)(ts:List V)(uss:FJ),[V.ref a]=[.ref a']/\(bS K H a' ts\/cO K H a' ts)/\rW K H ts uss/\2<=ts.length/\ts.length<64/\jB uss.length (jx uss.length)=true/\(cZ uss).length<=64/\
   ∀l,H l=none->Q (.ref l) (aS H l (.lst ((cZ uss).map λi=>ts.getD i .non))):=λzs a vs e sq r=>by
  unfold rY at e;split at e
  .rename_i uss hu
   split at e
   .rename_i hc
    cases e;obtain⟨c1,c2,c3,c4,c5⟩:=hc;have l1:=wM hu;have l2:=r.length;refine⟨a,vs,uss,rfl,sq,⟨by omega,λi t h=>?_⟩,by omega,by omega,c3,c4,λl hl=>?_⟩
    .obtain⟨b,e1,e2⟩:=Xb hu r i t h
     have hi:i<uss.length:=by
      have:=(da.mp h).1;omega
     refine⟨b,e1,e2,?_⟩;rw[cg,bf hi];exact c5 _ (jm hi)
    .refine k _ _ (fS hl) (lC s (vY r _) ?_ hl)
     rw[aw,iP];omega
   .cases e
  .cases e
 unfold tF at e;split at e
 .rename_i zs
  cases ra with
  |cons h t=>
   cases t;obtain⟨a,vs,rfl,l,z,r⟩:=h.lst;exact key zs a vs e (.inl l) r
 .rename_i zs
  cases ra with
  |cons h t=>
   cases t;obtain⟨a,vs,rfl,l,z,r⟩:=h.tup;exact key zs a vs e (.inr l) r
 .cases e
end
end L2.Pp
namespace L2
section
open PySem.W (KasT kas_sort)
theorem Oi{lt lt':Nat->Nat->Bool}{n:Nat}(h:∀i j,i<n->j<n->lt i j=lt' i j):∀t:lu α,jB n t=true->nC lt t=nC lt' t
 |.ret a,_=>rfl
 |.ask i j k,ok=>by
  unfold jB at ok;simp only[gr,decide_eq_true_eq]at ok;obtain⟨⟨⟨hi,hj⟩,h1⟩,h2⟩:=ok;show nC _ _=nC _ (k _);rw[<-h i j hi hj];refine Oi h (k _) ?_;cases lt i j
  .exact h2
  .exact h1
theorem kM:∀u:FI,HT.lexLt u u=false
 |[]=>rfl
 |x::u=>by rw[HT.lexLt_cons,if_pos rfl,kM u]
theorem xD:∀u v:FI,u=v\/HT.lexLt u v=true\/HT.lexLt v u=true
 |[],[]=>.inl rfl
 |[],_::_=>.inr (.inl rfl)
 |_::_,[]=>.inr (.inr rfl)
 |x::u,y::v=>by
  rw[HT.lexLt_cons,HT.lexLt_cons]
  by_cases h:x=y
  .subst h
   rw[if_pos rfl,if_pos rfl];rcases xD u v with h |h |h
   .exact .inl (by rw[h])
   .exact .inr (.inl h)
   .exact .inr (.inr h)
  .rw[if_neg h,if_neg (λz=>h z.symm)]
   by_cases q:x<y
   .exact .inr (.inl (by simpa using q))
   .exact .inr (.inr (by grind))
theorem pB:∀u v w:FI,HT.lexLt u v=true->HT.lexLt v w=true->HT.lexLt u w=true
 |[],[],_,h,_=>by cases h
 |[],_::_,[],_,h=>by cases h
 |[],_::_,_::_,_,_=>rfl
 |_::_,[],_,h,_=>by cases h
 |_::_,_::_,[],_,h=>by cases h
 |x::u,y::v,z::w,h1,h2=>by
  rw[HT.lexLt_cons]at h1 h2⊢
  by_cases e1:x=y
  .subst e1
   rw[if_pos rfl]at h1
   by_cases e2:x=z
   .rw[if_pos e2]at h2⊢
    exact pB u v w h1 h2
   .rw[if_neg e2]at h2⊢
    exact h2
  .grind
theorem N6(h:HT.lexLt u v=true):HT.lexLt v u=false:=by
 cases q:HT.lexLt v u with
 |false=>rfl
 |true=>
  have:=pB u v u h q;rw[kM]at this;cases this
noncomputable def r3(a b c d e f:Bool):Bool:=(!(a&&b)||c)&&(!(d&&e)||f)
noncomputable def yV(b:Nat->Nat->Bool)(n:Nat):Bool:=(ci n).all λi=>!(b i i)&&(ci n).all λj=>!(b i j&&b j i)&&(ci n).all λk=>(!(b i j&&b j k)||b i k)&&(b i j||b j k|| !(b i k))
noncomputable def yC(b:Nat->Nat->Bool)(n:Nat)(ps:List (List Nat)):Bool:=let p:=(nC b (jx n)).toList
 ps.contains p&&(ci n).all λi=>(ci n).all λj=>!(decide (i<j))|| !(b (p.getD j 0) (p.getD i 0))
noncomputable def Fe:List (List Nat):=[[0,1,2],[0,2,1],[1,0,2],[1,2,0],[2,0,1],[2,1,0]]
noncomputable def De:List (List Nat):=[[0,1,2,3],[0,1,3,2],[0,2,1,3],[0,2,3,1],[0,3,1,2],[0,3,2,1],[1,0,2,3],[1,0,3,2],[1,2,0,3],[1,2,3,0],[1,3,0,2],[1,3,2,0],
 [2,0,1,3],[2,0,3,1],[2,1,0,3],[2,1,3,0],[2,3,0,1],[2,3,1,0],[3,0,1,2],[3,0,2,1],[3,1,0,2],[3,1,2,0],[3,2,0,1],[3,2,1,0]]
noncomputable def Cg(kI b02 dG b12 b20 b21:Bool)(i j:Nat):Bool:=match i,j with
 |0,1=>kI |0,2=>b02 |1,0=>dG |1,2=>b12 |2,0=>b20 |2,1=>b21 |_,_=>false
noncomputable def Tf(kI b02 b03 dG b12 b13 b20 b21 b23 nJ b31 b32:Bool)(i j:Nat):Bool:=match i,j with
 |0,1=>kI |0,2=>b02 |0,3=>b03 |1,0=>dG |1,2=>b12 |1,3=>b13 |2,0=>b20 |2,1=>b21 |2,3=>b23 |3,0=>nJ |3,1=>b31 |3,2=>b32 |_,_=>false
theorem Ms:jB 3 (jx 3)=true:=by decide+kernel
theorem Vs:jB 4 (jx 4)=true:=by decide+kernel
theorem afc:∀kI b02 dG b12 b20 b21:Bool,yV (Cg kI b02 dG b12 b20 b21) 3=true->yC (Cg kI b02 dG b12 b20 b21) 3 Fe=true:=by decide+kernel
theorem afm:∀kI b02 b03 dG b12 b13 b20 b21 b23 nJ b31 b32:Bool,yV (Tf kI b02 b03 dG b12 b13 b20 b21 b23 nJ b31 b32) 4=true->yC (Tf kI b02 b03 dG b12 b13 b20 b21 b23 nJ b31 b32) 4 De=true:=by decide+kernel
theorem Xq{n:Nat}{uss:FJ}(h:∀i j,i<n->j<n->b i j=HT.lexLt (uss.getD i []) (uss.getD j [])):yV b n=true:=by
 unfold yV;simp only[ie,yy,gr,ss,n8,Bool.and_eq_false_imp];intro i hi;refine⟨by rw[h i i hi hi,kM],λj hj=>⟨λq=>?_,λk hk=>⟨?_,?_⟩⟩⟩
 .rw[h i j hi hj]at q
  rw[h j i hj hi,N6 q]
 .rw[h i j hi hj,h j k hj hk,h i k hi hk]
  cases q1:HT.lexLt _ (uss.getD j [])with
  |false=>exact .inl λz=>by cases z
  |true=>
   cases q2:HT.lexLt _ _ with
   |false=>exact .inl λ_=>rfl
   |true=>exact .inr (pB _ _ _ q1 q2)
 .rw[h i j hi hj,h j k hj hk,h i k hi hk]
  cases q1:HT.lexLt _ (uss.getD j [])with
  |true=>exact .inl (.inl rfl)
  |false=>
   cases q2:HT.lexLt _ _ with
   |true=>exact .inl (.inr rfl)
   |false=>
    refine .inr ?_;cases q3:HT.lexLt _ _ with
    |false=>rfl
    |true=>
     rcases xD (uss.getD i []) _ with e |e |e
     .rw[e]at q3;rw[q2]at q3;cases q3
     .rw[q1]at e;cases e
     .have:=pB _ _ _ e q3
      rw[q2]at this;cases this
noncomputable def eV(uss:FJ):FJ:=(cZ uss).map λi=>uss.getD i []
noncomputable def vF(u v:FI):Prop:=HT.lexLt v u=false
theorem Hk{uss:FJ}{n:Nat}{ps:List (List Nat)}(hl:uss.length=n)(ok:jB n (jx n)=true){b:Nat->Nat->Bool}(hb:∀i j,i<n->j<n->b i j=HT.lexLt (uss.getD i []) (uss.getD j []))(good:yC b n ps=true)(hp:∀p∈ps,p.Perm (ci n)):
  cZ uss∈ps/\(cZ uss).Perm (ci n)/\(eV uss).Pairwise vF:=by
 have e:cZ uss=(nC b (jx n)).toList:=by
  unfold cZ;rw[hl];exact congrArg za (Oi (n:=n) (λi j hi hj=>(hb i j hi hj).symm) _ ok)
 unfold yC at good;simp only[gr,ie,yy]at good;rw[<-e]at good;obtain⟨g1,g2⟩:=good;have m:cZ uss∈ps:=by simpa using g1
 have pm:=hp _ m;refine⟨m,pm,?_⟩;have ln:(cZ uss).length=n:=by rw[pm.length_eq,oi]
 unfold eV;rw[o0];intro i j hi hj hij;rw[aw]at hi hj;have q:=g2 i (by omega) j (by omega);have pi:(cZ uss).getD i 0=(cZ uss)[i]:=by simp[cg,hi]
 have pj:(cZ uss).getD j 0=(cZ uss)[j]:=by simp[cg,hj]
 rw[pi,pj]at q;have li:(cZ uss)[i]<n:=by
  have:=pm.subset (jm hi);simpa using this
 have lj:(cZ uss)[j]<n:=by
  have:=pm.subset (jm hj);simpa using this
 rw[hb _ _ lj li]at q;simp only[List.getElem_map];unfold vF;have d:decide (i<j)=true:=by simpa using hij
 rw[d]at q;simpa using q
theorem F3:∀p∈Fe,p.Perm (ci 3):=by decide
theorem C9:∀p∈De,p.Perm (ci 4):=by decide
theorem Io(h:uss.length=3):cZ uss∈Fe/\(cZ uss).Perm (ci 3)/\(eV uss).Pairwise vF:=by
 match uss,h with
 |[u0,u1,u2],_=>
  have hb:∀i j,i<3->j<3->Cg (HT.lexLt u0 u1) (HT.lexLt u0 u2) (HT.lexLt u1 u0) (HT.lexLt u1 u2) (HT.lexLt u2 u0) (HT.lexLt u2 u1) i j=HT.lexLt ([u0,u1,u2].getD i []) ([u0,u1,u2].getD j []):=λi j hi hj=>by
   match i,j,hi,hj with
   |0,0,_,_=>exact(kM u0).symm
   |0,1,_,_=>rfl
   |0,2,_,_=>rfl
   |1,0,_,_=>rfl
   |1,1,_,_=>exact(kM u1).symm
   |1,2,_,_=>rfl
   |2,0,_,_=>rfl
   |2,1,_,_=>rfl
   |2,2,_,_=>exact(kM u2).symm
  exact Hk rfl Ms hb (afc _ _ _ _ _ _ (Xq hb)) F3
theorem Zo(h:uss.length=4):cZ uss∈De/\(cZ uss).Perm (ci 4)/\(eV uss).Pairwise vF:=by
 match uss,h with
 |[u0,u1,u2,u3],_=>
  have hb:∀i j,i<4->j<4->Tf (HT.lexLt u0 u1) (HT.lexLt u0 u2) (HT.lexLt u0 u3) (HT.lexLt u1 u0) (HT.lexLt u1 u2) (HT.lexLt u1 u3) (HT.lexLt u2 u0) (HT.lexLt u2 u1) (HT.lexLt u2 u3) (HT.lexLt u3 u0) (HT.lexLt u3 u1) (HT.lexLt u3 u2) i j=HT.lexLt ([u0,u1,u2,u3].getD i []) ([u0,u1,u2,u3].getD j []):=λi j hi hj=>by
   match i,j,hi,hj with
   |0,0,_,_=>exact(kM u0).symm
   |0,1,_,_=>rfl
   |0,2,_,_=>rfl
   |0,3,_,_=>rfl
   |1,0,_,_=>rfl
   |1,1,_,_=>exact(kM u1).symm
   |1,2,_,_=>rfl
   |1,3,_,_=>rfl
   |2,0,_,_=>rfl
   |2,1,_,_=>rfl
   |2,2,_,_=>exact(kM u2).symm
   |2,3,_,_=>rfl
   |3,0,_,_=>rfl
   |3,1,_,_=>rfl
   |3,2,_,_=>rfl
   |3,3,_,_=>exact(kM u3).symm
  exact Hk rfl Vs hb (afm _ _ _ _ _ _ _ _ _ _ _ _ (Xq hb)) C9
theorem vV(h:uss.length=3\/uss.length=4):(eV uss).Perm uss/\(eV uss).Pairwise vF:=by
 have key:∀n,uss.length=n->(cZ _).Perm _->(eV _).Perm uss:=λn hn hp=>by
  have e:(ci n).map (λi=>uss.getD i [])=uss:=by
   refine uo (by simp[hn]) λi h1 h2=>?_;have hi:=h2;simp[cg,hi]
  have:=hp.map λi=>uss.getD i [];rw[e]at this;exact this
 rcases h with h |h
 .obtain⟨_,hp,hs⟩:=Io h
  exact⟨key 3 h hp,hs⟩
 .obtain⟨_,hp,hs⟩:=Zo h
  exact⟨key 4 h hp,hs⟩
end
open PySem PySem.Spec PyProof.Rows Bn
theorem aa1{own1 own:List Str}{cap1 cap:List (Nat×Str)}{C:Addr}{FY:aa}{FZ:Hp}{ex:List Addr}(so:Scope)(hso:X.env.scope=so)(hk:so.kind=.function)(kind:sc.kind=.function)(names:∀y∈sc.names,y.2=.local->sc.names.lookup y.1=some .local)
  (nocell:∀y∈sc.names,y.2≠.cell)(free:∀y∈sc.names,y.2=.free->sc1.names.lookup y.1=some .free/\so.names.lookup y.1=some .cell)(at':∀p∈cap,(bW own1 cap1)[p.1]?=some p.2)(hcap:∀p∈cap,sc.names.lookup p.2=some .free):
  gY (dH X sc1 (bW own1 cap1) C FY FZ ex) sc own cap:=
 ⟨kind,names,nocell,λy hy e=>by
  obtain⟨f1,f2⟩:=free y hy e;exact sS  (by rw[hso];exact hk) f1 (by show X.env.scope.names.lookup _=_;rw[hso];exact f2),at',hcap⟩
section
variable{M:pk}{A:ax}{E:Value->aa->Prop}{s:aa}
theorem Tw{Q:ca->aa->Prop}
  (hQ:Q (newEnv scope s.heap.objs.size globals (cellsFrom (s.heap.objs.size+1) scope.names closure) qual none .none (some outer) builtinsNs) {s with heap:=pushCells (s.heap.push {cls:=.type "dict",data:=.dict #[]}) scope.names}):
  wpAny M A (newFunctionEnv scope globals closure [] qual none .none (some outer)) Q E s:=by
 refine ae (wpAny_alloc ?_);refine ae (wpAny_layCells _ (λname kind cells=>rfl) _ _ _ _ ?_);rw[show({s with heap:=s.heap.push _}:aa).heap.objs.size=s.heap.objs.size+1 from iz ..];refine ae ?_;exact aj (aj hQ)
end
theorem Sd:∀(names:List (Str×ja))(n:Nat)(acc:List (Str×Addr)),(∀x y c,acc.lookup x=some c->acc.lookup y=some c->x=y)->(∀x c,acc.lookup x=some c->c<n)->
  ∀x y c,(cellsFrom n names acc).lookup x=some c->(cellsFrom n names acc).lookup y=some c->x=y
 |[],n,acc,hi,_,x,y,c,e1,e2=>hi x y c e1 e2
 |(name,kind)::r,n,acc,hi,hb,x,y,c,e1,e2=>by
  unfold cellsFrom at e1 e2
  by_cases k:(kind==ir)=true
  .rw[if_pos k]at e1 e2
   refine Sd r (n+1) _ (λx y c e1 e2=>?_) (λx c e=>?_) x y c e1 e2
   .rw[fh]at e1 e2
    cases wx:x==name with
    |true=>
     cases wy:y==name with
     |true=>rw[beq_iff_eq.mp wx,beq_iff_eq.mp wy]
     |false=>
      rw[wx]at e1;rw[wy]at e2;cases e1;exact absurd (hb y _ e2) (jc _)
    |false=>
     cases wy:y==name with
     |true=>
      rw[wx]at e1;rw[wy]at e2;cases e2;exact absurd (hb x _ e1) (jc _)
     |false=>
      rw[wx]at e1;rw[wy]at e2;exact hi x y c e1 e2
   .rw[fh]at e
    cases wx:x==name with
    |true=>
     rw[wx]at e;cases e;exact qh _
    |false=>
     rw[wx]at e;exact uu (hb x c e)
  .rw[if_neg k]at e1 e2
   exact Sd r n acc hi hb x y c e1 e2
theorem tQ{n0:Nat}:∀(names:List (Str×ja))(n:Nat)(acc:List (Str×Addr))(x:Str),((∃c,acc.lookup x=some c/\n0<=c)\/(x,ir)∈names)->n0<=n->∃c,(cellsFrom n names acc).lookup x=some c/\n0<=c
 |[],n,acc,x,h,hn=>by
  rcases h with h |h
  .exact h
  .cases h
 |(name,kind)::r,n,acc,x,h,hn=>by
  unfold cellsFrom
  by_cases k:(kind==ir)=true
  .rw[if_pos k]
   refine tQ r _ _ x ?_ (o3 hn);cases w:x==name with
   |true=>exact .inl ⟨n,by rw[fh,w],hn⟩
   |false=>
    rcases h with⟨c,h,z⟩|h
    .exact .inl ⟨c,by rw[fh,w];exact h,z⟩
    .rcases cr.mp h with z |z
     .grind
     .exact .inr z
  .rw[if_neg k]
   refine tQ r n _ x ?_ hn;rcases h with h |h
   .exact .inl h
   .rcases cr.mp h with z |z
    .grind
    .exact .inr z
theorem Xc:∀(names:List (Str×ja))(n:Nat)(acc:List (Str×Addr))(x:Str)(c:Addr),n0<=n->(cellsFrom n names acc).lookup x=some c->n0<=c\/acc.lookup x=some c
 |[],n,acc,x,c,hn,e=>.inr e
 |(name,kind)::r,n,acc,x,c,hn,e=>by
  unfold cellsFrom at e
  by_cases k:(kind==ir)=true
  .rw[if_pos k]at e
   rcases Xc r (n+1) _ x c (o3 hn) e with z |z
   .exact .inl z
   .rw[fh]at z
    cases w:x==name<;>simp_all
  .rw[if_neg k]at e
   exact Xc r n _ x c hn e
theorem xF:∀(names:List (Str×ja))(n:Nat)(acc:List (Str×Addr))(x:Str),(x,ir)∉names->(cellsFrom n names acc).lookup x=acc.lookup x
 |[],n,acc,x,h=>rfl
 |(name,kind)::r,n,acc,x,h=>by
  unfold cellsFrom;have hr:(x,ir)∉r:=λz=>h (cj _ z)
  by_cases k:(kind==ir)=true
  .rw[if_pos k,xF r _ _ x hr,fh]
   cases w:x==name with
   |true=>
    refine absurd ?_ h;have e1:=by simpa using w
    have e2:=by simpa using k
    rw[e1,e2];exact ce
   |false=>rfl
  .rw[if_neg k,xF r _ _ x hr]
theorem Yc:∀(names:List (Str×ja))(h:Heap)(acc:List (Str×Addr)),(∀x c,acc.lookup x=some c->∃v,h.IsCell c v)->∀x c,(cellsFrom h.objs.size names acc).lookup x=some c->∃v,(pushCells h names).IsCell c v
 |[],h,acc,hc,x,c,e=>hc x c e
 |(name,kind)::r,h,acc,hc,x,c,e=>by
  unfold cellsFrom at e;unfold pushCells
  by_cases k:(kind==ir)=true
  .rw[if_pos k]at e⊢
   rw[<-iz h _]at e;refine Yc r _ _ (λy c e=>?_) x c e;rw[fh]at e;cases w:y==name with
   |true=>
    rw[w]at e;cases e;exact⟨none,_,cy _ rfl,rfl⟩
   |false=>
    rw[w]at e;obtain⟨v,z⟩:=hc y c e;exact⟨v,z.keeps λb o e=>av _ e⟩
  .rw[if_neg k]at e⊢
   exact Yc r h _ hc x c e
theorem Ej{env:ca}:∀{names:List (Str×ja)}{x:Str},
  (let l:=(names.map λ(n,k)=>if(k==jb&&env.scope.kind== .function&&env.kindOf n==some .cell)then(n,ir)else(n,k)).lookup x;l=some .cell\/l=some .free)->(x,jb)∈names\/(x,ir)∈names
 |[],x,h=>by
  rcases h with h |h<;>cases h
 |(n,k)::r,x,h=>by
  dsimp only at h;rw[cf]at h;have ih:=@Ej env r x
  by_cases c:(k==jb&&env.scope.kind== .function&&env.kindOf n==some .cell)=true
  .have kf:k=.free:=by
    simp only[gr,beq_iff_eq]at c;exact c.1.1
   dsimp only at h;rw[if_pos c,fh]at h;cases w:x==n with
   |true=>
    have hx:x=n:=by simpa using w
    rw[hx,<-kf];exact .inl ce
   |false=>
    rw[w]at h;exact(ih h).imp (cj _) (cj _)
  .dsimp only at h
   rw[if_neg c,fh]at h;cases w:x==n with
   |true=>
    rw[w]at h;have hx:x=n:=by simpa using w
    rcases h with h |h
    .have kf:k=.cell:=ck h
     rw[hx,<-kf];exact .inr ce
    .have kf:k=.free:=ck h
     rw[hx,<-kf];exact .inl ce
   |false=>
    rw[w]at h;exact(ih h).imp (cj _) (cj _)
theorem Zi{env:ca}:∀{names:List (Str×ja)}{x:Str},names.lookup x=some .cell->
  (names.map λ(n,k)=>if(k==jb&&env.scope.kind== .function&&env.kindOf n==some .cell)then(n,ir)else(n,k)).lookup x=some .cell
 |[],x,h=>by cases h
 |(n,k)::r,x,h=>by
  rw[cf];dsimp only;rw[fh]at h;cases w:x==n with
  |true=>
   rw[w]at h;have kf:=ck h;subst kf;rw[if_neg (by rw[show(ir==jb)=false from rfl];simp),fh,w]
  |false=>
   rw[w]at h;have ih:=@Zi env r x h
   by_cases c:(k==jb&&env.scope.kind== .function&&env.kindOf n==some .cell)=true
   .rw[if_pos c,fh,w]
    exact ih
   .rw[if_neg c,fh,w]
    exact ih
noncomputable def jA(X:Cx)(sc:Scope)(N:List Str)(C:Addr)(FY:aa)(FZ:Hp)(ex:List Addr):Cx where
 prog:=X.prog
 w:=X.w
 K:=X.K
 mg:=X.mg
 base:=X.base
 A:=X.A
 N:=N
 FY:=FY
 FZ:=FZ
 env:=compEnvC sc (cellsFrom (C+1) sc.names (gI X.env sc.names [])) C X.env
 outer:=X.stack
 stack:=X.stack
 ex:=ex
 fn:=λx=>sc.names.lookup x==some .cell
 calm:=X.calm
 pn:=[]
 xe:=λ_ _=>False
structure nZ(X:Cx)(sc:Scope)(own:List Str)(cap:List (Nat×Str)):Prop where
 kind:sc.kind=.function
 names:∀y∈sc.names,y.2=.local->sc.names.lookup y.1=some .local
 cells:∀y∈sc.names,y.2=.cell->sc.names.lookup y.1=some .cell
 free:∀y∈sc.names,y.2=.free->X.env.kindOf y.1=some .cell
 at':∀p∈cap,X.N[p.1]?=some p.2
 cap:∀p∈cap,sc.names.lookup p.2=some .free
section
variable{X:Cx}{sc:Scope}{own:List Str}{cap:List (Nat×Str)}{FX:List (Addr×Obj)}{σ:St}{H:Hp}{s:aa}{elt target iter:ai}{pos pos':ak}{wi:TI}{g:TG}{te:TE}{Q:VK}
theorem nZ.has(k:nZ X sc own cap)(ok:X.Ok):∀p∈sc.names,p.2=.free->∃c,X.env.cells.lookup p.1=some c:=λp hp e=>ok.has _ (.inl (k.free p hp e))
theorem aG.cmpC(k:nZ X sc own cap){h4:Heap}{fp:List Addr}{t':Nat}(I:aG X FX σ H s)(hf:∀b∈fp,eY X FX H b)(hlt:∀b∈fp,b<s.heap.objs.size)
  (e4:h4=pushCells (s.heap.push {cls:=.type "dict",data:=.dict #[]}) sc.names):aG (jA X sc (bW own cap) s.heap.objs.size s H fp) [] (iS own cap σ) H {s with heap:=h4,toks:=t'}:=by
 have kp:∀b o,s.heap.get? b=some o->h4.get? b=some o:=λb o e=>by
  rw[e4];exact o4 _ _ b o (av _ e)
 have hns:h4.Ns s.heap.objs.size (λ_=>none):=by
  rw[e4];exact(Heap.Ns.new ..).keeps λb o e=>o4 _ _ b o e
 have hcl:∀y c,(gI X.env sc.names []).lookup y=some c->X.env.cells.lookup y=some c:=λy c e=>by
  rcases vU sc.names [] (k.has I.ok) y c e with z |z
  .cases z
  .exact z
 have clt:∀y c,X.env.cells.lookup y=some c->c<s.heap.objs.size:=λy c e=>by
  obtain⟨v,o,ho,_⟩:=I.cell y c e;exact bh ho
 have hfr:=λy c e=>
  (Xc (n0:=s.heap.objs.size+1) sc.names _ _ y c (aq _) e).imp (λz=>z) (hcl y c)
 have nst:∀b∈fp,b∉eG X.stack:=λb hb z=>by
  rcases cr.mp (I.stkSub b z)with e |e
  .exact(hf b hb).2.1 e
  .exact(hf b hb).2.2.1 e
 refine⟨⟨I.ok.mod,k.kind,I.ok.glob,I.ok.blt,aq _,λx y c h1 h2=>?_,λx hx=>?_,λx c hfn e=>?_,I.ok.hd,I.ok.frames,.inl rfl,λb hb=>⟨df (hlt b hb),λx c e=>?_⟩,
  I.bs,gm I.ok.bsz I.sz,λb o e hb=>?_,nst,I.stack,I.stkFree⟩,rfl,I.bare,Un.kept kp,⟨_,hns,λi x v h1 h2 h3=>?_⟩,λx c e=>?_,I.hok.fresh (aq _),λx c e=>?_,λp hp=>absurd (show p∈([]:List (Addr×Obj)) from hp) (by simp),I.hok.kept kp,?_⟩
 .exact Sd sc.names _ _ (λx y c h1 h2=>I.ok.inj x y c (hcl x c h1) (hcl y c h2)) (λx c e=>uu (clt x c (hcl x c e))) x y c h1 h2
 .rcases Ej hx with z |z
  .by_cases m:(x,ir)∈sc.names
   .obtain⟨c,e,_⟩:=tQ (n0:=0) sc.names (s.heap.objs.size+1) (gI X.env sc.names []) x (.inr m) (du _)
    exact⟨c,e⟩
   .obtain⟨c,e⟩:=qV (env:=X.env) sc.names [] x (.inr z)
    exact⟨c,(xF sc.names _ _ x m).trans e⟩
  .obtain⟨c,e,_⟩:=tQ (n0:=0) sc.names (s.heap.objs.size+1) (gI X.env sc.names []) x (.inr z) (du _)
   exact⟨c,e⟩
 .have hm:(x,ir)∈sc.names:=ko (by simpa[jA]using hfn)
  obtain⟨c',e',hc'⟩:=tQ (n0:=s.heap.objs.size) sc.names (s.heap.objs.size+1) (gI X.env sc.names []) x (.inr hm) (qj _);have:=e'.symm.trans e;cases this;exact hc'
 .rcases hfr x c e with z |z
  .exact ky (g5 (hlt b hb) z)
  .exact(hf b hb).2.2.2.2.1 x c z
 .rcases(hf b hb).2.2.2.1 with z |z
  .exact I.ok.noex b o e z
  .exact absurd (fg (bh (I.ok.bs b o e).1) z) (jc _)
 .have hN:(bW own cap)[i]?=some x:=h1
  unfold bW at hN;unfold iS at h2
  by_cases hi:i<own.length
  .rw[ib (by simpa using hi),cq]at h2
   cases e:own[i]? with
   |none=>rw[e]at h2;cases h2
   |some z=>rw[e]at h2;cases h2
  .rw[fu (by simpa using hi),cq,aw]at h2
   rw[fu (by omega),cq]at hN;cases e:cap[i-own.length]? with
   |none=>rw[e]at h2;cases h2
   |some p=>
    rw[e]at h2 hN;have hp:p∈cap:=fy e;have hx:p.2=x:=ck hN;have hv:(σ[p.1]?).join=some v:=ck h2;have hv':σ[p.1]?=some (some v):=by
     cases e2:σ[p.1]? with
     |none=>rw[e2]at hv;cases hv
     |some z=>rw[e2]at hv;exact congrArg some hv
    have fr:=k.cap p hp;have nc:(p.2,ir)∉sc.names:=λz=>by
     have:=k.cells _ z rfl;rw[fr]at this;cases this
    have kc:X.env.kindOf p.2=some .cell:=k.free (p.2,.free) (ko fr) rfl;obtain⟨m0,_,hl⟩:=I.loc;obtain⟨u,ru,lk⟩:=hl p.1 p.2 v (k.at' p hp) hv' (.inr (.inl kc));refine⟨u,ru,?_⟩;rcases lk with⟨k1,_⟩|⟨_,c,ec,cell⟩
    .rw[kc]at k1
     cases k1
    .rw[<-hx]
     obtain⟨c',ec'⟩:=qV (env:=X.env) sc.names [] p.2 (.inr (ko fr));have:=(hcl _ _ ec').symm.trans ec;cases this;obtain⟨o,ho,hd⟩:=cell;exact .inr ⟨.inl (sS I.ok.kind fr kc),c,(xF sc.names _ _ p.2 nc).trans ec',o,kp c o ho,hd⟩
 .show ∃v,h4.IsCell c v
  rw[e4];refine Yc sc.names _ (gI X.env sc.names []) (λy c e=>?_) x c (by rw[iz];exact e);obtain⟨v,z⟩:=I.cell y c (hcl y c e);exact⟨v,z.keeps λb o e=>av _ e⟩
 .rcases hfr x c e with z |z
  .exact I.hok.fresh (vo z)
  .exact I.freeC x c z
 .unfold iS
  show _=(bW own cap).length;unfold bW;rw[cx,cx,aw,aw,aw]
theorem aG.uncmpC{H3 H':Hp}{N:List Str}{σ':St}{C:Addr}{fp:List Addr}{pl:List (Addr×Obj)}(I:aG X FX σ H s)(hf:∀b∈fp,eY X FX H b)(u:Un (eG X.stack) fp H H3 s.heap s3.heap)(os:s3.os=s.os)
  (J:aG (jA X sc N C s3 H3 fp) pl σ' H' s'):aG X FX σ H' s':=by
 have os':=(show s'.os=s3.os from J.os).trans os;refine I.call'  os' (u.trans J.base) J.hok J.bare λb hb=>?_;obtain⟨_,f1,_,f3,f4,f5⟩:=hf b hb;exact⟨f3,f1,f4,f5⟩
theorem Hy{use:Option (Value->gq Unit)}{Qf:Value->aa->Prop}(k:nZ X sc own cap)(hi:PI X target iter wi)(hc:X.calm=true)
  (hg:∀C FY FZ ex,PG (jA X sc (bW own cap) C FY FZ ex) target g)(he:∀C FY FZ ex,PE (jA X sc (bW own cap) C FY FZ ex) elt te)(I:aG X FX σ H s)(h:uI own cap wi g te σ H Q)
  (fin:∀D C s' H' m,aG X FX σ H' s'->eY X FX H' C->s'.heap.Ns C m->Q (.ref D) H'->compPost (model X.prog X.w) X.A X.xe use Qf (.ref D) C (.ok .next) s')
  (hs:∀x,foldedSetIterable iter X.env x=pure x):
  wpAny (model X.prog X.w) X.A (comprehension (.ListComp elt [⟨target,iter,[],0⟩] sc pos) sc X.env pos' (newList []) false (eval iter X.env) use) Qf X.xe s:=by
 refine g7 (use:=use) rfl hs (Lc (k.has I.ok)) k.kind k.names ?_;refine bC (hi FX s σ H _ I h) λv s1 h1=>bC h1 λitv s2 h2=>?_;obtain⟨it,fp,tn,J,H2,e,I2,T,st2,f2,hW⟩:=h2;subst e;refine io (Tw ?_);have I3:aG X FX σ (aS H2 s2.heap.objs.size (.lst [])) {s2 with heap:=s2.heap.push {cls:=.type "list",data:=.seq ([]:FN).toArray},toks:=s2.toks}:=I2.lnew (ys:=[]) (its:=[]) .nil (du _);have hD:H2 s2.heap.objs.size=none:=I2.fresh;have ltf:∀b∈fp,b<s2.heap.objs.size:=λb hb=>by
  obtain⟨o,ho,_⟩:=T.obj _ _ st2 b hb;exact bh ho
 have f3:∀b∈fp,eY X FX (aS H2 s2.heap.objs.size (.lst [])) b:=λb hb=>⟨by rw[bO (df (ltf b hb))];exact(f2 b hb).1,(f2 b hb).2⟩;have un:Un (eG X.stack) fp H2 (aS H2 s2.heap.objs.size (.lst [])) s2.heap (s2.heap.push {cls:=.type "list",data:=.seq ([]:FN).toArray}):=Un.laid (λb u q=>av _ q) (aq _) hD;have kp:∀b o,(s2.heap.push {cls:=.type "list",data:=.seq ([]:FN).toArray}).get? b=some o->(pushCells ((s2.heap.push {cls:=.type "list",data:=.seq ([]:FN).toArray}).push {cls:=.type "dict",data:=.dict #[]}) sc.names).get? b=some o:=λb o q=>o4 _ _ b o (av _ q);have J0:=I3.cmpC (t':=s2.toks) k f3 (λb hb=>fg (ltf b hb) (by rw[iz];exact qj _)) rfl;have stat:∀{H':Hp},(∀b∈fp,H' b=none)->∀b∈fp,eY _ [] H' b:=λhn b hb=>
  ⟨hn b hb,(J0.ok.exf b hb).1,J0.ok.exfs b hb,.inl hb,(J0.ok.exf b hb).2,λp hp=>absurd (show p∈([]:List (Addr×Obj)) from hp) (by simp)⟩
 have st4:=T.keep _ _ _ st2 λb hb o q=>kp b o (av _ q);have fr0:∀b∈fp,(aS H2 s2.heap.objs.size (.lst [])) b=none:=λb hb=>(f3 b hb).1;have loop:codeAny (model X.prog X.w) X.A (.compLoop (.ListComp elt [⟨target,iter,[],0⟩] sc pos) 0 (.ref it) (.ref s2.heap.objs.size) (compEnvC sc (cellsFrom ((s2.heap.push {cls:=.type "list",data:=.seq ([]:FN).toArray}).objs.size+1) sc.names (gI X.env sc.names [])) (s2.heap.push {cls:=.type "list",data:=.seq ([]:FN).toArray}).objs.size X.env))
   (compPost (model X.prog X.w) X.A X.xe use Qf (.ref s2.heap.objs.size) (s2.heap.push {cls:=.type "list",data:=.seq ([]:FN).toArray}).objs.size) {s2 with heap:=(pushCells ((s2.heap.push {cls:=.type "list",data:=.seq ([]:FN).toArray}).push {cls:=.type "dict",data:=.dict #[]}) sc.names),toks:=s2.toks}:=by
  obtain⟨W,⟨m0,w0⟩,turn⟩:=hW s2.heap.objs.size hD;refine Uj (λn s'=>∃i σ' H' ys,aG (jA X sc (bW own cap) (s2.heap.push {cls:=.type "list",data:=.seq ([]:FN).toArray}).objs.size {s2 with heap:=s2.heap.push {cls:=.type "list",data:=.seq ([]:FN).toArray},toks:=s2.toks} (aS H2 s2.heap.objs.size (.lst [])) fp) [] σ' H' s'/\tn i s'.heap/\(∀b∈fp,H' b=none)/\W i n σ' H' ys) ?_ m0
   ⟨0,_,_,[],J0,st4,fr0,w0⟩
  rintro n s5 ⟨i,σ5,H5,ys,I5,st5,fr5,w5⟩
  obtain⟨hD5,w5⟩:=turn i n σ5 H5 ys w5;rcases w5 with⟨stop,qn⟩|⟨go,hlt,step⟩
  .refine bC (T.done (jA X sc (bW own cap) (s2.heap.push {cls:=.type "list",data:=.seq ([]:FN).toArray}).objs.size {s2 with heap:=s2.heap.push {cls:=.type "list",data:=.seq ([]:FN).toArray},toks:=s2.toks} (aS H2 s2.heap.objs.size (.lst [])) fp) rfl rfl rfl hc i [] s5 σ5 H5 _ I5 (stat fr5) st5 stop) ?_
   rintro r s6 ⟨hr,I6⟩
   subst hr;obtain⟨m,hn,_⟩:=id I6.loc;exact fin _ _ s6 H5 m (I2.uncmpC (s3:={s2 with heap:=s2.heap.push {cls:=.type "list",data:=.seq ([]:FN).toArray},toks:=s2.toks}) f2 un rfl I6) (I3.fpOk (aq _) I6.free) hn qn
  .refine bC (T.item (jA X sc (bW own cap) (s2.heap.push {cls:=.type "list",data:=.seq ([]:FN).toArray}).objs.size {s2 with heap:=s2.heap.push {cls:=.type "list",data:=.seq ([]:FN).toArray},toks:=s2.toks} (aS H2 s2.heap.objs.size (.lst [])) fp) rfl rfl rfl hc i [] s5 σ5 H5 _ I5 (stat fr5) st5 go) ?_
   rintro r s6 ⟨u,hr,h6⟩
   subst hr;refine bC h6 ?_
   rintro _ s7 ⟨x,H7,I7,r7,y7,st7,fr7⟩
   have I7':=I7.pinned (stat fr7) (T.obj _ _ st7);refine bC (hg _ _ _ _ _ s7 σ5 H7 x u _ I7' r7 (step x H7 y7)) ?_
   rintro _ s8 ⟨σ8,H8,I8,q8⟩
   refine bC (he _ _ _ _ _ s8 σ8 H8 _ I8 q8) ?_
   rintro v9 s9 ⟨y,H9,I9,r9,hD9,m',hm,w9⟩
   refine bC (sX _ s9 σ8 H9 (.ref s2.heap.objs.size) [y] (.ref s2.heap.objs.size) [v9] (λ_ H'=>H'=aS H9 s2.heap.objs.size (.lst (ys++[y]))) I9 rfl (.cons r9 .nil) ⟨_,ys,y,rfl,rfl,hD9,hlt,rfl⟩) ?_
   rintro _ s10 ⟨_,H10,I10,_,q10⟩
   subst q10;refine⟨m',hm,i+1,σ8,_,_,I10.unpinned,T.keep _ _ _ st7 λb hb o q=>(I10.pin (b,o) (dz _ (dz _ (lY hb q)))).1,λb hb=>?_,w9⟩;obtain⟨o,q,d⟩:=T.obj _ _ st7 b hb;exact(I10.pin (b,o) (dz _ (dz _ (lY hb q)))).2.1
 exact g8 loop (T.self _ 0 _ _ _ st4 loop)
theorem G4(k:nZ X sc own cap)(hi:PI X target iter wi)(hc:X.calm=true)
  (hg:∀C FY FZ ex,PG (jA X sc (bW own cap) C FY FZ ex) target g)(he:∀C FY FZ ex,PE (jA X sc (bW own cap) C FY FZ ex) elt te)
  (hs:∀x,foldedSetIterable iter X.env x=pure x:=by intro _;rfl):PE X (.ListComp elt [⟨target,iter,[],0⟩] sc pos) (uI own cap wi g te):=by
 intro FX s σ H Q I h;refine Hy  k hi hc hg he I h (λD C s' H' m I' fC hn q=>?_) hs;refine⟨m,hn,λh' sb=>⟨.ref D,H',?_,rfl,q⟩⟩;obtain⟨f0,f1,f2,f3,f4,f5⟩:=fC;exact I'.turned  (λb o hb e=>(sb.2 b hb).trans e) f0 f1 f3 f4 f5
theorem aam(so:Scope)(N:List Str)(hso:X.env.scope=so)(hN:X.N=N)(kind:sc.kind=.function)(names:∀y∈sc.names,y.2=.local->sc.names.lookup y.1=some .local)
  (cells:∀y∈sc.names,y.2=.cell->sc.names.lookup y.1=some .cell)(free:∀y∈sc.names,y.2=.free->so.names.lookup y.1=some .cell)(at':∀p∈cap,N[p.1]?=some p.2)(hcap:∀p∈cap,sc.names.lookup p.2=some .free):nZ X sc own cap:=
 ⟨kind,names,cells,λy hy e=>by show X.env.scope.names.lookup _=_;rw[hso];exact free y hy e,λp hp=>by rw[hN];exact at' p hp,hcap⟩
theorem U5{sc1 sc:Scope}{own1 own:List Str}{cap1 cap:List (Nat×Str)}{C:Addr}{FY:aa}{FZ:Hp}{ex:List Addr}(so:Scope)(hso:X.env.scope=so)(hk:so.kind=.function)(kind:sc.kind=.function)(names:∀y∈sc.names,y.2=.local->sc.names.lookup y.1=some .local)
  (nocell:∀y∈sc.names,y.2≠.cell)(free:∀y∈sc.names,y.2=.free->sc1.names.lookup y.1=some .cell\/(sc1.names.lookup y.1=some .free/\so.names.lookup y.1=some .cell))(at':∀p∈cap,(bW own1 cap1)[p.1]?=some p.2)(hcap:∀p∈cap,sc.names.lookup p.2=some .free):
  gY (jA X sc1 (bW own1 cap1) C FY FZ ex) sc own cap:=
 ⟨kind,names,nocell,λy hy e=>by
  rcases free y hy e with f |⟨f1,f2⟩
  .exact Zi  f
  .exact sS  (by rw[hso];exact hk) f1 (by show X.env.scope.names.lookup _=_;rw[hso];exact f2),at',hcap⟩
end
end L2
namespace L2.Pp
open PySem PySem.Spec PyProof.Rows Bn
section
variable{K:ah}{cl:Str->Addr}{E:XK}{X:Cx}{p:Ph}{H H':Hp}{S:aI}
variable{sc:Scope}{own:List Str}{cap:List (Nat×Str)}{elt target iter:ai}{pos:ak}{mi:MI}{g:GM}{me:ME}
theorem E4(k:nZ X sc own cap)(hi:PIp K cl E X target iter mi)(hc:X.calm=true)(hg:∀C FY FZ ex,lQ K (jA X sc (bW own cap) C FY FZ ex) target g)(he:∀C FY FZ ex,aT K cl E0 (jA X sc (bW own cap) C FY FZ ex) elt me)
  (hs:∀x,foldedSetIterable iter X.env x=pure x:=by intro _;rfl):aT K cl E X (.ListComp elt [⟨target,iter,[],0⟩] sc pos) (bH own cap mi g me):=by
 intro hK;refine PE.imp (G4 k (hi hK) hc (λC FY FZ ex=>hg C _ _ _ hK) (λC FY FZ ex=>he C _ _ _ hK) hs) ?_
 rintro σ H Q ⟨p,S,ρ,s,ev,h⟩
 exact bT s ev h λq H' xs J S' bR sm ev it kk D hD=>Qa sm ev it kk hD
end
noncomputable def Pl(S:aI):Prop:=∀(j:Nat)(o:SO),S[j]?=some o->∃xs,o=.lst xs
section
variable{K:ah}{a e:ai}{m:ME}{ms:MA}{p q:Ph}{H:Hp}{S:aI}
theorem aW.pushO(s:aW K p S H){D:Addr}{o:SO}{ho:HO}(h:H D=none)(mo:Mb ho)(ob:sC K ⟨p.f++[D],λa=>p.w a\/a=D,λa=>p.c a\/a=D⟩ (aS H D ho) D o):
  let q:Ph:=⟨p.f++[D],λa=>p.w a\/a=D,λa=>p.c a\/a=D⟩
  bF p H q (aS H D ho)/\aW K q (S++[o]) (aS H D ho):=by
 intro q;obtain⟨st0,sm0⟩:=s.res (D:=D) (o:=ho) h mo;have nf0:D∉p.f:=λz=>s.notin h (s.wc D (s.sub D z));refine⟨⟨st0.wc,st0.mu,⟨[D],rfl⟩,st0.mw,st0.mono,λa x n=>?_,st0.nw,st0.nc,st0.keep⟩,?_,by simp[q,s.len],λa x=>?_,sm0.wc,sm0.mu,λk a u e1 e2=>?_⟩
 .rcases dk.mp x with z |z
  .exact absurd z n
  .have:a=D:=by simpa using z
   rw[this];exact h
 .rw[qs];refine⟨s.nd,by simp,λa ha b hb z=>?_⟩;have:b=D:=by simpa using hb
  exact nf0 (this▸z▸ha)
 .rcases dk.mp x with z |z
  .exact .inl (s.sub a z)
  .exact .inr (by simpa using z)
 .by_cases hk:k<S.length
  .have e1':p.f[k]?=some a:=by
    rwa[ib (by rw[s.len];exact hk)]at e1
   rw[ib hk]at e2;refine(s.obj k a u e1' e2).mono (λvs e=>by rw[bO (gB e h)];exact e) (λb w f=>⟨⟨.inl w,λm=>?_⟩,λvs e=>by rw[bO (gB e h)];exact e⟩) λ_ _ r=>st0.reps r;rcases dk.mp m with z |z
   .exact f z
   .have:b=D:=by simpa using z
    exact s.notin h (this▸s.wc b w)
  .have hk':k=S.length:=by
    have:=(da.mp e2).1;simp at this;omega
   subst hk';rw[fu (aq _),ji]at e2;rw[<-s.len,fu (aq _),ji]at e1;cases e1;cases e2;exact ob
noncomputable def Qu(k:Nat)(ys:FW)(S:aI):bI AV:=match(iE S ys).bind oB,S[k]? with
 |some (.lst vs),some (.lol xss)=>if xss.length<16777216 then .ok (.pv .non) (S.set k (.lol (xss++[vs])))else .fail
 |_,_=>.fail
noncomputable def Os(m:ME)(ms:MA):ME:=λρ S=>(m ρ S).bind λk S1=>fH k S1 λk=>(ms ρ S1).bind λys S2=>Qu k ys S2
end
noncomputable def yA(v:AV)(S:aI):bI Bool:=match rd S v with
 |some (.lst xs)=>.ok (!xs.isEmpty) S
 |some (.tup xs)=>.ok (!xs.isEmpty) S
 |some (.int i)=>.ok (i !=0) S
 |some (.bl b)=>.ok b S
 |_=>.fail
noncomputable def uR(m:ME):MT:=λρ S=>(m ρ S).bind yA
theorem Ij{K:ah}{c:Addr->Prop}{H:Hp}{xs:FS}{vs:List V}(r:aM K c H xs vs):vs.isEmpty=xs.isEmpty:=by
 have:=r.length;cases xs<;>cases vs<;>simp_all
theorem X7{K:ah}{cl:Str->Addr}{E:XK}{X:Cx}{a:ai}{ma:ME}(ha:aT K cl E X a ma)(he:∀whole,isTrue a X.env whole=(do let v <-whole;standAt a.pos;holding [v] (truthy v)):=by intro _;rfl):eS K cl E X a (uR ma):=by
 intro hK;subst hK;refine(S5 (ha rfl) he).imp ?_
 rintro σ H Q ⟨p,S,ρ,s,e,h⟩
 refine bT s e h λq H1 a x S1 st s1 e1 r1 h1=>?_;unfold yA at h1;cases z:rd _ a with
 |none=>rw[z]at h1;exact h1.elim
 |some v=>
  rw[z]at h1;have rr:=pL s1 r1 z;cases v with
  |lst xs=>
   obtain⟨b,vs,rfl,l,_,r⟩:=rr.lst;exact⟨_,.inl ⟨vs,l,by rw[Ij r]⟩,bU.ret  h1 s1 rfl⟩
  |tup xs=>
   obtain⟨b,vs,rfl,l,_,r⟩:=rr.tup;exact⟨_,.inr (.inl ⟨vs,l,by rw[Ij r]⟩),bU.ret  h1 s1 rfl⟩
  |int i=>
   cases rr.int;exact⟨_,rfl,bU.ret  h1 s1 rfl⟩
  |bl i=>
   cases rr.bl;exact⟨_,rfl,bU.ret  h1 s1 rfl⟩
  |_=>exact h1.elim
noncomputable def vG(P:Program)(w:ar)(K:ah)(mg:Str->FO)(base:Heap)(cl:Str->Addr)(x:Str)(k:Nat)(ps:List Str)(g:FM):Prop:=∃(a:Addr)(d:de),dC P w K mg base dR k a d ps (jP K cl g)/\gG K d ps []/\ft K (.ref a)=true/\mg x=some (.ref a)
section
variable{cl:Str->Addr}{E:XK}{X:Cx}{e:ai}{es:List ai}{ms:MA}{pos p:ak}{k k0:Nat}{ps:List Str}{g:FM}{x:Str}
theorem adD(C:vG X.prog X.w X.K X.mg X.base cl x k ps g)(hr:cP k0 X.A)(hk:k<=k0)(hg:Gl X x)(ha:dS X.K cl E X (e::es) ms)(hdb:(x==("__debug__":Str))=false:=by decide)(he:starEach (e::es) X.env=(false,eval e X.env)::starEach es X.env:=by rfl)(hpl:(backTo pos (starEach es X.env)).any (·.1)=false:=by rfl):
  aT X.K cl E X (.Call (.Name x p) (e::es) [] pos) (bA g [] ms):=by
 obtain⟨a,d,G,b,kk,n⟩:=C;exact R0 G (hr.mono hk) hg n kk b .nil Dv.nil ha hdb he hpl
theorem adS(C:vG X.prog X.w X.K X.mg X.base cl x k ps g)(hr:cP k0 X.A)(hk:k<=k0)(hg:Gl X x)(ha:dS X.K cl E X (e::es) ms)(hdb:(x==("__debug__":Str))=false:=by decide)(he:starEach (e::es) X.env=(false,eval e X.env)::starEach es X.env:=by rfl)(hpl:(backTo pos (starEach es X.env)).any (·.1)=false:=by rfl):
  aT X.K cl E X (.Call (.Name x p) (e::es) [] pos) (tY g [] ms):=by
 obtain⟨a,d,G,b,kk,n⟩:=C;exact E2 G (hr.mono hk) hg n kk b .nil Dv.nil ha hdb he hpl
end
theorem Qy(l:Addr)(its:Array Value)(n:Nat)(b:Addr)(jts:Array Value)(k:Nat)(dd:FQ)(sl:Array FO)(h0:¬(!its.isEmpty&&wo (its.size+jts.size))=true)(h1:its.size<=sizeLine)(h2:its.size+jts.size<=sizeLine+1):
  Meets (Builtin.«list.__iadd__» ⟨[.ref l,.ref b],[]⟩) (λ_ R s=>s.heap.get? l=some ⟨.type "list",none,.seq its n,#[]⟩/\s.heap.get? b=some ⟨.type "list",dd,.seq jts k,sl⟩/\R (.ok (.ret (cw l))) {s with heap:=s.heap.update l (fz λx=>x++jts),toks:=s.toks}):=
 .of_wp λprog w A R s h=>by
  obtain⟨hp,g,d,tk,os⟩:=s;obtain⟨hl,hb,h⟩:=h;have f1:=PySem.AutoSeq1.idx_int;have f2:=AS;have f3:=PySem.AutoSeq1.sub_list_list;have f4:=PySem.AutoSeq1.sub_tuple_list;have f5:=PySem.AutoSeq1.sub_list_tuple;have hz':(its++jts).size<=sizeLine+1:=by
   rw[Array.size_append];exact h2
  wp_walk using(ya hl rfl (hz:=h1) (_hz':=hz')),wg hl,wg hb
  exact⟨_,rfl,h⟩
section
variable{X:Cx}
noncomputable def adB(K:ah):uX:=λx y H Q=>∃l b xs zs,x=.ref l/\y=.ref b/\H l=some (.lst xs)/\bS K H b zs/\xs.length+zs.length<=sizeLine/\Q (.ref l) (aS H l (.lst (xs++zs)))
theorem abY:L2.PIp X .Add (adB X.K):=by
 intro FX s σ H x y v u Q I rx ry h;obtain⟨l,b,xs,zs,rfl,rfl,hx,hy,hz,q⟩:=h;cases rx;cases ry;obtain⟨z,its,n,r1,hl,e⟩:=I.lstM hx;obtain⟨jts,r2,p2,_⟩:=I.list hy;obtain⟨⟨cls2,dd2,data2,sl2⟩,n2,ho2,hc2,_,hd2⟩:=p2;simp only at hc2 hd2;subst hc2 hd2;have l1:=r1.length;have l2:=r2.length;have hsz:its.toArray.size+jts.toArray.size<=sizeLine:=by rw[ay,ay];omega
 have hlong:¬(!its.toArray.isEmpty&&wo (its.toArray.size+jts.toArray.size))=true:=by
  rw[P4 hsz,yb];exact jf
 have ta:s.TypeIs (.ref l) "list":=⟨_,e,rfl⟩;have tb:s.TypeIs (.ref b) "list":=⟨_,ho2,rfl⟩;have hf:=DC.lookup;have hq:isSeqSlot (some (.builtin "list.__iadd__"))=true:=by decide+kernel
 have hfi:fillsInplaceSlot (.type "list") "add" (Operator.Add== .Add)=pure false:=by
  unfold fillsInplaceSlot;show(typeLookup (.type "list") (dunderI "add") >>= λfi=>pure (fi.isSome&& !isSeqSlot fi))=pure false;rw[hf,pure_bind,hq];rfl
 have hsi:seqSlot? (.type "list") (dunderI "add")=pure (some (.builtin "list.__iadd__")):=PySem.seqSlot_of hf hq;unfold inplaceOp;refine ix ?_;refine ae (wm ta (ae (qp hfi ?_)));show wpAny _ _ (if false=true then _ else _) _ _ s;rw[if_neg jf];refine ae (wpAny_binaryOp1_none (nm:="add") ta tb noFill_list_add ?_);refine ae (qp hsi ?_);refine ae (ka ?_);refine wq DC ⟨_,e,rfl⟩ DD (PySem.F.args_list_iadd_2 _ _) (Qy l its.toArray n b jts.toArray n2 dd2 sl2 hlong (by rw[ay];omega) (by omega)) ⟨e,ho2,?_⟩;refine⟨.ref l,_,I.lset (its':=its++jts) hx e (by simp) (r1.append r2) ?_,rfl,q⟩;rw[cx];omega
end
section
variable{K:ah}{cl:Str->Addr}{E:XK}{X:Cx}{e:ai}{m:ME}{pos:ak}
noncomputable def yH(k:Nat)(ρ:bM)(v:AV)(S:aI):cA:=match v with
 |.pv (.lst ys)=>match S[k]? with
  |some (.lst xs)=>if xs.length+ys.length<=16777216 then .nx ρ (S.set k (.lst (xs++ys)))else .fail
  |_=>.fail
 |_=>.fail
noncomputable def kR(i:Nat)(m:ME):MS:=λρ S=>match ρ[i]? with
 |some (some (.ref k))=>cA.of (m ρ S) (yH k ρ)
 |_=>.fail
theorem Q2{i:Nat}{x:Str}{pos':ak}(hN:X.N.Nodup)(hi:X.N[i]?=some x)(hx:kX X.env.scope x)(he:aT K cl E X e m)
  (hf:X.fn x=true\/X.env.scope.names.lookup x=some .local:=by first |exact .inl rfl |exact .inr rfl |assumption):dY K cl E X (.AugAssign (.Name x pos') .Add e pos) (kR i m):=by
 intro hK;subst hK;refine PS.imp (Ir hN hi hx (he rfl) abY hf) ?_
 rintro D σ H ⟨p,S,ρ,s,ev,h⟩
 unfold kR at h;split at h
 .rename_i k hx0
  obtain⟨v,e1,r1⟩:=ev.at_ i _ hx0;refine⟨v,e1,kL s ev h λq H' a b S' bR sm ev' r z=>?_⟩;obtain⟨D0,ea,rfl⟩:=bR.repA r1;unfold yH at z;split at z
  .rename_i ys
   obtain⟨b0,ws,rfl,sq,lw,rw0⟩:=(show dQ X.K q H' (.lst ys) b from .inl r).lst;split at z
   .rename_i xs hS
    split at z
    .rename_i hl
     obtain⟨vs,h3,l3,r4⟩:=sm.obj k D0 _ ea hS;have hz:=iP;have n1:=r4.length;have n2:=rw0.length;obtain⟨st3,fA⟩:=sm.write ea (da.mp hS).1 (ps:=xs++ys) (vs:=vs++ws) (by rw[cx];omega) (r4.append rw0);refine⟨D0,b0,vs,ws,rfl,rfl,h3,sq,by omega,?_⟩;have es:σ.set i (some (.ref D0))=σ:=by
      refine mf λj=>?_
      by_cases hj:i=j
      .subst hj
       rw[jq (da.mp e1).1,e1]
      .rw[jy hj]
     show D.nx (σ.set i (some (.ref D0))) _;rw[es];exact dD.nxD (z.mono st3) fA (st3.repE ev')
    .exact z.elim
   .exact z.elim
  .exact z.elim
 .exact h.elim
end
section
theorem intsAre:∀{is:FI}{its:FN},bB (is.map V.int) its->jv its is
 |[],_,.nil=>.nil
 |_::_,_,.cons r t=>by
  obtain⟨tk,rfl⟩:=r;exact .cons _ _ (intsAre t)
end
section
variable{K:ah}{cl:Str->Addr}{E:XK}{X:Cx}
noncomputable def mM(K:ah)(mg:Str->FO)(x:Str)(pv:PV):Prop:=∃(u:Value)(v:V),mg x=some u/\bK v u/\∀c H,aL K c H pv v
theorem Co{pv:PV}{pos:ak}(hg:Gl X x)(hm:mM K X.mg x pv)(hd:(x==("__debug__":Str))=false:=by decide):aT K cl E X (.Name x pos) (mC pv):=λ_=>by
 obtain⟨u,v,hm,r,hr⟩:=hm;exact(aaP hg hm r hd).imp λσ H Q ⟨p,S,ρ,s,e,h⟩=>bU.ret   h s (hr _ H)
theorem iR:∀c H,aM K c H [] []:=λc H=>rfl
theorem bZ{v:V}{vs:List V}(h:∀c H,aL K c H p v)(t:∀c H,aM K c H ps vs):∀c H,aM K c H (p::ps) (v::vs):=λc H=>⟨v,vs,rfl,h c H,t c H⟩
theorem cT:∀c H,aL K c H (.int i) (.int i):=λc H=>rfl
theorem iQ{sl:Array FO}{xs:FS}{vs:List V}(l:K.lookup a=some ⟨.type "tuple",none,.seq its n,sl⟩)(hs:its.size<=sizeLine)(hv:bB vs its.toList)(hl:vs.length<=sizeLine)(t:∀c H,aM K c H xs vs):∀c H,aL K c H (.tup xs) (.ref a):=λc H=>⟨a,vs,rfl,.inr ⟨_,its,n,l,⟨rfl,rfl⟩,rfl,hs,hv⟩,hl,t c H⟩
theorem Gz(hc:X.calm=true):jC X (.builtin "max") (λxs H Q=>∃(a:Addr)(is:FI),xs=[.ref a]/\bS X.K H a (is.map V.int)/\is≠[]/\∀M,M∈is->(∀b∈is,b<=M)->Q (.int M) H):=by
 intro FX s σ H xs us Q I r h;obtain⟨a,is,rfl,hq,hne,q⟩:=h;obtain⟨u,rfl,ru⟩:=jY r;cases ru;obtain⟨its,rv,pl,hz⟩:=I.list hq;have hi:=intsAre rv;have hl:=pl.isList;obtain⟨xs,e⟩:=hi.allInts.items;have hns:is=xs.toList.map (·.1):=by rw[<-hi.numsOf,<-nums_intItems,<-e]
 have hsz:=by
  have h3:=List.length_pos_iff.mpr hne;rw[hns,aw,jz]at h3;exact h3
 rw[e]at hl;refine max_intList (I.ok.hd hc) hl hsz λv h' tk hv hk=>?_;obtain⟨t,rfl⟩:=o5 hv;obtain⟨h1,h2⟩:=argBest_gt (numAt xs) (xs.size-1);refine⟨.int _,H,I.kept   hk,⟨t,rfl⟩,q _ ?_ λa ha=>?_⟩
 .rw[hns,yc]
  exact getD_mem (by rw[aw,jz];omega)
 .rw[hns]at ha
  obtain⟨j,hj,rfl⟩:=mem_getD ha;rw[aw,jz]at hj;rw[<-yc];exact h2 j (by omega)
noncomputable def lM:FS->FT
 |[.lst xs]=>(fV xs).bind λbs=>bs.max?.map .int
 |_=>none
theorem ads:jV K (λxs H Q=>∃(a:Addr)(is:FI),xs=[.ref a]/\bS K H a (is.map V.int)/\is≠[]/\∀M,M∈is->(∀b∈is,b<=M)->Q (.int M) H) lM:=λ{p S H as c xs Q} s ra e k=>by
 unfold lM at e;split at e
 .rename_i zs
  cases y:fV zs with
  |none=>simp_all
  |some bs=>
   rw[y]at e;cases ra with
   |cons h t=>
    cases t;obtain⟨a,vs,rfl,l,z,r⟩:=h.lst;rw[pD y r]at l;have e:bs.max?.map _=some c:=e;cases y2:bs.max? with
    |none=>simp_all
    |some m=>
     rw[y2]at e;cases e;refine⟨a,bs,rfl,l,λz=>?_,λM hM hle=>?_⟩
     .simp_all
     .have e2:=DE.mpr ⟨hM,hle⟩
      rw[y2]at e2;cases e2;exact k H _ (cN.refl H) (lA  rfl)
 .cases e
end
end L2.Pp
namespace L2
open PySem PySem.Spec PyProof.Rows Bn
noncomputable def xV(J:It)(g:TG)(tc:TT)(te:TE)(GB:St)(H1:Hp)(D:Addr)(Q:VK):Prop:=
 ∃W:Nat->Nat->St->Hp->List V->Prop,(∃m,W 0 m GB (aS H1 D (.lst [])) [])/\∀i m σ H ys,W i m σ H ys->H D=some (.lst ys)/\
  ((J.stop i H/\Q (.ref D) H)\/(J.go i H/\ys.length<sizeLine/\∀x H2,J.yld i H x H2->g x σ H2 λσ3 H3=>tc σ3 H3 λb HA=>if b=true then te σ3 HA λy H4=>H4 D=some (.lst ys)/\∃m',m'<m/\W (i+1) m' σ3 (aS H4 D (.lst (ys++[y]))) (ys++[y])else ∃m',m'<m/\W (i+1) m' σ3 HA ys))
noncomputable def Vr(own:List Str)(cap:List (Nat×Str))(wi:TI)(g:TG)(tc:TT)(te:TE):TE:=λσ H Q=>wi σ H λJ H1=>∀D,H1 D=none->xV J g tc te (iS own cap σ) H1 D Q
section
variable{prog:Program}{w:ar}{A:ax}{R:nj->aa->Prop}{s:aa}
theorem By{elt target iter cnd:ai}{sc:Scope}{pos:ak}{it acc:Value}{env:ca}(I:Nat->aa->Prop)
  (turn:∀n s,I n s->wpAny (model prog w) A (pyNext it) (λr s1=>match r with
   |none=>R (.ok .next) s1
   |some v=>wpAny (model prog w) A (letOwnedTupleGo target it v) (λ_ s2=>wpAny (model prog w) A (assign target env v) (λ_ s3=>wpAny (model prog w) A (isTrue cnd env (eval cnd env)) (λb sA=>if b=true then wpAny (model prog w) A (eval elt env)
     (λx s4=>wpAny (model prog w) A (call (.builtin "list.append") [acc,x]) (λ_ s5=>∃m,m<n/\I m s5) (λ_ _=>False) s4) (λ_ _=>False) sA else ∃m,m<n/\I m sA) (λ_ _=>False) s3) (λ_ _=>False) s2) (λ_ _=>False) s1) (λ_ _=>False) s)
  (n:Nat)(h:I n s):codeAny (model prog w) A (.compLoop (.ListComp elt [⟨target,iter,[cnd],0⟩] sc pos) 0 it acc env) R s:=by
 refine codeAny_loop rfl I (λn s hI=>?_) n h;refine wpAny_noted ?_;rw[compTurn_list];refine ae (ua (ae ?_));refine im (turn n s hI) (λr s1 h1=>?_) λ_ _ z=>z.elim;cases r with
 |none=>exact aj h1
 |some v=>
  refine ae (im h1 (λ_ s2 h2=>?_) λ_ _ z=>z.elim);refine ae (im h2 (λ_ s3 h3=>?_) λ_ _ z=>z.elim);refine ae (wpAny_tests_one (im h3 (λok sA hA=>?_) λ_ _ z=>z.elim));cases ok with
  |true=>
   refine ae (ae (im hA (λx s4 h4=>?_) λ_ _ z=>z.elim));refine ae (im h4 (λ_ s5 h5=>?_) λ_ _ z=>z.elim);exact aj (aj ⟨rfl,h5⟩)
  |false=>
   exact ae (aj (aj ⟨rfl,hA⟩))
end
section
variable{X:Cx}{sc:Scope}{own:List Str}{cap:List (Nat×Str)}{FX:List (Addr×Obj)}{σ:St}{H:Hp}{s:aa}{elt target iter cnd:ai}{pos pos':ak}{wi:TI}{g:TG}{tc:TT}{te:TE}{Q:VK}
theorem Qx{use:Option (Value->gq Unit)}{Qf:Value->aa->Prop}(k:gY X sc own cap)(hi:PI X target iter wi)(hc:X.calm=true)
  (hg:∀C FY FZ ex,PG (dH X sc (bW own cap) C FY FZ ex) target g)(ht:∀C FY FZ ex,PT (dH X sc (bW own cap) C FY FZ ex) cnd tc)(he:∀C FY FZ ex,PE (dH X sc (bW own cap) C FY FZ ex) elt te)(I:aG X FX σ H s)(h:Vr own cap wi g tc te σ H Q)
  (fin:∀D C s' H' m,aG X FX σ H' s'->eY X FX H' C->s'.heap.Ns C m->Q (.ref D) H'->compPost (model X.prog X.w) X.A X.xe use Qf (.ref D) C (.ok .next) s')
  (hs:∀x,foldedSetIterable iter X.env x=pure x):
  wpAny (model X.prog X.w) X.A (comprehension (.ListComp elt [⟨target,iter,[cnd],0⟩] sc pos) sc X.env pos' (newList []) false (eval iter X.env) use) Qf X.xe s:=by
 refine g7 (use:=use) rfl hs (Lc (k.has I.ok)) k.kind k.names ?_;refine bC (hi FX s σ H _ I h) λv s1 h1=>bC h1 λitv s2 h2=>?_;obtain⟨it,fp,tn,J,H2,e,I2,T,st2,f2,hW⟩:=h2;subst e;refine io (BM k.nocell (λy hy=>nomatch hy) (λh4 hns hsb=>?_) k.kind);have I3:aG X FX σ (aS H2 s2.heap.objs.size (.lst [])) {s2 with heap:=s2.heap.push {cls:=.type "list",data:=.seq ([]:FN).toArray},toks:=s2.toks}:=I2.lnew (ys:=[]) (its:=[]) .nil (du _);have hD:H2 s2.heap.objs.size=none:=I2.fresh;have ltf:∀b∈fp,b<s2.heap.objs.size:=λb hb=>by
  obtain⟨o,ho,_⟩:=T.obj _ _ st2 b hb;exact bh ho
 have f3:∀b∈fp,eY X FX (aS H2 s2.heap.objs.size (.lst [])) b:=λb hb=>⟨by rw[bO (df (ltf b hb))];exact(f2 b hb).1,(f2 b hb).2⟩;have un:Un (eG X.stack) fp H2 (aS H2 s2.heap.objs.size (.lst [])) s2.heap (s2.heap.push {cls:=.type "list",data:=.seq ([]:FN).toArray}):=Un.laid (λb u q=>av _ q) (aq _) hD;have kp:∀b o,(s2.heap.push {cls:=.type "list",data:=.seq ([]:FN).toArray}).get? b=some o->h4.get? b=some o:=λb o q=>hsb.extBut b o (df (bh q)) (av _ q);have J0:=I3.cmp (t':=s2.toks+([]:List (Str×Value)).length) k f3 (λb hb=>fg (ltf b hb) (by rw[iz];exact qj _)) hns kp;have stat:∀{H':Hp},(∀b∈fp,H' b=none)->∀b∈fp,eY (dH X sc (bW own cap) (s2.heap.push {cls:=.type "list",data:=.seq ([]:FN).toArray}).objs.size {s2 with heap:=s2.heap.push {cls:=.type "list",data:=.seq ([]:FN).toArray},toks:=s2.toks} (aS H2 s2.heap.objs.size (.lst [])) fp) [] H' b:=λhn b hb=>
  ⟨hn b hb,(J0.ok.exf b hb).1,J0.ok.exfs b hb,.inl hb,(J0.ok.exf b hb).2,λp hp=>absurd (show p∈([]:List (Addr×Obj)) from hp) (by simp)⟩
 have st4:tn 0 h4:=T.keep _ _ _ st2 λb hb o q=>kp b o (av _ q);have fr0:∀b∈fp,(aS H2 s2.heap.objs.size (.lst [])) b=none:=λb hb=>(f3 b hb).1;have loop:codeAny (model X.prog X.w) X.A (.compLoop (.ListComp elt [⟨target,iter,[cnd],0⟩] sc pos) 0 (.ref it) (.ref s2.heap.objs.size) (compEnvC sc (gI X.env sc.names []) (s2.heap.push {cls:=.type "list",data:=.seq ([]:FN).toArray}).objs.size X.env))
   (compPost (model X.prog X.w) X.A X.xe use Qf (.ref s2.heap.objs.size) (s2.heap.push {cls:=.type "list",data:=.seq ([]:FN).toArray}).objs.size) {s2 with heap:=h4,toks:=s2.toks+([]:List (Str×Value)).length}:=by
  obtain⟨W,⟨m0,w0⟩,turn⟩:=hW s2.heap.objs.size hD;refine By (λn s'=>∃i σ' H' ys,aG (dH X sc (bW own cap) (s2.heap.push {cls:=.type "list",data:=.seq ([]:FN).toArray}).objs.size {s2 with heap:=s2.heap.push {cls:=.type "list",data:=.seq ([]:FN).toArray},toks:=s2.toks} (aS H2 s2.heap.objs.size (.lst [])) fp) [] σ' H' s'/\tn i s'.heap/\(∀b∈fp,H' b=none)/\W i n σ' H' ys) ?_ m0
   ⟨0,_,_,[],J0,st4,fr0,w0⟩
  rintro n s5 ⟨i,σ5,H5,ys,I5,st5,fr5,w5⟩
  obtain⟨hD5,w5⟩:=turn i n σ5 H5 ys w5;rcases w5 with⟨stop,qn⟩|⟨go,hlt,step⟩
  .refine bC (T.done (dH X sc (bW own cap) (s2.heap.push {cls:=.type "list",data:=.seq ([]:FN).toArray}).objs.size {s2 with heap:=s2.heap.push {cls:=.type "list",data:=.seq ([]:FN).toArray},toks:=s2.toks} (aS H2 s2.heap.objs.size (.lst [])) fp) rfl rfl rfl hc i [] s5 σ5 H5 _ I5 (stat fr5) st5 stop) ?_
   rintro r s6 ⟨hr,I6⟩
   subst hr;obtain⟨m,hn,_⟩:=id I6.loc;exact fin _ _ s6 H5 m (I2.uncmp (s3:={s2 with heap:=s2.heap.push {cls:=.type "list",data:=.seq ([]:FN).toArray},toks:=s2.toks}) f2 un rfl I6) (I3.fpOk (aq _) I6.free) hn qn
  .refine bC (T.item (dH X sc (bW own cap) (s2.heap.push {cls:=.type "list",data:=.seq ([]:FN).toArray}).objs.size {s2 with heap:=s2.heap.push {cls:=.type "list",data:=.seq ([]:FN).toArray},toks:=s2.toks} (aS H2 s2.heap.objs.size (.lst [])) fp) rfl rfl rfl hc i [] s5 σ5 H5 _ I5 (stat fr5) st5 go) ?_
   rintro r s6 ⟨u,hr,h6⟩
   subst hr;refine bC h6 ?_
   rintro _ s7 ⟨x,H7,I7,r7,y7,st7,fr7⟩
   have I7':=I7.pinned (stat fr7) (T.obj _ _ st7);refine bC (hg _ _ _ _ _ s7 σ5 H7 x u _ I7' r7 (step x H7 y7)) ?_
   rintro _ s8 ⟨σ8,H8,I8,q8⟩
   refine bC (ht _ _ _ _ _ s8 σ8 H8 _ I8 q8) ?_
   rintro bb sA ⟨HA,IA,qA⟩
   cases bb with
   |true=>
    rw[if_pos rfl];rw[if_pos rfl]at qA;refine bC (he _ _ _ _ _ sA σ8 HA _ IA qA) ?_
    rintro v9 s9 ⟨y,H9,I9,r9,hD9,m',hm,w9⟩
    refine bC (sX _ s9 σ8 H9 (.ref s2.heap.objs.size) [y] (.ref s2.heap.objs.size) [v9] (λ_ H'=>H'=aS H9 s2.heap.objs.size (.lst (ys++[y]))) I9 rfl (.cons r9 .nil) ⟨_,ys,y,rfl,rfl,hD9,hlt,rfl⟩) ?_
    rintro _ s10 ⟨_,H10,I10,_,q10⟩
    subst q10;refine⟨m',hm,i+1,σ8,_,_,I10.unpinned,T.keep _ _ _ st7 λb hb o q=>(I10.pin (b,o) (dz _ (dz _ (lY hb q)))).1,λb hb=>?_,w9⟩;obtain⟨o,q,d⟩:=T.obj _ _ st7 b hb;exact(I10.pin (b,o) (dz _ (dz _ (lY hb q)))).2.1
   |false=>
    rw[if_neg jf];rw[if_neg jf]at qA;obtain⟨m',hm,w9⟩:=qA;refine⟨m',hm,i+1,σ8,_,_,IA.unpinned,T.keep _ _ _ st7 λb hb o q=>(IA.pin (b,o) (dz _ (dz _ (lY hb q)))).1,λb hb=>?_,w9⟩;obtain⟨o,q,d⟩:=T.obj _ _ st7 b hb;exact(IA.pin (b,o) (dz _ (dz _ (lY hb q)))).2.1
 exact g8 loop (T.self _ 0 _ _ _ st4 loop)
theorem Q7(k:gY X sc own cap)(hi:PI X target iter wi)(hc:X.calm=true)
  (hg:∀C FY FZ ex,PG (dH X sc (bW own cap) C FY FZ ex) target g)(ht:∀C FY FZ ex,PT (dH X sc (bW own cap) C FY FZ ex) cnd tc)(he:∀C FY FZ ex,PE (dH X sc (bW own cap) C FY FZ ex) elt te)
  (hs:∀x,foldedSetIterable iter X.env x=pure x:=by intro _;rfl):PE X (.ListComp elt [⟨target,iter,[cnd],0⟩] sc pos) (Vr own cap wi g tc te):=by
 intro FX s σ H Q I h;refine Qx  k hi hc hg ht he I h (λD C s' H' m I' fC hn q=>?_) hs;refine⟨m,hn,λh' sb=>⟨.ref D,H',?_,rfl,q⟩⟩;obtain⟨f0,f1,f2,f3,f4,f5⟩:=fC;exact I'.turned  (λb o hb e=>(sb.2 b hb).trans e) f0 f1 f3 f4 f5
end
end L2
namespace L2.Pp
open PySem PySem.Spec PyProof.Rows Bn
open Classical in
noncomputable def eK(G:Gd)(g:GM)(mc:MT)(me:ME):FS->bM->aI->bI FS
 |[],_,S=>if iO G S then .ok [] S else .fail
 |x::r,ρ,S=>if iO G S then(match g x ρ with
  |none=>.fail
  |some ρ1=>match mc ρ1 S with
   |.ok true S0=>(match me ρ1 S0 with
    |.ok (.pv y) S1=>match eK G g mc me r ρ1 S1 with
     |.ok ys S2=>.ok (y::ys) S2
     |_=>.fail
    |_=>.fail)
   |.ok false S0=>eK G g mc me r ρ1 S0
   |_=>.fail)else .fail
theorem zV:eK [] g mc me [] ρ S=.ok [] S:=by
 unfold eK;rw[if_pos (iZ S)]
theorem zT{r:FS}{ρ:bM}{S:aI}:eK [] g mc me (x::r) ρ S=(match g x ρ with
  |none=>.fail
  |some ρ1=>match mc ρ1 S with
   |.ok true S0=>(match me ρ1 S0 with
    |.ok (.pv y) S1=>match eK [] g mc me r ρ1 S1 with
     |.ok ys S2=>.ok (y::ys) S2
     |_=>.fail
    |_=>.fail)
   |.ok false S0=>eK [] g mc me r ρ1 S0
   |_=>.fail):=by
 rw[eK,if_pos (iZ S)]
noncomputable def kN(own:List Str)(cap:List (Nat×Str))(mi:MI)(g:GM)(mc:MT)(me:ME):ME:=λρ S=>(mi ρ S).bind λxs S1=>(eK xs.2 g mc me xs.1 (cD own cap ρ) S1).bind λys S2=>.ok (.pv (.lst ys)) S2
theorem Jh{mc:MT}{me:ME}:∀(xs:FS)(ρ:bM)(S:aI)(n:Str)(S':aI),eK G g mc me xs ρ S≠.exc n S'
 |[],_,_,_,_,e=>by
  unfold eK at e;grind
 |x::r,ρ,S,n,S',e=>by
  unfold eK at e;split at e
  .split at e
   .cases e
   .split at e
    .split at e
     .split at e<;>cases e
     .cases e
    .exact Jh r _ _ _ _ e
    .cases e
  .cases e
theorem Bb{xs zs:FS}{ρ:bM}{S S':aI}(e:eK G g mc me xs ρ S=.ok zs S'):iO G S:=by
 cases xs with
 |nil=>
  unfold eK at e;split at e
  .assumption
  grind
 |cons x r=>
  unfold eK at e;split at e
  .assumption
  grind
theorem G8{g:TG}{tc:TT}{te:TE}{GB:St}{H1:Hp}{D:Addr}{Q:VK}(n:Nat)(hn:n<=sizeLine)(Pv:Nat->St->Hp->List V->Prop)(h0:Pv 0 GB (aS H1 D (.lst [])) [])
  (hl:∀i σ H ys,Pv i σ H ys->ys.length<=i/\H D=some (.lst ys))(hgo:∀i σ H ys,i<n->Pv i σ H ys->J.go i H)
  (hs:∀i σ H ys x H2,i<n->Pv i σ H ys->J.yld i H x H2->g x σ H2 λσ3 H3=>tc σ3 H3 λb HA=>if b=true then te σ3 HA λy H4=>H4 D=some (.lst ys)/\∃m',m'<n-i/\(m'=n-(i+1)/\i+1<=n/\Pv (i+1) σ3 (aS H4 D (.lst (ys++[y]))) (ys++[y]))else ∃m',m'<n-i/\(m'=n-(i+1)/\i+1<=n/\Pv (i+1) σ3 HA ys))
  (hd:∀σ H ys,Pv n σ H ys->J.stop n H/\Q (.ref D) H):xV J g tc te GB H1 D Q:=by
 refine⟨λi m σ H ys=>m=n-i/\i<=n/\Pv i σ H ys,⟨n,rfl,du _,h0⟩,?_⟩
 rintro i m σ H ys ⟨rfl,hi,p⟩
 obtain⟨l1,l2⟩:=hl i σ H ys p;refine⟨l2,?_⟩
 by_cases hlt:i<n
 .exact .inr ⟨hgo i σ H ys hlt p,by omega,λx H2 y=>hs i σ H ys x H2 hlt p y⟩
 .have e:i=n:=by omega
  subst e;exact .inl (hd σ H ys p)
theorem n1{n i:Nat}{P:Prop}(h:i<n)(p:P):∃m',m'<n-i/\(m'=n-(i+1)/\i+1<=n/\P):=⟨n-(i+1),by omega,rfl,h,p⟩
section
variable{K:ah}{cl:Str->Addr}{E:XK}{X:Cx}{p q:Ph}{H H':Hp}{S:aI}{sc:Scope}{own:List Str}{cap:List (Nat×Str)}{elt target iter cnd:ai}{pos:ak}{mi:MI}{g:GM}{mc:MT}{me:ME}
theorem Ny{σ:St}{ρ:bM}{xs zs:FS}{G:Gd}{J:It}{Q:VK}{D:Addr}{S2:aI}(sm:aW K p S H)(ev:cU K p H ρ σ)(it:eQ K p H (xs,G) J)(z:eK G g mc me xs (cD own cap ρ) S=.ok zs S2)(hD:H D=none)
  (k:∀q H' vs,bF p H q H'->aW K q S2 H'->aW K (q.hold D) S2 H'->q.w D->D∉q.f->H' D=some (.lst vs)->vs.length<=sizeLine->aM K q.c H' zs vs->Q (.ref D) H'):
  xV J (gP K g) (tP K cl E0 RB mc) (tP K cl E0 (bY K) me) (iS own cap σ) H D Q:=by
 obtain⟨st0,sm0⟩:=sm.res (D:=D) (o:=.lst []) hD trivial;have sh0:=sm.resHold (D:=D) (o:=.lst []) hD trivial;have nf0:D∉p.f:=λh=>sm.notin hD (sm.wc D (sm.sub D h));refine G8 xs.length it.1 (λi σ1 H1 ys=>ys.length<=i/\i<=xs.length/\H1 D=some (.lst ys)/\∃p1 S1 ρ1 us ws,(aW K p1 S1 H1/\aW K (p1.hold D) S1 H1)/\bF p H p1 H1/\p1.w D/\D∉p1.f/\cU K p1 H1 ρ1 σ1/\eQ K p1 H1 (xs,G) J/\iO G S1/\aM K p1.c H1 us ys/\zs=us++ws/\eK G g mc me (xs.drop i) ρ1 S1=.ok ws S2) ?_ ?_ ?_ ?_ ?_
 .refine⟨aq _,du _,eI,p.res D,S,cD own cap ρ,[],zs,⟨sm0,sh0⟩,st0,.inr rfl,nf0,Tn (st0.repE ev),it.step st0,?_,.nil,rfl,by simpa using z⟩
  exact Bb z
 .rintro i σ1 H1 ys ⟨h1,_,h2,_⟩
  exact⟨h1,h2⟩
 .rintro i σ1 H1 ys hi ⟨_,_,_,p1,S1,ρ1,us,ws,⟨sm1,sh1⟩,st1,w1,f1,ev1,it1,g1,_⟩
  exact((it1.2 p1 H1 S1 sm1.step sm1 g1).1 i xs[i] (bf hi)).1
 .rintro i σ1 H1 ys x H2 hi ⟨hl,_,hH,p1,S1,ρ1,us,ws,⟨sm1,sh1⟩,st1,w1,f1,ev1,it1,g1,r1,e1,c1⟩ hy
  obtain⟨same,rx⟩:=((it1.2 p1 H1 S1 sm1.step sm1 g1).1 i xs[i] (bf hi)).2 x H2 hy;rw[xu hi]at c1;unfold eK at c1;rw[if_pos g1]at c1;split at c1
  .cases c1
  .rename_i ρ2 gz
   have st2:=sm1.same same;have sm2:=sm1.ofSame same;have smh:=sh1.ofSame same;have hD2:H2 D=some (.lst ys):=same _ _ hH;have go:∀(q:Ph)(H4:Hp)(S3:aI)(σ3:St),cU K p1 H2 ρ2 σ3->bF (p1.hold D) H2 q H4->aW K q S3 H4->H4 D=some (.lst ys)/\∃q2:Ph,bF p1 H1 q2 H4/\aW K q2 S3 H4/\aW K (q2.hold D) S3 H4/\q2.w D/\D∉q2.f/\cU K q2 H4 ρ2 σ3/\q2.c=q.c:=λq H4 S3 σ3 ev3 st4 sm4=>by
    have hD4:H4 D=some (.lst ys):=st4.keep D _ hD2 λz=>z.2 rfl;have fq:D∉q.f:=λh=>by
     have:=st4.nf D h f1;rw[hD2]at this;cases this
    have stU:=bF.unhold w1 st4 sm2;have nq:¬q.w D:=λz=>by
     have:=st4.nw D z λy=>y.2 rfl;rw[hD2]at this;cases this
    have smU:aW K ⟨q.f,λa=>q.w a\/a=D,q.c⟩ S3 H4:=⟨sm4.nd,sm4.len,λa h=>.inl (sm4.sub a h),λa h=>h.elim (sm4.wc a) λz=>z▸st4.mono D (sm2.wc D w1),sm4.mu,λk a o e1 e2=>
     (sm4.obj k a o e1 e2).mono (λ_ e=>e) (λb w f=>⟨⟨.inl w,f⟩,λ_ e=>e⟩) λ_ _ r=>r⟩
    have shU:aW K (Ph.hold ⟨q.f,λa=>q.w a\/a=D,q.c⟩ D) S3 H4:=⟨sm4.nd,sm4.len,λa h=>⟨.inl (sm4.sub a h),λz=>nq (z▸sm4.sub a h)⟩,λa h=>smU.wc a h.1,sm4.mu,λk a o e1 e2=>
     (sm4.obj k a o e1 e2).mono (λ_ e=>e) (λb w f=>⟨⟨⟨.inl w,λz=>nq (z▸w)⟩,f⟩,λ_ e=>e⟩) λ_ _ r=>r⟩
    exact⟨hD4,_,st2.trans stU,smU,shU,.inr rfl,fq,stU.repE ev3,rfl⟩
   split at c1
   .rename_i SA mz
    split at c1
    .rename_i y S3 ez
     split at c1
     .rename_i vs S4 cz
      cases c1;refine⟨p1,S1,ρ1,xs[i],ρ2,sm2,st2.repE ev1,rx,gz,λσ3 ev3=>⟨p1.hold D,S1,ρ2,smh,⟨ev3.len,ev3.at_⟩,?_⟩⟩;rw[mz];intro q HA b stA smA rb;cases rb;rw[if_pos rfl];refine⟨q,SA,ρ2,smA,stA.repE (p:=p1.hold D) ⟨ev3.len,ev3.at_⟩,?_⟩;rw[ez];intro q4 H4 y' st4 sm4 ry;obtain⟨hD4,q2,stQ,smQ,shQ,wQ,fQ,evQ,cQ⟩:=go q4 H4 S3 σ3 ev3 (stA.trans st4) sm4;obtain⟨stG,smG,shG⟩:=smQ.grow (ys:=ys) (D:=D) (o:=.lst (ys++[y'])) shQ wQ fQ trivial;have stB:=stQ.trans stG;have ry:aL K q4.c H4 y y':=ry;rw[<-cQ]at ry;refine⟨hD4,n1 hi ⟨by rw[cx];exact c7 hl,hi,eI,q2,S3,ρ2,us++[y],vs,⟨smG,shG⟩,st1.trans stB,wQ,fQ,stG.repE evQ,it1.step stB,Bb cz,?_,by rw[e1,oj];rfl,cz⟩⟩;exact(stB.reps r1).append (.cons (stG.rep ry) .nil)
     .cases c1
    .cases c1
   .rename_i SA mz
    refine⟨p1,S1,ρ1,xs[i],ρ2,sm2,st2.repE ev1,rx,gz,λσ3 ev3=>⟨p1.hold D,S1,ρ2,smh,⟨ev3.len,ev3.at_⟩,?_⟩⟩;rw[mz];intro q HA b stA smA rb;cases rb;rw[if_neg jf];obtain⟨hD4,q2,stQ,smQ,shQ,wQ,fQ,evQ,cQ⟩:=go q HA SA σ3 ev3 stA smA;exact n1 hi ⟨o3 hl,hi,hD4,q2,SA,ρ2,us,ws,⟨smQ,shQ⟩,st1.trans stQ,wQ,fQ,evQ,it1.step stQ,Bb c1,stQ.reps r1,e1,c1⟩
   .cases c1
 .rintro σ1 H1 ys ⟨hl,_,hH,p1,S1,ρ1,us,ws,⟨sm1,sh1⟩,st1,w1,f1,ev1,it1,g1,r1,e1,c1⟩
  rw[xv]at c1;unfold eK at c1;rw[if_pos g1]at c1;cases c1;refine⟨(it1.2 p1 H1 _ sm1.step sm1 g1).2,?_⟩;rw[kg]at e1;subst e1;exact k p1 H1 ys st1 sm1 sh1 w1 f1 hH (gm hl it.1) r1
theorem Lx{ρ:bM}{xs:FS×Gd}{J:It}{Q:VK}{D:Addr}(sm:aW K p S H)(ev:cU K p H ρ σ)(it:eQ K p H xs J)(k:bU K cl (bY K) p H ((eK xs.2 g mc me xs.1 (cD own cap ρ) S).bind λys S2=>.ok (.pv (.lst ys)) S2) Q E)(hD:H D=none):
  xV J (gP K g) (tP K cl E0 RB mc) (tP K cl E0 (bY K) me) (iS own cap σ) H D Q:=by
 cases z:eK _ g _ _ _ _ S with
 |fail=>rw[z]at k;exact k.elim
 |exc n S'=>exact absurd z (Jh _ _ _ _ _)
 |ok zs S2=>
  rw[z]at k;have k:=k;refine Ny sm ev it z hD λq H' vs st1 sm1 sh1 w1 f1 hH l1 r1=>?_;refine k _ _ _ (st1.toLess hD) sh1.toLess ?_;exact⟨D,vs,rfl,.inl ⟨hH,λz=>z.2 rfl⟩,l1,nQ (λa h=>h.1) r1⟩
theorem F4(k:gY X sc own cap)(hi:PIp K cl E X target iter mi)(hc:X.calm=true)(hg:∀C FY FZ ex,lQ K (dH X sc (bW own cap) C FY FZ ex) target g)(ht:∀C FY FZ ex,eS K cl E0 (dH X sc (bW own cap) C FY FZ ex) cnd mc)(he:∀C FY FZ ex,aT K cl E0 (dH X sc (bW own cap) C FY FZ ex) elt me)
  (hs:∀x,foldedSetIterable iter X.env x=pure x:=by intro _;rfl):aT K cl E X (.ListComp elt [⟨target,iter,[cnd],0⟩] sc pos) (kN own cap mi g mc me):=by
 intro hK;refine PE.imp (Q7 k (hi hK) hc (λC FY FZ ex=>hg C _ _ _ hK) (λC FY FZ ex=>ht C _ _ _ hK) (λC FY FZ ex=>he C _ _ _ hK) hs) ?_
 rintro σ H Q ⟨p,S,ρ,s,ev,h⟩
 exact bT s ev h λq H' xs J S' bR sm ev it kk D hD=>Lx sm ev it kk hD
end
end L2.Pp
namespace L2
open PySem PySem.Spec PyProof.Rows Bn
open L2.Pp
section
variable{X:Cx}{FX:List (Addr×Obj)}{σ:St}{H:Hp}{s:aa}{c:Addr->Prop}{a b:Addr}{n:Bool}{k:gZ n}{ks:FS}{us:FN}
theorem Cl:∀{l:FI}{vs:List V},aM X.K c H (l.map PV.int) vs->vs=l.map V.int
 |[],vs,h=>h
 |i::l,vs,h=>by
  obtain⟨v,r,rfl,h1,h2⟩:=h;rw[h1,Cl h2];rfl
theorem Ao(I:aG X FX σ H s){l:FI}(r:aL X.K c H (.tup (l.map PV.int)) (.ref b)):gA s.heap l b:=by
 obtain⟨a,vs,e,sq,_,r⟩:=r;cases e;obtain⟨its,rv,⟨o,ho,hc,m,hd⟩,_⟩:=I.tuple sq;rw[Cl r]at rv;exact⟨o,its.toArray,m,ho,hc,hd,by simp_all ⟩
theorem zW(I:aG X FX σ H s):∀{l:FJ}{vs:List V}{its:FN},aM X.K c H (l.map λr:FI=>PV.tup (r.map PV.int)) vs->bB vs its->fk (λk v=>∃b,v=cw b/\gA s.heap k b) l its
 |[],vs,its,h,rv=>by
  subst h;cases rv;exact .nil
 |i::l,vs,its,h,rv=>by
  obtain⟨v,r,rfl,h1,h2⟩:=h;cases rv with
  |cons e t=>
   have h1':=h1;obtain⟨a,ws,rfl,_⟩:=h1';cases e;exact .cons ⟨_,rfl,Ao I h1⟩ (zW I h2 t)
theorem Ld(I:aG X FX σ H s):∀{n:Bool}{k:gZ n}{b:Addr},aL X.K c H (dB n k) (.ref b)->(lG X.prog X.w n).is s.heap k b
 |false,k,b,r=>gA.key (Ao I r)
 |true,k,b,r=>by
  obtain⟨a,vs,e,sq,_,r⟩:=r;cases e;obtain⟨its,rv,⟨o,ho,hc,m,hd⟩,_⟩:=I.tuple sq;exact⟨o,its.toArray,m,ho,hc,hd,by simpa using zW I r rv⟩
theorem wE:∀{l m:FI},l.map PV.int=m.map PV.int->l=m
 |[],[],_=>rfl
 |[],_::_,h=>by cases h
 |_::_,[],h=>by cases h
 |i::l,j::m,h=>by
  injection h with h1 h2;injection h1 with h1;rw[h1,wE h2]
theorem tD:∀{n:Bool}{k k':gZ n},dB n k=dB n k'->k=k'
 |false,k,k',h=>by
  injection h with h;exact wE h
 |true,k,k',h=>by
  injection h with h;have go:∀{l m:FJ},l.map (λr=>PV.tup (r.map PV.int))=m.map (λr=>PV.tup (r.map PV.int))->l=m:=by
   intro l
   induction l with
   |nil=>
    intro m h;simp_all
   |cons x l ih=>
    intro m h;cases m with
    |nil=>cases h
    |cons y m=>
     injection h with h1 h2;injection h1 with h1;rw[wE h1,ih h2]
  exact go h
theorem wS:∀{ps:FS}{vs:List V}{i:Nat}{v:V},aM X.K c H ps vs->vs[i]?=some v->∃p,ps[i]?=some p/\aL X.K c H p v:=λ{ps vs i v} r e=>by
 have hi:i<ps.length:=by
  rw[r.length];exact(da.mp e).1
 obtain⟨u,e1,e2⟩:=r.get (bf hi);simp_all
theorem Ze(I:aG X FX σ H s)(h:H a=some (dO a es ep)):s.heap.get? a=some (oD es ep):=(I.hok a _ h).1
theorem J2:(oD es ep).ExactDict:=⟨rfl,rfl,rfl⟩
theorem Iq(I:aG X FX σ H s){xs:List (gZ n×Addr×Value)}{ep:Nat}(h:H a=some (dO a (xs.map (nO n)).toArray ep))(nd:(xs.map (·.1)).Nodup)(r:aM X.K c H (xs.map λx=>dB n x.1) (xs.map λx=>V.ref x.2.1)):
  s.heap.DictOfH (lG X.prog X.w n) a xs:=by
 refine⟨_,_,ep,Ze I h,J2,rfl,?_,λx hx=>?_,nd⟩
 .have:nO n=entryOfKey (lG X.prog X.w n):=by
   funext x
   unfold nO entryOfKey;rw[Ji]
  simp[this]
 .obtain⟨i,hi,e⟩:=xk.mp hx
  obtain⟨p,e1,e2⟩:=wS  (v:=.ref _) r (by rw[cq,bf hi,e];rfl);rw[cq,bf hi,e]at e1;cases e1;exact Ld I e2
theorem Ob(nd:(xs.map (·.1)).Nodup):
  (∃(i:Nat)(p:Addr×Value),xs[i]?=some (k,p)/\atKey xs k=some p)\/((∀i:Nat,(xs.map λx=>dB n x.1)[i]?≠some (dB n k))/\atKey xs k=none):=by
 by_cases h:∃(i:Nat)(p:Addr×Value),xs[i]?=some (k,p)
 .obtain⟨i,p,h⟩:=h
  exact .inl ⟨i,p,h,atKey_of_get nd h⟩
 .refine .inr ⟨λi e=>?_,vb λj p e=>h ⟨j,p,e⟩⟩
  rw[cq]at e;cases z:xs[i]? with
  |none=>simp_all
  |some x=>
   rw[z]at e;have e:=ck e;exact h ⟨i,x.2,by rw[z,<-tD e]⟩
noncomputable def Wf(K:ah)(H:Hp)(a b:Addr)(vs:List V)(Q:V->Prop)(N:Prop):Prop:=
 ∃(c:Addr->Prop)(n:Bool)(k:gZ n)(ks:FS)(us:FN),oR K c H a n ks us/\bB vs us/\aL K c H (dB n k) (.ref b)/\(∀(i:Nat)(v:V),ks[i]?=some (dB n k)->vs[i]?=some v->Q v)/\((∀i:Nat,ks[i]?≠some (dB n k))->N)
theorem aaR(I:aG X FX σ H s){vs:List V}{Q:V->Prop}{N:Prop}(g:Wf X.K H a b vs Q N):∃(n:Bool)(k:gZ n)(xs:List (gZ n×Addr×Value)),(a==sysModules)=false/\s.heap.DictOfH (lG X.prog X.w n) a xs/\(lG X.prog X.w n).is s.heap k b/\
  ((∃p v,atKey xs k=some p/\bK v p.2/\Q v)\/(atKey xs k=none/\N)):=by
 obtain⟨c,n,k,ks,us,⟨xs,ep,e,z,l,nd,rfl,r,rfl⟩,rv,rk,q1,q2⟩:=g;refine⟨n,k,xs,z,Iq I e nd r,Ld I rk,?_⟩;rcases Ob  nd with⟨i,p,hx,ha⟩|⟨hn,ha⟩
 .have hi:=(da.mp hx).1
  have hv:i<vs.length:=by
   rw[rv.length,aw];exact hi
  obtain⟨u,e1,e2⟩:=rv.get (bf hv);rw[cq,hx]at e1;cases e1;exact .inl ⟨p,_,ha,e2,q1 i _ (by rw[cq,hx];rfl) (bf hv)⟩
 .exact .inr ⟨ha,q2 hn⟩
noncomputable def aeD(K:ah):R2:=λx y H Q=>∃a b vs,x=.ref a/\y=.ref b/\Wf K H a b vs (λv=>Q v H) False
theorem X8(hu:X.A.units+2<cLine):mO X (aeD X.K):=by
 intro value slice FX s σ H x y v u Q I rx ry h hs;obtain⟨a,b,vs,rfl,rfl,g⟩:=h;cases rx;cases ry;obtain⟨n,k,xs,hd,dd,hk,o⟩:=aaR I g;rcases o with⟨p,v,e,rv,q⟩|⟨e,q⟩
 .refine ae ?_;refine ae (k8 dd.typeIs PySem.F.slot_dict_getitem.lookup ?_);have fin:wpAny (model X.prog X.w) X.A (subscripted slice false (.ref a) (.ref b)) (λr s₃=>wpAny (model X.prog X.w) X.A (letTemporaryGo value (.ref a) r >>= λ_=>pure r) (EP X FX σ Q) X.xe s₃) X.xe s:=by
   rw[hs];exact wpAny_operating (wpAny_getItem_heap (Mi hu n) hk dd e (ae (wpAny_letTemporaryGo (aj ⟨v,H,I.tok _,rv,q⟩))))
  first
   |exact aj (ae fin)
   |grind
   |grind
 .exact q.elim
noncomputable def nN(H:Hp)(a:Addr)(n:Bool)(ks:FS)(rs:List V)(us:FN):Prop:=
 ∃(xs:List (gZ n×Addr×Value))(ep:Nat),H a=some (dO a (xs.map (nO n)).toArray ep)/\(a==sysModules)=false/\xs.length<=sizeLine/\(xs.map (·.1)).Nodup/\ks=xs.map (λx=>dB n x.1)/\rs=xs.map (λx=>V.ref x.2.1)/\us=xs.map (·.2.2)
theorem Hr{K:ah}(d:oR K c H a n ks us):∃rs,nN H a n ks rs us/\aM K c H ks rs:=by
 obtain⟨xs,ep,e,z,l,nd,ek,r,eu⟩:=d;exact⟨_,⟨xs,ep,e,z,l,nd,ek,rfl,eu⟩,r⟩
theorem nN.at_{K:ah}{rs:List V}(d:nN H a n ks rs us)(r:aM K c H ks rs):oR K c H a n ks us:=by
 obtain⟨xs,ep,e,z,l,nd,ek,er,eu⟩:=d;subst er;exact⟨xs,ep,e,z,l,nd,ek,r,eu⟩
noncomputable def aer(x:V)(H:Hp):Prop:=∃a es ep,x=.ref a/\H a=some (dO a es ep)
theorem ab5{es:List ai}{to:TE}{t:TA}{name:Str}{apos cpos:ak}{id:String}{r:V->List V->Hp->VK->Prop}(slot:Slot "dict" name id)(hty:typeOf (.builtin id)=pure (.type "method_descriptor"))(hm:Gg X id r)(ho:PE X o to)(ha:PA X (e::es) t)
  (hbase:attributeBase o name X.env (eval o X.env)=eval o X.env:=by rfl)
  (hfew:((backTo cpos (starEach (e::es) X.env)).all (λx=>!x.1)&&(backToKw cpos (keywordEach [] X.env)).all (λx=>x.1.isSome)
   &&decide ((e::es).length+([]:List jg).length+(if([]:List jg).isEmpty then 0 else 1)<30))=true:=by rfl)
  (hline:(apos.endLine==cpos.line)=true:=by rfl)(hs:starEach (e::es) X.env=(false,eval e X.env)::starEach es X.env:=by rfl)(hplain:(backTo cpos (starEach es X.env)).any (·.1)=false:=by rfl):
  PE X (.Call (.Attribute o name apos) (e::es) [] cpos) (λσ H Q=>to σ H λx H1=>aer x H1/\t σ H1 λxs H2=>r x xs H2 Q):=by
 intro FX s σ H Q I h;refine BD hbase hfew hline rfl (bC (ho _ s _ H _ I h) λv s1 hq=>?_);rcases hq with⟨x,H1,I1,r1,⟨a,ds,ep,ex,hH⟩,q1⟩;subst ex;cases r1;have hg:=Ze I1 hH;refine⟨"dict",id,PySem.F.plainAttrs_dict,slot,hty,⟨_,hg,rfl⟩,λb eb=>?_,?_⟩
 .cases eb
  exact⟨_,hg,rfl⟩
 have hA:=ha cpos _ _ _ _ _ I1 q1;rw[hs]at hA⊢;refine BE (by show(false||(backTo _ _).any _)=false;rw[hplain]<;>rfl) (a8 ?_);exact bC hA λus s2 ⟨vs,H2,I2,r2,q2⟩=>hm _ _ _ _ (.ref a) _ _ us Q I2 rfl r2 q2
theorem V3(I:aG X FX σ H s):sysModules<s.heap.objs.size:=by
 have h:=(I.mod.glob.keeps I.bk).lt;exact g5 (by decide) h
theorem F2:PE X (.Dict [] [] pos) (λ_ H Q=>∀p,H p=none->(p==sysModules)=false->Q (.ref p) (aS H p (dO p #[] 0))):=λFX s σ H Q I h=>
 wpAny_Dict_empty ⟨.ref _,_,I.laid  (o:=dO _ _ 0)  (λ_ _ q=>av _ q) (aq _) ⟨cy _ rfl,⟨_,cy _ rfl⟩,λh1 h2 p kk=>kk _ p⟩,rfl,
  h _ (I.hok.fresh (aq _)) (beq_eq_false_iff_ne.mpr (jp (df (V3 I))))⟩
end
end L2
namespace L2.Pp
open PySem PySem.Spec PyProof.Rows Bn
open Classical in
noncomputable def jT{α:Type}(kvs:List (PV×α))(k:PV):Option Nat:=kvs.findIdx? λkv=>decide (kv.1=k)
noncomputable def oK(kvs:List (PV×α))(k:PV):Option α:=match jT kvs k with
 |some i=>kvs[i]?.map (·.2)
 |none=>none
noncomputable def uP(n:Bool)(k:PV):Prop:=∃k',k=dB n k'
theorem rC(h:jT kvs k=some i):∃v,kvs[i]?=some (k,v):=by
 obtain⟨hi,e,_⟩:=List.findIdx?_eq_some_iff_getElem.mp h;have e:=by simpa using e
 refine⟨kvs[i].2,?_⟩;rw[bf hi];congr 1;exact jn e rfl
theorem E5{kvs:List (PV×α)}{k:PV}(h:jT kvs k=none)(i:Nat):(kvs.map (·.1))[i]?≠some k:=by
 unfold jT at h;rw[List.findIdx?_eq_none_iff]at h;intro e;rw[cq]at e;cases z:kvs[i]? with
 |none=>simp_all
 |some x=>
  rw[z]at e;have:=h x (fy z);have e:=ck e;simp_all
theorem Cd{kvs:List (PV×α)}{k:PV}{i:Nat}(h:(kvs.map (·.1))[i]?=some k):∃j,jT kvs k=some j:=by
 cases z:jT _ k with
 |some j=>exact⟨j,rfl⟩
 |none=>exact absurd h (E5 z i)
end L2.Pp
namespace L2
open PySem PySem.Spec PyProof.Rows Bn L2.Pp
section
variable{prog:Program}{w:ar}{A:ax}{E:Value->aa->Prop}{s:aa}{it d i ep:Nat}{es:Array DictEntry}
theorem Z4{h:i<es.size}:(if(i:Int)<0 then none else es[(i:Int).toNat]?)=some es[i]:=by
 simp_all
theorem Z9{h:¬i<es.size}:(if(i:Int)<0 then none else es[(i:Int).toNat]?)=none:=by
 simp_all
theorem abC{Q:FO->aa->Prop}{h1:Heap}(hh:A.handled=none)(sb:si it s.heap h1)(q:∀h',si it s.heap h'->Q none {s with heap:=h'}):
  wpAny (model prog w) A.in1 (newExc (.type "StopIteration") [] >>= raiseNew (α:=uv)) (λ_ _=>False) (λe s'=>wpAny (model prog w) A (isInstance e (.type "StopIteration")) (λb s2=>b=true/\Q none s2) E s') {s with heap:=h1}:=by
 refine ae ?_;simp only[newExc,newTuple];refine ae (io ?_ (by size_fits));refine ae  (qp (a:=br) (by first |rfl |(simp only[firstArgMember];rfl)) ?_)
 refine io ?_ (by size_fits);simp only[raiseNew];refine ae (i5 ?_);rw[show A.in1.handled=none from hh];refine ae (aj (i6 ?_));exact ul (T:="StopIteration") (b:=true) ⟨_,cy _ rfl,rfl⟩ j4 ⟨rfl,q _ ((sb.push _).push _)⟩
theorem Uo{Q:uv->aa->Prop}{E':Value->aa->Prop}(hit:s.heap.IsKeyIter it d i es.size ep)(hd:s.heap.get? d=some (oD es ep))
  (q1:∀h:i<es.size,∀h',h'.IsKeyIter it d (i+1) es.size ep->il it s.heap h'->Q (.done (.ret es[i].key)) {s with heap:=h'})
  (q2:¬i<es.size->∀h',il it s.heap h'->wpAny (model prog w) A.in1 (newExc (.type "StopIteration") [] >>= raiseNew (α:=uv)) Q E' {s with heap:=h'}):
  wpAny (model prog w) A.in1 (Builtin.«dict_keyiterator.__next__» ⟨[.ref it],[]⟩) Q E' s:=by
 obtain⟨o,ho,hc,hf⟩:=id hit;have nm:∀{s':aa}{R:Nat->aa->Prop},s'.TypeIs (.ref it) "dict_keyiterator"->R 0 s'->wpAny (model prog w) A.in1 (do let t <-typeNameOfWhole (.ref it);pure (if DG t then 2 else 0)) R E' s':=λhT r=>
  ae (wpAny_typeNameOfWhole_keyiter hT (aj (by rw[show DG "dict_keyiterator"=false by decide];exact r)))
 refine ae (aj (ae (ae (nm hit.typeIs (ae (o6 ho hf ?_))))));show wpAny _ _ (if(cw d==br)=true then _ else _) _ _ s;rw[if_neg (show ¬((cw d==br)=true) from jf)];refine ae (aj (ae (o7 hd rfl ?_)));rw[if_neg (by simp)];refine ae (aj (ae (wpAny_dictEpoch hd rfl ?_)));rw[if_neg (by simp)];refine aj ?_
 by_cases h:i<es.size
 .simp only[Z4 (h:=h)]
  refine ae (nm hit.typeIs (ae (DH hit.typeIs ?_)));show wpAny _ _ (setField (.ref it) 1 (rawInt ((i:Int)+1)) >>= _) _ _ s;refine ae (og ho hf (by simp) ?_);have hit':(s.heap.update it (yd (·.setIfInBounds 1 (rawInt ((i:Int)+1))))).IsKeyIter it d (i+1) es.size ep:=
   ⟨_,lg _ ho (BP (xm hf _)),(BQ ..).trans hc,by rw[xm hf];simp[rawInt]⟩
  have tt:DI {s with heap:=s.heap.update it (yd (·.setIfInBounds 1 (rawInt ((i:Int)+1))))} (.ref it) "dict_keyiterator":=hit'.typeIs;exact ae (ix (ae (DH tt (aj (aj (q1 h _ hit' (kj ..)))))))
 .simp only[Z9 (h:=h)]
  refine ae (nm hit.typeIs ?_);exact ae (og ho hf (by simp) (q2 h _ (kj ..)))
theorem V8{Q:FO->aa->Prop}(hit:s.heap.IsKeyIter it d i es.size ep)(hd:s.heap.get? d=some (oD es ep))(h:i<es.size)
  (q:∀h',h'.IsKeyIter it d (i+1) es.size ep->il it s.heap h'->Q (some es[i].key) {s with heap:=h'}):wpAny (model prog w) A (pyNext (.ref it)) Q E s:=by
 unfold pyNext;exact ae (sk (lc (name:=dj "__next__") hit.typeIs vc (jk vc hit.typeIs DJ
  (Uo hit hd (λ_ h' a b=>⟨_,rfl,aj (q h' a b)⟩) λn=>absurd h n) (DK _))))
theorem abG{Q:FO->aa->Prop}(hh:A.handled=none)(hit:s.heap.IsKeyIter it d i es.size ep)(hd:s.heap.get? d=some (oD es ep))(h:¬i<es.size)
  (q:∀h',si it s.heap h'->Q none {s with heap:=h'}):wpAny (model prog w) A (pyNext (.ref it)) Q E s:=by
 unfold pyNext;exact ae (sk (lc (name:=dj "__next__") hit.typeIs vc (jk vc hit.typeIs DJ
  (Uo hit hd (λn=>absurd n h) λ_ h' sb=>im (abC (E:=E) hh sb.extBut q) (λ_ _ z=>z.elim) λe s2 z=>ae (bC z λb s3 ⟨hb,q3⟩=>by subst hb;exact aj q3)) (DK _))))
theorem K4(hh:A.handled=none)(I d:Addr)(hne:d≠I)(es:Array DictEntry)(ep:Nat):
  Walks prog w A I [I,d] [I] es.size (λi v=>∃h:i<es.size,v=es[i].key) (λi h=>h.IsKeyIter I d i es.size ep/\h.get? d=some (oD es ep)) where
 sub:=λb hb=>by simp at hb;simp[hb]
 frame:=λ_ _ _ st hk=>⟨st.1.at λo e=>hk I (by simp) o e,hk d (by simp) _ st.2⟩
 item:=λi s Q E hi st hQ=>V8 st.1 st.2 hi λh' hit' sb=>hQ _ h' s.toks ⟨hi,rfl⟩ ⟨hit',(sb.2 d hne).trans st.2⟩ λb o hb e=>sb.extBut b o (λz=>hb (by simp[z])) e
 done:=λs Q E st hQ=>abG hh st.1 st.2 (jc _) λh' eb=>hQ h' s.toks λb o hb e=>eb b o (λz=>hb (by simp[z])) e
 self:=λ_ _ _ _ st hQ=>wpAny_pyIter_keyiter st.1 hQ
theorem abz(ns:(d==sysModules)=false)(hd:s.heap.get? d=some (oD es ep))
  (q:Q (.ref s.heap.objs.size) {s with heap:=s.heap.push {cls:=.type "dict_keyiterator",data:=.fields #[.ref d,.int 0 0,.int es.size 0,.int ep 0]}}):wpAny (model prog w) A (pyIter (.ref d)) Q E s:=by
 have hT:s.TypeIs (.ref d) "dict":=⟨_,hd,rfl⟩;refine o8 hT DM (jk DM hT F.entry_dict_iter ?_ (F.args_dict_iter_1 _));refine ae (ae (DN hT (aj ?_)));show wpAny _ _ (DO d >>= _) _ _ s;unfold DO;rw[if_neg (by rw[ns];exact jf)];refine ae (aj (ae (o7 hd rfl (ae (wpAny_dictEpoch hd rfl ?_)))));exact ae (io (aj ⟨_,rfl,"dict_keyiterator",_,⟨_,cy _ rfl,rfl⟩,vc.lookup,q⟩))
theorem adc(ns:(d==sysModules)=false):PySem.W.KdlSrc prog w "dict" d d es.size (λi v=>∃h:i<es.size,v=es[i].key) (λh=>h.get? d=some (oD es ep)) where
 type:=λ_ hm=>⟨_,hm,rfl⟩
 there:=λ_ hm=>⟨bh hm,bh hm⟩
 keep:=λ_ _ hm hk=>hk d (.inl rfl) _ hm
 notList:=rfl
 notTuple:=rfl
 hint:=λ_ _ _ _ hm hq=>PySem.W.kdl_hint_dict ⟨_,hm,rfl⟩ hq
 iter:=λ_ _ hh hm=>⟨_,_,λ_ _ hq=>abz ns hm hq,K4 hh _ d (df (bh hm)) _ _,⟨⟨_,cy _ rfl,rfl,rfl⟩,av _ hm⟩⟩
end
end L2
namespace L2.Pp
open PySem PySem.Spec PyProof.Rows Bn
section
mutual
noncomputable def lO:PV->Bool
 |.lst _=>false
 |.obj _ _ _=>false
 |.tup xs=>nE xs
 |_=>true
noncomputable def nE:FS->Bool
 |[]=>true
 |x::r=>lO x&&nE r
end
noncomputable def tZ(f:FM)(ms:MA):ME:=λρ S=>(ms ρ S).bind λxs S1=>match iE S1 xs with
 |some vs=>(match f (vs.map .pv) []with
  |.ok (.pv v) _=>if lO v=true then .ok (.pv v) S1 else .fail
  |_=>.fail)
 |none=>.fail
section
variable{K:ah}{p:Ph}{H:Hp}{a e v:ai}
mutual
theorem Nc{c c':Addr->Prop}:∀{v:PV}{x:V},aL K c H v x->lO v=true->aL K c' H v x
 |.non,_,h,_=>by unfold aL at h⊢;exact h
 |.bl _,_,h,_=>by unfold aL at h⊢;exact h
 |.int _,_,h,_=>by unfold aL at h⊢;exact h
 |.str _,_,h,_=>by unfold aL at h⊢;exact h
 |.lst _,_,_,n=>by unfold lO at n;cases n
 |.obj _ _ _,_,_,n=>by unfold lO at n;cases n
 |.tup xs,_,h,n=>by
  unfold lO at n;unfold aL at h⊢;obtain⟨a,vs,e,t,z,r⟩:=h;exact⟨a,vs,e,t,z,Wl r n⟩
theorem Wl{c c':Addr->Prop}:∀{v:FS}{x:List V},aM K c H v x->nE v=true->aM K c' H v x
 |[],_,h,_=>by unfold aM at h⊢;exact h
 |p::ps,_,h,n=>by
  unfold nE at n;unfold aM at h⊢;obtain⟨v,r,e,h1,h2⟩:=h;have n:=p6.mp n;exact⟨v,r,e,Nc h1 n.1,Wl h2 n.2⟩
end
noncomputable def Ph.none:Ph:=⟨[],λ_=>False,λ_=>False⟩
theorem Zm:aW K Ph.none [] H:=⟨sv,rfl,λ_ h=>(nomatch h),λ_ h=>h,λ_ h=>h.elim,λk a o e=>nomatch e ⟩
theorem Gj:∀{vs:FS}{xs:List V},Oe K p H vs xs->gH K Ph.none H (vs.map .pv) xs
 |_,_,.nil=>.nil
 |_,_,.cons h t=>by
  refine .cons ?_ (Gj t);show aL K (λ_=>False) H _ _;rcases h with h |⟨xs,a,vs,rfl,rfl,h,z,r⟩
  .exact zZ (λ_ h=>h.elim) h
  .exact⟨a,vs,rfl,.inl ⟨h,λz=>z⟩,z,nQ (λ_ h=>h.elim) r⟩
theorem ad0{g:FM}{k k0:Nat}{ps:List Str}{x:Str}{px:ak}(C:vG X.prog X.w X.K X.mg X.base cl x k ps g)(hr:cP k0 X.A)(hk:k<=k0)(hg:Gl X x)(ha:dS X.K cl E X (e::es) ms)(hdb:(x==("__debug__":Str))=false:=by decide)(he:starEach (e::es) X.env=(false,eval e X.env)::starEach es X.env:=by rfl)(hpl:(backTo pos (starEach es X.env)).any (·.1)=false:=by rfl):
  aT X.K cl E X (.Call (.Name x px) (e::es) [] pos) (tZ g ms):=by
 obtain⟨a,d,G,b,kk,n⟩:=C;intro hK;refine PE.imp (tJ G (hr.mono hk) hg n kk b .nil pS (ha rfl) hdb he hpl) ?_
 rintro σ H Q ⟨p,S,ρ,s,ev,h⟩
 refine bT s ev h λq H1 as xs S1 st sm ev r k=>?_;cases z:iE S1 as with
 |none=>simp only[z]at k;exact k.elim
 |some vs=>
  simp only[z]at k;have rr:=Gj (wC sm r z);have e0:=kg xs;refine⟨Ph.none,[],vs.map .pv,Zm,by first |exact rr |(rw[e0];exact rr),?_⟩
  cases y:g (vs.map .pv) []with
  |fail=>simp only[y]at k;exact k.elim
  |exc n S'=>simp only[y]at k;exact k.elim
  |ok w S'=>
   cases w with
   |ref j=>simp only[y]at k;exact k.elim
   |pv w=>
    simp only[y]at k
    by_cases hn:lO w=true
    .rw[if_pos hn]at k
     intro q' H' x' st' sm' r';have same:cN H1 H':=λa o e=>st'.keep a o e λz=>z;exact bU.same  k sm same (Nc r' hn)
    .rw[if_neg hn]at k
     exact k.elim
end
end
section
variable{P:Program}{w:ar}{K:ah}{mg:Str->FO}{base:Heap}{cl:Str->Addr}{x qual:Str}{f:Addr}{N ps:List Str}{k n:Nat}{b:MS}
variable{so sc sc1:Scope}{own own1:List Str}{cap cap1:List (Nat×Str)}{cd:Value}{A:ax}{outer:List ca}{s:aa}{H:Hp}{E:XK}{C:Addr}{FY:aa}{FZ:Hp}{ex:List Addr}
theorem xZ(a:sc.kind=.function:=by rfl)(b:∀y∈sc.names,y.2=.local->sc.names.lookup y.1=some .local:=by decide+kernel)(c:∀y∈sc.names,y.2≠.cell:=by decide+kernel)(d:∀y∈sc.names,y.2=.free->so.names.lookup y.1=some .cell:=by decide+kernel)(e:∀p∈cap,N[p.1]?=some p.2:=by decide+kernel)(g:∀p∈cap,sc.names.lookup p.2=some .free:=by decide+kernel):gY (eW dR P w K mg base N qual so f cd A outer s H E).nox sc own cap:=abD so N rfl rfl a b c d e g
theorem abp(a:sc.kind=.function:=by rfl)(b:∀y∈sc.names,y.2=.local->sc.names.lookup y.1=some .local:=by decide+kernel)(c:∀y∈sc.names,y.2=.cell->sc.names.lookup y.1=some .cell:=by decide+kernel)(d:∀y∈sc.names,y.2=.free->so.names.lookup y.1=some .cell:=by decide+kernel)(e:∀p∈cap,N[p.1]?=some p.2:=by decide+kernel)(g:∀p∈cap,sc.names.lookup p.2=some .free:=by decide+kernel):nZ (eW dR P w K mg base N qual so f cd A outer s H E).nox sc own cap:=aam so N rfl rfl a b c d e g
theorem xI(a:sc.kind=.function:=by rfl)(b:∀y∈sc.names,y.2=.local->sc.names.lookup y.1=some .local:=by decide+kernel)(c:∀y∈sc.names,y.2≠.cell:=by decide+kernel)(d:∀y∈sc.names,y.2=.free->sc1.names.lookup y.1=some .free/\so.names.lookup y.1=some .cell:=by decide+kernel)(e:∀p∈cap,(bW own1 cap1)[p.1]?=some p.2:=by decide+kernel)(g:∀p∈cap,sc.names.lookup p.2=some .free:=by decide+kernel)(hk:so.kind=.function:=by rfl):gY (dH (eW dR P w K mg base N qual so f cd A outer s H E).nox sc1 (bW own1 cap1) C FY FZ ex) sc own cap:=aa1 so rfl hk a b c d e g
theorem xO(a:sc.kind=.function:=by rfl)(b:∀y∈sc.names,y.2=.local->sc.names.lookup y.1=some .local:=by decide+kernel)(c:∀y∈sc.names,y.2≠.cell:=by decide+kernel)(d:∀y∈sc.names,y.2=.free->sc1.names.lookup y.1=some .cell\/(sc1.names.lookup y.1=some .free/\so.names.lookup y.1=some .cell):=by decide+kernel)(e:∀p∈cap,(bW own1 cap1)[p.1]?=some p.2:=by decide+kernel)(g:∀p∈cap,sc.names.lookup p.2=some .free:=by decide+kernel)(hk:so.kind=.function:=by rfl):gY (jA (eW dR P w K mg base N qual so f cd A outer s H E).nox sc1 (bW own1 cap1) C FY FZ ex) sc own cap:=U5 so rfl hk a b c d e g
theorem cF{N ps:List Str}{sc:Scope}(a:sc.kind=.function:=by rfl)(b:sc.isCoroutine=false:=by rfl)(c:sc.isGenerator=false:=by rfl)(d:N.Nodup:=by decide+kernel)(e:N.take ps.length=ps:=by rfl)(f:∀x∈ps,sc.names.lookup x=some .local\/sc.names.lookup x=some .cell:=by decide+kernel)(g:∀y∈sc.names,y.2≠.free:=by decide+kernel):jW N ps sc:=⟨a,b,c,d,e,f,g⟩
noncomputable def Lf(P:Program)(w:ar)(K:ah)(mg:Str->FO)(base:Heap)(cl:Str->Addr)(x:Str)(k:Nat)(ps:List Str)(g:FM):Prop:=∃(a:Addr)(d:de),dC P w K mg base (kJ P w) k a d ps (oO K cl g)/\dC P w K mg base dR k a d ps (jP K cl g)/\gG K d ps []/\ft K (.ref a)=true/\mg x=some (.ref a)
theorem aeI{a:Addr}{d:de}(G:dC P w K mg base (kJ P w) k a d ps (oO K cl g))(b:gG K d ps [])(kp:ft K (.ref a)=true)(n:mg x=some (.ref a)):Lf P w K mg base cl x k ps g:=⟨_,_,G,x0 G,b,kp,n⟩
theorem ade{pos p:ak}{k0:Nat}{g:FM}(C:Lf X.prog X.w X.K X.mg X.base cl x k ps g)(hr:cP k0 X.A)(hk:k<=k0)(hg:Gl X x)(ha:dS X.K cl E0 X (e::es) ms)(hdb:(x==("__debug__":Str))=false:=by decide)(he:starEach (e::es) X.env=(false,eval e X.env)::starEach es X.env:=by rfl)(hpl:(backTo pos (starEach es X.env)).any (·.1)=false:=by rfl):
  aT X.K cl E0 X (.Call (.Name x p) (e::es) [] pos) (mZ g [] ms):=by
 obtain⟨a,d,_,G,b,kk,n⟩:=C;exact aaV G (hr.mono hk) hg n kk b .nil Dv.nil ha hdb he hpl
end
structure Bx where
 P:Program
 w:ar
 K:ah
 mg:Str->FO
 base:Heap
 cl:Str->Addr
noncomputable abbrev cR(B:Bx)(x:Str)(k:Nat)(ps:List Str)(g:FM):Prop:=vG B.P B.w B.K B.mg B.base B.cl x k ps g
noncomputable abbrev CxB(B:Bx)(x:Str)(k:Nat)(ps:List Str)(g:FM):Prop:=Lf B.P B.w B.K B.mg B.base B.cl x k ps g
noncomputable def HF(K:ah)(x:Str)(st:Stmt):Prop:=∃(f:Addr)(fd:de),dg K mainGlobals x=some (some (.ref f))/\kH K x x st f fd
noncomputable def XG(K:ah)(mg:Str->FO):Prop:=∃h:Heap,K.In h/\h.Ns mainGlobals mg
section
variable{B:Bx}{x:Str}{st:Stmt}{f:Addr}{fd:de}{N ps:List Str}{k np n:Nat}{b:MS}
theorem ab4(X:XG B.K B.mg)(q:HF B.K x st):∃f fd,kH B.K x x st f fd/\ft B.K (.ref f)=true/\B.mg x=some (.ref f):=by
 obtain⟨f,fd,a,F⟩:=q;obtain⟨h,X,G⟩:=X;exact⟨f,fd,F,F.kp,mj X G a⟩
theorem ac6{K:ah}{oc:Value}{od an:FQ}{osl:Array FO}{kV doc pm cdv ct:Value}(a:dg K mainGlobals x=some (some (.ref f)))(l:K.lookup f=some ⟨oc,od,.func (fj x x (gC st) (dM st) (cB st) .none kV doc pm an cdv ct),osl⟩)
  (c:kh K cdv x=true)(k:ft K (.ref f)=true):HF K x st:=⟨_,_,a,Dd l c k⟩
theorem bdn(F:kH B.K x x st f fd)(h:∀(kV doc pm:Value)(an:FQ)(cdv ct:Value)(us:FN),us.length=ps.length->bindArgs (fj x x (gC st) (dM st) (cB st) .none kV doc pm an cdv ct) ⟨us,[]⟩=pure (ps.zip us)):gG B.K fd ps []:=F.binds λkV doc pm an cdv ct us hl=>h _ _ _ _ _ _ _ hl
theorem cS(X:XG B.K B.mg)(q:HF B.K x st)(S:jW N ps (cB st))(hb:N.Nodup->∀(f:Addr)(cdv:Value)(A:ax)(outer:List ca)(s:aa)(H:Hp)(E:XK),cP k (A.deeper (envOfC x (cB st) s.heap.objs.size f cdv))->fY B.K B.cl E0 (eW dR B.P B.w B.K B.mg B.base N x (cB st) f cdv A outer s H E).nox (dM st) b)(hnp:ps.length=np:=by rfl)(hn:N.length=n:=by rfl)
  (h:∀(kV doc pm:Value)(an:FQ)(cdv ct:Value)(us:FN),us.length=ps.length->bindArgs (fj x x (gC st) (dM st) (cB st) .none kV doc pm an cdv ct) ⟨us,[]⟩=pure (ps.zip us):=by intro _ _ _ _ _ _ us h;rcases us with _ |⟨_,_ |⟨_,_ |⟨_,_ |⟨_,_ |⟨_,_ |⟨_,_⟩⟩⟩⟩⟩⟩<;>first |(cases h;done) |rfl |(simp at h)):cR B x (k+1) ps (aZ np n b):=by
 obtain⟨f,fd,F,kp,m⟩:=ab4 X q;exact⟨f,fd,Ng F S hnp hn λcdv A outer s H E hr=>hb S.nd f _ A _ s H E hr,bdn F h,kp,m⟩
theorem mkR(F:kH B.K x x st f fd)(S:jW N ps (cB st))(hb:N.Nodup->∀(f:Addr)(cdv:Value)(A:ax)(outer:List ca)(s:aa)(H:Hp)(E:XK),cP k (A.deeper (envOfC x (cB st) s.heap.objs.size f cdv))->fY B.K B.cl E0 (eW dR B.P B.w B.K B.mg B.base N x (cB st) f cdv A outer s H E).nox (dM st) b)(hnp:ps.length=np:=by rfl)(hn:N.length=n:=by rfl):dC B.P B.w B.K B.mg B.base dR (k+1) f fd ps (jP B.K B.cl (aZ np n b)):=Ng F S hnp hn λcdv A outer s H E hr=>hb S.nd f _ A _ s H E hr
theorem aes(F:oJ B.K x x st f fd dsv)(S:jW N ps (cB st))(hb:N.Nodup->∀(f:Addr)(cdv:Value)(A:ax)(outer:List ca)(s:aa)(H:Hp)(E:XK),cP k (A.deeper (envOfC x (cB st) s.heap.objs.size f cdv))->fY B.K B.cl E (eW (kJ B.P B.w) B.P B.w B.K B.mg B.base N x (cB st) f cdv A outer s H E) (dM st) b)(hnp:ps.length=np:=by rfl)(hn:N.length=n:=by rfl):dC B.P B.w B.K B.mg B.base (kJ B.P B.w) (k+1) f fd ps (oO B.K B.cl (aZ np n b)):=aeu F S hnp hn λcdv A outer s H E hr=>hb S.nd f _ A _ s H E hr
end
end L2.Pp
namespace L2
open PySem PySem.Spec PyProof.Rows Bn
section
open PySem.W (KasT kas_sort kas_asc kas_desc kas_rev kas_tail3 kas_descPart kas_count kas_place kas_bin)
noncomputable def iU(lt:Nat->Nat->Bool)(n:Nat):lu α->(α->Prop)->Prop
 |.ret a,Q=>Q a
 |.ask i j k,Q=>i<n/\j<n/\iU lt n (k (lt i j)) Q
section
variable{lt:Nat->Nat->Bool}{n:Nat}
theorem qR{f:α->lu β}{Q:β->Prop}:∀(t:lu α),iU lt n t (λa=>iU lt n (f a) Q)->iU lt n (t.bind f) Q
 |.ret _,h=>h
 |.ask i j k,h=>⟨h.1,h.2.1,qR _ h.2.2⟩
theorem nR{Q Q':α->Prop}(f:∀a,Q a->Q' a):∀(t:lu α),iU lt n t Q->iU lt n t Q'
 |.ret a,h=>f a h
 |.ask i j k,h=>⟨h.1,h.2.1,nR f _ h.2.2⟩
theorem Mo{cmp:Nat->Nat->(Bool->aa->Prop)->aa->Prop}{s:aa}(hc:∀i j(C:Bool->aa->Prop),i<n->j<n->C (lt i j) s->cmp i j C s){Q:α->aa->Prop}:∀(t:lu α),iU lt n t (λa=>Q a s)->t.kasWp cmp Q s
 |.ret _,h=>h
 |.ask i j k,h=>hc i j _ h.1 h.2.1 (Mo hc _ h.2.2)
structure lP(lt:Nat->Nat->Bool)(n:Nat):Prop where
 tr:∀i j k,i<n->j<n->k<n->lt i j=true->lt j k=true->lt i k=true
 tot:∀i j,i<n->j<n->i≠j->lt i j=true\/lt j i=true
noncomputable def fL(n:Nat)(p:Array Nat):Prop:=p.toList.Perm (ci n)
noncomputable def Up(lt:Nat->Nat->Bool)(p:Array Nat)(m:Nat):Prop:=∀i j,i<j->j<m->lt (p.getD i 0) (p.getD j 0)=true
noncomputable def Dn(lt:Nat->Nat->Bool)(p:Array Nat)(m:Nat):Prop:=∀i j,i<j->j<m->lt (p.getD j 0) (p.getD i 0)=true
theorem fL.size(h:fL n p):p.size=n:=by
 have:=List.Perm.length_eq h;simpa using this
theorem gD{p:Array Nat}{k:Nat}(h:k<p.size):p.getD k 0=p[k]:=by simp[Array.getD,h]
theorem gD?{p:Array Nat}{k:Nat}:p.getD k 0=(p[k]?).getD 0:=by simp_all
theorem fL.bd{p:Array Nat}(h:fL n p){k:Nat}(hk:k<n):p.getD k 0<n:=by
 have hs:k<p.size:=by rw[h.size];exact hk
 rw[gD hs];have:p[k]∈ci n:=List.Perm.subset h (by simp);simpa using this
theorem fL.ne{p:Array Nat}(h:fL n p){i j:Nat}(hi:i<n)(hj:j<n)(ne:i≠j):p.getD i 0≠p.getD j 0:=by
 have hi':i<p.size:=by rw[h.size];exact hi
 have hj':j<p.size:=by rw[h.size];exact hj
 rw[gD hi',gD hj'];intro e;have nd:p.toList.Nodup:=(List.Perm.nodup_iff h).mpr List.nodup_range;refine ne (Pp.nodup_idx nd (a:=p[i]) (by simp[hi']) ?_);rw[e];simp[hj']
theorem Qd(S:lP lt n){p:Array Nat}(hp:fL n p):∀f m,1<=m->m+f=n->Up lt p m->iU lt n (kas_asc p f m) (λr=>m<=r/\r<=n/\Up lt p r/\(r=n\/lt (p.getD r 0) (p.getD (r-1) 0)=true))
 |0,m,h1,h2,h3=>⟨aq _,by omega,h3,.inl (by omega)⟩
 |f+1,m,h1,h2,h3=>by
  refine⟨hp.bd (by omega),hp.bd (by omega),?_⟩;cases z:lt (p.getD m 0) (p.getD (m-1) 0)with
  |true=>exact⟨aq _,by omega,h3,.inr z⟩
  |false=>
   refine nR (λr ⟨a,b,c,d⟩=>⟨by omega,b,c,d⟩) _ (Qd S hp f (m+1) (by omega) (by omega) λi j hij hj=>?_)
   by_cases hjm:j<m
   .exact h3 i j hij hjm
   .have e:j=m:=by omega
    subst e;have l1:lt (p.getD (j-1) 0) (p.getD j 0)=true:=by
     rcases S.tot _ _ (hp.bd (show j-1<n by omega)) (hp.bd (show j<n by omega)) (hp.ne (by omega) (by omega) (by omega))with h |h
     .exact h
     .rw[z]at h;cases h
    by_cases hi:i=j-1
    .rw[hi];exact l1
    .exact S.tr _ _ _ (hp.bd (by omega)) (hp.bd (by omega)) (hp.bd (by omega)) (h3 i (j-1) (by omega) (by omega)) l1
theorem Bp(S:lP lt n){p:Array Nat}(hp:fL n p):∀f m,2<=m->m+f=n->Dn lt p m->iU lt n (kas_desc f p m 0) (λr=>r.1=p/\r.2.2=0/\2<=r.2.1/\r.2.1<=n/\Dn lt p r.2.1)
 |0,m,h1,h2,h3=>⟨rfl,rfl,h1,by show m<=n;omega,h3⟩
 |f+1,m,h1,h2,h3=>by
  refine⟨hp.bd (by omega),hp.bd (by omega),?_⟩;cases z:lt (p.getD m 0) (p.getD (m-1) 0)with
  |true=>
   refine Bp S hp f (m+1) (by omega) (by omega) λi j hij hj=>?_
   by_cases hjm:j<m
   .exact h3 i j hij hjm
   .have e:j=m:=by omega
    subst e
    by_cases hi:i=j-1
    .rw[hi];exact z
    .exact S.tr _ _ _ (hp.bd (by omega)) (hp.bd (by omega)) (hp.bd (by omega)) z (h3 i (j-1) (by omega) (by omega))
  |false=>
   have l1:lt (p.getD (m-1) 0) (p.getD m 0)=true:=by
    rcases S.tot _ _ (hp.bd (show m-1<n by omega)) (hp.bd (show m<n by omega)) (hp.ne (by omega) (by omega) (by omega))with h |h
    .exact h
    .rw[z]at h;cases h
   refine⟨hp.bd (by omega),hp.bd (by omega),?_⟩;rw[l1];exact⟨rfl,rfl,h1,by show m<=n;omega,h3⟩
theorem fL.of(h:fL n p)(e:q.Perm p):fL n q:=(Array.Perm.toList e).trans h
theorem Zr{m k:Nat}(hm:m<=p.size)(hk:k<m):(kas_rev p 0 m).getD k 0=p.getD (m-1-k) 0:=by
 unfold kas_rev;rw[gD?,gD?,getElem?_mirror_all hm,if_pos ⟨du _,hk⟩,l6]
theorem D5(S:lP lt n){p:Array Nat}(hp:fL n p){m:Nat}(h1:1<=m)(h2:m<=n)(h3:Dn lt p m):iU lt n (kas_tail3 m n p) (λr=>1<=r.1/\r.1<=n/\fL n r.2/\Up lt r.2 r.1):=by
 have hq:fL n (kas_rev p 0 m):=hp.of (mirror_perm _ _ _ _);refine qR _ (nR (λr ⟨a,b,c,d⟩=>⟨by show 1<=r;omega,b,hq,c⟩) _ (Qd S hq _ m h1 (by omega) λi j hij hj=>?_));have hs:m<=p.size:=by rw[hp.size];exact h2
 rw[Zr hs (by omega),Zr hs hj];exact h3 _ _ (by omega) (by omega)
theorem J6(S:lP lt n)(h2:2<=n){p:Array Nat}(hp:fL n p):iU lt n (kas_count n p) (λr=>1<=r.1/\r.1<=n/\fL n r.2/\Up lt r.2 r.1):=by
 refine qR _ (nR (λr hq=>?_) _ (Qd S hp (n-1) 1 (aq _) (by omega) λi j hij hj=>by omega));rcases hq with⟨a,b,c,d⟩
 by_cases e:(r==n)=true
 .rw[if_pos e]
  exact⟨a,b,hp,c⟩
 .rw[if_neg e]
  have e:r≠n:=by simpa using e
  by_cases h:r>1
  .rw[if_pos h]
   have l:=c 0 (r-1) (by omega) (by omega);refine⟨hp.bd (by omega),hp.bd (by omega),?_⟩;rw[l];exact⟨a,b,hp,c⟩
  .rw[if_neg h]
   have e1:r=1:=by omega
   subst e1;rcases d with d |d
   .exact absurd d e
   .refine qR _ (nR (λr ⟨q1,q2,q3,q4,q5⟩=>?_) _ (Bp S hp (n-(1+1)) (1+1) (aq _) (by omega) λi j hij hj=>?_))
    .have e1:i=0:=by omega
     have e2:j=1:=by omega
     rw[e1,e2];exact d
    .rw[if_neg (by rw[q2];exact jc 0),q1]
     exact D5 S hp (by omega) q4 q5
theorem Sb(S:lP lt n){p:Array Nat}(hp:fL n p){k:Nat}(hk:k<n)(u:Up lt p k):∀f l r,l<=r->r<=k->r-l<=f->(∀i,i<l->lt (p.getD i 0) (p.getD k 0)=true)->(∀i,r<=i->i<k->lt (p.getD k 0) (p.getD i 0)=true)->
  iU lt n (kas_place p k f l r) (λx=>x<=k/\(∀i,i<x->lt (p.getD i 0) (p.getD k 0)=true)/\∀i,x<=i->i<k->lt (p.getD k 0) (p.getD i 0)=true)
 |0,l,r,h1,h2,h3,h4,h5=>⟨by omega,h4,λi a b=>h5 i (by omega) b⟩
 |f+1,l,r,h1,h2,h3,h4,h5=>by
  unfold kas_place
  by_cases h:l>=r
  .rw[if_pos h]
   exact⟨by omega,h4,λi a b=>h5 i (by omega) b⟩
  .rw[if_neg h]
   refine⟨hp.bd hk,hp.bd (by omega),?_⟩;cases z:lt (p.getD k 0) (p.getD ((l+r)/2) 0)with
   |true=>
    refine Sb S hp hk u f l ((l+r)/2) (by omega) (by omega) (by omega) h4 λi a b=>?_
    by_cases e:i=(l+r)/2
    .rw[e];exact z
    .exact S.tr _ _ _ (hp.bd hk) (hp.bd (by omega)) (hp.bd (by omega)) z (u _ i (by omega) b)
   |false=>
    have l1:lt (p.getD ((l+r)/2) 0) (p.getD k 0)=true:=by
     rcases S.tot _ _ (hp.bd (show(l+r)/2<n by omega)) (hp.bd hk) (hp.ne (by omega) hk (by omega))with h |h
     .exact h
     .rw[z]at h;cases h
    refine Sb S hp hk u f ((l+r)/2+1) r (by omega) h2 (by omega) (λi a=>?_) h5
    by_cases e:i=(l+r)/2
    .rw[e];exact l1
    .exact S.tr _ _ _ (hp.bd (by omega)) (hp.bd (by omega)) (hp.bd hk) (u i _ (by omega) (by omega)) l1
theorem Fs{k l:Nat}(hk:k<p.size)(hl:l<=k)(j:Nat):(bubble p k (k-l)).getD j 0=if j=l then p.getD k 0 else if l<j/\j<=k then p.getD (j-1) 0 else p.getD j 0:=by
 have e:k-(k-l)=l:=by omega
 simp only[gD?];rw[getElem?_bubble hk _ (by omega),e]
 repeat' split
 all_goals rfl
theorem Cs(S:lP lt n):∀f(p:Array Nat) k,fL n p->k+f=n->Up lt p k->iU lt n (kas_bin f p k) (λq=>fL n q/\Up lt q n)
 |0,p,k,hp,h2,u=>by
  have e:k=n:=by omega
  subst e;exact⟨hp,u⟩
 |f+1,p,k,hp,h2,u=>by
  have hk:k<n:=by omega
  refine qR _ (nR (λl hq=>?_) _ (Sb S hp hk u k 0 k (du _) (aq _) (by omega) (λi h=>by omega) λi h g=>by omega));rcases hq with⟨a,b,c⟩;refine Cs S f _ (k+1) (hp.of (bubble_perm _ _ _)) (by omega) λi j hij hj=>?_;have hs:k<p.size:=by rw[hp.size];exact hk
  rw[Fs hs a,Fs hs a]
  by_cases ei:i=l
  .grind
  .rw[if_neg ei]
   by_cases ej:j=l
   .rw[if_pos ej,if_neg (by omega)]
    exact b i (by omega)
   .rw[if_neg ej]
    by_cases gi:l<i/\i<=k
    .rw[if_pos gi,if_pos (by omega)]
     exact u _ _ (by omega) (by omega)
    .rw[if_neg gi]
     by_cases gj:l<j/\j<=k
     .rw[if_pos gj]
      exact u _ _ (by omega) (by omega)
     .rw[if_neg gj]
      exact u _ _ (by omega) (by omega)
theorem aa7(S:lP lt n)(h2:2<=n):iU lt n (jx n) (λq=>fL n q/\Up lt q n):=by
 refine qR _ (nR (λr hq=>?_) _ (J6 S h2  (List.Perm.refl _)));rcases hq with⟨a,b,c,d⟩
 by_cases h:r.1<n
 .rw[if_pos h]
  have e:max r.1 1=r.1:=by omega
  rw[e];exact Cs S _ _ _ c (by omega) d
 .rw[if_neg h]
  have e:r.1=n:=by omega
  exact⟨c,by simp_all ⟩
end
section
variable{α:Type}{lt:α->α->Bool}
noncomputable def ins(lt:α->α->Bool)(x:α):List α->List α
 |[]=>[x]
 |y::r=>if lt x y then x::y::r else y::ins lt x r
noncomputable def gJ(lt:α->α->Bool):List α->List α
 |[]=>[]
 |x::r=>ins lt x (gJ lt r)
structure sL(lt:α->α->Bool):Prop where
 irr:∀x,lt x x=false
 tr:∀x y z,lt x y=true->lt y z=true->lt x z=true
 tot:∀x y,x≠y->lt x y=true\/lt y x=true
theorem Fb(x:α):∀l,(ins lt x l).Perm (x::l)
 |[]=>.refl _
 |y::r=>by
  unfold ins;split
  .rfl
  .exact((Fb x r).cons y).trans (.swap x y r)
theorem sY:∀l,(gJ lt l).Perm l
 |[]=>.refl _
 |x::r=>(Fb x _).trans ((sY r).cons x)
theorem Wq(O:sL lt)(x:α):∀l,x∉l->l.Pairwise (λa b=>lt a b=true)->(ins lt x l).Pairwise (λa b=>lt a b=true)
 |[],_,_=>by simp[ins]
 |y::r,nx,h=>by
  unfold ins;split
  .rename_i z
   refine ye.mpr ⟨λa ha=>?_,h⟩;rcases cr.mp ha with rfl |ha
   .exact z
   .exact O.tr _ _ _ z ((ye.mp h).1 a ha)
  .rename_i z
   obtain⟨h1,h2⟩:=ye.mp h;refine ye.mpr ⟨λa ha=>?_,Wq O x r (λm=>nx (cj _ m)) h2⟩;rcases cr.mp ((Fb x r).subset ha)with rfl |ha
   .rcases O.tot a y (λe=>nx (by rw[e];exact ce))with q |q
    .exact absurd q z
    .exact q
   .exact h1 a ha
theorem Hc(O:sL lt):∀l:List α,l.Nodup->(gJ lt l).Pairwise (λa b=>lt a b=true)
 |[],_=>.nil
 |x::r,h=>by
  obtain⟨h1,h2⟩:=la.mp h;exact Wq O x _ (λm=>h1 ((sY r).subset m)) (Hc O r h2)
theorem Bq(O:sL lt){A B:List α}(hp:A.Perm B)(ha:A.Pairwise (λa b=>lt a b=true))(hb:B.Pairwise (λa b=>lt a b=true)):A=B:=
 hp.eq_of_pairwise (λu v _ _ h g=>by
  have:=O.tr _ _ _ h g;rw[O.irr]at this;cases this) ha hb
end
theorem Gc:sL HT.lexLt:=⟨kM,pB,λx y h=>(xD x y).elim (λe=>absurd e h) id⟩
end
section
open PySem.W (KasT kas_sort kas_ask KatTups kat_run kat_kind kas_item kat_snds KdlSrc kdl_extend)
section
variable{prog:Program}{w:ar}{A:ax}{E:Value->aa->Prop}{s:aa}
noncomputable def Av(prog:Program)(w:ar)(A:ax)(κ:yf)(lt:Nat->Nat->Bool)(vs:FN)(s:aa)(a:Addr):Prop:=∀(h':Heap)(tk:bj)(E:Value->aa->Prop),(∀b o,b≠a->s.heap.get? b=some o->h'.get? b=some o)->
 (∀Q:yf->aa->Prop,Q κ {s with heap:=h',toks:=tk}->wpAny (model prog w) A (keyKind' vs.toArray) Q E {s with heap:=h',toks:=tk})/\
 ∀i j(C:Bool->aa->Prop),i<vs.length->j<vs.length->C (lt i j) {s with heap:=h',toks:=tk}->kas_ask prog w A κ vs i j C {s with heap:=h',toks:=tk}
noncomputable def kF(lt:Nat->Nat->Bool)(p:List Nat):Prop:=p.Pairwise λi j=>lt i j=true
theorem W9{lt:Nat->Nat->Bool}{p:Array Nat}{n:Nat}(hp:fL n p)(u:Up lt p n):kF lt p.toList:=by
 unfold kF;rw[o0];intro i j hi hj hij;have hs:=hp.size;rw[jz]at hi hj;have:=u i j hij (by omega);rw[gD hi,gD hj]at this;simpa using this
theorem Cw{a:Addr}{vs:FN}{lt:Nat->Nat->Bool}{κ:yf}{n:Nat}{P:uv->aa->Prop}(ho:s.heap.get? a=some (seqObj "list" vs.toArray n))(h64:vs.length<64)(hS:lP lt vs.length)(hk:2<=vs.length->Av prog w A κ lt vs s a)
  (h:∀p:List Nat,p.Perm (ci vs.length)->kF lt p->P (.done (.ret .none)) {s with heap:=sortedHeap s.heap a vs (iw (p.map λi=>vs.getD i br))}):
  wpAny (model prog w) A (Builtin.«list.sort» ⟨[.ref a],[]⟩) P E s:=by
 have ha:a<s.heap.objs.size:=bh ho;obtain⟨e1,ho1⟩:∃e1,(s.heap.update a (fz λ_=>(#[]:Array Value))).get? a=some (seqObj "list" #[] e1):=⟨_,sy ho λ_=>#[]⟩;have kp:∀b o,b≠a->s.heap.get? b=some o->(((s.heap.update a (fz λ_=>(#[]:Array Value))).push (seqObj "tuple" vs.toArray 0)).push (seqObj "list" #[] 0)).get? b=some o:=λb o hb e=>
  av _ (av _ ((td _ _ _ _ hb).trans e))
 have na:(((s.heap.update a (fz λ_=>(#[]:Array Value))).push (seqObj "tuple" vs.toArray 0)).push (seqObj "list" #[] 0)).get? a=some (seqObj "list" #[] e1):=av _ (av _ ho1);rw[list_sort_plain];refine ae (listItems_at ho rfl ?_);refine ae (uw ho rfl ?_ (by rw[ay,ia];omega) (du _));refine ae (uz ho1 rfl ?_);refine ae (i9 ?_ (by show vs.length<=_;rw[ia];omega));refine ae (xy ?_ (du _));refine ix ?_;show wpAny (model prog w) A _ P E {s with heap:=((s.heap.update a (fz λ_=>(#[]:Array Value))).push (seqObj "tuple" vs.toArray 0)).push (seqObj "list" #[] 0)};dsimp only
 by_cases hn2:vs.toArray.size<2
 .rw[if_pos hn2,if_pos hn2]
  refine ae (aj ?_);rw[StateT.run_pure];refine ae (aj ?_);dsimp only;refine ae (uz na rfl ?_);have hl2:vs.length<2:=by simpa using hn2
  have eo:(arrOf (SortSt.mk' general' (vs.toArray.zip vs.toArray) #[] 7 none)).map (·.2)=iw ((ci vs.length).map λi=>vs.getD i br):=by
   grind
  rw[eo];refine ae (uw na rfl ?_ (du _) (by rw[ay,aw,oi,ia];omega));simp only[bne_self_eq_false,tf,if_false];refine aj (h _ (.refl _) ?_);unfold kF;rw[o0];intro i j hi hj hij;rw[oi]at hi hj;omega
 rw[if_neg hn2,if_neg hn2];have h2:2<=vs.length:=by simpa using hn2
 obtain⟨hkk,hc⟩:=hk h2 _ s.toks E kp;refine ae (hkk _ ?_);obtain⟨_,hc⟩:=hk h2 _ s.toks E kp;refine ae (im (kat_run (Q:=λst' s'=>∃p:Array Nat,p.size=vs.length/\arrOf st'=p.map (kas_item (vs.toArray.zip vs.toArray))/\failedOf st'=none/\(fL vs.length p/\Up lt p vs.length)/\s'={s with heap:=((s.heap.update a (fz λ_=>(#[]:Array Value))).push (seqObj "tuple" vs.toArray 0)).push (seqObj "list" #[] 0)})
  
  rfl h2 h64 (λp' st' s' a1 a2 a3 a4=>⟨p',a1,a2,a3,a4⟩) ?_) ?_ λ_ _ e=>e)
 .exact Mo (λi j C hi hj hC=>hc i j C hi hj hC) _ (nR (λp hp=>⟨hp,rfl⟩) _ (aa7 hS h2))
 rintro⟨⟨⟩,st'⟩ s' ⟨p,hp,har,hf,hpl,rfl⟩
 dsimp only;have hout:=kat_snds rfl har;have hsz:(iw (p.toList.map λi=>vs.getD i br)).size=vs.length:=by rw[ay,aw,jz,hp]
 rw[hout];refine ae (uz na rfl ?_);refine ae (uw na rfl ?_ (du _) (gm (ud hsz) (by rw[ia];omega)));rw[hf];simp only[bne_self_eq_false,tf,if_false];exact aj (h _ hpl.1 (W9 hpl.1 hpl.2))
theorem Gi{T:String}{r d:Addr}{n:Nat}{P:Nat->Value->Prop}{OK:Heap->Prop}{Q:FN->aa->Prop}(K:KdlSrc prog w T r d n P OK)(hh:A.handled=none)(hok:OK s.heap)(hn:n<=sizeLine)
  (hQ:∀h' tk acc,(∀b o,s.heap.get? b=some o->h'.get? b=some o)->ItemsOf P acc n->Q acc.toList {s with heap:=h',toks:=tk}):wpAny (model prog w) A (collect (.ref r)) Q E s:=by
 obtain⟨l1,l2⟩:=K.there _ hok;unfold collect;refine ae (wpAny_runValue (mn F.entry_proto_collect ?_));refine ae (io ?_);refine aj ⟨ot DP _,mn DD ?_⟩;rw[oq DP _];have hS:(s.heap.push {cls:=.type "list",data:=.seq ([]:FN).toArray}).get? s.heap.objs.size=some {cls:=.type "list",data:=.seq #[] 0}:=cy _ rfl;refine im (kdl_extend (A:=A) (R:=λr s'=>r=.ok (.ret (.ref s.heap.objs.size))/\∃h' tk acc c,s'={s with heap:=h',toks:=tk}/\(∀b o,b≠s.heap.objs.size->(s.heap.push {cls:=.type "list",data:=.seq ([]:FN).toArray}).get? b=some o->h'.get? b=some o)/\h'.get? s.heap.objs.size=some {cls:=.type "list",dict:=none,data:=.seq acc c,slots:=#[]}/\ItemsOf P acc n)
   K hh (K.keep _ _ hok λb _ o e=>av _ e) s.heap.objs.size (ky l1) (ky l2) _ 0 hS (λh' tk acc c k1 k2 k3=>⟨rfl,h',tk,acc,c,rfl,k1,k2,k3⟩) hn) (λfin s' h=>?_) (λe s' h=>?_)
 .have fin':∀s',(∃h' tk acc c,s'={s with heap:=h',toks:=tk}/\(∀b o,b≠s.heap.objs.size->(s.heap.push {cls:=.type "list",data:=.seq ([]:FN).toArray}).get? b=some o->h'.get? b=some o)/\h'.get? s.heap.objs.size=some {cls:=.type "list",dict:=none,data:=.seq acc c,slots:=#[]}/\ItemsOf P acc n)->wpAny (model prog w) A (match cw s.heap.objs.size with
   |cw a=>do
    match(<-load a).data with
     |Data.seq xs _=>pure xs.toList
     |_=>unsupported "internal:collect"
   |_=>unsupported "internal:collect") Q E s':=by
   rintro s' ⟨h',tk,acc,c,rfl,k1,k2,k3⟩
   refine ae (wpAny_load k2 ?_);refine aj (hQ h' tk acc (λb o hb=>k1 b o (df (bh hb)) (av _ hb)) k3)
  cases fin with
  |done f=>
   obtain⟨e,h⟩:=h;cases e;exact fin' s' h
  |again c'=>exact⟨h.1,nu h.2 λr s'' hr=>by obtain⟨rfl,h⟩:=hr;exact fin' s'' h⟩
 .exact absurd h.1 (by simp)
theorem Fa{vs:FN}{lt:Nat->Nat->Bool}{κ:yf}{Q:Value->aa->Prop}(h64:vs.length<64)(hS:lP lt vs.length)(hk:∀h1 tk a,(∀b o',s.heap.get? b=some o'->h1.get? b=some o')->s.heap.get? a=none->2<=vs.length->Av prog w A.in1.in1 κ lt vs {s with heap:=h1,toks:=tk} a)
  (hcol:∀(Q':FN->aa->Prop)(E':Value->aa->Prop),(∀h1 tk,(∀b o',s.heap.get? b=some o'->h1.get? b=some o')->Q' vs {s with heap:=h1,toks:=tk})->wpAny (model prog w) A.in1 (collect (.ref l)) Q' E' s)
  (h:∀(h1 h':Heap)(c:Nat)(tk:bj)(p:List Nat),p.Perm (ci vs.length)->kF lt p->(∀b o',s.heap.get? b=some o'->h1.get? b=some o')->(∀b o',h1.get? b=some o'->h'.get? b=some o')->h'.get? h1.objs.size=some (seqObj "list" (iw (p.map λi=>vs.getD i br)) c)->Q (.ref h1.objs.size) {s with heap:=h',toks:=tk}):
  wpAny (model prog w) A (call (.builtin "sorted") [.ref l]) Q E s:=by
 refine DA kind_sorted plain_sorted entry_sorted (args_sorted1 _) ?_;unfold DB;refine ae (m:=checkCount "sorted" 1 1 _) (aj ?_);refine ae (hcol _ _ λh1 tk k1=>?_);refine ae (xy ?_ (by rw[ia];omega));have hoL:(h1.push _).get? h1.objs.size=some (seqObj "list" vs.toArray 0):=cy _ rfl;show wpAny _ _ _ _ _ {s with heap:=h1.push (seqObj "list" vs.toArray 0),toks:=tk};refine ae (ix (jk slot_list_sort ⟨_,hoL,rfl⟩ entry_list_sort ?body (args_list_sort _)))
 case body=>
  have nn:s.heap.get? h1.objs.size=none:=by
   cases z:s.heap.get? h1.objs.size with
   |none=>rfl
   |some o=>exact absurd (bh (k1 _ _ z)) (jc _)
  refine Cw  hoL h64 hS (hk _ tk _ (λb o hb=>av _ (k1 b o hb)) nn) λp hp hu=>⟨_,rfl,aj ⟨_,rfl,?_⟩⟩;obtain⟨e1,ho1⟩:∃e1,((h1.push (seqObj "list" vs.toArray 0)).update h1.objs.size (fz λ_=>#[])).get? h1.objs.size=some _:=⟨_,sy hoL λ_=>#[]⟩;have ho2:=av (seqObj "list" #[] 0) (av (seqObj "tuple" vs.toArray 0) ho1);obtain⟨e2,ho3⟩:∃e2,(sortedHeap (h1.push (seqObj "list" vs.toArray 0)) h1.objs.size vs (iw (p.map λi=>vs.getD i br))).get? h1.objs.size=some _:=⟨_,sy ho2 _ ⟩;refine h h1 _ e2 tk p hp hu k1 (λb o' hb1=>?_) ho3;have hne:=df (bh hb1);exact(td _ _ _ _ hne).trans (av _ (av _ ((td _ _ _ _ hne).trans (av _ hb1))))
end
end
open L2.Pp
noncomputable def uM(uss:FJ)(i j:Nat):Bool:=HT.lexLt (uss.getD i []) (uss.getD j [])
theorem aaY(nd:uss.Nodup):lP (uM uss) uss.length:=by
 refine⟨λi j k _ _ _ h g=>pB _ _ _ h g,λi j hi hj ne=>?_⟩;rcases xD (uss.getD i []) (uss.getD j [])with e |e |e
 .refine absurd (Pp.nodup_idx nd   (a:=uss[i]) (by simp[hi]) ?_) ne
  simp_all
 .exact .inl e
 .exact .inr e
section
variable{X:Cx}{FX:List (Addr×Obj)}{σ:St}{H:Hp}{s:aa}
theorem Eb(rv:bB ts its):∀ps:List Nat,bB (ps.map λi=>ts.getD i .non) (ps.map λi=>its.getD i br)
 |[]=>.nil
 |i::ps=>by
  have hlen:=rv.length;refine .cons ?_ (Eb rv _)
  by_cases hi:i<ts.length
  .obtain⟨v,e2,rr⟩:=rv.get (bf hi)
   have q1:ts.getD i .non=ts[i]:=by simp[cg,hi]
   simp_all
  .have q1:ts.getD i .non=.non:=by simp[cg,hi]
   have q2:its.getD i br=br:=by grind
   show bK (ts.getD i _) (its.getD i _);rw[q1,q2];rfl
theorem R5(I:aG X FX σ H s){l:Addr}{ts:List V}{uss:FJ}{its:FN}{Q:VK}(rv:bB ts its)(hr:rW X.K H ts uss)(h64:ts.length<64)(nd:uss.Nodup)
  (hcol:∀(Q':FN->aa->Prop)(E':Value->aa->Prop),(∀h1 tk,(∀b o',s.heap.get? b=some o'->h1.get? b=some o')->Q' its {s with heap:=h1,toks:=tk})->wpAny (model X.prog X.w) X.A.in1 (collect (.ref l)) Q' E' s)
  (q:∀l p,H l=none->p.Perm (ci ts.length)->kF (uM uss) p->Q (.ref l) (aS H l (.lst (p.map λi=>ts.getD i .non)))):
  wpAny (model X.prog X.w) X.A (call (.builtin "sorted") [.ref l]) (EP X FX σ Q) X.xe s:=by
 obtain⟨hl,ht⟩:=hr;have hlen:=rv.length;have hi:its.length=uss.length:=by omega
 have tu:∀i,i<its.length->oG s.heap (its.getD i br) (uss.getD i [])/\uss.getD i []≠[]:=λi hi=>by
  have hi':i<ts.length:=by omega
  obtain⟨b,e1,sq,ne⟩:=ht i ts[i] (bf hi');obtain⟨v,e2,rel⟩:=rv.get (bf hi');rw[e1]at rel;cases rel;obtain⟨jts,rj,⟨o2,ho2,hc2,m,hd2⟩,_⟩:=I.tuple sq;refine⟨⟨b,o2,jts,m,?_,ho2,hc2,hd2,rj⟩,ne⟩;rw[cg,e2];rfl
 refine Fa (κ:=tuples' true)  (by omega) (by rw[hi];exact aaY nd) (λh1 tk a k1 ha h2=>?_) hcol λh1 h' c tk p hp hu k1 k2 e=>?_
 .intro h' tk2 E kp
  have tu2:∀i,i<its.length->oG h' (its.getD i br) (uss.getD i [])/\uss.getD i []≠[]:=λi hi=>by
   obtain⟨⟨b,o,jts,m,e,hb,hc,hd,r⟩,ne⟩:=tu i hi;refine⟨⟨b,o,jts,m,e,kp b o (λz=>?_) (k1 b o hb),hc,hd,r⟩,ne⟩;rw[z,ha]at hb;cases hb
  refine⟨λQ q=>?_,λi j C hi hj hC=>Er (tu2 i hi).1 (tu2 j hj).1 hC⟩;obtain⟨fs,kt,lf,qf⟩:=Ea (s:={s with heap:=h',toks:=tk2}) its uss hi tu2;refine PySem.W.kat_kind (T:=.type "int") kt (by omega) (λv hv=>?_) rfl ?_
  .obtain⟨i,t,rfl⟩:=qf v hv
   exact .now
  .exact q
 .have I1:aG X FX σ H {s with heap:=h1,toks:=tk}:=I.kept k1
  have hz2:(p.map λi=>ts.getD i .non).length<=sizeLine:=by
   rw[aw,hp.length_eq,oi,ia];omega
  refine⟨.ref _,_,I1.laid   k2 (aq _) ?_,rfl,q _ p (I1.hok.fresh (aq _)) (by rw[hlen];exact hp) hu⟩;exact⟨hz2,_,c,Eb rv p,e⟩
theorem Vw(hc:X.calm=true):jC X (.builtin "sorted") (λxs H Q=>∃(a:Addr)(n:Bool)(ks:FS)(rs:List V)(us:FN)(uss:FJ),xs=[.ref a]/\nN H a n ks rs us/\rW X.K H rs uss/\rs.length<64/\uss.Nodup/\
  ∀l p,H l=none->p.Perm (ci rs.length)->kF (uM uss) p->Q (.ref l) (aS H l (.lst (p.map λi=>rs.getD i .non)))):=by
 intro FX s σ H xs us Q I r h;obtain⟨a,n,ks,rs,us',uss,rfl,d,hr,h64,nd,q⟩:=h;obtain⟨u,rfl,ru⟩:=jY r;cases ru;obtain⟨ys,ep,e,z,l,nd2,rfl,rfl,rfl⟩:=d;have ev:bB (ys.map λx=>V.ref x.2.1) (ys.map λx=>cw x.2.1):=by
  clear q hr h64 e l nd2
  induction ys with
  |nil=>exact .nil
  |cons y ys ih=>exact .cons rfl ih
 refine R5 I ev hr h64 nd (λQ' E' h=>?_) q;refine Gi (adc z) (show X.A.in1.handled=none from I.ok.hd hc) (Ze I e) (by simpa using l) λh' tk acc k1 hi=>?_;have e1:acc.toList=ys.map λx=>cw x.2.1:=by
  refine mf λj=>?_;have hz:acc.size=ys.length:=by simpa using hi.1
  by_cases hj:j<ys.length
  .obtain⟨_,ej⟩:=hi.2 j acc[j] (by simp[hz,hj])
   rw[cq,bf hj,wt,om (by omega),ej];simp[nO]
  .rw[qr (by simp;omega),qr (by simp;omega)]
 rw[e1];exact h h' tk k1
end
end L2
namespace L2.Pp
noncomputable section
open PySem PySem.Spec PyProof.Rows Bn
noncomputable def qB(u:FI):PV:=.tup (u.map .int)
open Classical in
noncomputable def pQ(xs:FS):FT:=match iC xs with
 |some uss=>if uss.length<64/\uss.Nodup/\[]∉uss then some (.lst ((gJ HT.lexLt uss).map qB))else none
 |none=>none
noncomputable def ael:FS->FT
 |[.lst xs]=>pQ xs
 |[.tup xs]=>pQ xs
 |_=>none
theorem Op:∀{xs:FS}{is:FI},fV xs=some is->xs=is.map .int
 |[],is,e=>by cases e;rfl
 |.int i::r,is,e=>by
  unfold fV at e;split at e
  .rename_i js h
   cases e;rw[Op h];rfl
  .cases e
 |.non::_,_,e=>by cases e
 |.bl _::_,_,e=>by cases e
 |.tup _::_,_,e=>by cases e
 |.str _::_,_,e=>by cases e
 |.lst _::_,_,e=>by cases e
theorem Fc:∀{xs:FS}{uss:FJ},iC xs=some uss->xs=uss.map qB
 |[],uss,e=>by cases e;rfl
 |.tup _::r,uss,e=>by
  unfold iC at e;split at e
  .rename_i is uss' h1 h2
   cases e;rw[Fc h2,Op h1];rfl
  .cases e
 |.non::_,_,e=>by cases e
 |.bl _::_,_,e=>by cases e
 |.int _::_,_,e=>by cases e
 |.str _::_,_,e=>by cases e
 |.lst _::_,_,e=>by cases e
theorem abA{p:List Nat}(hp:p.Perm (ci uss.length))(hu:kF (uM uss) p)(nd:uss.Nodup):(gJ HT.lexLt uss).map qB=p.map λi=>(uss.map qB).getD i .non:=by
 have e0:p.map (λi=>(uss.map qB).getD i .non)=(p.map λi=>uss.getD i []).map qB:=by
  rw[ff];refine ij λi hi=>?_;have:=by
   have:=hp.subset hi;simpa using this
  simp[cg,this]
 rw[e0];congr 1;have e1:(ci uss.length).map (λi=>uss.getD i [])=uss:=by
  refine uo (by simp) λi h1 h2=>?_;simp[cg,h2]
 have pm:=by
  have:=hp.map (λi=>uss.getD i []);rw[e1]at this;exact this
 refine Bq Gc ((sY uss).trans pm.symm) (Hc Gc uss nd) ?_;rw[DQ];exact hu
section
variable{K:ah}
theorem G0{xs:FS}{vs:List V}{uss:FJ}(hu:iC xs=some uss)(r:aM K c H xs vs)(ne:[]∉uss):rW K H vs uss:=by
 have l1:=wM hu;have l2:=r.length;refine⟨by omega,λi t h=>?_⟩;obtain⟨b,e1,e2⟩:=Xb hu r i t h;have hi:i<uss.length:=by
  grind
 refine⟨b,e1,e2,?_⟩;rw[cg,bf hi];exact λz=>ne (z▸jm _)
end
noncomputable def xY(d:AV)(S:aI):bI AV:=match d with
 |.ref j=>(match S[j]? with
  |some (.dol _ kvs)=>iJ (pQ (kvs.map (·.1))) S
  |_=>.fail)
 |_=>.fail
noncomputable def xP(ms:MA):ME:=λρ S=>(ms ρ S).bind λds S1=>match ds with
 |[d]=>xY d S1
 |_=>.fail
section
variable{K:ah}{cl:Str->Addr}{E:XK}{X:Cx}{p q:Ph}{H:Hp}{S:aI}{a e:ai}{ms:MA}{pos:ak}
theorem M4{x:Str}{px:ak}(hc:X.calm=true)(hg:Gl X x)(hm:X.mg x=none)(hv:bootBuiltins x=some (.builtin "sorted"))(ha:dS K cl E X [e] ms)(hn:x≠"__name__":=by decide)(hdb:(x==("__debug__":Str))=false:=by decide)
  (he:starEach [e] X.env=(false,eval e X.env)::starEach [] X.env:=by rfl)(hpl:(backTo pos (starEach [] X.env)).any (·.1)=false:=by rfl):aT K cl E X (.Call (.Name x px) [e] [] pos) (xP ms):=by
 intro hK;subst hK;refine PE.imp (wF (Vw hc) hg hm hv (ha rfl) hn hdb he hpl) ?_
 rintro σ H Q ⟨p,S,ρ,s,ev,h⟩
 refine bT s ev h λq H1 ds xs S1 st s1 e1 r1 h1=>?_;cases r1 with
 |nil=>exact h1.elim
 |cons r1 rr=>
  cases rr with
  |cons _ _=>exact h1.elim
  |nil=>
   rename_i d x;cases d with
   |pv _=>exact h1.elim
   |ref j=>
    obtain⟨a,ej,rfl⟩:=r1;unfold xY at h1;dsimp only at h1;split at h1
    .rename_i n kvs hS
     obtain⟨bs,d,_⟩:=s1.obj j a _ ej hS;obtain⟨rs,dw,rr⟩:=Hr d;obtain⟨c,ec,k⟩:=pI s1 h1;unfold pQ at ec;split at ec
     .rename_i uss hu
      split at ec
      .rename_i hcc
       cases ec;obtain⟨c1,c2,c3⟩:=hcc;have l1:=wM hu;have l2:=rr.length;refine⟨a,n,_,rs,_,uss,rfl,dw,G0 hu rr c3,by omega,c2,λl ps hl hp hup=>?_⟩;refine k _ _ (fS hl) ?_;rw[abA (by rw[<-l1,l2];exact hp) hup c2,<-Fc hu];refine lC s1 (vY rr _) ?_ hl;rw[aw,hp.length_eq,oi,iP];omega
      .cases ec
     .cases ec
    .exact h1.elim
end
end
end L2.Pp
namespace L2
open PySem PySem.Spec PyProof.Rows Bn
open L2.Pp
section
variable{prog:Program}{w:ar}{K:Type}[DecidableEq K]{knd:HeapKind prog w K}{A:ax}{E:Value->aa->Prop}{s:aa}{d a:Addr}{k:K}{xs:List (K×Addr×Value)}
theorem Xw{dflt:Value}{Q:Value->aa->Prop}(hu:knd.room A)(hkey:knd.is s.heap k a)(hm:s.heap.DictOfH knd d xs)
  (h1:∀p,atKey xs k=some p->Q p.2 {s with toks:=s.toks+knd.draws k})
  (h2:atKey xs k=none->∀h',h'.DictOfH knd d (storedH xs k a dflt)->il d s.heap h'->Q dflt {s with heap:=h',toks:=s.toks+knd.draws k})
  (hsz:xs.length<=sizeLine):wpAny (model prog w) A (dictSetDefault d (.ref a) dflt) Q E s:=by
 obtain⟨o,es,ep,ho,hc,hd,he,his,hn⟩:=hm;unfold dictSetDefault
 try with_reducible refine ix ?_
 refine ae (knd.pyHash hu hkey ?_);refine ae (wpAny_dictFind_heap  hu hkey ho hd he his hn ?_ ?_)
 .intro hno
  have hnot:=not_mem_keys_of_get hno;refine ae (ka (ae (wpAny_updateDictKeys (hz:=by have e:=size_of_entries he;omega)  ho hd (aj (h2 (vb hno) _ ⟨_,_,ep+1,lg _ ho (Obj.isFreed_of_dict (DR hd _)),
   hc.mapDictKeys _,DR hd _,?_,?_,?_⟩ (kj ..))))))
  .rw[qu (vb hno)]
   simp[he,entryOfKey]
  .rw[qu (vb hno)]
   intro x hx;rcases dk.mp hx with hx |hx
   .exact knd.keeps (his x hx) ho hd (kj ..)
   .simp only[vd]at hx
    subst hx;exact knd.keeps hkey ho hd (kj ..)
  .rw[qu (vb hno)]
   rw[ik,qs];refine⟨hn,by simp,?_⟩;intro x hx y hy;simp only[cf,ig,vd]at hy;subst hy;exact λe=>hnot (e▸hx)
 .intro j p hj
  refine ae (o7  ho hd ?_);have e:es[j]?=some (entryOfKey knd (k,p)):=by rw[entry_at he j,hj];rfl
  rw[e];exact ae (ka (aj (h1 p (atKey_of_get hn hj))))
theorem Rv(hd:(d==sysModules)=false)(dflt:Value):
  MeetsIn prog w (Builtin.«dict.setdefault» ⟨[.ref d,.ref a,dflt],[]⟩) (λA R s=>knd.room A.in1/\∃k xs,knd.is s.heap k a/\s.heap.DictOfH knd d xs/\xs.length<=sizeLine/\
   (∀p,atKey xs k=some p->R (.ok (.ret p.2)) {s with toks:=s.toks+knd.draws k})/\
   (atKey xs k=none->∀h',h'.DictOfH knd d (storedH xs k a dflt)->il d s.heap h'->R (.ok (.ret dflt)) {s with heap:=h',toks:=s.toks+knd.draws k})):=
 .of_wp λA R s ⟨hu,k,xs,hkey,hm,hz,h1,h2⟩=>by
  refine ae ?_;refine ae (DN hm.typeIs ?_);refine aj ?_;show wpAny _ _ (if(d==sysModules)=true then _ else(dictSetDefault d (.ref a) dflt >>= _)) _ _ s;rw[if_neg (by rw[hd];exact jf)];exact ae (Xw hu hkey hm (λv hv=>aj ⟨_,rfl,h1 v hv⟩) (λhn h' hm' hs'=>aj ⟨dflt,rfl,h2 hn h' hm' hs'⟩) hz)
end
section
variable{X:Cx}{FX:List (Addr×Obj)}{σ:St}{H:Hp}{s:aa}
noncomputable def aey(K:ah):V->List V->Hp->VK->Prop:=λx xs H Q=>∃(a b t:Addr)(c:Addr->Prop)(n:Bool)(k:gZ n)(ks:FS)(rs:List V)(bs:List Addr),x=.ref a/\xs=[.ref b,.ref t]/\nN H a n ks rs (bs.map cw)/\aM K c H ks rs/\aL K c H (dB n k) (.ref b)/\bs.length<sizeLine/\
 (∀(i:Nat)(l:Addr),ks[i]?=some (dB n k)->bs[i]?=some l->Q (.ref l) H)/\
 ∀es ep,(∀i:Nat,ks[i]?≠some (dB n k))->nN (aS H a (dO a es ep)) a n (ks++[dB n k]) (rs++[.ref b]) ((bs++[t]).map cw)->Q (.ref t) (aS H a (dO a es ep))
theorem Vz(hu:X.A.units+2<cLine):Gg X "dict.setdefault" (aey X.K):=by
 intro FX s σ H x xs v us Q I rx rv h;obtain⟨a,b,t,c,n,k,ks,rs,bs,rfl,rfl,d,r,rk,hl,q1,q2⟩:=h;cases rx;obtain⟨u1,u2,rfl,r1,r2⟩:=rv.two;cases r1;cases r2;obtain⟨ys,ep,e,z,l,nd,rfl,rfl,eu⟩:=d;have dd:=Iq I e nd r;have ly:bs.length=ys.length:=by
  have:=congrArg ue eu;simpa using this
 refine call_meetsIn DS dd.typeIs PySem.F.entry_dict_setdefault (PySem.F.args_dict_setdefault_3 _ _ _) (Rv (knd:=lG X.prog X.w n) z (.ref t)) ⟨Mi hu n,k,ys,Ld I rk,dd,l,λp hp=>?_,λhn h' dd' hs=>?_⟩
 .rcases Ob (k:=k) nd with⟨i,p',hx,ha⟩|⟨_,ha⟩
  .rw[ha]at hp
   cases hp;have hi:=(da.mp hx).1;have hb:i<bs.length:=by omega
   have ev:p.2=cw bs[i]:=by
    have:=congrArg (λl:FN=>l[i]?) eu;simp only[cq,hx,bf hb,DT]at this;exact(ck this).symm
   rw[ev];exact⟨.ref bs[i],H,I.tok _,rfl,q1 i _ (by rw[cq,hx];rfl) (bf hb)⟩
  .rw[ha]at hp
   cases hp
 .obtain⟨ob,es,ep',ho,hex,hd,he,_,hnd⟩:=dd'
  have eob:ob=oD es ep':=by
   obtain⟨e1,e2,e3⟩:=hex;cases ob;simp only at e1 e2 e3 hd;subst e1 e2 e3 hd;rfl
  subst eob;have een:nO n=entryOfKey (lG X.prog X.w n):=by
   funext x
   unfold nO entryOfKey;rw[Ji]
  have ees:es=((storedH ys k b (.ref t)).map (nO n)).toArray:=by
   rw[een,<-he]
  have I':aG X FX σ (aS H a (dO a es ep')) {s with heap:=h',toks:=s.toks+(lG X.prog X.w n).draws k}:=
   I.write (x:=a) (e:=a) (by rw[e];exact trivial) (.inl rfl) (λb' q' hb z'=>(hs.2 b' hb).trans z') ⟨_,ho⟩ ⟨ho,⟨_,ho⟩,λh1 h2 p kk=>kk _ p⟩
  rcases Ob (k:=k) nd with⟨i,p',hx,ha⟩|⟨hno,ha⟩
  .rw[ha]at hn
   cases hn
  .refine⟨.ref t,_,I',rfl,q2 es ep' hno ⟨storedH ys k b (.ref t),ep',by rw[eI,ees],z,?_,hnd,?_,?_,?_⟩⟩
   .rw[qu ha,cx]
    show ys.length+1<=sizeLine;omega
   .rw[qu ha,ik]<;>rfl
   .rw[qu ha,ik]<;>rfl
   .rw[qu ha,ik,ik,eu]<;>rfl
end
end L2
namespace L2.Pp
noncomputable section
open PySem PySem.Spec PyProof.Rows Bn
noncomputable def xH(n:Bool):ME:=λ_ S=>.ok (.ref S.length) (S++[.dol n []])
noncomputable def mH(kvs:List (PV×FS))(k v:PV):List (PV×FS):=match jT kvs k with
 |some i=>kvs.set i (k,((kvs[i]?).map (·.2)).getD []++[v])
 |none=>kvs++[(k,[v])]
open Classical in
noncomputable def zD(k v:PV)(S:aI):bI AV:=match S with
 |[.dol n kvs]=>if uP n k/\kvs.length<16777216/\∀kv∈kvs,kv.2.length<16777216 then .ok (.pv .non) [.dol n (mH kvs k v)] else .fail
 |_=>.fail
noncomputable def pY(i j l:Nat):ME:=λρ S=>match ρ[i]?,ρ[j]?,ρ[l]? with
 |some (some (.ref 0)),some (some (.pv k)),some (some (.pv v))=>zD k v S
 |_,_,_=>.fail
section
variable{K:ah}{cl:Str->Addr}{E:XK}{X:Cx}{p q:Ph}{H:Hp}{S:aI}{e:ai}{es:List ai}{pos:ak}
theorem N8(n:Bool):aT K cl E X (.Dict [] [] pos) (xH n):=by
 intro hK;subst hK;refine PE.imp F2 ?_
 rintro σ H Q ⟨p,S,ρ,s,ev,h⟩ t ht hs
 have ob:sC X.K ⟨p.f++[t],λa=>p.w a\/a=t,λa=>p.c a\/a=t⟩ (aS H t (dO t #[] 0)) t (.dol n []):=
  ⟨[],⟨[],0,eI,hs,du _,sv,rfl,.nil,rfl⟩,sv,λ_ h=>(nomatch h),rfl,λi xs b e=>nomatch e ⟩
 obtain⟨st,sm⟩:=s.pushO ht (show Mb (dO t _ 0) from trivial) ob;exact h _ _ _ st sm ⟨t,by rw[<-s.len,fu (aq _),ji];rfl,rfl⟩
theorem Ac{n:Bool}{k:gZ n}{y:V}(ry:aL K c H (dB n k) y):∃b,y=.ref b:=by
 cases n with
 |false=>
  have ry:=ry;obtain⟨b,_,e,_⟩:=ry;exact⟨b,e⟩
 |true=>
  have ry:=ry;obtain⟨b,_,e,_⟩:=ry;exact⟨b,e⟩
theorem aby{i j l:Nat}{x y z:Str}{px py pz pl a1 c1 a2 c2:ak}(hu:X.A.units+8<cLine)(hN1:X.N[i]?=some x)(hN2:X.N[j]?=some y)(hN3:X.N[l]?=some z)
  (hv1:nK X.env.scope x:=by first |exact ic rfl |exact eh (ic rfl) |exact eh (eh rfl))(hv2:nK X.env.scope y:=by first |exact ic rfl |exact eh (ic rfl) |exact eh (eh rfl))(hv3:nK X.env.scope z:=by first |exact ic rfl |exact eh (ic rfl) |exact eh (eh rfl))
  (hd1:(x==("__debug__":Str))=false:=by decide)(hc1:(x==("__classdict__":Str))=false:=by decide)(hd2:(y==("__debug__":Str))=false:=by decide)(hc2:(y==("__classdict__":Str))=false:=by decide)(hd3:(z==("__debug__":Str))=false:=by decide)(hc3:(z==("__classdict__":Str))=false:=by decide)
  (hb1:attributeBase (.Name x px) "setdefault" X.env (eval (.Name x px) X.env)=eval (.Name x px) X.env:=by rfl)
  (hf1:((backTo c1 (starEach [.Name y py,.List [] pl] X.env)).all (λx=>!x.1)&&(backToKw c1 (keywordEach [] X.env)).all (λx=>x.1.isSome)&&decide (([.Name y py,.List [] pl]:List ai).length+([]:List jg).length+(if([]:List jg).isEmpty then 0 else 1)<30))=true:=by rfl)
  (hl1:(a1.endLine==c1.line)=true:=by rfl)(hs1:starEach [.Name y py,.List [] pl] X.env=(false,eval (.Name y py) X.env)::starEach [.List [] pl] X.env:=by rfl)(hp1:(backTo c1 (starEach [.List [] pl] X.env)).any (·.1)=false:=by rfl)
  (hs0:starEach [.List [] pl] X.env=(false,eval (.List [] pl) X.env)::starEach [] X.env:=by rfl)
  (hb2:attributeBase (.Call (.Attribute (.Name x px) "setdefault" a1) [.Name y py,.List [] pl] [] c1) "append" X.env (eval (.Call (.Attribute (.Name x px) "setdefault" a1) [.Name y py,.List [] pl] [] c1) X.env)=eval (.Call (.Attribute (.Name x px) "setdefault" a1) [.Name y py,.List [] pl] [] c1) X.env:=by rfl)
  (hf2:((backTo c2 (starEach [.Name z pz] X.env)).all (λx=>!x.1)&&(backToKw c2 (keywordEach [] X.env)).all (λx=>x.1.isSome)&&decide (([.Name z pz]:List ai).length+([]:List jg).length+(if([]:List jg).isEmpty then 0 else 1)<30))=true:=by rfl)
  (hl2:(a2.endLine==c2.line)=true:=by rfl)(hs2:starEach [.Name z pz] X.env=(false,eval (.Name z pz) X.env)::starEach [] X.env:=by rfl):
  aT K cl E X (.Call (.Attribute (.Call (.Attribute (.Name x px) "setdefault" a1) [.Name y py,.List [] pl] [] c1) "append" a2) [.Name z pz] [] c2) (pY i j l):=by
 intro hK;subst hK;refine PE.imp (xT xw c8 CP sX (ab5 DS PySem.F.type_dict_setdefault (Vz (by omega)) (rM hN1 hv1 hd1 hc1) (mE (rM hN2 hv2 hd2 hc2) (mE (Zd nX) nX hs0) hs1) hb1 hf1 hl1 hs1 hp1) (mE (rM hN3 hv3 hd3 hc3) nX hs2) hb2 hf2 hl2 hs2 rfl) ?_
 rintro σ H Q ⟨p,S,ρ,s,ev,h⟩
 unfold pY at h;split at h
 .rename_i k v q1 q2 q3
  unfold zD at h;split at h
  .rename_i n kvs
   split at h
   .rename_i hc
    obtain⟨⟨k',rfl⟩,hl,hll⟩:=hc;obtain⟨x1,ex,rx⟩:=ev.at_ i _ q1;obtain⟨x2,ey,rk⟩:=ev.at_ j _ q2;obtain⟨x3,ez,rv⟩:=ev.at_ l _ q3;obtain⟨a,ea,rfl⟩:=rx;have rk:aL X.K p.c H (dB n k') x2:=rk;have rv:aL X.K p.c H v x3:=rv;obtain⟨b,rfl⟩:=Ac rk;obtain⟨bs,d,nd,wf,lz,lat⟩:=s.obj 0 a _ ea rfl;obtain⟨rs,dw,rr⟩:=Hr d;have hz:=iP;have lb:bs.length=kvs.length:=by rw[<-lz,aw]
    have mA:a∈p.f:=fy ea;have fl:p.f=[a]:=by
     have:=s.len
     match e:p.f,this with
     |[u],_=>
      rw[e]at ea;cases ea;rfl
    have wa:p.w a:=s.sub a mA;refine⟨_,ex,by obtain⟨ys,ep,e,_⟩:=dw;exact⟨a,_,_,rfl,e⟩,_,ey,?_⟩;refine⟨by show 0<=sizeLine;exact du _,λt ht=>?_⟩;have na:a≠t:=λz=>by
     obtain⟨ys,ep,e,_⟩:=dw;rw[z,ht]at e;cases e
    have sm1:cN H (aS H t (.lst [])):=fS ht;have dw1:nN (aS H t (.lst [])) a n (kvs.map (·.1)) rs (bs.map cw):=by
     obtain⟨ys,ep,e,z⟩:=dw;exact⟨ys,ep,sm1 _ _ e,z⟩
    have st1:bF p H p (aS H t (.lst [])):=s.same sm1;refine⟨a,b,t,p.c,n,k',_,rs,bs,rfl,rfl,dw1,st1.reps rr,st1.rep rk,by omega,λi' l' hi hl'=>?_,λes ep hno dw2=>?_⟩
    ·--there already
     have wl:=wf l' (fy hl');obtain⟨i2,hi2⟩:=Cd hi;obtain⟨w,hw⟩:=rC hi2;have ei:i2=i':=by
      obtain⟨xs,_,_,_,_,ndx,ek,_⟩:=dw;have g1:(kvs.map (·.1))[i2]?=some (dB n k'):=by rw[cq,hw];rfl
      rw[ek,cq]at g1 hi;cases z1:xs[i2]? with
      |none=>rw[z1]at g1;cases g1
      |some x1=>
       cases z2:xs[i']? with
       |none=>rw[z2]at hi;cases hi
       |some x2=>
        rw[z1]at g1;rw[z2]at hi;have e1:x1.1=k':=tD (ck g1);have e2:x2.1=k':=tD (ck hi);exact idxH_unique ndx (p:=x1.2) (q:=x2.2) (k:=k') (by rw[z1,<-e1]) (by rw[z2,<-e2])
     subst ei;obtain⟨ws,g1,g2,g3⟩:=lat i2 w l' (by rw[cq,hw];rfl) hl';have hwl:w.length<16777216:=hll _ (fy hw);have nt:l'≠t:=λz=>by rw[z,ht]at g1;cases g1
     have g1':aS H t (.lst []) l'=some (.lst ws):=by rw[bO nt];exact g1
     refine⟨.inl ⟨rfl,ws,bS.of g1'⟩,_,ez,l',ws,x3,rfl,rfl,g1',by rw[<-g3.length];omega,?_⟩;have st2:bF p H p (aS (aS H t (.lst [])) l' (.lst (ws++[x3]))):=⟨s.wc,s.mu,lp,λ_ h=>h,λ_ h=>h,λ_ h g=>absurd h g,λ_ h g=>absurd h g,λ_ h g=>absurd h g,λc o e nw=>by
      rw[bO (λz:c=l'=>nw (z▸wl.1))];exact sm1 c o e⟩
     have nal:a≠l':=λz=>wl.2 (z▸mA);have ek:mH kvs (dB n k') v=kvs.set i2 (dB n k',w++[v]):=by unfold mH;rw[hi2];simp[hw]
     have hik:i2<kvs.length:=(da.mp hw).1;have e1:(kvs.set i2 (dB n k',w++[v])).map (·.1)=kvs.map (·.1):=by
      rw[List.map_set];refine mf λt=>?_;rw[DU];split
      .rename_i ht
       subst ht;rw[if_pos (by rw[aw];exact hik),cq,hw];rfl
      .rfl
     refine h p _ .non st2 ⟨s.nd,s.len,s.sub,s.wc,λc hc=>?_,λk2 c o f1 f2=>?_⟩ (by unfold bY aL;rfl)
     .by_cases z:c=l'
      .rw[z,eI]
       exact⟨_,rfl,trivial⟩
      .rw[bO z]
       obtain⟨o,ho,mo⟩:=s.mu c hc;exact⟨o,sm1 c o ho,mo⟩
     .have ek2:k2=0:=by
       have:=(da.mp f2).1;simpa using this
      subst ek2;rw[ea]at f1;cases f1;cases f2;rw[ek];refine⟨bs,?_,nd,wf,by rw[aw,kq];exact lb.symm,λi3 xs c f1 f2=>?_⟩
      .rw[e1]
       obtain⟨ys,ep,e,z1,z2,z3,z4,z5,z6⟩:=dw1;exact nN.at_ (rs:=rs) ⟨ys,ep,by rw[bO nal];exact e,z1,z2,z3,z4,z5,z6⟩ (st2.reps rr)
      .rw[cq]at f1
       by_cases h3:i2=i3
       .subst h3
        rw[jq hik]at f1;cases f1;rw[hl']at f2;cases f2;exact⟨ws++[x3],eI,by rw[cx,<-g3.length];show w.length+1<=sizeLine;omega,(st2.reps g3).append (.cons (st2.rep rv) .nil)⟩
       .rw[jy h3,<-cq]at f1
        obtain⟨us,j1,j2,j3⟩:=lat i3 xs c f1 f2;have ncl:c≠l':=λz=>h3 (nodup_idx nd hl' (z▸f2));exact⟨us,by rw[bO ncl];exact sm1 _ _ j1,j2,st2.reps j3⟩
    ·--new
     have gt:aS (aS H t (.lst [])) a (dO a es ep) t=some (.lst []):=by rw[bO (jp na),eI]
     refine⟨.inl ⟨rfl,[],bS.of gt⟩,_,ez,t,[],x3,rfl,rfl,gt,by show 0<sizeLine;omega,?_⟩;have nct:¬p.c t:=λc=>s.notin ht c;have nwt:¬p.w t:=λc=>nct (s.wc t c);have nft:t∉p.f:=λc=>nwt (s.sub t c);have ei:jT kvs (dB n k')=none:=by
      cases z0:jT kvs (dB n k')with
      |none=>rfl
      |some i=>
       obtain⟨w,hw'⟩:=rC z0;exact absurd (by rw[cq,hw'];rfl) (hno i)
     have ek:mH kvs (dB n k') v=kvs++[(dB n k',[v])]:=by unfold mH;rw[ei]
     have st2:bF p H (p.res t) (aS (aS (aS H t (.lst [])) a (dO a es ep)) t (.lst ([]++[x3]))):=by
      refine⟨s.wc,s.mu,lp,λ_ h=>.inl h,λ_ h=>.inl h,λ_ h g=>absurd h g,λc h g=>?_,λc h g=>?_,λc o e nw=>?_⟩
      .rcases h with h |h
       .exact absurd h g
       .rw[h];exact ht
      .rcases h with h |h
       .exact absurd h g
       .rw[h];exact ht
      .rw[bO (gB e ht),bO (λz:c=a=>nw (z▸wa))]
       exact sm1 c o e
     refine h (p.res t) _ .non st2 ⟨s.nd,s.len,λc hc=>.inl (s.sub c hc),λc hc=>hc.elim (λz=>.inl (s.wc c z)) .inr,λc hc=>?_,λk2 c o f1 f2=>?_⟩ (by unfold bY aL;rfl)
     .by_cases z:c=t
      .rw[z,eI]
       exact⟨_,rfl,trivial⟩
      .rw[bO z]
       rcases hc with hc |hc
       .by_cases z2:c=a
        .rw[z2,eI]
         exact⟨_,rfl,trivial⟩
        .rw[bO z2]
         obtain⟨o,ho,mo⟩:=s.mu c hc;exact⟨o,sm1 c o ho,mo⟩
       .exact absurd hc z
     .have ek2:k2=0:=by
       have:=(da.mp f2).1;simpa using this
      subst ek2;have f1:p.f[0]?=some c:=f1;rw[ea]at f1;cases f1;cases f2;rw[ek];have nb:∀b∈bs,b≠t:=λb hb z=>nwt (z▸(wf b hb).1);refine⟨bs++[t],?_,?_,λc hc=>?_,by rw[aw,cx,cx,lb];rfl,λi3 xs c f1 f2=>?_⟩
      .rw[ik]
       obtain⟨ys,ep',e,z1,z2,z3,z4,z5,z6⟩:=dw2;exact nN.at_ (rs:=rs++[.ref b]) ⟨ys,ep',by rw[bO na];exact e,z1,z2,z3,z4,z5,z6⟩ ((st2.reps rr).append (.cons (st2.rep rk) .nil))
      .rw[qs]
       exact⟨nd,by simp,λx hx y hy z=>nb x hx (by rw[z];simpa using hy)⟩
      .rcases dk.mp hc with z |z
       .exact⟨.inl (wf c z).1,(wf c z).2⟩
       .have:c=t:=by simpa using z
        subst this;exact⟨.inr rfl,nft⟩
      .rw[ik]at f1
       by_cases hi:i3<bs.length
       .rw[ib hi]at f2
        rw[ib (by rw[aw];omega)]at f1;obtain⟨us,j1,j2,j3⟩:=lat i3 xs c f1 f2;have mc:=fy f2;exact⟨us,by rw[bO (nb c mc),bO (λz:c=a=>(wf c mc).2 (z▸mA))];exact sm1 _ _ j1,j2,st2.reps j3⟩
       .have hi':i3=bs.length:=by
         have:=(da.mp f2).1;rw[cx]at this;have:i3<bs.length+1:=this;omega
        subst hi';rw[fu (aq _),ji]at f2;have e0:(kvs.map (·.2)).length=bs.length:=lz;rw[<-e0,fu (aq _),ji]at f1;cases f1;cases f2;exact⟨[]++[x3],eI,by show 1<=sizeLine;omega,.cons (st2.rep rv) .nil⟩
   .exact h.elim
  .exact h.elim
 .exact h.elim
end
end
open PySem PySem.Spec PyProof.Rows Bn
open Classical in
noncomputable def tX(d k:AV)(S:aI):Option FS:=match d,k with
 |.ref j,.pv k=>(match S[j]? with
  |some (.dol n kvs)=>if uP n k then oK kvs k else none
  |_=>none)
 |_,_=>none
noncomputable def tM(f:FM)(md mk:ME):ME:=λρ S=>(md ρ S).bind λd S1=>(mk ρ S1).bind λk S2=>match tX d k S2 with
 |some xs=>(match f [.pv (.lst xs)] []with
  |.ok (.pv v) _=>if lO v=true then .ok (.pv v) S2 else .fail
  |_=>.fail)
 |none=>.fail
section
variable{K:ah}{cl:Str->Addr}{E:XK}{X:Cx}{p q:Ph}{H H':Hp}{S:aI}{a b e o i v:ai}{md mk:ME}{pos:ak}
theorem El:∀bs:List Addr,bB (bs.map V.ref) (bs.map cw)
 |[]=>.nil
 |_::r=>.cons rfl (El r)
theorem V4(s:aW K p S H){j:Nat}{a:Addr}{n:Bool}{kvs:List (PV×FS)}{k:PV}{y:V}{Q:V->Prop}{N:Prop}(ej:p.f[j]?=some a)(z:S[j]?=some (.dol n kvs))(hk:uP n k)(ry:aL K p.c H k y)
  (q:∀xs b ws,oK kvs k=some xs->H b=some (.lst ws)->ws.length<=sizeLine->aM K p.c H xs ws->Q (.ref b))(qn:oK kvs k=none->N):∃b vs,y=.ref b/\Wf K H a b vs Q N:=by
 obtain⟨k',rfl⟩:=hk;obtain⟨bs,d,ndb,wf,lz,lat⟩:=s.obj j a _ ej z;obtain⟨b,rfl⟩:=Ac ry;have nd:∀i j:Nat,(kvs.map (·.1))[i]?=some (dB n k')->(kvs.map (·.1))[j]?=some (dB n k')->i=j:=by
  obtain⟨xs,ep,_,_,_,nd,ek,_⟩:=d;intro i j h1 h2;rw[ek,cq]at h1 h2;cases z1:xs[i]? with
  |none=>rw[z1]at h1;cases h1
  |some x=>
   cases z2:xs[j]? with
   |none=>rw[z2]at h2;cases h2
   |some y=>
    rw[z1]at h1;rw[z2]at h2;have e1:x.1=k':=tD (ck h1);have e2:y.1=k':=tD (ck h2);exact idxH_unique nd (p:=x.2) (q:=y.2) (k:=k') (by rw[z1,<-e1]) (by rw[z2,<-e2])
 refine⟨b,bs.map V.ref,rfl,p.c,n,k',_,_,d,El bs,ry,λi x h1 h2=>?_,λhn=>qn ?_⟩
 .obtain⟨j',hj⟩:=Cd h1
  obtain⟨v,hv⟩:=rC hj;have ei:j'=i:=nd j' i (by rw[cq,hv];rfl) h1;subst ei;rw[cq]at h2;cases hb:bs[j']? with
  |none=>rw[hb]at h2;cases h2
  |some b'=>
   rw[hb]at h2;cases h2;obtain⟨ws,g1,g2,g3⟩:=lat j' v b' (by rw[cq,hv];rfl) hb;exact q v b' ws (by unfold oK;rw[hj];simp[hv]) g1 g2 g3
 .cases z:jT kvs (dB n k')with
  |none=>unfold oK;rw[z]
  |some i=>
   obtain⟨v,hv⟩:=rC z;exact absurd (by rw[cq,hv];rfl) (hn i)
theorem abJ{g:FM}{k k0:Nat}{ps:List Str}{x:Str}{px p2:ak}(hu:X.A.units+8<cLine)(C:vG X.prog X.w X.K X.mg X.base cl x k ps g)(hr:cP k0 X.A)(hk:k<=k0)(hg:Gl X x)(ha:aT X.K cl E X a md)(hb:aT X.K cl E X b mk)(hs:Qc b:=by intro _ _;rfl)(hdb:(x==("__debug__":Str))=false:=by decide)(he:starEach [.Subscript a b p2] X.env=(false,eval (.Subscript a b p2) X.env)::starEach [] X.env:=by rfl)(hpl:(backTo pos (starEach [] X.env)).any (·.1)=false:=by rfl):
  aT X.K cl E X (.Call (.Name x px) [.Subscript a b p2] [] pos) (tM g md mk):=by
 obtain⟨fa,d,G,bd,kk,n⟩:=C;intro hK;refine PE.imp (tJ G (hr.mono hk) hg n kk bd .nil pS (mE (At (X8 (by omega)) (ha rfl) (hb rfl) hs) nX he) hdb he hpl) ?_
 rintro σ H Q ⟨p,S,ρ,s,ev,h⟩
 refine bT s ev h λq H1 dd x S1 st s1 e1 r1 h1=>bT s1 e1 h1 λq2 H2 kv y S2 st2 s2 e2 r2 h2=>?_;have r1:=st2.repA r1;cases z:tX dd kv S2 with
 |none=>simp only[z]at h2;exact h2.elim
 |some xs=>
  simp only[z]at h2;cases dd with
  |pv _=>cases kv<;>cases z
  |ref j=>
   cases kv with
   |ref _=>cases z
   |pv kp=>
    obtain⟨a,ej,rfl⟩:=r1;have r2:aL X.K q2.c H2 kp y:=r2;unfold tX at z;dsimp only at z;split at z
    .rename_i nn kvs hS
     split at z
     .rename_i hkk
      have key:∀b ws,H2 b=some (.lst ws)->ws.length<=sizeLine->aM X.K q2.c H2 xs ws->jP X.K cl g [V.ref b] H2 Q E0:=λb ws g1 g2 g3=>by
       refine⟨Ph.none,[],[.pv (.lst xs)],Zm,.cons ?_ .nil,?_⟩
       .show aL X.K (λ_=>False) H2 (.lst xs) (.ref b)
        unfold aL;exact⟨b,ws,rfl,.inl ⟨g1,λz=>z⟩,g2,nQ (λ_ h=>h.elim) g3⟩
       .cases y:g [.pv (.lst xs)] []with
        |fail=>simp only[y]at h2;exact h2.elim
        |exc n S'=>simp only[y]at h2;exact h2.elim
        |ok w S'=>
         cases w with
         |ref j=>simp only[y]at h2;exact h2.elim
         |pv w=>
          simp only[y]at h2
          by_cases hn:lO w=true
          .rw[if_pos hn]at h2
           intro q' H' x' st' sm' r';have same:cN H2 H':=λa o e=>st'.keep a o e λz=>z;exact bU.same (R:=bY X.K) h2 s2 same (Nc r' hn)
          .rw[if_neg hn]at h2
           exact h2.elim
      obtain⟨b,vs,ey,gg⟩:=V4 (Q:=λv=>jP X.K cl g [v] H2 Q E0) (N:=False) s2 ej hS hkk r2 (λxs' b ws e g1 g2 g3=>by
       rw[z]at e;cases e;exact key b ws g1 g2 g3) (λe=>by rw[z]at e;cases e)
      exact⟨a,b,vs,rfl,ey,gg⟩
     .cases z
    .cases z
end
theorem E9{K:ah}{cl:Str->Addr}{E:XK}{X:Cx}{st:List Stmt}:fY K cl E X st (λ_ _=>.fail):=λ_ FX s σ H D I ⟨_,_,_,_,_,h⟩=>h.elim
end L2.Pp
namespace L2
theorem acT(K:ah):nr K (.type "int") (.type "tuple")=some false:=by
 unfold nr BY;rw[if_neg (by decide)];show(if BZ "tuple"=true then CA K (.type "int") (.type "tuple")else none)=some false;rw[if_pos (by decide+kernel)];show(PySem.fastBuiltinMro "int").map (·.contains (.type "tuple"))=some false;decide+kernel
end L2
namespace L2.Pp
open PySem PySem.Spec PyProof.Rows Bn
noncomputable def nA:PV->FT
 |.int _=>some (.bl false)
 |.tup _=>some (.bl true)
 |_=>none
section
variable{K:ah}{cl:Str->Addr}{E:XK}{X:Cx}{a:ai}{m:ME}{pos:ak}
theorem acj:vJ K (Cf K "tuple") nA:=λ{p S H a c x Q} s ra e k=>by
 have fin:∀b,c=.bl b->Q (.bl b) H:=λb h=>by
  subst h;exact k H _ (cN.refl H) (by rfl)
 cases a with
 |int i=>
  cases ra.int;cases e;exact .inl ⟨_,false,.int i,acT K,fin _ rfl⟩
 |tup xs=>
  obtain⟨a,vs,rfl,t,_,_⟩:=ra.tup;cases e;exact .inr (.inl ⟨rfl,a,vs,rfl,t,fin _ rfl⟩)
 |_=>cases e
theorem Y6{p p2:ak}(hg:Gl X "isinstance")(hm:X.mg "isinstance"=none)(hgt:Gl X t)(hmt:X.mg t=none)(hv:bootBuiltins t=some (.type "tuple"))(ha:aT K cl E X a m)
  (htn:t≠"__name__":=by decide)(htd:(t==("__debug__":Str))=false:=by decide)
  (he:starEach [a,.Name t p2] X.env=(false,eval a X.env)::starEach [.Name t p2] X.env:=by rfl)(he2:starEach [.Name t p2] X.env=[(false,eval (.Name t p2) X.env)]:=by rfl)(hpl:(backTo pos (starEach [.Name t p2] X.env)).any (·.1)=false:=by rfl):
  aT K cl E X (.Call (.Name "isinstance" p) [a,.Name t p2] [] pos) (bV nA m):=by
 intro hK;subst hK;refine PE.imp (wF (Tj "tuple") hg hm CQ (mE (ha rfl) (mE (So hgt hmt hv (v:=.ty _) rfl htn htd) nX he2) he) (by decide) (rfl) he hpl) ?_
 rintro σ H Q ⟨p,S,ρ,s,ev,h⟩
 exact bT s ev h λq H' as x S' bR sm ev r k=>⟨x,rfl,sZ acj sm r k⟩
end
end L2.Pp
namespace L2
open PySem PySem.Spec PyProof.Rows Bn
open L2.Pp
open PySem.W (KatLex KatTups)
noncomputable def iW:FJ->FJ->Bool
 |[],[]=>false
 |[],_::_=>true
 |_::_,[]=>false
 |x::xs,y::ys=>if x=y then iW xs ys else HT.lexLt x y
theorem Jn:∀u:FJ,iW u u=false
 |[]=>rfl
 |x::u=>by
  unfold iW;rw[if_pos rfl,Jn u]
theorem Qm:∀u v:FJ,u≠v->iW u v=true\/iW v u=true
 |[],[],h=>absurd rfl h
 |[],_::_,_=>.inl rfl
 |_::_,[],_=>.inr rfl
 |x::u,y::v,h=>by
  unfold iW
  by_cases e:x=y
  .subst e
   rw[if_pos rfl,if_pos rfl];exact Qm u v λz=>h (by rw[z])
  .rw[if_neg e,if_neg λz=>e z.symm]
   exact Gc.tot x y e
theorem Cj:∀u v w:FJ,iW u v=true->iW v w=true->iW u w=true
 |[],[],_,h,_=>by cases h
 |[],_::_,[],_,h=>by cases h
 |[],_::_,_::_,_,_=>rfl
 |_::_,[],_,h,_=>by cases h
 |_::_,_::_,[],_,h=>by cases h
 |x::u,y::v,z::w,h1,h2=>by
  unfold iW at h1 h2⊢
  by_cases e1:x=y
  .subst e1
   rw[if_pos rfl]at h1
   by_cases e2:x=z
   .rw[if_pos e2]at h2⊢
    exact Cj u v w h1 h2
   .rw[if_neg e2]at h2⊢
    exact h2
  .rw[if_neg e1]at h1
   by_cases e2:y=z
   .subst e2
    rw[if_neg e1];exact h1
   .rw[if_neg e2]at h2
    have h3:=pB x y z h1 h2;rw[if_neg λe=>by rw[e,kM]at h3;cases h3];exact h3
theorem Ib:sL iW:=⟨Jn,Cj,Qm⟩
noncomputable def vD(h:Heap)(k:FI)(v:Value):Prop:=∃b,v=cw b/\gA h k b
section
variable{prog:Program}{w:ar}{A:ax}{s:aa}
theorem Ln(hu:A.units<cLine){Q:Bool->aa->Prop}:∀(ks ls:FJ)(its jts:FN)(i:Nat)(fin:Bool),fk (vD s.heap) ks its->fk (vD s.heap) ls jts->fin=decide (ks.length<ls.length)->Q (iW ks ls) s->KatLex prog w A false fin Q (its.zip jts) i s
 |[],ls,its,jts,i,fin,h1,h2,hf,hQ=>by
  cases h1;cases ls with
  |nil=>
   subst hf;exact sx hQ
  |cons v vs=>
   have e:fin=true:=by rw[hf];simp
   subst e;exact sx hQ
 |u::us,[],its,jts,i,fin,h1,h2,hf,hQ=>by
  cases h2;have e:fin=false:=by rw[hf];simp
  subst e;rw[zo];exact sx hQ
 |u::us,v::vs,its,jts,i,fin,h1,h2,hf,hQ=>by
  cases h1 with
  |cons r1 t1=>
   cases h2 with
   |cons r2 t2=>
    obtain⟨b1,rfl,k1⟩:=r1;obtain⟨b2,rfl,k2⟩:=r2;rw[ql];refine CV ((lG prog w false).eqBool (x:=u) (y:=v) hu (gA.key k1) (gA.key k2) ?_);unfold iW at hQ
    by_cases e:u=v
    .rw[if_pos e]at hQ
     have b:(decide (u=v))=true:=by simpa using e
     show DV prog w A false fin Q _ _ _ _ (decide (u=v)) s;rw[b];exact CW (Ln hu us vs _ _ (i+1) fin t1 t2 (by rw[hf];simp) hQ)
    .rw[if_neg e]at hQ
     have b:(decide (u=v))=false:=by simpa using e
     show DV prog w A false fin Q _ _ _ _ (decide (u=v)) s;rw[b];refine CY (PySem.W.kat_one _ _ ?_);obtain⟨o1,i1,n1,g1,c1,d1,v1⟩:=k1;obtain⟨o2,i2,n2,g2,c2,d2,v2⟩:=k2;exact HT.lt_tupInts ⟨o1,g1,c1,n1,d1⟩ ⟨o2,g2,c2,n2,d2⟩ (Dj v1) (Dj v2) hu hQ
end
noncomputable def rT(kss:FK)(i j:Nat):Bool:=iW (kss.getD i []) (kss.getD j [])
theorem acW{lt:α->α->Bool}(O:sL lt){uss:List α}(z:α)(nd:uss.Nodup):lP (λi j=>lt (uss.getD i z) (uss.getD j z)) uss.length:=by
 refine⟨λi j k _ _ _ h g=>O.tr _ _ _ h g,λi j hi hj ne=>O.tot _ _ λe=>?_⟩;refine absurd (Pp.nodup_idx nd   (a:=uss[i]) (by simp[hi]) ?_) ne;simp_all
section
variable{X:Cx}{FX:List (Addr×Obj)}{σ:St}{H:Hp}{s:aa}
noncomputable def tU(K:ah)(H:Hp)(ts:List V)(kss:FK):Prop:=ts.length=kss.length/\∀i t,ts[i]?=some t->∃a c,t=.ref a/\aL K c H (dB true (kss.getD i [])) (.ref a)/\kss.getD i []≠[]
theorem acp(I:aG X FX σ H s){c:Addr->Prop}{ks:FJ}{b:Addr}(r:aL X.K c H (dB true ks) (.ref b)):∃o its n,s.heap.get? b=some o/\o.cls=.type "tuple"/\o.data=.seq (iw its) n/\fk (vD s.heap) ks its:=by
 obtain⟨a,vs,e,sq,_,r⟩:=r;cases e;obtain⟨its,rv,⟨o,ho,hc,m,hd⟩,_⟩:=I.tuple sq;exact⟨o,its,m,ho,hc,hd,zW I r rv⟩
theorem Ha:∀{l:List α}{m:List β},fk R l m->l.length=m.length
 |_,_,.nil=>rfl
 |_,_,.cons _ t=>by rw[bo,bo,Ha t]
theorem Lj{R R':α->β->Prop}(f:∀a b,R a b->R' a b):∀{l:List α}{m:List β},fk R l m->fk R' l m
 |_,_,.nil=>.nil
 |_,_,.cons h t=>.cons (f _ _ h) (Lj f t)
theorem Zj(I:aG X FX σ H s)(hu:X.A.units+8<cLine){l:Addr}{ts:List V}{kss:FK}{its:FN}{Q:VK}(rv:bB ts its)(hr:tU X.K H ts kss)(h64:ts.length<64)(nd:kss.Nodup)
  (hcol:∀(Q':FN->aa->Prop)(E':Value->aa->Prop),(∀h1 tk,(∀b o',s.heap.get? b=some o'->h1.get? b=some o')->Q' its {s with heap:=h1,toks:=tk})->wpAny (model X.prog X.w) X.A.in1 (collect (.ref l)) Q' E' s)
  (q:∀l p,H l=none->p.Perm (ci ts.length)->kF (rT kss) p->Q (.ref l) (aS H l (.lst (p.map λi=>ts.getD i .non)))):
  wpAny (model X.prog X.w) X.A (call (.builtin "sorted") [.ref l]) (EP X FX σ Q) X.xe s:=by
 obtain⟨hl,ht⟩:=hr;have hlen:=rv.length;have hi:its.length=kss.length:=by omega
 have tu:∀i,i<its.length->∃b o jts n,its.getD i br=.ref b/\s.heap.get? b=some o/\o.cls=.type "tuple"/\o.data=.seq (iw jts) n/\fk (vD s.heap) (kss.getD i []) jts/\kss.getD i []≠[]:=λi hi=>by
  have hi':i<ts.length:=by omega
  obtain⟨b,c,e1,rp,ne⟩:=ht i ts[i] (bf hi');obtain⟨v,e2,rel⟩:=rv.get (bf hi');rw[e1]at rel;cases rel;obtain⟨o2,jts,m,ho2,hc2,hd2,pr⟩:=acp I rp;refine⟨b,o2,jts,m,?_,ho2,hc2,hd2,pr,ne⟩;rw[cg,e2];rfl
 refine Fa (κ:=tuples' false) (lt:=rT kss) (by omega) (by rw[hi];exact acW Ib [] nd) (λh1 tk a k1 ha h2=>?_) hcol λh1 h' c tk p hp hup k1 k2 e=>?_
 .intro h' tk2 E kp
  have kp2:∀b o,s.heap.get? b=some o->h'.get? b=some o:=λb o hb=>kp b o (λz=>by
   rw[z,ha]at hb;cases hb) (k1 b o hb)
  have tu2:∀i,i<its.length->∃b o jts n,its.getD i br=.ref b/\h'.get? b=some o/\o.cls=.type "tuple"/\o.data=.seq (iw jts) n/\fk (vD h') (kss.getD i []) jts/\kss.getD i []≠[]:=λi hi=>by
   obtain⟨b,o,jts,n,e,ho,hc,hd,pr,ne⟩:=tu i hi;refine⟨b,o,jts,n,e,kp2 b o ho,hc,hd,Lj (λk v ⟨b',e',o',i',n',g1,g2,g3,g4⟩=>⟨b',e',o',i',n',kp2 _ _ g1,g2,g3,g4⟩) pr,ne⟩
  refine⟨λQ q=>?_,λi j C hi hj hC=>?_⟩
  .have go:∀(vs:FN)(o:Nat),vs=its.drop o->∃fs,KatTups h' vs fs/\fs.length=vs.length/\∀v∈fs,∃b oo,v=cw b/\h'.get? b=some oo/\oo.cls=.type "tuple":=by
    intro vs
    induction vs with
    |nil=>exact λ_ _=>⟨[],trivial,rfl,λ_ h=>absurd h iu⟩
    |cons v vs ih=>
     intro o eo;have lo:o<its.length:=by
      have:=congrArg ue eo;rw[ny,bo]at this;omega
     rw[xu lo]at eo;injection eo with ev er;obtain⟨fs,k,l,z⟩:=ih (o+1) er;obtain⟨b,oo,jts,n,e,ho,hc,hd,pr,ne⟩:=tu2 o lo;have e:its[o]=.ref b:=by simpa[cg,lo]using e
     rw[ev,e];cases hk:kss.getD o []with
     |nil=>exact absurd hk ne
     |cons x xs=>
      rw[hk]at pr;cases pr with
      |cons r1 t1=>
       obtain⟨b',e',oo',i',n',g1,g2,g3,g4⟩:=r1;subst e';refine⟨.ref b'::fs,CZ ho hc hd (by simp) k,by simp[l],λy hy=>?_⟩;rcases cr.mp hy with rfl |hy
       .exact⟨b',oo',rfl,g1,g2⟩
       .exact z y hy
   obtain⟨fs,kt,lf,qf⟩:=go its 0 rfl;refine PySem.W.kat_kind (s:={s with heap:=h',toks:=tk2}) (T:=.type "tuple") kt (by omega) (λv hv=>?_) rfl ?_
   .obtain⟨b,oo,rfl,g1,g2⟩:=qf v hv
    exact λA Q E s' k q=>wm (T:="tuple") ⟨oo,k _ _ g1,g2⟩ q
   .have bt:(Value.type "tuple" !=Value.type "tuple")=false:=by decide
    rw[bt];exact q
  .obtain⟨b,o,jts,n,e,ho,hc,hd,pr,_⟩:=tu2 i hi
   obtain⟨b2,o2,jts2,n2,e2,ho2,hc2,hd2,pr2,_⟩:=tu2 j hj;show wpAny _ _ (keyLt' (tuples' false) (its.getD i br) (its.getD j br)) C _ _;rw[e,e2];refine PySem.W.kat_lt (s:={s with heap:=h',toks:=tk2}) ho hd ho2 hd2 ?_;refine Ln (s:={s with heap:=h',toks:=tk2}) (show X.A.units+2<cLine by omega) (kss.getD i []) (kss.getD j []) jts jts2 0 _ pr pr2 ?_ hC;rw[ay,ay,Ha pr,Ha pr2]
 .have I1:aG X FX σ H {s with heap:=h1,toks:=tk}:=I.kept k1
  have hz2:(p.map λi=>ts.getD i .non).length<=sizeLine:=by
   rw[aw,hp.length_eq,oi,ia];omega
  refine⟨.ref h1.objs.size,_,I1.laid (t':=tk) (o:=.lst (p.map λi=>ts.getD i .non)) k2 (aq _) ?_,rfl,q _ p (I1.hok.fresh (aq _)) (by rw[hlen];exact hp) hup⟩;exact⟨hz2,_,c,Eb rv p,e⟩
theorem Yx(hu:X.A.units+8<cLine):jC X (.builtin "sorted") (λxs H Q=>∃(a:Addr)(ts:List V)(kss:FK),xs=[.ref a]/\(bS X.K H a ts\/cO X.K H a ts)/\tU X.K H ts kss/\ts.length<64/\kss.Nodup/\
  ∀l p,H l=none->p.Perm (ci ts.length)->kF (rT kss) p->Q (.ref l) (aS H l (.lst (p.map λi=>ts.getD i .non)))):=by
 intro FX s σ H xs us Q I r h;obtain⟨a,ts,uss,rfl,hq,hr,h64,nd,q⟩:=h;obtain⟨u,rfl,ru⟩:=jY r;cases ru;rcases hq with hq |hq
 .obtain⟨its,rv,pl,hz⟩:=I.list hq
  obtain⟨o,ho,hc,n,hd⟩:=pl.isList;exact Zj I hu rv hr h64 nd (λQ' E' h=>m9 a (.inl rfl) ho hc hd (λh1 k1=>h h1 s.toks k1) (by rw[ay,<-rv.length];exact hz)) q
 .obtain⟨its,rv,⟨o,ho,hc,n,hd⟩,hz⟩:=I.tuple hq
  exact Zj I hu rv hr h64 nd (λQ' E' h=>m9 a (.inr rfl) ho hc hd (λh1 k1=>h h1 s.toks k1) (by rw[ay,<-rv.length];exact hz)) q
end
end L2
namespace L2.Pp
open PySem PySem.Spec PyProof.Rows Bn
noncomputable def nF(k:FJ):PV:=.tup (k.map qB)
noncomputable def nW:FS->Option FK
 |[]=>some []
 |.tup us::r=>match iC us,nW r with
  |some k,some ks=>some (k::ks)
  |_,_=>none
 |_::_=>none
open Classical in
noncomputable def rZ(xs:FS):FT:=match nW xs with
 |some kss=>if kss.length<64/\kss.Nodup/\[]∉kss then some (.lst ((gJ iW kss).map nF))else none
 |none=>none
noncomputable def mQ:FS->FT
 |[.lst xs]=>rZ xs
 |[.tup xs]=>rZ xs
 |_=>none
theorem wN:∀{xs:FS}{kss:FK},nW xs=some kss->xs=kss.map nF
 |[],kss,e=>by cases e;rfl
 |.tup _::r,kss,e=>by
  unfold nW at e;split at e
  .rename_i k ks h1 h2
   cases e;rw[wN h2,Fc h1];rfl
  .cases e
 |.non::_,_,e=>by cases e
 |.bl _::_,_,e=>by cases e
 |.int _::_,_,e=>by cases e
 |.str _::_,_,e=>by cases e
 |.lst _::_,_,e=>by cases e
theorem B0(h:nW xs=some kss):xs.length=kss.length:=by
 rw[wN h,aw]
theorem Z7{p:List Nat}(hp:p.Perm (ci kss.length))(hu:kF (rT kss) p)(nd:kss.Nodup):(gJ iW kss).map nF=p.map λi=>(kss.map nF).getD i .non:=by
 have e0:p.map (λi=>(kss.map nF).getD i .non)=(p.map λi=>kss.getD i []).map nF:=by
  rw[ff];refine ij λi hi=>?_;have:=by
   have:=hp.subset hi;simpa using this
  simp[cg,this]
 rw[e0];congr 1;have e1:(ci kss.length).map (λi=>kss.getD i [])=kss:=by
  refine uo (by simp) λi h1 h2=>?_;simp[cg,h2]
 have pm:=by
  have:=hp.map (λi=>kss.getD i []);rw[e1]at this;exact this
 refine Bq Ib ((sY kss).trans pm.symm) (Hc Ib kss nd) ?_;rw[DQ];exact hu
section
variable{K:ah}
theorem Zz{c:Addr->Prop}{H:Hp}{xs:FS}{vs:List V}{kss:FK}(hu:nW xs=some kss)(r:aM K c H xs vs)(ne:[]∉kss):tU K H vs kss:=by
 have ex:=wN hu;subst ex;have l2:=r.length;rw[aw]at l2;refine⟨l2.symm,λi t h=>?_⟩;obtain⟨p,e1,e2⟩:∃p,(kss.map nF)[i]?=some p/\aL K c H p t:=by
  have hi:i<(kss.map nF).length:=by
   rw[aw,l2];exact(da.mp h).1
  obtain⟨u,e1,e2⟩:=r.get (bf hi);rw[h]at e1;cases e1;exact⟨_,bf hi,e2⟩
 have hi:i<kss.length:=by
  rw[l2];exact(da.mp h).1
 rw[cq,bf hi]at e1;cases e1;have eg:kss.getD i []=kss[i]:=by simp[cg,hi]
 have e2:aL K c H (dB true kss[i]) t:=e2;obtain⟨b,rfl⟩:=Ac e2;rw[eg];exact⟨b,c,rfl,e2,λz=>ne (z▸jm hi)⟩
theorem aba:jV K (λxs H Q=>∃(a:Addr)(ts:List V)(kss:FK),xs=[.ref a]/\(bS K H a ts\/cO K H a ts)/\tU K H ts kss/\ts.length<64/\kss.Nodup/\
  ∀l p,H l=none->p.Perm (ci ts.length)->kF (rT kss) p->Q (.ref l) (aS H l (.lst (p.map λi=>ts.getD i .non)))) mQ:=λ{p S H as c xs Q} s ra e k=>by
 have key:∀(zs:FS)(a:Addr)(vs:List V),rZ zs=some c->(bS K H a vs\/cO K H a vs)->aM K p.c H zs vs->∃(a':Addr)(ts:List V)(kss:FK),[V.ref a]=[.ref a']/\(bS K H a' ts\/cO K H a' ts)/\tU K H ts kss/\ts.length<64/\kss.Nodup/\
   ∀l p,H l=none->p.Perm (ci ts.length)->kF (rT kss) p->Q (.ref l) (aS H l (.lst (p.map λi=>ts.getD i .non))):=λzs a vs e sq r=>by
  unfold rZ at e;split at e
  .rename_i uss hu
   split at e
   .rename_i hc
    cases e;obtain⟨c1,c2,c3⟩:=hc;have l1:=B0 hu;have l2:=r.length;refine⟨a,vs,uss,rfl,sq,Zz hu r c3,by omega,c2,λl ps hl hp hup=>?_⟩;refine k _ _ (fS hl) ?_;rw[Z7 (by rw[<-l1,l2];exact hp) hup c2,<-wN hu];refine lC s (vY r _) ?_ hl;rw[aw,hp.length_eq,oi,iP];omega
   .cases e
  .cases e
 unfold mQ at e;split at e
 .rename_i zs
  cases ra with
  |cons h t=>
   cases t;obtain⟨a,vs,rfl,l,z,r⟩:=h.lst;exact key zs a vs e (.inl l) r
 .rename_i zs
  cases ra with
  |cons h t=>
   cases t;obtain⟨a,vs,rfl,l,z,r⟩:=h.tup;exact key zs a vs e (.inr l) r
 .cases e
end
noncomputable def Nv(K:ah)(C f:Str):Prop:=∃D,dg K mainGlobals C=some (some (.ref D))/\iI K D/\lE K D f
noncomputable def gX(C:Str)(f:Str):PV->FT
 |.obj D ns fs=>if D=C then(ns.zip fs).lookup f else none
 |_=>none
section
variable{K:ah}{cl:Str->Addr}{E:XK}{X:Cx}{a:ai}{m:ME}{pos:ak}
theorem Sn{c:Addr->Prop}{H:Hp}{f:Str}{w:PV}:∀{ns:List Str}{fs:FS}{vs:List V},aM K c H fs vs->(ns.zip fs).lookup f=some w->∃v,(ns.zip vs).lookup f=some v/\aL K c H w v
 |[],_,_,_,e=>by simp at e
 |_::_,[],_,_,e=>by simp at e
 |n::ns,p::fs,vs,r,e=>by
  unfold aM at r;obtain⟨v,vs',rfl,h,t⟩:=r;rw[ql,fh]at e⊢;cases z:f==n with
  |true=>
   rw[z]at e;cases e;exact⟨v,rfl,h⟩
  |false=>
   rw[z]at e;exact Sn t e
theorem abH(c:Nv X.K C f)(ha:aT K cl E X a m)(hb:attributeBase a f X.env (eval a X.env)=eval a X.env:=by rfl):aT K cl E X (.Attribute a f pos) (bV (gX C f) m):=by
 intro hK;subst hK;obtain⟨D0,cn,cc,n⟩:=c;refine PE.imp (acD (ha rfl) hb) ?_
 rintro σ H Q ⟨p,S,ρ,s,ev,h⟩
 refine bT s ev h λq H' as x S' bR sm ev r k=>?_;refine sZ (r:=λx H Q=>∃a C dx fs v,x=.ref a/\H a=some (.ins C dx fs)/\iI X.K C/\lE X.K C f/\fs.lookup f=some v/\Q v H)  (λ{p S H a w x Q} s ra e kk=>?_) sm r k;cases a with
 |obj D ns fs=>
  unfold gX at e;dsimp only at e;split at e
  .rename_i hD
   subst hD;obtain⟨b,dx,vs,D1,rfl,⟨h1,_⟩,hn,hl,rs⟩:=ra.obj;rw[hn]at cn;cases cn;obtain⟨v,e2,rv⟩:=Sn rs e;exact⟨b,_,dx,ns.zip vs,v,rfl,h1,cc,n,e2,kk H _ (cN.refl H) rv⟩
  .cases e
 |_=>cases e
end
section
variable{K:ah}{cl:Str->Addr}{E:XK}{X:Cx}{p p0:Ph}{S:aI}{H H0:Hp}{x C dx:Addr}{fs fs':List (Str×V)}
theorem F1(hx:H x=some (.ins C dx fs))(t:cO K H a vs):cO K (aS H x (.ins C dx fs')) a vs:=by
 have go:∀o,H a=some o->(∀fs,o≠.ins C dx fs)->aS H x (.ins C dx fs') a=some o:=λo e n=>by
  have na:a≠x:=λz=>by
   subst z;rw[hx]at e;cases e;exact n _ rfl
  rw[bO na];exact e
 rcases t with(h |⟨o,h⟩) |h
 .exact .inl (.inl (go _ h (by grind)))
 .exact .inl (.inr ⟨o,go _ h (by grind)⟩)
 .exact .inr h
theorem Ab(hc:c x)(hx:H x=some (.ins C dx fs)){xs:FS}{vs:List V}(r:aM K c H xs vs):aM K c (aS H x (.ins C dx fs')) xs vs:=by
 refine aM.mono (λa vs t=>F1 hx t) (λa vs l=>?_) (λa D dy gs h=>?_) _ _ r
 .rcases l with⟨h,n⟩|⟨o,h⟩|h
  .have na:a≠x:=λz=>n (by rw[z];exact hc)
   exact .inl ⟨by rw[bO na];exact h,n⟩
  .have na:a≠x:=λz=>by
    simp_all
   exact .inr (.inl ⟨o,by rw[bO na];exact h⟩)
  .exact .inr (.inr h)
 .have na:a≠x:=λz=>h.2 (by rw[z];exact hc)
  exact⟨by rw[bO na];exact h.1,h.2⟩
theorem aW.setI(s:aW K p S H)(hc:p.c x)(hw:¬p.w x)(hx:H x=some (.ins C dx fs)):aW K p S (aS H x (.ins C dx fs')):=by
 refine⟨s.nd,s.len,s.sub,s.wc,λa m=>?_,λk a o e1 e2=>?_⟩
 .by_cases z:a=x
  .subst z
   exact⟨_,eI,trivial⟩
  .rw[bO z]
   exact s.mu a m
 .have na:a≠x:=λz=>hw (by rw[<-z];exact s.sub a (fy e1))
  refine(s.obj k a o e1 e2).mono (λvs e=>by rw[bO na];exact e) (λb w f=>⟨⟨w,f⟩,λvs e=>?_⟩) λxs vs=>Ab hc hx;have nb:b≠x:=λz=>hw (by rw[<-z];exact w);rw[bO nb];exact e
theorem bF.setI(st:bF p0 H0 p H)(h0:H0 x=none){o:HO}:bF p0 H0 p (aS H x o):=
 ⟨st.wc,st.mu,st.pre,st.mw,st.mono,st.nf,st.nw,st.nc,λa u e n=>by
  have na:a≠x:=λz=>by
   simp_all
  rw[bO na];exact st.keep a u e n⟩
theorem cU.setI(hc:p.c x)(hx:H x=some (.ins C dx fs))(r:cU K p H ρ σ):cU K p (aS H x (.ins C dx fs')) ρ σ:=
 ⟨r.len,λi v e=>by
  obtain⟨y,e1,e2⟩:=r.at_ i v e;refine⟨y,e1,?_⟩;cases v with
  |pv v=>
   have k:=Ab (fs':=fs') hc hx   (.cons e2 .nil);obtain⟨_,_,e3,k,_⟩:=k;cases e3;exact k
  |ref k=>exact e2⟩
noncomputable def kC:List (Str×ME)->bM->aI->bI FS
 |[],_,S=>.ok [] S
 |(_,m)::r,ρ,S=>(m ρ S).bind λv S1=>match v with
  |.pv w=>(kC r ρ S1).bind λws S2=>.ok (w::ws) S2
  |.ref _=>.fail
noncomputable def uH(K:ah)(cl:Str->Addr)(C:Addr)(ns:List Str)(fs:FS)(p:Ph)(H:Hp)(x:Addr)(σ:St)(r:bI FS)(D:lK)(E:XK):Prop:=match r with
 |.ok ws S'=>∀q H' dx vs,bF p H q H'->aW K q S' H'->q.c x->¬q.w x->H' x=some (.ins C dx (ns.zip vs))->ns.length=vs.length->aM K q.c H' (fs++ws) vs->D.nx σ H'
 |.exc n S'=>∀q H',bF p H q H'->aW K q S' H'->E (.ref (cl n)) none H'
 |.fail=>False
noncomputable def tI(K:ah)(cl:Str->Addr)(E:XK)(C:Addr)(i:Nat)(ns:List Str)(rows:List (Str×ME)):TS:=λD σ H=>∃p0 H0 p S ρ x dx vs fs,H0 x=none/\bF p0 H0 p H/\aW K p S H/\cU K p H ρ σ/\p.c x/\¬p.w x/\σ[i]?=some (some (.ref x))/\H x=some (.ins C dx (ns.zip vs))/\ns.length=vs.length/\vs.length+rows.length<1000/\aM K p.c H fs vs/\uH K cl C (ns++rows.map (·.1)) fs p0 H0 x σ (kC rows ρ S) D E
theorem Ym{v:V}:∀{ns:List Str}{vs:List V},f∉ns->ns.length=vs.length->iF f v (ns.zip vs)=(ns++[f]).zip (vs++[v])
 |[],[],_,_=>rfl
 |n::ns,u::vs,h,l=>by
  rw[ql];show(if n=f then _ else _)=_;rw[if_neg (λz=>h (by rw[z];exact ce)),Ym (λz=>h (cj _ z)) (by simpa using l)];rfl
noncomputable def pX(K:ah)(cl:Str->Addr)(E:XK)(X:Cx)(C:Addr)(i:Nat)(ns:List Str)(st:List Stmt)(rows:List (Str×ME)):Prop:=X.K=K->eZ X st (tI K cl E C i ns rows)
theorem Q3{ns:List Str}:pX K cl E X C i ns [] []:=λ_=>eZ.imp Bo λD σ H ⟨p0,H0,p,S,ρ,x,dx,vs,fs,h0,st,s,ev,hc,hw,hi,hx,hl,hz,r,h⟩=>by
 rw[ig,kg]at h;exact h p H dx vs st s hc hw hx hl (by rw[kg];exact r)
theorem A4{i:Nat}{ns:List Str}{f nm:Str}{e:ai}{m:ME}{sts:List Stmt}{rows:List (Str×ME)}{pos pos' p1:ak}(c:iI X.K C)(nf:lE X.K C f)(hf:f∉ns)(he:aT K cl E X e m)(h2:pX K cl E X C i (ns++[f]) sts rows)(hN:X.N[i]?=some nm:=by rfl)(hv:nK X.env.scope nm:=by first |exact ic rfl |exact eh (ic rfl) |exact eh (eh rfl))(hd:(nm==("__debug__":Str))=false:=by decide)
  (hcd:(nm==("__classdict__":Str))=false:=by decide)(hs:swapsWith e (some (.Attribute (.Name nm p1) f pos')) pos.line X.env=pure false:=by rfl):pX K cl E X C i ns (.Assign [.Attribute (.Name nm p1) f pos'] e pos::sts) ((f,m)::rows):=by
 intro hK;subst hK;refine eZ.imp (wJ (abh (rM hN hv hd hcd) (he rfl) hs) (h2 rfl)) ?_
 rintro D σ H ⟨p0,H0,p,S,ρ,x,dx,vs,fs,h0,st,s,ev,hc,hw,hi,hx,hl,hz,r,h⟩
 refine⟨p,S,ρ,s,ev,?_⟩;have ek:ns++((f,m)::rows).map (·.1)=(ns++[f])++rows.map (·.1):=by simp
 rw[ek]at h;unfold kC at h;cases zm:m ρ S with
 |fail=>rw[zm]at h;exact h
 |exc n S2=>
  rw[zm]at h;exact λq H' bR sm=>h q H' (st.trans bR) sm
 |ok v S2=>
  rw[zm]at h;intro q H1 y bR sm rv;cases v with
  |ref k=>exact h.elim
  |pv w=>
   have hx1:H1 x=some (.ins C dx (ns.zip vs)):=bR.keep x _ hx hw;have hc1:=bR.mono x hc;have hw1:¬q.w x:=λz=>by
    have:=bR.nw x z hw;rw[hx]at this;cases this
   refine⟨.ref x,hi,x,C,dx,_,rfl,hx1,c,nf,by rw[List.length_zip];simp only[bo]at hz;omega,?_⟩;rw[Ym hf hl];refine⟨p0,H0,q,S2,ρ,x,dx,vs++[y],fs++[w],h0,(st.trans bR).setI h0,sm.setI hc1 hw1 hx1,(bR.repE ev).setI hc1 hx1,hc1,hw1,hi,eI,by simp[hl],by simp only[bo,cx]at hz⊢;simp;omega,Ab hc1 hx1 ((bR.reps r).append (.cons rv .nil)),?_⟩;have h:uH X.K cl C (ns++[f]++rows.map (·.1)) fs p0 H0 x σ ((kC rows ρ S2).bind λws S2=>.ok (w::ws) S2) D E:=h;cases zr:kC rows ρ S2 with
   |fail=>rw[zr]at h;exact h
   |exc n S3=>rw[zr]at h;exact h
   |ok ws S3=>
    rw[zr]at h;intro q' H' dx' vs' a1 a2 a3 a4 a5 a6 a7;exact h q' H' dx' vs' a1 a2 a3 a4 a5 a6 (by rw[oj]at a7;exact a7)
end
noncomputable def Uf(K:ah)(cl:Str->Addr)(C:Addr)(np n:Nat)(rows:List (Str×ME)):Sp:=λvs H Q _=>∃x args xs p0 H0 p S dx,vs=.ref x::args/\xs.length=np/\rows.length<1000/\H0 x=none/\bF p0 H0 p H/\aW K p S H/\p.c x/\¬p.w x/\H x=some (.ins C dx [])/\gH K p H xs args/\
 uH K cl C (rows.map (·.1)) [] p0 H0 x [] (kC rows (none::iD n xs) S) {nx:=λ_ H'=>Q .non H',rt:=Q} E0
section
variable{P:Program}{w:ar}{K:ah}{mg:Str->FO}{base:Heap}{cl:Str->Addr}
theorem O0{C:Addr}{ns:List Str}{fs:FS}{p:Ph}{H:Hp}{x:Addr}{σ τ:St}{r:bI FS}{Q:Hp->Prop}{R:VK}{E:XK}(h:uH K cl C ns fs p H x σ r {nx:=λ_ H'=>Q H',rt:=R} E):uH K cl C ns fs p H x τ r {nx:=λ_ H'=>Q H',rt:=R} E:=by
 cases r with
 |ok ws S=>exact h
 |exc n S=>exact h
 |fail=>exact h
theorem okI{st:Stmt}{f:Addr}{fd:de}{N:List Str}{ps:List Str}{nm self:Str}{k np n:Nat}{C:Addr}{rows:List (Str×ME)}(F:kH K x qual st f fd)(S:jW (nm::N) (self::ps) (cB st))(hnp:ps.length=np)(hn:N.length=n)
  (hb:∀(cdv:Value)(A:ax)(outer:List ca)(s:aa)(H:Hp)(E:XK),cP k (A.deeper (envOfC qual (cB st) s.heap.objs.size f cdv))->pX K cl E0 (eW dR P w K mg base (nm::N) qual (cB st) f cdv A outer s H E).nox C 0 [] (dM st) rows):
  dC P w K mg base dR (k+1) f fd (self::ps) (Uf K cl C np n rows):=by
 subst hnp hn;refine F.ok S (λvs H Q E h=>?_) λcdv A outer s H vs Q E hr h=>⟨_,hb cdv A outer s H E hr rfl,?_⟩
 .obtain⟨x,args,xs,p0,H0,p,S,dx,rfl,l,_,_,_,_,_,_,_,ra,_⟩:=h
  rw[bo,<-Bk ra,l,bo]
 .obtain⟨x,args,xs,p0,H0,p,S,dx,rfl,l,lr,h0,st,sm,hc,hw,hx,ra,h⟩:=h
  have ev:cU K p H (none::iD N.length xs) (L2.start (nm::N) (.ref x::args)):=by
   have e0:=Ja (N:=N) ra;have es:L2.start (nm::N) (.ref x::args)=some (.ref x)::L2.start N args:=by
    unfold L2.start;simp
   rw[es];refine⟨by rw[bo,bo,e0.len],λi v e=>?_⟩;cases i with
   |zero=>simp at e
   |succ i=>simpa using e0.at_ i v (by simpa using e)
  have es:(L2.start (nm::N) (.ref x::args))[0]?=some (some (.ref x)):=by
   unfold L2.start;simp
  exact⟨p0,H0,p,S,_,x,dx,[],[],h0,st,sm,ev,hc,hw,es,hx,rfl,by simpa using lr,.nil,O0 h⟩
end
noncomputable def mW(C:Str)(np n:Nat)(rows:List (Str×ME))(ms:MA):ME:=λρ S=>(ms ρ S).bind λxs S1=>if xs.length=np then pU ((kC rows (none::iD n xs) S1).bind λws S2=>.ok (.pv (.obj C (rows.map (·.1)) ws)) S2)else .fail
section
variable{K:ah}{cl:Str->Addr}{E:XK}{X:Cx}{e:ai}{es:List ai}{ms:MA}{pos p:ak}{k np n:Nat}{f D:Addr}{fd:de}{ps:List Str}{rows:List (Str×ME)}{x:Str}
theorem Q1{p:Ph}{S:aI}{H:Hp}{x dx:Addr}(s:aW K p S H)(hx:H x=none)(hd:H dx=none)(ne:dx≠x):bF p H ⟨p.f,p.w,λa=>p.c a\/a=x⟩ (aS (aS H dx (.own x)) x (.ins D dx []))/\aW K ⟨p.f,p.w,λa=>p.c a\/a=x⟩ S (aS (aS H dx (.own x)) x (.ins D dx []))/\¬p.w x:=by
 have h1:aS H dx (.own x) x=none:=by rw[bO ne.symm];exact hx
 have sa:cN H (aS (aS H dx (.own x)) x (.ins D dx [])):=(fS hd).trans (fS h1);have nw:¬p.w x:=λz=>by
  obtain⟨o,e,_⟩:=s.mu x (s.wc x z);rw[hx]at e;cases e
 have st:bF p H ⟨p.f,p.w,λa=>p.c a\/a=x⟩ (aS (aS H dx (.own x)) x (.ins D dx [])):=⟨s.wc,s.mu,lp,λ_ h=>h,λ_ h=>.inl h,λ_ h g=>absurd h g,λ_ h g=>absurd h g,λa h g=>h.elim (λz=>absurd z g) λz=>z▸hx,λa o e _=>sa a o e⟩;refine⟨st,⟨s.nd,s.len,s.sub,λa z=>.inl (s.wc a z),λa z=>?_,λk a o e1 e2=>?_⟩,nw⟩
 .rcases z with z |z
  .obtain⟨o,e,m⟩:=s.mu a z
   exact⟨o,sa a o e,m⟩
  .subst z
   exact⟨_,eI,trivial⟩
 .exact(s.obj k a o e1 e2).mono (λo e=>sa a o e) (λb w f=>⟨⟨w,f⟩,λvs e=>sa b _ e⟩) λxs vs r=>st.reps r
theorem Tk{c:Addr->Prop}{H:Hp}{y:Addr}{xs:FS}{vs:List V}(r:aM K c H xs vs):aM K (λa=>c a/\a≠y) H xs vs:=by
 refine aM.mono (λ_ _ t=>t) (λa vs l=>?_) (λa D dy gs h=>⟨h.1,λz=>h.2 z.1⟩) xs vs r;rcases l with⟨h,n⟩|h |h
 .exact .inl ⟨h,λz=>n z.1⟩
 .exact .inr (.inl h)
 .exact .inr (.inr h)
theorem O8(s:aW K q S H)(nw:¬q.w y):aW K ⟨q.f,q.w,λa=>q.c a/\a≠y⟩ S H:=
 ⟨s.nd,s.len,s.sub,λa z=>⟨s.wc a z,λe=>nw (e▸z)⟩,λa z=>s.mu a z.1,λk a o e1 e2=>(s.obj k a o e1 e2).mono (λ_ e=>e) (λb w f=>⟨⟨w,f⟩,λ_ e=>e⟩) λxs vs r=>Tk r⟩
theorem Qz{p q:Ph}{H H':Hp}{y:Addr}(st:bF p H q H')(hy:H y=none):bF p H ⟨q.f,q.w,λa=>q.c a/\a≠y⟩ H':=
 ⟨st.wc,st.mu,st.pre,st.mw,λa z=>⟨st.mono a z,λe=>by
  obtain⟨o,e1,_⟩:=st.mu a z;simp_all ⟩,st.nf,st.nw,λa z n=>st.nc a z.1 n,st.keep⟩
theorem aaC(M:Mk X.K D f)(F:dC X.prog X.w X.K X.mg X.base dR k f fd ps (Uf K cl D np n rows))(hr:cP (k+1) X.A)(hg:Gl X C)(hm:X.mg C=some (.ref D))(hn:dg X.K mainGlobals C=some (some (.ref D)))(hb:gG X.K fd ps [])(hl:rows.length<1000)
  (ha:dS K cl E X (e::es) ms)(hdb:(C==("__debug__":Str))=false:=by decide)(he:starEach (e::es) X.env=(false,eval e X.env)::starEach es X.env:=by rfl)(hpl:(backTo pos (starEach es X.env)).any (·.1)=false:=by rfl):
  aT K cl E X (.Call (.Name C p) (e::es) [] pos) (mW C np n rows ms):=by
 intro hK;subst hK;refine PE.imp (aa3  M F hr hg hm hb .nil pS (ha rfl) hdb he hpl) ?_
 rintro σ H Q ⟨p,S,ρ,s,ev,h⟩
 refine bT s ev h λq H1 as xs S' bR sm ev r k=>?_;split at k
 .rename_i el
  intro x dx hx hd ne;obtain⟨st2,sm2,nw⟩:=Q1  sm hx hd ne;refine⟨x,_,as,q,H1,_,S',dx,rfl,el,hl,hx,st2,sm2,.inr rfl,nw,eI,?_,?_⟩
  .rw[kg]
   exact st2.repAs r
  .revert k
   cases kC rows _ S' with
   |fail=>exact λk=>k.elim
   |exc nm S2=>exact λk=>k.elim
   |ok ws S2=>
    intro k q2 H2 dy vs a1 a2 a3 a4 a5 a6 a7;refine⟨rfl,k _ H2 _ (Qz a1 hx) (O8 a2 a4) ?_⟩;exact⟨x,dy,vs,D,rfl,⟨a5,λz=>z.2 rfl⟩,hn,a6,Tk a7⟩
 .exact k.elim
noncomputable def mY(C m:Str)(g:FM)(ma:ME):ME:=λρ S=>(ma ρ S).bind λx S1=>match x with
 |.pv (.obj D ns fs)=>if D=C/\m∉ns then frz S1.length (pU (g [.pv (.obj D ns fs)] S1))else .fail
 |_=>.fail
theorem Ep:∀{ns:List Str}{vs:List V},m∉ns->(ns.zip vs).lookup m=none
 |[],_,_=>rfl
 |_::_,[],_=>rfl
 |n::ns,v::vs,h=>by
  rw[ql,fh,show(m==n)=false from by
   rw[beq_eq_false_iff_ne];exact λz=>h (by rw[z];exact ce)]
  exact Ep λz=>h (cj _ z)
theorem aak{C m:Str}{o:ai}{mo:ME}{g:FM}{apos:ak}{pl:gq Bool}(c:iI X.K D)(hM:uV X.K D m f)(F:dC X.prog X.w X.K X.mg X.base dR k f fd ps (jP K cl g))(hr:cP k X.A)(hn:dg X.K mainGlobals C=some (some (.ref D)))(hb:gG X.K fd ps [])
  (ho:aT K cl E X o mo)(ht:eval (.Call (.Attribute o m apos) [] [] pos) X.env=(do
   let ov <-eval o X.env
   standAt apos.atName
   let (f,first) <-holding [ov] (getMethod ov m pl)
   callWith pos f first (backTo pos (starEach [] X.env)) (backToKw pos (keywordEach [] X.env))):=by rfl):aT K cl E X (.Call (.Attribute o m apos) [] [] pos) (mY C m g mo):=by
 intro hK;subst hK;refine PE.imp (Q0 (dvs:=[]) (ho rfl) c hM F hr hb .nil pS ht) ?_
 rintro σ H Q ⟨p,S,ρ,s,ev,h⟩
 refine bT s ev h λq H1 a x S' bR sm ev r k=>?_;split at k
 .rename_i C1 ns fs
  split at k
  .rename_i hc
   obtain⟨rfl,hm⟩:=hc;have r0:aL X.K q.c H1 (.obj C1 ns fs) x:=r;have r1:=r0;unfold aL at r1;obtain⟨a,dx,vs,D1,rfl,⟨h1,_⟩,h2,hl,rs⟩:=r1;rw[hn]at h2;cases h2;exact⟨a,dx,_,rfl,h1,Ep hm,q,S',_,sm,.cons (show bY X.K q H1 (.pv (.obj C1 ns fs)) _ from r0) .nil,Aa (Vb sm k)⟩
  .exact k.elim
 .exact k.elim
end
end L2.Pp
namespace L2
open PySem PySem.Spec PyProof.Rows Bn
namespace MxD
theorem afi(a d:Value):argsOk "max" ⟨[a],[(dj "default",d)]⟩:=by unfold argsOk;kernel_rfl
theorem yN:(toString "max"++toString ".loop":String)="max.loop":=by decide
section
variable{prog:Program}{w:ar}{A:ax}{R:nj->aa->Prop}{I B:Addr}{fp wr:List Addr}{n:Nat}{P:Nat->Value->Prop}{St:Nat->Heap->Prop}{bt:Nat->Nat->Bool}{dv:Value}
noncomputable abbrev Ku(I B:Addr)(dv:Value):Code:=.builtin "max.loop" ⟨[.ref I,.none,.ref B],[("default",dv)]⟩
noncomputable abbrev Su(xs:Array Value)(c:Nat):Obj:={cls:=.type "list",dict:=none,data:=.seq xs c,slots:=#[]}
theorem ae8(Wk:Walks prog w A.in1 I fp wr n P St)(hc:CmpOf prog w A.in1 .Gt P bt)(hB:B∉fp):
  ∀(k j:Nat)(s:aa)(v0:Value)(c:Nat),n-(j+1)=k->j+1<=n->St (j+1) s.heap->P (argBest bt j) v0->s.heap.get? B=some (Su #[v0,v0] c)->
  (∀v h' tk,P (argBest bt (n-1)) v->(∀b o,b∉wr->b≠B->s.heap.get? b=some o->h'.get? b=some o)->R (.ok (.ret v)) {s with heap:=h',toks:=tk})->codeAny (model prog w) A (Ku I B dv) R s:=by
 have hw:B∉wr:=λz=>hB (Wk.sub _ z);intro k
 induction k with
 |zero=>
  intro j s v0 c ek hj hs hp hb hr;have en:j+1=n:=by omega
  refine mn p7 ?_;rw[oq qv _];refine ae (kd hb rfl ?_);refine ae (ve (Wk.done s _ _ (en▸hs) λh' tk kp=>?_));refine ae (ya (kp B _ hw hb) rfl (ae (oh (aj ?_))));exact hr v0 _ tk (by rw[<-en];exact hp) λb o nb ne e=>(lh _ _ (jp ne)).trans (kp b o nb e)
 |succ k ih=>
  intro j s v0 c ek hj hs hp hb hr;have lt:j+1<n:=by omega
  refine mn p7 ?_;rw[oq qv _];refine ae (kd hb rfl ?_);refine ae (ve (Wk.item (j+1) s _ _ lt hs λv h' tk hv hs2 kp=>?_));have hb2:=kp B _ hw hb;refine ae (aj ?_);refine ae (ve (ix (ae (hc (j+1) (argBest bt j) v v0 _ _ _ hv hp ?_))));refine ae (ix (ni (ae (oh (aj ?_)))));cases eb:bt (j+1) (argBest bt j)with
  |true=>
   rw[if_pos rfl];refine ae (ya hb2 rfl (ae (oh ?_)));rw[yN];refine aj ⟨ot qv _,ih (j+1) _ v _ (by omega) lt (Wk.frame _ _ _ hs2 λb hf o e=>?_) (by unfold argBest;rw[if_pos eb];exact hv) (lg _ hb2 rfl) λv' h2 tk2 hv' kp2=>?_⟩
   .exact(lh _ _ λz:B=b=>hB (z▸hf)).trans e
   .exact hr v' h2 tk2 hv' λb o nb ne e=>kp2 b o nb ne ((lh _ _ (jp ne)).trans (kp b o nb e))
  |false=>
   rw[if_neg (by decide)];refine ae (oh ?_);rw[yN];exact aj ⟨ot qv _,ih (j+1) _ v0 c (by omega) lt hs2 (by unfold argBest;rw[if_neg (by rw[eb];decide)];exact hp) hb2 λv' h2 tk2 hv' kp2=>hr v' h2 tk2 hv' λb o nb ne e=>kp2 b o nb ne (kp b o nb e)⟩
theorem aeJ(Wk:Walks prog w A.in1 I fp wr n P St)(hc:CmpOf prog w A.in1 .Gt P bt)(hB:B∉fp){s:aa}{c:Nat}(hs:St 0 s.heap)(hb:s.heap.get? B=some (Su #[] c))
  (hr:∀v h' tk,(n=0->v=dv)->(0<n->P (argBest bt (n-1)) v)->(∀b o,b∉wr->b≠B->s.heap.get? b=some o->h'.get? b=some o)->R (.ok (.ret v)) {s with heap:=h',toks:=tk}):codeAny (model prog w) A (Ku I B dv) R s:=by
 have hw:B∉wr:=λz=>hB (Wk.sub _ z);refine mn p7 ?_;rw[oq qv _];refine ae (kd hb rfl ?_)
 by_cases z:n=0
 .subst z
  refine ae (ve (Wk.done s _ _ hs λh' tk kp=>?_));refine ae (ka (aj ?_));exact hr dv h' tk (λ_=>rfl) (λz=>absurd z (by omega)) λb o nb _ e=>kp b o nb e
 .have hn:0<n:=by omega
  refine ae (ve (Wk.item 0 s _ _ hn hs λv h' tk hv hs2 kp=>?_));have hb2:=kp B _ hw hb;refine ae (aj ?_);refine ae (ya hb2 rfl ?_);rw[yN];refine aj ⟨ot qv _,ae8 Wk hc hB _ 0 _ v _ rfl hn (Wk.frame _ _ _ hs2 λb hf o e=>?_) hv (lg _ hb2 rfl) λv' h2 tk2 hv' kp2=>?_⟩
  .exact(lh _ _ λz:B=b=>hB (z▸hf)).trans e
  .exact hr v' h2 tk2 (λz=>absurd z (by omega)) (λ_=>hv') λb o nb ne e=>kp2 b o nb ne ((lh _ _ (jp ne)).trans (kp b o nb e))
end
section
variable{prog:Program}{w:ar}{A:ax}{E:Value->aa->Prop}{s:aa}{l:Addr}{xs:Array (Int×bj)}{dv:Value}
theorem mxCl(hh:A.handled=none)(hl:s.heap.IsList l (intItems xs))
  (h:∀v h' tk,(xs.size=0->v=dv)->(0<xs.size->(intItems xs)[argBest (λi j=>decide (numAt xs i>numAt xs j)) (xs.size-1)]?=some v)->(∀b o,s.heap.get? b=some o->h'.get? b=some o)->Q v {s with heap:=h',toks:=tk}):
  wpAny (model prog w) A (call (.builtin "max") [.ref l] [("default",dv)]) Q E s:=by
 refine kmk_tree PySem.F.kind_max PySem.F.plain_max PySem.F.entry_max (afi _ _) ?_;refine ae (qp (show FE "max" ["key","default"] 0 ⟨[],[(dj "default",dv)]⟩=pure [none,some dv] from rfl) ?_);refine ae (aj ?_);refine ae (iter_intList hl λs2 e st hfp hne=>?_);subst e;refine ae (io ?_);rw[yN];have hB:=λz=>jc _ (hfp _ z);refine aj ⟨ot qv _,aeJ (xj (A:=A.in1) hh _ l hne (intItems xs)) (CmpOf.ints_gt (numAt xs) λ_ _=>o5) hB ⟨⟨_,av _ (cy _ rfl),rfl,rfl⟩,st.2.push _⟩ (cy _ rfl) λv h' tk h0 h1 kp=>?_⟩;have sz:(intItems xs).size=xs.size:=by simp[intItems]
 rw[sz]at h0 h1;exact h v h' tk h0 h1 (old_kept λb o nb e=>kp b o nb (λz=>by
  rw[z]at e;exact absurd (bh e) (jc _)) (av _ e))
end
end MxD
theorem Y5{X:Cx}{x:Str}{e:ai}{t:TA}{i:Int}{j}{p pos kp cp:ak}(hc:X.calm=true)(hg:Gl X x)(hm:X.mg x=none)(hv:bootBuiltins x=some (.builtin "max"))(ha:PA X [e] t)(hn:x≠"__name__":=by decide)(hdb:(x==("__debug__":Str))=false:=by decide)
  (he:backTo pos (starEach [e] X.env)=(false,eval e X.env)::backTo pos (starEach [] X.env):=by rfl)(hp:(backTo pos (starEach [e] X.env)).any (·.1)=false:=by rfl):
  PE X (.Call (.Name x p) [e] [⟨some "default",.Constant (.int i) j cp,kp⟩] pos) (λσ H Q=>t σ H λxs H1=>∃(a:Addr)(is:FI),xs=[.ref a]/\bS X.K H1 a (is.map V.int)/\(is=[]->Q (.int i) H1)/\∀M,M∈is->(∀b∈is,b<=M)->Q (.int M) H1):=by
 intro FX s σ H Q I h;refine qi (mS I hg hm hv ?_ hn hdb);refine PyProof.Rows.callWith_kw (bC (ha pos FX s σ H _ I h) λus s1 hq=>?_) he hp;rcases hq with⟨vs,H1,I1,r1,a,is,e1,sq,q0,q1⟩;subst e1;obtain⟨u,rfl,ru⟩:=jY r1;cases ru;refine PyProof.Rows.kws_cons (AE ?_);refine PyProof.Rows.kws_nil ?_;have I2:=I1.tok (s1.toks+1);obtain⟨its,rv,pl,hz⟩:=I2.list sq;have hi:=Pp.intsAre rv;have hl:=pl.isList;obtain⟨xs,ex⟩:=hi.allInts.items;have hns:is=xs.toList.map (·.1):=by rw[<-hi.numsOf,<-nums_intItems,<-ex]
 rw[ex]at hl;refine MxD.mxCl (I2.ok.hd hc) hl λv h' tk h0 h1 hk=>?_;have I3:=I2.kept (h':=h') (t':=tk) hk
 by_cases z:xs.size=0
 .cases h0 z
  have:is=[]:=by
   rw[hns];have:xs.toList=[]:=DW (by rw[jz];exact z);rw[this];rfl
  exact⟨.int i,H1,I3,⟨_,rfl⟩,q0 this⟩
 .obtain⟨tk0,rfl⟩:=o5 (h1 (by omega))
  obtain⟨g1,g2⟩:=argBest_gt (numAt xs) (xs.size-1);refine⟨.int _,H1,I3,⟨tk0,rfl⟩,q1 _ ?_ λb hb=>?_⟩
  .rw[hns,yc]
   exact getD_mem (by rw[aw,jz];omega)
  .rw[hns]at hb
   obtain⟨k,hk2,rfl⟩:=mem_getD hb;rw[aw,jz]at hk2;rw[<-yc];exact g2 k (by omega)
end L2
namespace L2.Pp
open PySem PySem.Spec PyProof.Rows Bn
noncomputable def mV(i:Int):FS->FT
 |[.lst xs]=>(fV xs).map λbs=>.int (bs.max?.getD i)
 |_=>none
section
variable{K:ah}{cl:Str->Addr}{E:XK}{X:Cx}{e:ai}{ms:MA}{x:Str}{i:Int}{j:Nat}{p pos kp cp:ak}
theorem abT:jV K (λxs H Q=>∃(a:Addr)(is:FI),xs=[.ref a]/\bS K H a (is.map V.int)/\(is=[]->Q (.int i) H)/\∀M,M∈is->(∀b∈is,b<=M)->Q (.int M) H) (mV i):=λ{p S H as c xs Q} s ra e k=>by
 unfold mV at e;split at e
 .rename_i zs
  cases y:fV zs with
  |none=>simp_all
  |some bs=>
   rw[y]at e;cases e;cases ra with
   |cons h t=>
    cases t;obtain⟨a,vs,rfl,l,z,r⟩:=h.lst;cases pD y r;refine⟨a,bs,rfl,l,λz=>?_,λM h1 h2=>?_⟩
    .subst z
     exact k H _ (cN.refl H) (by rfl)
    .have:=DE.mpr ⟨h1,h2⟩
     have k:∀H' z,cN H _->aL K _ _ (.int _) z->Q z _:=k;rw[this]at k;exact k H _ (cN.refl H) (by rfl)
 .cases e
theorem aao(hc:X.calm=true)(hg:Gl X x)(hm:X.mg x=none)(hv:bootBuiltins x=some (.builtin "max"))(ha:dS K cl E X [e] ms)(hn:x≠"__name__":=by decide)(hdb:(x==("__debug__":Str))=false:=by decide)
  (he:backTo pos (starEach [e] X.env)=(false,eval e X.env)::backTo pos (starEach [] X.env):=by rfl)(hp:(backTo pos (starEach [e] X.env)).any (·.1)=false:=by rfl):aT K cl E X (.Call (.Name x p) [e] [⟨some "default",.Constant (.int i) j cp,kp⟩] pos) (mR (mV i) ms):=by
 intro hK;subst hK;refine PE.imp (Y5 hc hg hm hv (ha rfl) hn hdb he hp) ?_
 rintro σ H Q ⟨p,S,ρ,s,ev,h⟩
 exact bT s ev h λq H' as xs S' bR sm ev r k=>wD abT sm r k
end
end L2.Pp
namespace L2
open PySem PySem.Spec PyProof.Rows Bn
section
variable{X:Cx}
noncomputable def aaf:V->List V->Hp->VK->Prop:=λx vs H Q=>∃l xs i y,x=.ref l/\vs=[.int i,y]/\H l=some (.lst xs)/\0<=i/\i<9223372036854775808/\xs.length<sizeLine/\Q .non (aS H l (.lst (xs.take i.toNat++y::xs.drop i.toNat)))
theorem U4(its:FN)(i:Int)(h0:0<=i)(u:Value):
  (have k:=if i<0 then(i+((its.toArray.size:Nat):Int)).toNat else min i.toNat its.toArray.size;(its.toArray.extract 0 k).push u++its.toArray.extract k)=(its.take i.toNat++u::its.drop i.toNat).toArray:=by
 show(its.toArray.extract 0 (if i<0 then(i+((its.toArray.size:Nat):Int)).toNat else min i.toNat its.toArray.size)).push u++its.toArray.extract (if i<0 then(i+((its.toArray.size:Nat):Int)).toNat else min i.toNat its.toArray.size)=_;rw[if_neg (by omega)];apply p8;simp only[ay,Array.toList_append,Array.toList_push,Array.toList_extract,List.extract_eq_take_drop,DX,Nat.sub_zero];rw[oj]
 by_cases h:i.toNat<=its.length
 .rw[DY h]
  rw[tj (l:=List.drop i.toNat its) (by rw[ny];omega)];rfl
 .rw[yg (by omega)]
  simp only[xv,List.take_nil,l7];rw[tj (by omega),List.drop_of_length_le (by omega)];rfl
theorem Lz:Bg X "list.insert" aaf:=by
 intro FX s σ H x vs v us Q I rx rv h;obtain⟨l,xs,i,y,rfl,rfl,hH,h1,h2,hz,q⟩:=h;cases rx;obtain⟨u0,u,rfl,r0,ru⟩:=rv.two;obtain⟨t,rfl⟩:=r0;obtain⟨z,its,n,r,hl,e⟩:=I.lstM hH;refine wq DZ ⟨_,e,rfl⟩ F.entry_list_insert (F.args_list_insert_3 _ _ _) (AutoListH.list_insert_list_int_val_1 l _ n i t u ?_ (by grind)) ⟨e,?_⟩
 .unfold Builtin.List.listFitsIndex
  grind
 .refine⟨.non,_,I.lset  hH e (U4 _ i h1 u) ((r.take _).append (.cons ru (r.drop _))) ?_,rfl,q⟩
  grind
end
end L2
namespace L2.Pp
open PySem PySem.Spec PyProof.Rows Bn
section
variable{K:ah}{cl:Str->Addr}{E:XK}{X:Cx}{a d e:ai}{m:ME}{ms:MA}
noncomputable def uJ(k:Nat)(ys:FW)(S:aI):bI AV:=match ys with
 |[.pv (.int i),.pv y]=>match S[k]? with
  |some (.lst xs)=>if 0<=i/\i<9223372036854775808/\xs.length<16777216 then .ok (.pv .non) (S.set k (.lst (xs.take i.toNat++y::xs.drop i.toNat)))else .fail
  |_=>.fail
 |_=>.fail
noncomputable def uN(m:ME)(ms:MA):ME:=λρ S=>(m ρ S).bind λk S1=>fH k S1 λk=>(ms ρ S1).bind λys S2=>uJ k ys S2
theorem Wz{apos cpos:ak}(ho:aT K cl E X a m)(ha:dS K cl E X [d,e] ms)(hbase:attributeBase a "insert" X.env (eval a X.env)=eval a X.env:=by rfl)
  (hfew:((backTo cpos (starEach [d,e] X.env)).all (λx=>!x.1)&&(backToKw cpos (keywordEach [] X.env)).all (λx=>x.1.isSome)&&decide (([d,e]:List ai).length+([]:List jg).length+(if([]:List jg).isEmpty then 0 else 1)<30))=true:=by rfl)
  (hline:(apos.endLine==cpos.line)=true:=by rfl)(hs:starEach [d,e] X.env=(false,eval d X.env)::starEach [e] X.env:=by rfl)(hplain:(backTo cpos (starEach [e] X.env)).any (·.1)=false:=by rfl):aT K cl E X (.Call (.Attribute a "insert" apos) [d,e] [] cpos) (uN m ms):=by
 intro hK;subst hK;refine PE.imp (xT xw DZ PySem.F.type_list_insert Lz (ho rfl) (ha rfl) hbase hfew hline hs hplain) ?_
 rintro σ H Q ⟨p,S,ρ,s,ev,h⟩
 refine bT s ev h λq H1 k x S1 st s1 e1 r1 h1=>?_;cases k with
 |pv v=>exact h1.elim
 |ref k=>
  have h1:=h1;rcases wL k S1 (λk=>(ms ρ S1).bind λys S2=>uJ k ys S2)with z |⟨z,n1,n2⟩
  .rw[z]at h1
   exact h1.elim
  rw[z]at h1;refine⟨Mc s1 r1 n1 n2,bT s1 e1 h1 λq2 H2 ys xs S2 st2 s2 e2 r2 h2=>?_⟩;obtain⟨a,ea,rfl⟩:=st2.repA r1;unfold uJ at h2;split at h2
  .rename_i i y
   cases r2 with
   |cons r0 r2=>
   cases r2 with
   |cons r3 r4=>
    cases r4;rename_i x0 x;have ex:x0=.int i:=(show dQ X.K q2 H2 (.int i) x0 from .inl r0).int;subst ex;cases z:S2[k]? with
    |none=>rw[z]at h2;exact h2.elim
    |some o=>
     cases o with
     |lol _=>simp only[z]at h2;exact h2.elim
     |dic _ _=>simp only[z]at h2;exact h2.elim
     |dol _ _=>simp only[z]at h2;exact h2.elim
     |lst zs=>
      simp only[z]at h2;obtain⟨vs,h3,l3,r4⟩:=s2.obj k a _ ea z;split at h2
      .rename_i hl
       obtain⟨hi,hj,hl⟩:=hl;rw[r4.length]at hl;have hz:=iP;refine⟨a,vs,i,x,rfl,rfl,h3,hi,hj,by omega,?_⟩;obtain⟨st3,fA⟩:=s2.write ea (da.mp z).1 (ps:=zs.take i.toNat++y::zs.drop i.toNat)  (by rw[cx,bo,qk,ny];omega) ((r4.take _).append (.cons r3 (r4.drop _)));exact h2 _ _ .non st3 fA (by rfl)
      .exact h2.elim
  .exact h2.elim
end
noncomputable def xS(n:Nat)(ρ:bM):Bool:=ρ.all λv=>match v with
 |some (.ref j)=>decide (j<n)
 |_=>true
theorem Yz{n:Nat}{ρ:bM}(h:xS n ρ=true){i k:Nat}(e:ρ[i]?=some (some (.ref k))):k<n:=by
 have:=ie.mp h _ (fy e);exact of_decide_eq_true this
noncomputable def yI(n i:Nat):cA->cA
 |.nx ρ S=>match ρ[i]? with
  |some (some (.ref k))=>match S[k]? with
   |some (.lst xs)=>if n<=k/\xS n (ρ.set i none)=true then .nx (ρ.set i (some (.pv (.lst xs)))) (S.take n)else .fail
   |_=>.fail
  |_=>.fail
 |.exc n S=>.exc n S
 |_=>.fail
noncomputable def yL(i:Nat)(a:MS):MS:=λρ S=>yI S.length i (a ρ S)
section
variable{K:ah}{cl:Str->Addr}{E:XK}{X:Cx}{st1 st2:Stmt}{sts:List Stmt}{b1 b2 b3:MS}
theorem A6{p:Ph}{H:Hp}{S:aI}{i:Nat}{r:cA}{D:lK}{b:MS}(s:aW K p S H)
  (h:dD K cl p H (match yI S.length i r with
   |.nx ρ1 S1=>b ρ1 S1
   |r=>r) D E):dD K cl p H r {D with nx:=λσ' H'=>tS K cl E b D σ' H'} E:=by
 cases r with
 |bk ρ1 S1=>exact h.elim
 |ct ρ1 S1=>exact h.elim
 |rt v S1=>exact h.elim
 |fail=>exact h
 |exc n S1=>exact h
 |nx ρ1 S1=>
  intro q H' σ' bR sm ev;unfold yI at h;cases e1:ρ1[i]? with
  |none=>simp only[e1]at h;exact h.elim
  |some o=>
   cases o with
   |none=>simp only[e1]at h;exact h.elim
   |some v=>
    cases v with
    |pv v=>simp only[e1]at h;exact h.elim
    |ref k=>
     simp only[e1]at h;cases e2:S1[k]? with
     |none=>simp only[e2]at h;exact h.elim
     |some o=>
      cases o with
      |lol _=>simp only[e2]at h;exact h.elim
      |dic _ _=>simp only[e2]at h;exact h.elim
      |dol _ _=>simp only[e2]at h;exact h.elim
      |lst xs=>
       simp only[e2]at h
       by_cases hk:S.length<=k/\xS S.length (ρ1.set i none)=true
       .rw[if_pos hk]at h
        obtain⟨y,ey,a,ea,rfl⟩:=ev.at_ i _ e1;obtain⟨na,hn,nc⟩:=Db s bR sm ea (by omega);obtain⟨st2,sm2⟩:=s.cutX (λb=>b=a) bR sm (λb d=>d▸hn) (.inl λb d=>d▸fy ea);obtain⟨vs,h1,l,r1⟩:=sm.obj k a _ ea e2;refine⟨_,_,_,sm2,⟨by rw[kq];exact ev.len,λj v hv=>?_⟩,dD.mono h st2⟩
        by_cases hj:i=j
        .subst hj
         have hlt:i<ρ1.length:=(da.mp e1).1;rw[jq hlt]at hv;cases hv;refine⟨_,ey,?_⟩;exact⟨a,vs,rfl,.inl ⟨h1,λd=>d.2 rfl⟩,l,nQ (λb h=>h.1) r1⟩
        .rw[jy hj]at hv
         obtain⟨x,ex,rx⟩:=ev.at_ j v hv;refine⟨x,ex,?_⟩;cases v with
         |pv v=>exact zZ (λb h=>h.1) rx
         |ref m=>
          obtain⟨c,ec,rfl⟩:=rx;have hm:m<S.length:=Yz hk.2 (i:=j) (by rw[jy hj];exact hv);refine⟨c,?_,rfl⟩;show p.f[m]?=some c;have hp:m<p.f.length:=by rw[s.len];exact hm
          obtain⟨t,ht⟩:=bR.pre;rw[<-ht,ib hp]at ec;exact ec
       .rw[if_neg hk]at h
        exact h.elim
theorem aaG(i:Nat)(h1:dY K cl E X st1 b1)(h2:dY K cl E X st2 b2)(h3:fY K cl E X sts b3):fY K cl E X (st1::st2::sts) (aJ (yL i (aJ b1 b2)) b3):=by
 intro hK;subst hK;refine eZ.imp (wJ (h1 rfl) (wJ (h2 rfl) (h3 rfl))) λD σ H ⟨p,S,ρ,s,e,h⟩=>⟨p,S,ρ,s,e,?_⟩;have g:=A6   s h;unfold aJ at g;cases z:b1 ρ S with
 |nx ρ1 S1=>
  rw[z]at g;intro q H' σ' bR sm ev;exact⟨q,S1,ρ1,sm,ev,dD.mono g bR⟩
 |bk ρ1 S1=>rw[z]at g;exact g
 |ct ρ1 S1=>rw[z]at g;exact g
 |rt v S1=>rw[z]at g;exact g
 |exc n S1=>rw[z]at g;exact g
 |fail=>rw[z]at g;exact g
end
end L2.Pp
namespace L2
open PySem PySem.Spec PyProof.Rows Bn
namespace Se
theorem sE:Slot "set_iterator" "__next__" "set_iterator.__next__":=
 .of (owner:="set_iterator") (n:="__next__") (by rw[typeLookup_type,EA];kernel_rfl) (by decide+kernel) (by decide+kernel) (by decide+kernel)
  (by first |exact .inl (by decide+kernel) |exact .inr (by decide+kernel)) (by rw[p9];kernel_rfl)
theorem Eu:Slot "set_iterator" "__iter__" "set_iterator.__iter__":=
 .of (owner:="set_iterator") (n:="__iter__") (by rw[typeLookup_type,EA];kernel_rfl) (by decide+kernel) (by decide+kernel) (by decide+kernel)
  (by first |exact .inl (by decide+kernel) |exact .inr (by decide+kernel)) (by rw[p9];kernel_rfl)
theorem Iu:entryFor table "set_iterator.__next__"=some Builtin.«set_iterator.__next__»:=entryFor_of_tree (by kernel_rfl)
theorem ae2:entryFor table "set.__iter__"=some Builtin.«frozenset.__iter__»:=entryFor_alias (id':="frozenset.__iter__") (by kernel_rfl) rfl (by decide+kernel) (by kernel_rfl)
theorem aeE(a:Value):argsOk "set_iterator.__iter__" ⟨[a],[]⟩:=by unfold argsOk;kernel_rfl
theorem Pu(a:Value):argsOk "set_iterator.__next__" ⟨[a],[]⟩:=by unfold argsOk;kernel_rfl
section
variable{prog:Program}{w:ar}{A:ax}{E:Value->aa->Prop}{s:aa}{a I:Addr}{es:Array (Int×Value)}
noncomputable abbrev iH(es:Array (Int×Value))(ep:Nat)(t:tq):Obj:={cls:=.type "set",dict:=none,data:=.set es ep t,slots:=#[]}
noncomputable def fW(w:ar):Bool:=w.params.followText "set-order"
noncomputable def iX(w:ar)(h:Heap)(a:Addr)(es:Array (Int×Value)):Prop:=∃ep t,h.get? a=some (iH es ep t)/\t.fits es.size=true/\(fW w=true\/t.led=true)/\es.size<=1
theorem iX.at'(x:iX w h a es)(k:∀o,h.get? a=some o->h'.get? a=some o):iX w h' a es:=
 let⟨ep,t,e,r⟩:=x
 ⟨ep,t,k _ e,r⟩
theorem iX.ty(x:iX w s.heap a es):s.TypeIs (.ref a) "set":=let⟨_,_,e,_⟩:=x;⟨_,e,rfl⟩
theorem Pf(h:Q (fW w) s):wpAny (model prog w) A setsByText Q E s:=ae (q9 (aj h))
theorem Hu(j k:Nat):yh #[j] k=if j<k then 1 else 0:=by
 unfold yh SetTable.below.go;simp;.rfl
theorem aeL{e:Int×Value}:pickOrder f #[e]=#[e]:=by
 simp[pickOrder,EB,Nat.mod_one]
theorem aeT{f:Nat->Nat}:pickOrder f (#[]:Array (Int×Value))=#[]:=by
 simp[pickOrder,EB]
theorem aeS{f:Nat->Nat}(h:es.size<=1):pickOrder f es=es:=by
 obtain⟨l⟩:=es
 match l,h with
 |[],_=>exact aeT
 |[e],_=>exact aeL
 |_::_::_,h=>simp at h
theorem ae5(e:s.heap.get? a=some (iH es ep t))(f:t.fits es.size=true)(b:fW w=true)(z:es.size<=1)(h:Q es s):wpAny (model prog w) A (setWalk a) Q E s:=by
 refine ae (mq e rfl f ?_);refine ae (Pf ?_);rw[b];refine ae (q9 (aj ?_));rw[aeS z];exact h
theorem Vt{ep:Nat}{t:tq}{i:Nat}{slot:Nat}{Q:Option (Value×Nat)->aa->Prop}(e:s.heap.get? a=some (iH es ep t))(f:t.fits es.size=true)(b:fW w=true\/t.led=true)(z:es.size<=1)(hs:fW w=true\/yh t.place slot=i)
  (h:∀n,(fW w=true\/∀j,t.place[i]?=some j->n=j+1)->Q (es[i]?.map λe=>(e.2,n)) s):wpAny (model prog w) A (setNext a slot i ep) Q E s:=by
 unfold setNext;refine ae (mq e rfl f ?_);dsimp only;refine ae (Pf ?_);cases b0:fW w with
 |true=>
  rw[if_pos rfl];simp only[bne_self_eq_false,tf,if_false];refine ae (ae5 e f b0 z ?_);exact aj (h slot (.inl b0))
 |false=>
  rw[if_neg (by decide)];have hb:t.led=true:=b.resolve_left (by rw[b0];decide);have hi:=hs.resolve_left (by rw[b0];decide);have d:(!t.plain&&decide (es.size>1))=false:=by
   rw[decide_eq_false (by omega),yb]
  show wpAny _ _ (if(!t.plain&&decide (es.size>1))=true then _ else _) _ _ s;rw[d,if_neg (by decide)];refine ae ?_;show wpAny _ _ (if(!t.led&& !es.isEmpty)=true then _ else _) _ _ s;rw[hb,if_neg (by simp)];refine aj ?_;simp only[hi];have fs:t.place.size=es.size:=by
   unfold s0 at f;simp at f;exact f.1
  cases ei:es[i]? with
  |none=>
   have:=h 0 (.inr λj hj=>absurd (t5.mp hj).1 (by rw[fs];exact λhl=>by rw[om hl]at ei;cases ei));rw[ei]at this;exact aj this
  |some x=>
   have hl:i<t.place.size:=by rw[fs];exact(t5.mp ei).1
   rw[om hl];have:=h (t.place[i]+1) (.inr λj hj=>by rw[om hl]at hj;cases hj;rfl);rw[ei]at this;exact aj this
noncomputable def qE(w:ar)(h:Heap)(I a:Addr)(es:Array (Int×Value))(i:Nat):Prop:=∃ep t slot,h.get? a=some (iH es ep t)/\t.fits es.size=true/\(fW w=true\/t.led=true)/\es.size<=1/\h.get? I=some {cls:=.type "set_iterator",data:=.fields #[.int ((slot:Nat):Int) 0,.int (i:Int) 0,.ref a,.int (es.size:Int) 0,.int (ep:Int) 0]}/\(fW w=true\/yh t.place slot=i)
theorem qE.at'{i:Nat}(x:qE w h I a es i)(k:∀b,b=I\/b=a->∀o,h.get? b=some o->h'.get? b=some o):qE w h' I a es i:=
 let⟨ep,t,slot,e1,f,b,z,e2,r⟩:=x
 ⟨ep,t,slot,k a (.inr rfl) _ e1,f,b,z,k I (.inl rfl) _ e2,r⟩
theorem ae3{i:Nat}{x:Int×Value}{Q:FO->aa->Prop}(ne:a≠I)(st:qE w s.heap I a es i)(hx:es[i]?=some x)(hQ:∀h',qE w h' I a es (i+1)->il I s.heap h'->Q (some x.2) {s with heap:=h'}):wpAny (model prog w) A (pyNext (.ref I)) Q E s:=by
 obtain⟨ep,t,slot,e1,f,b,z,e2,r⟩:=st;have hT:s.TypeIs (.ref I) "set_iterator":=⟨_,e2,rfl⟩;unfold pyNext;refine ae (sk (lc (name:=dj "__next__") hT sE (jk sE hT Iu ?_ (Pu _))));unfold Builtin.«set_iterator.__next__»;refine ae (aj ?_);refine ae (o6 e2 rfl ?_);show wpAny _ _ (setEntries a >>= _) _ _ s;refine ae ?_;unfold setEntries;refine ae (mq e1 rfl f (aj ?_));dsimp only;simp only[bne_self_eq_false,tf,if_false];refine ae (Vt (i:=i) (slot:=slot) e1 f b z r λn hn=>?_);rw[hx];show wpAny _ _ (setField _ 0 _ >>= _) _ _ s;refine ae (og e2 rfl (by simp) ?_);have e3:=lg (yd λx=>x.setIfInBounds 0 (rawInt n)) e2 rfl;refine ae (og e3 rfl (by simp) ?_);refine aj ⟨x.2,rfl,aj (hQ _ ?_ ?_)⟩
 .refine⟨ep,t,n,?_,f,b,z,?_,?_⟩
  .exact(lh _ _ ne.symm).trans ((lh _ _ ne.symm).trans e1)
  .exact lg (yd λx=>x.setIfInBounds 1 (rawInt (i+1))) e3 rfl
  .refine hn.imp id λhn=>?_
   have hl:=(t5.mp hx).1;have i0:i=0:=by omega
   subst i0;have fs:t.place.size=1:=by
    unfold s0 at f;simp at f;omega
   obtain⟨j,hj⟩:∃j,t.place=#[j]:=Array.size_eq_one_iff.mp fs;rw[hj]at hn⊢;rw[hn j rfl,Hu,if_pos (qh j)]
 .exact(kj ..).trans (kj ..)
theorem aen{i:Nat}{Q:FO->aa->Prop}(hh:A.handled=none)(ne:a≠I)(st:qE w s.heap I a es i)(hx:es[i]?=none)(hQ:∀h',si I s.heap h'->Q none {s with heap:=h'}):wpAny (model prog w) A (pyNext (.ref I)) Q E s:=by
 obtain⟨ep,t,slot,e1,f,b,z,e2,r⟩:=st;have hT:s.TypeIs (.ref I) "set_iterator":=⟨_,e2,rfl⟩;unfold pyNext;refine ae (sk (lc (name:=dj "__next__") hT sE (jk sE hT Iu ?_ (Pu _))));unfold Builtin.«set_iterator.__next__»;refine ae (aj ?_);refine ae (o6 e2 rfl ?_);show wpAny _ _ (setEntries a >>= _) _ _ s;refine ae ?_;unfold setEntries;refine ae (mq e1 rfl f (aj ?_));dsimp only;simp only[bne_self_eq_false,tf,if_false];refine ae (Vt (i:=i) (slot:=slot) e1 f b z r λn hn=>?_);rw[hx];show wpAny _ _ (setField _ 2 _ >>= _) _ _ s;refine ae (og e2 rfl (by simp) ?_);show wpAny _ _ (newExc (.type "StopIteration") [] >>= _) _ _ _;refine ae ?_;simp only[newExc,newTuple];refine ae (io ?_ (by size_fits));refine ae (m:=firstArgMember _ _) (qp (a:=br) (by first |rfl |(simp only[firstArgMember];rfl)) ?_)
 refine io ?_ (by size_fits);simp only[raiseNew];refine ae (i5 ?_);rw[show A.in1.handled=none from hh];refine ae (aj (i6 ?_));refine ae (ul (T:="StopIteration") (b:=true) ⟨_,cy _ rfl,rfl⟩ j4 ?_);exact aj (hQ _ (((kj ..).extBut.push _).push _))
theorem aeX{Q:Value->aa->Prop}(x:iX w s.heap a es)(hQ:∀ep t,s.heap.get? a=some (iH es ep t)->Q (.ref s.heap.objs.size) {s with heap:=s.heap.push {cls:=.type "set_iterator",data:=.fields #[.int 0 0,.int 0 0,.ref a,.int (es.size:Int) 0,.int (ep:Int) 0]}}):wpAny (model prog w) A (pyIter (.ref a)) Q E s:=by
 have hT:=x.ty;obtain⟨ep,t,e,f,b,z⟩:=x;refine o8 hT F.slot_set_iter (jk F.slot_set_iter hT ae2 ?_ (F.args_set_iter_1 _));unfold Builtin.«frozenset.__iter__»;refine ae (aj ?_);refine ae ?_;unfold FF setEntries;refine ae (ae (mq e rfl f (aj (aj ?_))));refine ae ?_;unfold setDrawn;refine ae (mq e rfl f ?_);dsimp only;refine ae (Pf (aj ?_));have d:(!fW w&&(!t.plain&&decide (es.size>1)))=false:=by rw[decide_eq_false (by omega),yb,yb]
 show wpAny _ _ (if(!fW w&&(!t.plain&&decide (es.size>1)))=true then _ else _) _ _ s;rw[d,if_neg (by decide)];refine ae (aj ?_);refine ae ?_;unfold setEpoch;refine ae (mq e rfl f (aj ?_));refine ae (io (aj ⟨_,rfl,"set_iterator",_,⟨_,cy _ rfl,rfl⟩,sE.lookup,?_⟩));exact hQ ep t e
theorem aff(hh:A.handled=none)(ne:a≠I):Walks prog w A I [I,a] [I] es.size (λi v=>(es[i]?).map (·.2)=some v) (λi h=>qE w h I a es i) where
 sub:=λb hb=>by simp at hb;simp[hb]
 frame:=λ_ _ _ st hk=>st.at' λb hb=>hk b (by simpa using hb)
 item:=λi s Q E hi st hQ=>ae3 ne st (om hi) λh' it sb=>hQ _ h' s.toks (by rw[om hi];rfl) it λb o hb e=>by
  rw[sb.2 b λz=>hb (by simp[z])];exact e
 done:=λs Q E st hQ=>aen hh ne st (DF (aq _)) λh' ex=>hQ h' s.toks λb o hb e=>ex b o (λz=>hb (by simp[z])) e
 self:=λi s Q E st hQ=>by
  obtain⟨ep,t,slot,e1,f,b,z,e2,r⟩:=st;have hT:s.TypeIs (.ref I) "set_iterator":=⟨_,e2,rfl⟩;refine o8 hT Eu (jk Eu hT (entryFor_alias (id':="dict_keyiterator.__iter__") (b:=Builtin.«dict_keyiterator.__iter__») (by kernel_rfl) rfl (by decide+kernel) (by kernel_rfl)) ?_ (aeE _));show wpAny _ _ (ret (.ref I)) _ _ s;exact aj ⟨_,rfl,"set_iterator",_,hT,sE.lookup,hQ⟩
theorem seSc:PySem.W.KdlSrc prog w "set" a a es.size (λi v=>(es[i]?).map (·.2)=some v) (λh=>iX w h a es) where
 type:=λ_ hm=>hm.ty
 there:=λ_ hm=>let⟨_,_,e,_⟩:=hm;⟨bh e,bh e⟩
 keep:=λ_ _ hm hk=>hm.at' λo e=>hk a (.inl rfl) o e
 notList:=by decide
 notTuple:=by decide
 hint:=λA E s Q hm h=>by
  have hT:=hm.ty;unfold Builtin.List.listLengthHint;refine ae (k8 hT F.slot_set_len.lookup ?_);generalize hid:("set.__len__":String)=id0
  wp_delta
  rw[show splitId id0=some ("set","__len__") from by subst hid;decide+kernel];subst hid;refine ae (ul (T:="set") (b:=true) hT (by rw[p9];kernel_rfl) ?_);refine wpAny_ite_split (λhab=>absurd hab (by decide)) (λ_=>?_);refine wpAny_ite_split (λ_=>?_) (λhab=>absurd (by decide+kernel) hab);refine ae (wm hT ?_);exact aj h
 iter:=λA s hh hm=>by
  obtain⟨ep,t,e,f,b,z⟩:=id hm;refine⟨_,_,λE Q h=>aeX hm λep' t' e'=>?_,aff hh (df (bh e)),⟨ep,t,0,av _ e,f,b,z,cy _ rfl,.inr ?_⟩⟩
  .rw[e]at e'
   cases e';exact h
  .have fs:t.place.size<=1:=by
    unfold s0 at f;simp at f;omega
   obtain⟨⟨l⟩,hl⟩:∃p,t.place=p:=⟨_,rfl⟩;rw[hl]at fs⊢
   match l,fs with
   |[],_=>rfl
   |[j],_=>rw[Hu];rfl
   |_::_::_,h=>simp at h
theorem aeq(t:tq)(es:Array (Int×Value))(h:Int)(x:Value):(layNew t es h x).2.1.led=t.led:=by
 unfold layNew;split
 .show((t.put _).1.orStandIn _).led=_
  unfold SetTable.orStandIn;split<;>rfl
 .rfl
theorem aeN(t:tq)(es:Array (Int×Value))(n:Nat):(relayAll t es n).2.1.led=t.led:=by
 unfold relayAll;split
 .rename_i t' o e
  have:t'.led=t.led:=by
   unfold SetTable.relaid SetTable.laid at e;cases z:SetTable.layClean _ _ with
   |none=>rw[z]at e;cases e
   |some ow=>rw[z]at e;cases e;rfl
  dsimp only;split
  .exact this
  .rfl
 .rfl
theorem uW{es es':Array (Int×Value)}{ep:Nat}{t t':tq}{Q:Unit->aa->Prop}(e:s.heap.get? a=some (iH es ep t))(z:es'.size<=1)(h:∀h',il a s.heap h'->h'.get? a=some (iH es' (ep+1) t')->Q () {s with heap:=h'}):wpAny (model prog w) A (storeSet a es' t') Q E s:=by
 refine wpAny_storeSet_of e rfl (h _ (kj ..) ?_) (by rw[ia];omega);exact lg (Obj.putSet es' t') e rfl
theorem aet{k:Int}{t:bj}{Q:Bool->aa->Prop}(x:iX w s.heap a #[])(h:∀h',il a s.heap h'->iX w h' a #[((intKind prog w).hash k,.int k t)]->Q true {s with heap:=h'}):wpAny (model prog w) A (setAddHashed a (.int k t) ((intKind prog w).hash k)) Q E s:=by
 obtain⟨ep,tb,e,f,b,z⟩:=x;unfold setAddHashed setAddHashedIn;refine ix (ae (mq e rfl f ?_));dsimp only;rw[show byScan (.int k t) #[]=true from by simp[byScan,EC,scanBound]];simp only[↓reduceIte];unfold setAddByScan;refine ae ?_;refine ae (ka ?_);refine ae (wpAny_setScan_of (knd:=intKind prog w) (vf _ _ _ _) e rfl f (λ_ h=>by cases h) ?_);dsimp only[ED,List.findIdx?.go];have hp:=layNew_perm tb #[] ((intKind prog w).hash k) (.int k t);have hf:=layNew_fits tb #[] ((intKind prog w).hash k) (.int k t);have hl:=aeq tb #[] ((intKind prog w).hash k) (.int k t);generalize layNew tb #[] ((intKind prog w).hash k) (.int k t)=L at hp hf hl⊢;obtain⟨es1,t1,wd,gv⟩:=L;dsimp only at hp hf hl⊢;have ee:es1=#[((intKind prog w).hash k,.int k t)]:=by
  apply p8;exact t6.mp hp
 subst ee;have gw:∀(b:Bool){GA:aa}{Q':Unit->aa->Prop},Q' () GA->wpAny (model prog w) A (match b with |true=>rule "set.scan.the-table-gave-way" |false=>pure ()) Q' E GA:=λb GA Q' hq=>by
  cases b
  .exact aj hq
  .exact ka hq
 have tail:wpAny (model prog w) A (do
    storeSet a #[((intKind prog w).hash k,.int k t)] t1
    if(!wd&&t1.tooFull)=true then do
      (match(relayAll t1 #[((intKind prog w).hash k,.int k t)] (qx 1)).2.2 with |true=>rule "set.scan.the-table-gave-way" |false=>pure ())
      storeSet a (relayAll t1 #[((intKind prog w).hash k,.int k t)] (qx 1)).1 (relayAll t1 #[((intKind prog w).hash k,.int k t)] (qx 1)).2.1
      pure (some true)
     else pure (some true)) (λr s'=>wpAny (model prog w) A (match r with
     |some added=>pure added
     |none=>setAddHashedIn a (.int k t) ((intKind prog w).hash k) 99999) Q E s') E s:=by
  refine ae (uW (t':=t1) e (aq 1) λh1 sb1 e1=>?_);split
  .have hp2:=relayAll_perm t1 #[((intKind prog w).hash k,.int k t)] (qx 1)
   have hf2:=relayAll_fits t1 #[((intKind prog w).hash k,.int k t)] (qx 1);have hl2:=aeN t1 #[((intKind prog w).hash k,.int k t)] (qx 1);generalize relayAll t1 #[((intKind prog w).hash k,.int k t)] (qx 1)=L at hp2 hf2 hl2⊢;obtain⟨es2,t2,gv2⟩:=L;dsimp only at hp2 hf2 hl2⊢;have ee:es2=#[((intKind prog w).hash k,.int k t)]:=by
    apply p8;exact t6.mp hp2
   subst ee;refine ae (gw _ ?_);refine ae (uW (t':=t2) e1 (aq 1) λh2 sb2 e2=>?_);exact aj (aj (h h2 (sb1.trans sb2) ⟨_,t2,e2,hf2,b.imp id λb=>by rw[hl2,hl,b],aq 1⟩))
  .exact aj (aj (h h1 sb1 ⟨_,t1,e1,hf,b.imp id λb=>by rw[hl,b],aq 1⟩))
 refine ae (gw gv ?_);split
 .refine ae ?_
  rw[hashByValue_scannable 8 rfl];exact aj tail
 .exact ae (aj tail)
theorem ae0{k:Int}{t t0:bj}{Q:Bool->aa->Prop}(x:iX w s.heap a #[((intKind prog w).hash k,.int k t0)])(h:Q false s):wpAny (model prog w) A (setAddHashed a (.int k t) ((intKind prog w).hash k)) Q E s:=by
 obtain⟨ep,tb,e,f,b,z⟩:=x;unfold setAddHashed setAddHashedIn;refine ix (ae (mq e rfl f ?_));dsimp only;rw[show byScan (.int k t) #[((intKind prog w).hash k,.int k t0)]=true from by simp[byScan,EC,scanBound]];simp only[↓reduceIte];unfold setAddByScan;refine ae ?_;refine ae (ka ?_);refine ae (wpAny_setScan_of (knd:=intKind prog w) (vf _ _ _ _) e rfl f (λe h=>by
  have h:e=((intKind prog w).hash k,.int k t0):=by simpa using h
  subst h;exact⟨⟨k,vf _ _ _ _,rfl⟩,rfl⟩) ?_)
 have:ED (λe:Int×Value=>(intKind prog w).is k e.2) (#[((intKind prog w).hash k,kx k t0)]:Array (Int×Value)).toList=some 0:=by
  simp[List.findIdx?_cons,vf]
 rw[this];exact aj (aj h)
noncomputable def yU(prog:Program)(w:ar)(k:Int)(i:Nat)(es:Array (Int×Value)):Prop:=(i=0/\es=#[])\/(0<i/\∃t,es=#[((intKind prog w).hash k,.int k t)])
theorem aeM{R:nj->aa->Prop}{fp wr:List Addr}{n:Nat}{P:Nat->Value->Prop}{St:Nat->Heap->Prop}{S:Addr}{k:Int}(W:Walks prog w A.in1 I fp wr n P St)(hS:S∉fp)(hv:∀i v,P i v->∃t,v=.int k t):
  ∀(m i:Nat)(s:aa)(es:Array (Int×Value)),n-i=m->i<=n->St i s.heap->iX w s.heap S es->yU prog w k i es->(∀h' tk es',iX w h' S es'->yU prog w k n es'->(∀b o,b∉wr->b≠S->s.heap.get? b=some o->h'.get? b=some o)->R (.ok (.ret .none)) {s with heap:=h',toks:=tk})->
   codeAny (model prog w) A (.builtin "set.update.loop" ⟨[.ref S,.ref I],[]⟩) R s:=by
 have hw:S∉wr:=λh=>hS (W.sub _ h);intro m
 induction m with
 |zero=>
  intro i s es hm hi st x ex hR;have:i=n:=by omega
  subst this;refine mn EE ?_;rw[oq yi _];show wpAny _ A.in1 (pyNext (.ref I) >>= _) _ _ s;refine ae (W.done s _ _ st λh' tk kp=>?_);exact aj (hR h' tk es (x.at' λo e=>kp S o hw e) ex λb o hb _ e=>kp b o hb e)
 |succ m ih=>
  intro i s es hm hi st x ex hR;have lt:i<n:=by omega
  refine mn EE ?_;rw[oq yi _];show wpAny _ A.in1 (pyNext (.ref I) >>= _) _ _ s;refine ae (W.item i s _ _ lt st λv h1 tk1 hP uW kp=>?_);obtain⟨t,rfl⟩:=hv i v hP;have x1:iX w h1 S es:=x.at' λo e=>kp S o hw e;show wpAny _ A.in1 (holding [kx k t] (setAdd S (.int k t)) >>= _) _ _ _;refine ae (ix ?_);unfold setAdd;refine ix ?_;refine ae ((intKind prog w).pyHash (k:=k) (vf _ _ _ _) ?_);rcases ex with⟨_,rfl⟩|⟨_,t0,rfl⟩
  .refine aet (s:={s with heap:=h1,toks:=tk1+1}) x1 λh2 sb x2=>?_
   refine aj ⟨ot yi _,ih (i+1) _ _ (by omega) lt (W.frame _ _ _ uW λb hb o e=>?_) x2 (.inr ⟨Nat.succ_pos i,t,rfl⟩) λh' tk es' a1 a2 a3=>hR h' tk es' a1 a2 λb o n1 n2 e=>a3 b o n1 n2 ?_⟩
   .rw[sb.2 b λz=>hS (z▸hb)]
    exact e
   .show h2.get? b=some o
    rw[sb.2 b n2];exact kp b o n1 e
  .refine ae0 (s:={s with heap:=h1,toks:=tk1+1}) x1 ?_
   exact aj ⟨ot yi _,ih (i+1) _ _ (by omega) lt uW x1 (.inr ⟨Nat.succ_pos i,t0,rfl⟩) λh' tk es' a1 a2 a3=>hR h' tk es' a1 a2 λb o n1 n2 e=>a3 b o n1 n2 (kp b o n1 e)⟩
theorem afl{x:Value}{Q:Value->aa->Prop}(h:Q (.ref s.heap.objs.size) {s with heap:=s.heap.push (iH #[] 0 (.fresh 0 0 (!fW w)))}):codeAny (model prog w) A (.call (.builtin "set.__new__") ⟨[.type "set",x],[]⟩) (wants Q E) s:=by
 refine codeAny_of_tree ?_;show wpAny _ A.in1 (do checkBuiltinCall "set.__new__" ⟨[.type "set",x],[]⟩;again (.builtin "set.__new__" ⟨[.type "set",x],[]⟩)) _ _ s;refine ae (qp (PySem.F.newCall_set_1 x) (aj ⟨ot EF _,mn PySem.F.entry_set_new ?_⟩));rw[oq EF _];unfold Builtin.«set.__new__» FG;have hsub:=sub_set_self;obtain⟨hp,g,d,tk,os⟩:=s;dsimp only
 wp_walk
 refine q9 (aj ?_);dsimp only;simp only[newObj];refine ae (wpAny_alloc (aj ?_));exact aj h
set_option maxHeartbeats 3200000 in
theorem seCl{l:Addr}{its:Array Value}{k:Int}{Q:Value->aa->Prop}(hh:A.handled=none)(hl:s.heap.IsList l its)(hi:∀(i:Nat)(v:Value),its[i]?=some v->∃t,v=kx k t)
  (h:∀h' tk es,iX w h' s.heap.objs.size es->yU prog w k its.size es->(∀b o,s.heap.get? b=some o->h'.get? b=some o)->Q (.ref s.heap.objs.size) {s with heap:=h',toks:=tk}):
  wpAny (model prog w) A (wu (.type "set") [.ref l]) Q E s:=by
 obtain⟨c,tl,hmro⟩:=ou.mro;have hmade:=ou.made;have hsub:=ou.sub;refine zj (codeAny_of_tree ?_);show wpAny _ _ (callAny (.type "set") _) _ _ _;refine aj ⟨Code.quiet_builtin _ (by decide+kernel),mn PySem.F.entry_type_call ?_⟩;rw[Around.under_plain (weight_type_call_type "set" [.ref l] []) rfl];have h1:=ou.notType;have h2:=ou.canCreate;have hct:=PySem.F.typeCall_set_1 (.ref l)
 repeat (any_goals (first |assumption |wp_step))
 refine nu (afl (x:=.ref l) (E:=E) (Q:=λobj GA=>obj=.ref s.heap.objs.size/\GA={s with heap:=s.heap.push (iH #[] 0 (.fresh 0 0 (!fW w)))}) ⟨rfl,rfl⟩) λr GA hr=>?_;cases r with
 |error e=>exact hr
 |ok fl=>
  cases fl with
  |ret obj=>
   obtain⟨rfl,rfl⟩:=hr;have e0:(s.heap.push (iH #[] 0 (.fresh 0 0 (!fW w)))).get? s.heap.objs.size=some (iH #[] 0 (.fresh 0 0 (!fW w))):=cy _ rfl;have x0:iX w (s.heap.push (iH #[] 0 (.fresh 0 0 (!fW w)))) s.heap.objs.size #[]:=⟨_,_,e0,rfl,by cases fW w<;>simp[SetTable.fresh],du _⟩;have hT:DI {s with heap:=s.heap.push (iH #[] 0 (.fresh 0 0 (!fW w)))} (.ref s.heap.objs.size) "set":=⟨_,e0,rfl⟩;have hli:=ou.init.lookup;have hbi:=ou.init.bind (.ref s.heap.objs.size)
   repeat (any_goals (first |assumption |wp_step))
   refine nu (codeAny_call_builtin (R:=wants (λr GD=>r=.none/\∃h' tk es,GD={s with heap:=h',toks:=tk}/\iX w h' s.heap.objs.size es/\yU prog w k its.size es/\(∀b o,s.heap.get? b=some o->h'.get? b=some o)) E) ou.init.plain PySem.F.entry_set_init (check_set_init_1 hT ?_)) λr₂ GD hr₂=>?_
   .obtain⟨ol,hol,hcl,nl,hdl⟩:=hl
    obtain⟨ocls,odict,odata,oslots⟩:=ol;simp only at hcl hdl;subst hcl;subst hdl;have hol':(s.heap.push (iH #[] 0 (.fresh 0 0 (!fW w)))).get? l=some {cls:=.type "list",dict:=odict,data:=.seq its nl,slots:=oslots}:=av _ hol;have hsls:=PySem.F.sub_list_set;have hslf:=PySem.F.sub_list_frozenset;have hne:(Value.type "list"==Value.type "dict")=false:=by decide
    have hl1:(s.heap.push (iH #[] 0 (.fresh 0 0 (!fW w)))).IsList l its:=⟨_,hol',rfl,nl,rfl⟩;unfold Builtin.«set.__init__» noKeywords FH;generalize hPI:pyIter=PI
    wp_walk
    subst hPI;refine uk hl1 ?_;refine ae (wpAny_runValue ?_);have hlS:l<s.heap.objs.size:=bh hol;have hh3:A.in1.in1.in1.handled=none:=by simp[hh]
    have n1:l≠(s.heap.push (iH #[] 0 (.fresh 0 0 (!fW w)))).objs.size:=by
     rw[iz];exact df (uu hlS)
    have n2:s.heap.objs.size∉[(s.heap.push (iH #[] 0 (.fresh 0 0 (!fW w)))).objs.size,l]:=by
     rw[iz];simp only[cr,vd,iu,or_false,not_or];exact⟨df (qh _),ky hlS⟩
    refine aeM (xj hh3 _ l n1 its) n2 hi (its.size-0) 0 _ #[] (by omega) (du _) ⟨⟨_,cy _ rfl,rfl,rfl⟩,(hl1.push _)⟩ (x0.at' λo e=>av _ e) (.inl ⟨rfl,rfl⟩) λh' tk es' a1 a2 a3=>?_;refine aj ?_;refine aj ⟨rfl,h',tk,es',rfl,a1,a2,λb o e=>a3 b o ?_ ?_ (av _ (av _ e))⟩
    .have:=bh e
     rw[iz];simp only[vd];exact df (uu this)
    .exact df (bh e)
   .cases r₂ with
    |error e=>exact hr₂
    |ok fl₂=>
     cases fl₂ with
     |ret r=>
      obtain⟨rfl,h',tk,es,rfl,a1,a2,a3⟩:=hr₂
      repeat (any_goals (first |assumption |wp_step))
      exact h _ _ _ a1 a2 a3
     |_=>exact hr₂.elim
  |_=>exact hr.elim
end
end Se
section
variable{X:Cx}{x y:Str}{e:ai}{t:TA}{p p2 pos pos2:ak}
theorem Ay(hc:X.calm=true)(hg:Gl X x)(hm:X.mg x=none)(hv:bootBuiltins x=some (.builtin "sorted"))(hg2:Gl X y)(hm2:X.mg y=none)(hv2:bootBuiltins y=some (.type "set"))(ha:PA X [e] t)(hn:x≠"__name__":=by decide)(hdb:(x==("__debug__":Str))=false:=by decide)(hn2:y≠"__name__":=by decide)(hdb2:(y==("__debug__":Str))=false:=by decide)
  (he:starEach [.Call (.Name y p2) [e] [] pos2] X.env=(false,eval (.Call (.Name y p2) [e] [] pos2) X.env)::starEach [] X.env:=by rfl)(hpl:(backTo pos (starEach [] X.env)).any (·.1)=false:=by rfl)(he2:starEach [e] X.env=(false,eval e X.env)::starEach [] X.env:=by rfl)(hpl2:(backTo pos2 (starEach [] X.env)).any (·.1)=false:=by rfl):
  PE X (.Call (.Name x p) [.Call (.Name y p2) [e] [] pos2] [] pos) (λσ H Q=>t σ H λxs H1=>∃(a:Addr)(k:Int)(n:Nat),xs=[.ref a]/\bS X.K H1 a (kb n (.int k))/\∀l,H1 l=none->Q (.ref l) (aS H1 l (.lst (kb (min n 1) (.int k))))):=by
 intro FX s σ H Q I h;refine qi (mS I hg hm hv ?_ hn hdb);refine AR ?_ he hpl;rw[he];show wpAny _ _ (spliced ((false,eval (.Call (.Name y p2) [e] [] pos2) X.env)::backTo pos (starEach [] X.env))) _ _ s;refine AN ?_;refine qi (mS I hg2 hm2 hv2 ?_ hn2 hdb2);refine ub (bC (ha pos2 FX s σ H _ I h) λus s1 hq=>?_) he2 hpl2;rcases hq with⟨vs,H1,I1,r1,a,k,n,e1,sq,q⟩;subst e1;obtain⟨u,rfl,ru⟩:=jY r1;cases ru;obtain⟨its,rv,pl,hz⟩:=I1.list sq;have hlen:its.length=n:=by rw[<-rv.length,rn]
 refine Se.seCl (k:=k) (I1.ok.hd hc) pl.isList (λi v hv=>?_) λh' tk es x0 ex kp=>?_
 .rw[CT]at hv
  have hi:=(da.mp hv).1;obtain⟨v',e2,rel⟩:=rv.get (i:=i) (x:=.int k) (by rw[zl,if_pos (by omega)]);rw[hv]at e2;cases e2;exact rel
 have I2:aG X FX σ H1 {s1 with heap:=h',toks:=tk}:=I1.kept kp;show wpAny _ _ (spliced []) _ _ _;refine aj ?_;obtain⟨vl,hvl,hvn,hvr⟩:∃vl:FN,es.toList.map (·.2)=vl/\vl.length=min n 1/\bB (kb (min n 1) (.int k)) vl:=by
  rw[ay,hlen]at ex;rcases ex with⟨rfl,rfl⟩|⟨hn0,t0,rfl⟩
  .exact⟨_,rfl,rfl,.nil⟩
  .rw[yg hn0]
   exact⟨_,rfl,rfl,.cons ⟨t0,rfl⟩ .nil⟩
 refine Fa (vs:=vl) (lt:=λ_ _=>false) (κ:=tuples' true) (by omega) ?_ (λh1 tk a k1 ha h2=>absurd h2 (by omega)) (λQ' E' hq=>?_) λh1 h2 c tk2 p hp hu k1 k2 e=>?_
 .exact⟨λ_ _ _ _ _ _ h _=>absurd h (by decide),λi j hi hj ne=>absurd (show i=j by omega) ne⟩
 .refine Gi (Se.seSc (es:=es)) (show X.A.in1.handled=none from I1.ok.hd hc) x0 (by obtain⟨_,_,_,_,_,z⟩:=x0;rw[ia];omega) λh1 tk acc k1 hi=>?_
  have e1:acc.toList=vl:=by
   rw[<-hvl];refine mf λj=>?_;have hz:acc.size=es.size:=hi.1
   by_cases hj:j<es.size
   .have ej:=hi.2 j acc[j] (by simp[hz,hj])
    rw[cq,wt,wt,ej,om (by omega)]
   .rw[qr (by simp;omega),qr (by simp;omega)]
  rw[e1];exact hq h1 tk k1
 .have I3:aG X FX σ H1 {s1 with heap:=h1,toks:=tk2}:=I2.kept (t':=tk2) k1
  have ep:p.map (λi=>vl.getD i br)=vl:=by
   rw[hvn]at hp
   by_cases hn0:n=0
   .subst hn0
    have:p=[]:=EG.mp hp;subst this;exact(DW hvn).symm
   .rw[yg (by omega)]at hp hvn
    have:p=[0]:=t6.mp hp;subst this
    match vl,hvn with
    |[v],_=>rfl
  rw[ep]at e;refine⟨.ref h1.objs.size,_,I3.laid (t':=tk2) (o:=.lst (kb (min n 1) (.int k))) k2 (aq _) ⟨?_,_,c,hvr,e⟩,rfl,q _ (I3.hok.fresh (aq _))⟩;rw[rn,ia];omega
end
end L2
namespace L2.Pp
open PySem PySem.Spec PyProof.Rows Bn
noncomputable def pN:FS->FT
 |[.lst xs]=>match fV xs with
  |some []=>some (.lst [])
  |some (k::r)=>if r.all (· ==k)=true then some (.lst [.int k])else none
  |none=>none
 |_=>none
section
variable{K:ah}{cl:Str->Addr}{E:XK}{X:Cx}{e:ai}{ms:MA}{x y:Str}{p p2 pos pos2:ak}
theorem Et:∀{r:FI},r.all (· ==k)=true->r=kb r.length k
 |[],_=>rfl
 |a::r,h=>by
  rw[List.all_cons,gr]at h;rw[bo,EH,<-Et h.2,eq_of_beq h.1]
theorem aad:jV K (λxs H Q=>∃(a:Addr)(k:Int)(n:Nat),xs=[.ref a]/\bS K H a (kb n (.int k))/\∀l,H l=none->Q (.ref l) (aS H l (.lst (kb (min n 1) (.int k))))) pN:=λ{p S H as c xs Q} s ra e k=>by
 unfold pN at e;split at e
 .cases ra with
  |cons h t=>
   cases t;obtain⟨a,vs,rfl,l,z,r⟩:=h.lst;split at e
   .rename_i hz
    cases e;cases pD hz r;exact⟨a,0,0,rfl,l,λl hl=>k _ _ (fS hl) (lC s .nil (by rw[iP];decide) hl)⟩
   .rename_i k0 r0 hz
    split at e
    .rename_i hall
     cases e;cases pD hz r;refine⟨a,k0,r0.length+1,rfl,?_,λl hl=>?_⟩
     .have:lm V.int (k0::r0)=kb (r0.length+1) (.int k0):=by
       rw[cf,Et hall,List.map_replicate,rn,EH]
      rw[this]at l;exact l
     .rw[yg (c7 (du _))]
      exact k _ _ (fS hl) (lC s (.cons (by unfold aL;rfl) .nil) (by rw[iP,rn];decide) hl)
    .cases e
   .cases e
 .cases e
theorem P6(hc:X.calm=true)(hg:Gl X x)(hm:X.mg x=none)(hv:bootBuiltins x=some (.builtin "sorted"))(hg2:Gl X y)(hm2:X.mg y=none)(hv2:bootBuiltins y=some (.type "set"))(ha:dS K cl E X [e] ms)(hn:x≠"__name__":=by decide)(hdb:(x==("__debug__":Str))=false:=by decide)(hn2:y≠"__name__":=by decide)(hdb2:(y==("__debug__":Str))=false:=by decide)
  (he:starEach [.Call (.Name y p2) [e] [] pos2] X.env=(false,eval (.Call (.Name y p2) [e] [] pos2) X.env)::starEach [] X.env:=by rfl)(hpl:(backTo pos (starEach [] X.env)).any (·.1)=false:=by rfl)(he2:starEach [e] X.env=(false,eval e X.env)::starEach [] X.env:=by rfl)(hpl2:(backTo pos2 (starEach [] X.env)).any (·.1)=false:=by rfl):
  aT K cl E X (.Call (.Name x p) [.Call (.Name y p2) [e] [] pos2] [] pos) (mR pN ms):=by
 intro hK;subst hK;refine PE.imp (Ay hc hg hm hv hg2 hm2 hv2 (ha rfl) hn hdb hn2 hdb2 he hpl he2 hpl2) ?_
 rintro σ H Q ⟨p,S,ρ,s,ev,h⟩
 exact bT s ev h λq H' as xs S' bR sm ev r k=>wD aad sm r k
end
structure qK(K:ah)(C:Str)(fs:List Str)(D:Addr):Prop where
 at_:dg K mainGlobals C=some (some (.ref D))
 c:iI K D
 no:∀f∈fs,lE K D f
 ma:wb K D=true
 kp:ft K (.ref D)=true
noncomputable def HM(K:ah)(m q:Str)(st:Stmt)(D:Addr):Prop:=∃f fd,iy K (.ref D) m=some (some (.ref f))/\rh K (.ref f)=true/\kH K m q st f fd
theorem adt{K:ah}{m q:Str}{st:Stmt}{D f:Addr}{oc:Value}{od an:FQ}{osl:Array FO}{kV doc pm cdv ct:Value}(i:iy K (.ref D) m=some (some (.ref f)))(n:rh K (.ref f)=true)(l:K.lookup f=some ⟨oc,od,.func (fj m q (gC st) (dM st) (cB st) .none kV doc pm an cdv ct),osl⟩)
  (c:kh K cdv q=true)(k:ft K (.ref f)=true):HM K m q st D:=⟨_,_,i,n,Dd l c k⟩
noncomputable def yW(B:Bx)(C:Str)(k np n:Nat)(rows:List (Str×ME)):Prop:=∃D f fd ps,Mk B.K D f/\dC B.P B.w B.K B.mg B.base dR k f fd ps (Uf B.K B.cl D np n rows)/\dg B.K mainGlobals C=some (some (.ref D))/\B.mg C=some (.ref D)/\gG B.K fd ps []
noncomputable def zC(B:Bx)(C m:Str)(k:Nat)(g:FM):Prop:=∃D f fd ps,iI B.K D/\uV B.K D m f/\dC B.P B.w B.K B.mg B.base dR k f fd ps (jP B.K B.cl g)/\dg B.K mainGlobals C=some (some (.ref D))/\gG B.K fd ps []
noncomputable def zH(B:Bx)(C:Str)(fs:List Str):Prop:=∀f∈fs,Nv B.K C f
section
variable{B:Bx}{C m q:Str}{fs:List Str}{D:Addr}{st:Stmt}{nm self:Str}{N ps:List Str}{k np n:Nat}{rows:List (Str×ME)}{b:MS}
theorem Mr(h:qK B.K C fs D):zH B C fs:=λf hf=>⟨D,h.at_,h.c,h.no f hf⟩
theorem mkI(X:XG B.K B.mg)(h:qK B.K C fs D)(i:HM B.K "__init__" q st D)(S:jW (nm::N) (self::ps) (cB st))(hb:∀(D:Addr),iI B.K D->(∀f∈fs,lE B.K D f)->(nm::N).Nodup->∀(f:Addr)(cdv:Value)(A:ax)(outer:List ca)(s:aa)(H:Hp)(E:XK),cP k (A.deeper (envOfC q (cB st) s.heap.objs.size f cdv))->pX B.K B.cl E0 (eW dR B.P B.w B.K B.mg B.base (nm::N) q (cB st) f cdv A outer s H E).nox D 0 [] (dM st) rows)(hnp:ps.length=np:=by rfl)(hn:N.length=n:=by rfl)
  (hz:∀(kV doc pm:Value)(an:FQ)(cdv ct:Value)(us:FN),us.length=(self::ps).length->bindArgs (fj "__init__" q (gC st) (dM st) (cB st) .none kV doc pm an cdv ct) ⟨us,[]⟩=pure ((self::ps).zip us):=by intro _ _ _ _ _ _ us h;rcases us with _ |⟨_,_ |⟨_,_ |⟨_,_ |⟨_,_ |⟨_,_ |⟨_,_⟩⟩⟩⟩⟩⟩<;>first |(cases h;done) |rfl |(simp at h)):yW B C (k+1) np n rows:=by
 obtain⟨f,fd,i,z,F⟩:=i;obtain⟨hh,KX,G⟩:=X;exact⟨D,f,fd,_,⟨h.ma,i,z,h.kp⟩,okI F S hnp hn λcdv A outer s H E hr=>hb D h.c h.no S.nd f _ A _ s H E hr,h.at_,mj KX G h.at_,F.binds λkV doc pm an cdv ct us hl=>hz _ _ _ _ _ _ _ hl⟩
theorem mkM(h:qK B.K C fs D)(i:HM B.K m q st D)(S:jW N ps (cB st))(hb:N.Nodup->∀(f:Addr)(cdv:Value)(A:ax)(outer:List ca)(s:aa)(H:Hp)(E:XK),cP k (A.deeper (envOfC q (cB st) s.heap.objs.size f cdv))->fY B.K B.cl E0 (eW dR B.P B.w B.K B.mg B.base N q (cB st) f cdv A outer s H E).nox (dM st) b)(hnp:ps.length=np:=by rfl)(hn:N.length=n:=by rfl)
  (hz:∀(kV doc pm:Value)(an:FQ)(cdv ct:Value)(us:FN),us.length=ps.length->bindArgs (fj m q (gC st) (dM st) (cB st) .none kV doc pm an cdv ct) ⟨us,[]⟩=pure (ps.zip us):=by intro _ _ _ _ _ _ us h;rcases us with _ |⟨_,_ |⟨_,_ |⟨_,_ |⟨_,_ |⟨_,_ |⟨_,_⟩⟩⟩⟩⟩⟩<;>first |(cases h;done) |rfl |(simp at h)):zC B C m (k+1) (aZ np n b):=by
 obtain⟨f,fd,i,z,F⟩:=i;exact⟨D,f,fd,_,h.c,⟨i,z,F.kp⟩,Ng F S hnp hn λcdv A outer s H E hr=>hb S.nd f _ A _ s H E hr,h.at_,F.binds λkV doc pm an cdv ct us hl=>hz _ _ _ _ _ _ _ hl⟩
end
section
variable{X:Cx}{cl:Str->Addr}{E:XK}{e o:ai}{es:List ai}{ms:MA}{mo:ME}{pos p apos:ak}{k k0 np n:Nat}{g:FM}{rows:List (Str×ME)}{C m f:Str}{fs:List Str}
noncomputable abbrev Of(X:Cx)(cl:Str->Addr):Bx:=⟨X.prog,X.w,X.K,X.mg,X.base,cl⟩
theorem acw(M:yW (Of X cl) C k np n rows)(hr:cP k0 X.A)(hk:k+1<=k0)(hl:rows.length<1000)(hg:Gl X C)(ha:dS X.K cl E X (e::es) ms)(hdb:(C==("__debug__":Str))=false:=by decide)(he:starEach (e::es) X.env=(false,eval e X.env)::starEach es X.env:=by rfl)(hpl:(backTo pos (starEach es X.env)).any (·.1)=false:=by rfl):
  aT X.K cl E X (.Call (.Name C p) (e::es) [] pos) (mW C np n rows ms):=by
 obtain⟨D,f,fd,ps,M,F,hn,hm,hb⟩:=M;exact aaC M F (hr.mono hk) hg hm hn hb hl ha hdb he hpl
theorem ack(M:zC (Of X cl) C m k g)(hr:cP k0 X.A)(hk:k<=k0)(ho:aT X.K cl E X o mo)(ht:eval (.Call (.Attribute o m apos) [] [] pos) X.env=(do
   let ov <-eval o X.env
   standAt apos.atName
   let (f,first) <-holding [ov] (getMethod ov m pl)
   callWith pos f first (backTo pos (starEach [] X.env)) (backToKw pos (keywordEach [] X.env))):=by rfl):aT X.K cl E X (.Call (.Attribute o m apos) [] [] pos) (mY C m g mo):=by
 obtain⟨D,f,fd,ps,c,M,F,hn,hb⟩:=M;exact aak c M F (hr.mono hk) hn hb ho ht
theorem ab2(M:zH (Of X cl) C fs)(hf:f∈fs)(ha:aT X.K cl E X o mo)(hb:attributeBase o f X.env (eval o X.env)=eval o X.env:=by rfl):aT X.K cl E X (.Attribute o f pos) (bV (gX C f) mo):=abH (M f hf) ha hb
end
noncomputable def Ae:MS:=λ_ _=>.fail
theorem ach:bootBuiltins "set"=some (.type "set"):=by decide+kernel
theorem acP:bootBuiltins "len"=some (.builtin "len"):=by decide+kernel
theorem abI:bootBuiltins "abs"=some (.builtin "abs"):=by decide+kernel
theorem ab8:bootBuiltins "all"=some (.builtin "all"):=by decide+kernel
theorem abV:bootBuiltins "sum"=some (.builtin "sum"):=by decide+kernel
theorem Ds:bootBuiltins "max"=some (.builtin "max"):=by decide+kernel
theorem wA:bootBuiltins "sorted"=some (.builtin "sorted"):=by decide+kernel
theorem acq:bootBuiltins "int"=some (.type "int"):=by decide+kernel
theorem abb:bootBuiltins "bool"=some (.type "bool"):=by decide+kernel
theorem T8:bootBuiltins "list"=some (.type "list"):=by decide+kernel
theorem Gm:bootBuiltins "tuple"=some (.type "tuple"):=by decide+kernel
end L2.Pp
set_option Elab.async false
set_option compiler.extract_closed false
set_option bootstrap.genMatcherCode false
set_option maxRecDepth 100000
set_option maxHeartbeats 4000000
namespace Sc
noncomputable section
open PySem L2 Bn L2.Pp
noncomputable abbrev Jr:Stmt:=bD 5
noncomputable abbrev Dl:Stmt:=bD 6
noncomputable abbrev Rk:Stmt:=bD 7
noncomputable abbrev Lh:Stmt:=bD 8
noncomputable abbrev sT:Stmt:=bD 9
noncomputable abbrev Wr:Stmt:=bD 10
noncomputable abbrev Aq:Stmt:=bD 11
noncomputable abbrev Gq:Stmt:=bD 12
noncomputable abbrev Gh:Stmt:=bD 14
noncomputable abbrev Ot:Stmt:=bD 15
noncomputable abbrev Pn:Stmt:=bD 16
noncomputable abbrev Yp:Stmt:=bD 20
noncomputable abbrev Xn:Stmt:=bD 22
noncomputable abbrev Th:Stmt:=bD 23
noncomputable abbrev Mn:Stmt:=bD 24
noncomputable abbrev Mh:Stmt:=vK 28 0
noncomputable abbrev Vg:Stmt:=vK 28 1
noncomputable abbrev Hh:Stmt:=bD 29
noncomputable abbrev Ug:Stmt:=bD 30
noncomputable abbrev Vj:Stmt:=bD 31
noncomputable abbrev Aj:Stmt:=bD 32
noncomputable abbrev Ci:Stmt:=bD 33
noncomputable abbrev Kh:Stmt:=bD 34
noncomputable abbrev Vi:Stmt:=bD 35
noncomputable abbrev Xo:Stmt:=bD 37
noncomputable abbrev Lr:Stmt:=bD 38
noncomputable abbrev Yr:Stmt:=bD 39
noncomputable abbrev Ak:Stmt:=bD 40
noncomputable abbrev Fp:Stmt:=bD 41
noncomputable abbrev Sr:Stmt:=bD 42
noncomputable abbrev Tr:Stmt:=bD 43
noncomputable abbrev Mm:Stmt:=bD 44
noncomputable abbrev Ho:Stmt:=bD 45
noncomputable abbrev Qq:Stmt:=bD 46
noncomputable abbrev Qr:Stmt:=bD 47
noncomputable abbrev Wi:Stmt:=bD 48
noncomputable abbrev Il:Stmt:=bD 49
noncomputable abbrev Vp:Stmt:=bD 50
noncomputable abbrev Po:Stmt:=bD 51
noncomputable abbrev Rm:Stmt:=bD 52
noncomputable abbrev Ik:Stmt:=bD 53
noncomputable abbrev Xl:Stmt:=bD 54
noncomputable abbrev Hl:Stmt:=bD 55
noncomputable abbrev Rh:Stmt:=bD 56
noncomputable abbrev Ch:Stmt:=bD 57
noncomputable abbrev Sk:Stmt:=bD 58
noncomputable abbrev Hi:Stmt:=bD 59
noncomputable abbrev oE:Stmt:=bD 60
noncomputable def Hd:MS:=(aJ (dZ (bG (aC gK (aB 0) (mC (.int 0)))) (bJ (mC (.int 1))) eO)
 (aJ (dZ (bG (aC mK (aB 0) (mC (.int 0)))) (bJ (bV dL (mC (.int 1)))) eO)
 (bJ (mC (.int 0)))))
noncomputable def rR:FM:=aZ 1 1 Hd
noncomputable def Za:MS:=(aJ (fE (bG (aC gM (aB 1) (mC (.int 0)))) (aJ (aU 2 (aC cV (aB 0) (aB 1)))
 (aJ (aU 0 (aB 1))
 (aU 1 (aB 2)))))
 (bJ (mR eD (aD (aB 0) aF))))
noncomputable def qS:FM:=aZ 2 3 Za
noncomputable def Na:MS:=(aJ (aU 1 (mC (.int 0)))
 (aJ (cX (bP (aB 0)) (gN 2) (aU 1 (bA qS [] (aD (aB 1) (aD (aB 2) aF)))))
 (bJ (bH ["number"] [(1,"common")] (bP (aB 0)) (gN 0) (aC dI (aB 0) (aB 1))))))
noncomputable def pF:FM:=aZ 1 3 Na
noncomputable def zR:MS:=(aJ (aU 1 (aC aE (kN ["number"] [] (bP (aB 0)) (gN 0) (bG (aC gM (aB 0) (mC (.int 0)))) (aB 0)) (mC (.int 0))))
 (bJ (mR lD (aD (bH ["number"] [(1,"first")] (bP (bA pF [] (aD (aB 0) aF))) (gN 0) (aC aV (bA rR [] (aD (aB 1) aF)) (aB 0))) aF))))
noncomputable def sQ:FM:=aZ 1 2 zR
noncomputable def zX:MS:=(aJ (dZ (bG (aC dP (aB 1) (mC (.int 0)))) (Ge "NoNumber") eO)
 (aJ (aU 2 (aC aV (bA rR [] (aD (aB 1) aF)) (bA qS [] (aD (aB 0) (aD (aB 1) aF)))))
 (bJ (mN fI (aD (aC dI (aB 0) (aB 2)) (aD (aC dI (aB 1) (aB 2)) aF))))))
noncomputable def kZ:FM:=aZ 2 3 zX
noncomputable def Ad:MS:=(bJ (mZ kZ [] (aD (aC aH (aC aV (aC aE (aB 0) (mC (.int 0))) (aC aE (aB 1) (mC (.int 1)))) (aC aV (aC aE (aB 1) (mC (.int 0))) (aC aE (aB 0) (mC (.int 1))))) (aD (aC aV (aC aE (aB 0) (mC (.int 1))) (aC aE (aB 1) (mC (.int 1)))) aF))))
noncomputable def pM:FM:=aZ 2 2 Ad
noncomputable def Ic:MS:=(aJ (fE (bG (aC gK (mR dJ (aD (aB 0) aF)) (mC (.int 1)))) (aJ (aU 1 (bH ["one","other"] [] (iV (aD (qD (aB 0) eN eN (2)) (aD (qD (aB 0) (fK (mC (.int 1))) eN (2)) aF))) (gT 2 (cG (gN 0) (cG (gN 1) eB))) (bA pM [] (aD (aB 0) (aD (aB 1) aF)))))
 (aU 0 (aC aH (aB 1) (gL (aB 0) (fK (aC aV (mC (.int 2)) (mR dJ (aD (aB 1) aF)))) eN)))))
 (bJ (qH (uR (aB 0)) (aC aE (aB 0) (mC (.int 0))) (mN fI (aD (mC (.int 0)) (aD (mC (.int 1)) aF))))))
noncomputable def tL:FM:=aZ 1 2 Ic
noncomputable def Uc:MS:=(bJ (mZ kZ [] (aD (aC aV (aC aE (aB 0) (mC (.int 0))) (aC aE (aB 1) (mC (.int 0)))) (aD (aC aV (aC aE (aB 0) (mC (.int 1))) (aC aE (aB 1) (mC (.int 1)))) aF))))
noncomputable def wW:FM:=aZ 2 2 Uc
noncomputable def zP:MS:=(bJ (bH ["near","far"] [(0,"start"),(1,"end")] (iV (aD (gL (aB 0) eN (fK (bV dL (mC (.int 1))))) (aD (gL (aB 1) eN (fK (bV dL (mC (.int 1))))) aF))) (gT 2 (cG (gN 0) (cG (gN 1) eB))) (aC eP (aC aV (aB 1) (aC aE (aB 2) (bV dL (mC (.int 1))))) (aC aV (aB 0) (aC aE (aB 3) (bV dL (mC (.int 1))))))))
noncomputable def jL:FM:=aZ 2 2 zP
noncomputable def Pe:MS:=(bJ (mR lL (aD (bH ["one","other"] [] (iV (aD (aB 0) (aD (aB 1) aF))) (gT 2 (cG (gN 0) (cG (gN 1) eB))) (aC aV (aB 0) (aB 1))) aF)))
noncomputable def lF:FM:=aZ 2 2 Pe
noncomputable def Hb:MS:=(aJ (aU 1 (aC aE (aB 0) (mC (.int 0))))
 (aJ (dZ (bG (aC dP (mR dJ (aD (aB 0) aF)) (mC (.int 1)))) (bJ (mN fX (aD (bV dL (aC aE (aB 1) (mC (.int 1)))) (aD (aC aE (aB 1) (mC (.int 0))) aF)))) eO)
 (aJ (aU 2 (aC aE (aB 0) (mC (.int 1))))
 (bJ (mN fX (aD (aC eP (aC aV (aC aE (aB 1) (mC (.int 1))) (aC aE (aB 2) (mC (.int 2)))) (aC aV (aC aE (aB 1) (mC (.int 2))) (aC aE (aB 2) (mC (.int 1))))) (aD (aC eP (aC aV (aC aE (aB 1) (mC (.int 2))) (aC aE (aB 2) (mC (.int 0)))) (aC aV (aC aE (aB 1) (mC (.int 0))) (aC aE (aB 2) (mC (.int 2))))) (aD (aC eP (aC aV (aC aE (aB 1) (mC (.int 0))) (aC aE (aB 2) (mC (.int 1)))) (aC aV (aC aE (aB 1) (mC (.int 1))) (aC aE (aB 2) (mC (.int 0))))) aF))))))))
noncomputable def qZ:FM:=aZ 1 3 Hb
noncomputable def Rc:MS:=(aJ (aU 1 (qH (bG (aC dP (mR dJ (aD (aB 0) aF)) (mC (.int 3)))) (mC (.tup [.tup [.int 0,.int 1],.tup [.int 1,.int 2],.tup [.int 2,.int 0]])) (mC (.tup [.tup [.int 1,.int 2,.int 3],.tup [.int 0,.int 3,.int 2],.tup [.int 0,.int 1,.int 3],.tup [.int 0,.int 2,.int 1]]))))
 (bJ (bH ["wall"] [(0,"piece")] (bP (aB 1)) (gN 0) (mR lD (aD (bH ["k"] [(1,"piece")] (bP (aB 0)) (gN 0) (aC aE (aB 1) (aB 0))) aF)))))
noncomputable def rD:FM:=aZ 1 2 Rc
noncomputable def Kc:MS:=(aJ (aU 2 (bA sQ [] (aD (aB 0) aF)))
 (aJ (aU 3 (aC aE (kN ["k"] [(2,"way")] (eJ (aD (mR dJ (aD (aB 2) aF)) aF)) (gN 0) (bG (aC gM (aC aE (aB 1) (aB 0)) (mC (.int 0)))) (aB 0)) (mC (.int 0))))
 (bJ (mN fI (aD (aB 2) (aD (mZ kZ [] (aD (aC aE (aB 0) (aB 3)) (aD (aC aV (aC aE (aB 2) (aB 3)) (aB 1)) aF))) aF))))))
noncomputable def tG:FM:=aZ 2 4 Kc
noncomputable def zQ:MS:=(bJ (bA tG [] (aD (bA jL [] (aD (aB 0) (aD (aB 1) aF))) (aD (aC aV (aC aE (aB 0) (bV dL (mC (.int 1)))) (aC aE (aB 1) (bV dL (mC (.int 1))))) aF))))
noncomputable def vN:FM:=aZ 2 2 zQ
noncomputable def Ub:MS:=(aJ (aU 1 (xH false))
 (aJ (cX (bP (aB 0)) (gT 2 (cG (gN 2) (cG (gN 3) eB))) (fF (pY 1 2 3)))
 (aJ (aU 4 (bH ["key"] [(1,"parts")] (bP (xP (aD (aB 1) aF))) (gN 0) (mN fI (aD (aB 0) (aD (tM tL (aB 1) (aB 0)) aF)))))
 (bJ (mR lD (aD (kN ["row"] [] (bP (aB 4)) (gN 0) (bG (aC gM (aC aE (aB 0) (mC (.int 1))) (mN fI (aD (mC (.int 0)) (aD (mC (.int 1)) aF))))) (aB 0)) aF))))))
noncomputable def rB:FM:=aZ 1 5 Ub
noncomputable def jM:List (Str×ME):=[("arrows",(bH ["wall"] [] (bP (bA rD [] (aD (aB 1) aF))) (gN 0) (bA pF [] (aD (bA qZ [] (aD (bH ["p"] [(0,"wall")] (bP (gL (aB 0) (fK (mC (.int 1))) eN)) (gN 0) (bA jL [] (aD (aC aE (aB 1) (mC (.int 0))) (aD (aB 0) aF)))) aF)) aF)))),("shares",(bH ["edge"] [(1,"piece")] (bP (mC (.tup [.tup [.int 0,.int 1,.int 2,.int 3],.tup [.int 0,.int 2,.int 1,.int 3],.tup [.int 0,.int 3,.int 1,.int 2],.tup [.int 1,.int 2,.int 0,.int 3],.tup [.int 1,.int 3,.int 0,.int 2],.tup [.int 2,.int 3,.int 0,.int 1]]))) (gN 0) (bA vN [] (aD (aC aE (aB 1) (aC aE (aB 0) (mC (.int 0)))) (aD (aC aE (aB 1) (aC aE (aB 0) (mC (.int 1)))) aF)))))]
noncomputable def zM:MS:=(aJ (aU 1 (aC aH (bV (gX "Frame" "arrows") (aB 0)) (bH ["share"] [] (bP (bV (gX "Frame" "shares") (aB 0))) (gN 0) (aC aE (aB 0) (mC (.int 0))))))
 (bJ (mR lM (aD (bH ["row"] [] (bP (aB 1)) (gN 0) (mR lM (aD (bH ["number"] [] (bP (aB 0)) (gN 0) (mR eD (aD (aB 0) aF))) aF))) aF))))
noncomputable def kY:FM:=aZ 1 2 zM
noncomputable def vO:MS:=(aJ (aU 1 (gF aF))
 (aJ (fE (bG (aC dP (aC cV (aB 0) (mC (.int 2))) (mC (.int 0)))) (aU 0 (aC dI (aB 0) (mC (.int 2)))))
 (aJ (aU 2 (mC (.int 3)))
 (aJ (fE (bG (aC nM (aC aV (aB 2) (aB 2)) (aB 0))) (aJ (dZ (bG (aC dP (aC cV (aB 0) (aB 2)) (mC (.int 0)))) (fF (gO (aB 1) (aD (aB 2) aF))) eO)
 (aJ (fE (bG (aC dP (aC cV (aB 0) (aB 2)) (mC (.int 0)))) (aU 0 (aC dI (aB 0) (aB 2))))
 (oH (λi j=>i+j) 2 (mC (.int 2))))))
 (bJ (qH (bG (aC gK (aB 0) (mC (.int 1)))) (aC aH (aB 1) (mN fX (aD (aB 0) aF))) (aB 1)))))))
noncomputable def lX:FM:=aZ 1 3 vO
noncomputable def zL:MS:=(aJ (aU 1 (mC (.int 1)))
 (aJ (aU 2 (mC (.int 2)))
 (aJ (fE (bG (aC nM (aC aV (aB 2) (aB 2)) (aB 0))) (aJ (fE (bG (aC dP (aC cV (aB 0) (aC aV (aB 2) (aB 2))) (mC (.int 0)))) (aJ (aU 0 (aC dI (aB 0) (aC aV (aB 2) (aB 2))))
 (aU 1 (aC aV (aB 1) (aB 2)))))
 (oH (λi j=>i+j) 2 (mC (.int 1)))))
 (bJ (mN fI (aD (aB 0) (aD (aB 1) aF)))))))
noncomputable def vL:FM:=aZ 1 3 zL
noncomputable def wB:MS:=(aJ (aU 2 (aC cV (aB 0) (aB 1)))
 (aJ (aU 3 (mC (.int 1)))
 (aJ (aU 4 (aB 1))
 (aJ (aU 5 (mC (.int 0)))
 (aJ (fE (bG (aC gM (aB 2) (mC (.int 1)))) (aJ (aU 6 (aC dI (aB 4) (aB 2)))
 (aJ (aU 7 (aC eP (aB 4) (aC aV (aB 6) (aB 2))))
 (aJ (aU 8 (aC eP (aB 5) (aC aV (aB 6) (aB 3))))
 (aJ (aU 4 (aB 2))
 (aJ (aU 5 (aB 3))
 (aJ (aU 2 (aB 7))
 (aU 3 (aB 8)))))))))
 (bJ (aC cV (aB 3) (aB 1))))))))
noncomputable def qQ:FM:=aZ 2 9 wB
noncomputable def vT:MS:=(aJ (fE (kU (bG (aC dP (aC cV (aB 0) (aB 3)) (mC (.int 0)))) (bG (aC dP (aC cV (aB 1) (aB 3)) (mC (.int 0))))) (aJ (aU 0 (aC dI (aB 0) (aB 3)))
 (aU 1 (aC dI (aB 1) (aB 3)))))
 (aJ (aU 4 (aC aH (aC aV (aB 0) (aB 0)) (aC aV (aC aV (aB 2) (aB 1)) (aB 1))))
 (aJ (aU 5 (mC (.int 0)))
 (aJ (fE (bG (aC dP (aC cV (aB 4) (aB 3)) (mC (.int 0)))) (aJ (aU 4 (aC dI (aB 4) (aB 3)))
 (oH (λi j=>i+j) 5 (mC (.int 1)))))
 (aJ (dZ (bG (aC dP (aB 5) (mC (.int 0)))) (bJ (mC (.int 0))) eO)
 (bJ (qH (bG (aC mK (aC aV (mC (.int 2)) (aC cV (aC aV (aB 0) (bA qQ [] (aD (aB 1) (aD (aB 3) aF)))) (aB 3))) (aB 3))) (aB 5) (bV dL (aB 5)))))))))
noncomputable def oX:FM:=aZ 4 6 vT
noncomputable def Wh:MS:=(aJ (aU 4 (aC aE (aB 0) (mC (.int 0))))
 (aJ (aU 5 (bA vL [] (aD (bA lF [] (aD (aB 4) (aD (aB 4) aF))) aF)))
 (aJ (aU 6 (aC aE (aB 5) (mC (.int 0))))
 (aJ (aU 7 (aC aE (aB 5) (mC (.int 1))))
 (aJ (aU 8 (aC aE (kN ["k"] [(4,"way")] (eJ (aD (mC (.int 3)) aF)) (gN 0) (bG (aC gM (aC aE (aB 1) (aB 0)) (mC (.int 0)))) (aB 0)) (mC (.int 0))))
 (aJ (aU 9 (bV dL (bA lF [] (aD (aB 1) (aD (aB 2) aF)))))
 (aJ (aU 10 (aC aV (mR eD (aD (aC dI (aC aE (bA qZ [] (aD (mN fX (aD (aB 1) (aD (aB 2) aF))) aF)) (aB 8)) (aC aE (aB 4) (aB 8))) aF)) (aB 7)))
 (aJ (aU 11 (mZ kZ [] (aD (aC aV (mR eD (aD (aC aE (aC aE (aB 0) (mC (.int 1))) (mC (.int 0))) aF)) (aB 7)) (aD (aC aE (aC aE (aB 0) (mC (.int 1))) (mC (.int 1))) aF))))
 (aJ (aU 12 (gF aF))
 (aJ (cX (bP (aB 3)) (gN 13) (dZ (bG (aC gM (aC cV (aB 6) (aB 13)) (mC (.int 0)))) (fF (gO (aB 12) (aD (mN fI (aD (mN fI (aD (aB 6) (aD (aB 13) aF))) (aD (bA wW [] (aD (aB 11) (aD (mN fI (aD (bA oX [] (aD (aB 9) (aD (aB 10) (aD (aB 6) (aD (aB 13) aF))))) (aD (mC (.int 1)) aF))) aF))) aF))) aF))) eO))
 (bJ (aB 12))))))))))))
noncomputable def oW:FM:=aZ 4 14 Wh
noncomputable def Qh:MS:=(aJ (aU 1 (bH ["arrow"] [] (bP (bV (gX "Frame" "arrows") (aB 0))) (gN 0) (bA lX [] (aD (bA lF [] (aD (aB 0) (aD (aB 0) aF))) aF))))
 (aJ (aU 2 (gF aF))
 (aJ (cX (iV (aD (mC (.tup [.tup [.int 0,.int 1,.int 2,.int 3],.tup [.int 0,.int 2,.int 1,.int 3],.tup [.int 0,.int 3,.int 1,.int 2],.tup [.int 1,.int 2,.int 0,.int 3],.tup [.int 1,.int 3,.int 0,.int 2],.tup [.int 2,.int 3,.int 0,.int 1]])) (aD (bV (gX "Frame" "shares") (aB 0)) aF))) (gT 2 (cG (gN 3) (cG (gN 4) eB))) (aJ (aU 5 (aC aE (aB 3) (mC (.int 2))))
 (aJ (aU 6 (aC aE (aB 3) (mC (.int 3))))
 (aJ (aU 7 (mR pN (aD (aC aH (aC aE (aB 1) (aB 5)) (aC aE (aB 1) (aB 6))) aF)))
 (kR 2 (bA oW [] (aD (aB 4) (aD (aC aE (bV (gX "Frame" "arrows") (aB 0)) (aB 5)) (aD (aC aE (bV (gX "Frame" "arrows") (aB 0)) (aB 6)) (aD (aB 7) aF))))))))))
 (bJ (aB 2)))))
noncomputable def lW:FM:=aZ 1 8 Qh
noncomputable def Qi:MS:=(aJ (aU 1 (bH ["piece"] [] (bP (aB 0)) (gN 0) (mW "Frame" 1 1 jM (aD (aB 0) aF))))
 (aJ (aU 2 (mR (mV 0) (aD (bH ["frame"] [] (bP (aB 1)) (gN 0) (mY "Frame" "steepness" kY (aB 0))) aF)))
 (aJ (dZ (bG (aC gK (aB 2) (mC (.int 300)))) Ae eO)
 (aJ (aU 3 (gF aF))
 (aJ (cX (bP (aB 1)) (gN 4) (kR 3 (bA lW [] (aD (aB 4) aF))))
 (bJ (tZ rB (aD (aB 3) aF))))))))
noncomputable def pA:FM:=aZ 1 5 Qi
noncomputable def wY:MS:=(aJ (fE (kU (bG (aC gK (mR dJ (aD (aB 0) aF)) (mC (.int 0)))) (bG (aC dP (aC aE (aB 0) (mC (.int 0))) (mC (.int 0))))) (fF (pZ (aB 0) (aD (mC (.int 0)) aF))))
 (aJ (dZ (bG (aC dP (mR dJ (aD (aB 0) aF)) (mC (.int 0)))) (bJ (mC (.int 0))) eO)
 (aJ (aU 2 (aC cV (aC aE (aB 0) (mC (.int 0))) (aB 1)))
 (aJ (nY (aB 0) (mC (.int 0)) (aC dI (aC aE (aB 0) (mC (.int 0))) (aB 1)))
 (bJ (aB 2))))))
noncomputable def fT:FM:=aZ 2 3 wY
noncomputable def Jd:MS:=(aJ (aU 1 (gF aF))
 (aJ (cX (yB (aD (gL (aB 0) eN (fK (mC (.int 63)))) aF)) (gT 2 (cG (gN 2) (cG (gN 3) eB))) (dZ (bG (aC sN (aB 3) (aC jG (mC (.int 10)) (mC (.int 18))))) (fF (gO (aB 1) (aD (aC eP (aB 3) (aC jG (mC (.int 10)) (mC (.int 18)))) aF))) (aJ (aU 4 (aC cV (aC aV (aC aH (aC aH (aC aH (aB 3) (aC aV (aC aV (mC (.int 7)) (aB 2)) (aB 2))) (aC aV (mC (.int 13)) (aB 2))) (mC (.int 5))) (mC (.int 48271))) (mC (.int 2147483647))))
 (aJ (aU 5 (aC cV (aC aV (aC aH (aC aH (aC aH (aB 3) (aC aV (aC aV (mC (.int 11)) (aB 2)) (aB 2))) (aC aV (mC (.int 17)) (aB 2))) (mC (.int 3))) (mC (.int 40692))) (mC (.int 2147483399))))
 (aJ (aU 6 (aC cV (aC aV (aC aH (aC aH (aC aH (aB 3) (aC aV (aC aV (mC (.int 5)) (aB 2)) (aB 2))) (aC aV (mC (.int 29)) (aB 2))) (mC (.int 8))) (mC (.int 39373))) (mC (.int 2147483587))))
 (aJ (aU 4 (aC cV (aC aV (aB 4) (mC (.int 52021))) (mC (.int 1000000007))))
 (aJ (aU 5 (aC cV (aC aV (aB 5) (mC (.int 30011))) (mC (.int 998244353))))
 (aJ (aU 6 (aC cV (aC aV (aB 6) (mC (.int 45989))) (mC (.int 1000000009))))
 (fF (gO (aB 1) (aD (aC aH (aC aV (aC aH (aC aV (aB 4) (mC (.int 998244353))) (aB 5)) (mC (.int 1000000009))) (aB 6)) aF)))))))))))
 (bJ (aB 1))))
noncomputable def tT:FM:=aZ 1 7 Jd
noncomputable def He:MS:=(aJ (aU 0 (mR eD (aD (aB 0) aF)))
 (aJ (aU 1 (mR eD (aD (aB 1) aF)))
 (aJ (fE (bG (aC gK (aB 1) (mC (.int 0)))) (uO 0 1 (aD (aB 1) (aD (aC cV (aB 0) (aB 1)) aF))))
 (bJ (aB 0)))))
noncomputable def tN:FM:=aZ 2 2 He
noncomputable def Pa:MS:=(aJ (aU 1 (mC (.int 0)))
 (aJ (cX (bP (aB 0)) (gN 2) (aU 1 (bA tN [] (aD (aB 1) (aD (aB 2) aF)))))
 (aJ (dZ (bG (aC dP (aB 1) (mC (.int 0)))) (bJ (mR lD (aD (aB 0) aF))) eO)
 (bJ (mR lD (aD (bH ["_law_number"] [(1,"_law_by")] (bP (aB 0)) (gN 0) (aC dI (aB 0) (aB 1))) aF))))))
noncomputable def nT:FM:=aZ 1 3 Pa
noncomputable def Wc:MS:=(aJ (dZ (bG (aC mK (aB 1) (mC (.int 0)))) (bJ (bA nT [] (aD (mN fX (aD (aC eP (mC (.int 0)) (aB 0)) (aD (aC eP (mC (.int 0)) (aB 1)) aF))) aF))) eO)
 (bJ (bA nT [] (aD (mN fX (aD (aB 0) (aD (aB 1) aF))) aF))))
noncomputable def pJ:FM:=aZ 2 2 Wc
noncomputable def Nd:MS:=(aJ (aU 2 (bA fT [] (aD (aB 0) (aD (mC (.int 4)) aF))))
 (aJ (aU 3 (aC aE (mN fX (aD (mC (.int 0)) (aD (mC (.int 3)) (aD (mC (.int 9)) (aD (aC jG (mC (.int 10)) (mC (.int 12))) aF))))) (aB 2)))
 (aJ (aU 4 (aC aH (mC (.int 1)) (aC aV (bA fT [] (aD (aB 0) (aD (mC (.int 9)) aF))) (aC dI (aB 2) (mC (.int 2))))))
 (aJ (aU 5 (bH ["_law_k"] [(3,"_law_wide"),(0,"_law_row_here")] (eJ (aD (aB 1) aF)) (gN 0) (aC eP (bA fT [] (aD (aB 2) (aD (aC aH (aC aV (mC (.int 2)) (aB 1)) (mC (.int 1))) aF))) (aB 1))))
 (bJ (bA nT [] (aD (aC aH (aB 5) (mN fX (aD (aB 4) aF))) aF)))))))
noncomputable def oA:FM:=aZ 2 6 Nd
noncomputable def Wd:MS:=(bJ (mR lL (aD (bH ["_law_one","_law_other"] [] (iV (aD (aB 0) (aD (aB 1) aF))) (gT 2 (cG (gN 0) (cG (gN 1) eB))) (aC aV (aB 0) (aB 1))) aF)))
noncomputable def xM:FM:=aZ 2 2 Wd
noncomputable def Gb:MS:=(aJ (aU 2 (aC eP (aC aV (aC aE (aB 0) (mC (.int 1))) (aC aE (aB 1) (mC (.int 2)))) (aC aV (aC aE (aB 0) (mC (.int 2))) (aC aE (aB 1) (mC (.int 1))))))
 (aJ (aU 3 (aC eP (aC aV (aC aE (aB 0) (mC (.int 2))) (aC aE (aB 1) (mC (.int 0)))) (aC aV (aC aE (aB 0) (mC (.int 0))) (aC aE (aB 1) (mC (.int 2))))))
 (aJ (aU 4 (aC eP (aC aV (aC aE (aB 0) (mC (.int 0))) (aC aE (aB 1) (mC (.int 1)))) (aC aV (aC aE (aB 0) (mC (.int 1))) (aC aE (aB 1) (mC (.int 0))))))
 (bJ (mN fX (aD (aB 2) (aD (aB 3) (aD (aB 4) aF))))))))
noncomputable def wH:FM:=aZ 2 5 Gb
noncomputable def wR:MS:=(aJ (dZ (bG (aC dP (mR dJ (aD (aB 0) aF)) (mC (.int 2)))) (bJ (aC eP (aC aV (aC aE (aC aE (aB 0) (mC (.int 0))) (mC (.int 0))) (aC aE (aC aE (aB 0) (mC (.int 1))) (mC (.int 1)))) (aC aV (aC aE (aC aE (aB 0) (mC (.int 0))) (mC (.int 1))) (aC aE (aC aE (aB 0) (mC (.int 1))) (mC (.int 0)))))) eO)
 (bJ (bA xM [] (aD (bA wH [] (aD (aC aE (aB 0) (mC (.int 0))) (aD (aC aE (aB 0) (mC (.int 1))) aF))) (aD (aC aE (aB 0) (mC (.int 2))) aF)))))
noncomputable def rH:FM:=aZ 1 1 wR
noncomputable def Kd:MS:=(bJ (bH ["_law_k"] [(1,"_law_q"),(0,"_law_p")] (eJ (aD (aC eP (mR dJ (aD (aB 0) aF)) (mC (.int 1))) aF)) (gN 0) (aC eP (aC aV (aC aE (aB 1) (aB 0)) (aC aE (aB 2) (bV dL (mC (.int 1))))) (aC aV (aC aE (aB 2) (aB 0)) (aC aE (aB 1) (bV dL (mC (.int 1))))))))
noncomputable def rO:FM:=aZ 2 2 Kd
noncomputable def xK:MS:=(bJ (bA rH [] (aD (bH ["_law_p"] [(0,"_law_points")] (bP (gL (aB 0) (fK (mC (.int 1))) eN)) (gN 0) (bA rO [] (aD (aC aE (aB 1) (mC (.int 0))) (aD (aB 0) aF)))) aF)))
noncomputable def pK:FM:=aZ 1 1 xK
noncomputable def vR:MS:=(aJ (aU 1 (mR tF (aD (aB 0) aF)))
 (aJ (dZ (bG (aC mK (bA pK [] (aD (aB 1) aF)) (mC (.int 0)))) (aU 1 (aC aH (gL (aB 1) eN (fK (bV dL (mC (.int 2))))) (mN fX (aD (aC aE (aB 1) (bV dL (mC (.int 1)))) (aD (aC aE (aB 1) (bV dL (mC (.int 2)))) aF))))) eO)
 (bJ (mR lD (aD (aB 1) aF)))))
noncomputable def oY:FM:=aZ 1 2 vR
noncomputable def Oa:MS:=(aJ (aU 3 (bH ["_law_k"] [(2,"_law_way"),(1,"_law_q"),(0,"_law_p")] (eJ (aD (aC eP (mR dJ (aD (aB 0) aF)) (mC (.int 1))) aF)) (gN 0) (aC aH (aC aV (aC aV (aB 1) (aC aE (aB 3) (aB 0))) (aC aE (aB 2) (bV dL (mC (.int 1))))) (aC aV (aC aE (aB 2) (aB 0)) (aC aE (aB 3) (bV dL (mC (.int 1))))))))
 (bJ (bA nT [] (aD (aC aH (aB 3) (mN fX (aD (aC aV (aC aE (aB 0) (bV dL (mC (.int 1)))) (aC aE (aB 1) (bV dL (mC (.int 1))))) aF))) aF))))
noncomputable def nS:FM:=aZ 3 4 Oa
noncomputable def wT:MS:=(aJ (aU 2 (mC (.int 1)))
 (aJ (cX (bP (aB 1)) (gN 3) (aU 2 (aC aV (aB 2) (aC aE (aB 3) (mC (.int 1))))))
 (aJ (aU 4 (bH ["_law_number","_law_part"] [(2,"_law_under")] (iV (aD (aB 0) (aD (aB 1) aF))) (gT 2 (cG (gN 0) (cG (gN 1) eB))) (aC aV (aC aV (aB 0) (aC aE (aB 1) (mC (.int 0)))) (aC dI (aB 2) (aC aE (aB 1) (mC (.int 1)))))))
 (bJ (bA nT [] (aD (aC aH (aB 4) (mN fX (aD (aB 2) aF))) aF))))))
noncomputable def nV:FM:=aZ 2 5 wT
noncomputable def Oc:MS:=(aJ (aU 3 (gF aF))
 (aJ (cX (bP (aB 1)) (gN 4) (aJ (aU 5 (bA oA [] (aD (aB 0) (aD (mR dJ (aD (aB 2) aF)) aF))))
 (fF (gO (aB 3) (aD (bA oY [] (aD (bH ["_law_corner"] [(5,"_law_far_here"),(2,"_law_stretch")] (bP (aB 4)) (gN 0) (bA nS [] (aD (bA nV [] (aD (aB 0) (aD (aB 2) aF))) (aD (aB 1) (aD (mC (.int 1)) aF))))) aF)) aF)))))
 (bJ (aB 3))))
noncomputable def tH:FM:=aZ 3 6 Oc
noncomputable def Qb:MS:=(bJ (bA pJ [] (aD (aC aV (aC aE (aB 0) (mC (.int 0))) (aC aE (aB 1) (mC (.int 0)))) (aD (aC aV (aC aE (aB 0) (mC (.int 1))) (aC aE (aB 1) (mC (.int 1)))) aF))))
noncomputable def wO:FM:=aZ 2 2 Qb
noncomputable def vZ:MS:=(aJ (dZ (bG (aC dP (bA fT [] (aD (aB 0) (aD (mC (.int 2)) aF))) (mC (.int 1)))) (bJ (mR lD (aD (aB 1) aF))) eO)
 (bJ (mR oB (aD (aB 1) aF))))
noncomputable def qW:FM:=aZ 2 2 vZ
noncomputable def Jb:MS:=(bJ (uG (bV (kS "int") (aB 0)) (bV uQ (bV (kS "bool") (aB 0)))))
noncomputable def wK:FM:=aZ 1 1 Jb
noncomputable def Ma:MS:=(aJ (dZ (oS (oN (bG (bV nA (aB 0)))) (bG (aC gM (mR dJ (aD (aB 0) aF)) (aB 1)))) (bJ (mC (.bl false))) eO)
 (bJ (mR uK (aD (bH ["_law_number"] [] (bP (aB 0)) (gN 0) (bA wK [] (aD (aB 0) aF))) aF))))
noncomputable def sW:FM:=aZ 2 2 Ma
noncomputable def vM:MS:=(aJ (dZ (oN (bG (bV nA (aB 0)))) (bJ (mC (.bl false))) eO)
 (aJ (cX (bP (aB 0)) (gN 1) (dZ (oS (oN (bG (bV nA (aB 1)))) (oS (bG (aC gM (mR dJ (aD (aB 1) aF)) (mC (.int 2)))) (oS (oN (bG (bA sW [] (aD (aC aE (aB 1) (mC (.int 0))) (aD (mC (.int 2)) aF))))) (oN (bG (bA sW [] (aD (aC aE (aB 1) (mC (.int 1))) (aD (mC (.int 2)) aF)))))))) (bJ (mC (.bl false))) eO))
 (bJ (aC dP (mR oB (aD (aB 0) aF)) (mR mQ (aD (aB 0) aF))))))
noncomputable def nP:FM:=aZ 1 2 vM
noncomputable def zO:MS:=(aJ (aU 1 (bH ["_law_k"] [(0,"_law_row_here")] (eJ (aD (mC (.int 3)) aF)) (gN 0) (bA fT [] (aD (aB 1) (aD (mC (.int 2)) aF)))))
 (aJ (aU 2 (gF (aD (aB 1) aF)))
 (aJ (cX (eJ (aD (mC (.int 3)) aF)) (gN 3) (aJ (yL 4 (aJ (aU 4 (yE (aD (aB 1) aF))) (nY (aB 4) (aB 3) (aC eP (mC (.int 1)) (aC aE (aB 4) (aB 3))))))
 (fF (gO (aB 2) (aD (aB 4) aF)))))
 (bJ (aB 2)))))
noncomputable def sP:FM:=aZ 1 5 zO
noncomputable def Va:MS:=(aJ (aU 1 (bA fT [] (aD (aB 0) (aD (mC (.int 2)) aF))))
 (aJ (aU 2 (gF aF))
 (aJ (cX (eJ (aD (mC (.int 8)) aF)) (gN 3) (aJ (aU 4 (mN fX (aD (aC cV (aB 3) (mC (.int 2))) (aD (aC cV (aC dI (aB 3) (mC (.int 2))) (mC (.int 2))) (aD (aC dI (aB 3) (mC (.int 4))) aF)))))
 (dZ (bG (aC dP (aC cV (mR lL (aD (aB 4) aF)) (mC (.int 2))) (aB 1))) (fF (gO (aB 2) (aD (aB 4) aF))) eO)))
 (bJ (aB 2)))))
noncomputable def qX:FM:=aZ 1 5 Va
noncomputable def Ca:MS:=(aJ (aU 1 (aC aH (mC (.int 1)) (bA fT [] (aD (aB 0) (aD (aC aE (mN fX (aD (mC (.int 3)) (aD (aC jG (mC (.int 10)) (mC (.int 9))) aF))) (bA fT [] (aD (aB 0) (aD (mC (.int 2)) aF)))) aF)))))
 (bJ (bA pJ [] (aD (aB 1) (aD (aC aH (mC (.int 1)) (bA fT [] (aD (aB 0) (aD (aC aE (mN fX (aD (mC (.int 2)) (aD (aC jG (mC (.int 10)) (mC (.int 6))) aF))) (bA fT [] (aD (aB 0) (aD (mC (.int 2)) aF)))) aF)))) aF)))))
noncomputable def vS:FM:=aZ 1 2 Ca
noncomputable def Ls:MS:=(aJ (aU 1 (tY tT [] (aD (aB 0) aF)))
 (aJ (aU 2 (bA vS [] (aD (aB 1) aF)))
 (aJ (aU 3 (bA fT [] (aD (aB 1) (aD (mC (.int 8)) aF))))
 (aJ (aU 4 (bA fT [] (aD (aB 1) (aD (mC (.int 3)) aF))))
 (aJ (aU 5 (pV ["_law_k"] [(1,"_law_row_here")] (eJ (aD (aB 3) aF)) (gN 0) (bA sP [] (aD (aB 1) aF))))
 (aJ (cX (eJ (aD (aB 4) aF)) (gN 6) (fF (uN (aB 5) (aD (bA fT [] (aD (aB 1) (aD (aC aH (mR dJ (aD (aB 5) aF)) (mC (.int 1))) aF))) (aD (bA qX [] (aD (aB 1) aF)) aF)))))
 (aJ (aU 7 (bA tH [] (aD (aB 1) (aD (aB 5) (aD (mN fX (aD (aB 2) (aD (aB 2) (aD (aB 2) aF)))) aF)))))
 (aJ (aU 8 (mN fI aF))
 (aJ (dZ (bG (aC gM (aB 3) (aC aV (mC (.int 4)) (aB 4)))) (aU 8 (mN fI (aD (mN fI (aD (mN fI (aD (mC (.int 2)) (aD (mC (.int 3)) aF))) (aD (bA wO [] (aD (mN fI (aD (aC eP (aC aV (mC (.int 3)) (aB 3)) (aC aV (mC (.int 12)) (aB 4))) (aD (mC (.int 1)) aF))) (aD (aB 2) aF))) aF))) aF))) eO)
 (aJ (aU 9 (bA pA [] (aD (bA qW [] (aD (aB 1) (aD (aB 7) aF))) aF)))
 (bJ (uG (bA nP [] (aD (aB 9) aF)) (aC dP (aB 9) (aB 8))))))))))))))
noncomputable def Af:FM:=aZ 1 10 Ls
noncomputable abbrev Wb(B:Bx):=cR B "sign" 1 ["number"] rR
noncomputable abbrev zY(B:Bx):=cR B "divisor" 1 ["one","other"] qS
noncomputable abbrev Ba(B:Bx):=cR B "reduced" 2 ["numbers"] pF
noncomputable abbrev Fh(B:Bx):=cR B "lowest_way" 3 ["numbers"] sQ
noncomputable abbrev sR(B:Bx):=CxB B "fraction" 2 ["top","bottom"] kZ
noncomputable abbrev Ap(B:Bx):=cR B "plus" 3 ["one","other"] pM
noncomputable abbrev Tm(B:Bx):=cR B "total" 4 ["parts"] tL
noncomputable abbrev Am(B:Bx):=cR B "times" 3 ["one","other"] wW
noncomputable abbrev zN(B:Bx):=cR B "whole_arrow" 1 ["start","end"] jL
noncomputable abbrev Xd(B:Bx):=cR B "dot" 1 ["u","v"] lF
noncomputable abbrev Sa(B:Bx):=cR B "normal" 1 ["arrows"] qZ
noncomputable abbrev Ul(B:Bx):=cR B "walls" 1 ["piece"] rD
noncomputable abbrev Cn(B:Bx):=cR B "along" 4 ["numbers","bottom"] tG
noncomputable abbrev Ah(B:Bx):=cR B "side_share" 5 ["start","end"] vN
noncomputable abbrev Uk(B:Bx):=cR B "summed" 5 ["rows"] rB
noncomputable abbrev Bh(B:Bx):=cR B "odd_primes" 1 ["number"] lX
noncomputable abbrev Tg(B:Bx):=cR B "without_squares" 1 ["number"] vL
noncomputable abbrev Ri(B:Bx):=cR B "inverse" 1 ["number","prime"] qQ
noncomputable abbrev Di(B:Bx):=cR B "value_at" 2 ["u","v","m","prime"] oX
noncomputable abbrev Ih(B:Bx):=cR B "edge_rows" 4 ["share","one","other","primes"] oW
noncomputable abbrev Dh(B:Bx):=cR B "frame_rows" 5 ["frame"] lW
noncomputable abbrev Bi(B:Bx):=cR B "turn_sum" 8 ["heap"] pA
noncomputable abbrev pH(B:Bx):=cR B "_law_take" 1 ["_law_row_here","_law_many"] fT
noncomputable abbrev To(B:Bx):=cR B "_law_row" 1 ["_law_script"] tT
noncomputable abbrev Ro(B:Bx):=cR B "_law_gcd" 1 ["_law_one","_law_other"] tN
noncomputable abbrev sU(B:Bx):=cR B "_law_lowest" 2 ["_law_numbers"] nT
noncomputable abbrev Kb(B:Bx):=cR B "_law_frac" 3 ["_law_top","_law_bottom"] pJ
noncomputable abbrev Go(B:Bx):=cR B "_law_far" 3 ["_law_row_here","_law_dims"] oA
noncomputable abbrev Cp(B:Bx):=cR B "_law_dot" 1 ["_law_u","_law_v"] xM
noncomputable abbrev Fl(B:Bx):=cR B "_law_cross" 1 ["_law_u","_law_v"] wH
noncomputable abbrev Qn(B:Bx):=cR B "_law_turn" 2 ["_law_ways"] rH
noncomputable abbrev Ip(B:Bx):=cR B "_law_gap" 1 ["_law_p","_law_q"] rO
noncomputable abbrev Yo(B:Bx):=cR B "_law_det" 3 ["_law_points"] pK
noncomputable abbrev Fi(B:Bx):=cR B "_law_simplex" 4 ["_law_points"] oY
noncomputable abbrev Ti(B:Bx):=cR B "_law_joined" 3 ["_law_p","_law_q","_law_way"] nS
noncomputable abbrev Fm(B:Bx):=cR B "_law_spot" 3 ["_law_corner","_law_stretch"] nV
noncomputable abbrev Om(B:Bx):=cR B "_law_laid" 5 ["_law_row_here","_law_heap","_law_stretch"] tH
noncomputable abbrev Ck(B:Bx):=cR B "_law_times" 4 ["_law_one","_law_other"] wO
noncomputable abbrev Xi(B:Bx):=cR B "_law_handed" 2 ["_law_row_here","_law_rows"] qW
noncomputable abbrev Rj(B:Bx):=cR B "_law_whole" 1 ["_law_number"] wK
noncomputable abbrev Ii(B:Bx):=cR B "_law_wholes" 2 ["_law_told","_law_many"] sW
noncomputable abbrev Eh(B:Bx):=cR B "_law_told_sums" 3 ["_law_told"] nP
noncomputable abbrev Yg(B:Bx):=cR B "_law_cut_corner" 2 ["_law_row_here"] sP
noncomputable abbrev Bj(B:Bx):=cR B "_law_middle" 2 ["_law_row_here"] qX
noncomputable abbrev Yh(B:Bx):=cR B "_law_size_by" 4 ["_law_row_here"] vS
structure Mg(mg:Str->FO):Prop where
 m_abs:mg "abs"=none
 m_all:mg "all"=none
 m_bool:mg "bool"=none
 m_enumerate:mg "enumerate"=none
 m_int:mg "int"=none
 m_isinstance:mg "isinstance"=none
 m_len:mg "len"=none
 m_list:mg "list"=none
 m_max:mg "max"=none
 m_range:mg "range"=none
 m_set:mg "set"=none
 m_sorted:mg "sorted"=none
 m_sum:mg "sum"=none
 m_tuple:mg "tuple"=none
 m_zip:mg "zip"=none
set_option hygiene false
local macro_rules | `(tactic|trivial)=> `(tactic|(first
 |(with_reducible show aT _ _ _ _ _ (mW _ _ _ _ _));refine acw (by assumption) hr (by decide) (by decide) rfl ?_
 |(with_reducible show aT _ _ _ _ _ (mY _ _ _ _));refine ack (by assumption) hr (by decide) ?_
 |(with_reducible show aT _ _ _ _ _ (bV (gX _ _) _));refine ab2 (by assumption) (by decide) ?_
 |(with_reducible show aT _ _ _ _ _ (mR (mV _) _));refine aao rfl rfl m.m_max Ds ?_
 |(with_reducible show aT _ _ _ _ _ (mR pN _));refine P6 rfl rfl m.m_sorted wA rfl m.m_set ach ?_
 |(with_reducible show aT _ _ _ _ _ (uN _ _));refine Wz ?_ ?_
 |(with_reducible show fY _ _ _ _ _ Ae);exact E9
 |(with_reducible show fY _ _ _ _ _ (aJ (yL _ (aJ _ _)) _));refine aaG _ ?_ ?_ ?_
 |(with_reducible show pX _ _ _ _ _ _ _ _ []);exact Q3
 |(with_reducible show pX _ _ _ _ _ _ _ _ (_::_));refine A4 cc (nf _ (by decide)) (by decide) ?_ ?_
 |(with_reducible show aT _ _ _ _ _ (pY _ _ _));exact aby (qL hr) rfl rfl rfl
 |(with_reducible show aT _ _ _ _ _ (bV nA _));refine Y6 rfl m.m_isinstance rfl m.m_tuple Gm ?_
 |(with_reducible show aT _ _ _ _ _ (xH _));exact N8 _
 |(with_reducible show aT _ _ _ _ _ (xP _));refine M4 rfl rfl m.m_sorted wA ?_
 |(with_reducible show aT _ _ _ _ _ (mR mQ _));refine pG (Yx (qL hr)) aba rfl m.m_sorted wA ?_
 |(with_reducible show aT _ _ _ _ _ (tM _ _ _));refine abJ (qL hr) (by assumption) hr (by decide) rfl ?_ ?_
 |(with_reducible show dS _ _ _ _ _ aF);exact W5
 |(with_reducible show dS _ _ _ _ _ (aD _ _));refine R7 ?_ ?_
 |(with_reducible show aT _ _ _ _ _ (aB _));exact acK _
 |(with_reducible show aT _ _ _ _ _ (mC (.int _)));(first |exact abB |exact Co rfl (by assumption))
 |(with_reducible show aT _ _ _ _ _ (mC (.bl _)));exact ad5
 |(with_reducible show aT _ _ _ _ _ (mC (.tup _)));exact Co rfl (by assumption)
 |(with_reducible show aT _ _ _ _ _ (bV dL _));refine adx Gs aei ?_
 |(with_reducible show aT _ _ _ _ _ (bV uQ _));refine acs ?_
 |(with_reducible show aT _ _ _ _ _ (aC aH _ _));refine rX W8 adT ?_ ?_
 |(with_reducible show aT _ _ _ _ _ (aC eP _ _));refine rX acX ad9 ?_ ?_
 |(with_reducible show aT _ _ _ _ _ (aC aV _ _));refine rX X6 adb ?_ ?_
 |(with_reducible show aT _ _ _ _ _ (aC dI _ _));refine rX G7 acd ?_ ?_
 |(with_reducible show aT _ _ _ _ _ (aC cV _ _));refine rX S6 adU ?_ ?_
 |(with_reducible show aT _ _ _ _ _ (aC jG _ _));refine rX abX adZ ?_ ?_
 |(with_reducible show aT _ _ _ _ _ (aC aE _ _));refine aej ?_ ?_
 |(with_reducible show aT _ _ _ _ _ (aC dP _ _));refine rN (Gr (qL hr)) Ut ?_ ?_ (kP _)
 |(with_reducible show aT _ _ _ _ _ (aC gM _ _));refine rN (Cr (qL hr)) Au ?_ ?_ (kP _)
 |(with_reducible show aT _ _ _ _ _ (aC mK _ _));refine rN Ct Ou ?_ ?_ (kP _)
 |(with_reducible show aT _ _ _ _ _ (aC nM _ _));refine rN Us Cu ?_ ?_ (kP _)
 |(with_reducible show aT _ _ _ _ _ (aC gK _ _));refine rN Js Fu ?_ ?_ (kP _)
 |(with_reducible show aT _ _ _ _ _ (aC sN _ _));refine rN Bt Lu ?_ ?_ (kP _)
 |(with_reducible show eS _ _ _ _ _ (bG (aC dP _ _)));refine rG (Gr (qL hr)) Ut ?_ ?_ (kP _)
 |(with_reducible show eS _ _ _ _ _ (bG (aC gM _ _)));refine rG (Cr (qL hr)) Au ?_ ?_ (kP _)
 |(with_reducible show eS _ _ _ _ _ (bG (aC mK _ _)));refine rG Ct Ou ?_ ?_ (kP _)
 |(with_reducible show eS _ _ _ _ _ (bG (aC nM _ _)));refine rG Us Cu ?_ ?_ (kP _)
 |(with_reducible show eS _ _ _ _ _ (bG (aC gK _ _)));refine rG Js Fu ?_ ?_ (kP _)
 |(with_reducible show eS _ _ _ _ _ (bG (aC sN _ _)));refine rG Bt Lu ?_ ?_ (kP _)
 |(with_reducible show eS _ _ _ _ _ (bG _));refine aa6 ?_
 |(with_reducible show eS _ _ _ _ _ (uR _));refine X7 ?_
 |(with_reducible show eS _ _ _ _ _ (oN _));refine aai ?_
 |(with_reducible show eS _ _ _ _ _ (kU _ _));refine kK.pt ?_
 |(with_reducible show eS _ _ _ _ _ (oS _ _));refine kK.pt ?_
 |(with_reducible show kK _ _ _ _ _ (kU _ _));refine aaA ?_ ?_
 |(with_reducible show kK _ _ _ _ _ (oS _ _));refine acO ?_ ?_
 |(with_reducible show kK _ _ _ _ _ _);(first |refine M8 ?_ |refine aav ?_)
 |(with_reducible show aT _ _ _ _ _ (uG _ _));refine acx ?_ ?_
 |(with_reducible show aT _ _ _ _ _ (qH _ _ _));refine adV ?_ ?_ ?_
 |(with_reducible show aT _ _ _ _ _ (mN fI _));refine acl ?_
 |(with_reducible show aT _ _ _ _ _ (mN fX _));refine abo ?_
 |(with_reducible show aT _ _ _ _ _ (gF _));refine V5 ?_
 |(with_reducible show aT _ _ _ _ _ (qD _ _ _ _));(first |refine Ar ?_ ?_ ?_ aaW (by decide) |refine Ar ?_ ?_ ?_ acH (by decide))
 |(with_reducible show aT _ _ _ _ _ (gL _ _ _));refine adM ?_ ?_ ?_
 |(with_reducible show oV _ _ _ _ _ eN);exact Q6
 |(with_reducible show oV _ _ _ _ _ (fK _));refine D7 ?_
 |(with_reducible show aT _ _ _ _ _ (gO _ _));refine Uz ?_ ?_
 |(with_reducible show aT _ _ _ _ _ (pZ _ _));refine acJ ?_ ?_
 |(with_reducible show aT _ _ _ _ _ (tZ _ _));refine ad0 (by assumption) hr (by decide) rfl ?_
 |(with_reducible show aT _ _ _ _ _ (mZ _ [] _));refine ade (by assumption) hr (by decide) rfl ?_
 |(with_reducible show aT _ _ _ _ _ (bA _ [] _));refine adD (by assumption) hr (by decide) rfl ?_
 |(with_reducible show aT _ _ _ _ _ (tY _ [] _));refine adS (by assumption) hr (by decide) rfl ?_
 |(with_reducible show aT _ _ _ _ _ (bV (kS "int") _));refine Bs (n:="int") rfl m.m_isinstance rfl m.m_int acq ?_
 |(with_reducible show aT _ _ _ _ _ (bV (kS "bool") _));refine Bs (n:="bool") rfl m.m_isinstance rfl m.m_bool abb ?_
 |(with_reducible show aT _ _ _ _ _ (yE _));refine Q5 rfl rfl m.m_list ?_
 |(with_reducible show aT _ _ _ _ _ (mR dJ _));refine pG Nw ad6 rfl m.m_len acP ?_
 |(with_reducible show aT _ _ _ _ _ (mR eD _));refine pG R1 adI rfl m.m_abs abI ?_
 |(with_reducible show aT _ _ _ _ _ (mR uK _));refine pG (D8 rfl) adp rfl m.m_all ab8 ?_
 |(with_reducible show aT _ _ _ _ _ (mR lD _));refine Jl Iw aa2 rfl m.m_tuple Gm ?_
 |(with_reducible show aT _ _ _ _ _ (mR oB _));refine Jl Sh aaN rfl m.m_list T8 ?_
 |(with_reducible show aT _ _ _ _ _ (mR lL _));refine pG (Sy rfl) ac2 rfl m.m_sum abV ?_
 |(with_reducible show aT _ _ _ _ _ (mR tF _));refine pG Ky abn rfl m.m_sorted wA ?_
 |(with_reducible show aT _ _ _ _ _ (mR lM _));refine pG (Gz rfl) ads rfl m.m_max Ds ?_
 |(with_reducible show aT _ _ _ _ _ (bH _ _ _ _ _));(first |refine aan (by first |exact xZ |exact xI |exact xO) ?_ rfl (λ_ _ _ _=> ?_) (λ_ _ _ _=> ?_) |refine E4 abp ?_ rfl (λ_ _ _ _=> ?_) (λ_ _ _ _=> ?_))
 |(with_reducible show aT _ _ _ _ _ (kN _ _ _ _ _ _));refine F4 (by first |exact xZ |exact xI |exact xO) ?_ rfl (λ_ _ _ _=> ?_) (λ_ _ _ _=> ?_) (λ_ _ _ _=> ?_)
 |(with_reducible show PIp _ _ _ _ _ _ (iV _));refine Y4 rfl m.m_zip ?_
 |(with_reducible show PIp _ _ _ _ _ _ (yB _));refine K5 rfl m.m_enumerate ?_
 |(with_reducible show PIp _ _ _ _ _ _ (eJ _));refine Jy rfl m.m_range ?_
 |(with_reducible show PIp _ _ _ _ _ _ (bP _));refine aay ?_
 |(with_reducible show lQ _ _ _ (gN _));exact O4 (by first |exact nd |(show(bW _ _).Nodup;decide+kernel)) rfl (by first |exact ic rfl |exact eh rfl)
 |(with_reducible show lQ _ _ _ (gT _ _));refine X5 rfl ?_
 |(with_reducible show sH _ _ _ eB);exact F8
 |(with_reducible show sH _ _ _ (cG _ _));refine B8 ?_ ?_
 |(with_reducible show fY _ _ _ _ _ eO);exact N5
 |(with_reducible show fY _ _ _ _ _ (aJ _ _));refine Uy ?_ ?_
 |(with_reducible show fY _ _ _ _ _ _);refine E6 ?_
 |(with_reducible show dY _ _ _ _ _ (bJ _));refine W4 ?_
 |(with_reducible show dY _ _ _ _ _ (dZ _ _ _));refine ab6 ?_ ?_ ?_
 |(with_reducible show dY _ _ _ _ _ (fF _));refine O1 ?_
 |(with_reducible show dY _ _ _ _ _ (Ge _));exact Fz rfl (by assumption) (by assumption)
 |(with_reducible show dY _ _ _ _ _ (aU _ (pV _ _ _ _ _)));refine A1 nd rfl (by first |exact ic rfl |exact eh rfl) (by first |exact xZ |exact xI |exact xO) ?_ rfl (λ_ _ _ _=> ?_) (λ_ _ _ _=> ?_)
 |(with_reducible show dY _ _ _ _ _ (aU _ (bH _ _ _ _ _)));(first |refine J9 nd rfl (by first |exact ic rfl |exact eh rfl) (by first |exact xZ |exact xI |exact xO) ?_ rfl (λ_ _ _ _=> ?_) (λ_ _ _ _=> ?_) |refine Qp nd rfl (by first |exact ic rfl |exact eh rfl) ?_)
 |(with_reducible show dY _ _ _ _ _ (aU _ _));refine Qp nd rfl (by first |exact ic rfl |exact eh rfl) ?_
 |(with_reducible show dY _ _ _ _ _ (uO _ _ _));refine abc rfl nd rfl rfl (by decide) rfl rfl ?_ rfl
 |(with_reducible show dY _ _ _ _ _ (nY _ _ _));refine A8 ?_ ?_ ?_
 |(with_reducible show dY _ _ _ _ _ (kR _ _));refine Q2 nd rfl (by first |exact ic rfl |exact eh rfl) ?_
 |(with_reducible show dY _ _ _ _ _ (oH _ _ _));(first |refine An nd rfl (by first |exact ic rfl |exact eh rfl) ?_ abj |refine An nd rfl (by first |exact ic rfl |exact eh rfl) ?_ acC)
 |(with_reducible show dY _ _ _ _ _ (fE _ _));refine Kz (by first |exact EI |exact EJ) ?_ ?_
 |(with_reducible show dY _ _ _ _ _ (cX _ _ _));refine aaq (by first |exact EI |exact EJ) rfl ?_ ?_ ?_)<;>trivial)
set_option hygiene true
section
variable{B:Bx}(X:XG B.K B.mg)(m:Mg B.mg)
include X m
theorem W7(h:HF B.K "sign" Jr):Wb B:=cS (N:=["number"]) X h cF λnd _ _ _ _ _ _ _ hr=>by unfold Hd;trivial
theorem Gy(h:HF B.K "divisor" Dl):zY B:=cS (N:=["one","other","rest"]) X h cF λnd _ _ _ _ _ _ _ hr=>by unfold Za;trivial
theorem My(h:HF B.K "reduced" Rk)(C_divisor:zY B):Ba B:=cS (N:=["numbers","common","number"]) X h cF λnd _ _ _ _ _ _ _ hr=>by unfold Na;trivial
theorem Ew(h:HF B.K "lowest_way" Lh)(C_reduced:Ba B)(C_sign:Wb B):Fh B:=cS (N:=["numbers","first"]) X h cF λnd _ _ _ _ _ _ _ hr=>by unfold zR;trivial
theorem Ww{f:Addr}{fd:de}{dsv:Array Value}(F:oJ B.K "fraction" "fraction" sT f fd dsv)(C_sign:Wb B)(C_divisor:zY B)(q_NoNumber:B.mg "NoNumber"=some (.ref (B.cl "NoNumber")))(x_NoNumber:qq B.K (B.cl "NoNumber") tW "ValueError.__new__"=true):dC B.P B.w B.K B.mg B.base (kJ B.P B.w) 2 f fd ["top","bottom"] (oO B.K B.cl kZ):=aes (N:=["top","bottom","common"]) F cF λnd _ _ _ _ _ _ _ hr=>by unfold zX;trivial
theorem Z6(h:HF B.K "plus" Wr)(H_fraction:sR B):Ap B:=cS (N:=["one","other"]) X h cF λnd _ _ _ _ _ _ _ hr=>by unfold Ad;trivial
theorem P0(h:HF B.K "total" Aq)(C_plus:Ap B):Tm B:=cS (N:=["parts","pairs"]) X h cF λnd _ _ _ _ _ _ _ hr=>by unfold Ic;trivial
theorem K6(h:HF B.K "times" Gq)(H_fraction:sR B):Am B:=cS (N:=["one","other"]) X h cF λnd _ _ _ _ _ _ _ hr=>by unfold Uc;trivial
theorem Aw(h:HF B.K "whole_arrow" Gh):zN B:=cS (N:=["start","end"]) X h cF λnd _ _ _ _ _ _ _ hr=>by unfold zP;trivial
theorem abt(h:HF B.K "dot" Ot):Xd B:=cS (N:=["u","v"]) X h cF λnd _ _ _ _ _ _ _ hr=>by unfold Pe;trivial
theorem Zy(h:HF B.K "normal" Pn):Sa B:=cS (N:=["arrows","u","v"]) X h cF λnd _ _ _ _ _ _ _ hr=>by unfold Hb;trivial
theorem L9(h:HF B.K "walls" Yp)(gt_FLAT_WALLS:mM B.K B.mg "FLAT_WALLS" (.tup [.tup [.int 0,.int 1],.tup [.int 1,.int 2],.tup [.int 2,.int 0]]))(gt_SPACE_WALLS:mM B.K B.mg "SPACE_WALLS" (.tup [.tup [.int 1,.int 2,.int 3],.tup [.int 0,.int 3,.int 2],.tup [.int 0,.int 1,.int 3],.tup [.int 0,.int 2,.int 1]])):Ul B:=cS (N:=["piece","order"]) X h cF λnd _ _ _ _ _ _ _ hr=>by unfold Rc;trivial
theorem E7(h:HF B.K "along" Xn)(C_lowest_way:Fh B)(H_fraction:sR B):Cn B:=cS (N:=["numbers","bottom","way","place"]) X h cF λnd _ _ _ _ _ _ _ hr=>by unfold Kc;trivial
theorem Gw(h:HF B.K "side_share" Th)(C_along:Cn B)(C_whole_arrow:zN B):Ah B:=cS (N:=["start","end"]) X h cF λnd _ _ _ _ _ _ _ hr=>by unfold zQ;trivial
theorem Yy(h:HF B.K "summed" Mn)(C_total:Tm B):Uk B:=cS (N:=["rows","parts","key","share","sums"]) X h cF λnd _ _ _ _ _ _ _ hr=>by unfold Ub;trivial
theorem Mw{D:Addr}(hc:qK B.K "Frame" ["arrows","shares"] D)(h:HM B.K "__init__" "Frame.__init__" Mh D)(C_walls:Ul B)(C_reduced:Ba B)(C_normal:Sa B)(C_whole_arrow:zN B)(C_side_share:Ah B)(gt_EDGES:mM B.K B.mg "EDGES" (.tup [.tup [.int 0,.int 1,.int 2,.int 3],.tup [.int 0,.int 2,.int 1,.int 3],.tup [.int 0,.int 3,.int 1,.int 2],.tup [.int 1,.int 2,.int 0,.int 3],.tup [.int 1,.int 3,.int 0,.int 2],.tup [.int 2,.int 3,.int 0,.int 1]])):yW B "Frame" 6 1 1 jM:=mkI (nm:="self") (self:="self") (ps:=["piece"]) (N:=["piece"]) X hc h cF λD cc nf nd _ _ _ _ _ _ _ hr=>by unfold jM;trivial
theorem Qv{D:Addr}(hc:qK B.K "Frame" ["arrows","shares"] D)(h:HM B.K "steepness" "Frame.steepness" Vg D)(FD_Frame:zH B "Frame" ["arrows","shares"]):zC B "Frame" "steepness" 1 kY:=mkM (ps:=["self"]) (N:=["self","rows"]) hc h cF λnd _ _ _ _ _ _ _ hr=>by unfold zM;trivial
theorem Kw(h:HF B.K "odd_primes" Hh):Bh B:=cS (N:=["number","found","prime"]) X h cF λnd _ _ _ _ _ _ _ hr=>by unfold vO;trivial
theorem Ov(h:HF B.K "without_squares" Ug):Tg B:=cS (N:=["number","root","factor"]) X h cF λnd _ _ _ _ _ _ _ hr=>by unfold zL;trivial
theorem Ux(h:HF B.K "inverse" Vj):Ri B:=cS (N:=["number","prime","rest","share","last","last_share","count","rest_after","share_after"]) X h cF λnd _ _ _ _ _ _ _ hr=>by unfold wB;trivial
theorem Ex(h:HF B.K "value_at" Aj)(C_inverse:Ri B):Di B:=cS (N:=["u","v","m","prime","whole","count"]) X h cF λnd _ _ _ _ _ _ _ hr=>by unfold vT;trivial
theorem Qw(h:HF B.K "edge_rows" Ci)(C_without_squares:Tg B)(C_dot:Xd B)(C_normal:Sa B)(H_fraction:sR B)(C_times:Am B)(C_value_at:Di B):Ih B:=cS (N:=["share","one","other","primes","way","found","m","s","place","u","v","length","rows","prime"]) X h cF λnd _ _ _ _ _ _ _ hr=>by unfold Wh;trivial
theorem Bw(h:HF B.K "frame_rows" Kh)(C_odd_primes:Bh B)(C_dot:Xd B)(C_edge_rows:Ih B)(FD_Frame:zH B "Frame" ["arrows","shares"])(gt_EDGES:mM B.K B.mg "EDGES" (.tup [.tup [.int 0,.int 1,.int 2,.int 3],.tup [.int 0,.int 2,.int 1,.int 3],.tup [.int 0,.int 3,.int 1,.int 2],.tup [.int 1,.int 2,.int 0,.int 3],.tup [.int 1,.int 3,.int 0,.int 2],.tup [.int 2,.int 3,.int 0,.int 1]])):Dh B:=cS (N:=["frame","primes","rows","edge","share","one","other","both"]) X h cF λnd _ _ _ _ _ _ _ hr=>by unfold Qh;trivial
theorem Fx(h:HF B.K "turn_sum" Vi)(M_Frame_init:yW B "Frame" 6 1 1 jM)(M_Frame_steepness:zC B "Frame" "steepness" 1 kY)(C_frame_rows:Dh B)(C_summed:Uk B)(gt_STEEPEST:mM B.K B.mg "STEEPEST" (.int 300)):Bi B:=cS (N:=["heap","frames","steepest","rows","frame"]) X h cF λnd _ _ _ _ _ _ _ hr=>by unfold Qi;trivial
theorem G3(h:HF B.K "_law_take" Xo):pH B:=cS (N:=["_law_row_here","_law_many","_law_found"]) X h cF λnd _ _ _ _ _ _ _ hr=>by unfold wY;trivial
theorem aac(h:HF B.K "_law_row" Lr):To B:=cS (N:=["_law_script","_law_row_here","_law_k","_law_cell","_law_one","_law_two","_law_three"]) X h cF λnd _ _ _ _ _ _ _ hr=>by unfold Jd;trivial
theorem aap(h:HF B.K "_law_gcd" Yr):Ro B:=cS (N:=["_law_one","_law_other"]) X h cF λnd _ _ _ _ _ _ _ hr=>by unfold He;trivial
theorem Mx(h:HF B.K "_law_lowest" Ak)(C_wgcd:Ro B):sU B:=cS (N:=["_law_numbers","_law_by","_law_number"]) X h cF λnd _ _ _ _ _ _ _ hr=>by unfold Pa;trivial
theorem O5(h:HF B.K "_law_frac" Fp)(C_wlowest:sU B):Kb B:=cS (N:=["_law_top","_law_bottom"]) X h cF λnd _ _ _ _ _ _ _ hr=>by unfold Wc;trivial
theorem aaS(h:HF B.K "_law_far" Sr)(C_wtake:pH B)(C_wlowest:sU B):Go B:=cS (N:=["_law_row_here","_law_dims","_law_kind","_law_wide","_law_under","_law_far_here"]) X h cF λnd _ _ _ _ _ _ _ hr=>by unfold Nd;trivial
theorem aat(h:HF B.K "_law_dot" Tr):Cp B:=cS (N:=["_law_u","_law_v"]) X h cF λnd _ _ _ _ _ _ _ hr=>by unfold Wd;trivial
theorem Vy(h:HF B.K "_law_cross" Mm):Fl B:=cS (N:=["_law_u","_law_v","_law_x","_law_y","_law_z"]) X h cF λnd _ _ _ _ _ _ _ hr=>by unfold Gb;trivial
theorem P7(h:HF B.K "_law_turn" Ho)(C_wdot:Cp B)(C_wcross:Fl B):Qn B:=cS (N:=["_law_ways"]) X h cF λnd _ _ _ _ _ _ _ hr=>by unfold wR;trivial
theorem aax(h:HF B.K "_law_gap" Qq):Ip B:=cS (N:=["_law_p","_law_q"]) X h cF λnd _ _ _ _ _ _ _ hr=>by unfold Kd;trivial
theorem aaO(h:HF B.K "_law_det" Qr)(C_wturn:Qn B)(C_wgap:Ip B):Yo B:=cS (N:=["_law_points"]) X h cF λnd _ _ _ _ _ _ _ hr=>by unfold xK;trivial
theorem Dx(h:HF B.K "_law_simplex" Wi)(C_wdet:Yo B):Fi B:=cS (N:=["_law_points","_law_told"]) X h cF λnd _ _ _ _ _ _ _ hr=>by unfold vR;trivial
theorem Sx(h:HF B.K "_law_joined" Il)(C_wlowest:sU B):Ti B:=cS (N:=["_law_p","_law_q","_law_way","_law_far_here"]) X h cF λnd _ _ _ _ _ _ _ hr=>by unfold Oa;trivial
theorem N4(h:HF B.K "_law_spot" Vp)(C_wlowest:sU B):Fm B:=cS (N:=["_law_corner","_law_stretch","_law_under","_law_part","_law_far_here"]) X h cF λnd _ _ _ _ _ _ _ hr=>by unfold wT;trivial
theorem M5(h:HF B.K "_law_laid" Po)(C_wfar:Go B)(C_wsimplex:Fi B)(C_wjoined:Ti B)(C_wspot:Fm B):Om B:=cS (N:=["_law_row_here","_law_heap","_law_stretch","_law_told","_law_corners","_law_far_here"]) X h cF λnd _ _ _ _ _ _ _ hr=>by unfold Oc;trivial
theorem A0(h:HF B.K "_law_times" Rm)(C_wfrac:Kb B):Ck B:=cS (N:=["_law_one","_law_other"]) X h cF λnd _ _ _ _ _ _ _ hr=>by unfold Qb;trivial
theorem Wx(h:HF B.K "_law_handed" Ik)(C_wtake:pH B):Xi B:=cS (N:=["_law_row_here","_law_rows"]) X h cF λnd _ _ _ _ _ _ _ hr=>by unfold vZ;trivial
theorem C0(h:HF B.K "_law_whole" Xl):Rj B:=cS (N:=["_law_number"]) X h cF λnd _ _ _ _ _ _ _ hr=>by unfold Jb;trivial
theorem Py(h:HF B.K "_law_wholes" Hl)(C_wwhole:Rj B):Ii B:=cS (N:=["_law_told","_law_many"]) X h cF λnd _ _ _ _ _ _ _ hr=>by unfold Ma;trivial
theorem Lw(h:HF B.K "_law_told_sums" Rh)(C_wwholes:Ii B):Eh B:=cS (N:=["_law_told","_law_row_here"]) X h cF λnd _ _ _ _ _ _ _ hr=>by unfold vM;trivial
theorem Yv(h:HF B.K "_law_cut_corner" Ch)(C_wtake:pH B):Yg B:=cS (N:=["_law_row_here","_law_corner","_law_told","_law_k","_law_other"]) X h cF λnd _ _ _ _ _ _ _ hr=>by unfold zO;trivial
theorem Zx(h:HF B.K "_law_middle" Sk)(C_wtake:pH B):Bj B:=cS (N:=["_law_row_here","_law_odd","_law_told","_law_k","_law_corner"]) X h cF λnd _ _ _ _ _ _ _ hr=>by unfold Va;trivial
theorem Uw(h:HF B.K "_law_size_by" Hi)(C_wtake:pH B)(C_wfrac:Kb B):Yh B:=cS (N:=["_law_row_here","_law_top"]) X h cF λnd _ _ _ _ _ _ _ hr=>by unfold Ca;trivial
theorem abx{f:Addr}{fd:de}(F:kH B.K "law" "law" oE f fd)(C_wrow:To B)(C_wsize_by:Yh B)(C_wtake:pH B)(C_wcut_corner:Yg B)(C_wmiddle:Bj B)(C_wlaid:Om B)(C_wtimes:Ck B)(C_turn_sum:Bi B)(C_whanded:Xi B)(C_wtold_sums:Eh B):dC B.P B.w B.K B.mg B.base dR 9 f fd ["_law_script"] (jP B.K B.cl Af):=mkR (N:=["_law_script","_law_row_here","_law_side_k","_law_cut_off","_law_left","_law_raw","_law_k","_law_heap","_law_due","_law_found"]) F cF λnd _ _ _ _ _ _ _ hr=>by unfold Ls;trivial
end
local macro_rules
 | `(tactic|simp! [$l,*] $[$loc:location]?)=>`(tactic|simp[iD,aJ,dZ,bG,oN,kU,oS,uG,aex,qH,aC,bV,mR,mN,aD,aB,mC,aF,bI.bind,uF,lI,oF,We,iE,rd,oI,iJ,dJ,fI,fX,dL,uQ,lS,cA.of,bJ,adX,eO,fF,aU,mF,jZ,bA,mZ,tY,eD,lD,oB,dP,gM,frz,pU,$l,*] $[$loc]?)
theorem Jm(S:aI)(k:Nat)(o:SO):(S.set k o).take S.length=S.set k o:=tj (by simp)
noncomputable def iN(S:aI)(k:Nat)(ns:FI):Prop:=S[k]?=some (.lst (ns.map .int))
theorem iN.lt{S:aI}{k:Nat}{ns:FI}(h:iN S k ns):k<S.length:=(da.mp h).1
theorem iN.set(h:iN S k ns)(ms:FI):iN (S.set k (.lst (ms.map .int))) k ms:=jq h.lt
theorem Ui{r:bM}{k:Nat}{m:AV}:∀(ns:FI)(S:aI),iN S k ns->∃n ns',cM (kU (bG (aC gK (mR dJ (aD (aB 0) aF)) (mC (.int 0)))) (bG (aC dP (aC aE (aB 0) (mC (.int 0))) (mC (.int 0))))) (fF (pZ (aB 0) (aD (mC (.int 0)) aF))) n (some (.ref k)::some m::r) S=.nx (some (.ref k)::some m::r) (S.set k (.lst (ns'.map .int)))/\ns'.length<=ns.length/\(ns'=[]\/∃i t,ns'=i::t/\i≠0)
 |[],S,h=>by
  refine⟨1,[],?_,aq _,.inl rfl⟩;have h':S[k]?=some (.lst []):=h;have e:S.set k (.lst (([]:FI).map .int))=S:=mf λi=>by
   by_cases q:k=i
   .subst q;rw[jq h.lt,h'];rfl
   .rw[jy q]
  rw[e];simp[cM,kU,bG,aC,mR,aD,aB,mC,aF,bI.bind,oF,iE,rd,h',iJ,dJ,lI,gK,i2,lS,cA.of]
 |i::t,S,h=>by
  have h':S[k]?=some (.lst (.int i::t.map .int)):=h
  by_cases hi:i=0
  .subst hi
   have hr:iN (S.set k (.lst (t.map .int))) k t:=h.set t;obtain⟨n,ns',e,l,q⟩:=Ui (r:=r) (m:=m) t _ hr;refine⟨n+1,ns',?_,by simp;omega,q⟩;rw[qy]at e;rw[<-e];have hl:(0:Int)<(t.length:Int)+1:=by omega
   simp[cM,kU,bG,aC,mR,aD,aB,mC,aF,bI.bind,oF,iE,rd,h',iJ,dJ,lI,gK,i2,lS,cA.of,aE,aX,aY,dP,aK,fF,pZ,fH,pW,seqIndex?,hl]
  .refine⟨1,i::t,?_,aq _,.inr ⟨i,t,rfl,hi⟩⟩
   have e:S.set k (.lst ((i::t).map .int))=S:=mf λj=>by
    by_cases q:k=j
    .subst q;rw[jq h.lt,h'];rfl
    .rw[jy q]
   rw[e];have hl:(0:Int)<(t.length:Int)+1:=by omega
   simp[cM,kU,bG,aC,mR,aD,aB,mC,aF,bI.bind,oF,iE,rd,h',iJ,dJ,lI,gK,i2,lS,cA.of,aE,aX,aY,dP,aK,hl,hi]
theorem rE{S:aI}{k:Nat}{ns:FI}{m:Int}(h:iN S k ns)(hm:0<m)(b:Bd 8000 m):∃(v:Int)(ns':FI),fT [.ref k,.pv (.int m)] S=.ok (.pv (.int v)) (S.set k (.lst (ns'.map .int)))/\0<=v/\v<m/\ns'.length<=ns.length:=by
 obtain⟨n,ns',e,l,q⟩:=Ui (r:=[none]) (m:=.pv (.int m)) ns S h;have hr:=h.set ns';have hl1:(S.set k (.lst (ns'.map .int))).length=S.length:=by simp
 have hss:∀x,(S.set k (.lst (ns'.map .int))).set k x=S.set k x:=λx=>qy ..;generalize hS1:S.set k (.lst (ns'.map .int))=S1 at e hr hl1 hss;have w:=iY e (by simp);rcases q with rfl |⟨i,t,rfl,hi⟩
 .refine⟨0,[],?_,xa 0,hm,du _⟩
  rw[hS1];have hr':S1[k]?=some (.lst []):=hr;have tk:List.take S.length S1=S1:=tj (by omega);unfold fT aZ wY;simp[iD,aJ,w,dZ,bG,aC,mR,aD,aB,mC,aF,bI.bind,oF,iE,rd,hr',iJ,dJ,lI,dP,aK,lS,cA.of,bJ,mF,jZ,tk]
 .have hr':S1[k]?=some (.lst (.int i::t.map .int)):=hr
  refine⟨i.fmod m,i.fdiv m::t,?_,EK i hm,Int.fmod_lt_of_pos i hm,l⟩;rw[<-hss];have tk:∀x,List.take S.length (S1.set k x)=S1.set k x:=λx=>tj (by simp;omega);have hl:¬((t.length:Int)+1=0):=by omega
  have hq:pP i m:=⟨by omega,b⟩;have hm0:m≠0:=by omega
  unfold fT aZ wY;simp[iD,aJ,w,dZ,bG,aC,mR,aD,aB,mC,aF,bI.bind,oF,iE,rd,hr',iJ,dJ,lI,dP,aK,lS,cA.of,bJ,mF,jZ,tk,eO,hl,aU,cV,dI,i2,cI,aE,aX,aY,hm0,hq,nY,fH,pT]
theorem aP(i j:Int):gK (.int i) (.int j)=some (.bl (decide (j<i))):=rfl
theorem aQ(i j:Int):mK (.int i) (.int j)=some (.bl (decide (i<j))):=rfl
theorem aO(i j:Int):sN (.int i) (.int j)=some (.bl (decide (j<=i))):=rfl
theorem aR(i j:Int):nM (.int i) (.int j)=some (.bl (decide (i<=j))):=rfl
theorem aN(i j:Int):eP (.int i) (.int j)=some (.int (i-j)):=rfl
theorem iB{i j:Int}(h:pR i j):aV (.int i) (.int j)=some (.int (i*j)):=by
 simp[aV,i2,cI,h]
theorem mD(h:pP i j):dI (.int i) (.int j)=some (.int (i.fdiv j)):=by
 simp[dI,i2,cI,h]
theorem fU{i j:Int}(h:j≠0):cV (.int i) (.int j)=some (.int (i.fmod j)):=by
 simp[cV,i2,cI,h]
theorem wV{i j:Int}(h:yS i j):jG (.int i) (.int j)=some (.int (i^j.toNat)):=by
 simp[jG,i2,cI,h]
theorem Jo(n:Int)(S:aI):rR [.pv (.int n)] S=.ok (.pv (.int (sg n))) S:=by
 unfold rR aZ Hd sg
 by_cases h1:0<n
 .simp[iD,aJ,dZ,bG,aC,aB,mC,bI.bind,lI,rd,iJ,gK,i2,lS,cA.of,bJ,mF,jZ,h1]
 .by_cases h2:n<0
  .simp[iD,aJ,dZ,bG,aC,aB,mC,bI.bind,lI,rd,iJ,gK,mK,i2,lS,cA.of,bJ,mF,jZ,h1,h2,eO,bV,uF,dL]
  .simp[iD,aJ,dZ,bG,aC,aB,mC,bI.bind,lI,rd,iJ,gK,mK,i2,lS,cA.of,bJ,mF,jZ,h1,h2,eO,bV,uF,dL]
theorem Zg(S:aI):∀(m:Nat)(a b:Int)(x:FV),b.natAbs<=m->∃(n:Nat)(g:Int)(x':FV),cM (bG (aC gM (aB 1) (mC (.int 0)))) (aJ (aU 2 (aC cV (aB 0) (aB 1))) (aJ (aU 0 (aB 1)) (aU 1 (aB 2)))) n [some (.pv (.int a)),some (.pv (.int b)),x] S=.nx [some (.pv (.int g)),some (.pv (.int 0)),x'] S/\g.natAbs=bi a b
 |0,a,b,x,h=>by
  have hb:b=0:=by omega
  subst hb;refine⟨1,a,x,?_,by simp⟩;simp! [cM,aE,aX,aY,aK,aP,aQ,aO,aR,aH,aN]
 |m+1,a,b,x,h=>by
  by_cases hb:b=0
  .subst hb
   refine⟨1,a,x,?_,by simp⟩;simp! [cM,aE,aX,aY,aK,aP,aQ,aO,aR,aH,aN]
  .have hl:=Yj a hb
   obtain⟨n,g,x',e,q⟩:=Zg S m b (a.fmod b) (some (.pv (.int (a.fmod b)))) (by omega);refine⟨n+1,g,x',?_,by rw[q,Cm]⟩;rw[<-e];simp! [cM,aE,aX,aY,aK,aP,aQ,aO,aR,aH,aN,fU hb,hb]
theorem Ki(a b:Int)(S:aI):qS [.pv (.int a),.pv (.int b)] S=.ok (.pv (.int (bi a b:Nat))) S:=by
 obtain⟨n,g,x',e,q⟩:=Zg S b.natAbs a b none (aq _);have w:=iY e (by simp);unfold qS aZ Za;have hg:(if g<0 then-g else g)=((bi a b:Nat):Int):=by rw[<-q];exact Md g
 simp! [aE,aX,aY,aK,aP,aQ,aO,aR,aH,aN,w,hg]
theorem Lk(S:aI):∀(m:Nat)(a b:Int),0<=a->0<=b->b.natAbs<=m->∃(n:Nat),cM (bG (aC gK (aB 1) (mC (.int 0)))) (uO 0 1 (aD (aB 1) (aD (aC cV (aB 0) (aB 1)) aF))) n [some (.pv (.int a)),some (.pv (.int b))] S=.nx [some (.pv (.int (bi a b:Nat))),some (.pv (.int 0))] S
 |0,a,b,ha,hb,h=>by
  have hb:b=0:=by omega
  subst hb;have ea:((bi a 0:Nat):Int)=a:=by simp;omega
  refine⟨1,?_⟩;rw[ea];simp! [cM,aE,aX,aY,aK,aP,aQ,aO,aR,aH,aN]
 |m+1,a,b,ha,hb,h=>by
  by_cases h0:b=0
  .subst h0
   have ea:((bi a 0:Nat):Int)=a:=by simp;omega
   refine⟨1,?_⟩;rw[ea];simp! [cM,aE,aX,aY,aK,aP,aQ,aO,aR,aH,aN]
  .have hl:=Yj a h0
   have hp:0<b:=by omega
   obtain⟨n,e⟩:=Lk S m b (a.fmod b) hb (EK a hp) (by omega);refine⟨n+1,?_⟩;rw[<-Cm,<-e];simp! [cM,aE,aX,aY,aK,aP,aQ,aO,aR,aH,aN,fU h0,hp,uO]
theorem acZ(a b:Int)(S:aI):tN [.pv (.int a),.pv (.int b)] S=.ok (.pv (.int (bi a b:Nat))) S:=by
 have ha:0<=(if a<0 then-a else a):=by grind
 have hb:0<=(if b<0 then-b else b):=by grind
 obtain⟨n,e⟩:=Lk S _ _ _ ha hb (aq _);have w:=iY e (by simp);have eg:bi (if a<0 then-a else a) (if b<0 then-b else b)=bi a b:=by
  rw[Md,Md];simp[bi]
 rw[eg]at w;unfold tN aZ He;simp! [aE,aX,aY,aK,aP,aQ,aO,aR,aH,aN,w]
theorem Sm(S:aI)(v2:FV):∀(ns:FI)(g:Int)(a:AV),∃v',dA [] (gN 2) (aU 1 (bA tN [] (aD (aB 1) (aD (aB 2) aF)))) (ns.map .int) [some a,some (.pv (.int g)),v2] S=.nx [some a,some (.pv (.int (gl ns g))),v'] S
 |[],g,a=>⟨v2,iA⟩
 |n::ns,g,a=>by
  obtain⟨v',e⟩:=Sm S (some (.pv (.int n))) ns (bi g n:Nat) a;refine⟨v',?_⟩;show dA [] _ _ (.int n::ns.map .int) _ S=_;rw[gW];simp! [gN,aE,aX,aY,aK,aP,aQ,aO,aR,aH,aN,acZ];exact e
theorem Rb(S:aI)(g:Int)(hg:g≠0)(b:Bd 8000 g):∀(ns:FI)(x:FV),bX [] (gN 0) (aC dI (aB 0) (aB 1)) (ns.map .int) [x,some (.pv (.int g))] S=.ok ((ns.map λn=>n.fdiv g).map .int) S
 |[],x=>fD
 |n::ns,x=>by
  have ih:=Rb S g hg b ns (some (.pv (.int n)));show bX [] _ _ (.int n::ns.map .int) _ S=_;rw[fR];simp! [gN,aE,aX,aY,aK,aP,aQ,aO,aR,aH,aN,mD (show pP n g from⟨hg,b⟩),ih]
theorem qU(ns:FI)(S:aI)(hb:∀n∈ns,Bd 8000 n):nT [.pv (.lst (ns.map .int))] S=.ok (.pv (.tup ((low ns).map .int))) S:=by
 obtain⟨v',e⟩:=Sm S none ns 0 (.pv (.lst (ns.map .int)));unfold nT aZ Pa
 by_cases h:gl ns 0=0
 .have el:low ns=ns:=by unfold low;rw[if_pos h]
  simp! [aE,aX,aY,aK,aP,aQ,aO,aR,aH,aN,cX,bP,cH,e,h,el]
 .have el:low ns=ns.map λn=>n.fdiv (gl ns 0):=by
   unfold low;rw[if_neg h];exact ij λn hn=>(uj ((kO ns 0).2 n hn)).symm
  have bg:Bd 8000 (gl ns 0):=Ie (Bd.of (n:=0) (by simp) (yj 8000)) hb;have ec:=Rb S (gl ns 0) h bg ns none;simp! [aE,aX,aY,aK,aP,aQ,aO,aR,aH,aN,cX,bP,cH,e,h,el,bH,cD,ec]
theorem P8(n:Int)(S:aI):wK [.pv (.int n)] S=.ok (.pv (.bl true)) S:=by
 unfold wK aZ Jb;simp! [aE,aX,aY,aK,aP,aQ,aO,aR,aH,aN,kS]
theorem mX(i:Int){j:Int}(h1:-(2^64)<j)(h2:j<2^64):aV (.int i) (.int j)=some (.int (i*j)):=iB (.inl (.inr ⟨h1,h2⟩))
theorem Cv:jG (.int 10) (.int 18)=some (.int 1000000000000000000):=wV (i:=10) (j:=18) ⟨by decide,by decide,by decide⟩
theorem Lb{k:Nat}{a:AV}:∀(cs:FI)(n:Nat)(acc:FI)(S:aI)(v2 v3 v4 v5 v6:FV),iN S k acc->acc.length+cs.length<=63->n+cs.length<=63->∃(acc':FI)(w2 w3 w4 w5 w6:FV),dA [] (gT 2 (cG (gN 2) (cG (gN 3) eB))) ((dZ (bG (aC sN (aB 3) (aC jG (mC (.int 10)) (mC (.int 18))))) (fF (gO (aB 1) (aD (aC eP (aB 3) (aC jG (mC (.int 10)) (mC (.int 18)))) aF))) (aJ (aU 4 (aC cV (aC aV (aC aH (aC aH (aC aH (aB 3) (aC aV (aC aV (mC (.int 7)) (aB 2)) (aB 2))) (aC aV (mC (.int 13)) (aB 2))) (mC (.int 5))) (mC (.int 48271))) (mC (.int 2147483647))))
 (aJ (aU 5 (aC cV (aC aV (aC aH (aC aH (aC aH (aB 3) (aC aV (aC aV (mC (.int 11)) (aB 2)) (aB 2))) (aC aV (mC (.int 17)) (aB 2))) (mC (.int 3))) (mC (.int 40692))) (mC (.int 2147483399))))
 (aJ (aU 6 (aC cV (aC aV (aC aH (aC aH (aC aH (aB 3) (aC aV (aC aV (mC (.int 5)) (aB 2)) (aB 2))) (aC aV (mC (.int 29)) (aB 2))) (mC (.int 8))) (mC (.int 39373))) (mC (.int 2147483587))))
 (aJ (aU 4 (aC cV (aC aV (aB 4) (mC (.int 52021))) (mC (.int 1000000007))))
 (aJ (aU 5 (aC cV (aC aV (aB 5) (mC (.int 30011))) (mC (.int 998244353))))
 (aJ (aU 6 (aC cV (aC aV (aB 6) (mC (.int 45989))) (mC (.int 1000000009))))
 (fF (gO (aB 1) (aD (aC aH (aC aV (aC aH (aC aV (aB 4) (mC (.int 998244353))) (aB 5)) (mC (.int 1000000009))) (aB 6)) aF))))))))))) (jO n (cs.map .int)) [some a,some (.ref k),v2,v3,v4,v5,v6] S=.nx [some a,some (.ref k),w2,w3,w4,w5,w6] (S.set k (.lst (acc'.map .int)))/\acc'.length<=63
 |[],n,acc,S,v2,v3,v4,v5,v6,h,hl,_=>by
  refine⟨acc,v2,v3,v4,v5,v6,?_,by simpa using hl⟩;have e:S.set k (.lst (acc.map .int))=S:=mf λj=>by
   by_cases q:k=j
   .subst q;rw[jq h.lt];exact h.symm
   .rw[jy q]
  rw[e];exact iA
 |x::cs,n,acc,S,v2,v3,v4,v5,v6,h,hl,hn=>by
  simp only[bo]at hl hn;have h':S[k]?=some (.lst (acc.map .int)):=h;have hlen:acc.length<16777216:=by omega
  have hk1:-(2^64)<(n:Int):=by omega
  have hk2:(n:Int)<2^64:=by omega
  by_cases c:(1000000000000000000:Int)<=x
  .obtain⟨acc',w2,w3,w4,w5,w6,e,q⟩:=Lb (k:=k) (a:=a) cs (n+1) (acc++[x-1000000000000000000]) (S.set k (.lst ((acc++[x-1000000000000000000]).map .int))) (some (.pv (.int n))) (some (.pv (.int x))) v4 v5 v6 (h.set _) (by simp;omega) (by omega)
   refine⟨acc',w2,w3,w4,w5,w6,?_,q⟩;rw[qy]at e;rw[<-e];show dA [] _ _ (.tup [.int n,.int x]::jO (n+1) (cs.map .int)) _ S=_;rw[gW];simp! [gT,cG,eB,gN,aE,aX,aY,aK,aP,aQ,aO,aR,aH,aN,Cv,c,gO,fH,lJ,h',hlen]
  .obtain⟨acc',w2,w3,w4,w5,w6,e,q⟩:=Lb (k:=k) (a:=a) cs (n+1) (acc++[((((x+7*n*n+13*n+5)*48271).fmod 2147483647*52021).fmod 1000000007*998244353+(((x+11*n*n+17*n+3)*40692).fmod 2147483399*30011).fmod 998244353)*1000000009+(((x+5*n*n+29*n+8)*39373).fmod 2147483587*45989).fmod 1000000009]) _ (some (.pv (.int n))) (some (.pv (.int x))) (some (.pv (.int ((((x+7*n*n+13*n+5)*48271).fmod 2147483647*52021).fmod 1000000007)))) (some (.pv (.int ((((x+11*n*n+17*n+3)*40692).fmod 2147483399*30011).fmod 998244353)))) (some (.pv (.int ((((x+5*n*n+29*n+8)*39373).fmod 2147483587*45989).fmod 1000000009)))) (h.set _) (by simp;omega) (by omega)
   refine⟨acc',w2,w3,w4,w5,w6,?_,q⟩;rw[qy]at e;rw[<-e];show dA [] _ _ (.tup [.int n,.int x]::jO (n+1) (cs.map .int)) _ S=_;rw[gW];simp! [gT,cG,eB,gN,aE,aX,aY,aK,aP,aQ,aO,aR,aH,aN,Cv,c,gO,fH,lJ,h',hlen,mX _ hk1 hk2,mX _ (show-(2^64)<(48271:Int) by decide) (by decide),mX _ (show-(2^64)<(40692:Int) by decide) (by decide),mX _ (show-(2^64)<(39373:Int) by decide) (by decide),mX _ (show-(2^64)<(52021:Int) by decide) (by decide),mX _ (show-(2^64)<(30011:Int) by decide) (by decide),mX _ (show-(2^64)<(45989:Int) by decide) (by decide),mX _ (show-(2^64)<(998244353:Int) by decide) (by decide),mX _ (show-(2^64)<(1000000009:Int) by decide) (by decide),fU (show(2147483647:Int)≠0 by decide),fU (show(2147483399:Int)≠0 by decide),fU (show(2147483587:Int)≠0 by decide),fU (show(1000000007:Int)≠0 by decide),fU (show(998244353:Int)≠0 by decide),fU (show(1000000009:Int)≠0 by decide)]
theorem acQ(ns:FI)(S:aI)(h:ns.length<=63):∃ms:FI,tT [.pv (.lst (ns.map .int))] S=.ok (.ref S.length) (S++[.lst (ms.map .int)])/\ms.length<=63:=by
 have hr:iN (S++[.lst []]) S.length []:=by unfold iN;simp
 obtain⟨ms,w2,w3,w4,w5,w6,e,q⟩:=Lb (a:=.pv (.lst (ns.map .int))) ns 0 [] (S++[.lst []]) none none none none none hr (by simpa using h) (by simpa using h);have ec:kD (ns.map .int) none (some 63)=ns.map .int:=by
  unfold kD;have e1:HT.sIx (ns.map PV.int).length 0 none=0:=rfl;have e2:HT.sIx (ns.map PV.int).length (ns.map PV.int).length (some 63)=(ns.map PV.int).length:=by
   have:=HT.sIx_nat (ns.map PV.int).length (ns.map PV.int).length 63;rw[show((63:Nat):Int)=63 from rfl]at this;rw[this,aw];omega
  rw[e1,e2,DX,Nat.sub_zero,l7]
 refine⟨ms,?_,q⟩;have es:(S++[SO.lst []]).set S.length (.lst (ms.map .int))=S++[.lst (ms.map .int)]:=by simp
 rw[es]at e;unfold tT aZ Jd;simp! [aE,aX,aY,aK,aP,aQ,aO,aR,aH,aN,cX,gF,lH,yB,gL,eN,fK,kQ,lU,Fd,ec,e]
theorem aaz{L:FI}(h:gl L 0≠0):(low L).map (gl L 0*·)=L:=by
 unfold low;rw[if_neg h,ff]
 conv=>rhs;rw[<-xh L]
 refine ij λn hn=>?_;show gl L 0*(n/gl L 0)=n;exact Int.mul_ediv_cancel' ((kO L 0).2 n hn)
theorem aaL{L:FI}(h:gl L 0=1):low L=L:=by
 unfold low;rw[h,if_neg (by decide)]
 conv=>rhs;rw[<-xh L]
 exact ij λn _=>Int.ediv_one n
theorem Yl(S:aI)(v2:FV):∀(ns:FI)(g:Int)(a:AV),∃v',dA [] (gN 2) (aU 1 (bA qS [] (aD (aB 1) (aD (aB 2) aF)))) (ns.map .int) [some a,some (.pv (.int g)),v2] S=.nx [some a,some (.pv (.int (gl ns g))),v'] S
 |[],g,a=>⟨v2,iA⟩
 |n::ns,g,a=>by
  obtain⟨v',e⟩:=Yl S (some (.pv (.int n))) ns (bi g n:Nat) a;refine⟨v',?_⟩;show dA [] _ _ (.int n::ns.map .int) _ S=_;rw[gW];simp! [gN,aE,aX,aY,aK,aP,aQ,aO,aR,aH,aN,Ki];exact e
theorem Pi(ns:FI)(S:aI)(hb:∀n∈ns,Bd 8000 n)(h:gl ns 0≠0):pF [.pv (.lst (ns.map .int))] S=.ok (.pv (.lst ((low ns).map .int))) S:=by
 obtain⟨v',e⟩:=Yl S none ns 0 (.pv (.lst (ns.map .int)));have el:low ns=ns.map λn=>n.fdiv (gl ns 0):=by
  unfold low;rw[if_neg h];exact ij λn hn=>(uj ((kO ns 0).2 n hn)).symm
 have bg:Bd 8000 (gl ns 0):=Ie (Bd.of  (by simp) (yj 8000)) hb;have ec:=Rb S _ h bg ns none;unfold pF aZ Na;simp! [aX,aK,aP,aQ,aR,aN,cX,bP,cH,e,h,el,bH,cD,ec]
theorem Ll(S:aI)(b:Int):∀(ns:FI)(x:FV),bX [] (gN 0) (aC aV (bA rR [] (aD (aB 1) aF)) (aB 0)) (ns.map .int) [x,some (.pv (.int b))] S=.ok ((ns.map (sg b*·)).map .int) S
 |[],x=>fD
 |n::ns,x=>by
  have ih:=Ll S b ns (some (.pv (.int n)));have hm:aV (.int (sg b)) (.int n)=some (.int (sg b*n)):=iB (.inl (.inl (K7 b)));show bX [] _ _ (.int n::ns.map .int) _ S=_;rw[fR];simp! [gN,aE,aX,aY,aK,aP,aQ,aO,aR,aH,aN,Jo,hm,ih]
theorem E8(zs:FI)(z:Int):kD ((zs++[z]).map .int) none (some (-1))=zs.map .int:=by
 unfold kD;have e1:HT.sIx ((zs++[z]).map PV.int).length 0 none=0:=rfl;have e2:HT.sIx ((zs++[z]).map PV.int).length ((zs++[z]).map PV.int).length (some (-1))=zs.length:=by
  rw[aw,cx];exact Bm _ _
 rw[e1,e2];simp
theorem Az(zs:FI)(z:Int):¬(HT.sIx ((zs++[z]).map PV.int).length 0 none=0/\HT.sIx ((zs++[z]).map PV.int).length ((zs++[z]).map PV.int).length (some (-1))=((zs++[z]).map PV.int).length):=by
 rintro⟨_,e⟩
 have e2:HT.sIx ((zs++[z]).map PV.int).length ((zs++[z]).map PV.int).length (some (-1))=zs.length:=by
  rw[aw,cx];exact Bm _ _
 rw[e2,aw]at e;simp at e
theorem Um(zs:FI)(z:Int):lU (.tup ((zs++[z]).map .int)) none (some (-1))=some (.tup (zs.map .int)):=by
 unfold lU;dsimp only;rw[if_neg (Az zs z),E8]
theorem qY(zs:FI)(z:Int):aE (.tup ((zs++[z]).map .int)) (.int (-1))=some (.int z):=by
 show aX ((zs++[z]).map PV.int) (-1)=_;rw[ik];exact K8 _ _
theorem uZ{m:Int}(h0:0<=m)(h:m<1024):Bd 8000 m:=Bd.of (n:=1023) (by omega) (fg (show 1023<2^10 by decide) (wv (by decide) (by decide)))
theorem bQ(n:Nat)(a b:Int):aK n (.int a) (.int b)=some (a==b):=by cases n<;>rfl
theorem mB{a b:Int}(h:Bd 2000 a)(g:Bd 2000 b):aV (.int a) (.int b)=some (.int (a*b)):=iB (.inr ⟨h.mono (by decide),g.mono (by decide)⟩)
structure Pt(n:Nat)(xs:FI)(w:Int):Prop where
 len:xs.length=n
 pos:0<w
 low:low (xs++[w])=xs++[w]
 bx:∀x∈xs,Bd 300 x
 bw:Bd 300 w
noncomputable def mv(way:Int)(xs:FI)(w:Int)(ys:FI)(v:Int):FI:=if way=1 then low (sm xs w ys v++[w*v])else low (sm ys v (xs.map (- ·)) w++[v*w])
theorem xR(zs:FI)(z:Int)(j:Nat)(h:j<zs.length):aE (.tup ((zs++[z]).map .int)) (.int (j:Nat))=some (.int (zs.getD j 0)):=by
 show aX ((zs++[z]).map PV.int) (j:Int)=_;refine rJ ?_;rw[cq,ib h,bf h];simp[cg,h]
theorem Tp(S:aI)(PL QL:FS)(xs ys:FI)(w v way:Int)(hp:aE (.tup PL) (.int (-1))=some (.int w))(hq:aE (.tup QL) (.int (-1))=some (.int v))(hpj:∀j:Nat,j<xs.length->aE (.tup PL) (.int (j:Nat))=some (.int (xs.getD j 0)))(hqj:∀j:Nat,j<xs.length->aE (.tup QL) (.int (j:Nat))=some (.int (ys.getD j 0)))
  (hway:way=1\/way=-1)(bw:Bd 1000 w)(bv:Bd 1000 v)(hx:∀j,Bd 1000 (xs.getD j 0))(hy:∀j,Bd 1000 (ys.getD j 0)):∀(js:List Nat)(x:FV),(∀j∈js,j<xs.length)->
  bX [] (gN 0) (aC aH (aC aV (aC aV (aB 1) (aC aE (aB 3) (aB 0))) (aC aE (aB 2) (bV dL (mC (.int 1))))) (aC aV (aC aE (aB 2) (aB 0)) (aC aE (aB 3) (bV dL (mC (.int 1)))))) (js.map λj=>.int (0+(j:Nat))) [x,some (.pv (.int way)),some (.pv (.tup QL)),some (.pv (.tup PL))] S=.ok ((js.map λj=>way*xs.getD j 0*v+ys.getD j 0*w).map .int) S
 |[],x,_=>fD
 |j::js,x,h=>by
  have ih:=Tp S PL QL xs ys w v way hp hq hpj hqj hway bw bv hx hy js (some (.pv (.int (0+(j:Nat))))) λi hi=>h i (cj _ hi);have e1:=hpj j (h j ce);have e2:=hqj j (h j ce);have b1:Bd 2 way:=by rcases hway with rfl |rfl<;>exact Bd.of (n:=1) (by decide) (by decide)
  have m0:=mB (b1.mono (show 2<=2000 by decide)) ((hx j).mono (show 1000<=2000 by decide));have m1:=mB ((b1.mul (hx j)).mono (show 2+1000<=2000 by decide)) (bv.mono (show 1000<=2000 by decide));have m2:=mB ((hy j).mono (show 1000<=2000 by decide)) (bw.mono (show 1000<=2000 by decide));show bX [] _ _ (.int (0+(j:Nat))::js.map λj=>.int (0+(j:Nat))) _ S=_;rw[fR];simp only[xb]at ih⊢;generalize hX:xs.getD j 0=X at e1 m0 m1;generalize hY:ys.getD j 0=Y at e2 m2;simp! [gN,bQ,aP,aQ,aO,aR,aH,aN,e1,e2,hp,hq,m0,m1,m2,ih];simp only[yk]at hX hY;rw[hX,hY]
theorem wZ{xs:FI}{k:Nat}(h:∀x∈xs,Bd k x)(j:Nat):Bd k (xs.getD j 0):=by
 by_cases hj:j<xs.length
 .have e:xs.getD j 0=xs[j]:=by simp[cg,hj]
  rw[e];exact h _ (jm hj)
 .have e:xs.getD j 0=0:=by simp[cg,hj]
  rw[e];exact Bd.of (n:=0) (by decide) (yj k)
theorem Jk{xs ys:FI}(hl:xs.length=ys.length)(f:Int->Int->Int):(ci xs.length).map (λj=>f (xs.getD j 0) (ys.getD j 0))=dh f xs ys:=by
 refine uo (by simp[hl]) λi h1 h2=>?_;have hi:=by simpa using h1
 simp_all
theorem Xz{xs ys:FI}{w v way:Int}(S:aI)(hl:xs.length=ys.length)(h9:xs.length<=9)(hway:way=1\/way=-1)(hx:∀x∈xs,Bd 1000 x)(hy:∀y∈ys,Bd 1000 y)(bw:Bd 1000 w)(bv:Bd 1000 v):
  nS [.pv (.tup ((xs++[w]).map .int)),.pv (.tup ((ys++[v]).map .int)),.pv (.int way)] S=.ok (.pv (.tup ((low (dh (λx y=>way*x*v+y*w) xs ys++[w*v])).map .int))) S:=by
 have ip:=qY xs w;have iq:=qY ys v;have ec:=Tp S _ _ xs ys w v way ip iq (λj h=>xR xs w j h) (λj h=>xR ys v j (by omega)) hway bw bv (wZ hx) (wZ hy) (ci xs.length) none λj hj=>by simpa using hj
 have er:(ci xs.length).map (λj=>way*xs.getD j 0*v+ys.getD j 0*w)=dh (λx y=>way*x*v+y*w) xs ys:=Jk hl λx y=>way*x*v+y*w;rw[er]at ec;have mm:=mB (bw.mono (show 1000<=2000 by decide)) (bv.mono (show 1000<=2000 by decide));have b1:Bd 2 way:=by rcases hway with rfl |rfl<;>exact Bd.of (n:=1) (by decide) (by decide)
 have el:=qU (dh (λx y=>way*x*v+y*w) xs ys++[w*v]) S (λn hn=>by
  rcases dk.mp hn with z |z
  .obtain⟨i,hi,e⟩:=uq z
   rw[t7]at e;rw[<-e];exact((((b1.mul (hx _ (jm _))).mul bv).mono (show 2+1000+1000<=3000 by decide)).add (((hy _ (jm _)).mul bw).mono (show 1000+1000<=3000 by decide))).mono (by decide)
  .have:n=w*v:=by simpa using z
   rw[this];exact(bw.mul bv).mono (by decide))
 have hlen:((xs++[w]).map PV.int).length=xs.length+1:=by simp
 have hz:xs.length+1<=16777216:=by omega
 have hr:kT [.pv (.int (((xs.length+1:Nat):Int)-1))] S=.ok ((ci xs.length).map λj=>.int (0+(j:Nat)),[]) S:=by
  unfold kT;dsimp only;rw[if_pos ⟨by omega,by omega⟩];have:(((xs.length+1:Nat):Int)-1).toNat=xs.length:=by omega
  rw[this];rfl
 have hzl:(dh (λx y=>way*x*v+y*w) xs ys).length+1<=16777216:=by rw[lq];omega
 simp only[ik,cf,ig]at el;generalize hZ:(dh (λx y=>way*x*v+y*w) xs ys).map PV.int=ZL at ec el;have hzl2:ZL.length+1<=16777216:=by rw[<-hZ,aw];exact hzl
 generalize (ci xs.length).map (λj=>PV.int (0+(j:Nat)))=RL at ec hr;generalize hP:(xs++[w]).map PV.int=PL at ip ec hlen;generalize (ys++[v]).map PV.int=QL at iq ec;unfold nS aZ Oa;have hr2:=hr;rw[<-hlen]at hr2;simp! [bQ,aP,aQ,aO,aR,aH,aN,bH,eJ,hr2,cD,ec,ip,iq,mm,hzl2,el]
theorem Hn{W:Int}(W0:0<=W)(W1:W<=1000000000000):∀(is:FS)(S:aI)(ns:FI)(x:FV),iN S k ns->∃(xs ns':FI),bX [] (gN 0) (aC eP (bA fT [] (aD (aB 2) (aD (aC aH (aC aV (mC (.int 2)) (aB 1)) (mC (.int 1))) aF))) (aB 1)) is [x,some (.pv (.int W)),some (.ref k)] S=.ok (xs.map .int) (S.set k (.lst (ns'.map .int)))/\xs.length=is.length/\∀n∈xs,Bd 50 n
 |[],S,ns,x,h=>by
  refine⟨[],ns,?_,rfl,λ_ h=>absurd h iu⟩;have e:S.set k (.lst (ns.map .int))=S:=mf λj=>by
   by_cases q:k=j
   .subst q;rw[jq h.lt];exact h.symm
   .rw[jy q]
  rw[e];exact fD
 |i::is,S,ns,x,h=>by
  obtain⟨t,n1,e1,t0,t1,_⟩:=rE (m:=2*W+1) h (by omega) ((Bd.of (k:=50) (n:=2000000000001) (by omega) (by decide)).mono (by decide));obtain⟨xs,n2,e2,l2,b2⟩:=Hn W0 W1 is _ n1 (some (.pv i)) (h.set n1);rw[qy]at e2;have m2:aV (.int 2) (.int W)=some (.int (2*W)):=iB (.inl (.inl ⟨by decide,by decide⟩));refine⟨(t-W)::xs,n2,?_,by simp[l2],λn hn=>?_⟩
  .rw[fR]
   simp! [gN,aE,aX,aY,aK,aP,aQ,aO,aR,aH,aN,m2,e1,e2]
  .rcases cr.mp hn with rfl |hn
   .exact Bd.of (n:=1000000000000) (by omega) (by decide)
   .exact b2 n hn
theorem ad3(h0:0<=v)(h1:v<4):∃M:Int,aE (.lst [.int 0,.int 3,.int 9,.int 1000000000000]) (.int v)=some (.int M)/\0<=M/\M<=1000000000000:=by
 have c:v=0\/v=1\/v=2\/v=3:=by omega
 rcases c with rfl |rfl |rfl |rfl
 .exact⟨0,rfl,by decide,by decide⟩
 .exact⟨3,rfl,by decide,by decide⟩
 .exact⟨9,rfl,by decide,by decide⟩
 .exact⟨1000000000000,rfl,by decide,by decide⟩
theorem p12:jG (.int 10) (.int 12)=some (.int 1000000000000):=wV (i:=10) (j:=12) ⟨by decide,by decide,by decide⟩
theorem aee{v:Int}(h0:0<=v)(h1:v<4):0<=v.fdiv 2/\v.fdiv 2<=1:=by
 have c:v=0\/v=1\/v=2\/v=3:=by omega
 rcases c with rfl |rfl |rfl |rfl<;>decide
theorem aco{n k:Nat}{L:FI}{b:Int}(hb:0<b)(hl:L.length=n)(hk:k<=300)(hL:∀x∈L,Bd k x)(bb:Bd k b):∃(zs:FI)(z:Int),low (L++[b])=zs++[z]/\Pt n zs z/\(∀x∈zs,Bd k x)/\Bd k z:=by
 obtain⟨zs,z,g,e,hg,hz,_,_,hzl⟩:=xQ L hb;have hbd:=xE (k:=k) (ns:=L++[b]) λm hm=>by
  rcases dk.mp hm with y |y
  .exact hL m y
  .have:m=b:=by simpa using y
   rw[this];exact bb
 have hlow:=Vc L hb;rw[e]at hbd hlow;have b1:∀x∈zs,Bd k x:=λx hx=>hbd x (ng _ hx);have b2:Bd k z:=hbd z (nU zs z);exact⟨zs,z,e,⟨hzl.trans hl,hz,hlow,λx hx=>(b1 x hx).mono hk,b2.mono hk⟩,b1,b2⟩
theorem ab9{S:aI}{k:Nat}{ns:FI}(n:Nat)(hn:n=2\/n=3)(h:iN S k ns):∃(xs:FI)(w:Int)(ns':FI),oA [.ref k,.pv (.int n)] S=.ok (.pv (.tup ((xs++[w]).map .int))) (S.set k (.lst (ns'.map .int)))/\Pt n xs w/\(∀x∈xs,Bd 100 x)/\Bd 100 w:=by
 obtain⟨c,n1,e1,c0,c1,_⟩:=rE (m:=4) h (by decide) (uZ (by decide) (by decide));obtain⟨M,em,M0,M1⟩:=ad3 c0 c1;obtain⟨t,n2,e2,t0,t1,_⟩:=rE (m:=9) (h.set n1) (by decide) (uZ (by decide) (by decide));rw[qy]at e2;obtain⟨xs,n3,e3,l3,b3⟩:=Hn M0 M1 (eU 0 n) _ n2 none (h.set n2);rw[qy]at e3;have hc:=aee c0 c1;have mt:aV (.int t) (.int (c.fdiv 2))=some (.int (t*c.fdiv 2)):=iB (.inl (.inl ⟨by omega,by omega⟩));have qt:dI (.int c) (.int 2)=some (.int (c.fdiv 2)):=mD ⟨by decide,uZ (by decide) (by decide)⟩;have hm:0<=t*c.fdiv 2/\t*c.fdiv 2<=8:=by
  grind
 have lx:xs.length=n:=by rw[l3];unfold eU;simp
 generalize t*c.fdiv 2=tc at mt hm;obtain⟨zs,z,ez,P,b1,b2⟩:=aco (n:=n) (k:=100) (L:=xs) (b:=1+tc) (by omega) lx (by decide) (λx hx=>(b3 x hx).mono (by decide)) (Bd.of (n:=9) (by omega) (by decide));have el:=qU (xs++[1+tc]) (S.set k (.lst (n3.map .int))) (λm hm=>by
  rcases dk.mp hm with y |y
  .exact(b3 m y).mono (by decide)
  .have:m=1+tc:=by simpa using y
   rw[this];exact(Bd.of (k:=4) (n:=9) (by omega) (by decide)).mono (by decide))
 rw[ez]at el;refine⟨zs,z,n3,?_,P,b1,b2⟩;have tk3:=Jm S k (.lst (n3.map .int));have hz:xs.length+1<=16777216:=by omega
 generalize S.set k (.lst (n2.map .int))=S2 at e2 e3;have hr:kT [.pv (.int (n:Int))] S2=.ok (eU 0 n,[]) S2:=by
  unfold kT;dsimp only;rw[if_pos ⟨by omega,by omega⟩];rfl
 conv at el=>lhs;rw[ik]
 simp only[cf,ig]at el;generalize (zs++[z]).map PV.int=ZL at el;unfold oA aZ Nd;simp! [bQ,aP,aQ,aO,aR,aH,aN,p12,e1,em,e2,mt,qt,bH,eJ,hr,cD,e3,hz,el,tk3]
theorem Pj{way:Int}(h:way=1\/way=-1)(xs:FI)(w:Int)(ys:FI)(v:Int):low (dh (λx y=>way*x*v+y*w) xs ys++[w*v])=mv way xs w ys v:=by
 unfold mv;rcases h with rfl |rfl
 .rw[if_pos rfl,Ey]
 .rw[if_neg (by decide),Ax,ga w v]
structure Pq(n k:Nat)(xs:FI)(w:Int):Prop where
 len:xs.length=n
 pos:0<w
 low:low (xs++[w])=xs++[w]
 bx:∀x∈xs,Bd k x
 bw:Bd k w
noncomputable def Vl(n:Nat)(xs:FI)(w:Int)(N:Nat->Int)(D:Int):Prop:=∀j,j<n->xs.getD j 0*D=N j*w
theorem Vl.self(n:Nat)(xs:FI)(w:Int):Vl n xs w (λj=>xs.getD j 0) w:=λ_ _=>rfl
theorem xL{a b c:Int}(h:0<c)(e:a*c=b*c):a=b:=yl (by omega) e
theorem aa8{xs ys:FI}{f:Int->Int->Int}{j:Nat}(h1:j<xs.length)(h2:j<ys.length):(dh f xs ys).getD j 0=f (xs.getD j 0) (ys.getD j 0):=by
 have:j<(dh f xs ys).length:=by rw[lq];omega
 simp only[cg,bf this,bf h1,bf h2,xx,t7]
theorem adG{n k l:Nat}{way:Int}{xs ys:FI}{w v:Int}(hway:way=1\/way=-1)(P:Pq n k xs w)(Q:Pq n l ys v):∃(zs:FI)(z:Int),mv way xs w ys v=zs++[z]/\Pq n (k+l+1) zs z/\
  ∀(N M:Nat->Int)(D E:Int),Vl n xs w N D->Vl n ys v M E->0<D->0<E->Vl n zs z (λj=>way*N j*E+M j*D) (D*E):=by
 rw[<-Pj hway];have hb:=az P.pos Q.pos;have hl:(dh (λx y=>way*x*v+y*w) xs ys).length=n:=by rw[lq,P.len,Q.len];omega
 obtain⟨zs,z,g,e,hg,hz,g1,g2,hzl⟩:=xQ (dh (λx y=>way*x*v+y*w) xs ys) hb;have hlow:=Vc (dh (λx y=>way*x*v+y*w) xs ys) hb;have hbd:=xE (k:=k+l+1) (ns:=dh (λx y=>way*x*v+y*w) xs ys++[w*v]) λm hm=>by
  rcases dk.mp hm with y |y
  .obtain⟨i,hi,e⟩:=uq y
   rw[t7]at e;rw[<-e];have b1:=(P.bx _ (jm (l:=xs) (n:=i) (by rw[lq]at hi;omega))).mul Q.bw;have b2:=(Q.bx _ (jm (l:=ys) (n:=i) (by rw[lq]at hi;omega))).mul P.bw;have b3:Bd (k+l) (way*xs[i]'(by rw[lq]at hi;omega)*v):=by
    rcases hway with rfl |rfl
    .rw[jd];exact b1
    .have:(-1:Int)*xs[i]'(by rw[lq]at hi;omega)*v=-(xs[i]'(by rw[lq]at hi;omega)*v):=by rw[kr,jd,kr]
     rw[this];exact b1.neg
   exact b3.add (b2.mono (by omega))
  .have:m=w*v:=by simpa using y
   rw[this];exact(P.bw.mul Q.bw).mono (by omega)
 rw[e]at hbd hlow;refine⟨zs,z,e,⟨hzl.trans hl,hz,hlow,λx hx=>hbd x (ng _ hx),hbd z (nU zs z)⟩,λN M D E a b hD hE j hj=>?_⟩;have h1:(dh (λx y=>way*x*v+y*w) xs ys).getD j 0=g*zs.getD j 0:=by
  rw[g1];have:j<zs.length:=by rw[hzl,hl];exact hj
  simp[cg,this]
 rw[aa8 (by rw[P.len];exact hj) (by rw[Q.len];exact hj)]at h1;have a1:=a j hj;have b1:=b j hj;generalize xs.getD j 0=X at a1 h1;generalize ys.getD j 0=Y at b1 h1;generalize zs.getD j 0=Z at h1⊢;show Z*(D*E)=(way*N j*E+M j*D)*z;generalize M j=B,N j=A at *;refine xL (c:=g*(w*v)) (az hg hb) ?_;have p1:=P.pos;have p2:=Q.pos;have k1:(way*X*v+Y*w)*(D*E)=(way*A*E+B*D)*(w*v):=by grind
 have k2:Z*(D*E)*(g*(w*v))=(way*X*v+Y*w)*(D*E)*(w*v):=by rw[h1];grind
 rw[k2,k1,g2];grind
theorem Pt.pq{n k:Nat}{xs:FI}{w:Int}(P:Pt n xs w)(b:∀x∈xs,Bd k x)(bw:Bd k w):Pq n k xs w:=⟨P.len,P.pos,P.low,b,bw⟩
theorem Pq.mono{xs:FI}{w:Int}(P:Pq n k xs w)(h:k<=l):Pq n l xs w:=⟨P.len,P.pos,P.low,λx hx=>(P.bx x hx).mono h,P.bw.mono h⟩
theorem X4{way:Int}{xs ys:FI}{w v:Int}(S:aI)(hn:n=2\/n=3)(hway:way=1\/way=-1)(P:Pq n k xs w)(Q:Pq n l ys v)(hk:k<=1000)(hl:l<=1000):nS [.pv (.tup ((xs++[w]).map .int)),.pv (.tup ((ys++[v]).map .int)),.pv (.int way)] S=.ok (.pv (.tup ((mv way xs w ys v).map .int))) S:=by
 have e:=Xz  S (P.len.trans Q.len.symm) (by rw[P.len];omega) hway (λx hx=>(P.bx x hx).mono hk) (λx hx=>(Q.bx x hx).mono hl) (P.bw.mono hk) (Q.bw.mono hl);rw[Pj hway]at e;exact e
theorem Kp(t b:Int)(S:aI)(ht:Bd 8000 t)(hb:Bd 8000 b):pJ [.pv (.int t),.pv (.int b)] S=.ok (.pv (.tup ((fr t b).map .int))) S:=by
 unfold pJ aZ Wc fr;have e1:=qU [0-t,0-b] S (by
  intro n hn;rcases cr.mp hn with rfl |hn
  .rw[jw];exact ht.neg
  .have:n=0-b:=by simpa using hn
   rw[this,jw];exact hb.neg)
 have e2:=qU [t,b] S (by
  intro n hn;rcases cr.mp hn with rfl |hn
  .exact ht
  .have:n=b:=by simpa using hn
   rw[this];exact hb)
 by_cases h:b<0
 .simp only[cf,ig,jw]at e1
  simp! [aE,aX,aY,aK,aP,aQ,aO,aR,aH,aN,h,e1]
 .simp only[cf,ig]at e2
  simp! [aE,aX,aY,aK,aP,aQ,aO,aR,aH,aN,h,e2]
theorem vQ(t b:Int)(S:aI)(ht:Bd 7000 t)(hb:Bd 7000 b)(h:b≠0):kZ [.pv (.int t),.pv (.int b)] S=.ok (.pv (.tup ((fr t b).map .int))) S:=by
 have gb:Bd 7000 ((bi t b:Nat):Int):=ht.gcd hb;have sb:Bd 2 (sg b):=by
  unfold sg;split
  .unfold Bd;simp
  .split<;>(unfold Bd;simp)
 have mb:pR (sg b) (bi t b:Nat):=.inr ⟨sb.mono (by decide),gb.mono (by decide)⟩;have nz:sg b*(bi t b:Nat)≠0:=by
  have gp:=uB (kB t b) h;rw[rL]at gp;rcases Pm h with⟨_,s⟩|⟨_,s⟩<;>rw[s]<;>omega
 have qb:∀x,pP x (sg b*(bi t b:Nat)):=λx=>⟨nz,(sb.mul gb).mono (by decide)⟩;rw[<-Ez h];unfold kZ aZ zX;simp! [aE,aX,aY,aK,aP,aQ,aO,aR,aH,aN,h,Jo,Ki,iB mb,mD (qb t),mD (qb b)]
theorem sV:∀is:FI,fV (is.map .int)=some is
 |[]=>rfl
 |i::is=>by
  have ih:=sV is;show(match fV (is.map .int)with |some bs=>some (i::bs) |none=>none)=_
  rw[ih]
theorem Pk(is:FI):lL [.lst (is.map .int)]=some (.int is.sum):=by
 simp only[lL,sV,DT]
noncomputable def wa(xs:FI)(w:Int)(ys:FI)(v:Int):FI:=dh (λx y=>y*w-x*v) xs ys
theorem Wn(S:aI)(PL QL:FS)(w v:Int)(hp:aE (.tup PL) (.int (-1))=some (.int w))(hq:aE (.tup QL) (.int (-1))=some (.int v))(bw:Bd 2000 w)(bv:Bd 2000 v):∀(xs ys:FI)(x y:FV),xs.length=ys.length->(∀x∈xs,Bd 2000 x)->(∀y∈ys,Bd 2000 y)->
  bX [] (gT 2 (cG (gN 0) (cG (gN 1) eB))) (aC eP (aC aV (aB 1) (aC aE (aB 2) (bV dL (mC (.int 1))))) (aC aV (aB 0) (aC aE (aB 3) (bV dL (mC (.int 1)))))) (eX (xs.map .int) (ys.map .int)) [x,y,some (.pv (.tup PL)),some (.pv (.tup QL))] S=.ok ((wa xs w ys v).map .int) S
 |[],ys,x,y,hl,_,_=>by
  exact fD
 |a::xs,[],x,y,hl,_,_=>by cases hl
 |a::xs,b::ys,x,y,hl,hx,hy=>by
  have ih:=Wn S PL QL w v hp hq bw bv xs ys (some (.pv (.int a))) (some (.pv (.int b))) (by simpa using hl) (λm hm=>hx m (cj _ hm)) (λm hm=>hy m (cj _ hm));have m1:=mB (hx a ce) bv;have m2:=mB (hy b ce) bw;show bX [] _ _ (.tup _::eX _ _) _ S=_;rw[fR];simp! [gT,cG,eB,gN,aN,hp,hq,m1,m2,ih,wa]
theorem C4{xs ys:FI}{w v:Int}(S:aI)(hl:xs.length=ys.length)(hx:∀x∈xs,Bd 2000 x)(hy:∀y∈ys,Bd 2000 y)(bw:Bd 2000 w)(bv:Bd 2000 v):
  jL [.pv (.tup ((xs++[w]).map .int)),.pv (.tup ((ys++[v]).map .int))] S=.ok (.pv (.lst ((wa xs w ys v).map .int))) S:=by
 have ip:=qY xs w;have iq:=qY ys v;have sp:=Um xs w;have sq:=Um ys v;have ec:=Wn S _ _ w v ip iq bw bv xs ys none none hl hx hy;generalize (xs++[w]).map _=PL at ip sp ec;generalize (ys++[v]).map _=QL at iq sq ec;unfold jL aZ zP;simp! [bQ,aP,aQ,aO,aN,bH,iV,mU,cH,gL,eN,fK,kQ,sp,sq,cD,ec]
theorem Nm(S:aI):∀(us vs:FI)(x y:FV),(∀x∈us,Bd 100000 x)->(∀y∈vs,Bd 100000 y)->
  bX [] (gT 2 (cG (gN 0) (cG (gN 1) eB))) (aC aV (aB 0) (aB 1)) (eX (us.map .int) (vs.map .int)) [x,y] S=.ok ((dh (·*·) us vs).map .int) S
 |[],vs,x,y,_,_=>by
  show bX [] _ _ [] _ S=_;exact fD
 |a::us,[],x,y,_,_=>by
  show bX [] _ _ [] _ S=_;exact fD
 |a::us,b::vs,x,y,hx,hy=>by
  have ih:=Nm S us vs (some (.pv (.int a))) (some (.pv (.int b))) (λm hm=>hx m (cj _ hm)) (λm hm=>hy m (cj _ hm));have m1:aV (.int a) (.int b)=some (.int (a*b)):=iB (.inr ⟨(hx a ce).mono (by decide),(hy b ce).mono (by decide)⟩);show bX [] _ _ (.tup [.int a,.int b]::eX (us.map .int) (vs.map .int)) _ S=_;rw[fR];simp! [gT,cG,eB,gN,bQ,aP,aQ,aO,aR,aH,aN,m1,ih]
noncomputable def dt(us vs:FI):Int:=(dh (·*·) us vs).sum
noncomputable def Sq(A:PV)(us:FI):Prop:=A=.lst (us.map .int)\/A=.tup (us.map .int)
theorem aaw{A B:PV}{us vs:FI}(S:aI)(hA:Sq A us)(hB:Sq B vs)(hx:∀x∈us,Bd 100000 x)(hy:∀y∈vs,Bd 100000 y):xM [.pv A,.pv B] S=.ok (.pv (.int (dt us vs))) S:=by
 have ec:=Nm S us vs none none hx hy;have es:=Pk (dh (·*·) us vs);unfold dt;generalize (dh (·*·) us vs).map PV.int=ZL at ec es;generalize (dh (·*·) us vs).sum=Z at es;unfold xM aZ Wd;rcases hA with rfl |rfl<;>rcases hB with rfl |rfl<;>
  (generalize us.map PV.int=UL at ec⊢;generalize vs.map PV.int=VL at ec⊢;simp! [bQ,aP,aQ,aO,aR,aH,aN,bH,iV,mU,cH,cD,ec,es])
theorem jJ{k l:Nat}{a b:Int}(h:Bd k a)(g:Bd l b)(hk:k<=1000000:=by decide)(hl:l<=1000000:=by decide):aV (.int a) (.int b)=some (.int (a*b)):=iB (.inr ⟨h.mono hk,g.mono hl⟩)
theorem Yn(S:aI)(ha:Bd 10000 a)(hb:Bd 10000 b)(hc:Bd 10000 c)(hd:Bd 10000 d)(he:Bd 10000 e)(hf:Bd 10000 f):qZ [.pv (.lst [.lst [.int a,.int b,.int c],.lst [.int d,.int e,.int f]])] S=.ok (.pv (.lst [.int (b*f-c*e),.int (c*d-a*f),.int (a*e-b*d)])) S:=by
 have m1:=jJ hb hf;have m2:=jJ hc he;have m3:=jJ hc hd;have m4:=jJ ha hf;have m5:=jJ ha he;have m6:=jJ hb hd;unfold qZ aZ Hb;simp! [aE,aX,aY,aK,aP,aQ,aO,aR,aH,aN,m1,m2,m3,m4,m5,m6]
theorem O7{A B:PV}{a b c d e f:Int}(S:aI)(hA:A=.lst [.int a,.int b,.int c])(hB:B=.lst [.int d,.int e,.int f])(ha:Bd 10000 a)(hb:Bd 10000 b)(hc:Bd 10000 c)(hd:Bd 10000 d)(he:Bd 10000 e)(hf:Bd 10000 f):wH [.pv A,.pv B] S=.ok (.pv (.lst [.int (b*f-c*e),.int (c*d-a*f),.int (a*e-b*d)])) S:=by
 have m1:=jJ hb hf;have m2:=jJ hc he;have m3:=jJ hc hd;have m4:=jJ ha hf;have m5:=jJ ha he;have m6:=jJ hb hd;unfold wH aZ Gb;subst hA hB;simp! [aE,aX,aY,aK,aP,aQ,aO,aR,aH,aN,m1,m2,m3,m4,m5,m6]
structure P2(x y w:Int):Prop where
 bx:Bd 1000 x
 by_:Bd 1000 y
 bw:Bd 1000 w
 pos:0<w
structure P3(x y z w:Int):Prop where
 bx:Bd 1000 x
 by_:Bd 1000 y
 bz:Bd 1000 z
 bw:Bd 1000 w
 pos:0<w
noncomputable abbrev v2(x y w:Int):PV:=.tup [.int x,.int y,.int w]
noncomputable abbrev v3(x y z w:Int):PV:=.tup [.int x,.int y,.int z,.int w]
noncomputable def Sv(A:PV)(L:FS):Prop:=A=.lst L\/A=.tup L
theorem Bu(p:PV)(L:FS):kD (p::L) (some 1) none=L:=by
 show((p::L).drop 1).take ((p::L).length-1)=L;simp
theorem Ps(p:PV)(L:FS):lU (.lst (p::L)) (some 1) none=some (.lst L):=by
 unfold lU;dsimp only;rw[Bu]
theorem Ve(p:PV)(L:FS):lU (.tup (p::L)) (some 1) none=some (.tup L):=by
 unfold lU;dsimp only;have e1:HT.sIx (p::L).length 0 (some 1)=1:=by
  rw[show(some (1:Int))=some ((1:Nat):Int) from rfl,HT.sIx_nat,bo];omega
 rw[if_neg (by rw[e1];simp),Bu]
theorem acG{x0 y0 z0 w0 x1 y1 z1 w1:Int}(S:aI)(p:P3 x0 y0 z0 w0)(q:P3 x1 y1 z1 w1):jL [.pv (v3 x0 y0 z0 w0),.pv (v3 x1 y1 z1 w1)] S=.ok (.pv (.lst [.int (x1*w0-x0*w1),.int (y1*w0-y0*w1),.int (z1*w0-z0*w1)])) S:=by
 have e:=C4 (xs:=[x0,y0,z0]) (ys:=[x1,y1,z1]) (w:=w0) (v:=w1) S rfl (by simp;exact⟨p.bx.mono (by decide),p.by_.mono (by decide),p.bz.mono (by decide)⟩) (by simp;exact⟨q.bx.mono (by decide),q.by_.mono (by decide),q.bz.mono (by decide)⟩) (p.bw.mono (by decide)) (q.bw.mono (by decide));exact e
theorem sb{x0 w0 x1 w1:Int}(a:Bd 1000 x0)(b:Bd 1000 w0)(c:Bd 1000 x1)(d:Bd 1000 w1):Bd 2001 (x1*w0-x0*w1):=((c.mul b).mono (show 1000+1000<=2000 by decide)).sub ((a.mul d).mono (show 1000+1000<=2000 by decide))
theorem cb{a b c d:Int}(h1:Bd 2001 a)(h2:Bd 2001 b)(h3:Bd 2001 c)(h4:Bd 2001 d):Bd 4003 (a*b-c*d):=((h1.mul h2).mono (show 2001+2001<=4002 by decide)).sub ((h3.mul h4).mono (show 2001+2001<=4002 by decide))
noncomputable def D2(x0 y0 w0 x1 y1 w1 x2 y2 w2:Int):Int:=w0*(x1*y2-y1*x2)-w1*(x0*y2-y0*x2)+w2*(x0*y1-y0*x1)
noncomputable def D3(x0 y0 z0 w0 x1 y1 z1 w1 x2 y2 z2 w2 x3 y3 z3 w3:Int):Int:=
 w0*((y1*z2-z1*y2)*x3+(z1*x2-x1*z2)*y3+(x1*y2-y1*x2)*z3)-w1*((y0*z2-z0*y2)*x3+(z0*x2-x0*z2)*y3+(x0*y2-y0*x2)*z3)
 +w2*((y0*z1-z0*y1)*x3+(z0*x1-x0*z1)*y3+(x0*y1-y0*x1)*z3)-w3*((y0*z1-z0*y1)*x2+(z0*x1-x0*z1)*y2+(x0*y1-y0*x1)*z2)
theorem adE(x0 y0 z0 w0 x1 y1 z1 w1 x2 y2 z2 w2 x3 y3 z3 w3:Int):dt [(y1*w0-y0*w1)*(z2*w0-z0*w2)-(z1*w0-z0*w1)*(y2*w0-y0*w2),(z1*w0-z0*w1)*(x2*w0-x0*w2)-(x1*w0-x0*w1)*(z2*w0-z0*w2),(x1*w0-x0*w1)*(y2*w0-y0*w2)-(y1*w0-y0*w1)*(x2*w0-x0*w2)] [x3*w0-x0*w3,y3*w0-y0*w3,z3*w0-z0*w3]=w0*w0*D3 x0 y0 z0 w0 x1 y1 z1 w1 x2 y2 z2 w2 x3 y3 z3 w3:=by
 simp only[dt,D3,List.zipWith_cons_cons,List.zipWith_nil_left,j9,List.sum_nil];grind
theorem Od{w d:Int}(h:0<w):sg (w*d)=sg d:=by
 unfold sg
 by_cases h1:0<d
 .rw[if_pos (az h h1),if_pos h1]
 .by_cases h2:d<0
  .have:w*d<0:=BJ h h2
   rw[if_neg (by omega),if_pos this,if_neg h1,if_pos h2]
  .have:d=0:=by omega
   subst this;rw[sf]
noncomputable def Gp(n k:Nat)(v:PV):Prop:=∃xs w,v=.tup ((xs++[w]).map .int)/\Pq n k xs w
theorem Gp.two{v:PV}(h:Gp 2 1000 v):∃x y w,v=v2 x y w/\P2 x y w:=by
 obtain⟨xs,w,rfl,P⟩:=h
 match xs,P.len with
 |[x,y],_=>exact⟨x,y,w,rfl,P.bx x (by simp),P.bx y (by simp),P.bw,P.pos⟩
theorem Gp.three{v:PV}(h:Gp 3 1000 v):∃x y z w,v=v3 x y z w/\P3 x y z w:=by
 obtain⟨xs,w,rfl,P⟩:=h
 match xs,P.len with
 |[x,y,z],_=>exact⟨x,y,z,w,rfl,P.bx x (by simp),P.bx y (by simp),P.bx z (by simp),P.bw,P.pos⟩
theorem Gn(S:aI)(PL QL:FS)(xs ys:FI)(w v:Int)(hp:aE (.tup PL) (.int (-1))=some (.int w))(hq:aE (.tup QL) (.int (-1))=some (.int v))(hpj:∀j:Nat,j<xs.length->aE (.tup PL) (.int (j:Nat))=some (.int (xs.getD j 0)))(hqj:∀j:Nat,j<xs.length->aE (.tup QL) (.int (j:Nat))=some (.int (ys.getD j 0)))
  (bw:Bd 1000 w)(bv:Bd 1000 v)(hx:∀j,Bd 1000 (xs.getD j 0))(hy:∀j,Bd 1000 (ys.getD j 0)):∀(js:List Nat)(x:FV),(∀j∈js,j<xs.length)->
  bX [] (gN 0) (aC eP (aC aV (aC aE (aB 1) (aB 0)) (aC aE (aB 2) (bV dL (mC (.int 1))))) (aC aV (aC aE (aB 2) (aB 0)) (aC aE (aB 1) (bV dL (mC (.int 1)))))) (js.map λj=>.int (0+(j:Nat))) [x,some (.pv (.tup QL)),some (.pv (.tup PL))] S=.ok ((js.map λj=>ys.getD j 0*w-xs.getD j 0*v).map .int) S
 |[],x,_=>fD
 |j::js,x,h=>by
  have ih:=Gn S PL QL xs ys w v hp hq hpj hqj bw bv hx hy js (some (.pv (.int (0+(j:Nat))))) λi hi=>h i (cj _ hi);have e1:=hpj j (h j ce);have e2:=hqj j (h j ce);have m1:=mB ((hx j).mono (show 1000<=2000 by decide)) (bv.mono (show 1000<=2000 by decide));have m2:=mB ((hy j).mono (show 1000<=2000 by decide)) (bw.mono (show 1000<=2000 by decide));show bX [] _ _ (.int (0+(j:Nat))::js.map λj=>.int (0+(j:Nat))) _ S=_;rw[fR];simp only[xb]at ih⊢;generalize hX:xs.getD j 0=X at e1 m1;generalize hY:ys.getD j 0=Y at e2 m2;simp! [gN,bQ,aP,aQ,aO,aR,aH,aN,e1,e2,hp,hq,m1,m2,ih];simp only[yk]at hX hY;rw[hX,hY]
theorem Pr{xs ys:FI}{w v:Int}(S:aI)(hl:xs.length=ys.length)(h9:xs.length<=9)(hx:∀x∈xs,Bd 1000 x)(hy:∀y∈ys,Bd 1000 y)(bw:Bd 1000 w)(bv:Bd 1000 v):
  rO [.pv (.tup ((xs++[w]).map .int)),.pv (.tup ((ys++[v]).map .int))] S=.ok (.pv (.lst ((wa xs w ys v).map .int))) S:=by
 have ip:=qY xs w;have iq:=qY ys v;have ec:=Gn S _ _ xs ys w v ip iq (λj h=>xR xs w j h) (λj h=>xR ys v j (by omega)) bw bv (wZ hx) (wZ hy) (ci xs.length) none λj hj=>by simpa using hj
 have er:(ci xs.length).map (λj=>ys.getD j 0*w-xs.getD j 0*v)=wa xs w ys v:=Jk hl λx y=>y*w-x*v;rw[er]at ec;have hlen:((xs++[w]).map PV.int).length=xs.length+1:=by simp
 have hr:kT [.pv (.int (((xs.length+1:Nat):Int)-1))] S=.ok ((ci xs.length).map λj=>.int (0+(j:Nat)),[]) S:=by
  unfold kT;dsimp only;rw[if_pos ⟨by omega,by omega⟩];have:(((xs.length+1:Nat):Int)-1).toNat=xs.length:=by omega
  rw[this];rfl
 generalize (wa xs w ys v).map PV.int=ZL at ec;generalize (ci xs.length).map (λj=>PV.int (0+(j:Nat)))=RL at ec hr;generalize hP:(xs++[w]).map PV.int=PL at ip ec hlen;generalize (ys++[v]).map PV.int=QL at iq ec;unfold rO aZ Kd;have hr2:=hr;rw[<-hlen]at hr2;simp! [bQ,aP,aQ,aO,aR,aH,aN,bH,eJ,hr2,cD,ec]
theorem Xu{x0 y0 w0 x1 y1 w1:Int}(S:aI)(p:P2 x0 y0 w0)(q:P2 x1 y1 w1):rO [.pv (v2 x0 y0 w0),.pv (v2 x1 y1 w1)] S=.ok (.pv (.lst [.int (x1*w0-x0*w1),.int (y1*w0-y0*w1)])) S:=by
 have e:=Pr (xs:=[x0,y0]) (ys:=[x1,y1])   S rfl (by simp) (by simp;exact⟨p.bx,p.by_⟩) (by simp;exact⟨q.bx,q.by_⟩) p.bw q.bw;exact e
theorem Kf{x0 y0 z0 w0 x1 y1 z1 w1:Int}(S:aI)(p:P3 x0 y0 z0 w0)(q:P3 x1 y1 z1 w1):rO [.pv (v3 x0 y0 z0 w0),.pv (v3 x1 y1 z1 w1)] S=.ok (.pv (.lst [.int (x1*w0-x0*w1),.int (y1*w0-y0*w1),.int (z1*w0-z0*w1)])) S:=by
 have e:=Pr (xs:=[x0,y0,z0]) (ys:=[x1,y1,z1]) (w:=w0) (v:=w1) S rfl (by simp) (by simp;exact⟨p.bx,p.by_,p.bz⟩) (by simp;exact⟨q.bx,q.by_,q.bz⟩) p.bw q.bw;exact e
theorem Q8{A:PV}{x0 y0 w0 x1 y1 w1 x2 y2 w2:Int}(S:aI)(hA:Sv A [v2 x0 y0 w0,v2 x1 y1 w1,v2 x2 y2 w2])(p:P2 x0 y0 w0)(q:P2 x1 y1 w1)(r:P2 x2 y2 w2):pK [.pv A] S=.ok (.pv (.int (w0*D2 x0 y0 w0 x1 y1 w1 x2 y2 w2))) S:=by
 have a1:=Xu S p q;have a2:=Xu S p r;have bu:=sb p.bx p.bw q.bx q.bw;have bv:=sb p.by_ p.bw q.by_ q.bw;have bu2:=sb p.bx p.bw r.bx r.bw;have bv2:=sb p.by_ p.bw r.by_ r.bw;have id:(x1*w0-x0*w1)*(y2*w0-y0*w2)-(y1*w0-y0*w1)*(x2*w0-x0*w2)=w0*D2 x0 y0 w0 x1 y1 w1 x2 y2 w2:=by
  unfold D2;grind
 generalize y2*w0-y0*w2=V1,x2*w0-x0*w2=V0,y1*w0-y0*w1=U1,x1*w0-x0*w1=U0,w0*D2 x0 y0 w0 x1 y1 w1 x2 y2 w2=D at *;have m1:=jJ bu bv2;have m2:=jJ bv bu2;generalize v2 x2 y2 w2=R,v2 x1 y1 w1=Q,v2 x0 y0 w0=P at *;have et:rH [.pv (.lst [.lst [.int U0,.int U1],.lst [.int V0,.int V1]])] S=.ok (.pv (.int D)) S:=by
  unfold rH aZ wR;simp! [aE,aX,aY,aK,aP,aQ,aO,aR,aH,aN,m1,m2,id]
 unfold pK aZ xK;rcases hA with rfl |rfl
 .have s1:=Ps P [Q,R]
  simp! [aE,aX,aY,aK,aP,aQ,aO,aR,aH,aN,bH,bP,cH,gL,eN,fK,kQ,s1,cD,fR,fD,gN,a1,a2,et]
 .have s1:=Ve P [Q,R]
  simp! [aE,aX,aY,aK,aP,aQ,aO,aR,aH,aN,bH,bP,cH,gL,eN,fK,kQ,s1,cD,fR,fD,gN,a1,a2,et]
theorem D4{A:PV}{x0 y0 z0 w0 x1 y1 z1 w1 x2 y2 z2 w2 x3 y3 z3 w3:Int}(S:aI)(hA:Sv A [v3 x0 y0 z0 w0,v3 x1 y1 z1 w1,v3 x2 y2 z2 w2,v3 x3 y3 z3 w3])(p:P3 x0 y0 z0 w0)(q:P3 x1 y1 z1 w1)(r:P3 x2 y2 z2 w2)(s:P3 x3 y3 z3 w3):pK [.pv A] S=.ok (.pv (.int (w0*w0*D3 x0 y0 z0 w0 x1 y1 z1 w1 x2 y2 z2 w2 x3 y3 z3 w3))) S:=by
 have a1:=Kf S p q;have a2:=Kf S p r;have a3:=Kf S p s;have b1:=sb p.bx p.bw q.bx q.bw;have b2:=sb p.by_ p.bw q.by_ q.bw;have b3:=sb p.bz p.bw q.bz q.bw;have b4:=sb p.bx p.bw r.bx r.bw;have b5:=sb p.by_ p.bw r.by_ r.bw;have b6:=sb p.bz p.bw r.bz r.bw;have b7:=sb p.bx p.bw s.bx s.bw;have b8:=sb p.by_ p.bw s.by_ s.bw;have b9:=sb p.bz p.bw s.bz s.bw;have id:=adE x0 y0 z0 w0 x1 y1 z1 w1 x2 y2 z2 w2 x3 y3 z3 w3;generalize z3*w0-z0*w3=T2,y3*w0-y0*w3=T1,x3*w0-x0*w3=T0,z2*w0-z0*w2=V2,y2*w0-y0*w2=V1,x2*w0-x0*w2=V0,z1*w0-z0*w1=U2,y1*w0-y0*w1=U1,x1*w0-x0*w1=U0,w0*w0*D3 x0 y0 z0 w0 x1 y1 z1 w1 x2 y2 z2 w2 x3 y3 z3 w3=D at *;have h:∀{a:Int},Bd 2001 a->Bd 10000 a:=λh=>h.mono (by decide);have h4:∀{a:Int},Bd 4003 a->Bd 100000 a:=λh=>h.mono (by decide);have h2:∀{a:Int},Bd 2001 a->Bd 100000 a:=λh=>h.mono (by decide);have en:=O7 (A:=.lst [.int U0,.int U1,.int U2]) (B:=.lst [.int V0,.int V1,.int V2]) S rfl rfl (h b1) (h b2) (h b3) (h b4) (h b5) (h b6);have c1:=cb b2 b6 b3 b5;have c2:=cb b3 b4 b1 b6;have c3:=cb b1 b5 b2 b4;have ed:=aaw (A:=.lst [.int (U1*V2-U2*V1),.int (U2*V0-U0*V2),.int (U0*V1-U1*V0)]) (B:=.lst [.int T0,.int T1,.int T2]) (us:=[U1*V2-U2*V1,U2*V0-U0*V2,U0*V1-U1*V0]) (vs:=[T0,T1,T2]) S (.inl rfl) (.inl rfl) (by simp;exact⟨h4 c1,h4 c2,h4 c3⟩) (by simp;exact⟨h2 b7,h2 b8,h2 b9⟩);rw[id]at ed;generalize v3 x3 y3 z3 w3=T,v3 x2 y2 z2 w2=R,v3 x1 y1 z1 w1=Q,v3 x0 y0 z0 w0=P,U0*V1-U1*V0=N2,U2*V0-U0*V2=N1,U1*V2-U2*V1=N0 at *;have et:rH [.pv (.lst [.lst [.int U0,.int U1,.int U2],.lst [.int V0,.int V1,.int V2],.lst [.int T0,.int T1,.int T2]])] S=.ok (.pv (.int D)) S:=by
  unfold rH aZ wR;simp! [aE,aX,aY,aK,aP,aQ,aO,aR,aH,aN,en,ed]
 unfold pK aZ xK;rcases hA with rfl |rfl
 .have s1:=Ps P [Q,R,T]
  simp! [aE,aX,aY,aK,aP,aQ,aO,aR,aH,aN,bH,bP,cH,gL,eN,fK,kQ,s1,cD,fR,fD,gN,a1,a2,a3,et]
 .have s1:=Ve P [Q,R,T]
  simp! [aE,aX,aY,aK,aP,aQ,aO,aR,aH,aN,bH,bP,cH,gL,eN,fK,kQ,s1,cD,fR,fD,gN,a1,a2,a3,et]
theorem aep{S:aI}{k:Nat}{ns:FI}(n:Nat)(hn:n=2\/n=3)(h:iN S k ns):∃(v:PV)(ns':FI),oA [.ref k,.pv (.int n)] S=.ok (.pv v) (S.set k (.lst (ns'.map .int)))/\Gp n 100 v:=by
 obtain⟨xs,w,n1,e1,P,b1,b2⟩:=ab9 n hn h;exact⟨_,n1,e1,xs,w,rfl,P.pq b1 b2⟩
theorem aaI(ns:FI):∃g:Int,0<g/\ns=(low ns).map (g*·):=by
 by_cases h:gl ns 0=0
 .refine⟨1,by decide,?_⟩
  unfold low;rw[if_pos h];simp
 .have:=Le ns 0 (xa 0)
  exact⟨gl ns 0,by omega,(aaz h).symm⟩
theorem R8(ns:FI):low (ns.map (- ·))=(low ns).map (- ·):=by
 have e:gl (ns.map (- ·)) 0=gl ns 0:=by
  rw[<-U3 ns];exact congrArg (λl=>gl l 0) (ij λx _=>by omega)
 unfold low;rw[e];split
 .rfl
 .rw[ff,ff]
  refine ij λx hx=>?_;exact Int.neg_ediv_of_dvd ((kO ns 0).2 x hx)
theorem K0{k:Nat}{ns:FI}{L:FS}(h:iN S k ns):∃(A:PV)(ns':FI),qW [.ref k,.pv (.lst L)] S=.ok (.pv A) (S.set k (.lst (ns'.map .int)))/\Sv A L:=by
 obtain⟨t,n1,e1,t0,t1,_⟩:=rE (m:=2) h (by decide) (uZ (by decide) (by decide));have tk:=Jm S k (.lst (n1.map .int));generalize hS:S.set k _=S1 at e1 tk
 by_cases ht:t=1
 .subst ht
  refine⟨.tup L,n1,?_,.inr rfl⟩;rw[hS];unfold qW aZ vZ;simp! [aE,aX,aY,aK,aP,aQ,aO,aR,aH,aN,e1,tk]
 .refine⟨.lst L,n1,?_,.inl rfl⟩
  rw[hS];unfold qW aZ vZ;simp! [aE,aX,aY,aK,aP,aQ,aO,aR,aH,aN,e1,tk,ht]
noncomputable def B2(x0 y0 w0 x1 y1 w1:Int):FI:=[-(y1*w0-y0*w1),x1*w0-x0*w1,x0*y1-y0*x1]
noncomputable def B3(w0 x0 y0 z0 a b c:Int):FI:=[w0*a,w0*b,w0*c,-(a*x0+b*y0+c*z0)]
theorem T7{G:Gd}{g:GM}{me:ME}{x:PV}{r:FS}{ρ:bM}{S:aI}(h:iO G S):bX G g me (x::r) ρ S=(match g x ρ with
  |none=>.fail
  |some ρ1=>match me ρ1 S with
   |.ok (.pv y) S1=>match bX G g me r ρ1 S1 with
    |.ok ys S2=>.ok (y::ys) S2
    |_=>.fail
   |_=>.fail):=by
 rw[bX,if_pos h]
 all_goals rfl
theorem N3{G:Gd}{g:GM}{me:ME}{ρ:bM}{S:aI}(h:iO G S):bX G g me [] ρ S=.ok [] S:=by
 rw[bX,if_pos h]
theorem Xm(a b c x0 y0 w0 x1 y1 w1 x2 y2 w2:Int):D2 (a*x0) (a*y0) (a*w0) (b*x1) (b*y1) (b*w1) (c*x2) (c*y2) (c*w2)=a*b*c*D2 x0 y0 w0 x1 y1 w1 x2 y2 w2:=by
 unfold D2;grind
theorem On(a b c d x0 y0 z0 w0 x1 y1 z1 w1 x2 y2 z2 w2 x3 y3 z3 w3:Int):D3 (a*x0) (a*y0) (a*z0) (a*w0) (b*x1) (b*y1) (b*z1) (b*w1) (c*x2) (c*y2) (c*z2) (c*w2) (d*x3) (d*y3) (d*z3) (d*w3)=a*b*c*d*D3 x0 y0 z0 w0 x1 y1 z1 w1 x2 y2 z2 w2 x3 y3 z3 w3:=by
 unfold D3;grind
structure R2(x y w X Y D:Int):Prop where
 pos:0<w
 dos:0<D
 ex:x*D=X*w
 ey:y*D=Y*w
theorem Pq.p2{k:Nat}{x y w:Int}(P:Pq 2 k [x,y] w)(h:k<=1000):P2 x y w:=⟨(P.bx x (by simp)).mono h,(P.bx y (by simp)).mono h,P.bw.mono h,P.pos⟩
theorem Pq.p3{k:Nat}{x y z w:Int}(P:Pq 3 k [x,y,z] w)(h:k<=1000):P3 x y z w:=⟨(P.bx x (by simp)).mono h,(P.bx y (by simp)).mono h,(P.bx z (by simp)).mono h,P.bw.mono h,P.pos⟩
noncomputable def yZ:FS->Int
 |[.tup [.int x0,.int y0,.int w0],.tup [.int x1,.int y1,.int w1],.tup [.int x2,.int y2,.int w2]]=>sg (D2 x0 y0 w0 x1 y1 w1 x2 y2 w2)
 |[.tup [.int x0,.int y0,.int z0,.int w0],.tup [.int x1,.int y1,.int z1,.int w1],.tup [.int x2,.int y2,.int z2,.int w2],.tup [.int x3,.int y3,.int z3,.int w3]]=>sg (D3 x0 y0 z0 w0 x1 y1 z1 w1 x2 y2 z2 w2 x3 y3 z3 w3)
 |_=>0
theorem abv(D:Int):sg (-D)=-sg D:=by
 unfold sg;split<;>split<;>(try split)<;>(try split)<;>omega
noncomputable abbrev tv(us:FI):PV:=.tup (us.map .int)
noncomputable def Gu(n k:Nat)(us:FI):Prop:=∃xs w,us=xs++[w]/\Pq n k xs w
theorem Gu.gp(h:Gu n k us):Gp n k (tv us):=by
 obtain⟨xs,w,rfl,P⟩:=h;exact⟨xs,w,rfl,P⟩
theorem Gu.ne{n k:Nat}{us:FI}(h:Gu n k us):us≠[]:=by
 obtain⟨xs,w,rfl,P⟩:=h;simp
theorem gps{n k:Nat}{uss:FJ}(h:∀us∈uss,Gu n k us):∀v∈uss.map tv,Gp n k v:=λv hv=>by
 obtain⟨us,hu,rfl⟩:=dq.mp hv;exact(h us hu).gp
theorem Jj:∀uss:FJ,iC (uss.map tv)=some uss
 |[]=>rfl
 |us::uss=>by
  have ih:=Jj uss;show(match fV (us.map .int),iC (uss.map tv)with |some is,some uss=>some (is::uss) |_,_=>none)=_
  rw[ih,sV]
theorem Nj{uss:FJ}{n:Nat}(hl:uss.length=n)(hp:(cZ uss).Perm (ci n)):Qe (uss.map tv) uss=(eV uss).map tv:=by
 unfold Qe eV;rw[ff];refine ij λi hi=>?_;have h:i<uss.length:=by
  have:=hp.subset hi;rw[hl];simpa using this
 simp[cg,h]
theorem Jx{A:PV}{uss:FJ}(hl:uss.length=3\/uss.length=4)(hA:Sv A (uss.map tv))(hne:∀us∈uss,us≠[]):tF [A]=some (.lst ((eV uss).map tv)):=by
 have e:rY (uss.map tv)=some (.lst ((eV uss).map tv)):=by
  unfold rY;rw[Jj];dsimp only;rcases hl with h |h
  .obtain⟨_,hp,_⟩:=Io h
   rw[if_pos (show Te uss from⟨by omega,by omega,by rw[h];exact Ms,by rw[hp.length_eq];simp,hne⟩),Nj h hp]
  .obtain⟨_,hp,_⟩:=Zo h
   rw[if_pos (show Te uss from⟨by omega,by omega,by rw[h];exact Vs,by rw[hp.length_eq];simp,hne⟩),Nj h hp]
 rcases hA with rfl |rfl
 .exact e
 .exact e
noncomputable def qP{α:Type}:List α->List α
 |[a,b,c]=>[a,c,b]
 |[a,b,c,d]=>[a,b,d,c]
 |l=>l
theorem U7(f:α->β)(l:List α):(qP l).map f=qP (l.map f):=by
 rcases l with _ |⟨a,_ |⟨b,_ |⟨c,_ |⟨d,_ |⟨e,l⟩⟩⟩⟩⟩<;>rfl
theorem I0{α:Type}(l:List α):(qP l).Perm l:=by
 unfold qP;split
 .exact .cons _ (.swap _ _ _)
 .exact .cons _ (.cons _ (.swap _ _ _))
 .exact .refl _
noncomputable def dU:FJ->Int
 |[[x0,y0,w0],[x1,y1,w1],[x2,y2,w2]]=>D2 x0 y0 w0 x1 y1 w1 x2 y2 w2
 |[[x0,y0,z0,w0],[x1,y1,z1,w1],[x2,y2,z2,w2],[x3,y3,z3,w3]]=>D3 x0 y0 z0 w0 x1 y1 z1 w1 x2 y2 z2 w2 x3 y3 z3 w3
 |_=>0
theorem Gu.two{k:Nat}{us:FI}(h:Gu 2 k us)(hk:k<=1000):∃x y w,us=[x,y,w]/\P2 x y w:=by
 obtain⟨xs,w,rfl,P⟩:=h
 match xs,P.len,P with
 |[x,y],_,P=>exact⟨x,y,w,rfl,P.p2 hk⟩
theorem Gu.three{k:Nat}{us:FI}(h:Gu 3 k us)(hk:k<=1000):∃x y z w,us=[x,y,z,w]/\P3 x y z w:=by
 obtain⟨xs,w,rfl,P⟩:=h
 match xs,P.len,P with
 |[x,y,z],_,P=>exact⟨x,y,z,w,rfl,P.p3 hk⟩
theorem abS{n k:Nat}(hn:n=2\/n=3)(hk:k<=1000){uss:FJ}(hl:uss.length=n+1)(hg:∀us∈uss,Gu n k us):yZ (uss.map tv)=sg (dU uss):=by
 rcases hn with rfl |rfl
 .match uss,hl with
  |[a,b,c],_=>
   obtain⟨x0,y0,w0,rfl,_⟩:=(hg a (by simp)).two hk;obtain⟨x1,y1,w1,rfl,_⟩:=(hg b (by simp)).two hk;obtain⟨x2,y2,w2,rfl,_⟩:=(hg c (by simp)).two hk;rfl
 .match uss,hl with
  |[a,b,c,d],_=>
   obtain⟨x0,y0,z0,w0,rfl,_⟩:=(hg a (by simp)).three hk;obtain⟨x1,y1,z1,w1,rfl,_⟩:=(hg b (by simp)).three hk;obtain⟨x2,y2,z2,w2,rfl,_⟩:=(hg c (by simp)).three hk;obtain⟨x3,y3,z3,w3,rfl,_⟩:=(hg d (by simp)).three hk;rfl
noncomputable def Pw(n:Nat)(us:FI):Prop:=∃xs w,us=xs++[w]/\xs.length=n/\0<w
theorem Pw.two(h:Pw 2 us):∃x y w,us=[x,y,w]/\0<w:=by
 obtain⟨xs,w,rfl,l,p⟩:=h
 match xs,l with
 |[x,y],_=>exact⟨x,y,w,rfl,p⟩
theorem Pw.three{us:FI}(h:Pw 3 us):∃x y z w,us=[x,y,z,w]/\0<w:=by
 obtain⟨xs,w,rfl,l,p⟩:=h
 match xs,l with
 |[x,y,z],_=>exact⟨x,y,z,w,rfl,p⟩
theorem Gu.pt{n k:Nat}{us:FI}(h:Gu n k us):Pw n us:=by
 obtain⟨xs,w,e,P⟩:=h;exact⟨xs,w,e,P.len,P.pos⟩
theorem dU2{x0 y0 w0 x1 y1 w1 x2 y2 w2:Int}:dU [[x0,y0,w0],[x1,y1,w1],[x2,y2,w2]]=D2 x0 y0 w0 x1 y1 w1 x2 y2 w2:=rfl
theorem dU3{x0 y0 z0 w0 x1 y1 z1 w1 x2 y2 z2 w2 x3 y3 z3 w3:Int}:dU [[x0,y0,z0,w0],[x1,y1,z1,w1],[x2,y2,z2,w2],[x3,y3,z3,w3]]=D3 x0 y0 z0 w0 x1 y1 z1 w1 x2 y2 z2 w2 x3 y3 z3 w3:=rfl
theorem aaJ{n:Nat}(hn:n=2\/n=3){pre l:FJ}{x y:FI}(hl:(pre++y::x::l).length=n+1)(hp:∀u∈pre++y::x::l,Pw n u):dU (pre++x::y::l)=-dU (pre++y::x::l):=by
 have hx:=hp x (by simp);have hy:=hp y (by simp);rcases hn with rfl |rfl
 .obtain⟨x0,y0,w0,rfl,_⟩:=hx.two
  obtain⟨x1,y1,w1,rfl,_⟩:=hy.two;have fin:∀c∈pre++l,∃x y w,c=[x,y,w]:=λc hc=>by
   obtain⟨x,y,w,e,_⟩:=(hp c (by simp at hc⊢;rcases hc with h |h<;>simp[h])).two;exact⟨x,y,w,e⟩
  match pre,l,hl,fin with
  |[],[c],_,fin |[c],[],_,fin=>
   obtain⟨x2,y2,w2,rfl⟩:=fin c (by simp);simp only[ox,vh,dU2,D2];grind
  |[],[],h,_=>simp at h
  |[],_::_::_,h,_=>simp at h
  |_::_::_,_,h,_=>simp at h;omega
  |[_],_::_,h,_=>simp at h
 .obtain⟨x0,y0,z0,w0,rfl,_⟩:=hx.three
  obtain⟨x1,y1,z1,w1,rfl,_⟩:=hy.three;have fin:∀c∈pre++l,∃x y z w,c=[x,y,z,w]:=λc hc=>by
   obtain⟨x,y,z,w,e,_⟩:=(hp c (by simp at hc⊢;rcases hc with h |h<;>simp[h])).three;exact⟨x,y,z,w,e⟩
  match pre,l,hl,fin with
  |[],[c,d],_,fin |[c],[d],_,fin |[c,d],[],_,fin=>
   obtain⟨x2,y2,z2,w2,rfl⟩:=fin c (by simp);obtain⟨x3,y3,z3,w3,rfl⟩:=fin d (by simp);simp only[ox,vh,dU3,D3];grind
  |[],[],h,_=>simp at h
  |[],[_],h,_=>simp at h
  |[],_::_::_::_,h,_=>simp at h
  |[_],[],h,_=>simp at h
  |[_],_::_::_,h,_=>simp at h
  |[_,_],_::_,h,_=>simp at h
  |_::_::_::_,_,h,_=>simp at h;omega
theorem X9{n:Nat}(hn:n=2\/n=3){A B:FJ}(h:A.Perm B):∀pre:FJ,(pre++A).length=n+1->(∀u∈pre++A,Pw n u)->dU (pre++B)=dU (pre++A)\/dU (pre++B)=-dU (pre++A):=by
 induction h with
 |nil=>exact λpre _ _=>.inl rfl
 |cons x _ ih=>
  intro pre hl hp;have:=ih (pre++[x]) (by simpa using hl) (by simpa using hp);simpa using this
 |swap x y l=>exact λpre hl hp=>.inr (aaJ hn hl hp)
 |trans h1 h2 ih1 ih2=>
  intro pre hl hp;have q1:=ih1 pre hl hp;have q2:=ih2 pre (by rw[<-(h1.append_left pre).length_eq];exact hl) λu hu=>hp u ((h1.append_left pre).mem_iff.mpr hu);omega
theorem U8(hn:n=2\/n=3)(hk:k<=1000){uss:FJ}(hl:uss.length=n+1)(hg:∀us∈uss,Gu n k us):dU (eV uss)=dU uss\/dU (eV uss)=-dU uss:=
 X9 hn (vV (by omega)).1.symm [] hl λu hu=>(hg u hu).pt
theorem Mt{n:Nat}(hn:n=2\/n=3){uss:FJ}(hl:uss.length=n+1):uss.length=3\/uss.length=4:=by
 rcases hn with rfl |rfl
 .exact .inl hl
 .exact .inr hl
theorem V9{n:Nat}(hn:n=2\/n=3){A:PV}{L:FS}(S:aI)(hl:L.length=n+1)(hg:∀v∈L,Gp n 1000 v)(hA:Sv A L):∃d:Int,pK [.pv A] S=.ok (.pv (.int d)) S/\sg d=yZ L:=by
 rcases hn with rfl |rfl
 .match L,hl with
  |[P,Q,R],_=>
   obtain⟨x0,y0,w0,rfl,p⟩:=(hg P (by simp)).two;obtain⟨x1,y1,w1,rfl,q⟩:=(hg Q (by simp)).two;obtain⟨x2,y2,w2,rfl,r⟩:=(hg R (by simp)).two;exact⟨_,Q8 S hA p q r,Od p.pos⟩
 .match L,hl with
  |[P,Q,R,T],_=>
   obtain⟨x0,y0,z0,w0,rfl,p⟩:=(hg P (by simp)).three;obtain⟨x1,y1,z1,w1,rfl,q⟩:=(hg Q (by simp)).three;obtain⟨x2,y2,z2,w2,rfl,r⟩:=(hg R (by simp)).three;obtain⟨x3,y3,z3,w3,rfl,s⟩:=(hg T (by simp)).three;exact⟨_,D4 S hA p q r s,Od (az p.pos p.pos)⟩
noncomputable def nI(uss:FJ):FJ:=if yZ ((eV uss).map tv)<0 then qP (eV uss)else eV uss
theorem aec{n:Nat}(hn:n=2\/n=3){L:FS}(hl:L.length=n+1):∃a b M,lU (.lst L) none (some (-2))=some (.lst M)/\aE (.lst L) (.int (-1))=some a/\aE (.lst L) (.int (-2))=some b/\aH (.lst M) (.lst [a,b])=some (.lst (qP L)):=by
 rcases hn with rfl |rfl
 .match L,hl with
  |[P,Q,R],_=>exact⟨R,Q,[P],rfl,rfl,rfl,rfl⟩
 .match L,hl with
  |[P,Q,R,T],_=>exact⟨T,R,[P,Q],rfl,rfl,rfl,rfl⟩
theorem Zw{n:Nat}(hn:n=2\/n=3){A:PV}{a:AV}{uss:FJ}(S:aI)(ha:rd S a=some A)(hl:uss.length=n+1)(hg:∀us∈uss,Gu n 1000 us)(hA:Sv A (uss.map tv)):oY [a] S=.ok (.pv (.tup ((nI uss).map tv))) S:=by
 have h34:uss.length=3\/uss.length=4:=by omega
 have e1:=Jx h34 hA λus hu=>(hg us hu).ne;obtain⟨pm,_⟩:=vV h34;have hl2:((eV uss).map tv).length=n+1:=by rw[aw,pm.length_eq];exact hl
 have hg2:∀v∈(eV uss).map tv,Gp n 1000 v:=gps λus hu=>hg us (pm.subset hu);obtain⟨d,e2,hd⟩:=V9 (A:=.lst ((eV uss).map tv)) hn S hl2 hg2 (.inl rfl);obtain⟨a1,b1,M,t1,t2,t3,t4⟩:=aec hn hl2;unfold nI;have hlt:d<0↔yZ ((eV uss).map tv)<0:=by
  rw[<-hd];unfold sg;split
  .omega
  .split<;>omega
 by_cases h:d<0
 .rw[if_pos (hlt.mp h),U7]
  generalize (eV uss).map tv=L at *;unfold oY aZ vR;simp! [-rd,rd.eq_1,bQ,aP,aQ,aO,aR,aN,ha,e1,e2,h,gL,eN,fK,kQ,t1,t2,t3,t4]
 .rw[if_neg (λz=>h (hlt.mpr z))]
  generalize (eV uss).map tv=L at *;unfold oY aZ vR;simp! [-rd,rd.eq_1,bQ,aP,aQ,aO,aR,aN,ha,e1,e2,h]
theorem Hx{n:Nat}(hn:n=2\/n=3){A:PV}{uss:FJ}(S:aI)(hl:uss.length=n+1)(hg:∀us∈uss,Gu n 1000 us)(hA:Sv A (uss.map tv)):oY [.pv A] S=.ok (.pv (.tup ((nI uss).map tv))) S:=Zw hn S rfl hl hg hA
theorem M6(h:uss.length=3\/uss.length=4):(nI uss).Perm uss:=by
 obtain⟨pm,_⟩:=vV h;unfold nI;split
 .exact(I0 _).trans pm
 .exact pm
theorem abw{S:aI}{k j:Nat}{xs:FS}{v:PV}(hS:S[k]?=some (.lst xs))(hv:xs[j]?=some v)(hj:j<1000):pW k [.pv (.int (j:Int))] S=.ok (.pv v) (S.set k (.lst (xs.eraseIdx j))):=by
 have hl:=(da.mp hv).1;have e:seqIndex? (j:Int) xs.length=some j:=by
  unfold seqIndex?;have h1:¬((j:Int)<0):=by omega
  have h2:(decide (0<=(j:Int))&&decide ((j:Int)<(xs.length:Int)))=true:=by
   simp only[gr,decide_eq_true_eq];omega
  simp only[h1,if_false];rw[if_pos h2,qm]
 unfold pW;dsimp only;rw[if_pos ⟨by omega,by omega⟩,hS];dsimp only;rw[e];dsimp only;rw[hv]
noncomputable def wU:FJ->Int
 |[]=>1
 |us::r=>us.getLastD 0*wU r
theorem Gu.mono{n k l:Nat}{us:FI}(h:Gu n k us)(hl:k<=l):Gu n l us:=by
 obtain⟨xs,w,e,P⟩:=h;exact⟨xs,w,e,P.mono hl⟩
theorem Ht{d:Int}:sg d<0↔d<0:=by
 unfold sg;split
 .omega
 .split<;>omega
theorem abl{n k:Nat}(hn:n=2\/n=3)(hk:k<=1000){uss:FJ}(hl:uss.length=n+1)(hg:∀us∈uss,Gu n k us):dU (qP uss)=-dU uss:=by
 rcases hn with rfl |rfl
 .match uss,hl with
  |[a,b,c],_=>
   obtain⟨x0,y0,w0,rfl,_⟩:=(hg a (by simp)).two hk;obtain⟨x1,y1,w1,rfl,_⟩:=(hg b (by simp)).two hk;obtain⟨x2,y2,w2,rfl,_⟩:=(hg c (by simp)).two hk;show D2 x0 y0 w0 x2 y2 w2 x1 y1 w1=-(D2 x0 y0 w0 x1 y1 w1 x2 y2 w2);unfold D2;grind
 .match uss,hl with
  |[a,b,c,d],_=>
   obtain⟨x0,y0,z0,w0,rfl,_⟩:=(hg a (by simp)).three hk;obtain⟨x1,y1,z1,w1,rfl,_⟩:=(hg b (by simp)).three hk;obtain⟨x2,y2,z2,w2,rfl,_⟩:=(hg c (by simp)).three hk;obtain⟨x3,y3,z3,w3,rfl,_⟩:=(hg d (by simp)).three hk;show D3 x0 y0 z0 w0 x1 y1 z1 w1 x3 y3 z3 w3 x2 y2 z2 w2=-(D3 x0 y0 z0 w0 x1 y1 z1 w1 x2 y2 z2 w2 x3 y3 z3 w3);unfold D3;grind
theorem acU{n k:Nat}(hn:n=2\/n=3)(hk:k<=1000){uss:FJ}(hl:uss.length=n+1)(hg:∀us∈uss,Gu n k us):dU (nI uss)=((dU uss).natAbs:Int):=by
 have hp:=(vV (Mt hn hl)).1;have gs:∀us∈eV uss,Gu n k us:=λus hu=>hg us (hp.subset hu);have ls:(eV uss).length=n+1:=by rw[hp.length_eq,hl]
 have e:=U8 hn hk hl hg;have s:=abl hn hk ls gs;have q:=abS hn hk ls gs;unfold nI;split
 .rename_i h
  rw[q,Ht]at h;rw[s];omega
 .rename_i h
  rw[q,Ht]at h;omega
theorem rP:∀{uss:FJ},(∀us∈uss,Gu n k us)->0<wU uss
 |[],_=>by decide
 |us::r,h=>by
  obtain⟨xs,w,rfl,P⟩:=h _ ce;refine az ?_ (rP λu hu=>h u (cj _ hu));rw[show(xs++[w]).getLastD 0=w by simp];exact P.pos
noncomputable abbrev px(uss:FJ):PV:=.tup (uss.map tv)
noncomputable def iG(n:Nat)(A C:Nat->Int)(E:Int)(us us':FI):Prop:=∃xs w xs' w',us=xs++[w]/\us'=xs'++[w']/\xs.length=n/\xs'.length=n/\0<w/\0<w'/\∀j,j<n->xs'.getD j 0*(E*w)=(A j*xs.getD j 0+C j*w)*w'
theorem iG.two{A C:Nat->Int}{E:Int}{us us':FI}(h:iG 2 A C E us us'):∃x y w x' y' w',us=[x,y,w]/\us'=[x',y',w']/\x'*(E*w)=(A 0*x+C 0*w)*w'/\y'*(E*w)=(A 1*y+C 1*w)*w':=by
 obtain⟨xs,w,xs',w',rfl,rfl,l,l',_,_,h⟩:=h
 match xs,l,xs',l',h with
 |[x,y],_,[x',y'],_,h=>exact⟨x,y,w,x',y',w',rfl,rfl,h 0 (by decide),h 1 (by decide)⟩
theorem iG.three{A C:Nat->Int}{E:Int}{us us':FI}(h:iG 3 A C E us us'):∃x y z w x' y' z' w',us=[x,y,z,w]/\us'=[x',y',z',w']/\x'*(E*w)=(A 0*x+C 0*w)*w'/\y'*(E*w)=(A 1*y+C 1*w)*w'/\z'*(E*w)=(A 2*z+C 2*w)*w':=by
 obtain⟨xs,w,xs',w',rfl,rfl,l,l',_,_,h⟩:=h
 match xs,l,xs',l',h with
 |[x,y,z],_,[x',y',z'],_,h=>exact⟨x,y,z,w,x',y',z',w',rfl,rfl,h 0 (by decide),h 1 (by decide),h 2 (by decide)⟩
theorem adu(a b c d E x0 y0 w0 x1 y1 w1 x2 y2 w2:Int):D2 (a*x0+c*w0) (b*y0+d*w0) (E*w0) (a*x1+c*w1) (b*y1+d*w1) (E*w1) (a*x2+c*w2) (b*y2+d*w2) (E*w2)=a*b*E*D2 x0 y0 w0 x1 y1 w1 x2 y2 w2:=by
 unfold D2;grind
theorem adl(a b p c d e E x0 y0 z0 w0 x1 y1 z1 w1 x2 y2 z2 w2 x3 y3 z3 w3:Int):D3 (a*x0+c*w0) (b*y0+d*w0) (p*z0+e*w0) (E*w0) (a*x1+c*w1) (b*y1+d*w1) (p*z1+e*w1) (E*w1) (a*x2+c*w2) (b*y2+d*w2) (p*z2+e*w2) (E*w2) (a*x3+c*w3) (b*y3+d*w3) (p*z3+e*w3) (E*w3)=a*b*p*E*D3 x0 y0 z0 w0 x1 y1 z1 w1 x2 y2 z2 w2 x3 y3 z3 w3:=by
 unfold D3;grind
theorem cm(a b:Int){c:Int}(h:a*b=c):b*a=c:=by rw[ga];exact h
theorem Hf{A C:Nat->Int}{E:Int}{P Q R P' Q' R':FI}(h0:iG 2 A C E P P')(h1:iG 2 A C E Q Q')(h2:iG 2 A C E R R'):dU [P',Q',R']*(E*E*E*wU [P,Q,R])=A 0*A 1*E*dU [P,Q,R]*wU [P',Q',R']:=by
 obtain⟨x0,y0,w0,X0,Y0,W0,rfl,rfl,p,q⟩:=h0.two;obtain⟨x1,y1,w1,X1,Y1,W1,rfl,rfl,p1,q1⟩:=h1.two;obtain⟨x2,y2,w2,X2,Y2,W2,rfl,rfl,p2,q2⟩:=h2.two;have e:=Xm (E*w0) (E*w1) (E*w2) X0 Y0 W0 X1 Y1 W1 X2 Y2 W2;have f:=Xm W0 W1 W2 (A 0*x0+C 0*w0) (A 1*y0+C 1*w0) (E*w0) (A 0*x1+C 0*w1) (A 1*y1+C 1*w1) (E*w1) (A 0*x2+C 0*w2) (A 1*y2+C 1*w2) (E*w2);rw[adu]at f;rw[cm _ _ p,cm _ _ q,cm _ _ p1,cm _ _ q1,cm _ _ p2,cm _ _ q2,ga _ W0,ga _ W0,ga _ W0,ga _ W1,ga _ W1,ga _ W1,ga _ W2,ga _ W2,ga _ W2]at e;have g:=e.symm.trans f;show D2 X0 Y0 W0 X1 Y1 W1 X2 Y2 W2*(E*E*E*(w0*(w1*(w2*1))))=A 0*A 1*E*D2 x0 y0 w0 x1 y1 w1 x2 y2 w2*(W0*(W1*(W2*1)));generalize D2 X0 Y0 W0 X1 Y1 W1 X2 Y2 W2=d at g⊢;generalize D2 x0 y0 w0 x1 y1 w1 x2 y2 w2=d' at g⊢;clear e f p q p1 q1 p2 q2 h0 h1 h2;grind
theorem Ff{A C:Nat->Int}{E:Int}{P Q R T P' Q' R' T':FI}(h0:iG 3 A C E P P')(h1:iG 3 A C E Q Q')(h2:iG 3 A C E R R')(h3:iG 3 A C E T T'):dU [P',Q',R',T']*(E*E*E*E*wU [P,Q,R,T])=A 0*A 1*A 2*E*dU [P,Q,R,T]*wU [P',Q',R',T']:=by
 obtain⟨x0,y0,z0,w0,X0,Y0,Z0,W0,rfl,rfl,p,q,r⟩:=h0.three;obtain⟨x1,y1,z1,w1,X1,Y1,Z1,W1,rfl,rfl,p1,q1,r1⟩:=h1.three;obtain⟨x2,y2,z2,w2,X2,Y2,Z2,W2,rfl,rfl,p2,q2,r2⟩:=h2.three;obtain⟨x3,y3,z3,w3,X3,Y3,Z3,W3,rfl,rfl,p3,q3,r3⟩:=h3.three;have e:=On (E*w0) (E*w1) (E*w2) (E*w3) X0 Y0 Z0 W0 X1 Y1 Z1 W1 X2 Y2 Z2 W2 X3 Y3 Z3 W3;have f:=On W0 W1 W2 W3 (A 0*x0+C 0*w0) (A 1*y0+C 1*w0) (A 2*z0+C 2*w0) (E*w0) (A 0*x1+C 0*w1) (A 1*y1+C 1*w1) (A 2*z1+C 2*w1) (E*w1) (A 0*x2+C 0*w2) (A 1*y2+C 1*w2) (A 2*z2+C 2*w2) (E*w2) (A 0*x3+C 0*w3) (A 1*y3+C 1*w3) (A 2*z3+C 2*w3) (E*w3);rw[adl]at f;rw[cm _ _ p,cm _ _ q,cm _ _ r,cm _ _ p1,cm _ _ q1,cm _ _ r1,cm _ _ p2,cm _ _ q2,cm _ _ r2,cm _ _ p3,cm _ _ q3,cm _ _ r3]at e;have cW:∀a W:Int,a*W=W*a:=ga;rw[cW _ W0,cW _ W0,cW _ W0,cW _ W0,cW _ W1,cW _ W1,cW _ W1,cW _ W1,cW _ W2,cW _ W2,cW _ W2,cW _ W2,cW _ W3,cW _ W3,cW _ W3,cW _ W3]at e;have g:=e.symm.trans f;show D3 X0 Y0 Z0 W0 X1 Y1 Z1 W1 X2 Y2 Z2 W2 X3 Y3 Z3 W3*(E*E*E*E*(w0*(w1*(w2*(w3*1)))))=A 0*A 1*A 2*E*D3 x0 y0 z0 w0 x1 y1 z1 w1 x2 y2 z2 w2 x3 y3 z3 w3*(W0*(W1*(W2*(W3*1))));generalize D3 X0 Y0 Z0 W0 X1 Y1 Z1 W1 X2 Y2 Z2 W2 X3 Y3 Z3 W3=d at g⊢;generalize D3 x0 y0 z0 w0 x1 y1 z1 w1 x2 y2 z2 w2 x3 y3 z3 w3=d' at g⊢;clear e f p q r p1 q1 r1 p2 q2 r2 p3 q3 r3 h0 h1 h2 h3 cW;grind
noncomputable def fO(way:Int)(f us:FI):FI:=mv way us.dropLast (us.getLastD 0) f.dropLast (f.getLastD 0)
theorem Rr(way:Int)(xs:FI)(w:Int)(ys:FI)(v:Int):fO way (ys++[v]) (xs++[w])=mv way xs w ys v:=by
 unfold fO;simp
theorem mT{n k l:Nat}{way:Int}{us f:FI}(hway:way=1\/way=-1)(h:Gu n k us)(g:Gu n l f):Gu n (k+l+1) (fO way f us)/\iG n (λ_=>way*f.getLastD 0) (λj=>f.getD j 0) (f.getLastD 0) us (fO way f us):=by
 obtain⟨xs,w,rfl,P⟩:=h;obtain⟨ys,v,rfl,Q⟩:=g;rw[Rr];obtain⟨zs,z,e,Z,hv⟩:=adG hway P Q;rw[e];refine⟨⟨zs,z,rfl,Z⟩,xs,w,zs,z,rfl,rfl,P.len,Z.len,P.pos,Z.pos,λj hj=>?_⟩;have a:=hv _ _ _ _ (Vl.self n xs w) (Vl.self n ys v) P.pos Q.pos j hj;rw[show(ys++[v]).getLastD 0=v by simp];have eg:(ys++[v]).getD j 0=ys.getD j 0:=by
  have:j<ys.length:=by rw[Q.len];exact hj
  simp[cg,ib this]
 dsimp only at a⊢;rw[eg];generalize ys.getD j 0=y at a⊢;generalize xs.getD j 0=x at a⊢;generalize zs.getD j 0=t at a⊢;rw[ga v w,a];grind
theorem aa0{n k l:Nat}{way:Int}{us f:FI}(S:aI)(hn:n=2\/n=3)(hway:way=1\/way=-1)(h:Gu n k us)(g:Gu n l f)(hk:k<=1000)(hl:l<=1000):nS [.pv (tv us),.pv (tv f),.pv (.int way)] S=.ok (.pv (tv (fO way f us))) S:=by
 obtain⟨xs,w,rfl,P⟩:=h;obtain⟨ys,v,rfl,Q⟩:=g;rw[Rr];exact X4 S hn hway P Q hk hl
theorem Bz{a b w v:Int}(hw:0<w)(hv:0<v)(h:a*w=b*v\/a*w=-(b*v)):(a.natAbs:Int)*w=(b.natAbs:Int)*v:=by
 have e:(a*w).natAbs=(b*v).natAbs:=by
  rcases h with h |h
  .rw[h]
  .rw[h,d6]
 rw[ug,ug]at e;have e1:(w.natAbs:Int)=w:=by omega
 have e2:(v.natAbs:Nat)=v:=by omega
 have e3:(a.natAbs*w.natAbs:Nat)=((b.natAbs*v.natAbs:Nat):Int):=by rw[e]
 rw[EN,EN,e1,e2]at e3;exact e3
theorem afj{v d d' w w':Int}{way:Int}(hv:0<v)(hway:way=1\/way=-1)(h:d'*(v*v*v*w)=way*v*(way*v)*v*d*w'):d'*w=d*w':=by
 have e:(d'*w)*(v*v*v)=(d*w')*(v*v*v):=by rcases hway with rfl |rfl<;>grind
 exact xL (az (az hv hv) hv) e
theorem aeQ{v d d' w w':Int}{way:Int}(hv:0<v)(hway:way=1\/way=-1)(h:d'*(v*v*v*v*w)=way*v*(way*v)*(way*v)*v*d*w'):d'*w=d*w'\/d'*w=-(d*w'):=by
 have p:=az (az (az hv hv) hv) hv;rcases hway with rfl |rfl
 .left
  have e:(d'*w)*(v*v*v*v)=(d*w')*(v*v*v*v):=by grind
  exact xL p e
 .right
  have e:(d'*w)*(v*v*v*v)=(-(d*w'))*(v*v*v*v):=by grind
  exact xL p e
theorem Be{n k l:Nat}{way:Int}{f:FI}{uss:FJ}(hway:way=1\/way=-1)(hg:∀us∈uss,Gu n k us)(g:Gu n l f):∀us∈uss.map (fO way f),Gu n (k+l+1) us:=λus hu=>by
 obtain⟨u,hm,rfl⟩:=dq.mp hu;exact(mT hway (hg u hm) g).1
theorem Gu.lastpos{n k:Nat}{f:FI}(h:Gu n k f):0<f.getLastD 0:=by
 obtain⟨xs,w,rfl,P⟩:=h;rw[show(xs++[w]).getLastD 0=w by simp];exact P.pos
theorem acN{n k l:Nat}(hn:n=2\/n=3){way:Int}{f:FI}{uss:FJ}(hway:way=1\/way=-1)(hl:uss.length=n+1)(hg:∀us∈uss,Gu n k us)(g:Gu n l f):((dU (uss.map (fO way f))).natAbs:Int)*wU uss=((dU uss).natAbs:Int)*wU (uss.map (fO way f)):=by
 have hv:=g.lastpos;have p1:=rP hg;have p2:=rP (Be hway hg g);refine Bz p1 p2 ?_;rcases hn with rfl |rfl
 .match uss,hl,hg with
  |[a,b,c],_,hg=>
   have e:=Hf (mT hway (hg a (by simp)) g).2 (mT hway (hg b (by simp)) g).2 (mT hway (hg c (by simp)) g).2;exact .inl (afj hv hway e)
 .match uss,hl,hg with
  |[a,b,c,d],_,hg=>
   have e:=Ff (mT hway (hg a (by simp)) g).2 (mT hway (hg b (by simp)) g).2 (mT hway (hg c (by simp)) g).2 (mT hway (hg d (by simp)) g).2;exact aeQ hv hway e
theorem aeb{n k l:Nat}(hn:n=2\/n=3){way:Int}{f:FI}{uss:FJ}(hway:way=1\/way=-1)(hl:uss.length=n+1)(hg:∀us∈uss,Gu n k us)(g:Gu n l f)(h:dU uss≠0):dU (uss.map (fO way f))≠0:=λz=>by
 have e:=acN hn hway hl hg g;rw[z]at e;have p2:=rP (Be hway hg g);have:((dU uss).natAbs:Int)*wU (uss.map (fO way f))≠0:=jl (by omega) (cv p2);exact this (by rw[<-e];simp)
theorem lZ(hG:iO G S){me:ME}{tail:bM}{α:Type}(A B:α->PV):∀(L:List α)(x:FV),(∀v∈L,me (some (.pv (A v))::tail) S=.ok (.pv (B v)) S)->bX G (gN 0) me (L.map A) (x::tail) S=.ok (L.map B) S
 |[],x,_=>N3 hG
 |v::L,x,h=>by
  have e:=h v ce;have e':=lZ hG A B L (some (.pv (A v))) λu hu=>h u (cj _ hu);rw[cf,T7 hG];simp[gN,e,e']
theorem Gu.three'{k:Nat}{us:FI}(h:Gu 3 k us):∃x y z w,us=[x,y,z,w]/\0<w/\Bd k x/\Bd k y/\Bd k z/\Bd k w:=by
 obtain⟨xs,w,rfl,P⟩:=h
 match xs,P.len,P with
 |[x,y,z],_,P=>exact⟨x,y,z,w,rfl,P.pos,P.bx x (by simp),P.bx y (by simp),P.bx z (by simp),P.bw⟩
theorem mk{k l:Nat}{a b:Int}(h:Bd k a)(g:Bd l b)(hk:k<=100000)(hl:l<=100000):aV (.int a) (.int b)=some (.int (a*b)):=iB (.inr ⟨h.mono (by omega),g.mono (by omega)⟩)
theorem sq{a b:MS}{ρ ρ':bM}{S S':aI}{r:cA}(h:a ρ S=.nx ρ' S')(g:b ρ' S'=r):aJ a b ρ S=r:=by
 rw[aJ,h];exact g
theorem pO{np n:Nat}{b:MS}{xs:FW}{S S':aI}{v:AV}{r:bI AV}(hl:xs.length=np)(h:b (iD n xs) S=.rt v S')(hc:jZ S.length v S'=r):aZ np n b xs S=r:=by
 unfold aZ;rw[if_pos hl,h];exact hc
theorem Bl{S:aI}{me:ME}{α:Type}(A B C:α->PV):∀(L:List α)(x y:FV),(∀v∈L,me [some (.pv (A v)),some (.pv (B v))] S=.ok (.pv (C v)) S)->bX [] (gT 2 (cG (gN 0) (cG (gN 1) eB))) me (L.map λv=>.tup [A v,B v]) [x,y] S=.ok (L.map C) S
 |[],x,y,_=>fD
 |v::L,x,y,h=>by
  have e:=h v ce;have e':=Bl A B C L (some (.pv (A v))) (some (.pv (B v))) λu hu=>h u (cj _ hu);rw[cf,fR];simp[gN,gT,cG,eB,e,e']
theorem aez(L:FS){a:Nat}(h:a<=L.length):lU (.lst L) (some (a:Int)) none=some (.lst (L.drop a)):=by
 unfold lU;dsimp only;unfold kD;rw[HT.sIx_nat];show some (PV.lst ((L.drop (min a L.length)).take (L.length-min a L.length)))=_;rw[DY h,tj (by rw[ny];omega)]
noncomputable abbrev fv(u:Int×Int):PV:=.tup [.int u.1,.int u.2]
noncomputable def pl(u v:Int×Int):Int×Int:=((fr (u.1*v.2+v.1*u.2) (u.2*v.2)).getD 0 0,(fr (u.1*v.2+v.1*u.2) (u.2*v.2)).getD 1 0)
structure Fq(k:Nat)(u:Int×Int):Prop where
 pos:0<u.2
 b1:Bd k u.1
 b2:Bd k u.2
 lo:bi u.1 u.2=1
theorem Fq.mono{k l:Nat}{u:Int×Int}(h:Fq k u)(hl:k<=l):Fq l u:=⟨h.pos,h.b1.mono hl,h.b2.mono hl,h.lo⟩
theorem Ke{k:Nat}{u v:Int×Int}(h:Fq k u)(g:Fq k v):fr (u.1*v.2+v.1*u.2) (u.2*v.2)=[(pl u v).1,(pl u v).2]/\Fq (2*k+1) (pl u v)/\(pl u v).1*(u.2*v.2)=(u.1*v.2+v.1*u.2)*(pl u v).2:=by
 have nz:u.2*v.2≠0:=cv (az h.pos g.pos);obtain⟨p,q,e,hq,c⟩:=rV (t:=u.1*v.2+v.1*u.2) nz;have bt:Bd (2*k+1) (u.1*v.2+v.1*u.2):=by
  have:=(h.b1.mul g.b2).add (g.b1.mul h.b2);exact this.mono (by omega)
 have bb:Bd (2*k+1) (u.2*v.2):=(h.b2.mul g.b2).mono (by omega);obtain⟨b3,b4⟩:=yD bt bb e;have ep:pl u v=(p,q):=by unfold pl;rw[e];rfl
 rw[ep];exact⟨e,⟨hq,b3,b4,Da nz e⟩,c⟩
theorem Y7{k:Nat}{u v:Int×Int}(S:aI)(h:Fq k u)(g:Fq k v)(hk:2*k+1<=7000):pM [.pv (fv u),.pv (fv v)] S=.ok (.pv (fv (pl u v))) S:=by
 have nz:u.2*v.2≠0:=cv (az h.pos g.pos);have bt:Bd 7000 (u.1*v.2+v.1*u.2):=by
  have:=(h.b1.mul g.b2).add (g.b1.mul h.b2);exact this.mono (by omega)
 have e:=vQ (u.1*v.2+v.1*u.2) (u.2*v.2) S bt ((h.b2.mul g.b2).mono (by omega)) nz;rw[(Ke h g).1]at e;simp only[cf,ig]at e;have m1:=mk h.b1 g.b2 (by omega) (by omega);have m2:=mk g.b1 h.b2 (by omega) (by omega);have m3:=mk h.b2 g.b2 (by omega) (by omega);unfold pM aZ Ad;simp! [aE,aX,aY,aK,aP,aQ,aO,aR,aH,aN,m1,m2,m3,e]
noncomputable def bR:List (Int×Int)->List (Int×Int)
 |a::b::L=>pl a b::bR L
 |L=>L
noncomputable abbrev yO:MS:=(aJ (aU 1 (bH ["one","other"] [] (iV (aD (qD (aB 0) eN eN (2)) (aD (qD (aB 0) (fK (mC (.int 1))) eN (2)) aF))) (gT 2 (cG (gN 0) (cG (gN 1) eB))) (bA pM [] (aD (aB 0) (aD (aB 1) aF)))))
 (aU 0 (aC aH (aB 1) (gL (aB 0) (fK (aC aV (mC (.int 2)) (mR dJ (aD (aB 1) aF)))) eN))))
noncomputable def ev{α:Type}:List α->List α
 |a::_::L=>a::ev L
 |L=>L
noncomputable def od{α:Type}:List α->List α
 |_::b::L=>b::od L
 |_=>[]
noncomputable def eC:List (Int×Int)->List ((Int×Int)×(Int×Int))
 |a::b::L=>(a,b)::eC L
 |_=>[]
theorem Ft{α:Type}:∀L:List α,(ci ((L.length+1)/2)).filterMap (λk=>L[2*k]?)=ev L
 |[]=>by simp[ev]
 |[a]=>by simp[ev]
 |a::b::L=>by
  have h:((a::b::L).length+1)/2=(L.length+1)/2+1:=by simp only[bo];omega
  have ih:=Ft L;rw[h,EO,jo,uf];show a::_=a::ev L;rw[<-ih];rfl
theorem Qt{α:Type}:∀L:List α,(ci (L.length/2)).filterMap (λk=>L[2*k+1]?)=od L
 |[]=>by simp[od]
 |[a]=>by simp[od]
 |a::b::L=>by
  have h:(a::b::L).length/2=L.length/2+1:=by simp only[bo];omega
  have ih:=Qt L;rw[h,EO,jo,uf];show b::_=b::od L;rw[<-ih];rfl
theorem adP{α:Type}(L:List α):jD L none none 2=ev L:=by
 rw[<-Ft];unfold jD sliceBounds sliceRange;simp only[xx];have h:(if(2:Int)>0 then if(if(2:Int)>0 then(0:Int)else(L.length:Int)-1)<(if(2:Int)>0 then(L.length:Int)else-1)then((if(2:Int)>0 then(L.length:Int)else-1)-(if(2:Int)>0 then(0:Int)else(L.length:Int)-1)+2-1)/2 else 0 else if(if(2:Int)>0 then(0:Int)else(L.length:Int)-1)>(if(2:Int)>0 then(L.length:Int)else-1)then((if(2:Int)>0 then(0:Int)else(L.length:Int)-1)-(if(2:Int)>0 then(L.length:Int)else-1)-2-1)/ -2 else 0).toNat=(L.length+1)/2:=by
  simp only[gt_iff_lt,t8,↓reduceIte];split<;>omega
 rw[h,uf];congr 1
 funext k
 show L[((if(2:Int)>0 then(0:Int)else(L.length:Int)-1)+2*(k:Int)).toNat]?=L[2*k]?;congr 1;simp only[gt_iff_lt,t8,↓reduceIte];omega
theorem adH{α:Type}(L:List α)(hl:0<L.length):jD L (some 1) none 2=od L:=by
 rw[<-Qt];unfold jD sliceBounds sliceRange;have m:max (0:Int) (min 1 (L.length:Int))=1:=by omega
 simp only[xx,gt_iff_lt,t8,↓reduceIte,m];have h:(if(1:Int)<(L.length:Int)then((L.length:Int)-1+2-1)/2 else 0).toNat=L.length/2:=by
  split<;>omega
 rw[h,uf];congr 1
 funext k
 show L[(1+2*(k:Int)).toNat]?=L[2*k+1]?;congr 1;omega
theorem Nq{α β:Type}(f:α->β):∀L:List α,ev (L.map f)=(ev L).map f
 |[]=>rfl
 |[_]=>rfl
 |a::b::L=>by
  show f a::ev (L.map f)=f a::(ev L).map f;rw[Nq f L]
theorem Lq{α β:Type}(f:α->β):∀L:List α,od (L.map f)=(od L).map f
 |[]=>rfl
 |[_]=>rfl
 |a::b::L=>by
  show f b::od (L.map f)=f b::(od L).map f;rw[Lq f L]
theorem Xr:∀L:List (Int×Int),eX ((ev L).map fv) ((od L).map fv)=(eC L).map λw=>PV.tup [fv w.1,fv w.2]
 |[]=>rfl
 |[_]=>rfl
 |a::b::L=>by
  show PV.tup [fv a,fv b]::eX ((ev L).map fv) ((od L).map fv)=PV.tup [fv a,fv b]::(eC L).map _;rw[Xr L]
theorem Hs:∀L:List (Int×Int),bR L=((eC L).map λw=>pl w.1 w.2)++L.drop (2*(eC L).length)/\2*(eC L).length<=L.length/\∀w∈eC L,w.1∈L/\w.2∈L
 |[]=>⟨rfl,aq _,λ_ h=>nomatch h⟩
 |[_]=>⟨rfl,by simp[eC],λ_ h=>nomatch h⟩
 |a::b::L=>by
  obtain⟨h1,h2,h3⟩:=Hs L;refine⟨?_,by simp only[eC,bo];omega,λw hw=>?_⟩
  .show pl a b::bR L=pl a b::(((eC L).map λw=>pl w.1 w.2)++(a::b::L).drop (2*((eC L).length+1)))
   rw[h1,show 2*((eC L).length+1)=2*(eC L).length+1+1 by omega];rfl
  .rcases cr.mp hw with rfl |hw
   .exact⟨by simp,by simp⟩
   .exact⟨by simp[(h3 w hw).1],by simp[(h3 w hw).2]⟩
theorem Q9{k:Nat}(S:aI)(x:FV)(hk:2*k+1<=7000)(L:List (Int×Int))(h2:2<=L.length)(hl:L.length<=1000)(h:∀u∈L,Fq k u):∃y,yO [some (.pv (.lst (L.map fv))),x] S=.nx [some (.pv (.lst ((bR L).map fv))),y] S:=by
 obtain⟨s1,s2,s3⟩:=Hs L;have e1:=adP (L.map fv);rw[Nq]at e1;have e2:=adH (L.map fv) (by rw[aw];omega);rw[Lq]at e2;have e3:=Xr L;have e4:bX [] (gT 2 (cG (gN 0) (cG (gN 1) eB))) (bA pM [] (aD (aB 0) (aD (aB 1) aF))) ((eC L).map λw=>PV.tup [fv w.1,fv w.2]) [none,none] S=.ok ((eC L).map λw=>fv (pl w.1 w.2)) S:=by
  refine Bl (λw:(Int×Int)×(Int×Int)=>fv w.1) (λw=>fv w.2) (λw=>fv (pl w.1 w.2)) (eC L) none none λw hw=>?_;have p:=Y7 S (h _ (s3 w hw).1) (h _ (s3 w hw).2) hk;generalize fv w.2=B,fv w.1=A,fv (pl w.1 w.2)=R at *;simp! [aE,aX,aY,aK,aP,aQ,aO,aR,aH,aN,p]
 have e5:=aez (L.map fv) (a:=2*(eC L).length) (by rw[aw];exact s2);have e7:((eC L).map λw=>fv (pl w.1 w.2)).length=(eC L).length:=aw ..;have e6:aV (.int 2) (.int ((((eC L).map λw=>fv (pl w.1 w.2)).length:Nat):Int))=some (.int ((2*(eC L).length:Nat):Int)):=by
  rw[e7];exact iB (.inl (.inl ⟨by decide,by omega⟩))
 have e8:((eC L).map λw=>fv (pl w.1 w.2)).length+((L.map fv).drop (2*(eC L).length)).length<=16777216:=by simp;omega
 have e9:(bR L).map fv=((eC L).map λw=>fv (pl w.1 w.2))++(L.map fv).drop (2*(eC L).length):=by
  rw[s1,ik,ff,EQ];rfl
 rw[e9];generalize 2*(eC L).length=c2,L.map fv=LL,(od L).map fv=OL,(ev L).map fv=EL,(L.map fv).drop (2*(eC L).length)=DL,(((eC L).map λw=>fv (pl w.1 w.2)):FS)=PL,(((eC L).map λw=>PV.tup [fv w.1,fv w.2]):FS)=ZL at *;refine⟨some (.pv (.lst PL)),?_⟩;unfold yO;generalize (bA pM [] (aD (aB 0) (aD (aB 1) aF)))=ME1 at *;refine sq (ρ':=[some (.pv (.lst LL)),some (.pv (.lst PL))]) (S':=S) ?_ ?_
 .simp! [aE,aX,aY,aK,aP,aQ,aO,aR,aH,aN,bH,cD,iV,mU,qD,Vu,eN,fK,kQ,cH,e1,e2,e3,e4]
 .simp! [aE,aX,aY,aK,aP,aQ,aO,aR,aH,aN,gL,eN,fK,kQ,e5,e6,e8]
theorem Dc:∀(L:List (Int×Int)),(bR L).length=(L.length+1)/2
 |[]=>rfl
 |[_]=>by simp[bR]
 |a::b::L=>by
  unfold bR;rw[bo,bo,bo,Dc L];omega
theorem Ce{k:Nat}:∀(L:List (Int×Int)),(∀u∈L,Fq k u)->∀u∈bR L,Fq (2*k+1) u
 |[],h,u,hu=>by cases hu
 |[a],h,u,hu=>(h u hu).mono (by omega)
 |a::b::L,h,u,hu=>by
  rcases cr.mp hu with rfl |hu
  .exact(Ke (h a (by simp)) (h b (by simp))).2.1
  .exact Ce L (λv hv=>h v (cj _ (cj _ hv))) u hu
noncomputable def fP:Nat->List (Int×Int)->List (Int×Int)
 |0,L=>L
 |m+1,L=>if L.length<=1 then L else fP m (bR L)
noncomputable abbrev uT:MT:=bG (aC gK (mR dJ (aD (aB 0) aF)) (mC (.int 1)))
theorem Ek(S:aI):∀(m k:Nat)(L:List (Int×Int))(x:FV),L.length<=1000->L.length<=2^m->2^m*(k+1)<=7000->(∀u∈L,Fq k u)->∃n y,cM uT yO n [some (.pv (.lst (L.map fv))),x] S=.nx [some (.pv (.lst ((fP m L).map fv))),y] S/\(fP m L).length<=1
 |m,k,L,x,h10,hm,hk,h=>by
  by_cases h1:L.length<=1
  .refine⟨1,x,?_,?_⟩
   .have c:uT [some (.pv (.lst (L.map fv))),x] S=.ok false S:=by
     unfold uT;have:decide ((1:Int)<(L.length:Int))=false:=by simp;omega
     simp! [aE,aX,aY,aK,aP,aQ,aO,aR,aH,aN,this]
    have er:fP m L=L:=by
     cases m with
     |zero=>rfl
     |succ m=>unfold fP;rw[if_pos h1]
    unfold cM;rw[c,er];rfl
   .cases m with
    |zero=>exact h1
    |succ m=>unfold fP;rw[if_pos h1];exact h1
  .match m,hm,hk with
   |0,hm,_=>exact absurd hm (by simpa using h1)
   |m+1,hm,hk=>
    have hk2:2*k+1<=7000:=by
     have:2<=2^(m+1):=by
      rw[wz];have:=yj m;omega
     have:=ER (k+1) this;omega
    obtain⟨y,e⟩:=Q9 S x hk2 L (by omega) h10 h;have hl:=Dc L;have hp:2^(m+1)=2*2^m:=by rw[wz];omega
    obtain⟨n,z,e2,l2⟩:=Ek S m (2*k+1) (bR L) y (by omega) (by omega) (by
     rw[hp]at hk;have:2*2^m*(k+1)=2^m*(2*k+1+1):=by
      rw[Nat.mul_comm 2,Nat.mul_assoc];congr 1
     omega) (Ce L h)
    have er:fP (m+1) L=fP m (bR L):=by
     show(if L.length<=1 then L else fP m (bR L))=_;rw[if_neg h1]
    refine⟨n+1,z,?_,by rw[er];exact l2⟩;have c:uT [some (.pv (.lst (L.map fv))),x] S=.ok true S:=by
     unfold uT;have:decide ((1:Int)<(L.length:Int))=true:=by simp;omega
     simp! [aE,aX,aY,aK,aP,aQ,aO,aR,aH,aN,this]
    unfold cM;rw[c,er];show(match yO _ S with |.nx ρ2 S2=>_ |.ct ρ2 S2=>_ |.bk ρ2 S2=>_ |.rt v S2=>_ |.exc n S2=>_ |.fail=>_)=_
    rw[e];exact e2
noncomputable def qF(L:List (Int×Int)):Int×Int:=match fP 6 L with
 |[]=>(0,1)
 |u::_=>u
theorem E3(S:aI){m k:Nat}{L:List (Int×Int)}(h10:L.length<=1000)(hm:L.length<=2^m)(m4:m<=6)(hk:2^m*(k+1)<=7000)(h:∀u∈L,Fq k u):tL [.pv (.lst (L.map fv))] S=.ok (.pv (fv (qF L))) S:=by
 obtain⟨n,y,e,l⟩:=Ek S m k L none h10 hm hk h;have w:=iY e (by simp);have er:∀(i j:Nat)(L:List (Int×Int)),i<=j->(fP i L).length<=1->fP j L=fP i L:=by
  intro i
  induction i with
  |zero=>
   intro j L _ hl;cases j with
   |zero=>rfl
   |succ j=>
    show(if L.length<=1 then L else _)=L;have hl:L.length<=1:=hl;rw[if_pos hl]
  |succ i ih=>
   intro j L hij hl;cases j with
   |zero=>omega
   |succ j=>
    show(if L.length<=1 then L else fP j (bR L))=(if L.length<=1 then L else fP i (bR L));split
    .rfl
    .rename_i hn
     have hl:(if L.length<=1 then L else fP i (bR L)).length<=1:=hl;rw[if_neg hn]at hl;exact ih j (bR L) (by omega) hl
 have e4:=er m 6 L m4 l;unfold qF;rw[e4];generalize fP m L=R at w l;unfold tL aZ Ic
 match R,l with
 |[],_=>
  simp only[ig]at w;simp! [aE,aX,aY,aK,aP,aQ,aO,aR,aH,aN,w,uR,yA]
 |[u],_=>
  simp only[cf,ig]at w;simp! [aE,aX,aY,aK,aP,aQ,aO,aR,aH,aN,w,uR,yA]
noncomputable abbrev li(xs:FI):FS:=xs.map .int
noncomputable abbrev lv(xs:FI):PV:=.lst (li xs)
noncomputable abbrev jF(xss:FJ):PV:=.lst (xss.map lv)
structure Rw(n:Nat)(xss:FJ):Prop where
 len:xss.length=n+1
 l:∀xs∈xss,xs.length=n
 b:∀xs∈xss,∀x∈xs,0<=x/\x<=2
 nz:dU (xss.map (·++[1]))≠0
theorem Kk{α β:Type}(f:α->β):∀(R:List α)(j:Nat),(R.map f).eraseIdx j=(R.eraseIdx j).map f
 |[],j=>by simp
 |a::R,0=>by simp
 |a::R,j+1=>by simp[Kk f R j]
theorem ix3:∀v<3,aY 3 ((v:Nat):Int)=some v:=by decide
noncomputable abbrev uY:MS:=(aJ (nY (aB 2) (pZ (aB 1) (aD (bA fT [] (aD (aB 0) (aD (mR dJ (aD (aB 1) aF)) aF))) aF)) (mC (.int 1)))
 (fF (Os (aB 3) (aD (aB 2) aF))))
theorem Xe(ns:FI)(hl:FS)(R C:FI)(L:FJ)(x4 x5:FV)(hR0:0<R.length)(hR3:R.length<=3)(hv:∀v∈R,0<=v/\v<3)(hC:C.length=3)(hL:L.length<=9):
  ∃(j v:Nat)(ns':FI),j<R.length/\R[j]?=some (v:Int)/\uY [some (.ref 0),some (.ref 2),some (.ref 3),some (.ref 4),x4,x5] [.lst (li ns),.lst hl,.lst (li R),.lst (li C),.lol (L.map li)]
   = .nx [some (.ref 0),some (.ref 2),some (.ref 3),some (.ref 4),x4,x5] [.lst (li ns'),.lst hl,.lst (li (R.eraseIdx j)),.lst (li (C.set v 1)),.lol ((L++[C.set v 1]).map li)]:=by
 have hr:iN [.lst (li ns),.lst hl,.lst (li R),.lst (li C),.lol (L.map li)] 0 ns:=rfl;obtain⟨t,n1,e1,t0,t1,_⟩:=rE (m:=(R.length:Int)) hr (by omega) (uZ (by omega) (by omega));simp only[mx]at e1;obtain⟨j,rfl⟩:∃j:Nat,t=(j:Int):=⟨t.toNat,by omega⟩;have hj:j<R.length:=by omega
 obtain⟨v,ev⟩:∃v:Nat,R[j]=(v:Int):=⟨R[j].toNat,by have:=hv _ (jm hj);omega⟩;have hv3:v<3:=by have:=hv _ (jm hj);omega
 have hq:R[j]?=some (v:Int):=by rw[bf hj,ev]
 have ep:=abw (S:=[.lst (li n1),.lst hl,.lst (li R),.lst (li C),.lol (L.map li)]) (k:=2) (j:=j) (xs:=li R) (v:=.int v) rfl (by rw[cq,hq];rfl) (by omega);simp only[tw,mx]at ep;have er:(li R).eraseIdx j=li (R.eraseIdx j):=Kk _ _ _;rw[er]at ep;have ei:aY (li C).length (v:Int)=some v:=by
  rw[aw,hC];exact ix3 v hv3
 have ec:(li C).set v (.int 1)=li (C.set v 1):=by simp[li,List.map_set]
 refine⟨j,v,n1,hj,hq,?_⟩;have e1':fT [.ref 0,.pv (.int ((li R).length:Int))] [.lst (li ns),.lst hl,.lst (li R),.lst (li C),.lol (L.map li)]=.ok (.pv (.int (j:Int))) [.lst (li n1),.lst hl,.lst (li R),.lst (li C),.lol (L.map li)]:=by
  rw[aw];exact e1
 have el:(L++[C.set v 1]).map li=L.map li++[li (C.set v 1)]:=by simp
 rw[el];have lz:(L.map li).length<16777216:=by rw[aw];omega
 generalize li n1=NL1,li ns=NL,(j:Int)=J,li R=RL,li (R.eraseIdx j)=RE,li C=CL,li (C.set v 1)=CS,L.map li=LL at *;unfold uY;simp! [bQ,aP,aQ,aO,aR,aH,aN,nY,pT,pZ,Os,Qu,fH,e1',ep,ei,ec,lz]
noncomputable def k6:FK:=[[[0,0,0],[1,0,0],[1,1,0],[1,1,1]],[[0,0,0],[1,0,0],[1,0,1],[1,1,1]],[[0,0,0],[0,1,0],[1,1,0],[1,1,1]],[[0,0,0],[0,1,0],[0,1,1],[1,1,1]],[[0,0,0],[0,0,1],[1,0,1],[1,1,1]],[[0,0,0],[0,0,1],[0,1,1],[1,1,1]]]
theorem afb{R:FI}{j v:Nat}{a b c:Int}(h:R=[a,b,c])(hj:j<R.length)(e:R[j]?=some (v:Int)):(j=0/\(v:Int)=a)\/(j=1/\(v:Int)=b)\/(j=2/\(v:Int)=c):=by
 subst h
 match j,hj,e with
 |0,_,e=>simp at e;exact .inl ⟨rfl,e.symm⟩
 |1,_,e=>simp at e;exact .inr (.inl ⟨rfl,e.symm⟩)
 |2,_,e=>simp at e;exact .inr (.inr ⟨rfl,e.symm⟩)
theorem afe{R:FI}{j v:Nat}{a b:Int}(h:R=[a,b])(hj:j<R.length)(e:R[j]?=some (v:Int)):(j=0/\(v:Int)=a)\/(j=1/\(v:Int)=b):=by
 subst h
 match j,hj,e with
 |0,_,e=>simp at e;exact .inl ⟨rfl,e.symm⟩
 |1,_,e=>simp at e;exact .inr ⟨rfl,e.symm⟩
theorem afk{R:FI}{j v:Nat}{a:Int}(h:R=[a])(hj:j<R.length)(e:R[j]?=some (v:Int)):j=0/\(v:Int)=a:=by
 subst h
 match j,hj,e with
 |0,_,e=>simp at e;exact⟨rfl,e.symm⟩
theorem k3(ns:FI)(hl:FS)(R C:FI)(A:FJ)(a b c:Nat)(x4 x5:FV)(hR:R=[(c:Int)])(hc:c<3)(hC:C.length=3)(hA:A.length<=9)(ks:FK)(hk:A++[C.set c 1]∈ks):
  ∃(xss:FJ)(ns':FI)(C':FI),xss∈ks/\dA [] (gN 4) uY [.int 2] [some (.ref 0),some (.ref 2),some (.ref 3),some (.ref 4),x4,x5] [.lst (li ns),.lst hl,.lst (li R),.lst (li C),.lol (A.map li)]
   = .nx [some (.ref 0),some (.ref 2),some (.ref 3),some (.ref 4),some (.pv (.int 2)),x5] [.lst (li ns'),.lst hl,.lst [],.lst (li C'),.lol (xss.map li)]:=by
 obtain⟨j,v,n1,hj,e,h⟩:=Xe ns hl R C A (some (.pv (.int 2))) x5 (by rw[hR];simp) (by rw[hR];simp) (by rw[hR];simp;omega) hC hA;obtain⟨rfl,ev⟩:=afk hR hj e;have:v=c:=by omega
 subst this;subst hR;refine⟨_,n1,C.set v 1,hk,?_⟩;rw[gW];simp only[gN,tw,mx];rw[h];exact iA
theorem k2(ns:FI)(hl:FS)(R C:FI)(A:FJ)(b c:Nat)(x4 x5:FV)(hR:R=[(b:Int),(c:Int)])(hb:b<3)(hc:c<3)(hC:C.length=3)(hA:A.length<=8)(ks:FK)(h1:A++[C.set b 1]++[(C.set b 1).set c 1]∈ks)(h2:A++[C.set c 1]++[(C.set c 1).set b 1]∈ks):
  ∃(xss:FJ)(ns':FI)(C':FI),xss∈ks/\dA [] (gN 4) uY [.int 1,.int 2] [some (.ref 0),some (.ref 2),some (.ref 3),some (.ref 4),x4,x5] [.lst (li ns),.lst hl,.lst (li R),.lst (li C),.lol (A.map li)]
   = .nx [some (.ref 0),some (.ref 2),some (.ref 3),some (.ref 4),some (.pv (.int 2)),x5] [.lst (li ns'),.lst hl,.lst [],.lst (li C'),.lol (xss.map li)]:=by
 obtain⟨j,v,n1,hj,e,h⟩:=Xe ns hl R C A (some (.pv (.int 1))) x5 (by rw[hR];simp) (by rw[hR];simp) (by rw[hR];simp;omega) hC (by omega);rw[gW];simp only[gN,tw,mx];rw[h];rcases afe hR hj e with⟨rfl,ev⟩|⟨rfl,ev⟩
 .have:v=b:=by omega
  subst this;subst hR;exact k3 n1 hl _ (C.set v 1) _ 0 0 c _ x5 rfl hc (by rw[kq];exact hC) (by simp;omega) ks h1
 .have:v=c:=by omega
  subst this;subst hR;exact k3 n1 hl _ (C.set v 1) _ 0 0 b _ x5 rfl hb (by rw[kq];exact hC) (by simp;omega) ks h2
theorem k1(ns:FI)(hl:FS)(x4 x5:FV):
  ∃(xss:FJ)(ns':FI)(C':FI),xss∈k6/\dA [] (gN 4) uY [.int 0,.int 1,.int 2] [some (.ref 0),some (.ref 2),some (.ref 3),some (.ref 4),x4,x5] [.lst (li ns),.lst hl,.lst (li [0,1,2]),.lst (li [0,0,0]),.lol ([[0,0,0]].map li)]
   = .nx [some (.ref 0),some (.ref 2),some (.ref 3),some (.ref 4),some (.pv (.int 2)),x5] [.lst (li ns'),.lst hl,.lst [],.lst (li C'),.lol (xss.map li)]:=by
 obtain⟨j,v,n1,hj,e,h⟩:=Xe ns hl [0,1,2] [0,0,0] [[0,0,0]] (some (.pv (.int 0))) x5 (by decide) (by decide) (by decide) rfl (by decide);rw[gW];simp only[gN,tw,mx];rw[h];rcases afb rfl hj e with⟨rfl,ev⟩|⟨rfl,ev⟩|⟨rfl,ev⟩
 .have:v=0:=by omega
  subst this;exact k2 n1 hl _ [1,0,0] _ 1 2 _ x5 rfl (by decide) (by decide) rfl (by decide) k6 (by decide) (by decide)
 .have:v=1:=by omega
  subst this;exact k2 n1 hl _ [0,1,0] _ 0 2 _ x5 rfl (by decide) (by decide) rfl (by decide) k6 (by decide) (by decide)
 .have:v=2:=by omega
  subst this;exact k2 n1 hl _ [0,0,1] _ 0 1 _ x5 rfl (by decide) (by decide) rfl (by decide) k6 (by decide) (by decide)
theorem Yu:Pl [.lst a,.lst b]:=λj o e=>by
 match j,e with
 |0,e=>cases e;exact⟨_,rfl⟩
 |1,e=>cases e;exact⟨_,rfl⟩
 |j+2,e=>simp at e
theorem sK(S:aI){n:Nat}(h:n<=9):kT [.pv (.int (n:Int))] S=.ok (eU 0 n,[]) S:=by
 have e:kT [.pv (.int (n:Int))] S=@ite _ ((n:Int)<=16777216/\-16777216<=(n:Int)) (CD _) (.ok (eU 0 (n:Int).toNat,[]) S) .fail:=rfl;rw[e,if_pos ⟨by omega,by omega⟩,qm]
theorem Fr{n k:Nat}{L:FI}{b:Int}(hb:0<b)(hl:L.length=n)(hL:∀x∈L,Bd k x)(bb:Bd k b):∃(zs:FI)(z:Int),low (L++[b])=zs++[z]/\Pq n k zs z/\∀j,j<n->zs.getD j 0*b=L.getD j 0*z:=by
 obtain⟨zs,z,g,e,hg,hz,g1,g2,hzl⟩:=xQ L hb;have hlow:=Vc L hb;have hbd:=xE (k:=k) (ns:=L++[b]) λm hm=>by
  rcases dk.mp hm with y |y
  .exact hL m y
  .have:m=b:=by simpa using y
   rw[this];exact bb
 rw[e]at hlow hbd;refine⟨zs,z,e,⟨hzl.trans hl,hz,hlow,λx hx=>hbd x (ng _ hx),hbd z (nU zs z)⟩,λj hj=>?_⟩;have hj':j<zs.length:=by omega
 have e1:L.getD j 0=g*zs.getD j 0:=by
  rw[g1];simp[cg,hj']
 rw[e1,g2];grind
structure Sp(u:Int×Int):Prop where
 p:0<u.1
 q:0<u.2
 bp:Bd 30 u.1
 bq:Bd 30 u.2
noncomputable def dF:List (Int×Int)->FI->FI
 |[u,v],[a,b]=>low ([a*u.1*v.2,b*v.1*u.2]++[1*u.2*v.2])
 |[u,v,t],[a,b,c]=>low ([a*u.1*(v.2*t.2),b*v.1*(u.2*t.2),c*t.1*(u.2*v.2)]++[1*u.2*v.2*t.2])
 |_,_=>[]
noncomputable def oP:List (Int×Int)->Nat->Int
 |[u,v],0=>u.1*v.2
 |[u,v],1=>v.1*u.2
 |[u,v,t],0=>u.1*(v.2*t.2)
 |[u,v,t],1=>v.1*(u.2*t.2)
 |[u,v,t],2=>t.1*(u.2*v.2)
 |_,_=>1
noncomputable def jI:List (Int×Int)->Int
 |[u,v]=>1*u.2*v.2
 |[u,v,t]=>1*u.2*v.2*t.2
 |_=>1
theorem ac5{n k:Nat}(hk:k<=60)(hn:n=2\/n=3)(S:aI){fs:List (Int×Int)}{xs:FI}(hf:fs.length=n)(h:∀u∈fs,Sp u)(hx:xs.length=n)(hb:∀x∈xs,Bd k x){V:PV}(hV:V=lv xs\/V=tv xs):nV [.pv V,.pv (.lst (fs.map fv))] S=.ok (.pv (tv (dF fs xs))) S/\Gu n (k+97) (dF fs xs)/\iG n (oP fs) (λ_=>0) (jI fs) (xs++[1]) (dF fs xs):=by
 have o1:Bd 1 (1:Int):=by unfold Bd;decide
 rcases hn with rfl |rfl
 .match fs,hf,h,xs,hx,hb,hV with
  |[u,v],_,h,[a,b],_,hb,hV=>
   have hu:=h u (by simp);have hv:=h v (by simp);have ba:=hb a (by simp);have bb:=hb b (by simp);have m1:=mk o1 hu.bq (by omega) (by omega);have m2:=mk (o1.mul hu.bq) hv.bq (by omega) (by omega);have d1:(1*u.2*v.2).fdiv u.2=v.2:=by rw[jd];exact oZ (by have:=hu.q;omega)
   have d2:(1*u.2*v.2).fdiv v.2=u.2:=by rw[jd,ga];exact oZ (by have:=hv.q;omega)
   have q1:dI (.int (1*u.2*v.2)) (.int u.2)=some (.int v.2):=by
    have e:=mD (i:=1*u.2*v.2) (j:=u.2) ⟨by have:=hu.q;omega,hu.bq.mono (by omega)⟩;rw[d1]at e;exact e
   have q2:dI (.int (1*u.2*v.2)) (.int v.2)=some (.int u.2):=by
    have e:=mD (i:=1*u.2*v.2) (j:=v.2) ⟨by have:=hv.q;omega,hv.bq.mono (by omega)⟩;rw[d2]at e;exact e
   have m3:=mk ba hu.bp (by omega) (by omega);have m4:=mk (ba.mul hu.bp) hv.bq (by omega) (by omega);have m5:=mk bb hv.bp (by omega) (by omega);have m6:=mk (bb.mul hv.bp) hu.bq (by omega) (by omega);have pE:0<1*u.2*v.2:=az (az (by omega) hu.q) hv.q;have bL:∀x∈[a*u.1*v.2,b*v.1*u.2],Bd (k+97) x:=by
    simp;exact⟨((ba.mul hu.bp).mul hv.bq).mono (by omega),((bb.mul hv.bp).mul hu.bq).mono (by omega)⟩
   have bE:Bd (k+97) (1*u.2*v.2):=((o1.mul hu.bq).mul hv.bq).mono (by omega);obtain⟨zs,z,el,Z,rel⟩:=Fr (n:=2) pE rfl bL bE;have ew:=qU ([a*u.1*v.2,b*v.1*u.2]++[1*u.2*v.2]) S (by
    intro x hx;rcases dk.mp hx with y |y
    .exact(bL x y).mono (by omega)
    .have:x=1*u.2*v.2:=by simpa using y
     rw[this];exact bE.mono (by omega))
   have es:dF [u,v] [a,b]=zs++[z]:=el;refine⟨?_,by rw[es];exact⟨zs,z,rfl,Z⟩,[a,b],1,zs,z,rfl,es,rfl,Z.len,by decide,Z.pos,λj hj=>?_⟩
   .rw[el]at ew
    rw[es];simp only[cf,ig,vh,ox]at ew;generalize hQ:1*u.2*v.2=Q at *;generalize hA:a*u.1*v.2=A at *;generalize hB:b*v.1*u.2=B at *;unfold nV aZ wT;simp only[lv,li,tv,cf,ig]at hV⊢;generalize (zs++[z]).map PV.int=ZL at *;simp only[jd]at m1 m2 hQ;rcases hV with rfl |rfl<;>simp! [aE,aX,aY,aK,aP,aQ,aO,aR,aH,aN,cX,bP,cH,gW,iA,gN,m1,m2,bH,cD,iV,mU,eX,fR,fD,gT,cG,eB,m3,m4,m5,m6,q1,q2,ew]
   .have r:=rel j hj
    match j,hj with
    |0,_=>
     have r:zs.getD 0 0*(1*u.2*v.2)=a*u.1*v.2*z:=r;show zs.getD 0 0*(1*u.2*v.2*1)=(u.1*v.2*a+0*1)*z;rw[jt,r];grind
    |1,_=>
     have r:zs.getD 1 0*(1*u.2*v.2)=b*v.1*u.2*z:=r;show zs.getD 1 0*(1*u.2*v.2*1)=(v.1*u.2*b+0*1)*z;rw[jt,r];grind
 .match fs,hf,h,xs,hx,hb,hV with
  |[u,v,t],_,h,[a,b,c],_,hb,hV=>
   have hu:=h u (by simp);have hv:=h v (by simp);have ht:=h t (by simp);have ba:=hb a (by simp);have bb:=hb b (by simp);have bc:=hb c (by simp);have m1:=mk o1 hu.bq (by omega) (by omega);have m2:=mk (o1.mul hu.bq) hv.bq (by omega) (by omega);have m2':=mk ((o1.mul hu.bq).mul hv.bq) ht.bq (by omega) (by omega);have d1:(1*u.2*v.2*t.2).fdiv u.2=v.2*t.2:=by rw[jd,xf];exact oZ (by have:=hu.q;omega)
   have d2:(1*u.2*v.2*t.2).fdiv v.2=u.2*t.2:=by rw[show 1*u.2*v.2*t.2=v.2*(u.2*t.2) by grind];exact oZ (by have:=hv.q;omega)
   have d3:(1*u.2*v.2*t.2).fdiv t.2=u.2*v.2:=by rw[show 1*u.2*v.2*t.2=t.2*(u.2*v.2) by grind];exact oZ (by have:=ht.q;omega)
   have q1:dI (.int (1*u.2*v.2*t.2)) (.int u.2)=some (.int (v.2*t.2)):=by
    have e:=mD (i:=1*u.2*v.2*t.2) (j:=u.2) ⟨by have:=hu.q;omega,hu.bq.mono (by omega)⟩;rw[d1]at e;exact e
   have q2:dI (.int (1*u.2*v.2*t.2)) (.int v.2)=some (.int (u.2*t.2)):=by
    have e:=mD (i:=1*u.2*v.2*t.2) (j:=v.2) ⟨by have:=hv.q;omega,hv.bq.mono (by omega)⟩;rw[d2]at e;exact e
   have q3:dI (.int (1*u.2*v.2*t.2)) (.int t.2)=some (.int (u.2*v.2)):=by
    have e:=mD (i:=1*u.2*v.2*t.2) (j:=t.2) ⟨by have:=ht.q;omega,ht.bq.mono (by omega)⟩;rw[d3]at e;exact e
   have m3:=mk ba hu.bp (by omega) (by omega);have m4:=mk (ba.mul hu.bp) (hv.bq.mul ht.bq) (by omega) (by omega);have m5:=mk bb hv.bp (by omega) (by omega);have m6:=mk (bb.mul hv.bp) (hu.bq.mul ht.bq) (by omega) (by omega);have m7:=mk bc ht.bp (by omega) (by omega);have m8:=mk (bc.mul ht.bp) (hu.bq.mul hv.bq) (by omega) (by omega);have pE:0<1*u.2*v.2*t.2:=az (az (az (by omega) hu.q) hv.q) ht.q;have bL:∀x∈[a*u.1*(v.2*t.2),b*v.1*(u.2*t.2),c*t.1*(u.2*v.2)],Bd (k+97) x:=by
    simp;exact⟨((ba.mul hu.bp).mul (hv.bq.mul ht.bq)).mono (by omega),((bb.mul hv.bp).mul (hu.bq.mul ht.bq)).mono (by omega),((bc.mul ht.bp).mul (hu.bq.mul hv.bq)).mono (by omega)⟩
   have bE:Bd (k+97) (1*u.2*v.2*t.2):=(((o1.mul hu.bq).mul hv.bq).mul ht.bq).mono (by omega);obtain⟨zs,z,el,Z,rel⟩:=Fr (n:=3) pE rfl bL bE;have ew:=qU ([a*u.1*(v.2*t.2),b*v.1*(u.2*t.2),c*t.1*(u.2*v.2)]++[1*u.2*v.2*t.2]) S (by
    intro x hx;rcases dk.mp hx with y |y
    .exact(bL x y).mono (by omega)
    .have:x=1*u.2*v.2*t.2:=by simpa using y
     rw[this];exact bE.mono (by omega))
   have es:dF [u,v,t] [a,b,c]=zs++[z]:=el;refine⟨?_,by rw[es];exact⟨zs,z,rfl,Z⟩,[a,b,c],1,zs,z,rfl,es,rfl,Z.len,by decide,Z.pos,λj hj=>?_⟩
   .rw[el]at ew
    rw[es];simp only[cf,ig,vh,ox]at ew;generalize hQ:1*u.2*v.2*t.2=Q at *;generalize hA:a*u.1*(v.2*t.2)=A at *;generalize hB:b*v.1*(u.2*t.2)=B at *;generalize hC:c*t.1*(u.2*v.2)=C at *;unfold nV aZ wT;simp only[lv,li,tv,cf,ig]at hV⊢;generalize (zs++[z]).map PV.int=ZL at *;simp only[jd]at m1 m2 m2' hQ;rcases hV with rfl |rfl<;>simp! [aE,aX,aY,aK,aP,aQ,aO,aR,aH,aN,cX,bP,cH,gW,iA,gN,m1,m2,m2',bH,cD,iV,mU,eX,fR,fD,gT,cG,eB,m3,m4,m5,m6,m7,m8,q1,q2,q3,ew]
   .have r:=rel j hj
    match j,hj with
    |0,_=>
     have r:zs.getD 0 0*(1*u.2*v.2*t.2)=a*u.1*(v.2*t.2)*z:=r;show zs.getD 0 0*(1*u.2*v.2*t.2*1)=(u.1*(v.2*t.2)*a+0*1)*z;rw[jt,r];grind
    |1,_=>
     have r:zs.getD 1 0*(1*u.2*v.2*t.2)=b*v.1*(u.2*t.2)*z:=r;show zs.getD 1 0*(1*u.2*v.2*t.2*1)=(v.1*(u.2*t.2)*b+0*1)*z;rw[jt,r];grind
    |2,_=>
     have r:zs.getD 2 0*(1*u.2*v.2*t.2)=c*t.1*(u.2*v.2)*z:=r;show zs.getD 2 0*(1*u.2*v.2*t.2*1)=(t.1*(u.2*v.2)*c+0*1)*z;rw[jt,r];grind
theorem wX{n:Nat}(hn:n=2\/n=3)(S:aI){fs:List (Int×Int)}{xs:FI}(hf:fs.length=n)(h:∀u∈fs,Sp u)(hx:xs.length=n)(hb:∀x∈xs,-8<x/\x<8):nV [.pv (lv xs),.pv (.lst (fs.map fv))] S=.ok (.pv (tv (dF fs xs))) S/\Gu n 100 (dF fs xs)/\iG n (oP fs) (λ_=>0) (jI fs) (xs++[1]) (dF fs xs):=ac5 (k:=3) (by decide) hn S hf h hx (λx hh=>Bd.of (n:=7) (by have:=hb x hh;omega) (by decide)) (.inl rfl)
theorem Wo{n:Nat}(hn:n=2\/n=3){fs:List (Int×Int)}(hf:fs.length=n)(h:∀u∈fs,Sp u):0<jI fs/\∀j,j<n->0<oP fs j:=by
 rcases hn with rfl |rfl
 .match fs,hf,h with
  |[u,v],_,h=>
   have hu:=h u (by simp);have hv:=h v (by simp);refine⟨az (az (by decide) hu.q) hv.q,λj hj=>?_⟩
   match j,hj with
   |0,_=>exact az hu.p hv.q
   |1,_=>exact az hv.p hu.q
 .match fs,hf,h with
  |[u,v,t],_,h=>
   have hu:=h u (by simp);have hv:=h v (by simp);have ht:=h t (by simp);refine⟨az (az (az (by decide) hu.q) hv.q) ht.q,λj hj=>?_⟩
   match j,hj with
   |0,_=>exact az hu.p (az hv.q ht.q)
   |1,_=>exact az hv.p (az hu.q ht.q)
   |2,_=>exact az ht.p (az hu.q hv.q)
theorem O6{n:Nat}(hn:n=2\/n=3){fs:List (Int×Int)}(hf:fs.length=n)(h:∀u∈fs,Sp u){xss:FJ}(w:Rw n xss):dU (xss.map (dF fs))≠0:=λz=>by
 have af:∀xs∈xss,iG n (oP fs) (λ_=>0) (jI fs) (xs++[1]) (dF fs xs):=λxs hx=>(wX hn [] hf h (w.l xs hx) (λy hy=>by have:=w.b xs hx y hy;omega)).2.2;have gu:∀us∈xss.map (dF fs),Gu n 100 us:=λus hu=>by
  obtain⟨xs,hx,rfl⟩:=dq.mp hu;exact(wX hn [] hf h (w.l xs hx) (λy hy=>by have:=w.b xs hx y hy;omega)).2.1
 have p2:=rP gu;obtain⟨pe,pa⟩:=Wo hn hf h;have nz:=w.nz;have wl:=w.len;clear w;rcases hn with rfl |rfl
 .match xss,wl,af,nz,p2,z with
  |[a,b,c],_,af,nz,p2,z=>
   have e:=Hf (af a (by simp)) (af b (by simp)) (af c (by simp));have z:dU [dF fs a,dF fs b,dF fs c]=0:=z;rw[z,oy]at e;exact jl (jl (cv (az (az (pa 0 (by decide)) (pa 1 (by decide))) pe)) nz) (cv p2) e.symm
 .match xss,wl,af,nz,p2,z with
  |[a,b,c,d],_,af,nz,p2,z=>
   have e:=Ff (af a (by simp)) (af b (by simp)) (af c (by simp)) (af d (by simp));have z:dU [dF fs a,dF fs b,dF fs c,dF fs d]=0:=z;rw[z,oy]at e;exact jl (jl (cv (az (az (az (pa 0 (by decide)) (pa 1 (by decide))) (pa 2 (by decide))) pe)) nz) (cv p2) e.symm
noncomputable abbrev lB:MS:=(aJ (aU 5 (bA oA [] (aD (aB 0) (aD (mR dJ (aD (aB 2) aF)) aF))))
 (fF (gO (aB 3) (aD (bA oY [] (aD (bH ["_law_corner"] [(5,"_law_far_here"),(2,"_law_stretch_here")] (bP (aB 4)) (gN 0) (bA nS [] (aD (bA nV [] (aD (aB 0) (aD (aB 2) aF))) (aD (aB 1) (aD (mC (.int 1)) aF))))) aF)) aF))))
noncomputable def bd(p:List Nat):List Nat:=if p.head?=some 45 then p.tail else p
noncomputable def kE(k:FJ):PV:=.tup (k.map λr:FI=>PV.tup (r.map PV.int))
noncomputable abbrev vI:Type:=FJ×Int
noncomputable def Ue:List vI->FJ->Int
 |[],_=>0
 |c::C,k=>(if c.1=k then c.2 else 0)+Ue C k
structure Tb(kvs:List (PV×PV))(C:List vI):Prop where
 int:∀x∈kvs,∃k i,x=(kE k,.int i)
 nd:(kvs.map (·.1)).Nodup
 val:∀k,(kE k,PV.int (Ue C k))∈kvs\/((∀v,(kE k,v)∉kvs)/\Ue C k=0)
 len:kvs.length<=C.length
noncomputable def gU:FI->Int
 |[]=>0
 |n::r=>if n=0 then gU r else sg n
noncomputable def cE(ns:FI):FI:=(low ns).map (gU ns*·)
theorem Sj(S:aI):∀(ns:FI)(x:FV),eK [] (gN 0) (bG (aC gM (aB 0) (mC (.int 0)))) (aB 0) (ns.map .int) [x] S=.ok ((ns.filter (λx=>!decide (x=0))).map .int) S
 |[],x=>zV
 |n::ns,x=>by
  have ih:=Sj S ns (some (.pv (.int n)));show eK [] _ _ _ (.int n::ns.map .int) _ S=_;rw[zT]
  by_cases h:n=0
  .subst h
   simp! [gN,aE,aX,aY,aK,aP,aQ,aO,aR,aH,aN,ih]
  .have hb:(!n==0)=true:=by simpa using h
   simp! [gN,aE,aX,aY,aK,aP,aQ,aO,aR,aH,aN,hb,ih,h]
theorem Nk:∀{ns:FI},(∃n∈ns,n≠0)->∃m L,ns.filter (λx=>!decide (x=0))=m::L/\sg m=gU ns
 |[],h=>by
  obtain⟨n,h,_⟩:=h;cases h
 |n::ns,h=>by
  by_cases e:n=0
  .subst e
   obtain⟨m,L,e1,e2⟩:=Nk (ns:=ns) (by
    obtain⟨k,hk,nk⟩:=h;rcases cr.mp hk with rfl |hk
    .exact absurd rfl nk
    .exact⟨k,hk,nk⟩)
   exact⟨m,L,by simpa using e1,by rw[e2];simp[gU]⟩
  .exact⟨n,ns.filter (λx=>!decide (x=0)),by simp[e],by simp[gU,e]⟩
theorem Me{ns:FI}(h:∃n∈ns,n≠0):gl ns 0≠0:=λe=>by
 obtain⟨n,hn,z⟩:=h;obtain⟨m,hm⟩:=(kO ns 0).2 n hn;rw[e]at hm;exact z (by rw[hm,oy])
theorem V7(ns:FI)(S:aI)(hb:∀n∈ns,Bd 8000 n)(nz:∃n∈ns,n≠0):sQ [.pv (.lst (ns.map .int))] S=.ok (.pv (tv (cE ns))) S:=by
 obtain⟨m,L,e1,e2⟩:=Nk nz;have ef:=Sj S ns none;rw[e1]at ef;have er:=Pi ns S hb (Me nz);have ec:=Ll S m (low ns) none;rw[e2]at ec;have i0:aE (.lst ((m::L).map .int)) (.int 0)=some (.int m):=rJ (j:=0) rfl;unfold sQ aZ zR cE;generalize (m::L).map PV.int=ML at *;simp! [bQ,aP,aQ,aO,aR,aH,aN,kN,bP,cH,cD,ef,i0,er,bH,ec]
theorem J5{ns:FI}:cE (ns.map (- ·))=cE ns:=by
 unfold cE;have hf:∀l:FI,gU (l.map (- ·))=-gU l:=λl=>by
  induction l with
  |nil=>rfl
  |cons n l ih=>
   rw[cf];unfold gU
   by_cases h:n=0
   .subst h
    simpa using ih
   .rw[if_neg h,if_neg (by omega),abv]
 rw[R8,hf,ff];refine ij λn _=>?_;simp[BK]
noncomputable def mL:FI->FI->FI
 |[x0,y0,w0],[x1,y1,w1]=>[x1*w0-x0*w1,y1*w0-y0*w1]
 |[x0,y0,z0,w0],[x1,y1,z1,w1]=>[x1*w0-x0*w1,y1*w0-y0*w1,z1*w0-z0*w1]
 |_,_=>[]
theorem afo{x0 y0 w0 x1 y1 w1:Int}:mL [x0,y0,w0] [x1,y1,w1]=[x1*w0-x0*w1,y1*w0-y0*w1]:=rfl
theorem afq{x0 y0 z0 w0 x1 y1 z1 w1:Int}:mL [x0,y0,z0,w0] [x1,y1,z1,w1]=[x1*w0-x0*w1,y1*w0-y0*w1,z1*w0-z0*w1]:=rfl
noncomputable def Kg:FI->FI->FI
 |[a,b,c],[d,e,f]=>[b*f-c*e,c*d-a*f,a*e-b*d]
 |_,_=>[]
theorem afn{a b c d e f:Int}:Kg [a,b,c] [d,e,f]=[b*f-c*e,c*d-a*f,a*e-b*d]:=rfl
noncomputable def Zf:FJ->FI
 |[p,q]=>(match mL p q with
  |[a,b]=>[-b,a]
  |_=>[])
 |[p,q,r]=>Kg (mL p q) (mL p r)
 |_=>[]
theorem afp{p q:FI}:Zf [p,q]=(match mL p q with |[a,b]=>[-b,a] |_=>[]):=rfl
theorem afr{p q r:FI}:Zf [p,q,r]=Kg (mL p q) (mL p r):=rfl
noncomputable def sd(pi s e:FI)(n:Int):List vI:=[([pi,cE (mL s e),s],n),([pi,cE (mL s e),e],-n)]
noncomputable def sdU:FJ->List (FI×FI)
 |[p,q]=>[(p,q)]
 |[a,b,c]=>[(c,a),(a,b),(b,c)]
 |_=>[]
noncomputable def cW(w:FJ)(n:Int):List vI:=(sdU w).flatMap λx=>sd (cE (Zf w)) x.1 x.2 n
noncomputable def jX:FJ->FK
 |[a,b,c]=>[[a,b],[b,c],[c,a]]
 |[a,b,c,d]=>[[b,c,d],[a,d,c],[a,b,d],[a,c,b]]
 |_=>[]
theorem F7{uss:FJ}(h:uss.length=3\/uss.length=4)(S:aI):rD [.pv (px uss)] S=.ok (.pv (.lst ((jX uss).map λw=>.tup (w.map tv)))) S:=by
 unfold rD aZ Rc;rcases h with h |h
 .match uss,h with
  |[a,b,c],_=>
   generalize hA:tv a=TA;generalize hB:tv b=TB;generalize hC:tv c=TC;simp! [aE,aX,aY,aK,aP,aQ,aO,aR,aH,aN,jX,hA,hB,hC,bH,cD,bP,cH,fR,fD,gN]
 .match uss,h with
  |[a,b,c,d],_=>
   generalize hA:tv a=TA;generalize hB:tv b=TB;generalize hC:tv c=TC;generalize hD:tv d=TD;simp! [aE,aX,aY,aK,aP,aQ,aO,aR,aH,aN,jX,hA,hB,hC,hD,bH,cD,bP,cH,fR,fD,gN]
theorem ado{k:Int}(h:k≠0):sg k*sg k=1:=by
 unfold sg;(repeat' split)<;>omega
theorem Em{k:Int}(hk:0<k)(l:FI):cE (l.map (k*·))=cE l:=by
 by_cases z:gl l 0=0
 .have e:l.map (k*·)=l:=by
   have h:=Jc z;clear z
   induction l with
   |nil=>rfl
   |cons n l ih=>rw[cf,ih λm hm=>h m (cj _ hm),h n (ce ..),sf]
  rw[e]
 .have hf:∀l:FI,gU (l.map (k*·))=gU l:=λl=>by
   induction l with
   |nil=>rfl
   |cons n l ih=>
    rw[cf];unfold gU
    by_cases h:n=0
    .subst h
     simpa using ih
    .rw[if_neg h,if_neg (jl (by omega) h),Od hk]
  unfold cE;rw[qT hk l z,hf]
theorem Ol{k:Int}(hk:k≠0)(l:FI):cE (l.map (k*·))=cE l:=by
 by_cases h:0<k
 .exact Em h l
 .have e:l.map (k*·)=(l.map ((-k)*·)).map (- ·):=by
   rw[ff];refine ij λn _=>?_;show k*n=-(-k*n);rw[kr,Int.neg_neg]
  rw[e,J5,Em (by omega) l]
theorem Km(ns:FI):∃g:Int,ns=(cE ns).map (g*·):=by
 by_cases z:gl ns 0=0
 .have h:=Jc z
  refine⟨0,?_⟩;have hl:(cE ns).length=ns.length:=by unfold cE;rw[aw,Lp]
  generalize cE ns=D at hl;clear z
  induction ns generalizing D with
  |nil=>cases D with
   |nil=>rfl
   |cons a D=>simp at hl
  |cons n ns ih=>
   cases D with
   |nil=>simp at hl
   |cons a D=>
    rw[cf,<-ih (λm hm=>h m (cj _ hm)) D (by simpa using hl),h n (ce ..),oy]
 .obtain⟨g,_,e⟩:=aaI ns
  have hf:gU ns*gU ns=1:=by
   have:∀l:FI,gl l 0≠0->gU l*gU l=1:=λl=>by
    induction l with
    |nil=>intro h;exact absurd rfl h
    |cons n l ih=>
     intro h;unfold gU
     by_cases e:n=0
     .subst e
      rw[if_pos rfl];exact ih (by simpa[gl]using h)
     .rw[if_neg e]
      exact ado e
   exact this ns z
  refine⟨g*gU ns,?_⟩;unfold cE;rw[ff];refine e.trans ?_;refine ij λn _=>?_;show g*n=g*gU ns*(gU ns*n);grind
theorem l3{a b c d e f:Int}(h:a=d)(g:b=e)(i:c=f):[a,b,c]=[d,e,f]:=by rw[h,g,i]
theorem i0{i:Int}(h:i≠0):(i:Rat)≠0:=λz=>h (u4.mp (z.trans (by rfl:(0:Rat)=((0:Int):Rat))))
theorem m0{a b:Rat}(ha:a≠0)(hb:b≠0):a*b≠0:=λz=>by
 rcases Rat.mul_eq_zero.mp z with z |z
 .exact ha z
 .exact hb z
noncomputable def rs:List (Int×Int)->Rat
 |[]=>0
 |u::L=>(u.1:Rat)/(u.2:Rat)+rs L
theorem Dt{k:Nat}{u v:Int×Int}(h:Fq k u)(g:Fq k v):((pl u v).1:Rat)/((pl u v).2:Rat)=(u.1:Rat)/u.2+(v.1:Rat)/v.2:=by
 obtain⟨_,f,e⟩:=Ke h g;have r:=congrArg (λi:Int=>(i:Rat)) e;simp only[km,ES]at r;have n1:=i0 (cv h.pos);have n2:=i0 (cv g.pos);have n3:=i0 (cv f.pos);have n4:=m0 n1 n2;grind
theorem Yq{k:Nat}:∀(L:List (Int×Int)),(∀u∈L,Fq k u)->rs (bR L)=rs L
 |[],_=>rfl
 |[_],_=>rfl
 |a::b::L,h=>by
  show((pl a b).1:Rat)/((pl a b).2:Rat)+rs (bR L)=(a.1:Rat)/a.2+((b.1:Rat)/b.2+rs L);rw[Yq L λu hu=>h u (by simp[hu]),Dt (h a (by simp)) (h b (by simp))];grind
theorem Uq:∀(m k:Nat)(L:List (Int×Int)),(∀u∈L,Fq k u)->rs (fP m L)=rs L/\∃l,∀u∈fP m L,Fq l u
 |0,k,L,h=>⟨rfl,k,h⟩
 |m+1,k,L,h=>by
  unfold fP;split
  .exact⟨rfl,k,h⟩
  .obtain⟨a,b⟩:=Uq m (2*k+1) (bR L) (Ce L h)
   exact⟨a.trans (Yq L h),b⟩
theorem Dp:∀(m:Nat)(L:List (Int×Int)),L.length<=2^m->(fP m L).length<=1
 |0,L,h=>h
 |m+1,L,h=>by
  unfold fP;split
  .assumption
  .refine Dp m (bR L) ?_
   rw[Dc];have:2^(m+1)=2*2^m:=by rw[wz];omega
   omega
theorem abm{k:Nat}{L:List (Int×Int)}(hl:L.length<=64)(h:∀u∈L,Fq k u):((qF L).1:Rat)/((qF L).2:Rat)=rs L/\∃l,Fq l (qF L):=by
 obtain⟨e,l,f⟩:=Uq 6 k L h;have z:=Dp 6 L hl;unfold qF;rw[<-e]
 match fP 6 L,z,f with
 |[],_,_=>exact⟨by simp only[rs];grind,1,by decide,by unfold Bd;decide,by unfold Bd;decide,by decide⟩
 |[u],_,f=>exact⟨by simp only[rs];grind,l,f u (by simp)⟩
theorem Ys{k l:Nat}{u v:Int×Int}(h:Fq k u)(g:Fq l v)(e:(u.1:Rat)/u.2=(v.1:Rat)/v.2):u=v:=by
 have n1:=i0 (cv h.pos);have n2:=i0 (cv g.pos);have c:(u.1:Rat)*v.2=v.1*u.2:=by grind
 rw[<-km,<-km]at c;have c:=Im (cv h.pos) (cv g.pos) (u4.mp c);have s:∀{p q:Int},0<q->bi p q=1->fr p q=[p,q]:=λ{p q} hq hg=>by
  unfold fr;rw[if_neg (by omega)];refine aaL ?_;show((bi ((bi 0 p:Nat):Int) q:Nat):Int)=1;rw[ui];show((Nat.gcd ((p.natAbs:Int)).natAbs q.natAbs:Nat):Int)=1;rw[f6];exact congrArg (λx:Nat=>(x:Int)) hg
 rw[s h.pos h.lo,s g.pos g.lo]at c;injection c with c1 c2;injection c2 with c2;exact jn c1 c2
theorem Is{κ α:Type}{enc:κ->PV}(inj:∀a b,enc a=enc b->a=b)(f:κ->α){k:κ}{ks:List κ}(h:k∈ks):∃i,jT (ks.map λj=>(enc j,f j)) (enc k)=some i/\ks[i]?=some k:=by
 obtain⟨i,hi,e⟩:=xk.mp h;obtain⟨j,hj⟩:=Cd (kvs:=ks.map λj=>(enc j,f j)) (k:=enc k) (i:=i) (by simp[hi,e]);refine⟨j,hj,?_⟩;obtain⟨v,hv⟩:=rC hj;rw[cq]at hv;cases z:ks[j]? with
 |none=>rw[z]at hv;cases hv
 |some x=>
  rw[z]at hv;have:enc x=enc k:=congrArg u5 (ck hv);rw[inj _ _ this]
theorem aa5{κ α:Type}{enc:κ->PV}(inj:∀a b,enc a=enc b->a=b)(f:κ->α){k:κ}{ks:List κ}(h:k∉ks):jT (ks.map λj=>(enc j,f j)) (enc k)=none:=by
 cases z:jT (ks.map λj=>(enc j,f j)) (enc k)with
 |none=>rfl
 |some i=>
  obtain⟨v,hv⟩:=rC z;rw[cq]at hv;cases y:ks[i]? with
  |none=>rw[y]at hv;cases hv
  |some x=>
   rw[y]at hv;have:enc x=enc k:=congrArg u5 (ck hv);exact absurd (inj _ _ this▸fy y) h
theorem aaK{κ α:Type}{enc:κ->PV}(inj:∀a b,enc a=enc b->a=b)(f:κ->α){k:κ}{ks:List κ}(h:k∈ks):oK (ks.map λj=>(enc j,f j)) (enc k)=some (f k):=by
 obtain⟨i,e,g⟩:=Is inj f h;unfold oK;rw[e];simp[g]
theorem Z8{κ α:Type}[DecidableEq κ]{enc:κ->PV}(f:κ->α){k:κ}{ks:List κ}(nd:ks.Nodup){i:Nat}(g:ks[i]?=some k)(v:α):(ks.map λj=>(enc j,f j)).set i (enc k,v)=ks.map λj=>(enc j,if j=k then v else f j):=by
 refine mf λj=>?_;have hi:=(da.mp g).1;rw[DU,cq,cq]
 by_cases e:i=j
 .subst e
  rw[if_pos rfl,if_pos (by rw[aw];exact hi),g];simp
 .rw[if_neg e]
  cases y:ks[j]? with
  |none=>rfl
  |some x=>
   have:x≠k:=λz=>e (nodup_idx nd g (z▸y));simp[this]
theorem aab{κ:Type}[DecidableEq κ]{enc:κ->PV}(inj:∀a b,enc a=enc b->a=b)(f:κ->FS){k:κ}{ks:List κ}(nd:ks.Nodup)(h:k∈ks)(v:PV):mH (ks.map λj=>(enc j,f j)) (enc k) v=ks.map λj=>(enc j,if j=k then f j++[v] else f j):=by
 obtain⟨i,e,g⟩:=Is inj f h;unfold mH;rw[e];have:((ks.map λj=>(enc j,f j))[i]?.map (·.2)).getD []=f k:=by simp[g]
 dsimp only;rw[this,Z8 f nd g];refine ij λj _=>?_
 by_cases z:j=k
 .rw[if_pos z,if_pos z,z]
 .rw[if_neg z,if_neg z]
theorem J3{κ:Type}[DecidableEq κ]{enc:κ->PV}(inj:∀a b,enc a=enc b->a=b)(f:κ->FS){k:κ}{ks:List κ}(h:k∉ks)(hf:f k=[])(v:PV):mH (ks.map λj=>(enc j,f j)) (enc k) v=(ks++[k]).map λj=>(enc j,if j=k then f j++[v] else f j):=by
 unfold mH;rw[aa5 inj f h,ik];have e:ks.map (λj=>(enc j,f j))=ks.map λj=>(enc j,if j=k then f j++[v] else f j):=ij λj hj=>by
  rw[if_neg λz:j=k=>h (z▸hj)]
 rw[<-e];simp[hf]
noncomputable def cL{κ β:Type}[DecidableEq κ](R:List (κ×β))(k:κ):List β:=(R.filter λr=>decide (r.1=k)).map (·.2)
noncomputable def dN{κ β:Type}[DecidableEq κ](R:List (κ×β)):List κ:=R.foldl (λks r=>if r.1∈ks then ks else ks++[r.1]) []
theorem S8{κ β:Type}[DecidableEq κ](R:List (κ×β))(k:κ)(u:β)(j:κ):cL (R++[(k,u)]) j=if j=k then cL R j++[u] else cL R j:=by
 unfold cL;rw[List.filter_append,ik]
 by_cases h:j=k
 .subst h
  simp
 .have:¬k=j:=λz=>h z.symm
  simp[h,this]
theorem aaM{κ β:Type}[DecidableEq κ](R:List (κ×β))(r:κ×β):dN (R++[r])=if r.1∈dN R then dN R else dN R++[r.1]:=by
 unfold dN;rw[List.foldl_append];rfl
theorem tO{κ β:Type}[DecidableEq κ](R:List (κ×β)):(dN R).Nodup/\∀k,k∈dN R↔∃r∈R,r.1=k:=by
 have go:∀(R':List (κ×β))(ks:List κ),ks.Nodup->(R'.foldl (λks r=>if r.1∈ks then ks else ks++[r.1]) ks).Nodup/\∀k,k∈R'.foldl (λks r=>if r.1∈ks then ks else ks++[r.1]) ks↔k∈ks\/∃r∈R',r.1=k:=by
  intro R'
  induction R' with
  |nil=>exact λks nd=>⟨nd,λk=>by simp⟩
  |cons r R' ih=>
   intro ks nd;rw[u6]
   by_cases h:r.1∈ks
   .rw[if_pos h]
    obtain⟨a,b⟩:=ih ks nd;refine⟨a,λk=>(b k).trans ?_⟩;constructor
    .rintro(z |⟨x,hx,z⟩)
     .exact .inl z
     .exact .inr ⟨x,cj _ hx,z⟩
    .rintro(z |⟨x,hx,z⟩)
     .exact .inl z
     .rcases cr.mp hx with rfl |hx
      .exact .inl (z▸h)
      .exact .inr ⟨x,hx,z⟩
   .rw[if_neg h]
    obtain⟨a,b⟩:=ih (ks++[r.1]) (by
     rw[qs];refine⟨nd,by simp,λx hx y hy z=>h ?_⟩;have:y=r.1:=by simpa using hy
     rw[<-this,<-z];exact hx)
    refine⟨a,λk=>(b k).trans ?_⟩;rw[dk,vd];constructor
    .rintro((z |z) |⟨x,hx,z⟩)
     .exact .inl z
     .exact .inr ⟨r,ce,z.symm⟩
     .exact .inr ⟨x,cj _ hx,z⟩
    .rintro(z |⟨x,hx,z⟩)
     .exact .inl (.inl z)
     .rcases cr.mp hx with rfl |hx
      .exact .inl (.inr z.symm)
      .exact .inr ⟨x,hx,z⟩
 obtain⟨a,b⟩:=go R [] sv;exact⟨a,λk=>(b k).trans (by simp)⟩
theorem Xp{κ β:Type}[DecidableEq κ](R:List (κ×β)):(dN R).length<=R.length:=by
 have go:∀(R':List (κ×β))(ks:List κ),(R'.foldl (λks r=>if r.1∈ks then ks else ks++[r.1]) ks).length<=ks.length+R'.length:=by
  intro R'
  induction R' with
  |nil=>exact λks=>aq _
  |cons r R' ih=>
   intro ks;rw[u6,bo];have:=ih (if r.1∈ks then ks else ks++[r.1]);have h2:(if r.1∈ks then ks else ks++[r.1]).length<=ks.length+1:=by split<;>simp
   omega
 have:=go R [];simpa[dN]using this
theorem ac1{κ β:Type}[DecidableEq κ]{R:List (κ×β)}{k:κ}(h:k∉dN R):cL R k=[]:=by
 unfold cL;rw[List.map_eq_nil_iff,List.filter_eq_nil_iff];intro r hr z;exact h (((tO R).2 k).mpr ⟨r,hr,by simpa using z⟩)
noncomputable def eM{κ:Type}[DecidableEq κ](enc:κ->PV)(R:List (κ×(Int×Int))):List (PV×FS):=(dN R).map λk=>(enc k,(cL R k).map fv)
noncomputable def fM(L:List (Int×Int)):Int×Int:=L.foldl pl (0,1)
theorem J8{κ:Type}[DecidableEq κ]{enc:κ->PV}(inj:∀a b,enc a=enc b->a=b)(R:List (κ×(Int×Int)))(k:κ)(u:Int×Int):mH (eM enc R) (enc k) (fv u)=eM enc (R++[(k,u)]):=by
 unfold eM;have e:∀ks:List κ,(ks.map λj=>(enc j,(cL (R++[(k,u)]) j).map fv))=ks.map λj=>(enc j,if j=k then(cL R j).map fv++[fv u] else(cL R j).map fv):=λks=>ij λj _=>by
  rw[S8];split<;>simp
 rw[e,aaM]
 by_cases h:k∈dN R
 .rw[if_pos h]
  exact aab inj (λj=>(cL R j).map fv) (tO R).1 h (fv u)
 .rw[if_neg h]
  exact J3 inj (λj=>(cL R j).map fv) h (by simp[ac1 h]) (fv u)
theorem plq{k l:Nat}{u v:Int×Int}(h:Fq k u)(g:Fq l v):fr (u.1*v.2+v.1*u.2) (u.2*v.2)=[(pl u v).1,(pl u v).2]/\Fq (k+l+1) (pl u v)/\(pl u v).1*(u.2*v.2)=(u.1*v.2+v.1*u.2)*(pl u v).2:=by
 have nz:u.2*v.2≠0:=cv (az h.pos g.pos);obtain⟨p,q,e,hq,c⟩:=rV (t:=u.1*v.2+v.1*u.2) nz;have bt:Bd (k+l+1) (u.1*v.2+v.1*u.2):=((h.b1.mul g.b2).add ((g.b1.mul h.b2).mono (by omega))).mono (by omega);have bb:Bd (k+l+1) (u.2*v.2):=(h.b2.mul g.b2).mono (by omega);obtain⟨b3,b4⟩:=yD bt bb e;have ep:pl u v=(p,q):=by unfold pl;rw[e];rfl
 rw[ep];exact⟨e,⟨hq,b3,b4,Da nz e⟩,c⟩
theorem ab7{k l:Nat}{u v:Int×Int}(h:Fq k u)(g:Fq l v):((pl u v).1:Rat)/((pl u v).2:Rat)=(u.1:Rat)/u.2+(v.1:Rat)/v.2:=Dt (k:=k+l) (h.mono (by omega)) (g.mono (by omega))
theorem ae4:Fq 1 ((0,1):Int×Int):=⟨by decide,by unfold Bd;decide,by unfold Bd;decide,by decide⟩
theorem Ee{k:Nat}(L:List (Int×Int))(h:∀u∈L,Fq k u):Fq (1+L.length*(k+1)) (fM L)/\((fM L).1:Rat)/((fM L).2:Rat)=rs L:=by
 have go:∀(L:List (Int×Int))(l:Nat)(w:Int×Int),(∀u∈L,Fq k u)->Fq l w->Fq (l+L.length*(k+1)) (L.foldl pl w)/\((L.foldl pl w).1:Rat)/((L.foldl pl w).2:Rat)=(w.1:Rat)/(w.2:Rat)+rs L:=by
  intro L
  induction L with
  |nil=>
   intro l w _ hw;refine⟨hw.mono (by omega),?_⟩;show(w.1:Rat)/(w.2:Rat)=(w.1:Rat)/(w.2:Rat)+0;rw[Rat.add_zero]
  |cons u L ih=>
   intro l w h hw;have hu:=h u ce;obtain⟨a,b⟩:=ih (l+k+1) (pl w u) (λv hv=>h v (cj _ hv)) (plq hw hu).2.1;rw[u6];refine⟨a.mono ?_,?_⟩
   .rw[bo,Nat.add_mul]
    omega
   .rw[b,ab7 hw hu]
    show _=(w.1:Rat)/(w.2:Rat)+((u.1:Rat)/(u.2:Rat)+rs L);rw[Rat.add_assoc]
 obtain⟨a,b⟩:=go L 1 (0,1) h ae4;refine⟨a,b.trans ?_⟩;show((0:Int):Rat)/((1:Int):Rat)+rs L=rs L;have:((0:Int):Rat)/((1:Int):Rat)=0:=by grind
 rw[this,Rat.zero_add]
theorem aas{k:Nat}{L:List (Int×Int)}(hl:L.length<=64)(h:∀u∈L,Fq k u):qF L=fM L:=by
 obtain⟨a,b⟩:=Ee L h;obtain⟨c,l,d⟩:=abm hl h;exact Ys d a (c.trans b.symm)
theorem Xy{k:Nat}{u:Int×Int}(h:Fq k u):u.1=0↔u=(0,1):=by
 constructor
 .intro z
  have l:=h.lo;rw[z,ui]at l;have p:=h.pos;exact jn z (by show u.2=1;omega)
 .intro z
  rw[z]
noncomputable def uE{κ:Type}[DecidableEq κ](lt:κ->κ->Bool)(R:List (κ×(Int×Int))):List (κ×(Int×Int)):=((gJ lt (dN R)).map λk=>(k,fM (cL R k))).filter λx=>!decide (x.2.1=0)
noncomputable def gf(ns:FI):Int:=Classical.choose (Km ns)
theorem uD(ns:FI):ns=(cE ns).map (gf ns*·):=Classical.choose_spec (Km ns)
noncomputable def cC(t b:Int):Int×Int:=((fr t b).getD 0 0,(fr t b).getD 1 0)
theorem oC{k:Nat}{t b:Int}(hb:b≠0)(bt:Bd k t)(bb:Bd k b):fr t b=[(cC t b).1,(cC t b).2]/\Fq k (cC t b):=by
 obtain⟨p,q,e,hq,_⟩:=rV (t:=t) hb;have ep:cC t b=(p,q):=by unfold cC;rw[e];rfl
 rw[ep];exact⟨e,hq,(yD bt bb e).1,(yD bt bb e).2,Da hb e⟩
theorem K3(ns:FI):(cE ns).length=ns.length:=by
 unfold cE;rw[aw,Lp]
theorem Pb{ns:FI}(nz:∃n∈ns,n≠0):∃d∈cE ns,d≠0:=by
 obtain⟨n,hn,z⟩:=nz;rw[uD ns]at hn;obtain⟨d,hd,rfl⟩:=dq.mp hn;exact⟨d,hd,λe=>z (by rw[e,sf])⟩
theorem adr{k:Nat}{ns:FI}(hb:∀n∈ns,Bd k n)(nz:∃n∈ns,n≠0):Bd k (gf ns)/\∀d∈cE ns,Bd k d:=by
 have g0:gf ns≠0:=λe=>by
  obtain⟨n,hn,z⟩:=nz;rw[uD ns,e]at hn;obtain⟨d,hd,rfl⟩:=dq.mp hn;exact z (oy d)
 have ml:∀d∈cE ns,Bd k (gf ns*d):=λd hd=>hb _ (by
  have:gf ns*d∈(cE ns).map (gf ns*·):=List.mem_map_of_mem hd
  rwa[<-uD ns]at this)
 have le:∀a b:Int,b≠0->a.natAbs<=(a*b).natAbs:=λa b h=>by
  rw[ug];exact Nat.le_mul_of_pos_right _ (Int.natAbs_pos.mpr h)
 constructor
 .obtain⟨d,hd,z⟩:=Pb nz
  exact se (le (gf ns) d z) (ml d hd)
 .intro d hd
  have:=ml d hd;rw[ga]at this;exact se (le d (gf ns) g0) this
noncomputable abbrev qO:MT:=bG (aC gM (aC aE (aB 1) (aB 0)) (mC (.int 0)))
noncomputable abbrev cY(x:FI×(Int×Int)):PV:=.tup [tv x.1,fv x.2]
theorem As:∀a b:FI,tv a=tv b->a=b:=λa b h=>wE (PV.tup.inj h)
theorem Cq(k:FI):uP false (tv k):=⟨k,rfl⟩
theorem Rp:∀k:FI,fV (k.map .int)=some k
 |[]=>rfl
 |i::k=>by
  rw[cf];unfold fV;rw[Rp k]
theorem Vo:∀ks:FJ,iC (ks.map tv)=some ks
 |[]=>rfl
 |k::ks=>by
  show iC (.tup (k.map .int)::ks.map tv)=_;unfold iC;rw[Vo ks,Rp k]
theorem R9{ks:FJ}(hl:ks.length<64)(nd:ks.Nodup)(ne:[]∉ks):pQ (ks.map tv)=some (.lst ((gJ HT.lexLt ks).map tv)):=by
 unfold pQ;rw[Vo];dsimp only;rw[if_pos ⟨hl,nd,ne⟩];rfl
theorem Dq(x0 x4:FV):∀(L R:List (FI×(Int×Int)))(x2 x3:FV),(R++L).length<16777216->∃y2 y3,dA [] (gT 2 (cG (gN 2) (cG (gN 3) eB))) (fF (pY 1 2 3)) (L.map cY) [x0,some (.ref 0),x2,x3,x4] [.dol false (eM tv R)]=.nx [x0,some (.ref 0),y2,y3,x4] [.dol false (eM tv (R++L))]
 |[],R,x2,x3,_=>⟨x2,x3,by rw[kg];exact iA⟩
 |r::L,R,x2,x3,hl=>by
  obtain⟨y2,y3,ih⟩:=Dq x0 x4 L (R++[r]) (some (.pv (tv r.1))) (some (.pv (fv r.2))) (by simpa using hl);refine⟨y2,y3,?_⟩;rw[oj]at ih;have ih:dA [] (gT 2 (cG (gN 2) (cG (gN 3) eB))) (fF (pY 1 2 3)) (L.map cY) [x0,some (.ref 0),some (.pv (tv r.1)),some (.pv (fv r.2)),x4] [.dol false (eM tv (R++[r]))]=.nx [x0,some (.ref 0),y2,y3,x4] [.dol false (eM tv (R++r::L))]:=ih;have ea:=J8 As R r.1 r.2;have hc:uP false (tv r.1)/\(eM tv R).length<16777216/\∀kv∈eM tv R,kv.2.length<16777216:=by
   have:=Xp R;have l2:R.length<16777216:=by rw[cx]at hl;omega
   refine⟨Cq _,by unfold eM;rw[aw];omega,λkv hkv=>?_⟩;unfold eM at hkv;obtain⟨j,_,rfl⟩:=dq.mp hkv;show((cL R j).map fv).length<16777216;have:(cL R j).length<=R.length:=by
    unfold cL;rw[aw];exact u7 _ _
   rw[aw];omega
  have es:zD (tv r.1) (fv r.2) [.dol false (eM tv R)]=.ok (.pv .non) [.dol false (eM tv (R++[r]))]:=by
   unfold zD;dsimp only;rw[if_pos hc,ea]
  rw[cf,gW];rw[show cY r=PV.tup [tv r.1,fv r.2] from rfl];clear hc ea hl;generalize eM tv R=D0,eM tv (R++[r])=D1,eM tv (R++r::L)=D2,L.map cY=LL,fv r.2=T2,tv r.1=T1 at *;simp[gT,cG,eB,gN,fF,cA.of,pY,es,ih]
theorem F6{m k:Nat}{R:List (FI×(Int×Int))}(hm:∀j,(cL R j).length<=2^m)(m5:m<=6)(hk:2^m*(k+1)<=7000)(h:∀r∈R,Fq k r.2):∀(ks:FJ)(x:FV),(∀j∈ks,j∈dN R)->
  bX [] (gN 0) (mN fI (aD (aB 0) (aD (tM tL (aB 1) (aB 0)) aF))) (ks.map tv) [x,some (.ref 0)] [.dol false (eM tv R)]=.ok (ks.map λj=>cY (j,fM (cL R j))) [.dol false (eM tv R)]:=by
 intro ks x hks;refine lZ (iZ _) tv (λj=>cY (j,fM (cL R j))) ks x λj hj=>?_;have fq:∀u∈cL R j,Fq k u:=λu hu=>by
  unfold cL at hu;obtain⟨r,hr,rfl⟩:=dq.mp hu;exact h r (vn.mp hr).1
 have p5:2^m<=64:=by
  have:=wv (show 0<2 by decide) m5;omega
 have et:=E3 [] (L:=cL R j) (by have:=hm j;omega) (hm j) m5 hk fq;rw[aas (by have:=hm j;omega) fq]at et;have eg:tX (.ref 0) (.pv (tv j)) [.dol false (eM tv R)]=some ((cL R j).map fv):=by
  unfold tX;dsimp only;have:oK (eM tv R) (tv j)=some ((cL R j).map fv):=aaK As (λk=>(cL R k).map fv) (hks j hj);simp[Cq,this]
 have en:lO (fv (fM (cL R j)))=true:=rfl;show _=bI.ok (AV.pv (.tup [tv j,fv (fM (cL R j))])) _;generalize tv j=T1,fv (fM (cL R j))=C1,(cL R j).map fv=LL,eM tv R=D0 at *;simp! [aE,aX,aY,aK,aP,aQ,aO,aR,aH,aN,tM,eg,et,en]
theorem Zk{k:Nat}(S:aI):∀(L:List (FI×(Int×Int)))(x:FV),(∀r∈L,Fq k r.2)->eK [] (gN 0) (bG (aC gM (aC aE (aB 0) (mC (.int 1))) (mN fI (aD (mC (.int 0)) (aD (mC (.int 1)) aF))))) (aB 0) (L.map cY) [x] S=.ok ((L.filter λx=>!decide (x.2.1=0)).map cY) S
 |[],x,_=>zV
 |r::L,x,h=>by
  have ih:=Zk S L (some (.pv (cY r))) λr hr=>h r (cj _ hr);have f:=h r ce;have i1:aE (cY r) (.int 1)=some (fv r.2):=rfl;have eq:aK 8 (fv r.2) (.tup [.int 0,.int 1])=some (decide (r.2.1=0)):=by
   by_cases z:r.2.1=0
   .have:r.2=(0,1):=(Xy f).mp z
    rw[this];rfl
   .show aK 8 (.tup [.int r.2.1,.int r.2.2]) (.tup [.int 0,.int 1])=_
    have z':(r.2.1==0)=false:=by simpa using z
    simp[aK,jN,z',z]
  rw[cf,zT,List.filter_cons];have er:(r::L.filter λx=>!decide (x.2.1=0)).map cY=cY r::(L.filter λx=>!decide (x.2.1=0)).map cY:=rfl;generalize hT:cY r=T at *;generalize L.map cY=LL,fv r.2=T2 at*
  by_cases z:r.2.1=0
  .rw[decide_eq_true z]at eq⊢
   simp! [gN,bQ,aP,aQ,aO,aR,aH,aN,i1,eq,ih]
  .rw[decide_eq_false z]at eq⊢
   simp! [gN,bQ,aP,aQ,aO,aR,aH,aN,i1,eq,ih,hT]
theorem abW{k:Nat}{R:List (FI×(Int×Int))}(h:∀r∈R,Fq k r.2)(j:FI):Fq (1+R.length*(k+1)) (fM (cL R j)):=by
 refine(Ee (k:=k) (cL R j) λu hu=>?_).1.mono ?_
 .unfold cL at hu
  obtain⟨r,hr,rfl⟩:=dq.mp hu;exact h r (vn.mp hr).1
 .have:(cL R j).length<=R.length:=by
   unfold cL;rw[aw];exact u7 _ _
  have:=ER (k+1) this;omega
theorem D6{α:Type}{lt:α->α->Bool}{l:List α}:∀x,x∈gJ lt l->x∈l:=λ_ h=>(sY l).subset h
theorem Hz{m k:Nat}{R:List (FI×(Int×Int))}(hl:R.length<16777216)(h64:(dN R).length<64)(ne:[]∉dN R)(hm:∀j,(cL R j).length<=2^m)(m5:m<=6)(hk:2^m*(k+1)<=7000)(h:∀r∈R,Fq k r.2):
  rB [.pv (.lst (R.map cY))] []=.ok (.pv (.tup ((uE HT.lexLt R).map cY))) []:=by
 obtain⟨y2,y3,e1⟩:=Dq (some (.pv (.lst (R.map cY)))) none R [] none none (by simpa using hl);have e2:pQ ((eM tv R).map (·.1))=some (.lst ((gJ HT.lexLt (dN R)).map tv)):=by
  have:(eM tv R).map (·.1)=(dN R).map tv:=by
   unfold eM;rw[ff];rfl
  rw[this];exact R9 h64 (tO R).1 ne
 have e3:=F6 hm m5 hk h (gJ HT.lexLt (dN R)) none D6;have e4:=Zk (k:=1+R.length*(k+1)) [.dol false (eM tv R)] ((gJ HT.lexLt (dN R)).map λj=>(j,fM (cL R j))) none λr hr=>by
  obtain⟨j,_,rfl⟩:=dq.mp hr;exact abW h j
 have e5:((gJ HT.lexLt (dN R)).map λj=>(j,fM (cL R j))).map cY=(gJ HT.lexLt (dN R)).map λj=>cY (j,fM (cL R j)):=ff ..;have e6:uE HT.lexLt R=((gJ HT.lexLt (dN R)).map λk=>(k,fM (cL R k))).filter λx=>!decide (x.2.1=0):=rfl;rw[<-e6]at e4;rw[<-e5]at e3;have p0:eM tv ([]:List (FI×(Int×Int)))=[]:=rfl;rw[p0,ox]at e1;unfold rB Ub;clear e5 e6;generalize R.map cY=RL,eM tv R=D0,(gJ HT.lexLt (dN R)).map tv=KL,((gJ HT.lexLt (dN R)).map λj=>(j,fM (cL R j))).map cY=ML,(uE HT.lexLt R).map cY=TL at *;refine pO (v:=.pv (.tup TL)) (S':=[.dol false D0]) rfl ?_ rfl;apply sq;simp! [bQ,aP,aQ,aO,aR,aH,aN,xH];exact⟨rfl,rfl⟩;apply sq;simp! [bQ,aP,aQ,aO,aR,aH,aN,cX,bP,cH,e1];exact⟨rfl,rfl⟩;apply sq;simp! [bQ,aP,aQ,aO,aR,aH,aN,bH,cD,bP,xP,xY,e2,cH,e3];exact⟨rfl,rfl⟩;simp! [bQ,aP,aQ,aO,aR,aH,aN,kN,cD,bP,cH,e4]
theorem Tq(S:aI){a b c:Int}(nz:∃d∈[a,b,c],d≠0):∃(p d:Int)(L:FS),eK [] (gN 0) qO (aB 0) (eU 0 3) [none,some (.pv (tv [a,b,c]))] S=.ok (.int p::L) S/\aE (tv [a,b,c]) (.int p)=some (.int d)/\d≠0/\d∈[a,b,c]/\∀g:Int,aE (.lst ([a,b,c].map (g*·) |>.map .int)) (.int p)=some (.int (g*d)):=by
 have i1:eU 0 3=[.int 0,.int 1,.int 2]:=rfl;have f0:aE (tv [a,b,c]) (.int 0)=some (.int a):=rfl;have f1:aE (tv [a,b,c]) (.int 1)=some (.int b):=rfl;have f2:aE (tv [a,b,c]) (.int 2)=some (.int c):=rfl;rw[i1];have key:∀(qa qb qc:Bool),(a==0)=qa->(b==0)=qb->(c==0)=qc->eK [] (gN 0) qO (aB 0) [.int 0,.int 1,.int 2] [none,some (.pv (tv [a,b,c]))] S=.ok ((if qa then[] else[.int 0])++((if qb then[] else[.int 1])++(if qc then[] else[.int 2]))) S:=λqa qb qc ha hb hc=>by
  generalize tv [a,b,c]=T at *;cases qa<;>cases qb<;>cases qc<;>simp! [zT,zV,qO,gN,bQ,aP,aQ,aO,aR,aH,aN,f0,f1,f2,ha,hb,hc]
 by_cases ha:a=0
 .have qa:(a==0)=true:=by simpa using ha
  by_cases hb:b=0
  .have qb:(b==0)=true:=by simpa using hb
   have hc:c≠0:=λe=>by
    obtain⟨d,hd,z⟩:=nz;simp[ha,hb,e]at hd;exact z hd
   have qc:(c==0)=false:=by simpa using hc
   exact⟨2,c,[],key _ _ _ qa qb qc,f2,hc,by simp,λg=>rfl⟩
  .have qb:(b==0)=false:=by simpa using hb
   exact⟨1,b,_,key _ _ _ qa qb rfl,f1,hb,by simp,λg=>rfl⟩
 .have qa:(a==0)=false:=by simpa using ha
  exact⟨0,a,_,key _ _ _ qa rfl rfl,f0,ha,by simp,λg=>rfl⟩
theorem acb{k:Nat}(hk:k<=1700){x y z b:Int}(S:aI)(hx:Bd k x)(hy:Bd k y)(hz:Bd k z)(nz:∃n∈[x,y,z],n≠0)(hb:Bd k b)(b0:0<b):tG [.pv (.lst [.int x,.int y,.int z]),.pv (.int b)] S=.ok (.pv (.tup [tv (cE [x,y,z]),fv (cC (gf [x,y,z]) b)])) S:=by
 have bd:∀n∈[x,y,z],Bd k n:=λn hn=>by
  simp only[cr,iu,or_false]at hn;rcases hn with rfl |rfl |rfl
  .exact hx
  .exact hy
  .exact hz
 obtain⟨gb,db⟩:=adr bd nz;have e1:=V7 [x,y,z] S (λn hn=>(bd n hn).mono (by omega)) nz;obtain⟨a,c,e0,ed⟩:∃a c e0,cE [x,y,z]=[a,c,e0]:=by
  have:=K3 [x,y,z]
  match e:cE [x,y,z],this with
  |[a,c,e0],_=>exact⟨a,c,e0,rfl⟩
 have gi:=uD [x,y,z];have nz2:=Pb nz;rw[ed]at e1 gi db nz2⊢;obtain⟨p,d,L,e2,f1,d0,dm,f2⟩:=Tq S nz2;have f2:=f2 (gf [x,y,z]);rw[<-gi]at f2;have m1:=jJ (db d dm) hb (by omega) (by omega);have bb:Bd (2*k) (d*b):=((db d dm).mul hb).mono (by omega);have nb:d*b≠0:=jl d0 (by omega);have e3:=vQ (gf [x,y,z]*d) (d*b) S ((gb.mul (db d dm)).mono (by omega)) (bb.mono (by omega)) nb;have e4:fr (gf [x,y,z]*d) (d*b)=fr (gf [x,y,z]) b:=Im nb (by omega) (by grind);rw[e4,(oC (by omega) gb hb).1]at e3;have rg:=sK S (n:=3) (by decide);have l2:(((tv [a,c,e0]:PV)):PV)=.tup [.int a,.int c,.int e0]:=rfl;have i0:aE (.lst (.int p::L)) (.int 0)=some (.int p):=rJ (j:=0) rfl;have eL:dJ [tv [a,c,e0]]=some (.int 3):=rfl;have hB:Kc=(aJ (aU 2 (bA sQ [] (aD (aB 0) aF))) (aJ (aU 3 (aC aE (kN ["k"] [(2,"way")] (eJ (aD (mR dJ (aD (aB 2) aF)) aF)) (gN 0) qO (aB 0)) (mC (.int 0)))) (bJ (mN fI (aD (aB 2) (aD (mZ kZ [] (aD (aC aE (aB 0) (aB 3)) (aD (aC aV (aC aE (aB 2) (aB 3)) (aB 1)) aF))) aF)))))):=rfl;unfold tG aZ;rw[hB];show _=bI.ok (AV.pv (.tup [tv [a,c,e0],.tup [.int (cC (gf [x,y,z]) b).1,.int (cC (gf [x,y,z]) b).2]])) S;simp only[cf,ig]at f2 e3 e1;generalize gf [x,y,z]=G,(cC (gf [x,y,z]) b).2=P2,(cC (gf [x,y,z]) b).1=P1 at *;clear l2 ed gi db nz2;generalize eU 0 3=IP,tv [a,c,e0]=T at *;have c2:((3:Nat):Int)=3:=rfl;rw[c2]at rg;generalize qO=C1 at *;simp! [-dJ,bQ,aP,aQ,aO,aR,aH,aN,e1,kN,eJ,cD,eL,rg,e2,i0,f1,f2,m1,e3]
theorem Kl{α β:Type}(g:α->β):∀{L:List β}{xs:List α},L.Perm (xs.map g)->∃ys:List α,ys.Perm xs/\L=ys.map g
 |[],xs,h=>by
  have e:xs=[]:=EM.mp (by have:=h.length_eq;simpa using this.symm);exact⟨[],by rw[e],rfl⟩
 |a::L,xs,h=>by
  have ha:a∈xs.map g:=h.mem_iff.mp (by simp);obtain⟨x,hx,rfl⟩:=dq.mp ha;obtain⟨s,t,rfl⟩:=EU hx;have h2:(g x::L).Perm (g x::(s++t).map g):=h.trans (by
   rw[ik,cf,ik];exact u8)
  obtain⟨ys,p,e⟩:=Kl g h2.cons_inv;exact⟨x::ys,(p.cons x).trans u8.symm,by rw[cf,e]⟩
theorem xC{n:Nat}(hn:n=2\/n=3){fs:List (Int×Int)}(hf:fs.length=n)(h:∀u∈fs,Sp u){f y:FI}(Gf:Gu n 100 f)(hy:y.length=n)(hb:∀x∈y,-8<x/\x<8):Gu n 201 (fO 1 f (dF fs y))/\iG n (λj=>f.getLastD 0*oP fs j) (λj=>f.getD j 0*jI fs) (f.getLastD 0*jI fs) (y++[1]) (fO 1 f (dF fs y)):=by
 obtain⟨_,g1,a1⟩:=wX hn [] hf h hy hb;obtain⟨g2,a2⟩:=mT (way:=1) (.inl rfl) g1 Gf;refine⟨g2,?_⟩;obtain⟨xs,w,xs',w',e1,e2,l1,l2,p1,p2,k1⟩:=a1;obtain⟨zs,v,zs',v',e3,e4,l3,l4,p3,p4,k2⟩:=a2;have q:=e2.symm.trans e3;obtain⟨q1,q2⟩:=List.append_inj' q rfl;subst q1;have q2:w'=v:=by simpa using q2
 subst q2;refine⟨xs,w,zs',v',e1,e4,l1,l4,p1,p4,λj hj=>?_⟩;have t1:=k1 j hj;have t2:=k2 j hj;refine yl (cv p2) ?_
 calc zs'.getD j 0*(f.getLastD 0*jI fs*w)*w'=(zs'.getD j 0*(f.getLastD 0*w'))*(jI fs*w):=by grind
  _=(1*f.getLastD 0*xs'.getD j 0+f.getD j 0*w')*v'*(jI fs*w):=by rw[t2]
  _=(f.getLastD 0*(xs'.getD j 0*(jI fs*w))+f.getD j 0*w'*(jI fs*w))*v':=by grind
  _=(f.getLastD 0*((oP fs j*xs.getD j 0+0*w)*w')+f.getD j 0*w'*(jI fs*w))*v':=by rw[t1]
  _=(f.getLastD 0*oP fs j*xs.getD j 0+f.getD j 0*jI fs*w)*v'*w':=by grind
noncomputable abbrev cK(fs:List (Int×Int))(f y:FI):FI:=fO 1 f (dF fs y)
structure Pc where
 f:FI
 a:FI
 r:FJ
noncomputable def Pc.ys(d:Pc):FJ:=d.a::d.r
noncomputable def Pc.pv(fs:List (Int×Int))(d:Pc):PV:=px (d.ys.map (cK fs d.f))
structure Pg(n:Nat)(d:Pc):Prop where
 f:Gu n 100 d.f
 len:d.ys.length=n+1
 ok:∀y∈d.ys,y.length=n/\∀x∈y,0<=x/\x<=2
theorem aaE{n:Nat}(hn:n=2\/n=3){fs:List (Int×Int)}(hf:fs.length=n)(h:∀u∈fs,Sp u){f:FI}(Gf:Gu n 100 f){ys:FJ}(hl:ys.length=n+1)(hy:∀y∈ys,y.length=n/\∀x∈y,0<=x/\x<=2)(pos:0<dU (ys.map (cK fs f))):0<dU (ys.map (·++[1])):=by
 have af:∀y∈ys,Gu n 201 (cK fs f y)/\iG n (λj=>f.getLastD 0*oP fs j) (λj=>f.getD j 0*jI fs) (f.getLastD 0*jI fs) (y++[1]) (cK fs f y):=λy hyy=>xC hn hf h Gf (hy y hyy).1 λx hx=>by have:=(hy y hyy).2 x hx;omega
 have p2:0<wU (ys.map (cK fs f)):=rP λu hu=>by
  obtain⟨y,hyy,rfl⟩:=dq.mp hu;exact(af y hyy).1
 obtain⟨pe,pa⟩:=Wo hn hf h;have F0:0<f.getLastD 0:=by
  obtain⟨fx,fw,rfl,FP⟩:=Gf;have:(fx++[fw]).getLastD 0=fw:=by simp
  rw[this];exact FP.pos
 have go:∀{a b c d:Int},0<a->0<b->0<c->0<d->∀x:Int,a*b=c*x*d->0<x:=λ{a b c d} h1 h2 h3 h4 x e=>by
  have h5:=az h1 h2;rw[e]at h5
  by_cases h6:0<x
  .exact h6
  .have h7:c*x<=0:=Int.mul_nonpos_of_nonneg_of_nonpos (f7 h3) (by omega)
   have h8:c*x*d<=0:=Int.mul_nonpos_of_nonpos_of_nonneg h7 (f7 h4);omega
 have w1:∀y:FI,(y++[1]).getLastD 0=1:=λy=>by simp
 have eF:=az F0 pe;rcases hn with rfl |rfl
 .obtain⟨a,b,c,rfl⟩:∃a b c,ys=[a,b,c]:=by
   match ys,hl with
   |[a,b,c],_=>exact⟨_,_,_,rfl⟩
  have e:=Hf (af a (by simp)).2 (af b (by simp)).2 (af c (by simp)).2;have pw:0<wU [a++[1],b++[1],c++[1]]:=by simp only[wU,w1];decide
  exact go pos (az (az (az eF eF) eF) pw) (az (az (az F0 (pa 0 (by decide))) (az F0 (pa 1 (by decide)))) eF) p2 _ e
 .obtain⟨a,b,c,d,rfl⟩:∃a b c d,ys=[a,b,c,d]:=by
   match ys,hl with
   |[a,b,c,d],_=>exact⟨_,_,_,_,rfl⟩
  have e:=Ff (af a (by simp)).2 (af b (by simp)).2 (af c (by simp)).2 (af d (by simp)).2;have pw:0<wU [a++[1],b++[1],c++[1],d++[1]]:=by simp only[wU,w1];decide
  exact go pos (az (az (az (az eF eF) eF) eF) pw) (az (az (az (az F0 (pa 0 (by decide))) (az F0 (pa 1 (by decide)))) (az F0 (pa 2 (by decide)))) eF) p2 _ e
structure Pl(n:Nat)(p:Pc×FJ):Prop where
 g:Pg n p.1
 pm:p.1.ys.Perm p.2
 ps:0<dU (p.1.ys.map (·++[1]))
 nz:dU (p.2.map (·++[1]))≠0
theorem dG{i:Int}(h:-99<i/\i<99):Bd 10 i:=by
 show i.natAbs<1024;omega
theorem jE{i j:Int}(hi:-99<i/\i<99)(hj:-99<j/\j<99):aV (.int i) (.int j)=some (.int (i*j)):=iB (.inr ⟨(dG hi).mono (by decide),(dG hj).mono (by decide)⟩)
theorem sI{i j:Int}(h:j≠0)(hj:-99<j/\j<99):dI (.int i) (.int j)=some (.int (i.fdiv j)):=mD ⟨h,(dG hj).mono (by decide)⟩
theorem op1(S:aI):lX [.pv (.int 1)] S=.ok (.ref S.length) (S++[.lst []]):=by
 unfold lX aZ vO;have w1:∀x1 x2:FV,∀S,fE (bG (aC dP (aC cV (aB 0) (mC (.int 2))) (mC (.int 0)))) (aU 0 (aC dI (aB 0) (mC (.int 2)))) [some (.pv (.int 1)),x1,x2] S=.nx [some (.pv (.int 1)),x1,x2] S:=λx1 x2 S=>iY (n:=1) (by simp! [aE,aX,aY,aK,aP,aQ,aO,aR,aH,aN,cM,fU]) (by simp);have w2:∀(b:MS)(x1:FV) S,fE (bG (aC nM (aC aV (aB 2) (aB 2)) (aB 0))) b [some (.pv (.int 1)),x1,some (.pv (.int 3))] S=.nx [some (.pv (.int 1)),x1,some (.pv (.int 3))] S:=λb x1 S=>iY (n:=1) (by simp! [aE,aX,aY,aK,aP,aQ,aO,aR,aH,aN,cM,jE]) (by simp);simp! [aE,aX,aY,aK,aP,aQ,aO,aR,aH,aN,w1,w2,gF,lH]
theorem op3(S:aI):lX [.pv (.int 3)] S=.ok (.pv (.lst [.int 3])) S:=by
 unfold lX aZ vO;have w1:∀x1 x2:FV,∀S,fE (bG (aC dP (aC cV (aB 0) (mC (.int 2))) (mC (.int 0)))) (aU 0 (aC dI (aB 0) (mC (.int 2)))) [some (.pv (.int 3)),x1,x2] S=.nx [some (.pv (.int 3)),x1,x2] S:=λx1 x2 S=>iY (n:=1) (by simp! [aE,aX,aY,aK,aP,aQ,aO,aR,aH,aN,cM,fU]) (by simp);have w2:∀(b:MS)(x1:FV) S,fE (bG (aC nM (aC aV (aB 2) (aB 2)) (aB 0))) b [some (.pv (.int 3)),x1,some (.pv (.int 3))] S=.nx [some (.pv (.int 3)),x1,some (.pv (.int 3))] S:=λb x1 S=>iY (n:=1) (by simp! [aE,aX,aY,aK,aP,aQ,aO,aR,aH,aN,cM,jE]) (by simp);simp! [aE,aX,aY,aK,aP,aQ,aO,aR,aH,aN,w1,w2,gF,lH,fX]
theorem ws_{n:Int}(h:n=1\/n=2)(S:aI):vL [.pv (.int n)] S=.ok (.pv (.tup [.int n,.int 1])) S:=by
 unfold vL aZ zL;have w2:∀(b:MS)(x1:FV) S,fE (bG (aC nM (aC aV (aB 2) (aB 2)) (aB 0))) b [some (.pv (.int n)),x1,some (.pv (.int 2))] S=.nx [some (.pv (.int n)),x1,some (.pv (.int 2))] S:=λb x1 S=>iY (n:=1) (by rcases h with rfl |rfl<;>simp! [aE,aX,aY,aK,aP,aQ,aO,aR,aH,aN,cM,jE]) (by simp);simp! [aE,aX,aY,aK,aP,aQ,aO,aR,aH,aN,w2,fI]
theorem iv1(S:aI):qQ [.pv (.int 1),.pv (.int 3)] S=.ok (.pv (.int 1)) S:=by
 unfold qQ aZ wB;have w2:∀(b:MS)(x3 x4 x5 x6 x7 x8:FV) S,fE (bG (aC gM (aB 2) (mC (.int 1)))) b [some (.pv (.int 1)),some (.pv (.int 3)),some (.pv (.int 1)),x3,x4,x5,x6,x7,x8] S=.nx [some (.pv (.int 1)),some (.pv (.int 3)),some (.pv (.int 1)),x3,x4,x5,x6,x7,x8] S:=λb _ _ _ _ _ _ S=>iY (n:=1) (by simp! [aE,aX,aY,aK,aP,aQ,aO,aR,aH,aN,cM]) (by simp);simp! [aE,aX,aY,aK,aP,aQ,aO,aR,aH,aN,w2,fU]
theorem iv2(S:aI):qQ [.pv (.int 2),.pv (.int 3)] S=.ok (.pv (.int 2)) S:=by
 unfold qQ aZ wB;simp! [aE,aX,aY,aK,aP,aQ,aO,aR,aH,aN,fU];rw[iY (n:=2) (r:=.nx [some (.pv (.int 2)),some (.pv (.int 3)),some (.pv (.int 1)),some (.pv (.int (-1))),some (.pv (.int 2)),some (.pv (.int 1)),some (.pv (.int 1)),some (.pv (.int 1)),some (.pv (.int (-1)))] S) (by simp! [aE,aX,aY,aK,aP,aQ,aO,aR,aH,aN,cM,sI,jE]) (by simp)];simp! [aE,aX,aY,aK,aP,aQ,aO,aR,aH,aN,fU]
theorem Iv(S:aI):oX [.pv (.int 1),.pv (.int 1),.pv (.int 2),.pv (.int 3)] S=.ok (.pv (.int 1)) S:=by
 unfold oX aZ vT;simp! [aE,aX,aY,aK,aP,aQ,aO,aR,aH,aN];rw[iY (n:=1) (r:=.nx [some (.pv (.int 1)),some (.pv (.int 1)),some (.pv (.int 2)),some (.pv (.int 3)),none,none] S) (by simp! [aE,aX,aY,aK,aP,aQ,aO,aR,aH,aN,cM,fU,kU]) (by simp)];simp! [aE,aX,aY,aK,aP,aQ,aO,aR,aH,aN,jE];rw[iY (n:=2) (r:=.nx [some (.pv (.int 1)),some (.pv (.int 1)),some (.pv (.int 2)),some (.pv (.int 3)),some (.pv (.int 1)),some (.pv (.int 1))] S) (by simp! [aE,aX,aY,aK,aP,aQ,aO,aR,aH,aN,cM,fU,sI,oH,yM]) (by simp)];simp! [aE,aX,aY,aK,aP,aQ,aO,aR,aH,aN,iv1,fU,jE]
theorem Mv(S:aI):oX [.pv (.int 1),.pv (.int 2),.pv (.int 2),.pv (.int 3)] S=.ok (.pv (.int (-2))) S:=by
 unfold oX aZ vT;simp! [aE,aX,aY,aK,aP,aQ,aO,aR,aH,aN];rw[iY (n:=1) (r:=.nx [some (.pv (.int 1)),some (.pv (.int 2)),some (.pv (.int 2)),some (.pv (.int 3)),none,none] S) (by simp! [aE,aX,aY,aK,aP,aQ,aO,aR,aH,aN,cM,fU,kU]) (by simp)];simp! [aE,aX,aY,aK,aP,aQ,aO,aR,aH,aN,jE];rw[iY (n:=3) (r:=.nx [some (.pv (.int 1)),some (.pv (.int 2)),some (.pv (.int 2)),some (.pv (.int 3)),some (.pv (.int 1)),some (.pv (.int 2))] S) (by simp! [aE,aX,aY,aK,aP,aQ,aO,aR,aH,aN,cM,fU,sI,oH,yM]) (by simp)];simp! [aE,aX,aY,aK,aP,aQ,aO,aR,aH,aN,iv2,fU,jE]
noncomputable def dE:FI->FI->FI
 |[a,b,c],[d,e,f]=>[d-a,e-b,f-c]
 |_,_=>[]
noncomputable def kG:FI->FI->FI
 |[a,b,c],[d,e,f]=>[b*f-c*e,c*d-a*f,a*e-b*d]
 |_,_=>[]
noncomputable def bx(y:FI):Prop:=y.length=3/\∀x∈y,0<=x/\x<=1
theorem qN{y:FI}(h:bx y):∃a b c,y=[a,b,c]/\(0<=a/\a<=1)/\(0<=b/\b<=1)/\(0<=c/\c<=1):=by
 obtain⟨l,h⟩:=h
 match y,l,h with
 |[a,b,c],_,h=>exact⟨a,b,c,rfl,h a (by simp),h b (by simp),h c (by simp)⟩
noncomputable def lw(p:FI):Int:=p.getLastD 0
theorem Vd{F a b A E C p pw q qw y z:Int}(hF:0<F)(hb:0<b)(eE:E=F*(1*b*b*b))(eA:A=F*(a*(b*b)))(e1:p*(E*1)=(A*y+C*1)*pw)(e2:q*(E*1)=(A*z+C*1)*qw):b*(q*pw-p*qw)=a*(z-y)*(pw*qw):=by
 subst eE eA;have h:(F*b*b)*(b*(q*pw-p*qw))=(F*b*b)*(a*(z-y)*(pw*qw)):=by grind
 exact EV (by have:=az (az hF hb) hb;omega) h
theorem Og{b w0 w1 w2 d0 d1 d2 T:Int}(hb:0<b)(hT:0<T)(h0:b*w0=d0*T)(h1:b*w1=d1*T)(h2:b*w2=d2*T)(hd:d0=1\/d0=-1):∃c,0<c/\b*c=T/\w0=c*d0/\w1=c*d1/\w2=c*d2/\(c=w0\/c=-w0):=by
 have go:∀c,b*c=T->∀w d,b*w=d*T->w=c*d:=λc hc w d h=>by
  subst hc;refine EV (a:=b) (by omega) ?_;rw[h];grind
 have hp:∀c,b*c=T->0<c:=λc hc=>by
  subst hc;exact xc (by rw[ga];exact hT) hb
 rcases hd with rfl |rfl
 .have e:b*w0=T:=by omega
  exact⟨w0,hp _ e,e,go _ e _ _ h0,go _ e _ _ h1,go _ e _ _ h2,.inl rfl⟩
 .have e:b*(-w0)=T:=by rw[uh];omega
  exact⟨-w0,hp _ e,e,go _ e _ _ h0,go _ e _ _ h1,go _ e _ _ h2,.inr rfl⟩
theorem kI{a b:Int}(ha:0<=a/\a<=1)(hb:0<=b/\b<=1)(h:a≠b):b-a=1\/b-a=-1:=by omega
theorem Ed{u:Int×Int}(hu:Sp u){f:FI}(Gf:Gu 3 100 f){y z:FI}(hy:bx y)(hz:bx z)(ne:y≠z):∃c:Int,0<c/\Bd 410 c/\u.2*c=u.1*(lw (cK [u,u,u] f y)*lw (cK [u,u,u] f z))/\∀S,jL [.pv (tv (cK [u,u,u] f y)),.pv (tv (cK [u,u,u] f z))] S=.ok (.pv (lv ((dE y z).map (c*·)))) S:=by
 obtain⟨y0,y1,y2,rfl,a0,a1,a2⟩:=qN hy;obtain⟨z0,z1,z2,rfl,c0,c1,c2⟩:=qN hz;have hs:∀v∈[u,u,u],Sp v:=λv hv=>by
  simp at hv;rw[hv];exact hu
 obtain⟨g1,r1⟩:=xC (.inr rfl) (fs:=[u,u,u]) rfl hs Gf (y:=[y0,y1,y2]) rfl (λx hx=>by simp at hx;omega);obtain⟨g2,r2⟩:=xC (.inr rfl) (fs:=[u,u,u]) rfl hs Gf (y:=[z0,z1,z2]) rfl (λx hx=>by simp at hx;omega);obtain⟨_,_,_,_,p0,p1,p2,pw,e1,e2,i0,i1,i2⟩:=r1.three;obtain⟨_,_,_,_,q0,q1,q2,qw,e3,e4,j0,j1,j2⟩:=r2.three;cases e1;cases e3;show ∃c:Int,0<c/\Bd 410 c/\u.2*c=u.1*(lw (fO 1 f (dF [u,u,u] [y0,y1,y2]))*lw (fO 1 f (dF [u,u,u] [z0,z1,z2])))/\∀S,jL [.pv (tv (fO 1 f (dF [u,u,u] [y0,y1,y2]))),.pv (tv (fO 1 f (dF [u,u,u] [z0,z1,z2])))] S=_;rw[e2]at g1⊢;rw[e4]at g2⊢;obtain⟨_,_,_,_,e5,pw0,b0,b1,b2,b3⟩:=g1.three';obtain⟨_,_,_,_,e6,qw0,d0,d1,d2,d3⟩:=g2.three';cases e5;cases e6;have hF:0<f.getLastD 0:=by
  obtain⟨xs,w,rfl,P⟩:=Gf;rw[List.getLastD_concat];exact P.pos
 have k0:=Vd hF hu.q rfl rfl i0 j0;have k1:=Vd hF hu.q rfl rfl i1 j1;have k2:=Vd hF hu.q rfl rfl i2 j2;have hT:0<u.1*(pw*qw):=az hu.p (az pw0 qw0);have m0:u.2*(q0*pw-p0*qw)=(z0-y0)*(u.1*(pw*qw)):=by rw[k0];grind
 have m1:u.2*(q1*pw-p1*qw)=(z1-y1)*(u.1*(pw*qw)):=by rw[k1];grind
 have m2:u.2*(q2*pw-p2*qw)=(z2-y2)*(u.1*(pw*qw)):=by rw[k2];grind
 have bw:∀{p q:Int},Bd 201 p->Bd 201 q->Bd 410 (q*pw-p*qw):=λhp hq=>((hq.mul b3).sub (hp.mul d3)).mono (by decide);have bn:∀{c w:Int},Bd 410 w->(c=w\/c=-w)->Bd 410 c:=λh e=>by
  rcases e with rfl |rfl
  .exact h
  .unfold Bd at*
   rw[d6];exact h
 have fin:∀c,0<c->Bd 410 c->u.2*c=u.1*(pw*qw)->q0*pw-p0*qw=c*(z0-y0)->q1*pw-p1*qw=c*(z1-y1)->q2*pw-p2*qw=c*(z2-y2)->∃c:Int,0<c/\Bd 410 c/\u.2*c=u.1*(lw [p0,p1,p2,pw]*lw [q0,q1,q2,qw])/\∀S,jL [.pv (tv [p0,p1,p2,pw]),.pv (tv [q0,q1,q2,qw])] S=.ok (.pv (lv ((dE [y0,y1,y2] [z0,z1,z2]).map (c*·)))) S:=λc c1 c2 c3 c4 c5 c6=>by
  refine⟨c,c1,c2,c3,λS=>?_⟩;have:=acG S (x0:=p0) (y0:=p1) (z0:=p2) (w0:=pw) (x1:=q0) (y1:=q1) (z1:=q2) (w1:=qw) ⟨b0.mono (by decide),b1.mono (by decide),b2.mono (by decide),b3.mono (by decide),pw0⟩ ⟨d0.mono (by decide),d1.mono (by decide),d2.mono (by decide),d3.mono (by decide),qw0⟩;rw[c4,c5,c6]at this;exact this
 by_cases h0:y0=z0
 .by_cases h1:y1=z1
  .have h2:y2≠z2:=λh=>ne (by rw[h0,h1,h])
   obtain⟨c,cp,ct,x2,x0,x1,cb⟩:=Og hu.q hT m2 m0 m1 (kI a2 c2 h2);exact fin c cp (bn (bw b2 d2) cb) ct x0 x1 x2
  .obtain⟨c,cp,ct,x1,x0,x2,cb⟩:=Og hu.q hT m1 m0 m2 (kI a1 c1 h1)
   exact fin c cp (bn (bw b1 d1) cb) ct x0 x1 x2
 .obtain⟨c,cp,ct,x0,x1,x2,cb⟩:=Og hu.q hT m0 m1 m2 (kI a0 c0 h0)
  exact fin c cp (bn (bw b0 d0) cb) ct x0 x1 x2
noncomputable def ww(w:FJ):FI:=match w with
 |[y,z,x]=>low (kG (dE y z) (dE y x))
 |_=>[]
theorem Ig{y z:FI}(hy:bx y)(hz:bx z):∃a b c,dE y z=[a,b,c]/\Bd 10 a/\Bd 10 b/\Bd 10 c:=by
 obtain⟨y0,y1,y2,rfl,a0,a1,a2⟩:=qN hy;obtain⟨z0,z1,z2,rfl,c0,c1,c2⟩:=qN hz;exact⟨_,_,_,rfl,dG (by omega),dG (by omega),dG (by omega)⟩
noncomputable abbrev waM:ME:=bA jL [] (aD (aC aE (aB 1) (mC (.int 0))) (aD (aB 0) aF))
noncomputable abbrev qI:ME:=bA pF [] (aD (bA qZ [] (aD (bH ["p"] [(0,"wall")] (bP (gL (aB 0) (fK (mC (.int 1))) eN)) (gN 0) waM) aF)) aF)
theorem xU{u:Int×Int}(hu:Sp u){f:FI}(Gf:Gu 3 100 f){y z x:FI}(hy:bx y)(hz:bx z)(hx:bx x)(n1:y≠z)(n2:y≠x)(nz:∃n∈kG (dE y z) (dE y x),n≠0)(S:aI):qI [some (.pv (.tup ([y,z,x].map λy=>tv (cK [u,u,u] f y))))] S=.ok (.pv (lv (ww [y,z,x]))) S:=by
 obtain⟨c,c0,cb,-,e1⟩:=Ed hu Gf hy hz n1;obtain⟨d,d0,db,-,e2⟩:=Ed hu Gf hy hx n2;obtain⟨a0,a1,a2,ea,ba0,ba1,ba2⟩:=Ig hy hz;obtain⟨b0,b1,b2,eb,bb0,bb1,bb2⟩:=Ig hy hx;unfold ww;show qI [some (.pv (.tup [tv (cK [u,u,u] f y),tv (cK [u,u,u] f z),tv (cK [u,u,u] f x)]))] S=.ok (.pv (lv (low (kG (dE y z) (dE y x))))) S;rw[ea]at nz⊢;rw[eb]at nz⊢;rw[ea]at e1;rw[eb]at e2;generalize tv (cK [u,u,u] f x)=X,tv (cK [u,u,u] f z)=Z,tv (cK [u,u,u] f y)=Y at *;have e1:∀S,jL [.pv Y,.pv Z] S=.ok (.pv (.lst [.int (c*a0),.int (c*a1),.int (c*a2)])) S:=e1;have e2:∀S,jL [.pv Y,.pv X] S=.ok (.pv (.lst [.int (d*b0),.int (d*b1),.int (d*b2)])) S:=e2;have mb:∀{c a:Int},Bd 410 c->Bd 10 a->Bd 10000 (c*a):=λh g=>(h.mul g).mono (by decide);have e3:=λS=>Yn S (mb cb ba0) (mb cb ba1) (mb cb ba2) (mb db bb0) (mb db bb1) (mb db bb2);have en:[c*a1*(d*b2)-c*a2*(d*b1),c*a2*(d*b0)-c*a0*(d*b2),c*a0*(d*b1)-c*a1*(d*b0)]=(kG [a0,a1,a2] [b0,b1,b2]).map (c*d*·):=by
  show _=[c*d*(a1*b2-a2*b1),c*d*(a2*b0-a0*b2),c*d*(a0*b1-a1*b0)];congr 1
  .grind
  .congr 1
   .grind
   .congr 1
    grind
 have gn:=Me nz;have e4:=λS=>Pi ((kG [a0,a1,a2] [b0,b1,b2]).map (c*d*·)) S (λn hn=>by
  rw[<-en]at hn;have mb':∀{a b:Int},Bd 10 a->Bd 10 b->Bd 900 (c*a*(d*b)):=λh g=>((cb.mul h).mul (db.mul g)).mono (by decide);simp only[cr,iu,or_false]at hn;rcases hn with rfl |rfl |rfl
  .exact((mb' ba1 bb2).sub (mb' ba2 bb1)).mono (by decide)
  .exact((mb' ba2 bb0).sub (mb' ba0 bb2)).mono (by decide)
  .exact((mb' ba0 bb1).sub (mb' ba1 bb0)).mono (by decide)) (Me (by
   obtain⟨n,hn,z⟩:=nz;exact⟨_,dq.mpr ⟨n,hn,rfl⟩,jl (cv (az c0 d0)) z⟩))
 rw[qT (az c0 d0) _ gn,<-en]at e4;have e4:∀S,pF [.pv (.lst [.int (c*a1*(d*b2)-c*a2*(d*b1)),.int (c*a2*(d*b0)-c*a0*(d*b2)),.int (c*a0*(d*b1)-c*a1*(d*b0))])] S=.ok (.pv (lv (low (kG [a0,a1,a2] [b0,b1,b2])))) S:=e4;generalize lv (low (kG [a0,a1,a2] [b0,b1,b2]))=R at *;simp! [aE,aX,aY,aK,aP,aQ,aO,aR,aH,aN,bH,cD,bP,cH,fR,fD,gN,gL,fK,eN,kQ,Ve,e1,e2,e3,e4]
theorem acE{k l:Nat}{u v:Int×Int}(h:Fq k u)(g:Fq l v)(e:u.1*v.2=v.1*u.2):u=v:=by
 refine Ys h g ?_;have n1:=i0 (cv h.pos);have n2:=i0 (cv g.pos);have e2:(u.1:Rat)*v.2=(v.1:Rat)*u.2:=by rw[<-km,<-km,e]
 grind
theorem Ud{k l:Nat}{t b:Int}{v:Int×Int}(hb:b≠0)(bt:Bd k t)(bb:Bd k b)(g:Fq l v)(e:t*v.2=v.1*b):cC t b=v:=by
 obtain⟨ef,hf⟩:=oC hb bt bb;obtain⟨p,q,e1,hq,e2⟩:=rV (t:=t) hb;rw[e1]at ef;have e3:(cC t b).1=p/\(cC t b).2=q:=by simp at ef;exact⟨ef.1.symm,ef.2.symm⟩
 refine acE hf g ?_;rw[e3.1,e3.2];refine yl hb ?_;grind
theorem ab3{ns:FI}{c s:Int}(hc:c≠0)(hs:ns=(cE ns).map (s*·))(nz:∃n∈ns,n≠0):gf (ns.map (c*·))=c*s:=by
 have h:=uD (ns.map (c*·));rw[Ol hc]at h;have e:ns.map (c*·)=(cE ns).map (c*s*·):=by
  conv=>lhs;rw[hs]
  rw[ff];exact ij λx _=>by
   show c*(s*x)=c*s*x;rw[xf]
 rw[e]at h;obtain⟨d,hd,d0⟩:=Pb nz;have:=List.map_inj_left.mp h d hd;rw[e];exact(yl d0 this).symm
theorem d01{y z:FI}(hy:bx y)(hz:bx z)(ne:y≠z):(∃n∈dE y z,n≠0)/\∃s,(s=1\/s=-1)/\dE y z=(cE (dE y z)).map (s*·):=by
 obtain⟨y0,y1,y2,rfl,a0,a1,a2⟩:=qN hy;obtain⟨z0,z1,z2,rfl,c0,c1,c2⟩:=qN hz;have k:∀a b:Int,(0<=a/\a<=1)->(0<=b/\b<=1)->b-a∈[-1,0,1]:=λa b h g=>by simp;omega
 have go:∀x∈([-1,0,1]:FI),∀y∈([-1,0,1]:FI),∀z∈([-1,0,1]:FI),(x≠0\/y≠0\/z≠0)->[x,y,z]=(cE [x,y,z]).map (1*·)\/[x,y,z]=(cE [x,y,z]).map (-1*·):=by decide+kernel
 have nz:z0-y0≠0\/z1-y1≠0\/z2-y2≠0:=by
  by_cases h0:z0-y0=0
  .by_cases h1:z1-y1=0
   .refine .inr (.inr λh2=>ne ?_)
    rw[show y0=z0 by omega,show y1=z1 by omega,show y2=z2 by omega]
   .exact .inr (.inl h1)
  .exact .inl h0
 refine⟨?_,?_⟩
 .show ∃n∈[z0-y0,z1-y1,z2-y2],n≠0
  rcases nz with h |h |h
  .exact⟨_,ce,h⟩
  .exact⟨_,cj _ ce,h⟩
  .exact⟨_,cj _ (cj _ ce),h⟩
 .rcases go _ (k _ _ a0 c0) _ (k _ _ a1 c1) _ (k _ _ a2 c2) nz with h |h
  .exact⟨1,.inl rfl,h⟩
  .exact⟨-1,.inr rfl,h⟩
theorem Kq{u:Int×Int}(hu:Sp u){f:FI}(Gf:Gu 3 100 f){y:FI}(hy:bx y):Gu 3 201 (cK [u,u,u] f y):=by
 obtain⟨y0,y1,y2,rfl,a0,a1,a2⟩:=qN hy;exact(xC (.inr rfl) (fs:=[u,u,u]) rfl (λv hv=>by simp at hv;rw[hv];exact hu) Gf (y:=[y0,y1,y2]) rfl (λx hx=>by simp at hx;omega)).1
theorem rS{u:Int×Int}(hu:Sp u)(lo:bi u.1 u.2=1){f:FI}(Gf:Gu 3 100 f){y z:FI}(hy:bx y)(hz:bx z)(ne:y≠z):∃s,(s=1\/s=-1)/\∀S,vN [.pv (tv (cK [u,u,u] f y)),.pv (tv (cK [u,u,u] f z))] S=.ok (.pv (.tup [tv (cE (dE y z)),fv (s*u.1,u.2)])) S:=by
 obtain⟨c,c0,cb,cu,e1⟩:=Ed hu Gf hy hz ne;obtain⟨nz,s,hs,es⟩:=d01 hy hz ne;obtain⟨a0,a1,a2,ea,ba0,ba1,ba2⟩:=Ig hy hz;obtain⟨p0,p1,p2,pw,ep,pw0,-,-,-,pb⟩:=(Kq hu Gf hy).three';obtain⟨q0,q1,q2,qw,eq,qw0,-,-,-,qb⟩:=(Kq hu Gf hz).three';have gf1:=ab3 (cv c0) es nz;have dr:=Ol (k:=c) (cv c0) (dE y z);refine⟨s,hs,λS=>?_⟩;rw[ep]at cu e1⊢;rw[eq]at cu e1⊢;rw[<-dr];have cu:u.2*c=u.1*(pw*qw):=cu;have mb:∀{a:Int},Bd 10 a->Bd 420 (c*a):=λh=>(cb.mul h).mono (by decide);have nz2:∃n∈(dE y z).map (c*·),n≠0:=by
  obtain⟨n,hn,h0⟩:=nz;exact⟨_,dq.mpr ⟨n,hn,rfl⟩,jl (cv c0) h0⟩
 have sb:Bd 10 s:=dG (by omega);have fr1:cC (c*s) (pw*qw)=(s*u.1,u.2):=by
  refine Ud (k:=450) (l:=50) (cv (az pw0 qw0)) ((cb.mul sb).mono (by decide)) ((pb.mul qb).mono (by decide)) ⟨hu.q,(sb.mul hu.bp).mono (by decide),hu.bq.mono (by decide),?_⟩ ?_
  .rcases hs with rfl |rfl
   .rw[jd];exact lo
   .show bi (-1*u.1) u.2=1
    rw[kr,jd,Int.neg_gcd];exact lo
  .show c*s*u.2=s*u.1*(pw*qw)
   rw[xf s,<-cu];grind
 rw[ea]at e1 nz2 gf1⊢;have al:=acb (k:=500) (by decide) S (x:=c*a0) (y:=c*a1) (z:=c*a2) (b:=pw*qw) ((mb ba0).mono (by decide)) ((mb ba1).mono (by decide)) ((mb ba2).mono (by decide)) nz2 ((pb.mul qb).mono (by decide)) (az pw0 qw0);have gf1:gf [c*a0,c*a1,c*a2]=c*s:=gf1;rw[gf1,fr1]at al;have e1:=e1 S;have e1:jL [.pv (.tup [.int p0,.int p1,.int p2,.int pw]),.pv (.tup [.int q0,.int q1,.int q2,.int qw])] S=.ok (.pv (.lst [.int (c*a0),.int (c*a1),.int (c*a2)])) S:=e1;have hm:aV (.int pw) (.int qw)=some (.int (pw*qw)):=iB (.inr ⟨pb.mono (by decide),qb.mono (by decide)⟩);show _=bI.ok (AV.pv (.tup [tv (cE [c*a0,c*a1,c*a2]),fv (s*u.1,u.2)])) S;generalize PV.tup [tv (cE [c*a0,c*a1,c*a2]),fv (s*u.1,u.2)]=R at *;unfold vN aZ zQ;show mF S.length ((bJ (bA tG [] (aD (bA jL [] (aD (aB 0) (aD (aB 1) aF))) (aD (aC aV (aC aE (aB 0) (bV dL (mC (.int 1)))) (aC aE (aB 1) (bV dL (mC (.int 1))))) aF)))) (iD 2 [.pv (.tup [.int p0,.int p1,.int p2,.int pw]),.pv (.tup [.int q0,.int q1,.int q2,.int qw])]) S)=_;simp! [aE,aX,aY,aK,aP,aQ,aO,aR,aH,aN,e1,hm,al]
noncomputable def jQ:List (Nat×Nat×Nat×Nat):=[(0,1,2,3),(0,2,1,3),(0,3,1,2),(1,2,0,3),(1,3,0,2),(2,3,0,1)]
noncomputable def dW(ys:FJ)(e:Nat×Nat×Nat×Nat):FI:=cE (dE (ys.getD e.1 []) (ys.getD e.2.1 []))
noncomputable def cJ(ys:FJ):FJ:=(jX ys).map ww
noncomputable abbrev fJ(u:Int×Int)(ys:FJ)(p:(Nat×Nat×Nat×Nat)×Int):PV:=.tup [tv (dW ys p.1),fv (p.2*u.1,u.2)]
noncomputable abbrev Lg(u:Int×Int)(ys:FJ)(es:List ((Nat×Nat×Nat×Nat)×Int)):PV:=.obj "Frame" ["arrows","shares"] [.lst ((cJ ys).map lv),.lst (es.map (fJ u ys))]
structure Es(es:List ((Nat×Nat×Nat×Nat)×Int)):Prop where
 e:es.map (·.1)=jQ
 s:∀p∈es,p.2=1\/p.2=-1
structure Q4(ys:FJ):Prop where
 len:ys.length=4
 b:∀y∈ys,bx y
 nd:ys.Nodup
 nz:∀w∈jX ys,∃y z x,w=[y,z,x]/\∃n∈kG (dE y z) (dE y x),n≠0
theorem aeh{u:Int×Int}(hu:Sp u)(lo:bi u.1 u.2=1){f:FI}(Gf:Gu 3 100 f){ys:FJ}(q:Q4 ys):∃es,Es es/\∀S,kC jM [none,some (.pv (px (ys.map (cK [u,u,u] f))))] S=.ok [.lst ((cJ ys).map lv),.lst (es.map (fJ u ys))] S:=by
 obtain⟨hl,hb,nd,nz⟩:=q
 match ys,hl,hb,nd,nz with
 |[a,b,c,d],_,hb,nd,nz=>
  have ha:=hb a (by simp);have hb':=hb b (by simp);have hc:=hb c (by simp);have hd:=hb d (by simp);simp only[la,cr,iu,or_false,not_or,sv,and_true,not_false_eq_true]at nd;obtain⟨⟨nab,nac,nad⟩,⟨nbc,nbd⟩,ncd⟩:=nd;have W:∀y z x,[y,z,x]∈jX [a,b,c,d]->∃n∈kG (dE y z) (dE y x),n≠0:=λy z x h=>by
   obtain⟨y',z',x',e,h⟩:=nz _ h;cases e;exact h
  have w1:=λS=>xU hu Gf hb' hc hd nbc nbd (W b c d (by simp[jX])) S;have w2:=λS=>xU hu Gf ha hd hc nad nac (W a d c (by simp[jX])) S;have w3:=λS=>xU hu Gf ha hb' hd nab nad (W a b d (by simp[jX])) S;have w4:=λS=>xU hu Gf ha hc hb' nac nab (W a c b (by simp[jX])) S;obtain⟨s1,h1,e1⟩:=rS hu lo Gf ha hb' nab;obtain⟨s2,h2,e2⟩:=rS hu lo Gf ha hc nac;obtain⟨s3,h3,e3⟩:=rS hu lo Gf ha hd nad;obtain⟨s4,h4,e4⟩:=rS hu lo Gf hb' hc nbc;obtain⟨s5,h5,e5⟩:=rS hu lo Gf hb' hd nbd;obtain⟨s6,h6,e6⟩:=rS hu lo Gf hc hd ncd;refine⟨[((0,1,2,3),s1),((0,2,1,3),s2),((0,3,1,2),s3),((1,2,0,3),s4),((1,3,0,2),s5),((2,3,0,1),s6)],⟨rfl,λp hp=>?_⟩,λS=>?_⟩
  .simp only[cr,iu,or_false]at hp
   rcases hp with rfl |rfl |rfl |rfl |rfl |rfl<;>assumption
  .have we:=F7 (uss:=[a,b,c,d].map (cK [u,u,u] f)) (.inr rfl) S
   have r1:bX [] (gN 0) qI ([[b,c,d],[a,d,c],[a,b,d],[a,c,b]].map λw=>PV.tup (w.map λy=>tv (cK [u,u,u] f y))) [none] S=.ok ([[b,c,d],[a,d,c],[a,b,d],[a,c,b]].map λw=>lv (ww w)) S:=lZ (iZ _) _ _ _ _ λw hw=>by
    simp only[cr,iu,or_false]at hw;rcases hw with rfl |rfl |rfl |rfl
    .exact w1 S
    .exact w2 S
    .exact w3 S
    .exact w4 S
   have r1:bX [] (gN 0) qI ((jX ([a,b,c,d].map (cK [u,u,u] f))).map λw=>PV.tup (w.map tv)) [none] S=.ok ((cJ [a,b,c,d]).map lv) S:=r1;generalize (cJ [a,b,c,d]).map lv=AL,((jX ([a,b,c,d].map (cK [u,u,u] f))).map λw=>PV.tup (w.map tv))=WL at *;show kC jM [none,some (.pv (.tup [tv (cK [u,u,u] f a),tv (cK [u,u,u] f b),tv (cK [u,u,u] f c),tv (cK [u,u,u] f d)]))] S=.ok [.lst AL,.lst [.tup [tv (cE (dE a b)),fv (s1*u.1,u.2)],.tup [tv (cE (dE a c)),fv (s2*u.1,u.2)],.tup [tv (cE (dE a d)),fv (s3*u.1,u.2)],.tup [tv (cE (dE b c)),fv (s4*u.1,u.2)],.tup [tv (cE (dE b d)),fv (s5*u.1,u.2)],.tup [tv (cE (dE c d)),fv (s6*u.1,u.2)]]] S;have we:rD [.pv (.tup [tv (cK [u,u,u] f a),tv (cK [u,u,u] f b),tv (cK [u,u,u] f c),tv (cK [u,u,u] f d)])] S=.ok (.pv (.lst WL)) S:=we;have e1:=e1 S;have e2:=e2 S;have e3:=e3 S;have e4:=e4 S;have e5:=e5 S;have e6:=e6 S;generalize tv (cK [u,u,u] f d)=Td,tv (cK [u,u,u] f c)=Tc,tv (cK [u,u,u] f b)=Tb,tv (cK [u,u,u] f a)=Ta,PV.tup [tv (cE (dE c d)),fv (s6*u.1,u.2)]=B6,PV.tup [tv (cE (dE b d)),fv (s5*u.1,u.2)]=B5,PV.tup [tv (cE (dE b c)),fv (s4*u.1,u.2)]=B4,PV.tup [tv (cE (dE a d)),fv (s3*u.1,u.2)]=B3,PV.tup [tv (cE (dE a c)),fv (s2*u.1,u.2)]=B2,PV.tup [tv (cE (dE a b)),fv (s1*u.1,u.2)]=B1 at *;have r1:∀S',S'=S->bX [] (gN 0) qI WL [none] S'=.ok AL S:=λS' e=>e▸r1;unfold jM;show kC [("arrows",bH ["wall"] [] (bP (bA rD [] (aD (aB 1) aF))) (gN 0) qI),("shares",_)] _ _=_;generalize qI=WM at *;simp! [aE,aX,aY,aK,aP,aQ,aO,aR,aH,aN,kC,bH,cD,bP,cH,we,r1,fR,fD,gN,e1,e2,e3,e4,e5,e6]
theorem Nf(A B:PV):gX "Frame" "arrows" (.obj "Frame" ["arrows","shares"] [A,B])=some A:=rfl
theorem Zt(A B:PV):gX "Frame" "shares" (.obj "Frame" ["arrows","shares"] [A,B])=some B:=rfl
noncomputable def ab(x:Int):Int:=if x<0 then-x else x
noncomputable def iT(xs:FI):Int:=xs.max?.getD 0
theorem Ko{xs:FI}(h:xs≠[]):lM [.lst (xs.map .int)]=some (.int (iT xs)):=by
 unfold lM iT;dsimp only;rw[sV]
 match xs,h with
 |x::xs,_=>rfl
theorem Qo{xs:FI}{b:Int}(h:xs≠[])(hb:∀x∈xs,x<=b):iT xs<=b:=by
 unfold iT;cases e:xs.max? with
 |none=>exact absurd (List.max?_eq_none_iff.mp e) h
 |some m=>exact hb m (EW e)
noncomputable abbrev zG:ME:=mR lM (aD (bH ["number"] [] (bP (aB 0)) (gN 0) (mR eD (aD (aB 0) aF))) aF)
theorem Du{xs:FI}(h:xs≠[]){V:PV}(hV:V=lv xs\/V=tv xs)(S:aI):zG [some (.pv V)] S=.ok (.pv (.int (iT (xs.map ab)))) S:=by
 have e:bX [] (gN 0) (mR eD (aD (aB 0) aF)) (xs.map .int) [none] S=.ok (xs.map λx=>.int (ab x)) S:=lZ (iZ _) _ _ _ _ λx _=>by simp! [aE,aX,aY,aK,aP,aQ,aO,aR,aH,aN,ab]
 have m:=Ko (xs:=xs.map ab) (by simpa using h);rw[ff]at m;have m:lM [.lst (xs.map λx=>.int (ab x))]=_:=m;have hs:cH (.pv V) S=.ok (xs.map .int,[]) S:=by rcases hV with rfl |rfl<;>rfl
 generalize xs.map PV.int=XL,iT (xs.map ab)=M,(xs.map λx=>PV.int (ab x))=L at *;simp! [aE,aX,aY,aK,aP,aQ,aO,aR,aH,aN,bH,cD,bP,hs,e,m]
theorem ada{u:Int×Int}{ys:FJ}{es:List ((Nat×Nat×Nat×Nat)×Int)}(h:∀r∈cJ ys++es.map λp=>dW ys p.1,r≠[]/\∀x∈r,-2<x/\x<2)(ne:cJ ys≠[])(hl:(cJ ys).length<=4)(he:es.length<=6):∃t,t<=1/\∀S,kY [.pv (Lg u ys es)] S=.ok (.pv (.int t)) S:=by
 refine⟨iT ((cJ ys++es.map λp=>dW ys p.1).map λr=>iT (r.map ab)),?_,λS=>?_⟩
 .refine Qo (by simpa using λe=>absurd e ne) λx hx=>?_
  obtain⟨r,hr,rfl⟩:=dq.mp hx;refine Qo (by simpa using(h r hr).1) λy hy=>?_;obtain⟨z,hz,rfl⟩:=dq.mp hy;have:=(h r hr).2 z hz;unfold ab;split<;>omega
 .have c1:∀S,bX [] (gN 0) (aC aE (aB 0) (mC (.int 0))) (es.map (fJ u ys)) [none] S=.ok (es.map λp=>tv (dW ys p.1)) S:=λS=>lZ (iZ _) _ _ _ _ λp _=>by simp! [aE,aX,aY,aK,aP,aQ,aO,aR,aH,aN]
  have c2:∀S,bX [] (gN 0) zG ((cJ ys).map lv++es.map λp=>tv (dW ys p.1)) [none] S=.ok ((cJ ys++es.map λp=>dW ys p.1).map λr=>.int (iT (r.map ab))) S:=λS=>by
   have e:((cJ ys).map lv++es.map λp=>tv (dW ys p.1))=((cJ ys).map (λr=>(lv r,r))++es.map λp=>(tv (dW ys p.1),dW ys p.1)).map u5:=by simp[ff,EX]
   have e2:((cJ ys++es.map λp=>dW ys p.1).map λr=>PV.int (iT (r.map ab)))=((cJ ys).map (λr=>(lv r,r))++es.map λp=>(tv (dW ys p.1),dW ys p.1)).map λq=>.int (iT (q.2.map ab)):=by simp[ff,EX]
   rw[e,e2];refine lZ (iZ _) _ _ _ _ λq hq=>?_;rcases dk.mp hq with hq |hq
   .obtain⟨r,hr,rfl⟩:=dq.mp hq
    exact Du (h r (ng _ hr)).1 (.inl rfl) S
   .obtain⟨p,hp,rfl⟩:=dq.mp hq
    exact Du (h _ (dz _ (dq.mpr ⟨p,hp,rfl⟩))).1 (.inr rfl) S
  have m:=Ko (xs:=(cJ ys++es.map λp=>dW ys p.1).map λr=>iT (r.map ab)) (by simpa using λe=>absurd e ne);rw[ff]at m;have m:lM [.lst ((cJ ys++es.map λp=>dW ys p.1).map λr=>.int (iT (r.map ab)))]=_:=m;generalize iT ((cJ ys++es.map λp=>dW ys p.1).map λr=>iT (r.map ab))=M,((cJ ys++es.map λp=>dW ys p.1).map λr=>PV.int (iT (r.map ab)))=L at *;have hz:((cJ ys).map lv).length+(es.map λp=>tv (dW ys p.1)).length<=16777216:=by rw[aw,aw];omega
  show kY [.pv (.obj "Frame" ["arrows","shares"] [.lst ((cJ ys).map lv),.lst (es.map (fJ u ys))])] S=_;unfold kY aZ zM;rw[if_pos (show[AV.pv _].length=1 from rfl)];generalize (cJ ys).map lv=AL,es.map (fJ u ys)=SH,(es.map λp=>tv (dW ys p.1))=SL at *;show mF S.length ((aJ (aU 1 (aC aH (bV (gX "Frame" "arrows") (aB 0)) (bH ["share"] [] (bP (bV (gX "Frame" "shares") (aB 0))) (gN 0) (aC aE (aB 0) (mC (.int 0)))))) (bJ (mR lM (aD (bH ["row"] [] (bP (aB 1)) (gN 0) zG) aF)))) (iD 2 [.pv (.obj "Frame" ["arrows","shares"] [.lst AL,.lst SH])]) S)=_;generalize zG=MM at *;generalize hI:aC aE (aB 0) (mC (.int 0))=IM at *;simp! [aE,aX,aY,aK,aP,aQ,aO,aR,aH,aN,bH,cD,bP,cH,Nf,Zt,c1,c2,m,hz]
noncomputable abbrev S3(a b c:Int):Prop:=(-3<a/\a<3)/\(-3<b/\b<3)/\(-3<c/\c<3)
theorem Yd{a b c d e f:Int}(h:S3 a b c)(g:S3 d e f){U V:PV}(hU:U=lv [a,b,c]\/U=tv [a,b,c])(hV:V=lv [d,e,f]\/V=tv [d,e,f])(S:aI):lF [.pv U,.pv V] S=.ok (.pv (.int (a*d+b*e+c*f))) S:=by
 have m1:aV (.int a) (.int d)=some (.int (a*d)):=jE (by omega) (by omega);have m2:aV (.int b) (.int e)=some (.int (b*e)):=jE (by omega) (by omega);have m3:aV (.int c) (.int f)=some (.int (c*f)):=jE (by omega) (by omega);have s:=Pk [a*d,b*e,c*f];unfold lF aZ Pe;have es:[a*d,b*e,c*f].sum=a*d+b*e+c*f:=by simp;omega
 rcases hU with rfl |rfl<;>rcases hV with rfl |rfl<;>simp! [aE,aX,aY,aK,aP,aQ,aO,aR,aH,aN,bH,cD,iV,mU,eX,cH,fR,fD,gT,gN,cG,eB,m1,m2,m3,lL,fV,es]
theorem E1{u:Int×Int}(hu:Sp u)(lo:bi u.1 u.2=1):fr (u.1*1) u.2=[u.1,u.2]:=by
 have h:=oC (k:=50) (t:=u.1*1) (b:=u.2) (cv hu.q) (by rw[jt];exact hu.bp.mono (by decide)) (hu.bq.mono (by decide));have e:=Ud (k:=50) (l:=50) (t:=u.1*1) (b:=u.2) (v:=u) (cv hu.q) (by rw[jt];exact hu.bp.mono (by decide)) (hu.bq.mono (by decide)) ⟨hu.q,hu.bp.mono (by decide),hu.bq.mono (by decide),lo⟩ (by rw[jt]);rw[h.1,e]
theorem adF{u:Int×Int}(hu:Sp u){v:Int}(hv:-3<v/\v<3)(S:aI):wW [.pv (fv u),.pv (.tup [.int v,.int 1])] S=.ok (.pv (fv (cC (u.1*v) u.2))) S:=by
 have m1:aV (.int u.1) (.int v)=some (.int (u.1*v)):=iB (.inr ⟨hu.bp.mono (by decide),(dG (by omega)).mono (by decide)⟩);have m2:aV (.int u.2) (.int 1)=some (.int u.2):=by
  have:=iB (i:=u.2) (j:=1) (.inr ⟨hu.bq.mono (by decide),(dG (by omega)).mono (by decide)⟩);rw[jt]at this;exact this
 have bv:Bd 50 (u.1*v):=(hu.bp.mul (dG (i:=v) (by omega))).mono (by decide);have e:=vQ (u.1*v) u.2 S (bv.mono (by decide)) (hu.bq.mono (by decide)) (cv hu.q);rw[(oC (k:=50) (cv hu.q) bv (hu.bq.mono (by decide))).1]at e;have e:kZ [.pv (.int (u.1*v)),.pv (.int u.2)] S=.ok (.pv (fv (cC (u.1*v) u.2))) S:=e;generalize fv (cC (u.1*v) u.2)=R at *;unfold wW aZ Uc;simp! [aE,aX,aY,aK,aP,aQ,aO,aR,aH,aN,m1,m2,e]
noncomputable def vg(g:Int):Int:=if g=1\/g=-1 then 1 else-2
structure Eg(w0 w1 w2 a b c d e f g:Int):Prop where
 w:S3 w0 w1 w2
 o:S3 a b c
 t:S3 d e f
 nz:∃n∈[w0,w1,w2],n≠0
 m:w0*w0+w1*w1+w2*w2=1\/w0*w0+w1*w1+w2*w2=2
 gg:g=1\/g=-1\/g=2\/g=-2
 c0:b*f-c*e=g*w0
 c1:c*d-a*f=g*w1
 c2:a*e-b*d=g*w2
theorem adq{u:Int×Int}(hu:Sp u)(lo:bi u.1 u.2=1){s:Int}(hs:s=1\/s=-1){w0 w1 w2 a b c d e f g:Int}(q:Eg w0 w1 w2 a b c d e f g){P:FS}(hP:P=[]\/(P=[.int 3]/\w0*w0+w1*w1+w2*w2=2/\a*d+b*e+c*f=-1))(S:aI):
  oW [.pv (.tup [tv [w0,w1,w2],fv (s*u.1,u.2)]),.pv (lv [a,b,c]),.pv (lv [d,e,f]),.pv (.lst P)] S=.ok (.ref S.length) (S++[.lst (P.map λ_=>.tup [tv [2,3],fv (cC (u.1*vg g) u.2)])]):=by
 obtain⟨hw,ho,ht,nz,hm,hg,c0,c1,c2⟩:=q;have d1:=λS=>Yd hw hw (.inr rfl) (.inr rfl) S;have d2:=λS=>Yd ho ht (.inl rfl) (.inl rfl) S;have ws:=λS=>ws_ hm S;obtain⟨p,dd,L,ep,ei,dn,dm,eg⟩:=Tq S nz;have eg:=eg g;have ds:-3<dd/\dd<3:=by
  simp only[cr,iu,or_false]at dm;rcases dm with rfl |rfl |rfl
  .exact hw.1
  .exact hw.2.1
  .exact hw.2.2
 have bb:∀{i:Int},-3<i/\i<3->Bd 10000 i:=λh=>(dG (by omega)).mono (by decide);have n3:=λS=>Yn S (bb ho.1) (bb ho.2.1) (bb ho.2.2) (bb ht.1) (bb ht.2.1) (bb ht.2.2);rw[c0,c1,c2]at n3;have fd:dI (.int (g*dd)) (.int dd)=some (.int g):=by
  rw[sI dn (by omega),Int.mul_fdiv_cancel _ dn]
 have am:aV (.int (ab g)) (.int 1)=some (.int (ab g)):=by
  rw[jE (by unfold ab;split<;>omega) (by omega),jt]
 have ag:eD [.int g]=some (.int (ab g)):=rfl;have au:eD [.int (s*u.1)]=some (.int u.1):=by
  unfold eD;dsimp only;have:=hu.p;rcases hs with rfl |rfl
  .rw[jd,if_neg (by omega)]
  .rw[if_pos (by omega)]
   congr 2;omega
 have um:aV (.int u.1) (.int 1)=some (.int u.1):=by rw[iB (.inr ⟨hu.bp.mono (by decide),(dG (by omega)).mono (by decide)⟩),jt]
 have fe:=λS=>vQ u.1 u.2 S (hu.bp.mono (by decide)) (hu.bq.mono (by decide)) (cv hu.q);have fs:=E1 hu lo;rw[jt]at fs;rw[fs]at fe;have fe:∀S,kZ [.pv (.int u.1),.pv (.int u.2)] S=.ok (.pv (fv u)) S:=fe;have va:∀S,oX [.pv (.int 1),.pv (.int (ab g)),.pv (.int 2),.pv (.int 3)] S=.ok (.pv (.int (vg g))) S:=λS=>by
  rcases hg with rfl |rfl |rfl |rfl
  .exact Iv S
  .exact Iv S
  .exact Mv S
  .exact Mv S
 have tm:=λS=>adF hu (v:=vg g) (by unfold vg;split<;>omega) S;have wi:aE (tv [w0,w1,w2]) (.int p)=some (.int dd):=ei;have eg:aE (.lst [.int (g*w0),.int (g*w1),.int (g*w2)]) (.int p)=some (.int (g*dd)):=eg;have i0:aE (.tup [tv [w0,w1,w2],fv (s*u.1,u.2)]) (.int 0)=some (tv [w0,w1,w2]):=rfl;have i1:aE (.tup [tv [w0,w1,w2],fv (s*u.1,u.2)]) (.int 1)=some (.tup [.int (s*u.1),.int u.2]):=rfl;have rg:=sK S (n:=3) (by decide);rw[show((3:Nat):Int)=3 from rfl]at rg;have l0:aE (.lst (.int p::L)) (.int 0)=some (.int p):=rJ (j:=0) rfl;have q0:aE (.tup [.int (w0*w0+w1*w1+w2*w2),.int 1]) (.int 0)=some (.int (w0*w0+w1*w1+w2*w2)):=rfl;have q1:aE (.tup [.int (w0*w0+w1*w1+w2*w2),.int 1]) (.int 1)=some (.int 1):=rfl;have j0:aE (.tup [.int (s*u.1),.int u.2]) (.int 0)=some (.int (s*u.1)):=rfl;have j1:aE (.tup [.int (s*u.1),.int u.2]) (.int 1)=some (.int u.2):=rfl;unfold oW;show aZ 4 14 (aJ _ (aJ _ (aJ _ (aJ _ (aJ (aU 8 (aC aE (kN ["k"] [(4,"way")] (eJ (aD (mC (.int 3)) aF)) (gN 0) qO (aB 0)) (mC (.int 0)))) _))))) [.pv (.tup [tv [w0,w1,w2],fv (s*u.1,u.2)]),.pv (.lst [.int a,.int b,.int c]),.pv (.lst [.int d,.int e,.int f]),.pv (.lst P)] S=_;generalize tv [w0,w1,w2]=W at *;generalize a*d+b*e+c*f=T,w0*w0+w1*w1+w2*w2=M,qO=C1,eU 0 3=IP,cC (u.1*vg g) u.2=RR,PV.tup [W,fv (s*u.1,u.2)]=SH at *;have ep:∀S',S'=S->eK [] (gN 0) C1 (aB 0) IP [none,some (.pv W)] S'=.ok (.int p::L) S':=λS' e=>e▸ep;have d2:∀S,lF [.pv (.lst [.int a,.int b,.int c]),.pv (.lst [.int d,.int e,.int f])] S=_:=d2;refine pO (v:=.ref S.length) (S':=S++[.lst (P.map λ_=>.tup [tv [2,3],fv RR])]) rfl ?_ (by simp[jZ]);apply sq;simp! [-eD,bQ,aP,aQ,aO,aR,aH,aN,i0];exact⟨rfl,rfl⟩;apply sq;simp! [-eD,bQ,aP,aQ,aO,aR,aH,aN,d1,ws];exact⟨rfl,rfl⟩;apply sq;simp! [-eD,bQ,aP,aQ,aO,aR,aH,aN,q0];exact⟨rfl,rfl⟩;apply sq;simp! [-eD,bQ,aP,aQ,aO,aR,aH,aN,q1];exact⟨rfl,rfl⟩;apply sq;simp! [-eD,bQ,aP,aQ,aO,aR,aH,aN,kN,cD,eJ,rg,ep,l0];exact⟨rfl,rfl⟩;apply sq;simp! [-eD,bQ,aP,aQ,aO,aR,aH,aN,d2];exact⟨rfl,rfl⟩;apply sq;simp! [-eD,bQ,aP,aQ,aO,aR,aH,aN,n3,eg,wi,fd,ag,am];exact⟨rfl,rfl⟩;apply sq;simp! [-eD,bQ,aP,aQ,aO,aR,aH,aN,i1,j0,j1,au,um,fe];exact⟨rfl,rfl⟩;apply sq;simp! [-eD,bQ,aP,aQ,aO,aR,aH,aN,gF,lH];exact⟨rfl,rfl⟩;rcases hP with rfl |⟨rfl,rfl,rfl⟩
 .apply sq;simp! [-eD,bQ,aP,aQ,aO,aR,aH,aN,cX,bP,cH,iA];exact⟨rfl,rfl⟩
  simp! [-eD,bQ,aP,aQ,aO,aR,aH,aN]
 .have md:cV (.int 2) (.int 3)=some (.int 2):=fU (by decide)
  apply sq
  .simp only[cX,bP,aB,List.getElem?_cons_succ,EY,bI.bind,cH,cA.of]
   rw[gW];simp! [-eD,bQ,aP,aQ,aO,aR,aH,aN,gN,md,va,tm,gO,fH,lJ,iA];exact⟨rfl,rfl⟩
  simp! [-eD,bQ,aP,aQ,aO,aR,aH,aN]
noncomputable def nn(a b:FI):Int:=match a,b with
 |[a,b,c],[d,e,f]=>a*d+b*e+c*f
 |_,_=>0
noncomputable def mJ(w c:FI):Int:=if c=w.map (1*·)then 1 else if c=w.map (-1*·)then-1 else if c=w.map (2*·)then 2 else if c=w.map (-2*·)then-2 else 0
noncomputable def fA:FI->Bool
 |[a,b,c]=>decide (-3<a/\a<3)&&decide (-3<b/\b<3)&&decide (-3<c/\c<3)
 |_=>false
noncomputable def qM(w o t:FI):Bool:=fA w&&fA o&&fA t&&w.any (λx=>!decide (x=0))&&(decide (nn w w=1)||decide (nn w w=2))&& !decide (mJ w (kG o t)=0)&&(decide (nn o o=1)||decide (nn o o=3))&&(decide (nn t t=1)||decide (nn t t=3))&&((decide (nn o o=1)&&decide (nn t t=1))||(decide (nn w w=2)&&decide (nn o t=-1)))
noncomputable def fN(r:FI):FS:=if nn r r=3 then[.int 3] else[]
noncomputable def lR(o t:FI):FS:=if nn o o=3\/nn t t=3 then[.int 3] else[]
noncomputable def vE(w o t:FI):Int:=vg (mJ w (kG o t))
theorem xG{w:FI}(h:fA w=true):∃a b c,w=[a,b,c]/\S3 a b c:=by
 match w,h with
 |[a,b,c],h=>
  unfold fA at h;simp only[gr,decide_eq_true_eq]at h;exact⟨a,b,c,rfl,h.1.1,h.1.2,h.2⟩
theorem abQ{w c:FI}(h:mJ w c≠0):(mJ w c=1\/mJ w c=-1\/mJ w c=2\/mJ w c=-2)/\c=w.map (mJ w c*·):=by
 unfold mJ at*
 by_cases h1:c=w.map (1*·)
 .rw[if_pos h1];exact⟨.inl rfl,h1⟩
 rw[if_neg h1]at*
 by_cases h2:c=w.map (-1*·)
 .rw[if_pos h2];exact⟨.inr (.inl rfl),h2⟩
 rw[if_neg h2]at*
 by_cases h3:c=w.map (2*·)
 .rw[if_pos h3];exact⟨.inr (.inr (.inl rfl)),h3⟩
 rw[if_neg h3]at*
 by_cases h4:c=w.map (-2*·)
 .rw[if_pos h4];exact⟨.inr (.inr (.inr rfl)),h4⟩
 rw[if_neg h4]at h;exact absurd rfl h
theorem ad1{u:Int×Int}(hu:Sp u)(lo:bi u.1 u.2=1){s:Int}(hs:s=1\/s=-1){w o t:FI}(h:qM w o t=true)(S:aI):(nn o o=1\/nn o o=3)/\(nn t t=1\/nn t t=3)/\oW [.pv (.tup [tv w,fv (s*u.1,u.2)]),.pv (lv o),.pv (lv t),.pv (.lst (lR o t))] S=.ok (.ref S.length) (S++[.lst ((lR o t).map λ_=>.tup [tv [2,3],fv (cC (u.1*vE w o t) u.2)])]):=by
 unfold qM at h;simp only[gr,n8,decide_eq_true_eq,ss,decide_eq_false_iff_not,EZ]at h;obtain⟨⟨⟨⟨⟨⟨⟨⟨hw,ho⟩,ht⟩,nz⟩,hm⟩,hg⟩,h1⟩,h2⟩,h3⟩:=h;obtain⟨w0,w1,w2,rfl,sw⟩:=xG hw;obtain⟨a,b,c,rfl,so⟩:=xG ho;obtain⟨d,e,f,rfl,st⟩:=xG ht;obtain⟨g1,g2⟩:=abQ hg;refine⟨h1,h2,?_⟩;unfold vE;generalize mJ [w0,w1,w2] (kG [a,b,c] [d,e,f])=g at *;have g2:[b*f-c*e,c*d-a*f,a*e-b*d]=[g*w0,g*w1,g*w2]:=g2;simp only[List.cons.injEq,and_true]at g2;refine adq hu lo hs ⟨sw,so,st,nz,hm,g1,g2.1,g2.2.1,g2.2.2⟩ ?_ S;unfold lR;rcases h3 with⟨x,y⟩|⟨x,y⟩
 .exact .inl (if_neg (by rw[x,y];decide))
 .by_cases z:nn [a,b,c] [a,b,c]=3\/nn [d,e,f] [d,e,f]=3
  .exact .inr ⟨if_pos z,x,y⟩
  .exact .inl (if_neg z)
theorem ad2{r:FI}(h:fA r=true)(h1:nn r r=1\/nn r r=3)(S:aI):bA lX [] (aD (bA lF [] (aD (aB 0) (aD (aB 0) aF))) aF) [some (.pv (lv r))] S=.ok (.pv (.lst (fN r))) S:=by
 obtain⟨a,b,c,rfl,so⟩:=xG h;have d1:=λS=>Yd so so (.inl rfl) (.inl rfl) S;unfold fN;have h1:a*a+b*b+c*c=1\/a*a+b*b+c*c=3:=h1;have en:nn [a,b,c] [a,b,c]=a*a+b*b+c*c:=rfl;rw[en];generalize lv [a,b,c]=V,a*a+b*b+c*c=N at *;rcases h1 with rfl |rfl
 .simp! [aE,aX,aY,aK,aP,aQ,aO,aR,aH,aN,d1,op1]
 .simp! [aE,aX,aY,aK,aP,aQ,aO,aR,aH,aN,d1,op3]
theorem abu{o t:FI}(h1:nn o o=1\/nn o o=3)(h2:nn t t=1\/nn t t=3):pN [.lst (fN o++fN t)]=some (.lst (lR o t)):=by
 unfold fN lR;rcases h1 with e1 |e1<;>rcases h2 with e2 |e2<;>rw[e1,e2]<;>rfl
noncomputable abbrev jH(e:Nat×Nat×Nat×Nat):PV:=tv [(e.1:Int),(e.2.1:Int),(e.2.2.1:Int),(e.2.2.2:Int)]
noncomputable def aA(ys:FJ)(i:Nat):FI:=(cJ ys).getD i []
noncomputable def iM(u:Int×Int)(ys:FJ)(e:Nat×Nat×Nat×Nat):FS:=(lR (aA ys e.2.2.1) (aA ys e.2.2.2)).map λ_=>.tup [tv [2,3],fv (cC (u.1*vE (dW ys e) (aA ys e.2.2.1) (aA ys e.2.2.2)) u.2)]
noncomputable def Jg(ys:FJ):Bool:=jQ.all λe=>qM (dW ys e) (aA ys e.2.2.1) (aA ys e.2.2.2)
noncomputable abbrev sO:MS:=aJ (aU 5 (aC aE (aB 3) (mC (.int 2)))) (aJ (aU 6 (aC aE (aB 3) (mC (.int 3)))) (aJ (aU 7 (mR pN (aD (aC aH (aC aE (aB 1) (aB 5)) (aC aE (aB 1) (aB 6))) aF))) (kR 2 (bA oW [] (aD (aB 4) (aD (aC aE (bV (gX "Frame" "arrows") (aB 0)) (aB 5)) (aD (aC aE (bV (gX "Frame" "arrows") (aB 0)) (aB 6)) (aD (aB 7) aF))))))))
theorem Nu{o t:FI}:(lR o t).length<=1:=by
 unfold lR;split<;>simp
theorem Kv{o:FI}:(fN o).length<=1:=by
 unfold fN;split<;>simp
theorem U9{u:Int×Int}(hu:Sp u)(lo:bi u.1 u.2=1){ys:FJ}(hl:(cJ ys).length=4){p:(Nat×Nat×Nat×Nat)×Int}(hp:p.1∈jQ)(hs:p.2=1\/p.2=-1)(h:qM (dW ys p.1) (aA ys p.1.2.2.1) (aA ys p.1.2.2.2)=true)(S:aI)(RL:FS)(hR:RL.length<9999)(A2:PV)(x5 x6 x7:FV):
  ∃y5 y6 y7,sO [some (.pv (.obj "Frame" ["arrows","shares"] [.lst ((cJ ys).map lv),A2])),some (.pv (.lst ((cJ ys).map λr=>.lst (fN r)))),some (.ref S.length),some (.pv (jH p.1)),some (.pv (fJ u ys p)),x5,x6,x7] (S++[.lst RL])=.nx [some (.pv (.obj "Frame" ["arrows","shares"] [.lst ((cJ ys).map lv),A2])),some (.pv (.lst ((cJ ys).map λr=>.lst (fN r)))),some (.ref S.length),some (.pv (jH p.1)),some (.pv (fJ u ys p)),y5,y6,y7] (S++[.lst (RL++iM u ys p.1)]):=by
 obtain⟨e,s⟩:=p;obtain⟨i,j,o,t⟩:=e;have ho:o<4/\t<4:=by
  unfold jQ at hp;simp only[cr,iu,or_false,Prod.mk.injEq]at hp;omega
 obtain⟨h1,h2,er⟩:=ad1 hu lo hs h (S++[.lst RL]);have sr:=abu h1 h2;have f1:∀{k:Nat},k<4->aE (.lst ((cJ ys).map lv)) (.int (k:Int))=some (lv (aA ys k)):=λ{k} hk=>rJ (by
  rw[cq,bf (by omega)];show some (lv _)=_;unfold aA;rw[yk,bf (by omega)];rfl)
 have f2:∀{k:Nat},k<4->aE (.lst ((cJ ys).map λr=>.lst (fN r))) (.int (k:Int))=some (.lst (fN (aA ys k))):=λ{k} hk=>rJ (by
  rw[cq,bf (by omega)];show some (PV.lst (fN _))=_;unfold aA;rw[yk,bf (by omega)];rfl)
 have i2:aE (jH (i,j,o,t)) (.int 2)=some (.int (o:Int)):=rfl;have i3:aE (jH (i,j,o,t)) (.int 3)=some (.int (t:Int)):=rfl;have a1:=f1 ho.1;have a2:=f1 ho.2;have b1:=f2 ho.1;have b2:=f2 ho.2;have bl:=Nu (o:=aA ys o) (t:=aA ys t);have pl1:=Kv (o:=aA ys o);have Yu:=Kv (o:=aA ys t);have ad:aH (.lst (fN (aA ys o))) (.lst (fN (aA ys t)))=some (.lst (fN (aA ys o)++fN (aA ys t))):=by
  unfold aH;dsimp only;rw[if_pos (by omega)]
 have er:oW [.pv (fJ u ys ((i,j,o,t),s)),.pv (lv (aA ys o)),.pv (lv (aA ys t)),.pv (.lst (lR (aA ys o) (aA ys t)))] (S++[.lst RL])=.ok (.ref (S++[SO.lst RL]).length) (S++[.lst RL]++[.lst (iM u ys (i,j,o,t))]):=er;have rl:(iM u ys (i,j,o,t)).length<=1:=by
  unfold iM;rw[aw];exact bl
 have hz:RL.length+(iM u ys (i,j,o,t)).length<=16777216:=by omega
 clear f1 f2 h h1 h2 rl bl pl1 Yu;show ∃y5 y6 y7,sO [_,_,_,some (.pv (jH (i,j,o,t))),some (.pv (fJ u ys ((i,j,o,t),s))),x5,x6,x7] _=cA.nx [_,_,_,some (.pv (jH (i,j,o,t))),some (.pv (fJ u ys ((i,j,o,t),s))),y5,y6,y7] (S++[.lst (RL++iM u ys (i,j,o,t))]);generalize ((cJ ys).map λr=>PV.lst (fN r))=PL,(cJ ys).map lv=AL,lv (aA ys t)=V2,lv (aA ys o)=V1,lR (aA ys o) (aA ys t)=BT,fN (aA ys t)=P2,fN (aA ys o)=P1,jH (i,j,o,t)=ET,fJ u ys ((i,j,o,t),s)=SH,iM u ys (i,j,o,t)=RW at *;refine⟨some (.pv (.int (o:Int))),some (.pv (.int (t:Int))),some (.pv (.lst BT)),?_⟩;apply sq;simp! [bQ,aP,aQ,aO,aR,aH,aN,i2];exact⟨rfl,rfl⟩;apply sq;simp! [bQ,aP,aQ,aO,aR,aH,aN,i3];exact⟨rfl,rfl⟩;apply sq;simp! [bQ,aP,aQ,aO,aR,aN,b1,b2,ad,sr];exact⟨rfl,rfl⟩;have tk:((S++[SO.lst RL,SO.lst RW]).take (S.length+1)).set S.length (SO.lst (RL++RW))=S++[SO.lst (RL++RW)]:=by
  rw[show S++[SO.lst RL,SO.lst RW]=(S++[SO.lst RL])++[SO.lst RW] by simp,FA (by simp)];simp
 simp! [bQ,aP,aQ,aO,aR,aH,aN,kR,yH,Nf,a1,a2,er,hz,tk]
theorem Zn{u:Int×Int}(hu:Sp u)(lo:bi u.1 u.2=1){ys:FJ}(hl:(cJ ys).length=4)(S:aI)(A2:PV):∀(L:List ((Nat×Nat×Nat×Nat)×Int))(RL:FS)(x3 x4 x5 x6 x7:FV),(∀p∈L,p.1∈jQ/\(p.2=1\/p.2=-1)/\qM (dW ys p.1) (aA ys p.1.2.2.1) (aA ys p.1.2.2.2)=true)->RL.length+L.length<9999->∃y3 y4 y5 y6 y7,
  dA [] (gT 2 (cG (gN 3) (cG (gN 4) eB))) sO (L.map λp=>.tup [jH p.1,fJ u ys p]) [some (.pv (.obj "Frame" ["arrows","shares"] [.lst ((cJ ys).map lv),A2])),some (.pv (.lst ((cJ ys).map λr=>.lst (fN r)))),some (.ref S.length),x3,x4,x5,x6,x7] (S++[.lst RL])=.nx [some (.pv (.obj "Frame" ["arrows","shares"] [.lst ((cJ ys).map lv),A2])),some (.pv (.lst ((cJ ys).map λr=>.lst (fN r)))),some (.ref S.length),y3,y4,y5,y6,y7] (S++[.lst (RL++L.flatMap λp=>iM u ys p.1)])
 |[],RL,x3,x4,x5,x6,x7,_,_=>⟨x3,x4,x5,x6,x7,by rw[List.flatMap_nil,kg];exact iA⟩
 |p::L,RL,x3,x4,x5,x6,x7,h,hz=>by
  obtain⟨h1,h2,h3⟩:=h p ce;have hz:RL.length+(L.length+1)<9999:=hz;obtain⟨y5,y6,y7,e1⟩:=U9 hu lo hl h1 h2 h3 S RL (by omega) A2 x5 x6 x7;have rl:(iM u ys p.1).length<=1:=by
   unfold iM;rw[aw];exact Nu
  obtain⟨z3,z4,z5,z6,z7,e2⟩:=Zn hu lo hl S A2 L (RL++iM u ys p.1) (some (.pv (jH p.1))) (some (.pv (fJ u ys p))) y5 y6 y7 (λq hq=>h q (cj _ hq)) (by rw[cx];omega);refine⟨z3,z4,z5,z6,z7,?_⟩;rw[oj]at e2;rw[cf,gW,vj];generalize sO=FB at *;simp[gT,gN,cG,eB,e1,e2]
theorem Hq(u:Int×Int)(ys:FJ):∀es:List ((Nat×Nat×Nat×Nat)×Int),eX ((es.map (·.1)).map jH) (es.map (fJ u ys))=es.map λp=>.tup [jH p.1,fJ u ys p]
 |[]=>rfl
 |p::es=>by
  have:=Hq u ys es;show PV.tup [jH p.1,fJ u ys p]::eX ((es.map (·.1)).map jH) (es.map (fJ u ys))=_;rw[this];rfl
theorem adg{ys:FJ}(hl:(cJ ys).length=4)(h:Jg ys=true):∀r∈cJ ys,fA r=true/\(nn r r=1\/nn r r=3):=by
 have h:=ie.mp h;have k1:∀{w o t:FI},qM w o t=true->(fA o=true/\(nn o o=1\/nn o o=3))/\(fA t=true/\(nn t t=1\/nn t t=3)):=λh=>by
  unfold qM at h;simp only[gr,n8,decide_eq_true_eq]at h;obtain⟨⟨⟨⟨⟨⟨⟨⟨hw,ho⟩,ht⟩,nz⟩,hm⟩,hg⟩,h1⟩,h2⟩,h3⟩:=h;exact⟨⟨ho,h1⟩,ht,h2⟩
 have e0:=(k1 (h (1,2,0,3) (by decide))).1;have e1:=(k1 (h (0,2,1,3) (by decide))).1;have e2:=(k1 (h (0,1,2,3) (by decide))).1;have e3:=(k1 (h (0,1,2,3) (by decide))).2;unfold aA at e0 e1 e2 e3
 match cJ ys,hl,e0,e1,e2,e3 with
 |[a,b,c,d],_,e0,e1,e2,e3=>
  intro r hr;simp only[cr,iu,or_false]at hr;rcases hr with rfl |rfl |rfl |rfl
  .exact e0
  .exact e1
  .exact e2
  .exact e3
theorem aaX{u:Int×Int}(hu:Sp u)(lo:bi u.1 u.2=1){ys:FJ}(hl:(cJ ys).length=4)(h:Jg ys=true){es:List ((Nat×Nat×Nat×Nat)×Int)}(he:Es es)(S:aI):lW [.pv (Lg u ys es)] S=.ok (.ref S.length) (S++[.lst (jQ.flatMap (iM u ys))]):=by
 have ao:=adg hl h;have c1:bX [] (gN 0) (bA lX [] (aD (bA lF [] (aD (aB 0) (aD (aB 0) aF))) aF)) ((cJ ys).map lv) [none] S=.ok ((cJ ys).map λr=>.lst (fN r)) S:=lZ (iZ _) _ _ _ _ λr hr=>ad2 (ao r hr).1 (ao r hr).2 S;have el:es.length=6:=by
  have:=congrArg ue he.e;simpa[jQ]using this
 obtain⟨y3,y4,y5,y6,y7,e2⟩:=Zn hu lo hl S (.lst (es.map (fJ u ys))) es [] none none none none none (λp hp=>by
  have:p.1∈jQ:=by
   rw[<-he.e];exact dq.mpr ⟨p,hp,rfl⟩
  exact⟨this,he.s p hp,ie.mp h _ this⟩) (by rw[el];decide)
 have fm:(es.flatMap λp=>iM u ys p.1)=jQ.flatMap (iM u ys):=by
  rw[<-he.e,List.flatMap_map]
 rw[fm,ox]at e2;have zp:=Hq u ys es;rw[he.e]at zp;have zp:eX [.tup [.int 0,.int 1,.int 2,.int 3],.tup [.int 0,.int 2,.int 1,.int 3],.tup [.int 0,.int 3,.int 1,.int 2],.tup [.int 1,.int 2,.int 0,.int 3],.tup [.int 1,.int 3,.int 0,.int 2],.tup [.int 2,.int 3,.int 0,.int 1]] (es.map (fJ u ys))=es.map λp=>.tup [jH p.1,fJ u ys p]:=zp;show lW [.pv (.obj "Frame" ["arrows","shares"] [.lst ((cJ ys).map lv),.lst (es.map (fJ u ys))])] S=_;generalize (cJ ys).map lv=AL,((cJ ys).map λr=>PV.lst (fN r))=PL,es.map (fJ u ys)=SL,(es.map λp=>PV.tup [jH p.1,fJ u ys p])=ZL,jQ.flatMap (iM u ys)=RR at *;unfold lW;show aZ 1 8 (aJ (aU 1 (bH ["arrow"] [] (bP (bV (gX "Frame" "arrows") (aB 0))) (gN 0) (bA lX [] (aD (bA lF [] (aD (aB 0) (aD (aB 0) aF))) aF)))) (aJ _ (aJ (cX _ _ sO) _))) _ S=_;generalize sO=FB,(bA lX [] (aD (bA lF [] (aD (aB 0) (aD (aB 0) aF))) aF))=PM at *;refine pO (v:=.ref S.length) (S':=S++[.lst RR]) rfl ?_ (by simp[jZ]);apply sq;simp! [bQ,aP,aQ,aO,aR,aH,aN,bH,cD,bP,Nf,cH,c1];exact⟨rfl,rfl⟩;apply sq;simp! [bQ,aP,aQ,aO,aR,aH,aN,gF,lH];exact⟨rfl,rfl⟩;apply sq;simp! [bQ,aP,aQ,aO,aR,aH,aN,cX,iV,mU,Zt,cH,zp,e2];exact⟨rfl,rfl⟩;simp! [bQ,aP,aQ,aO,aR,aH,aN]
noncomputable def sG(a:FI):FJ->FK
 |[]=>[[a]]
 |b::l=>(a::b::l)::(sG a l).map (b:: ·)
noncomputable def vA:FJ->FK
 |[]=>[[]]
 |a::l=>(vA l).flatMap (sG a)
theorem No(a:FI):∀l1 l2:FJ,l1++a::l2∈sG a (l1++l2)
 |[],[]=>by simp[sG]
 |[],b::l2=>by simp[sG]
 |b::l1,l2=>by
  simp only[vh,sG];exact cj _ (dq.mpr ⟨_,No a l1 l2,rfl⟩)
theorem Cc:∀{xs l:FJ},l.Perm xs->l∈vA xs
 |[],l,h=>by rw[EG.mp h];simp[vA]
 |a::xs,l,h=>by
  obtain⟨l1,l2,rfl⟩:=EU (h.mem_iff.mpr ce);have h2:(l1++l2).Perm xs:=(u8.symm.trans h).cons_inv;exact u9.mpr ⟨_,Cc h2,No a l1 l2⟩
noncomputable def b8:FJ:=[[0,0,0],[1,0,0],[0,1,0],[1,1,0],[0,0,1],[1,0,1],[0,1,1],[1,1,1]]
noncomputable def lN(c:FI):FJ:=match c with
 |[x,y,z]=>[[x,y,z],[1-x,y,z],[x,1-y,z],[x,y,1-z]]
 |_=>[]
noncomputable def gR(o:Int):FJ:=b8.filter λc=>decide (c.sum%2=o)
noncomputable def Vf(ys:FJ):FI:=jQ.flatMap λe=>(lR (aA ys e.2.2.1) (aA ys e.2.2.2)).map λ_=>vE (dW ys e) (aA ys e.2.2.1) (aA ys e.2.2.2)
noncomputable def zK(r:FI):Bool:=!r.isEmpty&&r.all λx=>decide (-2<x/\x<2)
noncomputable def Hv(y:FI):Bool:=decide (y.length=3)&&y.all λx=>decide (0<=x/\x<=1)
noncomputable def Rg(ys:FJ):Bool:=decide (ys.length=4)&&ys.all Hv&&decide ys.Nodup&&(jX ys).all λw=>match w with
 |[y,z,x]=>(kG (dE y z) (dE y x)).any λn=>!decide (n=0)
 |_=>false
noncomputable def vB(vs:FI)(ys:FJ):Bool:=!decide (0<dU (ys.map (·++[1])))||(Rg ys&&decide ((cJ ys).length=4)&&Jg ys&&(cJ ys).all zK&&jQ.all (λe=>zK (dW ys e))&&decide (Vf ys=vs))
theorem acR:(b8.all λc=>(vA (lN c)).all (vB [1,1,1]))=true:=by decide+kernel
theorem ac0:([0,1].all λo=>(vA (gR o)).all (vB [-2,-2,-2,-2,-2,-2]))=true:=by decide+kernel
theorem Kr{r:FI}(h:zK r=true):r≠[]/\∀x∈r,-2<x/\x<2:=by
 unfold zK at h;simp only[gr,ss,List.isEmpty_eq_false_iff,ie,decide_eq_true_eq]at h;exact h
theorem ad8{ys:FJ}(h:Rg ys=true):Q4 ys:=by
 unfold Rg at h;simp only[gr,decide_eq_true_eq,ie]at h;obtain⟨⟨⟨h1,h2⟩,h3⟩,h4⟩:=h;refine⟨h1,λy hy=>?_,h3,λw hw=>?_⟩
 .have:=h2 y hy
  unfold Hv at this;simp only[gr,decide_eq_true_eq,ie]at this;exact this
 .have:=h4 w hw
  match w,this with
  |[y,z,x],this=>
   simp only[EZ,ss,decide_eq_false_iff_not]at this;exact⟨y,z,x,rfl,this⟩
noncomputable abbrev iL(u:Int×Int)(v:Int):FI×(Int×Int):=([2,3],cC (u.1*v) u.2)
structure Pz(u:Int×Int)(P V:PV)(t:Int)(vs:FI):Prop where
 f:∀S,∃A B,V=.obj "Frame" ["arrows","shares"] [A,B]/\kC jM [none,some (.pv P)] S=.ok [A,B] S
 tt:t<=1
 s:∀S,kY [.pv V] S=.ok (.pv (.int t)) S
 r:∀S,lW [.pv V] S=.ok (.ref S.length) (S++[.lst ((vs.map (iL u)).map cY)])
theorem adi{u:Int×Int}(hu:Sp u)(lo:bi u.1 u.2=1){f:FI}(Gf:Gu 3 100 f){ys:FJ}{vs:FI}(h:vB vs ys=true)(pos:0<dU (ys.map (·++[1]))):∃V t,Pz u (px (ys.map (cK [u,u,u] f))) V t vs:=by
 unfold vB at h;rw[decide_eq_true pos]at h;simp only[Bool.not_true,Bool.false_or,gr,decide_eq_true_eq,ie]at h;obtain⟨⟨⟨⟨⟨h1,h2⟩,h3⟩,h4⟩,h5⟩,h6⟩:=h;obtain⟨es,he,e1⟩:=aeh hu lo Gf (ad8 h1);have el:es.length=6:=by
  have:=congrArg ue he.e;simpa[jQ]using this
 obtain⟨t,ht,e2⟩:=ada (u:=u) (ys:=ys) (es:=es) (λr hr=>by
  rcases dk.mp hr with hr |hr
  .exact Kr (h4 r hr)
  .obtain⟨p,hp,rfl⟩:=dq.mp hr
   exact Kr (h5 p.1 (by rw[<-he.e];exact dq.mpr ⟨p,hp,rfl⟩))) (λz=>by rw[z]at h2;simp at h2) (by omega) (by omega)
 refine⟨Lg u ys es,t,λS=>⟨_,_,rfl,e1 S⟩,ht,e2,λS=>?_⟩;rw[aaX hu lo h2 h3 he S,<-h6];have:jQ.flatMap (iM u ys)=((Vf ys).map (iL u)).map cY:=by
  unfold Vf iM;rw[v7,v7];congr 1
  funext e
  rw[ff,ff];rfl
 rw[this]
theorem Jp{R:List (FI×(Int×Int))}{k:FI}(h:∀r∈R,r.1=k)(ne:R≠[]):dN R=[k]:=by
 obtain⟨nd,mm⟩:=tO R;have h1:∀j∈dN R,j=k:=λj hj=>by
  obtain⟨r,hr,rfl⟩:=(mm j).mp hj;exact h r hr
 have h2:k∈dN R:=by
  obtain⟨r,hr⟩:=List.exists_mem_of_ne_nil R ne;exact(mm k).mpr ⟨r,hr,h r hr⟩
 match dN R,nd,h1,h2 with
 |[a],_,h1,_=>rw[h1 a (by simp)]
 |a::b::l,nd,h1,_=>
  rw[h1 a (by simp),h1 b (by simp)]at nd;simp at nd
theorem aa9{R:List (FI×(Int×Int))}{k:FI}(h:∀r∈R,r.1=k):cL R k=R.map (·.2):=by
 unfold cL;rw[List.filter_eq_self.mpr λr hr=>decide_eq_true (h r hr)]
theorem J1{R:List (FI×(Int×Int))}{k:FI}(h:∀r∈R,r.1=k):uE HT.lexLt R=if(fM (R.map (·.2))).1=0 then[] else[(k,fM (R.map (·.2)))]:=by
 by_cases ne:R=[]
 .subst ne
  rfl
 .unfold uE
  rw[Jp h ne];show([(k,fM (cL R k))].filter _)=_;rw[aa9 h]
  by_cases z:(fM (R.map (·.2))).1=0
  .rw[if_pos z];simp[z]
  .rw[if_neg z];simp[z]
theorem adQ{u:Int×Int}{P V:PV}{t:Int}{vs:FI}(z:Pz u P V t vs)(S:aI):mW "Frame" 1 1 jM (aD (aB 0) aF) [some (.pv P)] S=.ok (.pv V) S:=by
 obtain⟨A,B,rfl,e⟩:=z.f S;have:jM.map (·.1)=([dj "arrows",dj "shares"]:List Str):=rfl;unfold mW;rw[this];generalize jM=BI at *;simp! [aE,aX,aY,aK,aP,aQ,aO,aR,aH,aN,e]
theorem adC{u:Int×Int}{P V:PV}{t:Int}{vs:FI}(z:Pz u P V t vs)(S:aI):mY "Frame" "steepness" kY (aB 0) [some (.pv V)] S=.ok (.pv (.int t)) S:=by
 have e:=z.s S;obtain⟨A,B,rfl,-⟩:=z.f S;have n:(dj "steepness")∉([dj "arrows",dj "shares"]:List Str):=by decide+kernel
 unfold mY;simp only[aB,EY,bI.bind];rw[if_pos ⟨by trivial,n⟩,e];simp[frz,pU]
structure Pd(u:Int×Int)(d:PV×PV×Int×FI):Prop where
 z:Pz u d.1 d.2.1 d.2.2.1 d.2.2.2
 l:d.2.2.2.length<=6
 v:∀v∈d.2.2.2,v=1\/v=-2
theorem Lo{u:Int×Int}(x0 x1 x2:FV)(S:aI):∀(D:List (PV×PV×Int×FI))(RL:FS)(x4:FV),(∀d∈D,Pd u d)->RL.length+6*D.length<9999->∃y4,dA [] (gN 4) (kR 3 (bA lW [] (aD (aB 4) aF))) (D.map λd=>d.2.1) [x0,x1,x2,some (.ref S.length),x4] (S++[.lst RL])=.nx [x0,x1,x2,some (.ref S.length),y4] (S++[.lst (RL++(D.flatMap λd=>d.2.2.2.map (iL u)).map cY)])
 |[],RL,x4,_,_=>⟨x4,by show _=cA.nx _ (S++[SO.lst (RL++[])]);rw[kg];exact iA⟩
 |d::D,RL,x4,h,hz=>by
  have hd:=h d ce;have hz:RL.length+6*(D.length+1)<9999:=hz;have e1:=hd.z.r (S++[.lst RL]);have hl:=hd.l;obtain⟨y4,e2⟩:=Lo x0 x1 x2 S D (RL++(d.2.2.2.map (iL u)).map cY) (some (.pv d.2.1)) (λq hq=>h q (cj _ hq)) (by rw[cx,aw,aw];omega);refine⟨y4,?_⟩;rw[oj,<-ik]at e2;rw[cf,gW,vj];have hz2:RL.length+((d.2.2.2.map (iL u)).map cY).length<=16777216:=by rw[aw,aw];omega
  generalize he:(d.2.2.2.map (iL u)).map cY=RW at *;have tk:((S++[SO.lst RL,SO.lst RW]).take (S.length+1)).set S.length (SO.lst (RL++RW))=S++[SO.lst (RL++RW)]:=by
   rw[show S++[SO.lst RL,SO.lst RW]=(S++[SO.lst RL])++[SO.lst RW] by simp,FA (by simp)];simp
  have st:kR 3 (bA lW [] (aD (aB 4) aF)) [x0,x1,x2,some (.ref S.length),some (.pv d.2.1)] (S++[.lst RL])=.nx [x0,x1,x2,some (.ref S.length),some (.pv d.2.1)] (S++[.lst (RL++RW)]):=by
   simp! [bQ,aP,aQ,aO,aR,aH,aN,kR,yH,e1,hz2,tk]
  simp only[gN,tw,mx];rw[st];exact e2
theorem Kn:∀L:List (FI×(Int×Int)),nE (L.map cY)=true
 |[]=>rfl
 |x::L=>by
  have h:∀k:FI,nE (k.map .int)=true:=λk=>by
   induction k with
   |nil=>rfl
   |cons i k ih=>
    show(true&&nE (k.map .int))=true;rw[ih];rfl
  show((nE (x.1.map .int)&&true)&&nE (L.map cY))=true;rw[Kn L,h];rfl
theorem Sf{u:Int×Int}(hu:Sp u){v:Int}(hv:v=1\/v=-2):Fq 50 (cC (u.1*v) u.2):=(oC (k:=50) (cv hu.q) ((hu.bp.mul (dG (i:=v) (by omega))).mono (by decide)) (hu.bq.mono (by decide))).2
theorem aae(ts:FI)(h:∀t∈ts,t<=1):∃m,m<=1/\mV 0 [.lst (ts.map .int)]=some (.int m):=by
 refine⟨ts.max?.getD 0,?_,?_⟩
 .cases e:ts.max? with
  |none=>decide
  |some m=>exact h m (EW e)
 .unfold mV
  dsimp only;rw[sV];rfl
noncomputable abbrev qJ(u:Int×Int)(vs:FI):List (FI×(Int×Int)):=if(fM (vs.map λv=>cC (u.1*v) u.2)).1=0 then[] else[([2,3],fM (vs.map λv=>cC (u.1*v) u.2))]
theorem adN{u:Int×Int}(hu:Sp u){D:List (PV×PV×Int×FI)}(h:∀d∈D,Pd u d)(hl:(D.flatMap λd=>d.2.2.2).length<=64)(hD:D.length<=99){A:PV}(hA:A=.lst (D.map (·.1))\/A=.tup (D.map (·.1)))(S:aI):pA [.pv A] S=.ok (.pv (.tup ((qJ u (D.flatMap λd=>d.2.2.2)).map cY))) S:=by
 have c1:bX [] (gN 0) (mW "Frame" 1 1 jM (aD (aB 0) aF)) (D.map (·.1)) [none] S=.ok (D.map λd=>d.2.1) S:=lZ (iZ _) _ _ _ _ λd hd=>adQ (h d hd).z S;have c2:bX [] (gN 0) (mY "Frame" "steepness" kY (aB 0)) (D.map λd=>d.2.1) [none] S=.ok (D.map λd=>.int d.2.2.1) S:=lZ (iZ _) _ _ _ _ λd hd=>adC (h d hd).z S;obtain⟨m,hm,em⟩:=aae (D.map λd=>d.2.2.1) λt ht=>by
  obtain⟨d,hd,rfl⟩:=dq.mp ht;exact(h d hd).z.tt
 rw[ff]at em;have em:mV 0 [.lst (D.map λd=>.int d.2.2.1)]=some (.int m):=em;have hs:cH (.pv A) S=.ok (D.map (·.1),[]) S:=by rcases hA with rfl |rfl<;>rfl
 obtain⟨y4,e3⟩:=Lo (u:=u) (some (.pv A)) (some (.pv (.lst (D.map λd=>d.2.1)))) (some (.pv (.int m))) S D [] none h (by show 0+6*D.length<9999;omega);have fm:(D.flatMap λd=>d.2.2.2.map (iL u))=(D.flatMap λd=>d.2.2.2).map (iL u):=by rw[v7]
 rw[fm,ox]at e3;have hv:∀v∈D.flatMap λd=>d.2.2.2,v=1\/v=-2:=λv hv=>by
  obtain⟨d,hd,hv⟩:=u9.mp hv;exact(h d hd).v v hv
 generalize (D.flatMap λd=>d.2.2.2)=VS at *;have ke:∀r∈VS.map (iL u),r.1=[2,3]:=λr hr=>by
  obtain⟨v,_,rfl⟩:=dq.mp hr;rfl
 have fq:∀r∈VS.map (iL u),Fq 50 r.2:=λr hr=>by
  obtain⟨v,h,rfl⟩:=dq.mp hr;exact Sf hu (hv v h)
 have kl:(dN (VS.map (iL u))).length<=64:=gm (Xp _) (by rw[aw];exact hl);have k1:(dN (VS.map (iL u))).length<64:=by
  by_cases z:VS.map (iL u)=[]
  .rw[z];decide
  .rw[Jp ke z];decide
 have sm:=Hz (m:=6) (k:=50) (R:=VS.map (iL u)) (by rw[aw];omega) k1 (λz=>by
  obtain⟨r,hr,e⟩:=((tO _).2 _).mp z;rw[ke r hr]at e;cases e) (λj=>by
  unfold cL;rw[aw];exact gm (u7 _ _) (by rw[aw];exact hl)) (by decide) (by decide) fq
 have e2:(VS.map (iL u)).map (·.2)=VS.map λv=>cC (u.1*v) u.2:=by rw[ff];rfl
 rw[J1 ke,e2]at sm;have sm:rB [.pv (.lst ((VS.map (iL u)).map cY))] []=.ok (.pv (.tup ((qJ u VS).map cY))) []:=sm;have nl:lO (.tup ((qJ u VS).map cY))=true:=Kn (qJ u VS);generalize D.map (·.1)=PL,(D.map λd=>PV.int d.2.2.1)=SL,(D.map λd=>d.2.1)=FL,(VS.map (iL u)).map cY=RL,(qJ u VS).map cY=TL at *;unfold pA;show aZ 1 5 (aJ (aU 1 (bH ["piece"] [] (bP (aB 0)) (gN 0) (mW "Frame" 1 1 jM (aD (aB 0) aF)))) (aJ (aU 2 (mR (mV 0) (aD (bH ["frame"] [] (bP (aB 1)) (gN 0) (mY "Frame" "steepness" kY (aB 0))) aF))) (aJ (dZ (bG (aC gK (aB 2) (mC (.int 300)))) Ae eO) (aJ (aU 3 (gF aF)) (aJ (cX (bP (aB 1)) (gN 4) (kR 3 (bA lW [] (aD (aB 4) aF)))) (bJ (tZ rB (aD (aB 3) aF)))))))) [.pv A] S=_;generalize kR 3 (bA lW [] (aD (aB 4) aF))=M3,mY "Frame" "steepness" kY (aB 0)=M2,mW "Frame" 1 1 jM (aD (aB 0) aF)=M1 at *;have g3:¬(300<m):=by omega
 refine pO (v:=.pv (.tup TL)) (S':=S++[.lst RL]) rfl ?_ (by simp[jZ]);apply sq;simp! [bQ,aP,aQ,aO,aR,aH,aN,bH,cD,bP,hs,c1];exact⟨rfl,rfl⟩;apply sq;simp! [bQ,aP,aQ,aO,aR,aH,aN,bH,cD,bP,cH,c2,em];exact⟨rfl,rfl⟩;apply sq;simp! [bQ,aP,aQ,aO,aR,aH,aN,g3];exact⟨rfl,rfl⟩;apply sq;simp! [bQ,aP,aQ,aO,aR,aH,aN,gF,lH];exact⟨rfl,rfl⟩;apply sq;simp! [bQ,aP,aQ,aO,aR,aH,aN,cX,bP,cH,e3];exact⟨rfl,rfl⟩;simp! [bQ,aP,aQ,aO,aR,aH,aN,tZ,sm,nl]
theorem nJ{i:Int}(h:0<=i/\i<=1000000001):Bd 30 i:=by
 show i.natAbs<1073741824;omega
theorem lV{R:List SO}{ns:FI}{m:Int}(hm:0<m)(b:Bd 8000 m):∃(v:Int)(ns':FI),fT [.ref 0,.pv (.int m)] (.lst (li ns)::R)=.ok (.pv (.int v)) (.lst (li ns')::R)/\0<=v/\v<m:=by
 obtain⟨v,ns',e,h1,h2,_⟩:=rE (S:=.lst (li ns)::R) (k:=0) (ns:=ns) (m:=m) rfl hm b;exact⟨v,ns',e,h1,h2⟩
theorem acS(ns:FI):∃(u:Int×Int)(ns':FI),vS [.ref 0] [.lst (li ns)]=.ok (.pv (fv u)) [.lst (li ns')]/\Sp u/\bi u.1 u.2=1:=by
 obtain⟨a,n1,e1,a0,a1⟩:=lV (R:=[]) (ns:=ns) (m:=2) (by decide) ((dG (by omega)).mono (by decide));have t1:∃m1:Int,0<m1/\m1<=1000000000/\aE (.lst [.int 3,.int 1000000000]) (.int a)=some (.int m1):=by
  rcases(show a=0\/a=1 by omega)with rfl |rfl
  .exact⟨3,by decide,by decide,rfl⟩
  .exact⟨1000000000,by decide,by decide,rfl⟩
 obtain⟨m1,p1,q1,f1⟩:=t1;obtain⟨b,n2,e2,b0,b1⟩:=lV (R:=[]) (ns:=n1) (m:=m1) p1 ((nJ (by omega)).mono (by decide));obtain⟨c,n3,e3,c0,c1⟩:=lV (R:=[]) (ns:=n2) (m:=2) (by decide) ((dG (by omega)).mono (by decide));have t2:∃m2:Int,0<m2/\m2<=1000000/\aE (.lst [.int 2,.int 1000000]) (.int c)=some (.int m2):=by
  rcases(show c=0\/c=1 by omega)with rfl |rfl
  .exact⟨2,by decide,by decide,rfl⟩
  .exact⟨1000000,by decide,by decide,rfl⟩
 obtain⟨m2,p2,q2,f2⟩:=t2;obtain⟨d,n4,e4,d0,d1⟩:=lV (R:=[]) (ns:=n3) (m:=m2) p2 ((nJ (by omega)).mono (by decide));have bt:Bd 30 (1+b):=nJ (by omega);have bd:Bd 30 (1+d):=nJ (by omega);have nb:(1+d:Int)≠0:=by omega
 obtain⟨ef,hf⟩:=oC (k:=30) nb bt bd;have fe:=Kp (1+b) (1+d) [.lst (li n4)] (bt.mono (by decide)) (bd.mono (by decide));rw[ef]at fe;have fe:pJ [.pv (.int (1+b)),.pv (.int (1+d))] [.lst (li n4)]=.ok (.pv (fv (cC (1+b) (1+d)))) [.lst (li n4)]:=fe;refine⟨cC (1+b) (1+d),n4,?_,⟨?_,hf.pos,hf.b1,hf.b2⟩,hf.lo⟩
 .have w1:jG (.int 10) (.int 9)=some (.int 1000000000):=wV (i:=10) (j:=9) ⟨by decide,by decide,by decide⟩
  have w2:jG (.int 10) (.int 6)=some (.int 1000000):=wV (i:=10) (j:=6) ⟨by decide,by decide,by decide⟩;unfold vS aZ Ca;generalize li n4=L4,li n3=L3,li n2=L2,li n1=L1,li ns=L0,fv (cC (1+b) (1+d))=RR at *;simp! [bQ,aP,aQ,aO,aR,aH,aN,aH,e1,w1,f1,e2,e3,w2,f2,e4,fe]
 .obtain⟨p,q,e,hq,ev⟩:=rV (t:=1+b) nb
  rw[ef]at e;have:(cC (1+b) (1+d)).1=p/\(cC (1+b) (1+d)).2=q:=by simp at e;exact e
  have h2:(cC (1+b) (1+d)).1*(1+d)=(1+b)*(cC (1+b) (1+d)).2:=by rw[this.1,this.2];exact ev
  have h3:0<(cC (1+b) (1+d)).1*(1+d):=by rw[h2];exact az (by omega) hf.pos
  exact xc h3 (by omega)
theorem act{a b c:Int}(ha:0<=a/\a<2)(hb:0<=b/\b<2)(hc:0<=c/\c<2):[a,b,c]∈b8:=by
 have h:∀x:Int,0<=x/\x<2->x=0\/x=1:=λx h=>by omega
 rcases h a ha with rfl |rfl<;>rcases h b hb with rfl |rfl<;>rcases h c hc with rfl |rfl<;>decide
theorem Mz(ns:FI):∃(c:FI)(ns':FI),sP [.ref 0] [.lst (li ns)]=.ok (.ref 1) [.lst (li ns'),.lst ((lN c).map lv)]/\c∈b8:=by
 obtain⟨a,n1,e1,a0,a1⟩:=lV (R:=[]) (ns:=ns) (m:=2) (by decide) ((dG (by omega)).mono (by decide));obtain⟨b,n2,e2,b0,b1⟩:=lV (R:=[]) (ns:=n1) (m:=2) (by decide) ((dG (by omega)).mono (by decide));obtain⟨c,n3,e3,c0,c1⟩:=lV (R:=[]) (ns:=n2) (m:=2) (by decide) ((dG (by omega)).mono (by decide));refine⟨[a,b,c],n3,?_,act ⟨a0,a1⟩ ⟨b0,b1⟩ ⟨c0,c1⟩⟩;have rg:=λS=>sK S (n:=3) (by decide);rw[show((3:Nat):Int)=3 from rfl]at rg;have rg:∀S,kT [.pv (.int 3)] S=.ok ([.int 0,.int 1,.int 2],[]) S:=rg;unfold sP zO;generalize li n3=L3,li n2=L2,li n1=L1,li ns=L0 at *;refine pO (v:=.ref 1) (S':=[.lst L3,.lst ((lN [a,b,c]).map lv)]) rfl ?_ (by simp[jZ]);apply sq;simp! [bQ,aP,aQ,aO,aR,aH,aN,bH,cD,eJ,rg,fR,fD,gN,e1,e2,e3];exact⟨rfl,rfl⟩;apply sq;simp! [bQ,aP,aQ,aO,aR,aH,aN,gF,lH];exact⟨rfl,rfl⟩;apply sq;simp! [aE,aX,aY,aK,aP,aQ,aO,aR,aH,aN,cX,eJ,rg,gW,iA,gN,yL,yI,xS,yE,Rf,nY,fH,pT,gO,lJ];exact⟨rfl,rfl⟩;simp! [aE,aX,aY,aK,aP,aQ,aO,aR,aH,aN,lN]
theorem acr(ns:FI)(RAW:SO):∃(o:Int)(ns':FI),qX [.ref 0] [.lst (li ns),RAW]=.ok (.ref 2) [.lst (li ns'),RAW,.lst ((gR o).map lv)]/\(o=0\/o=1):=by
 obtain⟨a,n1,e1,a0,a1⟩:=lV (R:=[RAW]) (ns:=ns) (m:=2) (by decide) ((dG (by omega)).mono (by decide));refine⟨a,n1,?_,by omega⟩;have rg:=λS=>sK S (n:=8) (by decide);rw[show((8:Nat):Int)=8 from rfl]at rg;have rg:∀S,kT [.pv (.int 8)] S=.ok ([.int 0,.int 1,.int 2,.int 3,.int 4,.int 5,.int 6,.int 7],[]) S:=rg;have m0:gR 0=[[0,0,0],[1,1,0],[1,0,1],[0,1,1]]:=by decide
 have m1:gR 1=[[1,0,0],[0,1,0],[0,0,1],[1,1,1]]:=by decide
 unfold qX Va;generalize li n1=L1,li ns=L0 at *;refine pO (v:=.ref 2) (S':=[.lst L1,RAW,.lst ((gR a).map lv)]) rfl ?_ (by simp[jZ]);apply sq;simp! [bQ,aP,aQ,aO,aR,aH,aN,e1];exact⟨rfl,rfl⟩;apply sq;simp! [bQ,aP,aQ,aO,aR,aH,aN,gF,lH];exact⟨rfl,rfl⟩;rcases(show a=0\/a=1 by omega)with rfl |rfl
 .rw[m0]
  apply sq;simp! [aE,aX,aY,aK,aP,aQ,aO,aR,aH,aN,cX,eJ,rg,gW,iA,gN,fU,sI,lL,fV,gO,fH,lJ];exact⟨rfl,rfl⟩;simp! [aE,aX,aY,aK,aP,aQ,aO,aR,aH,aN]
 .rw[m1]
  apply sq;simp! [aE,aX,aY,aK,aP,aQ,aO,aR,aH,aN,cX,eJ,rg,gW,iA,gN,fU,sI,lL,fV,gO,fH,lJ];exact⟨rfl,rfl⟩;simp! [aE,aX,aY,aK,aP,aQ,aO,aR,aH,aN]
theorem Dz{H:FS}{g:GM}{mb:MS}{ρ:bM}{S:aI}(h:S[1]?=some (.lst H)):dA [(1,H)] g mb [] ρ S=.nx ρ S:=by
 rw[dA,if_pos];intro y hy;have:y=(1,H):=by simpa using hy
 rw[this];exact h
theorem Fy{H:FS}{g:GM}{mb:MS}{x:PV}{r:FS}{ρ ρ1 ρ2:bM}{S S2:aI}(h:S[1]?=some (.lst H))(hg:g x ρ=some ρ1)(hm:mb ρ1 S=.nx ρ2 S2):dA [(1,H)] g mb (x::r) ρ S=dA [(1,H)] g mb r ρ2 S2:=by
 rw[dA,if_pos]
 .rw[hg]
  dsimp only;rw[hm]
 .intro y hy
  have:y=(1,H):=by simpa using hy
  rw[this];exact h
theorem abL(HQ:SO){n:Nat}(hn:n=2\/n=3)(ns:FI){fs:List (Int×Int)}(hf:fs.length=n)(h:∀u∈fs,Sp u)(GL:FS)(hg:GL.length<=99){xss:FJ}(w:Rw n xss)(x1 x5:FV):∃(d:Pc)(ns':FI)(y5:FV),lB [some (.ref 0),x1,some (.pv (.lst (fs.map fv))),some (.ref 2),some (.pv (jF xss)),x5] [.lst (li ns),HQ,.lst GL]=.nx [some (.ref 0),x1,some (.pv (.lst (fs.map fv))),some (.ref 2),some (.pv (jF xss)),y5] [.lst (li ns'),HQ,.lst (GL++[d.pv fs])]/\Pl n (d,xss):=by
 have hr:iN [.lst (li ns),HQ,.lst GL] 0 ns:=rfl;obtain⟨v,n1,e1,G⟩:=aep n hn hr;simp only[mx]at e1;have e1:oA [.ref 0,.pv (.int (n:Int))] [.lst (li ns),HQ,.lst GL]=.ok (.pv v) [.lst (li n1),HQ,.lst GL]:=e1;obtain⟨ys,y,rfl,P⟩:=G;have Gf:Gu n 100 (ys++[y]):=⟨ys,y,rfl,P⟩;generalize ys++[y]=f at *;clear P y ys;have sp:=λS xs (hx:xs∈xss)=>wX hn S hf h (w.l xs hx) (λy hy=>by have:=w.b xs hx y hy;omega);have gu:∀us∈xss.map (dF fs),Gu n 100 us:=λus hu=>by
  obtain⟨xs,hx,rfl⟩:=dq.mp hu;exact(sp [] xs hx).2.1
 have hl:(xss.map (dF fs)).length=n+1:=by rw[aw];exact w.len
 have nz2:=aeb hn (way:=1) (.inl rfl) hl gu Gf (O6 hn hf h w);have gu2:=Be (way:=1) (.inl rfl) gu Gf;have l2:((xss.map (dF fs)).map (fO 1 f)).length=n+1:=by rw[aw];exact hl
 have eL:(xss.map (dF fs)).map (fO 1 f)=xss.map (cK fs f):=by rw[ff];rfl
 have cp:=M6 (Mt hn l2);have cd:=acU hn (k:=100+100+1) (by decide) l2 gu2;have es:=Hx (uss:=(xss.map (dF fs)).map (fO 1 f)) (A:=.lst (((xss.map (dF fs)).map (fO 1 f)).map tv)) hn [.lst (li n1),HQ,.lst GL] l2 (λus hu=>(gu2 us hu).mono (by decide)) (.inl rfl);rw[eL]at cp cd nz2 es;obtain⟨zs,pz,ez⟩:=Kl (cK fs f) cp;obtain⟨a,r,rfl⟩:∃a r,zs=a::r:=by
  have:=pz.length_eq;rw[w.len]at this
  match zs,this with
  |a::r,_=>exact⟨a,r,rfl⟩
 have ok:∀y∈a::r,y.length=n/\∀x∈y,0<=x/\x<=2:=λy hy=>⟨w.l y (pz.mem_iff.mp hy),w.b y (pz.mem_iff.mp hy)⟩;have ln1:(a::r).length=n+1:=by rw[pz.length_eq];exact w.len
 have pos:0<dU ((a::r).map (cK fs f)):=by rw[<-ez,cd];omega
 refine⟨⟨f,a,r⟩,n1,some (.pv (tv f)),?_,⟨⟨Gf,ln1,ok⟩,pz,aaE hn hf h Gf ln1 ok pos,w.nz⟩⟩;have ep:(Pc.mk f a r).pv fs=.tup ((nI (xss.map (cK fs f))).map tv):=by rw[ez];rfl
 rw[ep];have lz:GL.length<16777216:=by omega
 have ln:((fs.map fv).length:Int)=(n:Int):=by rw[aw,hf]
 have ec:bX [] (gN 0) (bA nS [] (aD (bA nV [] (aD (aB 0) (aD (aB 2) aF))) (aD (aB 1) (aD (mC (.int 1)) aF)))) (xss.map lv) [none,some (.pv (tv f)),some (.pv (.lst (fs.map fv)))] [.lst (li n1),HQ,.lst GL]=.ok (xss.map λxs=>tv (cK fs f xs)) [.lst (li n1),HQ,.lst GL]:=by
  refine lZ (iZ _) lv (λxs=>tv (cK fs f xs)) xss none λxs hx=>?_;have a1:=(sp [.lst (li n1),HQ,.lst GL] xs hx).1;have a2:=aa0 (way:=1) [.lst (li n1),HQ,.lst GL] hn (.inl rfl) (sp [] xs hx).2.1 Gf (by decide) (by decide);show _=bI.ok (AV.pv (tv (fO 1 f (dF fs xs)))) _;generalize fs.map fv=FL,tv f=T4,lv xs=T3,tv (dF fs xs)=T2,tv (fO 1 f (dF fs xs))=T1 at *;simp! [aE,aX,aY,aK,aP,aQ,aO,aR,aH,aN,a1,a2]
 have em:(xss.map (cK fs f)).map tv=xss.map λxs=>tv (cK fs f xs):=by rw[ff];rfl
 rw[em]at es;have hv:jF xss=.lst (xss.map lv):=rfl;rw[hv];clear ep ez cd cp pos ok pz nz2 gu2 l2 hl gu sp;generalize (n:Int)=N,fs.map fv=FL,xss.map lv=XL,(xss.map λxs=>tv (cK fs f xs))=TL,(nI (xss.map (cK fs f))).map tv=PX at *;have e1:oA [.ref 0,.pv (.int N)] [.lst (li ns),HQ,.lst GL]=.ok (.pv (tv f)) [.lst (li n1),HQ,.lst GL]:=e1;generalize tv f=TF at *;unfold lB;simp! [aE,aX,aY,aK,aP,aQ,aO,aR,aH,aN,ln,e1,gO,fH,lJ,bH,cD,bP,cH,ec,es,lz]
theorem Nr{n:Nat}(hn:n=2\/n=3){fs:List (Int×Int)}(hf:fs.length=n)(h:∀u∈fs,Sp u)(H:FS):∀(hs:FK)(GL:FS)(ns:FI)(x4 x5:FV),(∀xss∈hs,Rw n xss)->GL.length+hs.length<=99->∃(ps:List (Pc×FJ))(ns':FI)(y4 y5:FV),
  dA [(1,H)] (gN 4) lB (hs.map jF) [some (.ref 0),some (.ref 1),some (.pv (.lst (fs.map fv))),some (.ref 2),x4,x5] [.lst (li ns),.lst H,.lst GL]=.nx [some (.ref 0),some (.ref 1),some (.pv (.lst (fs.map fv))),some (.ref 2),y4,y5] [.lst (li ns'),.lst H,.lst (GL++ps.map λp=>p.1.pv fs)]/\ps.map (·.2)=hs/\∀p∈ps,Pl n p
 |[],GL,ns,x4,x5,_,_=>⟨[],ns,x4,x5,by rw[ig,ig,kg];exact Dz rfl,rfl,λ_ h=>absurd h iu⟩
 |xss::hs,GL,ns,x4,x5,hw,h9=>by
  have h9:GL.length+(hs.length+1)<=99:=h9;obtain⟨d,n1,y5,e1,r1⟩:=abL (.lst H) hn ns hf h GL (by omega) (hw xss ce) (some (.ref 1)) x5;obtain⟨ps,n2,z4,z5,e2,l2,r2⟩:=Nr hn hf h H hs (GL++[d.pv fs]) n1 (some (.pv (jF xss))) y5 (λy hy=>hw y (cj _ hy)) (by rw[cx,d5];omega);refine⟨(d,xss)::ps,n2,z4,z5,?_,by rw[cf,l2],λp hp=>?_⟩
  .rw[oj]at e2
   rw[cf,Fy rfl rfl e1];exact e2
  .rcases cr.mp hp with rfl |hp
   .exact r1
   .exact r2 p hp
theorem ac7{n:Nat}(hn:n=2\/n=3)(ns:FI){fs:List (Int×Int)}(hf:fs.length=n)(h:∀u∈fs,Sp u){hs:FK}(hw:∀xss∈hs,Rw n xss)(h9:hs.length<=90):∃(ps:List (Pc×FJ))(ns':FI),tH [.ref 0,.ref 1,.pv (.lst (fs.map fv))] [.lst (li ns),.lst (hs.map jF)]=.ok (.ref 2) [.lst (li ns'),.lst (hs.map jF),.lst (ps.map λp=>p.1.pv fs)]/\ps.map (·.2)=hs/\∀p∈ps,Pl n p:=by
 obtain⟨ps,n2,y4,y5,e2,l2,r2⟩:=Nr hn hf h (hs.map jF) hs [] ns none none hw (by show 0+hs.length<=99;omega);refine⟨ps,n2,?_,l2,r2⟩;rw[ox]at e2;have hb:Oc=(aJ (aU 3 (gF aF)) (aJ (cX (bP (aB 1)) (gN 4) lB) (bJ (aB 3)))):=rfl;unfold tH aZ;rw[hb];generalize fs.map fv=FL,hs.map jF=HL,(ps.map λp=>p.1.pv fs)=GL,lB=LB at *;simp! [aE,aX,aY,aK,aP,aQ,aO,aR,aH,aN,gF,lH,cX,bP,cH,e2]
structure Sg(t:FJ×FI):Prop where
 h:(∃c,c∈b8/\t.1=lN c/\t.2=[1,1,1])\/(∃o,(o=0\/o=1)/\t.1=gR o/\t.2=[-2,-2,-2,-2,-2,-2])
noncomputable def tV(T:List (FJ×FI)):FI:=T.flatMap (·.2)
noncomputable def tR(T:List (FJ×FI)):FS:=T.map λt=>jF t.1
structure Td(T:List (FJ×FI))(c m:Nat):Prop where
 s:∀t∈T,Sg t
 len:T.length=c+m
 n:(tV T).length=3*c+6*m
 v:(tV T).sum=3*(c:Int)-12*(m:Int)
noncomputable abbrev vH:ME:=bA sP [] (aD (aB 1) aF)
theorem Np:∀(L:FS)(ns:FI)(x:FV),∃(T:List (FJ×FI))(ns':FI),bX [] (gN 0) vH L [x,some (.ref 0)] [.lst (li ns)]=.ok (tR T) [.lst (li ns')]/\Td T L.length 0
 |[],ns,x=>⟨[],ns,fD,λ_ h=>absurd h iu,rfl,rfl,rfl⟩
 |k::L,ns,x=>by
  obtain⟨c,n1,e1,hc⟩:=Mz ns;obtain⟨T,n2,e2,h2⟩:=Np L n1 (some (.pv k));refine⟨(lN c,[1,1,1])::T,n2,?_,λt ht=>?_,?_,?_,?_⟩
  .rw[fR]
   have e3:vH [some (.pv k),some (.ref 0)] [.lst (li ns)]=.ok (.pv (jF (lN c))) [.lst (li n1)]:=by
    simp! [aE,aX,aY,aK,aP,aQ,aO,aR,aH,aN,e1]
   generalize vH=CM at *;simp only[gN,mx];rw[e3];simp only[];rw[e2];rfl
  .rcases cr.mp ht with rfl |ht
   .exact⟨.inl ⟨c,hc,rfl,rfl⟩⟩
   .exact h2.s t ht
  .rw[bo,h2.len];rfl
  .have:=h2.n
   show([1,1,1]++tV T).length=_;rw[cx,this,bo];simp;omega
  .have:=h2.v
   show([1,1,1]++tV T).sum=_;rw[ur,this,bo];simp;omega
noncomputable abbrev sM:MS:=fF (uN (aB 5) (aD (bA fT [] (aD (aB 1) (aD (aC aH (mR dJ (aD (aB 5) aF)) (mC (.int 1))) aF))) (aD (bA qX [] (aD (aB 1) aF)) aF)))
theorem Mp(x0 x2 x3 x4 x7 x8 x9:FV){c:Nat}:∀(L:FS)(ns:FI)(T:List (FJ×FI))(m:Nat)(x6:FV),Td T c m->c+m+L.length<=99->∃(T':List (FJ×FI))(ns':FI)(y6:FV),dA [] (gN 6) sM L [x0,some (.ref 0),x2,x3,x4,some (.ref 1),x6,x7,x8,x9] [.lst (li ns),.lst (tR T)]=.nx [x0,some (.ref 0),x2,x3,x4,some (.ref 1),y6,x7,x8,x9] [.lst (li ns'),.lst (tR T')]/\Td T' c (m+L.length)
 |[],ns,T,m,x6,h,_=>⟨T,ns,x6,iA,h⟩
 |k::L,ns,T,m,x6,h,hz=>by
  have hz:c+m+(L.length+1)<=99:=hz;have hl:=h.len;obtain⟨i,n1,e1,i0,i1⟩:=lV (R:=[.lst (tR T)]) (ns:=ns) (m:=(T.length:Int)+1) (by omega) (by
   show((T.length:Int)+1).natAbs<_;exact fg (show _<2^10 by show _<1024;omega) (wv (by decide) (by decide)))
  obtain⟨o,n2,e2,ho⟩:=acr n1 (.lst (tR T));have h2:Td (T.take i.toNat++(gR o,[-2,-2,-2,-2,-2,-2])::T.drop i.toNat) c (m+1):=by
   have ev:tV (T.take i.toNat++(gR o,[-2,-2,-2,-2,-2,-2])::T.drop i.toNat)=tV (T.take i.toNat)++([-2,-2,-2,-2,-2,-2]++tV (T.drop i.toNat)):=by
    unfold tV;rw[FC,vj]
   have eo:tV T=tV (T.take i.toNat)++tV (T.drop i.toNat):=by
    unfold tV;rw[<-FC,List.take_append_drop]
   have hn:=h.n;have hv:=h.v;rw[eo]at hn hv;rw[cx]at hn;rw[ur]at hv;refine⟨λt ht=>?_,?_,?_,?_⟩
   .rcases dk.mp ht with ht |ht
    .exact h.s t (List.mem_of_mem_take ht)
    .rcases cr.mp ht with rfl |ht
     .exact⟨.inr ⟨o,ho,rfl,rfl⟩⟩
     .exact h.s t (List.mem_of_mem_drop ht)
   .rw[cx,bo,qk,ny]
    omega
   .rw[ev,cx,cx]
    simp;omega
   .rw[ev,ur,ur]
    simp;omega
  obtain⟨T',n3,y6,e3,h3⟩:=Mp x0 x2 x3 x4 x7 x8 x9 L n2 _ (m+1) (some (.pv k)) h2 (by omega);refine⟨T',n3,y6,?_,by rw[bo,show m+(L.length+1)=m+1+L.length by omega];exact h3⟩;have et:tR (T.take i.toNat++(gR o,[-2,-2,-2,-2,-2,-2])::T.drop i.toNat)=(tR T).take i.toNat++jF (gR o)::(tR T).drop i.toNat:=by
   unfold tR;rw[ik,cf,List.map_take,EQ]
  rw[et]at e3;have ll:(tR T).length=T.length:=by unfold tR;rw[aw]
  rw[gW];have st:sM [x0,some (.ref 0),x2,x3,x4,some (.ref 1),some (.pv k),x7,x8,x9] [.lst (li ns),.lst (tR T)]=.nx [x0,some (.ref 0),x2,x3,x4,some (.ref 1),some (.pv k),x7,x8,x9] [.lst (li n2),.lst ((tR T).take i.toNat++jF (gR o)::(tR T).drop i.toNat)]:=by
   have cz:0<=i/\i<9223372036854775808/\(tR T).length<16777216:=by omega
   rw[<-ll]at e1;have e2:qX [.ref 0] [.lst (li n1),.lst (tR T)]=.ok (.ref 2) [.lst (li n2),.lst (tR T),.lst ((gR o).map lv)]:=e2;have rv:jF (gR o)=.lst ((gR o).map lv):=rfl;rw[rv];generalize li n2=L2,li n1=L1,li ns=L0,tR T=RT,(gR o).map lv=MD at *;simp! [aE,aX,aY,aK,aP,aQ,aO,aR,aH,aN,uN,fH,e1,e2,uJ,cz]
  generalize sM=IB at *;simp only[gN,tw,mx];rw[st];exact e3
theorem Br{t:FJ×FI}(h:Sg t):Rw 3 t.1/\(∀ys,ys.Perm t.1->vB t.2 ys=true)/\t.2.length<=6/\∀v∈t.2,v=1\/v=-2:=by
 obtain⟨xss,vs⟩:=t;have k1:∀c∈b8,decide ((lN c).length=4)&&((lN c).all λxs=>decide (xs.length=3)&&xs.all λx=>decide (0<=x/\x<=2))&& !decide (dU ((lN c).map (·++[1]))=0)=true:=by decide+kernel
 have k2:∀o∈([0,1]:FI),decide ((gR o).length=4)&&((gR o).all λxs=>decide (xs.length=3)&&xs.all λx=>decide (0<=x/\x<=2))&& !decide (dU ((gR o).map (·++[1]))=0)=true:=by decide+kernel
 have use:∀{xss:FJ},decide (xss.length=4)&&(xss.all λxs=>decide (xs.length=3)&&xs.all λx=>decide (0<=x/\x<=2))&& !decide (dU (xss.map (·++[1]))=0)=true->Rw 3 xss:=λh=>by
  simp only[gr,decide_eq_true_eq,ie,ss,decide_eq_false_iff_not]at h;exact⟨h.1.1,λxs hx=>(h.1.2 xs hx).1,λxs hx=>(h.1.2 xs hx).2,h.2⟩
 rcases h.h with⟨c,hc,e1,e2⟩|⟨o,ho,e1,e2⟩
 .have e1:xss=lN c:=e1
  have e2:vs=[1,1,1]:=e2;subst e1 e2;refine⟨use (k1 c hc),λys p=>?_,(show 3<=6 by decide),(show ∀v∈([1,1,1]:FI),v=1\/v=-2 by decide)⟩;exact ie.mp (ie.mp acR c hc) ys (Cc p)
 .have e1:xss=gR o:=e1
  have e2:vs=[-2,-2,-2,-2,-2,-2]:=e2;subst e1 e2;have hm:o∈([0,1]:FI):=by simpa using ho
  refine⟨use (k2 o hm),λys p=>?_,(show 6<=6 by decide),(show ∀v∈([-2,-2,-2,-2,-2,-2]:FI),v=1\/v=-2 by decide)⟩;exact ie.mp (ie.mp ac0 o hm) ys (Cc p)
theorem Ss{u:Int×Int}(hu:Sp u)(lo:bi u.1 u.2=1):∀(T:List (FJ×FI))(ps:List (Pc×FJ)),ps.map (·.2)=T.map (·.1)->(∀t∈T,Sg t)->(∀p∈ps,Pl 3 p)->∃D:List (PV×PV×Int×FI),D.map (·.1)=(ps.map λp=>p.1.pv [u,u,u])/\(D.flatMap λd=>d.2.2.2)=tV T/\(∀d∈D,Pd u d)/\D.length=T.length
 |[],[],_,_,_=>⟨[],rfl,rfl,λ_ h=>absurd h iu,rfl⟩
 |[],_::_,e,_,_=>by cases e
 |_::_,[],e,_,_=>by cases e
 |t::T,p::ps,e,h,g=>by
  rw[cf,cf]at e;obtain⟨e1,e2⟩:=List.cons.inj e;obtain⟨D,a1,a2,a3,a4⟩:=Ss hu lo T ps e2 (λt ht=>h t (cj _ ht)) λp hp=>g p (cj _ hp);have hp:=g p ce;obtain⟨_,k2,k3,k4⟩:=Br (h t ce);obtain⟨V,s,z⟩:=adi hu lo hp.g.f (k2 p.1.ys (by rw[<-e1];exact hp.pm)) hp.ps;refine⟨(p.1.pv [u,u,u],V,s,t.2)::D,?_,?_,λd hd=>?_,?_⟩
  .rw[cf,cf,a1]
  .rw[vj,a2]
   unfold tV;rw[vj]
  .rcases cr.mp hd with rfl |hd
   .exact⟨z,k3,k4⟩
   .exact a3 d hd
  .rw[bo,bo,a4]
theorem Mq{u:Int×Int}(hu:Sp u):∀(vs:FI),(∀v∈vs,v=1\/v=-2)->rs (vs.map λv=>cC (u.1*v) u.2)=(vs.sum:Rat)*u.1/u.2
 |[],_=>by
  have:=i0 (cv hu.q);show(0:Rat)=(((0:Int):Rat)*u.1)/u.2;simp;grind
 |v::vs,h=>by
  have n1:=i0 (cv hu.q);have ih:=Mq hu vs λw hw=>h w (cj _ hw);have hv:=h v ce;have hf:=Sf hu hv;have n2:=i0 (cv hf.pos);obtain⟨p,q,e,hq,ev⟩:=rV (t:=u.1*v) (b:=u.2) (cv hu.q);have ef:=(oC (k:=50) (t:=u.1*v) (b:=u.2) (cv hu.q) ((hu.bp.mul (dG (i:=v) (by omega))).mono (by decide)) (hu.bq.mono (by decide))).1;rw[e]at ef;have e3:(cC (u.1*v) u.2).1=p/\(cC (u.1*v) u.2).2=q:=by simp at ef;exact⟨ef.1.symm,ef.2.symm⟩
  have c:((cC (u.1*v) u.2).1:Rat)*u.2=(u.1:Rat)*v*(cC (u.1*v) u.2).2:=by
   rw[e3.1,e3.2,<-km,<-km,<-km,ev]
  rw[cf];show((cC (u.1*v) u.2).1:Rat)/(cC (u.1*v) u.2).2+rs (vs.map λv=>cC (u.1*v) u.2)=_;rw[ih,j9,ES];grind
theorem Gv(a b:Int)(S:aI):sW [.pv (.tup [.int a,.int b]),.pv (.int 2)] S=.ok (.pv (.bl true)) S:=by
 unfold sW aZ Ma;simp! [aE,aX,aY,aK,aP,aQ,aO,aR,aH,aN,nA,bH,cD,bP,cH,fR,fD,gN,P8,uK,sB]
theorem so0:mQ [.tup []]=some (.lst []):=by
 simp[mQ,rZ,nW,gJ]
theorem so1(q:Int×Int):mQ [.tup [.tup [tv [2,3],fv q]]]=some (.lst [.tup [tv [2,3],fv q]]):=by
 simp[mQ,rZ,nW,iC,fV,gJ,nF];exact⟨_,rfl,rfl⟩
theorem Bv(q:Int×Int):aK 8 (.lst [.tup [tv [2,3],fv q]]) (.lst [.tup [tv [2,3],fv q]])=some true/\aK 8 (.tup [.tup [tv [2,3],fv q]]) (.tup [.tup [tv [2,3],fv q]])=some true:=by
 simp[aK,bQ,jN]
theorem ts0(S:aI):nP [.pv (.tup [])] S=.ok (.pv (.bl true)) S:=by
 unfold nP aZ vM;simp! [aE,aX,aY,aK,aP,aQ,aO,aR,aH,aN,nA,cX,bP,cH,iA,so0,jN]
theorem ts1(q:Int×Int)(S:aI):nP [.pv (.tup [.tup [tv [2,3],fv q]])] S=.ok (.pv (.bl true)) S:=by
 have s:=so1 q;have e:=(Bv q).1;have w1:=λS=>Gv 2 3 S;have w2:=λS=>Gv q.1 q.2 S;show nP [.pv (.tup [.tup [.tup [.int 2,.int 3],.tup [.int q.1,.int q.2]]])] S=_;unfold nP aZ vM;have i0:aE (.tup [.tup [.int 2,.int 3],.tup [.int q.1,.int q.2]]) (.int 0)=some (.tup [.int 2,.int 3]):=rfl;have i1:aE (.tup [.tup [.int 2,.int 3],.tup [.int q.1,.int q.2]]) (.int 1)=some (.tup [.int q.1,.int q.2]):=rfl;have s:mQ [.tup [.tup [.tup [.int 2,.int 3],.tup [.int q.1,.int q.2]]]]=some (.lst [.tup [.tup [.int 2,.int 3],.tup [.int q.1,.int q.2]]]):=s;have e:aK 8 (.lst [.tup [.tup [.int 2,.int 3],.tup [.int q.1,.int q.2]]]) (.lst [.tup [.tup [.int 2,.int 3],.tup [.int q.1,.int q.2]]])=some true:=e;simp! [bQ,aP,aQ,aO,aR,aH,aN,nA,cX,bP,cH,gW,iA,gN,i0,i1,w1,w2,s,e]
theorem tmL{u:Int×Int}(hu:Sp u){N:Int}(hN:Bd 10 N)(S:aI):wO [.pv (.tup [.int N,.int 1]),.pv (fv u)] S=.ok (.pv (fv (cC (N*u.1) u.2))) S:=by
 have m1:aV (.int N) (.int u.1)=some (.int (N*u.1)):=iB (.inr ⟨hN.mono (by decide),hu.bp.mono (by decide)⟩);have m2:aV (.int 1) (.int u.2)=some (.int u.2):=by
  rw[iB (.inr ⟨(dG (by omega)).mono (by decide),hu.bq.mono (by decide)⟩),jd]
 have bv:Bd 50 (N*u.1):=(hN.mul hu.bp).mono (by decide);have e:=Kp (N*u.1) u.2 S (bv.mono (by decide)) (hu.bq.mono (by decide));rw[(oC (k:=50) (cv hu.q) bv (hu.bq.mono (by decide))).1]at e;have e:pJ [.pv (.int (N*u.1)),.pv (.int u.2)] S=.ok (.pv (fv (cC (N*u.1) u.2))) S:=e;generalize fv (cC (N*u.1) u.2)=R at *;unfold wO aZ Qb;simp! [aE,aX,aY,aK,aP,aQ,aO,aR,aH,aN,m1,m2,e]
theorem abd{u:Int×Int}(hu:Sp u){VS:FI}(hv:∀v∈VS,v=1\/v=-2){N:Int}(hN:VS.sum=N)(bN:Bd 10 N):qJ u VS=if N=0 then[] else[([2,3],cC (N*u.1) u.2)]:=by
 have fq:∀r∈VS.map λv=>cC (u.1*v) u.2,Fq 50 r:=λr hr=>by
  obtain⟨v,h,rfl⟩:=dq.mp hr;exact Sf hu (hv v h)
 obtain⟨c1,c2⟩:=Ee _ fq;rw[Mq hu VS hv,hN]at c2;unfold qJ;generalize fM (VS.map λv=>cC (u.1*v) u.2)=C at *;have n1:=i0 (cv hu.q);have n2:=i0 (cv c1.pos);have n3:=i0 (cv hu.p);have hc:(C.1:Rat)*u.2=(N:Rat)*u.1*C.2:=by grind
 have hc:C.1*u.2=N*u.1*C.2:=by
  rw[<-km,<-km,<-km]at hc;exact u4.mp hc
 by_cases z:N=0
 .subst z
  rw[oy,oy]at hc;rw[if_pos rfl,if_pos ((Int.mul_eq_zero.mp hc).resolve_right (cv hu.q))]
 .have cz:C.1≠0:=λe=>by
   rw[e,oy]at hc;have:=jl (jl z (cv hu.p)) (cv c1.pos);exact this hc.symm
  rw[if_neg z,if_neg cz];have:cC (N*u.1) u.2=C:=Ud (k:=50) (cv hu.q) ((bN.mul hu.bp).mono (by decide)) (hu.bq.mono (by decide)) c1 hc.symm;rw[this]
theorem Cb:∀(n:Nat)(i:Int),(eU i n).length=n:=λn i=>by
 unfold eU;simp
theorem F5(ns:FI)(h:ns.length<=63):∃S,Af [.pv (.lst (ns.map .int))] []=.ok (.pv (.bl true)) S:=by
 obtain⟨ms,e0,_⟩:=acQ ns [] h;obtain⟨u,n1,e1,hu,lo⟩:=acS ms;obtain⟨c,n2,e2,c0,c1⟩:=lV (R:=[]) (ns:=n1) (m:=8) (by decide) ((dG (by omega)).mono (by decide));obtain⟨l,n3,e3,l0,l1⟩:=lV (R:=[]) (ns:=n2) (m:=3) (by decide) ((dG (by omega)).mono (by decide));obtain⟨C,rfl⟩:∃C:Nat,c=(C:Int):=⟨c.toNat,by omega⟩;obtain⟨L,rfl⟩:∃L:Nat,l=(L:Int):=⟨l.toNat,by omega⟩;have r1:=λS=>sK S (n:=C) (by omega);have r2:=λS=>sK S (n:=L) (by omega);obtain⟨T,n4,e4,h4⟩:=Np (eU 0 C) n3 none;rw[Cb]at h4;obtain⟨T',n5,y6,e5,h5⟩:=Mp (some (.pv (.lst (ns.map .int)))) (some (.pv (fv u))) (some (.pv (.int (C:Int)))) (some (.pv (.int (L:Int)))) none none none (eU 0 L) n4 T 0 none h4 (by rw[Cb];omega);rw[Cb,l6]at h5;have tl:=h5.len;have hs:∀v∈[u,u,u],Sp v:=λv hv=>by
  simp at hv;rw[hv];exact hu
 obtain⟨ps,n6,e6,p1,p2⟩:=ac7 (.inr rfl) n5 (fs:=[u,u,u]) rfl hs (hs:=T'.map (·.1)) (λxss hx=>by
  obtain⟨t,ht,rfl⟩:=dq.mp hx;exact(Br (h5.s t ht)).1) (by rw[aw];omega)
 have et:(T'.map (·.1)).map jF=tR T':=by rw[ff];rfl
 rw[et]at e6;obtain⟨D,d1,d2,d3,d4⟩:=Ss hu lo T' ps p1 h5.s p2;obtain⟨A,n7,e7,hA⟩:=K0 (S:=[.lst (li n6),.lst (tR T')]) (k:=0) (ns:=n6) (L:=ps.map λp=>p.1.pv [u,u,u]) rfl;have e7:qW [.ref 0,.pv (.lst (ps.map λp=>p.1.pv [u,u,u]))] [.lst (li n6),.lst (tR T')]=.ok (.pv A) [.lst (li n7),.lst (tR T')]:=e7;rw[<-d1]at hA;have ts:=λS=>adN hu d3 (by rw[d2,h5.n];omega) (by omega) hA S;rw[d2]at ts;have vv:∀v∈tV T',v=1\/v=-2:=λv hv=>by
  rw[<-d2]at hv;obtain⟨d,hd,hv⟩:=u9.mp hv;exact(d3 d hd).v v hv
 have bN:Bd 10 (3*(C:Int)-12*(L:Int)):=dG (by omega);rw[abd hu vv h5.v bN]at ts;have tm:=λS=>tmL hu bN S;have m4:aV (.int 4) (.int (L:Int))=some (.int (4*(L:Int))):=jE (by omega) (by omega);have m3:aV (.int 3) (.int (C:Int))=some (.int (3*(C:Int))):=jE (by omega) (by omega);have m12:aV (.int 12) (.int (L:Int))=some (.int (12*(L:Int))):=jE (by omega) (by omega);generalize hq:cC ((3*(C:Int)-12*(L:Int))*u.1) u.2=q at *;have tt:=λS=>ts1 q S;have te:=(Bv q).2;unfold Af;show ∃S,aZ 1 10 (aJ _ (aJ _ (aJ _ (aJ _ (aJ (aU 5 (pV ["_law_k"] [(1,"_law_row_here")] (eJ (aD (aB 3) aF)) (gN 0) vH)) (aJ (cX (eJ (aD (aB 4) aF)) (gN 6) sM) _)))))) _ []=bI.ok (AV.pv (.bl true)) S;generalize tR T=RT,ns.map PV.int=NL,eU 0 L=IL,eU 0 C=IC,(ps.map λp=>p.1.pv [u,u,u])=PL at *;generalize tR T'=RT' at *;generalize hfu:fv u=FU at *;have e0:tT [.pv (.lst NL)] []=.ok (.ref 0) [.lst (li ms)]:=e0;have e6:tH [.ref 0,.ref 1,.pv (.lst [FU,FU,FU])] [.lst (li n5),.lst RT']=.ok (.ref 2) [.lst (li n6),.lst RT',.lst PL]:=by rw[<-hfu];exact e6
 generalize sM=IB,vH=CM,li n7=L7,li n6=L6,li n5=L5,li n4=L4,li n3=L3,li n2=L2,li n1=L1,li ms=L0 at *;have nz:(C:Int)=4*(L:Int)↔3*(C:Int)-12*(L:Int)=0:=by omega
 generalize hN:3*(C:Int)-12*(L:Int)=N at *;refine⟨_,pO (v:=.pv (.bl true)) (S':=[.lst L7,.lst RT']) rfl ?_ rfl⟩;apply sq;simp! [bQ,aP,aQ,aO,aR,aH,aN,e0];exact⟨rfl,rfl⟩;apply sq;simp! [bQ,aP,aQ,aO,aR,aH,aN,e1];exact⟨rfl,rfl⟩;apply sq;simp! [bQ,aP,aQ,aO,aR,aH,aN,e2];exact⟨rfl,rfl⟩;apply sq;simp! [bQ,aP,aQ,aO,aR,aH,aN,e3];exact⟨rfl,rfl⟩;apply sq;simp! [bQ,aP,aQ,aO,aR,aH,aN,pV,cD,eJ,r1,e4];exact⟨rfl,rfl⟩;apply sq;simp! [bQ,aP,aQ,aO,aR,aH,aN,cX,eJ,r2,e5];exact⟨rfl,rfl⟩;apply sq;simp! [bQ,aP,aQ,aO,aR,aH,aN,e6];exact⟨rfl,rfl⟩;apply sq;simp! [bQ,aP,aQ,aO,aR,aH,aN];exact⟨rfl,rfl⟩
 by_cases z:N=0
 .have z1:=nz.mpr z
  rw[if_pos z]at ts;have ts:∀S,pA [.pv A] S=.ok (.pv (.tup [])) S:=ts;apply sq;simp! [bQ,aP,aQ,aO,aR,aH,aN,m4,z1];exact⟨rfl,rfl⟩;apply sq;simp! [bQ,aP,aQ,aO,aR,aH,aN,e7,ts];exact⟨rfl,rfl⟩;simp! [bQ,aP,aQ,aO,aR,aH,aN,ts0,aK,jN]
 .have z1:¬((C:Int)=4*(L:Int)):=λe=>z (nz.mp e)
  rw[if_neg z]at ts;have ts:∀S,pA [.pv A] S=.ok (.pv (.tup [.tup [tv [2,3],fv q]])) S:=ts;generalize hQ:fv q=Q at *;have tt:∀S,nP [.pv (.tup [.tup [.tup [.int 2,.int 3],Q]])] S=.ok (.pv (.bl true)) S:=tt;have te:aK 8 (.tup [.tup [.tup [.int 2,.int 3],Q]]) (.tup [.tup [.tup [.int 2,.int 3],Q]])=some true:=te;have ts:∀S,pA [.pv A] S=.ok (.pv (.tup [.tup [.tup [.int 2,.int 3],Q]])) S:=ts;apply sq;simp! [bQ,aP,aQ,aO,aR,aH,aN,m4,z1,m3,m12,hN,tm];exact⟨rfl,rfl⟩;apply sq;simp! [bQ,aP,aQ,aO,aR,aH,aN,e7,ts];exact⟨rfl,rfl⟩;simp! [bQ,aP,aQ,aO,aR,aH,aN,tt,te]
theorem hF_k{K:ah}{x:Str}{st:Stmt}{f:Addr}{oc:Value}{od an:FQ}{osl:Array FO}{kV doc pm cdv ct:Value}(a:dg K mainGlobals x=some (some (.ref f)):=by k_is)(l:K.lookup f=some ⟨oc,od,.func (fj x x (gC st) (dM st) (cB st) .none kV doc pm an cdv ct),osl⟩:=by k_is)(c:kh K cdv x=true:=by k_is)(k:ft K (.ref f)=true:=by k_is):HF K x st:=ac6 a l c k
theorem hC_Frame{K:ah}{D:Addr}(a:dg K mainGlobals "Frame"=some (some (.ref D)):=by k_is)(p:uc K D Str.empty=true:=by first |k_is |kernel_rfl)(d:vz K D=true:=by first |k_is |kernel_rfl)(o:ze K D=true:=by first |k_is |kernel_rfl)(t:iy K (.ref D) "__setattr__"=some (some (.builtin "object.__setattr__")):=by first |k_is |kernel_rfl)(n0:iy K (.ref D) "arrows"=some none:=by first |k_is |kernel_rfl)(n1:iy K (.ref D) "shares"=some none:=by first |k_is |kernel_rfl)(m:wb K D=true:=by first |k_is |kernel_rfl)(k:ft K (.ref D)=true:=by first |k_is |kernel_rfl):qK K "Frame" ["arrows","shares"] D:=⟨a,⟨p,d,o,t⟩,λf hf=>by simp only[cr,iu,or_false]at hf;rcases hf with rfl |rfl<;>assumption,m,k⟩
theorem hM_k{K:ah}{m q:Str}{st:Stmt}{D f:Addr}{oc:Value}{od an:FQ}{osl:Array FO}{kV doc pm cdv ct:Value}(i:iy K (.ref D) m=some (some (.ref f)):=by first |k_is |kernel_rfl)(n:rh K (.ref f)=true:=by first |k_is |kernel_rfl)(l:K.lookup f=some ⟨oc,od,.func (fj m q (gC st) (dM st) (cB st) .none kV doc pm an cdv ct),osl⟩:=by k_is)(c:kh K cdv q=true:=by first |k_is |kernel_rfl)(k:ft K (.ref f)=true:=by first |k_is |kernel_rfl):HM K m q st D:=adt i n l c k
theorem all_mk{l:rq}{w:ar}{K:ah}{h:Heap}{mg:Str->FO}{fa:Addr}(X:K.In h)(G:h.Ns mainGlobals mg)(hfa:mg "law"=some (.ref fa))
  (h38:HF K "_law_row" Lr)
  (h37:HF K "_law_take" Xo)
  (h39:HF K "_law_gcd" Yr)
  (h40:HF K "_law_lowest" Ak)
  (h41:HF K "_law_frac" Fp)
  (h59:HF K "_law_size_by" Hi)
  (h57:HF K "_law_cut_corner" Ch)
  (h58:HF K "_law_middle" Sk)
  (h42:HF K "_law_far" Sr)
  (h43:HF K "_law_dot" Tr)
  (h44:HF K "_law_cross" Mm)
  (h45:HF K "_law_turn" Ho)
  (h46:HF K "_law_gap" Qq)
  (h47:HF K "_law_det" Qr)
  (h48:HF K "_law_simplex" Wi)
  (h49:HF K "_law_joined" Il)
  (h50:HF K "_law_spot" Vp)
  (h51:HF K "_law_laid" Po)
  (h52:HF K "_law_times" Rm)
  (h20:HF K "walls" Yp)
  (h6:HF K "divisor" Dl)
  (h7:HF K "reduced" Rk)
  (h16:HF K "normal" Pn)
  (h14:HF K "whole_arrow" Gh)
  (h5:HF K "sign" Jr)
  (h8:HF K "lowest_way" Lh)
  (h22:HF K "along" Xn)
  (h23:HF K "side_share" Th)
  (h29:HF K "odd_primes" Hh)
  (h15:HF K "dot" Ot)
  (h30:HF K "without_squares" Ug)
  (h12:HF K "times" Gq)
  (h31:HF K "inverse" Vj)
  (h32:HF K "value_at" Aj)
  (h33:HF K "edge_rows" Ci)
  (h34:HF K "frame_rows" Kh)
  (h10:HF K "plus" Wr)
  (h11:HF K "total" Aq)
  (h24:HF K "summed" Mn)
  (h35:HF K "turn_sum" Vi)
  (h53:HF K "_law_handed" Ik)
  (h54:HF K "_law_whole" Xl)
  (h55:HF K "_law_wholes" Hl)
  (h56:HF K "_law_told_sums" Rh)
  {WFrame:Addr}(hcFrame:qK K "Frame" ["arrows","shares"] WFrame)
  (hmFrame_init:HM K "__init__" "Frame.__init__" Mh WFrame)
  (hmFrame_steepness:HM K "steepness" "Frame.steepness" Vg WFrame)
  {f9:Addr}{od9 an9:FQ}{sl9:Array FO}{oc9 kV9 dc9 pm9 cd9 ct9:Value}
  {T9:Addr}{tc9:Value}{td9:FQ}{tl9:Array FO}{tn9:Nat}{tt9:bj}
  (a9:dg K mainGlobals "fraction"=some (some (.ref f9)))(l9:K.lookup f9=some ⟨oc9,od9,.func (fj "fraction" "fraction" (gC sT) (dM sT) (cB sT) (.ref T9) kV9 dc9 pm9 an9 cd9 ct9),sl9⟩)(c9:kh K cd9 "fraction"=true)(k9:ft K (.ref f9)=true)
  (t9:K.lookup T9=some ⟨tc9,td9,.seq #[.int 1 tt9] tn9,tl9⟩)
  {f60:Addr}{od60 an60:FQ}{sl60:Array FO}{oc60 kV60 dc60 pm60 cd60 ct60:Value}
  (a60:dg K mainGlobals "law"=some (some (.ref f60)))(l60:K.lookup f60=some ⟨oc60,od60,.func (fj "law" "law" (gC oE) (dM oE) (cB oE) .none kV60 dc60 pm60 an60 cd60 ct60),sl60⟩)(c60:kh K cd60 "law"=true)(k60:ft K (.ref f60)=true)
  (z1:dg K mainGlobals "abs"=some none)
  (z2:dg K mainGlobals "all"=some none)
  (z3:dg K mainGlobals "bool"=some none)
  (z4:dg K mainGlobals "enumerate"=some none)
  (z5:dg K mainGlobals "int"=some none)
  (z6:dg K mainGlobals "isinstance"=some none)
  (z7:dg K mainGlobals "len"=some none)
  (z8:dg K mainGlobals "list"=some none)
  (z9:dg K mainGlobals "max"=some none)
  (z10:dg K mainGlobals "range"=some none)
  (z11:dg K mainGlobals "set"=some none)
  (z12:dg K mainGlobals "sorted"=some none)
  (z13:dg K mainGlobals "sum"=some none)
  (z14:dg K mainGlobals "tuple"=some none)
  (z15:dg K mainGlobals "zip"=some none)
  {C1:Addr}
  (y1:dg K mainGlobals "NoNumber"=some (some (.ref C1)))(x1:qq K C1 tW "ValueError.__new__"=true)
  {gk1:bj}
  {gk2:bj}
  {gk3:bj}
  {gk4:bj}
  {GA2:Addr}{gn2:Nat}{gs2:Array FO}
  {gk5:bj}
  {gk6:bj}
  {gk7:bj}
  {gk8:bj}
  {GA3:Addr}{gn3:Nat}{gs3:Array FO}
  {gk9:bj}
  {gk10:bj}
  {gk11:bj}
  {gk12:bj}
  {GA4:Addr}{gn4:Nat}{gs4:Array FO}
  {gk13:bj}
  {gk14:bj}
  {gk15:bj}
  {gk16:bj}
  {GA5:Addr}{gn5:Nat}{gs5:Array FO}
  {gk17:bj}
  {gk18:bj}
  {gk19:bj}
  {gk20:bj}
  {GA6:Addr}{gn6:Nat}{gs6:Array FO}
  {gk21:bj}
  {gk22:bj}
  {gk23:bj}
  {gk24:bj}
  {GA7:Addr}{gn7:Nat}{gs7:Array FO}
  {GA1:Addr}{gn1:Nat}{gs1:Array FO}
  {gk25:bj}
  {gk26:bj}
  {GA9:Addr}{gn9:Nat}{gs9:Array FO}
  {gk27:bj}
  {gk28:bj}
  {GA10:Addr}{gn10:Nat}{gs10:Array FO}
  {gk29:bj}
  {gk30:bj}
  {GA11:Addr}{gn11:Nat}{gs11:Array FO}
  {GA8:Addr}{gn8:Nat}{gs8:Array FO}
  {gk31:bj}
  {gk32:bj}
  {gk33:bj}
  {GA13:Addr}{gn13:Nat}{gs13:Array FO}
  {gk34:bj}
  {gk35:bj}
  {gk36:bj}
  {GA14:Addr}{gn14:Nat}{gs14:Array FO}
  {gk37:bj}
  {gk38:bj}
  {gk39:bj}
  {GA15:Addr}{gn15:Nat}{gs15:Array FO}
  {gk40:bj}
  {gk41:bj}
  {gk42:bj}
  {GA16:Addr}{gn16:Nat}{gs16:Array FO}
  {GA12:Addr}{gn12:Nat}{gs12:Array FO}
  {gk43:bj}
  (v1:dg K mainGlobals "EDGES"=some (some (.ref GA1)))
  (v2:dg K mainGlobals "FLAT_WALLS"=some (some (.ref GA8)))
  (v3:dg K mainGlobals "SPACE_WALLS"=some (some (.ref GA12)))
  (v4:dg K mainGlobals "STEEPEST"=some (some (.int 300 gk43)))
  (vl1:K.lookup GA1=some ⟨.type "tuple",none,.seq #[.ref GA2,.ref GA3,.ref GA4,.ref GA5,.ref GA6,.ref GA7] gn1,gs1⟩)
  (vl2:K.lookup GA2=some ⟨.type "tuple",none,.seq #[.int 0 gk1,.int 1 gk2,.int 2 gk3,.int 3 gk4] gn2,gs2⟩)
  (vl3:K.lookup GA3=some ⟨.type "tuple",none,.seq #[.int 0 gk5,.int 2 gk6,.int 1 gk7,.int 3 gk8] gn3,gs3⟩)
  (vl4:K.lookup GA4=some ⟨.type "tuple",none,.seq #[.int 0 gk9,.int 3 gk10,.int 1 gk11,.int 2 gk12] gn4,gs4⟩)
  (vl5:K.lookup GA5=some ⟨.type "tuple",none,.seq #[.int 1 gk13,.int 2 gk14,.int 0 gk15,.int 3 gk16] gn5,gs5⟩)
  (vl6:K.lookup GA6=some ⟨.type "tuple",none,.seq #[.int 1 gk17,.int 3 gk18,.int 0 gk19,.int 2 gk20] gn6,gs6⟩)
  (vl7:K.lookup GA7=some ⟨.type "tuple",none,.seq #[.int 2 gk21,.int 3 gk22,.int 0 gk23,.int 1 gk24] gn7,gs7⟩)
  (vl8:K.lookup GA8=some ⟨.type "tuple",none,.seq #[.ref GA9,.ref GA10,.ref GA11] gn8,gs8⟩)
  (vl9:K.lookup GA9=some ⟨.type "tuple",none,.seq #[.int 0 gk25,.int 1 gk26] gn9,gs9⟩)
  (vl10:K.lookup GA10=some ⟨.type "tuple",none,.seq #[.int 1 gk27,.int 2 gk28] gn10,gs10⟩)
  (vl11:K.lookup GA11=some ⟨.type "tuple",none,.seq #[.int 2 gk29,.int 0 gk30] gn11,gs11⟩)
  (vl12:K.lookup GA12=some ⟨.type "tuple",none,.seq #[.ref GA13,.ref GA14,.ref GA15,.ref GA16] gn12,gs12⟩)
  (vl13:K.lookup GA13=some ⟨.type "tuple",none,.seq #[.int 1 gk31,.int 2 gk32,.int 3 gk33] gn13,gs13⟩)
  (vl14:K.lookup GA14=some ⟨.type "tuple",none,.seq #[.int 0 gk34,.int 3 gk35,.int 2 gk36] gn14,gs14⟩)
  (vl15:K.lookup GA15=some ⟨.type "tuple",none,.seq #[.int 0 gk37,.int 1 gk38,.int 3 gk39] gn15,gs15⟩)
  (vl16:K.lookup GA16=some ⟨.type "tuple",none,.seq #[.int 0 gk40,.int 2 gk41,.int 1 gk42] gn16,gs16⟩)
  :∃fd:de,(∀(s:aa)(v:Value),rm s fd ⟨[v],[]⟩ [("_law_script",v)])/\∀base:Heap,K.In base->base.Ns mainGlobals mg->dC l.prog w K mg base dR 9 fa fd ["_law_script"] (xX K):=by
 let cl:Str->Addr:=λn=>if n="NoNumber" then C1 else 0
 have e:=hfa.symm.trans (mj X G a60);cases e;have F9:=aah (st:=sT) l9 c9 k9 t9 rfl;have b9:=F9.binds (ps:=["top","bottom"]) (dd:=[]) λ_ _ _ _ _ _ _ us hl=>match us,hl with |[_,_],_=>⟨_,rfl,rfl⟩
 have n9:=mj X G a9;have F60:=Dd (st:=oE) l60 c60 k60;have m:Mg mg:=⟨jj X G z1,jj X G z2,jj X G z3,jj X G z4,jj X G z5,jj X G z6,jj X G z7,jj X G z8,jj X G z9,jj X G z10,jj X G z11,jj X G z12,jj X G z13,jj X G z14,jj X G z15⟩;have gt_EDGES:mM K mg "EDGES" (.tup [.tup [.int 0,.int 1,.int 2,.int 3],.tup [.int 0,.int 2,.int 1,.int 3],.tup [.int 0,.int 3,.int 1,.int 2],.tup [.int 1,.int 2,.int 0,.int 3],.tup [.int 1,.int 3,.int 0,.int 2],.tup [.int 2,.int 3,.int 0,.int 1]]):=⟨_,.ref GA1,mj X G v1,rfl,(iQ (vs:=[.ref GA2,.ref GA3,.ref GA4,.ref GA5,.ref GA6,.ref GA7]) vl1 (by show 6<=di;decide) (.cons rfl (.cons rfl (.cons rfl (.cons rfl (.cons rfl (.cons rfl .nil)))))) (by show 6<=di;decide) (bZ (iQ (vs:=[.int 0,.int 1,.int 2,.int 3]) vl2 (by show 4<=di;decide) (.cons ⟨_,rfl⟩ (.cons ⟨_,rfl⟩ (.cons ⟨_,rfl⟩ (.cons ⟨_,rfl⟩ .nil)))) (by show 4<=di;decide) (bZ cT (bZ cT (bZ cT (bZ cT iR))))) (bZ (iQ (vs:=[.int 0,.int 2,.int 1,.int 3]) vl3 (by show 4<=di;decide) (.cons ⟨_,rfl⟩ (.cons ⟨_,rfl⟩ (.cons ⟨_,rfl⟩ (.cons ⟨_,rfl⟩ .nil)))) (by show 4<=di;decide) (bZ cT (bZ cT (bZ cT (bZ cT iR))))) (bZ (iQ (vs:=[.int 0,.int 3,.int 1,.int 2]) vl4 (by show 4<=di;decide) (.cons ⟨_,rfl⟩ (.cons ⟨_,rfl⟩ (.cons ⟨_,rfl⟩ (.cons ⟨_,rfl⟩ .nil)))) (by show 4<=di;decide) (bZ cT (bZ cT (bZ cT (bZ cT iR))))) (bZ (iQ (vs:=[.int 1,.int 2,.int 0,.int 3]) vl5 (by show 4<=di;decide) (.cons ⟨_,rfl⟩ (.cons ⟨_,rfl⟩ (.cons ⟨_,rfl⟩ (.cons ⟨_,rfl⟩ .nil)))) (by show 4<=di;decide) (bZ cT (bZ cT (bZ cT (bZ cT iR))))) (bZ (iQ (vs:=[.int 1,.int 3,.int 0,.int 2]) vl6 (by show 4<=di;decide) (.cons ⟨_,rfl⟩ (.cons ⟨_,rfl⟩ (.cons ⟨_,rfl⟩ (.cons ⟨_,rfl⟩ .nil)))) (by show 4<=di;decide) (bZ cT (bZ cT (bZ cT (bZ cT iR))))) (bZ (iQ (vs:=[.int 2,.int 3,.int 0,.int 1]) vl7 (by show 4<=di;decide) (.cons ⟨_,rfl⟩ (.cons ⟨_,rfl⟩ (.cons ⟨_,rfl⟩ (.cons ⟨_,rfl⟩ .nil)))) (by show 4<=di;decide) (bZ cT (bZ cT (bZ cT (bZ cT iR))))) iR)))))))⟩;have gt_FLAT_WALLS:mM K mg "FLAT_WALLS" (.tup [.tup [.int 0,.int 1],.tup [.int 1,.int 2],.tup [.int 2,.int 0]]):=⟨_,.ref GA8,mj X G v2,rfl,(iQ (vs:=[.ref GA9,.ref GA10,.ref GA11]) vl8 (by show 3<=di;decide) (.cons rfl (.cons rfl (.cons rfl .nil))) (by show 3<=di;decide) (bZ (iQ (vs:=[.int 0,.int 1]) vl9 (by show 2<=di;decide) (.cons ⟨_,rfl⟩ (.cons ⟨_,rfl⟩ .nil)) (by show 2<=di;decide) (bZ cT (bZ cT iR))) (bZ (iQ (vs:=[.int 1,.int 2]) vl10 (by show 2<=di;decide) (.cons ⟨_,rfl⟩ (.cons ⟨_,rfl⟩ .nil)) (by show 2<=di;decide) (bZ cT (bZ cT iR))) (bZ (iQ (vs:=[.int 2,.int 0]) vl11 (by show 2<=di;decide) (.cons ⟨_,rfl⟩ (.cons ⟨_,rfl⟩ .nil)) (by show 2<=di;decide) (bZ cT (bZ cT iR))) iR))))⟩;have gt_SPACE_WALLS:mM K mg "SPACE_WALLS" (.tup [.tup [.int 1,.int 2,.int 3],.tup [.int 0,.int 3,.int 2],.tup [.int 0,.int 1,.int 3],.tup [.int 0,.int 2,.int 1]]):=⟨_,.ref GA12,mj X G v3,rfl,(iQ (vs:=[.ref GA13,.ref GA14,.ref GA15,.ref GA16]) vl12 (by show 4<=di;decide) (.cons rfl (.cons rfl (.cons rfl (.cons rfl .nil)))) (by show 4<=di;decide) (bZ (iQ (vs:=[.int 1,.int 2,.int 3]) vl13 (by show 3<=di;decide) (.cons ⟨_,rfl⟩ (.cons ⟨_,rfl⟩ (.cons ⟨_,rfl⟩ .nil))) (by show 3<=di;decide) (bZ cT (bZ cT (bZ cT iR)))) (bZ (iQ (vs:=[.int 0,.int 3,.int 2]) vl14 (by show 3<=di;decide) (.cons ⟨_,rfl⟩ (.cons ⟨_,rfl⟩ (.cons ⟨_,rfl⟩ .nil))) (by show 3<=di;decide) (bZ cT (bZ cT (bZ cT iR)))) (bZ (iQ (vs:=[.int 0,.int 1,.int 3]) vl15 (by show 3<=di;decide) (.cons ⟨_,rfl⟩ (.cons ⟨_,rfl⟩ (.cons ⟨_,rfl⟩ .nil))) (by show 3<=di;decide) (bZ cT (bZ cT (bZ cT iR)))) (bZ (iQ (vs:=[.int 0,.int 2,.int 1]) vl16 (by show 3<=di;decide) (.cons ⟨_,rfl⟩ (.cons ⟨_,rfl⟩ (.cons ⟨_,rfl⟩ .nil))) (by show 3<=di;decide) (bZ cT (bZ cT (bZ cT iR)))) iR)))))⟩;have gt_STEEPEST:mM K mg "STEEPEST" (.int 300):=⟨_,.int 300,mj X G v4,⟨_,rfl⟩,cT⟩;refine⟨fj "law" "law" (gC oE) (dM oE) (cB oE) .none kV60 dc60 pm60 an60 cd60 ct60,λs v=>.of_eq rfl,λbase _ _=>?_⟩
 let B:Bx:=⟨l.prog,w,K,mg,base,cl⟩
 have Xg:XG B.K B.mg:=⟨h,X,G⟩;have m:Mg B.mg:=m;have q_NoNumber:B.mg "NoNumber"=some (.ref (B.cl "NoNumber")):=mj X G y1;have x_NoNumber:qq B.K (B.cl "NoNumber") tW "ValueError.__new__"=true:=x1;have C38:=aac Xg m h38;have C37:=G3 Xg m h37;have C39:=aap Xg m h39;have C40:=Mx Xg m h40 C39;have C41:=O5 Xg m h41 C40;have C59:=Uw Xg m h59 C37 C41;have C57:=Yv Xg m h57 C37;have C58:=Zx Xg m h58 C37;have C42:=aaS Xg m h42 C37 C40;have C43:=aat Xg m h43;have C44:=Vy Xg m h44;have C45:=P7 Xg m h45 C43 C44;have C46:=aax Xg m h46;have C47:=aaO Xg m h47 C45 C46;have C48:=Dx Xg m h48 C47;have C49:=Sx Xg m h49 C40;have C50:=N4 Xg m h50 C40;have C51:=M5 Xg m h51 C42 C48 C49 C50;have C52:=A0 Xg m h52 C41;have C20:=L9 Xg m h20 gt_FLAT_WALLS gt_SPACE_WALLS;have C6:=Gy Xg m h6;have C7:=My Xg m h7 C6;have C16:=Zy Xg m h16;have C14:=Aw Xg m h14;have C5:=W7 Xg m h5;have C8:=Ew Xg m h8 C7 C5;have G9:=Ww Xg m F9 C5 C6 q_NoNumber x_NoNumber;have H9:sR B:=aeI G9 b9 k9 n9;have C22:=E7 Xg m h22 C8 H9;have C23:=Gw Xg m h23 C22 C14;have M28000:=Mw Xg m hcFrame hmFrame_init C20 C7 C16 C14 C23 gt_EDGES;have M28001:=Qv Xg m hcFrame hmFrame_steepness (Mr (B:=B) hcFrame);have C29:=Kw Xg m h29;have C15:=abt Xg m h15;have C30:=Ov Xg m h30;have C12:=K6 Xg m h12 H9;have C31:=Ux Xg m h31;have C32:=Ex Xg m h32 C31;have C33:=Qw Xg m h33 C30 C15 C16 H9 C12 C32;have C34:=Bw Xg m h34 C29 C15 C33 (Mr (B:=B) hcFrame) gt_EDGES;have C10:=Z6 Xg m h10 H9;have C11:=P0 Xg m h11 C10;have C24:=Yy Xg m h24 C11;have C35:=Fx Xg m h35 M28000 M28001 C34 C24 gt_STEEPEST;have C53:=Wx Xg m h53 C37;have C54:=C0 Xg m h54;have C55:=Py Xg m h55 C54;have C56:=Lw Xg m h56 C55;exact(abx Xg m F60 C38 C59 C37 C57 C58 C51 C52 C35 C53 C56).imp λvs H Q E h=>Y9 F5 h
theorem walk{l:rq}{q:Program}{loose:List Str}{XP:(Str->FO)->Heap->Prop}{YP:ar->Heap->Prop}{d:DefRec}{K:re->ah}(hn:l.most=some 63)(hdf:d.params.defaults=[])
  (hY:∀(w:ar)(h:Heap),YP w h->(K w.params).In h)
  (F:∀(w:ar)(mg:Str->FO)(fa:Addr)(h:Heap),(K w.params).In h->h.Ns mainGlobals mg->mg d.name=some (.ref fa)->
   ∃fd:de,(∀(s:aa)(u:Value),rm s fd ⟨[u],[]⟩ [("_law_script",u)])/\∀base:Heap,(K w.params).In base->base.Ns mainGlobals mg->dC l.prog w (K w.params) mg base dR 9 fa fd ["_law_script"] (xX (K w.params))):
  PySem.W.WalkO q loose XP YP l.row.toRowW d [] (λf vs=>wu f vs):=
 L2.walk_of (n:=63) (k:=9) (x:="_law_script") (CX:=λ_=>dR) (sp:=λw=>xX (K w.params)) hn (by decide) hdf ⟨rfl,by decide,by decide⟩ hY F (λ_ _ a ns hl _ hS=>⟨a,ns,rfl,hS,hl,λ_=>rfl⟩) λ_ _ _ _ _ z=>z
end
end Sc
open PySem PySem.W PyProof.Rows
set_option maxRecDepth 100000 in
set_option maxHeartbeats 0 in
theorem PySem.Challenge.cw_scissorhall_k69_known_turns_holds : PySem.Challenge.rw_scissorhall_k69_known_turns.Holds := by
 w_on; refine holds_law Sc.wsaid λsaid=>?_
 refine holds_open (q:=Sc.VW) (loose:=[dj "fraction"]) (Xt:=λs=>xlAt Sc.VW [] s && recOk (yo (yp (yq tx))) s) (XP:=XL Sc.VW []) (Yf:=ym (kHook Sc.KK Sc.KA Sc.KE)) (Ya:=yn (kHook Sc.KK Sc.KA Sc.KE)) (YP:=Hook.says (kHook Sc.KK Sc.KA Sc.KE)) (N:=4886) Sc.left (Hook.of (kHook Sc.KK Sc.KA Sc.KE)) (Hook.keeps (kHook Sc.KK Sc.KA Sc.KE)) (λs e=>xl_of s (p6.mp e).1) XL.keeps (by rfl) (by rfl) (by rfl) (λs e=>recFacts_of (p6.mp e).2) (by rfl) (by first | assumption | decide +kernel) (by decide +kernel) ⟨rfl,rfl,rfl,rfl,rfl,by decide +kernel⟩ ?hw ?hc
 case hw=>w_witness2
 k_fill
 refine Sc.walk (l:=tx) rfl rfl (λw h Y=>PySem.W.kIn_of Y) ?F
 case F =>
  intro w mg fa h KX G hmg;refine' Sc.all_mk KX G hmg Sc.hF_k Sc.hF_k Sc.hF_k Sc.hF_k Sc.hF_k Sc.hF_k Sc.hF_k Sc.hF_k Sc.hF_k Sc.hF_k Sc.hF_k Sc.hF_k Sc.hF_k Sc.hF_k Sc.hF_k Sc.hF_k Sc.hF_k Sc.hF_k Sc.hF_k Sc.hF_k Sc.hF_k Sc.hF_k Sc.hF_k Sc.hF_k Sc.hF_k Sc.hF_k Sc.hF_k Sc.hF_k Sc.hF_k Sc.hF_k Sc.hF_k Sc.hF_k Sc.hF_k Sc.hF_k Sc.hF_k Sc.hF_k Sc.hF_k Sc.hF_k Sc.hF_k Sc.hF_k Sc.hF_k Sc.hF_k Sc.hF_k Sc.hF_k Sc.hC_Frame Sc.hM_k Sc.hM_k ?a9 ?l9 ?c9 ?k9 ?t9 ?a60 ?l60 ?c60 ?k60 ?z1 ?z2 ?z3 ?z4 ?z5 ?z6 ?z7 ?z8 ?z9 ?z10 ?z11 ?z12 ?z13 ?z14 ?z15 ?y1 ?x1 ?v1 ?v2 ?v3 ?v4 ?vl1 ?vl2 ?vl3 ?vl4 ?vl5 ?vl6 ?vl7 ?vl8 ?vl9 ?vl10 ?vl11 ?vl12 ?vl13 ?vl14 ?vl15 ?vl16
  (case a9 | l9 | c9 | k9 | t9 | a60 | l60 | c60 | k60 | z1 | z2 | z3 | z4 | z5 | z6 | z7 | z8 | z9 | z10 | z11 | z12 | z13 | z14 | z15 | y1=>k_is)
  (case x1=>k_exc)
  (case v1 | v2 | v3 | v4 | vl1 | vl2 | vl3 | vl4 | vl5 | vl6 | vl7 | vl8 | vl9 | vl10 | vl11 | vl12 | vl13 | vl14 | vl15 | vl16=>k_is)
#print axioms PySem.Challenge.cw_scissorhall_k69_known_turns_holds
